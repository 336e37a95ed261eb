import PyProof.Rows.All
import Wide.All
import OpenK.AllK
import Wide.FinOn
import PySem.Challenge.RW_tiewebs_k04_tie_webs
import Lean
import PyProof.EqAt
import PyProof.EqKinds
import PyProof.TupleCall
import PyProof.SetScanFacts
import PyProof.EnumMake
import PyProof.Draws
import PyProof.ExcInit
import PyProof.ExcClass3
import PyProof.InstStore
import KE.KUnpack
import PyProof.P3In
set_option Elab.async false
set_option compiler.extract_closed false
set_option linter.all false
set_option maxRecDepth 100000
set_option maxHeartbeats 8000000
noncomputable section
open Option renaming some->ar,map_some->D',bind_some->O'
open PySem renaming Value->aC,Shared->b_,Addr->dt,starEach->eb,wpAny->ee,Program->e_,model->fc,World->f',Heap->gd,mainGlobals->gg,FuncData->g_,foldedSetIterable->hY,eval->h9,Around->h_,compareOp->j_,cellsFrom->j',importedModules->kr,bootBuiltins->kS,IsTupleKey->kT,swapsWith->k7,SetTable->k',intKind->la,behindInMarks->lx,rawInt->l4,attributeBase->mh,NameKind->mu,backTo->nC,Stmt->n3,PyData->n_,assignEach->o_,IsPair->p7,codeAny->r7,binaryOp->r_,builtinsNs->w7,sliceBounds->w_,excClassObj->x',holding->y3,cLine->y8,callerA->y9,ExcBaseFacts->y',pyNext->z4,letOwnedTupleGo->EA,noteFrame->GB,firstArgMember->I0,standAt->K',BindsTo->LI,ofAClassStatement->L0,treeTable->Pi,Arguments->PU,codeAmong->PV,checkBuiltinCall->PY,IsZip->P0,assign->P1,pyIter->P2,Params->P6,GenState->P7,again->P_,OsState->Qe,PassesOwn->Qh,leaving->Qi,seq_tuple_add->Ql,eval_ListComp->Qm,IsPart->Qp,isInstance->Qq,bindArgs->Qw,concat_meets->Qy,getItem->Qz,compTurn->QD,lastMarks->QK,seqIndex?->QL,isSubtype->QN,pickOrder->QO,seqIndex_of->QS,hashByValue->QT,field->QV,wpAny_letGo->QW,Keyword->QY,OwnTail->QZ,sysModules->Q0,wpAny_Name->Q3,bindL->Q4,bindC->Q5,typeIs_int->Q6,closureFor->Q8,setsByText->Re,ZipApart->Rf,defaultsOf->Rg,TriplesOk->Rp,seqItems?->Rr,onTheHeap->Ru,Result->Rv,Model->RB,compPost->RC,entryFor->RG,slotArgs->RH,DefRec->RL,argsOk->RO,newExc->RP,setItem->RQ,getAttr->RS,newList->RW,callAny->RX,collect->RY
open Pure renaming pure->a_
open Bool renaming true->c_,false->dV,false_eq_true->fg,and_eq_true->j3,not_true->u0,or_eq_true->E3,not_eq_true'->L_,true_and->M',and_false->P5,and_self->Qo
open PySem.W renaming Frag->d_,tabIn->l6,nsIn->p4,kitOne->q_,kas_place->t_,kas_asc->u3,kas_desc->u5,kas_rev->u_,kas_sort->wd,kla_obj->x_,openSeen->y1,openGood->y2,tabObj->y_,findIn->A2,InstAt->C_,keepIn->D_,boot_heap->F_,fnOf->G2,findIn->G3,behindTheImports->Pd,kmHook->P8,CodeHd->Qc,kas_bin->Qj,lookIn->Qt,codeIn->Qx,kas_descPart->QC,looks_findIn->QG,clsIn->QI,kas_count->QM,methodObj->QQ,kitAny->Q9,kla_fn->Rh,instObj->Rk,OpenLaw->Rn,kas_tail3->Ro,mroIn->Rt,findObj->Rx,excIn->Ry,exmOne->RI,notCls->RJ,noTabs->RK,KasT->RM,OpenLaw->RT,WalkO->RU,clsIn->RZ,Frag->R1
open List renaming replicate->eo,range->ey,not_mem_nil->f_,mem_cons->gc,range'->k6,lookup_cons->k_,getD_eq_getElem?_getD->ly,size_toArray->mv,length_cons->p_,mem_append->wm,all_eq_true->z3,length_nil->E1,getD_cons_zero->Fn,toArray->F0,map_cons->M_,forIn_cons->P4,drop_zero->Qa,any_cons->Qk,all_cons->Qn,map_nil->Qs,length->QR,foldl->Q7,getD->Rq
open PySem.Value renaming ref->er,none->i0,int->oo,bool->ri,type->u4,builtin->B_,str->Pq,float->P9
open PySem.SetTable renaming insertAt->fb,below->wh,fresh->G_,turns->H_,below->Qb,runEnd->Ra,advance->Rw,bits->RD,turns->RE
open False renaming elim->hO
open PySem.NameKind renaming free->i1,cell->pe
open PySem.PyData renaming eqv->i2,list->oD,eqvAll->p8,depthAll->sb,int->J_
open PySem.Str renaming ofString->i_
open PySem.Builtin.SmallTypes renaming nextOf->j1,ownedTupleIsFree->k8
open Ne renaming symm->j7
open PySem.Obj renaming mapSeq->l_,mapFields->A',putSet->P3
open PyProof.Rows renaming IntsAre->m3,step_dedup->m_,seqObj->v_,AllBare->A_,envOfC->EW,firstMet->I_,spliced_more->QH,IsTup->Rj,bubble->RN,Call_->R0
open PySem.Builtin.Slice renaming slicePlaces->n7,sliceAdjust->vr
open True renaming intro->pa
open PySem.Builtin.Tuple renaming tupleExact->pb
open PySem.Builtin.List renaming listTooLong->pd
open PySem.Heap renaming SameBut->rn,MadeExcOf->Qd,IsTuple->QF,ExtBut->QU
open Array renaming replicate->s_,mk->B',length_toList->E_,getD->Rc
open Or renaming inr->u2,inl->z_
open ForInStep renaming yield->E2
open List.Perm renaming cons->G4
open Nat renaming add_sub_cancel->J',mul_comm->QA,sub_self->QJ
open Int renaming toNat_natCast->K_
open PySem.SetTable.layClean renaming free->N_
open PySem.Shared renaming TypeIs->O_,heap->QX
open Sum renaming inl->Qf,inr->Qg
open PySem.Around renaming under->Qu
open PySem.Code renaming isFrame->Qv
open PySem.W.KasT renaming ret->QB
open PySem.pickOrder renaming go->QE
open And renaming intro->QP
open PySem.Walks renaming list->Q_
open PySem.SetTable.below renaming go->Rb
open PySem.Within renaming nil->Ri
open LawfulBEq renaming eq_of_beq->Rl
open PyProof.Rows.IsTup renaming new->Rm
open PySem.W.Hook renaming obs->Rz,val->RA
open PySem.SetTable.probe renaming go->RF
open ForIn renaming forIn->RV
abbrev LA:=@PySem.wpAny_bind
abbrev LB:=@PySem.Heap.get?_push_of_some
abbrev LC:=@List.length_map
abbrev LD:=@PySem.wpAny_pure
abbrev LF:=@Nat.le_refl
abbrev LG:=@List.getElem?_eq_getElem
abbrev LH:=@List.getElem?_eq_some_iff
abbrev LK:=@PySem.Heap.lt_size
abbrev LL:=@List.length_append
abbrev LM:=@PySem.Heap.get?_push_size
abbrev LN:=@List.mem_cons_of_mem
abbrev LP:=@Array.getElem?_eq_getElem
abbrev LQ:=@Nat.ne_of_lt
abbrev LR:=@mv
abbrev LS:=@Nat.le_trans
abbrev LU:=@List.mem_append_right
abbrev LV:=@Nat.lt_of_lt_of_le
abbrev LW:=@ly
abbrev LX:=@List.mem_cons_self
abbrev LY:=@gc
abbrev LZ:=@M_
abbrev L3:=@List.getElem?_map
abbrev L4:=@PySem.W.mg_of
abbrev L5:=@Option.some.inj
abbrev L6:=@Nat.zero_le
abbrev L7:=@decide_eq_true
abbrev L8:=@Array.getElem?_eq_some_iff
abbrev L9:=@List.append_assoc
abbrev Ma:=@List.mem_range
abbrev Mb:=@PySem.wpAny_mono
abbrev Mc:=@List.length_range
abbrev Md:=@PySem.W.mg_none_of
abbrev Me:=@Array.getElem?_toList
abbrev Mf:=@List.mem_of_getElem?
abbrev Mg:=@p_
abbrev Mh:=@List.getElem?_set_self
abbrev Mi:=@List.map_map
abbrev Mj:=@k_
abbrev Ml:=@z3
abbrev Mm:=@List.getElem?_append_left
abbrev Mn:=@decide_eq_false
abbrev Mo:=@Array.getD_eq_getD_getElem?
abbrev Mp:=@List.mem_map
abbrev Mq:=@PySem.Heap.get?_update_other
abbrev Mr:=@List.replicate_succ
abbrev Ms:=@congrFun
abbrev Mt:=@List.append_nil
abbrev Mu:=@List.length_filter_le
abbrev Mv:=@K_
abbrev Mw:=@PySem.wpAny_holding
abbrev Mx:=@PySem.wpAny_newObj_type
abbrev My:=@List.getElem?_eq_none
abbrev Mz:=@List.filterMap_cons
abbrev MA:=@Nat.lt_succ_of_lt
abbrev MB:=@List.mem_singleton
abbrev MC:=@PySem.Heap.get?_update_self
abbrev MD:=@PySem.W.kia_one
abbrev ME:=@PySem.wpAny_call_entry
abbrev MF:=@List.map_append
abbrev MG:=@PySem.Heap.size_push
abbrev MH:=@PySem.Heap.get?_none_of_le
abbrev MI:=@List.getElem?_set_ne
abbrev MJ:=@PySem.wpAny_field
abbrev MK:=@List.pairwise_cons
abbrev ML:=@PySem.sizeLine_eq
abbrev MM:=@List.nodup_cons
abbrev MN:=@PySem.wpAny_standAt
abbrev MO:=@of_decide_eq_true
abbrev MP:=@Bool.false_ne_true
abbrev MQ:=@wm
abbrev MR:=@PySem.wpAny_truthy_bool
abbrev MS:=@Option.isSome_iff_exists
abbrev MT:=@PyProof.Rows.callWith_type1
abbrev MU:=@PySem.W.kia_tup
abbrev MV:=@List.mem_append_left
abbrev MW:=@j3
abbrev MX:=@List.getElem_mem
abbrev MY:=@Array.getElem?_eq_none
abbrev MZ:=@PyProof.Rows.slot_tuple_getitem
abbrev M0:=@PySem.wpAny_setState_of
abbrev M1:=@PySem.Heap.SameBut.update
abbrev M3:=@decide_eq_true_eq
abbrev M5:=@PySem.wpAny_seqItems
abbrev M6:=@Nat.ne_of_gt
abbrev M7:=@PySem.codeAny_mono
abbrev M8:=@List.mem_filterMap
abbrev M9:=@PySem.wpAny_pyIter_tuple
abbrev Na:=@PySem.Obj.data_mapFields
abbrev Nb:=@Nat.lt_irrefl
abbrev Nd:=@Nat.le_of_lt
abbrev Nf:=@List.flatten_cons
abbrev Ng:=@PySem.PassesOwn.never
abbrev Nh:=@PySem.F.slot_tuple_iterator_next
abbrev Ni:=@PySem.F.excBase_ValueError
abbrev Nj:=@PySem.wpAny_Call_Name_kw
abbrev Nk:=@Nat.lt_of_le_of_lt
abbrev Nl:=@Int.emod_lt_of_pos
abbrev Nm:=@List.getElem?_toArray
abbrev Nn:=@PySem.wpAny_setField_rec
abbrev Np:=@PySem.Around.under_plainId
abbrev Nq:=@PySem.wpAny_passesOwn
abbrev Nr:=@PySem.codeAny_builtin
abbrev Nt:=@PySem.AutoSeq1.wpAny_loadPart'
abbrev Nu:=@PySem.mem_of_lookup
abbrev Nv:=@E_
abbrev Nw:=@List.mem_map_of_mem
abbrev Nx:=@PySem.Heap.get?_update_ne
abbrev Ny:=@List.filter_cons_of_pos
abbrev Nz:=@List.filter_cons_of_neg
abbrev NA:=@Nat.lt_succ_self
abbrev NB:=@Nat.le_add_right
abbrev NC:=@PySem.wpAny_askSetting
abbrev ND:=@PySem.wpAny_isInstance
abbrev NF:=@O'
abbrev NG:=@PySem.wpAny_setField
abbrev NH:=@List.range_succ_eq_map
abbrev NI:=@PySem.Heap.size_after_update
abbrev NJ:=@List.length_range'
abbrev NK:=@PySem.wpAny_execs_nil
abbrev NL:=@Nat.succ_mul
abbrev NM:=@Int.emod_nonneg
abbrev NN:=@List.mem_iff_getElem?
abbrev NO:=@PySem.Obj.isFreed_of_fields
abbrev NP:=@List.set_append_right
abbrev NQ:=@PySem.wpAny_call
abbrev NR:=@PySem.wpAny_attempt
abbrev NS:=@List.ext_getElem?
abbrev NT:=@PySem.wpAny_loadPart_at
abbrev NU:=@List.flatMap_cons
abbrev NV:=@List.getElem?_append_right
abbrev NW:=@PySem.Calls.evalArgs_plain
abbrev NX:=@PySem.codeAny_call_builtin
abbrev NY:=@Bool.false_and
abbrev NZ:=@List.drop_eq_getElem_cons
abbrev N0:=@List.getElem?_zip_eq_some
abbrev N1:=@PySem.wpAny_execs_cons
abbrev N4:=@List.length_take
abbrev N5:=@Nat.succ_le_succ
abbrev N6:=@List.countP_cons
abbrev N7:=@Bool.not_eq_true
abbrev N8:=@Nat.le_succ
abbrev N9:=@List.getElem?_range
abbrev Oa:=@List.Perm.nodup_iff
abbrev Ob:=@PySem.F.args_tuple_add_2
abbrev Oc:=@PySem.wpAny_typeOf
abbrev Od:=@Qs
abbrev Oe:=@Nat.le_of_eq
abbrev Of:=@Int.zero_add
abbrev Og:=@List.of_mem_zip
abbrev Oh:=@PySem.F.entry_tuple_add
abbrev Oi:=@List.length_set
abbrev Oj:=@Array.Perm.refl
abbrev Ol:=@List.getElem?_drop
abbrev Om:=@PyProof.Rows.F.plain_set_update_loop
abbrev On:=@PySem.codeAny_of_tree
abbrev Oo:=@PySem.Code.quiet_builtin
abbrev Oq:=@List.getElem?_take
abbrev Os:=@Int.eq_ofNat_of_zero_le
abbrev Ot:=@PySem.W.cellsFrom_some
abbrev Ou:=@PySem.F.slot_tuple_add
abbrev Ov:=@List.drop_eq_nil_of_le
abbrev Ow:=@PySem.wpAny_pyIter_list
abbrev Ox:=@PySem.W.kitx_list
abbrev Oy:=@PySem.W.kitx_dict
abbrev Oz:=@PyProof.Rows.intsAre_of
abbrev OA:=@Nat.le_of_succ_le
abbrev OB:=@PySem.wpAny_rule
abbrev OC:=@List.mem_range'_1
abbrev OD:=@Prod.ext
abbrev OE:=@congrArg
abbrev OF:=@P5
abbrev OG:=@PySem.isSubtype_type
abbrev OH:=@PySem.isSubtype_stop
abbrev OI:=@List.length_replicate
abbrev OJ:=@List.length_singleton
abbrev OK:=@PySem.builtinLookup_eq_fast
abbrev OL:=@PySem.wpAny_forIn_list
abbrev OM:=@PySem.wpAny_pyIter_zip
abbrev ON:=@Array.mem_toList_iff
abbrev OO:=@PySem.wpAny_updateSeq_pair
abbrev OP:=@Bool.and_eq_true_iff
abbrev OQ:=@M'
abbrev OR:=@PySem.F.args_tuple_iterator_next_1
abbrev OS:=@List.cons.inj
abbrev OT:=@List.countP_eq_length_filter
abbrev OU:=@PySem.wpAny_setEntries_of
abbrev OV:=@PySem.F.entry_tuple_iterator_next
abbrev OW:=@PySem.F.slot_zip_next
abbrev OX:=@beq_false_of_ne
abbrev OY:=@Bool.eq_iff_iff
abbrev OZ:=@List.map_congr_left
abbrev O0:=@PySem.Calls.Name_function_global
abbrev O1:=@List.length_eraseIdx_of_lt
abbrev O2:=@Array.find?_toList
abbrev O3:=@PySem.W.callWith_K
abbrev O4:=@List.zip_cons_cons
abbrev O5:=@Nat.lt_trans
abbrev O6:=@Classical.byContradiction
abbrev O7:=@List.pairwise_iff_getElem
abbrev O8:=@PySem.wpAny_letOwnedTupleGo_zip
abbrev O9:=@PySem.W.kitx_none
abbrev Pa:=@PySem.Calls.spliced_nil
abbrev Pb:=@List.getElem?_take_of_lt
abbrev Pc:=@Nat.not_lt
abbrev Pe:=@PySem.F.slot_list_append
abbrev Pf:=@PySem.F.type_list_append
abbrev Pg:=@Nat.mod_lt
abbrev Ph:=@Nat.lt_trichotomy
abbrev Pj:=@Bool.eq_false_iff
abbrev Pk:=@Array.getElem?_replicate
abbrev Pl:=@PySem.Obj.cls_mapFields
abbrev Pm:=@PySem.wpAny_pyIter_enum
abbrev Pn:=@PySem.wpAny_Call_ofName
abbrev Po:=@List.range'_eq_map_range
abbrev Pp:=@PySem.F.plainAttrs_list
abbrev Pr:=@PySem.plainId_quiet
abbrev Pu:=@PySem.wpAny_onRaise
abbrev Pw:=@List.pairwise_singleton
abbrev Px:=@PySem.wpAny_eqBool_int
abbrev Py:=@PySem.noFill_tuple_add
abbrev Pz:=@List.length_drop
abbrev PB:=@Nat.le_of_not_lt
abbrev PC:=@Nat.succ_ne_self
abbrev PD:=@Nat.not_lt_zero
abbrev PF:=@PySem.pushCells_keeps
abbrev PH:=@List.all_map
abbrev PJ:=@List.range_succ
abbrev PK:=@PySem.typeLookup_type
abbrev PL:=@List.filter_map
abbrev PM:=@PySem.call_meets
abbrev PN:=@PySem.wpAny_Expr_any
abbrev PP:=@PySem.wpAny_runValue
abbrev PQ:=@PySem.wpAny_of_eq
abbrev PR:=@PySem.Within.cons
abbrev PX:=@Qk
abbrev PZ:=@beq_iff_eq
namespace KH
open PySem PySem.W PySem.Spec PyProof.Rows
def tp(i:Nat):Stmt:=PySem.Challenge.pw_tiewebs_k04_tie_webs.main.body.getD i (.Pass ⟨0,0,0,0⟩)
def iC:n3->n3
 | .ClassDef _ _ _ (b::_) .. =>b
 |s=>s
def dA(s:n3):Arguments:=match s with
 | .FunctionDef _ a _ _ _ _ _ _ _ _=>a
 |_=>{posonlyargs:=[],args:=[],vararg:=none,kwonlyargs:=[],kw_defaults:=[],kwarg:=none,defaults:=[]}
def dB(s:n3):List Stmt:=match s with
 | .FunctionDef _ _ b _ _ _ _ _ _ _=>b
 |_=>[]
def dS(s:n3):Scope:=match s with
 | .FunctionDef _ _ _ _ _ _ sc _ _ _=>sc
 |_=>{kind:=.function,names:=[],isGenerator:=dV,isCoroutine:=dV}
def zs(x:String)(t:Nat):Value:=.str (i_ x) t
def ze(P:P6)(x:String)(t:Nat)(v:aC):DictEntry:=⟨PyData.keyHash P (i_ x),zs x t,v⟩
def zt(xs:Array aC):Obj:=⟨.type "tuple",none,.seq xs, #[]⟩
def zc(n q:String)(a:Nat)(l ac p5 p6 fl:Int)(r8:aC)(p10:Int)(r11 r13 r14 r15:aC)(p16:Int)(t:Nat):Obj:=⟨.type "code",none,.fields #[zs n a,zs q (a+1),zs "/claim/cut.py" (a+2),.int l 0,.int ac 0,.int p5 0,.int p6 0,.int fl 0,r8,.bool c_,.int p10 0,r11,.none,r13,r14,r15,.int p16 0,.int l 0,zs "/claim/cut.py" t], #[]⟩
def zf(n q:String)(st:n3)(kV dc pm:aC)(an:Option dt)(cd ct:aC):Data:=.func (G2 (i_ n) (i_ q) (dA st) (dB st) (dS st) .none kV dc pm an cd ct)
def zg(n q:String)(st:n3):Obj:=⟨.none,none,.func {name:=i_ n,qualname:=i_ q,params:=dA st,body:=.stmts (dB st),scope:=dS st,globals:=0,closure:=[],defaults:=.none,kwdefaults:=.none}, #[]⟩
def z0:Obj:=⟨.none,none,.fields #[],#[]⟩
def zp:Obj:=⟨.type "builtin_function_or_method",none,.fields #[.builtin "type.__prepare__",.type "type"],#[]⟩
def zu(a:Nat):Obj:=⟨.type "super",none,.fields #[.ref a,.ref a,.ref a],#[]⟩
def zi(a:Nat):Obj:=⟨.type "builtin_function_or_method",none,.fields #[.builtin "object.__init_subclass__",.ref a],#[]⟩
def zr(a b:Nat)(v:aC):Obj:=⟨.type "frame",none,.plain,#[ar (.ref a),ar (.ref 3),ar (.ref b),none,ar v,none,ar (.ref 0)]⟩
def zk(n:String)(a b c:Nat)(l:Int)(r:Nat)(m:Int)(s:Nat)(x y:Int)(t:Nat):Obj:=⟨.type "code",none,.fields #[zs n a,zs n b,zs "/claim/cut.py" c,.int l 0,.int 0 0,.int 0 0,.int 0 0,.int 0 0,.ref r,.bool dV,.int m 0,.ref s,.none,.none,.none,.none,.int x 0,.int y 0,zs "/claim/cut.py" t],#[]⟩
def zE(n:String)(i x a:Nat)(l ac fl:Int)(md:String)(m t:Nat):List Obj:=[zt #[],z0,zg n n (tp i),zc n n a l ac 0 0 fl (.ref x) 181 (.ref (x+1)) .none .none (.ref (x+2)) t (t+1),⟨.type "function",none,zf n n (tp i) .none .none (zs md m) none (.ref (x+3)) .none,#[]⟩]
def zD(n:String)(i x a:Nat)(l ac fl:Int)(v:Array aC)(md:String)(m t:Nat):List Obj:=[zt #[],z0,zt v,zt #[],zg n n (tp i),zc n n a l ac 0 0 fl (.ref x) 181 (.ref (x+1)) (.ref (x+2)) (.ref (x+3)) (.ref (x+4)) t (t+1),⟨.type "function",none,zf n n (tp i) .none .none (zs md m) none (.ref (x+5)) .none,#[]⟩]
def zC(P:P6)(n:String)(a t l:Nat):List Obj:=[zp,⟨(.type "dict"),none,(.dict #[ze P "__module__" (t+5) (zs "tiewebs.errors" 187),ze P "__qualname__" (t+7) (zs n (t+6)),ze P "__firstlineno__" (t+9) (.int l (t+8)),ze P "__static_attributes__" (t+10) (.ref (a+6))] 4),#[]⟩,zt #[],z0,zk n t (t+1) (t+2) l (a+2) 181 (a+3) (t+3) l (t+4),zr (a+4) (a+1) (zs "tiewebs.errors" 187),zt #[],⟨(.type "dict"),none,(.dict #[ze P "__module__" (t+5) (zs "tiewebs.errors" 187),ze P "__firstlineno__" (t+9) (.int l (t+8)),ze P "__static_attributes__" (t+10) (.ref (a+6)),ze P "__doc__" (t+11) .none] 2),#[]⟩,⟨(.type "type"),none,(.cls ⟨(i_ n),[(.ref 24)],[(.ref (a+8)),(.ref 24),(.type "ValueError"),(.type "Exception"),(.type "BaseException"),(.type "object")],(a+7),(i_ n),c_,[],[],dV,none,dV⟩),#[ar (.ref (a-1)),none,ar (zs n (t-2)),ar (zs n (t+6)),ar (.builtin "ValueError.__new__"),ar (.bool c_)]⟩,zu (a+8),zi (a+8),zt #[(.ref 24)]]
def ml:String:="law_tiewebs_k04_tie_webs"
def L1(P:P6):List Obj:=[boot_o_0 P,boot_o_1 P,boot_o_2 P,⟨(.type "dict"),none,(.dict #[ze P "__name__" 165 (zs ml 536),ze P "__doc__" 166 .none,ze P "__package__" 167 .none,ze P "__loader__" 168 (.builtin "__main__.__loader__#opaque"),ze P "__spec__" 169 .none,ze P "__annotations__" 170 (.ref 6),ze P "__builtins__" 171 (.ref 4),ze P "__file__" 173 (zs "/claim/cut.py" 172),ze P "__cached__" 174 .none,ze P "WebError" 206 (.ref 24),ze P "NoWeb" 222 (.ref 37),ze P "NoPlace" 238 (.ref 49),ze P "NoPlaces" 254 (.ref 61),ze P "NoMap" 270 (.ref 73),ze P "NoSharing" 286 (.ref 85),ze P "NoRoot" 302 (.ref 97),ze P "NoNumber" 318 (.ref 109),ze P "NotJoined" 334 (.ref 121),ze P "NoTie" 350 (.ref 133),ze P "NoText" 366 (.ref 145),ze P "NoLine" 382 (.ref 157),ze P "NoDeed" 398 (.ref 169),ze P "TooGreat" 425 (.ref 188),ze P "MOST_PLACES" 429 (.int 14 428),ze P "is_whole" 436 (.ref 197),ze P "is_pair" 443 (.ref 204),ze P "is_place" 451 (.ref 211),ze P "is_tie" 461 (.ref 218),ze P "is_rising" 467 (.ref 223),ze P "is_web" 473 (.ref 228),ze P "need_web" 480 (.ref 235),ze P "need_place" 488 (.ref 242),ze P "pairs_of" 494 (.ref 247),ze P "degrees" 500 (.ref 252),ze P "MOST_TIES" 504 (.int 7 503),ze P "ties_meet" 510 (.ref 257),ze P "need_few_ties" 517 (.ref 264),ze P "tie_web" 523 (.ref 269),ze P "star_of" 529 (.ref 274),ze P "ties_ahead" 535 (.ref 279),ze P "_law_cell_at" 545 (.ref 286),ze P "_law_state" 554 (.ref 293),ze P "_law_take" 564 (.ref 300),ze P "_law_pairs" 570 (.ref 305),ze P "_law_mixed_row" 580 (.ref 312),ze P "_law_web" 586 (.ref 317),ze P "_law_great_web" 598 (.ref 324),ze P "_law_made" 604 (.ref 329),ze P "_law_bad_web" 612 (.ref 336),ze P "_law_same" 618 (.ref 341),ze P "_law_refused" 624 (.ref 346),ze P "law" 630 (.ref 351)] 52),#[]⟩,boot_o_4 P,boot_o_5 P,boot_o_6 P,boot_o_7 P,boot_o_8 P,boot_o_9 P,boot_o_10 P,zt #[],⟨.none,none,(.fields #[(.int 2 0),(.int 0 0),(.ref 20),(.int 4 0),(.int 0 0),(.ref 33),(.int 6 0),(.int 0 0),(.ref 45),(.int 8 0),(.int 0 0),(.ref 57),(.int 10 0),(.int 0 0),(.ref 69),(.int 12 0),(.int 0 0),(.ref 81),(.int 14 0),(.int 0 0),(.ref 93),(.int 16 0),(.int 0 0),(.ref 105),(.int 18 0),(.int 0 0),(.ref 117),(.int 20 0),(.int 0 0),(.ref 129),(.int 22 0),(.int 0 0),(.ref 141),(.int 24 0),(.int 0 0),(.ref 153),(.int 26 0),(.int 0 0),(.ref 165),(.int 28 0),(.int 0 0),(.ref 177),(.int 35 0),(.int 0 0),(.ref 196),(.int 37 0),(.int 0 0),(.ref 203),(.int 39 0),(.int 0 0),(.ref 210),(.int 41 0),(.int 0 0),(.ref 217),(.int 46 0),(.int 0 0),(.ref 222),(.int 48 0),(.int 0 0),(.ref 227),(.int 55 0),(.int 0 0),(.ref 234),(.int 58 0),(.int 0 0),(.ref 241),(.int 62 0),(.int 0 0),(.ref 246),(.int 64 0),(.int 0 0),(.ref 251),(.int 70 0),(.int 0 0),(.ref 256),(.int 72 0),(.int 0 0),(.ref 263),(.int 76 0),(.int 0 0),(.ref 268),(.int 81 0),(.int 0 0),(.ref 273),(.int 84 0),(.int 0 0),(.ref 278),(.int 87 0),(.int 0 0),(.ref 285),(.int 91 0),(.int 0 0),(.ref 292),(.int 96 0),(.int 0 0),(.ref 299),(.int 105 0),(.int 0 0),(.ref 304),(.int 110 0),(.int 0 0),(.ref 311),(.int 116 0),(.int 0 0),(.ref 316),(.int 130 0),(.int 0 0),(.ref 323),(.int 138 0),(.int 0 0),(.ref 328),(.int 144 0),(.int 0 0),(.ref 335),(.int 149 0),(.int 0 0),(.ref 340),(.int 157 0),(.int 0 0),(.ref 345),(.int 172 0),(.int 0 0),(.ref 350)]),#[]⟩,⟨(.type "code"),none,(.fields #[(zs "<module>" 182),(zs "<module>" 183),(zs "/claim/cut.py" 184),(.int 1 0),(.int 0 0),(.int 0 0),(.int 0 0),(.int 0 0),(.ref 11),(.bool dV),(.int 181 0),(.ref 12),.none,.none,.none,.none,(.int 185 0),(.int 1 0),(zs "/claim/cut.py" 186)]),#[]⟩,zr 13 3 (zs "__main__" 164),zt #[(.type "ValueError")],zp,⟨(.type "dict"),none,(.dict #[ze P "__module__" 196 (zs "tiewebs.errors" 187),ze P "__qualname__" 198 (zs "WebError" 197),ze P "__firstlineno__" 200 (.int 2 199),ze P "__static_attributes__" 201 (.ref 22)] 4),#[]⟩,zt #[],z0,zk "WebError" 191 192 193 2 18 181 19 194 2 195,zr 20 17 (zs "tiewebs.errors" 187),zt #[],⟨(.type "dict"),none,(.dict #[ze P "__module__" 196 (zs "tiewebs.errors" 187),ze P "__firstlineno__" 200 (.int 2 199),ze P "__static_attributes__" 201 (.ref 22),ze P "__weakref__" 203 (.ref 25),ze P "__doc__" 204 .none] 3),#[]⟩,⟨(.type "type"),none,(.cls ⟨(i_ "WebError"),[(.type "ValueError")],[(.ref 24),(.type "ValueError"),(.type "Exception"),(.type "BaseException"),(.type "object")],23,(i_ "WebError"),c_,[],[(.ref 37),(.ref 49),(.ref 61),(.ref 73),(.ref 85),(.ref 97),(.ref 109),(.ref 121),(.ref 133),(.ref 145),(.ref 157),(.ref 169),(.ref 188)],dV,none,dV⟩),#[ar (.ref 15),none,ar (zs "WebError" 189),ar (zs "WebError" 197),ar (.builtin "ValueError.__new__"),ar (.bool c_)]⟩,⟨(.type "getset_descriptor"),none,(.fields #[(zs "__weakref__" 202),(.ref 24),(.builtin "ExceptionGroup.__weakref__"),.none]),#[]⟩,zu 24,zi 24,zt #[(.ref 24)]]++zC P "NoWeb" 29 209 4++zC P "NoPlace" 41 225 6++zC P "NoPlaces" 53 241 8++zC P "NoMap" 65 257 10++zC P "NoSharing" 77 273 12++zC P "NoRoot" 89 289 14++zC P "NoNumber" 101 305 16++zC P "NotJoined" 113 321 18++zC P "NoTie" 125 337 20++zC P "NoText" 137 353 22++zC P "NoLine" 149 369 24++zC P "NoDeed" 161 385 26++[zp,⟨(.type "dict"),none,(.dict #[ze P "__module__" 406 (zs "tiewebs.errors" 187),ze P "__qualname__" 408 (zs "TooGreat" 407),ze P "__firstlineno__" 410 (.int 28 409),ze P "__init__" 419 (.ref 185),ze P "__static_attributes__" 422 (.ref 186)] 5),#[]⟩,zt #[],⟨.none,none,(.fields #[(.int 30 0),(.int 4 0),(.ref 184)]),#[]⟩,zk "TooGreat" 401 402 403 28 175 181 176 404 28 405,zr 177 174 (zs "tiewebs.errors" 187),zt #[],z0,zt #[(zs "self" 414),(zs "many" 415),(zs "most" 416)],zt #[],zg "__init__" "TooGreat.__init__" (iC (tp 14)),zc "__init__" "TooGreat.__init__" 411 30 3 0 0 3 (.ref 179) 181 (.ref 180) (.ref 181) (.ref 182) (.ref 183) 417 418,⟨.type "function",none,(zf "__init__" "TooGreat.__init__" (iC (tp 14)) .none .none (zs "tiewebs.errors" 187) none (.ref 184) .none),#[]⟩,zt #[(zs "many" 420),(zs "most" 421)],⟨(.type "dict"),none,(.dict #[ze P "__module__" 406 (zs "tiewebs.errors" 187),ze P "__firstlineno__" 410 (.int 28 409),ze P "__init__" 419 (.ref 185),ze P "__static_attributes__" 422 (.ref 186),ze P "__doc__" 423 .none] 2),#[]⟩,⟨(.type "type"),none,(.cls ⟨(i_ "TooGreat"),[(.ref 24)],[(.ref 188),(.ref 24),(.type "ValueError"),(.type "Exception"),(.type "BaseException"),(.type "object")],187,(i_ "TooGreat"),c_,[],[],dV,none,dV⟩),#[ar (.ref 172),none,ar (zs "TooGreat" 399),ar (zs "TooGreat" 407),ar (.builtin "ValueError.__new__"),ar (.bool c_)]⟩,zu 188,zi 188]++zD "is_whole" 17 191 430 35 1 3 #[zs "thing" 433] "tiewebs.webs" 426 434++zD "is_pair" 18 198 437 37 1 3 #[zs "thing" 440] "tiewebs.webs" 426 441++zD "is_place" 19 205 444 39 2 3 #[zs "many" 447,zs "thing" 448] "tiewebs.webs" 426 449++zD "is_tie" 20 212 452 41 2 3 #[zs "many" 455,zs "thing" 456,zs "low" 457,zs "high" 458] "tiewebs.webs" 426 459++zE "is_rising" 21 219 462 46 1 3 "tiewebs.webs" 426 465++zE "is_web" 22 224 468 48 1 3 "tiewebs.webs" 426 471++zD "need_web" 23 229 474 55 1 3 #[zs "thing" 477] "tiewebs.webs" 426 478++zD "need_place" 24 236 481 58 2 3 #[zs "web" 484,zs "place" 485] "tiewebs.webs" 426 486++zE "pairs_of" 25 243 489 62 1 3 "tiewebs.webs" 426 492++zE "degrees" 26 248 495 64 1 3 "tiewebs.webs" 426 498++zE "ties_meet" 29 253 505 70 2 3 "tiewebs.ties" 501 508++zD "need_few_ties" 30 258 511 72 1 3 #[zs "web" 514] "tiewebs.ties" 501 515++zE "tie_web" 31 265 518 76 1 3 "tiewebs.ties" 501 521++zE "star_of" 32 270 524 81 2 3 "tiewebs.ties" 501 527++zE "ties_ahead" 33 275 530 84 1 3 "tiewebs.ties" 501 533++zD "_law_cell_at" 35 280 538 87 2 3 #[zs "_law_script" 541,zs "_law_k" 542] ml 536 543++zD "_law_state" 36 287 546 91 2 3 #[zs "_law_script" 549,zs "_law_k" 550,zs "_law_cell" 551] ml 536 552++zD "_law_take" 37 294 555 96 2 3 #[zs "_law_state_here" 558,zs "_law_many" 559,zs "_law_found" 560,zs "_law_stirred" 561] ml 536 562++zE "_law_pairs" 38 301 565 105 1 3 ml 536 568++zD "_law_mixed_row" 39 306 571 110 2 3 #[zs "_law_state_here" 574,zs "_law_things" 575,zs "_law_left" 576,zs "_law_found" 577] ml 536 578++zE "_law_web" 40 313 581 116 2 3 ml 536 584++zD "_law_great_web" 41 318 587 130 1 3 #[zs "_law_state_here" 590,zs "_law_many" 591,zs "_law_ties" 592,zs "_law_turn" 593,zs "_law_one" 594,zs "_law_other" 595] ml 536 596++zE "_law_made" 42 325 599 138 1 3 ml 536 602++zD "_law_bad_web" 43 330 605 144 1 3 #[zs "_law_state_here" 608,zs "_law_some" 609] ml 536 610++zE "_law_same" 44 337 613 149 2 3 ml 536 616++zE "_law_refused" 45 342 619 157 1 3 ml 536 622++zE "law" 46 347 625 172 1 3 ml 536 628
def Lb(P:P6):List Obj:=[boot_o_0 P,boot_o_1 P,boot_o_2 P,boot_o_3 P,boot_o_4 P,boot_o_5 P,boot_o_6 P,boot_o_7 P,boot_o_8 P,boot_o_9 P,boot_o_10 P,zt #[],z0,⟨(.type "code"),none,(.fields #[(zs "<module>" 182),(zs "<module>" 183),(zs "/claim/cut.py" 184),(.int 1 0),(.int 0 0),(.int 0 0),(.int 0 0),(.int 0 0),(.ref 11),(.bool dV),(.int 181 0),(.ref 12),.none,.none,.none,.none,(.int 185 0),(.int 1 0),(zs "/claim/cut.py" 186)]),#[]⟩,zr 13 3 (zs "__main__" 164)]
def as0:List Addr:=[2,3,15,22,23,24,25,28,35,36,37,40,47,48,49,52,59,60,61,64,71,72,73,76,83,84,85,88,95,96,97,100,107,108,109,112,119,120,121,124,131,132,133,136,143,144,145,148,155,156,157,160,167,168,169,172,179,181,182,184,185,186,187,188,191,193,194,196,197,198,200,201,203,204,205,207,208,210,211,212,214,215,217,218,219,222,223,224,227,228,229,231,232,234,235,236,238,239,241,242,243,246,247,248,251,252,253,256,257,258,260,261,263,264,265,268,269,270,273,274,275,278,279,280,282,283,285,286,287,289,290,292,293,294,296,297,299,300,301,304,305,306,308,309,311,312,313,316,317,318,320,321,323,324,325,328,329,330,332,333,335,336,337,340,341,342,345,346,347,350,351]
def ts0:List Addr:=[348]
def vq:Program:={PySem.Challenge.pw_tiewebs_k04_tie_webs with main:={PySem.Challenge.pw_tiewebs_k04_tie_webs.main with body:=[tp 1,tp 2,tp 3,tp 4,tp 5,tp 6,tp 7,tp 8,tp 9,tp 10,tp 11,tp 12,tp 13,tp 14,tp 16,tp 17,tp 18,tp 19,tp 20,tp 21,tp 22,tp 23,tp 24,tp 25,tp 26,tp 28,tp 29,tp 30,tp 31,tp 32,tp 33,tp 35,tp 36,tp 37,tp 38,tp 39,tp 40,tp 41,tp 42,tp 43,tp 44,tp 45,tp 46]}}
def alt:Bool->List Obj->List Obj
 |_,[]=>[]
 |true,a::r=>a::alt dV r
 |false,_::r=>alt c_ r
def toT:Nat->List Obj->BT
 |0,_=>.nil
 |_+1,[]=>.nil
 |f+1,o::r=>.node o (toT f (alt c_ r)) (toT f (alt dV r))
def pick:Nat->List dt->List Obj->d_
 |i,as,o::os=>match as with
  |a::r=>if Nat.beq i a then (a,o)::pick (i+1) r os else pick (i+1) (a::r) os
  |[]=>[]
 |_,_,[]=>[]
def K0(P:P6):W.Frag:=pick 0 as0 (L1 P)
theorem as0_eq:∀P,as0=(K0 P).map (·.1):=fun _=>by kernel_rfl
abbrev pw:Program:=PySem.Challenge.pw_tiewebs_k04_tie_webs
abbrev Xt0(s:b_):Bool:=xlAt vq [] s && recOk (RowW.records (OpenRow.toRowW (OpenLaw.row PySem.Challenge.rw_tiewebs_k04_tie_webs))) s
def lf:Life:={}
def en:Env:={scope:=pw.main.scope,locals:=mainNs,globals:=mainNs,cells:=[],code:=(.ref 13),frame:=ar 14}
abbrev cE:Code:=.body (Pd pw) en
abbrev Bf:List Frame:=[topFrame ⟨0,0,0,0⟩]
abbrev S0(w:f')(os:Qe):Shared:=⟨F_ w.params,B' [],boot_drawn,boot_toks,os⟩
abbrev Sb(w:f')(os:Qe):SharedT:=⟨toT 12 (Lb w.params),15,lf,B' [],⟨0,0,0,0⟩,187,os⟩
abbrev Sm(w:f')(os:Qe):SharedT:=⟨toT 12 (L1 w.params),352,lf,B' [],⟨0,0,0,0⟩,631,os⟩
abbrev Sf(w:f')(os:Qe):Shared:=⟨⟨B' (L1 w.params),lf⟩,B' [],⟨0,0,0,0⟩,631,os⟩
theorem J2:∀w,(fun os=>topGo Pi pw w 11 (ar (.ref 6)) 12 (S0 w os) (topStub pw))=fun os=>ar ((Sb w os).abs,⟨denote Pi cE,cE,⟨0,0,0,0⟩,Bf⟩):=fun w=>by kernel_rfl
theorem FH:∀w,(fun os=>segRun Pi pw w 11 (ar (.ref 6)) 1 1 (Sb w os).abs (blockOf (Pd pw) en cE ⟨0,0,0,0⟩ Bf))=fun os=>ar (.next,(Sb w os).abs,cE,⟨0,0,0,0⟩):=fun w=>by kernel_rfl
theorem Ib:∀w,(fun os=>segRunT Pi pw w 11 (ar (.ref 6)) 1 3805 (Sb w os) (piecesOf (Pd pw) en cE ⟨0,0,0,0⟩ Bf))=fun os=>ar (.next,Sm w os,cE,⟨172,0,197,71⟩):=fun w=>by kernel_rfl
theorem J3:∀w,(fun os=>topRun Pi pw w 11 (ar (.ref 6)) 2 (Sm w os).abs ⟨doneF .next,cE,⟨172,0,197,71⟩,Bf⟩)=fun os=>ar (Sf w os):=fun w=>by kernel_rfl
theorem J4(w:f')(os:Qe):topRun Pi pw w 11 (ar (.ref 6)) (12+(1+(3805+2))) (S0 w os) (topStub pw)=ar (Sf w os):=
 go_top (Ms (J2 w) os) (piece_block (Ms (FH w) os) (by
  have:=piece_app (rest:=[]) (segRun_of (Ms (Ib w) os)) (piece_nil (Ms (J3 w) os));rw[Mt]at this;exact this))
theorem Ie:∀w:f',((F_ w.params).isNs gg && (B' []:Array P7).size==0,(F_ w.params).objs.size,(F_ w.params).nsMap gg "__annotations__")=(c_,11,(ar (.ref 6))):=fun w=>by kernel_rfl
theorem Ig:∀w os,(staticsOk (kr pw.main.body) (F_ w.params) (Sf w os).heap && namesBound pw (Sf w os).heap && gensDone (Sf w os) && laidKept (F_ w.params) (Sf w os).heap)=true:=fun w os=>by kernel_rfl
theorem J5:∀w os,(y1 vq [] (kr pw.main.body) Xt0 c_ (Sf w os)).1=(y2 vq []).1:=fun w os=>by kernel_rfl
theorem J6:∀w os,(y1 vq [] (kr pw.main.body) Xt0 c_ (Sf w os)).2.1=(y2 vq []).2.1:=fun w os=>by kernel_rfl
theorem J7:∀w os,(y1 vq [] (kr pw.main.body) Xt0 c_ (Sf w os)).2.2.1=(y2 vq []).2.2.1:=fun w os=>by kernel_rfl
theorem J8:∀w os,(y1 vq [] (kr pw.main.body) Xt0 c_ (Sf w os)).2.2.2.1=(y2 vq []).2.2.2.1:=fun w os=>by kernel_rfl
theorem J9:∀w os,(y1 vq [] (kr pw.main.body) Xt0 c_ (Sf w os)).2.2.2.2.1=(y2 vq []).2.2.2.2.1:=fun w os=>by kernel_rfl
theorem Ka:∀w os,(y1 vq [] (kr pw.main.body) Xt0 c_ (Sf w os)).2.2.2.2.2.1=(y2 vq []).2.2.2.2.2.1:=fun w os=>by kernel_rfl
theorem Kb:∀w os,(y1 vq [] (kr pw.main.body) Xt0 c_ (Sf w os)).2.2.2.2.2.2.1=(y2 vq []).2.2.2.2.2.2.1:=fun w os=>by kernel_rfl
theorem Kc:∀w os,(y1 vq [] (kr pw.main.body) Xt0 c_ (Sf w os)).2.2.2.2.2.2.2.1=(y2 vq []).2.2.2.2.2.2.2.1:=fun w os=>by kernel_rfl
theorem Kd:∀w os,(y1 vq [] (kr pw.main.body) Xt0 c_ (Sf w os)).2.2.2.2.2.2.2.2=(y2 vq []).2.2.2.2.2.2.2.2:=fun w os=>by kernel_rfl
theorem Ih:∀w os,Rz (P8 K0 as0 as0_eq ts0) (Sf w os)=RA (P8 K0 as0 as0_eq ts0) w:=fun w os=>by kernel_rfl
theorem Ii(w:f')(os:Qe):y1 vq [] (kr pw.main.body) Xt0 c_ (Sf w os)=y2 vq []:=OD (J5 w os) (OD (J6 w os) (OD (J7 w os) (OD (J8 w os) (OD (J9 w os) (OD (Ka w os) (OD (Kb w os) (OD (Kc w os) (Kd w os))))))))
theorem left0:LeftO (OpenLaw.row PySem.Challenge.rw_tiewebs_k04_tie_webs).prog vq [] Xt0 (Rz (P8 K0 as0 as0_eq ts0)) (RA (P8 K0 as0 as0_eq ts0)) 7734:=
 LeftO.of_pieces (p:=pw) (H₀:=F_) (H₁:=fun P=>⟨B' (L1 P),lf⟩) (gs₀:=B' []) (gs₁:=B' []) (d₀:=boot_drawn) (d₁:=⟨0,0,0,0⟩) (k₀:=boot_toks) (k₁:=631) (M:=12+(1+(3805+2))) (boot_open (p:=pw) (by kernel_rfl) (by decide) (fun s=>by kernel_rfl)) Ie J4 (by decide) fun w=>funext fun os=>OD (Ig w os) (OD (Ii w os) (Ih w os))
end KH
section
namespace L2
open PySem PySem.Spec PyProof.Rows
abbrev Key:=Sum Int Str
def Fe:Key->aC->Bool
 | .inl k,v=>Value.isInt k v
 | .inr x,v=>Value.isStrOf x v
def Ke(w:f'):Key->Int
 | .inl k=>hashInt k
 | .inr x=>hashStr w x
theorem cD:∀{k:Key} {v:aC},Fe k v=c_->(∃i t,k=Qf i/\v=oo i t)\/(∃x t,k=Qg x/\v=Pq x t)
 | .inl i,v,h=>by
  obtain⟨t,e⟩:=Value.isInt_shape (k:=i) (v:=v) h;exact .inl ⟨i,t,rfl,e⟩
 | .inr x,v,h=>by
  obtain⟨t,e⟩:=Value.isStrOf_shape (x:=x) (v:=v) h;exact .inr ⟨x,t,rfl,e⟩
theorem FJ(a b:Int):decide ((Qf a:Key)=Qf b)=(a==b):=by
 by_cases e:a=b
 ·subst e;simp
 ·have h:¬ (Qf a:Key)=Qf b:=fun q=>e (Sum.inl.inj q);rw[Mn h];exact(beq_eq_false_iff_ne.mpr e).symm
theorem FK(a b:Str):decide ((Qg a:Key)=Qg b)=decide (a=b):=by
 by_cases e:a=b
 ·subst e;simp
 ·have h:¬ (Qg a:Key)=Qg b:=fun q=>e (Sum.inr.inj q);rw[Mn h,Mn e]
theorem FL(a:Int)(b:Str):decide ((Qf a:Key)=Qg b)=false:=Mn (fun q=>nomatch q)
theorem FM(a:Str)(b:Int):decide ((Qg a:Key)=Qf b)=false:=Mn (fun q=>nomatch q)
def xB(prog:e_)(w:f'):PySem.KeyKind prog w Key where
 is:=Fe
 hash:=Ke w
 inj:=fun v a b ha hb=>by
  rcases cD ha with⟨i,t,rfl,rfl⟩|⟨x,t,rfl,rfl⟩
  ·rcases cD hb with⟨j,u,rfl,e⟩|⟨y,u,rfl,e⟩
   ·injection e with e1 _;rw[e1]
   ·exact nomatch e
  ·rcases cD hb with⟨j,u,rfl,e⟩|⟨y,u,rfl,e⟩
   ·exact nomatch e
   ·injection e with e1 _;rw[e1]
 byValue:=fun k v h=>by
  rcases cD h with⟨i,t,rfl,rfl⟩|⟨x,t,rfl,rfl⟩<;>rfl
 pyHash:=fun hv h=>by
  rcases cD hv with⟨i,t,rfl,rfl⟩|⟨x,t,rfl,rfl⟩
  ·exact wpAny_pyHash_int h
  ·exact wpAny_pyHash_str h
 eqBool:=fun hu hv h=>by
  rcases cD hu with⟨i,t,rfl,rfl⟩|⟨x,t,rfl,rfl⟩
  ·rcases cD hv with⟨j,u,rfl,rfl⟩|⟨y,u,rfl,rfl⟩
   ·rw[FJ]at h;exact Px h
   ·rw[FL]at h;exact SeqAt.EqAt.int_str i t y u _ _ _ _ h
  ·rcases cD hv with⟨j,u,rfl,rfl⟩|⟨y,u,rfl,rfl⟩
   ·rw[FM]at h;exact SeqAt.EqAt.str_int x t j u _ _ _ _ h
   ·rw[FK]at h;exact wpAny_eqBool_str h
 «strs»:=fun k x t v h=>by
  rcases cD h with⟨i,u,rfl,e⟩|⟨y,u,rfl,e⟩
  ·exact nomatch e
  ·injection e with e1 _;subst e1;cases v<;>rfl
end L2
namespace L2
open PySem PySem.Spec PyProof.Rows
inductive V where
 |non|bl (b:Bool)|int (i:Int)|str (x:Str)|byt (b:Array UInt8)|flt (b:UInt64)|ref (a:dt)|ty (n:String)
 deriving DecidableEq
def RelV:V->aC->Prop
 | .non,u=>u=i0
 | .bl b,u=>u=ri b
 | .int i,u=>∃t,u=oo i t
 | .str x,u=>∃t,u=Pq x t
 | .byt b,u=>∃t,u=Value.bytes b t
 | .flt b,u=>∃t,u=P9 b t
 | .ref a,u=>u=er a
 | .ty n,u=>u=u4 n
abbrev bb:List V->List aC->Prop:=Paired RelV
theorem bb.length{xs:List V}{us:List aC}(r:bb xs us):xs.length=us.length:=Paired.length r
theorem bb.get:∀{xs:List V} {us:List aC} {i:Nat} {x:V},bb xs us->xs[i]? =ar x->∃u,us[i]? =ar u/\RelV x u
 |_,_,_,_,.nil,e=>by simp at e
 |_,_,0,_,.cons r _,e=>by simp at e;subst e;exact⟨_,rfl,r⟩
 |_,_,i+1,x,.cons _ t,e=>by
  obtain⟨u,Z,Y⟩:=bb.get (i:=i) (x:=x) t (by simpa using e)
  exact⟨u,by simpa using Z,Y⟩
theorem bb.set(r:RelV x u):∀{xs:List V} {us:List aC} (i:Nat),bb xs us->bb (xs.set i x) (us.set i u)
 |_,_,_,.nil=>.nil
 |_,_,0,.cons _ t=>.cons r t
 |_,_,i+1,.cons q t=>.cons q (bb.set r i t)
theorem bb.append:∀{xs ys:List V} {us ws:List aC},bb xs us->bb ys ws->bb (xs++ys) (us++ws)
 |_,_,_,_,.nil,s=>s
 |_,_,_,_,.cons r t,s=>.cons r (bb.append t s)
theorem bb.take:∀{xs:List V} {us:List aC} (n:Nat),bb xs us->bb (xs.take n) (us.take n)
 |_,_,0,_=>.nil
 |_,_,_+1,.nil=>.nil
 |_,_,n+1,.cons r t=>.cons r (bb.take n t)
theorem bb.drop:∀{xs:List V} {us:List aC} (n:Nat),bb xs us->bb (xs.drop n) (us.drop n)
 |_,_,0,r=>r
 |_,_,_+1,.nil=>.nil
 |_,_,n+1,.cons _ t=>bb.drop n t
def si:Option V->Option aC->Prop
 |some v,ar u=>RelV v u
 |none,none=>True
 |_,_=>False
def KV{κ:Type}:List (κ×V)->List (κ×aC)->Prop:=Paired fun(p:κ×V) (q:κ×aC)=>p.1=q.1/\RelV p.2 q.2
def kV:Key->V
 | .inl i=>.int i
 | .inr x=>.str x
inductive HO where
 |lst (xs:List V)
 |tup (xs:List V)
 |dK (kvs:List (Key×V))|dT (kvs:List (List Key×V))
 |set (S:Int->Bool) (n:Nat)
 |ins (C dx:dt) (fs:List (Str×V))
 |own (x:dt)
 |xd (fs:List (Str×V))
 |met (f x:dt)
 |rng (lo hi:Int)
 |frz (o:Obj) (u:HO)
 |tbl (ps:Array aC)
 |ext (φ:gd->Prop)
abbrev Hp:=dt->Option HO
def upd(H:Hp)(a:dt)(o:HO):Hp:=fun b=>if b=a then ar o else H b
theorem aM:upd H a o a=ar o:=by unfold upd;rw[if_pos rfl]
theorem aB{H:Hp}(h:b≠a):upd H a o b=H b:=by unfold upd;rw[if_neg h]
theorem sj:upd (upd H a o) a u=upd H a u:=by
 funext b;unfold upd;split<;>rfl
theorem Ff{H:Hp}(h:H a=ar o)(h':H b=ar u)(d:o≠u):a≠b:=by
 intro e;subst e;rw[h]at h';exact d (L5 h')
theorem aE{H:Hp}(h:H a=ar o)(h':H b=none):a≠b:=by
 intro e;subst e;rw[h]at h';cases h'
section
variable (P:e_)(w:f')
def bj(H:Hp)(h:gd)(a:dt):HO->Prop
 | .lst xs=>xs.length<=sizeLine/\∃(its:List aC) (n:Nat),bb xs its/\h.get? a=ar {cls:=.type "list",data:=.seq its.toArray n}
 | .tup xs=>(xs.length<=sizeLine/\∃o,h.get? a=ar o/\o.dict=none)/\∃its:List aC,bb xs its/\Rj h a its.toArray
 | .dK kvs=>kvs.length<=sizeLine/\(a==Q0)=dV/\∃vs,KV kvs vs/\h.DictOf (xB P w) a vs
 | .dT kvs=>kvs.length<=sizeLine/\(a==Q0)=dV/\∃xs:List (List Key×dt×aC),
   Paired (fun(p:List Key×V) (q:List Key×dt×aC)=>p.1=q.1/\H q.2.1=ar (.tup (p.1.map kV))/\RelV p.2 q.2.2) kvs xs/\
   ∃o es ep,h.get? a=ar o/\o.ExactDict/\o.data= .dict es ep/\es.toList=xs.map (entryOfKey (tupleKind (xB P w)))/\(xs.map (·.1)).Nodup
 | .set S n=>h.SetOf (la P w) a S n
 | .ins C dx fs=>H dx=ar (.own a)/\fs.length<=1000/\dx≠a/\h.get? a=ar (Rk C dx)/\
   ∃mA,h.Ns1 dx mA/\(∀f,si (fs.lookup f) (mA f))/\PySem.Within mA (fs.map (·.1))
 | .own _=>∃o,h.get? a=ar o
 | .xd fs=>∃mA,h.Ns1 a mA/\∀f,si (fs.lookup f) (mA f)
 | .rng lo hi=>∃t u v,h.get? a=ar {cls:=.type "range",data:=.fields #[.int lo t,.int hi u,.int 1 v]}
 | .frz o u=>h.get? a=ar o/\bj H h a u
 | .tbl ps=>h.get? a=ar {cls:=.none,data:=.fields ps}
 | .met f x=>h.get? a=ar (QQ (.ref f) (.ref x))
 | .ext φ=>φ h/\(∃o,h.get? a=ar o)/\∀h1 h2:gd,φ h1->(∀o,h1.get? a=ar o->h2.get? a=ar o)->φ h2
theorem sr{h:gd}{xs:List V}{Z:Array aC}(z:xs.length<=sizeLine):xs.length<=sizeLine/\∃o,(h.push {cls:=.type "tuple",data:=.seq Z}).get? h.objs.size=ar o/\o.dict=none:=⟨z,_,LM _ rfl,rfl⟩
def fK(H:Hp)(h:gd):Prop:=∀a o,H a=ar o->bj P w H h a o
end
section
variable {P:e_}{w:f'}{H H':Hp}{h h':gd}{a:dt}{o:HO}
theorem bj.lt(x:bj P w H h a o):a<h.objs.size:=by
 cases o with
 |lst xs=>obtain⟨_,_,_,_,e⟩:=x;exact LK e
 |tup xs=>obtain⟨_,_,_,p⟩:=x;exact p.lt
 |dK kvs=>obtain⟨_,_,_,_,o,_,_,e,_⟩:=x;exact LK e
 |dT kvs=>obtain⟨_,_,_,_,o,_,_,e,_⟩:=x;exact LK e
 |set S n=>obtain⟨o,_,_,_,e,_⟩:=x;exact LK e
 |ins C dx fs=>obtain⟨_,_,_,e,_⟩:=x;exact LK e
 |own y=>obtain⟨_,e⟩:=x;exact LK e
 |xd fs=>obtain⟨_,⟨_,_,_,e,_⟩,_⟩:=x;exact LK e
 |rng lo hi=>obtain⟨_,_,_,e⟩:=x;exact LK e
 |frz ob u=>obtain⟨e,_⟩:=x;exact LK e
 |tbl ps=>exact LK (show h.get? a=ar _ from x)
 |met f y=>exact LK (show h.get? a=ar _ from x)
 |ext φ=>obtain⟨_,⟨_,e⟩,_⟩:=x;exact LK e
theorem Paired.mapP{α Z:Type}{F G:α->Z->Prop}:∀{l₁:List α} {l₂:List Z},Paired F l₁ l₂->(∀a b,F a b->G a b)->Paired G l₁ l₂
 |_,_,.nil,_=>.nil
 |_,_,.cons r t,f=>.cons (f _ _ r) (Paired.mapP t f)
theorem bj.stay(x:bj P w H h a o)(k:∀b u,(b=a\/H b=ar (.own a))->h.get? b=ar u->h'.get? b=ar u)
  (R:∀b,H b=ar (.own a)->H' b=ar (.own a)) (U:∀b xs,H b=ar (.tup xs)->H' b=ar (.tup xs)):bj P w H' h' a o:=by
 induction o with
 |lst xs=>obtain⟨z,its,n,r,e⟩:=x;exact⟨z,its,n,r,k _ _ (.inl rfl) e⟩
 |tup xs=>obtain⟨⟨z,T,Y,X⟩,its,r,Z,e,c⟩:=x;exact⟨⟨z,T,k _ _ (.inl rfl) Y,X⟩,its,r,Z,k _ _ (.inl rfl) e,c⟩
 |dK kvs=>obtain⟨z,y,vs,r,Z,es,ep,e,c⟩:=x;exact⟨z,y,vs,r,Z,es,ep,k _ _ (.inl rfl) e,c⟩
 |dT kvs=>
  obtain⟨z,y,xs,r,Z,es,ep,e,c⟩:=x;exact⟨z,y,xs,Paired.mapP r fun p q z=>⟨z.1,U _ _ z.2.1,z.2.2⟩,Z,es,ep,k _ _ (.inl rfl) e,c⟩
 |set S n=>obtain⟨Z,es,ep,t,e,c⟩:=x;exact⟨Z,es,ep,t,k _ _ (.inl rfl) e,c⟩
 |ins C dx fs=>
  obtain⟨d,z,ne,e,mA,⟨od,es,ep,e2,c⟩,r⟩:=x;exact⟨R _ d,z,ne,k _ _ (.inl rfl) e,mA,⟨od,es,ep,k _ _ (.inr d) e2,c⟩,r⟩
 |own y=>obtain⟨Z,e⟩:=x;exact⟨Z,k _ _ (.inl rfl) e⟩
 |xd fs=>obtain⟨mA,⟨od,es,ep,e,c⟩,r⟩:=x;exact⟨mA,⟨od,es,ep,k _ _ (.inl rfl) e,c⟩,r⟩
 |rng lo hi=>obtain⟨t,u,v,e⟩:=x;exact⟨t,u,v,k _ _ (.inl rfl) e⟩
 |frz Z u ih=>obtain⟨e,q⟩:=x;exact⟨k _ _ (.inl rfl) e,ih q⟩
 |tbl ps=>
  have e:h.get? a=ar {cls:=.none,data:=.fields ps}:=x;show h'.get? a=ar {cls:=.none,data:=.fields ps};exact k a _ (.inl rfl) e
 |met f y=>
  have e:h.get? a=ar (QQ (.ref f) (.ref y)):=x;show h'.get? a=ar (QQ (.ref f) (.ref y));exact k a _ (.inl rfl) e
 |ext φ=>obtain⟨p,⟨o,e⟩,st⟩:=x;exact⟨st _ _ p fun o q=>k _ _ (.inl rfl) q,⟨o,k _ _ (.inl rfl) e⟩,st⟩
theorem fK.lt(x:fK P w H h)(e:H a=ar o):a<h.objs.size:=(x a o e).lt
theorem fK.fresh(x:fK P w H h)(e:h.objs.size<=a):H a=none:=by
 cases q:H a with
 |none=>rfl
 |some u=>exact absurd (LV (x.lt q) e) (Nb _)
theorem fK.kept(x:fK P w H h)(k:∀b u,h.get? b=ar u->h'.get? b=ar u):fK P w H h':=fun a o e=>
 (x a o e).stay (fun b u _ q=>k b u q) (fun _ q=>q) fun _ _ q=>q
theorem fK.laid(x:fK P w H h)(k:∀b u,h.get? b=ar u->h'.get? b=ar u)(X:h.objs.size<=a)(Z:bj P w (upd H a o) h' a o):fK P w (upd H a o) h':=fun b u e=>by
 have Y:=x.fresh X;by_cases hb:b=a
 ·subst hb;rw[aM]at e;cases e;exact Z
 ·rw[aB hb]at e;exact(x b u e).stay (fun c v _ q=>k c v q) (fun c q=>by rw[aB (aE q Y)];exact q) fun c xs q=>by rw[aB (aE q Y)];exact q
end
def Rd(H:Hp)(a:dt)(u:HO):Prop:=H a=ar u\/∃o,H a=ar (.frz o u)
theorem Rd.ok{P:e_}{w:f'}{H:Hp}{h:gd}{a:dt}{u:HO}(r:Rd H a u)(x:fK P w H h):bj P w H h a u:=by
 rcases r with r|⟨o,r⟩
 ·exact x a u r
 ·obtain⟨_,q⟩:=x a _ r;exact q
def JQ:Option HO->Prop
 |some (.lst _)=>True
 |some (.dK _)=>True
 |some (.dT _)=>True
 |some (.set _ _)=>True
 |some (.ins _ _ _)=>True
 |some (.ext _)=>True
 |_=>False
section
variable {P:e_}{w:f'}{H:Hp}{h h':gd}{x e:dt}{o':HO}
theorem fK.write(Q:fK P w H h)(X:JQ (H x))(S:e=x\/H e=ar (.own x))(k:∀b u,b≠e->h.get? b=ar u->h'.get? b=ar u)(U:∃u,h'.get? e=ar u)
  (T:bj P w (upd H x o') h' x o'):fK P w (upd H x o') h':=fun b u q=>by
 have Z:∀c y,H c=ar (.own y)->c≠x:=fun c y r z=>by subst z;rw[r]at X;exact X
 have Y:∀c xs,H c=ar (.tup xs)->c≠x:=fun c xs r z=>by subst z;rw[r]at X;exact X
 by_cases hb:b=x
 ·subst hb;rw[aM]at q;cases q;exact T
 ·rw[aB hb]at q;by_cases hbe:b=e
  ·have R:H b=ar (.own x):=by
    rcases S with z|z
    ·exact absurd (hbe.trans z) hb
    ·rw[hbe];exact z
   rw[q]at R;cases R;obtain⟨v,O⟩:=U;exact⟨v,by rw[hbe];exact O⟩
  ·refine(Q b u q).stay (fun c v W r=>k c v ?_ r) (fun c r=>by rw[aB (Z c b r)];exact r) fun c xs r=>by rw[aB (Y c xs r)];exact r
   rcases W with rfl|W
   ·exact hbe
   ·rintro rfl;rcases S with z|z
    ·exact Z c b W z
    ·rw[W]at z;cases z;exact hb rfl
end
structure Un(fs ex:List dt)(H H':Hp)(h h':gd):Prop where
 keep:∀b o,h.get? b=ar o->H b=none->b∉fs->b∉ex->h'.get? b=ar o
 slot:∀b o,h.get? b=ar o->H b=none->b∈fs->b∉ex->∃sl,h'.get? b=ar {o with slots:=sl}
 free:∀b o,h.get? b=ar o->H b=none->b∉ex->H' b=none
 there:∀b o,h.get? b=ar o->b∉ex->∃o',h'.get? b=ar o'
 tups:∀b xs,H b=ar (.tup xs)->H' b=ar (.tup xs)
 frzs:∀b o u,H b=ar (.frz o u)->H' b=ar (.frz o u)
 tbls:∀b ps,H b=ar (.tbl ps)->∃more,H' b=ar (.tbl (ps++more))
section
variable {fs fs' ex ex':List dt}{H H1 H2:Hp}{h h1 h2 h':gd}{a x e:dt}{o:HO}
theorem Un.any(u:Un fs ex H H1 h h1)(q:h.get? b=ar ob)(n:H b=none)(Z:b∉ex):∃sl,h1.get? b=ar {ob with slots:=sl}:=by
 by_cases hb:b∈fs
 ·exact u.slot b ob q n hb Z
 ·exact⟨ob.slots,u.keep b ob q n hb Z⟩
theorem Un.kept(k:∀b u,h.get? b=ar u->h'.get? b=ar u):Un fs ex H H h h':=
 ⟨fun b Z q _ _ _=>k b Z q,fun b Z q _ _ _=>⟨Z.slots,k b Z q⟩,fun _ _ _ n _=>n,fun b Z q _=>⟨Z,k b Z q⟩,fun _ _ q=>q,fun _ _ _ q=>q,fun _ Y q=>⟨#[],by rw[q];simp⟩⟩
theorem Un.refl:Un fs ex H H h h:=Un.kept fun _ _ q=>q
theorem Un.laid(k:∀b u,h.get? b=ar u->h'.get? b=ar u)(Y:h.objs.size<=a)(Z:H a=none):Un fs ex H (upd H a o) h h' where
 keep:=fun b u q _ _ _=>k b u q
 slot:=fun b u q _ _ _=>⟨u.slots,k b u q⟩
 free:=fun b u q n _=>by rw[aB (LQ (LV (LK q) Y))];exact n
 there:=fun b u q _=>⟨u,k b u q⟩
 tups:=fun b xs q=>by rw[aB (aE q Z)];exact q
 frzs:=fun b u xs q=>by rw[aB (aE q Z)];exact q
 tbls:=fun b X q=>⟨#[],by rw[aB (aE q Z),q];simp⟩
theorem Un.write(Z:JQ (H x))(U:e=x\/H e=ar (.own x))(k:∀b u,b≠e->h.get? b=ar u->h'.get? b=ar u)(Y:∃u,h'.get? e=ar u):Un fs ex H (upd H x o) h h':=by
 have X:∀b,H b=none->b≠x:=fun b n z=>by subst z;rw[n]at Z;exact Z
 have W:∀b,H b=none->b≠e:=fun b n z=>by
  subst z;rcases U with r|r
  ·exact X b n r
  ·rw[n]at r;cases r
 have hm:∀b u,H b=ar u->¬ JQ (ar u)->b≠x:=fun b u q nm z=>by subst z;rw[q]at Z;exact nm Z
 refine⟨fun b u q n _ _=>k b u (W b n) q,fun b u q n _ _=>⟨u.slots,k b u (W b n) q⟩,fun b u q n _=>by rw[aB (X b n)];exact n,fun b u q _=>?_,
  fun b xs q=>by rw[aB (hm b _ q fun z=>z)];exact q,fun b u xs q=>by rw[aB (hm b _ q fun z=>z)];exact q,fun b T q=>⟨#[],by rw[aB (hm b _ q fun z=>z),q];simp⟩⟩
 by_cases hbe:b=e
 ·subst hbe;exact Y
 ·exact⟨u,k b u hbe q⟩
end
def JR(h:gd)(H:Hp):List Addr:=(ey h.objs.size).filter fun a=>(H a).isSome
def kq(h:gd)(H:Hp):Heap:=W.hideAll h (JR h H)
theorem mD(h:gd)(H:Hp):(kq h H).objs.size=h.objs.size:=W.hideAll_size _ _
theorem k9{h:gd}{H:Hp}(e:h.get? b=ar o)(n:H b=none):(kq h H).get? b=ar o:=
 W.hideAll_get _ e fun hm=>by
  have q:(H b).isSome=true:=(List.mem_filter.mp hm).2;rw[n]at q;simp at q
theorem su{H:Hp}(e:(kq h H).get? b=ar o):h.get? b=ar o/\H b=none:=by
 have Z:h.get? b=ar o:=W.of_hideAll (JR h H) e;refine⟨Z,?_⟩;cases q:H b with
 |none=>rfl
 |some x=>
  have hm:b∈JR h H:=List.mem_filter.mpr ⟨Ma.mpr (LK Z),by simp[q]⟩
  have z:(kq h H).get? b=none:=W.hideAll_none (JR h H) hm;rw[z]at e;cases e
def lb(g h:gd)(L:dt):List (dt×Obj):=(ey h.objs.size).filterMap fun a=>if a=L\/(g.get? a).isSome=c_ then none else (h.get? a).map fun o=>(a,o)
theorem uf{g h:gd}(Y:a≠L)(X:g.get? a=none)(Z:h.get? a=ar o):(a,o)∈lb g h L:=
 M8.mpr ⟨a,Ma.mpr (LK Z),by simp[Y,X,Z]⟩
theorem oJ(Z:p∈lb g h L):p.1≠L/\g.get? p.1=none/\h.get? p.1=ar p.2:=by
 obtain⟨b,_,e⟩:=M8.mp Z;split at e
 ·cases e
 ·rename_i hn
  cases q:h.get? b with
  |none=>rw[q]at e;simp at e
  |some u=>
   rw[q]at e;simp only[D',Option.some.injEq]at e;subst e;refine⟨fun z=>hn (.inl z),?_,q⟩;show g.get? b=none;cases r:g.get? b with
   |none=>rfl
   |some v=>exact(hn (.inr (by simp[r]))).elim
def rest(g h:gd)(L d:dt):List (dt×Obj):=(lb g h L).filter fun p=>decide (p.1≠d)
theorem oK:News g L h (lb g h L):=fun p Z=>let ⟨a,b,c⟩:=oJ Z;⟨c,a,b⟩
end L2
namespace L2
open PySem PySem.Spec PyProof.Rows
structure Mod(K:d_)(mg:Str->Option aC)(base:gd):Prop where
 kin:K.In base
 glob:base.Ns gg mg
 blt:∃mb,base.Ns w7 mb/\∀x:Str,x≠"__name__"->mb x=kS x
 nolimit:base.NoLimit
structure Cx where
 prog:e_
 w:f'
 K:d_
 mg:Str->Option aC
 base:gd
 A:h_
 N:List Str
 s₀:b_
 H₀:Hp
 env:Env
 outer:List Env
 stack:List Env
 ex:List dt
 fn:Str->Bool
 calm:Bool
 pn:List (dt×Obj)
 xe:aC->b_->Prop
def jG(l:List Env):List Addr:=l.filterMap (·.frame)
abbrev Cx.fs(X:Cx):List Addr:=jG X.outer
def yR(sc:Scope)(x:Str):Prop:=sc.names.lookup x=ar .local\/sc.names.lookup x=ar .cell\/sc.names.lookup x=ar .free
def Loc(sc:Scope)(x:Str):Prop:=sc.names.lookup x=ar .local\/sc.names.lookup x=ar .cell
def Look(env:Env)(h:gd)(m:Str->Option aC)(x:Str)(u:aC):Prop:=
 (env.kindOf x=ar .local/\m x=ar u)\/((env.kindOf x=ar .cell\/env.kindOf x=ar .free)/\∃c,env.cells.lookup x=ar c/\h.IsCell c (ar u))
structure Cx.Ok(X:Cx):Prop where
 mod:Mod X.K X.mg X.base
 kind:X.env.scope.kind= .function
 glob:X.env.globals=gg
 blt:X.env.builtins=w7
 above:X.s₀.heap.objs.size<=X.env.locals
 inj:∀x y c,X.env.cells.lookup x=ar c->X.env.cells.lookup y=ar c->x=y
 has:∀x,(X.env.kindOf x=ar .cell\/X.env.kindOf x=ar .free)->∃c,X.env.cells.lookup x=ar c
 cab:∀x c,X.fn x=c_->X.env.cells.lookup x=ar c->X.s₀.heap.objs.size<=c
 hd:X.calm=c_->X.A.handled=none
 frames:X.A.frames=ar X.stack
 stk:X.stack=X.outer\/(X.stack=X.env::X.outer/\X.env.frame=ar X.env.locals)
 exf:∀b∈X.ex,b≠X.env.locals/\∀x c,X.env.cells.lookup x=ar c->c≠b
 bs:∀b o,X.base.get? b=ar o->X.s₀.heap.get? b=ar o/\X.H₀ b=none
 bsz:X.base.objs.size<=X.s₀.heap.objs.size
 noex:∀b o,X.base.get? b=ar o->b∉X.ex
 exfs:∀b∈X.ex,b∉X.fs
 funs:X.s₀.heap.FunFrames X.base X.outer
 frf:∀b∈X.fs,X.H₀ b=none
structure Inv(X:Cx)(pins:List (dt×Obj))(σ:List (Option V))(H:Hp)(s:b_):Prop where
 ok:X.Ok
 os:s.os=X.s₀.os
 bare:A_ s.gens
 base:Un X.fs X.ex X.H₀ H X.s₀.heap s.heap
 loc:∃m,s.heap.Ns X.env.locals m/\∀(i:Nat) (x:Str) (v:V),X.N[i]? =ar x->σ[i]? =ar (ar v)->yR X.env.scope x->∃u,RelV v u/\Look X.env s.heap m x u
 cell:∀x c,X.env.cells.lookup x=ar c->∃v,s.heap.IsCell c v
 free:H X.env.locals=none
 freeC:∀x c,X.env.cells.lookup x=ar c->H c=none
 pin:∀p∈X.pn++pins,s.heap.get? p.1=ar p.2/\H p.1=none/\p.1≠X.env.locals/\p.1∉X.fs/\∀v,p.2.data≠ .cell v
 hok:fK X.prog X.w H s.heap
 len:σ.length=X.N.length
section
variable {X:Cx}{pins:List (dt×Obj)}{σ:List (Option V)}{H H':Hp}{s:b_}{h':gd}
theorem Cx.Ok.nofr(Z:X.Ok)(e:X.base.get? b=ar o):b∉X.fs:=fun Y=>by
 have:=(Z.funs.mem Y).1;rw[e]at this;cases this
theorem Inv.bs(I:Inv X pins σ H s):∀b o,X.base.get? b=ar o->s.heap.get? b=ar o/\H b=none:=fun b o e=>
 ⟨I.base.keep b o (I.ok.bs b o e).1 (I.ok.bs b o e).2 (I.ok.nofr e) (I.ok.noex b o e),I.base.free b o (I.ok.bs b o e).1 (I.ok.bs b o e).2 (I.ok.noex b o e)⟩
theorem Inv.bk(I:Inv X pins σ H s):∀b o,X.base.get? b=ar o->s.heap.get? b=ar o:=fun b o e=>(I.bs b o e).1
theorem Inv.mod(I:Inv X pins σ H s):Mod X.K X.mg X.base:=I.ok.mod
theorem Inv.kIn(I:Inv X pins σ H s):X.K.In s.heap:=I.ok.mod.kin.keeps I.bk
theorem Inv.fr(I:Inv X pins σ H s):∃m,Fr X.base X.env.locals s.heap m:=
 let ⟨m,hn,_⟩:=I.loc
 ⟨m,hn,I.bk,LS I.ok.bsz I.ok.above⟩
theorem Inv.lt(I:Inv X pins σ H s):X.env.locals<s.heap.objs.size:=let ⟨_,hn,_⟩:=I.loc;hn.lt
theorem Inv.sz(I:Inv X pins σ H s):X.s₀.heap.objs.size<=s.heap.objs.size:=LS I.ok.above (Nd I.lt)
theorem Inv.nofs(I:Inv X pins σ H s)(h:s.heap.objs.size<=a):a∉X.fs:=fun Z=>by
 obtain⟨_,o,Y,_⟩:=I.ok.funs.mem Z;exact absurd (LV (LK Y) (LS I.sz h)) (Nb _)
theorem Inv.cne(I:Inv X pins σ H s):∀x c,X.env.cells.lookup x=ar c->c≠X.env.locals:=fun x c e z=>by
 obtain⟨v,o,W,hd⟩:=I.cell x c e;obtain⟨m,⟨U,es,ep,Z,Y,_⟩,_⟩:=I.loc;rw[z,Z]at W;cases W;rw[Y]at hd;cases hd
theorem Inv.funs(I:Inv X pins σ H s):s.heap.FunFrames X.base X.outer:=by
 have all:∀(l:List Env),(∀b∈jG l,b∈X.fs)->X.s₀.heap.FunFrames X.base l->s.heap.FunFrames X.base l:=by
  intro l
  induction l with
  |nil=>intro _ _;trivial
  |cons env r ih=>
   intro hs T;obtain⟨U,⟨L,o,hf,S,R,hd⟩,W⟩:=T;have Z:L∈X.fs:=hs L (by unfold jG;rw[Mz,hf];exact LX)
   obtain⟨Q,e⟩:=I.base.slot L o R (I.ok.frf L Z) Z fun z=>I.ok.exfs L z Z;exact⟨U,⟨L,_,hf,S,e,hd⟩,ih (fun b Y=>hs b (by unfold jG;rw[Mz,hf];exact LN _ Y)) W⟩
 exact all X.outer (fun _ Y=>Y) I.ok.funs
theorem Inv.stack(I:Inv X pins σ H s):s.heap.FunFrames X.base X.stack:=by
 rcases I.ok.stk with e|⟨e,hf⟩
 ·rw[e];exact I.funs
 ·rw[e];obtain⟨m,Z,_⟩:=I.loc;refine .cons (by rw[I.ok.kind];decide) hf Z ?_ I.funs
  exact MH (LS I.ok.bsz I.ok.above)
theorem Inv.stkSub(I:Inv X pins σ H s):∀b∈jG X.stack,b∈X.env.locals::X.fs:=fun b Z=>by
 rcases I.ok.stk with e|⟨e,hf⟩
 ·rw[e]at Z;exact LN _ Z
 ·rw[e]at Z;unfold jG at Z;rw[Mz,hf]at Z;exact Z
theorem Inv.stkFree(I:Inv X pins σ H s):∀b∈jG X.stack,H b=none:=fun b Z=>by
 rcases LY.mp (I.stkSub b Z)with e|Z
 ·rw[e];exact I.free
 ·obtain⟨_,o,Y,_⟩:=I.ok.funs.mem Z;exact I.base.free b o Y (I.ok.frf b Z) fun z=>I.ok.exfs b z Z
theorem Inv.step{g':Array P7}{t':Nat}{d':Drawn}{ch:List dt}(I:Inv X pins σ H s)
  (U:∀b∈ch,(b∈X.ex\/X.s₀.heap.objs.size<=b)/\b≠X.env.locals/\(∀x c,X.env.cells.lookup x=ar c->c≠b)/\∀p∈X.pn++pins,p.1≠b)
  (keep:∀b o,b≠X.env.locals->b∉X.fs->b∉ch->s.heap.get? b=ar o->H b=none->h'.get? b=ar o)
  (S:∀b o,b≠X.env.locals->b∈X.fs->b∉ch->s.heap.get? b=ar o->H b=none->∃C,h'.get? b=ar {o with slots:=C}) (Y:∀b o,b∉ch->s.heap.get? b=ar o->H b=none->H' b=none)
  (Q:∀b o,b∉ch->s.heap.get? b=ar o->∃K,h'.get? b=ar K)
  (J:∀b xs,H b=ar (.tup xs)->H' b=ar (.tup xs)) (O:∀b o u,H b=ar (.frz o u)->H' b=ar (.frz o u)) (N:∀b G,H b=ar (.tbl G)->∃more,H' b=ar (.tbl (G++more)))
  (ns:∀m,s.heap.Ns X.env.locals m->h'.Ns X.env.locals m) (F:fK X.prog X.w H' h') (f:A_ g'):
  Inv X pins σ H' {s with heap:=h',gens:=g',drawn:=d',toks:=t'}:=by
 have L:∀b o,X.s₀.heap.get? b=ar o->b≠X.env.locals:=fun b o e=>LQ (LV (LK e) I.ok.above);have T:∀b o,X.s₀.heap.get? b=ar o->b∉X.ex->b∉ch:=fun b o e Z R=>by
  rcases (U b R).1 with z|z
  ·exact Z z
  ·exact absurd (LV (LK e) z) (Nb _)
 have cellK:∀x c,X.env.cells.lookup x=ar c->∀v,s.heap.IsCell c v->h'.IsCell c v:=fun x c e v ⟨o,P,hd⟩=>by
  have W:c∉ch:=fun z=>(U c z).2.2.1 x c e rfl;by_cases hc:c∈X.fs
  ·obtain⟨C,q⟩:=S c o (I.cne x c e) hc W P (I.freeC x c e);exact⟨_,q,hd⟩
  ·exact⟨o,keep c o (I.cne x c e) hc W P (I.freeC x c e),hd⟩
 refine⟨I.ok,I.os,f,⟨fun b o e n R Z=>?_,fun b o e n R Z=>?_,fun b o e n Z=>?_,fun b o e Z=>?_,fun b xs e=>J b xs (I.base.tups b xs e),fun b o xs e=>O b o xs (I.base.frzs b o xs e),fun b G e=>?_⟩,?_,fun x c e=>?_,?_,fun x c e=>?_,fun p A=>?_,F,I.len⟩
 ·exact keep b o (L b o e) R (T b o e Z) (I.base.keep b o e n R Z) (I.base.free b o e n Z)
 ·obtain⟨C,e1⟩:=I.base.slot b o e n R Z;obtain⟨E,e2⟩:=S b _ (L b o e) R (T b o e Z) e1 (I.base.free b o e n Z);exact⟨E,e2⟩
 ·obtain⟨K,e1⟩:=I.base.there b o e Z;exact Y b K (T b o e Z) e1 (I.base.free b o e n Z)
 ·obtain⟨K,e1⟩:=I.base.there b o e Z;exact Q b K (T b o e Z) e1
 ·obtain⟨h,e1⟩:=I.base.tbls b G e;obtain⟨y,e2⟩:=N b _ e1;exact⟨h++y,by rw[e2,Array.append_assoc]⟩
 ·obtain⟨m,t,g⟩:=I.loc;refine⟨m,ns m t,fun i x v e1 e2 j=>?_⟩;obtain⟨u,r,l⟩:=g i x v e1 e2 j;refine⟨u,r,?_⟩;rcases l with l|⟨k,c,e,z⟩
  ·exact .inl l
  ·exact .inr ⟨k,c,e,cellK x c e _ z⟩
 ·obtain⟨v,z⟩:=I.cell x c e;exact⟨v,cellK x c e v z⟩
 ·obtain⟨m,⟨o,_,_,P,_⟩,_⟩:=I.loc;exact Y _ o (fun z=>(U _ z).2.1 rfl) P I.free
 ·obtain⟨v,o,P,hd⟩:=I.cell x c e;exact Y c o (fun z=>(U c z).2.2.1 x c e rfl) P (I.freeC x c e)
 ·obtain⟨e,n,ne,B,d⟩:=I.pin p A;have W:p.1∉ch:=fun z=>(U p.1 z).2.2.2 p A rfl;exact⟨keep p.1 p.2 ne B W e n,Y p.1 p.2 W e n,ne,B,d⟩
theorem Inv.un{t':Nat}(I:Inv X pins σ H s)(u:Un X.fs [] H H' s.heap h')(Y:fK X.prog X.w H' h'):Inv X pins σ H' {s with heap:=h',toks:=t'}:=by
 obtain⟨m,⟨o,es,ep,T,r⟩,_⟩:=id I.loc;obtain⟨O,R⟩:=u.any T I.free (by simp)
 exact I.step (g':=s.gens) (d':=s.drawn) (ch:=[]) (fun _ z=>nomatch z) (fun b o _ U _ e n=>u.keep b o e n U (by simp)) (fun b o _ U _ e n=>u.slot b o e n U (by simp)) (fun b o _ e n=>u.free b o e n (by simp)) (fun b o _ e=>u.there b o e (by simp)) u.tups u.frzs u.tbls (fun P hm=>by
  obtain⟨Q,es',W,Z,S⟩:=hm;rw[T]at Z;cases Z;exact⟨_,es',W,R,S⟩) Y I.bare
theorem Inv.call{g':Array P7}{t':Nat}{d':Drawn}{ch:List dt}(I:Inv X pins σ H s)(u:Un (jG X.stack) ch H H' s.heap h')(U:fK X.prog X.w H' h')(O:A_ g')
  (W:∀b∈ch,(b∈X.ex\/X.s₀.heap.objs.size<=b)/\b≠X.env.locals/\(∀x c,X.env.cells.lookup x=ar c->c≠b)/\∀p∈X.pn++pins,p.1≠b):
  Inv X pins σ H' {s with heap:=h',gens:=g',drawn:=d',toks:=t'}:=by
 obtain⟨m,⟨o,es,ep,R,r⟩,_⟩:=id I.loc;obtain⟨K,T⟩:=u.any R I.free fun z=>(W _ z).2.1 rfl;exact I.step (ch:=ch) W (fun b o T P Z e n=>u.keep b o e n (fun z=>(LY.mp (I.stkSub b z)).elim T P) Z) (fun b o _ _ Z e n=>u.any e n Z) (fun b o Z e n=>u.free b o e n Z) (fun b o Z e=>u.there b o e Z) u.tups u.frzs u.tbls (fun L hm=>by
  obtain⟨N,es',S,Y,Q⟩:=hm;rw[R]at Y;cases Y;exact⟨_,es',S,T,Q⟩) U O
theorem Inv.turned{t':Nat}{it:dt}(I:Inv X pins σ H s)(k:∀b o,b≠it->s.heap.get? b=ar o->h'.get? b=ar o)(R:H it=none)(W:it≠X.env.locals)
  (T:it∈X.ex\/X.s₀.heap.objs.size<=it) (S:∀x c,X.env.cells.lookup x=ar c->c≠it) (U:∀p∈X.pn++pins,p.1≠it):Inv X pins σ H {s with heap:=h',toks:=t'}:=by
 have Y:∀b u,H b=ar u->b≠it:=fun b u e z=>by rw[z,R]at e;cases e
 refine I.step (g':=s.gens) (d':=s.drawn) (ch:=[it]) (fun b Q=>?_) (fun b o _ _ Z e _=>k b o (fun z=>Z (by simp[z])) e) (fun b o _ _ Z e _=>⟨o.slots,k b o (fun z=>Z (by simp[z])) e⟩) (fun _ _ _ _ n=>n)
  (fun b o Z e=>⟨o,k b o (fun z=>Z (by simp[z])) e⟩) (fun _ _ e=>e) (fun _ _ _ e=>e) (fun b O e=>⟨#[],by rw[e];simp⟩) (fun m hm=>?_) (fun b u e=>?_) I.bare
 ·have e:b=it:=by simpa using Q
  subst e;exact⟨T,W,S,U⟩
 ·obtain⟨o,es,ep,P,r⟩:=hm;exact⟨o,es,ep,k _ o (j7 W) P,r⟩
 ·refine(I.hok b u e).stay (fun c v Z q=>k c v ?_ q) (fun _ q=>q) fun _ _ q=>q;rcases Z with z|z
  ·rw[z];exact Y b u e
  ·exact Y c _ z
theorem Inv.tok(I:Inv X pins σ H s)(t:Nat):Inv X pins σ H {s with toks:=t}:=I.un (h':=s.heap) (t':=t) Un.refl I.hok
theorem Inv.kept(I:Inv X pins σ H s)(k:∀b u,s.heap.get? b=ar u->h'.get? b=ar u):Inv X pins σ H {s with heap:=h',toks:=t'}:=I.un (Un.kept k) (I.hok.kept k)
theorem Inv.laid(I:Inv X pins σ H s)(k:∀b u,s.heap.get? b=ar u->h'.get? b=ar u)(Z:s.heap.objs.size<=a)(Y:bj X.prog X.w (upd H a o) h' a o):
  Inv X pins σ (upd H a o) {s with heap:=h',toks:=t'}:=I.un (Un.laid k Z (I.hok.fresh Z)) (I.hok.laid k Z Y)
theorem Inv.write(I:Inv X pins σ H s)(W:JQ (H x))(U:e=x\/H e=ar (.own x))(k:∀b u,b≠e->s.heap.get? b=ar u->h'.get? b=ar u)(Z:∃u,h'.get? e=ar u)
  (Y:bj X.prog X.w (upd H x o) h' x o):Inv X pins σ (upd H x o) {s with heap:=h',toks:=t'}:=I.un (Un.write W U k Z) (I.hok.write W U k Z Y)
theorem Inv.pins_of(I:Inv X pins σ H s)(h:∀p∈pins',s.heap.get? p.1=ar p.2/\H p.1=none/\p.1≠X.env.locals/\p.1∉X.fs/\∀v,p.2.data≠ .cell v):Inv X pins' σ H s:=
 ⟨I.ok,I.os,I.bare,I.base,I.loc,I.cell,I.free,I.freeC,fun p Z=>(MQ.mp Z).elim (fun z=>I.pin p (MV _ z)) (h p),I.hok,I.len⟩
theorem oM{N:List Str}(Z:N.Nodup){i j:Nat}{x:Str}(a:N[i]? =ar x)(b:N[j]? =ar x):i=j:=by
 obtain⟨Y,e1⟩:=LH.mp a;obtain⟨W,e2⟩:=LH.mp b;exact(List.getElem_inj Z).mp (e1.trans e2.symm)
theorem qZ{M:RB}{A:h_}{E:aC->b_->Prop}{i:Nat}{x:Str}{v:V}{u:aC}{Q:Unit->b_->Prop}(I:Inv X pins σ H s)(hN:X.N.Nodup)(K:X.N[i]? =ar x)(Y:Loc X.env.scope x)(r:RelV v u)
  (h:∀s',Inv X pins (σ.set i (ar v)) H s'->(∃a,rn a s.heap s'.heap/\(a=X.env.locals\/X.env.cells.lookup x=ar a))->Q () s') (hf:X.fn x=c_\/X.env.scope.names.lookup x=ar .local:=by first|exact .inl rfl|exact .inr rfl|assumption):ee M A (storeName X.env x u) Q E s:=by
 obtain⟨m,t,hl⟩:=id I.loc;have P:(X.env.scope.kind== .class||(X.env.scope.kind== .module && X.env.locals !=X.env.globals))=false:=by rw[I.ok.kind];rfl
 have U:i<σ.length:=by rw[I.len];exact(LH.mp K).1
 have S:=I.cne;have tracked:∀{a:dt} {h':gd},(∃o,s.heap.get? a=ar o/\H a=none)->rn a s.heap h'->fK X.prog X.w H h':=fun{a h'} ha hs b ob e=>by
  obtain⟨_,_,W⟩:=ha;refine(I.hok b ob e).stay (fun c F Z q=>(hs.2 c ?_).trans q) (fun _ q=>q) fun _ _ q=>q;rintro rfl;rcases Z with rfl|Z
  ·rw[W]at e;cases e
  ·rw[W]at Z;cases Z
 rcases Y with hk|hk
 ·refine wpAny_storeName_local hk t (fun h' a4 hs=>?_) P;obtain⟨oL,_,_,g,_⟩:=id t;refine h _ ⟨I.ok,I.os,I.bare,⟨fun b o e n R Y=>?_,fun b o e n R Y=>?_,I.base.free,fun b o e Y=>?_,I.base.tups,I.base.frzs,I.base.tbls⟩,⟨_,a4,fun j y l e1 e2 e3=>?_⟩,fun y c e=>?_,I.free,I.freeC,fun p B=>?_,tracked ⟨oL,g,I.free⟩ hs,by simpa using I.len⟩ ⟨_,hs,.inl rfl⟩
  ·exact(hs.2 b (LQ (LV (LK e) I.ok.above))).trans (I.base.keep b o e n R Y)
  ·obtain⟨f,e1⟩:=I.base.slot b o e n R Y;exact⟨f,(hs.2 b (LQ (LV (LK e) I.ok.above))).trans e1⟩
  ·obtain⟨o',e1⟩:=I.base.there b o e Y;exact⟨o',(hs.2 b (LQ (LV (LK e) I.ok.above))).trans e1⟩
  ·by_cases hj:j=i
   ·subst hj;rw[K]at e1;cases e1;rw[Mh U]at e2;cases e2;exact⟨u,r,.inl ⟨hk,by simp⟩⟩
   ·rw[MI (j7 hj)]at e2;obtain⟨u',C,q⟩:=hl j y l e1 e2 e3;refine⟨u',C,?_⟩;rcases q with⟨k,e⟩|⟨k,c,e,z⟩
    ·refine .inl ⟨k,?_⟩;have:y≠x:=fun e=>hj (oM hN e1 (e ▸ K));simp[this,e]
    ·exact .inr ⟨k,c,e,z.sameBut hs (S y c e)⟩
  ·obtain⟨F,z⟩:=I.cell y c e;exact⟨F,z.sameBut hs (S y c e)⟩
  ·obtain⟨e,n,ne,nf,d⟩:=I.pin p B;exact⟨(hs.2 p.1 ne).trans e,n,ne,nf,d⟩
 ·have T:X.fn x=true:=by
   rcases hf with z|z
   ·exact z
   ·rw[z]at hk;cases hk
  obtain⟨c,Z⟩:=I.ok.has x (.inl hk);obtain⟨F,z⟩:=I.cell x c Z;refine wpAny_storeName_cell I.ok.kind hk Z z (fun h' O hs=>?_);obtain⟨oc,J,L⟩:=id z;refine h {s with heap:=h'} ⟨I.ok,I.os,I.bare,⟨fun b o e n R Y=>?_,fun b o e n R Y=>?_,I.base.free,fun b o e Y=>?_,I.base.tups,I.base.frzs,I.base.tbls⟩,⟨m,t.sameBut hs (j7 (S x c Z)),fun j y l e1 e2 e3=>?_⟩,fun y G e=>?_,I.free,I.freeC,fun p B=>?_,tracked ⟨oc,J,I.freeC x c Z⟩ hs,by simpa using I.len⟩ ⟨c,hs,.inr Z⟩
  ·exact(hs.2 b (LQ (LV (LK e) (I.ok.cab x c T Z)))).trans (I.base.keep b o e n R Y)
  ·obtain⟨f,e1⟩:=I.base.slot b o e n R Y;exact⟨f,(hs.2 b (LQ (LV (LK e) (I.ok.cab x c T Z)))).trans e1⟩
  ·obtain⟨o',e1⟩:=I.base.there b o e Y;exact⟨o',(hs.2 b (LQ (LV (LK e) (I.ok.cab x c T Z)))).trans e1⟩
  ·by_cases hj:j=i
   ·subst hj;rw[K]at e1;cases e1;rw[Mh U]at e2;cases e2;exact⟨u,r,.inr ⟨.inl hk,c,Z,O⟩⟩
   ·rw[MI (j7 hj)]at e2;obtain⟨u',C,q⟩:=hl j y l e1 e2 e3;refine⟨u',C,?_⟩;rcases q with q|⟨k,G,e,z'⟩
    ·exact .inl q
    ·refine .inr ⟨k,G,e,z'.sameBut hs ?_⟩;rintro rfl;exact hj (oM hN e1 (I.ok.inj _ _ _ e Z ▸ K))
  ·by_cases hcc:G=c
   ·subst hcc;exact⟨_,O⟩
   ·obtain⟨w2,z2⟩:=I.cell y G e;exact⟨w2,z2.sameBut hs hcc⟩
  ·obtain⟨e,n,ne,nf,d⟩:=I.pin p B;refine⟨(hs.2 p.1 ?_).trans e,n,ne,nf,d⟩;intro q;rw[q,J]at e;have q':oc=p.2:=L5 e;exact d F (by rw[<-q'];exact L)
theorem lg{Q:Unit->b_->Prop}(I:Inv X pins σ H s)(T:X.N.Nodup)(U:X.N[i]? =ar x)(W:Loc X.env.scope x)(r:RelV v u)
  (h:∀s',Inv X pins (σ.set i (ar v)) H s'->Q () s') (Z:X.fn x=c_\/X.env.scope.names.lookup x=ar .local:=by first|exact .inl rfl|exact .inr rfl|assumption):ee M A (storeName X.env x u) Q E s:=
 qZ I T U W r (fun s' Y _=>h s' Y) Z
theorem Inv.call'{s':b_}(I:Inv X pins σ H s)(U:s'.os=s.os)(u:Un (jG X.stack) ch H H' s.heap s'.heap)(Z:fK X.prog X.w H' s'.heap)(T:A_ s'.gens)
  (Y:∀b∈ch,(b∈X.ex\/X.s₀.heap.objs.size<=b)/\b≠X.env.locals/\(∀x c,X.env.cells.lookup x=ar c->c≠b)/\∀p∈X.pn++pins,p.1≠b):Inv X pins σ H' s':=by
 obtain⟨h',g',d',t',W⟩:=s';have e:W=s.os:=U;subst e;exact I.call (g':=g') (t':=t') (d':=d') u Z T Y
end
abbrev XK:=aC->Option dt->Hp->Prop
abbrev St:=List (Option V)
abbrev VK:=V->Hp->Prop
abbrev TE:=St->Hp->VK->Prop
abbrev TT:=St->Hp->(Bool->Hp->Prop)->Prop
abbrev TA:=St->Hp->(List V->Hp->Prop)->Prop
structure Ends where
 nx:St->Hp->Prop
 rt:VK
 bk:St->Hp->Prop:=fun _ _=>False
 ct:St->Hp->Prop:=fun _ _=>False
abbrev TS:=Ends->St->Hp->Prop
def EP(X:Cx)(pins:List (dt×Obj))(σ:St)(Q:VK)(u:aC)(s':b_):Prop:=∃v H',Inv X pins σ H' s'/\RelV v u/\Q v H'
def TP(X:Cx)(pins:List (dt×Obj))(σ:St)(Q:Bool->Hp->Prop)(b:Bool)(s':b_):Prop:=∃H',Inv X pins σ H' s'/\Q b H'
def AP(X:Cx)(pins:List (dt×Obj))(σ:St)(Q:List V->Hp->Prop)(us:List aC)(s':b_):Prop:=∃vs H',Inv X pins σ H' s'/\bb vs us/\Q vs H'
def SP(X:Cx)(pins:List (dt×Obj))(D:Ends)(f:Flow)(s':b_):Prop:=
 match f with
 | .next=>∃ σ' H',Inv X pins σ' H' s'/\D.nx σ' H'
 | .brk=>∃ σ' H',Inv X pins σ' H' s'/\D.bk σ' H'
 | .cont=>∃ σ' H',Inv X pins σ' H' s'/\D.ct σ' H'
 | .ret u=>∃v σ' H',Inv X pins σ' H' s'/\RelV v u/\D.rt v H'
def PE(X:Cx)(e:Expr)(t:TE):Prop:=
 ∀(pins:List (dt×Obj)) (s:b_) (σ:St) (H:Hp) (Q:VK),Inv X pins σ H s->t σ H Q->ee (fc X.prog X.w) X.A (h9 e X.env) (EP X pins σ Q) X.xe s
def PT(X:Cx)(e:Expr)(t:TT):Prop:=
 ∀(pins:List (dt×Obj)) (s:b_) (σ:St) (H:Hp) (Q:Bool->Hp->Prop),Inv X pins σ H s->t σ H Q->ee (fc X.prog X.w) X.A (isTrue e X.env (h9 e X.env)) (TP X pins σ Q) X.xe s
def PW(X:Cx)(e:Expr)(t:TT):Prop:=
 ∀(whole:Sem aC) (pins:List (dt×Obj)) (s:b_) (σ:St) (H:Hp) (Q:Bool->Hp->Prop),Inv X pins σ H s->t σ H Q->ee (fc X.prog X.w) X.A (isTrue e X.env whole) (TP X pins σ Q) X.xe s
theorem PW.pt(h:PW X e t):PT X e t:=h _
def PA(X:Cx)(es:List Expr)(t:TA):Prop:=
 ∀(pos:Pos) (pins:List (dt×Obj)) (s:b_) (σ:St) (H:Hp) (Q:List V->Hp->Prop),Inv X pins σ H s->t σ H Q->ee (fc X.prog X.w) X.A (spliced (nC pos (eb es X.env))) (AP X pins σ Q) X.xe s
def PS(X:Cx)(st:n3)(t:TS):Prop:=
 ∀(pins:List (dt×Obj)) (s:b_) (σ:St) (H:Hp) (D:Ends),Inv X pins σ H s->t D σ H->ee (fc X.prog X.w) X.A (exec st X.env) (SP X pins D) X.xe s
def oO(X:Cx)(st:List n3)(t:TS):Prop:=
 ∀(pins:List (dt×Obj)) (s:b_) (σ:St) (H:Hp) (D:Ends),Inv X pins σ H s->t D σ H->ee (fc X.prog X.w) X.A (execs st X.env) (SP X pins D) X.xe s
theorem de{α:Type}{t:Sem α}{Q Z:α->b_->Prop}{M:RB}{A:h_}{E:aC->b_->Prop}{s:b_}(h:ee M A t Q E s)(Y:∀a s,Q a s->Z a s):ee M A t Z E s:=Mb h Y fun _ _ x=>x
end L2
namespace L2
open PySem PySem.Spec PyProof.Rows
section
variable {X:Cx}
def ug(i:Nat):TE:=fun σ H Q=>∃v,σ[i]? =ar (ar v)/\Q v H
def tC(v:V):TE:=fun _ H Q=>Q v H
theorem jK(U:X.N[i]? =ar x)(S:yR X.env.scope x)(Z:(x==("__debug__":Str))=false:=by decide)(Y:(x==("__classdict__":Str))=false:=by decide):PE X (.Name x pos) (ug i):=by
 intro pins s σ H Q I h;obtain⟨v,e,h⟩:=h;obtain⟨m,T,W⟩:=I.loc;obtain⟨u,r,l⟩:=W i x v U e S;have fin:EP X pins σ Q u s:=⟨v,H,I,r,h⟩;rcases l with⟨hk,hm⟩|⟨hk,c,hc,hcell⟩
 ·exact Q3 (wpAny_loadName_local I.ok.kind hk T hm fin) Z
 ·rcases hk with hk|hk
  ·exact Q3 (wpAny_loadName_cell I.ok.kind hk hc hcell fin) Z
  ·exact Q3 (wpAny_loadName_free I.ok.kind hk hc hcell fin Y) Z
theorem AK{i j pos}:PE X (.Constant (.int i) j pos) (tC (.int i)):=fun _ _ _ H _ I h=>wpAny_Constant_int ⟨.int i,H,I.tok _,⟨_,rfl⟩,h⟩
theorem Ij{b j pos}:PE X (.Constant (.bool b) j pos) (tC (.bl b)):=fun _ _ _ H _ I h=>Constant_bool ⟨.bl b,H,I,rfl,h⟩
theorem FN{j pos}:PE X (.Constant .none j pos) (tC .non):=fun _ _ _ H _ I h=>Constant_none ⟨.non,H,I,rfl,h⟩
theorem FO{x j pos}:PE X (.Constant (.str x) j pos) (tC (.str x)):=fun _ _ _ H _ I h=>Calls.Constant_str ⟨.str x,H,I.tok _,⟨_,rfl⟩,h⟩
def Gl(X:Cx)(x:Str):Prop:=X.env.kindOf x=ar .globalImplicit
theorem iX{Q:aC->b_->Prop}(I:Inv X pins σ H s)(Z:Gl X x)(W:X.mg x=ar u)(h:Q u s)
  (Y:(x==("__debug__":Str))=false:=by decide):ee (fc X.prog X.w) X.A (h9 (.Name x pos) X.env) Q E s:=
 O0 I.ok.kind Z (Calls.loadGlobal_global (by rw[I.ok.glob];exact I.mod.glob.keeps I.bk) W h) Y
theorem kF{Q:aC->b_->Prop}(I:Inv X pins σ H s)(R:Gl X x)(W:X.mg x=none)(U:kS x=ar u)(h:Q u s)
  (Z:x≠"__name__":=by decide) (Y:(x==("__debug__":Str))=false:=by decide):ee (fc X.prog X.w) X.A (h9 (.Name x pos) X.env) Q E s:=by
 obtain⟨P,T,S⟩:=I.mod.blt;exact O0 I.ok.kind R (Calls.loadGlobal_builtin (by rw[I.ok.glob];exact I.mod.glob.keeps I.bk) W (by rw[I.ok.blt];exact T.keeps I.bk) ((S x Z).trans U) h) Y
theorem xC(W:Gl X x)(Y:X.mg x=ar u)(r:RelV v u)(Z:(x==("__debug__":Str))=false:=by decide):PE X (.Name x pos) (tC v):=
 fun _ _ _ H _ I h=>iX I W Y ⟨v,H,I,r,h⟩ Z
theorem og(T:Gl X x)(W:X.mg x=none)(U:kS x=ar u)(r:RelV v u)(Z:x≠"__name__":=by decide)(Y:(x==("__debug__":Str))=false:=by decide):PE X (.Name x pos) (tC v):=
 fun _ _ _ H _ I h=>kF I T W U ⟨v,H,I,r,h⟩ Z Y
variable {a b:Expr}{ta tb:TE}{pos:Pos}
theorem oQ(b:Expr)(h:op≠ .In)(Z:op≠ .NotIn):lx op b=false:=by
 have e1:(op==CmpOp.In)=false:=by cases op<;>first|rfl|exact absurd rfl h
 have e2:(op==CmpOp.NotIn)=false:=by cases op<;>first|rfl|exact absurd rfl Z
 cases b<;>simp[lx,e1,e2]
def tB(t:TE):TT:=fun σ H Q=>t σ H fun x H1=>∃c,x= .bl c/\Q c H1
theorem FP(h:PE X e t)(Z:∀whole,isTrue e X.env whole=(do let v<-whole;K' e.pos;y3 [v] (truthy v)):=by intro _;rfl):PT X e (tB t):=by
 intro pins s σ H Q I hw;refine isTrue_plain (de (h pins s σ H _ I hw) fun v s1 ⟨x,H1,I1,r1,q1⟩=>?_) (Z _);obtain⟨d,rfl,q⟩:=q1;cases r1;exact MR ⟨H1,I1,q⟩
variable {tA tB':TT}{rest:List Expr}
def Kf(t u:TT):TT:=fun σ H Q=>t σ H fun c H1=>if c=c_ then u σ H1 Q else Q dV H1
def Li(t u:TT):TT:=fun σ H Q=>t σ H fun c H1=>if c=c_ then Q c_ H1 else u σ H1 Q
def Kg(t:TT):TT:=fun σ H Q=>t σ H fun c H1=>Q (!c) H1
theorem Dt(Z:PT X a tA):PW X (.BoolOp .And [a] pos) tA:=by
 intro Y pins s σ H Q I h;refine isTrue_and (de (Z pins s σ H Q I h) fun c s1 e=>?_);cases c with
 |true=>exact isTrue_and_nil e
 |false=>exact e
theorem FQ(Z:PT X a tA):PW X (.BoolOp .Or [a] pos) tA:=by
 intro Y pins s σ H Q I h;refine isTrue_or (de (Z pins s σ H Q I h) fun c s1 e=>?_);cases c with
 |false=>exact isTrue_or_nil e
 |true=>exact e
theorem FR(Z:PT X a tA)(Y:PW X (.BoolOp .And (b::rest) pos) tB'):PW X (.BoolOp .And (a::b::rest) pos) (Kf tA tB'):=by
 intro W pins s σ H Q I h;refine isTrue_and (de (Z pins s σ H _ I h) fun c s1 ⟨H1,I1,q1⟩=>?_);cases c with
 |true=>exact Y W pins s1 σ H1 Q I1 q1
 |false=>exact⟨H1,I1,q1⟩
theorem Ik(Z:PT X a tA)(Y:PW X (.BoolOp .Or (b::rest) pos) tB'):PW X (.BoolOp .Or (a::b::rest) pos) (Li tA tB'):=by
 intro W pins s σ H Q I h;refine isTrue_or (de (Z pins s σ H _ I h) fun c s1 ⟨H1,I1,q1⟩=>?_);cases c with
 |true=>exact⟨H1,I1,q1⟩
 |false=>exact Y W pins s1 σ H1 Q I1 q1
theorem FS(Z:PT X a tA):PT X (.UnaryOp .Not a pos) (Kg tA):=by
 intro pins s σ H Q I h;exact isTrue_not (Z pins s σ H (fun c Y=>Q (!c) Y) I h)
def Il(ta tb:TE):TE:=fun σ H Q=>ta σ H fun x H1=>∃c,x= .bl c/\if c=c_ then tb σ H1 Q else Q (.bl dV) H1
def Im(ta:TE):TE:=fun σ H Q=>ta σ H fun x H1=>∃c,x= .bl c/\Q (.bl (!c)) H1
theorem FT{op}(h:PE X a t):PE X (.BoolOp op [a] pos) t:=fun pins s σ H Q I hw=>BoolOp_one (h pins s σ H Q I hw)
theorem FU(Y:PE X a ta)(W:PE X (.BoolOp .And (b::rest) pos) tb):PE X (.BoolOp .And (a::b::rest) pos) (Il ta tb):=by
 intro pins s σ H Q I h;refine BoolOp_and (de (Y pins s σ H _ I h) fun v s1 ⟨x,H1,I1,r1,Z⟩=>?_);obtain⟨c,rfl,Z⟩:=Z;cases r1;refine MR ?_;cases c with
 |true=>exact W pins s1 σ H1 Q I1 Z
 |false=>exact⟨.bl dV,H1,I1,rfl,Z⟩
theorem FV(Y:PE X a ta):PE X (.UnaryOp .Not a pos) (Im ta):=by
 intro pins s σ H Q I h;refine UnaryOp_ (de (Y pins s σ H _ I h) fun v s1 ⟨x,H1,I1,r1,Z⟩=>?_);obtain⟨c,rfl,Z⟩:=Z;cases r1;exact not_of (MR ⟨.bl (!c),H1,I1,rfl,Z⟩)
def Lj(t:TT)(ta tb:TE):TE:=fun σ H Q=>t σ H fun c H1=>if c=c_ then ta σ H1 Q else tb σ H1 Q
theorem AL(Z:PT X c tA)(Y:PE X a ta)(W:PE X b tb):PE X (.IfExp c a b pos) (Lj tA ta tb):=by
 intro pins s σ H Q I h;refine wpAny_IfExp (de (Z pins s σ H _ I h) fun d s1 ⟨H1,I1,q1⟩=>?_);cases d with
 |true=>exact Y pins s1 σ H1 Q I1 q1
 |false=>exact W pins s1 σ H1 Q I1 q1
end
end L2
namespace L2
open PySem PySem.Spec PyProof.Rows
def iY(K:d_)(H:Hp)(a:dt)(xs:List V):Prop:=
 Rd H a (.lst xs)\/
  ∃(o:Obj) (its:Array aC) (n:Nat),K.lookup a=ar o/\o.cls= .type "list"/\o.dict=none/\o.data= .seq its n/\its.size<=sizeLine/\bb xs its.toList
def kG(K:d_)(H:Hp)(a:dt)(xs:List V):Prop:=
 Rd H a (.tup xs)\/
  ∃(o:Obj) (its:Array aC) (n:Nat),K.lookup a=ar o/\o.cls= .type "tuple"/\o.data= .seq its n/\its.size<=sizeLine/\bb xs its.toList
def Kh:aC->Option V
 | .none=>ar .non
 | .bool b=>ar (.bl b)
 | .int i _=>ar (.int i)
 | .str x _=>ar (.str x)
 | .bytes b _=>ar (.byt b)
 | .float b _=>ar (.flt b)
 | .ref a=>ar (.ref a)
 | .type n=>ar (.ty n)
 |_=>none
theorem RelV.abs(r:RelV x u):Kh u=ar x:=by
 cases x with
 |non=>cases r;rfl
 |bl _=>cases r;rfl
 |int _=>obtain⟨t,rfl⟩:=r;rfl
 |str _=>obtain⟨t,rfl⟩:=r;rfl
 |byt _=>obtain⟨t,rfl⟩:=r;rfl
 |flt _=>obtain⟨t,rfl⟩:=r;rfl
 |ref _=>cases r;rfl
 |ty _=>cases r;rfl
theorem RelV.inj(r:RelV x u)(q:RelV y u):x=y:=L5 (r.abs.symm.trans q.abs)
theorem bb.inj:∀{xs ys:List V} {us:List aC},bb xs us->bb ys us->xs=ys
 |_,_,_,.nil,.nil=>rfl
 |_,_,_,.cons r t,.cons r' t'=>by rw[r.inj r',bb.inj t t']
section
variable {X:Cx}{pins:List (dt×Obj)}{σ:St}{H:Hp}{s:b_}{a:dt}{xs ys:List V}
theorem iY.of{K:d_}(h:H a=ar (.lst xs)):iY K H a xs:=.inl (.inl h)
theorem kG.of{K:d_}(h:H a=ar (.tup xs)):kG K H a xs:=.inl (.inl h)
theorem Inv.list(I:Inv X pins σ H s)(h:iY X.K H a xs):∃its:List aC,bb xs its/\PlainL s.heap a its.toArray/\xs.length<=sizeLine:=by
 rcases h with h|⟨o,its,n,hk,hc,hd,hs,hz,r⟩
 ·obtain⟨z,its,n,r,e⟩:=h.ok I.hok;exact⟨its,r,⟨_,n,e,rfl,rfl,rfl⟩,z⟩
 ·refine⟨its.toList,r,⟨o,n,I.kIn a o hk,hc,hd,by simpa using hs⟩,?_⟩
  have e:=r.length;simp only[E_]at e;omega
theorem Inv.tuple(I:Inv X pins σ H s)(h:kG X.K H a xs):∃its:List aC,bb xs its/\Rj s.heap a its.toArray/\xs.length<=sizeLine:=by
 rcases h with h|⟨o,its,n,hk,hc,hs,hz,r⟩
 ·obtain⟨z,its,r,p⟩:=h.ok I.hok;exact⟨its,r,p,z.1⟩
 ·refine⟨its.toList,r,⟨o,I.kIn a o hk,hc,n,by simpa using hs⟩,?_⟩
  have e:=r.length;simp only[E_]at e;omega
theorem Inv.list_inj(I:Inv X pins σ H s)(h:iY X.K H a xs)(h':iY X.K H a ys):xs=ys:=by
 obtain⟨its,r,⟨o,n,e,_,_,d⟩,_⟩:=I.list h;obtain⟨its',Y,⟨W,U,Z,_,_,d'⟩,_⟩:=I.list h';rw[e]at Z;cases Z;rw[d]at d';injection d' with d1 _;have:its=its':=by simpa using OE Array.toList d1
 subst this;exact r.inj Y
theorem Inv.tuple_inj(I:Inv X pins σ H s)(h:kG X.K H a xs)(h':kG X.K H a ys):xs=ys:=by
 obtain⟨its,r,⟨o,e,_,n,d⟩,_⟩:=I.tuple h;obtain⟨its',Y,⟨W,Z,_,U,d'⟩,_⟩:=I.tuple h';rw[e]at Z;cases Z;rw[d]at d';injection d' with d1 _;have:its=its':=by simpa using OE Array.toList d1
 subst this;exact r.inj Y
end
abbrev Cx.wish(X:Cx)(E:aC->b_->Prop):Cx:={X with xe:=E}
abbrev Cx.nox(X:Cx):Cx:=X.wish fun _ _=>False
theorem Cx.Ok.wish{X:Cx}(Z:X.Ok)(E:aC->b_->Prop):(X.wish E).Ok:=
 ⟨Z.mod,Z.kind,Z.glob,Z.blt,Z.above,Z.inj,Z.has,Z.cab,Z.hd,Z.frames,Z.stk,Z.exf,Z.bs,Z.bsz,Z.noex,Z.exfs,Z.funs,Z.frf⟩
theorem Cx.Ok.unwish{X:Cx}(Z:(X.wish E).Ok):X.Ok:=
 ⟨Z.mod,Z.kind,Z.glob,Z.blt,Z.above,Z.inj,Z.has,Z.cab,Z.hd,Z.frames,Z.stk,Z.exf,Z.bs,Z.bsz,Z.noex,Z.exfs,Z.funs,Z.frf⟩
section
variable {X:Cx}{pins:List (dt×Obj)}{σ:St}{H:Hp}{s:b_}{E:aC->b_->Prop}
theorem Inv.wish(I:Inv X pins σ H s)(E:aC->b_->Prop):Inv (X.wish E) pins σ H s:=⟨I.ok.wish E,I.os,I.bare,I.base,I.loc,I.cell,I.free,I.freeC,I.pin,I.hok,I.len⟩
theorem Inv.unwish(I:Inv (X.wish E) pins σ H s):Inv X pins σ H s:=⟨I.ok.unwish,I.os,I.bare,I.base,I.loc,I.cell,I.free,I.freeC,I.pin,I.hok,I.len⟩
theorem SP.unwish(h:SP (X.wish E) pins D f s'):SP X pins D f s':=by
 cases f with
 |next=>obtain⟨Z,Y,I,q⟩:=h;exact⟨Z,Y,I.unwish,q⟩
 |brk=>obtain⟨Z,Y,I,q⟩:=h;exact⟨Z,Y,I.unwish,q⟩
 |cont=>obtain⟨Z,Y,I,q⟩:=h;exact⟨Z,Y,I.unwish,q⟩
 |ret u=>obtain⟨v,Z,Y,I,r,q⟩:=h;exact⟨v,Z,Y,I.unwish,r,q⟩
theorem oO.nox{Z:List n3}{t:TS}(h:oO X.nox Z t):oO X Z t:=fun pins s σ H D I hw=>
 Mb (h pins s σ H D (I.wish _) hw) (fun _ _ q=>q.unwish) fun _ _ z=>hO z
end
section
variable {X:Cx}{st:n3}{rest:List n3}{t u:TS}{e:Expr}{te:TE}{pos:Pos}
def Io:TS:=fun D σ H=>D.nx σ H
def Ki(t u:TS):TS:=fun D σ H=>t {D with nx:=u D} σ H
theorem Du:oO X [] Io:=fun _ _ σ H _ I h=>NK ⟨σ,H,I,h⟩
theorem oR(W:PS X st t)(U:oO X rest u):oO X (st::rest) (Ki t u):=by
 intro pins s σ H D I h;refine N1 (de (W pins s σ H {D with nx:=u D} I h) fun f s1 q=>?_);cases f with
 |next=>
  obtain⟨Z,T,Y,q⟩:=q;exact U pins s1 Z T D Y q
 |ret v=>exact q
 |brk=>exact q
 |cont=>exact q
theorem sv(Z:PS X st t):oO X [st] t:=by
 intro pins s σ H D I h;refine N1 (de (Z pins s σ H D I h) fun f s1 q=>?_);cases f with
 |next=>exact NK q
 |ret v=>exact q
 |brk=>exact q
 |cont=>exact q
theorem Inv.quiet(I:Inv X pins σ H s):interactive X.env=false:=by simp[interactive,I.ok.kind]
def Ip(te:TE):TS:=fun D σ H=>te σ H fun _ H1=>D.nx σ H1
theorem Dv(Z:PE X e te)(hs:k7 e none pos.line X.env=a_ false:=by rfl):PS X (.Expr e pos) (Ip te):=by
 intro pins s σ H D I h;exact PN (de (Z pins s σ H _ I h) fun v s1 ⟨x,H1,I1,r1,q1⟩=>⟨σ,H1,I1,q1⟩) I.quiet hs
def Kj(te:TE):TS:=fun D σ H=>te σ H D.rt
theorem FW(Z:PE X e te):PS X (.Return (ar e) pos) (Kj te):=by
 intro pins s σ H D I h;exact wpAny_Return_some (de (Z pins s σ H _ I h) fun v s1 ⟨x,H1,I1,r1,q1⟩=>⟨x,σ,H1,I1,r1,q1⟩)
def Kk(c:TT)(t u:TS):TS:=fun D σ H=>c σ H fun b H1=>if b=c_ then t D σ H1 else u D σ H1
theorem Fg(Z:PT X c tc)(Y:oO X a t)(W:oO X b u):PS X (.If c a b pos) (Kk tc t u):=by
 intro pins s σ H D I h;refine wpAny_If (de (Z pins s σ H _ I h) fun d s1 ⟨H1,I1,q1⟩=>?_);cases d with
 |true=>exact Y pins s1 σ H1 D I1 q1
 |false=>exact W pins s1 σ H1 D I1 q1
end
abbrev TG:=V->St->Hp->(St->Hp->Prop)->Prop
abbrev FX:=List V->St->Hp->(St->Hp->Prop)->Prop
def PG(X:Cx)(target:Expr)(t:TG):Prop:=
 ∀(pins:List (dt×Obj)) (s:b_) (σ:St) (H:Hp) (v:V) (u:aC) (Q:St->Hp->Prop),Inv X pins σ H s->RelV v u->t v σ H Q->
  ee (fc X.prog X.w) X.A (P1 target X.env u) (fun _ s'=>∃ σ' H',Inv X pins σ' H' s'/\Q σ' H') X.xe s
def Dk(X:Cx)(ts:List Expr)(t:FX):Prop:=
 ∀(pins:List (dt×Obj)) (s:b_) (σ:St) (H:Hp) (vs:List V) (us:List aC) (Q:St->Hp->Prop),Inv X pins σ H s->bb vs us->t vs σ H Q->
  ee (fc X.prog X.w) X.A (assignInOrder ((o_ ts X.env).map (·.2)) us) (fun _ s'=>∃ σ' H',Inv X pins σ' H' s'/\Q σ' H') X.xe s
abbrev FY:=V->V->V->Hp->(Hp->Prop)->Prop
def Iq(X:Cx)(t:FY):Prop:=
 ∀(pins:List (dt×Obj)) (s:b_) (σ:St) (H:Hp) (o i v:V) (ov iv u:aC) (Q:Hp->Prop),Inv X pins σ H s->RelV o ov->RelV i iv->RelV v u->t o i v H Q->
  ee (fc X.prog X.w) X.A (RQ ov iv u) (fun _ s'=>∃H',Inv X pins σ H' s'/\Q H') X.xe s
section
variable {X:Cx}{pos:Pos}
def AM(i:Nat):TG:=fun v σ H Q=>Q (σ.set i (ar v)) H
theorem Dw(T:X.N.Nodup)(U:X.N[i]? =ar x)(W:Loc X.env.scope x)(Z:X.fn x=c_\/X.env.scope.names.lookup x=ar .local:=by first|exact .inl rfl|exact .inr rfl|assumption):PG X (.Name x pos) (AM i):=by
 intro pins s σ H v u Q I r h;exact wpAny_assign_Name (lg I T U W r (fun s' Y=>⟨_,H,Y,h⟩) Z)
def Kl:FX:=fun vs σ H Q=>vs=[]/\Q σ H
def Ir(t:TG)(u:FX):FX:=fun vs σ H Q=>∃v r,vs=v::r/\t v σ H fun σ' H'=>u r σ' H' Q
theorem Dx:Dk X [] Kl:=by
 intro pins s σ H vs us Q I r h;obtain⟨e,h⟩:=h;subst e;cases r;exact assignInOrder_nil ⟨σ,H,I,h⟩
theorem AN(Z:PG X e t)(Y:Dk X es u)
  (hs:(o_ (e::es) X.env).map (·.2)=P1 e X.env::(o_ es X.env).map (·.2):=by rfl):Dk X (e::es) (Ir t u):=by
 intro pins s σ H vs us Q I r h;obtain⟨v,W,e1,h⟩:=h;subst e1;cases r with
 |cons r rr=>
  rw[hs];refine assignInOrder_cons (de (Z pins s σ H _ _ _ I r h) fun _ s1 ⟨σ1,H1,I1,q1⟩=>?_);exact Y pins s1 σ1 H1 _ _ Q I1 rr q1
def Km(K:d_)(n:Nat)(t:FX):TG:=fun v σ H Q=>∃a xs,v= .ref a/\kG K H a xs/\xs.length=n/\t xs σ H Q
theorem FZ(O:X.calm=c_)(h:Dk X es t)
  (P:(o_ es X.env).length=n:=by rfl) (Z:(o_ es X.env).findIdx? (·.1)=none:=by rfl):PG X (.Tuple es k pos) (Km X.K n t):=by
 intro pins s σ H v u Q I r hw;obtain⟨a,xs,e1,W,R,hw⟩:=hw;subst e1;cases r;obtain⟨its,Y,S,N⟩:=I.tuple W;refine assign_Tuple_tuple (I.ok.hd O) S (by simp[P, <-R,Y.length]) Z fun h' T=>?_
 have U:Inv X pins σ H {s with heap:=h'}:=I.kept (t':=s.toks) fun b o e=>T b o (LQ (LK e)) e;exact h pins _ σ H xs _ Q U (by simpa using Y) hw
def Kn(to ti:TE)(t:FY):TG:=fun v σ H Q=>to σ H fun o H1=>ti σ H1 fun i H2=>t o i v H2 fun H3=>Q σ H3
theorem F4(Y:PE X o to)(W:PE X i ti)(hs:Iq X t)
  (Z:∀v,P1 (.Subscript o i pos) X.env v=(do
   let ov<-y3 [v] (h9 o X.env);let iv<-y3 [v,ov] (h9 i X.env)
   K' pos
   y3 [v,ov,iv] (RQ ov iv v)
   release [v,ov,iv] []):=by intro _;rfl):PG X (.Subscript o i pos) (Kn to ti t):=by
 intro pins s σ H v u Q I r h;rw[Z];refine LA (Mw (de (Y pins s σ H _ I h) fun ov s1 ⟨x,H1,I1,r1,q1⟩=>?_));refine LA (Mw (de (W pins s1 σ H1 _ I1 q1) fun iv s2 ⟨y,H2,I2,r2,q2⟩=>?_));refine LA (MN (LA (Mw (de (hs pins s2 σ H2 x y v ov iv u _ I2 r1 r2 r q2) fun _ s3 ⟨H3,I3,q3⟩=>?_))));exact wpAny_release ⟨σ,H3,I3,q3⟩
def F5(te:TE)(g:TG):TS:=fun D σ H=>te σ H fun x H1=>g x σ H1 D.nx
theorem F6(U:PE X e te)(Y:PG X tg g)(hs:swapsWithSole [tg] e pos.line X.env=a_ false:=by rfl)(W:swappedStores [tg] e X.env=a_ none:=by rfl)
  (Z:(o_ [tg] X.env).map (·.2)=[P1 tg X.env]:=by rfl):PS X (.Assign [tg] e pos) (F5 te g):=by
 intro pins s σ H D I h;refine wpAny_Assign_stores (de (U pins s σ H _ I h) fun v s1 ⟨x,H1,I1,r1,q1⟩=>?_) hs W;rw[Z];exact de (Y pins s1 σ H1 x v _ I1 r1 q1) fun _ s2 q=>q
theorem AO(S:X.N.Nodup)(U:X.N[i]? =ar x)(W:Loc X.env.scope x)(T:PE X e te)(hs:k7 e (ar (.Name x pos')) pos.line X.env=a_ false:=by rfl)(Y:X.fn x=c_\/X.env.scope.names.lookup x=ar .local:=by first|exact .inl rfl|exact .inr rfl|assumption):
  PS X (.Assign [.Name x pos'] e pos) (F5 te (AM i)):=by
 intro pins s σ H D I h;refine wpAny_Assign_Name (de (T pins s σ H _ I h) fun v s1 ⟨y,H1,I1,r1,q1⟩=>?_) hs;exact lg I1 S U W r1 (fun s2 Z=>⟨_,H1,Z,q1⟩) Y
end
section
variable {X:Cx}{pos:Pos}
def F7(c:TT)(tb:TS):TS:=fun D σ H=>∃W:Nat->St->Hp->Prop,(∃m,W m σ H)/\∀m σ H,W m σ H->
 c σ H fun b H1=>if b=c_ then ∃N:St->Hp->Prop,(∀ σ' H',N σ' H'->∃m',m'<m/\W m' σ' H')/\tb {D with nx:=N,ct:=N,bk:=D.nx} σ H1 else D.nx σ H1
theorem AQ{c:Expr}{body:List n3}{O:TT}{tb:TS}(K:Qh (fc X.prog X.w) X.A X.env X.xe)(J:PT X c O)(G:oO X body tb):PS X (.While c body [] pos) (F7 O tb):=by
 intro pins s σ H D I h;obtain⟨W,⟨m0,F⟩,turn⟩:=h;refine wpAny_While (codeAny_whileLoop (fun n s'=>∃ σ' H',Inv X pins σ' H' s'/\W n σ' H') ?_ m0 ⟨σ,H,I,F⟩);rintro n s1 ⟨σ1,H1,I1,w1⟩;refine Nq K (de (J pins s1 σ1 H1 _ I1 (turn n σ1 H1 w1)) fun b s2 ⟨H2,I2,T⟩=>?_);cases b with
 | true=>
  obtain⟨N,L,T⟩:=T;rw[if_pos rfl];refine Nq K (de (G pins s2 σ1 H2 _ I2 T) fun f s3 U=>?_);cases f with
  |next=>
   obtain⟨Z,Y,Q,S⟩:=U;obtain⟨P,hm,R⟩:=L Z Y S;exact⟨P,hm,Z,Y,Q,R⟩
  |cont=>
   obtain⟨Z,Y,Q,S⟩:=U;obtain⟨P,hm,R⟩:=L Z Y S;exact⟨P,hm,Z,Y,Q,R⟩
  |brk=>exact U
  |ret v=>exact U
 |false=>
  rw[if_neg MP];exact NK ⟨σ1,H2,I2,T⟩
end
structure It where
 go:Nat->Hp->Prop
 yld:Nat->Hp->V->Hp->Prop
 stop:Nat->Hp->Prop
def iZ(X:Cx)(pins:List (dt×Obj))(H:Hp)(b:dt):Prop:=
 H b=none/\b≠X.env.locals/\b∉X.fs/\(b∈X.ex\/X.s₀.heap.objs.size<=b)/\(∀x c,X.env.cells.lookup x=ar c->c≠b)/\∀p∈X.pn++pins,p.1≠b
theorem Inv.fpOk{Y:Hp}(I:Inv X pins σ H s)(Z:s.heap.objs.size<=b)(W:Y b=none):iZ X pins Y b:=by
 refine⟨W,M6 (LV I.lt Z),I.nofs Z,.inr (LS I.sz Z),fun x c e z=>?_,fun p U z=>?_⟩
 ·obtain⟨v,q⟩:=I.cell x c e;exact absurd (LV q.lt (by rw[z];exact Z)) (Nb _)
 ·exact absurd (LV (LK (I.pin p U).1) (by rw[z];exact Z)) (Nb _)
structure Turn(P:e_)(w:f')(K:d_)(tg:Expr)(J:It)(fp:List dt)(it:dt)(tn:Nat->gd->Prop):Prop where
 mem:it∈fp
 obj:∀i h,tn i h->∀b∈fp,∃o,h.get? b=ar o/\∀v,o.data≠ .cell v
 keep:∀i h h',tn i h->(∀b∈fp,∀o,h.get? b=ar o->h'.get? b=ar o)->tn i h'
 item:∀(X:Cx),X.prog=P->X.w=w->X.K=K->X.calm=c_->∀(i:Nat) (pins:List (dt×Obj)) (s:b_) (σ:St) (H:Hp) (E:aC->b_->Prop),Inv X pins σ H s->(∀b∈fp,iZ X pins H b)->tn i s.heap->J.go i H->
  ee (fc P w) X.A (z4 (.ref it)) (fun r s1=>∃u,r=ar u/\
   ee (fc P w) X.A (EA tg (.ref it) u) (fun _ s2=>∃x H',Inv X pins σ H' s2/\RelV x u/\J.yld i H x H'/\tn (i+1) s2.heap/\∀b∈fp,H' b=none) E s1) E s
 done:∀(X:Cx),X.prog=P->X.w=w->X.K=K->X.calm=c_->∀(i:Nat) (pins:List (dt×Obj)) (s:b_) (σ:St) (H:Hp) (E:aC->b_->Prop),Inv X pins σ H s->(∀b∈fp,iZ X pins H b)->tn i s.heap->J.stop i H->
  ee (fc P w) X.A (z4 (.ref it)) (fun r s1=>r=none/\Inv X pins σ H s1) E s
 self:∀(A:h_) (i:Nat) (s:b_) (Q:aC->b_->Prop) (E:aC->b_->Prop),tn i s.heap->Q (.ref it) s->ee (fc P w) A (P2 (.ref it)) Q E s
abbrev TI:=St->Hp->(It->Hp->Prop)->Prop
def K8(X:Cx)(pins:List (dt×Obj))(σ:St)(tg:Expr)(R:It->Hp->Prop)(itv:aC)(s2:b_):Prop:=
 ∃(it:dt) (fp:List dt) (tn:Nat->gd->Prop) (J:It) (H':Hp),itv= .ref it/\Inv X pins σ H' s2/\Turn X.prog X.w X.K tg J fp it tn/\tn 0 s2.heap/\(∀b∈fp,iZ X pins H' b)/\R J H'
def PI(X:Cx)(tg iter:Expr)(wi:TI):Prop:=
 ∀(pins:List (dt×Obj)) (s:b_) (σ:St) (H:Hp) (R:It->Hp->Prop),Inv X pins σ H s->wi σ H R->
  ee (fc X.prog X.w) X.A (h9 iter X.env) (fun v s1=>ee (fc X.prog X.w) X.A (P2 v) (K8 X pins σ tg R) X.xe s1) X.xe s
theorem AR{s:b_}{Q:Unit->b_->Prop}(U:s.heap.get? it=ar o)(Y:o.cls= .type n)(W:o.data= .fields vs)
    (X:["enumerate","zip","dict_itemiterator","dict_reverseitemiterator","odict_iterator","itertools.zip_longest","itertools.pairwise"].contains n=dV) (Z:Q () s):ee M A (EA tg (.ref it) u) Q E s:=by
  unfold EA;cases tg <;>first
    |exact LD Z
    |(cases u<;>first
        |exact LD Z
        | (refine LA (wpAny_load U ?_)
           rw[Y,W];show ee M A (if (["enumerate","zip","dict_itemiterator","dict_reverseitemiterator","odict_iterator","itertools.zip_longest","itertools.pairwise"].contains n && vs[0]? ==ar (l4 _))=c_ then _ else _) Q E s;rw[if_neg (by intro h;rw[X,NY]at h;cases h)]
           exact LD Z))
def Iu(K:d_)(a:dt):It:=
 ⟨fun i H=>∃xs x,iY K H a xs/\xs[i]? =ar x,fun i H x H'=>H'=H/\∀xs,iY K H a xs->xs[i]? =ar x,fun i H=>∃xs,iY K H a xs/\xs.length<=i⟩
def Ko(K:d_)(a:dt):It:=
 ⟨fun i H=>∃xs x,kG K H a xs/\xs[i]? =ar x,fun i H x H'=>H'=H/\∀xs,kG K H a xs->xs[i]? =ar x,fun i H=>∃xs,kG K H a xs/\xs.length<=i⟩
def Iv(lo:Int)(n:Nat):It:=⟨fun i _=>i<n,fun i H x H'=>H'=H/\x= .int (lo+i),fun i _=>n<=i⟩
theorem yS{P:e_}{w:f'}{K:d_}{F:Expr}(a it:dt):Turn P w K F (Iu K a) [it] it (fun i h=>h.IsListIter it a i) where
 mem:=by simp
 obj:=fun i h st b Z=>by
  have e:b=it:=by simpa using Z
  subst e;obtain⟨o,e,c,d⟩:=st;exact⟨o,e,fun v z=>by rw[d]at z;cases z⟩
 keep:=fun i h h' st k=>st.at fun o e=>k it (by simp) o e
 item:=by
  intro X O hw R J i pins s σ H E I hf st L;subst O hw R;obtain⟨xs,x,U,T⟩:=L;obtain⟨its,Q,p,G⟩:=I.list U;obtain⟨u,r,y⟩:=Q.get T;obtain⟨f0,f1,f2,N,f4,S⟩:=hf it (by simp)
  refine wpAny_pyNext_list_item st p.isList (x:=u) (by simpa using r) fun h' Y B=>?_
  have A:Inv X pins σ H {s with heap:=h'}:=I.turned (t':=s.toks) (fun b o Z e=>(B.2 b Z).trans e) f0 f1 N f4 S;obtain⟨o,e,c,d⟩:=id Y;exact⟨u,rfl,AR (s:={s with heap:=h'}) e c d (by decide) ⟨x,H,A,y,⟨rfl,fun ys C=>by rw[I.list_inj C U];exact T⟩,Y,fun b Z=>(hf b Z).1⟩⟩
 done:=by
  intro X O hw R J i pins s σ H E I hf st L;subst O hw R;obtain⟨xs,U,T⟩:=L;obtain⟨its,Q,p,G⟩:=I.list U;obtain⟨f0,f1,f2,N,f4,S⟩:=hf it (by simp)
  have q:=Q.length;exact wpAny_pyNext_list_end (I.ok.hd J) st p.isList (by simp;omega) fun h' t=>⟨rfl,I.turned (t':=s.toks) (fun b o Z e=>t b o Z e) f0 f1 N f4 S⟩
 self:=fun _ _ _ _ _ st h=>wpAny_pyIter_listiter st h
theorem vY{P:e_}{w:f'}{K:d_}{F:Expr}(a it:dt):Turn P w K F (Ko K a) [it] it (fun i h=>h.IsTupleIter it a i) where
 mem:=by simp
 obj:=fun i h st b Z=>by
  have e:b=it:=by simpa using Z
  subst e;obtain⟨o,e,c,d⟩:=st;exact⟨o,e,fun v z=>by rw[d]at z;cases z⟩
 keep:=fun i h h' st k=>st.at fun o e=>k it (by simp) o e
 item:=by
  intro X O hw R J i pins s σ H E I hf st L;subst O hw R;obtain⟨xs,x,U,T⟩:=L;obtain⟨its,Q,p,G⟩:=I.tuple U;obtain⟨u,r,y⟩:=Q.get T;obtain⟨f0,f1,f2,N,f4,S⟩:=hf it (by simp)
  refine wpAny_pyNext_tuple_item st (show s.heap.IsTuple a its.toArray from p) (x:=u) (by simpa using r) fun h' Y B=>?_
  have A:Inv X pins σ H {s with heap:=h'}:=I.turned (t':=s.toks) (fun b o Z e=>(B.2 b Z).trans e) f0 f1 N f4 S;obtain⟨o,e,c,d⟩:=id Y;exact⟨u,rfl,AR (s:={s with heap:=h'}) e c d (by decide) ⟨x,H,A,y,⟨rfl,fun ys C=>by rw[I.tuple_inj C U];exact T⟩,Y,fun b Z=>(hf b Z).1⟩⟩
 done:=by
  intro X O hw R J i pins s σ H E I hf st L;subst O hw R;obtain⟨xs,U,T⟩:=L;obtain⟨its,Q,p,G⟩:=I.tuple U;obtain⟨f0,f1,f2,N,f4,S⟩:=hf it (by simp)
  have q:=Q.length;exact wpAny_pyNext_tuple_end (I.ok.hd J) st (show s.heap.IsTuple a its.toArray from p) (by simp;omega) fun h' t=>⟨rfl,I.turned (t':=s.toks) (fun b o Z e=>t b o Z e) f0 f1 N f4 S⟩
 self:=fun _ _ _ _ _ st h=>wpAny_pyIter_tupleiter st h
theorem vZ{P:e_}{w:f'}{K:d_}{J:Expr}(it:dt)(U:Int)(n:Nat):Turn P w K J (Iv U n) [it] it (fun i h=>IsRangeIter h it (U+(i:Nat)*1) ((n:Int) - (i:Nat)) 1) where
 mem:=by simp
 obj:=fun i h st b Z=>by
  have e:b=it:=by simpa using Z
  subst e;exact⟨_,st,fun v z=>by
   have B:Data.fields _=Data.cell v:=z;cases B⟩
 keep:=fun i h h' st k=>k it (by simp) _ st
 item:=by
  intro X Q hw S R i pins s σ H E I hf st N;subst Q hw S;obtain⟨f0,f1,f2,O,f4,T⟩:=hf it (by simp)
  have W:=Walks.range (prog:=X.prog) (w:=X.w) (I.ok.hd R) it U 1 n;refine W.item i s _ _ N st fun v h' L F Y G=>?_;obtain⟨t,rfl⟩:=F;have C:Inv X pins σ H {s with heap:=h',toks:=L}:=I.turned (fun b o Z e=>G b o (by simpa using Z) e) f0 f1 O f4 T
  refine⟨_,rfl,AR (s:={s with heap:=h',toks:=L}) (n:="range_iterator") Y rfl rfl (by decide) ⟨.int (U+i),H,C,⟨t,?_⟩,⟨rfl,rfl⟩,Y,fun b Z=>(hf b Z).1⟩⟩
  rw[Int.mul_one]
 done:=by
  intro X Q hw S R i pins s σ H E I hf st N;subst Q hw S;obtain⟨f0,f1,f2,O,f4,T⟩:=hf it (by simp)
  exact wpAny_pyNext_range_end (I.ok.hd R) st (by have:n<=i:=N;omega) fun h' A=>⟨rfl,I.turned (t':=s.toks) (fun b o Z e=>A b o Z e) f0 f1 O f4 T⟩
 self:=fun _ _ _ _ _ st h=>wpAny_pyIter_rangeiter st h
end L2
namespace L2
open PySem PySem.Spec PyProof.Rows
section
variable {X:Cx}{tg:Expr}
def Iw(K:d_)(tl:TE):TI:=fun σ H R=>tl σ H fun x H1=>∃a,x= .ref a/\(∃xs,iY K H1 a xs)/\R (Iu K a) H1
def Kq(K:d_)(tl:TE):TI:=fun σ H R=>tl σ H fun x H1=>∃a,x= .ref a/\(∃xs,kG K H1 a xs)/\R (Ko K a) H1
theorem j6{l:Expr}{Z:TE}(W:PE X l Z):PI X tg l (Iw X.K Z):=by
 intro pins s σ H R I h;refine de (W pins s σ H _ I h) fun v s1 ⟨x,H1,I1,r1,q1⟩=>?_;obtain⟨a,e,⟨xs,Y⟩,q⟩:=q1;subst e;cases r1;obtain⟨its,S,p,T⟩:=I1.list Y;refine Ow p.isList ?_;refine⟨s1.heap.objs.size,[s1.heap.objs.size],_,_,H1,rfl,I1.kept (t':=s1.toks) fun b o e=>LB _ e,yS a _,⟨_,LM _ rfl,rfl,rfl⟩,fun b U=>?_,q⟩;have e:b=s1.heap.objs.size:=by simpa using U
 subst e;exact I1.fpOk (LF _) (I1.hok.fresh (LF _))
theorem F8{l:Expr}{Z:TE}(W:PE X l Z):PI X tg l (Kq X.K Z):=by
 intro pins s σ H R I h;refine de (W pins s σ H _ I h) fun v s1 ⟨x,H1,I1,r1,q1⟩=>?_;obtain⟨a,e,⟨xs,Y⟩,q⟩:=q1;subst e;cases r1;obtain⟨its,S,p,T⟩:=I1.tuple Y;refine M9 (show s1.heap.IsTuple a its.toArray from p) ?_;refine⟨s1.heap.objs.size,[s1.heap.objs.size],_,_,H1,rfl,I1.kept (t':=s1.toks) fun b o e=>LB _ e,vY a _,⟨_,LM _ rfl,rfl,rfl⟩,fun b U=>?_,q⟩;have e:b=s1.heap.objs.size:=by simpa using U
 subst e;exact I1.fpOk (LF _) (I1.hok.fresh (LF _))
theorem uh{W:List (dt×Obj)}{T:St}{H:Hp}{s:b_}{R:It->Hp->Prop}{E:aC->b_->Prop}{Z Y:Int}{t u v:Tok}{S:Nat}(I:Inv X W T H s)(O: -(2 ^ 62)<=Z)(N:Z<2 ^ 62)(P: -(2 ^ 62)<=Y)(Q:Y<2 ^ 62)
  (q:R (Iv Z (Y - Z).toNat) H):ee (fc X.prog X.w) X.A (P2 (.ref s.heap.objs.size)) (K8 X W T tg R) E {s with heap:=s.heap.push {cls:=.type "range",data:=.fields #[.int Z t,.int Y u,.int 1 v]},toks:=S}:=by
 refine wpAny_pyIter_range (IsRange.new ..) (small_one O N P Q) ?_;have U:Inv X W T H {s with heap:=s.heap.push {cls:=.type "range",data:=.fields #[.int Z t,.int Y u,.int 1 v]},toks:=S}:=I.kept fun b o e=>LB _ e;refine⟨(s.heap.push {cls:=.type "range",data:=.fields #[.int Z t,.int Y u,.int 1 v]}).objs.size,[(s.heap.push {cls:=.type "range",data:=.fields #[.int Z t,.int Y u,.int 1 v]}).objs.size],_,_,H,rfl,
  U.kept (t':=S) fun b o e=>LB _ e,vZ _ Z (Y - Z).toNat,?_,fun b L=>?_,q⟩
 ·have e1:Z+((0:Nat):Int)*1=Z:=by simp
  have e2:(((Y - Z).toNat:Nat):Int) - ((0:Nat):Int)=Builtin.Range.rangeSize Z Y 1:=by rw[rangeSize_one];split<;>omega
  show IsRangeIter _ _ (Z+((0:Nat):Int)*1) ((((Y - Z).toNat:Nat):Int) - ((0:Nat):Int)) 1;rw[e1,e2];exact LM _ rfl
 ·have e:b=(s.heap.push {cls:=.type "range",data:=.fields #[.int Z t,.int Y u,.int 1 v]}).objs.size:=by simpa using L
  subst e;exact U.fpOk (LF _) (U.hok.fresh (LF _))
def Iy(ta:TA):TI:=fun σ H R=>ta σ H fun vs H1=>∃j:Int,vs=[.int j]/\ -(2 ^ 62)<=j/\j<2 ^ 62/\R (Iv 0 j.toNat) H1
def Iz(ta:TA):TI:=fun σ H R=>ta σ H fun vs H1=>∃i j:Int,vs=[.int i,.int j]/\(-(2 ^ 62)<=i/\i<2 ^ 62/\ -(2 ^ 62)<=j/\j<2 ^ 62)/\R (Iv i (j - i).toNat) H1
theorem yT{a:Expr}{Y:TA}{p pos:Pos}(U:Gl X "range")(T:X.mg "range"=none)(W:PA X [a] Y)(hs:eb [a] X.env=[(dV,h9 a X.env)]:=by rfl):PI X tg (.Call (.Name "range" p) [a] [] pos) (Iy Y):=by
 intro pins s σ H R I h;refine R0 (kF I U T boot_range (MT (de (W pos pins s σ H _ I h) fun us s1 ⟨vs,H1,I1,r1,Z⟩=>?_) hs rfl));obtain⟨j,e,Z,S,q⟩:=Z;subst e;cases r1 with
 |cons r rr=>
  cases rr;obtain⟨t,rfl⟩:=r;exact call_range_1 (uh I1 (by omega) (by omega) Z S (by simpa using q))
theorem yU(T:Gl X "range")(Q:X.mg "range"=none)(U:PA X [a,b] ta)(hs:eb [a,b] X.env=[(dV,h9 a X.env),(dV,h9 b X.env)]:=by rfl)(Z:eb [b] X.env=[(dV,h9 b X.env)]:=by rfl):
  PI X tg (.Call (.Name "range" p) [a,b] [] pos) (Iz ta):=by
 intro pins s σ H R I h;refine R0 (kF I T Q boot_range (MT (de (U pos pins s σ H _ I h) fun us s1 ⟨vs,H1,I1,r1,Y⟩=>?_) (by rw[hs,Z]) (by rw[Z];rfl)))
 obtain⟨i,j,e,⟨Y,P,S,W⟩,q⟩:=Y;subst e;cases r1 with
 | cons r rr=>
  cases rr with
  |cons r' rr=>
   cases rr;obtain⟨t,rfl⟩:=r;obtain⟨t',rfl⟩:=r';exact call_range_2 (uh I1 Y P S W q)
def Kr(wi:TI)(g:TG)(tb:TS):TS:=fun D σ H=>wi σ H fun J H1=>∃W:Nat->Nat->St->Hp->Prop,(∃m,W 0 m σ H1)/\∀i m σ H,W i m σ H->
 (J.stop i H/\D.nx σ H)\/(J.go i H/\∃N:St->Hp->Prop,(∀ σ' H',N σ' H'->∃m',m'<m/\W (i+1) m' σ' H')/\∀x H',J.yld i H x H'->g x σ H' fun σ2 H2=>tb {D with nx:=N,ct:=N,bk:=D.nx} σ2 H2)
def mE(fp:List dt)(h:gd):List (dt×Obj):=fp.filterMap fun b=>(h.get? b).map fun o=>(b,o)
theorem fD{h:gd}(Z:b∈fp)(e:h.get? b=ar o):(b,o)∈mE fp h:=M8.mpr ⟨b,Z,by rw[e];rfl⟩
theorem yV(Z:p∈mE fp h):p.1∈fp/\h.get? p.1=ar p.2:=by
 obtain⟨b,Y,e⟩:=M8.mp Z;cases q:h.get? b with
 |none=>rw[q]at e;cases e
 |some o=>
  rw[q]at e;have W:(b,o)=p:=L5 e;subst W;exact⟨Y,q⟩
theorem Inv.pinned(I:Inv X pins σ H s)(U:∀b∈fp,iZ X pins H b)(T:∀b∈fp,∃o,s.heap.get? b=ar o/\∀v,o.data≠ .cell v):Inv X (pins++mE fp s.heap) σ H s:=
 I.pins_of fun p W=>(MQ.mp W).elim (fun z=>I.pin p (LU _ z)) fun z=>by
  obtain⟨Z,e⟩:=yV z;obtain⟨f0,f1,f2,_⟩:=U p.1 Z;obtain⟨o,Y,d⟩:=T p.1 Z;rw[e]at Y;cases Y;exact⟨e,f0,f1,f2,d⟩
theorem Inv.unpinned(I:Inv X (pins++pl) σ H s):Inv X pins σ H s:=I.pins_of fun p Z=>I.pin p (LU _ (MV _ Z))
theorem F9{Y:Expr}{body:List n3}{B:TI}{g:TG}{tb:TS}{pos:Pos}(L:Qh (fc X.prog X.w) X.A X.env X.xe)(z:X.calm=c_)(p:PI X tg Y B)(hg:PG X tg g)(Q:oO X body tb)
  (hs:∀x,hY Y X.env x=a_ x:=by intro _;rfl):PS X (.For tg Y body [] pos) (Kr B g tb):=by
 intro pins s σ H D I h;refine wpAny_For (de (p pins s σ H _ I h) fun v s1 y=>de y fun a s2 j=>?_) hs;obtain⟨it,K,C,J,k,e,t,T,F,f2,W,⟨m0,w0⟩,turn⟩:=j;subst e;have R:∀{H':Hp},(∀b∈K,H' b=none)->∀b∈K,iZ X pins H' b:=fun q b Q=>⟨q b Q,(f2 b Q).2⟩;refine codeAny_forLoop_any (fun n s'=>∃i σ' H',Inv X pins σ' H' s'/\C i s'.heap/\(∀b∈K,H' b=none)/\W i n σ' H') ?_ m0 ⟨0,σ,k,t,F,fun b Q=>(f2 b Q).1,w0⟩;rintro n s3 ⟨i,σ3,H3,I3,st3,fr3,w3⟩;rcases turn i n σ3 H3 w3 with⟨stop,qn⟩|⟨go,N,hN,step⟩
 ·refine Nq L (de (T.done X rfl rfl rfl z i pins s3 σ3 H3 X.xe I3 (R fr3) st3 stop) fun r s4 ⟨hr,I4⟩=>?_);subst hr;exact NK ⟨σ3,H3,I4,qn⟩
 ·refine Nq L (de (T.item X rfl rfl rfl z i pins s3 σ3 H3 X.xe I3 (R fr3) st3 go) fun r s4 ⟨u,hr,h4⟩=>?_);subst hr;refine Nq L (de h4 fun _ s5 ⟨x,H5,I5,r5,y5,st5,fr5⟩=>?_);have G:=I5.pinned (R fr5) (T.obj _ _ st5);refine Nq L (de (hg _ s5 σ3 H5 x u _ G r5 (step x H5 y5)) fun _ s6 ⟨σ6,H6,I6,q6⟩=>?_);refine Nq L (de (Q _ s6 σ6 H6 _ I6 q6) fun f E P=>?_);have P_:∀{Z:St} {U:Hp},Inv X (pins++mE K s5.heap) Z U E->N Z U->∃m,m<n/\∃i σ' H',Inv X pins σ' H' E/\C i E.heap/\(∀b∈K,H' b=none)/\W i m σ' H':=fun{Z U} S O=>by
   obtain⟨m',hm,c⟩:=hN Z U O;refine⟨m',hm,i+1,Z,U,S.unpinned,T.keep _ _ _ st5 fun b Q o e=>(S.pin (b,o) (LU _ (LU _ (fD Q e)))).1,fun b Q=>?_,c⟩;obtain⟨o,e,d⟩:=T.obj _ _ st5 b Q;exact(S.pin (b,o) (LU _ (LU _ (fD Q e)))).2.1
  cases f with
  |next=>obtain⟨Z,U,S,O⟩:=P;exact P_ S O
  |cont=>obtain⟨Z,U,S,O⟩:=P;exact P_ S O
  |brk=>obtain⟨Z,U,S,P⟩:=P;exact⟨Z,U,S.unpinned,P⟩
  |ret v=>obtain⟨x7,Z,U,S,l,P⟩:=P;exact⟨x7,Z,U,S.unpinned,l,P⟩
end
end L2
namespace L2
open PySem PySem.Spec PyProof.Rows
abbrev R2:=V->V->Hp->VK->Prop
def iU(X:Cx)(f:aC->aC->Sem aC)(r:R2):Prop:=
 ∀(pins:List (dt×Obj)) (s:b_) (σ:St) (H:Hp) (x y:V) (v u:aC) (Q:VK),Inv X pins σ H s->RelV x v->RelV y u->r x y H Q->
  ee (fc X.prog X.w) X.A (f v u) (EP X pins σ Q) X.xe s
def Ks(X:Cx)(f:aC->Sem aC)(r:V->Hp->VK->Prop):Prop:=
 ∀(pins:List (dt×Obj)) (s:b_) (σ:St) (H:Hp) (x:V) (v:aC) (Q:VK),Inv X pins σ H s->RelV x v->r x H Q->
  ee (fc X.prog X.w) X.A (f v) (EP X pins σ Q) X.xe s
def cR(X:Cx)(f:aC)(r:List V->Hp->VK->Prop):Prop:=
 ∀(pins:List (dt×Obj)) (s:b_) (σ:St) (H:Hp) (xs:List V) (us:List aC) (Q:VK),Inv X pins σ H s->bb xs us->r xs H Q->
  ee (fc X.prog X.w) X.A (call f us) (EP X pins σ Q) X.xe s
def HR(r:R2)(ta tb:TE):TE:=fun σ H Q=>ta σ H fun x H1=>tb σ H1 fun y H2=>r x y H2 Q
def Lk(r:V->Hp->VK->Prop)(ta:TE):TE:=fun σ H Q=>ta σ H fun x H1=>r x H1 Q
def rI(C:Int->Int->Prop)(g:Int->Int->V):R2:=fun x y H Q=>∃i j,x= .int i/\y= .int j/\C i j/\Q (g i j) H
def Dl(g:Int->Int->V):R2:=fun x y H Q=>∃i j,x= .int i/\y= .int j/\Q (g i j) H
def rU(g:Int->V):V->Hp->VK->Prop:=fun x H Q=>∃i,x= .int i/\Q (g i) H
section
variable {X:Cx}{a b c:Expr}{ta tb tc:TE}{pos:Pos}
theorem Ga(S:PE X a ta)(P:PE X b tb){R:V->V->Hp->Prop}(I:Inv X pins σ H s)
  (h:ta σ H fun x U=>tb σ U fun y Z=>R x y Z) {f:aC->aC->Sem aC}
  (T:∀v u s2 x y Z,Inv X pins σ Z s2->RelV x v->RelV y u->R x y Z->ee (fc X.prog X.w) X.A (f v u) Q X.xe s2):
  ee (fc X.prog X.w) X.A (h9 a X.env) (fun v Y=>ee (fc X.prog X.w) X.A (h9 b X.env) (fun u W=>ee (fc X.prog X.w) X.A (f v u) Q X.xe W) X.xe Y) X.xe s:=by
 refine de (S pins s σ H _ I h) fun v s1 ⟨x,U,I1,r1,q1⟩=>?_;refine de (P pins s1 σ U _ I1 q1) fun u s2 ⟨y,Z,I2,r2,q2⟩=>?_;exact T v u s2 x y Z I2 r1 r2 q2
theorem IA(R:iU X (r_ op) r)(Y:PE X a ta)(S:PE X b tb):PE X (.BinOp a op b pos) (HR r ta tb):=by
 intro pins s σ H Q I h;exact wpAny_BinOp (Ga Y S I h fun v u s2 x y U T Z W q=>R pins s2 σ U x y v u Q T Z W q)
theorem IB(Y:Ks X (unaryOp op) r)(Z:PE X a ta):PE X (.UnaryOp op a pos) (Lk r ta):=by
 intro pins s σ H Q I h;exact UnaryOp_ (de (Z pins s σ H _ I h) fun v s1 ⟨x,H1,I1,r1,q1⟩=>Y pins s1 σ H1 x v Q I1 r1 q1)
theorem JS{f:aC->aC->Sem aC}{C:Int->Int->Prop}{g:Int->Int->Int}
  (Z:∀(i j:Int) (t u:Tok) (s:b_) (Q:aC->b_->Prop) (E:aC->b_->Prop),C i j->Q (.int (g i j) s.toks) {s with toks:=s.toks+1}->ee (fc X.prog X.w) X.A (f (.int i t) (.int j u)) Q E s):
  iU X f (rI C fun i j=>.int (g i j)):=by
 intro pins s σ H x y v u Q I Y W h;obtain⟨i,j,rfl,rfl,U,q⟩:=h;obtain⟨t,rfl⟩:=Y;obtain⟨t',rfl⟩:=W;exact Z i j t t' s _ _ U ⟨.int (g i j),H,I.tok _,⟨_,rfl⟩,q⟩
theorem IC{f:aC->aC->Sem aC}{g:Int->Int->Int}
  (Z:∀(i j:Int) (t u:Tok) (s:b_) (Q:aC->b_->Prop) (E:aC->b_->Prop),Q (.int (g i j) s.toks) {s with toks:=s.toks+1}->ee (fc X.prog X.w) X.A (f (.int i t) (.int j u)) Q E s):
  iU X f (Dl fun i j=>.int (g i j)):=by
 intro pins s σ H x y v u Q I Y W h;obtain⟨i,j,rfl,rfl,q⟩:=h;obtain⟨t,rfl⟩:=Y;obtain⟨t',rfl⟩:=W;exact Z i j t t' s _ _ ⟨.int (g i j),H,I.tok _,⟨_,rfl⟩,q⟩
theorem Dy{f:aC->aC->Sem aC}{g:Int->Int->Bool}
  (Z:∀(i j:Int) (t u:Tok) (s:b_) (Q:aC->b_->Prop) (E:aC->b_->Prop),Q (.bool (g i j)) s->ee (fc X.prog X.w) X.A (f (.int i t) (.int j u)) Q E s):
  iU X f (Dl fun i j=>.bl (g i j)):=by
 intro pins s σ H x y v u Q I Y W h;obtain⟨i,j,rfl,rfl,q⟩:=h;obtain⟨t,rfl⟩:=Y;obtain⟨t',rfl⟩:=W;exact Z i j t t' s _ _ ⟨.bl (g i j),H,I,rfl,q⟩
def v5(i j:Int):Prop:=0<j/\j<1073741824
def AS(i j:Int):Prop:=0<=j/\j<=1000000/\i.natAbs<2 ^ 64
def sx(i j:Int):Prop:=(-(2 ^ 64)<i/\i<2 ^ 64)\/(-(2 ^ 64)<j/\j<2 ^ 64)
theorem sx.ok{i j:Int}(h:sx i j):IntMulOk i j:=by
 rcases h with⟨h1,h2⟩|⟨h1,h2⟩
 ·exact .of_left (intBits_le_64 h1 h2)
 ·exact .of_right (intBits_le_64 h1 h2)
theorem Gb:iU X (r_ .Add) (Dl fun i j=>.int (i+j)):=IC fun _ _ _ _ _ _ _ q=>add_int q
theorem Gc:iU X (r_ .Sub) (Dl fun i j=>.int (i - j)):=IC fun _ _ _ _ _ _ _ q=>sub_int q
theorem Gd:iU X (r_ .Mult) (rI sx fun i j=>.int (i*j)):=JS fun _ _ _ _ _ _ _ Z q=>mul_int q Z.ok
theorem Dz:iU X (r_ .FloorDiv) (rI v5 fun i j=>.int (i / j)):=JS fun i j _ _ _ _ _ Z q=>by
 have Y:(0:Int)<j:=Z.1;have W:j<1073741824:=Z.2;exact floordiv_int (by omega) (by rw[Int.fdiv_eq_ediv_of_nonneg i (by omega)];exact q) (.inl (PyProof.noPylong_small (by omega)))
theorem Ge:iU X (r_ .Mod) (rI (fun _ j=>0<j) fun i j=>.int (i % j)):=JS fun i j _ _ _ _ _ Z q=>by
 have Y:(0:Int)<j:=Z;exact mod_int' (by omega) (by rw[Int.fmod_eq_emod_of_nonneg i (by omega)];exact q)
theorem Gf:iU X (r_ .Pow) (rI AS fun i j=>.int (i ^ j.toNat)):=JS fun _ _ _ _ _ _ _ Z q=>pow_int_small Z.1 Z.2.1 Z.2.2 q
theorem Ll{f:aC->Sem aC}{g:Int->Int}
  (Z:∀(i:Int) (t:Tok) (s:b_) (Q:aC->b_->Prop) (E:aC->b_->Prop),Q (.int (g i) s.toks) {s with toks:=s.toks+1}->ee (fc X.prog X.w) X.A (f (.int i t)) Q E s):
  Ks X f (rU fun i=>.int (g i)):=by
 intro pins s σ H x v Q I Y h;obtain⟨i,rfl,q⟩:=h;obtain⟨t,rfl⟩:=Y;exact Z i t s _ _ ⟨.int (g i),H,I.tok _,⟨_,rfl⟩,q⟩
theorem Gg:Ks X (unaryOp .USub) (rU fun i=>.int (-i)):=Ll fun _ _ _ _ _ q=>neg_int q
end
section
variable {X:Cx}{a b c:Expr}{ta tb tc:TE}{pos:Pos}
theorem AU:iU X (j_ .Lt) (Dl fun i j=>.bl (decide (i<j))):=Dy fun _ _ _ _ _ _ _ q=>lt_int q
theorem AV:iU X (j_ .LtE) (Dl fun i j=>.bl (decide (i<=j))):=Dy fun _ _ _ _ _ _ _ q=>le_int q
theorem ID:iU X (j_ .Gt) (Dl fun i j=>.bl (decide (j<i))):=Dy fun _ _ _ _ _ _ _ q=>gt_int q
theorem IE:iU X (j_ .GtE) (Dl fun i j=>.bl (decide (j<=i))):=Dy fun _ _ _ _ _ _ _ q=>ge_int q
theorem iU.or{r W:R2}(h:iU X f r)(h':iU X f W):iU X f (fun x y H Q=>r x y H Q\/W x y H Q):=by
 intro pins s σ H x y v u Q I Z Y q;rcases q with q|q
 ·exact h pins s σ H x y v u Q I Z Y q
 ·exact h' pins s σ H x y v u Q I Z Y q
theorem Kt(b:Expr)(h:op≠ .In:=by decide)(Z:op≠ .NotIn:=by decide):lx op b=false:=by
 have e1:(op==CmpOp.In)=false:=by cases op<;>first|rfl|exact absurd rfl h
 have e2:(op==CmpOp.NotIn)=false:=by cases op<;>first|rfl|exact absurd rfl Z
 cases b<;>simp[lx,e1,e2]
theorem DA(P:iU X (j_ op) r)(Y:PE X a ta)(S:PE X b tb)(R:lx op b=dV):PE X (.Compare a [op] [b] pos) (HR r ta tb):=by
 intro pins s σ H Q I h;exact wpAny_Compare1 (Ga Y S I h fun v u s2 x y U T Z W q=>P pins s2 σ U x y v u Q T Z W q) R
def Fh(t:TE):TT:=fun σ H Q=>t σ H fun x H'=>∃k,x= .bl k/\Q k H'
theorem xD(U:iU X (j_ op) r)(Z:PE X a ta)(Y:PE X b tb)(W:lx op b=dV):PT X (.Compare a [op] [b] pos) (Fh (HR r ta tb)):=by
 intro pins s σ H Q I h;refine wpAny_isTrue_Compare1 (de (Z pins s σ H _ I h) fun v s1 ⟨x,H1,I1,r1,q1⟩=>de (Y pins s1 σ H1 _ I1 q1) fun u s2 ⟨y,H2,I2,r2,q2⟩=>
  de (U pins s2 σ H2 x y v u _ I2 r1 r2 q2) fun c s3 ⟨z,H3,I3,r3,k,e,q3⟩=>?_) W
 subst e;cases r3;exact MR ⟨H3,I3,q3⟩
def v7(r r':R2)(ta tb tc:TE):TE:=fun σ H Q=>ta σ H fun x H1=>tb σ H1 fun y H2=>r x y H2 fun z H3=>∃k,z= .bl k/\
 (if k=c_ then tc σ H3 fun w' H4=>r' y w' H4 Q else Q (.bl dV) H3)
theorem AW(S:iU X (j_ op) r)(Z:iU X (j_ op') r')(W:PE X a ta)(U:PE X b tb)(Y:PE X c tc)
  (T:QK [op,op'] [b,c]=false:=by with_unfolding_all rfl):PE X (.Compare a [op,op'] [b,c] pos) (v7 r r' ta tb tc):=by
 intro pins s σ H Q I h;refine Compare_chain (de (W pins s σ H _ I h) fun v s1 ⟨x,H1,I1,r1,q1⟩=>chain_link (de (U pins s1 σ H1 _ I1 q1) fun u s2 ⟨y,H2,I2,r2,q2⟩=>
  de (S pins s2 σ H2 x y v u _ I2 r1 r2 q2) fun d s3 ⟨z,H3,I3,r3,k,e,q3⟩=>?_)) T
 subst e;cases r3;refine MR ?_;cases k with
 |false=>exact ite_ff ⟨.bl dV,H3,I3,rfl,q3⟩
 |true=>exact ite_tt (chain_last (de (Y pins s3 σ H3 _ I3 q3) fun w' s4 ⟨z',H4,I4,r4,q4⟩=>Z pins s4 σ H4 y z' u w' Q I4 r2 r4 q4))
theorem AX(S:iU X (j_ op) r)(Z:iU X (j_ op') r')(W:PE X a ta)(U:PE X b tb)(Y:PE X c tc)
  (T:QK [op,op'] [b,c]=false:=by with_unfolding_all rfl):PT X (.Compare a [op,op'] [b,c] pos) (Fh (v7 r r' ta tb tc)):=by
 intro pins s σ H Q I h;refine isTrue_chain (de (W pins s σ H _ I h) fun v s1 ⟨x,H1,I1,r1,q1⟩=>test_link (de (U pins s1 σ H1 _ I1 q1) fun u s2 ⟨y,H2,I2,r2,q2⟩=>
  de (S pins s2 σ H2 x y v u _ I2 r1 r2 q2) fun d s3 ⟨z,H3,I3,r3,k,e,q3⟩=>?_)) T
 subst e;cases r3;refine MR ?_;cases k with
 |false=>
  obtain⟨O,R,P⟩:=q3;cases R;exact ite_ff ⟨H3,I3,P⟩
 |true=>
  refine ite_tt (test_last (de (Y pins s3 σ H3 _ I3 q3) fun w' s4 ⟨z',H4,I4,r4,q4⟩=>de (Z pins s4 σ H4 y z' u w' _ I4 r2 r4 q4) fun d' s5 ⟨z2,H5,I5,r5,k2,e2,q5⟩=>?_));subst e2;cases r5;exact MR ⟨H5,I5,q5⟩
theorem oU:(sizeLine:Nat)<2 ^ 63:=by rw[ML];decide
theorem vals1(r:bb [x] us):∃u,us=[u]/\RelV x u:=by
 cases r with
 |cons r1 r2=>cases r2;exact⟨_,rfl,r1⟩
theorem vals2(r:bb [x,y] us):∃u w',us=[u,w']/\RelV x u/\RelV y w':=by
 cases r with
 |cons r1 r2=>
  cases r2 with
  |cons r3 r4=>cases r4;exact⟨_,_,rfl,r1,r3⟩
theorem yW(Z:X.calm=c_):cR X (.builtin "max") (fun xs H Q=>∃i j,xs=[.int i,.int j]/\Q (.int (if j>i then j else i)) H):=by
 intro pins s σ H xs us Q I r h;obtain⟨i,j,rfl,q⟩:=h;obtain⟨u,W,rfl,⟨t,rfl⟩,⟨t',rfl⟩⟩:=vals2 r;refine max_two_ints (I.ok.hd Z) fun h' Y k=>⟨_,H,I.kept k,?_,q⟩;by_cases hj:j>i
 ·rw[if_pos hj,if_pos hj];exact⟨_,rfl⟩
 ·rw[if_neg hj,if_neg hj];exact⟨_,rfl⟩
theorem yX(Z:X.calm=c_):cR X (.builtin "min") (fun xs H Q=>∃i j,xs=[.int i,.int j]/\Q (.int (if j<i then j else i)) H):=by
 intro pins s σ H xs us Q I r h;obtain⟨i,j,rfl,q⟩:=h;obtain⟨u,W,rfl,⟨t,rfl⟩,⟨t',rfl⟩⟩:=vals2 r;refine min_two_ints (I.ok.hd Z) fun h' Y k=>⟨_,H,I.kept k,?_,q⟩;by_cases hj:j<i
 ·rw[if_pos hj,if_pos hj];exact⟨_,rfl⟩
 ·rw[if_neg hj,if_neg hj];exact⟨_,rfl⟩
end
end L2
namespace L2
open PySem PySem.Spec PyProof.Rows
structure ObjM(h:gd)(x dx C:dt)(mA:Str->Option aC):Prop where
 obj:h.get? x=ar (Rk C dx)
 ns:h.Ns1 dx mA
 ne:dx≠x
theorem yY{h:gd}{mA:Str->Option aC}(n:h.Ns1 dx mA):∃od,h.get? dx=ar od/\∀name,Qt name od=ar (mA name):=by
 obtain⟨o,es,ep,T,hd,Y,_,hm⟩:=n;refine⟨o,T,fun name=>?_⟩;have e:=hm name;unfold nsFind findBy at e;rw[<-O2]at e;unfold Qt;rw[hd];dsimp only;split
 ·rename_i y q
  rw[q]at e;exact OE ar e
 ·rename_i q
  rw[q]at e;have a:es.toList.any (·.refKey)=false:=by
   rw[List.any_eq_false];intro y U;obtain⟨z,t,Z⟩:=Y y (ON.mp U);simp[DictEntry.refKey,Z]
  have X:¬ es.toList.any (·.refKey)=true:=by rw[a];exact MP
  rw[if_neg X];exact OE ar e
theorem ObjM.look{mA:Str->Option aC}(I:ObjM h x dx C mA):∃od,C_ h x (Rk C dx) C (ar od)/\∀name,Qt name od=ar (mA name):=
 let ⟨od,ho,hl⟩:=yY I.ns
 ⟨od,⟨I.obj,rfl,rfl,ho⟩,hl⟩
section
variable {prog:e_}{w:f'}{A:h_}{E:aC->b_->Prop}{s:b_}{K:d_}{x dx C f:dt}{mA:Str->Option aC}{name:Str}{v:aC}
end
theorem si.some_of(r:si (ar v) o):∃u,o=ar u/\RelV v u:=by
 cases o with
 |none=>exact(show False from r).elim
 |some u=>exact⟨u,rfl,r⟩
theorem yZ(r:RelV v u):W.handedIn u=true:=by
 cases v with
 |non=>cases (show u=i0 from r);rfl
 |bl b=>cases (show u=ri b from r);rfl
 |int i=>obtain⟨t,e⟩:=(show ∃t,u=oo i t from r);cases e;rfl
 |str x=>obtain⟨t,e⟩:=(show ∃t,u=Pq x t from r);cases e;rfl
 |byt b=>obtain⟨t,e⟩:=(show ∃t,u=Value.bytes b t from r);cases e;rfl
 |flt b=>obtain⟨t,e⟩:=(show ∃t,u=P9 b t from r);cases e;rfl
 |ref a=>cases (show u=er a from r);rfl
 |ty n=>cases (show u=u4 n from r);rfl
section
variable {P:e_}{w:f'}{H H':Hp}{h h':gd}{a C dx:dt}{fs fs':List (Str×V)}
theorem eJ(Z:fK P w H h)(e:H a=ar (.ins C dx fs)):∃mA,ObjM h a dx C mA/\(∀f,si (fs.lookup f) (mA f))/\PySem.Within mA (fs.map (·.1))/\fs.length<=1000/\H dx=ar (.own a):=by
 obtain⟨d,z,ne,Y,mA,n,r,q⟩:=(show bj P w H h a (.ins C dx fs)from Z a _ e);exact⟨mA,⟨Y,n,ne⟩,r,q,z,d⟩
end
structure Cls(K:d_)(C:dt):Prop where
 pg:W.plainGet K C Str.empty=c_
 hd:W.hasDictIn K C=c_
 po:W.plainOver K C=c_
 sa:G3 K (.ref C) "__setattr__"=ar (ar (.builtin "object.__setattr__"))
theorem Cls.get{K:d_}{C:dt}(c:Cls K C)(f:Str):W.plainGet K C f=true:=c.pg
structure Con(K:d_)(C:dt)(f:Str)(v:V)(u:aC):Prop where
 at_:G3 K (.ref C) f=ar (ar u)
 rel:RelV v u
 get:W.specialIn K u "__get__"=ar none
 cp:W.copiedNames.contains f=dV
structure Meth(K:d_)(C:dt)(m:Str)(f:dt):Prop where
 at_:G3 K (.ref C) m=ar (ar (.ref f))
 fn:W.isFn K (.ref f)=c_
 kp:D_ K (.ref f)=c_
section
variable {X:Cx}{pins:List (dt×Obj)}{σ:St}{H:Hp}{s:b_}{a C dx:dt}{fs:List (Str×V)}{f:Str}{v:V}{A:h_}{E:aC->b_->Prop}
theorem DB(Y:mh e f env (h9 e env)=h9 e env)
  (h:ee (fc prog w) A (h9 e env) (fun o Z=>ee (fc prog w) A (RS o f c_) Q E Z) E s):ee (fc prog w) A (h9 (.Attribute e f pos) env) Q E s:=
 Attribute_any_ h (by rw[arm_eval_Attribute,Y])
end
section
variable {X:Cx}{o e value:Expr}{f:Str}{pos pos' tpos:Pos}{ta tv:TE}
end
section
variable {X:Cx}{pins:List (dt×Obj)}{σ:St}{H:Hp}{s:b_}{A:h_}{E:aC->b_->Prop}{Q:aC->b_->Prop}{c:aC}{b:Bool}
inductive TyOf(K:d_)(H:Hp):V->aC->Prop where
 |non:TyOf K H .non (.type "NoneType")
 |bl (x:Bool):TyOf K H (.bl x) (.type "bool")
 |int (i:Int):TyOf K H (.int i) (.type "int")
 |str (x:Str):TyOf K H (.str x) (.type "str")
 |flt (x:UInt64):TyOf K H (.flt x) (.type "float")
 |lst {a:dt} {xs:List V} (e:H a=ar (.lst xs)):TyOf K H (.ref a) (.type "list")
 |frz {a:dt} {o:Obj} {xs:List V} (e:H a=ar (.frz o (.lst xs))):TyOf K H (.ref a) (.type "list")
 |tup {a:dt} {xs:List V} (e:H a=ar (.tup xs)):TyOf K H (.ref a) (.type "tuple")
 |dK {a:dt} {kvs:List (Key×V)} (e:H a=ar (.dK kvs)):TyOf K H (.ref a) (.type "dict")
 |dT {a:dt} {kvs:List (List Key×V)} (e:H a=ar (.dT kvs)):TyOf K H (.ref a) (.type "dict")
 | ins {a C dx:dt} {fs:List (Str×V)} (e:H a=ar (.ins C dx fs)) (cl:Cls K C) (ha:G3 K (.ref C) "__class__"=ar (ar (.builtin "object.__class__")))
   (hn:W.specialIn K (.builtin "object.__class__") "__get__"=ar (ar (.builtin "getset_descriptor.__get__"))) (htk:W.takesIn K (.builtin "object.__class__")=ar c_)
   (hm:W.mroIn K C (.type "object")=ar c_):TyOf K H (.ref a) (.ref C)
theorem y0(I:Inv X pins σ H s)(Z:RelV x u)(T:TyOf X.K H x t)(e:q_ X.K t c=ar b)(h:∀tk,Q (.bool b) {s with toks:=tk}):
  ee (fc X.prog X.w) A (call (.builtin "isinstance") [u,c]) Q E s:=by
 cases T with
 |non=>cases (show u=i0 from Z);exact MD O9 I.kIn pa e (fun z=>nomatch z) h
 |bl y=>cases (show u=ri y from Z);exact MD W.kitx_bool I.kIn pa e (fun z=>nomatch z) h
 |int i=>obtain⟨t,q⟩:=(show ∃t,u=oo i t from Z);cases q;exact MD W.kitx_int I.kIn pa e (fun z=>nomatch z) h
 |str y=>obtain⟨t,q⟩:=(show ∃t,u=Pq y t from Z);cases q;exact MD W.kitx_str I.kIn pa e (fun z=>nomatch z) h
 |flt y=>obtain⟨t,q⟩:=(show ∃t,u=P9 y t from Z);cases q;exact MD W.kitx_float I.kIn pa e (fun z=>nomatch z) h
 | @lst a xs ea=>
  cases (show u=er a from Z);obtain⟨_,_,n,_,Y⟩:=(show bj X.prog X.w H s.heap a (.lst xs)from I.hok a _ ea);exact MD Ox I.kIn ⟨_,Y,rfl⟩ e (fun z=>nomatch z) h
 | @frz a ob xs ea=>
  cases (show u=er a from Z);obtain⟨_,_,_,n,_,Y⟩:=(show bj X.prog X.w H s.heap a (.frz ob (.lst xs))from I.hok a _ ea);exact MD Ox I.kIn ⟨_,Y,rfl⟩ e (fun z=>nomatch z) h
 | @tup a xs ea=>
  cases (show u=er a from Z);obtain⟨_,_,_,p⟩:=(show bj X.prog X.w H s.heap a (.tup xs)from I.hok a _ ea);obtain⟨o,Y,U,_⟩:=p;exact MD W.kitx_tuple I.kIn ⟨o,Y,U⟩ e (fun z=>nomatch z) h
 | @dK a kvs ea=>
  cases (show u=er a from Z);obtain⟨_,_,vs,_,p⟩:=(show bj X.prog X.w H s.heap a (.dK kvs)from I.hok a _ ea);obtain⟨o,es,ep,Y,U,_⟩:=p;exact MD Oy I.kIn ⟨o,Y,U.1⟩ e (fun z=>nomatch z) h
 | @dT a kvs ea=>
  cases (show u=er a from Z);obtain⟨_,_,xs,_,o,es,ep,Y,U,_⟩:=(show bj X.prog X.w H s.heap a (.dT kvs)from I.hok a _ ea);exact MD Oy I.kIn ⟨o,Y,U.1⟩ e (fun z=>nomatch z) h
 | @ins a C dx fs ea cl ha hn htk hm=>
  cases (show u=er a from Z);obtain⟨mA,O,_⟩:=eJ I.hok ea;obtain⟨od,J,_⟩:=O.look;exact MD (W.kitx_own (cl.get _) cl.hd ha hn htk hm) I.kIn J e (fun z=>nomatch z) h
end
end L2
namespace L2
open PySem PySem.Spec PyProof.Rows
structure Room(k:Nat)(A:h_):Prop where
 hd:A.handled=none
 dp:A.depth+3*k+5<recursionLimit
 un:A.units+16*k+200<y8
theorem Room.mono(r:Room k A)(h:j<=k):Room j A:=⟨r.hd,by have:=r.dp;omega,by have:=r.un;omega⟩
theorem Room.deeper(r:Room (k+1) A)(env:Env):Room k (A.deeper env):=
 ⟨r.hd,by have:=r.dp;show A.depth+1+3*k+5<_;omega,by have:=r.un;show A.units+3+16*k+200<_;omega⟩
theorem v8{A:h_}:(A.under (.builtin "type.__call__" ⟨.ref C::us,kw⟩)).depth=A.depth+1:=by
 first|rfl|simp[Qu,Code.weight,Code.isCreation,Code.isGuard,Code.isCaller,Code.frames,Qv,guardIds]
theorem v9{A:h_}:(A.under (.builtin "type.__call__" ⟨.ref C::us,kw⟩)).units=A.units+1:=by
 first|rfl|simp[Qu,Code.cUnits,Code.frames,Qv]
theorem Room.make(r:Room (k+1) A)(C:dt)(us:List aC)(Z:List (Str×aC)):Room k (A.under (.builtin "type.__call__" ⟨.ref C::us,Z⟩)):=
 ⟨r.hd,by have:=r.dp;rw[v8];omega,by have:=r.un;rw[v9];omega⟩
theorem Room.depth(r:Room k A):A.depth<recursionLimit:=by have:=r.dp;omega
def DC:TA:=fun _ H Q=>Q [] H
def xE(ta:TE)(tr:TA):TA:=fun σ H Q=>ta σ H fun x H1=>tr σ H1 fun xs H2=>Q (x::xs) H2
section
variable {X:Cx}{e:Expr}{es:List Expr}{te:TE}{t:TA}{pos:Pos}
theorem gy:PA X [] DC:=fun _ _ _ _ H Q I h=>Pa ⟨[],H,I,.nil,h⟩
theorem dj(Y:PE X e te)(Z:PA X es t)(hs:eb (e::es) X.env=(dV,h9 e X.env)::eb es X.env:=by rfl):PA X (e::es) (xE te t):=by
 intro pos pins s σ H Q I h;rw[hs];show ee _ _ (spliced ((dV,h9 e X.env)::nC pos (eb es X.env))) _ _ s;refine Calls.spliced_cons (de (Y pins s σ H _ I h) fun u s1 ⟨x,H1,I1,r1,q1⟩=>?_);exact de (Z pos pins s1 σ H1 _ I1 q1) fun us s2 ⟨xs,H2,I2,r2,q2⟩=>⟨x::xs,H2,I2,.cons r1 r2,q2⟩
def Ku(t:TA):TE:=fun σ H Q=>t σ H fun xs H1=>xs.length<=sizeLine/\∀p,H1 p=none->Q (.ref p) (upd H1 p (.tup xs))
def Kv(t:TA):TE:=fun σ H Q=>t σ H fun xs H1=>xs.length<=sizeLine/\∀p,H1 p=none->Q (.ref p) (upd H1 p (.lst xs))
theorem AY{x1}(h:PA X es t):PE X (.Tuple es x1 pos) (Ku t):=by
 intro pins s σ H Q I Z;refine wpAny_Tuple_spliced (de (h pos pins s σ H _ I Z) fun us s1 ⟨xs,H1,I1,r,z,q⟩=>⟨by rw[<-r.length];exact z,?_⟩)
 have hf:H1 s1.heap.objs.size=none:=I1.hok.fresh (LF _);refine⟨.ref s1.heap.objs.size,upd H1 s1.heap.objs.size (.tup xs),I1.laid (t':=s1.toks) (fun b u e=>LB _ e) (LF _) ?_,rfl,q _ hf⟩;exact⟨sr z,us,r,⟨_,LM _ rfl,rfl,_,rfl⟩⟩
theorem Gh(h:PA X es t):PE X (.List es pos) (Kv t):=by
 intro pins s σ H Q I Z;refine wpAny_List_spliced (de (h pos pins s σ H _ I Z) fun us s1 ⟨xs,H1,I1,r,z,q⟩=>⟨by rw[<-r.length];exact z,?_⟩)
 have hf:H1 s1.heap.objs.size=none:=I1.hok.fresh (LF _);refine⟨.ref s1.heap.objs.size,upd H1 s1.heap.objs.size (.lst xs),I1.laid (t':=s1.toks) (fun b u e=>LB _ e) (LF _) ?_,rfl,q _ hf⟩;exact⟨z,us,0,r,LM _ rfl⟩
end
abbrev Sp:=List V->Hp->VK->XK->Prop
abbrev AH:=List Env->Hp->b_->XK->aC->b_->Prop
structure aF(P:e_)(w:f')(K:d_)(mg:Str->Option aC)(base:gd)(A:h_)(outer:List Env)(s:b_)(H:Hp):Prop where
 frames:A.frames=ar outer
 mod:Mod K mg base
 bs:∀b o,base.get? b=ar o->s.heap.get? b=ar o/\H b=none
 bsz:base.objs.size<=s.heap.objs.size
 funs:s.heap.FunFrames base outer
 frf:∀b∈jG outer,H b=none
 hok:fK P w H s.heap
 bare:A_ s.gens
def CE(outer:List Env)(P:e_)(w:f')(H:Hp)(s:b_)(Q:VK)(u:aC)(s':b_):Prop:=
 ∃v H',s'.os=s.os/\A_ s'.gens/\Un (jG outer) [] H H' s.heap s'.heap/\fK P w H' s'.heap/\RelV v u/\Q v H'
def CR(CX:AH)(outer:List Env)(P:e_)(w:f')(H:Hp)(s:b_)(Q:VK)(E:XK)(r:Rv)(s':b_):Prop:=
 match r with
 | .ok (.ret u)=>CE outer P w H s Q u s'
 | .ok _=>False
 | .error e=>CX outer H s E e s'
structure FnOk(P:e_)(w:f')(K:d_)(mg:Str->Option aC)(base:gd)(CX:AH)(k:Nat)(f:dt)(fd:g_)(ps:List Str)(sp:Sp):Prop where
 len:∀vs H Q E,sp vs H Q E->vs.length=ps.length
 run:∀(A:h_) (outer:List Env) (s:b_) (H:Hp) (args:Args) (us:List aC) (vs:List V) (Q:VK) (E:XK),Room k A->aF P w K mg base A outer s H->LI s fd args (ps.zip us)->bb vs us->sp vs H Q E->
  r7 (fc P w) A (.call (.ref f) args) (CR CX outer P w H s Q E) s
theorem aF.make{P:e_}{w:f'}{K:d_}{Z:Str->Option aC}{base:gd}{A:h_}{outer:List Env}{s:b_}{H:Hp}(e:aF P w K Z base A outer s H)(C:dt)(us:List aC)(Y:List (Str×aC)):
  aF P w K Z base (A.under (.builtin "type.__call__" ⟨.ref C::us,Y⟩)) outer s H:=⟨by first|exact e.frames|(simpa [Qu,Code.envs,Qv,pushEnvs]using e.frames),e.mod,e.bs,e.bsz,e.funs,e.frf,e.hok,e.bare⟩
section
variable {X:Cx}{pins:List (dt×Obj)}{σ:St}{H:Hp}{s s':b_}
theorem Inv.env0(I:Inv X pins σ H s):aF X.prog X.w X.K X.mg X.base X.A X.stack s H:=
 ⟨I.ok.frames,I.ok.mod,I.bs,LS I.ok.bsz I.sz,I.stack,I.stkFree,I.hok,I.bare⟩
theorem Inv.after(I:Inv X pins σ H s)(h:CE X.stack X.prog X.w H s Q u s'):EP X pins σ Q u s':=by
 obtain⟨v,U,os,bare,un,Z,r,q⟩:=h;obtain⟨W,g,d,t,Y⟩:=s';obtain rfl:Y=s.os:=os;exact⟨v,U,I.call (h':=W) (g':=g) (d':=d) (t':=t) (ch:=[]) un Z bare (fun b z=>absurd z (by simp)),r,q⟩
end
def IF(sp:Sp)(dvs:List V)(E:XK)(t:TA):TE:=fun σ H Q=>t σ H fun vs H1=>sp (vs++dvs) H1 Q E
def Binds(K:d_)(fd:g_)(ps:List Str)(ds:List aC):Prop:=
 ∀(s:b_) (us:List aC),K.In s.heap->(us++ds).length=ps.length->LI s fd ⟨us,[]⟩ (ps.zip (us++ds))
theorem Binds.all{K:d_}{Y:g_}{Z:List Str}(h:∀us:List aC,us.length=Z.length->Qw Y ⟨us,[]⟩=a_ (Z.zip us)):Binds K Y Z []:=fun s us _ X=>by
 rw[Mt]at X⊢;exact .of_eq (h us X)
def oV(CX:AH)(X:Cx)(E:XK):Prop:=∀(pins:List (dt×Obj)) (σ:St) (H:Hp) (s:b_) (e:aC) (s':b_),Inv X pins σ H s->CX X.stack H s E e s'->X.xe e s'
section
variable {X:Cx}{CX:AH}{k:Nat}{f C:dt}{fd:g_}{ps:List Str}{sp:Sp}{dvs:List V}{ds:List aC}{E:XK}{x m:Str}{p pos apos:Pos}{e o:Expr}{es:List Expr}{ta:TE}{t:TA}
theorem Gi(F:FnOk X.prog X.w X.K X.mg X.base CX k f fd ps sp)(W:Room k X.A)(U:Binds X.K fd ps ds)(T:bb dvs ds)(S:oV CX X E)
  (I:Inv X pins σ H s) (r:bb vs us) (h:sp (vs++dvs) H Q E):ee (fc X.prog X.w) X.A (call (.ref f) us) (EP X pins σ Q) X.xe s:=by
 have Y:bb (vs++dvs) (us++ds):=r.append T;have R:(us++ds).length=ps.length:=by rw[<-Y.length];exact F.len _ _ _ _ h
 refine NQ (M7 (F.run X.A X.stack s H ⟨us,[]⟩ (us++ds) (vs++dvs) Q E W I.env0 (U s us I.kIn R) Y h) fun r s' Z=>?_);cases r with
 |error e=>exact S pins σ H s e s' I Z
 |ok fl=>
  cases fl with
  |ret u=>exact I.after Z
  |next=>exact hO Z
  |brk=>exact hO Z
  |cont=>exact hO Z
theorem xF(F:FnOk X.prog X.w X.K X.mg X.base CX k f fd ps sp)(U:Room k X.A)(N:Gl X x)(O:X.mg x=ar (.ref f))(L:D_ X.K (.ref f)=c_)(P:Binds X.K fd ps ds)(S:bb dvs ds)(R:oV CX X E)
  (T:PA X (e::es) t) (Z:(x==("__debug__":Str))=false:=by decide) (J:eb (e::es) X.env=(dV,h9 e X.env)::eb es X.env:=by rfl) (Y:(nC pos (eb es X.env)).any (·.1)=false:=by rfl):
  PE X (.Call (.Name x p) (e::es) [] pos) (IF sp dvs E t):=by
 intro pins s σ H Q I h;refine Nj (iX I N O ?_ Z);refine O3 (h₀:=X.base) I.ok.mod.kin L (de (T pos pins s σ H _ I h) fun us s1 ⟨vs,H1,I1,r,q⟩=>⟨I1.kIn,?_⟩) J Y;exact Gi F U P S R I1 r q
structure Mk(K:d_)(C f:dt):Prop where
 makes:W.makesIn K C=c_
 init:G3 K (.ref C) "__init__"=ar (ar (.ref f))
 fn:W.isFn K (.ref f)=c_
 kp:D_ K (.ref C)=c_
end
section
variable {X:Cx}{CX:AH}{k:Nat}{f C:dt}{fd:g_}{ps ks:List Str}{sp:Sp}{E:XK}{x m:Str}{p pos apos kpos:Pos}{e o:Expr}{es:List Expr}{kws:List QY}{te ta:TE}{t tk:TA}{nm:Option Str}
structure KBinds(K:d_)(fd:g_)(ps ks:List Str)(g:List aC->List aC->List aC)(gV:List V->List V->List V):Prop where
 to:∀(s:b_) (us ws:List aC),K.In s.heap->(g us ws).length=ps.length->LI s fd ⟨us,ks.zip ws⟩ (ps.zip (g us ws))
 rel:∀{vs:List V} {us:List aC} {zs:List V} {ws:List aC},bb vs us->bb zs ws->bb (gV vs zs) (g us ws)
variable {g:List aC->List aC->List aC}{gV:List V->List V->List V}
end
structure FnScope(N P:List Str)(sc:Scope):Prop where
 kind:sc.kind= .function
 co:sc.isCoroutine=dV
 gen:sc.isGenerator=dV
 nd:N.Nodup
 pre:N.take P.length=P
 par:∀x∈P,sc.names.lookup x=ar .local\/sc.names.lookup x=ar .cell
 nofree:∀y∈sc.names,y.2≠ .free
theorem q0{Z:Str->Option mu}{x:Str}:∀{binds:List (Str×aC)} {m:Str->Option aC},(∀v,(x,v)∉binds)->Q4 Z binds m x=m x
 |[],_,_=>rfl
 | (n,v)::r,m,h=>by
  unfold Q4;rw[q0 fun w hw=>h w (LN _ hw)];split
  ·have:x≠n:=by rintro rfl;exact h v LX
   simp[this]
  ·rfl
theorem rf{Z:Str->Option mu}{x:Str}:∀{binds:List (Str×aC)} {m:Str->Option aC},(∀v,(x,v)∉binds)->Q5 Z binds m x=m x
 |[],_,_=>rfl
 | (n,v)::r,m,h=>by
  unfold Q5;rw[rf fun w hw=>h w (LN _ hw)];split
  ·rfl
  ·have:x≠n:=by rintro rfl;exact h v LX
   simp[this]
theorem rg{Z:Str->Option mu}:∀{P:List Str} {vs:List aC} {i:Nat} {m:Str->Option aC},P.Nodup->P[i]? =ar x->vs[i]? =ar v->Z x=ar .local->
  Q4 Z (P.zip vs) m x=ar v
 |[],_,_,_,_,h,_,_=>by simp at h
 |_::_,[],_,_,_,_,h,_=>by simp at h
 |p::P,w::vs,0,m,nd,h1,h2,hk=>by
  simp at h1 h2;subst h1;subst h2;show Q4 Z ((p,w)::P.zip vs) m p=_;unfold Q4;rw[q0 fun v Y=>(MM.mp nd).1 (Og Y).1,if_pos hk];simp
 |p::P,w::vs,i+1,m,nd,h1,h2,hk=>by
  show Q4 Z ((p,w)::P.zip vs) m x=_;unfold Q4;exact rg (i:=i) (MM.mp nd).2 (by simpa using h1) (by simpa using h2) hk
theorem rh{Z:Str->Option mu}:∀{P:List Str} {vs:List aC} {i:Nat} {m:Str->Option aC},P.Nodup->P[i]? =ar x->vs[i]? =ar v->Z x≠ar .local->
  Q5 Z (P.zip vs) m x=ar v
 |[],_,_,_,_,h,_,_=>by simp at h
 |_::_,[],_,_,_,_,h,_=>by simp at h
 |p::P,w::vs,0,m,nd,h1,h2,hk=>by
  simp at h1 h2;subst h1;subst h2;show Q5 Z ((p,w)::P.zip vs) m p=_;unfold Q5;rw[rf fun v Y=>(MM.mp nd).1 (Og Y).1,if_neg hk];simp
 |p::P,w::vs,i+1,m,nd,h1,h2,hk=>by
  show Q5 Z ((p,w)::P.zip vs) m x=_;unfold Q5;exact rh (i:=i) (MM.mp nd).2 (by simpa using h1) (by simpa using h2) hk
def start(N:List Str)(vs:List V):St:=vs.map ar++eo (N.length - vs.length) none
def jH(CX:AH)(P:e_)(w:f')(K:d_)(mg:Str->Option aC)(base:gd)(N:List Str)(qual:Str)(scope:Scope)(f:dt)(cd:aC)(A:h_)(outer:List Env)(s:b_)(H:Hp)(E:XK):Cx where
 prog:=P
 w:=w
 K:=K
 mg:=mg
 base:=base
 A:=A.deeper (EW qual scope s.heap.objs.size f cd)
 N:=N
 s₀:=s
 H₀:=H
 env:=EW qual scope s.heap.objs.size f cd
 outer:=outer
 stack:=EW qual scope s.heap.objs.size f cd::outer
 ex:=[]
 calm:=c_
 fn:=fun _=>c_
 pn:=[]
 xe:=fun e s'=>ee (fc P w) (A.deeper (EW qual scope s.heap.objs.size f cd)) (Qi (EW qual scope s.heap.objs.size f cd) e) (fun _ s''=>CX outer H s E e s'') (fun e' s''=>CX outer H s E e' s'') s'
theorem ui{Z:Scope}(h:Z.names.lookup x=ar .cell):∃c,(j' n Z.names []).lookup x=ar c:=by
 have q:=Ot Z.names n [] (.inl h);exact MS.mp q
theorem zb{G:AH}{P:e_}{w:f'}{K:d_}{I:Str->Option aC}{base:gd}{N U:List Str}{qual:Str}{scope:Scope}{f:dt}{J:aC}{A:h_}{outer:List Env}{s C:b_}{H:Hp}{E:XK}{us:List aC}{vs:List V}
  (S:FnScope N U scope) (o:A.handled=none) (Y:aF P w K I base A outer s H) (d:vs.length=U.length) (r:bb vs us)
  (x:InCallC s s.heap.objs.size (Q4 (EW qual scope s.heap.objs.size f J).kindOf (U.zip us) fun _=>none) (j' (s.heap.objs.size+1) scope.names []) (Q5 (EW qual scope s.heap.objs.size f J).kindOf (U.zip us) fun _=>none) C):
  Inv (jH G P w K I base N qual scope f J A outer s H E) [] (start N vs) H C:=by
 have m:U.length<=N.length:=by have:=OE QR S.pre;rw[N4]at this;omega
 obtain⟨O,g,rfl,F⟩:=x.done;have T:∀b:dt,b∉(jH G P w K I base N qual scope f J A outer s H E).ex:=fun b z=>absurd (show b∈([]:List dt)from z) (by simp)
 refine⟨⟨Y.mod,S.kind,rfl,rfl,LF _,fun y z c O Z=>?_,fun y X=>?_,fun y c _ h=>?_,fun _=>o,Around.frames_deeper Y.frames,.inr ⟨rfl,rfl⟩,fun b z=>absurd z (T b),Y.bs,Y.bsz,fun b _ _=>T b,fun b z=>absurd z (T b),Y.funs,Y.frf⟩,
  rfl,Y.bare,Un.kept F,⟨_,x.toInCall.ns,fun i y v O Z j=>?_⟩,fun y c h=>⟨_,x.cell y c h⟩,Y.hok.fresh (LF _),fun y c h=>?_,fun p Q=>absurd (show p∈([]:List (dt×Obj))from Q) (by simp),Y.hok.kept F,?_⟩
 ·exact name_of_addr x.apart (Nu O) (Nu Z)
 ·have X:scope.names.lookup y=ar .cell\/scope.names.lookup y=ar .free:=X;rcases X with X|X
  ·exact ui X
  ·exact absurd rfl (S.nofree _ (Nu X))
 ·exact Nd (x.above y c (Nu h))
 ·have L:i<vs.length:=by
   unfold start at Z;by_cases L:i<vs.length
   ·exact L
   ·rw[NV (by simpa using L)]at Z
    rw[List.getElem?_replicate]at Z;split at Z<;>cases Z
  have t:vs[i]? =ar v:=by
   unfold start at Z;rw[Mm (by simpa using L),L3]at Z
   cases e:vs[i]? with
   |none=>rw[e]at Z;cases Z
   |some a=>rw[e]at Z;cases Z;rfl
  obtain⟨u,B,l⟩:=r.get t;have Q:U[i]? =ar y:=by
   rw[<-S.pre,Pb (by omega)];exact O
  have R:U.Nodup:=by rw[<-S.pre];exact S.nd.sublist (List.take_sublist _ _)
  refine⟨u,l,?_⟩;rcases S.par y (Mf Q)with k|k
  ·exact .inl ⟨k,rg R Q B k⟩
  ·obtain⟨c,e⟩:=ui (n:=s.heap.objs.size+1) k;refine .inr ⟨.inl k,c,e,?_⟩;have q:=x.cell y c e;rw[rh R Q B (by show scope.names.lookup y≠_;rw[k];decide)]at q
   exact q
 ·exact Y.hok.fresh (Nd (x.above y c (Nu h)))
 ·unfold start;show _=N.length;rw[LL,LC,OI];omega
theorem AZ{F:AH}{P:e_}{w:f'}{K:d_}{B:Str->Option aC}{base:gd}{k:Nat}{f:dt}{name qual:Str}{params:PU}{body:List n3}{scope:Scope}{g kV O i Z ct oc:aC}{j od:Option dt}
  {p:Array (Option aC)} {N C:List Str} {sp:Sp} (lk:K.lookup f=ar ⟨oc,od,.func (G2 name qual params body scope g kV O i j Z ct),p⟩) (l:Qx K Z qual=c_) (S:FnScope N C scope)
  (R:∀vs H Q E,sp vs H Q E->vs.length=C.length)
  (T:∀(A:h_) (outer:List Env) (s:b_) (H:Hp) (vs:List V) (Q:VK) (E:XK),Room k (A.deeper (EW qual scope s.heap.objs.size f Z))->sp vs H Q E->
   ∃t,oO (jH F P w K B base N qual scope f Z A outer s H E) body t/\t {nx:=fun _ X=>Q .non X,rt:=Q} (start N vs) H):
  FnOk P w K B base F (k+1) f (G2 name qual params body scope g kV O i j Z ct) C sp:=by
 refine⟨R,fun A outer s H args us vs Q E z L hb r G=>?_⟩;have hl:=R _ _ _ _ G;have h:K.In s.heap:=L.mod.kin.keeps fun b o e=>(L.bs b o e).1;have lim:s.heap.NoLimit:=L.mod.nolimit.keeps fun b o e=>(L.bs b o e).1;have U:∀y∈C.zip us,scope.names.lookup y.1=ar .local\/(scope.names.lookup y.1=ar .cell/\((j' (s.heap.objs.size+1) scope.names []).lookup y.1).isSome=c_):=fun⟨n,v⟩ hy=>by
  rcases S.par n (Og hy).1 with q|q
  ·exact .inl q
  ·exact .inr ⟨q,Ot _ _ _ (.inl q)⟩
 refine codeAny_call_function z.depth (h _ _ lk) rfl S.co S.gen rfl (W.codeRec_of h l) (hb _ _ _ _ ?_);refine wpAny_newFunctionEnv_cells S.kind U fun env he s1 x=>?_;subst he;refine⟨lim.keeps x.toInCall.keep,codeAny_func ?_⟩;obtain⟨t,a,c⟩:=T A outer s H vs Q E (z.deeper _) G;have I:Inv (jH F P w K B base N qual scope f Z A outer s H E) [] (start N vs) H s1:=zb S z.hd L hl r x;refine Mb (a [] s1 (start N vs) H _ I c) (fun d s' hs=>?_) fun e s' hs=>hs;have fin:∀{Y:St} {X:Hp} {v:V} {u:aC},Inv (jH F P w K B base N qual scope f Z A outer s H E) [] Y X s'->RelV v u->Q v X->CE outer P w H s Q u s':=
  fun{Y X v u} J m q=>⟨v,X,J.os,J.bare,J.base,J.hok,m,q⟩
 cases d with
 |ret u=>
  obtain⟨v,Y,X,J,m,q⟩:=hs;exact fin J m q
 |next=>
  obtain⟨Y,X,J,q⟩:=hs;exact fin (v:=V.non) (u:=i0) J rfl q
 |brk=>
  obtain⟨_,_,_,q⟩:=hs;exact hO q
 |cont=>
  obtain⟨_,_,_,q⟩:=hs;exact hO q
end L2
namespace L2
open PySem PySem.Spec PyProof.Rows
section
variable {X:Cx}{x:Str}{p pos:Pos}{e:Expr}{es:List Expr}{t:TA}{id T:String}{r:List V->Hp->VK->Prop}
def Kw(r:List V->Hp->VK->Prop)(t:TA):TE:=fun σ H Q=>t σ H fun vs H1=>r vs H1 Q
theorem iF(W:cR X (.builtin id) r)(O:Gl X x)(R:X.mg x=none)(P:kS x=ar (.builtin id))(S:PA X (e::es) t)(U:x≠"__name__":=by decide)(Z:(x==("__debug__":Str))=false:=by decide)
  (N:eb (e::es) X.env=(dV,h9 e X.env)::eb es X.env:=by rfl) (Y:(nC pos (eb es X.env)).any (·.1)=false:=by rfl):PE X (.Call (.Name x p) (e::es) [] pos) (Kw r t):=by
 intro pins s σ H Q I h;refine Nj (kF I O R P ?_ U Z);exact PyProof.Rows.callWith_builtin1 (de (S pos pins s σ H _ I h) fun us s1 ⟨vs,H1,I1,r1,q1⟩=>W pins s1 σ H1 vs us Q I1 r1 q1) N Y
theorem iG(W:cR X (.type T) r)(O:Gl X x)(R:X.mg x=none)(P:kS x=ar (.type T))(S:PA X (e::es) t)(U:x≠"__name__":=by decide)(Z:(x==("__debug__":Str))=false:=by decide)
  (N:eb (e::es) X.env=(dV,h9 e X.env)::eb es X.env:=by rfl) (Y:(nC pos (eb es X.env)).any (·.1)=false:=by rfl):PE X (.Call (.Name x p) (e::es) [] pos) (Kw r t):=by
 intro pins s σ H Q I h;refine Nj (kF I O R P ?_ U Z);exact MT (de (S pos pins s σ H _ I h) fun us s1 ⟨vs,H1,I1,r1,q1⟩=>W pins s1 σ H1 vs us Q I1 r1 q1) N Y
end
end L2
namespace HT
open PySem PyProof.Rows
def lexLt:List Int->List Int->Bool
 |[],[]=>dV
 |[],_::_=>c_
 |_::_,[]=>dV
 |x::xs,y::ys=>if x=y then lexLt xs ys else decide (x<y)
theorem lexLt_cons(x y:Int)(xs ys:List Int):lexLt (x::xs) (y::ys)=if x=y then lexLt xs ys else decide (x<y):=rfl
theorem qE:lexLt [] []=false:=rfl
theorem oW(y:Int)(ys:List Int):lexLt [] (y::ys)=true:=rfl
theorem oX(x:Int)(xs:List Int):lexLt (x::xs) []=false:=rfl
theorem A0(A:h_)(s:b_)(a:Int)(t:Tok)(c:Int)(u:Tok):∃e,SeqAt.EqAt A s (.int a t) (.int c u) e/\(e=c_↔a=c):=
 ⟨(a==c),SeqAt.EqAt.int_int a t c u,by simp⟩
theorem A1(A:h_)(s:b_)(a:Int)(t:Tok)(c:Int)(u:Tok)(prog:e_)(w:f')(E:aC->b_->Prop)(Q:aC->b_->Prop)(h:Q (.bool (decide (a<c))) s):
  ee (fc prog w) A (richCompare .Lt (.int a t) (.int c u)) Q E s:=
 (PyProof.Rows.lt_int h:ee (fc prog w) A (j_ .Lt (.int a t) (.int c u)) Q E s)
section
open PySem.SeqAt
open PySem.AutoSeq1 (wpAny_loadPart')
open PySem.MeetsSeq PySem.MeetsSeq2 PySem.MeetsSeq3
theorem qF(l b:dt)(Y Z:Array aC)(n J:Nat)(dd P:Option dt)(K Q:Array (Option aC))(ns U:List Int)(N:m3 Y.toList ns)(L:m3 Z.toList U):
  Meets (Builtin.«tuple.__lt__» ⟨[.ref l,.ref b],[]⟩)
   (fun _ R s=>s.heap.get? l=ar {cls:=.type "tuple",dict:=dd,data:=.seq Y n,slots:=K}/\s.heap.get? b=ar {cls:=.type "tuple",dict:=P,data:=.seq Z J,slots:=Q}/\
    R (.ok (.ret (.bool (lexLt ns U)))) s):=
 .of_wp fun prog w A R s h=>by
  obtain⟨T,g,d,W,os⟩:=s;obtain⟨I,H,h⟩:=h;have f2:=AutoSeq1.sub_tuple_tuple;have G:Y.size=ns.length:=by rw[<-N.length];simp
  have F:Z.size=U.length:=by rw[<-L.length];simp
  wp_walk using wpAny_loadPart' I,wpAny_loadPart' H,OL _ (fun rest b s'=>b.1=none/\s'=⟨T,g,d,W,os⟩/\∃(vs ws:List aC) (ns' ms':List Int),rest=vs.zip ws/\
   m3 vs ns'/\m3 ws ms'/\ns'.length+Z.size=ms'.length+Y.size/\R (.ok (.ret (.bool (lexLt ns' ms')))) ⟨T,g,d,W,os⟩) _
  case turn=>
   rintro⟨y,x⟩ rest b s' ⟨hb',rfl,vs,ws,ns',ms',hz,hvi,hwi,hlen,hR⟩;cases hvi with
   |nil=>rw[List.zip_nil_left]at hz;cases hz
   | cons a t hvi'=>
    cases hwi with
    |nil=>rw[List.zip_nil_right]at hz;cases hz
    | cons c u hwi'=>
     rw[O4]at hz;injection hz with hyx hrest;injection hyx with hy hx;subst hy hx;rw[lexLt_cons]at hR;simp only[p_]at hlen;obtain⟨e,he,X⟩:=A0 A.in1 ⟨T,g,d,W,os⟩ a t c u;refine LA (he prog w _ _ ?_);cases e with
     |true=>
      rw[if_pos (X.mp rfl)]at hR
      wp_walk
      exact⟨rfl,rfl,_,_,_,_,hrest,hvi',hwi',by omega,hR⟩
     |false=>
      rw[if_neg (fun q=>absurd (X.mpr q) MP)]at hR;have S:=A1 A.in1 ⟨T,g,d,W,os⟩ a t c u prog w
      wp_walk using S
      exact⟨_,rfl,by simpa using hR⟩
  case fin=>
   rintro⟨b1,b2⟩ s' ⟨hb',rfl,vs,ws,ns',ms',hz,hvi,hwi,hlen,hR⟩;simp only at hb';subst hb';have O:lexLt ns' ms'=decide (Y.size<Z.size):=by
    cases hvi with
    | nil=>
     cases hwi with
     |nil=>
      simp only[E1]at hlen;rw[qE];exact(Mn (by omega)).symm
     |cons c u hw=>
      simp only[E1,p_]at hlen;rw[oW];exact(L7 (by omega)).symm
    | cons a t O=>
     cases hwi with
     |nil=>
      simp only[E1,p_]at hlen;rw[oX];exact(Mn (by omega)).symm
     |cons c u hw=>
      rw[O4]at hz;cases hz
   rw[O]at hR
   wp_walk
   exact⟨_,rfl,by simpa [Builtin.Tuple.tupleCompareSizes]using hR⟩
  case h=>
   exact⟨rfl,rfl,Y.toList,Z.toList,ns,U,rfl,N,L,by omega,h⟩
end
section
variable {prog:e_}{w:f'}{A:h_}{E:aC->b_->Prop}{s:b_}
theorem lt_tupInts{Q:aC->b_->Prop}(P:Rj s.heap l items)(O:Rj s.heap b items2)(K:m3 items.toList ns)(J:m3 items2.toList ms)
  (L:A.units<y8) (h:Q (.bool (lexLt ns ms)) s):ee (fc prog w) A (j_ .Lt (.ref l) (.ref b)) Q E s:=by
 obtain⟨⟨cls,dd,data,N⟩,S,T,n,hd⟩:=id P;obtain⟨⟨U,W,data2,X⟩,Z,Y,R,hd2⟩:=id O;simp only at T hd Y hd2;subst T hd Y hd2;exact richCompare_meets_room (op:=.Lt) ⟨_,S,rfl⟩ ⟨_,Z,rfl⟩ PySem.F.slot_tuple_lt PySem.F.entry_tuple_lt (PySem.F.args_tuple_lt_2 _ _) (qF l b items items2 n R dd W N X ns ms K J)
  ⟨S,Z,show ri (lexLt ns ms)≠Value.notImplemented/\Q (.bool (lexLt ns ms)) s from⟨(fun x=>nomatch x),h⟩⟩ L
theorem cat_tup{vs Z:List aC}{Q:aC->b_->Prop}(I:Rj s.heap t vs.toArray)(H:Rj s.heap b Z.toArray)(L:vs≠[])
  (K:Z=[]->Q (.ref t) s) (J:Z≠[]->Q (.ref s.heap.objs.size) {s with heap:=s.heap.push {cls:=.type "tuple",data:=.seq (vs++Z).toArray}})
  (S:vs.length+Z.length<=sizeLine):ee (fc prog w) A (r_ .Add (.ref t) (.ref b)) Q E s:=by
 obtain⟨⟨cls,dd,data,N⟩,T,O,n,hd⟩:=id I;obtain⟨⟨P,W,data2,X⟩,Y,U,R,hd2⟩:=id H;simp only at O hd U hd2;subst O hd U hd2;have e:vs.toArray++Z.toArray=(vs++Z).toArray:=by simp
 by_cases hw:Z=[]
 ·exact Qy ⟨_,T,rfl⟩ ⟨_,Y,rfl⟩ Py Ql Ou Oh (Ob _ _)
   (tuple_addW1 t b vs.toArray Z.toArray n R dd W N X (by simpa using L) (by simp[hw])) ⟨T,Y,K hw⟩
 ·refine Qy ⟨_,T,rfl⟩ ⟨_,Y,rfl⟩ Py Ql Ou Oh (Ob _ _)
   (tuple_addW2 t b vs.toArray Z.toArray n R dd W N X (by simpa using L) (by simpa using hw) (by rw[LR,LR];exact S)) ⟨T,Y,?_⟩
  rw[e];exact J hw
def sIx(n d:Nat):Option Int->Nat
 |none=>d
 |some v=>if v<0 then (v+(n:Int)).toNat else min v.toNat n
theorem Gj(n d:Nat)(Z:d<=n)(o:Option Int):sIx n d o<=n:=by
 cases o with
 |none=>exact Z
 |some v=>
  show(if v<0 then (v+(n:Int)).toNat else min v.toNat n)<=n;by_cases hv:v<0
  ·rw[if_pos hv];omega
  ·rw[if_neg hv];exact Nat.min_le_right _ _
theorem xG(v:Int)(n d:Nat):(if v<0 then max (v+(n:Int)) 0 else min v (n:Int))=((sIx n d (ar v):Nat):Int):=by
 show(if v<0 then max (v+(n:Int)) 0 else min v (n:Int))=(((if v<0 then (v+(n:Int)).toNat else min v.toNat n):Nat):Int);by_cases hv:v<0
 ·simp only[if_pos hv];omega
 ·simp only[if_neg hv];omega
theorem wa(Y Z:Option Int)(n:Nat):vr Y Z 1 (n:Int)=(((sIx n 0 Y:Nat):Int),((sIx n n Z:Nat):Int)):=by
 have X:¬ ((1:Int)<0):=by omega
 unfold vr;simp only[X,if_false];refine OD ?_ ?_
 ·cases Y with
  |none=>rfl
  |some v=>exact xG v n 0
 ·cases Z with
  |none=>rfl
  |some v=>exact xG v n n
theorem wb(i j:Nat):n7 (i:Int) (j:Int) 1=j - i:=by
 unfold n7;have Z:(1:Int)>0:=by omega
 simp only[Z,if_true,Int.ediv_one];split<;>omega
theorem oY{Q:Option Int->b_->Prop}(p:Qp v o)(h:Q o s):ee (fc prog w) A (Builtin.Slice.slicePartIndex v) Q E s:=by
 cases p with
 |none=>exact slicePart_none h
 |int i t=>exact slicePart_int h
theorem sliceApplied_gen{S:dt}{T U:aC}{Z W:Option Int}{n:Nat}{Q:Int×Int×Nat->b_->Prop}(hs:s.heap.IsSliceOf S T U .none)(R:Qp T Z)(P:Qp U W)
  (h:Q (((sIx n 0 Z:Nat):Int),1,sIx n n W - sIx n 0 Z) s):ee (fc prog w) A (Builtin.Slice.sliceApplied (.ref S) (a_ (n:Int))) Q E s:=by
 obtain⟨os,Y,O,X⟩:=id hs;unfold Builtin.Slice.sliceApplied Builtin.Slice.sliceFields;refine LA (LA (MJ Y X (x:=T) rfl (LA (MJ Y X (x:=U) rfl (LA (MJ Y X (x:=.none) rfl (LD ?_)))))));refine LA (slicePart_none ?_);show ee _ _ (if ((1:Int)==0)=c_ then _ else _) _ _ s;rw[if_neg (by decide)]
 refine LA (oY R (LA (oY P (LA (LD ?_)))));show ee _ _ (match vr Z W 1 (n:Int)with|(Z,W)=>a_ (Z,(1:Int),n7 Z W 1)) _ _ s
 rw[wa Z W n];show ee _ _ (a_ (((sIx n 0 Z:Nat):Int),(1:Int),n7 ((sIx n 0 Z:Nat):Int) ((sIx n n W:Nat):Int) 1)) _ _ s;rw[wb];exact LD h
theorem A3(xs:Array aC)(i k:Nat):((ey k).filterMap fun(m:Nat)=>xs[((i:Int)+(m:Int)*1).toNat]?).toArray=((xs.toList.drop i).take k).toArray:=by
 have e:(fun(m:Nat)=>xs[((i:Int)+(m:Int)*1).toNat]?)=fun m=>xs[i+m]? :=by
  funext m;have:((i:Int)+(m:Int)*1).toNat=i+m:=by omega
  rw[this]
 rw[e];have:=pick_run xs i k;rw[List.filterMap_map]at this;have e2:((fun x=>xs[x]?)∘fun x=>i+x)=fun m=>xs[i+m]? :=rfl;rw[e2]at this;rw[this]
theorem getItem_tuple_cut{t S:dt}{Z:Array aC}{N L:aC}{X W:Option Int}{Q:aC->b_->Prop}(U:Rj s.heap t Z)(hs:s.heap.IsSliceOf S N L .none)(K:Qp N X)(J:Qp L W)
  (G:¬ (sIx Z.size 0 X=0/\sIx Z.size Z.size W=Z.size))
  (h:Q (.ref s.heap.objs.size) {s with heap:=s.heap.push {cls:=.type "tuple",data:=.seq ((Z.toList.drop (sIx Z.size 0 X)).take (sIx Z.size Z.size W - sIx Z.size 0 X)).toArray}})
  (H:Z.size<=sizeLine):ee (fc prog w) A (Qz (.ref t) (.ref S)) Q E s:=by
 have Y:sizeOk (.seq ((Z.toList.drop (sIx Z.size 0 X)).take (sIx Z.size Z.size W - sIx Z.size 0 X)).toArray):=by
  show((Z.toList.drop (sIx Z.size 0 X)).take (sIx Z.size Z.size W - sIx Z.size 0 X)).toArray.size<=sizeLine;rw[LR,N4,Pz,Nv];omega
 have F:sIx Z.size Z.size W<=Z.size:=Gj _ _ (LF _) W;obtain⟨os,T,R,I⟩:=id hs;have O:s.TypeIs (.ref S) "slice":=⟨os,T,R⟩;unfold Qz
 try with_reducible refine Mw ?_
 first|refine LA (LD ?_)|skip
 refine LA (wpAny_sequenceKey U.typeIs (by decide) ?_)
 refine LA (wpAny_callSpecial?_slot (name:=i_ "__getitem__") U.typeIs MZ
  (ME MZ U.typeIs entry_tuple_getitem ?_ (args_tuple_getitem _ _)))
 show ee _ _ (Builtin.Tuple.tupleItemsOf (.ref t)>>=_) _ _ s;refine LA (tupleItemsOf_ U ?_);refine LA (Oc O ?_);rw[if_pos (by decide)]
 refine LA (sliceApplied_gen hs K J ?_);have P:¬ ((((sIx Z.size 0 X:Nat):Int)==0 && (1:Int)==1 && (sIx Z.size Z.size W - sIx Z.size 0 X)==Z.size)=c_):=by
  intro q;rw[MW,MW]at q;have C:((sIx Z.size 0 X:Nat):Int)=0:=Rl q.1.1;have B:sIx Z.size Z.size W - sIx Z.size 0 X=Z.size:=Rl q.2;exact G ⟨by omega,by omega⟩
 show ee _ _ (if (((sIx Z.size 0 X:Nat):Int)==0 && (1:Int)==1 && (sIx Z.size Z.size W - sIx Z.size 0 X)==Z.size)=c_ then _ else _) _ _ s;rw[if_neg P,A3];first
  |exact LA (m:=pb _) (Mx (LD ⟨_,rfl,LD h⟩) Y)
  |exact LA (m:=pb _) (Mx (LA (LD (LD ⟨_,rfl,LD h⟩))) Y)
  |exact LA (LA (m:=pb _) (Mx (LD (LD ⟨_,rfl,LD h⟩)) Y))
  |exact LA (LA (m:=pb _) (Mx (LD ⟨_,rfl,LD h⟩) Y))
end
end HT
namespace L2
open PySem PySem.Spec PyProof.Rows
abbrev TO:=St->Hp->(Option Int->Hp->Prop)->Prop
def PO(X:Cx)(e:Option Expr)(t:TO):Prop:=
 ∀(pins:List (dt×Obj)) (s:b_) (σ:St) (H:Hp) (Q:Option Int->Hp->Prop),Inv X pins σ H s->t σ H Q->
  ee (fc X.prog X.w) X.A (evalPart e X.env) (fun u s'=>∃o H',Inv X pins σ H' s'/\Qp u o/\Q o H') X.xe s
def DD:TO:=fun _ H Q=>Q none H
def IG(t:TE):TO:=fun σ H Q=>t σ H fun x H1=>∃i,x= .int i/\Q (ar i) H1
theorem Oz{ns:List Int}:∀{us:List aC},bb (ns.map V.int) us->m3 us ns:=by
 induction ns with
 |nil=>intro us r;rw[Od]at r;cases r;exact .nil
 | cons n ns ih=>
  intro us r;rw[LZ]at r;cases r with
  |cons r1 r2=>
   obtain⟨t,e⟩:=r1;subst e;exact .cons n t (ih r2)
section
variable {X:Cx}{e:Expr}{te:TE}{lo hi:Option Expr}{tl th:TO}{pos p2:Pos}
theorem DE:PO X none DD:=by
 intro pins s σ H Q I h;rw[evalPart_none];exact LD ⟨none,H,I,.none,h⟩
theorem DF(h:PE X e te):PO X (ar e) (IG te):=by
 intro pins s σ H Q I hw;rw[evalPart_some];refine de (h pins s σ H _ I hw) fun u s1 ⟨x,H1,I1,r1,q1⟩=>?_;obtain⟨i,rfl,q⟩:=q1;obtain⟨t,rfl⟩:=r1;exact⟨ar i,H1,I1,.int i t,q⟩
def Fi(X:Cx)(r:V->Option Int->Option Int->Hp->VK->Prop):Prop:=
 ∀(pins:List (dt×Obj)) (s:b_) (σ:St) (H:Hp) (x:V) (v vl vu:aC) (lo hi:Option Int) (sl:dt) (Q:VK),Inv X pins σ H s->RelV x v->s.heap.IsSliceOf sl vl vu .none->Qp vl lo->Qp vu hi->r x lo hi H Q->
  ∃T id,typeLookup (.type T) "__getitem__"=a_ (ar (.builtin id))/\s.TypeIs v T/\ee (fc X.prog X.w) X.A (Qz v (.ref sl)) (EP X pins σ Q) X.xe s
theorem Fi.or{r W:V->Option Int->Option Int->Hp->VK->Prop}(h:Fi X r)(h':Fi X W):Fi X (fun x lo hi H Q=>r x lo hi H Q\/W x lo hi H Q):=by
 intro pins s σ H x v U S lo hi T Q I Z hs Y pu q;rcases q with q|q
 ·exact h pins s σ H x v U S lo hi T Q I Z hs Y pu q
 ·exact h' pins s σ H x v U S lo hi T Q I Z hs Y pu q
def Lm(r:V->Option Int->Option Int->Hp->VK->Prop)(te:TE)(tl th:TO):TE:=fun σ H Q=>te σ H fun x H1=>tl σ H1 fun l H2=>th σ H2 fun u H3=>r x l u H3 Q
theorem A4(Y:Fi X r)(O:PE X e te)(S:PO X lo tl)(P:PO X hi th):PE X (.Subscript e (.Slice lo hi none p2) pos) (Lm r te tl th):=by
 intro pins s σ H Q I h;refine Subscript_ (de (O pins s σ H _ I h) fun v s1 ⟨x,H1,I1,r1,q1⟩=>?_);refine wpAny_Slice (de (S pins s1 σ H1 _ I1 q1) fun vl s2 ⟨l,H2,I2,pl,q2⟩=>de (P pins s2 σ H2 _ I2 q2) fun vu s3 ⟨u,H3,I3,pu,q3⟩=>?_);rw[evalPart_none];refine LD ?_;have W:Inv X pins σ H3 {s3 with heap:=s3.heap.push {cls:=.type "slice",data:=.fields #[vl,vu,.none]}}:=I3.kept (t':=s3.toks) fun b N q=>LB _ q;obtain⟨T,id,Z,U,R⟩:=Y pins {s3 with heap:=s3.heap.push {cls:=.type "slice",data:=.fields #[vl,vu,.none]}} σ H3 x v vl vu l u s3.heap.objs.size Q W r1 (Heap.IsSliceOf.new ..) pl pu q3;show ee (fc X.prog X.w) X.A (subscriptTail e (.Slice lo hi none p2) v (.ref s3.heap.objs.size)) (EP X pins σ Q) X.xe {s3 with heap:=s3.heap.push {cls:=.type "slice",data:=.fields #[vl,vu,.none]}};exact tail_any (ops:=[.ref s3.heap.objs.size,v]) U Z R (by with_unfolding_all rfl)
def qG(xs:List V)(lo hi:Option Int):List V:=(xs.drop (HT.sIx xs.length 0 lo)).take (HT.sIx xs.length xs.length hi - HT.sIx xs.length 0 lo)
theorem nE(xs:List V)(lo hi:Option Int):(qG xs lo hi).length<=xs.length:=by
 unfold qG;rw[N4,Pz];omega
def Kx(K:d_):V->Option Int->Option Int->Hp->VK->Prop:=fun x lo hi H Q=>∃a xs,x= .ref a/\kG K H a xs/\
 ¬ (HT.sIx xs.length 0 lo=0/\HT.sIx xs.length xs.length hi=xs.length)/\∀p,H p=none->Q (.ref p) (upd H p (.tup (qG xs lo hi)))
theorem Gk:Fi X (Kx X.K):=by
 intro pins s σ H x v R O lo hi P Q I W hs U pu h;obtain⟨a,xs,rfl,T,hw,q⟩:=h;cases W;obtain⟨its,r,Y,Z⟩:=I.tuple T;have hlen:its.toArray.size=xs.length:=by rw[LR];exact r.length.symm
 refine⟨"tuple",_,PyProof.Rows.slot_tuple_getitem.lookup,Y.typeIs,?_⟩;refine HT.getItem_tuple_cut Y hs U pu (by rw[hlen];exact hw) ?_ (by rw[hlen];exact Z)
 rw[hlen];refine⟨.ref s.heap.objs.size,_,I.laid (t':=s.toks) (o:=.tup (qG xs lo hi)) (fun b S q=>LB _ q) (LF _) ?_,rfl,q _ (I.hok.fresh (LF _))⟩;exact⟨sr (LS (nE xs lo hi) Z),_,(r.drop (HT.sIx xs.length 0 lo)).take (HT.sIx xs.length xs.length hi - HT.sIx xs.length 0 lo),Rm _ _⟩
def IH(K:d_):R2:=fun x y H Q=>∃a b ns ms,x= .ref a/\y= .ref b/\kG K H a (ns.map V.int)/\kG K H b (ms.map V.int)/\Q (.bl (HT.lexLt ns ms)) H
theorem wc(L:X.A.units<y8):iU X (j_ .Lt) (IH X.K):=by
 intro pins s σ H x y v u Q I Y U h;obtain⟨a,b,ns,ms,rfl,rfl,W,P,q⟩:=h;cases Y;cases U;obtain⟨its,N,S,_⟩:=I.tuple W;obtain⟨Z,T,p2,_⟩:=I.tuple P;have R:m3 its.toArray.toList ns:=Oz N;have O:m3 Z.toArray.toList ms:=Oz T;exact HT.lt_tupInts S p2 R O L ⟨.bl (HT.lexLt ns ms),H,I,rfl,q⟩
def II(K:d_):R2:=fun x y H Q=>∃a b xs ys,x= .ref a/\y= .ref b/\kG K H a xs/\kG K H b ys/\xs≠[]/\xs.length+ys.length<=sizeLine/\
 (ys=[]->Q (.ref a) H)/\(ys≠[]->∀p,H p=none->Q (.ref p) (upd H p (.tup (xs++ys))))
theorem bb.nil_iff(r:bb xs us):us=[]↔xs=[]:=by
 cases r with
 |nil=>simp
 |cons _ _=>simp
theorem DG:iU X (r_ .Add) (II X.K):=by
 intro pins s σ H x y v u Q I T R h;obtain⟨a,b,xs,ys,rfl,rfl,S,N,P,W,J,L⟩:=h;cases T;cases R;obtain⟨its,Y,O,_⟩:=I.tuple S;obtain⟨U,Z,p2,_⟩:=I.tuple N;refine HT.cat_tup O p2 (fun z=>P (Y.nil_iff.mp z)) (fun z=>⟨.ref a,H,I,rfl,J (Z.nil_iff.mp z)⟩) (fun z=>?_) (by rw[<-Y.length, <-Z.length];exact W)
 refine⟨.ref s.heap.objs.size,_,I.laid (t':=s.toks) (o:=.tup (xs++ys)) (fun b G q=>LB _ q) (LF _) ?_,rfl,L (fun w=>z (Z.nil_iff.mpr w)) _ (I.hok.fresh (LF _))⟩;exact⟨sr (by rw[LL];exact W),_,Y.append Z,Rm _ _⟩
end
end L2
namespace L2
open PySem PySem.Spec PyProof.Rows
def zd(n:Nat)(i:Int):Option Nat:=if 0<=i then (if i<n then ar i.toNat else none)else if -(n:Int)<=i then ar (i+n).toNat else none
def j8{α:Type}(xs:List α)(i:Int):Option α:=(zd xs.length i).bind fun j=>xs[j]?
theorem xH(h:zd n i=ar j):QL i n=ar j/\j<n/\ -(n:Int)<=i/\i<n:=by
 unfold zd at h;by_cases h0:0<=i
 ·rw[if_pos h0]at h;by_cases h1:i<n
  ·rw[if_pos h1]at h;have e:i.toNat=j:=L5 h;exact⟨by rw[QS h0 h1,e],by omega,by omega,h1⟩
  ·rw[if_neg h1]at h;cases h
 ·rw[if_neg h0]at h;by_cases h1: -(n:Int)<=i
  ·rw[if_pos h1]at h;have e:(i+n).toNat=j:=L5 h;exact⟨by rw[seqIndex_neg (by omega) h1,e],by omega,h1,by omega⟩
  ·rw[if_neg h1]at h;cases h
theorem sy{α:Type}{xs:List α}{i:Int}{v:α}(h:j8 xs i=ar v):∃j,QL i xs.length=ar j/\xs[j]? =ar v/\j<xs.length/\ -(xs.length:Int)<=i/\i<xs.length:=by
 unfold j8 at h;cases e:zd xs.length i with
 |none=>rw[e]at h;cases h
 |some j=>
  rw[e]at h;obtain⟨X,W,Y,Z⟩:=xH e;exact⟨j,X,h,W,Y,Z⟩
def sA(b:Expr):Prop:=∀o i,subscripted b dV o i=operate [o,i] (Qz o i)
def Dm(X:Cx)(r:R2):Prop:=
 ∀(value slice:Expr) (pins:List (dt×Obj)) (s:b_) (σ:St) (H:Hp) (x y:V) (v u:aC) (Q:VK),Inv X pins σ H s->RelV x v->RelV y u->r x y H Q->
  subscripted slice dV v u=operate [v,u] (Qz v u)->ee (fc X.prog X.w) X.A (subscriptTail value slice v u) (EP X pins σ Q) X.xe s
def Ky(X:Cx)(id:String)(r:V->List V->Hp->VK->Prop):Prop:=
 ∀(pins:List (dt×Obj)) (s:b_) (σ:St) (H:Hp) (x:V) (xs:List V) (v:aC) (us:List aC) (Q:VK),Inv X pins σ H s->RelV x v->bb xs us->r x xs H Q->
  ee (fc X.prog X.w) X.A (call (.builtin id) (v::us)) (EP X pins σ Q) X.xe s
section
variable {X:Cx}{a b:Expr}{ta tb:TE}{pos:Pos}
theorem Dm.or{r W:R2}(h:Dm X r)(h':Dm X W):Dm X (fun x y H Q=>r x y H Q\/W x y H Q):=by
 intro value slice pins s σ H x y v u Q I Z Y q hs;rcases q with q|q
 ·exact h value slice pins s σ H x y v u Q I Z Y q hs
 ·exact h' value slice pins s σ H x y v u Q I Z Y q hs
theorem IJ(W:Dm X r)(Y:PE X a ta)(R:PE X b tb)(hs:sA b):PE X (.Subscript a b pos) (HR r ta tb):=by
 intro pins s σ H Q I h;exact Subscript_ (Ga Y R I h fun v u s2 x y T S Z U q=>W a b pins s2 σ T x y v u Q S Z U q (hs _ _))
def IK(K:d_):R2:=fun x y H Q=>∃p xs i v,x= .ref p/\y= .int i/\iY K H p xs/\j8 xs i=ar v/\Q v H
def IL(K:d_):R2:=fun x y H Q=>∃p xs i v,x= .ref p/\y= .int i/\kG K H p xs/\j8 xs i=ar v/\Q v H
def IM:R2:=fun x y H Q=>∃z i c,x= .str z/\y= .int i/\z.length<=sizeLine/\j8 z.cps.toList i=ar c/\Q (.str ⟨#[c]⟩) H
theorem DH:Dm X (IK X.K):=by
 intro value slice pins s σ H x y v u Q I S O h hs;obtain⟨p,xs,i,z,rfl,rfl,P,he,q⟩:=h;cases S;obtain⟨t,rfl⟩:=O;obtain⟨its,r,Y,G⟩:=I.list P;obtain⟨j,Z,L,F,N,R⟩:=sy he;obtain⟨w,T,W⟩:=r.get L;have J:=r.length;have E:=oU;have fin:EP X pins σ Q w s:=⟨z,H,I,W,q⟩;by_cases h0:0<=i
 ·have U:i.toNat=j:=by
   rw[QS h0 R]at Z;exact L5 Z
  exact item_listR Y.isList h0 (by omega) (by rw[U];simpa using T) fin hs
 ·have U:(i+(its.toArray.size:Int)).toNat=j:=by
   rw[seqIndex_neg (by omega) N]at Z
   rw[LR, <-J];exact L5 Z
  exact subscriptTail_builtinR (x:=w) Y.isList.typeIs slot_list_getitem.lookup
   (wpAny_getItem_list_neg (Q:=fun r s'=>r=w/\EP X pins σ Q r s') Y.isList (by omega) (by rw[LR]<;>omega) (by omega) (by rw[U];simpa using T) ⟨rfl,fin⟩) hs
theorem Gm:Dm X (IL X.K):=by
 intro value slice pins s σ H x y v u Q I W S h hs;obtain⟨p,xs,i,z,rfl,rfl,T,he,q⟩:=h;cases W;obtain⟨t,rfl⟩:=S;obtain⟨its,r,Y,N⟩:=I.tuple T;obtain⟨j,U,R,L,F,G⟩:=sy he;obtain⟨w,O,Z⟩:=r.get R;have P:=r.length;have J:=oU;have fin:EP X pins σ Q w s:=⟨z,H,I,Z,q⟩;exact subscriptTail_builtinR (x:=w) Y.typeIs slot_tuple_getitem.lookup
  (getItem_tuple (j:=j) (Q:=fun r s'=>r=w/\EP X pins σ Q r s') Y (by omega) (by omega) (by rw[LR, <-P];exact U) (by simpa using O) ⟨rfl,fin⟩) hs
theorem Gn:Dm X IM:=by
 intro value slice pins s σ H x y v u Q I Y W h hs;obtain⟨z,i,c,rfl,rfl,P,he,q⟩:=h;obtain⟨t,rfl⟩:=Y;obtain⟨t',rfl⟩:=W;obtain⟨j,Z,T,O,U,R⟩:=sy he;have S:z.cps.toList.length=z.length:=by simp[Str.length]
 rw[S]at Z U R;have N:=oU;exact tail_any (typeIs_str s z t) slot_str_getitem.lookup (getItem_str (c:=c) (by
  have e1:decide (i< -(2 ^ 63:Int))=false:=Mn (by omega)
  have e2:decide (i ≥ 2 ^ 63)=false:=Mn (by omega)
  rw[e1,e2,Bool.or_false]) (by rw[Z];simpa using T) ⟨.str ⟨#[c]⟩,H,I.tok _,⟨_,rfl⟩,q⟩) hs
def K9(K:d_):R2:=fun x y H Q=>IK K x y H Q\/IL K x y H Q\/IM x y H Q
theorem Gp:Dm X (K9 X.K):=DH.or (Gm.or Gn)
theorem we(its:List aC)(n j:Nat)(u:aC):l_ (·.setIfInBounds j u) {cls:=.type "list",data:=.seq its.toArray n}={cls:=.type "list",data:=.seq (its.set j u).toArray n}:=by
 simp[l_]
theorem Inv.lst{Z:List (dt×Obj)}{Y:St}{H:Hp}{s:b_}{p:dt}{xs:List V}(I:Inv X Z Y H s)(h:H p=ar (.lst xs)):
  ∃(its:List aC) (n:Nat),bb xs its/\s.heap.get? p=ar {cls:=.type "list",data:=.seq its.toArray n}/\xs.length<=sizeLine:=by
 obtain⟨z,its,n,r,e⟩:=I.hok p _ h;exact⟨its,n,r,e,z⟩
theorem Inv.lstUpd{H:Hp}{its its':List aC}{f:Obj->Obj}(I:Inv X pins σ H s)(h:H p=ar (.lst xs))
  (U:s.heap.get? p=ar {cls:=.type "list",data:=.seq its.toArray n}) (Z:f {cls:=.type "list",data:=.seq its.toArray n}={cls:=.type "list",data:=.seq its'.toArray n'}) (r:bb ys its') (Y:ys.length<=sizeLine) (t:Nat):
  Inv X pins σ (upd H p (.lst ys)) {s with heap:=s.heap.update p f,toks:=t}:=by
 have e:(s.heap.update p f).get? p=ar {cls:=.type "list",data:=.seq its'.toArray n'}:=by
  rw[MC f U (by rw[Z]<;>rfl),Z]
 refine I.write (x:=p) (e:=p) (by rw[h];trivial) (.inl rfl) (fun b u W q=>(Mq _ _ (j7 W)).trans q) ⟨_,e⟩ ?_
 exact⟨Y,its',n',r,e⟩
def Fj:V->V->V->Hp->(Hp->Prop)->Prop:=fun o i v H Q=>∃p xs k j,o= .ref p/\i= .int k/\H p=ar (.lst xs)/\zd xs.length k=ar j/\Q (upd H p (.lst (xs.set j v)))
theorem set_list:Iq X Fj:=by
 intro pins s σ H o i v E B u Q I J L G h;obtain⟨p,xs,k,j,rfl,rfl,O,K,q⟩:=h;cases J;obtain⟨t,rfl⟩:=L;obtain⟨its,n,r,T,N⟩:=I.lst O;obtain⟨Z,C,S,P⟩:=xH K;have U:=r.length;have F:=oU;have R:Inv X pins σ (upd H p (.lst (xs.set j v))) {s with heap:=s.heap.update p (l_ (·.setIfInBounds j u))}:=
  I.lstUpd O T (we its n j u) (r.set G j) (by rw[Oi];exact N) s.toks
 by_cases h0:0<=k
 ·have Y:k.toNat=j:=by
   rw[QS h0 P]at Z;exact L5 Z
  exact W.ki_setAt T h0 (by omega) (by rw[LR, <-U];exact P) (by rw[Y];exact⟨_,R,q⟩)
 ·have Y:(k+(its.toArray.size:Int)).toNat=j:=by
   rw[seqIndex_neg (by omega) S]at Z
   rw[LR, <-U];exact L5 Z
  exact W.ki_setBack T (by omega) (by rw[LR, <-U];exact S) (by omega) (by rw[Y];exact⟨_,R,q⟩)
theorem sC(Y Z:Option Int)(n:Nat):(w_ Y Z none n).1=((HT.sIx n 0 Y:Nat):Int)/\(w_ Y Z none n).2.1=((HT.sIx n n Z:Nat):Int)/\(w_ Y Z none n).2.2=1:=by
 refine⟨?_,?_,rfl⟩
 ·cases Y with
  |none=>simp[w_,HT.sIx]
  |some i=>
   simp only[w_,HT.sIx,Option.getD_none,show(1:Int)>0 by decide,if_true]
   by_cases h:i<0
   ·simp only[h,if_true]<;>omega
   ·simp only[h,if_false]<;>omega
 ·cases Z with
  |none=>simp[w_,HT.sIx]
  |some i=>
   simp only[w_,HT.sIx,Option.getD_none,show(1:Int)>0 by decide,if_true]
   by_cases h:i<0
   ·simp only[h,if_true]<;>omega
   ·simp only[h,if_false]<;>omega
theorem qH(its:List aC)(Z Y:Option Int):slicePick its.toArray Z Y none=((its.drop (HT.sIx its.length 0 Z)).take (HT.sIx its.length its.length Y - HT.sIx its.length 0 Z)).toArray:=by
 obtain⟨W,U,T⟩:=sC Z Y its.toArray.size;unfold slicePick;rw[W,U,T];simp only[sliceRange_one,pick_run,mv]<;>rfl
def Kz(K:d_):V->Option Int->Option Int->Hp->VK->Prop:=fun x lo hi H Q=>∃a xs,x= .ref a/\iY K H a xs/\∀p,H p=none->Q (.ref p) (upd H p (.lst (qG xs lo hi)))
theorem DI:Fi X (Kz X.K):=by
 intro pins s σ H x v P N lo Z O Q I U hs T pu h;obtain⟨a,xs,rfl,S,q⟩:=h;cases U;obtain⟨its,r,Y,W⟩:=I.list S;have hlen:=r.length;refine⟨"list",_,slot_list_getitem.lookup,Y.isList.typeIs,?_⟩;refine wpAny_getItem_list_slice Y.isList hs T pu .none (by simp) ?_ (by rw[LR]<;>omega)
 rw[qH, <-hlen];refine⟨.ref s.heap.objs.size,_,I.laid (t':=s.toks) (o:=.lst (qG xs lo Z)) (fun b R q=>LB _ q) (LF _) ?_,rfl,q _ (I.hok.fresh (LF _))⟩;exact⟨LS (nE xs lo Z) W,_,0,(r.drop (HT.sIx xs.length 0 lo)).take (HT.sIx xs.length xs.length Z - HT.sIx xs.length 0 lo),LM _ rfl⟩
theorem sD:cR X (.builtin "len") (fun xs H Q=>∃p ys,xs=[.ref p]/\(iY X.K H p ys\/kG X.K H p ys)/\Q (.int ys.length) H):=by
 intro pins s σ H xs us Q I r h;obtain⟨p,ys,rfl,Z,q⟩:=h;obtain⟨u,rfl,U⟩:=vals1 r;cases U;have S:=oU;rcases Z with Z|Z
 ·obtain⟨its,W,Y,T⟩:=I.list Z;have hlen:=W.length;exact Calls.call_len_list Y.isList (by simp only[mv]<;>omega) ⟨.int ys.length,H,I.tok _,⟨s.toks+1,by rw[LR,hlen]⟩,q⟩
 ·obtain⟨its,W,Y,T⟩:=I.tuple Z;have hlen:=W.length;exact len_tuple Y (by simp only[mv]<;>omega) ⟨.int ys.length,H,I.tok _,⟨s.toks+1,by rw[LR,hlen]⟩,q⟩
theorem cR.or{r Z:List V->Hp->VK->Prop}(h:cR X f r)(h':cR X f Z):cR X f (fun xs H Q=>r xs H Q\/Z xs H Q):=by
 intro pins s σ H xs us Q I rs q;rcases q with q|q
 ·exact h pins s σ H xs us Q I rs q
 ·exact h' pins s σ H xs us Q I rs q
theorem sE:cR X (.type "list") (fun xs H Q=>∃p ys,xs=[.ref p]/\(iY X.K H p ys\/kG X.K H p ys)/\∀l,H l=none->Q (.ref l) (upd H l (.lst ys))):=by
 intro pins s σ H xs us Q I r h;obtain⟨p,ys,rfl,U,q⟩:=h;obtain⟨u,rfl,O⟩:=vals1 r;cases O;have fin:∀(its:List aC),bb ys its->ys.length<=sizeLine->∀(h':gd) (Z:Nat),(∀b o',s.heap.get? b=ar o'->h'.get? b=ar o')->
   h'.get? s.heap.objs.size=ar {cls:=.type "list",dict:=none,data:=.seq its.toArray Z,slots:= #[]}->EP X pins σ Q (.ref s.heap.objs.size) {s with heap:=h'}:=fun its Y W h' Z T e=>
  ⟨.ref s.heap.objs.size,_,I.laid (t':=s.toks) T (LF _) (show bj X.prog X.w _ h' _ (.lst ys)from⟨W,its,Z,Y,e⟩),rfl,q _ (I.hok.fresh (LF _))⟩
 rcases U with U|U
 ·obtain⟨its,Y,S,W⟩:=I.list U;have hlen:=Y.length;obtain⟨o,P,R,n,hd⟩:=S.isList;exact call_list_seq p (.inl rfl) P R hd (fun h' Z T e=>fin its Y W h' Z T e) (by simp only[mv]<;>omega)
 ·obtain⟨its,Y,S,W⟩:=I.tuple U;have hlen:=Y.length;obtain⟨o,P,R,n,hd⟩:=S;exact call_list_seq p (.inr rfl) P R hd (fun h' Z T e=>fin its Y W h' Z T e) (by simp only[mv]<;>omega)
theorem qI:cR X (.type "tuple") (fun xs H Q=>∃p ys,xs=[.ref p]/\((iY X.K H p ys/\∀l,H l=none->Q (.ref l) (upd H l (.tup ys)))\/(kG X.K H p ys/\Q (.ref p) H))):=by
 intro pins s σ H xs us Q I r h;obtain⟨p,ys,rfl,h⟩:=h;obtain⟨u,rfl,T⟩:=vals1 r;cases T;rcases h with⟨hq,q⟩|⟨hq,q⟩
 ·obtain⟨its,Y,Z,W⟩:=I.list hq;have hlen:=Y.length;refine call_tuple_list Z.isList (fun h' S=>?_) (by simp only[mv]<;>omega)
  have U:Inv X pins σ H {s with heap:=h'}:=I.kept (t':=s.toks) S;have R:Inv X pins σ (upd H h'.objs.size (.tup ys)) {s with heap:=h'.push {cls:=.type "tuple",data:=.seq its.toArray}}:=
   U.laid (t':=s.toks) (fun b o e=>LB _ e) (LF _) (show bj X.prog X.w _ _ _ (.tup ys)from⟨sr W,its,Y,Rm _ _⟩)
  exact⟨.ref h'.objs.size,_,R,rfl,q _ (U.hok.fresh (LF _))⟩
 ·obtain⟨its,Y,Z,W⟩:=I.tuple hq;exact call_tuple_same Z ⟨.ref p,H,I,rfl,q⟩
def KB(K:d_)(T:String)(x:V)(H:Hp):Prop:=match x with
 | .str _=>T="str"
 | .int _=>T="int"
 | .ref p=>(T="list"/\∃xs,iY K H p xs)\/(T="tuple"/\∃xs,H p=ar (.tup xs))\/
   (T="dict"/\((∃kvs,H p=ar (.dK kvs))\/∃kvs,H p=ar (.dT kvs)))\/(T="set"/\∃S n,H p=ar (.set S n))
 |_=>False
theorem A5(I:Inv X pins σ H s)(r:RelV x v)(Z:KB X.K T x H):
  s.TypeIs v T/\∀a,v= .ref a->∃ob,s.heap.get? a=ar ob/\ob.dict=none:=by
 cases x with
 |str z=>
  obtain⟨t,rfl⟩:=r;cases (show T="str" from Z);exact⟨typeIs_str s z t,fun _ e=>nomatch e⟩
 |int i=>
  obtain⟨t,rfl⟩:=r;cases (show T="int" from Z);exact⟨Q6 s i t,fun _ e=>nomatch e⟩
 | ref p=>
  cases r;rcases Z with⟨rfl,xs,hq⟩|⟨rfl,xs,hk⟩|⟨rfl,hk⟩|⟨rfl,S,n,hk⟩
  ·obtain⟨its,_,Y,_⟩:=I.list hq;refine⟨Y.isList.typeIs,fun a e=>?_⟩;cases e;obtain⟨o,n,e,c,hd,_⟩:=Y;exact⟨o,e,hd⟩
  ·obtain⟨⟨_,o,e,hd⟩,its,_,pt⟩:=(show bj X.prog X.w H s.heap p (.tup xs)from I.hok p _ hk);refine⟨pt.typeIs,fun a e2=>?_⟩;cases e2;exact⟨o,e,hd⟩
  ·have z:∃o,s.heap.get? p=ar o/\o.ExactDict:=by
    rcases hk with⟨kvs,hk⟩|⟨kvs,hk⟩
    ·obtain⟨_,_,_,_,o,_,_,e,ex,_⟩:=I.hok p _ hk;exact⟨o,e,ex⟩
    ·obtain⟨_,_,_,_,o,_,_,e,ex,_⟩:=I.hok p _ hk;exact⟨o,e,ex⟩
   obtain⟨o,e,ex⟩:=z;refine⟨⟨o,e,ex.1⟩,fun a e2=>?_⟩;cases e2;exact⟨o,e,ex.2.1⟩
  ·obtain⟨o,_,_,_,e,ex,_⟩:=I.hok p _ hk;refine⟨⟨o,e,ex.1⟩,fun a e2=>?_⟩;cases e2;exact⟨o,e,ex.2.1⟩
 |_=>exact hO Z
def Ln(K:d_)(T:String)(r:V->List V->Hp->VK->Prop)(to:TE)(t:TA):TE:=fun σ H Q=>to σ H fun x H1=>KB K T x H1/\t σ H1 fun xs H2=>r x xs H2 Q
variable {o e:Expr}{es:List Expr}{to:TE}{t:TA}{name:Str}{apos cpos:Pos}{T id:String}{r:V->List V->Hp->VK->Prop}
theorem IP(J:PlainAttrs T)(S:Slot T name id)(R:typeOf (.builtin id)=a_ (.type "method_descriptor"))(F:Ky X id r)(G:PE X o to)(O:PA X (e::es) t)
  (Y:mh o name X.env (h9 o X.env)=h9 o X.env:=by rfl)
  (U:((nC cpos (eb (e::es) X.env)).all (fun x=> !x.1) && (backToKw cpos (keywordEach [] X.env)).all (fun x=>x.1.isSome)
   && decide ((e::es).length+([]:List QY).length+(if ([]:List QY).isEmpty then 0 else 1)<30))=true:=by rfl)
  (W:(apos.endLine==cpos.line)=true:=by rfl) (hs:eb (e::es) X.env=(dV,h9 e X.env)::eb es X.env:=by rfl) (Z:(nC cpos (eb es X.env)).any (·.1)=false:=by rfl):
  PE X (.Call (.Attribute o name apos) (e::es) [] cpos) (Ln X.K T r to t):=by
 intro pins s σ H Q I h;refine wpAny_Call_method_late Y U W rfl (de (G pins s σ H _ I h) fun v s1 ⟨x,H1,I1,r1,ty,q1⟩=>?_);obtain⟨N,L⟩:=A5 I1 r1 ty;refine⟨T,id,J,S,R,N,L,?_⟩;have P:=O cpos pins s1 σ H1 _ I1 q1;rw[hs]at P⊢;refine Calls.callWith_builtin (by show(dV||(nC cpos (eb es X.env)).any (·.1))=dV;rw[Z]<;>rfl) (NW ?_)
 exact de P fun us s2 ⟨vs,H2,I2,r2,q2⟩=>F pins s2 σ H2 x vs v us Q I2 r1 r2 q2
end
end L2
namespace L2
open PySem PySem.Spec PyProof.Rows
def La(X:Cx)(id:String)(r:V->List V->Hp->VK->Prop):Prop:=
 ∀(pins:List (dt×Obj)) (s:b_) (σ:St) (H:Hp) (x:V) (xs:List V) (v:aC) (us:List aC) (Q:VK),Inv X pins σ H s->RelV x v->bb xs us->r x xs H Q->
  ee (fc X.prog X.w) X.A (call (.builtin id) (v::us)) (EP X pins σ Q) X.xe s
theorem bb.one:∀{x:V} {us:List aC},bb [x] us->∃u,us=[u]/\RelV x u
 |_,_,.cons r .nil=>⟨_,rfl,r⟩
theorem bb.eraseIdx:∀{xs:List V} {us:List aC} (i:Nat),bb xs us->bb (xs.eraseIdx i) (us.eraseIdx i)
 |_,_,_,.nil=>.nil
 |_,_,0,.cons _ t=>t
 |_,_,i+1,.cons r t=>.cons r (bb.eraseIdx i t)
theorem bb.rep{xs:List V}{us:List aC}(h:bb xs us):∀k:Nat,bb (eo k xs).flatten (eo k us).flatten
 |0=>.nil
 |k+1=>by
  rw[Mr,Mr,Nf,Nf];exact bb.append h (bb.rep h k)
theorem rj{α:Type}:∀(l:List α) (i:Nat),(l.eraseIdx i).length<=l.length
 |[],_=>LF _
 |_::_,0=>N8 _
 |_::r,i+1=>N5 (rj r i)
theorem foldl_rep(its:List aC):∀(k:Nat) (acc:List aC),
  Q7 (fun Y Z=>Y++Z) acc.toArray (eo k its.toArray)=(acc++(eo k its).flatten).toArray
 |0,acc=>by simp
 | k+1,acc=>by
  have e:acc.toArray++its.toArray=(acc++its).toArray:=by simp
  have e2:(acc++its)++(eo k its).flatten=acc++(eo (k+1) its).flatten:=by
   rw[Mr,Nf,L9]
  rw[<-e2, <-foldl_rep its k (acc++its), <-e,Mr,List.foldl_cons]
section
variable {X:Cx}{pins:List (dt×Obj)}{σ:St}{H:Hp}{s:b_}{l b:dt}{xs ys zs:List V}
theorem Inv.lset{its its':List aC}{f:Array aC->Array aC}(I:Inv X pins σ H s)(S:H l=ar (.lst xs))
  (e:s.heap.get? l=ar {cls:=.type "list",data:=.seq its.toArray n}) (Y:f its.toArray=its'.toArray) (U:bb ys its') (Z:ys.length<=sizeLine):
  Inv X pins σ (upd H l (.lst ys)) {s with heap:=s.heap.update l (l_ f),toks:=t'}:=by
 have q:=PySem.IsL.update e f;rw[Y]at q;refine I.write (x:=l) (e:=l) (by rw[S];exact trivial) (.inl rfl) (fun R u W T=>(Mq s.heap (l_ f) (j7 W)).trans T) ⟨_,q⟩ ?_
 exact⟨Z,its',_,U,q⟩
theorem Inv.lnew(I:Inv X pins σ H s)(Y:bb ys its)(Z:ys.length<=sizeLine):
  Inv X pins σ (upd H s.heap.objs.size (.lst ys)) {s with heap:=s.heap.push {cls:=.type "list",data:=.seq its.toArray},toks:=t'}:=
 I.laid (fun _ _ q=>LB _ q) (LF _) ⟨Z,its,0,Y,LM _ rfl⟩
theorem Inv.fresh(I:Inv X pins σ H s):H s.heap.objs.size=none:=I.hok.fresh (LF _)
theorem Inv.lstM(I:Inv X pins σ H s)(Z:H l=ar (.lst xs)):xs.length<=sizeLine/\∃(its:List aC) (n:Nat),bb xs its/\xs.length=its.length/\s.heap.get? l=ar {cls:=.type "list",data:=.seq its.toArray n}:=by
 obtain⟨z,its,n,r,e⟩:=I.hok l _ Z;exact⟨z,its,n,r,r.length,e⟩
theorem uj(h:n<=sizeLine):pd n=false:=by
 unfold pd;exact Mn (by omega)
end
section
variable {X:Cx}
def xI:V->List V->Hp->VK->Prop:=fun x vs H Q=>∃l xs y,x= .ref l/\vs=[y]/\H l=ar (.lst xs)/\xs.length<sizeLine/\Q .non (upd H l (.lst (xs++[y])))
theorem j9:La X "list.append" xI:=by
 intro pins s σ H x vs v us Q I Y U h;obtain⟨l,xs,y,rfl,rfl,Z,T,q⟩:=h;cases Y;obtain⟨u,rfl,W⟩:=U.one;obtain⟨z,its,n,r,S,e⟩:=I.lstM Z;refine PM F.slot_list_append ⟨_,e,rfl⟩ F.entry_list_append (F.args_list_append_2 _ _) (PySem.list_append l its.toArray n u (by rw[LR];omega)) ⟨e,?_⟩
 refine⟨.non,_,I.lset (its':=its++[u]) Z e (by simp) (r.append (.cons W .nil)) ?_,rfl,q⟩
 rw[LL,OJ];omega
def A6:V->List V->Hp->VK->Prop:=fun x vs H Q=>∃l xs i k y,x= .ref l/\vs=[.int i]/\H l=ar (.lst xs)/\ -(2 ^ 63)<=i/\i<2 ^ 63/\QL i xs.length=ar k/\xs[k]? =ar y/\Q y (upd H l (.lst (xs.eraseIdx k)))
theorem A7:La X "list.pop" A6:=by
 intro pins s σ H x vs v us Q I W P h;obtain⟨l,xs,i,k,y,rfl,rfl,Y,U,S,N,O,q⟩:=h;cases W;obtain⟨u,rfl,T⟩:=P.one;obtain⟨t,rfl⟩:=T;obtain⟨z,its,n,r,R,e⟩:=I.lstM Y;obtain⟨w,hw,Z⟩:=r.get O;refine PM F.slot_list_pop ⟨_,e,rfl⟩ F.entry_list_pop (F.args_list_pop_2 _ _)
  (MeetsSeq.list_pop_at l its.toArray n i t k w (fitsIndex_both U S) (by rw[LR, <-R];exact N) (by rw[<-Me];exact hw) (by rw[LR];omega)) ⟨e,?_⟩
 refine⟨y,_,I.lset (its':=its.eraseIdx k) Y e ?_ (r.eraseIdx k) ?_,Z,q⟩
 ·show its.toArray.eraseIdxIfInBounds k=(its.eraseIdx k).toArray;rw[List.eraseIdxIfInBounds_toArray]
 ·have:=rj xs k;omega
def IQ:R2:=fun x y H Q=>∃l k xs,x= .ref l/\y= .int k/\H l=ar (.lst xs)/\ -(2 ^ 63)<=k/\k<2 ^ 63/\xs.length*k.toNat<=sizeLine/\
 ∀p,H p=none->Q (.ref p) (upd H p (.lst (eo k.toNat xs).flatten))
theorem len_rep{α:Type}(xs:List α)(k:Nat):(eo k xs).flatten.length=k*xs.length:=by
 induction k with
 |zero=>simp
 |succ k ih=>rw[Mr,Nf,LL,ih,NL,Nat.add_comm]
theorem Gq:iU X (r_ .Mult) IQ:=by
 intro pins s σ H x y v u Q I N J h;obtain⟨l,k,xs,rfl,rfl,K,L,G,O,q⟩:=h;cases N;obtain⟨t,rfl⟩:=J;obtain⟨z,its,n,r,E,e⟩:=I.lstM K;have hlen:its.toArray.size*k.toNat<=sizeLine:=by rw[LR, <-E];exact O
 have Y:¬ its.toArray.size*k.toNat>(2 ^ 63 - 1) / 8:=by
  have:(sizeLine:Nat)<=(2 ^ 63 - 1) / 8:=by decide
  omega
 have S:¬ (!Builtin.List.listFitsIndex k)=true:=by
  rw[fitsIndex_both L G];exact MP
 have Z:¬ pd (its.toArray.size*k.toNat)=true:=by
  rw[uj hlen];exact MP
 have W:Q7 (fun P R=>P++R) #[] (eo (if its.toArray.isEmpty=c_ then 0 else k.toNat) its.toArray)=(eo k.toNat its).flatten.toArray:=by
  have f0:∀m:Nat,Q7 (fun P R=>P++R) #[] (eo m its.toArray)=(eo m its).flatten.toArray:=fun m=>by
   have:=foldl_rep its m [];rw[List.nil_append]at this;exact this
  rw[f0];cases its with
  |nil=>simp
  |cons a r'=>rw[if_neg (by simp)]
 refine wpAny_binaryOp_repeat_ref (T:="list") (U:="int") (by decide) ⟨_,e,rfl⟩ (fun s'=>Q6 s' k t) noFill_list_mul F.fills_int_mul F.slot_int_rmul repeat_list F.slot_int_index.lookup
  (PM F.slot_int_rmul (Q6 s k t) F.entry_int_rmul (F.args_int_rmul_2 _ _) (int___rmul___int_list k t l its.toArray n)
   ⟨e,rfl,⟨_,e,rfl⟩,PM F.slot_list_mul ⟨_,e,rfl⟩ F.entry_list_mul (F.args_list_mul_2 _ _) (AutoListH.list___mul___list_int_3 l its.toArray n k t S Y Z) ⟨e,?_⟩⟩)
 rw[W];exact⟨.ref _,_,I.lnew (t':=s.toks) (r.rep k.toNat) (by rw[len_rep,QA];exact O),rfl,q _ I.fresh⟩
end
section
variable {prog:e_}{w:f'}{A:h_}{E:aC->b_->Prop}{s:b_}
end
section
variable {X:Cx}
end
end L2
namespace Att
open PySem PySem.W PySem.Calls PyProof.Rows
theorem nW:∀(ns:List Int) (vs:List aC),WellAll P h vs (ns.map WData.int)->m3 vs ns:=by
 intro ns
 induction ns with
 |nil=>
  intro vs w;rw[Od]at w;cases w;exact .nil
 | cons n ns ih=>
  intro vs w;rw[LZ]at w;cases w with
  |cons a b=>
   cases a;exact .cons _ _ (ih _ b)
theorem zh{l:RT}(Q:l.most=ar n)
  (Z:l.row.toRowW.claim.pre args=c_) (W:WellAll P h vals args):
  ∃a vs ns,vals=[er a]/\args=[WData.list (ns.map WData.int)]/\h.get? a=ar {cls:=.type "list",data:=.seq vs.toArray}/\m3 vs ns/\ns.length<=n:=by
 have hV:WShape.hasAll [] args [.list .int]=true:=(pre_splitW Z).1;have U:l.pre.holds [] {args:=args}=true:=(pre_splitW Z).2;obtain⟨d,r,rfl,S,R⟩:=hasAllW_cons hV;obtain rfl:=hasAllW_nil R;obtain⟨xs,rfl,T⟩:=hasW_list S;obtain⟨ns,rfl⟩:=items_int T;have hlen:ns.length<=n:=by
  unfold OpenLaw.pre at U;have Y:(WTm.not (.lt (.lit (.int (n:Int))) (.len (.arg 0)))).holds [] {args:=[.list (ns.map .int)]}=true:=by
   have Y:=(holds_andW U).1;rw[Q]at Y;exact Y
  have X:=condW_of Y (w_not (w_lt w_lit (w_len_list (w_arg rfl))));rw[LC]at X;refine PB fun q=>?_;have O:(n:Int)<((ns.length:Nat):Int):=by omega
  first
   |(rw[L7 O]at X;exact absurd X (by decide))
   |(simp at X;omega)
 cases W with
 |cons w1 w2=>
  cases w2;cases w1 with
  |list ho hall=>exact⟨_,_,ns,rfl,rfl,ho,nW ns _ hall,hlen⟩
theorem zj(l:RT)(args:List WData):l.row.toRowW.claim.post args (.bool c_) args=true:=
 postW_of (r:=l.row.toRowW) (X:=(c_==c_))
  (show WShape.has [] (.bool c_) .bool=c_ by first|rfl|decide|simp[WShape.has,WShape.arms,WShape.armsAll])
  (show(WTm.eq .res (.lit (.bool c_))).value [] {args:=args,res:=ar (.bool c_),after:=args}=ar (.bool (c_==c_))from w_eq_bool (w_res rfl) w_lit) rfl
theorem attach_call{l:RT}{YP:f'->gd->Prop}{d:RL}
  (H:l.most=ar n) (Q:d.params.defaults=[])
  (T:∀(w:f') (s₀ Z:b_) (S O:Str->Option aC) (X:dt) (o:Obj) (pm cd doc:aC) (a:dt) (vs:List aC) (ns:List Int),
   Ground q loose [] XP w s₀ S O Z.heap->YP w Z.heap->
   Z.heap.get? X=ar o->o.data= .func (docDef d.name d.params d.body d.scope pm cd doc)->Z.heap.CodeRec cd d.name->S d.name=ar (.ref X)->
   Z.heap.get? a=ar {cls:=.type "list",data:=.seq vs.toArray}->m3 vs ns->ns.length<=n->Z.gens= #[]->
   r7 (fc l.prog w) y9 (.call (.ref X) ⟨[.ref a],[]⟩) (fun r s'=>r= .ok (.ret (.bool c_))/\OldK Z.heap s'.heap/\s'.os=Z.os/\A_ s'.gens) Z):
  WalkO q loose XP YP l.row.toRowW d [] (fun f vs=>PySem.call f vs):=by
 intro w s₀ Z S O G Y X o pm cd doc A kV z hd N K P y args vals as U L E R I;obtain rfl:A= .none:=Dflts.none K Q;obtain rfl:kV= .none:=Dflts.noKw K;obtain⟨a,vs,ns,rfl,rfl,W,hints,hlen⟩:=zh H U R;refine enter_call (M7 (T w s₀ Z S O X o pm cd doc a vs ns G Y z (fd_plain hd) N P W hints hlen y) fun r s' F=>?_);obtain⟨rfl,B,J,C⟩:=F;exact⟨.inl ⟨.bool c_,.bool c_,[],rfl,fun _=>rfl,.bool c_,zj l _,fun _=>⟨List.Pairwise.nil,fun _ hm=>(nomatch hm)⟩⟩,B,J,C⟩
section
variable {prog:e_}{w:f'}{A:h_}{E:aC->b_->Prop}{s:b_}{K:R1}
def ledger(h:gd)(L d:dt):List (dt×Obj):=(ey h.objs.size).filterMap fun a=>if a=L\/a=d then none else (h.get? a).map fun o=>(a,o)
end
end Att
namespace L2
open PySem PySem.Spec PyProof.Rows
theorem kb:∀{vs:List aC} {ns:List Int},m3 vs ns->bb (ns.map V.int) vs
 |_,_,.nil=>.nil
 |_,_,.cons n t h=>.cons ⟨t,rfl⟩ (kb h)
def Gr(H:Hp):Prop:=∀b,H b=none\/∃o xs,H b=ar (.frz o (.lst xs))
theorem A8{K:d_}{y:Str->Option aC}{t:AH}{sp:Sp}{Z:b_}{vs:List aC}
  (j:K.In Z.heap) (J:Z.heap.Ns gg mg) (X:Z.heap.Ns w7 y) (E:∀x:Str,x≠"__name__"->y x=kS x) (N:Z.heap.NoLimit) (hg:Z.gens= #[])
  (I:Z.heap.get? a=ar {cls:=.type "list",data:=.seq vs.toArray}) (l:m3 vs ns) (i:ns.length<=sizeLine) (c:Room k y9)
  (F:∀base:gd,K.In base->base.Ns gg mg->FnOk P w K mg base t k fa fd [x] sp) (T:∀(s:b_) (u:aC),LI s fd ⟨[u],[]⟩ [(x,u)])
  (A:∀H:Hp,Gr H->iY K H a (ns.map V.int)->sp [.ref a] H (fun v _=>v= .bl c_) fun _ _ _=>False)
  (B:∀H e s',t [] H Z (fun _ _ _=>False) e s'->False):
  r7 (fc P w) y9 (.call (.ref fa) ⟨[.ref a],[]⟩) (fun r s'=>r= .ok (.ret (.bool c_))/\OldK Z.heap s'.heap/\s'.os=Z.os/\A_ s'.gens) Z:=by
 have g:=kb l;have R:=l.length;have core:∀H:Hp,Gr H->iY K H a (ns.map V.int)->fK P w H Z.heap->(∀b,H b≠none->b=a)->(H a≠none->K.lookup a=none)->
   r7 (fc P w) y9 (.call (.ref fa) ⟨[.ref a],[]⟩) (fun r s'=>r= .ok (.ret (.bool c_))/\OldK Z.heap s'.heap/\s'.os=Z.os/\A_ s'.gens) Z:=by
  intro H p hS S f hK;have Y:∀{b:dt} {o:Obj},Z.heap.get? b=ar o->H b=none->(kq Z.heap H).get? b=ar o:=fun e n=>k9 e n;have C:∀{b:dt} {o:Obj} {es:Array DictEntry} {ep:Nat},Z.heap.get? b=ar o->o.data= .dict es ep->H b=none:=fun{b o es ep} e d=>by
   cases q:H b with
   |none=>rfl
   |some u=>
    have G:b=a:=f b (by rw[q];simp)
    subst G;rw[I]at e;cases e;have d':Data.seq vs.toArray _=Data.dict es ep:=d;cases d'
  have U:∀{b:dt} {m:Str->Option aC},Z.heap.Ns b m->(kq Z.heap H).Ns b m:=fun{b m} ⟨o,es,ep,e,d,r⟩=>⟨o,es,ep,Y e (C e d),d,r⟩;have Q:K.In (kq Z.heap H):=fun b o e=>Y (j b o e) (by
   cases q:H b with
   |none=>rfl
   |some u=>
    have G:b=a:=f b (by rw[q];simp)
    subst G;rw[hK (by rw[q];simp)]at e;cases e)
  have hM:Mod K mg (kq Z.heap H):=⟨Q,U J,⟨y,U X,E⟩,let ⟨mc,h1,h2⟩:=N;⟨mc,U h1,h2⟩⟩;have e0:aF P w K mg (kq Z.heap H) y9 [] Z H:=⟨rfl,hM,fun b o e=>su e,Oe (mD _ _),trivial,fun b X=>absurd (show b∈([]:List dt)from X) (by simp),S,.of_eq hg⟩
  refine M7 ((F _ Q (U J)).run y9 [] Z H ⟨[.ref a],[]⟩ [.ref a] [.ref a] _ _ c e0 (T Z (.ref a)) (.cons rfl .nil) (A H p hS)) fun r s' h=>?_;cases r with
  |error e=>exact(B H e s' h).elim
  | ok fl=>
   cases fl with
   |next=>exact hO h
   |brk=>exact hO h
   |cont=>exact hO h
   | ret u=>
    obtain⟨v,H',os,bare,un,L,r',q⟩:=h;have q':v= .bl true:=q;subst q';obtain rfl:u=ri true:=r';refine⟨rfl,OldK.of_keep fun b o e=>?_,os,bare⟩;cases q:H b with
    |none=>exact un.keep b o e q (by intro z;exact absurd (show b∈([]:List dt)from z) (by simp)) (by simp)
    | some u=>
     rcases p b with z|⟨ob,xs,z⟩
     ·rw[q]at z;cases z
     ·have z2:=un.frzs b ob _ z;obtain⟨e1,_⟩:=S b _ z;obtain⟨e2,_⟩:=L b _ z2;rw[e]at e1;cases e1;exact e2
 cases hk:K.lookup a with
 |some o=>
  have e:=j a o hk;rw[I]at e;cases e;refine core (fun _=>none) (fun _=>.inl rfl) (.inr ⟨_,vs.toArray,_,hk,rfl,rfl,rfl,by rw[LR,R];exact i,by simpa using g⟩) (fun b u z=>by have O:(none:Option HO)=ar u:=z;cases O) (fun b z=>absurd rfl z) fun z=>absurd rfl z
 | none=>
  refine core (fun b=>if b=a then ar (.frz {cls:=.type "list",data:=.seq vs.toArray} (.lst (ns.map V.int)))else none) (fun b=>?_) (.inl (.inr ⟨{cls:=.type "list",data:=.seq vs.toArray},if_pos rfl⟩)) (fun b u z=>?_) (fun b z=>?_) fun _=>hk
  ·by_cases X:b=a
   ·exact .inr ⟨_,_,if_pos X⟩
   ·exact .inl (if_neg X)
  ·by_cases X:b=a
   ·have O:=(if_pos X).symm.trans z;cases O;subst X;exact⟨I,by rw[LC];exact i,vs,_,g,I⟩
   ·have O:=(if_neg X).symm.trans z;cases O
  ·by_cases X:b=a
   ·exact X
   ·exact absurd (if_neg X) z
end L2
namespace L2
open PySem PySem.Spec PyProof.Rows
abbrev Lz{K:d_}{h:gd}(_:K.In h):W.Frag:=K
theorem JT{l:Rn}{YP:f'->gd->Prop}{d:RL}{K:P6->d_}{L:f'->AH}{sp:f'->Sp}
  (B:l.most=ar n) (Q:n<=sizeLine) (R:d.params.defaults=[]) (I:Room k y9)
  (t:∀(w:f') (h:gd),YP w h->(K w.params).In h)
  (F:∀(w:f') (Z:Str->Option aC) (S:dt) (h:gd),(K w.params).In h->h.Ns gg Z->Z d.name=ar (.ref S)->
   ∃fd:g_,(∀(s:b_) (u:aC),LI s fd ⟨[u],[]⟩ [(x,u)])/\
    ∀base:gd,(K w.params).In base->base.Ns gg Z->FnOk l.prog w (K w.params) Z base (L w) k S fd [x] (sp w))
  (O:∀(w:f') (H:Hp) (a:dt) (ns:List Int),ns.length<=n->Gr H->iY (K w.params) H a (ns.map V.int)->sp w [.ref a] H (fun v _=>v= .bl c_) fun _ _ _=>False)
  (P:∀(w:f') (H:Hp) (s:b_) (e:aC) (s':b_),L w [] H s (fun _ _ _=>False) e s'->False):
  RU q loose XP YP l.row.toRowW d [] (fun f vs=>PySem.call f vs):=by
 refine Att.attach_call B R fun w s₀ U Z p S o pm cd doc a vs ns G Y m hd y N X hints hlen r=>?_;have J:=t w _ Y;obtain⟨fd,z,E⟩:=F w Z S _ J G.T.g N;exact A8 J G.T.g G.T.b G.T.builtins G.T.nolimit r X hints (LS hlen Q) I E z (fun H C A=>O w H a ns hlen C A) fun H e s'=>P w H U e s'
end L2
namespace L2
open PySem PySem.Spec PyProof.Rows
def ic(s:n3):Arguments:=match s with
 | .FunctionDef _ a _ _ _ _ _ _ _ _=>a
 |_=>{posonlyargs:=[],args:=[],vararg:=none,kwonlyargs:=[],kw_defaults:=[],kwarg:=none,defaults:=[]}
def dm(s:n3):List Stmt:=match s with
 | .FunctionDef _ _ b _ _ _ _ _ _ _=>b
 |_=>[]
def ao(s:n3):Scope:=match s with
 | .FunctionDef _ _ _ _ _ _ sc _ _ _=>sc
 |_=>{kind:=.function,names:=[],isGenerator:=dV,isCoroutine:=dV}
abbrev Lo:AH:=fun _ _ _ _ _ _=>False
abbrev E0:XK:=fun _ _ _=>False
structure Fun(K:d_)(x qual:Str)(st:n3)(f:dt)(fd:g_):Prop where
 ex:∃(oc:aC) (od:Option dt) (kV doc pm:aC) (an:Option dt) (cdv ct:aC) (osl:Array (Option aC)),
  fd=G2 x qual (ic st) (dm st) (ao st) .none kV doc pm an cdv ct/\K.lookup f=ar ⟨oc,od,.func fd,osl⟩/\Qx K cdv qual=c_
 kp:D_ K (.ref f)=c_
section
variable {P:e_}{w:f'}{K:d_}{mg:Str->Option aC}{base:gd}
theorem Fun.binds{x qual:Str}{Y:n3}{f:dt}{U:g_}{X:List Str}(F:Fun K x qual Y f U)
  (h:∀(kV doc pm:aC) (an:Option dt) (Z ct:aC) (us:List aC),us.length=X.length->Qw (G2 x qual (ic Y) (dm Y) (ao Y) .none kV doc pm an Z ct) ⟨us,[]⟩=a_ (X.zip us)):Binds K U X []:=by
 obtain⟨Q,od,kV,doc,pm,an,Z,ct,T,rfl,R,S⟩:=F.ex;exact .all (h kV doc pm an Z ct)
theorem Gs{x qual:Str}{Y:n3}{f:dt}{R:aC}{od T:Option dt}{U:Array (Option aC)}{kV X S Z ct:aC}(l:K.lookup f=ar ⟨R,od,.func (G2 x qual (ic Y) (dm Y) (ao Y) .none kV X S T Z ct),U⟩)
  (c:Qx K Z qual=c_) (k:D_ K (.ref f)=c_):Fun K x qual Y f (G2 x qual (ic Y) (dm Y) (ao Y) .none kV X S T Z ct):=⟨⟨R,od,kV,X,S,T,Z,ct,U,rfl,l,c⟩,k⟩
end
section
variable {X:Cx}
theorem pv(i:Nat)(U:X.N[i]? =ar x:=by rfl)(Y:yR X.env.scope x:=by first|exact z_ rfl|exact u2 (z_ rfl)|exact u2 (u2 rfl))(W:(x==("__debug__":Str))=false:=by decide)
  (Z:(x==("__classdict__":Str))=false:=by decide):PE X (.Name x pos) (ug i):=jK U Y W Z
end
end L2
end
namespace S3
open PySem PySem.W PyProof.Rows
def bq{α:Type}(b:Nat->Nat->Bool):RM α->α
 | .ret a=>a
 | .ask i j k=>bq b (k (b i j))
theorem gx{α Z:Type}(b:Nat->Nat->Bool)(f:α->RM Z):∀t:RM α,bq b (t.bind f)=bq b (f (bq b t))
 | .ret _=>rfl
 | .ask i j k=>gx b f (k (b i j))
section
variable (r:Nat->Nat)
abbrev dR:Nat->Nat->Bool:=fun i j=>decide (r i<r j)
def ka(p:Array Nat)(k:Nat):Nat:=r (p.getD k 0)
def A9(p:Array Nat)(n:Nat):Prop:=∀i j,i<=j->j<n->ka r p i<=ka r p j
def KC(p:Array Nat)(n:Nat):Prop:=∀i j,i<=j->j<n->ka r p j<=ka r p i
variable {r}
theorem lh{p q:Array Nat}{i j:Nat}(h:p[i]? =q[j]?):p.getD i 0=q.getD j 0:=by
 rw[Mo,Mo,h]
theorem sF{p:Array Nat}{i j:Nat}(Z:j<=p.size)(k:Nat):ka r (u_ p i j) k=if i<=k/\k<j then ka r p (i+j - 1 - k)else ka r p k:=by
 have h:=getElem?_mirror_all (i:=i) Z k;unfold ka u_;by_cases c:i<=k/\k<j
 ·rw[if_pos c]at h⊢;rw[lh h]
 ·rw[if_neg c]at h⊢;rw[lh h]
theorem rk{p:Array Nat}{Z d:Nat}(hs:Z<p.size)(Y:d<=Z)(k:Nat):ka r (RN p Z d) k=if k=Z - d then ka r p Z else if Z - d<k/\k<=Z then ka r p (k - 1)else ka r p k:=by
 have h:=getElem?_bubble hs d Y k;unfold ka;by_cases c:k=Z - d
 ·rw[if_pos c]at h⊢;rw[lh h]
 ·rw[if_neg c]at h⊢;by_cases c2:Z - d<k/\k<=Z
  ·rw[if_pos c2]at h⊢;rw[lh h]
  ·rw[if_neg c2]at h⊢;rw[lh h]
theorem oZ:(u_ p i j).size=p.size:=mirror_size _ _ _ _
theorem e9:(u_ p i j).Perm p:=mirror_perm _ _ _ _
theorem sG:∀(f n:Nat),1<=n->A9 r p n->n<=bq (dR r) (u3 p f n)/\bq (dR r) (u3 p f n)<=n+f/\A9 r p (bq (dR r) (u3 p f n))
 |0,n,h1,h=>⟨LF _,LF _,h⟩
 | f +1,n,h1,h=>by
  show n<=bq (dR r) (if (dR r) (p.getD n 0) (p.getD (n - 1) 0)=c_ then QB n else u3 p f (n+1))/\bq (dR r) (if (dR r) (p.getD n 0) (p.getD (n - 1) 0)=c_ then QB n else u3 p f (n+1))<=n+(f+1)/\A9 r p (bq (dR r) (if (dR r) (p.getD n 0) (p.getD (n - 1) 0)=c_ then QB n else u3 p f (n+1)));by_cases c:(dR r) (p.getD n 0) (p.getD (n - 1) 0)=c_
  ·rw[if_pos c];exact⟨LF _,by show n<=n+(f+1);omega,h⟩
  ·rw[if_neg c];have Y:ka r p (n - 1)<=ka r p n:=by
    exact PB fun z=>c (L7 z)
   obtain⟨a1,a2,X⟩:=sG f (n+1) (by omega) (fun i j Z W=>by
    by_cases e:j=n
    ·subst e;by_cases e2:i=j
     ·subst e2;exact LF _
     ·exact LS (h i (j - 1) (by omega) (by omega)) Y
    ·exact h i j Z (by omega))
   exact⟨by omega,by omega,X⟩
structure Down(r:Nat->Nat)(p:Array Nat)(n q:Nat):Prop where
 dsc:KC r p n
 q1:q+1<=n
 eqs:∀k,n - (q+1)<=k->k<n->ka r p k=ka r p (n - 1)
theorem pj{p:Array Nat}(Z:n<=p.size)(h:Down r p n q):∀k,ka r (u_ p (n - (q+1)) n) k=ka r p k:=fun k=>by
 rw[sF Z];split
 ·next c=>rw[h.eqs k c.1 c.2,h.eqs _ (by omega) (by omega)]
 ·rfl
theorem lj:∀(f:Nat) (p:Array Nat) (n q:Nat),n+f<=p.size->Down r p n q->
  Down r (bq (dR r) (u5 f p n q)).1 (bq (dR r) (u5 f p n q)).2.1 (bq (dR r) (u5 f p n q)).2.2/\(bq (dR r) (u5 f p n q)).1.Perm p/\n<=(bq (dR r) (u5 f p n q)).2.1/\(bq (dR r) (u5 f p n q)).2.1<=n+f
 |0,p,n,q,hs,h=>⟨h,Oj _,LF _,LF _⟩
 | f +1,p,n,q,hs,h=>by
  have e:bq (dR r) (u5 (f+1) p n q)=if ka r p n<ka r p (n - 1)then (if q>0 then bq (dR r) (u5 f (u_ p (n - (q+1)) n) (n+1) 0)else bq (dR r) (u5 f p (n+1) 0))
    else if ka r p (n - 1)<ka r p n then (p,n,q)else bq (dR r) (u5 f p (n+1) (q+1)):=by
   show bq (dR r) (if (dR r) (p.getD n 0) (p.getD (n - 1) 0)=c_ then _ else _)=_;unfold ka;by_cases c:r (p.getD n 0)<r (p.getD (n - 1) 0)
   ·rw[if_pos (by simpa using c),if_pos c]
    split<;>rfl
   ·rw[if_neg (by simpa using c),if_neg c]
    show bq (dR r) (if (dR r) (p.getD (n - 1) 0) (p.getD n 0)=c_ then _ else _)=_;by_cases c2:r (p.getD (n - 1) 0)<r (p.getD n 0)
    ·rw[if_pos (by simpa using c2),if_pos c2];rfl
    ·rw[if_neg (by simpa using c2),if_neg c2]
  have S:=h.q1;have ext:∀{p':Array Nat} {q':Nat},(∀k,ka r p' k=ka r p k)->ka r p n<=ka r p (n - 1)->(q'=0\/(q'=q+1/\ka r p n=ka r p (n - 1)))->Down r p' (n+1) q':=fun{p' q'} hk hle hq=>by
   refine⟨fun i j Z W=>?_,by omega,fun k U T=>?_⟩
   ·rw[hk,hk];by_cases ej:j=n
    ·subst ej;by_cases e2:i=j
     ·subst e2;exact LF _
     ·exact LS hle (h.dsc i (j - 1) (by omega) (by omega))
    ·exact h.dsc i j Z (by omega)
   ·rw[hk,hk,show n+1 - 1=n by omega]
    rcases hq with rfl|⟨rfl,he⟩
    ·have:k=n:=by omega
     subst this;rfl
    ·by_cases ek:k=n
     ·subst ek;rfl
     ·rw[he];exact h.eqs k (by omega) (by omega)
  rw[e];by_cases c:ka r p n<ka r p (n - 1)
  ·rw[if_pos c];by_cases hq:q>0
   ·rw[if_pos hq];obtain⟨a1,a2,Y,X⟩:=lj f (u_ p (n - (q+1)) n) (n+1) 0 (by rw[oZ];omega) (ext (pj (by omega) h) (by omega) (.inl rfl))
    exact⟨a1,a2.trans e9,by omega,by omega⟩
   ·rw[if_neg hq];obtain⟨a1,a2,Y,X⟩:=lj f p (n+1) 0 (by omega) (ext (fun _=>rfl) (by omega) (.inl rfl))
    exact⟨a1,a2,by omega,by omega⟩
  ·rw[if_neg c];by_cases c2:ka r p (n - 1)<ka r p n
   ·rw[if_pos c2];exact⟨h,Oj _,LF _,by show n<=n+(f+1);omega⟩
   ·rw[if_neg c2];obtain⟨a1,a2,Y,X⟩:=lj f p (n+1) (q+1) (by omega) (ext (fun _=>rfl) (by omega) (.inr ⟨rfl,by omega⟩))
    exact⟨a1,a2,by omega,by omega⟩
structure Got(r:Nat->Nat)(nrem:Nat)(p:Array Nat)(g:Nat×Array Nat):Prop where
 asc:A9 r g.2 g.1
 le:g.1<=nrem
 pos:1<=g.1
 perm:g.2.Perm p
theorem rl{p:Array Nat}(X:1<=n)(U:n<=nrem)(hs:nrem<=p.size)(h:KC r p n):Got r nrem p (bq (dR r) (Ro n nrem p)):=by
 unfold Ro;rw[gx];have Z:A9 r (u_ p 0 n) n:=fun i j W T=>by
  rw[sF (by omega),sF (by omega),if_pos ⟨by omega,by omega⟩,if_pos ⟨by omega,by omega⟩]
  exact h _ _ (by omega) (by omega)
 obtain⟨a1,a2,Y⟩:=sG (p:=u_ p 0 n) (nrem - n) n X Z;exact⟨Y,by show bq (dR r) (u3 (u_ p 0 n) (nrem - n) n)<=nrem;omega,by show 1<=bq (dR r) (u3 (u_ p 0 n) (nrem - n) n);omega,e9⟩
theorem ll{p:Array Nat}(Q:n<nrem)(hs:nrem<=p.size)(h:Down r p (n+1) 0):Got r nrem p (bq (dR r) (QC n nrem p)):=by
 unfold QC;rw[gx];obtain⟨a1,a2,T,S⟩:=lj (nrem - (n+1)) p (n+1) 0 (by omega) h
 generalize bq (dR r) (u5 (nrem - (n+1)) p (n+1) 0)=d at a1 a2 T S;obtain⟨W,Z,X⟩:=d;dsimp only at a1 a2 T S;have Y:W.size=p.size:=a2.size_eq;by_cases hq:X>0
 ·show Got r nrem p (bq (dR r) (if X>0 then _ else _));rw[if_pos hq];have hd:KC r (u_ W (Z - (X+1)) Z) Z:=fun i j U R=>by
   rw[pj (show Z<=W.size by omega) a1,pj (show Z<=W.size by omega) a1]
   exact a1.dsc i j U R
  have:=rl (n:=Z) (nrem:=nrem) (by omega) (by omega) (by rw[oZ,Y];exact hs) hd
  exact⟨this.asc,this.le,this.pos,(this.perm.trans e9).trans a2⟩
 ·show Got r nrem p (bq (dR r) (if X>0 then _ else _));rw[if_neg hq];have:=rl (n:=Z) (nrem:=nrem) (by omega) (by omega) (by rw[Y];exact hs) a1.dsc
  exact⟨this.asc,this.le,this.pos,this.perm.trans a2⟩
theorem zl{p:Array Nat}(O:2<=nrem)(hs:nrem<=p.size):Got r nrem p (bq (dR r) (QM nrem p)):=by
 unfold QM;rw[gx];obtain⟨a1,a2,Y⟩:=sG (r:=r) (p:=p) (nrem - 1) 1 (LF _) (fun i j X S=>by
  have:i=j:=by omega
  subst this;exact LF _)
 have stop:∀(f n:Nat),1<=n->bq (dR r) (u3 p f n)<n+f->ka r p (bq (dR r) (u3 p f n))<ka r p (bq (dR r) (u3 p f n) - 1):=by
  intro f
  induction f with
  |zero=>intro n _ h;exact absurd h (Nb _)
  | succ f ih=>
   intro n W h;have e:bq (dR r) (u3 p (f+1) n)=if ka r p n<ka r p (n - 1)then n else bq (dR r) (u3 p f (n+1)):=by
    show bq (dR r) (if (dR r) (p.getD n 0) (p.getD (n - 1) 0)=c_ then _ else _)=_;unfold ka;by_cases c:r (p.getD n 0)<r (p.getD (n - 1) 0)
    ·rw[if_pos (L7 c),if_pos c];rfl
    ·rw[if_neg (fun z=>c (MO z)),if_neg c]
   rw[e]at h⊢;by_cases c:ka r p n<ka r p (n - 1)
   ·rw[if_pos c];exact c
   ·rw[if_neg c]at h⊢;exact ih (n+1) (by omega) (by omega)
 have Z:=stop (nrem - 1) 1 (LF _);generalize bq (dR r) (u3 p (nrem - 1) 1)=n at a1 a2 Y Z;by_cases hn:n=nrem
 ·show Got r nrem p (bq (dR r) (if (n==nrem)=c_ then _ else _));rw[if_pos (by simp[hn])]
  exact⟨Y,by show n<=nrem;omega,a1,Oj _⟩
 ·show Got r nrem p (bq (dR r) (if (n==nrem)=c_ then _ else _));rw[if_neg (by simp[hn])]
  have Q:=Z (by omega)
  by_cases W:n>1
  ·rw [if_pos W];show Got r nrem p (bq (dR r) (if (dR r) (p.getD 0 0) (p.getD (n - 1) 0)=c_ then _ else _));by_cases c:r (p.getD 0 0)<r (p.getD (n - 1) 0)
   ·rw[if_pos (L7 c)];exact⟨Y,by show n<=nrem;omega,a1,Oj _⟩
   ·rw [if_neg (fun z=>c (MO z))];have all:∀k,k<n->ka r p k=ka r p (n - 1):=fun k P=>by
     have T:=Y 0 k (by omega) P
     have U:=Y k (n - 1) (by omega) (by omega)
     have N:ka r p (n - 1)<=ka r p 0:=PB c;omega
    have R:∀k,ka r (u_ p 0 n) k=ka r p k:=fun k=>by
     rw[sF (by omega)]
     split
     ·next h=>rw[all k h.2,all _ (by omega)]
     ·rfl
    have:=ll (r:=r) (n:=n) (nrem:=nrem) (p:=u_ p 0 n) (by omega) (by rw[oZ];exact hs) ⟨fun i j X S=>by
      rw[R,R];by_cases ej:j=n
      ·subst ej;by_cases ei:i=j
       ·subst ei;exact LF _
       ·rw[all i (by omega)];omega
      ·rw[all i (by omega),all j (by omega)];exact LF _,by omega,fun k T U=>by rw[show k=n+1 - 1 by omega]⟩
    exact⟨this.asc,this.le,this.pos,this.perm.trans e9⟩
  ·rw [if_neg W];have e1:n=1:=by omega
   subst e1;exact ll (by omega) hs ⟨fun i j X S=>by
     by_cases ej:j=1
     ·subst ej;by_cases ei:i=1
      ·subst ei;exact LF _
      ·rw[show i=1 - 1 by omega];omega
     ·rw[show i=j by omega];exact LF _,by omega,fun k T U=>by rw[show k=1+1 - 1 by omega]⟩
theorem mF(Z:A9 r p k):∀(f l m:Nat),m - l<=f->l<=m->m<=k->(∀i,i<l->ka r p i<=ka r p k)->(∀i,m<=i->i<k->ka r p k<=ka r p i)->
  bq (dR r) (t_ p k f l m)<=k/\(∀i,i<bq (dR r) (t_ p k f l m)->ka r p i<=ka r p k)/\∀i,bq (dR r) (t_ p k f l m)<=i->i<k->ka r p k<=ka r p i
 |0,l,m,hf,hl,hm,h1,h2=>by
  have:l=m:=by omega
  subst this;exact⟨by show l<=k;omega,h1,h2⟩
 | f+1,l,m,hf,hl,hm,h1,h2=>by
  by_cases c:l ≥ m
  ·have e:bq (dR r) (t_ p k (f+1) l m)=l:=by
    show bq (dR r) (if l ≥ m then _ else _)=l;rw[if_pos c];rfl
   rw[e];have:l=m:=by omega
   subst this;exact⟨by omega,h1,h2⟩
  ·have e:bq (dR r) (t_ p k (f+1) l m)=if ka r p k<ka r p ((l+m) / 2)then bq (dR r) (t_ p k f l ((l+m) / 2))else bq (dR r) (t_ p k f ((l+m) / 2+1) m):=by
    show bq (dR r) (if l ≥ m then _ else _)=_;rw[if_neg c];show bq (dR r) (if (dR r) (p.getD k 0) (p.getD ((l+m) / 2) 0)=c_ then _ else _)=_;unfold ka;by_cases d:r (p.getD k 0)<r (p.getD ((l+m) / 2) 0)
    ·rw[if_pos (L7 d),if_pos d]
    ·rw[if_neg (fun z=>d (MO z)),if_neg d]
   rw[e];by_cases d:ka r p k<ka r p ((l+m) / 2)
   ·rw[if_pos d];exact mF Z f l ((l+m) / 2) (by omega) (by omega) (by omega) h1 fun i Y X=>LS (Nd d) (Z _ i Y X)
   ·rw[if_neg d];exact mF Z f ((l+m) / 2+1) m (by omega) (by omega) hm (fun i Y=>LS (Z i ((l+m) / 2) (by omega) (by omega)) (by omega)) h2
theorem xJ:∀(f:Nat) (p:Array Nat) (k:Nat),k+f<=p.size->A9 r p k->A9 r (bq (dR r) (Qj f p k)) (k+f)/\(bq (dR r) (Qj f p k)).Perm p
 |0,p,k,hs,h=>⟨h,Oj _⟩
 | f +1,p,k,hs,h=>by
  have e:bq (dR r) (Qj (f+1) p k)=bq (dR r) (Qj f (RN p k (k - bq (dR r) (t_ p k k 0 k))) (k+1)):=by
   show bq (dR r) ((t_ p k k 0 k).bind _)=_;rw[gx]
  rw[e];obtain⟨T,W,X⟩:=mF (r:=r) h k 0 k (by omega) (by omega) (LF _) (fun i U=>absurd U (PD _)) (fun i U R=>absurd R (by omega))
  generalize bq (dR r) (t_ p k k 0 k)=l at T W X;have S:A9 r (RN p k (k - l)) (k+1):=fun i j Z O=>by
   rw[rk (by omega) (by omega),rk (by omega) (by omega)]
   have Y:k - (k - l)=l:=by omega
   rw[Y];by_cases ei:i=l
   ·rw[if_pos ei];by_cases ej:j=l
    ·rw[if_pos ej];exact LF _
    ·rw[if_neg ej,if_pos ⟨by omega,by omega⟩];exact X (j - 1) (by omega) (by omega)
   ·rw[if_neg ei];by_cases ci:l<i/\i<=k
    ·rw[if_pos ci,if_neg (by omega),if_pos ⟨by omega,by omega⟩];exact h _ _ (by omega) (by omega)
    ·rw[if_neg ci];by_cases ej:j=l
     ·rw[if_pos ej];exact W i (by omega)
     ·rw[if_neg ej];by_cases cj:l<j/\j<=k
      ·rw[if_pos cj];exact h _ _ (by omega) (by omega)
      ·rw[if_neg cj];exact h _ _ Z (by omega)
  obtain⟨P,Q⟩:=xJ f (RN p k (k - l)) (k+1) (by rw[bubble_size];omega) S
  refine⟨?_,Q.trans (bubble_perm _ _ _)⟩;rw[show k+(f+1)=k+1+f by omega];exact P
theorem Ba(W:2<=n):A9 r (bq (dR r) (wd n)) n/\(bq (dR r) (wd n)).Perm (F0 (ey n)):=by
 unfold wd;rw[gx];have G:=zl (r:=r) (nrem:=n) (p:=F0 (ey n)) W (by simp)
 generalize bq (dR r) (QM n (F0 (ey n)))=g at G;obtain⟨m,p⟩:=g;have U:p.size=n:=by rw[G.perm.size_eq];simp
 have hle:m<=n:=G.le;have Y:1<=m:=G.pos;show A9 r (bq (dR r) (if m<n then Qj (n - max m 1) p (max m 1)else QB p)) n/\Array.Perm (bq (dR r) (if m<n then Qj (n - max m 1) p (max m 1)else QB p)) (F0 (ey n));by_cases c:m<n
 ·rw[if_pos c];have em:max m 1=m:=by omega
  rw[em];obtain⟨Z,X⟩:=xJ (r:=r) (n - m) p m (by omega) G.asc
  refine⟨?_,X.trans G.perm⟩;rw[show m+(n - m)=n by omega]at Z;exact Z
 ·rw[if_neg c];have em:m=n:=by omega
  subst em;exact⟨G.asc,G.perm⟩
end
def vU(n:Nat){α:Type}(R:α->Prop):RM α->Prop
 | .ret a=>R a
 | .ask i j k=>i<n/\j<n/\∀b,vU n R (k b)
theorem iH{n:Nat}{α Y:Type}{R:α->Prop}{Z:Y->Prop}{f:α->RM Y}:∀{t:RM α},vU n R t->(∀a,R a->vU n Z (f a))->vU n Z (t.bind f)
 | .ret a,h,k=>k a h
 | .ask i j g,h,k=>⟨h.1,h.2.1,fun b=>iH (h.2.2 b) k⟩
theorem Bb{n:Nat}{α:Type}{R:α->Prop}{Z:Nat->Nat->(Bool->b_->Prop)->b_->Prop}{b:Nat->Nat->Bool}{s:b_}{Q:α->b_->Prop}(h:∀i j C,i<n->j<n->C (b i j) s->Z i j C s):
  ∀{t:RM α},vU n R t->Q (bq b t) s->t.kasWp Z Q s
 | .ret a,_,q=>q
 | .ask i j k,o,q=>h i j _ o.1 o.2.1 (Bb h (o.2.2 (b i j)) q)
theorem pk{n:Nat}{α:Type}{R:α->Prop}{b Z:Nat->Nat->Bool}(h:∀i j,i<n->j<n->b i j=Z i j):∀{t:RM α},vU n R t->bq b t=bq Z t
 | .ret a,_=>rfl
 | .ask i j k,o=>by
  show bq b (k (b i j))=bq Z (k (Z i j));rw[h i j o.1 o.2.1];exact pk h (o.2.2 _)
def In(n:Nat)(p:Array Nat):Prop:=0<n/\∀x∈p.toList,x<n
theorem In.get(h:In n p)(k:Nat):p.getD k 0<n:=by
 rw[Mo];cases e:p[k]? with
 |none=>exact h.1
 |some x=>exact h.2 x (by rw[<-Me]at e;exact Mf e)
theorem In.perm{q:Array Nat}(h:In n p)(e:q.Perm p):In n q:=⟨h.1,fun x Z=>h.2 x ((Array.Perm.toList e).mem_iff.mp Z)⟩
theorem sH(h:In n p):∀(f m:Nat),vU n (fun _=>True) (u3 p f m)
 |0,m=>trivial
 | f+1,m=>⟨h.get _,h.get _,fun b=>by
   cases b with
   |true=>exact trivial
   |false=>exact sH h f (m+1)⟩
theorem lq:∀(f:Nat) (p:Array Nat) (m q:Nat),In n p->vU n (fun r=>In n r.1) (u5 f p m q)
 |0,p,m,q,h=>h
 | f+1,p,m,q,h=>⟨h.get _,h.get _,fun b=>by
   cases b with
   |true=>
    show vU n _ (if q>0 then _ else _);split
    ·exact lq f _ _ _ (h.perm e9)
    ·exact lq f _ _ _ h
   |false=>
    refine⟨h.get _,h.get _,fun b=>?_⟩;cases b with
    |true=>exact h
    |false=>exact lq f _ _ _ h⟩
theorem rm(h:In n p):vU n (fun r:Nat×Array Nat=>In n r.2) (Ro m nrem p):=
 iH (sH (h.perm e9) _ _) fun _ _=>h.perm e9
theorem lr(h:In n p):vU n (fun r:Nat×Array Nat=>In n r.2) (QC m nrem p):=
 iH (lq _ _ _ _ h) fun a Z=>by
  split
  ·exact rm (Z.perm e9)
  ·exact rm Z
theorem zm(h:In n p):vU n (fun r:Nat×Array Nat=>In n r.2) (QM nrem p):=
 iH (sH h _ _) fun a _=>by
  split
  ·exact h
  ·split
   ·refine⟨h.get _,h.get _,fun b=>?_⟩;cases b with
    |true=>exact h
    |false=>exact lr (h.perm e9)
   ·exact lr h
theorem mG(h:In n p):∀(f l m:Nat),vU n (fun _=>True) (t_ p k f l m)
 |0,l,m=>trivial
 | f+1,l,m=>by
  show vU n _ (if l ≥ m then _ else _);split
  ·exact trivial
  ·refine⟨h.get _,h.get _,fun b=>?_⟩;cases b with
   |true=>exact mG h f _ _
   |false=>exact mG h f _ _
theorem xK:∀(f:Nat) (p:Array Nat) (k:Nat),In n p->vU n (In n) (Qj f p k)
 |0,p,k,h=>h
 |f+1,p,k,h=>iH (mG h _ _ _) fun l _=>xK f _ _ (h.perm (bubble_perm _ _ _))
theorem uk(Y:0<n):vU n (In n) (wd n):=
 iH (zm ⟨Y,fun x X=>by simpa using X⟩) fun a Z=>by
  split
  ·exact xK _ _ _ Z
  ·exact Z
theorem um{α:Type}{p q:α->Bool}:∀{l:List α} {x:α},(∀y∈l,p y=c_->q y=c_)->x∈l->p x=dV->q x=c_->l.countP p<l.countP q
 | y::l,x,h,hx,hp,hq=>by
  have W:l.countP p<=l.countP q:=List.countP_mono_left fun z Z=>h z (LN _ Z);rw[N6,N6];rcases LY.mp hx with e|hx'
  ·subst e;rw[hp,hq];simp;omega
  ·have X:=um (fun z Z=>h z (LN _ Z)) hx' hp hq;have Y:=h y LX;cases e1:p y with
   |true=>rw[Y e1];simp;omega
   |false=>simp;split<;>omega
theorem DJ{b:Nat->Nat->Bool}(P:2<=n)(W:∀i,i<n->b i i=dV)(Q:∀i j k,i<n->j<n->k<n->b i j=c_->b j k=c_->b i k=c_)(S:∀i j k,i<n->j<n->k<n->b i k=c_->b i j=c_\/b j k=c_):
  (bq b (wd n)).Perm (F0 (ey n))/\∀i j,i<=j->j<n->b ((bq b (wd n)).getD j 0) ((bq b (wd n)).getD i 0)=false:=by
 let r:Nat->Nat:=fun i=>(ey n).countP fun j=>b j i;have R:∀i j,i<n->j<n->b i j=decide (r i<r j):=fun i j X Y=>by
  cases e:b i j with
  |true=>
   refine(L7 ?_).symm;exact um (x:=i) (fun y U h=>Q y i j (Ma.mp U) X Y h e) (Ma.mpr X) (W i X) e
  |false=>
   refine(Mn (Pc.mpr ?_)).symm;refine List.countP_mono_left fun y U h=>?_;rcases S y i j (Ma.mp U) X Y h with z|z
   ·exact z
   ·rw[e]at z;cases z
 have N:bq b (wd n)=bq (dR r) (wd n):=pk R (uk (by omega))
 obtain⟨a1,a2⟩:=Ba (r:=r) P;rw[N];refine⟨a2,fun i j T Y=>?_⟩;have Z:In n (bq (dR r) (wd n)):=In.perm ⟨by omega,fun x O=>by simpa using O⟩ a2
 rw[R _ _ (Z.get j) (Z.get i)];exact Mn (Pc.mpr (a1 i j T Y))
end S3
namespace S3
open PySem PySem.Spec PySem.W PyProof.Rows L2
section
variable {prog:e_}{w:f'}{A:h_}{E:aC->b_->Prop}{s:b_}{Q:Bool->b_->Prop}
theorem uo:∀{us ws:List aC} {ns ms:List Int} (i:Nat),(b=c_\/0<i\/True)->m3 us ns->m3 ws ms->Q (HT.lexLt ns ms) s->
  KatLex prog w A b (decide (us.length<ws.length)) Q (us.zip ws) i s\/us.length≠ws.length
 |[],[],ns,ms,i,_,h1,h2,q=>by
  cases h1;cases h2;exact .inl q
 |[],_::_,_,_,_,_,_,_,_=>.inr (by simp)
 |_::_,[],_,_,_,_,_,_,_=>.inr (by simp)
 | u ::us,v::ws,ns,ms,i,hb,h1,h2,q=>by
  cases h1 with
  |cons n t h1=>
  cases h2 with
  | cons k t' h2=>
   rw[HT.lexLt_cons]at q;by_cases e:n=k
   ·rw[if_pos e]at q;rcases uo (b:=b) (i+1) (.inr (.inr trivial)) h1 h2 q with z|z
    ·refine .inl (kat_cons (Px ?_));have:(n==k)=true:=by simp[e]
     rw[this];refine kat_yes ?_;show KatLex prog w A b (decide (us.length+1<ws.length+1)) Q (us.zip ws) (i+1) s;rw[show decide (us.length+1<ws.length+1)=decide (us.length<ws.length) by simp]
     exact z
    ·exact .inr (by simpa using z)
   ·rw[if_neg e]at q;refine .inl (kat_cons (Px ?_));have:(n==k)=false:=by simp[e]
    rw[this];refine kat_no ?_;cases hbi:(b && i==0)with
    |true=>exact oneLt_int q
    |false=>exact kat_one _ _ (lt_int q)
end
structure Tups(h:gd)(vs:List aC)(nss:List (List Int))(c:Nat):Prop where
 len:vs.length=nss.length
 get:∀(i:Nat),i<vs.length->∃a o us n,vs.getD i i0= .ref a/\h.get? a=ar o/\o.cls= .type "tuple"/\o.data= .seq us n/\m3 us.toList (nss.getD i [])/\us.size=c+1
theorem Tups.keep{h':gd}(t:Tups h vs nss c)(k:∀i a o,i<vs.length->vs.getD i i0= .ref a->h.get? a=ar o->h'.get? a=ar o):Tups h' vs nss c:=
 ⟨t.len,fun i Z=>let ⟨a,o,us,n,e1,e2,r⟩:=t.get i Z;⟨a,o,us,n,e1,k i a o Z e1 e2,r⟩⟩
theorem Tups.ask{s:b_}(t:Tups s.heap vs nss c){C:Bool->b_->Prop}(R:i<vs.length)(Q:j<vs.length)
  (q:C (HT.lexLt (nss.getD i []) (nss.getD j [])) s):kas_ask prog w A (tuples' b) vs i j C s:=by
 obtain⟨a,o,us,n,e1,e2,K,S,T,X⟩:=t.get i R;obtain⟨P,O,Z,N,f1,f2,L,f4,U,W⟩:=t.get j Q;unfold kas_ask;rw[e1,f1];refine kat_lt e2 S f2 f4 ?_;have Y:us.toList.length=Z.toList.length:=by simp[X,W]
 rcases uo (prog:=prog) (w:=w) (A:=A) (b:=b) 0 (.inr (.inr trivial)) T U q with z|z
 ·simpa using z
 ·exact absurd Y z
end S3
namespace S3
open PySem PySem.Spec PyProof.Rows L2
abbrev St:=L2.St
def iI(cells:List (Str×dt)):List (Str×mu)->List (Str×dt)->List (Str×dt)
 |[],cs=>cs
 |(n,k)::r,cs=>iI cells r (if k== .free then (n,(cells.lookup n).getD 0)::cs else cs)
theorem fe(scope:Scope)(env:Env)(h:∀y∈scope.names,y.2= .free->∃c,env.cells.lookup y.1=ar c):Q8 scope env=a_ (iI env.cells scope.names []):=by
 have go:∀(names:List (Str×mu)) (cs:List (Str×dt)),(∀y∈names,y.2= .free->∃c,env.cells.lookup y.1=ar c)->
   (RV names cs (fun(x:Str×mu) (r:List (Str×dt))=>(if (x.2==i1)=c_ then do let a<-cellOf env x.1;a_ (E2 ((x.1,a)::r))else a_ (E2 r):Sem (ForInStep (List (Str×dt))))):Sem (List (Str×dt)))=a_ (iI env.cells names cs):=by
  intro names
  induction names with
  |nil=>intro cs _;rfl
  | cons y r ih=>
   intro cs U;obtain⟨n,k⟩:=y;have W:∀y∈r,y.2= .free->∃c,env.cells.lookup y.1=ar c:=fun y hm=>U y (LN _ hm);rw[P4];by_cases hk:(k==i1)=c_
   ·have Y:k= .free:=by simpa using hk
    obtain⟨c,X⟩:=U (n,k) LX Y;have e:cellOf env n=a_ c:=by unfold cellOf;rw[X]
    simp only[hk,if_true,e,pure_bind];rw[ih _ W];simp only[iI,hk,if_true,X,Option.getD_some]
   ·have Z:(k==i1)=false:=by simpa using hk
    simp only[Z,fg,if_false,pure_bind];rw[ih _ W];simp only[iI,Z,fg,if_false]
 have:=go scope.names [] h;unfold Q8;simp only[bind_pure]at*;exact this
theorem oh{cells:List (Str×dt)}:∀(names:List (Str×mu)) (cs:List (Str×dt)),(∀y∈names,y.2= .free->∃c,cells.lookup y.1=ar c)->(∀p∈cs,cells.lookup p.1=ar p.2)->
  ∀p∈iI cells names cs,cells.lookup p.1=ar p.2
 |[],cs,_,h=>h
 | (n,k)::r,cs,hy,h=>by
  refine oh r _ (fun y hm=>hy y (LN _ hm)) fun p Z=>?_;by_cases hk:(k==i1)=c_
  ·rw[if_pos hk]at Z;rcases LY.mp Z with rfl|Z
   ·obtain⟨c,X⟩:=hy (n,k) LX (by simpa using hk)
    show cells.lookup n=ar ((cells.lookup n).getD 0);have Y:cells.lookup n=ar c:=X;rw[Y];rfl
   ·exact h p Z
  ·rw[if_neg hk]at Z;exact h p Z
theorem gz:∀(names:List (Str×mu)) (cs:List (Str×dt)),(x,i1)∈names\/x∈cs.map (·.1)->x∈(iI cells names cs).map (·.1)
 |[],cs,h=>by
  rcases h with h|h
  ·cases h
  ·exact h
 | (n,k)::r,cs,h=>by
  refine gz r _ ?_;rcases h with h|h
  ·rcases LY.mp h with e|h
   ·cases e;refine .inr ?_;simp
   ·exact .inl h
  ·refine .inr ?_;by_cases hk:(k==i1)=c_
   ·rw[if_pos hk];exact LN _ h
   ·rw[if_neg hk];exact h
theorem lookup_mem:∀{l:List (Str×dt)},l.lookup x=ar c->(x,c)∈l
 |[],h=>by cases h
 | (n,a)::r,h=>by
  by_cases e:x==n
  ·have Z:x=n:=by simpa using e
   rw[Mj,e]at h;have h':ar a=ar c:=h;cases h';subst Z;exact LX
  ·have e2:(x==n)=false:=by simpa using e
   rw[Mj,e2]at h;exact LN _ (lookup_mem h)
theorem mem_lookup:∀{l:List (Str×dt)},x∈l.map (·.1)->∃c,l.lookup x=ar c
 |[],h=>by cases h
 | (n,a)::r,h=>by
  by_cases e:x==n
  ·exact⟨a,by rw[Mj,e]⟩
  ·have e2:(x==n)=false:=by simpa using e
   rw[Mj,e2];refine mem_lookup ?_;rcases LY.mp h with z|z
   ·have Z:x=n:=z;subst Z;simp at e
   ·exact z
theorem a7:∀{l:List (Str×mu)},l.lookup x=ar k->(x,k)∈l
 |[],h=>by cases h
 | (n,a)::r,h=>by
  by_cases e:x==n
  ·have Z:x=n:=by simpa using e
   rw[Mj,e]at h;have h':ar a=ar k:=h;cases h';subst Z;exact LX
  ·have e2:(x==n)=false:=by simpa using e
   rw[Mj,e2]at h;exact LN _ (a7 h)
theorem i3{env:Env}:∀{names:List (Str×mu)} {k:mu},
  (names.map fun(n,k)=>if (k==i1 && env.scope.kind== .function && env.kindOf n==ar .cell)then (n,pe)else (n,k)).lookup x=ar k->
   names.lookup x=ar k\/(k= .cell/\names.lookup x=ar .free)
 |[],k,h=>by cases h
 | (n,a)::r,k,h=>by
  by_cases e:x==n
  ·rw[LZ]at h;by_cases c:(a==i1 && env.scope.kind== .function && env.kindOf n==ar .cell)=c_
   ·have Y:a= .free:=by
     simp only[j3,beq_iff_eq]at c;exact c.1.1
    simp only[c,if_true,k_,e]at h;cases h;refine .inr ⟨rfl,?_⟩;rw[Mj,e,Y]
   ·have Z:(a==i1 && env.scope.kind== .function && env.kindOf n==ar .cell)=false:=by simpa using c
    simp only[Z,fg,if_false,k_,e]at h;refine .inl ?_;rw[Mj,e];exact h
  ·have e2:(x==n)=false:=by simpa using e
   rw[Mj,e2];refine i3 (env:=env) (names:=r) ?_;rw[LZ]at h;by_cases c:(a==i1 && env.scope.kind== .function && env.kindOf n==ar .cell)=c_
   ·simp only[c,if_true,k_,e2]at h;exact h
   ·have Z:(a==i1 && env.scope.kind== .function && env.kindOf n==ar .cell)=false:=by simpa using c
    simp only[Z,fg,if_false,k_,e2]at h;exact h
theorem lu{env:Env}:∀{names:List (Str×mu)},names.lookup x=ar .free->
  (names.map fun(n,k)=>if (k==i1 && env.scope.kind== .function && env.kindOf n==ar .cell)then (n,pe)else (n,k)).lookup x=ar .cell\/
  (names.map fun(n,k)=>if (k==i1 && env.scope.kind== .function && env.kindOf n==ar .cell)then (n,pe)else (n,k)).lookup x=ar .free
 |[],h=>by cases h
 | (n,a)::r,h=>by
  rw[LZ];by_cases e:x==n
  ·rw[Mj,e]at h;have X:ar a=ar NameKind.free:=h;cases X;by_cases c:(i1==i1 && env.scope.kind== .function && env.kindOf n==ar .cell)=c_
   ·refine .inl ?_;simp only[c,if_true,k_,e]
   ·have Z:(i1==i1 && env.scope.kind== .function && env.kindOf n==ar .cell)=false:=by simpa using c
    refine .inr ?_;simp only[Z,fg,if_false,k_,e]
  ·have e2:(x==n)=false:=by simpa using e
   rw[Mj,e2]at h;have Y:=lu (env:=env) h;by_cases c:(a==i1 && env.scope.kind== .function && env.kindOf n==ar .cell)=c_
   ·simp only[c,if_true,k_,e2];exact Y
   ·have Z:(a==i1 && env.scope.kind== .function && env.kindOf n==ar .cell)=false:=by simpa using c
    simp only[Z,fg,if_false,k_,e2];exact Y
theorem wg:∀{names:List (Str×mu)} {n:Nat} {acc:List (Str×dt)} {p:Str×dt},p∈j' n names acc->p∈acc\/n<=p.2
 |[],n,acc,p,h=>.inl h
 | (x,k)::r,n,acc,p,h=>by
  unfold j' at h;split at h
  ·rcases wg h with h|h
   ·rcases LY.mp h with rfl|h
    ·exact .inr (LF _)
    ·exact .inl h
   ·exact .inr (OA h)
  ·exact wg h
theorem wj:∀{names:List (Str×mu)} {n:Nat} {acc:List (Str×dt)},(∀p∈acc,p.2<n)->(∀x y c,(x,c)∈acc->(y,c)∈acc->x=y)->∀x y c,(x,c)∈j' n names acc->(y,c)∈j' n names acc->x=y
 |[],n,acc,_,hi,x,y,c,h1,h2=>hi x y c h1 h2
 | (z,k)::r,n,acc,hl,hi,x,y,c,h1,h2=>by
  unfold j' at h1 h2;by_cases hk:(k==pe)=c_
  ·rw[if_pos hk]at h1 h2;refine wj (fun p Z=>?_) (fun x y c g1 g2=>?_) x y c h1 h2
   ·rcases LY.mp Z with rfl|Z
    ·exact NA _
    ·exact MA (hl p Z)
   ·rcases LY.mp g1 with g1|g1<;>rcases LY.mp g2 with g2|g2
    ·rw[<-g2]at g1;exact(Prod.mk.inj g1).1
    ·cases g1;exact absurd (hl _ g2) (Nb _)
    ·cases g2;exact absurd (hl _ g1) (Nb _)
    ·exact hi x y c g1 g2
  ·rw[if_neg hk]at h1 h2;exact wj hl hi x y c h1 h2
theorem sI:∀{names:List (Str×mu)} {n:Nat} {acc:List (Str×dt)},(∀y∈names,y.2= .cell->y.1≠x)->(j' n names acc).lookup x=acc.lookup x
 |[],_,_,_=>rfl
 | (z,k)::r,n,acc,h=>by
  unfold j';split
  ·next hk=>
   rw[sI fun y Z=>h y (LN _ Z),Mj];have:(x==z)=false:=by
    have:=h (z,k) LX (by simpa using hk)
    simpa using j7 this
   rw[this]
  ·exact sI fun y Z=>h y (LN _ Z)
theorem sJ:∀{names:List (Str×mu)} {h:gd} {acc:List (Str×dt)} {p:Str×dt},p∈j' h.objs.size names acc->p∈acc\/(pushCells h names).IsCell p.2 none
 |[],h,acc,p,q=>.inl q
 | (x,k)::r,h,acc,p,q=>by
  unfold j' at q;unfold pushCells;split at q
  ·next hk=>
   rw[if_pos hk];have Z:p∈j' (h.push {cls:=.type "cell",data:=.cell none}).objs.size r ((x,h.objs.size)::acc):=by rw[MG];exact q
   rcases sJ Z with Z|Z
   ·rcases LY.mp Z with rfl|Z
    ·exact .inr ⟨_,PF _ _ _ _ (LM _ rfl),rfl⟩
    ·exact .inl Z
   ·exact .inr Z
  ·next hk=>
   rw[if_neg hk];exact sJ q
theorem wk:∀(names:List (Str×mu)) (n:Nat) (acc:List (Str×dt)),((x,pe)∈names\/∃c,acc.lookup x=ar c/\m<=c)->m<=n->(j' n names acc).lookup x=ar a->m<=a
 | [],n,acc,h,hm,e=>by
  rcases h with h|⟨c,h2,h3⟩
  ·cases h
  ·have Y:acc.lookup x=ar a:=e;rw[h2]at Y;cases Y;exact h3
 | (z,k)::r,n,acc,h,hm,e=>by
  unfold j' at e;by_cases hk:(k==pe)=c_
  ·rw[if_pos hk]at e;refine wk r (n+1) _ ?_ (Nat.le_succ_of_le hm) e;by_cases hz:(x==z)=c_
   ·exact .inr ⟨n,by rw[Mj,hz],hm⟩
   ·have Z:(x==z)=false:=by simpa using hz
    rcases h with h|⟨c,h2,h3⟩
    ·rcases LY.mp h with h|h
     ·cases h;simp at hz
     ·exact .inl h
    ·exact .inr ⟨c,by rw[Mj,Z];exact h2,h3⟩
  ·rw[if_neg hk]at e;refine wk r n acc ?_ hm e;rcases h with h|h
   ·rcases LY.mp h with h|h
    ·cases h;simp at hk
    ·exact .inl h
   ·exact .inr h
theorem rq{s:b_}{scope:Scope}{env:Env}
  (h:∀h1,h1.Ns s.heap.objs.size (fun _=>none)->(∀b o,s.heap.get? b=ar o->h1.get? b=ar o)->(∀p∈j' (s.heap.objs.size+1) scope.names cl,p∈cl\/h1.IsCell p.2 none)->
   Q {scope,locals:=s.heap.objs.size,globals:=env.globals,cells:=j' (s.heap.objs.size+1) scope.names cl,qual:=env.qual,func:=none,code:=env.code,frame:=env.frame,builtins:=env.builtins} {s with heap:=h1}):
  ee M A (newFunctionEnv scope env.globals cl [] env.qual none .none (ar env)) Q E s:=by
 simp only[newFunctionEnv,Option.isSome_some,if_true];refine LA (wpAny_alloc (LA (wpAny_layCells _ (fun name kind cells=>by cases hkc:kind==pe<;>simp[hkc]) _ _ _ _ ?_)))
 have e:({s with heap:=s.heap.push {cls:=.type "dict",data:=.dict #[]}}:b_).heap.objs.size=s.heap.objs.size+1:=MG ..;rw[e];refine LA (m:=RV [] _ _) (LD (LD (h _ ((Heap.Ns.new s.heap (.type "dict")).keeps (PF _ _)) (fun b o q=>PF _ _ b o (LB _ q)) fun p Z=>?_)));exact sJ (h:=s.heap.push {cls:=.type "dict",data:=.dict #[]}) (by rw[e];exact Z)
def aH(X:Cx)(scope:Scope)(Nc:List Str)(C:dt)(ex:List dt)(s:b_)(H:Hp):Cx:=
 {X with N:=Nc,s₀:=s,H₀:=H,env:=compEnvC scope (j' (C+1) scope.names (iI X.env.cells scope.names [])) C X.env,outer:=X.stack,stack:=X.stack,ex:=ex,fn:=fun x=>scope.names.lookup x==ar .cell,pn:=[],xe:=fun _ _=>False}
structure CompScope(X:Cx)(scope:Scope)(Nc:List Str)(js:List (Option Nat)):Prop where
 kind:scope.kind= .function
 cel:∀y∈scope.names,y.2= .cell->scope.names.lookup y.1=ar .cell
 loc:∀y∈scope.names,y.2= .local->scope.names.lookup y.1=ar .local
 free:∀y∈scope.names,y.2= .free->X.env.kindOf y.1=ar .cell\/X.env.kindOf y.1=ar .free
 len:js.length=Nc.length
 ix:∀(i:Nat) (x:Str) (j:Nat),Nc[i]? =ar x->js[i]? =ar (ar j)->X.N[j]? =ar x/\scope.names.lookup x=ar .free
def mH(js:List (Option Nat))(σ:St):St:=js.map fun o=>o.bind fun j=>(σ[j]?).join
def Dn(X:Cx)(ifs:List Expr)(t:TT):Prop:=
 ∀(pins:List (dt×Obj)) (s:b_) (σ:St) (H:Hp) (Q:Bool->Hp->Prop),Inv X pins σ H s->t σ H Q->
  ee (fc X.prog X.w) X.A (RV ifs c_ fun c r=>if r=c_ then do let ok<-isTrue c X.env (h9 c X.env);a_ (E2 ok)else a_ (E2 r)) (TP X pins σ Q) X.xe s
theorem DK:Dn X [] (fun _ H Q=>Q c_ H):=fun pins s σ H Q I h=>wpAny_tests_nil ⟨H,I,h⟩
theorem DL(h:PT X c t):Dn X [c] t:=fun pins s σ H Q I hw=>wpAny_tests_one (h pins s σ H Q I hw)
def xM(wi:TI)(js:List (Option Nat))(g:TG)(tt:TT)(te:TE):TE:=fun σ H Q=>wi σ H fun J H1=>∀p,H1 p=none->
 ∃W:Nat->Nat->St->Hp->Prop,(∃m,W 0 m (mH js σ) (upd H1 p (.lst [])))/\∀i m σc Hc,W i m σc Hc->
  (J.stop i Hc/\Q (.ref p) Hc)\/(J.go i Hc/\∃N:St->Hp->Prop,(∀ σ' H',N σ' H'->∃m',m'<m/\W (i+1) m' σ' H')/\∀x H',J.yld i Hc x H'->g x σc H' fun σ2 H2=>tt σ2 H2 fun b H3=>
   if b=c_ then te σ2 H3 fun y H4=>∃xs,H4 p=ar (.lst xs)/\xs.length<sizeLine/\N σ2 (upd H4 p (.lst (xs++[y])))else N σ2 H3)
section
variable {X:Cx}{scope:Scope}{Nc:List Str}{js:List (Option Nat)}{pins:List (dt×Obj)}{σ:St}{H:Hp}{s:b_}
theorem CompScope.has(c:CompScope X scope Nc js)(Y:X.Ok):∀y∈scope.names,y.2= .free->∃a,X.env.cells.lookup y.1=ar a:=fun y Z e=>Y.has y.1 (c.free y Z e)
theorem pq{O:gd}(c:CompScope X scope Nc js)(I:Inv X pins σ H s)(U:∀b∈ex,iZ X pins H b)(K:∀b∈ex,b<s.heap.objs.size)
  (R:C=s.heap.objs.size) (n:O.Ns C (fun _=>none)) (hs:∀b o,s.heap.get? b=ar o->O.get? b=ar o)
  (B:∀p∈j' (C+1) scope.names (iI X.env.cells scope.names []),p∈iI X.env.cells scope.names []\/O.IsCell p.2 none):
  Inv (aH X scope Nc C ex s H) [] (mH js σ) H {s with heap:=O,toks:=tk}:=by
 have Y:=oh (cells:=X.env.cells) scope.names [] (c.has I.ok) (fun _ z=>nomatch z);have P:∀x a,(iI X.env.cells scope.names []).lookup x=ar a->X.env.cells.lookup x=ar a:=fun x a e=>Y _ (lookup_mem e);have A:∀b o,s.heap.get? b=ar o->b≠C:=fun b o e=>by rw[R];exact LQ (LK e)
 have Q:∀p∈iI X.env.cells scope.names [],p.2<C+1:=fun p w=>by
  obtain⟨v,F,G,_⟩:=I.cell p.1 p.2 (Y p w);rw[R];exact MA (LK G)
 have Z:∀x a,(j' (C+1) scope.names (iI X.env.cells scope.names [])).lookup x=ar a->X.env.cells.lookup x=ar a\/(C<a/\O.IsCell a none):=fun x a e=>by
  have hm:=lookup_mem e;rcases B _ hm with z|z
  ·exact .inl (Y _ z)
  ·rcases wg hm with y|y
   ·exact .inl (Y _ y)
   ·exact .inr ⟨y,z⟩
 refine⟨⟨I.ok.mod,c.kind,I.ok.glob,I.ok.blt,Oe R.symm,fun x y a e1 e2=>wj Q (fun x y a e1 e2=>I.ok.inj x y a (Y _ e1) (Y _ e2)) x y a (lookup_mem e1) (lookup_mem e2),fun x L=>?_,fun x a z e=>?_,I.ok.hd,I.ok.frames,.inl rfl,fun b W=>⟨?_,fun x a e z=>?_⟩,
  I.bs,LS I.ok.bsz I.sz,fun b o e W=>?_,fun b W z=>?_,I.stack,I.stkFree⟩,rfl,I.bare,Un.kept hs,⟨_,n,fun i x v e1 e2 e3=>?_⟩,fun x a e=>?_,?_,fun x a e=>?_,(fun p w=>nomatch w),I.hok.kept hs,?_⟩
 ·-- names that are cells here have one
  have E:scope.names.lookup x=ar .free\/scope.names.lookup x=ar .cell:=by
   rcases L with L|L
   ·rcases i3 (env:=X.env) (names:=scope.names) L with z|⟨_,z⟩
    ·exact .inr z
    ·exact .inl z
   ·rcases i3 (env:=X.env) (names:=scope.names) L with z|⟨z,_⟩
    ·exact .inl z
    ·cases z
  refine MS.mp (Ot scope.names (C+1) _ ?_);rcases E with z|z
  ·exact .inr (MS.mpr (mem_lookup (gz scope.names [] (.inl (a7 z)))))
  ·exact .inl z
 ·-- the block's own cells are new
  have d:scope.names.lookup x=ar .cell:=by
   have:(scope.names.lookup x==ar .cell)=true:=z;simpa using this
  show s.heap.objs.size<=a;rw[<-R];exact OA (wk (m:=C+1) scope.names (C+1) _ (.inl (a7 d)) (LF _) e)
 ·show b≠C;rw[R];exact LQ (K b W)
 ·rcases Z x a e with y|⟨y,_⟩
  ·exact(U b W).2.2.2.2.1 x a y z
  ·rw[z,R]at y;exact Nb _ (O5 y (K b W))
 ·have:b<X.base.objs.size:=LK e;rcases (U b W).2.2.2.1 with z|z
  ·exact I.ok.noex b o e z
  ·exact absurd (LV this (LS I.ok.bsz z)) (Nb _)
 ·rcases LY.mp (I.stkSub b z)with e|e
  ·exact(U b W).2.1 e
  ·exact(U b W).2.2.1 e
 ·-- the names that are read from around
  have t:Nc[i]? =ar x:=e1;have:∃j,js[i]? =ar (ar j)/\σ[j]? =ar (ar v):=by
   unfold mH at e2;rw[L3]at e2;cases q:js[i]? with
   |none=>rw[q]at e2;cases e2
   | some o=>
    rw[q]at e2;cases o with
    |none=>cases e2
    |some j=>
     refine⟨j,rfl,?_⟩;have S:(σ[j]?).join=ar v:=L5 e2;cases r:σ[j]? with
     |none=>rw[r]at S;cases S
     |some z=>rw[r]at S;exact OE ar S
  obtain⟨j,g,h⟩:=this;obtain⟨hN,T⟩:=c.ix i x j t g;obtain⟨m,l,hl⟩:=I.loc;have J:=c.free (x,.free) (a7 T) rfl;have N:yR X.env.scope x:=by
   rcases J with z|z
   ·exact .inr (.inl z)
   ·exact .inr (.inr z)
  obtain⟨u,f,lk⟩:=hl j x v hN h N;refine⟨u,f,.inr ⟨?_,?_⟩⟩
  ·rcases lu (env:=X.env) T with z|z
   ·exact .inl z
   ·exact .inr z
  ·rcases lk with⟨z,_⟩|⟨_,a,ea,ha⟩
   ·rcases J with y|y
    ·rw[show X.env.kindOf x=ar pe from y]at z;cases z
    ·rw[show X.env.kindOf x=ar i1 from y]at z;cases z
   ·obtain⟨b,W⟩:=mem_lookup (gz (cells:=X.env.cells) scope.names [] (.inl (a7 T)));have:=P x b W;rw[ea]at this;cases this;obtain⟨F,G,hd⟩:=ha;refine⟨a,?_,F,hs _ _ G,hd⟩;show(j' (C+1) scope.names (iI X.env.cells scope.names [])).lookup x=ar a;rw[sI fun y k e z=>by have:=c.cel y k e;rw[z,T]at this;cases this]
    exact W
 ·rcases Z x a e with y|⟨_,y⟩
  ·obtain⟨v,F,G,hd⟩:=I.cell x a y;exact⟨v,F,hs _ _ G,hd⟩
  ·exact⟨_,y⟩
 ·show H C=none;rw[R];exact I.hok.fresh (LF _)
 ·rcases Z x a e with y|⟨y,_⟩
  ·exact I.freeC x a y
  ·exact I.hok.fresh (by rw[<-R];exact Nd y)
 ·show(mH js σ).length=Nc.length;unfold mH;rw[LC];exact c.len
theorem uq(I:Inv X pins σ H s)(Q:C=s.heap.objs.size)(Z:∀b∈ex,iZ X pins H b)
  (T:Inv (aH X scope Nc C ex s H) [] σc H' s') (hs:rn C s'.heap h2):Inv X pins σ H' {s' with heap:=h2}:=by
 have W:∀b o,s.heap.get? b=ar o->b≠C:=fun b o e=>by rw[Q];exact LQ (LK e)
 have B:=T.base;have u:Un (jG X.stack) ex H H' s.heap h2:={
  keep:=fun b o e n Y U=>(hs.2 b (W b o e)).trans (B.keep b o e n Y U)
  slot:=fun b o e n Y U=>by
   obtain⟨P,q⟩:=B.slot b o e n Y U;exact⟨P,(hs.2 b (W b o e)).trans q⟩
  free:=B.free
  there:=fun b o e U=>by
   obtain⟨R,q⟩:=B.there b o e U;exact⟨R,(hs.2 b (W b o e)).trans q⟩
  tups:=B.tups
  frzs:=B.frzs
  tbls:=B.tbls}
 refine I.call' (s':={s' with heap:=h2}) (ch:=ex) T.os u (fun b o e=>?_) T.bare fun b Y=>⟨(Z b Y).2.2.2.1,(Z b Y).2.1,(Z b Y).2.2.2.2.1,(Z b Y).2.2.2.2.2⟩;have S:∀b o,H' b=ar o->b≠C:=fun b o e z=>by
  have hf:H' C=none:=T.free;rw[z,hf]at e;cases e
 refine(T.hok b o e).stay (fun d v hd q=>?_) (fun _ q=>q) fun _ _ q=>q;refine(hs.2 d ?_).trans q;rcases hd with z|z
 ·subst z;exact S _ _ e
 ·exact S _ _ z
theorem px{Q:VK}(G:Option (aC->Sem Unit))(Qr:aC->b_->Prop)(c:CompScope X scope Nc js)(hc:X.calm=c_)(hi:PI X tg iter wi)
  (b2:∀C ex s H,Inv X pins σ H s->(∀b∈ex,iZ X pins H b)->PG (aH X scope Nc C ex s H) tg g/\Dn (aH X scope Nc C ex s H) ifs tt/\PE (aH X scope Nc C ex s H) elt te)
  (I:Inv X pins σ H s) (h:xM wi js g tt te σ H Q)
  (k:∀p C s' S,Q (.ref p) S->(∀E,rn C s'.heap E->Inv X pins σ S {s' with heap:=E})->(∃m,s'.heap.Ns C m)->iZ X pins S C->
   RC (fc X.prog X.w) X.A X.xe G Qr (.ref p) C (.ok .next) s')
  (hs:∀x,hY iter X.env x=a_ x:=by intro _;rfl):
  ee (fc X.prog X.w) X.A (comprehension (.ListComp elt [⟨tg,iter,ifs,0⟩] scope pos) scope X.env pos' (RW []) dV (h9 iter X.env) G) Qr X.xe s:=by
 refine wpAny_comprehension_free rfl hs (fe scope X.env (c.has I.ok)) c.kind c.loc (de (hi pins s σ H _ I h) fun v s1 F=>de F fun d1 s2 E=>?_);obtain⟨it,Y,a,J,U,e,I2,T,f,f2,hW⟩:=E;subst e;refine Mx (rq fun F K R O=>?_);dsimp only at K R O⊢;obtain⟨W,⟨m0,w0⟩,turn⟩:=hW s2.heap.objs.size (I2.hok.fresh (LF _));have l:Inv X pins σ (upd U s2.heap.objs.size (.lst [])) {s2 with heap:=s2.heap.push {cls:=.type "list",dict:=none,data:=.seq ([]:List aC).toArray}}:=
  I2.laid (t':=s2.toks) (fun _ _ q=>LB _ q) (LF _) ⟨L6 _,[],0,.nil,LM _ rfl⟩
 generalize hS3:({s2 with heap:=s2.heap.push {cls:=.type "list",dict:=none,data:=.seq ([]:List aC).toArray}}:b_)=s3 at l;have e3:s3.heap=s2.heap.push {cls:=.type "list",dict:=none,data:=.seq ([]:List aC).toArray}:=by rw[<-hS3]
 rw[<-e3]at K R O⊢;generalize hp:s2.heap.objs.size=p at*;have B:∀b∈Y,b<p:=fun b Z=>by
  obtain⟨o,e,_⟩:=T.obj _ _ f b Z;rw[<-hp];exact LK e
 have a5:∀b∈Y,b≠p:=fun b Z=>LQ (B b Z);have f3:∀b∈Y,iZ X pins (upd U p (.lst [])) b:=fun b Z=>⟨by rw[aB (a5 b Z)];exact(f2 b Z).1,(f2 b Z).2⟩
 have t:s3.heap.objs.size=p+1:=by rw[e3,MG,hp]
 have j:∀b∈Y,b<s3.heap.objs.size:=fun b Z=>by rw[t];exact MA (B b Z)
 have L:∀b o,s3.heap.get? b=ar o->F.get? b=ar o:=R;have b6:a 0 F:=T.keep _ _ _ f fun b Z o e=>L b o (by rw[e3];exact LB _ e)
 generalize hC:s3.heap.objs.size=C at*;have a6:F.Ns C (fun _=>none):=by simpa using K
 have start:∀tk,Inv (aH X scope Nc C Y s3 (upd U p (.lst []))) [] (mH js σ) (upd U p (.lst [])) {s3 with heap:=F,toks:=tk}:=fun tk=>pq c l f3 (fun b Z=>by rw[hC];exact j b Z) hC.symm a6 L O
 have ok:=(start 0).ok;have P:∀{S:Hp},(∀b∈Y,S b=none)->∀b∈Y,iZ (aH X scope Nc C Y s3 (upd U p (.lst []))) [] S b:=fun hn b Z=>
  ⟨hn b Z,(ok.exf b Z).1,ok.exfs b Z,.inl Z,(ok.exf b Z).2,fun _ z=>nomatch z⟩
 obtain⟨hG,hT,hE⟩:=b2 C Y s3 (upd U p (.lst [])) l f3;have loop:∀s':b_,Inv (aH X scope Nc C Y s3 (upd U p (.lst []))) [] (mH js σ) (upd U p (.lst [])) s'->a 0 s'.heap->
   r7 (fc X.prog X.w) X.A (.compLoop (.ListComp elt [⟨tg,iter,ifs,0⟩] scope pos) 0 (.ref it) (.ref p) (aH X scope Nc C Y s3 (upd U p (.lst []))).env) (RC (fc X.prog X.w) X.A X.xe G Qr (.ref p) C) s':=by
  intro s' I' b5;refine codeAny_loop rfl (fun n s'=>∃i σ' S,Inv (aH X scope Nc C Y s3 (upd U p (.lst []))) [] σ' S s'/\a i s'.heap/\(∀b∈Y,S b=none)/\W i n σ' S) ?_ m0 ⟨0,_,_,I',b5,fun b Z=>(f3 b Z).1,w0⟩;rintro n s4 ⟨i,σ4,H4,I4,st4,fr4,w4⟩;show ee _ X.A ((QD (.ListComp elt [⟨tg,iter,ifs,0⟩] scope pos) 0 (.ref it) (.ref p) (aH X scope Nc C Y s3 (upd U p (.lst []))).env).onRaise (fun x=>do GB x (aH X scope Nc C Y s3 (upd U p (.lst []))).env;theTreesLotGoes x)) _ _ s4
  refine wpAny_noted ?_;rw[compTurn_list];refine LA (MN (LA ?_));rcases turn i n σ4 H4 w4 with⟨stop,qn⟩|⟨go,N,hN,step⟩
  ·refine Mb (T.done (aH X scope Nc C Y s3 (upd U p (.lst []))) rfl rfl rfl hc i [] s4 σ4 H4 (fun _ _=>False) I4 (P fr4) st4 stop) (fun r s5 ⟨hr,I5⟩=>?_) fun _ _ z=>z.elim;subst hr;refine LD (k p C s5 H4 qn (fun E b1=>uq l hC.symm f3 I5 b1) ?_ (l.fpOk (Oe hC) I5.free));obtain⟨m,hm,_⟩:=I5.loc;exact⟨m,hm⟩
  ·refine Mb (T.item (aH X scope Nc C Y s3 (upd U p (.lst []))) rfl rfl rfl hc i [] s4 σ4 H4 (fun _ _=>False) I4 (P fr4) st4 go) (fun r s5 ⟨u,hr,h5⟩=>?_) fun _ _ z=>z.elim;subst hr;refine LA (Mb h5 (fun _ s6 ⟨x,H6,I6,r6,y6,st6,fr6⟩=>?_) fun _ _ z=>z.elim);have b4:=I6.pinned (P fr6) (T.obj _ _ st6);refine LA (Mb (hG _ s6 σ4 H6 x u _ b4 r6 (step x H6 y6)) (fun _ s7 ⟨σ7,H7,I7,q7⟩=>?_) fun _ _ z=>z.elim);refine LA (Mb (hT _ s7 σ7 H7 _ I7 q7) (fun b s8 ⟨H8,I8,q8⟩=>?_) fun _ _ z=>z.elim);have P_:∀{σ9:St} {H9:Hp} {s9:b_},Inv (aH X scope Nc C Y s3 (upd U p (.lst []))) ([]++mE Y s6.heap) σ9 H9 s9->N σ9 H9->
     ∃m,m<n/\∃i σ' S,Inv (aH X scope Nc C Y s3 (upd U p (.lst []))) [] σ' S s9/\a i s9.heap/\(∀b∈Y,S b=none)/\W i m σ' S:=fun{σ9 H9 s9} I9 n9=>by
    obtain⟨m',hm,w9⟩:=hN σ9 H9 n9;refine⟨m',hm,i+1,σ9,H9,I9.unpinned,T.keep _ _ _ st6 fun b Z o e=>(I9.pin (b,o) (LU _ (LU _ (fD Z e)))).1,fun b Z=>?_,w9⟩;obtain⟨o,e,d⟩:=T.obj _ _ st6 b Z;exact(I9.pin (b,o) (LU _ (LU _ (fD Z e)))).2.1
   cases b with
   |false=>exact LD ⟨rfl,P_ I8 q8⟩
   |true=>
    refine LA (LA (Mb (hE _ s8 σ7 H8 _ I8 q8) (fun y s9 ⟨yv,H9,I9,r9,q9⟩=>?_) fun _ _ z=>z.elim));obtain⟨xs,hx,hl,n9⟩:=q9;refine LA (Mb (j9 (X:=aH X scope Nc C Y s3 (upd U p (.lst []))) _ s9 σ7 H9 (.ref p) [yv] (.ref p) [y] (fun _ S=>N σ7 S) I9 rfl (.cons r9 .nil) ⟨p,xs,yv,rfl,rfl,hx,hl,n9⟩) (fun _ s10 ⟨_,H10,I10,_,q10⟩=>?_) fun _ _ z=>z.elim);exact LD (LD ⟨rfl,P_ I10 q10⟩)
 refine codeAny_compStart_list (loop _ ?_ ?_) (T.self _ 0 _ _ _ ?_ (loop _ ?_ ?_))
 all_goals first
  |exact b6
  |(subst hS3;exact start _)
theorem xN(c:CompScope X scope Nc js)(T:X.calm=c_)(R:PI X tg iter wi)
  (Z:∀C ex s H,PG (aH X scope Nc C ex s H) tg g/\Dn (aH X scope Nc C ex s H) ifs tt/\PE (aH X scope Nc C ex s H) elt te)
  (hs:∀x,hY iter X.env x=a_ x:=by intro _;rfl):PE X (.ListComp elt [⟨tg,iter,ifs,0⟩] scope pos) (xM wi js g tt te):=by
 intro pins s σ H Q I h;rw[Qm];refine px none _ c T R (fun C ex s H _ _=>Z C ex s H) I h (fun p C s' P q W S _=>?_) hs;obtain⟨m,hm⟩:=S;exact⟨m,hm,fun U Y=>⟨.ref p,P,W U Y,rfl,q⟩⟩
theorem wo{pos:Pos}(G:X.N.Nodup)(U:X.N[i]? =ar x)(Q:Loc X.env.scope x)
  (c:CompScope X scope Nc js) (F:X.calm=c_) (K:PI X tg iter wi)
  (W:∀C ex s H,PG (aH X scope Nc C ex s H) tg g/\Dn (aH X scope Nc C ex s H) ifs tt/\PE (aH X scope Nc C ex s H) elt te)
  (T:k7 (.ListComp elt [⟨tg,iter,ifs,0⟩] scope cpos) (ar (.Name x pos')) pos.line X.env=a_ true:=by rfl)
  (J:X.fn x=c_\/X.env.scope.names.lookup x=ar .local:=by first|exact .inl rfl|exact .inr rfl|assumption)
  (hs:∀x,hY iter X.env x=a_ x:=by intro _;rfl):PS X (.Assign [.Name x pos'] (.ListComp elt [⟨tg,iter,ifs,0⟩] scope cpos) pos) (F5 (xM wi js g tt te) (AM i)):=by
 intro pins s σ H D I h;rw[exec_Assign_Name_used _ _ _ _ T];refine LA (MN (LA ?_));show ee _ X.A (do let _<-comprehension (.ListComp elt [⟨tg,iter,ifs,0⟩] scope cpos) scope X.env _ (RW []) dV (h9 iter X.env) (ar (P1 (.Name x pos') X.env))) _ _ s
 refine LA (de (px (ar (P1 (.Name x pos') X.env)) (fun _ s'=>SP X pins D .next s') c F K (fun C ex s H _ _=>W C ex s H) I h (fun p C s' S q R P Z=>?_) hs) fun _ s' q=>LD (LD q));obtain⟨m,hm⟩:=P;have L:Inv X pins σ S s':=R s'.heap (.refl ..);refine wpAny_assign_Name (qZ L G U Q (v:=.ref p) rfl (fun s'' I'' ⟨a,hsb,ha⟩=>?_) J);have O:C≠a:=by
  rcases ha with z|z
  ·rw[z];exact Z.2.1
  ·exact fun e=>Z.2.2.2.2.1 x a z e.symm
 refine⟨m,hm.sameBut hsb O,fun B Y=>?_⟩;exact⟨_,S,I''.turned (t':=s''.toks) (it:=C) (fun b o E e=>(Y.2 b E).trans e) Z.1 Z.2.1 Z.2.2.2.1 Z.2.2.2.2.1 Z.2.2.2.2.2,q⟩
end
inductive D where
 |non|bl (b:Bool)|int (i:Int)|str (x:Str)|tup (ds:List D)|lst (k:Nat)|ro (ds:List D)|emp
 |fn (a c:dt) (q:Str) (ds:List D) (vs:List V)|exc (x:Str) (ds:List D)
 |fz (ds:List D)
abbrev aA:=List (List D)
inductive Res(α:Type) where
 |ok (a:α)|ex (x:D)
def M(α:Type):=aA->Option (Res α×aA)
namespace M
def ret{α:Type}(a:α):M α:=fun S=>ar (.ok a,S)
def bnd{α β:Type}(m:M α)(f:α->M β):M β:=fun S=>match m S with
 |some (.ok a,S')=>f a S'
 |some (.ex x,S')=>ar (.ex x,S')
 |none=>none
def fail{α:Type}:M α:=fun _=>none
def raise{α:Type}(x:D):M α:=fun S=>ar (.ex x,S)
noncomputable instance:Monad M where
 pure:=ret
 bind:=bnd
end M
def Lp(K:d_)(a:dt)(xs:List V):Prop:=∃(o:Obj) (its:Array aC) (n:Nat),K.lookup a=ar o/\o.cls= .type "list"/\o.dict=none/\o.data= .seq its n/\its.size<=sizeLine/\bb xs its.toList
def Do(K:d_)(H:Hp)(a:dt)(vs:List V):Prop:=(∃o,H a=ar (.frz o (.lst vs)))\/Lp K a vs
theorem Do.sq{K:d_}{H:Hp}{a:dt}{vs:List V}(h:Do K H a vs):iY K H a vs:=h.imp (fun⟨o,e⟩=>.inr ⟨o,e⟩) fun z=>z
def nX(C a:dt)(od:Option dt):gd->Prop:=fun h=>∃oe vs,h.get? a=ar oe/\oe.cls= .ref C/\oe.dict=od/\oe.data= .fields vs
def mI(qual:Str)(c:dt):gd->Prop:=fun h=>h.CodeRec (.ref c) qual
def bH:List Str:=["law","_law_within_right","_law_refusals_right","_law_sharings_right","_law_right","_law_lists_right","_law_papers_right","_law_great_right","_law_told_right","_law_desks_right","_law_texts_right"]
def TabsOk(K:d_)(H:Hp):Prop:=∀x∈bH,∀c P,l6 K x=ar (c,P)->∃ps,H P=ar (.tbl ps)/\Rp ps.toList/\
 ∀pos cv,PV pos ps.toList=ar cv->∃c',cv= .ref c'/\H c'=ar (.ext (mI (x++".<locals>.<lambda>") c'))
theorem TabsOk.mono{K:d_}{H Z:Hp}(h:TabsOk K H)(k:∀a o,H a=ar o->(∀vs,o≠ .lst vs)->Z a=ar o):TabsOk K Z:=fun x Y c P e=>
 let ⟨ps,h1,h2,h3⟩:=h x Y c P e
 ⟨ps,k _ _ h1 (by intro _ z;cases z),h2,fun pos cv q=>let ⟨c',e1,e2⟩:=h3 pos cv q;⟨c',e1,k _ _ e2 (by intro _ z;cases z)⟩⟩
mutual
inductive RelD(K:d_)(ι:List dt)(H:Hp):D->V->Prop where
 |non:RelD K ι H .non .non
 |bl (b:Bool):RelD K ι H (.bl b) (.bl b)
 |int (i:Int):RelD K ι H (.int i) (.int i)
 |str (x:Str):RelD K ι H (.str x) (.str x)
 |tup {a:dt} {ds:List D} {vs:List V}:H a=ar (.tup vs)->RelDs K ι H ds vs->RelD K ι H (.tup ds) (.ref a)
 |lst {a:dt} {k:Nat}:ι[k]? =ar a->RelD K ι H (.lst k) (.ref a)
 |ro {a:dt} {ds:List D} {vs:List V}:Do K H a vs->RelDs K ι H ds vs->RelD K ι H (.ro ds) (.ref a)
 |emp {a:dt}:H a=ar (.dK [])->RelD K ι H .emp (.ref a)
 |fn {a c:dt} {q:Str} {ds:List D} {vs:List V}:H c=ar (.ext (mI q c))->RelDs K ι H ds vs->RelD K ι H (.fn a c q ds vs) (.ref a)
 |exc {a C:dt} {x:Str}:p4 K gg x=ar (ar (.ref C))->H a=ar (.ext (nX C a none))->RelD K ι H (.exc x []) (.ref a)
 |excF {a C dx:dt} {x:Str} {fs:List (Str×V)} {ds:List D}:p4 K gg x=ar (ar (.ref C))->H a=ar (.ext (nX C a (ar dx)))->H dx=ar (.xd fs)->fs.map (·.1)=([("many":Str),("most":Str)]:List Str)->RelDs K ι H ds (fs.map (·.2))->RelD K ι H (.exc x ds) (.ref a)
 |fz {a:dt} {o:Obj} {ds:List D} {vs:List V}:H a=ar (.frz o (.lst vs))->RelDs K ι H ds vs->RelD K ι H (.fz ds) (.ref a)
inductive RelDs(K:d_)(ι:List dt)(H:Hp):List D->List V->Prop where
 |nil:RelDs K ι H [] []
 |cons {d:D} {v:V} {ds:List D} {vs:List V}:RelD K ι H d v->RelDs K ι H ds vs->RelDs K ι H (d::ds) (v::vs)
end
structure Rep(K:d_)(ι:List dt)(H:Hp)(S:aA):Prop where
 nd:ι.Nodup
 len:ι.length=S.length
 get:∀(k:Nat) (a:dt) (xs:List D),ι[k]? =ar a->S[k]? =ar xs->∃vs,H a=ar (.lst vs)/\RelDs K ι H xs vs
 tab:TabsOk K H
structure Ext(ι:List dt)(H:Hp)(ι':List dt)(H':Hp):Prop where
 ids:∃more,ι'=ι++more
 oth:∀a o,H a=ar o->a∉ι->(∀ps,o≠ .tbl ps)->H' a=ar o/\a∉ι'
structure ExtN(ι:List dt)(H:Hp)(ι':List dt)(H':Hp):Prop where
 ids:∃more,ι'=ι++more
 oth:∀a o,H a=ar o->a∉ι->(∀ps,o≠ .tbl ps)->(∀vs,o≠ .lst vs)->H' a=ar o/\a∉ι'
theorem Ext.n{ι Z:List dt}{H Y:Hp}(e:Ext ι H Z Y):ExtN ι H Z Y:=⟨e.ids,fun a o h n t _=>e.oth a o h n t⟩
theorem Ext.refl{ι:List dt}{H:Hp}:Ext ι H ι H:=⟨⟨[],by simp⟩,fun _ _ h n _=>⟨h,n⟩⟩
theorem Ext.trans{ι Y Z:List dt}{H W X:Hp}(a:Ext ι H Y W)(b:Ext Y W Z X):Ext ι H Z X:=by
 obtain⟨T,e1⟩:=a.ids;obtain⟨U,e2⟩:=b.ids;exact⟨⟨T++U,by rw[e2,e1,L9]⟩,fun c o h n t=>let ⟨h1,n1⟩:=a.oth c o h n t;b.oth c o h1 n1 t⟩
theorem ExtN.at{ι Z:List dt}{H X:Hp}(e:ExtN ι H Z X){k:Nat}{a:dt}(h:ι[k]? =ar a):Z[k]? =ar a:=by
 obtain⟨m,rfl⟩:=e.ids;have Y:k<ι.length:=(LH.mp h).1;rw[Mm Y];exact h
section
variable {K:d_}{ι ι':List dt}{H H':Hp}{S:aA}
theorem Rep.isL(r:Rep K ι H S)(h:a∈ι):∃vs,H a=ar (.lst vs):=by
 obtain⟨k,Y,e⟩:=List.mem_iff_getElem.mp h;have Z:k<S.length:=by rw[<-r.len];exact Y
 obtain⟨vs,X,_⟩:=r.get k a (S[k]) (by rw[LG Y,e]) (LG Z)
 exact⟨vs,X⟩
theorem Rep.notIn(r:Rep K ι H S)(h:H a=ar o)(Z:∀vs,o≠ .lst vs):a∉ι:=fun z=>by
 obtain⟨vs,e⟩:=r.isL z;rw[h]at e;exact Z vs (L5 e)
theorem Rep.free(r:Rep K ι H S)(h:H a=none):a∉ι:=fun z=>by
 obtain⟨vs,e⟩:=r.isL z;rw[h]at e;cases e
mutual
theorem RelD.laterN(r:Rep K ι H S)(e:ExtN ι H ι' H'):∀{d:D} {v:V},RelD K ι H d v->RelD K ι' H' d v
 |_,_,.non=>.non
 |_,_,.bl b=>.bl b
 |_,_,.int i=>.int i
 |_,_,.str x=>.str x
 |_,_,.tup h hs=>.tup (e.oth _ _ h (r.notIn h (by intro _ z;cases z)) (by intro _ z;cases z) (by intro _ z;cases z)).1 (RelDs.laterN r e hs)
 |_,_,.lst h=>.lst (e.at h)
 |_,_,.ro h hs=>.ro (h.imp (fun⟨o,h⟩=>⟨o,(e.oth _ _ h (r.notIn h (by intro _ z;cases z)) (by intro _ z;cases z) (by intro _ z;cases z)).1⟩) fun z=>z) (RelDs.laterN r e hs)
 |_,_,.emp h=>.emp (e.oth _ _ h (r.notIn h (by intro _ z;cases z)) (by intro _ z;cases z) (by intro _ z;cases z)).1
 |_,_,.fn h hs=>.fn (e.oth _ _ h (r.notIn h (by intro _ z;cases z)) (by intro _ z;cases z) (by intro _ z;cases z)).1 (RelDs.laterN r e hs)
 |_,_,.exc n h=>.exc n (e.oth _ _ h (r.notIn h (by intro _ z;cases z)) (by intro _ z;cases z) (by intro _ z;cases z)).1
 |_,_,.excF n h h2 hn hs=>.excF n (e.oth _ _ h (r.notIn h (by intro _ z;cases z)) (by intro _ z;cases z) (by intro _ z;cases z)).1 (e.oth _ _ h2 (r.notIn h2 (by intro _ z;cases z)) (by intro _ z;cases z) (by intro _ z;cases z)).1 hn (RelDs.laterN r e hs)
 |_,_,.fz h hs=>.fz (e.oth _ _ h (r.notIn h (by intro _ z;cases z)) (by intro _ z;cases z) (by intro _ z;cases z)).1 (RelDs.laterN r e hs)
theorem RelDs.laterN(r:Rep K ι H S)(e:ExtN ι H ι' H'):∀{ds:List D} {vs:List V},RelDs K ι H ds vs->RelDs K ι' H' ds vs
 |_,_,.nil=>.nil
 |_,_,.cons h hs=>.cons (RelD.laterN r e h) (RelDs.laterN r e hs)
end
theorem RelD.later(r:Rep K ι H S)(e:Ext ι H ι' H'){d:D}{v:V}(h:RelD K ι H d v):RelD K ι' H' d v:=RelD.laterN r e.n h
theorem RelDs.later(r:Rep K ι H S)(e:Ext ι H ι' H'){ds:List D}{vs:List V}(h:RelDs K ι H ds vs):RelDs K ι' H' ds vs:=RelDs.laterN r e.n h
theorem RelDs.length:∀{ds:List D} {vs:List V},RelDs K ι H ds vs->ds.length=vs.length
 |_,_,.nil=>rfl
 |_,_,.cons _ t=>by rw[Mg,Mg,RelDs.length t]
theorem RelDs.append:∀{ds es:List D} {vs ws:List V},RelDs K ι H ds vs->RelDs K ι H es ws->RelDs K ι H (ds++es) (vs++ws)
 |_,_,_,_,.nil,s=>s
 |_,_,_,_,.cons r t,s=>.cons r (RelDs.append t s)
theorem RelDs.get':∀{ds:List D} {vs:List V} {i:Nat} {d:D},RelDs K ι H ds vs->ds[i]? =ar d->∃v,vs[i]? =ar v/\RelD K ι H d v
 |_,_,_,_,.nil,e=>by simp at e
 |_,_,0,_,.cons r _,e=>by simp at e;subst e;exact⟨_,rfl,r⟩
 |_,_,i+1,v,.cons _ t,e=>by
  obtain⟨u,Z,Y⟩:=RelDs.get' (i:=i) t (by simpa using e)
  exact⟨u,by simpa using Z,Y⟩
theorem RelDs.take:∀{ds:List D} {vs:List V} (n:Nat),RelDs K ι H ds vs->RelDs K ι H (ds.take n) (vs.take n)
 |_,_,0,_=>.nil
 |_,_,_+1,.nil=>.nil
 |_,_,n+1,.cons r t=>.cons r (RelDs.take n t)
theorem RelDs.drop:∀{ds:List D} {vs:List V} (n:Nat),RelDs K ι H ds vs->RelDs K ι H (ds.drop n) (vs.drop n)
 |_,_,0,r=>r
 |_,_,_+1,.nil=>.nil
 |_,_,n+1,.cons _ t=>RelDs.drop n t
theorem RelDs.set(r:RelD K ι H d v):∀{ds:List D} {vs:List V} (i:Nat),RelDs K ι H ds vs->RelDs K ι H (ds.set i d) (vs.set i v)
 |_,_,_,.nil=>.nil
 |_,_,0,.cons _ t=>.cons r t
 |_,_,i+1,.cons q t=>.cons q (RelDs.set r i t)
theorem RelDs.eraseIdx:∀{ds:List D} {vs:List V} (i:Nat),RelDs K ι H ds vs->RelDs K ι H (ds.eraseIdx i) (vs.eraseIdx i)
 |_,_,_,.nil=>.nil
 |_,_,0,.cons _ t=>t
 |_,_,i+1,.cons q t=>.cons q (RelDs.eraseIdx i t)
theorem dU(Z:H p=none):Ext ι H ι (upd H p o):=⟨⟨[],by simp⟩,fun a Y h n _=>⟨by rw[aB (aE h Z)];exact h,n⟩⟩
theorem ff{p:dt}{o:HO}(r:Rep K ι H S)(Z:H p=none):Rep K ι (upd H p o) S:=by
 refine⟨r.nd,r.len,fun k a xs e1 e2=>?_,r.tab.mono fun b o h _=>by rw[aB (aE h Z)];exact h⟩
 obtain⟨vs,Y,X⟩:=r.get k a xs e1 e2;exact⟨vs,by rw[aB (aE Y Z)];exact Y,RelDs.later r (dU Z) X⟩
theorem ur(Z:H p=none):Ext ι H (ι++[p]) (upd H p o):=⟨⟨[p],rfl⟩,fun a Y h n _=>⟨by rw[aB (aE h Z)];exact h,by
 have:a≠p:=aE h Z;simp[n,this]⟩⟩
theorem Bc{p:dt}{xs:List D}{vs:List V}(r:Rep K ι H S)(Z:H p=none)(h:RelDs K ι H xs vs):Rep K (ι++[p]) (upd H p (.lst vs)) (S++[xs]):=by
 have X:Ext ι H (ι++[p]) (upd H p (.lst vs)):=ur Z;refine⟨?_,by simp[r.len],fun k a ys e1 e2=>?_,r.tab.mono fun b o h _=>by rw[aB (aE h Z)];exact h⟩
 ·rw[List.nodup_append];refine⟨r.nd,by simp,fun a T b Q=>?_⟩
  have:b=p:=by simpa using Q
  subst this;rintro rfl;exact r.free Z T
 ·by_cases hk:k<ι.length
  ·rw[Mm hk]at e1;rw[Mm (by rw[<-r.len];exact hk)]at e2
   obtain⟨ws,U,R⟩:=r.get k a ys e1 e2;exact⟨ws,by rw[aB (aE U Z)];exact U,RelDs.later r X R⟩
  ·have Y:k<(ι++[p]).length:=(LH.mp e1).1;have:k=ι.length:=by simp at Y;omega
   subst this;simp at e1;rw[r.len]at e2;simp at e2;subst e1 e2;exact⟨vs,aM,RelDs.later r X h⟩
theorem pA:∀{l:List dt} {i j:Nat} {a:dt},l.Nodup->l[i]? =ar a->l[j]? =ar a->i=j
 |[],i,j,a,_,h,_=>by simp at h
 |x::r,0,0,a,_,_,_=>rfl
 |x::r,0,j+1,a,hn,h1,h2=>by
  simp at h1 h2;subst h1;exact absurd (Mf h2) (MM.mp hn).1
 |x::r,i+1,0,a,hn,h1,h2=>by
  simp at h1 h2;subst h2;exact absurd (Mf h1) (MM.mp hn).1
 |x::r,i+1,j+1,a,hn,h1,h2=>by
  simp at h1 h2;rw[pA (MM.mp hn).2 h1 h2]
theorem sL(Z:a∈ι):Ext ι H ι (upd H a o):=⟨⟨[],by simp⟩,fun b Y h n _=>⟨by rw[aB (fun z=>n (by rw[z];exact Z))];exact h,n⟩⟩
theorem sM{a:dt}{k:Nat}{xs:List D}{vs:List V}(r:Rep K ι H S)(Z:ι[k]? =ar a)(h:RelDs K ι H xs vs):Rep K ι (upd H a (.lst vs)) (S.set k xs):=by
 have Y:a∈ι:=Mf Z;have X:Ext ι H ι (upd H a (.lst vs)):=sL Y;refine⟨r.nd,by simp[r.len],fun j b ys e1 e2=>?_,r.tab.mono fun b o h n=>by
  obtain⟨ws,hw⟩:=r.isL Y;rw[aB (fun z=>by subst z;rw[h]at hw;exact n ws (L5 hw))];exact h⟩
 by_cases hj:j=k
 ·subst hj;rw[Z]at e1;cases e1;have R:j<S.length:=by rw[<-r.len];exact(LH.mp Z).1
  rw[Mh R]at e2;cases e2;exact⟨vs,aM,RelDs.later r X h⟩
 ·rw[MI (j7 hj)]at e2;obtain⟨ws,U,T⟩:=r.get j b ys e1 e2;have Q:b≠a:=by
   rintro rfl;exact hj (pA r.nd e1 Z)
  exact⟨ws,by rw[aB Q];exact U,RelDs.later r X T⟩
end
abbrev XD:=D->List dt->aA->Hp->Prop
def cont(K:d_)(E:XD){α:Type}(c:M α)(ι:List dt)(S:aA)(H:Hp)(Q:α->List dt->aA->Hp->Prop):Prop:=
 ∃r S',c S=ar (r,S')/\∀ ι' H',Ext ι H ι' H'->Rep K ι' H' S'->match r with
  | .ok a=>Q a ι' S' H'
  | .ex x=>E x ι' S' H'
section
variable {K:d_}{E:XD}{ι:List dt}{S:aA}{H:Hp}{α β:Type}
theorem ah{c:M α}{f:α->M β}{Q:β->List dt->aA->Hp->Prop}(h:cont K E (c>>=f) ι S H Q):cont K E c ι S H (fun a Z S1 X=>cont K E (f a) Z S1 X Q):=by
 obtain⟨r,R,e,k⟩:=h;have Y:M.bnd c f S=ar (r,R):=e;unfold M.bnd at Y;cases q:c S with
 |none=>rw[q]at Y;cases Y
 | some p=>
  obtain⟨N,S1⟩:=p;rw[q]at Y;cases N with
  |ok a=>exact⟨.ok a,S1,q,fun Z X T rep1=>⟨r,R,Y,fun U P O rep2=>k U P (T.trans O) rep2⟩⟩
  |ex x=>
   cases Y;exact⟨.ex x,_,q,fun Z X T rep1=>k Z X T rep1⟩
theorem ak{c:M α}{Q T:α->List dt->aA->Hp->Prop}(h:cont K E c ι S H Q)(k:∀a ι' Z H',Ext ι H ι' H'->Rep K ι' H' Z->Q a ι' Z H'->T a ι' Z H'):cont K E c ι S H T:=by
 obtain⟨r,Z,e,q⟩:=h;refine⟨r,Z,e,fun Y U X rep1=>?_⟩;have:=q Y U X rep1;cases r with
 |ok a=>exact k a Y Z U X rep1 this
 |ex x=>exact this
theorem ai{a:α}{Q:α->List dt->aA->Hp->Prop}(h:cont K E (a_ a) ι S H Q){Z:List dt}{Y:Hp}(x:Ext ι H Z Y)(r:Rep K Z Y S):Q a Z S Y:=by
 obtain⟨X,U,e,q⟩:=h;cases e;exact q Z Y x r
theorem ag{Q:α->List dt->aA->Hp->Prop}(h:cont K E (M.fail) ι S H Q):False:=by
 obtain⟨Z,Y,e,q⟩:=h;cases e
end
abbrev aF:=List (Option D)
inductive RelE(K:d_)(ι:List dt)(H:Hp):aF->St->Prop where
 |nil:RelE K ι H [] []
 |cons {o:Option D} {u:Option V} {ρ:aF} {σ:St}:(∀d,o=ar d->∃v,u=ar v/\RelD K ι H d v)->RelE K ι H ρ σ->RelE K ι H (o::ρ) (u::σ)
section
variable {K:d_}{ι ι':List dt}{S:aA}{H H':Hp}
theorem RelE.later(r:Rep K ι H S)(e:Ext ι H ι' H'):∀{ρ:aF} {σ:St},RelE K ι H ρ σ->RelE K ι' H' ρ σ
 |_,_,.nil=>.nil
 |_,_,.cons h t=>.cons (fun d z=>let ⟨v,e1,e2⟩:=h d z;⟨v,e1,RelD.later r e e2⟩) (RelE.later r e t)
theorem RelE.get:∀{ρ:aF} {σ:St} {i:Nat} {d:D},RelE K ι H ρ σ->ρ[i]? =ar (ar d)->∃v,σ[i]? =ar (ar v)/\RelD K ι H d v
 |_,_,_,_,.nil,e=>by simp at e
 |_,_,0,_,.cons h _,e=>by
  simp at e;obtain⟨v,e1,e2⟩:=h _ e;exact⟨v,by simp[e1],e2⟩
 |_,_,i+1,_,.cons _ t,e=>by
  obtain⟨v,Z,Y⟩:=RelE.get (i:=i) t (by simpa using e)
  exact⟨v,by simpa using Z,Y⟩
theorem RelE.set(r:RelD K ι H d v):∀{ρ:aF} {σ:St} (i:Nat),RelE K ι H ρ σ->RelE K ι H (ρ.set i (ar d)) (σ.set i (ar v))
 |_,_,_,.nil=>.nil
 |_,_,0,.cons _ t=>.cons (fun d' z=>by cases z;exact⟨v,rfl,r⟩) t
 |_,_,i+1,.cons q t=>.cons q (RelE.set r i t)
theorem RelE.start:∀{ds:List D} {vs:List V},RelDs K ι H ds vs->∀n,RelE K ι H (ds.map ar++eo n none) (vs.map ar++eo n none)
 |_,_,.nil,n=>by
  induction n with
  |zero=>exact .nil
  |succ n ih=>exact .cons (fun d z=>by cases z) ih
 |_,_,.cons r t,n=>.cons (fun d z=>by cases z;exact⟨_,rfl,r⟩) (RelE.start t n)
end
abbrev TM:=aF->M D
def jL(K:d_)(Q:VK):D->List dt->aA->Hp->Prop:=fun d ι' _ H'=>∀v,RelD K ι' H' d v->Q v H'
def tM(K:d_)(E:XD)(m:TM):TE:=fun σ H Q=>∃ ι S ρ,Rep K ι H S/\RelE K ι H ρ σ/\cont K E (m ρ) ι S H (jL K Q)
def SE(X:Cx)(E:XD)(e:Expr)(m:TM):Prop:=PE X e (tM X.K E m)
def vV(K:d_)(E:XD)(m:aF->M Bool):TT:=fun σ H Q=>∃ ι S ρ,Rep K ι H S/\RelE K ι H ρ σ/\cont K E (m ρ) ι S H (fun b _ _ H'=>Q b H')
def SB(X:Cx)(E:XD)(e:Expr)(m:aF->M Bool):Prop:=PT X e (vV X.K E m)
def Gu(X:Cx)(E:XD)(e:Expr)(m:aF->M Bool):Prop:=PW X e (vV X.K E m)
def KD(K:d_)(E:XD)(m:aF->M (List D)):TA:=fun σ H Q=>∃ ι S ρ,Rep K ι H S/\RelE K ι H ρ σ/\cont K E (m ρ) ι S H (fun ds ι' _ H'=>∀vs,RelDs K ι' H' ds vs->Q vs H')
def SA(X:Cx)(E:XD)(es:List Expr)(m:aF->M (List D)):Prop:=PA X es (KD X.K E m)
inductive Out where
 |nx (ρ:aF)|ret (d:D)|bk (ρ:aF)|ct (ρ:aF)
abbrev cT:=aF->M Out
def Dp(K:d_)(T:Ends):Out->List dt->aA->Hp->Prop:=fun o ι' _ H'=>match o with
 | .nx ρ=>∀ σ,RelE K ι' H' ρ σ->T.nx σ H'
 | .ret d=>∀v,RelD K ι' H' d v->T.rt v H'
 | .bk ρ=>∀ σ,RelE K ι' H' ρ σ->T.bk σ H'
 | .ct ρ=>∀ σ,RelE K ι' H' ρ σ->T.ct σ H'
def JU(K:d_)(E:XD)(m:cT):TS:=fun T σ H=>∃ ι S ρ,Rep K ι H S/\RelE K ι H ρ σ/\cont K E (m ρ) ι S H (Dp K T)
def SS(X:Cx)(E:XD)(st:n3)(m:cT):Prop:=PS X st (JU X.K E m)
def qJ(X:Cx)(E:XD)(st:List n3)(m:cT):Prop:=oO X st (JU X.K E m)
abbrev lz:=D->aF->M aF
def zq(K:d_)(E:XD)(m:lz):TG:=fun v σ H Q=>∃ ι S ρ d,Rep K ι H S/\RelE K ι H ρ σ/\RelD K ι H d v/\cont K E (m d ρ) ι S H (fun ρ' ι' _ H'=>∀ σ',RelE K ι' H' ρ' σ'->Q σ' H')
def SG(X:Cx)(E:XD)(tg:Expr)(m:lz):Prop:=PG X tg (zq X.K E m)
theorem PE.imp{X:Cx}{e:Expr}{t t':TE}(h:PE X e t)(k:∀ σ H Q,t' σ H Q->t σ H Q):PE X e t':=fun pins s σ H Q I hw=>h pins s σ H Q I (k σ H Q hw)
theorem PT.imp{X:Cx}{e:Expr}{t t':TT}(h:PT X e t)(k:∀ σ H Q,t' σ H Q->t σ H Q):PT X e t':=fun pins s σ H Q I hw=>h pins s σ H Q I (k σ H Q hw)
theorem PW.imp{X:Cx}{e:Expr}{t t':TT}(h:PW X e t)(k:∀ σ H Q,t' σ H Q->t σ H Q):PW X e t':=fun Z pins s σ H Q I hw=>h Z pins s σ H Q I (k σ H Q hw)
theorem PA.imp{X:Cx}{e:List Expr}{t t':TA}(h:PA X e t)(k:∀ σ H Q,t' σ H Q->t σ H Q):PA X e t':=fun pos pins s σ H Q I hw=>h pos pins s σ H Q I (k σ H Q hw)
theorem PS.imp{X:Cx}{e:n3}{t t':TS}(h:PS X e t)(k:∀D σ H,t' D σ H->t D σ H):PS X e t':=fun pins s σ H D I hw=>h pins s σ H D I (k D σ H hw)
theorem oO.imp{X:Cx}{e:List n3}{t t':TS}(h:oO X e t)(k:∀D σ H,t' D σ H->t D σ H):oO X e t':=fun pins s σ H D I hw=>h pins s σ H D I (k D σ H hw)
theorem PG.imp{X:Cx}{e:Expr}{t t':TG}(h:PG X e t)(k:∀v σ H Q,t' v σ H Q->t v σ H Q):PG X e t':=fun pins s σ H v u Q I r hw=>h pins s σ H v u Q I r (k v σ H Q hw)
section
variable {X:Cx}{E:XD}{a b e:Expr}{m n:TM}{pos:Pos}
def Fk(ρ:aF)(i:Nat):M D:=match ρ[i]? with
 |some (ar d)=>a_ d
 |_=>M.fail
theorem ae(i:Nat)(U:X.N[i]? =ar x:=by rfl)(W:yR X.env.scope x:=by first|exact z_ rfl|exact u2 (z_ rfl)|exact u2 (u2 rfl))(Z:(x==("__debug__":Str))=false:=by decide)
  (Y:(x==("__classdict__":Str))=false:=by decide):SE X E (.Name x pos) (fun ρ=>Fk ρ i):=by
 refine PE.imp (jK U W Z Y) fun σ H Q h=>?_;obtain⟨ι,S,ρ,rep,re,c⟩:=h;unfold Fk at c;dsimp only at c;split at c
 ·next d Z=>
  obtain⟨v,e1,e2⟩:=re.get Z;exact⟨v,e1,ai c .refl rep v e2⟩
 ·exact(ag c).elim
theorem jM(h:PE X e (tC v))(Z:∀ ι H,RelD X.K ι H d v):SE X E e (fun _=>a_ d):=by
 refine PE.imp h fun σ H Q h=>?_;obtain⟨ι,S,ρ,rep,re,c⟩:=h;exact ai c .refl rep v (Z _ _)
theorem aw{j}:SE X E (.Constant (.int i) j pos) (fun _=>a_ (.int i)):=jM AK fun _ _=>.int i
theorem gh{j}:SE X E (.Constant (.bool i) j pos) (fun _=>a_ (.bl i)):=jM Ij fun _ _=>.bl i
theorem kH{j}:SE X E (.Constant .none j pos) (fun _=>a_ .non):=jM FN fun _ _=>.non
theorem mJ{j}:SE X E (.Constant (.str x) j pos) (fun _=>a_ (.str x)):=jM FO fun _ _=>.str x
theorem DM(Z:Gl X x)(W:X.mg x=ar (.int i t))(Y:(x==("__debug__":Str))=false:=by decide):SE X E (.Name x pos) (fun _=>a_ (.int i)):=
 jM (xC Z W (v:=.int i) ⟨t,rfl⟩ Y) fun _ _=>.int i
def rz(K:d_)(E:XD)(f:D->D->M D)(r:R2):Prop:=
 ∀ ι S H d1 d2 v1 v2 Q,Rep K ι H S->RelD K ι H d1 v1->RelD K ι H d2 v2->cont K E (f d1 d2) ι S H (jL K Q)->r v1 v2 H Q
theorem DN(P:rz X.K E f r)(h:tM X.K E (fun ρ=>do let x<-m ρ;let y<-n ρ;f x y) σ H Q):HR r (tM X.K E m) (tM X.K E n) σ H Q:=by
 obtain⟨ι,S,ρ,rep,re,c⟩:=h;refine⟨ι,S,ρ,rep,re,ak (ah c) fun x Y S1 O e1 rep1 c1 v1 R=>?_⟩;refine⟨Y,S1,ρ,rep1,re.later rep e1,ak (ah c1) fun y Z S2 W e2 rep2 U v2 T=>?_⟩;exact P Z S2 W x y v1 v2 Q rep2 (R.later rep1 e2) T U
theorem pB(h:iU X (r_ op) r)(W:rz X.K E f r)(Z:SE X E a m)(Y:SE X E b n):SE X E (.BinOp a op b pos) (fun ρ=>do let x<-m ρ;let y<-n ρ;f x y):=
 PE.imp (IA h Z Y) fun _ _ _ q=>DN W q
theorem wq(h:iU X (j_ op) r)(U:rz X.K E f r)(Y:SE X E a m)(W:SE X E b n)(Z:lx op b=false:=by first|exact oQ _ (by decide) (by decide)|rfl):
  SE X E (.Compare a [op] [b] pos) (fun ρ=>do let x<-m ρ;let y<-n ρ;f x y):=
 PE.imp (DA h Y W Z) fun _ _ _ q=>DN U q
theorem IR(h:Dm X r)(W:rz X.K E f r)(Z:SE X E a m)(Y:SE X E b n)(hs:sA b:=by intro _ _;rfl):SE X E (.Subscript a b pos) (fun ρ=>do let x<-m ρ;let y<-n ρ;f x y):=
 PE.imp (IJ h Z Y hs) fun _ _ _ q=>DN W q
end
def lim:Nat:=10000000
theorem fZ:lim<=sizeLine:=by rw[ML];decide
theorem Bd:lim<sizeLine:=by rw[ML];decide
section
variable {K:d_}{ι:List dt}{H:Hp}
theorem RelD.bl_inv(h:RelD K ι H (.bl b) v):v= .bl b:=by cases h;rfl
theorem RelD.int_inv(h:RelD K ι H (.int b) v):v= .int b:=by cases h;rfl
theorem RelD.str_inv(h:RelD K ι H (.str b) v):v= .str b:=by cases h;rfl
theorem RelD.non_inv(h:RelD K ι H .non v):v= .non:=by cases h;rfl
theorem RelD.tup_inv(h:RelD K ι H (.tup ds) v):∃a vs,v= .ref a/\H a=ar (.tup vs)/\RelDs K ι H ds vs:=by
 cases h with
 |tup h1 h2=>exact⟨_,_,rfl,h1,h2⟩
theorem RelD.lst_inv(h:RelD K ι H (.lst k) v):∃a,v= .ref a/\ι[k]? =ar a:=by
 cases h with
 |lst h1=>exact⟨_,rfl,h1⟩
theorem RelD.ro_inv(h:RelD K ι H (.ro ds) v):∃a vs,v= .ref a/\Do K H a vs/\RelDs K ι H ds vs:=by
 cases h with
 |ro h1 h2=>exact⟨_,_,rfl,h1,h2⟩
theorem RelD.fz_inv(h:RelD K ι H (.fz ds) v):∃a o vs,v= .ref a/\H a=ar (.frz o (.lst vs))/\RelDs K ι H ds vs:=by
 cases h with
 |fz h1 h2=>exact⟨_,_,_,rfl,h1,h2⟩
theorem RelDs.nil_inv(h:RelDs K ι H [] vs):vs=[]:=by cases h;rfl
theorem RelDs.cons_inv(h:RelDs K ι H (d::ds) vs):∃v ws,vs=v::ws/\RelD K ι H d v/\RelDs K ι H ds ws:=by
 cases h with
 |cons h1 h2=>exact⟨_,_,rfl,h1,h2⟩
end
def ku:D->M Bool
 | .bl b=>a_ b
 |_=>M.fail
def getL(k:Nat):M (List D):=fun S=>(S[k]?).bind fun xs=>ar (.ok xs,S)
def bh(ds:List D):M D:=fun S=>if ds.length<=lim then ar (.ok (.lst S.length),S++[ds])else none
def kI(k:Nat)(ds:List D):M D:=fun S=>if ds.length<=lim/\k<S.length then ar (.ok .non,S.set k ds)else none
def cF(ds:List D):M D:=if ds.length<=lim then a_ (.tup ds)else M.fail
section
variable {K:d_}{E:XD}{ι:List dt}{S:aA}{H:Hp}{α:Type}
theorem sN{f:Bool->M α}(Z:Rep K ι H S)(r:RelD K ι H x v)(c:cont K E (ku x>>=f) ι S H Q):∃b,v= .bl b/\x= .bl b/\cont K E (f b) ι S H Q:=by
 cases x with
 |bl b=>exact⟨b,r.bl_inv,rfl,ai (ah c) .refl Z⟩
 |_=>exact(ag (ah c)).elim
theorem lA{Q:Bool->List dt->aA->Hp->Prop}(Z:Rep K ι H S)(r:RelD K ι H x v)(c:cont K E (ku x) ι S H Q):∃b,v= .bl b/\x= .bl b/\Q b ι S H:=by
 cases x with
 |bl b=>exact⟨b,r.bl_inv,rfl,ai c .refl Z⟩
 |_=>exact(ag c).elim
theorem zv{Q:D->List dt->aA->Hp->Prop}(c:cont K E (bh ds) ι S H Q)(Z:Rep K ι H S)(r:RelDs K ι H ds vs):
  vs.length<=lim/\∀p,H p=none->Q (.lst S.length) (ι++[p]) (S++[ds]) (upd H p (.lst vs)):=by
 obtain⟨X,U,e,q⟩:=c;unfold bh at e;split at e
 ·next hl=>
  cases e;exact⟨by rw[<-r.length];exact hl,fun p Y=>q _ _ (ur Y) (Bc Z Y r)⟩
 ·cases e
theorem Be(Z:Rep K ι H S):RelD K (ι++[p]) H' (.lst S.length) (.ref p):=.lst (by rw[<-Z.len];simp)
theorem bo{Q:VK}(c:cont K E (bh ds) ι S H (jL K Q))(Z:Rep K ι H S)(r:RelDs K ι H ds vs):vs.length<=lim/\∀p,H p=none->Q (.ref p) (upd H p (.lst vs)):=
 let ⟨h1,h2⟩:=zv c Z r
 ⟨h1,fun p Y=>h2 p Y _ (Be Z)⟩
theorem gC{Q:VK}(c:cont K E (cF ds) ι S H (jL K Q))(Z:Rep K ι H S)(r:RelDs K ι H ds vs):vs.length<=lim/\∀p,H p=none->Q (.ref p) (upd H p (.tup vs)):=by
 unfold cF at c;split at c
 ·next hl=>
  refine⟨by rw[<-r.length];exact hl,fun p Y=>?_⟩
  exact ai c (dU Y) (ff Z Y) _ (.tup aM (r.later Z (dU Y)))
 ·exact(ag c).elim
theorem i4{Q:VK}(c:cont K E (cF ds) ι S H (jL K Q))(Z:Rep K ι H S)(h:H a=ar (.tup vs))(r:RelDs K ι H ds vs):Q (.ref a) H:=by
 unfold cF at c;split at c
 ·exact ai c .refl Z _ (.tup h r)
 ·exact(ag c).elim
theorem a9{f:List D->M α}(c:cont K E (getL k>>=f) ι S H Q)(Z:Rep K ι H S)(U:ι[k]? =ar a):
  ∃ds vs,S[k]? =ar ds/\H a=ar (.lst vs)/\RelDs K ι H ds vs/\cont K E (f ds) ι S H Q:=by
 obtain⟨T,R,e,q⟩:=ah c;unfold getL at e;cases z:S[k]? with
 |none=>rw[z]at e;cases e
 |some ds=>
  rw[z]at e;cases e;obtain⟨vs,Y,X⟩:=Z.get k a ds U z;exact⟨ds,vs,rfl,Y,X,q ι H .refl Z⟩
theorem iJ{Q:D->List dt->aA->Hp->Prop}(c:cont K E (kI k ds) ι S H Q)(Z:Rep K ι H S)(Y:ι[k]? =ar a)(r:RelDs K ι H ds vs):
  vs.length<=lim/\Q .non ι (S.set k ds) (upd H a (.lst vs)):=by
 obtain⟨X,U,e,q⟩:=c;unfold kI at e;split at e
 ·next hl=>
  cases e;exact⟨by rw[<-r.length];exact hl.1,q _ _ (sL (Mf Y)) (sM Z Y r)⟩
 ·cases e
end
section
variable {X:Cx}{E:XD}{a b e:Expr}{m n:TM}{pos:Pos}{rest es:List Expr}{ms:aF->M (List D)}{t u:aF->M Bool}
theorem kJ{op}(h:SE X E a m):SE X E (.BoolOp op [a] pos) m:=FT h
theorem jN(W:SE X E a m)(U:SE X E (.BoolOp .And (b::rest) pos) n):SE X E (.BoolOp .And (a::b::rest) pos) (fun ρ=>do let x<-m ρ;let c<-ku x;if c=c_ then n ρ else a_ (.bl dV)):=by
 refine PE.imp (FU W U) fun σ H Q h=>?_;obtain⟨ι,S,ρ,rep,re,c⟩:=h;refine⟨ι,S,ρ,rep,re,ak (ah c) fun x Z S1 R e1 rep1 c1 v1 T=>?_⟩;obtain⟨k,rfl,rfl,Y⟩:=sN rep1 T c1;refine⟨k,rfl,?_⟩;cases k with
 |true=>exact⟨Z,S1,ρ,rep1,re.later rep e1,Y⟩
 |false=>exact ai Y .refl rep1 _ (.bl dV)
theorem Gv(Z:SE X E a m):SE X E (.UnaryOp .Not a pos) (fun ρ=>do let x<-m ρ;let c<-ku x;a_ (.bl (!c))):=by
 refine PE.imp (FV Z) fun σ H Q h=>?_;obtain⟨ι,S,ρ,rep,re,c⟩:=h;refine⟨ι,S,ρ,rep,re,ak (ah c) fun x U S1 T e1 rep1 c1 v1 W=>?_⟩;obtain⟨k,rfl,rfl,Y⟩:=sN rep1 W c1;exact⟨k,rfl,ai Y .refl rep1 _ (.bl _)⟩
theorem IS(W:SB X E c t)(Y:SE X E a m)(U:SE X E b n):SE X E (.IfExp c a b pos) (fun ρ=>do let k<-t ρ;if k=c_ then m ρ else n ρ):=by
 refine PE.imp (AL W Y U) fun σ H Q h=>?_;obtain⟨ι,S,ρ,rep,re,c⟩:=h;refine⟨ι,S,ρ,rep,re,ak (ah c) fun k Z S1 T e1 rep1 c1=>?_⟩;cases k with
 |true=>exact⟨Z,S1,ρ,rep1,re.later rep e1,c1⟩
 |false=>exact⟨Z,S1,ρ,rep1,re.later rep e1,c1⟩
theorem IT(h:vV X.K E (fun ρ=>do let x<-m ρ;ku x) σ H Q):tB (tM X.K E m) σ H Q:=by
 obtain⟨ι,S,ρ,rep,re,c⟩:=h;refine⟨ι,S,ρ,rep,re,ak (ah c) fun x W S1 U e1 rep1 c1 v1 Y=>?_⟩;obtain⟨k,rfl,rfl,Z⟩:=lA rep1 Y c1;exact⟨k,rfl,Z⟩
theorem fh(h:SE X E e m)(Z:∀whole,isTrue e X.env whole=(do let v<-whole;K' e.pos;y3 [v] (truthy v)):=by intro _;rfl):SB X E e (fun ρ=>do let x<-m ρ;ku x):=
 PT.imp (FP h Z) fun _ _ _ q=>IT q
theorem mL(h:iU X (j_ op) r)(R:rz X.K E f r)(Z:SE X E a m)(W:SE X E b n)(T:lx op b=false:=by first|exact oQ _ (by decide) (by decide)|rfl):
  SB X E (.Compare a [op] [b] pos) (fun ρ=>do let z<-(do let x<-m ρ;let y<-n ρ;f x y);ku z):=
 PT.imp (xD h Z W T) fun σ H Q q=>by
  obtain⟨ι,S,ρ,rep,re,c⟩:=q;refine DN R (Q:=fun x O=>∃k,x= .bl k/\Q k O) ⟨ι,S,ρ,rep,re,ak (ah c) fun x P S1 N e1 rep1 c1 v1 U=>?_⟩;obtain⟨k,rfl,rfl,Y⟩:=lA rep1 U c1;exact⟨k,rfl,Y⟩
theorem gD(h:SB X E a t):SB X E (.UnaryOp .Not a pos) (fun ρ=>do let c<-t ρ;a_ (!c)):=by
 refine PT.imp (FS h) fun σ H Q q=>?_;obtain⟨ι,S,ρ,rep,re,c⟩:=q;exact⟨ι,S,ρ,rep,re,ak (ah c) fun k Z S1 Y e1 rep1 c1=>ai c1 .refl rep1⟩
theorem DO(h:SB X E a t):Gu X E (.BoolOp .And [a] pos) t:=Dt h
theorem Bg(h:SB X E a t):Gu X E (.BoolOp .Or [a] pos) t:=FQ h
theorem Gw(Y:SB X E a t)(W:Gu X E (.BoolOp .And (b::rest) pos) u):Gu X E (.BoolOp .And (a::b::rest) pos) (fun ρ=>do let c<-t ρ;if c=c_ then u ρ else a_ dV):=by
 refine PW.imp (FR Y W) fun σ H Q q=>?_;obtain⟨ι,S,ρ,rep,re,c⟩:=q;refine⟨ι,S,ρ,rep,re,ak (ah c) fun k Z S1 U e1 rep1 c1=>?_⟩;cases k with
 |true=>exact⟨Z,S1,ρ,rep1,re.later rep e1,c1⟩
 |false=>exact ai c1 .refl rep1
theorem Bh(Y:SB X E a t)(W:Gu X E (.BoolOp .Or (b::rest) pos) u):Gu X E (.BoolOp .Or (a::b::rest) pos) (fun ρ=>do let c<-t ρ;if c=c_ then a_ c_ else u ρ):=by
 refine PW.imp (Ik Y W) fun σ H Q q=>?_;obtain⟨ι,S,ρ,rep,re,c⟩:=q;refine⟨ι,S,ρ,rep,re,ak (ah c) fun k Z S1 U e1 rep1 c1=>?_⟩;cases k with
 |false=>exact⟨Z,S1,ρ,rep1,re.later rep e1,c1⟩
 |true=>exact ai c1 .refl rep1
theorem Gx(h:Gu X E e t):SB X E e t:=PW.pt h
theorem aq:SA X E [] (fun _=>a_ []):=by
 refine PA.imp gy fun σ H Q q=>?_;obtain⟨ι,S,ρ,rep,re,c⟩:=q;exact ai c .refl rep _ .nil
theorem af(W:SE X E e m)(Y:SA X E es ms)(hs:eb (e::es) X.env=(dV,h9 e X.env)::eb es X.env:=by rfl):SA X E (e::es) (fun ρ=>do let x<-m ρ;let xs<-ms ρ;a_ (x::xs)):=by
 refine PA.imp (dj W Y hs) fun σ H Q q=>?_;obtain⟨ι,S,ρ,rep,re,c⟩:=q;refine⟨ι,S,ρ,rep,re,ak (ah c) fun x Z S1 N e1 rep1 c1 v1 P=>?_⟩;refine⟨Z,S1,ρ,rep1,re.later rep e1,ak (ah c1) fun xs R S2 O e2 rep2 U vs T=>?_⟩;exact ai U .refl rep2 _ (.cons (P.later rep1 e2) T)
theorem fE{x1}(h:SA X E es ms):SE X E (.Tuple es x1 pos) (fun ρ=>do let ds<-ms ρ;cF ds):=by
 refine PE.imp (AY h) fun σ H Q q=>?_;obtain⟨ι,S,ρ,rep,re,c⟩:=q;refine⟨ι,S,ρ,rep,re,ak (ah c) fun x U S1 T e1 rep1 c1 vs W=>?_⟩;obtain⟨Z,Y⟩:=gC c1 rep1 W;exact⟨LS Z fZ,Y⟩
theorem bC(h:SA X E es ms):SE X E (.List es pos) (fun ρ=>do let ds<-ms ρ;bh ds):=by
 refine PE.imp (Gh h) fun σ H Q q=>?_;obtain⟨ι,S,ρ,rep,re,c⟩:=q;refine⟨ι,S,ρ,rep,re,ak (ah c) fun x U S1 T e1 rep1 c1 vs W=>?_⟩;obtain⟨Z,Y⟩:=bo c1 rep1 W;exact⟨LS Z fZ,Y⟩
def jO(K:d_)(E:XD)(f:List D->M D)(r:List V->Hp->VK->Prop):Prop:=
 ∀ ι S H ds vs Q,Rep K ι H S->RelDs K ι H ds vs->cont K E (f ds) ι S H (jL K Q)->r vs H Q
theorem IU(Y:jO X.K E f r)(h:tM X.K E (fun ρ=>do let ds<-ms ρ;f ds) σ H Q):Kw r (KD X.K E ms) σ H Q:=by
 obtain⟨ι,S,ρ,rep,re,c⟩:=h;exact⟨ι,S,ρ,rep,re,ak (ah c) fun ds Z S1 U e1 rep1 c1 vs W=>Y Z S1 U ds vs Q rep1 W c1⟩
theorem gE{x:Str}{W:String}{f:List D->M D}{r:List V->Hp->VK->Prop}{p:Pos}(U:cR X (.builtin W) r)(R:jO X.K E f r)(O:Gl X x)(Q:X.mg x=none)(P:kS x=ar (.builtin W))(S:SA X E (e::es) ms)
  (T:x≠"__name__":=by decide) (Y:(x==("__debug__":Str))=false:=by decide) (N:eb (e::es) X.env=(dV,h9 e X.env)::eb es X.env:=by rfl) (Z:(nC pos (eb es X.env)).any (·.1)=false:=by rfl):
  SE X E (.Call (.Name x p) (e::es) [] pos) (fun ρ=>do let ds<-ms ρ;f ds):=
 PE.imp (iF U O Q P S T Y N Z) fun _ _ _ q=>IU R q
theorem rA(W:cR X (.type T) r)(R:jO X.K E f r)(O:Gl X x)(Q:X.mg x=none)(P:kS x=ar (.type T))(S:SA X E (e::es) ms)
  (U:x≠"__name__":=by decide) (Z:(x==("__debug__":Str))=false:=by decide) (N:eb (e::es) X.env=(dV,h9 e X.env)::eb es X.env:=by rfl) (Y:(nC pos (eb es X.env)).any (·.1)=false:=by rfl):
  SE X E (.Call (.Name x p) (e::es) [] pos) (fun ρ=>do let ds<-ms ρ;f ds):=
 PE.imp (iG W O Q P S U Z N Y) fun _ _ _ q=>IU R q
abbrev bx:XD:=fun _ _ _ _=>False
def Lq(K:d_)(F:List D->M D):Sp:=fun vs H Q _=>∃ ι S ds,Rep K ι H S/\RelDs K ι H ds vs/\cont K bx (F ds) ι S H (jL K Q)
def JV(K:d_)(E:XD)(f:D->List D->M D)(r:V->List V->Hp->VK->Prop):Prop:=
 ∀ ι S H d ds v vs Q,Rep K ι H S->RelD K ι H d v->RelDs K ι H ds vs->cont K E (f d ds) ι S H (jL K Q)->r v vs H Q
end
theorem eR{K:d_}{E:XD}{α:Type}{c:M α}{ι Z:List dt}{S:aA}{H X:Hp}{Q:α->List dt->aA->Hp->Prop}(h:cont K E c ι S H Q)(e:Ext ι H Z X):cont K E c Z S X Q:=by
 obtain⟨r,R,q,k⟩:=h;exact⟨r,R,q,fun Y U T rep2=>k Y U (e.trans T) rep2⟩
section
variable {X:Cx}{E:XD}{st:n3}{sts:List n3}{m n:cT}{e:Expr}{me:TM}{t:aF->M Bool}{pos:Pos}{g:lz}
def uu(o:Out)(n:cT):M Out:=match o with
 | .nx ρ=>n ρ
 | .ret d=>a_ (.ret d)
 | .bk ρ=>a_ (.bk ρ)
 | .ct ρ=>a_ (.ct ρ)
theorem cA:qJ X E [] (fun ρ=>a_ (.nx ρ)):=by
 refine oO.imp Du fun T σ H h=>?_;obtain⟨ι,S,ρ,rep,re,c⟩:=h;exact ai c .refl rep σ re
theorem aD(U:SS X E st m)(R:qJ X E sts n):qJ X E (st::sts) (fun ρ=>do let o<-m ρ;uu o n):=by
 refine oO.imp (oR U R) fun T σ H h=>?_;obtain⟨ι,S,ρ,rep,re,c⟩:=h;refine⟨ι,S,ρ,rep,re,ak (ah c) fun o Y S1 Q e1 rep1 c1=>?_⟩;cases o with
 |nx ρ'=>exact fun W Z=>⟨Y,S1,ρ',rep1,Z,c1⟩
 |ret d=>exact ai c1 .refl rep1
 |bk ρ'=>exact ai c1 .refl rep1
 |ct ρ'=>exact ai c1 .refl rep1
theorem aQ(Z:SS X E st m):qJ X E [st] m:=by
 refine oO.imp (sv Z) fun T σ H h=>h
theorem eL(Y:SE X E e me)(hs:k7 e none pos.line X.env=a_ false:=by rfl):SS X E (.Expr e pos) (fun ρ=>do let _<-me ρ;a_ (.nx ρ)):=by
 refine PS.imp (Dv Y hs) fun T σ H h=>?_;obtain⟨ι,S,ρ,rep,re,c⟩:=h;refine⟨ι,S,ρ,rep,re,ak (ah c) fun d Z S1 W e1 rep1 c1 v r=>?_⟩;exact ai c1 .refl rep1 σ (re.later rep e1)
theorem bc(Y:SE X E e me):SS X E (.Return (ar e) pos) (fun ρ=>do let d<-me ρ;a_ (.ret d)):=by
 refine PS.imp (FW Y) fun T σ H h=>?_;obtain⟨ι,S,ρ,rep,re,c⟩:=h;exact⟨ι,S,ρ,rep,re,ak (ah c) fun d Z S1 W e1 rep1 c1=>ai c1 .refl rep1⟩
theorem ef(W:SB X E e t)(Y:qJ X E a m)(U:qJ X E b n):SS X E (.If e a b pos) (fun ρ=>do let c<-t ρ;if c=c_ then m ρ else n ρ):=by
 refine PS.imp (Fg W Y U) fun T σ H h=>?_;obtain⟨ι,S,ρ,rep,re,c⟩:=h;refine⟨ι,S,ρ,rep,re,ak (ah c) fun k Z S1 R e1 rep1 c1=>?_⟩;cases k with
 |true=>exact⟨Z,S1,ρ,rep1,re.later rep e1,c1⟩
 |false=>exact⟨Z,S1,ρ,rep1,re.later rep e1,c1⟩
theorem aZ(i:Nat)(U:X.N.Nodup)(W:X.N[i]? =ar x:=by rfl)(Y:Loc X.env.scope x:=by first|exact z_ rfl|exact u2 rfl)(Z:X.fn x=c_\/X.env.scope.names.lookup x=ar .local:=by first|exact .inl rfl|exact .inr rfl|assumption):
  SG X E (.Name x pos) (fun d ρ=>a_ (ρ.set i (ar d))):=by
 refine PG.imp (Dw U W Y Z) fun v σ H Q h=>?_;obtain⟨ι,S,ρ,d,rep,re,r,c⟩:=h;exact ai c .refl rep _ (re.set r i)
def KF(K:d_)(E:XD)(m:List D->aF->M aF):FX:=fun vs σ H Q=>∃ ι S ρ ds,Rep K ι H S/\RelE K ι H ρ σ/\RelDs K ι H ds vs/\cont K E (m ds ρ) ι S H (fun ρ' ι' _ H'=>∀ σ',RelE K ι' H' ρ' σ'->Q σ' H')
def JW(X:Cx)(E:XD)(ts:List Expr)(m:List D->aF->M aF):Prop:=Dk X ts (KF X.K E m)
theorem Dk.imp{X:Cx}{e:List Expr}{t t':FX}(h:Dk X e t)(k:∀v σ H Q,t' v σ H Q->t v σ H Q):Dk X e t':=fun pins s σ H v u Q I r hw=>h pins s σ H v u Q I r (k v σ H Q hw)
def iK:List D->aF->M aF:=fun ds ρ=>match ds with
 |[]=>a_ ρ
 |_=>M.fail
def bX(g:lz)(gs:List D->aF->M aF):List D->aF->M aF:=fun ds ρ=>match ds with
 |d::r=>do let ρ1<-g d ρ;gs r ρ1
 |_=>M.fail
theorem i5:JW X E [] iK:=by
 refine Dk.imp Dx fun vs σ H Q h=>?_;obtain⟨ι,S,ρ,ds,rep,re,r,c⟩:=h;cases ds with
 |nil=>exact⟨r.nil_inv,ai c .refl rep σ re⟩
 |cons d ds=>exact(ag c).elim
theorem cG(U:SG X E e g)(R:JW X E es gs)(hs:(o_ (e::es) X.env).map (·.2)=P1 e X.env::(o_ es X.env).map (·.2):=by rfl):JW X E (e::es) (bX g gs):=by
 refine Dk.imp (AN U R hs) fun vs σ H Q h=>?_;obtain⟨ι,S,ρ,ds,rep,re,r,c⟩:=h;cases ds with
 |nil=>exact(ag c).elim
 |cons d ds=>
  obtain⟨v,ws,rfl,P,T⟩:=r.cons_inv;refine⟨v,ws,rfl,ι,S,ρ,d,rep,re,P,ak (ah c) fun Y W S1 N e1 rep1 c1 O Z=>?_⟩;exact⟨W,S1,Y,ds,rep1,Z,T.later rep e1,c1⟩
def ie(n:Nat)(gs:List D->aF->M aF):lz:=fun d ρ=>match d with
 | .tup ds=>if ds.length=n then gs ds ρ else M.fail
 |_=>M.fail
theorem kK{es:List Expr}{k:Nat}{n:Nat}{W:List D->aF->M aF}(T:X.calm=c_)(h:JW X E es W)(R:(o_ es X.env).length=n:=by rfl)(Z:(o_ es X.env).findIdx? (·.1)=none:=by rfl):
  SG X E (.Tuple es k pos) (ie n W):=by
 refine PG.imp (FZ T h R Z) fun v σ H Q q=>?_;obtain⟨ι,S,ρ,d,rep,re,r,c⟩:=q;cases d with
 |tup ds=>
  obtain⟨a,vs,rfl,U,Y⟩:=r.tup_inv;dsimp only[ie]at c;split at c
  ·next hl=>exact⟨a,vs,rfl,kG.of U,by rw[<-Y.length];exact hl,ι,S,ρ,ds,rep,re,Y,c⟩
  ·exact(ag c).elim
 |_=>exact(ag c).elim
theorem pC(P:SE X E e me)(Y:SG X E tg g)(hs:swapsWithSole [tg] e pos.line X.env=a_ false:=by rfl)(Q:swappedStores [tg] e X.env=a_ none:=by rfl)
  (W:(o_ [tg] X.env).map (·.2)=[P1 tg X.env]:=by rfl):SS X E (.Assign [tg] e pos) (fun ρ=>do let d<-me ρ;let ρ'<-g d ρ;a_ (.nx ρ')):=by
 refine PS.imp (F6 P Y hs Q W) fun T σ H h=>?_;obtain⟨ι,S,ρ,rep,re,c⟩:=h;refine⟨ι,S,ρ,rep,re,ak (ah c) fun d Z S1 N e1 rep1 c1 v r=>?_⟩;exact⟨Z,S1,ρ,d,rep1,re.later rep e1,r,ak (ah c1) fun ρ' R S2 O e2 rep2 U=>ai U .refl rep2⟩
theorem bu(i:Nat)(W:X.N.Nodup)(Q:SE X E e me)(R:X.N[i]? =ar x:=by rfl)(Y:Loc X.env.scope x:=by first|exact z_ rfl|exact u2 rfl)(hs:k7 e (ar (.Name x pos')) pos.line X.env=a_ false:=by rfl)
  (Z:X.fn x=c_\/X.env.scope.names.lookup x=ar .local:=by first|exact .inl rfl|exact .inr rfl|assumption):SS X E (.Assign [.Name x pos'] e pos) (fun ρ=>do let d<-me ρ;a_ (.nx (ρ.set i (ar d)))):=by
 refine PS.imp (AO W R Y Q hs Z) fun T σ H h=>?_;obtain⟨ι,S,ρ,rep,re,c⟩:=h;refine⟨ι,S,ρ,rep,re,ak (ah c) fun d U S1 P e1 rep1 c1 v r=>?_⟩;exact ai c1 .refl rep1 _ ((re.later rep e1).set r i)
def KG(K:d_)(E:XD)(f:D->D->D->M Unit)(r:FY):Prop:=
 ∀ ι S H d1 d2 d3 v1 v2 v3 Q,Rep K ι H S->RelD K ι H d1 v1->RelD K ι H d2 v2->RelD K ι H d3 v3->cont K E (f d1 d2 d3) ι S H (fun _ _ _ H'=>Q H')->r v1 v2 v3 H Q
def jP:D->D->D->M Unit:=fun o i v=>match o,i with
 | .lst k,.int j=>do
  let xs<-getL k
  match zd xs.length j with
  |some at'=>do let _<-kI k (xs.set at' v);a_ ()
  |none=>M.fail
 |_,_=>M.fail
inductive Chk where
 |none|some (k:Nat)|two (k j:Nat) (xs ys:List D)
structure Iter where
 items:List D
 chk:Chk
def Iter.okS(it:Iter)(S:aA):Prop:=match it.chk with
 | .none=>True
 | .some k=>S[k]? = .some it.items
 | .two k j xs ys=>S[k]? = .some xs/\S[j]? = .some ys
open Classical in
def fB(it:Iter):M Unit:=fun S=>if it.okS S then ar (.ok (),S)else none
def ir(K:d_)(it:Iter)(J:It)(ι:List dt)(H:Hp):Prop:=
 ∀ ι2 H2 S2,ExtN ι H ι2 H2->Rep K ι2 H2 S2->it.okS S2->∀i,(∀d,it.items[i]? =ar d->J.go i H2/\∀x H3,J.yld i H2 x H3->Ext ι2 H2 ι2 H3/\Rep K ι2 H3 S2/\RelD K ι2 H3 d x)/\(it.items.length<=i->J.stop i H2)
def HS(K:d_)(E:XD)(mi:aF->M Iter):TI:=fun σ H R=>∃ ι S ρ,Rep K ι H S/\RelE K ι H ρ σ/\cont K E (mi ρ) ι S H (fun it ι' _ H'=>∀J,ir K it J ι' H'->R J H')
def SI(X:Cx)(E:XD)(tg iter:Expr)(mi:aF->M Iter):Prop:=PI X tg iter (HS X.K E mi)
def hU(it:Iter)(g:lz)(b:cT):List D->aF->M Out
 |[],ρ=>do fB it;a_ (.nx ρ)
 |d::ds,ρ=>do
  fB it
  let ρ1<-g d ρ;let o<-b ρ1
  match o with
  | .nx ρ'=>hU it g b ds ρ'
  | .ct ρ'=>hU it g b ds ρ'
  | .bk ρ'=>a_ (.nx ρ')
  | .ret r=>a_ (.ret r)
theorem iL{K:d_}{ι:List dt}{S:aA}{H:Hp}{α:Type}{it:Iter}{f:Unit->M α}{Q:α->List dt->aA->Hp->Prop}(h:cont K E (fB it>>=f) ι S H Q)(Z:Rep K ι H S):it.okS S/\cont K E (f ()) ι S H Q:=by
 obtain⟨r,Y,e,k⟩:=ah h;unfold fB at e;split at e
 ·next ho=>cases e;exact⟨ho,k ι H .refl Z⟩
 ·cases e
theorem kL(hp:Qh (fc X.prog X.w) X.A X.env X.xe)(hc:X.calm=c_)(hi:SI X E tg iter mi)(k:SG X E tg g)(hb:qJ X E body b)
  (hs:∀x,hY iter X.env x=a_ x:=by intro _;rfl):SS X E (.For tg iter body [] pos) (fun ρ=>do let it<-mi ρ;hU it g b it.items ρ):=by
 refine PS.imp (F9 hp hc hi k hb hs) fun T σ H h=>?_;obtain⟨ι,S,ρ,rep,re,c⟩:=h;refine⟨ι,S,ρ,rep,re,ak (ah c) fun it U S1 z e1 rep1 c1 J p=>?_⟩;refine⟨fun i n P W=>∃ ι2 S2 ρ2,n=it.items.length - i/\i<=it.items.length/\Ext U z ι2 W/\Rep X.K ι2 W S2/\RelE X.K ι2 W ρ2 P/\cont X.K E (hU it g b (it.items.drop i) ρ2) ι2 S2 W (Dp X.K T),⟨_,U,S1,ρ,rfl,L6 _,.refl,rep1,re.later rep e1,c1⟩,?_⟩;rintro i n P W ⟨ι2,S2,ρ2,hn,hi',e2,rep2,re2,c2⟩;by_cases hlt:i<it.items.length
 ·have hd:it.items.drop i=it.items[i]::it.items.drop (i+1):=NZ hlt;rw[hd]at c2;have O:cont X.K E (do fB it;let ρ1<-g it.items[i] ρ2;let o<-b ρ1;match o with| .nx ρ'=>hU it g b (it.items.drop (i+1)) ρ'| .ct ρ'=>hU it g b (it.items.drop (i+1)) ρ'| .bk ρ'=>a_ (.nx ρ')| .ret r=>a_ (.ret r)) ι2 S2 W (Dp X.K T):=c2
  obtain⟨ok,s⟩:=iL O rep2;obtain⟨B,a0⟩:=p ι2 W S2 e2.n rep2 ok i;obtain⟨go,f⟩:=B it.items[i] (LG hlt);refine .inr ⟨go,fun R Y=>∃ ι3 S3 ρ3,Ext U z ι3 Y/\Rep X.K ι3 Y S3/\RelE X.K ι3 Y ρ3 R/\cont X.K E (hU it g b (it.items.drop (i+1)) ρ3) ι3 S3 Y (Dp X.K T),?_,fun x H3 hy=>?_⟩
  ·rintro R Y ⟨ι3,S3,ρ3,L,rep3,re3,q⟩;exact⟨_,by omega,ι3,S3,ρ3,rfl,hlt,L,rep3,re3,q⟩
  ·obtain⟨L,rep3,rd⟩:=f x H3 hy;refine⟨ι2,S2,ρ2,it.items[i],rep3,re2.later rep2 L,rd,ak (ah (eR s L)) fun y v a H4 e4 G q j C=>?_⟩;refine⟨v,a,y,G,C,ak (ah q) fun o Q l H5 e5 Z F=>?_⟩;have I:Ext U z Q H5:=e2.trans (L.trans (e4.trans e5));cases o with
   |nx ρ'=>exact fun u N=>⟨Q,l,ρ',I,Z,N,F⟩
   |ct ρ'=>exact fun u N=>⟨Q,l,ρ',I,Z,N,F⟩
   |bk ρ'=>exact ai F .refl Z
   |ret d=>exact ai F .refl Z
 ·have hd:it.items.drop i=[]:=Ov (by omega)
  rw[hd]at c2;have O:cont X.K E (do fB it;a_ (.nx ρ2)) ι2 S2 W (Dp X.K T):=c2
  obtain⟨ok,s⟩:=iL O rep2;exact .inl ⟨(p ι2 W S2 e2.n rep2 ok i).2 (by omega),ai s .refl rep2 P re2⟩
def jQ(t:aF->M Bool)(b:cT):Nat->aF->M Out
 |0,_=>M.fail
 | k+1,ρ=>do
  let c<-t ρ
  if c=c_ then do
   let o<-b ρ
   match o with
   | .nx ρ'=>jQ t b k ρ'
   | .ct ρ'=>jQ t b k ρ'
   | .bk ρ'=>a_ (.nx ρ')
   | .ret r=>a_ (.ret r)
  else a_ (.nx ρ)
theorem Bi(k:Nat)(C:Qh (fc X.prog X.w) X.A X.env X.xe)(B:SB X E e t)(z:qJ X E body b):SS X E (.While e body [] pos) (fun ρ=>jQ t b k ρ):=by
 refine PS.imp (AQ C B z) fun T σ H h=>?_;obtain⟨ι,S,ρ,rep,re,c⟩:=h;refine⟨fun n U O=>∃ ι2 S2 ρ2,Rep X.K ι2 O S2/\RelE X.K ι2 O ρ2 U/\cont X.K E (jQ t b n ρ2) ι2 S2 O (Dp X.K T),⟨k,ι,S,ρ,rep,re,c⟩,?_⟩;rintro n U O ⟨ι2,S2,ρ2,rep2,re2,c2⟩;cases n with
 |zero=>exact(ag c2).elim
 | succ n=>
  refine⟨ι2,S2,ρ2,rep2,re2,ak (ah c2) fun k N F y G rep3 I=>?_⟩;cases k with
  |false=>exact ai I .refl rep3 U (re2.later rep2 G)
  |true=>
   refine⟨fun W Y=>∃ ι2 S2 ρ2,Rep X.K ι2 Y S2/\RelE X.K ι2 Y ρ2 W/\cont X.K E (jQ t b n ρ2) ι2 S2 Y (Dp X.K T),fun W Y h=>⟨n,NA _,h⟩,?_⟩;refine⟨N,F,ρ2,rep3,re2.later rep2 G,ak (ah I) fun o Q J v x Z P=>?_⟩;cases o with
   |nx ρ'=>exact fun L R=>⟨Q,J,ρ',Z,R,P⟩
   |ct ρ'=>exact fun L R=>⟨Q,J,ρ',Z,R,P⟩
   |bk ρ'=>exact ai P .refl Z
   |ret d=>exact ai P .refl Z
end
def cH(H:Hp)(p:dt):Hp:=fun a=>if a=p then none else H a
theorem hide_ne{H:Hp}(h:a≠p):cH H p a=H a:=if_neg h
theorem kc:cH H p p=none:=if_pos rfl
theorem cg{H:Hp}(h:cH H p a=ar o):a≠p/\H a=ar o:=by
 by_cases e:a=p
 ·rw[e,kc]at h;cases h
 ·rw[hide_ne e]at h;exact⟨e,h⟩
theorem uw{H:Hp}(h:H p=ar o):upd (cH H p) p o=H:=by
 funext a;by_cases e:a=p
 ·rw[e,aM,h]
 ·rw[aB e,hide_ne e]
theorem dJ:cH (upd H p o) p=cH H p:=by
 funext a;by_cases e:a=p
 ·rw[e,kc,kc]
 ·rw[hide_ne e,hide_ne e,aB e]
theorem gF{H:Hp}(h:H p=none):cH H p=H:=by
 funext a;by_cases e:a=p
 ·rw[e,kc,h]
 ·rw[hide_ne e]
section
variable {K:d_}{ι ι':List dt}{H H':Hp}{S:aA}{p:dt}
mutual
theorem RelD.hide(Z:H p=ar (.lst ws)):∀{d:D} {v:V},RelD K ι H d v->RelD K ι (cH H p) d v
 |_,_,.non=>.non
 |_,_,.bl b=>.bl b
 |_,_,.int i=>.int i
 |_,_,.str x=>.str x
 |_,_,.tup h hs=>.tup (by rw[hide_ne (fun z=>by rw[z,Z]at h;cases h)];exact h) (RelDs.hide Z hs)
 |_,_,.lst h=>.lst h
 |_,_,.ro h hs=>.ro (h.imp (fun⟨o,h⟩=>⟨o,by rw[hide_ne (fun z=>by rw[z,Z]at h;cases h)];exact h⟩) fun z=>z) (RelDs.hide Z hs)
 |_,_,.emp h=>.emp (by rw[hide_ne (fun z=>by rw[z,Z]at h;cases h)];exact h)
 |_,_,.fn h hs=>.fn (by rw[hide_ne (fun z=>by rw[z,Z]at h;cases h)];exact h) (RelDs.hide Z hs)
 |_,_,.exc n h=>.exc n (by rw[hide_ne (fun z=>by rw[z,Z]at h;cases h)];exact h)
 |_,_,.excF n h h2 hn hs=>.excF n (by rw[hide_ne (fun z=>by rw[z,Z]at h;cases h)];exact h) (by rw[hide_ne (fun z=>by rw[z,Z]at h2;cases h2)];exact h2) hn (RelDs.hide Z hs)
 |_,_,.fz h hs=>.fz (by rw[hide_ne (fun z=>by rw[z,Z]at h;cases h)];exact h) (RelDs.hide Z hs)
theorem RelDs.hide(Z:H p=ar (.lst ws)):∀{ds:List D} {vs:List V},RelDs K ι H ds vs->RelDs K ι (cH H p) ds vs
 |_,_,.nil=>.nil
 |_,_,.cons h hs=>.cons (RelD.hide Z h) (RelDs.hide Z hs)
end
mutual
theorem RelD.unhide:∀{d:D} {v:V},RelD K ι (cH H p) d v->RelD K ι H d v
 |_,_,.non=>.non
 |_,_,.bl b=>.bl b
 |_,_,.int i=>.int i
 |_,_,.str x=>.str x
 |_,_,.tup h hs=>.tup (cg h).2 (RelDs.unhide hs)
 |_,_,.lst h=>.lst h
 |_,_,.ro h hs=>.ro (h.imp (fun⟨o,h⟩=>⟨o,(cg h).2⟩) fun z=>z) (RelDs.unhide hs)
 |_,_,.emp h=>.emp (cg h).2
 |_,_,.fn h hs=>.fn (cg h).2 (RelDs.unhide hs)
 |_,_,.exc n h=>.exc n (cg h).2
 |_,_,.excF n h h2 hn hs=>.excF n (cg h).2 (cg h2).2 hn (RelDs.unhide hs)
 |_,_,.fz h hs=>.fz (cg h).2 (RelDs.unhide hs)
theorem RelDs.unhide:∀{ds:List D} {vs:List V},RelDs K ι (cH H p) ds vs->RelDs K ι H ds vs
 |_,_,.nil=>.nil
 |_,_,.cons h hs=>.cons (RelD.unhide h) (RelDs.unhide hs)
end
theorem RelE.hide(Z:H p=ar (.lst ws)):∀{ρ:aF} {σ:St},RelE K ι H ρ σ->RelE K ι (cH H p) ρ σ
 |_,_,.nil=>.nil
 |_,_,.cons h t=>.cons (fun d z=>let ⟨v,e1,e2⟩:=h d z;⟨v,e1,e2.hide Z⟩) (RelE.hide Z t)
theorem RelE.unhide:∀{ρ:aF} {σ:St},RelE K ι (cH H p) ρ σ->RelE K ι H ρ σ
 |_,_,.nil=>.nil
 |_,_,.cons h t=>.cons (fun d z=>let ⟨v,e1,e2⟩:=h d z;⟨v,e1,e2.unhide⟩) (RelE.unhide t)
theorem Rep.hide(Z:H p=ar (.lst ws))(Y:p∉ι)(r:Rep K ι H S):Rep K ι (cH H p) S:=
 ⟨r.nd,r.len,fun k a xs e1 e2=>let ⟨vs,h1,h2⟩:=r.get k a xs e1 e2;⟨vs,by rw[hide_ne (fun z=>Y (by rw[<-z];exact Mf e1))];exact h1,h2.hide Z⟩,r.tab.mono fun b o h n=>by rw[hide_ne (fun z=>by subst z;rw[h]at Z;exact n ws (L5 Z))];exact h⟩
theorem Rep.unhide(r:Rep K ι (cH H p) S):Rep K ι H S:=
 ⟨r.nd,r.len,fun k a xs e1 e2=>let ⟨vs,h1,h2⟩:=r.get k a xs e1 e2;⟨vs,(cg h1).2,h2.unhide⟩,r.tab.mono fun b o h _=>(cg h).2⟩
theorem Ext.hide(e:Ext ι H ι' H'):Ext ι (cH H p) ι' (cH H' p):=
 ⟨e.ids,fun a o h n t=>by
  obtain⟨X,U⟩:=cg h;obtain⟨Y,Z⟩:=e.oth a o U n t;exact⟨by rw[hide_ne X];exact Y,Z⟩⟩
theorem Ext.unhide(e:Ext ι H ι' (cH H' p)):Ext ι H ι' H':=
 ⟨e.ids,fun a o h n t=>by
  obtain⟨Y,Z⟩:=e.oth a o h n t;exact⟨(cg Y).2,Z⟩⟩
theorem fF{E:XD}{α:Type}{c:M α}{Y:List V}{Q:α->List dt->aA->Hp->Prop}(h:cont K bx c ι S (cH H p) Q)(T:H p=ar (.lst Y))(R:p∉ι):
  cont K E c ι S H (fun a ι' Z H'=>H' p=ar (.lst Y)/\p∉ι'/\Q a ι' Z (cH H' p)):=by
 obtain⟨r,Z,e,k⟩:=h;refine⟨r,Z,e,fun ι' H' x rep=>?_⟩;obtain⟨X,U⟩:=x.oth p _ T R (by intro _ z;cases z)
 have:=k ι' (cH H' p) x.hide (rep.hide X U);cases r with
 |ok a=>exact⟨X,U,this⟩
 |ex y=>exact this.elim
end
def gi(js:List (Option Nat))(ρ:aF):aF:=js.map fun o=>o.bind fun j=>(ρ[j]?).join
theorem RelE.blk{K:d_}{ι:List dt}{H:Hp}{ρ:aF}{Y:St}(X:RelE K ι H ρ Y):∀js:List (Option Nat),RelE K ι H (gi js ρ) (mH js Y)
 |[]=>.nil
 |none::js=>.cons (fun d z=>by cases z) (RelE.blk X js)
 | some j::js=>.cons (fun d z=>by
   have Z:(ρ[j]?).join=ar d:=z;have:ρ[j]? =ar (ar d):=by
    cases q:ρ[j]? with
    |none=>rw[q]at Z;cases Z
    |some o=>rw[q]at Z;exact OE ar Z
   obtain⟨v,e1,e2⟩:=X.get this;refine⟨v,?_,e2⟩;show(Y[j]?).join=ar v;rw[e1];rfl) (RelE.blk X js)
def bL(it:Iter)(g:lz)(t:aF->M Bool)(m:TM):List D->aF->M (List D)
 |[],ρ=>do fB it;a_ []
 | d::ds,ρ=>do
  fB it
  let ρ1<-g d ρ;let b<-t ρ1
  if b=c_ then do
   let y<-m ρ1;let ys<-bL it g t m ds ρ1
   a_ (y::ys)
  else bL it g t m ds ρ1
def dE(it:Iter)(g:lz)(t:aF->M Bool)(m:TM)(ρ:aF):M (List D):=if it.items.length<=lim then bL it g t m it.items ρ else M.fail
def Gy(X:Cx)(E:XD)(ifs:List Expr)(t:aF->M Bool):Prop:=Dn X ifs (vV X.K E t)
theorem fL:Gy X E [] (fun _=>a_ c_):=fun pins s σ H Q I h=>DK pins s σ H Q I (by
 obtain⟨ι,S,ρ,rep,re,c⟩:=h;exact ai c .refl rep)
theorem gj(h:SB X E c t):Gy X E [c] t:=DL h
section
variable {X:Cx}{scope:Scope}{Nc:List Str}{js:List (Option Nat)}{elt tg iter:Expr}{ifs:List Expr}{pos:Pos}{mi:aF->M Iter}{g:lz}{t:aF->M Bool}{m:TM}
theorem bQ{α Z Y:Type}(c:M α)(f:α->M Z)(h:Z->M Y):((c>>=f)>>=h)=(c>>=fun a=>f a>>=h):=by
 funext S;show M.bnd (M.bnd c f) h S=M.bnd c (fun a=>M.bnd (f a) h) S;unfold M.bnd;cases c S with
 |none=>rfl
 |some r=>
  obtain⟨r,W⟩:=r;cases r<;>rfl
theorem aj{α Z:Type}(a:α)(f:α->M Z):(a_ a>>=f)=f a:=rfl
theorem xO{α Z:Type}{c:Prop} [Decidable c](x y:M α)(f:α->M Z):((if c then x else y)>>=f)=if c then x>>=f else y>>=f:=by split<;>rfl
abbrev IV(js:List (Option Nat))(g:TG)(tt:TT)(te:TE)(σ:St)(Q:VK):It->Hp->Prop:=fun J H1=>∀p,H1 p=none->
 ∃W:Nat->Nat->St->Hp->Prop,(∃m,W 0 m (mH js σ) (upd H1 p (.lst [])))/\∀i m σc Hc,W i m σc Hc->
  (J.stop i Hc/\Q (.ref p) Hc)\/(J.go i Hc/\∃N:St->Hp->Prop,(∀ σ' H',N σ' H'->∃m',m'<m/\W (i+1) m' σ' H')/\∀x H',J.yld i Hc x H'->g x σc H' fun σ2 H2=>tt σ2 H2 fun b H3=>
   if b=c_ then te σ2 H3 fun y H4=>∃xs,H4 p=ar (.lst xs)/\xs.length<sizeLine/\N σ2 (upd H4 p (.lst (xs++[y])))else N σ2 H3)
theorem pD{Q:VK}{o:St}{H:Hp}{ι:List dt}{S:aA}{ρ:aF}(s:Rep X.K ι H S)(re:RelE X.K ι H ρ o)(c:cont X.K bx (do let it<-mi ρ;let ys<-dE it g t m (gi js ρ);bh ys) ι S H (jL X.K Q)):
  cont X.K bx (mi ρ) ι S H (fun it Y _ T=>∀J,ir X.K it J Y T->IV js (zq X.K bx g) (vV X.K bx t) (tM X.K bx m) o Q J T):=by
 refine ak (ah c) fun it Y S1 T e1 rep1 c1 J a p w=>?_;have e:it.items.length<=lim/\cont X.K bx (bL it g t m it.items (gi js ρ)>>=fun ys=>bh ys) Y S1 T (jL X.K Q):=by
  have U:cont X.K bx ((if it.items.length<=lim then bL it g t m it.items (gi js ρ)else M.fail)>>=fun ys=>bh ys) Y S1 T (jL X.K Q):=c1;by_cases h:it.items.length<=lim
  ·rw[if_pos h]at U;exact⟨h,U⟩
  ·rw[if_neg h]at U;exact(ag (ah U)).elim
 obtain⟨hlen,c1⟩:=e;have j:RelE X.K Y T (gi js ρ) (mH js o):=(re.later s e1).blk js;refine⟨fun i n F W=>∃ ι2 S2 ρ2 xs vs,n=it.items.length - i/\i<=it.items.length/\Ext Y T ι2 (cH W p)/\Rep X.K ι2 (cH W p) S2/\RelE X.K ι2 (cH W p) ρ2 F/\W p=ar (.lst vs)/\p∉ι2/\RelDs X.K ι2 (cH W p) xs vs/\xs.length<=i/\
  cont X.K bx (bL it g t m (it.items.drop i) ρ2>>=fun ys=>bh (xs++ys)) ι2 S2 (cH W p) (jL X.K Q),⟨_,Y,S1,gi js ρ,[],[],rfl,L6 _,?_,?_,?_,aM,rep1.free w,.nil,L6 _,?_⟩,?_⟩
 ·rw[dJ,gF w];exact .refl
 ·rw[dJ,gF w];exact rep1
 ·rw[dJ,gF w];exact j
 ·rw[dJ,gF w];exact c1
 rintro i n F W ⟨ι2,S2,ρ2,xs,vs,hn,hi',e2,rep2,re2,hpc,hpn,rx,hlim,c2⟩;by_cases hlt:i<it.items.length
 ·have hd:it.items.drop i=it.items[i]::it.items.drop (i+1):=NZ hlt;rw[hd]at c2;have I:cont X.K bx (fB it>>=fun _=>g it.items[i] ρ2>>=fun Z=>t Z>>=fun b=>if b=c_ then m Z>>=fun y=>bL it g t m (it.items.drop (i+1)) Z>>=fun ys=>bh (xs++y::ys)else bL it g t m (it.items.drop (i+1)) Z>>=fun ys=>bh (xs++ys)) ι2 S2 (cH W p) (jL X.K Q):=by
   have:(bL it g t m (it.items[i]::it.items.drop (i+1)) ρ2>>=fun ys=>bh (xs++ys))=(fB it>>=fun _=>g it.items[i] ρ2>>=fun Z=>t Z>>=fun b=>if b=c_ then m Z>>=fun y=>bL it g t m (it.items.drop (i+1)) Z>>=fun ys=>bh (xs++y::ys)else bL it g t m (it.items.drop (i+1)) Z>>=fun ys=>bh (xs++ys)):=by
    show((fB it>>=fun _=>g it.items[i] ρ2>>=fun Z=>t Z>>=fun b=>if b=c_ then m Z>>=fun y=>bL it g t m (it.items.drop (i+1)) Z>>=fun ys=>a_ (y::ys)else bL it g t m (it.items.drop (i+1)) Z)>>=fun ys=>bh (xs++ys))=_;simp only[bQ,xO,aj]
   rw[<-this];exact c2
  obtain⟨ok,u⟩:=iL I rep2;obtain⟨r,a3⟩:=a ι2 W S2 e2.unhide.n rep2.unhide ok i;obtain⟨go,yl⟩:=r it.items[i] (LG hlt);refine .inr ⟨go,fun A O=>∃ ι3 S3 ρ3 xs3 vs3,Ext Y T ι3 (cH O p)/\Rep X.K ι3 (cH O p) S3/\RelE X.K ι3 (cH O p) ρ3 A/\O p=ar (.lst vs3)/\p∉ι3/\RelDs X.K ι3 (cH O p) xs3 vs3/\xs3.length<=i+1/\
   cont X.K bx (bL it g t m (it.items.drop (i+1)) ρ3>>=fun ys=>bh (xs3++ys)) ι3 S3 (cH O p) (jL X.K Q),?_,fun x d hy=>?_⟩
  ·rintro A O ⟨ι3,S3,ρ3,xs3,vs3,h1,h2,h3,h4,h5,h6,h7,h8⟩;exact⟨_,by omega,ι3,S3,ρ3,xs3,vs3,rfl,hlt,h1,h2,h3,h4,h5,h6,h7,h8⟩
  ·obtain⟨k,rep3,rd⟩:=yl x d hy;obtain⟨f,_⟩:=k.oth p _ hpc hpn (by intro _ z;cases z)
   have C:Ext ι2 (cH W p) ι2 (cH d p):=k.hide;have c4:=ah (eR u C);refine⟨ι2,S2,ρ2,it.items[i],rep3,re2.unhide.later rep2.unhide k,rd,ak (fF (E:=bx) c4 f hpn) fun ρ4 ι4 S4 H4 e4 rep4 ⟨hp4,hn4,c5⟩ σ4 re4=>?_⟩;have q:Rep X.K ι4 (cH H4 p) S4:=rep4.hide hp4 hn4;have l:Ext ι2 (cH W p) ι4 (cH H4 p):=C.trans e4.hide;refine⟨ι4,S4,ρ4,rep4,re4,ak (fF (E:=bx) (ah c5) hp4 hn4) fun b ι5 S5 H5 e5 rep5 ⟨hp5,hn5,c6⟩=>?_⟩;have N:Rep X.K ι5 (cH H5 p) S5:=rep5.hide hp5 hn5;have R:Ext ι2 (cH W p) ι5 (cH H5 p):=l.trans e5.hide;have G:RelE X.K ι5 H5 ρ4 σ4:=re4.later rep4 e5;cases b with
   |false=>
    have P:cont X.K bx (bL it g t m (it.items.drop (i+1)) ρ4>>=fun ys=>bh (xs++ys)) ι5 S5 (cH H5 p) (jL X.K Q):=c6;exact⟨ι5,S5,ρ4,xs,vs,e2.trans R,N,G.hide hp5,hp5,hn5,rx.later rep2 R,by omega,P⟩
   |true=>
    have P:cont X.K bx (m ρ4>>=fun y=>bL it g t m (it.items.drop (i+1)) ρ4>>=fun ys=>bh (xs++y::ys)) ι5 S5 (cH H5 p) (jL X.K Q):=c6;refine⟨ι5,S5,ρ4,rep5,G,ak (fF (E:=bx) (ah P) hp5 hn5) fun y ι6 S6 H6 e6 rep6 ⟨hp6,hn6,c7⟩ yv ry=>?_⟩;have v:Ext ι2 (cH W p) ι6 (cH H6 p):=R.trans e6.hide;have L:Rep X.K ι6 (cH H6 p) S6:=rep6.hide hp6 hn6;have B:=rx.later rep2 v;have hl:vs.length<sizeLine:=by rw[<-B.length];exact Nk (by omega) Bd
    refine⟨vs,hp6,hl,ι6,S6,ρ4,xs++[y],vs++[yv],?_⟩;rw[dJ];refine⟨e2.trans v,L,(G.later rep5 e6).hide hp6,aM,hn6,B.append (.cons (ry.hide hp6) .nil),by simp;omega,by simpa using c7⟩
 ·have hd:it.items.drop i=[]:=Ov (by omega)
  rw[hd]at c2;have I:cont X.K bx (fB it>>=fun _=>bh (xs++[])) ι2 S2 (cH W p) (jL X.K Q):=by
   have:(bL it g t m [] ρ2>>=fun ys=>bh (xs++ys))=(fB it>>=fun _=>bh (xs++[])):=by
    show((fB it>>=fun _=>a_ [])>>=fun ys=>bh (xs++ys))=_;simp only[bQ,aj]
   rw[<-this];exact c2
  obtain⟨ok,u⟩:=iL I rep2;rw[Mt]at u;refine .inl ⟨(a ι2 W S2 e2.unhide.n rep2.unhide ok i).2 (by omega),?_⟩
  have:=(bo u rep2 rx).2 p kc;rw[uw hpc]at this;exact this
theorem ux(h:tM X.K bx (fun ρ=>do let it<-mi ρ;let ys<-dE it g t m (gi js ρ);bh ys) σ H Q):
  xM (HS X.K bx mi) js (zq X.K bx g) (vV X.K bx t) (tM X.K bx m) σ H Q:=
 let ⟨ι,S,ρ,rep,re,c⟩:=h
 ⟨ι,S,ρ,rep,re,pD rep re c⟩
theorem dF(c:CompScope X scope Nc js)(Y:X.calm=c_)(W:SI X bx tg iter mi)
  (Z:∀C ex s H,SG (aH X scope Nc C ex s H) bx tg g/\Gy (aH X scope Nc C ex s H) bx ifs t/\SE (aH X scope Nc C ex s H) bx elt m)
  (hs:∀x,hY iter X.env x=a_ x:=by intro _;rfl):SE X bx (.ListComp elt [⟨tg,iter,ifs,0⟩] scope pos) (fun ρ=>do let it<-mi ρ;let ys<-dE it g t m (gi js ρ);bh ys):=
 PE.imp (xN (g:=zq X.K bx g) (tt:=vV X.K bx t) (te:=tM X.K bx m) c Y W Z hs) fun _ _ _ q=>ux q
theorem wt(i:Nat)(Q:X.N.Nodup)(c:CompScope X scope Nc js)(P:X.calm=c_)(L:SI X bx tg iter mi)
  (Z:∀C ex s H,SG (aH X scope Nc C ex s H) bx tg g/\Gy (aH X scope Nc C ex s H) bx ifs t/\SE (aH X scope Nc C ex s H) bx elt m)
  (Y:X.N[i]? =ar x:=by rfl) (R:Loc X.env.scope x:=by first|exact z_ rfl|exact u2 rfl)
  (W:k7 (.ListComp elt [⟨tg,iter,ifs,0⟩] scope cpos) (ar (.Name x pos')) pos.line X.env=a_ true:=by rfl)
  (U:X.fn x=c_\/X.env.scope.names.lookup x=ar .local:=by first|exact .inl rfl|exact .inr rfl|assumption)
  (hs:∀x,hY iter X.env x=a_ x:=by intro _;rfl):SS X bx (.Assign [.Name x pos'] (.ListComp elt [⟨tg,iter,ifs,0⟩] scope cpos) pos)
   (fun ρ=>do let d<-(do let it<-mi ρ;let ys<-dE it g t m (gi js ρ);bh ys);a_ (.nx (ρ.set i (ar d)))):=by
 refine PS.imp (wo (g:=zq X.K bx g) (tt:=vV X.K bx t) (te:=tM X.K bx m) Q Y R c P L Z W U hs) fun T σ H h=>?_;obtain⟨ι,S,ρ,rep,re,c⟩:=h;refine ux ⟨ι,S,ρ,rep,re,ak (ah c) fun d O S1 J e1 rep1 c1 v r=>?_⟩;exact ai c1 .refl rep1 _ ((re.later rep e1).set r i)
end
section
variable {P:e_}{w:f'}{K:d_}{mg:Str->Option aC}{base:gd}
def outD:Out->M D
 | .nx _=>a_ .non
 | .ret d=>a_ d
 |_=>M.fail
def oj(N n:Nat)(m:cT):List D->M D:=fun ds=>if ds.length=n then do let o<-m (ds.map ar++eo (N - n) none);outD o else M.fail
end
def qK(f:Int->Int->M D):D->D->M D
 | .int i,.int j=>f i j
 |_,_=>M.fail
theorem kd{K:d_}{E:XD}{g:Int->Int->V}{f:Int->Int->D}(T:∀ ι H i j,RelD K ι H (f i j) (g i j)):rz K E (qK fun i j=>a_ (f i j)) (Dl g):=by
 intro ι S H U Y v1 v2 Q rep X Z c;cases U<;>cases Y<;>first
  |exact(ag c).elim
  |exact⟨_,_,X.int_inv,Z.int_inv,ai c .refl rep _ (T _ _ _ _)⟩
theorem lB{K:d_}{E:XD}{C:Int->Int->Prop} [∀i j,Decidable (C i j)]{g:Int->Int->V}{f:Int->Int->D}(R:∀ ι H i j,RelD K ι H (f i j) (g i j)):rz K E (qK fun i j=>if C i j then a_ (f i j)else M.fail) (rI C g):=by
 intro ι S H T X v1 v2 Q rep U Y c;cases T<;>cases X<;>first
  |exact(ag c).elim
  | (next i j=>
    have Z:cont K E (if C i j then a_ (f i j)else M.fail) ι S H (jL K Q):=c;by_cases h:C i j
    ·rw[if_pos h]at Z;exact⟨_,_,U.int_inv,Y.int_inv,h,ai Z .refl rep _ (R _ _ _ _)⟩
    ·rw[if_neg h]at Z;exact(ag Z).elim)
def gk:D->D->M D:=qK fun i j=>a_ (.int (i - j))
instance:∀i j,Decidable (sx i j):=fun i j=>inferInstanceAs (Decidable (_\/_))
instance:∀i j,Decidable (v5 i j):=fun i j=>inferInstanceAs (Decidable (_/\_))
instance:∀i j,Decidable (AS i j):=fun i j=>inferInstanceAs (Decidable (_/\_))
def nY:D->D->M D:=qK fun i j=>if sx i j then a_ (.int (i*j))else M.fail
def jR:D->D->M D:=qK fun i j=>if v5 i j then a_ (.int (i / j))else M.fail
def kM:D->D->M D:=qK fun i j=>if 0<j then a_ (.int (i % j))else M.fail
def uy:D->D->M D:=qK fun i j=>if AS i j then a_ (.int (i ^ j.toNat))else M.fail
def cI:D->D->M D
 | .int i,.int j=>a_ (.int (i+j))
 | .tup xs,.tup ys=>cF (xs++ys)
 | .lst a,.lst b=>do let xs<-getL a;let ys<-getL b;bh (xs++ys)
 | .lst a,.fz ys=>do let xs<-getL a;bh (xs++ys)
 | .fz xs,.lst b=>do let ys<-getL b;bh (xs++ys)
 | .fz xs,.fz ys=>bh (xs++ys)
 |_,_=>M.fail
def Gz:D->D->M D:=qK fun i j=>a_ (.bl (decide (i<=j)))
def xP:D->D->M D:=qK fun i j=>a_ (.bl (decide (j<i)))
def KI:D->D->M D:=qK fun i j=>a_ (.bl (decide (j<=i)))
section
variable {X:Cx}{E:XD}{a b e c:Expr}{m n l:TM}{pos:Pos}
theorem jS(Z:SE X E a m)(Y:SE X E b n):SE X E (.BinOp a .Sub b pos) (fun ρ=>do let x<-m ρ;let y<-n ρ;gk x y):=pB Gc (kd fun _ _ _ _=>.int _) Z Y
theorem mM(Z:SE X E a m)(Y:SE X E b n):SE X E (.BinOp a .Mult b pos) (fun ρ=>do let x<-m ρ;let y<-n ρ;nY x y):=pB Gd (lB fun _ _ _ _=>.int _) Z Y
theorem om(Z:SE X E a m)(Y:SE X E b n):SE X E (.BinOp a .FloorDiv b pos) (fun ρ=>do let x<-m ρ;let y<-n ρ;jR x y):=pB Dz (lB fun _ _ _ _=>.int _) Z Y
theorem jT(Z:SE X E a m)(Y:SE X E b n):SE X E (.BinOp a .Mod b pos) (fun ρ=>do let x<-m ρ;let y<-n ρ;kM x y):=pB Ge (lB (C:=fun _ j=>0<j) fun _ _ _ _=>.int _) Z Y
theorem wu(Z:SE X E a m)(Y:SE X E b n):SE X E (.BinOp a .Pow b pos) (fun ρ=>do let x<-m ρ;let y<-n ρ;uy x y):=pB Gf (lB fun _ _ _ _=>.int _) Z Y
theorem Bj:iU X (r_ .Add) (fun x y H Q=>∃a b ys,x= .ref a/\y= .ref b/\kG X.K H a []/\kG X.K H b ys/\Q (.ref b) H):=by
 intro pins s σ H x y v u Q I O B h;obtain⟨a,b,ys,rfl,rfl,N,A,q⟩:=h;cases O;cases B;obtain⟨its,G,L,_⟩:=I.tuple N;obtain⟨Z,z,J,_⟩:=I.tuple A;cases G;obtain⟨⟨cls,dd,data,F⟩,P,R,n,hd⟩:=id L;obtain⟨⟨S,T,data2,U⟩,Y,W,C,hd2⟩:=id J;simp only at R hd W hd2;subst R hd W hd2;exact Qy ⟨_,P,rfl⟩ ⟨_,Y,rfl⟩ Py Ql Ou Oh (Ob _ _)
  (tuple_addW0 a b #[] Z.toArray n C dd T F U (by simp)) ⟨P,Y,⟨.ref b,H,I,rfl,q⟩⟩
theorem Inv.lstR{X:Cx}{Z:List (dt×Obj)}{Y:L2.St}{H:Hp}{s:b_}{l:dt}{xs:List V}(I:L2.Inv X Z Y H s)(W:Rd H l (.lst xs)):xs.length<=sizeLine/\∃(its:List aC) (n:Nat),bb xs its/\xs.length=its.length/\s.heap.get? l=ar {cls:=.type "list",data:=.seq its.toArray n}:=by
 obtain⟨z,its,n,r,e⟩:=W.ok I.hok;exact⟨z,its,n,r,r.length,e⟩
def IW:R2:=fun x y H Q=>∃l b xs zs,x= .ref l/\y= .ref b/\Rd H l (.lst xs)/\Rd H b (.lst zs)/\xs.length+zs.length<=sizeLine/\∀p,H p=none->Q (.ref p) (upd H p (.lst (xs++zs)))
theorem DP:iU X (r_ .Add) IW:=by
 intro pins s σ H x y v u Q I W U h;obtain⟨l,b,xs,zs,rfl,rfl,O,Y,N,q⟩:=h;cases W;cases U;obtain⟨z,its,n,r,J,e⟩:=Inv.lstR I O;obtain⟨K,Z,L,T,R,e2⟩:=Inv.lstR I Y;refine PySem.P.add_list e e2 ?_ (by rw[LR,LR];omega)
 have S:its.toArray++Z.toArray=(its++Z).toArray:=by simp
 rw[S];exact⟨.ref _,_,I.lnew (t':=s.toks) (r.append T) (by rw[LL];omega),rfl,q _ I.fresh⟩
theorem dM(G:SE X E a m)(B:SE X E b n):SE X E (.BinOp a .Add b pos) (fun ρ=>do let x<-m ρ;let y<-n ρ;cI x y):=by
 refine pB (Gb.or (DG.or (Bj.or DP))) ?_ G B;intro ι S H C F v1 v2 Q rep O P c;cases C<;>cases F<;>first
  |exact(ag c).elim
  |exact .inl ⟨_,_,O.int_inv,P.int_inv,ai c .refl rep _ (.int _)⟩
  | (next xs ys=>
    obtain⟨p,vs,rfl,W,L⟩:=O.tup_inv;obtain⟨q,ws,rfl,U,I⟩:=P.tup_inv;obtain⟨Y,T⟩:=gC c rep (L.append I);rw[LL]at Y;cases vs with
    |nil=>
     refine .inr (.inr (.inl ⟨p,q,ws,rfl,rfl,.of W,.of U,?_⟩));exact i4 c rep U (L.append I)
    |cons v vs=>
     refine .inr (.inl ⟨p,q,v::vs,ws,rfl,rfl,.of W,.of U,by simp,LS Y fZ,fun z=>?_,fun _=>T⟩)
     subst z;have:=L.append I;rw[Mt]at this;exact i4 c rep W this)
  | (next j k=>
    obtain⟨p,rfl,W⟩:=O.lst_inv;obtain⟨q,rfl,U⟩:=P.lst_inv;obtain⟨ds,vs,_,N,R,c1⟩:=a9 c rep W;obtain⟨es,ws,_,hw,Z,J⟩:=a9 c1 rep U;obtain⟨Y,T⟩:=bo J rep (R.append Z);rw[LL]at Y;exact .inr (.inr (.inr ⟨p,q,vs,ws,rfl,rfl,.inl N,.inl hw,LS Y fZ,T⟩)))
  | (next j ys=>
    obtain⟨p,rfl,W⟩:=O.lst_inv;obtain⟨q,o2,ws,rfl,U,Z⟩:=P.fz_inv;obtain⟨ds,vs,_,N,R,c1⟩:=a9 c rep W;obtain⟨Y,T⟩:=bo c1 rep (R.append Z);rw[LL]at Y;exact .inr (.inr (.inr ⟨p,q,vs,ws,rfl,rfl,.inl N,.inr ⟨o2,U⟩,LS Y fZ,T⟩)))
  | (next xs k=>
    obtain⟨p,K,vs,rfl,W,R⟩:=O.fz_inv;obtain⟨q,rfl,U⟩:=P.lst_inv;obtain⟨es,ws,_,hw,Z,J⟩:=a9 c rep U;obtain⟨Y,T⟩:=bo J rep (R.append Z);rw[LL]at Y;exact .inr (.inr (.inr ⟨p,q,vs,ws,rfl,rfl,.inr ⟨K,W⟩,.inl hw,LS Y fZ,T⟩)))
  | (next xs ys=>
    obtain⟨p,K,vs,rfl,W,R⟩:=O.fz_inv;obtain⟨q,o2,ws,rfl,U,Z⟩:=P.fz_inv;obtain⟨Y,T⟩:=bo c rep (R.append Z);rw[LL]at Y;exact .inr (.inr (.inr ⟨p,q,vs,ws,rfl,rfl,.inr ⟨K,W⟩,.inr ⟨o2,U⟩,LS Y fZ,T⟩)))
theorem xQ(Z:SE X E a m)(Y:SE X E b n):SB X E (.Compare a [.Gt] [b] pos) (fun ρ=>do let z<-(do let x<-m ρ;let y<-n ρ;xP x y);ku z):=mL ID (kd fun _ _ _ _=>.bl _) Z Y
theorem IX(Z:SE X E a m)(Y:SE X E b n):SB X E (.Compare a [.GtE] [b] pos) (fun ρ=>do let z<-(do let x<-m ρ;let y<-n ρ;KI x y);ku z):=mL IE (kd fun _ _ _ _=>.bl _) Z Y
def intsOf:List D->Option (List Int)
 |[]=>ar []
 | .int i::r=>(intsOf r).map (i::·)
 |_=>none
theorem dN{K:d_}{ι:List dt}{H:Hp}:∀{ds:List D} {vs:List V} {ns:List Int},RelDs K ι H ds vs->intsOf ds=ar ns->vs=ns.map V.int
 |[],vs,ns,h,e=>by cases e;rw[h.nil_inv];rfl
 | .int i::ds,vs,ns,h,e=>by
  obtain⟨v,ws,rfl,Z,Y⟩:=h.cons_inv;cases q:intsOf ds with
  |none=>simp[intsOf,q]at e
  |some ks=>
   simp[intsOf,q]at e;subst e;rw[Z.int_inv,dN Y q];rfl
 | .non::_,_,_,_,e=>by cases e
 | .bl _::_,_,_,_,e=>by cases e
 | .str _::_,_,_,_,e=>by cases e
 | .tup _::_,_,_,_,e=>by cases e
 | .lst _::_,_,_,_,e=>by cases e
 | .ro _::_,_,_,_,e=>by cases e
 | .fz _::_,_,_,_,e=>by cases e
 | .emp::_,_,_,_,e=>by cases e
def zw:D->D->M D
 | .int i,.int j=>a_ (.bl (decide (i<j)))
 | .tup xs,.tup ys=>match intsOf xs,intsOf ys with
  |some ns,ar ms=>a_ (.bl (HT.lexLt ns ms))
  |_,_=>M.fail
 |_,_=>M.fail
theorem wx:rz X.K E zw (fun x y H Q=>Dl (fun i j=>.bl (decide (i<j))) x y H Q\/IH X.K x y H Q):=by
 intro ι S H P T v1 v2 Q rep Y Z c;cases P<;>cases T<;>first
  |exact(ag c).elim
  |exact .inl ⟨_,_,Y.int_inv,Z.int_inv,ai c .refl rep _ (.bl _)⟩
  | (next xs ys=>
    obtain⟨p,vs,rfl,W,O⟩:=Y.tup_inv;obtain⟨q,ws,rfl,U,R⟩:=Z.tup_inv;dsimp only[zw]at c;split at c
    ·next ns ms e1 e2=>
     refine .inr ⟨p,q,ns,ms,rfl,rfl,.of (by rw[<-dN O e1];exact W),.of (by rw[<-dN R e2];exact U),ai c .refl rep _ (.bl _)⟩
    ·exact(ag c).elim)
theorem Fl(Z:X.A.units<y8)(Y:SE X E a m)(W:SE X E b n):SE X E (.Compare a [.Lt] [b] pos) (fun ρ=>do let x<-m ρ;let y<-n ρ;zw x y):=wq (AU.or (wc Z)) wx Y W
theorem Bk(Z:X.A.units<y8)(Y:SE X E a m)(W:SE X E b n):SB X E (.Compare a [.Lt] [b] pos) (fun ρ=>do let z<-(do let x<-m ρ;let y<-n ρ;zw x y);ku z):=mL (AU.or (wc Z)) wx Y W
theorem uz(G:rz X.K E f r)(s:rz X.K E g r')
  (h:tM X.K E (fun ρ=>do let x<-m ρ;let y<-n ρ;let z<-f x y;let k<-ku z;if k=c_ then do let w<-l ρ;g y w else a_ (.bl dV)) σ H Q):v7 r r' (tM X.K E m) (tM X.K E n) (tM X.K E l) σ H Q:=by
 obtain⟨ι,S,ρ,rep,re,c⟩:=h;refine⟨ι,S,ρ,rep,re,ak (ah c) fun x T S1 q e1 rep1 c1 v1 I=>?_⟩;refine⟨T,S1,ρ,rep1,re.later rep e1,ak (ah c1) fun y U S2 F e2 rep2 C v2 R=>?_⟩;refine G U S2 F x y v1 v2 _ rep2 (I.later rep1 e2) R (ak (ah C) fun z Y N o P rep3 v p J=>?_);obtain⟨k,rfl,rfl,O⟩:=sN rep3 J v;refine⟨k,rfl,?_⟩;cases k with
 |true=>
  exact⟨Y,N,ρ,rep3,((re.later rep e1).later rep1 e2).later rep2 P,ak (ah O) fun w W L A t Z B v4 u=>s W L A y w v2 v4 Q Z ((R.later rep2 P).later rep3 t) u B⟩
 |false=>exact ai O .refl rep3 _ (.bl dV)
theorem Bl(h:iU X (j_ op) r)(h':iU X (j_ op') r')(Y:rz X.K E f r)(S:rz X.K E g r')(W:SE X E a m)(U:SE X E b n)(Z:SE X E c l)
  (T:QK [op,op'] [b,c]=false:=by with_unfolding_all rfl):
  SE X E (.Compare a [op,op'] [b,c] pos) (fun ρ=>do let x<-m ρ;let y<-n ρ;let z<-f x y;let k<-ku z;if k=c_ then do let w<-l ρ;g y w else a_ (.bl dV)):=
 PE.imp (AW h h' W U Z T) fun _ _ _ q=>uz Y S q
theorem Bm(h:iU X (j_ op) r)(h':iU X (j_ op') r')(Z:rz X.K E f r)(W:rz X.K E g r')(Y:SE X E a m)(R:SE X E b n)(T:SE X E c l)
  (O:QK [op,op'] [b,c]=false:=by with_unfolding_all rfl):
  SB X E (.Compare a [op,op'] [b,c] pos) (fun ρ=>do let v<-(do let x<-m ρ;let y<-n ρ;let z<-f x y;let k<-ku z;if k=c_ then do let w<-l ρ;g y w else a_ (.bl dV));ku v):=
 PT.imp (AX h h' Y R T O) fun σ H Q q=>by
  obtain⟨ι,S,ρ,rep,re,c⟩:=q;refine uz Z W (Q:=fun x L=>∃k,x= .bl k/\Q k L) ⟨ι,S,ρ,rep,re,ak (ah c) fun x N S1 J e1 rep1 c1 v1 P=>?_⟩;obtain⟨k,rfl,rfl,U⟩:=lA rep1 P c1;exact⟨k,rfl,U⟩
def dD:D->D->M D
 | .lst k,.int i=>do
  let xs<-getL k
  match j8 xs i with
  |some d=>a_ d
  |none=>M.fail
 | .tup xs,.int i=>match j8 xs i with
  |some d=>a_ d
  |none=>M.fail
 | .ro xs,.int i=>match j8 xs i with
  |some d=>a_ d
  |none=>M.fail
 | .fz xs,.int i=>match j8 xs i with
  |some d=>a_ d
  |none=>M.fail
 |_,_=>M.fail
theorem oq{K:d_}{ι:List dt}{H:Hp}{ds:List D}{vs:List V}{i:Int}{d:D}(h:RelDs K ι H ds vs)(e:j8 ds i=ar d):∃v,j8 vs i=ar v/\RelD K ι H d v:=by
 unfold j8 at e⊢;rw[h.length]at e;cases q:zd vs.length i with
 |none=>rw[q]at e;cases e
 |some j=>
  rw[q]at e;exact h.get' e
theorem GA:rz X.K E dD (K9 X.K):=by
 intro ι S H P T v1 v2 Q rep U W c;cases P<;>cases T<;>first
  |exact(ag c).elim
  | (next k i=>
    obtain⟨p,rfl,Z⟩:=U.lst_inv;obtain⟨ds,vs,_,R,Y,c1⟩:=a9 c rep Z;cases q:j8 ds i with
    |none=>rw[q]at c1;exact(ag c1).elim
    |some d=>
     rw[q]at c1;obtain⟨v,e1,e2⟩:=oq Y q;exact .inl ⟨p,vs,i,v,rfl,W.int_inv,.of R,e1,ai c1 .refl rep _ e2⟩)
  | (next ds i=>
    obtain⟨p,vs,rfl,Z,Y⟩:=U.tup_inv;dsimp only[dD]at c;cases q:j8 ds i with
    |none=>rw[q]at c;exact(ag c).elim
    |some d=>
     rw[q]at c;obtain⟨v,e1,e2⟩:=oq Y q;exact .inr (.inl ⟨p,vs,i,v,rfl,W.int_inv,.of Z,e1,ai c .refl rep _ e2⟩))
  | (next ds i=>
    obtain⟨p,vs,rfl,Z,Y⟩:=U.ro_inv;dsimp only[dD]at c;cases q:j8 ds i with
    |none=>rw[q]at c;exact(ag c).elim
    |some d=>
     rw[q]at c;obtain⟨v,e1,e2⟩:=oq Y q;exact .inl ⟨p,vs,i,v,rfl,W.int_inv,Z.sq,e1,ai c .refl rep _ e2⟩)
  | (next ds i=>
    obtain⟨p,o,vs,rfl,Z,Y⟩:=U.fz_inv;dsimp only[dD]at c;cases q:j8 ds i with
    |none=>rw[q]at c;exact(ag c).elim
    |some d=>
     rw[q]at c;obtain⟨v,e1,e2⟩:=oq Y q;exact .inl ⟨p,vs,i,v,rfl,W.int_inv,.inl (.inr ⟨o,Z⟩),e1,ai c .refl rep _ e2⟩)
theorem a8(Z:SE X E a m)(Y:SE X E b n)(hs:sA b:=by intro _ _;rfl):SE X E (.Subscript a b pos) (fun ρ=>do let x<-m ρ;let y<-n ρ;dD x y):=IR Gp GA Z Y hs
end
mutual
inductive ReadsV(H:Hp):V->n_->Prop where
 |non:ReadsV H .non .none
 |bl (b:Bool):ReadsV H (.bl b) (.bool b)
 |int (i:Int):ReadsV H (.int i) (.int i)
 |str (x:Str):ReadsV H (.str x) (.str x)
 |lst {a:dt} {vs:List V} {ps:List n_}:Rd H a (.lst vs)->ReadsVs H vs ps->ReadsV H (.ref a) (.list ps)
 |tup {a:dt} {vs:List V} {ps:List n_}:H a=ar (.tup vs)->ReadsVs H vs ps->ReadsV H (.ref a) (.tuple ps)
inductive ReadsVs(H:Hp):List V->List n_->Prop where
 |nil:ReadsVs H [] []
 |cons {v:V} {p:n_} {vs:List V} {ps:List n_}:ReadsV H v p->ReadsVs H vs ps->ReadsVs H (v::vs) (p::ps)
end
mutual
theorem ReadsV.heap(Z:fK P w H h):∀{v:V} {p:n_},ReadsV H v p->∀{u:aC},RelV v u->∃as,Reads h u p as
 |_,_,.non,u,r=>by cases (show u=i0 from r);exact⟨_,.none⟩
 |_,_,.bl b,u,r=>by cases (show u=ri b from r);exact⟨_,.bool b⟩
 |_,_,.int i,u,r=>by obtain⟨t,rfl⟩:=(show ∃t,u=oo i t from r);exact⟨_,.int i t⟩
 |_,_,.str x,u,r=>by obtain⟨t,rfl⟩:=(show ∃t,u=Pq x t from r);exact⟨_,.str x t⟩
 |_,_,@ReadsV.lst _ a vs ps h1 h2,u,r=>by
  cases (show u=er a from r);obtain⟨_,its,n,Y,e⟩:=(show bj P w H h a (.lst vs)from h1.ok Z);obtain⟨as,q⟩:=ReadsVs.heap Z h2 Y;exact⟨_,.list e rfl rfl (by simpa using q)⟩
 |_,_,@ReadsV.tup _ a vs ps h1 h2,u,r=>by
  cases (show u=er a from r);obtain⟨_,its,Y,o,e,c,n,d⟩:=(show bj P w H h a (.tup vs)from Z a _ h1);obtain⟨as,q⟩:=ReadsVs.heap Z h2 Y;exact⟨_,.tuple e c d (by simpa using q)⟩
theorem ReadsVs.heap(Z:fK P w H h):∀{vs:List V} {ps:List n_},ReadsVs H vs ps->∀{us:List aC},bb vs us->∃as,ReadsAll h us ps as
 |_,_,.nil,us,r=>by cases r;exact⟨_,.nil⟩
 | _,_,.cons h1 h2,us,r=>by
  cases r with
  |cons r1 r2=>
   obtain⟨as,q⟩:=ReadsV.heap Z h1 r1;obtain⟨bs,Y⟩:=ReadsVs.heap Z h2 r2;exact⟨_,.cons q Y⟩
end
def mapP(f:D->Option n_):List D->Option (List n_)
 |[]=>ar []
 |d::ds=>match f d,mapP f ds with
  |some p,ar ps=>ar (p::ps)
  |_,_=>none
def gm(S:aA):Nat->D->Option n_
 |_,.non=>ar .none
 |_,.bl b=>ar (.bool b)
 |_,.int i=>ar (.int i)
 |_,.str x=>if PyData.strOk x=c_ then ar (.str x)else none
 |n+1,.tup ds=>(mapP (gm S n) ds).map .tuple
 |n+1,.lst k=>(S[k]?).bind fun xs=>(mapP (gm S n) xs).map .list
 |n+1,.fz ds=>(mapP (gm S n) ds).map .list
 |_,_=>none
section
variable {K:d_}{ι:List dt}{S:aA}{H:Hp}
theorem lC{f:D->Option n_}(Z:∀d p v,f d=ar p->RelD K ι H d v->ReadsV H v p/\p.canLay0=c_/\p.depth<=n):
  ∀{ds:List D} {ps:List n_} {vs:List V},mapP f ds=ar ps->RelDs K ι H ds vs->ReadsVs H vs ps/\PyData.canLayAll0 ps=c_/\sb ps<=n
 |[],ps,vs,e,r=>by
  cases e;rw[r.nil_inv];exact⟨.nil,rfl,L6 _⟩
 | d ::ds,ps,vs,e,r=>by
  obtain⟨v,ws,rfl,Y,T⟩:=r.cons_inv;unfold mapP at e;cases q:f d with
  |none=>rw[q]at e;cases e
  | some p=>
   rw[q]at e;cases q2:mapP f ds with
   |none=>rw[q2]at e;cases e
   | some ps'=>
    rw[q2]at e;cases e;obtain⟨U,R,X⟩:=Z d p v q Y;obtain⟨k1,k2,k3⟩:=lC Z q2 T;refine⟨.cons U k1,?_,?_⟩
    ·show(PyData.canLay0 p && PyData.canLayAll0 ps')=c_;rw[R,k2];rfl
    ·show max p.depth (sb ps')<=n;exact Nat.max_le.mpr ⟨X,k3⟩
theorem ot(X:Rep K ι H S):∀(n:Nat) (d:D) (p:n_) (v:V),gm S n d=ar p->RelD K ι H d v->ReadsV H v p/\p.canLay0=c_/\p.depth<=n:=by
 intro n
 induction n with
 | zero=>
  intro d p v e r;cases d with
  |non=>cases e;rw[r.non_inv];exact⟨.non,rfl,LF _⟩
  |bl b=>cases e;rw[r.bl_inv];exact⟨.bl b,rfl,LF _⟩
  |int i=>cases e;rw[r.int_inv];exact⟨.int i,rfl,LF _⟩
  |str x=>
   unfold gm at e;split at e
   ·next hs=>cases e;rw[r.str_inv];exact⟨.str x,hs,LF _⟩
   ·cases e
  |_=>cases e
 | succ n ih=>
  intro d p v e r;cases d with
  |non=>cases e;rw[r.non_inv];exact⟨.non,rfl,L6 _⟩
  |bl b=>cases e;rw[r.bl_inv];exact⟨.bl b,rfl,L6 _⟩
  |int i=>cases e;rw[r.int_inv];exact⟨.int i,rfl,L6 _⟩
  |str x=>
   unfold gm at e;split at e
   ·next hs=>cases e;rw[r.str_inv];exact⟨.str x,hs,L6 _⟩
   ·cases e
  | tup ds=>
   obtain⟨a,vs,rfl,Z,Y⟩:=r.tup_inv;unfold gm at e;cases q:mapP (gm S n) ds with
   |none=>rw[q]at e;cases e
   |some ps=>
    rw[q]at e;cases e;obtain⟨k1,k2,k3⟩:=lC ih q Y;exact⟨.tup Z k1,k2,N5 k3⟩
  | lst k=>
   obtain⟨a,rfl,Z⟩:=r.lst_inv;unfold gm at e;cases z:S[k]? with
   |none=>rw[z]at e;cases e
   | some xs=>
    rw[z]at e;obtain⟨vs,U,Y⟩:=X.get k a xs Z z;cases q:mapP (gm S n) xs with
    |none=>simp[q]at e
    |some ps=>
     simp[q]at e;subst e;obtain⟨k1,k2,k3⟩:=lC ih q Y;exact⟨.lst (.inl U) k1,k2,N5 k3⟩
  |ro ds=>cases e
  | fz ds=>
   obtain⟨a,o,vs,rfl,Z,Y⟩:=r.fz_inv;unfold gm at e;cases q:mapP (gm S n) ds with
   |none=>rw[q]at e;cases e
   |some ps=>
    rw[q]at e;cases e;obtain⟨k1,k2,k3⟩:=lC ih q Y;exact⟨.lst (.inr ⟨o,Z⟩) k1,k2,N5 k3⟩
  |emp=>cases e
  |fn a c q ds vs=>cases e
  |exc x ds=>cases e
end
def HU(f:n_->n_->Bool):D->D->M D:=fun a b S=>match gm S 60 a,gm S 60 b with
 |some p,ar q=>ar (.ok (.bl (f p q)),S)
 |_,_=>none
def kN:D->D->M D:=HU i2
def ky:D->D->M D:=HU fun p q=> !i2 p q
def KJ(f:Bool->Bool):n_->n_->Option Bool
 |d,.list xs=>ar (f (xs.any fun y=>i2 y d))
 |d,.tuple xs=>ar (f (xs.any fun y=>i2 y d))
 |_,_=>none
def IY(f:Bool->Bool):D->D->M D:=fun a b S=>match gm S 60 a,gm S 60 b with
 |some p,ar q=>match KJ f p q with
  |some r=>ar (.ok (.bl r),S)
  |none=>none
 |_,_=>none
def inD:D->D->M D:=IY id
section
variable {X:Cx}{E:XD}{a b e:Expr}{m n:TM}{pos:Pos}
def GC(f:n_->n_->Bool):R2:=fun x y H Q=>∃p q,(ReadsV H x p/\p.canLay0=c_/\p.depth<=60)/\(ReadsV H y q/\q.canLay0=c_/\q.depth<=60)/\Q (.bl (f p q)) H
theorem ke{p:n_}(h:p.canLay0=c_)(Z:p.depth<=60):SeqAt.shaped p=true:=by
 unfold SeqAt.shaped;rw[h,OQ];exact L7 (by omega)
theorem Bo(N:X.A.units+64<y8):iU X (j_ .Eq) (GC i2):=by
 intro pins s σ H x y v u Q I Z W h;obtain⟨p,q,⟨S,P,T⟩,⟨L,O,U⟩,h⟩:=h;obtain⟨as,R⟩:=S.heap I.hok Z;obtain⟨bs,Y⟩:=L.heap I.hok W;exact eq_dataH R Y (ke P T) (ke O U) N ⟨.bl _,H,I,rfl,h⟩
theorem Bp(N:X.A.units+64<y8):iU X (j_ .NotEq) (GC fun p q=> !i2 p q):=by
 intro pins s σ H x y v u Q I Z W h;obtain⟨p,q,⟨S,P,T⟩,⟨L,O,U⟩,h⟩:=h;obtain⟨as,R⟩:=S.heap I.hok Z;obtain⟨bs,Y⟩:=L.heap I.hok W;exact ne_dataH R Y (ke P T) (ke O U) N ⟨.bl _,H,I,rfl,h⟩
theorem ou:rz X.K E (HU f) (GC f):=by
 intro ι S H U Y v1 v2 Q rep W Z c;obtain⟨r,T,e,k⟩:=c;unfold HU at e;split at e
 ·next p q hp hq=>
  cases e;exact⟨p,q,ot rep 60 U p v1 hp W,ot rep 60 Y q v2 hq Z,k ι H .refl rep _ (.bl _)⟩
 ·cases e
theorem uA(Z:X.A.units+64<y8)(Y:SE X E a m)(W:SE X E b n):SE X E (.Compare a [.Eq] [b] pos) (fun ρ=>do let x<-m ρ;let y<-n ρ;kN x y):=wq (Bo Z) ou Y W
theorem Bq(Z:X.A.units+64<y8)(Y:SE X E a m)(W:SE X E b n):SB X E (.Compare a [.Eq] [b] pos) (fun ρ=>do let z<-(do let x<-m ρ;let y<-n ρ;kN x y);ku z):=mL (Bo Z) ou Y W
theorem pE(Z:X.A.units+64<y8)(Y:SE X E a m)(W:SE X E b n):SB X E (.Compare a [.NotEq] [b] pos) (fun ρ=>do let z<-(do let x<-m ρ;let y<-n ρ;ky x y);ku z):=mL (Bp Z) ou Y W
def IZ(f:Bool->Bool):R2:=fun x y H Q=>∃p q r,(ReadsV H x p/\p.canLay0=c_/\p.depth<=60)/\(ReadsV H y q/\q.canLay0=c_/\q.depth<=60)/\KJ f p q=ar r/\Q (.bl r) H
theorem xR:rz X.K E (IY f) (IZ f):=by
 intro ι S H U Y v1 v2 Q rep W Z c;obtain⟨r,T,e,k⟩:=c;unfold IY at e;split at e
 ·next p q hp hq=>
  split at e
  ·next r hr=>
   cases e;exact⟨p,q,r,ot rep 60 U p v1 hp W,ot rep 60 Y q v2 hq Z,hr,k ι H .refl rep _ (.bl _)⟩
  ·cases e
 ·cases e
theorem wy(h:(oD xs).depth<=60):sb xs<=60:=OA h
theorem uB(h:(PyData.tuple xs).depth<=60):sb xs<=60:=OA h
theorem Br(K:X.A.units+64<y8):iU X (j_ .In) (IZ id):=by
 intro pins s σ H x y v u Q I R P h;obtain⟨p,q,r,⟨O,T,L⟩,⟨N,S,W⟩,Z,h⟩:=h;obtain⟨as,U⟩:=O.heap I.hok R;obtain⟨bs,Y⟩:=N.heap I.hok P;cases q with
 |list xs=>
  cases Z;exact SeqAt.in_list_reads Y U S T (by have:=wy W;have:min (sb xs) p.depth<=60:=LS (Nat.min_le_left _ _) this;omega) ⟨.bl _,H,I,rfl,h⟩
 |tuple xs=>
  cases Z;exact SeqAt.in_tuple_reads Y U S T (by have:=uB W;have:min (sb xs) p.depth<=60:=LS (Nat.min_le_left _ _) this;omega) ⟨.bl _,H,I,rfl,h⟩
 |_=>cases Z
theorem Bs(W:X.A.units+64<y8)(Z:SE X E a m)(Y:SE X E b n)(U:lx .In b=false:=by rfl):SE X E (.Compare a [.In] [b] pos) (fun ρ=>do let x<-m ρ;let y<-n ρ;inD x y):=wq (Br W) xR Z Y U
theorem Bt(W:X.A.units+64<y8)(Z:SE X E a m)(Y:SE X E b n)(U:lx .In b=false:=by rfl):SB X E (.Compare a [.In] [b] pos) (fun ρ=>do let z<-(do let x<-m ρ;let y<-n ρ;inD x y);ku z):=mL (Br W) xR Z Y U
end
section
variable {X:Cx}{E:XD}{a b e c:Expr}{m n l:TM}{pos p2:Pos}{es:List Expr}{ms:aF->M (List D)}
def Lc:D->M Int
 | .int i=>a_ i
 |_=>M.fail
def Lr(K:d_)(E:XD)(m:aF->M (Option Int)):TO:=fun σ H Q=>∃ ι S ρ,Rep K ι H S/\RelE K ι H ρ σ/\cont K E (m ρ) ι S H (fun o _ _ H'=>Q o H')
def SO(X:Cx)(E:XD)(o:Option Expr)(m:aF->M (Option Int)):Prop:=PO X o (Lr X.K E m)
theorem PO.imp{X:Cx}{e:Option Expr}{t t':TO}(h:PO X e t)(k:∀ σ H Q,t' σ H Q->t σ H Q):PO X e t':=fun pins s σ H Q I hw=>h pins s σ H Q I (k σ H Q hw)
theorem DQ:SO X E none (fun _=>a_ none):=by
 refine PO.imp DE fun σ H Q h=>?_;obtain⟨ι,S,ρ,rep,re,c⟩:=h;exact ai c .refl rep
theorem DR(h:SE X E e m):SO X E (ar e) (fun ρ=>do let x<-m ρ;let i<-Lc x;a_ (ar i)):=by
 refine PO.imp (DF h) fun σ H Q h=>?_;obtain⟨ι,S,ρ,rep,re,c⟩:=h;refine⟨ι,S,ρ,rep,re,ak (ah c) fun x Z S1 Y e1 rep1 c1 v r=>?_⟩;cases x with
 |int i=>exact⟨i,r.int_inv,ai (ai (ah c1) .refl rep1) .refl rep1⟩
 |_=>exact(ag (ah c1)).elim
def cutD(xs:List D)(lo hi:Option Int):List D:=(xs.drop (HT.sIx xs.length 0 lo)).take (HT.sIx xs.length xs.length hi - HT.sIx xs.length 0 lo)
theorem oy{K:d_}{ι:List dt}{H:Hp}{ds:List D}{vs:List V}(Y Z:Option Int)(h:RelDs K ι H ds vs):RelDs K ι H (cutD ds Y Z) (qG vs Y Z):=by
 unfold cutD qG;rw[h.length];exact(h.drop _).take _
def Bu:D->Option Int->Option Int->M D
 | .tup xs,lo,hi=>cF (cutD xs lo hi)
 | .lst k,lo,hi=>do let xs<-getL k;bh (cutD xs lo hi)
 | .fz xs,lo,hi=>bh (cutD xs lo hi)
 |_,_,_=>M.fail
theorem DS:Fi X (fun x lo T H Q=>∃a xs,x= .ref a/\kG X.K H a xs/\(HT.sIx xs.length 0 lo=0/\HT.sIx xs.length xs.length T=xs.length)/\Q (.ref a) H):=by
 intro pins s σ H x v J G lo T O Q I S hs R pu h;obtain⟨a,xs,rfl,P,hw,q⟩:=h;cases S;obtain⟨its,r,Z,L⟩:=I.tuple P;have hlen:its.toArray.size=xs.length:=by rw[LR];exact r.length.symm
 refine⟨"tuple",_,PyProof.Rows.slot_tuple_getitem.lookup,Z.typeIs,?_⟩;have fin:EP X pins σ Q (.ref a) s:=⟨.ref a,H,I,rfl,q⟩;obtain⟨os,Y,W,N⟩:=id hs;have U:s.TypeIs (.ref O) "slice":=⟨os,Y,W⟩;unfold Qz
 try with_reducible refine Mw ?_
 first|refine LA (LD ?_)|skip
 refine LA (wpAny_sequenceKey Z.typeIs (by decide) ?_)
 refine LA (wpAny_callSpecial?_slot (name:=i_ "__getitem__") Z.typeIs MZ
  (ME MZ Z.typeIs entry_tuple_getitem ?_ (args_tuple_getitem _ _)))
 show ee _ _ (Builtin.Tuple.tupleItemsOf (.ref a)>>=_) _ _ s;refine LA (tupleItemsOf_ Z (LA (Oc U ?_)));rw[if_pos (by decide)]
 refine LA (HT.sliceApplied_gen hs R pu ?_);rw[hlen,hw.1,hw.2];show ee _ _ (if ((((0:Nat):Int))==0 && (1:Int)==1 && (xs.length - 0)==xs.length)=c_ then _ else _) _ _ s;rw[if_pos (by simp)]
 unfold Builtin.Tuple.tupleIsExact;refine LA (LA (Oc Z.typeIs (LD ?_)));rw[if_pos (by decide)]
 first
  |exact LA (OB (LD ⟨_,rfl,LD fin⟩))
  |exact LA (OB (LA (LD (LD ⟨_,rfl,LD fin⟩))))
theorem wz{xs:List V}{Y Z:Option Int}(h:HT.sIx xs.length 0 Y=0/\HT.sIx xs.length xs.length Z=xs.length):qG xs Y Z=xs:=by
 unfold qG;rw[h.1,h.2,Qa,Nat.sub_zero,List.take_length]
theorem Bv{L P:Option Expr}{ml N:aF->M (Option Int)}(G:SE X E e m)(B:SO X E L ml)(K:SO X E P N):
  SE X E (.Subscript e (.Slice L P none p2) pos) (fun ρ=>do let x<-m ρ;let i<-ml ρ;let j<-N ρ;Bu x i j):=by
 refine PE.imp (A4 (Gk.or (DS.or DI)) G B K) fun σ H Q h=>?_;obtain⟨ι,S,ρ,rep,re,c⟩:=h;refine⟨ι,S,ρ,rep,re,ak (ah c) fun x R S1 y e1 rep1 c1 v r=>?_⟩;refine⟨R,S1,ρ,rep1,re.later rep e1,ak (ah c1) fun i T S2 u e2 rep2 F=>?_⟩;refine⟨T,S2,ρ,rep2,(re.later rep e1).later rep1 e2,ak (ah F) fun j C z w I rep3 Y=>?_⟩;have W:=(r.later rep1 e2).later rep2 I;cases x with
 | tup ds=>
  obtain⟨p,vs,rfl,Z,O⟩:=W.tup_inv;by_cases hw:HT.sIx vs.length 0 i=0/\HT.sIx vs.length vs.length j=vs.length
  ·refine .inr (.inl ⟨p,vs,rfl,.of Z,hw,i4 Y rep3 Z ?_⟩);have:=oy i j O;rw[wz hw]at this;exact this
  ·exact .inl ⟨p,vs,rfl,.of Z,hw,(gC Y rep3 (oy i j O)).2⟩
 |lst k=>
  obtain⟨p,rfl,Z⟩:=W.lst_inv;obtain⟨ds,vs,_,J,U,A⟩:=a9 Y rep3 Z;exact .inr (.inr ⟨p,vs,rfl,.of J,(bo A rep3 (oy i j U)).2⟩)
 |fz ds=>
  obtain⟨p,o,vs,rfl,Z,U⟩:=W.fz_inv;exact .inr (.inr ⟨p,vs,rfl,.inl (.inr ⟨o,Z⟩),(bo Y rep3 (oy i j U)).2⟩)
 |_=>exact(ag Y).elim
end
section
variable {X:Cx}{E:XD}{a b e c o:Expr}{m n l:TM}{pos p2:Pos}{es:List Expr}{ms:aF->M (List D)}
def dO:List D->M D
 |[.lst k]=>do let xs<-getL k;a_ (.int xs.length)
 |[.tup ds]=>a_ (.int ds.length)
 |[.ro ds]=>a_ (.int ds.length)
 |[.fz ds]=>a_ (.int ds.length)
 |_=>M.fail
theorem zx:jO X.K E dO (fun xs H Q=>∃p ys,xs=[.ref p]/\(iY X.K H p ys\/kG X.K H p ys)/\Q (.int ys.length) H):=by
 intro ι S H ds vs Q rep r c
 match ds,r,c with
 |[.lst k],r,c=>
  obtain⟨v,ws,rfl,U,Y⟩:=r.cons_inv;cases Y.nil_inv;obtain⟨p,rfl,Z⟩:=U.lst_inv;obtain⟨es,us,_,R,W,T⟩:=a9 c rep Z;refine⟨p,us,rfl,.inl (.of R),?_⟩;have:=ai T .refl rep _ (.int _);rw[W.length]at this;exact this
 |[.tup es],r,c=>
  obtain⟨v,ws,rfl,U,Y⟩:=r.cons_inv;cases Y.nil_inv;obtain⟨p,us,rfl,Z,W⟩:=U.tup_inv;refine⟨p,us,rfl,.inr (.of Z),?_⟩;have:=ai c .refl rep _ (.int _);rw[W.length]at this;exact this
 |[.ro es],r,c=>
  obtain⟨v,ws,rfl,U,Y⟩:=r.cons_inv;cases Y.nil_inv;obtain⟨p,us,rfl,Z,W⟩:=U.ro_inv;refine⟨p,us,rfl,.inl Z.sq,?_⟩;have:=ai c .refl rep _ (.int _);rw[W.length]at this;exact this
 |[.fz es],r,c=>
  obtain⟨v,ws,rfl,U,Y⟩:=r.cons_inv;cases Y.nil_inv;obtain⟨p,o,us,rfl,Z,W⟩:=U.fz_inv;refine⟨p,us,rfl,.inl (.inl (.inr ⟨o,Z⟩)),?_⟩;have:=ai c .refl rep _ (.int _);rw[W.length]at this;exact this
 |[],r,c=>exact(ag c).elim
 |[.non],r,c=>exact(ag c).elim
 |[.bl _],r,c=>exact(ag c).elim
 |[.int _],r,c=>exact(ag c).elim
 |[.str _],r,c=>exact(ag c).elim
 |[.emp],r,c=>exact(ag c).elim
 |d::d2::r',r,c=>cases d<;>exact(ag c).elim
theorem eS(W:X.mg "len"=none)(Z:SE X E e m)(Y:Gl X "len":=by rfl)(hs:eb [e] X.env=[(dV,h9 e X.env)]:=by rfl):SE X E (.Call (.Name "len" p) [e] [] pos) (fun ρ=>do let ds<-(do let x<-m ρ;let xs<-a_ [];a_ (x::xs));dO ds):=
 gE sD zx Y W PySem.boot_len (af Z aq hs) (by decide) (by decide) hs rfl
def xS(f:Int->Int->Int):List D->M D
 |[.int i,.int j]=>a_ (.int (f i j))
 |_=>M.fail
theorem pF{f:Int->Int->Int}:jO X.K E (xS f) (fun xs H Q=>∃i j,xs=[.int i,.int j]/\Q (.int (f i j)) H):=by
 intro ι S H ds vs Q rep r c;unfold xS at c;split at c
 ·next i j=>
  obtain⟨v,ws,rfl,U,Z⟩:=r.cons_inv;obtain⟨R,Y,rfl,W,T⟩:=Z.cons_inv;cases T.nil_inv;rw[U.int_inv,W.int_inv];exact⟨i,j,rfl,ai c .refl rep _ (.int _)⟩
 ·exact(ag c).elim
def maxD:List D->M D:=xS fun i j=>if j>i then j else i
def minD:List D->M D:=xS fun i j=>if j<i then j else i
theorem wA(Y:X.calm=c_)(T:X.mg "max"=none)(W:SA X E [a,b] ms)(U:Gl X "max":=by rfl)(hs:eb [a,b] X.env=[(dV,h9 a X.env),(dV,h9 b X.env)]:=by rfl)(Z:eb [b] X.env=[(dV,h9 b X.env)]:=by rfl):
  SE X E (.Call (.Name "max" p) [a,b] [] pos) (fun ρ=>do let ds<-ms ρ;maxD ds):=
 gE (yW Y) pF U T (by decide+kernel) W (by decide) (by decide) (by rw[hs,Z]) (by rw[Z];rfl)
theorem Bw(Y:X.calm=c_)(T:X.mg "min"=none)(W:SA X E [a,b] ms)(U:Gl X "min":=by rfl)(hs:eb [a,b] X.env=[(dV,h9 a X.env),(dV,h9 b X.env)]:=by rfl)(Z:eb [b] X.env=[(dV,h9 b X.env)]:=by rfl):
  SE X E (.Call (.Name "min" p) [a,b] [] pos) (fun ρ=>do let ds<-ms ρ;minD ds):=
 gE (yX Y) pF U T (by decide+kernel) W (by decide) (by decide) (by rw[hs,Z]) (by rw[Z];rfl)
def rB:List D->M D
 |[.lst k]=>do let xs<-getL k;bh xs
 |[.tup ds]=>bh ds
 |[.ro ds]=>bh ds
 |[.fz ds]=>bh ds
 |_=>M.fail
def cC:List D->M D
 |[.lst k]=>do let xs<-getL k;cF xs
 |[.tup ds]=>cF ds
 |[.fz ds]=>cF ds
 |_=>M.fail
theorem wB:jO X.K E rB (fun xs H Q=>∃p ys,xs=[.ref p]/\(iY X.K H p ys\/kG X.K H p ys)/\∀l,H l=none->Q (.ref l) (upd H l (.lst ys))):=by
 intro ι S H ds vs Q rep r c;unfold rB at c;split at c
 ·next k=>
  obtain⟨v,ws,rfl,U,Y⟩:=r.cons_inv;cases Y.nil_inv;obtain⟨p,rfl,Z⟩:=U.lst_inv;obtain⟨es,us,_,R,W,T⟩:=a9 c rep Z;exact⟨p,us,rfl,.inl (.of R),(bo T rep W).2⟩
 ·next es=>
  obtain⟨v,ws,rfl,U,Y⟩:=r.cons_inv;cases Y.nil_inv;obtain⟨p,us,rfl,Z,W⟩:=U.tup_inv;exact⟨p,us,rfl,.inr (.of Z),(bo c rep W).2⟩
 ·next es=>
  obtain⟨v,ws,rfl,U,Y⟩:=r.cons_inv;cases Y.nil_inv;obtain⟨p,us,rfl,Z,W⟩:=U.ro_inv;exact⟨p,us,rfl,.inl Z.sq,(bo c rep W).2⟩
 ·next es=>
  obtain⟨v,ws,rfl,U,Y⟩:=r.cons_inv;cases Y.nil_inv;obtain⟨p,o,us,rfl,Z,W⟩:=U.fz_inv;exact⟨p,us,rfl,.inl (.inl (.inr ⟨o,Z⟩)),(bo c rep W).2⟩
 ·exact(ag c).elim
theorem uC:jO X.K E cC (fun xs H Q=>∃p ys,xs=[.ref p]/\((iY X.K H p ys/\∀l,H l=none->Q (.ref l) (upd H l (.tup ys)))\/(kG X.K H p ys/\Q (.ref p) H))):=by
 intro ι S H ds vs Q rep r c;unfold cC at c;split at c
 ·next k=>
  obtain⟨v,ws,rfl,U,Y⟩:=r.cons_inv;cases Y.nil_inv;obtain⟨p,rfl,Z⟩:=U.lst_inv;obtain⟨es,us,_,R,W,T⟩:=a9 c rep Z;exact⟨p,us,rfl,.inl ⟨.of R,(gC T rep W).2⟩⟩
 ·next es=>
  obtain⟨v,ws,rfl,U,Y⟩:=r.cons_inv;cases Y.nil_inv;obtain⟨p,us,rfl,Z,W⟩:=U.tup_inv;exact⟨p,us,rfl,.inr ⟨.of Z,i4 c rep Z W⟩⟩
 ·next es=>
  obtain⟨v,ws,rfl,U,Y⟩:=r.cons_inv;cases Y.nil_inv;obtain⟨p,o,us,rfl,Z,W⟩:=U.fz_inv;exact⟨p,us,rfl,.inl ⟨.inl (.inr ⟨o,Z⟩),(gC c rep W).2⟩⟩
 ·exact(ag c).elim
theorem DT(W:X.mg "list"=none)(Z:SE X E e m)(Y:Gl X "list":=by rfl)(hs:eb [e] X.env=[(dV,h9 e X.env)]:=by rfl):SE X E (.Call (.Name "list" p) [e] [] pos) (fun ρ=>do let ds<-(do let x<-m ρ;let xs<-a_ [];a_ (x::xs));rB ds):=
 rA sE wB Y W (by decide+kernel) (af Z aq hs) (by decide) (by decide) hs rfl
theorem fS(W:X.mg "tuple"=none)(Z:SE X E e m)(Y:Gl X "tuple":=by rfl)(hs:eb [e] X.env=[(dV,h9 e X.env)]:=by rfl):SE X E (.Call (.Name "tuple" p) [e] [] pos) (fun ρ=>do let ds<-(do let x<-m ρ;let xs<-a_ [];a_ (x::xs));cC ds):=
 rA qI uC Y W (by decide+kernel) (af Z aq hs) (by decide) (by decide) hs rfl
def DU(H:Hp):V->Option String
 | .non=>ar "NoneType"
 | .bl _=>ar "bool"
 | .int _=>ar "int"
 | .str _=>ar "str"
 | .ref a=>match H a with
  |some (.lst _)=>ar "list"
  |some (.frz _ (.lst _))=>ar "list"
  |some (.tup _)=>ar "tuple"
  |some (.dK _)=>ar "dict"
  |_=>none
 |_=>none
theorem Bx{K:d_}{H:Hp}{v:V}{T:String}(h:DU H v=ar T):TyOf K H v (.type T):=by
 cases v with
 |non=>cases h;exact .non
 |bl b=>cases h;exact .bl b
 |int i=>cases h;exact .int i
 |str x=>cases h;exact .str x
 |ref a=>
  simp only[DU]at h;split at h
  ·next q=>cases h;exact .lst q
  ·next q=>cases h;exact .frz q
  ·next q=>cases h;exact .tup q
  ·next q=>cases h;exact .dK q
  ·cases h
 |_=>cases h
def By:D->String
 | .non=>"NoneType"
 | .bl _=>"bool"
 | .int _=>"int"
 | .str _=>"str"
 | .tup _=>"tuple"
 | .lst _=>"list"
 | .ro _=>"list"
 | .fz _=>"list"
 | .emp=>"dict"
 | .fn _ _ _ _ _=>"NoneType"
 | .exc _ _=>"NoneType"
def GD:D->Bool
 | .ro _=>dV
 | .fn _ _ _ _ _=>dV
 | .exc _ _=>dV
 |_=>c_
theorem Bz{K:d_}{ι:List dt}{S:aA}{H:Hp}{d:D}{v:V}(Y:Rep K ι H S)(r:RelD K ι H d v)(Z:GD d=c_):DU H v=ar (By d):=by
 cases r with
 |non=>rfl
 |bl=>rfl
 |int=>rfl
 |str=>rfl
 |tup h _=>simp[DU,h,By]
 |lst h=>
  obtain⟨vs,e⟩:=Y.isL (Mf h);simp[DU,e,By]
 |ro h _=>cases Z
 |fz h _=>simp[DU,h,By]
 |emp h=>simp[DU,h,By]
 |fn=>cases Z
 |exc=>cases Z
 |excF=>cases Z
def BA(f:String->Bool):D->M D
 | .ro _=>M.fail
 | .fn _ _ _ _ _=>M.fail
 | .exc _ _=>M.fail
 |d=>a_ (.bl (f (By d)))
theorem uD{K:d_}{E:XD}{ι:List dt}{S:aA}{H:Hp}{f:String->Bool}{d:D}{Q:D->List dt->aA->Hp->Prop}(c:cont K E (BA f d) ι S H Q):GD d=c_/\cont K E (a_ (.bl (f (By d)))) ι S H Q:=by
 cases d with
 |ro ds=>exact(ag c).elim
 |fn a c' q ds vs=>exact(ag c).elim
 |exc x ds=>exact(ag c).elim
 |_=>exact⟨rfl,c⟩
def iM(t T:String):Bool:=t==T||(t=="bool" && T=="int")
theorem sO(K:d_)(t:String)(Y:t∈["NoneType","bool","int","str","tuple","list","dict"])(T:String)(Z:T∈["bool","int","str","tuple","list"]):q_ K (.type t) (.type T)=ar (iM t T):=by
 simp only[gc,f_,or_false]at Y Z;rcases Y with rfl|rfl|rfl|rfl|rfl|rfl|rfl<;>rcases Z with rfl|rfl|rfl|rfl|rfl<;>rfl
theorem xT(d:D):By d∈["NoneType","bool","int","str","tuple","list","dict"]:=by cases d<;>simp[By]
theorem BB:cR X (.builtin "isinstance") (fun xs H Q=>∃x t T,xs=[x,.ty T]/\DU H x=ar t/\t∈["NoneType","bool","int","str","tuple","list","dict"]/\T∈["bool","int","str","tuple","list"]/\Q (.bl (iM t T)) H):=by
 intro pins s σ H xs us Q I r h;obtain⟨x,t,T,rfl,W,S,Y,q⟩:=h;obtain⟨u,P,rfl,U,Z⟩:=vals2 r;cases (show P=u4 T from Z);exact y0 I U (Bx W) (sO X.K t S T Y) fun R=>⟨.bl _,H,I.tok R,rfl,q⟩
theorem iu{p q:Pos}{T:Str}{Ts:String}(O:X.mg "isinstance"=none)(U:X.mg T=none)(J:SE X E e m)(N:kS T=ar (.type Ts):=by decide+kernel)(R:Ts∈["bool","int","str","tuple","list"]:=by decide)(L:Gl X "isinstance":=by rfl)(Y:Gl X T:=by rfl)
  (P:T≠"__name__":=by decide) (W:(T==("__debug__":Str))=false:=by decide)
  (hs:eb [e,.Name T q] X.env=[(dV,h9 e X.env),(dV,h9 (.Name T q) X.env)]:=by rfl) (Z:eb [.Name T q] X.env=[(dV,h9 (.Name T q) X.env)]:=by rfl):
  SE X E (.Call (.Name "isinstance" p) [e,.Name T q] [] pos) (fun ρ=>do let x<-m ρ;BA (fun t=>iM t Ts) x):=by
 refine PE.imp (iF BB L O (by decide+kernel) (dj J (dj (og Y U N (v:=.ty Ts) rfl P W) gy Z) (by rw[hs,Z])) (by decide) (by decide) (by rw[hs,Z]) (by rw[Z];rfl)) fun σ H Q h=>?_
 obtain⟨ι,S,ρ,rep,re,c⟩:=h;refine⟨ι,S,ρ,rep,re,ak (ah c) fun x K S1 I e1 rep1 c1 v r=>?_⟩;obtain⟨W,c1⟩:=uD c1;exact⟨v,By x,Ts,rfl,Bz rep1 r W,xT x,R,ai c1 .refl rep1 _ (.bl _)⟩
theorem zy:cR X (.builtin "isinstance") (fun xs H Q=>∃x t p T U,xs=[x,.ref p]/\H p=ar (.tup [.ty T,.ty U])/\DU H x=ar t/\t∈["NoneType","bool","int","str","tuple","list","dict"]/\T∈["bool","int","str","tuple","list"]/\U∈["bool","int","str","tuple","list"]/\
  Q (.bl (iM t T||iM t U)) H):=by
 intro pins s σ H xs us Q I r h;obtain⟨x,t,p,T,U,rfl,k,Z,R,J,C,q⟩:=h;obtain⟨u,G,rfl,Y,P⟩:=vals2 r;cases (show G=er p from P);obtain⟨_,its,v,⟨cls,dd,data,j⟩,S,N,n,hd⟩:=(show bj X.prog X.w H s.heap p (.tup [.ty T,.ty U])from I.hok p _ k);simp only at N hd;subst N hd;obtain⟨F,A,rfl,B,L⟩:=vals2 v;cases (show F=u4 T from B);cases (show A=u4 U from L);have e:Q9 X.K (.type t) [.type T,.type U]=ar (iM t T||iM t U):=by
  unfold Q9 Q9 Q9;rw[sO X.K t R T J,sO X.K t R U C];cases iM t T<;>cases iM t U<;>rfl
 have fin:∀O,EP X pins σ Q (.bool (iM t T||iM t U)) {s with toks:=O}:=fun O=>⟨.bl _,H,I.tok O,rfl,q⟩;have ty:=Bx (K:=X.K) Z;generalize hT:u4 t=tv at ty e;cases ty with
 |non=>cases (show u=i0 from Y);exact MU O9 I.kIn pa S e (fun z=>nomatch z) fin
 |bl y=>cases (show u=ri y from Y);exact MU W.kitx_bool I.kIn pa S e (fun z=>nomatch z) fin
 |int i=>obtain⟨t,q⟩:=(show ∃t,u=oo i t from Y);cases q;exact MU W.kitx_int I.kIn pa S e (fun z=>nomatch z) fin
 |str y=>obtain⟨t,q⟩:=(show ∃t,u=Pq y t from Y);cases q;exact MU W.kitx_str I.kIn pa S e (fun z=>nomatch z) fin
 |flt y=>obtain⟨t,q⟩:=(show ∃t,u=P9 y t from Y);cases q;exact MU W.kitx_float I.kIn pa S e (fun z=>nomatch z) fin
 | @lst a xs ea=>
  cases (show u=er a from Y);obtain⟨_,_,n,_,Z⟩:=(show bj X.prog X.w H s.heap a (.lst xs)from I.hok a _ ea);exact MU Ox I.kIn ⟨_,Z,rfl⟩ S e (fun z=>nomatch z) fin
 | @frz a ob xs ea=>
  cases (show u=er a from Y);obtain⟨_,_,_,n,_,Z⟩:=(show bj X.prog X.w H s.heap a (.frz ob (.lst xs))from I.hok a _ ea);exact MU Ox I.kIn ⟨_,Z,rfl⟩ S e (fun z=>nomatch z) fin
 | @tup a xs ea=>
  cases (show u=er a from Y);obtain⟨_,_,_,o,Z,R,_⟩:=(show bj X.prog X.w H s.heap a (.tup xs)from I.hok a _ ea);exact MU W.kitx_tuple I.kIn ⟨o,Z,R⟩ S e (fun z=>nomatch z) fin
 | @dK a kvs ea=>
  cases (show u=er a from Y);obtain⟨_,_,vs,_,o,es,ep,Z,R,_⟩:=(show bj X.prog X.w H s.heap a (.dK kvs)from I.hok a _ ea);exact MU Oy I.kIn ⟨o,Z,R.1⟩ S e (fun z=>nomatch z) fin
 | @dT a kvs ea=>
  cases (show u=er a from Y);obtain⟨_,_,xs,_,o,es,ep,Z,R,_⟩:=(show bj X.prog X.w H s.heap a (.dT kvs)from I.hok a _ ea);exact MU Oy I.kIn ⟨o,Z,R.1⟩ S e (fun z=>nomatch z) fin
 |ins=>cases hT
theorem DV{p q W Y:Pos}{x1}{T U:Str}{Ts Us:String}(w:X.mg "isinstance"=none)(F:X.mg T=none)(L:X.mg U=none)(s:SE X E e m)(u:kS T=ar (.type Ts):=by decide+kernel)(P:kS U=ar (.type Us):=by decide+kernel)
  (C:Ts∈["bool","int","str","tuple","list"]:=by decide) (N:Us∈["bool","int","str","tuple","list"]:=by decide) (z:Gl X "isinstance":=by rfl) (J:Gl X T:=by rfl) (I:Gl X U:=by rfl)
  (y:T≠"__name__":=by decide) (O:(T==("__debug__":Str))=false:=by decide) (G:U≠"__name__":=by decide) (K:(U==("__debug__":Str))=false:=by decide)
  (hs:eb [e,.Tuple [.Name T q,.Name U W] x1 Y] X.env=[(dV,h9 e X.env),(dV,h9 (.Tuple [.Name T q,.Name U W] x1 Y) X.env)]:=by rfl) (Z:eb [.Tuple [.Name T q,.Name U W] x1 Y] X.env=[(dV,h9 (.Tuple [.Name T q,.Name U W] x1 Y) X.env)]:=by rfl):
  SE X E (.Call (.Name "isinstance" p) [e,.Tuple [.Name T q,.Name U W] x1 Y] [] pos) (fun ρ=>do let x<-m ρ;BA (fun t=>iM t Ts||iM t Us) x):=by
 refine PE.imp (iF zy z w (by decide+kernel) (dj s (dj (AY (dj (og J F u (v:=.ty Ts) rfl y O) (dj (og I L P (v:=.ty Us) rfl G K) gy rfl) rfl)) gy Z) (by rw[hs,Z])) (by decide) (by decide) (by rw[hs,Z]) (by rw[Z];rfl)) fun σ H Q h=>?_
 obtain⟨ι,S,ρ,rep,re,c⟩:=h;refine⟨ι,S,ρ,rep,re,ak (ah c) fun x R S1 B e1 rep1 c1 v r=>?_⟩;obtain⟨O,c1⟩:=uD c1;refine⟨by show 2<=sizeLine;decide,fun p A=>?_⟩
 have rep2:=ff (o:=.tup [.ty Ts,.ty Us]) rep1 A;have e2:Ext R B R (upd B p (.tup [.ty Ts,.ty Us])):=dU A;exact⟨v,By x,p,Ts,Us,rfl,aM,Bz rep2 (r.later rep1 e2) O,xT x,C,N,ai c1 e2 rep2 _ (.bl _)⟩
end
section
variable {X:Cx}{E:XD}{a b e c o tg:Expr}{m n l:TM}{pos p2:Pos}{es:List Expr}{ms:aF->M (List D)}
theorem range_all{bs:List Bool}:(ey bs.length).all (fun i=>bs.getD i dV)=bs.all id:=by
 induction bs with
 |nil=>rfl
 |cons b bs ih=>
  rw[Mg,NH,Qn,PH];simp only[Fn,Qn,id];congr 1
theorem zz(J:X.calm=c_):cR X (.builtin "all") (fun xs H Q=>∃(p:dt) (bs:List Bool),xs=[.ref p]/\iY X.K H p (bs.map V.bl)/\Q (.bl (bs.all id)) H):=by
 intro pins s σ H xs us Q I r h;obtain⟨p,bs,rfl,G,q⟩:=h;obtain⟨u,rfl,P⟩:=vals1 r;cases (show u=er p from P);obtain⟨its,S,O,B⟩:=I.list G;have T:=O.isList;refine call_all_walk (Ow T ?_);have W:p<s.heap.objs.size:=by obtain⟨o,C,_⟩:=T;exact LK C
 have hlen:=S.length;refine⟨s.heap.objs.size,_,_,_,_,_,fun i=>bs.getD i dV,rfl,Q_ (A:=X.A.in1) (by show X.A.handled=none;exact I.ok.hd J) s.heap.objs.size p (LQ W) its.toArray,⟨⟨_,LM _ rfl,rfl,rfl⟩,T.push _⟩,?_,fun h' z N=>?_⟩
 ·intro i v s' y w F U;have Y:its[i]? =ar v:=by simpa using F
  have x:i<its.length:=(LH.mp Y).1;have Z:i<bs.length:=by rw[LC]at hlen;omega
  have:(bs.map V.bl)[i]? =ar (.bl bs[i]):=by rw[L3,LG Z];rfl
  obtain⟨u,R,L⟩:=S.get this;rw[Y]at R;cases R;cases (show v=ri bs[i]from L);have:bs.getD i dV=bs[i]:=by simp[Rq,Z]
  dsimp only at U;rw[this]at U;exact MR U
 ·have e1:its.toArray.size=bs.length:=by rw[LR, <-hlen,LC]
  rw[e1,range_all];refine⟨.bl _,H,I.kept (fun b o e=>N b o ?_ (LB _ e)),rfl,q⟩;have:b≠s.heap.objs.size:=LQ (LK e);simpa using this
def boolsOf:List D->Option (List Bool)
 |[]=>ar []
 | .bl i::r=>(boolsOf r).map (i::·)
 |_=>none
theorem fT{K:d_}{ι:List dt}{H:Hp}:∀{ds:List D} {vs:List V} {ns:List Bool},RelDs K ι H ds vs->boolsOf ds=ar ns->vs=ns.map V.bl
 |[],vs,ns,h,e=>by cases e;rw[h.nil_inv];rfl
 | .bl i::ds,vs,ns,h,e=>by
  obtain⟨v,ws,rfl,Z,Y⟩:=h.cons_inv;cases q:boolsOf ds with
  |none=>simp[boolsOf,q]at e
  |some ks=>
   simp[boolsOf,q]at e;subst e;rw[Z.bl_inv,fT Y q];rfl
 | .non::_,_,_,_,e=>by cases e
 | .int _::_,_,_,_,e=>by cases e
 | .str _::_,_,_,_,e=>by cases e
 | .tup _::_,_,_,_,e=>by cases e
 | .lst _::_,_,_,_,e=>by cases e
 | .ro _::_,_,_,_,e=>by cases e
 | .fz _::_,_,_,_,e=>by cases e
 | .emp::_,_,_,_,e=>by cases e
def uE:List D->M D
 |[.lst k]=>do
  let xs<-getL k
  match boolsOf xs with
  |some bs=>a_ (.bl (bs.all id))
  |none=>M.fail
 |[.fz xs]=>match boolsOf xs with
  |some bs=>a_ (.bl (bs.all id))
  |none=>M.fail
 |_=>M.fail
theorem zA:jO X.K E uE (fun xs H Q=>∃(p:dt) (bs:List Bool),xs=[.ref p]/\iY X.K H p (bs.map V.bl)/\Q (.bl (bs.all id)) H):=by
 intro ι S H ds vs Q rep r c;unfold uE at c;split at c
 ·next k=>
  obtain⟨v,ws,rfl,T,W⟩:=r.cons_inv;cases W.nil_inv;obtain⟨p,rfl,Y⟩:=T.lst_inv;obtain⟨es,us,_,R,U,Z⟩:=a9 c rep Y;cases q:boolsOf es with
  |none=>rw[q]at Z;exact(ag Z).elim
  |some bs=>
   rw[q]at Z;refine⟨p,bs,rfl,.of ?_,ai Z .refl rep _ (.bl _)⟩;rw[<-fT U q];exact R
 ·next es=>
  obtain⟨v,ws,rfl,T,W⟩:=r.cons_inv;cases W.nil_inv;obtain⟨p,o,us,rfl,Y,U⟩:=T.fz_inv;cases q:boolsOf es with
  |none=>rw[q]at c;exact(ag c).elim
  |some bs=>
   rw[q]at c;refine⟨p,bs,rfl,.inl (.inr ⟨o,?_⟩),ai c .refl rep _ (.bl _)⟩;rw[<-fT U q];exact Y
 ·exact(ag c).elim
theorem wC(Z:X.calm=c_)(U:X.mg "all"=none)(Y:SE X E e m)(W:Gl X "all":=by rfl)(hs:eb [e] X.env=[(dV,h9 e X.env)]:=by rfl):SE X E (.Call (.Name "all" p) [e] [] pos) (fun ρ=>do let ds<-(do let x<-m ρ;let xs<-a_ [];a_ (x::xs));uE ds):=
 gE (zz Z) zA W U (by decide+kernel) (af Y aq hs) (by decide) (by decide) hs rfl
def cU:D->List D->M D
 | .lst k,[d]=>do let xs<-getL k;kI k (xs++[d])
 |_,_=>M.fail
def i6:D->List D->M D
 | .lst k,[.lst j]=>do let xs<-getL k;let ys<-getL j;kI k (xs++ys)
 | .lst k,[.fz ys]=>do let xs<-getL k;kI k (xs++ys)
 |_,_=>M.fail
def mO:D->List D->M D
 | .lst k,[.int i]=>do
  let xs<-getL k
  if 0<=i/\i<xs.length then
   match xs[i.toNat]? with
   |some y=>do let _<-kI k (xs.eraseIdx i.toNat);a_ y
   |none=>M.fail
  else M.fail
 |_,_=>M.fail
theorem uF{K:d_}{H:Hp}{p:dt}{xs:List V}(h:H p=ar (.lst xs)):KB K "list" (.ref p) H:=.inl ⟨rfl,xs,.of h⟩
def GE:D->M Unit
 | .lst _=>a_ ()
 |_=>M.fail
theorem sP{name:Str}{N:String}{f:D->List D->M D}{r:V->List V->Hp->VK->Prop}{Y:Pos}(R:Slot "list" name N)(P:typeOf (.builtin N)=a_ (.type "method_descriptor"))(C:Ky X N r)
  (A:JV X.K E f r) (u:SE X E o m) (I:SA X E (e::es) ms)
  (W:mh o name X.env (h9 o X.env)=h9 o X.env:=by rfl)
  (T:((nC pos (eb (e::es) X.env)).all (fun x=> !x.1) && (backToKw pos (keywordEach [] X.env)).all (fun x=>x.1.isSome)
   && decide ((e::es).length+([]:List QY).length+(if ([]:List QY).isEmpty then 0 else 1)<30))=true:=by rfl)
  (U:(Y.endLine==pos.line)=true:=by rfl) (hs:eb (e::es) X.env=(dV,h9 e X.env)::eb es X.env:=by rfl) (Z:(nC pos (eb es X.env)).any (·.1)=false:=by rfl):
  SE X E (.Call (.Attribute o name Y) (e::es) [] pos) (fun ρ=>do let x<-m ρ;GE x;let ds<-ms ρ;f x ds):=by
 refine PE.imp (IP Pp R P C u I W T U hs Z) fun σ H Q h=>?_;obtain⟨ι,S,ρ,rep,re,c⟩:=h;refine⟨ι,S,ρ,rep,re,ak (ah c) fun x L S1 t e1 rep1 c1 v J=>?_⟩;cases x with
 |lst k=>
  obtain⟨p,rfl,G⟩:=J.lst_inv;obtain⟨vs,B⟩:=rep1.isL (Mf G);have y:=ai (ah c1) .refl rep1;exact⟨uF B,L,S1,ρ,rep1,re.later rep e1,ak (ah y) fun ds O S2 z e2 rep2 w vs F=>A O S2 z (.lst k) ds (.ref p) vs Q rep2 (J.later rep1 e2) F w⟩
 |_=>exact(ag (ah c1)).elim
theorem wD:JV X.K E cU xI:=by
 intro ι S H d ds v vs Q rep r rs c;unfold cU at c;split at c
 ·next k d=>
  obtain⟨p,rfl,Z⟩:=r.lst_inv;obtain⟨w,ws,rfl,R,U⟩:=rs.cons_inv;cases U.nil_inv;obtain⟨es,us,_,O,T,P⟩:=a9 c rep Z;obtain⟨Y,W⟩:=iJ P rep Z (T.append (.cons R .nil));rw[LL]at Y;exact⟨p,us,w,rfl,rfl,O,LV (by simp at Y;omega) fZ,W _ .non⟩
 ·exact(ag c).elim
def uG:V->List V->Hp->VK->Prop:=fun x vs H Q=>∃l b xs zs,x= .ref l/\vs=[.ref b]/\H l=ar (.lst xs)/\Rd H b (.lst zs)/\xs.length+zs.length<=sizeLine/\Q .non (upd H l (.lst (xs++zs)))
theorem wF:Ky X "list.extend" uG:=by
 intro pins s σ H x vs v us Q I S N h;obtain⟨l,b,xs,zs,rfl,rfl,U,T,K,q⟩:=h;cases S;obtain⟨u,rfl,O⟩:=N.one;cases O;obtain⟨z,its,n,r,G,e⟩:=I.lstM U;obtain⟨J,Z,P,R,L,e2⟩:=Inv.lstR I T;have W:its.toArray.size+Z.toArray.size<=sizeLine:=by rw[LR,LR];omega
 have Y:¬ (!its.toArray.isEmpty && pd (its.toArray.size+Z.toArray.size))=true:=by
  rw[uj W,OF];exact MP
 refine PM F.slot_list_extend ⟨_,e,rfl⟩ F.entry_list_extend (F.args_list_extend_2 _ _)
  (AutoSeq1.list_extend_list_list_0 l its.toArray n b Z.toArray P Y (by rw[LR];omega) (by omega)) ⟨e,e2,?_⟩
 refine⟨.non,_,I.lset (its':=its++Z) U e (by simp) (r.append R) ?_,rfl,q⟩
 rw[LL];omega
theorem wG:JV X.K E i6 uG:=by
 intro ι S H d ds v vs Q rep r rs c;unfold i6 at c;split at c
 ·next k j=>
  obtain⟨p,rfl,Z⟩:=r.lst_inv;obtain⟨w,ws,rfl,O,T⟩:=rs.cons_inv;cases T.nil_inv;obtain⟨q,rfl,R⟩:=O.lst_inv;obtain⟨es,us,_,L,P,N⟩:=a9 c rep Z;obtain⟨fs,ys,_,I,W,J⟩:=a9 N rep R;obtain⟨Y,U⟩:=iJ J rep Z (P.append W);rw[LL]at Y;exact⟨p,q,us,ys,rfl,rfl,L,.inl I,LS Y fZ,U _ .non⟩
 ·next k fs=>
  obtain⟨p,rfl,Z⟩:=r.lst_inv;obtain⟨w,ws,rfl,O,T⟩:=rs.cons_inv;cases T.nil_inv;obtain⟨q,o,ys,rfl,R,W⟩:=O.fz_inv;obtain⟨es,us,_,L,P,N⟩:=a9 c rep Z;obtain⟨Y,U⟩:=iJ N rep Z (P.append W);rw[LL]at Y;exact⟨p,q,us,ys,rfl,rfl,L,.inr ⟨o,R⟩,LS Y fZ,U _ .non⟩
 ·exact(ag c).elim
theorem zB:JV X.K E mO A6:=by
 intro ι S H d ds v vs Q rep r rs c;unfold mO at c;split at c
 ·next k i=>
  obtain⟨p,rfl,W⟩:=r.lst_inv;obtain⟨w,ws,rfl,I,J⟩:=rs.cons_inv;cases J.nil_inv;rw[I.int_inv];obtain⟨es,us,F,G,R,Z⟩:=a9 c rep W;split at Z
  ·next hb=>
   cases q:es[i.toNat]? with
   |none=>rw[q]at Z;exact(ag Z).elim
   | some y=>
    rw[q]at Z;obtain⟨L,T,U⟩:=R.get' q;have hlen:=R.length;have N:Ext ι H ι (upd H p (.lst (us.eraseIdx i.toNat))):=sL (Mf W);have Y:=RelDs.eraseIdx i.toNat R;have O:=iJ (ah Z) rep W Y;have P:us.length<=lim+1:=by
     have:=O.1;rw[List.length_eraseIdx]at this;split at this<;>omega
    refine⟨p,us,i,i.toNat,L,rfl,rfl,G,by omega,by unfold lim at P;omega,?_,T,?_⟩
    ·unfold QL;simp only[show ¬ i<0 by omega,if_false]
     first|(rw[if_pos (by omega)])|(rw[if_pos (by simp;omega)])|(simp;omega)
    ·exact ai O.2 .refl (sM rep W Y) _ (U.later rep N)
  ·exact(ag Z).elim
 ·exact(ag c).elim
theorem iN{Z:Pos}(T:SE X E o m)(U:SE X E e n)
  (Y:mh o "append" X.env (h9 o X.env)=h9 o X.env:=by rfl)
  (W:(Z.endLine==pos.line)=true:=by rfl) (hs:eb [e] X.env=[(dV,h9 e X.env)]:=by rfl):
  SE X E (.Call (.Attribute o "append" Z) [e] [] pos) (fun ρ=>do let x<-m ρ;GE x;let ds<-(do let y<-n ρ;let ys<-a_ [];a_ (y::ys));cU x ds):=
 sP Pe Pf j9 wD T (af U aq hs) Y (by rw[hs];rfl) W hs rfl
theorem rC{Z:Pos}(T:SE X E o m)(U:SE X E e n)
  (Y:mh o "extend" X.env (h9 o X.env)=h9 o X.env:=by rfl)
  (W:(Z.endLine==pos.line)=true:=by rfl) (hs:eb [e] X.env=[(dV,h9 e X.env)]:=by rfl):
  SE X E (.Call (.Attribute o "extend" Z) [e] [] pos) (fun ρ=>do let x<-m ρ;GE x;let ds<-(do let y<-n ρ;let ys<-a_ [];a_ (y::ys));i6 x ds):=
 sP PySem.F.slot_list_extend PySem.F.type_list_extend wF wG T (af U aq hs) Y (by rw[hs];rfl) W hs rfl
theorem BC{Z:Pos}(T:SE X E o m)(U:SE X E e n)
  (Y:mh o "pop" X.env (h9 o X.env)=h9 o X.env:=by rfl)
  (W:(Z.endLine==pos.line)=true:=by rfl) (hs:eb [e] X.env=[(dV,h9 e X.env)]:=by rfl):
  SE X E (.Call (.Attribute o "pop" Z) [e] [] pos) (fun ρ=>do let x<-m ρ;GE x;let ds<-(do let y<-n ρ;let ys<-a_ [];a_ (y::ys));mO x ds):=
 sP PySem.F.slot_list_pop PySem.F.type_list_pop A7 zB T (af U aq hs) Y (by rw[hs];rfl) W hs rfl
theorem zF:KG X.K E jP Fj:=by
 intro ι S H G J I v1 v2 N Q rep P R U c;unfold jP at c;split at c
 ·next k j=>
  obtain⟨p,rfl,Y⟩:=P.lst_inv;obtain⟨es,us,_,O,W,Z⟩:=a9 c rep Y;cases q:zd es.length j with
  |none=>rw[q]at Z;exact(ag Z).elim
  |some at'=>
   rw[q]at Z;obtain⟨L,T⟩:=iJ (ah Z) rep Y (RelDs.set U at' W);refine⟨p,us,j,at',rfl,R.int_inv,O,by rw[<-W.length];exact q,?_⟩
   exact ai T .refl (sM rep Y (RelDs.set U at' W))
 ·exact(ag c).elim
theorem xU(I:SE X E o m)(O:SE X E i n)(U:∀v,P1 (.Subscript o i pos) X.env v=(do
   let ov<-y3 [v] (h9 o X.env);let iv<-y3 [v,ov] (h9 i X.env)
   K' pos
   y3 [v,ov,iv] (RQ ov iv v)
   release [v,ov,iv] []):=by intro _;rfl):SG X E (.Subscript o i pos) (fun d ρ=>do let x<-m ρ;let y<-n ρ;jP x y d;a_ ρ):=by
 refine PG.imp (F4 I O set_list U) fun v σ H Q h=>?_;obtain⟨ι,S,ρ,d,rep,re,r,c⟩:=h;refine⟨ι,S,ρ,rep,re,ak (ah c) fun x W S1 F e1 rep1 c1 v1 R=>?_⟩;refine⟨W,S1,ρ,rep1,re.later rep e1,ak (ah c1) fun y Y S2 N e2 rep2 L v2 T=>?_⟩;have Z:=(re.later rep e1).later rep1 e2;refine zF (E:=E) Y S2 N x y d v1 v2 v _ rep2 (R.later rep1 e2) T ((r.later rep e1).later rep1 e2) (ak (ah L) fun _ K G C P rep3 J=>?_);exact ai J .refl rep3 σ (Z.later rep2 P)
def aU(lo:Int)(n:Nat):List D:=(ey n).map fun i=>.int (lo+(i:Nat))
def kO:List D->M Iter
 |[.int j]=>if -(2 ^ 62)<=j/\j<2 ^ 62 then a_ ⟨aU 0 j.toNat,.none⟩else M.fail
 |_=>M.fail
def kf:List D->M Iter
 |[.int i,.int j]=>if -(2 ^ 62)<=i/\i<2 ^ 62/\ -(2 ^ 62)<=j/\j<2 ^ 62 then a_ ⟨aU i (j - i).toNat,.none⟩else M.fail
 |_=>M.fail
theorem lD{K:d_}{Y:Int}{n:Nat}{ι:List dt}{H:Hp}:ir K ⟨aU Y n,.none⟩ (Iv Y n) ι H:=by
 intro T Q S2 e rep ok i;refine⟨fun d hd=>?_,fun h=>?_⟩
 ·have Z:((ey n)[i]?).map (fun i:Nat=>D.int (Y+(i:Nat)))=ar d:=by
   have:(aU Y n)[i]? =ar d:=hd;unfold aU at this;rw[L3]at this;exact this
  have U:i<n:=by
   by_cases h:i<n
   ·exact h
   ·rw[My (by simp;omega)]at Z;cases Z
  rw[N9 U]at Z;cases Z;exact⟨U,fun x R S=>by obtain⟨rfl,rfl⟩:=S;exact⟨.refl,rep,.int _⟩⟩
 ·have h':(aU Y n).length<=i:=h;unfold aU at h';rw[LC,Mc]at h';exact h'
theorem dW(T:X.mg "range"=none)(Z:SE X E a m)(Y:Gl X "range":=by rfl)(hs:eb [a] X.env=[(dV,h9 a X.env)]:=by rfl):
  SI X E tg (.Call (.Name "range" p) [a] [] pos) (fun ρ=>do let ds<-(do let x<-m ρ;let xs<-a_ [];a_ (x::xs));kO ds):=by
 intro pins s σ H R I h;refine yT Y T (af Z aq hs) hs pins s σ H R I ?_;obtain⟨ι,S,ρ,rep,re,c⟩:=h;refine⟨ι,S,ρ,rep,re,ak (ah c) fun ds Q S1 P e1 rep1 c1 vs r=>?_⟩;unfold kO at c1;split at c1
 ·next j=>
  obtain⟨w,ws,rfl,U,W⟩:=r.cons_inv;cases W.nil_inv;split at c1
  ·next hb=>rw[U.int_inv];exact⟨j,rfl,hb.1,hb.2,ai c1 .refl rep1 _ lD⟩
  ·exact(ag c1).elim
 ·exact(ag c1).elim
theorem kg(N:X.mg "range"=none)(W:SE X E a m)(Y:SE X E b n)(U:Gl X "range":=by rfl)(hs:eb [a,b] X.env=[(dV,h9 a X.env),(dV,h9 b X.env)]:=by rfl)(Z:eb [b] X.env=[(dV,h9 b X.env)]:=by rfl):
  SI X E tg (.Call (.Name "range" p) [a,b] [] pos) (fun ρ=>do let ds<-(do let x<-m ρ;let xs<-(do let y<-n ρ;let ys<-a_ [];a_ (y::ys));a_ (x::xs));kf ds):=by
 intro pins s σ H R I h;refine yU U N (af W (af Y aq Z) (by rw[hs,Z])) hs Z pins s σ H R I ?_
 obtain⟨ι,S,ρ,rep,re,c⟩:=h;refine⟨ι,S,ρ,rep,re,ak (ah c) fun ds K S1 J e1 rep1 c1 vs r=>?_⟩;unfold kf at c1;split at c1
 ·next i j=>
  obtain⟨w,ws,rfl,O,T⟩:=r.cons_inv;obtain⟨G,Q,rfl,P,L⟩:=T.cons_inv;cases L.nil_inv;split at c1
  ·next Y=>rw[O.int_inv,P.int_inv];exact⟨i,j,rfl,Y,ai c1 .refl rep1 _ lD⟩
  ·exact(ag c1).elim
 ·exact(ag c1).elim
def Ja:D->M Iter
 | .lst k=>do let xs<-getL k;a_ ⟨xs,.some k⟩
 | .tup ds=>a_ ⟨ds,.none⟩
 | .ro ds=>a_ ⟨ds,.none⟩
 | .fz ds=>a_ ⟨ds,.none⟩
 |_=>M.fail
theorem uH{K:d_}{k:Nat}{a:dt}{xs:List D}{ι:List dt}{H:Hp}(Q:ι[k]? =ar a):ir K ⟨xs,.some k⟩ (Iu K a) ι H:=by
 intro R O S2 e rep ok i;obtain⟨vs,Y,T⟩:=rep.get k a xs (e.at Q) ok;refine⟨fun d hd=>?_,fun h=>⟨vs,.of Y,by rw[<-T.length];exact h⟩⟩
 obtain⟨v,U,S⟩:=T.get' hd;refine⟨⟨vs,v,.of Y,U⟩,fun x P Z=>?_⟩;obtain⟨rfl,Z⟩:=Z;have:=Z vs (.of Y);rw[U]at this;cases this;exact⟨.refl,rep,S⟩
theorem wH{K:d_}{a:dt}{ds:List D}{vs:List V}{ι:List dt}{S:aA}{H:Hp}(Y:Rep K ι H S)(T:H a=ar (.tup vs))(r:RelDs K ι H ds vs):ir K ⟨ds,.none⟩ (Ko K a) ι H:=by
 intro O L S2 e rep2 ok i;have Z:=(e.oth a _ T (Y.notIn T (by intro _ z;cases z)) (by intro _ z;cases z) (by intro _ z;cases z)).1
 have Q:=r.laterN Y e;refine⟨fun d hd=>?_,fun h=>⟨vs,.of Z,by rw[<-r.length];exact h⟩⟩
 obtain⟨v,R,P⟩:=Q.get' hd;refine⟨⟨vs,v,.of Z,R⟩,fun x N U=>?_⟩;obtain⟨rfl,U⟩:=U;have:=U vs (.of Z);rw[R]at this;cases this;exact⟨.refl,rep2,P⟩
theorem mP{K:d_}{a:dt}{ds:List D}{vs:List V}{ι:List dt}{S:aA}{H:Hp}(Z:Rep K ι H S)(Q:Do K H a vs)(r:RelDs K ι H ds vs):ir K ⟨ds,.none⟩ (Iu K a) ι H:=by
 intro N T S2 e rep2 ok i;have Y:Do K T a vs:=Q.imp (fun⟨o,h⟩=>⟨o,(e.oth a _ h (Z.notIn h (by intro _ z;cases z)) (by intro _ z;cases z) (by intro _ z;cases z)).1⟩) fun z=>z
 have P:=r.laterN Z e;have sq:iY K T a vs:=Y.sq;refine⟨fun d hd=>?_,fun h=>⟨vs,sq,by rw[<-r.length];exact h⟩⟩
 obtain⟨v,R,O⟩:=P.get' hd;refine⟨⟨vs,v,sq,R⟩,fun x L U=>?_⟩;obtain⟨rfl,U⟩:=U;have:=U vs sq;rw[R]at this;cases this;exact⟨.refl,rep2,O⟩
theorem i7(Q:SE X E e m):SI X E tg e (fun ρ=>do let x<-m ρ;Ja x):=by
 intro pins s σ H R I h;obtain⟨ι,S,ρ,rep,re,c⟩:=h;obtain⟨r,T,P,k⟩:=id (ah c);cases r with
 |ex x=>
  refine j6 Q pins s σ H R I ⟨ι,S,ρ,rep,re,.ex x,T,P,k⟩
 | ok d=>
  cases d with
  |tup ds=>
   refine F8 Q pins s σ H R I ⟨ι,S,ρ,rep,re,.ok (.tup ds),T,P,fun Z W e1 rep1 v U=>?_⟩;obtain⟨p,vs,rfl,Y,O⟩:=U.tup_inv;exact⟨p,rfl,⟨vs,.of Y⟩,ai (k Z W e1 rep1) .refl rep1 _ (wH rep1 Y O)⟩
  |lst j=>
   refine j6 Q pins s σ H R I ⟨ι,S,ρ,rep,re,.ok (.lst j),T,P,fun Z W e1 rep1 v U=>?_⟩;obtain⟨p,rfl,Y⟩:=U.lst_inv;obtain⟨es,us,_,N,K,L⟩:=a9 (k Z W e1 rep1) rep1 Y;exact⟨p,rfl,⟨us,.of N⟩,ai L .refl rep1 _ (uH Y)⟩
  |ro ds=>
   refine j6 Q pins s σ H R I ⟨ι,S,ρ,rep,re,.ok (.ro ds),T,P,fun Z W e1 rep1 v U=>?_⟩;obtain⟨p,vs,rfl,Y,O⟩:=U.ro_inv;exact⟨p,rfl,⟨vs,Y.sq⟩,ai (k Z W e1 rep1) .refl rep1 _ (mP rep1 Y O)⟩
  |fz ds=>
   refine j6 Q pins s σ H R I ⟨ι,S,ρ,rep,re,.ok (.fz ds),T,P,fun Z W e1 rep1 v U=>?_⟩;obtain⟨p,o,vs,rfl,Y,O⟩:=U.fz_inv;exact⟨p,rfl,⟨vs,.inl (.inr ⟨o,Y⟩)⟩,ai (k Z W e1 rep1) .refl rep1 _ (mP rep1 (.inl ⟨o,Y⟩) O)⟩
  |_=>exact j6 Q pins s σ H R I ⟨ι,S,ρ,rep,re,.ok _,T,P,fun Z W e1 rep1 v U=>(ag (k Z W e1 rep1)).elim⟩
theorem uI:cR X (.type "range") (fun xs H Q=>∃j,xs=[.int j]/\∀p,H p=none->Q (.ref p) (upd H p (.rng 0 j))):=by
 intro pins s σ H xs us Q I r h;obtain⟨j,rfl,q⟩:=h;obtain⟨u,rfl,Z⟩:=vals1 r;obtain⟨t,rfl⟩:=(show ∃t,u=oo j t from Z);refine call_range_1 ⟨.ref s.heap.objs.size,_,I.laid (o:=.rng 0 j) (fun b o e=>LB _ e) (LF _) ⟨_,_,_,LM _ rfl⟩,rfl,q _ (I.hok.fresh (LF _))⟩
theorem qL(J:X.calm=c_):cR X (.type "list") (fun xs H Q=>∃(p:dt) (j:Int),xs=[.ref p]/\H p=ar (.rng 0 j)/\ -(2 ^ 62)<=j/\j<=lim/\∀l,H l=none->Q (.ref l) (upd H l (.lst ((ey j.toNat).map fun i:Nat=>V.int (i:Nat))))):=by
 intro pins s σ H xs us Q I r h;obtain⟨p,j,rfl,G,O,K,q⟩:=h;obtain⟨u,rfl,T⟩:=vals1 r;cases (show u=er p from T);obtain⟨t,u,v,R⟩:=(show bj X.prog X.w H s.heap p (.rng 0 j)from I.hok p _ G);have U:Builtin.Range.rangeSize 0 j 1=(j.toNat:Int):=by rw[rangeSize_one];split<;>omega
 have Z:j.toNat<=lim:=by omega
 refine call_list_range (I.ok.hd J) R (small_one (by omega) (by omega) O (by unfold lim at K;omega)) U (by unfold lim at Z;omega) fun h' N acc P S F hit=>?_
 refine⟨.ref s.heap.objs.size,_,I.laid (t':=N) S (LF _) (o:=.lst ((ey j.toNat).map fun i:Nat=>V.int (i:Nat))) ?_,rfl,q _ (I.hok.fresh (LF _))⟩;refine⟨by rw[LC,Mc];exact LS Z fZ,acc.toList,P,?_,by simpa using F⟩
 obtain⟨hs,L⟩:=hit;have gen:∀(l:List aC) (f:Nat->Int),(∀i v,l[i]? =ar v->∃t,v=oo (f i) t)->bb ((ey l.length).map fun i:Nat=>V.int (f i)) l:=by
  intro l
  induction l with
  |nil=>intro f _;exact .nil
  |cons x l ih=>
   intro f hf;rw[Mg,NH,LZ,Mi];obtain⟨t,W⟩:=hf 0 x rfl;refine .cons ⟨t,W⟩ ?_;exact ih (fun i=>f (i+1)) fun i v Y=>hf (i+1) v (by simpa using Y)
 have:=gen acc.toList (fun i=>(i:Int)) fun i v Y=>by
  obtain⟨t,W⟩:=L i v (by simpa using Y)
  exact⟨t,by rw[W];congr 1;omega⟩
 rw[Nv,hs]at this;exact this
def eT:List D->M D
 |[.int j]=>if -(2 ^ 62)<=j/\j<=lim then bh (aU 0 j.toNat)else M.fail
 |_=>M.fail
theorem pG{K:d_}{ι:List dt}{H:Hp}:∀(l:List Nat),RelDs K ι H (l.map fun i:Nat=>D.int (0+(i:Nat))) (l.map fun i:Nat=>V.int (i:Nat))
 |[]=>.nil
 |x::l=>.cons (by show RelD K ι H (D.int (0+(x:Int))) (V.int (x:Int));rw[Of];exact .int _) (pG l)
theorem sQ(N:X.calm=c_)(K:X.mg "list"=none)(Y:X.mg "range"=none)(T:SE X E a m)(R:Gl X "list":=by rfl)(W:Gl X "range":=by rfl)(hs:eb [a] X.env=[(dV,h9 a X.env)]:=by rfl)
  (Z:eb [.Call (.Name "range" q) [a] [] pos2] X.env=[(dV,h9 (.Call (.Name "range" q) [a] [] pos2) X.env)]:=by rfl):
  SE X E (.Call (.Name "list" p) [.Call (.Name "range" q) [a] [] pos2] [] pos) (fun ρ=>do let ds<-(do let x<-m ρ;let xs<-a_ [];a_ (x::xs));eT ds):=by
 refine PE.imp (iG (qL N) R K (by decide+kernel) (dj (iG uI W Y (by decide+kernel) (af T aq hs) (by decide) (by decide) hs rfl) gy Z) (by decide) (by decide) Z rfl) fun σ H Q h=>?_
 obtain⟨ι,S,ρ,rep,re,c⟩:=h;refine⟨ι,S,ρ,rep,re,ak (ah c) fun ds J S1 I e1 rep1 c1 vs r=>?_⟩;unfold eT at c1;split at c1
 ·next j=>
  obtain⟨w,ws,rfl,L,O⟩:=r.cons_inv;cases O.nil_inv;split at c1
  ·next hb=>
   rw[L.int_inv];refine⟨j,rfl,fun p U=>?_⟩;have rep2:=ff (o:=.rng 0 j) rep1 U;refine⟨p,j,rfl,aM,hb.1,hb.2,?_⟩;have P:=eR c1 (dU (o:=.rng 0 j) U);exact(bo P rep2 (pG (ey j.toNat))).2
  ·exact(ag c1).elim
 ·exact(ag c1).elim
end
section
variable {X:Cx}{E:XD}{a b c d e:Expr}{m n l k:TM}{pos p2:Pos}
theorem GF:SE X E (.Dict [] [] pos) (fun _=>a_ .emp):=by
 intro pins s σ H Q I h;obtain⟨ι,S,ρ,rep,re,Y⟩:=h;have big:Q0<s.heap.objs.size:=O5 (by decide) (I.mod.glob.keeps I.bk).lt
 have hf:H s.heap.objs.size=none:=I.hok.fresh (LF _);have Z:bj X.prog X.w (upd H s.heap.objs.size (.dK [])) (s.heap.push {cls:=.type "dict",data:=.dict #[]}) s.heap.objs.size (.dK []):=⟨L6 _,beq_eq_false_iff_ne.mpr (j7 (LQ big)),[],.nil,Heap.DictOf.new s.heap⟩;refine wpAny_Dict_empty ⟨.ref s.heap.objs.size,upd H s.heap.objs.size (.dK []),I.laid (t':=s.toks) (fun _ _ q=>LB _ q) (LF _) Z,rfl,?_⟩;exact ai Y (dU hf) (ff rep hf) _ (.emp aM)
end
section
variable {X:Cx}{E:XD}{e:Expr}{m:TM}{te:TE}{pos p1 p2 p3:Pos}{j:Nat}
end
def insI(x:Int):List Int->List Int
 |[]=>[x]
 |y::r=>if x<=y then x::y::r else y::insI x r
def sortI:List Int->List Int
 |[]=>[]
 |x::r=>insI x (sortI r)
theorem insI_perm(x:Int):∀l,(insI x l).Perm (x::l)
 |[]=>.refl _
 |y::r=>by
  unfold insI;split
  ·exact .refl _
  ·exact(G4 y (insI_perm x r)).trans (List.Perm.swap x y r)
theorem sortI_perm:∀l,(sortI l).Perm l
 |[]=>.refl _
 |x::r=>(insI_perm x _).trans (G4 x (sortI_perm r))
theorem nF(x:Int):∀{l:List Int},l.Pairwise (· <=·)->(insI x l).Pairwise (· <=·)
 |[],_=>by simp[insI]
 | y::r,h=>by
  obtain⟨Y,X⟩:=MK.mp h;unfold insI;split
  ·next c=>
   refine MK.mpr ⟨fun z Z=>?_,h⟩;rcases LY.mp Z with rfl|Z
   ·exact c
   ·exact Int.le_trans c (Y z Z)
  ·next c=>
   refine MK.mpr ⟨fun z Z=>?_,nF x X⟩;rcases LY.mp ((insI_perm x r).mem_iff.mp Z)with rfl|Z
   ·omega
   ·exact Y z Z
theorem lE:∀l,(sortI l).Pairwise (· <=·)
 |[]=>.nil
 |x::r=>nF x (lE r)
section
variable {X:Cx}{E:XD}{e:Expr}{m:TM}{pos:Pos}
theorem sR:cR X (.builtin "sorted") (fun xs H Q=>∃(p:dt) (ns:List Int),xs=[.ref p]/\iY X.K H p (ns.map V.int)/\ns.length<64/\∀l,H l=none->Q (.ref l) (upd H l (.lst ((sortI ns).map V.int)))):=by
 intro pins s σ H xs us Q I r h;obtain⟨p,ns,rfl,O,R,q⟩:=h;obtain⟨u,rfl,U⟩:=vals1 r;cases (show u=er p from U);obtain⟨its,Y,T,L⟩:=I.list O;have S:m3 its ns:=Oz Y;have hlen:=Y.length;rw[LC]at hlen;refine sorted_ints T.isList S (by omega) fun out Z a1 a2 P=>?_
 have en:Z=sortI ns:=W.lks_uniq (a2.trans (sortI_perm ns).symm) P (lE ns);subst en;obtain⟨c,N⟩:=sortedAll_at s.heap its out;have hf:H (s.heap.objs.size+1)=none:=I.hok.fresh (N8 _);refine⟨.ref (s.heap.objs.size+1),_,I.laid (t':=s.toks) (o:=.lst ((sortI ns).map V.int)) (fun b o e=>sortedAll_old e) (N8 _) ⟨?_,out.toList,c,kb a1,N⟩,rfl,q _ hf⟩;rw[LC,(sortI_perm ns).length_eq,ML];omega
theorem pH{K:d_}{ι:List dt}{H:Hp}:∀ns:List Int,RelDs K ι H (ns.map D.int) (ns.map V.int)
 |[]=>.nil
 |n::r=>.cons (.int n) (pH r)
end
end S3
namespace S3
open PySem PySem.Spec PySem.W PyProof.Rows L2
theorem pI{h:gd}:∀{vs:List aC},(∀v∈vs,∃a o us n i t,v= .ref a/\h.get? a=ar o/\o.cls= .type "tuple"/\o.data= .seq us n/\us[0]? =ar (oo i t))->
  ∃fs,KatTups h vs fs/\fs.length=vs.length/\∀f∈fs,∃i t,f=oo i t
 |[],_=>⟨[],.nil,rfl,fun _ z=>nomatch z⟩
 |v::vs,hv=>by
  obtain⟨a,o,us,n,i,t,rfl,e1,e2,Y,X⟩:=hv v LX;obtain⟨fs,k1,k2,k3⟩:=pI fun Z h'=>hv Z (LN _ h');refine⟨_::fs,.cons e1 e2 Y X k1,by simp[k2],fun f hf=>?_⟩
  rcases LY.mp hf with rfl|hf
  ·exact⟨i,t,rfl⟩
  ·exact k3 f hf
theorem i8:∀ns:List Int,HT.lexLt ns ns=dV
 |[]=>rfl
 |n::r=>by rw[HT.lexLt_cons,if_pos rfl];exact i8 r
theorem wI:∀{a b c:List Int},HT.lexLt a b=c_->HT.lexLt b c=c_->HT.lexLt a c=c_
 |[],[],c,h,_=>by cases h
 |[],_::_,[],_,h=>by cases h
 |[],_::_,_::_,_,_=>rfl
 |_::_,[],c,h,_=>by cases h
 |_::_,_::_,[],_,h=>by cases h
 | x::a,y::b,z::c,h1,h2=>by
  rw[HT.lexLt_cons]at h1 h2⊢;split at h1
  ·next e=>
   subst e;split at h2
   ·next e2=>subst e2;rw[if_pos rfl];exact wI h1 h2
   ·next e2=>rw[if_neg e2];exact h2
  ·next e=>
   have Y:x<y:=MO h1;split at h2
   ·next e2=>subst e2;rw[if_neg e];exact h1
   ·next e2=>
    have Z:y<z:=MO h2;rw[if_neg (by omega)];exact L7 (by omega)
theorem sS:∀{a b c:List Int},HT.lexLt a c=c_->HT.lexLt a b=c_\/HT.lexLt b c=c_
 |a,b,[],h=>by cases a<;>cases h
 |[],[],_::_,_=>.inr rfl
 |[],_::_,_::_,_=>.inl rfl
 |_::_,[],_::_,_=>.inr rfl
 | x ::a,y::b,z::c,h=>by
  rw[HT.lexLt_cons]at h;rw[HT.lexLt_cons,HT.lexLt_cons];split at h
  ·next e=>
   subst e;by_cases e2:x=y
   ·subst e2;rw[if_pos rfl,if_pos rfl];exact sS h
   ·rw[if_neg e2,if_neg (j7 e2)];rcases Int.lt_or_gt_of_ne e2 with l|l
    ·exact .inl (L7 l)
    ·exact .inr (L7 l)
  ·next e=>
   have h':x<z:=MO h;by_cases e2:x=y
   ·subst e2;rw[if_neg e];exact .inr (L7 h')
   ·rw[if_neg e2];by_cases l:x<y
    ·exact .inl (L7 l)
    ·refine .inr ?_;rw[if_neg (by omega)];exact L7 (by omega)
theorem BD(x:bj P w H h a o):∃Z,h.get? a=ar Z:=by
 cases o with
 |lst xs=>obtain⟨_,_,_,_,e⟩:=x;exact⟨_,e⟩
 |tup xs=>obtain⟨_,_,_,Z,e,_⟩:=x;exact⟨_,e⟩
 |dK kvs=>obtain⟨_,_,_,_,o,_,_,e,_⟩:=x;exact⟨_,e⟩
 |dT kvs=>obtain⟨_,_,_,_,o,_,_,e,_⟩:=x;exact⟨_,e⟩
 |set S n=>obtain⟨o,_,_,_,e,_⟩:=x;exact⟨_,e⟩
 |ins C dx fs=>obtain⟨_,_,_,e,_⟩:=x;exact⟨_,e⟩
 |own y=>exact x
 |xd fs=>obtain⟨_,⟨_,_,_,e,_⟩,_⟩:=x;exact⟨_,e⟩
 |rng lo hi=>obtain⟨_,_,_,e⟩:=x;exact⟨_,e⟩
 |frz Z u=>exact⟨_,x.1⟩
 |tbl ps=>exact⟨_,show h.get? a=ar _ from x⟩
 |met f y=>exact⟨_,show h.get? a=ar _ from x⟩
 |ext φ=>exact x.2.1
section
variable {X:Cx}{pins:List (dt×Obj)}{σ:L2.St}{H:Hp}{s:b_}
theorem wJ{us:List aC}(I:L2.Inv X pins σ H s)(P:Fr X.base X.env.locals s.heap m)(F:Fr X.base X.env.locals h2 m)
  (U:∀b o,b≠X.env.locals->s.heap.get? b=ar o->h2.get? b=ar o) (R:s.heap.get? d=none) (O:h2.get? d=ar {cls:=.type "list",data:=.seq us.toArray n}) (E:bb ys us) (Q:ys.length<=sizeLine):
  L2.Inv X pins σ (upd H d (.lst ys)) {s with heap:=h2}:=by
 have Y:H d=none:=by
  cases e:H d with
  |none=>rfl
  |some o=>obtain⟨N,q⟩:=BD (I.hok d o e);rw[R]at q;cases q
 have W:∀b o,H b=ar o->b≠X.env.locals:=fun b o e z=>by rw[z,I.free]at e;cases e
 have old:∀b o,s.heap.get? b=ar o->b≠d:=fun b o e z=>by rw[z,R]at e;cases e
 refine I.step (g':=s.gens) (d':=s.drawn) (t':=s.toks) (ch:=[]) (fun _ z=>nomatch z) (fun b o Z _ _ e _=>U b o Z e) (fun b o Z _ _ e _=>⟨o.slots,U b o Z e⟩)
  (fun b o _ e n=>by rw[aB (old b o e)];exact n) (fun b o _ e=>?_) (fun b xs e=>by rw[aB (aE e Y)];exact e) (fun b N u e=>by rw[aB (aE e Y)];exact e)
  (fun b A e=>⟨#[],by rw[aB (aE e Y),e];simp⟩) (fun B hm=>?_) (fun b u e=>?_) I.bare
 ·by_cases Z:b=X.env.locals
  ·obtain⟨C,_,_,K,_⟩:=F.ns;exact⟨C,by rw[Z];exact K⟩
  ·exact⟨o,U b o Z e⟩
 ·have:B=m:=by
   obtain⟨y,es,ep,e1,J,_,g1⟩:=hm;obtain⟨o2,L,G,e2,S,_,g2⟩:=P.ns;rw[e1]at e2;cases e2;rw[J]at S;cases S;funext x;rw[<-g1 x, <-g2 x]
  rw[this];exact F.ns
 ·by_cases Z:b=d
  ·subst Z;rw[aM]at e;cases e;exact⟨Q,us,n,E,O⟩
  ·rw[aB Z]at e;refine(I.hok b u e).stay (fun c v T z=>U c v ?_ z) (fun c z=>by rw[aB (aE z Y)];exact z) fun c xs z=>by rw[aB (aE z Y)];exact z
   rcases T with rfl|T
   ·exact W _ _ e
   ·exact W _ _ T
end
section
variable {X:Cx}
end
end S3
namespace S4
open PySem PySem.SetTable
def tb(m:Nat):SetTable:=⟨m, #[], #[],0,c_,0,c_⟩
def bM(m:Nat)(h:Int):Nat->Probe
 |0=>(tb m).probeStart h
 |k+1=>(tb m).advance (bM m h k)
theorem GG(t:k')(h:Int)(k:Nat):t.advance (bM t.mask h k)=bM t.mask h (k+1):=rfl
theorem zG(t:k')(p:Probe)(Z:p.dummy=none):(t.advance p).dummy=none:=by
 unfold Rw;split
 ·exact Z
 ·exact Z
theorem pJ(m:Nat)(h:Int):∀k,(bM m h k).dummy=none
 |0=>rfl
 |k+1=>zG _ _ (pJ m h k)
def fM(m:Nat)(h:Int):Nat->Nat×Nat
 |0=>(RD h % (m+1),RD h)
 |n+1=>leap m (fM m h n).1 (fM m h n).2
def run(m i:Nat):Nat:=Ra m i - i
theorem GH(m i:Nat):run m i<=9:=by
 unfold run Ra;split<;>omega
def qD(m:Nat)(h:Int):Nat->Nat
 |0=>0
 |n+1=>qD m h n+run m (fM m h n).1+1
theorem BE(m:Nat)(h:Int):∀n,qD m h n<=10*n
 |0=>LF _
 |n+1=>by
  have:=BE m h n;have:=GH m (fM m h n).1;show qD m h n+run m (fM m h n).1+1<=10*(n+1);omega
theorem sT(m:Nat)(h:Int)(n:Nat)(e:bM m h (qD m h n)=⟨(fM m h n).1,run m (fM m h n).1,(fM m h n).1,(fM m h n).2,none⟩):
  ∀r,r<=run m (fM m h n).1->bM m h (qD m h n+r)=⟨(fM m h n).1+r,run m (fM m h n).1 - r,(fM m h n).1,(fM m h n).2,none⟩
 |0,_=>e
 |r+1,hr=>by
  have Z:=sT m h n e r (by omega)
  show(tb m).advance (bM m h (qD m h n+r))=_;rw[Z];unfold Rw;simp only;rw[if_pos (by omega)]
  simp only[Probe.mk.injEq,and_true,true_and];omega
theorem pK(m:Nat)(h:Int):∀n,bM m h (qD m h n)=⟨(fM m h n).1,run m (fM m h n).1,(fM m h n).1,(fM m h n).2,none⟩
 |0=>rfl
 |n+1=>by
  have e:=sT m h n (pK m h n) _ (LF _);show(tb m).advance (bM m h (qD m h n+run m (fM m h n).1))=_;rw[e];unfold Rw;simp only;rw[if_neg (by omega)]
  rfl
theorem sU(m:Nat)(h:Int)(n r:Nat)(Z:r<=run m (fM m h n).1):(bM m h (qD m h n+r)).j=(fM m h n).1+r:=by
 rw[sT m h n (pK m h n) r Z]
theorem xV(m:Nat)(h:Int):∀n,(fM m h n).2=RD h / 32 ^ n
 |0=>by simp[fM]
 |n+1=>by
  show(fM m h n).2 / 32=_;rw[xV m h n,Nat.div_div_eq_div_mul,Nat.pow_succ]
theorem DW(h:Int):RD h<2 ^ 64:=by
 unfold RD;have Z:0<=h % (2 ^ 64:Int):=NM _ (by decide)
 have Y:h % (2 ^ 64:Int)<2 ^ 64:=Nl _ (by decide)
 omega
theorem KL(m:Nat)(h:Int)(n:Nat):(fM m h (13+n)).2=0:=by
 rw[xV];refine Nat.div_eq_of_lt (LV (DW h) ?_);have:(2:Nat) ^ 64<=32 ^ 13:=by decide
 exact LS this (Nat.pow_le_pow_right (by decide) (by omega))
def Jb(m:Nat):Nat->Nat->Nat
 |0,a=>a
 |n+1,a=>(Jb m n a*5+1) % (m+1)
theorem wK(m:Nat)(h:Int):∀n,(fM m h (13+n)).1=Jb m n (fM m h 13).1
 |0=>rfl
 |n+1=>by
  show((fM m h (13+n)).1*5+1+(fM m h (13+n)).2 / 32) % (m+1)=(Jb m n (fM m h 13).1*5+1) % (m+1);rw[KL,wK m h n]
theorem BF(m:Nat)(h:Int):∀n,(fM m h n).1<m+1
 |0=>Pg _ (by omega)
 |n+1=>Pg _ (by omega)
theorem KN:∀a,a<8->∀j,j<8->∃n,n<8/\Jb 7 n a=j:=by decide+kernel
theorem Jc:∀a,a<32->∀j,j<32->∃n,n<32/\Jb 31 n a=j:=by decide+kernel
def Fm(m:Nat):Prop:=m=7\/m=31
theorem BG(Y:Fm m)(h:Int)(j:Nat)(W:j<=m):∃n,n<m+14/\(fM m h n).1=j:=by
 rcases Y with rfl|rfl
 ·obtain⟨n,X,Z⟩:=KN _ (BF 7 h 13) j (by omega)
  exact⟨13+n,by omega,by rw[wK];exact Z⟩
 ·obtain⟨n,X,Z⟩:=Jc _ (BF 31 h 13) j (by omega)
  exact⟨13+n,by omega,by rw[wK];exact Z⟩
theorem cover(X:Fm m)(h:Int)(j:Nat)(Y:j<=m):∃K,K<10*RE m/\(bM m h K).j=j:=by
 obtain⟨n,W,Z⟩:=BG X h j Y;refine⟨qD m h n,?_,by rw[pK];exact Z⟩
 have:=BE m h n;unfold RE;omega
theorem rD(h:i<m+1):i+run m i<=m:=by
 unfold run Ra;split<;>omega
theorem GI{p:Probe}(h:p.j+p.more<=m):((tb m).advance p).j+((tb m).advance p).more<=m:=by
 unfold Rw;split
 ·simp only;omega
 ·simp only[leap];exact rD (Pg _ (by omega))
theorem rE(m:Nat)(h:Int):∀k,(bM m h k).j+(bM m h k).more<=m
 |0=>rD (Pg _ (by omega))
 |k+1=>GI (rE m h k)
theorem DX(m:Nat)(h:Int)(k:Nat)(_:Fm m):(bM m h k).j<=m:=LS (NB _ _) (rE m h k)
def DY(xs:Array Nat):Prop:=∀(i j a b:Nat),i<j->xs[i]? =ar a->xs[j]? =ar b->a<b
theorem pL(X:DY xs):∀(fuel lo hi:Nat),lo<=hi->hi<=xs.size->hi - lo<=fuel->(∀(i a:Nat),i<lo->xs[i]? =ar a->a<j)->(∀(i a:Nat),hi<=i->xs[i]? =ar a->j<=a)->
  Rb xs j fuel lo hi<=xs.size/\(∀(i a:Nat),i<Rb xs j fuel lo hi->xs[i]? =ar a->a<j)/\(∀(i a:Nat),Rb xs j fuel lo hi<=i->xs[i]? =ar a->j<=a)
 |0,lo,hi,h1,h2,h3,h4,h5=>by
  have:lo=hi:=by omega
  subst this;exact⟨h2,h4,h5⟩
 | fuel+1,lo,hi,h1,h2,h3,h4,h5=>by
  unfold Rb;by_cases hlt:lo<hi
  ·rw[if_pos hlt];simp only;have Z:(lo+hi) / 2<xs.size:=by omega
   have U:xs.getD ((lo+hi) / 2) j=xs[(lo+hi) / 2]:=by simp[Rc,Z]
   have Y:xs[(lo+hi) / 2]? =ar xs[(lo+hi) / 2]:=LP Z;rw[U];split
   ·next hc=>
    refine pL X fuel _ hi (by omega) h2 (by omega) (fun i a W e=>?_) h5
    by_cases he:i=(lo+hi) / 2
    ·subst he;rw[Y]at e;cases e;exact hc
    ·exact O5 (X i _ a _ (by omega) e Y) hc
   ·next hc=>
    refine pL X fuel lo _ (by omega) (by omega) (by omega) h4 (fun i a W e=>?_)
    by_cases he:i=(lo+hi) / 2
    ·subst he;rw[Y]at e;cases e;omega
    ·have:=X _ i _ a (by omega) Y e
     omega
  ·rw[if_neg hlt];have:lo=hi:=by omega
   subst this;exact⟨h2,h4,h5⟩
theorem pM(Z:DY xs)(j:Nat):wh xs j<=xs.size/\(∀(i a:Nat),i<wh xs j->xs[i]? =ar a->a<j)/\(∀(i a:Nat),wh xs j<=i->xs[i]? =ar a->j<=a):=
 pL Z xs.size 0 xs.size (L6 _) (LF _) (by omega) (fun _ _ h=>absurd h (PD _)) fun i a Y e=>by
  rw[MY Y]at e;cases e
theorem wL(Z:DY xs)(h:xs[i]? =ar j):wh xs j=i:=by
 obtain⟨_,W,X⟩:=pM Z j;rcases Ph (wh xs j) i with l|l|l
 ·have Y:wh xs j<xs.size:=O5 l (L8.mp h).1;have e:xs[wh xs j]? =ar xs[wh xs j]:=LP Y;have T:=Z _ _ _ _ l e h;have U:=X _ _ (LF _) e;omega
 ·exact l
 ·have:=W i j l h;omega
theorem mQ{t:k'}(h:t.slot j= .live i):t.place[i]? =ar j:=by
 unfold slot at h;simp only at h;split at h
 ·next hc=>cases h;exact Rl hc
 ·split at h<;>cases h
theorem oz{t:k'}(Z:DY t.place)(h:t.place[i]? =ar j):t.slot j= .live i:=by
 unfold slot;simp only;rw[wL Z h,h];simp
theorem xW{t:k'}(Z:t.dummies= #[])(j:Nat):(∃i,t.slot j= .live i)\/t.slot j= .empty:=by
 unfold slot;simp only;rw[Z];split
 ·exact .inl ⟨_,rfl⟩
 ·exact .inr (by simp[has])
theorem wM{t:k'}(Z:DY t.place)(h:t.slot j= .empty):∀(i:Nat),t.place[i]? ≠ar j:=fun i e=>by
 rw[oz Z e]at h;cases h
theorem xX(Z:DY xs)(h:∀(j:Nat),j<n->∃i:Nat,xs[i]? =ar j):∀(j:Nat),j<n->∃i:Nat,j<=i/\xs[i]? =ar j
 |0,hj=>by obtain⟨i,e⟩:=h 0 hj;exact⟨i,L6 _,e⟩
 |j+1,hj=>by
  obtain⟨i,W,Y⟩:=xX Z h j (by omega)
  obtain⟨X,e⟩:=h (j+1) hj;refine⟨X,?_,e⟩;rcases Ph i X with l|l|l
  ·omega
  ·subst l;rw[Y]at e;cases e
  ·have:=Z _ _ _ _ l e Y;omega
theorem zH{t:k'}(Y:DY t.place)(X:t.dummies= #[])(hs:t.place.size<=t.mask):∃j,j<=t.mask/\t.slot j= .empty:=by
 apply O6;intro Z;have:∀(j:Nat),j<t.mask+1->∃i:Nat,t.place[i]? =ar j:=fun j T=>by
  rcases xW X j with⟨i,e⟩|e
  ·exact⟨i,mQ e⟩
  ·exact absurd ⟨j,by omega,e⟩ Z
 obtain⟨i,U,W⟩:=xX Y this t.mask (by omega)
 have:=(L8.mp W).1;omega
theorem xY{t:k'}(W:t.dummies= #[])(Y:Nat->Int)(h:Int)(K:Nat)(X:t.slot (bM t.mask h K).j= .empty):∀(fuel k:Nat),k<=K->K - k<fuel->
    ∃Z,k<=Z/\Z<=K/\(∀m,k<=m->m<Z->∃i,t.slot (bM t.mask h m).j= .live i/\Y i≠h)/\
      ((t.slot (bM t.mask h Z).j= .empty/\RF t Y h fuel (bM t.mask h k)=ar (.empty (bM t.mask h Z).j none))\/
       (∃i,t.slot (bM t.mask h Z).j= .live i/\Y i=h/\RF t Y h fuel (bM t.mask h k)=ar (.candidate (bM t.mask h Z).j i (bM t.mask h (Z+1)))))
  |0,k,h1,h2=>by omega
  | fuel+1,k,h1,h2=>by
    unfold RF;rcases xW W (bM t.mask h k).j with⟨i,e⟩|e
    · rw[e]
      simp only;by_cases hh:Y i=h
      · rw[if_pos (by simpa using hh)]
        exact⟨k,LF _,h1,fun m a b=>by omega,.inr ⟨i,e,hh,rfl⟩⟩
      · rw[if_neg (by simpa using hh)]
        have T:k≠K:=fun z=>by subst z;rw[X]at e;cases e
        obtain⟨Z,g1,g2,g3,U⟩:=xY W Y h K X fuel (k+1) (by omega) (by omega)
        refine⟨Z,by omega,g2,fun m a b=>?_,?_⟩
        · by_cases hm:m=k
          · subst hm;exact⟨i,e,hh⟩
          · exact g3 m (by omega) b
        · rw[GG];exact U
    · rw[e]
      simp only[pJ];exact⟨k,LF _,h1,fun m a b=>by omega,.inl ⟨e,rfl⟩⟩
abbrev Ent:=Int×aC
def At(pl:Array Nat)(es:Array Ent)(j:Nat)(e:Ent):Prop:=∃i:Nat,pl[i]? =ar j/\es[i]? =ar e
structure TPre(t:k')(es:Array Ent):Prop where
 msk:Fm t.mask
 dum:t.dummies= #[]
 siz:t.place.size=es.size
 ris:DY t.place
 inb:∀(i a:Nat),t.place[i]? =ar a->a<=t.mask
 way:∀(j:Nat) (e:Ent),At t.place es j e->∃k,(bM t.mask e.1 k).j=j/\∀m,m<k->∃e',At t.place es (bM t.mask e.1 m).j e'
structure TOk(t:k')(es:Array Ent):Prop extends TPre t es where
 few:es.size*5<t.mask*3
theorem TPre.fits(k:TPre t es)(h:es.size<=t.mask):t.fits es.size=true:=by
 unfold SetTable.fits fill;rw[k.siz,k.dum];simpa using h
theorem TOk.le(k:TOk t es):es.size<=t.mask:=by
 have:=k.few;omega
theorem TPre.at_of{t:k'}{es:Array Ent}(k:TPre t es){i j:Nat}(h:t.place[i]? =ar j):∃e,es[i]? =ar e/\At t.place es j e:=by
 have Z:i<es.size:=by rw[<-k.siz];exact(L8.mp h).1
 exact⟨es[i],LP Z,i,h,LP Z⟩
theorem BH(Z:Bool):TOk (G_ 0 0 Z) #[] where
 msk:=.inl rfl
 dum:=rfl
 siz:=rfl
 ris:=fun i j a b _ h _=>by simp[G_]at h
 inb:=fun i a h=>by simp[G_]at h
 way:=fun j e ⟨i,h,_⟩=>by simp[G_]at h
 few:=by show 0*5<7*3;decide
theorem eJ{α:Type}(xs:Array α)(p:Nat)(x:α)(Z:p<=xs.size)(i:Nat):(fb xs p x)[i]? =if i<p then xs[i]? else if i=p then ar x else xs[i - 1]? :=by
 rw[<-Me,SetTable.toList_insertAt];have Y:(xs.toList.take p).length=p:=by simp[Z]
 by_cases h1:i<p
 ·rw[if_pos h1,Mm (by omega),Pb h1,Me]
 ·rw[if_neg h1,NV (by omega),Y]
  by_cases h2:i=p
  ·subst h2;simp
  ·rw[if_neg h2];obtain⟨d,hd⟩:∃d,i - p=d+1:=⟨i - p - 1,by omega⟩
   rw[hd,List.getElem?_cons_succ,Ol,show p+d=i - 1 by omega,Me]
theorem pN{α:Type}(xs:Array α)(p:Nat)(x:α):(fb xs p x).size=xs.size+1:=by
 have:=(SetTable.insertAt_perm xs p x).length_eq;simpa using this
theorem BI{X:Array Nat}{es:Array Ent}(hs:X.size=es.size)(Y:p<=X.size)(W:Nat)(U:Ent):
  At (fb X p j) (fb es p e) W U↔At X es W U\/(W=j/\U=e):=by
 have Z:p<=es.size:=by rw[<-hs];exact Y
 constructor
 ·rintro⟨i,h1,h2⟩;rw[eJ _ _ _ Y]at h1;rw[eJ _ _ _ Z]at h2;by_cases c1:i<p
  ·rw[if_pos c1]at h1 h2;exact .inl ⟨i,h1,h2⟩
  ·rw[if_neg c1]at h1 h2;by_cases c2:i=p
   ·rw[if_pos c2]at h1 h2;cases h1;cases h2;exact .inr ⟨rfl,rfl⟩
   ·rw[if_neg c2]at h1 h2;exact .inl ⟨_,h1,h2⟩
 ·rintro(⟨i,h1,h2⟩|⟨rfl,rfl⟩)
  ·by_cases c1:i<p
   ·exact⟨i,by rw[eJ _ _ _ Y,if_pos c1];exact h1,by rw[eJ _ _ _ Z,if_pos c1];exact h2⟩
   ·exact⟨i+1,by rw[eJ _ _ _ Y,if_neg (by omega),if_neg (by omega)];exact h1,by rw[eJ _ _ _ Z,if_neg (by omega),if_neg (by omega)];exact h2⟩
  ·exact⟨p,by rw[eJ _ _ _ Y,if_neg (by omega),if_pos rfl],by rw[eJ _ _ _ Z,if_neg (by omega),if_pos rfl]⟩
theorem GJ{t:k'}(Z:t.dummies= #[])(j:Nat):t.put j=({t with place:=fb t.place (wh t.place j) j},wh t.place j):=by
 unfold put;simp only;rw[Z];have:has (#[]:Array Nat) j=false:=by simp[has]
 rw[this];cases t;simp only at Z;subst Z;rfl
theorem GK(k:TPre t es){e:Ent}(G:j<=t.mask)(O:t.slot j= .empty)(N:(bM t.mask e.1 K).j=j)(J:∀m,m<K->∃S,At t.place es (bM t.mask e.1 m).j S):
  TPre (t.put j).1 (fb es (t.put j).2 e)/\(t.put j).1.mask=t.mask/\(t.put j).1.led=t.led/\(t.put j).1.plain=t.plain:=by
 obtain⟨X,H,I⟩:=pM k.ris j;have P:=wM k.ris O;rw[GJ k.dum];refine⟨⟨k.msk,k.dum,?_,?_,?_,?_⟩,rfl,rfl,rfl⟩
 ·show(fb t.place (wh t.place j) j).size=_;rw[pN,pN,k.siz]
 ·intro R Q a b W U T;have Y:(fb t.place (wh t.place j) j)[R]? =ar a:=U;have Z:(fb t.place (wh t.place j) j)[Q]? =ar b:=T;rw[eJ _ _ _ X]at Y Z;by_cases c1:R<wh t.place j
  ·rw[if_pos c1]at Y;by_cases c2:Q<wh t.place j
   ·rw[if_pos c2]at Z;exact k.ris _ _ _ _ W Y Z
   ·rw[if_neg c2]at Z;by_cases c3:Q=wh t.place j
    ·rw[if_pos c3]at Z;cases Z;exact H _ _ c1 Y
    ·rw[if_neg c3]at Z;exact k.ris _ _ _ _ (by omega) Y Z
  ·rw[if_neg c1]at Y;rw[if_neg (by omega),if_neg (by omega)]at Z
   by_cases c3:R=wh t.place j
   ·rw[if_pos c3]at Y;cases Y;have q:=I _ _ (by omega) Z
    have:b≠j:=fun z=>by subst z;exact P _ Z
    omega
   ·rw[if_neg c3]at Y;exact k.ris _ _ _ _ (by omega) Y Z
 ·intro i a h;have h':(fb t.place (wh t.place j) j)[i]? =ar a:=h;rw[eJ _ _ _ X]at h';by_cases c1:i<wh t.place j
  ·rw[if_pos c1]at h';exact k.inb _ _ h'
  ·rw[if_neg c1]at h';by_cases c3:i=wh t.place j
   ·rw[if_pos c3]at h';cases h';exact G
   ·rw[if_neg c3]at h';exact k.inb _ _ h'
 ·intro L S h;have up:∀{a b},At t.place es a b->At (fb t.place (wh t.place j) j) (fb es (wh t.place j) e) a b:=fun z=>(BI k.siz X _ _).mpr (.inl z);rcases (BI k.siz X L S).mp h with h'|⟨rfl,rfl⟩
  ·obtain⟨n,U,T⟩:=k.way _ _ h';exact⟨n,U,fun m hm=>let ⟨x,hx⟩:=T m hm;⟨x,up hx⟩⟩
  ·exact⟨K,N,fun m hm=>let ⟨x,hx⟩:=J m hm;⟨x,up hx⟩⟩
abbrev GL:=Array (Option Nat)
def zI(o:GL)(j:Nat):Prop:=∃k,o[j]? =ar (ar k)
structure Laid(m:Nat)(hs:List Int)(o:GL):Prop where
 siz:o.size=m+1
 way:∀(j k:Nat),o[j]? =ar (ar k)->∃x,hs[k]? =ar x/\∃n,(bM m x n).j=j/\∀i,i<n->zI o (bM m x i).j
theorem rF{o:GL}(Q:o.size=m+1)(h:Int)(R:Nat)(P:o[(fM m h R).1]? =ar none):∀(fuel n:Nat),n<=R->R - n<fuel->
  ∃idx,qD m h n<=idx/\N_ m o fuel (fM m h n).1 (fM m h n).2=ar (bM m h idx).j/\o[(bM m h idx).j]? =ar none/\∀i,qD m h n<=i->i<idx->zI o (bM m h i).j
 |0,n,h1,h2=>by omega
 | fuel+1,n,h1,h2=>by
  have S:Ra m (fM m h n).1+1 - (fM m h n).1=run m (fM m h n).1+1:=by
   unfold run Ra;split<;>omega
  have N:(fM m h n).1+run m (fM m h n).1<=m:=by
   have:=BF m h n;unfold run Ra;split<;>omega
  have get:∀k,k<=run m (fM m h n).1->o.getD ((fM m h n).1+k) (ar 0)=o[(fM m h n).1+k]?.getD (ar 0):=fun k _=>by simp
  have T:∀k,k<=run m (fM m h n).1->(o.getD ((fM m h n).1+k) (ar 0)).isNone=dV->zI o (bM m h (qD m h n+k)).j:=fun k U O=>by
   rw[sU m h n k U];have X:(fM m h n).1+k<o.size:=by omega
   rw[get k U,LP X]at O;cases e:o[(fM m h n).1+k]with
   |none=>simp[e]at O
   |some z=>exact⟨z,by rw[LP X,e]⟩
  unfold N_;rw[S];cases q:(ey (run m (fM m h n).1+1)).find? (fun k=>(o.getD ((fM m h n).1+k) (ar 0)).isNone)with
  | some k=>
   simp only;have U:=List.find?_some q;have Y:k<=run m (fM m h n).1:=by
    have:=List.mem_of_find?_eq_some q;rw[Ma]at this;omega
   refine⟨qD m h n+k,by omega,by rw[sU m h n k Y],?_,fun i a b=>?_⟩
   ·rw[sU m h n k Y];have X:(fM m h n).1+k<o.size:=by omega
    rw[get k Y,LP X]at U;rw[LP X];cases e:o[(fM m h n).1+k]with
    |none=>rfl
    |some z=>simp[e]at U
   ·obtain⟨d,rfl⟩:∃d,i=qD m h n+d:=⟨i - qD m h n,by omega⟩
    refine T d (by omega) ?_
    have Z:=List.find?_eq_some_iff_getElem.mp q;obtain⟨_,I,J,e1,e2⟩:=Z;simp at e1;subst e1;have:=e2 d (by omega)
    simpa using this
  | none=>
   simp only;have Z:=List.find?_eq_none.mp q;have W:∀k,k<=run m (fM m h n).1->zI o (bM m h (qD m h n+k)).j:=fun k U=>T k U (by
    have:=Z k (Ma.mpr (by omega))
    exact Pj.mpr this)
   have K:n≠R:=fun z=>by
    subst z;obtain⟨k,e⟩:=W 0 (L6 _);rw[sU m h n 0 (L6 _)]at e;rw[Nat.add_zero,P]at e;cases e
   obtain⟨idx,g1,g2,g3,L⟩:=rF Q h R P fuel (n+1) (by omega) (by omega)
   have H:qD m h (n+1)=qD m h n+run m (fM m h n).1+1:=rfl;refine⟨idx,by omega,g2,g3,fun i a b=>?_⟩
   by_cases hi:qD m h (n+1)<=i
   ·exact L i hi b
   ·obtain⟨d,rfl⟩:∃d,i=qD m h n+d:=⟨i - qD m h n,by omega⟩
    exact W d (by omega)
def dg(m:Nat)(f:Nat->Option Nat):List (Nat×Nat):=(ey (m+1)).filterMap fun j=>(f j).map fun k=>(j,k)
theorem lF{α Y:Type}{f g:α->Option Y}:∀{l:List α},(∀x∈l,f x=g x)->l.filterMap f=l.filterMap g
 |[],_=>rfl
 |x::l,h=>by rw[Mz,Mz,h x LX,lF fun y Z=>h y (LN _ Z)]
theorem BJ{f g:Nat->Option Nat}(U:j<m+1)(X:f j=none)(W:g j=ar k)(Y:∀i,i≠j->g i=f i):(dg m g).Perm ((j,k)::dg m f):=by
 unfold dg;have e:ey (m+1)=ey j++j::(k6 (j+1) (m - j)):=by
  rw[List.range_eq_range',List.range_eq_range',show m+1=j+(1+(m - j)) by omega, <-List.range'_append_1, <-List.range'_append_1]
  simp
 rw[e,List.filterMap_append,List.filterMap_append,Mz,Mz,X,W];simp only[D',Option.map_none];rw[lF (l:=ey j) (g:=fun j=>(f j).map fun k=>(j,k)) fun x Z=>by rw[Y x (by rw[Ma]at Z;omega)],
  lF (l:=k6 (j+1) (m - j)) (g:=fun j=>(f j).map fun k=>(j,k)) fun x Z=>by rw[Y x (by rw[OC]at Z;omega)]]
 exact List.perm_middle
def fo(o:GL)(j:Nat):Option Nat:=o.getD j none
theorem pO:fo o j=ar k↔o[j]? =ar (ar k):=by
 unfold fo;rw[Mo];cases o[j]? with
 |none=>simp
 |some z=>simp
structure LaidN(m:Nat)(hs:List Int)(o:GL):Prop extends Laid m hs o where
 all:((dg m (fo o)).map (·.2)).Perm (ey hs.length)
theorem uJ(L:LaidN m hs o):(dg m (fo o)).length=hs.length:=by
 have:=L.all.length_eq;simpa using this
theorem uK(L:LaidN m hs o)(S:hs.length<=m):∃j,j<=m/\o[j]? =ar none:=by
 apply O6;intro U;have Y:∀j,j∈ey (m+1)->∃k,fo o j=ar k:=fun j X=>by
  rw[Ma]at X;have Z:j<o.size:=by rw[L.siz];exact X
  cases e:o[j]with
  |none=>exact absurd ⟨j,by omega,by rw[LP Z,e]⟩ U
  |some k=>exact⟨k,pO.mpr (by rw[LP Z,e])⟩
 have:∀l:List Nat,(∀j∈l,∃k,fo o j=ar k)->(l.filterMap fun j=>(fo o j).map fun k=>(j,k)).length=l.length:=by
  intro l
  induction l with
  |nil=>intro _;rfl
  |cons x l ih=>
   intro h;obtain⟨k,e⟩:=h x LX;rw[Mz,e];simp only[D',p_];rw[ih fun j X=>h j (LN _ X)]
 have T:=this _ Y;have W:=uJ L;unfold dg at W;rw[T,Mc]at W;omega
theorem BK(H:Fm m)(L:LaidN m hs o)(K:hs.length<=m)(x:Int):
  ∃j,N_ m o (RE m) (RD x % (m+1)) (RD x)=ar j/\LaidN m (hs++[x]) (o.setIfInBounds j (ar hs.length)):=by
 obtain⟨Q,S,U⟩:=uK L K;obtain⟨I,G,T⟩:=BG H x Q S;obtain⟨idx,_,g2,g3,N⟩:=rF L.siz x I (by rw[T];exact U) (RE m) 0 (L6 _) (by unfold RE;omega)
 refine⟨(bM m x idx).j,g2,?_⟩;generalize hj:(bM m x idx).j=j at g3⊢;have Y:j<o.size:=(L8.mp g3).1;have self:(o.setIfInBounds j (ar hs.length))[j]? =ar (ar hs.length):=by simp[Y]
 have X:∀i,i≠j->(o.setIfInBounds j (ar hs.length))[i]? =o[i]? :=fun i Z=>by
  rw[Array.getElem?_setIfInBounds_ne (j7 Z)]
 have up:∀i,zI o i->zI (o.setIfInBounds j (ar hs.length)) i:=fun i ⟨k,e⟩=>by
  by_cases Z:i=j
  ·subst Z;exact⟨_,self⟩
  ·exact⟨k,by rw[X i Z];exact e⟩
 refine⟨⟨by rw[Array.size_setIfInBounds];exact L.siz,fun i k e=>?_⟩,?_⟩
 ·by_cases Z:i=j
  ·subst Z;rw[self]at e;cases e;exact⟨x,by simp,idx,hj,fun q W=>up _ (N q (L6 _) W)⟩
  ·rw[X i Z]at e;obtain⟨y,R,n,O,P⟩:=L.way i k e;refine⟨y,?_,n,O,fun q W=>up _ (P q W)⟩;rw[Mm (LH.mp R).1];exact R
 ·have J:=BJ (m:=m) (j:=j) (k:=hs.length) (f:=fo o) (g:=fo (o.setIfInBounds j (ar hs.length))) (by rw[<-L.siz];exact Y)
   (by unfold fo;rw[Mo,g3];rfl) (pO.mpr self) (fun i Z=>by unfold fo;rw[Mo,Mo,X i Z])
  refine(J.map (·.2)).trans ?_;rw[LL,OJ,PJ];exact(G4 _ L.all).trans (List.perm_append_singleton _ _).symm
theorem xZ(W:Fm m):∀(rest hs:List Int) (o:GL),LaidN m hs o->hs.length+rest.length<=m+1->
  ∃Y,rest.foldl (fun(acc:Option (GL×Nat)) h=>do
   let (owner,k)<-acc;let j<-N_ m owner (RE m) (RD h % (m+1)) (RD h)
   a_ (owner.setIfInBounds j (ar k),k+1)) (ar (o,hs.length))=ar (Y,hs.length+rest.length)/\LaidN m (hs++rest) Y
 |[],hs,o,L,_=>⟨o,rfl,by rw[Mt];exact L⟩
 |x::rest,hs,o,L,hl=>by
  rw[Mg]at hl;obtain⟨j,e,U⟩:=BK W L (by omega) x
  obtain⟨Y,X,Z⟩:=xZ W rest (hs++[x]) _ U (by simp;omega)
  refine⟨Y,?_,by rw[L9]at Z;exact Z⟩
  rw[List.foldl_cons];simp only[Option.bind_eq_bind,O',e];rw[LL,OJ]at X;simp only[Option.bind_eq_bind]at X;rw[Mg,show hs.length+(rest.length+1)=hs.length+1+rest.length by omega]
  exact X
theorem zJ(X:Fm m)(Z:Array Int)(W:Z.size<=m+1):∃o,layClean m Z=ar o/\LaidN m Z.toList o:=by
 have Y:LaidN m [] (s_ (m+1) none):=by
  refine⟨⟨by simp,fun j k e=>?_⟩,?_⟩
  ·rw[Pk]at e;split at e<;>cases e
  ·have:dg m (fo (s_ (m+1) none))=[]:=by
    unfold dg;rw[List.filterMap_eq_nil_iff];intro j _;have:fo (s_ (m+1) none) j=none:=by
     cases e:fo (s_ (m+1) none) j with
     |none=>rfl
     |some k=>
      rw[pO,Pk]at e;split at e<;>cases e
    rw[this];rfl
   rw[this];exact .refl _
 obtain⟨o,e,L⟩:=xZ X Z.toList [] _ Y (by simpa using W)
 refine⟨o,?_,by simpa using L⟩
 unfold layClean;rw[<-Array.foldl_toList];rw[show(s_ (m+1) (none:Option Nat),0)=(s_ (m+1) none,([]:List Int).length)from rfl];rw[e];rfl
theorem pP(f:Nat->Option Nat):∀l:List Nat,((l.filterMap fun j=>(f j).map fun k=>(j,k)).map (·.1)).Sublist l
 |[]=>.slnil
 |x::l=>by
  rw[Mz];cases f x with
  |none=>exact .cons _ (pP f l)
  |some k=>exact .cons₂ _ (pP f l)
theorem pQ{f:Nat->Option Nat}:(j,k)∈dg m f↔j<m+1/\f j=ar k:=by
 unfold dg;rw[M8];constructor
 ·rintro⟨a,h1,h2⟩;cases e:f a with
  |none=>rw[e]at h2;cases h2
  |some b=>
   rw[e]at h2;cases h2;exact⟨Ma.mp h1,e⟩
 ·rintro⟨h1,h2⟩;exact⟨j,Ma.mpr h1,by rw[h2];rfl⟩
theorem GN{l:List Nat}(h:l.Pairwise (· <·)):DY l.toArray:=by
 intro i j a b Z Y X;rw[Nm]at Y X;obtain⟨U,W⟩:=LH.mp Y;obtain⟨S,T⟩:=LH.mp X;have:=O7.mp h i j U S Z;rw[W,T]at this;exact this
theorem BN{α Y:Type}{f:α->Option Y}:∀{l:List α},(∀x∈l,∃y,f x=ar y)->∀i:Nat,(l.filterMap f)[i]? =l[i]?.bind f
 |[],_,i=>by simp
 |x::l,h,i=>by
  obtain⟨y,e⟩:=h x LX;rw[Mz,e];cases i with
  |zero=>simp[e]
  |succ i=>simpa using BN (fun z Z=>h z (LN _ Z)) i
theorem DZ{es:Array Ent}(J:Fm m)(v:es.size*5<m*3)(F G:Nat)(N O:Bool):
  ∃(t':k') (order:Array Nat),laid m F G N O (es.map (·.1))=ar (t',order)/\order.toList.Perm (ey es.size)/\(order.filterMap (es[·]?)).size=es.size/\TOk t' (order.filterMap (es[·]?))/\t'.led=N/\t'.plain=O/\t'.mask=m:=by
 obtain⟨o,e,L⟩:=zJ J (es.map (·.1)) (by rw[Array.size_map];omega)
 have hlen:(es.map (·.1)).toList.length=es.size:=by simp
 have Z:=L.all;rw[hlen]at Z;have I:∀p∈dg m (fo o),∃y,es[p.2]? =ar y:=fun p S=>by
  have:p.2∈ey es.size:=Z.mem_iff.mp (Nw S);rw[Ma]at this;exact⟨es[p.2],LP this⟩
 have R:(((dg m (fo o)).map (·.2)).toArray.filterMap (es[·]?)).toList=((dg m (fo o)).map (·.2)).filterMap (es[·]?):=by
  rw[Array.toList_filterMap]
 have X:(((dg m (fo o)).map (·.2)).toArray.filterMap (es[·]?)).toList.Perm es.toList:=by
  rw[R];exact(Z.filterMap _).trans (by rw[filterMap_getElem?_range])
 have U:(((dg m (fo o)).map (·.2)).toArray.filterMap (es[·]?)).size=es.size:=by
  have:=X.length_eq;simpa using this
 have T:∀(j:Nat) (x:Ent),At (((dg m (fo o)).map (·.1)).toArray) (((dg m (fo o)).map (·.2)).toArray.filterMap (es[·]?)) j x↔∃k,(j,k)∈dg m (fo o)/\es[k]? =ar x:=by
  intro j x;have key:∀i:Nat,(((dg m (fo o)).map (·.2)).toArray.filterMap (es[·]?))[i]? =((dg m (fo o))[i]?).bind fun p=>es[p.2]? :=fun i=>by
   rw[<-Me,R,BN (fun z E=>by
    obtain⟨p,S,rfl⟩:=Mp.mp E;exact I p S) i,L3]
   cases (dg m (fo o))[i]? <;>rfl
  constructor
  ·rintro⟨i,Y,W⟩;rw[Nm,L3]at Y;rw[key]at W;cases q:(dg m (fo o))[i]? with
   |none=>rw[q]at Y;cases Y
   |some p=>
    rw[q]at Y W;cases Y;exact⟨p.2,Mf q,W⟩
  ·rintro⟨k,Y,W⟩;obtain⟨i,P⟩:=NN.mp Y;exact⟨i,by rw[Nm,L3,P];rfl,by rw[key,P];exact W⟩
 refine⟨⟨m,((dg m (fo o)).map (·.1)).toArray, #[],F,N,G,O⟩,((dg m (fo o)).map (·.2)).toArray,?_,by simpa using Z,U,⟨⟨J,rfl,?_,?_,?_,?_⟩,?_⟩,rfl,rfl,rfl⟩
 ·unfold laid;rw[e];rfl
 ·rw[U];show(((dg m (fo o)).map (·.1)).toArray).size=_;rw[LR,LC,uJ L,hlen]
 ·exact GN (List.Pairwise.sublist (pP _ _) List.pairwise_lt_range)
 ·intro i a h;have h':(((dg m (fo o)).map (·.1)).toArray)[i]? =ar a:=h;rw[Nm]at h';obtain⟨p,S,rfl⟩:=Mp.mp (Mf h');have:=(pQ.mp S).1;show p.1<=m;omega
 ·intro j x A;obtain⟨k,Y,W⟩:=(T j x).mp A;obtain⟨s,u⟩:=pQ.mp Y;obtain⟨y,g1,n,g2,g3⟩:=L.way j k (pO.mp u);have B:y=x.1:=by
   rw[Me,Array.getElem?_map,W]at g1;cases g1;rfl
  subst B;refine⟨n,g2,fun i P=>?_⟩;obtain⟨C,H⟩:=g3 i P;have K:(bM m x.1 i).j<m+1:=by rw[<-L.siz];exact(L8.mp H).1
  have Q:=pQ.mpr ⟨K,pO.mpr H⟩;obtain⟨w,t⟩:=I _ Q;exact⟨w,(T _ _).mpr ⟨C,Q,t⟩⟩
 ·rw[U];exact v
theorem zK{t:k'}{es:Array Ent}(Y:es.size=5):∃(t':k') (order:Array Nat),t.relaid (es.map (·.1)) (SetTable.grown 5)=ar (t',order)/\order.toList.Perm (ey es.size)/\(order.filterMap (es[·]?)).size=es.size/\
  TOk t' (order.filterMap (es[·]?))/\t'.led=t.led/\t'.plain=t.plain:=by
 obtain⟨t',o,T,S,Z,W,X,U,_⟩:=DZ (es:=es) (m:=31) (.inr rfl) (by rw[Y];decide) t.finger (t.movedTo 31) t.led t.plain
 exact⟨t',o,T,S,Z,W,X,U⟩
end S4
namespace S4
open PySem PySem.Spec PyProof.Rows
section
variable {prog:e_}{w:f'}{A:h_}{E:aC->b_->Prop}{s:b_}
theorem items_int(h:ItemsAre (la prog w) ks vs):∀v∈vs,∃n t,v=oo n t:=by
 induction h with
 |nil=>intro v Z;cases Z
 | cons h1 _ ih=>
  intro v Z;rcases LY.mp Z with rfl|Z
  ·obtain⟨t,e⟩:=Value.isInt_shape h1;exact⟨_,t,e⟩
  ·exact ih v Z
theorem zM{Q:Bool->b_->Prop}(Y:kT (la prog w) s.heap ks a)(h:Q c_ s):ee (fc prog w) A (QT 8 (.ref a)) Q E s:=by
 have X:=Y.typeIs;obtain⟨o,items,n,W,_,hd,U⟩:=Y;unfold QT;refine LA (wpAny_specialOf X F.slot_tuple_hash.lookup ?_);show ee _ _ (Rr (.ref a)>>=_) _ _ s;refine LA (M5 W hd ?_);refine LA ?_;show ee _ _ (RV items _ _) _ _ s;rw[<-Array.forIn_toList];refine OL _ (fun rest r s'=>r.1=none/\s'=s/\∀v∈rest,∃n t,v=oo n t) _ ?_ ?_ _ _ ⟨rfl,rfl,items_int U⟩
 ·rintro v rest r s' ⟨hr,rfl,hall⟩;obtain⟨i,t,rfl⟩:=hall v LX;refine LA ?_;unfold QT;refine LD ?_;simp only[u0,fg,if_false];exact LD ⟨rfl,rfl,fun u Z=>hall u (LN _ Z)⟩
 ·rintro⟨r1,r2⟩ s' ⟨hr,rfl,_⟩;simp only at hr;subst hr;exact LD h
theorem nG{Q:Bool->b_->Prop}(Y:kT (la prog w) s.heap ks a)(h:Q dV s):ee (fc prog w) A (L0 8 (.ref a)) Q E s:=by
 have X:=Y.typeIs;obtain⟨o,items,n,W,_,hd,U⟩:=Y;unfold L0;refine LA (Oc X ?_);simp only;rw[if_pos (by decide)]
 refine LA (LD ?_);simp only[u0,fg,if_false];refine LA (M5 W hd ?_);simp only;refine LA ?_;show ee _ _ (RV items _ _) _ _ s;rw[<-Array.forIn_toList];refine OL _ (fun rest r s'=>r.1=none/\s'=s/\∀v∈rest,∃n t,v=oo n t) _ ?_ ?_ _ _ ⟨rfl,rfl,items_int U⟩
 ·rintro v rest r s' ⟨hr,rfl,hall⟩;obtain⟨i,t,rfl⟩:=hall v LX;refine LA ?_;unfold L0;refine LD ?_;simp only[fg,if_false];exact LD ⟨rfl,rfl,fun u Z=>hall u (LN _ Z)⟩
 ·rintro⟨r1,r2⟩ s' ⟨hr,rfl,_⟩;simp only at hr;subst hr;exact LD h
theorem GO(X:kT (la prog w) s.heap kx ax)(U:∀y∈ys,∃k a,y= .ref a/\kT (la prog w) s.heap k a){Q:Bool->b_->Prop}(h:Q dV s):
  ee (fc prog w) A (searchCouldBeSeen (.ref ax) ys) Q E s:=by
 unfold searchCouldBeSeen;refine LA ?_;refine OL _ (fun rest r s'=>r.1=none/\s'=s/\∀v∈rest,∃k a,v= .ref a/\kT (la prog w) s.heap k a) _ ?_ ?_ _ _ ⟨rfl,rfl,U⟩
 ·rintro v rest r s' ⟨hr,rfl,hall⟩;obtain⟨k,a,rfl,W⟩:=hall v LX;have Y:∀u∈rest,∃k a,u= .ref a/\kT (la prog w) s'.heap k a:=fun u Z=>hall u (LN _ Z);simp only;split
  ·exact LD ⟨rfl,rfl,Y⟩
  ·refine LA (wpAny_eqIsQuiet_tuple X ?_);simp only[u0,fg,if_false];refine LA (wpAny_eqIsQuiet_tuple W ?_);simp only[u0,fg,if_false];refine LA (nG X ?_);simp only[fg,if_false];refine LA (nG W ?_);simp only[fg,if_false];exact LD ⟨rfl,rfl,Y⟩
 ·rintro⟨r1,r2⟩ s' ⟨hr,rfl,_⟩;simp only at hr;subst hr;exact LD h
abbrev KA:=List Int×dt
def hV(prog:e_)(w:f')(k:List Int):Int:=tupleKeyHash (la prog w) k
def ent(prog:e_)(w:f')(p:KA):Ent:=(hV prog w p.1,.ref p.2)
def wN(prog:e_)(w:f')(h:gd)(L:List KA):Prop:=∀p∈L,kT (la prog w) h p.1 p.2
structure SetAt(prog:e_)(w:f')(h:gd)(a:dt)(o:Obj)(es:Array Ent)(ep:Nat)(t:k')(L:List KA):Prop where
 get:h.get? a=ar o
 ex:o.ExactSet
 dat:o.data= .set es ep t
 ok:TOk t es
 pln:t.plain=c_
 led:t.led= !(w.params.followText "set-order")
 ents:es.toList=L.map (ent prog w)
 nd:(L.map (·.1)).Nodup
theorem SetAt.fits(k:SetAt prog w h a o es ep t L):t.fits es.size=true:=k.ok.fits k.ok.le
theorem SetAt.ent_at(k:SetAt prog w h a o es ep t L)(i:Nat):es[i]? =(L[i]?).map (ent prog w):=by
 rw[<-Me,k.ents,L3]
theorem SetAt.len(k:SetAt prog w h a o es ep t L):es.size=L.length:=by
 rw[<-Nv,k.ents,LC]
theorem BO{t:k'}:t.sameMemory t.moves t.mask=ar true:=by
 unfold SetTable.sameMemory;simp
theorem rG{a ax:dt}{o:Obj}{es:Array Ent}{ep:Nat}{t:k'}{L:List KA}{Z:List Int}(hu:A.units<y8)(k:SetAt prog w s.heap a o es ep t L)(f:wN prog w s.heap L)(r:kT (la prog w) s.heap Z ax)
  {K:Nat} (v:t.slot (bM t.mask (hV prog w Z) K).j= .empty) (F:K<10*H_ t.mask) {Q:SetFound->b_->Prop}
  (U:Z∈L.map (·.1)->Q (.there none) s)
  (C:Z∉L.map (·.1)->∀n,t.slot (bM t.mask (hV prog w Z) n).j= .empty->(∀m,m<n->∃i,t.slot (bM t.mask (hV prog w Z) m).j= .live i)->Q (.free (bM t.mask (hV prog w Z) n).j dV) s):
  ∀(fuel n:Nat) (st:Option SetTable.Probe),st.getD (t.probeStart (hV prog w Z))=bM t.mask (hV prog w Z) n->n<=K->K - n<fuel->
   (∀m,m<n->∃i,t.slot (bM t.mask (hV prog w Z) m).j= .live i/\∀p,L[i]? =ar p->p.1≠Z)->ee (fc prog w) A (setSearchFrom a (.ref ax) (hV prog w Z) c_ fuel st) Q E s
 |0,n,st,e,B,h2,h3=>by omega
 | fuel+1,n,st,e,B,h2,h3=>by
  have odd:t.gaveWay=false:=by
   unfold SetTable.gaveWay;rcases k.ok.msk with h|h<;>rw[h]<;>rfl
  unfold setSearchFrom;refine LA (M0 k.get k.dat k.fits ?_);simp only;rw[odd];simp only[fg,if_false];rw[e];obtain⟨Y,g1,g2,g3,g4⟩:=xY k.ok.dum (fun i=>(es[i]?.map (·.1)).getD 0) (hV prog w Z) K v (10*H_ t.mask) n B (by omega)
  have stored:∀(i:Nat) (p:KA),L[i]? =ar p->(es[i]?.map (·.1)).getD 0=hV prog w p.1:=fun i p W=>by
   rw[k.ent_at,W];rfl
  have before:∀m,m<Y->∃i,t.slot (bM t.mask (hV prog w Z) m).j= .live i/\∀p,L[i]? =ar p->p.1≠Z:=fun m hm=>by
   by_cases hmn:m<n
   ·exact h3 m hmn
   ·obtain⟨i,R,b⟩:=g3 m (by omega) hm
    refine⟨i,R,fun p W z=>b ?_⟩;rw[stored i p W,z]
  rcases g4 with⟨c1,c2⟩|⟨i,c1,c2,c3⟩
  ·generalize hpr:t.probe _ (hV prog w Z) (bM t.mask (hV prog w Z) n)=pr;have ep:pr=ar (.empty (bM t.mask (hV prog w Z) Y).j none):=hpr.symm.trans c2;subst ep;simp only;refine LD (C (fun J=>?_) Y c1 fun m hm=>let ⟨i,q,_⟩:=before m hm;⟨i,q⟩);obtain⟨p,W,rfl⟩:=Mp.mp J;obtain⟨G,O⟩:=NN.mp W;have X:es[G]? =ar (ent prog w p):=by rw[k.ent_at,O];rfl
   have T:G<t.place.size:=by rw[k.ok.siz];exact(L8.mp X).1
   have u:At t.place es t.place[G] (ent prog w p):=⟨G,LP T,X⟩;obtain⟨g,w1,w2⟩:=k.ok.way _ _ u;have P:(bM t.mask (hV prog w p.1) g).j=t.place[G]:=w1;rcases Nat.lt_or_ge g Y with l|l
   ·obtain⟨i,R,b⟩:=before g l;rw[P,oz k.ok.ris (LP T)]at R;cases R;exact b p O rfl
   ·rcases Nat.eq_or_lt_of_le l with l|l
    ·subst l;rw[P,oz k.ok.ris (LP T)]at c1;cases c1
    ·obtain⟨e',i',R,_⟩:=w2 Y l;have c:t.place[i']? =ar (bM t.mask (hV prog w p.1) Y).j:=R;rw[oz k.ok.ris c]at c1;cases c1
  ·generalize hpr:t.probe _ (hV prog w Z) (bM t.mask (hV prog w Z) n)=pr;have ep:pr=ar (.candidate (bM t.mask (hV prog w Z) Y).j i (bM t.mask (hV prog w Z) (Y+1))):=hpr.symm.trans c3;subst ep;simp only;have hi:i<es.size:=by rw[<-k.ok.siz];exact(L8.mp (mQ c1)).1
   have S:i<L.length:=by rw[<-k.len];exact hi
   have W:L[i]? =ar L[i]:=LG S;have X:es[i]? =ar (ent prog w L[i]):=by rw[k.ent_at,W];rfl
   have N:kT (la prog w) s.heap L[i].1 L[i].2:=f _ (MX S);have d:∀y∈List.map (fun x:Ent=>x.snd) (Array.filter (fun x:Ent=>x.fst==hV prog w Z) es).toList,∃k a,y= .ref a/\kT (la prog w) s.heap k a:=fun y hy=>by
    obtain⟨e1,B,rfl⟩:=Mp.mp hy;have H:e1∈es.toList:=by
     have:=ON.mp B;exact ON.mpr (Array.mem_filter.mp this).1
    rw[k.ents]at H;obtain⟨p,W,rfl⟩:=Mp.mp H;exact⟨p.1,p.2,rfl,f p W⟩
   split
   case' isTrue=>
    refine LA (GO r d ?_);simp only[fg,if_false]
   all_goals
    rw[X];simp only[ent];refine LA (Mw (wpAny_eqBool_tuple hu N r ?_));refine LA (M0 k.get k.dat k.fits ?_);by_cases hq:L[i].1=Z
    ·rw[L7 hq];simp only[Qo,if_true];exact LD (U (Mp.mpr ⟨_,MX S,hq⟩))
    ·rw[Mn hq];simp only[P5,fg,if_false];rw[BO];simp only[if_true];rw[c1];simp only;rw[X];simp only[ent];refine LA (wpAny_isSame_ref_self (LA (LD ?_)));simp only[if_true];refine rG hu k f r v F U C fuel (Y+1) _ rfl ?_ ?_ fun m hm=>?_
     ·have:Y≠K:=fun z=>by subst z;rw[v]at c1;cases c1
      omega
     ·have:Y≠K:=fun z=>by subst z;rw[v]at c1;cases c1
      omega
     ·by_cases hmn:m<Y
      ·exact before m hmn
      ·have:m=Y:=by omega
       subst this;exact⟨i,c1,fun p I=>by rw[W]at I;cases I;exact hq⟩
end
def Jd(L:List KA)(p:KA)(L':List KA):Prop:=(p.1∈L.map (·.1)/\L'=L)\/(p.1∉L.map (·.1)/\L'.Perm (p::L))
section
variable {prog:e_}{w:f'}{A:h_}{E:aC->b_->Prop}{s:b_}
theorem ya{h:gd}(Y:h.get? a=ar o)(Z:o.data= .set es ep t):(h.update a (P3 es' t')).get? a=ar {o with data:=.set es' (ep+1) t'}:=by
 have:=MC (P3 es' t') Y (by rw[putSet_of es' t' Z];rfl)
 rw[putSet_of es' t' Z]at this;exact this
theorem GP(hu:A.units<y8)(k:SetAt prog w s.heap a o es ep t L)(hL:wN prog w s.heap L)(f:kT (la prog w) s.heap kx ax)
  (a3:L.length<18) {Q:Bool->b_->Prop}
  (h:∀b h' o' es' ep' t' J,SetAt prog w h' a o' es' ep' t' J->rn a s.heap h'->Jd L (kx,ax) J->Q b {s with heap:=h'}):
  ee (fc prog w) A (setAddHashed a (.ref ax) (hV prog w kx)) Q E s:=by
 obtain⟨j0,g,u⟩:=zH k.ok.ris k.ok.dum (by rw[k.ok.siz];exact k.ok.le)
 obtain⟨K,l,x⟩:=cover k.ok.msk (hV prog w kx) j0 g;have a4:10*H_ t.mask<=100000:=by
  unfold H_;rcases k.ok.msk with z|z<;>rw[z]<;>decide
 unfold setAddHashed setAddHashedIn;refine Mw (LA (M0 k.get k.dat k.fits ?_));have v:byScan (.ref ax) es=false:=by simp[byScan,Value.scannable]
 simp only[v,fg,if_false];unfold setSearch;refine LA ?_;refine rG hu k hL f (by rw[x];exact u) l ?_ ?_ 100000 0 none rfl (L6 _) (by omega) (fun m hm=>by omega)
 ·intro Y;simp only;refine LD ?_;have e:s={s with heap:=s.heap}:=by cases s;rfl
  rw[e];exact h _ s.heap o es ep t L k (Heap.SameBut.refl a s.heap) (.inl ⟨Y,rfl⟩)
 ·intro Y n c hb;simp only;refine LA (M0 k.get k.dat k.fits ?_);generalize hj:(bM t.mask (hV prog w kx) n).j=j at c;have C:j<=t.mask:=by
   rw[<-hj];rcases Nat.eq_zero_or_pos n with z|z
   ·subst z;show SetTable.bits _ % (t.mask+1)<=t.mask;have:=Pg (SetTable.bits (hV prog w kx)) (show t.mask+1>0 by omega)
    omega
   ·exact DX _ _ _ k.ok.msk
  obtain⟨T,y,B,G⟩:=GK (e:=ent prog w (kx,ax)) (K:=n) k.ok.toTPre C c hj fun m hm=>by
   obtain⟨i,q⟩:=hb m hm;obtain⟨e',_,q'⟩:=k.ok.toTPre.at_of (mQ q);exact⟨e',q'⟩
  generalize hP:t.put j=P at T y B G⊢;obtain⟨t1,pp⟩:=P;simp only at T y B G⊢;have T:TPre t1 (fb es pp (hV prog w kx,er ax)):=T;rw[if_pos (by rw[G];exact k.pln)]
  refine LA (zM f ?_);simp only[if_true];have Z:(fb es pp (hV prog w kx,er ax)).size=es.size+1:=pN _ _ _;have hlen:=k.len;refine LA (wpAny_storeSet_of k.get k.dat ?_ (by rw[Z,ML];omega))
  have g1:=ya (es':=fb es pp (hV prog w kx,er ax)) (t':=t1) k.get k.dat;have I:=M1 s.heap a (P3 (fb es pp (hV prog w kx,er ax)) t1);have X:(fb es pp (hV prog w kx,er ax)).toList=(L.take pp++(kx,ax)::L.drop pp).map (ent prog w):=by
   rw[SetTable.toList_insertAt,k.ents,MF,LZ,List.map_take,List.map_drop];rfl
  have W:(L.take pp++(kx,ax)::L.drop pp).Perm ((kx,ax)::L):=by
   have:=List.perm_middle (a:=(kx,ax)) (l₁:=L.take pp) (l₂:=L.drop pp)
   rwa [List.take_append_drop]at this
  have r:((kx::L.map (·.1))).Nodup:=MM.mpr ⟨Y,k.nd⟩;have H:∀J:List KA,J.Perm ((kx,ax)::L)->(J.map (·.1)).Nodup:=fun J hp=>(Oa (hp.map (fun p:KA=>p.1))).mpr r;by_cases hful:t1.tooFull=c_
  ·rw [hful];simp only[Bool.not_false,Qo,if_true];have O:(es.size+1)*5 ≥ t.mask*3:=by
    unfold SetTable.tooFull SetTable.fill at hful;rw[T.siz,T.dum,y,Z]at hful;simpa using hful
   have h5:es.size+1=5:=by
    have:=k.ok.few;rcases k.ok.msk with z|z<;>rw[z]at O this<;>omega
   obtain⟨t2,ord,r1,r2,d,r4,r5,r6⟩:=zK (t:=t1) (es:=fb es pp (hV prog w kx,er ax)) (by rw[Z];exact h5)
   have F:t1.fits (fb es pp (hV prog w kx,er ax)).size=true:=T.fits (by
    rw[Z,y];have:=k.ok.few;rcases k.ok.msk with z|z<;>rw[z]at this⊢<;>omega)
   unfold setRelay;refine LA (LA (M0 (s:={s with heap:=s.heap.update a (P3 (fb es pp (hV prog w kx,er ax)) t1)}) g1 rfl F ?_));simp only;rw[h5];rw[if_neg (by rw[ML];decide)]
   rw[r1];refine LA ?_;have step:∀(R:Array Ent×k'->b_->Prop) (s1:b_),R (ord.filterMap ((fb es pp (hV prog w kx,er ax))[·]?),t2) s1->
     ee (fc prog w) A (if ((ord.filterMap ((fb es pp (hV prog w kx,er ax))[·]?)).size !=(fb es pp (hV prog w kx,er ax)).size)=c_
      then (do unsupported "internal:set-table-lost-an-element";a_ (ord.filterMap ((fb es pp (hV prog w kx,er ax))[·]?),t2))else a_ (ord.filterMap ((fb es pp (hV prog w kx,er ax))[·]?),t2)) R E s1:=fun R s1 hR=>by
    rw[if_neg (by rw[d];simp)]
    exact LD hR
   refine step _ _ ?_;refine wpAny_storeSet_of (s:={s with heap:=s.heap.update a (P3 (fb es pp (hV prog w kx,er ax)) t1)}) g1 rfl ?_ (by rw[d,Z,ML];omega)
   have S:(ord.filterMap ((fb es pp (hV prog w kx,er ax))[·]?)).toList=(ord.toList.filterMap ((L.take pp++(kx,ax)::L.drop pp)[·]?)).map (ent prog w):=by
    rw[Array.toList_filterMap,List.map_filterMap];refine lF fun i _=>?_;rw[<-Me,X,L3]
   have U:(ord.toList.filterMap ((L.take pp++(kx,ax)::L.drop pp)[·]?)).Perm ((kx,ax)::L):=by
    refine(r2.filterMap _).trans ?_;have e1:(fb es pp (hV prog w kx,er ax)).size=(L.take pp++(kx,ax)::L.drop pp).length:=by
     rw[<-Nv,X,LC]
    rw[e1,List.filterMap_getElem?_range_length];exact W
   refine LD (h _ _ _ _ _ _ _ ⟨ya g1 rfl,k.ex,rfl,r4,by rw[r6,G];exact k.pln,by rw[r5,B];exact k.led,S,H _ U⟩ (I.trans (M1 _ a _)) (.inr ⟨Y,U⟩))
  ·simp only[hful,P5,fg,if_false];refine LD ?_;refine h _ _ _ _ _ _ _ ⟨g1,k.ex,rfl,⟨T,?_⟩,by rw[G];exact k.pln,by rw[B];exact k.led,X,H _ W⟩ I (.inr ⟨Y,W⟩)
   unfold SetTable.tooFull SetTable.fill at hful;rw[T.siz,T.dum]at hful;have N:¬ (fb es pp (hV prog w kx,er ax)).size*5 ≥ t1.mask*3:=by simpa using hful
   exact Nat.lt_of_not_ge N
end
theorem wO{h':gd}(x:kT (la prog w) h k a)(e:∀o,h.get? a=ar o->h'.get? a=ar o):kT (la prog w) h' k a:=
 let ⟨o,its,n,ho,r⟩:=x
 ⟨o,its,n,e o ho,r⟩
theorem SetAt.at{h':gd}(k:SetAt prog w h a o es ep t L)(e:∀o,h.get? a=ar o->h'.get? a=ar o):SetAt prog w h' a o es ep t L:=
 {k with get:=e o k.get}
structure Folded(kv L:List KA):Prop where
 nd:(L.map (·.1)).Nodup
 mem:∀k,k∈L.map (·.1)↔k∈kv.map (·.1)
 sub:∀p∈L,p∈kv
 len:L.length<=kv.length
theorem Folded.nil:Folded [] []:=⟨.nil,fun _=>.rfl,fun _ h=>h,LF _⟩
theorem Folded.add(f:Folded kv L)(h:Jd L p L'):Folded (kv++[p]) L':=by
 rcases h with⟨h1,rfl⟩|⟨h1,h2⟩
 ·refine⟨f.nd,fun k=>?_,fun q Z=>MV _ (f.sub q Z),by have:=f.len;simp;omega⟩
  rw[f.mem,MF,MQ];refine⟨.inl,fun z=>z.elim id fun z=>?_⟩;have:k=p.1:=by simpa using z
  rw[this];exact(f.mem _).mp h1
 ·have hm:=h2.map (fun q:KA=>q.1);refine⟨(Oa hm).mpr (MM.mpr ⟨h1,f.nd⟩),fun k=>?_,fun q Z=>?_,by have:=f.len;rw[h2.length_eq];simp;omega⟩
  ·rw[hm.mem_iff,LZ,LY,f.mem,MF,MQ];constructor
   ·rintro(rfl|z)
    ·exact .inr (by simp)
    ·exact .inl z
   ·rintro(z|z)
    ·exact .inr z
    ·exact .inl (by simpa using z)
  ·rcases LY.mp (h2.mem_iff.mp Z)with rfl|z
   ·exact LU _ (MB.mpr rfl)
   ·exact MV _ (f.sub q z)
section
variable {prog:e_}{w:f'}{A:h_}{R:Rv->b_->Prop}{I:dt}{fp wr:List dt}{G:Array P7->Array P7->Prop}{n:Nat}{P:Nat->aC->Prop}{St:Nat->b_->Prop}
theorem D0(W:WalksS prog w A.in1 I fp wr G n P St)(x:S∉fp)(Z:Nat->KA)(H:∀i v,P i v->v= .ref (Z i).2)(hn:n<=18)(d:A.in1.units<y8)(C:∀i,i<n->(Z i).2∉S::wr):
  ∀(c i:Nat) (s:b_),n - i=c->i<=n->St i s->(∀j,j<n->kT (la prog w) s.heap (Z j).1 (Z j).2)->∀o es ep t L,SetAt prog w s.heap S o es ep t L->Folded ((ey i).map Z) L->
   (∀s',Moved (S::wr) G s s'->∀o es ep t L,SetAt prog w s'.heap S o es ep t L->Folded ((ey n).map Z) L->R (.ok (.ret .none)) s')->
   r7 (fc prog w) A (.builtin "set.update.loop" ⟨[.ref S,.ref I],[]⟩) R s:=by
 have E:S∉wr:=fun h=>x (W.sub _ h);have X:∀b∈wr,b∈S::wr:=fun b B=>LN _ B;intro c
 induction c with
 |zero=>
  intro i s hc hi Q f o es ep t L m K l;obtain rfl:i=n:=by omega
  refine Nr F.entry_set_update_loop ?_;rw[Np Om _];show ee _ A.in1 (z4 (.ref I)>>=_) _ _ s;refine LA (W.done s _ _ Q fun s' hm=>?_);show ee _ A.in1 (ret i0) _ _ s';exact LD (l s' (hm.mono X) o es ep t L (m.at fun N e=>hm.heap S N E e) K)
 | succ c ih=>
  intro i s hc hi Q f o es ep t L m K l;have Y:i<n:=by omega
  refine Nr F.entry_set_update_loop ?_;rw[Np Om _];show ee _ A.in1 (z4 (.ref I)>>=_) _ _ s;refine LA (W.item i s _ _ Y Q fun v s' hP J hm=>?_);cases H i v hP;have u:=m.at (h':=s'.heap) fun N e=>hm.heap S N E e;have U:∀j,j<n->kT (la prog w) s'.heap (Z j).1 (Z j).2:=fun j O=>wO (f j O) fun N e=>hm.heap _ N (fun z=>C j O (X _ z)) e;show ee _ A.in1 (y3 [er (Z i).2] (setAdd S (.ref (Z i).2))>>=_) _ _ s';refine LA (Mw ?_);unfold setAdd;refine Mw ?_;refine LA (wpAny_pyHash_tuple d (U i Y) ?_);have a0:L.length<=i:=by have:=K.len;simpa using this
  have g:wN prog w s'.heap L:=fun p hp=>by
   obtain⟨j,O,rfl⟩:=Mp.mp (K.sub p hp);exact U j (O5 (Ma.mp O) Y)
  refine GP (s:={s' with toks:=s'.toks+((Z i).1.length+1)}) d u g (U i Y) (by omega) fun b h' N es' a4 t' a r T hA=>?_
  have k:Folded ((ey (i+1)).map Z) a:=by
   rw[PJ,MF];exact K.add hA
  refine LD ⟨Pr Om _,ih (i+1) _ (by omega) Y (W.frame _ s' _ _ J (NB _ _) fun b B o e=>?_) (fun j O=>wO (U j O) fun o e=>?_) _ _ _ _ _ r k fun q y=>?_⟩
  ·rw[T.2 b (fun h:b=S=>x (by rw[<-h];exact B))];exact e
  ·rw[T.2 _ (fun h=>C j O (by rw[h];exact LX))];exact e
  ·refine l q (Moved.trans W.gtrans ((hm.mono X).then_heap (NB _ _) fun b o B e=>?_) y);rw[T.2 b (fun h:b=S=>B (by rw[h];exact LX))];exact e
end
section
variable {prog:e_}{w:f'}{A:h_}{E:aC->b_->Prop}{s:b_}
theorem uL:QN (.type "tuple") (.type "set")=a_ false:=by rw[OG];kernel_rfl
theorem sV:QN (.type "tuple") (.type "frozenset")=a_ false:=by rw[OG];kernel_rfl
def br(led:Bool):Obj:={cls:=.type "set",dict:=none,data:=.set #[] 0 (.fresh 0 0 led)}
def cV(w:f'):Bool:= !(w.params.followText "set-order")
def Src(h:gd)(x:dt)(items:Array aC):Prop:=h.IsList x items\/h.IsTuple x items
theorem Src.at{h':gd}(r:Src h x items)(e:∀o,h.get? x=ar o->h'.get? x=ar o):Src h' x items:=by
 rcases r with⟨o,ho,r⟩|⟨o,ho,r⟩
 ·exact .inl ⟨o,e o ho,r⟩
 ·exact .inr ⟨o,e o ho,r⟩
theorem Src.lt(r:Src h x items):x<h.objs.size:=by
 rcases r with⟨o,ho,_⟩|⟨o,ho,_⟩<;>exact LK ho
theorem uM(r:Src s.heap x items)
  (h:∀(ob:Obj) (St:Nat->gd->Prop),(∀Y:h_,Y.handled=none->Walks prog w Y s.heap.objs.size [s.heap.objs.size,x] [s.heap.objs.size] items.size (fun i v=>items[i]? =ar v) St)->St 0 (s.heap.push ob)->
   Q (.ref s.heap.objs.size) {s with heap:=s.heap.push ob}):ee (fc prog w) A (P2 (.ref x)) Q E s:=by
 have Z:x≠s.heap.objs.size:=LQ r.lt;rcases r with r|r
 ·refine Ow r (h _ _ (fun Y X=>Q_ X s.heap.objs.size x Z items) ⟨⟨_,LM _ rfl,rfl,rfl⟩,r.push _⟩)
 ·refine M9 r (h _ _ (fun Y X=>Walks.tuple X s.heap.objs.size x Z items) ⟨⟨_,LM _ rfl,rfl,rfl⟩,?_⟩);obtain⟨o,W,q⟩:=r;exact⟨o,LB _ W,q⟩
theorem Je(a:aC){Q1:aC->b_->Prop}(h:Q1 (.ref s.heap.objs.size) {s with heap:=s.heap.push (br (cV w))}):
  r7 (fc prog w) A (.call (.builtin "set.__new__") ⟨[.type "set",a],[]⟩) (wants Q1 E) s:=by
 refine On ?_;show ee _ A.in1 (do PY "set.__new__" ⟨[.type "set",a],[]⟩;P_ (.builtin "set.__new__" ⟨[.type "set",a],[]⟩)) _ _ s
 refine LA (PQ (F.newCall_set_1 a) (LD ⟨Pr F.plain_set_new _,Nr F.entry_set_new ?_⟩));rw[Np F.plain_set_new _];unfold Builtin.«set.__new__» Builtin.Frozenset.newClass;have Z:=sub_set_self;obtain⟨X,g,d,Y,os⟩:=s;dsimp only
 wp_walk
 refine NC (LD ?_);dsimp only;simp only[newObj];exact LA (wpAny_alloc (LD (LD h)))
theorem uN(r:Src s.heap x items):∃T,s.TypeIs (.ref x) T/\QN (.type T) (.type "set")=a_ dV/\QN (.type T) (.type "frozenset")=a_ dV/\(u4 T==u4 "dict")=false:=by
 rcases r with⟨o,ho,hc,_⟩|⟨o,ho,hc,_⟩
 ·exact⟨"list",⟨o,ho,hc⟩,F.sub_list_set,F.sub_list_frozenset,by decide⟩
 ·exact⟨"tuple",⟨o,ho,hc⟩,uL,sV,by decide⟩
set_option maxHeartbeats 8000000 in
theorem GQ(a:A.handled=none)(hu:A.in1.in1.in1.units<y8)(r:Src s.heap x items)(X:Nat->KA)(U:∀(i:Nat) (v:aC),items[i]? =ar v->v= .ref (X i).2)(hn:items.size<=18)
  (u:∀j,j<items.size->kT (la prog w) s.heap (X j).1 (X j).2)
  (h:∀(h':gd) (tk:Nat) o es ep t L,SetAt prog w h' s.heap.objs.size o es ep t L->Folded ((ey items.size).map X) L->(∀b o,b<s.heap.objs.size->s.heap.get? b=ar o->h'.get? b=ar o)->
   Q (.ref s.heap.objs.size) {s with heap:=h',toks:=tk}):ee (fc prog w) A (call (.type "set") [.ref x]) Q E s:=by
 obtain⟨c,tl,n⟩:=F.called_set.mro;have O:=F.called_set.made;have m:=F.called_set.sub;refine NQ (On ?_);show ee _ _ (RX (.type "set") _) _ _ _;refine LD ⟨Oo _ (by decide+kernel),Nr F.entry_type_call ?_⟩
 rw[Around.under_plain (weight_type_call_type "set" [.ref x] []) rfl];have h1:=F.called_set.notType;have h2:=F.called_set.canCreate;have b1:=F.typeCall_set_1 (.ref x)
 repeat (any_goals (first|assumption|wp_step))
 refine M7 (Je (.ref x) (E:=E) (Q1:=fun obj s1=>obj= .ref s.heap.objs.size/\s1={s with heap:=s.heap.push (br (cV w))}) ⟨rfl,rfl⟩) fun rr s1 P=>?_;cases rr with
 |error e=>exact P
 | ok fl=>
  cases fl with
  | ret obj=>
   obtain⟨rfl,rfl⟩:=P;have y:(s.heap.push (br (cV w))).get? s.heap.objs.size=ar (br (cV w)):=LM _ rfl;have q:O_ {s with heap:=s.heap.push (br (cV w))} (.ref s.heap.objs.size) "set":=⟨_,y,rfl⟩;have b3:=F.called_set.init.lookup;have l:=F.called_set.init.bind (.ref s.heap.objs.size)
   repeat (any_goals (first|assumption|wp_step))
   refine M7 (NX (R:=wants (fun r s2=>r= .none/\Q (.ref s.heap.objs.size) s2) E) F.called_set.init.plain F.entry_set_init (check_set_init_1 q ?_)) fun f s2 Z=>?_
   ·have z:Src (s.heap.push (br (cV w))) x items:=r.at fun o e=>LB _ e;obtain⟨Tx,b2,a5,k,hd⟩:=uN (s:={s with heap:=s.heap.push (br (cV w))}) z;unfold Builtin.«set.__init__» noKeywords Builtin.Frozenset.updateFrom;generalize hPI:P2=PI;have b5:=q;unfold br at y
    wp_walk
    subst hPI;refine uM (s:={s with heap:=s.heap.push (br (cV w))}) z fun B St W I=>?_;refine LA (PP ?_);have C:x<s.heap.objs.size:=r.lt;have Y:(s.heap.push (br (cV w))).objs.size=s.heap.objs.size+1:=MG _ _;have G:s.heap.objs.size∉[(s.heap.push (br (cV w))).objs.size,x]:=by
     rw[Y];simp only[gc,f_,or_false,not_or];exact⟨LQ (NA _),M6 C⟩
    have J:A.in1.in1.in1.handled=none:=by simp[a]
    have up:∀b o,s.heap.get? b=ar o->((s.heap.push (br (cV w))).push B).get? b=ar o:=fun b o e=>LB _ (LB _ e);have S:∀j,j<items.size->(X j).2<s.heap.objs.size:=fun j T=>let ⟨_,_,_,e,_⟩:=u j T;LK e;have S0:SetAt prog w ((s.heap.push (br (cV w))).push B) s.heap.objs.size (br (cV w)) #[] 0 (.fresh 0 0 (cV w)) []:=
     ⟨LB _ (LM _ rfl),⟨rfl,rfl,rfl⟩,rfl,BH _,rfl,rfl,rfl,.nil⟩
    refine D0 ((W _ J).toS) G X U hn hu (fun j T=>?_) (items.size - 0) 0 _ rfl (L6 _) I (fun j T=>wO (u j T) fun o e=>up _ o e) _ _ _ _ _ S0 .nil fun s' hm o es ep t L K g=>?_
    ·rw[Y];have:=S j T;simp only[gc,f_,or_false,not_or];exact⟨LQ this,LQ (MA this)⟩
    ·obtain⟨h',g',d',N,H⟩:=s';have eg:g'=s.gens:=hm.gens;have ed:d'=s.drawn:=hm.drawn;have d:H=s.os:=hm.os;subst eg ed d;show ee _ _ _ _ _ _;refine LD ?_;show ee _ _ (ret i0) _ _ _;refine LD ⟨rfl,h h' N o es ep t L K g fun b o p e=>?_⟩;refine hm.heap b o ?_ (up b o e);rw[Y];simp only[gc,f_,or_false,not_or];exact⟨LQ p,LQ (MA p)⟩
   ·cases f with
    |error e=>exact Z
    | ok fl2=>
     cases fl2 with
     |ret rv=>
      obtain⟨rfl,hq⟩:=Z
      repeat (any_goals (first|assumption|wp_step))
     |_=>exact Z.elim
  |_=>exact P.elim
end
theorem pR{α:Type}:∀{l:List α} {i:Nat} {x:α},l[i]? =ar x->l.Perm (x::l.eraseIdx i)
 |[],_,_,h=>by simp at h
 |y::l,0,x,h=>by simp at h;subst h;exact .refl _
 |y::l,i+1,x,h=>by
  have:=pR (l:=l) (i:=i) (x:=x) (by simpa using h)
  rw[List.eraseIdx_cons_succ];exact(G4 y this).trans (.swap _ _ _)
theorem yb{α:Type}(Z:Nat->Nat):∀(fuel k:Nat) (left:List α) (out:Array α),left.length=fuel->(QE Z fuel k left out).toList.Perm (out.toList++left)
 |0,k,left,out,h=>by
  have:left=[]:=List.length_eq_zero_iff.mp h;subst this;unfold QE;simp
 |fuel+1,k,left,out,h=>by
  unfold QE;have Y:Z k % left.length<left.length:=Pg _ (by omega)
  have X:left[Z k % left.length]? =ar left[Z k % left.length]:=LG Y
  rw[X];simp only;refine(yb Z fuel (k+1) _ _ (by rw[O1 Y];omega)).trans ?_
  rw[Array.toList_push,L9];exact List.Perm.append_left _ (pR X).symm
theorem zN{α:Type}(Z:Nat->Nat)(xs:Array α):(QO Z xs).toList.Perm xs.toList:=by
 have:=yb Z xs.size 0 xs.toList #[] (by simp)
 simpa [QO]using this
def jC(w:f')(a:dt)(ep:Nat)(es:Array Ent):Array Ent:=if w.params.followText "set-order"=c_ then QO (w.params.setOrder a ep) es else es
theorem rH(w:f')(a:dt)(ep:Nat)(es:Array Ent):(jC w a ep es).toList.Perm es.toList:=by
 unfold jC;split
 ·exact zN _ _
 ·exact .refl _
theorem kh(w:f')(a:dt)(ep:Nat)(es:Array Ent):(jC w a ep es).size=es.size:=by
 have:=(rH w a ep es).length_eq;simpa using this
theorem dX:Slot "set_iterator" "__next__" "set_iterator.__next__":=
 .of (owner:="set_iterator") (n:="__next__") (by rw[PK,OK];kernel_rfl) (by decide+kernel) (by decide+kernel) (by decide+kernel)
  (by first|exact .inl (by decide+kernel)|exact .inr (by decide+kernel)) (by rw[OG];kernel_rfl)
theorem kA:RG table "set_iterator.__next__"=ar Builtin.«set_iterator.__next__»:=entryFor_of_fast (by kernel_rfl)
theorem lG(a:aC):RO "set_iterator.__next__" ⟨[a],[]⟩:=by unfold RO;kernel_rfl
theorem pS:RG table "set.__iter__"=ar Builtin.«frozenset.__iter__»:=
 entryFor_alias (id':="frozenset.__iter__") (by kernel_rfl) rfl (by decide+kernel) (by kernel_rfl)
section
variable {prog:e_}{w:f'}{A:h_}{E:aC->b_->Prop}{s:b_}
def f7(w:f')(t:k')(i:Nat):Nat:=if w.params.followText "set-order"=c_ then 0 else match i with
 |0=>0
 |i+1=>t.place.getD i 0+1
structure IterAt(w:f')(h:gd)(I a:dt)(t:k')(sz ep i:Nat):Prop where
 ex:∃o,h.get? I=ar o/\o.cls= .type "set_iterator"/\o.data= .fields #[.int (f7 w t i) 0,.int i 0,.ref a,.int sz 0,.int ep 0]
theorem IterAt.typeIs(k:IterAt w s.heap I a t sz ep i):s.TypeIs (.ref I) "set_iterator":=
 let ⟨o,ho,hc,_⟩:=k.ex
 ⟨o,ho,hc⟩
theorem yc(k:SetAt prog w s.heap a o es ep t L)(G:i<=es.size){Q:Option (aC×Nat)->b_->Prop}
  (h:Q (((jC w a ep es)[i]?).map fun e=>(e.2,f7 w t (i+1))) s):ee (fc prog w) A (setNext a (f7 w t i) i ep) Q E s:=by
 unfold setNext;refine LA (M0 k.get k.dat k.fits ?_);simp only;unfold Re;refine LA (LA (NC (LD ?_)));show ee _ _ (if (w.params.followText "set-order")=c_ then _ else _) _ _ s;by_cases hw:w.params.followText "set-order"=c_
 ·rw[if_pos hw];simp only[bne_self_eq_false,fg,if_false];unfold setWalk;refine LA (LA (M0 k.get k.dat k.fits ?_));simp only;unfold Re;refine LA (LA (NC (LD ?_)));show ee _ _ (if (w.params.followText "set-order")=c_ then _ else _) _ _ s;rw[if_pos hw];refine LA (NC (LD ?_));refine LD ?_;have e1:jC w a ep es=QO (w.params.setOrder a ep) es:=by unfold jC;rw[if_pos hw]
  have e2:∀j,f7 w t j=0:=fun j=>by unfold f7;rw[if_pos hw]
  rw[e1,e2]at h;rw[e2];exact h
 ·rw [if_neg hw];have P:(!t.plain && decide (es.size>1))=false:=by rw[k.pln];rfl
  have J:t.led=true:=by rw[k.led];simpa using hw
  have e1:jC w a ep es=es:=by unfold jC;rw[if_neg hw]
  have e2:∀j,f7 w t j=match j with|0=>0|j+1=>t.place.getD j 0+1:=fun j=>by unfold f7;rw[if_neg hw]
  have I:Qb t.place (f7 w t i)=i:=by
   obtain⟨T,Y,W⟩:=pM k.ok.ris (f7 w t i);cases i with
   | zero=>
    rw[e2]at T Y W⊢;simp only at T Y W⊢;rcases Nat.eq_zero_or_pos (Qb t.place 0)with z|z
    ·exact z
    ·have Z:0<t.place.size:=by omega
     have:=Y 0 _ z (LP Z);omega
   | succ i=>
    have X:i<t.place.size:=by rw[k.ok.siz];omega
    have S:t.place.getD i 0=t.place[i]:=by simp[Rc,X]
    rw[e2]at T Y W⊢;simp only[S]at T Y W⊢;have O:=LP X;rcases Ph (Qb t.place (t.place[i]+1)) (i+1)with l|l|l
    ·have:=W i _ (by omega) O
     omega
    ·exact l
    ·have Z:i+1<t.place.size:=by omega
     have F:=Y (i+1) _ l (LP Z);have H:=k.ok.ris i (i+1) _ _ (by omega) O (LP Z)
     omega
  generalize hu:PySem.unsupported=U;show ee _ _ (if (!t.plain && decide (es.size>1))=c_ then _ else _) _ _ s;rw[P];simp only[fg,if_false];have hm:∀R:Unit->b_->Prop,R () s->ee (fc prog w) A (if (!t.led && !es.isEmpty)=c_ then unsupported "set:maker-not-led" else a_ ()) R E s:=fun R K=>by
   rw[J];simp only[u0,Bool.false_and,fg,if_false];exact LD K
  refine LA (hm _ ?_);refine LD ?_;rw[I];rw[e1,e2]at h;simp only at h;by_cases Z:i<es.size
  ·have N:i<t.place.size:=by rw[k.ok.siz];exact Z
   have S:t.place.getD i 0=t.place[i]:=by simp[Rc,N]
   rw[LP Z,S]at h;rw[LP Z,LP N];exact h
  ·rw[MY (by omega)]at h
   rw[MY (by omega)]
   exact h
end
theorem BP{α X:Type}{f:α->X}{l Y:List X}(h:l.Perm Y):∀L:List α,Y=L.map f->∃Z:List α,Z.Perm L/\l=Z.map f:=by
 induction h with
 |nil=>intro L e;exact⟨[],by rw[List.map_eq_nil_iff.mp e.symm],rfl⟩
 | cons x _ ih=>
  intro L e;cases L with
  |nil=>cases e
  |cons y L=>
   rw[LZ]at e;injection e with e1 e2;obtain⟨Z,p,q⟩:=ih L e2;exact⟨y::Z,p.cons y,by rw[q,e1];rfl⟩
 | swap x y l=>
  intro L e
  match L,e with
  |[],e=>cases e
  |[_],e=>rw[LZ]at e;injection e with _ e;cases e
  |a::b::L,e=>
   rw[LZ,LZ]at e;injection e with e1 e2;injection e2 with e2 e3;exact⟨b::a::L,.swap _ _ _,by rw[e1,e2,e3];rfl⟩
 |trans _ _ ih1 ih2=>
  intro L e;obtain⟨L1,W,R⟩:=ih2 L e;obtain⟨S,U,T⟩:=ih1 L1 R;exact⟨S,U.trans W,T⟩
section
variable {prog:e_}{w:f'}{A:h_}{E:aC->b_->Prop}{s:b_}
theorem rJ{h:gd}{g:Array aC->Array aC}(Y:h.get? I=ar o)(Z:o.data= .fields fs):
  ∃o',(h.update I (A' g)).get? I=ar o'/\o'.cls=o.cls/\o'.data= .fields (g fs):=
 ⟨_,MC _ Y (NO (Na Z _)),Pl ..,Na Z _⟩
theorem next_item{Q:Option aC->b_->Prop}(k:SetAt prog w s.heap a o es ep t L)(Z:IterAt w s.heap I a t es.size ep i)(N:I≠a)
  (U:(jC w a ep es)[i]? =ar e) (T:∀h',IterAt w h' I a t es.size ep (i+1)->rn I s.heap h'->Q (ar e.2) {s with heap:=h'}):ee (fc prog w) A (z4 (.ref I)) Q E s:=by
 obtain⟨K,X,O,hd⟩:=Z.ex;have Y:i<es.size:=by rw[<-kh w a ep es];exact(L8.mp U).1
 unfold z4;refine LA (NR (wpAny_callSpecial?_slot (name:=i_ "__next__") Z.typeIs dX
  (ME dX Z.typeIs kA ?_ (lG _))))
 unfold Builtin.«set_iterator.__next__»;refine LA (m:=RH "__next__" 0 _) (LD ?_);refine LA (wpAny_fieldsOf X hd ?_);simp only;refine LA (OU k.get k.dat k.fits ?_);rw[if_neg (by simp)]
 refine LA ?_;rw[Mv,Mv,Mv];refine yc k (Nd Y) ?_;rw[U];simp only[D'];refine LA (NG X hd (by simp) ?_)
 obtain⟨S,g1,c1,W⟩:=rJ (g:=fun fs=>fs.set! 0 (l4 (f7 w t (i+1):Nat))) X hd;refine LA (NG (o:=S) (s:={s with heap:=_}) g1 W (by simp) (LD ⟨e.2,rfl,LD (T _ ?_ ((M1 ..).trans (M1 ..)))⟩))
 obtain⟨o2,g2,R,P⟩:=rJ (g:=fun fs=>fs.set! 1 (l4 ((i:Int)+1))) g1 W;refine⟨o2,g2,by rw[R,c1];exact O,?_⟩
 rw[P];simp[l4]
theorem next_end{Q:Option aC->b_->Prop}(Y:A.handled=none)(k:SetAt prog w s.heap a o es ep t L)(Z:IterAt w s.heap I a t es.size ep es.size)
  (W:∀h',QU I s.heap h'->Q none {s with heap:=h'}):ee (fc prog w) A (z4 (.ref I)) Q E s:=by
 obtain⟨S,X,U,hd⟩:=Z.ex;unfold z4;refine LA (NR (wpAny_callSpecial?_slot (name:=i_ "__next__") Z.typeIs dX
  (ME dX Z.typeIs kA ?_ (lG _))))
 unfold Builtin.«set_iterator.__next__»;refine LA (m:=RH "__next__" 0 _) (LD ?_);refine LA (wpAny_fieldsOf X hd ?_);simp only;refine LA (OU k.get k.dat k.fits ?_);rw[if_neg (by simp)]
 refine LA ?_;rw[Mv,Mv,Mv];refine yc k (LF _) ?_;rw[MY (by rw[kh];exact LF _)]
 simp only[Option.map_none];refine LA (NG X hd (by simp) ?_)
 show ee _ _ (RP (.type "StopIteration") []>>=_) _ _ _;refine LA ?_;simp only[RP,newTuple];refine LA (Mx ?_ (by size_fits))
 refine LA (m:=I0 _ _) (PQ (a:=i0) (by first|rfl|(simp only[I0];rfl)) ?_)
 refine Mx ?_ (by size_fits)
 simp only[raiseNew];refine LA (wpAny_handled ?_);first|rw[show A.in1.handled=none from Y]|rw[Y]
 refine LA (LD (wpAny_throw ?_));refine LA (ND (T:="StopIteration") (b:=c_) ⟨_,LM _ rfl,rfl⟩ OH ?_);exact LD (W _ (((M1 ..).extBut.push _).push _))
theorem IterAt.at{h':gd}(k:IterAt w h I a t sz ep i)(e:∀o,h.get? I=ar o->h'.get? I=ar o):IterAt w h' I a t sz ep i:=
 let ⟨o,ho,r⟩:=k.ex
 ⟨⟨o,e o ho,r⟩⟩
theorem lH:Slot "set_iterator" "__iter__" "set_iterator.__iter__":=
 .of (owner:="set_iterator") (n:="__iter__") (by rw[PK,OK];kernel_rfl) (by decide+kernel) (by decide+kernel) (by decide+kernel)
  (by first|exact .inl (by decide+kernel)|exact .inr (by decide+kernel)) (by rw[OG];kernel_rfl)
theorem qM:RG table "set_iterator.__iter__"=ar Builtin.«dict_keyiterator.__iter__»:=
 entryFor_alias (id':="dict_keyiterator.__iter__") (by kernel_rfl) rfl (by decide+kernel) (by kernel_rfl)
theorem sW(a:aC):RO "set_iterator.__iter__" ⟨[a],[]⟩:=by unfold RO;kernel_rfl
theorem BQ{Q:aC->b_->Prop}(k:SetAt prog w s.heap a o es ep t L)
  (S:∀ob,IterAt w (s.heap.push ob) s.heap.objs.size a t es.size ep 0->Q (.ref s.heap.objs.size) {s with heap:=s.heap.push ob}):ee (fc prog w) A (P2 (.ref a)) Q E s:=by
 have U:s.TypeIs (.ref a) "set":=⟨o,k.get,k.ex.1⟩;refine wpAny_pyIter_slot U F.slot_set_iter (ME F.slot_set_iter U pS ?_ (F.args_set_iter_1 _));unfold Builtin.«frozenset.__iter__» Builtin.Frozenset.slot0;refine LA (LA (m:=RH "__iter__" 0 _) (LD ?_));refine LD ?_;unfold Builtin.Frozenset.sizeOf;refine LA (LA (OU k.get k.dat k.fits (LD ?_)));unfold setDrawn;refine LA (LA (M0 k.get k.dat k.fits ?_));simp only;unfold Re;refine LA (LA (NC (LD ?_)));refine LD ?_;have W:(!(w.params.followText "set-order") && (!t.plain && decide (es.size>1)))=false:=by rw[k.pln];simp
 have Z:∀(X Y:Sem Fin) (R:Fin->b_->Prop),ee (fc prog w) A.in1 Y R E s->ee (fc prog w) A.in1 (if (!(w.params.followText "set-order") && (!t.plain && decide (es.size>1)))=c_ then X else Y) R E s:=fun X Y R P=>by
  rw[W];simp only[fg,if_false];exact P
 refine Z _ _ _ ?_;refine LA (LD ?_);refine LA (wpAny_setEpoch_of k.get k.dat k.fits ?_);refine LA (Mx (LD ⟨_,rfl,"set_iterator",_,⟨_,LM _ rfl,rfl⟩,dX.lookup,S _ ⟨⟨_,LM _ rfl,rfl,?_⟩⟩⟩));have T:f7 w t 0=0:=by
  unfold f7;split<;>rfl
 rw[T];rfl
theorem zO{es:Array Ent}(O:A.handled=none)(T:I≠a):Walks prog w A I [I,a] [I] es.size (fun i v=>∃e,(jC w a ep es)[i]? =ar e/\v=e.2)
  (fun i h=>SetAt prog w h a o es ep t L/\IterAt w h I a t es.size ep i) where
 sub:=fun b Y=>by simp at Y;simp[Y]
 frame:=fun i h h' st P=>⟨st.1.at fun Z e=>P a (by simp) Z e,st.2.at fun Z e=>P I (by simp) Z e⟩
 item:=fun i s Q E N st X=>by
  have S:i<(jC w a ep es).size:=by rw[kh];exact N
  have he:=LP S;exact next_item st.1 st.2 T he fun h' W U=>X _ h' s.toks ⟨_,he,rfl⟩ ⟨st.1.at fun Z e=>U.extBut a Z (j7 T) e,W⟩ fun b Z Y e=>U.extBut b Z (fun z=>Y (by simp[z])) e
 done:=fun s Q E st X=>next_end O st.1 st.2 fun h' R=>X h' s.toks fun b Z Y e=>R b Z (fun z=>Y (by simp[z])) e
 self:=fun i s Q E st X=>by
  refine wpAny_pyIter_slot st.2.typeIs lH (ME lH st.2.typeIs qM ?_ (sW _));show ee _ _ (ret (.ref I)) _ _ s;exact LD ⟨_,rfl,"set_iterator",_,st.2.typeIs,dX.lookup,X⟩
theorem uO{Q:List aC->b_->Prop}(q:A.handled=none)(k:SetAt prog w s.heap a o es ep t L)(d:es.size<=18)
  (g:∀(h':gd) (tk:Nat) (R:List KA),R.Perm L->(∀b o,s.heap.get? b=ar o->h'.get? b=ar o)->Q (R.map fun p=>er p.2) {s with heap:=h',toks:=tk}):
  ee (fc prog w) A (RY (.ref a)) Q E s:=by
 have Y:a<s.heap.objs.size:=LK k.get;unfold RY;refine LA (PP (Nr F.entry_proto_collect ?_));rw[Np F.plain_proto_collect _];show ee _ A.in1 (RW []>>=fun l=>P_ (.builtin "list.__iadd__" ⟨[l,.ref a],[]⟩)) _ _ s;refine LA (Mx ?_);refine LD ⟨Pr F.plain_list_iadd _,Nr F.entry_list_iadd ?_⟩;rw[Np F.plain_list_iadd _];have k1:SetAt prog w (s.heap.push {cls:=.type "list",data:=.seq ([]:List aC).toArray}) a o es ep t L:=k.at fun Z e=>LB _ e;have z:(s.heap.push {cls:=.type "list",data:=.seq ([]:List aC).toArray}).get? s.heap.objs.size=ar {cls:=.type "list",data:=.seq ([]:List aC).toArray}:=LM _ rfl;have h:O_ {s with heap:=s.heap.push {cls:=.type "list",data:=.seq ([]:List aC).toArray}} (.ref a) "set":=⟨o,k1.get,k1.ex.1⟩;have T:Builtin.List.listSameRef (.ref s.heap.objs.size) (.ref a)=false:=by simp[Builtin.List.listSameRef,Nat.ne_of_gt Y]
 show ee _ A.in1 (Builtin.List.listExtendWith (.ref s.heap.objs.size) (.ref a) (.ref s.heap.objs.size)) _ _ _;unfold Builtin.List.listExtendWith;refine LA (Oc h ?_);rw[if_neg (by rw[T];decide)]
 refine LA (BQ (s:={s with heap:=s.heap.push {cls:=.type "list",data:=.seq ([]:List aC).toArray}}) k1 fun P hit=>?_);refine LA (Mw ?_);have S:O_ {s with heap:=(s.heap.push {cls:=.type "list",data:=.seq ([]:List aC).toArray}).push P} (.ref a) "set":=⟨o,LB _ k1.get,k1.ex.1⟩;unfold Builtin.List.listLengthHint;refine LA (wpAny_specialOf S F.slot_set_len.lookup ?_);generalize cH:("set.__len__":String)=id0
 wp_delta
 rw[show splitId id0=ar ("set","__len__")from by subst cH;decide+kernel]
 subst cH;refine LA (ND (b:=c_) S sub_set_self ?_);rw[if_neg (by decide)]
 rw[if_pos (by decide+kernel)]
 refine LA (Oc S ?_);refine LD ?_;rw[if_pos (by decide+kernel)]
 refine LA (OB ?_);generalize hg:(s.heap.push {cls:=.type "list",data:=.seq ([]:List aC).toArray}).objs.size=I at hit;have H:I=s.heap.objs.size+1:=by rw[<-hg];exact MG _ _
 have x:I≠a:=by rw[H];exact M6 (MA Y)
 have N:I≠s.heap.objs.size:=by rw[H];exact PC _
 have f:s.heap.objs.size∉[I,a]:=by
  simp only[gc,f_,or_false,not_or];exact⟨j7 N,M6 Y⟩
 have O:((s.heap.push {cls:=.type "list",data:=.seq ([]:List aC).toArray}).push P).get? s.heap.objs.size=ar {cls:=.type "list",data:=.seq ([]:List aC).toArray}:=LB _ z;refine LA ?_;show ee _ A.in1 (updateSeq s.heap.objs.size (·.push .none)>>=fun _=>updateSeq s.heap.objs.size (·.pop)) _ _ _;refine LA (wpAny_updateSeq O rfl ?_);have K:=MC (l_ (·.push i0)) O rfl;refine wpAny_updateSeq K rfl ?_;have y:=MC (l_ (·.pop)) K rfl;have U:∀b Z,b≠s.heap.objs.size->((s.heap.push {cls:=.type "list",data:=.seq ([]:List aC).toArray}).push P).get? b=ar Z->
   ((((s.heap.push {cls:=.type "list",data:=.seq ([]:List aC).toArray}).push P).update s.heap.objs.size (l_ (·.push i0))).update s.heap.objs.size (l_ (·.pop))).get? b=ar Z:=
  fun b Z v e=>(Mq _ _ (j7 v)).trans ((Mq _ _ (j7 v)).trans e)
 have k2:=(k1.at (h':=(s.heap.push {cls:=.type "list",data:=.seq ([]:List aC).toArray}).push P) fun Z e=>LB _ e);have G:A.in1.handled=none:=by simp[q]
 have W:=zO (prog:=prog) (w:=w) (A:=A.in1) (I:=I) (a:=a) (o:=o) (es:=es) (ep:=ep) (t:=t) (L:=L) G x;refine LD ⟨Pr F.plain_extend_loop _,?_⟩;refine codeAny_extend_loopS W.toS (by rw[ML];omega) _ f _ es.size 0 _ _ _ rfl (L6 _) ⟨k2.at fun Z e=>U a Z (LQ Y) e,hit.at fun Z e=>U I Z N e⟩ y (ItemsOf.nil _) fun s' acc c hm C X=>?_
 show ee _ A (load s.heap.objs.size>>=_) _ _ s';refine LA (wpAny_load C ?_);refine LD ?_;obtain⟨h',g',d',J,B⟩:=s';have m:g'=s.gens:=hm.gens;have j:d'=s.drawn:=hm.drawn;have u:B=s.os:=hm.os;subst m j u;obtain⟨R,r,n⟩:=BP (rH w a ep es) L k.ents;have he:acc.toList=R.map fun p=>er p.2:=by
  have e1:acc.toList=(jC w a ep es).toList.map (·.2):=by
   refine NS fun i=>?_;rw[Me,L3,Me];by_cases hi:i<acc.size
   ·obtain⟨e,e1,e2⟩:=X.2 i _ (LP hi);rw[LP hi,e2,e1];rfl
   ·rw[MY (by omega),MY (by rw[kh, <-X.1];omega)];rfl
  rw[e1,n,Mi];rfl
 rw[he];refine g h' J R r fun b Z e=>hm.heap b Z ?_ (U b Z (LQ (LK e)) (LB _ (LB _ e)));simp only[gc,f_,or_false,not_or];exact⟨LQ (LK e),by rw[H];exact LQ (MA (LK e))⟩
end
end S4
namespace S4
open PySem PySem.Spec PySem.W PyProof.Rows L2 S3
section
variable {prog:e_}{w:f'}{A:h_}{E:aC->b_->Prop}{s:b_}
theorem wQ{vs:List aC}{P:PySem.Fin->b_->Prop}(W:s.heap.get? a=ar (v_ "list" vs.toArray n))(O:vs.length<2)
  (h:∀h' c,h'.get? a=ar (v_ "list" vs.toArray c)->(∀b o,b≠a->s.heap.get? b=ar o->h'.get? b=ar o)->P (.done (.ret .none)) {s with heap:=h'}):
  ee (fc prog w) A (Builtin.«list.sort» ⟨[.ref a],[]⟩) P E s:=by
 have Q:a<s.heap.objs.size:=LK W;obtain⟨e1,X⟩:∃e1,(s.heap.update a (l_ fun _=>(#[]:Array aC))).get? a=ar (v_ "list" #[] e1):=⟨_,get?_update_seq W fun _=> #[]⟩;have Z:(((s.heap.update a (l_ fun _=>(#[]:Array aC))).push (v_ "tuple" vs.toArray 0)).push (v_ "list" #[] 0)).get? a=ar (v_ "list" #[] e1):=LB _ (LB _ X);rw[list_sort_plain];refine LA (listItems_at W rfl ?_);refine LA (listUpdate_at W rfl ?_ (by rw[LR,ML];omega) (L6 _))
 refine LA (seqEpoch_at X rfl ?_);refine LA (wpAny_newTuple ?_ (by show vs.length<=_;rw[ML];omega))
 refine LA (wpAny_newList ?_ (L6 _));refine Mw ?_;show ee (fc prog w) A _ P E {s with heap:=((s.heap.update a (l_ fun _=>(#[]:Array aC))).push (v_ "tuple" vs.toArray 0)).push (v_ "list" #[] 0)};dsimp only;have Y:vs.toArray.size<2:=by rw[LR];omega
 rw[if_pos Y,if_pos Y];refine LA (LD ?_);rw[StateT.run_pure];refine LA (LD ?_);dsimp only;refine LA (seqEpoch_at Z rfl ?_);have R:(arrOf (SortSt.mk' general' (vs.toArray.zip vs.toArray) #[] 7 none)).map (·.2)=vs.toArray:=by
  show(vs.toArray.zip vs.toArray).map (·.2)=vs.toArray;rw[Array.map_snd_zip (LF _)]
 rw[R];refine LA (listUpdate_at Z rfl ?_ (L6 _) (by rw[LR,ML];omega))
 obtain⟨U,T⟩:∃U,((((s.heap.update a (l_ fun _=>(#[]:Array aC))).push (v_ "tuple" vs.toArray 0)).push (v_ "list" #[] 0)).update a (l_ fun _=>vs.toArray)).get? a=ar (v_ "list" vs.toArray U):=⟨_,get?_update_seq Z fun _=>vs.toArray⟩;simp only[bne_self_eq_false,fg,if_false];refine LD (h _ U T fun b o S e=>?_);rw[Nx _ _ _ _ S];refine LB _ (LB _ ?_);rw[Nx _ _ _ _ S];exact e
end
section
variable {X:Cx}
structure TRow(H:Hp)(vs:List V)(nss:List (List Int)):Prop where
 len:vs.length=nss.length
 at':∀i,i<vs.length->∃a,vs[i]? =ar (.ref a)/\H a=ar (.tup ((nss.getD i []).map V.int))
 same:∃c,∀i,i<vs.length->(nss.getD i []).length=c+1
def gG(nss:List (List Int))(q:List Nat):Prop:=q.Perm (ey nss.length)/\∀i j,i<=j->j<nss.length->HT.lexLt (nss.getD (q.getD j 0) []) (nss.getD (q.getD i 0) [])=dV
theorem jD{H:Hp}{Q:VK}(I:L2.Inv X pins σ H s)(Pv:List aC->Prop)
  (hc:∀(R:List aC->b_->Prop) (E':aC->b_->Prop),(∀vs Y N,Pv vs->(∀b o,s.heap.get? b=ar o->Y.get? b=ar o)->R vs {s with heap:=Y,toks:=N})->ee (fc X.prog X.w) X.A.in1 (RY arg) R E' s)
  (d:∀us,Pv us->∃(vs:List V) (Z:List (List Int)),bb vs us/\TRow H vs Z/\vs.length<64/\∀q,gG Z q->∀l,H l=none->Q (.ref l) (upd H l (.lst (q.map fun i=>vs.getD i .non)))):
  ee (fc X.prog X.w) X.A (call (.builtin "sorted") [arg]) (EP X pins σ Q) X.xe s:=by
 refine Calls.call_function_entry kind_sorted plain_sorted entry_sorted (args_sorted1 _) ?_;unfold Builtin.«sorted»;refine LA (m:=checkCount "sorted" 1 1 _) (LD ?_);refine LA (hc _ _ fun its Y N hP keep=>?_);obtain⟨vs,Z,rv,T0,g6,q⟩:=d its hP;have c2:=rv.length;have K:L2.Inv X pins σ H {s with heap:=Y,toks:=N}:=I.kept keep;obtain⟨m,F⟩:=K.fr;refine LA (wpAny_newList ?_ (by rw[ML];omega))
 have O:(Y.push (v_ "list" its.toArray 0)).get? Y.objs.size=ar (v_ "list" its.toArray 0):=LM _ rfl;have up:∀b o,Y.get? b=ar o->(Y.push (v_ "list" its.toArray 0)).get? b=ar o:=fun b o e=>LB _ e;have nd:Y.get? Y.objs.size=none:=MH (LF _);have hL:X.env.locals<Y.objs.size:=F.ns.lt;have hH:H Y.objs.size=none:=K.hok.fresh (LF _);have at':∀i,i<its.length->∃a,its[i]? =ar (.ref a)/\its.getD i i0= .ref a/\H a=ar (.tup ((Z.getD i []).map V.int)):=fun i U=>by
  obtain⟨a,e1,e2⟩:=T0.at' i (by omega)
  obtain⟨u,hu,ru⟩:=rv.get e1;cases (show u=er a from ru);exact⟨a,hu,by rw[LW,hu];rfl,e2⟩
 have c1:∀l:List Nat,(∀x∈l,x<its.length)->bb (l.map fun i=>vs.getD i .non) (l.map fun i=>its.getD i i0):=by
  intro l
  induction l with
  |nil=>intro _;exact .nil
  |cons x l ih=>
   intro hx;refine .cons ?_ (ih fun y hy=>hx y (LN _ hy));have r:x<vs.length:=by have:=hx x LX;omega
   obtain⟨u,hu,ru⟩:=rv.get (LG r);show L2.RelV (vs.getD x .non) (its.getD x i0);rw[LW,LW,hu,LG r];exact ru
 show ee _ _ _ _ _ {s with heap:=Y.push (v_ "list" its.toArray 0),toks:=N};refine LA (Mw (ME slot_list_sort ⟨_,O,rfl⟩ entry_list_sort ?body (args_list_sort _)))
 case body=>
  by_cases J:its.length<2
  ·refine wQ (s:={s with heap:=Y.push (v_ "list" its.toArray 0),toks:=N}) O J fun h' c g1 g2=>?_;refine⟨_,rfl,LD ⟨_,rfl,?_⟩⟩;have I2:L2.Inv X pins σ (upd H Y.objs.size (.lst vs)) {s with heap:=h',toks:=N}:=K.laid (fun b o e=>g2 b o (LQ (LK e)) (up b o e)) (LF _) ⟨by rw[ML];omega,its,c,rv,g1⟩
   refine⟨.ref Y.objs.size,_,I2,rfl,?_⟩;have:=q (ey Z.length) ⟨.refl _,fun i j E hj=>?_⟩ _ hH
   ·have e:(ey Z.length).map (fun i=>vs.getD i .non)=vs:=by
     refine NS fun i=>?_;rw[L3, <-T0.len];by_cases U:i<vs.length
     ·rw[N9 U,LG U];simp[ly,U]
     ·rw[My (by simpa using U),My (by omega)];rfl
    rw[e]at this;exact this
   ·have:i=j:=by have:=T0.len;omega
    subst this;exact i8 _
  ·obtain⟨c,b1⟩:=T0.same;refine kat_list_sort (s:={s with heap:=Y.push (v_ "list" its.toArray 0),toks:=N}) (F.kept up) (News.grown (oK (g:=X.base) (h:=Y) (L:=X.env.locals)) up) O (M6 hL) (MH (LS F.above (Nd hL)))
    (fun p hp=>LQ (LK (oK p hp).1)) (by omega) (by omega) fun e1 h' F' N'=>?_
   have S:∀J:gd,Fr X.base X.env.locals J m->News X.base X.env.locals J (lb X.base Y X.env.locals)->∀b o,b≠X.env.locals->Y.get? b=ar o->J.get? b=ar o:=fun J F2 N2 b o hb e=>by
    cases z:X.base.get? b with
    |some o'=>
     have:=K.bk b o' z;rw[show Y.get? b=ar o' from this]at e;cases e;exact F2.keep b _ z
    |none=>exact(N2 (b,o) (uf hb z e)).1
   have kp:=S h' F' fun z P=>N' z (LN _ P);have T:Tups Y its Z c:=⟨by have:=T0.len;omega,fun i U=>by
    obtain⟨a,_,e1,e2⟩:=at' i U;obtain⟨_,ws,f,o,ho,a5,n,hd⟩:=(show bj X.prog X.w H Y a (.tup ((Z.getD i []).map V.int))from K.hok a _ e2);refine⟨a,o,ws.toArray,n,e1,ho,a5,hd,by simpa using Oz f,?_⟩
    rw[LR, <-f.length,LC,b1 i (by omega)]⟩
   have T':Tups h' its Z c:=T.keep fun i a o U ea ho=>by
    obtain⟨a',_,e1,e2⟩:=at' i U;rw[ea]at e1;cases e1;refine kp a o (fun z=>?_) ho;rw[z,K.free]at e2;cases e2
   obtain⟨fs,k1,k2,k3⟩:=pI (h:=h') (vs:=its) fun v d=>by
    obtain⟨i,U,ei⟩:=List.mem_iff_getElem.mp d;obtain⟨a,o,us,n,f1,f2,f3,f4,f5,f6⟩:=T'.get i U;have ev:v= .ref a:=by
     rw[LW,LG U,ei]at f1;exact f1
    generalize Z.getD i []=ns at f5;cases hus:us.toList with
    |nil=>
     have:us.size=0:=by rw[<-Nv,hus];rfl
     omega
    |cons x r'=>
     rw[hus]at f5;cases f5 with
     |cons n' t' _=>exact⟨a,o,us,n,n',t',ev,f2,f3,f4,by rw[<-Me,hus];rfl⟩
   refine kat_kind k1 (by omega) (T:=.type "int") (fun v d=>by obtain⟨i,t,rfl⟩:=k3 v d;exact Looks.of_pure rfl) rfl ?_
   refine Bb (n:=its.length) (R:=In its.length) (b:=fun i j=>HT.lexLt (Z.getD i []) (Z.getD j [])) (fun i j C U hj hC=>T'.ask U hj hC) (uk (by omega)) ?_
   obtain⟨s1,s2⟩:=DJ (n:=its.length) (b:=fun i j=>HT.lexLt (Z.getD i []) (Z.getD j [])) (by omega) (fun i _=>i8 _) (fun i j k _ _ _=>wI) (fun i j k _ _ _=>sS)
   generalize bq (fun i j=>HT.lexLt (Z.getD i []) (Z.getD j [])) (wd its.length)=pp at s1 s2;have W:pp.toList.Perm (ey its.length):=by simpa using Array.Perm.toList s1
   refine KasFin.intro F' N' (.head fun z P=>LQ (LK (oK z P).1)) fun b6 c' G B=>?_;have b2:=S b6 G fun z P=>B z (LN _ P);obtain⟨g1,g2,g3⟩:=B _ LX;have b4:∀x∈pp.toList,x<its.length:=fun x hx=>Ma.mp (W.mem_iff.mp hx);have c4:(pp.toList.map fun i=>vs.getD i .non).length<=sizeLine:=by
    rw[LC,W.length_eq,Mc,ML];omega
   have I2:=wJ K F G b2 nd g1 (c1 pp.toList b4) c4;refine⟨_,rfl,LD ⟨_,rfl,.ref Y.objs.size,_,I2,rfl,q pp.toList ⟨by rw[<-T0.len,c2];exact W,fun i j E hj=>?_⟩ _ hH⟩⟩
   have:=s2 i j E (by have:=T0.len;omega)
   rw[Mo,Mo]at this;rw[LW (l:=pp.toList),LW (l:=pp.toList),Me,Me];exact this
end
end S4
namespace S3
open PySem PySem.Spec PySem.W PyProof.Rows L2 S4
def tupI(ns:List Int):D:=.tup (ns.map D.int)
def rowsOf:List D->Option (List (List Int))
 |[]=>ar []
 | .tup ds::r=>match intsOf ds,rowsOf r with
  |some ns,ar nss=>ar (ns::nss)
  |_,_=>none
 |_=>none
theorem sX:∀{a b:List Int},HT.lexLt a b=dV->HT.lexLt b a=dV->a=b
 |[],[],_,_=>rfl
 |[],_::_,h,_=>by cases h
 |_::_,[],_,h=>by cases h
 | x::a,y::b,h1,h2=>by
  rw[HT.lexLt_cons]at h1 h2;by_cases e:x=y
  ·subst e;rw[if_pos rfl]at h1 h2;rw[sX h1 h2]
  ·rw[if_neg e]at h1;rw[if_neg (j7 e)]at h2;have:=of_decide_eq_false h1;have:=of_decide_eq_false h2;omega
abbrev Dq(a b:List Int):Prop:=HT.lexLt b a=dV
def wR(x:List Int):List (List Int)->List (List Int)
 |[]=>[x]
 |y::r=>if HT.lexLt y x=c_ then y::wR x r else x::y::r
def iO:List (List Int)->List (List Int)
 |[]=>[]
 |x::r=>wR x (iO r)
theorem mR(x:List Int):∀l,(wR x l).Perm (x::l)
 |[]=>.refl _
 |y::r=>by
  unfold wR;split
  ·exact((mR x r).cons y).trans (.swap _ _ _)
  ·exact .refl _
theorem dq:∀l,(iO l).Perm l
 |[]=>.refl _
 |x::r=>(mR x _).trans ((dq r).cons x)
theorem zQ(Z:Dq a b)(Y:Dq b c):Dq a c:=by
 cases q:HT.lexLt c a with
 |false=>exact q
 |true=>
  rcases sS (b:=b) q with z|z
  ·rw[show HT.lexLt c b=dV from Y]at z;cases z
  ·rw[show HT.lexLt b a=dV from Z]at z;cases z
theorem uP(h:HT.lexLt a b=c_):HT.lexLt b a=false:=by
 cases q:HT.lexLt b a with
 |false=>rfl
 |true=>
  have:=wI h q;rw[i8]at this;cases this
theorem nH(x:List Int):∀{l:List (List Int)},l.Pairwise Dq->(wR x l).Pairwise Dq
 |[],_=>by simp[wR]
 | y::r,h=>by
  obtain⟨Y,W⟩:=MK.mp h;unfold wR;split
  ·next c=>
   refine MK.mpr ⟨fun z Z=>?_,nH x W⟩;rcases LY.mp ((mR x r).mem_iff.mp Z)with rfl|Z
   ·exact uP c
   ·exact Y z Z
  ·next c=>
   have X:Dq x y:=Pj.mpr c;refine MK.mpr ⟨fun z Z=>?_,h⟩;rcases LY.mp Z with rfl|Z
   ·exact X
   ·exact zQ X (Y z Z)
theorem dY:∀l,(iO l).Pairwise Dq
 |[]=>.nil
 |x::r=>nH x (dY r)
theorem mS{l:List (List Int)}(h:l.Perm l')(Z:l.Pairwise Dq)(Y:l'.Pairwise Dq):l=l':=
 List.Perm.eq_of_pairwise (le:=Dq) (fun a b _ _ x y=>sX y x) Z Y h
theorem pT(h:gG nss q):q.map (fun i=>nss.getD i [])=iO nss:=by
 have hlen:q.length=nss.length:=by simpa using h.1.length_eq
 have e:(ey nss.length).map (fun i=>nss.getD i [])=nss:=by
  refine NS fun i=>?_;rw[L3];by_cases Z:i<nss.length
  ·rw[N9 Z,LG Z];simp[ly,Z]
  ·rw[My (by simpa using Z),My (by omega)];rfl
 have W:(q.map (fun i=>nss.getD i [])).Perm nss:=by
  have:=h.1.map (fun i=>nss.getD i []);rw[e]at this;exact this
 refine mS (W.trans (dq nss).symm) ?_ (dY _);rw[O7];intro i j Z X Y;rw[LC]at Z X;rw[List.getElem_map,List.getElem_map];have:=h.2 i j (Nd Y) (by omega)
 rw[LW (l:=q),LW (l:=q),LG Z,LG X]at this;exact this
def fG:List (List Int)->List (List Int)
 |[]=>[]
 |x::r=>if x∈fG r then fG r else x::fG r
theorem iP:∀{l:List (List Int)},y∈fG l↔y∈l
 |[]=>.rfl
 | x::r=>by
  unfold fG;split
  ·next h=>
   rw[iP,LY];refine⟨.inr,fun z=>z.elim (fun z=>?_) id⟩;rw[z];exact iP.mp h
  ·rw[LY,LY,iP]
theorem lI:∀l:List (List Int),(fG l).Nodup
 |[]=>.nil
 |x::r=>by
  unfold fG;split
  ·exact lI r
  ·next h=>exact MM.mpr ⟨h,lI r⟩
def gH(l:List (List Int)):List (List Int):=iO (fG l)
theorem BR(f:Folded kv L):iO (L.map (·.1))=gH (kv.map (·.1)):=by
 unfold gH;have Z:(L.map (·.1)).Perm (fG (kv.map (·.1))):=(List.perm_ext_iff_of_nodup f.nd (lI _)).mpr fun a=>by rw[f.mem,iP]
 exact mS ((dq _).trans (Z.trans (dq _).symm)) (dY _) (dY _)
theorem _root_.S4.Folded.perm{Z:List KA}(f:Folded kv L)(h:Z.Perm L):Folded kv Z:=
 ⟨(Oa (h.map (fun p:KA=>p.1))).mpr f.nd,fun k=>by rw[(h.map (fun p:KA=>p.1)).mem_iff];exact f.mem k,fun p Y=>f.sub p (h.mem_iff.mp Y),by rw[h.length_eq];exact f.len⟩
section
variable {K:d_}{ι:List dt}{H:Hp}
theorem pU:∀{ds:List D} {vs:List V} {nss:List (List Int)},RelDs K ι H ds vs->rowsOf ds=ar nss->vs.length=nss.length/\∀i,i<vs.length->∃a,vs[i]? =ar (.ref a)/\H a=ar (.tup ((nss.getD i []).map V.int))
 |[],vs,nss,h,e=>by
  cases e;rw[h.nil_inv];exact⟨rfl,fun i Z=>absurd Z (PD _)⟩
 | .tup ds::r,vs,nss,h,e=>by
  obtain⟨v,ws,rfl,Y,U⟩:=h.cons_inv;unfold rowsOf at e;cases q:intsOf ds with
  |none=>rw[q]at e;cases e
  | some ns=>
   rw[q]at e;cases q2:rowsOf r with
   |none=>rw[q2]at e;cases e
   | some nss'=>
    rw[q2]at e;cases e;obtain⟨X,T⟩:=pU U q2;obtain⟨a,us,rfl,g1,g2⟩:=Y.tup_inv;refine⟨by simp[X],fun i Z=>?_⟩
    cases i with
    |zero=>
     refine⟨a,rfl,?_⟩;rw[dN g2 q]at g1;simpa using g1
    |succ i=>
     obtain⟨S,e1,e2⟩:=T i (by simpa using Z)
     exact⟨S,by simpa using e1,by simpa using e2⟩
 | .non::_,_,_,_,e=>by cases e
 | .bl _::_,_,_,_,e=>by cases e
 | .int _::_,_,_,_,e=>by cases e
 | .str _::_,_,_,_,e=>by cases e
 | .lst _::_,_,_,_,e=>by cases e
 | .ro _::_,_,_,_,e=>by cases e
 | .fz _::_,_,_,_,e=>by cases e
 | .emp::_,_,_,_,e=>by cases e
theorem rK:∀ns:List Int,RelDs K ι H (ns.map D.int) (ns.map V.int)
 |[]=>.nil
 |n::r=>.cons (.int n) (rK r)
theorem pV{vs:List V}{Z:List (List Int)}(h:∀i,i<vs.length->∃a,vs[i]? =ar (.ref a)/\H a=ar (.tup ((Z.getD i []).map V.int))):
  ∀q:List Nat,(∀i∈q,i<vs.length)->RelDs K ι H ((q.map fun i=>Z.getD i []).map tupI) (q.map fun i=>vs.getD i .non)
 |[],_=>.nil
 |i::q,hq=>by
  obtain⟨a,e1,e2⟩:=h i (hq i LX);refine .cons ?_ (pV h q fun j X=>hq j (LN _ X));show RelD K ι H (tupI (Z.getD i [])) (vs.getD i .non);have Y:vs.getD i .non= .ref a:=by rw[LW,e1];rfl
  rw[Y];exact .tup e2 (rK _)
end
section
variable {X:Cx}{E:XD}{e:Expr}{m:TM}{pos:Pos}
theorem qN:cR X (.builtin "sorted") (fun xs H Q=>∃(p:dt) (vs:List V) (Z:List (List Int)),xs=[.ref p]/\iY X.K H p vs/\TRow H vs Z/\vs.length<64/\
  ∀q,gG Z q->∀l,H l=none->Q (.ref l) (upd H l (.lst (q.map fun i=>vs.getD i .non)))):=by
 intro pins s σ H xs us Q I r h;obtain⟨p,vs,Z,rfl,O,T,W,q⟩:=h;obtain⟨u,rfl,S⟩:=vals1 r;cases (show u=er p from S);obtain⟨its,U,P,G⟩:=I.list O;have N:=U.length;refine jD I (fun us=>us=its) (fun R F J=>?_) fun us L=>⟨vs,Z,by rw[L];exact U,T,W,q⟩
 refine collect_list P.isList (J its _ _ rfl fun b o e=>?_) (by rw[ML];omega)
 have Y:b<s.heap.objs.size:=LK e;rw[Nx _ _ _ _ (LQ Y)];exact LB _ e
def nZ(P:e_)(w:f')(a:dt)(kv:List KA):gd->Prop:=fun h=>∃o es ep t L,SetAt P w h a o es ep t L/\Folded kv L
def kP(vs:List V)(nss:List (List Int)):List KA:=(ey vs.length).map fun i=>(nss.getD i [],match vs.getD i .non with| .ref a=>a|_=>0)
theorem GS{H:Hp}(W:fK P w H h){ns:List Int}(e:H a=ar (.tup (ns.map V.int))):kT (la P w) h ns a:=by
 obtain⟨_,ws,Z,o,U,Y,n,hd⟩:=(show bj P w H h a (.tup (ns.map V.int))from W a _ e);refine⟨o,ws.toArray,n,U,Y,hd,?_⟩;have T:=Oz Z;have go:∀{ws:List aC} {ns:List Int},m3 ws ns->ItemsAre (la P w) ns ws:=by
  intro ws ns h
  induction h with
  |nil=>exact .nil
  |cons n t _ ih=>exact .cons (intKind_is _ _ _ _) ih
 simpa using go T
theorem zR(g:X.calm=c_)(d:X.A.units+8<y8):cR X (.type "set") (fun xs H Q=>∃(p:dt) (vs:List V) (Z:List (List Int)),xs=[.ref p]/\(iY X.K H p vs\/kG X.K H p vs)/\
  (∀i,i<vs.length->∃a,vs[i]? =ar (.ref a)/\H a=ar (.tup ((Z.getD i []).map V.int)))/\vs.length<=18/\∀l,H l=none->Q (.ref l) (upd H l (.ext (nZ X.prog X.w l (kP vs Z))))):=by
 intro pins s σ H xs us Q I r h;obtain⟨p,vs,Z,rfl,W,T,x,q⟩:=h;obtain⟨u,rfl,G⟩:=vals1 r;cases (show u=er p from G);have src:∃its,bb vs its/\Src s.heap p its.toArray:=by
  rcases W with W|W
  ·obtain⟨its,Y,S,F⟩:=I.list W;exact⟨its,Y,.inl S.isList⟩
  ·obtain⟨its,Y,S,F⟩:=I.tuple W;exact⟨its,Y,.inr S⟩
 obtain⟨its,Y,hs⟩:=src;have U:=Y.length;have B:∀A:h_,A.in1.units<=A.units+1:=fun A=>LF _;have at':∀i,i<vs.length->∃a,its[i]? =ar (.ref a)/\vs.getD i .non= .ref a/\H a=ar (.tup ((Z.getD i []).map V.int)):=fun i P=>by
  obtain⟨a,e1,e2⟩:=T i P;obtain⟨u,O,n⟩:=Y.get e1;cases (show u=er a from n);exact⟨a,O,by rw[LW,e1];rfl,e2⟩
 have hf:H s.heap.objs.size=none:=I.hok.fresh (LF _);refine GQ (I.ok.hd g) (by show X.A.units+3<y8;omega) hs (fun i=>(Z.getD i [],match vs.getD i .non with| .ref a=>a|_=>0)) (fun i v R=>?_) (by rw[LR];omega) (fun j y=>?_) fun h' f o es ep t L J N C=>?_
 ·have P:i<vs.length:=by rw[U];simpa using(L8.mp R).1
  obtain⟨a,e1,e2,_⟩:=at' i P;rw[Nm,e1]at R;cases R;simp only[e2]
 ·rw[LR]at y;obtain⟨a,e1,e2,z⟩:=at' j (by omega)
  simp only[e2];exact GS I.hok z
 ·rw[LR, <-U]at N;refine⟨.ref s.heap.objs.size,_,I.laid (o:=.ext (nZ X.prog X.w s.heap.objs.size (kP vs Z))) (fun b o e=>C b o (LK e) e) (LF _) ⟨⟨o,es,ep,t,L,J,N⟩,⟨o,J.get⟩,fun h1 h2 ⟨o,es,ep,t,L,a1,a2⟩ k=>⟨o,es,ep,t,L,a1.at k,a2⟩⟩,rfl,q _ hf⟩
theorem sY(v:X.calm=c_):cR X (.builtin "sorted") (fun xs H Q=>∃(p:dt) (T:List KA),xs=[.ref p]/\H p=ar (.ext (nZ X.prog X.w p T))/\(∀k∈T,H k.2=ar (.tup (k.1.map V.int))/\k.1.length=2)/\T.length<=18/\
  ∀L q,Folded T L->gG (L.map (·.1)) q->∀l,H l=none->Q (.ref l) (upd H l (.lst (q.map fun i=>(L.map fun k=>V.ref k.2).getD i .non)))):=by
 intro pins s σ H xs us Q I r h;obtain⟨p,T,rfl,n,N,z,q⟩:=h;obtain⟨u,rfl,K⟩:=vals1 r;cases (show u=er p from K);obtain⟨⟨o,es,ep,t,L,O,P⟩,_,_⟩:=(show bj X.prog X.w H s.heap p (.ext (nZ X.prog X.w p T))from I.hok p _ n);have G:=P.len;have S:∀l:List KA,bb (l.map fun k=>V.ref k.2) (l.map fun k=>er k.2):=by
  intro l
  induction l with
  |nil=>exact .nil
  |cons k l ih=>exact .cons rfl ih
 refine jD I (fun us=>∃Z:List KA,Z.Perm L/\us=Z.map fun k=>er k.2) (fun R g F=>?_) ?_
 ·refine uO (by show X.A.handled=none;exact I.ok.hd v) O (by rw[O.len];omega) fun h' j Z U J=>F _ _ _ ⟨Z,U,rfl⟩ J
 ·rintro us ⟨Z,U,rfl⟩;have Y:=P.perm U;have C:=Y.len;refine⟨Z.map fun k=>V.ref k.2,Z.map (·.1),S Z,⟨by simp,fun i W=>?_,1,fun i W=>?_⟩,by simp;omega,fun y B l x=>q Z y Y B l x⟩
  ·rw[LC]at W;refine⟨Z[i].2,by rw[L3,LG W];rfl,?_⟩
   have:=(N _ (Y.sub _ (MX W))).1;rw[LW,L3,LG W];exact this
  ·rw[LC]at W;rw[LW,L3,LG W];exact(N _ (Y.sub _ (MX W))).2
def two(nss:List (List Int)):Bool:=nss.all fun ns=>ns.length==2
def uQ(nss:List (List Int)):M D:=if nss.length<64/\two nss=c_ then bh ((iO nss).map tupI)else M.fail
def rL(xs:List D):M D:=match intsOf xs with
 |some ns=>if ns.length<64 then bh ((sortI ns).map D.int)else M.fail
 |none=>match rowsOf xs with
  |some nss=>uQ nss
  |none=>M.fail
def dG:List D->M D
 |[.lst k]=>do
  let xs<-getL k
  rL xs
 |[.fz xs]=>rL xs
 |_=>M.fail
theorem D1{H:Hp}{vs:List V}{Z:List (List Int)}(h:vs.length=Z.length/\∀i,i<vs.length->∃a,vs[i]? =ar (.ref a)/\H a=ar (.tup ((Z.getD i []).map V.int)))(U:two Z=c_):TRow H vs Z:=
 ⟨h.1,h.2,1,fun i W=>by
  have Y:i<Z.length:=by rw[<-h.1];exact W
  have:=Ml.mp U Z[i] (MX Y);rw[LW,LG Y];simpa using this⟩
theorem sZ:jO X.K E dG (fun xs H Q=>(∃(p:dt) (ns:List Int),xs=[.ref p]/\iY X.K H p (ns.map V.int)/\ns.length<64/\∀l,H l=none->Q (.ref l) (upd H l (.lst ((sortI ns).map V.int))))\/
  ∃(p:dt) (vs:List V) (nss:List (List Int)),xs=[.ref p]/\iY X.K H p vs/\TRow H vs nss/\vs.length<64/\∀q,gG nss q->∀l,H l=none->Q (.ref l) (upd H l (.lst (q.map fun i=>vs.getD i .non)))):=by
 intro ι S H ds vs Q rep r c;have fin:∀{es:List D} {us:List V} {p:dt},RelDs X.K ι H es us->Rd H p (.lst us)->cont X.K E (rL es) ι S H (jL X.K Q)->vs=[.ref p]->
   (∃(p:dt) (ns:List Int),vs=[.ref p]/\iY X.K H p (ns.map V.int)/\ns.length<64/\∀l,H l=none->Q (.ref l) (upd H l (.lst ((sortI ns).map V.int))))\/
  ∃(p:dt) (ws:List V) (nss:List (List Int)),vs=[.ref p]/\iY X.K H p ws/\TRow H ws nss/\ws.length<64/\∀q,gG nss q->∀l,H l=none->Q (.ref l) (upd H l (.lst (q.map fun i=>ws.getD i .non))):=by
  intro es us p W T Z U;unfold rL at Z;cases q:intsOf es with
  | some ns=>
   rw[q]at Z;have Y:cont X.K E (if ns.length<64 then bh ((sortI ns).map D.int)else M.fail) ι S H (jL X.K Q):=Z;by_cases h:ns.length<64
   ·rw[if_pos h]at Y;exact .inl ⟨p,ns,U,.inl (by rw[<-dN W q];exact T),h,(bo Y rep (pH _)).2⟩
   ·rw[if_neg h]at Y;exact(ag Y).elim
  | none=>
   rw[q]at Z;cases q2:rowsOf es with
   |none=>rw[q2]at Z;exact(ag Z).elim
   | some nss=>
    rw[q2]at Z;have Y:cont X.K E (if nss.length<64/\two nss=c_ then bh ((iO nss).map tupI)else M.fail) ι S H (jL X.K Q):=Z;by_cases h:nss.length<64/\two nss=c_
    ·rw[if_pos h]at Y;obtain⟨g1,g2⟩:=pU W q2;refine .inr ⟨p,us,nss,U,.inl T,D1 ⟨g1,g2⟩ h.2,by omega,fun L J l F=>?_⟩
     have R:∀i∈L,i<us.length:=fun i I=>by rw[g1];exact Ma.mp (J.1.mem_iff.mp I)
     have G:RelDs X.K ι H ((iO nss).map tupI) (L.map fun i=>us.getD i .non):=by
      rw[<-pT J];exact pV g2 L R
     exact(bo Y rep G).2 l F
    ·rw[if_neg h]at Y;exact(ag Y).elim
 unfold dG at c;split at c
 ·next k=>
  obtain⟨v,ws,rfl,N,O⟩:=r.cons_inv;cases O.nil_inv;obtain⟨p,rfl,P⟩:=N.lst_inv;obtain⟨es,us,_,T,W,Z⟩:=a9 c rep P;exact fin W (.inl T) Z rfl
 ·next es=>
  obtain⟨v,ws,rfl,N,O⟩:=r.cons_inv;cases O.nil_inv;obtain⟨p,o,us,rfl,P,W⟩:=N.fz_inv;exact fin W (.inr ⟨o,P⟩) c rfl
 ·exact(ag c).elim
theorem mT(W:X.mg "sorted"=none)(Z:SE X E e m)(Y:Gl X "sorted":=by rfl)(hs:eb [e] X.env=[(dV,h9 e X.env)]:=by rfl):SE X E (.Call (.Name "sorted" p) [e] [] pos) (fun ρ=>do let ds<-(do let x<-m ρ;let xs<-a_ [];a_ (x::xs));dG ds):=
 gE (cR.or sR qN) sZ Y W (by decide+kernel) (af Z aq hs) (by decide) (by decide) hs rfl
def dh(nss:List (List Int)):M D:=if nss.length<=18/\two nss=c_ then bh ((gH nss).map tupI)else M.fail
def lJ:List D->M D
 |[.lst k]=>do
  let xs<-getL k
  match rowsOf xs with
  |some nss=>dh nss
  |none=>M.fail
 |[.tup xs]=>match rowsOf xs with
  |some nss=>dh nss
  |none=>M.fail
 |[.fz xs]=>match rowsOf xs with
  |some nss=>dh nss
  |none=>M.fail
 |_=>M.fail
theorem D3{vs:List V}{Z:List (List Int)}(h:vs.length=Z.length):(kP vs Z).map (·.1)=Z:=by
 unfold kP;rw[Mi];refine NS fun i=>?_;rw[L3,h];by_cases hi:i<Z.length
 ·rw[N9 hi,LG hi];simp[ly,hi]
 ·rw[My (by simpa using hi),My (by omega)];rfl
theorem Jf{K:d_}{ι:List dt}{H:Hp}{L:List KA}(h:∀k∈L,H k.2=ar (.tup (k.1.map V.int))):∀q:List Nat,(∀i∈q,i<L.length)->RelDs K ι H ((q.map fun i=>(L.map (·.1)).getD i []).map tupI) (q.map fun i=>(L.map fun k=>V.ref k.2).getD i .non):=by
 intro q Y;refine pV (fun i Z=>?_) q fun i Z=>by rw[LC];exact Y i Z
 rw[LC]at Z;refine⟨L[i].2,by rw[L3,LG Z];rfl,?_⟩
 rw[LW,L3,LG Z];exact h _ (MX Z)
theorem td{p q U:Pos}(hc:X.calm=c_)(hu:X.A.units+8<y8)(hm:X.mg "sorted"=none)(f:X.mg "set"=none)(ha:SE X E e m)(hg:Gl X "sorted":=by rfl)(j:Gl X "set":=by rfl)(hs:eb [e] X.env=[(dV,h9 e X.env)]:=by rfl)
  (B:eb [.Call (.Name "set" q) [e] [] U] X.env=[(dV,h9 (.Call (.Name "set" q) [e] [] U) X.env)]:=by rfl):
  SE X E (.Call (.Name "sorted" p) [.Call (.Name "set" q) [e] [] U] [] pos) (fun ρ=>do let ds<-(do let x<-m ρ;let xs<-a_ [];a_ (x::xs));lJ ds):=by
 refine PE.imp (iF (sY hc) hg hm (by decide+kernel) (dj (iG (zR hc hu) j f (by decide+kernel) (af ha aq hs) (by decide) (by decide) hs rfl) gy B) (by decide) (by decide) B rfl) fun σ H Q h=>?_
 obtain⟨ι,S,ρ,rep,re,c⟩:=h;refine⟨ι,S,ρ,rep,re,ak (ah c) fun ds T S1 Y e1 rep1 c1 vs r=>?_⟩;have fin:∀{xs:List D} {us:List V} {a:dt} {Z:List (List Int)},RelDs X.K T Y xs us->rowsOf xs=ar Z->(iY X.K Y a us\/kG X.K Y a us)->cont X.K E (dh Z) T S1 Y (jL X.K Q)->vs=[.ref a]->
   ∃ (p:dt) (vs':List V) (Z:List (List Int)),vs=[.ref p]/\(iY X.K Y p vs'\/kG X.K Y p vs')/\
    (∀i,i<vs'.length->∃a,vs'[i]? =ar (.ref a)/\Y a=ar (.tup ((Z.getD i []).map V.int)))/\vs'.length<=18/\∀l,Y l=none->
     ∃(p:dt) (kv:List KA),[V.ref l]=[.ref p]/\upd Y l (.ext (nZ X.prog X.w l (kP vs' Z))) p=ar (.ext (nZ X.prog X.w p kv))/\(∀k∈kv,upd Y l (.ext (nZ X.prog X.w l (kP vs' Z))) k.2=ar (.tup (k.1.map V.int))/\k.1.length=2)/\kv.length<=18/\
      ∀L q,Folded kv L->gG (L.map (·.1)) q->∀I,upd Y l (.ext (nZ X.prog X.w l (kP vs' Z))) I=none->Q (.ref I) (upd (upd Y l (.ext (nZ X.prog X.w l (kP vs' Z)))) I (.lst (q.map fun i=>(L.map fun k=>V.ref k.2).getD i .non))):=by
  intro xs us a Z R W d y a0;unfold dh at y;by_cases h:Z.length<=18/\two Z=c_
  ·rw[if_pos h]at y;obtain⟨g1,g2⟩:=pU R W;refine⟨a,us,Z,a0,d,g2,by omega,fun l u=>⟨l,kP us Z,rfl,aM,fun k O=>?_,by unfold kP;simp;omega,fun L qq hF hq I s=>?_⟩⟩
   ·unfold kP at O;obtain⟨i,P,rfl⟩:=Mp.mp O;rw[Ma]at P;obtain⟨b,n,C⟩:=g2 i P;have b3:us.getD i .non= .ref b:=by rw[LW,n];rfl
    simp only[b3];refine⟨by rw[aB (aE C u)];exact C,?_⟩
    have F:i<Z.length:=by omega
    have:=Ml.mp h.2 Z[i] (MX F);rw[LW,LG F];simpa using this
   ·have hE:Ext T Y T (upd Y l (.ext (nZ X.prog X.w l (kP us Z)))):=dU u;have rep2:=ff (o:=.ext (nZ X.prog X.w l (kP us Z))) rep1 u;have g:∀i∈qq,i<L.length:=fun i P=>by
     have:=Ma.mp (hq.1.mem_iff.mp P);simpa using this
    have O:∀k∈L,upd Y l (.ext (nZ X.prog X.w l (kP us Z))) k.2=ar (.tup (k.1.map V.int)):=fun k O=>by
     have z:=hF.sub k O;unfold kP at z;obtain⟨i,P,rfl⟩:=Mp.mp z;rw[Ma]at P;obtain⟨b,n,C⟩:=g2 i P;have b3:us.getD i .non= .ref b:=by rw[LW,n];rfl
     simp only[b3];rw[aB (aE C u)];exact C
    have rr:=Jf (K:=X.K) (ι:=T) O qq g;rw[pT hq,BR hF,D3 g1]at rr;exact(bo (eR y hE) rep2 rr).2 I s
  ·rw[if_neg h]at y;exact(ag y).elim
 unfold lJ at c1;split at c1
 ·next k=>
  obtain⟨v,ws,rfl,G,J⟩:=r.cons_inv;cases J.nil_inv;obtain⟨a,rfl,N⟩:=G.lst_inv;obtain⟨es,us,_,hv,R,t⟩:=a9 c1 rep1 N;cases W:rowsOf es with
  |none=>rw[W]at t;exact(ag t).elim
  |some Z=>
   rw[W]at t;exact fin R W (.inl (.of hv)) t rfl
 ·next xs=>
  obtain⟨v,ws,rfl,G,J⟩:=r.cons_inv;cases J.nil_inv;obtain⟨a,us,rfl,N,R⟩:=G.tup_inv;cases W:rowsOf xs with
  |none=>rw[W]at c1;exact(ag c1).elim
  |some Z=>
   rw[W]at c1;exact fin R W (.inr (.of N)) c1 rfl
 ·next xs=>
  obtain⟨v,ws,rfl,G,J⟩:=r.cons_inv;cases J.nil_inv;obtain⟨a,o,us,rfl,N,R⟩:=G.fz_inv;cases W:rowsOf xs with
  |none=>rw[W]at c1;exact(ag c1).elim
  |some Z=>
   rw[W]at c1;exact fin R W (.inl (.inl (.inr ⟨o,N⟩))) c1 rfl
 ·exact(ag c1).elim
end
end S3
namespace S4
open PySem PySem.Spec PyProof.Rows L2 S3
section
variable {prog:e_}{w:f'}{A:h_}{E:aC->b_->Prop}{s:b_}
theorem i9{Q:aC->b_->Prop}(Z:s.heap.IsTupleIter it t i)(R:s.heap.IsTuple t items)(S:items[i]? =ar x)
  (T:∀h',h'.IsTupleIter it t (i+1)->rn it s.heap h'->Q x {s with heap:=h'}):ee (fc prog w) A (j1 (.ref it)) Q E s:=by
 obtain⟨o,Y,U,hd⟩:=id Z;obtain⟨ol,X,_,nl,W⟩:=R;unfold j1;refine LA (wpAny_callSpecial?_slot (name:=i_ "__next__") Z.typeIs Nh
  (ME Nh Z.typeIs OV ?_ (OR _)))
 show ee _ _ (QV (.ref it) 0>>=_) _ _ s;refine LA (MJ Y hd (x:=.ref t) rfl ?_);show ee _ _ (if (er t==i0)=c_ then _ else _) _ _ s;rw[if_neg (show ¬ ((er t==i0)=c_)from MP)];show ee _ _ (QV (.ref it) 1>>=_) _ _ s;refine LA (MJ Y hd (x:=.int i 0) rfl ?_);show ee _ _ (Rr (.ref t)>>=_) _ _ s;refine LA (M5 X W ?_);simp only[K_,S];refine LA (NG Y hd (by simp) (LD ⟨x,rfl,LD (T _ ?_ (M1 ..))⟩))
 exact⟨_,MC _ Y (NO (Na hd _)),(Pl ..).trans U,by
  rw[Na hd];simp[l4]⟩
theorem ki(U:A.handled=none)(Z:s.heap.IsTupleIter it t i)(R:s.heap.IsTuple t items)(S:items[i]? =none)
  (T:∀h' e,QU it s.heap h'->(∃o,h'.get? e=ar o/\o.cls= .type "StopIteration")->E (.ref e) {s with heap:=h'}):ee (fc prog w) A (j1 (.ref it)) Q E s:=by
 obtain⟨o,Y,P,hd⟩:=id Z;obtain⟨ol,X,_,nl,W⟩:=R;unfold j1;refine LA (wpAny_callSpecial?_slot (name:=i_ "__next__") Z.typeIs Nh
  (ME Nh Z.typeIs OV ?_ (OR _)))
 show ee _ _ (QV (.ref it) 0>>=_) _ _ s;refine LA (MJ Y hd (x:=.ref t) rfl ?_);show ee _ _ (if (er t==i0)=c_ then _ else _) _ _ s;rw[if_neg (show ¬ ((er t==i0)=c_)from MP)];show ee _ _ (QV (.ref it) 1>>=_) _ _ s;refine LA (MJ Y hd (x:=.int i 0) rfl ?_);show ee _ _ (Rr (.ref t)>>=_) _ _ s;refine LA (M5 X W ?_);simp only[K_,S];refine LA (OB (LA (NG Y hd (by simp) ?_)))
 show ee _ _ (RP (.type "StopIteration") []>>=_) _ _ _;refine LA ?_;simp only[RP,newTuple];refine LA (Mx ?_ (by size_fits))
 refine LA (m:=I0 _ _) (PQ (a:=i0) (by first|rfl|(simp only[I0];rfl)) ?_)
 refine Mx ?_ (by size_fits)
 simp only[raiseNew];refine LA (wpAny_handled ?_);first|rw[show A.in1.handled=none from U]|rw[U]
 refine LA (LD (wpAny_throw ?_));exact T _ _ (((M1 ..).extBut.push _).push _) ⟨_,LM _ rfl,rfl⟩
theorem zS{z TI TO N J q u:dt}{k:Nat}{xs ys:Array aC}{x y a b:aC}{Q:Option aC->b_->Prop}(D:Rf z TI TO N J q u)
  (B:P0 s.heap z TI TO .none) (a6:p7 s.heap TI (.ref N) (.ref J)) (l:p7 s.heap TO a b)
  (h1:s.heap.IsTupleIter N q k) (h2:s.heap.IsTupleIter J u k) (a4:s.heap.IsTuple q xs) (a0:s.heap.IsTuple u ys) (hx:xs[k]? =ar x) (hy:ys[k]? =ar y)
  (hQ:∀h',P0 h' z TI TO (l4 s.heap.objs.size)->p7 h' TO x y->h'.IsTupleIter N q (k+1)->h'.IsTupleIter J u (k+1)->p7 h' s.heap.objs.size x y->h'.objs.size=s.heap.objs.size+1->
   (∀c o,c≠z->c≠TO->c≠N->c≠J->s.heap.get? c=ar o->h'.get? c=ar o)->Q (ar (.ref s.heap.objs.size)) {s with heap:=h'}):ee (fc prog w) A (z4 (.ref z)) Q E s:=by
 have hT:s.TypeIs (.ref z) "zip":=⟨_,B,rfl⟩;unfold z4;refine LA (NR (wpAny_callSpecial?_slot (name:=i_ "__next__") hT OW (ME OW hT F.entry_zip_next ?_ (F.args_zip_next_1 _))));show ee _ _ (QV (.ref z) 2>>=_) _ _ _;refine LA (MJ B rfl (x:=.bool dV) rfl ?_);show ee _ _ (QV (.ref z) 3>>=_) _ _ _;refine LA (MJ B rfl (x:=.ref TI) rfl ?_);refine LA (M5 a6 rfl ?_);show ee _ _ (k8 (.ref z)>>=_) _ _ _;refine LA ?_;unfold k8;refine LA (MJ B rfl (x:=.none) rfl (LD ?_));simp only[if_true];refine LA (OB ?_);refine LA (MJ B rfl (x:=.ref TO) rfl ?_);refine LA (Nn B (by simp) fun g1 C Z=>?_)
 replace C:P0 g1 z TI TO .ellipsis:=C;refine LA ?_;simp only[List.zipIdx_cons,List.zipIdx_nil,P4,List.forIn_nil];refine LA (LA (Pu ?_));show ee _ _ (j1 (.ref N)>>=_) _ _ _;refine LA (i9 (s:={s with heap:=g1}) (h1.at fun o e=>Z.extBut _ _ D.i1z e) (a4.extBut Z.extBut D.l1z) hx fun g2 g W=>LD ?_);have L:p7 g2 TO a b:=W.extBut _ _ D.TOi1 (Z.extBut _ _ D.TOz l);refine LA (M5 L rfl ?_);refine LA (OO L fun g3 T U=>?_);replace T:p7 g3 TO x b:=T;refine LA (QW (LD ?_));refine LA (LA (Pu ?_));show ee _ _ (j1 (.ref J)>>=_) _ _ _;refine LA (i9 (s:={s with heap:=g3}) (((h2.at fun o e=>Z.extBut _ _ D.i2z e).at fun o e=>W.extBut _ _ D.i12.symm e).at fun o e=>U.extBut _ _ D.TOi2.symm e)
  (((a0.extBut Z.extBut D.l2z).extBut W.extBut D.l2i1).extBut U.extBut D.l2TO) hy fun g4 a3 R=>LD ?_)
 have K:p7 g4 TO x b:=R.extBut _ _ D.TOi2 T;refine LA (M5 K rfl ?_);refine LA (OO K fun Y X S=>?_);replace X:p7 Y TO x y:=X;refine LA (QW (LD (LD ?_)));refine LA (M5 X rfl ?_);refine LA (wpAny_newTuple ?_);have p:Y.objs.size=s.heap.objs.size:=by rw[S.1,R.1,U.1,W.1,Z.1]
 have n:P0 Y z TI TO .ellipsis:=S.extBut _ _ D.TOz.symm (R.extBut _ _ D.i2z.symm (U.extBut _ _ D.TOz.symm (W.extBut _ _ D.i1z.symm C)));have f:∀c o,c≠z->c≠TO->c≠N->c≠J->s.heap.get? c=ar o->Y.get? c=ar o:=fun c o c1 m d c4 e=>
  S.extBut _ _ m (R.extBut _ _ c4 (U.extBut _ _ m (W.extBut _ _ d (Z.extBut _ _ c1 e))))
 have i:Y.IsTupleIter N q (k+1):=((g.at fun o e=>U.extBut _ _ D.TOi1.symm e).at fun o e=>R.extBut _ _ D.i12 e).at fun o e=>S.extBut _ _ D.TOi1.symm e;have j:Y.IsTupleIter J u (k+1):=a3.at fun o e=>S.extBut _ _ D.TOi2.symm e;have O:z<Y.objs.size:=LK n;show ee _ _ (Builtin.SmallTypes.ownedTupleHandOut (.ref z) (.ref Y.objs.size)>>=_) _ _ _;refine LA ?_;unfold Builtin.SmallTypes.ownedTupleHandOut;have h:P0 (Y.push {cls:=.type "tuple",data:=.seq #[x,y]}) z TI TO .ellipsis:=LB _ n;refine LA (Nn h (by simp) fun g7 G H=>?_)
 replace G:P0 g7 z TI TO (l4 Y.objs.size):=G;refine Nn G (by simp) fun v P I=>?_
 replace P:P0 v z TI TO (l4 Y.objs.size):=P;have up:∀c o,c≠z->Y.get? c=ar o->v.get? c=ar o:=fun c o c1 e=>I.extBut _ _ c1 (H.extBut _ _ c1 (LB _ e));have t:p7 v Y.objs.size x y:=I.extBut _ _ (M6 O) (H.extBut _ _ (M6 O) (LM _ rfl));have r:v.objs.size=Y.objs.size+1:=by rw[I.1,H.1,MG]
 rw[p]at P t r;refine LD ⟨_,rfl,?_⟩;refine LD ?_;show Q (ar (.ref Y.objs.size)) _;rw[p];exact hQ v P (up _ _ D.TOz X) (i.at fun o e=>up _ o D.i1z e) (j.at fun o e=>up _ o D.i2z e) t r fun c o c1 m d c4 e=>up c o c1 (f c o c1 m d c4 e)
theorem BS{z TI TO L K q t:dt}{k:Nat}{xs ys:Array aC}{a b:aC}{Q:Option aC->b_->Prop}(j:A.handled=none)(D:Rf z TI TO L K q t)
  (N:P0 s.heap z TI TO .none) (n:p7 s.heap TI (.ref L) (.ref K)) (y:p7 s.heap TO a b)
  (l:s.heap.IsTupleIter L q k) (h2:s.heap.IsTupleIter K t k) (H:s.heap.IsTuple q xs) (m:s.heap.IsTuple t ys) (G:xs[k]? =none\/ys[k]? =none)
  (r:∀h',(∀c o,c≠z->c≠TO->c≠L->c≠K->s.heap.get? c=ar o->h'.get? c=ar o)->Q none {s with heap:=h'}):ee (fc prog w) A (z4 (.ref z)) Q E s:=by
 have i:s.TypeIs (.ref z) "zip":=⟨_,N,rfl⟩;unfold z4;refine LA (NR (wpAny_callSpecial?_slot (name:=i_ "__next__") i OW (ME OW i F.entry_zip_next ?_ (F.args_zip_next_1 _))));have stop:∀(g:gd) (e:dt),(∃o,g.get? e=ar o/\o.cls= .type "StopIteration")->(∀c o,c≠z->c≠TO->c≠L->c≠K->s.heap.get? c=ar o->g.get? c=ar o)->∀R:aC->b_->Prop,
   (∀v s',ee (fc prog w) A (do if<-Qq v (.type "StopIteration")then a_ none else throw v) Q E s'->R v s')->R (.ref e) {s with heap:=g}:=fun g e ⟨o,ho,hc⟩ hk R hR=>hR _ _ (by
  refine LA (ND (T:="StopIteration") (b:=c_) ⟨o,ho,hc⟩ OH ?_);exact LD (r _ hk))
 show ee _ _ (QV (.ref z) 2>>=_) _ _ _;refine LA (MJ N rfl (x:=.bool dV) rfl ?_);show ee _ _ (QV (.ref z) 3>>=_) _ _ _;refine LA (MJ N rfl (x:=.ref TI) rfl ?_);refine LA (M5 n rfl ?_);show ee _ _ (k8 (.ref z)>>=_) _ _ _;refine LA ?_;unfold k8;refine LA (MJ N rfl (x:=.none) rfl (LD ?_));simp only[if_true];refine LA (OB ?_);refine LA (MJ N rfl (x:=.ref TO) rfl ?_);refine LA (Nn N (by simp) fun g1 S Z=>?_)
 replace S:P0 g1 z TI TO .ellipsis:=S;refine LA ?_;simp only[List.zipIdx_cons,List.zipIdx_nil,P4,List.forIn_nil];refine LA (LA (Pu ?_));show ee _ _ (j1 (.ref L)>>=_) _ _ _;cases hx:xs[k]? with
 |none=>
  refine LA (ki (s:={s with heap:=g1}) j (l.at fun o e=>Z.extBut _ _ D.i1z e) (H.extBut Z.extBut D.l1z) hx fun g2 e Y he=>?_);obtain⟨u,W,U⟩:=he;have I:P0 g2 z TI TO .ellipsis:=Y _ _ D.i1z.symm S;have O:e≠z:=fun x=>by subst x;rw[I]at W;cases W;simp at U
  refine Nn I (by simp) fun g3 _ X=>?_
  refine LA (ND (T:="StopIteration") (b:=c_) ⟨u,X.extBut _ _ O W,U⟩ OH ?_);exact LD (r _ fun c o c1 _ p _ x=>X.extBut _ _ c1 (Y _ _ p (Z.extBut _ _ c1 x)))
 | some x=>
  have hy:ys[k]? =none:=by rcases G with h|h;rw[hx]at h;cases h;exact h
  refine LA (i9 (s:={s with heap:=g1}) (l.at fun o e=>Z.extBut _ _ D.i1z e) (H.extBut Z.extBut D.l1z) hx fun g2 a3 Y=>LD ?_);have P:p7 g2 TO a b:=Y.extBut _ _ D.TOi1 (Z.extBut _ _ D.TOz y);refine LA (M5 P rfl ?_);refine LA (OO P fun g3 f X=>?_);refine LA (QW (LD ?_));refine LA (LA (Pu ?_));show ee _ _ (j1 (.ref K)>>=_) _ _ _;refine LA (ki (s:={s with heap:=g3}) j (((h2.at fun o e=>Z.extBut _ _ D.i2z e).at fun o e=>Y.extBut _ _ D.i12.symm e).at fun o e=>X.extBut _ _ D.TOi2.symm e)
   (((m.extBut Z.extBut D.l2z).extBut Y.extBut D.l2i1).extBut X.extBut D.l2TO) hy fun d e J he=>?_)
  obtain⟨u,W,U⟩:=he;have C:P0 d z TI TO .ellipsis:=J _ _ D.i2z.symm (X.extBut _ _ D.TOz.symm (Y.extBut _ _ D.i1z.symm S));have O:e≠z:=fun x=>by subst x;rw[C]at W;cases W;simp at U
  refine Nn C (by simp) fun g5 _ B=>?_
  refine LA (ND (T:="StopIteration") (b:=c_) ⟨u,B.extBut _ _ O W,U⟩ OH ?_);exact LD (r _ fun c o c1 c2 p c4 x=>B.extBut _ _ c1 (J _ _ c4 (X.extBut _ _ c2 (Y.extBut _ _ p (Z.extBut _ _ c1 x)))))
end
def Ds(l:dt):Obj:={cls:=.type "tuple_iterator",data:=.fields #[.ref l,.int 0 0]}
def GT(h:gd)(l1:dt):Heap:=h.push (Ds l1)
def GU(h:gd)(l1 l2:dt):Heap:=(GT h l1).push (Ds l2)
def GV(h:gd)(l1 l2:dt):Heap:=(GU h l1 l2).push {cls:=.type "tuple",data:=.seq #[.ref h.objs.size,.ref (GT h l1).objs.size]}
def HV(h:gd)(l1 l2:dt):Heap:=(GV h l1 l2).push {cls:=.type "tuple",data:=.seq #[.none,.none]}
def GW(h:gd)(l1 l2:dt):Heap:=(HV h l1 l2).push {cls:=.type "zip",data:=.fields #[.none,.bool dV,.bool dV,.ref (GU h l1 l2).objs.size,.ref (GV h l1 l2).objs.size]}
theorem GX(Z Y:dt)(xs ys:Array aC):
  Meets (Builtin.«zip.__new__» ⟨[.type "zip",.ref Z,.ref Y],[]⟩) (fun _ R s=>s.heap.IsTuple Z xs/\s.heap.IsTuple Y ys/\R (.ok (.ret (.ref (HV s.heap Z Y).objs.size))) {s with heap:=GW s.heap Z Y}):=
 .of_wp fun prog w A R s h=>by
  obtain⟨Q,g,d,S,os⟩:=s;obtain⟨W,U,h⟩:=h;have P:=sub_zip;have T:QF (QX ⟨Q,g,d,S,os⟩) Z xs:=W;have X:QF (QX ⟨Q.push {cls:=.type "tuple_iterator",data:=.fields #[.ref Z,.int 0 0]},g,d,S,os⟩) Y ys:=let ⟨o,e,r⟩:=U;⟨o,LB _ e,r⟩
  wp_walk using M9 T,M9 X
  exact⟨_,rfl,h⟩
section
variable {prog:e_}{w:f'}{A:h_}{E:aC->b_->Prop}{s:b_}
theorem zT{Q:aC->b_->Prop}(T:s.heap.IsTuple l1 xs)(R:s.heap.IsTuple l2 ys)
  (h:∀h',P0 h' (s.heap.objs.size+4) (s.heap.objs.size+2) (s.heap.objs.size+3) .none->p7 h' (s.heap.objs.size+2) (.ref s.heap.objs.size) (.ref (s.heap.objs.size+1))->
   p7 h' (s.heap.objs.size+3) .none .none->h'.IsTupleIter s.heap.objs.size l1 0->h'.IsTupleIter (s.heap.objs.size+1) l2 0->(∀c o,s.heap.get? c=ar o->h'.get? c=ar o)->Q (.ref (s.heap.objs.size+4)) {s with heap:=h'}):
  ee (fc prog w) A (call (.type "zip") [.ref l1,.ref l2]) Q E s:=by
 refine callType_new F.called_zip (by decide) (F.typeCall_zip_2 _ _) (F.newCall_zip_2 _ _) (fun obj=>F.args_object_init_3 obj _ _) F.entry_zip_new (GX l1 l2 xs ys) ⟨T,R,?_⟩
 have X:(GT s.heap l1).objs.size=s.heap.objs.size+1:=MG ..;have W:(GU s.heap l1 l2).objs.size=s.heap.objs.size+2:=(MG ..).trans (by rw[X])
 have S:(GV s.heap l1 l2).objs.size=s.heap.objs.size+3:=(MG ..).trans (by rw[W])
 have L:(HV s.heap l1 l2).objs.size=s.heap.objs.size+4:=(MG ..).trans (by rw[S])
 have Z:∀{c o},(HV s.heap l1 l2).get? c=ar o->(GW s.heap l1 l2).get? c=ar o:=fun e=>LB _ e;have Y:∀{c o},(GV s.heap l1 l2).get? c=ar o->(HV s.heap l1 l2).get? c=ar o:=fun e=>LB _ e;have U:∀{c o},(GU s.heap l1 l2).get? c=ar o->(GV s.heap l1 l2).get? c=ar o:=fun e=>LB _ e;have O:∀{c o},(GT s.heap l1).get? c=ar o->(GU s.heap l1 l2).get? c=ar o:=fun e=>LB _ e;have K:∀{c o},s.heap.get? c=ar o->(GT s.heap l1).get? c=ar o:=fun e=>LB _ e;have P:(GW s.heap l1 l2).get? (HV s.heap l1 l2).objs.size=ar {cls:=.type "zip",data:=.fields #[.none,.bool dV,.bool dV,.ref (GU s.heap l1 l2).objs.size,.ref (GV s.heap l1 l2).objs.size]}:=LM _ rfl;have N:(GW s.heap l1 l2).get? (GV s.heap l1 l2).objs.size=ar {cls:=.type "tuple",data:=.seq #[.none,.none]}:=Z (LM _ rfl);have g3:(GW s.heap l1 l2).get? (GU s.heap l1 l2).objs.size=ar {cls:=.type "tuple",data:=.seq #[.ref s.heap.objs.size,.ref (GT s.heap l1).objs.size]}:=Z (Y (LM _ rfl));have g2:(GW s.heap l1 l2).get? (GT s.heap l1).objs.size=ar (Ds l2):=Z (Y (U (LM _ rfl)));have g1:(GW s.heap l1 l2).get? s.heap.objs.size=ar (Ds l1):=Z (Y (U (O (LM _ rfl))));show _/\_;rw[W,S,L]at P;rw[X,W]at g3;rw[S]at N;rw[X]at g2;rw[L];exact⟨⟨_,P,rfl⟩,h _ P g3 N ⟨_,g1,rfl,rfl⟩ ⟨_,g2,rfl,rfl⟩ fun c o x=>Z (Y (U (O (K x))))⟩
end
def AI(va vb:List V):It:=⟨fun i _=>i<va.length/\i<vb.length,fun i H x H'=>∃p a b,H p=none/\va[i]? =ar a/\vb[i]? =ar b/\x= .ref p/\H'=upd H p (.tup [a,b]),fun i _=>va.length<=i\/vb.length<=i⟩
section
variable {X:Cx}{pins:List (dt×Obj)}{σ:L2.St}{H:Hp}{s:b_}
theorem tj{h':gd}{t':Nat}{ch:List dt}(I:L2.Inv X pins σ H s)(W:∀b∈ch,iZ X pins H b)(k:∀b o,b∉ch->s.heap.get? b=ar o->h'.get? b=ar o):L2.Inv X pins σ H {s with heap:=h',toks:=t'}:=by
 have Y:∀b u,H b=ar u->b∉ch:=fun b u e z=>by rw[(W b z).1]at e;cases e
 refine I.step (g':=s.gens) (d':=s.drawn) (ch:=ch) (fun b U=>?_) (fun b o _ _ Z e _=>k b o Z e) (fun b o _ _ Z e _=>⟨o.slots,k b o Z e⟩) (fun _ _ _ _ n=>n)
  (fun b o Z e=>⟨o,k b o Z e⟩) (fun _ _ e=>e) (fun _ _ _ e=>e) (fun b Q e=>⟨#[],by rw[e];simp⟩) (fun m hm=>?_) (fun b u e=>?_) I.bare
 ·obtain⟨f0,f1,f2,S,f4,R⟩:=W b U;exact⟨S,f1,f4,R⟩
 ·obtain⟨o,es,ep,T,r⟩:=hm;exact⟨o,es,ep,k _ o (fun z=>(W _ z).2.1 rfl) T,r⟩
 ·refine(I.hok b u e).stay (fun c v Z q=>k c v ?_ q) (fun _ q=>q) fun _ _ q=>q;rcases Z with z|z
  ·rw[z];exact Y b u e
  ·exact Y c _ z
theorem tm{h':gd}{t':Nat}{ch:List dt}{a:dt}{o:HO}(I:L2.Inv X pins σ H s)(T:∀b∈ch,iZ X pins H b)(k:∀b o,b∉ch->s.heap.get? b=ar o->h'.get? b=ar o)(R:s.heap.objs.size<=a)(S:bj X.prog X.w (upd H a o) h' a o):
  L2.Inv X pins σ (upd H a o) {s with heap:=h',toks:=t'}:=by
 have Y:H a=none:=I.hok.fresh R;have W:∀b u,H b=ar u->b∉ch:=fun b u e z=>by rw[(T b z).1]at e;cases e
 have ne:∀b o,s.heap.get? b=ar o->b≠a:=fun b o e=>LQ (LV (LK e) R);refine I.step (g':=s.gens) (d':=s.drawn) (ch:=ch) (fun b U=>?_) (fun b o _ _ Z e _=>k b o Z e) (fun b o _ _ Z e _=>⟨o.slots,k b o Z e⟩) (fun b o _ e n=>by rw[aB (ne b o e)];exact n)
  (fun b o Z e=>⟨o,k b o Z e⟩) (fun b xs e=>by rw[aB (aE e Y)];exact e) (fun b _ _ e=>by rw[aB (aE e Y)];exact e) (fun b N e=>⟨#[],by rw[aB (aE e Y),e];simp⟩) (fun m hm=>?_) (fun b u e=>?_) I.bare
 ·obtain⟨f0,f1,f2,O,f4,Q⟩:=T b U;exact⟨O,f1,f4,Q⟩
 ·obtain⟨o,es,ep,P,r⟩:=hm;exact⟨o,es,ep,k _ o (fun z=>(T _ z).2.1 rfl) P,r⟩
 ·by_cases U:b=a
  ·subst U;rw[aM]at e;cases e;exact S
  ·rw[aB U]at e;refine(I.hok b u e).stay (fun c v Z q=>k c v ?_ q) (fun c q=>by rw[aB (aE q Y)];exact q) fun c xs q=>by rw[aB (aE q Y)];exact q
   rcases Z with z|z
   ·rw[z];exact W b u e
   ·exact W c _ z
end
theorem BU{P:e_}{w:f'}{K:d_}{q:List Expr}{x1}{tp:Pos}{z TI TO Q N l1 d:dt}(D:Rf z TI TO Q N l1 d){C G:List V}(H0:Hp->Prop)(A:∀H,H0 H↔(H l1=ar (.tup C)/\H d=ar (.tup G))):
  Turn P w K (.Tuple q x1 tp) ⟨fun i H=>(AI C G).go i H/\H0 H,(AI C G).yld,fun i H=>(AI C G).stop i H/\H0 H⟩ [z,TI,TO,Q,N] z
   (fun i h=>P0 h z TI TO .none/\p7 h TI (.ref Q) (.ref N)/\(∃a b,p7 h TO a b)/\h.IsTupleIter Q l1 i/\h.IsTupleIter N d i) where
 mem:=by simp
 obj:=fun i h st b Z=>by
  obtain⟨S,Y,⟨a,c,U⟩,⟨o1,e1,c1,d1⟩,⟨o2,e2,c2,d2⟩⟩:=st;simp only[gc,f_,or_false]at Z;rcases Z with rfl|rfl|rfl|rfl|rfl
  ·exact⟨_,S,fun v z=>by cases z⟩
  ·exact⟨_,Y,fun v z=>by cases z⟩
  ·exact⟨_,U,fun v z=>by cases z⟩
  ·exact⟨_,e1,fun v z=>by rw[d1]at z;cases z⟩
  ·exact⟨_,e2,fun v z=>by rw[d2]at z;cases z⟩
 keep:=fun i h h' st k=>by
  obtain⟨S,Y,⟨a,c,U⟩,J,F⟩:=st;exact⟨k z (by simp) _ S,k TI (by simp) _ Y,⟨a,c,k TO (by simp) _ U⟩,J.at fun o e=>k Q (by simp) o e,F.at fun o e=>k N (by simp) o e⟩
 item:=by
  intro X hP hw hK hc i pins s σ H E I hf st hg;subst hP hw hK;obtain⟨S,Y,⟨a,c,U⟩,J,F⟩:=st;obtain⟨⟨ga,gb⟩,hH⟩:=hg;obtain⟨hA,n⟩:=(A H).mp hH;obtain⟨r,O,p1,_⟩:=I.tuple (.of hA);obtain⟨t,L,j,_⟩:=I.tuple (.of n);obtain⟨u1,l,c5⟩:=O.get (LG ga);obtain⟨m,c7,f⟩:=L.get (LG gb);refine zS D S Y U J F p1 j (x:=u1) (y:=m) (by simpa using l) (by simpa using c7) fun h' a1 a2 a3 a4 a5 a6 p=>?_
  have b4:H s.heap.objs.size=none:=I.hok.fresh (LF _);have lt:∀{c o},s.heap.get? c=ar o->s.heap.objs.size≠c:=fun e=>M6 (LK e);refine⟨_,rfl,O8 a1 fun R c6 T=>?_⟩;have u:p7 R TI (.ref Q) (.ref N):=T.extBut _ _ D.TIz (p _ _ D.TIz D.TITO D.TIi1 D.TIi2 Y);have kk:∀b o,b∉[z,TI,TO,Q,N]->s.heap.get? b=ar o->R.get? b=ar o:=fun b o Z e=>by
   simp only[gc,f_,or_false,not_or]at Z;exact T.extBut _ _ Z.1 (p b o Z.1 Z.2.2.1 Z.2.2.2.1 Z.2.2.2.2 e)
  have B:p7 R s.heap.objs.size u1 m:=T.extBut _ _ (lt S) a5;have I2:L2.Inv X pins σ (upd H s.heap.objs.size (.tup [C[i],G[i]])) {s with heap:=R,toks:=s.toks}:=tm (o:=.tup [C[i],G[i]]) I hf kk (LF _) ⟨⟨by show 2<=sizeLine;decide,_,B,rfl⟩,[u1,m],.cons c5 (.cons f .nil),_,B,rfl,_,rfl⟩
  refine⟨.ref s.heap.objs.size,_,I2,rfl,
   ⟨_,_,_,b4,LG ga,LG gb,rfl,rfl⟩,⟨c6,u,⟨_,_,T.extBut _ _ D.TOz a2⟩,a3.at fun o e=>T.extBut _ _ D.i1z e,a4.at fun o e=>T.extBut _ _ D.i2z e⟩,fun b Z=>?_⟩
  obtain⟨ob,ho,_⟩:∃ob,s.heap.get? b=ar ob/\True:=by
   simp only[gc,f_,or_false]at Z;rcases Z with rfl|rfl|rfl|rfl|rfl
   ·exact⟨_,S,trivial⟩
   ·exact⟨_,Y,trivial⟩
   ·exact⟨_,U,trivial⟩
   ·obtain⟨o,e,_⟩:=J;exact⟨_,e,trivial⟩
   ·obtain⟨o,e,_⟩:=F;exact⟨_,e,trivial⟩
  rw[aB (LQ (LK ho))];exact(hf b Z).1
 done:=by
  intro X hP hw hK hc i pins s σ H E I hf st hg;subst hP hw hK;obtain⟨S,Y,⟨a,c,U⟩,J,F⟩:=st;obtain⟨gs,hH⟩:=hg;obtain⟨hA,n⟩:=(A H).mp hH;obtain⟨r,O,p1,_⟩:=I.tuple (.of hA);obtain⟨t,L,j,_⟩:=I.tuple (.of n);have e4:=O.length;have f5:=L.length;refine BS (I.ok.hd hc) D S Y U J F p1 j (gs.imp (fun g=>by simp;omega) fun g=>by simp;omega) fun h' p=>⟨rfl,tj (t':=s.toks) I hf fun b o Z e=>?_⟩
  simp only[gc,f_,or_false,not_or]at Z;exact p b o Z.1 Z.2.2.1 Z.2.2.2.1 Z.2.2.2.2 e
 self:=fun _ _ _ _ _ st h=>OM st.1 h
theorem zip_get{xs ys:List D}{i:Nat}{d:D}(h:((xs.zip ys).map fun p=>D.tup [p.1,p.2])[i]? =ar d):∃x y,xs[i]? =ar x/\ys[i]? =ar y/\d= .tup [x,y]:=by
 rw[L3]at h;cases q:(xs.zip ys)[i]? with
 |none=>rw[q]at h;cases h
 |some p=>
  rw[q]at h;cases h;obtain⟨Z,Y⟩:=N0.mp q;exact⟨p.1,p.2,Z,Y,rfl⟩
theorem wU{K:d_}{ι:List dt}{H:Hp}{S:aA}{a b:dt}{Y X:List V}{xs ys:List D}(Z:Rep K ι H S)(E:H a=ar (.tup Y))(I:H b=ar (.tup X))(C:RelDs K ι H xs Y)(w:RelDs K ι H ys X):
  ir K ⟨(xs.zip ys).map fun p=>.tup [p.1,p.2],.none⟩ ⟨fun i H=>(AI Y X).go i H/\(H a=ar (.tup Y)/\H b=ar (.tup X)),(AI Y X).yld,fun i H=>(AI Y X).stop i H/\(H a=ar (.tup Y)/\H b=ar (.tup X))⟩ ι H:=by
 intro P O S2 e rep2 ok i;have T:O a=ar (.tup Y):=(e.oth a _ E (Z.notIn E (by intro _ z;cases z)) (by intro _ z;cases z) (by intro _ z;cases z)).1
 have Q:O b=ar (.tup X):=(e.oth b _ I (Z.notIn I (by intro _ z;cases z)) (by intro _ z;cases z) (by intro _ z;cases z)).1
 have R:=C.laterN Z e;have U:=w.laterN Z e;have t:=R.length;have u:=U.length;refine⟨fun d hd=>?_,fun hlen=>?_⟩
 ·obtain⟨x,y,G,F,rfl⟩:=zip_get hd;have r:=(LH.mp G).1;have q:=(LH.mp F).1;refine⟨⟨⟨by omega,by omega⟩,T,Q⟩,?_⟩
  rintro v H3 ⟨p,J,N,hp,g1,g2,rfl,rfl⟩;obtain⟨v1,e1,A⟩:=R.get' G;obtain⟨v2,e2,B⟩:=U.get' F;obtain rfl:v1=J:=L5 (e1.symm.trans g1);obtain rfl:v2=N:=L5 (e2.symm.trans g2);have L:Ext P O P (upd O p (.tup [v1,v2])):=dU hp;exact⟨L,ff rep2 hp,.tup aM (.cons (A.later rep2 L) (.cons (B.later rep2 L) .nil))⟩
 ·have s:min xs.length ys.length<=i:=by simpa using hlen
  refine⟨?_,T,Q⟩;rcases Nat.le_total xs.length ys.length with z|z
  ·exact .inl (by omega)
  ·exact .inr (by omega)
end S4
namespace S3
open PySem PySem.Spec PyProof.Rows L2 S4
abbrev mV(i:Nat):TM:=fun ρ=>Fk ρ i
abbrev mK(d:D):TM:=fun _=>a_ d
abbrev pW(m n:TM):TM:=fun ρ=>do let x<-m ρ;let c<-ku x;if c=c_ then n ρ else a_ (.bl dV)
abbrev KO(m:TM):TM:=fun ρ=>do let x<-m ρ;let c<-ku x;a_ (.bl (!c))
abbrev KP(t:aF->M Bool)(m n:TM):TM:=fun ρ=>do let k<-t ρ;if k=c_ then m ρ else n ρ
abbrev D4:=aF->M (List D)
abbrev au:D4:=fun _=>a_ []
abbrev aa(m:TM)(ms:D4):D4:=fun ρ=>do let x<-m ρ;let xs<-ms ρ;a_ (x::xs)
abbrev kQ(ms:D4):TM:=fun ρ=>do let ds<-ms ρ;cF ds
abbrev bp(ms:D4):TM:=fun ρ=>do let ds<-ms ρ;bh ds
abbrev ay(F:List D->M D)(ms:D4):TM:=fun ρ=>do let ds<-ms ρ;F ds
abbrev cW(F:List D->M D)(m:TM):TM:=ay F (aa m au)
abbrev aY(f:D->D->M D)(m n:TM):TM:=fun ρ=>do let x<-m ρ;let y<-n ρ;f x y
abbrev GY(f g:D->D->M D)(m n l:TM):TM:=fun ρ=>do let x<-m ρ;let y<-n ρ;let z<-f x y;let k<-ku z;if k=c_ then do let w<-l ρ;g y w else a_ (.bl dV)
abbrev KQ:=aF->M (Option Int)
abbrev oN:KQ:=fun _=>a_ none
abbrev oS(m:TM):KQ:=fun ρ=>do let x<-m ρ;let i<-Lc x;a_ (ar i)
abbrev KR(m:TM)(lo hi:KQ):TM:=fun ρ=>do let x<-m ρ;let i<-lo ρ;let j<-hi ρ;Bu x i j
abbrev ja(m:TM)(T:String):TM:=fun ρ=>do let x<-m ρ;BA (fun t=>iM t T) x
abbrev Jg(m:TM)(T U:String):TM:=fun ρ=>do let x<-m ρ;BA (fun t=>iM t T||iM t U) x
abbrev ud(f:D->List D->M D)(m n:TM):TM:=fun ρ=>do let x<-m ρ;GE x;let ds<-(do let y<-n ρ;let ys<-a_ [];a_ (y::ys));f x ds
abbrev bB(mi:aF->M Iter)(g:lz)(t:aF->M Bool)(m:TM)(js:List (Option Nat)):TM:=fun ρ=>do let it<-mi ρ;let ys<-dE it g t m (gi js ρ);bh ys
abbrev iV:=aF->M Bool
abbrev bV(m:TM):iV:=fun ρ=>do let x<-m ρ;ku x
abbrev fC(f:D->D->M D)(m n:TM):iV:=fun ρ=>do let z<-(do let x<-m ρ;let y<-n ρ;f x y);ku z
abbrev wV(f g:D->D->M D)(m n l:TM):iV:=fun ρ=>do let v<-(do let x<-m ρ;let y<-n ρ;let z<-f x y;let k<-ku z;if k=c_ then do let w<-l ρ;g y w else a_ (.bl dV));ku v
abbrev eh(t:iV):iV:=fun ρ=>do let c<-t ρ;a_ (!c)
abbrev D5(t u:iV):iV:=fun ρ=>do let c<-t ρ;if c=c_ then u ρ else a_ dV
abbrev D6(t u:iV):iV:=fun ρ=>do let c<-t ρ;if c=c_ then a_ c_ else u ρ
abbrev lK:iV:=fun _=>a_ c_
abbrev lL(m:TM):aF->M Iter:=fun ρ=>do let ds<-aa m au ρ;kO ds
abbrev vW(m n:TM):aF->M Iter:=fun ρ=>do let ds<-aa m (aa n au) ρ;kf ds
abbrev eY(m:TM):aF->M Iter:=fun ρ=>do let x<-m ρ;Ja x
abbrev gN(i:Nat):lz:=fun d ρ=>a_ (ρ.set i (ar d))
abbrev JX(m n:TM):lz:=fun d ρ=>do let x<-m ρ;let y<-n ρ;jP x y d;a_ ρ
abbrev dZ:cT:=fun ρ=>a_ (.nx ρ)
abbrev aK(m n:cT):cT:=fun ρ=>do let o<-m ρ;uu o n
abbrev pX(me:TM):cT:=fun ρ=>do let _<-me ρ;a_ (.nx ρ)
abbrev bI(me:TM):cT:=fun ρ=>do let d<-me ρ;a_ (.ret d)
abbrev iW(t:iV)(m n:cT):cT:=fun ρ=>do let c<-t ρ;if c=c_ then m ρ else n ρ
abbrev bF(i:Nat)(me:TM):cT:=fun ρ=>do let d<-me ρ;a_ (.nx (ρ.set i (ar d)))
abbrev zU(me:TM)(g:lz):cT:=fun ρ=>do let d<-me ρ;let ρ'<-g d ρ;a_ (.nx ρ')
abbrev lM(mi:aF->M Iter)(g:lz)(b:cT):cT:=fun ρ=>do let it<-mi ρ;hU it g b it.items ρ
abbrev GZ(k:Nat)(t:iV)(b:cT):cT:=fun ρ=>jQ t b k ρ
structure DefIs(P:e_)(w:f')(K:d_)(mg:Str->Option aC)(base:gd)(k:Nat)(x:Str)(ps:List Str)(F:List D->M D):Prop where
 ex:∃f fd,FnOk P w K mg base Lo k f fd ps (Lq K F)/\mg x=ar (.ref f)/\D_ K (.ref f)=c_/\Binds K fd ps []
section
variable {X:Cx}{E:XD}{e:Expr}{es:List Expr}{pos:Pos}{ms:D4}
theorem av{c j p}:eb (.Constant c j p::es) env=(dV,h9 (.Constant c j p) env)::eb es env:=rfl
theorem bf{l k p}:eb (.Tuple l k p::es) env=(dV,h9 (.Tuple l k p) env)::eb es env:=rfl
theorem oA{l p}:eb (.List l p::es) env=(dV,h9 (.List l p) env)::eb es env:=rfl
theorem az{x p}:eb (.Name x p::es) env=(dV,h9 (.Name x p) env)::eb es env:=rfl
theorem ba{f l k p}:eb (.Call f l k p::es) env=(dV,h9 (.Call f l k p) env)::eb es env:=rfl
theorem fU{a o b p}:eb (.BinOp a o b p::es) env=(dV,h9 (.BinOp a o b p) env)::eb es env:=rfl
theorem cJ{a b p}:eb (.Subscript a b p::es) env=(dV,h9 (.Subscript a b p) env)::eb es env:=rfl
theorem D7{a b p}:eb (.Dict a b p::es) env=(dV,h9 (.Dict a b p) env)::eb es env:=rfl
theorem pY{a b p}:eb (.UnaryOp a b p::es) env=(dV,h9 (.UnaryOp a b p) env)::eb es env:=rfl
theorem wW{j p}:SE X E (.UnaryOp .USub (.Constant (.int i) j p) pos) (mK (.int (-i))):=by
 refine PE.imp (IB Gg AK) fun σ H Q h=>?_;obtain⟨ι,S,ρ,rep,re,c⟩:=h;exact⟨i,rfl,ai c .refl rep _ (.int _)⟩
theorem pZ(Z:Gl X x)(W:∃t,X.mg x=ar (.int i t))(Y:(x==("__debug__":Str))=false:=by decide):SE X E (.Name x pos) (mK (.int i)):=
 let ⟨_,h⟩:=W
 DM Z h Y
def Jh(fs:Scope)(N:List Str)(scope:Scope)(Nc:List Str)(js:List (Option Nat)):Bool:=
 (scope.kind== .function) && scope.names.all (fun y=>y.2 != .cell||scope.names.lookup y.1==ar .cell) && scope.names.all (fun y=>y.2 != .local||scope.names.lookup y.1==ar .local) &&
  scope.names.all (fun y=>y.2 != .free||(fs.names.lookup y.1==ar .cell||fs.names.lookup y.1==ar .free)) && (js.length==Nc.length) &&
  (Nc.zip js).all (fun p=>match p.2 with|none=>c_|some j=>N[j]? ==ar p.1 && scope.names.lookup p.1==ar .free)
theorem jI(fs:Scope)(N:List Str)(O:∀x,X.env.kindOf x=fs.names.lookup x)(R:X.N=N)(h:Jh fs N scope Nc js=c_):CompScope X scope Nc js:=by
 unfold Jh at h;simp only[j3,z3,beq_iff_eq,bne_iff_ne,E3]at h;obtain⟨⟨⟨⟨⟨T,S⟩,U⟩,W⟩,Q⟩,P⟩:=h;refine⟨T,fun y Z e=>(S y Z).resolve_left fun z=>z e,fun y Z e=>(U y Z).resolve_left fun z=>z e,fun y Z e=>?_,Q,fun i x j e1 e2=>?_⟩
 ·rw[O];exact(W y Z).resolve_left fun z=>z e
 ·have Y:(Nc.zip js)[i]? =ar (x,ar j):=N0.mpr ⟨e1,e2⟩;have:=P _ (Mf Y);simp only[j3,beq_iff_eq]at this;rw[R];exact this
theorem ia(Z:Room k A):A.units+64<cLine:=by have:=Z.un;omega
theorem Lu(Z:Room k A):A.units+8<cLine:=by have:=Z.un;omega
theorem HW(Z:Room k A):A.units<cLine:=by have:=Z.un;omega
end
section
variable {P:e_}{w:f'}{K:d_}{mg:Str->Option aC}{base:gd}
end
def runs{α:Type}(c:M α)(S:aA)(Q:α->aA->Prop):Prop:=∃a S',c S=ar (.ok a,S')/\Q a S'
section
variable {α β:Type}{c:M α}{f:α->M β}{S:aA}{Q Q':α->aA->Prop}{R:β->aA->Prop}
theorem tq(h:c S=ar (.ok a,S1)):runs c S Q↔Q a S1:=by
 constructor
 ·rintro⟨a',S',e,q⟩;rw[h]at e;cases e;exact q
 ·exact fun q=>⟨a,S1,h,q⟩
theorem D8(h:c S=none):runs c S Q↔False:=by
 constructor
 ·rintro⟨a',S',e,q⟩;rw[h]at e;cases e
 ·exact fun q=>q.elim
theorem rM(h:runs c S Q)(k:∀a S',Q a S'->Q' a S'):runs c S Q':=let ⟨a,S',e,q⟩:=h;⟨a,S',e,k a S' q⟩
end
section
variable {S:aA}{Q:D->aA->Prop}
theorem zV:runs (bh ds) S Q↔ds.length<=lim/\Q (.lst S.length) (S++[ds]):=by
 by_cases h:ds.length<=lim
 ·rw[tq (by unfold bh;rw[if_pos h])];simp[h]
 ·rw[D8 (by unfold bh;rw[if_neg h])];simp[h]
theorem fN{f:n_->n_->Bool}(Z:gm S 60 a=ar p)(Y:gm S 60 b=ar q):runs (HU f a b) S Q↔Q (.bl (f p q)) S:=by
 rw[tq (by unfold HU;rw[Z,Y])]
theorem tu(Z:gm S 60 a=ar p)(X:gm S 60 b=ar q)(Y:KJ f p q=ar r):runs (IY f a b) S Q↔Q (.bl r) S:=by
 rw[tq (by unfold IY;rw[Z,X];simp only[Y];rfl)]
end
end S3
namespace S7
open PySem PySem.Spec PySem.W PyProof.Rows
section
variable {prog:e_}{w:f'}{A:h_}{E:aC->b_->Prop}{s:b_}{K:R1}{x C:dt}{ox:Obj}{od:Option Obj}{name:Str}
theorem yd:Slot "BaseException" "__getattribute__" "BaseException.__getattribute__":=
 .of (owner:="BaseException") (n:="__getattribute__") (by rw[PK,OK];kernel_rfl) (by decide+kernel) (by decide+kernel) (by decide+kernel)
  (by first|exact .inl (by decide+kernel)|exact .inr (by decide+kernel)) (by rw[OG];kernel_rfl)
theorem BV{M:RB}{Z:aC}{Q:Unit->b_->Prop}(X:K.In s.heap)(I:C_ s.heap x ox C od)(R:Rt K C (.type "BaseException")=ar c_)(h:Q () s):
  ee M A (PY "BaseException.__getattribute__" ⟨[.ref x,Z],[]⟩) Q E s:=by
 have P:builtinKind "BaseException.__getattribute__"=ar .slot:=by decide+kernel
 have Y:splitId "BaseException.__getattribute__"=ar ("BaseException","__getattribute__"):=by decide+kernel
 have T:=I.type (M:=M);have L1:=looks_mroIn (M:=M) X R;have O:=F.args_bexc_ga (.ref x) Z;obtain⟨S,g,d,t,os⟩:=s;have U:Looks M S (Qq (.ref x) (.type "BaseException")) true:=T.andThen L1;simp only[PY,P,Y];refine LA (U.at ?_)
 repeat (first|wp_step)
 exact h
theorem BW{Y Z:Bool}{O:Tok}{Q:aC->b_->Prop}(X:K.In s.heap)(I:C_ s.heap x ox C od)(U:A2 K (.ref C) "__getattribute__"=ar (ar (.builtin "BaseException.__getattribute__")))
  (S:A2 K (.ref C) "__getattr__"=ar none) (L:Rt K C (.type "BaseException")=ar c_)
  (h:ee (fc prog w) A.in1 (Builtin.«object.__getattribute__» ⟨[.ref x,.str name O],[]⟩)
   (fun fin s'=>match fin with| .done (.ret v)=>ee (fc prog w) A (handedOut v) Q E s'|_=>False) (fun _ _=>False) s):
  ee (fc prog w) A (getAttrBy (.ref x) (.str name O) Y Z) Q E s:=by
 obtain⟨H,g,d,t,os⟩:=s;have N:=I.type (M:=fc prog w);have L1:=QG (M:=fc prog w) X U;have J:=QG (M:=fc prog w) X S;have R:(Z && Ru (B_ "BaseException.__getattribute__"))=false:=by cases Z<;>rfl
 have T:(B_ "BaseException.__getattribute__"==B_ "object.__getattribute__")=false:=by decide+kernel
 have P:(Ru (er C) && B_ "BaseException.__getattribute__"==B_ "object.__getattribute__")=false:=by rw[T,OF]
 unfold getAttrBy;refine Mw (LA (N.at (LA (L1.at ?_))));dsimp only;rw[P];simp only[fg,if_false];unfold getAttrByItsOwn hookBefore;rw[if_pos (show Ru (er C)=c_ from rfl)];refine LA (J.at ?_);unfold callGetattribute;rw[R];simp only[fg,if_false];refine LA (NR (Mw ?_));unfold boundAndCalled;rw[yd.bind];refine LA (LD ?_);refine NQ (NX yd.plain F.entry_bexc_ga (BV X I L (Mb h (fun fin s' z=>?_) fun _ _ z=>z.elim)));rcases fin with(_|_|_|_)|_<;>first|exact z|exact z.elim
theorem p0{g a:aC}{Y:Tok}{P:aC->b_->Prop}(X:K.In s.heap)(I:C_ s.heap x ox C od)(Z:Rx K C od name=ar (.bind g a))
  (h:ee (fc prog w) A (call g [a,.ref x,.ref C]) P E s):
  ee (fc prog w) A (Builtin.«object.__getattribute__» ⟨[.ref x,.str name Y],[]⟩) (fun fin s'=>match fin with| .done (.ret v)=>P v s'|_=>False) E s:=by
 obtain⟨T,S,d,t,os⟩:=s;have U:=I.type (M:=fc prog w);have L1:=looks_find (M:=fc prog w) X I Z;refine LA (LD (LA (LD (LA (U.at (LA (L1.at ?_)))))));show ee _ _ (y3 [a] (call g [a,.ref x,.ref C])>>=ret) _ _ _;exact LA (Mw (Mb h (fun v s' z=>LD z) fun _ _ z=>z))
theorem qO{v:aC}{Y:Tok}{P:aC->b_->Prop}(X:K.In s.heap)(I:C_ s.heap x ox C od)(Z:Rx K C od name=ar (.value v))(h:P v s):
  ee (fc prog w) A (Builtin.«object.__getattribute__» ⟨[.ref x,.str name Y],[]⟩) (fun fin s'=>match fin with| .done (.ret v)=>P v s'|_=>False) E s:=by
 obtain⟨T,S,d,t,os⟩:=s;have U:=I.type (M:=fc prog w);have L1:=looks_find (M:=fc prog w) X I Z;refine LA (LD (LA (LD (LA (U.at (LA (L1.at ?_)))))));exact LD h
structure ExcC(K:R1)(C:dt):Prop where
 ga:A2 K (.ref C) "__getattribute__"=ar (ar (.builtin "BaseException.__getattribute__"))
 gt:A2 K (.ref C) "__getattr__"=ar none
 be:Rt K C (.type "BaseException")=ar c_
 ob:Rt K C (.type "object")=ar c_
 cl:A2 K (.ref C) "__class__"=ar (ar (.builtin "object.__class__"))
 gs:specialIn K (.builtin "object.__class__") "__get__"=ar (ar (.builtin "getset_descriptor.__get__"))
 tk:takesIn K (.builtin "object.__class__")=ar c_
 cd:(RZ K C).isSome=c_
 mf:A2 K (.ref C) "many"=ar none
 ms:A2 K (.ref C) "most"=ar none
def BX(K:R1)(C:dt):Bool:=(A2 K (.ref C) "__getattribute__"==ar (ar (.builtin "BaseException.__getattribute__"))) && (A2 K (.ref C) "__getattr__"==ar none) && (Rt K C (.type "BaseException")==ar c_) &&
 (Rt K C (.type "object")==ar c_) && (A2 K (.ref C) "__class__"==ar (ar (.builtin "object.__class__"))) && (specialIn K (.builtin "object.__class__") "__get__"==ar (ar (.builtin "getset_descriptor.__get__"))) &&
 (takesIn K (.builtin "object.__class__")==ar c_) && (RZ K C).isSome && (A2 K (.ref C) "many"==ar none) && (A2 K (.ref C) "most"==ar none)
theorem ExcC.of(h:BX K C=c_):ExcC K C:=by
 unfold BX at h;simp only[j3,beq_iff_eq]at h;obtain⟨⟨⟨⟨⟨⟨⟨⟨⟨T,Q⟩,X⟩,Y⟩,W⟩,R⟩,U⟩,S⟩,P⟩,Z⟩:=h;exact⟨T,Q,X,Y,W,R,U,S,P,Z⟩
theorem zW{Q:Option aC->b_->Prop}(c:ExcC K C)(X:K.In s.heap)(I:C_ s.heap x ox C od)(h:Q (ar (.ref C)) {s with toks:=s.toks+1}):ee (fc prog w) A (getAttr? (.ref x) "__class__") Q E s:=by
 have hf:Rx K C od "__class__"=ar (.bind (.builtin "getset_descriptor.__get__") (.builtin "object.__class__")):=by
  obtain⟨cd,Z⟩:=MS.mp c.cd;unfold Rx;rw[Z,NF,c.cl,NF];simp[c.gs,c.tk]
 unfold getAttr? getAttrBy?;refine LA (wpAny_mkText (LA (NR (BW (s:={s with toks:=s.toks+1}) X I c.ga c.gt c.be ?_))));refine p0 (s:={s with toks:=s.toks+1}) X I hf ?_;exact NQ (class_get (s:={s with toks:=s.toks+1}) (ox:=ox) (od:=od) X I c.ob (handed_on rfl (LD h)))
theorem BY(c:ExcC K C):KitX K (.ref x) (.ref C) (fun h=>∃ox od,C_ h x ox C od) where
 ty:=fun _ _ _ ⟨_,_,I⟩=>I.type
 it:=fun _ _ X _=>by
  have Z:=c.cd;unfold RZ at Z;split at Z
  ·rename_i c' d' cd' sl' ho
   intro T R U s' k q;unfold isType loadHead;exact LA (wpAny_loadPart (k _ _ (X _ _ ho)) (LD q))
  ·cases Z
 ne:=fun h tp dd its n S X Y=>by
  have Z:=c.cd;refine Pj.mpr fun q=>?_;have e:C=tp:=Value.ref.inj (PZ.mp q);subst e;unfold RZ at Z;split at Z
  ·rename_i c' d' cd' sl' ho
   have z:=(X _ _ ho).symm.trans Y;cases z
  ·cases Z
 ca:=fun X ⟨_,_,I⟩ k=>zW c X I k
end
end S7
namespace S7
open PySem PySem.Spec PyProof.Rows L2 S3
def BZ(e T C:dt)(od:Option dt)(fl:aC)(h:gd):Prop:=
 ∃oe vs oT ts,h.get? e=ar oe/\oe.cls= .ref C/\oe.dict=od/\oe.data= .fields vs/\vs[1]? =ar (.ref T)/\T≠e/\h.get? T=ar oT/\oT.data= .fields ts/\ts[3]? =ar fl
structure Step(fs:List dt)(e T:dt)(h h':gd):Prop where
 keep:∀b o,h.get? b=ar o->b≠e->b≠T->b∉fs->h'.get? b=ar o
 slot:∀b o,h.get? b=ar o->b≠e->b≠T->∃sl,h'.get? b=ar {o with slots:=sl}
 size:h.objs.size<=h'.objs.size
section
variable {M:RB}{A:h_}{E:aC->b_->Prop}{s:b_}{base:gd}{env:Env}{outer:List Env}{L e T C:dt}{od:Option dt}{fl:aC}{Q:Unit->b_->Prop}
theorem p9(o:Obj)(f:Array aC->Array aC):(A' f o).dict=o.dict:=by
 obtain⟨c,d,Z,Y⟩:=o;cases Z<;>rfl
theorem entry(K:A.frames=ar (env::outer))(G:s.heap.FunFrames base (env::outer))(B:env.frame=ar L)
  (F:s.heap.get? e=ar oe) (y:oe.cls= .ref C) (w:oe.dict=od) (J:oe.data= .fields vs) (P:1<vs.size)
  (h:∀h' T',BZ e T' C od (l4 L) h'->s.heap.objs.size<=T'->Step (jG (env::outer)) e e s.heap h'->Q () {s with heap:=h'}):
  ee M A (do let a<-frameOf env;let N<-entryPlaceOf L hadNext;let b<-EntryCells.newEntry head a .none (l4 L) .none N;setField (.ref e) 1 b) Q E s:=by
 have U:e∉jG (env::outer):=fun hm=>by obtain⟨_,o,q,H⟩:=G.mem hm;rw[F]at q;cases q;exact H vs J
 refine LA (wpAny_frameOf_fun K G B fun Y Z=>LA (wpAny_entryPlaceOf fun N O=>?_));unfold EntryCells.newEntry newFields;refine LA (Mx (?_ :ee _ _ _ _ _ _) (O.sizeOk5 _ _ _ _ _));have W:Y.get? e=ar oe:=(Z.2.1 e U).trans F;have R:=LB (h:=Y) {cls:=.type "traceback",dict:=none,data:=.fields ([head,.ref L,.none,l4 L,.none]++(if N.isEmpty then eo 6 i0 else N)).toArray} W;have S:Y.objs.size≠e:=M6 (LK W);have X:=Na J (·.setIfInBounds 1 (er Y.objs.size));refine NG R J P (h _ Y.objs.size ⟨_,_,_,_,MC _ R (NO X),?_,?_,X,by simp[P],S,(Mq _ _ (j7 S)).trans (LM Y rfl),rfl,?_⟩ (Oe Z.1.symm) ⟨fun b o q I _ z=>?_,fun b o q I _=>?_,?_⟩)
 ·rw[Pl];exact y
 ·rw[p9];exact w
 ·first|(simp;done)|(rcases O with rfl|⟨_,_,_,_,_,_,_,rfl⟩<;>simp)
 ·rw[Mq _ _ (j7 I)];exact LB _ ((Z.2.1 b z).trans q)
 ·obtain⟨x,v⟩:=Z.2.2 b o q;exact⟨x,by rw[Mq _ _ (j7 I)];exact LB _ v⟩
 ·rw[NI,MG,Z.1];exact N8 _
theorem wX(Z:A.frames=ar (env::outer))(P:s.heap.FunFrames base (env::outer))(Y:env.frame=ar L)
  (W:s.heap.get? e=ar oe) (S:oe.cls= .ref C) (R:oe.dict=od) (X:oe.data= .fields vs) (U:vs[1]? =ar .none)
  (h:∀h' T',BZ e T' C od (l4 L) h'->s.heap.objs.size<=T'->Step (jG (env::outer)) e e s.heap h'->Q () {s with heap:=h'}):ee M A (GB (.ref e) env) Q E s:=by
 unfold GB;simp only[Y];refine LA (MJ W X U ?_);rw[if_neg (by decide)]
 exact entry Z P Y W S R X (L8.mp U).1 h
theorem rN(S:A.frames=ar (env::outer))(B:s.heap.FunFrames base (env::outer))(I:env.frame=ar L)(F:BZ e T C od .none s.heap)
  (h:∀h' X,BZ e X C od (l4 L) h'->s.heap.objs.size<=X->Step (jG (env::outer)) e T s.heap h'->Q () {s with heap:=h'}):ee M A (GB (.ref e) env) Q E s:=by
 obtain⟨t,vs,u,H,he,y,v,hd,J,P,W,Z,K⟩:=F;have R:3<H.size:=(L8.mp K).1;unfold GB;simp only[I];refine LA (MJ he hd J ?_);rw[if_pos (show(er T !=i0)=c_ from by simp)]
 refine LA (MJ W Z K ?_);rw[if_neg (show ¬ ((i0==l4 L)=c_)from by simp[l4])]
 refine LA (NG W Z R ?_);have other:∀b,b≠T->(s.heap.update T (A' (·.setIfInBounds 3 i0))).get? b=s.heap.get? b:=fun b x=>Mq _ _ (j7 x);have N:(s.heap.update T (A' (·.setIfInBounds 3 i0))).FunFrames base (env::outer):=B.of_keeps fun b o q O=>⟨o,(other b fun z=>by rw[z,W]at q;cases q;exact O H Z).trans q,rfl⟩
 refine entry (s:={s with heap:=s.heap.update T (A' (·.setIfInBounds 3 i0))}) S N I ((other e (j7 P)).trans he) y v hd (L8.mp J).1 fun h' X w l st=>h h' X w ?_ ⟨fun b o q Y U G=>st.keep b o ((other b U).trans q) Y Y G,fun b o q Y U=>st.slot b o ((other b U).trans q) Y Y,?_⟩
 ·have:=l;rwa [NI]at this
 ·have:=st.size;rwa [NI]at this
theorem ig(F:BZ e T C od fl s.heap)(h:∀h',BZ e T C od .none h'->Step [] e T s.heap h'->Q () {s with heap:=h'}):ee M A (setFlight (.ref e) none) Q E s:=by
 obtain⟨J,vs,I,O,he,N,K,hd,S,X,U,Z,P⟩:=F;have Y:3<O.size:=(L8.mp P).1;refine wpAny_setFlight_none he hd S U Z Y (h _ ⟨J,vs,_,_,(Mq _ _ X).trans he,N,K,hd,S,X,MC _ U (NO (Na Z _)),Na Z _,by simp[Y]⟩
  ⟨fun b o q R W _=>(Mq _ _ (j7 W)).trans q,fun b o q R W=>⟨o.slots,(Mq _ _ (j7 W)).trans q⟩,?_⟩)
 rw[NI];exact LF _
theorem uR(W:A.frames=ar (env::outer))(J:s.heap.FunFrames base (env::outer))(R:env.frame=ar L)
  (z:s.heap.get? e=ar oe) (I:oe.cls= .ref C) (G:oe.dict=od) (P:oe.data= .fields vs) (N:vs[1]? =ar .none)
  (h:∀h' X,BZ e X C od .none h'->s.heap.objs.size<=X->Step (jG (env::outer)) e e s.heap h'->Q () {s with heap:=h'}):ee M A (Qi env (.ref e)) Q E s:=by
 unfold Qi;refine LA (wX W J R z I G P N fun h' X F l st=>ig (s:={s with heap:=h'}) F fun U K Y=>h U X K l ⟨fun b o q Z S O=>?_,fun b o q Z S=>?_,LS st.size Y.size⟩)
 ·exact Y.keep b o (st.keep b o q Z Z O) Z (LQ (LV (LK q) l)) (by simp)
 ·obtain⟨H,B⟩:=st.slot b o q Z Z;exact⟨H,Y.keep b _ B Z (LQ (LV (LK q) l)) (by simp)⟩
theorem wY(U:A.frames=ar (env::outer))(N:s.heap.FunFrames base (env::outer))(R:env.frame=ar L)(F:BZ e T C od .none s.heap)
  (h:∀h' X,BZ e X C od .none h'->s.heap.objs.size<=X->Step (jG (env::outer)) e T s.heap h'->Q () {s with heap:=h'}):ee M A (Qi env (.ref e)) Q E s:=by
 unfold Qi;refine LA (rN U N R F fun h' X F l st=>ig (s:={s with heap:=h'}) F fun S O Z=>h S X O l ⟨fun b o q Y W P=>?_,fun b o q Y W=>?_,LS st.size Z.size⟩)
 ·exact Z.keep b o (st.keep b o q Y W P) Y (LQ (LV (LK q) l)) (by simp)
 ·obtain⟨K,J⟩:=st.slot b o q Y W;exact⟨K,Z.keep b _ J Y (LQ (LV (LK q) l)) (by simp)⟩
end
def kz(P:e_)(w:f'):AH:=fun outer H s E x s'=>
 ∃(e T C:dt) (od:Option dt) (H':Hp),x= .ref e/\s'.os=s.os/\A_ s'.gens/\Un (jG outer) [] H H' s.heap s'.heap/\fK P w H' s'.heap/\BZ e T C od .none s'.heap/\
  H' e=none/\H' T=none/\s.heap.get? e=none/\s.heap.get? T=none/\E (.ref C) od H'
theorem zX{X:Cx}:oV (kz X.prog X.w) X E0:=fun _ _ _ _ _ _ _ ⟨_,_,_,_,_,_,_,_,_,_,_,_,_,_,_,h⟩=>h.elim
theorem gn{h:gd}(q:h.get? b=ar o)(n:h.get? e=none):b≠e:=fun z=>by rw[z,n]at q;cases q
theorem Un.fly(u:Un fs [] H H' h h1)(W:Step fs e T h1 h2)(R:h.get? e=none)(X:h.get? T=none):Un fs [] H H' h h2 where
 keep:=fun b o q n hf Z=>W.keep b o (u.keep b o q n hf Z) (gn q R) (gn q X) hf
 slot:=fun b o q n hf Z=>by
  obtain⟨P,S⟩:=u.slot b o q n hf Z;obtain⟨Y,U⟩:=W.slot b _ S (gn q R) (gn q X);exact⟨Y,U⟩
 free:=u.free
 there:=fun b o q Z=>by
  obtain⟨Q,S⟩:=u.there b o q Z;obtain⟨Y,U⟩:=W.slot b _ S (gn q R) (gn q X);exact⟨_,U⟩
 tups:=u.tups
 frzs:=u.frzs
 tbls:=u.tbls
theorem fK.fly{H:Hp}(U:fK P w H h1)(W:Step fs e T h1 h2)(S:H e=none)(Y:H T=none)(X:∀b∈fs,H b=none):fK P w H h2:=fun a o q=>by
 have k:∀b u,H b≠none->h1.get? b=ar u->h2.get? b=ar u:=fun b u n q=>W.keep b u q (fun z=>n (by rw[z];exact S)) (fun z=>n (by rw[z];exact Y)) fun z=>n (X b z)
 refine(U a o q).stay (fun b u Z=>k b u ?_) (fun _ z=>z) fun _ _ z=>z;rcases Z with rfl|Z
 ·rw[q];simp
 ·rw[Z];simp
section
theorem uS(l:List Env)(x:dt)(env:Env)(h:env.frame=ar x):jG (env::l)=x::jG l:=by
 unfold jG;rw[Mz,h]
theorem bj.there(x:bj P w H h a o):∃Z,h.get? a=ar Z:=by
 cases o with
 |lst xs=>obtain⟨_,_,_,_,e⟩:=x;exact⟨_,e⟩
 |tup xs=>obtain⟨_,_,_,Z,e,_⟩:=x;exact⟨_,e⟩
 |dK kvs=>obtain⟨_,_,_,_,o,_,_,e,_⟩:=x;exact⟨_,e⟩
 |dT kvs=>obtain⟨_,_,_,_,o,_,_,e,_⟩:=x;exact⟨_,e⟩
 |set S n=>obtain⟨o,_,_,_,e,_⟩:=x;exact⟨_,e⟩
 |ins C dx fs=>obtain⟨_,_,_,e,_⟩:=x;exact⟨_,e⟩
 |own y=>exact x
 |xd fs=>obtain⟨_,⟨_,_,_,e,_⟩,_⟩:=x;exact⟨_,e⟩
 |rng lo hi=>obtain⟨_,_,_,e⟩:=x;exact⟨_,e⟩
 |frz Z u=>obtain⟨e,_⟩:=x;exact⟨_,e⟩
 |tbl ps=>exact⟨_,(show h.get? a=ar _ from x)⟩
 |met f y=>exact⟨_,(show h.get? a=ar _ from x)⟩
 |ext φ=>exact x.2.1
theorem fK.gone{H:Hp}(x:fK P w H h)(e:h.get? a=none):H a=none:=by
 cases q:H a with
 |none=>rfl
 |some o=>
  obtain⟨Z,e2⟩:=bj.there (x a o q);rw[e]at e2;cases e2
theorem Un.gone(u:Un fs ex H H' h h')(Z:a∉ex)(e:h'.get? a=none):h.get? a=none:=by
 cases q:h.get? a with
 |none=>rfl
 |some o=>
  obtain⟨Y,e2⟩:=u.there a o q Z;rw[e]at e2;cases e2
end
abbrev Cx.hand(X:Cx)(e:aC):Cx:={X with A:=X.A.mark (ar e),calm:=dV,xe:=fun _ _=>False}
section
variable {X:Cx}{pins:List (dt×Obj)}{σ:L2.St}{H H':Hp}{s:b_}{x:aC}
theorem Inv.hand(I:Inv X pins σ H s)(e:aC):Inv (Cx.hand X e) pins σ H s:=
 ⟨⟨I.ok.mod,I.ok.kind,I.ok.glob,I.ok.blt,I.ok.above,I.ok.inj,I.ok.has,I.ok.cab,(fun z=>Bool.noConfusion z),I.ok.frames,I.ok.stk,I.ok.exf,I.ok.bs,I.ok.bsz,I.ok.noex,I.ok.exfs,I.ok.funs,I.ok.frf⟩,
  I.os,I.bare,I.base,I.loc,I.cell,I.free,I.freeC,I.pin,I.hok,I.len⟩
theorem Inv.unhand(Z:X.Ok)(I:Inv (Cx.hand X x) pins σ H s):Inv X pins σ H s:=⟨Z,I.os,I.bare,I.base,I.loc,I.cell,I.free,I.freeC,I.pin,I.hok,I.len⟩
theorem Inv.local{Z:L2.St}(I:Inv X pins σ H s)(hs:rn X.env.locals s.heap h')(R:h'.Ns X.env.locals m')(U:Z.length=X.N.length)
  (S:∀(i:Nat) (y:Str) (v:V),X.N[i]? =ar y->Z[i]? =ar (ar v)->yR X.env.scope y->∃u,RelV v u/\Look X.env h' m' y u):Inv X pins Z H {s with heap:=h',toks:=t'}:=by
 have ne:∀b o,X.s₀.heap.get? b=ar o->b≠X.env.locals:=fun b o e=>LQ (LV (LK e) I.ok.above);refine⟨I.ok,I.os,I.bare,⟨fun b o e n T W=>(hs.2 b (ne b o e)).trans (I.base.keep b o e n T W),fun b o e n T W=>?_,I.base.free,fun b o e W=>?_,I.base.tups,I.base.frzs,I.base.tbls⟩,⟨m',R,S⟩,fun y c e=>?_,I.free,I.freeC,fun p P=>?_,fun a o e=>?_,U⟩
 ·obtain⟨O,e1⟩:=I.base.slot b o e n T W;exact⟨O,(hs.2 b (ne b o e)).trans e1⟩
 ·obtain⟨Q,e1⟩:=I.base.there b o e W;exact⟨Q,(hs.2 b (ne b o e)).trans e1⟩
 ·obtain⟨v,z⟩:=I.cell y c e;exact⟨v,z.sameBut hs (I.cne y c e)⟩
 ·obtain⟨e,n,nl,r⟩:=I.pin p P;exact⟨(hs.2 p.1 nl).trans e,n,nl,r⟩
 ·refine(I.hok a o e).stay (fun c L Y q=>(hs.2 c ?_).trans q) (fun _ q=>q) fun _ _ q=>q;rintro rfl;rcases Y with Y|Y
  ·subst Y;rw[I.free]at e;cases e
  ·rw[I.free]at Y;cases Y
theorem D9{M:RB}{A:h_}{E:aC->b_->Prop}{i:Nat}{y:Str}{pos:Pos}{Q:Unit->b_->Prop}(I:Inv X pins σ H s)(U:X.N.Nodup)(O:X.N[i]? =ar y)(P:X.env.scope.names.lookup y=ar .local)
  (h:∀s',Inv X pins (σ.set i none) H s'->Q () s'):ee M A (do bindName X.env y .none;unbindBehindTheSuite X.env y pos) Q E s:=by
 obtain⟨m,T,W⟩:=id I.loc;refine wpAny_nameGoes_keeps P T (by rw[I.ok.kind];rfl) fun h' v Z hs=>h _ (Inv.local I hs Z (by rw[Oi];exact I.len) fun j z S e1 e2 R=>?_)
 have Y:j≠i:=by
  rintro rfl;by_cases hlt:j<σ.length
  ·rw[Mh hlt]at e2;cases e2
  ·rw[My (by rw[Oi];omega)]at e2;cases e2
 rw[MI (j7 Y)]at e2;obtain⟨u,r,q⟩:=W j z S e1 e2 R;refine⟨u,r,?_⟩;rcases q with⟨k,e⟩|⟨k,c,e,q⟩
 ·refine .inl ⟨k,?_⟩;have:z≠y:=fun e=>Y (oM U e1 (e ▸ O));simp[this,e]
 ·exact .inr ⟨k,c,e,q.sameBut hs (I.cne z c e)⟩
end
theorem Un.track{X:Hp}(u:Un fs [] H X h h')(Z:X e=none)(T:h.get? e=none):Un fs [] H (upd X e o) h h' where
 keep:=u.keep
 slot:=u.slot
 free:=fun b Y q n W=>by rw[aB (gn q T)];exact u.free b Y q n W
 there:=u.there
 tups:=fun b xs q=>by have:=u.tups b xs q;rw[aB (aE this Z)];exact this
 frzs:=fun b Y x q=>by have:=u.frzs b Y x q;rw[aB (aE this Z)];exact this
 tbls:=fun b U q=>by
  obtain⟨more,this⟩:=u.tbls b U q;exact⟨more,by rw[aB (aE this Z)];exact this⟩
theorem fK.track{H:Hp}(X:fK P w H h)(Y:H e=none)(Z:bj P w (upd H e o) h e o):fK P w (upd H e o) h:=fun b u q=>by
 by_cases hb:b=e
 ·subst hb;rw[aM]at q;cases q;exact Z
 ·rw[aB hb]at q;exact(X b u q).stay (fun c v _ q=>q) (fun c q=>by rw[aB (aE q Y)];exact q) fun c xs q=>by rw[aB (aE q Y)];exact q
theorem Ea(F:BZ e T C od fl h):bj P w H h e (.ext (nX C e od)):=by
 obtain⟨Z,vs,W,U,he,Y,X,hd,_⟩:=F;refine⟨⟨Z,vs,he,Y,X,hd⟩,⟨Z,he⟩,?_⟩;rintro h1 h2 ⟨Z,vs,he,r⟩ k;exact⟨Z,vs,k _ he,r⟩
structure LamOk(P:e_)(w:f')(K:d_)(mg:Str->Option aC)(base:gd)(k:Nat)(f:dt)(sp:Hp->VK->XK->Prop):Prop where
 fn:∃o fd,base.get? f=ar o/\o.data= .func fd
 run:∀(A:h_) (outer:List Env) (s:b_) (H:Hp) (Q:VK) (E:XK),Room k A->aF P w K mg base A outer s H->sp H Q E->r7 (fc P w) A (.call (.ref f) ⟨[],[]⟩) (CR (kz P w) outer P w H s Q E) s
section
variable {X:Cx}{k i jn jy:Nat}{f CW:dt}{sp:Hp->VK->XK->Prop}{x c n y:Str}{p cpos epos np p1 p2 p3 hpos tpos:Pos}
theorem zY(J:X.stack=X.env::X.outer)(c4:X.env.frame=ar X.env.locals)(L:LamOk X.prog X.w X.K X.mg X.base k f sp)(hr:Room k X.A)(hN:X.N.Nodup)(hi:X.N[i]? =ar x)(hv:yR X.env.scope x)
  (S:X.N[jn]? =ar n) (b5:X.N[jy]? =ar y) (R:X.env.scope.names.lookup n=ar .local) (m:X.env.scope.names.lookup y=ar .local) (hg:Gl X c) (hm:X.mg c=ar (.ref CW))
  (hd:(x==("__debug__":Str))=false:=by decide) (c3:(x==("__classdict__":Str))=false:=by decide) (d1:(c==("__debug__":Str))=false:=by decide) (d0:(n==("__debug__":Str))=false:=by decide) (a6:(n==("__classdict__":Str))=false:=by decide)
  (c1:k7 (.Call (.Name x p) [] [] cpos) none epos.line X.env=a_ false:=by rfl) (a3:k7 (.Name n p2) (ar (.Name y p1)) p3.line X.env=a_ false:=by rfl):
  PS X (.Try [.Expr (.Call (.Name x p) [] [] cpos) epos] [.ExceptHandler (ar (.Name c np)) (ar n) [.Assign [.Name y p1] (.Name n p2) p3] hpos] [] [] tpos)
   (fun D σ H=>σ[i]? =ar (ar (.ref f))/\sp H (fun _ Y=>D.nx σ Y) (fun cls od Y=>∃C,cls= .ref C/\RI X.K (.ref C) (.ref CW)=ar c_/\∀e,Y e=none->D.nx (((σ.set jn (ar (.ref e))).set jy (ar (.ref e))).set jn none) (upd Y e (.ext (nX C e od))))):=by
 intro pins s σ H D I ⟨hσ,hsp⟩;refine wpAny_Try_except (N1 (PN ?_ I.quiet c1));refine Nj (Mb (jK (X:=X.nox) hi hv hd c3 pins s σ H (fun v Y=>v= .ref f/\Y=H) (I.wish _) ⟨_,hσ,rfl,rfl⟩) (fun u s1 c2=>?_) fun _ _ z=>hO z);obtain⟨v,Y,O,r1,ev,eH⟩:=c2;subst ev eH;obtain rfl:u=er f:=r1;have O:=O.unwish;obtain⟨o,fd,ho,g⟩:=L.fn;refine callWith_meth0 g (O.bk f o ho) (NQ (M7 (L.run X.A X.stack s1 Y _ _ hr O.env0 hsp) fun r s' U=>?_));cases r with
 | ok fl=>
  cases fl with
  |ret u=>
   obtain⟨v,H2,j,_,q⟩:=O.after U;exact NK (NK ⟨σ,H2,j,q⟩)
  |next=>exact hO U
  |brk=>exact hO U
  |cont=>exact hO U
 | error ev=>
  obtain⟨e,T,C',od,Z,rfl,os,bare,un,E,F,ne,nT,le,lT,C,eC,hx,hD⟩:=U;cases eC;have j:L2.Inv X pins σ Z s':=O.call' (ch:=[]) os un E bare (fun b z=>absurd z (by simp))
  have c5:∀b∈jG X.stack,Z b=none:=j.stkFree;refine rN (base:=X.base) (outer:=X.outer) (by rw[j.ok.frames,J]) (by rw[<-J];exact j.stack) c4 F fun h1 T1 F1 l1 B=>?_
  rw[<-J]at B;have a0:Z T1=none:=E.fresh l1;refine ig (s:={s' with heap:=h1}) F1 fun G F2 b1=>?_;have a4:s1.heap.get? T1=none:=Un.gone un (by simp) (MH l1)
  have t:fK X.prog X.w Z h1:=fK.fly E B ne nT c5;have P:fK X.prog X.w Z G:=fK.fly t b1 ne a0 (fun b z=>absurd z (by simp))
  have b6:Un (jG X.stack) [] Y Z s1.heap h1:=Un.fly un B le lT;have Q:∀{h a:gd} {e T:dt},Step [] e T h a->Step (jG X.stack) e T h a:=fun st=>⟨fun b o q n1 n2 _=>st.keep b o q n1 n2 (by simp),st.slot,st.size⟩
  have l:Un (jG X.stack) [] Y Z s1.heap G:=Un.fly b6 (Q b1) le a4;have I3:L2.Inv X pins σ Z {s' with heap:=G}:=O.call' (s':={s' with heap:=G}) (ch:=[]) os l P bare (fun b z=>absurd z (by simp))
  refine wpAny_handleBy_cons (codeAny_handlers_test (iX (X:=Cx.hand X (.ref e)) (Inv.hand I3 _) hg hm ?_ d1)) (by intro q;cases q)
  have LT:W.Looks (fc X.prog X.w) G (typeOf (.ref e)) (.ref C'):=by
   obtain⟨oe,vs,oT,ts,he,hc,_⟩:=F2;exact hc ▸ (W.Looks.ld he).andThen .now
  refine(W.exm_one (h:=G) I3.kIn LT hx).at ?_;refine codeAny_handlers_suite_as (ig (s:={s' with heap:=G}) F2 fun h3 F3 b2=>?_);have a5:fK X.prog X.w Z h3:=fK.fly P b2 ne a0 (fun b z=>absurd z (by simp))
  have d2:Un (jG X.stack) [] Y Z s1.heap h3:=Un.fly l (Q b2) le a4;have I4:L2.Inv X pins σ (upd Z e (.ext (nX C' e od))) {s' with heap:=h3}:=
   O.call' (s':={s' with heap:=h3}) (ch:=[]) os (Un.track d2 ne le) (fK.track a5 ne (Ea F3)) bare (fun b z=>absurd z (by simp))
  refine lg (X:=X) I4 hN S (.inl R) (v:=.ref e) rfl (fun s5 I5=>?_) (.inr R);have hl:jn<σ.length:=by rw[I.len];exact(LH.mp S).1
  have ps:=sv (AO (X:=Cx.hand X (.ref e)) (pos:=p3) (pos':=p1) hN b5 (.inl m) (jK (X:=Cx.hand X (.ref e)) (pos:=p2) S (.inl R) d0 a6) a3 (.inr m));refine Mb (ps pins s5 _ _ {nx:=fun d H6=>d=(σ.set jn (ar (.ref e))).set jy (ar (.ref e))/\H6=upd Z e (.ext (nX C' e od)),rt:=fun _ _=>False} (Inv.hand I5 _) ⟨.ref e,by rw[Mh hl],rfl,rfl⟩) (fun fl s6 U=>?_) fun _ _ z=>hO z
  cases fl with
  |next=>
   obtain⟨d,H6,I6,e1,e2⟩:=U;subst e1 e2;exact D9 (Inv.unhand I.ok I6) hN S R fun s7 I7=>⟨_,_,I7,hD e ne⟩
  |ret u=>obtain⟨_,_,_,_,_,z⟩:=U;exact hO z
  |brk=>obtain⟨_,_,_,z⟩:=U;exact hO z
  |cont=>obtain⟨_,_,_,z⟩:=U;exact hO z
end
structure BaseL(K:d_)(mg:Str->Option aC)(base:gd):Prop where
 bm:∃bm ob,mg "__builtins__"=ar (.ref bm)/\bm≠w7/\base.get? bm=ar ob/\ob.cls= .type "module"/\ob.dict=ar w7/\ob.data= .plain
 cd:∀x∈bH,∀c P,l6 K x=ar (c,P)->Qc base c P
def mU(K:d_):Prop:=∀x∈bH,∀y∈bH,∀c d P,l6 K x=ar (c,P)->l6 K y=ar (d,P)->x=y
theorem wZ(l:List aC)(h:Rp l)(e:PV pos (l++[l4 a,l4 b,c])=ar v):PV pos l=ar v\/v=c:=by
 fun_induction Rp l with
 |case1=>
  have Z:(if a==(pos.line:Int) && b==(pos.col:Int)then ar c else none)=ar v:=e;split at Z
  ·exact .inr (L5 Z).symm
  ·cases Z
 |case2 a' t b' u x rest ih=>
  simp only[List.cons_append,PV]at e⊢;split at e
  ·next hq=>rw[if_pos hq];exact .inl e
  ·next hq=>rw[if_neg hq];exact ih h e
 |case3 l h1 h2=>exact h.elim
section
variable {X:Cx}{pins:List (dt×Obj)}{σ:L2.St}{H:Hp}{s:b_}{x ql:Str}{c P:dt}{params:PU}{body:Expr}{scope:Scope}{pos:Pos}{clos:List (Str×dt)}{Q:aC->b_->Prop}{E:aC->b_->Prop}{A:h_}
theorem w5(hx:x∈bH)(ht:l6 X.K x=ar (c,P))(J:X.env.code= .ref c)(hq:X.env.qual++"<lambda>"=ql)(j:ql=x++".<locals>.<lambda>")(B:BaseL X.K X.mg X.base)(TI:mU X.K)(l:Q8 scope X.env=a_ clos)
  (a3:Rg params X.env=([],[])) (I:L2.Inv X pins σ H s) (T:TabsOk X.K H)
  (h:∀f Z Y pm H1 s1,L2.Inv X pins σ H1 s1->s.heap.objs.size<=f->s1.heap.get? f=ar (x_ "<lambda>" ql params body scope clos pm Z Y)->H1 f=none->H1 Z=ar (.ext (mI ql Z))->
   (∀a o,H a=ar o->(∀G,o≠ .tbl G)->H1 a=ar o)->(∀a,H a=none->H1 a≠none->s.heap.objs.size<=a)->TabsOk X.K H1->Q (.ref f) s1):
  ee (fc X.prog X.w) A (h9 (.Lambda params body scope pos) X.env) Q E s:=by
 refine W.kla_eval a3 ?_;rw[hq];obtain⟨G,O,hT,hA⟩:=T x hx c P ht;have C:Qc s.heap c P:=(B.cd x hx c P ht).keeps I.bk;have oP:s.heap.get? P=ar (y_ G):=I.hok P _ O;have hg:s.heap.Ns gg X.mg:=I.mod.glob.keeps I.bk;have U:∀b,H b=none->b≠P:=fun b n z=>by rw[z,O]at n;cases n
 have gP:gg≠P:=by
  obtain⟨o,es,ep,e,_⟩:=I.mod.glob;exact U _ (I.bs _ _ e).2
 have hb:s.heap.BuiltinsAt X.mg P:=by
  obtain⟨bm,ob,b1,b2,b3,b4,b5,b6⟩:=B.bm;refine⟨bm,ob,b1,b2,fun z=>?_,U _ (I.bs _ _ b3).2,I.bk _ _ b3,b4,b5,b6⟩;obtain⟨o,es,ep,e,hd,_⟩:=I.mod.glob;rw[z,e]at b3;cases b3;rw[hd]at b6;cases b6
 cases hn:PV pos G.toList with
 |some cv=>
  obtain⟨Z,rfl,m⟩:=hA pos cv hn;rw[<-j]at m;refine W.kla_makeFunctionHit l I.ok.glob hg J C oP hT hn hb fun Y h' tk hk a5=>?_;have R:∀b o,s.heap.get? b=ar o->(h'.push {cls:=.type "function",data:=.func (Rh "<lambda>" ql params body scope clos ((X.mg "__name__").getD .none) (.ref Z) Y)}).get? b=ar o:=fun b o e=>LB _ (hk b o e);exact h _ Z Y _ H _ (I.kept (t':=tk) R) a5 (LM _ rfl) (I.hok.fresh a5) m (fun a o e _=>e) (fun a n z=>absurd n z) T
 | none=>
  refine W.kla_makeFunction l I.ok.glob hg J C oP hT hn gP hb fun Z Y h' tk hX N F g c3=>?_;have nc:H Z=none:=I.hok.fresh N;have cP:P≠Z:=fun z=>by rw[<-z,O]at nc;cases nc
  have R:∀b o,b≠P->s.heap.get? b=ar o->(h'.push (x_ "<lambda>" ql params body scope clos ((X.mg "__name__").getD .none) Z Y)).get? b=ar o:=fun b o n e=>LB _ (hX b o n e);have i:(h'.push (x_ "<lambda>" ql params body scope clos ((X.mg "__name__").getD .none) Z Y)).get? P=ar (y_ (G++ #[l4 pos.line,l4 pos.col,.ref Z])):=LB _ c3;have old:∀a o,H a=ar o->a≠P->upd (upd H P (.tbl (G++ #[l4 pos.line,l4 pos.col,.ref Z]))) Z (.ext (mI ql Z)) a=ar o:=fun a o e n=>by rw[aB (aE e nc),aB n];exact e
  have a0:∀b o,s.heap.get? b=ar o->b≠Z:=fun b o e=>LQ (LV (LK e) N);have un:Un X.fs [] H (upd (upd H P (.tbl (G++ #[l4 pos.line,l4 pos.col,.ref Z]))) Z (.ext (mI ql Z))) s.heap (h'.push (x_ "<lambda>" ql params body scope clos ((X.mg "__name__").getD .none) Z Y)):=
   ⟨fun b o e n _ _=>R b o (U b n) e,fun b o e n _ _=>⟨o.slots,R b o (U b n) e⟩,fun b o e n _=>by rw[aB (a0 b o e),aB (U b n)];exact n,fun b o e _=>(by
    by_cases z:b=P
    ·subst z;exact⟨_,i⟩
    ·exact⟨o,R b o z e⟩),fun b xs e=>old b _ e (fun z=>by rw[z,O]at e;cases e),fun b o u e=>old b _ e (fun z=>by rw[z,O]at e;cases e),fun b qs e=>(by
    by_cases z:b=P
    ·subst z;rw[O]at e;cases e;exact⟨_,by rw[aB cP,aM]⟩
    ·exact⟨#[],by rw[old b _ e z];simp⟩)⟩
  have L:mI ql Z (h'.push (x_ "<lambda>" ql params body scope clos ((X.mg "__name__").getD .none) Z Y)):=by
   obtain⟨v,oc,vs,t,e1,e2,r⟩:=g;exact⟨v,oc,vs,t,e1,LB _ e2,r⟩
  have c7:fK X.prog X.w (upd (upd H P (.tbl (G++ #[l4 pos.line,l4 pos.col,.ref Z]))) Z (.ext (mI ql Z))) (h'.push (x_ "<lambda>" ql params body scope clos ((X.mg "__name__").getD .none) Z Y)):=by
   intro a o e;by_cases za:a=Z
   ·subst za;rw[aM]at e;cases e;refine⟨L,?_,?_⟩
    ·obtain⟨v,oc,vs,t,e1,e2,_⟩:=L;cases e1;exact⟨oc,e2⟩
    ·rintro h1 h2 ⟨v,oc,vs,t,e1,e2,r⟩ k;cases e1;exact⟨a,oc,vs,t,rfl,k _ e2,r⟩
   ·rw[aB za]at e;by_cases zP:a=P
    ·subst zP;rw[aM]at e;cases e;exact i
    ·rw[aB zP]at e;refine(I.hok a o e).stay (fun b u S q=>R b u ?_ q) (fun b q=>old b _ q (fun z=>by rw[z,O]at q;cases q)) fun b xs q=>old b _ q (fun z=>by rw[z,O]at q;cases q)
     rintro rfl;rcases S with S|S
     ·exact zP S.symm
     ·rw[O]at S;cases S
  refine h _ Z Y _ _ _ (I.un (t':=tk) un c7) (LS N (Nd F)) (LM _ rfl) ?_ aM (fun a o e n=>old a o e (fun z=>by rw[z,O]at e;cases e;exact n _ rfl)) (fun a n z=>?_) fun y hy d P' e=>?_
  ·have:H h'.objs.size=none:=I.hok.fresh (LS N (Nd F));rw[aB (j7 (LQ F)),aB (U _ this)];exact this
  ·by_cases za:a=Z
   ·rw[za];exact N
   ·rw[aB za,aB (U a n)]at z;exact absurd n z
  ·by_cases zP:P'=P
   ·subst zP;obtain rfl:y=x:=TI y hy x hx d c P' e ht;refine⟨_,by rw[aB cP,aM],?_,fun p cv q=>?_⟩
    ·have:=TriplesOk_snoc pos.line pos.col (.ref Z) G.toList hT;simpa using this
    ·have q':PV p (G.toList++[l4 pos.line,l4 pos.col,.ref Z])=ar cv:=by simpa using q
     rcases wZ _ hT q' with q2|q2
     ·obtain⟨v,e1,e2⟩:=hA p cv q2;exact⟨v,e1,old _ _ e2 (fun z=>by rw[z,O]at e2;cases e2)⟩
     ·exact⟨Z,q2,by rw[<-j];exact aM⟩
   ·obtain⟨qs,g1,g2,g3⟩:=T y hy d P' e;exact⟨qs,old _ _ g1 zP,g2,fun p cv q=>let ⟨v,e1,e2⟩:=g3 p cv q;⟨v,e1,old _ _ e2 (fun z=>by rw[z,O]at e2;cases e2)⟩⟩
end
def KS(K:d_)(ι:List dt)(H:Hp)(x:D)(cls:aC)(od:Option dt):Prop:=
 ∃n ds C,x= .exc n ds/\p4 K gg n=ar (ar (.ref C))/\cls= .ref C/\
  ((od=none/\ds=[])\/∃dx fs,od=ar dx/\H dx=ar (.xd fs)/\fs.map (·.1)=([("many":Str),("most":Str)]:List Str)/\RelDs K ι H ds (fs.map (·.2)))
def ue(K:d_)(Ek:XK):XD:=fun x ι _ H=>∀cls od,KS K ι H x cls od->Ek cls od H
def B0(K:d_)(F:List D->M D):Sp:=fun vs H Q Ek=>∃ ι S ds,Rep K ι H S/\RelDs K ι H ds vs/\cont K (ue K Ek) (F ds) ι S H (jL K Q)
theorem B1{K:d_}{E X:XD}{α:Type}{c:M α}{ι:List dt}{S:aA}{H:Hp}{Q:α->List dt->aA->Hp->Prop}(h:cont K E c ι S H Q)(k:∀x ι' Z H',E x ι' Z H'->X x ι' Z H'):cont K X c ι S H Q:=by
 obtain⟨r,Z,e,q⟩:=h;refine⟨r,Z,e,fun Y U T rep1=>?_⟩;have:=q Y U T rep1;cases r with
 |ok a=>exact this
 |ex x=>exact k x _ _ _ this
def mW{α:Type}(c:M α):M α:=fun S=>match c S with
 |some (.ok a,S')=>ar (.ok a,S')
 |_=>none
theorem mX{K:d_}{E:XD}{α:Type}{c:M α}{ι:List dt}{S:aA}{H:Hp}{Q:α->List dt->aA->Hp->Prop}(h:cont K E (mW c) ι S H Q):cont K bx c ι S H Q:=by
 obtain⟨r,Y,e,q⟩:=h;unfold mW at e;cases z:c S with
 |none=>rw[z]at e;cases e
 |some p=>
  obtain⟨Z,S1⟩:=p;rw[z]at e;cases Z with
  |ok a=>cases e;exact⟨_,_,z,q⟩
  |ex x=>cases e
section
variable {X:Cx}{E:XD}
theorem tw{m:TM}(h:SE X bx e m):SE X E e (fun ρ=>mW (m ρ)):=PE.imp h fun _ _ _ ⟨ι,S,ρ,rep,re,c⟩=>⟨ι,S,ρ,rep,re,mX c⟩
theorem uT{Z:List n3}{m:cT}(h:qJ X bx Z m):qJ X E Z (fun ρ=>mW (m ρ)):=oO.imp h fun _ _ _ ⟨ι,S,ρ,rep,re,c⟩=>⟨ι,S,ρ,rep,re,mX c⟩
theorem tx{Z:List n3}{m:cT}(h:qJ X.nox bx Z m):qJ X bx Z m:=oO.nox h
end
structure Leaves(X:Cx)(Ek:XK):Prop where
 st:X.stack=X.env::X.outer
 fm:X.env.frame=ar X.env.locals
 ex:X.ex=[]
 xe:∀e s',ee (fc X.prog X.w) X.A (Qi X.env e) (fun _ s''=>kz X.prog X.w X.outer X.H₀ X.s₀ Ek e s'') (fun e' s''=>kz X.prog X.w X.outer X.H₀ X.s₀ Ek e' s'') s'->X.xe e s'
 ow:Qh (fc X.prog X.w) X.A X.env X.xe
section
variable {X:Cx}{Ek:XK}
theorem Leaves.pass(L:Leaves X Ek):oV (kz X.prog X.w) X Ek:=by
 rintro pins σ H s x s' I ⟨e,T,C,od,H',rfl,os,bare,un,hok,F,ne,nT,le,lT,hE⟩;have U:L2.Inv X pins σ H' s':=I.call' (ch:=[]) os un hok bare (fun b z=>absurd z (by simp))
 refine L.xe _ _ (wY (base:=X.base) (outer:=X.outer) (by rw[U.ok.frames,L.st]) (by rw[<-L.st];exact U.stack) L.fm F fun h' P Q l st=>?_)
 rw[<-L.st]at st;have Y:fK X.prog X.w H' h':=fK.fly hok st ne nT U.stkFree;have S:Un (jG X.stack) [] H H' s.heap h':=Un.fly un st le lT;have W:L2.Inv X pins σ H' {s' with heap:=h'}:=I.call' (s':={s' with heap:=h'}) (ch:=[]) os S Y bare (fun b z=>absurd z (by simp))
 have R:=W.base;have h0:=I.base;have Z:=U.base;rw[L.ex]at R h0 Z;exact⟨e,P,C,od,H',rfl,W.os,W.bare,R,W.hok,Q,ne,hok.fresh l,Un.gone h0 (by simp) le,Un.gone Z (by simp) (MH l),hE⟩
theorem Leaves.new{H:Hp}(L:Leaves X Ek)
  (I:L2.Inv X pins σ H s') (J:s'.heap.get? e=ar oe) (F:oe.cls= .ref C) (B:oe.dict=od) (O:oe.data= .fields vs) (K:vs[1]? =ar .none) (S:H e=none) (hs:X.s₀.heap.get? e=none) (N:Ek (.ref C) od H):X.xe (.ref e) s':=by
 refine L.xe _ _ (uR (base:=X.base) (outer:=X.outer) (by rw[I.ok.frames,L.st]) (by rw[<-L.st];exact I.stack) L.fm J F B O K fun h' G E l st=>?_)
 have T:∀b∈jG (X.env::X.outer),H b=none:=by rw[<-L.st];exact I.stkFree
 have U:fK X.prog X.w H h':=fK.fly I.hok st S S T;have Z:=I.base;rw[L.ex]at Z;have R:∀b o,X.s₀.heap.get? b=ar o->b∉jG X.outer->b∉jG (X.env::X.outer):=fun b o q n z=>by
  rw[uS X.outer X.env.locals _ L.fm]at z;rcases LY.mp z with z|z
  ·exact absurd (LK q) (by rw[z];exact Pc.mpr I.ok.above)
  ·exact n z
 have ne:∀b o,X.s₀.heap.get? b=ar o->b≠e:=fun b o q=>gn q hs;refine⟨e,G,C,od,H,rfl,I.os,I.bare,⟨fun b o q n hf Y=>?_,fun b o q n hf Y=>?_,Z.free,fun b o q Y=>?_,Z.tups,Z.frzs,Z.tbls⟩,U,E,S,I.hok.fresh l,hs,Un.gone Z (by simp) (MH l),N⟩
 ·exact st.keep b o (Z.keep b o q n hf Y) (ne b o q) (ne b o q) (R b o q hf)
 ·obtain⟨A,P⟩:=Z.slot b o q n hf Y;obtain⟨W,Q⟩:=st.slot b _ P (ne b o q) (ne b o q);exact⟨W,Q⟩
 ·obtain⟨y,P⟩:=Z.there b o q Y;obtain⟨W,Q⟩:=st.slot b _ P (ne b o q) (ne b o q);exact⟨_,Q⟩
theorem bN{P:e_}{w:f'}{K:d_}{Y:Str->Option aC}{base:gd}{N:List Str}{qual:Str}{scope:Scope}{f:dt}{Z:aC}{A:h_}{outer:List Env}{s₀:b_}{H₀:Hp}:
  Leaves (jH (kz P w) P w K Y base N qual scope f Z A outer s₀ H₀ Ek) Ek:=⟨rfl,rfl,rfl,fun _ _ h=>h,PassesOwn.leaving⟩
end
structure DefX(P:e_)(w:f')(K:d_)(mg:Str->Option aC)(base:gd)(k:Nat)(x:Str)(ps:List Str)(F:List D->M D):Prop where
 ex:∃f fd,FnOk P w K mg base (kz P w) k f fd ps (B0 K F)/\mg x=ar (.ref f)/\D_ K (.ref f)=c_/\Binds K fd ps []
section
variable {P:e_}{w:f'}{K:d_}{mg:Str->Option aC}{base:gd}
theorem G0{x qual:Str}{U:n3}{f:dt}{I:g_}{N X:List Str}{k:Nat}{m:cT}(F:Fun K x qual U f I)(E:FnScope N X (ao U))
  (R:∀(Z:aC) (A:h_) (outer:List Env) (s:b_) (H:Hp) (Y:XK),Room k (A.deeper (EW qual (ao U) s.heap.objs.size f Z))->Qx K Z qual=c_->(∃J od T kV doc pm an ct,K.lookup f=ar ⟨J,od,.func (G2 x qual (ic U) (dm U) (ao U) .none kV doc pm an Z ct),T⟩)->
   qJ (jH (kz P w) P w K mg base N qual (ao U) f Z A outer s H Y) (ue K Y) (dm U) m):FnOk P w K mg base (kz P w) (k+1) f I X (B0 K (oj N.length X.length m)):=by
 have key:∀{vs:List V} {H:Hp} {Q:VK} {Y:XK},B0 K (oj N.length X.length m) vs H Q Y->vs.length=X.length/\∃ ι S ds,Rep K ι H S/\RelDs K ι H ds vs/\cont K (ue K Y) (do let o<-m (ds.map ar++eo (N.length - X.length) none);outD o) ι S H (jL K Q):=by
  rintro vs H Q Y ⟨ι,S,ds,rep,r,c⟩;unfold oj at c;by_cases O:ds.length=X.length
  ·rw[if_pos O]at c;exact⟨by rw[<-r.length];exact O,ι,S,ds,rep,r,c⟩
  ·rw[if_neg O]at c;exact(ag c).elim
 obtain⟨J,od,kV,doc,pm,an,Z,ct,T,rfl,G,L⟩:=F.ex;refine AZ G L E (fun vs H Q Y h=>(key h).1) fun A outer s H vs Q Y C h=>⟨_,R Z A outer s H Y C L ⟨J,od,T,kV,doc,pm,an,ct,G⟩,?_⟩;obtain⟨O,ι,S,ds,rep,r,c⟩:=key h;refine⟨ι,S,_,rep,?_,ak (ah c) fun o z S1 y e1 rep1 c1=>?_⟩
 ·have:=RelE.start r (N.length - X.length);unfold L2.start;rw[O];exact this
 ·cases o with
  |nx ρ=>exact fun B _=>ai c1 .refl rep1 _ .non
  |ret d=>exact ai c1 .refl rep1
  |bk ρ=>exact(ag c1).elim
  |ct ρ=>exact(ag c1).elim
end
section
variable {X:Cx}{Ek:XK}{e:Expr}{es:List Expr}{pos:Pos}{ms:aF->M (List D)}
theorem cX(d:DefX X.prog X.w X.K X.mg X.base k x ps F)(T:Room k X.A)(P:oV (kz X.prog X.w) X Ek)(U:SA X (ue X.K Ek) (e::es) ms)(L:Gl X x:=by rfl)
  (Y:(x==("__debug__":Str))=false:=by decide) (I:eb (e::es) X.env=(dV,h9 e X.env)::eb es X.env:=by rfl) (W:(nC pos (eb es X.env)).any (·.1)=false:=by rfl):
  SE X (ue X.K Ek) (.Call (.Name x p) (e::es) [] pos) (ay F ms):=by
 obtain⟨f,fd,G,hm,J,O⟩:=d.ex;refine PE.imp (xF G T L hm J O (.nil) (E:=Ek) P U Y I W) fun σ H Q h=>?_;obtain⟨ι,S,ρ,rep,re,c⟩:=h;refine⟨ι,S,ρ,rep,re,ak (ah c) fun ds Z S1 R e1 rep1 c1 vs N=>?_⟩;show B0 X.K F (vs++[]) R Q Ek;rw[Mt];exact⟨Z,S1,ds,rep1,N,c1⟩
theorem aP(d:DefX X.prog X.w X.K X.mg X.base k x ps F)(T:Room k X.A)(U:SA X bx (e::es) ms)(N:Gl X x:=by rfl)
  (Y:(x==("__debug__":Str))=false:=by decide) (J:eb (e::es) X.env=(dV,h9 e X.env)::eb es X.env:=by rfl) (W:(nC pos (eb es X.env)).any (·.1)=false:=by rfl):
  SE X bx (.Call (.Name x p) (e::es) [] pos) (ay F ms):=by
 obtain⟨f,fd,G,hm,L,P⟩:=d.ex;refine PE.imp (xF G T N hm L P (.nil) (E:=E0) zX U Y J W) fun σ H Q h=>?_;obtain⟨ι,S,ρ,rep,re,c⟩:=h;refine⟨ι,S,ρ,rep,re,ak (ah c) fun ds Z S1 R e1 rep1 c1 vs O=>?_⟩;show B0 X.K F (vs++[]) R Q E0;rw[Mt];exact⟨Z,S1,ds,rep1,O,B1 c1 fun _ _ _ _ z=>z.elim⟩
end
def aX:List Str:=["WebError","NoWeb","NoPlace","NoPlaces","NoMap","NoSharing","NoRoot","NoNumber","NotJoined","NoTie","NoText","NoLine","NoDeed","TooGreat"]
def cq(n y:Str):Bool:=n==y||y=="WebError"
abbrev HX:List Value:=[.type "ValueError",.type "Exception",.type "BaseException",.type "object"]
def B2(K:d_)(n:Str):Bool:=match p4 K gg n with
 | some (ar (.ref C))=>BX K C && (n=="TooGreat"||Ry K C HX "ValueError.__new__") && (q_ K (.ref C) (.type "ValueError")==ar c_) && (q_ K (.type "NoneType") (.ref C)==ar dV) &&
  aX.all (fun y=>match p4 K gg y with
   |some (ar (.ref D))=>q_ K (.ref C) (.ref D)==ar (cq n y) && RI K (.ref C) (.ref D)==ar (cq n y)
   |_=>dV)
 |_=>dV
def fV(K:d_):Bool:=aX.all (B2 K) && q_ K (.type "NoneType") (.type "ValueError")==ar dV
structure ErrAt(K:d_)(n:Str)(C:dt):Prop where
 ns:p4 K gg n=ar (ar (.ref C))
 ck:ExcC K C
 pl:n="TooGreat"\/Ry K C HX "ValueError.__new__"=c_
 ve:q_ K (.ref C) (.type "ValueError")=ar c_
 nn:q_ K (.type "NoneType") (.ref C)=ar dV
 sub:∀y∈aX,∃D,p4 K gg y=ar (ar (.ref D))/\q_ K (.ref C) (.ref D)=ar (cq n y)/\RI K (.ref C) (.ref D)=ar (cq n y)
theorem jU{K:d_}(h:fV K=c_){n:Str}(Y:n∈aX):∃C,ErrAt K n C:=by
 unfold fV at h;rw[MW]at h;have Z:=Ml.mp h.1 n Y;unfold B2 at Z;split at Z
 ·next C e=>
  simp only[j3,E3,beq_iff_eq,z3]at Z;obtain⟨⟨⟨⟨a1,a2⟩,T⟩,S⟩,X⟩:=Z;refine⟨C,e,.of a1,a2,T,S,fun y U=>?_⟩;have:=X y U;split at this
  ·next D eD=>
   simp only[j3,beq_iff_eq]at this;exact⟨D,eD,this.1,this.2⟩
  ·cases this
 ·cases Z
theorem G1{K:d_}(h:fV K=c_):q_ K (.type "NoneType") (.type "ValueError")=ar false:=by
 unfold fV at h;rw[MW,PZ]at h;exact h.2
theorem Eb{K:d_}(X:K.In h)(q:Ry K C HX "ValueError.__new__"=c_):∃bm N nm qn bs hdct sn sub ab col dd k0 k1 k2 k3 k5 mN,
  h.get? C=ar (x' nm qn C N bs bm hdct sn sub ab col dd k0 k1 k2 k3 k5 "ValueError.__new__")/\h.Ns N mN/\mN "__init__"=none/\QZ h HX bm:=by
 unfold Ry at q;split at q
 case h_2=>cases q
 case h_1 dd cd T ho=>
 split at q
 case h_2=>cases q
 case h_1 C' bm k0 k1 k2 k3 n k5 hm hs=>
 simp only[j3,beq_iff_eq,L_]at q;obtain⟨⟨⟨⟨⟨S,en⟩,Z⟩,R⟩,Y⟩,U⟩:=q;subst S en;rcases cd with⟨nm,bs,mro,ns,qn,hd,sn,sub,ab,col,del⟩;dsimp only at hm Z Y U;subst hm Z;obtain rfl:T= #[k0,k1,k2,k3,ar (.builtin "ValueError.__new__"),k5]:=by rcases T with⟨l⟩;simp only at hs;rw[hs]
 exact⟨bm,ns,nm,qn,bs,hd,sn,sub,ab,col,dd,k0,k1,k2,k3,k5,_,X _ _ ho,.of_isNs (W.isNs_of_in X Y),W.nsMap_none_of_in X Y U,W.tail_of_in X R⟩
section
variable {X:Cx}{Ek:XK}{E:XD}
theorem uU(L:Leaves X Ek)(l:X.calm=c_)(f:fV X.K=c_)(r:x∈aX)(J:x≠"TooGreat")(v:SA X (ue X.K Ek) (e::es) ms)(d:Gl X x:=by rfl)
  (G:(x==("__debug__":Str))=false:=by decide) (w:eb (e::es) X.env=(dV,h9 e X.env)::eb es X.env:=by rfl) (Q:(nC cpos (eb es X.env)).any (·.1)=false:=by rfl):
  SS X (ue X.K Ek) (.Raise (ar (.Call (.Name x np) (e::es) [] cpos)) none pos) (fun ρ=>do let ds<-ms ρ;if ds.length<=lim then M.raise (.exc x [])else M.fail):=by
 intro pins s σ H T I h;obtain⟨ι,S,ρ,rep,re,c⟩:=h;obtain⟨C,P⟩:=jU f r;have o:=P.pl.resolve_left J;have hm:X.mg x=ar (.ref C):=L4 I.mod.kin I.mod.glob P.ns;obtain⟨bm,N,nm,j,bs,hdct,sn,sub,ab,col,dd,k0,k1,k2,k3,k5,mN,g,n,B,A⟩:=Eb I.mod.kin o;refine wpAny_Raise_call_subU (k5:=k5) (k3:=k3) (k2:=k2) (k1:=k1) (k0:=k0) (nm:=nm) (q:=j) (C:=C) (N:=N) (bm:=bm) (bs:=bs) (hdct:=hdct) (sn:=sn) (sub:=sub) (ab:=ab) (col:=col) (dd:=dd) Ni (by decide) Ni (mN:=mN) (A.hasType PySem.F.excBase_ValueError.hasBase) (I.ok.hd l) (by rw[w];show(dV||(nC cpos (eb es X.env)).any (·.1))=dV;rw[Q];rfl) B (iX I d hm ⟨rfl,?_⟩ G)
 have Y:=v cpos pins s σ H _ I ⟨ι,S,ρ,rep,re,ak (ah c) fun ds Z S1 W e1 rep1 c1 vs R=>(⟨Z,S1,ds,rep1,R,c1⟩:∃Z S1 ds,Rep X.K Z W S1/\RelDs X.K Z W ds vs/\cont X.K (ue X.K Ek) (if ds.length<=lim then M.raise (.exc x [])else M.fail) Z S1 W _)⟩;rw[w]at Y⊢;refine NW (Mb Y (fun us s2 O=>?_) fun _ _ z=>z);obtain⟨vs,W,U,m,Z,S1,ds,rep1,R,c1⟩:=O;by_cases hl:ds.length<=lim
 ·rw[if_pos hl]at c1;refine⟨rfl,?_,U.bk _ _ g,n.keeps U.bk,A.keeps U.bk,fun h' ea hm=>?_⟩
  ·show us.length<=sizeLine;rw[<-m.length, <-R.length];exact LS hl fZ
  ·obtain⟨t,u,h2,h3⟩:=hm.there;have i:L2.Inv X pins σ W {s2 with heap:=h'}:=U.kept (t':=s2.toks) hm.keeps;have y:=U.base;rw[L.ex]at y;obtain⟨b,a,k,p⟩:=c1;cases k;refine L.new i u rfl rfl rfl rfl (fK.gone U.hok hm.new) (Un.gone y (by simp) hm.new) (p Z W .refl rep1 _ _ ⟨x,[],C,rfl,P.ns,rfl,.inl ⟨rfl,rfl⟩⟩)
 ·rw[if_neg hl]at c1;exact(ag c1).elim
def uV(f:Str->Bool):D->M D
 | .exc n _=>if n∈aX then a_ (.bl (f n))else M.fail
 | .non=>a_ (.bl dV)
 |_=>M.fail
theorem zZ(x:nX C a od h)(S:od=none\/∃dx fs,od=ar dx/\bj P w H h dx (.xd fs)):∃ox odo,C_ h a ox C odo:=by
 obtain⟨Y,vs,e,U,T,hf⟩:=x;have Z:RJ Y=true:=by unfold RJ;rw[hf]
 rcases S with rfl|⟨dx,fs,rfl,h2⟩
 ·exact⟨Y,none,e,U,Z,by rw[T];trivial⟩
 ·obtain⟨R,e2⟩:=bj.there h2;exact⟨Y,ar R,e,U,Z,by rw[T];exact e2⟩
theorem Ec{Q:aC->b_->Prop}(I:L2.Inv X pins σ H s)(r:RelD X.K ι H (.exc n ds) v)(U:RelV v u)
  (T:fV X.K=c_) (Y:n∈aX) (S:∀C,ErrAt X.K n C->q_ X.K (.ref C) cv=ar b) (h:∀tk,Q (.bool b) {s with toks:=tk}):ee (fc X.prog X.w) A (call (.builtin "isinstance") [u,cv]) Q Ex s:=by
 obtain⟨C,Z⟩:=jU T Y;have fin:∀{a C2:dt} {od:Option dt},p4 X.K gg n=ar (ar (.ref C2))->v= .ref a->nX C2 a od s.heap->(od=none\/∃dx fs,od=ar dx/\bj X.prog X.w H s.heap dx (.xd fs))->ee (fc X.prog X.w) A (call (.builtin "isinstance") [u,cv]) Q Ex s:=by
  rintro a C2 od e1 rfl ph hd;rw[Z.ns]at e1;cases e1;obtain rfl:u=er a:=U;exact MD (BY Z.ck) I.kIn (zZ ph hd) (S C Z) (fun z=>nomatch z) h
 cases r with
 |exc e1 e2=>exact fin e1 rfl (I.hok _ _ e2).1 (.inl rfl)
 |excF e1 e2 e3 e4 e5=>exact fin e1 rfl (I.hok _ _ e2).1 (.inr ⟨_,_,rfl,I.hok _ _ e3⟩)
theorem B3{Q:aC->b_->Prop}(I:L2.Inv X pins σ H s)(Z:q_ X.K (.type "NoneType") cv=ar dV)(h:∀tk,Q (.bool dV) {s with toks:=tk}):
  ee (fc X.prog X.w) A (call (.builtin "isinstance") [.none,cv]) Q Ex s:=MD O9 I.kIn pa Z (fun z=>nomatch z) h
theorem ye{q:Pos}{f:Str->Bool}(A:fV X.K=c_)(B:X.mg "isinstance"=none)(y:SE X E e m)(R:PE X ec (tC vc))(P:∀u,RelV vc u->u=cv)(F:q_ X.K (.type "NoneType") cv=ar dV)
  (z:∀n∈aX,∀C,ErrAt X.K n C->q_ X.K (.ref C) cv=ar (f n)) (G:Gl X "isinstance":=by rfl)
  (hs:eb [e,ec] X.env=[(dV,h9 e X.env),(dV,h9 ec X.env)]:=by rfl) (Z:eb [ec] X.env=[(dV,h9 ec X.env)]:=by rfl):
  SE X E (.Call (.Name "isinstance" p) [e,ec] [] pos) (fun ρ=>do let x<-m ρ;uV f x):=by
 have Y:cR X (.builtin "isinstance") (fun xs H Q=>∃x ι d,xs=[x,vc]/\RelD X.K ι H d x/\((d= .non/\Q (.bl dV) H)\/∃n ds,d= .exc n ds/\n∈aX/\Q (.bl (f n)) H)):=by
  intro pins s σ H xs us Q I r h;obtain⟨x,ι,d,rfl,N,w⟩:=h;obtain⟨u,o,rfl,L,U⟩:=vals2 r;cases P _ U;rcases w with⟨rfl,q⟩|⟨n,ds,rfl,hn',q⟩
  ·cases N.non_inv;cases (show u=i0 from L);exact B3 I F fun T=>⟨.bl _,H,I.tok T,rfl,q⟩
  ·exact Ec I N L A hn' (fun C J=>z n hn' C J) fun T=>⟨.bl _,H,I.tok T,rfl,q⟩
 refine PE.imp (iF Y G B (by decide+kernel) (dj y (dj R gy Z) (by rw[hs,Z])) (by decide) (by decide) (by rw[hs,Z]) (by rw[Z];rfl)) fun σ H Q h=>?_
 obtain⟨ι,S,ρ,rep,re,c⟩:=h;refine⟨ι,S,ρ,rep,re,ak (ah c) fun x O S1 t e1 rep1 c1 v r=>?_⟩;refine⟨v,O,x,rfl,r,?_⟩;cases x with
 |non=>exact .inl ⟨rfl,ai c1 .refl rep1 _ (.bl _)⟩
 | exc n ds=>
  dsimp only[uV]at c1;by_cases hn':n∈aX
  ·rw[if_pos hn']at c1;exact .inr ⟨n,ds,rfl,hn',ai c1 .refl rep1 _ (.bl _)⟩
  ·rw[if_neg hn']at c1;exact(ag c1).elim
 |_=>exact(ag c1).elim
theorem d4{m:TM}{e:Expr}{y:Str}{p q pos:Pos}(S:fV X.K=c_)(T:y∈aX)(G:Mod X.K X.mg X.base)(Q:X.mg "isinstance"=none)(O:SE X E e m)(P:Gl X "isinstance":=by rfl)(U:Gl X y:=by rfl)(R:(y==("__debug__":Str))=false:=by decide)
  (hs:eb [e,.Name y q] X.env=[(dV,h9 e X.env),(dV,h9 (.Name y q) X.env)]:=by rfl) (Y:eb [.Name y q] X.env=[(dV,h9 (.Name y q) X.env)]:=by rfl):
  SE X E (.Call (.Name "isinstance" p) [e,.Name y q] [] pos) (fun ρ=>do let x<-m ρ;uV (fun n=>cq n y) x):=by
 obtain⟨C,Z⟩:=jU S T;refine ye (q:=q) (vc:=.ref C) (cv:=.ref C) S Q O (xC U (L4 G.kin G.glob Z.ns) rfl R) (fun u z=>z) Z.nn (fun n L J W=>?_) P hs Y;obtain⟨N,e1,e2,_⟩:=W.sub y T;rw[Z.ns]at e1;cases e1;exact e2
theorem Ed(T:fV X.K=c_)(S:X.mg "isinstance"=none)(U:X.mg "ValueError"=none)(Q:SE X E e m)(R:Gl X "isinstance":=by rfl)(Y:Gl X "ValueError":=by rfl)
  (hs:eb [e,.Name "ValueError" q] X.env=[(dV,h9 e X.env),(dV,h9 (.Name "ValueError" q) X.env)]:=by rfl) (Z:eb [.Name "ValueError" q] X.env=[(dV,h9 (.Name "ValueError" q) X.env)]:=by rfl):
  SE X E (.Call (.Name "isinstance" p) [e,.Name "ValueError" q] [] pos) (fun ρ=>do let x<-m ρ;uV (fun _=>c_) x):=
 ye (q:=q) (vc:=.ty "ValueError") (cv:=.type "ValueError") T S Q (og Y U (by decide+kernel) rfl) (fun u z=>z) (G1 T) (fun n P O W=>W.ve) R hs Z
end
abbrev jb(ql:Str)(scope:Scope)(f c':dt)(cl:List (Str×dt))(s:b_):Env:=W.envX ql scope s.heap.objs.size f (.ref c') cl
def rO(P:e_)(w:f')(K:d_)(mg:Str->Option aC)(base:gd)(N:List Str)(ql:Str)(scope:Scope)(f c':dt)(cl:List (Str×dt))(A:h_)(outer:List Env)(s:b_)(H:Hp)(Ek:XK):Cx where
 prog:=P
 w:=w
 K:=K
 mg:=mg
 base:=base
 A:=A.deeper (jb ql scope f c' cl s)
 N:=N
 s₀:=s
 H₀:=H
 env:=jb ql scope f c' cl s
 outer:=outer
 stack:=jb ql scope f c' cl s::outer
 ex:=[]
 calm:=c_
 fn:=fun _=>dV
 pn:=[]
 xe:=fun e s'=>ee (fc P w) (A.deeper (jb ql scope f c' cl s)) (Qi (jb ql scope f c' cl s) e) (fun _ s''=>kz P w outer H s Ek e s'') (fun e' s''=>kz P w outer H s Ek e' s'') s'
section
variable {P:e_}{w:f'}{K:d_}{mg:Str->Option aC}{base:gd}{N:List Str}{ql:Str}{scope:Scope}{f c':dt}{cl:List (Str×dt)}{params:PU}{body:Expr}{pm ctv:aC}
theorem gI:Leaves (rO P w K mg base N ql scope f c' cl A outer s H Ek) Ek:=⟨rfl,rfl,rfl,fun _ _ h=>h,PassesOwn.leaving⟩
structure Caps(base:gd)(scope:Scope)(cl:List (Str×dt))(N:List Str)(vs:List V):Prop where
 kind:scope.kind= .function
 nocell:∀y∈scope.names,y.2≠ .cell
 co:scope.isCoroutine=dV
 gen:scope.isGenerator=dV
 inj:∀x y c,cl.lookup x=ar c->cl.lookup y=ar c->x=y
 has:∀x,scope.names.lookup x=ar .free->∃c,cl.lookup x=ar c
 cell:∀x c,cl.lookup x=ar c->∃v,base.IsCell c v
 len:vs.length=N.length
 val:∀(i:Nat) (x:Str) (v:V),N[i]? =ar x->vs[i]? =ar v->scope.names.lookup x=ar .free/\∃c u,cl.lookup x=ar c/\RelV v u/\base.IsCell c (ar u)
def HY(K:d_)(c':dt)(ql:Str)(ds:List D)(vs:List V)(m:TM):Hp->VK->XK->Prop:=fun H Q Ek=>
 ∃ ι S,Rep K ι H S/\H c'=ar (.ext (mI ql c'))/\RelDs K ι H ds vs/\cont K (ue K Ek) (m (ds.map ar)) ι S H (jL K Q)
theorem gp{h h':gd}(x:h.IsCell c v)(k:∀b o,h.get? b=ar o->h'.get? b=ar o):h'.IsCell c v:=let ⟨o,e,r⟩:=x;⟨o,k _ _ e,r⟩
theorem uW:∀{ds:List D} {vs:List V},RelDs K ι H ds vs->RelE K ι H (ds.map ar) (vs.map ar)
 |_,_,.nil=>.nil
 |_,_,.cons r t=>.cons (fun d z=>by cases z;exact⟨_,rfl,r⟩) (uW t)
theorem B4(ho:base.get? f=ar (x_ "<lambda>" ql params body scope cl pm c' ctv))(Y:Caps base scope cl N vs)
  (X:Qw (Rh "<lambda>" ql params body scope cl pm (.ref c') ctv) ⟨[],[]⟩=a_ [])
  (T:∀(A:h_) (outer:List Env) (s:b_) (H:Hp) (L:XK),Room k (A.deeper (jb ql scope f c' cl s))->SE (rO P w K mg base N ql scope f c' cl A outer s H L) (ue K L) body m):
  LamOk P w K mg base (k+1) f (HY K c' ql ds vs m):=by
 refine⟨⟨_,_,ho,rfl⟩,fun A outer s H Q L E Z l=>?_⟩;obtain⟨ι,S,rep,C,rd,c⟩:=l;have bk:∀b o,base.get? b=ar o->s.heap.get? b=ar o:=fun b o e=>(Z.bs b o e).1;have h:s.heap.CodeRec (.ref c') ql:=(Z.hok _ _ C).1;refine W.kla_callFunE E.depth (bk _ _ ho) rfl Y.co Y.gen rfl h ?_;rw[X];refine LD (wpAny_newFunctionEnv Y.nocell (fun y hy=>absurd hy (by simp)) (fun h1 g d=>?_) Y.kind)
 have O:∀b o,s.heap.get? b=ar o->h1.get? b=ar o:=fun b o e=>(d.2 b (LQ (LK e))).trans (LB _ e);refine⟨(Z.mod.nolimit.keeps bk).keeps O,?_⟩;show r7 _ _ (.expr body (jb ql scope f c' cl s)) _ _;refine W.kla_codeExpr ?_;have U:∀b:dt,b∉([]:List dt):=fun b z=>by cases z
 have t:∀x,scope.names.lookup x≠ar .cell:=fun x e=>Y.nocell _ (a7 e) rfl;have I:L2.Inv (rO P w K mg base N ql scope f c' cl A outer s H L) [] (vs.map ar) H {s with heap:=h1,toks:=s.toks+0}:=
  ⟨⟨Z.mod,Y.kind,rfl,rfl,LF _,Y.inj,(fun x R=>by
    rcases R with R|R
    ·exact absurd R (t x)
    ·exact Y.has x R),(fun _ _ z=>Bool.noConfusion z),fun _=>E.hd,Around.frames_deeper Z.frames,.inr ⟨rfl,rfl⟩,fun b z=>absurd z (U b),Z.bs,Z.bsz,fun b _ _=>U b,fun b z=>absurd z (U b),Z.funs,Z.frf⟩,
   rfl,Z.bare,Un.kept O,⟨_,g,fun i x v j G h3=>(by
    have B:vs[i]? =ar v:=by
     rw[L3]at G;cases q:vs[i]? with
     |none=>rw[q]at G;cases G
     |some a=>rw[q]at G;cases G;rfl
    obtain⟨hf,F,u,e1,e2,e3⟩:=Y.val i x v j B;exact⟨u,e2,.inr ⟨.inr hf,F,e1,gp (gp e3 bk) O⟩⟩)⟩,
   (fun x F e=>let ⟨v,z⟩:=Y.cell x F e;⟨v,gp (gp z bk) O⟩),Z.hok.fresh (LF _),(fun x F e=>let ⟨v,o,z,_⟩:=Y.cell x F e;(Z.bs _ _ z).2),
   (fun p hp=>absurd hp (by simp[rO])),Z.hok.kept O,by rw[LC];exact Y.len⟩
 refine Mb (T A outer s H L (E.deeper _) [] _ (vs.map ar) H Q I ⟨ι,S,ds.map ar,rep,uW rd,c⟩) (fun u s' n=>?_) fun e s' n=>n;obtain⟨v,H',J,r,q⟩:=n;exact⟨v,H',J.os,J.bare,J.base,J.hok,r,q⟩
end
theorem RelE.unset{K:d_}{ι:List dt}{H:Hp}:∀{ρ:S3.aF} {σ:L2.St} (i:Nat),RelE K ι H ρ σ->RelE K ι H (ρ.set i none) (σ.set i none)
 |_,_,_,.nil=>.nil
 |_,_,0,.cons _ t=>.cons (fun d' z=>by cases z) t
 |_,_,i+1,.cons q t=>.cons q (RelE.unset i t)
def B5(jn jy:Nat)(c:M D)(ρ:S3.aF):M Out:=fun S=>match c S with
 |some (.ok _,S')=>ar (.ok (.nx ρ),S')
 |some (.ex (.exc n ds),S')=>if n∈aX then ar (.ok (.nx (((ρ.set jn (ar (.exc n ds))).set jy (ar (.exc n ds))).set jn none)),S')else none
 |_=>none
open Classical in
def uX(i jn jy:Nat)(f:D)(c:M D):cT:=fun ρ=>if ρ[i]? =ar (ar f)then B5 jn jy c ρ else M.fail
section
variable {X:Cx}{E:XD}{k i jn jy:Nat}{a c':dt}{ql:Str}{ds:List D}{vs:List V}{m:TM}{x n y:Str}{p cpos epos np p1 p2 p3 hpos tpos:Pos}
theorem G5(B:X.stack=X.env::X.outer)(J:X.env.frame=ar X.env.locals)(L:LamOk X.prog X.w X.K X.mg X.base k a (HY X.K c' ql ds vs m))(hr:Room k X.A)(hN:X.N.Nodup)(f:fV X.K=c_)(G:Mod X.K X.mg X.base)(hi:X.N[i]? =ar x)(hv:yR X.env.scope x)
  (I:X.N[jn]? =ar n) (s:X.N[jy]? =ar y) (t:X.env.scope.names.lookup n=ar .local) (F:X.env.scope.names.lookup y=ar .local) (hg:Gl X "WebError")
  (hd:(x==("__debug__":Str))=false:=by decide) (j:(x==("__classdict__":Str))=false:=by decide) (o:(n==("__debug__":Str))=false:=by decide) (P:(n==("__classdict__":Str))=false:=by decide)
  (l:k7 (.Call (.Name x p) [] [] cpos) none epos.line X.env=a_ false:=by rfl) (Q:k7 (.Name n p2) (ar (.Name y p1)) p3.line X.env=a_ false:=by rfl):
  SS X E (.Try [.Expr (.Call (.Name x p) [] [] cpos) epos] [.ExceptHandler (ar (.Name "WebError" np)) (ar n) [.Assign [.Name y p1] (.Name n p2) p3] hpos] [] [] tpos) (uX i jn jy (.fn a c' ql ds vs) (m (ds.map ar))):=by
 obtain⟨CW,b⟩:=jU f (show("WebError":Str)∈aX from .head _);refine PS.imp (zY B J L hr hN hi hv I s t F hg (L4 G.kin G.glob b.ns) hd j (by decide) o P l Q) fun T σ H h=>?_
 obtain⟨ι,S,ρ,rep,re,r,S',e,q⟩:=h;have e:uX i jn jy (.fn a c' ql ds vs) (m (ds.map ar)) ρ S=ar (r,S'):=e;unfold uX at e;by_cases hρ:ρ[i]? =ar (ar (.fn a c' ql ds vs))
 case neg=>rw[if_neg hρ]at e;cases e
 rw[if_pos hρ]at e;unfold B5 at e;obtain⟨v,e1,rv⟩:=re.get hρ;cases rv with
 | fn hc' rds=>
  refine⟨e1,ι,S,rep,hc',rds,?_⟩;cases z:m (ds.map ar) S with
  |none=>rw[z]at e;cases e
  | some pr=>
   obtain⟨r1,S1⟩:=pr;rw[z]at e;cases r1 with
   |ok d=>
    cases e;exact⟨_,_,z,fun Z U R rep1 v' _=>q Z U R rep1 σ (re.later rep R)⟩
   | ex xd=>
    cases xd with
    | exc nm es=>
     dsimp only at e;split at e
     case isFalse=>cases e
     case isTrue hnm=>
     cases e;refine⟨_,_,z,fun Z U R rep1 cls od rx=>?_⟩;obtain⟨n2,b6,C,e2,W,rfl,u⟩:=rx;cases e2;obtain⟨C2,g⟩:=jU f hnm;have:=g.ns;rw[W]at this;cases this;obtain⟨D2,f1,f2,f3⟩:=g.sub "WebError" (.head _);rw[b.ns]at f1;cases f1;refine⟨C,rfl,by rw[f3];simp[cq],fun O Y=>?_⟩
     have xe:Ext Z U Z (upd U O (.ext (nX C O od))):=dU Y;have c:RelD X.K Z (upd U O (.ext (nX C O od))) (.exc nm es) (.ref O):=by
      rcases u with⟨rfl,rfl⟩|⟨dx,fs,rfl,g1,g2,g3⟩
      ·exact .exc W aM
      ·exact .excF W aM (by rw[aB (aE g1 Y)];exact g1) g2 (g3.later rep1 xe)
     exact q Z _ (R.trans xe) (ff rep1 Y) _ (RelE.unset jn ((((re.later rep R).later rep1 xe).set c jn).set c jy))
    |_=>cases e
end
def tD:List Nat->S3.aF->Option (List D)
 |[],_=>ar []
 |j::r,ρ=>match ρ[j]? with
  |some (ar d)=>(tD r ρ).map (d::·)
  |_=>none
theorem tE{K:d_}{ι:List dt}{H:Hp}{ρ:S3.aF}{Z:L2.St}(Y:RelE K ι H ρ Z):∀{js:List Nat} {ds:List D},tD js ρ=ar ds->∃vs,RelDs K ι H ds vs/\vs.length=js.length/\∀(i j:Nat) (v:V),js[i]? =ar j->vs[i]? =ar v->Z[j]? =ar (ar v)
 |[],ds,e=>by
  cases e;exact⟨[],.nil,rfl,fun i j v h=>by simp at h⟩
 | j ::r,ds,e=>by
  unfold tD at e;cases q:ρ[j]? with
  |none=>rw[q]at e;cases e
  | some o=>
   cases o with
   |none=>rw[q]at e;cases e
   | some d=>
    rw[q]at e;cases q2:tD r ρ with
    |none=>rw[q2]at e;cases e
    |some es=>
     rw[q2]at e;cases e;obtain⟨v,X,U⟩:=Y.get q;obtain⟨vs,g1,g2,g3⟩:=tE Y q2;refine⟨v::vs,.cons U g1,by simp[g2],fun i T S e1 e2=>?_⟩
     cases i with
     |zero=>simp at e1 e2;subst e1 e2;exact X
     |succ i=>exact g3 i T S (by simpa using e1) (by simpa using e2)
structure LamScope(X:Cx)(scope:Scope)(N3:List Str)(js:List Nat):Prop where
 kind:scope.kind= .function
 nocell:∀y∈scope.names,y.2≠ .cell
 co:scope.isCoroutine=dV
 gen:scope.isGenerator=dV
 free:∀y∈scope.names,y.2= .free->X.env.kindOf y.1=ar .cell\/X.env.kindOf y.1=ar .free
 len:js.length=N3.length
 ix:∀(i:Nat) (x:Str) (j:Nat),N3[i]? =ar x->js[i]? =ar j->X.N[j]? =ar x/\scope.names.lookup x=ar .free
def Ji(fs:Scope)(N:List Str)(scope:Scope)(N3:List Str)(js:List Nat):Bool:=
 (scope.kind== .function) && scope.names.all (fun y=>y.2 != .cell) && !scope.isCoroutine && !scope.isGenerator &&
  scope.names.all (fun y=>y.2 != .free||(fs.names.lookup y.1==ar .cell||fs.names.lookup y.1==ar .free)) && (js.length==N3.length) &&
  (N3.zip js).all (fun p=>N[p.2]? ==ar p.1 && scope.names.lookup p.1==ar .free)
theorem B6{X:Cx}(fs:Scope)(N:List Str)(L:∀x,X.env.kindOf x=fs.names.lookup x)(R:X.N=N)(h:Ji fs N scope N3 js=c_):LamScope X scope N3 js:=by
 unfold Ji at h;simp only[j3,z3,beq_iff_eq,bne_iff_ne,E3,L_]at h;obtain⟨⟨⟨⟨⟨⟨U,S⟩,W⟩,Y⟩,P⟩,O⟩,T⟩:=h;refine⟨U,S,W,Y,fun y Q e=>?_,O,fun i x j e1 e2=>?_⟩
 ·rw[L];exact(P y Q).resolve_left fun z=>z e
 ·have Z:(N3.zip js)[i]? =ar (x,j):=N0.mpr ⟨e1,e2⟩;have:=T _ (Mf Z);rw[R];exact this
def yf(K:d_)(R:D->M D->List D->M D)(a c':dt)(ql:Str)(ds:List D)(vs:List V)(m:TM):Sp:=fun us H Q _=>
 ∃ ι S rest es,us= .ref a::rest/\Rep K ι H S/\H c'=ar (.ext (mI ql c'))/\RelDs K ι H ds vs/\RelDs K ι H es rest/\cont K bx (R (.fn a c' ql ds vs) (m (ds.map ar)) es) ι S H (jL K Q)
structure RefX(P:e_)(w:f')(K:d_)(mg:Str->Option aC)(k k0:Nat)(x:Str)(ps:List Str)(R:D->M D->List D->M D):Prop where
 ex:∃fr fd,mg x=ar (.ref fr)/\D_ K (.ref fr)=c_/\Binds K fd ps []/\∀base,Mod K mg base->∀a c' ql ds vs m,LamOk P w K mg base k0 a (HY K c' ql ds vs m)->FnOk P w K mg base (kz P w) k fr fd ps (yf K R a c' ql ds vs m)
abbrev tF(js:List Nat)(ms:aF->M (List D))(m:TM)(R:M D->List D->M D):TM:=fun ρ=>match tD js ρ with
 |some ds=>(do let es<-ms ρ;R (m (ds.map ar)) es)
 |none=>M.fail
theorem kB{h Z:gd}:∀{l:List Env},h.FunFrames base l->(∀b∈jG l,Z.get? b=none)->h.FunFrames Z l
 |[],_,_=>trivial
 |env::rest,⟨hk,⟨L,o,hf,_,ho,hd⟩,hr⟩,hn=>by
  rw[uS rest L env hf]at hn;exact⟨hk,⟨L,o,hf,hn L (.head _),ho,hd⟩,kB hr fun b Y=>hn b (.tail _ Y)⟩
abbrev fi(X:Cx)(H:Hp)(h:gd):Heap:=W.hideAll (kq h H) (jG X.stack)
theorem jc{X:Cx}{H:Hp}{h:gd}(e:h.get? b=ar o)(n:H b=none)(Z:b∉jG X.stack):(fi X H h).get? b=ar o:=W.hideAll_get _ (k9 e n) Z
section
variable {X:Cx}{pins:List (dt×Obj)}{σ:L2.St}{H:Hp}{s:b_}
theorem lN(I:L2.Inv X pins σ H s):∀b o,X.base.get? b=ar o->(fi X H s.heap).get? b=ar o:=fun b o e=>by
 obtain⟨Z,Y⟩:=I.bs b o e;refine jc Z Y fun z=>?_;have:=(I.stack.mem z).1;rw[e]at this;cases this
theorem gJ(I:L2.Inv X pins σ H s):Mod X.K X.mg (fi X H s.heap):=
 ⟨I.mod.kin.keeps (lN I),I.mod.glob.keeps (lN I),let ⟨mb,h1,h2⟩:=I.mod.blt;⟨mb,h1.keeps (lN I),h2⟩,I.mod.nolimit.keeps (lN I)⟩
theorem yg(I:L2.Inv X pins σ H s):L2.aF X.prog X.w X.K X.mg (fi X H s.heap) X.A X.stack s H:=
 ⟨I.ok.frames,gJ I,fun b o e=>su (W.of_hideAll _ e),by rw[W.hideAll_size,mD];exact LF _,kB I.stack fun b Z=>W.hideAll_none _ Z,I.stkFree,I.hok,I.bare⟩
theorem yh(I:L2.Inv X pins σ H s)(Z:∀x,X.fn x=c_)(e:X.env.cells.lookup x=ar c)(h:s.heap.IsCell c v):(fi X H s.heap).IsCell c v:=by
 obtain⟨o,Y,W⟩:=h;refine⟨o,jc Y (I.freeC x c e) fun z=>?_,W⟩;rcases LY.mp (I.stkSub c z)with z|z
 ·exact I.cne x c e z
 ·obtain⟨_,U,q,_⟩:=I.ok.funs.mem z;exact absurd (LK q) (Pc.mpr (I.ok.cab x c (Z x) e))
end
section
variable {X:Cx}{x xl ql:Str}{k k0:Nat}{ps N3:List Str}{js:List Nat}{R:D->M D->List D->M D}{R':M D->List D->M D}{params:PU}{body:Expr}{scope:Scope}{lpos p pos:Pos}{es:List Expr}{ms:aF->M (List D)}{m:TM}{c P:dt}
theorem B7(d:RefX X.prog X.w X.K X.mg k (k0+1) x ps R)(hR:∀f c es,R f c es=R' c es)(hr:Room k X.A)(a6:∀x,X.fn x=c_)(d1:xl∈bH)(ht:l6 X.K xl=ar (c,P))(a3:X.env.code= .ref c)(hq:X.env.qual++"<lambda>"=ql)(e0:ql=xl++".<locals>.<lambda>")
  (B:BaseL X.K X.mg X.base) (TI:mU X.K) (c3:Rg params X.env=([],[])) (g:LamScope X scope N3 js) (ha:SA X bx es ms)
  (a0:∀(T:dt) (cl:List (Str×dt)) (pm C:aC),Qw (Rh "<lambda>" ql params body scope cl pm (.ref T) C) ⟨[],[]⟩=a_ [])
  (b5:∀(base:gd),Mod X.K X.mg base->∀(f T:dt) (cl:List (Str×dt)) (A:h_) (outer:List Env) (s:b_) (H:Hp) (Ek:XK),Room k0 (A.deeper (jb ql scope f T cl s))->SE (rO X.prog X.w X.K X.mg base N3 ql scope f T cl A outer s H Ek) (ue X.K Ek) body m)
  (hg:Gl X x:=by rfl) (f3:(x==("__debug__":Str))=false:=by decide)
  (he:eb (.Lambda params body scope lpos::es) X.env=(dV,h9 (.Lambda params body scope lpos) X.env)::eb es X.env:=by rfl) (c7:(nC pos (eb es X.env)).any (·.1)=false:=by rfl):
  SE X bx (.Call (.Name x p) (.Lambda params body scope lpos::es) [] pos) (tF js ms m R'):=by
 intro pins s σ H Q I h;obtain⟨ι,S,ρ,rep,re,b⟩:=h;obtain⟨fr,fd,hm,hk,hb,F⟩:=d.ex;have b:cont X.K bx (tF js ms m R' ρ) ι S H (jL X.K Q):=b;unfold tF at b;cases hcap:tD js ρ with
 |none=>rw[hcap]at b;exact(ag b).elim
 |some ds=>
 rw[hcap]at b;dsimp only at b;obtain⟨vs,e4,b6,e7⟩:=tE re hcap;have l:∀y∈scope.names,y.2= .free->∃a,X.env.cells.lookup y.1=ar a:=fun y hy e=>I.ok.has y.1 (g.free y hy e);refine Nj (iX I hg hm ?_ f3);refine O3 (h₀:=X.base) I.ok.mod.kin hk (QH (w5 d1 ht a3 hq e0 B TI (fe scope X.env l) c3 I rep.tab fun f T C pm H1 s1 I1 a5 d2 f5 b4 E h1 hT=>?_) he) he c7;have x1:Ext ι H ι H1:=⟨⟨[],by simp⟩,fun a o e n t=>⟨E a o e t,n⟩⟩
 have rep1:Rep X.K ι H1 S:=⟨rep.nd,rep.len,fun kk a xs e1 e2=>let ⟨ws,g1,g2⟩:=rep.get kk a xs e1 e2;⟨ws,E _ _ g1 (by intro _ z;cases z),g2.later rep x1⟩,hT⟩
 have e3:L2.Inv X ((f,x_ "<lambda>" ql params body scope (iI X.env.cells scope.names []) pm T C)::pins) σ H1 s1:=I1.pins_of fun q Y=>by
  rcases LY.mp Y with rfl|Y
  ·exact⟨d2,f5,j7 (LQ (LV I.lt a5)),I.nofs a5,fun v z=>by cases z⟩
  ·exact I1.pin q (LU _ Y)
 refine de (ha pos _ s1 σ H1 (fun L N=>∃U S2 O,Ext ι H1 U N/\Rep X.K U N S2/\RelDs X.K U N O L/\cont X.K bx (R' (m (ds.map ar)) O) U S2 N (jL X.K Q)) e3 ⟨ι,S,ρ,rep1,re.later rep x1,ak (ah (eR b x1)) fun O U S2 N e2 rep2 c2 L r2=>⟨U,S2,O,e2,rep2,r2,c2⟩⟩) fun us s2 e5=>?_;obtain⟨L,N,a4,rv,U,S2,O,x2,rep2,r2,c2⟩:=e5;have J:L2.Inv X pins σ N s2:=a4.pins_of fun q Y=>a4.pin q (LU _ (.tail _ Y));refine⟨J.kIn,?_⟩;show ee _ _ (call (.ref fr) (.ref f::us)) _ _ _;obtain⟨po,pn,pl,pf,_⟩:=a4.pin (f,_) (LU _ (.head _));have f6:N T=ar (.ext (mI ql T)):=(x2.oth T _ b4 (rep1.notIn b4 (by intro _ z;cases z)) (by intro _ z;cases z)).1
 have nf:f∉jG X.stack:=fun z=>by
  rcases LY.mp (J.stkSub f z)with z|z
  ·exact pl z
  ·exact pf z
 have d3:=oh (cells:=X.env.cells) scope.names [] l (fun _ z=>nomatch z);have Z:∀y a,(iI X.env.cells scope.names []).lookup y=ar a->X.env.cells.lookup y=ar a:=fun y a e=>d3 _ (lookup_mem e);have cp:Caps (fi X N s2.heap) scope (iI X.env.cells scope.names []) N3 vs:=by
  refine⟨g.kind,g.nocell,g.co,g.gen,fun y z a e1 e2=>I.ok.inj y z a (Z y a e1) (Z z a e2),fun y e=>mem_lookup (gz scope.names [] (.inl (a7 e))),fun y a e=>?_,by rw[b6];exact g.len,fun i y v e1 e2=>?_⟩
  ·obtain⟨v,z⟩:=J.cell y a (Z y a e);exact⟨v,yh J a6 (Z y a e) z⟩
  ·have d0:i<js.length:=by rw[<-b6];exact(LH.mp e2).1
   obtain⟨j,hj⟩:∃j,js[i]? =ar j:=⟨_,LG d0⟩;obtain⟨g1,g2⟩:=g.ix i y j e1 hj;have hv:=e7 i j v hj e2;have b3:=g.free (y,.free) (a7 g2) rfl;have b1:yR X.env.scope y:=by
    rcases b3 with z|z
    ·exact .inr (.inl z)
    ·exact .inr (.inr z)
   obtain⟨mm,j2,hl⟩:=J.loc;obtain⟨u,ru,lk⟩:=hl j y v g1 hv b1;refine⟨g2,?_⟩;rcases lk with⟨z,_⟩|⟨_,a,ea,hca⟩
   ·have z':X.env.kindOf y=ar .local:=z;rcases b3 with w'|w'
    ·have w2:X.env.kindOf y=ar .cell:=w';rw[z']at w2;cases w2
    ·have w2:X.env.kindOf y=ar .free:=w';rw[z']at w2;cases w2
   ·obtain⟨a2,b2⟩:=mem_lookup (gz (cells:=X.env.cells) scope.names [] (.inl (a7 g2)));have:=Z y a2 b2;rw[ea]at this;cases this;exact⟨a,u,b2,ru,yh J a6 ea hca⟩
 have LO:LamOk X.prog X.w X.K X.mg (fi X N s2.heap) (k0+1) f (HY X.K T ql ds vs m):=B4 (jc po pn nf) cp (a0 T _ pm C) fun A outer s H Ek e6=>b5 _ (gJ J) f T _ A outer s H Ek e6;have G:=F (fi X N s2.heap) (gJ J) f T ql ds vs m LO;have sp:yf X.K R f T ql ds vs m (.ref f::L) N Q E0:=⟨U,S2,L,O,rfl,rep2,f6,(e4.later rep x1).later rep1 x2,r2,by rw[hR];exact c2⟩
 have hlen:(er f::us).length=ps.length:=by
  have:=G.len _ _ _ _ sp;rw[<-this,Mg,Mg,rv.length]
 refine NQ (M7 (G.run X.A X.stack s2 N ⟨.ref f::us,[]⟩ (.ref f::us) (.ref f::L) Q E0 hr (yg J) (by have:=hb s2 (.ref f::us) J.kIn (by rw[Mt];exact hlen);rw[Mt]at this;exact this) (.cons rfl rv) sp) fun r s' Y=>?_)
 cases r with
 |error e=>obtain⟨_,_,_,_,_,_,_,_,_,_,_,_,_,_,_,z⟩:=Y;exact hO z
 |ok fl=>
  cases fl with
  |ret u=>exact J.after Y
  |next=>exact hO Y
  |brk=>exact hO Y
  |cont=>exact hO Y
end
def jV(K:d_):List Addr:=bH.filterMap fun y=>(l6 K y).map (·.2)
theorem z5{K:d_}{y:Str}{c P:dt}(Z:y∈bH)(e:l6 K y=ar (c,P)):P∈jV K:=M8.mpr ⟨y,Z,by rw[e];rfl⟩
theorem uY{K:d_}{P:dt}(h:P∈jV K):∃y c,y∈bH/\l6 K y=ar (c,P):=by
 obtain⟨y,Z,e⟩:=M8.mp h;cases q:l6 K y with
 |none=>rw[q]at e;cases e
 |some p=>rw[q]at e;cases e;exact⟨y,p.1,Z,q⟩
theorem Ee{K:d_}{mb:Str->Option aC}{sp:Sp}{Z:b_}{vs:List aC}
  (KX:K.In Z.heap) (nt:RK K=c_) (f:Z.heap.Ns gg mg) (g:Z.heap.Ns w7 mb) (a3:∀x:Str,x≠"__name__"->mb x=kS x) (B:Z.heap.NoLimit) (hg:Z.gens= #[])
  (a6:∃bm I,mg "__builtins__"=ar (.ref bm)/\bm≠w7/\Z.heap.get? bm=ar I/\I.cls= .type "module"/\I.dict=ar w7/\I.data= .plain)
  (U:∀y∈bH,∀c Q,l6 K y=ar (c,Q)->Qc Z.heap c Q/\Z.heap.get? Q=ar (y_ #[]))
  (J:Z.heap.get? a=ar {cls:=.type "list",data:=.seq vs.toArray}) (hi:m3 vs ns) (hl:ns.length<=sizeLine) (hr:Room k y9)
  (F:∀base:gd,Mod K mg base->BaseL K mg base->FnOk P w K mg base (kz P w) k fa fd [x] sp) (O:∀(s:b_) (u:aC),LI s fd ⟨[u],[]⟩ [(x,u)])
  (j:∀H:Hp,TabsOk K H->Do K H a (ns.map V.int)->sp [.ref a] H (fun v _=>v= .bl c_) fun _ _ _=>False):
  r7 (fc P w) y9 (.call (.ref fa) ⟨[.ref a],[]⟩) (fun r s'=>r= .ok (.ret (.bool c_))/\OldK Z.heap s'.heap/\s'.os=Z.os/\A_ s'.gens) Z:=by
 have rv:=kb hi;have X:∀Q∈jV K,Z.heap.get? Q=ar (y_ #[]):=fun Q hQ=>let ⟨y,c,R,e⟩:=uY hQ;(U y R c Q e).2;have aT:a∉jV K:=fun z=>by
  have:=X a z;rw[J]at this;cases this
 let H:Hp:=fun b=>if b∈jV K then ar (.tbl #[])else if b=a/\K.lookup a=none then ar (.frz {cls:=.type "list",data:=.seq vs.toArray} (.lst (ns.map V.int)))else none;have l:∀b∈jV K,H b=ar (.tbl #[]):=fun b z=>if_pos z;have G:∀b,b∉jV K->H b=if b=a/\K.lookup a=none then ar (.frz {cls:=.type "list",data:=.seq vs.toArray} (.lst (ns.map V.int)))else none:=fun b z=>if_neg z;have free:∀{b:dt} {o:Obj},Z.heap.get? b=ar o->o≠y_ #[]->(o.cls≠ .type "list"\/K.lookup b=ar o)->H b=none:=fun{b o} e n T=>by
  have z:b∉jV K:=fun z=>by
   have:=X b z;rw[e]at this;exact n (L5 this)
  rw[G b z,if_neg];rintro⟨rfl,kn⟩;rcases T with T|T
  ·rw[J]at e;cases e;exact T rfl
  ·rw[kn]at T;cases T
 have L:∀{b:dt} {o:Obj},K.lookup b=ar o->o≠y_ #[]:=fun{b o} e z=>by
  have i:=Ml.mp nt (b,o) (W.mem_of_lookupK e);subst z;exact absurd (show dV=c_ from i) MP
 have E:fK P w H Z.heap:=fun b u e=>by
  by_cases z:b∈jV K
  ·rw[l b z]at e;cases e;exact X b z
  ·rw[G b z]at e;by_cases q:b=a/\K.lookup a=none
   ·rw[if_pos q]at e;cases e;obtain⟨rfl,_⟩:=q;exact⟨J,by rw[LC];exact hl,vs,_,rv,J⟩
   ·rw[if_neg q]at e;cases e
 have Y:∀{b:dt} {o:Obj},Z.heap.get? b=ar o->o≠y_ #[]->(o.cls≠ .type "list"\/K.lookup b=ar o)->(kq Z.heap H).get? b=ar o:=fun e n T=>k9 e (free e n T);have N:∀{b:dt} {m:Str->Option aC},Z.heap.Ns b m->(kq Z.heap H).Ns b m:=fun{b m} ⟨o,es,ep,e,d,r⟩=>by
  have z:H b=none:=by
   by_cases zt:b∈jV K
   ·have:=X b zt;rw[e]at this;cases this;cases d
   ·rw[G b zt,if_neg];rintro⟨rfl,_⟩;rw[J]at e;cases e;cases d
  exact⟨o,es,ep,k9 e z,d,r⟩
 have a4:K.In (kq Z.heap H):=fun b o e=>Y (KX b o e) (L e) (.inr e);have hM:Mod K mg (kq Z.heap H):=⟨a4,N f,⟨mb,N g,a3⟩,let ⟨mc,h1,i⟩:=B;⟨mc,N h1,i⟩⟩;have hB:BaseL K mg (kq Z.heap H):=by
  refine⟨?_,fun y R c Q e=>?_⟩
  ·obtain⟨bm,I,b1,b2,b3,t,b5,b6⟩:=a6;exact⟨bm,I,b1,b2,Y b3 (fun z=>by rw[z]at t;cases t) (.inl (by rw[t];decide)),t,b5,b6⟩
  ·obtain⟨o,v2,file,tf,flags,tg,a0,text,tt,e1,A,r⟩:=(U y R c Q e).1;exact⟨o,v2,file,tf,flags,tg,a0,text,tt,Y e1 (fun z=>by rw[z]at A;cases A) (.inl (by rw[A];decide)),A,r⟩
 have e0:L2.aF P w K mg (kq Z.heap H) y9 [] Z H:=⟨rfl,hM,fun b o e=>su e,Oe (mD _ _),trivial,fun b g=>absurd (show b∈([]:List dt)from g) (by simp),E,.of_eq hg⟩
 have p:TabsOk K H:=fun y R c Q e=>⟨#[],l Q (z5 R e),trivial,fun pos cv q=>by cases q⟩
 have C:Do K H a (ns.map V.int):=by
  cases hk:K.lookup a with
  |some o=>
   have e:=KX a o hk;rw[J]at e;cases e;exact .inr ⟨_,vs.toArray,_,hk,rfl,rfl,rfl,by rw[LR,hi.length];exact hl,by simpa using rv⟩
  |none=>exact .inl ⟨_,by rw[G a aT,if_pos ⟨rfl,hk⟩]⟩
 refine M7 ((F _ hM hB).run y9 [] Z H ⟨[.ref a],[]⟩ [.ref a] [.ref a] _ _ hr e0 (O Z (.ref a)) (.cons rfl .nil) (j H p C)) fun r s' h=>?_;cases r with
 |error e=>obtain⟨_,_,_,_,_,_,_,_,_,_,_,_,_,_,_,z⟩:=h;exact hO z
 | ok fl=>
  cases fl with
  |next=>exact hO h
  |brk=>exact hO h
  |cont=>exact hO h
  | ret u=>
   obtain⟨v,H',os,bare,un,S,r',q⟩:=h;have q':v= .bl true:=q;subst q';obtain rfl:u=ri true:=r';refine⟨rfl,⟨fun b o e=>?_,fun b o e=>un.there b o e (by simp)⟩,os,bare⟩
   by_cases zt:b∈jV K
   ·obtain⟨y,c,R,et⟩:=uY zt;obtain⟨hc,hP⟩:=U y R c b et;obtain⟨more,em⟩:=un.tbls b _ (l b zt);have o2:s'.heap.get? b=ar {cls:=.none,data:=.fields (#[]++more)}:=S b _ em;rw[hP]at e;cases e;exact .inr (.inl ⟨(hc.tab hP).isCodeTable,rfl, #[],more,rfl,o2⟩)
   ·by_cases qa:b=a/\K.lookup a=none
    ·have z1:H b=ar (.frz {cls:=.type "list",data:=.seq vs.toArray} (.lst (ns.map V.int))):=by rw[G b zt,if_pos qa]
     obtain⟨e2,_⟩:=S b _ (un.frzs b _ _ z1);obtain⟨e1,_⟩:=E b _ z1;rw[e]at e1;cases e1;exact .inl e2
    ·exact .inl (un.keep b o e (by rw[G b zt,if_neg qa]) (by intro z;exact absurd (show b∈([]:List dt)from z) (by simp)) (by simp))
theorem B8{l:Rn}{YP:f'->gd->Prop}{d:RL}{K:P6->d_}{sp:f'->Sp}
  (B:l.most=ar n) (P:n<=sizeLine) (R:d.params.defaults=[]) (I:Room k y9)
  (m:∀(w:f') (h:gd),YP w h->(K w.params).In h) (z:∀w:f',RK (K w.params)=c_)
  (U:∀(w:f') (h:gd),YP w h->∀y∈bH,∀c Q,l6 (K w.params) y=ar (c,Q)->Qc h c Q/\h.get? Q=ar (y_ #[]))
  (F:∀(w:f') (Z:Str->Option aC) (S:dt) (h:gd),(K w.params).In h->h.Ns gg Z->Z d.name=ar (.ref S)->
   ∃fd:g_,(∀(s:b_) (u:aC),LI s fd ⟨[u],[]⟩ [(x,u)])/\
    ∀base:gd,Mod (K w.params) Z base->BaseL (K w.params) Z base->FnOk l.prog w (K w.params) Z base (kz l.prog w) k S fd [x] (sp w))
  (O:∀(w:f') (H:Hp) (a:dt) (ns:List Int),ns.length<=n->TabsOk (K w.params) H->Do (K w.params) H a (ns.map V.int)->sp w [.ref a] H (fun v _=>v= .bl c_) fun _ _ _=>False):
  RU q loose XP YP l.row.toRowW d [] (fun f vs=>PySem.call f vs):=by
 refine Att.attach_call B R fun w s₀ J Z i S o pm cd doc a vs ns G Y ho hd p N X hints hlen j=>?_;have L:=m w _ Y;obtain⟨fd,r,E⟩:=F w Z S _ L G.T.g N;refine Ee L (z w) G.T.g G.T.b G.T.builtins G.T.nolimit j G.T.bmain (fun y A c Q e=>U w _ Y y A c Q e) X hints (LS hlen P) I E r fun H C t=>O w H a ns hlen C t
def Jj(K:d_)(ts:List dt):Bool:=bH.all fun y=>match l6 K y with
 |some (c,Q)=>W.codeHdIn K c Q && ts.contains Q
 |none=>c_
theorem KU{K:P6->d_}{e:∀P,as=(K P).map (·.1)}{w:f'}(X:Jj (K w.params) ts=c_)(Y:(W.kmHook K as e ts).says w h):
  ∀y∈bH,∀c Q,l6 (K w.params) y=ar (c,Q)->Qc h c Q/\h.get? Q=ar (y_ #[]):=fun y Z c Q U=>by
 have:=Ml.mp X y Z;rw[U]at this;simp only[j3]at this;exact⟨W.codeHd_of_K (W.km_in_of Y) this.1,W.km_tabs_of Y Q (List.contains_iff_mem.mp this.2)⟩
def Fo(K:d_):Bool:=bH.all fun x=>bH.all fun y=>match l6 K x,l6 K y with
 |some (_,P),ar (_,Q)=>P !=Q||x==y
 |_,_=>c_
theorem G6{K:d_}(h:Fo K=c_):mU K:=fun x Y y Z c d P e1 e2=>by
 have:=Ml.mp (Ml.mp h x Y) y Z;rw[e1,e2]at this;simpa using this
def nI(N n:Nat)(m:cT):List D->M D:=oj N n (fun ρ=>mW (m ρ))
section
variable {P:e_}{w:f'}{K:d_}{mg:Str->Option aC}{base:gd}
theorem cy{x qual:Str}{X:n3}{f:dt}{T:g_}{N U:List Str}{k:Nat}{m:cT}{S:List D->M D}(F:Fun K x qual X f T)(I:mg x=ar (.ref f))(J:Binds K T U [])(R:FnScope N U (ao X))(L:S=nI N.length U.length m)
  (Y:∀(Z:aC) (A:h_) (outer:List Env) (s:b_) (H:Hp) (E:XK),Room k (A.deeper (EW qual (ao X) s.heap.objs.size f Z))->
   qJ (jH (kz P w) P w K mg base N qual (ao X) f Z A outer s H E).nox bx (dm X) m):DefX P w K mg base (k+1) x U S:=
 ⟨f,T,by rw[L];exact G0 F R fun Z A outer s H O Q _ _=>uT (tx (Y Z A outer s H O Q)),I,F.kp,J⟩
theorem jd{x qual:Str}{X:n3}{f:dt}{T:g_}{N U:List Str}{k:Nat}{m:cT}{S:List D->M D}(F:Fun K x qual X f T)(I:mg x=ar (.ref f))(J:Binds K T U [])(R:FnScope N U (ao X))(L:S=oj N.length U.length m)
  (Y:∀(Z:aC) (A:h_) (outer:List Env) (s:b_) (H:Hp) (E:XK),Room k (A.deeper (EW qual (ao X) s.heap.objs.size f Z))->
   qJ (jH (kz P w) P w K mg base N qual (ao X) f Z A outer s H E) (ue K E) (dm X) m):DefX P w K mg base (k+1) x U S:=
 ⟨f,T,by rw[L];exact G0 F R fun Z A outer s H O Q _ _=>Y Z A outer s H O Q,I,F.kp,J⟩
theorem Ef{x y qual:Str}{f c T:dt}{J:aC}{od:Option dt}{X:Array (Option aC)}{kV U O Y ct L:aC}{R:Option dt}{I:PU}{bd:List n3}{Q:Scope}(S:p4 K gg x=ar (ar (.ref f)))
  (N:K.lookup f=ar ⟨J,od,.func (G2 y qual I bd Q L kV U O R Y ct),X⟩) (Z:l6 K x=ar (c,T)):Y= .ref c:=by
 unfold l6 at Z;rw[S]at Z;dsimp only at Z;rw[N]at Z;dsimp only at Z;cases Y with
 | ref c2=>
  dsimp only at Z;split at Z
  ·split at Z
   ·cases Z;rfl
   ·cases Z
  ·cases Z
 |_=>cases Z
theorem G7{x qual:Str}{Y:n3}{f:dt}{R:g_}{N X:List Str}{k:Nat}{m:cT}{S:List D->M D}{c Q:dt}(F:Fun K x qual Y f R)(O:FnScope N X (ao Y))(G:S=nI N.length X.length m)(C:p4 K gg x=ar (ar (.ref f)))(B:l6 K x=ar (c,Q))
  (Z:∀(A:h_) (outer:List Env) (s:b_) (H:Hp) (E:XK),Room k (A.deeper (EW qual (ao Y) s.heap.objs.size f (.ref c)))->
   qJ (jH (kz P w) P w K mg base N qual (ao Y) f (.ref c) A outer s H E).nox bx (dm Y) m):FnOk P w K mg base (kz P w) (k+1) f R X (B0 K S):=by
 rw[G];refine G0 F O fun U A outer s H I L _ T=>?_;obtain⟨v,od,J,kV,doc,pm,an,ct,y⟩:=T;have z:U= .ref c:=Ef C y B;subst z;exact uT (tx (Z A outer s H I L))
theorem G8{x qual:Str}{C:n3}{f:dt}{B:g_}{N Z:List Str}{k k0:Nat}{m:D->M D->cT}{R:D->M D->List D->M D}(F:Fun K x qual C f B)(t:mg x=ar (.ref f))(i:Binds K B Z [])(v:FnScope N Z (ao C))(q:R=fun O c es=>oj N.length Z.length (m O c) (O::es))
  (U:∀(base:gd),Mod K mg base->∀(a X:dt) (ql:Str) (ds:List D) (vs:List V) (T:TM),LamOk P w K mg base k0 a (HY K X ql ds vs T)->∀(Y:aC) (A:h_) (outer:List Env) (s:b_) (H:Hp) (E:XK),Room k (A.deeper (EW qual (ao C) s.heap.objs.size f Y))->
   qJ (jH (kz P w) P w K mg base N qual (ao C) f Y A outer s H E).nox bx (dm C) (m (.fn a X ql ds vs) (T (ds.map ar)))):RefX P w K mg (k+1) k0 x Z R:=by
 refine⟨f,B,t,F.kp,i,fun base G a X ql ds vs T L=>?_⟩;rw[q];obtain⟨e,od,kV,doc,pm,an,Y,ct,p,rfl,j,z⟩:=F.ex;have key:∀{us:List V} {H:Hp} {Q:VK} {J:XK},yf K (fun O c es=>oj N.length Z.length (m O c) (O::es)) a X ql ds vs T us H Q J->us.length=Z.length/\∃ ι S es,Rep K ι H S/\RelDs K ι H es us/\cont K bx (do let o<-m (.fn a X ql ds vs) (T (ds.map ar)) (es.map ar++eo (N.length - Z.length) none);outD o) ι S H (jL K Q):=by
  rintro us H Q J ⟨ι,S,rest,es,rfl,rep,hc',rds,res,c⟩;have y:RelDs K ι H (.fn a X ql ds vs::es) (.ref a::rest):=.cons (.fn hc' rds) res;unfold oj at c;dsimp only at c;by_cases I:(D.fn a X ql ds vs::es).length=Z.length
  ·rw[if_pos I]at c;exact⟨by rw[<-y.length];exact I,ι,S,_,rep,y,c⟩
  ·rw[if_neg I]at c;exact(ag c).elim
 refine AZ j z v (fun us H Q J h=>(key h).1) fun A outer s H us Q J u h=>⟨_,tx (U base G a X ql ds vs T L Y A outer s H J u),?_⟩;obtain⟨I,ι,S,es,rep,r,c⟩:=key h;refine⟨ι,S,_,rep,?_,ak (ah c) fun o n S1 g e1 rep1 c1=>?_⟩
 ·have:=RelE.start r (N.length - Z.length);unfold L2.start;rw[I];exact this
 ·cases o with
  |nx ρ=>exact fun l _=>ai c1 .refl rep1 _ .non
  |ret d=>exact ai c1 .refl rep1
  |bk ρ=>exact(ag c1).elim
  |ct ρ=>exact(ag c1).elim
end
end S7
section
namespace S4
open PySem PySem.Spec PyProof.Rows
section
variable {prog:e_}{w:f'}{A:h_}{E:aC->b_->Prop}{s:b_}
theorem tG{h:gd}(e:h.get? a=ar (br (cV w))):h.SetOf (la prog w) a (fun k=>(I_ val 0).any (· ==k)) (I_ val 0).length:=
 ⟨_, #[],0,.fresh 0 0 (cV w),e,⟨rfl,rfl,rfl⟩,rfl,(fun x Z=>by cases Z),(fun k=>⟨(fun z=>by cases z),fun⟨x,Z,_⟩=>by cases Z⟩),(by decide),rfl,rfl⟩
set_option maxHeartbeats 8000000 in
theorem Eg(l:A.handled=none)(r:Src s.heap x items)(Z:Nat->Int)(X:∀(i:Nat) (v:aC),items[i]? =ar v->∃t,v= .int (Z i) t)(j:items.size<=18)
  (h:∀(h':gd) (tk:Nat),h'.SetOf (la prog w) s.heap.objs.size (fun k=>(I_ Z items.size).any (· ==k)) (I_ Z items.size).length->(∀b o,b<s.heap.objs.size->s.heap.get? b=ar o->h'.get? b=ar o)->
   Q (.ref s.heap.objs.size) {s with heap:=h',toks:=tk}):ee (fc prog w) A (call (.type "set") [.ref x]) Q E s:=by
 obtain⟨c,tl,y⟩:=F.called_set.mro;have S:=F.called_set.made;have u:=F.called_set.sub;refine NQ (On ?_);show ee _ _ (RX (.type "set") _) _ _ _;refine LD ⟨Oo _ (by decide+kernel),Nr F.entry_type_call ?_⟩
 rw[Around.under_plain (weight_type_call_type "set" [.ref x] []) rfl];have h1:=F.called_set.notType;have h2:=F.called_set.canCreate;have a0:=F.typeCall_set_1 (.ref x)
 repeat (any_goals (first|assumption|wp_step))
 refine M7 (Je (.ref x) (E:=E) (Q1:=fun obj s1=>obj= .ref s.heap.objs.size/\s1={s with heap:=s.heap.push (br (cV w))}) ⟨rfl,rfl⟩) fun a s1 T=>?_;cases a with
 |error e=>exact T
 | ok fl=>
  cases fl with
  | ret obj=>
   obtain⟨rfl,rfl⟩:=T;have C:(s.heap.push (br (cV w))).get? s.heap.objs.size=ar (br (cV w)):=LM _ rfl;have B:O_ {s with heap:=s.heap.push (br (cV w))} (.ref s.heap.objs.size) "set":=⟨_,C,rfl⟩;have a4:=F.called_set.init.lookup;have q:=F.called_set.init.bind (.ref s.heap.objs.size)
   repeat (any_goals (first|assumption|wp_step))
   refine M7 (NX (R:=wants (fun r s2=>r= .none/\Q (.ref s.heap.objs.size) s2) E) F.called_set.init.plain F.entry_set_init (check_set_init_1 B ?_)) fun n s2 Y=>?_
   ·have G:Src (s.heap.push (br (cV w))) x items:=r.at fun o e=>LB _ e;obtain⟨Tx,a3,d,p,hd⟩:=uN (s:={s with heap:=s.heap.push (br (cV w))}) G;unfold Builtin.«set.__init__» noKeywords Builtin.Frozenset.updateFrom;generalize hPI:P2=PI;have a5:=B;unfold br at C
    wp_walk
    subst hPI;refine uM (s:={s with heap:=s.heap.push (br (cV w))}) G fun H St W L=>?_;refine LA (PP ?_);have I:x<s.heap.objs.size:=r.lt;have U:(s.heap.push (br (cV w))).objs.size=s.heap.objs.size+1:=MG _ _;have J:s.heap.objs.size∉[(s.heap.push (br (cV w))).objs.size,x]:=by
     rw[U];simp only[gc,f_,or_false,not_or];exact⟨LQ (NA _),M6 I⟩
    have N:A.in1.in1.in1.handled=none:=by simp[l]
    have up:∀b o,s.heap.get? b=ar o->((s.heap.push (br (cV w))).push H).get? b=ar o:=fun b o e=>LB _ (LB _ e);have S0:((s.heap.push (br (cV w))).push H).SetOf (la prog w) s.heap.objs.size (fun k=>(I_ Z 0).any (· ==k)) (I_ Z 0).length:=tG (LB _ (LM _ rfl));refine codeAny_set_update_loopS ((W _ N).toS) s.heap.objs.size J Z X (Nk (N5 j) (by decide)) (items.size - 0) 0 _ rfl (L6 _) L S0 fun s' hm O=>?_
    ·obtain⟨h',g',d',P,K⟩:=s';have g:g'=s.gens:=hm.gens;have f:d'=s.drawn:=hm.drawn;have m:K=s.os:=hm.os;subst g f m;show ee _ _ _ _ _ _;refine LD ?_;show ee _ _ (ret i0) _ _ _;refine LD ⟨rfl,h h' P O fun b o z e=>?_⟩;refine hm.heap b o ?_ (up b o e);rw[U];simp only[gc,f_,or_false,not_or];exact⟨LQ z,LQ (MA z)⟩
   ·cases n with
    |error e=>exact Y
    | ok fl2=>
     cases fl2 with
     |ret rv=>
      obtain⟨rfl,hq⟩:=Y
      repeat (any_goals (first|assumption|wp_step))
     |_=>exact Y.elim
  |_=>exact T.elim
end
end S4
namespace S3
open PySem PySem.Spec PyProof.Rows L2 S4
section
variable {X:Cx}{E:XD}{e:Expr}{m:TM}{pos:Pos}
theorem w6:∀{vs:List aC} {ns:List Int},m3 vs ns->∃xs:Array (Int×Tok),vs.toArray=intItems xs/\preSum (numAt xs) xs.size=ns.sum:=by
 intro vs ns h;obtain⟨xs,Z⟩:=h.allInts.items;refine⟨xs,Z,?_⟩;have:=h.numsOf;have e2:numsOf (intItems xs).toList=ns:=by rw[<-Z];exact this
 rw[nums_intItems]at e2;rw[preSum_eq,List.take_of_length_le (by simp)]
 rw[<-e2]
theorem z6(S:X.calm=c_):cR X (.builtin "sum") (fun xs H Q=>∃(p:dt) (ns:List Int),xs=[.ref p]/\iY X.K H p (ns.map V.int)/\Q (.int ns.sum) H):=by
 intro pins s σ H xs us Q I r h;obtain⟨p,ns,rfl,R,q⟩:=h;obtain⟨u,rfl,Y⟩:=vals1 r;cases (show u=er p from Y);obtain⟨its,T,W,O⟩:=I.list R;obtain⟨xs,e1,e2⟩:=w6 (Oz T);have Z:=W.isList;rw[e1]at Z;refine sum_intListG (I.ok.hd S) Z fun h' P t' U=>⟨.int ns.sum,H,I.kept (t':=P) U,⟨t',?_⟩,q⟩;rw[e2]
def z7:List D->M D
 |[.lst k]=>do
  let xs<-getL k
  match intsOf xs with
  |some ns=>a_ (.int ns.sum)
  |none=>M.fail
 |[.fz xs]=>match intsOf xs with
  |some ns=>a_ (.int ns.sum)
  |none=>M.fail
 |_=>M.fail
theorem z8:jO X.K E z7 (fun xs H Q=>∃(p:dt) (ns:List Int),xs=[.ref p]/\iY X.K H p (ns.map V.int)/\Q (.int ns.sum) H):=by
 intro ι S H ds vs Q rep r c;unfold z7 at c;split at c
 ·next k=>
  obtain⟨v,ws,rfl,T,W⟩:=r.cons_inv;cases W.nil_inv;obtain⟨p,rfl,Y⟩:=T.lst_inv;obtain⟨es,us,_,R,U,Z⟩:=a9 c rep Y;cases q:intsOf es with
  |none=>rw[q]at Z;exact(ag Z).elim
  |some ns=>
   rw[q]at Z;refine⟨p,ns,rfl,.of ?_,ai Z .refl rep _ (.int _)⟩;rw[<-dN U q];exact R
 ·next es=>
  obtain⟨v,ws,rfl,T,W⟩:=r.cons_inv;cases W.nil_inv;obtain⟨p,o,us,rfl,Y,U⟩:=T.fz_inv;cases q:intsOf es with
  |none=>rw[q]at c;exact(ag c).elim
  |some ns=>
   rw[q]at c;refine⟨p,ns,rfl,.inl (.inr ⟨o,?_⟩),ai c .refl rep _ (.int _)⟩;rw[<-dN U q];exact Y
 ·exact(ag c).elim
theorem G9(Z:X.calm=c_)(U:X.mg "sum"=none)(Y:SE X E e m)(W:Gl X "sum":=by rfl)(hs:eb [e] X.env=[(dV,h9 e X.env)]:=by rfl):SE X E (.Call (.Name "sum" p) [e] [] pos) (cW z7 m):=
 gE (z6 Z) z8 W U (by decide+kernel) (af Y aq hs) (by decide) (by decide) hs rfl
def distinct(ns:List Int):List Int:=I_ (fun i=>ns.getD i 0) ns.length
theorem z9(G:X.calm=c_):cR X (.type "set") (fun xs H Q=>∃(p:dt) (ns:List Int),xs=[.ref p]/\(iY X.K H p (ns.map V.int)\/kG X.K H p (ns.map V.int))/\ns.length<=18/\
  ∀l,H l=none->Q (.ref l) (upd H l (.set (fun k=>(distinct ns).any (· ==k)) (distinct ns).length))):=by
 intro pins s σ H xs us Q I r h;obtain⟨p,ns,rfl,Y,J,q⟩:=h;obtain⟨u,rfl,R⟩:=vals1 r;cases (show u=er p from R);have src:∃its,bb (ns.map V.int) its/\Src s.heap p its.toArray:=by
  rcases Y with Y|Y
  ·obtain⟨its,Z,U,P⟩:=I.list Y;exact⟨its,Z,.inl U.isList⟩
  ·obtain⟨its,Z,U,P⟩:=I.tuple Y;exact⟨its,Z,.inr U⟩
 obtain⟨its,Z,hs⟩:=src;have N:=Oz Z;have W:=Z.length;rw[LC]at W;have T:its.toArray.size=ns.length:=by rw[LR,W]
 refine Eg (I.ok.hd G) hs (fun i=>ns.getD i 0) (fun i v L=>N.int_at i v (by simpa using L)) (by omega) fun h' F S O=>?_
 rw[T]at S;have hf:H s.heap.objs.size=none:=I.hok.fresh (LF _);exact⟨.ref s.heap.objs.size,_,I.laid (o:=.set (fun k=>(distinct ns).any (· ==k)) (distinct ns).length) (fun b o e=>O b o (LK e) e) (LF _) S,rfl,q _ hf⟩
theorem qP:cR X (.builtin "len") (fun xs H Q=>∃p S n,xs=[.ref p]/\H p=ar (.set S n)/\Q (.int n) H):=by
 intro pins s σ H xs us Q I r h;obtain⟨p,S,n,rfl,W,q⟩:=h;obtain⟨u,rfl,Y⟩:=vals1 r;cases (show u=er p from Y);obtain⟨o,es,ep,t,T,hex,hd,_,_,R,Z,U⟩:=(show s.heap.SetOf (la X.prog X.w) p S n from I.hok p _ W);have:(es.size:Int)<2 ^ 63:=by
  have:scanBound<=2 ^ 62:=by decide
  omega
 exact call_len_set T hex hd Z this ⟨.int n,H,I.tok _,⟨_,by rw[U]⟩,q⟩
def kj:List D->M D
 |[.tup ds]=>match intsOf ds with
  |some ns=>if ns.length<=18 then a_ (.int (distinct ns).length)else M.fail
  |none=>M.fail
 |_=>M.fail
theorem Aa(N:X.calm=c_)(L:X.mg "len"=none)(W:X.mg "set"=none)(T:SE X E e m)(R:Gl X "len":=by rfl)(U:Gl X "set":=by rfl)(hs:eb [e] X.env=[(dV,h9 e X.env)]:=by rfl)
  (Y:eb [.Call (.Name "set" q) [e] [] pos2] X.env=[(dV,h9 (.Call (.Name "set" q) [e] [] pos2) X.env)]:=by rfl):
  SE X E (.Call (.Name "len" p) [.Call (.Name "set" q) [e] [] pos2] [] pos) (cW kj m):=by
 refine PE.imp (iF qP R L (by decide+kernel) (dj (iG (z9 N) U W (by decide+kernel) (dj T gy hs) (by decide) (by decide) hs rfl) gy Y) (by decide) (by decide) Y rfl) fun σ H Q h=>?_
 obtain⟨ι,S,ρ,rep,re,c⟩:=h;have c:cont X.K E (do let ds<-(do let x<-m ρ;let xs<-a_ [];a_ (x::xs));kj ds) ι S H (jL X.K Q):=c
 simp only[bQ,aj]at c;refine⟨ι,S,ρ,rep,re,ak (ah c) fun x J S1 I e1 rep1 c1 v r=>?_⟩;cases x with
 | tup ds=>
  obtain⟨a,vs,rfl,P,O⟩:=r.tup_inv;dsimp only[kj]at c1;cases z:intsOf ds with
  |none=>rw[z]at c1;exact(ag c1).elim
  | some ns=>
   rw[z]at c1;dsimp only at c1;by_cases hl:ns.length<=18
   ·rw[if_pos hl]at c1;refine⟨a,ns,rfl,.inr ?_,hl,fun l Z=>⟨l,_,_,rfl,aM,?_⟩⟩
    ·rw[<-dN O z];exact kG.of P
    ·exact ai c1 (dU Z) (ff rep1 Z) _ (.int _)
   ·rw[if_neg hl]at c1;exact(ag c1).elim
 |_=>exact(ag c1).elim
end
end S3
end
namespace S4
open PySem PySem.Spec PyProof.Rows L2 S3
def Eh(l1 l2:dt):It:=⟨fun i H=>∃va vb,Rd H l1 (.lst va)/\Rd H l2 (.lst vb)/\i<va.length/\i<vb.length,
 fun i H x H'=>∃va vb p u v,Rd H l1 (.lst va)/\Rd H l2 (.lst vb)/\H p=none/\va[i]? =ar u/\vb[i]? =ar v/\x= .ref p/\H'=upd H p (.tup [u,v]),fun i H=>∃va vb,Rd H l1 (.lst va)/\Rd H l2 (.lst vb)/\(va.length<=i\/vb.length<=i)⟩
theorem Ab{P:e_}{w:f'}{K:d_}{u:List Expr}{x1}{tp:Pos}{z TI TO Q N l1 d:dt}(D:Rf z TI TO Q N l1 d):
  Turn P w K (.Tuple u x1 tp) (Eh l1 d) [z,TI,TO,Q,N] z
   (fun i h=>P0 h z TI TO .none/\p7 h TI (.ref Q) (.ref N)/\(∃a b,p7 h TO a b)/\h.IsListIter Q l1 i/\h.IsListIter N d i) where
 mem:=by simp
 obj:=fun i h st b Z=>by
  obtain⟨S,Y,⟨a,c,U⟩,⟨o1,e1,c1,d1⟩,⟨o2,e2,c2,d2⟩⟩:=st;simp only[gc,f_,or_false]at Z;rcases Z with rfl|rfl|rfl|rfl|rfl
  ·exact⟨_,S,fun v z=>by cases z⟩
  ·exact⟨_,Y,fun v z=>by cases z⟩
  ·exact⟨_,U,fun v z=>by cases z⟩
  ·exact⟨_,e1,fun v z=>by rw[d1]at z;cases z⟩
  ·exact⟨_,e2,fun v z=>by rw[d2]at z;cases z⟩
 keep:=fun i h h' st k=>by
  obtain⟨S,Y,⟨a,c,U⟩,J,G⟩:=st;exact⟨k z (by simp) _ S,k TI (by simp) _ Y,⟨a,c,k TO (by simp) _ U⟩,J.at fun o e=>k Q (by simp) o e,G.at fun o e=>k N (by simp) o e⟩
 item:=by
  intro X hP hw hK hc i pins s σ H E I hf st hg;subst hP hw hK;obtain⟨S,Y,⟨a,c,U⟩,J,G⟩:=st;obtain⟨p,r,q,t,ga,gb⟩:=hg;obtain⟨A,O,p1,_⟩:=I.list (.inl q);obtain⟨B,L,j,_⟩:=I.list (.inl t);obtain⟨u1,l,c0⟩:=O.get (LG ga);obtain⟨m,c4,f⟩:=L.get (LG gb);refine wpAny_pyNext_zip_item D S Y U J G p1.isList j.isList (x:=u1) (y:=m) (by simpa using l) (by simpa using c4) fun h' a1 a2 a3 a4 a5 a6 n=>?_
  have b2:H s.heap.objs.size=none:=I.hok.fresh (LF _);have lt:∀{c o},s.heap.get? c=ar o->s.heap.objs.size≠c:=fun e=>M6 (LK e);refine⟨_,rfl,O8 a1 fun R c3 T=>?_⟩;have C:p7 R TI (.ref Q) (.ref N):=T.extBut _ _ D.TIz (n _ _ D.TIz D.TITO D.TIi1 D.TIi2 Y);have kk:∀b o,b∉[z,TI,TO,Q,N]->s.heap.get? b=ar o->R.get? b=ar o:=fun b o Z e=>by
   simp only[gc,f_,or_false,not_or]at Z;exact T.extBut _ _ Z.1 (n b o Z.1 Z.2.2.1 Z.2.2.2.1 Z.2.2.2.2 e)
  have F:p7 R s.heap.objs.size u1 m:=T.extBut _ _ (lt S) a5;have I2:L2.Inv X pins σ (upd H s.heap.objs.size (.tup [p[i],r[i]])) {s with heap:=R,toks:=s.toks}:=tm (o:=.tup [p[i],r[i]]) I hf kk (LF _) ⟨⟨by show 2<=sizeLine;decide,_,F,rfl⟩,[u1,m],.cons c0 (.cons f .nil),_,F,rfl,_,rfl⟩
  refine⟨.ref s.heap.objs.size,_,I2,rfl,
   ⟨p,r,_,_,_,q,t,b2,LG ga,LG gb,rfl,rfl⟩,⟨c3,C,⟨_,_,T.extBut _ _ D.TOz a2⟩,a3.at fun o e=>T.extBut _ _ D.i1z e,a4.at fun o e=>T.extBut _ _ D.i2z e⟩,fun b Z=>?_⟩
  obtain⟨ob,ho,_⟩:∃ob,s.heap.get? b=ar ob/\True:=by
   simp only[gc,f_,or_false]at Z;rcases Z with rfl|rfl|rfl|rfl|rfl
   ·exact⟨_,S,trivial⟩
   ·exact⟨_,Y,trivial⟩
   ·exact⟨_,U,trivial⟩
   ·obtain⟨o,e,_⟩:=J;exact⟨_,e,trivial⟩
   ·obtain⟨o,e,_⟩:=G;exact⟨_,e,trivial⟩
  rw[aB (LQ (LK ho))];exact(hf b Z).1
 done:=by
  intro X hP hw hK hc i pins s σ H E I hf st hg;subst hP hw hK;obtain⟨S,Y,⟨a,c,U⟩,J,G⟩:=st;obtain⟨p,r,q,t,gs⟩:=hg;obtain⟨A,O,p1,_⟩:=I.list (.inl q);obtain⟨B,L,j,_⟩:=I.list (.inl t);have d3:=O.length;have e7:=L.length;refine wpAny_pyNext_zip_end (I.ok.hd hc) D S Y U J G p1.isList j.isList (gs.imp (fun g=>by simp;omega) fun g=>by simp;omega) fun h' n=>⟨rfl,tj (t':=s.toks) I hf fun b o Z e=>?_⟩
  simp only[gc,f_,or_false,not_or]at Z;exact n b o Z.1 Z.2.2.1 Z.2.2.2.1 Z.2.2.2.2 e
 self:=fun _ _ _ _ _ st h=>OM st.1 h
theorem Ei{X:Cx}{K:List Expr}{x1}{tp p pos:Pos}{es:List Expr}{e:Expr}{z:TA}(v:Gl X "zip")(x:X.mg "zip"=none)(y:PA X (e::es) z)
  (w:eb (e::es) X.env=(dV,h9 e X.env)::eb es X.env:=by rfl) (E:(nC pos (eb es X.env)).any (·.1)=false:=by rfl):
  PI X (.Tuple K x1 tp) (.Call (.Name "zip" p) (e::es) [] pos) (fun σ H R=>z σ H fun xs Z=>(∃a b va vb,xs=[.ref a,.ref b]/\Rd Z a (.lst va)/\Rd Z b (.lst vb)/\R (Eh a b) Z)\/
   (∃a b va vb,xs=[.ref a,.ref b]/\Z a=ar (.tup va)/\Z b=ar (.tup vb)/\
   R ⟨fun i H=>(AI va vb).go i H/\(H a=ar (.tup va)/\H b=ar (.tup vb)),(AI va vb).yld,fun i H=>(AI va vb).stop i H/\(H a=ar (.tup va)/\H b=ar (.tup vb))⟩ Z)):=by
 intro pins s σ H R I h;refine R0 (kF I v x (show kS "zip"=ar (.type "zip") by decide+kernel) (MT (de (y pos pins s σ H _ I h) fun us s1 ⟨vs,Z,I1,r1,q1⟩=>?_) w E) (by decide) (by decide))
 have fresh:∀c∈[s1.heap.objs.size+4,s1.heap.objs.size+2,s1.heap.objs.size+3,s1.heap.objs.size,s1.heap.objs.size+1],s1.heap.objs.size<=c:=fun c S=>by
  simp only[gc,f_,or_false]at S;omega
 rcases q1 with⟨a,b,va,vb,rfl,hA,hB,q⟩|⟨a,b,va,vb,rfl,hA,hB,q⟩
 ·obtain⟨u,G,rfl,B,Y⟩:=vals2 r1;cases (show u=er a from B);cases (show G=er b from Y);obtain⟨L,C,O,_⟩:=I1.list (.inl hA);obtain⟨J,A,N,_⟩:=I1.list (.inl hB);have a1:a<s1.heap.objs.size:=by obtain⟨_,e,_⟩:=O.isList;exact LK e
  have a2:b<s1.heap.objs.size:=by obtain⟨_,e,_⟩:=N.isList;exact LK e
  refine call_zip_2 O.isList N.isList fun h' P Q W T U _ F=>OM P ?_;exact⟨s1.heap.objs.size+4,_,_,_,Z,rfl,I1.kept (t':=s1.toks) F,Ab (zipApart_new a1 a2),⟨P,Q,⟨_,_,W⟩,T,U⟩,fun c S=>I1.fpOk (fresh c S) (I1.hok.fresh (fresh c S)),q⟩
 ·obtain⟨u,G,rfl,B,Y⟩:=vals2 r1;cases (show u=er a from B);cases (show G=er b from Y);obtain⟨L,C,O,_⟩:=I1.tuple (.of hA);obtain⟨J,A,N,_⟩:=I1.tuple (.of hB);have a1:a<s1.heap.objs.size:=by obtain⟨_,e,_⟩:=O;exact LK e
  have a2:b<s1.heap.objs.size:=by obtain⟨_,e,_⟩:=N;exact LK e
  refine zT O N fun h' P Q W T U F=>OM P ?_;exact⟨s1.heap.objs.size+4,_,_,_,Z,rfl,I1.kept (t':=s1.toks) F,BU (zipApart_new a1 a2) (fun H=>H a=ar (.tup va)/\H b=ar (.tup vb)) (fun _=>.rfl),⟨P,Q,⟨_,_,W⟩,T,U⟩,fun c S=>I1.fpOk (fresh c S) (I1.hok.fresh (fresh c S)),q⟩
theorem Rd.lst_inj(h:Rd H a (.lst xs))(h':Rd H a (.lst ys)):xs=ys:=by
 rcases h with h|⟨o,h⟩<;>rcases h' with h'|⟨o',h'⟩<;>(rw[h]at h';cases h'<;>rfl)
def zL:D->M (List D×Option (Nat×List D))
 | .lst k=>do let xs<-getL k;a_ (xs,ar (k,xs))
 | .fz xs=>a_ (xs,none)
 |_=>M.fail
def Ha:Option (Nat×List D)->Option (Nat×List D)->Chk
 |some (k,xs),ar (j,ys)=>.two k j xs ys
 |some (k,xs),none=>.two k k xs xs
 |none,ar (j,ys)=>.two j j ys ys
 |none,none=>.none
def B9:List D->M Iter
 |[.tup xs,.tup ys]=>a_ ⟨(xs.zip ys).map fun p=>.tup [p.1,p.2],.none⟩
 |[a,b]=>do let x<-zL a;let y<-zL b;a_ ⟨(x.1.zip y.1).map fun p=>.tup [p.1,p.2],Ha x.2 y.2⟩
 |_=>M.fail
structure ZOk(K:d_)(x:List D×Option (Nat×List D))(a:dt)(ι:List dt)(H:Hp):Prop where
 ok:∀ ι2 H2 S2,ExtN ι H ι2 H2->Rep K ι2 H2 S2->(∀k xs,x.2=ar (k,xs)->S2[k]? =ar xs)->∃va,Rd H2 a (.lst va)/\RelDs K ι2 H2 x.1 va
theorem Ca{K:d_}{E:XD}{ι:List dt}{S:aA}{H:Hp}{d:D}{v:V}{α:Type}{f:List D×Option (Nat×List D)->M α}{Q:α->List dt->aA->Hp->Prop}(Z:Rep K ι H S)(r:RelD K ι H d v)(c:cont K E (zL d>>=f) ι S H Q):
  ∃a x X,v= .ref a/\Rd H a (.lst X)/\ZOk K x a ι H/\cont K E (f x) ι S H Q:=by
 cases d with
 | lst k=>
  obtain⟨a,rfl,Y⟩:=r.lst_inv;have P:cont K E (getL k>>=fun xs=>a_ (xs,ar (k,xs))>>=f) ι S H Q:=by
   rw[<-bQ];exact c
  obtain⟨xs,vs,I,N,R,T⟩:=a9 P Z Y;rw[aj]at T;refine⟨a,(xs,ar (k,xs)),vs,rfl,.inl N,⟨fun U L S2 e rep2 ok=>?_⟩,T⟩;obtain⟨X,J,O⟩:=rep2.get k a xs (e.at Y) (ok k xs rfl);exact⟨X,.inl J,O⟩
 |fz xs=>
  obtain⟨a,o,vs,rfl,Y,R⟩:=r.fz_inv;refine⟨a,(xs,none),vs,rfl,.inr ⟨o,Y⟩,⟨fun U L S2 e rep2 ok=>?_⟩,ai (ah c) .refl Z⟩;exact⟨vs,.inr ⟨o,(e.oth _ _ Y (Z.notIn Y (by intro _ z;cases z)) (by intro _ z;cases z) (by intro _ z;cases z)).1⟩,R.laterN Z e⟩
 |_=>exact(ag (ah c)).elim
theorem Ej(h:Iter.okS ⟨items,Ha x y⟩ S):(∀k xs,x=ar (k,xs)->S[k]? =ar xs)/\∀k xs,y=ar (k,xs)->S[k]? =ar xs:=by
 match x,y,h with
 |some (k,xs),ar (j,ys),h=>exact⟨fun _ _ e=>(by cases e;exact h.1),fun _ _ e=>(by cases e;exact h.2)⟩
 |some (k,xs),none,h=>exact⟨fun _ _ e=>(by cases e;exact h.1),fun _ _ e=>(by cases e)⟩
 |none,ar (j,ys),h=>exact⟨fun _ _ e=>(by cases e),fun _ _ e=>(by cases e;exact h.1)⟩
 |none,none,h=>exact⟨fun _ _ e=>(by cases e),fun _ _ e=>(by cases e)⟩
theorem uZ{K:d_}{ι:List dt}{H:Hp}{a b:dt}{x y:List D×Option (Nat×List D)}(G:ZOk K x a ι H)(F:ZOk K y b ι H):
  ir K ⟨(x.1.zip y.1).map fun p=>.tup [p.1,p.2],Ha x.2 y.2⟩ (Eh a b) ι H:=by
 intro Z S S2 e rep2 ok i;obtain⟨P,Q⟩:=Ej ok;obtain⟨O,Y,T⟩:=G.ok Z S S2 e rep2 P;obtain⟨L,X,U⟩:=F.ok Z S S2 e rep2 Q;have t:=T.length;have B:=U.length;refine⟨fun d hd=>?_,fun hlen=>?_⟩
 ·obtain⟨A,w,N,J,rfl⟩:=zip_get hd;have r:=(LH.mp N).1;have q:=(LH.mp J).1;refine⟨⟨O,L,Y,X,by omega,by omega⟩,?_⟩
  rintro v H3 ⟨va',vb',p,u,E,gA,gB,hp,g1,g2,rfl,rfl⟩;cases Rd.lst_inj Y gA;cases Rd.lst_inj X gB;obtain⟨v1,e1,C⟩:=T.get' N;obtain⟨v2,e2,I⟩:=U.get' J;obtain rfl:v1=u:=L5 (e1.symm.trans g1);obtain rfl:v2=E:=L5 (e2.symm.trans g2);have R:Ext Z S Z (upd S p (.tup [v1,v2])):=dU hp;exact⟨R,ff rep2 hp,.tup aM (.cons (C.later rep2 R) (.cons (I.later rep2 R) .nil))⟩
 ·have s:min x.1.length y.1.length<=i:=by simpa using hlen
  refine⟨O,L,Y,X,?_⟩;rcases Nat.le_total x.1.length y.1.length with z|z
  ·exact .inl (by omega)
  ·exact .inr (by omega)
theorem yi{X:Cx}{x1}(v:X.mg "zip"=none)(A:SE X E a m)(q:SE X E b n)(l:Gl X "zip":=by rfl)
  (hs:eb [a,b] X.env=[(dV,h9 a X.env),(dV,h9 b X.env)]:=by rfl) (W:eb [b] X.env=[(dV,h9 b X.env)]:=by rfl):
  SI X E (.Tuple elts x1 tp) (.Call (.Name "zip" p) [a,b] [] pos) (fun ρ=>do let ds<-(do let x<-m ρ;let xs<-(do let y<-n ρ;let ys<-a_ [];a_ (y::ys));a_ (x::xs));B9 ds):=by
 intro pins s σ H R I h;have G:PI X (.Tuple elts x1 tp) (.Call (.Name "zip" p) [a,b] [] pos) (fun σ H R=>KD X.K E (aa m (aa n au)) σ H fun xs U=>(∃a b Z Y,xs=[.ref a,.ref b]/\Rd U a (.lst Z)/\Rd U b (.lst Y)/\R (Eh a b) U)\/
   (∃a b Z Y,xs=[.ref a,.ref b]/\U a=ar (.tup Z)/\U b=ar (.tup Y)/\
   R ⟨fun i H=>(AI Z Y).go i H/\(H a=ar (.tup Z)/\H b=ar (.tup Y)),(AI Z Y).yld,fun i H=>(AI Z Y).stop i H/\(H a=ar (.tup Z)/\H b=ar (.tup Y))⟩ U)):=
  Ei l v (af A (af q aq (by rw[W];rfl)) (by rw[hs,W])) (by rw[hs,W]) (by rw[W];rfl)
 refine G pins s σ H R I ?_;obtain⟨ι,S,ρ,rep,re,c⟩:=h;refine⟨ι,S,ρ,rep,re,ak (ah c) fun ds k S1 U e1 rep1 c1 vs r=>?_⟩;unfold B9 at c1;split at c1
 ·next xs ys=>
  obtain⟨v1,ws,rfl,J,O⟩:=r.cons_inv;obtain⟨v2,N,rfl,L,C⟩:=O.cons_inv;cases C.nil_inv;obtain⟨F,Z,rfl,Q,B⟩:=J.tup_inv;obtain⟨P,Y,rfl,T,u⟩:=L.tup_inv;exact .inr ⟨F,P,Z,Y,rfl,Q,T,ai c1 .refl rep1 _ (wU rep1 Q T B u)⟩
 ·next a b _=>
  obtain⟨v1,ws,rfl,J,O⟩:=r.cons_inv;obtain⟨v2,N,rfl,L,C⟩:=O.cons_inv;cases C.nil_inv;obtain⟨F,x,Z,rfl,Q,z,t⟩:=Ca rep1 J c1;obtain⟨P,y,Y,rfl,T,w,o⟩:=Ca rep1 L t;exact .inl ⟨F,P,Z,Y,rfl,Q,T,ai o .refl rep1 _ (uZ z w)⟩
 ·exact(ag c1).elim
abbrev u6(m n:TM):aF->M Iter:=fun ρ=>do let ds<-aa m (aa n au) ρ;B9 ds
end S4
namespace S3
open PySem PySem.Spec PyProof.Rows L2 S4
def mY(f:Expr->Option D):List Expr->Option (List D)
 |[]=>ar []
 |e::es=>match f e,mY f es with
  |some d,ar ds=>ar (d::ds)
  |_,_=>none
def litE:Nat->Expr->Option D
 |_,.Constant .none _ _=>ar .non
 |_,.Constant (.bool b) _ _=>ar (.bl b)
 |_,.Constant (.int i) _ _=>ar (.int i)
 |_,.Constant (.str x) _ _=>ar (.str x)
 |_,.UnaryOp .USub (.Constant (.int i) _ _) _=>ar (.int (-i))
 |n+1,.Tuple es _ _=>match mY (litE n) es with
  |some ds=>if ds.length<=100 then ar (.tup ds)else none
  |none=>none
 |_,_=>none
section
variable {X:Cx}{E:XD}
theorem SE.mono{m Z:TM}(h:SE X E e m)(k:∀ ρ S r,Z ρ S=ar r->m ρ S=ar r):SE X E e Z:=PE.imp h fun σ H Q q=>by
 obtain⟨ι,S,ρ,rep,re,r,Y,e,c⟩:=q;exact⟨ι,S,ρ,rep,re,r,Y,k ρ S _ e,c⟩
theorem Cb(h:litE n e=ar d)(es:List Expr)(env:Env):eb (e::es) env=(dV,h9 e env)::eb es env:=by
 cases e with
 |Constant c j p=>exact av
 |UnaryOp o a p=>exact pY
 |Tuple l k p=>exact bf
 |_=>cases n<;>cases h
theorem yj(Z:∀e d,litE n e=ar d->SE X E e (mK d)):∀{es:List Expr} {ds:List D},mY (litE n) es=ar ds->SA X E es (fun _=>a_ ds)
 |[],ds,h=>by cases h;exact aq
 | e::es,ds,h=>by
  unfold mY at h;cases q:litE n e with
  |none=>rw[q]at h;cases h
  | some d=>
   rw[q]at h;cases q2:mY (litE n) es with
   |none=>rw[q2]at h;cases h
   |some ds'=>
    rw[q2]at h;cases h;exact af (Z e d q) (yj Z q2) (Cb q _ _)
theorem Hd:∀(n:Nat) (e:Expr) (d:D),litE n e=ar d->SE X E e (mK d):=by
 intro n
 induction n with
 |zero=>
  intro e d h;unfold litE at h;split at h
  ·cases h;exact kH
  ·cases h;exact gh
  ·cases h;exact aw
  ·cases h;exact mJ
  ·cases h;exact wW
  ·next h'=>exact absurd h' (by omega)
  ·cases h
 | succ n ih=>
  intro e d h;unfold litE at h;split at h
  ·cases h;exact kH
  ·cases h;exact gh
  ·cases h;exact aw
  ·cases h;exact mJ
  ·cases h;exact wW
  ·next m es k p hm=>
   cases hm;cases q:mY (litE n) es with
   |none=>rw[q]at h;cases h
   | some ds=>
    rw[q]at h;simp only at h;split at h
    ·next hl=>
     cases h;refine(fE (yj ih q)).mono fun ρ S r Z=>?_;have e:(do let ds'<-(a_ ds:M (List D));cF ds')=(a_ (.tup ds):M D):=by
      show cF ds=_;unfold cF;rw[if_pos (by unfold lim;omega)]
     rw[e];exact Z
    ·cases h
  ·cases h
theorem cb(n:Nat)(h:litE n e=ar d):SE X E e (mK d):=Hd n e d h
end
def aI(m:TM)(ms:D4):D4:=aa m ms
section
variable {X:Cx}{E:XD}
theorem aN(Y:SE X E e m)(Z:SA X E es ms)(hs:eb (e::es) X.env=(dV,h9 e X.env)::eb es X.env):SA X E (e::es) (aI m ms):=af Y Z hs
theorem je{l p t n}:k7 (.List l p) t n env=a_ false:=rfl
theorem ez{a o b p t n}:k7 (.BinOp a o b p) t n env=a_ false:=rfl
theorem fj{f l k p t n}:k7 (.Call f l k p) t n env=a_ false:=rfl
theorem jf{a b p t n}:k7 (.Subscript a b p) t n env=a_ false:=rfl
theorem u7{a b p t n}:k7 (.Constant a b p) t n env=a_ false:=rfl
end
end S3
namespace S7
open PySem PySem.Spec PyProof.Rows L2 S3
theorem lO{a b p}:eb (.Attribute a b p::es) env=(dV,h9 (.Attribute a b p) env)::eb es env:=rfl
abbrev El(m:TM):TM:=fun ρ=>mW (m ρ)
abbrev Jk:TM:=fun _=>M.fail
abbrev cY(m:TM)(y:Str):TM:=fun ρ=>do let x<-m ρ;uV (fun n=>cq n y) x
abbrev Cc(m:TM):TM:=fun ρ=>do let x<-m ρ;uV (fun _=>c_) x
abbrev w8(x:Str)(ms:aF->M (List D)):cT:=fun ρ=>do let ds<-ms ρ;if ds.length<=lim then M.raise (.exc x [])else M.fail
end S7
namespace S3
open PySem PySem.Spec PyProof.Rows L2
mutual
def fO(n:Nat):D->Bool
 | .lst k=>decide (k<n)
 | .tup ds=>bY n ds
 | .ro ds=>bY n ds
 | .fz ds=>bY n ds
 | .fn _ _ _ ds _=>bY n ds
 | .exc _ ds=>bY n ds
 | .non=>c_
 | .bl _=>c_
 | .int _=>c_
 | .str _=>c_
 | .emp=>c_
def bY(n:Nat):List D->Bool
 |[]=>c_
 |d::ds=>fO n d && bY n ds
end
mutual
def iw(n:Nat)(g:Nat->Option (List D)):D->Option D
 | .lst k=>if k<n then ar (.lst k)else (g k).map .fz
 | .tup ds=>(fW n g ds).map .tup
 | .ro ds=>(fW n g ds).map .ro
 | .fz ds=>(fW n g ds).map .fz
 | .fn a c q ds vs=>(fW n g ds).map fun es=>.fn a c q es vs
 | .exc x ds=>(fW n g ds).map fun es=>.exc x es
 | .non=>ar .non
 | .bl b=>ar (.bl b)
 | .int i=>ar (.int i)
 | .str x=>ar (.str x)
 | .emp=>ar .emp
def fW(n:Nat)(g:Nat->Option (List D)):List D->Option (List D)
 |[]=>ar []
 |d::ds=>match iw n g d,fW n g ds with
  |some u,ar us=>ar (u::us)
  |_,_=>none
end
def vX(S:aA)(n:Nat):Nat->Nat->Option (List D)
 |0,_=>none
 |f+1,k=>(S[k]?).bind fun xs=>fW n (vX S n f) xs
def nJ(S S':aA):Prop:=∀k xs,k<S.length->S'[k]? =ar xs->S[k]? =ar xs\/bY S.length xs=c_
open Classical in
def ij(m:M D):M D:=fun S=>match m S with
 | some (.ok d,S')=>if S'.length<=S.length then ar (.ok d,S')else
   if nJ S S' then (match iw S.length (vX S' S.length 60) d with
    |some u=>ar (.ok u,S'.take S.length)
    |none=>none)else none
 |r=>r
abbrev aR(m:TM):TM:=fun ρ=>ij (m ρ)
section
variable {K:d_}{ι ι':List dt}{H H':Hp}{S S':aA}
mutual
theorem RelD.cl:∀{d:D} {v:V},RelD K ι H d v->fO ι.length d=c_
 |_,_,.non=>rfl
 |_,_,.bl b=>rfl
 |_,_,.int i=>rfl
 |_,_,.str x=>rfl
 |_,_,.tup h hs=>by unfold fO;exact RelDs.cl hs
 |_,_,.lst h=>by unfold fO;exact L7 (LH.mp h).1
 |_,_,.ro h hs=>by unfold fO;exact RelDs.cl hs
 |_,_,.emp h=>rfl
 |_,_,.fn h hs=>by unfold fO;exact RelDs.cl hs
 |_,_,.exc n h=>rfl
 |_,_,.excF n h h2 hn hs=>by unfold fO;exact RelDs.cl hs
 |_,_,.fz h hs=>by unfold fO;exact RelDs.cl hs
theorem RelDs.cl:∀{ds:List D} {vs:List V},RelDs K ι H ds vs->bY ι.length ds=c_
 |_,_,.nil=>rfl
 |_,_,.cons h hs=>by unfold bY;rw[RelD.cl h,RelDs.cl hs];rfl
end
def kC(P:List dt)(os:dt->Obj)(H:Hp):Hp:=fun b=>match H b with
 |some (.lst vs)=>if b∈P then ar (.frz (os b) (.lst vs))else ar (.lst vs)
 |x=>x
theorem Cd{P:List dt}{os:dt->Obj}{b:dt}(h:H b=none):kC P os H b=none:=by unfold kC;rw[h]
theorem bE{P:List dt}{os:dt->Obj}{b:dt}{o:HO}(h:H b=ar o)(Z:∀vs,o≠ .lst vs):kC P os H b=ar o:=by
 unfold kC;rw[h];cases o with
 |lst vs=>exact absurd rfl (Z vs)
 |_=>rfl
theorem oB{P:List dt}{os:dt->Obj}{b:dt}(h:b∉P):kC P os H b=H b:=by
 unfold kC;split
 ·next q=>rw[if_neg h,q]
 ·rfl
theorem xa{os:dt->Obj}(h:b∈P)(e:H b=ar (.lst vs)):kC P os H b=ar (.frz (os b) (.lst vs)):=by
 unfold kC;rw[e];exact if_pos h
theorem u9(Y:ι.Nodup)(h:ι[k]? =ar a):a∈ι.drop n↔n<=k:=by
 constructor
 ·intro hm;obtain⟨j,Z⟩:=NN.mp hm;rw[Ol]at Z;have:=pA Y h Z;omega
 ·intro X;refine NN.mpr ⟨k - n,?_⟩;rw[Ol,show n+(k - n)=k by omega];exact h
mutual
theorem RelD.down{n:Nat}{os:dt->Obj}:∀{d:D} {v:V},RelD K ι H d v->fO n d=c_->RelD K (ι.take n) (kC (ι.drop n) os H) d v
 |_,_,.non,_=>.non
 |_,_,.bl b,_=>.bl b
 |_,_,.int i,_=>.int i
 |_,_,.str x,_=>.str x
 |_,_,.tup h hs,c=>.tup (bE h (by intro _ z;cases z)) (RelDs.down hs (by unfold fO at c;exact c))
 |_,_,.lst h,c=>.lst (by unfold fO at c;rw[Oq,if_pos (MO c)];exact h)
 |_,_,.ro h hs,c=>.ro (h.imp (fun⟨o,h⟩=>⟨o,bE h (by intro _ z;cases z)⟩) fun z=>z) (RelDs.down hs (by unfold fO at c;exact c))
 |_,_,.emp h,_=>.emp (bE h (by intro _ z;cases z))
 |_,_,.fn h hs,c=>.fn (bE h (by intro _ z;cases z)) (RelDs.down hs (by unfold fO at c;exact c))
 |_,_,.exc n h,_=>.exc n (bE h (by intro _ z;cases z))
 |_,_,.excF n h h2 hn hs,c=>.excF n (bE h (by intro _ z;cases z)) (bE h2 (by intro _ z;cases z)) hn (RelDs.down hs (by unfold fO at c;exact c))
 |_,_,.fz h hs,c=>.fz (bE h (by intro _ z;cases z)) (RelDs.down hs (by unfold fO at c;exact c))
theorem RelDs.down{n:Nat}{os:dt->Obj}:∀{ds:List D} {vs:List V},RelDs K ι H ds vs->bY n ds=c_->RelDs K (ι.take n) (kC (ι.drop n) os H) ds vs
 |_,_,.nil,_=>.nil
 |_,_,.cons h hs,c=>by
  unfold bY at c;rw[MW]at c;exact .cons (RelD.down h c.1) (RelDs.down hs c.2)
end
theorem jg{α Z:Type}{f:α->Z}{o:Option α}{b:Z}(h:o.map f=ar b):∃a,o=ar a/\f a=b:=by
 cases o with
 |none=>cases h
 |some a=>exact⟨a,rfl,L5 h⟩
theorem Ce(h:fW n g (d::ds)=ar us):∃u us',us=u::us'/\iw n g d=ar u/\fW n g ds=ar us':=by
 unfold fW at h;split at h
 ·next u us' e1 e2=>cases h;exact⟨u,us',rfl,e1,e2⟩
 ·cases h
mutual
theorem xb{n:Nat}{os:dt->Obj}{g:Nat->Option (List D)}(Y:∀k us a,n<=k->g k=ar us->ι[k]? =ar a->∃vs,H a=ar (.lst vs)/\RelDs K (ι.take n) (kC (ι.drop n) os H) us vs)(Z:ι.Nodup):
  ∀{d:D} {v:V},RelD K ι H d v->∀{u:D},iw n g d=ar u->RelD K (ι.take n) (kC (ι.drop n) os H) u v
 |_,_,.non,u,e=>by unfold iw at e;cases e;exact .non
 |_,_,.bl b,u,e=>by unfold iw at e;cases e;exact .bl b
 |_,_,.int i,u,e=>by unfold iw at e;cases e;exact .int i
 |_,_,.str x,u,e=>by unfold iw at e;cases e;exact .str x
 |_,_,.tup h hs,u,e=>by
  unfold iw at e;obtain⟨es,e1,rfl⟩:=jg e;exact .tup (bE h (by intro _ z;cases z)) (jh Y Z hs e1)
 | _,_,@RelD.lst _ _ _ a k h,u,e=>by
  unfold iw at e;by_cases hk:k<n
  ·rw[if_pos hk]at e;cases e;exact .lst (by rw[Oq,if_pos hk];exact h)
  ·rw[if_neg hk]at e;obtain⟨us,e1,rfl⟩:=jg e;obtain⟨vs,U,X⟩:=Y k us a (by omega) e1 h
   exact .fz (xa ((u9 Z h).mpr (by omega)) U) X
 |_,_,.ro h hs,u,e=>by
  unfold iw at e;obtain⟨es,e1,rfl⟩:=jg e;exact .ro (h.imp (fun⟨o,h⟩=>⟨o,bE h (by intro _ z;cases z)⟩) fun z=>z) (jh Y Z hs e1)
 |_,_,.emp h,u,e=>by unfold iw at e;cases e;exact .emp (bE h (by intro _ z;cases z))
 |_,_,.fn h hs,u,e=>by
  unfold iw at e;obtain⟨es,e1,rfl⟩:=jg e;exact .fn (bE h (by intro _ z;cases z)) (jh Y Z hs e1)
 |_,_,.exc x h,u,e=>by
  unfold iw at e;obtain⟨es,e1,rfl⟩:=jg e;unfold fW at e1;cases e1;exact .exc x (bE h (by intro _ z;cases z))
 |_,_,.excF x h X hn hs,u,e=>by
  unfold iw at e;obtain⟨es,e1,rfl⟩:=jg e;exact .excF x (bE h (by intro _ z;cases z)) (bE X (by intro _ z;cases z)) hn (jh Y Z hs e1)
 |_,_,.fz h hs,u,e=>by
  unfold iw at e;obtain⟨es,e1,rfl⟩:=jg e;exact .fz (bE h (by intro _ z;cases z)) (jh Y Z hs e1)
theorem jh{n:Nat}{os:dt->Obj}{g:Nat->Option (List D)}(Y:∀k us a,n<=k->g k=ar us->ι[k]? =ar a->∃vs,H a=ar (.lst vs)/\RelDs K (ι.take n) (kC (ι.drop n) os H) us vs)(Z:ι.Nodup):
  ∀{ds:List D} {vs:List V},RelDs K ι H ds vs->∀{us:List D},fW n g ds=ar us->RelDs K (ι.take n) (kC (ι.drop n) os H) us vs
 |_,_,.nil,us,e=>by unfold fW at e;cases e;exact .nil
 |_,_,.cons h hs,us,e=>by
  obtain⟨u,X,rfl,e1,e2⟩:=Ce e;exact .cons (xb Y Z h e1) (jh Y Z hs e2)
end
theorem yk(Z:Rep K ι H S){n:Nat}{os:dt->Obj}:∀f k us a,n<=k->vX S n f k=ar us->ι[k]? =ar a->∃vs,H a=ar (.lst vs)/\RelDs K (ι.take n) (kC (ι.drop n) os H) us vs:=by
 intro f
 induction f with
 |zero=>intro k us a _ e;cases e
 | succ f ih=>
  intro k us a T e Y;unfold vX at e;cases z:S[k]? with
  |none=>rw[z]at e;cases e
  |some xs=>
   rw[z]at e;obtain⟨vs,X,U⟩:=Z.get k a xs Y z;exact⟨vs,X,jh (ih) Z.nd U e⟩
theorem vd(Y:Rep K ι H S)(x:Ext ι H ι' H')(Z:Rep K ι' H' S')(Q:nJ S S')(os:dt->Obj):
  Ext ι H ι (kC (ι'.drop ι.length) os H')/\Rep K ι (kC (ι'.drop ι.length) os H') (S'.take ι.length):=by
 obtain⟨more,rfl⟩:=id x.ids;have O:(ι++more).take ι.length=ι:=by simp
 refine⟨⟨⟨[],by simp⟩,fun a o h n t=>?_⟩,⟨Y.nd,?_,fun k a xs e1 e2=>?_,Z.tab.mono fun a o h n=>bE h n⟩⟩
 ·obtain⟨U,T⟩:=x.oth a o h n t;rw[oB (fun z=>T (List.mem_of_mem_drop z))];exact⟨U,n⟩
 ·have:=Z.len;rw[N4, <-this,LL];omega
 ·have R:k<ι.length:=(LH.mp e1).1;rw[Oq,if_pos R]at e2;have X:(ι++more)[k]? =ar a:=by rw[Mm R];exact e1
  obtain⟨vs,U,T⟩:=Z.get k a xs X e2;refine⟨vs,?_,?_⟩
  ·rw[oB (fun z=>by have:=(u9 Z.nd X).mp z;omega)];exact U
  ·have N:bY ι.length xs=true:=by
    rcases Q k xs (by rw[<-Y.len];exact R) e2 with z|z
    ·obtain⟨_,_,P⟩:=Y.get k a xs e1 z;exact P.cl
    ·rw[Y.len];exact z
   have:=RelDs.down (n:=ι.length) (os:=os) T N;rw[O]at this;exact this
end
section
variable {X:Cx}{E:XD}{e:Expr}{m:TM}{pins:List (dt×Obj)}{σ:L2.St}{H:Hp}{s:b_}
theorem Inv.fz(I:L2.Inv X pins σ H s)(P:List dt):∃os,L2.Inv X pins σ (kC P os H) s:=by
 refine⟨fun a=>(s.heap.get? a).getD {cls:=.none,data:=.fields #[]},?_⟩;have Z:Un X.fs [] H (kC P (fun a=>(s.heap.get? a).getD {cls:=.none,data:=.fields #[]}) H) s.heap s.heap:=
  ⟨fun b o q _ _ _=>q,fun b o q _ _ _=>⟨o.slots,q⟩,fun b o _ n _=>Cd n,fun b o q _=>⟨o,q⟩,fun b xs q=>bE q (by intro _ z;cases z),fun b o u q=>bE q (by intro _ z;cases z),fun b Y q=>⟨#[],by rw[bE q (by intro _ z;cases z)];simp⟩⟩
 refine I.un (t':=s.toks) Z fun b o q=>?_;have st:∀u,H b=ar u->bj X.prog X.w (kC P (fun a=>(s.heap.get? a).getD {cls:=.none,data:=.fields #[]}) H) s.heap b u:=fun u Z=>
  (I.hok b u Z).stay (fun _ _ _ z=>z) (fun c z=>bE z (by intro _ z;cases z)) fun c xs z=>bE z (by intro _ z;cases z)
 unfold kC at q;split at q
 ·next vs hb=>
  split at q
  ·cases q;obtain⟨z,its,n,r,e⟩:=(show bj X.prog X.w H s.heap b (.lst vs)from I.hok b _ hb);exact⟨by dsimp only;rw[e];rfl,z,its,n,r,e⟩
  ·cases q;exact st _ hb
 ·exact st _ q
theorem aO(h:SE X E e m):SE X E e (aR m):=by
 intro pins s σ H Q I O;obtain⟨ι,S,ρ,rep,re,r,L,C,k⟩:=O;have Z:ij (m ρ) S=ar (r,L):=C;unfold ij at Z;cases q:m ρ S with
 |none=>rw[q]at Z;cases Z
 | some p=>
  obtain⟨F,T⟩:=p;rw[q]at Z;cases F with
  |ex x=>
   cases Z;exact h pins s σ H Q I ⟨ι,S,ρ,rep,re,.ex x,_,q,k⟩
  | ok d=>
   dsimp only at Z;by_cases hl:T.length<=S.length
   ·rw[if_pos hl]at Z;cases Z;exact h pins s σ H Q I ⟨ι,S,ρ,rep,re,.ok d,_,q,k⟩
   ·rw [if_neg hl]at Z;by_cases hk:nJ S T
    ·rw [if_pos hk]at Z;cases z:iw S.length (vX T S.length 60) d with
     |none=>rw[z]at Z;cases Z
     | some u=>
      rw[z]at Z;cases Z;refine de (h pins s σ H (fun v R=>∃P:List dt,∀os,Q v (kC P os R)) I ⟨ι,S,ρ,rep,re,.ok d,T,q,fun W R x Y v N=>?_⟩) fun uv s' ⟨v,R,I',N,P,hq⟩=>?_
      ·refine⟨W.drop ι.length,fun os=>?_⟩;obtain⟨J,rep2⟩:=vd rep x Y hk os;have U:Rep X.K ι (kC (W.drop ι.length) os R) (T.take S.length):=by rw[<-rep.len];exact rep2
       have O:W.take ι.length=ι:=by obtain⟨more,rfl⟩:=x.ids;simp
       have rel:RelD X.K ι (kC (W.drop ι.length) os R) u v:=by
        have:=xb (n:=ι.length) (os:=os) (fun k us a=>by rw[rep.len];exact yk Y 60 k us a) Y.nd N (by rw[rep.len];exact z)
        rw[O]at this;exact this
       exact k ι _ J U v rel
      ·obtain⟨os,G⟩:=Inv.fz I' P;exact⟨v,_,G,N,hq os⟩
    ·rw[if_neg hk]at Z;cases Z
end
end S3
namespace S4
open PySem PySem.Spec PyProof.Rows L2 S3
theorem He{A:h_}(P:A.handled=none)(W:t≠it)(Z:Array aC):
  Draws prog w A it [it,t] Z.size (fun i v=>Z[i]? =ar v) (fun i h=>h.IsTupleIter it t i/\h.IsTuple t Z) where
 live:=fun _ _ st=>let ⟨⟨o,ho,_⟩,_⟩:=st;⟨o,ho⟩
 frame:=fun _ _ _ st U=>⟨st.1.at fun o e=>U it (by simp) o e,let ⟨o,e,r⟩:=st.2;⟨o,U t (by simp) o e,r⟩⟩
 item:=fun i s Q E T st R=>i9 st.1 st.2 (x:=Z[i]) (by simp[T]) fun h' Y X=>R _ h' s.toks (by simp[T]) ⟨Y,let ⟨o,e,r⟩:=st.2;⟨o,X.extBut _ _ W e,r⟩⟩ X
 done:=fun s Q E st S=>ki P st.1 st.2 (by simp) S
theorem Hf{A:h_}(P:A.handled=none)(W:t≠it)(Z:Array aC):
  Draws prog w A it [it,t] Z.size (fun i v=>Z[i]? =ar v) (fun i h=>h.IsListIter it t i/\h.IsList t Z) where
 live:=fun _ _ st=>let ⟨⟨o,ho,_⟩,_⟩:=st;⟨o,ho⟩
 frame:=fun _ _ _ st U=>⟨st.1.at fun o e=>U it (by simp) o e,let ⟨o,e,r⟩:=st.2;⟨o,U t (by simp) o e,r⟩⟩
 item:=fun i s Q E T st R=>wpAny_nextOf_list_item st.1 st.2 (x:=Z[i]) (by simp[T]) fun h' Y X=>R _ h' s.toks (by simp[T]) ⟨Y,let ⟨o,e,r⟩:=st.2;⟨o,X.extBut _ _ W e,r⟩⟩ X
 done:=fun s Q E st S=>wpAny_nextOf_list_end P st.1 st.2 (by simp) S
def JY(rd:Hp->List V->Prop):It:=⟨fun i H=>∃va,rd H va/\i<va.length,fun i H x H'=>∃va p v,rd H va/\H p=none/\va[i]? =ar v/\x= .ref p/\H'=upd H p (.tup [.int i,v]),fun i H=>∃va,rd H va/\va.length<=i⟩
theorem rP{P:e_}{w:f'}{K:d_}{G:List Expr}{x1}{tp:Pos}{e it t:dt}(R:e≠it)(p:t≠e)(c6:t≠it){rd:Hp->List V->Prop}{sti:Nat->gd->Prop}{sq:Array aC->gd->Prop}
  (so:∀i h,sti i h->∃o,h.get? it=ar o/\∀v,o.data≠ .cell v) (sk:∀i h h',sti i h->(∀o,h.get? it=ar o->h'.get? it=ar o)->sti i h')
  (J:∀(X:Cx) pins s σ H U,X.prog=P->X.w=w->X.K=K->L2.Inv X pins σ H s->rd H U->∃its:List aC,bb U its/\sq its.toArray s.heap)
  (dr:∀(A:h_) (items:Array aC),A.handled=none->Draws P w A it [it,t] items.size (fun i v=>items[i]? =ar v) (fun i h=>sti i h/\sq items h))
  (dn:∀(A:h_) (items:Array aC) (i:Nat) (s:b_) (Q:aC->b_->Prop) (E:aC->b_->Prop),A.handled=none->sti i s.heap->sq items s.heap->items[i]? =none->
   (∀h' e,QU it s.heap h'->(∃o,h'.get? e=ar o/\o.cls= .type "StopIteration")->E (.ref e) {s with heap:=h'})->ee (fc P w) A (j1 (.ref it)) Q E s):
  Turn P w K (.Tuple G x1 tp) (JY rd) [e,it] e (fun i h=>(∃old,IsEnum h e it i old)/\sti i h) where
 mem:=by simp
 obj:=fun i h st b Z=>by
  obtain⟨⟨old,he⟩,hs⟩:=st;simp only[gc,f_,or_false]at Z;rcases Z with rfl|rfl
  ·exact⟨_,he,fun v z=>by cases z⟩
  ·exact so i h hs
 keep:=fun i h h' st k=>by
  obtain⟨⟨old,he⟩,hs⟩:=st;exact⟨⟨old,k e (by simp) _ he⟩,sk i h h' hs fun o q=>k it (by simp) o q⟩
 item:=by
  intro X hP hw f m i pins s σ H E I hf st hg;subst hP hw f;obtain⟨⟨old,he⟩,hs⟩:=st;obtain⟨U,y,ga⟩:=hg;obtain⟨its,B,j⟩:=J X pins s σ H U rfl rfl rfl I y;have hl:=B.length;obtain⟨u1,n,a4⟩:=B.get (LG ga);have D:=dr X.A.in1 its.toArray (by show X.A.handled=none;exact I.ok.hd m)
  refine wpAny_pyNext_enum_itemD D he ⟨hs,j⟩ (by rw[LR];omega) R (by simp[R,j7 p]) fun x h' u hx d a C hz hk=>?_
  have S:x=u1:=by
   have:its[i]? =ar x:=by simpa using hx
   rw[n]at this;exact(L5 this).symm
  subst S;have g:H s.heap.objs.size=none:=I.hok.fresh (LF _);have lt:∀{c o},s.heap.get? c=ar o->s.heap.objs.size≠c:=fun e=>M6 (LK e);obtain⟨oi,a0,_⟩:=so i _ hs;refine⟨_,rfl,wpAny_letOwnedTupleGo_enum d fun O L Y=>?_⟩;have kk:∀b o,b∉[e,it]->s.heap.get? b=ar o->O.get? b=ar o:=fun b o Z q=>by
   simp only[gc,f_,or_false,not_or]at Z;exact Y.extBut _ _ Z.1 (hk b o Z.1 Z.2 q)
  have N:O.get? s.heap.objs.size=ar {cls:=.type "tuple",data:=.seq #[.int i u,x]}:=Y.extBut _ _ (lt he) C;have I2:L2.Inv X pins σ (upd H s.heap.objs.size (.tup [.int i,U[i]])) {s with heap:=O,toks:=u+1}:=tm (o:=.tup [.int i,U[i]]) I hf kk (LF _) ⟨⟨by show 2<=sizeLine;decide,_,N,rfl⟩,[.int i u,x],.cons ⟨u,rfl⟩ (.cons a4 .nil),_,N,rfl,_,rfl⟩
  refine⟨.ref s.heap.objs.size,_,I2,rfl,⟨U,_,_,y,g,LG ga,rfl,rfl⟩,⟨⟨_,L⟩,sk _ _ _ a.1 fun o q=>(Y.2 it (j7 R)).trans q⟩,fun b Z=>?_⟩;obtain⟨ob,ho,_⟩:∃ob,s.heap.get? b=ar ob/\True:=by
   simp only[gc,f_,or_false]at Z;rcases Z with rfl|rfl
   ·exact⟨_,he,trivial⟩
   ·exact⟨_,a0,trivial⟩
  rw[aB (LQ (LK ho))];exact(hf b Z).1
 done:=by
  intro X hP hw f m i pins s σ H E I hf st hg;subst hP hw f;obtain⟨⟨old,he⟩,hs⟩:=st;obtain⟨U,y,ga⟩:=hg;obtain⟨its,B,j⟩:=J X pins s σ H U rfl rfl rfl I y;have hl:=B.length;have C:s.TypeIs (.ref e) "enumerate":=⟨_,he,rfl⟩;unfold z4;refine LA (NR (wpAny_callSpecial?_slot (name:=i_ "__next__") C F.slot_enumerate_next
   (ME F.slot_enumerate_next C F.entry_enumerate_next ?_ (F.args_enumerate_next_1 _))))
  show ee _ _ (QV (.ref e) 2>>=_) _ _ _;refine LA (MJ he rfl (x:=.ref it) rfl ?_);refine LA (dn X.A.in1 its.toArray i s _ _ (by show X.A.handled=none;exact I.ok.hd m) hs j (by simp;omega) fun h' x l S=>?_)
  obtain⟨o,ho,r⟩:=S;refine LA (ND (T:="StopIteration") (b:=c_) ⟨o,ho,r⟩ OH ?_);exact LD ⟨rfl,tj (t':=s.toks) I hf fun b o Z q=>l b o (fun z=>Z (by simp[z])) q⟩
 self:=fun _ _ _ _ _ st h=>by
  obtain⟨⟨old,he⟩,_⟩:=st;exact Pm he h
theorem vf(l:dt)(Z:Array aC):
  Meets (Builtin.«enumerate.__new__» ⟨[.type "enumerate",.ref l],[]⟩) (fun _ R s=>s.heap.IsTuple l Z/\
   R (.ok (.ret (.ref (s.heap.push (Ds l)).objs.size)))
    {s with heap:=(s.heap.push (Ds l)).push {cls:=.type "enumerate",data:=.fields #[.none,.bool dV,.ref s.heap.objs.size,l4 0,.none,.none]}}):=
 .of_wp fun prog w A R s h=>by
  obtain⟨P,g,d,Q,os⟩:=s;obtain⟨U,h⟩:=h;have T:=sub_enumerate;have X:QF (QX ⟨P,g,d,Q,os⟩) l Z:=U;obtain⟨⟨c,S,O,N⟩,Y,W,n,hd⟩:=U;replace W:c= .type "tuple":=W;replace hd:O= .seq Z n:=hd;subst W hd
  wp_walk using Nt Y
  refine wpAny_stack_any fun st=>LD ?_;split
  ·rename_i c _ _ _ _ _
   cases (c==u4 "enumerate")
   ·wp_walk using Nt Y,M9 X
    exact⟨_,rfl,h⟩
   ·wp_walk using Nt Y,M9 X
    exact⟨_,rfl,h⟩
  ·wp_walk using Nt Y,M9 X
   exact⟨_,rfl,h⟩
section
variable {prog:e_}{w:f'}{A:h_}{E:aC->b_->Prop}{s:b_}
theorem xc{Q:aC->b_->Prop}(Y:s.heap.IsTuple l items)
  (h:∀h',IsEnum h' (s.heap.objs.size+1) s.heap.objs.size 0 .none->h'.IsTupleIter s.heap.objs.size l 0->(∀b o,s.heap.get? b=ar o->h'.get? b=ar o)->Q (.ref (s.heap.objs.size+1)) {s with heap:=h'}):
  ee (fc prog w) A (call (.type "enumerate") [.ref l]) Q E s:=by
 refine callType_new F.called_enumerate (by decide) (F.typeCall_enumerate_1 _) (F.newCall_enumerate_1 _) (fun obj=>F.args_object_init_2 obj _) F.entry_enumerate_new (vf l items) ⟨Y,?_⟩
 have Z:(s.heap.push (Ds l)).objs.size=s.heap.objs.size+1:=MG ..;have g2:=LM (s.heap.push (Ds l)) (o:={cls:=.type "enumerate",data:=.fields #[.none,.bool dV,.ref s.heap.objs.size,l4 0,.none,.none]}) rfl;have g1:((s.heap.push (Ds l)).push {cls:=.type "enumerate",data:=.fields #[.none,.bool dV,.ref s.heap.objs.size,l4 0,.none,.none]}).get? s.heap.objs.size=ar (Ds l):=LB _ (LM _ rfl);show _/\_;rw[Z]at g2⊢;exact⟨⟨_,g2,rfl⟩,h _ g2 ⟨_,g1,rfl,rfl⟩ fun b o q=>LB _ (LB _ q)⟩
end
theorem Em{X:Cx}{O:List Expr}{x1}{tp p pos:Pos}{e:Expr}{x:TA}(n:Gl X "enumerate")(r:X.mg "enumerate"=none)(w:PA X [e] x)(hs:eb [e] X.env=[(dV,h9 e X.env)]:=by rfl):
  PI X (.Tuple O x1 tp) (.Call (.Name "enumerate" p) [e] [] pos) (fun σ H R=>x σ H fun xs Y=>(∃a Z,xs=[.ref a]/\Y a=ar (.tup Z)/\R (JY fun H J=>H a=ar (.tup J)) Y)\/
   (∃a Z,xs=[.ref a]/\Rd Y a (.lst Z)/\R (JY fun H J=>Rd H a (.lst J)) Y)):=by
 intro pins s σ H R I h;refine R0 (kF I n r (show kS "enumerate"=ar (.type "enumerate") by decide+kernel) (MT (de (w pos pins s σ H _ I h) fun us s1 ⟨vs,Y,I1,r1,q1⟩=>?_) hs (by rfl)) (by decide) (by decide))
 have fresh:∀c∈[s1.heap.objs.size+1,s1.heap.objs.size],s1.heap.objs.size<=c:=fun c U=>by
  simp only[gc,f_,or_false]at U;omega
 rcases q1 with⟨a,Z,rfl,hA,q⟩|⟨a,Z,rfl,hA,q⟩
 ·obtain⟨u,rfl,B⟩:=vals1 r1;cases (show u=er a from B);obtain⟨P,C,S,_⟩:=I1.tuple (.of hA);have a1:a<s1.heap.objs.size:=by obtain⟨_,e,_⟩:=S;exact LK e
  refine xc S fun h' T F G=>Pm T ?_;refine⟨s1.heap.objs.size+1,_,_,_,Y,rfl,I1.kept (t':=s1.toks) G,rP (e:=s1.heap.objs.size+1) (it:=s1.heap.objs.size) (t:=a) (PC _) (LQ (MA a1)) (LQ a1) (sti:=fun i h=>h.IsTupleIter s1.heap.objs.size a i) (sq:=fun its h=>h.IsTuple a its)
   (fun i h ⟨o,e,c,d⟩=>⟨o,e,fun v z=>by rw[d]at z;cases z⟩) (fun i h h' st k=>st.at k) (fun X pins s σ H Z _ _ _ I N=>let ⟨its,rv,p,_⟩:=I.tuple (.of N);⟨its,rv,p⟩)
   (fun A items W=>He W (LQ a1) items) (fun A items i s Q E W K y L k=>ki W K y L k),⟨⟨_,T⟩,F⟩,fun c U=>I1.fpOk (fresh c U) (I1.hok.fresh (fresh c U)),q⟩
 ·obtain⟨u,rfl,B⟩:=vals1 r1;cases (show u=er a from B);obtain⟨P,C,S,_⟩:=I1.list (.inl hA);have a1:a<s1.heap.objs.size:=by obtain⟨_,e,_⟩:=S.isList;exact LK e
  refine call_enumerate_list S.isList fun h' T F m G=>Pm T ?_;refine⟨s1.heap.objs.size+1,_,_,_,Y,rfl,I1.kept (t':=s1.toks) G,rP (e:=s1.heap.objs.size+1) (it:=s1.heap.objs.size) (t:=a) (PC _) (LQ (MA a1)) (LQ a1) (sti:=fun i h=>h.IsListIter s1.heap.objs.size a i) (sq:=fun its h=>h.IsList a its)
   (fun i h ⟨o,e,c,d⟩=>⟨o,e,fun v z=>by rw[d]at z;cases z⟩) (fun i h h' st k=>st.at k) (fun X pins s σ H Z _ _ _ I N=>let ⟨its,rv,p,_⟩:=I.list (.inl N);⟨its,rv,p.isList⟩)
   (fun A items W=>Hf W (LQ a1) items) (fun A items i s Q E W K y L k=>wpAny_nextOf_list_end W K y L k),⟨⟨_,T⟩,F⟩,fun c U=>I1.fpOk (fresh c U) (I1.hok.fresh (fresh c U)),q⟩
def nL(xs:List D):List D:=xs.zipIdx.map fun p=>.tup [.int p.2,p.1]
def Fp:D->M Iter
 | .tup xs=>a_ ⟨nL xs,.none⟩
 | .fz xs=>a_ ⟨nL xs,.none⟩
 |_=>M.fail
theorem Cf{xs:List D}{i:Nat}{d:D}(h:(nL xs)[i]? =ar d):∃x,xs[i]? =ar x/\d= .tup [.int i,x]:=by
 unfold nL at h;rw[L3]at h;cases q:xs.zipIdx[i]? with
 |none=>rw[q]at h;cases h
 |some p=>
  rw[q]at h;cases h;rw[List.getElem?_zipIdx]at q;cases z:xs[i]? with
  |none=>rw[z]at q;cases q
  |some x=>rw[z]at q;cases q;exact⟨x,rfl,by simp⟩
theorem nM{K:d_}{ι:List dt}{H:Hp}{xs:List D}{T:Hp->List V->Prop}(R:∀H Y vb,T H Y->T H vb->Y=vb)
  (U:∀Z X S2,ExtN ι H Z X->Rep K Z X S2->∃Y,T X Y/\RelDs K Z X xs Y):ir K ⟨nL xs,.none⟩ (JY T) ι H:=by
 intro Z X S2 e rep2 ok i;obtain⟨Y,S,O⟩:=U Z X S2 e rep2;have L:=O.length;refine⟨fun d hd=>?_,fun hlen=>⟨Y,S,by unfold nL at hlen;simp at hlen;omega⟩⟩
 obtain⟨x,P,rfl⟩:=Cf hd;have J:=(LH.mp P).1;refine⟨⟨Y,S,by omega⟩,?_⟩
 rintro v H3 ⟨va',p,v1,gA,hp,g1,rfl,rfl⟩;cases R _ _ _ S gA;obtain⟨v2,e2,N⟩:=O.get' P;obtain rfl:v2=v1:=L5 (e2.symm.trans g1);have Q:Ext Z X Z (upd X p (.tup [.int i,v2])):=dU hp;exact⟨Q,ff rep2 hp,.tup aM (.cons (.int _) (.cons (N.later rep2 Q) .nil))⟩
theorem En{X:Cx}{E:XD}{Y:List Expr}{x1}{tp p pos:Pos}{a:Expr}{m:TM}(O:X.mg "enumerate"=none)(Q:SE X E a m)(K:Gl X "enumerate":=by rfl)(hs:eb [a] X.env=[(dV,h9 a X.env)]:=by rfl):
  SI X E (.Tuple Y x1 tp) (.Call (.Name "enumerate" p) [a] [] pos) (fun ρ=>do let x<-m ρ;Fp x):=by
 intro pins s σ H R I h;refine Em K O (dj Q gy hs) hs pins s σ H R I ?_;obtain⟨ι,S,ρ,rep,re,c⟩:=h;refine⟨ι,S,ρ,rep,re,ak (ah c) fun d N S1 J e1 rep1 c1 v r=>?_⟩;show(∃a T,[v]=[V.ref a]/\_)\/_;cases d with
 |tup xs=>
  obtain⟨a,vs,rfl,Z,W⟩:=r.tup_inv;refine .inl ⟨a,vs,rfl,Z,ai c1 .refl rep1 _ (nM (fun H T P e1 e2=>by rw[e1]at e2;cases e2;rfl) fun U L S2 e rep2=>?_)⟩
  exact⟨vs,(e.oth _ _ Z (rep1.notIn Z (by intro _ z;cases z)) (by intro _ z;cases z) (by intro _ z;cases z)).1,W.laterN rep1 e⟩
 |fz xs=>
  obtain⟨a,o,vs,rfl,Z,W⟩:=r.fz_inv;refine .inr ⟨a,vs,rfl,.inr ⟨o,Z⟩,ai c1 .refl rep1 _ (nM (fun H T P e1 e2=>Rd.lst_inj e1 e2) fun U L S2 e rep2=>?_)⟩;exact⟨vs,.inr ⟨o,(e.oth _ _ Z (rep1.notIn Z (by intro _ z;cases z)) (by intro _ z;cases z) (by intro _ z;cases z)).1⟩,W.laterN rep1 e⟩
 |_=>exact(ag c1).elim
abbrev Fq(m:TM):aF->M Iter:=fun ρ=>do let x<-m ρ;Fp x
end S4
namespace S3
open PySem PySem.Spec PyProof.Rows L2
section
variable {X:Cx}{E:XD}{a b e c o tg:Expr}{m n l:TM}{pos p2:Pos}{es:List Expr}{ms:aF->M (List D)}
theorem range_any{bs:List Bool}:(ey bs.length).any (fun i=>bs.getD i dV)=bs.any id:=by
 induction bs with
 |nil=>rfl
 |cons b bs ih=>
  rw[Mg,NH,PX,List.any_map];simp only[Fn,Qk,id];congr 1
theorem Ac(J:X.calm=c_):cR X (.builtin "any") (fun xs H Q=>∃(p:dt) (bs:List Bool),xs=[.ref p]/\iY X.K H p (bs.map V.bl)/\Q (.bl (bs.any id)) H):=by
 intro pins s σ H xs us Q I r h;obtain⟨p,bs,rfl,G,q⟩:=h;obtain⟨u,rfl,P⟩:=vals1 r;cases (show u=er p from P);obtain⟨its,S,O,B⟩:=I.list G;have T:=O.isList;refine call_any_walk (Ow T ?_);have W:p<s.heap.objs.size:=by obtain⟨o,C,_⟩:=T;exact LK C
 have hlen:=S.length;refine⟨s.heap.objs.size,_,_,_,_,_,fun i=>bs.getD i dV,rfl,Q_ (A:=X.A.in1) (by show X.A.handled=none;exact I.ok.hd J) s.heap.objs.size p (LQ W) its.toArray,⟨⟨_,LM _ rfl,rfl,rfl⟩,T.push _⟩,?_,fun h' z N=>?_⟩
 ·intro i v s' y w F U;have Y:its[i]? =ar v:=by simpa using F
  have x:i<its.length:=(LH.mp Y).1;have Z:i<bs.length:=by rw[LC]at hlen;omega
  have:(bs.map V.bl)[i]? =ar (.bl bs[i]):=by rw[L3,LG Z];rfl
  obtain⟨u,R,L⟩:=S.get this;rw[Y]at R;cases R;cases (show v=ri bs[i]from L);have:bs.getD i dV=bs[i]:=by simp[Rq,Z]
  dsimp only at U;rw[this]at U;exact MR U
 ·have e1:its.toArray.size=bs.length:=by rw[LR, <-hlen,LC]
  rw[e1,range_any];refine⟨.bl _,H,I.kept (fun b o e=>N b o ?_ (LB _ e)),rfl,q⟩;have:b≠s.heap.objs.size:=LQ (LK e);simpa using this
def Cg:List D->M D
 |[.lst k]=>do
  let xs<-getL k
  match boolsOf xs with
  |some bs=>a_ (.bl (bs.any id))
  |none=>M.fail
 |[.fz xs]=>match boolsOf xs with
  |some bs=>a_ (.bl (bs.any id))
  |none=>M.fail
 |_=>M.fail
theorem Ad:jO X.K E Cg (fun xs H Q=>∃(p:dt) (bs:List Bool),xs=[.ref p]/\iY X.K H p (bs.map V.bl)/\Q (.bl (bs.any id)) H):=by
 intro ι S H ds vs Q rep r c;unfold Cg at c;split at c
 ·next k=>
  obtain⟨v,ws,rfl,T,W⟩:=r.cons_inv;cases W.nil_inv;obtain⟨p,rfl,Y⟩:=T.lst_inv;obtain⟨es,us,_,R,U,Z⟩:=a9 c rep Y;cases q:boolsOf es with
  |none=>rw[q]at Z;exact(ag Z).elim
  |some bs=>
   rw[q]at Z;refine⟨p,bs,rfl,.of ?_,ai Z .refl rep _ (.bl _)⟩;rw[<-fT U q];exact R
 ·next es=>
  obtain⟨v,ws,rfl,T,W⟩:=r.cons_inv;cases W.nil_inv;obtain⟨p,o,us,rfl,Y,U⟩:=T.fz_inv;cases q:boolsOf es with
  |none=>rw[q]at c;exact(ag c).elim
  |some bs=>
   rw[q]at c;refine⟨p,bs,rfl,.inl (.inr ⟨o,?_⟩),ai c .refl rep _ (.bl _)⟩;rw[<-fT U q];exact Y
 ·exact(ag c).elim
theorem Hg(Z:X.calm=c_)(U:X.mg "any"=none)(Y:SE X E e m)(W:Gl X "any":=by rfl)(hs:eb [e] X.env=[(dV,h9 e X.env)]:=by rfl):SE X E (.Call (.Name "any" p) [e] [] pos) (cW Cg m):=
 gE (Ac Z) Ad W U (by decide+kernel) (af Y aq hs) (by decide) (by decide) hs rfl
end
end S3
section
namespace S3
open PySem PySem.Spec PyProof.Rows L2
section
variable {prog:e_}{w:f'}{A:h_}{R:Rv->b_->Prop}{s:b_}
theorem xf
  (Y:r7 (fc prog w) A (.compLoop (.ListComp elt [c1,⟨target,iter,ifs,0⟩] scope pos) 1 it acc env) R s)
  (h:ee (fc prog w) A (P2 it) (fun Z s'=>r7 (fc prog w) A (.compLoop (.ListComp elt [c1,⟨target,iter,ifs,0⟩] scope pos) 1 Z acc env) R s')
   (notedBy (fc prog w) A env fun x s'=>R (.error x) s') s):
  r7 (fc prog w) A (.compStart (.ListComp elt [c1,⟨target,iter,ifs,0⟩] scope pos) 1 it acc env) R s:=by
 refine On ?_;show ee _ _ ((compStart (.ListComp elt [c1,⟨target,iter,ifs,0⟩] scope pos) 1 it acc env).onRaise (fun x=>do GB x env;K' theWindowsPlace)) _ _ s
 refine wpAny_notedAt ?_;unfold compStart;show ee _ _ (ask>>=_) _ _ s;refine LA (NC (wpAny_ite ?_));split
 ·first
   |exact LA (LD (LD (QP rfl Y)))
   |exact LD (QP rfl Y)
 ·first
   |exact LA (OB (LA (MN (LA (Mb h (fun Z s' h'=>LD (QP rfl h')) fun _ _ x=>x)))))
   |(refine LA (OB ?_);show ee _ _ (K' iter.pos>>=_) _ _ s;exact LA (MN (LA (Mb h (fun Z s' h'=>LD (QP rfl h')) fun _ _ x=>x))))
end
abbrev Hh:=St->Hp->(St->Hp->Prop)->Prop
def ym(J:It)(g:TG)(tt:TT)(tb:Hh)(fin:St->Hp->Prop):St->Hp->Prop:=fun σ H=>∃W:Nat->Nat->St->Hp->Prop,(∃m,W 0 m σ H)/\∀i m σc Hc,W i m σc Hc->
  (J.stop i Hc/\fin σc Hc)\/(J.go i Hc/\∃N:St->Hp->Prop,(∀ σ' H',N σ' H'->∃m',m'<m/\W (i+1) m' σ' H')/\∀x H',J.yld i Hc x H'->g x σc H' fun σ2 H2=>tt σ2 H2 fun b H3=>if b=c_ then tb σ2 H3 N else N σ2 H3)
def KW(X:Cx)(bd:Sem Unit)(tb:Hh):Prop:=∀(pins:List (dt×Obj)) (s:b_) (σ:St) (H:Hp) (N:St->Hp->Prop),Inv X pins σ H s->tb σ H N->∀E,(∀v s',X.xe v s'->E v s')->ee (fc X.prog X.w) X.A bd (fun _ s'=>∃ σ' H',Inv X pins σ' H' s'/\N σ' H') E s
def xg(e:Expr)(d:Nat)(ipos:Pos)(tg:Expr)(ifs:List Expr)(it acc:aC)(env:Env)(bd:Sem Unit):Sem Fin:=do
 K' ipos
 match<-z4 it with
 |none=>a_ (.done .next)
 | some v=>
  EA tg it v
  P1 tg env v
  let mut ok:=c_
  for c in ifs do
   if ok then ok<-isTrue c env (h9 c env)
  if ok then bd
  P_ (.compLoop e d it acc env)
theorem Jl(U S Y T Z:Expr)(W X:List Expr)(scope:Scope)(pos:Pos)(it acc:aC)(env:Env):
  QD (.ListComp U [⟨S,Y,W,0⟩,⟨T,Z,X,0⟩] scope pos) 0 it acc env=xg (.ListComp U [⟨S,Y,W,0⟩,⟨T,Z,X,0⟩] scope pos) 0 Y.pos S W it acc env
  (do let x<-h9 Z env;K' Z.pos;let x<-hY Z env x;let _<-runOwn (.compStart (.ListComp U [⟨S,Y,W,0⟩,⟨T,Z,X,0⟩] scope pos) 1 (<-y3 [x] (P2 x)) acc env) env):=by
 unfold QD xg;simp;rfl
section
variable {X:Cx}{pins:List (dt×Obj)}{σ:St}{H:Hp}{s:b_}
theorem vg{O:Nat->gd->Prop}{Q:St->Hp->Prop}{R:Rv->b_->Prop}
  (U:∀v s',X.xe v s'->False) (G:X.calm=c_) (T:Turn X.prog X.w X.K tg J fp it O) (q:PG X tg g) (B:Dn X ifs tt) (F:KW X bd tb)
  (S:QD (.ListComp elt gens scope pos) d (.ref it) acc X.env=xg (.ListComp elt gens scope pos) d ipos tg ifs (.ref it) acc X.env bd)
  (I:Inv X pins σ H s) (t:O 0 s.heap) (f:∀b∈fp,iZ X pins H b) (h:ym J g tt tb Q σ H) (P:∀s' σ' H',Inv X pins σ' H' s'->Q σ' H'->R (.ok .next) s'):
  r7 (fc X.prog X.w) X.A (.compLoop (.ListComp elt gens scope pos) d (.ref it) acc X.env) R s:=by
 obtain⟨W,⟨m0,p⟩,turn⟩:=h;have Z:∀{H':Hp},(∀b∈fp,H' b=none)->∀b∈fp,iZ X pins H' b:=fun C b Y=>⟨C b Y,(f b Y).2⟩;refine codeAny_loop rfl (fun n s'=>∃i σ' H',Inv X pins σ' H' s'/\O i s'.heap/\(∀b∈fp,H' b=none)/\W i n σ' H') ?_ m0 ⟨0,_,_,I,t,fun b Y=>(f b Y).1,p⟩;rintro n s4 ⟨i,σ4,H4,I4,st4,fr4,w4⟩;show ee _ X.A ((QD (.ListComp elt gens scope pos) d (.ref it) acc X.env).onRaise (fun x=>do GB x X.env;theTreesLotGoes x)) _ _ s4
 refine wpAny_noted ?_;rw[S];refine LA (MN (LA ?_));rcases turn i n σ4 H4 w4 with⟨stop,qn⟩|⟨go,N,hN,step⟩
 ·refine Mb (T.done X rfl rfl rfl G i pins s4 σ4 H4 (fun _ _=>False) I4 (Z fr4) st4 stop) (fun r s5 ⟨hr,I5⟩=>?_) fun _ _ z=>z.elim;subst hr;exact LD (P s5 σ4 H4 I5 qn)
 ·refine Mb (T.item X rfl rfl rfl G i pins s4 σ4 H4 (fun _ _=>False) I4 (Z fr4) st4 go) (fun r s5 ⟨u,hr,h5⟩=>?_) fun _ _ z=>z.elim;subst hr;refine LA (Mb h5 (fun _ s6 ⟨x,H6,I6,r6,y6,st6,fr6⟩=>?_) fun _ _ z=>z.elim);have L:=I6.pinned (Z fr6) (T.obj _ _ st6);refine LA (Mb (q _ s6 σ4 H6 x u _ L r6 (step x H6 y6)) (fun _ s7 ⟨σ7,H7,I7,q7⟩=>?_) fun _ _ z=>(U _ _ z).elim);refine LA (Mb (B _ s7 σ7 H7 _ I7 q7) (fun b s8 ⟨H8,I8,q8⟩=>?_) fun _ _ z=>(U _ _ z).elim);have P_:∀{σ9:St} {H9:Hp} {s9:b_},Inv X (pins++mE fp s6.heap) σ9 H9 s9->N σ9 H9->
    ∃m,m<n/\∃i σ' H',Inv X pins σ' H' s9/\O i s9.heap/\(∀b∈fp,H' b=none)/\W i m σ' H':=fun{σ9 H9 s9} I9 n9=>by
   obtain⟨y,hm,E⟩:=hN σ9 H9 n9;refine⟨y,hm,i+1,σ9,H9,I9.unpinned,T.keep _ _ _ st6 fun b Y o e=>(I9.pin (b,o) (LU _ (LU _ (fD Y e)))).1,fun b Y=>?_,E⟩;obtain⟨o,e,d⟩:=T.obj _ _ st6 b Y;exact(I9.pin (b,o) (LU _ (LU _ (fD Y e)))).2.1
  cases b with
  |false=>exact LD ⟨rfl,P_ I8 q8⟩
  |true=>exact LA (Mb (F _ s8 σ7 H8 N I8 q8 (fun _ _=>False) fun _ _ z=>(U _ _ z).elim) (fun _ s9 ⟨σ9,H9,I9,q9⟩=>LD ⟨rfl,P_ I9 q9⟩) fun _ _ z=>z.elim)
def Ae(p:dt)(te:TE):Hh:=fun σ H N=>te σ H fun y H4=>∃xs,H4 p=ar (.lst xs)/\xs.length<sizeLine/\N σ (upd H4 p (.lst (xs++[y])))
theorem Eo(U:PE X elt te):KW X (do let _<-call (.builtin "list.append") [.ref p, <-h9 elt X.env]) (Ae p te):=by
 intro pins s σ H N I h E Y;refine LA (Mb (U _ s σ H _ I h) (fun y s9 ⟨yv,H9,I9,r9,q9⟩=>?_) Y);obtain⟨xs,Z,T,W⟩:=q9;refine LA (Mb (j9 (X:=X) _ s9 σ H9 (.ref p) [yv] (.ref p) [y] (fun _ S=>N σ S) I9 rfl (.cons r9 .nil) ⟨p,xs,yv,rfl,rfl,Z,T,W⟩) (fun _ s10 ⟨_,H10,I10,_,q10⟩=>?_) Y);exact LD ⟨σ,H10,I10,q10⟩
def JZ(wi:TI)(g:TG)(tt:TT)(tb:Hh):Hh:=fun σ H N=>wi σ H fun J H1=>ym J g tt tb N σ H1
theorem Hi(U:∀v s',X.xe v s'->False)(B:X.calm=c_)(L:PI X tg iter wi)(z:PG X tg g)(K:Dn X ifs tt)(R:PE X elt te)
  (hs:∀x,hY iter X.env x=a_ x):
  KW X (do let x<-h9 iter X.env;K' iter.pos;let x<-hY iter X.env x;let _<-runOwn (.compStart (.ListComp elt [c1,⟨tg,iter,ifs,0⟩] scope pos) 1 (<-y3 [x] (P2 x)) (.ref p) X.env) X.env) (JZ wi g tt (Ae p te)):=by
 intro pins s σ H N I h E S;refine LA (Mb (L pins s σ H _ I h) (fun v s1 Q=>?_) S);refine LA (MN (LA (PQ (hs v) (LA (Mw (Mb Q (fun C s2 F=>?_) S))))));obtain⟨it,q,u,J,t,e,P,T,Y,f2,G⟩:=F;subst e;have loop:r7 (fc X.prog X.w) X.A (.compLoop (.ListComp elt [c1,⟨tg,iter,ifs,0⟩] scope pos) 1 (.ref it) (.ref p) X.env) (fun r s'=>match r with| .ok f=>ee (fc X.prog X.w) X.A (a_ ()) (fun _ s'=>∃Z W,Inv X pins Z W s'/\N Z W) E s'| .error e=>cameBackBy (fc X.prog X.w) X.A X.env E e s') s2:=
  vg (ipos:=iter.pos) U B T z K (Eo R) (by rfl) P Y f2 G fun s' Z W O y=>LD ⟨Z,W,O,y⟩
 exact LA (wpAny_runOwn (xf loop (T.self _ 0 _ _ _ Y loop)))
end
end S3
namespace S3
open PySem PySem.Spec PyProof.Rows L2
def Ci(wi:TI)(js:List (Option Nat))(g:TG)(tt:TT)(tb:dt->Hh):TE:=fun σ H Q=>wi σ H fun J H1=>∀p,H1 p=none->ym J g tt (tb p) (fun _ H'=>Q (.ref p) H') (mH js σ) (upd H1 p (.lst []))
section
variable {X:Cx}{scope:Scope}{Nc:List Str}{js:List (Option Nat)}{pins:List (dt×Obj)}{σ:St}{H:Hp}{s:b_}
theorem Cj(c:CompScope X scope Nc js)(hc:X.calm=c_)(hi:PI X tg iter wi)
  (E:∀C ex s H,PG (aH X scope Nc C ex s H) tg g/\Dn (aH X scope Nc C ex s H) ifs tt/\PI (aH X scope Nc C ex s H) tg2 iter2 wi2/\PG (aH X scope Nc C ex s H) tg2 g2/\Dn (aH X scope Nc C ex s H) ifs2 tt2/\PE (aH X scope Nc C ex s H) elt te)
  (hs:∀x,hY iter X.env x=a_ x:=by intro _;rfl) (B:∀env x,hY iter2 env x=a_ x:=by intro _ _;rfl):
  PE X (.ListComp elt [⟨tg,iter,ifs,0⟩,⟨tg2,iter2,ifs2,0⟩] scope pos) (Ci wi js g tt fun p=>JZ wi2 g2 tt2 (Ae p te)):=by
 intro pins s σ H Q I h;rw[Qm];refine wpAny_comprehension_free rfl hs (fe scope X.env (c.has I.ok)) c.kind c.loc (de (hi pins s σ H _ I h) fun v s1 O=>de O fun c0 s2 h2=>?_);obtain⟨it,P,tn,J,U,e,I2,T,G,f2,n⟩:=h2;subst e;refine Mx (rq fun O S Y R=>?_);dsimp only at S Y R⊢;have n:=n s2.heap.objs.size (I2.hok.fresh (LF _));have u:Inv X pins σ (upd U s2.heap.objs.size (.lst [])) {s2 with heap:=s2.heap.push {cls:=.type "list",dict:=none,data:=.seq ([]:List aC).toArray}}:=
  I2.laid (t':=s2.toks) (fun _ _ q=>LB _ q) (LF _) ⟨L6 _,[],0,.nil,LM _ rfl⟩
 generalize hS3:({s2 with heap:=s2.heap.push {cls:=.type "list",dict:=none,data:=.seq ([]:List aC).toArray}}:b_)=s3 at u;have r:s3.heap=s2.heap.push {cls:=.type "list",dict:=none,data:=.seq ([]:List aC).toArray}:=by rw[<-hS3]
 rw[<-r]at S Y R⊢;generalize hp:s2.heap.objs.size=p at*;have F:∀b∈P,b<p:=fun b Z=>by
  obtain⟨o,e,_⟩:=T.obj _ _ G b Z;rw[<-hp];exact LK e
 have l:∀b∈P,b≠p:=fun b Z=>LQ (F b Z);have i:∀b∈P,iZ X pins (upd U p (.lst [])) b:=fun b Z=>⟨by rw[aB (l b Z)];exact(f2 b Z).1,(f2 b Z).2⟩
 have N:s3.heap.objs.size=p+1:=by rw[r,MG,hp]
 have L:∀b∈P,b<s3.heap.objs.size:=fun b Z=>by rw[N];exact MA (F b Z)
 have W:∀b o,s3.heap.get? b=ar o->O.get? b=ar o:=Y;have f:tn 0 O:=T.keep _ _ _ G fun b Z o e=>W b o (by rw[r];exact LB _ e)
 generalize hC:s3.heap.objs.size=C at*;have d:O.Ns C (fun _=>none):=by simpa using S
 have start:∀tk,Inv (aH X scope Nc C P s3 (upd U p (.lst []))) [] (mH js σ) (upd U p (.lst [])) {s3 with heap:=O,toks:=tk}:=fun tk=>pq c u i (fun b Z=>by rw[hC];exact L b Z) hC.symm d W R
 have ok:=(start 0).ok;have K:∀b∈P,iZ (aH X scope Nc C P s3 (upd U p (.lst []))) [] (upd U p (.lst [])) b:=fun b Z=>
  ⟨(i b Z).1,(ok.exf b Z).1,ok.exfs b Z,.inl Z,(ok.exf b Z).2,fun _ z=>nomatch z⟩
 obtain⟨hG,hT,y,t,j,hE⟩:=E C P s3 (upd U p (.lst []));have loop:∀s':b_,Inv (aH X scope Nc C P s3 (upd U p (.lst []))) [] (mH js σ) (upd U p (.lst [])) s'->tn 0 s'.heap->
   r7 (fc X.prog X.w) X.A (.compLoop (.ListComp elt [⟨tg,iter,ifs,0⟩,⟨tg2,iter2,ifs2,0⟩] scope pos) 0 (.ref it) (.ref p) (aH X scope Nc C P s3 (upd U p (.lst []))).env) (RC (fc X.prog X.w) X.A X.xe none (EP X pins σ Q) (.ref p) C) s':=by
  intro s' I' k;refine vg (X:=aH X scope Nc C P s3 (upd U p (.lst []))) (ipos:=iter.pos) (fun _ _ z=>z) hc T hG hT (Hi (c1:=⟨tg,iter,ifs,0⟩) (scope:=scope) (pos:=pos) (fun _ _ z=>z) hc y t j hE (B _)) (Jl ..) I' k K n fun s5 c3 H5 I5 q5=>?_;obtain⟨m,hm,_⟩:=I5.loc;exact⟨m,hm,fun h2 a=>⟨.ref p,H5,uq u hC.symm i I5 a,rfl,q5⟩⟩
 refine codeAny_compStart_list (loop _ ?_ ?_) (T.self _ 0 _ _ _ ?_ (loop _ ?_ ?_))
 all_goals first
  |exact f
  |(subst hS3;exact start _)
end
end S3
end
namespace S3
open PySem PySem.Spec PyProof.Rows L2
abbrev BM:=aF->M (List D×aF)
def cB(it:Iter)(g:lz)(t:aF->M Bool)(bd:BM):List D->aF->M (List D×aF)
 |[],ρ=>do fB it;a_ ([],ρ)
 | d::ds,ρ=>do
  fB it
  let ρ1<-g d ρ;let b<-t ρ1
  if b=c_ then do
   let x<-bd ρ1;let y<-cB it g t bd ds x.2
   a_ (x.1++y.1,y.2)
  else cB it g t bd ds ρ1
def Af(m:TM):BM:=fun ρ=>do let y<-m ρ;a_ ([y],ρ)
def Hj(mi:aF->M Iter)(g:lz)(t:aF->M Bool)(m:TM):BM:=fun ρ=>do let it<-mi ρ;if it.items.length<=3000 then cB it g t (Af m) it.items ρ else M.fail
abbrev m4(mi:aF->M Iter)(g:lz)(t:aF->M Bool)(mi2:aF->M Iter)(g2:lz)(t2:aF->M Bool)(m:TM)(js:List (Option Nat)):TM:=fun ρ=>do
 let it<-mi ρ;let x<-(if it.items.length<=3000 then cB it g t (Hj mi2 g2 t2 m) it.items (gi js ρ)else M.fail)
 bh x.1
section
variable {K:d_}{p:dt}{Q:D->List dt->aA->Hp->Prop}
structure MkL(K:d_)(p:dt)(ι:List dt)(S:aA)(ρ:aF)(σ:St)(H:Hp)(xs:List D):Prop where
 rep:Rep K ι (cH H p) S
 re:RelE K ι (cH H p) ρ σ
 lst:∃vs,H p=ar (.lst vs)/\RelDs K ι (cH H p) xs vs
 out:p∉ι
abbrev KM:=List D->aF->M D
def Ck(K:d_)(p:dt)(Q:D->List dt->aA->Hp->Prop)(B:Nat)(bd:BM)(tb:Hh):Prop:=
 ∀ ι S ρ σ H xs (k:KM) (N:St->Hp->Prop) (n:Nat),MkL K p ι S ρ σ H xs->xs.length<=n->n+B<=lim->cont K bx (bd ρ>>=fun x=>k (xs++x.1) x.2) ι S (cH H p) Q->
  (∀ ι' S' ρ' σ' H' xs',MkL K p ι' S' ρ' σ' H' xs'->xs'.length<=n+B->Ext ι (cH H p) ι' (cH H' p)->cont K bx (k xs' ρ') ι' S' (cH H' p) Q->N σ' H')->tb σ H N
theorem Hk:Ck K p Q 1 (Af m) (Ae p (tM K bx m)):=by
 intro ι S ρ σ H xs k N n mk O L c R;obtain⟨vs,P,U⟩:=mk.lst;have T:cont K bx (m ρ>>=fun y=>k (xs++[y]) ρ) ι S (cH H p) Q:=by
  have:(Af m ρ>>=fun x=>k (xs++x.1) x.2)=(m ρ>>=fun y=>k (xs++[y]) ρ):=by
   show((m ρ>>=fun y=>a_ ([y],ρ))>>=_)=_;rw[bQ];rfl
  rw[<-this];exact c
 refine⟨ι,S,ρ,mk.rep.unhide,mk.re.unhide,ak (fF (E:=bx) (ah T) P mk.out) fun y ι6 S6 H6 e6 rep6 ⟨hp6,hn6,c7⟩ yv ry=>?_⟩;have Z:Ext ι (cH H p) ι6 (cH H6 p):=e6.hide;have Y:=U.later mk.rep Z;have X:vs.length<sizeLine:=by rw[<-Y.length];exact Nk (by omega) Bd
 refine⟨vs,hp6,X,R ι6 S6 ρ σ _ (xs++[y]) ⟨?_,?_,⟨vs++[yv],aM,?_⟩,hn6⟩ (by simp;omega) ?_ ?_⟩
 ·rw[dJ];exact rep6.hide hp6 hn6
 ·rw[dJ];exact(mk.re.unhide.later mk.rep.unhide e6).hide hp6
 ·rw[dJ];exact Y.append (.cons (ry.hide hp6) .nil)
 ·rw[dJ];exact Z
 ·rw[dJ];exact c7
theorem vh{k:KM}{G:St->Hp->Prop}(a:ir K it J ι1 H1)(hB:Ck K p Q B bd tb)
  (mk:MkL K p ι S ρ σ H xs) (e1:∀ ι2 Y,Ext ι (cH H p) ι2 (cH Y p)->ExtN ι1 H1 ι2 Y) (hl:xs.length<=n) (hn:n+it.items.length*B<=lim) (c:cont K bx (cB it g t bd it.items ρ>>=fun x=>k (xs++x.1) x.2) ι S (cH H p) Q)
  (hf:∀ ι' S' ρ' X U xs',MkL K p ι' S' ρ' X U xs'->xs'.length<=n+it.items.length*B->Ext ι (cH H p) ι' (cH U p)->cont K bx (k xs' ρ') ι' S' (cH U p) Q->G X U):
  ym J (zq K bx g) (vV K bx t) tb G σ H:=by
 refine⟨fun i m T Y=>∃ ι2 S2 ρ2 xs2,m=it.items.length - i/\i<=it.items.length/\MkL K p ι2 S2 ρ2 T Y xs2/\xs2.length<=n+i*B/\Ext ι (cH H p) ι2 (cH Y p)/\
  cont K bx (cB it g t bd (it.items.drop i) ρ2>>=fun x=>k (xs2++x.1) x.2) ι2 S2 (cH Y p) Q,⟨_,ι,S,ρ,xs,rfl,L6 _,mk,by omega,.refl,c⟩,?_⟩
 rintro i m T Y ⟨ι2,S2,ρ2,xs2,hm,hi',mk2,hl2,e2,c2⟩;by_cases hlt:i<it.items.length
 ·have hd:it.items.drop i=it.items[i]::it.items.drop (i+1):=NZ hlt;rw[hd]at c2;have L:cont K bx (fB it>>=fun _=>g it.items[i] ρ2>>=fun Z=>t Z>>=fun b=>if b=c_ then bd Z>>=fun x=>(cB it g t bd (it.items.drop (i+1)) x.2>>=fun y=>k (xs2++x.1++y.1) y.2)else cB it g t bd (it.items.drop (i+1)) Z>>=fun x=>k (xs2++x.1) x.2) ι2 S2 (cH Y p) Q:=by
   have:(cB it g t bd (it.items[i]::it.items.drop (i+1)) ρ2>>=fun x=>k (xs2++x.1) x.2)=(fB it>>=fun _=>g it.items[i] ρ2>>=fun Z=>t Z>>=fun b=>if b=c_ then bd Z>>=fun x=>(cB it g t bd (it.items.drop (i+1)) x.2>>=fun y=>k (xs2++x.1++y.1) y.2)else cB it g t bd (it.items.drop (i+1)) Z>>=fun x=>k (xs2++x.1) x.2):=by
    show((fB it>>=fun _=>g it.items[i] ρ2>>=fun Z=>t Z>>=fun b=>if b=c_ then bd Z>>=fun x=>cB it g t bd (it.items.drop (i+1)) x.2>>=fun y=>a_ (x.1++y.1,y.2)else cB it g t bd (it.items.drop (i+1)) Z)>>=fun x=>k (xs2++x.1) x.2)=_;simp only[bQ,xO,aj,List.append_assoc]
   rw[<-this];exact c2
  obtain⟨ok,A⟩:=iL L mk2.rep;obtain⟨w,a5⟩:=a ι2 Y S2 (e1 _ _ e2) mk2.rep.unhide ok i;obtain⟨go,yl⟩:=w it.items[i] (LG hlt);have O:n+i*B+B<=lim:=by
   have:(i+1)*B<=it.items.length*B:=Nat.mul_le_mul_right _ hlt;rw[NL]at this;omega
  refine .inr ⟨go,fun X U=>∃ ι3 S3 ρ3 xs3,MkL K p ι3 S3 ρ3 X U xs3/\xs3.length<=n+(i+1)*B/\Ext ι (cH H p) ι3 (cH U p)/\cont K bx (cB it g t bd (it.items.drop (i+1)) ρ3>>=fun x=>k (xs3++x.1) x.2) ι3 S3 (cH U p) Q,?_,fun x d hy=>?_⟩
  ·rintro X U ⟨ι3,S3,ρ3,xs3,h1,h2,h3,h4⟩;exact⟨_,by omega,ι3,S3,ρ3,xs3,rfl,hlt,h1,h2,h3,h4⟩
  ·obtain⟨o,rep3,rd⟩:=yl x d hy;obtain⟨vs,r,rx⟩:=mk2.lst;have C:=mk2.out;obtain⟨l,_⟩:=o.oth p _ r C (by intro _ z;cases z)
   have I:Ext ι2 (cH Y p) ι2 (cH d p):=o.hide;have c4:=ah (eR A I);refine⟨ι2,S2,ρ2,it.items[i],rep3,mk2.re.unhide.later mk2.rep.unhide o,rd,ak (fF (E:=bx) c4 l C) fun ρ4 ι4 S4 H4 e4 rep4 ⟨hp4,hn4,c5⟩ σ4 re4=>?_⟩;have u:Rep K ι4 (cH H4 p) S4:=rep4.hide hp4 hn4;have s:Ext ι2 (cH Y p) ι4 (cH H4 p):=I.trans e4.hide;refine⟨ι4,S4,ρ4,rep4,re4,ak (fF (E:=bx) (ah c5) hp4 hn4) fun b ι5 S5 H5 e5 rep5 ⟨hp5,hn5,c6⟩=>?_⟩;have N:Rep K ι5 (cH H5 p) S5:=rep5.hide hp5 hn5;have R:Ext ι2 (cH Y p) ι5 (cH H5 p):=s.trans e5.hide;have f:RelE K ι5 H5 ρ4 σ4:=re4.later rep4 e5;have F:MkL K p ι5 S5 ρ4 σ4 H5 xs2:=⟨N,f.hide hp5,⟨vs,hp5,rx.later mk2.rep R⟩,hn5⟩;cases b with
   |false=>
    have P:cont K bx (cB it g t bd (it.items.drop (i+1)) ρ4>>=fun x=>k (xs2++x.1) x.2) ι5 S5 (cH H5 p) Q:=c6;exact⟨ι5,S5,ρ4,xs2,F,by rw[NL];omega,e2.trans R,P⟩
   |true=>
    have P:cont K bx (bd ρ4>>=fun x=>(fun ys ρ'=>cB it g t bd (it.items.drop (i+1)) ρ'>>=fun y=>k (ys++y.1) y.2) (xs2++x.1) x.2) ι5 S5 (cH H5 p) Q:=c6;refine hB ι5 S5 ρ4 σ4 H5 xs2 (fun ys ρ'=>cB it g t bd (it.items.drop (i+1)) ρ'>>=fun y=>k (ys++y.1) y.2) _ (n+i*B) F hl2 O P fun q S6 j b3 H6 e v b4 e6 c7=>?_;exact⟨q,S6,j,e,v,by rw[NL];omega,e2.trans (R.trans e6),c7⟩
 ·have hd:it.items.drop i=[]:=Ov (by omega)
  rw[hd]at c2;have L:cont K bx (fB it>>=fun _=>k (xs2++[]) ρ2) ι2 S2 (cH Y p) Q:=by
   have:(cB it g t bd [] ρ2>>=fun x=>k (xs2++x.1) x.2)=(fB it>>=fun _=>k (xs2++[]) ρ2):=by
    show((fB it>>=fun _=>a_ ([],ρ2))>>=fun x=>k (xs2++x.1) x.2)=_;simp only[bQ,aj]
   rw[<-this];exact c2
  obtain⟨ok,A⟩:=iL L mk2.rep;rw[Mt]at A;have h:i=it.items.length:=by omega
  refine .inl ⟨(a ι2 Y S2 (e1 _ _ e2) mk2.rep.unhide ok i).2 (by omega),?_⟩
  exact hf ι2 S2 ρ2 T Y xs2 mk2 (by rw[<-h];exact hl2) e2 A
theorem Ext.unhideP{H:Hp}(e:Ext ι (cH H p) ι' (cH H' p))(Y:H p=ar (.lst ws)):ExtN ι H ι' H':=
 ⟨e.ids,fun a o h n t l=>by
  have Z:a≠p:=fun z=>by subst z;rw[Y]at h;exact l ws (L5 h).symm
  obtain⟨X,U⟩:=e.oth a o (by rw[hide_ne Z];exact h) n t
  exact⟨(cg X).2,U⟩⟩
theorem Jm:Ck K p Q 3000 (Hj mi g t m) (JZ (HS K bx mi) (zq K bx g) (vV K bx t) (Ae p (tM K bx m))):=by
 intro ι S ρ σ H xs k N n mk G y c C;obtain⟨vs,B,P⟩:=mk.lst;have L:cont K bx (mi ρ>>=fun it=>(if it.items.length<=3000 then cB it g t (Af m) it.items ρ else M.fail)>>=fun x=>k (xs++x.1) x.2) ι S (cH H p) Q:=by
  have:(Hj mi g t m ρ>>=fun x=>k (xs++x.1) x.2)=(mi ρ>>=fun it=>(if it.items.length<=3000 then cB it g t (Af m) it.items ρ else M.fail)>>=fun x=>k (xs++x.1) x.2):=by
   show((mi ρ>>=fun it=>_)>>=_)=_;rw[bQ]
  rw[<-this];exact c
 refine⟨ι,S,ρ,mk.rep.unhide,mk.re.unhide,ak (fF (E:=bx) (ah L) B mk.out) fun it ι1 S1 H1 e1 rep1 ⟨hp1,hn1,c1⟩ J hJ=>?_⟩;have Z:Ext ι (cH H p) ι1 (cH H1 p):=e1.hide;have T:MkL K p ι1 S1 ρ σ H1 xs:=⟨rep1.hide hp1 hn1,(mk.re.unhide.later mk.rep.unhide e1).hide hp1,⟨vs,hp1,P.later mk.rep Z⟩,hn1⟩;by_cases h:it.items.length<=3000
 ·rw[if_pos h]at c1;exact vh (k:=k) hJ Hk T (fun A w e=>e.unhideP hp1) G (by omega) c1 fun X F ρ' Y z U mk' O I R=>C X F ρ' Y z U mk' (by omega) (Z.trans I) R
 ·rw[if_neg h]at c1;exact(ag (ah c1)).elim
section
variable {X:Cx}{scope:Scope}{Nc:List Str}{js:List (Option Nat)}{elt tg iter tg2 iter2:Expr}{ifs ifs2:List Expr}{pos:Pos}{mi mi2:aF->M Iter}{g g2:lz}{t t2:aF->M Bool}{m:TM}
theorem Ag{T:St}{H:Hp}{Q:VK}(h:tM X.K bx (m4 mi g t mi2 g2 t2 m js) T H Q):
  Ci (HS X.K bx mi) js (zq X.K bx g) (vV X.K bx t) (fun p=>JZ (HS X.K bx mi2) (zq X.K bx g2) (vV X.K bx t2) (Ae p (tM X.K bx m))) T H Q:=by
 obtain⟨ι,S,ρ,rep,re,c⟩:=h;refine⟨ι,S,ρ,rep,re,ak (ah c) fun it C S1 U e1 rep1 c1 J G p R=>?_⟩;by_cases hl:it.items.length<=3000
 ·rw[if_pos hl]at c1;have Z:cH (upd U p (.lst [])) p=U:=by rw[dJ,gF R]
  refine vh (K:=X.K) (p:=p) (Q:=jL X.K Q) (n:=0) (xs:=[]) (k:=fun xs _=>bh xs) (S:=S1) (ρ:=gi js ρ) G Jm ⟨by rw[Z];exact rep1,by rw[Z];exact(re.later rep e1).blk js,⟨[],aM,by rw[Z];exact .nil⟩,rep1.free R⟩
   (fun E y e=>by rw[Z]at e;exact e.unhide.n) (L6 _) (by unfold lim;omega) (by rw[Z];exact c1) fun N A ρ' I z F mk' L B O=>?_
  obtain⟨vs,Y,P⟩:=mk'.lst;have:=(bo O mk'.rep P).2 p kc;rw[uw Y]at this;exact this
 ·rw[if_neg hl]at c1;exact(ag (ah c1)).elim
theorem Cm(c:CompScope X scope Nc js)(U:X.calm=c_)(T:SI X bx tg iter mi)
  (Z:∀C ex s H,SG (aH X scope Nc C ex s H) bx tg g/\Gy (aH X scope Nc C ex s H) bx ifs t/\SI (aH X scope Nc C ex s H) bx tg2 iter2 mi2/\SG (aH X scope Nc C ex s H) bx tg2 g2/\Gy (aH X scope Nc C ex s H) bx ifs2 t2/\SE (aH X scope Nc C ex s H) bx elt m)
  (hs:∀x,hY iter X.env x=a_ x:=by intro _;rfl) (Y:∀env x,hY iter2 env x=a_ x:=by intro _ _;rfl):
  SE X bx (.ListComp elt [⟨tg,iter,ifs,0⟩,⟨tg2,iter2,ifs2,0⟩] scope pos) (m4 mi g t mi2 g2 t2 m js):=
 PE.imp (Cj (wi2:=HS X.K bx mi2) (g:=zq X.K bx g) (tt:=vV X.K bx t) (g2:=zq X.K bx g2) (tt2:=vV X.K bx t2) (te:=tM X.K bx m) c U T Z hs Y) fun _ _ _ q=>Ag q
end
end
end S3
namespace S7
open PySem PySem.Spec PyProof.Rows L2 S3
section
open Sem (wp)
section
variable {prog:e_}{w:f'}{A:h_}{E:aC->b_->Prop}{h:gd}{g:Array P7}{d:Drawn}{t:Nat}{os:Qe}
variable {nm q:Str}{C N:dt}{bs bm bmB:List aC}{hdct:Bool}{sn:List Str}{sub:List aC}{ab:Bool}{col:Option Bool}{dd:Option dt}{k0 k1 k2 k3 k5:Option aC}{B Bn newId nid initId inN:String}{bmN:List aC}
theorem n0(K:y' Bn newId inN bmN)(R:bmB.contains (.type Bn)=c_)(F:y' B nid initId bmB)(T:QZ h bmB bm){mN:Str->Option aC}{rest:List aC}{fI:dt}{oI:Obj}{Q:Fin->b_->Prop}
  (S:h.get? C=ar (x' nm q C N bs bm hdct sn sub ab col dd k0 k1 k2 k3 k5 newId)) (G:h.Ns N mN) (y:mN "__init__"=ar (.ref fI)) (O:h.get? fI=ar oI) (P:oI.cls= .type "function")
  (J:∀h' e,Qd h h' e (.ref C) rest->
   ee (fc prog w) A (call (.ref fI) (.ref e::rest)) (fun r s'=>r= .none/\Q (.done (.ret (.ref e))) s') E ⟨h',g,d,t,os⟩) (hrest:rest.length<=sizeLine:=by size_fits):
  ee (fc prog w) A (Builtin.«type.__call__» ⟨.ref C::rest,[]⟩) Q E ⟨h,g,d,t,os⟩:=by
 repeat (first|with_reducible refine NT S ?_ |with_reducible refine wpAny_madeBy_exc S ?_ |wp_step)
 refine codeAny_call_builtin_code (Oo _ K.quiet) (wpAny_check_new_subU K R T S ?_);refine codeAny_exc_new_subU K R F T S ?_ hrest;show ee _ _ _ _ _ _;have Z:=LB {cls:=.ref C,data:=.fields #[.ref h.objs.size,.none,.none,.none,.bool dV,.none]}
  (LB {cls:=.type "tuple",data:=.seq rest.toArray} S)
 have Y:=LB {cls:=.ref C,data:=.fields #[.ref h.objs.size,.none,.none,.none,.bool dV,.none]}
  (LB {cls:=.type "tuple",data:=.seq rest.toArray} O)
 have W:((h.push {cls:=.type "tuple",data:=.seq rest.toArray}).push {cls:=.ref C,data:=.fields #[.ref h.objs.size,.none,.none,.none,.bool dV,.none]}).Ns N mN:=
  let ⟨o,es,ep,e,r⟩:=G;⟨o,es,ep,LB _ (LB _ e),r⟩
 have X:((h.push {cls:=.type "tuple",data:=.seq rest.toArray}).push
   {cls:=.ref C,data:=.fields #[.ref h.objs.size,.none,.none,.none,.bool dV,.none]}).get? (h.objs.size+1)=ar
   {cls:=.ref C,data:=.fields #[.ref h.objs.size,.none,.none,.none,.bool dV,.none]}:=by heap_get
 have L:(er C::bm).contains (.ref C)=true:=by simp
 have U:=T.keeps (h':=(h.push {cls:=.type "tuple",data:=.seq rest.toArray}).push {cls:=.ref C,data:=.fields #[.ref h.objs.size,.none,.none,.none,.bool dV,.none]})
  fun b o e=>LB _ (LB _ e)
 unfold Qq
 repeat (first|with_reducible refine NT X ?_ |(with_reducible refine wpAny_isSubtype_exc Z ?_;rw[L])|wp_step)
 show ee _ _ (typeLookup (.ref C) _) _ _ _;refine wpAny_typeLookup_tail Z W U F.mroIs F.init.lookup ?_;rw[y];refine Mw (LA ?_);unfold bindSpecial;refine LA (Oc (T:="function") ⟨_,Y,P⟩ ?_);rw[if_pos (by decide)]
 refine LD (LA (Mb (J _ (h.objs.size+1) ⟨fun b o z=>LB _ (LB _ z),MH (N8 _),h.objs.size,X,MH (LF _),?_⟩) (fun r s' I=>?_) fun _ _ x=>x))
 ·exact LB _ (Heap.get?_push_at rfl rfl)
 ·obtain⟨rfl,H⟩:=I
  wp_walk
  exact H
theorem xh(R:y' Bn newId inN bmN)(W:bmB.contains (.type Bn)=c_)(F:y' B nid initId bmB)(T:QZ h bmB bm){mN:Str->Option aC}{rest:List aC}{fI:dt}{oI:Obj}{Q:aC->b_->Prop}
  (Z:h.get? C=ar (x' nm q C N bs bm hdct sn sub ab col dd k0 k1 k2 k3 k5 newId)) (S:h.Ns N mN) (P:mN "__init__"=ar (.ref fI)) (X:h.get? fI=ar oI) (Y:oI.cls= .type "function")
  (U:∀h' e,Qd h h' e (.ref C) rest->
   ee (fc prog w) (A.under (.builtin "type.__call__" ⟨.ref C::rest,[]⟩)) (call (.ref fI) (.ref e::rest)) (fun r s'=>r= .none/\Q (.ref e) s') E ⟨h',g,d,t,os⟩) (hrest:rest.length<=sizeLine:=by size_fits):
  ee (fc prog w) A (call (.ref C) rest) Q E ⟨h,g,d,t,os⟩:=by
 have f1:=tc_lookup;have f2:=tc_bind (.ref C);have O:(⟨h,g,d,t,os⟩:b_).TypeIs (.ref C) "type":=⟨_,Z,rfl⟩;refine NQ (On ?_);show ee _ _ (RX (.ref C) _) _ _ _
 repeat (any_goals (first|assumption|with_reducible refine NT Z ?_ |wp_step))
 refine⟨rfl,?_⟩;refine codeAny_call_builtin_at (Oo _ (by decide+kernel)) entry_typeCall (wpAny_check_type_call_sub Z (n0 (hrest:=hrest) R W F T Z S P X Y fun h' e hm=>?_))
 exact U h' e hm
end
section
variable {M:RB}{A:h_}{E:aC->b_->Prop}{env:Env}
variable {nm q:Str}{C N:dt}{bs bm:List aC}{hdct:Bool}{sn:List Str}{sub:List aC}{ab:Bool}{col:Option Bool}{dd:Option dt}{k0 k1 k2 k3 k5:Option aC}{newId:String}
theorem gK(Y:bm.contains (.type "BaseException")=c_)(S:A.handled=none)
  (h:ee M A x (fun v Z=>∃e t od,v= .ref e/\Z.heap.get? C=ar (x' nm q C N bs bm hdct sn sub ab col dd k0 k1 k2 k3 k5 newId)/\Z.heap.get? e=ar {cls:=.ref C,dict:=od,data:=.fields #[.ref t,.none,.none,.none,.bool dV,.none]}/\E (.ref e) Z) E s):
  ee M A (raiseStmt env (ar x) none) Q E s:=by
 have W:(er C::bm).contains (.type "BaseException")=true:=by rw[List.contains_cons,Y,Bool.or_true]
 unfold raiseStmt;refine LA (Mb h (fun v Z X=>?_) fun _ _ x=>x);obtain⟨e,t,od,rfl,U,he,T⟩:=X;obtain⟨P,g,d,R,os⟩:=Z
 repeat (first|with_reducible refine NT he ?_ |with_reducible refine NT U ?_ |(with_reducible refine wpAny_isSubtype_exc U ?_;rw[W])|wp_step)
 exact wpAny_raiseNew_none S T
end
section
variable {prog:e_}{w:f'}{A:h_}{E:aC->b_->Prop}{s:b_}{env:Env}
variable {nm q:Str}{C N:dt}{bs bm bmB:List aC}{hdct:Bool}{sn:List Str}{sub:List aC}{ab:Bool}{col:Option Bool}{dd:Option dt}{k0 k1 k2 k3 k5:Option aC}{B Bn newId nid initId inN:String}{bmN:List aC}
theorem vi(n:y' Bn newId inN bmN)(G:bmB.contains (.type Bn)=c_)(F:y' B nid initId bmB){mN:Str->Option aC}{x:Str}{y R pos:Pos}{args:List Expr}{fI:dt}{oI:Obj}{Q:Flow->b_->Prop}
  (W:bm.contains (.type "BaseException")=c_) (K:A.handled=none) (P:(nC R (eb args env)).any (·.1)=dV) (l:mN "__init__"=ar (.ref fI)) (L:oI.cls= .type "function")
  (h :ee (fc prog w) A (h9 (.Name x y) env) (fun f U=>f= .ref C/\ee (fc prog w) A (evalArgs (.ref C) c_ (nC R (eb args env)) [])
   (fun a Z=>a.kw=[]/\a.pos.length<=sizeLine/\Z.heap.get? C=ar (x' nm q C N bs bm hdct sn sub ab col dd k0 k1 k2 k3 k5 newId)/\Z.heap.Ns N mN/\QZ Z.heap bmB bm/\Z.heap.get? fI=ar oI/\
    ∀h' e,Qd Z.heap h' e (.ref C) a.pos->ee (fc prog w) (A.under (.builtin "type.__call__" ⟨.ref C::a.pos,[]⟩)) (call (.ref fI) (.ref e::a.pos)) (fun r s'=>r= .none/\
     ∃t od,s'.heap.get? C=ar (x' nm q C N bs bm hdct sn sub ab col dd k0 k1 k2 k3 k5 newId)/\s'.heap.get? e=ar {cls:=.ref C,dict:=od,data:=.fields #[.ref t,.none,.none,.none,.bool dV,.none]}/\E (.ref e) s') E {Z with heap:=h'}) E U) E s):
  ee (fc prog w) A (exec (.Raise (ar (.Call (.Name x y) args [] R)) none pos) env) Q E s:=by
 rw[arm_exec_Raise];first
  |refine LA (MN (gK (C:=C) (nm:=nm) (q:=q) (N:=N) (bs:=bs) (bm:=bm) (hdct:=hdct) (sn:=sn) (sub:=sub) (ab:=ab) (col:=col) (dd:=dd) (k0:=k0) (k1:=k1) (k2:=k2) (k3:=k3) (k5:=k5) (newId:=newId) W K (LA (Mb (Pn (Mb h (fun f U Y=>?_) fun _ _ x=>x)) (fun v O X=>LA (MN (LD X))) fun _ _ x=>x))))
  |(simp only[evalOpt,Option.map];refine LA (MN (gK (C:=C) (nm:=nm) (q:=q) (N:=N) (bs:=bs) (bm:=bm) (hdct:=hdct) (sn:=sn) (sub:=sub) (ab:=ab) (col:=col) (dd:=dd) (k0:=k0) (k1:=k1) (k2:=k2) (k3:=k3) (k5:=k5) (newId:=newId) W K (LA (Mb (Pn (Mb h (fun f U Y=>?_) fun _ _ x=>x)) (fun v O X=>LA (MN (LD X))) fun _ _ x=>x)))))
  |(refine LA (MN (gK (C:=C) (nm:=nm) (q:=q) (N:=N) (bs:=bs) (bm:=bm) (hdct:=hdct) (sn:=sn) (sub:=sub) (ab:=ab) (col:=col) (dd:=dd) (k0:=k0) (k1:=k1) (k2:=k2) (k3:=k3) (k5:=k5) (newId:=newId) W K ?_));refine LA (Mb (Pn (Mb h (fun f U Y=>?_) fun _ _ x=>x)) (fun v O X=>LA (MN (LD X))) fun _ _ x=>x))
 obtain⟨rfl,Y⟩:=Y;unfold callWith;refine LA (Mw (Mb Y (fun a Z S=>LA (MN ?_)) fun _ _ x=>x));obtain⟨apos,J⟩:=a;obtain⟨H,hlen,u,m,T,I,S⟩:=S;obtain rfl:J=[]:=H;obtain⟨i,g,d,j,os⟩:=Z;simp only[P];refine LA (wpAny_keeperOf_exc u ?_);refine LA (xh (hrest:=hlen) n G F T u m l I L fun h' e hm=>Mb (S h' e hm) (fun r s' z=>⟨z.1,LA (Mw (wpAny_point (LD ?_)))⟩) fun _ _ x=>x);obtain⟨_,t,od,o,k,p⟩:=z;exact⟨e,t,od,rfl,o,k,p⟩
end
end
end S7
namespace S7
open PySem PySem.Spec PySem.W PyProof.Rows
section
open Builtin Builtin.ObjectAttr
def vj:List aC->Bool
 | .ref _:: .ref _::r=>r==[.type "ValueError",.type "Exception",.type "BaseException",.type "object"]
 |_=>dV
theorem Ah(e:vj l=c_):∃a b,l= .ref a:: .ref b::[.type "ValueError",.type "Exception",.type "BaseException",.type "object"]:=by
 unfold vj at e;split at e
 ·next a b r=>exact⟨a,b,by rw[PZ.mp e]⟩
 ·cases e
theorem Cn(Z:aC)(e:vj l=c_):refuseLoop Z "__setattr__" l=a_ ():=by
 obtain⟨a,b,rfl⟩:=Ah e;rw[refuseLoop_ref,refuseLoop_ref];exact PySem.F.store_ValueError.passes Z
structure ExcS(K:R1)(C:dt):Prop where
 sa:A2 K (.ref C) "__setattr__"=ar (ar (.builtin "object.__setattr__"))
 ob:Rt K C (.type "object")=ar c_
 cd:∃cd,RZ K C=ar cd/\cd.hasDict=c_/\vj cd.mro=c_
section
variable {prog:e_}{w:f'}{A:h_}{E:aC->b_->Prop}{s:b_}{K:R1}{x C:dt}{o:Obj}{vs:Array aC}{mA:Str->Option aC}{name:Str}{v:aC}{R:Rv->b_->Prop}
theorem Co{Q:Fin->b_->Prop}(c:ExcS K C)(X:K.In s.heap)(O:s.heap.get? x=ar o)(l:o.cls= .ref C)(N:o.data= .fields vs)
  (p:(o.dict=none/\∀n,mA n=none)\/∃d,o.dict=ar d/\d≠x/\s.heap.Ns1 d mA)
  (m:∀h' tk' dx,h'.Ns1 dx (fun y=>if y=name then ar v else mA y)->dx≠x->h'.get? x=ar {o with dict:=ar dx}->(o.dict=ar dx\/(o.dict=none/\s.heap.get? dx=none))->
   (∀b o,b≠x->b≠dx->s.heap.get? b=ar o->h'.get? b=ar o)->Q (.done (.ret .none)) {s with heap:=h',toks:=tk'}) (hw:Within mA ns:=by within_ways) (a0:ns.length<=sizeLine:=by size_fits):
  ee (fc prog w) A (storeInOwnDict (.ref x) (.ref C) (.str name tk) name v b) Q E s:=by
 obtain⟨cd,q,u,_⟩:=c.cd;obtain⟨h,g,d,t,os⟩:=s;obtain⟨oc,od,a3,B⟩:=o;dsimp only at O l N p;subst l N;unfold storeInOwnDict;refine LA (LD ?_);show ee _ _ (ownDictForStores (.ref x)>>=_) _ _ _;unfold ownDictForStores instanceDict;refine LA (LA (wpAny_loadPart O (LA ((looks_clsIn X q).here ?_))));rw[u];simp only[u0,fg,if_false];rcases p with⟨hdn,hmA⟩|⟨dx,hdx,hne,hns⟩
 ·have L:od=none:=hdn;subst L;simp only[typeHasDict,u0,Bool.or_self,fg,if_false];have Y:(h.push {cls:=.type "dict",data:=.dict #[]}).get? x=ar ⟨.ref C,none,.fields vs,B⟩:=LB _ O;have W:x≠h.objs.size:=LQ (LK O);refine LA (wpAny_alloc' ?_);refine LA (wpAny_update' Y ?_);refine LD ?_;have r:((h.push {cls:=.type "dict",data:=.dict #[]}).update x fun o=>{cls:=o.cls,dict:=ar h.objs.size,data:=o.data,slots:=o.slots}).get? h.objs.size
    =ar {cls:=.type "dict",data:=.dict #[]}:=
   (Nx _ _ _ _ W.symm).trans (Heap.get?_push_at rfl rfl)
  have F:((h.push {cls:=.type "dict",data:=.dict #[]}).update x fun o=>{cls:=o.cls,dict:=ar h.objs.size,data:=o.data,slots:=o.slots}).Ns h.objs.size (fun _=>none):=
   ⟨_, #[],_,r,rfl,fun e he=>absurd he (by simp),fun _=>rfl⟩
  show ee _ _ (storeInDict h.objs.size (.str name tk) name v) _ _ _;unfold storeInDict newKeyGuard;refine LA (LD (LA (wpAny_nsSet1 (Heap.Ns1.of_empty F) fun h' Z hs=>?_)));obtain⟨j,I,H,S,P,U⟩:=Z.count (PR name v Ri);refine LA (wpAny_lookBehind S (by rw[P];exact pastItsLine_dict (LS U (by rw[Mg,E1,ML];omega))) ?_)
  wp_walk
  refine m h' _ h.objs.size ?_ W.symm ?_ (.inr ⟨rfl,MH (LF _)⟩) (fun b k G T z=>?_)
  ·obtain⟨f,es,ep,e1,e2,i,eu,a⟩:=Z;exact⟨f,es,ep,e1,e2,i,eu,fun y=>by rw[a y];by_cases hy:y=name<;>simp[hy,hmA]⟩
  ·exact(hs.2 x W).trans (MC _ Y rfl)
  ·exact(hs.2 b T).trans ((Nx _ _ _ _ G).trans (LB _ z))
 ·have J:od=ar dx:=hdx;subst J;refine LD ?_;show ee _ _ (storeInDict dx (.str name tk) name v) _ _ _;unfold storeInDict newKeyGuard;refine LA (LD (LA (wpAny_nsSet1 hns fun h' Z hs=>?_)));obtain⟨j,I,H,S,P,U⟩:=Z.count (PR name v hw);refine LA (wpAny_lookBehind S (by rw[P];exact pastItsLine_dict (LS U (by rw[Mg];omega))) ?_)
  wp_walk
  exact m h' _ dx Z hne ((hs.2 x hne.symm).trans O) (.inl rfl) (fun b k _ T z=>(hs.2 b T).trans z)
theorem nN{Q:Unit->b_->Prop}(c:ExcS K C)(X:K.In s.heap)(S:s.heap.get? x=ar o)(P:o.cls= .ref C)(W:o.data= .fields vs)(G:A2 K (.ref C) name=ar none)
  (J:(o.dict=none/\∀n,mA n=none)\/∃d,o.dict=ar d/\d≠x/\s.heap.Ns1 d mA)
  (H:∀h' Y Z,h'.Ns1 Z (fun y=>if y=name then ar v else mA y)->Z≠x->h'.get? x=ar {o with dict:=ar Z}->(o.dict=ar Z\/(o.dict=none/\s.heap.get? Z=none))->
   (∀b o,b≠x->b≠Z->s.heap.get? b=ar o->h'.get? b=ar o)->Q () {s with heap:=h',toks:=Y}) (t:Within mA ns:=by within_ways) (L:ns.length<=sizeLine:=by size_fits):
  ee (fc prog w) A (setAttr (.ref x) name v) Q E s:=by
 obtain⟨cd,N,u,O⟩:=c.cd;have U:notCls o=true:=by unfold notCls;rw[W]
 have I:∃od,InstAt s.heap x o C od:=by
  rcases J with⟨hdn,_⟩|⟨Z,hdx,_,⟨od,es,ep,e1,_⟩⟩
  ·exact⟨none,S,P,U,by rw[hdn];trivial⟩
  ·exact⟨ar od,S,P,U,by rw[hdx];exact e1⟩
 obtain⟨od,I⟩:=I;refine set_plain X I c.sa ?_;have T:=PySem.F.store_object;have sub:Looks (fc prog w) s.heap (Qq (.ref x) (.type "object")) true:=I.type.andThen (looks_mroIn X c.ob);refine NX T.slot.plain T.entry (@check_slot (fc prog w) _ _ {s with toks:=s.toks+1} "object.__setattr__" "object" "__setattr__" (.ref x) [.str name s.toks,v] [] _ T.kind T.split sub (T.args (.ref x) (.str name s.toks) v) ?_);have hm:Looks (fc prog w) s.heap (mroOf (.ref C)) cd.mro:=(looks_clsIn X N).andThen .now;rw[osa_eq,refuse_eq];refine LA (LA (I.type _ _ _ _ (fun _ _ e=>e) (LA (hm _ _ _ _ (fun _ _ e=>e) ?_))));rw[Cn _ O];refine LD (LA (I.type _ _ _ _ (fun _ _ e=>e) (LA (QG X G _ _ _ _ (fun _ _ e=>e) (LA (LD ?_))))));exact Co (s:={s with toks:=s.toks+1}) c X S P W J (fun h' Y Z a1 a2 r B z=>H h' Y Z a1 a2 r B z) t L
end
end
end S7
namespace S7
open PySem PySem.Spec PyProof.Rows L2 S3
def f9(C a t:dt)(od:Option dt):gd->Prop:=fun h=>h.get? a=ar {cls:=.ref C,dict:=od,data:=.fields #[.ref t,.none,.none,.none,.bool dV,.none]}
def ib(dx:dt)(fs:List (Str×V)):gd->Prop:=fun h=>∃mA,h.Ns1 dx mA/\(∀f,si (fs.lookup f) (mA f))/\PySem.Within mA (fs.map (·.1))
theorem Ai{Z:gd}(p:f9 C a t od h1)(k:∀o,h1.get? a=ar o->Z.get? a=ar o):f9 C a t od Z:=k _ p
theorem Aj{Z:gd}(p:ib dx fs h1)(k:∀o,h1.get? dx=ar o->Z.get? dx=ar o):ib dx fs Z:=by
 obtain⟨mA,⟨o,es,ep,e,r⟩,q⟩:=p;exact⟨mA,⟨o,es,ep,k _ e,r⟩,q⟩
theorem Cp(p:f9 C a t od h):bj P w H h a (.ext (f9 C a t od)):=⟨p,⟨_,p⟩,fun _ _ q k=>Ai q k⟩
theorem Fs(p:ib dx fs h):bj P w H h dx (.ext (ib dx fs)):=⟨p,(let ⟨_,⟨o,_,_,e,_⟩,_⟩:=p;⟨o,e⟩),fun _ _ q k=>Aj q k⟩
section
variable {X:Cx}{pins:List (dt×Obj)}{σ:L2.St}{H:Hp}{s:b_}{h':gd}{t':Nat}
theorem Inv.laidG(I:L2.Inv X pins σ H s)(k:∀b u,s.heap.get? b=ar u->h'.get? b=ar u)(W:s.heap.get? a=none)(Y:bj X.prog X.w (upd H a o) h' a o):L2.Inv X pins σ (upd H a o) {s with heap:=h',toks:=t'}:=by
 have Z:H a=none:=fK.gone I.hok W;have ne:∀b u,s.heap.get? b=ar u->b≠a:=fun b u q=>gn q W;refine I.un (t':=t') ⟨fun b u q _ _ _=>k b u q,fun b u q _ _ _=>⟨u.slots,k b u q⟩,fun b u q n _=>by rw[aB (ne b u q)];exact n,fun b u q _=>⟨u,k b u q⟩,fun b xs q=>by rw[aB (aE q Z)];exact q,fun b u xs q=>by rw[aB (aE q Z)];exact q,fun b U q=>⟨#[],by rw[aB (aE q Z),q];simp⟩⟩ fun b u e=>?_
 by_cases hb:b=a
 ·subst hb;rw[aM]at e;cases e;exact Y
 ·rw[aB hb]at e;exact(I.hok b u e).stay (fun c v _ q=>k c v q) (fun c q=>by rw[aB (aE q Z)];exact q) fun c xs q=>by rw[aB (aE q Z)];exact q
theorem Inv.write2(I:L2.Inv X pins σ H s)(R:H a=ar (.ext φ))(Z:(∃ ψ,H b=ar (.ext ψ))\/s.heap.get? b=none)(k:∀c v,c≠a->c≠b->s.heap.get? c=ar v->h'.get? c=ar v)(T:∃v,h'.get? a=ar v)(S:∃v,h'.get? b=ar v)
  (P:b≠a) (Q:∀H',bj X.prog X.w H' h' a o) (nb:∀H',bj X.prog X.w H' h' b u):L2.Inv X pins σ (upd (upd H b u) a o) {s with heap:=h',toks:=t'}:=by
 have U:∀c v,H c=ar v->(∀ ψ,v≠ .ext ψ)->c≠a/\c≠b:=fun c v e n=>by
  refine⟨fun z=>?_,fun z=>?_⟩
  ·subst z;rw[R]at e;cases e;exact n _ rfl
  ·subst z;rcases Z with⟨ψ,Z⟩|Z
   ·rw[Z]at e;cases e;exact n _ rfl
   ·rw[fK.gone I.hok Z]at e;cases e
 have free:∀c v,s.heap.get? c=ar v->H c=none->c≠a/\c≠b:=fun c v q n=>by
  refine⟨fun z=>?_,fun z=>?_⟩
  ·subst z;rw[R]at n;cases n
  ·subst z;rcases Z with⟨ψ,Z⟩|Z
   ·rw[Z]at n;cases n
   ·rw[Z]at q;cases q
 have up:∀c v,H c=ar v->(∀ ψ,v≠ .ext ψ)->upd (upd H b u) a o c=ar v:=fun c v e n=>by
  obtain⟨Y,W⟩:=U c v e n;rw[aB Y,aB W];exact e
 refine I.un (t':=t') ⟨fun c v q n _ _=>k c v (free c v q n).1 (free c v q n).2 q,fun c v q n _ _=>⟨v.slots,k c v (free c v q n).1 (free c v q n).2 q⟩,fun c v q n _=>by rw[aB (free c v q n).1,aB (free c v q n).2];exact n,fun c v q _=>?_,fun c xs q=>up c _ q (by intro _ z;cases z),fun c w xs q=>up c _ q (by intro _ z;cases z),fun c O q=>⟨#[],by rw[up c _ q (by intro _ z;cases z)];simp⟩⟩ fun c v e=>?_
 ·by_cases Y:c=a
  ·subst Y;exact T
  ·by_cases W:c=b
   ·subst W;exact S
   ·exact⟨v,k c v Y W q⟩
 ·by_cases Y:c=a
  ·subst Y;rw[aM]at e;cases e;exact Q _
  ·rw[aB Y]at e;by_cases W:c=b
   ·subst W;rw[aM]at e;cases e;exact nb _
   ·rw[aB W]at e;have own:∀d,H d=ar (.own c)->d≠a/\d≠b:=fun d q=>U d _ q (by intro _ z;cases z)
    refine(I.hok c v e).stay (fun d w hd q=>?_) (fun d q=>up d _ q (by intro _ z;cases z)) fun d xs q=>up d _ q (by intro _ z;cases z)
    rcases hd with rfl|hd
    ·exact k _ w Y W q
    ·exact k d w (own d hd).1 (own d hd).2 q
end
section
variable {X:Cx}{o value:Expr}{ta tv:TE}{f:Str}{pos pos':Pos}
def Jn(K:d_)(ta tv:TE)(f:Str):TS:=fun D σ H=>tv σ H fun y H1=>ta σ H1 fun x H2=>∃p C t,x= .ref p/\ExcS K C/\G3 K (.ref C) f=ar none/\
  ((H2 p=ar (.ext (f9 C p t none))/\∀dx,H2 dx=none->dx≠p->D.nx σ (upd (upd H2 dx (.ext (ib dx [(f,y)]))) p (.ext (f9 C p t (ar dx)))))\/
   (∃dx fs,H2 p=ar (.ext (f9 C p t (ar dx)))/\H2 dx=ar (.ext (ib dx fs))/\dx≠p/\fs.lookup f=none/\fs.length<=100/\D.nx σ (upd (upd H2 dx (.ext (ib dx (fs++[(f,y)])))) p (.ext (f9 C p t (ar dx))))))
theorem nO{α:Type}{g f:Str}{y:α}:∀{fs:List (Str×α)},fs.lookup f=none->(fs++[(f,y)]).lookup g=if g=f then ar y else fs.lookup g
 |[],_=>by
  show(match g==f with|true=>ar y|false=>none)=_
  by_cases h:g=f
  ·subst h;simp
  ·rw[if_neg h,OX h];rfl
 | (a,b)::r,h=>by
  rw[Mj]at h;by_cases hf:f=a
  ·subst hf;simp at h
  ·rw[OX hf]at h;rw[List.cons_append,Mj,Mj,nO (fs:=r) h];by_cases hg:g=a
   ·subst hg;have Z:¬ g=f:=fun z=>hf z.symm;simp[Z]
   ·rw[OX hg]
theorem yn(n:PE X o ta)(l:PE X value tv)(hs:k7 value (ar (.Attribute o f pos')) pos.line X.env=a_ dV):PS X (.Assign [.Attribute o f pos'] value pos) (Jn X.K ta tv f):=by
 intro pins s σ H D I h;refine plainObj_wpAny_Assign_Attribute (de (l pins s σ H _ I h) fun u s1 ⟨y,H1,I1,ry,q⟩=>de (n pins s1 σ H1 _ I1 q) fun m s2 ⟨x,H2,I2,rx,p,C,t,ex,c,hf,q2⟩=>?_) hs;subst ex;obtain rfl:m=er p:=rx;rcases q2 with⟨hp,q⟩|⟨Z,fs,hp,hd,W,hl,hlen,q⟩
 ·have L:s2.heap.get? p=ar {cls:=.ref C,dict:=none,data:=.fields #[.ref t,.none,.none,.none,.bool dV,.none]}:=(I2.hok p _ hp).1;refine nN (mA:=fun _=>none) (ns:=[]) c I2.kIn L rfl rfl hf (.inl ⟨rfl,fun _=>rfl⟩) (fun h' T Z S W Y U B=>?_) Ri (by simp)
  rcases U with U|⟨_,hnew⟩
  ·cases U
  have J:f9 C p t (ar Z) h':=Y;have P:ib Z [(f,y)] h':=⟨_,S,fun g=>by
   show si (match g==f with|true=>ar y|false=>none) _
   by_cases hg:g=f
   ·subst hg;simp;exact ry
   ·rw[OX hg,if_neg hg];exact trivial,PR f u Ri⟩
  obtain⟨F,⟨od,es,ep,e1,_⟩,_⟩:=id P;have G:=Inv.write2 (t':=T) (a:=p) (b:=Z) (o:=.ext (f9 C p t (ar Z))) (u:=.ext (ib Z [(f,y)])) I2 hp (.inr hnew) (fun c v N A q=>B c v N A q) ⟨_,Y⟩ ⟨_,e1⟩ W (fun _=>Cp J) (fun _=>Fs P);exact⟨σ,_,G,q Z (fK.gone I2.hok hnew) W⟩
 ·have L:s2.heap.get? p=ar {cls:=.ref C,dict:=ar Z,data:=.fields #[.ref t,.none,.none,.none,.bool dV,.none]}:=(I2.hok p _ hp).1;obtain⟨mA,R,Q,hw⟩:=(I2.hok Z _ hd).1;refine nN (mA:=mA) (ns:=fs.map (·.1)) c I2.kIn L rfl rfl hf (.inr ⟨Z,rfl,W,R⟩) (fun h' T E S w Y U B=>?_) hw (by rw[LC,ML];omega)
  have O:Z=E:=by
   rcases U with U|⟨U,_⟩
   ·exact L5 U
   ·cases U
  subst O;have J:f9 C p t (ar Z) h':=Y;have P:ib Z (fs++[(f,y)]) h':=⟨_,S,fun g=>by
   rw[nO hl];by_cases hg:g=f
   ·subst hg;simp;exact ry
   ·rw[if_neg hg,if_neg hg];exact Q g,by
   have:=PR f u hw;intro z r;have:=this z r;simp only[List.map_append,M_,Qs,wm,gc,f_,or_false]at this⊢;exact this.symm⟩
  obtain⟨F,⟨od,es,ep,e1,_⟩,_⟩:=id P;have G:=Inv.write2 (t':=T) (a:=p) (b:=Z) (o:=.ext (f9 C p t (ar Z))) (u:=.ext (ib Z (fs++[(f,y)]))) I2 hp (.inl ⟨_,hd⟩) (fun c v N A q=>B c v N A q) ⟨_,Y⟩ ⟨_,e1⟩ W (fun _=>Cp J) (fun _=>Fs P);exact⟨σ,_,G,q⟩
end
end S7
section
namespace S7
open PySem PySem.Spec PyProof.Rows L2 S3
theorem Ep{K:d_}{Z:Str->Option aC}(X:K.In h)(G:h.Ns N Z)(e:p4 K N n=ar (ar v)):Z n=ar v:=by
 obtain⟨o,es,ep,Y,hd,_,hf⟩:=G;unfold p4 at e;split at e
 ·rename_i c d es' n' sl q
  have:=X _ _ q;rw[Y]at this;cases this;cases hd;split at e
  ·rename_i en he
   cases e;rw[<-hf];unfold nsFind findBy;rw[<-O2,he];rfl
  ·split at e<;>cases e
 ·cases e
def kl(K:d_)(C f:dt):Bool:=match K.lookup C with
 |some ⟨.type "type",_,.cls cd,sl⟩=>(match cd.mro,sl.toList with
  | .ref C'::bm,[_,_,_,_,ar (.builtin n),_]=>C'==C && n=="ValueError.__new__" && !cd.hasDel && W.tailIn K HX bm && W.nsOkIn K cd.ns && p4 K cd.ns "__init__"==ar (ar (.ref f)) && cd.hasDict && vj cd.mro
  |_,_=>dV) && (G3 K (.ref C) "__setattr__"==ar (ar (.builtin "object.__setattr__"))) && (match K.lookup f with|some o=>o.cls== .type "function"|none=>dV)
 |_=>dV
theorem rQ{K:d_}(X:K.In h)(c:ExcC K C)(q:kl K C f=c_):ExcS K C/\(∃o,K.lookup f=ar o/\o.cls= .type "function")/\∃bm N nm qn bs hdct sn sub ab col dd k0 k1 k2 k3 k5 mN,
  h.get? C=ar (x' nm qn C N bs bm hdct sn sub ab col dd k0 k1 k2 k3 k5 "ValueError.__new__")/\h.Ns N mN/\mN "__init__"=ar (.ref f)/\QZ h HX bm:=by
 unfold kl at q;split at q
 case h_2=>cases q
 case h_1 dd cd O ho=>
 simp only[j3,beq_iff_eq]at q;obtain⟨⟨q,T⟩,Y⟩:=q;split at q
 case h_2=>cases q
 case h_1 C' bm k0 k1 k2 k3 n k5 hm hs=>
 simp only[j3,beq_iff_eq,L_]at q;obtain⟨⟨⟨⟨⟨⟨⟨I,en⟩,Z⟩,J⟩,U⟩,L⟩,S⟩,Q⟩:=q;subst I en;have R:QI K C'=ar cd:=by unfold QI;rw[ho]
 refine⟨⟨T,c.ob,cd,R,S,Q⟩,?_,?_⟩
 ·split at Y
  ·next o hf=>exact⟨o,hf,PZ.mp Y⟩
  ·cases Y
 rcases cd with⟨nm,bs,mro,ns,qn,hd,sn,sub,ab,col,del⟩;dsimp only at hm Z U L;subst hm Z;obtain rfl:O= #[k0,k1,k2,k3,ar (.builtin "ValueError.__new__"),k5]:=by rcases O with⟨l⟩;simp only at hs;rw[hs]
 have P:h.Ns ns (h.nsMap ns):=.of_isNs (W.isNs_of_in X U);exact⟨bm,ns,nm,qn,bs,hd,sn,sub,ab,col,dd,k0,k1,k2,k3,k5,_,X _ _ ho,P,Ep X P L,W.tail_of_in X J⟩
def J0(C:dt):Sp:=fun vs H Q _=>∃e t v1 v2,vs=[.ref e,v1,v2]/\H e=ar (.ext (f9 C e t none))/\∀dx,H dx=none->dx≠e->Q .non (upd (upd H dx (.ext (ib dx [("many",v1),("most",v2)]))) e (.ext (f9 C e t (ar dx))))
theorem vk(h:a≠b):upd (upd H a o) b u=upd (upd H b u) a o:=by
 funext c;unfold upd;by_cases h1:c=b
 ·by_cases h2:c=a
  ·exact absurd (h2.symm.trans h1) h
  ·rw[if_pos h1,if_neg h2,if_pos h1]
 ·rw[if_neg h1];by_cases h2:c=a
  ·rw[if_pos h2,if_pos h2]
  ·rw[if_neg h2,if_neg h2,if_neg h1]
theorem Er{P:e_}{w:f'}{K:d_}{S:Str->Option aC}{base:gd}{C f:dt}{J:g_}{X:n3}{y v B p z m G u:Pos}(F:Fun K "__init__" "TooGreat.__init__" X f J)(L:ExcS K C)(c:ExcC K C)
  (I:FnScope ["self","many","most"] ["self","many","most"] (ao X)) (R:∀x∈(["self","many","most"]:List Str),(ao X).names.lookup x=ar .local)
  (n:dm X=[.Assign [.Attribute (.Name "self" y) "many" v] (.Name "many" B) p,.Assign [.Attribute (.Name "self" z) "most" m] (.Name "most" G) u]):
  FnOk P w K S base (kz P w) 1 f J ["self","many","most"] (J0 C):=by
 obtain⟨k,od,kV,doc,pm,an,U,ct,r,rfl,o,N⟩:=F.ex;refine AZ o N I (fun vs H Q E ⟨_,_,_,_,h,_⟩=>by rw[h];rfl) fun A outer s H vs Q E l h=>?_
 rw[n];have v0:yR (jH (kz P w) P w K S base ["self","many","most"] "TooGreat.__init__" (ao X) f U A outer s H E).env.scope "self":=.inl (R "self" (by simp))
 have v1:yR (jH (kz P w) P w K S base ["self","many","most"] "TooGreat.__init__" (ao X) f U A outer s H E).env.scope "many":=.inl (R "many" (by simp))
 have v2:yR (jH (kz P w) P w K S base ["self","many","most"] "TooGreat.__init__" (ao X) f U A outer s H E).env.scope "most":=.inl (R "most" (by simp))
 refine⟨_,oR (yn (pv 0 rfl v0) (pv 1 rfl v1) rfl) (sv (yn (pv 0 rfl v0) (pv 2 rfl v2) rfl)),?_⟩;obtain⟨e,t,T,O,rfl,he,q⟩:=h;refine⟨T,rfl,.ref e,rfl,e,C,t,rfl,L,c.mf,.inl ⟨he,fun Z hd Y=>?_⟩⟩;refine⟨O,rfl,.ref e,rfl,e,C,t,rfl,L,c.ms,.inr ⟨Z,[("many",T)],aM,by rw[aB Y];exact aM,Y,rfl,by simp,?_⟩⟩
 have:=q Z hd Y;have e2:upd (upd (upd (upd H Z (.ext (ib Z [("many",T)]))) e (.ext (f9 C e t (ar Z)))) Z (.ext (ib Z [("many",T),("most",O)]))) e (.ext (f9 C e t (ar Z)))=upd (upd H Z (.ext (ib Z [("many",T),("most",O)]))) e (.ext (f9 C e t (ar Z))):=by
  rw[vk Y.symm,sj,sj]
 show Q .non _;rw[<-e2]at this;exact this
end S7
namespace S7
open PySem PySem.Spec PyProof.Rows L2 S3
section
variable {X:Cx}{Ek:XK}
theorem Inv.forget{H:Hp}(I:L2.Inv X pins σ (upd (upd H dx (.ext (ib dx fs))) e (.ext φ)) s)(Q:H dx=none)(R:H e=none)(T:dx≠e):
  L2.Inv X pins σ (upd H dx (.xd fs)) s:=by
 have Z:∀b u,upd (upd H dx (.ext (ib dx fs))) e (.ext φ) b=ar u->(∀ χ,u≠ .ext χ)->upd H dx (.xd fs) b=ar u:=fun b u q n=>by
  by_cases W:b=e
  ·subst W;rw[aM]at q;cases q;exact absurd rfl (n _)
  ·rw[aB W]at q;by_cases Y:b=dx
   ·subst Y;rw[aM]at q;cases q;exact absurd rfl (n _)
   ·rw[aB Y]at q⊢;exact q
 have U:∀b,upd (upd H dx (.ext (ib dx fs))) e (.ext φ) b=none->upd H dx (.xd fs) b=none:=fun b q=>by
  by_cases W:b=e
  ·subst W;rw[aM]at q;cases q
  ·rw[aB W]at q;by_cases Y:b=dx
   ·subst Y;rw[aM]at q;cases q
   ·rw[aB Y]at q⊢;exact q
 refine I.un (t':=s.toks) ⟨fun b o q _ _ _=>q,fun b o q _ _ _=>⟨o.slots,q⟩,fun b o _ n _=>U b n,fun b o q _=>⟨o,q⟩,fun b xs q=>Z b _ q (by intro _ z;cases z),fun b o u q=>Z b _ q (by intro _ z;cases z),fun b P q=>⟨#[],by rw[Z b _ q (by intro _ z;cases z)];simp⟩⟩ fun b u q=>?_
 by_cases Y:b=dx
 ·subst Y;rw[aM]at q;cases q;have S:=I.hok b (.ext (ib b fs)) (by rw[aB T];exact aM)
  obtain⟨mA,W,Y,_⟩:=S.1;exact⟨mA,W,Y⟩
 ·rw[aB Y]at q;have W:b≠e:=fun z=>by rw[z,R]at q;cases q
  exact(I.hok b u (by rw[aB W,aB Y];exact q)).stay (fun _ _ _ z=>z) (fun c z=>Z c _ z (by intro _ z;cases z)) fun c xs z=>Z c _ z (by intro _ z;cases z)
def Cq:List D->M Out
 |[a,b]=>M.raise (.exc "TooGreat" [a,b])
 |_=>M.fail
abbrev oC(ms:aF->M (List D)):cT:=fun ρ=>do let ds<-ms ρ;Cq ds
theorem Ak(L:Leaves X Ek)(hc:X.calm=c_)(eK:fV X.K=c_)(a3:p4 X.K gg "TooGreat"=ar (ar (.ref C)))(b2:kl X.K C f=c_)
  (F:FnOk X.prog X.w X.K X.mg X.base (kz X.prog X.w) k f fd ["self","many","most"] (J0 C)) (hb:Binds X.K fd ["self","many","most"] []) (hr:Room (k+1) X.A)
  (ha:SA X (ue X.K Ek) (e::es) ms) (hg:Gl X "TooGreat":=by rfl)
  (he:eb (e::es) X.env=(dV,h9 e X.env)::eb es X.env:=by rfl) (b:(nC cpos (eb es X.env)).any (·.1)=false:=by rfl):
  SS X (ue X.K Ek) (.Raise (ar (.Call (.Name "TooGreat" np) (e::es) [] cpos)) none pos) (oC ms):=by
 intro pins s σ H T I h;obtain⟨ι,S,ρ,rep,re,c⟩:=h;obtain⟨R,j⟩:=jU eK (show("TooGreat":Str)∈aX by decide)
 have eC:R=C:=by
  have:=j.ns.symm.trans a3;cases this;rfl
 subst eC;obtain⟨cS,⟨oI,a0,a6⟩,bm,N,nm,qn,bs,hdct,sn,sub,ab,col,dd,k0,k1,k2,k3,k5,mN,hC,hN,hi,tl⟩:=rQ I.mod.kin j.ck b2;have hm:X.mg "TooGreat"=ar (.ref R):=L4 I.mod.kin I.mod.glob j.ns;refine vi (k5:=k5) (k3:=k3) (k2:=k2) (k1:=k1) (k0:=k0) (nm:=nm) (q:=qn) (C:=R) (N:=N) (bm:=bm) (bs:=bs) (hdct:=hdct) (sn:=sn) (sub:=sub) (ab:=ab) (col:=col) (dd:=dd) (fI:=f) (oI:=oI) Ni (by decide) Ni (mN:=mN) (tl.hasType PySem.F.excBase_ValueError.hasBase) (I.ok.hd hc) (by rw[he];show(dV||(nC cpos (eb es X.env)).any (·.1))=dV;rw[b];rfl) hi a6 (iX I hg hm ⟨rfl,?_⟩ (by decide))
 have G:=ha cpos pins s σ H _ I ⟨ι,S,ρ,rep,re,ak (ah c) fun ds U S1 Q e1 rep1 c1 vs E=>(⟨U,S1,ds,rep1,E,c1⟩:∃U S1 ds,Rep X.K U Q S1/\RelDs X.K U Q ds vs/\cont X.K (ue X.K Ek) (Cq ds) U S1 Q _)⟩;rw[he]at G⊢;refine NW (Mb G (fun us s2 a4=>?_) fun _ _ z=>z);obtain⟨vs,Q,o,rv,U,S1,ds,rep1,E,c1⟩:=a4
 match ds,E,c1 with
 |[],E,c1=>exact(ag c1).elim
 |[_],E,c1=>exact(ag c1).elim
 |_::_::_::_,E,c1=>exact(ag c1).elim
 | [da,db],E,c1=>
  obtain⟨p,ws,rfl,ra,r2⟩:=E.cons_inv;obtain⟨y,e5,rfl,rb,r3⟩:=r2.cons_inv;cases r3.nil_inv;have hlen:us.length=2:=rv.length.symm;refine⟨rfl,?_,o.bk _ _ hC,hN.keeps o.bk,tl.keeps o.bk,o.bk _ _ (I.mod.kin _ _ a0),fun h' Z hm=>?_⟩
  ·show us.length<=sizeLine;rw[hlen,ML];decide
  ·obtain⟨t,h1,h2,h3⟩:=hm.there;have l:Q Z=none:=fK.gone o.hok hm.new;have g:L2.Inv X pins σ (upd Q Z (.ext (f9 R Z t none))) {s2 with heap:=h'}:=Inv.laidG (t':=s2.toks) o hm.keeps hm.new (Cp h1);have a:J0 R [.ref Z,p,y] (upd Q Z (.ext (f9 R Z t none))) (fun v H'=>v= .non/\∃Y,upd Q Z (.ext (f9 R Z t none)) Y=none/\Y≠Z/\H'=upd (upd (upd Q Z (.ext (f9 R Z t none))) Y (.ext (ib Y [("many",p),("most",y)]))) Z (.ext (f9 R Z t (ar Y)))) Ek:=
    ⟨Z,t,p,y,rfl,aM,fun Y hd P=>⟨rfl,Y,hd,P,rfl⟩⟩
   have b1:bb [V.ref Z,p,y] (er Z::us):=.cons rfl rv;refine NQ (M7 (F.run _ X.stack _ _ ⟨er Z::us,[]⟩ (er Z::us) _ _ Ek (hr.make R us []) (g.env0.make R us []) ?_ b1 a) fun r s' J=>?_)
   ·have:=hb {s2 with heap:=h'} (er Z::us) g.kIn (by simp[hlen])
    rw[Mt]at this;exact this
   ·cases r with
    |error x=>exact L.pass pins σ _ _ x s' g J
    | ok fl=>
     cases fl with
     |next=>exact hO J
     |brk=>exact hO J
     |cont=>exact hO J
     | ret u=>
      obtain⟨v,H',i,a5,ev,Y,n,P,rfl⟩:=g.after J;subst ev;have O:Q Y=none:=by rw[aB P]at n;exact n
      have e2:upd (upd (upd Q Z (.ext (f9 R Z t none))) Y (.ext (ib Y [("many",p),("most",y)]))) Z (.ext (f9 R Z t (ar Y)))=upd (upd Q Y (.ext (ib Y [("many",p),("most",y)]))) Z (.ext (f9 R Z t (ar Y))):=by
       rw[vk P.symm,sj]
      rw[e2]at i;have B:s'.heap.get? Z=ar {cls:=.ref R,dict:=ar Y,data:=.fields #[.ref t,.none,.none,.none,.bool dV,.none]}:=(i.hok Z _ aM).1;have I4:=Inv.forget i O l P;refine⟨a5,t,ar Y,i.bk _ _ hC,B,?_⟩;obtain⟨r',S',e',q'⟩:=c1;cases e';have m:=o.base;rw[L.ex]at m;refine L.new I4 B rfl rfl rfl rfl (by rw[aB (j7 P)];exact l) (Un.gone m (by simp) hm.new) ?_
      have d:Ext U Q U (upd Q Y (.xd [("many",p),("most",y)])):=dU O;exact q' U _ d (ff rep1 O) _ _ ⟨"TooGreat",[da,db],R,rfl,j.ns,rfl,.inr ⟨Y,_,rfl,aM,rfl,.cons (ra.later rep1 d) (.cons (rb.later rep1 d) .nil)⟩⟩
end
end S7
end
namespace S7
open PySem PySem.Spec PyProof.Rows L2 S3
theorem Cr{h:gd}{mA:Str->Option aC}(n:h.Ns1 dx mA)(e:h.get? dx=ar od)(Y:mA f=ar v):Qt f od=ar (ar v):=by
 obtain⟨o,es,ep,e1,hd,_,_,hf⟩:=n;rw[e]at e1;cases e1;unfold Qt;rw[hd];have:=hf f;rw[Y]at this;unfold nsFind findBy at this;rw[<-O2]at this;cases q:es.toList.find? (·.key.isStr f)with
 |none=>rw[q]at this;cases this
 |some en=>
  rw[q]at this;have Z:en.val=v:=L5 this;rw[<-Z];dsimp only;rw[q]
section
variable {X:Cx}{E:XD}{pins:List (dt×Obj)}{σ:L2.St}{H:Hp}{s:b_}
theorem vm{a C Y:dt}{fs:List (Str×V)}{f:Str}{v:V}{b:Bool}{Q:aC->b_->Prop}{A:h_}{E:aC->b_->Prop}(c:ExcC X.K C)(S:∀cd,QI X.K C=ar cd->cd.hasDict=c_)(U:G3 X.K (.ref C) f=ar none)(I:L2.Inv X pins σ H s)(O:H a=ar (.ext (nX C a (ar Y))))(L:H Y=ar (.xd fs))(B:fs.lookup f=ar v)
  (G:W.copiedNames.contains f=dV) (h:∀u s',L2.Inv X pins σ H s'->RelV v u->Q u s'):ee (fc X.prog X.w) A (RS (.ref a) f b) Q E s:=by
 obtain⟨⟨F,vs,he,z,y,T⟩,_⟩:=I.hok a _ O;obtain⟨mA,R,N⟩:=(show ∃mA,s.heap.Ns1 Y mA/\∀f,si (fs.lookup f) (mA f)from I.hok Y _ L);obtain⟨od,es,ep,e1,_⟩:=id R;obtain⟨u,x,P⟩:=si.some_of (v:=v) (o:=mA f) (by rw[<-B];exact N f)
 have J:C_ s.heap a F C (ar od):=⟨he,z,by unfold RJ;rw[T],by rw[y];exact e1⟩
 obtain⟨cd,Z⟩:=MS.mp c.cd;have hf:W.findObj X.K C (ar od) f=ar (.value u):=by
  unfold W.findObj;rw[Z,NF,U,NF];simp only[O'];unfold W.ownOf;rw[S cd Z,if_pos rfl];dsimp only;rw[Cr R e1 x];rfl
 unfold RS;refine LA (wpAny_mkText ?_);refine BW (s:={s with toks:=s.toks+1}) I.kIn J c.ga c.gt c.be ?_;refine qO (s:={s with toks:=s.toks+1}) I.kIn J hf ?_;exact W.handed_on (yZ P) (h u _ (I.tok _) P)
def yo(second:Bool):D->M D
 | .exc n [a,b]=>if n∈aX then a_ (if second then b else a)else M.fail
 |_=>M.fail
abbrev iQ(second:Bool)(m:TM):TM:=fun ρ=>do let x<-m ρ;yo second x
theorem yp{e:Expr}{m:TM}{pos:Pos}{Z:Bool}{f:Str}(B:fV X.K=c_)(T:∀n∈aX,∀C,p4 X.K gg n=ar (ar (.ref C))->∀cd,QI X.K C=ar cd->cd.hasDict=c_)(z:SE X E e m)(R:f=if Z then "most" else "many")(w:mh e f X.env (h9 e X.env)=h9 e X.env:=by rfl):
  SE X E (.Attribute e f pos) (iQ Z m):=by
 intro pins s σ H Q I h;refine DB w (de (z pins s σ H (fun v Y=>∃ ι d,RelD X.K ι Y d v/\∃n a b va vb C dx p,d= .exc n [a,b]/\n∈aX/\v= .ref p/\p4 X.K gg n=ar (ar (.ref C))/\Y p=ar (.ext (nX C p (ar dx)))/\Y dx=ar (.xd [("many",va),("most",vb)])/\Q (if Z then vb else va) Y) I ?_) fun u s1 ⟨v,Y,I1,rv,ι,d,rd,n,a,b,va,vb,C,dx,p,hd,hn,hp,hns,g1,g2,q⟩=>?_)
 ·obtain⟨ι,S,ρ,rep,re,c⟩:=h;refine⟨ι,S,ρ,rep,re,ak (ah c) fun d P S1 Y e1 rep1 c1 v r=>⟨P,d,r,?_⟩⟩;unfold yo at c1;split at c1
  ·next n a b=>
   split at c1
   ·next hn=>
    cases r with
    | excF hns h1 h2 h3 h4=>
     rename_i p C dx fs
     match fs,h3,h4,h2 with
     |[(f1,va),(f2,vb)],h3,h4,h2=>
      have e1:f1="many":=(OS h3).1;have e2:f2="most":=(OS (OS h3).2).1;subst e1 e2;obtain⟨_,_,F,x,N⟩:=h4.cons_inv;obtain⟨t,A⟩:=OS F;subst t A;obtain⟨_,_,L,O,_⟩:=N.cons_inv;obtain⟨G,_⟩:=OS L;subst G;refine⟨n,a,b,va,vb,C,dx,p,rfl,hn,rfl,hns,h1,h2,?_⟩;have:=ai c1 .refl rep1;cases Z with
      |true=>exact this _ O
      |false=>exact this _ x
     |[],h3,_,_=>cases h3
     |[_],h3,_,_=>have:=OE QR h3;simp at this
     |_::_::_::_,h3,_,_=>have:=OE QR h3;simp at this
   ·exact(ag c1).elim
  ·exact(ag c1).elim
 ·subst hp;obtain rfl:u=er p:=rv;obtain⟨o,U⟩:=jU B hn;have:=U.ns.symm.trans hns;cases this;refine vm (f:=f) (v:=if Z then vb else va) U.ck (T n hn C hns) (by rw[R];cases Z<;>first|exact U.ck.mf|exact U.ck.ms) I1 g1 g2 (by rw[R];cases Z<;>rfl) (by rw[R];cases Z<;>decide) fun l s' J y=>⟨_,Y,J,y,q⟩
end
section
variable {X:Cx}{E:XD}{st:n3}{m:TM}{i:Nat}
theorem RelE.all{K:d_}{ι Z:List dt}{H Y:Hp}{n:Nat}(U:∀e v,fO n e=c_->RelD K ι H e v->RelD K Z Y e v):
  ∀{ρ:aF} {σ:L2.St},RelE K ι H ρ σ->(∀e,ar e∈ρ->fO n e=c_)->RelE K Z Y ρ σ
 |[],_,h,_=>by cases h;exact .nil
 |_::ρ,_,.cons h t,c=>.cons (fun d' z=>by obtain⟨v,e1,e2⟩:=h _ z;exact⟨v,e1,U _ v (c d' (by rw[z];exact LX ..)) e2⟩) (RelE.all U t fun e z=>c e (LN _ z))
theorem RelE.swap{K:d_}{ι Z:List dt}{H Y:Hp}{n:Nat}{d u:D}(T:∀v,RelD K ι H d v->RelD K Z Y u v)(U:∀e v,fO n e=c_->RelD K ι H e v->RelD K Z Y e v):
  ∀{ρ:aF} {i:Nat} {σ:L2.St},RelE K ι H (ρ.set i (ar d)) σ->(∀e,ar e∈ρ->fO n e=c_)->RelE K Z Y (ρ.set i (ar u)) σ
 |[],_,_,h,_=>by cases h;exact .nil
 |_::ρ,0,_,.cons h t,c=>.cons (fun d' z=>by cases z;obtain⟨v,e1,e2⟩:=h _ rfl;exact⟨v,e1,T v e2⟩) (RelE.all U t fun e z=>c e (LN _ z))
 |_::ρ,i+1,_,.cons h t,c=>.cons (fun d' z=>by obtain⟨v,e1,e2⟩:=h _ z;exact⟨v,e1,U _ v (c d' (by rw[z];exact LX ..)) e2⟩) (RelE.swap T U (ρ:=ρ) (i:=i) t fun e z=>c e (LN _ z))
theorem Cs(h:SS X E st (bF i m)):SS X E st (bF i (aR m)):=by
 intro pins s σ H T I N;obtain⟨ι,S,ρ,rep,re,r,G,w,k⟩:=N;have Z:(ij (m ρ)>>=fun d=>(a_ (Out.nx (ρ.set i (ar d))):M Out)) S=ar (r,G):=w;have F:∀(c:M D),(c>>=fun d=>(a_ (Out.nx (ρ.set i (ar d))):M Out)) S=(match c S with|some (.ok d,S1)=>ar (.ok (Out.nx (ρ.set i (ar d))),S1)|some (.ex x,S1)=>ar (.ex x,S1)|none=>none):=fun c=>by
  show M.bnd c _ S=_;unfold M.bnd;cases c S with
  |none=>rfl
  |some p=>obtain⟨r,S1⟩:=p;cases r<;>rfl
 rw[F]at Z;unfold ij at Z;cases q:m ρ S with
 |none=>rw[q]at Z;cases Z
 | some p=>
  obtain⟨A,Q⟩:=p;rw[q]at Z;have L:bF i m ρ S=_:=F (m ρ);rw[q]at L;cases A with
  |ex x=>
   cases Z;exact h pins s σ H T I ⟨ι,S,ρ,rep,re,.ex x,_,L,k⟩
  | ok d=>
   dsimp only at Z;by_cases hl:Q.length<=S.length
   ·rw[if_pos hl]at Z;cases Z;exact h pins s σ H T I ⟨ι,S,ρ,rep,re,_,_,L,k⟩
   ·rw [if_neg hl]at Z;by_cases hk:nJ S Q
    ·rw [if_pos hk]at Z;cases z:iw S.length (vX Q S.length 60) d with
     |none=>rw[z]at Z;cases Z
     | some u=>
      rw[z]at Z;cases Z;refine de (h pins s σ H {nx:=fun Y O=>∃P:List dt,∀os,T.nx Y (kC P os O),rt:=fun _ _=>False} I ⟨ι,S,ρ,rep,re,_,_,L,fun R O x W Y J=>?_⟩) fun f s' hf=>?_
      ·refine⟨R.drop ι.length,fun os=>?_⟩;obtain⟨C,rep2⟩:=vd rep x W hk os;have U:Rep X.K ι (kC (R.drop ι.length) os O) (Q.take S.length):=by rw[<-rep.len];exact rep2
       have N:R.take ι.length=ι:=by obtain⟨more,rfl⟩:=x.ids;simp
       refine k ι _ C U Y ?_;refine RelE.swap (n:=ι.length) (d:=d) (u:=u) (fun v l=>?_) (fun e v c r=>?_) J fun e z=>?_
       ·have:=xb (n:=ι.length) (os:=os) (fun k us a=>by rw[rep.len];exact yk W 60 k us a) W.nd l (by rw[rep.len];exact z)
        rw[N]at this;exact this
       ·have:=RelD.down (n:=ι.length) (os:=os) r c;rw[N]at this;exact this
       ·obtain⟨j,t⟩:=List.getElem?_of_mem z;obtain⟨v,_,r⟩:=re.get t;exact r.cl
      ·cases f with
       |next=>
        obtain⟨Y,O,y,P,o⟩:=hf;obtain⟨os,B⟩:=Inv.fz y P;exact⟨Y,_,B,o os⟩
       |ret v=>obtain⟨_,_,_,_,_,z⟩:=hf;exact z.elim
       |brk=>obtain⟨_,_,_,z⟩:=hf;exact z.elim
       |cont=>obtain⟨_,_,_,z⟩:=hf;exact z.elim
    ·rw[if_neg hk]at Z;cases Z
end
def Jo:n3->n3
 | .ClassDef _ _ _ (b::_) .. =>b
 |s=>s
structure GrX(P:e_)(w:f')(K:d_)(mg:Str->Option aC)(base:gd):Prop where
 ex:∃C f fd,p4 K gg "TooGreat"=ar (ar (.ref C))/\kl K C f=c_/\FnOk P w K mg base (kz P w) 1 f fd ["self","many","most"] (J0 C)/\Binds K fd ["self","many","most"] []
theorem Ct{P:e_}{w:f'}{K:d_}{J:Str->Option aC}{base h:gd}{C f:dt}{R:g_}{U:n3}{G E N H L z Q B:Pos}(F:Fun K "__init__" "TooGreat.__init__" U f R)(X:K.In h)(y:fV K=c_)(Y:p4 K gg "TooGreat"=ar (ar (.ref C)))(Z:kl K C f=c_)
  (O:FnScope ["self","many","most"] ["self","many","most"] (ao U)) (I:∀x∈(["self","many","most"]:List Str),(ao U).names.lookup x=ar .local) (T:Binds K R ["self","many","most"] [])
  (A:dm U=[.Assign [.Attribute (.Name "self" G) "many" E] (.Name "many" N) H,.Assign [.Attribute (.Name "self" L) "most" z] (.Name "most" Q) B]):GrX P w K J base:=by
 obtain⟨v,S⟩:=jU y (show("TooGreat":Str)∈aX by decide)
 have:=S.ns.symm.trans Y;cases this;exact⟨C,f,R,Y,Z,Er F (rQ X S.ck Z).1 S.ck O I A,T⟩
section
variable {X:Cx}{Ek:XK}
theorem Cu(L:Leaves X Ek)(Y:X.calm=c_)(P:fV X.K=c_)(T:GrX X.prog X.w X.K X.mg X.base)(W:Room 2 X.A)
  (U:SA X (ue X.K Ek) (e::es) ms) (N:Gl X "TooGreat":=by rfl)
  (J:eb (e::es) X.env=(dV,h9 e X.env)::eb es X.env:=by rfl) (Z:(nC cpos (eb es X.env)).any (·.1)=false:=by rfl):
  SS X (ue X.K Ek) (.Raise (ar (.Call (.Name "TooGreat" np) (e::es) [] cpos)) none pos) (oC ms):=by
 obtain⟨C,f,fd,Q,O,R,S⟩:=T.ex;exact Ak L Y P Q O R S W U N J Z
end
theorem DefX.none{P:e_}{w:f'}{K:d_}{X:Str->Option aC}{base:gd}{k:Nat}{x qual:Str}{T:n3}{f:dt}{Z:g_}{Y:List Str}(F:Fun K x qual T f Z)(S:X x=ar (.ref f))(U:Binds K Z Y []):DefX P w K X base k x Y (fun _=>M.fail):=
 ⟨f,Z,⟨fun vs H Q E ⟨_,_,_,_,_,h⟩=>(ag h).elim,fun A outer s H args us vs Q E _ _ _ _ ⟨_,_,_,_,_,h⟩=>(ag h).elim⟩,S,F.kp,U⟩
def Es(K:d_):Bool:=aX.all fun n=>match p4 K gg n with
 |some (ar (.ref C))=>(match QI K C with|some cd=>cd.hasDict|none=>c_)
 |_=>c_
theorem Ft{K:d_}(h:Es K=c_):∀n∈aX,∀C,p4 K gg n=ar (ar (.ref C))->∀cd,QI K C=ar cd->cd.hasDict=true:=by
 intro n Y C X cd Z;have:=Ml.mp h n Y;rw[X]at this;dsimp only at this;rw[Z]at this;exact this
section
variable {X:Cx}{E:XD}
theorem Et(Y:fV X.K=c_)(Z:Es X.K=c_)(W:SE X E e m)(U:mh e "many" X.env (h9 e X.env)=h9 e X.env:=by rfl):SE X E (.Attribute e "many" pos) (iQ dV m):=yp Y (Ft Z) W rfl U
theorem Eu(Y:fV X.K=c_)(Z:Es X.K=c_)(W:SE X E e m)(U:mh e "most" X.env (h9 e X.env)=h9 e X.env:=by rfl):SE X E (.Attribute e "most" pos) (iQ c_ m):=yp Y (Ft Z) W rfl U
end
end S7
namespace S3
open PySem PySem.Spec PyProof.Rows L2 S4
mutual
theorem tH:∀d,fO n d=c_->iw n g d=ar d
 | .lst k,h=>by unfold fO at h;unfold iw;rw[if_pos (MO h)]
 | .tup ds,h=>by unfold fO at h;unfold iw;rw[ik ds h];rfl
 | .ro ds,h=>by unfold fO at h;unfold iw;rw[ik ds h];rfl
 | .fz ds,h=>by unfold fO at h;unfold iw;rw[ik ds h];rfl
 | .fn _ _ _ ds _,h=>by unfold fO at h;unfold iw;rw[ik ds h];rfl
 | .exc _ ds,h=>by unfold fO at h;unfold iw;rw[ik ds h];rfl
 | .non,_=>by unfold iw;rfl
 | .bl _,_=>by unfold iw;rfl
 | .int _,_=>by unfold iw;rfl
 | .str _,_=>by unfold iw;rfl
 | .emp,_=>by unfold iw;rfl
theorem ik:∀ds,bY n ds=c_->fW n g ds=ar ds
 |[],_=>by unfold fW;rfl
 |d::ds,h=>by
  unfold bY at h;rw[MW]at h;unfold fW;rw[tH d h.1,ik ds h.2]
end
mutual
theorem yq(Z:m<=n):∀d,fO m d=c_->fO n d=c_
 | .lst k,h=>by unfold fO at h⊢;exact L7 (LV (MO h) Z)
 | .tup ds,h=>by unfold fO at h⊢;exact ji Z ds h
 | .ro ds,h=>by unfold fO at h⊢;exact ji Z ds h
 | .fz ds,h=>by unfold fO at h⊢;exact ji Z ds h
 | .fn _ _ _ ds _,h=>by unfold fO at h⊢;exact ji Z ds h
 | .exc _ ds,h=>by unfold fO at h⊢;exact ji Z ds h
 | .non,_=>by unfold fO;rfl
 | .bl _,_=>by unfold fO;rfl
 | .int _,_=>by unfold fO;rfl
 | .str _,_=>by unfold fO;rfl
 | .emp,_=>by unfold fO;rfl
theorem ji(Z:m<=n):∀ds,bY m ds=c_->bY n ds=c_
 |[],_=>by unfold bY;rfl
 |d::ds,h=>by
  unfold bY at h⊢;rw[MW]at h⊢;exact⟨yq Z d h.1,ji Z ds h.2⟩
end
section
variable {c:M D}{S:aA}{Q:D->aA->Prop}{v:D}
theorem yr:ij (a_ v)=a_ v:=by
 funext S;show(if S.length<=S.length then _ else _)=_;rw[if_pos (LF _)];rfl
theorem Cv:ij (M.raise x)=M.raise x:=rfl
theorem m5(e:c S=ar (.ok d,S'))(Z:nJ S S')(X:S.length<S'.length\/u=d)(W:S.length<=S'.length)(Y:iw S.length (vX S' S.length 60) d=ar u):ij c S=ar (.ok u,S'.take S.length):=by
 unfold ij;rw[e];dsimp only;by_cases h:S'.length<=S.length
 ·have hd:u=d:=X.resolve_left (by omega)
  rw[if_pos h,hd,List.take_of_length_le h]
 ·rw[if_neg h,if_pos Z,Y]
theorem Ew(h:runs c S fun d Z=>nJ S Z/\S.length<=Z.length/\fO S.length d=c_/\Q d (Z.take S.length)):runs (ij c) S Q:=by
 obtain⟨d,Z,e,Y,X,hd,q⟩:=h;exact⟨d,_,m5 e Y (.inr rfl) X (tH d hd),q⟩
theorem qb:nJ S (S++G):=fun k xs Z e=>.inl (by rw[Mm Z]at e;exact e)
theorem Cw(h:runs c S fun d Z=>(∃G,Z=S++G)/\fO S.length d=c_/\Q d S):runs (ij c) S Q:=by
 obtain⟨d,Z,e,⟨G,rfl⟩,hd,q⟩:=h;exact Ew ⟨d,_,e,qb,by simp,hd,by simpa using q⟩
theorem vn(h:runs c S fun d Z=>∃G p us,d= .lst p/\Z=S++G/\Z[p]? =ar us/\S.length<=p/\bY S.length us=c_/\Q (.fz us) S):runs (ij c) S Q:=by
 obtain⟨d,Z,e,G,p,us,rfl,rfl,Y,U,W,q⟩:=h;have X:=(LH.mp Y).1;refine⟨.fz us,S,?_,q⟩;have:=m5 (u:=.fz us) e qb (.inl (by omega)) (by simp) (by
  unfold iw;rw[if_neg (by omega)]
  show(((S++G)[p]?).bind fun xs=>fW S.length (vX (S++G) S.length 59) xs).map D.fz=_;rw[Y,NF,ik us W];rfl)
 rw[this];simp
theorem bZ{α:Type}{c:M α}{v:α}(h:∀S,runs c S fun d Z=>d=v/\Z=S):c=a_ v:=by
 funext S;obtain⟨d,Z,e,rfl,rfl⟩:=h S;exact e
theorem Fu(Y:fO 0 v=c_)(h:∀S,runs c S fun d Z=>d=v/\∃G,Z=S++G):ij c=a_ v:=
 bZ fun S=>Cw (rM (h S) fun d Z ⟨e,g⟩=>⟨g,by rw[e];exact yq (L6 _) v Y,e,rfl⟩)
theorem yt(Y:bY 0 us=c_)(h:∀S,runs c S fun d Z=>∃G p,d= .lst p/\Z=S++G/\Z[p]? =ar us/\S.length<=p):ij c=a_ (.fz us):=
 bZ fun S=>vn (rM (h S) fun d Z ⟨G,p,e1,e2,e3,e4⟩=>⟨G,p,us,e1,e2,e3,e4,ji (L6 _) us Y,rfl,rfl⟩)
theorem bR(Z:bY 0 us=c_)(Y:us.length<=lim):ij (bh us)=a_ (.fz us):=
 yt Z fun S=>zV.mpr ⟨Y,[us],S.length,rfl,rfl,by simp,LF _⟩
end
theorem cK:fB ⟨its,.none⟩=a_ ():=by
 funext S;unfold fB;rw[if_pos (show Iter.okS ⟨its,.none⟩ S from trivial)];rfl
section
variable {its:List D}{g:lz}{t:aF->M Bool}{m:TM}
theorem vo(R:aF->Prop)(q:D->Bool)(f:D->D):∀(items:List D) (ρ:aF),R ρ->(∀d∈items,∀ ρ,R ρ->∃Z,g d ρ=a_ Z/\R Z/\t Z=a_ (q d)/\(q d=c_->m Z=a_ (f d)))->
  bL ⟨its,.none⟩ g t m items ρ=a_ ((items.filter q).map f)
 |[],ρ,_,_=>by unfold bL;rw[cK];rfl
 |d::ds,ρ,hR,hb=>by
  obtain⟨Z,e1,Y,e2,W⟩:=hb d (LX ..) ρ hR;have X:=vo R q f ds Z Y fun x U=>hb x (LN _ U);unfold bL;rw[cK,aj,e1,aj,e2,aj,X];cases hq:q d with
  |true=>rw[Ny hq,if_pos rfl,W hq,aj];rfl
  |false=>rw[Nz (by rw[hq];decide),if_neg (by decide)]
theorem yu(R:aF->Prop)(q:D->Bool)(f:D->D)(X:its.length<=lim)(Y:R ρ)(Z:∀d∈its,∀ ρ,R ρ->∃ ρ1,g d ρ=a_ ρ1/\R ρ1/\t ρ1=a_ (q d)/\(q d=c_->m ρ1=a_ (f d))):
  dE ⟨its,.none⟩ g t m ρ=a_ ((its.filter q).map f):=by
 unfold dE;rw[if_pos X];exact vo R q f its ρ Y Z
theorem yw{bd:BM}(R:aF->Prop)(q:D->Bool)(f:D->List D):∀(items:List D) (ρ:aF),R ρ->(∀d∈items,∀ ρ,R ρ->∃Z,g d ρ=a_ Z/\t Z=a_ (q d)/\(q d=c_->∃Y,R Y/\bd Z=a_ (f d,Y))/\(q d=dV->R Z))->
  ∃ ρ',R ρ'/\cB ⟨its,.none⟩ g t bd items ρ=a_ ((items.filter q).flatMap f,ρ')
 |[],ρ,hR,_=>⟨ρ,hR,by unfold cB;rw[cK];rfl⟩
 | d::ds,ρ,hR,hb=>by
  obtain⟨Z,e1,e2,Q,O⟩:=hb d (LX ..) ρ hR;have W:=fun x S=>hb x (LN d S);cases hq:q d with
  |true=>
   obtain⟨Y,T,P⟩:=Q hq;obtain⟨ρ',X,U⟩:=yw R q f ds Y T W;refine⟨ρ',X,?_⟩;unfold cB;rw[cK,aj,e1,aj,e2,aj,hq,if_pos rfl,P,aj];show(cB _ g t bd ds Y>>=_)=_;rw[U,aj,Ny hq];rfl
  |false=>
   obtain⟨ρ',X,U⟩:=yw R q f ds Z (O hq) W;refine⟨ρ',X,?_⟩;unfold cB;rw[cK,aj,e1,aj,e2,aj,hq,if_neg (by decide),U,Nz (by rw[hq];decide)]
end
end S3
namespace S7
open PySem PySem.Spec PyProof.Rows L2 S3
section
variable {X:Cx}{E:XD}{k i jn jy:Nat}{a c':dt}{ql:Str}{ds:List D}{vs:List V}{m:TM}{x n y cx:Str}{p cpos epos np p1 p2 p3 hpos tpos:Pos}
end
section
variable {X:Cx}{x ql:Str}{k k0 i:Nat}{a c':dt}{ps:List Str}{R:D->M D->List D->M D}{R':M D->List D->M D}{p pos:Pos}{e:Expr}{es:List Expr}{ms:S3.aF->M (List D)}{m:TM}{ds:List D}{vs:List V}
end
section
variable {X:Cx}{E:XD}{pos:Pos}
end
section
variable {P:e_}{w:f'}{K:d_}{mg:Str->Option aC}{base:gd}
end
abbrev pin(X:Cx)(os:List (dt×Obj)):Cx:={X with pn:=os++X.pn}
structure LmS where
 params:PU
 body:Expr
 scope:Scope
 N3:List Str
 js:List Nat
 m:TM
structure FI where
 f:dt
 c:dt
 pm:aC
 ctv:aC
abbrev AJ(cells:List (Str×dt))(ql:Str)(p:LmS×FI):dt×Obj:=(p.2.f,x_ "<lambda>" ql p.1.params p.1.body p.1.scope (iI cells p.1.scope.names []) p.2.pm p.2.c p.2.ctv)
structure LmOk(X:Cx)(ql:Str)(k0:Nat)(L:LmS):Prop where
 sc:LamScope X L.scope L.N3 L.js
 df:Rg L.params X.env=([],[])
 bd:∀(c':dt) (cl:List (Str×dt)) (pm ctv:aC),Qw (Rh "<lambda>" ql L.params L.body L.scope cl pm (.ref c') ctv) ⟨[],[]⟩=a_ []
 lam:∀(base:gd),Mod X.K X.mg base->∀(f c':dt) (cl:List (Str×dt)) (A:h_) (outer:List Env) (s:b_) (H:Hp) (Ek:XK),Room k0 (A.deeper (jb ql L.scope f c' cl s))->SE (rO X.prog X.w X.K X.mg base L.N3 ql L.scope f c' cl A outer s H Ek) (ue X.K Ek) L.body L.m
def qc:List (List Nat×TM)->S3.aF->Option (List (M D))
 |[],_=>ar []
 |(js,m)::r,ρ=>match tD js ρ,qc r ρ with
  |some ds,ar cs=>ar (m (ds.map ar)::cs)
  |_,_=>none
def tI(R:M D->List D->M D):List (M D)->M (List D)
 |[]=>a_ []
 |c::cs=>do let y<-R c [];let ys<-tI R cs;a_ (y::ys)
def gL(cs:List (List Nat×TM))(R:M D->List D->M D):TM:=fun ρ=>match qc cs ρ with
 |some l=>(do let ys<-tI R l;bh ys)
 |none=>M.fail
abbrev Ey(L:LmS):List Nat×TM:=(L.js,L.m)
section
variable {X:Cx}{pins os:List (dt×Obj)}{σ:L2.St}{H:Hp}{s:b_}
theorem jj(I:L2.Inv X (os++pins) σ H s):L2.Inv (pin X os) pins σ H s:=
 ⟨⟨I.ok.mod,I.ok.kind,I.ok.glob,I.ok.blt,I.ok.above,I.ok.inj,I.ok.has,I.ok.cab,I.ok.hd,I.ok.frames,I.ok.stk,I.ok.exf,I.ok.bs,I.ok.bsz,I.ok.noex,I.ok.exfs,I.ok.funs,I.ok.frf⟩,I.os,I.bare,I.base,I.loc,I.cell,I.free,I.freeC,(fun p Z=>I.pin p (by
  simp only[wm]at Z⊢;rcases Z with(h|h)|h
  ·exact .inr (.inl h)
  ·exact .inl h
  ·exact .inr (.inr h))),I.hok,I.len⟩
theorem fH(I:L2.Inv (pin X os) pins σ H s):L2.Inv X (os++pins) σ H s:=
 ⟨⟨I.ok.mod,I.ok.kind,I.ok.glob,I.ok.blt,I.ok.above,I.ok.inj,I.ok.has,I.ok.cab,I.ok.hd,I.ok.frames,I.ok.stk,I.ok.exf,I.ok.bs,I.ok.bsz,I.ok.noex,I.ok.exfs,I.ok.funs,I.ok.frf⟩,I.os,I.bare,I.base,I.loc,I.cell,I.free,I.freeC,(fun p Z=>I.pin p (by
  simp only[wm]at Z⊢;rcases Z with h|h|h
  ·exact .inl (.inr h)
  ·exact .inl (.inl h)
  ·exact .inr h)),I.hok,I.len⟩
theorem lQ(I:L2.Inv X (os++pins) σ H s):L2.Inv X pins σ H s:=I.pins_of fun p Z=>I.pin p (by
 rw[MQ,MQ];exact .inr (.inr Z))
end
structure Zi where
 q:LmS×FI
 ds:List D
 vs:List V
abbrev Zi.it(ql:Str)(z:Zi):D:=.fn z.q.2.f z.q.2.c ql z.ds z.vs
structure ZOk(K:d_)(ι:List dt)(H:Hp)(ρ:S3.aF)(σ:L2.St)(z:Zi):Prop where
 cap:tD z.q.1.js ρ=ar z.ds
 rel:RelDs K ι H z.ds z.vs
 len:z.vs.length=z.q.1.js.length
 val:∀(i j:Nat) (v:V),z.q.1.js[i]? =ar j->z.vs[i]? =ar v->σ[j]? =ar (ar v)
theorem qd{K:d_}{ι:List dt}{H:Hp}{ρ:S3.aF}{X:L2.St}(U:RelE K ι H ρ X):∀{P:List (LmS×FI)} {l:List (M D)},qc (P.map fun p=>Ey p.1) ρ=ar l->
  ∃Z:List Zi,Z.map (·.q)=P/\l=Z.map (fun z=>z.q.1.m (z.ds.map ar))/\∀z∈Z,ZOk K ι H ρ X z
 |[],l,e=>by cases e;exact⟨[],rfl,rfl,fun z Y=>by cases Y⟩
 | p::P,l,e=>by
  rw[LZ]at e;unfold qc at e;split at e
  ·next ds cs e1 e2=>
   cases e;obtain⟨Z,S,R,T⟩:=qd U e2;obtain⟨vs,g1,g2,g3⟩:=tE U e1;exact⟨⟨p,ds,vs⟩::Z,by rw[LZ,S],by rw[LZ,R],fun z Y=>by
    rcases LY.mp Y with rfl|Y
    ·exact⟨e1,g1,g2,g3⟩
    ·exact T z Y⟩
  ·cases e
open Classical in
def findZ(ql:Str)(d:D):List Zi->Option Zi
 |[]=>none
 |z::r=>if z.it ql=d then ar z else findZ ql d r
theorem kR{ql:Str}{d:D}{y:Zi}:∀{Z:List Zi},findZ ql d Z=ar y->y∈Z/\y.it ql=d
 |[],e=>by cases e
 |z::r,e=>by
  unfold findZ at e;split at e
  ·next h=>cases e;exact⟨.head _,h⟩
  ·exact let ⟨a,b⟩:=kR e;⟨.tail _ a,b⟩
theorem vp{ql:Str}{z:Zi}:∀{Z:List Zi},z∈Z->∃y,findZ ql (z.it ql) Z=ar y
 | a::r,h=>by
  unfold findZ;split
  ·exact⟨_,rfl⟩
  ·next hn=>
   rcases LY.mp h with rfl|h
   ·exact absurd rfl hn
   ·exact vp h
def mZ(ql:Str)(Z:List Zi)(R:M D->List D->M D):TM:=fun ρ=>match ρ with
 |[ar d]=>(match findZ ql d Z with
  |some z=>R (z.q.1.m (z.ds.map ar)) []
  |none=>M.fail)
 |_=>M.fail
theorem Jp{ql:Str}{Z:List Zi}{R:M D->List D->M D}(W:(Z.map (·.q.2.f)).Nodup){z:Zi}(X:z∈Z):mZ ql Z R [ar (z.it ql)]=R (z.q.1.m (z.ds.map ar)) []:=by
 obtain⟨y,hf⟩:=vp (ql:=ql) X;obtain⟨U,e⟩:=kR hf;have e1:y.q.2.f=z.q.2.f:=by injection e
 have key:∀{l:List Zi},(l.map (·.q.2.f)).Nodup->y∈l->z∈l->y=z:=fun{l}=>by
  induction l with
  |nil=>intro _ h;cases h
  |cons a l ih=>
   intro Y T S;rw[LZ,MM]at Y;rcases LY.mp T with r1|r1<;>rcases LY.mp S with r2|r2
   ·rw[r1,r2]
   ·exact absurd (Mp.mpr ⟨z,r2,by rw[<-r1];exact e1.symm⟩) Y.1
   ·exact absurd (Mp.mpr ⟨y,r1,by rw[<-r2];exact e1⟩) Y.1
   ·exact ih Y.2 r1 r2
 unfold mZ;dsimp only;rw[hf,key W U X]
theorem Fv{ql:Str}{Z:List Zi}{R:M D->List D->M D}(X:(Z.map (·.q.2.f)).Nodup){its:List D}:∀(Y:List Zi) (x:Option D),(∀z∈Y,z∈Z)->bL ⟨its,.none⟩ (gN 0) (fun _=>a_ c_) (mZ ql Z R) (Y.map (·.it ql)) [x]=tI R (Y.map fun z=>z.q.1.m (z.ds.map ar))
 |[],x,_=>by
  unfold bL tI;rw[show fB ⟨its,.none⟩=a_ () by funext S;unfold fB;rw[if_pos (show Iter.okS ⟨its,.none⟩ S from trivial)];rfl];rfl
 |z::Y,x,h=>by
  rw[LZ,LZ];unfold bL tI;rw[show fB ⟨its,.none⟩=a_ () by funext S;unfold fB;rw[if_pos (show Iter.okS ⟨its,.none⟩ S from trivial)];rfl,aj]
  show(gN 0 (z.it ql) [x]>>=_)=_;rw[show gN 0 (z.it ql) [x]=a_ [ar (z.it ql)]from rfl,aj,aj,if_pos rfl,Jp X (h z (.head _))];congr 1;funext y;rw[Fv X Y (ar (z.it ql)) fun a W=>h a (.tail _ W)]
section
variable {X:Cx}{R call y ql:Str}{k k0 j:Nat}{ps:List Str}{RR:D->M D->List D->M D}{R':M D->List D->M D}{scope:Scope}{rp cp cpos tp ip pos:Pos}{P:List (LmS×FI)}
theorem Ez{Z:List Zi}{σ:L2.St}{ρ:S3.aF}{c5:List dt}{H0:Hp}{S:List (dt×Obj)}{C:dt}{ex:List dt}{T:b_}{U:Hp}(d:RefX X.prog X.w X.K X.mg k (k0+1) R ps RR)(hR:∀f c es,RR f c es=R' c es)(hr:Room k X.A)(a6:∀x,X.fn x=c_)
  (hZ:∀z∈Z,ZOk X.K c5 H0 ρ σ z/\LmOk X ql k0 z.q.1/\AJ X.env.cells ql z.q∈S) (Q:L2.Inv X S σ U T) (f3:∀b∈ex,iZ X S U b)
  (hn:PA (aH X scope [call] C ex T U) [.Name call cp] (xE (ug 0) DC)) (hg:Gl (aH X scope [call] C ex T U) R) (c6:(R==("__debug__":Str))=dV)
  (he:eb [.Name call cp] (aH X scope [call] C ex T U).env=[(dV,h9 (.Name call cp) (aH X scope [call] C ex T U).env)]):
  PE (aH X scope [call] C ex T U) (.Call (.Name R rp) [.Name call cp] [] cpos) (tM X.K bx (mZ ql Z R')):=by
 intro E s2 a4 Hc Q2 Ic hq;obtain⟨I,S2,J,rep2,b6,(W:cont X.K bx (mZ ql Z R' J) I S2 Hc (jL X.K Q2))⟩:=hq;obtain⟨fr,fd,hm,hk,hb,F⟩:=d.ex;obtain⟨dd,rfl⟩:∃dd,J=[ar dd]:=by
  match J,W with
  |[],W=>exact(ag W).elim
  |[none],W=>exact(ag W).elim
  |[ar dd],_=>exact⟨dd,rfl⟩
  |none::_::_,W=>exact(ag W).elim
  |some _::_::_,W=>exact(ag W).elim
 cases hf:findZ ql dd Z with
 |none=>
  unfold mZ at W;dsimp only at W;rw[hf]at W;exact(ag W).elim
 |some z=>
 unfold mZ at W;dsimp only at W;rw[hf]at W;dsimp only at W;obtain⟨hz,e⟩:=kR hf;subst e;obtain⟨zo,lo,L⟩:=hZ z hz;obtain⟨v,e1,rv⟩:=b6.get (i:=0) rfl;obtain⟨rfl,a5,c1⟩:v= .ref z.q.2.f/\Hc z.q.2.c=ar (.ext (mI ql z.q.2.c))/\RelDs X.K I Hc z.ds z.vs:=by
  cases rv with
  |fn h1 h2=>exact⟨rfl,h1,h2⟩
 refine Nj (iX Ic hg hm ?_ c6);refine O3 (h₀:=X.base) Ic.ok.mod.kin hk (de (hn cpos E s2 a4 Hc (fun ws N=>ws=[.ref z.q.2.f]/\N=Hc) Ic ⟨_,e1,rfl,rfl⟩) fun us s4 h4=>?_) he rfl;obtain⟨ws,N,B,b2,rfl,rfl⟩:=h4;obtain⟨u,rfl,ru⟩:=b2.one;cases ru;refine⟨B.kIn,?_⟩;obtain⟨po,pn,pl,pf,_⟩:=Q.pin _ (LU _ L);have kept:∀c o,T.heap.get? c=ar o->U c=none->c∉jG X.stack->c∉ex->(fi (aH X scope [call] C ex T U) N s4.heap).get? c=ar o:=fun c o e n hs hx=>
  jc (B.base.keep c o e n hs hx) (B.base.free c o e n hx) hs
 have nf:z.q.2.f∉jG X.stack:=fun w=>by
  rcases LY.mp (Q.stkSub _ w)with w|w
  ·exact pl w
  ·exact pf w
 have nx:z.q.2.f∉ex:=fun w=>(f3 _ w).2.2.2.2.2 _ (LU _ L) rfl;have cellK:∀x c v,X.env.cells.lookup x=ar c->T.heap.IsCell c v->(fi (aH X scope [call] C ex T U) N s4.heap).IsCell c v:=fun x c v e ⟨o,h1,h2⟩=>by
  refine⟨o,kept c o h1 (Q.freeC x c e) (fun w=>?_) (fun w=>(f3 _ w).2.2.2.2.1 x c e rfl),h2⟩;rcases LY.mp (Q.stkSub c w)with w|w
  ·exact Q.cne x c e w
  ·obtain⟨_,ob,q,_⟩:=Q.ok.funs.mem w;exact absurd (LK q) (Pc.mpr (Q.ok.cab x c (a6 x) e))
 have ls:=lo.sc;have g:∀y∈z.q.1.scope.names,y.2= .free->∃a,X.env.cells.lookup y.1=ar a:=fun y hy e=>Q.ok.has y.1 (ls.free y hy e);have c0:=oh (cells:=X.env.cells) z.q.1.scope.names [] g (fun _ z=>nomatch z);have Y:∀y a,(iI X.env.cells z.q.1.scope.names []).lookup y=ar a->X.env.cells.lookup y=ar a:=fun y a e=>c0 _ (lookup_mem e);have cp:Caps (fi (aH X scope [call] C ex T U) N s4.heap) z.q.1.scope (iI X.env.cells z.q.1.scope.names []) z.q.1.N3 z.vs:=by
  refine⟨ls.kind,ls.nocell,ls.co,ls.gen,fun y w a e1 e2=>Q.ok.inj y w a (Y y a e1) (Y w a e2),fun y e=>mem_lookup (gz z.q.1.scope.names [] (.inl (a7 e))),fun y a e=>?_,by rw[zo.len];exact ls.len,fun i y v e1 e2=>?_⟩
  ·obtain⟨v,w⟩:=Q.cell y a (Y y a e);exact⟨v,cellK y a v (Y y a e) w⟩
  ·have b4:i<z.q.1.js.length:=by rw[<-zo.len];exact(LH.mp e2).1
   obtain⟨t,hj⟩:∃t,z.q.1.js[i]? =ar t:=⟨_,LG b4⟩;obtain⟨g1,g2⟩:=ls.ix i y t e1 hj;have hv:=zo.val i t v hj e2;have h:=ls.free (y,.free) (a7 g2) rfl;have p:yR X.env.scope y:=by
    rcases h with w|w
    ·exact .inr (.inl w)
    ·exact .inr (.inr w)
   obtain⟨mm,h5,hl⟩:=Q.loc;obtain⟨u,ru,lk⟩:=hl t y v g1 hv p;refine⟨g2,?_⟩;rcases lk with⟨w,_⟩|⟨_,a,ea,hca⟩
   ·have w':X.env.kindOf y=ar .local:=w;rcases h with w2|w2
    ·have w3:X.env.kindOf y=ar .cell:=w2;rw[w']at w3;cases w3
    ·have w3:X.env.kindOf y=ar .free:=w2;rw[w']at w3;cases w3
   ·obtain⟨a2,l⟩:=mem_lookup (gz (cells:=X.env.cells) z.q.1.scope.names [] (.inl (a7 g2)));have:=Y y a2 l;rw[ea]at this;cases this;exact⟨a,u,l,ru,cellK y a _ ea hca⟩
 have M4:Mod X.K X.mg (fi (aH X scope [call] C ex T U) N s4.heap):=gJ (X:=aH X scope [call] C ex T U) B;have LO:LamOk X.prog X.w X.K X.mg (fi (aH X scope [call] C ex T U) N s4.heap) (k0+1) z.q.2.f (HY X.K z.q.2.c ql z.ds z.vs z.q.1.m):=B4 (kept _ _ po pn nf nx) cp (lo.bd z.q.2.c _ z.q.2.pm z.q.2.ctv) fun A outer s H Ek c4=>lo.lam _ M4 z.q.2.f z.q.2.c _ A outer s H Ek c4;have G:=F (fi (aH X scope [call] C ex T U) N s4.heap) M4 z.q.2.f z.q.2.c ql z.ds z.vs z.q.1.m LO;have sp:yf X.K RR z.q.2.f z.q.2.c ql z.ds z.vs z.q.1.m [.ref z.q.2.f] N Q2 E0:=⟨I,S2,[],[],rfl,rep2,a5,c1,.nil,by rw[hR];exact W⟩
 have hlen:[er z.q.2.f].length=ps.length:=by
  have:=G.len _ _ _ _ sp;rw[<-this];rfl
 refine NQ (M7 (G.run X.A X.stack s4 N ⟨[.ref z.q.2.f],[]⟩ [.ref z.q.2.f] [.ref z.q.2.f] Q2 E0 hr (yg (X:=aH X scope [call] C ex T U) B) (by have:=hb s4 [.ref z.q.2.f] B.kIn (by rw[Mt];exact hlen);rw[Mt]at this;exact this) (.cons rfl .nil) sp) fun r s' O=>?_)
 cases r with
 |error e=>obtain⟨_,_,_,_,_,_,_,_,_,_,_,_,_,_,_,w⟩:=O;exact hO w
 |ok fl=>
  cases fl with
  |ret u=>exact B.after O
  |next=>exact hO O
  |brk=>exact hO O
  |cont=>exact hO O
theorem Al{U:List (dt×Obj)}{G:L2.St}{H L:Hp}{s:b_}{p:dt}{ι:List dt}{S:aA}{ρ:S3.aF}{Q:VK}(d:RefX X.prog X.w X.K X.mg k (k0+1) R ps RR)(hR:∀f c es,RR f c es=R' c es)(hr:Room k X.A)(i:∀x,X.fn x=c_)(hc:X.calm=c_)
  (hL:∀q∈P,LmOk X ql k0 q.1) (nd:(P.map (·.2.f)).Nodup) (N:P.length<=100) (c:CompScope X scope [call] [none]) (hy:PE X (.Name y ip) (ug j))
  (hG:∀C ex s H,SG (aH X scope [call] C ex s H) bx (.Name call tp) (gN 0)) (hn:∀C ex s H,PA (aH X scope [call] C ex s H) [.Name call cp] (xE (ug 0) DC)) (hg:∀C ex s H,Gl (aH X scope [call] C ex s H) R) (b1:(R==("__debug__":Str))=dV)
  (he:∀C ex s H,eb [.Name call cp] (aH X scope [call] C ex s H).env=[(dV,h9 (.Name call cp) (aH X scope [call] C ex s H).env)]) (hs:∀x,hY (.Name y ip) X.env x=a_ x)
  (I:L2.Inv X (P.map (AJ X.env.cells ql)++U) G H s) (a5:G[j]? =ar (ar (.ref p))) (hp:H p=ar (.lst (P.map fun q=>V.ref q.2.f))) (hb:L p=none) (r:∀q∈P,H q.2.c=ar (.ext (mI ql q.2.c))) (O:∀a o,L a=ar o->(∀ps,o≠ .tbl ps)->H a=ar o) (b:TabsOk X.K H)
  (W:Rep X.K ι L S) (re:RelE X.K ι L ρ G) (J:cont X.K bx (gL (P.map fun q=>Ey q.1) R' ρ) ι S L (jL X.K Q)):
  ee (fc X.prog X.w) X.A (h9 (.ListComp (.Call (.Name R rp) [.Name call cp] [] cpos) [⟨.Name call tp,.Name y ip,[],0⟩] scope pos) X.env) (EP X (P.map (AJ X.env.cells ql)++U) G Q) X.xe s:=by
 obtain⟨os,I1⟩:=S3.Inv.fz I [p];have x1:Ext ι L ι (kC [p] os H):=⟨⟨[],by simp⟩,fun a o e n t=>⟨by rw[oB (by rw[MB];exact aE e hb)];exact O a o e t,n⟩⟩
 have rep1:Rep X.K ι (kC [p] os H) S:=⟨W.nd,W.len,fun kk a xs e1 e2=>let ⟨ws,g1,g2⟩:=W.get kk a xs e1 e2;⟨ws,by rw[oB (by rw[MB];exact aE g1 hb)];exact O _ _ g1 (by intro _ z;cases z),g2.later W x1⟩,b.mono fun a o e n=>bE e n⟩
 have v:=re.later W x1;unfold gL at J;cases hcap:qc (P.map fun q=>Ey q.1) ρ with
 |none=>rw[hcap]at J;exact(ag J).elim
 |some l=>
 rw[hcap]at J;dsimp only at J;obtain⟨Z,T,rfl,F⟩:=qd v hcap;have a3:(Z.map (·.q.2.f)).Nodup:=by
  have:Z.map (·.q.2.f)=P.map (·.2.f):=by rw[<-T,Mi];rfl
  rw[this];exact nd
 have hlen:Z.length<=100:=by rw[<-T,LC]at N;exact N
 have hZ:∀z∈Z,ZOk X.K ι (kC [p] os H) ρ G z/\LmOk X ql k0 z.q.1/\AJ X.env.cells ql z.q∈P.map (AJ X.env.cells ql)++U:=fun z hz=>by
  have u:z.q∈P:=by rw[<-T];exact Nw hz
  exact⟨F z hz,hL _ u,MV _ (Nw u)⟩
 have rI:RelDs X.K ι (kC [p] os H) (Z.map (·.it ql)) (P.map fun q=>V.ref q.2.f):=by
  rw[<-T,Mi];have key:∀Y:List Zi,(∀z∈Y,z∈Z)->RelDs X.K ι (kC [p] os H) (Y.map (·.it ql)) (Y.map ((fun q:LmS×FI=>V.ref q.2.f)∘(·.q))):=fun Y=>by
   induction Y with
   |nil=>intro _;exact .nil
   |cons z Y ih=>
    intro h;have u:z.q∈P:=by rw[<-T];exact Nw (h z (.head _))
    exact .cons (.fn (bE (r _ u) (by intro _ w;cases w)) (F z (h z (.head _))).rel) (ih fun a ha=>h a (.tail _ ha))
  exact key Z fun z h=>h
 have c2:cont X.K bx (do let it<-(a_ ⟨Z.map (·.it ql),.none⟩:M Iter);let ys<-dE it (gN 0) (fun _=>a_ c_) (mZ ql Z R') (gi [none] ρ);bh ys) ι S (kC [p] os H) (jL X.K Q):=by
  rw[aj];have:dE ⟨Z.map (·.it ql),.none⟩ (gN 0) (fun _=>a_ c_) (mZ ql Z R') (gi [none] ρ)=tI R' (Z.map fun z=>z.q.1.m (z.ds.map ar)):=by
   unfold dE;rw[if_pos (by show(Z.map (·.it ql)).length<=lim;rw[LC];unfold lim;omega)]
   exact Fv a3 Z none fun z h=>h
  rw[this];exact eR J x1
 have rest:=ai (pD (X:=X) (mi:=fun _=>a_ ⟨Z.map (·.it ql),.none⟩) (js:=[none]) (g:=gN 0) (t:=fun _=>a_ c_) (m:=mZ ql Z R') rep1 v c2) .refl rep1 (Iu X.K p) (mP rep1 (.inl ⟨os p,xa (MB.mpr rfl) hp⟩) rI);rw[Qm];refine px (g:=zq X.K bx (gN 0)) (tt:=vV X.K bx fun _=>a_ c_) (te:=tM X.K bx (mZ ql Z R')) none _ c hc (j6 hy) (fun C ex s3 B I3 f3=>⟨hG C ex s3 B,fL (X:=aH X scope [call] C ex s3 B) (E:=bx),Ez d hR hr i hZ I3 f3 (hn C ex s3 B) (hg C ex s3 B) b1 (he C ex s3 B)⟩) I1 ⟨_,a5,p,rfl,⟨_,.inl (.inr ⟨os p,xa (MB.mpr rfl) hp⟩)⟩,rest⟩ (fun p C s' H' q hI hn _=>?_) hs;obtain⟨m,hm⟩:=hn;exact⟨m,hm,fun h2 a0=>⟨.ref p,H',hI h2 a0,rfl,q⟩⟩
end
theorem RelE.forget{K:d_}{ι:List dt}{H:Hp}{u:Option V}:∀{ρ:S3.aF} {σ:L2.St} (i:Nat),RelE K ι H ρ σ->RelE K ι H (ρ.set i none) (σ.set i u)
 |_,_,_,.nil=>.nil
 |_,_,0,.cons _ t=>.cons (fun d' z=>by cases z) t
 |_,_,i+1,.cons q t=>.cons q (RelE.forget i t)
section
variable {X:Cx}{os:List (dt×Obj)}
theorem Jq{e:Expr}{t:TE}(h:PE X e t):PE (pin X os) e t:=fun pins s σ H Q I q=>de (h (os++pins) s σ H Q (fH I) q) fun _ _ ⟨v,H',I',r,q⟩=>⟨v,H',jj I',r,q⟩
theorem xi{e:List n3}{t:TS}(h:oO X e t):oO (pin X os) e t:=fun pins s σ H T I q=>de (h (os++pins) s σ H T (fH I) q) fun f _ U=>by
 cases f with
 |next=>obtain⟨Z,W,Y,q⟩:=U;exact⟨Z,W,jj Y,q⟩
 |brk=>obtain⟨Z,W,Y,q⟩:=U;exact⟨Z,W,jj Y,q⟩
 |cont=>obtain⟨Z,W,Y,q⟩:=U;exact⟨Z,W,jj Y,q⟩
 |ret u=>obtain⟨v,Z,W,Y,r,q⟩:=U;exact⟨v,Z,W,jj Y,r,q⟩
theorem EB{Y:List (dt×Obj)}{T:Ends}{f:Flow}{s:b_}(S:SP (pin X os) Y T f s):SP X Y T f s:=by
 cases f with
 |next=>obtain⟨Z,U,W,q⟩:=S;exact⟨Z,U,lQ (fH W),q⟩
 |brk=>obtain⟨Z,U,W,q⟩:=S;exact⟨Z,U,lQ (fH W),q⟩
 |cont=>obtain⟨Z,U,W,q⟩:=S;exact⟨Z,U,lQ (fH W),q⟩
 |ret u=>obtain⟨v,Z,U,W,r,q⟩:=S;exact⟨v,Z,U,lQ (fH W),r,q⟩
end
structure LAt{α:Type}(K:d_)(ql:Str)(j:Nat)(P:List (LmS×FI))(c:S3.aF->M α)(Q:α->List dt->aA->Hp->Prop)(σ:L2.St)(H:Hp)(p:dt)(ι:List dt)(S:aA)(ρ:S3.aF)(Hb:Hp):Prop where
 hσ:σ[j]? =ar (ar (.ref p))
 hp:H p=ar (.lst (P.map fun q=>V.ref q.2.f))
 hb:Hb p=none
 hc:∀q∈P,H q.2.c=ar (.ext (mI ql q.2.c))
 same:∀a o,Hb a=ar o->(∀ps,o≠ .tbl ps)->H a=ar o
 tab:TabsOk K H
 rep:Rep K ι Hb S
 re:RelE K ι Hb ρ σ
 c:cont K bx (c ρ) ι S Hb Q
abbrev Jr(j:Nat)(m:cT):cT:=fun ρ=>m (ρ.set j none)
def LJ(X:Cx)(ql:Str)(k0 j:Nat)(Ls:List LmS)(sts:List n3)(m:cT):Prop:=
 ∀P:List (LmS×FI),P.map (·.1)=Ls->(∀q∈P,LmOk X ql k0 q.1)->(P.map (·.2.f)).Nodup->∀(pins:List (dt×Obj)) (s:b_) (σ:L2.St) (H:Hp) (T:Ends),L2.Inv X (P.map (AJ X.env.cells ql)++pins) σ H s->(∃p ι S ρ Hb,LAt X.K ql j P m (Dp X.K T) σ H p ι S ρ Hb)->
  ee (fc X.prog X.w) X.A (execs sts X.env) (SP X pins T) X.xe s
section
variable {X:Cx}{xl y ql:Str}{k0 j:Nat}{c Pt:dt}{L:LmS}{Ls:List LmS}{rest:List n3}{m:cT}{p1 lp lpos ap apos cpos epos:Pos}
theorem Cy(l:xl∈bH)(ht:l6 X.K xl=ar (c,Pt))(U:X.env.code= .ref c)(hq:X.env.qual++"<lambda>"=ql)(x:ql=xl++".<locals>.<lambda>")(B:BaseL X.K X.mg X.base)(TI:mU X.K)(r:LmOk X ql k0 L)(hN:X.N.Nodup)(p:X.N[j]? =ar y)(hl:Loc X.env.scope y)(hf:X.fn y=c_\/X.env.scope.names.lookup y=ar .local)
  (h:LJ X ql k0 j [L] rest m) (d:eb [.Lambda L.params L.body L.scope lp] X.env=[(dV,h9 (.Lambda L.params L.body L.scope lp) X.env)]:=by rfl) (hs:k7 (.List [.Lambda L.params L.body L.scope lp] lpos) (ar (.Name y p1)) ap.line X.env=a_ false:=by rfl):
  qJ X bx (.Assign [.Name y p1] (.List [.Lambda L.params L.body L.scope lp] lpos) ap::rest) (Jr j m):=by
 intro pins s σ H T I h0;obtain⟨ι,S,ρ,rep,re,c0⟩:=h0;refine N1 (wpAny_Assign_Name (wpAny_List_spliced (QH (w5 l ht U hq x B TI (fe L.scope X.env fun y g e=>I.ok.has y.1 (r.sc.free y g e)) r.df I rep.tab fun f E Q pm C s1 A Y G u J R n b=>Pa ⟨show 1<=sizeLine by decide,?_⟩) d)) hs)
 have w:f<s1.heap.objs.size:=LK G;have P:H s1.heap.objs.size=none:=I.hok.fresh (Nd (Nk Y w));have O:C s1.heap.objs.size=none:=A.hok.fresh (LF _);have F:L2.Inv X ([(L,(⟨f,E,pm,Q⟩:FI))].map (AJ X.env.cells ql)++pins) σ C s1:=A.pins_of fun q Z=>by
  rcases LY.mp Z with rfl|Z
  ·exact⟨G,u,j7 (LQ (LV I.lt Y)),I.nofs Y,fun v z=>by cases z⟩
  ·exact A.pin q (LU _ Z)
 have i:L2.Inv X ([(L,(⟨f,E,pm,Q⟩:FI))].map (AJ X.env.cells ql)++pins) σ (upd C s1.heap.objs.size (.lst [.ref f])) {s1 with heap:=s1.heap.push {cls:=.type "list",data:=.seq [er f].toArray}}:=
  F.laid (t':=s1.toks) (fun _ _ q=>LB _ q) (LF _) ⟨show 1<=sizeLine by decide,[.ref f],0,.cons rfl .nil,LM _ rfl⟩
 refine lg i hN p hl (v:=.ref s1.heap.objs.size) rfl (fun s3 k=>?_) hf;refine h [(L,⟨f,E,pm,Q⟩)] rfl (fun q Z=>by rw[MB.mp Z];exact r) (Pw _ _) pins s3 _ _ T k ⟨s1.heap.objs.size,ι,S,ρ.set j none,H,?_⟩
 refine⟨Mh (by rw[I.len];exact(LH.mp p).1),aM,P,fun q Z=>?_,fun a o e t=>?_,b.mono fun a o e _=>by rw[aB (aE e O)];exact e,rep,RelE.forget j re,c0⟩
 ·rw[MB.mp Z,aB (aE J O)];exact J
 ·rw[aB (aE e P)];exact R a o e t
theorem Cz(hx:xl∈bH)(ht:l6 X.K xl=ar (c,Pt))(G:X.env.code= .ref c)(hq:X.env.qual++"<lambda>"=ql)(k:ql=xl++".<locals>.<lambda>")(B:BaseL X.K X.mg X.base)(TI:mU X.K)(i:LmOk X ql k0 L)(d:PE X (.Name y p1) (ug j))(R:Ls.length<=100)
  (h:LJ X ql k0 j (Ls++[L]) rest m) (J:mh (.Name y p1) "append" X.env (h9 (.Name y p1) X.env)=h9 (.Name y p1) X.env:=by rfl)
  (O:(apos.endLine==cpos.line)=true:=by rfl) (he:eb [.Lambda L.params L.body L.scope lp] X.env=[(dV,h9 (.Lambda L.params L.body L.scope lp) X.env)]:=by rfl) (hs:k7 (.Call (.Attribute (.Name y p1) "append" apos) [.Lambda L.params L.body L.scope lp] [] cpos) none epos.line X.env=a_ false:=by rfl):
  LJ X ql k0 j Ls (.Expr (.Call (.Attribute (.Name y p1) "append" apos) [.Lambda L.params L.body L.scope lp] [] cpos) epos::rest) m:=by
 intro P hP a0 nd pins s σ H T I h0;obtain⟨p,ι,S,ρ,Hb,q⟩:=h0;refine N1 (PN (wpAny_Call_method_late J (by rw[he];rfl) O rfl (de (d _ s σ H (fun x H'=>x= .ref p/\H'=H) I ⟨_,q.hσ,rfl,rfl⟩) fun v s0 hv=>?_)) I.quiet hs)
 obtain⟨x,H0,E,r0,rfl,rfl⟩:=hv;cases r0;obtain⟨h1,h2⟩:=A5 (x:=.ref p) (v:=.ref p) E rfl (uF (K:=X.K) q.hp);refine⟨"list","list.append",Pp,Pe,Pf,h1,h2,?_⟩;refine Calls.callWith_builtin (by show(nC cpos (eb [.Lambda L.params L.body L.scope lp] X.env)).any (·.1)=dV;rw[he];rfl) (NW (QH (w5 hx ht G hq k B TI (fe L.scope X.env fun y d e=>I.ok.has y.1 (i.sc.free y d e)) i.df E q.tab fun f u N pm A s1 I1 Q l a5 F Z b1 hT=>Pa ?_) he))
 have U:A p=ar (.lst (P.map fun q=>V.ref q.2.f)):=Z p _ q.hp (by intro _ z;cases z)
 have g:L2.Inv X ((P++[(L,(⟨f,u,pm,N⟩:FI))]).map (AJ X.env.cells ql)++pins) σ A s1:=I1.pins_of fun w hw=>by
  rw[MF,L9]at hw;rcases MQ.mp hw with hw|hw
  ·exact I1.pin w (LU _ (MV _ hw))
  ·rcases MQ.mp hw with hw|hw
   ·rw[MB.mp hw];exact⟨l,a5,j7 (LQ (LV E.lt Q)),E.nofs Q,fun v z=>by cases z⟩
   ·exact I1.pin w (LU _ (LU _ hw))
 have hlen:P.length<=100:=by rw[<-hP,LC]at R;exact R
 refine de (j9 _ s1 σ A (.ref p) [.ref f] (.ref p) [.ref f] (fun _ H3=>H3=upd A p (.lst ((P.map fun q=>V.ref q.2.f)++[.ref f]))) g rfl (.cons rfl .nil) ⟨p,_,_,rfl,rfl,U,by rw[LC];exact Nk hlen (by decide),rfl⟩) fun _ s3 h3=>?_
 obtain⟨_,H3,I3,_,rfl⟩:=h3;have r:((P++[(L,(⟨f,u,pm,N⟩:FI))]).map (·.2.f)).Nodup:=by
  rw[MF,List.nodup_append];refine⟨nd,Pw _ _,fun a ha b C e=>?_⟩;obtain⟨w,hw,rfl⟩:=Mp.mp ha;have e2:b=f:=MB.mp C;have:=LK (E.pin (AJ X.env.cells ql w) (LU _ (MV _ (Nw hw)))).1;have e3:w.2.f=f:=e.trans e2;rw[show(AJ X.env.cells ql w).1=f from e3]at this;exact absurd this (Pc.mpr Q)
 refine h (P++[(L,⟨f,u,pm,N⟩)]) (by rw[MF,hP];rfl) (fun q Y=>by
  rcases MQ.mp Y with Y|Y
  ·exact a0 q Y
  ·rw[MB.mp Y];exact i) r pins s3 _ _ T I3 ⟨p,ι,S,ρ,Hb,?_⟩
 have C:=q.hb;refine⟨q.hσ,by rw[aM,MF];rfl,C,fun w hw=>?_,fun a o e t=>?_,hT.mono fun a o e n=>?_,q.rep,q.re,q.c⟩
 ·rcases MQ.mp hw with hw|hw
  ·have e1:=Z _ _ (q.hc w hw) (by intro _ z;cases z)
   rw[aB (Ff e1 U (by intro z;cases z))];exact e1
  ·rw[MB.mp hw,aB (Ff F U (by intro z;cases z))];exact F
 ·rw[aB (aE e C)];exact Z a o (q.same a o e t) t
 ·rw[aB (fun z=>by rw[z,U]at e;exact n _ (L5 e).symm)];exact e
end
section
variable {X:Cx}{R call y ql:Str}{k k0 j:Nat}{ps:List Str}{RR:D->M D->List D->M D}{R':M D->List D->M D}{scope:Scope}{rp cp cpos tp ip pos pos2 pos3:Pos}{Ls:List LmS}{rhs:Expr}{n:TM}{op:CmpOp}{f:D->D->M D}{r:R2}{a b rest:List n3}{ma mb mr:cT}
structure WalkOk(X:Cx)(ql:Str)(k k0 j:Nat)(Ls:List LmS)(R call y:Str)(ps:List Str)(RR:D->M D->List D->M D)(R':M D->List D->M D)(scope:Scope)(cp tp ip:Pos):Prop where
 d:RefX X.prog X.w X.K X.mg k (k0+1) R ps RR
 hR:∀f c es,RR f c es=R' c es
 hr:Room k X.A
 hfn:∀x,X.fn x=c_
 hc:X.calm=c_
 hlim:Ls.length<=100
 c:CompScope X scope [call] [none]
 hy:PE X (.Name y ip) (ug j)
 hG:∀C ex s H,SG (aH X scope [call] C ex s H) bx (.Name call tp) (gN 0)
 hn:∀C ex s H,PA (aH X scope [call] C ex s H) [.Name call cp] (xE (ug 0) DC)
 hg:∀C ex s H,Gl (aH X scope [call] C ex s H) R
 hdb:(R==("__debug__":Str))=dV
 he:∀C ex s H,eb [.Name call cp] (aH X scope [call] C ex s H).env=[(dV,h9 (.Name call cp) (aH X scope [call] C ex s H).env)]
 hs:∀x,hY (.Name y ip) X.env x=a_ x
def Ld(X:Cx)(ql:Str)(j:Nat)(P:List (LmS×FI))(R':M D->List D->M D):TE:=fun σ H Q=>∃p ι S ρ Hb,LAt X.K ql j P (gL (P.map fun q=>Ey q.1) R') (jL X.K Q) σ H p ι S ρ Hb
theorem CA{P:List (LmS×FI)}(w:WalkOk X ql k k0 j Ls R call y ps RR R' scope cp tp ip)(W:P.map (·.1)=Ls)(Z:∀q∈P,LmOk X ql k0 q.1)(Y:(P.map (·.2.f)).Nodup):
  PE (pin X (P.map (AJ X.env.cells ql))) (.ListComp (.Call (.Name R rp) [.Name call cp] [] cpos) [⟨.Name call tp,.Name y ip,[],0⟩] scope pos) (Ld X ql j P R'):=by
 intro pins s σ H Q I h;obtain⟨p,ι,S,ρ,U,q⟩:=h;exact de (Al (X:=X) (P:=P) w.d w.hR w.hr w.hfn w.hc Z Y (by have:=w.hlim;rw[<-W,LC]at this;exact this) w.c w.hy w.hG w.hn w.hg w.hdb w.he w.hs (fH I) q.hσ q.hp q.hb q.hc q.same q.tab q.rep q.re q.c) fun _ _ ⟨v,H',I',r,z⟩=>⟨v,H',jj I',r,z⟩
theorem Hl{P:List (LmS×FI)}{O:L2.St}{H:Hp}{Q:VK}{α:Type}{g:S3.aF->D->M α}{I:α->List dt->aA->Hp->Prop}(m:P.map (·.1)=Ls)(A:rz X.K bx f r){p:dt}{ι:List dt}{S:aA}{ρ:S3.aF}{G:Hp}
  (q:LAt X.K ql j P (fun ρ=>gL (Ls.map Ey) R' ρ>>=fun x=>n ρ>>=fun y=>f x y>>=g ρ) I O H p ι S ρ G)
  (u:∀z d Z S1 Y,Rep X.K Z Y S1->RelE X.K Z Y ρ O->RelD X.K Z Y d z->cont X.K bx (g ρ d) Z S1 Y I->Q z Y):HR r (Ld X ql j P R') (tM X.K bx n) O H Q:=by
 refine⟨p,ι,S,ρ,G,q.hσ,q.hp,q.hb,q.hc,q.same,q.tab,q.rep,q.re,?_⟩;rw[show(P.map fun q=>Ey q.1)=Ls.map Ey by rw[<-m,Mi];rfl]
 refine ak (ah q.c) fun d Z S1 Y e1 rep1 c1 v s=>?_;have W:=q.re.later q.rep e1;refine⟨Z,S1,ρ,rep1,W,ak (ah c1) fun E L S2 w e2 rep2 t v2 J=>?_⟩;refine A L S2 w d E v v2 Q rep2 (s.later rep1 e2) J (ak (ah t) fun o N T B C rep3 l F U=>?_);exact u F o N T B rep3 ((W.later rep1 e2).later rep2 C) U l
theorem Js(w:WalkOk X ql k k0 j Ls R call y ps RR R' scope cp tp ip)(C:SE X bx rhs n)(l:∀os,iU (pin X os) (j_ op) r)(A:rz X.K bx f r)(G:qJ X bx a ma)(t:qJ X bx b mb)(F:qJ X bx rest mr)(B:lx op rhs=false:=by first|exact oQ _ (by decide) (by decide)|rfl):
  LJ X ql k0 j Ls (.If (.Compare (.ListComp (.Call (.Name R rp) [.Name call cp] [] cpos) [⟨.Name call tp,.Name y ip,[],0⟩] scope pos) [op] [rhs] pos2) a b pos3::rest) (aK (iW (fC f (gL (Ls.map Ey) R') n) ma mb) mr):=by
 intro P J W m pins s σ H T I h0;obtain⟨p,ι,S,ρ,u,q⟩:=h0;refine de (oR (Fg (xD (l _) (CA w J W m) (Jq C) B) (xi G) (xi t)) (xi F) pins s σ H T (jj I) ?_) fun _ _ z=>EB z;have i:LAt X.K ql j P (fun ρ=>gL (Ls.map Ey) R' ρ>>=fun x=>n ρ>>=fun y=>f x y>>=fun z=>ku z>>=fun c=>(if c=c_ then ma ρ else mb ρ)>>=fun o=>uu o mr) (Dp X.K T) σ H p ι S ρ u:=by
  refine⟨q.hσ,q.hp,q.hb,q.hc,q.same,q.tab,q.rep,q.re,?_⟩;have:=q.c;unfold aK iW fC at this;simp only[bQ]at this;exact this
 refine Hl (g:=fun ρ z=>ku z>>=fun c=>(if c=c_ then ma ρ else mb ρ)>>=fun o=>uu o mr) J A i fun z d Z S1 N rep1 U E c1=>?_;obtain⟨k,rfl,rfl,L⟩:=lA rep1 E (ah c1);refine⟨k,rfl,?_⟩;have fin:∀{mm:cT},cont X.K bx (mm ρ>>=fun o=>uu o mr) Z S1 N (Dp X.K T)->JU X.K bx mm {T with nx:=JU X.K bx mr T} σ N:=fun{mm} c=>by
  refine⟨Z,S1,ρ,rep1,U,ak (ah c) fun o O S2 h e2 rep2 Y=>?_⟩;cases o with
  |nx ρ'=>exact fun v Q=>⟨O,S2,ρ',rep2,Q,Y⟩
  |ret d=>exact ai Y .refl rep2
  |bk ρ'=>exact ai Y .refl rep2
  |ct ρ'=>exact ai Y .refl rep2
 cases k with
 |true=>exact fin L
 |false=>exact fin L
end
abbrev kU(mi:S3.aF->M Iter)(g:lz)(t:S3.aF->M Bool)(m:TM)(js:List (Option Nat)):TM:=fun ρ=>do let it<-mi ρ;mW (do let ys<-dE it g t m (gi js ρ);bh ys)
section
variable {X:Cx}{E:XD}{scope:Scope}{Nc:List Str}{js:List (Option Nat)}{elt tg iter:Expr}{ifs:List Expr}{pos:Pos}{mi:S3.aF->M Iter}{g:lz}{t:S3.aF->M Bool}{m:TM}
theorem CB(c:CompScope X scope Nc js)(Y:X.calm=c_)(T:SI X E tg iter mi)
  (Z:∀C ex s H,SG (aH X scope Nc C ex s H) bx tg g/\Gy (aH X scope Nc C ex s H) bx ifs t/\SE (aH X scope Nc C ex s H) bx elt m)
  (hs:∀x,hY iter X.env x=a_ x:=by intro _;rfl):SE X E (.ListComp elt [⟨tg,iter,ifs,0⟩] scope pos) (kU mi g t m js):=
 PE.imp (xN (g:=zq X.K bx g) (tt:=vV X.K bx t) (te:=tM X.K bx m) c Y T Z hs) fun σ H Q ⟨ι,S,ρ,rep,re,c⟩=>
  ⟨ι,S,ρ,rep,re,ak (ah c) fun it U S1 R e1 rep1 c1 J W=>ai (pD (X:=X) (mi:=fun _=>a_ it) (js:=js) (g:=g) (t:=t) (m:=m) rep1 (re.later rep e1) (mX c1)) .refl rep1 J W⟩
end
end S7
namespace S3
open PySem PySem.Spec PyProof.Rows L2
def Am:D->D->M D
 | .lst k,.int i=>do
  let xs<-getL k
  if -(2 ^ 62)<=i/\i<=1000/\xs.length<=1000 then bh (eo i.toNat xs).flatten else M.fail
 |_,_=>M.fail
section
variable {X:Cx}{E:XD}{a b:Expr}{m n:TM}{pos:Pos}
theorem RelDs.rep{K:d_}{ι:List dt}{H:Hp}{ds:List D}{vs:List V}(r:RelDs K ι H ds vs):∀k:Nat,RelDs K ι H (eo k ds).flatten (eo k vs).flatten
 |0=>.nil
 |k+1=>by rw[Mr,Mr,Nf,Nf];exact r.append (RelDs.rep r k)
theorem EC:rz X.K E Am IQ:=by
 intro ι S H N O v1 v2 Q rep T U c;unfold Am at c;split at c
 ·next k i=>
  obtain⟨p,rfl,W⟩:=T.lst_inv;obtain⟨es,us,_,R,Y,Z⟩:=a9 c rep W;split at Z
  ·next hb=>
   have P:=Y.length;refine⟨p,i,us,rfl,U.int_inv,R,by omega,by omega,LS (Nat.mul_le_mul (show us.length<=1000 by omega) (show i.toNat<=1000 by omega)) (show 1000*1000<=sizeLine by decide),(bo Z rep (Y.rep i.toNat)).2⟩
  ·exact(ag Z).elim
 ·exact(ag c).elim
theorem Hm(Z:SE X E a m)(Y:SE X E b n):SE X E (.BinOp a .Mult b pos) (fun ρ=>do let x<-m ρ;let y<-n ρ;Am x y):=pB Gq EC Z Y
end
end S3
namespace W
open PySem PySem.Spec PyProof.Rows L2 S3 S4 S7
def qe:cT:=bI (pW (ja (mV 0) "int") (KO (ja (mV 0) "bool")))
def cu:List D->M D:=nI 1 1 qe
def rR:cT:=bI (pW (ja (mV 0) "tuple") (aY kN (cW dO (mV 0)) (mK (.int 2))))
def cZ:List D->M D:=nI 1 1 rR
def gM:iV:=lK
def gO:TM:=aY zw (mV 0) (mV 1)
def nP:cT:=bI (cW uE (aR (bB (u6 (mV 0) (aR (KR (mV 0) (oS (mK (.int 1))) (oN)))) (ie 2 (bX (gN 0) (bX (gN 1) (iK)))) gM gO [none,none])))
def eX:List D->M D:=nI 1 1 nP
def eA:iV:=lK
def cO:iV:=lK
def bK:TM:=kQ (aa (mV 0) (aa (mV 1) (au)))
def qf:cT:=bI (aR (m4 (lL (mV 0)) (gN 0) eA (vW (aY cI (mV 0) (mK (.int 1))) (mV 2)) (gN 1) cO bK [none,none,ar 0]))
def du:List D->M D:=nI 1 1 qf
def gQ:iV:=lK
def gR:TM:=aY inD (mV 0) (mV 1)
def nQ:cT:=bI (cW Cg (aR (bB (eY (mV 0)) (gN 0) gQ gR [none,ar 1])))
def fX:List D->M D:=nI 2 2 nQ
def jW:cT:=aK (iW (fC zw (mV 1) (cW dO (mV 0))) (bI (aY dD (mV 0) (mV 1))) (dZ)) (bI (mK (.int 0)))
def c8:List D->M D:=nI 2 2 jW
def nR:cT:=aK (iW (bV (aY dD (mV 0) (mK (.int 1)))) (aK (bF 2 (aY kM (aY dD (mV 0) (mK (.int 0))) (mV 1))) (aK (zU (aY jR (aY dD (mV 0) (mK (.int 0))) (mV 1)) (JX (mV 0) (mK (.int 0)))) (bI (mV 2)))) (dZ)) (aK (zU (aY kM (aY cI (aY nY (aY dD (mV 0) (mK (.int 0))) (mK (.int 48271))) (mK (.int 29))) (mK (.int 2147483647))) (JX (mV 0) (mK (.int 0)))) (aK (bF 3 (aY kM (aY cI (aY cI (aY nY (aY dD (mV 0) (mK (.int 0))) (aY dD (mV 0) (mK (.int 0)))) (aY nY (mK (.int 39373)) (aY dD (mV 0) (mK (.int 0))))) (mK (.int 7))) (mK (.int 2147483629)))) (aK (bF 3 (aY kM (aY cI (aY nY (mV 3) (mV 3)) (aY nY (mK (.int 16807)) (mV 3))) (mK (.int 2147483587)))) (bI (aY kM (aY jR (mV 3) (mK (.int 8))) (mV 1))))))
def aL:List D->M D:=nI 4 2 nR
def eM:iV:=lK
def eN:TM:=kQ (aa (mV 1) (aa (mV 0) (au)))
def gf:cT:=pX (ud i6 (mV 1) (aR (bB (vW (aY cI (mV 2) (mK (.int 1))) (mV 0)) (gN 0) eM eN [none,ar 2])))
def lR:cT:=aK (bF 1 (bp (au))) (aK (lM (lL (mV 0)) (gN 2) gf) (bI (mV 1)))
def bg:List D->M D:=nI 3 1 lR
def gS:iV:=fC zw (cW kj (aR (aY cI (aY dD (mV 1) (mV 2)) (aY dD (mV 1) (mV 0))))) (mK (.int 4))
def gT:TM:=kQ (aa (mV 2) (aa (mV 0) (au)))
def gU:cT:=pX (ud i6 (mV 2) (aR (bB (vW (aY cI (mV 3) (mK (.int 1))) (cW dO (mV 1))) (gN 0) gS gT [none,ar 1,ar 3])))
def nS:cT:=aK (bF 1 (aY dD (mV 0) (mK (.int 1)))) (aK (bF 2 (bp (au))) (aK (lM (lL (cW dO (mV 1))) (gN 3) gU) (bI (kQ (aa (cW dO (mV 1)) (aa (cW cC (mV 2)) (au)))))))
def cf:List D->M D:=nI 4 1 nS
def qg:cT:=bI (pW (ay cu (aa (mV 1) (au))) (GY Gz zw (mK (.int 0)) (mV 1) (mV 0)))
def cQ:List D->M D:=nI 2 2 qg
def lS:cT:=aK (bF 2 (ay c8 (aa (mV 0) (aa (mV 1) (au))))) (aK (iW (fC KI (mV 2) (aY uy (mK (.int 10)) (mK (.int 18)))) (bI (bp (aa (aY gk (mV 2) (aY uy (mK (.int 10)) (mK (.int 18)))) (aa (mK (.bl c_)) (au))))) (dZ)) (bI (bp (aa (aY kM (mV 2) (mK (.int 2147483647))) (aa (mK (.bl dV)) (au))))))
def fq:List D->M D:=nI 3 2 lS
def b8:cT:=pX (ud cU (mV 3) (ud mO (mV 2) (aR (ay aL (aa (mV 0) (aa (cW dO (mV 2)) (au)))))))
def d5:cT:=aK (bF 2 (cW rB (mV 1))) (aK (bF 3 (bp (au))) (aK (GZ 64 (fC ky (mV 2) (aR (bp (au)))) b8) (bI (mV 3))))
def cm:List D->M D:=nI 4 2 d5
def d8:cT:=aK (bF 4 (aR (ay aL (aa (mV 0) (aa (mV 1) (au)))))) (aK (bF 5 (aY kM (aY cI (aY cI (mV 4) (mK (.int 1))) (aR (ay aL (aa (mV 0) (aa (aY gk (mV 1) (mK (.int 1))) (au)))))) (mV 1))) (pX (ud cU (mV 2) (kQ (aa (ay minD (aa (mV 4) (aa (mV 5) (au)))) (aa (ay maxD (aa (mV 4) (aa (mV 5) (au)))) (au)))))))
def d6:cT:=aK (bF 1 (aY cI (mK (.int 8)) (aR (ay aL (aa (mV 0) (aa (mK (.int 7)) (au))))))) (aK (bF 2 (bp (au))) (aK (lM (lL (aR (ay aL (aa (mV 0) (aa (mK (.int 12)) (au)))))) (gN 3) d8) (bI (kQ (aa (mV 1) (aa (cW cC (aR (cW lJ (mV 2)))) (au)))))))
def bD:List D->M D:=nI 6 1 d6
def ft:cT:=aK (bF 1 (bp (aI (mK .non) (aI (mK (.int 0)) (aI (mK (.tup [])) (aI (mK (.tup [.int 15,.tup []])) (aI (mK (.tup [.int (-1),.tup []])) (aI (mK (.tup [.bl c_,.tup []])) (aI (kQ (aa (mK (.int 2)) (aa (bp (au)) (au)))) (aI (bp (aa (mK (.int 2)) (aa (mK (.tup [])) (au)))) (aI (mK (.tup [.int 2,.tup [.tup [.int 1,.int 0]]])) (aI (mK (.tup [.int 2,.tup [.tup [.int 0,.int 0]]])) (aI (mK .emp) (aI (mK (.str "2:")) (au))))))))))))))) (aK (bF 1 (aY cI (mV 1) (bp (aI (mK (.tup [.int 2,.tup [.tup [.int 0,.int 1],.tup [.int 0,.int 1]]])) (aI (mK (.tup [.int 3,.tup [.tup [.int 0,.int 2],.tup [.int 0,.int 1]]])) (aI (mK (.tup [.int 2,.tup [.tup [.int 0,.int 2]]])) (aI (mK (.tup [.int 2,.tup [.tup [.int 0,.bl c_]]])) (aI (mK (.tup [.int 2,.tup [.tup [.int 0,.int 1,.int 1]]])) (au))))))))) (aK (bF 1 (aY cI (mV 1) (bp (aI (mK (.tup [.int 2,.tup [.int 0,.int 1]])) (aI (mK (.tup [.int 2,.non])) (aI (mK (.tup [.int 2,.tup [],.tup []])) (aI (mK (.tup [.int 2])) (aI (kQ (aa (mK (.int 2)) (aa (kQ (aa (bp (aa (mK (.int 0)) (aa (mK (.int 1)) (au)))) (au))) (au)))) (aI (mK (.tup [.int 2,.tup [.non]])) (aI (mK (.tup [.str "2",.tup []])) (aI (mK (.tup [.int 0,.tup [.tup [.int 0,.int 1]]])) (au)))))))))))) (bI (aY dD (mV 1) (ay aL (aa (mV 0) (aa (mK (.int 25)) (au))))))))
def dP:List D->M D:=nI 2 1 ft
def qh:cT:=aK (iW (eh (bV (ay cZ (aa (mV 1) (au))))) (bI (mK (.bl dV))) (dZ)) (aK (zU (mV 1) (ie 2 (bX (gN 2) (bX (gN 3) (iK))))) (bI (pW (ay cQ (aa (mV 0) (aa (mV 2) (au)))) (pW (ay cQ (aa (mV 0) (aa (mV 3) (au)))) (aY zw (mV 2) (mV 3))))))
def jX:List D->M D:=nI 4 2 qh
def iy:iV:=fC zw (aR (ay aL (aa (mV 1) (aa (mK (.int 8)) (au))))) (aY dD (aR (bp (aa (mK (.int 2)) (aa (mK (.int 4)) (aa (mK (.int 6)) (au)))))) (aY kM (mV 2) (mK (.int 3))))
def iz:TM:=mV 0
def fP:cT:=pX (ud cU (mV 4) (cW cC (aR (cW dG (aR (bp (aa (aY dD (mV 5) (mV 6)) (aa (aY dD (mV 5) (aY dD (aR (bp (aI (aY gk (mV 6) (mK (.int 1))) (aI (aY gk (mV 6) (mK (.int 1))) (aI (mK (.int 0)) (aI (aY jR (mV 6) (mK (.int 2))) (au))))))) (aY gk (mV 3) (mK (.int 3))))) (au)))))))))
def eB:iV:=fC kN (aR (ay aL (aa (mV 1) (aa (mK (.int 12)) (au))))) (mK (.int 0))
def eE:TM:=mV 0
def fQ:iV:=fC ky (aY inD (mV 0) (mV 1)) (aY inD (mV 0) (mV 2))
def fR:TM:=mV 0
def jk:cT:=aK (bF 2 (ay maxD (aa (mK (.int 0)) (aa (aY gk (mV 1) (aY dD (aR (bp (aI (mK (.int 0)) (aI (mK (.int 0)) (aI (mK (.int 1)) (aI (mK (.int 0)) (aI (mK (.int 2)) (aI (mK (.int 1)) (aI (mK (.int 3)) (aI (mV 1) (au))))))))))) (aR (ay aL (aa (mV 0) (aa (mK (.int 8)) (au))))))) (au))))) (aK (bF 3 (aR (ay aL (aa (mV 0) (aa (mK (.int 7)) (au)))))) (aK (bF 4 (bB (eY (aR (ay bg (aa (mV 2) (au))))) (gN 0) iy iz [none,ar 0,ar 3])) (aK (bF 5 (aR (ay cm (aa (mV 0) (aa (aR (cW eT (mV 2))) (au)))))) (aK (iW (fC xP (mV 3) (mK (.int 2))) (aK (bF 4 (bp (au))) (aK (lM (vW (mK (.int 1)) (mV 2)) (gN 6) fP) (aK (iW (D5 (fC kN (mV 3) (mK (.int 4))) (fC xP (mV 2) (mK (.int 2)))) (pX (ud cU (mV 4) (cW cC (aR (cW dG (aR (bp (aa (aY dD (mV 5) (mK (.int 0))) (aa (aY dD (mV 5) (aY gk (mV 2) (mK (.int 1)))) (au)))))))))) (dZ)) (aK (bF 7 (aR (bB (eY (aR (ay bg (aa (mV 2) (au))))) (gN 0) eB eE [none,ar 0]))) (bF 4 (bB (eY (aR (ay bg (aa (mV 2) (au))))) (gN 0) fQ fR [none,ar 4,ar 7])))))) (dZ)) (bI (kQ (aa (mV 2) (aa (cW cC (aR (cW dG (mV 4)))) (au)))))))))
def cw:List D->M D:=nI 8 2 jk
def il:iV:=lK
def iq:TM:=aR (ay jX (aa (mV 1) (aa (mV 0) (au))))
def qi:cT:=aK (iW (eh (bV (aR (ay cZ (aa (mV 0) (au)))))) (bI (mK (.bl dV))) (dZ)) (aK (zU (mV 0) (ie 2 (bX (gN 1) (bX (gN 2) (iK))))) (aK (iW (D6 (eh (bV (aR (ay cu (aa (mV 1) (au)))))) (D6 (eh (wV Gz Gz (mK (.int 0)) (mV 1) (mK (.int 14)))) (eh (bV (ja (mV 2) "tuple"))))) (bI (mK (.bl dV))) (dZ)) (bI (pW (cW uE (aR (bB (eY (mV 2)) (gN 0) il iq [none,ar 1]))) (aR (ay eX (aa (mV 2) (au))))))))
def iR:List D->M D:=nI 3 1 qi
def qj:cT:=iW (eh (bV (aR (ay iR (aa (mV 0) (au)))))) (w8 "NoWeb" (aa (mK (.str "this is no web")) (au))) (dZ)
def bJ:List D->M D:=oj 1 1 qj
def lU:cT:=aK (pX (aR (ay bJ (aa (mV 0) (au))))) (iW (eh (bV (aR (ay cQ (aa (aY dD (mV 0) (mK (.int 0))) (aa (mV 1) (au))))))) (w8 "NoPlace" (aa (mK (.str "this is no place of the web")) (au))) (dZ))
def dv:List D->M D:=oj 2 2 lU
def jl:iV:=fC inD (mV 1) (mV 0)
def jm:TM:=mV 0
def jo:iV:=lK
def jq:TM:=cW dO (aR (bB (eY (mV 1)) (gN 0) jl jm [none,ar 0]))
def rS:cT:=aK (pX (aR (ay bJ (aa (mV 0) (au))))) (aK (zU (mV 0) (ie 2 (bX (gN 1) (bX (gN 2) (iK))))) (bI (aR (El (bB (lL (mV 1)) (gN 0) jo jq [none,ar 2])))))
def dC:List D->M D:=oj 3 1 rS
def eO:cT:=aK (pX (aR (ay bJ (aa (mV 0) (au))))) (iW (fC xP (cW dO (aY dD (mV 0) (mK (.int 1)))) (mK (.int 7))) (oC (aa (cW dO (aY dD (mV 0) (mK (.int 1)))) (aa (mK (.int 7)) (au)))) (dZ))
def b0:List D->M D:=oj 1 1 eO
def gq:iV:=bV (aR (ay fX (aa (aY dD (mV 2) (mV 0)) (aa (aY dD (mV 2) (mV 1)) (au)))))
def gr:TM:=kQ (aa (mV 0) (aa (mV 1) (au)))
def m6:cT:=aK (pX (aR (ay b0 (aa (mV 0) (au))))) (aK (bF 1 (aY dD (mV 0) (mK (.int 1)))) (aK (bF 2 (cW dO (mV 1))) (bI (kQ (aa (mV 2) (aa (cW cC (aR (El (bB (eY (aR (ay du (aa (mV 2) (au))))) (ie 2 (bX (gN 0) (bX (gN 1) (iK)))) gq gr [none,none,ar 1])))) (au)))))))
def cn:List D->M D:=oj 3 1 m6
def jr:iV:=fC inD (mV 2) (mV 1)
def jt:TM:=mV 0
def rT:cT:=aK (pX (aR (ay dv (aa (mV 0) (aa (mV 1) (au)))))) (bI (cW cC (aR (El (bB (Fq (aY dD (mV 0) (mK (.int 1)))) (ie 2 (bX (gN 0) (bX (gN 1) (iK)))) jr jt [none,none,ar 1])))))
def d7:List D->M D:=oj 2 2 rT
def eP:iV:=lK
def eQ:TM:=aY jR (aY nY (mV 0) (aY gk (mV 0) (mK (.int 1)))) (mK (.int 2))
def lV:cT:=bI (cW z7 (aR (kU (eY (aR (ay dC (aa (mV 0) (au))))) (gN 0) eP eQ [none])))
def cL:List D->M D:=oj 1 1 lV
def gW(F:List D->M D):iV:=lK
def gX(F:List D->M D):TM:=aR (ay F (aa (mV 0) (aa (mV 1) (au))))
def dQ(F:List D->M D):cT:=aK (iW (bV (Jg (mV 1) "tuple" "list")) (aK (iW (D6 (fC ky (ja (mV 0) "tuple") (ja (mV 1) "tuple")) (fC ky (ja (mV 0) "list") (ja (mV 1) "list"))) (bI (mK (.bl dV))) (dZ)) (aK (iW (fC ky (cW dO (mV 0)) (cW dO (mV 1))) (bI (mK (.bl dV))) (dZ)) (bI (cW uE (aR (bB (u6 (mV 0) (mV 1)) (ie 2 (bX (gN 0) (bX (gN 1) (iK)))) (gW F) (gX F) [none,none])))))) (dZ)) (bI (pW (aY kN (mV 0) (mV 1)) (aY kN (ja (mV 0) "bool") (ja (mV 1) "bool"))))
def cM:Nat->List D->M D
 |0=>fun _=>M.fail
 |n+1=>nI 2 2 (dQ (cM n))
def bO:List D->M D:=cM 6
def bS:iV:=bV (aY dD (mV 1) (mV 0))
def bU:TM:=mV 0
def fu(fv:D)(cc:M D):cT:=aK (bF 1 (mK .non)) (aK (uX 0 2 1 fv cc) (aK (bF 3 (bp (aa (cY (mV 1) "NoWeb") (aa (cY (mV 1) "NoPlace") (aa (cY (mV 1) "NoPlaces") (au)))))) (aK (bF 3 (aY cI (mV 3) (aR (bp (aa (cY (mV 1) "NoMap") (aa (cY (mV 1) "NoSharing") (aa (cY (mV 1) "NoRoot") (au)))))))) (aK (bF 3 (aY cI (mV 3) (aR (bp (aa (cY (mV 1) "NoNumber") (aa (cY (mV 1) "NotJoined") (aa (cY (mV 1) "NoTie") (au)))))))) (aK (bF 3 (aY cI (mV 3) (aR (bp (aa (cY (mV 1) "NoText") (aa (cY (mV 1) "NoLine") (aa (cY (mV 1) "NoDeed") (au)))))))) (aK (pX (ud cU (mV 3) (cY (mV 1) "TooGreat"))) (aK (iW (eh (bV (Cc (mV 1)))) (bI (mK .non)) (dZ)) (aK (bF 4 (aR (bB (lL (mK (.int 13))) (gN 0) bS bU [none,ar 3]))) (bI (KP (fC kN (mV 4) (aR (bp (aa (mK (.int 12)) (au))))) (aR (aY cI (mV 4) (aR (bp (aa (iQ dV (mV 1)) (aa (iQ c_ (mV 1)) (au))))))) (mV 4)))))))))))
def bz:D->M D->List D->M D:=fun fv cc es=>oj 5 1 (fu fv cc) (fv::es)
def aV:M D->List D->M D:=bz (.fn 0 0 "" [] [])
def lW:TM:=aR (ay cn (aa (mV 0) (au)))
def lX:iV:=fC inD (mV 1) (aY dD (aY dD (mV 2) (mK (.int 1))) (mV 0))
def lY:TM:=mV 0
def iS:cT:=aK (bF 6 (cW cC (aR (bB (lL (mV 4)) (gN 0) lX lY [none,ar 5,ar 3])))) (iW (eh (bV (aR (ay bO (aa (aR (ay d7 (aa (mV 3) (aa (mV 5) (au))))) (aa (mV 6) (au))))))) (bI (mK (.bl dV))) (dZ))
def qk:TM:=aR (ay d7 (aa (mV 0) (aa (mV 1) (au))))
def jY:cT:=aK (bF 4 (cW dO (aY dD (mV 3) (mK (.int 1))))) (aK (iW (fC xP (mV 4) (mK (.int 7))) (iW (fC ky (aR (tF [3] (au) lW aV)) (aR (bp (aa (mK (.int 12)) (aa (mV 4) (aa (mK (.int 7)) (au))))))) (bI (mK (.bl dV))) (dZ)) (iW (eh (bV (aR (ay bO (aa (aR (ay cn (aa (mV 3) (au)))) (aa (aR (ay cf (aa (mV 3) (au)))) (au))))))) (bI (mK (.bl dV))) (dZ))) (aK (iW (eh (bV (aR (ay bO (aa (aR (ay cL (aa (mV 3) (au)))) (aa (cW dO (aY dD (aR (ay cf (aa (mV 3) (au)))) (mK (.int 1)))) (au))))))) (bI (mK (.bl dV))) (dZ)) (aK (lM (lL (aY dD (mV 3) (mK (.int 0)))) (gN 5) iS) (aK (bF 7 (aY dD (aR (bp (aI (aY dD (mV 3) (mK (.int 0))) (aI (mK (.int (-1))) (aI (mK (.bl c_)) (aI (mK .non) (aI (mK (.str "0")) (aI (mK (.tup [.int 0])) (aI (aY uy (mK (.int 10)) (mK (.int 29))) (au)))))))))) (aR (ay aL (aa (mV 2) (aa (mK (.int 7)) (au))))))) (iW (fC ky (aR (tF [3,7] (au) qk aV)) (aR (bp (aa (mK (.int 1)) (au))))) (bI (mK (.bl dV))) (dZ))))))
def lZ:TM:=aR (ay cn (aa (mV 0) (au)))
def l9:TM:=aR (ay cL (aa (mV 0) (au)))
def mj:TM:=aR (ay d7 (aa (mV 0) (aa (mK .non) (au))))
def iT:cT:=aK (bF 2 (ay fq (aa (mV 0) (aa (mV 1) (au))))) (aK (lM (eY (aR (bp (aa (aR (ay cw (aa (mV 2) (aa (mK (.int 7)) (au))))) (aa (aR (ay cw (aa (mV 2) (aa (mK (.int 5)) (au))))) (aa (aR (ay bD (aa (mV 2) (au)))) (au))))))) (gN 3) jY) (aK (bF 8 (aR (ay dP (aa (mV 2) (au))))) (Jr 9 (aK (iW (fC ky (gL [([8],lZ),([8],l9),([8],mj)] aV) (aR (aY Am (bp (aa (aR (bp (aa (mK (.int 0)) (au)))) (au))) (mK (.int 3))))) (bI (mK (.bl dV))) (dZ)) (dZ)))))
def CC:cT:=aK (lM (lL (ay maxD (aa (mK (.int 1)) (aa (ay minD (aa (cW dO (mV 0)) (aa (mK (.int 8)) (au)))) (au))))) (gN 1) iT) (bI (pW (aY kN (aR (ay cn (aa (mK (.tup [.int 0,.tup []])) (au)))) (mK (.tup [.int 0,.tup []]))) (aY kN (aR (ay cn (aa (mK (.tup [.int 14,.tup []])) (au)))) (mK (.tup [.int 0,.tup []])))))
def rV:List D->M D:=nI 10 1 CC
theorem qQ:2<=lim:=by unfold lim;omega
theorem ED:3<=lim:=by unfold lim;omega
theorem Jt:Fk (ar d::r) 0=a_ d:=rfl
theorem Ju:Fk (o0::ar d::r) 1=a_ d:=rfl
theorem Jv:Fk (o0::o1::ar d::r) 2=a_ d:=rfl
theorem Jw:Fk (o0::o1::o2::ar d::r) 3=a_ d:=rfl
theorem Jx:Fk (o0::o1::o2::o3::ar d::r) 4=a_ d:=rfl
theorem ju:gm S n (.int i)=ar (.int i):=by cases n<;>rfl
theorem m7:gm S n (.bl b)=ar (.bool b):=by cases n<;>rfl
theorem eq_int{Q:D->aA->Prop}:runs (kN (.int a) (.int b)) S Q↔Q (.bl (decide (a=b))) S:=by
 unfold kN;rw[fN ju ju];have:i2 (.int a) (.int b)=decide (a=b):=by
  simp only[i2];rw[OY];simp
 rw[this]
theorem nU(l:List Bool):boolsOf (l.map D.bl)=ar l:=by
 induction l with
 |nil=>rfl
 |cons b l ih=>simp[boolsOf,ih]
theorem bP:(S++[xs])[S.length]? =ar xs:=by simp
theorem Jy{Q:D->aA->Prop}:runs (kN (.bl a) (.bl b)) S Q↔Q (.bl (a==b)) S:=by
 unfold kN;rw[fN m7 m7];have:i2 (.bool a) (.bool b)=(a==b):=by cases a<;>cases b<;>simp[i2]
 rw[this]
theorem An{α:Type}(a:α):mW (a_ a:M α)=a_ a:=rfl
theorem EE{α Z:Type}{c:Prop} [Decidable c]{a b:M α}{f:α->M Z}:((if c then a else b)>>=f)=if c then a>>=f else b>>=f:=by split<;>rfl
theorem eF{α:Type}(l:List α):l.filter (fun _=>c_)=l:=List.filter_eq_self.mpr fun _ _=>rfl
theorem gY{m:cT}{ds:List D}(h:m (ds.map ar++eo (N - n) none)=a_ o)(Y:outD o=a_ d)(Z:ds.length=n:=by rfl):nI N n m ds=a_ d:=by
 unfold nI oj;rw[if_pos Z];show(mW (m _)>>=outD)=_;rw[h,An,aj,Y]
theorem tJ{m n:TM}(Z:m ρ=a_ x)(Y:n ρ=a_ y):vW m n ρ=kf [x,y]:=by
 have:aa m (aa n au) ρ=a_ [x,y]:=by unfold aa;rw[Z,aj,Y,aj];rfl
 unfold vW;rw[this,aj]
theorem qm{m:TM}(Z:m ρ=a_ x):lL m ρ=kO [x]:=by
 have:aa m au ρ=a_ [x]:=by unfold aa;rw[Z,aj];rfl
 unfold lL;rw[this,aj]
theorem EF(h: -(2 ^ 62)<=i/\i<2 ^ 62/\ -(2 ^ 62)<=j/\j<2 ^ 62):kf [.int i,.int j]=a_ ⟨aU i (j - i).toNat,.none⟩:=by unfold kf;exact if_pos h
theorem Ao(h: -(2 ^ 62)<=j/\j<2 ^ 62):kO [.int j]=a_ ⟨aU 0 j.toNat,.none⟩:=by unfold kO;exact if_pos h
theorem b9{f:D->D->M D}{m n:TM}(Z:m ρ=a_ x)(Y:n ρ=a_ y):aY f m n ρ=f x y:=by unfold aY;rw[Z,aj,Y,aj]
theorem Hn{bs:List Bool}:Cg [.fz (bs.map D.bl)]=a_ (.bl (bs.any id)):=by
 show(match boolsOf (bs.map D.bl)with|some bs=>(a_ (D.bl (bs.any id)):M D)|none=>M.fail)=_
 rw[nU]
theorem fw{f:List D->M D}{m:TM}(h:m ρ=a_ x):cW f m ρ=f [x]:=by
 have:aa m au ρ=a_ [x]:=by unfold aa;rw[h,aj];rfl
 unfold cW ay;rw[this,aj]
theorem eU{m:TM}(h:m ρ=a_ x):bI m ρ=a_ (.ret x):=by unfold bI;rw[h];rfl
theorem tK(bs:List Bool):bY 0 (bs.map D.bl)=true:=by
 induction bs with
 |nil=>rfl
 |cons x r ih=>rw[LZ];unfold bY;rw[ih];unfold fO;rfl
theorem jZ{mi:aF->M Iter}{g:lz}{t:iV}{m:TM}(R:aF->Prop)(q:D->Bool)(f:D->D)(U:mi ρ=a_ ⟨its,.none⟩)(Z:its.length<=lim)(Y:R (gi js ρ))(W:∀d∈its,∀ ρ,R ρ->∃ ρ1,g d ρ=a_ ρ1/\R ρ1/\t ρ1=a_ (q d)/\(q d=c_->m ρ1=a_ (f d)))
  (X:bY 0 ((its.filter q).map f)=c_):aR (bB mi g t m js) ρ=a_ (.fz ((its.filter q).map f)):=by
 have e:bB mi g t m js ρ=bh ((its.filter q).map f):=by
  unfold bB;rw[U,aj,yu R q f Z Y W,aj]
 unfold aR;rw[e];exact bR X (by rw[LC];exact LS (Mu _ _) Z)
section
variable {m n:cT}{ρ ρ':aF}{e e1 e2:TM}{x y d:D}{t:iV}{b:Bool}{o:Out}{N k:Nat}{ds:List D}{F:List D->M D}
theorem bA(h:m ρ=a_ (.nx ρ')):aK m n ρ=n ρ':=by unfold aK;rw[h];rfl
theorem mn(h:m ρ=a_ (.ret d)):aK m n ρ=a_ (.ret d):=by unfold aK;rw[h];rfl
theorem eV(h:m ρ=M.raise x):aK m n ρ=M.raise x:=by unfold aK;rw[h];rfl
theorem vt(h:e ρ=a_ x):pX e ρ=a_ (.nx ρ):=by unfold pX;rw[h];rfl
theorem gZ(h:e ρ=M.raise x):pX e ρ=M.raise x:=by unfold pX;rw[h];rfl
theorem qo(h:e ρ=a_ x):bF i e ρ=a_ (.nx (ρ.set i (ar x))):=by unfold bF;rw[h];rfl
theorem di(h:t ρ=a_ b):iW t m n ρ=if b=c_ then m ρ else n ρ:=by unfold iW;rw[h];rfl
theorem d9{f:D->D->M D}(Z:e1 ρ=a_ x)(Y:e2 ρ=a_ y)(h:f x y=a_ (.bl b)):fC f e1 e2 ρ=a_ b:=by
 unfold fC;rw[Z,aj,Y,aj,h];rfl
theorem cz(h:e ρ=a_ x):ay F (aa e au) ρ=F [x]:=fw h
theorem oE(h:e ρ=a_ x):aR e ρ=a_ x:=by unfold aR;rw[h];exact yr
theorem yx(h:e ρ=M.raise x):aR e ρ=M.raise x:=by unfold aR;rw[h];exact Cv
theorem kX(h:m (ds.map ar++eo (N - k) none)=a_ o)(Y:outD o=a_ d)(Z:ds.length=k:=by rfl):oj N k m ds=a_ d:=by
 unfold oj;rw[if_pos Z,h,aj,Y]
theorem c9(h:m (ds.map ar++eo (N - k) none)=M.raise x)(Z:ds.length=k:=by rfl):oj N k m ds=M.raise x:=by
 unfold oj;rw[if_pos Z,h];rfl
end
theorem m9:mW (bh us)=bh us:=by
 funext S;unfold mW bh;by_cases h:us.length<=lim
 ·rw[if_pos h]
 ·rw[if_neg h]
theorem CD{mi:aF->M Iter}{g:lz}{t:iV}{m:TM}(R:aF->Prop)(q:D->Bool)(f:D->D)(U:mi ρ=a_ ⟨its,.none⟩)(Z:its.length<=lim)(Y:R (gi js ρ))(W:∀d∈its,∀ ρ,R ρ->∃ ρ1,g d ρ=a_ ρ1/\R ρ1/\t ρ1=a_ (q d)/\(q d=c_->m ρ1=a_ (f d)))
  (X:bY 0 ((its.filter q).map f)=c_):aR (El (bB mi g t m js)) ρ=a_ (.fz ((its.filter q).map f)):=by
 have e:El (bB mi g t m js) ρ=bh ((its.filter q).map f):=by
  unfold El bB;rw[U,aj,yu R q f Z Y W,aj,m9]
 unfold aR;rw[e];exact bR X (by rw[LC];exact LS (Mu _ _) Z)
theorem call2{F:List D->M D}{e1 e2:TM}(Z:e1 ρ=a_ x)(Y:e2 ρ=a_ y):ay F (aa e1 (aa e2 au)) ρ=F [x,y]:=by
 have:aa e1 (aa e2 au) ρ=a_ [x,y]:=by unfold aa;rw[Z,aj,Y,aj];rfl
 unfold ay;rw[this,aj]
theorem j4{e:TM}(h:e ρ=a_ (.bl b)):bV e ρ=a_ b:=by unfold bV;rw[h];rfl
theorem ng{us:List D}(h:us.length<=lim):cC [.fz us]=a_ (.tup us):=by
 show cF us=_;unfold cF;rw[if_pos h]
section
variable {α β:Type}{c:M α}{f:α->M β}{S S1:aA}{a:α}
theorem aJ(h:c S=ar (.ok a,S1)):(c>>=f) S=f a S1:=by
 show M.bnd c f S=_;unfold M.bnd;rw[h]
end
section
variable {m n:cT}{ρ ρ':aF}{e e1 e2:TM}{x y:D}{S S1 S2:aA}{c:M D}{f:D->List D->M D}{F:List D->M D}
theorem aS(h:m ρ S=ar (.ok (.nx ρ'),S1)):aK m n ρ S=n ρ' S1:=aJ h
theorem rW(h:e ρ S=ar (.ok x,S1)):pX e ρ S=ar (.ok (.nx ρ),S1):=aJ h
theorem b7(h:e ρ S=ar (.ok x,S1)):bF i e ρ S=ar (.ok (.nx (ρ.set i (ar x))),S1):=aJ h
theorem g0(h:e ρ S=ar (.ok x,S1)):bI e ρ S=ar (.ok (.ret x),S1):=aJ h
theorem dH{us:List D}(h:us.length<=lim):bh us S=ar (.ok (.lst S.length),S++[us]):=by unfold bh;exact if_pos h
theorem dI(h:S[p]? =ar us):getL p S=ar (.ok us,S):=by unfold getL;rw[h];rfl
theorem km{us:List D}(h:us.length<=lim)(Z:p<S.length):kI p us S=ar (.ok .non,S.set p us):=by unfold kI;exact if_pos ⟨h,Z⟩
theorem Jz(Z:e1 ρ=a_ x)(Y:GE x=a_ ())(X:e2 ρ=c):ud f e1 e2 ρ=c>>=fun y=>f x [y]:=by
 unfold ud;rw[Z,aj,Y,aj,X,bQ];rfl
theorem rX(h:e ρ S=ar (.ok x,S1)):cW F e ρ S=F [x] S1:=by
 unfold cW ay;rw[aJ (a:=[x]) (S1:=S1)];show(e ρ>>=_) S=_;rw[aJ h];rfl
theorem tL(Z:e1 ρ S=ar (.ok x,S1))(Y:e2 ρ S1=ar (.ok y,S2)):kQ (aa e1 (aa e2 au)) ρ S=ar (.ok (.tup [x,y]),S2):=by
 unfold kQ;rw[aJ (a:=[x,y]) (S1:=S2)]
 ·unfold cF;rw[if_pos (show[x,y].length<=lim from qQ)];rfl
 ·show(e1 ρ>>=_) S=_;rw[aJ Z];show(((e2 ρ>>=_)>>=_):M (List D)) S1=_;rw[aJ (a:=[y]) (S1:=S2)]
  ·rfl
  ·rw[aJ Y];rfl
end
theorem jv:hU ⟨its,.none⟩ g b [] ρ=a_ (.nx ρ):=by
 unfold hU;rw[cK];rfl
theorem jw{g:lz}{b:cT}(h:g d ρ=a_ ρ1)(Z:b ρ1 S=ar (.ok (.nx ρ2),S1)):hU ⟨its,.none⟩ g b (d::ds) ρ S=hU ⟨its,.none⟩ g b ds ρ2 S1:=by
 rw[hU,cK,aj,h,aj,aJ Z]
theorem fJ{m:cT}{ds:List D}(h:m (ds.map ar++eo (N - n) none) S=ar (.ok o,S1))(Y:outD o=a_ d)(Z:ds.length=n:=by rfl):nI N n m ds S=ar (.ok d,S1):=by
 unfold nI oj;rw[if_pos Z,aJ (a:=o) (S1:=S1),Y]
 ·rfl
 ·show mW (m _) S=_;unfold mW;rw[h]
theorem tN{mi:aF->M Iter}(Z:mi ρ=a_ ⟨its,.none⟩)(h:hU ⟨its,.none⟩ g b its ρ S=ar (.ok o,S1)):lM mi g b ρ S=ar (.ok o,S1):=by
 unfold lM;rw[Z,aj];exact h
theorem Lv:kN (.int i) (.int i)=a_ (.bl c_):=bZ fun S=>eq_int.mpr ⟨by rw[L7 rfl],rfl⟩
theorem Lw:kN (.bl b) (.bl b)=a_ (.bl c_):=bZ fun S=>Jy.mpr ⟨by rw[beq_self_eq_true],rfl⟩
theorem Le:ky (.bl b) (.bl b)=a_ (.bl dV):=bZ fun S=>by
 unfold ky;refine(fN m7 m7).mpr ⟨?_,rfl⟩;cases b<;>rfl
theorem Lx:ky (.int i) (.int i)=a_ (.bl dV):=bZ fun S=>by
 unfold ky;refine(fN ju ju).mpr ⟨?_,rfl⟩;simp[i2]
theorem xj{bs:List Bool}:uE [.fz (bs.map D.bl)]=a_ (.bl (bs.all id)):=by
 show(match boolsOf (bs.map D.bl)with|some bs=>(a_ (D.bl (bs.all id)):M D)|none=>M.fail)=_
 rw[nU]
theorem vv:∀{xs:List D},d∈(xs.zip xs).map (fun p:D×D=>D.tup [p.1,p.2])->∃x∈xs,d= .tup [x,x]
 | x::r,h=>by
  rw[O4,LZ,LY]at h;rcases h with rfl|h
  ·exact⟨x,.head _,rfl⟩
  ·obtain⟨y,Z,e⟩:=vv h;exact⟨y,.tail _ Z,e⟩
theorem bt{e:TM}{es:aF->M (List D)}(Z:e ρ=a_ x)(Y:es ρ=a_ ys):aa e es ρ=a_ (x::ys):=by
 unfold aa;rw[Z,aj,Y];rfl
theorem vw{g:lz}{t:aF->M Bool}{m:TM}(R:aF->Prop)(q:D->Bool):∀(items:List D) (ρ:aF),R ρ->(∀d∈items,∀ ρ,R ρ->∃Z,g d ρ=a_ Z/\R Z/\t Z S=ar (.ok (q d),S)/\m Z=a_ d)->
  bL ⟨its,.none⟩ g t m items ρ S=ar (.ok (items.filter q),S)
 |[],ρ,_,_=>by unfold bL;rw[cK];rfl
 |d::ds,ρ,hR,hb=>by
  obtain⟨Z,e1,Y,e2,W⟩:=hb d (LX ..) ρ hR;have X:=vw (its:=its) R q ds Z Y fun x U=>hb x (LN _ U);unfold bL;rw[cK,aj,e1,aj,aJ e2];cases hq:q d with
  |true=>rw[Ny hq,if_pos rfl,W,aj,aJ X];rfl
  |false=>rw[Nz (by rw[hq];decide),if_neg (by decide),X]
section
variable {e1 e2:TM}{f:D->D->M D}{x y:D}{S S1 S2:aA}{ρ:aF}{F:List D->M D}
theorem g9(Z:e1 ρ S=ar (.ok x,S1))(Y:e2 ρ S1=ar (.ok y,S2)):aY f e1 e2 ρ S=f x y S2:=by
 unfold aY;rw[aJ Z,aJ Y]
theorem dw{es:aF->M (List D)}(Z:e1 ρ S=ar (.ok x,S1))(Y:es ρ S1=ar (.ok ys,S2)):aa e1 es ρ S=ar (.ok (x::ys),S2):=by
 unfold aa;rw[aJ Z,aJ Y];rfl
theorem CF(h:S[p]? =ar us)(Z:j8 us j=ar x):dD (.lst p) (.int j) S=ar (.ok x,S):=by
 show(getL p>>=fun xs=>match j8 xs j with|some d=>(a_ d:M D)|none=>M.fail) S=_
 rw[aJ (dI h),Z];rfl
theorem j5{es:aF->M (List D)}(h:es ρ S=ar (.ok ys,S1))(Z:ys.length<=lim):bp es ρ S=ar (.ok (.lst S1.length),S1++[ys]):=by
 unfold bp;rw[aJ h];exact dH Z
theorem yy(Z:S[a]? =ar xs)(Y:S[b]? =ar ys)(X:(xs++ys).length<=lim):cI (.lst a) (.lst b) S=ar (.ok (.lst S.length),S++[xs++ys]):=by
 show(getL a>>=fun xs=>getL b>>=fun ys=>bh (xs++ys)) S=_;rw[aJ (dI Z),aJ (dI Y)];exact dH X
end
def xk:D->Bool
 | .int _=>c_
 |_=>dV
abbrev Ap(d:D):Prop:=GD d=c_
def qp:D->Bool
 | .tup [_,_]=>c_
 |_=>dV
def fx(many:Int):D->Bool
 | .int i=>decide (0<=i) && decide (i<many)
 |_=>dV
def jJ(many:Int):D->Bool
 | .tup [a,b]=>fx many a && (fx many b && match a,b with| .int i,.int j=>decide (i<j)|_,_=>dV)
 |_=>dV
def KY(d:D):Prop:=Ap d/\∀ds,d= .tup ds->∀x∈ds,Ap x
theorem ko(h:fx many d=c_):∃i,d= .int i/\0<=i/\i<many:=by
 cases d with
 |int i=>exact⟨i,rfl,by simpa [fx]using h⟩
 |_=>cases h
def tO:D->D->Bool
 | .tup xs,.tup ys=>match intsOf xs,intsOf ys with
  |some a,ar b=>HT.lexLt a b
  |_,_=>dV
 |_,_=>dV
def tP:List D->Bool
 |a::b::r=>tO a b && tP (b::r)
 |_=>c_
def yz(d:D):Prop:=∃ds ns,d= .tup ds/\intsOf ds=ar ns
theorem yA:∀l:List D,((l.zip (l.drop 1)).map fun p=>tO p.1 p.2).all id=tP l
 |[]=>rfl
 |[_]=>rfl
 |a::b::r=>by
  have:=yA (b::r);simp only[List.drop_succ_cons,Qa,List.zip_cons_cons,M_,Qn,id]at this⊢;rw[tP, <-this]
theorem KZ(l:List D):S3.cutD l (ar 1) none=l.drop 1:=by
 unfold S3.cutD HT.sIx;cases l with
 |nil=>rfl
 |cons a r=>simp
def J1(d:D):Prop:=Ap d/\∀ds,d= .tup ds->∀x∈ds,Ap x/\∀ts,x= .tup ts->∀t∈ts,KY t
def gu:D->Bool
 | .tup [.int many,.tup ties]=>decide (0<=many) && (decide (many<=14) && (ties.all (jJ many) && tP ties))
 |_=>dV
theorem EG(h:jJ many d=c_):∃i j,d= .tup [.int i,.int j]/\0<=i/\i<j/\j<many:=by
 unfold jJ at h;split at h
 ·next a b=>
  simp only[j3]at h;obtain⟨X,U,Z⟩:=h;obtain⟨i,rfl,Y,T⟩:=ko X;obtain⟨j,rfl,S,W⟩:=ko U;simp only[decide_eq_true_eq]at Z;exact⟨i,j,rfl,Y,Z,W⟩
 ·cases h
theorem Aq(h:jJ many d=c_):yz d:=by
 obtain⟨i,j,rfl,_⟩:=EG h;exact⟨_,[i,j],rfl,rfl⟩
section
variable {many:Int}{d:D}{ρ:aF}{e1 e2:TM}{b:Bool}{y:D}
theorem and_eq(Z:e1 ρ=a_ (.bl b))(X:b=c_->e2 ρ=a_ y)(Y:b=dV->y= .bl dV):pW e1 e2 ρ=a_ y:=by
 unfold pW;rw[Z];cases b with
 |true=>exact X rfl
 |false=>rw[Y rfl];rfl
theorem K1{a b:Int}:kN (.int a) (.int b)=a_ (.bl (decide (a=b))):=bZ fun S=>eq_int.mpr ⟨rfl,rfl⟩
theorem yB(h:Ap d):cu [d]=a_ (.bl (xk d)):=by
 cases d<;>first|rfl|cases h
theorem tQ(h:Ap d):cZ [d]=a_ (.bl (qp d)):=by
 cases d with
 |tup ds=>
  refine gY (eU (and_eq (b:=c_) rfl (fun _=>(b9 (y:=.int 2) (fw (x:=.tup ds) rfl) rfl).trans K1) (fun e=>by cases e))) ?_
  show a_ (D.bl (decide ((ds.length:Int)=2)))=_
  match ds with
  |[]=>rfl
  |[_]=>rfl
  |[_,_]=>rfl
  |_::_::_::r=>rw[Mn (by simp only[p_];omega)];rfl
 |_=>first|rfl|cases h
theorem tR(h:Ap d):cQ [.int many,d]=a_ (.bl (fx many d)):=by
 cases d with
 |int i=>
  refine gY (eU (and_eq (b:=c_) ((cz rfl).trans (yB h)) (fun _=>?_) (fun e=>by cases e))) rfl
  show(if decide (0<=i)=c_ then (a_ (D.bl (decide (i<many))):M D)else a_ (.bl dV))=a_ (.bl (decide (0<=i) && decide (i<many)));by_cases h0:0<=i
  ·rw[if_pos (L7 h0),L7 h0,OQ]
  ·rw[if_neg (by rw[M3];exact h0),Mn h0,NY]
 |_=>first|rfl|cases h
theorem yC(h:qp d=c_):∃a b,d= .tup [a,b]:=by
 unfold qp at h;split at h
 ·exact⟨_,_,rfl⟩
 ·cases h
theorem tS{b:D}:jJ many (.tup [a,b])=(fx many a && (fx many b && match a,b with| .int i,.int j=>decide (i<j)|_,_=>dV)):=rfl
theorem Ho(h:KY d):jX [.int many,d]=a_ (.bl (jJ many d)):=by
 by_cases hp:qp d=c_
 ·obtain⟨a,b,rfl⟩:=yC hp;have X:Ap a:=h.2 _ rfl a (.head _);have W:Ap b:=h.2 _ rfl b (.tail _ (.head _));refine gY (o:=.ret (.bl (jJ many (.tup [a,b])))) ?_ rfl;unfold qh;have Y:eh (bV (ay cZ (aa (mV 1) au))) [ar (.int many),ar (.tup [a,b]),none,none]=a_ false:=by
   show(bV _ _>>=_)=_;rw[j4 ((cz rfl).trans (tQ h.1))];rfl
  refine(bA (ρ':=[ar (.int many),ar (.tup [a,b]),none,none]) ((di Y).trans (if_neg (by decide)))).trans ((bA (ρ':=[ar (.int many),ar (.tup [a,b]),ar a,ar b]) rfl).trans (eU ?_))
  refine and_eq (b:=fx many a) ((call2 rfl rfl).trans (tR X)) (fun k1=>and_eq (b:=fx many b) ((call2 rfl rfl).trans (tR W)) (fun k2=>?_) fun k2=>?_) fun k1=>?_
  ·obtain⟨i,rfl,_⟩:=ko k1;obtain⟨j,rfl,_⟩:=ko k2;rw[tS,k1,k2];rfl
  ·rw[tS,k2,NY,OF]
  ·rw[tS,k1,NY]
 ·have Z:qp d=false:=by rw[<-N7];exact hp
  have Y:eh (bV (ay cZ (aa (mV 1) au))) [ar (.int many),ar d,none,none]=a_ true:=by
   show(bV _ _>>=_)=_;rw[j4 ((cz rfl).trans (tQ h.1)),Z];rfl
  refine(gY (o:=.ret (.bl dV)) (mn ((di Y).trans (if_pos rfl))) rfl).trans ?_;unfold jJ;split
  ·cases hp rfl
  ·rfl
theorem Hq{a b:D}(Z:yz a)(Y:yz b):zw a b=a_ (.bl (tO a b)):=by
 obtain⟨xs,ns,rfl,e1⟩:=Z;obtain⟨ys,ms,rfl,e2⟩:=Y;simp only[zw,e1,e2,tO]
def Lf:D->D
 | .tup [a,b]=>.bl (tO a b)
 |_=>.non
theorem CG(h:∀t∈ts,yz t)(W:ts.length<=1000):eX [.tup ts]=a_ (.bl (tP ts)):=by
 have em:(((ts.zip (ts.drop 1)).map fun p:D×D=>D.tup [p.1,p.2]).filter fun _=>c_).map Lf=((ts.zip (ts.drop 1)).map fun p=>tO p.1 p.2).map D.bl:=by
  rw[eF,Mi,Mi];rfl
 have hs:aR (KR (mV 0) (oS (mK (.int 1))) oN) [ar (.tup ts)]=a_ (.tup (ts.drop 1)):=by
  refine oE (?_ :cF (S3.cutD ts (ar 1) none)=_);rw[KZ];unfold cF;exact if_pos (by rw[Pz];unfold lim;omega)
 have X:u6 (mV 0) (aR (KR (mV 0) (oS (mK (.int 1))) oN)) [ar (.tup ts)]=a_ ⟨(ts.zip (ts.drop 1)).map fun p:D×D=>D.tup [p.1,p.2],.none⟩:=by
  unfold u6;rw[bt (x:=.tup ts) rfl (bt hs rfl)];rfl
 have Z:=jZ (g:=ie 2 (bX (gN 0) (bX (gN 1) iK))) (t:=gM) (m:=gO) (js:=[none,none]) (fun ρ=>∃x y,ρ=[x,y]) (fun _=>c_) Lf X (by rw[LC,List.length_zip];unfold lim;omega) ⟨none,none,rfl⟩
  (fun d hd ρ ⟨x,y,hρ⟩=>by
   subst hρ;obtain⟨⟨a,b⟩,Y,rfl⟩:=Mp.mp hd;exact⟨_,rfl,⟨_,_,rfl⟩,rfl,fun _=>(b9 (x:=a) (y:=b) rfl rfl).trans (Hq (h a (Og Y).1) (h b (List.mem_of_mem_drop (Og Y).2)))⟩) (by rw[em];exact tK _)
 rw[em]at Z;refine gY (eU ((fw Z).trans xj)) ?_;rw[yA];rfl
theorem Hr(h:J1 d)(W:∀m ts,d= .tup [m,.tup ts]->ts.length<=1000):iR [d]=a_ (.bl (gu d)):=by
 by_cases hp:qp d=c_
 ·obtain⟨a,t,rfl⟩:=yC hp;obtain⟨L,_⟩:=h.2 _ rfl a (.head _);obtain⟨Q,O⟩:=h.2 _ rfl t (.tail _ (.head _));refine gY (o:=.ret (.bl (gu (.tup [a,t])))) ?_ rfl;unfold qi;have R:eh (bV (aR (ay cZ (aa (mV 0) au)))) [ar (.tup [a,t]),none,none]=a_ false:=by
   show(bV _ _>>=_)=_;rw[j4 (oE ((cz rfl).trans (tQ h.1)))];rfl
  refine(bA (ρ':=[ar (.tup [a,t]),none,none]) ((di R).trans (if_neg (by decide)))).trans ((bA (ρ':=[ar (.tup [a,t]),ar a,ar t]) rfl).trans ?_)
  have hw:eh (bV (aR (ay cu (aa (mV 1) au)))) [ar (.tup [a,t]),ar a,ar t]=a_ (!xk a):=by
   show(bV _ _>>=_)=_;rw[j4 (oE ((cz rfl).trans (yB L)))];rfl
  have X:∀{p q:iV} {b:Bool} {ρ:aF},p ρ=a_ b->D6 p q ρ=if b=c_ then a_ c_ else q ρ:=fun{p q b ρ} e=>by
   show(p ρ>>=_)=_;rw[e];rfl
  have no:∀{q:iV},D6 (eh (bV (aR (ay cu (aa (mV 1) au))))) q [ar (.tup [a,t]),ar a,ar t]=a_ c_->aK (iW (D6 (eh (bV (aR (ay cu (aa (mV 1) au))))) q) (bI (mK (.bl dV))) dZ) (bI (pW (cW uE (aR (bB (eY (mV 2)) (gN 0) il iq [none,ar 1]))) (aR (ay eX (aa (mV 2) au))))) [ar (.tup [a,t]),ar a,ar t]=a_ (.ret (.bl dV)):=fun e=>mn ((di e).trans (if_pos rfl));by_cases ew:xk a=c_
  ·cases a with
   | int many=>
    rw[ew]at hw;have T:eh (wV Gz Gz (mK (.int 0)) (mV 1) (mK (.int 14))) [ar (.tup [.int many,t]),ar (.int many),ar t]=a_ (!(decide (0<=many) && decide (many<=14))):=by
     show(((if decide (0<=many)=c_ then (a_ (D.bl (decide (many<=14))):M D)else a_ (.bl dV))>>=ku)>>=_)=_;by_cases h0:0<=many
     ·rw[if_pos (L7 h0),L7 h0,OQ];rfl
     ·rw[if_neg (by rw[M3];exact h0),Mn h0,NY];rfl
    by_cases hr:(decide (0<=many) && decide (many<=14))=c_
    ·rw [hr]at T;cases t with
     | tup ts=>
      have P:=W _ ts rfl;have N:D6 (eh (bV (aR (ay cu (aa (mV 1) au))))) (D6 (eh (wV Gz Gz (mK (.int 0)) (mV 1) (mK (.int 14)))) (eh (bV (ja (mV 2) "tuple")))) [ar (.tup [.int many,.tup ts]),ar (.int many),ar (.tup ts)]=a_ false:=by
       rw[X hw,if_neg (by decide),X T,if_neg (by decide)];rfl
      refine(bA ((di N).trans (if_neg (by decide)))).trans (eU ?_)
      have em:(ts.filter fun _=>c_).map (fun d=>D.bl (jJ many d))=(ts.map (jJ many)).map D.bl:=by rw[eF,Mi];rfl
      have hm:=jZ (mi:=eY (mV 2)) (ρ:=[ar (.tup [.int many,.tup ts]),ar (.int many),ar (.tup ts)]) (g:=gN 0) (t:=il) (m:=iq) (js:=[none,ar 1]) (its:=ts) (fun ρ=>∃x,ρ=[x,ar (.int many)]) (fun _=>c_) (fun d=>.bl (jJ many d)) rfl (by unfold lim;omega) ⟨none,rfl⟩
       (fun d hd ρ ⟨x,hρ⟩=>by
        subst hρ;exact⟨_,rfl,⟨_,rfl⟩,rfl,fun _=>oE ((call2 (x:=.int many) (y:=d) rfl rfl).trans (Ho (O ts rfl d hd)))⟩) (by rw[em];exact tK _)
      rw[em]at hm;have U:(ts.map (jJ many)).all id=ts.all (jJ many):=by rw[PH];rfl
      have Y:gu (.tup [.int many,.tup ts])=(ts.all (jJ many) && tP ts):=by
       show(decide (0<=many) && (decide (many<=14) && (ts.all (jJ many) && tP ts)))=_;rw[<-Bool.and_assoc,hr,OQ]
      rw[Y];refine and_eq (b:=ts.all (jJ many)) ((fw hm).trans (xj.trans (by rw[U]))) (fun Z=>?_) fun Z=>by rw[Z];rfl
      rw[Z,OQ];exact oE ((cz rfl).trans (CG (fun t Q=>Aq (Ml.mp Z t Q)) P))
     |_=>first|exact no (by rw[X hw,if_neg (by decide),X T,if_neg (by decide)];rfl)|cases Q
    ·have Y:gu (.tup [.int many,t])=false:=by
      cases t<;>first|rfl|(show(decide (0<=many) && (decide (many<=14) && _))=dV;rw[<-Bool.and_assoc,N7 _ |>.mp hr,NY])
     rw[Y];rw[N7 _ |>.mp hr]at T;exact no (by rw[X hw,if_neg (by decide),X T];rfl)
   |_=>cases ew
  ·have Y:gu (.tup [a,t])=false:=by cases a<;>first|rfl|exact absurd rfl ew
   rw[Y];exact no (by rw[X hw,N7 _ |>.mp ew];rfl)
 ·have S:qp d=false:=by rw[<-N7];exact hp
  have R:eh (bV (aR (ay cZ (aa (mV 0) au)))) [ar d,none,none]=a_ true:=by
   show(bV _ _>>=_)=_;rw[j4 (oE ((cz rfl).trans (tQ h.1))),S];rfl
  refine(gY (o:=.ret (.bl dV)) (mn ((di R).trans (if_pos rfl))) rfl).trans ?_;unfold gu;split
  ·cases hp rfl
  ·rfl
end
def eZ(S:aA)(k:Nat):Prop:=∃st b,S[k]? =ar [.int st,.bl b]/\0<=st/\(b=dV->st<2147483647)
theorem eZ.lt{S:aA}{k:Nat}(h:eZ S k):k<S.length:=let ⟨_,_,e,_⟩:=h;(LH.mp e).1
theorem CH{t:iV}{m n:cT}{ρ:aF}{b:Bool}{S S1:aA}(h:t ρ S=ar (.ok b,S1)):iW t m n ρ S=if b=c_ then m ρ S1 else n ρ S1:=by
 show(t ρ>>=fun c=>if c=c_ then m ρ else n ρ) S=_;rw[aJ h];split<;>rfl
section
variable {S:aA}{k:Nat}{st x y many:Int}{b:Bool}{r:List (Option D)}{e1 e2:TM}{ρ:aF}
theorem HZ(e:S[k]? =ar [.int st,.bl b]):aY dD (mV 0) (mK (.int 0)) (ar (.lst k)::r) S=ar (.ok (.int st),S):=CF e rfl
theorem gJ(Z:e1 ρ S=ar (.ok (.int x),S))(Y:e2 ρ S=ar (.ok (.int y),S))(h:0<y):aY kM e1 e2 ρ S=ar (.ok (.int (x % y)),S):=
 (g9 Z Y).trans (Ms (if_pos h:(if 0<y then (a_ (D.int (x % y)):M D)else M.fail)=_) S)
theorem qr(Z:e1 ρ S=ar (.ok (.int x),S))(Y:e2 ρ S=ar (.ok (.int y),S))(h:sx x y):aY nY e1 e2 ρ S=ar (.ok (.int (x*y)),S):=
 (g9 Z Y).trans (Ms (if_pos h:(if sx x y then (a_ (D.int (x*y)):M D)else M.fail)=_) S)
theorem CI(Z:e1 ρ S=ar (.ok (.int x),S))(Y:e2 ρ S=ar (.ok (.int y),S))(h:v5 x y):aY jR e1 e2 ρ S=ar (.ok (.int (x / y)),S):=
 (g9 Z Y).trans (Ms (if_pos h:(if v5 x y then (a_ (D.int (x / y)):M D)else M.fail)=_) S)
theorem tT(Z:e1 ρ S=ar (.ok (.int x),S))(Y:e2 ρ S=ar (.ok (.int y),S)):aY cI e1 e2 ρ S=ar (.ok (.int (x+y)),S):=(g9 Z Y).trans rfl
theorem JA(e:S[k]? =ar [.int st,.bl b])(h:e1 (ar (.lst k)::r) S=ar (.ok (.int x),S)):zU e1 (JX (mV 0) (mK (.int 0))) (ar (.lst k)::r) S=ar (.ok (.nx (ar (.lst k)::r)),S.set k [.int x,.bl b]):=by
 have Y:jP (.lst k) (.int 0) (.int x) S=ar (.ok (),S.set k [.int x,.bl b]):=by
  show(getL k>>=_) S=_;rw[aJ (dI e)];exact aJ (km (us:=[.int x,.bl b]) qQ (LH.mp e).1)
 have Z:JX (mV 0) (mK (.int 0)) (.int x) (ar (.lst k)::r) S=ar (.ok (ar (.lst k)::r),S.set k [.int x,.bl b]):=aJ Y;show(e1 _>>=_) S=_;rw[aJ h];exact aJ Z
theorem qt{m n:cT}{d:D}{S1:aA}(h:m ρ S=ar (.ok (.ret d),S1)):aK m n ρ S=ar (.ok (.ret d),S1):=aJ h
end
theorem Hs{S:aA}{k:Nat}{many:Int}{Q:D->aA->Prop}(hs:eZ S k)(Y:0<many)(P:many<1073741824)
  (U:∀j S',0<=j->j<many->S'.length=S.length->(∀i,i≠k->S'[i]? =S[i]?)->eZ S' k->Q (.int j) S'):runs (aL [.lst k,.int many]) S Q:=by
 have W:=hs.lt;obtain⟨st,b,e,O,N⟩:=hs;have q:∀x:Int,0<=x % many/\x % many<many:=fun x=>⟨NM _ (by omega),Nl _ Y⟩
 have R:bV (aY dD (mV 0) (mK (.int 1))) [ar (.lst k),ar (.int many),none,none] S=ar (.ok b,S):=aJ (CF (x:=.bl b) e rfl);have Z:∀(ys:List D) i,i≠k->(S.set k ys)[i]? =S[i]? :=fun ys i L=>MI (j7 L);cases b with
 |true=>
  refine⟨_,_,fJ (o:=.ret (.int (st % many))) (S1:=S.set k [.int (st / many),.bl c_]) ?_ rfl,U _ _ (q _).1 (q _).2 (by simp) (Z _) ⟨_,c_,Mh W,Int.ediv_nonneg O (by omega),fun z=>by cases z⟩⟩
  exact qt ((CH R).trans ((aS (b7 (gJ (HZ e) rfl Y))).trans ((aS (JA e (CI (HZ e) rfl ⟨Y,P⟩))).trans (g0 rfl))))
 |false=>
  have K:=N rfl;generalize hst:(st*48271+29) % 2147483647=st';have s1:0<=st':=by rw[<-hst];exact NM _ (by decide)
  have s2:st'<2147483647:=by rw[<-hst];exact Nl _ (by decide)
  have e1:(S.set k [.int st',.bl dV])[k]? =ar [.int st',.bl dV]:=Mh W;have T:=JA (r:=[ar (.int many),none,none]) e (gJ (tT (qr (HZ e) (e2:=mK (.int 48271)) rfl (.inr ⟨by decide,by decide⟩)) (e2:=mK (.int 29)) rfl) (e2:=mK (.int 2147483647)) rfl (by decide))
  rw[hst]at T;have X:∀r,aY kM (aY cI (aY cI (aY nY (aY dD (mV 0) (mK (.int 0))) (aY dD (mV 0) (mK (.int 0)))) (aY nY (mK (.int 39373)) (aY dD (mV 0) (mK (.int 0))))) (mK (.int 7))) (mK (.int 2147483629)) (ar (.lst k)::r) (S.set k [.int st',.bl dV])=_:=fun r=>gJ (tT (tT (qr (HZ e1) (HZ e1) (.inl ⟨by omega,by omega⟩)) (qr rfl (HZ e1) (.inl ⟨by decide,by decide⟩))) rfl) rfl (by decide)
  generalize hx:(st'*st'+39373*st'+7) % 2147483629=x at X;have I:0<=x:=by rw[<-hx];exact NM _ (by decide)
  have J:x<2147483629:=by rw[<-hx];exact Nl _ (by decide)
  refine⟨_,_,fJ (o:=.ret (.int ((x*x+16807*x) % 2147483587 / 8 % many))) (S1:=S.set k [.int st',.bl dV]) ?_ rfl,U _ _ (q _).1 (q _).2 (by simp) (Z _) ⟨_,dV,e1,s1,fun _=>s2⟩⟩
  exact(aS (CH R)).trans ((aS T).trans ((aS (b7 (X _))).trans ((aS (b7 (gJ (tT (qr rfl rfl (.inl ⟨by omega,by omega⟩)) (qr rfl rfl (.inl ⟨by decide,by decide⟩))) rfl (by decide)))).trans (g0 (gJ (CI rfl rfl ⟨by decide,by decide⟩) rfl Y)))))
theorem Ht{S:aA}{ns:List Int}{k:Nat}:∃i,c8 [.ro (ns.map D.int),.int k] S=ar (.ok (.int i),S):=by
 have Z:fC zw (mV 1) (cW dO (mV 0)) [ar (.ro (ns.map D.int)),ar (.int k)]=a_ (decide ((k:Int)<(ns.map D.int).length)):=d9 (x:=.int k) (y:=.int (ns.map D.int).length) rfl rfl rfl;by_cases h:k<ns.length
 ·refine⟨ns[k],fJ (o:=.ret (.int ns[k])) (qt ((Ms ((di Z).trans (if_pos (L7 (by rw[LC];omega)))) S).trans (g0 (x:=.int ns[k]) (S1:=S) ?_))) rfl⟩
  have e:j8 (ns.map D.int) (k:Int)=ar (.int ns[k]):=by
   unfold j8 zd;simp[h]
  show(match j8 (ns.map D.int) k with|some d=>(a_ d:M D)|none=>M.fail) S=_
  rw[e];rfl
 ·exact⟨0,fJ (o:=.ret (.int 0)) (Ms ((bA ((di Z).trans (if_neg (by rw[M3,LC];omega)))).trans rfl) S) rfl⟩
theorem EH{S:aA}{ns:List Int}{k:Nat}{Q:D->aA->Prop}(X:∀xs,eZ (S++[xs]) S.length->Q (.lst S.length) (S++[xs])):runs (fq [.ro (ns.map D.int),.int k]) S Q:=by
 obtain⟨c,U⟩:=Ht (S:=S) (ns:=ns) (k:=k);have W:bF 2 (ay c8 (aa (mV 0) (aa (mV 1) au))) [ar (.ro (ns.map D.int)),ar (.int k),none] S=ar (.ok (.nx [ar (.ro (ns.map D.int)),ar (.int k),ar (.int c)]),S):=b7 (x:=.int c) (by rw[call2 (x:=.ro (ns.map D.int)) (y:=.int k) rfl rfl];exact U)
 have Z:∀ ρ,aY uy (mK (.int 10)) (mK (.int 18)) ρ=a_ (.int 1000000000000000000):=fun ρ=>(b9 (x:=.int 10) (y:=.int 18) rfl rfl).trans (if_pos (e:=M.fail) (show AS 10 18 from⟨by decide,by decide,by decide⟩))
 have Y:fC KI (mV 2) (aY uy (mK (.int 10)) (mK (.int 18))) [ar (.ro (ns.map D.int)),ar (.int k),ar (.int c)]=a_ (decide (1000000000000000000<=c)):=d9 (x:=.int c) rfl (Z _) rfl;by_cases h:1000000000000000000<=c
 ·exact⟨_,_,fJ (o:=.ret (.lst S.length)) ((aS W).trans (qt ((Ms ((di Y).trans (if_pos (L7 h))) S).trans (g0 (j5 (ys:=[.int (c - 1000000000000000000),.bl c_]) (dw (S1:=S) (Ms ((b9 (x:=.int c) rfl (Z _)).trans rfl) S) (dw rfl rfl)) qQ))))) rfl,X _ ⟨_,c_,bP,by omega,fun z=>by cases z⟩⟩
 ·exact⟨_,_,fJ (o:=.ret (.lst S.length)) ((aS W).trans ((aS (Ms ((di Y).trans (if_neg (by rw[M3];exact h))) S)).trans (g0 (j5 (ys:=[.int (c % 2147483647),.bl dV]) (dw (gJ rfl rfl (by decide)) (dw rfl rfl)) qQ)))) rfl,X _ ⟨_,dV,bP,NM _ (by decide),fun _=>Nl _ (by decide)⟩⟩
def jx(n a:Nat):List (List Int):=(k6 (a+1) (n - (a+1))).map fun b:Nat=>[(a:Int),(b:Int)]
def bw(n:Nat):List (List Int):=(ey n).flatMap (jx n)
theorem pairs_len(Z:n<=14):(bw n).length<=91:=by
 have:∀m,m<15->(bw m).length<=91:=by decide+kernel
 exact this n (by omega)
theorem EI(Z:n<=14):(jx n a).length<=14:=by unfold jx;simp;omega
structure Kp(k:Nat)(S S':aA):Prop where
 len:S.length<=S'.length
 oth:∀i,i<S.length->i≠k->S'[i]? =S[i]?
 st:eZ S' k
theorem Kp.trans(a:Kp k S S1)(b:Kp k S1 S2):Kp k S S2:=⟨LS a.len b.len,fun i Y Z=>(b.oth i (LV Y a.len) Z).trans (a.oth i Y Z),b.st⟩
theorem Kp.refl(h:eZ S k):Kp k S S:=⟨LF _,fun _ _ _=>rfl,h⟩
theorem eZ.grow(h:eZ S k):eZ (S++G) k:=by
 obtain⟨st,b,e,r⟩:=id h;exact⟨st,b,by rw[Mm h.lt];exact e,r⟩
theorem Kp.grow(h:eZ S k)(G:aA):Kp k S (S++G):=⟨by simp,fun i Z _=>Mm Z,h.grow⟩
theorem yD{Q:D->aA->Prop}(hs:eZ S k)(U:0<many)(W:many<1073741824)(X:∀j Z,0<=j->j<many->Z.length=S.length->Kp k S Z->Q (.int j) Z):runs (aL [.lst k,.int many]) S Q:=
 Hs hs U W fun j Z a b c d e=>X j Z a b c ⟨Oe c.symm,fun i _ Y=>d i Y,e⟩
theorem nh:∀ns:List Int,mapP (gm S n) (ns.map D.int)=ar (ns.map J_)
 |[]=>rfl
 |x::r=>by
  show(match gm S n (D.int x),mapP (gm S n) (r.map D.int)with|some p,ar ps=>ar (p::ps)|_,_=>none)=_
  rw[ju,nh r];rfl
theorem CJ{ns:List Int}(h:S[k]? =ar (ns.map D.int)):gm S (n+1) (.lst k)=ar (.list (ns.map J_)):=by
 show((S[k]?).bind fun xs=>(mapP (gm S n) xs).map oD)=_;rw[h];show(mapP (gm S n) (ns.map D.int)).map oD=_;rw[nh];rfl
theorem rY{α Z:Type}(f:α->Z):∀(l:List α) (i:Nat),(l.map f).eraseIdx i=(l.eraseIdx i).map f
 |[],_=>rfl
 |_::_,0=>rfl
 |a::l,i+1=>by simp[rY f l i]
def vx(r:List Int):PyData:=.tuple (r.map J_)
theorem oF(r:List Int):gm S (n+1) (tupI r)=ar (vx r):=by
 show(mapP (gm S n) (r.map D.int)).map PyData.tuple=_;rw[nh];rfl
theorem ni:∀rs:List (List Int),mapP (gm S (n+1)) (rs.map tupI)=ar (rs.map vx)
 |[]=>rfl
 |x::r=>by
  show(match gm S (n+1) (tupI x),mapP (gm S (n+1)) (r.map tupI)with|some p,ar ps=>ar (p::ps)|_,_=>none)=_
  rw[oF,ni r];rfl
theorem CK{rs:List (List Int)}(h:S[k]? =ar (rs.map tupI)):gm S (n+2) (.lst k)=ar (.list (rs.map vx)):=by
 show((S[k]?).bind fun xs=>(mapP (gm S (n+1)) xs).map oD)=_;rw[h];show(mapP (gm S (n+1)) (rs.map tupI)).map oD=_;rw[ni];rfl
theorem EJ{rs:List (List Int)}{Q:D->aA->Prop}(h:S[k]? =ar (rs.map tupI))(Z:∀b,Q (.bl b) S):runs (inD (tupI r) (.lst k)) S Q:=by
 unfold inD;rw[tu (oF r) (CK h) rfl];exact Z _
theorem JB{Q:D->aA->Prop}(Z:∀b,Q (.bl b) S):runs (ky (.bl a) (.bl b)) S Q:=by
 unfold ky;rw[fN m7 m7];exact Z _
theorem jz(ns:List Int):intsOf (ns.map D.int)=ar ns:=by
 induction ns with
 |nil=>rfl
 |cons x r ih=>simp[intsOf,ih]
theorem qu(rs:List (List Int)):rowsOf (rs.map tupI)=ar rs:=by
 induction rs with
 |nil=>rfl
 |cons x r ih=>
  show(match intsOf (x.map D.int),rowsOf (r.map tupI)with|some ns,ar nss=>ar (ns::nss)|_,_=>none)=_
  rw[jz,ih]
structure WebOk(many:Int)(ts:List (List Int)):Prop where
 el:∀t∈ts,∃a b:Int,t=[a,b]/\0<=a/\a<b/\b<many
 ris:ts.Pairwise fun a b=>HT.lexLt a b=c_
 few:ts.length<=21
theorem vy:∀t∈bw n,∃a b:Int,t=[a,b]/\0<=a/\a<b/\b<n:=by
 intro t X;unfold bw at X;obtain⟨a,W,Y⟩:=List.mem_flatMap.mp X;unfold jx at Y;obtain⟨b,Z,rfl⟩:=Mp.mp Y;rw[OC]at Z;rw[Ma]at W;exact⟨a,b,rfl,by omega,by omega,by omega⟩
theorem rZ(Z:n<=7):(bw n).Pairwise (fun a b=>HT.lexLt a b=c_)/\(bw n).length<=21:=by
 have:∀m,m<8->(bw m).Pairwise (fun a b=>HT.lexLt a b=c_)/\(bw m).length<=21:=by decide+kernel
 exact this n (by omega)
theorem WebOk.of_sub(Z:n<=7){Y:List (List Int)}(h:Y.Sublist (bw n)):WebOk n Y:=
 ⟨fun t X=>vy t (h.subset X),List.Pairwise.sublist h (rZ Z).1,LS h.length_le (rZ Z).2⟩
theorem Ar{Z:List (List Int)}(h:Z.Pairwise fun a b=>HT.lexLt a b=c_):iO Z=Z:=
 mS (dq Z) (dY Z) (h.imp fun z=>uP z)
theorem As:tO (tupI a) (tupI b)=HT.lexLt a b:=by
 simp only[tO,tupI,jz]
theorem vz:∀{ts:List (List Int)},ts.Pairwise (fun a b=>HT.lexLt a b=c_)->tP (ts.map tupI)=c_
 |[],_=>rfl
 |[_],_=>rfl
 |a::b::r,h=>by
  obtain⟨Z,Y⟩:=MK.mp h;show(tO (tupI a) (tupI b) && tP ((b::r).map tupI))=c_;rw[As,Z b (by simp),vz Y];rfl
theorem yE(W:0<=many)(Z:many<=14)(w:WebOk many ts):gu (.tup [.int many,.tup (ts.map tupI)])=true:=by
 have:(ts.map tupI).all (jJ many)=true:=by
  rw[PH,Ml];intro t T;obtain⟨a,b,rfl,X,U,Y⟩:=w.el t T;simp[tupI,jJ,fx,X,U,Y];omega
 simp only[gu,W,Z,this,vz w.ris,decide_true,Qo]
theorem Au:t∈gH l↔t∈l:=by
 unfold gH;rw[(dq _).mem_iff,iP]
theorem sd:∀l:List (List Int),(fG l).length<=l.length
 |[]=>LF _
 |x::r=>by
  unfold fG;have:=sd r;split
  ·simp;omega
  ·simp;omega
theorem nj(l:List (List Int)):(gH l).length<=l.length:=by
 unfold gH;rw[(dq _).length_eq];exact sd l
theorem Av(l:List (List Int)):(gH l).Pairwise fun a b=>HT.lexLt a b=true:=by
 have X:=dY (fG l);have Z:(gH l).Nodup:=(Oa (dq _)).mpr (lI l);unfold gH at Z⊢;generalize iO (fG l)=s at X Z
 induction s with
 |nil=>exact .nil
 |cons x r ih=>
  obtain⟨a1,a2⟩:=MK.mp X;obtain⟨U,W⟩:=MM.mp Z;refine MK.mpr ⟨fun y Y=>?_,ih a2 W⟩;cases q:HT.lexLt x y with
  |true=>rfl
  |false=>exact absurd (sX q (a1 y Y) ▸ Y) U
def JC:Nat->D->Bool
 |_,.ro _=>dV
 |_,.fn _ _ _ _ _=>dV
 |_,.exc _ _=>dV
 |n+1,.tup ds=>ds.all (JC n)
 |_,_=>c_
theorem yF(h:JC n d=c_):Ap d:=by
 cases d<;>first|rfl|(cases n<;>cases h)
theorem JD(h:JC (n+1) d=c_):KY d:=⟨yF h,fun ds e x Z=>by
 subst e;exact yF (Ml.mp h x Z)⟩
def JE:D->Bool
 | .tup ds=>ds.all fun x=>match x with
  | .tup ts=>decide (ts.length<=18)
  |_=>c_
 |_=>c_
structure Good(d:D):Prop where
 nr:J1 d
 few:∀m ts,d= .tup [m,.tup ts]->ts.length<=18
theorem EK(h:JC 3 d=c_)(W:JE d=c_):Good d:=⟨⟨yF h,fun ds e x X=>by
  subst e;have Z:=Ml.mp h x X;refine⟨yF Z,fun Y T t U=>?_⟩;subst T;exact JD (Ml.mp Z t U)⟩,fun m Y e=>by
  subst e;have:=Ml.mp W (.tup Y) (by simp)
  simpa using this⟩
def CL(d:D):Bool:=JC 3 d && JE d
theorem mq(h:CL d=c_):Good d:=by
 unfold CL at h;rw[MW]at h;exact EK h.1 h.2
theorem Fw{xs:List D}{j:Int}(X:0<=j)(Y:j<xs.length):∃d,j8 xs j=ar d/\d∈xs:=by
 have Z:j.toNat<xs.length:=by omega
 refine⟨xs[j.toNat],?_,MX Z⟩;unfold j8 zd;simp[X,Y,Z]
section
variable {d:D}
theorem xm(h:J1 d)(Y:∀m ts,d= .tup [m,.tup ts]->ts.length<=1000):bJ [d]=if gu d=c_ then a_ .non else M.raise (.exc "NoWeb" []):=by
 have Z:eh (bV (aR (ay iR (aa (mV 0) au)))) [ar d]=a_ (!gu d):=by
  show(bV _ _>>=_)=_;rw[j4 (b:=gu d) (oE ((cz rfl).trans (Hr h Y)))];rfl
 cases hw:gu d with
 |true=>exact(kX ((di Z).trans (by rw[hw];exact if_neg (by decide))) rfl).trans (if_pos rfl).symm
 |false=>exact(c9 ((di Z).trans (by rw[hw];exact if_pos rfl))).trans (if_neg (by decide)).symm
end
def Lg(n:Nat):D->List D
 | .int a=>(jx n a.toNat).map tupI
 |_=>[]
theorem EL(n a:Nat):((aU ((a:Int)+1) ((n:Int) - ((a:Int)+1)).toNat).filter fun _=>c_).flatMap (fun d=>[D.tup [.int a,d]])=(jx n a).map tupI:=by
 have e:((n:Int) - ((a:Int)+1)).toNat=n - (a+1):=by omega
 rw[e,eF];unfold aU jx;rw[Po,Mi,Mi,List.flatMap_map]
 induction (ey (n - (a+1)))with
 |nil=>rfl
 |cons x l ih=>rw[NU,ih];rfl
theorem EM(n:Nat):((aU 0 n).filter fun _=>c_).flatMap (Lg n)=(bw n).map tupI:=by
 rw[eF];unfold aU bw;rw[List.flatMap_map,List.map_flatMap];congr 1;funext a;show(jx n (0+(a:Int)).toNat).map tupI=_;congr 2;omega
theorem eI(l:List (List Int)):bY 0 (l.map tupI)=true:=by
 have h:∀r:List Int,bY 0 (r.map D.int)=true:=fun r=>by
  induction r with
  |nil=>rfl
  |cons x r ih=>rw[LZ];unfold bY;rw[ih];unfold fO;rfl
 induction l with
 |nil=>rfl
 |cons x l ih=>rw[LZ];unfold bY;rw[ih];unfold tupI fO;rw[h];rfl
theorem vA(Z:n<=50):(bw n).length<=2500:=by
  have:∀l:List Nat,(l.flatMap (jx n)).length<=l.length*50:=fun l=>by
    induction l with
    |nil=>exact LF 0
    | cons x l ih => rw[NU,LL,Mg,NL];have:(jx n x).length<=50:=by unfold jx;simp;omega
                     omega
  have:=this (ey n);rw[Mc]at this;unfold bw;exact LS this (Nat.mul_le_mul_right 50 Z)
theorem JF{n a:Nat}(U:n<=50)(T:a<n)(y:Option D):∃ ρ2,(∃x y,ρ2=[x,y,ar (.int n)])/\Hj (vW (aY cI (mV 0) (mK (.int 1))) (mV 2)) (gN 1) cO bK [ar (.int a),y,ar (.int n)]=a_ ((jx n a).map tupI,ρ2):=by
 obtain⟨ρ',⟨Z,rfl⟩,e⟩:=yw (its:=aU ((a:Int)+1) ((n:Int) - ((a:Int)+1)).toNat) (g:=gN 1) (t:=cO) (bd:=Af bK) (fun ρ=>∃y,ρ=[ar (.int a),y,ar (.int n)]) (fun _=>c_) (fun d=>[D.tup [.int a,d]]) (aU ((a:Int)+1) ((n:Int) - ((a:Int)+1)).toNat) [ar (.int a),y,ar (.int n)] ⟨y,rfl⟩ fun d hd ρ ⟨y,hρ⟩=>by
  subst hρ;refine⟨_,rfl,rfl,fun _=>⟨[ar (.int a),ar d,ar (.int n)],⟨_,rfl⟩,?_⟩,fun h=>by cases h⟩
  have:bK [ar (.int a),ar d,ar (.int n)]=a_ (.tup [.int a,d]):=by
   show cF [.int a,d]=_;unfold cF;exact if_pos qQ
  show(bK [ar (.int a),ar d,ar (.int n)]>>=_)=_;rw[this];rfl
 refine⟨[ar (.int a),Z,ar (.int n)],⟨ar (.int a),Z,rfl⟩,?_⟩;have Y: -(2 ^ 62)<=(a:Int)+1/\(a:Int)+1<2 ^ 62/\ -(2 ^ 62)<=(n:Int)/\(n:Int)<2 ^ 62:=by omega
 have W:(aU ((a:Int)+1) ((n:Int) - ((a:Int)+1)).toNat).length<=3000:=by unfold aU;simp;omega
 rw[EL]at e;have X:vW (aY cI (mV 0) (mK (.int 1))) (mV 2) [ar (.int a),y,ar (.int n)]=a_ ⟨aU ((a:Int)+1) ((n:Int) - ((a:Int)+1)).toNat,.none⟩:=by
  exact(tJ (b9 (x:=.int a) (y:=.int 1) rfl rfl) (y:=.int n) rfl).trans (EF Y)
 unfold Hj;rw[X,aj];dsimp only;rw[if_pos W];exact e
theorem EN{n:Nat}(U:n<=50):ij (du [.int n])=a_ (.fz ((bw n).map tupI)):=by
 obtain⟨ρ',_,e⟩:=yw (its:=aU 0 n) (g:=gN 0) (t:=eA) (bd:=Hj (vW (aY cI (mV 0) (mK (.int 1))) (mV 2)) (gN 1) cO bK) (fun ρ=>∃x y,ρ=[x,y,ar (.int n)]) (fun _=>c_) (Lg n) (aU 0 n) [none,none,ar (.int n)] ⟨none,none,rfl⟩ fun d hd ρ ⟨x,y,hρ⟩=>by
  subst hρ;obtain⟨a,T,rfl⟩:=Mp.mp hd;have Z:=Ma.mp T;refine⟨_,rfl,rfl,fun _=>?_,fun h=>by cases h⟩
  obtain⟨W,Y,X⟩:=JF U Z y;refine⟨W,Y,?_⟩;show Hj _ _ _ _ [ar (.int (0+(a:Int))),y,ar (.int n)]=_;rw[Of,X];rfl
 rw[EM]at e;have Q: -(2 ^ 62)<=(n:Int)/\(n:Int)<2 ^ 62:=by omega
 have R:(aU 0 n).length<=3000:=by unfold aU;simp;omega
 have Y:m4 (lL (mV 0)) (gN 0) eA (vW (aY cI (mV 0) (mK (.int 1))) (mV 2)) (gN 1) cO bK [none,none,ar 0] [ar (.int n)]=bh ((bw n).map tupI):=by
  have O:lL (mV 0) [ar (.int n)]=a_ ⟨aU 0 n,.none⟩:=by
   have:=(qm (m:=mV 0) (ρ:=[ar (.int n)]) (x:=.int n) rfl).trans (Ao Q);rw[Mv]at this;exact this
  have P:gi [none,none,ar 0] [ar (D.int n)]=[none,none,ar (.int n)]:=rfl;unfold m4;rw[O,aj];dsimp only;rw[if_pos R,P,e,aj]
 have X:bI (aR (m4 (lL (mV 0)) (gN 0) eA (vW (aY cI (mV 0) (mK (.int 1))) (mV 2)) (gN 1) cO bK [none,none,ar 0])) [ar (.int n)]=a_ (.ret (.fz ((bw n).map tupI))):=by
  unfold bI aR;rw[Y,bR (eI _) (by rw[LC];exact LS (vA U) (by unfold lim;omega))]
  rfl
 have S:du [.int n]=a_ (.fz ((bw n).map tupI)):=by
  exact gY X rfl
 rw[S];exact yr
abbrev aW(n:Nat)(E:List (List Int)):D:=.tup [.int n,.tup (E.map tupI)]
theorem CM:J1 (aW n E):=by
 refine⟨rfl,?_⟩;intro ds e x Z;cases e;simp only[gc,f_,or_false]at Z;rcases Z with rfl|rfl
 ·exact⟨rfl,fun Y e=>by cases e⟩
 ·refine⟨rfl,fun Y e t X=>?_⟩;cases e;obtain⟨r,_,rfl⟩:=Mp.mp X;refine⟨rfl,fun ds e x Z=>?_⟩;cases e;obtain⟨i,_,rfl⟩:=Mp.mp Z;exact rfl
theorem yG{n:Nat}{E:List (List Int)}(w:WebOk n E):∀m Z,aW n E= .tup [m,.tup Z]->Z.length<=1000:=by
 intro m Z e;cases e;have:=w.few;rw[LC];omega
def great(a:Nat):D:=.exc "TooGreat" [.int a,.int 7]
theorem Fx{n:Nat}{E:List (List Int)}(W:n<=14)(w:WebOk n E):b0 [aW n E]=if 7<E.length then M.raise (great E.length)else a_ .non:=by
 have hw:gu (aW n E)=true:=yE (by omega) (by omega) w
 have h0:bJ [aW n E]=a_ .non:=by rw[xm CM (yG w),if_pos hw]
 have Z:cW dO (aY dD (mV 0) (mK (.int 1))) [ar (aW n E)]=a_ (.int E.length):=by
  refine(fw (x:=.tup (E.map tupI)) rfl).trans ?_;show a_ (D.int (E.map tupI).length)=_;rw[LC]
 have X:fC xP (cW dO (aY dD (mV 0) (mK (.int 1)))) (mK (.int 7)) [ar (aW n E)]=a_ (decide (7<(E.length:Int))):=d9 Z rfl rfl;have hm:eO [ar (aW n E)]=if 7<E.length then M.raise (great E.length)else a_ (.nx [ar (aW n E)]):=by
  unfold eO;rw[bA (vt (oE ((cz rfl).trans h0))),di X];by_cases h:7<E.length
  ·rw[if_pos h,if_pos (L7 (by omega))]
   have Y:aa (cW dO (aY dD (mV 0) (mK (.int 1)))) (aa (mK (.int 7)) au) [ar (aW n E)]=a_ [.int E.length,.int 7]:=by
    unfold aa;rw[Z];rfl
   unfold oC;rw[Y];rfl
  ·rw[if_neg h,if_neg (by rw[M3];omega)]
 by_cases h:7<E.length
 ·rw[if_pos h]at hm⊢;exact c9 hm
 ·rw[if_neg h]at hm⊢;exact kX hm rfl
theorem same_int:cM (k+1) [.int i,.int i]=a_ (.bl c_):=by
 refine gY (o:=.ret (.bl c_)) ?_ rfl;show dQ _ [ar (.int i),ar (.int i)]=_;unfold dQ;rw[bA (ρ':=[ar (.int i),ar (.int i)]) ((di (b:=dV) (j4 rfl)).trans (if_neg (by decide)))]
 refine eU ?_;show(aY kN (mV 0) (mV 1) _>>=_)=_;rw[b9 (x:=.int i) (y:=.int i) rfl rfl,Lv,aj];rw[show ku (D.bl c_)=a_ c_ from rfl,aj,if_pos rfl,b9 (x:=.bl dV) (y:=.bl dV) rfl rfl,Lw]
theorem mw{xs:List D}(P:xs.length<=1000)(h:∀x∈xs,cM k [x,x]=a_ (.bl c_)):cM (k+1) [.tup xs,.tup xs]=a_ (.bl c_):=by
 have em:((((xs.zip xs).map fun p:D×D=>D.tup [p.1,p.2]).filter fun _=>c_).map fun _=>D.bl c_)=(xs.map fun _=>c_).map D.bl:=by
  rw[eF,Mi,Mi];refine List.ext_getElem (by simp) fun i R Q=>by simp
 have Y:=jZ (mi:=u6 (mV 0) (mV 1)) (g:=ie 2 (bX (gN 0) (bX (gN 1) iK))) (t:=gW (cM k)) (m:=gX (cM k)) (js:=[none,none]) (ρ:=[ar (.tup xs),ar (.tup xs)])
  (its:=(xs.zip xs).map fun p:D×D=>D.tup [p.1,p.2]) (fun ρ=>∃x y,ρ=[x,y]) (fun _=>c_) (fun _=>.bl c_) rfl (by rw[LC,List.length_zip];unfold lim;omega) ⟨none,none,rfl⟩
  (fun d hd ρ ⟨x,y,hρ⟩=>by
   subst hρ;obtain⟨z,W,rfl⟩:=vv hd;exact⟨_,rfl,⟨_,_,rfl⟩,rfl,fun _=>oE ((call2 rfl rfl).trans (h z W))⟩) (by rw[em];exact tK _)
 rw[em]at Y;have Z:(xs.map fun _=>c_).all id=true:=by rw[PH];exact Ml.mpr fun _ _=>rfl
 have hlen:∀j,j<2->cW dO (mV j) [ar (.tup xs),ar (.tup xs)]=a_ (.int xs.length):=fun j S=>by
  match j,S with
  |0,_=>rfl
  |1,_=>rfl
 refine gY (o:=.ret (.bl c_)) ?_ rfl;show dQ _ [ar (.tup xs),ar (.tup xs)]=_;unfold dQ;refine mn ?_;refine(di (b:=c_) (j4 rfl)).trans ?_;rw[if_pos rfl];have O:∀T,aY ky (ja (mV 0) T) (ja (mV 1) T) [ar (.tup xs),ar (.tup xs)]=a_ (.bl dV):=fun T=>(b9 (x:=.bl (iM "tuple" T)) (y:=.bl (iM "tuple" T)) rfl rfl).trans Le;have X:∀T,fC ky (ja (mV 0) T) (ja (mV 1) T) [ar (.tup xs),ar (.tup xs)]=a_ false:=fun T=>d9 (x:=.bl (iM "tuple" T)) (y:=.bl (iM "tuple" T)) rfl rfl Le;have U:D6 (fC ky (ja (mV 0) "tuple") (ja (mV 1) "tuple")) (fC ky (ja (mV 0) "list") (ja (mV 1) "list")) [ar (.tup xs),ar (.tup xs)]=a_ false:=by
  show(fC ky _ _ _>>=_)=_;rw[X "tuple",aj];exact X "list"
 rw[bA ((di U).trans (if_neg (by decide))),bA ((di (d9 (hlen 0 (by decide)) (hlen 1 (by decide)) Lx)).trans (if_neg (by decide)))]
 refine eU ((fw Y).trans (xj.trans ?_));rw[Z]
theorem Hu{E:List (List Int)}(W:E.length<=1000)(X:∀t∈E,t.length<=1000):bO [aW n E,aW n E]=a_ (.bl c_):=by
 refine mw (k:=5) (by decide:2<=1000) fun x Z=>?_
 simp only[gc,f_,or_false]at Z;rcases Z with rfl|rfl
 ·exact same_int
 ·refine mw (by rw[LC];exact W) fun x Z=>?_
  obtain⟨r,Y,rfl⟩:=Mp.mp Z;refine mw (by rw[LC];exact X r Y) fun x Z=>?_
  obtain⟨i,_,rfl⟩:=Mp.mp Z;exact same_int
def qv(c:M D)(k:D->M D):M D:=fun S=>match c S with
 |some (.ok _,S')=>k .non S'
 |some (.ex (.exc n ds),S')=>if n∈aX then k (.exc n ds) S' else none
 |_=>none
theorem CN{g:Str->Bool}(Z:n∈aX):uV g (.exc n ds)=a_ (.bl (g n)):=if_pos Z
def xn(bs:List Bool):D->Bool
 | .int k=>bs.getD k.toNat dV
 |_=>dV
section
variable {S S':aA}{k:Nat}
theorem oG(Z:Kp k S S'):nJ S S':=fun i xs Y e=>by
 by_cases h:i=k
 ·subst h;obtain⟨st,b,e2,_⟩:=Z.st;rw[e2]at e;cases e;exact .inr rfl
 ·exact .inl (by rw[<-Z.oth i Y h];exact e)
theorem tU(hs:eZ S k)(Y:Kp k S S'):Kp k S (S'.take S.length)/\(S'.take S.length).length=S.length:=by
 have W:(S'.take S.length).length=S.length:=by rw[N4];have:=Y.len;omega
 have X:∀i,i<S.length->(S'.take S.length)[i]? =S'[i]? :=fun i Z=>by rw[Oq,if_pos Z]
 refine⟨⟨Oe W.symm,fun i Z U=>(X i Z).trans (Y.oth i Z U),?_⟩,W⟩;obtain⟨st,b,e,r⟩:=Y.st;exact⟨st,b,(X k hs.lt).trans e,r⟩
theorem CO{c:M D}(hs:eZ S k)(h:c S=ar (.ok d,S'))(Z:Kp k S S')(Y:fO 0 d=c_):∃S1,ij c S=ar (.ok d,S1)/\Kp k S S1/\S1.length=S.length:=
 ⟨_,m5 h (oG Z) (.inr rfl) Z.len (tH d (yq (L6 _) d Y)),tU hs Z⟩
theorem nk:fO 0 (aW n E)=true:=by
 unfold aW fO bY fO bY fO;rw[eI];rfl
theorem yH(hs:eZ S k)(X:0<many)(Y:many<1073741824):∃j S1,ij (aL [.lst k,.int many]) S=ar (.ok (.int j),S1)/\0<=j/\j<many/\Kp k S S1/\S1.length=S.length:=by
 obtain⟨d,S',e,j,rfl,a,b,Z⟩:=yD (Q:=fun d S'=>∃j,d= .int j/\0<=j/\j<many/\Kp k S S') hs X Y fun j S' a b _ Z=>⟨j,rfl,a,b,Z⟩;obtain⟨S1,e1,k1⟩:=CO hs e Z rfl;exact⟨j,S1,e1,a,b,k1⟩
end
theorem qw(h:n<=k)(Z:S[k]? =ar us)(Y:bY 0 us=c_):iw n (vX S n (f+1)) (.lst k)=ar (.fz us):=by
 unfold iw;rw[if_neg (by omega)]
 show((S[k]?).bind fun xs=>fW n (vX S n f) xs).map D.fz=_;rw[Z,NF,ik us (ji (L6 _) us Y)];rfl
theorem qR{S G:aA}(i:Nat):(S++G)[S.length+i]? =G[i]? :=by rw[NV (NB _ _),Nat.add_sub_cancel_left]
theorem Fy(h:∀S,gm S 60 (.fz us)=ar p)(Z:i2 p p=c_):ky (.fz us) (.fz us)=a_ (.bl dV):=bZ fun S=>by
 unfold ky;exact(fN (h S) (h S)).mpr ⟨by rw[Z];rfl,rfl⟩
theorem K2:ky (.fz [.int i]) (.fz [.int i])=a_ (.bl dV):=Fy (p:=.list [.int i]) (fun S=>rfl) (by simp[i2,p8])
theorem K3:ky (.fz [.int i,.int j,.int k]) (.fz [.int i,.int j,.int k])=a_ (.bl dV):=Fy (p:=.list [.int i,.int j,.int k]) (fun S=>rfl) (by simp[i2,p8])
theorem CP:aR (bp (aa (mK (.int i)) au)) ρ=a_ (.fz [.int i]):=bR (us:=[.int i]) rfl (by show 1<=lim;unfold lim;omega)
section
variable {ρ:aF}{js:List Nat}{ds:List D}{m:TM}{c:M D}{R:M D->List D->M D}{x:D}
theorem CQ(Z:tD js ρ=ar ds)(X:m (ds.map ar)=c)(Y:ij (R c [])=a_ x):aR (tF js au m R) ρ=a_ x:=by
 have:tF js au m R ρ=R c []:=by
  unfold tF;rw[Z];show(au ρ>>=fun es=>R (m (ds.map ar)) es)=_;rw[X];rfl
 unfold aR;rw[this,Y]
end
section
variable {me e:TM}{g:lz}{ρ ρ':aF}{S S1 S2:aA}{d:D}{F:List D->M D}{x y:D}
end
section
variable {S S1 S2:aA}{k p q:Nat}{e1 e2:TM}{ρ:aF}{x y:D}{f:D->List D->M D}{xs:List D}
theorem se(Z:e1 ρ=a_ x)(Y:GE x=a_ ())(X:e2 ρ S=ar (.ok y,S1)):ud f e1 e2 ρ S=f x [y] S1:=by
 unfold ud;rw[Z,aj,Y,aj,aJ (a:=[y]) (S1:=S1)];rw[aJ X];rfl
theorem xo(Z:S[p]? =ar xs)(Y:xs.length<=1000):cU (.lst p) [d] S=ar (.ok .non,S.set p (xs++[d])):=by
 show(getL p>>=fun xs=>kI p (xs++[d])) S=_;rw[aJ (dI Z)];exact km (by rw[LL];show xs.length+1<=lim;unfold lim;omega) (LH.mp Z).1
theorem pop_at{j:Int}{d:D}(Z:S[p]? =ar xs)(U:xs.length<=1000)(W:0<=j)(X:j<xs.length)(Y:xs[j.toNat]? =ar d):mO (.lst p) [.int j] S=ar (.ok d,S.set p (xs.eraseIdx j.toNat)):=by
 show(getL p>>=fun xs=>if 0<=j/\j<xs.length then (match xs[j.toNat]? with|some y=>(do let _<-kI p (xs.eraseIdx j.toNat);a_ y)|none=>M.fail)else M.fail) S=_
 rw[aJ (dI Z),if_pos ⟨W,X⟩,Y];show(kI p (xs.eraseIdx j.toNat)>>=fun _=>a_ d) S=_;rw[aJ (km (by have:=List.length_eraseIdx_le xs j.toNat;unfold lim;omega) (LH.mp Z).1)];rfl
theorem Hv{ns:List Int}(Y:S[p]? =ar (ns.map D.int)):ky (.lst p) (.fz []) S=ar (.ok (.bl (!ns.isEmpty)),S):=by
 have X:gm S 60 (.fz [])=ar (.list []):=rfl;obtain⟨d,Z,e,h⟩:=(fN (f:=fun p q=> !i2 p q) (Q:=fun d Z=>d= .bl (!ns.isEmpty)/\Z=S) (CJ (n:=59) Y) X).mpr ⟨by
  have:i2 (.list (ns.map J_)) (.list [])=ns.isEmpty:=by cases ns<;>simp[i2,p8]
  rw[this],rfl⟩
 obtain⟨rfl,rfl⟩:=h;exact e
end
theorem Kp.set(Z:Kp k S S')(W:S.length<=p)(U:k<S.length):Kp k S (S'.set p xs):=by
 refine⟨by rw[Oi];exact Z.len,fun i X Y=>?_,?_⟩
 ·rw[MI (by omega)];exact Z.oth i X Y
 ·obtain⟨st,b,e,r⟩:=Z.st;exact⟨st,b,by rw[MI (by omega)];exact e,r⟩
theorem xp{l:List Int}(h:j<l.length):(l[j]::l.eraseIdx j).Perm l:=by
 induction l generalizing j with
 |nil=>cases h
 |cons x l ih=>
  cases j with
  |zero=>exact .refl _
  |succ j=>exact(List.Perm.swap _ _ _).trans ((ih (by simpa using h)).cons _)
theorem K4{j:Int}(h: -(2 ^ 62)<=j/\j<=lim):eT [.int j]=bh (aU 0 j.toNat):=by unfold eT;exact if_pos h
theorem mx(r:List Int):bY 0 (r.map D.int)=true:=by
 induction r with
 |nil=>rfl
 |cons x r ih=>rw[LZ];unfold bY;rw[ih];unfold fO;rfl
def iA(n:Nat):List Int:=(ey n).map fun i:Nat=>(0:Int)+(i:Int)
inductive Dr(P:D->D->Prop):List D->List D->Prop
 |nil:Dr P [] []
 |skip {d:D} {ds ys:List D}:Dr P ds ys->Dr P (d::ds) ys
 |put {d y:D} {ds ys:List D}:P d y->Dr P ds ys->Dr P (d::ds) (y::ys)
theorem CS{f:D->D->M D}{e1 e2:TM}(Z:e1 ρ S=ar (.ok x,S1))(Y:e2 ρ S1=ar (.ok y,S2))(h:f x y=a_ (.bl b)):fC f e1 e2 ρ S=ar (.ok b,S2):=by
 have:(e1 ρ>>=fun x=>e2 ρ>>=fun y=>f x y) S=ar (.ok (.bl b),S2):=by rw[aJ Z,aJ Y,h];rfl
 exact aJ this
theorem Hw{ys:List D}(Z:S[p]? =ar xs)(Y:xs.length+ys.length<=1000):i6 (.lst p) [.fz ys] S=ar (.ok .non,S.set p (xs++ys)):=by
 show(getL p>>=fun xs=>kI p (xs++ys)) S=_;rw[aJ (dI Z)];exact km (by rw[LL];unfold lim;omega) (LH.mp Z).1
theorem Aw(Y:∀r∈nss,r.length=2)(W:nss.length<64):rL (nss.map tupI)=bh ((iO nss).map tupI):=by
 cases nss with
 |nil=>rfl
 |cons r nss=>
  have X:two (r::nss)=true:=Ml.mpr fun x Z=>by rw[Y x Z];rfl
  show(match rowsOf ((r::nss).map tupI)with|some nss=>uQ nss|none=>M.fail)=_
  rw[qu];exact if_pos ⟨W,X⟩
theorem tV{c:M D}{S2:aA}(h:c S=ar (.ok (.lst S2.length),S2++[us]))(Z:Kp k S S2)(l:S2.length=S.length)(Y:bY 0 us=c_):ij c S=ar (.ok (.fz us),S2):=by
 have:=m5 (u:=.fz us) h (oG (Z.trans (Kp.grow Z.st [us]))) (.inl (by rw[LL,l];exact NA _)) (by rw[LL,l];exact N8 _) (qw (f:=59) (by omega) bP Y)
 rw[this, <-l,List.take_left]
theorem Ax{Z:List (List Int)}(hs:eZ S k)(Y:S[p]? =ar (Z.map tupI))(X:∀r∈Z,r.length=2)(W:Z.length<64):ij (dG [.lst p]) S=ar (.ok (.fz ((iO Z).map tupI)),S):=by
 refine tV ?_ (Kp.refl hs) rfl (eI _);show(getL p>>=fun xs=>rL xs) S=_;rw[aJ (dI Y),Aw X W];exact dH (by rw[LC,(dq Z).length_eq];unfold lim;omega)
theorem EO{zs:List Int}{a:Int}(Y:0<=a)(h:a<zs.length):dD (tupI zs) (.int a)=a_ (.int (zs.getD a.toNat 0)):=by
 show(match j8 (zs.map D.int) a with|some d=>(a_ d:M D)|none=>M.fail)=_
 have:j8 (zs.map D.int) a=ar (.int (zs.getD a.toNat 0)):=by
  unfold j8 zd;rw[LC];have X:¬ (a<0):=by omega
  have Z:a.toNat<zs.length:=by omega
  simp[Y,h,Z]
 rw[this]
section
variable {n:Nat}{zs:List Int}{E:List (List Int)}
end
theorem my{e1 e2:TM}(hs:eZ S k)(Z:e1 ρ=a_ (.lst k))(X:e2 ρ=a_ (.int m))(Y:0<m)(W:m<1000):∃j S1,aR (ay aL (aa e1 (aa e2 au))) ρ S=ar (.ok (.int j),S1)/\0<=j/\j<m/\Kp k S S1/\S1.length=S.length:=by
 obtain⟨j,S1,e,r⟩:=yH (many:=m) hs Y (by omega)
 refine⟨j,S1,?_,r⟩;unfold aR;rw[call2 Z X];exact e
def qx(n:Nat)(T:List (List Int)):Prop:=∀t∈T,∃a b:Int,t=[a,b]/\0<=a/\a<b/\b<n
theorem qx.snoc{n:Nat}{T:List (List Int)}{a b:Int}(h:qx n T)(Y:0<=a)(Z:a<b)(X:b<n):qx n (T++[[a,b]]):=fun t W=>by
 rcases MQ.mp W with h'|h'
 ·exact h t h'
 ·exact⟨a,b,by simpa using h',Y,Z,X⟩
theorem Hx{e:TM}(h:e ρ S=ar (.ok x,S1)):lL e ρ S=kO [x] S1:=by
 unfold lL;rw[aJ (dw h rfl)]
theorem yI{mi:aF->M Iter}(Z:mi ρ S=ar (.ok ⟨its,.none⟩,S1))(h:hU ⟨its,.none⟩ g b its ρ S1=ar (.ok o,S2)):lM mi g b ρ S=ar (.ok o,S2):=by
 unfold lM;rw[aJ Z];exact h
theorem qx.two(h:qx n T):∀r∈T,r.length=2:=fun r Z=>by obtain⟨a,b,rfl,_⟩:=h r Z;rfl
def fy(p:Int)(t:List Int):Bool:=t.any (· ==p)
theorem yJ(p:Int):∀t:List Int,((t.map J_).any fun y=>i2 y (.int p))=fy p t
 |[]=>rfl
 |x::r=>by
  rw[LZ,PX,yJ p r];unfold fy;rw[PX];congr 1
theorem yK:inD (.int p) (tupI t)=a_ (.bl (fy p t)):=bZ fun S=>by
 unfold inD;exact(tu (ju) (oF t) (r:=fy p t) (by show ar (id ((t.map J_).any fun y=>i2 y (.int p)))=_;rw[yJ];rfl)).mpr ⟨rfl,rfl⟩
theorem qy{E:List (List Int)}(h:a<E.length):dD (.tup (E.map tupI)) (.int a)=a_ (tupI (E.getD a [])):=by
 show(match j8 (E.map tupI) a with|some d=>(a_ d:M D)|none=>M.fail)=_
 have:j8 (E.map tupI) (a:Int)=ar (tupI (E.getD a [])):=by
  unfold j8 zd;rw[LC];have Z:¬ ((a:Int)<0):=by omega
  have Y:(a:Int)<E.length:=by omega
  simp[Z,Y,h]
 rw[this]
theorem getD_in{E:List (List Int)}(h:a<E.length):E.getD a []∈E:=by
 rw[LW,LG h];exact MX h
theorem tW{a m:Nat}:aU ((a:Int)+1) ((m:Int) - ((a:Int)+1)).toNat=(k6 (a+1) (m - (a+1))).map fun b:Nat=>.int (b:Int):=by
 have e:((m:Int) - ((a:Int)+1)).toNat=m - (a+1):=by omega
 rw[e];unfold aU;rw[Po,Mi];refine OZ fun i _=>?_;show D.int ((a:Int)+1+(i:Int))= .int ((a+1+i:Nat):Int);congr 1
theorem ER(E:List (List Int)):nL (E.map tupI)=(ey E.length).map fun i:Nat=>.tup [.int (i:Int),tupI (E.getD i [])]:=by
 unfold nL;refine List.ext_getElem (by simp) fun i X Z=>?_
 have Y:i<E.length:=by simpa using Z
 simp[ly,Y]
theorem K5{n a:Nat}{x:Option D}(Z:n<=14)(Y:a<n):aR (bB (vW (aY cI (mV 2) (mK (.int 1))) (mV 0)) (gN 0) eM eN [none,ar 2]) [ar (.int n),x,ar (.int a)]=a_ (.fz ((jx n a).map tupI)):=by
 have em:(((k6 (a+1) (n - (a+1))).map fun b:Nat=>D.int (b:Int)).filter fun _=>c_).map (fun d=>D.tup [.int a,d])=(jx n a).map tupI:=by
  unfold jx;rw[eF,Mi,Mi];rfl
 have h:=jZ (mi:=vW (aY cI (mV 2) (mK (.int 1))) (mV 0)) (g:=gN 0) (t:=eM) (m:=eN) (js:=[none,ar 2]) (ρ:=[ar (.int n),x,ar (.int a)]) (its:=(k6 (a+1) (n - (a+1))).map fun b:Nat=>D.int (b:Int)) (fun ρ=>∃y,ρ=[y,ar (.int a)]) (fun _=>c_) (fun d=>D.tup [.int a,d])
  (by rw[tJ (x:=.int ((a:Int)+1)) (y:=.int n) rfl rfl,EF (by omega),tW]) (by rw[LC,NJ];unfold lim;omega) ⟨none,rfl⟩
  (fun d hd ρ ⟨y,hρ⟩=>by
   subst hρ;refine⟨_,rfl,⟨_,rfl⟩,rfl,fun _=>?_⟩;show cF [.int a,d]=_;unfold cF;exact if_pos qQ) (by rw[em];exact eI _)
 rw[em]at h;exact h
theorem sf{S:aA}{n:Nat}{its:List D}(Z:n<=14):∀(post:List Nat) (acc:List (List Int)) (x:Option D),(∀a∈post,a<n)->acc.length+post.length*14<=300->
  ∃Y,hU ⟨its,.none⟩ (gN 2) gf (post.map fun i:Nat=>.int (0+(i:Int))) [ar (.int n),ar (.lst S.length),x] (S++[acc.map tupI])=ar (.ok (.nx [ar (.int n),ar (.lst S.length),Y]),S++[(acc++post.flatMap (jx n)).map tupI])
 |[],acc,x,_,_=>⟨x,by rw[Od,jv,List.flatMap_nil,Mt];rfl⟩
 |a::post,acc,x,ha,hl=>by
  rw[Mg,NL]at hl;have U:=EI (a:=a) Z;obtain⟨Y,W⟩:=sf (S:=S) (its:=its) Z post (acc++jx n a) (ar (.int a)) (fun b X=>ha b (.tail _ X)) (by rw[LL];omega)
  refine⟨Y,?_⟩;rw[NU, <-L9, <-W,LZ,Of];refine jw rfl (rW (x:=.non) ((se (x:=.lst S.length) rfl rfl (Ms (K5 Z (ha a (.head _))) _)).trans ((Hw bP (by rw[LC,LC];omega)).trans ?_)))
  rw[<-MF,NP _ _ (LF _),QJ];rfl
theorem CT{n:Nat}(Z:n<=14):ij (bg [.int n])=a_ (.fz ((bw n).map tupI)):=by
 have U:=pairs_len Z;have Y:((bw n).map tupI).length<=lim:=by rw[LC];unfold lim;omega
 have:bg [.int n]=bh ((bw n).map tupI):=by
  funext S;obtain⟨T,e⟩:=sf (S:=S) (its:=aU 0 n) Z (ey n) [] none (fun a X=>Ma.mp X) (by rw[Mc];simp;omega)
  have W:lL (mV 0) [ar (.int n),ar (.lst S.length),none]=a_ ⟨aU 0 n,.none⟩:=by
   have:=(qm (m:=mV 0) (ρ:=[ar (.int n),ar (.lst S.length),none]) (x:=.int n) rfl).trans (Ao (by omega))
   rw[Mv]at this;exact this
  rw[dH Y];exact fJ (o:=.ret (.lst S.length)) ((aS (b7 (dH (S:=S) (us:=[]) (L6 _)))).trans ((aS (tN W e)).trans (g0 rfl))) rfl
 rw[this];exact bR (eI _) Y
theorem Hy{c:M D}{S S2:aA}{us:List D}{k q:Nat}(hs:eZ S k)(h:c S=ar (.ok (.lst q),S2))(Z:Kp k S S2)(Y:S.length<=q)(g:S2[q]? =ar us)(X:bY 0 us=c_):∃S1,ij c S=ar (.ok (.fz us),S1)/\Kp k S S1/\S1.length=S.length:=
 ⟨_,m5 (u:=.fz us) h (oG Z) (.inl (Nk Y (LH.mp g).1)) Z.len (qw (f:=59) Y g X),tU hs Z⟩
theorem vB{S:aA}{k p q:Nat}{a1:Option D}(T:k<S.length)(N:S.length<=p)(O:S.length<=q)(X:p≠q):∀(f:Nat) (ls ms:List Int) (S':aA),ls.length<f->ls.length+ms.length<=14->S'[p]? =ar (ls.map D.int)->S'[q]? =ar (ms.map D.int)->Kp k S S'->
  ∃(zs:List Int) (S2:aA),jQ (fC ky (mV 2) (aR (bp au))) b8 f [ar (.lst k),a1,ar (.lst p),ar (.lst q)] S'=ar (.ok (.nx [ar (.lst k),a1,ar (.lst p),ar (.lst q)]),S2)/\S2[q]? =ar (zs.map D.int)/\zs.Perm (ms++ls)/\Kp k S S2
 |0,ls,ms,S',h,_,_,_,_=>by omega
 | f +1,ls,ms,S',hf,hl,g1,g2,kp=>by
  have H:fC ky (mV 2) (aR (bp au)) [ar (.lst k),a1,ar (.lst p),ar (.lst q)] S'=ar (.ok (!ls.isEmpty),S'):=by
   have I:aR (bp au) [ar (.lst k),a1,ar (.lst p),ar (.lst q)]=a_ (.fz []):=bR (us:=[]) rfl (L6 _);show((mV 2 _>>=fun x=>aR (bp au) _>>=fun y=>ky x y)>>=ku) S'=_;rw[I];show(ky (.lst p) (.fz [])>>=ku) S'=_;rw[aJ (Hv g1)];rfl
  rw[jQ,aJ H];cases ls with
  |nil=>exact⟨ms,S',by rfl,g2,by rw[Mt],kp⟩
  | cons l0 ls0=>
   generalize hL:l0::ls0=ls at*;have U:(!ls.isEmpty)=true:=by rw[<-hL];rfl
   have P:0<ls.length:=by rw[<-hL];exact Nat.succ_pos _
   rw[if_pos U];obtain⟨j,S1,J,K,z,Y,A⟩:=yH (S:=S') (k:=k) (many:=ls.length) kp.st (by omega) (by omega)
   have L:=(LH.mp g1).1;have ql:=(LH.mp g2).1;have B:=(Y.oth p L (by omega)).trans g1
   have C:=(Y.oth q ql (by omega)).trans g2
   have R:j.toNat<ls.length:=by omega
   have F:b8 [ar (.lst k),a1,ar (.lst p),ar (.lst q)] S'=ar (.ok (.nx [ar (.lst k),a1,ar (.lst p),ar (.lst q)]),(S1.set p ((ls.eraseIdx j.toNat).map D.int)).set q ((ms++[ls[j.toNat]]).map D.int)):=by
    unfold b8;have hlen:cW dO (mV 2) [ar (.lst k),a1,ar (.lst p),ar (.lst q)] S'=ar (.ok (.int ls.length),S'):=by
     refine(rX (x:=.lst p) (S1:=S') rfl).trans ?_;show(getL p>>=fun xs=>a_ (D.int xs.length)) S'=_;rw[aJ (dI g1),LC];rfl
    have Q:aR (ay aL (aa (mV 0) (aa (cW dO (mV 2)) au))) [ar (.lst k),a1,ar (.lst p),ar (.lst q)] S'=ar (.ok (.int j),S1):=by
     have G:ay aL (aa (mV 0) (aa (cW dO (mV 2)) au)) [ar (.lst k),a1,ar (.lst p),ar (.lst q)] S'=aL [.lst k,.int ls.length] S':=aJ (dw (x:=.lst k) rfl (dw hlen rfl));unfold aR;rw[<-J];unfold ij;rw[G]
    have Z:=(se (f:=mO) (e1:=mV 2) (ρ:=[ar (.lst k),a1,ar (.lst p),ar (.lst q)]) (x:=.lst p) rfl rfl Q).trans (pop_at (d:=.int ls[j.toNat]) B (by rw[LC];omega) K (by rw[LC];omega) (by rw[L3,LG R];rfl))
    rw[rY]at Z;have W:=(se (f:=cU) (e1:=mV 3) (ρ:=[ar (.lst k),a1,ar (.lst p),ar (.lst q)]) (x:=.lst q) rfl rfl Z).trans (xo (d:=.int ls[j.toNat]) (xs:=ms.map D.int) (by rw[MI X];exact C) (by rw[LC];omega))
    refine rW (x:=.non) (W.trans ?_);rw[MF];rfl
   rw[aJ F];have he:=O1 R;obtain⟨zs,S2,e2,g3,E,k2⟩:=vB (a1:=a1) T N O X f (ls.eraseIdx j.toNat) (ms++[ls[j.toNat]]) ((S1.set p ((ls.eraseIdx j.toNat).map D.int)).set q ((ms++[ls[j.toNat]]).map D.int)) (by omega) (by rw[LL];show _+(ms.length+1)<=14;omega)
    (by rw[MI (j7 X),Mh (by omega)]) (by rw[Mh (by rw[Oi];omega)]) (((kp.trans Y).set N T).set O T)
   refine⟨zs,S2,e2,g3,E.trans ?_,k2⟩;rw[L9];exact(xp R).append_left ms
theorem CU{S:aA}{k n:Nat}{ρ:aF}{e1 e2:TM}(hs:eZ S k)(N:n<=14)(Q:e1 ρ=a_ (.lst k))(P:e2 ρ=a_ (.int n)):∃(zs:List Int) (S1:aA),aR (ay cm (aa e1 (aa (aR (cW eT e2)) au))) ρ S=ar (.ok (.fz (zs.map D.int)),S1)/\zs.Perm (iA n)/\Kp k S S1/\S1.length=S.length:=by
 have U:aU 0 n=(iA n).map D.int:=by unfold aU iA;rw[Mi];rfl
 have hlen:(iA n).length=n:=by unfold iA;simp
 have Z:((iA n).map D.int).length<=lim:=by rw[LC,hlen];unfold lim;omega
 have O:aR (cW eT e2) ρ=a_ (.fz ((iA n).map D.int)):=by
  unfold aR;rw[fw P,K4 (j:=n) ⟨by omega,by unfold lim;omega⟩,Mv,U]
  exact bR (mx _) Z
 obtain⟨zs,S2,e,g3,W,k2⟩:=vB (S:=S) (k:=k) (p:=S.length) (q:=S.length+1) (a1:=ar (.fz ((iA n).map D.int))) hs.lt (LF _) (N8 _) (by omega) 64 (iA n) [] (S++[(iA n).map D.int,[]]) (by omega) (by simp;omega) (qR 0) (qR 1) (Kp.grow hs _)
 have R:bF 3 (bp au) [ar (.lst k),ar (.fz ((iA n).map D.int)),ar (.lst S.length),none] (S++[(iA n).map D.int])=ar (.ok (.nx [ar (.lst k),ar (.fz ((iA n).map D.int)),ar (.lst S.length),ar (.lst (S.length+1))]),S++[(iA n).map D.int,[]]):=by
  refine(b7 (dH (S:=S++[(iA n).map D.int]) (us:=[]) (L6 _))).trans ?_;rw[L9,LL];rfl
 have T:cW rB (mV 1) [ar (.lst k),ar (.fz ((iA n).map D.int)),none,none] S=ar (.ok (.lst S.length),S++[(iA n).map D.int]):=(rX (F:=rB) (x:=.fz ((iA n).map D.int)) (S1:=S) rfl).trans (dH Z);have X:d5 [ar (.lst k),ar (.fz ((iA n).map D.int)),none,none] S=ar (.ok (.ret (.lst (S.length+1))),S2):=by
  unfold d5;exact(aS (b7 T)).trans ((aS R).trans ((aS e).trans (g0 rfl)))
 have hm:cm [.lst k,.fz ((iA n).map D.int)] S=ar (.ok (.lst (S.length+1)),S2):=fJ X rfl;obtain⟨S1,Y,k1⟩:=Hy hs hm k2 (N8 _) g3 (mx _);refine⟨zs,S1,?_,by rw[List.nil_append]at W;exact W,k1⟩
 unfold aR;rw[call2 Q O];exact Y
theorem Dr.sub:∀{L:List (List Int)} {ys:List D},Dr (fun d y=>y=d) (L.map tupI) ys->∃rs:List (List Int),ys=rs.map tupI/\rs.Sublist L
 |[],_,.nil=>⟨[],rfl,.slnil⟩
 |t::L,_,.skip h=>by
  obtain⟨rs,e,Z⟩:=Dr.sub h;exact⟨rs,e,Z.cons _⟩
 |t::L,_,.put p h=>by
  obtain⟨rs,e,Z⟩:=Dr.sub h;subst p e;exact⟨t::rs,rfl,Z.cons₂ _⟩
theorem nq{mi:aF->M Iter}{t:iV}{m:TM}{js:List (Option Nat)}{ρ:aF}{L:List (List Int)}{S:aA}{k:Nat}(r:List (Option D))(R:mi ρ=a_ ⟨L.map tupI,.none⟩)(N:L.length<=1000)(O:gi js ρ=none::r)(hs:eZ S k)(T:∀d,m (ar d::r)=a_ d)
  (Q:∀(u:List Int) Z,Kp k S Z->Z.length=S.length->∃b S1,t (ar (tupI u)::r) Z=ar (.ok b,S1)/\Kp k Z S1/\S1.length=Z.length):
  ∃(rs:List (List Int)) (S2:aA),bB mi (gN 0) t m js ρ S=ar (.ok (.lst S2.length),S2++[rs.map tupI])/\rs.Sublist L/\Kp k S S2/\S2.length=S.length:=by
 have key:∀(items:List D) (o:Option D) (Z:aA),(∀d∈items,∃u,d=tupI u)->Kp k S Z->Z.length=S.length->∃ys S2,bL ⟨L.map tupI,.none⟩ (gN 0) t m items (o::r) Z=ar (.ok ys,S2)/\Dr (fun d y=>y=d) items ys/\Kp k S S2/\S2.length=S.length:=fun items=>by
  induction items with
  |nil=>exact fun o Z _ Y l=>⟨[],Z,by unfold bL;rw[cK];rfl,.nil,Y,l⟩
  | cons d ds ih=>
   intro o Z hd Y l;obtain⟨u,rfl⟩:=hd d (.head _);obtain⟨b,S1,e1,k1,P⟩:=Q u Z Y l;obtain⟨ys,S2,e2,X,k2,W⟩:=ih (ar (tupI u)) S1 (fun d h=>hd d (.tail _ h)) (Y.trans k1) (P.trans l);cases b with
   |false=>
    refine⟨ys,S2,?_,.skip X,k2,W⟩;unfold bL;rw[cK,aj,show gN 0 (tupI u) (o::r)=a_ (ar (tupI u)::r)from rfl,aj,aJ e1,if_neg (by decide)]
    exact e2
   |true=>
    refine⟨tupI u::ys,S2,?_,.put rfl X,k2,W⟩;unfold bL;rw[cK,aj,show gN 0 (tupI u) (o::r)=a_ (ar (tupI u)::r)from rfl,aj,aJ e1,if_pos rfl,T,aj,aJ e2];rfl
 obtain⟨ys,S2,e,X,k2,W⟩:=key (L.map tupI) none S (fun d hd=>by obtain⟨u,_,rfl⟩:=Mp.mp hd;exact⟨u,rfl⟩) (.refl hs) rfl
 obtain⟨rs,rfl,U⟩:=X.sub;refine⟨rs,S2,?_,U,k2,W⟩;have:=U.length_le;unfold bB;rw[R,aj];unfold dE;rw[if_pos (show(L.map tupI).length<=lim by rw[LC];unfold lim;omega),O,aJ e]
 exact dH (by rw[LC];unfold lim;omega)
theorem yL{ds:List D}{i:Int}(Y:0<=i)(Z:i<ds.length):∃d∈ds,dD (.fz ds) (.int i)=a_ d:=by
 obtain⟨d,e,hd⟩:=Fw Y Z;refine⟨d,hd,?_⟩;show(match j8 ds i with|some d=>(a_ d:M D)|none=>M.fail)=_
 rw[e]
theorem tX{zs:List Int}{a:Int}(Z:0<=a)(h:a<zs.length):dD (.fz (zs.map D.int)) (.int a)=a_ (.int (zs.getD a.toNat 0)):=EO Z h
theorem Fz{e1 e2:TM}{ρ:aF}{x y:Int}(Y:e1 ρ=a_ (.int x))(X:e2 ρ=a_ (.int y)):cW cC (aR (cW dG (aR (bp (aa e1 (aa e2 au)))))) ρ=a_ (tupI (sortI [x,y])):=by
 have W:(sortI [x,y]).length=2:=(sortI_perm [x,y]).length_eq;have Z:((sortI [x,y]).map D.int).length<=lim:=by rw[LC,W];exact qQ
 have a1:aR (bp (aa e1 (aa e2 au))) ρ=a_ (.fz [.int x,.int y]):=by
  show ij (aa _ _ _>>=bh)=_;rw[bt Y (bt X (es:=au) rfl),aj];exact bR (us:=[.int x,.int y]) rfl qQ
 refine(fw (x:=.fz ((sortI [x,y]).map D.int)) ?_).trans (ng Z);show ij (cW dG _ _)=_;rw[fw a1];exact bR (mx _) Z
theorem Hz{s:List Int}{rs:List (List Int)}:∃b,inD (tupI s) (.fz (rs.map tupI))=a_ (.bl b):=by
 refine⟨(rs.map vx).any fun y=>i2 y (vx s),bZ fun S=>?_⟩;unfold inD;have Z:gm S 60 (.fz (rs.map tupI))=ar (.list (rs.map vx)):=by
  show(mapP (gm S 59) (rs.map tupI)).map oD=_;rw[ni];rfl
 exact(tu (oF s) Z (r:=(rs.map vx).any fun y=>i2 y (vx s)) rfl).mpr ⟨rfl,rfl⟩
theorem nu{ρ:aF}{e:TM}{n:Nat}(Z:n<=14)(h:e ρ=a_ (.int n)):eY (aR (ay bg (aa e au))) ρ=a_ ⟨(bw n).map tupI,.none⟩:=by
 have:aR (ay bg (aa e au)) ρ=a_ (.fz ((bw n).map tupI)):=by
  unfold aR;rw[cz h];exact CT Z
 unfold eY;rw[this];rfl
section
variable {S:aA}{k n g:Nat}{j:Int}{zs:List Int}{its:List D}
abbrev m8:TM:=aR (bp (aI (mK (.int 0)) (aI (mK (.int 0)) (aI (mK (.int 1)) (aI (mK (.int 0)) (aI (mK (.int 2)) (aI (mK (.int 1)) (aI (mK (.int 3)) (aI (mV 1) (au))))))))))
theorem HA{r:List (Option D)}(hs:eZ S k):∃(n:Nat) (S1:aA),ay maxD (aa (mK (.int 0)) (aa (aY gk (mV 1) (aY dD m8 (aR (ay aL (aa (mV 0) (aa (mK (.int 8)) au)))))) au)) (ar (.lst k)::ar (.int g)::r) S=ar (.ok (.int n),S1)/\n<=g/\Kp k S S1/\S1.length=S.length:=by
 obtain⟨i,S1,X,W,Y,k1,Z⟩:=my (e1:=mV 0) (e2:=mK (.int 8)) (ρ:=ar (.lst k)::ar (.int g)::r) (m:=8) hs rfl rfl (by decide) (by decide)
 have Q:m8 (ar (.lst k)::ar (.int g)::r)=a_ (.fz [.int 0,.int 0,.int 1,.int 0,.int 2,.int 1,.int 3,.int g]):=bR (us:=[.int 0,.int 0,.int 1,.int 0,.int 2,.int 1,.int 3,.int g]) rfl (by show 8<=lim;unfold lim;omega)
 obtain⟨d,hd,T⟩:=yL (ds:=[.int 0,.int 0,.int 1,.int 0,.int 2,.int 1,.int 3,.int g]) W Y;have R:∃u:Int,d= .int u/\0<=u:=by
  simp only[gc,f_,or_false]at hd;rcases hd with rfl|rfl|rfl|rfl|rfl|rfl|rfl|rfl<;>exact⟨_,rfl,by omega⟩
 obtain⟨u,rfl,P⟩:=R;have U:aY gk (mV 1) (aY dD m8 (aR (ay aL (aa (mV 0) (aa (mK (.int 8)) au))))) (ar (.lst k)::ar (.int g)::r) S=ar (.ok (.int ((g:Int) - u)),S1):=
  (g9 (f:=gk) (x:=.int g) (S1:=S) rfl ((g9 (Ms Q S) X).trans (Ms T S1))).trans rfl
 refine⟨((g:Int) - u).toNat,S1,?_,by omega,k1,Z⟩
 refine(aJ (dw (x:=.int 0) (S1:=S) rfl (dw U rfl))).trans ?_;show ar (Res.ok (D.int (if (g:Int) - u>0 then (g:Int) - u else 0)),S1)=_;have:(if (g:Int) - u>0 then (g:Int) - u else 0)=(((g:Int) - u).toNat:Int):=by split<;>omega
 rw[this]
abbrev eW(k g n:Nat)(j:Int)(r:List (Option D)):aF:=ar (.lst k)::ar (.int g)::ar (.int n)::ar (.int j)::r
theorem ES{r:List (Option D)}(hs:eZ S k)(P:n<=7)(R:0<=j):∃(rs:List (List Int)) (S2:aA),bB (eY (aR (ay bg (aa (mV 2) (au))))) (gN 0) iy iz [none,ar 0,ar 3] (eW k g n j r) S=ar (.ok (.lst S2.length),S2++[rs.map tupI])/\rs.Sublist (bw n)/\Kp k S S2/\S2.length=S.length:=
 nq [ar (.lst k),ar (.int j)] (nu (by omega) rfl) (by have:=pairs_len (n:=n) (by omega);omega) rfl hs (fun d=>rfl) fun u Q Z l=>by
  obtain⟨i,S1,W,N,O,k1,X⟩:=my (e1:=mV 1) (e2:=mK (.int 8)) (ρ:=[ar (tupI u),ar (.lst k),ar (.int j)]) (m:=8) Z.st rfl rfl (by decide) (by decide)
  have Y:aR (bp (aa (mK (.int 2)) (aa (mK (.int 4)) (aa (mK (.int 6)) (au))))) [ar (tupI u),ar (.lst k),ar (.int j)]=a_ (.fz [.int 2,.int 4,.int 6]):=bR (us:=[.int 2,.int 4,.int 6]) rfl (by show 3<=lim;unfold lim;omega)
  have hm:aY kM (mV 2) (mK (.int 3)) [ar (tupI u),ar (.lst k),ar (.int j)]=a_ (.int (j % 3)):=(b9 (x:=.int j) (y:=.int 3) rfl rfl).trans (show kM (.int j) (.int 3)=_ from if_pos (e:=M.fail) (show(0:Int)<3 by decide))
  obtain⟨d,hd,U⟩:=yL (ds:=[.int 2,.int 4,.int 6]) (i:=j % 3) (by omega) (by show j % 3<3;omega)
  have T:∃v:Int,d= .int v:=by
   simp only[gc,f_,or_false]at hd;rcases hd with rfl|rfl|rfl<;>exact⟨_,rfl⟩
  obtain⟨v,rfl⟩:=T;exact⟨decide (i<v),S1,CS (y:=.int v) W (Ms ((b9 Y hm).trans U) S1) rfl,k1,X⟩
theorem HB{a:Nat}{q:Nat}{x7:Option D}(Q:2<j)(R:j<7)(P:1<=a)(Y:a<n)(T:zs.length=n):∃r:List Int,cW cC (aR (cW dG (aR (bp (aa (aY dD (mV 5) (mV 6)) (aa (aY dD (mV 5) (aY dD (aR (bp (aI (aY gk (mV 6) (mK (.int 1))) (aI (aY gk (mV 6) (mK (.int 1))) (aI (mK (.int 0)) (aI (aY jR (mV 6) (mK (.int 2))) (au))))))) (aY gk (mV 3) (mK (.int 3))))) (au))))))) (eW k g n j [ar (.lst q),ar (.fz (zs.map D.int)),ar (.int a),x7])=a_ (tupI r):=by
 have U:aR (bp (aI (aY gk (mV 6) (mK (.int 1))) (aI (aY gk (mV 6) (mK (.int 1))) (aI (mK (.int 0)) (aI (aY jR (mV 6) (mK (.int 2))) (au)))))) (eW k g n j [ar (.lst q),ar (.fz (zs.map D.int)),ar (.int a),x7])=a_ (.fz [.int ((a:Int) - 1),.int ((a:Int) - 1),.int 0,.int ((a:Int) / 2)]):=by
  have Z:aI (aY gk (mV 6) (mK (.int 1))) (aI (aY gk (mV 6) (mK (.int 1))) (aI (mK (.int 0)) (aI (aY jR (mV 6) (mK (.int 2))) au))) (eW k g n j [ar (.lst q),ar (.fz (zs.map D.int)),ar (.int a),x7])=a_ [.int ((a:Int) - 1),.int ((a:Int) - 1),.int 0,.int ((a:Int) / 2)]:=
   bt (x:=.int ((a:Int) - 1)) rfl (bt (x:=.int ((a:Int) - 1)) rfl (bt (x:=.int 0) rfl (bt (x:=.int ((a:Int) / 2)) ((b9 (x:=.int a) (y:=.int 2) rfl rfl).trans (show jR (.int a) (.int 2)=_ from if_pos (e:=M.fail) (show v5 a 2 from⟨by decide,by decide⟩))) (es:=au) rfl)))
  show ij (aI _ _ _>>=bh)=_;rw[Z,aj];exact bR (us:=[.int ((a:Int) - 1),.int ((a:Int) - 1),.int 0,.int ((a:Int) / 2)]) rfl (by show 4<=lim;unfold lim;omega)
 obtain⟨d,hd,X⟩:=yL (ds:=[.int ((a:Int) - 1),.int ((a:Int) - 1),.int 0,.int ((a:Int) / 2)]) (i:=j - 3) (by omega) (by show j - 3<4;omega)
 have W:∃v:Int,d= .int v/\0<=v/\v<n:=by
  simp only[gc,f_,or_false]at hd;rcases hd with rfl|rfl|rfl|rfl<;>exact⟨_,rfl,by omega,by omega⟩
 obtain⟨v,rfl,v0,v1⟩:=W;exact⟨_,Fz ((b9 (x:=.fz (zs.map D.int)) (y:=.int a) rfl rfl).trans (tX (by omega) (by omega))) ((b9 (x:=.fz (zs.map D.int)) rfl ((b9 (y:=.int (j - 3)) U rfl).trans X)).trans (tX v0 (by omega)))⟩
theorem yM{q:Nat}{ρ:aF}{e:TM}{r:List Int}{acc:List (List Int)}(Z:mV 4 ρ=a_ (.lst S.length))(Y:e ρ=a_ (tupI r))(X:acc.length<=500):pX (ud cU (mV 4) e) ρ (S++[acc.map tupI])=ar (.ok (.nx ρ),S++[(acc++[r]).map tupI]):=by
 refine rW (x:=.non) ((se Z rfl (Ms Y _)).trans ((xo bP (by rw[LC];omega)).trans ?_))
 rw[MF,NP _ _ (LF _),QJ];rfl
theorem FA(U:2<j)(W:j<7)(X:zs.length=n):∀(post:List Nat) (acc:List (List Int)) (x6 x7:Option D),(∀a∈post,1<=a/\a<n)->acc.length+post.length<=100->
  ∃(Y:Option D) (Z:List (List Int)),hU ⟨its,.none⟩ (gN 6) fP (post.map fun b:Nat=>.int (b:Int)) (eW k g n j [ar (.lst S.length),ar (.fz (zs.map D.int)),x6,x7]) (S++[acc.map tupI])=ar (.ok (.nx (eW k g n j [ar (.lst S.length),ar (.fz (zs.map D.int)),Y,x7])),S++[Z.map tupI])/\Z.length<=acc.length+post.length
 |[],acc,x6,x7,_,_=>⟨x6,acc,by rw[Od,jv];rfl,LF _⟩
 |a::post,acc,x6,x7,ha,hl=>by
  rw[Mg]at hl⊢;obtain⟨O,N⟩:=ha a (.head _);obtain⟨r,T⟩:=HB (k:=k) (g:=g) (q:=S.length) (x7:=x7) U W O N X;obtain⟨Y,Z,P,Q⟩:=FA U W X post (acc++[r]) (ar (.int a)) x7 (fun b R=>ha b (.tail _ R)) (by rw[LL];show acc.length+1+_<=100;omega)
  refine⟨Y,Z,?_,by rw[LL]at Q;have:[r].length=1:=rfl;omega⟩
  rw[<-P,LZ];exact jw rfl (yM (q:=0) rfl T (by omega))
theorem JG{r:List (Option D)}(hs:eZ S k)(T:n<=7):∃(rs:List (List Int)) (S2:aA),aR (bB (eY (aR (ay bg (aa (mV 2) (au))))) (gN 0) eB eE [none,ar 0]) (eW k g n j r) S=ar (.ok (.fz (rs.map tupI)),S2)/\Kp k S S2/\S2.length=S.length:=by
 obtain⟨rs,S2,e,_,k2,Z⟩:=nq (t:=eB) (m:=eE) (js:=[none,ar 0]) (ρ:=eW k g n j r) [ar (.lst k)] (nu (e:=mV 2) (by omega) rfl) (by have:=pairs_len (n:=n) (by omega);omega) rfl hs (fun d=>rfl) fun u U Y l=>by
  obtain⟨i,S1,W,Q,R,k1,X⟩:=my (e1:=mV 1) (e2:=mK (.int 12)) (ρ:=[ar (tupI u),ar (.lst k)]) (m:=12) Y.st rfl rfl (by decide) (by decide)
  exact⟨_,S1,CS (y:=.int 0) W rfl K1,k1,X⟩
 exact⟨rs,S2,tV e k2 Z (eI _),k2,Z⟩
theorem ET{q:Nat}{os acc:List (List Int)}{x5 x6:Option D}(hs:eZ S k)(L:n<=7)(U:S[q]? =ar (acc.map tupI))(Y:q≠k):∃(rs:List (List Int)) (S2:aA),bB (eY (aR (ay bg (aa (mV 2) (au))))) (gN 0) fQ fR [none,ar 4,ar 7] (eW k g n j [ar (.lst q),x5,x6,ar (.fz (os.map tupI))]) S=ar (.ok (.lst S2.length),S2++[rs.map tupI])/\rs.Sublist (bw n)/\Kp k S S2/\S2.length=S.length:=
 nq [ar (.lst q),ar (.fz (os.map tupI))] (nu (by omega) rfl) (by have:=pairs_len (n:=n) (by omega);omega) rfl hs (fun d=>rfl) fun u Z W l=>by
  have X:=(W.oth q (LH.mp U).1 Y).trans U;obtain⟨_,_,e1,b,rfl,rfl⟩:=EJ (r:=u) (Q:=fun d T=>∃b,d= .bl b/\Z=T) X fun b=>⟨b,rfl,rfl⟩;obtain⟨c,e2⟩:=Hz (s:=u) (rs:=os);obtain⟨_,_,N,R,rfl,rfl⟩:=JB (S:=Z) (a:=b) (b:=c) (Q:=fun d T=>∃b,d= .bl b/\Z=T) fun b=>⟨b,rfl,rfl⟩;refine⟨R,Z,?_,.refl W.st,rfl⟩;have P:aY inD (mV 0) (mV 1) [ar (tupI u),ar (.lst q),ar (.fz (os.map tupI))] Z=ar (.ok (.bl b),Z):=(Ms (b9 (x:=tupI u) (y:=.lst q) rfl rfl) Z).trans e1;have O:aY inD (mV 0) (mV 2) [ar (tupI u),ar (.lst q),ar (.fz (os.map tupI))] Z=ar (.ok (.bl c),Z):=Ms ((b9 (x:=tupI u) (y:=.fz (os.map tupI)) rfl rfl).trans e2) Z;exact aJ ((g9 P O).trans N)
end
section
variable {S:aA}{k n g:Nat}{j:Int}{zs:List Int}{its:List D}
theorem JH{m:TM}{ρ:aF}(Z:n<=100)(h:m ρ=a_ (.int n)):vW (mK (.int 1)) m ρ=a_ ⟨(k6 1 (n - 1)).map fun b:Nat=>.int (b:Int),.none⟩:=by
 have:=tW (a:=0) (m:=n);rw[tJ (x:=.int 1) rfl h,EF (by omega)]
 rw[show((0:Nat):Int)+1=1 from rfl]at this;rw[this]
theorem JI{ρ:aF}{q:Nat}{rs:List (List Int)}(hs:eZ S k)(Z:n<=7)(T:mV 2 ρ=a_ (.int n))(X:mV 4 ρ=a_ (.lst q))(g:S[q]? =ar (rs.map tupI))(W:rs.Sublist (bw n)):
  bI (kQ (aa (mV 2) (aa (cW cC (aR (cW dG (mV 4)))) (au)))) ρ S=ar (.ok (.ret (aW n rs)),S):=by
 have w:WebOk n rs:=WebOk.of_sub Z W;have hf:=w.few;have U:aR (cW dG (mV 4)) ρ S=ar (.ok (.fz (rs.map tupI)),S):=by
  unfold aR;rw[fw X];have:=Ax hs g (fun r Y=>by obtain⟨a,b,e,_⟩:=w.el r Y;rw[e];rfl) (by omega)
  rw[Ar w.ris]at this;exact this
 refine g0 (tL (Ms T S) ((rX U).trans ?_));rw[ng (by rw[LC];unfold lim;omega)];rfl
theorem HC{q:Nat}{acc:List (List Int)}{x6 x7:Option D}(R:n<=7)(U:zs.length=n)(T:acc.length<=100):∃acc2:List (List Int),iW (D5 (fC kN (mV 3) (mK (.int 4))) (fC xP (mV 2) (mK (.int 2)))) (pX (ud cU (mV 4) (cW cC (aR (cW dG (aR (bp (aa (aY dD (mV 5) (mK (.int 0))) (aa (aY dD (mV 5) (aY gk (mV 2) (mK (.int 1)))) (au)))))))))) (dZ) (eW k g n j [ar (.lst S.length),ar (.fz (zs.map D.int)),x6,x7]) (S++[acc.map tupI])=ar (.ok (.nx (eW k g n j [ar (.lst S.length),ar (.fz (zs.map D.int)),x6,x7])),S++[acc2.map tupI]):=by
 have Y:fC kN (mV 3) (mK (.int 4)) (eW k g n j [ar (.lst S.length),ar (.fz (zs.map D.int)),x6,x7])=a_ (decide (j=4)):=d9 (x:=.int j) (y:=.int 4) rfl rfl K1;have X:fC xP (mV 2) (mK (.int 2)) (eW k g n j [ar (.lst S.length),ar (.fz (zs.map D.int)),x6,x7])=a_ (decide (2<(n:Int))):=d9 (x:=.int n) (y:=.int 2) rfl rfl rfl;have Z:D5 (fC kN (mV 3) (mK (.int 4))) (fC xP (mV 2) (mK (.int 2))) (eW k g n j [ar (.lst S.length),ar (.fz (zs.map D.int)),x6,x7])=a_ (decide (j=4) && decide (2<(n:Int))):=by
  show(fC kN _ _ _>>=_)=_;rw[Y,aj];cases decide (j=4)with
  |false=>rfl
  |true=>exact X
 by_cases h:(decide (j=4) && decide (2<(n:Int)))=c_
 ·have W:2<n:=by
   have:=MO ((MW _ _).mp h).2;omega
  refine⟨_,(Ms ((di Z).trans (if_pos h)) _).trans (yM (q:=0) rfl (Fz (x:=zs.getD 0 0) (y:=zs.getD (n - 1) 0) ?_ ?_) (by omega))⟩
  ·exact(b9 (x:=.fz (zs.map D.int)) (y:=.int 0) rfl rfl).trans (tX (by decide) (by omega))
  ·refine(b9 (x:=.fz (zs.map D.int)) (y:=.int ((n:Int) - 1)) rfl rfl).trans ((tX (by omega) (by omega)).trans ?_)
   rw[show((n:Int) - 1).toNat=n - 1 by omega]
 ·exact⟨acc,(Ms ((di Z).trans (if_neg h)) _).trans rfl⟩
theorem CV(hg:g<=7)(hs:eZ S k):∃(n:Nat) (E:List (List Int)) (S1:aA),ij (cw [.lst k,.int g]) S=ar (.ok (aW n E),S1)/\n<=g/\WebOk n E/\Kp k S S1/\S1.length=S.length:=by
 obtain⟨n,T1,e1,t,k1,l1⟩:=HA (g:=g) (r:=[none,none,none,none,none,none]) hs;have Y:n<=7:=by omega
 obtain⟨j,T2,e2,w,A,k2,l2⟩:=my (e1:=mV 0) (e2:=mK (.int 7)) (ρ:=[ar (.lst k),ar (.int g),ar (.int n),none,none,none,none,none]) (m:=7) k1.st rfl rfl (by decide) (by decide)
 obtain⟨rs,R,l,s,k3,l3⟩:=ES (g:=g) (n:=n) (j:=j) (r:=[none,none,none,none]) k2.st Y w;have I:=Kp.grow k3.st [rs.map tupI];obtain⟨zs,X,e4,pz,k5,l5⟩:=CU (n:=n) (ρ:=eW k g n j [ar (.lst R.length),none,none,none]) (e1:=mV 0) (e2:=mV 2) I.st (by omega) rfl rfl
 have J:zs.length=n:=by rw[pz.length_eq];unfold iA;simp
 have a3:k<R.length:=by have:=hs.lt;omega
 have v:X[R.length]? =ar (rs.map tupI):=(k5.oth R.length (by simp) (by omega)).trans bP
 have B:=((k1.trans k2).trans k3).trans (I.trans k5);have key:∃(x4:Nat) (Z:List (List Int)) (ρ:aF) (T:aA),iW (fC xP (mV 3) (mK (.int 2))) (aK (bF 4 (bp (au))) (aK (lM (vW (mK (.int 1)) (mV 2)) (gN 6) fP) (aK (iW (D5 (fC kN (mV 3) (mK (.int 4))) (fC xP (mV 2) (mK (.int 2)))) (pX (ud cU (mV 4) (cW cC (aR (cW dG (aR (bp (aa (aY dD (mV 5) (mK (.int 0))) (aa (aY dD (mV 5) (aY gk (mV 2) (mK (.int 1)))) (au)))))))))) (dZ)) (aK (bF 7 (aR (bB (eY (aR (ay bg (aa (mV 2) (au))))) (gN 0) eB eE [none,ar 0]))) (bF 4 (bB (eY (aR (ay bg (aa (mV 2) (au))))) (gN 0) fQ fR [none,ar 4,ar 7])))))) (dZ) (eW k g n j [ar (.lst R.length),ar (.fz (zs.map D.int)),none,none]) X=ar (.ok (.nx ρ),T)/\mV 2 ρ=a_ (.int n)/\mV 4 ρ=a_ (.lst x4)/\T[x4]? =ar (Z.map tupI)/\Z.Sublist (bw n)/\Kp k S T:=by
  have C:fC xP (mV 3) (mK (.int 2)) (eW k g n j [ar (.lst R.length),ar (.fz (zs.map D.int)),none,none])=a_ (decide (2<j)):=d9 (x:=.int j) (y:=.int 2) rfl rfl rfl;by_cases hj:2<j
  ·have i:=JH (n:=n) (m:=mV 2) (ρ:=eW k g n j [ar (.lst X.length),ar (.fz (zs.map D.int)),none,none]) (by omega) rfl
   obtain⟨P,acc,N,G⟩:=FA (S:=X) (k:=k) (g:=g) (its:=(k6 1 (n - 1)).map fun b:Nat=>.int (b:Int)) hj A J (k6 1 (n - 1)) [] none none (fun a z=>by have:=OC.mp z;omega) (by rw[NJ];simp;omega)
   rw[NJ]at G;obtain⟨U,O⟩:=HC (S:=X) (k:=k) (g:=g) (j:=j) (zs:=zs) (q:=0) (x6:=P) (x7:=none) Y J (acc:=acc) (by simp at G;omega)
   have Q:=Kp.grow k5.st [U.map tupI];obtain⟨os,T5,p,K,l7⟩:=JG (g:=g) (n:=n) (j:=j) (r:=[ar (.lst X.length),ar (.fz (zs.map D.int)),P,none]) Q.st Y;have a6:k<X.length:=by have:=k5.len;simp at this;omega
   have L:T5[X.length]? =ar (U.map tupI):=(K.oth X.length (by simp) (by omega)).trans bP
   obtain⟨Z,u,f,W,H,l8⟩:=ET (g:=g) (n:=n) (j:=j) (os:=os) (x5:=ar (.fz (zs.map D.int))) (x6:=P) K.st Y L (by omega)
   refine⟨u.length,Z,_,_,(Ms ((di C).trans (if_pos (L7 hj))) X).trans ((aS (b7 (dH (S:=X) (us:=[]) (L6 _)))).trans ((aS (tN i N)).trans ((aS O).trans ((aS (b7 p)).trans (b7 f))))),rfl,rfl,bP,W,B.trans ((Q.trans K).trans (H.trans (Kp.grow H.st _)))⟩
  ·exact⟨R.length,rs,_,_,(Ms ((di C).trans (if_neg (by rw[M3];exact hj))) X).trans rfl,rfl,rfl,v,s,B⟩
 obtain⟨x4,Z,ρ,T,N,e,h,L,W,F⟩:=key;have hm:jk [ar (.lst k),ar (.int g),none,none,none,none,none,none] S=ar (.ok (.ret (aW n Z)),T):=by
  unfold jk;exact(aS (b7 e1)).trans ((aS (b7 e2)).trans ((aS (b7 l)).trans ((aS (b7 e4)).trans ((aS N).trans (JI F.st Y e h L W)))))
 obtain⟨S1,O,Q⟩:=CO (c:=cw [.lst k,.int g]) (d:=aW n Z) hs (fJ (o:=.ret (aW n Z)) hm rfl) F nk;exact⟨n,Z,S1,O,t,WebOk.of_sub Y W,Q⟩
abbrev eG(k n q:Nat)(r:List (Option D)):aF:=ar (.lst k)::ar (.int n)::ar (.lst q)::r
theorem FB{B:aA}(L:k<B.length)(H:8<=n)(X:n<=14):∀(post:List Nat) (acc:List (List Int)) (S':aA) (x3 x4 x5:Option D),acc.length+post.length<=100->qx n acc->S'[B.length]? =ar (acc.map tupI)->Kp k B S'->
  ∃(T Q W:Option D) (Z:List (List Int)) (S2:aA),hU ⟨its,.none⟩ (gN 3) d8 (post.map fun i:Nat=>.int (0+(i:Int))) (eG k n B.length [x3,x4,x5]) S'=ar (.ok (.nx (eG k n B.length [T,Q,W])),S2)/\S2[B.length]? =ar (Z.map tupI)/\qx n Z/\Z.length<=acc.length+post.length/\Kp k B S2
 |[],acc,S',x3,x4,x5,_,gt,g,kp=>⟨x3,x4,x5,acc,S',by rw[Od,jv];rfl,g,gt,LF _,kp⟩
 | a ::post,acc,S',x3,x4,x5,hl,gt,g,kp=>by
  rw[Mg]at hl⊢;obtain⟨i,O,e1,z,q,k1,r⟩:=my (e1:=mV 0) (e2:=mV 1) (ρ:=eG k n B.length [ar (.int (0+(a:Int))),x4,x5]) (m:=n) kp.st rfl rfl (by omega) (by omega)
  obtain⟨v,Y,e2,v0,v1,k2,t⟩:=my (e1:=mV 0) (e2:=aY gk (mV 1) (mK (.int 1))) (ρ:=eG k n B.length [ar (.int (0+(a:Int))),ar (.int i),x5]) (m:=(n:Int) - 1) k1.st rfl rfl (by omega) (by omega)
  have K:=(LH.mp g).1;have g2:=(k2.oth B.length (by omega) (by omega)).trans ((k1.oth B.length K (by omega)).trans g)
  have N:aY kM (aY cI (aY cI (mV 4) (mK (.int 1))) (aR (ay aL (aa (mV 0) (aa (aY gk (mV 1) (mK (.int 1))) au))))) (mV 1) (eG k n B.length [ar (.int (0+(a:Int))),ar (.int i),x5]) O=ar (.ok (.int ((i+1+v) % n)),Y):=
   (g9 ((g9 (f:=cI) (x:=.int (i+1)) (S1:=O) rfl e2).trans rfl) (y:=.int n) rfl).trans (Ms (show kM (.int (i+1+v)) (.int n)=_ from if_pos (e:=M.fail) (show(0:Int)<n by omega)) Y)
  generalize hw:(i+1+v) % (n:Int)=w at N;have p:0<=w:=by rw[<-hw];exact NM _ (by omega)
  have u:w<n:=by rw[<-hw];exact Nl _ (by omega)
  have G:i≠w:=by
   intro e;have J:=Int.mul_ediv_add_emod (i+1+v) n;rw[hw]at J;have s:(n:Int)*((i+1+v) / n)=1+v:=by omega
   have A:0<(i+1+v) / (n:Int):=by
    rcases Int.lt_or_le 0 ((i+1+v) / (n:Int))with h|h
    ·exact h
    ·have:=Int.mul_nonpos_of_nonneg_of_nonpos (a:=(n:Int)) (by omega) h
     omega
   have:=Int.mul_le_mul_of_nonneg_left (show 1<=(i+1+v) / (n:Int) by omega) (show(0:Int)<=n by omega)
   omega
  have R:ay minD (aa (mV 4) (aa (mV 5) au)) (eG k n B.length [ar (.int (0+(a:Int))),ar (.int i),ar (.int w)])=a_ (.int (if w<i then w else i)):=(call2 (x:=.int i) (y:=.int w) rfl rfl).trans rfl;have P:ay maxD (aa (mV 4) (aa (mV 5) au)) (eG k n B.length [ar (.int (0+(a:Int))),ar (.int i),ar (.int w)])=a_ (.int (if w>i then w else i)):=(call2 (x:=.int i) (y:=.int w) rfl rfl).trans rfl;obtain⟨T,Q,W,Z,S2,I,E,U,C,F⟩:=FB L H X post (acc++[[if w<i then w else i,if w>i then w else i]]) (Y.set B.length ((acc++[[if w<i then w else i,if w>i then w else i]]).map tupI)) (ar (.int (0+(a:Int)))) (ar (.int i)) (ar (.int w)) (by rw[LL];show acc.length+1+_<=100;omega)
   (gt.snoc (by split<;>omega) (by split<;>split<;>omega) (by split<;>omega)) (Mh (by omega)) (((kp.trans k1).trans k2).set (LF _) L)
  refine⟨T,Q,W,Z,S2,?_,E,U,by rw[LL]at C;have:[[if w<i then w else i,if w>i then w else i]].length=1:=rfl;omega,F⟩
  rw[<-I,LZ];refine jw rfl ((aS (b7 e1)).trans ((aS (b7 N)).trans (rW (x:=.non) ((se (x:=.lst B.length) (y:=tupI [if w<i then w else i,if w>i then w else i]) (S1:=Y) rfl rfl (tL (Ms R Y) (Ms P Y))).trans ((xo g2 (by rw[LC];omega)).trans ?_)))))
  rw[MF];rfl
theorem CY(hs:eZ S k):∃(n:Nat) (E:List (List Int)) (S1:aA),ij (bD [.lst k]) S=ar (.ok (aW n E),S1)/\8<=n/\n<=14/\WebOk n E/\Kp k S S1/\S1.length=S.length:=by
 obtain⟨j,B,P,A,s,k1,v⟩:=my (e1:=mV 0) (e2:=mK (.int 7)) (ρ:=[ar (.lst k),none,none,none,none,none]) (m:=7) hs rfl rfl (by decide) (by decide)
 obtain⟨n,N⟩:∃n:Nat,8+j=n:=⟨(8+j).toNat,by omega⟩
 have K:k<B.length:=by have:=hs.lt;omega
 obtain⟨i,X,F,z,u,k2,y⟩:=my (e1:=mV 0) (e2:=mK (.int 12)) (ρ:=eG k n B.length [none,none,none]) (m:=12) (Kp.grow k1.st [[]]).st rfl rfl (by decide) (by decide)
 have g1:X[B.length]? =ar (([]:List (List Int)).map tupI):=(k2.oth B.length (by simp) (by omega)).trans bP
 obtain⟨J,C,R,acc,S2,L,g3,Z,W,k3⟩:=FB (n:=n) (its:=aU 0 i.toNat) K (by omega) (by omega) (ey i.toNat) [] X none none none (by rw[Mc];simp;omega) (fun t Y=>by cases Y) g1 ((Kp.grow k1.st [[]]).trans k2)
 rw[Mc]at W;have U:acc.length<=18:=by simp at W;omega
 have w:WebOk n (gH acc):=⟨fun t Y=>Z t (Au.mp Y),Av acc,by have:=nj acc;omega⟩
 have I:lL (aR (ay aL (aa (mV 0) (aa (mK (.int 12)) au)))) (eG k n B.length [none,none,none]) (B++[[]])=ar (.ok ⟨aU 0 i.toNat,.none⟩,X):=by
  rw[Hx F,Ao (by omega)];rfl
 have T:aY cI (mK (.int 8)) (aR (ay aL (aa (mV 0) (aa (mK (.int 7)) au)))) [ar (.lst k),none,none,none,none,none] S=ar (.ok (.int n),B):=by
  rw[g9 (f:=cI) (x:=.int 8) (S1:=S) rfl P, <-N];rfl
 have G:aR (cW lJ (mV 2)) (eG k n B.length [J,C,R]) S2=ar (.ok (.fz ((gH acc).map tupI)),S2):=by
  refine tV ((rX (x:=.lst B.length) (S1:=S2) rfl).trans ?_) (Kp.refl k3.st) rfl (eI _);show(getL B.length>>=fun xs=>match rowsOf xs with|some nss=>dh nss|none=>M.fail) S2=_
  rw[aJ (dI g3),qu];have Y:two acc=true:=Ml.mpr fun x Q=>by rw[Z.two x Q];rfl
  show dh acc S2=_;unfold dh;rw[if_pos ⟨U,Y⟩];exact dH (by rw[LC];have:=nj acc;unfold lim;omega)
 have hm:d6 [ar (.lst k),none,none,none,none,none] S=ar (.ok (.ret (aW n (gH acc))),S2):=by
  unfold d6;refine(aS (b7 T)).trans ((aS (b7 (dH (S:=B) (us:=[]) (L6 _)))).trans ((aS (yI I L)).trans (g0 (tL (x:=.int n) (S1:=S2) rfl ((rX G).trans ?_)))));rw[ng (by rw[LC];have:=nj acc;unfold lim;omega)];rfl
 obtain⟨S1,O,H⟩:=CO (c:=bD [.lst k]) (d:=aW n (gH acc)) hs (fJ (o:=.ret (aW n (gH acc))) hm rfl) (k1.trans k3) nk;exact⟨n,_,S1,O,by omega,by omega,w,H⟩
end
def pc{α:Type}(r:α->α->Bool):List α->Nat
 |[]=>0
 |x::xs=>xs.countP (r x)+pc r xs
theorem vC(c:Nat):c+c*(c - 1) / 2=(c+1)*c / 2:=by
 have:(c+1)*c=c*(c - 1)+2*c:=by
  cases c with
  |zero=>rfl
  |succ c=>simp only[J'];rw[QA (c+1+1),QA 2, <-Nat.mul_add]
 rw[this,Nat.add_mul_div_left _ _ (by decide)];omega
theorem vD(p:Int):∀E:List (List Int),pc (fun s t=>fy p s && fy p t) E=E.countP (fy p)*(E.countP (fy p) - 1) / 2
 |[]=>by simp[pc]
 | x::xs=>by
  unfold pc;rw[vD p xs,N6];by_cases h:fy p x=c_
  ·simp only[h,M',if_true,J'];have:xs.countP (fun t=>fy p t)=xs.countP (fy p):=rfl;rw[this,vC]
  ·have h':fy p x=false:=by simpa using h
   simp[h',List.countP_false]
def sm(m:Nat)(f:Nat->Nat):Nat:=((ey m).map f).sum
theorem EU(f:Nat->Nat):sm 0 f=0:=rfl
theorem jA(m:Nat)(f:Nat->Nat):sm (m+1) f=sm m f+f m:=by unfold sm;rw[PJ];simp
theorem EV(m:Nat)(f:Nat->Nat):sm (m+1) f=f 0+sm m (fun i=>f (i+1)):=by
 unfold sm;rw[NH];simp[Function.comp_def]
theorem tY(f g:Nat->Nat):∀m,sm m (fun i=>f i+g i)=sm m f+sm m g
 |0=>rfl
 |m+1=>by rw[jA,jA,jA,tY f g m];omega
theorem mz{f g:Nat->Nat}:∀{m:Nat},(∀i,i<m->f i=g i)->sm m f=sm m g
 |0,_=>rfl
 |m+1,h=>by rw[jA,jA,mz fun i Z=>h i (MA Z),h m (NA m)]
theorem nv:∀m,sm m (fun _=>0)=0
 |0=>rfl
 |m+1=>by rw[jA,nv m]
theorem CZ(i x:Nat):∀m,sm m (fun j=>if j=i then x else 0)=if i<m then x else 0
 |0=>by simp[EU]
 | m+1=>by
  rw[jA,CZ i x m];by_cases h:i<m
  ·rw[if_pos h,if_neg (by omega),if_pos (by omega)];omega
  ·by_cases h2:m=i
   ·subst h2;simp
   ·rw[if_neg h,if_neg h2,if_neg (by omega)]
theorem sg(n:Nat)(r:List Int->Bool)(g:Nat->List Int->Bool):∀xs:List (List Int),(∀t∈xs,(if r t then 1 else 0)=sm n (fun p=>if g p t then 1 else 0))->xs.countP r=sm n (fun p=>xs.countP (g p))
 |[],_=>by simp[nv]
 |x::xs,h=>by
  rw[N6,sg n r g xs fun t Z=>h t (LN _ Z),h x LX, <-tY];exact mz fun p _=>by rw[N6]
theorem C0(n:Nat)(r:List Int->List Int->Bool)(g:Nat->List Int->List Int->Bool):∀E:List (List Int),E.Pairwise (fun s t=>(if r s t then 1 else 0)=sm n (fun p=>if g p s t then 1 else 0))->pc r E=sm n (fun p=>pc (g p) E)
 |[],_=>by simp[pc,nv]
 |x::xs,h=>by
  obtain⟨Z,Y⟩:=MK.mp h;unfold pc;rw[C0 n r g xs Y,sg n (r x) (fun p=>g p x) xs Z, <-tY]
def fY(s t:List Int):Bool:=decide ((distinct (s++t)).length<4)
theorem vE{a b c d:Int}(X:a<b)(W:c<d):fY [a,b] [c,d]=decide (a=c\/a=d\/b=c\/b=d):=by
 unfold fY distinct I_;have e:(ey ([a,b]++[c,d]).length).map (fun i=>([a,b]++[c,d]).getD i 0)=[a,b,c,d]:=rfl;rw[e];have Y:¬ a=b:=by omega
 have Z:¬ c=d:=by omega
 refine decide_eq_decide.mpr ?_;show(m_ (m_ (m_ (m_ [] a) b) c) d).length<4↔_;have s1:m_ [] a=[a]:=rfl;have s2:m_ [a] b=[a,b]:=by simp[m_,Y]
 have s3:m_ [a,b] c=if a=c\/b=c then [a,b]else [a,b,c]:=by unfold m_;simp
 rw[s1,s2,s3];by_cases h:a=c\/b=c
 ·rw[if_pos h];have:(m_ [a,b] d).length<4:=by unfold m_;split<;>simp
  exact⟨fun _=>by omega,fun _=>this⟩
 ·rw[if_neg h];have s4:m_ [a,b,c] d=if a=d\/b=d then [a,b,c]else [a,b,c,d]:=by unfold m_;simp[Z]
  rw[s4];by_cases h3:a=d\/b=d
  ·rw[if_pos h3];exact⟨fun _=>by omega,fun _=>by simp⟩
  ·rw[if_neg h3];exact⟨fun z=>by simp at z,fun z=>by omega⟩
structure Tied(n:Nat)(E:List (List Int)):Prop where
 el:∀t∈E,∃a b:Int,t=[a,b]/\0<=a/\a<b/\b<n
 nd:E.Nodup
theorem yN{n:Nat}{a:Int}(Z:0<=a)(Y:a<n)(x:Nat):sm n (fun p=>if (p:Int)=a then x else 0)=x:=by
 obtain⟨k,rfl⟩:=Os Z;have:∀p:Nat,((p:Int)=(k:Int))↔p=k:=fun p=>by omega
 simp only[this];rw[CZ,if_pos (by omega)]
theorem HD{p a b:Int}:fy p [a,b]=decide (p=a\/p=b):=by
 unfold fy;rw[OY];simp;constructor
 ·rintro(h|h)
  ·exact .inl h.symm
  ·exact .inr h.symm
 ·rintro(h|h)
  ·exact .inl h.symm
  ·exact .inr h.symm
theorem Ay{n:Nat}{a b c d:Int}(U:0<=a)(W:a<b)(T:b<n)(R:0<=c)(X:c<d)(Q:d<n)(S:¬ (a=c/\b=d)):
  (if fY [a,b] [c,d]then 1 else 0)=sm n (fun p=>if fy p [a,b] && fy p [c,d]then 1 else 0):=by
 have e:∀p:Nat,(if fy p [a,b] && fy p [c,d]then 1 else 0)=(if (p:Int)=a then (if a=c\/a=d then 1 else 0)else 0)+(if (p:Int)=b then (if b=c\/b=d then 1 else 0)else 0):=fun p=>by
  rw[HD,HD];by_cases h1:(p:Int)=a
  ·have Z:¬ (p:Int)=b:=by omega
   rw[if_pos h1,if_neg Z];simp only[h1,true_or,decide_true,M',decide_eq_true_eq,Nat.add_zero]
  ·rw[if_neg h1];by_cases Z:(p:Int)=b
   ·rw[if_pos Z];simp only[Z,or_true,decide_true,M',decide_eq_true_eq,Nat.zero_add]
   ·rw[if_neg Z];simp[h1,Z]
 rw[mz fun p _=>e p,tY,yN U (by omega),yN (by omega) T,vE W X]
 by_cases p1:a=c\/a=d
 ·have Y:¬ (b=c\/b=d):=by omega
  rw[if_pos p1,if_neg Y,if_pos (by simp;omega)]
 ·rw[if_neg p1];by_cases Y:b=c\/b=d
  ·rw[if_pos Y,if_pos (by simp;omega)]
  ·rw[if_neg Y,if_neg (by simp;omega)]
def jB(E:List (List Int))(p:Nat):Nat:=E.countP (fy p)
def Ia(c:Nat):Nat:=c*(c - 1) / 2
theorem vF{n:Nat}{E:List (List Int)}(w:Tied n E):pc fY E=sm n (fun p=>Ia (jB E p)):=by
 rw[C0 n fY (fun p s t=>fy p s && fy p t) E ?_]
 ·exact mz fun p _=>vD p E
 ·refine List.Pairwise.imp_of_mem (R:=fun s t=>s≠t) ?_ w.nd;intro s t hs U Z;obtain⟨a,b,rfl,X,W,Y⟩:=w.el s hs;obtain⟨c,d,rfl,g1,g2,g3⟩:=w.el t U;exact Ay X W Y g1 g2 g3 fun z=>Z (by rw[z.1,z.2])
def n4(E:List (List Int))(a:Nat):List (List Int):=((k6 (a+1) (E.length - (a+1))).filter fun b=>fY (E.getD a []) (E.getD b [])).map fun b:Nat=>[(a:Int),(b:Int)]
def dy(E:List (List Int)):List (List Int):=(ey E.length).flatMap (n4 E)
theorem drop_eq(E:List (List Int))(k:Nat):E.drop k=(k6 k (E.length - k)).map fun b=>E.getD b []:=by
 refine NS fun i=>?_;rw[Ol,L3];by_cases h:i<E.length - k
 ·rw[List.getElem?_range' h];have:k+i<E.length:=by omega
  simp[Rq,this,List.getElem?_eq_getElem this]
 ·rw[My (by omega),My (by simp;omega)];rfl
theorem C1(E:List (List Int))(a:Nat):(n4 E a).length=(E.drop (a+1)).countP (fY (E.getD a [])):=by
 unfold n4;rw[LC,drop_eq,List.countP_map,OT];rfl
theorem yO:∀E:List (List Int),sm E.length (fun a=>(E.drop (a+1)).countP (fY (E.getD a [])))=pc fY E
 |[]=>rfl
 |x::xs=>by
  rw[Mg,EV];simp only[Fn,List.getD_cons_succ,List.drop_succ_cons,Qa];rw[yO xs];rfl
theorem C3(E:List (List Int)):(dy E).length=pc fY E:=by
 rw[<-yO E];unfold dy sm;rw[List.length_flatMap];congr 1;exact OZ fun a _=>C1 E a
def nV:cT:=bI (KP (fC kN (mV 4) (aR (bp (aa (mK (.int 12)) (au))))) (aR (aY cI (mV 4) (aR (bp (aa (iQ dV (mV 1)) (aa (iQ c_ (mV 1)) (au))))))) (mV 4))
def m_find:cT:=aK (iW (eh (bV (Cc (mV 1)))) (bI (mK .non)) (dZ)) (aK (bF 4 (aR (bB (lL (mK (.int 13))) (gN 0) bS bU [none,ar 3]))) nV)
def iB:cT:=aK (bF 3 (bp (aa (cY (mV 1) "NoWeb") (aa (cY (mV 1) "NoPlace") (aa (cY (mV 1) "NoPlaces") (au)))))) (aK (bF 3 (aY cI (mV 3) (aR (bp (aa (cY (mV 1) "NoMap") (aa (cY (mV 1) "NoSharing") (aa (cY (mV 1) "NoRoot") (au)))))))) (aK (bF 3 (aY cI (mV 3) (aR (bp (aa (cY (mV 1) "NoNumber") (aa (cY (mV 1) "NotJoined") (aa (cY (mV 1) "NoTie") (au)))))))) (aK (bF 3 (aY cI (mV 3) (aR (bp (aa (cY (mV 1) "NoText") (aa (cY (mV 1) "NoLine") (aa (cY (mV 1) "NoDeed") (au)))))))) (aK (pX (ud cU (mV 3) (cY (mV 1) "TooGreat"))) m_find))))
theorem C4(f:D)(c:M D):fu f c=aK (bF 1 (mK .non)) (aK (uX 0 2 1 f c) iB):=rfl
theorem Az(f g x:D):(iB [ar f,ar x,none,none,none]>>=outD)=(iB [ar g,ar x,none,none,none]>>=outD):=by
 unfold iB m_find nV;simp only[aK,bF,pX,iW,bI,dZ,mV,mK,bp,aY,ud,cY,Cc,KP,eh,bV,fC,aa,au,ay,cW,bB,aR,iQ,lL,Jk,uu,bQ,aj,EE,Jt,Ju,Jv,Jw,Jx,List.set_cons_succ,List.set_cons_zero,outD,gi,M_,Qs,Option.bind,List.getElem?_cons_succ,List.getElem?_cons_zero,Option.join]
theorem C5(f:D)(c:M D):bz f c []=qv c (fun x=>iB [ar f,ar x,none,none,none]>>=outD):=by
 funext S;unfold bz oj;rw[if_pos (show[f].length=1 from rfl)];show((fu f c [ar f,none,none,none,none])>>=outD) S=_;rw[C4,bA (ρ':=[ar f,ar .non,none,none,none]) rfl];have Z:uX 0 2 1 f c [ar f,ar .non,none,none,none]=B5 2 1 c [ar f,ar .non,none,none,none]:=by
  unfold uX;exact if_pos rfl
 show((uX 0 2 1 f c [ar f,ar .non,none,none,none]>>=fun o=>uu o iB)>>=outD) S=_;rw[Z,bQ];show M.bnd (B5 2 1 c [ar f,ar .non,none,none,none]) _ S=_;unfold M.bnd B5 qv;cases h:c S with
 |none=>rfl
 | some p=>
  obtain⟨r,S1⟩:=p;cases r with
  |ok a=>rfl
  | ex x=>
   cases x with
   |exc n ds=>
    dsimp only;by_cases hn:n∈aX
    ·rw[if_pos hn,if_pos hn];rfl
    ·rw[if_neg hn,if_neg hn]
   |_=>rfl
theorem dz:∀f c es,bz f c es=aV c es:=by
 intro f c es;unfold aV;cases es with
 |nil=>
  rw[C5,C5];congr 1;funext x;exact Az _ _ x
 |cons e es=>
  unfold bz oj;rw[if_neg (by simp),if_neg (by simp)]
section
variable {f:D}{n:Str}{ds:List D}{S G:aA}{p:Nat}{xs:List D}{z:Option D}
theorem oH(Z:n∈aX)(a:Str):cY (mV 1) a [ar f,ar (.exc n ds),none,z,none]=a_ (.bl (cq n a)):=CN (ds:=ds) (g:=fun n=>cq n a) Z
theorem three(Z:n∈aX)(a b c:Str):aa (cY (mV 1) a) (aa (cY (mV 1) b) (aa (cY (mV 1) c) au)) [ar f,ar (.exc n ds),none,z,none]=a_ [.bl (cq n a),.bl (cq n b),.bl (cq n c)]:=
 bt (oH Z a) (bt (oH Z b) (bt (oH Z c) rfl))
theorem qz(Z:n∈aX)(a b c:Str)(Y:(S++G)[p]? =ar xs)(U:xs.length<=100):∃p' G',bF 3 (aY cI (mV 3) (aR (bp (aa (cY (mV 1) a) (aa (cY (mV 1) b) (aa (cY (mV 1) c) au)))))) [ar f,ar (.exc n ds),none,ar (.lst p),none] (S++G)=ar (.ok (.nx [ar f,ar (.exc n ds),none,ar (.lst p'),none]),S++G')/\(S++G')[p']? =ar (xs++[.bl (cq n a),.bl (cq n b),.bl (cq n c)])/\S.length<=p':=by
 refine⟨(S++G).length,G++[xs++[.bl (cq n a),.bl (cq n b),.bl (cq n c)]],?_,by rw[<-L9];exact bP,by rw[LL];omega⟩
 have X:aR (bp (aa (cY (mV 1) a) (aa (cY (mV 1) b) (aa (cY (mV 1) c) au)))) [ar f,ar (.exc n ds),none,ar (.lst p),none]=a_ (.fz [.bl (cq n a),.bl (cq n b),.bl (cq n c)]):=by
  show ij (aa _ _ _>>=bh)=_;rw[three Z a b c,aj];exact bR rfl ED
 have W:=b9 (f:=cI) (m:=mV 3) (ρ:=[ar f,ar (.exc n ds),none,ar (.lst p),none]) (x:=.lst p) rfl X;show((aY cI _ _ _)>>=fun x=>a_ (Out.nx _)) _=_;rw[W,aJ (a:=.lst (S++G).length) (S1:=S++(G++[xs++[.bl (cq n a),.bl (cq n b),.bl (cq n c)]]))]
 ·rfl
 ·show(getL p>>=fun xs=>bh (xs++_)) _=_;rw[aJ (a:=xs) (S1:=S++G) (by unfold getL;rw[Y];rfl)]
  unfold bh;rw[if_pos (by rw[LL];show xs.length+3<=lim;unfold lim;omega),L9]
end
theorem find_eq{f:D}{n:Str}{ds:List D}{S:aA}{p:Nat}{bs:List Bool}(Y:n∈aX)(O:S[p]? =ar (bs.map D.bl))(K:bs.length=13):
  m_find [ar f,ar (.exc n ds),none,ar (.lst p),none] S=nV [ar f,ar (.exc n ds),none,ar (.lst p),ar (.fz ((aU 0 13).filter (xn bs)))] S:=by
 have Z:iW (eh (bV (Cc (mV 1)))) (bI (mK .non)) dZ [ar f,ar (.exc n ds),none,ar (.lst p),none]=a_ (.nx [ar f,ar (.exc n ds),none,ar (.lst p),none]):=by
  have:eh (bV (Cc (mV 1))) [ar f,ar (.exc n ds),none,ar (.lst p),none]=a_ false:=by
   show((uV (fun _=>c_) (.exc n ds)>>=ku)>>=_)=_;rw[CN Y];rfl
  exact(di this).trans (if_neg (by decide))
 unfold m_find;rw[bA Z];have R:lL (mK (.int 13)) [ar f,ar (.exc n ds),none,ar (.lst p),none]=a_ ⟨aU 0 13,.none⟩:=(qm (x:=.int 13) rfl).trans (Ao (by omega))
 have N:bL ⟨aU 0 13,.none⟩ (gN 0) bS bU (aU 0 13) [none,ar (.lst p)] S=ar (.ok ((aU 0 13).filter (xn bs)),S):=by
  refine vw (fun ρ=>∃x,ρ=[x,ar (.lst p)]) (xn bs) _ _ ⟨none,rfl⟩ fun d hd ρ ⟨x,hρ⟩=>?_;subst hρ;obtain⟨k,U,rfl⟩:=Mp.mp hd;have U:k<13:=Ma.mp U;refine⟨_,rfl,⟨_,rfl⟩,?_,rfl⟩;have e:j8 (bs.map D.bl) (0+(k:Int))=ar (.bl (bs.getD k dV)):=by
   rw[Of];unfold j8 zd;rw[LC];have Z:¬ ((k:Int)<0):=by omega
   have P:(k:Int)<bs.length:=by omega
   have T:k<bs.length:=by omega
   simp[Z,P,T]
  show((getL p>>=fun xs=>match j8 xs (0+(k:Int))with|some d=>(a_ d:M D)|none=>M.fail)>>=ku) S=_
  rw[aJ (a:=D.bl (bs.getD k dV)) (S1:=S)]
  ·show ar (Res.ok (bs.getD k dV),S)=ar (.ok (bs.getD (0+(k:Int)).toNat dV),S);rw[Of,Mv]
  ·rw[aJ (a:=bs.map D.bl) (S1:=S) (by unfold getL;rw[O];rfl),e];rfl
 have hm:bB (lL (mK (.int 13))) (gN 0) bS bU [none,ar 3] [ar f,ar (.exc n ds),none,ar (.lst p),none] S=bh ((aU 0 13).filter (xn bs)) S:=by
  unfold bB;rw[R,aj];unfold dE;rw[if_pos (by show(aU 0 13).length<=lim;unfold aU lim;rw[LC,Mc];omega)]
  exact aJ N
 have L:ij (bB (lL (mK (.int 13))) (gN 0) bS bU [none,ar 3] [ar f,ar (.exc n ds),none,ar (.lst p),none]) S=ar (.ok (.fz ((aU 0 13).filter (xn bs))),S):=by
  have X:bY 0 ((aU 0 13).filter (xn bs))=true:=by
   have:∀l:List Nat,bY 0 ((l.map fun i:Nat=>D.int (0+(i:Int))).filter (xn bs))=true:=fun l=>by
    induction l with
    |nil=>rfl
    |cons x l ih=>
     rw[LZ,List.filter_cons];split
     ·unfold bY;rw[ih];unfold fO;rfl
     ·exact ih
   exact this _
  have Y:bh ((aU 0 13).filter (xn bs)) S=ar (.ok (.lst S.length),S++[(aU 0 13).filter (xn bs)]):=by
   unfold bh;exact if_pos (LS (Mu _ _) (by unfold aU lim;rw[LC,Mc];omega))
  obtain⟨d,W,e,rfl,rfl⟩:=vn (Q:=fun d W=>d= .fz ((aU 0 13).filter (xn bs))/\W=S) ⟨_,_,hm.trans Y,[(aU 0 13).filter (xn bs)],S.length,_,rfl,rfl,bP,LF _,ji (L6 _) _ X,rfl,rfl⟩;exact e
 show(bF 4 _ _>>=fun o=>uu o nV) S=_;rw[aJ (a:=.nx [ar f,ar (.exc n ds),none,ar (.lst p),ar (.fz ((aU 0 13).filter (xn bs)))]) (S1:=S)]
 ·rfl
 ·show(ij _>>=_) S=_;rw[aJ L];rfl
def marks(n:Str):List Bool:=[cq n "NoWeb",cq n "NoPlace",cq n "NoPlaces",cq n "NoMap",cq n "NoSharing",cq n "NoRoot",cq n "NoNumber",cq n "NotJoined",cq n "NoTie",cq n "NoText",cq n "NoLine",cq n "NoDeed",cq n "TooGreat"]
theorem C6{f:D}{n:Str}{ds:List D}{us:List D}{v:D}(X:n∈aX)(U:(aU 0 13).filter (xn (marks n))=us)(W:∀p,nV [ar f,ar (.exc n ds),none,ar (.lst p),ar (.fz us)]=a_ (.ret v))(S:aA):
  runs (iB [ar f,ar (.exc n ds),none,none,none]>>=outD) S fun d O=>d=v/\∃G,O=S++G:=by
 have P:bF 3 (bp (aa (cY (mV 1) "NoWeb") (aa (cY (mV 1) "NoPlace") (aa (cY (mV 1) "NoPlaces") au)))) [ar f,ar (.exc n ds),none,none,none] S=ar (.ok (.nx [ar f,ar (.exc n ds),none,ar (.lst S.length),none]),S++[[.bl (cq n "NoWeb"),.bl (cq n "NoPlace"),.bl (cq n "NoPlaces")]]):=by
  show((aa _ _ _>>=bh)>>=fun x=>a_ (Out.nx _)) S=_;rw[three X,aj,aJ (dH (us:=[.bl (cq n "NoWeb"),.bl (cq n "NoPlace"),.bl (cq n "NoPlaces")]) ED)];rfl
 obtain⟨E,I,e2,g2,B⟩:=qz (f:=f) (ds:=ds) (S:=S) X "NoMap" "NoSharing" "NoRoot" (bP (S:=S) (xs:=[.bl (cq n "NoWeb"),.bl (cq n "NoPlace"),.bl (cq n "NoPlaces")])) (by decide:3<=100)
 obtain⟨F,H,K,g3,C⟩:=qz (f:=f) (ds:=ds) (S:=S) X "NoNumber" "NotJoined" "NoTie" g2 (by decide:6<=100)
 obtain⟨Z,Y,J,T,N⟩:=qz (f:=f) (ds:=ds) (S:=S) X "NoText" "NoLine" "NoDeed" g3 (by decide:9<=100)
 have R:=(LH.mp T).1;have L:pX (ud cU (mV 3) (cY (mV 1) "TooGreat")) [ar f,ar (.exc n ds),none,ar (.lst Z),none] (S++Y)=ar (.ok (.nx [ar f,ar (.exc n ds),none,ar (.lst Z),none]),(S++Y).set Z ((marks n).map D.bl)):=by
  have hm:=Jz (f:=cU) (e1:=mV 3) (ρ:=[ar f,ar (.exc n ds),none,ar (.lst Z),none]) (x:=.lst Z) rfl rfl (oH (f:=f) (ds:=ds) (z:=ar (.lst Z)) X "TooGreat");refine rW (x:=.non) ((Ms hm _).trans ?_);rw[aj];show(getL Z>>=fun xs=>kI Z (xs++[.bl (cq n "TooGreat")])) _=_;rw[aJ (dI T)];exact km (by show 13<=lim;unfold lim;omega) R
 have Q:=find_eq (f:=f) (ds:=ds) (S:=(S++Y).set Z ((marks n).map D.bl)) (p:=Z) (bs:=marks n) X (Mh R) rfl;rw[U,W]at Q;refine⟨v,(S++Y).set Z ((marks n).map D.bl),?_,rfl,Y.set (Z - S.length) ((marks n).map D.bl),NP _ _ N⟩;rw[aJ (a:=Out.ret v) (S1:=(S++Y).set Z ((marks n).map D.bl))]
 ·rfl
 ·unfold iB;exact(aS P).trans ((aS e2).trans ((aS K).trans ((aS J).trans ((aS L).trans Q))))
theorem yP{n:Str}{ds us:List D}{v:D}(X:n∈aX)(Y:(aU 0 13).filter (xn (marks n))=us)(Z:∀f p,nV [ar f,ar (.exc n ds),none,ar (.lst p),ar (.fz us)]=a_ (.ret v))(S:aA):
  runs (aV (M.raise (.exc n ds)) []) S fun d W=>d=v/\∃G,W=S++G:=by
 unfold aV;rw[C5];have:qv (M.raise (.exc n ds)) (fun x=>iB [ar (.fn 0 0 "" [] []),ar x,none,none,none]>>=outD)=(iB [ar (.fn 0 0 "" [] []),ar (.exc n ds),none,none,none]>>=outD):=by
  funext S;show(if n∈aX then _ else none)=_;rw[if_pos X]
 rw[this];exact C6 X Y (Z _) S
theorem sh{n:Str}{ds us:List D}{v:D}(X:n∈aX)(Y:(aU 0 13).filter (xn (marks n))=us)(Z:∀f p,nV [ar f,ar (.exc n ds),none,ar (.lst p),ar (.fz us)]=a_ (.ret v))(W:fO 0 v=c_):
  ij (aV (M.raise (.exc n ds)) [])=a_ v:=Fu W (yP X Y Z)
theorem eq_12{f x:D}{p:Nat}{k:Int}:fC kN (mV 4) (aR (bp (aa (mK (.int 12)) au))) [ar f,ar x,none,ar (.lst p),ar (.fz [.int k])]=a_ (decide (k=12)):=by
 have Z:aR (bp (aa (mK (.int 12)) au)) [ar f,ar x,none,ar (.lst p),ar (.fz [.int k])]=a_ (.fz [.int 12]):=bR (us:=[.int 12]) rfl (by show 1<=lim;unfold lim;omega)
 refine d9 (x:=.fz [.int k]) rfl Z (bZ fun S=>?_);unfold kN;refine(fN (p:=.list [.int k]) (q:=.list [.int 12]) rfl rfl).mpr ⟨?_,rfl⟩;have:i2 (.list [.int k]) (.list [.int 12])=decide (k=12):=by
  rw[OY];simp[i2,p8]
 rw[this]
theorem FC{f x:D}{p:Nat}{k:Int}(h:k≠12):nV [ar f,ar x,none,ar (.lst p),ar (.fz [.int k])]=a_ (.ret (.fz [.int k])):=by
 refine eU ?_;show(fC kN _ _ _>>=_)=_;rw[eq_12,aj,if_neg (by rw[M3];exact h)]
 rfl
theorem AA{L:Nat}:ij (aV (M.raise (great L)) [])=a_ (.fz [.int 12,.int L,.int 7]):=by
 refine sh (n:="TooGreat") (us:=[.int 12]) (by decide) (by rfl) (fun f p=>?_) rfl
 refine eU ?_;show(fC kN _ _ _>>=_)=_;rw[eq_12,aj,if_pos (by decide)]
 have Z:∀b,iQ b (mV 1) [ar f,ar (great L),none,ar (.lst p),ar (.fz [.int 12])]=a_ (if b then .int 7 else .int L):=fun b=>by
  show yo b (great L)=_;unfold great yo;exact if_pos (by decide)
 have Y:aR (bp (aa (iQ dV (mV 1)) (aa (iQ c_ (mV 1)) au))) [ar f,ar (great L),none,ar (.lst p),ar (.fz [.int 12])]=a_ (.fz [.int L,.int 7]):=by
  show ij ((iQ dV (mV 1) _>>=fun x=>(iQ c_ (mV 1) _>>=fun y=>_)>>=_)>>=bh)=_;rw[Z,Z];exact bR (us:=[.int L,.int 7]) rfl qQ
 have X:=b9 (f:=cI) (m:=mV 4) (ρ:=[ar f,ar (great L),none,ar (.lst p),ar (.fz [.int 12])]) (x:=.fz [.int 12]) rfl Y;exact(OE ij X).trans (bR (us:=[.int 12,.int L,.int 7]) rfl ED)
def qA(a b:Nat):List D:=[.non,.int 0,.tup [],.tup [.int 15,.tup []],.tup [.int (-1),.tup []],.tup [.bl c_,.tup []],.tup [.int 2,.lst a],.lst b,.tup [.int 2,.tup [.tup [.int 1,.int 0]]],.tup [.int 2,.tup [.tup [.int 0,.int 0]]],.emp,.str "2:"]
def qB:List D:=[.tup [.int 2,.tup [.tup [.int 0,.int 1],.tup [.int 0,.int 1]]],.tup [.int 3,.tup [.tup [.int 0,.int 2],.tup [.int 0,.int 1]]],.tup [.int 2,.tup [.tup [.int 0,.int 2]]],.tup [.int 2,.tup [.tup [.int 0,.bl c_]]],.tup [.int 2,.tup [.tup [.int 0,.int 1,.int 1]]]]
def tZ(c:Nat):List D:=[.tup [.int 2,.tup [.int 0,.int 1]],.tup [.int 2,.non],.tup [.int 2,.tup [],.tup []],.tup [.int 2],.tup [.int 2,.tup [.lst c]],.tup [.int 2,.tup [.non]],.tup [.str "2",.tup []],.tup [.int 0,.tup [.tup [.int 0,.int 1]]]]
theorem HE{n a b c:Nat}{S:aA}(Y:n<=a)(N:n<=b)(P:n<=c)(O:S[a]? =ar [])(R:S[b]? =ar [.int 2,.tup []])(K:S[c]? =ar [.int 0,.int 1]):∀d∈qA a b++qB++tZ c,∃u,iw n (vX S n 60) d=ar u/\Good u/\gu u=false:=by
 have J:=qw (f:=59) Y O rfl;have I:=qw (f:=59) N R rfl;have H:=qw (f:=59) P K rfl;have Z:∀d,fO 0 d=c_->CL d=c_->gu d=dV->∃u,iw n (vX S n 60) d=ar u/\Good u/\gu u=false:=fun d U T X=>⟨d,tH d (yq (L6 _) d U),mq T,X⟩;have Q:∃u,iw n (vX S n 60) (.tup [.int 2,.lst a])=ar u/\Good u/\gu u=false:=⟨.tup [.int 2,.fz []],by unfold iw fW fW fW;rw[J];rfl,mq rfl,rfl⟩
 have L:∃u,iw n (vX S n 60) (.lst b)=ar u/\Good u/\gu u=false:=⟨_,I,mq rfl,rfl⟩;have W:∃u,iw n (vX S n 60) (.tup [.int 2,.tup [.lst c]])=ar u/\Good u/\gu u=false:=⟨.tup [.int 2,.tup [.fz [.int 0,.int 1]]],by
  have:iw n (vX S n 60) (.tup [.lst c])=ar (.tup [.fz [.int 0,.int 1]]):=by unfold iw fW fW;rw[H];rfl
  unfold iw fW fW fW;rw[this];rfl,mq rfl,rfl⟩
 intro d hd;simp only[qA,qB,tZ,wm,gc,f_,or_false]at hd;rcases hd with((rfl|rfl|rfl|rfl|rfl|rfl|rfl|rfl|rfl|rfl|rfl|rfl)|(rfl|rfl|rfl|rfl|rfl))|(rfl|rfl|rfl|rfl|rfl|rfl|rfl|rfl)<;>first|exact Q|exact L|exact W|exact Z _ rfl rfl rfl
def bT(S:aA):aA:=[[],[.int 2,.tup []],qA S.length (S.length+1),qB,qA S.length (S.length+1)++qB,[.int 0,.int 1],tZ (S.length+5),qA S.length (S.length+1)++qB++tZ (S.length+5)]
theorem EX{S Z:aA}{k:Nat}{j:Int}{d:D}(W:aL [.lst k,.int 25] (S++bT S)=ar (.ok (.int j),Z))(Y:Z[S.length+7]? =ar (qA S.length (S.length+1)++qB++tZ (S.length+5)))(X:j8 (qA S.length (S.length+1)++qB++tZ (S.length+5)) j=ar d):
  ft [ar (.lst k),none] S=ar (.ok (.ret d),Z):=by
 unfold ft;refine(aS (ρ':=[ar (.lst k),ar (.lst (S.length+2))]) (S1:=S++(bT S).take 3) (b7 (x:=.lst (S.length+2)) ?_)).trans ((aS (ρ':=[ar (.lst k),ar (.lst (S.length+4))]) (S1:=S++(bT S).take 5) (b7 (x:=.lst (S.length+4)) ?_)).trans ((aS (ρ':=[ar (.lst k),ar (.lst (S.length+7))]) (S1:=S++bT S) (b7 (x:=.lst (S.length+7)) ?_)).trans (g0 ?_)))
 ·refine(j5 (ys:=qA S.length (S++[[]]).length) (S1:=S++[[]]++[[.int 2,.tup []]]) rfl (by show 12<=lim;unfold lim;omega)).trans ?_
  rw[show(S++([[]]:aA)).length=S.length+1 from LL,L9,LL,L9];rfl
 ·refine(g9 (x:=.lst (S.length+2)) rfl (j5 (ys:=qB) (S1:=S++(bT S).take 3) rfl (by show 5<=lim;unfold lim;omega))).trans ?_
  rw[L9,LL];refine(yy (xs:=qA S.length (S.length+1)) (ys:=qB) (qR 2) (qR 3) (by show 17<=lim;unfold lim;omega)).trans ?_
  rw[L9,LL];rfl
 ·refine(g9 (x:=.lst (S.length+4)) rfl (j5 (ys:=tZ (S++(bT S).take 5).length) (S1:=S++(bT S).take 5++[[.int 0,.int 1]]) rfl (by show 8<=lim;unfold lim;omega))).trans ?_
  rw[show(S++(bT S).take 5).length=S.length+5 from LL,L9,L9,LL];refine(yy (xs:=qA S.length (S.length+1)++qB) (ys:=tZ (S.length+5)) (qR 4) (qR 6) (by show 25<=lim;unfold lim;omega)).trans ?_
  rw[LL];exact OE (fun x=>ar (Res.ok (D.lst (S.length+7)),x)) (L9 _ _ _)
 ·refine(g9 (x:=.lst (S.length+7)) (y:=.int j) (S2:=Z) rfl ?_).trans (CF Y X);exact W
theorem HF{S:aA}{k:Nat}(hs:eZ S k):∃d S1,ij (dP [.lst k]) S=ar (.ok d,S1)/\Good d/\gu d=dV/\Kp k S S1/\S1.length=S.length:=by
 obtain⟨_,Y,U,j,rfl,W,T,Z⟩:=yD (Q:=fun d Y=>∃j,d= .int j/\0<=j/\j<25/\Kp k (S++bT S) Y) hs.grow (many:=25) (by decide) (by decide) fun j Y a b _ X=>⟨j,rfl,a,b,X⟩
 have N:=hs.lt;have gt:∀i us,(S++bT S)[S.length+i]? =ar us->Y[S.length+i]? =ar us:=fun i us h=>(Z.oth (S.length+i) (LH.mp h).1 (by omega)).trans h
 obtain⟨d,R,hd⟩:=Fw (xs:=qA S.length (S.length+1)++qB++tZ (S.length+5)) W T;have X:Kp k S Y:=(Kp.grow hs _).trans Z;obtain⟨u,O,P,hw⟩:=HE (n:=S.length) (a:=S.length) (b:=S.length+1) (c:=S.length+5) (S:=Y) (LF _) (NB _ _) (NB _ _) (gt 0 _ (qR 0)) (gt 1 _ (qR 1)) (gt 5 _ (qR 5)) d hd;refine⟨u,_,m5 (fJ (EX U (gt 7 _ (qR 7)) R) rfl) (oG X) (.inl ?_) X.len O,P,hw,tU hs X⟩;have:=Z.len;rw[LL,show(bT S).length=8 from rfl]at this;omega
def Lh(t:List Int):D->D
 | .int p=>.bl (fy p t)
 |d=>d
theorem HG{s t:List Int}(hs:s.length<=1000):fX [tupI s,tupI t]=a_ (.bl (s.any fun p=>fy p t)):=by
 have Z:(s.map D.int).length<=lim:=by rw[LC];unfold lim;omega
 have em:((s.map D.int).filter fun _=>c_).map (Lh t)=(s.map fun p=>fy p t).map D.bl:=by
  rw[eF,Mi,Mi];rfl
 have h:=jZ (mi:=eY (mV 0)) (g:=gN 0) (t:=gQ) (m:=gR) (js:=[none,ar 1]) (ρ:=[ar (tupI s),ar (tupI t)]) (its:=s.map D.int) (fun ρ=>∃x,ρ=[x,ar (tupI t)]) (fun _=>c_) (Lh t) rfl Z ⟨none,rfl⟩ (fun d hd ρ ⟨x,hρ⟩=>by
  subst hρ;obtain⟨p,_,rfl⟩:=Mp.mp hd;exact⟨_,rfl,⟨_,rfl⟩,rfl,fun _=>(b9 (x:=.int p) (y:=tupI t) rfl rfl).trans yK⟩) (by rw[em];exact tK _)
 rw[em]at h;refine gY (eU ((fw h).trans Hn)) ?_;show a_ _=a_ _;rw[List.any_map];rfl
theorem C7{a b c d:Int}(Z:a<b)(Y:c<d):([a,b].any fun p=>fy p [c,d])=fY [a,b] [c,d]:=by
 rw[vE Z Y,OY];simp only[Qk,List.any_nil,HD,Bool.or_false,E3,decide_eq_true_eq];constructor
 ·rintro((h|h)|(h|h))<;>simp[h]
 ·rintro(h|h|h|h)<;>simp[h]
def K6(E:List (List Int)):D->Bool
 | .tup [.int a,.int b]=>fY (E.getD a.toNat []) (E.getD b.toNat [])
 |_=>dV
theorem ny(E:List (List Int)):(((bw E.length).map tupI).filter (K6 E)).map id=(dy E).map tupI:=by
 rw[List.map_id,PL];congr 1;unfold bw dy;rw[List.filter_flatMap];congr 1;funext a;unfold jx n4;rw[PL];congr 1
theorem FD{n:Nat}{E:List (List Int)}(O:n<=14)(w:WebOk n E)(L:E.length<=7):cn [aW n E]=a_ (aW E.length (dy E)):=by
 have hf:b0 [aW n E]=a_ .non:=by rw[Fx O w,if_neg (by omega)]
 have X:((bw E.length).map tupI).length<=lim:=by rw[LC];exact LS (vA (by omega)) (by unfold lim;omega)
 have R:=CD (mi:=eY (aR (ay du (aa (mV 2) au)))) (g:=ie 2 (bX (gN 0) (bX (gN 1) iK))) (t:=gq) (m:=gr) (js:=[none,none,ar 1]) (ρ:=[ar (aW n E),ar (.tup (E.map tupI)),ar (.int E.length)])
  (its:=(bw E.length).map tupI) (fun ρ=>∃x y,ρ=[x,y,ar (.tup (E.map tupI))]) (K6 E) id
  (by
   have:aR (ay du (aa (mV 2) au)) [ar (aW n E),ar (.tup (E.map tupI)),ar (.int E.length)]=a_ (.fz ((bw E.length).map tupI)):=by
    unfold aR;rw[cz (x:=.int E.length) rfl];exact EN (by omega)
   unfold eY;rw[this];rfl) X ⟨none,none,rfl⟩
  (fun d hd ρ ⟨x,y,hρ⟩=>by
   subst hρ;obtain⟨t,T,rfl⟩:=Mp.mp hd;obtain⟨a,b,rfl,h0,N,K⟩:=vy t T;obtain⟨a,rfl⟩:=Os h0;obtain⟨b,rfl⟩:=Os (show 0<=b by omega)
   have Z:a<E.length:=by omega
   have Y:b<E.length:=by omega
   obtain⟨p,q,ep,_,W,_⟩:=w.el (E.getD a []) (getD_in Z);obtain⟨r,u,P,_,S,_⟩:=w.el (E.getD b []) (getD_in Y);refine⟨[ar (.int a),ar (.int b),ar (.tup (E.map tupI))],rfl,⟨_,_,rfl⟩,?_,fun _=>?_⟩
   ·refine j4 (oE ((call2 ((b9 (x:=.tup (E.map tupI)) (y:=.int a) rfl rfl).trans (qy Z)) ((b9 (x:=.tup (E.map tupI)) (y:=.int b) rfl rfl).trans (qy Y))).trans ?_));rw[HG (by rw[ep];exact(by decide:2<=1000))]
    show a_ (D.bl _)=a_ (D.bl (fY (E.getD (a:Int).toNat []) (E.getD (b:Int).toNat [])));rw[Mv,Mv,ep,P,C7 W S]
   ·rfl) (by rw[ny];exact eI _)
 rw[ny]at R;have U:((dy E).map tupI).length<=lim:=by
  rw[<-ny,List.map_id];exact LS (Mu _ _) X
 refine kX (o:=.ret (aW E.length (dy E))) ?_ rfl;unfold m6;show aK _ _ [ar (aW n E),none,none]=_;rw[bA (vt (oE ((cz rfl).trans hf))),bA (qo (x:=.tup (E.map tupI)) rfl)];have hlen:cW dO (mV 1) [ar (aW n E),ar (.tup (E.map tupI)),none]=a_ (.int E.length):=by
  refine(fw (x:=.tup (E.map tupI)) rfl).trans ?_;show a_ (D.int (E.map tupI).length)=_;rw[LC]
 show aK _ _ [ar (aW n E),ar (.tup (E.map tupI)),none]=_;rw[bA (qo hlen)];refine eU ?_;have T:=(fw (f:=cC) R).trans (ng U);have Q:aa (mV 2) (aa (cW cC (aR (El (bB (eY (aR (ay du (aa (mV 2) au)))) (ie 2 (bX (gN 0) (bX (gN 1) iK))) gq gr [none,none,ar 1])))) au) [ar (aW n E),ar (.tup (E.map tupI)),ar (.int E.length)]=a_ [.int E.length,.tup ((dy E).map tupI)]:=by
  show(a_ (D.int E.length)>>=fun x=>(cW cC _ _>>=fun y=>_)>>=_)=_;rw[aj,T];rfl
 show(aa _ _ [ar (aW n E),ar (.tup (E.map tupI)),ar (.int E.length)]>>=cF)=_;rw[Q,aj];unfold cF;rw[if_pos (show[D.int E.length,.tup ((dy E).map tupI)].length<=lim from qQ)]
end W
namespace S3
open PySem PySem.Spec PyProof.Rows L2 PySem.SeqAt
section
variable {X:Cx}{E:XD}{o e:Expr}{es:List Expr}{m:TM}{ms:aF->M (List D)}{pos:Pos}
end
end S3
namespace W
open PySem PySem.Spec PyProof.Rows L2 S3 S4 S7
section
variable {α:Type}{l:List α}{mk f:α->D}{mi:aF->M Iter}{g:lz}{t:iV}{m:TM}{ρ:aF}{js:List (Option Nat)}{its:List D}
theorem C8(R:aF->Prop)(q:α->Bool):∀(l:List α) (ρ:aF),R ρ->(∀a∈l,∀ ρ,R ρ->∃Z,g (mk a) ρ=a_ Z/\R Z/\t Z=a_ (q a)/\(q a=c_->m Z=a_ (f a)))->bL ⟨its,.none⟩ g t m (l.map mk) ρ=a_ ((l.filter q).map f)
 |[],ρ,_,_=>by unfold bL;rw[cK];rfl
 |a::l,ρ,hR,h=>by
  obtain⟨Z,T,S,U,X⟩:=h a (.head _) ρ hR;have W:=C8 R q l Z S fun b Y=>h b (.tail _ Y);rw[LZ];unfold bL;rw[cK,aj,T,aj,U,aj,W];cases hq:q a with
  |true=>rw[Ny hq,if_pos rfl,X hq,aj];rfl
  |false=>rw[Nz (by rw[hq];decide),if_neg (by decide)]
theorem xq(R:aF->Prop)(q:α->Bool)(Y:mi ρ=a_ ⟨l.map mk,.none⟩)(W:l.length<=lim)(X:R (gi js ρ))(Z:∀a∈l,∀ ρ,R ρ->∃ ρ1,g (mk a) ρ=a_ ρ1/\R ρ1/\t ρ1=a_ (q a)/\(q a=c_->m ρ1=a_ (f a))):
  bB mi g t m js ρ=bh ((l.filter q).map f):=by
 unfold bB;rw[Y,aj];unfold dE;rw[if_pos (by show(l.map mk).length<=lim;rw[LC];exact W)]
 show(bL _ g t m (l.map mk) _>>=_)=_;rw[C8 R q l _ X Z,aj]
theorem C9(R:aF->Prop)(q:α->Bool)(W:mi ρ=a_ ⟨l.map mk,.none⟩)(Z:l.length<=lim)(U:R (gi js ρ))(X:∀a∈l,∀ ρ,R ρ->∃ ρ1,g (mk a) ρ=a_ ρ1/\R ρ1/\t ρ1=a_ (q a)/\(q a=c_->m ρ1=a_ (f a)))
  (Y:bY 0 ((l.filter q).map f)=c_):aR (bB mi g t m js) ρ=a_ (.fz ((l.filter q).map f)):=by
 unfold aR;rw[xq R q W Z U X];exact bR Y (by rw[LC];exact LS (Mu _ _) Z)
theorem FE(R:aF->Prop)(q:α->Bool)(W:mi ρ=a_ ⟨l.map mk,.none⟩)(Z:l.length<=lim)(U:R (gi js ρ))(X:∀a∈l,∀ ρ,R ρ->∃ ρ1,g (mk a) ρ=a_ ρ1/\R ρ1/\t ρ1=a_ (q a)/\(q a=c_->m ρ1=a_ (f a)))
  (Y:bY 0 ((l.filter q).map f)=c_):aR (El (bB mi g t m js)) ρ=a_ (.fz ((l.filter q).map f)):=by
 unfold aR El;rw[xq R q W Z U X,m9];exact bR Y (by rw[LC];exact LS (Mu _ _) Z)
theorem JJ(R:aF->Prop)(q:α->Bool)(W:mi ρ=a_ ⟨l.map mk,.none⟩)(Z:l.length<=lim)(U:R (gi js ρ))(X:∀a∈l,∀ ρ,R ρ->∃ ρ1,g (mk a) ρ=a_ ρ1/\R ρ1/\t ρ1=a_ (q a)/\(q a=c_->m ρ1=a_ (f a)))
  (Y:bY 0 ((l.filter q).map f)=c_):aR (kU mi g t m js) ρ=a_ (.fz ((l.filter q).map f)):=by
 have h:=xq (js:=js) R q (mi:=fun _=>a_ ⟨l.map mk,.none⟩) (ρ:=ρ) rfl Z U X;unfold bB at h;rw[aj]at h;unfold aR kU;rw[W,aj,h,m9];exact bR Y (by rw[LC];exact LS (Mu _ _) Z)
theorem vG{x:D}(Z:mi ρ=M.raise x):kU mi g t m js ρ=M.raise x:=by
 unfold kU;rw[Z];rfl
end
theorem Da{S:aA}{xs:List D}(Z:xs.length<=lim):cC [.lst S.length] (S++[xs])=ar (.ok (.tup xs),S++[xs]):=by
 show(getL S.length>>=cF) (S++[xs])=_;rw[aJ (dI (bP (S:=S) (xs:=xs)))];unfold cF;rw[if_pos Z];rfl
theorem forA{α:Type}{mk:α->D}{f:α->List D}{g:lz}{b:cT}{its:List D}{S:aA}(c:Nat)(R:aF->Prop):∀(l:List α) (xs:List D) (ρ:aF),R ρ->xs.length+l.length*c<=1000->
  (∀a∈l,(f a).length<=c/\∀ ρ xs,R ρ->xs.length<=1000->∃Y Z,g (mk a) ρ=a_ Y/\R Z/\b Y (S++[xs])=ar (.ok (.nx Z),S++[xs++f a]))->
  ∃ ρ',R ρ'/\hU ⟨its,.none⟩ g b (l.map mk) ρ (S++[xs])=ar (.ok (.nx ρ'),S++[xs++l.flatMap f])
 |[],xs,ρ,hR,_,_=>⟨ρ,hR,by rw[Od,jv,List.flatMap_nil,Mt];rfl⟩
 |a::l,xs,ρ,hR,hl,h=>by
  rw[Mg,NL]at hl;obtain⟨P,Q⟩:=h a (.head _);obtain⟨Y,Z,e1,U,e2⟩:=Q ρ xs hR (by omega)
  obtain⟨ρ',W,X⟩:=forA c R l (xs++f a) Z U (by rw[LL];omega) fun x T=>h x (.tail _ T)
  refine⟨ρ',W,?_⟩;rw[LZ,jw e1 e2,X,NU,L9]
theorem things{es:aF->M (List D)}{ρ:aF}{us:List D}(Y:es ρ=a_ us)(Z:bY 0 us=c_)(X:us.length<=50):aR (bp es) ρ=a_ (.fz us):=by
 show ij (es ρ>>=bh)=_;rw[Y,aj];exact bR Z (by unfold lim;omega)
theorem K7(n:Nat):aU 0 n=(ey n).map fun i:Nat=>D.int (i:Int):=by
 unfold aU;exact OZ fun i _=>by rw[Of]
theorem EY{m:TM}{ρ:aF}{n:Nat}(h:m ρ=a_ (.int n))(Z:n<=1000):lL m ρ=a_ ⟨(ey n).map fun i:Nat=>D.int (i:Int),.none⟩:=by
 rw[qm h,Ao ⟨by omega,by omega⟩,Mv,K7]
theorem not_eq{t:iV}{b:Bool}{ρ:aF}(h:t ρ=a_ b):eh t ρ=a_ (!b):=by
 show(t ρ>>=_)=_;rw[h];rfl
theorem xr{α:Type}(g:α->Int)(l:List α):bY 0 (l.map fun a=>D.int (g a))=true:=by
 have:=mx (l.map g);rw[Mi]at this;exact this
section
variable {n:Nat}{E:List (List Int)}{d e:D}
theorem yQ(Z:n<=14)(w:WebOk n E):bJ [aW n E]=a_ .non:=by
 rw[xm CM (yG w),if_pos (yE (by omega) (by omega) w)]
theorem qC(g:Good d)(Y:gu d=dV):bJ [d]=M.raise (.exc "NoWeb" []):=by
 rw[xm g.nr (fun m Z z=>LS (g.few m Z z) (by decide)),if_neg (by rw[Y];decide)]
theorem t4{us:List D}{ρ:aF}{e:TM}(h:e ρ=a_ (.tup us)):cW dO e ρ=a_ (.int us.length):=fw h
theorem HH{us:List D}{ρ:aF}{e:TM}(h:e ρ=a_ (.fz us)):cW dO e ρ=a_ (.int us.length):=fw h
theorem JK(Y:n<=14)(w:WebOk n E):dC [aW n E]=a_ (.fz ((ey n).map fun p:Nat=>D.int (jB E p))):=by
 have hf:=w.few;have Z:=FE (α:=Nat) (l:=ey n) (mk:=fun i:Nat=>D.int (i:Int)) (f:=fun p:Nat=>D.int (jB E p)) (mi:=lL (mV 1)) (g:=gN 0) (t:=jo) (m:=jq) (js:=[none,ar 2]) (ρ:=[ar (aW n E),ar (.int n),ar (.tup (E.map tupI))]) (fun ρ=>∃x,ρ=[x,ar (.tup (E.map tupI))]) (fun _=>c_) (EY rfl (by omega)) (by rw[Mc];unfold lim;omega) ⟨none,rfl⟩
  (fun p hp ρ ⟨x,hρ⟩=>by
   subst hρ;refine⟨[ar (.int p),ar (.tup (E.map tupI))],rfl,⟨_,rfl⟩,rfl,fun _=>?_⟩;have h:=C9 (α:=List Int) (l:=E) (mk:=tupI) (f:=tupI) (mi:=eY (mV 1)) (g:=gN 0) (t:=jl) (m:=jm) (js:=[none,ar 0]) (ρ:=[ar (.int p),ar (.tup (E.map tupI))]) (fun ρ=>∃x,ρ=[x,ar (.int p)]) (fy p) rfl (by unfold lim;omega) ⟨none,rfl⟩
    (fun t ht ρ ⟨x,hρ⟩=>by
     subst hρ;exact⟨[ar (tupI t),ar (.int p)],rfl,⟨_,rfl⟩,d9 (x:=.int p) (y:=tupI t) rfl rfl yK,fun _=>rfl⟩) (eI _)
   refine(HH h).trans ?_;rw[LC];unfold jB;rw[OT])
  (by rw[eF];exact xr (fun p:Nat=>(jB E p:Int)) _)
 rw[eF]at Z;exact kX (o:=.ret _) ((bA (vt (oE ((cz rfl).trans (yQ Y w))))).trans ((bA (ρ':=[ar (aW n E),ar (.int n),ar (.tup (E.map tupI))]) rfl).trans (eU Z))) rfl
theorem i8:∀l:List Int,HT.lexLt l l=dV
 |[]=>rfl
 |x::l=>by rw[HT.lexLt_cons,if_pos rfl];exact i8 l
theorem EZ(w:WebOk n E):Tied n E:=⟨w.el,w.ris.imp fun h e=>by rw[e,i8]at h;cases h⟩
theorem E4(c:Nat):((c:Int)*((c:Int) - 1)) / 2=((Ia c:Nat):Int):=by
 unfold Ia;cases c with
 |zero=>rfl
 |succ c=>
  rw[show((c+1:Nat):Int) - 1=(c:Int) by omega,J']
  norm_cast
theorem HI(m:Nat)(f:Nat->Nat):((ey m).map fun i=>((f i:Nat):Int)).sum=((sm m f:Nat):Int):=by
 unfold sm
 induction (ey m)with
 |nil=>rfl
 |cons x l ih=>rw[LZ,LZ,List.sum_cons,List.sum_cons,ih];omega
theorem mul_eq{x y:Int}(h:sx x y):nY (.int x) (.int y)=a_ (.int (x*y)):=if_pos h
theorem div_eq{x y:Int}(h:v5 x y):jR (.int x) (.int y)=a_ (.int (x / y)):=if_pos h
theorem E5(Y:n<=14)(w:WebOk n E):cL [aW n E]=a_ (.int (dy E).length):=by
 have hf:=w.few;have hd:=oE (e:=ay dC (aa (mV 0) au)) (ρ:=[ar (aW n E)]) ((cz rfl).trans (JK Y w));have W:eY (aR (ay dC (aa (mV 0) au))) [ar (aW n E)]=a_ ⟨(ey n).map fun p:Nat=>D.int (jB E p),.none⟩:=by
  unfold eY;rw[hd,aj];rfl
 have e:((ey n).filter fun _=>c_).map (fun p:Nat=>D.int (Ia (jB E p)))=((ey n).map fun p=>((Ia (jB E p):Nat):Int)).map D.int:=by rw[eF,Mi];rfl
 have Z:=JJ (α:=Nat) (l:=ey n) (mk:=fun p:Nat=>D.int (jB E p)) (f:=fun p:Nat=>D.int (Ia (jB E p))) (g:=gN 0) (t:=eP) (m:=eQ) (js:=[none]) (fun ρ=>∃x,ρ=[x]) (fun _=>c_) W (by rw[Mc];unfold lim;omega) ⟨none,rfl⟩
  (fun p hp ρ ⟨x,hρ⟩=>by
   subst hρ;have U:jB E p<=E.length:=List.countP_le_length;refine⟨[ar (.int (jB E p))],rfl,⟨_,rfl⟩,rfl,fun _=>?_⟩;have hm:sx (jB E p:Int) ((jB E p:Int) - 1):=.inl ⟨by omega,by omega⟩
   have X:aY nY (mV 0) (aY gk (mV 0) (mK (.int 1))) [ar (.int (jB E p))]=a_ (.int ((jB E p:Int)*((jB E p:Int) - 1))):=(b9 (x:=.int (jB E p)) (y:=.int ((jB E p:Int) - 1)) rfl rfl).trans (mul_eq hm);refine(b9 X (y:=.int 2) rfl).trans ((div_eq ⟨by decide,by decide⟩).trans ?_)
   rw[E4]) (by rw[e];exact mx _)
 rw[e]at Z;refine kX (o:=.ret _) (eU ((fw Z).trans ?_)) rfl;show(match intsOf _ with|some ns=>(a_ (.int ns.sum):M D)|none=>M.fail)=_
 rw[jz];dsimp only;rw[HI,C3,vF (EZ w)]
theorem AB(g:Good d)(X:gu d=dV):cL [d]=M.raise (.exc "NoWeb" []):=by
 have Z:dC [d]=M.raise (.exc "NoWeb" []):=c9 (eV (gZ (yx ((cz rfl).trans (qC g X)))));have Y:eY (aR (ay dC (aa (mV 0) au))) [ar d]=M.raise (.exc "NoWeb" []):=by
  unfold eY;rw[yx ((cz (x:=d) rfl).trans Z)];rfl
 refine c9 ?_;show(cW z7 _ [ar d]>>=_)=_;have:cW z7 (aR (kU (eY (aR (ay dC (aa (mV 0) au)))) (gN 0) eP eQ [none])) [ar d]=M.raise (.exc "NoWeb" []):=by
  show((aR _ _>>=_)>>=_)=_;rw[yx (vG Y)];rfl
 rw[this];rfl
end
def jE(E:List (List Int))(p:Int):List Int:=((ey E.length).filter fun i=>fy p (E.getD i [])).map fun i:Nat=>(i:Int)
section
variable {n:Nat}{E:List (List Int)}{d:D}
theorem vH(X:n<=14)(w:WebOk n E)(h:Ap d):dv [aW n E,d]=if fx n d=c_ then a_ .non else M.raise (.exc "NoPlace" []):=by
 have Z:=not_eq (j4 (oE (e:=ay cQ (aa (aY dD (mV 0) (mK (.int 0))) (aa (mV 1) au))) (ρ:=[ar (aW n E),ar d]) ((call2 (x:=.int n) (y:=d) rfl rfl).trans (tR h))));have Y:=bA (n:=iW (eh (bV (aR (ay cQ (aa (aY dD (mV 0) (mK (.int 0))) (aa (mV 1) au)))))) (w8 "NoPlace" (aa (mK (.str "this is no place of the web")) au)) dZ) (vt (oE (e:=ay bJ (aa (mV 0) au)) (ρ:=[ar (aW n E),ar d]) ((cz rfl).trans (yQ X w))));by_cases hp:fx n d=c_
 ·rw[if_pos hp];exact kX (Y.trans ((di Z).trans (if_neg (by rw[hp];decide)))) rfl
 ·rw[if_neg hp];exact c9 (Y.trans ((di Z).trans ((if_pos (by simpa using hp)).trans rfl)))
theorem E6(p:Int):(jE E p).length<=E.length:=by
 unfold jE;rw[LC];exact LS (Mu _ _) (by rw[Mc];exact LF _)
theorem HJ{p:Nat}(Z:n<=14)(w:WebOk n E)(X:p<n):d7 [aW n E,.int p]=a_ (tupI (jE E p)):=by
 have hf:=w.few;have h0:dv [aW n E,.int p]=a_ .non:=by
  rw[vH Z w rfl,if_pos];show(decide (0<=(p:Int)) && decide ((p:Int)<n))=c_;rw[L7 (by omega),L7 (by omega)];rfl
 have Y:=FE (α:=Nat) (l:=ey E.length) (mk:=fun i:Nat=>D.tup [.int (i:Int),tupI (E.getD i [])]) (f:=fun i:Nat=>D.int (i:Int)) (mi:=Fq (aY dD (mV 0) (mK (.int 1)))) (g:=ie 2 (bX (gN 0) (bX (gN 1) iK))) (t:=jr) (m:=jt) (js:=[none,none,ar 1]) (ρ:=[ar (aW n E),ar (.int p)])
  (fun ρ=>∃x y,ρ=[x,y,ar (.int p)]) (fun i=>fy p (E.getD i [])) (by rw[<-ER];rfl) (by rw[Mc];unfold lim;omega) ⟨none,none,rfl⟩
  (fun i hi ρ ⟨x,y,hρ⟩=>by
   subst hρ;exact⟨[ar (.int i),ar (tupI (E.getD i [])),ar (.int p)],rfl,⟨_,_,rfl⟩,d9 (x:=.int p) (y:=tupI (E.getD i [])) rfl rfl yK,fun _=>rfl⟩)
  (xr (fun i:Nat=>(i:Int)) _)
 refine kX (o:=.ret (tupI (jE E p))) ((bA (vt (oE ((call2 rfl rfl).trans h0)))).trans (eU ((fw Y).trans ((ng ?_).trans ?_)))) rfl
 ·rw[LC];exact LS (Mu _ _) (by rw[Mc];unfold lim;omega)
 ·unfold jE tupI;rw[Mi];rfl
theorem E7(Z:n<=14)(w:WebOk n E)(h:Ap d)(Y:fx n d=dV):d7 [aW n E,d]=M.raise (.exc "NoPlace" []):=
 c9 (eV (gZ (yx ((call2 rfl rfl).trans (by rw[vH Z w h,if_neg (by rw[Y];decide)])))))
theorem Dc{e:D}(g:Good d)(Y:gu d=dV):d7 [d,e]=M.raise (.exc "NoWeb" []):=by
 have Z:dv [d,e]=M.raise (.exc "NoWeb" []):=c9 (eV (gZ (yx ((cz rfl).trans (qC g Y)))));exact c9 (eV (gZ (yx ((call2 rfl rfl).trans Z))))
theorem AC(Z:n<=14)(w:WebOk n E)(h:7<E.length):cn [aW n E]=M.raise (great E.length):=
 c9 (eV (gZ (yx ((cz rfl).trans (by rw[Fx Z w,if_pos h])))))
theorem E8(g:Good d)(Y:gu d=dV):cn [d]=M.raise (.exc "NoWeb" []):=by
 have Z:b0 [d]=M.raise (.exc "NoWeb" []):=c9 (eV (gZ (yx ((cz rfl).trans (qC g Y)))));exact c9 (eV (gZ (yx ((cz rfl).trans Z))))
theorem E9{s t:List Int}(hs:s.length=2)(Z:t.length=2):kj [.tup ((s++t).map D.int)]=a_ (.int (distinct (s++t)).length):=by
 unfold kj;dsimp only;rw[jz];exact if_pos (by rw[LL];omega)
theorem Dd{S:aA}{xs ys:List D}(Z:xs.length+ys.length<=10000):i6 (.lst S.length) [.fz ys] (S++[xs])=ar (.ok .non,S++[xs++ys]):=by
 show(getL S.length>>=fun xs=>kI S.length (xs++ys)) (S++[xs])=_;rw[aJ (dI (bP (S:=S) (xs:=xs))),km (by rw[LL];unfold lim;omega) (by simp)]
 rw[NP _ _ (LF _),QJ];rfl
theorem HK(J:E.length<=21)(T:∀t∈E,t.length=2):ij (cf [aW n E])=a_ (aW E.length (dy E)):=by
 refine Fu nk fun S=>?_;have hlen:∀{w x y},cW dO (mV 1) [w,ar (.tup (E.map tupI)),x,y]=a_ (.int E.length):=fun{w x y}=>(t4 rfl).trans (by rw[LC])
 have Z:∀a,(n4 E a).length<=21:=fun a=>by
  unfold n4;rw[LC];exact LS (Mu _ _) (by rw[NJ];omega)
 obtain⟨ρ',⟨I,rfl⟩,Y⟩:=forA (α:=Nat) (mk:=fun i:Nat=>D.int (i:Int)) (f:=fun a=>(n4 E a).map tupI) (g:=gN 3) (b:=gU) (its:=(ey E.length).map fun i:Nat=>D.int (i:Int)) (S:=S) 21
  (fun ρ=>∃x,ρ=[ar (aW n E),ar (.tup (E.map tupI)),ar (.lst S.length),x]) (ey E.length) [] [ar (aW n E),ar (.tup (E.map tupI)),ar (.lst S.length),none] ⟨none,rfl⟩ (by show 0+_<=1000;rw[Mc];omega)
  (fun a X=>⟨by rw[LC];exact Z a,fun ρ xs ⟨x,hρ⟩ hl=>by
   subst hρ;have X:=Ma.mp X;refine⟨[ar (aW n E),ar (.tup (E.map tupI)),ar (.lst S.length),ar (.int a)],_,rfl,⟨ar (.int a),rfl⟩,?_⟩;have K:vW (aY cI (mV 3) (mK (.int 1))) (cW dO (mV 1)) [ar (aW n E),ar (.tup (E.map tupI)),ar (.lst S.length),ar (.int a)]=a_ ⟨(k6 (a+1) (E.length - (a+1))).map fun b:Nat=>.int (b:Int),.none⟩:=by
    rw[tJ (x:=.int ((a:Int)+1)) (y:=.int E.length) rfl hlen,EF (by omega),tW]
   have R:=C9 (α:=Nat) (l:=k6 (a+1) (E.length - (a+1))) (f:=fun b:Nat=>tupI [(a:Int),(b:Int)]) (g:=gN 0) (t:=gS) (m:=gT) (js:=[none,ar 1,ar 3]) (fun ρ=>∃x,ρ=[x,ar (.tup (E.map tupI)),ar (.int a)]) (fun b=>fY (E.getD a []) (E.getD b [])) K (by rw[NJ];unfold lim;omega) ⟨none,rfl⟩
    (fun b W ρ ⟨x,hρ⟩=>by
     subst hρ;have W:b<E.length:=by have:=OC.mp W;omega
     refine⟨[ar (.int b),ar (.tup (E.map tupI)),ar (.int a)],rfl,⟨_,rfl⟩,?_,fun _=>rfl⟩;have N:aY dD (mV 1) (mV 2) [ar (.int b),ar (.tup (E.map tupI)),ar (.int a)]=a_ (tupI (E.getD a [])):=(b9 (x:=.tup (E.map tupI)) (y:=.int a) rfl rfl).trans (qy X);have L:aY dD (mV 1) (mV 0) [ar (.int b),ar (.tup (E.map tupI)),ar (.int a)]=a_ (tupI (E.getD b [])):=(b9 (x:=.tup (E.map tupI)) (y:=.int b) rfl rfl).trans (qy W);have O:=T _ (getD_in X);have Q:=T _ (getD_in W);have P:aR (aY cI (aY dD (mV 1) (mV 2)) (aY dD (mV 1) (mV 0))) [ar (.int b),ar (.tup (E.map tupI)),ar (.int a)]=a_ (.tup ((E.getD a []++E.getD b []).map D.int)):=by
      refine oE ((b9 N L).trans ?_);show cF ((E.getD a []).map D.int++(E.getD b []).map D.int)=_;rw[<-MF];unfold cF;exact if_pos (by rw[LC,LL];unfold lim;omega)
     refine d9 ((fw P).trans (E9 O Q)) (y:=.int 4) rfl ?_;show a_ (D.bl (decide (((distinct (E.getD a []++E.getD b [])).length:Int)<4)))=_;unfold fY;congr 2;exact decide_eq_decide.mpr (by omega))
    (by
     have:=eI (((k6 (a+1) (E.length - (a+1))).filter fun b=>fY (E.getD a []) (E.getD b [])).map fun b:Nat=>[(a:Int),(b:Int)]);rw[Mi]at this;exact this)
   have e:((k6 (a+1) (E.length - (a+1))).filter fun b=>fY (E.getD a []) (E.getD b [])).map (fun b:Nat=>tupI [(a:Int),(b:Int)])=(n4 E a).map tupI:=by
    unfold n4;rw[Mi];rfl
   rw[e]at R;refine rW (x:=.non) ((se (x:=.lst S.length) rfl rfl (Ms R _)).trans (Dd ?_));rw[LC];have:=Z a;omega⟩)
 have e:(ey E.length).flatMap (fun a=>(n4 E a).map tupI)=(dy E).map tupI:=by
  unfold dy;rw[List.map_flatMap]
 rw[e]at Y;have U:((dy E).map tupI).length<=lim:=by
  have key:∀l:List Nat,(l.flatMap (n4 E)).length<=l.length*21:=fun l=>by
   induction l with
   |nil=>exact LF 0
   |cons x l ih=>rw[NU,LL,Mg,NL];have:=Z x;omega
  have:=key (ey E.length);rw[Mc]at this;rw[LC];unfold dy lim;omega
 refine⟨_,S++[[]++(dy E).map tupI],fJ (o:=.ret (aW E.length (dy E))) ?_ rfl,rfl,_,rfl⟩;refine(Ms (bA (qo (x:=.tup (E.map tupI)) rfl)) S).trans ((aS (b7 (j5 (ys:=[]) (S1:=S) rfl (L6 _)))).trans ((aS (tN (EY hlen (by omega)) Y)).trans (g0 ?_)))
 exact tL (Ms hlen _) ((rX (x:=.lst S.length) rfl).trans (Da U))
end
theorem nb{e:TM}{ρ:aF}(h:e ρ=a_ (.bl c_)):eh (bV e) ρ=a_ false:=not_eq (j4 h)
theorem vI{t:iV}{m:cT}{ρ:aF}(h:t ρ=a_ dV):iW t m dZ ρ=a_ (.nx ρ):=(di h).trans (if_neg (by decide))
theorem AD:ij (aV (M.raise (.exc "NoPlace" [])) [])=a_ (.fz [.int 1]):=sh (by decide) (by rfl) (fun f p=>FC (by decide)) rfl
abbrev z0:D:=.fz [.int 0]
theorem vJ:∀(l:List (M D)) (S:aA),(∀c∈l,c=M.raise (.exc "NoWeb" []))->∃G,tI aV l S=ar (.ok (l.map fun _=>z0),S++G)
 |[],S,_=>⟨[],by rw[Mt];rfl⟩
 |c::l,S,h=>by
  obtain⟨_,_,e,rfl,G,rfl⟩:=yP (n:="NoWeb") (ds:=[]) (us:=[.int 0]) (v:=z0) (by decide) (by rfl) (fun f p=>FC (by decide)) S
  obtain⟨Z,e2⟩:=vJ l (S++G) fun x Y=>h x (.tail _ Y);refine⟨G++Z,?_⟩;rw[h c (.head _)];unfold tI;rw[aJ e,aJ e2,L9];rfl
theorem HL{k:Nat}{ρ:aF}(W:k<=50):aR (aY Am (bp (aa (aR (bp (aa (mK (.int 0)) au))) au)) (mK (.int k))) ρ=a_ (.fz (eo k z0)):=by
 have Y:aR (bp (aa (mK (.int 0)) au)) ρ=a_ z0:=CP;have Z:bY 0 (eo k z0)=true:=by
  induction k with
  |zero=>rfl
  |succ k ih=>rw[Mr];unfold bY;rw[ih (by omega)];rfl
 refine yt Z fun S=>?_;have X:bp (aa (aR (bp (aa (mK (.int 0)) au))) au) ρ S=ar (.ok (.lst S.length),S++[[z0]]):=j5 (ys:=[z0]) (S1:=S) (Ms (bt Y (es:=au) rfl) S) (by show 1<=lim;unfold lim;omega)
 have hf:(eo k [z0]).flatten=eo k z0:=by
  induction k with
  |zero=>rfl
  |succ k ih=>rw[Mr,Nf,ih (by omega) (by unfold eo bY at Z;exact(OP.mp Z).2),Mr];rfl
 refine⟨.lst (S++[[z0]]).length,S++[[z0]]++[eo k z0],?_,[[z0],eo k z0],(S++[[z0]]).length,rfl,by rw[L9];rfl,bP,by rw[LL];omega⟩
 rw[g9 X (y:=.int k) (S2:=S++[[z0]]) rfl];show(getL S.length>>=fun xs=>if -(2 ^ 62)<=(k:Int)/\(k:Int)<=1000/\xs.length<=1000 then bh (eo (k:Int).toNat xs).flatten else M.fail) _=_;rw[aJ (dI bP),if_pos ⟨by omega,by omega,by show 1<=1000;decide⟩,Mv,hf]
 exact dH (by rw[OI];unfold lim;omega)
theorem xt{S:aA}{f:Nat}:∀k:Nat,mapP (gm S (f+1)) (eo k z0)=ar (eo k (.list [.int 0]))
 |0=>rfl
 | k+1=>by
  rw[Mr,Mr];have h0:gm S (f+1) z0=ar (.list [.int 0]):=by
   show(mapP (gm S f) [.int 0]).map oD=_;have:gm S f (.int 0)=ar (.int 0):=ju;simp[mapP,this]
  simp[mapP,h0,xt (S:=S) (f:=f) k]
theorem De:∀k:Nat,p8 (eo k (.list [.int 0])) (eo k (.list [.int 0]))=c_
 |0=>by simp[p8]
 |k+1=>by rw[Mr];simp[p8,i2,De k]
theorem HM{S:aA}{p k:Nat}(Z:S[p]? =ar (eo k z0)):gm S 60 (.lst p)=ar (.list (eo k (.list [.int 0])))/\gm S 60 (.fz (eo k z0))=ar (.list (eo k (.list [.int 0]))):=by
 constructor
 ·show(S[p]?).bind (fun xs=>(mapP (gm S 59) xs).map oD)=_;rw[Z];show(mapP (gm S 59) _).map oD=_;rw[xt];rfl
 ·show(mapP (gm S 59) _).map oD=_;rw[xt];rfl
theorem JL{S:aA}{p k:Nat}(Z:S[p]? =ar (eo k z0)):ky (.lst p) (.fz (eo k z0)) S=ar (.ok (.bl dV),S):=by
 obtain⟨Y,X⟩:=HM Z;obtain⟨_,_,e,rfl,rfl⟩:=(fN (f:=fun p q=> !i2 p q) Y X (Q:=fun d W=>d= .bl dV/\W=S)).mpr ⟨by unfold i2;rw[De];rfl,rfl⟩
 exact e
theorem Df{Z:List (List Nat×TM)}{l:List (M D)}{ρ:aF}{S:aA}(Y:qc Z ρ=ar l)(h:∀c∈l,c=M.raise (.exc "NoWeb" []))(X:l.length<=50):
  ∃S1,fC ky (gL Z aV) (aR (aY Am (bp (aa (aR (bp (aa (mK (.int 0)) au))) au)) (mK (.int l.length)))) ρ S=ar (.ok dV,S1):=by
 obtain⟨G,e⟩:=vJ l S h;have hm:l.map (fun _=>z0)=eo l.length z0:=by
  clear e Y h X
  induction l with
  |nil=>rfl
  |cons x l ih=>rw[LZ,ih];rfl
 rw[hm]at e;have W:gL Z aV ρ S=ar (.ok (.lst (S++G).length),S++G++[eo l.length z0]):=by
  unfold gL;rw[Y];show(tI _ l>>=bh) S=_;rw[aJ e];exact dH (by rw[OI];unfold lim;omega)
 refine⟨S++G++[eo l.length z0],?_⟩;show((gL _ _ ρ>>=fun x=>aR _ ρ>>=fun y=>ky x y)>>=ku) S=_;rw[bQ,aJ W,bQ,HL X,aj,aJ (JL bP)];rfl
theorem HN(E:List (List Int)):(bw E.length).filter (K6 E∘tupI)=dy E:=by
 unfold bw dy;rw[List.filter_flatMap];congr 1;funext a;unfold jx n4;rw[PL];congr 1
theorem Fb{E:List (List Int)}(Z:E.length<=7):WebOk E.length (dy E):=WebOk.of_sub Z (by rw[<-HN];exact List.filter_sublist)
section
variable {a0 a1 a2 x5 x6 x7 x8 x9:Option D}{n:Nat}{E:List (List Int)}
theorem JM{p:Nat}(Y:n<=14)(w:WebOk n E)(X:p<n):iS [a0,a1,a2,ar (aW n E),ar (.int E.length),ar (.int p),x6,x7,x8,x9]=a_ (.nx [a0,a1,a2,ar (aW n E),ar (.int E.length),ar (.int p),ar (tupI (jE E p)),x7,x8,x9]):=by
 have hf:=w.few;have W:=C9 (α:=Nat) (l:=ey E.length) (mk:=fun i:Nat=>D.int (i:Int)) (f:=fun i:Nat=>D.int (i:Int)) (mi:=lL (mV 4)) (g:=gN 0) (t:=lX) (m:=lY) (js:=[none,ar 5,ar 3]) (ρ:=[a0,a1,a2,ar (aW n E),ar (.int E.length),ar (.int p),x6,x7,x8,x9])
  (fun ρ=>∃x,ρ=[x,ar (.int p),ar (aW n E)]) (fun i=>fy p (E.getD i [])) (EY rfl (by omega)) (by rw[Mc];unfold lim;omega) ⟨none,rfl⟩
  (fun i Z ρ ⟨x,hρ⟩=>by
   subst hρ;have Z:=Ma.mp Z;refine⟨[ar (.int i),ar (.int p),ar (aW n E)],rfl,⟨_,rfl⟩,d9 (x:=.int p) (y:=tupI (E.getD i [])) rfl ?_ yK,fun _=>rfl⟩;exact(b9 (x:=.tup (E.map tupI)) (y:=.int i) rfl rfl).trans (qy Z))
  (xr (fun i:Nat=>(i:Int)) _)
 have U:cW cC (aR (bB (lL (mV 4)) (gN 0) lX lY [none,ar 5,ar 3])) [a0,a1,a2,ar (aW n E),ar (.int E.length),ar (.int p),x6,x7,x8,x9]=a_ (tupI (jE E p)):=by
  refine(fw W).trans ((ng ?_).trans ?_)
  ·rw[LC];exact LS (Mu _ _) (by rw[Mc];unfold lim;omega)
  ·unfold jE tupI;rw[Mi];rfl
 have hs:bO [tupI (jE E p),tupI (jE E p)]=a_ (.bl c_):=mw (k:=5) (by rw[LC];have:=E6 (E:=E) p;omega) fun x T=>by
  obtain⟨i,_,rfl⟩:=Mp.mp T;exact same_int
 unfold iS;exact(bA (qo U)).trans (vI (nb (oE ((call2 (oE ((call2 rfl rfl).trans (HJ Y w X))) (y:=tupI (jE E p)) rfl).trans hs))))
theorem Dg{its:List D}(X:n<=14)(w:WebOk n E):∀(post:List Nat) (x5 x6:Option D),(∀p∈post,p<n)->∃Y Z,hU ⟨its,.none⟩ (gN 5) iS (post.map fun i:Nat=>D.int (i:Int)) [a0,a1,a2,ar (aW n E),ar (.int E.length),x5,x6,x7,x8,x9]=a_ (.nx [a0,a1,a2,ar (aW n E),ar (.int E.length),Y,Z,x7,x8,x9])
 |[],x5,x6,_=>⟨x5,x6,jv⟩
 |p::post,x5,x6,h=>by
  obtain⟨Y,Z,U⟩:=Dg (its:=its) X w post (ar (.int p)) (ar (tupI (jE E p))) fun q W=>h q (.tail _ W);refine⟨Y,Z,?_⟩;funext S;rw[LZ,jw rfl (Ms (JM X w (h p (.head _))) S),U]
theorem Dh{ρ:aF}(Y:mV 3 ρ=a_ (aW n E)):aR (bp (aI (aY dD (mV 3) (mK (.int 0))) (aI (mK (.int (-1))) (aI (mK (.bl c_)) (aI (mK .non) (aI (mK (.str "0")) (aI (mK (.tup [.int 0])) (aI (aY uy (mK (.int 10)) (mK (.int 29))) (au))))))))) ρ=a_ (.fz [.int n,.int (-1),.bl c_,.non,.str "0",.tup [.int 0],.int (10 ^ 29)]):=by
 have Z:aY uy (mK (.int 10)) (mK (.int 29)) ρ=a_ (.int (10 ^ 29)):=(b9 (x:=.int 10) (y:=.int 29) rfl rfl).trans (if_pos (e:=M.fail) (show AS 10 29 from⟨by decide,by decide,by decide⟩))
 have h0:aY dD (mV 3) (mK (.int 0)) ρ=a_ (.int n):=(b9 Y (y:=.int 0) rfl).trans rfl;exact things (ρ:=ρ) (bt h0 (bt (e:=mK (.int (-1))) (x:=.int (-1)) rfl (bt (e:=mK (.bl c_)) (x:=.bl c_) rfl (bt (e:=mK .non) (x:=.non) rfl (bt (e:=mK (.str "0")) (x:=.str "0") rfl (bt (e:=mK (.tup [.int 0])) (x:=.tup [.int 0]) rfl (bt Z (es:=au) rfl))))))) rfl (by show 7<=50;decide)
theorem Fc(Z:n<=14):∀d∈[D.int n,.int (-1),.bl c_,.non,.str "0",.tup [.int 0],.int (10 ^ 29)],Ap d/\fx n d=false:=fun d hd=>by
 simp only[gc,f_,or_false]at hd;rcases hd with rfl|rfl|rfl|rfl|rfl|rfl|rfl
 ·exact⟨rfl,by show(decide (0<=(n:Int)) && decide ((n:Int)<n))=dV;rw[Mn (Int.lt_irrefl _),OF]⟩
 ·exact⟨rfl,rfl⟩
 ·exact⟨rfl,rfl⟩
 ·exact⟨rfl,rfl⟩
 ·exact⟨rfl,rfl⟩
 ·exact⟨rfl,rfl⟩
 ·exact⟨rfl,by show(decide (0<=(10 ^ 29:Int)) && decide ((10 ^ 29:Int)<n))=dV;rw[Mn (show ¬ (10 ^ 29:Int)<n by omega),OF]⟩
theorem Di{ρ:aF}{e:TM}{m:Nat}(h:e ρ=a_ (.int m)):aR (bp (aa (mK (.int 12)) (aa e (aa (mK (.int 7)) au)))) ρ=a_ (.fz [.int 12,.int m,.int 7]):=things (bt (x:=.int 12) rfl (bt h (bt (e:=mK (.int 7)) (x:=.int 7) rfl (es:=au) rfl))) rfl (by show 3<=50;decide)
theorem Dj{S:aA}{k:Nat}{x4:Option D}(hs:eZ S k)(W:n<=14)(w:WebOk n E):∃y4 X Y y7 S1,jY [a0,a1,ar (.lst k),ar (aW n E),x4,x5,x6,x7,x8,x9] S=ar (.ok (.nx [a0,a1,ar (.lst k),ar (aW n E),y4,X,Y,y7,x8,x9]),S1)/\Kp k S S1/\S1.length=S.length:=by
 have hf:=w.few;have F:∀t∈E,t.length=2:=fun t T=>by obtain⟨x,y,rfl,_⟩:=w.el t T;rfl
 have C:cW dO (aY dD (mV 3) (mK (.int 1))) [a0,a1,ar (.lst k),ar (aW n E),x4,x5,x6,x7,x8,x9]=a_ (.int E.length):=(t4 (us:=E.map tupI) rfl).trans (by rw[LC])
 have Z:∀{e:TM} {ρ:aF},e ρ=a_ (aW n E)->aR (ay cf (aa e au)) ρ=a_ (aW E.length (dy E)):=fun{e ρ} h=>by
  unfold aR;rw[cz h];exact HK hf F
 have u:iW (fC xP (mV 4) (mK (.int 7))) (iW (fC ky (aR (tF [3] (au) lW aV)) (aR (bp (aa (mK (.int 12)) (aa (mV 4) (aa (mK (.int 7)) (au))))))) (bI (mK (.bl dV))) (dZ)) (iW (eh (bV (aR (ay bO (aa (aR (ay cn (aa (mV 3) (au)))) (aa (aR (ay cf (aa (mV 3) (au)))) (au))))))) (bI (mK (.bl dV))) (dZ)) [a0,a1,ar (.lst k),ar (aW n E),ar (.int E.length),x5,x6,x7,x8,x9]=a_ (.nx [a0,a1,ar (.lst k),ar (aW n E),ar (.int E.length),x5,x6,x7,x8,x9]):=by
  have z:fC xP (mV 4) (mK (.int 7)) [a0,a1,ar (.lst k),ar (aW n E),ar (.int E.length),x5,x6,x7,x8,x9]=a_ (decide (7<(E.length:Int))):=d9 (x:=.int E.length) (y:=.int 7) rfl rfl rfl;refine(di z).trans ?_;by_cases h:7<E.length
  ·rw[if_pos (L7 (by omega))]
   have O:=CQ (js:=[3]) (ρ:=[a0,a1,ar (.lst k),ar (aW n E),ar (.int E.length),x5,x6,x7,x8,x9]) (ds:=[aW n E]) (m:=lW) (R:=aV) rfl (yx ((cz rfl).trans (AC W w h))) AA;exact vI (d9 O (Di rfl) K3)
  ·rw[if_neg (by rw[M3];omega)]
   have hs:bO [aW E.length (dy E),aW E.length (dy E)]=a_ (.bl c_):=(by
    have Q:=Fb (E:=E) (by omega)
    exact Hu (by have:=Q.few;omega) fun t T=>by obtain⟨x,y,rfl,_⟩:=Q.el t T;exact(by decide:2<=1000))
   exact vI (nb (oE ((call2 (oE ((cz rfl).trans (FD W w (by omega)))) (Z rfl)).trans hs)))
 have P:iW (eh (bV (aR (ay bO (aa (aR (ay cL (aa (mV 3) (au)))) (aa (cW dO (aY dD (aR (ay cf (aa (mV 3) (au)))) (mK (.int 1)))) (au))))))) (bI (mK (.bl dV))) (dZ) [a0,a1,ar (.lst k),ar (aW n E),ar (.int E.length),x5,x6,x7,x8,x9]=a_ (.nx [a0,a1,ar (.lst k),ar (aW n E),ar (.int E.length),x5,x6,x7,x8,x9]):=by
  have L:cW dO (aY dD (aR (ay cf (aa (mV 3) (au)))) (mK (.int 1))) [a0,a1,ar (.lst k),ar (aW n E),ar (.int E.length),x5,x6,x7,x8,x9]=a_ (.int (dy E).length):=(t4 (us:=(dy E).map tupI) ((b9 (Z rfl) (y:=.int 1) rfl).trans rfl)).trans (by rw[LC])
  exact vI (nb (oE ((call2 (oE ((cz rfl).trans (E5 W w))) L).trans (same_int (k:=5)))))
 obtain⟨X,Y,I⟩:=Dg (its:=(ey n).map fun i:Nat=>D.int (i:Int)) (a0:=a0) (a1:=a1) (a2:=ar (.lst k)) (x7:=x7) (x8:=x8) (x9:=x9) W w (ey n) x5 x6 fun p A=>Ma.mp A;have U:lM (lL (aY dD (mV 3) (mK (.int 0)))) (gN 5) iS [a0,a1,ar (.lst k),ar (aW n E),ar (.int E.length),x5,x6,x7,x8,x9]=a_ (.nx [a0,a1,ar (.lst k),ar (aW n E),ar (.int E.length),X,Y,x7,x8,x9]):=by
  unfold lM;rw[show lL (aY dD (mV 3) (mK (.int 0))) [a0,a1,ar (.lst k),ar (aW n E),ar (.int E.length),x5,x6,x7,x8,x9]=_ from EY (n:=n) rfl (by omega),aj]
  exact I
 obtain⟨j,S1,K,N,v,k1,B⟩:=my (e1:=mV 2) (e2:=mK (.int 7)) (ρ:=[a0,a1,ar (.lst k),ar (aW n E),ar (.int E.length),X,Y,x7,x8,x9]) (m:=7) hs rfl rfl (by decide) (by decide)
 obtain⟨d,hd,G⟩:=yL (ds:=[D.int n,.int (-1),.bl c_,.non,.str "0",.tup [.int 0],.int (10 ^ 29)]) N v;obtain⟨H,J⟩:=Fc W d hd;have s:=CQ (js:=[3,7]) (ρ:=[a0,a1,ar (.lst k),ar (aW n E),ar (.int E.length),X,Y,ar d,x8,x9]) (ds:=[aW n E,d]) (m:=qk) (R:=aV) rfl (yx ((call2 rfl rfl).trans (E7 W w H J))) AD;refine⟨ar (.int E.length),X,Y,ar d,S1,?_,k1,B⟩;unfold jY;exact(Ms (bA (qo C)) S).trans ((Ms (bA u) S).trans ((Ms (bA P) S).trans ((Ms (bA U) S).trans ((aS (b7 ((g9 (Ms (Dh rfl) S) K).trans (Ms G S1)))).trans (Ms (vI (d9 s CP K2)) S1)))))
end
theorem HP{S:aA}{ns:List Int}{i:Nat}{o2 o3 o4 o5 o6 o7 o8 o9:Option D}:∃x2 x3 x4 x5 x6 x7 x8 x9 S1,iT [ar (.ro (ns.map D.int)),ar (.int i),o2,o3,o4,o5,o6,o7,o8,o9] S=ar (.ok (.nx [ar (.ro (ns.map D.int)),ar (.int i),x2,x3,x4,x5,x6,x7,x8,x9]),S1):=by
 obtain⟨_,_,H,xs,rfl,rfl,hs⟩:=EH (S:=S) (ns:=ns) (k:=i) (Q:=fun d v=>∃xs,d= .lst S.length/\v=S++[xs]/\eZ (S++[xs]) S.length) fun xs h=>⟨xs,rfl,rfl,h⟩;generalize S++[xs]=T0 at H hs;generalize S.length=k at H hs;obtain⟨X,T,A,e1,m1,q,k1,l1⟩:=CV (g:=7) (by decide) hs
 obtain⟨P,U,B,e2,m2,w2,k2,p⟩:=CV (g:=5) (by decide) k1.st
 obtain⟨Y,Z,R,t,_,j,w3,k3,u⟩:=CY k2.st;have b:aR (bp (aa (aR (ay cw (aa (mV 2) (aa (mK (.int 7)) (au))))) (aa (aR (ay cw (aa (mV 2) (aa (mK (.int 5)) (au))))) (aa (aR (ay bD (aa (mV 2) (au)))) (au))))) [ar (.ro (ns.map D.int)),ar (.int i),ar (.lst k),o3,o4,o5,o6,o7,o8,o9] T0=ar (.ok (.fz [aW X T,aW P U,aW Y Z]),R):=by
  refine tV (j5 (S1:=R) (ys:=[aW X T,aW P U,aW Y Z]) (dw (S1:=A) ?_ (dw (S1:=B) ?_ (dw (S1:=R) ?_ rfl))) ED) ((k1.trans k2).trans k3) (u.trans (p.trans l1)) ?_
  ·show ij (ay _ _ _) T0=_;rw[call2 (x:=.lst k) (y:=.int 7) rfl rfl];exact e1
  ·show ij (ay _ _ _) A=_;rw[call2 (x:=.lst k) (y:=.int 5) rfl rfl];exact e2
  ·show ij (ay _ _ _) B=_;rw[cz (x:=.lst k) rfl];exact t
  ·unfold bY bY bY bY;rw[nk,nk,nk];rfl
 obtain⟨n,w,p6,z,U1,f1,g1,_⟩:=Dj (a0:=ar (.ro (ns.map D.int))) (a1:=ar (.int i)) (x4:=o4) (x5:=o5) (x6:=o6) (x7:=o7) (x8:=o8) (x9:=o9) k3.st (by omega) q
 obtain⟨a,r,s,q7,U2,f2,g2,_⟩:=Dj (a0:=ar (.ro (ns.map D.int))) (a1:=ar (.int i)) (x4:=n) (x5:=w) (x6:=p6) (x7:=z) (x8:=o8) (x9:=o9) g1.st (by omega) w2
 obtain⟨L,K,N,O,C,l,g3,_⟩:=Dj (a0:=ar (.ro (ns.map D.int))) (a1:=ar (.int i)) (x4:=a) (x5:=r) (x6:=s) (x7:=q7) (x8:=o8) (x9:=o9) g2.st j w3;have e:hU ⟨[aW X T,aW P U,aW Y Z],.none⟩ (gN 3) jY [aW X T,aW P U,aW Y Z] [ar (.ro (ns.map D.int)),ar (.int i),ar (.lst k),o3,o4,o5,o6,o7,o8,o9] R=ar (.ok (.nx [ar (.ro (ns.map D.int)),ar (.int i),ar (.lst k),ar (aW Y Z),L,K,N,O,o8,o9]),C):=by
  rw[jw rfl f1,jw rfl f2,jw rfl l,jv];rfl
 obtain⟨d,F,f,J,I,k4,_⟩:=HF g3.st;have W:qc [([8],lZ),([8],l9),([8],mj)] [ar (.ro (ns.map D.int)),ar (.int i),ar (.lst k),ar (aW Y Z),L,K,N,O,ar d,none]=ar [lZ [ar d],l9 [ar d],mj [ar d]]:=rfl;obtain⟨o,m⟩:=Df (S:=F) W (fun c E=>by
  simp only[gc,f_,or_false]at E;rcases E with rfl|rfl|rfl
  ·exact yx ((cz rfl).trans (E8 J I))
  ·exact yx ((cz rfl).trans (AB J I))
  ·exact yx ((call2 rfl rfl).trans (Dc J I))) (by show 3<=50;decide)
 have G:eY (aR (bp (aa (aR (ay cw (aa (mV 2) (aa (mK (.int 7)) (au))))) (aa (aR (ay cw (aa (mV 2) (aa (mK (.int 5)) (au))))) (aa (aR (ay bD (aa (mV 2) (au)))) (au)))))) [ar (.ro (ns.map D.int)),ar (.int i),ar (.lst k),o3,o4,o5,o6,o7,o8,o9] T0=ar (.ok ⟨[aW X T,aW P U,aW Y Z],.none⟩,R):=by
  unfold eY;rw[aJ b];rfl
 refine⟨ar (.lst k),ar (aW Y Z),L,K,N,O,ar d,none,o,?_⟩;unfold iT;refine(aS (ρ':=[ar (.ro (ns.map D.int)),ar (.int i),ar (.lst k),o3,o4,o5,o6,o7,o8,o9]) (S1:=T0) (b7 (x:=.lst k) ?_)).trans ((aS (yI G e)).trans ((aS (ρ':=[ar (.ro (ns.map D.int)),ar (.int i),ar (.lst k),ar (aW Y Z),L,K,N,O,ar d,o9]) (S1:=F) (b7 (x:=d) ?_)).trans ?_))
 ·rw[call2 (x:=.ro (ns.map D.int)) (y:=.int i) rfl rfl];exact H
 ·show ij (ay _ _ _) C=_;rw[cz (x:=.lst k) rfl];exact f
 ·exact(aS ((CH m).trans (if_neg (by decide)))).trans rfl
theorem vK{its:List D}{ns:List Int}:∀(ts:List Nat) (o1 o2 o3 o4 o5 o6 o7 o8 o9:Option D) (S:aA),∃x1 Z Y x4 x5 x6 x7 x8 x9 S1,hU ⟨its,.none⟩ (gN 1) iT (ts.map fun i:Nat=>.int (0+(i:Int))) [ar (.ro (ns.map D.int)),o1,o2,o3,o4,o5,o6,o7,o8,o9] S=ar (.ok (.nx [ar (.ro (ns.map D.int)),x1,Z,Y,x4,x5,x6,x7,x8,x9]),S1)
 |[],o1,o2,o3,o4,o5,o6,o7,o8,o9,S=>⟨o1,o2,o3,o4,o5,o6,o7,o8,o9,S,by rw[Od,jv];rfl⟩
 |t::ts,o1,o2,o3,o4,o5,o6,o7,o8,o9,S=>by
  obtain⟨Z,Y,x4,x5,x6,x7,x8,x9,S1,h⟩:=HP (S:=S) (ns:=ns) (i:=t) (o2:=o2) (o3:=o3) (o4:=o4) (o5:=o5) (o6:=o6) (o7:=o7) (o8:=o8) (o9:=o9);obtain⟨R,W,N,L,Q,X,T,O,P,S2,U⟩:=vK (its:=its) (ns:=ns) ts (ar (.int t)) Z Y x4 x5 x6 x7 x8 x9 S1;refine⟨R,W,N,L,Q,X,T,O,P,S2,?_⟩;rw[LZ,Of];exact(jw rfl h).trans U
theorem JN:kN (aW 0 []) (.tup [.int 0,.tup []])=a_ (.bl c_):=bZ fun S=>by
 unfold kN;exact(fN (p:=.tuple [.int 0,.tuple []]) (q:=.tuple [.int 0,.tuple []]) rfl rfl).mpr ⟨by simp[i2,p8],rfl⟩
theorem JO{m:Nat}(Y:m<=14){ρ:aF}:aY kN (aR (ay cn (aa (mK (.tup [.int m,.tup []])) au))) (mK (.tup [.int 0,.tup []])) ρ=a_ (.bl c_):=by
 have w:WebOk m ([]:List (List Int)):=⟨(fun t Z=>by cases Z),.nil,L6 _⟩
 exact(b9 (oE ((cz (x:=aW m []) rfl).trans (FD Y w (L6 _)))) rfl).trans JN
theorem JP{S:aA}{ns:List Int}:runs (rV [.ro (ns.map D.int)]) S (fun d _=>d= .bl c_):=by
 have hm:ay minD (aa (cW dO (mV 0)) (aa (mK (.int 8)) au)) [ar (.ro (ns.map D.int)),none,none,none,none,none,none,none,none,none]=a_ (.int (if (8:Int)<(ns.map D.int).length then 8 else (ns.map D.int).length)):=(call2 (x:=.int (ns.map D.int).length) (y:=.int 8) rfl rfl).trans rfl;have Z:ay maxD (aa (mK (.int 1)) (aa (ay minD (aa (cW dO (mV 0)) (aa (mK (.int 8)) au))) au)) [ar (.ro (ns.map D.int)),none,none,none,none,none,none,none,none,none]=a_ (.int (if (if (8:Int)<(ns.map D.int).length then (8:Int)else (ns.map D.int).length)>1 then (if (8:Int)<(ns.map D.int).length then 8 else (ns.map D.int).length)else 1)):=(call2 (x:=.int 1) rfl hm).trans rfl;generalize hn:(if (if (8:Int)<(ns.map D.int).length then (8:Int)else (ns.map D.int).length)>1 then (if (8:Int)<(ns.map D.int).length then (8:Int)else (ns.map D.int).length)else 1)=n at Z;have Y:n<=8:=by rw[<-hn];split<;>split<;>omega
 have W:1<=n:=by rw[<-hn];split<;>split<;>omega
 have X:=(qm Z).trans (Ao (by omega))
 obtain⟨R,U,T,x4,x5,x6,x7,x8,x9,S1,hf⟩:=vK (its:=aU 0 n.toNat) (ns:=ns) (ey n.toNat) none none none none none none none none none S;refine⟨.bl c_,S1,fJ (o:=.ret (.bl c_)) ?_ rfl,rfl⟩;unfold CC;exact(aS (tN X hf)).trans (Ms (eU (and_eq (b:=c_) (y:=.bl c_) (JO (m:=0) (by decide)) (fun _=>JO (m:=14) (by decide)) (fun z=>by cases z))) S1)
def top(i:Nat):Stmt:=PySem.Challenge.pw_tiewebs_k04_tie_webs.main.body.getD i (.Pass ⟨0,0,0,0⟩)
structure Txt(K:d_)(mg:Str->Option aC):Prop where
 err:fV K=c_
 dk:Es K=c_
 b_ValueError:mg "ValueError"=none
 b_all:mg "all"=none
 b_any:mg "any"=none
 b_bool:mg "bool"=none
 b_enumerate:mg "enumerate"=none
 b_int:mg "int"=none
 b_isinstance:mg "isinstance"=none
 b_len:mg "len"=none
 b_list:mg "list"=none
 b_max:mg "max"=none
 b_min:mg "min"=none
 b_range:mg "range"=none
 b_set:mg "set"=none
 b_sorted:mg "sorted"=none
 b_sum:mg "sum"=none
 b_tuple:mg "tuple"=none
 b_zip:mg "zip"=none
 g_MOST_PLACES:∃t,mg "MOST_PLACES"=ar (.int 14 t)
 g_MOST_TIES:∃t,mg "MOST_TIES"=ar (.int 7 t)
theorem vL:FnScope ["thing"] ["thing"] (ao (top 17)):=⟨rfl,rfl,rfl,by decide+kernel,rfl,by decide+kernel,by decide+kernel⟩
theorem xu:FnScope ["thing"] ["thing"] (ao (top 18)):=⟨rfl,rfl,rfl,by decide+kernel,rfl,by decide+kernel,by decide+kernel⟩
theorem t5:FnScope ["things"] ["things"] (ao (top 21)):=⟨rfl,rfl,rfl,by decide+kernel,rfl,by decide+kernel,by decide+kernel⟩
theorem vM:FnScope ["many"] ["many"] (ao (top 25)):=⟨rfl,rfl,rfl,by decide+kernel,rfl,by decide+kernel,by decide+kernel⟩
theorem t6:FnScope ["one","other"] ["one","other"] (ao (top 29)):=⟨rfl,rfl,rfl,by decide+kernel,rfl,by decide+kernel,by decide+kernel⟩
theorem n5:FnScope ["_law_script","_law_k"] ["_law_script","_law_k"] (ao (top 35)):=⟨rfl,rfl,rfl,by decide+kernel,rfl,by decide+kernel,by decide+kernel⟩
theorem gv:FnScope ["_law_state_here","_law_many","_law_found","_law_stirred"] ["_law_state_here","_law_many"] (ao (top 37)):=⟨rfl,rfl,rfl,by decide+kernel,rfl,by decide+kernel,by decide+kernel⟩
theorem iD:FnScope ["_law_many","_law_found","_law_a"] ["_law_many"] (ao (top 38)):=⟨rfl,rfl,rfl,by decide+kernel,rfl,by decide+kernel,by decide+kernel⟩
theorem gw:FnScope ["_law_web_here","_law_ties","_law_found","_law_a"] ["_law_web_here"] (ao (top 42)):=⟨rfl,rfl,rfl,by decide+kernel,rfl,by decide+kernel,by decide+kernel⟩
theorem vN:FnScope ["many","thing"] ["many","thing"] (ao (top 19)):=⟨rfl,rfl,rfl,by decide+kernel,rfl,by decide+kernel,by decide+kernel⟩
theorem kD:FnScope ["_law_script","_law_k","_law_cell"] ["_law_script","_law_k"] (ao (top 36)):=⟨rfl,rfl,rfl,by decide+kernel,rfl,by decide+kernel,by decide+kernel⟩
theorem fA:FnScope ["_law_state_here","_law_things","_law_left","_law_found"] ["_law_state_here","_law_things"] (ao (top 39)):=⟨rfl,rfl,rfl,by decide+kernel,rfl,by decide+kernel,by decide+kernel⟩
theorem bW:FnScope ["_law_state_here","_law_many","_law_ties","_law_turn","_law_one","_law_other"] ["_law_state_here"] (ao (top 41)):=⟨rfl,rfl,rfl,by decide+kernel,rfl,by decide+kernel,by decide+kernel⟩
theorem jF:FnScope ["_law_state_here","_law_some"] ["_law_state_here"] (ao (top 43)):=⟨rfl,rfl,rfl,by decide+kernel,rfl,by decide+kernel,by decide+kernel⟩
theorem nz:FnScope ["many","thing","low","high"] ["many","thing"] (ao (top 20)):=⟨rfl,rfl,rfl,by decide+kernel,rfl,by decide+kernel,by decide+kernel⟩
theorem cN:FnScope ["_law_state_here","_law_most","_law_many","_law_way","_law_ties","_law_row","_law_at","_law_odd"] ["_law_state_here","_law_most"] (ao (top 40)):=⟨rfl,rfl,rfl,by decide+kernel,rfl,by decide+kernel,by decide+kernel⟩
theorem nA:FnScope ["thing","many","ties"] ["thing"] (ao (top 22)):=⟨rfl,rfl,rfl,by decide+kernel,rfl,by decide+kernel,by decide+kernel⟩
theorem vO:FnScope ["thing"] ["thing"] (ao (top 23)):=⟨rfl,rfl,rfl,by decide+kernel,rfl,by decide+kernel,by decide+kernel⟩
theorem qS:FnScope ["web","place"] ["web","place"] (ao (top 24)):=⟨rfl,rfl,rfl,by decide+kernel,rfl,by decide+kernel,by decide+kernel⟩
theorem kY:FnScope ["web","many","ties"] ["web"] (ao (top 26)):=⟨rfl,rfl,rfl,by decide+kernel,rfl,by decide+kernel,by decide+kernel⟩
theorem nB:FnScope ["web"] ["web"] (ao (top 30)):=⟨rfl,rfl,rfl,by decide+kernel,rfl,by decide+kernel,by decide+kernel⟩
theorem kZ:FnScope ["web","ties","many"] ["web"] (ao (top 31)):=⟨rfl,rfl,rfl,by decide+kernel,rfl,by decide+kernel,by decide+kernel⟩
theorem xv:FnScope ["web","place"] ["web","place"] (ao (top 32)):=⟨rfl,rfl,rfl,by decide+kernel,rfl,by decide+kernel,by decide+kernel⟩
theorem qT:FnScope ["web"] ["web"] (ao (top 33)):=⟨rfl,rfl,rfl,by decide+kernel,rfl,by decide+kernel,by decide+kernel⟩
theorem t7:FnScope ["_law_found","_law_due"] ["_law_found","_law_due"] (ao (top 44)):=⟨rfl,rfl,rfl,by decide+kernel,rfl,by decide+kernel,by decide+kernel⟩
theorem bG:FnScope ["_law_call","_law_error","e","_law_marks","_law_found"] ["_law_call"] (ao (top 45)):=⟨rfl,rfl,rfl,by decide+kernel,rfl,by decide+kernel,by decide+kernel⟩
theorem iE:FnScope ["_law_script","_law_k","_law_state_here","_law_web_here","_law_many","_law_place","_law_due","_law_none","_law_bad","_law_calls"] ["_law_script"] (ao (top 46)):=⟨rfl,rfl,rfl,by decide+kernel,rfl,by decide+kernel,by decide+kernel⟩
section
variable {P:e_}{w:f'}{K:d_}{mg:Str->Option aC}{base:gd}
theorem vP{f:dt}{X:g_}(F:Fun K "is_whole" "is_whole" (top 17) f X)(Z:mg "is_whole"=ar (.ref f))(T:Txt K mg):DefX P w K mg base 1 "is_whole" ["thing"] cu:=
 cy (m:=qe) F Z (F.binds fun _ _ _ _ _ _ us U=>match us,U with|[_],_=>rfl) vL rfl fun Y A outer s H E S=>
  aQ (bc (jN (iu (Ts:="int") T.b_isinstance T.b_int (ae 0)) (kJ (Gv (iu (Ts:="bool") T.b_isinstance T.b_bool (ae 0))))))
end
section
variable {P:e_}{w:f'}{K:d_}{mg:Str->Option aC}{base:gd}
theorem xw{f:dt}{U:g_}(F:Fun K "is_pair" "is_pair" (top 18) f U)(Y:mg "is_pair"=ar (.ref f))(T:Txt K mg):DefX P w K mg base 1 "is_pair" ["thing"] cZ:=
 cy (m:=rR) F Y (F.binds fun _ _ _ _ _ _ us S=>match us,S with|[_],_=>rfl) xu rfl fun X A outer s H E Z=>
  aQ (bc (jN (iu (Ts:="tuple") T.b_isinstance T.b_tuple (ae 0)) (kJ (uA (ia Z) (eS T.b_len (ae 0)) (aw)))))
end
section
variable {P:e_}{w:f'}{K:d_}{mg:Str->Option aC}{base:gd}
theorem t8{f:dt}{S:g_}(F:Fun K "is_rising" "is_rising" (top 21) f S)(X:mg "is_rising"=ar (.ref f))(T:Txt K mg):DefX P w K mg base 1 "is_rising" ["things"] eX:=
 cy (m:=nP) F X (F.binds fun _ _ _ _ _ _ us Y=>match us,Y with|[_],_=>rfl) t5 rfl fun U A outer s H E Z=>
  aQ (bc (wC rfl T.b_all (aO (dF (t:=gM) (m:=gO) (jI (Nc:=["ahead","behind"]) (js:=[none,none]) (ao (top 21)) ["things"] (fun _=>rfl) rfl (by decide+kernel)) rfl (yi T.b_zip (ae 0) (aO (Bv (ae 0) (DR (aw)) (DQ)))) (fun C ex s2 R=>⟨kK rfl (cG (aZ 0 (show(["ahead","behind"]:List Str).Nodup by decide+kernel)) (cG (aZ 1 (show(["ahead","behind"]:List Str).Nodup by decide+kernel)) (i5))),fL,Fl (HW Z) (ae 0) (ae 1)⟩)))))
end
section
variable {P:e_}{w:f'}{K:d_}{mg:Str->Option aC}{base:gd}
theorem vQ{f:dt}{U:g_}(F:Fun K "pairs_of" "pairs_of" (top 25) f U)(Y:mg "pairs_of"=ar (.ref f))(T:Txt K mg):DefX P w K mg base 1 "pairs_of" ["many"] du:=
 cy (m:=qf) F Y (F.binds fun _ _ _ _ _ _ us Z=>match us,Z with|[_],_=>rfl) vM rfl fun X A outer s H E S=>
  aQ (bc (aO (Cm (t:=eA) (t2:=cO) (m:=bK) (jI (Nc:=["low","high","many"]) (js:=[none,none,ar 0]) (ao (top 25)) ["many"] (fun _=>rfl) rfl (by decide+kernel)) rfl (dW T.b_range (ae 0)) (fun C ex s2 R=>⟨aZ 0 (show(["low","high","many"]:List Str).Nodup by decide+kernel),fL,kg T.b_range (dM (ae 0) (aw)) (ae 2),aZ 1 (show(["low","high","many"]:List Str).Nodup by decide+kernel),fL,fE (af (ae 0) (af (ae 1) (aq) az) az)⟩))))
end
section
variable {P:e_}{w:f'}{K:d_}{mg:Str->Option aC}{base:gd}
theorem t9{f:dt}{S:g_}(F:Fun K "ties_meet" "ties_meet" (top 29) f S)(X:mg "ties_meet"=ar (.ref f))(T:Txt K mg):DefX P w K mg base 1 "ties_meet" ["one","other"] fX:=
 cy (m:=nQ) F X (F.binds fun _ _ _ _ _ _ us Y=>match us,Y with|[_,_],_=>rfl) t6 rfl fun U A outer s H E Z=>
  aQ (bc (Hg rfl T.b_any (aO (dF (t:=gQ) (m:=gR) (jI (Nc:=["place","other"]) (js:=[none,ar 1]) (ao (top 29)) ["one","other"] (fun _=>rfl) rfl (by decide+kernel)) rfl (i7 (ae 0)) (fun C ex s2 R=>⟨aZ 0 (show(["place","other"]:List Str).Nodup by decide+kernel),fL,Bs (ia Z) (ae 0) (ae 1)⟩)))))
end
section
variable {P:e_}{w:f'}{K:d_}{mg:Str->Option aC}{base:gd}
theorem n6{f:dt}{U:g_}(F:Fun K "_law_cell_at" "_law_cell_at" (top 35) f U)(Y:mg "_law_cell_at"=ar (.ref f))(T:Txt K mg):DefX P w K mg base 1 "_law_cell_at" ["_law_script","_law_k"] c8:=
 cy (m:=jW) F Y (F.binds fun _ _ _ _ _ _ us S=>match us,S with|[_,_],_=>rfl) n5 rfl fun X A outer s H E Z=>
  aD (ef (Bk (HW Z) (ae 1) (eS T.b_len (ae 0))) (aQ (bc (a8 (ae 0) (ae 1)))) (cA)) (aQ (bc (aw)))
end
section
variable {P:e_}{w:f'}{K:d_}{mg:Str->Option aC}{base:gd}
theorem ua{f:dt}{X:g_}(F:Fun K "_law_take" "_law_take" (top 37) f X)(Z:mg "_law_take"=ar (.ref f))(T:Txt K mg):DefX P w K mg base 1 "_law_take" ["_law_state_here","_law_many"] aL:=
 cy (m:=nR) F Z (F.binds fun _ _ _ _ _ _ us U=>match us,U with|[_,_],_=>rfl) gv rfl fun Y A outer s H E S=>
  aD (ef (fh (a8 (ae 0) (aw))) (aD (bu 2 gv.nd (jT (a8 (ae 0) (aw)) (ae 1)) (hs:=ez)) (aD (pC (om (a8 (ae 0) (aw)) (ae 1)) (xU (ae 0) (aw))) (aQ (bc (ae 2))))) (cA)) (aD (pC (jT (dM (mM (a8 (ae 0) (aw)) (aw)) (aw)) (aw)) (xU (ae 0) (aw))) (aD (bu 3 gv.nd (jT (dM (dM (mM (a8 (ae 0) (aw)) (a8 (ae 0) (aw))) (mM (aw) (a8 (ae 0) (aw)))) (aw)) (aw)) (hs:=ez)) (aD (bu 3 gv.nd (jT (dM (mM (ae 3) (ae 3)) (mM (aw) (ae 3))) (aw)) (hs:=ez)) (aQ (bc (jT (om (ae 3) (aw)) (ae 1)))))))
end
section
variable {P:e_}{w:f'}{K:d_}{mg:Str->Option aC}{base:gd}
theorem qU{f:dt}{U:g_}(F:Fun K "_law_pairs" "_law_pairs" (top 38) f U)(Y:mg "_law_pairs"=ar (.ref f))(T:Txt K mg):DefX P w K mg base 1 "_law_pairs" ["_law_many"] bg:=
 cy (m:=lR) F Y (F.binds fun _ _ _ _ _ _ us Z=>match us,Z with|[_],_=>rfl) iD rfl fun X A outer s H E S=>
  aD (bu 1 iD.nd (bC (aq)) (hs:=je)) (aD (kL (b:=gf) Ng rfl (dW T.b_range (ae 0)) (aZ 2 iD.nd) (aQ (eL (rC (ae 1) (aO (dF (t:=eM) (m:=eN) (jI (Nc:=["_law_b","_law_a"]) (js:=[none,ar 2]) (ao (top 38)) ["_law_many","_law_found","_law_a"] (fun _=>rfl) rfl (by decide+kernel)) rfl (kg T.b_range (dM (ae 2) (aw)) (ae 0)) (fun C ex s2 R=>⟨aZ 0 (show(["_law_b","_law_a"]:List Str).Nodup by decide+kernel),fL,fE (af (ae 1) (af (ae 0) (aq) az) az)⟩))))))) (aQ (bc (ae 1))))
end
section
variable {P:e_}{w:f'}{K:d_}{mg:Str->Option aC}{base:gd}
theorem ub{f:dt}{S:g_}(F:Fun K "_law_made" "_law_made" (top 42) f S)(X:mg "_law_made"=ar (.ref f))(T:Txt K mg):DefX P w K mg base 1 "_law_made" ["_law_web_here"] cf:=
 cy (m:=nS) F X (F.binds fun _ _ _ _ _ _ us Y=>match us,Y with|[_],_=>rfl) gw rfl fun U A outer s H E Z=>
  aD (bu 1 gw.nd (a8 (ae 0) (aw)) (hs:=jf)) (aD (bu 2 gw.nd (bC (aq)) (hs:=je)) (aD (kL (b:=gU) Ng rfl (dW T.b_range (eS T.b_len (ae 1))) (aZ 3 gw.nd) (aQ (eL (rC (ae 2) (aO (dF (t:=gS) (m:=gT) (jI (Nc:=["_law_b","_law_ties","_law_a"]) (js:=[none,ar 1,ar 3]) (ao (top 42)) ["_law_web_here","_law_ties","_law_found","_law_a"] (fun _=>rfl) rfl (by decide+kernel)) rfl (kg T.b_range (dM (ae 3) (aw)) (eS T.b_len (ae 1))) (fun C ex s2 R=>⟨aZ 0 (show(["_law_b","_law_ties","_law_a"]:List Str).Nodup by decide+kernel),gj (Bk (HW Z) (Aa rfl T.b_len T.b_set (aO (dM (a8 (ae 1) (ae 2)) (a8 (ae 1) (ae 0))))) (aw)),fE (af (ae 2) (af (ae 0) (aq) az) az)⟩))))))) (aQ (bc (fE (af (eS T.b_len (ae 1)) (af (fS T.b_tuple (ae 2)) (aq) ba) ba))))))
end
section
variable {P:e_}{w:f'}{K:d_}{mg:Str->Option aC}{base:gd}
theorem vR{f:dt}{S:g_}(F:Fun K "is_place" "is_place" (top 19) f S)(X:mg "is_place"=ar (.ref f))(T:Txt K mg)(Z:DefX P w K mg base 1 "is_whole" ["thing"] cu):DefX P w K mg base 2 "is_place" ["many","thing"] cQ:=
 cy (m:=qg) F X (F.binds fun _ _ _ _ _ _ us R=>match us,R with|[_,_],_=>rfl) vN rfl fun U A outer s H E Y=>
  aQ (bc (jN (aP Z (Y.mono (by decide)) (af (ae 1) (aq) az)) (kJ (Bl AV (AU.or (wc (HW Y))) (kd fun _ _ _ _=>.bl _) wx (aw) (ae 1) (ae 0)))))
end
section
variable {P:e_}{w:f'}{K:d_}{mg:Str->Option aC}{base:gd}
theorem qV{f:dt}{S:g_}(F:Fun K "_law_state" "_law_state" (top 36) f S)(X:mg "_law_state"=ar (.ref f))(T:Txt K mg)(Z:DefX P w K mg base 1 "_law_cell_at" ["_law_script","_law_k"] c8):DefX P w K mg base 2 "_law_state" ["_law_script","_law_k"] fq:=
 cy (m:=lS) F X (F.binds fun _ _ _ _ _ _ us R=>match us,R with|[_,_],_=>rfl) kD rfl fun U A outer s H E Y=>
  aD (bu 2 kD.nd (aP Z (Y.mono (by decide)) (af (ae 0) (af (ae 1) (aq) az) az)) (hs:=fj)) (aD (ef (IX (ae 2) (wu (aw) (aw))) (aQ (bc (bC (af (jS (ae 2) (wu (aw) (aw))) (af (gh) (aq) av) fU)))) (cA)) (aQ (bc (bC (af (jT (ae 2) (aw)) (af (gh) (aq) av) fU)))))
end
section
variable {P:e_}{w:f'}{K:d_}{mg:Str->Option aC}{base:gd}
theorem mB{f:dt}{S:g_}(F:Fun K "_law_mixed_row" "_law_mixed_row" (top 39) f S)(X:mg "_law_mixed_row"=ar (.ref f))(T:Txt K mg)(Z:DefX P w K mg base 1 "_law_take" ["_law_state_here","_law_many"] aL):DefX P w K mg base 2 "_law_mixed_row" ["_law_state_here","_law_things"] cm:=
 cy (m:=d5) F X (F.binds fun _ _ _ _ _ _ us R=>match us,R with|[_,_],_=>rfl) fA rfl fun U A outer s H E Y=>
  aD (bu 2 fA.nd (DT T.b_list (ae 1)) (hs:=fj)) (aD (bu 3 fA.nd (bC (aq)) (hs:=je)) (aD (Bi (b:=b8) 64 Ng (pE (ia Y) (ae 2) (aO (bC (aq)))) (aQ (eL (iN (ae 3) (BC (ae 2) (aO (aP Z (Y.mono (by decide)) (af (ae 0) (af (eS T.b_len (ae 2)) (aq) ba) az)))))))) (aQ (bc (ae 3)))))
end
section
variable {P:e_}{w:f'}{K:d_}{mg:Str->Option aC}{base:gd}
theorem mC{f:dt}{S:g_}(F:Fun K "_law_great_web" "_law_great_web" (top 41) f S)(X:mg "_law_great_web"=ar (.ref f))(T:Txt K mg)(Z:DefX P w K mg base 1 "_law_take" ["_law_state_here","_law_many"] aL):DefX P w K mg base 2 "_law_great_web" ["_law_state_here"] bD:=
 cy (m:=d6) F X (F.binds fun _ _ _ _ _ _ us R=>match us,R with|[_],_=>rfl) bW rfl fun U A outer s H E Y=>
  aD (bu 1 bW.nd (dM (aw) (aO (aP Z (Y.mono (by decide)) (af (ae 0) (af (aw) (aq) av) az)))) (hs:=ez)) (aD (bu 2 bW.nd (bC (aq)) (hs:=je)) (aD (kL (b:=d8) Ng rfl (dW T.b_range (aO (aP Z (Y.mono (by decide)) (af (ae 0) (af (aw) (aq) av) az)))) (aZ 3 bW.nd) (aD (bu 4 bW.nd (aO (aP Z (Y.mono (by decide)) (af (ae 0) (af (ae 1) (aq) az) az))) (hs:=fj)) (aD (bu 5 bW.nd (jT (dM (dM (ae 4) (aw)) (aO (aP Z (Y.mono (by decide)) (af (ae 0) (af (jS (ae 1) (aw)) (aq) fU) az)))) (ae 1)) (hs:=ez)) (aQ (eL (iN (ae 2) (fE (af (Bw rfl T.b_min (af (ae 4) (af (ae 5) (aq) az) az)) (af (wA rfl T.b_max (af (ae 4) (af (ae 5) (aq) az) az)) (aq) ba) ba)))))))) (aQ (bc (fE (af (ae 1) (af (fS T.b_tuple (aO (td rfl (Lu Y) T.b_sorted T.b_set (ae 2)))) (aq) ba) az))))))
end
section
variable {P:e_}{w:f'}{K:d_}{mg:Str->Option aC}{base:gd}
theorem n8{f:dt}{O:g_}(F:Fun K "_law_bad_web" "_law_bad_web" (top 43) f O)(Q:mg "_law_bad_web"=ar (.ref f))(T:Txt K mg)(Z:DefX P w K mg base 1 "_law_take" ["_law_state_here","_law_many"] aL):DefX P w K mg base 2 "_law_bad_web" ["_law_state_here"] dP:=by
 refine cy (m:=ft) F Q (F.binds fun _ _ _ _ _ _ us R=>match us,R with|[_],_=>rfl) jF rfl fun Y A outer s H E S=>?_
 have key:∀e pos pos' X,SE (jH (kz P w) P w K mg base ["_law_state_here","_law_some"] "_law_bad_web" (ao (top 43)) f Y A outer s H E).nox bx e X->k7 e (ar (.Name "_law_some" pos')) pos.line (jH (kz P w) P w K mg base ["_law_state_here","_law_some"] "_law_bad_web" (ao (top 43)) f Y A outer s H E).nox.env=a_ dV->SS (jH (kz P w) P w K mg base ["_law_state_here","_law_some"] "_law_bad_web" (ao (top 43)) f Y A outer s H E).nox bx (.Assign [.Name "_law_some" pos'] e pos) (bF 1 X):=fun e pos pos' X h hs=>bu 1 jF.nd h (hs:=hs);have U:∀pos,SE (jH (kz P w) P w K mg base ["_law_state_here","_law_some"] "_law_bad_web" (ao (top 43)) f Y A outer s H E).nox bx (.Name "_law_some" pos) (mV 1):=fun pos=>ae 1;refine aD ?_ ?_
 ·with_reducible refine key _ _ _ _ ?_ je
  with_reducible refine bC ?_
  with_reducible refine aN (kH) ?_ av
  with_reducible refine aN (aw) ?_ av
  with_reducible refine aN (cb 6 ?_) ?_ bf
  case refine_1=>rfl
  with_reducible refine aN (cb 6 ?_) ?_ bf
  case refine_1=>rfl
  with_reducible refine aN (cb 6 ?_) ?_ bf
  case refine_1=>rfl
  with_reducible refine aN (cb 6 ?_) ?_ bf
  case refine_1=>rfl
  with_reducible refine aN ?_ ?_ bf
  case refine_1=>exact(fE (af (aw) (af (bC (aq)) (aq) oA) av))
  with_reducible refine aN ?_ ?_ oA
  case refine_1=>exact(bC (af (aw) (af (cb 6 rfl) (aq) bf) av))
  with_reducible refine aN (cb 6 ?_) ?_ bf
  case refine_1=>rfl
  with_reducible refine aN (cb 6 ?_) ?_ bf
  case refine_1=>rfl
  with_reducible refine aN (GF) ?_ D7
  with_reducible refine aN (mJ) ?_ av
  exact aq
 refine aD ?_ ?_
 ·with_reducible refine key _ _ _ _ ?_ ez
  with_reducible refine dM (U _) ?_
  with_reducible refine bC ?_
  with_reducible refine aN (cb 6 ?_) ?_ bf
  case refine_1=>rfl
  with_reducible refine aN (cb 6 ?_) ?_ bf
  case refine_1=>rfl
  with_reducible refine aN (cb 6 ?_) ?_ bf
  case refine_1=>rfl
  with_reducible refine aN (cb 6 ?_) ?_ bf
  case refine_1=>rfl
  with_reducible refine aN (cb 6 ?_) ?_ bf
  case refine_1=>rfl
  exact aq
 refine aD ?_ ?_
 ·with_reducible refine key _ _ _ _ ?_ ez
  with_reducible refine dM (U _) ?_
  with_reducible refine bC ?_
  with_reducible refine aN (cb 6 ?_) ?_ bf
  case refine_1=>rfl
  with_reducible refine aN (cb 6 ?_) ?_ bf
  case refine_1=>rfl
  with_reducible refine aN (cb 6 ?_) ?_ bf
  case refine_1=>rfl
  with_reducible refine aN (cb 6 ?_) ?_ bf
  case refine_1=>rfl
  with_reducible refine aN ?_ ?_ bf
  case refine_1=>exact(fE (af (aw) (af (fE (af (bC (af (aw) (af (aw) (aq) av) av)) (aq) oA)) (aq) bf) av))
  with_reducible refine aN (cb 6 ?_) ?_ bf
  case refine_1=>rfl
  with_reducible refine aN (cb 6 ?_) ?_ bf
  case refine_1=>rfl
  with_reducible refine aN (cb 6 ?_) ?_ bf
  case refine_1=>rfl
  exact aq
 exact(aQ (bc (a8 (ae 1) (aP Z (S.mono (by decide)) (af (ae 0) (af (aw) (aq) av) az)))))
end
section
variable {P:e_}{w:f'}{K:d_}{mg:Str->Option aC}{base:gd}
theorem AE{f:dt}{R:g_}(F:Fun K "is_tie" "is_tie" (top 20) f R)(U:mg "is_tie"=ar (.ref f))(T:Txt K mg)(Y:DefX P w K mg base 1 "is_pair" ["thing"] cZ)(Z:DefX P w K mg base 2 "is_place" ["many","thing"] cQ):DefX P w K mg base 3 "is_tie" ["many","thing"] jX:=
 cy (m:=qh) F U (F.binds fun _ _ _ _ _ _ us Q=>match us,Q with|[_,_],_=>rfl) nz rfl fun S A outer s H E X=>
  aD (ef (gD (fh (aP Y (X.mono (by decide)) (af (ae 1) (aq) az)))) (aQ (bc (gh))) (cA)) (aD (pC (ae 1) (kK rfl (cG (aZ 2 nz.nd) (cG (aZ 3 nz.nd) (i5))))) (aQ (bc (jN (aP Z (X.mono (by decide)) (af (ae 0) (af (ae 2) (aq) az) az)) (jN (aP Z (X.mono (by decide)) (af (ae 0) (af (ae 3) (aq) az) az)) (kJ (Fl (HW X) (ae 2) (ae 3))))))))
end
section
variable {P:e_}{w:f'}{K:d_}{mg:Str->Option aC}{base:gd}
theorem vS{f:dt}{N:g_}(F:Fun K "_law_web" "_law_web" (top 40) f N)(Q:mg "_law_web"=ar (.ref f))(T:Txt K mg)(Z:DefX P w K mg base 1 "_law_take" ["_law_state_here","_law_many"] aL)(Y:DefX P w K mg base 1 "_law_pairs" ["_law_many"] bg)(X:DefX P w K mg base 2 "_law_mixed_row" ["_law_state_here","_law_things"] cm):DefX P w K mg base 3 "_law_web" ["_law_state_here","_law_most"] cw:=
 cy (m:=jk) F Q (F.binds fun _ _ _ _ _ _ us R=>match us,R with|[_,_],_=>rfl) cN rfl fun O A outer s H E U=>
  aD (bu 2 cN.nd (wA rfl T.b_max (af (aw) (af (jS (ae 1) (a8 (aO (bC (by (refine aN (aw) ?_ av;refine aN (aw) ?_ av;refine aN (aw) ?_ av;refine aN (aw) ?_ av;refine aN (aw) ?_ av;refine aN (aw) ?_ av;refine aN (aw) ?_ av;refine aN (ae 1) ?_ az;exact aq)))) (aO (aP Z (U.mono (by decide)) (af (ae 0) (af (aw) (aq) av) az))))) (aq) fU) av)) (hs:=fj)) (aD (bu 3 cN.nd (aO (aP Z (U.mono (by decide)) (af (ae 0) (af (aw) (aq) av) az))) (hs:=fj)) (aD (bu 4 cN.nd (dF (t:=iy) (m:=iz) (jI (Nc:=["_law_tie","_law_state_here","_law_way"]) (js:=[none,ar 0,ar 3]) (ao (top 40)) ["_law_state_here","_law_most","_law_many","_law_way","_law_ties","_law_row","_law_at","_law_odd"] (fun _=>rfl) rfl (by decide+kernel)) rfl (i7 (aO (aP Y (U.mono (by decide)) (af (ae 2) (aq) az)))) (fun C ex s2 S=>⟨aZ 0 (show(["_law_tie","_law_state_here","_law_way"]:List Str).Nodup by decide+kernel),gj (Bk (HW U) (aO (aP Z (U.mono (by decide)) (af (ae 1) (af (aw) (aq) av) az))) (a8 (aO (bC (af (aw) (af (aw) (af (aw) (aq) av) av) av))) (jT (ae 2) (aw)))),ae 0⟩))) (aD (bu 5 cN.nd (aO (aP X (U.mono (by decide)) (af (ae 0) (af (aO (sQ rfl T.b_list T.b_range (ae 2))) (aq) ba) az))) (hs:=fj)) (aD (ef (xQ (ae 3) (aw)) (aD (bu 4 cN.nd (bC (aq)) (hs:=je)) (aD (kL (b:=fP) Ng rfl (kg T.b_range (aw) (ae 2)) (aZ 6 cN.nd) (aQ (eL (iN (ae 4) (fS T.b_tuple (aO (mT T.b_sorted (aO (bC (af (a8 (ae 5) (ae 6)) (af (a8 (ae 5) (a8 (aO (bC (by (refine aN (jS (ae 6) (aw)) ?_ fU;refine aN (jS (ae 6) (aw)) ?_ fU;refine aN (aw) ?_ av;refine aN (om (ae 6) (aw)) ?_ fU;exact aq)))) (jS (ae 3) (aw)))) (aq) cJ) cJ)))))))))) (aD (ef (Gx (Gw (Bq (ia U) (ae 3) (aw)) (DO (xQ (ae 2) (aw))))) (aQ (eL (iN (ae 4) (fS T.b_tuple (aO (mT T.b_sorted (aO (bC (af (a8 (ae 5) (aw)) (af (a8 (ae 5) (jS (ae 2) (aw))) (aq) cJ) cJ))))))))) (cA)) (aD (bu 7 cN.nd (aO (dF (t:=eB) (m:=eE) (jI (Nc:=["_law_tie","_law_state_here"]) (js:=[none,ar 0]) (ao (top 40)) ["_law_state_here","_law_most","_law_many","_law_way","_law_ties","_law_row","_law_at","_law_odd"] (fun _=>rfl) rfl (by decide+kernel)) rfl (i7 (aO (aP Y (U.mono (by decide)) (af (ae 2) (aq) az)))) (fun C ex s2 S=>⟨aZ 0 (show(["_law_tie","_law_state_here"]:List Str).Nodup by decide+kernel),gj (Bq (ia U) (aO (aP Z (U.mono (by decide)) (af (ae 1) (af (aw) (aq) av) az))) (aw)),ae 0⟩)))) (aQ (bu 4 cN.nd (dF (t:=fQ) (m:=fR) (jI (Nc:=["_law_tie","_law_ties","_law_odd"]) (js:=[none,ar 4,ar 7]) (ao (top 40)) ["_law_state_here","_law_most","_law_many","_law_way","_law_ties","_law_row","_law_at","_law_odd"] (fun _=>rfl) rfl (by decide+kernel)) rfl (i7 (aO (aP Y (U.mono (by decide)) (af (ae 2) (aq) az)))) (fun C ex s2 S=>⟨aZ 0 (show(["_law_tie","_law_ties","_law_odd"]:List Str).Nodup by decide+kernel),gj (pE (ia U) (Bs (ia U) (ae 0) (ae 1)) (Bs (ia U) (ae 0) (ae 2))),ae 0⟩)))))))) (cA)) (aQ (bc (fE (af (ae 2) (af (fS T.b_tuple (aO (mT T.b_sorted (ae 4)))) (aq) ba) az))))))))
end
section
variable {P:e_}{w:f'}{K:d_}{mg:Str->Option aC}{base:gd}
theorem AF{f:dt}{N:g_}(F:Fun K "is_web" "is_web" (top 22) f N)(Q:mg "is_web"=ar (.ref f))(T:Txt K mg)(Y:DefX P w K mg base 1 "is_whole" ["thing"] cu)(X:DefX P w K mg base 1 "is_pair" ["thing"] cZ)(U:DefX P w K mg base 3 "is_tie" ["many","thing"] jX)(Z:DefX P w K mg base 1 "is_rising" ["things"] eX):DefX P w K mg base 4 "is_web" ["thing"] iR:=
 cy (m:=qi) F Q (F.binds fun _ _ _ _ _ _ us R=>match us,R with|[_],_=>rfl) nA rfl fun O A outer s H E S=>
  aD (ef (gD (fh (aO (aP X (S.mono (by decide)) (af (ae 0) (aq) az))))) (aQ (bc (gh))) (cA)) (aD (pC (ae 0) (kK rfl (cG (aZ 1 nA.nd) (cG (aZ 2 nA.nd) (i5))))) (aD (ef (Gx (Bh (gD (fh (aO (aP Y (S.mono (by decide)) (af (ae 1) (aq) az))))) (Bh (gD (Bm AV AV (kd fun _ _ _ _=>.bl _) (kd fun _ _ _ _=>.bl _) (aw) (ae 1) (pZ rfl T.g_MOST_PLACES))) (Bg (gD (fh (iu (Ts:="tuple") T.b_isinstance T.b_tuple (ae 2)))))))) (aQ (bc (gh))) (cA)) (aQ (bc (jN (wC rfl T.b_all (aO (dF (t:=il) (m:=iq) (jI (Nc:=["tie","many"]) (js:=[none,ar 1]) (ao (top 22)) ["thing","many","ties"] (fun _=>rfl) rfl (by decide+kernel)) rfl (i7 (ae 2)) (fun C ex s2 L=>⟨aZ 0 (show(["tie","many"]:List Str).Nodup by decide+kernel),fL,aO (aP U (S.mono (by decide)) (af (ae 1) (af (ae 0) (aq) az) az))⟩)))) (kJ (aO (aP Z (S.mono (by decide)) (af (ae 2) (aq) az)))))))))
end
section
variable {P:e_}{w:f'}{K:d_}{mg:Str->Option aC}{base:gd}
theorem vT{f:dt}{S:g_}(F:Fun K "need_web" "need_web" (top 23) f S)(X:mg "need_web"=ar (.ref f))(T:Txt K mg)(Z:DefX P w K mg base 4 "is_web" ["thing"] iR):DefX P w K mg base 5 "need_web" ["thing"] bJ:=
 jd (m:=qj) F X (F.binds fun _ _ _ _ _ _ us R=>match us,R with|[_],_=>rfl) vO rfl fun U A outer s H E Y=>
  aQ (ef (gD (fh (aO (cX Z (Y.mono (by decide)) bN.pass (af (ae 0) (aq) az))))) (aQ (uU bN rfl T.err (by decide) (by decide) (af (mJ) (aq) av))) (cA))
end
section
variable {P:e_}{w:f'}{K:d_}{mg:Str->Option aC}{base:gd}
theorem qW{f:dt}{R:g_}(F:Fun K "need_place" "need_place" (top 24) f R)(U:mg "need_place"=ar (.ref f))(T:Txt K mg)(Z:DefX P w K mg base 2 "is_place" ["many","thing"] cQ)(Y:DefX P w K mg base 5 "need_web" ["thing"] bJ):DefX P w K mg base 6 "need_place" ["web","place"] dv:=
 jd (m:=lU) F U (F.binds fun _ _ _ _ _ _ us Q=>match us,Q with|[_,_],_=>rfl) qS rfl fun S A outer s H E X=>
  aD (eL (aO (cX Y (X.mono (by decide)) bN.pass (af (ae 0) (aq) az)))) (aQ (ef (gD (fh (aO (cX Z (X.mono (by decide)) bN.pass (af (a8 (ae 0) (aw)) (af (ae 1) (aq) az) cJ))))) (aQ (uU bN rfl T.err (by decide) (by decide) (af (mJ) (aq) av))) (cA)))
end
section
variable {P:e_}{w:f'}{K:d_}{mg:Str->Option aC}{base:gd}
theorem xx{f:dt}{Q:g_}(F:Fun K "degrees" "degrees" (top 26) f Q)(S:mg "degrees"=ar (.ref f))(T:Txt K mg)(Z:DefX P w K mg base 5 "need_web" ["thing"] bJ):DefX P w K mg base 6 "degrees" ["web"] dC:=
 jd (m:=rS) F S (F.binds fun _ _ _ _ _ _ us U=>match us,U with|[_],_=>rfl) kY rfl fun R A outer s H E Y=>
  aD (eL (aO (cX Z (Y.mono (by decide)) bN.pass (af (ae 0) (aq) az)))) (aD (pC (ae 0) (kK rfl (cG (aZ 1 kY.nd) (cG (aZ 2 kY.nd) (i5))))) (aQ (bc (aO (tw (dF (t:=jo) (m:=jq) (jI (Nc:=["place","ties"]) (js:=[none,ar 2]) (ao (top 26)) ["web","many","ties"] (fun _=>rfl) rfl (by decide+kernel)) rfl (dW T.b_range (ae 1)) (fun C ex s2 X=>⟨aZ 0 (show(["place","ties"]:List Str).Nodup by decide+kernel),fL,eS T.b_len (aO (dF (t:=jl) (m:=jm) (jI (Nc:=["tie","place"]) (js:=[none,ar 0]) _ ["place","ties"] (fun _=>rfl) rfl rfl) rfl (i7 (ae 1)) (fun C ex s2 X=>⟨aZ 0 (show(["tie","place"]:List Str).Nodup by decide+kernel),gj (Bt (ia Y) (ae 1) (ae 0)),ae 0⟩)))⟩)))))))
end
section
variable {P:e_}{w:f'}{K:d_}{mg:Str->Option aC}{base:gd}
theorem nD{f:dt}{R:g_}(F:Fun K "need_few_ties" "need_few_ties" (top 30) f R)(U:mg "need_few_ties"=ar (.ref f))(T:Txt K mg)(X:GrX P w K mg base)(Z:DefX P w K mg base 5 "need_web" ["thing"] bJ):DefX P w K mg base 6 "need_few_ties" ["web"] b0:=
 jd (m:=eO) F U (F.binds fun _ _ _ _ _ _ us Q=>match us,Q with|[_],_=>rfl) nB rfl fun S A outer s H E Y=>
  aD (eL (aO (cX Z (Y.mono (by decide)) bN.pass (af (ae 0) (aq) az)))) (aQ (ef (xQ (eS T.b_len (a8 (ae 0) (aw))) (pZ rfl T.g_MOST_TIES)) (aQ (Cu bN rfl T.err X (Y.mono (by decide)) (af (eS T.b_len (a8 (ae 0) (aw))) (af (pZ rfl T.g_MOST_TIES) (aq) az) ba))) (cA)))
end
section
variable {P:e_}{w:f'}{K:d_}{mg:Str->Option aC}{base:gd}
theorem xy{f:dt}{O:g_}(F:Fun K "tie_web" "tie_web" (top 31) f O)(R:mg "tie_web"=ar (.ref f))(T:Txt K mg)(X:DefX P w K mg base 1 "pairs_of" ["many"] du)(Y:DefX P w K mg base 1 "ties_meet" ["one","other"] fX)(Z:DefX P w K mg base 6 "need_few_ties" ["web"] b0):DefX P w K mg base 7 "tie_web" ["web"] cn:=
 jd (m:=m6) F R (F.binds fun _ _ _ _ _ _ us S=>match us,S with|[_],_=>rfl) kZ rfl fun Q A outer s H E U=>
  aD (eL (aO (cX Z (U.mono (by decide)) bN.pass (af (ae 0) (aq) az)))) (aD (bu 1 kZ.nd (a8 (ae 0) (aw)) (hs:=jf)) (aD (bu 2 kZ.nd (eS T.b_len (ae 1)) (hs:=fj)) (aQ (bc (fE (af (ae 2) (af (fS T.b_tuple (aO (tw (dF (t:=gq) (m:=gr) (jI (Nc:=["low","high","ties"]) (js:=[none,none,ar 1]) (ao (top 31)) ["web","ties","many"] (fun _=>rfl) rfl (by decide+kernel)) rfl (i7 (aO (aP X (U.mono (by decide)) (af (ae 2) (aq) az)))) (fun C ex s2 N=>⟨kK rfl (cG (aZ 0 (show(["low","high","ties"]:List Str).Nodup by decide+kernel)) (cG (aZ 1 (show(["low","high","ties"]:List Str).Nodup by decide+kernel)) (i5))),gj (fh (aO (aP Y (U.mono (by decide)) (af (a8 (ae 2) (ae 0)) (af (a8 (ae 2) (ae 1)) (aq) cJ) cJ)))),fE (af (ae 0) (af (ae 1) (aq) az) az)⟩))))) (aq) ba) az))))))
end
section
variable {P:e_}{w:f'}{K:d_}{mg:Str->Option aC}{base:gd}
theorem xA{f:dt}{R:g_}(F:Fun K "star_of" "star_of" (top 32) f R)(U:mg "star_of"=ar (.ref f))(T:Txt K mg)(Z:DefX P w K mg base 6 "need_place" ["web","place"] dv):DefX P w K mg base 7 "star_of" ["web","place"] d7:=
 jd (m:=rT) F U (F.binds fun _ _ _ _ _ _ us X=>match us,X with|[_,_],_=>rfl) xv rfl fun S A outer s H E Y=>
  aD (eL (aO (cX Z (Y.mono (by decide)) bN.pass (af (ae 0) (af (ae 1) (aq) az) az)))) (aQ (bc (fS T.b_tuple (aO (tw (dF (t:=jr) (m:=jt) (jI (Nc:=["number","tie","place"]) (js:=[none,none,ar 1]) (ao (top 32)) ["web","place"] (fun _=>rfl) rfl (by decide+kernel)) rfl (En T.b_enumerate (a8 (ae 0) (aw))) (fun C ex s2 Q=>⟨kK rfl (cG (aZ 0 (show(["number","tie","place"]:List Str).Nodup by decide+kernel)) (cG (aZ 1 (show(["number","tie","place"]:List Str).Nodup by decide+kernel)) (i5))),gj (Bt (ia Y) (ae 2) (ae 1)),ae 0⟩)))))))
end
section
variable {P:e_}{w:f'}{K:d_}{mg:Str->Option aC}{base:gd}
theorem qX{f:dt}{R:g_}(F:Fun K "ties_ahead" "ties_ahead" (top 33) f R)(U:mg "ties_ahead"=ar (.ref f))(T:Txt K mg)(Z:DefX P w K mg base 6 "degrees" ["web"] dC):DefX P w K mg base 7 "ties_ahead" ["web"] cL:=
 jd (m:=lV) F U (F.binds fun _ _ _ _ _ _ us X=>match us,X with|[_],_=>rfl) qT rfl fun S A outer s H E Y=>
  aQ (bc (G9 rfl T.b_sum (aO (CB (t:=eP) (m:=eQ) (jI (Nc:=["many"]) (js:=[none]) (ao (top 33)) ["web"] (fun _=>rfl) rfl (by decide+kernel)) rfl (i7 (aO (cX Z (Y.mono (by decide)) bN.pass (af (ae 0) (aq) az)))) (fun C ex s2 Q=>⟨aZ 0 (show(["many"]:List Str).Nodup by decide+kernel),fL,om (mM (ae 0) (jS (ae 0) (aw))) (aw)⟩)))))
end
section
variable {P:e_}{w:f'}{K:d_}{mg:Str->Option aC}{base:gd}
theorem qY{j:Nat}{X:List D->M D}{f:dt}{Q:g_}(F:Fun K "_law_same" "_law_same" (top 44) f Q)(S:mg "_law_same"=ar (.ref f))(T:Txt K mg)(Z:DefX P w K mg base (1+j) "_law_same" ["_law_found","_law_due"] X):DefX P w K mg base (1+j+1) "_law_same" ["_law_found","_law_due"] (nI 2 2 (dQ X)):=
 cy (m:=dQ X) F S (F.binds fun _ _ _ _ _ _ us U=>match us,U with|[_,_],_=>rfl) t7 rfl fun R A outer s H E Y=>
  aD (ef (fh (DV (Ts:="tuple") (Us:="list") T.b_isinstance T.b_tuple T.b_list (ae 1))) (aD (ef (Gx (Bh (pE (ia Y) (iu (Ts:="tuple") T.b_isinstance T.b_tuple (ae 0)) (iu (Ts:="tuple") T.b_isinstance T.b_tuple (ae 1))) (Bg (pE (ia Y) (iu (Ts:="list") T.b_isinstance T.b_list (ae 0)) (iu (Ts:="list") T.b_isinstance T.b_list (ae 1)))))) (aQ (bc (gh))) (cA)) (aD (ef (pE (ia Y) (eS T.b_len (ae 0)) (eS T.b_len (ae 1))) (aQ (bc (gh))) (cA)) (aQ (bc (wC rfl T.b_all (aO (dF (t:=gW X) (m:=gX X) (jI (Nc:=["_law_one","_law_other"]) (js:=[none,none]) (ao (top 44)) ["_law_found","_law_due"] (fun _=>rfl) rfl (by decide+kernel)) rfl (yi T.b_zip (ae 0) (ae 1)) (fun C ex s2 O=>⟨kK rfl (cG (aZ 0 (show(["_law_one","_law_other"]:List Str).Nodup by decide+kernel)) (cG (aZ 1 (show(["_law_one","_law_other"]:List Str).Nodup by decide+kernel)) (i5))),fL,aO (aP Z (Y.mono (LF _)) (af (ae 0) (af (ae 1) (aq) az) az))⟩)))))))) (cA)) (aQ (bc (jN (uA (ia Y) (ae 0) (ae 1)) (kJ (uA (ia Y) (iu (Ts:="bool") T.b_isinstance T.b_bool (ae 0)) (iu (Ts:="bool") T.b_isinstance T.b_bool (ae 1)))))))
theorem kE{f:dt}{Y:g_}(F:Fun K "_law_same" "_law_same" (top 44) f Y)(Z:mg "_law_same"=ar (.ref f))(T:Txt K mg):∀n,DefX P w K mg base (1+n) "_law_same" ["_law_found","_law_due"] (cM n)
 |0=>DefX.none F Z (F.binds fun _ _ _ _ _ _ us X=>match us,X with|[_,_],_=>rfl)
 |n+1=>qY F Z T (kE F Z T n)
theorem uc{f:dt}{Z:g_}(F:Fun K "_law_same" "_law_same" (top 44) f Z)(Y:mg "_law_same"=ar (.ref f))(T:Txt K mg):DefX P w K mg base 7 "_law_same" ["_law_found","_law_due"] bO:=kE F Y T 6
end
section
variable {P:e_}{w:f'}{K:d_}{mg:Str->Option aC}{base:gd}
theorem oa{f:dt}{S:g_}(F:Fun K "_law_refused" "_law_refused" (top 45) f S)(X:mg "_law_refused"=ar (.ref f))(T:Txt K mg):RefX P w K mg 9 8 "_law_refused" ["_law_call"] bz:=
 G8 (m:=fu) F X (F.binds fun _ _ _ _ _ _ us Y=>match us,Y with|[_],_=>rfl) bG rfl fun base G a O ql ds vs R L U A outer s H E Z=>
  aD (bu 1 bG.nd (kH) (hs:=u7)) (aD (G5 rfl rfl L (Z.mono (by decide)) bG.nd T.err G rfl (.inl rfl) rfl rfl rfl rfl rfl) (aD (bu 3 bG.nd (bC (af (d4 T.err (by decide) G T.b_isinstance (ae 1)) (af (d4 T.err (by decide) G T.b_isinstance (ae 1)) (af (d4 T.err (by decide) G T.b_isinstance (ae 1)) (aq) ba) ba) ba)) (hs:=je)) (aD (bu 3 bG.nd (dM (ae 3) (aO (bC (af (d4 T.err (by decide) G T.b_isinstance (ae 1)) (af (d4 T.err (by decide) G T.b_isinstance (ae 1)) (af (d4 T.err (by decide) G T.b_isinstance (ae 1)) (aq) ba) ba) ba)))) (hs:=ez)) (aD (bu 3 bG.nd (dM (ae 3) (aO (bC (af (d4 T.err (by decide) G T.b_isinstance (ae 1)) (af (d4 T.err (by decide) G T.b_isinstance (ae 1)) (af (d4 T.err (by decide) G T.b_isinstance (ae 1)) (aq) ba) ba) ba)))) (hs:=ez)) (aD (bu 3 bG.nd (dM (ae 3) (aO (bC (af (d4 T.err (by decide) G T.b_isinstance (ae 1)) (af (d4 T.err (by decide) G T.b_isinstance (ae 1)) (af (d4 T.err (by decide) G T.b_isinstance (ae 1)) (aq) ba) ba) ba)))) (hs:=ez)) (aD (eL (iN (ae 3) (d4 T.err (by decide) G T.b_isinstance (ae 1)))) (aD (ef (gD (fh (Ed T.err T.b_isinstance T.b_ValueError (ae 1)))) (aQ (bc (kH))) (cA)) (aD (Cs (wt 4 (t:=bS) (m:=bU) bG.nd (jI (Nc:=["_law_k","_law_marks"]) (js:=[none,ar 3]) (ao (top 45)) ["_law_call","_law_error","e","_law_marks","_law_found"] (fun _=>rfl) rfl (by decide+kernel)) rfl (dW T.b_range (aw)) (fun C ex s2 Q=>⟨aZ 0 (show(["_law_k","_law_marks"]:List Str).Nodup by decide+kernel),gj (fh (a8 (ae 1) (ae 0))),ae 0⟩))) (aQ (bc (IS (Bq (ia Z) (ae 4) (aO (bC (af (aw) (aq) av)))) (aO (dM (ae 4) (aO (bC (af (Et T.err T.dk (ae 1)) (af (Eu T.err T.dk (ae 1)) (aq) lO) lO))))) (ae 4))))))))))))
end
theorem AG{P:e_}{w:f'}{K:d_}{B:Str->Option aC}{base:gd}{f c g:dt}{i:g_}(F:Fun K "law" "law" (top 46) f i)(T:Txt K B)(G:Mod K B base)(l:BaseL K B base)(TI:mU K)(h:p4 K gg "law"=ar (ar (.ref f)))(x:l6 K "law"=ar (c,g))(Y:∀base,Mod K B base->DefX P w K B base 7 "tie_web" ["web"] cn)(R:∀base,Mod K B base->DefX P w K B base 7 "star_of" ["web","place"] d7)(S:∀base,Mod K B base->DefX P w K B base 7 "ties_ahead" ["web"] cL)(y:∀base,Mod K B base->DefX P w K B base 2 "_law_state" ["_law_script","_law_k"] fq)(r:∀base,Mod K B base->DefX P w K B base 1 "_law_take" ["_law_state_here","_law_many"] aL)(N:∀base,Mod K B base->DefX P w K B base 3 "_law_web" ["_law_state_here","_law_most"] cw)(O:∀base,Mod K B base->DefX P w K B base 2 "_law_great_web" ["_law_state_here"] bD)(Q:∀base,Mod K B base->DefX P w K B base 1 "_law_made" ["_law_web_here"] cf)(I:∀base,Mod K B base->DefX P w K B base 2 "_law_bad_web" ["_law_state_here"] dP)(U:∀base,Mod K B base->DefX P w K B base 7 "_law_same" ["_law_found","_law_due"] bO)(Z:RefX P w K B 9 8 "_law_refused" ["_law_call"] bz)(dz:∀f c es,bz f c es=aV c es):FnOk P w K B base (kz P w) 10 f i ["_law_script"] (B0 K rV):=
 G7 (m:=CC) F iE rfl h x fun A outer s H E J=>
  aD (kL (b:=iT) Ng rfl (dW T.b_range (wA rfl T.b_max (af (aw) (af (Bw rfl T.b_min (af (eS T.b_len (ae 0)) (af (aw) (aq) av) ba)) (aq) ba) av))) (aZ 1 iE.nd) (aD (bu 2 iE.nd (aP (y _ G) (J.mono (by decide)) (af (ae 0) (af (ae 1) (aq) az) az)) (hs:=fj)) (aD (kL (b:=jY) Ng rfl (i7 (aO (bC (af (aO (aP (N _ G) (J.mono (by decide)) (af (ae 2) (af (aw) (aq) av) az))) (af (aO (aP (N _ G) (J.mono (by decide)) (af (ae 2) (af (aw) (aq) av) az))) (af (aO (aP (O _ G) (J.mono (by decide)) (af (ae 2) (aq) az))) (aq) ba) ba) ba)))) (aZ 3 iE.nd) (aD (bu 4 iE.nd (eS T.b_len (a8 (ae 3) (aw))) (hs:=fj)) (aD (ef (xQ (ae 4) (aw)) (aQ (ef (pE (ia J) (aO (B7 (ql:="law.<locals>.<lambda>") (m:=lW) (xl:="law") Z dz (J.mono (by decide)) (fun _=>rfl) (by decide) x rfl rfl rfl l TI rfl (B6 (N3:=["_law_web_here"]) (js:=[3]) (ao (top 46)) ["_law_script","_law_k","_law_state_here","_law_web_here","_law_many","_law_place","_law_due","_law_none","_law_bad","_law_calls"] (fun _=>rfl) rfl (by decide+kernel)) (aq) (fun _ _ _ _=>rfl) (fun u o f2 k q j z s2 p n v=>aO (cX (Y _ o) (v.mono (by decide)) gI.pass (af (ae 0) (aq) az))))) (aO (bC (af (aw) (af (ae 4) (af (aw) (aq) av) az) av)))) (aQ (bc (gh))) (cA))) (aQ (ef (gD (fh (aO (aP (U _ G) (J.mono (by decide)) (af (aO (aP (Y _ G) (J.mono (by decide)) (af (ae 3) (aq) az))) (af (aO (aP (Q _ G) (J.mono (by decide)) (af (ae 3) (aq) az))) (aq) ba) ba))))) (aQ (bc (gh))) (cA)))) (aD (ef (gD (fh (aO (aP (U _ G) (J.mono (by decide)) (af (aO (aP (S _ G) (J.mono (by decide)) (af (ae 3) (aq) az))) (af (eS T.b_len (a8 (aO (aP (Q _ G) (J.mono (by decide)) (af (ae 3) (aq) az))) (aw))) (aq) ba) ba))))) (aQ (bc (gh))) (cA)) (aD (kL (b:=iS) Ng rfl (dW T.b_range (a8 (ae 3) (aw))) (aZ 5 iE.nd) (aD (bu 6 iE.nd (fS T.b_tuple (aO (dF (t:=lX) (m:=lY) (jI (Nc:=["_law_number","_law_place","_law_web_here"]) (js:=[none,ar 5,ar 3]) (ao (top 46)) ["_law_script","_law_k","_law_state_here","_law_web_here","_law_many","_law_place","_law_due","_law_none","_law_bad","_law_calls"] (fun _=>rfl) rfl (by decide+kernel)) rfl (dW T.b_range (ae 4)) (fun C ex s2 p=>⟨aZ 0 (show(["_law_number","_law_place","_law_web_here"]:List Str).Nodup by decide+kernel),gj (Bt (ia J) (ae 1) (a8 (a8 (ae 2) (aw)) (ae 0))),ae 0⟩)))) (hs:=fj)) (aQ (ef (gD (fh (aO (aP (U _ G) (J.mono (by decide)) (af (aO (aP (R _ G) (J.mono (by decide)) (af (ae 3) (af (ae 5) (aq) az) az))) (af (ae 6) (aq) az) ba))))) (aQ (bc (gh))) (cA))))) (aD (bu 7 iE.nd (a8 (aO (bC (by (refine aN (a8 (ae 3) (aw)) ?_ cJ;refine aN (wW) ?_ pY;refine aN (gh) ?_ av;refine aN (kH) ?_ av;refine aN (mJ) ?_ av;refine aN (cb 6 rfl) ?_ bf;refine aN (wu (aw) (aw)) ?_ fU;exact aq)))) (aO (aP (r _ G) (J.mono (by decide)) (af (ae 2) (af (aw) (aq) av) az)))) (hs:=jf)) (aQ (ef (pE (ia J) (aO (B7 (ql:="law.<locals>.<lambda>") (m:=qk) (xl:="law") Z dz (J.mono (by decide)) (fun _=>rfl) (by decide) x rfl rfl rfl l TI rfl (B6 (N3:=["_law_web_here","_law_none"]) (js:=[3,7]) (ao (top 46)) ["_law_script","_law_k","_law_state_here","_law_web_here","_law_many","_law_place","_law_due","_law_none","_law_bad","_law_calls"] (fun _=>rfl) rfl (by decide+kernel)) (aq) (fun _ _ _ _=>rfl) (fun u o f2 k q j z s2 p n v=>aO (cX (R _ o) (v.mono (by decide)) gI.pass (af (ae 0) (af (ae 1) (aq) az) az))))) (aO (bC (af (aw) (aq) av)))) (aQ (bc (gh))) (cA))))))))) (aD (bu 8 iE.nd (aO (aP (I _ G) (J.mono (by decide)) (af (ae 2) (aq) az))) (hs:=fj)) (Cy (xl:="law") (L:=⟨_,_,_,["_law_bad"],[8],lZ⟩) (by decide) x rfl rfl rfl l TI ⟨B6 (N3:=["_law_bad"]) (js:=[8]) (ao (top 46)) ["_law_script","_law_k","_law_state_here","_law_web_here","_law_many","_law_place","_law_due","_law_none","_law_bad","_law_calls"] (fun _=>rfl) rfl (by decide+kernel),rfl,fun _ _ _ _=>rfl,fun u o f2 k q j z s2 p n v=>aO (cX (Y _ o) (v.mono (by decide)) gI.pass (af (ae 0) (aq) az))⟩ iE.nd rfl (by first|exact z_ rfl|exact u2 rfl) (.inl rfl) (Cz (xl:="law") (L:=⟨_,_,_,["_law_bad"],[8],l9⟩) (by decide) x rfl rfl rfl l TI ⟨B6 (N3:=["_law_bad"]) (js:=[8]) (ao (top 46)) ["_law_script","_law_k","_law_state_here","_law_web_here","_law_many","_law_place","_law_due","_law_none","_law_bad","_law_calls"] (fun _=>rfl) rfl (by decide+kernel),rfl,fun _ _ _ _=>rfl,fun u o f2 k q j z s2 p n v=>aO (cX (S _ o) (v.mono (by decide)) gI.pass (af (ae 0) (aq) az))⟩ (jK rfl (by first|exact z_ rfl|exact u2 (z_ rfl)|exact u2 (u2 rfl))) (show 1<=100 by decide) (Cz (xl:="law") (L:=⟨_,_,_,["_law_bad"],[8],mj⟩) (by decide) x rfl rfl rfl l TI ⟨B6 (N3:=["_law_bad"]) (js:=[8]) (ao (top 46)) ["_law_script","_law_k","_law_state_here","_law_web_here","_law_many","_law_place","_law_due","_law_none","_law_bad","_law_calls"] (fun _=>rfl) rfl (by decide+kernel),rfl,fun _ _ _ _=>rfl,fun u o f2 k q j z s2 p n v=>aO (cX (R _ o) (v.mono (by decide)) gI.pass (af (ae 0) (af (kH) (aq) av) az))⟩ (jK rfl (by first|exact z_ rfl|exact u2 (z_ rfl)|exact u2 (u2 rfl))) (show 2<=100 by decide) (Js ⟨Z,dz,J.mono (by decide),fun _=>rfl,rfl,show 3<=100 by decide,jI (Nc:=["_law_call"]) (js:=[none]) (ao (top 46)) ["_law_script","_law_k","_law_state_here","_law_web_here","_law_many","_law_place","_law_due","_law_none","_law_bad","_law_calls"] (fun _=>rfl) rfl (by decide+kernel),jK rfl (by first|exact z_ rfl|exact u2 (z_ rfl)|exact u2 (u2 rfl)),fun C ex s2 p=>aZ 0 (show(["_law_call"]:List Str).Nodup by decide+kernel),fun C ex s2 p=>dj (jK rfl (.inl rfl)) gy,fun C ex s2 p=>rfl,by decide,fun C ex s2 p=>rfl,fun _=>rfl⟩ (aO (Hm (bC (af (aO (bC (af (aw) (aq) av))) (aq) oA)) (aw))) (fun os=>Bp (X:=pin _ os) (ia J)) ou (aQ (bc (gh))) (cA) (cA))))))))) (aQ (bc (jN (uA (ia J) (aO (aP (Y _ G) (J.mono (by decide)) (af (cb 6 rfl) (aq) bf))) (cb 6 rfl)) (kJ (uA (ia J) (aO (aP (Y _ G) (J.mono (by decide)) (af (cb 6 rfl) (aq) bf))) (cb 6 rfl))))))
def FF:Stmt:=Jo (top 14)
theorem Fd:FnScope ["self","many","most"] ["self","many","most"] (ao FF):=⟨rfl,rfl,rfl,by decide+kernel,rfl,by decide+kernel,by decide+kernel⟩
abbrev lP:Program:=PySem.Challenge.rw_tiewebs_k04_tie_webs.prog
abbrev kW(w:f'):W.Frag:=KH.K0 w.params
theorem fk{K:d_}{f c:dt}{m:aC}(x q:Str)(Z:n3)(l:K.lookup f=ar ⟨.type "function",none,.func (G2 x q (ic Z) (dm Z) (ao Z) .none .none .none m none (.ref c) .none), #[]⟩)(h:Qx K (.ref c) q=c_)(k:D_ K (.ref f)=c_):Fun K x q Z f (G2 x q (ic Z) (dm Z) (ao Z) .none .none .none m none (.ref c) .none):=Gs l h k
abbrev nK(w:f')(x:Str):Option (Option aC):=p4 (kW w) gg x
theorem Ly(w:f')(Y:Str->Option aC)(fa:dt)(h:gd)(X:(kW w).In h)(G:h.Ns gg Y)(a0:Y "law"=ar (.ref fa)):∃fd:g_,(∀(s:b_) (u:aC),LI s fd ⟨[u],[]⟩ [("_law_script",u)])/\∀base:gd,Mod (kW w) Y base->BaseL (kW w) Y base->FnOk lP w (kW w) Y base (kz lP w) 10 fa fd ["_law_script"] (B0 (kW w) rV):=by
 have aG:nK w "TooGreat"=ar (ar (.ref 188)):=by kernel_rfl
 have k:kl (kW w) 188 185=true:=by kernel_rfl
 have FG:=@fk (kW w) 185 184 (KH.zs "tiewebs.errors" 187) "__init__" "TooGreat.__init__" FF (by kernel_rfl) (by kernel_rfl) (by kernel_rfl)
 have b:nK w "is_whole"=ar (ar (.ref 197)):=by kernel_rfl
 have b1:=@fk (kW w) 197 196 (KH.zs "tiewebs.webs" 426) "is_whole" "is_whole" (top 17) (by kernel_rfl) (by kernel_rfl) (by kernel_rfl)
 have f5:nK w "is_pair"=ar (ar (.ref 204)):=by kernel_rfl
 have g7:=@fk (kW w) 204 203 (KH.zs "tiewebs.webs" 426) "is_pair" "is_pair" (top 18) (by kernel_rfl) (by kernel_rfl) (by kernel_rfl)
 have g5:nK w "is_place"=ar (ar (.ref 211)):=by kernel_rfl
 have c:=@fk (kW w) 211 210 (KH.zs "tiewebs.webs" 426) "is_place" "is_place" (top 19) (by kernel_rfl) (by kernel_rfl) (by kernel_rfl)
 have f:nK w "is_tie"=ar (ar (.ref 218)):=by kernel_rfl
 have d1:=@fk (kW w) 218 217 (KH.zs "tiewebs.webs" 426) "is_tie" "is_tie" (top 20) (by kernel_rfl) (by kernel_rfl) (by kernel_rfl)
 have e5:nK w "is_rising"=ar (ar (.ref 223)):=by kernel_rfl
 have h2:=@fk (kW w) 223 222 (KH.zs "tiewebs.webs" 426) "is_rising" "is_rising" (top 21) (by kernel_rfl) (by kernel_rfl) (by kernel_rfl)
 have g:nK w "is_web"=ar (ar (.ref 228)):=by kernel_rfl
 have j:=@fk (kW w) 228 227 (KH.zs "tiewebs.webs" 426) "is_web" "is_web" (top 22) (by kernel_rfl) (by kernel_rfl) (by kernel_rfl)
 have h6:nK w "need_web"=ar (ar (.ref 235)):=by kernel_rfl
 have h5:=@fk (kW w) 235 234 (KH.zs "tiewebs.webs" 426) "need_web" "need_web" (top 23) (by kernel_rfl) (by kernel_rfl) (by kernel_rfl)
 have e3:nK w "need_place"=ar (ar (.ref 242)):=by kernel_rfl
 have c7:=@fk (kW w) 242 241 (KH.zs "tiewebs.webs" 426) "need_place" "need_place" (top 24) (by kernel_rfl) (by kernel_rfl) (by kernel_rfl)
 have g4:nK w "pairs_of"=ar (ar (.ref 247)):=by kernel_rfl
 have e2:=@fk (kW w) 247 246 (KH.zs "tiewebs.webs" 426) "pairs_of" "pairs_of" (top 25) (by kernel_rfl) (by kernel_rfl) (by kernel_rfl)
 have e1:nK w "degrees"=ar (ar (.ref 252)):=by kernel_rfl
 have e4:=@fk (kW w) 252 251 (KH.zs "tiewebs.webs" 426) "degrees" "degrees" (top 26) (by kernel_rfl) (by kernel_rfl) (by kernel_rfl)
 have b4:nK w "ties_meet"=ar (ar (.ref 257)):=by kernel_rfl
 have i:=@fk (kW w) 257 256 (KH.zs "tiewebs.ties" 501) "ties_meet" "ties_meet" (top 29) (by kernel_rfl) (by kernel_rfl) (by kernel_rfl)
 have h3:nK w "need_few_ties"=ar (ar (.ref 264)):=by kernel_rfl
 have e8:=@fk (kW w) 264 263 (KH.zs "tiewebs.ties" 501) "need_few_ties" "need_few_ties" (top 30) (by kernel_rfl) (by kernel_rfl) (by kernel_rfl)
 have g6:nK w "tie_web"=ar (ar (.ref 269)):=by kernel_rfl
 have a:=@fk (kW w) 269 268 (KH.zs "tiewebs.ties" 501) "tie_web" "tie_web" (top 31) (by kernel_rfl) (by kernel_rfl) (by kernel_rfl)
 have f6:nK w "star_of"=ar (ar (.ref 274)):=by kernel_rfl
 have a6:=@fk (kW w) 274 273 (KH.zs "tiewebs.ties" 501) "star_of" "star_of" (top 32) (by kernel_rfl) (by kernel_rfl) (by kernel_rfl)
 have c0:nK w "ties_ahead"=ar (ar (.ref 279)):=by kernel_rfl
 have a4:=@fk (kW w) 279 278 (KH.zs "tiewebs.ties" 501) "ties_ahead" "ties_ahead" (top 33) (by kernel_rfl) (by kernel_rfl) (by kernel_rfl)
 have b6:nK w "_law_cell_at"=ar (ar (.ref 286)):=by kernel_rfl
 have e0:=@fk (kW w) 286 285 (KH.zs "law_tiewebs_k04_tie_webs" 536) "_law_cell_at" "_law_cell_at" (top 35) (by kernel_rfl) (by kernel_rfl) (by kernel_rfl)
 have c2:nK w "_law_state"=ar (ar (.ref 293)):=by kernel_rfl
 have c4:=@fk (kW w) 293 292 (KH.zs "law_tiewebs_k04_tie_webs" 536) "_law_state" "_law_state" (top 36) (by kernel_rfl) (by kernel_rfl) (by kernel_rfl)
 have a3:nK w "_law_take"=ar (ar (.ref 300)):=by kernel_rfl
 have b2:=@fk (kW w) 300 299 (KH.zs "law_tiewebs_k04_tie_webs" 536) "_law_take" "_law_take" (top 37) (by kernel_rfl) (by kernel_rfl) (by kernel_rfl)
 have g8:nK w "_law_pairs"=ar (ar (.ref 305)):=by kernel_rfl
 have f3:=@fk (kW w) 305 304 (KH.zs "law_tiewebs_k04_tie_webs" 536) "_law_pairs" "_law_pairs" (top 38) (by kernel_rfl) (by kernel_rfl) (by kernel_rfl)
 have e7:nK w "_law_mixed_row"=ar (ar (.ref 312)):=by kernel_rfl
 have b5:=@fk (kW w) 312 311 (KH.zs "law_tiewebs_k04_tie_webs" 536) "_law_mixed_row" "_law_mixed_row" (top 39) (by kernel_rfl) (by kernel_rfl) (by kernel_rfl)
 have d2:nK w "_law_web"=ar (ar (.ref 317)):=by kernel_rfl
 have h1:=@fk (kW w) 317 316 (KH.zs "law_tiewebs_k04_tie_webs" 536) "_law_web" "_law_web" (top 40) (by kernel_rfl) (by kernel_rfl) (by kernel_rfl)
 have d0:nK w "_law_great_web"=ar (ar (.ref 324)):=by kernel_rfl
 have a5:=@fk (kW w) 324 323 (KH.zs "law_tiewebs_k04_tie_webs" 536) "_law_great_web" "_law_great_web" (top 41) (by kernel_rfl) (by kernel_rfl) (by kernel_rfl)
 have h4:nK w "_law_made"=ar (ar (.ref 329)):=by kernel_rfl
 have c5:=@fk (kW w) 329 328 (KH.zs "law_tiewebs_k04_tie_webs" 536) "_law_made" "_law_made" (top 42) (by kernel_rfl) (by kernel_rfl) (by kernel_rfl)
 have e6:nK w "_law_bad_web"=ar (ar (.ref 336)):=by kernel_rfl
 have c6:=@fk (kW w) 336 335 (KH.zs "law_tiewebs_k04_tie_webs" 536) "_law_bad_web" "_law_bad_web" (top 43) (by kernel_rfl) (by kernel_rfl) (by kernel_rfl)
 have c1:nK w "_law_same"=ar (ar (.ref 341)):=by kernel_rfl
 have c3:=@fk (kW w) 341 340 (KH.zs "law_tiewebs_k04_tie_webs" 536) "_law_same" "_law_same" (top 44) (by kernel_rfl) (by kernel_rfl) (by kernel_rfl)
 have d:nK w "_law_refused"=ar (ar (.ref 346)):=by kernel_rfl
 have b3:=@fk (kW w) 346 345 (KH.zs "law_tiewebs_k04_tie_webs" 536) "_law_refused" "_law_refused" (top 45) (by kernel_rfl) (by kernel_rfl) (by kernel_rfl)
 have l:nK w "law"=ar (ar (.ref 351)):=by kernel_rfl
 have d3:=@fk (kW w) 351 350 (KH.zs "law_tiewebs_k04_tie_webs" 536) "law" "law" (top 46) (by kernel_rfl) (by kernel_rfl) (by kernel_rfl)
 obtain⟨⟨ct,Pt⟩,m⟩:=MS.mp (show(l6 (kW w) "law").isSome=c_ by kernel_rfl)
 have e:=a0.symm.trans (L4 X G l);cases e;have T:Txt (kW w) Y:=⟨by kernel_rfl,by kernel_rfl,Md X G (by kernel_rfl),Md X G (by kernel_rfl),Md X G (by kernel_rfl),Md X G (by kernel_rfl),Md X G (by kernel_rfl),Md X G (by kernel_rfl),Md X G (by kernel_rfl),Md X G (by kernel_rfl),Md X G (by kernel_rfl),Md X G (by kernel_rfl),Md X G (by kernel_rfl),Md X G (by kernel_rfl),Md X G (by kernel_rfl),Md X G (by kernel_rfl),Md X G (by kernel_rfl),Md X G (by kernel_rfl),Md X G (by kernel_rfl),⟨428,L4 X G (by kernel_rfl)⟩,⟨503,L4 X G (by kernel_rfl)⟩⟩
 have GR:∀base,GrX lP w (kW w) Y base:=fun base=>Ct FG X T.err aG k Fd (by decide+kernel) (FG.binds fun _ _ _ _ _ _ us hl=>match us,hl with|[_,_,_],_=>rfl) rfl
 refine⟨G2 "law" "law" (ic (top 46)) (dm (top 46)) (ao (top 46)) .none .none .none (KH.zs "law_tiewebs_k04_tie_webs" 536) none (.ref 350) .none,fun s v=>.of_eq rfl,fun base GM BL=>?_⟩;have O:∀base,Mod (kW w) Y base->DefX lP w (kW w) Y base 1 "is_whole" ["thing"] cu:=fun base U=>vP b1 (L4 X G b) T;have I:∀base,Mod (kW w) Y base->DefX lP w (kW w) Y base 1 "is_pair" ["thing"] cZ:=fun base U=>xw g7 (L4 X G f5) T;have B:∀base,Mod (kW w) Y base->DefX lP w (kW w) Y base 1 "is_rising" ["things"] eX:=fun base U=>t8 h2 (L4 X G e5) T;have x:∀base,Mod (kW w) Y base->DefX lP w (kW w) Y base 1 "pairs_of" ["many"] du:=fun base U=>vQ e2 (L4 X G g4) T;have A:∀base,Mod (kW w) Y base->DefX lP w (kW w) Y base 1 "ties_meet" ["one","other"] fX:=fun base U=>t9 i (L4 X G b4) T;have K:∀base,Mod (kW w) Y base->DefX lP w (kW w) Y base 1 "_law_cell_at" ["_law_script","_law_k"] c8:=fun base U=>n6 e0 (L4 X G b6) T;have Z:∀base,Mod (kW w) Y base->DefX lP w (kW w) Y base 1 "_law_take" ["_law_state_here","_law_many"] aL:=fun base U=>ua b2 (L4 X G a3) T;have H:∀base,Mod (kW w) Y base->DefX lP w (kW w) Y base 1 "_law_pairs" ["_law_many"] bg:=fun base U=>qU f3 (L4 X G g8) T;have y:∀base,Mod (kW w) Y base->DefX lP w (kW w) Y base 1 "_law_made" ["_law_web_here"] cf:=fun base U=>ub c5 (L4 X G h4) T;have N:∀base,Mod (kW w) Y base->DefX lP w (kW w) Y base 2 "is_place" ["many","thing"] cQ:=fun base U=>vR c (L4 X G g5) T (O base U);have F:∀base,Mod (kW w) Y base->DefX lP w (kW w) Y base 2 "_law_state" ["_law_script","_law_k"] fq:=fun base U=>qV c4 (L4 X G c2) T (K base U);have R:∀base,Mod (kW w) Y base->DefX lP w (kW w) Y base 2 "_law_mixed_row" ["_law_state_here","_law_things"] cm:=fun base U=>mB b5 (L4 X G e7) T (Z base U);have Q:∀base,Mod (kW w) Y base->DefX lP w (kW w) Y base 2 "_law_great_web" ["_law_state_here"] bD:=fun base U=>mC a5 (L4 X G d0) T (Z base U);have L:∀base,Mod (kW w) Y base->DefX lP w (kW w) Y base 2 "_law_bad_web" ["_law_state_here"] dP:=fun base U=>n8 c6 (L4 X G e6) T (Z base U);have n:∀base,Mod (kW w) Y base->DefX lP w (kW w) Y base 3 "is_tie" ["many","thing"] jX:=fun base U=>AE d1 (L4 X G f) T (I base U) (N base U);have t:∀base,Mod (kW w) Y base->DefX lP w (kW w) Y base 3 "_law_web" ["_law_state_here","_law_most"] cw:=fun base U=>vS h1 (L4 X G d2) T (Z base U) (H base U) (R base U);have o:∀base,Mod (kW w) Y base->DefX lP w (kW w) Y base 4 "is_web" ["thing"] iR:=fun base U=>AF j (L4 X G g) T (O base U) (I base U) (n base U) (B base U);have S:∀base,Mod (kW w) Y base->DefX lP w (kW w) Y base 5 "need_web" ["thing"] bJ:=fun base U=>vT h5 (L4 X G h6) T (o base U);have E:∀base,Mod (kW w) Y base->DefX lP w (kW w) Y base 6 "need_place" ["web","place"] dv:=fun base U=>qW c7 (L4 X G e3) T (N base U) (S base U);have p:∀base,Mod (kW w) Y base->DefX lP w (kW w) Y base 6 "degrees" ["web"] dC:=fun base U=>xx e4 (L4 X G e1) T (S base U);have P:∀base,Mod (kW w) Y base->DefX lP w (kW w) Y base 6 "need_few_ties" ["web"] b0:=fun base U=>nD e8 (L4 X G h3) T (GR base) (S base U);have r:∀base,Mod (kW w) Y base->DefX lP w (kW w) Y base 7 "tie_web" ["web"] cn:=fun base U=>xy a (L4 X G g6) T (x base U) (A base U) (P base U);have q:∀base,Mod (kW w) Y base->DefX lP w (kW w) Y base 7 "star_of" ["web","place"] d7:=fun base U=>xA a6 (L4 X G f6) T (E base U);have C:∀base,Mod (kW w) Y base->DefX lP w (kW w) Y base 7 "ties_ahead" ["web"] cL:=fun base U=>qX a4 (L4 X G c0) T (p base U);have z:∀base,Mod (kW w) Y base->DefX lP w (kW w) Y base 7 "_law_same" ["_law_found","_law_due"] bO:=fun base U=>uc c3 (L4 X G c1) T;have J:RefX lP w (kW w) Y 9 8 "_law_refused" ["_law_call"] bz:=oa b3 (L4 X G d) T;exact AG d3 T GM BL (G6 (show Fo (kW w)=c_ by kernel_rfl)) l m r q C F Z t Q y L z J dz
end W
section
namespace W
open PySem PySem.Spec PyProof.Rows L2 S3 S4 S7
theorem HQ(K:d_)(H:Hp)(a:dt)(ns:List Int)(Y:TabsOk K H)(Z:Do K H a (ns.map V.int)):B0 K rV [.ref a] H (fun v _=>v= .bl c_) fun _ _ _=>False:=by
 obtain⟨d,U,e,hd⟩:=JP (S:=[]) (ns:=ns);refine⟨[],[],[.ro (ns.map D.int)],⟨.nil,rfl,(fun k a xs h=>by cases h),Y⟩,.cons (.ro Z (pH ns)) .nil,?_⟩
 refine⟨.ok d,U,e,fun X R _ _=>?_⟩;subst hd;intro v T;cases T;rfl
theorem walk{l:Rn}{q:e_}{loose:List Str}{XP:(Str->Option aC)->gd->Prop}{YP:f'->gd->Prop}{d:RL}{K:P6->d_}(U:l.most=ar 63)(Y:d.params.defaults=[])
  (S:∀(w:f') (h:gd),YP w h->(K w.params).In h) (R:∀w:f',RK (K w.params)=c_)
  (Z:∀(w:f') (h:gd),YP w h->∀y∈bH,∀c Q,l6 (K w.params) y=ar (c,Q)->Qc h c Q/\h.get? Q=ar (y_ #[]))
  (F:∀(w:f') (mg:Str->Option aC) (fa:dt) (h:gd),(K w.params).In h->h.Ns gg mg->mg d.name=ar (.ref fa)->
   ∃fd:g_,(∀(s:b_) (u:aC),LI s fd ⟨[u],[]⟩ [("_law_script",u)])/\∀base:gd,Mod (K w.params) mg base->BaseL (K w.params) mg base->FnOk l.prog w (K w.params) mg base (kz l.prog w) 10 fa fd ["_law_script"] (B0 (K w.params) rV)):
  RU q loose XP YP l.row.toRowW d [] (fun f vs=>PySem.call f vs):=
 B8 (n:=63) (k:=10) (x:="_law_script") (sp:=fun w=>B0 (K w.params) rV) U (by decide) Y ⟨rfl,by decide,by decide⟩ S R Z F fun w H a ns _ X T=>HQ (K w.params) H a ns X T
end W
open PySem PySem.W PyProof.Rows
set_option maxRecDepth 100000 in
set_option maxHeartbeats 0 in
theorem PySem.Challenge.cw_tiewebs_k04_tie_webs_holds : PySem.Challenge.rw_tiewebs_k04_tie_webs.Holds := by
 w_on;o_law
 refine holds_open (q:=KH.vq) (loose:=[]) (Xt:=KH.Xt0) (XP:=XL KH.vq []) (Yf:=Rz (P8 KH.K0 KH.as0 KH.as0_eq KH.ts0)) (Ya:=RA (P8 KH.K0 KH.as0 KH.as0_eq KH.ts0)) (YP:=Hook.says (P8 KH.K0 KH.as0 KH.as0_eq KH.ts0)) (N:=7734) KH.left0 (Hook.of (P8 KH.K0 KH.as0 KH.as0_eq KH.ts0)) (Hook.keeps (P8 KH.K0 KH.as0 KH.as0_eq KH.ts0)) (fun s e=>xl_of s (OP.mp e).1) XL.keeps (by rfl) (by rfl) (by rfl) (fun s e=>recFacts_of (OP.mp e).2) (by rfl) (by first|assumption|decide+kernel) (by decide+kernel) ⟨rfl,rfl,rfl,rfl,rfl,by decide+kernel⟩ ?hw ?hc
 case hw=>w_witness2
 refine W.walk (l:=PySem.Challenge.rw_tiewebs_k04_tie_webs) rfl rfl (fun w h Y=>PySem.W.km_in_of Y) ?nt (fun w h Y=>S7.KU (w:=w) ?ck Y) W.Ly
 case nt=>intro w;kernel_rfl
 case ck=>kernel_rfl
end
