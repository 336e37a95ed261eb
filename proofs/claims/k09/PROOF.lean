import PyProof.Rows.All
import Wide.All
import OpenK.AllK
import Wide.FinOn
import PySem.Challenge.RW_tiewebs_k09_root_papers_looked_at
import Lean
import PyProof.EqAt
import PyProof.EqKinds
import PyProof.TupleCall
import PyProof.SetScanFacts
import PyProof.EnumMake
import PyProof.Draws
import PyProof.ExcInit
import PyProof.ExcClass3
import PyProof.InstStore
import KE.KUnpack
import PyProof.P3In
set_option Elab.async false
set_option compiler.extract_closed false
set_option linter.all false
set_option maxRecDepth 100000
set_option maxHeartbeats 8000000
noncomputable section
open Option renaming some->ar,map_some->B_,bind_some->M'
open Pure renaming pure->aC
open PySem renaming Value->a_,Shared->dr,Addr->dt,starEach->d_,wpAny->eb,Program->ey,model->fc,World->fg,Heap->gg,mainGlobals->g_,eval->hY,compareOp->i_,Around->j_,foldedSetIterable->kb,cellsFrom->kS,importedModules->kT,IsTupleKey->k7,bootBuiltins->k_,swapsWith->lb,FuncData->lx,SetTable->ly,intKind->l_,rawInt->mv,NameKind->m1,behindInMarks->nD,attributeBase->nN,backTo->n_,PyData->oo,Stmt->pa,assignEach->pb,IsPair->p_,codeAny->rn,binaryOp->r_,builtinsNs->wh,sliceBounds->w_,excClassObj->xy,holding->yn,callerA->y1,ExcBaseFacts->y3,cLine->y4,pyNext->B',letOwnedTupleGo->C_,noteFrame->Fn,firstArgMember->H0,standAt->I_,BindsTo->J_,ofAClassStatement->J',swapsWithSole->LI,swappedStores->L0,treeTable->O_,lastMarks->P_,codeAmong->Q_,checkBuiltinCall->R_,IsZip->Si,assign->Sl,pyIter->Sw,Params->Th,GenState->Ti,again->To,OsState->Tw,PassesOwn->TC,leaving->TF,Arguments->TH,assignInOrder->TN,seq_tuple_add->TQ,wpAny_newList->TU,IsPart->TV,isInstance->TX,bindName->TZ,concat_meets->T6,getItem->T7,compTurn->T_,seqIndex?->Ug,isSubtype->Uj,pickOrder->Uk,seqIndex_of->Up,hashByValue->Uq,wpAny_letGo->Ur,Keyword->Ut,OwnTail->Uu,sysModules->Uv,wpAny_Name->Uw,bindArgs->Ux,bindL->Uy,bindC->Uz,typeIs_int->UA,closureFor->UC,setsByText->UI,field->UJ,ZipApart->UK,TriplesOk->UR,seqItems?->US,onTheHeap->UU,Result->UV,Model->U3,compPost->U4,entryFor->U8,slotArgs->U9,DefRec->Ve,argsOk->Vh,newExc->Vi,setItem->Vj,getAttr->Vk,newList->Vo,callAny->Vp,collect->Vq
open Bool renaming true->b_,false->c_,false_eq_true->fb,and_eq_true->hO,not_true->t8,or_eq_true->vr,not_eq_true'->K_,and_false->Tf,and_self->TR
open PySem.W renaming Frag->dV,tabIn->mu,nsIn->p7,kitOne->qt,kas_place->t4,kas_asc->u0,kas_desc->u1,kas_rev->u4,kas_sort->u_,openSeen->x_,openGood->x',keepIn->y0,tabObj->y2,fnOf->y9,findIn->y_,kla_obj->zl,InstAt->A',boot_heap->E_,findIn->F_,behindTheImports->N_,kmHook->Tj,codeIn->Tp,CodeHd->Tu,kas_bin->TJ,lookIn->T3,kas_descPart->T9,looks_findIn->Ub,clsIn->Uc,kas_count->Ui,methodObj->Um,kitAny->UD,instObj->UN,OpenLaw->UP,kas_tail3->UQ,mroIn->UT,findObj->UX,excIn->UY,exmOne->U_,kla_fn->U',notCls->Va,noTabs->Vb,KasT->Vf,OpenLaw->Vl,WalkO->Vm,clsIn->Vr,Frag->Vs
open List renaming range->ee,not_mem_nil->f_,replicate->f',mem_cons->gc,lookup_cons->la,range'->lN,size_toArray->m2,length_cons->n3,getD_eq_getElem?_getD->n7,all_eq_true->y7,cons_append->y',length_nil->D',toArray->E3,zip_cons_cons->G2,map_cons->K',mem_append->Td,forIn_cons->Te,drop_zero->Tr,all_cons->TK,any_cons->TL,map_nil->TY,length->Uo,foldl->UB
open PySem.Value renaming ref->er,none->h_,int->o_,bool->q_,type->v_,builtin->A2,str->O',float->Tn
open PySem.SetTable renaming insertAt->e_,below->vn,fresh->G4,turns->G_,below->Tt,runEnd->UF,advance->UW,bits->U5,turns->U6
open PySem.PyData renaming eqv->hI,eqvAll->kB,depthAll->s_,list->u3,int->wL,tuple->SF
open False renaming elim->ip
open PySem.NameKind renaming free->j',cell->p4
open PySem.Str renaming ofString->kr
open PySem.Builtin.SmallTypes renaming nextOf->kA,ownedTupleIsFree->k8
open Ne renaming symm->kC
open PySem.Obj renaming mapSeq->mh,mapFields->z_,putSet->S_
open PyProof.Rows renaming IntsAre->m_,step_dedup->nC,seqObj->t_,AllBare->z4,envOfC->D_,firstMet->H_,IsTup->UM,test_link->UO,ite_ff->Vc,ite_tt->Vd,bubble->Vg
open PySem.Builtin.Slice renaming slicePlaces->oi,sliceAdjust->u5
open True renaming intro->pd
open PySem.Builtin.Tuple renaming tupleExact->pe
open PySem.Builtin.List renaming listTooLong->pk
open PySem.Heap renaming SameBut->ri,MadeExcOf->Tv
open Array renaming replicate->tw,mk->A_,length_toList->EW,getD->UH
open ForInStep renaming yield->EA
open List.Perm renaming cons->G3
open Int renaming toNat_natCast->Ic
open PySem.SetTable.layClean renaming free->L_
open PySem.Shared renaming TypeIs->M_
open Or renaming inr->Tq,inl->Uh
open Sum renaming inl->Tz,inr->TB
open PySem.Around renaming under->T4
open PySem.Code renaming isFrame->T5
open PySem.W.KasT renaming ret->T8
open PySem.pickOrder renaming go->Ua
open PyProof.Rows.IsTup renaming new->Ud
open LawfulBEq renaming eq_of_beq->Ue
open And renaming intro->Ul
open PySem.Walks renaming list->UE
open PySem.SetTable.below renaming go->UG
open PySem.Within renaming nil->UL
open PySem.W.Hook renaming obs->UZ,val->U0
open PySem.SetTable.probe renaming go->U7
open ForIn renaming forIn->Vn
abbrev OB:=@PySem.wpAny_bind
abbrev OC:=@List.length_map
abbrev OD:=@PySem.Heap.get?_push_of_some
abbrev OE:=@PySem.wpAny_pure
abbrev OF:=@Nat.le_refl
abbrev OG:=@List.length_append
abbrev OH:=@List.getElem?_eq_getElem
abbrev OI:=@List.getElem?_eq_some_iff
abbrev OJ:=@PySem.Heap.lt_size
abbrev OK:=@PySem.Heap.get?_push_size
abbrev OL:=@m2
abbrev OM:=@n7
abbrev ON:=@Array.getElem?_eq_getElem
abbrev OO:=@List.mem_cons_of_mem
abbrev OP:=@List.mem_range
abbrev OQ:=@Nat.ne_of_lt
abbrev OR:=@Nat.le_trans
abbrev OS:=@decide_eq_true
abbrev OT:=@y7
abbrev OU:=@Nat.lt_of_lt_of_le
abbrev OV:=@List.mem_cons_self
abbrev OW:=@K'
abbrev OX:=@Nat.zero_le
abbrev OY:=@decide_eq_false
abbrev OZ:=@List.mem_append_right
abbrev O0:=@List.mem_map
abbrev O1:=@List.getElem?_map
abbrev O2:=@gc
abbrev O3:=@Array.getElem?_eq_some_iff
abbrev O4:=@congrFun
abbrev O5:=@Option.some.inj
abbrev O6:=@PySem.wpAny_mono
abbrev O7:=@List.append_assoc
abbrev O8:=@Array.getElem?_toList
abbrev O9:=@n3
abbrev Pa:=@List.mem_of_getElem?
abbrev Pb:=@List.getElem?_set_self
abbrev Pc:=@PySem.W.mg_none_of
abbrev Pd:=@la
abbrev Pe:=@Bool.false_and
abbrev Pf:=@List.getElem?_append_left
abbrev Pg:=@Array.getD_eq_getD_getElem?
abbrev Ph:=@Bool.true_and
abbrev Pi:=@List.length_range
abbrev Pj:=@PySem.Heap.get?_update_other
abbrev Pk:=@List.length_take
abbrev Pl:=@PySem.wpAny_holding
abbrev Pm:=@PySem.wpAny_newObj_type
abbrev Pn:=@List.map_map
abbrev Po:=@hO
abbrev Pp:=@List.append_nil
abbrev Pq:=@List.getElem?_eq_none
abbrev Pr:=@List.filterMap_cons
abbrev Pu:=@List.getElem?_set_ne
abbrev Pw:=@PySem.wpAny_truthy_bool
abbrev Px:=@Option.isSome_iff_exists
abbrev Py:=@Ic
abbrev Pz:=@List.pairwise_cons
abbrev PB:=@PySem.Heap.get?_update_self
abbrev PC:=@PySem.sizeLine_eq
abbrev PD:=@PySem.W.kia_one
abbrev PF:=@PySem.wpAny_call_entry
abbrev PH:=@PySem.PassesOwn.never
abbrev PJ:=@decide_eq_true_eq
abbrev PK:=@PySem.Heap.get?_none_of_le
abbrev PL:=@PySem.wpAny_standAt
abbrev PM:=@List.nodup_cons
abbrev PN:=@PySem.wpAny_field
abbrev PP:=@PySem.Heap.size_push
abbrev PQ:=@of_decide_eq_true
abbrev PR:=@Nat.lt_succ_of_lt
abbrev PU:=@Bool.false_ne_true
abbrev PV:=@List.length_set
abbrev PX:=@List.map_append
abbrev PY:=@List.getElem_mem
abbrev PZ:=@Td
abbrev P0:=@PySem.W.kia_tup
abbrev P1:=@Bool.eq_iff_iff
abbrev P2:=@List.length_drop
abbrev P3:=@Array.getElem?_eq_none
abbrev P4:=@PyProof.Rows.slot_tuple_getitem
abbrev P5:=@List.replicate_succ
abbrev P6:=@List.mem_range'_1
abbrev P7:=@PySem.wpAny_setState_of
abbrev P8:=@PySem.Heap.SameBut.update
abbrev P9:=@PySem.wpAny_seqItems
abbrev Qa:=@List.set_append_right
abbrev Qb:=@List.mem_filterMap
abbrev Qc:=@PySem.Obj.data_mapFields
abbrev Qd:=@Nat.lt_irrefl
abbrev Qe:=@List.cons.inj
abbrev Qf:=@List.filter_cons_of_pos
abbrev Qg:=@List.filter_cons_of_neg
abbrev Qh:=@Nat.ne_of_gt
abbrev Qi:=@PySem.codeAny_mono
abbrev Qj:=@TY
abbrev Qk:=@Tf
abbrev Ql:=@PyProof.Rows.callWith_type1
abbrev Qm:=@List.drop_eq_nil_of_le
abbrev Qn:=@PySem.F.slot_tuple_iterator_next
abbrev Qo:=@PySem.F.excBase_ValueError
abbrev Qp:=@Nat.le_of_lt
abbrev Qq:=@Int.emod_lt_of_pos
abbrev Qs:=@List.getElem?_toArray
abbrev Qt:=@PySem.wpAny_setField_rec
abbrev Qu:=@List.length_filter_le
abbrev Qv:=@Bool.and_assoc
abbrev Qw:=@PySem.Around.under_plainId
abbrev Qx:=@PySem.wpAny_passesOwn
abbrev Qy:=@List.flatten_cons
abbrev Qz:=@PySem.codeAny_builtin
abbrev QA:=@PySem.mem_of_lookup
abbrev QB:=@EW
abbrev QC:=@List.getElem?_range
abbrev QD:=@List.Perm.nodup_iff
abbrev QE:=@PySem.Heap.get?_update_ne
abbrev QF:=@PySem.W.mg_of
abbrev QG:=@Nat.lt_succ_self
abbrev QH:=@Nat.le_add_right
abbrev QI:=@PySem.wpAny_askSetting
abbrev QJ:=@M'
abbrev QK:=@PySem.wpAny_setField
abbrev QL:=@PySem.Heap.size_after_update
abbrev QM:=@List.take_of_length_le
abbrev QN:=@PySem.wpAny_Call_Name_kw
abbrev QO:=@List.mem_singleton
abbrev QP:=@List.length_range'
abbrev QQ:=@List.mem_filter
abbrev QR:=@PySem.wpAny_execs_nil
abbrev QS:=@List.length_replicate
abbrev QT:=@Nat.succ_mul
abbrev QU:=@Int.emod_nonneg
abbrev QV:=@List.mem_iff_getElem?
abbrev QW:=@PySem.Obj.isFreed_of_fields
abbrev QX:=@List.ext_getElem?
abbrev QY:=@PySem.wpAny_loadPart_at
abbrev QZ:=@List.flatMap_cons
abbrev Q0:=@List.getElem?_append_right
abbrev Q2:=@List.perm_ext_iff_of_nodup
abbrev Q3:=@List.mem_append_left
abbrev Q4:=@PySem.codeAny_call_builtin
abbrev Q5:=@List.mem_of_mem_drop
abbrev Q6:=@List.drop_eq_getElem_cons
abbrev Q7:=@List.getElem?_zip_eq_some
abbrev Q8:=@Nat.succ_le_succ
abbrev Q9:=@PySem.wpAny_isInstance
abbrev Ra:=@Bool.not_eq_true
abbrev Rb:=@decide_eq_decide
abbrev Rc:=@Nat.le_succ
abbrev Re:=@PySem.wpAny_rule
abbrev Rf:=@PySem.wpAny_call
abbrev Rg:=@PySem.F.args_tuple_add_2
abbrev Rh:=@PySem.wpAny_typeOf
abbrev Ri:=@Nat.le_of_eq
abbrev Rj:=@List.all_map
abbrev Rk:=@Int.zero_add
abbrev Rl:=@congrArg
abbrev Rm:=@PySem.wpAny_pyIter_tuple
abbrev Rn:=@List.of_mem_zip
abbrev Ro:=@PySem.F.entry_tuple_add
abbrev Rp:=@Array.Perm.refl
abbrev Rq:=@Nat.lt_of_le_of_lt
abbrev Rr:=@TK
abbrev Rt:=@PyProof.Rows.F.plain_set_update_loop
abbrev Ru:=@PySem.codeAny_of_tree
abbrev Rv:=@PySem.Code.quiet_builtin
abbrev Rw:=@PySem.wpAny_attempt
abbrev Rx:=@List.getElem?_take
abbrev Ry:=@Int.eq_ofNat_of_zero_le
abbrev Rz:=@PySem.W.cellsFrom_some
abbrev RA:=@PySem.F.slot_tuple_add
abbrev RB:=@List.range_succ_eq_map
abbrev RC:=@PySem.wpAny_pyIter_list
abbrev RD:=@PySem.W.kitx_list
abbrev RE:=@PySem.W.kitx_dict
abbrev RF:=@PyProof.Rows.intsAre_of
abbrev RG:=@Nat.le_of_succ_le
abbrev RH:=@Prod.ext
abbrev RI:=@PySem.isSubtype_type
abbrev RJ:=@List.length_singleton
abbrev RK:=@PySem.builtinLookup_eq_fast
abbrev RL:=@PySem.wpAny_forIn_list
abbrev RM:=@PySem.wpAny_pyIter_zip
abbrev RN:=@Array.mem_toList_iff
abbrev RO:=@PySem.Calls.evalArgs_plain
abbrev RP:=@List.mem_iff_getElem
abbrev RQ:=@PySem.wpAny_updateSeq_pair
abbrev RR:=@List.mem_of_mem_take
abbrev RS:=@PySem.F.args_tuple_iterator_next_1
abbrev RT:=@PySem.wpAny_setEntries_of
abbrev RU:=@PySem.F.entry_tuple_iterator_next
abbrev RV:=@PySem.F.slot_zip_next
abbrev RW:=@beq_false_of_ne
abbrev RX:=@List.map_congr_left
abbrev RY:=@List.map_id
abbrev RZ:=@PySem.Calls.Name_function_global
abbrev R0:=@List.length_eraseIdx_of_lt
abbrev R1:=@PyProof.Rows.assignInOrder_cons
abbrev R3:=@Array.find?_toList
abbrev R4:=@Nat.lt_trans
abbrev R5:=@List.getElem?_drop
abbrev R6:=@Nat.sub_self
abbrev R7:=@Classical.byContradiction
abbrev R8:=@List.pairwise_iff_getElem
abbrev R9:=@PySem.isSubtype_stop
abbrev Sa:=@PySem.Calls.call_function_entry
abbrev Sd:=@PySem.wpAny_letOwnedTupleGo_zip
abbrev Se:=@List.mem_or_eq_of_mem_set
abbrev Sg:=@PySem.W.kitx_none
abbrev Sh:=@List.getElem?_take_of_lt
abbrev Sj:=@Nat.mod_lt
abbrev Sk:=@Nat.lt_trichotomy
abbrev Sn:=@Bool.eq_false_iff
abbrev So:=@Array.getElem?_replicate
abbrev Sq:=@PySem.Obj.cls_mapFields
abbrev Sr:=@PySem.wpAny_Call_ofName
abbrev Ss:=@List.range'_eq_map_range
abbrev Su:=@List.Pairwise.imp_of_mem
abbrev Sv:=@List.map_take
abbrev Sx:=@PySem.plainId_quiet
abbrev Sy:=@List.length_eq_zero_iff
abbrev Sz:=@PySem.wpAny_onRaise
abbrev SC:=@TL
abbrev SD:=@PySem.wpAny_eqBool_int
abbrev SH:=@List.getElem_inj
abbrev SJ:=@PySem.wpAny_execs_cons
abbrev SK:=@PySem.noFill_tuple_add
abbrev SL:=@Nat.le_of_not_lt
abbrev SM:=@List.getElem_map
abbrev SN:=@beq_self_eq_true
abbrev SQ:=@List.mem_flatMap
abbrev SR:=@List.foldl_cons
abbrev SU:=@List.nil_append
abbrev SV:=@Nat.not_lt_zero
abbrev SW:=@PySem.pushCells_keeps
abbrev SX:=@List.range_succ
abbrev SY:=@PySem.typeLookup_type
abbrev SZ:=@List.filter_map
abbrev S8:=@PySem.call_meets
abbrev S9:=@beq_iff_eq
abbrev Ta:=@PySem.wpAny_runValue
abbrev Tb:=@PySem.wpAny_of_eq
abbrev Tc:=@PySem.Within.cons
abbrev Tg:=@Nat.not_lt
namespace KH
open PySem PySem.W PySem.Spec PyProof.Rows
def tp(i:Nat):Stmt:=PySem.Challenge.pw_tiewebs_k09_root_papers_looked_at.main.body.getD i (.Pass ⟨0,0,0,0⟩)
def iC:pa->pa
 | .ClassDef _ _ _ (b::_) .. =>b
 |s=>s
def dA(s:pa):Arguments:=match s with
 | .FunctionDef _ a _ _ _ _ _ _ _ _=>a
 |_=>{posonlyargs:=[],args:=[],vararg:=none,kwonlyargs:=[],kw_defaults:=[],kwarg:=none,defaults:=[]}
def dB(s:pa):List Stmt:=match s with
 | .FunctionDef _ _ b _ _ _ _ _ _ _=>b
 |_=>[]
def dS(s:pa):Scope:=match s with
 | .FunctionDef _ _ _ _ _ _ sc _ _ _=>sc
 |_=>{kind:=.function,names:=[],isGenerator:=c_,isCoroutine:=c_}
def zs(x:String)(t:Nat):Value:=.str (kr x) t
def ze(P:Th)(x:String)(t:Nat)(v:a_):DictEntry:=⟨PyData.keyHash P (kr x),zs x t,v⟩
def zt(xs:Array a_):Obj:=⟨.type "tuple",none,.seq xs, #[]⟩
def zc(n q:String)(a:Nat)(l ac p5 p6 fl:Int)(r8:a_)(p10:Int)(r11 r13 r14 r15:a_)(p16:Int)(t:Nat):Obj:=⟨.type "code",none,.fields #[zs n a,zs q (a+1),zs "/claim/cut.py" (a+2),.int l 0,.int ac 0,.int p5 0,.int p6 0,.int fl 0,r8,.bool b_,.int p10 0,r11,.none,r13,r14,r15,.int p16 0,.int l 0,zs "/claim/cut.py" t], #[]⟩
def zf(n q:String)(st:pa)(kV dc pm:a_)(an:Option dt)(cd ct:a_):Data:=.func (y9 (kr n) (kr q) (dA st) (dB st) (dS st) .none kV dc pm an cd ct)
def zg(n q:String)(st:pa):Obj:=⟨.none,none,.func {name:=kr n,qualname:=kr q,params:=dA st,body:=.stmts (dB st),scope:=dS st,globals:=0,closure:=[],defaults:=.none,kwdefaults:=.none}, #[]⟩
def z0:Obj:=⟨.none,none,.fields #[],#[]⟩
def zp:Obj:=⟨.type "builtin_function_or_method",none,.fields #[.builtin "type.__prepare__",.type "type"],#[]⟩
def zu(a:Nat):Obj:=⟨.type "super",none,.fields #[.ref a,.ref a,.ref a],#[]⟩
def zi(a:Nat):Obj:=⟨.type "builtin_function_or_method",none,.fields #[.builtin "object.__init_subclass__",.ref a],#[]⟩
def zr(a b:Nat)(v:a_):Obj:=⟨.type "frame",none,.plain,#[ar (.ref a),ar (.ref 3),ar (.ref b),none,ar v,none,ar (.ref 0)]⟩
def zk(n:String)(a b c:Nat)(l:Int)(r:Nat)(m:Int)(s:Nat)(x y:Int)(t:Nat):Obj:=⟨.type "code",none,.fields #[zs n a,zs n b,zs "/claim/cut.py" c,.int l 0,.int 0 0,.int 0 0,.int 0 0,.int 0 0,.ref r,.bool c_,.int m 0,.ref s,.none,.none,.none,.none,.int x 0,.int y 0,zs "/claim/cut.py" t],#[]⟩
def zE(n:String)(i x a:Nat)(l ac fl:Int)(md:String)(m t:Nat):List Obj:=[zt #[],z0,zg n n (tp i),zc n n a l ac 0 0 fl (.ref x) 181 (.ref (x+1)) .none .none (.ref (x+2)) t (t+1),⟨.type "function",none,zf n n (tp i) .none .none (zs md m) none (.ref (x+3)) .none,#[]⟩]
def zD(n:String)(i x a:Nat)(l ac fl:Int)(v:Array a_)(md:String)(m t:Nat):List Obj:=[zt #[],z0,zt v,zt #[],zg n n (tp i),zc n n a l ac 0 0 fl (.ref x) 181 (.ref (x+1)) (.ref (x+2)) (.ref (x+3)) (.ref (x+4)) t (t+1),⟨.type "function",none,zf n n (tp i) .none .none (zs md m) none (.ref (x+5)) .none,#[]⟩]
def zC(P:Th)(n:String)(a t l:Nat):List Obj:=[zp,⟨(.type "dict"),none,(.dict #[ze P "__module__" (t+5) (zs "tiewebs.errors" 187),ze P "__qualname__" (t+7) (zs n (t+6)),ze P "__firstlineno__" (t+9) (.int l (t+8)),ze P "__static_attributes__" (t+10) (.ref (a+6))] 4),#[]⟩,zt #[],z0,zk n t (t+1) (t+2) l (a+2) 181 (a+3) (t+3) l (t+4),zr (a+4) (a+1) (zs "tiewebs.errors" 187),zt #[],⟨(.type "dict"),none,(.dict #[ze P "__module__" (t+5) (zs "tiewebs.errors" 187),ze P "__firstlineno__" (t+9) (.int l (t+8)),ze P "__static_attributes__" (t+10) (.ref (a+6)),ze P "__doc__" (t+11) .none] 2),#[]⟩,⟨(.type "type"),none,(.cls ⟨(kr n),[(.ref 24)],[(.ref (a+8)),(.ref 24),(.type "ValueError"),(.type "Exception"),(.type "BaseException"),(.type "object")],(a+7),(kr n),b_,[],[],c_,none,c_⟩),#[ar (.ref (a-1)),none,ar (zs n (t-2)),ar (zs n (t+6)),ar (.builtin "ValueError.__new__"),ar (.bool b_)]⟩,zu (a+8),zi (a+8),zt #[(.ref 24)]]
def ml:String:="law_tiewebs_k09_root_papers_looked_at"
def L1(P:Th):List Obj:=[boot_o_0 P,boot_o_1 P,boot_o_2 P,⟨(.type "dict"),none,(.dict #[ze P "__name__" 165 (zs ml 537),ze P "__doc__" 166 .none,ze P "__package__" 167 .none,ze P "__loader__" 168 (.builtin "__main__.__loader__#opaque"),ze P "__spec__" 169 .none,ze P "__annotations__" 170 (.ref 6),ze P "__builtins__" 171 (.ref 4),ze P "__file__" 173 (zs "/claim/cut.py" 172),ze P "__cached__" 174 .none,ze P "WebError" 206 (.ref 24),ze P "NoWeb" 222 (.ref 37),ze P "NoPlace" 238 (.ref 49),ze P "NoPlaces" 254 (.ref 61),ze P "NoMap" 270 (.ref 73),ze P "NoSharing" 286 (.ref 85),ze P "NoRoot" 302 (.ref 97),ze P "NoNumber" 318 (.ref 109),ze P "NotJoined" 334 (.ref 121),ze P "NoTie" 350 (.ref 133),ze P "NoText" 366 (.ref 145),ze P "NoLine" 382 (.ref 157),ze P "NoDeed" 398 (.ref 169),ze P "TooGreat" 425 (.ref 188),ze P "MOST_PLACES" 429 (.int 14 428),ze P "is_whole" 436 (.ref 197),ze P "is_pair" 443 (.ref 204),ze P "is_place" 451 (.ref 211),ze P "is_tie" 461 (.ref 218),ze P "is_rising" 467 (.ref 223),ze P "is_web" 473 (.ref 228),ze P "need_web" 480 (.ref 235),ze P "need_few_places" 488 (.ref 242),ze P "pairs_of" 494 (.ref 247),ze P "are_tied" 503 (.ref 254),ze P "MOST_CROWDED" 507 (.int 7 506),ze P "need_crowded" 514 (.ref 261),ze P "ties_meet" 522 (.ref 266),ze P "are_names" 530 (.ref 271),ze P "root_holds" 536 (.ref 276),ze P "_law_cell_at" 546 (.ref 283),ze P "_law_state" 555 (.ref 290),ze P "_law_take" 565 (.ref 297),ze P "_law_pairs" 571 (.ref 302),ze P "_law_mixed_row" 581 (.ref 309),ze P "_law_web" 587 (.ref 314),ze P "_law_made" 593 (.ref 319),ze P "_law_named" 599 (.ref 324),ze P "_law_great_web" 611 (.ref 331),ze P "_law_whole" 618 (.ref 338),ze P "_law_is_web" 626 (.ref 345),ze P "_law_tied" 635 (.ref 352),ze P "_law_is_root" 641 (.ref 357),ze P "_law_bad_web" 649 (.ref 364),ze P "_law_same" 655 (.ref 369),ze P "_law_refused" 661 (.ref 374),ze P "_law_case" 673 (.ref 381),ze P "_law_bent" 690 (.ref 388),ze P "law" 696 (.ref 393)] 58),#[]⟩,boot_o_4 P,boot_o_5 P,boot_o_6 P,boot_o_7 P,boot_o_8 P,boot_o_9 P,boot_o_10 P,zt #[],⟨.none,none,(.fields #[(.int 2 0),(.int 0 0),(.ref 20),(.int 4 0),(.int 0 0),(.ref 33),(.int 6 0),(.int 0 0),(.ref 45),(.int 8 0),(.int 0 0),(.ref 57),(.int 10 0),(.int 0 0),(.ref 69),(.int 12 0),(.int 0 0),(.ref 81),(.int 14 0),(.int 0 0),(.ref 93),(.int 16 0),(.int 0 0),(.ref 105),(.int 18 0),(.int 0 0),(.ref 117),(.int 20 0),(.int 0 0),(.ref 129),(.int 22 0),(.int 0 0),(.ref 141),(.int 24 0),(.int 0 0),(.ref 153),(.int 26 0),(.int 0 0),(.ref 165),(.int 28 0),(.int 0 0),(.ref 177),(.int 35 0),(.int 0 0),(.ref 196),(.int 37 0),(.int 0 0),(.ref 203),(.int 39 0),(.int 0 0),(.ref 210),(.int 41 0),(.int 0 0),(.ref 217),(.int 46 0),(.int 0 0),(.ref 222),(.int 48 0),(.int 0 0),(.ref 227),(.int 55 0),(.int 0 0),(.ref 234),(.int 58 0),(.int 0 0),(.ref 241),(.int 62 0),(.int 0 0),(.ref 246),(.int 64 0),(.int 0 0),(.ref 253),(.int 68 0),(.int 0 0),(.ref 260),(.int 71 0),(.int 0 0),(.ref 265),(.int 74 0),(.int 0 0),(.ref 270),(.int 78 0),(.int 0 0),(.ref 275),(.int 88 0),(.int 0 0),(.ref 282),(.int 92 0),(.int 0 0),(.ref 289),(.int 97 0),(.int 0 0),(.ref 296),(.int 106 0),(.int 0 0),(.ref 301),(.int 111 0),(.int 0 0),(.ref 308),(.int 117 0),(.int 0 0),(.ref 313),(.int 131 0),(.int 0 0),(.ref 318),(.int 137 0),(.int 0 0),(.ref 323),(.int 139 0),(.int 0 0),(.ref 330),(.int 147 0),(.int 0 0),(.ref 337),(.int 149 0),(.int 0 0),(.ref 344),(.int 160 0),(.int 0 0),(.ref 351),(.int 162 0),(.int 0 0),(.ref 356),(.int 176 0),(.int 0 0),(.ref 363),(.int 181 0),(.int 0 0),(.ref 368),(.int 189 0),(.int 0 0),(.ref 373),(.int 204 0),(.int 0 0),(.ref 380),(.int 213 0),(.int 0 0),(.ref 387),(.int 227 0),(.int 0 0),(.ref 392)]),#[]⟩,⟨(.type "code"),none,(.fields #[(zs "<module>" 182),(zs "<module>" 183),(zs "/claim/cut.py" 184),(.int 1 0),(.int 0 0),(.int 0 0),(.int 0 0),(.int 0 0),(.ref 11),(.bool c_),(.int 181 0),(.ref 12),.none,.none,.none,.none,(.int 185 0),(.int 1 0),(zs "/claim/cut.py" 186)]),#[]⟩,zr 13 3 (zs "__main__" 164),zt #[(.type "ValueError")],zp,⟨(.type "dict"),none,(.dict #[ze P "__module__" 196 (zs "tiewebs.errors" 187),ze P "__qualname__" 198 (zs "WebError" 197),ze P "__firstlineno__" 200 (.int 2 199),ze P "__static_attributes__" 201 (.ref 22)] 4),#[]⟩,zt #[],z0,zk "WebError" 191 192 193 2 18 181 19 194 2 195,zr 20 17 (zs "tiewebs.errors" 187),zt #[],⟨(.type "dict"),none,(.dict #[ze P "__module__" 196 (zs "tiewebs.errors" 187),ze P "__firstlineno__" 200 (.int 2 199),ze P "__static_attributes__" 201 (.ref 22),ze P "__weakref__" 203 (.ref 25),ze P "__doc__" 204 .none] 3),#[]⟩,⟨(.type "type"),none,(.cls ⟨(kr "WebError"),[(.type "ValueError")],[(.ref 24),(.type "ValueError"),(.type "Exception"),(.type "BaseException"),(.type "object")],23,(kr "WebError"),b_,[],[(.ref 37),(.ref 49),(.ref 61),(.ref 73),(.ref 85),(.ref 97),(.ref 109),(.ref 121),(.ref 133),(.ref 145),(.ref 157),(.ref 169),(.ref 188)],c_,none,c_⟩),#[ar (.ref 15),none,ar (zs "WebError" 189),ar (zs "WebError" 197),ar (.builtin "ValueError.__new__"),ar (.bool b_)]⟩,⟨(.type "getset_descriptor"),none,(.fields #[(zs "__weakref__" 202),(.ref 24),(.builtin "ExceptionGroup.__weakref__"),.none]),#[]⟩,zu 24,zi 24,zt #[(.ref 24)]]++zC P "NoWeb" 29 209 4++zC P "NoPlace" 41 225 6++zC P "NoPlaces" 53 241 8++zC P "NoMap" 65 257 10++zC P "NoSharing" 77 273 12++zC P "NoRoot" 89 289 14++zC P "NoNumber" 101 305 16++zC P "NotJoined" 113 321 18++zC P "NoTie" 125 337 20++zC P "NoText" 137 353 22++zC P "NoLine" 149 369 24++zC P "NoDeed" 161 385 26++[zp,⟨(.type "dict"),none,(.dict #[ze P "__module__" 406 (zs "tiewebs.errors" 187),ze P "__qualname__" 408 (zs "TooGreat" 407),ze P "__firstlineno__" 410 (.int 28 409),ze P "__init__" 419 (.ref 185),ze P "__static_attributes__" 422 (.ref 186)] 5),#[]⟩,zt #[],⟨.none,none,(.fields #[(.int 30 0),(.int 4 0),(.ref 184)]),#[]⟩,zk "TooGreat" 401 402 403 28 175 181 176 404 28 405,zr 177 174 (zs "tiewebs.errors" 187),zt #[],z0,zt #[(zs "self" 414),(zs "many" 415),(zs "most" 416)],zt #[],zg "__init__" "TooGreat.__init__" (iC (tp 14)),zc "__init__" "TooGreat.__init__" 411 30 3 0 0 3 (.ref 179) 181 (.ref 180) (.ref 181) (.ref 182) (.ref 183) 417 418,⟨.type "function",none,(zf "__init__" "TooGreat.__init__" (iC (tp 14)) .none .none (zs "tiewebs.errors" 187) none (.ref 184) .none),#[]⟩,zt #[(zs "many" 420),(zs "most" 421)],⟨(.type "dict"),none,(.dict #[ze P "__module__" 406 (zs "tiewebs.errors" 187),ze P "__firstlineno__" 410 (.int 28 409),ze P "__init__" 419 (.ref 185),ze P "__static_attributes__" 422 (.ref 186),ze P "__doc__" 423 .none] 2),#[]⟩,⟨(.type "type"),none,(.cls ⟨(kr "TooGreat"),[(.ref 24)],[(.ref 188),(.ref 24),(.type "ValueError"),(.type "Exception"),(.type "BaseException"),(.type "object")],187,(kr "TooGreat"),b_,[],[],c_,none,c_⟩),#[ar (.ref 172),none,ar (zs "TooGreat" 399),ar (zs "TooGreat" 407),ar (.builtin "ValueError.__new__"),ar (.bool b_)]⟩,zu 188,zi 188]++zD "is_whole" 17 191 430 35 1 3 #[zs "thing" 433] "tiewebs.webs" 426 434++zD "is_pair" 18 198 437 37 1 3 #[zs "thing" 440] "tiewebs.webs" 426 441++zD "is_place" 19 205 444 39 2 3 #[zs "many" 447,zs "thing" 448] "tiewebs.webs" 426 449++zD "is_tie" 20 212 452 41 2 3 #[zs "many" 455,zs "thing" 456,zs "low" 457,zs "high" 458] "tiewebs.webs" 426 459++zE "is_rising" 21 219 462 46 1 3 "tiewebs.webs" 426 465++zE "is_web" 22 224 468 48 1 3 "tiewebs.webs" 426 471++zD "need_web" 23 229 474 55 1 3 #[zs "thing" 477] "tiewebs.webs" 426 478++zD "need_few_places" 24 236 481 58 2 3 #[zs "web" 484,zs "most" 485] "tiewebs.webs" 426 486++zE "pairs_of" 25 243 489 62 1 3 "tiewebs.webs" 426 492++zD "are_tied" 26 248 495 64 3 3 #[zs "web" 498,zs "one" 499,zs "other" 500] "tiewebs.webs" 426 501++zD "need_crowded" 29 255 508 68 1 3 #[zs "web" 511] "tiewebs.crowds" 504 512++zE "ties_meet" 31 262 517 71 2 3 "tiewebs.ties" 515 520++zE "are_names" 33 267 525 74 3 3 "tiewebs.roots" 523 528++zE "root_holds" 34 272 531 78 2 3 "tiewebs.roots" 523 534++zD "_law_cell_at" 36 277 539 88 2 3 #[zs "_law_script" 542,zs "_law_k" 543] ml 537 544++zD "_law_state" 37 284 547 92 2 3 #[zs "_law_script" 550,zs "_law_k" 551,zs "_law_cell" 552] ml 537 553++zD "_law_take" 38 291 556 97 2 3 #[zs "_law_state_here" 559,zs "_law_many" 560,zs "_law_found" 561,zs "_law_stirred" 562] ml 537 563++zE "_law_pairs" 39 298 566 106 1 3 ml 537 569++zD "_law_mixed_row" 40 303 572 111 2 3 #[zs "_law_state_here" 575,zs "_law_things" 576,zs "_law_left" 577,zs "_law_found" 578] ml 537 579++zE "_law_web" 41 310 582 117 2 3 ml 537 585++zE "_law_made" 42 315 588 131 1 3 ml 537 591++zE "_law_named" 43 320 594 137 2 3 ml 537 597++zD "_law_great_web" 44 325 600 139 1 3 #[zs "_law_state_here" 603,zs "_law_many" 604,zs "_law_ties" 605,zs "_law_turn" 606,zs "_law_one" 607,zs "_law_other" 608] ml 537 609++zD "_law_whole" 45 332 612 147 1 3 #[zs "_law_thing" 615] ml 537 616++zD "_law_is_web" 46 339 619 149 1 3 #[zs "_law_thing" 622,zs "_law_tie" 623] ml 537 624++zD "_law_tied" 47 346 627 160 3 3 #[zs "_law_web_here" 630,zs "_law_one" 631,zs "_law_other" 632] ml 537 633++zE "_law_is_root" 48 353 636 162 2 3 ml 537 639++zD "_law_bad_web" 49 358 642 176 1 3 #[zs "_law_state_here" 645,zs "_law_some" 646] ml 537 647++zE "_law_same" 50 365 650 181 2 3 ml 537 653++zE "_law_refused" 51 370 656 189 1 3 ml 537 659++zD "_law_case" 52 375 662 204 1 3 #[zs "_law_state_here" 665,zs "_law_root" 666,zs "_law_web_here" 667,zs "_law_row" 668,zs "_law_names" 669,zs "_law_number" 670] ml 537 671++zD "_law_bent" 53 382 674 213 2 3 #[zs "_law_state_here" 677,zs "_law_paper" 678,zs "_law_root" 679,zs "_law_names" 680,zs "_law_at" 681,zs "_law_to" 682,zs "_law_a" 683,zs "_law_b" 684,zs "_law_odd" 685,zs "_law_other" 686,zs "_law_some" 687] ml 537 688++zE "law" 54 389 691 227 1 3 ml 537 694
def Lb(P:Th):List Obj:=[boot_o_0 P,boot_o_1 P,boot_o_2 P,boot_o_3 P,boot_o_4 P,boot_o_5 P,boot_o_6 P,boot_o_7 P,boot_o_8 P,boot_o_9 P,boot_o_10 P,zt #[],z0,⟨(.type "code"),none,(.fields #[(zs "<module>" 182),(zs "<module>" 183),(zs "/claim/cut.py" 184),(.int 1 0),(.int 0 0),(.int 0 0),(.int 0 0),(.int 0 0),(.ref 11),(.bool c_),(.int 181 0),(.ref 12),.none,.none,.none,.none,(.int 185 0),(.int 1 0),(zs "/claim/cut.py" 186)]),#[]⟩,zr 13 3 (zs "__main__" 164)]
def as0:List Addr:=[2,3,15,22,23,24,25,28,35,36,37,40,47,48,49,52,59,60,61,64,71,72,73,76,83,84,85,88,95,96,97,100,107,108,109,112,119,120,121,124,131,132,133,136,143,144,145,148,155,156,157,160,167,168,169,172,179,181,182,184,185,186,187,188,191,193,194,196,197,198,200,201,203,204,205,207,208,210,211,212,214,215,217,218,219,222,223,224,227,228,229,231,232,234,235,236,238,239,241,242,243,246,247,248,250,251,253,254,255,257,258,260,261,262,265,266,267,270,271,272,275,276,277,279,280,282,283,284,286,287,289,290,291,293,294,296,297,298,301,302,303,305,306,308,309,310,313,314,315,318,319,320,323,324,325,327,328,330,331,332,334,335,337,338,339,341,342,344,345,346,348,349,351,352,353,356,357,358,360,361,363,364,365,368,369,370,373,374,375,377,378,380,381,382,384,385,387,388,389,392,393]
def ts0:List Addr:=[390]
def vq:Program:={PySem.Challenge.pw_tiewebs_k09_root_papers_looked_at with main:={PySem.Challenge.pw_tiewebs_k09_root_papers_looked_at.main with body:=[tp 1,tp 2,tp 3,tp 4,tp 5,tp 6,tp 7,tp 8,tp 9,tp 10,tp 11,tp 12,tp 13,tp 14,tp 16,tp 17,tp 18,tp 19,tp 20,tp 21,tp 22,tp 23,tp 24,tp 25,tp 26,tp 28,tp 29,tp 31,tp 33,tp 34,tp 36,tp 37,tp 38,tp 39,tp 40,tp 41,tp 42,tp 43,tp 44,tp 45,tp 46,tp 47,tp 48,tp 49,tp 50,tp 51,tp 52,tp 53,tp 54]}}
def alt:Bool->List Obj->List Obj
 |_,[]=>[]
 |true,a::r=>a::alt c_ r
 |false,_::r=>alt b_ r
def toT:Nat->List Obj->BT
 |0,_=>.nil
 |_+1,[]=>.nil
 |f+1,o::r=>.node o (toT f (alt b_ r)) (toT f (alt c_ r))
def pick:Nat->List dt->List Obj->dV
 |i,as,o::os=>match as with
  |a::r=>if Nat.beq i a then (a,o)::pick (i+1) r os else pick (i+1) (a::r) os
  |[]=>[]
 |_,_,[]=>[]
def K0(P:Th):W.Frag:=pick 0 as0 (L1 P)
def as0_eq:∀P,as0=(K0 P).map (·.1):=λ_=>by kernel_rfl
abbrev pw:Program:=PySem.Challenge.pw_tiewebs_k09_root_papers_looked_at
abbrev Xt0(s:dr):Bool:=xlAt vq [] s && recOk (RowW.records (OpenRow.toRowW (OpenLaw.row PySem.Challenge.rw_tiewebs_k09_root_papers_looked_at))) s
def lf:Life:={}
def en:Env:={scope:=pw.main.scope,locals:=mainNs,globals:=mainNs,cells:=[],code:=(.ref 13),frame:=ar 14}
abbrev cE:Code:=.body (N_ pw) en
abbrev Bf:List Frame:=[topFrame ⟨0,0,0,0⟩]
abbrev S0(w:fg)(os:Tw):Shared:=⟨E_ w.params,A_ [],boot_drawn,boot_toks,os⟩
abbrev Sb(w:fg)(os:Tw):SharedT:=⟨toT 12 (Lb w.params),15,lf,A_ [],⟨0,0,0,0⟩,187,os⟩
abbrev Sm(w:fg)(os:Tw):SharedT:=⟨toT 12 (L1 w.params),394,lf,A_ [],⟨0,0,0,0⟩,697,os⟩
abbrev Sf(w:fg)(os:Tw):Shared:=⟨⟨A_ (L1 w.params),lf⟩,A_ [],⟨0,0,0,0⟩,697,os⟩
def MM:∀w,(λos=>topGo O_ pw w 11 (ar (.ref 6)) 12 (S0 w os) (topStub pw))=λos=>ar ((Sb w os).abs,⟨denote O_ cE,cE,⟨0,0,0,0⟩,Bf⟩):=λw=>by kernel_rfl
def HZ:∀w,(λos=>segRun O_ pw w 11 (ar (.ref 6)) 1 1 (Sb w os).abs (blockOf (N_ pw) en cE ⟨0,0,0,0⟩ Bf))=λos=>ar (.next,(Sb w os).abs,cE,⟨0,0,0,0⟩):=λw=>by kernel_rfl
def KD:∀w,(λos=>segRunT O_ pw w 11 (ar (.ref 6)) 1 4017 (Sb w os) (piecesOf (N_ pw) en cE ⟨0,0,0,0⟩ Bf))=λos=>ar (.next,Sm w os,cE,⟨227,0,244,54⟩):=λw=>by kernel_rfl
def MN:∀w,(λos=>topRun O_ pw w 11 (ar (.ref 6)) 2 (Sm w os).abs ⟨doneF .next,cE,⟨227,0,244,54⟩,Bf⟩)=λos=>ar (Sf w os):=λw=>by kernel_rfl
theorem MO(w:fg)(os:Tw):topRun O_ pw w 11 (ar (.ref 6)) (12+(1+(4017+2))) (S0 w os) (topStub pw)=ar (Sf w os):=
 go_top (O4 (MM w) os) (piece_block (O4 (HZ w) os) (by have:=piece_app (rest:=[]) (segRun_of (O4 (KD w) os)) (piece_nil (O4 (MN w) os));rw[Pp]at this;exact this))
def KF:∀w:fg,((E_ w.params).isNs g_ && (A_ []:Array Ti).size==0,(E_ w.params).objs.size,(E_ w.params).nsMap g_ "__annotations__")=(b_,11,(ar (.ref 6))):=λw=>by kernel_rfl
theorem KG:∀w os,(staticsOk (kT pw.main.body) (E_ w.params) (Sf w os).heap && namesBound pw (Sf w os).heap && gensDone (Sf w os) && laidKept (E_ w.params) (Sf w os).heap)=true:=λw os=>by kernel_rfl
def MP:∀w os,(x_ vq [] (kT pw.main.body) Xt0 b_ (Sf w os)).1=(x' vq []).1:=λw os=>by kernel_rfl
def MQ:∀w os,(x_ vq [] (kT pw.main.body) Xt0 b_ (Sf w os)).2.1=(x' vq []).2.1:=λw os=>by kernel_rfl
def MR:∀w os,(x_ vq [] (kT pw.main.body) Xt0 b_ (Sf w os)).2.2.1=(x' vq []).2.2.1:=λw os=>by kernel_rfl
def MS:∀w os,(x_ vq [] (kT pw.main.body) Xt0 b_ (Sf w os)).2.2.2.1=(x' vq []).2.2.2.1:=λw os=>by kernel_rfl
def MT:∀w os,(x_ vq [] (kT pw.main.body) Xt0 b_ (Sf w os)).2.2.2.2.1=(x' vq []).2.2.2.2.1:=λw os=>by kernel_rfl
def MU:∀w os,(x_ vq [] (kT pw.main.body) Xt0 b_ (Sf w os)).2.2.2.2.2.1=(x' vq []).2.2.2.2.2.1:=λw os=>by kernel_rfl
def MV:∀w os,(x_ vq [] (kT pw.main.body) Xt0 b_ (Sf w os)).2.2.2.2.2.2.1=(x' vq []).2.2.2.2.2.2.1:=λw os=>by kernel_rfl
def MW:∀w os,(x_ vq [] (kT pw.main.body) Xt0 b_ (Sf w os)).2.2.2.2.2.2.2.1=(x' vq []).2.2.2.2.2.2.2.1:=λw os=>by kernel_rfl
def MX:∀w os,(x_ vq [] (kT pw.main.body) Xt0 b_ (Sf w os)).2.2.2.2.2.2.2.2=(x' vq []).2.2.2.2.2.2.2.2:=λw os=>by kernel_rfl
def KI:∀w os,UZ (Tj K0 as0 as0_eq ts0) (Sf w os)=U0 (Tj K0 as0 as0_eq ts0) w:=λw os=>by kernel_rfl
theorem KJ(w:fg)(os:Tw):x_ vq [] (kT pw.main.body) Xt0 b_ (Sf w os)=x' vq []:=RH (MP w os) (RH (MQ w os) (RH (MR w os) (RH (MS w os) (RH (MT w os) (RH (MU w os) (RH (MV w os) (RH (MW w os) (MX w os))))))))
theorem left0:LeftO (OpenLaw.row PySem.Challenge.rw_tiewebs_k09_root_papers_looked_at).prog vq [] Xt0 (UZ (Tj K0 as0 as0_eq ts0)) (U0 (Tj K0 as0 as0_eq ts0)) 8158:=
 LeftO.of_pieces (p:=pw) (H₀:=E_) (H₁:=λP=>⟨A_ (L1 P),lf⟩) (gs₀:=A_ []) (gs₁:=A_ []) (d₀:=boot_drawn) (d₁:=⟨0,0,0,0⟩) (k₀:=boot_toks) (k₁:=697) (M:=12+(1+(4017+2))) (boot_open (p:=pw) (by kernel_rfl) (by decide) (λs=>by kernel_rfl)) KF MO (by decide) λw=>funext λos=>RH (KG w os) (RH (KJ w os) (KI w os))
end KH
section
namespace L2
open PySem PySem.Spec PyProof.Rows
abbrev Key:=Sum Int Str
def HB:Key->a_->Bool
 | .inl k,v=>Value.isInt k v
 | .inr x,v=>Value.isStrOf x v
def MY(w:fg):Key->Int
 | .inl k=>hashInt k
 | .inr x=>hashStr w x
theorem dv:∀{k:Key} {v:a_},HB k v=b_->(∃i t,k=Tz i/\v=o_ i t)\/(∃x t,k=TB x/\v=O' x t)
 | .inl i,v,h=>by
  obtain⟨t,e⟩:=Value.isInt_shape (k:=i) (v:=v) h;exact .inl ⟨i,t,rfl,e⟩
 | .inr x,v,h=>by
  obtain⟨t,e⟩:=Value.isStrOf_shape (x:=x) (v:=v) h;exact .inr ⟨x,t,rfl,e⟩
def Ia(a b:Int):decide ((Tz a:Key)=Tz b)=(a==b):=by
 by_cases e:a=b
 ·subst e;simp
 ·have h:¬ (Tz a:Key)=Tz b:=λq=>e (Sum.inl.inj q);rw[OY h];exact(beq_eq_false_iff_ne.mpr e).symm
def Ib(a b:Str):decide ((TB a:Key)=TB b)=decide (a=b):=by
 by_cases e:a=b
 ·subst e;simp
 ·have h:¬ (TB a:Key)=TB b:=λq=>e (Sum.inr.inj q);rw[OY h,OY e]
def Ie(a:Int)(b:Str):decide ((Tz a:Key)=TB b)=false:=OY (λq=>nomatch q)
def Ig(a:Str)(b:Int):decide ((TB a:Key)=Tz b)=false:=OY (λq=>nomatch q)
def zT(prog:ey)(w:fg):PySem.KeyKind prog w Key where
 is:=HB
 hash:=MY w
 inj:=λv a b ha hb=>by
  rcases dv ha with⟨i,t,rfl,rfl⟩|⟨x,t,rfl,rfl⟩
  ·rcases dv hb with⟨j,u,rfl,e⟩|⟨y,u,rfl,e⟩
   ·injection e with e1 _;rw[e1]
   ·exact nomatch e
  ·rcases dv hb with⟨j,u,rfl,e⟩|⟨y,u,rfl,e⟩
   ·exact nomatch e
   ·injection e with e1 _;rw[e1]
 byValue:=λk v h=>by rcases dv h with⟨i,t,rfl,rfl⟩|⟨x,t,rfl,rfl⟩<;>rfl
 pyHash:=λhv h=>by
  rcases dv hv with⟨i,t,rfl,rfl⟩|⟨x,t,rfl,rfl⟩
  ·exact wpAny_pyHash_int h
  ·exact wpAny_pyHash_str h
 eqBool:=λhu hv h=>by
  rcases dv hu with⟨i,t,rfl,rfl⟩|⟨x,t,rfl,rfl⟩
  ·rcases dv hv with⟨j,u,rfl,rfl⟩|⟨y,u,rfl,rfl⟩
   ·rw[Ia]at h;exact SD h
   ·rw[Ie]at h;exact SeqAt.EqAt.int_str i t y u _ _ _ _ h
  ·rcases dv hv with⟨j,u,rfl,rfl⟩|⟨y,u,rfl,rfl⟩
   ·rw[Ig]at h;exact SeqAt.EqAt.str_int x t j u _ _ _ _ h
   ·rw[Ib]at h;exact wpAny_eqBool_str h
 «strs»:=λk x t v h=>by
  rcases dv h with⟨i,u,rfl,e⟩|⟨y,u,rfl,e⟩
  ·exact nomatch e
  ·injection e with e1 _;subst e1;cases v<;>rfl
inductive V where
 |non|bl (b:Bool)|int (i:Int)|str (x:Str)|byt (b:Array UInt8)|flt (b:UInt64)|ref (a:dt)|ty (n:String)
 deriving DecidableEq
def RelV:V->a_->Prop
 | .non,u=>u=h_
 | .bl b,u=>u=q_ b
 | .int i,u=>∃t,u=o_ i t
 | .str x,u=>∃t,u=O' x t
 | .byt b,u=>∃t,u=Value.bytes b t
 | .flt b,u=>∃t,u=Tn b t
 | .ref a,u=>u=er a
 | .ty n,u=>u=v_ n
abbrev bx:List V->List a_->Prop:=Paired RelV
theorem bx.length{xs:List V}{us:List a_}(r:bx xs us):xs.length=us.length:=Paired.length r
theorem bx.get:∀{xs:List V} {us:List a_} {i:Nat} {x:V},bx xs us->xs[i]? =ar x->∃u,us[i]? =ar u/\RelV x u
 |_,_,_,_,.nil,e=>by simp at e
 |_,_,0,_,.cons r _,e=>by simp at e;subst e;exact⟨_,rfl,r⟩
 |_,_,i+1,x,.cons _ t,e=>by
  obtain⟨u,Z,Y⟩:=bx.get (i:=i) (x:=x) t (by simpa using e);exact⟨u,by simpa using Z,Y⟩
theorem bx.set(r:RelV x u):∀{xs:List V} {us:List a_} (i:Nat),bx xs us->bx (xs.set i x) (us.set i u)
 |_,_,_,.nil=>.nil
 |_,_,0,.cons _ t=>.cons r t
 |_,_,i+1,.cons q t=>.cons q (bx.set r i t)
theorem bx.append:∀{xs ys:List V} {us ws:List a_},bx xs us->bx ys ws->bx (xs++ys) (us++ws)
 |_,_,_,_,.nil,s=>s
 |_,_,_,_,.cons r t,s=>.cons r (bx.append t s)
theorem bx.take:∀{xs:List V} {us:List a_} (n:Nat),bx xs us->bx (xs.take n) (us.take n)
 |_,_,0,_=>.nil
 |_,_,_+1,.nil=>.nil
 |_,_,n+1,.cons r t=>.cons r (bx.take n t)
theorem bx.drop:∀{xs:List V} {us:List a_} (n:Nat),bx xs us->bx (xs.drop n) (us.drop n)
 |_,_,0,r=>r
 |_,_,_+1,.nil=>.nil
 |_,_,n+1,.cons _ t=>bx.drop n t
def uO:Option V->Option a_->Prop
 |some v,ar u=>RelV v u
 |none,none=>True
 |_,_=>False
def KV{κ:Type}:List (κ×V)->List (κ×a_)->Prop:=Paired λ(p:κ×V) (q:κ×a_)=>p.1=q.1/\RelV p.2 q.2
def kV:Key->V
 | .inl i=>.int i
 | .inr x=>.str x
inductive HO where
 |lst (xs:List V)
 |tup (xs:List V)
 |dK (kvs:List (Key×V))|dT (kvs:List (List Key×V))
 |set (S:Int->Bool) (n:Nat)
 |ins (C dx:dt) (fs:List (Str×V))
 |own (x:dt)
 |xd (fs:List (Str×V))
 |met (f x:dt)
 |rng (lo hi:Int)
 |frz (o:Obj) (u:HO)
 |tbl (ps:Array a_)
 |ext (φ:gg->Prop)
abbrev Hp:=dt->Option HO
def upd(H:Hp)(a:dt)(o:HO):Hp:=λb=>if b=a then ar o else H b
def aX:upd H a o a=ar o:=by unfold upd;rw[if_pos rfl]
def aI{H:Hp}(h:b≠a):upd H a o b=H b:=by unfold upd;rw[if_neg h]
def uP:upd (upd H a o) a u=upd H a u:=by funext b;unfold upd;split<;>rfl
def aU{H:Hp}(h:H a=ar o)(h':H b=none):a≠b:=by intro e;subst e;rw[h]at h';cases h'
section
variable (P:ey)(w:fg)
def bC(H:Hp)(h:gg)(a:dt):HO->Prop
 | .lst xs=>xs.length<=sizeLine/\∃(its:List a_) (n:Nat),bx xs its/\h.get? a=ar {cls:=.type "list",data:=.seq its.toArray n}
 | .tup xs=>(xs.length<=sizeLine/\∃o,h.get? a=ar o/\o.dict=none)/\∃its:List a_,bx xs its/\UM h a its.toArray
 | .dK kvs=>kvs.length<=sizeLine/\(a==Uv)=c_/\∃vs,KV kvs vs/\h.DictOf (zT P w) a vs
 | .dT kvs=>kvs.length<=sizeLine/\(a==Uv)=c_/\∃xs:List (List Key×dt×a_),
   Paired (λ(p:List Key×V) (q:List Key×dt×a_)=>p.1=q.1/\H q.2.1=ar (.tup (p.1.map kV))/\RelV p.2 q.2.2) kvs xs/\
   ∃o es ep,h.get? a=ar o/\o.ExactDict/\o.data= .dict es ep/\es.toList=xs.map (entryOfKey (tupleKind (zT P w)))/\(xs.map (·.1)).Nodup
 | .set S n=>h.SetOf (l_ P w) a S n
 | .ins C dx fs=>H dx=ar (.own a)/\fs.length<=1000/\dx≠a/\h.get? a=ar (UN C dx)/\
   ∃mA,h.Ns1 dx mA/\(∀f,uO (fs.lookup f) (mA f))/\PySem.Within mA (fs.map (·.1))
 | .own _=>∃o,h.get? a=ar o
 | .xd fs=>∃mA,h.Ns1 a mA/\∀f,uO (fs.lookup f) (mA f)
 | .rng lo hi=>∃t u v,h.get? a=ar {cls:=.type "range",data:=.fields #[.int lo t,.int hi u,.int 1 v]}
 | .frz o u=>h.get? a=ar o/\bC H h a u
 | .tbl ps=>h.get? a=ar {cls:=.none,data:=.fields ps}
 | .met f x=>h.get? a=ar (Um (.ref f) (.ref x))
 | .ext φ=>φ h/\(∃o,h.get? a=ar o)/\∀h1 h2:gg,φ h1->(∀o,h1.get? a=ar o->h2.get? a=ar o)->φ h2
theorem uQ{h:gg}{xs:List V}{items:Array a_}(z:xs.length<=sizeLine):xs.length<=sizeLine/\∃o,(h.push {cls:=.type "tuple",data:=.seq items}).get? h.objs.size=ar o/\o.dict=none:=⟨z,_,OK _ rfl,rfl⟩
def gD(H:Hp)(h:gg):Prop:=∀a o,H a=ar o->bC P w H h a o
end
section
variable {P:ey}{w:fg}{H H':Hp}{h h':gg}{a:dt}{o:HO}
theorem bC.lt(x:bC P w H h a o):a<h.objs.size:=by
 cases o with
 |lst xs=>obtain⟨_,_,_,_,e⟩:=x;exact OJ e
 |tup xs=>obtain⟨_,_,_,p⟩:=x;exact p.lt
 |dK kvs=>obtain⟨_,_,_,_,o,_,_,e,_⟩:=x;exact OJ e
 |dT kvs=>obtain⟨_,_,_,_,o,_,_,e,_⟩:=x;exact OJ e
 |set S n=>obtain⟨o,_,_,_,e,_⟩:=x;exact OJ e
 |ins C dx fs=>obtain⟨_,_,_,e,_⟩:=x;exact OJ e
 |own y=>obtain⟨_,e⟩:=x;exact OJ e
 |xd fs=>obtain⟨_,⟨_,_,_,e,_⟩,_⟩:=x;exact OJ e
 |rng lo hi=>obtain⟨_,_,_,e⟩:=x;exact OJ e
 |frz ob u=>obtain⟨e,_⟩:=x;exact OJ e
 |tbl ps=>exact OJ (show h.get? a=ar _ from x)
 |met f y=>exact OJ (show h.get? a=ar _ from x)
 |ext φ=>obtain⟨_,⟨_,e⟩,_⟩:=x;exact OJ e
theorem Paired.mapP{α Z:Type}{F G:α->Z->Prop}:∀{l₁:List α} {l₂:List Z},Paired F l₁ l₂->(∀a b,F a b->G a b)->Paired G l₁ l₂
 |_,_,.nil,_=>.nil
 |_,_,.cons r t,f=>.cons (f _ _ r) (Paired.mapP t f)
theorem bC.stay(x:bC P w H h a o)(k:∀b u,(b=a\/H b=ar (.own a))->h.get? b=ar u->h'.get? b=ar u)
  (T:∀b,H b=ar (.own a)->H' b=ar (.own a)) (R:∀b xs,H b=ar (.tup xs)->H' b=ar (.tup xs)):bC P w H' h' a o:=by
 induction o with
 |lst xs=>obtain⟨z,its,n,r,e⟩:=x;exact⟨z,its,n,r,k _ _ (.inl rfl) e⟩
 |tup xs=>obtain⟨⟨z,X,U,Y⟩,its,r,Z,e,c⟩:=x;exact⟨⟨z,X,k _ _ (.inl rfl) U,Y⟩,its,r,Z,k _ _ (.inl rfl) e,c⟩
 |dK kvs=>obtain⟨z,y,vs,r,Z,es,ep,e,c⟩:=x;exact⟨z,y,vs,r,Z,es,ep,k _ _ (.inl rfl) e,c⟩
 |dT kvs=>
  obtain⟨z,y,xs,r,Z,es,ep,e,c⟩:=x;exact⟨z,y,xs,Paired.mapP r λp q z=>⟨z.1,R _ _ z.2.1,z.2.2⟩,Z,es,ep,k _ _ (.inl rfl) e,c⟩
 |set S n=>obtain⟨Z,es,ep,t,e,c⟩:=x;exact⟨Z,es,ep,t,k _ _ (.inl rfl) e,c⟩
 |ins C dx fs=>
  obtain⟨d,z,ne,e,mA,⟨od,es,ep,e2,c⟩,r⟩:=x;exact⟨T _ d,z,ne,k _ _ (.inl rfl) e,mA,⟨od,es,ep,k _ _ (.inr d) e2,c⟩,r⟩
 |own y=>obtain⟨Z,e⟩:=x;exact⟨Z,k _ _ (.inl rfl) e⟩
 |xd fs=>obtain⟨mA,⟨od,es,ep,e,c⟩,r⟩:=x;exact⟨mA,⟨od,es,ep,k _ _ (.inl rfl) e,c⟩,r⟩
 |rng lo hi=>obtain⟨t,u,v,e⟩:=x;exact⟨t,u,v,k _ _ (.inl rfl) e⟩
 |frz Z u ih=>obtain⟨e,q⟩:=x;exact⟨k _ _ (.inl rfl) e,ih q⟩
 |tbl ps=>
  have e:h.get? a=ar {cls:=.none,data:=.fields ps}:=x;show h'.get? a=ar {cls:=.none,data:=.fields ps};exact k a _ (.inl rfl) e
 |met f y=>
  have e:h.get? a=ar (Um (.ref f) (.ref y)):=x;show h'.get? a=ar (Um (.ref f) (.ref y));exact k a _ (.inl rfl) e
 |ext φ=>obtain⟨p,⟨o,e⟩,st⟩:=x;exact⟨st _ _ p λo q=>k _ _ (.inl rfl) q,⟨o,k _ _ (.inl rfl) e⟩,st⟩
theorem gD.lt(x:gD P w H h)(e:H a=ar o):a<h.objs.size:=(x a o e).lt
theorem gD.fresh(x:gD P w H h)(e:h.objs.size<=a):H a=none:=by
 cases q:H a with
 |none=>rfl
 |some u=>exact absurd (OU (x.lt q) e) (Qd _)
def gD.kept(x:gD P w H h)(k:∀b u,h.get? b=ar u->h'.get? b=ar u):gD P w H h':=λa o e=>
 (x a o e).stay (λb u _ q=>k b u q) (λ_ q=>q) λ_ _ q=>q
theorem gD.laid(x:gD P w H h)(k:∀b u,h.get? b=ar u->h'.get? b=ar u)(X:h.objs.size<=a)(Z:bC P w (upd H a o) h' a o):gD P w (upd H a o) h':=λb u e=>by
 have Y:=x.fresh X;by_cases hb:b=a
 ·subst hb;rw[aX]at e;cases e;exact Z
 ·rw[aI hb]at e;exact(x b u e).stay (λc v _ q=>k c v q) (λc q=>by rw[aI (aU q Y)];exact q) λc xs q=>by rw[aI (aU q Y)];exact q
end
def Rd(H:Hp)(a:dt)(u:HO):Prop:=H a=ar u\/∃o,H a=ar (.frz o u)
def Rd.ok{P:ey}{w:fg}{H:Hp}{h:gg}{a:dt}{u:HO}(r:Rd H a u)(x:gD P w H h):bC P w H h a u:=by
 rcases r with r|⟨o,r⟩
 ·exact x a u r
 ·obtain⟨_,q⟩:=x a _ r;exact q
def MA:Option HO->Prop
 |some (.lst _)=>True
 |some (.dK _)=>True
 |some (.dT _)=>True
 |some (.set _ _)=>True
 |some (.ins _ _ _)=>True
 |some (.ext _)=>True
 |_=>False
section
variable {P:ey}{w:fg}{H:Hp}{h h':gg}{x e:dt}{o':HO}
theorem gD.write(O:gD P w H h)(W:MA (H x))(S:e=x\/H e=ar (.own x))(k:∀b u,b≠e->h.get? b=ar u->h'.get? b=ar u)(T:∃u,h'.get? e=ar u)
  (U:bC P w (upd H x o') h' x o'):gD P w (upd H x o') h':=λb u q=>by
 have Z:∀c y,H c=ar (.own y)->c≠x:=λc y r z=>by subst z;rw[r]at W;exact W
 have Y:∀c xs,H c=ar (.tup xs)->c≠x:=λc xs r z=>by subst z;rw[r]at W;exact W
 by_cases hb:b=x
 ·subst hb;rw[aX]at q;cases q;exact U
 ·rw[aI hb]at q;by_cases hbe:b=e
  ·have R:H b=ar (.own x):=by
    rcases S with z|z
    ·exact absurd (hbe.trans z) hb
    ·rw[hbe];exact z
   rw[q]at R;cases R;obtain⟨v,Q⟩:=T;exact⟨v,by rw[hbe];exact Q⟩
  ·refine(O b u q).stay (λc v X r=>k c v ?_ r) (λc r=>by rw[aI (Z c b r)];exact r) λc xs r=>by rw[aI (Y c xs r)];exact r
   rcases X with rfl|X
   ·exact hbe
   ·rintro rfl;rcases S with z|z
    ·exact Z c b X z
    ·rw[X]at z;cases z;exact hb rfl
end
structure Un(fs ex:List dt)(H H':Hp)(h h':gg):Prop where
 keep:∀b o,h.get? b=ar o->H b=none->b∉fs->b∉ex->h'.get? b=ar o
 slot:∀b o,h.get? b=ar o->H b=none->b∈fs->b∉ex->∃sl,h'.get? b=ar {o with slots:=sl}
 free:∀b o,h.get? b=ar o->H b=none->b∉ex->H' b=none
 there:∀b o,h.get? b=ar o->b∉ex->∃o',h'.get? b=ar o'
 tups:∀b xs,H b=ar (.tup xs)->H' b=ar (.tup xs)
 frzs:∀b o u,H b=ar (.frz o u)->H' b=ar (.frz o u)
 tbls:∀b ps,H b=ar (.tbl ps)->∃more,H' b=ar (.tbl (ps++more))
section
variable {fs fs' ex ex':List dt}{H H1 H2:Hp}{h h1 h2 h':gg}{a x e:dt}{o:HO}
theorem Un.any(u:Un fs ex H H1 h h1)(q:h.get? b=ar ob)(n:H b=none)(Z:b∉ex):∃sl,h1.get? b=ar {ob with slots:=sl}:=by
 by_cases hb:b∈fs
 ·exact u.slot b ob q n hb Z
 ·exact⟨ob.slots,u.keep b ob q n hb Z⟩
theorem Un.kept(k:∀b u,h.get? b=ar u->h'.get? b=ar u):Un fs ex H H h h':=
 ⟨λb Z q _ _ _=>k b Z q,λb Z q _ _ _=>⟨Z.slots,k b Z q⟩,λ_ _ _ n _=>n,λb Z q _=>⟨Z,k b Z q⟩,λ_ _ q=>q,λ_ _ _ q=>q,λ_ Y q=>⟨#[],by rw[q];simp⟩⟩
def Un.refl:Un fs ex H H h h:=Un.kept λ_ _ q=>q
theorem Un.laid(k:∀b u,h.get? b=ar u->h'.get? b=ar u)(Y:h.objs.size<=a)(Z:H a=none):Un fs ex H (upd H a o) h h' where
 keep:=λb u q _ _ _=>k b u q
 slot:=λb u q _ _ _=>⟨u.slots,k b u q⟩
 free:=λb u q n _=>by rw[aI (OQ (OU (OJ q) Y))];exact n
 there:=λb u q _=>⟨u,k b u q⟩
 tups:=λb xs q=>by rw[aI (aU q Z)];exact q
 frzs:=λb u xs q=>by rw[aI (aU q Z)];exact q
 tbls:=λb X q=>⟨#[],by rw[aI (aU q Z),q];simp⟩
theorem Un.write(Z:MA (H x))(U:e=x\/H e=ar (.own x))(k:∀b u,b≠e->h.get? b=ar u->h'.get? b=ar u)(Y:∃u,h'.get? e=ar u):Un fs ex H (upd H x o) h h':=by
 have X:∀b,H b=none->b≠x:=λb n z=>by subst z;rw[n]at Z;exact Z
 have W:∀b,H b=none->b≠e:=λb n z=>by
  subst z;rcases U with r|r
  ·exact X b n r
  ·rw[n]at r;cases r
 have hm:∀b u,H b=ar u->¬ MA (ar u)->b≠x:=λb u q nm z=>by subst z;rw[q]at Z;exact nm Z
 refine⟨λb u q n _ _=>k b u (W b n) q,λb u q n _ _=>⟨u.slots,k b u (W b n) q⟩,λb u q n _=>by rw[aI (X b n)];exact n,λb u q _=>?_,
  λb xs q=>by rw[aI (hm b _ q λz=>z)];exact q,λb u xs q=>by rw[aI (hm b _ q λz=>z)];exact q,λb T q=>⟨#[],by rw[aI (hm b _ q λz=>z),q];simp⟩⟩
 by_cases hbe:b=e
 ·subst hbe;exact Y
 ·exact⟨u,k b u hbe q⟩
end
def MB(h:gg)(H:Hp):List Addr:=(ee h.objs.size).filter λa=>(H a).isSome
def mz(h:gg)(H:Hp):Heap:=W.hideAll h (MB h H)
def oF(h:gg)(H:Hp):(mz h H).objs.size=h.objs.size:=W.hideAll_size _ _
def nj{h:gg}{H:Hp}(e:h.get? b=ar o)(n:H b=none):(mz h H).get? b=ar o:=
 W.hideAll_get _ e λhm=>by have q:(H b).isSome=true:=(QQ.mp hm).2;rw[n]at q;simp at q
theorem uR{H:Hp}(e:(mz h H).get? b=ar o):h.get? b=ar o/\H b=none:=by
 have Z:h.get? b=ar o:=W.of_hideAll (MB h H) e;refine⟨Z,?_⟩;cases q:H b with
 |none=>rfl
 |some x=>
  have hm:b∈MB h H:=QQ.mpr ⟨OP.mpr (OJ Z),by simp[q]⟩;have z:(mz h H).get? b=none:=W.hideAll_none (MB h H) hm;rw[z]at e;cases e
def nk(g h:gg)(L:dt):List (dt×Obj):=(ee h.objs.size).filterMap λa=>if a=L\/(g.get? a).isSome=b_ then none else (h.get? a).map λo=>(a,o)
def wz{g h:gg}(Y:a≠L)(X:g.get? a=none)(Z:h.get? a=ar o):(a,o)∈nk g h L:=
 Qb.mpr ⟨a,OP.mpr (OJ Z),by simp[Y,X,Z]⟩
theorem qP(Z:p∈nk g h L):p.1≠L/\g.get? p.1=none/\h.get? p.1=ar p.2:=by
 obtain⟨b,_,e⟩:=Qb.mp Z;split at e
 ·cases e
 ·rename_i hn
  cases q:h.get? b with
  |none=>rw[q]at e;simp at e
  |some u=>
   rw[q]at e;simp only[B_,Option.some.injEq]at e;subst e;refine⟨λz=>hn (.inl z),?_,q⟩;show g.get? b=none;cases r:g.get? b with
   |none=>rfl
   |some v=>exact(hn (.inr (by simp[r]))).elim
def rest(g h:gg)(L d:dt):List (dt×Obj):=(nk g h L).filter λp=>decide (p.1≠d)
def qQ:News g L h (nk g h L):=λp Z=>let ⟨a,b,c⟩:=qP Z;⟨c,a,b⟩
structure Mod(K:dV)(mg:Str->Option a_)(base:gg):Prop where
 kin:K.In base
 glob:base.Ns g_ mg
 blt:∃mb,base.Ns wh mb/\∀x:Str,x≠"__name__"->mb x=k_ x
 nolimit:base.NoLimit
structure Cx where
 prog:ey
 w:fg
 K:dV
 mg:Str->Option a_
 base:gg
 A:j_
 N:List Str
 s₀:dr
 H₀:Hp
 env:Env
 outer:List Env
 stack:List Env
 ex:List dt
 fn:Str->Bool
 calm:Bool
 pn:List (dt×Obj)
 xe:a_->dr->Prop
def kY(l:List Env):List Addr:=l.filterMap (·.frame)
abbrev Cx.fs(X:Cx):List Addr:=kY X.outer
def Ct(sc:Scope)(x:Str):Prop:=sc.names.lookup x=ar .local\/sc.names.lookup x=ar .cell\/sc.names.lookup x=ar .free
def Loc(sc:Scope)(x:Str):Prop:=sc.names.lookup x=ar .local\/sc.names.lookup x=ar .cell
def Look(env:Env)(h:gg)(m:Str->Option a_)(x:Str)(u:a_):Prop:=
 (env.kindOf x=ar .local/\m x=ar u)\/((env.kindOf x=ar .cell\/env.kindOf x=ar .free)/\∃c,env.cells.lookup x=ar c/\h.IsCell c (ar u))
structure Cx.Ok(X:Cx):Prop where
 mod:Mod X.K X.mg X.base
 kind:X.env.scope.kind= .function
 glob:X.env.globals=g_
 blt:X.env.builtins=wh
 above:X.s₀.heap.objs.size<=X.env.locals
 inj:∀x y c,X.env.cells.lookup x=ar c->X.env.cells.lookup y=ar c->x=y
 has:∀x,(X.env.kindOf x=ar .cell\/X.env.kindOf x=ar .free)->∃c,X.env.cells.lookup x=ar c
 cab:∀x c,X.fn x=b_->X.env.cells.lookup x=ar c->X.s₀.heap.objs.size<=c
 hd:X.calm=b_->X.A.handled=none
 frames:X.A.frames=ar X.stack
 stk:X.stack=X.outer\/(X.stack=X.env::X.outer/\X.env.frame=ar X.env.locals)
 exf:∀b∈X.ex,b≠X.env.locals/\∀x c,X.env.cells.lookup x=ar c->c≠b
 bs:∀b o,X.base.get? b=ar o->X.s₀.heap.get? b=ar o/\X.H₀ b=none
 bsz:X.base.objs.size<=X.s₀.heap.objs.size
 noex:∀b o,X.base.get? b=ar o->b∉X.ex
 exfs:∀b∈X.ex,b∉X.fs
 funs:X.s₀.heap.FunFrames X.base X.outer
 frf:∀b∈X.fs,X.H₀ b=none
structure Inv(X:Cx)(pins:List (dt×Obj))(σ:List (Option V))(H:Hp)(s:dr):Prop where
 ok:X.Ok
 os:s.os=X.s₀.os
 bare:z4 s.gens
 base:Un X.fs X.ex X.H₀ H X.s₀.heap s.heap
 loc:∃m,s.heap.Ns X.env.locals m/\∀(i:Nat) (x:Str) (v:V),X.N[i]? =ar x->σ[i]? =ar (ar v)->Ct X.env.scope x->∃u,RelV v u/\Look X.env s.heap m x u
 cell:∀x c,X.env.cells.lookup x=ar c->∃v,s.heap.IsCell c v
 free:H X.env.locals=none
 freeC:∀x c,X.env.cells.lookup x=ar c->H c=none
 pin:∀p∈X.pn++pins,s.heap.get? p.1=ar p.2/\H p.1=none/\p.1≠X.env.locals/\p.1∉X.fs/\∀v,p.2.data≠ .cell v
 hok:gD X.prog X.w H s.heap
 len:σ.length=X.N.length
section
variable {X:Cx}{pins:List (dt×Obj)}{σ:List (Option V)}{H H':Hp}{s:dr}{h':gg}
def Cx.Ok.nofr(Y:X.Ok)(e:X.base.get? b=ar o):b∉X.fs:=λZ=>by have:=(Y.funs.mem Z).1;rw[e]at this;cases this
theorem Inv.bs(I:Inv X pins σ H s):∀b o,X.base.get? b=ar o->s.heap.get? b=ar o/\H b=none:=λb o e=>
 ⟨I.base.keep b o (I.ok.bs b o e).1 (I.ok.bs b o e).2 (I.ok.nofr e) (I.ok.noex b o e),I.base.free b o (I.ok.bs b o e).1 (I.ok.bs b o e).2 (I.ok.noex b o e)⟩
def Inv.bk(I:Inv X pins σ H s):∀b o,X.base.get? b=ar o->s.heap.get? b=ar o:=λb o e=>(I.bs b o e).1
theorem Inv.mod(I:Inv X pins σ H s):Mod X.K X.mg X.base:=I.ok.mod
def Inv.kIn(I:Inv X pins σ H s):X.K.In s.heap:=I.ok.mod.kin.keeps I.bk
def Inv.fr(I:Inv X pins σ H s):∃m,Fr X.base X.env.locals s.heap m:=
 let ⟨m,hn,_⟩:=I.loc
 ⟨m,hn,I.bk,OR I.ok.bsz I.ok.above⟩
theorem Inv.lt(I:Inv X pins σ H s):X.env.locals<s.heap.objs.size:=let ⟨_,hn,_⟩:=I.loc;hn.lt
def Inv.sz(I:Inv X pins σ H s):X.s₀.heap.objs.size<=s.heap.objs.size:=OR I.ok.above (Qp I.lt)
def Inv.nofs(I:Inv X pins σ H s)(h:s.heap.objs.size<=a):a∉X.fs:=λY=>by obtain⟨_,o,Z,_⟩:=I.ok.funs.mem Y;exact absurd (OU (OJ Z) (OR I.sz h)) (Qd _)
theorem Inv.cne(I:Inv X pins σ H s):∀x c,X.env.cells.lookup x=ar c->c≠X.env.locals:=λx c e z=>by obtain⟨v,o,W,hd⟩:=I.cell x c e;obtain⟨m,⟨U,es,ep,Y,Z,_⟩,_⟩:=I.loc;rw[z,Y]at W;cases W;rw[Z]at hd;cases hd
theorem Inv.funs(I:Inv X pins σ H s):s.heap.FunFrames X.base X.outer:=by
 have all:∀(l:List Env),(∀b∈kY l,b∈X.fs)->X.s₀.heap.FunFrames X.base l->s.heap.FunFrames X.base l:=by
  intro l
  induction l with
  |nil=>intro _ _;trivial
  |cons env r ih=>
   intro hs R;obtain⟨U,⟨L,o,hf,W,T,hd⟩,S⟩:=R;have Z:L∈X.fs:=hs L (by unfold kY;rw[Pr,hf];exact OV);obtain⟨Q,e⟩:=I.base.slot L o T (I.ok.frf L Z) Z λz=>I.ok.exfs L z Z;exact⟨U,⟨L,_,hf,W,e,hd⟩,ih (λb Y=>hs b (by unfold kY;rw[Pr,hf];exact OO _ Y)) S⟩
 exact all X.outer (λ_ Y=>Y) I.ok.funs
theorem Inv.stack(I:Inv X pins σ H s):s.heap.FunFrames X.base X.stack:=by
 rcases I.ok.stk with e|⟨e,hf⟩
 ·rw[e];exact I.funs
 ·rw[e];obtain⟨m,Z,_⟩:=I.loc;refine .cons (by rw[I.ok.kind];decide) hf Z ?_ I.funs;exact PK (OR I.ok.bsz I.ok.above)
def Inv.stkSub(I:Inv X pins σ H s):∀b∈kY X.stack,b∈X.env.locals::X.fs:=λb Z=>by
 rcases I.ok.stk with e|⟨e,hf⟩
 ·rw[e]at Z;exact OO _ Z
 ·rw[e]at Z;unfold kY at Z;rw[Pr,hf]at Z;exact Z
theorem Inv.stkFree(I:Inv X pins σ H s):∀b∈kY X.stack,H b=none:=λb Z=>by
 rcases O2.mp (I.stkSub b Z)with e|Z
 ·rw[e];exact I.free
 ·obtain⟨_,o,Y,_⟩:=I.ok.funs.mem Z;exact I.base.free b o Y (I.ok.frf b Z) λz=>I.ok.exfs b z Z
theorem Inv.step{g':Array Ti}{t':Nat}{d':Drawn}{ch:List dt}(I:Inv X pins σ H s)
  (W:∀b∈ch,(b∈X.ex\/X.s₀.heap.objs.size<=b)/\b≠X.env.locals/\(∀x c,X.env.cells.lookup x=ar c->c≠b)/\∀p∈X.pn++pins,p.1≠b)
  (keep:∀b o,b≠X.env.locals->b∉X.fs->b∉ch->s.heap.get? b=ar o->H b=none->h'.get? b=ar o)
  (S:∀b o,b≠X.env.locals->b∈X.fs->b∉ch->s.heap.get? b=ar o->H b=none->∃E,h'.get? b=ar {o with slots:=E}) (Y:∀b o,b∉ch->s.heap.get? b=ar o->H b=none->H' b=none)
  (R:∀b o,b∉ch->s.heap.get? b=ar o->∃O,h'.get? b=ar O)
  (K:∀b xs,H b=ar (.tup xs)->H' b=ar (.tup xs)) (L:∀b o u,H b=ar (.frz o u)->H' b=ar (.frz o u)) (N:∀b G,H b=ar (.tbl G)->∃more,H' b=ar (.tbl (G++more)))
  (ns:∀m,s.heap.Ns X.env.locals m->h'.Ns X.env.locals m) (C:gD X.prog X.w H' h') (t:z4 g'):
  Inv X pins σ H' {s with heap:=h',gens:=g',drawn:=d',toks:=t'}:=by
 have J:∀b o,X.s₀.heap.get? b=ar o->b≠X.env.locals:=λb o e=>OQ (OU (OJ e) I.ok.above);have T:∀b o,X.s₀.heap.get? b=ar o->b∉X.ex->b∉ch:=λb o e Z Q=>by
  rcases (W b Q).1 with z|z
  ·exact Z z
  ·exact absurd (OU (OJ e) z) (Qd _)
 have cellK:∀x c,X.env.cells.lookup x=ar c->∀v,s.heap.IsCell c v->h'.IsCell c v:=λx c e v ⟨o,P,hd⟩=>by
  have U:c∉ch:=λz=>(W c z).2.2.1 x c e rfl;by_cases hc:c∈X.fs
  ·obtain⟨E,q⟩:=S c o (I.cne x c e) hc U P (I.freeC x c e);exact⟨_,q,hd⟩
  ·exact⟨o,keep c o (I.cne x c e) hc U P (I.freeC x c e),hd⟩
 refine⟨I.ok,I.os,t,⟨λb o e n Q Z=>?_,λb o e n Q Z=>?_,λb o e n Z=>?_,λb o e Z=>?_,λb xs e=>K b xs (I.base.tups b xs e),λb o xs e=>L b o xs (I.base.frzs b o xs e),λb G e=>?_⟩,?_,λx c e=>?_,?_,λx c e=>?_,λp A=>?_,C,I.len⟩
 ·exact keep b o (J b o e) Q (T b o e Z) (I.base.keep b o e n Q Z) (I.base.free b o e n Z)
 ·obtain⟨E,e1⟩:=I.base.slot b o e n Q Z;obtain⟨F,e2⟩:=S b _ (J b o e) Q (T b o e Z) e1 (I.base.free b o e n Z);exact⟨F,e2⟩
 ·obtain⟨O,e1⟩:=I.base.there b o e Z;exact Y b O (T b o e Z) e1 (I.base.free b o e n Z)
 ·obtain⟨O,e1⟩:=I.base.there b o e Z;exact R b O (T b o e Z) e1
 ·obtain⟨h,e1⟩:=I.base.tbls b G e;obtain⟨j,e2⟩:=N b _ e1;exact⟨h++j,by rw[e2,Array.append_assoc]⟩
 ·obtain⟨m,y,g⟩:=I.loc;refine⟨m,ns m y,λi x v e1 e2 e3=>?_⟩;obtain⟨u,r,l⟩:=g i x v e1 e2 e3;refine⟨u,r,?_⟩;rcases l with l|⟨k,c,e,z⟩
  ·exact .inl l
  ·exact .inr ⟨k,c,e,cellK x c e _ z⟩
 ·obtain⟨v,z⟩:=I.cell x c e;exact⟨v,cellK x c e v z⟩
 ·obtain⟨m,⟨o,_,_,P,_⟩,_⟩:=I.loc;exact Y _ o (λz=>(W _ z).2.1 rfl) P I.free
 ·obtain⟨v,o,P,hd⟩:=I.cell x c e;exact Y c o (λz=>(W c z).2.2.1 x c e rfl) P (I.freeC x c e)
 ·obtain⟨e,n,ne,B,d⟩:=I.pin p A;have U:p.1∉ch:=λz=>(W p.1 z).2.2.2 p A rfl;exact⟨keep p.1 p.2 ne B U e n,Y p.1 p.2 U e n,ne,B,d⟩
theorem Inv.un{t':Nat}(I:Inv X pins σ H s)(u:Un X.fs [] H H' s.heap h')(W:gD X.prog X.w H' h'):Inv X pins σ H' {s with heap:=h',toks:=t'}:=by
 obtain⟨m,⟨o,es,ep,T,r⟩,_⟩:=id I.loc;obtain⟨O,S⟩:=u.any T I.free (by simp);exact I.step (g':=s.gens) (d':=s.drawn) (ch:=[]) (λ_ z=>nomatch z) (λb o _ U _ e n=>u.keep b o e n U (by simp)) (λb o _ U _ e n=>u.slot b o e n U (by simp)) (λb o _ e n=>u.free b o e n (by simp)) (λb o _ e=>u.there b o e (by simp)) u.tups u.frzs u.tbls (λQ hm=>by obtain⟨P,es',Y,Z,R⟩:=hm;rw[T]at Z;cases Z;exact⟨_,es',Y,S,R⟩) W I.bare
theorem Inv.call{g':Array Ti}{t':Nat}{d':Drawn}{ch:List dt}(I:Inv X pins σ H s)(u:Un (kY X.stack) ch H H' s.heap h')(S:gD X.prog X.w H' h')(Q:z4 g')
  (W:∀b∈ch,(b∈X.ex\/X.s₀.heap.objs.size<=b)/\b≠X.env.locals/\(∀x c,X.env.cells.lookup x=ar c->c≠b)/\∀p∈X.pn++pins,p.1≠b):
  Inv X pins σ H' {s with heap:=h',gens:=g',drawn:=d',toks:=t'}:=by
 obtain⟨m,⟨o,es,ep,R,r⟩,_⟩:=id I.loc;obtain⟨K,U⟩:=u.any R I.free λz=>(W _ z).2.1 rfl;exact I.step (ch:=ch) W (λb o U O Z e n=>u.keep b o e n (λz=>(O2.mp (I.stkSub b z)).elim U O) Z) (λb o _ _ Z e n=>u.any e n Z) (λb o Z e n=>u.free b o e n Z) (λb o Z e=>u.there b o e Z) u.tups u.frzs u.tbls (λN hm=>by obtain⟨L,es',T,Y,P⟩:=hm;rw[R]at Y;cases Y;exact⟨_,es',T,U,P⟩) S Q
theorem Inv.turned{t':Nat}{it:dt}(I:Inv X pins σ H s)(k:∀b o,b≠it->s.heap.get? b=ar o->h'.get? b=ar o)(T:H it=none)(W:it≠X.env.locals)
  (U:it∈X.ex\/X.s₀.heap.objs.size<=it) (R:∀x c,X.env.cells.lookup x=ar c->c≠it) (S:∀p∈X.pn++pins,p.1≠it):Inv X pins σ H {s with heap:=h',toks:=t'}:=by
 have Y:∀b u,H b=ar u->b≠it:=λb u e z=>by rw[z,T]at e;cases e
 refine I.step (g':=s.gens) (d':=s.drawn) (ch:=[it]) (λb P=>?_) (λb o _ _ Z e _=>k b o (λz=>Z (by simp[z])) e) (λb o _ _ Z e _=>⟨o.slots,k b o (λz=>Z (by simp[z])) e⟩) (λ_ _ _ _ n=>n)
  (λb o Z e=>⟨o,k b o (λz=>Z (by simp[z])) e⟩) (λ_ _ e=>e) (λ_ _ _ e=>e) (λb O e=>⟨#[],by rw[e];simp⟩) (λm hm=>?_) (λb u e=>?_) I.bare
 ·have e:b=it:=by simpa using P
  subst e;exact⟨U,W,R,S⟩
 ·obtain⟨o,es,ep,Q,r⟩:=hm;exact⟨o,es,ep,k _ o (kC W) Q,r⟩
 ·refine(I.hok b u e).stay (λc v Z q=>k c v ?_ q) (λ_ q=>q) λ_ _ q=>q;rcases Z with z|z
  ·rw[z];exact Y b u e
  ·exact Y c _ z
def Inv.tok(I:Inv X pins σ H s)(t:Nat):Inv X pins σ H {s with toks:=t}:=I.un (h':=s.heap) (t':=t) Un.refl I.hok
theorem Inv.kept(I:Inv X pins σ H s)(k:∀b u,s.heap.get? b=ar u->h'.get? b=ar u):Inv X pins σ H {s with heap:=h',toks:=t'}:=I.un (Un.kept k) (I.hok.kept k)
theorem Inv.laid(I:Inv X pins σ H s)(k:∀b u,s.heap.get? b=ar u->h'.get? b=ar u)(Y:s.heap.objs.size<=a)(Z:bC X.prog X.w (upd H a o) h' a o):
  Inv X pins σ (upd H a o) {s with heap:=h',toks:=t'}:=I.un (Un.laid k Y (I.hok.fresh Y)) (I.hok.laid k Y Z)
theorem Inv.write(I:Inv X pins σ H s)(W:MA (H x))(U:e=x\/H e=ar (.own x))(k:∀b u,b≠e->s.heap.get? b=ar u->h'.get? b=ar u)(Z:∃u,h'.get? e=ar u)
  (Y:bC X.prog X.w (upd H x o) h' x o):Inv X pins σ (upd H x o) {s with heap:=h',toks:=t'}:=I.un (Un.write W U k Z) (I.hok.write W U k Z Y)
theorem Inv.pins_of(I:Inv X pins σ H s)(h:∀p∈pins',s.heap.get? p.1=ar p.2/\H p.1=none/\p.1≠X.env.locals/\p.1∉X.fs/\∀v,p.2.data≠ .cell v):Inv X pins' σ H s:=
 ⟨I.ok,I.os,I.bare,I.base,I.loc,I.cell,I.free,I.freeC,λp Z=>(PZ.mp Z).elim (λz=>I.pin p (Q3 _ z)) (h p),I.hok,I.len⟩
def qR{N:List Str}(Z:N.Nodup){i j:Nat}{x:Str}(a:N[i]? =ar x)(b:N[j]? =ar x):i=j:=by obtain⟨Y,e1⟩:=OI.mp a;obtain⟨W,e2⟩:=OI.mp b;exact(SH Z).mp (e1.trans e2.symm)
theorem tX{M:U3}{A:j_}{E:a_->dr->Prop}{i:Nat}{x:Str}{v:V}{u:a_}{Q:Unit->dr->Prop}(I:Inv X pins σ H s)(hN:X.N.Nodup)(J:X.N[i]? =ar x)(Y:Loc X.env.scope x)(r:RelV v u)
  (h:∀s',Inv X pins (σ.set i (ar v)) H s'->(∃a,ri a s.heap s'.heap/\(a=X.env.locals\/X.env.cells.lookup x=ar a))->Q () s') (hf:X.fn x=b_\/X.env.scope.names.lookup x=ar .local:=by first|exact .inl rfl|exact .inr rfl|assumption):eb M A (storeName X.env x u) Q E s:=by
 obtain⟨m,C,hl⟩:=id I.loc;have P:(X.env.scope.kind== .class||(X.env.scope.kind== .module && X.env.locals !=X.env.globals))=false:=by rw[I.ok.kind];rfl
 have U:i<σ.length:=by rw[I.len];exact(OI.mp J).1
 have S:=I.cne;have tracked:∀{a:dt} {h':gg},(∃o,s.heap.get? a=ar o/\H a=none)->ri a s.heap h'->gD X.prog X.w H h':=λ{a h'} ha hs b ob e=>by
  obtain⟨_,_,W⟩:=ha;refine(I.hok b ob e).stay (λc G Z q=>(hs.2 c ?_).trans q) (λ_ q=>q) λ_ _ q=>q;rintro rfl;rcases Z with rfl|Z
  ·rw[W]at e;cases e
  ·rw[W]at Z;cases Z
 rcases Y with hk|hk
 ·refine wpAny_storeName_local hk C (λh' g hs=>?_) P;obtain⟨oL,_,_,a5,_⟩:=id C;refine h _ ⟨I.ok,I.os,I.bare,⟨λb o e n R Y=>?_,λb o e n R Y=>?_,I.base.free,λb o e Y=>?_,I.base.tups,I.base.frzs,I.base.tbls⟩,⟨_,g,λj y f e1 e2 e3=>?_⟩,λy c e=>?_,I.free,I.freeC,λp hp=>?_,tracked ⟨oL,a5,I.free⟩ hs,by simpa using I.len⟩ ⟨_,hs,.inl rfl⟩
  ·exact(hs.2 b (OQ (OU (OJ e) I.ok.above))).trans (I.base.keep b o e n R Y)
  ·obtain⟨sl,e1⟩:=I.base.slot b o e n R Y;exact⟨sl,(hs.2 b (OQ (OU (OJ e) I.ok.above))).trans e1⟩
  ·obtain⟨B,e1⟩:=I.base.there b o e Y;exact⟨B,(hs.2 b (OQ (OU (OJ e) I.ok.above))).trans e1⟩
  ·by_cases hj:j=i
   ·subst hj;rw[J]at e1;cases e1;rw[Pb U]at e2;cases e2;exact⟨u,r,.inl ⟨hk,by simp⟩⟩
   ·rw[Pu (kC hj)]at e2;obtain⟨u',t,q⟩:=hl j y f e1 e2 e3;refine⟨u',t,?_⟩;rcases q with⟨k,e⟩|⟨k,c,e,z⟩
    ·refine .inl ⟨k,?_⟩;have:y≠x:=λe=>hj (qR hN e1 (e ▸ J));simp[this,e]
    ·exact .inr ⟨k,c,e,z.sameBut hs (S y c e)⟩
  ·obtain⟨G,z⟩:=I.cell y c e;exact⟨G,z.sameBut hs (S y c e)⟩
  ·obtain⟨e,n,ne,l,d⟩:=I.pin p hp;exact⟨(hs.2 p.1 ne).trans e,n,ne,l,d⟩
 ·have T:X.fn x=true:=by
   rcases hf with z|z
   ·exact z
   ·rw[z]at hk;cases hk
  obtain⟨c,Z⟩:=I.ok.has x (.inl hk);obtain⟨G,z⟩:=I.cell x c Z;refine wpAny_storeName_cell I.ok.kind hk Z z (λh' L hs=>?_);obtain⟨oc,K,O⟩:=id z;refine h {s with heap:=h'} ⟨I.ok,I.os,I.bare,⟨λb o e n R Y=>?_,λb o e n R Y=>?_,I.base.free,λb o e Y=>?_,I.base.tups,I.base.frzs,I.base.tbls⟩,⟨m,C.sameBut hs (kC (S x c Z)),λj y f e1 e2 e3=>?_⟩,λy F e=>?_,I.free,I.freeC,λp hp=>?_,tracked ⟨oc,K,I.freeC x c Z⟩ hs,by simpa using I.len⟩ ⟨c,hs,.inr Z⟩
  ·exact(hs.2 b (OQ (OU (OJ e) (I.ok.cab x c T Z)))).trans (I.base.keep b o e n R Y)
  ·obtain⟨sl,e1⟩:=I.base.slot b o e n R Y;exact⟨sl,(hs.2 b (OQ (OU (OJ e) (I.ok.cab x c T Z)))).trans e1⟩
  ·obtain⟨B,e1⟩:=I.base.there b o e Y;exact⟨B,(hs.2 b (OQ (OU (OJ e) (I.ok.cab x c T Z)))).trans e1⟩
  ·by_cases hj:j=i
   ·subst hj;rw[J]at e1;cases e1;rw[Pb U]at e2;cases e2;exact⟨u,r,.inr ⟨.inl hk,c,Z,L⟩⟩
   ·rw[Pu (kC hj)]at e2;obtain⟨u',t,q⟩:=hl j y f e1 e2 e3;refine⟨u',t,?_⟩;rcases q with q|⟨k,F,e,z'⟩
    ·exact .inl q
    ·refine .inr ⟨k,F,e,z'.sameBut hs ?_⟩;rintro rfl;exact hj (qR hN e1 (I.ok.inj _ _ _ e Z ▸ J))
  ·by_cases hcc:F=c
   ·subst hcc;exact⟨_,L⟩
   ·obtain⟨w2,z2⟩:=I.cell y F e;exact⟨w2,z2.sameBut hs hcc⟩
  ·obtain⟨e,n,ne,l,d⟩:=I.pin p hp;refine⟨(hs.2 p.1 ?_).trans e,n,ne,l,d⟩;intro q;rw[q,K]at e;have q':oc=p.2:=O5 e;exact d G (by rw[<-q'];exact O)
theorem kZ{Q:Unit->dr->Prop}(I:Inv X pins σ H s)(Z:X.N.Nodup)(U:X.N[i]? =ar x)(W:Loc X.env.scope x)(r:RelV v u)
  (h:∀s',Inv X pins (σ.set i (ar v)) H s'->Q () s') (Y:X.fn x=b_\/X.env.scope.names.lookup x=ar .local:=by first|exact .inl rfl|exact .inr rfl|assumption):eb M A (storeName X.env x u) Q E s:=
 tX I Z U W r (λs' T _=>h s' T) Y
theorem Inv.call'{s':dr}(I:Inv X pins σ H s)(W:s'.os=s.os)(u:Un (kY X.stack) ch H H' s.heap s'.heap)(Y:gD X.prog X.w H' s'.heap)(T:z4 s'.gens)
  (Z:∀b∈ch,(b∈X.ex\/X.s₀.heap.objs.size<=b)/\b≠X.env.locals/\(∀x c,X.env.cells.lookup x=ar c->c≠b)/\∀p∈X.pn++pins,p.1≠b):Inv X pins σ H' s':=by
 obtain⟨h',g',d',t',U⟩:=s';have e:U=s.os:=W;subst e;exact I.call (g':=g') (t':=t') (d':=d') u Y T Z
end
abbrev XK:=a_->Option dt->Hp->Prop
abbrev St:=List (Option V)
abbrev VK:=V->Hp->Prop
abbrev TE:=St->Hp->VK->Prop
abbrev TT:=St->Hp->(Bool->Hp->Prop)->Prop
abbrev TA:=St->Hp->(List V->Hp->Prop)->Prop
structure Ends where
 nx:St->Hp->Prop
 rt:VK
 bk:St->Hp->Prop:=λ_ _=>False
 ct:St->Hp->Prop:=λ_ _=>False
abbrev TS:=Ends->St->Hp->Prop
def EP(X:Cx)(pins:List (dt×Obj))(σ:St)(Q:VK)(u:a_)(s':dr):Prop:=∃v H',Inv X pins σ H' s'/\RelV v u/\Q v H'
def TP(X:Cx)(pins:List (dt×Obj))(σ:St)(Q:Bool->Hp->Prop)(b:Bool)(s':dr):Prop:=∃H',Inv X pins σ H' s'/\Q b H'
def AP(X:Cx)(pins:List (dt×Obj))(σ:St)(Q:List V->Hp->Prop)(us:List a_)(s':dr):Prop:=∃vs H',Inv X pins σ H' s'/\bx vs us/\Q vs H'
def SP(X:Cx)(pins:List (dt×Obj))(D:Ends)(f:Flow)(s':dr):Prop:=
 match f with
 | .next=>∃ σ' H',Inv X pins σ' H' s'/\D.nx σ' H'
 | .brk=>∃ σ' H',Inv X pins σ' H' s'/\D.bk σ' H'
 | .cont=>∃ σ' H',Inv X pins σ' H' s'/\D.ct σ' H'
 | .ret u=>∃v σ' H',Inv X pins σ' H' s'/\RelV v u/\D.rt v H'
def PE(X:Cx)(e:Expr)(t:TE):Prop:=
 ∀(pins:List (dt×Obj)) (s:dr) (σ:St) (H:Hp) (Q:VK),Inv X pins σ H s->t σ H Q->eb (fc X.prog X.w) X.A (hY e X.env) (EP X pins σ Q) X.xe s
def PT(X:Cx)(e:Expr)(t:TT):Prop:=
 ∀(pins:List (dt×Obj)) (s:dr) (σ:St) (H:Hp) (Q:Bool->Hp->Prop),Inv X pins σ H s->t σ H Q->eb (fc X.prog X.w) X.A (isTrue e X.env (hY e X.env)) (TP X pins σ Q) X.xe s
def PW(X:Cx)(e:Expr)(t:TT):Prop:=
 ∀(whole:Sem a_) (pins:List (dt×Obj)) (s:dr) (σ:St) (H:Hp) (Q:Bool->Hp->Prop),Inv X pins σ H s->t σ H Q->eb (fc X.prog X.w) X.A (isTrue e X.env whole) (TP X pins σ Q) X.xe s
def PW.pt(h:PW X e t):PT X e t:=h _
def PA(X:Cx)(es:List Expr)(t:TA):Prop:=
 ∀(pos:Pos) (pins:List (dt×Obj)) (s:dr) (σ:St) (H:Hp) (Q:List V->Hp->Prop),Inv X pins σ H s->t σ H Q->eb (fc X.prog X.w) X.A (spliced (n_ pos (d_ es X.env))) (AP X pins σ Q) X.xe s
def PS(X:Cx)(st:pa)(t:TS):Prop:=
 ∀(pins:List (dt×Obj)) (s:dr) (σ:St) (H:Hp) (D:Ends),Inv X pins σ H s->t D σ H->eb (fc X.prog X.w) X.A (exec st X.env) (SP X pins D) X.xe s
def sT(X:Cx)(st:List pa)(t:TS):Prop:=
 ∀(pins:List (dt×Obj)) (s:dr) (σ:St) (H:Hp) (D:Ends),Inv X pins σ H s->t D σ H->eb (fc X.prog X.w) X.A (execs st X.env) (SP X pins D) X.xe s
def dW{α:Type}{t:Sem α}{Q Z:α->dr->Prop}{M:U3}{A:j_}{E:a_->dr->Prop}{s:dr}(h:eb M A t Q E s)(Y:∀a s,Q a s->Z a s):eb M A t Z E s:=O6 h Y λ_ _ x=>x
section
variable {X:Cx}
def KL(i:Nat):TE:=λσ H Q=>∃v,σ[i]? =ar (ar v)/\Q v H
def tC(v:V):TE:=λ_ H Q=>Q v H
theorem uS(T:X.N[i]? =ar x)(U:Ct X.env.scope x)(Z:(x==("__debug__":Str))=false:=by decide)(Y:(x==("__classdict__":Str))=false:=by decide):PE X (.Name x pos) (KL i):=by
 intro pins s σ H Q I h;obtain⟨v,e,h⟩:=h;obtain⟨m,W,S⟩:=I.loc;obtain⟨u,r,l⟩:=S i x v T e U;have fin:EP X pins σ Q u s:=⟨v,H,I,r,h⟩;rcases l with⟨hk,hm⟩|⟨hk,c,hc,hcell⟩
 ·exact Uw (wpAny_loadName_local I.ok.kind hk W hm fin) Z
 ·rcases hk with hk|hk
  ·exact Uw (wpAny_loadName_cell I.ok.kind hk hc hcell fin) Z
  ·exact Uw (wpAny_loadName_free I.ok.kind hk hc hcell fin Y) Z
def Cy{i j pos}:PE X (.Constant (.int i) j pos) (tC (.int i)):=λ_ _ _ H _ I h=>wpAny_Constant_int ⟨.int i,H,I.tok _,⟨_,rfl⟩,h⟩
def KN{b j pos}:PE X (.Constant (.bool b) j pos) (tC (.bl b)):=λ_ _ _ H _ I h=>Constant_bool ⟨.bl b,H,I,rfl,h⟩
def Ih{j pos}:PE X (.Constant .none j pos) (tC .non):=λ_ _ _ H _ I h=>Constant_none ⟨.non,H,I,rfl,h⟩
def Ii{x j pos}:PE X (.Constant (.str x) j pos) (tC (.str x)):=λ_ _ _ H _ I h=>Calls.Constant_str ⟨.str x,H,I.tok _,⟨_,rfl⟩,h⟩
def Gl(X:Cx)(x:Str):Prop:=X.env.kindOf x=ar .globalImplicit
theorem lW{Q:a_->dr->Prop}(I:Inv X pins σ H s)(Y:Gl X x)(Z:X.mg x=ar u)(h:Q u s)
  (W:(x==("__debug__":Str))=false:=by decide):eb (fc X.prog X.w) X.A (hY (.Name x pos) X.env) Q E s:=
 RZ I.ok.kind Y (Calls.loadGlobal_global (by rw[I.ok.glob];exact I.mod.glob.keeps I.bk) Z h) W
theorem oG{Q:a_->dr->Prop}(I:Inv X pins σ H s)(S:Gl X x)(T:X.mg x=none)(W:k_ x=ar u)(h:Q u s)
  (Y:x≠"__name__":=by decide) (U:(x==("__debug__":Str))=false:=by decide):eb (fc X.prog X.w) X.A (hY (.Name x pos) X.env) Q E s:=by
 obtain⟨P,Z,R⟩:=I.mod.blt;exact RZ I.ok.kind S (Calls.loadGlobal_builtin (by rw[I.ok.glob];exact I.mod.glob.keeps I.bk) T (by rw[I.ok.blt];exact Z.keeps I.bk) ((R x Y).trans W) h) U
def zU(W:Gl X x)(Y:X.mg x=ar u)(r:RelV v u)(Z:(x==("__debug__":Str))=false:=by decide):PE X (.Name x pos) (tC v):=
 λ_ _ _ H _ I h=>lW I W Y ⟨v,H,I,r,h⟩ Z
theorem qy(T:Gl X x)(U:X.mg x=none)(Y:k_ x=ar u)(r:RelV v u)(Z:x≠"__name__":=by decide)(W:(x==("__debug__":Str))=false:=by decide):PE X (.Name x pos) (tC v):=
 λ_ _ _ H _ I h=>oG I T U Y ⟨v,H,I,r,h⟩ Z W
variable {a b:Expr}{ta tb:TE}{pos:Pos}
theorem wA(b:Expr)(h:op≠ .In)(Z:op≠ .NotIn):nD op b=false:=by
 have e1:(op==CmpOp.In)=false:=by cases op<;>first|rfl|exact absurd rfl h
 have e2:(op==CmpOp.NotIn)=false:=by cases op<;>first|rfl|exact absurd rfl Z
 cases b<;>simp[nD,e1,e2]
def tB(t:TE):TT:=λσ H Q=>t σ H λx H1=>∃c,x= .bl c/\Q c H1
theorem Ij(h:PE X e t)(Z:∀whole,isTrue e X.env whole=(do let v<-whole;I_ e.pos;yn [v] (truthy v)):=by intro _;rfl):PT X e (tB t):=by intro pins s σ H Q I hw;refine isTrue_plain (dW (h pins s σ H _ I hw) λv s1 ⟨x,H1,I1,r1,q1⟩=>?_) (Z _);obtain⟨d,rfl,q⟩:=q1;cases r1;exact Pw ⟨H1,I1,q⟩
variable {tA tB':TT}{rest:List Expr}
def MZ(t u:TT):TT:=λσ H Q=>t σ H λc H1=>if c=b_ then u σ H1 Q else Q c_ H1
def Oj(t u:TT):TT:=λσ H Q=>t σ H λc H1=>if c=b_ then Q b_ H1 else u σ H1 Q
def M0(t:TT):TT:=λσ H Q=>t σ H λc H1=>Q (!c) H1
theorem Fw(Z:PT X a tA):PW X (.BoolOp .And [a] pos) tA:=by
 intro Y pins s σ H Q I h;refine isTrue_and (dW (Z pins s σ H Q I h) λc s1 e=>?_);cases c with
 |true=>exact isTrue_and_nil e
 |false=>exact e
theorem Ik(Z:PT X a tA):PW X (.BoolOp .Or [a] pos) tA:=by
 intro Y pins s σ H Q I h;refine isTrue_or (dW (Z pins s σ H Q I h) λc s1 e=>?_);cases c with
 |false=>exact isTrue_or_nil e
 |true=>exact e
theorem Il(Z:PT X a tA)(W:PW X (.BoolOp .And (b::rest) pos) tB'):PW X (.BoolOp .And (a::b::rest) pos) (MZ tA tB'):=by
 intro Y pins s σ H Q I h;refine isTrue_and (dW (Z pins s σ H _ I h) λc s1 ⟨H1,I1,q1⟩=>?_);cases c with
 |true=>exact W Y pins s1 σ H1 Q I1 q1
 |false=>exact⟨H1,I1,q1⟩
theorem KO(Z:PT X a tA)(W:PW X (.BoolOp .Or (b::rest) pos) tB'):PW X (.BoolOp .Or (a::b::rest) pos) (Oj tA tB'):=by
 intro Y pins s σ H Q I h;refine isTrue_or (dW (Z pins s σ H _ I h) λc s1 ⟨H1,I1,q1⟩=>?_);cases c with
 |true=>exact⟨H1,I1,q1⟩
 |false=>exact W Y pins s1 σ H1 Q I1 q1
def Im(Y:PT X a tA):PT X (.UnaryOp .Not a pos) (M0 tA):=by intro pins s σ H Q I h;exact isTrue_not (Y pins s σ H (λc Z=>Q (!c) Z) I h)
def KP(ta tb:TE):TE:=λσ H Q=>ta σ H λx H1=>∃c,x= .bl c/\if c=b_ then tb σ H1 Q else Q (.bl c_) H1
def KQ(ta:TE):TE:=λσ H Q=>ta σ H λx H1=>∃c,x= .bl c/\Q (.bl (!c)) H1
def Io{op}(h:PE X a t):PE X (.BoolOp op [a] pos) t:=λpins s σ H Q I hw=>BoolOp_one (h pins s σ H Q I hw)
theorem Ip(Y:PE X a ta)(W:PE X (.BoolOp .And (b::rest) pos) tb):PE X (.BoolOp .And (a::b::rest) pos) (KP ta tb):=by
 intro pins s σ H Q I h;refine BoolOp_and (dW (Y pins s σ H _ I h) λv s1 ⟨x,H1,I1,r1,Z⟩=>?_);obtain⟨c,rfl,Z⟩:=Z;cases r1;refine Pw ?_;cases c with
 |true=>exact W pins s1 σ H1 Q I1 Z
 |false=>exact⟨.bl c_,H1,I1,rfl,Z⟩
theorem Iq(Y:PE X a ta):PE X (.UnaryOp .Not a pos) (KQ ta):=by intro pins s σ H Q I h;refine UnaryOp_ (dW (Y pins s σ H _ I h) λv s1 ⟨x,H1,I1,r1,Z⟩=>?_);obtain⟨c,rfl,Z⟩:=Z;cases r1;exact not_of (Pw ⟨.bl (!c),H1,I1,rfl,Z⟩)
def Ol(t:TT)(ta tb:TE):TE:=λσ H Q=>t σ H λc H1=>if c=b_ then ta σ H1 Q else tb σ H1 Q
theorem Cz(W:PT X c tA)(Z:PE X a ta)(Y:PE X b tb):PE X (.IfExp c a b pos) (Ol tA ta tb):=by
 intro pins s σ H Q I h;refine wpAny_IfExp (dW (W pins s σ H _ I h) λd s1 ⟨H1,I1,q1⟩=>?_);cases d with
 |true=>exact Z pins s1 σ H1 Q I1 q1
 |false=>exact Y pins s1 σ H1 Q I1 q1
end
def kN(K:dV)(H:Hp)(a:dt)(xs:List V):Prop:=
 Rd H a (.lst xs)\/
  ∃(o:Obj) (its:Array a_) (n:Nat),K.lookup a=ar o/\o.cls= .type "list"/\o.dict=none/\o.data= .seq its n/\its.size<=sizeLine/\bx xs its.toList
def k9(K:dV)(H:Hp)(a:dt)(xs:List V):Prop:=
 Rd H a (.tup xs)\/
  ∃(o:Obj) (its:Array a_) (n:Nat),K.lookup a=ar o/\o.cls= .type "tuple"/\o.data= .seq its n/\its.size<=sizeLine/\bx xs its.toList
def M1:a_->Option V
 | .none=>ar .non
 | .bool b=>ar (.bl b)
 | .int i _=>ar (.int i)
 | .str x _=>ar (.str x)
 | .bytes b _=>ar (.byt b)
 | .float b _=>ar (.flt b)
 | .ref a=>ar (.ref a)
 | .type n=>ar (.ty n)
 |_=>none
theorem RelV.abs(r:RelV x u):M1 u=ar x:=by
 cases x with
 |non=>cases r;rfl
 |bl _=>cases r;rfl
 |int _=>obtain⟨t,rfl⟩:=r;rfl
 |str _=>obtain⟨t,rfl⟩:=r;rfl
 |byt _=>obtain⟨t,rfl⟩:=r;rfl
 |flt _=>obtain⟨t,rfl⟩:=r;rfl
 |ref _=>cases r;rfl
 |ty _=>cases r;rfl
def RelV.inj(r:RelV x u)(q:RelV y u):x=y:=O5 (r.abs.symm.trans q.abs)
theorem bx.inj:∀{xs ys:List V} {us:List a_},bx xs us->bx ys us->xs=ys
 |_,_,_,.nil,.nil=>rfl
 |_,_,_,.cons r t,.cons r' t'=>by rw[r.inj r',bx.inj t t']
section
variable {X:Cx}{pins:List (dt×Obj)}{σ:St}{H:Hp}{s:dr}{a:dt}{xs ys:List V}
def kN.of{K:dV}(h:H a=ar (.lst xs)):kN K H a xs:=.inl (.inl h)
def k9.of{K:dV}(h:H a=ar (.tup xs)):k9 K H a xs:=.inl (.inl h)
theorem Inv.list(I:Inv X pins σ H s)(h:kN X.K H a xs):∃its:List a_,bx xs its/\PlainL s.heap a its.toArray/\xs.length<=sizeLine:=by
 rcases h with h|⟨o,its,n,hk,hc,hd,hs,hz,r⟩
 ·obtain⟨z,its,n,r,e⟩:=h.ok I.hok;exact⟨its,r,⟨_,n,e,rfl,rfl,rfl⟩,z⟩
 ·refine⟨its.toList,r,⟨o,n,I.kIn a o hk,hc,hd,by simpa using hs⟩,?_⟩;have e:=r.length;simp only[EW]at e;omega
theorem Inv.tuple(I:Inv X pins σ H s)(h:k9 X.K H a xs):∃its:List a_,bx xs its/\UM s.heap a its.toArray/\xs.length<=sizeLine:=by
 rcases h with h|⟨o,its,n,hk,hc,hs,hz,r⟩
 ·obtain⟨z,its,r,p⟩:=h.ok I.hok;exact⟨its,r,p,z.1⟩
 ·refine⟨its.toList,r,⟨o,I.kIn a o hk,hc,n,by simpa using hs⟩,?_⟩;have e:=r.length;simp only[EW]at e;omega
theorem Inv.list_inj(I:Inv X pins σ H s)(h:kN X.K H a xs)(h':kN X.K H a ys):xs=ys:=by
 obtain⟨its,r,⟨o,n,e,_,_,d⟩,_⟩:=I.list h;obtain⟨its',Y,⟨W,U,Z,_,_,d'⟩,_⟩:=I.list h';rw[e]at Z;cases Z;rw[d]at d';injection d' with d1 _;have:its=its':=by simpa using Rl Array.toList d1
 subst this;exact r.inj Y
theorem Inv.tuple_inj(I:Inv X pins σ H s)(h:k9 X.K H a xs)(h':k9 X.K H a ys):xs=ys:=by
 obtain⟨its,r,⟨o,e,_,n,d⟩,_⟩:=I.tuple h;obtain⟨its',Y,⟨W,Z,_,U,d'⟩,_⟩:=I.tuple h';rw[e]at Z;cases Z;rw[d]at d';injection d' with d1 _;have:its=its':=by simpa using Rl Array.toList d1
 subst this;exact r.inj Y
end
abbrev Cx.wish(X:Cx)(E:a_->dr->Prop):Cx:={X with xe:=E}
abbrev Cx.nox(X:Cx):Cx:=X.wish λ_ _=>False
theorem Cx.Ok.wish{X:Cx}(Z:X.Ok)(E:a_->dr->Prop):(X.wish E).Ok:=
 ⟨Z.mod,Z.kind,Z.glob,Z.blt,Z.above,Z.inj,Z.has,Z.cab,Z.hd,Z.frames,Z.stk,Z.exf,Z.bs,Z.bsz,Z.noex,Z.exfs,Z.funs,Z.frf⟩
def Cx.Ok.unwish{X:Cx}(Z:(X.wish E).Ok):X.Ok:=
 ⟨Z.mod,Z.kind,Z.glob,Z.blt,Z.above,Z.inj,Z.has,Z.cab,Z.hd,Z.frames,Z.stk,Z.exf,Z.bs,Z.bsz,Z.noex,Z.exfs,Z.funs,Z.frf⟩
section
variable {X:Cx}{pins:List (dt×Obj)}{σ:St}{H:Hp}{s:dr}{E:a_->dr->Prop}
theorem Inv.wish(I:Inv X pins σ H s)(E:a_->dr->Prop):Inv (X.wish E) pins σ H s:=⟨I.ok.wish E,I.os,I.bare,I.base,I.loc,I.cell,I.free,I.freeC,I.pin,I.hok,I.len⟩
theorem Inv.unwish(I:Inv (X.wish E) pins σ H s):Inv X pins σ H s:=⟨I.ok.unwish,I.os,I.bare,I.base,I.loc,I.cell,I.free,I.freeC,I.pin,I.hok,I.len⟩
theorem SP.unwish(h:SP (X.wish E) pins D f s'):SP X pins D f s':=by
 cases f with
 |next=>obtain⟨Z,Y,I,q⟩:=h;exact⟨Z,Y,I.unwish,q⟩
 |brk=>obtain⟨Z,Y,I,q⟩:=h;exact⟨Z,Y,I.unwish,q⟩
 |cont=>obtain⟨Z,Y,I,q⟩:=h;exact⟨Z,Y,I.unwish,q⟩
 |ret u=>obtain⟨v,Z,Y,I,r,q⟩:=h;exact⟨v,Z,Y,I.unwish,r,q⟩
theorem sT.nox{Z:List pa}{t:TS}(h:sT X.nox Z t):sT X Z t:=λpins s σ H D I hw=>
 O6 (h pins s σ H D (I.wish _) hw) (λ_ _ q=>q.unwish) λ_ _ z=>ip z
end
section
variable {X:Cx}{st:pa}{rest:List pa}{t u:TS}{e:Expr}{te:TE}{pos:Pos}
def KR:TS:=λD σ H=>D.nx σ H
def M3(t u:TS):TS:=λD σ H=>t {D with nx:=u D} σ H
def Fx:sT X [] KR:=λ_ _ σ H _ I h=>QR ⟨σ,H,I,h⟩
theorem wB(Y:PS X st t)(T:sT X rest u):sT X (st::rest) (M3 t u):=by
 intro pins s σ H D I h;refine SJ (dW (Y pins s σ H {D with nx:=u D} I h) λf s1 q=>?_);cases f with
 |next=>
  obtain⟨Z,W,U,q⟩:=q;exact T pins s1 Z W D U q
 |ret v=>exact q
 |brk=>exact q
 |cont=>exact q
theorem uT(Z:PS X st t):sT X [st] t:=by
 intro pins s σ H D I h;refine SJ (dW (Z pins s σ H D I h) λf s1 q=>?_);cases f with
 |next=>exact QR q
 |ret v=>exact q
 |brk=>exact q
 |cont=>exact q
def Inv.quiet(I:Inv X pins σ H s):interactive X.env=false:=by simp[interactive,I.ok.kind]
def KS(te:TE):TS:=λD σ H=>te σ H λ_ H1=>D.nx σ H1
theorem Fy(Z:PE X e te)(hs:lb e none pos.line X.env=aC false:=by rfl):PS X (.Expr e pos) (KS te):=by intro pins s σ H D I h;exact wpAny_Expr_any (dW (Z pins s σ H _ I h) λv s1 ⟨x,H1,I1,r1,q1⟩=>⟨σ,H1,I1,q1⟩) I.quiet hs
def M4(te:TE):TS:=λD σ H=>te σ H D.rt
def Ir(Z:PE X e te):PS X (.Return (ar e) pos) (M4 te):=by intro pins s σ H D I h;exact wpAny_Return_some (dW (Z pins s σ H _ I h) λv s1 ⟨x,H1,I1,r1,q1⟩=>⟨x,σ,H1,I1,r1,q1⟩)
def M5(c:TT)(t u:TS):TS:=λD σ H=>c σ H λb H1=>if b=b_ then t D σ H1 else u D σ H1
theorem KU(W:PT X c tc)(Z:sT X a t)(Y:sT X b u):PS X (.If c a b pos) (M5 tc t u):=by
 intro pins s σ H D I h;refine wpAny_If (dW (W pins s σ H _ I h) λd s1 ⟨H1,I1,q1⟩=>?_);cases d with
 |true=>exact Z pins s1 σ H1 D I1 q1
 |false=>exact Y pins s1 σ H1 D I1 q1
end
abbrev TG:=V->St->Hp->(St->Hp->Prop)->Prop
abbrev Iu:=List V->St->Hp->(St->Hp->Prop)->Prop
def PG(X:Cx)(target:Expr)(t:TG):Prop:=
 ∀(pins:List (dt×Obj)) (s:dr) (σ:St) (H:Hp) (v:V) (u:a_) (Q:St->Hp->Prop),Inv X pins σ H s->RelV v u->t v σ H Q->
  eb (fc X.prog X.w) X.A (Sl target X.env u) (λ_ s'=>∃ σ' H',Inv X pins σ' H' s'/\Q σ' H') X.xe s
def Fo(X:Cx)(ts:List Expr)(t:Iu):Prop:=
 ∀(pins:List (dt×Obj)) (s:dr) (σ:St) (H:Hp) (vs:List V) (us:List a_) (Q:St->Hp->Prop),Inv X pins σ H s->bx vs us->t vs σ H Q->
  eb (fc X.prog X.w) X.A (TN ((pb ts X.env).map (·.2)) us) (λ_ s'=>∃ σ' H',Inv X pins σ' H' s'/\Q σ' H') X.xe s
abbrev Iv:=V->V->V->Hp->(Hp->Prop)->Prop
def KW(X:Cx)(t:Iv):Prop:=
 ∀(pins:List (dt×Obj)) (s:dr) (σ:St) (H:Hp) (o i v:V) (ov iv u:a_) (Q:Hp->Prop),Inv X pins σ H s->RelV o ov->RelV i iv->RelV v u->t o i v H Q->
  eb (fc X.prog X.w) X.A (Vj ov iv u) (λ_ s'=>∃H',Inv X pins σ H' s'/\Q H') X.xe s
section
variable {X:Cx}{pos:Pos}
def CA(i:Nat):TG:=λv σ H Q=>Q (σ.set i (ar v)) H
theorem Fz(Z:X.N.Nodup)(U:X.N[i]? =ar x)(W:Loc X.env.scope x)(Y:X.fn x=b_\/X.env.scope.names.lookup x=ar .local:=by first|exact .inl rfl|exact .inr rfl|assumption):PG X (.Name x pos) (CA i):=by intro pins s σ H v u Q I r h;exact wpAny_assign_Name (kZ I Z U W r (λs' T=>⟨_,H,T,h⟩) Y)
def M6:Iu:=λvs σ H Q=>vs=[]/\Q σ H
def KY(t:TG)(u:Iu):Iu:=λvs σ H Q=>∃v r,vs=v::r/\t v σ H λσ' H'=>u r σ' H' Q
def FA:Fo X [] M6:=by intro pins s σ H vs us Q I r h;obtain⟨e,h⟩:=h;subst e;cases r;exact assignInOrder_nil ⟨σ,H,I,h⟩
theorem CB(Z:PG X e t)(Y:Fo X es u)
  (hs:(pb (e::es) X.env).map (·.2)=Sl e X.env::(pb es X.env).map (·.2):=by rfl):Fo X (e::es) (KY t u):=by
 intro pins s σ H vs us Q I r h;obtain⟨v,W,e1,h⟩:=h;subst e1;cases r with
 |cons r rr=>
  rw[hs];refine R1 (dW (Z pins s σ H _ _ _ I r h) λ_ s1 ⟨σ1,H1,I1,q1⟩=>?_);exact Y pins s1 σ1 H1 _ _ Q I1 rr q1
def M7(K:dV)(n:Nat)(t:Iu):TG:=λv σ H Q=>∃a xs,v= .ref a/\k9 K H a xs/\xs.length=n/\t xs σ H Q
theorem Iw(U:X.calm=b_)(h:Fo X es t)
  (W:(pb es X.env).length=n:=by rfl) (Z:(pb es X.env).findIdx? (·.1)=none:=by rfl):PG X (.Tuple es k pos) (M7 X.K n t):=by
 intro pins s σ H v u Q I r hw;obtain⟨a,xs,e1,T,O,hw⟩:=hw;subst e1;cases r;obtain⟨its,Y,P,N⟩:=I.tuple T;refine assign_Tuple_tuple (I.ok.hd U) P (by simp[W, <-O,Y.length]) Z λh' R=>?_;have S:Inv X pins σ H {s with heap:=h'}:=I.kept (t':=s.toks) λb o e=>R b o (OQ (OJ e)) e;exact h pins _ σ H xs _ Q S (by simpa using Y) hw
def M8(to ti:TE)(t:Iv):TG:=λv σ H Q=>to σ H λo H1=>ti σ H1 λi H2=>t o i v H2 λH3=>Q σ H3
theorem Iy(Z:PE X o to)(Y:PE X i ti)(hs:KW X t)
  (W:∀v,Sl (.Subscript o i pos) X.env v=(do
   let ov<-yn [v] (hY o X.env);let iv<-yn [v,ov] (hY i X.env)
   I_ pos
   yn [v,ov,iv] (Vj ov iv v)
   release [v,ov,iv] []):=by intro _;rfl):PG X (.Subscript o i pos) (M8 to ti t):=by
 intro pins s σ H v u Q I r h;rw[W];refine OB (Pl (dW (Z pins s σ H _ I h) λov s1 ⟨x,H1,I1,r1,q1⟩=>?_));refine OB (Pl (dW (Y pins s1 σ H1 _ I1 q1) λiv s2 ⟨y,H2,I2,r2,q2⟩=>?_));refine OB (PL (OB (Pl (dW (hs pins s2 σ H2 x y v ov iv u _ I2 r1 r2 r q2) λ_ s3 ⟨H3,I3,q3⟩=>?_))));exact wpAny_release ⟨σ,H3,I3,q3⟩
def Iz(te:TE)(g:TG):TS:=λD σ H=>te σ H λx H1=>g x σ H1 D.nx
theorem IA(Y:PE X e te)(U:PG X tg g)(hs:LI [tg] e pos.line X.env=aC false:=by rfl)(W:L0 [tg] e X.env=aC none:=by rfl)
  (Z:(pb [tg] X.env).map (·.2)=[Sl tg X.env]:=by rfl):PS X (.Assign [tg] e pos) (Iz te g):=by
 intro pins s σ H D I h;refine wpAny_Assign_stores (dW (Y pins s σ H _ I h) λv s1 ⟨x,H1,I1,r1,q1⟩=>?_) hs W;rw[Z];exact dW (U pins s1 σ H1 x v _ I1 r1 q1) λ_ s2 q=>q
theorem CC(Z:X.N.Nodup)(T:X.N[i]? =ar x)(S:Loc X.env.scope x)(U:PE X e te)(hs:lb e (ar (.Name x pos')) pos.line X.env=aC false:=by rfl)(W:X.fn x=b_\/X.env.scope.names.lookup x=ar .local:=by first|exact .inl rfl|exact .inr rfl|assumption):
  PS X (.Assign [.Name x pos'] e pos) (Iz te (CA i)):=by
 intro pins s σ H D I h;refine wpAny_Assign_Name (dW (U pins s σ H _ I h) λv s1 ⟨y,H1,I1,r1,q1⟩=>?_) hs;exact kZ I1 Z T S r1 (λs2 Y=>⟨_,H1,Y,q1⟩) W
def M9(i j:Nat)(ta:TA):TS:=λD σ H=>ta σ H λvs H1=>∃v w,vs=[v,w]/\D.nx ((σ.set i (ar v)).set j (ar w)) H1
theorem IB{kt k2 pt2}(E:X.calm=b_)(P:X.N.Nodup)(B:X.N[i]? =ar x)(G:X.N[j]? =ar y)(W:i≠j)
  (O:X.env.scope.names.lookup x=ar .local) (R:X.env.scope.names.lookup y=ar .local) (J:PA X [a,b] ta)
  (K:L0 [.Tuple [.Name x px,.Name y py] kt pt] (.Tuple [a,b] k2 pt2) X.env=aC (ar [x,y]))
  (hs:LI [.Tuple [.Name x px,.Name y py] kt pt] (.Tuple [a,b] k2 pt2) pos.line X.env=aC false:=by rfl):
  PS X (.Assign [.Tuple [.Name x px,.Name y py] kt pt] (.Tuple [a,b] k2 pt2) pos) (M9 i j ta):=by
 intro pins s σ H D I h;rw[exec_Assign_arm];refine OB (PL ?_);rw[hs];refine OB (OE ?_);rw[if_neg (by decide)];refine OB (Tuple_ (dW (J _ pins s σ H _ I h) λus s1 ⟨vs,H1,I1,r1,U⟩=>?_));obtain⟨v,w,e1,U⟩:=U;subst e1;obtain⟨Z,Y,rfl,C,T⟩:∃Z Y,us=[Z,Y]/\RelV v Z/\RelV w Y:=by
  cases r1 with
  | cons p q=>
   cases q with
   |cons p' q'=>
    cases q';exact⟨_,_,rfl,p,p'⟩
 refine Pm ?_ (by show 2<=sizeLine;decide);have L:Inv X pins σ H1 {s1 with heap:=s1.heap.push {cls:=.type "tuple",data:=.seq [Z,Y].toArray}}:=I1.kept (t':=s1.toks) λb o e=>OD _ e;rw[K];refine OB (OE ?_);show eb (fc X.prog X.w) X.A (do rule "assign.swapped-stores";let items<-unpackItems (.ref s1.heap.objs.size) 2 none;TN [λv=>TZ X.env y v,λv=>TZ X.env x v] items.reverse;aC Flow.next) _ _ _;refine OB (Re (OB (unpackItems_tuple (items:= #[Z,Y]) (I.ok.hd E) (Ud s1.heap _) λh' S=>?_)));have z:=L.kept (h':=h') (t':=s1.toks) λb o e=>S b o (OQ (OJ e)) e;show eb _ _ (TN [λv=>TZ X.env y v,λv=>TZ X.env x v] [Y,Z]>>=λ_=>aC Flow.next) _ _ _;refine OB (R1 (wpAny_bindName (kZ z P G (.inl R) T (λs2 F=>?_) (.inr R))));refine R1 (wpAny_bindName (kZ F P B (.inl O) C (λs3 Q=>assignInOrder_nil (OE ?_)) (.inr O)));rw[List.set_comm _ _ (kC W)]at Q;exact⟨_,H1,Q,U⟩
def IC(c:TT)(tb:TS):TS:=λD σ H=>∃W:Nat->St->Hp->Prop,(∃m,W m σ H)/\∀m σ H,W m σ H->
 c σ H λb H1=>if b=b_ then ∃N:St->Hp->Prop,(∀ σ' H',N σ' H'->∃m',m'<m/\W m' σ' H')/\tb {D with nx:=N,ct:=N,bk:=D.nx} σ H1 else D.nx σ H1
theorem CD{c:Expr}{body:List pa}{K:TT}{tb:TS}(O:TC (fc X.prog X.w) X.A X.env X.xe)(J:PT X c K)(G:sT X body tb):PS X (.While c body [] pos) (IC K tb):=by
 intro pins s σ H D I h;obtain⟨W,⟨m0,F⟩,turn⟩:=h;refine wpAny_While (codeAny_whileLoop (λn s'=>∃ σ' H',Inv X pins σ' H' s'/\W n σ' H') ?_ m0 ⟨σ,H,I,F⟩);rintro n s1 ⟨σ1,H1,I1,w1⟩;refine Qx O (dW (J pins s1 σ1 H1 _ I1 (turn n σ1 H1 w1)) λb s2 ⟨H2,I2,T⟩=>?_);cases b with
 | true=>
  obtain⟨N,L,T⟩:=T;rw[if_pos rfl];refine Qx O (dW (G pins s2 σ1 H2 _ I2 T) λf s3 U=>?_);cases f with
  |next=>
   obtain⟨Z,Y,P,Q⟩:=U;obtain⟨S,hm,R⟩:=L Z Y Q;exact⟨S,hm,Z,Y,P,R⟩
  |cont=>
   obtain⟨Z,Y,P,Q⟩:=U;obtain⟨S,hm,R⟩:=L Z Y Q;exact⟨S,hm,Z,Y,P,R⟩
  |brk=>exact U
  |ret v=>exact U
 |false=>
  rw[if_neg PU];exact QR ⟨σ1,H2,I2,T⟩
end
structure It where
 go:Nat->Hp->Prop
 yld:Nat->Hp->V->Hp->Prop
 stop:Nat->Hp->Prop
def kO(X:Cx)(pins:List (dt×Obj))(H:Hp)(b:dt):Prop:=
 H b=none/\b≠X.env.locals/\b∉X.fs/\(b∈X.ex\/X.s₀.heap.objs.size<=b)/\(∀x c,X.env.cells.lookup x=ar c->c≠b)/\∀p∈X.pn++pins,p.1≠b
theorem Inv.fpOk{Y:Hp}(I:Inv X pins σ H s)(Z:s.heap.objs.size<=b)(W:Y b=none):kO X pins Y b:=by
 refine⟨W,Qh (OU I.lt Z),I.nofs Z,.inr (OR I.sz Z),λx c e z=>?_,λp U z=>?_⟩
 ·obtain⟨v,q⟩:=I.cell x c e;exact absurd (OU q.lt (by rw[z];exact Z)) (Qd _)
 ·exact absurd (OU (OJ (I.pin p U).1) (by rw[z];exact Z)) (Qd _)
structure Turn(P:ey)(w:fg)(K:dV)(tg:Expr)(J:It)(fp:List dt)(it:dt)(tn:Nat->gg->Prop):Prop where
 mem:it∈fp
 obj:∀i h,tn i h->∀b∈fp,∃o,h.get? b=ar o/\∀v,o.data≠ .cell v
 keep:∀i h h',tn i h->(∀b∈fp,∀o,h.get? b=ar o->h'.get? b=ar o)->tn i h'
 item:∀(X:Cx),X.prog=P->X.w=w->X.K=K->X.calm=b_->∀(i:Nat) (pins:List (dt×Obj)) (s:dr) (σ:St) (H:Hp) (E:a_->dr->Prop),Inv X pins σ H s->(∀b∈fp,kO X pins H b)->tn i s.heap->J.go i H->
  eb (fc P w) X.A (B' (.ref it)) (λr s1=>∃u,r=ar u/\
   eb (fc P w) X.A (C_ tg (.ref it) u) (λ_ s2=>∃x H',Inv X pins σ H' s2/\RelV x u/\J.yld i H x H'/\tn (i+1) s2.heap/\∀b∈fp,H' b=none) E s1) E s
 done:∀(X:Cx),X.prog=P->X.w=w->X.K=K->X.calm=b_->∀(i:Nat) (pins:List (dt×Obj)) (s:dr) (σ:St) (H:Hp) (E:a_->dr->Prop),Inv X pins σ H s->(∀b∈fp,kO X pins H b)->tn i s.heap->J.stop i H->
  eb (fc P w) X.A (B' (.ref it)) (λr s1=>r=none/\Inv X pins σ H s1) E s
 self:∀(A:j_) (i:Nat) (s:dr) (Q:a_->dr->Prop) (E:a_->dr->Prop),tn i s.heap->Q (.ref it) s->eb (fc P w) A (Sw (.ref it)) Q E s
abbrev TI:=St->Hp->(It->Hp->Prop)->Prop
def NY(X:Cx)(pins:List (dt×Obj))(σ:St)(tg:Expr)(R:It->Hp->Prop)(itv:a_)(s2:dr):Prop:=
 ∃(it:dt) (fp:List dt) (tn:Nat->gg->Prop) (J:It) (H':Hp),itv= .ref it/\Inv X pins σ H' s2/\Turn X.prog X.w X.K tg J fp it tn/\tn 0 s2.heap/\(∀b∈fp,kO X pins H' b)/\R J H'
def PI(X:Cx)(tg iter:Expr)(wi:TI):Prop:=
 ∀(pins:List (dt×Obj)) (s:dr) (σ:St) (H:Hp) (R:It->Hp->Prop),Inv X pins σ H s->wi σ H R->
  eb (fc X.prog X.w) X.A (hY iter X.env) (λv s1=>eb (fc X.prog X.w) X.A (Sw v) (NY X pins σ tg R) X.xe s1) X.xe s
theorem CF{s:dr}{Q:Unit->dr->Prop}(U:s.heap.get? it=ar o)(Y:o.cls= .type n)(X:o.data= .fields vs)
    (W:["enumerate","zip","dict_itemiterator","dict_reverseitemiterator","odict_iterator","itertools.zip_longest","itertools.pairwise"].contains n=c_) (Z:Q () s):eb M A (C_ tg (.ref it) u) Q E s:=by
  unfold C_;cases tg <;>first
    |exact OE Z
    |(cases u<;>first
        |exact OE Z
        | (refine OB (wpAny_load U ?_)
           rw[Y,X];show eb M A (if (["enumerate","zip","dict_itemiterator","dict_reverseitemiterator","odict_iterator","itertools.zip_longest","itertools.pairwise"].contains n && vs[0]? ==ar (mv _))=b_ then _ else _) Q E s;rw[if_neg (by intro h;rw[W,Pe]at h;cases h)];exact OE Z))
def MC(K:dV)(a:dt):It:=
 ⟨λi H=>∃xs x,kN K H a xs/\xs[i]? =ar x,λi H x H'=>H'=H/\∀xs,kN K H a xs->xs[i]? =ar x,λi H=>∃xs,kN K H a xs/\xs.length<=i⟩
def Na(K:dV)(a:dt):It:=
 ⟨λi H=>∃xs x,k9 K H a xs/\xs[i]? =ar x,λi H x H'=>H'=H/\∀xs,k9 K H a xs->xs[i]? =ar x,λi H=>∃xs,k9 K H a xs/\xs.length<=i⟩
def KZ(lo:Int)(n:Nat):It:=⟨λi _=>i<n,λi H x H'=>H'=H/\x= .int (lo+i),λi _=>n<=i⟩
theorem A5{P:ey}{w:fg}{K:dV}{t:Expr}(a it:dt):Turn P w K t (MC K a) [it] it (λi h=>h.IsListIter it a i) where
 mem:=by simp
 obj:=λi h st b Z=>by
  have e:b=it:=by simpa using Z
  subst e;obtain⟨o,e,c,d⟩:=st;exact⟨o,e,λv z=>by rw[d]at z;cases z⟩
 keep:=λi h h' st k=>st.at λo e=>k it (by simp) o e
 item:=by intro X T hw O J i pins s σ H E I hf st Q;subst T hw O;obtain⟨xs,x,U,L⟩:=Q;obtain⟨its,N,p,C⟩:=I.list U;obtain⟨u,r,G⟩:=N.get L;obtain⟨f0,f1,f2,R,f4,S⟩:=hf it (by simp);refine wpAny_pyNext_list_item st p.isList (x:=u) (by simpa using r) λh' Y y=>?_;have A:Inv X pins σ H {s with heap:=h'}:=I.turned (t':=s.toks) (λb o Z e=>(y.2 b Z).trans e) f0 f1 R f4 S;obtain⟨o,e,c,d⟩:=id Y;exact⟨u,rfl,CF (s:={s with heap:=h'}) e c d (by decide) ⟨x,H,A,G,⟨rfl,λys F=>by rw[I.list_inj F U];exact L⟩,Y,λb Z=>(hf b Z).1⟩⟩
 done:=by intro X T hw O J i pins s σ H E I hf st Q;subst T hw O;obtain⟨xs,U,L⟩:=Q;obtain⟨its,N,p,C⟩:=I.list U;obtain⟨f0,f1,f2,R,f4,S⟩:=hf it (by simp);have q:=N.length;exact wpAny_pyNext_list_end (I.ok.hd J) st p.isList (by simp;omega) λh' B=>⟨rfl,I.turned (t':=s.toks) (λb o Z e=>B b o Z e) f0 f1 R f4 S⟩
 self:=λ_ _ _ _ _ st h=>wpAny_pyIter_listiter st h
theorem yx{P:ey}{w:fg}{K:dV}{t:Expr}(a it:dt):Turn P w K t (Na K a) [it] it (λi h=>h.IsTupleIter it a i) where
 mem:=by simp
 obj:=λi h st b Z=>by
  have e:b=it:=by simpa using Z
  subst e;obtain⟨o,e,c,d⟩:=st;exact⟨o,e,λv z=>by rw[d]at z;cases z⟩
 keep:=λi h h' st k=>st.at λo e=>k it (by simp) o e
 item:=by intro X T hw O J i pins s σ H E I hf st Q;subst T hw O;obtain⟨xs,x,U,L⟩:=Q;obtain⟨its,N,p,C⟩:=I.tuple U;obtain⟨u,r,G⟩:=N.get L;obtain⟨f0,f1,f2,R,f4,S⟩:=hf it (by simp);refine wpAny_pyNext_tuple_item st (show s.heap.IsTuple a its.toArray from p) (x:=u) (by simpa using r) λh' Y y=>?_;have A:Inv X pins σ H {s with heap:=h'}:=I.turned (t':=s.toks) (λb o Z e=>(y.2 b Z).trans e) f0 f1 R f4 S;obtain⟨o,e,c,d⟩:=id Y;exact⟨u,rfl,CF (s:={s with heap:=h'}) e c d (by decide) ⟨x,H,A,G,⟨rfl,λys F=>by rw[I.tuple_inj F U];exact L⟩,Y,λb Z=>(hf b Z).1⟩⟩
 done:=by intro X T hw O J i pins s σ H E I hf st Q;subst T hw O;obtain⟨xs,U,L⟩:=Q;obtain⟨its,N,p,C⟩:=I.tuple U;obtain⟨f0,f1,f2,R,f4,S⟩:=hf it (by simp);have q:=N.length;exact wpAny_pyNext_tuple_end (I.ok.hd J) st (show s.heap.IsTuple a its.toArray from p) (by simp;omega) λh' B=>⟨rfl,I.turned (t':=s.toks) (λb o Z e=>B b o Z e) f0 f1 R f4 S⟩
 self:=λ_ _ _ _ _ st h=>wpAny_pyIter_tupleiter st h
theorem yy{P:ey}{w:fg}{K:dV}{A:Expr}(it:dt)(U:Int)(n:Nat):Turn P w K A (KZ U n) [it] it (λi h=>IsRangeIter h it (U+(i:Nat)*1) ((n:Int) - (i:Nat)) 1) where
 mem:=by simp
 obj:=λi h st b Z=>by
  have e:b=it:=by simpa using Z
  subst e;exact⟨_,st,λv z=>by have J:Data.fields _=Data.cell v:=z;cases J⟩
 keep:=λi h h' st k=>k it (by simp) _ st
 item:=by intro X N hw Q O i pins s σ H E I hf st R;subst N hw Q;obtain⟨f0,f1,f2,S,f4,T⟩:=hf it (by simp);have W:=Walks.range (prog:=X.prog) (w:=X.w) (I.ok.hd O) it U 1 n;refine W.item i s _ _ R st λv h' L G Y F=>?_;obtain⟨t,rfl⟩:=G;have B:Inv X pins σ H {s with heap:=h',toks:=L}:=I.turned (λb o Z e=>F b o (by simpa using Z) e) f0 f1 S f4 T;refine⟨_,rfl,CF (s:={s with heap:=h',toks:=L}) (n:="range_iterator") Y rfl rfl (by decide) ⟨.int (U+i),H,B,⟨t,?_⟩,⟨rfl,rfl⟩,Y,λb Z=>(hf b Z).1⟩⟩;rw[Int.mul_one]
 done:=by intro X N hw Q O i pins s σ H E I hf st R;subst N hw Q;obtain⟨f0,f1,f2,S,f4,T⟩:=hf it (by simp);exact wpAny_pyNext_range_end (I.ok.hd O) st (by have:n<=i:=R;omega) λh' C=>⟨rfl,I.turned (t':=s.toks) (λb o Z e=>C b o Z e) f0 f1 S f4 T⟩
 self:=λ_ _ _ _ _ st h=>wpAny_pyIter_rangeiter st h
section
variable {X:Cx}{tg:Expr}
def K1(K:dV)(tl:TE):TI:=λσ H R=>tl σ H λx H1=>∃a,x= .ref a/\(∃xs,kN K H1 a xs)/\R (MC K a) H1
def Nb(K:dV)(tl:TE):TI:=λσ H R=>tl σ H λx H1=>∃a,x= .ref a/\(∃xs,k9 K H1 a xs)/\R (Na K a) H1
theorem nq{l:Expr}{Z:TE}(Y:PE X l Z):PI X tg l (K1 X.K Z):=by
 intro pins s σ H R I h;refine dW (Y pins s σ H _ I h) λv s1 ⟨x,H1,I1,r1,q1⟩=>?_;obtain⟨a,e,⟨xs,W⟩,q⟩:=q1;subst e;cases r1;obtain⟨its,S,p,T⟩:=I1.list W;refine RC p.isList ?_;refine⟨s1.heap.objs.size,[s1.heap.objs.size],_,_,H1,rfl,I1.kept (t':=s1.toks) λb o e=>OD _ e,A5 a _,⟨_,OK _ rfl,rfl,rfl⟩,λb U=>?_,q⟩;have e:b=s1.heap.objs.size:=by simpa using U
 subst e;exact I1.fpOk (OF _) (I1.hok.fresh (OF _))
theorem ID{l:Expr}{Z:TE}(Y:PE X l Z):PI X tg l (Nb X.K Z):=by
 intro pins s σ H R I h;refine dW (Y pins s σ H _ I h) λv s1 ⟨x,H1,I1,r1,q1⟩=>?_;obtain⟨a,e,⟨xs,W⟩,q⟩:=q1;subst e;cases r1;obtain⟨its,S,p,T⟩:=I1.tuple W;refine Rm (show s1.heap.IsTuple a its.toArray from p) ?_;refine⟨s1.heap.objs.size,[s1.heap.objs.size],_,_,H1,rfl,I1.kept (t':=s1.toks) λb o e=>OD _ e,yx a _,⟨_,OK _ rfl,rfl,rfl⟩,λb U=>?_,q⟩;have e:b=s1.heap.objs.size:=by simpa using U
 subst e;exact I1.fpOk (OF _) (I1.hok.fresh (OF _))
theorem wC{W:List (dt×Obj)}{U:St}{H:Hp}{s:dr}{R:It->Hp->Prop}{E:a_->dr->Prop}{Z Y:Int}{t u v:Tok}{S:Nat}(I:Inv X W U H s)(Q: -(2 ^ 62)<=Z)(N:Z<2 ^ 62)(P: -(2 ^ 62)<=Y)(O:Y<2 ^ 62)
  (q:R (KZ Z (Y - Z).toNat) H):eb (fc X.prog X.w) X.A (Sw (.ref s.heap.objs.size)) (NY X W U tg R) E {s with heap:=s.heap.push {cls:=.type "range",data:=.fields #[.int Z t,.int Y u,.int 1 v]},toks:=S}:=by
 refine wpAny_pyIter_range (IsRange.new ..) (small_one Q N P O) ?_;have T:Inv X W U H {s with heap:=s.heap.push {cls:=.type "range",data:=.fields #[.int Z t,.int Y u,.int 1 v]},toks:=S}:=I.kept λb o e=>OD _ e;refine⟨(s.heap.push {cls:=.type "range",data:=.fields #[.int Z t,.int Y u,.int 1 v]}).objs.size,[(s.heap.push {cls:=.type "range",data:=.fields #[.int Z t,.int Y u,.int 1 v]}).objs.size],_,_,H,rfl,
  T.kept (t':=S) λb o e=>OD _ e,yy _ Z (Y - Z).toNat,?_,λb L=>?_,q⟩
 ·have e1:Z+((0:Nat):Int)*1=Z:=by simp
  have e2:(((Y - Z).toNat:Nat):Int) - ((0:Nat):Int)=Builtin.Range.rangeSize Z Y 1:=by rw[rangeSize_one];split<;>omega
  show IsRangeIter _ _ (Z+((0:Nat):Int)*1) ((((Y - Z).toNat:Nat):Int) - ((0:Nat):Int)) 1;rw[e1,e2];exact OK _ rfl
 ·have e:b=(s.heap.push {cls:=.type "range",data:=.fields #[.int Z t,.int Y u,.int 1 v]}).objs.size:=by simpa using L
  subst e;exact T.fpOk (OF _) (T.hok.fresh (OF _))
def K2(ta:TA):TI:=λσ H R=>ta σ H λvs H1=>∃j:Int,vs=[.int j]/\ -(2 ^ 62)<=j/\j<2 ^ 62/\R (KZ 0 j.toNat) H1
def K3(ta:TA):TI:=λσ H R=>ta σ H λvs H1=>∃i j:Int,vs=[.int i,.int j]/\(-(2 ^ 62)<=i/\i<2 ^ 62/\ -(2 ^ 62)<=j/\j<2 ^ 62)/\R (KZ i (j - i).toNat) H1
theorem A6{a:Expr}{Y:TA}{p pos:Pos}(U:Gl X "range")(T:X.mg "range"=none)(W:PA X [a] Y)(hs:d_ [a] X.env=[(c_,hY a X.env)]:=by rfl):PI X tg (.Call (.Name "range" p) [a] [] pos) (K2 Y):=by
 intro pins s σ H R I h;refine Call_ (oG I U T boot_range (Ql (dW (W pos pins s σ H _ I h) λus s1 ⟨vs,H1,I1,r1,Z⟩=>?_) hs rfl));obtain⟨j,e,Z,S,q⟩:=Z;subst e;cases r1 with
 |cons r rr=>
  cases rr;obtain⟨t,rfl⟩:=r;exact call_range_1 (wC I1 (by omega) (by omega) Z S (by simpa using q))
theorem A7(T:Gl X "range")(Q:X.mg "range"=none)(U:PA X [a,b] ta)(hs:d_ [a,b] X.env=[(c_,hY a X.env),(c_,hY b X.env)]:=by rfl)(Z:d_ [b] X.env=[(c_,hY b X.env)]:=by rfl):
  PI X tg (.Call (.Name "range" p) [a,b] [] pos) (K3 ta):=by
 intro pins s σ H R I h;refine Call_ (oG I T Q boot_range (Ql (dW (U pos pins s σ H _ I h) λus s1 ⟨vs,H1,I1,r1,Y⟩=>?_) (by rw[hs,Z]) (by rw[Z];rfl)));obtain⟨i,j,e,⟨Y,P,S,W⟩,q⟩:=Y;subst e;cases r1 with
 | cons r rr=>
  cases rr with
  |cons r' rr=>
   cases rr;obtain⟨t,rfl⟩:=r;obtain⟨t',rfl⟩:=r';exact call_range_2 (wC I1 Y P S W q)
def Nd(wi:TI)(g:TG)(tb:TS):TS:=λD σ H=>wi σ H λJ H1=>∃W:Nat->Nat->St->Hp->Prop,(∃m,W 0 m σ H1)/\∀i m σ H,W i m σ H->
 (J.stop i H/\D.nx σ H)\/(J.go i H/\∃N:St->Hp->Prop,(∀ σ' H',N σ' H'->∃m',m'<m/\W (i+1) m' σ' H')/\∀x H',J.yld i H x H'->g x σ H' λσ2 H2=>tb {D with nx:=N,ct:=N,bk:=D.nx} σ2 H2)
def oH(fp:List dt)(h:gg):List (dt×Obj):=fp.filterMap λb=>(h.get? b).map λo=>(b,o)
def gu{h:gg}(Z:b∈fp)(e:h.get? b=ar o):(b,o)∈oH fp h:=Qb.mpr ⟨b,Z,by rw[e];rfl⟩
theorem A8(Z:p∈oH fp h):p.1∈fp/\h.get? p.1=ar p.2:=by
 obtain⟨b,Y,e⟩:=Qb.mp Z;cases q:h.get? b with
 |none=>rw[q]at e;cases e
 |some o=>
  rw[q]at e;have W:(b,o)=p:=O5 e;subst W;exact⟨Y,q⟩
theorem Inv.pinned(I:Inv X pins σ H s)(U:∀b∈fp,kO X pins H b)(W:∀b∈fp,∃o,s.heap.get? b=ar o/\∀v,o.data≠ .cell v):Inv X (pins++oH fp s.heap) σ H s:=
 I.pins_of λp T=>(PZ.mp T).elim (λz=>I.pin p (OZ _ z)) λz=>by obtain⟨Z,e⟩:=A8 z;obtain⟨f0,f1,f2,_⟩:=U p.1 Z;obtain⟨o,Y,d⟩:=W p.1 Z;rw[e]at Y;cases Y;exact⟨e,f0,f1,f2,d⟩
def Inv.unpinned(I:Inv X (pins++pl) σ H s):Inv X pins σ H s:=I.pins_of λp Z=>I.pin p (OZ _ (Q3 _ Z))
theorem IE{Y:Expr}{body:List pa}{B:TI}{g:TG}{tb:TS}{pos:Pos}(K:TC (fc X.prog X.w) X.A X.env X.xe)(z:X.calm=b_)(hi:PI X tg Y B)(c:PG X tg g)(Q:sT X body tb)
  (hs:∀x,kb Y X.env x=aC x:=by intro _;rfl):PS X (.For tg Y body [] pos) (Nd B g tb):=by
 intro pins s σ H D I h;refine wpAny_For (dW (hi pins s σ H _ I h) λv s1 y=>dW y λj s2 p=>?_) hs;obtain⟨it,L,C,J,H2,e,q,T,F,f2,W,⟨m0,w0⟩,turn⟩:=p;subst e;have U:∀{H':Hp},(∀b∈L,H' b=none)->∀b∈L,kO X pins H' b:=λt b Q=>⟨t b Q,(f2 b Q).2⟩;refine codeAny_forLoop_any (λn s'=>∃i σ' H',Inv X pins σ' H' s'/\C i s'.heap/\(∀b∈L,H' b=none)/\W i n σ' H') ?_ m0 ⟨0,σ,H2,q,F,λb Q=>(f2 b Q).1,w0⟩;rintro n s3 ⟨i,σ3,H3,I3,st3,fr3,w3⟩;rcases turn i n σ3 H3 w3 with⟨stop,qn⟩|⟨go,N,hN,step⟩
 ·refine Qx K (dW (T.done X rfl rfl rfl z i pins s3 σ3 H3 X.xe I3 (U fr3) st3 stop) λr s4 ⟨hr,I4⟩=>?_);subst hr;exact QR ⟨σ3,H3,I4,qn⟩
 ·refine Qx K (dW (T.item X rfl rfl rfl z i pins s3 σ3 H3 X.xe I3 (U fr3) st3 go) λr s4 ⟨u,hr,h4⟩=>?_);subst hr;refine Qx K (dW h4 λ_ s5 ⟨x,H5,I5,r5,y5,st5,fr5⟩=>?_);have E:=I5.pinned (U fr5) (T.obj _ _ st5);refine Qx K (dW (c _ s5 σ3 H5 x u _ E r5 (step x H5 y5)) λ_ s6 ⟨σ6,H6,I6,q6⟩=>?_);refine Qx K (dW (Q _ s6 σ6 H6 _ I6 q6) λf G P=>?_);have To:∀{Z:St} {S:Hp},Inv X (pins++oH L s5.heap) Z S G->N Z S->∃m,m<n/\∃i σ' H',Inv X pins σ' H' G/\C i G.heap/\(∀b∈L,H' b=none)/\W i m σ' H':=λ{Z S} R O=>by
   obtain⟨l,hm,a⟩:=hN Z S O;refine⟨l,hm,i+1,Z,S,R.unpinned,T.keep _ _ _ st5 λb Q o e=>(R.pin (b,o) (OZ _ (OZ _ (gu Q e)))).1,λb Q=>?_,a⟩;obtain⟨o,e,d⟩:=T.obj _ _ st5 b Q;exact(R.pin (b,o) (OZ _ (OZ _ (gu Q e)))).2.1
  cases f with
  |next=>obtain⟨Z,S,R,O⟩:=P;exact To R O
  |cont=>obtain⟨Z,S,R,O⟩:=P;exact To R O
  |brk=>obtain⟨Z,S,R,P⟩:=P;exact⟨Z,S,R.unpinned,P⟩
  |ret v=>obtain⟨x7,Z,S,R,k,P⟩:=P;exact⟨x7,Z,S,R.unpinned,k,P⟩
end
abbrev R2:=V->V->Hp->VK->Prop
def iy(X:Cx)(f:a_->a_->Sem a_)(r:R2):Prop:=
 ∀(pins:List (dt×Obj)) (s:dr) (σ:St) (H:Hp) (x y:V) (v u:a_) (Q:VK),Inv X pins σ H s->RelV x v->RelV y u->r x y H Q->
  eb (fc X.prog X.w) X.A (f v u) (EP X pins σ Q) X.xe s
def Nf(X:Cx)(f:a_->Sem a_)(r:V->Hp->VK->Prop):Prop:=
 ∀(pins:List (dt×Obj)) (s:dr) (σ:St) (H:Hp) (x:V) (v:a_) (Q:VK),Inv X pins σ H s->RelV x v->r x H Q->
  eb (fc X.prog X.w) X.A (f v) (EP X pins σ Q) X.xe s
def dm(X:Cx)(f:a_)(r:List V->Hp->VK->Prop):Prop:=
 ∀(pins:List (dt×Obj)) (s:dr) (σ:St) (H:Hp) (xs:List V) (us:List a_) (Q:VK),Inv X pins σ H s->bx xs us->r xs H Q->
  eb (fc X.prog X.w) X.A (call f us) (EP X pins σ Q) X.xe s
def K4(r:R2)(ta tb:TE):TE:=λσ H Q=>ta σ H λx H1=>tb σ H1 λy H2=>r x y H2 Q
def Om(r:V->Hp->VK->Prop)(ta:TE):TE:=λσ H Q=>ta σ H λx H1=>r x H1 Q
def rI(C:Int->Int->Prop)(g:Int->Int->V):R2:=λx y H Q=>∃i j,x= .int i/\y= .int j/\C i j/\Q (g i j) H
def Fp(g:Int->Int->V):R2:=λx y H Q=>∃i j,x= .int i/\y= .int j/\Q (g i j) H
def rU(g:Int->V):V->Hp->VK->Prop:=λx H Q=>∃i,x= .int i/\Q (g i) H
section
variable {X:Cx}{a b c:Expr}{ta tb tc:TE}{pos:Pos}
theorem IF(S:PE X a ta)(P:PE X b tb){R:V->V->Hp->Prop}(I:Inv X pins σ H s)
  (h:ta σ H λx U=>tb σ U λy Z=>R x y Z) {f:a_->a_->Sem a_}
  (T:∀v u s2 x y Z,Inv X pins σ Z s2->RelV x v->RelV y u->R x y Z->eb (fc X.prog X.w) X.A (f v u) Q X.xe s2):
  eb (fc X.prog X.w) X.A (hY a X.env) (λv W=>eb (fc X.prog X.w) X.A (hY b X.env) (λu Y=>eb (fc X.prog X.w) X.A (f v u) Q X.xe Y) X.xe W) X.xe s:=by
 refine dW (S pins s σ H _ I h) λv s1 ⟨x,U,I1,r1,q1⟩=>?_;refine dW (P pins s1 σ U _ I1 q1) λu s2 ⟨y,Z,I2,r2,q2⟩=>?_;exact T v u s2 x y Z I2 r1 r2 q2
theorem K5(U:iy X (r_ op) r)(Y:PE X a ta)(S:PE X b tb):PE X (.BinOp a op b pos) (K4 r ta tb):=by intro pins s σ H Q I h;exact wpAny_BinOp (IF Y S I h λv u s2 x y R Z T W q=>U pins s2 σ R x y v u Q Z T W q)
theorem K6(Z:Nf X (unaryOp op) r)(Y:PE X a ta):PE X (.UnaryOp op a pos) (Om r ta):=by intro pins s σ H Q I h;exact UnaryOp_ (dW (Y pins s σ H _ I h) λv s1 ⟨x,H1,I1,r1,q1⟩=>Z pins s1 σ H1 x v Q I1 r1 q1)
theorem MD{f:a_->a_->Sem a_}{C:Int->Int->Prop}{g:Int->Int->Int}
  (Z:∀(i j:Int) (t u:Tok) (s:dr) (Q:a_->dr->Prop) (E:a_->dr->Prop),C i j->Q (.int (g i j) s.toks) {s with toks:=s.toks+1}->eb (fc X.prog X.w) X.A (f (.int i t) (.int j u)) Q E s):
  iy X f (rI C λi j=>.int (g i j)):=by
 intro pins s σ H x y v u Q I U W h;obtain⟨i,j,rfl,rfl,Y,q⟩:=h;obtain⟨t,rfl⟩:=U;obtain⟨t',rfl⟩:=W;exact Z i j t t' s _ _ Y ⟨.int (g i j),H,I.tok _,⟨_,rfl⟩,q⟩
theorem K7{f:a_->a_->Sem a_}{g:Int->Int->Int}
  (Z:∀(i j:Int) (t u:Tok) (s:dr) (Q:a_->dr->Prop) (E:a_->dr->Prop),Q (.int (g i j) s.toks) {s with toks:=s.toks+1}->eb (fc X.prog X.w) X.A (f (.int i t) (.int j u)) Q E s):
  iy X f (Fp λi j=>.int (g i j)):=by
 intro pins s σ H x y v u Q I W Y h;obtain⟨i,j,rfl,rfl,q⟩:=h;obtain⟨t,rfl⟩:=W;obtain⟨t',rfl⟩:=Y;exact Z i j t t' s _ _ ⟨.int (g i j),H,I.tok _,⟨_,rfl⟩,q⟩
theorem FB{f:a_->a_->Sem a_}{g:Int->Int->Bool}
  (Z:∀(i j:Int) (t u:Tok) (s:dr) (Q:a_->dr->Prop) (E:a_->dr->Prop),Q (.bool (g i j)) s->eb (fc X.prog X.w) X.A (f (.int i t) (.int j u)) Q E s):
  iy X f (Fp λi j=>.bl (g i j)):=by
 intro pins s σ H x y v u Q I W Y h;obtain⟨i,j,rfl,rfl,q⟩:=h;obtain⟨t,rfl⟩:=W;obtain⟨t',rfl⟩:=Y;exact Z i j t t' s _ _ ⟨.bl (g i j),H,I,rfl,q⟩
def A9(i j:Int):Prop:=0<j/\j<1073741824
def FC(i j:Int):Prop:=0<=j/\j<=1000000/\i.natAbs<2 ^ 64
def yz(i j:Int):Prop:=(-(2 ^ 64)<i/\i<2 ^ 64)\/(-(2 ^ 64)<j/\j<2 ^ 64)
def yz.ok{i j:Int}(h:yz i j):IntMulOk i j:=by
 rcases h with⟨h1,h2⟩|⟨h1,h2⟩
 ·exact .of_left (intBits_le_64 h1 h2)
 ·exact .of_right (intBits_le_64 h1 h2)
def IG:iy X (r_ .Add) (Fp λi j=>.int (i+j)):=K7 λ_ _ _ _ _ _ _ q=>add_int q
def IH:iy X (r_ .Sub) (Fp λi j=>.int (i - j)):=K7 λ_ _ _ _ _ _ _ q=>sub_int q
def II:iy X (r_ .Mult) (rI yz λi j=>.int (i*j)):=MD λ_ _ _ _ _ _ _ Z q=>mul_int q Z.ok
theorem FD:iy X (r_ .FloorDiv) (rI A9 λi j=>.int (i / j)):=MD λi j _ _ _ _ _ Z q=>by have Y:(0:Int)<j:=Z.1;have W:j<1073741824:=Z.2;exact floordiv_int (by omega) (by rw[Int.fdiv_eq_ediv_of_nonneg i (by omega)];exact q) (.inl (PyProof.noPylong_small (by omega)))
def IJ:iy X (r_ .Mod) (rI (λ_ j=>0<j) λi j=>.int (i % j)):=MD λi j _ _ _ _ _ Z q=>by have Y:(0:Int)<j:=Z;exact mod_int' (by omega) (by rw[Int.fmod_eq_emod_of_nonneg i (by omega)];exact q)
def IK:iy X (r_ .Pow) (rI FC λi j=>.int (i ^ j.toNat)):=MD λ_ _ _ _ _ _ _ Z q=>pow_int_small Z.1 Z.2.1 Z.2.2 q
theorem On{f:a_->Sem a_}{g:Int->Int}
  (Z:∀(i:Int) (t:Tok) (s:dr) (Q:a_->dr->Prop) (E:a_->dr->Prop),Q (.int (g i) s.toks) {s with toks:=s.toks+1}->eb (fc X.prog X.w) X.A (f (.int i t)) Q E s):
  Nf X f (rU λi=>.int (g i)):=by
 intro pins s σ H x v Q I Y h;obtain⟨i,rfl,q⟩:=h;obtain⟨t,rfl⟩:=Y;exact Z i t s _ _ ⟨.int (g i),H,I.tok _,⟨_,rfl⟩,q⟩
def IL:Nf X (unaryOp .USub) (rU λi=>.int (-i)):=On λ_ _ _ _ _ q=>neg_int q
def CG{Q:VK}(I:Inv X pins σ H s)(q:Q (.bl k) H)(e:k=k'):EP X pins σ Q (.bool k') s:=by subst e;exact⟨.bl k,H,I,rfl,q⟩
def wD:iy X (i_ .Lt) (Fp λi j=>.bl (decide (i<j))):=FB λ_ _ _ _ _ _ _ q=>lt_int q
def tY:iy X (i_ .LtE) (Fp λi j=>.bl (decide (i<=j))):=FB λ_ _ _ _ _ _ _ q=>le_int q
def K8:iy X (i_ .Gt) (Fp λi j=>.bl (decide (j<i))):=FB λ_ _ _ _ _ _ _ q=>gt_int q
def K9:iy X (i_ .GtE) (Fp λi j=>.bl (decide (j<=i))):=FB λ_ _ _ _ _ _ _ q=>ge_int q
theorem IM:iy X (i_ .Is) (λx y H Q=>y= .non/\Q (.bl (decide (x= .non))) H):=by
 intro pins s σ H x y v u Q I Z Y h;obtain⟨rfl,q⟩:=h;cases Y;refine is_none_gen (CG I q ?_);cases x<;>first
  |(cases Z;rfl)
  |(obtain⟨t,rfl⟩:=Z;rfl)
theorem FE:iy X (i_ .IsNot) (λx y H Q=>y= .non/\Q (.bl (!decide (x= .non))) H):=by
 intro pins s σ H x y v u Q I Z Y h;obtain⟨rfl,q⟩:=h;cases Y;refine isnot_none_gen (CG I q ?_);cases x<;>first
  |(cases Z;rfl)
  |(obtain⟨t,rfl⟩:=Z;rfl)
theorem iy.or{r Z:R2}(h:iy X f r)(h':iy X f Z):iy X f (λx y H Q=>r x y H Q\/Z x y H Q):=by
 intro pins s σ H x y v u Q I W Y q;rcases q with q|q
 ·exact h pins s σ H x y v u Q I W Y q
 ·exact h' pins s σ H x y v u Q I W Y q
theorem Ng(b:Expr)(h:op≠ .In:=by decide)(Z:op≠ .NotIn:=by decide):nD op b=false:=by
 have e1:(op==CmpOp.In)=false:=by cases op<;>first|rfl|exact absurd rfl h
 have e2:(op==CmpOp.NotIn)=false:=by cases op<;>first|rfl|exact absurd rfl Z
 cases b<;>simp[nD,e1,e2]
theorem FF(U:iy X (i_ op) r)(Y:PE X a ta)(R:PE X b tb)(T:nD op b=c_):PE X (.Compare a [op] [b] pos) (K4 r ta tb):=by intro pins s σ H Q I h;exact wpAny_Compare1 (IF Y R I h λv u s2 x y P Z S W q=>U pins s2 σ P x y v u Q Z S W q) T
def HC(t:TE):TT:=λσ H Q=>t σ H λx H'=>∃k,x= .bl k/\Q k H'
theorem FH(Z:iy X (i_ op) r)(Y:PE X a ta)(U:PE X b tb)(W:nD op b=c_):PT X (.Compare a [op] [b] pos) (HC (K4 r ta tb)):=by
 intro pins s σ H Q I h;refine wpAny_isTrue_Compare1 (dW (Y pins s σ H _ I h) λv s1 ⟨x,H1,I1,r1,q1⟩=>dW (U pins s1 σ H1 _ I1 q1) λu s2 ⟨y,H2,I2,r2,q2⟩=>
  dW (Z pins s2 σ H2 x y v u _ I2 r1 r2 q2) λc s3 ⟨z,H3,I3,r3,k,e,q3⟩=>?_) W
 subst e;cases r3;exact Pw ⟨H3,I3,q3⟩
def yA(r r':R2)(ta tb tc:TE):TE:=λσ H Q=>ta σ H λx H1=>tb σ H1 λy H2=>r x y H2 λz H3=>∃k,z= .bl k/\
 (if k=b_ then tc σ H3 λw' H4=>r' y w' H4 Q else Q (.bl c_) H3)
theorem CH(Y:iy X (i_ op) r)(Z:iy X (i_ op') r')(W:PE X a ta)(T:PE X b tb)(S:PE X c tc)
  (U:P_ [op,op'] [b,c]=false:=by with_unfolding_all rfl):PE X (.Compare a [op,op'] [b,c] pos) (yA r r' ta tb tc):=by
 intro pins s σ H Q I h;refine Compare_chain (dW (W pins s σ H _ I h) λv s1 ⟨x,H1,I1,r1,q1⟩=>chain_link (dW (T pins s1 σ H1 _ I1 q1) λu s2 ⟨y,H2,I2,r2,q2⟩=>
  dW (Y pins s2 σ H2 x y v u _ I2 r1 r2 q2) λd s3 ⟨z,H3,I3,r3,k,e,q3⟩=>?_)) U
 subst e;cases r3;refine Pw ?_;cases k with
 |false=>exact Vc ⟨.bl c_,H3,I3,rfl,q3⟩
 |true=>exact Vd (chain_last (dW (S pins s3 σ H3 _ I3 q3) λw' s4 ⟨z',H4,I4,r4,q4⟩=>Z pins s4 σ H4 y z' u w' Q I4 r2 r4 q4))
theorem CI(W:iy X (i_ op) r)(Z:iy X (i_ op') r')(U:PE X a ta)(S:PE X b tb)(R:PE X c tc)
  (T:P_ [op,op'] [b,c]=false:=by with_unfolding_all rfl):PT X (.Compare a [op,op'] [b,c] pos) (HC (yA r r' ta tb tc)):=by
 intro pins s σ H Q I h;refine isTrue_chain (dW (U pins s σ H _ I h) λv s1 ⟨x,H1,I1,r1,q1⟩=>UO (dW (S pins s1 σ H1 _ I1 q1) λu s2 ⟨y,H2,I2,r2,q2⟩=>
  dW (W pins s2 σ H2 x y v u _ I2 r1 r2 q2) λd s3 ⟨z,H3,I3,r3,k,e,q3⟩=>?_)) T
 subst e;cases r3;refine Pw ?_;cases k with
 |false=>
  obtain⟨O,P,Y⟩:=q3;cases P;exact Vc ⟨H3,I3,Y⟩
 |true=>
  refine Vd (test_last (dW (R pins s3 σ H3 _ I3 q3) λw' s4 ⟨z',H4,I4,r4,q4⟩=>dW (Z pins s4 σ H4 y z' u w' _ I4 r2 r4 q4) λd' s5 ⟨z2,H5,I5,r5,k2,e2,q5⟩=>?_));subst e2;cases r5;exact Pw ⟨H5,I5,q5⟩
def qS:(sizeLine:Nat)<2 ^ 63:=by rw[PC];decide
theorem vals1(r:bx [x] us):∃u,us=[u]/\RelV x u:=by
 cases r with
 |cons r1 r2=>cases r2;exact⟨_,rfl,r1⟩
theorem vals2(r:bx [x,y] us):∃u w',us=[u,w']/\RelV x u/\RelV y w':=by
 cases r with
 |cons r1 r2=>
  cases r2 with
  |cons r3 r4=>cases r4;exact⟨_,_,rfl,r1,r3⟩
theorem Ba(Z:X.calm=b_):dm X (.builtin "max") (λxs H Q=>∃i j,xs=[.int i,.int j]/\Q (.int (if j>i then j else i)) H):=by
 intro pins s σ H xs us Q I r h;obtain⟨i,j,rfl,q⟩:=h;obtain⟨u,Y,rfl,⟨t,rfl⟩,⟨t',rfl⟩⟩:=vals2 r;refine max_two_ints (I.ok.hd Z) λh' W k=>⟨_,H,I.kept k,?_,q⟩;by_cases hj:j>i
 ·rw[if_pos hj,if_pos hj];exact⟨_,rfl⟩
 ·rw[if_neg hj,if_neg hj];exact⟨_,rfl⟩
theorem Bb(Z:X.calm=b_):dm X (.builtin "min") (λxs H Q=>∃i j,xs=[.int i,.int j]/\Q (.int (if j<i then j else i)) H):=by
 intro pins s σ H xs us Q I r h;obtain⟨i,j,rfl,q⟩:=h;obtain⟨u,Y,rfl,⟨t,rfl⟩,⟨t',rfl⟩⟩:=vals2 r;refine min_two_ints (I.ok.hd Z) λh' W k=>⟨_,H,I.kept k,?_,q⟩;by_cases hj:j<i
 ·rw[if_pos hj,if_pos hj];exact⟨_,rfl⟩
 ·rw[if_neg hj,if_neg hj];exact⟨_,rfl⟩
end
structure ObjM(h:gg)(x dx C:dt)(mA:Str->Option a_):Prop where
 obj:h.get? x=ar (UN C dx)
 ns:h.Ns1 dx mA
 ne:dx≠x
theorem Bc{h:gg}{mA:Str->Option a_}(n:h.Ns1 dx mA):∃od,h.get? dx=ar od/\∀name,T3 name od=ar (mA name):=by
 obtain⟨o,es,ep,U,hd,Y,_,hm⟩:=n;refine⟨o,U,λname=>?_⟩;have e:=hm name;unfold nsFind findBy at e;rw[<-R3]at e;unfold T3;rw[hd];dsimp only;split
 ·rename_i y q
  rw[q]at e;exact Rl ar e
 ·rename_i q
  rw[q]at e;have a:es.toList.any (·.refKey)=false:=by rw[List.any_eq_false];intro y X;obtain⟨z,t,Z⟩:=Y y (RN.mp X);simp[DictEntry.refKey,Z]
  have T:¬ es.toList.any (·.refKey)=true:=by rw[a];exact PU
  rw[if_neg T];exact Rl ar e
def ObjM.look{mA:Str->Option a_}(I:ObjM h x dx C mA):∃od,A' h x (UN C dx) C (ar od)/\∀name,T3 name od=ar (mA name):=
 let ⟨od,ho,hl⟩:=Bc I.ns
 ⟨od,⟨I.obj,rfl,rfl,ho⟩,hl⟩
section
variable {prog:ey}{w:fg}{A:j_}{E:a_->dr->Prop}{s:dr}{K:dV}{x dx C f:dt}{mA:Str->Option a_}{name:Str}{v:a_}
end
theorem uO.some_of(r:uO (ar v) o):∃u,o=ar u/\RelV v u:=by
 cases o with
 |none=>exact(show False from r).elim
 |some u=>exact⟨u,rfl,r⟩
theorem Bd(r:RelV v u):W.handedIn u=true:=by
 cases v with
 |non=>cases (show u=h_ from r);rfl
 |bl b=>cases (show u=q_ b from r);rfl
 |int i=>obtain⟨t,e⟩:=(show ∃t,u=o_ i t from r);cases e;rfl
 |str x=>obtain⟨t,e⟩:=(show ∃t,u=O' x t from r);cases e;rfl
 |byt b=>obtain⟨t,e⟩:=(show ∃t,u=Value.bytes b t from r);cases e;rfl
 |flt b=>obtain⟨t,e⟩:=(show ∃t,u=Tn b t from r);cases e;rfl
 |ref a=>cases (show u=er a from r);rfl
 |ty n=>cases (show u=v_ n from r);rfl
section
variable {P:ey}{w:fg}{H H':Hp}{h h':gg}{a C dx:dt}{fs fs':List (Str×V)}
theorem fw(Z:gD P w H h)(e:H a=ar (.ins C dx fs)):∃mA,ObjM h a dx C mA/\(∀f,uO (fs.lookup f) (mA f))/\PySem.Within mA (fs.map (·.1))/\fs.length<=1000/\H dx=ar (.own a):=by obtain⟨d,z,ne,Y,mA,n,r,q⟩:=(show bC P w H h a (.ins C dx fs)from Z a _ e);exact⟨mA,⟨Y,n,ne⟩,r,q,z,d⟩
end
structure Cls(K:dV)(C:dt):Prop where
 pg:W.plainGet K C Str.empty=b_
 hd:W.hasDictIn K C=b_
 po:W.plainOver K C=b_
 sa:F_ K (.ref C) "__setattr__"=ar (ar (.builtin "object.__setattr__"))
def Cls.get{K:dV}{C:dt}(c:Cls K C)(f:Str):W.plainGet K C f=true:=c.pg
structure Con(K:dV)(C:dt)(f:Str)(v:V)(u:a_):Prop where
 at_:F_ K (.ref C) f=ar (ar u)
 rel:RelV v u
 get:W.specialIn K u "__get__"=ar none
 cp:W.copiedNames.contains f=c_
structure Meth(K:dV)(C:dt)(m:Str)(f:dt):Prop where
 at_:F_ K (.ref C) m=ar (ar (.ref f))
 fn:W.isFn K (.ref f)=b_
 kp:y0 K (.ref f)=b_
section
variable {X:Cx}{pins:List (dt×Obj)}{σ:St}{H:Hp}{s:dr}{a C dx:dt}{fs:List (Str×V)}{f:Str}{v:V}{A:j_}{E:a_->dr->Prop}
theorem FI(Y:nN e f env (hY e env)=hY e env)
  (h:eb (fc prog w) A (hY e env) (λo Z=>eb (fc prog w) A (Vk o f b_) Q E Z) E s):eb (fc prog w) A (hY (.Attribute e f pos) env) Q E s:=
 Attribute_any_ h (by rw[arm_eval_Attribute,Y])
end
section
variable {X:Cx}{o e value:Expr}{f:Str}{pos pos' tpos:Pos}{ta tv:TE}
end
section
variable {X:Cx}{pins:List (dt×Obj)}{σ:St}{H:Hp}{s:dr}{A:j_}{E:a_->dr->Prop}{Q:a_->dr->Prop}{c:a_}{b:Bool}
inductive TyOf(K:dV)(H:Hp):V->a_->Prop where
 |non:TyOf K H .non (.type "NoneType")
 |bl (x:Bool):TyOf K H (.bl x) (.type "bool")
 |int (i:Int):TyOf K H (.int i) (.type "int")
 |str (x:Str):TyOf K H (.str x) (.type "str")
 |flt (x:UInt64):TyOf K H (.flt x) (.type "float")
 |lst {a:dt} {xs:List V} (e:H a=ar (.lst xs)):TyOf K H (.ref a) (.type "list")
 |frz {a:dt} {o:Obj} {xs:List V} (e:H a=ar (.frz o (.lst xs))):TyOf K H (.ref a) (.type "list")
 |tup {a:dt} {xs:List V} (e:H a=ar (.tup xs)):TyOf K H (.ref a) (.type "tuple")
 |dK {a:dt} {kvs:List (Key×V)} (e:H a=ar (.dK kvs)):TyOf K H (.ref a) (.type "dict")
 |dT {a:dt} {kvs:List (List Key×V)} (e:H a=ar (.dT kvs)):TyOf K H (.ref a) (.type "dict")
 | ins {a C dx:dt} {fs:List (Str×V)} (e:H a=ar (.ins C dx fs)) (cl:Cls K C) (ha:F_ K (.ref C) "__class__"=ar (ar (.builtin "object.__class__")))
   (hn:W.specialIn K (.builtin "object.__class__") "__get__"=ar (ar (.builtin "getset_descriptor.__get__"))) (htk:W.takesIn K (.builtin "object.__class__")=ar b_)
   (hm:W.mroIn K C (.type "object")=ar b_):TyOf K H (.ref a) (.ref C)
theorem Be(I:Inv X pins σ H s)(Z:RelV x u)(T:TyOf X.K H x t)(e:qt X.K t c=ar b)(h:∀tk,Q (.bool b) {s with toks:=tk}):
  eb (fc X.prog X.w) A (call (.builtin "isinstance") [u,c]) Q E s:=by
 cases T with
 |non=>cases (show u=h_ from Z);exact PD Sg I.kIn pd e (λz=>nomatch z) h
 |bl y=>cases (show u=q_ y from Z);exact PD W.kitx_bool I.kIn pd e (λz=>nomatch z) h
 |int i=>obtain⟨t,q⟩:=(show ∃t,u=o_ i t from Z);cases q;exact PD W.kitx_int I.kIn pd e (λz=>nomatch z) h
 |str y=>obtain⟨t,q⟩:=(show ∃t,u=O' y t from Z);cases q;exact PD W.kitx_str I.kIn pd e (λz=>nomatch z) h
 |flt y=>obtain⟨t,q⟩:=(show ∃t,u=Tn y t from Z);cases q;exact PD W.kitx_float I.kIn pd e (λz=>nomatch z) h
 | @lst a xs ea=>
  cases (show u=er a from Z);obtain⟨_,_,n,_,Y⟩:=(show bC X.prog X.w H s.heap a (.lst xs)from I.hok a _ ea);exact PD RD I.kIn ⟨_,Y,rfl⟩ e (λz=>nomatch z) h
 | @frz a ob xs ea=>
  cases (show u=er a from Z);obtain⟨_,_,_,n,_,Y⟩:=(show bC X.prog X.w H s.heap a (.frz ob (.lst xs))from I.hok a _ ea);exact PD RD I.kIn ⟨_,Y,rfl⟩ e (λz=>nomatch z) h
 | @tup a xs ea=>
  cases (show u=er a from Z);obtain⟨_,_,_,p⟩:=(show bC X.prog X.w H s.heap a (.tup xs)from I.hok a _ ea);obtain⟨o,Y,U,_⟩:=p;exact PD W.kitx_tuple I.kIn ⟨o,Y,U⟩ e (λz=>nomatch z) h
 | @dK a kvs ea=>
  cases (show u=er a from Z);obtain⟨_,_,vs,_,p⟩:=(show bC X.prog X.w H s.heap a (.dK kvs)from I.hok a _ ea);obtain⟨o,es,ep,Y,U,_⟩:=p;exact PD RE I.kIn ⟨o,Y,U.1⟩ e (λz=>nomatch z) h
 | @dT a kvs ea=>
  cases (show u=er a from Z);obtain⟨_,_,xs,_,o,es,ep,Y,U,_⟩:=(show bC X.prog X.w H s.heap a (.dT kvs)from I.hok a _ ea);exact PD RE I.kIn ⟨o,Y,U.1⟩ e (λz=>nomatch z) h
 | @ins a C dx fs ea cl ha hn htk hm=>
  cases (show u=er a from Z);obtain⟨mA,O,_⟩:=fw I.hok ea;obtain⟨od,J,_⟩:=O.look;exact PD (W.kitx_own (cl.get _) cl.hd ha hn htk hm) I.kIn J e (λz=>nomatch z) h
end
structure Room(k:Nat)(A:j_):Prop where
 hd:A.handled=none
 dp:A.depth+3*k+5<recursionLimit
 un:A.units+16*k+200<y4
def Room.mono(r:Room k A)(h:j<=k):Room j A:=⟨r.hd,by have:=r.dp;omega,by have:=r.un;omega⟩
theorem Room.deeper(r:Room (k+1) A)(env:Env):Room k (A.deeper env):=
 ⟨r.hd,by have:=r.dp;show A.depth+1+3*k+5<_;omega,by have:=r.un;show A.units+3+16*k+200<_;omega⟩
def yB{A:j_}:(A.under (.builtin "type.__call__" ⟨.ref C::us,kw⟩)).depth=A.depth+1:=by first|rfl|simp[T4,Code.weight,Code.isCreation,Code.isGuard,Code.isCaller,Code.frames,T5,guardIds]
def yC{A:j_}:(A.under (.builtin "type.__call__" ⟨.ref C::us,kw⟩)).units=A.units+1:=by first|rfl|simp[T4,Code.cUnits,Code.frames,T5]
def Room.make(r:Room (k+1) A)(C:dt)(us:List a_)(Z:List (Str×a_)):Room k (A.under (.builtin "type.__call__" ⟨.ref C::us,Z⟩)):=
 ⟨r.hd,by have:=r.dp;rw[yB];omega,by have:=r.un;rw[yC];omega⟩
theorem Room.depth(r:Room k A):A.depth<recursionLimit:=by have:=r.dp;omega
def Nh:TA:=λ_ H Q=>Q [] H
def La(ta:TE)(tr:TA):TA:=λσ H Q=>ta σ H λx H1=>tr σ H1 λxs H2=>Q (x::xs) H2
section
variable {X:Cx}{e:Expr}{es:List Expr}{te:TE}{t:TA}{pos:Pos}
def ke:PA X [] Nh:=λ_ _ _ _ H Q I h=>Calls.spliced_nil ⟨[],H,I,.nil,h⟩
theorem eP(Z:PE X e te)(Y:PA X es t)(hs:d_ (e::es) X.env=(c_,hY e X.env)::d_ es X.env:=by rfl):PA X (e::es) (La te t):=by intro pos pins s σ H Q I h;rw[hs];show eb _ _ (spliced ((c_,hY e X.env)::n_ pos (d_ es X.env))) _ _ s;refine Calls.spliced_cons (dW (Z pins s σ H _ I h) λu s1 ⟨x,H1,I1,r1,q1⟩=>?_);exact dW (Y pos pins s1 σ H1 _ I1 q1) λus s2 ⟨xs,H2,I2,r2,q2⟩=>⟨x::xs,H2,I2,.cons r1 r2,q2⟩
def Ni(t:TA):TE:=λσ H Q=>t σ H λxs H1=>xs.length<=sizeLine/\∀p,H1 p=none->Q (.ref p) (upd H1 p (.tup xs))
def Nj(t:TA):TE:=λσ H Q=>t σ H λxs H1=>xs.length<=sizeLine/\∀p,H1 p=none->Q (.ref p) (upd H1 p (.lst xs))
theorem CJ{x1}(h:PA X es t):PE X (.Tuple es x1 pos) (Ni t):=by intro pins s σ H Q I Z;refine wpAny_Tuple_spliced (dW (h pos pins s σ H _ I Z) λus s1 ⟨xs,H1,I1,r,z,q⟩=>⟨by rw[<-r.length];exact z,?_⟩);have hf:H1 s1.heap.objs.size=none:=I1.hok.fresh (OF _);refine⟨.ref s1.heap.objs.size,upd H1 s1.heap.objs.size (.tup xs),I1.laid (t':=s1.toks) (λb u e=>OD _ e) (OF _) ?_,rfl,q _ hf⟩;exact⟨uQ z,us,r,⟨_,OK _ rfl,rfl,_,rfl⟩⟩
theorem IP(h:PA X es t):PE X (.List es pos) (Nj t):=by intro pins s σ H Q I Z;refine wpAny_List_spliced (dW (h pos pins s σ H _ I Z) λus s1 ⟨xs,H1,I1,r,z,q⟩=>⟨by rw[<-r.length];exact z,?_⟩);have hf:H1 s1.heap.objs.size=none:=I1.hok.fresh (OF _);refine⟨.ref s1.heap.objs.size,upd H1 s1.heap.objs.size (.lst xs),I1.laid (t':=s1.toks) (λb u e=>OD _ e) (OF _) ?_,rfl,q _ hf⟩;exact⟨z,us,0,r,OK _ rfl⟩
end
abbrev Sp:=List V->Hp->VK->XK->Prop
abbrev Cu:=List Env->Hp->dr->XK->a_->dr->Prop
structure aO(P:ey)(w:fg)(K:dV)(mg:Str->Option a_)(base:gg)(A:j_)(outer:List Env)(s:dr)(H:Hp):Prop where
 frames:A.frames=ar outer
 mod:Mod K mg base
 bs:∀b o,base.get? b=ar o->s.heap.get? b=ar o/\H b=none
 bsz:base.objs.size<=s.heap.objs.size
 funs:s.heap.FunFrames base outer
 frf:∀b∈kY outer,H b=none
 hok:gD P w H s.heap
 bare:z4 s.gens
def CE(outer:List Env)(P:ey)(w:fg)(H:Hp)(s:dr)(Q:VK)(u:a_)(s':dr):Prop:=
 ∃v H',s'.os=s.os/\z4 s'.gens/\Un (kY outer) [] H H' s.heap s'.heap/\gD P w H' s'.heap/\RelV v u/\Q v H'
def CR(CX:Cu)(outer:List Env)(P:ey)(w:fg)(H:Hp)(s:dr)(Q:VK)(E:XK)(r:UV)(s':dr):Prop:=
 match r with
 | .ok (.ret u)=>CE outer P w H s Q u s'
 | .ok _=>False
 | .error e=>CX outer H s E e s'
structure FnOk(P:ey)(w:fg)(K:dV)(mg:Str->Option a_)(base:gg)(CX:Cu)(k:Nat)(f:dt)(fd:lx)(ps:List Str)(sp:Sp):Prop where
 len:∀vs H Q E,sp vs H Q E->vs.length=ps.length
 run:∀(A:j_) (outer:List Env) (s:dr) (H:Hp) (args:Args) (us:List a_) (vs:List V) (Q:VK) (E:XK),Room k A->aO P w K mg base A outer s H->J_ s fd args (ps.zip us)->bx vs us->sp vs H Q E->
  rn (fc P w) A (.call (.ref f) args) (CR CX outer P w H s Q E) s
theorem aO.make{P:ey}{w:fg}{K:dV}{Z:Str->Option a_}{base:gg}{A:j_}{outer:List Env}{s:dr}{H:Hp}(e:aO P w K Z base A outer s H)(C:dt)(us:List a_)(Y:List (Str×a_)):
  aO P w K Z base (A.under (.builtin "type.__call__" ⟨.ref C::us,Y⟩)) outer s H:=⟨by first|exact e.frames|(simpa [T4,Code.envs,T5,pushEnvs]using e.frames),e.mod,e.bs,e.bsz,e.funs,e.frf,e.hok,e.bare⟩
section
variable {X:Cx}{pins:List (dt×Obj)}{σ:St}{H:Hp}{s s':dr}
def Inv.env0(I:Inv X pins σ H s):aO X.prog X.w X.K X.mg X.base X.A X.stack s H:=
 ⟨I.ok.frames,I.ok.mod,I.bs,OR I.ok.bsz I.sz,I.stack,I.stkFree,I.hok,I.bare⟩
theorem Inv.after(I:Inv X pins σ H s)(h:CE X.stack X.prog X.w H s Q u s'):EP X pins σ Q u s':=by obtain⟨v,U,os,bare,un,Y,r,q⟩:=h;obtain⟨W,g,d,t,Z⟩:=s';obtain rfl:Z=s.os:=os;exact⟨v,U,I.call (h':=W) (g':=g) (d':=d) (t':=t) (ch:=[]) un Y bare (λb z=>absurd z (by simp)),r,q⟩
end
def Lc(sp:Sp)(dvs:List V)(E:XK)(t:TA):TE:=λσ H Q=>t σ H λvs H1=>sp (vs++dvs) H1 Q E
def Binds(K:dV)(fd:lx)(ps:List Str)(ds:List a_):Prop:=
 ∀(s:dr) (us:List a_),K.In s.heap->(us++ds).length=ps.length->J_ s fd ⟨us,[]⟩ (ps.zip (us++ds))
def Binds.all{K:dV}{Y:lx}{Z:List Str}(h:∀us:List a_,us.length=Z.length->Ux Y ⟨us,[]⟩=aC (Z.zip us)):Binds K Y Z []:=λs us _ X=>by rw[Pp]at X⊢;exact .of_eq (h us X)
def qT(CX:Cu)(X:Cx)(E:XK):Prop:=∀(pins:List (dt×Obj)) (σ:St) (H:Hp) (s:dr) (e:a_) (s':dr),Inv X pins σ H s->CX X.stack H s E e s'->X.xe e s'
section
variable {X:Cx}{CX:Cu}{k:Nat}{f C:dt}{fd:lx}{ps:List Str}{sp:Sp}{dvs:List V}{ds:List a_}{E:XK}{x m:Str}{p pos apos:Pos}{e o:Expr}{es:List Expr}{ta:TE}{t:TA}
theorem IQ(F:FnOk X.prog X.w X.K X.mg X.base CX k f fd ps sp)(T:Room k X.A)(R:Binds X.K fd ps ds)(W:bx dvs ds)(U:qT CX X E)
  (I:Inv X pins σ H s) (r:bx vs us) (h:sp (vs++dvs) H Q E):eb (fc X.prog X.w) X.A (call (.ref f) us) (EP X pins σ Q) X.xe s:=by
 have Y:bx (vs++dvs) (us++ds):=r.append W;have S:(us++ds).length=ps.length:=by rw[<-Y.length];exact F.len _ _ _ _ h
 refine Rf (Qi (F.run X.A X.stack s H ⟨us,[]⟩ (us++ds) (vs++dvs) Q E T I.env0 (R s us I.kIn S) Y h) λr s' Z=>?_);cases r with
 |error e=>exact U pins σ H s e s' I Z
 |ok fl=>
  cases fl with
  |ret u=>exact I.after Z
  |next=>exact ip Z
  |brk=>exact ip Z
  |cont=>exact ip Z
theorem zV(F:FnOk X.prog X.w X.K X.mg X.base CX k f fd ps sp)(N:Room k X.A)(R:Gl X x)(L:X.mg x=ar (.ref f))(P:y0 X.K (.ref f)=b_)(J:Binds X.K fd ps ds)(U:bx dvs ds)(O:qT CX X E)
  (S:PA X (e::es) t) (Y:(x==("__debug__":Str))=false:=by decide) (T:d_ (e::es) X.env=(c_,hY e X.env)::d_ es X.env:=by rfl) (Z:(n_ pos (d_ es X.env)).any (·.1)=false:=by rfl):
  PE X (.Call (.Name x p) (e::es) [] pos) (Lc sp dvs E t):=by
 intro pins s σ H Q I h;refine QN (lW I R L ?_ Y);refine W.callWith_K (h₀:=X.base) I.ok.mod.kin P (dW (S pos pins s σ H _ I h) λus s1 ⟨vs,H1,I1,r,q⟩=>⟨I1.kIn,?_⟩) T Z;exact IQ F N J U O I1 r q
structure Mk(K:dV)(C f:dt):Prop where
 makes:W.makesIn K C=b_
 init:F_ K (.ref C) "__init__"=ar (ar (.ref f))
 fn:W.isFn K (.ref f)=b_
 kp:y0 K (.ref C)=b_
end
section
variable {X:Cx}{CX:Cu}{k:Nat}{f C:dt}{fd:lx}{ps ks:List Str}{sp:Sp}{E:XK}{x m:Str}{p pos apos kpos:Pos}{e o:Expr}{es:List Expr}{kws:List Ut}{te ta:TE}{t tk:TA}{nm:Option Str}
structure KBinds(K:dV)(fd:lx)(ps ks:List Str)(g:List a_->List a_->List a_)(gV:List V->List V->List V):Prop where
 to:∀(s:dr) (us ws:List a_),K.In s.heap->(g us ws).length=ps.length->J_ s fd ⟨us,ks.zip ws⟩ (ps.zip (g us ws))
 rel:∀{vs:List V} {us:List a_} {zs:List V} {ws:List a_},bx vs us->bx zs ws->bx (gV vs zs) (g us ws)
variable {g:List a_->List a_->List a_}{gV:List V->List V->List V}
end
structure FnScope(N P:List Str)(sc:Scope):Prop where
 kind:sc.kind= .function
 co:sc.isCoroutine=c_
 gen:sc.isGenerator=c_
 nd:N.Nodup
 pre:N.take P.length=P
 par:∀x∈P,sc.names.lookup x=ar .local\/sc.names.lookup x=ar .cell
 nofree:∀y∈sc.names,y.2≠ .free
theorem tZ{Z:Str->Option m1}{x:Str}:∀{binds:List (Str×a_)} {m:Str->Option a_},(∀v,(x,v)∉binds)->Uy Z binds m x=m x
 |[],_,_=>rfl
 | (n,v)::r,m,h=>by
  unfold Uy;rw[tZ λw hw=>h w (OO _ hw)];split
  ·have:x≠n:=by rintro rfl;exact h v OV
   simp[this]
  ·rfl
theorem t5{Z:Str->Option m1}{x:Str}:∀{binds:List (Str×a_)} {m:Str->Option a_},(∀v,(x,v)∉binds)->Uz Z binds m x=m x
 |[],_,_=>rfl
 | (n,v)::r,m,h=>by
  unfold Uz;rw[t5 λw hw=>h w (OO _ hw)];split
  ·rfl
  ·have:x≠n:=by rintro rfl;exact h v OV
   simp[this]
theorem t6{Z:Str->Option m1}:∀{P:List Str} {vs:List a_} {i:Nat} {m:Str->Option a_},P.Nodup->P[i]? =ar x->vs[i]? =ar v->Z x=ar .local->
  Uy Z (P.zip vs) m x=ar v
 |[],_,_,_,_,h,_,_=>by simp at h
 |_::_,[],_,_,_,_,h,_=>by simp at h
 |p::P,w::vs,0,m,nd,h1,h2,hk=>by
  simp at h1 h2;subst h1;subst h2;show Uy Z ((p,w)::P.zip vs) m p=_;unfold Uy;rw[tZ λv Y=>(PM.mp nd).1 (Rn Y).1,if_pos hk];simp
 |p::P,w::vs,i+1,m,nd,h1,h2,hk=>by
  show Uy Z ((p,w)::P.zip vs) m x=_;unfold Uy;exact t6 (i:=i) (PM.mp nd).2 (by simpa using h1) (by simpa using h2) hk
theorem t7{Z:Str->Option m1}:∀{P:List Str} {vs:List a_} {i:Nat} {m:Str->Option a_},P.Nodup->P[i]? =ar x->vs[i]? =ar v->Z x≠ar .local->
  Uz Z (P.zip vs) m x=ar v
 |[],_,_,_,_,h,_,_=>by simp at h
 |_::_,[],_,_,_,_,h,_=>by simp at h
 |p::P,w::vs,0,m,nd,h1,h2,hk=>by
  simp at h1 h2;subst h1;subst h2;show Uz Z ((p,w)::P.zip vs) m p=_;unfold Uz;rw[t5 λv Y=>(PM.mp nd).1 (Rn Y).1,if_neg hk];simp
 |p::P,w::vs,i+1,m,nd,h1,h2,hk=>by
  show Uz Z ((p,w)::P.zip vs) m x=_;unfold Uz;exact t7 (i:=i) (PM.mp nd).2 (by simpa using h1) (by simpa using h2) hk
def start(N:List Str)(vs:List V):St:=vs.map ar++f' (N.length - vs.length) none
def kP(CX:Cu)(P:ey)(w:fg)(K:dV)(mg:Str->Option a_)(base:gg)(N:List Str)(qual:Str)(scope:Scope)(f:dt)(cd:a_)(A:j_)(outer:List Env)(s:dr)(H:Hp)(E:XK):Cx where
 prog:=P
 w:=w
 K:=K
 mg:=mg
 base:=base
 A:=A.deeper (D_ qual scope s.heap.objs.size f cd)
 N:=N
 s₀:=s
 H₀:=H
 env:=D_ qual scope s.heap.objs.size f cd
 outer:=outer
 stack:=D_ qual scope s.heap.objs.size f cd::outer
 ex:=[]
 calm:=b_
 fn:=λ_=>b_
 pn:=[]
 xe:=λe s'=>eb (fc P w) (A.deeper (D_ qual scope s.heap.objs.size f cd)) (TF (D_ qual scope s.heap.objs.size f cd) e) (λ_ s''=>CX outer H s E e s'') (λe' s''=>CX outer H s E e' s'') s'
def wF{Z:Scope}(h:Z.names.lookup x=ar .cell):∃c,(kS n Z.names []).lookup x=ar c:=by have q:=Rz Z.names n [] (.inl h);exact Px.mp q
theorem Bg{C:Cu}{P:ey}{w:fg}{K:dV}{I:Str->Option a_}{base:gg}{N T:List Str}{qual:Str}{scope:Scope}{f:dt}{L:a_}{A:j_}{outer:List Env}{s F:dr}{H:Hp}{E:XK}{us:List a_}{vs:List V}
  (S:FnScope N T scope) (o:A.handled=none) (Y:aO P w K I base A outer s H) (g:vs.length=T.length) (r:bx vs us)
  (x:InCallC s s.heap.objs.size (Uy (D_ qual scope s.heap.objs.size f L).kindOf (T.zip us) λ_=>none) (kS (s.heap.objs.size+1) scope.names []) (Uz (D_ qual scope s.heap.objs.size f L).kindOf (T.zip us) λ_=>none) F):
  Inv (kP C P w K I base N qual scope f L A outer s H E) [] (start N vs) H F:=by
 have t:T.length<=N.length:=by have:=Rl Uo S.pre;rw[Pk]at this;omega
 obtain⟨O,d,rfl,G⟩:=x.done;have U:∀b:dt,b∉(kP C P w K I base N qual scope f L A outer s H E).ex:=λb z=>absurd (show b∈([]:List dt)from z) (by simp);refine⟨⟨Y.mod,S.kind,rfl,rfl,OF _,λy z c O Z=>?_,λy X=>?_,λy c _ h=>?_,λ_=>o,Around.frames_deeper Y.frames,.inr ⟨rfl,rfl⟩,λb z=>absurd z (U b),Y.bs,Y.bsz,λb _ _=>U b,λb z=>absurd z (U b),Y.funs,Y.frf⟩,
  rfl,Y.bare,Un.kept G,⟨_,x.toInCall.ns,λi y v O Z j=>?_⟩,λy c h=>⟨_,x.cell y c h⟩,Y.hok.fresh (OF _),λy c h=>?_,λp R=>absurd (show p∈([]:List (dt×Obj))from R) (by simp),Y.hok.kept G,?_⟩
 ·exact name_of_addr x.apart (QA O) (QA Z)
 ·have X:scope.names.lookup y=ar .cell\/scope.names.lookup y=ar .free:=X;rcases X with X|X
  ·exact wF X
  ·exact absurd rfl (S.nofree _ (QA X))
 ·exact Qp (x.above y c (QA h))
 ·have J:i<vs.length:=by
   unfold start at Z;by_cases J:i<vs.length
   ·exact J
   ·rw[Q0 (by simpa using J)]at Z;rw[List.getElem?_replicate]at Z;split at Z<;>cases Z
  have m:vs[i]? =ar v:=by
   unfold start at Z;rw[Pf (by simpa using J),O1]at Z;cases e:vs[i]? with
   |none=>rw[e]at Z;cases Z
   |some a=>rw[e]at Z;cases Z;rfl
  obtain⟨u,B,l⟩:=r.get m;have R:T[i]? =ar y:=by rw[<-S.pre,Sh (by omega)];exact O
  have Q:T.Nodup:=by rw[<-S.pre];exact S.nd.sublist (List.take_sublist _ _)
  refine⟨u,l,?_⟩;rcases S.par y (Pa R)with k|k
  ·exact .inl ⟨k,t6 Q R B k⟩
  ·obtain⟨c,e⟩:=wF (n:=s.heap.objs.size+1) k;refine .inr ⟨.inl k,c,e,?_⟩;have q:=x.cell y c e;rw[t7 Q R B (by show scope.names.lookup y≠_;rw[k];decide)]at q;exact q
 ·exact Y.hok.fresh (Qp (x.above y c (QA h)))
 ·unfold start;show _=N.length;rw[OG,OC,QS];omega
theorem CK{B:Cu}{P:ey}{w:fg}{K:dV}{F:Str->Option a_}{base:gg}{k:Nat}{f:dt}{name qual:Str}{params:TH}{body:List pa}{scope:Scope}{h kV G j Z ct a:a_}{i od:Option dt}
  {m:Array (Option a_)} {N C:List Str} {sp:Sp} (c:K.lookup f=ar ⟨a,od,.func (y9 name qual params body scope h kV G j i Z ct),m⟩) (p:Tp K Z qual=b_) (S:FnScope N C scope)
  (R:∀vs H Q E,sp vs H Q E->vs.length=C.length)
  (U:∀(A:j_) (outer:List Env) (s:dr) (H:Hp) (vs:List V) (Q:VK) (E:XK),Room k (A.deeper (D_ qual scope s.heap.objs.size f Z))->sp vs H Q E->
   ∃t,sT (kP B P w K F base N qual scope f Z A outer s H E) body t/\t {nx:=λ_ X=>Q .non X,rt:=Q} (start N vs) H):
  FnOk P w K F base B (k+1) f (y9 name qual params body scope h kV G j i Z ct) C sp:=by
 refine⟨R,λA outer s H args us vs Q E z O hb r L=>?_⟩;have hl:=R _ _ _ _ L;have g:K.In s.heap:=O.mod.kin.keeps λb o e=>(O.bs b o e).1;have lim:s.heap.NoLimit:=O.mod.nolimit.keeps λb o e=>(O.bs b o e).1;have T:∀y∈C.zip us,scope.names.lookup y.1=ar .local\/(scope.names.lookup y.1=ar .cell/\((kS (s.heap.objs.size+1) scope.names []).lookup y.1).isSome=b_):=λ⟨n,v⟩ hy=>by
  rcases S.par n (Rn hy).1 with q|q
  ·exact .inl q
  ·exact .inr ⟨q,Rz _ _ _ (.inl q)⟩
 refine codeAny_call_function z.depth (g _ _ c) rfl S.co S.gen rfl (W.codeRec_of g p) (hb _ _ _ _ ?_);refine wpAny_newFunctionEnv_cells S.kind T λenv he s1 x=>?_;subst he;refine⟨lim.keeps x.toInCall.keep,codeAny_func ?_⟩;obtain⟨t,ht,hq⟩:=U A outer s H vs Q E (z.deeper _) L;have I:Inv (kP B P w K F base N qual scope f Z A outer s H E) [] (start N vs) H s1:=Bg S z.hd O hl r x;refine O6 (ht [] s1 (start N vs) H _ I hq) (λd s' hs=>?_) λe s' hs=>hs;have fin:∀{Y:St} {X:Hp} {v:V} {u:a_},Inv (kP B P w K F base N qual scope f Z A outer s H E) [] Y X s'->RelV v u->Q v X->CE outer P w H s Q u s':=
  λ{Y X v u} J l q=>⟨v,X,J.os,J.bare,J.base,J.hok,l,q⟩
 cases d with
 |ret u=>
  obtain⟨v,Y,X,J,l,q⟩:=hs;exact fin J l q
 |next=>
  obtain⟨Y,X,J,q⟩:=hs;exact fin (v:=V.non) (u:=h_) J rfl q
 |brk=>
  obtain⟨_,_,_,q⟩:=hs;exact ip q
 |cont=>
  obtain⟨_,_,_,q⟩:=hs;exact ip q
section
variable {X:Cx}{x:Str}{p pos:Pos}{e:Expr}{es:List Expr}{t:TA}{id T:String}{r:List V->Hp->VK->Prop}
def Nk(r:List V->Hp->VK->Prop)(t:TA):TE:=λσ H Q=>t σ H λvs H1=>r vs H1 Q
theorem jQ(N:dm X (.builtin id) r)(O:Gl X x)(P:X.mg x=none)(U:k_ x=ar (.builtin id))(R:PA X (e::es) t)(W:x≠"__name__":=by decide)(Y:(x==("__debug__":Str))=false:=by decide)
  (S:d_ (e::es) X.env=(c_,hY e X.env)::d_ es X.env:=by rfl) (Z:(n_ pos (d_ es X.env)).any (·.1)=false:=by rfl):PE X (.Call (.Name x p) (e::es) [] pos) (Nk r t):=by
 intro pins s σ H Q I h;refine QN (oG I O P U ?_ W Y);exact PyProof.Rows.callWith_builtin1 (dW (R pos pins s σ H _ I h) λus s1 ⟨vs,H1,I1,r1,q1⟩=>N pins s1 σ H1 vs us Q I1 r1 q1) S Z
theorem jR(N:dm X (.type T) r)(O:Gl X x)(P:X.mg x=none)(U:k_ x=ar (.type T))(R:PA X (e::es) t)(W:x≠"__name__":=by decide)(Y:(x==("__debug__":Str))=false:=by decide)
  (S:d_ (e::es) X.env=(c_,hY e X.env)::d_ es X.env:=by rfl) (Z:(n_ pos (d_ es X.env)).any (·.1)=false:=by rfl):PE X (.Call (.Name x p) (e::es) [] pos) (Nk r t):=by
 intro pins s σ H Q I h;refine QN (oG I O P U ?_ W Y);exact Ql (dW (R pos pins s σ H _ I h) λus s1 ⟨vs,H1,I1,r1,q1⟩=>N pins s1 σ H1 vs us Q I1 r1 q1) S Z
end
end L2
namespace HT
open PySem PyProof.Rows
def lexLt:List Int->List Int->Bool
 |[],[]=>c_
 |[],_::_=>b_
 |_::_,[]=>c_
 |x::xs,y::ys=>if x=y then lexLt xs ys else decide (x<y)
def lexLt_cons(x y:Int)(xs ys:List Int):lexLt (x::xs) (y::ys)=if x=y then lexLt xs ys else decide (x<y):=rfl
def sU:lexLt [] []=false:=rfl
def qU(y:Int)(ys:List Int):lexLt [] (y::ys)=true:=rfl
def qV(x:Int)(xs:List Int):lexLt (x::xs) []=false:=rfl
def CL(A:j_)(s:dr)(a:Int)(t:Tok)(c:Int)(u:Tok):∃e,SeqAt.EqAt A s (.int a t) (.int c u) e/\(e=b_↔a=c):=
 ⟨(a==c),SeqAt.EqAt.int_int a t c u,by simp⟩
theorem CM(A:j_)(s:dr)(a:Int)(t:Tok)(c:Int)(u:Tok)(prog:ey)(w:fg)(E:a_->dr->Prop)(Q:a_->dr->Prop)(h:Q (.bool (decide (a<c))) s):
  eb (fc prog w) A (richCompare .Lt (.int a t) (.int c u)) Q E s:=
 (PyProof.Rows.lt_int h:eb (fc prog w) A (i_ .Lt (.int a t) (.int c u)) Q E s)
section
open PySem.SeqAt
open PySem.AutoSeq1 (wpAny_loadPart')
open PySem.MeetsSeq PySem.MeetsSeq2 PySem.MeetsSeq3
theorem sV(l b:dt)(items Z:Array a_)(n J:Nat)(dd Q:Option dt)(K S:Array (Option a_))(ns X:List Int)(N:m_ items.toList ns)(O:m_ Z.toList X):
  Meets (Builtin.«tuple.__lt__» ⟨[.ref l,.ref b],[]⟩)
   (λ_ R s=>s.heap.get? l=ar {cls:=.type "tuple",dict:=dd,data:=.seq items n,slots:=K}/\s.heap.get? b=ar {cls:=.type "tuple",dict:=Q,data:=.seq Z J,slots:=S}/\
    R (.ok (.ret (.bool (lexLt ns X)))) s):=
 .of_wp λprog w A R s h=>by
  obtain⟨U,g,d,W,os⟩:=s;obtain⟨L,I,h⟩:=h;have f2:=AutoSeq1.sub_tuple_tuple;have H:items.size=ns.length:=by rw[<-N.length];simp
  have G:Z.size=X.length:=by rw[<-O.length];simp
  wp_walk using wpAny_loadPart' L,wpAny_loadPart' I,RL _ (λrest b s'=>b.1=none/\s'=⟨U,g,d,W,os⟩/\∃(vs ws:List a_) (ns' ms':List Int),rest=vs.zip ws/\
   m_ vs ns'/\m_ ws ms'/\ns'.length+Z.size=ms'.length+items.size/\R (.ok (.ret (.bool (lexLt ns' ms')))) ⟨U,g,d,W,os⟩) _
  case turn=>
   rintro⟨y,x⟩ rest b s' ⟨hb',rfl,vs,ws,ns',ms',hz,hvi,hwi,hlen,hR⟩;cases hvi with
   |nil=>rw[List.zip_nil_left]at hz;cases hz
   | cons a t hvi'=>
    cases hwi with
    |nil=>rw[List.zip_nil_right]at hz;cases hz
    | cons c u hwi'=>
     rw[G2]at hz;injection hz with hyx hrest;injection hyx with hy hx;subst hy hx;rw[lexLt_cons]at hR;simp only[n3]at hlen;obtain⟨e,he,Y⟩:=CL A.in1 ⟨U,g,d,W,os⟩ a t c u;refine OB (he prog w _ _ ?_);cases e with
     |true=>
      rw[if_pos (Y.mp rfl)]at hR
      wp_walk
      exact⟨rfl,rfl,_,_,_,_,hrest,hvi',hwi',by omega,hR⟩
     |false=>
      rw[if_neg (λq=>absurd (Y.mpr q) PU)]at hR;have T:=CM A.in1 ⟨U,g,d,W,os⟩ a t c u prog w
      wp_walk using T
      exact⟨_,rfl,by simpa using hR⟩
  case fin=>
   rintro⟨b1,b2⟩ s' ⟨hb',rfl,vs,ws,ns',ms',hz,hvi,hwi,hlen,hR⟩;simp only at hb';subst hb';have P:lexLt ns' ms'=decide (items.size<Z.size):=by
    cases hvi with
    | nil=>
     cases hwi with
     |nil=>
      simp only[D']at hlen;rw[sU];exact(OY (by omega)).symm
     |cons c u hw=>
      simp only[D',n3]at hlen;rw[qU];exact(OS (by omega)).symm
    | cons a t P=>
     cases hwi with
     |nil=>
      simp only[D',n3]at hlen;rw[qV];exact(OY (by omega)).symm
     |cons c u hw=>
      rw[G2]at hz;cases hz
   rw[P]at hR
   wp_walk
   exact⟨_,rfl,by simpa [Builtin.Tuple.tupleCompareSizes]using hR⟩
  case h=>
   exact⟨rfl,rfl,items.toList,Z.toList,ns,X,rfl,N,O,by omega,h⟩
end
section
variable {prog:ey}{w:fg}{A:j_}{E:a_->dr->Prop}{s:dr}
theorem lt_tupInts{Q:a_->dr->Prop}(L:UM s.heap l items)(K:UM s.heap b items2)(N:m_ items.toList ns)(R:m_ items2.toList ms)
  (J:A.units<y4) (h:Q (.bool (lexLt ns ms)) s):eb (fc prog w) A (i_ .Lt (.ref l) (.ref b)) Q E s:=by
 obtain⟨⟨cls,dd,data,P⟩,S,T,n,hd⟩:=id L;obtain⟨⟨U,X,data2,W⟩,Y,Z,O,hd2⟩:=id K;simp only at T hd Z hd2;subst T hd Z hd2;exact richCompare_meets_room (op:=.Lt) ⟨_,S,rfl⟩ ⟨_,Y,rfl⟩ PySem.F.slot_tuple_lt PySem.F.entry_tuple_lt (PySem.F.args_tuple_lt_2 _ _) (sV l b items items2 n O dd X P W ns ms N R)
  ⟨S,Y,show q_ (lexLt ns ms)≠Value.notImplemented/\Q (.bool (lexLt ns ms)) s from⟨(λx=>nomatch x),h⟩⟩ J
theorem cat_tup{vs Z:List a_}{Q:a_->dr->Prop}(I:UM s.heap t vs.toArray)(H:UM s.heap b Z.toArray)(R:vs≠[])
  (K:Z=[]->Q (.ref t) s) (J:Z≠[]->Q (.ref s.heap.objs.size) {s with heap:=s.heap.push {cls:=.type "tuple",data:=.seq (vs++Z).toArray}})
  (S:vs.length+Z.length<=sizeLine):eb (fc prog w) A (r_ .Add (.ref t) (.ref b)) Q E s:=by
 obtain⟨⟨cls,dd,data,N⟩,T,O,n,hd⟩:=id I;obtain⟨⟨P,W,data2,U⟩,Y,X,L,hd2⟩:=id H;simp only at O hd X hd2;subst O hd X hd2;have e:vs.toArray++Z.toArray=(vs++Z).toArray:=by simp
 by_cases hw:Z=[]
 ·exact T6 ⟨_,T,rfl⟩ ⟨_,Y,rfl⟩ SK TQ RA Ro (Rg _ _)
   (tuple_addW1 t b vs.toArray Z.toArray n L dd W N U (by simpa using R) (by simp[hw])) ⟨T,Y,K hw⟩
 ·refine T6 ⟨_,T,rfl⟩ ⟨_,Y,rfl⟩ SK TQ RA Ro (Rg _ _)
   (tuple_addW2 t b vs.toArray Z.toArray n L dd W N U (by simpa using R) (by simpa using hw) (by rw[OL,OL];exact S)) ⟨T,Y,?_⟩
  rw[e];exact J hw
def sIx(n d:Nat):Option Int->Nat
 |none=>d
 |some v=>if v<0 then (v+(n:Int)).toNat else min v.toNat n
def sIx_none(n d:Nat):sIx n d none=d:=rfl
def sIx_nat(n d k:Nat):sIx n d (ar (k:Int))=min k n:=by show(if (k:Int)<0 then ((k:Int)+(n:Int)).toNat else min (k:Int).toNat n)=min k n;rw[if_neg (by omega),Py]
theorem IR(n d:Nat)(Z:d<=n)(o:Option Int):sIx n d o<=n:=by
 cases o with
 |none=>exact Z
 |some v=>
  show(if v<0 then (v+(n:Int)).toNat else min v.toNat n)<=n;by_cases hv:v<0
  ·rw[if_pos hv];omega
  ·rw[if_neg hv];exact Nat.min_le_right _ _
theorem zW(v:Int)(n d:Nat):(if v<0 then max (v+(n:Int)) 0 else min v (n:Int))=((sIx n d (ar v):Nat):Int):=by
 show(if v<0 then max (v+(n:Int)) 0 else min v (n:Int))=(((if v<0 then (v+(n:Int)).toNat else min v.toNat n):Nat):Int);by_cases hv:v<0
 ·simp only[if_pos hv];omega
 ·simp only[if_neg hv];omega
theorem yD(Z Y:Option Int)(n:Nat):u5 Z Y 1 (n:Int)=(((sIx n 0 Z:Nat):Int),((sIx n n Y:Nat):Int)):=by
 have X:¬ ((1:Int)<0):=by omega
 unfold u5;simp only[X,if_false];refine RH ?_ ?_
 ·cases Z with
  |none=>rfl
  |some v=>exact zW v n 0
 ·cases Y with
  |none=>rfl
  |some v=>exact zW v n n
def yE(i j:Nat):oi (i:Int) (j:Int) 1=j - i:=by
 unfold oi;have Z:(1:Int)>0:=by omega
 simp only[Z,if_true,Int.ediv_one];split<;>omega
theorem qW{Q:Option Int->dr->Prop}(p:TV v o)(h:Q o s):eb (fc prog w) A (Builtin.Slice.slicePartIndex v) Q E s:=by
 cases p with
 |none=>exact slicePart_none h
 |int i t=>exact slicePart_int h
theorem sliceApplied_gen{S:dt}{U T:a_}{Z W:Option Int}{n:Nat}{Q:Int×Int×Nat->dr->Prop}(hs:s.heap.IsSliceOf S U T .none)(O:TV U Z)(P:TV T W)
  (h:Q (((sIx n 0 Z:Nat):Int),1,sIx n n W - sIx n 0 Z) s):eb (fc prog w) A (Builtin.Slice.sliceApplied (.ref S) (aC (n:Int))) Q E s:=by
 obtain⟨os,X,R,Y⟩:=id hs;unfold Builtin.Slice.sliceApplied Builtin.Slice.sliceFields;refine OB (OB (PN X Y (x:=U) rfl (OB (PN X Y (x:=T) rfl (OB (PN X Y (x:=.none) rfl (OE ?_)))))));refine OB (slicePart_none ?_);show eb _ _ (if ((1:Int)==0)=b_ then _ else _) _ _ s;rw[if_neg (by decide)];refine OB (qW O (OB (qW P (OB (OE ?_)))));show eb _ _ (match u5 Z W 1 (n:Int)with|(Z,W)=>aC (Z,(1:Int),oi Z W 1)) _ _ s;rw[yD Z W n];show eb _ _ (aC (((sIx n 0 Z:Nat):Int),(1:Int),oi ((sIx n 0 Z:Nat):Int) ((sIx n n W:Nat):Int) 1)) _ _ s;rw[yE];exact OE h
theorem CN(xs:Array a_)(i k:Nat):((ee k).filterMap λ(m:Nat)=>xs[((i:Int)+(m:Int)*1).toNat]?).toArray=((xs.toList.drop i).take k).toArray:=by
 have e:(λ(m:Nat)=>xs[((i:Int)+(m:Int)*1).toNat]?)=λm=>xs[i+m]? :=by
  funext m;have:((i:Int)+(m:Int)*1).toNat=i+m:=by omega
  rw[this]
 rw[e];have:=pick_run xs i k;rw[List.filterMap_map]at this;have e2:((λx=>xs[x]?)∘λx=>i+x)=λm=>xs[i+m]? :=rfl;rw[e2]at this;rw[this]
theorem getItem_tuple_cut{t R:dt}{items:Array a_}{O N:a_}{Y X:Option Int}{Q:a_->dr->Prop}(W:UM s.heap t items)(hs:s.heap.IsSliceOf R O N .none)(J:TV O Y)(I:TV N X)
  (L:¬ (sIx items.size 0 Y=0/\sIx items.size items.size X=items.size))
  (h:Q (.ref s.heap.objs.size) {s with heap:=s.heap.push {cls:=.type "tuple",data:=.seq ((items.toList.drop (sIx items.size 0 Y)).take (sIx items.size items.size X - sIx items.size 0 Y)).toArray}})
  (H:items.size<=sizeLine):eb (fc prog w) A (T7 (.ref t) (.ref R)) Q E s:=by
 have Z:sizeOk (.seq ((items.toList.drop (sIx items.size 0 Y)).take (sIx items.size items.size X - sIx items.size 0 Y)).toArray):=by show((items.toList.drop (sIx items.size 0 Y)).take (sIx items.size items.size X - sIx items.size 0 Y)).toArray.size<=sizeLine;rw[OL,Pk,P2,QB];omega
 have F:sIx items.size items.size X<=items.size:=IR _ _ (OF _) X;obtain⟨os,S,P,K⟩:=id hs;have U:s.TypeIs (.ref R) "slice":=⟨os,S,P⟩;unfold T7
 try with_reducible refine Pl ?_
 first|refine OB (OE ?_)|skip
 refine OB (wpAny_sequenceKey W.typeIs (by decide) ?_);refine OB (wpAny_callSpecial?_slot (name:=kr "__getitem__") W.typeIs P4
  (PF P4 W.typeIs entry_tuple_getitem ?_ (args_tuple_getitem _ _)))
 show eb _ _ (Builtin.Tuple.tupleItemsOf (.ref t)>>=_) _ _ s;refine OB (tupleItemsOf_ W ?_);refine OB (Rh U ?_);rw[if_pos (by decide)];refine OB (sliceApplied_gen hs J I ?_);have T:¬ ((((sIx items.size 0 Y:Nat):Int)==0 && (1:Int)==1 && (sIx items.size items.size X - sIx items.size 0 Y)==items.size)=b_):=by intro q;rw[Po,Po]at q;have G:((sIx items.size 0 Y:Nat):Int)=0:=Ue q.1.1;have C:sIx items.size items.size X - sIx items.size 0 Y=items.size:=Ue q.2;exact L ⟨by omega,by omega⟩
 show eb _ _ (if (((sIx items.size 0 Y:Nat):Int)==0 && (1:Int)==1 && (sIx items.size items.size X - sIx items.size 0 Y)==items.size)=b_ then _ else _) _ _ s;rw[if_neg T,CN];first
  |exact OB (m:=pe _) (Pm (OE ⟨_,rfl,OE h⟩) Z)
  |exact OB (m:=pe _) (Pm (OB (OE (OE ⟨_,rfl,OE h⟩))) Z)
  |exact OB (OB (m:=pe _) (Pm (OE (OE ⟨_,rfl,OE h⟩)) Z))
  |exact OB (OB (m:=pe _) (Pm (OE ⟨_,rfl,OE h⟩) Z))
end
end HT
namespace L2
open PySem PySem.Spec PyProof.Rows
abbrev TO:=St->Hp->(Option Int->Hp->Prop)->Prop
def PO(X:Cx)(e:Option Expr)(t:TO):Prop:=
 ∀(pins:List (dt×Obj)) (s:dr) (σ:St) (H:Hp) (Q:Option Int->Hp->Prop),Inv X pins σ H s->t σ H Q->
  eb (fc X.prog X.w) X.A (evalPart e X.env) (λu s'=>∃o H',Inv X pins σ H' s'/\TV u o/\Q o H') X.xe s
def FJ:TO:=λ_ H Q=>Q none H
def Ld(t:TE):TO:=λσ H Q=>t σ H λx H1=>∃i,x= .int i/\Q (ar i) H1
theorem RF{ns:List Int}:∀{us:List a_},bx (ns.map V.int) us->m_ us ns:=by
 induction ns with
 |nil=>intro us r;rw[Qj]at r;cases r;exact .nil
 | cons n ns ih=>
  intro us r;rw[OW]at r;cases r with
  |cons r1 r2=>
   obtain⟨t,e⟩:=r1;subst e;exact .cons n t (ih r2)
section
variable {X:Cx}{e:Expr}{te:TE}{lo hi:Option Expr}{tl th:TO}{pos p2:Pos}
def FK:PO X none FJ:=by intro pins s σ H Q I h;rw[evalPart_none];exact OE ⟨none,H,I,.none,h⟩
theorem FL(h:PE X e te):PO X (ar e) (Ld te):=by intro pins s σ H Q I hw;rw[evalPart_some];refine dW (h pins s σ H _ I hw) λu s1 ⟨x,H1,I1,r1,q1⟩=>?_;obtain⟨i,rfl,q⟩:=q1;obtain⟨t,rfl⟩:=r1;exact⟨ar i,H1,I1,.int i t,q⟩
def HD(X:Cx)(r:V->Option Int->Option Int->Hp->VK->Prop):Prop:=
 ∀(pins:List (dt×Obj)) (s:dr) (σ:St) (H:Hp) (x:V) (v vl vu:a_) (lo hi:Option Int) (sl:dt) (Q:VK),Inv X pins σ H s->RelV x v->s.heap.IsSliceOf sl vl vu .none->TV vl lo->TV vu hi->r x lo hi H Q->
  ∃T id,typeLookup (.type T) "__getitem__"=aC (ar (.builtin id))/\s.TypeIs v T/\eb (fc X.prog X.w) X.A (T7 v (.ref sl)) (EP X pins σ Q) X.xe s
theorem HD.or{r Z:V->Option Int->Option Int->Hp->VK->Prop}(h:HD X r)(h':HD X Z):HD X (λx lo hi H Q=>r x lo hi H Q\/Z x lo hi H Q):=by
 intro pins s σ H x v T Y lo hi U Q I S hs W pu q;rcases q with q|q
 ·exact h pins s σ H x v T Y lo hi U Q I S hs W pu q
 ·exact h' pins s σ H x v T Y lo hi U Q I S hs W pu q
def Oo(r:V->Option Int->Option Int->Hp->VK->Prop)(te:TE)(tl th:TO):TE:=λσ H Q=>te σ H λx H1=>tl σ H1 λl H2=>th σ H2 λu H3=>r x l u H3 Q
theorem CO(S:HD X r)(Y:PE X e te)(O:PO X lo tl)(R:PO X hi th):PE X (.Subscript e (.Slice lo hi none p2) pos) (Oo r te tl th):=by intro pins s σ H Q I h;refine Subscript_ (dW (Y pins s σ H _ I h) λv s1 ⟨x,H1,I1,r1,q1⟩=>?_);refine wpAny_Slice (dW (O pins s1 σ H1 _ I1 q1) λvl s2 ⟨l,H2,I2,pl,q2⟩=>dW (R pins s2 σ H2 _ I2 q2) λvu s3 ⟨u,H3,I3,pu,q3⟩=>?_);rw[evalPart_none];refine OE ?_;have U:Inv X pins σ H3 {s3 with heap:=s3.heap.push {cls:=.type "slice",data:=.fields #[vl,vu,.none]}}:=I3.kept (t':=s3.toks) λb N q=>OD _ q;obtain⟨T,id,Z,P,W⟩:=S pins {s3 with heap:=s3.heap.push {cls:=.type "slice",data:=.fields #[vl,vu,.none]}} σ H3 x v vl vu l u s3.heap.objs.size Q U r1 (Heap.IsSliceOf.new ..) pl pu q3;show eb (fc X.prog X.w) X.A (subscriptTail e (.Slice lo hi none p2) v (.ref s3.heap.objs.size)) (EP X pins σ Q) X.xe {s3 with heap:=s3.heap.push {cls:=.type "slice",data:=.fields #[vl,vu,.none]}};exact tail_any (ops:=[.ref s3.heap.objs.size,v]) P Z W (by with_unfolding_all rfl)
def sW(xs:List V)(lo hi:Option Int):List V:=(xs.drop (HT.sIx xs.length 0 lo)).take (HT.sIx xs.length xs.length hi - HT.sIx xs.length 0 lo)
def pO(xs:List V)(lo hi:Option Int):(sW xs lo hi).length<=xs.length:=by unfold sW;rw[Pk,P2];omega
def Nl(K:dV):V->Option Int->Option Int->Hp->VK->Prop:=λx lo hi H Q=>∃a xs,x= .ref a/\k9 K H a xs/\
 ¬ (HT.sIx xs.length 0 lo=0/\HT.sIx xs.length xs.length hi=xs.length)/\∀p,H p=none->Q (.ref p) (upd H p (.tup (sW xs lo hi)))
theorem IS:HD X (Nl X.K):=by
 intro pins s σ H x v O S lo hi R Q I T hs W pu h;obtain⟨a,xs,rfl,U,hw,q⟩:=h;cases T;obtain⟨its,r,Y,Z⟩:=I.tuple U;have hlen:its.toArray.size=xs.length:=by rw[OL];exact r.length.symm
 refine⟨"tuple",_,PyProof.Rows.slot_tuple_getitem.lookup,Y.typeIs,?_⟩;refine HT.getItem_tuple_cut Y hs W pu (by rw[hlen];exact hw) ?_ (by rw[hlen];exact Z);rw[hlen];refine⟨.ref s.heap.objs.size,_,I.laid (t':=s.toks) (o:=.tup (sW xs lo hi)) (λb P q=>OD _ q) (OF _) ?_,rfl,q _ (I.hok.fresh (OF _))⟩;exact⟨uQ (OR (pO xs lo hi) Z),_,(r.drop (HT.sIx xs.length 0 lo)).take (HT.sIx xs.length xs.length hi - HT.sIx xs.length 0 lo),Ud _ _⟩
def Le(K:dV):R2:=λx y H Q=>∃a b ns ms,x= .ref a/\y= .ref b/\k9 K H a (ns.map V.int)/\k9 K H b (ms.map V.int)/\Q (.bl (HT.lexLt ns ms)) H
theorem qX(L:X.A.units<y4):iy X (i_ .Lt) (Le X.K):=by intro pins s σ H x y v u Q I P R h;obtain⟨a,b,ns,ms,rfl,rfl,T,O,q⟩:=h;cases P;cases R;obtain⟨its,U,W,_⟩:=I.tuple T;obtain⟨Z,S,p2,_⟩:=I.tuple O;have N:m_ its.toArray.toList ns:=RF U;have Y:m_ Z.toArray.toList ms:=RF S;exact HT.lt_tupInts W p2 N Y L ⟨.bl (HT.lexLt ns ms),H,I,rfl,q⟩
def Lf(K:dV):R2:=λx y H Q=>∃a b xs ys,x= .ref a/\y= .ref b/\k9 K H a xs/\k9 K H b ys/\xs≠[]/\xs.length+ys.length<=sizeLine/\
 (ys=[]->Q (.ref a) H)/\(ys≠[]->∀p,H p=none->Q (.ref p) (upd H p (.tup (xs++ys))))
theorem bx.nil_iff(r:bx xs us):us=[]↔xs=[]:=by
 cases r with
 |nil=>simp
 |cons _ _=>simp
theorem FM:iy X (r_ .Add) (Lf X.K):=by intro pins s σ H x y v u Q I L P h;obtain⟨a,b,xs,ys,rfl,rfl,S,J,O,W,R,N⟩:=h;cases L;cases P;obtain⟨its,Y,T,_⟩:=I.tuple S;obtain⟨U,Z,p2,_⟩:=I.tuple J;refine HT.cat_tup T p2 (λz=>O (Y.nil_iff.mp z)) (λz=>⟨.ref a,H,I,rfl,R (Z.nil_iff.mp z)⟩) (λz=>?_) (by rw[<-Y.length, <-Z.length];exact W);refine⟨.ref s.heap.objs.size,_,I.laid (t':=s.toks) (o:=.tup (xs++ys)) (λb G q=>OD _ q) (OF _) ?_,rfl,N (λw=>z (Z.nil_iff.mpr w)) _ (I.hok.fresh (OF _))⟩;exact⟨uQ (by rw[OG];exact W),_,Y.append Z,Ud _ _⟩
end
def yq(n:Nat)(i:Int):Option Nat:=if 0<=i then (if i<n then ar i.toNat else none)else if -(n:Int)<=i then ar (i+n).toNat else none
def jS{α:Type}(xs:List α)(i:Int):Option α:=(yq xs.length i).bind λj=>xs[j]?
theorem zX(h:yq n i=ar j):Ug i n=ar j/\j<n/\ -(n:Int)<=i/\i<n:=by
 unfold yq at h;by_cases h0:0<=i
 ·rw[if_pos h0]at h;by_cases h1:i<n
  ·rw[if_pos h1]at h;have e:i.toNat=j:=O5 h;exact⟨by rw[Up h0 h1,e],by omega,by omega,h1⟩
  ·rw[if_neg h1]at h;cases h
 ·rw[if_neg h0]at h;by_cases h1: -(n:Int)<=i
  ·rw[if_pos h1]at h;have e:(i+n).toNat=j:=O5 h;exact⟨by rw[seqIndex_neg (by omega) h1,e],by omega,h1,by omega⟩
  ·rw[if_neg h1]at h;cases h
theorem uU{α:Type}{xs:List α}{i:Int}{v:α}(h:jS xs i=ar v):∃j,Ug i xs.length=ar j/\xs[j]? =ar v/\j<xs.length/\ -(xs.length:Int)<=i/\i<xs.length:=by
 unfold jS at h;cases e:yq xs.length i with
 |none=>rw[e]at h;cases h
 |some j=>
  rw[e]at h;obtain⟨Z,W,Y,X⟩:=zX e;exact⟨j,Z,h,W,Y,X⟩
def uV(b:Expr):Prop:=∀o i,subscripted b c_ o i=operate [o,i] (T7 o i)
def Fq(X:Cx)(r:R2):Prop:=
 ∀(value slice:Expr) (pins:List (dt×Obj)) (s:dr) (σ:St) (H:Hp) (x y:V) (v u:a_) (Q:VK),Inv X pins σ H s->RelV x v->RelV y u->r x y H Q->
  subscripted slice c_ v u=operate [v,u] (T7 v u)->eb (fc X.prog X.w) X.A (subscriptTail value slice v u) (EP X pins σ Q) X.xe s
def Nm(X:Cx)(id:String)(r:V->List V->Hp->VK->Prop):Prop:=
 ∀(pins:List (dt×Obj)) (s:dr) (σ:St) (H:Hp) (x:V) (xs:List V) (v:a_) (us:List a_) (Q:VK),Inv X pins σ H s->RelV x v->bx xs us->r x xs H Q->
  eb (fc X.prog X.w) X.A (call (.builtin id) (v::us)) (EP X pins σ Q) X.xe s
section
variable {X:Cx}{a b:Expr}{ta tb:TE}{pos:Pos}
theorem Fq.or{r Z:R2}(h:Fq X r)(h':Fq X Z):Fq X (λx y H Q=>r x y H Q\/Z x y H Q):=by
 intro value slice pins s σ H x y v u Q I W Y q hs;rcases q with q|q
 ·exact h value slice pins s σ H x y v u Q I W Y q hs
 ·exact h' value slice pins s σ H x y v u Q I W Y q hs
theorem Lg(U:Fq X r)(Y:PE X a ta)(S:PE X b tb)(hs:uV b):PE X (.Subscript a b pos) (K4 r ta tb):=by intro pins s σ H Q I h;exact Subscript_ (IF Y S I h λv u s2 x y R Z T W q=>U a b pins s2 σ R x y v u Q Z T W q (hs _ _))
def Lh(K:dV):R2:=λx y H Q=>∃p xs i v,x= .ref p/\y= .int i/\kN K H p xs/\jS xs i=ar v/\Q v H
def Li(K:dV):R2:=λx y H Q=>∃p xs i v,x= .ref p/\y= .int i/\k9 K H p xs/\jS xs i=ar v/\Q v H
def Lj:R2:=λx y H Q=>∃z i c,x= .str z/\y= .int i/\z.length<=sizeLine/\jS z.cps.toList i=ar c/\Q (.str ⟨#[c]⟩) H
theorem FN:Fq X (Lh X.K):=by
 intro value slice pins s σ H x y v u Q I N R h hs;obtain⟨p,xs,i,z,rfl,rfl,L,he,q⟩:=h;cases N;obtain⟨t,rfl⟩:=R;obtain⟨its,r,W,E⟩:=I.list L;obtain⟨j,Z,P,F,S,O⟩:=uU he;obtain⟨w,T,Y⟩:=r.get P;have J:=r.length;have G:=qS;have fin:EP X pins σ Q w s:=⟨z,H,I,Y,q⟩;by_cases h0:0<=i
 ·have U:i.toNat=j:=by
   rw[Up h0 O]at Z;exact O5 Z
  exact item_listR W.isList h0 (by omega) (by rw[U];simpa using T) fin hs
 ·have U:(i+(its.toArray.size:Int)).toNat=j:=by
   rw[seqIndex_neg (by omega) S]at Z;rw[OL, <-J];exact O5 Z
  exact subscriptTail_builtinR (x:=w) W.isList.typeIs slot_list_getitem.lookup
   (wpAny_getItem_list_neg (Q:=λr s'=>r=w/\EP X pins σ Q r s') W.isList (by omega) (by rw[OL]<;>omega) (by omega) (by rw[U];simpa using T) ⟨rfl,fin⟩) hs
theorem IT:Fq X (Li X.K):=by
 intro value slice pins s σ H x y v u Q I S U h hs;obtain⟨p,xs,i,z,rfl,rfl,P,he,q⟩:=h;cases S;obtain⟨t,rfl⟩:=U;obtain⟨its,r,Y,F⟩:=I.tuple P;obtain⟨j,W,T,L,J,G⟩:=uU he;obtain⟨w,R,Z⟩:=r.get T;have O:=r.length;have N:=qS;have fin:EP X pins σ Q w s:=⟨z,H,I,Z,q⟩;exact subscriptTail_builtinR (x:=w) Y.typeIs slot_tuple_getitem.lookup
  (getItem_tuple (j:=j) (Q:=λr s'=>r=w/\EP X pins σ Q r s') Y (by omega) (by omega) (by rw[OL, <-O];exact W) (by simpa using R) ⟨rfl,fin⟩) hs
theorem IU:Fq X Lj:=by
 intro value slice pins s σ H x y v u Q I R U h hs;obtain⟨z,i,c,rfl,rfl,P,he,q⟩:=h;obtain⟨t,rfl⟩:=R;obtain⟨t',rfl⟩:=U;obtain⟨j,Z,T,N,W,S⟩:=uU he;have Y:z.cps.toList.length=z.length:=by simp[Str.length]
 rw[Y]at Z W S;have O:=qS;exact tail_any (typeIs_str s z t) slot_str_getitem.lookup (getItem_str (c:=c) (by have e1:decide (i< -(2 ^ 63:Int))=false:=OY (by omega);have e2:decide (i ≥ 2 ^ 63)=false:=OY (by omega);rw[e1,e2,Bool.or_false]) (by rw[Z];simpa using T) ⟨.str ⟨#[c]⟩,H,I.tok _,⟨_,rfl⟩,q⟩) hs
def NZ(K:dV):R2:=λx y H Q=>Lh K x y H Q\/Li K x y H Q\/Lj x y H Q
def IV:Fq X (NZ X.K):=FN.or (IT.or IU)
def yF(its:List a_)(n j:Nat)(u:a_):mh (·.setIfInBounds j u) {cls:=.type "list",data:=.seq its.toArray n}={cls:=.type "list",data:=.seq (its.set j u).toArray n}:=by simp[mh]
theorem Inv.lst{Z:List (dt×Obj)}{Y:St}{H:Hp}{s:dr}{p:dt}{xs:List V}(I:Inv X Z Y H s)(h:H p=ar (.lst xs)):
  ∃(its:List a_) (n:Nat),bx xs its/\s.heap.get? p=ar {cls:=.type "list",data:=.seq its.toArray n}/\xs.length<=sizeLine:=by
 obtain⟨z,its,n,r,e⟩:=I.hok p _ h;exact⟨its,n,r,e,z⟩
theorem Inv.lstUpd{H:Hp}{its its':List a_}{f:Obj->Obj}(I:Inv X pins σ H s)(h:H p=ar (.lst xs))
  (W:s.heap.get? p=ar {cls:=.type "list",data:=.seq its.toArray n}) (Z:f {cls:=.type "list",data:=.seq its.toArray n}={cls:=.type "list",data:=.seq its'.toArray n'}) (r:bx ys its') (Y:ys.length<=sizeLine) (t:Nat):
  Inv X pins σ (upd H p (.lst ys)) {s with heap:=s.heap.update p f,toks:=t}:=by
 have e:(s.heap.update p f).get? p=ar {cls:=.type "list",data:=.seq its'.toArray n'}:=by rw[PB f W (by rw[Z]<;>rfl),Z]
 refine I.write (x:=p) (e:=p) (by rw[h];trivial) (.inl rfl) (λb u U q=>(Pj _ _ (kC U)).trans q) ⟨_,e⟩ ?_;exact⟨Y,its',n',r,e⟩
def HE:V->V->V->Hp->(Hp->Prop)->Prop:=λo i v H Q=>∃p xs k j,o= .ref p/\i= .int k/\H p=ar (.lst xs)/\yq xs.length k=ar j/\Q (upd H p (.lst (xs.set j v)))
theorem set_list:KW X HE:=by
 intro pins s σ H o i v C B u Q I N K G h;obtain⟨p,xs,k,j,rfl,rfl,P,J,q⟩:=h;cases N;obtain⟨t,rfl⟩:=K;obtain⟨its,n,r,U,L⟩:=I.lst P;obtain⟨Z,E,S,R⟩:=zX J;have T:=r.length;have F:=qS;have O:Inv X pins σ (upd H p (.lst (xs.set j v))) {s with heap:=s.heap.update p (mh (·.setIfInBounds j u))}:=
  I.lstUpd P U (yF its n j u) (r.set G j) (by rw[PV];exact L) s.toks
 by_cases h0:0<=k
 ·have Y:k.toNat=j:=by
   rw[Up h0 R]at Z;exact O5 Z
  exact W.ki_setAt U h0 (by omega) (by rw[OL, <-T];exact R) (by rw[Y];exact⟨_,O,q⟩)
 ·have Y:(k+(its.toArray.size:Int)).toNat=j:=by
   rw[seqIndex_neg (by omega) S]at Z;rw[OL, <-T];exact O5 Z
  exact W.ki_setBack U (by omega) (by rw[OL, <-T];exact S) (by omega) (by rw[Y];exact⟨_,O,q⟩)
theorem uW(Z Y:Option Int)(n:Nat):(w_ Z Y none n).1=((HT.sIx n 0 Z:Nat):Int)/\(w_ Z Y none n).2.1=((HT.sIx n n Y:Nat):Int)/\(w_ Z Y none n).2.2=1:=by
 refine⟨?_,?_,rfl⟩
 ·cases Z with
  |none=>simp[w_,HT.sIx]
  |some i=>
   simp only[w_,HT.sIx,Option.getD_none,show(1:Int)>0 by decide,if_true];by_cases h:i<0
   ·simp only[h,if_true]<;>omega
   ·simp only[h,if_false]<;>omega
 ·cases Y with
  |none=>simp[w_,HT.sIx]
  |some i=>
   simp only[w_,HT.sIx,Option.getD_none,show(1:Int)>0 by decide,if_true];by_cases h:i<0
   ·simp only[h,if_true]<;>omega
   ·simp only[h,if_false]<;>omega
theorem sX(its:List a_)(Z Y:Option Int):slicePick its.toArray Z Y none=((its.drop (HT.sIx its.length 0 Z)).take (HT.sIx its.length its.length Y - HT.sIx its.length 0 Z)).toArray:=by obtain⟨U,T,W⟩:=uW Z Y its.toArray.size;unfold slicePick;rw[U,T,W];simp only[sliceRange_one,pick_run,m2]<;>rfl
def Nn(K:dV):V->Option Int->Option Int->Hp->VK->Prop:=λx lo hi H Q=>∃a xs,x= .ref a/\kN K H a xs/\∀p,H p=none->Q (.ref p) (upd H p (.lst (sW xs lo hi)))
theorem FO:HD X (Nn X.K):=by intro pins s σ H x v N R lo Z P Q I S hs U pu h;obtain⟨a,xs,rfl,T,q⟩:=h;cases S;obtain⟨its,r,Y,W⟩:=I.list T;have hlen:=r.length;refine⟨"list",_,slot_list_getitem.lookup,Y.isList.typeIs,?_⟩;refine wpAny_getItem_list_slice Y.isList hs U pu .none (by simp) ?_ (by rw[OL]<;>omega);rw[sX, <-hlen];refine⟨.ref s.heap.objs.size,_,I.laid (t':=s.toks) (o:=.lst (sW xs lo Z)) (λb O q=>OD _ q) (OF _) ?_,rfl,q _ (I.hok.fresh (OF _))⟩;exact⟨OR (pO xs lo Z) W,_,0,(r.drop (HT.sIx xs.length 0 lo)).take (HT.sIx xs.length xs.length Z - HT.sIx xs.length 0 lo),OK _ rfl⟩
theorem uX:dm X (.builtin "len") (λxs H Q=>∃p ys,xs=[.ref p]/\(kN X.K H p ys\/k9 X.K H p ys)/\Q (.int ys.length) H):=by
 intro pins s σ H xs us Q I r h;obtain⟨p,ys,rfl,Z,q⟩:=h;obtain⟨u,rfl,T⟩:=vals1 r;cases T;have S:=qS;rcases Z with Z|Z
 ·obtain⟨its,W,Y,U⟩:=I.list Z;have hlen:=W.length;exact Calls.call_len_list Y.isList (by simp only[m2]<;>omega) ⟨.int ys.length,H,I.tok _,⟨s.toks+1,by rw[OL,hlen]⟩,q⟩
 ·obtain⟨its,W,Y,U⟩:=I.tuple Z;have hlen:=W.length;exact len_tuple Y (by simp only[m2]<;>omega) ⟨.int ys.length,H,I.tok _,⟨s.toks+1,by rw[OL,hlen]⟩,q⟩
theorem dm.or{r Z:List V->Hp->VK->Prop}(h:dm X f r)(h':dm X f Z):dm X f (λxs H Q=>r xs H Q\/Z xs H Q):=by
 intro pins s σ H xs us Q I rs q;rcases q with q|q
 ·exact h pins s σ H xs us Q I rs q
 ·exact h' pins s σ H xs us Q I rs q
theorem uY:dm X (.type "list") (λxs H Q=>∃p ys,xs=[.ref p]/\(kN X.K H p ys\/k9 X.K H p ys)/\∀l,H l=none->Q (.ref l) (upd H l (.lst ys))):=by
 intro pins s σ H xs us Q I r h;obtain⟨p,ys,rfl,T,q⟩:=h;obtain⟨u,rfl,O⟩:=vals1 r;cases O;have fin:∀(its:List a_),bx ys its->ys.length<=sizeLine->∀(h':gg) (Y:Nat),(∀b o',s.heap.get? b=ar o'->h'.get? b=ar o')->
   h'.get? s.heap.objs.size=ar {cls:=.type "list",dict:=none,data:=.seq its.toArray Y,slots:= #[]}->EP X pins σ Q (.ref s.heap.objs.size) {s with heap:=h'}:=λits Z W h' Y U e=>
  ⟨.ref s.heap.objs.size,_,I.laid (t':=s.toks) U (OF _) (show bC X.prog X.w _ h' _ (.lst ys)from⟨W,its,Y,Z,e⟩),rfl,q _ (I.hok.fresh (OF _))⟩
 rcases T with T|T
 ·obtain⟨its,Z,S,W⟩:=I.list T;have hlen:=Z.length;obtain⟨o,P,R,n,hd⟩:=S.isList;exact call_list_seq p (.inl rfl) P R hd (λh' Y U e=>fin its Z W h' Y U e) (by simp only[m2]<;>omega)
 ·obtain⟨its,Z,S,W⟩:=I.tuple T;have hlen:=Z.length;obtain⟨o,P,R,n,hd⟩:=S;exact call_list_seq p (.inr rfl) P R hd (λh' Y U e=>fin its Z W h' Y U e) (by simp only[m2]<;>omega)
theorem sY:dm X (.type "tuple") (λxs H Q=>∃p ys,xs=[.ref p]/\((kN X.K H p ys/\∀l,H l=none->Q (.ref l) (upd H l (.tup ys)))\/(k9 X.K H p ys/\Q (.ref p) H))):=by
 intro pins s σ H xs us Q I r h;obtain⟨p,ys,rfl,h⟩:=h;obtain⟨u,rfl,R⟩:=vals1 r;cases R;rcases h with⟨hq,q⟩|⟨hq,q⟩
 ·obtain⟨its,Y,Z,W⟩:=I.list hq;have hlen:=Y.length;refine call_tuple_list Z.isList (λh' T=>?_) (by simp only[m2]<;>omega);have U:Inv X pins σ H {s with heap:=h'}:=I.kept (t':=s.toks) T;have S:Inv X pins σ (upd H h'.objs.size (.tup ys)) {s with heap:=h'.push {cls:=.type "tuple",data:=.seq its.toArray}}:=
   U.laid (t':=s.toks) (λb o e=>OD _ e) (OF _) (show bC X.prog X.w _ _ _ (.tup ys)from⟨uQ W,its,Y,Ud _ _⟩)
  exact⟨.ref h'.objs.size,_,S,rfl,q _ (U.hok.fresh (OF _))⟩
 ·obtain⟨its,Y,Z,W⟩:=I.tuple hq;exact call_tuple_same Z ⟨.ref p,H,I,rfl,q⟩
def Np(K:dV)(T:String)(x:V)(H:Hp):Prop:=match x with
 | .str _=>T="str"
 | .int _=>T="int"
 | .ref p=>(T="list"/\∃xs,kN K H p xs)\/(T="tuple"/\∃xs,H p=ar (.tup xs))\/
   (T="dict"/\((∃kvs,H p=ar (.dK kvs))\/∃kvs,H p=ar (.dT kvs)))\/(T="set"/\∃S n,H p=ar (.set S n))
 |_=>False
theorem IW(I:Inv X pins σ H s)(r:RelV x v)(Z:Np X.K T x H):
  s.TypeIs v T/\∀a,v= .ref a->∃ob,s.heap.get? a=ar ob/\ob.dict=none:=by
 cases x with
 |str z=>
  obtain⟨t,rfl⟩:=r;cases (show T="str" from Z);exact⟨typeIs_str s z t,λ_ e=>nomatch e⟩
 |int i=>
  obtain⟨t,rfl⟩:=r;cases (show T="int" from Z);exact⟨UA s i t,λ_ e=>nomatch e⟩
 | ref p=>
  cases r;rcases Z with⟨rfl,xs,hq⟩|⟨rfl,xs,hk⟩|⟨rfl,hk⟩|⟨rfl,S,n,hk⟩
  ·obtain⟨its,_,Y,_⟩:=I.list hq;refine⟨Y.isList.typeIs,λa e=>?_⟩;cases e;obtain⟨o,n,e,c,hd,_⟩:=Y;exact⟨o,e,hd⟩
  ·obtain⟨⟨_,o,e,hd⟩,its,_,pt⟩:=(show bC X.prog X.w H s.heap p (.tup xs)from I.hok p _ hk);refine⟨pt.typeIs,λa e2=>?_⟩;cases e2;exact⟨o,e,hd⟩
  ·have z:∃o,s.heap.get? p=ar o/\o.ExactDict:=by
    rcases hk with⟨kvs,hk⟩|⟨kvs,hk⟩
    ·obtain⟨_,_,_,_,o,_,_,e,ex,_⟩:=I.hok p _ hk;exact⟨o,e,ex⟩
    ·obtain⟨_,_,_,_,o,_,_,e,ex,_⟩:=I.hok p _ hk;exact⟨o,e,ex⟩
   obtain⟨o,e,ex⟩:=z;refine⟨⟨o,e,ex.1⟩,λa e2=>?_⟩;cases e2;exact⟨o,e,ex.2.1⟩
  ·obtain⟨o,_,_,_,e,ex,_⟩:=I.hok p _ hk;refine⟨⟨o,e,ex.1⟩,λa e2=>?_⟩;cases e2;exact⟨o,e,ex.2.1⟩
 |_=>exact ip Z
def Oq(K:dV)(T:String)(r:V->List V->Hp->VK->Prop)(to:TE)(t:TA):TE:=λσ H Q=>to σ H λx H1=>Np K T x H1/\t σ H1 λxs H2=>r x xs H2 Q
variable {o e:Expr}{es:List Expr}{to:TE}{t:TA}{name:Str}{apos cpos:Pos}{T id:String}{r:V->List V->Hp->VK->Prop}
theorem Lk(G:PlainAttrs T)(U:Slot T name id)(R:typeOf (.builtin id)=aC (.type "method_descriptor"))(F:Nm X id r)(J:PE X o to)(N:PA X (e::es) t)
  (Y:nN o name X.env (hY o X.env)=hY o X.env:=by rfl)
  (S:((n_ cpos (d_ (e::es) X.env)).all (λx=> !x.1) && (backToKw cpos (keywordEach [] X.env)).all (λx=>x.1.isSome)
   && decide ((e::es).length+([]:List Ut).length+(if ([]:List Ut).isEmpty then 0 else 1)<30))=true:=by rfl)
  (W:(apos.endLine==cpos.line)=true:=by rfl) (hs:d_ (e::es) X.env=(c_,hY e X.env)::d_ es X.env:=by rfl) (Z:(n_ cpos (d_ es X.env)).any (·.1)=false:=by rfl):
  PE X (.Call (.Attribute o name apos) (e::es) [] cpos) (Oq X.K T r to t):=by
 intro pins s σ H Q I h;refine wpAny_Call_method_late Y S W rfl (dW (J pins s σ H _ I h) λv s1 ⟨x,H1,I1,r1,ty,q1⟩=>?_);obtain⟨O,L⟩:=IW I1 r1 ty;refine⟨T,id,G,U,R,O,L,?_⟩;have P:=N cpos pins s1 σ H1 _ I1 q1;rw[hs]at P⊢;refine Calls.callWith_builtin (by show(c_||(n_ cpos (d_ es X.env)).any (·.1))=c_;rw[Z]<;>rfl) (RO ?_);exact dW P λus s2 ⟨vs,H2,I2,r2,q2⟩=>F pins s2 σ H2 x vs v us Q I2 r1 r2 q2
end
def N0(X:Cx)(id:String)(r:V->List V->Hp->VK->Prop):Prop:=
 ∀(pins:List (dt×Obj)) (s:dr) (σ:St) (H:Hp) (x:V) (xs:List V) (v:a_) (us:List a_) (Q:VK),Inv X pins σ H s->RelV x v->bx xs us->r x xs H Q->
  eb (fc X.prog X.w) X.A (call (.builtin id) (v::us)) (EP X pins σ Q) X.xe s
theorem bx.one:∀{x:V} {us:List a_},bx [x] us->∃u,us=[u]/\RelV x u
 |_,_,.cons r .nil=>⟨_,rfl,r⟩
theorem bx.eraseIdx:∀{xs:List V} {us:List a_} (i:Nat),bx xs us->bx (xs.eraseIdx i) (us.eraseIdx i)
 |_,_,_,.nil=>.nil
 |_,_,0,.cons _ t=>t
 |_,_,i+1,.cons r t=>.cons r (bx.eraseIdx i t)
theorem bx.rep{xs:List V}{us:List a_}(h:bx xs us):∀k:Nat,bx (f' k xs).flatten (f' k us).flatten
 |0=>.nil
 |k+1=>by
  rw[P5,P5,Qy,Qy];exact bx.append h (bx.rep h k)
theorem t9{α:Type}:∀(l:List α) (i:Nat),(l.eraseIdx i).length<=l.length
 |[],_=>OF _
 |_::_,0=>Rc _
 |_::r,i+1=>Q8 (t9 r i)
theorem foldl_rep(its:List a_):∀(k:Nat) (acc:List a_),
  UB (λZ Y=>Z++Y) acc.toArray (f' k its.toArray)=(acc++(f' k its).flatten).toArray
 |0,acc=>by simp
 | k+1,acc=>by
  have e:acc.toArray++its.toArray=(acc++its).toArray:=by simp
  have e2:(acc++its)++(f' k its).flatten=acc++(f' (k+1) its).flatten:=by rw[P5,Qy,O7]
  rw[<-e2, <-foldl_rep its k (acc++its), <-e,P5,SR]
section
variable {X:Cx}{pins:List (dt×Obj)}{σ:St}{H:Hp}{s:dr}{l b:dt}{xs ys zs:List V}
theorem Inv.lset{its its':List a_}{f:Array a_->Array a_}(I:Inv X pins σ H s)(W:H l=ar (.lst xs))
  (e:s.heap.get? l=ar {cls:=.type "list",data:=.seq its.toArray n}) (U:f its.toArray=its'.toArray) (Y:bx ys its') (Z:ys.length<=sizeLine):
  Inv X pins σ (upd H l (.lst ys)) {s with heap:=s.heap.update l (mh f),toks:=t'}:=by
 have q:=PySem.IsL.update e f;rw[U]at q;refine I.write (x:=l) (e:=l) (by rw[W];exact trivial) (.inl rfl) (λR u T S=>(Pj s.heap (mh f) (kC T)).trans S) ⟨_,q⟩ ?_;exact⟨Z,its',_,Y,q⟩
theorem Inv.lnew(I:Inv X pins σ H s)(Y:bx ys its)(Z:ys.length<=sizeLine):
  Inv X pins σ (upd H s.heap.objs.size (.lst ys)) {s with heap:=s.heap.push {cls:=.type "list",data:=.seq its.toArray},toks:=t'}:=
 I.laid (λ_ _ q=>OD _ q) (OF _) ⟨Z,its,0,Y,OK _ rfl⟩
theorem Inv.fresh(I:Inv X pins σ H s):H s.heap.objs.size=none:=I.hok.fresh (OF _)
theorem Inv.lstM(I:Inv X pins σ H s)(Z:H l=ar (.lst xs)):xs.length<=sizeLine/\∃(its:List a_) (n:Nat),bx xs its/\xs.length=its.length/\s.heap.get? l=ar {cls:=.type "list",data:=.seq its.toArray n}:=by obtain⟨z,its,n,r,e⟩:=I.hok l _ Z;exact⟨z,its,n,r,r.length,e⟩
def wG(h:n<=sizeLine):pk n=false:=by unfold pk;exact OY (by omega)
end
section
variable {X:Cx}
def zY:V->List V->Hp->VK->Prop:=λx vs H Q=>∃l xs y,x= .ref l/\vs=[y]/\H l=ar (.lst xs)/\xs.length<sizeLine/\Q .non (upd H l (.lst (xs++[y])))
theorem oJ:N0 X "list.append" zY:=by intro pins s σ H x vs v us Q I U W h;obtain⟨l,xs,y,rfl,rfl,Z,T,q⟩:=h;cases U;obtain⟨u,rfl,Y⟩:=W.one;obtain⟨z,its,n,r,S,e⟩:=I.lstM Z;refine S8 F.slot_list_append ⟨_,e,rfl⟩ F.entry_list_append (F.args_list_append_2 _ _) (PySem.list_append l its.toArray n u (by rw[OL];omega)) ⟨e,?_⟩;refine⟨.non,_,I.lset (its':=its++[u]) Z e (by simp) (r.append (.cons Y .nil)) ?_,rfl,q⟩;rw[OG,RJ];omega
def CP:V->List V->Hp->VK->Prop:=λx vs H Q=>∃l xs i k y,x= .ref l/\vs=[.int i]/\H l=ar (.lst xs)/\ -(2 ^ 63)<=i/\i<2 ^ 63/\Ug i xs.length=ar k/\xs[k]? =ar y/\Q y (upd H l (.lst (xs.eraseIdx k)))
theorem CQ:N0 X "list.pop" CP:=by
 intro pins s σ H x vs v us Q I N O h;obtain⟨l,xs,i,k,y,rfl,rfl,Y,W,P,T,R,q⟩:=h;cases N;obtain⟨u,rfl,S⟩:=O.one;obtain⟨t,rfl⟩:=S;obtain⟨z,its,n,r,U,e⟩:=I.lstM Y;obtain⟨w,hw,Z⟩:=r.get R;refine S8 F.slot_list_pop ⟨_,e,rfl⟩ F.entry_list_pop (F.args_list_pop_2 _ _)
  (MeetsSeq.list_pop_at l its.toArray n i t k w (fitsIndex_both W P) (by rw[OL, <-U];exact T) (by rw[<-O8];exact hw) (by rw[OL];omega)) ⟨e,?_⟩
 refine⟨y,_,I.lset (its':=its.eraseIdx k) Y e ?_ (r.eraseIdx k) ?_,Z,q⟩
 ·show its.toArray.eraseIdxIfInBounds k=(its.eraseIdx k).toArray;rw[List.eraseIdxIfInBounds_toArray]
 ·have:=t9 xs k;omega
def Ll:R2:=λx y H Q=>∃l k xs,x= .ref l/\y= .int k/\H l=ar (.lst xs)/\ -(2 ^ 63)<=k/\k<2 ^ 63/\xs.length*k.toNat<=sizeLine/\
 ∀p,H p=none->Q (.ref p) (upd H p (.lst (f' k.toNat xs).flatten))
theorem len_rep{α:Type}(xs:List α)(k:Nat):(f' k xs).flatten.length=k*xs.length:=by
 induction k with
 |zero=>simp
 |succ k ih=>rw[P5,Qy,OG,ih,QT,Nat.add_comm]
theorem IX:iy X (r_ .Mult) Ll:=by
 intro pins s σ H x y v u Q I J L h;obtain⟨l,k,xs,rfl,rfl,G,N,K,O,q⟩:=h;cases J;obtain⟨t,rfl⟩:=L;obtain⟨z,its,n,r,E,e⟩:=I.lstM G;have hlen:its.toArray.size*k.toNat<=sizeLine:=by rw[OL, <-E];exact O
 have S:¬ its.toArray.size*k.toNat>(2 ^ 63 - 1) / 8:=by
  have:(sizeLine:Nat)<=(2 ^ 63 - 1) / 8:=by decide
  omega
 have W:¬ (!Builtin.List.listFitsIndex k)=true:=by rw[fitsIndex_both N K];exact PU
 have Z:¬ pk (its.toArray.size*k.toNat)=true:=by rw[wG hlen];exact PU
 have Y:UB (λP R=>P++R) #[] (f' (if its.toArray.isEmpty=b_ then 0 else k.toNat) its.toArray)=(f' k.toNat its).flatten.toArray:=by
  have f0:∀m:Nat,UB (λP R=>P++R) #[] (f' m its.toArray)=(f' m its).flatten.toArray:=λm=>by have:=foldl_rep its m [];rw[SU]at this;exact this
  rw[f0];cases its with
  |nil=>simp
  |cons a r'=>rw[if_neg (by simp)]
 refine wpAny_binaryOp_repeat_ref (T:="list") (U:="int") (by decide) ⟨_,e,rfl⟩ (λs'=>UA s' k t) noFill_list_mul F.fills_int_mul F.slot_int_rmul repeat_list F.slot_int_index.lookup
  (S8 F.slot_int_rmul (UA s k t) F.entry_int_rmul (F.args_int_rmul_2 _ _) (int___rmul___int_list k t l its.toArray n)
   ⟨e,rfl,⟨_,e,rfl⟩,S8 F.slot_list_mul ⟨_,e,rfl⟩ F.entry_list_mul (F.args_list_mul_2 _ _) (AutoListH.list___mul___list_int_3 l its.toArray n k t W S Z) ⟨e,?_⟩⟩)
 rw[Y];exact⟨.ref _,_,I.lnew (t':=s.toks) (r.rep k.toNat) (by rw[len_rep,Nat.mul_comm];exact O),rfl,q _ I.fresh⟩
end
section
variable {prog:ey}{w:fg}{A:j_}{E:a_->dr->Prop}{s:dr}
end
section
variable {X:Cx}
end
end L2
namespace Att
open PySem PySem.W PySem.Calls PyProof.Rows
theorem qe:∀(ns:List Int) (vs:List a_),WellAll P h vs (ns.map WData.int)->m_ vs ns:=by
 intro ns
 induction ns with
 |nil=>
  intro vs w;rw[Qj]at w;cases w;exact .nil
 | cons n ns ih=>
  intro vs w;rw[OW]at w;cases w with
  |cons a b=>
   cases a;exact .cons _ _ (ih _ b)
theorem Bh{l:Vl}(S:l.most=ar n)
  (Z:l.row.toRowW.claim.pre args=b_) (W:WellAll P h vals args):
  ∃a vs ns,vals=[er a]/\args=[WData.list (ns.map WData.int)]/\h.get? a=ar {cls:=.type "list",data:=.seq vs.toArray}/\m_ vs ns/\ns.length<=n:=by
 have ji:WShape.hasAll [] args [.list .int]=true:=(pre_splitW Z).1;have U:l.pre.holds [] {args:=args}=true:=(pre_splitW Z).2;obtain⟨d,r,rfl,T,Q⟩:=hasAllW_cons ji;obtain rfl:=hasAllW_nil Q;obtain⟨xs,rfl,R⟩:=hasW_list T;obtain⟨ns,rfl⟩:=items_int R;have hlen:ns.length<=n:=by
  unfold OpenLaw.pre at U;have Y:(WTm.not (.lt (.lit (.int (n:Int))) (.len (.arg 0)))).holds [] {args:=[.list (ns.map .int)]}=true:=by have Y:=(holds_andW U).1;rw[S]at Y;exact Y
  have X:=condW_of Y (w_not (w_lt w_lit (w_len_list (w_arg rfl))));rw[OC]at X;refine SL λq=>?_;have O:(n:Int)<((ns.length:Nat):Int):=by omega
  first
   |(rw[OS O]at X;exact absurd X (by decide))
   |(simp at X;omega)
 cases W with
 |cons w1 w2=>
  cases w2;cases w1 with
  |list ho hall=>exact⟨_,_,ns,rfl,rfl,ho,qe ns _ hall,hlen⟩
theorem Bi(l:Vl)(args:List WData):l.row.toRowW.claim.post args (.bool b_) args=true:=
 postW_of (r:=l.row.toRowW) (X:=(b_==b_))
  (show WShape.has [] (.bool b_) .bool=b_ by first|rfl|decide|simp[WShape.has,WShape.arms,WShape.armsAll])
  (show(WTm.eq .res (.lit (.bool b_))).value [] {args:=args,res:=ar (.bool b_),after:=args}=ar (.bool (b_==b_))from w_eq_bool (w_res rfl) w_lit) rfl
theorem attach_call{l:Vl}{YP:fg->gg->Prop}{d:Ve}
  (J:l.most=ar n) (Q:d.params.defaults=[])
  (X:∀(w:fg) (s₀ Z:dr) (S O:Str->Option a_) (U:dt) (o:Obj) (pm cd doc:a_) (a:dt) (vs:List a_) (ns:List Int),
   Ground q loose [] XP w s₀ S O Z.heap->YP w Z.heap->
   Z.heap.get? U=ar o->o.data= .func (docDef d.name d.params d.body d.scope pm cd doc)->Z.heap.CodeRec cd d.name->S d.name=ar (.ref U)->
   Z.heap.get? a=ar {cls:=.type "list",data:=.seq vs.toArray}->m_ vs ns->ns.length<=n->Z.gens= #[]->
   rn (fc l.prog w) y1 (.call (.ref U) ⟨[.ref a],[]⟩) (λr s'=>r= .ok (.ret (.bool b_))/\OldK Z.heap s'.heap/\s'.os=Z.os/\z4 s'.gens) Z):
  WalkO q loose XP YP l.row.toRowW d [] (λf vs=>PySem.call f vs):=by
 intro w s₀ Z S O G Y U o pm cd doc B kV y hd P K N A args vals as W L H R C;obtain rfl:B= .none:=Dflts.none K Q;obtain rfl:kV= .none:=Dflts.noKw K;obtain⟨a,vs,ns,rfl,rfl,T,hints,hlen⟩:=Bh J W R;refine enter_call (Qi (X w s₀ Z S O U o pm cd doc a vs ns G Y y (fd_plain hd) P N T hints hlen A) λr s' z=>?_);obtain⟨rfl,E,I,F⟩:=z;exact⟨.inl ⟨.bool b_,.bool b_,[],rfl,λ_=>rfl,.bool b_,Bi l _,λ_=>⟨List.Pairwise.nil,λ_ hm=>(nomatch hm)⟩⟩,E,I,F⟩
section
variable {prog:ey}{w:fg}{A:j_}{E:a_->dr->Prop}{s:dr}{K:Vs}
def ledger(h:gg)(L d:dt):List (dt×Obj):=(ee h.objs.size).filterMap λa=>if a=L\/a=d then none else (h.get? a).map λo=>(a,o)
end
end Att
namespace L2
open PySem PySem.Spec PyProof.Rows
theorem jT:∀{vs:List a_} {ns:List Int},m_ vs ns->bx (ns.map V.int) vs
 |_,_,.nil=>.nil
 |_,_,.cons n t h=>.cons ⟨t,rfl⟩ (jT h)
def IY(H:Hp):Prop:=∀b,H b=none\/∃o xs,H b=ar (.frz o (.lst xs))
theorem CS{K:dV}{B:Str->Option a_}{g:Cu}{sp:Sp}{Z:dr}{vs:List a_}
  (p:K.In Z.heap) (R:Z.heap.Ns g_ mg) (X:Z.heap.Ns wh B) (G:∀x:Str,x≠"__name__"->B x=k_ x) (O:Z.heap.NoLimit) (hg:Z.gens= #[])
  (I:Z.heap.get? a=ar {cls:=.type "list",data:=.seq vs.toArray}) (i:m_ vs ns) (f:ns.length<=sizeLine) (hr:Room k y1)
  (F:∀base:gg,K.In base->base.Ns g_ mg->FnOk P w K mg base g k fa fd [x] sp) (T:∀(s:dr) (u:a_),J_ s fd ⟨[u],[]⟩ [(x,u)])
  (C:∀H:Hp,IY H->kN K H a (ns.map V.int)->sp [.ref a] H (λv _=>v= .bl b_) λ_ _ _=>False)
  (A:∀H e s',g [] H Z (λ_ _ _=>False) e s'->False):
  rn (fc P w) y1 (.call (.ref fa) ⟨[.ref a],[]⟩) (λr s'=>r= .ok (.ret (.bool b_))/\OldK Z.heap s'.heap/\s'.os=Z.os/\z4 s'.gens) Z:=by
 have j:=jT i;have J:=i.length;have core:∀H:Hp,IY H->kN K H a (ns.map V.int)->gD P w H Z.heap->(∀b,H b≠none->b=a)->(H a≠none->K.lookup a=none)->
   rn (fc P w) y1 (.call (.ref fa) ⟨[.ref a],[]⟩) (λr s'=>r= .ok (.ret (.bool b_))/\OldK Z.heap s'.heap/\s'.os=Z.os/\z4 s'.gens) Z:=by
  intro H l hS L t hK;have Y:∀{b:dt} {o:Obj},Z.heap.get? b=ar o->H b=none->(mz Z.heap H).get? b=ar o:=λe n=>nj e n;have E:∀{b:dt} {o:Obj} {es:Array DictEntry} {ep:Nat},Z.heap.get? b=ar o->o.data= .dict es ep->H b=none:=λ{b o es ep} e d=>by
   cases q:H b with
   |none=>rfl
   |some u=>
    have y:b=a:=t b (by rw[q];simp);subst y;rw[I]at e;cases e;have d':Data.seq vs.toArray _=Data.dict es ep:=d;cases d'
  have U:∀{b:dt} {m:Str->Option a_},Z.heap.Ns b m->(mz Z.heap H).Ns b m:=λ{b m} ⟨o,es,ep,e,d,r⟩=>⟨o,es,ep,Y e (E e d),d,r⟩;have N:K.In (mz Z.heap H):=λb o e=>Y (p b o e) (by
   cases q:H b with
   |none=>rfl
   |some u=>
    have y:b=a:=t b (by rw[q];simp);subst y;rw[hK (by rw[q];simp)]at e;cases e)
  have hM:Mod K mg (mz Z.heap H):=⟨N,U R,⟨B,U X,G⟩,let ⟨mc,h1,h2⟩:=O;⟨mc,U h1,h2⟩⟩;have e0:aO P w K mg (mz Z.heap H) y1 [] Z H:=⟨rfl,hM,λb o e=>uR e,Ri (oF _ _),trivial,λb X=>absurd (show b∈([]:List dt)from X) (by simp),L,.of_eq hg⟩;refine Qi ((F _ N (U R)).run y1 [] Z H ⟨[.ref a],[]⟩ [.ref a] [.ref a] _ _ hr e0 (T Z (.ref a)) (.cons rfl .nil) (C H l hS)) λr s' h=>?_;cases r with
  |error e=>exact(A H e s' h).elim
  | ok fl=>
   cases fl with
   |next=>exact ip h
   |brk=>exact ip h
   |cont=>exact ip h
   | ret u=>
    obtain⟨v,H',os,bare,un,S,c,q⟩:=h;have q':v= .bl true:=q;subst q';obtain rfl:u=q_ true:=c;refine⟨rfl,OldK.of_keep λb o e=>?_,os,bare⟩;cases q:H b with
    |none=>exact un.keep b o e q (by intro z;exact absurd (show b∈([]:List dt)from z) (by simp)) (by simp)
    | some u=>
     rcases l b with z|⟨ob,xs,z⟩
     ·rw[q]at z;cases z
     ·have z2:=un.frzs b ob _ z;obtain⟨e1,_⟩:=L b _ z;obtain⟨e2,_⟩:=S b _ z2;rw[e]at e1;cases e1;exact e2
 cases hk:K.lookup a with
 |some o=>
  have e:=p a o hk;rw[I]at e;cases e;refine core (λ_=>none) (λ_=>.inl rfl) (.inr ⟨_,vs.toArray,_,hk,rfl,rfl,rfl,by rw[OL,J];exact f,by simpa using j⟩) (λb u z=>by have Q:(none:Option HO)=ar u:=z;cases Q) (λb z=>absurd rfl z) λz=>absurd rfl z
 | none=>
  refine core (λb=>if b=a then ar (.frz {cls:=.type "list",data:=.seq vs.toArray} (.lst (ns.map V.int)))else none) (λb=>?_) (.inl (.inr ⟨{cls:=.type "list",data:=.seq vs.toArray},if_pos rfl⟩)) (λb u z=>?_) (λb z=>?_) λ_=>hk
  ·by_cases X:b=a
   ·exact .inr ⟨_,_,if_pos X⟩
   ·exact .inl (if_neg X)
  ·by_cases X:b=a
   ·have Q:=(if_pos X).symm.trans z;cases Q;subst X;exact⟨I,by rw[OC];exact f,vs,_,j,I⟩
   ·have Q:=(if_neg X).symm.trans z;cases Q
  ·by_cases X:b=a
   ·exact X
   ·exact absurd (if_neg X) z
abbrev OA{K:dV}{h:gg}(_:K.In h):W.Frag:=K
theorem ME{l:UP}{YP:fg->gg->Prop}{d:Ve}{K:Th->dV}{J:fg->Cu}{sp:fg->Sp}
  (E:l.most=ar n) (Q:n<=sizeLine) (R:d.params.defaults=[]) (B:Room k y1)
  (C:∀(w:fg) (h:gg),YP w h->(K w.params).In h)
  (F:∀(w:fg) (Z:Str->Option a_) (S:dt) (h:gg),(K w.params).In h->h.Ns g_ Z->Z d.name=ar (.ref S)->
   ∃fd:lx,(∀(s:dr) (u:a_),J_ s fd ⟨[u],[]⟩ [(x,u)])/\
    ∀base:gg,(K w.params).In base->base.Ns g_ Z->FnOk l.prog w (K w.params) Z base (J w) k S fd [x] (sp w))
  (P:∀(w:fg) (H:Hp) (a:dt) (ns:List Int),ns.length<=n->IY H->kN (K w.params) H a (ns.map V.int)->sp w [.ref a] H (λv _=>v= .bl b_) λ_ _ _=>False)
  (O:∀(w:fg) (H:Hp) (s:dr) (e:a_) (s':dr),J w [] H s (λ_ _ _=>False) e s'->False):
  Vm q loose XP YP l.row.toRowW d [] (λf vs=>PySem.call f vs):=by
 refine Att.attach_call E R λw s₀ X Z p S o pm cd doc a vs ns G Y m hd A N U hints hlen z=>?_;have L:=C w _ Y;obtain⟨fd,r,I⟩:=F w Z S _ L G.T.g N;exact CS L G.T.g G.T.b G.T.builtins G.T.nolimit z U hints (OR hlen Q) B I r (λH t y=>P w H a ns hlen t y) λH e s'=>O w H X e s'
def gE(s:pa):Arguments:=match s with
 | .FunctionDef _ a _ _ _ _ _ _ _ _=>a
 |_=>{posonlyargs:=[],args:=[],vararg:=none,kwonlyargs:=[],kw_defaults:=[],kwarg:=none,defaults:=[]}
def dw(s:pa):List Stmt:=match s with
 | .FunctionDef _ _ b _ _ _ _ _ _ _=>b
 |_=>[]
def aw(s:pa):Scope:=match s with
 | .FunctionDef _ _ _ _ _ _ sc _ _ _=>sc
 |_=>{kind:=.function,names:=[],isGenerator:=c_,isCoroutine:=c_}
abbrev Os:Cu:=λ_ _ _ _ _ _=>False
abbrev E0:XK:=λ_ _ _=>False
structure Fun(K:dV)(x qual:Str)(st:pa)(f:dt)(fd:lx):Prop where
 ex:∃(oc:a_) (od:Option dt) (kV doc pm:a_) (an:Option dt) (cdv ct:a_) (osl:Array (Option a_)),
  fd=y9 x qual (gE st) (dw st) (aw st) .none kV doc pm an cdv ct/\K.lookup f=ar ⟨oc,od,.func fd,osl⟩/\Tp K cdv qual=b_
 kp:y0 K (.ref f)=b_
section
variable {P:ey}{w:fg}{K:dV}{mg:Str->Option a_}{base:gg}
theorem Fun.binds{x qual:Str}{Y:pa}{f:dt}{U:lx}{X:List Str}(F:Fun K x qual Y f U)
  (h:∀(kV doc pm:a_) (an:Option dt) (Z ct:a_) (us:List a_),us.length=X.length->Ux (y9 x qual (gE Y) (dw Y) (aw Y) .none kV doc pm an Z ct) ⟨us,[]⟩=aC (X.zip us)):Binds K U X []:=by
 obtain⟨Q,od,kV,doc,pm,an,Z,ct,T,rfl,R,S⟩:=F.ex;exact .all (h kV doc pm an Z ct)
theorem IZ{x qual:Str}{Y:pa}{f:dt}{R:a_}{od T:Option dt}{U:Array (Option a_)}{kV X S Z ct:a_}(l:K.lookup f=ar ⟨R,od,.func (y9 x qual (gE Y) (dw Y) (aw Y) .none kV X S T Z ct),U⟩)
  (c:Tp K Z qual=b_) (k:y0 K (.ref f)=b_):Fun K x qual Y f (y9 x qual (gE Y) (dw Y) (aw Y) .none kV X S T Z ct):=⟨⟨R,od,kV,X,S,T,Z,ct,U,rfl,l,c⟩,k⟩
end
section
variable {X:Cx}
theorem pv(i:Nat)(Y:X.N[i]? =ar x:=by rfl)(W:Ct X.env.scope x:=by first|exact Uh rfl|exact Tq (Uh rfl)|exact Tq (Tq rfl))(U:(x==("__debug__":Str))=false:=by decide)
  (Z:(x==("__classdict__":Str))=false:=by decide):PE X (.Name x pos) (KL i):=uS Y W U Z
end
end L2
end
namespace S3
open PySem PySem.W PyProof.Rows
def bG{α:Type}(b:Nat->Nat->Bool):Vf α->α
 | .ret a=>a
 | .ask i j k=>bG b (k (b i j))
theorem iM{α Z:Type}(b:Nat->Nat->Bool)(f:α->Vf Z):∀t:Vf α,bG b (t.bind f)=bG b (f (bG b t))
 | .ret _=>rfl
 | .ask i j k=>iM b f (k (b i j))
section
variable (r:Nat->Nat)
abbrev eQ:Nat->Nat->Bool:=λi j=>decide (r i<r j)
def ka(p:Array Nat)(k:Nat):Nat:=r (p.getD k 0)
def CT(p:Array Nat)(n:Nat):Prop:=∀i j,i<=j->j<n->ka r p i<=ka r p j
def Nq(p:Array Nat)(n:Nat):Prop:=∀i j,i<=j->j<n->ka r p j<=ka r p i
variable {r}
def nu{p q:Array Nat}{i j:Nat}(h:p[i]? =q[j]?):p.getD i 0=q.getD j 0:=by rw[Pg,Pg,h]
theorem uZ{p:Array Nat}{i j:Nat}(Z:j<=p.size)(k:Nat):ka r (u4 p i j) k=if i<=k/\k<j then ka r p (i+j - 1 - k)else ka r p k:=by
 have h:=getElem?_mirror_all (i:=i) Z k;unfold ka u4;by_cases c:i<=k/\k<j
 ·rw[if_pos c]at h⊢;rw[nu h]
 ·rw[if_neg c]at h⊢;rw[nu h]
theorem ua{p:Array Nat}{Z d:Nat}(hs:Z<p.size)(Y:d<=Z)(k:Nat):ka r (Vg p Z d) k=if k=Z - d then ka r p Z else if Z - d<k/\k<=Z then ka r p (k - 1)else ka r p k:=by
 have h:=getElem?_bubble hs d Y k;unfold ka;by_cases c:k=Z - d
 ·rw[if_pos c]at h⊢;rw[nu h]
 ·rw[if_neg c]at h⊢;by_cases c2:Z - d<k/\k<=Z
  ·rw[if_pos c2]at h⊢;rw[nu h]
  ·rw[if_neg c2]at h⊢;rw[nu h]
def qY:(u4 p i j).size=p.size:=mirror_size _ _ _ _
def fN:(u4 p i j).Perm p:=mirror_perm _ _ _ _
theorem u6:∀(f n:Nat),1<=n->CT r p n->n<=bG (eQ r) (u0 p f n)/\bG (eQ r) (u0 p f n)<=n+f/\CT r p (bG (eQ r) (u0 p f n))
 |0,n,h1,h=>⟨OF _,OF _,h⟩
 | f +1,n,h1,h=>by
  show n<=bG (eQ r) (if (eQ r) (p.getD n 0) (p.getD (n - 1) 0)=b_ then T8 n else u0 p f (n+1))/\bG (eQ r) (if (eQ r) (p.getD n 0) (p.getD (n - 1) 0)=b_ then T8 n else u0 p f (n+1))<=n+(f+1)/\CT r p (bG (eQ r) (if (eQ r) (p.getD n 0) (p.getD (n - 1) 0)=b_ then T8 n else u0 p f (n+1)));by_cases c:(eQ r) (p.getD n 0) (p.getD (n - 1) 0)=b_
  ·rw[if_pos c];exact⟨OF _,by show n<=n+(f+1);omega,h⟩
  ·rw[if_neg c];have Y:ka r p (n - 1)<=ka r p n:=by
    exact SL λz=>c (OS z)
   obtain⟨a1,a2,a3⟩:=u6 f (n+1) (by omega) (λi j Z X=>by
    by_cases e:j=n
    ·subst e;by_cases e2:i=j
     ·subst e2;exact OF _
     ·exact OR (h i (j - 1) (by omega) (by omega)) Y
    ·exact h i j Z (by omega))
   exact⟨by omega,by omega,a3⟩
structure Down(r:Nat->Nat)(p:Array Nat)(n q:Nat):Prop where
 dsc:Nq r p n
 q1:q+1<=n
 eqs:∀k,n - (q+1)<=k->k<n->ka r p k=ka r p (n - 1)
def qZ{p:Array Nat}(Z:n<=p.size)(h:Down r p n q):∀k,ka r (u4 p (n - (q+1)) n) k=ka r p k:=λk=>by
 rw[uZ Z];split
 ·next c=>rw[h.eqs k c.1 c.2,h.eqs _ (by omega) (by omega)]
 ·rfl
theorem nv:∀(f:Nat) (p:Array Nat) (n q:Nat),n+f<=p.size->Down r p n q->
  Down r (bG (eQ r) (u1 f p n q)).1 (bG (eQ r) (u1 f p n q)).2.1 (bG (eQ r) (u1 f p n q)).2.2/\(bG (eQ r) (u1 f p n q)).1.Perm p/\n<=(bG (eQ r) (u1 f p n q)).2.1/\(bG (eQ r) (u1 f p n q)).2.1<=n+f
 |0,p,n,q,hs,h=>⟨h,Rp _,OF _,OF _⟩
 | f +1,p,n,q,hs,h=>by
  have e:bG (eQ r) (u1 (f+1) p n q)=if ka r p n<ka r p (n - 1)then (if q>0 then bG (eQ r) (u1 f (u4 p (n - (q+1)) n) (n+1) 0)else bG (eQ r) (u1 f p (n+1) 0))
    else if ka r p (n - 1)<ka r p n then (p,n,q)else bG (eQ r) (u1 f p (n+1) (q+1)):=by
   show bG (eQ r) (if (eQ r) (p.getD n 0) (p.getD (n - 1) 0)=b_ then _ else _)=_;unfold ka;by_cases c:r (p.getD n 0)<r (p.getD (n - 1) 0)
   ·rw[if_pos (by simpa using c),if_pos c];split<;>rfl
   ·rw[if_neg (by simpa using c),if_neg c];show bG (eQ r) (if (eQ r) (p.getD (n - 1) 0) (p.getD n 0)=b_ then _ else _)=_;by_cases c2:r (p.getD (n - 1) 0)<r (p.getD n 0)
    ·rw[if_pos (by simpa using c2),if_pos c2];rfl
    ·rw[if_neg (by simpa using c2),if_neg c2]
  have U:=h.q1;have ext:∀{p':Array Nat} {q':Nat},(∀k,ka r p' k=ka r p k)->ka r p n<=ka r p (n - 1)->(q'=0\/(q'=q+1/\ka r p n=ka r p (n - 1)))->Down r p' (n+1) q':=λ{p' q'} hk hle hq=>by
   refine⟨λi j Z W=>?_,by omega,λk X T=>?_⟩
   ·rw[hk,hk];by_cases ej:j=n
    ·subst ej;by_cases e2:i=j
     ·subst e2;exact OF _
     ·exact OR hle (h.dsc i (j - 1) (by omega) (by omega))
    ·exact h.dsc i j Z (by omega)
   ·rw[hk,hk,show n+1 - 1=n by omega];rcases hq with rfl|⟨rfl,he⟩
    ·have:k=n:=by omega
     subst this;rfl
    ·by_cases ek:k=n
     ·subst ek;rfl
     ·rw[he];exact h.eqs k (by omega) (by omega)
  rw[e];by_cases c:ka r p n<ka r p (n - 1)
  ·rw[if_pos c];by_cases hq:q>0
   ·rw[if_pos hq];obtain⟨a1,a2,a3,Y⟩:=nv f (u4 p (n - (q+1)) n) (n+1) 0 (by rw[qY];omega) (ext (qZ (by omega) h) (by omega) (.inl rfl));exact⟨a1,a2.trans fN,by omega,by omega⟩
   ·rw[if_neg hq];obtain⟨a1,a2,a3,Y⟩:=nv f p (n+1) 0 (by omega) (ext (λ_=>rfl) (by omega) (.inl rfl));exact⟨a1,a2,by omega,by omega⟩
  ·rw[if_neg c];by_cases c2:ka r p (n - 1)<ka r p n
   ·rw[if_pos c2];exact⟨h,Rp _,OF _,by show n<=n+(f+1);omega⟩
   ·rw[if_neg c2];obtain⟨a1,a2,a3,Y⟩:=nv f p (n+1) (q+1) (by omega) (ext (λ_=>rfl) (by omega) (.inr ⟨rfl,by omega⟩));exact⟨a1,a2,by omega,by omega⟩
structure Got(r:Nat->Nat)(nrem:Nat)(p:Array Nat)(g:Nat×Array Nat):Prop where
 asc:CT r g.2 g.1
 le:g.1<=nrem
 pos:1<=g.1
 perm:g.2.Perm p
theorem ub{p:Array Nat}(Z:1<=n)(W:n<=nrem)(hs:nrem<=p.size)(h:Nq r p n):Got r nrem p (bG (eQ r) (UQ n nrem p)):=by
 unfold UQ;rw[iM];have X:CT r (u4 p 0 n) n:=λi j Y U=>by rw[uZ (by omega),uZ (by omega),if_pos ⟨by omega,by omega⟩,if_pos ⟨by omega,by omega⟩];exact h _ _ (by omega) (by omega)
 obtain⟨a1,a2,a3⟩:=u6 (p:=u4 p 0 n) (nrem - n) n Z X;exact⟨a3,by show bG (eQ r) (u0 (u4 p 0 n) (nrem - n) n)<=nrem;omega,by show 1<=bG (eQ r) (u0 (u4 p 0 n) (nrem - n) n);omega,fN⟩
theorem ny{p:Array Nat}(R:n<nrem)(hs:nrem<=p.size)(h:Down r p (n+1) 0):Got r nrem p (bG (eQ r) (T9 n nrem p)):=by
 unfold T9;rw[iM];obtain⟨a1,a2,a3,T⟩:=nv (nrem - (n+1)) p (n+1) 0 (by omega) h;generalize bG (eQ r) (u1 (nrem - (n+1)) p (n+1) 0)=d at a1 a2 a3 T;obtain⟨W,Z,X⟩:=d;dsimp only at a1 a2 a3 T;have Y:W.size=p.size:=a2.size_eq;by_cases hq:X>0
 ·show Got r nrem p (bG (eQ r) (if X>0 then _ else _));rw[if_pos hq];have hd:Nq r (u4 W (Z - (X+1)) Z) Z:=λi j U S=>by
   rw[qZ (show Z<=W.size by omega) a1,qZ (show Z<=W.size by omega) a1];exact a1.dsc i j U S
  have:=ub (n:=Z) (nrem:=nrem) (by omega) (by omega) (by rw[qY,Y];exact hs) hd;exact⟨this.asc,this.le,this.pos,(this.perm.trans fN).trans a2⟩
 ·show Got r nrem p (bG (eQ r) (if X>0 then _ else _));rw[if_neg hq];have:=ub (n:=Z) (nrem:=nrem) (by omega) (by omega) (by rw[Y];exact hs) a1.dsc;exact⟨this.asc,this.le,this.pos,this.perm.trans a2⟩
theorem Bj{p:Array Nat}(P:2<=nrem)(hs:nrem<=p.size):Got r nrem p (bG (eQ r) (Ui nrem p)):=by
 unfold Ui;rw[iM];obtain⟨a1,a2,a3⟩:=u6 (r:=r) (p:=p) (nrem - 1) 1 (OF _) (λi j Y T=>by
  have:i=j:=by omega
  subst this;exact OF _)
 have stop:∀(f n:Nat),1<=n->bG (eQ r) (u0 p f n)<n+f->ka r p (bG (eQ r) (u0 p f n))<ka r p (bG (eQ r) (u0 p f n) - 1):=by
  intro f
  induction f with
  |zero=>intro n _ h;exact absurd h (Qd _)
  | succ f ih=>
   intro n X h;have e:bG (eQ r) (u0 p (f+1) n)=if ka r p n<ka r p (n - 1)then n else bG (eQ r) (u0 p f (n+1)):=by
    show bG (eQ r) (if (eQ r) (p.getD n 0) (p.getD (n - 1) 0)=b_ then _ else _)=_;unfold ka;by_cases c:r (p.getD n 0)<r (p.getD (n - 1) 0)
    ·rw[if_pos (OS c),if_pos c];rfl
    ·rw[if_neg (λz=>c (PQ z)),if_neg c]
   rw[e]at h⊢;by_cases c:ka r p n<ka r p (n - 1)
   ·rw[if_pos c];exact c
   ·rw[if_neg c]at h⊢;exact ih (n+1) (by omega) (by omega)
 have Z:=stop (nrem - 1) 1 (OF _);generalize bG (eQ r) (u0 p (nrem - 1) 1)=n at a1 a2 a3 Z;by_cases hn:n=nrem
 ·show Got r nrem p (bG (eQ r) (if (n==nrem)=b_ then _ else _));rw[if_pos (by simp[hn])];exact⟨a3,by show n<=nrem;omega,a1,Rp _⟩
 ·show Got r nrem p (bG (eQ r) (if (n==nrem)=b_ then _ else _));rw[if_neg (by simp[hn])];have R:=Z (by omega);by_cases X:n>1
  ·rw [if_pos X];show Got r nrem p (bG (eQ r) (if (eQ r) (p.getD 0 0) (p.getD (n - 1) 0)=b_ then _ else _));by_cases c:r (p.getD 0 0)<r (p.getD (n - 1) 0)
   ·rw[if_pos (OS c)];exact⟨a3,by show n<=nrem;omega,a1,Rp _⟩
   ·rw [if_neg (λz=>c (PQ z))];have all:∀k,k<n->ka r p k=ka r p (n - 1):=λk Q=>by
     have U:=a3 0 k (by omega) Q;have S:=a3 k (n - 1) (by omega) (by omega);have O:ka r p (n - 1)<=ka r p 0:=SL c;omega
    have W:∀k,ka r (u4 p 0 n) k=ka r p k:=λk=>by
     rw[uZ (by omega)];split
     ·next h=>rw[all k h.2,all _ (by omega)]
     ·rfl
    have:=ny (r:=r) (n:=n) (nrem:=nrem) (p:=u4 p 0 n) (by omega) (by rw[qY];exact hs) ⟨λi j Y T=>by
      rw[W,W];by_cases ej:j=n
      ·subst ej;by_cases ei:i=j
       ·subst ei;exact OF _
       ·rw[all i (by omega)];omega
      ·rw[all i (by omega),all j (by omega)];exact OF _,by omega,λk U S=>by rw[show k=n+1 - 1 by omega]⟩
    exact⟨this.asc,this.le,this.pos,this.perm.trans fN⟩
  ·rw [if_neg X];have e1:n=1:=by omega
   subst e1;exact ny (by omega) hs ⟨λi j Y T=>by
     by_cases ej:j=1
     ·subst ej;by_cases ei:i=1
      ·subst ei;exact OF _
      ·rw[show i=1 - 1 by omega];omega
     ·rw[show i=j by omega];exact OF _,by omega,λk U S=>by rw[show k=1+1 - 1 by omega]⟩
theorem oK(Z:CT r p k):∀(f l m:Nat),m - l<=f->l<=m->m<=k->(∀i,i<l->ka r p i<=ka r p k)->(∀i,m<=i->i<k->ka r p k<=ka r p i)->
  bG (eQ r) (t4 p k f l m)<=k/\(∀i,i<bG (eQ r) (t4 p k f l m)->ka r p i<=ka r p k)/\∀i,bG (eQ r) (t4 p k f l m)<=i->i<k->ka r p k<=ka r p i
 |0,l,m,hf,hl,hm,h1,h2=>by
  have:l=m:=by omega
  subst this;exact⟨by show l<=k;omega,h1,h2⟩
 | f+1,l,m,hf,hl,hm,h1,h2=>by
  by_cases c:l ≥ m
  ·have e:bG (eQ r) (t4 p k (f+1) l m)=l:=by
    show bG (eQ r) (if l ≥ m then _ else _)=l;rw[if_pos c];rfl
   rw[e];have:l=m:=by omega
   subst this;exact⟨by omega,h1,h2⟩
  ·have e:bG (eQ r) (t4 p k (f+1) l m)=if ka r p k<ka r p ((l+m) / 2)then bG (eQ r) (t4 p k f l ((l+m) / 2))else bG (eQ r) (t4 p k f ((l+m) / 2+1) m):=by
    show bG (eQ r) (if l ≥ m then _ else _)=_;rw[if_neg c];show bG (eQ r) (if (eQ r) (p.getD k 0) (p.getD ((l+m) / 2) 0)=b_ then _ else _)=_;unfold ka;by_cases d:r (p.getD k 0)<r (p.getD ((l+m) / 2) 0)
    ·rw[if_pos (OS d),if_pos d]
    ·rw[if_neg (λz=>d (PQ z)),if_neg d]
   rw[e];by_cases d:ka r p k<ka r p ((l+m) / 2)
   ·rw[if_pos d];exact oK Z f l ((l+m) / 2) (by omega) (by omega) (by omega) h1 λi Y X=>OR (Qp d) (Z _ i Y X)
   ·rw[if_neg d];exact oK Z f ((l+m) / 2+1) m (by omega) (by omega) hm (λi Y=>OR (Z i ((l+m) / 2) (by omega) (by omega)) (by omega)) h2
theorem zZ:∀(f:Nat) (p:Array Nat) (k:Nat),k+f<=p.size->CT r p k->CT r (bG (eQ r) (TJ f p k)) (k+f)/\(bG (eQ r) (TJ f p k)).Perm p
 |0,p,k,hs,h=>⟨h,Rp _⟩
 | f +1,p,k,hs,h=>by
  have e:bG (eQ r) (TJ (f+1) p k)=bG (eQ r) (TJ f (Vg p k (k - bG (eQ r) (t4 p k k 0 k))) (k+1)):=by show bG (eQ r) ((t4 p k k 0 k).bind _)=_;rw[iM]
  rw[e];obtain⟨S,X,W⟩:=oK (r:=r) h k 0 k (by omega) (by omega) (OF _) (λi U=>absurd U (SV _)) (λi U Q=>absurd Q (by omega));generalize bG (eQ r) (t4 p k k 0 k)=l at S X W;have P:CT r (Vg p k (k - l)) (k+1):=λi j Z O=>by
   rw[ua (by omega) (by omega),ua (by omega) (by omega)];have Y:k - (k - l)=l:=by omega
   rw[Y];by_cases ei:i=l
   ·rw[if_pos ei];by_cases ej:j=l
    ·rw[if_pos ej];exact OF _
    ·rw[if_neg ej,if_pos ⟨by omega,by omega⟩];exact W (j - 1) (by omega) (by omega)
   ·rw[if_neg ei];by_cases ci:l<i/\i<=k
    ·rw[if_pos ci,if_neg (by omega),if_pos ⟨by omega,by omega⟩];exact h _ _ (by omega) (by omega)
    ·rw[if_neg ci];by_cases ej:j=l
     ·rw[if_pos ej];exact X i (by omega)
     ·rw[if_neg ej];by_cases cj:l<j/\j<=k
      ·rw[if_pos cj];exact h _ _ (by omega) (by omega)
      ·rw[if_neg cj];exact h _ _ Z (by omega)
  obtain⟨R,T⟩:=zZ f (Vg p k (k - l)) (k+1) (by rw[bubble_size];omega) P;refine⟨?_,T.trans (bubble_perm _ _ _)⟩;rw[show k+(f+1)=k+1+f by omega];exact R
theorem CU(W:2<=n):CT r (bG (eQ r) (u_ n)) n/\(bG (eQ r) (u_ n)).Perm (E3 (ee n)):=by
 unfold u_;rw[iM];have G:=Bj (r:=r) (nrem:=n) (p:=E3 (ee n)) W (by simp);generalize bG (eQ r) (Ui n (E3 (ee n)))=g at G;obtain⟨m,p⟩:=g;have U:p.size=n:=by rw[G.perm.size_eq];simp
 have hle:m<=n:=G.le;have Z:1<=m:=G.pos;show CT r (bG (eQ r) (if m<n then TJ (n - max m 1) p (max m 1)else T8 p)) n/\Array.Perm (bG (eQ r) (if m<n then TJ (n - max m 1) p (max m 1)else T8 p)) (E3 (ee n));by_cases c:m<n
 ·rw[if_pos c];have em:max m 1=m:=by omega
  rw[em];obtain⟨Y,X⟩:=zZ (r:=r) (n - m) p m (by omega) G.asc;refine⟨?_,X.trans G.perm⟩;rw[show m+(n - m)=n by omega]at Y;exact Y
 ·rw[if_neg c];have em:m=n:=by omega
  subst em;exact⟨G.asc,G.perm⟩
end
def yr(n:Nat){α:Type}(R:α->Prop):Vf α->Prop
 | .ret a=>R a
 | .ask i j k=>i<n/\j<n/\∀b,yr n R (k b)
theorem jU{n:Nat}{α Y:Type}{R:α->Prop}{Z:Y->Prop}{f:α->Vf Y}:∀{t:Vf α},yr n R t->(∀a,R a->yr n Z (f a))->yr n Z (t.bind f)
 | .ret a,h,k=>k a h
 | .ask i j g,h,k=>⟨h.1,h.2.1,λb=>jU (h.2.2 b) k⟩
theorem CV{n:Nat}{α:Type}{R:α->Prop}{Z:Nat->Nat->(Bool->dr->Prop)->dr->Prop}{b:Nat->Nat->Bool}{s:dr}{Q:α->dr->Prop}(h:∀i j C,i<n->j<n->C (b i j) s->Z i j C s):
  ∀{t:Vf α},yr n R t->Q (bG b t) s->t.kasWp Z Q s
 | .ret a,_,q=>q
 | .ask i j k,o,q=>h i j _ o.1 o.2.1 (CV h (o.2.2 (b i j)) q)
theorem rf{n:Nat}{α:Type}{R:α->Prop}{b Z:Nat->Nat->Bool}(h:∀i j,i<n->j<n->b i j=Z i j):∀{t:Vf α},yr n R t->bG b t=bG Z t
 | .ret a,_=>rfl
 | .ask i j k,o=>by
  show bG b (k (b i j))=bG Z (k (Z i j));rw[h i j o.1 o.2.1];exact rf h (o.2.2 _)
def In(n:Nat)(p:Array Nat):Prop:=0<n/\∀x∈p.toList,x<n
theorem In.get(h:In n p)(k:Nat):p.getD k 0<n:=by
 rw[Pg];cases e:p[k]? with
 |none=>exact h.1
 |some x=>exact h.2 x (by rw[<-O8]at e;exact Pa e)
def In.perm{q:Array Nat}(h:In n p)(e:q.Perm p):In n q:=⟨h.1,λx Z=>h.2 x ((Array.Perm.toList e).mem_iff.mp Z)⟩
theorem u7(h:In n p):∀(f m:Nat),yr n (λ_=>True) (u0 p f m)
 |0,m=>trivial
 | f+1,m=>⟨h.get _,h.get _,λb=>by
   cases b with
   |true=>exact trivial
   |false=>exact u7 h f (m+1)⟩
theorem nz:∀(f:Nat) (p:Array Nat) (m q:Nat),In n p->yr n (λr=>In n r.1) (u1 f p m q)
 |0,p,m,q,h=>h
 | f+1,p,m,q,h=>⟨h.get _,h.get _,λb=>by
   cases b with
   |true=>
    show yr n _ (if q>0 then _ else _);split
    ·exact nz f _ _ _ (h.perm fN)
    ·exact nz f _ _ _ h
   |false=>
    refine⟨h.get _,h.get _,λb=>?_⟩;cases b with
    |true=>exact h
    |false=>exact nz f _ _ _ h⟩
def uc(h:In n p):yr n (λr:Nat×Array Nat=>In n r.2) (UQ m nrem p):=
 jU (u7 (h.perm fN) _ _) λ_ _=>h.perm fN
def nA(h:In n p):yr n (λr:Nat×Array Nat=>In n r.2) (T9 m nrem p):=
 jU (nz _ _ _ _ h) λa Z=>by
  split
  ·exact uc (Z.perm fN)
  ·exact uc Z
theorem Bk(h:In n p):yr n (λr:Nat×Array Nat=>In n r.2) (Ui nrem p):=
 jU (u7 h _ _) λa _=>by
  split
  ·exact h
  ·split
   ·refine⟨h.get _,h.get _,λb=>?_⟩;cases b with
    |true=>exact h
    |false=>exact nA (h.perm fN)
   ·exact nA h
theorem oM(h:In n p):∀(f l m:Nat),yr n (λ_=>True) (t4 p k f l m)
 |0,l,m=>trivial
 | f+1,l,m=>by
  show yr n _ (if l ≥ m then _ else _);split
  ·exact trivial
  ·refine⟨h.get _,h.get _,λb=>?_⟩;cases b with
   |true=>exact oM h f _ _
   |false=>exact oM h f _ _
theorem z6:∀(f:Nat) (p:Array Nat) (k:Nat),In n p->yr n (In n) (TJ f p k)
 |0,p,k,h=>h
 |f+1,p,k,h=>jU (oM h _ _ _) λl _=>z6 f _ _ (h.perm (bubble_perm _ _ _))
def wH(Y:0<n):yr n (In n) (u_ n):=
 jU (Bk ⟨Y,λx X=>by simpa using X⟩) λa Z=>by
  split
  ·exact z6 _ _ _ Z
  ·exact Z
theorem wI{α:Type}{p q:α->Bool}:∀{l:List α} {x:α},(∀y∈l,p y=b_->q y=b_)->x∈l->p x=c_->q x=b_->l.countP p<l.countP q
 | y::l,x,h,hx,hp,hq=>by
  have W:l.countP p<=l.countP q:=List.countP_mono_left λz Z=>h z (OO _ Z);rw[List.countP_cons,List.countP_cons];rcases O2.mp hx with e|hx'
  ·subst e;rw[hp,hq];simp;omega
  ·have X:=wI (λz Z=>h z (OO _ Z)) hx' hp hq;have Y:=h y OV;cases e1:p y with
   |true=>rw[Y e1];simp;omega
   |false=>simp;split<;>omega
theorem FP{b:Nat->Nat->Bool}(P:2<=n)(W:∀i,i<n->b i i=c_)(O:∀i j k,i<n->j<n->k<n->b i j=b_->b j k=b_->b i k=b_)(T:∀i j k,i<n->j<n->k<n->b i k=b_->b i j=b_\/b j k=b_):
  (bG b (u_ n)).Perm (E3 (ee n))/\∀i j,i<=j->j<n->b ((bG b (u_ n)).getD j 0) ((bG b (u_ n)).getD i 0)=false:=by
 let r:Nat->Nat:=λi=>(ee n).countP λj=>b j i;have R:∀i j,i<n->j<n->b i j=decide (r i<r j):=λi j X Y=>by
  cases e:b i j with
  |true=>
   refine(OS ?_).symm;exact wI (x:=i) (λy S h=>O y i j (OP.mp S) X Y h e) (OP.mpr X) (W i X) e
  |false=>
   refine(OY (Tg.mpr ?_)).symm;refine List.countP_mono_left λy S h=>?_;rcases T y i j (OP.mp S) X Y h with z|z
   ·exact z
   ·rw[e]at z;cases z
 have Q:bG b (u_ n)=bG (eQ r) (u_ n):=rf R (wH (by omega));obtain⟨a1,a2⟩:=CU (r:=r) P;rw[Q];refine⟨a2,λi j U Y=>?_⟩;have Z:In n (bG (eQ r) (u_ n)):=In.perm ⟨by omega,λx N=>by simpa using N⟩ a2;rw[R _ _ (Z.get j) (Z.get i)];exact OY (Tg.mpr (a1 i j U Y))
end S3
namespace S3
open PySem PySem.Spec PySem.W PyProof.Rows L2
section
variable {prog:ey}{w:fg}{A:j_}{E:a_->dr->Prop}{s:dr}{Q:Bool->dr->Prop}
theorem wJ:∀{us ws:List a_} {ns ms:List Int} (i:Nat),m_ us ns->m_ ws ms->Q (HT.lexLt ns ms) s->
  KatLex prog w A b (decide (us.length<ws.length)) Q (us.zip ws) i s
 |[],[],ns,ms,i,h1,h2,q=>by
  cases h1;cases h2;exact q
 |[],_::_,_,_,_,h1,h2,q=>by
  cases h1;cases h2;exact q
 |_::_,[],_,_,_,h1,h2,q=>by
  cases h1;cases h2;exact q
 | u::us,v::ws,ns,ms,i,h1,h2,q=>by
  cases h1 with
  |cons n t h1=>
  cases h2 with
  | cons k t' h2=>
   rw[HT.lexLt_cons]at q;by_cases e:n=k
   ·rw[if_pos e]at q;refine kat_cons (SD ?_);have:(n==k)=true:=by simp[e]
    rw[this];refine kat_yes ?_;show KatLex prog w A b (decide (us.length+1<ws.length+1)) Q (us.zip ws) (i+1) s;rw[show decide (us.length+1<ws.length+1)=decide (us.length<ws.length) by simp];exact wJ (i+1) h1 h2 q
   ·rw[if_neg e]at q;refine kat_cons (SD ?_);have:(n==k)=false:=by simp[e]
    rw[this];refine kat_no ?_;cases hbi:(b && i==0)with
    |true=>exact oneLt_int q
    |false=>exact kat_one _ _ (lt_int q)
end
structure Tups(h:gg)(vs:List a_)(nss:List (List Int)):Prop where
 len:vs.length=nss.length
 get:∀(i:Nat),i<vs.length->∃a o us n,vs.getD i h_= .ref a/\h.get? a=ar o/\o.cls= .type "tuple"/\o.data= .seq us n/\m_ us.toList (nss.getD i [])/\0<us.size
theorem Tups.keep{h':gg}(t:Tups h vs nss)(k:∀i a o,i<vs.length->vs.getD i h_= .ref a->h.get? a=ar o->h'.get? a=ar o):Tups h' vs nss:=
 ⟨t.len,λi Z=>let ⟨a,o,us,n,e1,e2,r⟩:=t.get i Z;⟨a,o,us,n,e1,k i a o Z e1 e2,r⟩⟩
theorem Tups.ask{s:dr}(t:Tups s.heap vs nss){C:Bool->dr->Prop}(T:i<vs.length)(X:j<vs.length)
  (q:C (HT.lexLt (nss.getD i []) (nss.getD j [])) s):kas_ask prog w A (tuples' b) vs i j C s:=by
 obtain⟨a,o,us,n,e1,e2,e3,Z,W,R⟩:=t.get i T;obtain⟨N,Q,U,P,f1,f2,O,f4,Y,S⟩:=t.get j X;unfold kas_ask;rw[e1,f1];refine kat_lt e2 Z f2 f4 ?_;have z:=wJ (prog:=prog) (w:=w) (A:=A) (b:=b) 0 W Y q;simpa using z
end S3
namespace S3
open PySem PySem.Spec PyProof.Rows L2
abbrev St:=L2.St
def lg(cells:List (Str×dt)):List (Str×m1)->List (Str×dt)->List (Str×dt)
 |[],cs=>cs
 |(n,k)::r,cs=>lg cells r (if k== .free then (n,(cells.lookup n).getD 0)::cs else cs)
theorem kf(scope:Scope)(env:Env)(h:∀y∈scope.names,y.2= .free->∃c,env.cells.lookup y.1=ar c):UC scope env=aC (lg env.cells scope.names []):=by
 have go:∀(names:List (Str×m1)) (cs:List (Str×dt)),(∀y∈names,y.2= .free->∃c,env.cells.lookup y.1=ar c)->
   (Vn names cs (λ(x:Str×m1) (r:List (Str×dt))=>(if (x.2==j')=b_ then do let a<-cellOf env x.1;aC (EA ((x.1,a)::r))else aC (EA r):Sem (ForInStep (List (Str×dt))))):Sem (List (Str×dt)))=aC (lg env.cells names cs):=by
  intro names
  induction names with
  |nil=>intro cs _;rfl
  | cons y r ih=>
   intro cs U;obtain⟨n,k⟩:=y;have W:∀y∈r,y.2= .free->∃c,env.cells.lookup y.1=ar c:=λy hm=>U y (OO _ hm);rw[Te];by_cases hk:(k==j')=b_
   ·have Y:k= .free:=by simpa using hk
    obtain⟨c,X⟩:=U (n,k) OV Y;have e:cellOf env n=aC c:=by unfold cellOf;rw[X]
    simp only[hk,if_true,e,pure_bind];rw[ih _ W];simp only[lg,hk,if_true,X,Option.getD_some]
   ·have Z:(k==j')=false:=by simpa using hk
    simp only[Z,fb,if_false,pure_bind];rw[ih _ W];simp only[lg,Z,fb,if_false]
 have:=go scope.names [] h;unfold UC;simp only[bind_pure]at*;exact this
theorem u9{cells:List (Str×dt)}:∀(names:List (Str×m1)) (cs:List (Str×dt)),(∀y∈names,y.2= .free->∃c,cells.lookup y.1=ar c)->(∀p∈cs,cells.lookup p.1=ar p.2)->
  ∀p∈lg cells names cs,cells.lookup p.1=ar p.2
 |[],cs,_,h=>h
 | (n,k)::r,cs,hy,h=>by
  refine u9 r _ (λy hm=>hy y (OO _ hm)) λp Z=>?_;by_cases hk:(k==j')=b_
  ·rw[if_pos hk]at Z;rcases O2.mp Z with rfl|Z
   ·obtain⟨c,X⟩:=hy (n,k) OV (by simpa using hk);show cells.lookup n=ar ((cells.lookup n).getD 0);have Y:cells.lookup n=ar c:=X;rw[Y];rfl
   ·exact h p Z
  ·rw[if_neg hk]at Z;exact h p Z
theorem lh:∀(names:List (Str×m1)) (cs:List (Str×dt)),(x,j')∈names\/x∈cs.map (·.1)->x∈(lg cells names cs).map (·.1)
 |[],cs,h=>by
  rcases h with h|h
  ·cases h
  ·exact h
 | (n,k)::r,cs,h=>by
  refine lh r _ ?_;rcases h with h|h
  ·rcases O2.mp h with e|h
   ·cases e;refine .inr ?_;simp
   ·exact .inl h
  ·refine .inr ?_;by_cases hk:(k==j')=b_
   ·rw[if_pos hk];exact OO _ h
   ·rw[if_neg hk];exact h
theorem lookup_mem:∀{l:List (Str×dt)},l.lookup x=ar c->(x,c)∈l
 |[],h=>by cases h
 | (n,a)::r,h=>by
  by_cases e:x==n
  ·have Z:x=n:=by simpa using e
   rw[Pd,e]at h;have h':ar a=ar c:=h;cases h';subst Z;exact OV
  ·have e2:(x==n)=false:=by simpa using e
   rw[Pd,e2]at h;exact OO _ (lookup_mem h)
theorem mem_lookup:∀{l:List (Str×dt)},x∈l.map (·.1)->∃c,l.lookup x=ar c
 |[],h=>by cases h
 | (n,a)::r,h=>by
  by_cases e:x==n
  ·exact⟨a,by rw[Pd,e]⟩
  ·have e2:(x==n)=false:=by simpa using e
   rw[Pd,e2];refine mem_lookup ?_;rcases O2.mp h with z|z
   ·have Z:x=n:=z;subst Z;simp at e
   ·exact z
theorem bJ:∀{l:List (Str×m1)},l.lookup x=ar k->(x,k)∈l
 |[],h=>by cases h
 | (n,a)::r,h=>by
  by_cases e:x==n
  ·have Z:x=n:=by simpa using e
   rw[Pd,e]at h;have h':ar a=ar k:=h;cases h';subst Z;exact OV
  ·have e2:(x==n)=false:=by simpa using e
   rw[Pd,e2]at h;exact OO _ (bJ h)
theorem kg{env:Env}:∀{names:List (Str×m1)} {k:m1},
  (names.map λ(n,k)=>if (k==j' && env.scope.kind== .function && env.kindOf n==ar .cell)then (n,p4)else (n,k)).lookup x=ar k->
   names.lookup x=ar k\/(k= .cell/\names.lookup x=ar .free)
 |[],k,h=>by cases h
 | (n,a)::r,k,h=>by
  by_cases e:x==n
  ·rw[OW]at h;by_cases c:(a==j' && env.scope.kind== .function && env.kindOf n==ar .cell)=b_
   ·have Y:a= .free:=by
     simp only[hO,beq_iff_eq]at c;exact c.1.1
    simp only[c,if_true,la,e]at h;cases h;refine .inr ⟨rfl,?_⟩;rw[Pd,e,Y]
   ·have Z:(a==j' && env.scope.kind== .function && env.kindOf n==ar .cell)=false:=by simpa using c
    simp only[Z,fb,if_false,la,e]at h;refine .inl ?_;rw[Pd,e];exact h
  ·have e2:(x==n)=false:=by simpa using e
   rw[Pd,e2];refine kg (env:=env) (names:=r) ?_;rw[OW]at h;by_cases c:(a==j' && env.scope.kind== .function && env.kindOf n==ar .cell)=b_
   ·simp only[c,if_true,la,e2]at h;exact h
   ·have Z:(a==j' && env.scope.kind== .function && env.kindOf n==ar .cell)=false:=by simpa using c
    simp only[Z,fb,if_false,la,e2]at h;exact h
theorem nB{env:Env}:∀{names:List (Str×m1)},names.lookup x=ar .free->
  (names.map λ(n,k)=>if (k==j' && env.scope.kind== .function && env.kindOf n==ar .cell)then (n,p4)else (n,k)).lookup x=ar .cell\/
  (names.map λ(n,k)=>if (k==j' && env.scope.kind== .function && env.kindOf n==ar .cell)then (n,p4)else (n,k)).lookup x=ar .free
 |[],h=>by cases h
 | (n,a)::r,h=>by
  rw[OW];by_cases e:x==n
  ·rw[Pd,e]at h;have X:ar a=ar NameKind.free:=h;cases X;by_cases c:(j'==j' && env.scope.kind== .function && env.kindOf n==ar .cell)=b_
   ·refine .inl ?_;simp only[c,if_true,la,e]
   ·have Z:(j'==j' && env.scope.kind== .function && env.kindOf n==ar .cell)=false:=by simpa using c
    refine .inr ?_;simp only[Z,fb,if_false,la,e]
  ·have e2:(x==n)=false:=by simpa using e
   rw[Pd,e2]at h;have Y:=nB (env:=env) h;by_cases c:(a==j' && env.scope.kind== .function && env.kindOf n==ar .cell)=b_
   ·simp only[c,if_true,la,e2];exact Y
   ·have Z:(a==j' && env.scope.kind== .function && env.kindOf n==ar .cell)=false:=by simpa using c
    simp only[Z,fb,if_false,la,e2];exact Y
theorem yG:∀{names:List (Str×m1)} {n:Nat} {acc:List (Str×dt)} {p:Str×dt},p∈kS n names acc->p∈acc\/n<=p.2
 |[],n,acc,p,h=>.inl h
 | (x,k)::r,n,acc,p,h=>by
  unfold kS at h;split at h
  ·rcases yG h with h|h
   ·rcases O2.mp h with rfl|h
    ·exact .inr (OF _)
    ·exact .inl h
   ·exact .inr (RG h)
  ·exact yG h
theorem yH:∀{names:List (Str×m1)} {n:Nat} {acc:List (Str×dt)},(∀p∈acc,p.2<n)->(∀x y c,(x,c)∈acc->(y,c)∈acc->x=y)->∀x y c,(x,c)∈kS n names acc->(y,c)∈kS n names acc->x=y
 |[],n,acc,_,hi,x,y,c,h1,h2=>hi x y c h1 h2
 | (z,k)::r,n,acc,hl,hi,x,y,c,h1,h2=>by
  unfold kS at h1 h2;by_cases hk:(k==p4)=b_
  ·rw[if_pos hk]at h1 h2;refine yH (λp Z=>?_) (λx y c g1 g2=>?_) x y c h1 h2
   ·rcases O2.mp Z with rfl|Z
    ·exact QG _
    ·exact PR (hl p Z)
   ·rcases O2.mp g1 with g1|g1<;>rcases O2.mp g2 with g2|g2
    ·rw[<-g2]at g1;exact(Prod.mk.inj g1).1
    ·cases g1;exact absurd (hl _ g2) (Qd _)
    ·cases g2;exact absurd (hl _ g1) (Qd _)
    ·exact hi x y c g1 g2
  ·rw[if_neg hk]at h1 h2;exact yH hl hi x y c h1 h2
theorem vf:∀{names:List (Str×m1)} {n:Nat} {acc:List (Str×dt)},(∀y∈names,y.2= .cell->y.1≠x)->(kS n names acc).lookup x=acc.lookup x
 |[],_,_,_=>rfl
 | (z,k)::r,n,acc,h=>by
  unfold kS;split
  ·next hk=>
   rw[vf λy Z=>h y (OO _ Z),Pd];have:(x==z)=false:=by have:=h (z,k) OV (by simpa using hk);simpa using kC this
   rw[this]
  ·exact vf λy Z=>h y (OO _ Z)
theorem vg:∀{names:List (Str×m1)} {h:gg} {acc:List (Str×dt)} {p:Str×dt},p∈kS h.objs.size names acc->p∈acc\/(pushCells h names).IsCell p.2 none
 |[],h,acc,p,q=>.inl q
 | (x,k)::r,h,acc,p,q=>by
  unfold kS at q;unfold pushCells;split at q
  ·next hk=>
   rw[if_pos hk];have Z:p∈kS (h.push {cls:=.type "cell",data:=.cell none}).objs.size r ((x,h.objs.size)::acc):=by rw[PP];exact q
   rcases vg Z with Z|Z
   ·rcases O2.mp Z with rfl|Z
    ·exact .inr ⟨_,SW _ _ _ _ (OK _ rfl),rfl⟩
    ·exact .inl Z
   ·exact .inr Z
  ·next hk=>
   rw[if_neg hk];exact vg q
theorem yI:∀(names:List (Str×m1)) (n:Nat) (acc:List (Str×dt)),((x,p4)∈names\/∃c,acc.lookup x=ar c/\m<=c)->m<=n->(kS n names acc).lookup x=ar a->m<=a
 | [],n,acc,h,hm,e=>by
  rcases h with h|⟨c,h2,h3⟩
  ·cases h
  ·have Y:acc.lookup x=ar a:=e;rw[h2]at Y;cases Y;exact h3
 | (z,k)::r,n,acc,h,hm,e=>by
  unfold kS at e;by_cases hk:(k==p4)=b_
  ·rw[if_pos hk]at e;refine yI r (n+1) _ ?_ (Nat.le_succ_of_le hm) e;by_cases hz:(x==z)=b_
   ·exact .inr ⟨n,by rw[Pd,hz],hm⟩
   ·have Z:(x==z)=false:=by simpa using hz
    rcases h with h|⟨c,h2,h3⟩
    ·rcases O2.mp h with h|h
     ·cases h;simp at hz
     ·exact .inl h
    ·exact .inr ⟨c,by rw[Pd,Z];exact h2,h3⟩
  ·rw[if_neg hk]at e;refine yI r n acc ?_ hm e;rcases h with h|h
   ·rcases O2.mp h with h|h
    ·cases h;simp at hk
    ·exact .inl h
   ·exact .inr h
theorem ud{s:dr}{scope:Scope}{env:Env}
  (h:∀h1,h1.Ns s.heap.objs.size (λ_=>none)->(∀b o,s.heap.get? b=ar o->h1.get? b=ar o)->(∀p∈kS (s.heap.objs.size+1) scope.names cl,p∈cl\/h1.IsCell p.2 none)->
   Q {scope,locals:=s.heap.objs.size,globals:=env.globals,cells:=kS (s.heap.objs.size+1) scope.names cl,qual:=env.qual,func:=none,code:=env.code,frame:=env.frame,builtins:=env.builtins} {s with heap:=h1}):
  eb M A (newFunctionEnv scope env.globals cl [] env.qual none .none (ar env)) Q E s:=by
 simp only[newFunctionEnv,Option.isSome_some,if_true];refine OB (wpAny_alloc (OB (wpAny_layCells _ (λname kind cells=>by cases hkc:kind==p4<;>simp[hkc]) _ _ _ _ ?_)));have e:({s with heap:=s.heap.push {cls:=.type "dict",data:=.dict #[]}}:dr).heap.objs.size=s.heap.objs.size+1:=PP ..;rw[e];refine OB (m:=Vn [] _ _) (OE (OE (h _ ((Heap.Ns.new s.heap (.type "dict")).keeps (SW _ _)) (λb o q=>SW _ _ b o (OD _ q)) λp Z=>?_)));exact vg (h:=s.heap.push {cls:=.type "dict",data:=.dict #[]}) (by rw[e];exact Z)
def bc(X:Cx)(scope:Scope)(Nc:List Str)(C:dt)(ex:List dt)(s:dr)(H:Hp):Cx:=
 {X with N:=Nc,s₀:=s,H₀:=H,env:=compEnvC scope (kS (C+1) scope.names (lg X.env.cells scope.names [])) C X.env,outer:=X.stack,stack:=X.stack,ex:=ex,fn:=λx=>scope.names.lookup x==ar .cell,pn:=[],xe:=λ_ _=>False}
structure CompScope(X:Cx)(scope:Scope)(Nc:List Str)(js:List (Option Nat)):Prop where
 kind:scope.kind= .function
 cel:∀y∈scope.names,y.2= .cell->scope.names.lookup y.1=ar .cell
 loc:∀y∈scope.names,y.2= .local->scope.names.lookup y.1=ar .local
 free:∀y∈scope.names,y.2= .free->X.env.kindOf y.1=ar .cell\/X.env.kindOf y.1=ar .free
 len:js.length=Nc.length
 ix:∀(i:Nat) (x:Str) (j:Nat),Nc[i]? =ar x->js[i]? =ar (ar j)->X.N[j]? =ar x/\scope.names.lookup x=ar .free
def oO(js:List (Option Nat))(σ:St):St:=js.map λo=>o.bind λj=>(σ[j]?).join
def Fs(X:Cx)(ifs:List Expr)(t:TT):Prop:=
 ∀(pins:List (dt×Obj)) (s:dr) (σ:St) (H:Hp) (Q:Bool->Hp->Prop),Inv X pins σ H s->t σ H Q->
  eb (fc X.prog X.w) X.A (Vn ifs b_ λc r=>if r=b_ then do let ok<-isTrue c X.env (hY c X.env);aC (EA ok)else aC (EA r)) (TP X pins σ Q) X.xe s
def FQ:Fs X [] (λ_ H Q=>Q b_ H):=λpins s σ H Q I h=>wpAny_tests_nil ⟨H,I,h⟩
def FR(h:PT X c t):Fs X [c] t:=λpins s σ H Q I hw=>wpAny_tests_one (h pins s σ H Q I hw)
def z8(wi:TI)(js:List (Option Nat))(g:TG)(tt:TT)(te:TE):TE:=λσ H Q=>wi σ H λJ H1=>∀p,H1 p=none->
 ∃W:Nat->Nat->St->Hp->Prop,(∃m,W 0 m (oO js σ) (upd H1 p (.lst [])))/\∀i m σc Hc,W i m σc Hc->
  (J.stop i Hc/\Q (.ref p) Hc)\/(J.go i Hc/\∃N:St->Hp->Prop,(∀ σ' H',N σ' H'->∃m',m'<m/\W (i+1) m' σ' H')/\∀x H',J.yld i Hc x H'->g x σc H' λσ2 H2=>tt σ2 H2 λb H3=>
   if b=b_ then te σ2 H3 λy H4=>∃xs,H4 p=ar (.lst xs)/\xs.length<sizeLine/\N σ2 (upd H4 p (.lst (xs++[y])))else N σ2 H3)
section
variable {X:Cx}{scope:Scope}{Nc:List Str}{js:List (Option Nat)}{pins:List (dt×Obj)}{σ:St}{H:Hp}{s:dr}
theorem CompScope.has(c:CompScope X scope Nc js)(Y:X.Ok):∀y∈scope.names,y.2= .free->∃a,X.env.cells.lookup y.1=ar a:=λy Z e=>Y.has y.1 (c.free y Z e)
theorem rg{O:gg}(c:CompScope X scope Nc js)(I:Inv X pins σ H s)(S:∀b∈ex,kO X pins H b)(N:∀b∈ex,b<s.heap.objs.size)
  (R:C=s.heap.objs.size) (n:O.Ns C (λ_=>none)) (hs:∀b o,s.heap.get? b=ar o->O.get? b=ar o)
  (w:∀p∈kS (C+1) scope.names (lg X.env.cells scope.names []),p∈lg X.env.cells scope.names []\/O.IsCell p.2 none):
  Inv (bc X scope Nc C ex s H) [] (oO js σ) H {s with heap:=O,toks:=tk}:=by
 have Y:=u9 (cells:=X.env.cells) scope.names [] (c.has I.ok) (λ_ z=>nomatch z);have Q:∀x a,(lg X.env.cells scope.names []).lookup x=ar a->X.env.cells.lookup x=ar a:=λx a e=>Y _ (lookup_mem e);have A:∀b o,s.heap.get? b=ar o->b≠C:=λb o e=>by rw[R];exact OQ (OJ e)
 have P:∀p∈lg X.env.cells scope.names [],p.2<C+1:=λp B=>by obtain⟨v,F,J,_⟩:=I.cell p.1 p.2 (Y p B);rw[R];exact PR (OJ J)
 have Z:∀x a,(kS (C+1) scope.names (lg X.env.cells scope.names [])).lookup x=ar a->X.env.cells.lookup x=ar a\/(C<a/\O.IsCell a none):=λx a e=>by
  have hm:=lookup_mem e;rcases w _ hm with z|z
  ·exact .inl (Y _ z)
  ·rcases yG hm with y|y
   ·exact .inl (Y _ y)
   ·exact .inr ⟨y,z⟩
 refine⟨⟨I.ok.mod,c.kind,I.ok.glob,I.ok.blt,Ri R.symm,λx y a e1 e2=>yH P (λx y a e1 e2=>I.ok.inj x y a (Y _ e1) (Y _ e2)) x y a (lookup_mem e1) (lookup_mem e2),λx L=>?_,λx a z e=>?_,I.ok.hd,I.ok.frames,.inl rfl,λb W=>⟨?_,λx a e z=>?_⟩,
  I.bs,OR I.ok.bsz I.sz,λb o e W=>?_,λb W z=>?_,I.stack,I.stkFree⟩,rfl,I.bare,Un.kept hs,⟨_,n,λi x v e1 e2 e3=>?_⟩,λx a e=>?_,?_,λx a e=>?_,(λp B=>nomatch B),I.hok.kept hs,?_⟩
 ·-- names that are cells here have one
  have E:scope.names.lookup x=ar .free\/scope.names.lookup x=ar .cell:=by
   rcases L with L|L
   ·rcases kg (env:=X.env) (names:=scope.names) L with z|⟨_,z⟩
    ·exact .inr z
    ·exact .inl z
   ·rcases kg (env:=X.env) (names:=scope.names) L with z|⟨z,_⟩
    ·exact .inl z
    ·cases z
  refine Px.mp (Rz scope.names (C+1) _ ?_);rcases E with z|z
  ·exact .inr (Px.mpr (mem_lookup (lh scope.names [] (.inl (bJ z)))))
  ·exact .inl z
 ·-- the block's own cells are new
  have l:scope.names.lookup x=ar .cell:=by have:(scope.names.lookup x==ar .cell)=true:=z;simpa using this
  show s.heap.objs.size<=a;rw[<-R];exact RG (yI (m:=C+1) scope.names (C+1) _ (.inl (bJ l)) (OF _) e)
 ·show b≠C;rw[R];exact OQ (N b W)
 ·rcases Z x a e with y|⟨y,_⟩
  ·exact(S b W).2.2.2.2.1 x a y z
  ·rw[z,R]at y;exact Qd _ (R4 y (N b W))
 ·have:b<X.base.objs.size:=OJ e;rcases (S b W).2.2.2.1 with z|z
  ·exact I.ok.noex b o e z
  ·exact absurd (OU this (OR I.ok.bsz z)) (Qd _)
 ·rcases O2.mp (I.stkSub b z)with e|e
  ·exact(S b W).2.1 e
  ·exact(S b W).2.2.1 e
 ·-- the names that are read from around
  have t:Nc[i]? =ar x:=e1;have:∃j,js[i]? =ar (ar j)/\σ[j]? =ar (ar v):=by
   unfold oO at e2;rw[O1]at e2;cases q:js[i]? with
   |none=>rw[q]at e2;cases e2
   | some o=>
    rw[q]at e2;cases o with
    |none=>cases e2
    |some j=>
     refine⟨j,rfl,?_⟩;have U:(σ[j]?).join=ar v:=O5 e2;cases r:σ[j]? with
     |none=>rw[r]at U;cases U
     |some z=>rw[r]at U;exact Rl ar U
  obtain⟨j,hj,f⟩:=this;obtain⟨hN,T⟩:=c.ix i x j t hj;obtain⟨m,a4,k⟩:=I.loc;have K:=c.free (x,.free) (bJ T) rfl;have G:Ct X.env.scope x:=by
   rcases K with z|z
   ·exact .inr (.inl z)
   ·exact .inr (.inr z)
  obtain⟨u,h,d⟩:=k j x v hN f G;refine⟨u,h,.inr ⟨?_,?_⟩⟩
  ·rcases nB (env:=X.env) T with z|z
   ·exact .inl z
   ·exact .inr z
  ·rcases d with⟨z,_⟩|⟨_,a,ea,ha⟩
   ·rcases K with y|y
    ·rw[show X.env.kindOf x=ar p4 from y]at z;cases z
    ·rw[show X.env.kindOf x=ar j' from y]at z;cases z
   ·obtain⟨b,W⟩:=mem_lookup (lh (cells:=X.env.cells) scope.names [] (.inl (bJ T)));have:=Q x b W;rw[ea]at this;cases this;obtain⟨F,J,hd⟩:=ha;refine⟨a,?_,F,hs _ _ J,hd⟩;show(kS (C+1) scope.names (lg X.env.cells scope.names [])).lookup x=ar a;rw[vf λy g e z=>by have:=c.cel y g e;rw[z,T]at this;cases this];exact W
 ·rcases Z x a e with y|⟨_,y⟩
  ·obtain⟨v,F,J,hd⟩:=I.cell x a y;exact⟨v,F,hs _ _ J,hd⟩
  ·exact⟨_,y⟩
 ·show H C=none;rw[R];exact I.hok.fresh (OF _)
 ·rcases Z x a e with y|⟨y,_⟩
  ·exact I.freeC x a y
  ·exact I.hok.fresh (by rw[<-R];exact Qp y)
 ·show(oO js σ).length=Nc.length;unfold oO;rw[OC];exact c.len
theorem wK(I:Inv X pins σ H s)(P:C=s.heap.objs.size)(Z:∀b∈ex,kO X pins H b)
  (U:Inv (bc X scope Nc C ex s H) [] σc H' s') (hs:ri C s'.heap h2):Inv X pins σ H' {s' with heap:=h2}:=by
 have W:∀b o,s.heap.get? b=ar o->b≠C:=λb o e=>by rw[P];exact OQ (OJ e)
 have B:=U.base;have u:Un (kY X.stack) ex H H' s.heap h2:={
  keep:=λb o e n Y T=>(hs.2 b (W b o e)).trans (B.keep b o e n Y T)
  slot:=λb o e n Y T=>by obtain⟨Q,q⟩:=B.slot b o e n Y T;exact⟨Q,(hs.2 b (W b o e)).trans q⟩
  free:=B.free
  there:=λb o e T=>by obtain⟨R,q⟩:=B.there b o e T;exact⟨R,(hs.2 b (W b o e)).trans q⟩
  tups:=B.tups
  frzs:=B.frzs
  tbls:=B.tbls}
 refine I.call' (s':={s' with heap:=h2}) (ch:=ex) U.os u (λb o e=>?_) U.bare λb Y=>⟨(Z b Y).2.2.2.1,(Z b Y).2.1,(Z b Y).2.2.2.2.1,(Z b Y).2.2.2.2.2⟩;have S:∀b o,H' b=ar o->b≠C:=λb o e z=>by have hf:H' C=none:=U.free;rw[z,hf]at e;cases e
 refine(U.hok b o e).stay (λd v hd q=>?_) (λ_ q=>q) λ_ _ q=>q;refine(hs.2 d ?_).trans q;rcases hd with z|z
 ·subst z;exact S _ _ e
 ·exact S _ _ z
theorem wM{Q:VK}(G:Option (a_->Sem Unit))(Qr:a_->dr->Prop)(c:CompScope X scope Nc js)(hc:X.calm=b_)(hi:PI X tg iter wi)
  (b5:∀C ex s H,Inv X pins σ H s->(∀b∈ex,kO X pins H b)->PG (bc X scope Nc C ex s H) tg g/\Fs (bc X scope Nc C ex s H) ifs tt/\PE (bc X scope Nc C ex s H) elt te)
  (I:Inv X pins σ H s) (h:z8 wi js g tt te σ H Q)
  (f:∀p C s' S,Q (.ref p) S->(∀E,ri C s'.heap E->Inv X pins σ S {s' with heap:=E})->(∃m,s'.heap.Ns C m)->kO X pins S C->
   U4 (fc X.prog X.w) X.A X.xe G Qr (.ref p) C (.ok .next) s')
  (hs:∀x,kb iter X.env x=aC x:=by intro _;rfl):
  eb (fc X.prog X.w) X.A (comprehension (.ListComp elt [⟨tg,iter,ifs,0⟩] scope pos) scope X.env pos' (Vo []) c_ (hY iter X.env) G) Qr X.xe s:=by
 refine wpAny_comprehension_free rfl hs (kf scope X.env (c.has I.ok)) c.kind c.loc (dW (hi pins s σ H _ I h) λv s1 F=>dW F λd3 s2 E=>?_);obtain⟨it,Y,a,J,U,e,I2,T,t,f2,hW⟩:=E;subst e;refine Pm (ud λF L R O=>?_);dsimp only at L R O⊢;obtain⟨W,⟨m0,w0⟩,turn⟩:=hW s2.heap.objs.size (I2.hok.fresh (OF _));have l:Inv X pins σ (upd U s2.heap.objs.size (.lst [])) {s2 with heap:=s2.heap.push {cls:=.type "list",dict:=none,data:=.seq ([]:List a_).toArray}}:=
  I2.laid (t':=s2.toks) (λ_ _ q=>OD _ q) (OF _) ⟨OX _,[],0,.nil,OK _ rfl⟩
 generalize hS3:({s2 with heap:=s2.heap.push {cls:=.type "list",dict:=none,data:=.seq ([]:List a_).toArray}}:dr)=s3 at l;have e3:s3.heap=s2.heap.push {cls:=.type "list",dict:=none,data:=.seq ([]:List a_).toArray}:=by rw[<-hS3]
 rw[<-e3]at L R O⊢;generalize hp:s2.heap.objs.size=p at*;have j:∀b∈Y,b<p:=λb Z=>by obtain⟨o,e,_⟩:=T.obj _ _ t b Z;rw[<-hp];exact OJ e
 have a5:∀b∈Y,b≠p:=λb Z=>OQ (j b Z);have f3:∀b∈Y,kO X pins (upd U p (.lst [])) b:=λb Z=>⟨by rw[aI (a5 b Z)];exact(f2 b Z).1,(f2 b Z).2⟩;have B:s3.heap.objs.size=p+1:=by rw[e3,PP,hp]
 have k:∀b∈Y,b<s3.heap.objs.size:=λb Z=>by rw[B];exact PR (j b Z)
 have P:∀b o,s3.heap.get? b=ar o->F.get? b=ar o:=R;have b4:a 0 F:=T.keep _ _ _ t λb Z o e=>P b o (by rw[e3];exact OD _ e);generalize hC:s3.heap.objs.size=C at*;have a4:F.Ns C (λ_=>none):=by simpa using L
 have start:∀tk,Inv (bc X scope Nc C Y s3 (upd U p (.lst []))) [] (oO js σ) (upd U p (.lst [])) {s3 with heap:=F,toks:=tk}:=λtk=>rg c l f3 (λb Z=>by rw[hC];exact k b Z) hC.symm a4 P O;have ok:=(start 0).ok;have K:∀{S:Hp},(∀b∈Y,S b=none)->∀b∈Y,kO (bc X scope Nc C Y s3 (upd U p (.lst []))) [] S b:=λhn b Z=>
  ⟨hn b Z,(ok.exf b Z).1,ok.exfs b Z,.inl Z,(ok.exf b Z).2,λ_ z=>nomatch z⟩
 obtain⟨hG,hT,hE⟩:=b5 C Y s3 (upd U p (.lst [])) l f3;have loop:∀s':dr,Inv (bc X scope Nc C Y s3 (upd U p (.lst []))) [] (oO js σ) (upd U p (.lst [])) s'->a 0 s'.heap->
   rn (fc X.prog X.w) X.A (.compLoop (.ListComp elt [⟨tg,iter,ifs,0⟩] scope pos) 0 (.ref it) (.ref p) (bc X scope Nc C Y s3 (upd U p (.lst []))).env) (U4 (fc X.prog X.w) X.A X.xe G Qr (.ref p) C) s':=by
  intro s' I' b3;refine codeAny_loop rfl (λn s'=>∃i σ' S,Inv (bc X scope Nc C Y s3 (upd U p (.lst []))) [] σ' S s'/\a i s'.heap/\(∀b∈Y,S b=none)/\W i n σ' S) ?_ m0 ⟨0,_,_,I',b3,λb Z=>(f3 b Z).1,w0⟩;rintro n s4 ⟨i,σ4,H4,I4,st4,fr4,w4⟩;show eb _ X.A ((T_ (.ListComp elt [⟨tg,iter,ifs,0⟩] scope pos) 0 (.ref it) (.ref p) (bc X scope Nc C Y s3 (upd U p (.lst []))).env).onRaise (λx=>do Fn x (bc X scope Nc C Y s3 (upd U p (.lst []))).env;theTreesLotGoes x)) _ _ s4;refine wpAny_noted ?_;rw[compTurn_list];refine OB (PL (OB ?_));rcases turn i n σ4 H4 w4 with⟨stop,qn⟩|⟨go,N,hN,step⟩
  ·refine O6 (T.done (bc X scope Nc C Y s3 (upd U p (.lst []))) rfl rfl rfl hc i [] s4 σ4 H4 (λ_ _=>False) I4 (K fr4) st4 stop) (λr s5 ⟨hr,I5⟩=>?_) λ_ _ z=>z.elim;subst hr;refine OE (f p C s5 H4 qn (λE b1=>wK l hC.symm f3 I5 b1) ?_ (l.fpOk (Ri hC) I5.free));obtain⟨m,hm,_⟩:=I5.loc;exact⟨m,hm⟩
  ·refine O6 (T.item (bc X scope Nc C Y s3 (upd U p (.lst []))) rfl rfl rfl hc i [] s4 σ4 H4 (λ_ _=>False) I4 (K fr4) st4 go) (λr s5 ⟨u,hr,h5⟩=>?_) λ_ _ z=>z.elim;subst hr;refine OB (O6 h5 (λ_ s6 ⟨x,H6,I6,r6,y6,st6,fr6⟩=>?_) λ_ _ z=>z.elim);have a3:=I6.pinned (K fr6) (T.obj _ _ st6);refine OB (O6 (hG _ s6 σ4 H6 x u _ a3 r6 (step x H6 y6)) (λ_ s7 ⟨σ7,H7,I7,q7⟩=>?_) λ_ _ z=>z.elim);refine OB (O6 (hT _ s7 σ7 H7 _ I7 q7) (λb s8 ⟨H8,I8,q8⟩=>?_) λ_ _ z=>z.elim);have To:∀{σ9:St} {H9:Hp} {s9:dr},Inv (bc X scope Nc C Y s3 (upd U p (.lst []))) ([]++oH Y s6.heap) σ9 H9 s9->N σ9 H9->
     ∃m,m<n/\∃i σ' S,Inv (bc X scope Nc C Y s3 (upd U p (.lst []))) [] σ' S s9/\a i s9.heap/\(∀b∈Y,S b=none)/\W i m σ' S:=λ{σ9 H9 s9} I9 n9=>by
    obtain⟨m',hm,w9⟩:=hN σ9 H9 n9;refine⟨m',hm,i+1,σ9,H9,I9.unpinned,T.keep _ _ _ st6 λb Z o e=>(I9.pin (b,o) (OZ _ (OZ _ (gu Z e)))).1,λb Z=>?_,w9⟩;obtain⟨o,e,d⟩:=T.obj _ _ st6 b Z;exact(I9.pin (b,o) (OZ _ (OZ _ (gu Z e)))).2.1
   cases b with
   |false=>exact OE ⟨rfl,To I8 q8⟩
   |true=>
    refine OB (OB (O6 (hE _ s8 σ7 H8 _ I8 q8) (λy s9 ⟨yv,H9,I9,r9,q9⟩=>?_) λ_ _ z=>z.elim));obtain⟨xs,hx,hl,n9⟩:=q9;refine OB (O6 (oJ (X:=bc X scope Nc C Y s3 (upd U p (.lst []))) _ s9 σ7 H9 (.ref p) [yv] (.ref p) [y] (λ_ S=>N σ7 S) I9 rfl (.cons r9 .nil) ⟨p,xs,yv,rfl,rfl,hx,hl,n9⟩) (λ_ s10 ⟨_,H10,I10,_,q10⟩=>?_) λ_ _ z=>z.elim);exact OE (OE ⟨rfl,To I10 q10⟩)
 refine codeAny_compStart_list (loop _ ?_ ?_) (T.self _ 0 _ _ _ ?_ (loop _ ?_ ?_))
 all_goals first
  |exact b4
  |(subst hS3;exact start _)
theorem FS(c:CompScope X scope Nc js)(U:X.calm=b_)(R:PI X tg iter wi)
  (Z:∀C ex s H,PG (bc X scope Nc C ex s H) tg g/\Fs (bc X scope Nc C ex s H) ifs tt/\PE (bc X scope Nc C ex s H) elt te)
  (hs:∀x,kb iter X.env x=aC x:=by intro _;rfl):PE X (.ListComp elt [⟨tg,iter,ifs,0⟩] scope pos) (z8 wi js g tt te):=by
 intro pins s σ H Q I h;rw[eval_ListComp];refine wM none _ c U R (λC ex s H _ _=>Z C ex s H) I h (λp C s' P q S W _=>?_) hs;obtain⟨m,hm⟩:=W;exact⟨m,hm,λT Y=>⟨.ref p,P,S T Y,rfl,q⟩⟩
theorem yJ{pos:Pos}(K:X.N.Nodup)(U:X.N[i]? =ar x)(F:Loc X.env.scope x)
  (c:CompScope X scope Nc js) (O:X.calm=b_) (G:PI X tg iter wi)
  (T:∀C ex s H,PG (bc X scope Nc C ex s H) tg g/\Fs (bc X scope Nc C ex s H) ifs tt/\PE (bc X scope Nc C ex s H) elt te)
  (W:lb (.ListComp elt [⟨tg,iter,ifs,0⟩] scope cpos) (ar (.Name x pos')) pos.line X.env=aC true:=by rfl)
  (J:X.fn x=b_\/X.env.scope.names.lookup x=ar .local:=by first|exact .inl rfl|exact .inr rfl|assumption)
  (hs:∀x,kb iter X.env x=aC x:=by intro _;rfl):PS X (.Assign [.Name x pos'] (.ListComp elt [⟨tg,iter,ifs,0⟩] scope cpos) pos) (Iz (z8 wi js g tt te) (CA i)):=by
 intro pins s σ H D I h;rw[exec_Assign_Name_used _ _ _ _ W];refine OB (PL (OB ?_));show eb _ X.A (do let _<-comprehension (.ListComp elt [⟨tg,iter,ifs,0⟩] scope cpos) scope X.env _ (Vo []) c_ (hY iter X.env) (ar (Sl (.Name x pos') X.env))) _ _ s;refine OB (dW (wM (ar (Sl (.Name x pos') X.env)) (λ_ s'=>SP X pins D .next s') c O G (λC ex s H _ _=>T C ex s H) I h (λp C s' S q P R Z=>?_) hs) λ_ s' q=>OE (OE q));obtain⟨m,hm⟩:=R;have L:Inv X pins σ S s':=P s'.heap (.refl ..);refine wpAny_assign_Name (tX L K U F (v:=.ref p) rfl (λs'' I'' ⟨a,hsb,ha⟩=>?_) J);have Q:C≠a:=by
  rcases ha with z|z
  ·rw[z];exact Z.2.1
  ·exact λe=>Z.2.2.2.2.1 x a z e.symm
 refine⟨m,hm.sameBut hsb Q,λB Y=>?_⟩;exact⟨_,S,I''.turned (t':=s''.toks) (it:=C) (λb o E e=>(Y.2 b E).trans e) Z.1 Z.2.1 Z.2.2.2.1 Z.2.2.2.2.1 Z.2.2.2.2.2,q⟩
end
inductive D where
 |non|bl (b:Bool)|int (i:Int)|str (x:Str)|tup (ds:List D)|lst (k:Nat)|ro (ds:List D)|emp
 |fn (a c:dt) (q:Str) (ds:List D) (vs:List V)|exc (x:Str) (ds:List D)
 |fz (ds:List D)
abbrev aE:=List (List D)
inductive Res(α:Type) where
 |ok (a:α)|ex (x:D)
def M(α:Type):=aE->Option (Res α×aE)
namespace M
def ret{α:Type}(a:α):M α:=λS=>ar (.ok a,S)
def bnd{α β:Type}(m:M α)(f:α->M β):M β:=λS=>match m S with
 |some (.ok a,S')=>f a S'
 |some (.ex x,S')=>ar (.ex x,S')
 |none=>none
def fail{α:Type}:M α:=λ_=>none
def raise{α:Type}(x:D):M α:=λS=>ar (.ex x,S)
noncomputable instance:Monad M where
 pure:=ret
 bind:=bnd
end M
def Ot(K:dV)(a:dt)(xs:List V):Prop:=∃(o:Obj) (its:Array a_) (n:Nat),K.lookup a=ar o/\o.cls= .type "list"/\o.dict=none/\o.data= .seq its n/\its.size<=sizeLine/\bx xs its.toList
def Ft(K:dV)(H:Hp)(a:dt)(vs:List V):Prop:=(∃o,H a=ar (.frz o (.lst vs)))\/Ot K a vs
def Ft.sq{K:dV}{H:Hp}{a:dt}{vs:List V}(h:Ft K H a vs):kN K H a vs:=h.imp (λ⟨o,e⟩=>.inr ⟨o,e⟩) λz=>z
def qf(C a:dt)(od:Option dt):gg->Prop:=λh=>∃oe vs,h.get? a=ar oe/\oe.cls= .ref C/\oe.dict=od/\oe.data= .fields vs
def sZ(qual:Str)(c:dt):gg->Prop:=λh=>h.CodeRec (.ref c) qual
def cO:List Str:=["law","_law_within_right","_law_refusals_right","_law_sharings_right","_law_right","_law_lists_right","_law_papers_right","_law_great_right","_law_told_right","_law_desks_right","_law_texts_right"]
def TabsOk(K:dV)(H:Hp):Prop:=∀x∈cO,∀c P,mu K x=ar (c,P)->∃ps,H P=ar (.tbl ps)/\UR ps.toList/\
 ∀pos cv,Q_ pos ps.toList=ar cv->∃c',cv= .ref c'/\H c'=ar (.ext (sZ (x++".<locals>.<lambda>") c'))
theorem TabsOk.mono{K:dV}{H Z:Hp}(h:TabsOk K H)(k:∀a o,H a=ar o->(∀vs,o≠ .lst vs)->Z a=ar o):TabsOk K Z:=λx Y c P e=>
 let ⟨ps,h1,h2,h3⟩:=h x Y c P e
 ⟨ps,k _ _ h1 (by intro _ z;cases z),h2,λpos cv q=>let ⟨c',e1,e2⟩:=h3 pos cv q;⟨c',e1,k _ _ e2 (by intro _ z;cases z)⟩⟩
mutual
inductive RelD(K:dV)(ι:List dt)(H:Hp):D->V->Prop where
 |non:RelD K ι H .non .non
 |bl (b:Bool):RelD K ι H (.bl b) (.bl b)
 |int (i:Int):RelD K ι H (.int i) (.int i)
 |str (x:Str):RelD K ι H (.str x) (.str x)
 |tup {a:dt} {ds:List D} {vs:List V}:H a=ar (.tup vs)->RelDs K ι H ds vs->RelD K ι H (.tup ds) (.ref a)
 |lst {a:dt} {k:Nat}:ι[k]? =ar a->RelD K ι H (.lst k) (.ref a)
 |ro {a:dt} {ds:List D} {vs:List V}:Ft K H a vs->RelDs K ι H ds vs->RelD K ι H (.ro ds) (.ref a)
 |emp {a:dt}:H a=ar (.dK [])->RelD K ι H .emp (.ref a)
 |fn {a c:dt} {q:Str} {ds:List D} {vs:List V}:H c=ar (.ext (sZ q c))->RelDs K ι H ds vs->RelD K ι H (.fn a c q ds vs) (.ref a)
 |exc {a C:dt} {x:Str}:p7 K g_ x=ar (ar (.ref C))->H a=ar (.ext (qf C a none))->RelD K ι H (.exc x []) (.ref a)
 |excF {a C dx:dt} {x:Str} {fs:List (Str×V)} {ds:List D}:p7 K g_ x=ar (ar (.ref C))->H a=ar (.ext (qf C a (ar dx)))->H dx=ar (.xd fs)->fs.map (·.1)=([("many":Str),("most":Str)]:List Str)->RelDs K ι H ds (fs.map (·.2))->RelD K ι H (.exc x ds) (.ref a)
 |fz {a:dt} {o:Obj} {ds:List D} {vs:List V}:H a=ar (.frz o (.lst vs))->RelDs K ι H ds vs->RelD K ι H (.fz ds) (.ref a)
inductive RelDs(K:dV)(ι:List dt)(H:Hp):List D->List V->Prop where
 |nil:RelDs K ι H [] []
 |cons {d:D} {v:V} {ds:List D} {vs:List V}:RelD K ι H d v->RelDs K ι H ds vs->RelDs K ι H (d::ds) (v::vs)
end
structure Rep(K:dV)(ι:List dt)(H:Hp)(S:aE):Prop where
 nd:ι.Nodup
 len:ι.length=S.length
 get:∀(k:Nat) (a:dt) (xs:List D),ι[k]? =ar a->S[k]? =ar xs->∃vs,H a=ar (.lst vs)/\RelDs K ι H xs vs
 tab:TabsOk K H
structure Ext(ι:List dt)(H:Hp)(ι':List dt)(H':Hp):Prop where
 ids:∃more,ι'=ι++more
 oth:∀a o,H a=ar o->a∉ι->(∀ps,o≠ .tbl ps)->H' a=ar o/\a∉ι'
structure ExtN(ι:List dt)(H:Hp)(ι':List dt)(H':Hp):Prop where
 ids:∃more,ι'=ι++more
 oth:∀a o,H a=ar o->a∉ι->(∀ps,o≠ .tbl ps)->(∀vs,o≠ .lst vs)->H' a=ar o/\a∉ι'
theorem Ext.n{ι Z:List dt}{H Y:Hp}(e:Ext ι H Z Y):ExtN ι H Z Y:=⟨e.ids,λa o h n t _=>e.oth a o h n t⟩
def Ext.refl{ι:List dt}{H:Hp}:Ext ι H ι H:=⟨⟨[],by simp⟩,λ_ _ h n _=>⟨h,n⟩⟩
theorem Ext.trans{ι Z Y:List dt}{H X W:Hp}(a:Ext ι H Z X)(b:Ext Z X Y W):Ext ι H Y W:=by obtain⟨U,e1⟩:=a.ids;obtain⟨T,e2⟩:=b.ids;exact⟨⟨U++T,by rw[e2,e1,O7]⟩,λc o h n t=>let ⟨h1,n1⟩:=a.oth c o h n t;b.oth c o h1 n1 t⟩
def ExtN.at{ι Z:List dt}{H Y:Hp}(e:ExtN ι H Z Y){k:Nat}{a:dt}(h:ι[k]? =ar a):Z[k]? =ar a:=by obtain⟨m,rfl⟩:=e.ids;have X:k<ι.length:=(OI.mp h).1;rw[Pf X];exact h
section
variable {K:dV}{ι ι':List dt}{H H':Hp}{S:aE}
theorem Rep.isL(r:Rep K ι H S)(h:a∈ι):∃vs,H a=ar (.lst vs):=by
 obtain⟨k,Y,e⟩:=RP.mp h;have Z:k<S.length:=by rw[<-r.len];exact Y
 obtain⟨vs,X,_⟩:=r.get k a (S[k]) (by rw[OH Y,e]) (OH Z);exact⟨vs,X⟩
def Rep.notIn(r:Rep K ι H S)(h:H a=ar o)(Z:∀vs,o≠ .lst vs):a∉ι:=λz=>by obtain⟨vs,e⟩:=r.isL z;rw[h]at e;exact Z vs (O5 e)
def Rep.free(r:Rep K ι H S)(h:H a=none):a∉ι:=λz=>by obtain⟨vs,e⟩:=r.isL z;rw[h]at e;cases e
mutual
theorem RelD.laterN(r:Rep K ι H S)(e:ExtN ι H ι' H'):∀{d:D} {v:V},RelD K ι H d v->RelD K ι' H' d v
 |_,_,.non=>.non
 |_,_,.bl b=>.bl b
 |_,_,.int i=>.int i
 |_,_,.str x=>.str x
 |_,_,.tup h hs=>.tup (e.oth _ _ h (r.notIn h (by intro _ z;cases z)) (by intro _ z;cases z) (by intro _ z;cases z)).1 (RelDs.laterN r e hs)
 |_,_,.lst h=>.lst (e.at h)
 |_,_,.ro h hs=>.ro (h.imp (λ⟨o,h⟩=>⟨o,(e.oth _ _ h (r.notIn h (by intro _ z;cases z)) (by intro _ z;cases z) (by intro _ z;cases z)).1⟩) λz=>z) (RelDs.laterN r e hs)
 |_,_,.emp h=>.emp (e.oth _ _ h (r.notIn h (by intro _ z;cases z)) (by intro _ z;cases z) (by intro _ z;cases z)).1
 |_,_,.fn h hs=>.fn (e.oth _ _ h (r.notIn h (by intro _ z;cases z)) (by intro _ z;cases z) (by intro _ z;cases z)).1 (RelDs.laterN r e hs)
 |_,_,.exc n h=>.exc n (e.oth _ _ h (r.notIn h (by intro _ z;cases z)) (by intro _ z;cases z) (by intro _ z;cases z)).1
 |_,_,.excF n h h2 hn hs=>.excF n (e.oth _ _ h (r.notIn h (by intro _ z;cases z)) (by intro _ z;cases z) (by intro _ z;cases z)).1 (e.oth _ _ h2 (r.notIn h2 (by intro _ z;cases z)) (by intro _ z;cases z) (by intro _ z;cases z)).1 hn (RelDs.laterN r e hs)
 |_,_,.fz h hs=>.fz (e.oth _ _ h (r.notIn h (by intro _ z;cases z)) (by intro _ z;cases z) (by intro _ z;cases z)).1 (RelDs.laterN r e hs)
theorem RelDs.laterN(r:Rep K ι H S)(e:ExtN ι H ι' H'):∀{ds:List D} {vs:List V},RelDs K ι H ds vs->RelDs K ι' H' ds vs
 |_,_,.nil=>.nil
 |_,_,.cons h hs=>.cons (RelD.laterN r e h) (RelDs.laterN r e hs)
end
def RelD.later(r:Rep K ι H S)(e:Ext ι H ι' H'){d:D}{v:V}(h:RelD K ι H d v):RelD K ι' H' d v:=RelD.laterN r e.n h
def RelDs.later(r:Rep K ι H S)(e:Ext ι H ι' H'){ds:List D}{vs:List V}(h:RelDs K ι H ds vs):RelDs K ι' H' ds vs:=RelDs.laterN r e.n h
theorem RelDs.length:∀{ds:List D} {vs:List V},RelDs K ι H ds vs->ds.length=vs.length
 |_,_,.nil=>rfl
 |_,_,.cons _ t=>by rw[O9,O9,RelDs.length t]
theorem RelDs.append:∀{ds es:List D} {vs ws:List V},RelDs K ι H ds vs->RelDs K ι H es ws->RelDs K ι H (ds++es) (vs++ws)
 |_,_,_,_,.nil,s=>s
 |_,_,_,_,.cons r t,s=>.cons r (RelDs.append t s)
theorem RelDs.get':∀{ds:List D} {vs:List V} {i:Nat} {d:D},RelDs K ι H ds vs->ds[i]? =ar d->∃v,vs[i]? =ar v/\RelD K ι H d v
 |_,_,_,_,.nil,e=>by simp at e
 |_,_,0,_,.cons r _,e=>by simp at e;subst e;exact⟨_,rfl,r⟩
 |_,_,i+1,v,.cons _ t,e=>by
  obtain⟨u,Z,Y⟩:=RelDs.get' (i:=i) t (by simpa using e);exact⟨u,by simpa using Z,Y⟩
theorem RelDs.take:∀{ds:List D} {vs:List V} (n:Nat),RelDs K ι H ds vs->RelDs K ι H (ds.take n) (vs.take n)
 |_,_,0,_=>.nil
 |_,_,_+1,.nil=>.nil
 |_,_,n+1,.cons r t=>.cons r (RelDs.take n t)
theorem RelDs.drop:∀{ds:List D} {vs:List V} (n:Nat),RelDs K ι H ds vs->RelDs K ι H (ds.drop n) (vs.drop n)
 |_,_,0,r=>r
 |_,_,_+1,.nil=>.nil
 |_,_,n+1,.cons _ t=>RelDs.drop n t
theorem RelDs.set(r:RelD K ι H d v):∀{ds:List D} {vs:List V} (i:Nat),RelDs K ι H ds vs->RelDs K ι H (ds.set i d) (vs.set i v)
 |_,_,_,.nil=>.nil
 |_,_,0,.cons _ t=>.cons r t
 |_,_,i+1,.cons q t=>.cons q (RelDs.set r i t)
theorem RelDs.eraseIdx:∀{ds:List D} {vs:List V} (i:Nat),RelDs K ι H ds vs->RelDs K ι H (ds.eraseIdx i) (vs.eraseIdx i)
 |_,_,_,.nil=>.nil
 |_,_,0,.cons _ t=>t
 |_,_,i+1,.cons q t=>.cons q (RelDs.eraseIdx i t)
def fx(Z:H p=none):Ext ι H ι (upd H p o):=⟨⟨[],by simp⟩,λa Y h n _=>⟨by rw[aI (aU h Z)];exact h,n⟩⟩
theorem gF{p:dt}{o:HO}(r:Rep K ι H S)(Z:H p=none):Rep K ι (upd H p o) S:=by refine⟨r.nd,r.len,λk a xs e1 e2=>?_,r.tab.mono λb o h _=>by rw[aI (aU h Z)];exact h⟩;obtain⟨vs,Y,X⟩:=r.get k a xs e1 e2;exact⟨vs,by rw[aI (aU Y Z)];exact Y,RelDs.later r (fx Z) X⟩
def wN(Z:H p=none):Ext ι H (ι++[p]) (upd H p o):=⟨⟨[p],rfl⟩,λa Y h n _=>⟨by rw[aI (aU h Z)];exact h,by have:a≠p:=aU h Z;simp[n,this]⟩⟩
theorem CY{p:dt}{xs:List D}{vs:List V}(r:Rep K ι H S)(Z:H p=none)(h:RelDs K ι H xs vs):Rep K (ι++[p]) (upd H p (.lst vs)) (S++[xs]):=by
 have U:Ext ι H (ι++[p]) (upd H p (.lst vs)):=wN Z;refine⟨?_,by simp[r.len],λk a ys e1 e2=>?_,r.tab.mono λb o h _=>by rw[aI (aU h Z)];exact h⟩
 ·rw[List.nodup_append];refine⟨r.nd,by simp,λa T b Q=>?_⟩;have:b=p:=by simpa using Q
  subst this;rintro rfl;exact r.free Z T
 ·by_cases hk:k<ι.length
  ·rw[Pf hk]at e1;rw[Pf (by rw[<-r.len];exact hk)]at e2;obtain⟨ws,X,R⟩:=r.get k a ys e1 e2;exact⟨ws,by rw[aI (aU X Z)];exact X,RelDs.later r U R⟩
  ·have Y:k<(ι++[p]).length:=(OI.mp e1).1;have:k=ι.length:=by simp at Y;omega
   subst this;simp at e1;rw[r.len]at e2;simp at e2;subst e1 e2;exact⟨vs,aX,RelDs.later r U h⟩
theorem rh:∀{l:List dt} {i j:Nat} {a:dt},l.Nodup->l[i]? =ar a->l[j]? =ar a->i=j
 |[],i,j,a,_,h,_=>by simp at h
 |x::r,0,0,a,_,_,_=>rfl
 |x::r,0,j+1,a,hn,h1,h2=>by
  simp at h1 h2;subst h1;exact absurd (Pa h2) (PM.mp hn).1
 |x::r,i+1,0,a,hn,h1,h2=>by
  simp at h1 h2;subst h2;exact absurd (Pa h1) (PM.mp hn).1
 |x::r,i+1,j+1,a,hn,h1,h2=>by
  simp at h1 h2;rw[rh (PM.mp hn).2 h1 h2]
def vh(Z:a∈ι):Ext ι H ι (upd H a o):=⟨⟨[],by simp⟩,λb Y h n _=>⟨by rw[aI (λz=>n (by rw[z];exact Z))];exact h,n⟩⟩
theorem vi{a:dt}{k:Nat}{xs:List D}{vs:List V}(r:Rep K ι H S)(Z:ι[k]? =ar a)(h:RelDs K ι H xs vs):Rep K ι (upd H a (.lst vs)) (S.set k xs):=by
 have X:a∈ι:=Pa Z;have Y:Ext ι H ι (upd H a (.lst vs)):=vh X;refine⟨r.nd,by simp[r.len],λj b ys e1 e2=>?_,r.tab.mono λb o h n=>by obtain⟨ws,hw⟩:=r.isL X;rw[aI (λz=>by subst z;rw[h]at hw;exact n ws (O5 hw))];exact h⟩
 by_cases hj:j=k
 ·subst hj;rw[Z]at e1;cases e1;have R:j<S.length:=by rw[<-r.len];exact(OI.mp Z).1
  rw[Pb R]at e2;cases e2;exact⟨vs,aX,RelDs.later r Y h⟩
 ·rw[Pu (kC hj)]at e2;obtain⟨ws,U,T⟩:=r.get j b ys e1 e2;have Q:b≠a:=by
   rintro rfl;exact hj (rh r.nd e1 Z)
  exact⟨ws,by rw[aI Q];exact U,RelDs.later r Y T⟩
end
abbrev XD:=D->List dt->aE->Hp->Prop
def cont(K:dV)(E:XD){α:Type}(c:M α)(ι:List dt)(S:aE)(H:Hp)(Q:α->List dt->aE->Hp->Prop):Prop:=
 ∃r S',c S=ar (r,S')/\∀ ι' H',Ext ι H ι' H'->Rep K ι' H' S'->match r with
  | .ok a=>Q a ι' S' H'
  | .ex x=>E x ι' S' H'
section
variable {K:dV}{E:XD}{ι:List dt}{S:aE}{H:Hp}{α β:Type}
theorem ak{c:M α}{f:α->M β}{Q:β->List dt->aE->Hp->Prop}(h:cont K E (c>>=f) ι S H Q):cont K E c ι S H (λa Z S1 X=>cont K E (f a) Z S1 X Q):=by
 obtain⟨r,R,e,k⟩:=h;have Y:M.bnd c f S=ar (r,R):=e;unfold M.bnd at Y;cases q:c S with
 |none=>rw[q]at Y;cases Y
 | some p=>
  obtain⟨P,S1⟩:=p;rw[q]at Y;cases P with
  |ok a=>exact⟨.ok a,S1,q,λZ X U rep1=>⟨r,R,Y,λT N O rep2=>k T N (U.trans O) rep2⟩⟩
  |ex x=>
   cases Y;exact⟨.ex x,_,q,λZ X U rep1=>k Z X U rep1⟩
theorem av{c:M α}{Q X:α->List dt->aE->Hp->Prop}(h:cont K E c ι S H Q)(k:∀a ι' Z H',Ext ι H ι' H'->Rep K ι' H' Z->Q a ι' Z H'->X a ι' Z H'):cont K E c ι S H X:=by
 obtain⟨r,Z,e,q⟩:=h;refine⟨r,Z,e,λY T U rep1=>?_⟩;have:=q Y T U rep1;cases r with
 |ok a=>exact k a Y Z T U rep1 this
 |ex x=>exact this
def ao{a:α}{Q:α->List dt->aE->Hp->Prop}(h:cont K E (aC a) ι S H Q){Z:List dt}{Y:Hp}(x:Ext ι H Z Y)(r:Rep K Z Y S):Q a Z S Y:=by obtain⟨X,U,e,q⟩:=h;cases e;exact q Z Y x r
def ah{Q:α->List dt->aE->Hp->Prop}(h:cont K E (M.fail) ι S H Q):False:=by obtain⟨Z,Y,e,q⟩:=h;cases e
end
abbrev aO:=List (Option D)
inductive RelE(K:dV)(ι:List dt)(H:Hp):aO->St->Prop where
 |nil:RelE K ι H [] []
 |cons {o:Option D} {u:Option V} {ρ:aO} {σ:St}:(∀d,o=ar d->∃v,u=ar v/\RelD K ι H d v)->RelE K ι H ρ σ->RelE K ι H (o::ρ) (u::σ)
section
variable {K:dV}{ι ι':List dt}{S:aE}{H H':Hp}
theorem RelE.later(r:Rep K ι H S)(e:Ext ι H ι' H'):∀{ρ:aO} {σ:St},RelE K ι H ρ σ->RelE K ι' H' ρ σ
 |_,_,.nil=>.nil
 |_,_,.cons h t=>.cons (λd z=>let ⟨v,e1,e2⟩:=h d z;⟨v,e1,RelD.later r e e2⟩) (RelE.later r e t)
theorem RelE.get:∀{ρ:aO} {σ:St} {i:Nat} {d:D},RelE K ι H ρ σ->ρ[i]? =ar (ar d)->∃v,σ[i]? =ar (ar v)/\RelD K ι H d v
 |_,_,_,_,.nil,e=>by simp at e
 |_,_,0,_,.cons h _,e=>by
  simp at e;obtain⟨v,e1,e2⟩:=h _ e;exact⟨v,by simp[e1],e2⟩
 |_,_,i+1,_,.cons _ t,e=>by
  obtain⟨v,Z,Y⟩:=RelE.get (i:=i) t (by simpa using e);exact⟨v,by simpa using Z,Y⟩
theorem RelE.set(r:RelD K ι H d v):∀{ρ:aO} {σ:St} (i:Nat),RelE K ι H ρ σ->RelE K ι H (ρ.set i (ar d)) (σ.set i (ar v))
 |_,_,_,.nil=>.nil
 |_,_,0,.cons _ t=>.cons (λd' z=>by cases z;exact⟨v,rfl,r⟩) t
 |_,_,i+1,.cons q t=>.cons q (RelE.set r i t)
theorem RelE.start:∀{ds:List D} {vs:List V},RelDs K ι H ds vs->∀n,RelE K ι H (ds.map ar++f' n none) (vs.map ar++f' n none)
 |_,_,.nil,n=>by
  induction n with
  |zero=>exact .nil
  |succ n ih=>exact .cons (λd z=>by cases z) ih
 |_,_,.cons r t,n=>.cons (λd z=>by cases z;exact⟨_,rfl,r⟩) (RelE.start t n)
end
abbrev TM:=aO->M D
def mB(K:dV)(Q:VK):D->List dt->aE->Hp->Prop:=λd ι' _ H'=>∀v,RelD K ι' H' d v->Q v H'
def tM(K:dV)(E:XD)(m:TM):TE:=λσ H Q=>∃ ι S ρ,Rep K ι H S/\RelE K ι H ρ σ/\cont K E (m ρ) ι S H (mB K Q)
def SE(X:Cx)(E:XD)(e:Expr)(m:TM):Prop:=PE X e (tM X.K E m)
def z9(K:dV)(E:XD)(m:aO->M Bool):TT:=λσ H Q=>∃ ι S ρ,Rep K ι H S/\RelE K ι H ρ σ/\cont K E (m ρ) ι S H (λb _ _ H'=>Q b H')
def SB(X:Cx)(E:XD)(e:Expr)(m:aO->M Bool):Prop:=PT X e (z9 X.K E m)
def I0(X:Cx)(E:XD)(e:Expr)(m:aO->M Bool):Prop:=PW X e (z9 X.K E m)
def Nr(K:dV)(E:XD)(m:aO->M (List D)):TA:=λσ H Q=>∃ ι S ρ,Rep K ι H S/\RelE K ι H ρ σ/\cont K E (m ρ) ι S H (λds ι' _ H'=>∀vs,RelDs K ι' H' ds vs->Q vs H')
def SA(X:Cx)(E:XD)(es:List Expr)(m:aO->M (List D)):Prop:=PA X es (Nr X.K E m)
inductive Out where
 |nx (ρ:aO)|ret (d:D)|bk (ρ:aO)|ct (ρ:aO)
abbrev dq:=aO->M Out
def Ja(K:dV)(T:Ends):Out->List dt->aE->Hp->Prop:=λo ι' _ H'=>match o with
 | .nx ρ=>∀ σ,RelE K ι' H' ρ σ->T.nx σ H'
 | .ret d=>∀v,RelD K ι' H' d v->T.rt v H'
 | .bk ρ=>∀ σ,RelE K ι' H' ρ σ->T.bk σ H'
 | .ct ρ=>∀ σ,RelE K ι' H' ρ σ->T.ct σ H'
def N1(K:dV)(E:XD)(m:dq):TS:=λT σ H=>∃ ι S ρ,Rep K ι H S/\RelE K ι H ρ σ/\cont K E (m ρ) ι S H (Ja K T)
def SS(X:Cx)(E:XD)(st:pa)(m:dq):Prop:=PS X st (N1 X.K E m)
def wO(X:Cx)(E:XD)(st:List pa)(m:dq):Prop:=sT X st (N1 X.K E m)
abbrev nE:=D->aO->M aO
def CZ(K:dV)(E:XD)(m:nE):TG:=λv σ H Q=>∃ ι S ρ d,Rep K ι H S/\RelE K ι H ρ σ/\RelD K ι H d v/\cont K E (m d ρ) ι S H (λρ' ι' _ H'=>∀ σ',RelE K ι' H' ρ' σ'->Q σ' H')
def SG(X:Cx)(E:XD)(tg:Expr)(m:nE):Prop:=PG X tg (CZ X.K E m)
def PE.imp{X:Cx}{e:Expr}{t t':TE}(h:PE X e t)(k:∀ σ H Q,t' σ H Q->t σ H Q):PE X e t':=λpins s σ H Q I hw=>h pins s σ H Q I (k σ H Q hw)
def PT.imp{X:Cx}{e:Expr}{t t':TT}(h:PT X e t)(k:∀ σ H Q,t' σ H Q->t σ H Q):PT X e t':=λpins s σ H Q I hw=>h pins s σ H Q I (k σ H Q hw)
def PW.imp{X:Cx}{e:Expr}{t t':TT}(h:PW X e t)(k:∀ σ H Q,t' σ H Q->t σ H Q):PW X e t':=λZ pins s σ H Q I hw=>h Z pins s σ H Q I (k σ H Q hw)
def PA.imp{X:Cx}{e:List Expr}{t t':TA}(h:PA X e t)(k:∀ σ H Q,t' σ H Q->t σ H Q):PA X e t':=λpos pins s σ H Q I hw=>h pos pins s σ H Q I (k σ H Q hw)
def PS.imp{X:Cx}{e:pa}{t t':TS}(h:PS X e t)(k:∀D σ H,t' D σ H->t D σ H):PS X e t':=λpins s σ H D I hw=>h pins s σ H D I (k D σ H hw)
def sT.imp{X:Cx}{e:List pa}{t t':TS}(h:sT X e t)(k:∀D σ H,t' D σ H->t D σ H):sT X e t':=λpins s σ H D I hw=>h pins s σ H D I (k D σ H hw)
def PG.imp{X:Cx}{e:Expr}{t t':TG}(h:PG X e t)(k:∀v σ H Q,t' v σ H Q->t v σ H Q):PG X e t':=λpins s σ H v u Q I r hw=>h pins s σ H v u Q I r (k v σ H Q hw)
section
variable {X:Cx}{E:XD}{a b e:Expr}{m n:TM}{pos:Pos}
def HF(ρ:aO)(i:Nat):M D:=match ρ[i]? with
 |some (ar d)=>aC d
 |_=>M.fail
theorem aa(i:Nat)(W:X.N[i]? =ar x:=by rfl)(U:Ct X.env.scope x:=by first|exact Uh rfl|exact Tq (Uh rfl)|exact Tq (Tq rfl))(Z:(x==("__debug__":Str))=false:=by decide)
  (Y:(x==("__classdict__":Str))=false:=by decide):SE X E (.Name x pos) (λρ=>HF ρ i):=by
 refine PE.imp (uS W U Z Y) λσ H Q h=>?_;obtain⟨ι,S,ρ,rep,re,c⟩:=h;unfold HF at c;dsimp only at c;split at c
 ·next d Z=>
  obtain⟨v,e1,e2⟩:=re.get Z;exact⟨v,e1,ao c .refl rep v e2⟩
 ·exact(ah c).elim
def lj(h:PE X e (tC v))(Z:∀ ι H,RelD X.K ι H d v):SE X E e (λ_=>aC d):=by refine PE.imp h λσ H Q h=>?_;obtain⟨ι,S,ρ,rep,re,c⟩:=h;exact ao c .refl rep v (Z _ _)
def aq{j}:SE X E (.Constant (.int i) j pos) (λ_=>aC (.int i)):=lj Cy λ_ _=>.int i
def dO{j}:SE X E (.Constant (.bool i) j pos) (λ_=>aC (.bl i)):=lj KN λ_ _=>.bl i
def jF{j}:SE X E (.Constant .none j pos) (λ_=>aC .non):=lj Ih λ_ _=>.non
def rj{j}:SE X E (.Constant (.str x) j pos) (λ_=>aC (.str x)):=lj Ii λ_ _=>.str x
def FT(Y:Gl X x)(Z:X.mg x=ar (.int i t))(W:(x==("__debug__":Str))=false:=by decide):SE X E (.Name x pos) (λ_=>aC (.int i)):=
 lj (zU Y Z (v:=.int i) ⟨t,rfl⟩ W) λ_ _=>.int i
def sR(K:dV)(E:XD)(f:D->D->M D)(r:R2):Prop:=
 ∀ ι S H d1 d2 v1 v2 Q,Rep K ι H S->RelD K ι H d1 v1->RelD K ι H d2 v2->cont K E (f d1 d2) ι S H (mB K Q)->r v1 v2 H Q
theorem FU(P:sR X.K E f r)(h:tM X.K E (λρ=>do let x<-m ρ;let y<-n ρ;f x y) σ H Q):K4 r (tM X.K E m) (tM X.K E n) σ H Q:=by obtain⟨ι,S,ρ,rep,re,c⟩:=h;refine⟨ι,S,ρ,rep,re,av (ak c) λx Z S1 O e1 rep1 c1 v1 W=>?_⟩;refine⟨Z,S1,ρ,rep1,re.later rep e1,av (ak c1) λy Y S2 R e2 rep2 U v2 T=>?_⟩;exact P Y S2 R x y v1 v2 Q rep2 (W.later rep1 e2) T U
def rk(h:iy X (r_ op) r)(Y:sR X.K E f r)(Z:SE X E a m)(W:SE X E b n):SE X E (.BinOp a op b pos) (λρ=>do let x<-m ρ;let y<-n ρ;f x y):=
 PE.imp (K5 h Z W) λ_ _ _ q=>FU Y q
theorem vj(h:iy X (i_ op) r)(W:sR X.K E f r)(Z:SE X E a m)(U:SE X E b n)(Y:nD op b=false:=by first|exact wA _ (by decide) (by decide)|rfl):
  SE X E (.Compare a [op] [b] pos) (λρ=>do let x<-m ρ;let y<-n ρ;f x y):=
 PE.imp (FF h Z U Y) λ_ _ _ q=>FU W q
theorem Lm(h:Fq X r)(Z:sR X.K E f r)(Y:SE X E a m)(W:SE X E b n)(hs:uV b:=by intro _ _;rfl):SE X E (.Subscript a b pos) (λρ=>do let x<-m ρ;let y<-n ρ;f x y):=
 PE.imp (Lg h Y W hs) λ_ _ _ q=>FU Z q
end
def lim:Nat:=10000000
def g9:lim<=sizeLine:=by rw[PC];decide
def C0:lim<sizeLine:=by rw[PC];decide
section
variable {K:dV}{ι:List dt}{H:Hp}
def RelD.bl_inv(h:RelD K ι H (.bl b) v):v= .bl b:=by cases h;rfl
def RelD.int_inv(h:RelD K ι H (.int b) v):v= .int b:=by cases h;rfl
def RelD.str_inv(h:RelD K ι H (.str b) v):v= .str b:=by cases h;rfl
def RelD.non_inv(h:RelD K ι H .non v):v= .non:=by cases h;rfl
theorem RelD.tup_inv(h:RelD K ι H (.tup ds) v):∃a vs,v= .ref a/\H a=ar (.tup vs)/\RelDs K ι H ds vs:=by
 cases h with
 |tup h1 h2=>exact⟨_,_,rfl,h1,h2⟩
theorem RelD.lst_inv(h:RelD K ι H (.lst k) v):∃a,v= .ref a/\ι[k]? =ar a:=by
 cases h with
 |lst h1=>exact⟨_,rfl,h1⟩
theorem RelD.ro_inv(h:RelD K ι H (.ro ds) v):∃a vs,v= .ref a/\Ft K H a vs/\RelDs K ι H ds vs:=by
 cases h with
 |ro h1 h2=>exact⟨_,_,rfl,h1,h2⟩
theorem RelD.fz_inv(h:RelD K ι H (.fz ds) v):∃a o vs,v= .ref a/\H a=ar (.frz o (.lst vs))/\RelDs K ι H ds vs:=by
 cases h with
 |fz h1 h2=>exact⟨_,_,_,rfl,h1,h2⟩
def RelDs.nil_inv(h:RelDs K ι H [] vs):vs=[]:=by cases h;rfl
theorem RelDs.cons_inv(h:RelDs K ι H (d::ds) vs):∃v ws,vs=v::ws/\RelD K ι H d v/\RelDs K ι H ds ws:=by
 cases h with
 |cons h1 h2=>exact⟨_,_,rfl,h1,h2⟩
end
def kh:D->M Bool
 | .bl b=>aC b
 |_=>M.fail
def getL(k:Nat):M (List D):=λS=>(S[k]?).bind λxs=>ar (.ok xs,S)
def bB(ds:List D):M D:=λS=>if ds.length<=lim then ar (.ok (.lst S.length),S++[ds])else none
def kQ(k:Nat)(ds:List D):M D:=λS=>if ds.length<=lim/\k<S.length then ar (.ok .non,S.set k ds)else none
def bj(ds:List D):M D:=if ds.length<=lim then aC (.tup ds)else M.fail
section
variable {K:dV}{E:XD}{ι:List dt}{S:aE}{H:Hp}{α:Type}
theorem nF{f:Bool->M α}(Z:Rep K ι H S)(r:RelD K ι H x v)(c:cont K E (kh x>>=f) ι S H Q):∃b,v= .bl b/\x= .bl b/\cont K E (f b) ι S H Q:=by
 cases x with
 |bl b=>exact⟨b,r.bl_inv,rfl,ao (ak c) .refl Z⟩
 |_=>exact(ah (ak c)).elim
theorem nG{Q:Bool->List dt->aE->Hp->Prop}(Z:Rep K ι H S)(r:RelD K ι H x v)(c:cont K E (kh x) ι S H Q):∃b,v= .bl b/\x= .bl b/\Q b ι S H:=by
 cases x with
 |bl b=>exact⟨b,r.bl_inv,rfl,ao c .refl Z⟩
 |_=>exact(ah c).elim
theorem Bl{Q:D->List dt->aE->Hp->Prop}(c:cont K E (bB ds) ι S H Q)(Z:Rep K ι H S)(r:RelDs K ι H ds vs):
  vs.length<=lim/\∀p,H p=none->Q (.lst S.length) (ι++[p]) (S++[ds]) (upd H p (.lst vs)):=by
 obtain⟨X,U,e,q⟩:=c;unfold bB at e;split at e
 ·next hl=>
  cases e;exact⟨by rw[<-r.length];exact hl,λp Y=>q _ _ (wN Y) (CY Z Y r)⟩
 ·cases e
def C1(Z:Rep K ι H S):RelD K (ι++[p]) H' (.lst S.length) (.ref p):=.lst (by rw[<-Z.len];simp)
theorem bq{Q:VK}(c:cont K E (bB ds) ι S H (mB K Q))(Z:Rep K ι H S)(r:RelDs K ι H ds vs):vs.length<=lim/\∀p,H p=none->Q (.ref p) (upd H p (.lst vs)):=
 let ⟨h1,h2⟩:=Bl c Z r
 ⟨h1,λp Y=>h2 p Y _ (C1 Z)⟩
theorem iQ{Q:VK}(c:cont K E (bj ds) ι S H (mB K Q))(Z:Rep K ι H S)(r:RelDs K ι H ds vs):vs.length<=lim/\∀p,H p=none->Q (.ref p) (upd H p (.tup vs)):=by
 unfold bj at c;split at c
 ·next hl=>
  refine⟨by rw[<-r.length];exact hl,λp Y=>?_⟩;exact ao c (fx Y) (gF Z Y) _ (.tup aX (r.later Z (fx Y)))
 ·exact(ah c).elim
theorem ki{Q:VK}(c:cont K E (bj ds) ι S H (mB K Q))(Z:Rep K ι H S)(h:H a=ar (.tup vs))(r:RelDs K ι H ds vs):Q (.ref a) H:=by
 unfold bj at c;split at c
 ·exact ao c .refl Z _ (.tup h r)
 ·exact(ah c).elim
theorem bz{f:List D->M α}(c:cont K E (getL k>>=f) ι S H Q)(Z:Rep K ι H S)(X:ι[k]? =ar a):
  ∃ds vs,S[k]? =ar ds/\H a=ar (.lst vs)/\RelDs K ι H ds vs/\cont K E (f ds) ι S H Q:=by
 obtain⟨T,R,e,q⟩:=ak c;unfold getL at e;cases z:S[k]? with
 |none=>rw[z]at e;cases e
 |some ds=>
  rw[z]at e;cases e;obtain⟨vs,Y,U⟩:=Z.get k a ds X z;exact⟨ds,vs,rfl,Y,U,q ι H .refl Z⟩
theorem jV{Q:D->List dt->aE->Hp->Prop}(c:cont K E (kQ k ds) ι S H Q)(Z:Rep K ι H S)(Y:ι[k]? =ar a)(r:RelDs K ι H ds vs):
  vs.length<=lim/\Q .non ι (S.set k ds) (upd H a (.lst vs)):=by
 obtain⟨X,U,e,q⟩:=c;unfold kQ at e;split at e
 ·next hl=>
  cases e;exact⟨by rw[<-r.length];exact hl.1,q _ _ (vh (Pa Y)) (vi Z Y r)⟩
 ·cases e
end
section
variable {X:Cx}{E:XD}{a b e:Expr}{m n:TM}{pos:Pos}{rest es:List Expr}{ms:aO->M (List D)}{t u:aO->M Bool}
def ll{op}(h:SE X E a m):SE X E (.BoolOp op [a] pos) m:=Io h
theorem kj(U:SE X E a m)(T:SE X E (.BoolOp .And (b::rest) pos) n):SE X E (.BoolOp .And (a::b::rest) pos) (λρ=>do let x<-m ρ;let c<-kh x;if c=b_ then n ρ else aC (.bl c_)):=by
 refine PE.imp (Ip U T) λσ H Q h=>?_;obtain⟨ι,S,ρ,rep,re,c⟩:=h;refine⟨ι,S,ρ,rep,re,av (ak c) λx Z S1 R e1 rep1 c1 v1 W=>?_⟩;obtain⟨k,rfl,rfl,Y⟩:=nF rep1 W c1;refine⟨k,rfl,?_⟩;cases k with
 |true=>exact⟨Z,S1,ρ,rep1,re.later rep e1,Y⟩
 |false=>exact ao Y .refl rep1 _ (.bl c_)
theorem C3(Y:SE X E a m):SE X E (.UnaryOp .Not a pos) (λρ=>do let x<-m ρ;let c<-kh x;aC (.bl (!c))):=by refine PE.imp (Iq Y) λσ H Q h=>?_;obtain⟨ι,S,ρ,rep,re,c⟩:=h;refine⟨ι,S,ρ,rep,re,av (ak c) λx W S1 T e1 rep1 c1 v1 Z=>?_⟩;obtain⟨k,rfl,rfl,U⟩:=nF rep1 Z c1;exact⟨k,rfl,ao U .refl rep1 _ (.bl _)⟩
theorem Ln(W:SB X E c t)(Y:SE X E a m)(U:SE X E b n):SE X E (.IfExp c a b pos) (λρ=>do let k<-t ρ;if k=b_ then m ρ else n ρ):=by
 refine PE.imp (Cz W Y U) λσ H Q h=>?_;obtain⟨ι,S,ρ,rep,re,c⟩:=h;refine⟨ι,S,ρ,rep,re,av (ak c) λk Z S1 T e1 rep1 c1=>?_⟩;cases k with
 |true=>exact⟨Z,S1,ρ,rep1,re.later rep e1,c1⟩
 |false=>exact⟨Z,S1,ρ,rep1,re.later rep e1,c1⟩
theorem Lo(h:z9 X.K E (λρ=>do let x<-m ρ;kh x) σ H Q):tB (tM X.K E m) σ H Q:=by obtain⟨ι,S,ρ,rep,re,c⟩:=h;refine⟨ι,S,ρ,rep,re,av (ak c) λx Y S1 U e1 rep1 c1 v1 Z=>?_⟩;obtain⟨k,rfl,rfl,W⟩:=nG rep1 Z c1;exact⟨k,rfl,W⟩
def cJ(h:SE X E e m)(Z:∀whole,isTrue e X.env whole=(do let v<-whole;I_ e.pos;yn [v] (truthy v)):=by intro _;rfl):SB X E e (λρ=>do let x<-m ρ;kh x):=
 PT.imp (Ij h Z) λ_ _ _ q=>Lo q
theorem oQ(h:iy X (i_ op) r)(T:sR X.K E f r)(Y:SE X E a m)(O:SE X E b n)(R:nD op b=false:=by first|exact wA _ (by decide) (by decide)|rfl):
  SB X E (.Compare a [op] [b] pos) (λρ=>do let z<-(do let x<-m ρ;let y<-n ρ;f x y);kh z):=
 PT.imp (FH h Y O R) λσ H Q q=>by obtain⟨ι,S,ρ,rep,re,c⟩:=q;refine FU T (Q:=λx P=>∃k,x= .bl k/\Q k P) ⟨ι,S,ρ,rep,re,av (ak c) λx W S1 N e1 rep1 c1 v1 Z=>?_⟩;obtain⟨k,rfl,rfl,U⟩:=nG rep1 Z c1;exact⟨k,rfl,U⟩
theorem cK(h:SB X E a t):SB X E (.UnaryOp .Not a pos) (λρ=>do let c<-t ρ;aC (!c)):=by refine PT.imp (Im h) λσ H Q q=>?_;obtain⟨ι,S,ρ,rep,re,c⟩:=q;exact⟨ι,S,ρ,rep,re,av (ak c) λk Z S1 Y e1 rep1 c1=>ao c1 .refl rep1⟩
def FV(h:SB X E a t):I0 X E (.BoolOp .And [a] pos) t:=Fw h
def kl(h:SB X E a t):I0 X E (.BoolOp .Or [a] pos) t:=Ik h
theorem Jb(Y:SB X E a t)(W:I0 X E (.BoolOp .And (b::rest) pos) u):I0 X E (.BoolOp .And (a::b::rest) pos) (λρ=>do let c<-t ρ;if c=b_ then u ρ else aC c_):=by
 refine PW.imp (Il Y W) λσ H Q q=>?_;obtain⟨ι,S,ρ,rep,re,c⟩:=q;refine⟨ι,S,ρ,rep,re,av (ak c) λk Z S1 U e1 rep1 c1=>?_⟩;cases k with
 |true=>exact⟨Z,S1,ρ,rep1,re.later rep e1,c1⟩
 |false=>exact ao c1 .refl rep1
theorem iq(Y:SB X E a t)(W:I0 X E (.BoolOp .Or (b::rest) pos) u):I0 X E (.BoolOp .Or (a::b::rest) pos) (λρ=>do let c<-t ρ;if c=b_ then aC b_ else u ρ):=by
 refine PW.imp (KO Y W) λσ H Q q=>?_;obtain⟨ι,S,ρ,rep,re,c⟩:=q;refine⟨ι,S,ρ,rep,re,av (ak c) λk Z S1 U e1 rep1 c1=>?_⟩;cases k with
 |false=>exact⟨Z,S1,ρ,rep1,re.later rep e1,c1⟩
 |true=>exact ao c1 .refl rep1
def tj(h:I0 X E e t):SB X E e t:=PW.pt h
def ag:SA X E [] (λ_=>aC []):=by refine PA.imp ke λσ H Q q=>?_;obtain⟨ι,S,ρ,rep,re,c⟩:=q;exact ao c .refl rep _ .nil
theorem ae(W:SE X E e m)(R:SA X E es ms)(hs:d_ (e::es) X.env=(c_,hY e X.env)::d_ es X.env:=by rfl):SA X E (e::es) (λρ=>do let x<-m ρ;let xs<-ms ρ;aC (x::xs)):=by refine PA.imp (eP W R hs) λσ H Q q=>?_;obtain⟨ι,S,ρ,rep,re,c⟩:=q;refine⟨ι,S,ρ,rep,re,av (ak c) λx Z S1 N e1 rep1 c1 v1 Y=>?_⟩;refine⟨Z,S1,ρ,rep1,re.later rep e1,av (ak c1) λxs P S2 O e2 rep2 U vs T=>?_⟩;exact ao U .refl rep2 _ (.cons (Y.later rep1 e2) T)
theorem bo{x1}(h:SA X E es ms):SE X E (.Tuple es x1 pos) (λρ=>do let ds<-ms ρ;bj ds):=by refine PE.imp (CJ h) λσ H Q q=>?_;obtain⟨ι,S,ρ,rep,re,c⟩:=q;refine⟨ι,S,ρ,rep,re,av (ak c) λx W S1 T e1 rep1 c1 vs Y=>?_⟩;obtain⟨Z,U⟩:=iQ c1 rep1 Y;exact⟨OR Z g9,U⟩
theorem br(h:SA X E es ms):SE X E (.List es pos) (λρ=>do let ds<-ms ρ;bB ds):=by refine PE.imp (IP h) λσ H Q q=>?_;obtain⟨ι,S,ρ,rep,re,c⟩:=q;refine⟨ι,S,ρ,rep,re,av (ak c) λx W S1 T e1 rep1 c1 vs Y=>?_⟩;obtain⟨Z,U⟩:=bq c1 rep1 Y;exact⟨OR Z g9,U⟩
def lp(K:dV)(E:XD)(f:List D->M D)(r:List V->Hp->VK->Prop):Prop:=
 ∀ ι S H ds vs Q,Rep K ι H S->RelDs K ι H ds vs->cont K E (f ds) ι S H (mB K Q)->r vs H Q
theorem Lp(Y:lp X.K E f r)(h:tM X.K E (λρ=>do let ds<-ms ρ;f ds) σ H Q):Nk r (Nr X.K E ms) σ H Q:=by obtain⟨ι,S,ρ,rep,re,c⟩:=h;exact⟨ι,S,ρ,rep,re,av (ak c) λds Z S1 W e1 rep1 c1 vs U=>Y Z S1 W ds vs Q rep1 U c1⟩
theorem iR{x:Str}{W:String}{f:List D->M D}{r:List V->Hp->VK->Prop}{p:Pos}(N:dm X (.builtin W) r)(S:lp X.K E f r)(O:Gl X x)(P:X.mg x=none)(T:k_ x=ar (.builtin W))(Q:SA X E (e::es) ms)
  (U:x≠"__name__":=by decide) (Y:(x==("__debug__":Str))=false:=by decide) (R:d_ (e::es) X.env=(c_,hY e X.env)::d_ es X.env:=by rfl) (Z:(n_ pos (d_ es X.env)).any (·.1)=false:=by rfl):
  SE X E (.Call (.Name x p) (e::es) [] pos) (λρ=>do let ds<-ms ρ;f ds):=
 PE.imp (jQ N O P T Q U Y R Z) λ_ _ _ q=>Lp S q
theorem ue(N:dm X (.type T) r)(S:lp X.K E f r)(O:Gl X x)(P:X.mg x=none)(U:k_ x=ar (.type T))(Q:SA X E (e::es) ms)
  (W:x≠"__name__":=by decide) (Y:(x==("__debug__":Str))=false:=by decide) (R:d_ (e::es) X.env=(c_,hY e X.env)::d_ es X.env:=by rfl) (Z:(n_ pos (d_ es X.env)).any (·.1)=false:=by rfl):
  SE X E (.Call (.Name x p) (e::es) [] pos) (λρ=>do let ds<-ms ρ;f ds):=
 PE.imp (jR N O P U Q W Y R Z) λ_ _ _ q=>Lp S q
abbrev cL:XD:=λ_ _ _ _=>False
def Ou(K:dV)(F:List D->M D):Sp:=λvs H Q _=>∃ ι S ds,Rep K ι H S/\RelDs K ι H ds vs/\cont K cL (F ds) ι S H (mB K Q)
def MF(K:dV)(E:XD)(f:D->List D->M D)(r:V->List V->Hp->VK->Prop):Prop:=
 ∀ ι S H d ds v vs Q,Rep K ι H S->RelD K ι H d v->RelDs K ι H ds vs->cont K E (f d ds) ι S H (mB K Q)->r v vs H Q
end
theorem gv{K:dV}{E:XD}{α:Type}{c:M α}{ι Z:List dt}{S:aE}{H X:Hp}{Q:α->List dt->aE->Hp->Prop}(h:cont K E c ι S H Q)(e:Ext ι H Z X):cont K E c Z S X Q:=by obtain⟨r,T,q,k⟩:=h;exact⟨r,T,q,λY R U rep2=>k Y R (e.trans U) rep2⟩
section
variable {X:Cx}{E:XD}{st:pa}{sts:List pa}{m n:dq}{e:Expr}{me:TM}{t:aO->M Bool}{pos:Pos}{g:nE}
def C4(o:Out)(n:dq):M Out:=match o with
 | .nx ρ=>n ρ
 | .ret d=>aC (.ret d)
 | .bk ρ=>aC (.bk ρ)
 | .ct ρ=>aC (.ct ρ)
def b8:wO X E [] (λρ=>aC (.nx ρ)):=by refine sT.imp Fx λT σ H h=>?_;obtain⟨ι,S,ρ,rep,re,c⟩:=h;exact ao c .refl rep σ re
theorem ay(W:SS X E st m)(R:wO X E sts n):wO X E (st::sts) (λρ=>do let o<-m ρ;C4 o n):=by
 refine sT.imp (wB W R) λT σ H h=>?_;obtain⟨ι,S,ρ,rep,re,c⟩:=h;refine⟨ι,S,ρ,rep,re,av (ak c) λo Z S1 Q e1 rep1 c1=>?_⟩;cases o with
 |nx ρ'=>exact λU Y=>⟨Z,S1,ρ',rep1,Y,c1⟩
 |ret d=>exact ao c1 .refl rep1
 |bk ρ'=>exact ao c1 .refl rep1
 |ct ρ'=>exact ao c1 .refl rep1
def aR(Z:SS X E st m):wO X E [st] m:=by refine sT.imp (uT Z) λT σ H h=>h
theorem fO(Z:SE X E e me)(hs:lb e none pos.line X.env=aC false:=by rfl):SS X E (.Expr e pos) (λρ=>do let _<-me ρ;aC (.nx ρ)):=by refine PS.imp (Fy Z hs) λT σ H h=>?_;obtain⟨ι,S,ρ,rep,re,c⟩:=h;refine⟨ι,S,ρ,rep,re,av (ak c) λd Y S1 W e1 rep1 c1 v r=>?_⟩;exact ao c1 .refl rep1 σ (re.later rep e1)
theorem a8(Z:SE X E e me):SS X E (.Return (ar e) pos) (λρ=>do let d<-me ρ;aC (.ret d)):=by refine PS.imp (Ir Z) λT σ H h=>?_;obtain⟨ι,S,ρ,rep,re,c⟩:=h;exact⟨ι,S,ρ,rep,re,av (ak c) λd Y S1 W e1 rep1 c1=>ao c1 .refl rep1⟩
theorem dy(W:SB X E e t)(Y:wO X E a m)(U:wO X E b n):SS X E (.If e a b pos) (λρ=>do let c<-t ρ;if c=b_ then m ρ else n ρ):=by
 refine PS.imp (KU W Y U) λT σ H h=>?_;obtain⟨ι,S,ρ,rep,re,c⟩:=h;refine⟨ι,S,ρ,rep,re,av (ak c) λk Z S1 R e1 rep1 c1=>?_⟩;cases k with
 |true=>exact⟨Z,S1,ρ,rep1,re.later rep e1,c1⟩
 |false=>exact⟨Z,S1,ρ,rep1,re.later rep e1,c1⟩
theorem aZ(i:Nat)(Z:X.N.Nodup)(W:X.N[i]? =ar x:=by rfl)(U:Loc X.env.scope x:=by first|exact Uh rfl|exact Tq rfl)(Y:X.fn x=b_\/X.env.scope.names.lookup x=ar .local:=by first|exact .inl rfl|exact .inr rfl|assumption):
  SG X E (.Name x pos) (λd ρ=>aC (ρ.set i (ar d))):=by
 refine PG.imp (Fz Z W U Y) λv σ H Q h=>?_;obtain⟨ι,S,ρ,d,rep,re,r,c⟩:=h;exact ao c .refl rep _ (re.set r i)
def Nt(K:dV)(E:XD)(m:List D->aO->M aO):Iu:=λvs σ H Q=>∃ ι S ρ ds,Rep K ι H S/\RelE K ι H ρ σ/\RelDs K ι H ds vs/\cont K E (m ds ρ) ι S H (λρ' ι' _ H'=>∀ σ',RelE K ι' H' ρ' σ'->Q σ' H')
def MG(X:Cx)(E:XD)(ts:List Expr)(m:List D->aO->M aO):Prop:=Fo X ts (Nt X.K E m)
def Fo.imp{X:Cx}{e:List Expr}{t t':Iu}(h:Fo X e t)(k:∀v σ H Q,t' v σ H Q->t v σ H Q):Fo X e t':=λpins s σ H v u Q I r hw=>h pins s σ H v u Q I r (k v σ H Q hw)
def gQ:List D->aO->M aO:=λds ρ=>match ds with
 |[]=>aC ρ
 |_=>M.fail
def bS(g:nE)(gs:List D->aO->M aO):List D->aO->M aO:=λds ρ=>match ds with
 |d::r=>do let ρ1<-g d ρ;gs r ρ1
 |_=>M.fail
theorem fP:MG X E [] gQ:=by
 refine Fo.imp FA λvs σ H Q h=>?_;obtain⟨ι,S,ρ,ds,rep,re,r,c⟩:=h;cases ds with
 |nil=>exact⟨r.nil_inv,ao c .refl rep σ re⟩
 |cons d ds=>exact(ah c).elim
theorem bO(U:SG X E e g)(P:MG X E es gs)(hs:(pb (e::es) X.env).map (·.2)=Sl e X.env::(pb es X.env).map (·.2):=by rfl):MG X E (e::es) (bS g gs):=by
 refine Fo.imp (CB U P hs) λvs σ H Q h=>?_;obtain⟨ι,S,ρ,ds,rep,re,r,c⟩:=h;cases ds with
 |nil=>exact(ah c).elim
 |cons d ds=>
  obtain⟨v,ws,rfl,T,R⟩:=r.cons_inv;refine⟨v,ws,rfl,ι,S,ρ,d,rep,re,T,av (ak c) λZ Y S1 N e1 rep1 c1 O W=>?_⟩;exact⟨Y,S1,Z,ds,rep1,W,R.later rep e1,c1⟩
def gq(n:Nat)(gs:List D->aO->M aO):nE:=λd ρ=>match d with
 | .tup ds=>if ds.length=n then gs ds ρ else M.fail
 |_=>M.fail
theorem iS{es:List Expr}{k:Nat}{n:Nat}{Y:List D->aO->M aO}(R:X.calm=b_)(h:MG X E es Y)(T:(pb es X.env).length=n:=by rfl)(Z:(pb es X.env).findIdx? (·.1)=none:=by rfl):
  SG X E (.Tuple es k pos) (gq n Y):=by
 refine PG.imp (Iw R h T Z) λv σ H Q q=>?_;obtain⟨ι,S,ρ,d,rep,re,r,c⟩:=q;cases d with
 |tup ds=>
  obtain⟨a,vs,rfl,U,W⟩:=r.tup_inv;dsimp only[gq]at c;split at c
  ·next hl=>exact⟨a,vs,rfl,k9.of U,by rw[<-W.length];exact hl,ι,S,ρ,ds,rep,re,W,c⟩
  ·exact(ah c).elim
 |_=>exact(ah c).elim
theorem jG(W:SE X E e me)(R:SG X E tg g)(hs:LI [tg] e pos.line X.env=aC false:=by rfl)(U:L0 [tg] e X.env=aC none:=by rfl)
  (Y:(pb [tg] X.env).map (·.2)=[Sl tg X.env]:=by rfl):SS X E (.Assign [tg] e pos) (λρ=>do let d<-me ρ;let ρ'<-g d ρ;aC (.nx ρ')):=by
 refine PS.imp (IA W R hs U Y) λT σ H h=>?_;obtain⟨ι,S,ρ,rep,re,c⟩:=h;refine⟨ι,S,ρ,rep,re,av (ak c) λd Z S1 O e1 rep1 c1 v r=>?_⟩;exact⟨Z,S1,ρ,d,rep1,re.later rep e1,r,av (ak c1) λρ' P S2 N e2 rep2 Q=>ao Q .refl rep2⟩
theorem bp(i:Nat)(W:X.N.Nodup)(Z:SE X E e me)(Q:X.N[i]? =ar x:=by rfl)(R:Loc X.env.scope x:=by first|exact Uh rfl|exact Tq rfl)(hs:lb e (ar (.Name x pos')) pos.line X.env=aC false:=by rfl)
  (U:X.fn x=b_\/X.env.scope.names.lookup x=ar .local:=by first|exact .inl rfl|exact .inr rfl|assumption):SS X E (.Assign [.Name x pos'] e pos) (λρ=>do let d<-me ρ;aC (.nx (ρ.set i (ar d)))):=by
 refine PS.imp (CC W Q R Z hs U) λT σ H h=>?_;obtain⟨ι,S,ρ,rep,re,c⟩:=h;refine⟨ι,S,ρ,rep,re,av (ak c) λd Y S1 P e1 rep1 c1 v r=>?_⟩;exact ao c1 .refl rep1 _ ((re.later rep e1).set r i)
theorem C5(i j:Nat){kt k2 pt2}(J:X.calm=b_)(I:X.N.Nodup)(L:SA X E [a,b] ms)(G:X.N[i]? =ar x:=by rfl)(K:X.N[j]? =ar y:=by rfl)(Z:i≠j:=by decide)
  (F:X.env.scope.names.lookup x=ar .local:=by rfl) (Q:X.env.scope.names.lookup y=ar .local:=by rfl)
  (Y:L0 [.Tuple [.Name x px,.Name y py] kt pt] (.Tuple [a,b] k2 pt2) X.env=aC (ar [x,y]):=by rfl)
  (hs:LI [.Tuple [.Name x px,.Name y py] kt pt] (.Tuple [a,b] k2 pt2) pos.line X.env=aC false:=by rfl):
  SS X E (.Assign [.Tuple [.Name x px,.Name y py] kt pt] (.Tuple [a,b] k2 pt2) pos) (λρ=>do let ds<-ms ρ;match ds with|[d1,d2]=>aC (.nx ((ρ.set i (ar d1)).set j (ar d2)))|_=>M.fail):=by
 refine PS.imp (IB J I G K Z F Q L Y hs) λT σ H h=>?_;obtain⟨ι,S,ρ,rep,re,c⟩:=h;refine⟨ι,S,ρ,rep,re,av (ak c) λds U S1 B e1 rep1 c1 vs r=>?_⟩
 match ds,r,c1 with
 |[d1,d2],r,c1=>
  obtain⟨v1,ws,rfl,W,R⟩:=r.cons_inv;obtain⟨v2,O,rfl,C,P⟩:=R.cons_inv;cases P.nil_inv;exact⟨v1,v2,rfl,ao c1 .refl rep1 _ (((re.later rep e1).set W i).set C j)⟩
 |[],r,c1=>exact(ah c1).elim
 |[d],r,c1=>exact(ah c1).elim
 |d1::d2::d3::r',r,c1=>exact(ah c1).elim
def Nu(K:dV)(E:XD)(f:D->D->D->M Unit)(r:Iv):Prop:=
 ∀ ι S H d1 d2 d3 v1 v2 v3 Q,Rep K ι H S->RelD K ι H d1 v1->RelD K ι H d2 v2->RelD K ι H d3 v3->cont K E (f d1 d2 d3) ι S H (λ_ _ _ H'=>Q H')->r v1 v2 v3 H Q
def fQ:D->D->D->M Unit:=λo i v=>match o,i with
 | .lst k,.int j=>do
  let xs<-getL k
  match yq xs.length j with
  |some at'=>do let _<-kQ k (xs.set at' v);aC ()
  |none=>M.fail
 |_,_=>M.fail
inductive Chk where
 |none|some (k:Nat)|two (k j:Nat) (xs ys:List D)
structure Iter where
 items:List D
 chk:Chk
def Iter.okS(it:Iter)(S:aE):Prop:=match it.chk with
 | .none=>True
 | .some k=>S[k]? = .some it.items
 | .two k j xs ys=>S[k]? = .some xs/\S[j]? = .some ys
open Classical in
def iz(it:Iter):M Unit:=λS=>if it.okS S then ar (.ok (),S)else none
def km(K:dV)(it:Iter)(J:It)(ι:List dt)(H:Hp):Prop:=
 ∀ ι2 H2 S2,ExtN ι H ι2 H2->Rep K ι2 H2 S2->it.okS S2->∀i,(∀d,it.items[i]? =ar d->J.go i H2/\∀x H3,J.yld i H2 x H3->Ext ι2 H2 ι2 H3/\Rep K ι2 H3 S2/\RelD K ι2 H3 d x)/\(it.items.length<=i->J.stop i H2)
def Kv(K:dV)(E:XD)(mi:aO->M Iter):TI:=λσ H R=>∃ ι S ρ,Rep K ι H S/\RelE K ι H ρ σ/\cont K E (mi ρ) ι S H (λit ι' _ H'=>∀J,km K it J ι' H'->R J H')
def SI(X:Cx)(E:XD)(tg iter:Expr)(mi:aO->M Iter):Prop:=PI X tg iter (Kv X.K E mi)
def fD(it:Iter)(g:nE)(b:dq):List D->aO->M Out
 |[],ρ=>do iz it;aC (.nx ρ)
 |d::ds,ρ=>do
  iz it
  let ρ1<-g d ρ;let o<-b ρ1
  match o with
  | .nx ρ'=>fD it g b ds ρ'
  | .ct ρ'=>fD it g b ds ρ'
  | .bk ρ'=>aC (.nx ρ')
  | .ret r=>aC (.ret r)
theorem jW{K:dV}{ι:List dt}{S:aE}{H:Hp}{α:Type}{it:Iter}{f:Unit->M α}{Q:α->List dt->aE->Hp->Prop}(h:cont K E (iz it>>=f) ι S H Q)(Z:Rep K ι H S):it.okS S/\cont K E (f ()) ι S H Q:=by
 obtain⟨r,Y,e,k⟩:=ak h;unfold iz at e;split at e
 ·next ho=>cases e;exact⟨ho,k ι H .refl Z⟩
 ·cases e
theorem hU(hp:TC (fc X.prog X.w) X.A X.env X.xe)(hc:X.calm=b_)(hi:SI X E tg iter mi)(hg:SG X E tg g)(hb:wO X E body b)
  (hs:∀x,kb iter X.env x=aC x:=by intro _;rfl):SS X E (.For tg iter body [] pos) (λρ=>do let it<-mi ρ;fD it g b it.items ρ):=by
 refine PS.imp (IE hp hc hi hg hb hs) λT σ H h=>?_;obtain⟨ι,S,ρ,rep,re,c⟩:=h;refine⟨ι,S,ρ,rep,re,av (ak c) λit W S1 u e1 rep1 c1 J q=>?_⟩;refine⟨λi n O U=>∃ ι2 S2 ρ2,n=it.items.length - i/\i<=it.items.length/\Ext W u ι2 U/\Rep X.K ι2 U S2/\RelE X.K ι2 U ρ2 O/\cont X.K E (fD it g b (it.items.drop i) ρ2) ι2 S2 U (Ja X.K T),⟨_,W,S1,ρ,rfl,OX _,.refl,rep1,re.later rep e1,c1⟩,?_⟩;rintro i n O U ⟨ι2,S2,ρ2,hn,hi',e2,rep2,re2,c2⟩;by_cases hlt:i<it.items.length
 ·have hd:it.items.drop i=it.items[i]::it.items.drop (i+1):=Q6 hlt;rw[hd]at c2;have N:cont X.K E (do iz it;let ρ1<-g it.items[i] ρ2;let o<-b ρ1;match o with| .nx ρ'=>fD it g b (it.items.drop (i+1)) ρ'| .ct ρ'=>fD it g b (it.items.drop (i+1)) ρ'| .bk ρ'=>aC (.nx ρ')| .ret r=>aC (.ret r)) ι2 S2 U (Ja X.K T):=c2;obtain⟨ok,y⟩:=jW N rep2;obtain⟨F,a⟩:=q ι2 U S2 e2.n rep2 ok i;obtain⟨go,yl⟩:=F it.items[i] (OH hlt);refine .inr ⟨go,λR Y=>∃ ι3 S3 ρ3,Ext W u ι3 Y/\Rep X.K ι3 Y S3/\RelE X.K ι3 Y ρ3 R/\cont X.K E (fD it g b (it.items.drop (i+1)) ρ3) ι3 S3 Y (Ja X.K T),?_,λx f j=>?_⟩
  ·rintro R Y ⟨ι3,S3,ρ3,e3,rep3,re3,B⟩;exact⟨_,by omega,ι3,S3,ρ3,rfl,hlt,e3,rep3,re3,B⟩
  ·obtain⟨e3,rep3,rd⟩:=yl x f j;refine⟨ι2,S2,ρ2,it.items[i],rep3,re2.later rep2 e3,rd,av (ak (gv y e3)) λC v S4 H4 l L B k z=>?_⟩;refine⟨v,S4,C,L,z,av (ak B) λo P p H5 e5 Z G=>?_⟩;have I:Ext W u P H5:=e2.trans (e3.trans (l.trans e5));cases o with
   |nx ρ'=>exact λs Q=>⟨P,p,ρ',I,Z,Q,G⟩
   |ct ρ'=>exact λs Q=>⟨P,p,ρ',I,Z,Q,G⟩
   |bk ρ'=>exact ao G .refl Z
   |ret d=>exact ao G .refl Z
 ·have hd:it.items.drop i=[]:=Qm (by omega);rw[hd]at c2;have N:cont X.K E (do iz it;aC (.nx ρ2)) ι2 S2 U (Ja X.K T):=c2;obtain⟨ok,y⟩:=jW N rep2;exact .inl ⟨(q ι2 U S2 e2.n rep2 ok i).2 (by omega),ao y .refl rep2 O re2⟩
def lq(t:aO->M Bool)(b:dq):Nat->aO->M Out
 |0,_=>M.fail
 | k+1,ρ=>do
  let c<-t ρ
  if c=b_ then do
   let o<-b ρ
   match o with
   | .nx ρ'=>lq t b k ρ'
   | .ct ρ'=>lq t b k ρ'
   | .bk ρ'=>aC (.nx ρ')
   | .ret r=>aC (.ret r)
  else aC (.nx ρ)
theorem C6(k:Nat)(C:TC (fc X.prog X.w) X.A X.env X.xe)(F:SB X E e t)(B:wO X E body b):SS X E (.While e body [] pos) (λρ=>lq t b k ρ):=by
 refine PS.imp (CD C F B) λT σ H h=>?_;obtain⟨ι,S,ρ,rep,re,c⟩:=h;refine⟨λn U O=>∃ ι2 S2 ρ2,Rep X.K ι2 O S2/\RelE X.K ι2 O ρ2 U/\cont X.K E (lq t b n ρ2) ι2 S2 O (Ja X.K T),⟨k,ι,S,ρ,rep,re,c⟩,?_⟩;rintro n U O ⟨ι2,S2,ρ2,rep2,re2,c2⟩;cases n with
 |zero=>exact(ah c2).elim
 | succ n=>
  refine⟨ι2,S2,ρ2,rep2,re2,av (ak c2) λk L G x e3 rep3 I=>?_⟩;cases k with
  |false=>exact ao I .refl rep3 U (re2.later rep2 e3)
  |true=>
   refine⟨λW Y=>∃ ι2 S2 ρ2,Rep X.K ι2 Y S2/\RelE X.K ι2 Y ρ2 W/\cont X.K E (lq t b n ρ2) ι2 S2 Y (Ja X.K T),λW Y h=>⟨n,QG _,h⟩,?_⟩;refine⟨L,G,ρ2,rep3,re2.later rep2 e3,av (ak I) λo Q J z y Z P=>?_⟩;cases o with
   |nx ρ'=>exact λN R=>⟨Q,J,ρ',Z,R,P⟩
   |ct ρ'=>exact λN R=>⟨Q,J,ρ',Z,R,P⟩
   |bk ρ'=>exact ao P .refl Z
   |ret d=>exact ao P .refl Z
end
def dz(H:Hp)(p:dt):Hp:=λa=>if a=p then none else H a
def hide_ne{H:Hp}(h:a≠p):dz H p a=H a:=if_neg h
def lX:dz H p p=none:=if_pos rfl
def cW{H:Hp}(h:dz H p a=ar o):a≠p/\H a=ar o:=by
 by_cases e:a=p
 ·rw[e,lX]at h;cases h
 ·rw[hide_ne e]at h;exact⟨e,h⟩
def wQ{H:Hp}(h:H p=ar o):upd (dz H p) p o=H:=by
 funext a;by_cases e:a=p
 ·rw[e,aX,h]
 ·rw[aI e,hide_ne e]
def eA:dz (upd H p o) p=dz H p:=by
 funext a;by_cases e:a=p
 ·rw[e,lX,lX]
 ·rw[hide_ne e,hide_ne e,aI e]
def iT{H:Hp}(h:H p=none):dz H p=H:=by
 funext a;by_cases e:a=p
 ·rw[e,lX,h]
 ·rw[hide_ne e]
section
variable {K:dV}{ι ι':List dt}{H H':Hp}{S:aE}{p:dt}
mutual
theorem RelD.hide(Z:H p=ar (.lst ws)):∀{d:D} {v:V},RelD K ι H d v->RelD K ι (dz H p) d v
 |_,_,.non=>.non
 |_,_,.bl b=>.bl b
 |_,_,.int i=>.int i
 |_,_,.str x=>.str x
 |_,_,.tup h hs=>.tup (by rw[hide_ne (λz=>by rw[z,Z]at h;cases h)];exact h) (RelDs.hide Z hs)
 |_,_,.lst h=>.lst h
 |_,_,.ro h hs=>.ro (h.imp (λ⟨o,h⟩=>⟨o,by rw[hide_ne (λz=>by rw[z,Z]at h;cases h)];exact h⟩) λz=>z) (RelDs.hide Z hs)
 |_,_,.emp h=>.emp (by rw[hide_ne (λz=>by rw[z,Z]at h;cases h)];exact h)
 |_,_,.fn h hs=>.fn (by rw[hide_ne (λz=>by rw[z,Z]at h;cases h)];exact h) (RelDs.hide Z hs)
 |_,_,.exc n h=>.exc n (by rw[hide_ne (λz=>by rw[z,Z]at h;cases h)];exact h)
 |_,_,.excF n h h2 hn hs=>.excF n (by rw[hide_ne (λz=>by rw[z,Z]at h;cases h)];exact h) (by rw[hide_ne (λz=>by rw[z,Z]at h2;cases h2)];exact h2) hn (RelDs.hide Z hs)
 |_,_,.fz h hs=>.fz (by rw[hide_ne (λz=>by rw[z,Z]at h;cases h)];exact h) (RelDs.hide Z hs)
theorem RelDs.hide(Z:H p=ar (.lst ws)):∀{ds:List D} {vs:List V},RelDs K ι H ds vs->RelDs K ι (dz H p) ds vs
 |_,_,.nil=>.nil
 |_,_,.cons h hs=>.cons (RelD.hide Z h) (RelDs.hide Z hs)
end
mutual
theorem RelD.unhide:∀{d:D} {v:V},RelD K ι (dz H p) d v->RelD K ι H d v
 |_,_,.non=>.non
 |_,_,.bl b=>.bl b
 |_,_,.int i=>.int i
 |_,_,.str x=>.str x
 |_,_,.tup h hs=>.tup (cW h).2 (RelDs.unhide hs)
 |_,_,.lst h=>.lst h
 |_,_,.ro h hs=>.ro (h.imp (λ⟨o,h⟩=>⟨o,(cW h).2⟩) λz=>z) (RelDs.unhide hs)
 |_,_,.emp h=>.emp (cW h).2
 |_,_,.fn h hs=>.fn (cW h).2 (RelDs.unhide hs)
 |_,_,.exc n h=>.exc n (cW h).2
 |_,_,.excF n h h2 hn hs=>.excF n (cW h).2 (cW h2).2 hn (RelDs.unhide hs)
 |_,_,.fz h hs=>.fz (cW h).2 (RelDs.unhide hs)
theorem RelDs.unhide:∀{ds:List D} {vs:List V},RelDs K ι (dz H p) ds vs->RelDs K ι H ds vs
 |_,_,.nil=>.nil
 |_,_,.cons h hs=>.cons (RelD.unhide h) (RelDs.unhide hs)
end
theorem RelE.hide(Z:H p=ar (.lst ws)):∀{ρ:aO} {σ:St},RelE K ι H ρ σ->RelE K ι (dz H p) ρ σ
 |_,_,.nil=>.nil
 |_,_,.cons h t=>.cons (λd z=>let ⟨v,e1,e2⟩:=h d z;⟨v,e1,e2.hide Z⟩) (RelE.hide Z t)
theorem RelE.unhide:∀{ρ:aO} {σ:St},RelE K ι (dz H p) ρ σ->RelE K ι H ρ σ
 |_,_,.nil=>.nil
 |_,_,.cons h t=>.cons (λd z=>let ⟨v,e1,e2⟩:=h d z;⟨v,e1,e2.unhide⟩) (RelE.unhide t)
theorem Rep.hide(Z:H p=ar (.lst ws))(Y:p∉ι)(r:Rep K ι H S):Rep K ι (dz H p) S:=
 ⟨r.nd,r.len,λk a xs e1 e2=>let ⟨vs,h1,h2⟩:=r.get k a xs e1 e2;⟨vs,by rw[hide_ne (λz=>Y (by rw[<-z];exact Pa e1))];exact h1,h2.hide Z⟩,r.tab.mono λb o h n=>by rw[hide_ne (λz=>by subst z;rw[h]at Z;exact n ws (O5 Z))];exact h⟩
theorem Rep.unhide(r:Rep K ι (dz H p) S):Rep K ι H S:=
 ⟨r.nd,r.len,λk a xs e1 e2=>let ⟨vs,h1,h2⟩:=r.get k a xs e1 e2;⟨vs,(cW h1).2,h2.unhide⟩,r.tab.mono λb o h _=>(cW h).2⟩
def Ext.hide(e:Ext ι H ι' H'):Ext ι (dz H p) ι' (dz H' p):=
 ⟨e.ids,λa o h n t=>by obtain⟨Z,U⟩:=cW h;obtain⟨Y,X⟩:=e.oth a o U n t;exact⟨by rw[hide_ne Z];exact Y,X⟩⟩
def Ext.unhide(e:Ext ι H ι' (dz H' p)):Ext ι H ι' H':=
 ⟨e.ids,λa o h n t=>by obtain⟨Z,Y⟩:=e.oth a o h n t;exact⟨(cW Z).2,Y⟩⟩
theorem gw{E:XD}{α:Type}{c:M α}{U:List V}{Q:α->List dt->aE->Hp->Prop}(h:cont K cL c ι S (dz H p) Q)(R:H p=ar (.lst U))(T:p∉ι):
  cont K E c ι S H (λa ι' Z H'=>H' p=ar (.lst U)/\p∉ι'/\Q a ι' Z (dz H' p)):=by
 obtain⟨r,Z,e,k⟩:=h;refine⟨r,Z,e,λι' H' x rep=>?_⟩;obtain⟨Y,X⟩:=x.oth p _ R T (by intro _ z;cases z);have:=k ι' (dz H' p) x.hide (rep.hide Y X);cases r with
 |ok a=>exact⟨Y,X,this⟩
 |ex y=>exact this.elim
end
def ko(js:List (Option Nat))(ρ:aO):aO:=js.map λo=>o.bind λj=>(ρ[j]?).join
theorem RelE.blk{K:dV}{ι:List dt}{H:Hp}{ρ:aO}{X:St}(Y:RelE K ι H ρ X):∀js:List (Option Nat),RelE K ι H (ko js ρ) (oO js X)
 |[]=>.nil
 |none::js=>.cons (λd z=>by cases z) (RelE.blk Y js)
 | some j::js=>.cons (λd z=>by
   have Z:(ρ[j]?).join=ar d:=z;have:ρ[j]? =ar (ar d):=by
    cases q:ρ[j]? with
    |none=>rw[q]at Z;cases Z
    |some o=>rw[q]at Z;exact Rl ar Z
   obtain⟨v,e1,e2⟩:=Y.get this;refine⟨v,?_,e2⟩;show(X[j]?).join=ar v;rw[e1];rfl) (RelE.blk Y js)
def cV(it:Iter)(g:nE)(t:aO->M Bool)(m:TM):List D->aO->M (List D)
 |[],ρ=>do iz it;aC []
 | d::ds,ρ=>do
  iz it
  let ρ1<-g d ρ;let b<-t ρ1
  if b=b_ then do
   let y<-m ρ1;let ys<-cV it g t m ds ρ1
   aC (y::ys)
  else cV it g t m ds ρ1
def gG(it:Iter)(g:nE)(t:aO->M Bool)(m:TM)(ρ:aO):M (List D):=if it.items.length<=lim then cV it g t m it.items ρ else M.fail
def Kw(X:Cx)(E:XD)(ifs:List Expr)(t:aO->M Bool):Prop:=Fs X ifs (z9 X.K E t)
def gH:Kw X E [] (λ_=>aC b_):=λpins s σ H Q I h=>FQ pins s σ H Q I (by obtain⟨ι,S,ρ,rep,re,c⟩:=h;exact ao c .refl rep)
def kq(h:SB X E c t):Kw X E [c] t:=FR h
section
variable {X:Cx}{scope:Scope}{Nc:List Str}{js:List (Option Nat)}{elt tg iter:Expr}{ifs:List Expr}{pos:Pos}{mi:aO->M Iter}{g:nE}{t:aO->M Bool}{m:TM}
theorem du{α Z Y:Type}(c:M α)(f:α->M Z)(h:Z->M Y):((c>>=f)>>=h)=(c>>=λa=>f a>>=h):=by
 funext S;show M.bnd (M.bnd c f) h S=M.bnd c (λa=>M.bnd (f a) h) S;unfold M.bnd;cases c S with
 |none=>rfl
 |some r=>
  obtain⟨r,W⟩:=r;cases r<;>rfl
def aj{α Z:Type}(a:α)(f:α->M Z):(aC a>>=f)=f a:=rfl
def Aa{α Z:Type}{c:Prop} [Decidable c](x y:M α)(f:α->M Z):((if c then x else y)>>=f)=if c then x>>=f else y>>=f:=by split<;>rfl
abbrev Lq(js:List (Option Nat))(g:TG)(tt:TT)(te:TE)(σ:St)(Q:VK):It->Hp->Prop:=λJ H1=>∀p,H1 p=none->
 ∃W:Nat->Nat->St->Hp->Prop,(∃m,W 0 m (oO js σ) (upd H1 p (.lst [])))/\∀i m σc Hc,W i m σc Hc->
  (J.stop i Hc/\Q (.ref p) Hc)\/(J.go i Hc/\∃N:St->Hp->Prop,(∀ σ' H',N σ' H'->∃m',m'<m/\W (i+1) m' σ' H')/\∀x H',J.yld i Hc x H'->g x σc H' λσ2 H2=>tt σ2 H2 λb H3=>
   if b=b_ then te σ2 H3 λy H4=>∃xs,H4 p=ar (.lst xs)/\xs.length<sizeLine/\N σ2 (upd H4 p (.lst (xs++[y])))else N σ2 H3)
theorem C7{Q:VK}{o:St}{H:Hp}{ι:List dt}{S:aE}{ρ:aO}(j:Rep X.K ι H S)(re:RelE X.K ι H ρ o)(c:cont X.K cL (do let it<-mi ρ;let ys<-gG it g t m (ko js ρ);bB ys) ι S H (mB X.K Q)):
  cont X.K cL (mi ρ) ι S H (λit Y _ T=>∀J,km X.K it J Y T->Lq js (CZ X.K cL g) (z9 X.K cL t) (tM X.K cL m) o Q J T):=by
 refine av (ak c) λit Y S1 T e1 rep1 c1 J e p A=>?_;have k:it.items.length<=lim/\cont X.K cL (cV it g t m it.items (ko js ρ)>>=λys=>bB ys) Y S1 T (mB X.K Q):=by
  have U:cont X.K cL ((if it.items.length<=lim then cV it g t m it.items (ko js ρ)else M.fail)>>=λys=>bB ys) Y S1 T (mB X.K Q):=c1;by_cases h:it.items.length<=lim
  ·rw[if_pos h]at U;exact⟨h,U⟩
  ·rw[if_neg h]at U;exact(ah (ak U)).elim
 obtain⟨hlen,c1⟩:=k;have f:RelE X.K Y T (ko js ρ) (oO js o):=(re.later j e1).blk js;refine⟨λi n C W=>∃ ι2 S2 ρ2 xs vs,n=it.items.length - i/\i<=it.items.length/\Ext Y T ι2 (dz W p)/\Rep X.K ι2 (dz W p) S2/\RelE X.K ι2 (dz W p) ρ2 C/\W p=ar (.lst vs)/\p∉ι2/\RelDs X.K ι2 (dz W p) xs vs/\xs.length<=i/\
  cont X.K cL (cV it g t m (it.items.drop i) ρ2>>=λys=>bB (xs++ys)) ι2 S2 (dz W p) (mB X.K Q),⟨_,Y,S1,ko js ρ,[],[],rfl,OX _,?_,?_,?_,aX,rep1.free A,.nil,OX _,?_⟩,?_⟩
 ·rw[eA,iT A];exact .refl
 ·rw[eA,iT A];exact rep1
 ·rw[eA,iT A];exact f
 ·rw[eA,iT A];exact c1
 rintro i n C W ⟨ι2,S2,ρ2,xs,vs,hn,hi',e2,rep2,re2,hpc,hpn,rx,hlim,c2⟩;by_cases hlt:i<it.items.length
 ·have hd:it.items.drop i=it.items[i]::it.items.drop (i+1):=Q6 hlt;rw[hd]at c2;have I:cont X.K cL (iz it>>=λ_=>g it.items[i] ρ2>>=λZ=>t Z>>=λb=>if b=b_ then m Z>>=λy=>cV it g t m (it.items.drop (i+1)) Z>>=λys=>bB (xs++y::ys)else cV it g t m (it.items.drop (i+1)) Z>>=λys=>bB (xs++ys)) ι2 S2 (dz W p) (mB X.K Q):=by
   have:(cV it g t m (it.items[i]::it.items.drop (i+1)) ρ2>>=λys=>bB (xs++ys))=(iz it>>=λ_=>g it.items[i] ρ2>>=λZ=>t Z>>=λb=>if b=b_ then m Z>>=λy=>cV it g t m (it.items.drop (i+1)) Z>>=λys=>bB (xs++y::ys)else cV it g t m (it.items.drop (i+1)) Z>>=λys=>bB (xs++ys)):=by show((iz it>>=λ_=>g it.items[i] ρ2>>=λZ=>t Z>>=λb=>if b=b_ then m Z>>=λy=>cV it g t m (it.items.drop (i+1)) Z>>=λys=>aC (y::ys)else cV it g t m (it.items.drop (i+1)) Z)>>=λys=>bB (xs++ys))=_;simp only[du,Aa,aj]
   rw[<-this];exact c2
  obtain⟨ok,u⟩:=jW I rep2;obtain⟨s,a3⟩:=e ι2 W S2 e2.unhide.n rep2.unhide ok i;obtain⟨go,yl⟩:=s it.items[i] (OH hlt);refine .inr ⟨go,λB N=>∃ ι3 S3 ρ3 xs3 vs3,Ext Y T ι3 (dz N p)/\Rep X.K ι3 (dz N p) S3/\RelE X.K ι3 (dz N p) ρ3 B/\N p=ar (.lst vs3)/\p∉ι3/\RelDs X.K ι3 (dz N p) xs3 vs3/\xs3.length<=i+1/\
   cont X.K cL (cV it g t m (it.items.drop (i+1)) ρ3>>=λys=>bB (xs3++ys)) ι3 S3 (dz N p) (mB X.K Q),?_,λx d hy=>?_⟩
  ·rintro B N ⟨ι3,S3,ρ3,xs3,vs3,h1,h2,h3,h4,h5,h6,h7,h8⟩;exact⟨_,by omega,ι3,S3,ρ3,xs3,vs3,rfl,hlt,h1,h2,h3,h4,h5,h6,h7,h8⟩
  ·obtain⟨e3,rep3,rd⟩:=yl x d hy;obtain⟨r,_⟩:=e3.oth p _ hpc hpn (by intro _ z;cases z);have w:Ext ι2 (dz W p) ι2 (dz d p):=e3.hide;have c4:=ak (gv u w);refine⟨ι2,S2,ρ2,it.items[i],rep3,re2.unhide.later rep2.unhide e3,rd,av (gw (E:=cL) c4 r hpn) λρ4 ι4 S4 H4 e4 rep4 ⟨hp4,hn4,c5⟩ σ4 re4=>?_⟩;have l:Rep X.K ι4 (dz H4 p) S4:=rep4.hide hp4 hn4;have q:Ext ι2 (dz W p) ι4 (dz H4 p):=w.trans e4.hide;refine⟨ι4,S4,ρ4,rep4,re4,av (gw (E:=cL) (ak c5) hp4 hn4) λb ι5 S5 H5 e5 rep5 ⟨hp5,hn5,c6⟩=>?_⟩;have P:Rep X.K ι5 (dz H5 p) S5:=rep5.hide hp5 hn5;have L:Ext ι2 (dz W p) ι5 (dz H5 p):=q.trans e5.hide;have O:RelE X.K ι5 H5 ρ4 σ4:=re4.later rep4 e5;cases b with
   |false=>
    have R:cont X.K cL (cV it g t m (it.items.drop (i+1)) ρ4>>=λys=>bB (xs++ys)) ι5 S5 (dz H5 p) (mB X.K Q):=c6;exact⟨ι5,S5,ρ4,xs,vs,e2.trans L,P,O.hide hp5,hp5,hn5,rx.later rep2 L,by omega,R⟩
   |true=>
    have R:cont X.K cL (m ρ4>>=λy=>cV it g t m (it.items.drop (i+1)) ρ4>>=λys=>bB (xs++y::ys)) ι5 S5 (dz H5 p) (mB X.K Q):=c6;refine⟨ι5,S5,ρ4,rep5,O,av (gw (E:=cL) (ak R) hp5 hn5) λy ι6 S6 H6 e6 rep6 ⟨hp6,hn6,c7⟩ yv ry=>?_⟩;have F:Ext ι2 (dz W p) ι6 (dz H6 p):=L.trans e6.hide;have G:Rep X.K ι6 (dz H6 p) S6:=rep6.hide hp6 hn6;have v:=rx.later rep2 F;have a:vs.length<sizeLine:=by rw[<-v.length];exact Rq (by omega) C0
    refine⟨vs,hp6,a,ι6,S6,ρ4,xs++[y],vs++[yv],?_⟩;rw[eA];refine⟨e2.trans F,G,(O.later rep5 e6).hide hp6,aX,hn6,v.append (.cons (ry.hide hp6) .nil),by simp;omega,by simpa using c7⟩
 ·have hd:it.items.drop i=[]:=Qm (by omega);rw[hd]at c2;have I:cont X.K cL (iz it>>=λ_=>bB (xs++[])) ι2 S2 (dz W p) (mB X.K Q):=by
   have:(cV it g t m [] ρ2>>=λys=>bB (xs++ys))=(iz it>>=λ_=>bB (xs++[])):=by show((iz it>>=λ_=>aC [])>>=λys=>bB (xs++ys))=_;simp only[du,aj]
   rw[<-this];exact c2
  obtain⟨ok,u⟩:=jW I rep2;rw[Pp]at u;refine .inl ⟨(e ι2 W S2 e2.unhide.n rep2.unhide ok i).2 (by omega),?_⟩;have:=(bq u rep2 rx).2 p lX;rw[wQ hpc]at this;exact this
theorem wR(h:tM X.K cL (λρ=>do let it<-mi ρ;let ys<-gG it g t m (ko js ρ);bB ys) σ H Q):
  z8 (Kv X.K cL mi) js (CZ X.K cL g) (z9 X.K cL t) (tM X.K cL m) σ H Q:=
 let ⟨ι,S,ρ,rep,re,c⟩:=h
 ⟨ι,S,ρ,rep,re,C7 rep re c⟩
theorem eR(c:CompScope X scope Nc js)(W:X.calm=b_)(Y:SI X cL tg iter mi)
  (Z:∀C ex s H,SG (bc X scope Nc C ex s H) cL tg g/\Kw (bc X scope Nc C ex s H) cL ifs t/\SE (bc X scope Nc C ex s H) cL elt m)
  (hs:∀x,kb iter X.env x=aC x:=by intro _;rfl):SE X cL (.ListComp elt [⟨tg,iter,ifs,0⟩] scope pos) (λρ=>do let it<-mi ρ;let ys<-gG it g t m (ko js ρ);bB ys):=
 PE.imp (FS (g:=CZ X.K cL g) (tt:=z9 X.K cL t) (te:=tM X.K cL m) c W Y Z hs) λ_ _ _ q=>wR q
theorem rl(i:Nat)(Q:X.N.Nodup)(c:CompScope X scope Nc js)(R:X.calm=b_)(L:SI X cL tg iter mi)
  (Z:∀C ex s H,SG (bc X scope Nc C ex s H) cL tg g/\Kw (bc X scope Nc C ex s H) cL ifs t/\SE (bc X scope Nc C ex s H) cL elt m)
  (W:X.N[i]? =ar x:=by rfl) (O:Loc X.env.scope x:=by first|exact Uh rfl|exact Tq rfl)
  (Y:lb (.ListComp elt [⟨tg,iter,ifs,0⟩] scope cpos) (ar (.Name x pos')) pos.line X.env=aC true:=by rfl)
  (P:X.fn x=b_\/X.env.scope.names.lookup x=ar .local:=by first|exact .inl rfl|exact .inr rfl|assumption)
  (hs:∀x,kb iter X.env x=aC x:=by intro _;rfl):SS X cL (.Assign [.Name x pos'] (.ListComp elt [⟨tg,iter,ifs,0⟩] scope cpos) pos)
   (λρ=>do let d<-(do let it<-mi ρ;let ys<-gG it g t m (ko js ρ);bB ys);aC (.nx (ρ.set i (ar d)))):=by
 refine PS.imp (yJ (g:=CZ X.K cL g) (tt:=z9 X.K cL t) (te:=tM X.K cL m) Q W O c R L Z Y P hs) λT σ H h=>?_;obtain⟨ι,S,ρ,rep,re,c⟩:=h;refine wR ⟨ι,S,ρ,rep,re,av (ak c) λd U S1 J e1 rep1 c1 v r=>?_⟩;exact ao c1 .refl rep1 _ ((re.later rep e1).set r i)
end
section
variable {P:ey}{w:fg}{K:dV}{mg:Str->Option a_}{base:gg}
def outD:Out->M D
 | .nx _=>aC .non
 | .ret d=>aC d
 |_=>M.fail
def tm(N n:Nat)(m:dq):List D->M D:=λds=>if ds.length=n then do let o<-m (ds.map ar++f' (N - n) none);outD o else M.fail
end
def tq(f:Int->Int->M D):D->D->M D
 | .int i,.int j=>f i j
 |_,_=>M.fail
theorem iA{K:dV}{E:XD}{g:Int->Int->V}{f:Int->Int->D}(X:∀ ι H i j,RelD K ι H (f i j) (g i j)):sR K E (tq λi j=>aC (f i j)) (Fp g):=by
 intro ι S H T Z v1 v2 Q rep Y U c;cases T<;>cases Z<;>first
  |exact(ah c).elim
  |exact⟨_,_,Y.int_inv,U.int_inv,ao c .refl rep _ (X _ _ _ _)⟩
theorem nH{K:dV}{E:XD}{C:Int->Int->Prop} [∀i j,Decidable (C i j)]{g:Int->Int->V}{f:Int->Int->D}(U:∀ ι H i j,RelD K ι H (f i j) (g i j)):sR K E (tq λi j=>if C i j then aC (f i j)else M.fail) (rI C g):=by
 intro ι S H R Y v1 v2 Q rep X T c;cases R<;>cases Y<;>first
  |exact(ah c).elim
  | (next i j=>
    have Z:cont K E (if C i j then aC (f i j)else M.fail) ι S H (mB K Q):=c;by_cases h:C i j
    ·rw[if_pos h]at Z;exact⟨_,_,X.int_inv,T.int_inv,h,ao Z .refl rep _ (U _ _ _ _)⟩
    ·rw[if_neg h]at Z;exact(ah Z).elim)
def iB:D->D->M D:=tq λi j=>aC (.int (i - j))
instance:∀i j,Decidable (yz i j):=λi j=>inferInstanceAs (Decidable (_\/_))
instance:∀i j,Decidable (A9 i j):=λi j=>inferInstanceAs (Decidable (_/\_))
instance:∀i j,Decidable (FC i j):=λi j=>inferInstanceAs (Decidable (_/\_))
def vk:D->D->M D:=tq λi j=>if yz i j then aC (.int (i*j))else M.fail
def nI:D->D->M D:=tq λi j=>if A9 i j then aC (.int (i / j))else M.fail
def mR:D->D->M D:=tq λi j=>if 0<j then aC (.int (i % j))else M.fail
def C8:D->D->M D:=tq λi j=>if FC i j then aC (.int (i ^ j.toNat))else M.fail
def bP:D->D->M D
 | .int i,.int j=>aC (.int (i+j))
 | .tup xs,.tup ys=>bj (xs++ys)
 | .lst a,.lst b=>do let xs<-getL a;let ys<-getL b;bB (xs++ys)
 | .lst a,.fz ys=>do let xs<-getL a;bB (xs++ys)
 | .fz xs,.lst b=>do let ys<-getL b;bB (xs++ys)
 | .fz xs,.fz ys=>bB (xs++ys)
 |_,_=>M.fail
def yt:D->D->M D:=tq λi j=>aC (.bl (decide (i<=j)))
def C9:D->D->M D:=tq λi j=>aC (.bl (decide (j<i)))
def Nv:D->D->M D:=tq λi j=>aC (.bl (decide (j<=i)))
section
variable {X:Cx}{E:XD}{a b e c:Expr}{m n l:TM}{pos:Pos}
def lr(Z:SE X E a m)(Y:SE X E b n):SE X E (.BinOp a .Sub b pos) (λρ=>do let x<-m ρ;let y<-n ρ;iB x y):=rk IH (iA λ_ _ _ _=>.int _) Z Y
def rm(Z:SE X E a m)(Y:SE X E b n):SE X E (.BinOp a .Mult b pos) (λρ=>do let x<-m ρ;let y<-n ρ;vk x y):=rk II (nH λ_ _ _ _=>.int _) Z Y
def vm(Z:SE X E a m)(Y:SE X E b n):SE X E (.BinOp a .FloorDiv b pos) (λρ=>do let x<-m ρ;let y<-n ρ;nI x y):=rk FD (nH λ_ _ _ _=>.int _) Z Y
def lu(Z:SE X E a m)(Y:SE X E b n):SE X E (.BinOp a .Mod b pos) (λρ=>do let x<-m ρ;let y<-n ρ;mR x y):=rk IJ (nH (C:=λ_ j=>0<j) λ_ _ _ _=>.int _) Z Y
def Da(Z:SE X E a m)(Y:SE X E b n):SE X E (.BinOp a .Pow b pos) (λρ=>do let x<-m ρ;let y<-n ρ;C8 x y):=rk IK (nH λ_ _ _ _=>.int _) Z Y
theorem Dc:iy X (r_ .Add) (λx y H Q=>∃a b ys,x= .ref a/\y= .ref b/\k9 X.K H a []/\k9 X.K H b ys/\Q (.ref b) H):=by
 intro pins s σ H x y v u Q I J N h;obtain⟨a,b,ys,rfl,rfl,F,A,q⟩:=h;cases J;cases N;obtain⟨its,O,G,_⟩:=I.tuple F;obtain⟨W,z,L,_⟩:=I.tuple A;cases O;obtain⟨⟨cls,dd,data,C⟩,P,R,n,hd⟩:=id G;obtain⟨⟨S,T,data2,U⟩,Y,Z,B,hd2⟩:=id L;simp only at R hd Z hd2;subst R hd Z hd2;exact T6 ⟨_,P,rfl⟩ ⟨_,Y,rfl⟩ SK TQ RA Ro (Rg _ _)
  (tuple_addW0 a b #[] W.toArray n B dd T C U (by simp)) ⟨P,Y,⟨.ref b,H,I,rfl,q⟩⟩
theorem Inv.lstR{X:Cx}{Z:List (dt×Obj)}{W:L2.St}{H:Hp}{s:dr}{l:dt}{xs:List V}(I:L2.Inv X Z W H s)(Y:Rd H l (.lst xs)):xs.length<=sizeLine/\∃(its:List a_) (n:Nat),bx xs its/\xs.length=its.length/\s.heap.get? l=ar {cls:=.type "list",data:=.seq its.toArray n}:=by obtain⟨z,its,n,r,e⟩:=Y.ok I.hok;exact⟨z,its,n,r,r.length,e⟩
def Lr:R2:=λx y H Q=>∃l b xs zs,x= .ref l/\y= .ref b/\Rd H l (.lst xs)/\Rd H b (.lst zs)/\xs.length+zs.length<=sizeLine/\∀p,H p=none->Q (.ref p) (upd H p (.lst (xs++zs)))
theorem FW:iy X (r_ .Add) Lr:=by
 intro pins s σ H x y v u Q I O R h;obtain⟨l,b,xs,zs,rfl,rfl,W,U,N,q⟩:=h;cases O;cases R;obtain⟨z,its,n,r,J,e⟩:=Inv.lstR I W;obtain⟨K,Z,L,S,T,e2⟩:=Inv.lstR I U;refine PySem.P.add_list e e2 ?_ (by rw[OL,OL];omega);have Y:its.toArray++Z.toArray=(its++Z).toArray:=by simp
 rw[Y];exact⟨.ref _,_,I.lnew (t':=s.toks) (r.append S) (by rw[OG];omega),rfl,q _ I.fresh⟩
theorem bK(F:SE X E a m)(C:SE X E b n):SE X E (.BinOp a .Add b pos) (λρ=>do let x<-m ρ;let y<-n ρ;bP x y):=by
 refine rk (IG.or (FM.or (Dc.or FW))) ?_ F C;intro ι S H B G v1 v2 Q rep P O c;cases B<;>cases G<;>first
  |exact(ah c).elim
  |exact .inl ⟨_,_,P.int_inv,O.int_inv,ao c .refl rep _ (.int _)⟩
  | (next xs ys=>
    obtain⟨p,vs,rfl,W,L⟩:=P.tup_inv;obtain⟨q,ws,rfl,U,I⟩:=O.tup_inv;obtain⟨Y,T⟩:=iQ c rep (L.append I);rw[OG]at Y;cases vs with
    |nil=>
     refine .inr (.inr (.inl ⟨p,q,ws,rfl,rfl,.of W,.of U,?_⟩));exact ki c rep U (L.append I)
    |cons v vs=>
     refine .inr (.inl ⟨p,q,v::vs,ws,rfl,rfl,.of W,.of U,by simp,OR Y g9,λz=>?_,λ_=>T⟩);subst z;have:=L.append I;rw[Pp]at this;exact ki c rep W this)
  | (next j k=>
    obtain⟨p,rfl,W⟩:=P.lst_inv;obtain⟨q,rfl,U⟩:=O.lst_inv;obtain⟨ds,vs,_,J,R,c1⟩:=bz c rep W;obtain⟨es,ws,_,hw,Z,N⟩:=bz c1 rep U;obtain⟨Y,T⟩:=bq N rep (R.append Z);rw[OG]at Y;exact .inr (.inr (.inr ⟨p,q,vs,ws,rfl,rfl,.inl J,.inl hw,OR Y g9,T⟩)))
  | (next j ys=>
    obtain⟨p,rfl,W⟩:=P.lst_inv;obtain⟨q,o2,ws,rfl,U,Z⟩:=O.fz_inv;obtain⟨ds,vs,_,J,R,c1⟩:=bz c rep W;obtain⟨Y,T⟩:=bq c1 rep (R.append Z);rw[OG]at Y;exact .inr (.inr (.inr ⟨p,q,vs,ws,rfl,rfl,.inl J,.inr ⟨o2,U⟩,OR Y g9,T⟩)))
  | (next xs k=>
    obtain⟨p,K,vs,rfl,W,R⟩:=P.fz_inv;obtain⟨q,rfl,U⟩:=O.lst_inv;obtain⟨es,ws,_,hw,Z,N⟩:=bz c rep U;obtain⟨Y,T⟩:=bq N rep (R.append Z);rw[OG]at Y;exact .inr (.inr (.inr ⟨p,q,vs,ws,rfl,rfl,.inr ⟨K,W⟩,.inl hw,OR Y g9,T⟩)))
  | (next xs ys=>
    obtain⟨p,K,vs,rfl,W,R⟩:=P.fz_inv;obtain⟨q,o2,ws,rfl,U,Z⟩:=O.fz_inv;obtain⟨Y,T⟩:=bq c rep (R.append Z);rw[OG]at Y;exact .inr (.inr (.inr ⟨p,q,vs,ws,rfl,rfl,.inr ⟨K,W⟩,.inr ⟨o2,U⟩,OR Y g9,T⟩)))
def Dd(Z:SE X E a m)(Y:SE X E b n):SB X E (.Compare a [.Gt] [b] pos) (λρ=>do let z<-(do let x<-m ρ;let y<-n ρ;C9 x y);kh z):=oQ K8 (iA λ_ _ _ _=>.bl _) Z Y
def Ls(Z:SE X E a m)(Y:SE X E b n):SB X E (.Compare a [.GtE] [b] pos) (λρ=>do let z<-(do let x<-m ρ;let y<-n ρ;Nv x y);kh z):=oQ K9 (iA λ_ _ _ _=>.bl _) Z Y
def intsOf:List D->Option (List Int)
 |[]=>ar []
 | .int i::r=>(intsOf r).map (i::·)
 |_=>none
theorem fE{K:dV}{ι:List dt}{H:Hp}:∀{ds:List D} {vs:List V} {ns:List Int},RelDs K ι H ds vs->intsOf ds=ar ns->vs=ns.map V.int
 |[],vs,ns,h,e=>by cases e;rw[h.nil_inv];rfl
 | .int i::ds,vs,ns,h,e=>by
  obtain⟨v,ws,rfl,Z,Y⟩:=h.cons_inv;cases q:intsOf ds with
  |none=>simp[intsOf,q]at e
  |some ks=>
   simp[intsOf,q]at e;subst e;rw[Z.int_inv,fE Y q];rfl
 | .non::_,_,_,_,e=>by cases e
 | .bl _::_,_,_,_,e=>by cases e
 | .str _::_,_,_,_,e=>by cases e
 | .tup _::_,_,_,_,e=>by cases e
 | .lst _::_,_,_,_,e=>by cases e
 | .ro _::_,_,_,_,e=>by cases e
 | .fz _::_,_,_,_,e=>by cases e
 | .emp::_,_,_,_,e=>by cases e
def rp:D->D->M D
 | .int i,.int j=>aC (.bl (decide (i<j)))
 | .tup xs,.tup ys=>match intsOf xs,intsOf ys with
  |some ns,ar ms=>aC (.bl (HT.lexLt ns ms))
  |_,_=>M.fail
 |_,_=>M.fail
theorem rq:sR X.K E rp (λx y H Q=>Fp (λi j=>.bl (decide (i<j))) x y H Q\/Le X.K x y H Q):=by
 intro ι S H O U v1 v2 Q rep Z Y c;cases O<;>cases U<;>first
  |exact(ah c).elim
  |exact .inl ⟨_,_,Z.int_inv,Y.int_inv,ao c .refl rep _ (.bl _)⟩
  | (next xs ys=>
    obtain⟨p,vs,rfl,W,T⟩:=Z.tup_inv;obtain⟨q,ws,rfl,R,P⟩:=Y.tup_inv;dsimp only[rp]at c;split at c
    ·next ns ms e1 e2=>
     refine .inr ⟨p,q,ns,ms,rfl,rfl,.of (by rw[<-fE T e1];exact W),.of (by rw[<-fE P e2];exact R),ao c .refl rep _ (.bl _)⟩
    ·exact(ah c).elim)
def De(W:X.A.units<y4)(Z:SE X E a m)(Y:SE X E b n):SE X E (.Compare a [.Lt] [b] pos) (λρ=>do let x<-m ρ;let y<-n ρ;rp x y):=vj (wD.or (qX W)) rq Z Y
def Df(W:X.A.units<y4)(Z:SE X E a m)(Y:SE X E b n):SB X E (.Compare a [.Lt] [b] pos) (λρ=>do let z<-(do let x<-m ρ;let y<-n ρ;rp x y);kh z):=oQ (wD.or (qX W)) rq Z Y
theorem wU(A:sR X.K E f r)(C:sR X.K E g r')
  (h:tM X.K E (λρ=>do let x<-m ρ;let y<-n ρ;let z<-f x y;let k<-kh z;if k=b_ then do let w<-l ρ;g y w else aC (.bl c_)) σ H Q):yA r r' (tM X.K E m) (tM X.K E n) (tM X.K E l) σ H Q:=by
 obtain⟨ι,S,ρ,rep,re,c⟩:=h;refine⟨ι,S,ρ,rep,re,av (ak c) λx Y S1 p e1 rep1 c1 v1 J=>?_⟩;refine⟨Y,S1,ρ,rep1,re.later rep e1,av (ak c1) λy W S2 t e2 rep2 I v2 R=>?_⟩;refine A W S2 t x y v1 v2 _ rep2 (J.later rep1 e2) R (av (ak I) λz T L s e3 rep3 B q v=>?_);obtain⟨k,rfl,rfl,P⟩:=nF rep3 v B;refine⟨k,rfl,?_⟩;cases k with
 |true=>
  exact⟨T,L,ρ,rep3,((re.later rep e1).later rep1 e2).later rep2 e3,av (ak P) λw U u O N Z G v4 F=>C U u O y w v2 v4 Q Z ((R.later rep2 e3).later rep3 N) F G⟩
 |false=>exact ao P .refl rep3 _ (.bl c_)
theorem Dg(h:iy X (i_ op) r)(h':iy X (i_ op') r')(Z:sR X.K E f r)(U:sR X.K E g r')(Y:SE X E a m)(T:SE X E b n)(S:SE X E c l)
  (W:P_ [op,op'] [b,c]=false:=by with_unfolding_all rfl):
  SE X E (.Compare a [op,op'] [b,c] pos) (λρ=>do let x<-m ρ;let y<-n ρ;let z<-f x y;let k<-kh z;if k=b_ then do let w<-l ρ;g y w else aC (.bl c_)):=
 PE.imp (CH h h' Y T S W) λ_ _ _ q=>wU Z U q
theorem wV(h:iy X (i_ op) r)(h':iy X (i_ op') r')(P:sR X.K E f r)(W:sR X.K E g r')(Y:SE X E a m)(L:SE X E b n)(R:SE X E c l)
  (O:P_ [op,op'] [b,c]=false:=by with_unfolding_all rfl):
  SB X E (.Compare a [op,op'] [b,c] pos) (λρ=>do let v<-(do let x<-m ρ;let y<-n ρ;let z<-f x y;let k<-kh z;if k=b_ then do let w<-l ρ;g y w else aC (.bl c_));kh v):=
 PT.imp (CI h h' Y L R O) λσ H Q q=>by obtain⟨ι,S,ρ,rep,re,c⟩:=q;refine wU P W (Q:=λx N=>∃k,x= .bl k/\Q k N) ⟨ι,S,ρ,rep,re,av (ak c) λx U S1 J e1 rep1 c1 v1 Z=>?_⟩;obtain⟨k,rfl,rfl,T⟩:=nG rep1 Z c1;exact⟨k,rfl,T⟩
def cX:D->D->M D
 | .lst k,.int i=>do
  let xs<-getL k
  match jS xs i with
  |some d=>aC d
  |none=>M.fail
 | .tup xs,.int i=>match jS xs i with
  |some d=>aC d
  |none=>M.fail
 | .ro xs,.int i=>match jS xs i with
  |some d=>aC d
  |none=>M.fail
 | .fz xs,.int i=>match jS xs i with
  |some d=>aC d
  |none=>M.fail
 |_,_=>M.fail
theorem qz{K:dV}{ι:List dt}{H:Hp}{ds:List D}{vs:List V}{i:Int}{d:D}(h:RelDs K ι H ds vs)(e:jS ds i=ar d):∃v,jS vs i=ar v/\RelD K ι H d v:=by
 unfold jS at e⊢;rw[h.length]at e;cases q:yq vs.length i with
 |none=>rw[q]at e;cases e
 |some j=>
  rw[q]at e;exact h.get' e
theorem Jc:sR X.K E cX (NZ X.K):=by
 intro ι S H P T v1 v2 Q rep W U c;cases P<;>cases T<;>first
  |exact(ah c).elim
  | (next k i=>
    obtain⟨p,rfl,Z⟩:=W.lst_inv;obtain⟨ds,vs,_,R,Y,c1⟩:=bz c rep Z;cases q:jS ds i with
    |none=>rw[q]at c1;exact(ah c1).elim
    |some d=>
     rw[q]at c1;obtain⟨v,e1,e2⟩:=qz Y q;exact .inl ⟨p,vs,i,v,rfl,U.int_inv,.of R,e1,ao c1 .refl rep _ e2⟩)
  | (next ds i=>
    obtain⟨p,vs,rfl,Z,Y⟩:=W.tup_inv;dsimp only[cX]at c;cases q:jS ds i with
    |none=>rw[q]at c;exact(ah c).elim
    |some d=>
     rw[q]at c;obtain⟨v,e1,e2⟩:=qz Y q;exact .inr (.inl ⟨p,vs,i,v,rfl,U.int_inv,.of Z,e1,ao c .refl rep _ e2⟩))
  | (next ds i=>
    obtain⟨p,vs,rfl,Z,Y⟩:=W.ro_inv;dsimp only[cX]at c;cases q:jS ds i with
    |none=>rw[q]at c;exact(ah c).elim
    |some d=>
     rw[q]at c;obtain⟨v,e1,e2⟩:=qz Y q;exact .inl ⟨p,vs,i,v,rfl,U.int_inv,Z.sq,e1,ao c .refl rep _ e2⟩)
  | (next ds i=>
    obtain⟨p,o,vs,rfl,Z,Y⟩:=W.fz_inv;dsimp only[cX]at c;cases q:jS ds i with
    |none=>rw[q]at c;exact(ah c).elim
    |some d=>
     rw[q]at c;obtain⟨v,e1,e2⟩:=qz Y q;exact .inl ⟨p,vs,i,v,rfl,U.int_inv,.inl (.inr ⟨o,Z⟩),e1,ao c .refl rep _ e2⟩)
def aD(Z:SE X E a m)(Y:SE X E b n)(hs:uV b:=by intro _ _;rfl):SE X E (.Subscript a b pos) (λρ=>do let x<-m ρ;let y<-n ρ;cX x y):=Lm IV Jc Z Y hs
end
mutual
inductive ReadsV(H:Hp):V->oo->Prop where
 |non:ReadsV H .non .none
 |bl (b:Bool):ReadsV H (.bl b) (.bool b)
 |int (i:Int):ReadsV H (.int i) (.int i)
 |str (x:Str):ReadsV H (.str x) (.str x)
 |lst {a:dt} {vs:List V} {ps:List oo}:Rd H a (.lst vs)->ReadsVs H vs ps->ReadsV H (.ref a) (.list ps)
 |tup {a:dt} {vs:List V} {ps:List oo}:H a=ar (.tup vs)->ReadsVs H vs ps->ReadsV H (.ref a) (.tuple ps)
inductive ReadsVs(H:Hp):List V->List oo->Prop where
 |nil:ReadsVs H [] []
 |cons {v:V} {p:oo} {vs:List V} {ps:List oo}:ReadsV H v p->ReadsVs H vs ps->ReadsVs H (v::vs) (p::ps)
end
mutual
theorem ReadsV.heap(Z:gD P w H h):∀{v:V} {p:oo},ReadsV H v p->∀{u:a_},RelV v u->∃as,Reads h u p as
 |_,_,.non,u,r=>by cases (show u=h_ from r);exact⟨_,.none⟩
 |_,_,.bl b,u,r=>by cases (show u=q_ b from r);exact⟨_,.bool b⟩
 |_,_,.int i,u,r=>by obtain⟨t,rfl⟩:=(show ∃t,u=o_ i t from r);exact⟨_,.int i t⟩
 |_,_,.str x,u,r=>by obtain⟨t,rfl⟩:=(show ∃t,u=O' x t from r);exact⟨_,.str x t⟩
 |_,_,@ReadsV.lst _ a vs ps h1 h2,u,r=>by
  cases (show u=er a from r);obtain⟨_,its,n,Y,e⟩:=(show bC P w H h a (.lst vs)from h1.ok Z);obtain⟨as,q⟩:=ReadsVs.heap Z h2 Y;exact⟨_,.list e rfl rfl (by simpa using q)⟩
 |_,_,@ReadsV.tup _ a vs ps h1 h2,u,r=>by
  cases (show u=er a from r);obtain⟨_,its,Y,o,e,c,n,d⟩:=(show bC P w H h a (.tup vs)from Z a _ h1);obtain⟨as,q⟩:=ReadsVs.heap Z h2 Y;exact⟨_,.tuple e c d (by simpa using q)⟩
theorem ReadsVs.heap(Z:gD P w H h):∀{vs:List V} {ps:List oo},ReadsVs H vs ps->∀{us:List a_},bx vs us->∃as,ReadsAll h us ps as
 |_,_,.nil,us,r=>by cases r;exact⟨_,.nil⟩
 | _,_,.cons h1 h2,us,r=>by
  cases r with
  |cons r1 r2=>
   obtain⟨as,q⟩:=ReadsV.heap Z h1 r1;obtain⟨bs,Y⟩:=ReadsVs.heap Z h2 r2;exact⟨_,.cons q Y⟩
end
def mapP(f:D->Option oo):List D->Option (List oo)
 |[]=>ar []
 |d::ds=>match f d,mapP f ds with
  |some p,ar ps=>ar (p::ps)
  |_,_=>none
def hV(S:aE):Nat->D->Option oo
 |_,.non=>ar .none
 |_,.bl b=>ar (.bool b)
 |_,.int i=>ar (.int i)
 |_,.str x=>if PyData.strOk x=b_ then ar (.str x)else none
 |n+1,.tup ds=>(mapP (hV S n) ds).map .tuple
 |n+1,.lst k=>(S[k]?).bind λxs=>(mapP (hV S n) xs).map .list
 |n+1,.fz ds=>(mapP (hV S n) ds).map .list
 |_,_=>none
section
variable {K:dV}{ι:List dt}{S:aE}{H:Hp}
theorem nJ{f:D->Option oo}(Z:∀d p v,f d=ar p->RelD K ι H d v->ReadsV H v p/\p.canLay0=b_/\p.depth<=n):
  ∀{ds:List D} {ps:List oo} {vs:List V},mapP f ds=ar ps->RelDs K ι H ds vs->ReadsVs H vs ps/\PyData.canLayAll0 ps=b_/\s_ ps<=n
 |[],ps,vs,e,r=>by
  cases e;rw[r.nil_inv];exact⟨.nil,rfl,OX _⟩
 | d ::ds,ps,vs,e,r=>by
  obtain⟨v,ws,rfl,X,T⟩:=r.cons_inv;unfold mapP at e;cases q:f d with
  |none=>rw[q]at e;cases e
  | some p=>
   rw[q]at e;cases q2:mapP f ds with
   |none=>rw[q2]at e;cases e
   | some ps'=>
    rw[q2]at e;cases e;obtain⟨Y,R,U⟩:=Z d p v q X;obtain⟨k1,k2,k3⟩:=nJ Z q2 T;refine⟨.cons Y k1,?_,?_⟩
    ·show(PyData.canLay0 p && PyData.canLayAll0 ps')=b_;rw[R,k2];rfl
    ·show max p.depth (s_ ps')<=n;exact Nat.max_le.mpr ⟨U,k3⟩
theorem qA(X:Rep K ι H S):∀(n:Nat) (d:D) (p:oo) (v:V),hV S n d=ar p->RelD K ι H d v->ReadsV H v p/\p.canLay0=b_/\p.depth<=n:=by
 intro n
 induction n with
 | zero=>
  intro d p v e r;cases d with
  |non=>cases e;rw[r.non_inv];exact⟨.non,rfl,OF _⟩
  |bl b=>cases e;rw[r.bl_inv];exact⟨.bl b,rfl,OF _⟩
  |int i=>cases e;rw[r.int_inv];exact⟨.int i,rfl,OF _⟩
  |str x=>
   unfold hV at e;split at e
   ·next hs=>cases e;rw[r.str_inv];exact⟨.str x,hs,OF _⟩
   ·cases e
  |_=>cases e
 | succ n ih=>
  intro d p v e r;cases d with
  |non=>cases e;rw[r.non_inv];exact⟨.non,rfl,OX _⟩
  |bl b=>cases e;rw[r.bl_inv];exact⟨.bl b,rfl,OX _⟩
  |int i=>cases e;rw[r.int_inv];exact⟨.int i,rfl,OX _⟩
  |str x=>
   unfold hV at e;split at e
   ·next hs=>cases e;rw[r.str_inv];exact⟨.str x,hs,OX _⟩
   ·cases e
  | tup ds=>
   obtain⟨a,vs,rfl,Z,Y⟩:=r.tup_inv;unfold hV at e;cases q:mapP (hV S n) ds with
   |none=>rw[q]at e;cases e
   |some ps=>
    rw[q]at e;cases e;obtain⟨k1,k2,k3⟩:=nJ ih q Y;exact⟨.tup Z k1,k2,Q8 k3⟩
  | lst k=>
   obtain⟨a,rfl,Z⟩:=r.lst_inv;unfold hV at e;cases z:S[k]? with
   |none=>rw[z]at e;cases e
   | some xs=>
    rw[z]at e;obtain⟨vs,U,Y⟩:=X.get k a xs Z z;cases q:mapP (hV S n) xs with
    |none=>simp[q]at e
    |some ps=>
     simp[q]at e;subst e;obtain⟨k1,k2,k3⟩:=nJ ih q Y;exact⟨.lst (.inl U) k1,k2,Q8 k3⟩
  |ro ds=>cases e
  | fz ds=>
   obtain⟨a,o,vs,rfl,Z,Y⟩:=r.fz_inv;unfold hV at e;cases q:mapP (hV S n) ds with
   |none=>rw[q]at e;cases e
   |some ps=>
    rw[q]at e;cases e;obtain⟨k1,k2,k3⟩:=nJ ih q Y;exact⟨.lst (.inr ⟨o,Z⟩) k1,k2,Q8 k3⟩
  |emp=>cases e
  |fn a c q ds vs=>cases e
  |exc x ds=>cases e
end
def Kx(f:oo->oo->Bool):D->D->M D:=λa b S=>match hV S 60 a,hV S 60 b with
 |some p,ar q=>ar (.ok (.bl (f p q)),S)
 |_,_=>none
def kR:D->D->M D:=Kx hI
def kd:D->D->M D:=Kx λp q=> !hI p q
def Nw(f:Bool->Bool):oo->oo->Option Bool
 |d,.list xs=>ar (f (xs.any λy=>hI y d))
 |d,.tuple xs=>ar (f (xs.any λy=>hI y d))
 |_,_=>none
def Lu(f:Bool->Bool):D->D->M D:=λa b S=>match hV S 60 a,hV S 60 b with
 |some p,ar q=>match Nw f p q with
  |some r=>ar (.ok (.bl r),S)
  |none=>none
 |_,_=>none
def inD:D->D->M D:=Lu id
section
variable {X:Cx}{E:XD}{a b e:Expr}{m n:TM}{pos:Pos}
def Jd(f:oo->oo->Bool):R2:=λx y H Q=>∃p q,(ReadsV H x p/\p.canLay0=b_/\p.depth<=60)/\(ReadsV H y q/\q.canLay0=b_/\q.depth<=60)/\Q (.bl (f p q)) H
def lY{p:oo}(h:p.canLay0=b_)(Z:p.depth<=60):SeqAt.shaped p=true:=by unfold SeqAt.shaped;rw[h,Ph];exact OS (by omega)
theorem Dh(L:X.A.units+64<y4):iy X (i_ .Eq) (Jd hI):=by intro pins s σ H x y v u Q I O W h;obtain⟨p,q,⟨Z,S,N⟩,⟨U,P,T⟩,h⟩:=h;obtain⟨as,Y⟩:=Z.heap I.hok O;obtain⟨bs,R⟩:=U.heap I.hok W;exact eq_dataH Y R (lY S N) (lY P T) L ⟨.bl _,H,I,rfl,h⟩
theorem Je(L:X.A.units+64<y4):iy X (i_ .NotEq) (Jd λp q=> !hI p q):=by intro pins s σ H x y v u Q I O W h;obtain⟨p,q,⟨Z,S,N⟩,⟨U,P,T⟩,h⟩:=h;obtain⟨as,Y⟩:=Z.heap I.hok O;obtain⟨bs,R⟩:=U.heap I.hok W;exact ne_dataH Y R (lY S N) (lY P T) L ⟨.bl _,H,I,rfl,h⟩
theorem vo:sR X.K E (Kx f) (Jd f):=by
 intro ι S H U Z v1 v2 Q rep Y W c;obtain⟨r,T,e,k⟩:=c;unfold Kx at e;split at e
 ·next p q hp hq=>
  cases e;exact⟨p,q,qA rep 60 U p v1 hp Y,qA rep 60 Z q v2 hq W,k ι H .refl rep _ (.bl _)⟩
 ·cases e
def rz(W:X.A.units+64<y4)(Z:SE X E a m)(Y:SE X E b n):SE X E (.Compare a [.Eq] [b] pos) (λρ=>do let x<-m ρ;let y<-n ρ;kR x y):=vj (Dh W) vo Z Y
def Di(W:X.A.units+64<y4)(Z:SE X E a m)(Y:SE X E b n):SB X E (.Compare a [.Eq] [b] pos) (λρ=>do let z<-(do let x<-m ρ;let y<-n ρ;kR x y);kh z):=oQ (Dh W) vo Z Y
def ir(W:X.A.units+64<y4)(Z:SE X E a m)(Y:SE X E b n):SB X E (.Compare a [.NotEq] [b] pos) (λρ=>do let z<-(do let x<-m ρ;let y<-n ρ;kd x y);kh z):=oQ (Je W) vo Z Y
def Lv(f:Bool->Bool):R2:=λx y H Q=>∃p q r,(ReadsV H x p/\p.canLay0=b_/\p.depth<=60)/\(ReadsV H y q/\q.canLay0=b_/\q.depth<=60)/\Nw f p q=ar r/\Q (.bl r) H
theorem FX:sR X.K E (Lu f) (Lv f):=by
 intro ι S H U Z v1 v2 Q rep Y W c;obtain⟨r,T,e,k⟩:=c;unfold Lu at e;split at e
 ·next p q hp hq=>
  split at e
  ·next r hr=>
   cases e;exact⟨p,q,r,qA rep 60 U p v1 hp Y,qA rep 60 Z q v2 hq W,hr,k ι H .refl rep _ (.bl _)⟩
  ·cases e
 ·cases e
def yK(h:(u3 xs).depth<=60):s_ xs<=60:=RG h
def wW(h:(SF xs).depth<=60):s_ xs<=60:=RG h
theorem Jf(K:X.A.units+64<y4):iy X (i_ .In) (Lv id):=by
 intro pins s σ H x y v u Q I N P h;obtain⟨p,q,r,⟨R,U,L⟩,⟨O,S,W⟩,Z,h⟩:=h;obtain⟨as,Y⟩:=R.heap I.hok N;obtain⟨bs,T⟩:=O.heap I.hok P;cases q with
 |list xs=>
  cases Z;exact SeqAt.in_list_reads T Y S U (by have:=yK W;have:min (s_ xs) p.depth<=60:=OR (Nat.min_le_left _ _) this;omega) ⟨.bl _,H,I,rfl,h⟩
 |tuple xs=>
  cases Z;exact SeqAt.in_tuple_reads T Y S U (by have:=wW W;have:min (s_ xs) p.depth<=60:=OR (Nat.min_le_left _ _) this;omega) ⟨.bl _,H,I,rfl,h⟩
 |_=>cases Z
def uf(U:X.A.units+64<y4)(Z:SE X E a m)(W:SE X E b n)(Y:nD .In b=false:=by rfl):SE X E (.Compare a [.In] [b] pos) (λρ=>do let x<-m ρ;let y<-n ρ;inD x y):=vj (Jf U) FX Z W Y
end
section
variable {X:Cx}{E:XD}{a b e c:Expr}{m n l:TM}{pos p2:Pos}{es:List Expr}{ms:aO->M (List D)}
def Ky(f:Bool->Bool):D->D->M D
 | .bl i,.bl j=>aC (.bl (f (i==j)))
 |d,.non=>match d with
  | .non=>aC (.bl (f b_))
  |_=>aC (.bl (f c_))
 |_,_=>M.fail
def Lw:iy X (i_ .Is) (λx y H Q=>∃i j,x= .bl i/\y= .bl j/\Q (.bl (i==j)) H):=by intro pins s σ H x y v u Q I Y Z h;obtain⟨i,j,rfl,rfl,q⟩:=h;cases Y;cases Z;exact is_bool ⟨.bl _,H,I,rfl,q⟩
theorem Dj:iy X (i_ .IsNot) (λx y H Q=>∃i j,x= .bl i/\y= .bl j/\Q (.bl (!(i==j))) H):=by intro pins s σ H x y v u Q I Y Z h;obtain⟨i,j,rfl,rfl,q⟩:=h;cases Y;cases Z;exact isnot_bool ⟨.bl _,H,I,rfl,q⟩
theorem Dk{f:Bool->Bool}:sR X.K E (Ky f) (λx y H Q=>(∃i j,x= .bl i/\y= .bl j/\Q (.bl (f (i==j))) H)\/(y= .non/\Q (.bl (f (decide (x= .non)))) H)):=by
 intro ι S H Y U v1 v2 Q rep Z W c;cases U with
 |non=>
  refine .inr ⟨W.non_inv,?_⟩;cases Y with
  |non=>rw[Z.non_inv];exact ao c .refl rep _ (.bl _)
  |bl i=>rw[Z.bl_inv];exact ao c .refl rep _ (.bl _)
  |int i=>rw[Z.int_inv];exact ao c .refl rep _ (.bl _)
  |str i=>rw[Z.str_inv];exact ao c .refl rep _ (.bl _)
  |tup ds=>obtain⟨p,vs,rfl,_,_⟩:=Z.tup_inv;exact ao c .refl rep _ (.bl _)
  |lst k=>obtain⟨p,rfl,_⟩:=Z.lst_inv;exact ao c .refl rep _ (.bl _)
  |ro ds=>obtain⟨p,vs,rfl,_,_⟩:=Z.ro_inv;exact ao c .refl rep _ (.bl _)
  |fz ds=>obtain⟨p,_,vs,rfl,_,_⟩:=Z.fz_inv;exact ao c .refl rep _ (.bl _)
  |emp=>cases Z;exact ao c .refl rep _ (.bl _)
  |fn a c q ds vs=>cases Z;exact ao c .refl rep _ (.bl _)
  |exc x ds=>cases Z<;>exact ao c .refl rep _ (.bl _)
 |bl j=>
  cases Y with
  |bl i=>exact .inl ⟨i,j,Z.bl_inv,W.bl_inv,ao c .refl rep _ (.bl _)⟩
  |_=>exact(ah c).elim
 |_=>cases Y<;>exact(ah c).elim
def Lx(Z:SE X E a m)(Y:SE X E b n):SE X E (.Compare a [.Is] [b] pos) (λρ=>do let x<-m ρ;let y<-n ρ;Ky id x y):=vj (Lw.or IM) (Dk (f:=id)) Z Y
def Dl(Z:SE X E a m)(Y:SE X E b n):SB X E (.Compare a [.IsNot] [b] pos) (λρ=>do let z<-(do let x<-m ρ;let y<-n ρ;Ky (!·) x y);kh z):=oQ (Dj.or FE) (Dk (f:=(!·))) Z Y
def N4:D->M Int
 | .int i=>aC i
 |_=>M.fail
def Ov(K:dV)(E:XD)(m:aO->M (Option Int)):TO:=λσ H Q=>∃ ι S ρ,Rep K ι H S/\RelE K ι H ρ σ/\cont K E (m ρ) ι S H (λo _ _ H'=>Q o H')
def SO(X:Cx)(E:XD)(o:Option Expr)(m:aO->M (Option Int)):Prop:=PO X o (Ov X.K E m)
def PO.imp{X:Cx}{e:Option Expr}{t t':TO}(h:PO X e t)(k:∀ σ H Q,t' σ H Q->t σ H Q):PO X e t':=λpins s σ H Q I hw=>h pins s σ H Q I (k σ H Q hw)
def jm:SO X E none (λ_=>aC none):=by refine PO.imp FK λσ H Q h=>?_;obtain⟨ι,S,ρ,rep,re,c⟩:=h;exact ao c .refl rep
theorem jo(h:SE X E e m):SO X E (ar e) (λρ=>do let x<-m ρ;let i<-N4 x;aC (ar i)):=by
 refine PO.imp (FL h) λσ H Q h=>?_;obtain⟨ι,S,ρ,rep,re,c⟩:=h;refine⟨ι,S,ρ,rep,re,av (ak c) λx Z S1 Y e1 rep1 c1 v r=>?_⟩;cases x with
 |int i=>exact⟨i,r.int_inv,ao (ao (ak c1) .refl rep1) .refl rep1⟩
 |_=>exact(ah (ak c1)).elim
def cutD(xs:List D)(lo hi:Option Int):List D:=(xs.drop (HT.sIx xs.length 0 lo)).take (HT.sIx xs.length xs.length hi - HT.sIx xs.length 0 lo)
def qB{K:dV}{ι:List dt}{H:Hp}{ds:List D}{vs:List V}(Y Z:Option Int)(h:RelDs K ι H ds vs):RelDs K ι H (cutD ds Y Z) (sW vs Y Z):=by unfold cutD sW;rw[h.length];exact(h.drop _).take _
def oR:D->Option Int->Option Int->M D
 | .tup xs,lo,hi=>bj (cutD xs lo hi)
 | .lst k,lo,hi=>do let xs<-getL k;bB (cutD xs lo hi)
 | .fz xs,lo,hi=>bB (cutD xs lo hi)
 |_,_,_=>M.fail
theorem FY:HD X (λx lo T H Q=>∃a xs,x= .ref a/\k9 X.K H a xs/\(HT.sIx xs.length 0 lo=0/\HT.sIx xs.length xs.length T=xs.length)/\Q (.ref a) H):=by
 intro pins s σ H x v L G lo T O Q I S hs P pu h;obtain⟨a,xs,rfl,N,hw,q⟩:=h;cases S;obtain⟨its,r,Z,J⟩:=I.tuple N;have hlen:its.toArray.size=xs.length:=by rw[OL];exact r.length.symm
 refine⟨"tuple",_,PyProof.Rows.slot_tuple_getitem.lookup,Z.typeIs,?_⟩;have fin:EP X pins σ Q (.ref a) s:=⟨.ref a,H,I,rfl,q⟩;obtain⟨os,W,U,R⟩:=id hs;have Y:s.TypeIs (.ref O) "slice":=⟨os,W,U⟩;unfold T7
 try with_reducible refine Pl ?_
 first|refine OB (OE ?_)|skip
 refine OB (wpAny_sequenceKey Z.typeIs (by decide) ?_);refine OB (wpAny_callSpecial?_slot (name:=kr "__getitem__") Z.typeIs P4
  (PF P4 Z.typeIs entry_tuple_getitem ?_ (args_tuple_getitem _ _)))
 show eb _ _ (Builtin.Tuple.tupleItemsOf (.ref a)>>=_) _ _ s;refine OB (tupleItemsOf_ Z (OB (Rh Y ?_)));rw[if_pos (by decide)];refine OB (HT.sliceApplied_gen hs P pu ?_);rw[hlen,hw.1,hw.2];show eb _ _ (if ((((0:Nat):Int))==0 && (1:Int)==1 && (xs.length - 0)==xs.length)=b_ then _ else _) _ _ s;rw[if_pos (by simp)];unfold Builtin.Tuple.tupleIsExact;refine OB (OB (Rh Z.typeIs (OE ?_)));rw[if_pos (by decide)];first
  |exact OB (Re (OE ⟨_,rfl,OE fin⟩))
  |exact OB (Re (OB (OE (OE ⟨_,rfl,OE fin⟩))))
def yL{xs:List V}{Z Y:Option Int}(h:HT.sIx xs.length 0 Z=0/\HT.sIx xs.length xs.length Y=xs.length):sW xs Z Y=xs:=by unfold sW;rw[h.1,h.2,Tr,Nat.sub_zero,List.take_length]
theorem gR{N L:Option Expr}{ml O:aO->M (Option Int)}(K:SE X E e m)(B:SO X E N ml)(F:SO X E L O):
  SE X E (.Subscript e (.Slice N L none p2) pos) (λρ=>do let x<-m ρ;let i<-ml ρ;let j<-O ρ;oR x i j):=by
 refine PE.imp (CO (IS.or (FY.or FO)) K B F) λσ H Q h=>?_;obtain⟨ι,S,ρ,rep,re,c⟩:=h;refine⟨ι,S,ρ,rep,re,av (ak c) λx W S1 y e1 rep1 c1 v r=>?_⟩;refine⟨W,S1,ρ,rep1,re.later rep e1,av (ak c1) λi U S2 w e2 rep2 J=>?_⟩;refine⟨U,S2,ρ,rep2,(re.later rep e1).later rep1 e2,av (ak J) λj C A z e3 rep3 Y=>?_⟩;have R:=(r.later rep1 e2).later rep2 e3;cases x with
 | tup ds=>
  obtain⟨p,vs,rfl,Z,P⟩:=R.tup_inv;by_cases hw:HT.sIx vs.length 0 i=0/\HT.sIx vs.length vs.length j=vs.length
  ·refine .inr (.inl ⟨p,vs,rfl,.of Z,hw,ki Y rep3 Z ?_⟩);have:=qB i j P;rw[yL hw]at this;exact this
  ·exact .inl ⟨p,vs,rfl,.of Z,hw,(iQ Y rep3 (qB i j P)).2⟩
 |lst k=>
  obtain⟨p,rfl,Z⟩:=R.lst_inv;obtain⟨ds,vs,_,I,T,G⟩:=bz Y rep3 Z;exact .inr (.inr ⟨p,vs,rfl,.of I,(bq G rep3 (qB i j T)).2⟩)
 |fz ds=>
  obtain⟨p,o,vs,rfl,Z,T⟩:=R.fz_inv;exact .inr (.inr ⟨p,vs,rfl,.inl (.inr ⟨o,Z⟩),(bq Y rep3 (qB i j T)).2⟩)
 |_=>exact(ah Y).elim
end
section
variable {X:Cx}{E:XD}{a b e c o:Expr}{m n l:TM}{pos p2:Pos}{es:List Expr}{ms:aO->M (List D)}
def ef:List D->M D
 |[.lst k]=>do let xs<-getL k;aC (.int xs.length)
 |[.tup ds]=>aC (.int ds.length)
 |[.ro ds]=>aC (.int ds.length)
 |[.fz ds]=>aC (.int ds.length)
 |_=>M.fail
theorem Bm:lp X.K E ef (λxs H Q=>∃p ys,xs=[.ref p]/\(kN X.K H p ys\/k9 X.K H p ys)/\Q (.int ys.length) H):=by
 intro ι S H ds vs Q rep r c
 match ds,r,c with
 |[.lst k],r,c=>
  obtain⟨v,ws,rfl,Y,W⟩:=r.cons_inv;cases W.nil_inv;obtain⟨p,rfl,Z⟩:=Y.lst_inv;obtain⟨es,us,_,T,U,R⟩:=bz c rep Z;refine⟨p,us,rfl,.inl (.of T),?_⟩;have:=ao R .refl rep _ (.int _);rw[U.length]at this;exact this
 |[.tup es],r,c=>
  obtain⟨v,ws,rfl,Y,W⟩:=r.cons_inv;cases W.nil_inv;obtain⟨p,us,rfl,Z,U⟩:=Y.tup_inv;refine⟨p,us,rfl,.inr (.of Z),?_⟩;have:=ao c .refl rep _ (.int _);rw[U.length]at this;exact this
 |[.ro es],r,c=>
  obtain⟨v,ws,rfl,Y,W⟩:=r.cons_inv;cases W.nil_inv;obtain⟨p,us,rfl,Z,U⟩:=Y.ro_inv;refine⟨p,us,rfl,.inl Z.sq,?_⟩;have:=ao c .refl rep _ (.int _);rw[U.length]at this;exact this
 |[.fz es],r,c=>
  obtain⟨v,ws,rfl,Y,W⟩:=r.cons_inv;cases W.nil_inv;obtain⟨p,o,us,rfl,Z,U⟩:=Y.fz_inv;refine⟨p,us,rfl,.inl (.inl (.inr ⟨o,Z⟩)),?_⟩;have:=ao c .refl rep _ (.int _);rw[U.length]at this;exact this
 |[],r,c=>exact(ah c).elim
 |[.non],r,c=>exact(ah c).elim
 |[.bl _],r,c=>exact(ah c).elim
 |[.int _],r,c=>exact(ah c).elim
 |[.str _],r,c=>exact(ah c).elim
 |[.emp],r,c=>exact(ah c).elim
 |d::d2::r',r,c=>cases d<;>exact(ah c).elim
theorem eB(Y:X.mg "len"=none)(Z:SE X E e m)(W:Gl X "len":=by rfl)(hs:d_ [e] X.env=[(c_,hY e X.env)]:=by rfl):SE X E (.Call (.Name "len" p) [e] [] pos) (λρ=>do let ds<-(do let x<-m ρ;let xs<-aC [];aC (x::xs));ef ds):=
 iR uX Bm W Y PySem.boot_len (ae Z ag hs) (by decide) (by decide) hs rfl
def Ab(f:Int->Int->Int):List D->M D
 |[.int i,.int j]=>aC (.int (f i j))
 |_=>M.fail
theorem rA{f:Int->Int->Int}:lp X.K E (Ab f) (λxs H Q=>∃i j,xs=[.int i,.int j]/\Q (.int (f i j)) H):=by
 intro ι S H ds vs Q rep r c;unfold Ab at c;split at c
 ·next i j=>
  obtain⟨v,ws,rfl,Z,Y⟩:=r.cons_inv;obtain⟨R,W,rfl,U,T⟩:=Y.cons_inv;cases T.nil_inv;rw[Z.int_inv,U.int_inv];exact⟨i,j,rfl,ao c .refl rep _ (.int _)⟩
 ·exact(ah c).elim
def maxD:List D->M D:=Ab λi j=>if j>i then j else i
def minD:List D->M D:=Ab λi j=>if j<i then j else i
theorem oU(T:X.calm=b_)(W:X.mg "max"=none)(Y:SA X E [a,b] ms)(U:Gl X "max":=by rfl)(hs:d_ [a,b] X.env=[(c_,hY a X.env),(c_,hY b X.env)]:=by rfl)(Z:d_ [b] X.env=[(c_,hY b X.env)]:=by rfl):
  SE X E (.Call (.Name "max" p) [a,b] [] pos) (λρ=>do let ds<-ms ρ;maxD ds):=
 iR (Ba T) rA U W (by decide+kernel) Y (by decide) (by decide) (by rw[hs,Z]) (by rw[Z];rfl)
theorem rB(T:X.calm=b_)(W:X.mg "min"=none)(Y:SA X E [a,b] ms)(U:Gl X "min":=by rfl)(hs:d_ [a,b] X.env=[(c_,hY a X.env),(c_,hY b X.env)]:=by rfl)(Z:d_ [b] X.env=[(c_,hY b X.env)]:=by rfl):
  SE X E (.Call (.Name "min" p) [a,b] [] pos) (λρ=>do let ds<-ms ρ;minD ds):=
 iR (Bb T) rA U W (by decide+kernel) Y (by decide) (by decide) (by rw[hs,Z]) (by rw[Z];rfl)
def iU:List D->M D
 |[.lst k]=>do let xs<-getL k;bB xs
 |[.tup ds]=>bB ds
 |[.ro ds]=>bB ds
 |[.fz ds]=>bB ds
 |_=>M.fail
def b7:List D->M D
 |[.lst k]=>do let xs<-getL k;bj xs
 |[.tup ds]=>bj ds
 |[.fz ds]=>bj ds
 |_=>M.fail
theorem yM:lp X.K E iU (λxs H Q=>∃p ys,xs=[.ref p]/\(kN X.K H p ys\/k9 X.K H p ys)/\∀l,H l=none->Q (.ref l) (upd H l (.lst ys))):=by
 intro ι S H ds vs Q rep r c;unfold iU at c;split at c
 ·next k=>
  obtain⟨v,ws,rfl,Y,W⟩:=r.cons_inv;cases W.nil_inv;obtain⟨p,rfl,Z⟩:=Y.lst_inv;obtain⟨es,us,_,T,U,R⟩:=bz c rep Z;exact⟨p,us,rfl,.inl (.of T),(bq R rep U).2⟩
 ·next es=>
  obtain⟨v,ws,rfl,Y,W⟩:=r.cons_inv;cases W.nil_inv;obtain⟨p,us,rfl,Z,U⟩:=Y.tup_inv;exact⟨p,us,rfl,.inr (.of Z),(bq c rep U).2⟩
 ·next es=>
  obtain⟨v,ws,rfl,Y,W⟩:=r.cons_inv;cases W.nil_inv;obtain⟨p,us,rfl,Z,U⟩:=Y.ro_inv;exact⟨p,us,rfl,.inl Z.sq,(bq c rep U).2⟩
 ·next es=>
  obtain⟨v,ws,rfl,Y,W⟩:=r.cons_inv;cases W.nil_inv;obtain⟨p,o,us,rfl,Z,U⟩:=Y.fz_inv;exact⟨p,us,rfl,.inl (.inl (.inr ⟨o,Z⟩)),(bq c rep U).2⟩
 ·exact(ah c).elim
theorem wX:lp X.K E b7 (λxs H Q=>∃p ys,xs=[.ref p]/\((kN X.K H p ys/\∀l,H l=none->Q (.ref l) (upd H l (.tup ys)))\/(k9 X.K H p ys/\Q (.ref p) H))):=by
 intro ι S H ds vs Q rep r c;unfold b7 at c;split at c
 ·next k=>
  obtain⟨v,ws,rfl,Y,W⟩:=r.cons_inv;cases W.nil_inv;obtain⟨p,rfl,Z⟩:=Y.lst_inv;obtain⟨es,us,_,T,U,R⟩:=bz c rep Z;exact⟨p,us,rfl,.inl ⟨.of T,(iQ R rep U).2⟩⟩
 ·next es=>
  obtain⟨v,ws,rfl,Y,W⟩:=r.cons_inv;cases W.nil_inv;obtain⟨p,us,rfl,Z,U⟩:=Y.tup_inv;exact⟨p,us,rfl,.inr ⟨.of Z,ki c rep Z U⟩⟩
 ·next es=>
  obtain⟨v,ws,rfl,Y,W⟩:=r.cons_inv;cases W.nil_inv;obtain⟨p,o,us,rfl,Z,U⟩:=Y.fz_inv;exact⟨p,us,rfl,.inl ⟨.inl (.inr ⟨o,Z⟩),(iQ c rep U).2⟩⟩
 ·exact(ah c).elim
theorem nL(Y:X.mg "list"=none)(Z:SE X E e m)(W:Gl X "list":=by rfl)(hs:d_ [e] X.env=[(c_,hY e X.env)]:=by rfl):SE X E (.Call (.Name "list" p) [e] [] pos) (λρ=>do let ds<-(do let x<-m ρ;let xs<-aC [];aC (x::xs));iU ds):=
 ue uY yM W Y (by decide+kernel) (ae Z ag hs) (by decide) (by decide) hs rfl
theorem d5(Y:X.mg "tuple"=none)(Z:SE X E e m)(W:Gl X "tuple":=by rfl)(hs:d_ [e] X.env=[(c_,hY e X.env)]:=by rfl):SE X E (.Call (.Name "tuple" p) [e] [] pos) (λρ=>do let ds<-(do let x<-m ρ;let xs<-aC [];aC (x::xs));b7 ds):=
 ue sY wX W Y (by decide+kernel) (ae Z ag hs) (by decide) (by decide) hs rfl
def FZ(H:Hp):V->Option String
 | .non=>ar "NoneType"
 | .bl _=>ar "bool"
 | .int _=>ar "int"
 | .str _=>ar "str"
 | .ref a=>match H a with
  |some (.lst _)=>ar "list"
  |some (.frz _ (.lst _))=>ar "list"
  |some (.tup _)=>ar "tuple"
  |some (.dK _)=>ar "dict"
  |_=>none
 |_=>none
theorem Dm{K:dV}{H:Hp}{v:V}{T:String}(h:FZ H v=ar T):TyOf K H v (.type T):=by
 cases v with
 |non=>cases h;exact .non
 |bl b=>cases h;exact .bl b
 |int i=>cases h;exact .int i
 |str x=>cases h;exact .str x
 |ref a=>
  simp only[FZ]at h;split at h
  ·next q=>cases h;exact .lst q
  ·next q=>cases h;exact .frz q
  ·next q=>cases h;exact .tup q
  ·next q=>cases h;exact .dK q
  ·cases h
 |_=>cases h
def Dn:D->String
 | .non=>"NoneType"
 | .bl _=>"bool"
 | .int _=>"int"
 | .str _=>"str"
 | .tup _=>"tuple"
 | .lst _=>"list"
 | .ro _=>"list"
 | .fz _=>"list"
 | .emp=>"dict"
 | .fn _ _ _ _ _=>"NoneType"
 | .exc _ _=>"NoneType"
def tu:D->Bool
 | .ro _=>c_
 | .fn _ _ _ _ _=>c_
 | .exc _ _=>c_
 |_=>b_
theorem Do{K:dV}{ι:List dt}{S:aE}{H:Hp}{d:D}{v:V}(Y:Rep K ι H S)(r:RelD K ι H d v)(Z:tu d=b_):FZ H v=ar (Dn d):=by
 cases r with
 |non=>rfl
 |bl=>rfl
 |int=>rfl
 |str=>rfl
 |tup h _=>simp[FZ,h,Dn]
 |lst h=>
  obtain⟨vs,e⟩:=Y.isL (Pa h);simp[FZ,e,Dn]
 |ro h _=>cases Z
 |fz h _=>simp[FZ,h,Dn]
 |emp h=>simp[FZ,h,Dn]
 |fn=>cases Z
 |exc=>cases Z
 |excF=>cases Z
def wY(f:String->Bool):D->M D
 | .ro _=>M.fail
 | .fn _ _ _ _ _=>M.fail
 | .exc _ _=>M.fail
 |d=>aC (.bl (f (Dn d)))
theorem wZ{K:dV}{E:XD}{ι:List dt}{S:aE}{H:Hp}{f:String->Bool}{d:D}{Q:D->List dt->aE->Hp->Prop}(c:cont K E (wY f d) ι S H Q):tu d=b_/\cont K E (aC (.bl (f (Dn d)))) ι S H Q:=by
 cases d with
 |ro ds=>exact(ah c).elim
 |fn a c' q ds vs=>exact(ah c).elim
 |exc x ds=>exact(ah c).elim
 |_=>exact⟨rfl,c⟩
def ku(t T:String):Bool:=t==T||(t=="bool" && T=="int")
theorem vp(K:dV)(t:String)(Z:t∈["NoneType","bool","int","str","tuple","list","dict"])(T:String)(Y:T∈["bool","int","str","tuple","list"]):qt K (.type t) (.type T)=ar (ku t T):=by simp only[gc,f_,or_false]at Z Y;rcases Z with rfl|rfl|rfl|rfl|rfl|rfl|rfl<;>rcases Y with rfl|rfl|rfl|rfl|rfl<;>rfl
def Ac(d:D):Dn d∈["NoneType","bool","int","str","tuple","list","dict"]:=by cases d<;>simp[Dn]
theorem Dp:dm X (.builtin "isinstance") (λxs H Q=>∃x t T,xs=[x,.ty T]/\FZ H x=ar t/\t∈["NoneType","bool","int","str","tuple","list","dict"]/\T∈["bool","int","str","tuple","list"]/\Q (.bl (ku t T)) H):=by intro pins s σ H xs us Q I r h;obtain⟨x,t,T,rfl,Y,R,W,q⟩:=h;obtain⟨u,U,rfl,S,Z⟩:=vals2 r;cases (show U=v_ T from Z);exact Be I S (Dm Y) (vp X.K t R T W) λP=>⟨.bl _,H,I.tok P,rfl,q⟩
theorem dZ{p q:Pos}{T:Str}{Ts:String}(J:X.mg "isinstance"=none)(R:X.mg T=none)(N:SE X E e m)(O:k_ T=ar (.type Ts):=by decide+kernel)(U:Ts∈["bool","int","str","tuple","list"]:=by decide)(L:Gl X "isinstance":=by rfl)(W:Gl X T:=by rfl)
  (P:T≠"__name__":=by decide) (Y:(T==("__debug__":Str))=false:=by decide)
  (hs:d_ [e,.Name T q] X.env=[(c_,hY e X.env),(c_,hY (.Name T q) X.env)]:=by rfl) (Z:d_ [.Name T q] X.env=[(c_,hY (.Name T q) X.env)]:=by rfl):
  SE X E (.Call (.Name "isinstance" p) [e,.Name T q] [] pos) (λρ=>do let x<-m ρ;wY (λt=>ku t Ts) x):=by
 refine PE.imp (jQ Dp L J (by decide+kernel) (eP N (eP (qy W R O (v:=.ty Ts) rfl P Y) ke Z) (by rw[hs,Z])) (by decide) (by decide) (by rw[hs,Z]) (by rw[Z];rfl)) λσ H Q h=>?_;obtain⟨ι,S,ρ,rep,re,c⟩:=h;refine⟨ι,S,ρ,rep,re,av (ak c) λx K S1 I e1 rep1 c1 v r=>?_⟩;obtain⟨Y,c1⟩:=wZ c1;exact⟨v,Dn x,Ts,rfl,Do rep1 r Y,Ac x,U,ao c1 .refl rep1 _ (.bl _)⟩
theorem Bo:dm X (.builtin "isinstance") (λxs H Q=>∃x t p T U,xs=[x,.ref p]/\H p=ar (.tup [.ty T,.ty U])/\FZ H x=ar t/\t∈["NoneType","bool","int","str","tuple","list","dict"]/\T∈["bool","int","str","tuple","list"]/\U∈["bool","int","str","tuple","list"]/\
  Q (.bl (ku t T||ku t U)) H):=by
 intro pins s σ H xs us Q I r h;obtain⟨x,t,p,T,U,rfl,B,Z,R,L,G,q⟩:=h;obtain⟨u,J,rfl,Y,P⟩:=vals2 r;cases (show J=er p from P);obtain⟨_,its,A,⟨cls,dd,data,j⟩,S,N,n,hd⟩:=(show bC X.prog X.w H s.heap p (.tup [.ty T,.ty U])from I.hok p _ B);simp only at N hd;subst N hd;obtain⟨C,v,rfl,F,k⟩:=vals2 A;cases (show C=v_ T from F);cases (show v=v_ U from k);have e:UD X.K (.type t) [.type T,.type U]=ar (ku t T||ku t U):=by unfold UD UD UD;rw[vp X.K t R T L,vp X.K t R U G];cases ku t T<;>cases ku t U<;>rfl
 have fin:∀O,EP X pins σ Q (.bool (ku t T||ku t U)) {s with toks:=O}:=λO=>⟨.bl _,H,I.tok O,rfl,q⟩;have ty:=Dm (K:=X.K) Z;generalize hT:v_ t=tv at ty e;cases ty with
 |non=>cases (show u=h_ from Y);exact P0 Sg I.kIn pd S e (λz=>nomatch z) fin
 |bl y=>cases (show u=q_ y from Y);exact P0 W.kitx_bool I.kIn pd S e (λz=>nomatch z) fin
 |int i=>obtain⟨t,q⟩:=(show ∃t,u=o_ i t from Y);cases q;exact P0 W.kitx_int I.kIn pd S e (λz=>nomatch z) fin
 |str y=>obtain⟨t,q⟩:=(show ∃t,u=O' y t from Y);cases q;exact P0 W.kitx_str I.kIn pd S e (λz=>nomatch z) fin
 |flt y=>obtain⟨t,q⟩:=(show ∃t,u=Tn y t from Y);cases q;exact P0 W.kitx_float I.kIn pd S e (λz=>nomatch z) fin
 | @lst a xs ea=>
  cases (show u=er a from Y);obtain⟨_,_,n,_,Z⟩:=(show bC X.prog X.w H s.heap a (.lst xs)from I.hok a _ ea);exact P0 RD I.kIn ⟨_,Z,rfl⟩ S e (λz=>nomatch z) fin
 | @frz a ob xs ea=>
  cases (show u=er a from Y);obtain⟨_,_,_,n,_,Z⟩:=(show bC X.prog X.w H s.heap a (.frz ob (.lst xs))from I.hok a _ ea);exact P0 RD I.kIn ⟨_,Z,rfl⟩ S e (λz=>nomatch z) fin
 | @tup a xs ea=>
  cases (show u=er a from Y);obtain⟨_,_,_,o,Z,R,_⟩:=(show bC X.prog X.w H s.heap a (.tup xs)from I.hok a _ ea);exact P0 W.kitx_tuple I.kIn ⟨o,Z,R⟩ S e (λz=>nomatch z) fin
 | @dK a kvs ea=>
  cases (show u=er a from Y);obtain⟨_,_,vs,_,o,es,ep,Z,R,_⟩:=(show bC X.prog X.w H s.heap a (.dK kvs)from I.hok a _ ea);exact P0 RE I.kIn ⟨o,Z,R.1⟩ S e (λz=>nomatch z) fin
 | @dT a kvs ea=>
  cases (show u=er a from Y);obtain⟨_,_,xs,_,o,es,ep,Z,R,_⟩:=(show bC X.prog X.w H s.heap a (.dT kvs)from I.hok a _ ea);exact P0 RE I.kIn ⟨o,Z,R.1⟩ S e (λz=>nomatch z) fin
 |ins=>cases hT
theorem F4{p q R W:Pos}{x1}{T U:Str}{Ts Us:String}(w:X.mg "isinstance"=none)(J:X.mg T=none)(K:X.mg U=none)(y:SE X E e m)(u:k_ T=ar (.type Ts):=by decide+kernel)(F:k_ U=ar (.type Us):=by decide+kernel)
  (P:Ts∈["bool","int","str","tuple","list"]:=by decide) (L:Us∈["bool","int","str","tuple","list"]:=by decide) (s:Gl X "isinstance":=by rfl) (G:Gl X T:=by rfl) (O:Gl X U:=by rfl)
  (z:T≠"__name__":=by decide) (I:(T==("__debug__":Str))=false:=by decide) (N:U≠"__name__":=by decide) (C:(U==("__debug__":Str))=false:=by decide)
  (hs:d_ [e,.Tuple [.Name T q,.Name U R] x1 W] X.env=[(c_,hY e X.env),(c_,hY (.Tuple [.Name T q,.Name U R] x1 W) X.env)]:=by rfl) (Z:d_ [.Tuple [.Name T q,.Name U R] x1 W] X.env=[(c_,hY (.Tuple [.Name T q,.Name U R] x1 W) X.env)]:=by rfl):
  SE X E (.Call (.Name "isinstance" p) [e,.Tuple [.Name T q,.Name U R] x1 W] [] pos) (λρ=>do let x<-m ρ;wY (λt=>ku t Ts||ku t Us) x):=by
 refine PE.imp (jQ Bo s w (by decide+kernel) (eP y (eP (CJ (eP (qy G J u (v:=.ty Ts) rfl z I) (eP (qy O K F (v:=.ty Us) rfl N C) ke rfl) rfl)) ke Z) (by rw[hs,Z])) (by decide) (by decide) (by rw[hs,Z]) (by rw[Z];rfl)) λσ H Q h=>?_;obtain⟨ι,S,ρ,rep,re,c⟩:=h;refine⟨ι,S,ρ,rep,re,av (ak c) λx Y S1 A e1 rep1 c1 v r=>?_⟩;obtain⟨I,c1⟩:=wZ c1;refine⟨by show 2<=sizeLine;decide,λp B=>?_⟩;have rep2:=gF (o:=.tup [.ty Ts,.ty Us]) rep1 B;have e2:Ext Y A Y (upd A p (.tup [.ty Ts,.ty Us])):=fx B;exact⟨v,Dn x,p,Ts,Us,rfl,aX,Do rep2 (r.later rep1 e2) I,Ac x,P,L,ao c1 e2 rep2 _ (.bl _)⟩
end
section
variable {X:Cx}{E:XD}{a b e c o tg:Expr}{m n l:TM}{pos p2:Pos}{es:List Expr}{ms:aO->M (List D)}
theorem range_all{bs:List Bool}:(ee bs.length).all (λi=>bs.getD i c_)=bs.all id:=by
 induction bs with
 |nil=>rfl
 |cons b bs ih=>
  rw[O9,RB,Rr,Rj];simp only[List.getD_cons_zero,TK,id];congr 1
theorem Bp(G:X.calm=b_):dm X (.builtin "all") (λxs H Q=>∃(p:dt) (bs:List Bool),xs=[.ref p]/\kN X.K H p (bs.map V.bl)/\Q (.bl (bs.all id)) H):=by
 intro pins s σ H xs us Q I r h;obtain⟨p,bs,rfl,F,q⟩:=h;obtain⟨u,rfl,N⟩:=vals1 r;cases (show u=er p from N);obtain⟨its,S,J,B⟩:=I.list F;have T:=J.isList;refine call_all_walk (RC T ?_);have W:p<s.heap.objs.size:=by obtain⟨o,C,_⟩:=T;exact OJ C
 have hlen:=S.length;refine⟨s.heap.objs.size,_,_,_,_,_,λi=>bs.getD i c_,rfl,UE (A:=X.A.in1) (by show X.A.handled=none;exact I.ok.hd G) s.heap.objs.size p (OQ W) its.toArray,⟨⟨_,OK _ rfl,rfl,rfl⟩,T.push _⟩,?_,λh' y L=>?_⟩
 ·intro i v s' z w P U;have Y:its[i]? =ar v:=by simpa using P
  have x:i<its.length:=(OI.mp Y).1;have Z:i<bs.length:=by rw[OC]at hlen;omega
  have:(bs.map V.bl)[i]? =ar (.bl bs[i]):=by rw[O1,OH Z];rfl
  obtain⟨u,R,O⟩:=S.get this;rw[Y]at R;cases R;cases (show v=q_ bs[i]from O);have:bs.getD i c_=bs[i]:=by simp[List.getD,Z]
  dsimp only at U;rw[this]at U;exact Pw U
 ·have e1:its.toArray.size=bs.length:=by rw[OL, <-hlen,OC]
  rw[e1,range_all];refine⟨.bl _,H,I.kept (λb o e=>L b o ?_ (OD _ e)),rfl,q⟩;have:b≠s.heap.objs.size:=OQ (OJ e);simpa using this
def boolsOf:List D->Option (List Bool)
 |[]=>ar []
 | .bl i::r=>(boolsOf r).map (i::·)
 |_=>none
theorem gS{K:dV}{ι:List dt}{H:Hp}:∀{ds:List D} {vs:List V} {ns:List Bool},RelDs K ι H ds vs->boolsOf ds=ar ns->vs=ns.map V.bl
 |[],vs,ns,h,e=>by cases e;rw[h.nil_inv];rfl
 | .bl i::ds,vs,ns,h,e=>by
  obtain⟨v,ws,rfl,Z,Y⟩:=h.cons_inv;cases q:boolsOf ds with
  |none=>simp[boolsOf,q]at e
  |some ks=>
   simp[boolsOf,q]at e;subst e;rw[Z.bl_inv,gS Y q];rfl
 | .non::_,_,_,_,e=>by cases e
 | .int _::_,_,_,_,e=>by cases e
 | .str _::_,_,_,_,e=>by cases e
 | .tup _::_,_,_,_,e=>by cases e
 | .lst _::_,_,_,_,e=>by cases e
 | .ro _::_,_,_,_,e=>by cases e
 | .fz _::_,_,_,_,e=>by cases e
 | .emp::_,_,_,_,e=>by cases e
def rC:List D->M D
 |[.lst k]=>do
  let xs<-getL k
  match boolsOf xs with
  |some bs=>aC (.bl (bs.all id))
  |none=>M.fail
 |[.fz xs]=>match boolsOf xs with
  |some bs=>aC (.bl (bs.all id))
  |none=>M.fail
 |_=>M.fail
theorem Bq:lp X.K E rC (λxs H Q=>∃(p:dt) (bs:List Bool),xs=[.ref p]/\kN X.K H p (bs.map V.bl)/\Q (.bl (bs.all id)) H):=by
 intro ι S H ds vs Q rep r c;unfold rC at c;split at c
 ·next k=>
  obtain⟨v,ws,rfl,W,U⟩:=r.cons_inv;cases U.nil_inv;obtain⟨p,rfl,Y⟩:=W.lst_inv;obtain⟨es,us,_,R,T,Z⟩:=bz c rep Y;cases q:boolsOf es with
  |none=>rw[q]at Z;exact(ah Z).elim
  |some bs=>
   rw[q]at Z;refine⟨p,bs,rfl,.of ?_,ao Z .refl rep _ (.bl _)⟩;rw[<-gS T q];exact R
 ·next es=>
  obtain⟨v,ws,rfl,W,U⟩:=r.cons_inv;cases U.nil_inv;obtain⟨p,o,us,rfl,Y,T⟩:=W.fz_inv;cases q:boolsOf es with
  |none=>rw[q]at c;exact(ah c).elim
  |some bs=>
   rw[q]at c;refine⟨p,bs,rfl,.inl (.inr ⟨o,?_⟩),ao c .refl rep _ (.bl _)⟩;rw[<-gS T q];exact Y
 ·exact(ah c).elim
theorem rD(U:X.calm=b_)(Y:X.mg "all"=none)(Z:SE X E e m)(W:Gl X "all":=by rfl)(hs:d_ [e] X.env=[(c_,hY e X.env)]:=by rfl):SE X E (.Call (.Name "all" p) [e] [] pos) (λρ=>do let ds<-(do let x<-m ρ;let xs<-aC [];aC (x::xs));rC ds):=
 iR (Bp U) Bq W Y (by decide+kernel) (ae Z ag hs) (by decide) (by decide) hs rfl
def cU:D->List D->M D
 | .lst k,[d]=>do let xs<-getL k;kQ k (xs++[d])
 |_,_=>M.fail
def ky:D->List D->M D
 | .lst k,[.lst j]=>do let xs<-getL k;let ys<-getL j;kQ k (xs++ys)
 | .lst k,[.fz ys]=>do let xs<-getL k;kQ k (xs++ys)
 |_,_=>M.fail
def oV:D->List D->M D
 | .lst k,[.int i]=>do
  let xs<-getL k
  if 0<=i/\i<xs.length then
   match xs[i.toNat]? with
   |some y=>do let _<-kQ k (xs.eraseIdx i.toNat);aC y
   |none=>M.fail
  else M.fail
 |_,_=>M.fail
def Dq{K:dV}{H:Hp}{p:dt}{xs:List V}(h:H p=ar (.lst xs)):Np K "list" (.ref p) H:=.inl ⟨rfl,xs,.of h⟩
def Jg:D->M Unit
 | .lst _=>aC ()
 |_=>M.fail
theorem vt{name:Str}{N:String}{f:D->List D->M D}{r:V->List V->Hp->VK->Prop}{Y:Pos}(R:Slot "list" name N)(L:typeOf (.builtin N)=aC (.type "method_descriptor"))(B:Nm X N r)
  (w:MF X.K E f r) (u:SE X E o m) (z:SA X E (e::es) ms)
  (W:nN o name X.env (hY o X.env)=hY o X.env:=by rfl)
  (T:((n_ pos (d_ (e::es) X.env)).all (λx=> !x.1) && (backToKw pos (keywordEach [] X.env)).all (λx=>x.1.isSome)
   && decide ((e::es).length+([]:List Ut).length+(if ([]:List Ut).isEmpty then 0 else 1)<30))=true:=by rfl)
  (U:(Y.endLine==pos.line)=true:=by rfl) (hs:d_ (e::es) X.env=(c_,hY e X.env)::d_ es X.env:=by rfl) (Z:(n_ pos (d_ es X.env)).any (·.1)=false:=by rfl):
  SE X E (.Call (.Attribute o name Y) (e::es) [] pos) (λρ=>do let x<-m ρ;Jg x;let ds<-ms ρ;f x ds):=by
 refine PE.imp (Lk PySem.F.plainAttrs_list R L B u z W T U hs Z) λσ H Q h=>?_;obtain⟨ι,S,ρ,rep,re,c⟩:=h;refine⟨ι,S,ρ,rep,re,av (ak c) λx P S1 s e1 rep1 c1 v J=>?_⟩;cases x with
 |lst k=>
  obtain⟨p,rfl,I⟩:=J.lst_inv;obtain⟨vs,A⟩:=rep1.isL (Pa I);have G:=ao (ak c1) .refl rep1;exact⟨Dq A,P,S1,ρ,rep1,re.later rep e1,av (ak G) λds O S2 t e2 rep2 y vs C=>w O S2 t (.lst k) ds (.ref p) vs Q rep2 (J.later rep1 e2) C y⟩
 |_=>exact(ah (ak c1)).elim
theorem yN:MF X.K E cU zY:=by
 intro ι S H d ds v vs Q rep r rs c;unfold cU at c;split at c
 ·next k d=>
  obtain⟨p,rfl,Z⟩:=r.lst_inv;obtain⟨w,ws,rfl,T,R⟩:=rs.cons_inv;cases R.nil_inv;obtain⟨es,us,_,W,O,U⟩:=bz c rep Z;obtain⟨Y,P⟩:=jV U rep Z (O.append (.cons T .nil));rw[OG]at Y;exact⟨p,us,w,rfl,rfl,W,OU (by simp at Y;omega) g9,P _ .non⟩
 ·exact(ah c).elim
def w8:V->List V->Hp->VK->Prop:=λx vs H Q=>∃l b xs zs,x= .ref l/\vs=[.ref b]/\H l=ar (.lst xs)/\Rd H b (.lst zs)/\xs.length+zs.length<=sizeLine/\Q .non (upd H l (.lst (xs++zs)))
theorem yO:Nm X "list.extend" w8:=by
 intro pins s σ H x vs v us Q I O L h;obtain⟨l,b,xs,zs,rfl,rfl,U,T,K,q⟩:=h;cases O;obtain⟨u,rfl,S⟩:=L.one;cases S;obtain⟨z,its,n,r,G,e⟩:=I.lstM U;obtain⟨J,Z,N,P,R,e2⟩:=Inv.lstR I T;have W:its.toArray.size+Z.toArray.size<=sizeLine:=by rw[OL,OL];omega
 have Y:¬ (!its.toArray.isEmpty && pk (its.toArray.size+Z.toArray.size))=true:=by rw[wG W,Qk];exact PU
 refine S8 F.slot_list_extend ⟨_,e,rfl⟩ F.entry_list_extend (F.args_list_extend_2 _ _)
  (AutoSeq1.list_extend_list_list_0 l its.toArray n b Z.toArray N Y (by rw[OL];omega) (by omega)) ⟨e,e2,?_⟩
 refine⟨.non,_,I.lset (its':=its++Z) U e (by simp) (r.append P) ?_,rfl,q⟩;rw[OG];omega
theorem yP:MF X.K E ky w8:=by
 intro ι S H d ds v vs Q rep r rs c;unfold ky at c;split at c
 ·next k j=>
  obtain⟨p,rfl,Z⟩:=r.lst_inv;obtain⟨w,ws,rfl,T,R⟩:=rs.cons_inv;cases R.nil_inv;obtain⟨q,rfl,O⟩:=T.lst_inv;obtain⟨es,us,_,W,L,U⟩:=bz c rep Z;obtain⟨fs,ys,_,J,P,I⟩:=bz U rep O;obtain⟨Y,N⟩:=jV I rep Z (L.append P);rw[OG]at Y;exact⟨p,q,us,ys,rfl,rfl,W,.inl J,OR Y g9,N _ .non⟩
 ·next k fs=>
  obtain⟨p,rfl,Z⟩:=r.lst_inv;obtain⟨w,ws,rfl,T,R⟩:=rs.cons_inv;cases R.nil_inv;obtain⟨q,o,ys,rfl,O,P⟩:=T.fz_inv;obtain⟨es,us,_,W,L,U⟩:=bz c rep Z;obtain⟨Y,N⟩:=jV U rep Z (L.append P);rw[OG]at Y;exact⟨p,q,us,ys,rfl,rfl,W,.inr ⟨o,O⟩,OR Y g9,N _ .non⟩
 ·exact(ah c).elim
theorem Br:MF X.K E oV CP:=by
 intro ι S H d ds v vs Q rep r rs c;unfold oV at c;split at c
 ·next k i=>
  obtain⟨p,rfl,W⟩:=r.lst_inv;obtain⟨w,ws,rfl,J,G⟩:=rs.cons_inv;cases G.nil_inv;rw[J.int_inv];obtain⟨es,us,F,L,T,Z⟩:=bz c rep W;split at Z
  ·next hb=>
   cases q:es[i.toNat]? with
   |none=>rw[q]at Z;exact(ah Z).elim
   | some y=>
    rw[q]at Z;obtain⟨I,R,P⟩:=T.get' q;have hlen:=T.length;have N:Ext ι H ι (upd H p (.lst (us.eraseIdx i.toNat))):=vh (Pa W);have Y:=RelDs.eraseIdx i.toNat T;have O:=jV (ak Z) rep W Y;have U:us.length<=lim+1:=by have:=O.1;rw[List.length_eraseIdx]at this;split at this<;>omega
    refine⟨p,us,i,i.toNat,I,rfl,rfl,L,by omega,by unfold lim at U;omega,?_,R,?_⟩
    ·unfold Ug;simp only[show ¬ i<0 by omega,if_false];first|(rw[if_pos (by omega)])|(rw[if_pos (by simp;omega)])|(simp;omega)
    ·exact ao O.2 .refl (vi rep W Y) _ (P.later rep N)
  ·exact(ah Z).elim
 ·exact(ah c).elim
theorem iN{Z:Pos}(T:SE X E o m)(U:SE X E e n)
  (Y:nN o "append" X.env (hY o X.env)=hY o X.env:=by rfl)
  (W:(Z.endLine==pos.line)=true:=by rfl) (hs:d_ [e] X.env=[(c_,hY e X.env)]:=by rfl):
  SE X E (.Call (.Attribute o "append" Z) [e] [] pos) (λρ=>do let x<-m ρ;Jg x;let ds<-(do let y<-n ρ;let ys<-aC [];aC (y::ys));cU x ds):=
 vt PySem.F.slot_list_append PySem.F.type_list_append oJ yN T (ae U ag hs) Y (by rw[hs];rfl) W hs rfl
theorem ug{Z:Pos}(T:SE X E o m)(U:SE X E e n)
  (Y:nN o "extend" X.env (hY o X.env)=hY o X.env:=by rfl)
  (W:(Z.endLine==pos.line)=true:=by rfl) (hs:d_ [e] X.env=[(c_,hY e X.env)]:=by rfl):
  SE X E (.Call (.Attribute o "extend" Z) [e] [] pos) (λρ=>do let x<-m ρ;Jg x;let ds<-(do let y<-n ρ;let ys<-aC [];aC (y::ys));ky x ds):=
 vt PySem.F.slot_list_extend PySem.F.type_list_extend yO yP T (ae U ag hs) Y (by rw[hs];rfl) W hs rfl
theorem Ds{Z:Pos}(T:SE X E o m)(U:SE X E e n)
  (Y:nN o "pop" X.env (hY o X.env)=hY o X.env:=by rfl)
  (W:(Z.endLine==pos.line)=true:=by rfl) (hs:d_ [e] X.env=[(c_,hY e X.env)]:=by rfl):
  SE X E (.Call (.Attribute o "pop" Z) [e] [] pos) (λρ=>do let x<-m ρ;Jg x;let ds<-(do let y<-n ρ;let ys<-aC [];aC (y::ys));oV x ds):=
 vt PySem.F.slot_list_pop PySem.F.type_list_pop CQ Br T (ae U ag hs) Y (by rw[hs];rfl) W hs rfl
theorem Bs:Nu X.K E fQ HE:=by
 intro ι S H G N L v1 v2 J Q rep R P U c;unfold fQ at c;split at c
 ·next k j=>
  obtain⟨p,rfl,Y⟩:=R.lst_inv;obtain⟨es,us,_,T,W,Z⟩:=bz c rep Y;cases q:yq es.length j with
  |none=>rw[q]at Z;exact(ah Z).elim
  |some at'=>
   rw[q]at Z;obtain⟨I,O⟩:=jV (ak Z) rep Y (RelDs.set U at' W);refine⟨p,us,j,at',rfl,P.int_inv,T,by rw[<-W.length];exact q,?_⟩;exact ao O .refl (vi rep Y (RelDs.set U at' W))
 ·exact(ah c).elim
theorem nM(N:SE X E o m)(L:SE X E i n)(P:∀v,Sl (.Subscript o i pos) X.env v=(do
   let ov<-yn [v] (hY o X.env);let iv<-yn [v,ov] (hY i X.env)
   I_ pos
   yn [v,ov,iv] (Vj ov iv v)
   release [v,ov,iv] []):=by intro _;rfl):SG X E (.Subscript o i pos) (λd ρ=>do let x<-m ρ;let y<-n ρ;fQ x y d;aC ρ):=by
 refine PG.imp (Iy N L set_list P) λv σ H Q h=>?_;obtain⟨ι,S,ρ,d,rep,re,r,c⟩:=h;refine⟨ι,S,ρ,rep,re,av (ak c) λx Z S1 F e1 rep1 c1 v1 U=>?_⟩;refine⟨Z,S1,ρ,rep1,re.later rep e1,av (ak c1) λy Y S2 J e2 rep2 T v2 R=>?_⟩;have W:=(re.later rep e1).later rep1 e2;refine Bs (E:=E) Y S2 J x y d v1 v2 v _ rep2 (U.later rep1 e2) R ((r.later rep e1).later rep1 e2) (av (ak T) λ_ K I G e3 rep3 O=>?_);exact ao O .refl rep3 σ (W.later rep2 e3)
def a9(lo:Int)(n:Nat):List D:=(ee n).map λi=>.int (lo+(i:Nat))
def mS:List D->M Iter
 |[.int j]=>if -(2 ^ 62)<=j/\j<2 ^ 62 then aC ⟨a9 0 j.toNat,.none⟩else M.fail
 |_=>M.fail
def lZ:List D->M Iter
 |[.int i,.int j]=>if -(2 ^ 62)<=i/\i<2 ^ 62/\ -(2 ^ 62)<=j/\j<2 ^ 62 then aC ⟨a9 i (j - i).toNat,.none⟩else M.fail
 |_=>M.fail
theorem nO{K:dV}{Y:Int}{n:Nat}{ι:List dt}{H:Hp}:km K ⟨a9 Y n,.none⟩ (KZ Y n) ι H:=by
 intro S Q S2 e rep ok i;refine⟨λd hd=>?_,λh=>?_⟩
 ·have Z:((ee n)[i]?).map (λi:Nat=>D.int (Y+(i:Nat)))=ar d:=by
   have:(a9 Y n)[i]? =ar d:=hd;unfold a9 at this;rw[O1]at this;exact this
  have U:i<n:=by
   by_cases h:i<n
   ·exact h
   ·rw[Pq (by simp;omega)]at Z;cases Z
  rw[QC U]at Z;cases Z;exact⟨U,λx R T=>by obtain⟨rfl,rfl⟩:=T;exact⟨.refl,rep,.int _⟩⟩
 ·have h':(a9 Y n).length<=i:=h;unfold a9 at h';rw[OC,Pi]at h';exact h'
theorem eS(Q:X.mg "range"=none)(Y:SE X E a m)(W:Gl X "range":=by rfl)(hs:d_ [a] X.env=[(c_,hY a X.env)]:=by rfl):
  SI X E tg (.Call (.Name "range" p) [a] [] pos) (λρ=>do let ds<-(do let x<-m ρ;let xs<-aC [];aC (x::xs));mS ds):=by
 intro pins s σ H R I h;refine A6 W Q (ae Y ag hs) hs pins s σ H R I ?_;obtain⟨ι,S,ρ,rep,re,c⟩:=h;refine⟨ι,S,ρ,rep,re,av (ak c) λds U S1 P e1 rep1 c1 vs r=>?_⟩;unfold mS at c1;split at c1
 ·next j=>
  obtain⟨w,ws,rfl,Z,T⟩:=r.cons_inv;cases T.nil_inv;split at c1
  ·next hb=>rw[Z.int_inv];exact⟨j,rfl,hb.1,hb.2,ao c1 .refl rep1 _ nO⟩
  ·exact(ah c1).elim
 ·exact(ah c1).elim
theorem l9(L:X.mg "range"=none)(U:SE X E a m)(Y:SE X E b n)(T:Gl X "range":=by rfl)(hs:d_ [a,b] X.env=[(c_,hY a X.env),(c_,hY b X.env)]:=by rfl)(Z:d_ [b] X.env=[(c_,hY b X.env)]:=by rfl):
  SI X E tg (.Call (.Name "range" p) [a,b] [] pos) (λρ=>do let ds<-(do let x<-m ρ;let xs<-(do let y<-n ρ;let ys<-aC [];aC (y::ys));aC (x::xs));lZ ds):=by
 intro pins s σ H R I h;refine A7 T L (ae U (ae Y ag Z) (by rw[hs,Z])) hs Z pins s σ H R I ?_;obtain⟨ι,S,ρ,rep,re,c⟩:=h;refine⟨ι,S,ρ,rep,re,av (ak c) λds Q S1 G e1 rep1 c1 vs r=>?_⟩;unfold lZ at c1;split at c1
 ·next i j=>
  obtain⟨w,ws,rfl,W,P⟩:=r.cons_inv;obtain⟨J,O,rfl,N,K⟩:=P.cons_inv;cases K.nil_inv;split at c1
  ·next Y=>rw[W.int_inv,N.int_inv];exact⟨i,j,rfl,Y,ao c1 .refl rep1 _ nO⟩
  ·exact(ah c1).elim
 ·exact(ah c1).elim
def Ly:D->M Iter
 | .lst k=>do let xs<-getL k;aC ⟨xs,.some k⟩
 | .tup ds=>aC ⟨ds,.none⟩
 | .ro ds=>aC ⟨ds,.none⟩
 | .fz ds=>aC ⟨ds,.none⟩
 |_=>M.fail
theorem xa{K:dV}{k:Nat}{a:dt}{xs:List D}{ι:List dt}{H:Hp}(S:ι[k]? =ar a):km K ⟨xs,.some k⟩ (MC K a) ι H:=by intro Q O S2 e rep ok i;obtain⟨vs,Z,T⟩:=rep.get k a xs (e.at S) ok;refine⟨λd hd=>?_,λh=>⟨vs,.of Z,by rw[<-T.length];exact h⟩⟩;obtain⟨v,U,R⟩:=T.get' hd;refine⟨⟨vs,v,.of Z,U⟩,λx P Y=>?_⟩;obtain⟨rfl,Y⟩:=Y;have:=Y vs (.of Z);rw[U]at this;cases this;exact⟨.refl,rep,R⟩
theorem yQ{K:dV}{a:dt}{ds:List D}{vs:List V}{ι:List dt}{S:aE}{H:Hp}(Y:Rep K ι H S)(R:H a=ar (.tup vs))(r:RelDs K ι H ds vs):km K ⟨ds,.none⟩ (Na K a) ι H:=by intro O L S2 e rep2 ok i;have Z:=(e.oth a _ R (Y.notIn R (by intro _ z;cases z)) (by intro _ z;cases z) (by intro _ z;cases z)).1;have Q:=r.laterN Y e;refine⟨λd hd=>?_,λh=>⟨vs,.of Z,by rw[<-r.length];exact h⟩⟩;obtain⟨v,T,P⟩:=Q.get' hd;refine⟨⟨vs,v,.of Z,T⟩,λx N U=>?_⟩;obtain⟨rfl,U⟩:=U;have:=U vs (.of Z);rw[T]at this;cases this;exact⟨.refl,rep2,P⟩
theorem uh{K:dV}{a:dt}{ds:List D}{vs:List V}{ι:List dt}{S:aE}{H:Hp}(Z:Rep K ι H S)(P:Ft K H a vs)(r:RelDs K ι H ds vs):km K ⟨ds,.none⟩ (MC K a) ι H:=by intro L Q S2 e rep2 ok i;have Y:Ft K Q a vs:=P.imp (λ⟨o,h⟩=>⟨o,(e.oth a _ h (Z.notIn h (by intro _ z;cases z)) (by intro _ z;cases z) (by intro _ z;cases z)).1⟩) λz=>z;have O:=r.laterN Z e;have U:kN K Q a vs:=Y.sq;refine⟨λd hd=>?_,λh=>⟨vs,U,by rw[<-r.length];exact h⟩⟩;obtain⟨v,R,N⟩:=O.get' hd;refine⟨⟨vs,v,U,R⟩,λx J T=>?_⟩;obtain⟨rfl,T⟩:=T;have:=T vs U;rw[R]at this;cases this;exact⟨.refl,rep2,N⟩
theorem fR(T:SE X E e m):SI X E tg e (λρ=>do let x<-m ρ;Ly x):=by
 intro pins s σ H R I h;obtain⟨ι,S,ρ,rep,re,c⟩:=h;obtain⟨r,P,Q,k⟩:=id (ak c);cases r with
 |ex x=>
  refine nq T pins s σ H R I ⟨ι,S,ρ,rep,re,.ex x,P,Q,k⟩
 | ok d=>
  cases d with
  |tup ds=>
   refine ID T pins s σ H R I ⟨ι,S,ρ,rep,re,.ok (.tup ds),P,Q,λZ W e1 rep1 v U=>?_⟩;obtain⟨p,vs,rfl,Y,O⟩:=U.tup_inv;exact⟨p,rfl,⟨vs,.of Y⟩,ao (k Z W e1 rep1) .refl rep1 _ (yQ rep1 Y O)⟩
  |lst j=>
   refine nq T pins s σ H R I ⟨ι,S,ρ,rep,re,.ok (.lst j),P,Q,λZ W e1 rep1 v U=>?_⟩;obtain⟨p,rfl,Y⟩:=U.lst_inv;obtain⟨es,us,_,N,K,L⟩:=bz (k Z W e1 rep1) rep1 Y;exact⟨p,rfl,⟨us,.of N⟩,ao L .refl rep1 _ (xa Y)⟩
  |ro ds=>
   refine nq T pins s σ H R I ⟨ι,S,ρ,rep,re,.ok (.ro ds),P,Q,λZ W e1 rep1 v U=>?_⟩;obtain⟨p,vs,rfl,Y,O⟩:=U.ro_inv;exact⟨p,rfl,⟨vs,Y.sq⟩,ao (k Z W e1 rep1) .refl rep1 _ (uh rep1 Y O)⟩
  |fz ds=>
   refine nq T pins s σ H R I ⟨ι,S,ρ,rep,re,.ok (.fz ds),P,Q,λZ W e1 rep1 v U=>?_⟩;obtain⟨p,o,vs,rfl,Y,O⟩:=U.fz_inv;exact⟨p,rfl,⟨vs,.inl (.inr ⟨o,Y⟩)⟩,ao (k Z W e1 rep1) .refl rep1 _ (uh rep1 (.inl ⟨o,Y⟩) O)⟩
  |_=>exact nq T pins s σ H R I ⟨ι,S,ρ,rep,re,.ok _,P,Q,λZ W e1 rep1 v U=>(ah (k Z W e1 rep1)).elim⟩
theorem xb:dm X (.type "range") (λxs H Q=>∃j,xs=[.int j]/\∀p,H p=none->Q (.ref p) (upd H p (.rng 0 j))):=by intro pins s σ H xs us Q I r h;obtain⟨j,rfl,q⟩:=h;obtain⟨u,rfl,Z⟩:=vals1 r;obtain⟨t,rfl⟩:=(show ∃t,u=o_ j t from Z);refine call_range_1 ⟨.ref s.heap.objs.size,_,I.laid (o:=.rng 0 j) (λb o e=>OD _ e) (OF _) ⟨_,_,_,OK _ rfl⟩,rfl,q _ (I.hok.fresh (OF _))⟩
theorem tx(N:X.calm=b_):dm X (.type "list") (λxs H Q=>∃(p:dt) (j:Int),xs=[.ref p]/\H p=ar (.rng 0 j)/\ -(2 ^ 62)<=j/\j<=lim/\∀l,H l=none->Q (.ref l) (upd H l (.lst ((ee j.toNat).map λi:Nat=>V.int (i:Nat))))):=by
 intro pins s σ H xs us Q I r h;obtain⟨p,j,rfl,L,T,S,q⟩:=h;obtain⟨u,rfl,P⟩:=vals1 r;cases (show u=er p from P);obtain⟨t,u,v,R⟩:=(show bC X.prog X.w H s.heap p (.rng 0 j)from I.hok p _ L);have U:Builtin.Range.rangeSize 0 j 1=(j.toNat:Int):=by rw[rangeSize_one];split<;>omega
 have Z:j.toNat<=lim:=by omega
 refine call_list_range (I.ok.hd N) R (small_one (by omega) (by omega) T (by unfold lim at S;omega)) U (by unfold lim at Z;omega) λh' K acc F O J hit=>?_;refine⟨.ref s.heap.objs.size,_,I.laid (t':=K) O (OF _) (o:=.lst ((ee j.toNat).map λi:Nat=>V.int (i:Nat))) ?_,rfl,q _ (I.hok.fresh (OF _))⟩;refine⟨by rw[OC,Pi];exact OR Z g9,acc.toList,F,?_,by simpa using J⟩;obtain⟨hs,G⟩:=hit;have gen:∀(l:List a_) (f:Nat->Int),(∀i v,l[i]? =ar v->∃t,v=o_ (f i) t)->bx ((ee l.length).map λi:Nat=>V.int (f i)) l:=by
  intro l
  induction l with
  |nil=>intro f _;exact .nil
  |cons x l ih=>
   intro f hf;rw[O9,RB,OW,Pn];obtain⟨t,W⟩:=hf 0 x rfl;refine .cons ⟨t,W⟩ ?_;exact ih (λi=>f (i+1)) λi v Y=>hf (i+1) v (by simpa using Y)
 have:=gen acc.toList (λi=>(i:Int)) λi v Y=>by obtain⟨t,W⟩:=G i v (by simpa using Y);exact⟨t,by rw[W];congr 1;omega⟩
 rw[QB,hs]at this;exact this
def eE:List D->M D
 |[.int j]=>if -(2 ^ 62)<=j/\j<=lim then bB (a9 0 j.toNat)else M.fail
 |_=>M.fail
theorem rE{K:dV}{ι:List dt}{H:Hp}:∀(l:List Nat),RelDs K ι H (l.map λi:Nat=>D.int (0+(i:Nat))) (l.map λi:Nat=>V.int (i:Nat))
 |[]=>.nil
 |x::l=>.cons (by show RelD K ι H (D.int (0+(x:Int))) (V.int (x:Int));rw[Rk];exact .int _) (rE l)
theorem nP(L:X.calm=b_)(J:X.mg "list"=none)(W:X.mg "range"=none)(R:SE X E a m)(P:Gl X "list":=by rfl)(Y:Gl X "range":=by rfl)(hs:d_ [a] X.env=[(c_,hY a X.env)]:=by rfl)
  (Z:d_ [.Call (.Name "range" q) [a] [] pos2] X.env=[(c_,hY (.Call (.Name "range" q) [a] [] pos2) X.env)]:=by rfl):
  SE X E (.Call (.Name "list" p) [.Call (.Name "range" q) [a] [] pos2] [] pos) (λρ=>do let ds<-(do let x<-m ρ;let xs<-aC [];aC (x::xs));eE ds):=by
 refine PE.imp (jR (tx L) P J (by decide+kernel) (eP (jR xb Y W (by decide+kernel) (ae R ag hs) (by decide) (by decide) hs rfl) ke Z) (by decide) (by decide) Z rfl) λσ H Q h=>?_;obtain⟨ι,S,ρ,rep,re,c⟩:=h;refine⟨ι,S,ρ,rep,re,av (ak c) λds O S1 I e1 rep1 c1 vs r=>?_⟩;unfold eE at c1;split at c1
 ·next j=>
  obtain⟨w,ws,rfl,T,K⟩:=r.cons_inv;cases K.nil_inv;split at c1
  ·next hb=>
   rw[T.int_inv];refine⟨j,rfl,λp U=>?_⟩;have rep2:=gF (o:=.rng 0 j) rep1 U;refine⟨p,j,rfl,aX,hb.1,hb.2,?_⟩;have N:=gv c1 (fx (o:=.rng 0 j) U);exact(bq N rep2 (rE (ee j.toNat))).2
  ·exact(ah c1).elim
 ·exact(ah c1).elim
end
section
variable {X:Cx}{E:XD}{a b c d e:Expr}{m n l k:TM}{pos p2:Pos}
theorem Dt:SE X E (.Dict [] [] pos) (λ_=>aC .emp):=by intro pins s σ H Q I h;obtain⟨ι,S,ρ,rep,re,Y⟩:=h;have big:Uv<s.heap.objs.size:=R4 (by decide) (I.mod.glob.keeps I.bk).lt;have hf:H s.heap.objs.size=none:=I.hok.fresh (OF _);have Z:bC X.prog X.w (upd H s.heap.objs.size (.dK [])) (s.heap.push {cls:=.type "dict",data:=.dict #[]}) s.heap.objs.size (.dK []):=⟨OX _,beq_eq_false_iff_ne.mpr (kC (OQ big)),[],.nil,Heap.DictOf.new s.heap⟩;refine wpAny_Dict_empty ⟨.ref s.heap.objs.size,upd H s.heap.objs.size (.dK []),I.laid (t':=s.toks) (λ_ _ q=>OD _ q) (OF _) Z,rfl,?_⟩;exact ao Y (fx hf) (gF rep hf) _ (.emp aX)
def F5(r1 r2 r3:R2)(ta tb tc td:TE):TT:=λσ H Q=>ta σ H λx H1=>tb σ H1 λy H2=>r1 x y H2 λz H3=>∃i,z= .bl i/\
 (if i=b_ then tc σ H3 λw H4=>r2 y w H4 λz2 H5=>∃j,z2= .bl j/\(if j=b_ then td σ H5 λv H6=>r3 w v H6 λz3 H7=>∃g,z3= .bl g/\Q g H7 else Q c_ H5)else Q c_ H3)
theorem Bt(Z:iy X (i_ o1) r1)(P:iy X (i_ o2) r2)(U:iy X (i_ o3) r3)(W:PE X a ta)(S:PE X b tb)(R:PE X c tc)(Y:PE X d td)
  (T:P_ [o1,o2,o3] [b,c,d]=false:=by with_unfolding_all rfl):PT X (.Compare a [o1,o2,o3] [b,c,d] pos) (F5 r1 r2 r3 ta tb tc td):=by
 intro pins s σ H Q I h;refine isTrue_chain (dW (W pins s σ H _ I h) λva s1 ⟨x,H1,I1,q1,w1⟩=>UO (dW (S pins s1 σ H1 _ I1 w1) λvb s2 ⟨y,H2,I2,q2,w2⟩=>dW (Z pins s2 σ H2 x y va vb _ I2 q1 q2 w2) λ_ s3 ⟨z,H3,I3,q3,i,e3,w3⟩=>?_)) T;subst e3;cases q3;refine Pw ?_;cases i with
 |false=>exact Vc ⟨H3,I3,w3⟩
 | true=>
  refine Vd (UO (dW (R pins s3 σ H3 _ I3 w3) λvc s4 ⟨u,H4,I4,q4,w4⟩=>dW (P pins s4 σ H4 y u vb vc _ I4 q2 q4 w4) λ_ s5 ⟨z5,H5,I5,q5,j,e5,w5⟩=>?_));subst e5;cases q5;refine Pw ?_;cases j with
  |false=>exact Vc ⟨H5,I5,w5⟩
  |true=>
   refine Vd (test_last (dW (Y pins s5 σ H5 _ I5 w5) λvd s6 ⟨v,H6,I6,q6,w6⟩=>dW (U pins s6 σ H6 u v vc vd _ I6 q4 q6 w6) λ_ s7 ⟨z7,H7,I7,q7,g,e7,w7⟩=>?_));subst e7;cases q7;exact Pw ⟨H7,I7,w7⟩
theorem Bu(h1:iy X (i_ o1) O)(h2:iy X (i_ o2) P)(h3:iy X (i_ o3) I)(hf:sR X.K E f O)(hg:sR X.K E g P)(hh:sR X.K E h I)
  (ha:SE X E a m) (hb:SE X E b n) (hc:SE X E c l) (hd:SE X E d k) (hm:P_ [o1,o2,o3] [b,c,d]=false:=by with_unfolding_all rfl):
  SB X E (.Compare a [o1,o2,o3] [b,c,d] pos) (λρ=>do
   let x<-m ρ;let y<-n ρ;let z<-f x y;let i<-kh z
   if i=b_ then do
    let w<-l ρ;let p<-g y w;let j<-kh p
    if j=b_ then do
     let v<-k ρ;let r<-h w v
     kh r
    else aC c_
   else aC c_):=by
 refine PT.imp (Bt h1 h2 h3 ha hb hc hd hm) λσ H Q q=>?_;obtain⟨ι,S,ρ,rep,re,cc⟩:=q;refine⟨ι,S,ρ,rep,re,av (ak cc) λx B S1 H1 e1 rep1 c1 v1 O=>?_⟩;have R:=re.later rep e1;refine⟨B,S1,ρ,rep1,R,av (ak c1) λy N S2 H2 e2 rep2 c2 v2 P=>?_⟩;have J:=R.later rep1 e2;refine hf N S2 H2 x y v1 v2 _ rep2 (O.later rep1 e2) P (av (ak c2) λz F S3 H3 e3 rep3 c3 v3 I=>?_);have T:=J.later rep2 e3;obtain⟨i,rfl,rfl,c4⟩:=nF rep3 I c3;refine⟨i,rfl,?_⟩;cases i with
 |false=>exact ao c4 .refl rep3
 | true=>
  refine⟨F,S3,ρ,rep3,T,av (ak c4) λw L S4 H4 o Y c5 v4 r4=>?_⟩;have s:=T.later rep3 o;refine hg L S4 H4 y w v2 v4 _ Y ((P.later rep2 e3).later rep3 o) r4 (av (ak c5) λp u S5 H5 e5 Z c6 v5 r5=>?_);have A:=s.later Y e5;obtain⟨j,rfl,rfl,c7⟩:=nF Z r5 c6;refine⟨j,rfl,?_⟩;cases j with
  |false=>exact ao c7 .refl Z
  |true=>
   refine⟨u,S5,ρ,Z,A,av (ak c7) λv G S6 H6 e6 W c8 v6 r6=>?_⟩;refine hh G S6 H6 w v v4 v6 _ W ((r4.later Y e5).later Z e6) r6 (av (ak c8) λr g6 S7 H7 e7 U c9 v7 r7=>?_);obtain⟨t,rfl,rfl,C⟩:=nG U r7 c9;exact⟨t,rfl,C⟩
end
section
variable {X:Cx}{E:XD}{e:Expr}{m:TM}{te:TE}{pos p1 p2 p3:Pos}{j:Nat}
end
def insI(x:Int):List Int->List Int
 |[]=>[x]
 |y::r=>if x<=y then x::y::r else y::insI x r
def sortI:List Int->List Int
 |[]=>[]
 |x::r=>insI x (sortI r)
theorem insI_perm(x:Int):∀l,(insI x l).Perm (x::l)
 |[]=>.refl _
 |y::r=>by
  unfold insI;split
  ·exact .refl _
  ·exact(G3 y (insI_perm x r)).trans (List.Perm.swap x y r)
theorem sortI_perm:∀l,(sortI l).Perm l
 |[]=>.refl _
 |x::r=>(insI_perm x _).trans (G3 x (sortI_perm r))
theorem pP(x:Int):∀{l:List Int},l.Pairwise (· <=·)->(insI x l).Pairwise (· <=·)
 |[],_=>by simp[insI]
 | y::r,h=>by
  obtain⟨Y,X⟩:=Pz.mp h;unfold insI;split
  ·next c=>
   refine Pz.mpr ⟨λz Z=>?_,h⟩;rcases O2.mp Z with rfl|Z
   ·exact c
   ·exact Int.le_trans c (Y z Z)
  ·next c=>
   refine Pz.mpr ⟨λz Z=>?_,pP x X⟩;rcases O2.mp ((insI_perm x r).mem_iff.mp Z)with rfl|Z
   ·omega
   ·exact Y z Z
theorem kz:∀l,(sortI l).Pairwise (· <=·)
 |[]=>.nil
 |x::r=>pP x (kz r)
section
variable {X:Cx}{E:XD}{e:Expr}{m:TM}{pos:Pos}
theorem vv:dm X (.builtin "sorted") (λxs H Q=>∃(p:dt) (ns:List Int),xs=[.ref p]/\kN X.K H p (ns.map V.int)/\ns.length<64/\∀l,H l=none->Q (.ref l) (upd H l (.lst ((sortI ns).map V.int)))):=by intro pins s σ H xs us Q I r h;obtain⟨p,ns,rfl,S,O,q⟩:=h;obtain⟨u,rfl,P⟩:=vals1 r;cases (show u=er p from P);obtain⟨its,Y,U,N⟩:=I.list S;have R:m_ its ns:=RF Y;have hlen:=Y.length;rw[OC]at hlen;refine sorted_ints U.isList R (by omega) λout Z a1 a2 a3=>?_;have en:Z=sortI ns:=W.lks_uniq (a2.trans (sortI_perm ns).symm) a3 (kz ns);subst en;obtain⟨c,T⟩:=sortedAll_at s.heap its out;have hf:H (s.heap.objs.size+1)=none:=I.hok.fresh (Rc _);refine⟨.ref (s.heap.objs.size+1),_,I.laid (t':=s.toks) (o:=.lst ((sortI ns).map V.int)) (λb o e=>sortedAll_old e) (Rc _) ⟨?_,out.toList,c,jT a1,T⟩,rfl,q _ hf⟩;rw[OC,(sortI_perm ns).length_eq,PC];omega
theorem nQ{K:dV}{ι:List dt}{H:Hp}:∀ns:List Int,RelDs K ι H (ns.map D.int) (ns.map V.int)
 |[]=>.nil
 |n::r=>.cons (.int n) (nQ r)
end
end S3
namespace S3
open PySem PySem.Spec PySem.W PyProof.Rows L2
theorem rF{h:gg}:∀{vs:List a_},(∀v∈vs,∃a o us n i t,v= .ref a/\h.get? a=ar o/\o.cls= .type "tuple"/\o.data= .seq us n/\us[0]? =ar (o_ i t))->
  ∃fs,KatTups h vs fs/\fs.length=vs.length/\∀f∈fs,∃i t,f=o_ i t
 |[],_=>⟨[],.nil,rfl,λ_ z=>nomatch z⟩
 |v::vs,hv=>by
  obtain⟨a,o,us,n,i,t,rfl,e1,e2,e3,Z⟩:=hv v OV;obtain⟨fs,k1,k2,k3⟩:=rF λY h'=>hv Y (OO _ h');refine⟨_::fs,.cons e1 e2 e3 Z k1,by simp[k2],λf hf=>?_⟩;rcases O2.mp hf with rfl|hf
  ·exact⟨i,t,rfl⟩
  ·exact k3 f hf
theorem kD:∀ns:List Int,HT.lexLt ns ns=c_
 |[]=>rfl
 |n::r=>by rw[HT.lexLt_cons,if_pos rfl];exact kD r
theorem yR:∀{a b c:List Int},HT.lexLt a b=b_->HT.lexLt b c=b_->HT.lexLt a c=b_
 |[],[],c,h,_=>by cases h
 |[],_::_,[],_,h=>by cases h
 |[],_::_,_::_,_,_=>rfl
 |_::_,[],c,h,_=>by cases h
 |_::_,_::_,[],_,h=>by cases h
 | x::a,y::b,z::c,h1,h2=>by
  rw[HT.lexLt_cons]at h1 h2⊢;split at h1
  ·next e=>
   subst e;split at h2
   ·next e2=>subst e2;rw[if_pos rfl];exact yR h1 h2
   ·next e2=>rw[if_neg e2];exact h2
  ·next e=>
   have Z:x<y:=PQ h1;split at h2
   ·next e2=>subst e2;rw[if_neg e];exact h1
   ·next e2=>
    have Y:y<z:=PQ h2;rw[if_neg (by omega)];exact OS (by omega)
theorem vw:∀{a b c:List Int},HT.lexLt a c=b_->HT.lexLt a b=b_\/HT.lexLt b c=b_
 |a,b,[],h=>by cases a<;>cases h
 |[],[],_::_,_=>.inr rfl
 |[],_::_,_::_,_=>.inl rfl
 |_::_,[],_::_,_=>.inr rfl
 | x ::a,y::b,z::c,h=>by
  rw[HT.lexLt_cons]at h;rw[HT.lexLt_cons,HT.lexLt_cons];split at h
  ·next e=>
   subst e;by_cases e2:x=y
   ·subst e2;rw[if_pos rfl,if_pos rfl];exact vw h
   ·rw[if_neg e2,if_neg (kC e2)];rcases Int.lt_or_gt_of_ne e2 with l|l
    ·exact .inl (OS l)
    ·exact .inr (OS l)
  ·next e=>
   have h':x<z:=PQ h;by_cases e2:x=y
   ·subst e2;rw[if_neg e];exact .inr (OS h')
   ·rw[if_neg e2];by_cases l:x<y
    ·exact .inl (OS l)
    ·refine .inr ?_;rw[if_neg (by omega)];exact OS (by omega)
theorem Du(x:bC P w H h a o):∃Z,h.get? a=ar Z:=by
 cases o with
 |lst xs=>obtain⟨_,_,_,_,e⟩:=x;exact⟨_,e⟩
 |tup xs=>obtain⟨_,_,_,Z,e,_⟩:=x;exact⟨_,e⟩
 |dK kvs=>obtain⟨_,_,_,_,o,_,_,e,_⟩:=x;exact⟨_,e⟩
 |dT kvs=>obtain⟨_,_,_,_,o,_,_,e,_⟩:=x;exact⟨_,e⟩
 |set S n=>obtain⟨o,_,_,_,e,_⟩:=x;exact⟨_,e⟩
 |ins C dx fs=>obtain⟨_,_,_,e,_⟩:=x;exact⟨_,e⟩
 |own y=>exact x
 |xd fs=>obtain⟨_,⟨_,_,_,e,_⟩,_⟩:=x;exact⟨_,e⟩
 |rng lo hi=>obtain⟨_,_,_,e⟩:=x;exact⟨_,e⟩
 |frz Z u=>exact⟨_,x.1⟩
 |tbl ps=>exact⟨_,show h.get? a=ar _ from x⟩
 |met f y=>exact⟨_,show h.get? a=ar _ from x⟩
 |ext φ=>exact x.2.1
section
variable {X:Cx}{pins:List (dt×Obj)}{σ:L2.St}{H:Hp}{s:dr}
theorem yS{us:List a_}(I:L2.Inv X pins σ H s)(K:Fr X.base X.env.locals s.heap m)(F:Fr X.base X.env.locals h2 m)
  (U:∀b o,b≠X.env.locals->s.heap.get? b=ar o->h2.get? b=ar o) (R:s.heap.get? d=none) (G:h2.get? d=ar {cls:=.type "list",data:=.seq us.toArray n}) (E:bx ys us) (L:ys.length<=sizeLine):
  L2.Inv X pins σ (upd H d (.lst ys)) {s with heap:=h2}:=by
 have W:H d=none:=by
  cases e:H d with
  |none=>rfl
  |some o=>obtain⟨P,q⟩:=Du (I.hok d o e);rw[R]at q;cases q
 have Y:∀b o,H b=ar o->b≠X.env.locals:=λb o e z=>by rw[z,I.free]at e;cases e
 have old:∀b o,s.heap.get? b=ar o->b≠d:=λb o e z=>by rw[z,R]at e;cases e
 refine I.step (g':=s.gens) (d':=s.drawn) (t':=s.toks) (ch:=[]) (λ_ z=>nomatch z) (λb o Z _ _ e _=>U b o Z e) (λb o Z _ _ e _=>⟨o.slots,U b o Z e⟩)
  (λb o _ e n=>by rw[aI (old b o e)];exact n) (λb o _ e=>?_) (λb xs e=>by rw[aI (aU e W)];exact e) (λb P u e=>by rw[aI (aU e W)];exact e)
  (λb y e=>⟨#[],by rw[aI (aU e W),e];simp⟩) (λJ hm=>?_) (λb u e=>?_) I.bare
 ·by_cases Z:b=X.env.locals
  ·obtain⟨Q,_,_,B,_⟩:=F.ns;exact⟨Q,by rw[Z];exact B⟩
  ·exact⟨o,U b o Z e⟩
 ·have:J=m:=by
   obtain⟨A,es,ep,e1,C,_,g1⟩:=hm;obtain⟨o2,N,O,e2,S,_,g2⟩:=K.ns;rw[e1]at e2;cases e2;rw[C]at S;cases S;funext x;rw[<-g1 x, <-g2 x]
  rw[this];exact F.ns
 ·by_cases Z:b=d
  ·subst Z;rw[aX]at e;cases e;exact⟨L,us,n,E,G⟩
  ·rw[aI Z]at e;refine(I.hok b u e).stay (λc v T z=>U c v ?_ z) (λc z=>by rw[aI (aU z W)];exact z) λc xs z=>by rw[aI (aU z W)];exact z
   rcases T with rfl|T
   ·exact Y _ _ e
   ·exact Y _ _ T
end
section
variable {X:Cx}
end
end S3
namespace S4
open PySem PySem.SetTable
def tb(m:Nat):SetTable:=⟨m, #[], #[],0,b_,0,b_⟩
def cz(m:Nat)(h:Int):Nat->Probe
 |0=>(tb m).probeStart h
 |k+1=>(tb m).advance (cz m h k)
def Jh(t:ly)(h:Int)(k:Nat):t.advance (cz t.mask h k)=cz t.mask h (k+1):=rfl
def Bv(t:ly)(p:Probe)(Z:p.dummy=none):(t.advance p).dummy=none:=by
 unfold UW;split
 ·exact Z
 ·exact Z
theorem rG(m:Nat)(h:Int):∀k,(cz m h k).dummy=none
 |0=>rfl
 |k+1=>Bv _ _ (rG m h k)
def gI(m:Nat)(h:Int):Nat->Nat×Nat
 |0=>(U5 h % (m+1),U5 h)
 |n+1=>leap m (gI m h n).1 (gI m h n).2
def run(m i:Nat):Nat:=UF m i - i
def Ji(m i:Nat):run m i<=9:=by unfold run UF;split<;>omega
def sS(m:Nat)(h:Int):Nat->Nat
 |0=>0
 |n+1=>sS m h n+run m (gI m h n).1+1
theorem Dv(m:Nat)(h:Int):∀n,sS m h n<=10*n
 |0=>OF _
 |n+1=>by
  have:=Dv m h n;have:=Ji m (gI m h n).1;show sS m h n+run m (gI m h n).1+1<=10*(n+1);omega
theorem vx(m:Nat)(h:Int)(n:Nat)(e:cz m h (sS m h n)=⟨(gI m h n).1,run m (gI m h n).1,(gI m h n).1,(gI m h n).2,none⟩):
  ∀r,r<=run m (gI m h n).1->cz m h (sS m h n+r)=⟨(gI m h n).1+r,run m (gI m h n).1 - r,(gI m h n).1,(gI m h n).2,none⟩
 |0,_=>e
 |r+1,hr=>by
  have Z:=vx m h n e r (by omega);show(tb m).advance (cz m h (sS m h n+r))=_;rw[Z];unfold UW;simp only;rw[if_pos (by omega)];simp only[Probe.mk.injEq,and_true,true_and];omega
theorem rH(m:Nat)(h:Int):∀n,cz m h (sS m h n)=⟨(gI m h n).1,run m (gI m h n).1,(gI m h n).1,(gI m h n).2,none⟩
 |0=>rfl
 |n+1=>by
  have e:=vx m h n (rH m h n) _ (OF _);show(tb m).advance (cz m h (sS m h n+run m (gI m h n).1))=_;rw[e];unfold UW;simp only;rw[if_neg (by omega)];rfl
def vy(m:Nat)(h:Int)(n r:Nat)(Z:r<=run m (gI m h n).1):(cz m h (sS m h n+r)).j=(gI m h n).1+r:=by rw[vx m h n (rH m h n) r Z]
theorem Ad(m:Nat)(h:Int):∀n,(gI m h n).2=U5 h / 32 ^ n
 |0=>by simp[gI]
 |n+1=>by
  show(gI m h n).2 / 32=_;rw[Ad m h n,Nat.div_div_eq_div_mul,Nat.pow_succ]
def F6(h:Int):U5 h<2 ^ 64:=by unfold U5;have Z:0<=h % (2 ^ 64:Int):=QU _ (by decide);have Y:h % (2 ^ 64:Int)<2 ^ 64:=Qq _ (by decide);omega
theorem Nx(m:Nat)(h:Int)(n:Nat):(gI m h (13+n)).2=0:=by
 rw[Ad];refine Nat.div_eq_of_lt (OU (F6 h) ?_);have:(2:Nat) ^ 64<=32 ^ 13:=by decide
 exact OR this (Nat.pow_le_pow_right (by decide) (by omega))
def Lz(m:Nat):Nat->Nat->Nat
 |0,a=>a
 |n+1,a=>(Lz m n a*5+1) % (m+1)
theorem yT(m:Nat)(h:Int):∀n,(gI m h (13+n)).1=Lz m n (gI m h 13).1
 |0=>rfl
 |n+1=>by
  show((gI m h (13+n)).1*5+1+(gI m h (13+n)).2 / 32) % (m+1)=(Lz m n (gI m h 13).1*5+1) % (m+1);rw[Nx,yT m h n]
theorem Dw(m:Nat)(h:Int):∀n,(gI m h n).1<m+1
 |0=>Sj _ (by omega)
 |n+1=>Sj _ (by omega)
def Ny:∀a,a<8->∀j,j<8->∃n,n<8/\Lz 7 n a=j:=by decide+kernel
def LA:∀a,a<32->∀j,j<32->∃n,n<32/\Lz 31 n a=j:=by decide+kernel
def HG(m:Nat):Prop:=m=7\/m=31
theorem Dx(X:HG m)(h:Int)(j:Nat)(W:j<=m):∃n,n<m+14/\(gI m h n).1=j:=by
 rcases X with rfl|rfl
 ·obtain⟨n,Y,Z⟩:=Ny _ (Dw 7 h 13) j (by omega);exact⟨13+n,by omega,by rw[yT];exact Z⟩
 ·obtain⟨n,Y,Z⟩:=LA _ (Dw 31 h 13) j (by omega);exact⟨13+n,by omega,by rw[yT];exact Z⟩
def cover(Z:HG m)(h:Int)(j:Nat)(Y:j<=m):∃K,K<10*U6 m/\(cz m h K).j=j:=by obtain⟨n,W,X⟩:=Dx Z h j Y;refine⟨sS m h n,?_,by rw[rH];exact X⟩;have:=Dv m h n;unfold U6;omega
def ui(h:i<m+1):i+run m i<=m:=by unfold run UF;split<;>omega
def Jj{p:Probe}(h:p.j+p.more<=m):((tb m).advance p).j+((tb m).advance p).more<=m:=by
 unfold UW;split
 ·simp only;omega
 ·simp only[leap];exact ui (Sj _ (by omega))
theorem uj(m:Nat)(h:Int):∀k,(cz m h k).j+(cz m h k).more<=m
 |0=>ui (Sj _ (by omega))
 |k+1=>Jj (uj m h k)
def F7(m:Nat)(h:Int)(k:Nat)(_:HG m):(cz m h k).j<=m:=OR (QH _ _) (uj m h k)
def F8(xs:Array Nat):Prop:=∀(i j a b:Nat),i<j->xs[i]? =ar a->xs[j]? =ar b->a<b
theorem rJ(Y:F8 xs):∀(fuel lo hi:Nat),lo<=hi->hi<=xs.size->hi - lo<=fuel->(∀(i a:Nat),i<lo->xs[i]? =ar a->a<j)->(∀(i a:Nat),hi<=i->xs[i]? =ar a->j<=a)->
  UG xs j fuel lo hi<=xs.size/\(∀(i a:Nat),i<UG xs j fuel lo hi->xs[i]? =ar a->a<j)/\(∀(i a:Nat),UG xs j fuel lo hi<=i->xs[i]? =ar a->j<=a)
 |0,lo,hi,h1,h2,h3,h4,h5=>by
  have:lo=hi:=by omega
  subst this;exact⟨h2,h4,h5⟩
 | fuel+1,lo,hi,h1,h2,h3,h4,h5=>by
  unfold UG;by_cases hlt:lo<hi
  ·rw[if_pos hlt];simp only;have Z:(lo+hi) / 2<xs.size:=by omega
   have U:xs.getD ((lo+hi) / 2) j=xs[(lo+hi) / 2]:=by simp[UH,Z]
   have X:xs[(lo+hi) / 2]? =ar xs[(lo+hi) / 2]:=ON Z;rw[U];split
   ·next hc=>
    refine rJ Y fuel _ hi (by omega) h2 (by omega) (λi a W e=>?_) h5;by_cases he:i=(lo+hi) / 2
    ·subst he;rw[X]at e;cases e;exact hc
    ·exact R4 (Y i _ a _ (by omega) e X) hc
   ·next hc=>
    refine rJ Y fuel lo _ (by omega) (by omega) (by omega) h4 (λi a W e=>?_);by_cases he:i=(lo+hi) / 2
    ·subst he;rw[X]at e;cases e;omega
    ·have:=Y _ i _ a (by omega) X e;omega
  ·rw[if_neg hlt];have:lo=hi:=by omega
   subst this;exact⟨h2,h4,h5⟩
theorem rK(Y:F8 xs)(j:Nat):vn xs j<=xs.size/\(∀(i a:Nat),i<vn xs j->xs[i]? =ar a->a<j)/\(∀(i a:Nat),vn xs j<=i->xs[i]? =ar a->j<=a):=
 rJ Y xs.size 0 xs.size (OX _) (OF _) (by omega) (λ_ _ h=>absurd h (SV _)) λi a Z e=>by rw[P3 Z]at e;cases e
theorem yU(Z:F8 xs)(h:xs[i]? =ar j):vn xs j=i:=by
 obtain⟨_,W,Y⟩:=rK Z j;rcases Sk (vn xs j) i with l|l|l
 ·have X:vn xs j<xs.size:=R4 l (O3.mp h).1;have e:xs[vn xs j]? =ar xs[vn xs j]:=ON X;have T:=Z _ _ _ _ l e h;have U:=Y _ _ (OF _) e;omega
 ·exact l
 ·have:=W i j l h;omega
def oW{t:ly}(h:t.slot j= .live i):t.place[i]? =ar j:=by
 unfold slot at h;simp only at h;split at h
 ·next hc=>cases h;exact Ue hc
 ·split at h<;>cases h
def qC{t:ly}(Z:F8 t.place)(h:t.place[i]? =ar j):t.slot j= .live i:=by unfold slot;simp only;rw[yU Z h,h];simp
def Ae{t:ly}(Z:t.dummies= #[])(j:Nat):(∃i,t.slot j= .live i)\/t.slot j= .empty:=by
 unfold slot;simp only;rw[Z];split
 ·exact .inl ⟨_,rfl⟩
 ·exact .inr (by simp[has])
def yV{t:ly}(Z:F8 t.place)(h:t.slot j= .empty):∀(i:Nat),t.place[i]? ≠ar j:=λi e=>by rw[qC Z e]at h;cases h
theorem Af(Z:F8 xs)(h:∀(j:Nat),j<n->∃i:Nat,xs[i]? =ar j):∀(j:Nat),j<n->∃i:Nat,j<=i/\xs[i]? =ar j
 |0,hj=>by obtain⟨i,e⟩:=h 0 hj;exact⟨i,OX _,e⟩
 |j+1,hj=>by
  obtain⟨i,W,X⟩:=Af Z h j (by omega);obtain⟨Y,e⟩:=h (j+1) hj;refine⟨Y,?_,e⟩;rcases Sk i Y with l|l|l
  ·omega
  ·subst l;rw[X]at e;cases e
  ·have:=Z _ _ _ _ l e X;omega
theorem Bw{t:ly}(X:F8 t.place)(Y:t.dummies= #[])(hs:t.place.size<=t.mask):∃j,j<=t.mask/\t.slot j= .empty:=by
 apply R7;intro Z;have:∀(j:Nat),j<t.mask+1->∃i:Nat,t.place[i]? =ar j:=λj T=>by
  rcases Ae Y j with⟨i,e⟩|e
  ·exact⟨i,oW e⟩
  ·exact absurd ⟨j,by omega,e⟩ Z
 obtain⟨i,U,W⟩:=Af X this t.mask (by omega);have:=(O3.mp W).1;omega
theorem Ag{t:ly}(X:t.dummies= #[])(Y:Nat->Int)(h:Int)(K:Nat)(W:t.slot (cz t.mask h K).j= .empty):∀(fuel k:Nat),k<=K->K - k<fuel->
    ∃Z,k<=Z/\Z<=K/\(∀m,k<=m->m<Z->∃i,t.slot (cz t.mask h m).j= .live i/\Y i≠h)/\
      ((t.slot (cz t.mask h Z).j= .empty/\U7 t Y h fuel (cz t.mask h k)=ar (.empty (cz t.mask h Z).j none))\/
       (∃i,t.slot (cz t.mask h Z).j= .live i/\Y i=h/\U7 t Y h fuel (cz t.mask h k)=ar (.candidate (cz t.mask h Z).j i (cz t.mask h (Z+1)))))
  |0,k,h1,h2=>by omega
  | fuel+1,k,h1,h2=>by
    unfold U7;rcases Ae X (cz t.mask h k).j with⟨i,e⟩|e
    · rw[e]
      simp only;by_cases hh:Y i=h
      · rw[if_pos (by simpa using hh)]
        exact⟨k,OF _,h1,λm a b=>by omega,.inr ⟨i,e,hh,rfl⟩⟩
      · rw[if_neg (by simpa using hh)]
        have U:k≠K:=λz=>by subst z;rw[W]at e;cases e
        obtain⟨Z,g1,g2,g3,T⟩:=Ag X Y h K W fuel (k+1) (by omega) (by omega);refine⟨Z,by omega,g2,λm a b=>?_,?_⟩
        · by_cases hm:m=k
          · subst hm;exact⟨i,e,hh⟩
          · exact g3 m (by omega) b
        · rw[Jh];exact T
    · rw[e]
      simp only[rG];exact⟨k,OF _,h1,λm a b=>by omega,.inl ⟨e,rfl⟩⟩
abbrev Ent:=Int×a_
def At(pl:Array Nat)(es:Array Ent)(j:Nat)(e:Ent):Prop:=∃i:Nat,pl[i]? =ar j/\es[i]? =ar e
structure TPre(t:ly)(es:Array Ent):Prop where
 msk:HG t.mask
 dum:t.dummies= #[]
 siz:t.place.size=es.size
 ris:F8 t.place
 inb:∀(i a:Nat),t.place[i]? =ar a->a<=t.mask
 way:∀(j:Nat) (e:Ent),At t.place es j e->∃k,(cz t.mask e.1 k).j=j/\∀m,m<k->∃e',At t.place es (cz t.mask e.1 m).j e'
structure TOk(t:ly)(es:Array Ent):Prop extends TPre t es where
 few:es.size*5<t.mask*3
theorem TPre.fits(k:TPre t es)(h:es.size<=t.mask):t.fits es.size=true:=by unfold SetTable.fits fill;rw[k.siz,k.dum];simpa using h
def TOk.le(k:TOk t es):es.size<=t.mask:=by have:=k.few;omega
theorem TPre.at_of{t:ly}{es:Array Ent}(k:TPre t es){i j:Nat}(h:t.place[i]? =ar j):∃e,es[i]? =ar e/\At t.place es j e:=by
 have Z:i<es.size:=by rw[<-k.siz];exact(O3.mp h).1
 exact⟨es[i],ON Z,i,h,ON Z⟩
theorem Dy(Z:Bool):TOk (G4 0 0 Z) #[] where
 msk:=.inl rfl
 dum:=rfl
 siz:=rfl
 ris:=λi j a b _ h _=>by simp[G4]at h
 inb:=λi a h=>by simp[G4]at h
 way:=λj e ⟨i,h,_⟩=>by simp[G4]at h
 few:=by show 0*5<7*3;decide
theorem fw{α:Type}(xs:Array α)(p:Nat)(x:α)(Y:p<=xs.size)(i:Nat):(e_ xs p x)[i]? =if i<p then xs[i]? else if i=p then ar x else xs[i - 1]? :=by
 rw[<-O8,SetTable.toList_insertAt];have Z:(xs.toList.take p).length=p:=by simp[Y]
 by_cases h1:i<p
 ·rw[if_pos h1,Pf (by omega),Sh h1,O8]
 ·rw[if_neg h1,Q0 (by omega),Z];by_cases h2:i=p
  ·subst h2;simp
  ·rw[if_neg h2];obtain⟨d,hd⟩:∃d,i - p=d+1:=⟨i - p - 1,by omega⟩;rw[hd,List.getElem?_cons_succ,R5,show p+d=i - 1 by omega,O8]
def rL{α:Type}(xs:Array α)(p:Nat)(x:α):(e_ xs p x).size=xs.size+1:=by have:=(SetTable.insertAt_perm xs p x).length_eq;simpa using this
theorem Dz{X:Array Nat}{es:Array Ent}(hs:X.size=es.size)(Y:p<=X.size)(W:Nat)(U:Ent):
  At (e_ X p j) (e_ es p e) W U↔At X es W U\/(W=j/\U=e):=by
 have Z:p<=es.size:=by rw[<-hs];exact Y
 constructor
 ·rintro⟨i,h1,h2⟩;rw[fw _ _ _ Y]at h1;rw[fw _ _ _ Z]at h2;by_cases c1:i<p
  ·rw[if_pos c1]at h1 h2;exact .inl ⟨i,h1,h2⟩
  ·rw[if_neg c1]at h1 h2;by_cases c2:i=p
   ·rw[if_pos c2]at h1 h2;cases h1;cases h2;exact .inr ⟨rfl,rfl⟩
   ·rw[if_neg c2]at h1 h2;exact .inl ⟨_,h1,h2⟩
 ·rintro(⟨i,h1,h2⟩|⟨rfl,rfl⟩)
  ·by_cases c1:i<p
   ·exact⟨i,by rw[fw _ _ _ Y,if_pos c1];exact h1,by rw[fw _ _ _ Z,if_pos c1];exact h2⟩
   ·exact⟨i+1,by rw[fw _ _ _ Y,if_neg (by omega),if_neg (by omega)];exact h1,by rw[fw _ _ _ Z,if_neg (by omega),if_neg (by omega)];exact h2⟩
  ·exact⟨p,by rw[fw _ _ _ Y,if_neg (by omega),if_pos rfl],by rw[fw _ _ _ Z,if_neg (by omega),if_pos rfl]⟩
theorem Jk{t:ly}(Z:t.dummies= #[])(j:Nat):t.put j=({t with place:=e_ t.place (vn t.place j) j},vn t.place j):=by
 unfold put;simp only;rw[Z];have:has (#[]:Array Nat) j=false:=by simp[has]
 rw[this];cases t;simp only at Z;subst Z;rfl
theorem Jl(k:TPre t es){e:Ent}(N:j<=t.mask)(H:t.slot j= .empty)(L:(cz t.mask e.1 K).j=j)(G:∀m,m<K->∃P,At t.place es (cz t.mask e.1 m).j P):
  TPre (t.put j).1 (e_ es (t.put j).2 e)/\(t.put j).1.mask=t.mask/\(t.put j).1.led=t.led/\(t.put j).1.plain=t.plain:=by
 obtain⟨X,I,J⟩:=rK k.ris j;have S:=yV k.ris H;rw[Jk k.dum];refine⟨⟨k.msk,k.dum,?_,?_,?_,?_⟩,rfl,rfl,rfl⟩
 ·show(e_ t.place (vn t.place j) j).size=_;rw[rL,rL,k.siz]
 ·intro Q T a b U W R;have Y:(e_ t.place (vn t.place j) j)[Q]? =ar a:=W;have Z:(e_ t.place (vn t.place j) j)[T]? =ar b:=R;rw[fw _ _ _ X]at Y Z;by_cases c1:Q<vn t.place j
  ·rw[if_pos c1]at Y;by_cases c2:T<vn t.place j
   ·rw[if_pos c2]at Z;exact k.ris _ _ _ _ U Y Z
   ·rw[if_neg c2]at Z;by_cases c3:T=vn t.place j
    ·rw[if_pos c3]at Z;cases Z;exact I _ _ c1 Y
    ·rw[if_neg c3]at Z;exact k.ris _ _ _ _ (by omega) Y Z
  ·rw[if_neg c1]at Y;rw[if_neg (by omega),if_neg (by omega)]at Z;by_cases c3:Q=vn t.place j
   ·rw[if_pos c3]at Y;cases Y;have q:=J _ _ (by omega) Z;have:b≠j:=λz=>by subst z;exact S _ Z
    omega
   ·rw[if_neg c3]at Y;exact k.ris _ _ _ _ (by omega) Y Z
 ·intro i a h;have h':(e_ t.place (vn t.place j) j)[i]? =ar a:=h;rw[fw _ _ _ X]at h';by_cases c1:i<vn t.place j
  ·rw[if_pos c1]at h';exact k.inb _ _ h'
  ·rw[if_neg c1]at h';by_cases c3:i=vn t.place j
   ·rw[if_pos c3]at h';cases h';exact N
   ·rw[if_neg c3]at h';exact k.inb _ _ h'
 ·intro O P h;have up:∀{a b},At t.place es a b->At (e_ t.place (vn t.place j) j) (e_ es (vn t.place j) e) a b:=λz=>(Dz k.siz X _ _).mpr (.inl z);rcases (Dz k.siz X O P).mp h with h'|⟨rfl,rfl⟩
  ·obtain⟨n,W,R⟩:=k.way _ _ h';exact⟨n,W,λm hm=>let ⟨x,hx⟩:=R m hm;⟨x,up hx⟩⟩
  ·exact⟨K,L,λm hm=>let ⟨x,hx⟩:=G m hm;⟨x,up hx⟩⟩
abbrev Jm:=Array (Option Nat)
def Bx(o:Jm)(j:Nat):Prop:=∃k,o[j]? =ar (ar k)
structure Laid(m:Nat)(hs:List Int)(o:Jm):Prop where
 siz:o.size=m+1
 way:∀(j k:Nat),o[j]? =ar (ar k)->∃x,hs[k]? =ar x/\∃n,(cz m x n).j=j/\∀i,i<n->Bx o (cz m x i).j
theorem uk{o:Jm}(Q:o.size=m+1)(h:Int)(R:Nat)(P:o[(gI m h R).1]? =ar none):∀(fuel n:Nat),n<=R->R - n<fuel->
  ∃idx,sS m h n<=idx/\L_ m o fuel (gI m h n).1 (gI m h n).2=ar (cz m h idx).j/\o[(cz m h idx).j]? =ar none/\∀i,sS m h n<=i->i<idx->Bx o (cz m h i).j
 |0,n,h1,h2=>by omega
 | fuel+1,n,h1,h2=>by
  have T:UF m (gI m h n).1+1 - (gI m h n).1=run m (gI m h n).1+1:=by unfold run UF;split<;>omega
  have O:(gI m h n).1+run m (gI m h n).1<=m:=by have:=Dw m h n;unfold run UF;split<;>omega
  have get:∀k,k<=run m (gI m h n).1->o.getD ((gI m h n).1+k) (ar 0)=o[(gI m h n).1+k]?.getD (ar 0):=λk _=>by simp
  have S:∀k,k<=run m (gI m h n).1->(o.getD ((gI m h n).1+k) (ar 0)).isNone=c_->Bx o (cz m h (sS m h n+k)).j:=λk U N=>by
   rw[vy m h n k U];have Z:(gI m h n).1+k<o.size:=by omega
   rw[get k U,ON Z]at N;cases e:o[(gI m h n).1+k]with
   |none=>simp[e]at N
   |some z=>exact⟨z,by rw[ON Z,e]⟩
  unfold L_;rw[T];cases q:(ee (run m (gI m h n).1+1)).find? (λk=>(o.getD ((gI m h n).1+k) (ar 0)).isNone)with
  | some k=>
   simp only;have U:=List.find?_some q;have X:k<=run m (gI m h n).1:=by have:=List.mem_of_find?_eq_some q;rw[OP]at this;omega
   refine⟨sS m h n+k,by omega,by rw[vy m h n k X],?_,λi a b=>?_⟩
   ·rw[vy m h n k X];have Z:(gI m h n).1+k<o.size:=by omega
    rw[get k X,ON Z]at U;rw[ON Z];cases e:o[(gI m h n).1+k]with
    |none=>rfl
    |some z=>simp[e]at U
   ·obtain⟨d,rfl⟩:∃d,i=sS m h n+d:=⟨i - sS m h n,by omega⟩;refine S d (by omega) ?_;have Y:=List.find?_eq_some_iff_getElem.mp q;obtain⟨_,H,K,e1,e2⟩:=Y;simp at e1;subst e1;have:=e2 d (by omega);simpa using this
  | none=>
   simp only;have Y:=List.find?_eq_none.mp q;have W:∀k,k<=run m (gI m h n).1->Bx o (cz m h (sS m h n+k)).j:=λk U=>S k U (by have:=Y k (OP.mpr (by omega));exact Sn.mpr this)
   have L:n≠R:=λz=>by subst z;obtain⟨k,e⟩:=W 0 (OX _);rw[vy m h n 0 (OX _)]at e;rw[Nat.add_zero,P]at e;cases e
   obtain⟨idx,g1,g2,g3,J⟩:=uk Q h R P fuel (n+1) (by omega) (by omega);have I:sS m h (n+1)=sS m h n+run m (gI m h n).1+1:=rfl;refine⟨idx,by omega,g2,g3,λi a b=>?_⟩;by_cases hi:sS m h (n+1)<=i
   ·exact J i hi b
   ·obtain⟨d,rfl⟩:∃d,i=sS m h n+d:=⟨i - sS m h n,by omega⟩;exact W d (by omega)
def dX(m:Nat)(f:Nat->Option Nat):List (Nat×Nat):=(ee (m+1)).filterMap λj=>(f j).map λk=>(j,k)
theorem nR{α Z:Type}{f g:α->Option Z}:∀{l:List α},(∀x∈l,f x=g x)->l.filterMap f=l.filterMap g
 |[],_=>rfl
 |x::l,h=>by rw[Pr,Pr,h x OV,nR λy Y=>h y (OO _ Y)]
theorem DA{f g:Nat->Option Nat}(U:j<m+1)(X:f j=none)(W:g j=ar k)(Y:∀i,i≠j->g i=f i):(dX m g).Perm ((j,k)::dX m f):=by
 unfold dX;have e:ee (m+1)=ee j++j::(lN (j+1) (m - j)):=by rw[List.range_eq_range',List.range_eq_range',show m+1=j+(1+(m - j)) by omega, <-List.range'_append_1, <-List.range'_append_1];simp
 rw[e,List.filterMap_append,List.filterMap_append,Pr,Pr,X,W];simp only[B_,Option.map_none];rw[nR (l:=ee j) (g:=λj=>(f j).map λk=>(j,k)) λx Z=>by rw[Y x (by rw[OP]at Z;omega)],
  nR (l:=lN (j+1) (m - j)) (g:=λj=>(f j).map λk=>(j,k)) λx Z=>by rw[Y x (by rw[P6]at Z;omega)]]
 exact List.perm_middle
def fo(o:Jm)(j:Nat):Option Nat:=o.getD j none
theorem rM:fo o j=ar k↔o[j]? =ar (ar k):=by
 unfold fo;rw[Pg];cases o[j]? with
 |none=>simp
 |some z=>simp
structure LaidN(m:Nat)(hs:List Int)(o:Jm):Prop extends Laid m hs o where
 all:((dX m (fo o)).map (·.2)).Perm (ee hs.length)
def xc(L:LaidN m hs o):(dX m (fo o)).length=hs.length:=by have:=L.all.length_eq;simpa using this
theorem xf(L:LaidN m hs o)(S:hs.length<=m):∃j,j<=m/\o[j]? =ar none:=by
 apply R7;intro T;have Y:∀j,j∈ee (m+1)->∃k,fo o j=ar k:=λj X=>by
  rw[OP]at X;have Z:j<o.size:=by rw[L.siz];exact X
  cases e:o[j]with
  |none=>exact absurd ⟨j,by omega,by rw[ON Z,e]⟩ T
  |some k=>exact⟨k,rM.mpr (by rw[ON Z,e])⟩
 have:∀l:List Nat,(∀j∈l,∃k,fo o j=ar k)->(l.filterMap λj=>(fo o j).map λk=>(j,k)).length=l.length:=by
  intro l
  induction l with
  |nil=>intro _;rfl
  |cons x l ih=>
   intro h;obtain⟨k,e⟩:=h x OV;rw[Pr,e];simp only[B_,n3];rw[ih λj X=>h j (OO _ X)]
 have U:=this _ Y;have W:=xc L;unfold dX at W;rw[U,Pi]at W;omega
theorem DB(H:HG m)(L:LaidN m hs o)(G:hs.length<=m)(x:Int):
  ∃j,L_ m o (U6 m) (U5 x % (m+1)) (U5 x)=ar j/\LaidN m (hs++[x]) (o.setIfInBounds j (ar hs.length)):=by
 obtain⟨I,U,W⟩:=xf L G;obtain⟨N,Q,S⟩:=Dx H x I U;obtain⟨idx,_,g2,g3,P⟩:=uk L.siz x N (by rw[S];exact W) (U6 m) 0 (OX _) (by unfold U6;omega);refine⟨(cz m x idx).j,g2,?_⟩;generalize hj:(cz m x idx).j=j at g3⊢;have Y:j<o.size:=(O3.mp g3).1;have self:(o.setIfInBounds j (ar hs.length))[j]? =ar (ar hs.length):=by simp[Y]
 have X:∀i,i≠j->(o.setIfInBounds j (ar hs.length))[i]? =o[i]? :=λi Z=>by rw[Array.getElem?_setIfInBounds_ne (kC Z)]
 have up:∀i,Bx o i->Bx (o.setIfInBounds j (ar hs.length)) i:=λi ⟨k,e⟩=>by
  by_cases Z:i=j
  ·subst Z;exact⟨_,self⟩
  ·exact⟨k,by rw[X i Z];exact e⟩
 refine⟨⟨by rw[Array.size_setIfInBounds];exact L.siz,λi k e=>?_⟩,?_⟩
 ·by_cases Z:i=j
  ·subst Z;rw[self]at e;cases e;exact⟨x,by simp,idx,hj,λq T=>up _ (P q (OX _) T)⟩
  ·rw[X i Z]at e;obtain⟨y,R,n,J,O⟩:=L.way i k e;refine⟨y,?_,n,J,λq T=>up _ (O q T)⟩;rw[Pf (OI.mp R).1];exact R
 ·have K:=DA (m:=m) (j:=j) (k:=hs.length) (f:=fo o) (g:=fo (o.setIfInBounds j (ar hs.length))) (by rw[<-L.siz];exact Y)
   (by unfold fo;rw[Pg,g3];rfl) (rM.mpr self) (λi Z=>by unfold fo;rw[Pg,Pg,X i Z])
  refine(K.map (·.2)).trans ?_;rw[OG,RJ,SX];exact(G3 _ L.all).trans (List.perm_append_singleton _ _).symm
theorem qD(W:HG m):∀(rest hs:List Int) (o:Jm),LaidN m hs o->hs.length+rest.length<=m+1->
  ∃Y,rest.foldl (λ(acc:Option (Jm×Nat)) h=>do
   let (owner,k)<-acc;let j<-L_ m owner (U6 m) (U5 h % (m+1)) (U5 h)
   aC (owner.setIfInBounds j (ar k),k+1)) (ar (o,hs.length))=ar (Y,hs.length+rest.length)/\LaidN m (hs++rest) Y
 |[],hs,o,L,_=>⟨o,rfl,by rw[Pp];exact L⟩
 |x::rest,hs,o,L,hl=>by
  rw[O9]at hl;obtain⟨j,e,U⟩:=DB W L (by omega) x;obtain⟨Y,X,Z⟩:=qD W rest (hs++[x]) _ U (by simp;omega);refine⟨Y,?_,by rw[O7]at Z;exact Z⟩;rw[SR];simp only[Option.bind_eq_bind,M',e];rw[OG,RJ]at X;simp only[Option.bind_eq_bind]at X;rw[O9,show hs.length+(rest.length+1)=hs.length+1+rest.length by omega];exact X
theorem By(X:HG m)(Z:Array Int)(W:Z.size<=m+1):∃o,layClean m Z=ar o/\LaidN m Z.toList o:=by
 have Y:LaidN m [] (tw (m+1) none):=by
  refine⟨⟨by simp,λj k e=>?_⟩,?_⟩
  ·rw[So]at e;split at e<;>cases e
  ·have:dX m (fo (tw (m+1) none))=[]:=by
    unfold dX;rw[List.filterMap_eq_nil_iff];intro j _;have:fo (tw (m+1) none) j=none:=by
     cases e:fo (tw (m+1) none) j with
     |none=>rfl
     |some k=>
      rw[rM,So]at e;split at e<;>cases e
    rw[this];rfl
   rw[this];exact .refl _
 obtain⟨o,e,L⟩:=qD X Z.toList [] _ Y (by simpa using W);refine⟨o,?_,by simpa using L⟩;unfold layClean;rw[<-Array.foldl_toList];rw[show(tw (m+1) (none:Option Nat),0)=(tw (m+1) none,([]:List Int).length)from rfl];rw[e];rfl
theorem rN(f:Nat->Option Nat):∀l:List Nat,((l.filterMap λj=>(f j).map λk=>(j,k)).map (·.1)).Sublist l
 |[]=>.slnil
 |x::l=>by
  rw[Pr];cases f x with
  |none=>exact .cons _ (rN f l)
  |some k=>exact .cons₂ _ (rN f l)
theorem rO{f:Nat->Option Nat}:(j,k)∈dX m f↔j<m+1/\f j=ar k:=by
 unfold dX;rw[Qb];constructor
 ·rintro⟨a,h1,h2⟩;cases e:f a with
  |none=>rw[e]at h2;cases h2
  |some b=>
   rw[e]at h2;cases h2;exact⟨OP.mp h1,e⟩
 ·rintro⟨h1,h2⟩;exact⟨j,OP.mpr h1,by rw[h2];rfl⟩
def Jn{l:List Nat}(h:l.Pairwise (· <·)):F8 l.toArray:=by intro i j a b Z Y X;rw[Qs]at Y X;obtain⟨U,W⟩:=OI.mp Y;obtain⟨S,T⟩:=OI.mp X;have:=R8.mp h i j U S Z;rw[W,T]at this;exact this
theorem DC{α Y:Type}{f:α->Option Y}:∀{l:List α},(∀x∈l,∃y,f x=ar y)->∀i:Nat,(l.filterMap f)[i]? =l[i]?.bind f
 |[],_,i=>by simp
 |x::l,h,i=>by
  obtain⟨y,e⟩:=h x OV;rw[Pr,e];cases i with
  |zero=>simp[e]
  |succ i=>simpa using DC (λz Z=>h z (OO _ Z)) i
theorem F9{es:Array Ent}(G:HG m)(v:es.size*5<m*3)(F I:Nat)(N K:Bool):
  ∃(t':ly) (order:Array Nat),laid m F I N K (es.map (·.1))=ar (t',order)/\order.toList.Perm (ee es.size)/\(order.filterMap (es[·]?)).size=es.size/\TOk t' (order.filterMap (es[·]?))/\t'.led=N/\t'.plain=K/\t'.mask=m:=by
 obtain⟨o,e,L⟩:=By G (es.map (·.1)) (by rw[Array.size_map];omega);have hlen:(es.map (·.1)).toList.length=es.size:=by simp
 have Z:=L.all;rw[hlen]at Z;have J:∀p∈dX m (fo o),∃y,es[p.2]? =ar y:=λp Q=>by have:p.2∈ee es.size:=Z.mem_iff.mp (List.mem_map_of_mem Q);rw[OP]at this;exact⟨es[p.2],ON this⟩
 have R:(((dX m (fo o)).map (·.2)).toArray.filterMap (es[·]?)).toList=((dX m (fo o)).map (·.2)).filterMap (es[·]?):=by rw[Array.toList_filterMap]
 have W:(((dX m (fo o)).map (·.2)).toArray.filterMap (es[·]?)).toList.Perm es.toList:=by rw[R];exact(Z.filterMap _).trans (by rw[filterMap_getElem?_range])
 have U:(((dX m (fo o)).map (·.2)).toArray.filterMap (es[·]?)).size=es.size:=by have:=W.length_eq;simpa using this
 have S:∀(j:Nat) (x:Ent),At (((dX m (fo o)).map (·.1)).toArray) (((dX m (fo o)).map (·.2)).toArray.filterMap (es[·]?)) j x↔∃k,(j,k)∈dX m (fo o)/\es[k]? =ar x:=by
  intro j x;have key:∀i:Nat,(((dX m (fo o)).map (·.2)).toArray.filterMap (es[·]?))[i]? =((dX m (fo o))[i]?).bind λp=>es[p.2]? :=λi=>by
   rw[<-O8,R,DC (λz A=>by obtain⟨p,Q,rfl⟩:=O0.mp A;exact J p Q) i,O1]
   cases (dX m (fo o))[i]? <;>rfl
  constructor
  ·rintro⟨i,Y,X⟩;rw[Qs,O1]at Y;rw[key]at X;cases q:(dX m (fo o))[i]? with
   |none=>rw[q]at Y;cases Y
   |some p=>
    rw[q]at Y X;cases Y;exact⟨p.2,Pa q,X⟩
  ·rintro⟨k,Y,X⟩;obtain⟨i,P⟩:=QV.mp Y;exact⟨i,by rw[Qs,O1,P];rfl,by rw[key,P];exact X⟩
 refine⟨⟨m,((dX m (fo o)).map (·.1)).toArray, #[],F,N,I,K⟩,((dX m (fo o)).map (·.2)).toArray,?_,by simpa using Z,U,⟨⟨G,rfl,?_,?_,?_,?_⟩,?_⟩,rfl,rfl,rfl⟩
 ·unfold laid;rw[e];rfl
 ·rw[U];show(((dX m (fo o)).map (·.1)).toArray).size=_;rw[OL,OC,xc L,hlen]
 ·exact Jn (List.Pairwise.sublist (rN _ _) List.pairwise_lt_range)
 ·intro i a h;have h':(((dX m (fo o)).map (·.1)).toArray)[i]? =ar a:=h;rw[Qs]at h';obtain⟨p,Q,rfl⟩:=O0.mp (Pa h');have:=(rO.mp Q).1;show p.1<=m;omega
 ·intro j x u;obtain⟨k,Y,X⟩:=(S j x).mp u;obtain⟨s,C⟩:=rO.mp Y;obtain⟨y,g1,n,g2,g3⟩:=L.way j k (rM.mp C);have E:y=x.1:=by
   rw[O8,Array.getElem?_map,X]at g1;cases g1;rfl
  subst E;refine⟨n,g2,λi P=>?_⟩;obtain⟨B,H⟩:=g3 i P;have O:(cz m x.1 i).j<m+1:=by rw[<-L.siz];exact(O3.mp H).1
  have T:=rO.mpr ⟨O,rM.mpr H⟩;obtain⟨t,w⟩:=J _ T;exact⟨t,(S _ _).mpr ⟨B,T,w⟩⟩
 ·rw[U];exact v
theorem Bz{t:ly}{es:Array Ent}(X:es.size=5):∃(t':ly) (order:Array Nat),t.relaid (es.map (·.1)) (SetTable.grown 5)=ar (t',order)/\order.toList.Perm (ee es.size)/\(order.filterMap (es[·]?)).size=es.size/\
  TOk t' (order.filterMap (es[·]?))/\t'.led=t.led/\t'.plain=t.plain:=by
 obtain⟨t',o,Y,S,Z,W,T,U,_⟩:=F9 (es:=es) (m:=31) (.inr rfl) (by rw[X];decide) t.finger (t.movedTo 31) t.led t.plain;exact⟨t',o,Y,S,Z,W,T,U⟩
end S4
namespace S4
open PySem PySem.Spec PyProof.Rows
section
variable {prog:ey}{w:fg}{A:j_}{E:a_->dr->Prop}{s:dr}
theorem items_int(h:ItemsAre (l_ prog w) ks vs):∀v∈vs,∃n t,v=o_ n t:=by
 induction h with
 |nil=>intro v Z;cases Z
 | cons h1 _ ih=>
  intro v Z;rcases O2.mp Z with rfl|Z
  ·obtain⟨t,e⟩:=Value.isInt_shape h1;exact⟨_,t,e⟩
  ·exact ih v Z
theorem BA{Q:Bool->dr->Prop}(Y:k7 (l_ prog w) s.heap ks a)(h:Q b_ s):eb (fc prog w) A (Uq 8 (.ref a)) Q E s:=by
 have X:=Y.typeIs;obtain⟨o,items,n,W,_,hd,U⟩:=Y;unfold Uq;refine OB (wpAny_specialOf X F.slot_tuple_hash.lookup ?_);show eb _ _ (US (.ref a)>>=_) _ _ s;refine OB (P9 W hd ?_);refine OB ?_;show eb _ _ (Vn items _ _) _ _ s;rw[<-Array.forIn_toList];refine RL _ (λrest r s'=>r.1=none/\s'=s/\∀v∈rest,∃n t,v=o_ n t) _ ?_ ?_ _ _ ⟨rfl,rfl,items_int U⟩
 ·rintro v rest r s' ⟨hr,rfl,hall⟩;obtain⟨i,t,rfl⟩:=hall v OV;refine OB ?_;unfold Uq;refine OE ?_;simp only[t8,fb,if_false];exact OE ⟨rfl,rfl,λu Z=>hall u (OO _ Z)⟩
 ·rintro⟨r1,r2⟩ s' ⟨hr,rfl,_⟩;simp only at hr;subst hr;exact OE h
theorem pQ{Q:Bool->dr->Prop}(Y:k7 (l_ prog w) s.heap ks a)(h:Q c_ s):eb (fc prog w) A (J' 8 (.ref a)) Q E s:=by
 have X:=Y.typeIs;obtain⟨o,items,n,W,_,hd,U⟩:=Y;unfold J';refine OB (Rh X ?_);simp only;rw[if_pos (by decide)];refine OB (OE ?_);simp only[t8,fb,if_false];refine OB (P9 W hd ?_);simp only;refine OB ?_;show eb _ _ (Vn items _ _) _ _ s;rw[<-Array.forIn_toList];refine RL _ (λrest r s'=>r.1=none/\s'=s/\∀v∈rest,∃n t,v=o_ n t) _ ?_ ?_ _ _ ⟨rfl,rfl,items_int U⟩
 ·rintro v rest r s' ⟨hr,rfl,hall⟩;obtain⟨i,t,rfl⟩:=hall v OV;refine OB ?_;unfold J';refine OE ?_;simp only[fb,if_false];exact OE ⟨rfl,rfl,λu Z=>hall u (OO _ Z)⟩
 ·rintro⟨r1,r2⟩ s' ⟨hr,rfl,_⟩;simp only at hr;subst hr;exact OE h
theorem Jo(Y:k7 (l_ prog w) s.heap kx ax)(U:∀y∈ys,∃k a,y= .ref a/\k7 (l_ prog w) s.heap k a){Q:Bool->dr->Prop}(h:Q c_ s):
  eb (fc prog w) A (searchCouldBeSeen (.ref ax) ys) Q E s:=by
 unfold searchCouldBeSeen;refine OB ?_;refine RL _ (λrest r s'=>r.1=none/\s'=s/\∀v∈rest,∃k a,v= .ref a/\k7 (l_ prog w) s.heap k a) _ ?_ ?_ _ _ ⟨rfl,rfl,U⟩
 ·rintro v rest r s' ⟨hr,rfl,hall⟩;obtain⟨k,a,rfl,X⟩:=hall v OV;have W:∀u∈rest,∃k a,u= .ref a/\k7 (l_ prog w) s'.heap k a:=λu Z=>hall u (OO _ Z);simp only;split
  ·exact OE ⟨rfl,rfl,W⟩
  ·refine OB (wpAny_eqIsQuiet_tuple Y ?_);simp only[t8,fb,if_false];refine OB (wpAny_eqIsQuiet_tuple X ?_);simp only[t8,fb,if_false];refine OB (pQ Y ?_);simp only[fb,if_false];refine OB (pQ X ?_);simp only[fb,if_false];exact OE ⟨rfl,rfl,W⟩
 ·rintro⟨r1,r2⟩ s' ⟨hr,rfl,_⟩;simp only at hr;subst hr;exact OE h
abbrev KA:=List Int×dt
def ji(prog:ey)(w:fg)(k:List Int):Int:=tupleKeyHash (l_ prog w) k
def ent(prog:ey)(w:fg)(p:KA):Ent:=(ji prog w p.1,.ref p.2)
def yW(prog:ey)(w:fg)(h:gg)(L:List KA):Prop:=∀p∈L,k7 (l_ prog w) h p.1 p.2
structure SetAt(prog:ey)(w:fg)(h:gg)(a:dt)(o:Obj)(es:Array Ent)(ep:Nat)(t:ly)(L:List KA):Prop where
 get:h.get? a=ar o
 ex:o.ExactSet
 dat:o.data= .set es ep t
 ok:TOk t es
 pln:t.plain=b_
 led:t.led= !(w.params.followText "set-order")
 ents:es.toList=L.map (ent prog w)
 nd:(L.map (·.1)).Nodup
theorem SetAt.fits(k:SetAt prog w h a o es ep t L):t.fits es.size=true:=k.ok.fits k.ok.le
def SetAt.ent_at(k:SetAt prog w h a o es ep t L)(i:Nat):es[i]? =(L[i]?).map (ent prog w):=by rw[<-O8,k.ents,O1]
def SetAt.len(k:SetAt prog w h a o es ep t L):es.size=L.length:=by rw[<-QB,k.ents,OC]
def DD{t:ly}:t.sameMemory t.moves t.mask=ar true:=by unfold SetTable.sameMemory;simp
theorem um{a ax:dt}{o:Obj}{es:Array Ent}{ep:Nat}{t:ly}{L:List KA}{Z:List Int}(hu:A.units<y4)(k:SetAt prog w s.heap a o es ep t L)(f:yW prog w s.heap L)(c:k7 (l_ prog w) s.heap Z ax)
  {K:Nat} (v:t.slot (cz t.mask (ji prog w Z) K).j= .empty) (O:K<10*G_ t.mask) {Q:SetFound->dr->Prop}
  (U:Z∈L.map (·.1)->Q (.there none) s)
  (N:Z∉L.map (·.1)->∀n,t.slot (cz t.mask (ji prog w Z) n).j= .empty->(∀m,m<n->∃i,t.slot (cz t.mask (ji prog w Z) m).j= .live i)->Q (.free (cz t.mask (ji prog w Z) n).j c_) s):
  ∀(fuel n:Nat) (st:Option SetTable.Probe),st.getD (t.probeStart (ji prog w Z))=cz t.mask (ji prog w Z) n->n<=K->K - n<fuel->
   (∀m,m<n->∃i,t.slot (cz t.mask (ji prog w Z) m).j= .live i/\∀p,L[i]? =ar p->p.1≠Z)->eb (fc prog w) A (setSearchFrom a (.ref ax) (ji prog w Z) b_ fuel st) Q E s
 |0,n,st,e,B,h2,h3=>by omega
 | fuel+1,n,st,e,B,h2,h3=>by
  have odd:t.gaveWay=false:=by unfold SetTable.gaveWay;rcases k.ok.msk with h|h<;>rw[h]<;>rfl
  unfold setSearchFrom;refine OB (P7 k.get k.dat k.fits ?_);simp only;rw[odd];simp only[fb,if_false];rw[e];obtain⟨Y,g1,g2,g3,g4⟩:=Ag k.ok.dum (λi=>(es[i]?.map (·.1)).getD 0) (ji prog w Z) K v (10*G_ t.mask) n B (by omega);have stored:∀(i:Nat) (p:KA),L[i]? =ar p->(es[i]?.map (·.1)).getD 0=ji prog w p.1:=λi p W=>by rw[k.ent_at,W];rfl
  have before:∀m,m<Y->∃i,t.slot (cz t.mask (ji prog w Z) m).j= .live i/\∀p,L[i]? =ar p->p.1≠Z:=λm hm=>by
   by_cases hmn:m<n
   ·exact h3 m hmn
   ·obtain⟨i,R,b⟩:=g3 m (by omega) hm;refine⟨i,R,λp W z=>b ?_⟩;rw[stored i p W,z]
  rcases g4 with⟨c1,c2⟩|⟨i,c1,c2,c3⟩
  ·generalize hpr:t.probe _ (ji prog w Z) (cz t.mask (ji prog w Z) n)=pr;have ep:pr=ar (.empty (cz t.mask (ji prog w Z) Y).j none):=hpr.symm.trans c2;subst ep;simp only;refine OE (N (λC=>?_) Y c1 λm hm=>let ⟨i,q,_⟩:=before m hm;⟨i,q⟩);obtain⟨p,W,rfl⟩:=O0.mp C;obtain⟨P,F⟩:=QV.mp W;have X:es[P]? =ar (ent prog w p):=by rw[k.ent_at,F];rfl
   have T:P<t.place.size:=by rw[k.ok.siz];exact(O3.mp X).1
   have r:At t.place es t.place[P] (ent prog w p):=⟨P,ON T,X⟩;obtain⟨g,w1,w2⟩:=k.ok.way _ _ r;have H:(cz t.mask (ji prog w p.1) g).j=t.place[P]:=w1;rcases Nat.lt_or_ge g Y with l|l
   ·obtain⟨i,R,b⟩:=before g l;rw[H,qC k.ok.ris (ON T)]at R;cases R;exact b p F rfl
   ·rcases Nat.eq_or_lt_of_le l with l|l
    ·subst l;rw[H,qC k.ok.ris (ON T)]at c1;cases c1
    ·obtain⟨e',i',R,_⟩:=w2 Y l;have u:t.place[i']? =ar (cz t.mask (ji prog w p.1) Y).j:=R;rw[qC k.ok.ris u]at c1;cases c1
  ·generalize hpr:t.probe _ (ji prog w Z) (cz t.mask (ji prog w Z) n)=pr;have ep:pr=ar (.candidate (cz t.mask (ji prog w Z) Y).j i (cz t.mask (ji prog w Z) (Y+1))):=hpr.symm.trans c3;subst ep;simp only;have hi:i<es.size:=by rw[<-k.ok.siz];exact(O3.mp (oW c1)).1
   have S:i<L.length:=by rw[<-k.len];exact hi
   have W:L[i]? =ar L[i]:=OH S;have X:es[i]? =ar (ent prog w L[i]):=by rw[k.ent_at,W];rfl
   have I:k7 (l_ prog w) s.heap L[i].1 L[i].2:=f _ (PY S);have d:∀y∈List.map (λx:Ent=>x.snd) (Array.filter (λx:Ent=>x.fst==ji prog w Z) es).toList,∃k a,y= .ref a/\k7 (l_ prog w) s.heap k a:=λy hy=>by
    obtain⟨e1,B,rfl⟩:=O0.mp hy;have G:e1∈es.toList:=by have:=RN.mp B;exact RN.mpr (Array.mem_filter.mp this).1
    rw[k.ents]at G;obtain⟨p,W,rfl⟩:=O0.mp G;exact⟨p.1,p.2,rfl,f p W⟩
   split
   case' isTrue=>
    refine OB (Jo c d ?_);simp only[fb,if_false]
   all_goals
    rw[X];simp only[ent];refine OB (Pl (wpAny_eqBool_tuple hu I c ?_));refine OB (P7 k.get k.dat k.fits ?_);by_cases hq:L[i].1=Z
    ·rw[OS hq];simp only[TR,if_true];exact OE (U (O0.mpr ⟨_,PY S,hq⟩))
    ·rw[OY hq];simp only[Tf,fb,if_false];rw[DD];simp only[if_true];rw[c1];simp only;rw[X];simp only[ent];refine OB (wpAny_isSame_ref_self (OB (OE ?_)));simp only[if_true];refine um hu k f c v O U N fuel (Y+1) _ rfl ?_ ?_ λm hm=>?_
     ·have:Y≠K:=λz=>by subst z;rw[v]at c1;cases c1
      omega
     ·have:Y≠K:=λz=>by subst z;rw[v]at c1;cases c1
      omega
     ·by_cases hmn:m<Y
      ·exact before m hmn
      ·have:m=Y:=by omega
       subst this;exact⟨i,c1,λp J=>by rw[W]at J;cases J;exact hq⟩
end
def LB(L:List KA)(p:KA)(L':List KA):Prop:=(p.1∈L.map (·.1)/\L'=L)\/(p.1∉L.map (·.1)/\L'.Perm (p::L))
section
variable {prog:ey}{w:fg}{A:j_}{E:a_->dr->Prop}{s:dr}
theorem Ah{h:gg}(Y:h.get? a=ar o)(Z:o.data= .set es ep t):(h.update a (S_ es' t')).get? a=ar {o with data:=.set es' (ep+1) t'}:=by have:=PB (S_ es' t') Y (by rw[putSet_of es' t' Z];rfl);rw[putSet_of es' t' Z]at this;exact this
theorem Jp(hu:A.units<y4)(k:SetAt prog w s.heap a o es ep t L)(hL:yW prog w s.heap L)(hx:k7 (l_ prog w) s.heap kx ax)
  (a0:L.length<18) {Q:Bool->dr->Prop}
  (h:∀b h' o' es' ep' t' J,SetAt prog w h' a o' es' ep' t' J->ri a s.heap h'->LB L (kx,ax) J->Q b {s with heap:=h'}):
  eb (fc prog w) A (setAddHashed a (.ref ax) (ji prog w kx)) Q E s:=by
 obtain⟨j0,u,x⟩:=Bw k.ok.ris k.ok.dum (by rw[k.ok.siz];exact k.ok.le);obtain⟨K,r,g⟩:=cover k.ok.msk (ji prog w kx) j0 u;have d:10*G_ t.mask<=100000:=by unfold G_;rcases k.ok.msk with z|z<;>rw[z]<;>decide
 unfold setAddHashed setAddHashedIn;refine Pl (OB (P7 k.get k.dat k.fits ?_));have v:byScan (.ref ax) es=false:=by simp[byScan,Value.scannable]
 simp only[v,fb,if_false];unfold setSearch;refine OB ?_;refine um hu k hL hx (by rw[g];exact x) r ?_ ?_ 100000 0 none rfl (OX _) (by omega) (λm hm=>by omega)
 ·intro Y;simp only;refine OE ?_;have e:s={s with heap:=s.heap}:=by cases s;rfl
  rw[e];exact h _ s.heap o es ep t L k (Heap.SameBut.refl a s.heap) (.inl ⟨Y,rfl⟩)
 ·intro Y n f hb;simp only;refine OB (P7 k.get k.dat k.fits ?_);generalize hj:(cz t.mask (ji prog w kx) n).j=j at f;have H:j<=t.mask:=by
   rw[<-hj];rcases Nat.eq_zero_or_pos n with z|z
   ·subst z;show SetTable.bits _ % (t.mask+1)<=t.mask;have:=Sj (SetTable.bits (ji prog w kx)) (show t.mask+1>0 by omega);omega
   ·exact F7 _ _ _ k.ok.msk
  obtain⟨T,B,y,G⟩:=Jl (e:=ent prog w (kx,ax)) (K:=n) k.ok.toTPre H f hj λm hm=>by obtain⟨i,q⟩:=hb m hm;obtain⟨e',_,q'⟩:=k.ok.toTPre.at_of (oW q);exact⟨e',q'⟩
  generalize hP:t.put j=P at T B y G⊢;obtain⟨t1,pp⟩:=P;simp only at T B y G⊢;have T:TPre t1 (e_ es pp (ji prog w kx,er ax)):=T;rw[if_pos (by rw[G];exact k.pln)];refine OB (BA hx ?_);simp only[if_true];have Z:(e_ es pp (ji prog w kx,er ax)).size=es.size+1:=rL _ _ _;have hlen:=k.len;refine OB (wpAny_storeSet_of k.get k.dat ?_ (by rw[Z,PC];omega));have g1:=Ah (es':=e_ es pp (ji prog w kx,er ax)) (t':=t1) k.get k.dat;have I:=P8 s.heap a (S_ (e_ es pp (ji prog w kx,er ax)) t1);have W:(e_ es pp (ji prog w kx,er ax)).toList=(L.take pp++(kx,ax)::L.drop pp).map (ent prog w):=by rw[SetTable.toList_insertAt,k.ents,PX,OW,Sv,List.map_drop];rfl
  have X:(L.take pp++(kx,ax)::L.drop pp).Perm ((kx,ax)::L):=by
   have:=List.perm_middle (a:=(kx,ax)) (l₁:=L.take pp) (l₂:=L.drop pp)
   rwa [List.take_append_drop]at this
  have l:((kx::L.map (·.1))).Nodup:=PM.mpr ⟨Y,k.nd⟩;have C:∀J:List KA,J.Perm ((kx,ax)::L)->(J.map (·.1)).Nodup:=λJ hp=>(QD (hp.map (λp:KA=>p.1))).mpr l;by_cases hful:t1.tooFull=b_
  ·rw [hful];simp only[Bool.not_false,TR,if_true];have S:(es.size+1)*5 ≥ t.mask*3:=by
    unfold SetTable.tooFull SetTable.fill at hful;rw[T.siz,T.dum,B,Z]at hful;simpa using hful
   have c:es.size+1=5:=by have:=k.ok.few;rcases k.ok.msk with z|z<;>rw[z]at S this<;>omega
   obtain⟨t2,ord,r1,r2,r3,r4,r5,r6⟩:=Bz (t:=t1) (es:=e_ es pp (ji prog w kx,er ax)) (by rw[Z];exact c);have F:t1.fits (e_ es pp (ji prog w kx,er ax)).size=true:=T.fits (by rw[Z,B];have:=k.ok.few;rcases k.ok.msk with z|z<;>rw[z]at this⊢<;>omega)
   unfold setRelay;refine OB (OB (P7 (s:={s with heap:=s.heap.update a (S_ (e_ es pp (ji prog w kx,er ax)) t1)}) g1 rfl F ?_));simp only;rw[c];rw[if_neg (by rw[PC];decide)];rw[r1];refine OB ?_;have step:∀(R:Array Ent×ly->dr->Prop) (s1:dr),R (ord.filterMap ((e_ es pp (ji prog w kx,er ax))[·]?),t2) s1->
     eb (fc prog w) A (if ((ord.filterMap ((e_ es pp (ji prog w kx,er ax))[·]?)).size !=(e_ es pp (ji prog w kx,er ax)).size)=b_
      then (do unsupported "internal:set-table-lost-an-element";aC (ord.filterMap ((e_ es pp (ji prog w kx,er ax))[·]?),t2))else aC (ord.filterMap ((e_ es pp (ji prog w kx,er ax))[·]?),t2)) R E s1:=λR s1 hR=>by
    rw[if_neg (by rw[r3];simp)];exact OE hR
   refine step _ _ ?_;refine wpAny_storeSet_of (s:={s with heap:=s.heap.update a (S_ (e_ es pp (ji prog w kx,er ax)) t1)}) g1 rfl ?_ (by rw[r3,Z,PC];omega);have N:(ord.filterMap ((e_ es pp (ji prog w kx,er ax))[·]?)).toList=(ord.toList.filterMap ((L.take pp++(kx,ax)::L.drop pp)[·]?)).map (ent prog w):=by rw[Array.toList_filterMap,List.map_filterMap];refine nR λi _=>?_;rw[<-O8,W,O1]
   have U:(ord.toList.filterMap ((L.take pp++(kx,ax)::L.drop pp)[·]?)).Perm ((kx,ax)::L):=by
    refine(r2.filterMap _).trans ?_;have e1:(e_ es pp (ji prog w kx,er ax)).size=(L.take pp++(kx,ax)::L.drop pp).length:=by rw[<-QB,W,OC]
    rw[e1,List.filterMap_getElem?_range_length];exact X
   refine OE (h _ _ _ _ _ _ _ ⟨Ah g1 rfl,k.ex,rfl,r4,by rw[r6,G];exact k.pln,by rw[r5,y];exact k.led,N,C _ U⟩ (I.trans (P8 _ a _)) (.inr ⟨Y,U⟩))
  ·simp only[hful,Tf,fb,if_false];refine OE ?_;refine h _ _ _ _ _ _ _ ⟨g1,k.ex,rfl,⟨T,?_⟩,by rw[G];exact k.pln,by rw[y];exact k.led,W,C _ X⟩ I (.inr ⟨Y,X⟩);unfold SetTable.tooFull SetTable.fill at hful;rw[T.siz,T.dum]at hful;have O:¬ (e_ es pp (ji prog w kx,er ax)).size*5 ≥ t1.mask*3:=by simpa using hful
   exact Nat.lt_of_not_ge O
end
def yX{h':gg}(x:k7 (l_ prog w) h k a)(e:∀o,h.get? a=ar o->h'.get? a=ar o):k7 (l_ prog w) h' k a:=
 let ⟨o,its,n,ho,r⟩:=x
 ⟨o,its,n,e o ho,r⟩
def SetAt.at{h':gg}(k:SetAt prog w h a o es ep t L)(e:∀o,h.get? a=ar o->h'.get? a=ar o):SetAt prog w h' a o es ep t L:=
 {k with get:=e o k.get}
structure Folded(kv L:List KA):Prop where
 nd:(L.map (·.1)).Nodup
 mem:∀k,k∈L.map (·.1)↔k∈kv.map (·.1)
 sub:∀p∈L,p∈kv
 len:L.length<=kv.length
theorem Folded.nil:Folded [] []:=⟨.nil,λ_=>.rfl,λ_ h=>h,OF _⟩
theorem Folded.add(f:Folded kv L)(h:LB L p L'):Folded (kv++[p]) L':=by
 rcases h with⟨h1,rfl⟩|⟨h1,h2⟩
 ·refine⟨f.nd,λk=>?_,λq Z=>Q3 _ (f.sub q Z),by have:=f.len;simp;omega⟩;rw[f.mem,PX,PZ];refine⟨.inl,λz=>z.elim id λz=>?_⟩;have:k=p.1:=by simpa using z
  rw[this];exact(f.mem _).mp h1
 ·have hm:=h2.map (λq:KA=>q.1);refine⟨(QD hm).mpr (PM.mpr ⟨h1,f.nd⟩),λk=>?_,λq Z=>?_,by have:=f.len;rw[h2.length_eq];simp;omega⟩
  ·rw[hm.mem_iff,OW,O2,f.mem,PX,PZ];constructor
   ·rintro(rfl|z)
    ·exact .inr (by simp)
    ·exact .inl z
   ·rintro(z|z)
    ·exact .inr z
    ·exact .inl (by simpa using z)
  ·rcases O2.mp (h2.mem_iff.mp Z)with rfl|z
   ·exact OZ _ (QO.mpr rfl)
   ·exact Q3 _ (f.sub q z)
section
variable {prog:ey}{w:fg}{A:j_}{R:UV->dr->Prop}{I:dt}{fp wr:List dt}{G:Array Ti->Array Ti->Prop}{n:Nat}{P:Nat->a_->Prop}{St:Nat->dr->Prop}
theorem Ga(W:WalksS prog w A.in1 I fp wr G n P St)(J:S∉fp)(Z:Nat->KA)(H:∀i v,P i v->v= .ref (Z i).2)(hn:n<=18)(d:A.in1.units<y4)(C:∀i,i<n->(Z i).2∉S::wr):
  ∀(c i:Nat) (s:dr),n - i=c->i<=n->St i s->(∀j,j<n->k7 (l_ prog w) s.heap (Z j).1 (Z j).2)->∀o es ep t L,SetAt prog w s.heap S o es ep t L->Folded ((ee i).map Z) L->
   (∀s',Moved (S::wr) G s s'->∀o es ep t L,SetAt prog w s'.heap S o es ep t L->Folded ((ee n).map Z) L->R (.ok (.ret .none)) s')->
   rn (fc prog w) A (.builtin "set.update.loop" ⟨[.ref S,.ref I],[]⟩) R s:=by
 have E:S∉wr:=λh=>J (W.sub _ h);have X:∀b∈wr,b∈S::wr:=λb x=>OO _ x;intro c
 induction c with
 |zero=>
  intro i s hc hi Q f o es ep t L l K g;obtain rfl:i=n:=by omega
  refine Qz F.entry_set_update_loop ?_;rw[Qw Rt _];show eb _ A.in1 (B' (.ref I)>>=_) _ _ s;refine OB (W.done s _ _ Q λs' hm=>?_);show eb _ A.in1 (ret h_) _ _ s';exact OE (g s' (hm.mono X) o es ep t L (l.at λN e=>hm.heap S N E e) K)
 | succ c ih=>
  intro i s hc hi Q f o es ep t L l K g;have Y:i<n:=by omega
  refine Qz F.entry_set_update_loop ?_;rw[Qw Rt _];show eb _ A.in1 (B' (.ref I)>>=_) _ _ s;refine OB (W.item i s _ _ Y Q λv s' hP y hm=>?_);cases H i v hP;have k:=l.at (h':=s'.heap) λN e=>hm.heap S N E e;have U:∀j,j<n->k7 (l_ prog w) s'.heap (Z j).1 (Z j).2:=λj O=>yX (f j O) λN e=>hm.heap _ N (λz=>C j O (X _ z)) e;show eb _ A.in1 (yn [er (Z i).2] (setAdd S (.ref (Z i).2))>>=_) _ _ s';refine OB (Pl ?_);unfold setAdd;refine Pl ?_;refine OB (wpAny_pyHash_tuple d (U i Y) ?_);have a:L.length<=i:=by have:=K.len;simpa using this
  have u:yW prog w s'.heap L:=λp hp=>by obtain⟨j,O,rfl⟩:=O0.mp (K.sub p hp);exact U j (R4 (OP.mp O) Y)
  refine Jp (s:={s' with toks:=s'.toks+((Z i).1.length+1)}) d k u (U i Y) (by omega) λb h' N es' a0 t' L' r T hA=>?_;have q:Folded ((ee (i+1)).map Z) L':=by rw[SX,PX];exact K.add hA
  refine OE ⟨Sx Rt _,ih (i+1) _ (by omega) Y (W.frame _ s' _ _ y (QH _ _) λb x o e=>?_) (λj O=>yX (U j O) λo e=>?_) _ _ _ _ _ r q λm B=>?_⟩
  ·rw[T.2 b (λh:b=S=>J (by rw[<-h];exact x))];exact e
  ·rw[T.2 _ (λh=>C j O (by rw[h];exact OV))];exact e
  ·refine g m (Moved.trans W.gtrans ((hm.mono X).then_heap (QH _ _) λb o x e=>?_) B);rw[T.2 b (λh:b=S=>x (by rw[h];exact OV))];exact e
end
section
variable {prog:ey}{w:fg}{A:j_}{E:a_->dr->Prop}{s:dr}
def xg:Uj (.type "tuple") (.type "set")=aC false:=by rw[RI];kernel_rfl
def vz:Uj (.type "tuple") (.type "frozenset")=aC false:=by rw[RI];kernel_rfl
def bL(led:Bool):Obj:={cls:=.type "set",dict:=none,data:=.set #[] 0 (.fresh 0 0 led)}
def dP(w:fg):Bool:= !(w.params.followText "set-order")
def Src(h:gg)(x:dt)(items:Array a_):Prop:=h.IsList x items\/h.IsTuple x items
def Src.at{h':gg}(r:Src h x items)(e:∀o,h.get? x=ar o->h'.get? x=ar o):Src h' x items:=by
 rcases r with⟨o,ho,r⟩|⟨o,ho,r⟩
 ·exact .inl ⟨o,e o ho,r⟩
 ·exact .inr ⟨o,e o ho,r⟩
def Src.lt(r:Src h x items):x<h.objs.size:=by rcases r with⟨o,ho,_⟩|⟨o,ho,_⟩<;>exact OJ ho
theorem xh(r:Src s.heap x items)
  (h:∀(ob:Obj) (St:Nat->gg->Prop),(∀Y:j_,Y.handled=none->Walks prog w Y s.heap.objs.size [s.heap.objs.size,x] [s.heap.objs.size] items.size (λi v=>items[i]? =ar v) St)->St 0 (s.heap.push ob)->
   Q (.ref s.heap.objs.size) {s with heap:=s.heap.push ob}):eb (fc prog w) A (Sw (.ref x)) Q E s:=by
 have Z:x≠s.heap.objs.size:=OQ r.lt;rcases r with r|r
 ·refine RC r (h _ _ (λY X=>UE X s.heap.objs.size x Z items) ⟨⟨_,OK _ rfl,rfl,rfl⟩,r.push _⟩)
 ·refine Rm r (h _ _ (λY X=>Walks.tuple X s.heap.objs.size x Z items) ⟨⟨_,OK _ rfl,rfl,rfl⟩,?_⟩);obtain⟨o,W,q⟩:=r;exact⟨o,OD _ W,q⟩
theorem LC(a:a_){Q1:a_->dr->Prop}(h:Q1 (.ref s.heap.objs.size) {s with heap:=s.heap.push (bL (dP w))}):
  rn (fc prog w) A (.call (.builtin "set.__new__") ⟨[.type "set",a],[]⟩) (wants Q1 E) s:=by
 refine Ru ?_;show eb _ A.in1 (do R_ "set.__new__" ⟨[.type "set",a],[]⟩;To (.builtin "set.__new__" ⟨[.type "set",a],[]⟩)) _ _ s;refine OB (Tb (F.newCall_set_1 a) (OE ⟨Sx F.plain_set_new _,Qz F.entry_set_new ?_⟩));rw[Qw F.plain_set_new _];unfold Builtin.«set.__new__» Builtin.Frozenset.newClass;have Z:=sub_set_self;obtain⟨X,g,d,Y,os⟩:=s;dsimp only
 wp_walk
 refine QI (OE ?_);dsimp only;simp only[newObj];exact OB (wpAny_alloc (OE (OE h)))
theorem xi(r:Src s.heap x items):∃T,s.TypeIs (.ref x) T/\Uj (.type T) (.type "set")=aC c_/\Uj (.type T) (.type "frozenset")=aC c_/\(v_ T==v_ "dict")=false:=by
 rcases r with⟨o,ho,hc,_⟩|⟨o,ho,hc,_⟩
 ·exact⟨"list",⟨o,ho,hc⟩,F.sub_list_set,F.sub_list_frozenset,by decide⟩
 ·exact⟨"tuple",⟨o,ho,hc⟩,xg,vz,by decide⟩
set_option maxHeartbeats 8000000 in
theorem Jq(hh:A.handled=none)(hu:A.in1.in1.in1.units<y4)(r:Src s.heap x items)(X:Nat->KA)(U:∀(i:Nat) (v:a_),items[i]? =ar v->v= .ref (X i).2)(g:items.size<=18)
  (z:∀j,j<items.size->k7 (l_ prog w) s.heap (X j).1 (X j).2)
  (h:∀(h':gg) (tk:Nat) o es ep t L,SetAt prog w h' s.heap.objs.size o es ep t L->Folded ((ee items.size).map X) L->(∀b o,b<s.heap.objs.size->s.heap.get? b=ar o->h'.get? b=ar o)->
   Q (.ref s.heap.objs.size) {s with heap:=h',toks:=tk}):eb (fc prog w) A (call (.type "set") [.ref x]) Q E s:=by
 obtain⟨c,tl,n⟩:=F.called_set.mro;have I:=F.called_set.made;have p:=F.called_set.sub;refine Rf (Ru ?_);show eb _ _ (Vp (.type "set") _) _ _ _;refine OE ⟨Rv _ (by decide+kernel),Qz F.entry_type_call ?_⟩;rw[Around.under_plain (weight_type_call_type "set" [.ref x] []) rfl];have h1:=F.called_set.notType;have h2:=F.called_set.canCreate;have b2:=F.typeCall_set_1 (.ref x)
 repeat (any_goals (first|assumption|wp_step))
 refine Qi (LC (.ref x) (E:=E) (Q1:=λobj s1=>obj= .ref s.heap.objs.size/\s1={s with heap:=s.heap.push (bL (dP w))}) ⟨rfl,rfl⟩) λrr s1 K=>?_;cases rr with
 |error e=>exact K
 | ok fl=>
  cases fl with
  | ret obj=>
   obtain⟨rfl,rfl⟩:=K;have q:(s.heap.push (bL (dP w))).get? s.heap.objs.size=ar (bL (dP w)):=OK _ rfl;have u:M_ {s with heap:=s.heap.push (bL (dP w))} (.ref s.heap.objs.size) "set":=⟨_,q,rfl⟩;have a:=F.called_set.init.lookup;have a0:=F.called_set.init.bind (.ref s.heap.objs.size)
   repeat (any_goals (first|assumption|wp_step))
   refine Qi (Q4 (R:=wants (λr s2=>r= .none/\Q (.ref s.heap.objs.size) s2) E) F.called_set.init.plain F.entry_set_init (check_set_init_1 u ?_)) λd s2 Z=>?_
   ·have B:Src (s.heap.push (bL (dP w))) x items:=r.at λo e=>OD _ e;obtain⟨Tx,k,b3,b1,hd⟩:=xi (s:={s with heap:=s.heap.push (bL (dP w))}) B;unfold Builtin.«set.__init__» noKeywords Builtin.Frozenset.updateFrom;generalize hPI:Sw=PI;have f:=u;unfold bL at q
    wp_walk
    subst hPI;refine xh (s:={s with heap:=s.heap.push (bL (dP w))}) B λy St W J=>?_;refine OB (Ta ?_);have H:x<s.heap.objs.size:=r.lt;have Y:(s.heap.push (bL (dP w))).objs.size=s.heap.objs.size+1:=PP _ _;have N:s.heap.objs.size∉[(s.heap.push (bL (dP w))).objs.size,x]:=by rw[Y];simp only[gc,f_,or_false,not_or];exact⟨OQ (QG _),Qh H⟩
    have P:A.in1.in1.in1.handled=none:=by simp[hh]
    have up:∀b o,s.heap.get? b=ar o->((s.heap.push (bL (dP w))).push y).get? b=ar o:=λb o e=>OD _ (OD _ e);have S:∀j,j<items.size->(X j).2<s.heap.objs.size:=λj T=>let ⟨_,_,_,e,_⟩:=z j T;OJ e;have S0:SetAt prog w ((s.heap.push (bL (dP w))).push y) s.heap.objs.size (bL (dP w)) #[] 0 (.fresh 0 0 (dP w)) []:=
     ⟨OD _ (OK _ rfl),⟨rfl,rfl,rfl⟩,rfl,Dy _,rfl,rfl,rfl,.nil⟩
    refine Ga ((W _ P).toS) N X U g hu (λj T=>?_) (items.size - 0) 0 _ rfl (OX _) J (λj T=>yX (z j T) λo e=>up _ o e) _ _ _ _ _ S0 .nil λs' hm o es ep t L G l=>?_
    ·rw[Y];have:=S j T;simp only[gc,f_,or_false,not_or];exact⟨OQ this,OQ (PR this)⟩
    ·obtain⟨h',g',d',C,O⟩:=s';have eg:g'=s.gens:=hm.gens;have ed:d'=s.drawn:=hm.drawn;have eo:O=s.os:=hm.os;subst eg ed eo;show eb _ _ _ _ _ _;refine OE ?_;show eb _ _ (ret h_) _ _ _;refine OE ⟨rfl,h h' C o es ep t L G l λb o m e=>?_⟩;refine hm.heap b o ?_ (up b o e);rw[Y];simp only[gc,f_,or_false,not_or];exact⟨OQ m,OQ (PR m)⟩
   ·cases d with
    |error e=>exact Z
    | ok fl2=>
     cases fl2 with
     |ret rv=>
      obtain⟨rfl,hq⟩:=Z
      repeat (any_goals (first|assumption|wp_step))
     |_=>exact Z.elim
  |_=>exact K.elim
end
theorem rP{α:Type}:∀{l:List α} {i:Nat} {x:α},l[i]? =ar x->l.Perm (x::l.eraseIdx i)
 |[],_,_,h=>by simp at h
 |y::l,0,x,h=>by simp at h;subst h;exact .refl _
 |y::l,i+1,x,h=>by
  have:=rP (l:=l) (i:=i) (x:=x) (by simpa using h);rw[List.eraseIdx_cons_succ];exact(G3 y this).trans (.swap _ _ _)
theorem Ai{α:Type}(Z:Nat->Nat):∀(fuel k:Nat) (left:List α) (out:Array α),left.length=fuel->(Ua Z fuel k left out).toList.Perm (out.toList++left)
 |0,k,left,out,h=>by
  have:left=[]:=Sy.mp h;subst this;unfold Ua;simp
 |fuel+1,k,left,out,h=>by
  unfold Ua;have Y:Z k % left.length<left.length:=Sj _ (by omega)
  have X:left[Z k % left.length]? =ar left[Z k % left.length]:=OH Y;rw[X];simp only;refine(Ai Z fuel (k+1) _ _ (by rw[R0 Y];omega)).trans ?_;rw[Array.toList_push,O7];exact List.Perm.append_left _ (rP X).symm
def BB{α:Type}(Z:Nat->Nat)(xs:Array α):(Uk Z xs).toList.Perm xs.toList:=by
 have:=Ai Z xs.size 0 xs.toList #[] (by simp)
 simpa [Uk]using this
def kL(w:fg)(a:dt)(ep:Nat)(es:Array Ent):Array Ent:=if w.params.followText "set-order"=b_ then Uk (w.params.setOrder a ep) es else es
def uo(w:fg)(a:dt)(ep:Nat)(es:Array Ent):(kL w a ep es).toList.Perm es.toList:=by
 unfold kL;split
 ·exact BB _ _
 ·exact .refl _
def ma(w:fg)(a:dt)(ep:Nat)(es:Array Ent):(kL w a ep es).size=es.size:=by have:=(uo w a ep es).length_eq;simpa using this
theorem eT:Slot "set_iterator" "__next__" "set_iterator.__next__":=
 .of (owner:="set_iterator") (n:="__next__") (by rw[SY,RK];kernel_rfl) (by decide+kernel) (by decide+kernel) (by decide+kernel)
  (by first|exact .inl (by decide+kernel)|exact .inr (by decide+kernel)) (by rw[RI];kernel_rfl)
def mH:U8 table "set_iterator.__next__"=ar Builtin.«set_iterator.__next__»:=entryFor_of_fast (by kernel_rfl)
def nS(a:a_):Vh "set_iterator.__next__" ⟨[a],[]⟩:=by unfold Vh;kernel_rfl
def rQ:U8 table "set.__iter__"=ar Builtin.«frozenset.__iter__»:=
 entryFor_alias (id':="frozenset.__iter__") (by kernel_rfl) rfl (by decide+kernel) (by kernel_rfl)
section
variable {prog:ey}{w:fg}{A:j_}{E:a_->dr->Prop}{s:dr}
def hZ(w:fg)(t:ly)(i:Nat):Nat:=if w.params.followText "set-order"=b_ then 0 else match i with
 |0=>0
 |i+1=>t.place.getD i 0+1
structure IterAt(w:fg)(h:gg)(I a:dt)(t:ly)(sz ep i:Nat):Prop where
 ex:∃o,h.get? I=ar o/\o.cls= .type "set_iterator"/\o.data= .fields #[.int (hZ w t i) 0,.int i 0,.ref a,.int sz 0,.int ep 0]
def IterAt.typeIs(k:IterAt w s.heap I a t sz ep i):s.TypeIs (.ref I) "set_iterator":=
 let ⟨o,ho,hc,_⟩:=k.ex
 ⟨o,ho,hc⟩
theorem Aj(k:SetAt prog w s.heap a o es ep t L)(G:i<=es.size){Q:Option (a_×Nat)->dr->Prop}
  (h:Q (((kL w a ep es)[i]?).map λe=>(e.2,hZ w t (i+1))) s):eb (fc prog w) A (setNext a (hZ w t i) i ep) Q E s:=by
 unfold setNext;refine OB (P7 k.get k.dat k.fits ?_);simp only;unfold UI;refine OB (OB (QI (OE ?_)));show eb _ _ (if (w.params.followText "set-order")=b_ then _ else _) _ _ s;by_cases hw:w.params.followText "set-order"=b_
 ·rw[if_pos hw];simp only[bne_self_eq_false,fb,if_false];unfold setWalk;refine OB (OB (P7 k.get k.dat k.fits ?_));simp only;unfold UI;refine OB (OB (QI (OE ?_)));show eb _ _ (if (w.params.followText "set-order")=b_ then _ else _) _ _ s;rw[if_pos hw];refine OB (QI (OE ?_));refine OE ?_;have e1:kL w a ep es=Uk (w.params.setOrder a ep) es:=by unfold kL;rw[if_pos hw]
  have e2:∀j,hZ w t j=0:=λj=>by unfold hZ;rw[if_pos hw]
  rw[e1,e2]at h;rw[e2];exact h
 ·rw [if_neg hw];have P:(!t.plain && decide (es.size>1))=false:=by rw[k.pln];rfl
  have K:t.led=true:=by rw[k.led];simpa using hw
  have e1:kL w a ep es=es:=by unfold kL;rw[if_neg hw]
  have e2:∀j,hZ w t j=match j with|0=>0|j+1=>t.place.getD j 0+1:=λj=>by unfold hZ;rw[if_neg hw]
  have I:Tt t.place (hZ w t i)=i:=by
   obtain⟨T,Y,W⟩:=rK k.ok.ris (hZ w t i);cases i with
   | zero=>
    rw[e2]at T Y W⊢;simp only at T Y W⊢;rcases Nat.eq_zero_or_pos (Tt t.place 0)with z|z
    ·exact z
    ·have Z:0<t.place.size:=by omega
     have:=Y 0 _ z (ON Z);omega
   | succ i=>
    have X:i<t.place.size:=by rw[k.ok.siz];omega
    have S:t.place.getD i 0=t.place[i]:=by simp[UH,X]
    rw[e2]at T Y W⊢;simp only[S]at T Y W⊢;have O:=ON X;rcases Sk (Tt t.place (t.place[i]+1)) (i+1)with l|l|l
    ·have:=W i _ (by omega) O;omega
    ·exact l
    ·have Z:i+1<t.place.size:=by omega
     have H:=Y (i+1) _ l (ON Z);have F:=k.ok.ris i (i+1) _ _ (by omega) O (ON Z);omega
  generalize hu:PySem.unsupported=U;show eb _ _ (if (!t.plain && decide (es.size>1))=b_ then _ else _) _ _ s;rw[P];simp only[fb,if_false];have hm:∀R:Unit->dr->Prop,R () s->eb (fc prog w) A (if (!t.led && !es.isEmpty)=b_ then unsupported "set:maker-not-led" else aC ()) R E s:=λR J=>by rw[K];simp only[t8,Bool.false_and,fb,if_false];exact OE J
  refine OB (hm _ ?_);refine OE ?_;rw[I];rw[e1,e2]at h;simp only at h;by_cases Z:i<es.size
  ·have N:i<t.place.size:=by rw[k.ok.siz];exact Z
   have S:t.place.getD i 0=t.place[i]:=by simp[UH,N]
   rw[ON Z,S]at h;rw[ON Z,ON N];exact h
  ·rw[P3 (by omega)]at h;rw[P3 (by omega)];exact h
end
theorem DE{α Y:Type}{f:α->Y}{l X:List Y}(h:l.Perm X):∀L:List α,X=L.map f->∃Z:List α,Z.Perm L/\l=Z.map f:=by
 induction h with
 |nil=>intro L e;exact⟨[],by rw[List.map_eq_nil_iff.mp e.symm],rfl⟩
 | cons x _ ih=>
  intro L e;cases L with
  |nil=>cases e
  |cons y L=>
   rw[OW]at e;injection e with e1 e2;obtain⟨Z,p,q⟩:=ih L e2;exact⟨y::Z,p.cons y,by rw[q,e1];rfl⟩
 | swap x y l=>
  intro L e
  match L,e with
  |[],e=>cases e
  |[_],e=>rw[OW]at e;injection e with _ e;cases e
  |a::b::L,e=>
   rw[OW,OW]at e;injection e with e1 e2;injection e2 with e2 e3;exact⟨b::a::L,.swap _ _ _,by rw[e1,e2,e3];rfl⟩
 |trans _ _ ih1 ih2=>
  intro L e;obtain⟨L1,U,T⟩:=ih2 L e;obtain⟨W,S,R⟩:=ih1 L1 T;exact⟨W,S.trans U,R⟩
section
variable {prog:ey}{w:fg}{A:j_}{E:a_->dr->Prop}{s:dr}
theorem uq{h:gg}{g:Array a_->Array a_}(Y:h.get? I=ar o)(Z:o.data= .fields fs):
  ∃o',(h.update I (z_ g)).get? I=ar o'/\o'.cls=o.cls/\o'.data= .fields (g fs):=
 ⟨_,PB _ Y (QW (Qc Z _)),Sq ..,Qc Z _⟩
theorem next_item{Q:Option a_->dr->Prop}(k:SetAt prog w s.heap a o es ep t L)(Z:IterAt w s.heap I a t es.size ep i)(T:I≠a)
  (W:(kL w a ep es)[i]? =ar e) (R:∀h',IterAt w h' I a t es.size ep (i+1)->ri I s.heap h'->Q (ar e.2) {s with heap:=h'}):eb (fc prog w) A (B' (.ref I)) Q E s:=by
 obtain⟨K,X,O,hd⟩:=Z.ex;have Y:i<es.size:=by rw[<-ma w a ep es];exact(O3.mp W).1
 unfold B';refine OB (Rw (wpAny_callSpecial?_slot (name:=kr "__next__") Z.typeIs eT
  (PF eT Z.typeIs mH ?_ (nS _))))
 unfold Builtin.«set_iterator.__next__»;refine OB (m:=U9 "__next__" 0 _) (OE ?_);refine OB (wpAny_fieldsOf X hd ?_);simp only;refine OB (RT k.get k.dat k.fits ?_);rw[if_neg (by simp)];refine OB ?_;rw[Py,Py,Py];refine Aj k (Qp Y) ?_;rw[W];simp only[B_];refine OB (QK X hd (by simp) ?_);obtain⟨N,g1,c1,U⟩:=uq (g:=λfs=>fs.set! 0 (mv (hZ w t (i+1):Nat))) X hd;refine OB (QK (o:=N) (s:={s with heap:=_}) g1 U (by simp) (OE ⟨e.2,rfl,OE (R _ ?_ ((P8 ..).trans (P8 ..)))⟩));obtain⟨o2,g2,P,S⟩:=uq (g:=λfs=>fs.set! 1 (mv ((i:Int)+1))) g1 U;refine⟨o2,g2,by rw[P,c1];exact O,?_⟩;rw[S];simp[mv]
theorem next_end{Q:Option a_->dr->Prop}(X:A.handled=none)(k:SetAt prog w s.heap a o es ep t L)(Z:IterAt w s.heap I a t es.size ep es.size)
  (W:∀h',Heap.ExtBut I s.heap h'->Q none {s with heap:=h'}):eb (fc prog w) A (B' (.ref I)) Q E s:=by
 obtain⟨S,Y,U,hd⟩:=Z.ex;unfold B';refine OB (Rw (wpAny_callSpecial?_slot (name:=kr "__next__") Z.typeIs eT
  (PF eT Z.typeIs mH ?_ (nS _))))
 unfold Builtin.«set_iterator.__next__»;refine OB (m:=U9 "__next__" 0 _) (OE ?_);refine OB (wpAny_fieldsOf Y hd ?_);simp only;refine OB (RT k.get k.dat k.fits ?_);rw[if_neg (by simp)];refine OB ?_;rw[Py,Py,Py];refine Aj k (OF _) ?_;rw[P3 (by rw[ma];exact OF _)];simp only[Option.map_none];refine OB (QK Y hd (by simp) ?_);show eb _ _ (Vi (.type "StopIteration") []>>=_) _ _ _;refine OB ?_;simp only[Vi,newTuple];refine OB (Pm ?_ (by size_fits));refine OB (m:=H0 _ _) (Tb (a:=h_) (by first|rfl|(simp only[H0];rfl)) ?_);refine Pm ?_ (by size_fits);simp only[raiseNew];refine OB (wpAny_handled ?_);first|rw[show A.in1.handled=none from X]|rw[X]
 refine OB (OE (wpAny_throw ?_));refine OB (Q9 (T:="StopIteration") (b:=b_) ⟨_,OK _ rfl,rfl⟩ R9 ?_);exact OE (W _ (((P8 ..).extBut.push _).push _))
def IterAt.at{h':gg}(k:IterAt w h I a t sz ep i)(e:∀o,h.get? I=ar o->h'.get? I=ar o):IterAt w h' I a t sz ep i:=
 let ⟨o,ho,r⟩:=k.ex
 ⟨⟨o,e o ho,r⟩⟩
theorem nU:Slot "set_iterator" "__iter__" "set_iterator.__iter__":=
 .of (owner:="set_iterator") (n:="__iter__") (by rw[SY,RK];kernel_rfl) (by decide+kernel) (by decide+kernel) (by decide+kernel)
  (by first|exact .inl (by decide+kernel)|exact .inr (by decide+kernel)) (by rw[RI];kernel_rfl)
def tD:U8 table "set_iterator.__iter__"=ar Builtin.«dict_keyiterator.__iter__»:=
 entryFor_alias (id':="dict_keyiterator.__iter__") (by kernel_rfl) rfl (by decide+kernel) (by kernel_rfl)
def vA(a:a_):Vh "set_iterator.__iter__" ⟨[a],[]⟩:=by unfold Vh;kernel_rfl
theorem DF{Q:a_->dr->Prop}(k:SetAt prog w s.heap a o es ep t L)
  (P:∀ob,IterAt w (s.heap.push ob) s.heap.objs.size a t es.size ep 0->Q (.ref s.heap.objs.size) {s with heap:=s.heap.push ob}):eb (fc prog w) A (Sw (.ref a)) Q E s:=by
 have U:s.TypeIs (.ref a) "set":=⟨o,k.get,k.ex.1⟩;refine wpAny_pyIter_slot U F.slot_set_iter (PF F.slot_set_iter U rQ ?_ (F.args_set_iter_1 _));unfold Builtin.«frozenset.__iter__» Builtin.Frozenset.slot0;refine OB (OB (m:=U9 "__iter__" 0 _) (OE ?_));refine OE ?_;unfold Builtin.Frozenset.sizeOf;refine OB (OB (RT k.get k.dat k.fits (OE ?_)));unfold setDrawn;refine OB (OB (P7 k.get k.dat k.fits ?_));simp only;unfold UI;refine OB (OB (QI (OE ?_)));refine OE ?_;have Z:(!(w.params.followText "set-order") && (!t.plain && decide (es.size>1)))=false:=by rw[k.pln];simp
 have W:∀(X Y:Sem Fin) (R:Fin->dr->Prop),eb (fc prog w) A.in1 Y R E s->eb (fc prog w) A.in1 (if (!(w.params.followText "set-order") && (!t.plain && decide (es.size>1)))=b_ then X else Y) R E s:=λX Y R S=>by rw[Z];simp only[fb,if_false];exact S
 refine W _ _ _ ?_;refine OB (OE ?_);refine OB (wpAny_setEpoch_of k.get k.dat k.fits ?_);refine OB (Pm (OE ⟨_,rfl,"set_iterator",_,⟨_,OK _ rfl,rfl⟩,eT.lookup,P _ ⟨⟨_,OK _ rfl,rfl,?_⟩⟩⟩));have T:hZ w t 0=0:=by unfold hZ;split<;>rfl
 rw[T];rfl
theorem BC{es:Array Ent}(O:A.handled=none)(X:I≠a):Walks prog w A I [I,a] [I] es.size (λi v=>∃e,(kL w a ep es)[i]? =ar e/\v=e.2)
  (λi h=>SetAt prog w h a o es ep t L/\IterAt w h I a t es.size ep i) where
 sub:=λb Y=>by simp at Y;simp[Y]
 frame:=λi h h' st P=>⟨st.1.at λZ e=>P a (by simp) Z e,st.2.at λZ e=>P I (by simp) Z e⟩
 item:=λi s Q E N st W=>by
  have S:i<(kL w a ep es).size:=by rw[ma];exact N
  have he:=ON S;exact next_item st.1 st.2 X he λh' U T=>W _ h' s.toks ⟨_,he,rfl⟩ ⟨st.1.at λZ e=>T.extBut a Z (kC X) e,U⟩ λb Z Y e=>T.extBut b Z (λz=>Y (by simp[z])) e
 done:=λs Q E st W=>next_end O st.1 st.2 λh' R=>W h' s.toks λb Z Y e=>R b Z (λz=>Y (by simp[z])) e
 self:=λi s Q E st W=>by refine wpAny_pyIter_slot st.2.typeIs nU (PF nU st.2.typeIs tD ?_ (vA _));show eb _ _ (ret (.ref I)) _ _ s;exact OE ⟨_,rfl,"set_iterator",_,st.2.typeIs,eT.lookup,W⟩
theorem xj{Q:List a_->dr->Prop}(g:A.handled=none)(k:SetAt prog w s.heap a o es ep t L)(d:es.size<=18)
  (r:∀(h':gg) (tk:Nat) (N:List KA),N.Perm L->(∀b o,s.heap.get? b=ar o->h'.get? b=ar o)->Q (N.map λp=>er p.2) {s with heap:=h',toks:=tk}):
  eb (fc prog w) A (Vq (.ref a)) Q E s:=by
 have Y:a<s.heap.objs.size:=OJ k.get;unfold Vq;refine OB (Ta (Qz F.entry_proto_collect ?_));rw[Qw F.plain_proto_collect _];show eb _ A.in1 (Vo []>>=λl=>To (.builtin "list.__iadd__" ⟨[l,.ref a],[]⟩)) _ _ s;refine OB (Pm ?_);refine OE ⟨Sx F.plain_list_iadd _,Qz F.entry_list_iadd ?_⟩;rw[Qw F.plain_list_iadd _];have k1:SetAt prog w (s.heap.push {cls:=.type "list",data:=.seq ([]:List a_).toArray}) a o es ep t L:=k.at λZ e=>OD _ e;have B:(s.heap.push {cls:=.type "list",data:=.seq ([]:List a_).toArray}).get? s.heap.objs.size=ar {cls:=.type "list",data:=.seq ([]:List a_).toArray}:=OK _ rfl;have n:M_ {s with heap:=s.heap.push {cls:=.type "list",data:=.seq ([]:List a_).toArray}} (.ref a) "set":=⟨o,k1.get,k1.ex.1⟩;have U:Builtin.List.listSameRef (.ref s.heap.objs.size) (.ref a)=false:=by simp[Builtin.List.listSameRef,Nat.ne_of_gt Y]
 show eb _ A.in1 (Builtin.List.listExtendWith (.ref s.heap.objs.size) (.ref a) (.ref s.heap.objs.size)) _ _ _;unfold Builtin.List.listExtendWith;refine OB (Rh n ?_);rw[if_neg (by rw[U];decide)];refine OB (DF (s:={s with heap:=s.heap.push {cls:=.type "list",data:=.seq ([]:List a_).toArray}}) k1 λO hit=>?_);refine OB (Pl ?_);have S:M_ {s with heap:=(s.heap.push {cls:=.type "list",data:=.seq ([]:List a_).toArray}).push O} (.ref a) "set":=⟨o,OD _ k1.get,k1.ex.1⟩;unfold Builtin.List.listLengthHint;refine OB (wpAny_specialOf S F.slot_set_len.lookup ?_);generalize dz:("set.__len__":String)=id0
 wp_delta
 rw[show splitId id0=ar ("set","__len__")from by subst dz;decide+kernel];subst dz;refine OB (Q9 (b:=b_) S sub_set_self ?_);rw[if_neg (by decide)];rw[if_pos (by decide+kernel)];refine OB (Rh S ?_);refine OE ?_;rw[if_pos (by decide+kernel)];refine OB (Re ?_);generalize hg:(s.heap.push {cls:=.type "list",data:=.seq ([]:List a_).toArray}).objs.size=I at hit;have H:I=s.heap.objs.size+1:=by rw[<-hg];exact PP _ _
 have C:I≠a:=by rw[H];exact Qh (PR Y)
 have R:I≠s.heap.objs.size:=by rw[H];exact Nat.succ_ne_self _
 have h:s.heap.objs.size∉[I,a]:=by simp only[gc,f_,or_false,not_or];exact⟨kC R,Qh Y⟩
 have P:((s.heap.push {cls:=.type "list",data:=.seq ([]:List a_).toArray}).push O).get? s.heap.objs.size=ar {cls:=.type "list",data:=.seq ([]:List a_).toArray}:=OD _ B;refine OB ?_;show eb _ A.in1 (updateSeq s.heap.objs.size (·.push .none)>>=λ_=>updateSeq s.heap.objs.size (·.pop)) _ _ _;refine OB (wpAny_updateSeq P rfl ?_);have K:=PB (mh (·.push h_)) P rfl;refine wpAny_updateSeq K rfl ?_;have G:=PB (mh (·.pop)) K rfl;have T:∀b Z,b≠s.heap.objs.size->((s.heap.push {cls:=.type "list",data:=.seq ([]:List a_).toArray}).push O).get? b=ar Z->
   ((((s.heap.push {cls:=.type "list",data:=.seq ([]:List a_).toArray}).push O).update s.heap.objs.size (mh (·.push h_))).update s.heap.objs.size (mh (·.pop))).get? b=ar Z:=
  λb Z v e=>(Pj _ _ (kC v)).trans ((Pj _ _ (kC v)).trans e)
 have k2:=(k1.at (h':=(s.heap.push {cls:=.type "list",data:=.seq ([]:List a_).toArray}).push O) λZ e=>OD _ e);have z:A.in1.handled=none:=by simp[g]
 have W:=BC (prog:=prog) (w:=w) (A:=A.in1) (I:=I) (a:=a) (o:=o) (es:=es) (ep:=ep) (t:=t) (L:=L) z C;refine OE ⟨Sx F.plain_extend_loop _,?_⟩;refine codeAny_extend_loopS W.toS (by rw[PC];omega) _ h _ es.size 0 _ _ _ rfl (OX _) ⟨k2.at λZ e=>T a Z (OQ Y) e,hit.at λZ e=>T I Z R e⟩ G (ItemsOf.nil _) λs' acc c hm y X=>?_;show eb _ A (load s.heap.objs.size>>=_) _ _ s';refine OB (wpAny_load y ?_);refine OE ?_;obtain⟨h',g',d',x,J⟩:=s';have f:g'=s.gens:=hm.gens;have m:d'=s.drawn:=hm.drawn;have q:J=s.os:=hm.os;subst f m q;obtain⟨N,j,u⟩:=DE (uo w a ep es) L k.ents;have he:acc.toList=N.map λp=>er p.2:=by
  have e1:acc.toList=(kL w a ep es).toList.map (·.2):=by
   refine QX λi=>?_;rw[O8,O1,O8];by_cases hi:i<acc.size
   ·obtain⟨e,e1,e2⟩:=X.2 i _ (ON hi);rw[ON hi,e2,e1];rfl
   ·rw[P3 (by omega),P3 (by rw[ma, <-X.1];omega)];rfl
  rw[e1,u,Pn];rfl
 rw[he];refine r h' x N j λb Z e=>hm.heap b Z ?_ (T b Z (OQ (OJ e)) (OD _ (OD _ e)));simp only[gc,f_,or_false,not_or];exact⟨OQ (OJ e),by rw[H];exact OQ (PR (OJ e))⟩
end
end S4
namespace S4
open PySem PySem.Spec PySem.W PyProof.Rows L2 S3
section
variable {prog:ey}{w:fg}{A:j_}{E:a_->dr->Prop}{s:dr}
theorem yY{vs:List a_}{P:PySem.Fin->dr->Prop}(W:s.heap.get? a=ar (t_ "list" vs.toArray n))(Q:vs.length<2)
  (h:∀h' c,h'.get? a=ar (t_ "list" vs.toArray c)->(∀b o,b≠a->s.heap.get? b=ar o->h'.get? b=ar o)->P (.done (.ret .none)) {s with heap:=h'}):
  eb (fc prog w) A (Builtin.«list.sort» ⟨[.ref a],[]⟩) P E s:=by
 have O:a<s.heap.objs.size:=OJ W;obtain⟨e1,Y⟩:∃e1,(s.heap.update a (mh λ_=>(#[]:Array a_))).get? a=ar (t_ "list" #[] e1):=⟨_,get?_update_seq W λ_=> #[]⟩;have Z:(((s.heap.update a (mh λ_=>(#[]:Array a_))).push (t_ "tuple" vs.toArray 0)).push (t_ "list" #[] 0)).get? a=ar (t_ "list" #[] e1):=OD _ (OD _ Y);rw[list_sort_plain];refine OB (listItems_at W rfl ?_);refine OB (listUpdate_at W rfl ?_ (by rw[OL,PC];omega) (OX _));refine OB (seqEpoch_at Y rfl ?_);refine OB (wpAny_newTuple ?_ (by show vs.length<=_;rw[PC];omega));refine OB (TU ?_ (OX _));refine Pl ?_;show eb (fc prog w) A _ P E {s with heap:=((s.heap.update a (mh λ_=>(#[]:Array a_))).push (t_ "tuple" vs.toArray 0)).push (t_ "list" #[] 0)};dsimp only;have X:vs.toArray.size<2:=by rw[OL];omega
 rw[if_pos X,if_pos X];refine OB (OE ?_);rw[StateT.run_pure];refine OB (OE ?_);dsimp only;refine OB (seqEpoch_at Z rfl ?_);have R:(arrOf (SortSt.mk' general' (vs.toArray.zip vs.toArray) #[] 7 none)).map (·.2)=vs.toArray:=by show(vs.toArray.zip vs.toArray).map (·.2)=vs.toArray;rw[Array.map_snd_zip (OF _)]
 rw[R];refine OB (listUpdate_at Z rfl ?_ (OX _) (by rw[OL,PC];omega));obtain⟨T,U⟩:∃T,((((s.heap.update a (mh λ_=>(#[]:Array a_))).push (t_ "tuple" vs.toArray 0)).push (t_ "list" #[] 0)).update a (mh λ_=>vs.toArray)).get? a=ar (t_ "list" vs.toArray T):=⟨_,get?_update_seq Z λ_=>vs.toArray⟩;simp only[bne_self_eq_false,fb,if_false];refine OE (h _ T U λb o S e=>?_);rw[QE _ _ _ _ S];refine OD _ (OD _ ?_);rw[QE _ _ _ _ S];exact e
end
section
variable {X:Cx}
structure TRow(H:Hp)(vs:List V)(nss:List (List Int)):Prop where
 len:vs.length=nss.length
 at':∀i,i<vs.length->∃a,vs[i]? =ar (.ref a)/\H a=ar (.tup ((nss.getD i []).map V.int))
 ne:∀i,i<vs.length->0<(nss.getD i []).length
def fS(nss:List (List Int))(q:List Nat):Prop:=q.Perm (ee nss.length)/\∀i j,i<=j->j<nss.length->HT.lexLt (nss.getD (q.getD j 0) []) (nss.getD (q.getD i 0) [])=c_
theorem ia{H:Hp}{Q:VK}(I:L2.Inv X pins σ H s)(Pv:List a_->Prop)
  (hc:∀(R:List a_->dr->Prop) (E':a_->dr->Prop),(∀vs Y N,Pv vs->(∀b o,s.heap.get? b=ar o->Y.get? b=ar o)->R vs {s with heap:=Y,toks:=N})->eb (fc X.prog X.w) X.A.in1 (Vq arg) R E' s)
  (d:∀us,Pv us->∃(vs:List V) (Z:List (List Int)),bx vs us/\TRow H vs Z/\vs.length<64/\∀q,fS Z q->∀l,H l=none->Q (.ref l) (upd H l (.lst (q.map λi=>vs.getD i .non)))):
  eb (fc X.prog X.w) X.A (call (.builtin "sorted") [arg]) (EP X pins σ Q) X.xe s:=by
 refine Sa kind_sorted plain_sorted entry_sorted (args_sorted1 _) ?_;unfold Builtin.«sorted»;refine OB (m:=checkCount "sorted" 1 1 _) (OE ?_);refine OB (hc _ _ λits Y N hP keep=>?_);obtain⟨vs,Z,rv,T0,d3,q⟩:=d its hP;have c0:=rv.length;have O:L2.Inv X pins σ H {s with heap:=Y,toks:=N}:=I.kept keep;obtain⟨m,F⟩:=O.fr;refine OB (TU ?_ (by rw[PC];omega));have K:(Y.push (t_ "list" its.toArray 0)).get? Y.objs.size=ar (t_ "list" its.toArray 0):=OK _ rfl;have up:∀b o,Y.get? b=ar o->(Y.push (t_ "list" its.toArray 0)).get? b=ar o:=λb o e=>OD _ e;have nd:Y.get? Y.objs.size=none:=PK (OF _);have hL:X.env.locals<Y.objs.size:=F.ns.lt;have hH:H Y.objs.size=none:=O.hok.fresh (OF _);have at':∀i,i<its.length->∃a,its[i]? =ar (.ref a)/\its.getD i h_= .ref a/\H a=ar (.tup ((Z.getD i []).map V.int)):=λi U=>by obtain⟨a,e1,e2⟩:=T0.at' i (by omega);obtain⟨u,hu,ru⟩:=rv.get e1;cases (show u=er a from ru);exact⟨a,hu,by rw[OM,hu];rfl,e2⟩
 have b2:∀l:List Nat,(∀x∈l,x<its.length)->bx (l.map λi=>vs.getD i .non) (l.map λi=>its.getD i h_):=by
  intro l
  induction l with
  |nil=>intro _;exact .nil
  |cons x l ih=>
   intro hx;refine .cons ?_ (ih λy hy=>hx y (OO _ hy));have r:x<vs.length:=by have:=hx x OV;omega
   obtain⟨u,hu,ru⟩:=rv.get (OH r);show L2.RelV (vs.getD x .non) (its.getD x h_);rw[OM,OM,hu,OH r];exact ru
 show eb _ _ _ _ _ {s with heap:=Y.push (t_ "list" its.toArray 0),toks:=N};refine OB (Pl (PF slot_list_sort ⟨_,K,rfl⟩ entry_list_sort ?body (args_list_sort _)))
 case body=>
  by_cases J:its.length<2
  ·refine yY (s:={s with heap:=Y.push (t_ "list" its.toArray 0),toks:=N}) K J λh' c g1 g2=>?_;refine⟨_,rfl,OE ⟨_,rfl,?_⟩⟩;have I2:L2.Inv X pins σ (upd H Y.objs.size (.lst vs)) {s with heap:=h',toks:=N}:=O.laid (λb o e=>g2 b o (OQ (OJ e)) (up b o e)) (OF _) ⟨by rw[PC];omega,its,c,rv,g1⟩;refine⟨.ref Y.objs.size,_,I2,rfl,?_⟩;have:=q (ee Z.length) ⟨.refl _,λi j B hj=>?_⟩ _ hH
   ·have e:(ee Z.length).map (λi=>vs.getD i .non)=vs:=by
     refine QX λi=>?_;rw[O1, <-T0.len];by_cases U:i<vs.length
     ·rw[QC U,OH U];simp[n7,U]
     ·rw[Pq (by simpa using U),Pq (by omega)];rfl
    rw[e]at this;exact this
   ·have:i=j:=by have:=T0.len;omega
    subst this;exact kD _
  ·have b4:=T0.ne;refine kat_list_sort (s:={s with heap:=Y.push (t_ "list" its.toArray 0),toks:=N}) (F.kept up) (News.grown (qQ (g:=X.base) (h:=Y) (L:=X.env.locals)) up) K (Qh hL) (PK (OR F.above (Qp hL)))
    (λp hp=>OQ (OJ (qQ p hp).1)) (by omega) (by omega) λe1 h' F' N'=>?_
   have S:∀J:gg,Fr X.base X.env.locals J m->News X.base X.env.locals J (nk X.base Y X.env.locals)->∀b o,b≠X.env.locals->Y.get? b=ar o->J.get? b=ar o:=λJ F2 N2 b o hb e=>by
    cases z:X.base.get? b with
    |some o'=>
     have:=O.bk b o' z;rw[show Y.get? b=ar o' from this]at e;cases e;exact F2.keep b _ z
    |none=>exact(N2 (b,o) (wz hb z e)).1
   have kp:=S h' F' λz P=>N' z (OO _ P);have T:Tups Y its Z:=⟨by have:=T0.len;omega,λi U=>by obtain⟨a,_,e1,e2⟩:=at' i U;obtain⟨_,ws,f,o,ho,c2,n,hd⟩:=(show bC X.prog X.w H Y a (.tup ((Z.getD i []).map V.int))from O.hok a _ e2);refine⟨a,o,ws.toArray,n,e1,ho,c2,hd,by simpa using RF f,?_⟩;rw[OL, <-f.length,OC];exact b4 i (by omega)⟩
   have T':Tups h' its Z:=T.keep λi a o U ea ho=>by obtain⟨a',_,e1,e2⟩:=at' i U;rw[ea]at e1;cases e1;refine kp a o (λz=>?_) ho;rw[z,O.free]at e2;cases e2
   obtain⟨fs,k1,k2,k3⟩:=rF (h:=h') (vs:=its) λv d=>by
    obtain⟨i,U,ei⟩:=RP.mp d;obtain⟨a,o,us,n,f1,f2,f3,f4,f5,f6⟩:=T'.get i U;have ev:v= .ref a:=by rw[OM,OH U,ei]at f1;exact f1
    generalize Z.getD i []=ns at f5;cases hus:us.toList with
    |nil=>
     have:us.size=0:=by rw[<-QB,hus];rfl
     omega
    |cons x r'=>
     rw[hus]at f5;cases f5 with
     |cons n' t' _=>exact⟨a,o,us,n,n',t',ev,f2,f3,f4,by rw[<-O8,hus];rfl⟩
   refine kat_kind k1 (by omega) (T:=.type "int") (λv d=>by obtain⟨i,t,rfl⟩:=k3 v d;exact Looks.of_pure rfl) rfl ?_;refine CV (n:=its.length) (R:=In its.length) (b:=λi j=>HT.lexLt (Z.getD i []) (Z.getD j [])) (λi j C U hj hC=>T'.ask U hj hC) (wH (by omega)) ?_;obtain⟨s1,s2⟩:=FP (n:=its.length) (b:=λi j=>HT.lexLt (Z.getD i []) (Z.getD j [])) (by omega) (λi _=>kD _) (λi j k _ _ _=>yR) (λi j k _ _ _=>vw);generalize bG (λi j=>HT.lexLt (Z.getD i []) (Z.getD j [])) (u_ its.length)=pp at s1 s2;have W:pp.toList.Perm (ee its.length):=by simpa using Array.Perm.toList s1
   refine KasFin.intro F' N' (.head λz P=>OQ (OJ (qQ z P).1)) λc4 c' E G=>?_;have c1:=S c4 E λz P=>G z (OO _ P);obtain⟨g1,g2,g3⟩:=G _ OV;have c3:∀x∈pp.toList,x<its.length:=λx hx=>OP.mp (W.mem_iff.mp hx);have b5:(pp.toList.map λi=>vs.getD i .non).length<=sizeLine:=by rw[OC,W.length_eq,Pi,PC];omega
   have I2:=yS O F E c1 nd g1 (b2 pp.toList c3) b5;refine⟨_,rfl,OE ⟨_,rfl,.ref Y.objs.size,_,I2,rfl,q pp.toList ⟨by rw[<-T0.len,c0];exact W,λi j B hj=>?_⟩ _ hH⟩⟩;have:=s2 i j B (by have:=T0.len;omega);rw[Pg,Pg]at this;rw[OM (l:=pp.toList),OM (l:=pp.toList),O8,O8];exact this
end
end S4
namespace S3
open PySem PySem.Spec PySem.W PyProof.Rows L2 S4
def tupI(ns:List Int):D:=.tup (ns.map D.int)
def rowsOf:List D->Option (List (List Int))
 |[]=>ar []
 | .tup ds::r=>match intsOf ds,rowsOf r with
  |some ns,ar nss=>ar (ns::nss)
  |_,_=>none
 |_=>none
theorem qE:∀{a b:List Int},HT.lexLt a b=c_->HT.lexLt b a=c_->a=b
 |[],[],_,_=>rfl
 |[],_::_,h,_=>by cases h
 |_::_,[],_,h=>by cases h
 | x::a,y::b,h1,h2=>by
  rw[HT.lexLt_cons]at h1 h2;by_cases e:x=y
  ·subst e;rw[if_pos rfl]at h1 h2;rw[qE h1 h2]
  ·rw[if_neg e]at h1;rw[if_neg (kC e)]at h2;have:=of_decide_eq_false h1;have:=of_decide_eq_false h2;omega
abbrev Fu(a b:List Int):Prop:=HT.lexLt b a=c_
def yZ(x:List Int):List (List Int)->List (List Int)
 |[]=>[x]
 |y::r=>if HT.lexLt y x=b_ then y::yZ x r else x::y::r
def b0:List (List Int)->List (List Int)
 |[]=>[]
 |x::r=>yZ x (b0 r)
theorem oX(x:List Int):∀l,(yZ x l).Perm (x::l)
 |[]=>.refl _
 |y::r=>by
  unfold yZ;split
  ·exact((oX x r).cons y).trans (.swap _ _ _)
  ·exact .refl _
theorem bu:∀l,(b0 l).Perm l
 |[]=>.refl _
 |x::r=>(oX x _).trans ((bu r).cons x)
theorem BD(Z:Fu a b)(Y:Fu b c):Fu a c:=by
 cases q:HT.lexLt c a with
 |false=>exact q
 |true=>
  rcases vw (b:=b) q with z|z
  ·rw[show HT.lexLt c b=c_ from Y]at z;cases z
  ·rw[show HT.lexLt b a=c_ from Z]at z;cases z
theorem lz(h:HT.lexLt a b=b_):HT.lexLt b a=false:=by
 cases q:HT.lexLt b a with
 |false=>rfl
 |true=>
  have:=yR h q;rw[kD]at this;cases this
theorem pR(x:List Int):∀{l:List (List Int)},l.Pairwise Fu->(yZ x l).Pairwise Fu
 |[],_=>by simp[yZ]
 | y::r,h=>by
  obtain⟨X,W⟩:=Pz.mp h;unfold yZ;split
  ·next c=>
   refine Pz.mpr ⟨λz Z=>?_,pR x W⟩;rcases O2.mp ((oX x r).mem_iff.mp Z)with rfl|Z
   ·exact lz c
   ·exact X z Z
  ·next c=>
   have Y:Fu x y:=Sn.mpr c;refine Pz.mpr ⟨λz Z=>?_,h⟩;rcases O2.mp Z with rfl|Z
   ·exact Y
   ·exact BD Y (X z Z)
theorem dC:∀l,(b0 l).Pairwise Fu
 |[]=>.nil
 |x::r=>pR x (dC r)
def jX{l:List (List Int)}(h:l.Perm l')(Z:l.Pairwise Fu)(Y:l'.Pairwise Fu):l=l':=
 List.Perm.eq_of_pairwise (le:=Fu) (λa b _ _ x y=>qE y x) Z Y h
theorem mT(h:fS nss q):q.map (λi=>nss.getD i [])=b0 nss:=by
 have hlen:q.length=nss.length:=by simpa using h.1.length_eq
 have e:(ee nss.length).map (λi=>nss.getD i [])=nss:=by
  refine QX λi=>?_;rw[O1];by_cases Z:i<nss.length
  ·rw[QC Z,OH Z];simp[n7,Z]
  ·rw[Pq (by simpa using Z),Pq (by omega)];rfl
 have W:(q.map (λi=>nss.getD i [])).Perm nss:=by have:=h.1.map (λi=>nss.getD i []);rw[e]at this;exact this
 refine jX (W.trans (bu nss).symm) ?_ (dC _);rw[R8];intro i j Z X Y;rw[OC]at Z X;rw[SM,SM];have:=h.2 i j (Qp Y) (by omega);rw[OM (l:=q),OM (l:=q),OH Z,OH X]at this;exact this
def gx:List (List Int)->List (List Int)
 |[]=>[]
 |x::r=>if x∈gx r then gx r else x::gx r
theorem jY:∀{l:List (List Int)},y∈gx l↔y∈l
 |[]=>.rfl
 | x::r=>by
  unfold gx;split
  ·next h=>
   rw[jY,O2];refine⟨.inr,λz=>z.elim (λz=>?_) id⟩;rw[z];exact jY.mp h
  ·rw[O2,O2,jY]
theorem nV:∀l:List (List Int),(gx l).Nodup
 |[]=>.nil
 |x::r=>by
  unfold gx;split
  ·exact nV r
  ·next h=>exact PM.mpr ⟨h,nV r⟩
def iu(l:List (List Int)):List (List Int):=b0 (gx l)
theorem DG(f:Folded kv L):b0 (L.map (·.1))=iu (kv.map (·.1)):=by
 unfold iu;have Z:(L.map (·.1)).Perm (gx (kv.map (·.1))):=(Q2 f.nd (nV _)).mpr λa=>by rw[f.mem,jY]
 exact jX ((bu _).trans (Z.trans (bu _).symm)) (dC _) (dC _)
theorem _root_.S4.Folded.perm{Z:List KA}(f:Folded kv L)(h:Z.Perm L):Folded kv Z:=
 ⟨(QD (h.map (λp:KA=>p.1))).mpr f.nd,λk=>by rw[(h.map (λp:KA=>p.1)).mem_iff];exact f.mem k,λp Y=>f.sub p (h.mem_iff.mp Y),by rw[h.length_eq];exact f.len⟩
section
variable {K:dV}{ι:List dt}{H:Hp}
theorem nW:∀{ds:List D} {vs:List V} {nss:List (List Int)},RelDs K ι H ds vs->rowsOf ds=ar nss->vs.length=nss.length/\∀i,i<vs.length->∃a,vs[i]? =ar (.ref a)/\H a=ar (.tup ((nss.getD i []).map V.int))
 |[],vs,nss,h,e=>by
  cases e;rw[h.nil_inv];exact⟨rfl,λi Z=>absurd Z (SV _)⟩
 | .tup ds::r,vs,nss,h,e=>by
  obtain⟨v,ws,rfl,X,U⟩:=h.cons_inv;unfold rowsOf at e;cases q:intsOf ds with
  |none=>rw[q]at e;cases e
  | some ns=>
   rw[q]at e;cases q2:rowsOf r with
   |none=>rw[q2]at e;cases e
   | some nss'=>
    rw[q2]at e;cases e;obtain⟨Y,S⟩:=nW U q2;obtain⟨a,us,rfl,g1,g2⟩:=X.tup_inv;refine⟨by simp[Y],λi Z=>?_⟩;cases i with
    |zero=>
     refine⟨a,rfl,?_⟩;rw[fE g2 q]at g1;simpa using g1
    |succ i=>
     obtain⟨T,e1,e2⟩:=S i (by simpa using Z);exact⟨T,by simpa using e1,by simpa using e2⟩
 | .non::_,_,_,_,e=>by cases e
 | .bl _::_,_,_,_,e=>by cases e
 | .int _::_,_,_,_,e=>by cases e
 | .str _::_,_,_,_,e=>by cases e
 | .lst _::_,_,_,_,e=>by cases e
 | .ro _::_,_,_,_,e=>by cases e
 | .fz _::_,_,_,_,e=>by cases e
 | .emp::_,_,_,_,e=>by cases e
theorem ur:∀ns:List Int,RelDs K ι H (ns.map D.int) (ns.map V.int)
 |[]=>.nil
 |n::r=>.cons (.int n) (ur r)
theorem nX{vs:List V}{Z:List (List Int)}(h:∀i,i<vs.length->∃a,vs[i]? =ar (.ref a)/\H a=ar (.tup ((Z.getD i []).map V.int))):
  ∀q:List Nat,(∀i∈q,i<vs.length)->RelDs K ι H ((q.map λi=>Z.getD i []).map tupI) (q.map λi=>vs.getD i .non)
 |[],_=>.nil
 |i::q,hq=>by
  obtain⟨a,e1,e2⟩:=h i (hq i OV);refine .cons ?_ (nX h q λj Y=>hq j (OO _ Y));show RelD K ι H (tupI (Z.getD i [])) (vs.getD i .non);have e3:vs.getD i .non= .ref a:=by rw[OM,e1];rfl
  rw[e3];exact .tup e2 (ur _)
end
section
variable {X:Cx}{E:XD}{e:Expr}{m:TM}{pos:Pos}
theorem tE:dm X (.builtin "sorted") (λxs H Q=>∃(p:dt) (vs:List V) (Z:List (List Int)),xs=[.ref p]/\kN X.K H p vs/\TRow H vs Z/\vs.length<64/\
  ∀q,fS Z q->∀l,H l=none->Q (.ref l) (upd H l (.lst (q.map λi=>vs.getD i .non)))):=by
 intro pins s σ H xs us Q I r h;obtain⟨p,vs,Z,rfl,P,T,W,q⟩:=h;obtain⟨u,rfl,J⟩:=vals1 r;cases (show u=er p from J);obtain⟨its,U,S,G⟩:=I.list P;have N:=U.length;refine ia I (λus=>us=its) (λR F O=>?_) λus L=>⟨vs,Z,by rw[L];exact U,T,W,q⟩;refine collect_list S.isList (O its _ _ rfl λb o e=>?_) (by rw[PC];omega);have Y:b<s.heap.objs.size:=OJ e;rw[QE _ _ _ _ (OQ Y)];exact OD _ e
def qg(P:ey)(w:fg)(a:dt)(kv:List KA):gg->Prop:=λh=>∃o es ep t L,SetAt P w h a o es ep t L/\Folded kv L
def mU(vs:List V)(nss:List (List Int)):List KA:=(ee vs.length).map λi=>(nss.getD i [],match vs.getD i .non with| .ref a=>a|_=>0)
theorem Jr{H:Hp}(T:gD P w H h){ns:List Int}(e:H a=ar (.tup (ns.map V.int))):k7 (l_ P w) h ns a:=by
 obtain⟨_,ws,Z,o,U,Y,n,hd⟩:=(show bC P w H h a (.tup (ns.map V.int))from T a _ e);refine⟨o,ws.toArray,n,U,Y,hd,?_⟩;have W:=RF Z;have go:∀{ws:List a_} {ns:List Int},m_ ws ns->ItemsAre (l_ P w) ns ws:=by
  intro ws ns h
  induction h with
  |nil=>exact .nil
  |cons n t _ ih=>exact .cons (intKind_is _ _ _ _) ih
 simpa using go W
theorem BE(y:X.calm=b_)(f:X.A.units+8<y4):dm X (.type "set") (λxs H Q=>∃(p:dt) (vs:List V) (Z:List (List Int)),xs=[.ref p]/\(kN X.K H p vs\/k9 X.K H p vs)/\
  (∀i,i<vs.length->∃a,vs[i]? =ar (.ref a)/\H a=ar (.tup ((Z.getD i []).map V.int)))/\vs.length<=18/\∀l,H l=none->Q (.ref l) (upd H l (.ext (qg X.prog X.w l (mU vs Z))))):=by
 intro pins s σ H xs us Q I r h;obtain⟨p,vs,Z,rfl,U,T,n,q⟩:=h;obtain⟨u,rfl,F⟩:=vals1 r;cases (show u=er p from F);have src:∃its,bx vs its/\Src s.heap p its.toArray:=by
  rcases U with U|U
  ·obtain⟨its,Y,P,C⟩:=I.list U;exact⟨its,Y,.inl P.isList⟩
  ·obtain⟨its,Y,P,C⟩:=I.tuple U;exact⟨its,Y,.inr P⟩
 obtain⟨its,Y,hs⟩:=src;have W:=Y.length;have x:∀A:j_,A.in1.units<=A.units+1:=λA=>OF _;have at':∀i,i<vs.length->∃a,its[i]? =ar (.ref a)/\vs.getD i .non= .ref a/\H a=ar (.tup ((Z.getD i []).map V.int)):=λi O=>by obtain⟨a,e1,e2⟩:=T i O;obtain⟨u,S,G⟩:=Y.get e1;cases (show u=er a from G);exact⟨a,S,by rw[OM,e1];rfl,e2⟩
 have hf:H s.heap.objs.size=none:=I.hok.fresh (OF _);refine Jq (I.ok.hd y) (by show X.A.units+3<y4;omega) hs (λi=>(Z.getD i [],match vs.getD i .non with| .ref a=>a|_=>0)) (λi v R=>?_) (by rw[OL];omega) (λj z=>?_) λh' g o es ep t L J N B=>?_
 ·have O:i<vs.length:=by rw[W];simpa using(O3.mp R).1
  obtain⟨a,e1,e2,_⟩:=at' i O;rw[Qs,e1]at R;cases R;simp only[e2]
 ·rw[OL]at z;obtain⟨a,e1,e2,e3⟩:=at' j (by omega);simp only[e2];exact Jr I.hok e3
 ·rw[OL, <-W]at N;refine⟨.ref s.heap.objs.size,_,I.laid (o:=.ext (qg X.prog X.w s.heap.objs.size (mU vs Z))) (λb o e=>B b o (OJ e) e) (OF _) ⟨⟨o,es,ep,t,L,J,N⟩,⟨o,J.get⟩,λh1 h2 ⟨o,es,ep,t,L,a1,a2⟩ k=>⟨o,es,ep,t,L,a1.at k,a2⟩⟩,rfl,q _ hf⟩
theorem vB(z:X.calm=b_):dm X (.builtin "sorted") (λxs H Q=>∃(p:dt) (T:List KA),xs=[.ref p]/\H p=ar (.ext (qg X.prog X.w p T))/\(∀k∈T,H k.2=ar (.tup (k.1.map V.int))/\k.1.length=2)/\T.length<=18/\
  ∀L q,Folded T L->fS (L.map (·.1)) q->∀l,H l=none->Q (.ref l) (upd H l (.lst (q.map λi=>(L.map λk=>V.ref k.2).getD i .non)))):=by
 intro pins s σ H xs us Q I r h;obtain⟨p,T,rfl,x,O,y,q⟩:=h;obtain⟨u,rfl,F⟩:=vals1 r;cases (show u=er p from F);obtain⟨⟨o,es,ep,t,L,N,P⟩,_,_⟩:=(show bC X.prog X.w H s.heap p (.ext (qg X.prog X.w p T))from I.hok p _ x);have J:=P.len;have S:∀l:List KA,bx (l.map λk=>V.ref k.2) (l.map λk=>er k.2):=by
  intro l
  induction l with
  |nil=>exact .nil
  |cons k l ih=>exact .cons rfl ih
 refine ia I (λus=>∃Z:List KA,Z.Perm L/\us=Z.map λk=>er k.2) (λR g v=>?_) ?_
 ·refine xj (by show X.A.handled=none;exact I.ok.hd z) N (by rw[N.len];omega) λh' j Z U C=>v _ _ _ ⟨Z,U,rfl⟩ C
 ·rintro us ⟨Z,U,rfl⟩;have Y:=P.perm U;have B:=Y.len;refine⟨Z.map λk=>V.ref k.2,Z.map (·.1),S Z,⟨by simp,λi W=>?_,λi W=>?_⟩,by simp;omega,λG n l K=>q Z G Y n l K⟩
  ·rw[OC]at W;refine⟨Z[i].2,by rw[O1,OH W];rfl,?_⟩;have:=(O _ (Y.sub _ (PY W))).1;rw[OM,O1,OH W];exact this
  ·rw[OC]at W;rw[OM,O1,OH W];exact Nat.lt_of_lt_of_eq (by decide:0<2) (O _ (Y.sub _ (PY W))).2.symm
def two(nss:List (List Int)):Bool:=nss.all λns=>ns.length !=0
def rR(nss:List (List Int)):M D:=if nss.length<64/\two nss=b_ then bB ((b0 nss).map tupI)else M.fail
def jq(xs:List D):M D:=match intsOf xs with
 |some ns=>if ns.length<64 then bB ((sortI ns).map D.int)else M.fail
 |none=>match rowsOf xs with
  |some nss=>rR nss
  |none=>M.fail
def cu:List D->M D
 |[.lst k]=>do
  let xs<-getL k
  jq xs
 |[.fz xs]=>jq xs
 |_=>M.fail
theorem Ak{H:Hp}{vs:List V}{Z:List (List Int)}(h:vs.length=Z.length/\∀i,i<vs.length->∃a,vs[i]? =ar (.ref a)/\H a=ar (.tup ((Z.getD i []).map V.int)))(U:two Z=b_):TRow H vs Z:=
 ⟨h.1,h.2,λi W=>by
  have Y:i<Z.length:=by rw[<-h.1];exact W
  have:=OT.mp U Z[i] (PY Y);rw[OM,OH Y];exact Nat.pos_of_ne_zero λz=>by rw[show(ar Z[i]).getD []=Z[i]from rfl]at z;rw[z]at this;cases this⟩
theorem vC:lp X.K E cu (λxs H Q=>(∃(p:dt) (ns:List Int),xs=[.ref p]/\kN X.K H p (ns.map V.int)/\ns.length<64/\∀l,H l=none->Q (.ref l) (upd H l (.lst ((sortI ns).map V.int))))\/
  ∃(p:dt) (vs:List V) (nss:List (List Int)),xs=[.ref p]/\kN X.K H p vs/\TRow H vs nss/\vs.length<64/\∀q,fS nss q->∀l,H l=none->Q (.ref l) (upd H l (.lst (q.map λi=>vs.getD i .non)))):=by
 intro ι S H ds vs Q rep r c;have fin:∀{es:List D} {us:List V} {p:dt},RelDs X.K ι H es us->Rd H p (.lst us)->cont X.K E (jq es) ι S H (mB X.K Q)->vs=[.ref p]->
   (∃(p:dt) (ns:List Int),vs=[.ref p]/\kN X.K H p (ns.map V.int)/\ns.length<64/\∀l,H l=none->Q (.ref l) (upd H l (.lst ((sortI ns).map V.int))))\/
  ∃(p:dt) (ws:List V) (nss:List (List Int)),vs=[.ref p]/\kN X.K H p ws/\TRow H ws nss/\ws.length<64/\∀q,fS nss q->∀l,H l=none->Q (.ref l) (upd H l (.lst (q.map λi=>ws.getD i .non))):=by
  intro es us p W T Z U;unfold jq at Z;cases q:intsOf es with
  | some ns=>
   rw[q]at Z;have Y:cont X.K E (if ns.length<64 then bB ((sortI ns).map D.int)else M.fail) ι S H (mB X.K Q):=Z;by_cases h:ns.length<64
   ·rw[if_pos h]at Y;exact .inl ⟨p,ns,U,.inl (by rw[<-fE W q];exact T),h,(bq Y rep (nQ _)).2⟩
   ·rw[if_neg h]at Y;exact(ah Y).elim
  | none=>
   rw[q]at Z;cases q2:rowsOf es with
   |none=>rw[q2]at Z;exact(ah Z).elim
   | some nss=>
    rw[q2]at Z;have Y:cont X.K E (if nss.length<64/\two nss=b_ then bB ((b0 nss).map tupI)else M.fail) ι S H (mB X.K Q):=Z;by_cases h:nss.length<64/\two nss=b_
    ·rw[if_pos h]at Y;obtain⟨g1,g2⟩:=nW W q2;refine .inr ⟨p,us,nss,U,.inl T,Ak ⟨g1,g2⟩ h.2,by omega,λN J l F=>?_⟩;have L:∀i∈N,i<us.length:=λi G=>by rw[g1];exact OP.mp (J.1.mem_iff.mp G)
     have I:RelDs X.K ι H ((b0 nss).map tupI) (N.map λi=>us.getD i .non):=by rw[<-mT J];exact nX g2 N L
     exact(bq Y rep I).2 l F
    ·rw[if_neg h]at Y;exact(ah Y).elim
 unfold cu at c;split at c
 ·next k=>
  obtain⟨v,ws,rfl,P,O⟩:=r.cons_inv;cases O.nil_inv;obtain⟨p,rfl,R⟩:=P.lst_inv;obtain⟨es,us,_,T,W,Z⟩:=bz c rep R;exact fin W (.inl T) Z rfl
 ·next es=>
  obtain⟨v,ws,rfl,P,O⟩:=r.cons_inv;cases O.nil_inv;obtain⟨p,o,us,rfl,R,W⟩:=P.fz_inv;exact fin W (.inr ⟨o,R⟩) c rfl
 ·exact(ah c).elim
theorem iO(Y:X.mg "sorted"=none)(Z:SE X E e m)(W:Gl X "sorted":=by rfl)(hs:d_ [e] X.env=[(c_,hY e X.env)]:=by rfl):SE X E (.Call (.Name "sorted" p) [e] [] pos) (λρ=>do let ds<-(do let x<-m ρ;let xs<-aC [];aC (x::xs));cu ds):=
 iR (dm.or vv tE) vC W Y (by decide+kernel) (ae Z ag hs) (by decide) (by decide) hs rfl
def Js(nss:List (List Int)):Bool:=nss.all λns=>ns.length==2
def cA(nss:List (List Int)):M D:=if nss.length<=18/\Js nss=b_ then bB ((iu nss).map tupI)else M.fail
def jZ:List D->M D
 |[.lst k]=>do
  let xs<-getL k
  match rowsOf xs with
  |some nss=>cA nss
  |none=>M.fail
 |[.tup xs]=>match rowsOf xs with
  |some nss=>cA nss
  |none=>M.fail
 |[.fz xs]=>match rowsOf xs with
  |some nss=>cA nss
  |none=>M.fail
 |_=>M.fail
theorem Gb{vs:List V}{Z:List (List Int)}(h:vs.length=Z.length):(mU vs Z).map (·.1)=Z:=by
 unfold mU;rw[Pn];refine QX λi=>?_;rw[O1,h];by_cases hi:i<Z.length
 ·rw[QC hi,OH hi];simp[n7,hi]
 ·rw[Pq (by simpa using hi),Pq (by omega)];rfl
theorem LD{K:dV}{ι:List dt}{H:Hp}{L:List KA}(h:∀k∈L,H k.2=ar (.tup (k.1.map V.int))):∀q:List Nat,(∀i∈q,i<L.length)->RelDs K ι H ((q.map λi=>(L.map (·.1)).getD i []).map tupI) (q.map λi=>(L.map λk=>V.ref k.2).getD i .non):=by
 intro q Y;refine nX (λi Z=>?_) q λi Z=>by rw[OC];exact Y i Z
 rw[OC]at Z;refine⟨L[i].2,by rw[O1,OH Z];rfl,?_⟩;rw[OM,O1,OH Z];exact h _ (PY Z)
theorem nY{p q T:Pos}(hc:X.calm=b_)(hu:X.A.units+8<y4)(hm:X.mg "sorted"=none)(n:X.mg "set"=none)(ha:SE X E e m)(hg:Gl X "sorted":=by rfl)(d:Gl X "set":=by rfl)(hs:d_ [e] X.env=[(c_,hY e X.env)]:=by rfl)
  (F:d_ [.Call (.Name "set" q) [e] [] T] X.env=[(c_,hY (.Call (.Name "set" q) [e] [] T) X.env)]:=by rfl):
  SE X E (.Call (.Name "sorted" p) [.Call (.Name "set" q) [e] [] T] [] pos) (λρ=>do let ds<-(do let x<-m ρ;let xs<-aC [];aC (x::xs));jZ ds):=by
 refine PE.imp (jQ (vB hc) hg hm (by decide+kernel) (eP (jR (BE hc hu) d n (by decide+kernel) (ae ha ag hs) (by decide) (by decide) hs rfl) ke F) (by decide) (by decide) F rfl) λσ H Q h=>?_;obtain⟨ι,S,ρ,rep,re,c⟩:=h;refine⟨ι,S,ρ,rep,re,av (ak c) λds U S1 Y e1 rep1 c1 vs r=>?_⟩;have fin:∀{xs:List D} {us:List V} {a:dt} {Z:List (List Int)},RelDs X.K U Y xs us->rowsOf xs=ar Z->(kN X.K Y a us\/k9 X.K Y a us)->cont X.K E (cA Z) U S1 Y (mB X.K Q)->vs=[.ref a]->
   ∃ (p:dt) (vs':List V) (Z:List (List Int)),vs=[.ref p]/\(kN X.K Y p vs'\/k9 X.K Y p vs')/\
    (∀i,i<vs'.length->∃a,vs'[i]? =ar (.ref a)/\Y a=ar (.tup ((Z.getD i []).map V.int)))/\vs'.length<=18/\∀l,Y l=none->
     ∃(p:dt) (kv:List KA),[V.ref l]=[.ref p]/\upd Y l (.ext (qg X.prog X.w l (mU vs' Z))) p=ar (.ext (qg X.prog X.w p kv))/\(∀k∈kv,upd Y l (.ext (qg X.prog X.w l (mU vs' Z))) k.2=ar (.tup (k.1.map V.int))/\k.1.length=2)/\kv.length<=18/\
      ∀L q,Folded kv L->fS (L.map (·.1)) q->∀I,upd Y l (.ext (qg X.prog X.w l (mU vs' Z))) I=none->Q (.ref I) (upd (upd Y l (.ext (qg X.prog X.w l (mU vs' Z)))) I (.lst (q.map λi=>(L.map λk=>V.ref k.2).getD i .non))):=by
  intro xs us a Z R W s y j;unfold cA at y;by_cases h:Z.length<=18/\Js Z=b_
  ·rw[if_pos h]at y;obtain⟨g1,g2⟩:=nW R W;refine⟨a,us,Z,j,s,g2,by omega,λl u=>⟨l,mU us Z,rfl,aX,λk O=>?_,by unfold mU;simp;omega,λL qq hF hq I a3=>?_⟩⟩
   ·unfold mU at O;obtain⟨i,P,rfl⟩:=O0.mp O;rw[OP]at P;obtain⟨b,g,B⟩:=g2 i P;have f:us.getD i .non= .ref b:=by rw[OM,g];rfl
    simp only[f];refine⟨by rw[aI (aU B u)];exact B,?_⟩;have G:i<Z.length:=by omega
    have:=OT.mp h.2 Z[i] (PY G);rw[OM,OH G];simpa using this
   ·have hE:Ext U Y U (upd Y l (.ext (qg X.prog X.w l (mU us Z)))):=fx u;have rep2:=gF (o:=.ext (qg X.prog X.w l (mU us Z))) rep1 u;have a0:∀i∈qq,i<L.length:=λi P=>by
     have:=OP.mp (hq.1.mem_iff.mp P);simpa using this
    have O:∀k∈L,upd Y l (.ext (qg X.prog X.w l (mU us Z))) k.2=ar (.tup (k.1.map V.int)):=λk O=>by
     have z:=hF.sub k O;unfold mU at z;obtain⟨i,P,rfl⟩:=O0.mp z;rw[OP]at P;obtain⟨b,g,B⟩:=g2 i P;have f:us.getD i .non= .ref b:=by rw[OM,g];rfl
     simp only[f];rw[aI (aU B u)];exact B
    have rr:=LD (K:=X.K) (ι:=U) O qq a0;rw[mT hq,DG hF,Gb g1]at rr;exact(bq (gv y hE) rep2 rr).2 I a3
  ·rw[if_neg h]at y;exact(ah y).elim
 unfold jZ at c1;split at c1
 ·next k=>
  obtain⟨v,ws,rfl,J,C⟩:=r.cons_inv;cases C.nil_inv;obtain⟨a,rfl,N⟩:=J.lst_inv;obtain⟨es,us,_,hv,R,t⟩:=bz c1 rep1 N;cases W:rowsOf es with
  |none=>rw[W]at t;exact(ah t).elim
  |some Z=>
   rw[W]at t;exact fin R W (.inl (.of hv)) t rfl
 ·next xs=>
  obtain⟨v,ws,rfl,J,C⟩:=r.cons_inv;cases C.nil_inv;obtain⟨a,us,rfl,N,R⟩:=J.tup_inv;cases W:rowsOf xs with
  |none=>rw[W]at c1;exact(ah c1).elim
  |some Z=>
   rw[W]at c1;exact fin R W (.inr (.of N)) c1 rfl
 ·next xs=>
  obtain⟨v,ws,rfl,J,C⟩:=r.cons_inv;cases C.nil_inv;obtain⟨a,o,us,rfl,N,R⟩:=J.fz_inv;cases W:rowsOf xs with
  |none=>rw[W]at c1;exact(ah c1).elim
  |some Z=>
   rw[W]at c1;exact fin R W (.inl (.inl (.inr ⟨o,N⟩))) c1 rfl
 ·exact(ah c1).elim
end
end S3
namespace S4
open PySem PySem.Spec PyProof.Rows L2 S3
section
variable {prog:ey}{w:fg}{A:j_}{E:a_->dr->Prop}{s:dr}
theorem mW{Q:a_->dr->Prop}(Z:s.heap.IsTupleIter it t i)(T:s.heap.IsTuple t items)(U:items[i]? =ar x)
  (S:∀h',h'.IsTupleIter it t (i+1)->ri it s.heap h'->Q x {s with heap:=h'}):eb (fc prog w) A (kA (.ref it)) Q E s:=by
 obtain⟨o,Y,R,hd⟩:=id Z;obtain⟨ol,X,_,nl,W⟩:=T;unfold kA;refine OB (wpAny_callSpecial?_slot (name:=kr "__next__") Z.typeIs Qn
  (PF Qn Z.typeIs RU ?_ (RS _)))
 show eb _ _ (UJ (.ref it) 0>>=_) _ _ s;refine OB (PN Y hd (x:=.ref t) rfl ?_);show eb _ _ (if (er t==h_)=b_ then _ else _) _ _ s;rw[if_neg (show ¬ ((er t==h_)=b_)from PU)];show eb _ _ (UJ (.ref it) 1>>=_) _ _ s;refine OB (PN Y hd (x:=.int i 0) rfl ?_);show eb _ _ (US (.ref t)>>=_) _ _ s;refine OB (P9 X W ?_);simp only[Ic,U];refine OB (QK Y hd (by simp) (OE ⟨x,rfl,OE (S _ ?_ (P8 ..))⟩));exact⟨_,PB _ Y (QW (Qc hd _)),(Sq ..).trans R,by rw[Qc hd];simp[mv]⟩
theorem uu(U:A.handled=none)(Z:s.heap.IsTupleIter it t i)(R:s.heap.IsTuple t items)(S:items[i]? =none)
  (T:∀h' e,Heap.ExtBut it s.heap h'->(∃o,h'.get? e=ar o/\o.cls= .type "StopIteration")->E (.ref e) {s with heap:=h'}):eb (fc prog w) A (kA (.ref it)) Q E s:=by
 obtain⟨o,X,P,hd⟩:=id Z;obtain⟨ol,Y,_,nl,W⟩:=R;unfold kA;refine OB (wpAny_callSpecial?_slot (name:=kr "__next__") Z.typeIs Qn
  (PF Qn Z.typeIs RU ?_ (RS _)))
 show eb _ _ (UJ (.ref it) 0>>=_) _ _ s;refine OB (PN X hd (x:=.ref t) rfl ?_);show eb _ _ (if (er t==h_)=b_ then _ else _) _ _ s;rw[if_neg (show ¬ ((er t==h_)=b_)from PU)];show eb _ _ (UJ (.ref it) 1>>=_) _ _ s;refine OB (PN X hd (x:=.int i 0) rfl ?_);show eb _ _ (US (.ref t)>>=_) _ _ s;refine OB (P9 Y W ?_);simp only[Ic,S];refine OB (Re (OB (QK X hd (by simp) ?_)));show eb _ _ (Vi (.type "StopIteration") []>>=_) _ _ _;refine OB ?_;simp only[Vi,newTuple];refine OB (Pm ?_ (by size_fits));refine OB (m:=H0 _ _) (Tb (a:=h_) (by first|rfl|(simp only[H0];rfl)) ?_);refine Pm ?_ (by size_fits);simp only[raiseNew];refine OB (wpAny_handled ?_);first|rw[show A.in1.handled=none from U]|rw[U]
 refine OB (OE (wpAny_throw ?_));exact T _ _ (((P8 ..).extBut.push _).push _) ⟨_,OK _ rfl,rfl⟩
theorem BF{z TI TO N L u n:dt}{k:Nat}{xs ys:Array a_}{x y a b:a_}{Q:Option a_->dr->Prop}(D:UK z TI TO N L u n)
  (B:Si s.heap z TI TO .none) (j:p_ s.heap TI (.ref N) (.ref L)) (a6:p_ s.heap TO a b)
  (h1:s.heap.IsTupleIter N u k) (h2:s.heap.IsTupleIter L n k) (i:s.heap.IsTuple u xs) (g:s.heap.IsTuple n ys) (hx:xs[k]? =ar x) (hy:ys[k]? =ar y)
  (hQ:∀h',Si h' z TI TO (mv s.heap.objs.size)->p_ h' TO x y->h'.IsTupleIter N u (k+1)->h'.IsTupleIter L n (k+1)->p_ h' s.heap.objs.size x y->h'.objs.size=s.heap.objs.size+1->
   (∀c o,c≠z->c≠TO->c≠N->c≠L->s.heap.get? c=ar o->h'.get? c=ar o)->Q (ar (.ref s.heap.objs.size)) {s with heap:=h'}):eb (fc prog w) A (B' (.ref z)) Q E s:=by
 have hT:s.TypeIs (.ref z) "zip":=⟨_,B,rfl⟩;unfold B';refine OB (Rw (wpAny_callSpecial?_slot (name:=kr "__next__") hT RV (PF RV hT F.entry_zip_next ?_ (F.args_zip_next_1 _))));show eb _ _ (UJ (.ref z) 2>>=_) _ _ _;refine OB (PN B rfl (x:=.bool c_) rfl ?_);show eb _ _ (UJ (.ref z) 3>>=_) _ _ _;refine OB (PN B rfl (x:=.ref TI) rfl ?_);refine OB (P9 j rfl ?_);show eb _ _ (k8 (.ref z)>>=_) _ _ _;refine OB ?_;unfold k8;refine OB (PN B rfl (x:=.none) rfl (OE ?_));simp only[if_true];refine OB (Re ?_);refine OB (PN B rfl (x:=.ref TO) rfl ?_);refine OB (Qt B (by simp) λg1 G Y=>?_);replace G:Si g1 z TI TO .ellipsis:=G;refine OB ?_;simp only[List.zipIdx_cons,List.zipIdx_nil,Te,List.forIn_nil];refine OB (OB (Sz ?_));show eb _ _ (kA (.ref N)>>=_) _ _ _;refine OB (mW (s:={s with heap:=g1}) (h1.at λo e=>Y.extBut _ _ D.i1z e) (i.extBut Y.extBut D.l1z) hx λg2 d U=>OE ?_);have J:p_ g2 TO a b:=U.extBut _ _ D.TOi1 (Y.extBut _ _ D.TOz a6);refine OB (P9 J rfl ?_);refine OB (RQ J λg3 S W=>?_);replace S:p_ g3 TO x b:=S;refine OB (Ur (OE ?_));refine OB (OB (Sz ?_));show eb _ _ (kA (.ref L)>>=_) _ _ _;refine OB (mW (s:={s with heap:=g3}) (((h2.at λo e=>Y.extBut _ _ D.i2z e).at λo e=>U.extBut _ _ D.i12.symm e).at λo e=>W.extBut _ _ D.TOi2.symm e)
  (((g.extBut Y.extBut D.l2z).extBut U.extBut D.l2i1).extBut W.extBut D.l2TO) hy λg4 l R=>OE ?_)
 have O:p_ g4 TO x b:=R.extBut _ _ D.TOi2 S;refine OB (P9 O rfl ?_);refine OB (RQ O λZ X T=>?_);replace X:p_ Z TO x y:=X;refine OB (Ur (OE (OE ?_)));refine OB (P9 X rfl ?_);refine OB (wpAny_newTuple ?_);have t:Z.objs.size=s.heap.objs.size:=by rw[T.1,R.1,W.1,U.1,Y.1]
 have r:Si Z z TI TO .ellipsis:=T.extBut _ _ D.TOz.symm (R.extBut _ _ D.i2z.symm (W.extBut _ _ D.TOz.symm (U.extBut _ _ D.i1z.symm G)));have f:∀c o,c≠z->c≠TO->c≠N->c≠L->s.heap.get? c=ar o->Z.get? c=ar o:=λc o c1 m h c4 e=>
  T.extBut _ _ m (R.extBut _ _ c4 (W.extBut _ _ m (U.extBut _ _ h (Y.extBut _ _ c1 e))))
 have a5:Z.IsTupleIter N u (k+1):=((d.at λo e=>W.extBut _ _ D.TOi1.symm e).at λo e=>R.extBut _ _ D.i12 e).at λo e=>T.extBut _ _ D.TOi1.symm e;have a3:Z.IsTupleIter L n (k+1):=l.at λo e=>T.extBut _ _ D.TOi2.symm e;have K:z<Z.objs.size:=OJ r;show eb _ _ (Builtin.SmallTypes.ownedTupleHandOut (.ref z) (.ref Z.objs.size)>>=_) _ _ _;refine OB ?_;unfold Builtin.SmallTypes.ownedTupleHandOut;have a0:Si (Z.push {cls:=.type "tuple",data:=.seq #[x,y]}) z TI TO .ellipsis:=OD _ r;refine OB (Qt a0 (by simp) λg7 H C=>?_);replace H:Si g7 z TI TO (mv Z.objs.size):=H;refine Qt H (by simp) λp P I=>?_;replace P:Si p z TI TO (mv Z.objs.size):=P;have up:∀c o,c≠z->Z.get? c=ar o->p.get? c=ar o:=λc o c1 e=>I.extBut _ _ c1 (C.extBut _ _ c1 (OD _ e));have v:p_ p Z.objs.size x y:=I.extBut _ _ (Qh K) (C.extBut _ _ (Qh K) (OK _ rfl));have q:p.objs.size=Z.objs.size+1:=by rw[I.1,C.1,PP]
 rw[t]at P v q;refine OE ⟨_,rfl,?_⟩;refine OE ?_;show Q (ar (.ref Z.objs.size)) _;rw[t];exact hQ p P (up _ _ D.TOz X) (a5.at λo e=>up _ o D.i1z e) (a3.at λo e=>up _ o D.i2z e) v q λc o c1 m h c4 e=>up c o c1 (f c o c1 m h c4 e)
theorem DH{z TI TO L N n r:dt}{k:Nat}{xs ys:Array a_}{a b:a_}{Q:Option a_->dr->Prop}(i:A.handled=none)(D:UK z TI TO L N n r)
  (K:Si s.heap z TI TO .none) (u:p_ s.heap TI (.ref L) (.ref N)) (p:p_ s.heap TO a b)
  (l:s.heap.IsTupleIter L n k) (h2:s.heap.IsTupleIter N r k) (H:s.heap.IsTuple n xs) (y:s.heap.IsTuple r ys) (I:xs[k]? =none\/ys[k]? =none)
  (t:∀h',(∀c o,c≠z->c≠TO->c≠L->c≠N->s.heap.get? c=ar o->h'.get? c=ar o)->Q none {s with heap:=h'}):eb (fc prog w) A (B' (.ref z)) Q E s:=by
 have j:s.TypeIs (.ref z) "zip":=⟨_,K,rfl⟩;unfold B';refine OB (Rw (wpAny_callSpecial?_slot (name:=kr "__next__") j RV (PF RV j F.entry_zip_next ?_ (F.args_zip_next_1 _))));have stop:∀(g:gg) (e:dt),(∃o,g.get? e=ar o/\o.cls= .type "StopIteration")->(∀c o,c≠z->c≠TO->c≠L->c≠N->s.heap.get? c=ar o->g.get? c=ar o)->∀R:a_->dr->Prop,
   (∀v s',eb (fc prog w) A (do if<-TX v (.type "StopIteration")then aC none else throw v) Q E s'->R v s')->R (.ref e) {s with heap:=g}:=λg e ⟨o,ho,hc⟩ hk R hR=>hR _ _ (by
  refine OB (Q9 (T:="StopIteration") (b:=b_) ⟨o,ho,hc⟩ R9 ?_);exact OE (t _ hk))
 show eb _ _ (UJ (.ref z) 2>>=_) _ _ _;refine OB (PN K rfl (x:=.bool c_) rfl ?_);show eb _ _ (UJ (.ref z) 3>>=_) _ _ _;refine OB (PN K rfl (x:=.ref TI) rfl ?_);refine OB (P9 u rfl ?_);show eb _ _ (k8 (.ref z)>>=_) _ _ _;refine OB ?_;unfold k8;refine OB (PN K rfl (x:=.none) rfl (OE ?_));simp only[if_true];refine OB (Re ?_);refine OB (PN K rfl (x:=.ref TO) rfl ?_);refine OB (Qt K (by simp) λg1 S Z=>?_);replace S:Si g1 z TI TO .ellipsis:=S;refine OB ?_;simp only[List.zipIdx_cons,List.zipIdx_nil,Te,List.forIn_nil];refine OB (OB (Sz ?_));show eb _ _ (kA (.ref L)>>=_) _ _ _;cases hx:xs[k]? with
 |none=>
  refine OB (uu (s:={s with heap:=g1}) i (l.at λo e=>Z.extBut _ _ D.i1z e) (H.extBut Z.extBut D.l1z) hx λg2 e Y he=>?_);obtain⟨m,X,U⟩:=he;have G:Si g2 z TI TO .ellipsis:=Y _ _ D.i1z.symm S;have O:e≠z:=λx=>by subst x;rw[G]at X;cases X;simp at U
  refine Qt G (by simp) λg3 _ W=>?_;refine OB (Q9 (T:="StopIteration") (b:=b_) ⟨m,W.extBut _ _ O X,U⟩ R9 ?_);exact OE (t _ λc o c1 _ q _ x=>W.extBut _ _ c1 (Y _ _ q (Z.extBut _ _ c1 x)))
 | some x=>
  have hy:ys[k]? =none:=by rcases I with h|h;rw[hx]at h;cases h;exact h
  refine OB (mW (s:={s with heap:=g1}) (l.at λo e=>Z.extBut _ _ D.i1z e) (H.extBut Z.extBut D.l1z) hx λg2 a4 Y=>OE ?_);have P:p_ g2 TO a b:=Y.extBut _ _ D.TOi1 (Z.extBut _ _ D.TOz p);refine OB (P9 P rfl ?_);refine OB (RQ P λg3 f W=>?_);refine OB (Ur (OE ?_));refine OB (OB (Sz ?_));show eb _ _ (kA (.ref N)>>=_) _ _ _;refine OB (uu (s:={s with heap:=g3}) i (((h2.at λo e=>Z.extBut _ _ D.i2z e).at λo e=>Y.extBut _ _ D.i12.symm e).at λo e=>W.extBut _ _ D.TOi2.symm e)
   (((y.extBut Z.extBut D.l2z).extBut Y.extBut D.l2i1).extBut W.extBut D.l2TO) hy λg4 e C he=>?_)
  obtain⟨m,X,U⟩:=he;have B:Si g4 z TI TO .ellipsis:=C _ _ D.i2z.symm (W.extBut _ _ D.TOz.symm (Y.extBut _ _ D.i1z.symm S));have O:e≠z:=λx=>by subst x;rw[B]at X;cases X;simp at U
  refine Qt B (by simp) λg5 _ J=>?_;refine OB (Q9 (T:="StopIteration") (b:=b_) ⟨m,J.extBut _ _ O X,U⟩ R9 ?_);exact OE (t _ λc o c1 d q c4 x=>J.extBut _ _ c1 (C _ _ c4 (W.extBut _ _ d (Y.extBut _ _ q (Z.extBut _ _ c1 x)))))
end
def MH(l:dt):Obj:={cls:=.type "tuple_iterator",data:=.fields #[.ref l,.int 0 0]}
def Jt(h:gg)(l1:dt):Heap:=h.push (MH l1)
def Ju(h:gg)(l1 l2:dt):Heap:=(Jt h l1).push (MH l2)
def Jv(h:gg)(l1 l2:dt):Heap:=(Ju h l1 l2).push {cls:=.type "tuple",data:=.seq #[.ref h.objs.size,.ref (Jt h l1).objs.size]}
def Kz(h:gg)(l1 l2:dt):Heap:=(Jv h l1 l2).push {cls:=.type "tuple",data:=.seq #[.none,.none]}
def Jw(h:gg)(l1 l2:dt):Heap:=(Kz h l1 l2).push {cls:=.type "zip",data:=.fields #[.none,.bool c_,.bool c_,.ref (Ju h l1 l2).objs.size,.ref (Jv h l1 l2).objs.size]}
theorem Jx(Z Y:dt)(xs ys:Array a_):
  Meets (Builtin.«zip.__new__» ⟨[.type "zip",.ref Z,.ref Y],[]⟩) (λ_ R s=>s.heap.IsTuple Z xs/\s.heap.IsTuple Y ys/\R (.ok (.ret (.ref (Kz s.heap Z Y).objs.size))) {s with heap:=Jw s.heap Z Y}):=
 .of_wp λprog w A R s h=>by
  obtain⟨P,g,d,S,os⟩:=s;obtain⟨X,W,h⟩:=h;have Q:=sub_zip;have U:Heap.IsTuple (Shared.heap ⟨P,g,d,S,os⟩) Z xs:=X;have T:Heap.IsTuple (Shared.heap ⟨P.push {cls:=.type "tuple_iterator",data:=.fields #[.ref Z,.int 0 0]},g,d,S,os⟩) Y ys:=let ⟨o,e,r⟩:=W;⟨o,OD _ e,r⟩
  wp_walk using Rm U,Rm T
  exact⟨_,rfl,h⟩
section
variable {prog:ey}{w:fg}{A:j_}{E:a_->dr->Prop}{s:dr}
theorem BG{Q:a_->dr->Prop}(X:s.heap.IsTuple l1 xs)(U:s.heap.IsTuple l2 ys)
  (h:∀h',Si h' (s.heap.objs.size+4) (s.heap.objs.size+2) (s.heap.objs.size+3) .none->p_ h' (s.heap.objs.size+2) (.ref s.heap.objs.size) (.ref (s.heap.objs.size+1))->
   p_ h' (s.heap.objs.size+3) .none .none->h'.IsTupleIter s.heap.objs.size l1 0->h'.IsTupleIter (s.heap.objs.size+1) l2 0->(∀c o,s.heap.get? c=ar o->h'.get? c=ar o)->Q (.ref (s.heap.objs.size+4)) {s with heap:=h'}):
  eb (fc prog w) A (call (.type "zip") [.ref l1,.ref l2]) Q E s:=by
 refine callType_new F.called_zip (by decide) (F.typeCall_zip_2 _ _) (F.newCall_zip_2 _ _) (λobj=>F.args_object_init_3 obj _ _) F.entry_zip_new (Jx l1 l2 xs ys) ⟨X,U,?_⟩;have W:(Jt s.heap l1).objs.size=s.heap.objs.size+1:=PP ..;have P:(Ju s.heap l1 l2).objs.size=s.heap.objs.size+2:=(PP ..).trans (by rw[W]);have R:(Jv s.heap l1 l2).objs.size=s.heap.objs.size+3:=(PP ..).trans (by rw[P]);have N:(Kz s.heap l1 l2).objs.size=s.heap.objs.size+4:=(PP ..).trans (by rw[R]);have Z:∀{c o},(Kz s.heap l1 l2).get? c=ar o->(Jw s.heap l1 l2).get? c=ar o:=λe=>OD _ e;have Y:∀{c o},(Jv s.heap l1 l2).get? c=ar o->(Kz s.heap l1 l2).get? c=ar o:=λe=>OD _ e;have T:∀{c o},(Ju s.heap l1 l2).get? c=ar o->(Jv s.heap l1 l2).get? c=ar o:=λe=>OD _ e;have L:∀{c o},(Jt s.heap l1).get? c=ar o->(Ju s.heap l1 l2).get? c=ar o:=λe=>OD _ e;have K:∀{c o},s.heap.get? c=ar o->(Jt s.heap l1).get? c=ar o:=λe=>OD _ e;have S:(Jw s.heap l1 l2).get? (Kz s.heap l1 l2).objs.size=ar {cls:=.type "zip",data:=.fields #[.none,.bool c_,.bool c_,.ref (Ju s.heap l1 l2).objs.size,.ref (Jv s.heap l1 l2).objs.size]}:=OK _ rfl;have O:(Jw s.heap l1 l2).get? (Jv s.heap l1 l2).objs.size=ar {cls:=.type "tuple",data:=.seq #[.none,.none]}:=Z (OK _ rfl);have g3:(Jw s.heap l1 l2).get? (Ju s.heap l1 l2).objs.size=ar {cls:=.type "tuple",data:=.seq #[.ref s.heap.objs.size,.ref (Jt s.heap l1).objs.size]}:=Z (Y (OK _ rfl));have g2:(Jw s.heap l1 l2).get? (Jt s.heap l1).objs.size=ar (MH l2):=Z (Y (T (OK _ rfl)));have g1:(Jw s.heap l1 l2).get? s.heap.objs.size=ar (MH l1):=Z (Y (T (L (OK _ rfl))));show _/\_;rw[P,R,N]at S;rw[W,P]at g3;rw[R]at O;rw[W]at g2;rw[N];exact⟨⟨_,S,rfl⟩,h _ S g3 O ⟨_,g1,rfl,rfl⟩ ⟨_,g2,rfl,rfl⟩ λc o x=>Z (Y (T (L (K x))))⟩
end
def Cv(va vb:List V):It:=⟨λi _=>i<va.length/\i<vb.length,λi H x H'=>∃p a b,H p=none/\va[i]? =ar a/\vb[i]? =ar b/\x= .ref p/\H'=upd H p (.tup [a,b]),λi _=>va.length<=i\/vb.length<=i⟩
section
variable {X:Cx}{pins:List (dt×Obj)}{σ:L2.St}{H:Hp}{s:dr}
theorem Al{h':gg}{t':Nat}{ch:List dt}(I:L2.Inv X pins σ H s)(W:∀b∈ch,kO X pins H b)(k:∀b o,b∉ch->s.heap.get? b=ar o->h'.get? b=ar o):L2.Inv X pins σ H {s with heap:=h',toks:=t'}:=by
 have Y:∀b u,H b=ar u->b∉ch:=λb u e z=>by rw[(W b z).1]at e;cases e
 refine I.step (g':=s.gens) (d':=s.drawn) (ch:=ch) (λb S=>?_) (λb o _ _ Z e _=>k b o Z e) (λb o _ _ Z e _=>⟨o.slots,k b o Z e⟩) (λ_ _ _ _ n=>n)
  (λb o Z e=>⟨o,k b o Z e⟩) (λ_ _ e=>e) (λ_ _ _ e=>e) (λb Q e=>⟨#[],by rw[e];simp⟩) (λm hm=>?_) (λb u e=>?_) I.bare
 ·obtain⟨f0,f1,f2,R,f4,U⟩:=W b S;exact⟨R,f1,f4,U⟩
 ·obtain⟨o,es,ep,T,r⟩:=hm;exact⟨o,es,ep,k _ o (λz=>(W _ z).2.1 rfl) T,r⟩
 ·refine(I.hok b u e).stay (λc v Z q=>k c v ?_ q) (λ_ q=>q) λ_ _ q=>q;rcases Z with z|z
  ·rw[z];exact Y b u e
  ·exact Y c _ z
theorem Am{h':gg}{t':Nat}{ch:List dt}{a:dt}{o:HO}(I:L2.Inv X pins σ H s)(S:∀b∈ch,kO X pins H b)(k:∀b o,b∉ch->s.heap.get? b=ar o->h'.get? b=ar o)(R:s.heap.objs.size<=a)(T:bC X.prog X.w (upd H a o) h' a o):
  L2.Inv X pins σ (upd H a o) {s with heap:=h',toks:=t'}:=by
 have Y:H a=none:=I.hok.fresh R;have W:∀b u,H b=ar u->b∉ch:=λb u e z=>by rw[(S b z).1]at e;cases e
 have ne:∀b o,s.heap.get? b=ar o->b≠a:=λb o e=>OQ (OU (OJ e) R);refine I.step (g':=s.gens) (d':=s.drawn) (ch:=ch) (λb U=>?_) (λb o _ _ Z e _=>k b o Z e) (λb o _ _ Z e _=>⟨o.slots,k b o Z e⟩) (λb o _ e n=>by rw[aI (ne b o e)];exact n)
  (λb o Z e=>⟨o,k b o Z e⟩) (λb xs e=>by rw[aI (aU e Y)];exact e) (λb _ _ e=>by rw[aI (aU e Y)];exact e) (λb N e=>⟨#[],by rw[aI (aU e Y),e];simp⟩) (λm hm=>?_) (λb u e=>?_) I.bare
 ·obtain⟨f0,f1,f2,P,f4,Q⟩:=S b U;exact⟨P,f1,f4,Q⟩
 ·obtain⟨o,es,ep,O,r⟩:=hm;exact⟨o,es,ep,k _ o (λz=>(S _ z).2.1 rfl) O,r⟩
 ·by_cases U:b=a
  ·subst U;rw[aX]at e;cases e;exact T
  ·rw[aI U]at e;refine(I.hok b u e).stay (λc v Z q=>k c v ?_ q) (λc q=>by rw[aI (aU q Y)];exact q) λc xs q=>by rw[aI (aU q Y)];exact q
   rcases Z with z|z
   ·rw[z];exact W b u e
   ·exact W c _ z
end
theorem DI{P:ey}{w:fg}{K:dV}{u:List Expr}{x1}{tp:Pos}{z TI TO Q L l1 l2:dt}(D:UK z TI TO Q L l1 l2){F C:List V}(m:Hp->Prop)(r:∀H,m H↔(H l1=ar (.tup F)/\H l2=ar (.tup C))):
  Turn P w K (.Tuple u x1 tp) ⟨λi H=>(Cv F C).go i H/\m H,(Cv F C).yld,λi H=>(Cv F C).stop i H/\m H⟩ [z,TI,TO,Q,L] z
   (λi h=>Si h z TI TO .none/\p_ h TI (.ref Q) (.ref L)/\(∃a b,p_ h TO a b)/\h.IsTupleIter Q l1 i/\h.IsTupleIter L l2 i) where
 mem:=by simp
 obj:=λi h st b Y=>by
  obtain⟨S,Z,⟨a,c,U⟩,⟨o1,e1,c1,d1⟩,⟨o2,e2,c2,d2⟩⟩:=st;simp only[gc,f_,or_false]at Y;rcases Y with rfl|rfl|rfl|rfl|rfl
  ·exact⟨_,S,λv z=>by cases z⟩
  ·exact⟨_,Z,λv z=>by cases z⟩
  ·exact⟨_,U,λv z=>by cases z⟩
  ·exact⟨_,e1,λv z=>by rw[d1]at z;cases z⟩
  ·exact⟨_,e2,λv z=>by rw[d2]at z;cases z⟩
 keep:=λi h h' st k=>by obtain⟨S,Z,⟨a,c,U⟩,J,G⟩:=st;exact⟨k z (by simp) _ S,k TI (by simp) _ Z,⟨a,c,k TO (by simp) _ U⟩,J.at λo e=>k Q (by simp) o e,G.at λo e=>k L (by simp) o e⟩
 item:=by
  intro X hP hw hK hc i pins s σ H E I hf st hg;subst hP hw hK;obtain⟨S,Z,⟨a,c,U⟩,J,G⟩:=st;obtain⟨⟨ga,gb⟩,j⟩:=hg;obtain⟨l,hB⟩:=(r H).mp j;obtain⟨A,O,f,_⟩:=I.tuple (.of l);obtain⟨t,N,p2,_⟩:=I.tuple (.of hB);obtain⟨d,n,c6⟩:=O.get (OH ga);obtain⟨u2,b4,b3⟩:=N.get (OH gb);refine BF D S Z U J G f p2 (x:=d) (y:=u2) (by simpa using n) (by simpa using b4) λh' a1 a2 a3 a4 a5 a6 p=>?_;have b6:H s.heap.objs.size=none:=I.hok.fresh (OF _);have lt:∀{c o},s.heap.get? c=ar o->s.heap.objs.size≠c:=λe=>Qh (OJ e);refine⟨_,rfl,Sd a1 λR c5 T=>?_⟩;have q:p_ R TI (.ref Q) (.ref L):=T.extBut _ _ D.TIz (p _ _ D.TIz D.TITO D.TIi1 D.TIi2 Z);have kk:∀b o,b∉[z,TI,TO,Q,L]->s.heap.get? b=ar o->R.get? b=ar o:=λb o Y e=>by simp only[gc,f_,or_false,not_or]at Y;exact T.extBut _ _ Y.1 (p b o Y.1 Y.2.2.1 Y.2.2.2.1 Y.2.2.2.2 e)
  have B:p_ R s.heap.objs.size d u2:=T.extBut _ _ (lt S) a5;have I2:L2.Inv X pins σ (upd H s.heap.objs.size (.tup [F[i],C[i]])) {s with heap:=R,toks:=s.toks}:=Am (o:=.tup [F[i],C[i]]) I hf kk (OF _) ⟨⟨by show 2<=sizeLine;decide,_,B,rfl⟩,[d,u2],.cons c6 (.cons b3 .nil),_,B,rfl,_,rfl⟩;refine⟨.ref s.heap.objs.size,_,I2,rfl,
   ⟨_,_,_,b6,OH ga,OH gb,rfl,rfl⟩,⟨c5,q,⟨_,_,T.extBut _ _ D.TOz a2⟩,a3.at λo e=>T.extBut _ _ D.i1z e,a4.at λo e=>T.extBut _ _ D.i2z e⟩,λb Y=>?_⟩
  obtain⟨ob,ho,_⟩:∃ob,s.heap.get? b=ar ob/\True:=by
   simp only[gc,f_,or_false]at Y;rcases Y with rfl|rfl|rfl|rfl|rfl
   ·exact⟨_,S,trivial⟩
   ·exact⟨_,Z,trivial⟩
   ·exact⟨_,U,trivial⟩
   ·obtain⟨o,e,_⟩:=J;exact⟨_,e,trivial⟩
   ·obtain⟨o,e,_⟩:=G;exact⟨_,e,trivial⟩
  rw[aI (OQ (OJ ho))];exact(hf b Y).1
 done:=by intro X hP hw hK hc i pins s σ H E I hf st hg;subst hP hw hK;obtain⟨S,Z,⟨a,c,U⟩,J,G⟩:=st;obtain⟨gs,j⟩:=hg;obtain⟨l,hB⟩:=(r H).mp j;obtain⟨A,O,f,_⟩:=I.tuple (.of l);obtain⟨t,N,p2,_⟩:=I.tuple (.of hB);have e6:=O.length;have e5:=N.length;refine DH (I.ok.hd hc) D S Z U J G f p2 (gs.imp (λg=>by simp;omega) λg=>by simp;omega) λh' p=>⟨rfl,Al (t':=s.toks) I hf λb o Y e=>?_⟩;simp only[gc,f_,or_false,not_or]at Y;exact p b o Y.1 Y.2.2.1 Y.2.2.2.1 Y.2.2.2.2 e
 self:=λ_ _ _ _ _ st h=>RM st.1 h
theorem zip_get{xs ys:List D}{i:Nat}{d:D}(h:((xs.zip ys).map λp=>D.tup [p.1,p.2])[i]? =ar d):∃x y,xs[i]? =ar x/\ys[i]? =ar y/\d= .tup [x,y]:=by
 rw[O1]at h;cases q:(xs.zip ys)[i]? with
 |none=>rw[q]at h;cases h
 |some p=>
  rw[q]at h;cases h;obtain⟨Z,Y⟩:=Q7.mp q;exact⟨p.1,p.2,Z,Y,rfl⟩
theorem zb{K:dV}{ι:List dt}{H:Hp}{S:aE}{a b:dt}{Y X:List V}{xs ys:List D}(Z:Rep K ι H S)(E:H a=ar (.tup Y))(G:H b=ar (.tup X))(w:RelDs K ι H xs Y)(A:RelDs K ι H ys X):
  km K ⟨(xs.zip ys).map λp=>.tup [p.1,p.2],.none⟩ ⟨λi H=>(Cv Y X).go i H/\(H a=ar (.tup Y)/\H b=ar (.tup X)),(Cv Y X).yld,λi H=>(Cv Y X).stop i H/\(H a=ar (.tup Y)/\H b=ar (.tup X))⟩ ι H:=by
 intro R O S2 e rep2 ok i;have P:O a=ar (.tup Y):=(e.oth a _ E (Z.notIn E (by intro _ z;cases z)) (by intro _ z;cases z) (by intro _ z;cases z)).1;have U:O b=ar (.tup X):=(e.oth b _ G (Z.notIn G (by intro _ z;cases z)) (by intro _ z;cases z) (by intro _ z;cases z)).1;have T:=w.laterN Z e;have Q:=A.laterN Z e;have r:=T.length;have u:=Q.length;refine⟨λd hd=>?_,λhlen=>?_⟩
 ·obtain⟨x,y,I,F,rfl⟩:=zip_get hd;have s:=(OI.mp I).1;have t:=(OI.mp F).1;refine⟨⟨⟨by omega,by omega⟩,P,U⟩,?_⟩;rintro v H3 ⟨p,N,L,hp,g1,g2,rfl,rfl⟩;obtain⟨v1,e1,C⟩:=T.get' I;obtain⟨v2,e2,B⟩:=Q.get' F;obtain rfl:v1=N:=O5 (e1.symm.trans g1);obtain rfl:v2=L:=O5 (e2.symm.trans g2);have J:Ext R O R (upd O p (.tup [v1,v2])):=fx hp;exact⟨J,gF rep2 hp,.tup aX (.cons (C.later rep2 J) (.cons (B.later rep2 J) .nil))⟩
 ·have q:min xs.length ys.length<=i:=by simpa using hlen
  refine⟨?_,P,U⟩;rcases Nat.le_total xs.length ys.length with z|z
  ·exact .inl (by omega)
  ·exact .inr (by omega)
end S4
namespace S3
open PySem PySem.Spec PyProof.Rows L2 S4
abbrev mV(i:Nat):TM:=λρ=>HF ρ i
abbrev mK(d:D):TM:=λ_=>aC d
abbrev qh(m n:TM):TM:=λρ=>do let x<-m ρ;let c<-kh x;if c=b_ then n ρ else aC (.bl c_)
abbrev LF(m:TM):TM:=λρ=>do let x<-m ρ;let c<-kh x;aC (.bl (!c))
abbrev Nz(t:aO->M Bool)(m n:TM):TM:=λρ=>do let k<-t ρ;if k=b_ then m ρ else n ρ
abbrev Cw:=aO->M (List D)
abbrev au:Cw:=λ_=>aC []
abbrev af(m:TM)(ms:Cw):Cw:=λρ=>do let x<-m ρ;let xs<-ms ρ;aC (x::xs)
abbrev b9(ms:Cw):TM:=λρ=>do let ds<-ms ρ;bj ds
abbrev bD(ms:Cw):TM:=λρ=>do let ds<-ms ρ;bB ds
abbrev aA(F:List D->M D)(ms:Cw):TM:=λρ=>do let ds<-ms ρ;F ds
abbrev cg(F:List D->M D)(m:TM):TM:=aA F (af m au)
abbrev a7(f:D->D->M D)(m n:TM):TM:=λρ=>do let x<-m ρ;let y<-n ρ;f x y
abbrev Jy(f g:D->D->M D)(m n l:TM):TM:=λρ=>do let x<-m ρ;let y<-n ρ;let z<-f x y;let k<-kh z;if k=b_ then do let w<-l ρ;g y w else aC (.bl c_)
abbrev NA:=aO->M (Option Int)
abbrev oN:NA:=λ_=>aC none
abbrev oS(m:TM):NA:=λρ=>do let x<-m ρ;let i<-N4 x;aC (ar i)
abbrev BH(m:TM)(lo hi:NA):TM:=λρ=>do let x<-m ρ;let i<-lo ρ;let j<-hi ρ;oR x i j
abbrev iV(m:TM)(T:String):TM:=λρ=>do let x<-m ρ;wY (λt=>ku t T) x
abbrev HH(m:TM)(T U:String):TM:=λρ=>do let x<-m ρ;wY (λt=>ku t T||ku t U) x
abbrev uw(f:D->List D->M D)(m n:TM):TM:=λρ=>do let x<-m ρ;Jg x;let ds<-(do let y<-n ρ;let ys<-aC [];aC (y::ys));f x ds
abbrev cq(mi:aO->M Iter)(g:nE)(t:aO->M Bool)(m:TM)(js:List (Option Nat)):TM:=λρ=>do let it<-mi ρ;let ys<-gG it g t m (ko js ρ);bB ys
abbrev j4:=aO->M Bool
abbrev bV(m:TM):j4:=λρ=>do let x<-m ρ;kh x
abbrev gr(f:D->D->M D)(m n:TM):j4:=λρ=>do let z<-(do let x<-m ρ;let y<-n ρ;f x y);kh z
abbrev oY(f g:D->D->M D)(m n l:TM):j4:=λρ=>do let v<-(do let x<-m ρ;let y<-n ρ;let z<-f x y;let k<-kh z;if k=b_ then do let w<-l ρ;g y w else aC (.bl c_));kh v
abbrev qF(f g h:D->D->M D)(m n l k:TM):j4:=λρ=>do
 let x<-m ρ;let y<-n ρ;let z<-f x y;let i<-kh z
 if i=b_ then do
  let w<-l ρ;let z2<-g y w;let j<-kh z2
  if j=b_ then do
   let v<-k ρ;let z3<-h w v
   kh z3
  else aC c_
 else aC c_
abbrev cM(t:j4):j4:=λρ=>do let c<-t ρ;aC (!c)
abbrev Gc(t u:j4):j4:=λρ=>do let c<-t ρ;if c=b_ then u ρ else aC c_
abbrev nZ(t u:j4):j4:=λρ=>do let c<-t ρ;if c=b_ then aC b_ else u ρ
abbrev mI:j4:=λ_=>aC b_
abbrev qi(m:TM):aO->M Iter:=λρ=>do let ds<-af m au ρ;mS ds
abbrev yu(m n:TM):aO->M Iter:=λρ=>do let ds<-af m (af n au) ρ;lZ ds
abbrev ez(m:TM):aO->M Iter:=λρ=>do let x<-m ρ;Ly x
abbrev gN(i:Nat):nE:=λd ρ=>aC (ρ.set i (ar d))
abbrev DJ(m n:TM):nE:=λd ρ=>do let x<-m ρ;let y<-n ρ;fQ x y d;aC ρ
abbrev d6:dq:=λρ=>aC (.nx ρ)
abbrev aM(m n:dq):dq:=λρ=>do let o<-m ρ;C4 o n
abbrev rS(me:TM):dq:=λρ=>do let _<-me ρ;aC (.nx ρ)
abbrev bQ(me:TM):dq:=λρ=>do let d<-me ρ;aC (.ret d)
abbrev j5(t:j4)(m n:dq):dq:=λρ=>do let c<-t ρ;if c=b_ then m ρ else n ρ
abbrev bR(i:Nat)(me:TM):dq:=λρ=>do let d<-me ρ;aC (.nx (ρ.set i (ar d)))
abbrev mC(me:TM)(g:nE):dq:=λρ=>do let d<-me ρ;let ρ'<-g d ρ;aC (.nx ρ')
abbrev tF(i j:Nat)(ms:Cw):dq:=λρ=>do let ds<-ms ρ;match ds with|[d1,d2]=>aC (.nx ((ρ.set i (ar d1)).set j (ar d2)))|_=>M.fail
abbrev jj(mi:aO->M Iter)(g:nE)(b:dq):dq:=λρ=>do let it<-mi ρ;fD it g b it.items ρ
abbrev Jz(k:Nat)(t:j4)(b:dq):dq:=λρ=>lq t b k ρ
structure DefIs(P:ey)(w:fg)(K:dV)(mg:Str->Option a_)(base:gg)(k:Nat)(x:Str)(ps:List Str)(F:List D->M D):Prop where
 ex:∃f fd,FnOk P w K mg base Os k f fd ps (Ou K F)/\mg x=ar (.ref f)/\y0 K (.ref f)=b_/\Binds K fd ps []
section
variable {X:Cx}{E:XD}{e:Expr}{es:List Expr}{pos:Pos}{ms:Cw}
def az{c j p}:d_ (.Constant c j p::es) env=(c_,hY (.Constant c j p) env)::d_ es env:=rfl
def aQ{l k p}:d_ (.Tuple l k p::es) env=(c_,hY (.Tuple l k p) env)::d_ es env:=rfl
def n0{l p}:d_ (.List l p::es) env=(c_,hY (.List l p) env)::d_ es env:=rfl
def ai{x p}:d_ (.Name x p::es) env=(c_,hY (.Name x p) env)::d_ es env:=rfl
def aY{f l k p}:d_ (.Call f l k p::es) env=(c_,hY (.Call f l k p) env)::d_ es env:=rfl
def cC{a o b p}:d_ (.BinOp a o b p::es) env=(c_,hY (.BinOp a o b p) env)::d_ es env:=rfl
def aW{a b p}:d_ (.Subscript a b p::es) env=(c_,hY (.Subscript a b p) env)::d_ es env:=rfl
def An{a b p}:d_ (.Dict a b p::es) env=(c_,hY (.Dict a b p) env)::d_ es env:=rfl
def zd{a b p}:d_ (.UnaryOp a b p::es) env=(c_,hY (.UnaryOp a b p) env)::d_ es env:=rfl
theorem DK{j p}:SE X E (.UnaryOp .USub (.Constant (.int i) j p) pos) (mK (.int (-i))):=by refine PE.imp (K6 IL Cy) λσ H Q h=>?_;obtain⟨ι,S,ρ,rep,re,c⟩:=h;exact⟨i,rfl,ao c .refl rep _ (.int _)⟩
def xk(W:Gl X x)(Z:∃t,X.mg x=ar (.int i t))(Y:(x==("__debug__":Str))=false:=by decide):SE X E (.Name x pos) (mK (.int i)):=
 let ⟨_,h⟩:=Z
 FT W h Y
def LG(fs:Scope)(N:List Str)(scope:Scope)(Nc:List Str)(js:List (Option Nat)):Bool:=
 (scope.kind== .function) && scope.names.all (λy=>y.2 != .cell||scope.names.lookup y.1==ar .cell) && scope.names.all (λy=>y.2 != .local||scope.names.lookup y.1==ar .local) &&
  scope.names.all (λy=>y.2 != .free||(fs.names.lookup y.1==ar .cell||fs.names.lookup y.1==ar .free)) && (js.length==Nc.length) &&
  (Nc.zip js).all (λp=>match p.2 with|none=>b_|some j=>N[j]? ==ar p.1 && scope.names.lookup p.1==ar .free)
theorem mD(fs:Scope)(N:List Str)(U:∀x,X.env.kindOf x=fs.names.lookup x)(P:X.N=N)(h:LG fs N scope Nc js=b_):CompScope X scope Nc js:=by
 unfold LG at h;simp only[hO,y7,beq_iff_eq,bne_iff_ne,vr]at h;obtain⟨⟨⟨⟨⟨W,Q⟩,T⟩,S⟩,O⟩,R⟩:=h;refine⟨W,λy Z e=>(Q y Z).resolve_left λz=>z e,λy Z e=>(T y Z).resolve_left λz=>z e,λy Z e=>?_,O,λi x j e1 e2=>?_⟩
 ·rw[U];exact(S y Z).resolve_left λz=>z e
 ·have Y:(Nc.zip js)[i]? =ar (x,ar j):=Q7.mpr ⟨e1,e2⟩;have:=R _ (Pa Y);simp only[hO,beq_iff_eq]at this;rw[P];exact this
def fi(Z:Room k A):A.units+64<cLine:=by have:=Z.un;omega
def N5(Z:Room k A):A.units+8<cLine:=by have:=Z.un;omega
def Gd(Z:Room k A):A.units<cLine:=by have:=Z.un;omega
end
section
variable {P:ey}{w:fg}{K:dV}{mg:Str->Option a_}{base:gg}
end
def runs{α:Type}(c:M α)(S:aE)(Q:α->aE->Prop):Prop:=∃a S',c S=ar (.ok a,S')/\Q a S'
section
variable {α β:Type}{c:M α}{f:α->M β}{S:aE}{Q Q':α->aE->Prop}{R:β->aE->Prop}
def vD(h:c S=ar (.ok a,S1)):runs c S Q↔Q a S1:=by
 constructor
 ·rintro⟨a',S',e,q⟩;rw[h]at e;cases e;exact q
 ·exact λq=>⟨a,S1,h,q⟩
def Ge(h:c S=none):runs c S Q↔False:=by
 constructor
 ·rintro⟨a',S',e,q⟩;rw[h]at e;cases e
 ·exact λq=>q.elim
def ux(h:runs c S Q)(k:∀a S',Q a S'->Q' a S'):runs c S Q':=let ⟨a,S',e,q⟩:=h;⟨a,S',e,k a S' q⟩
end
section
variable {S:aE}{Q:D->aE->Prop}
theorem BI:runs (bB ds) S Q↔ds.length<=lim/\Q (.lst S.length) (S++[ds]):=by
 by_cases h:ds.length<=lim
 ·rw[vD (by unfold bB;rw[if_pos h])];simp[h]
 ·rw[Ge (by unfold bB;rw[if_neg h])];simp[h]
def eU{f:oo->oo->Bool}(Z:hV S 60 a=ar p)(Y:hV S 60 b=ar q):runs (Kx f a b) S Q↔Q (.bl (f p q)) S:=by rw[vD (by unfold Kx;rw[Z,Y])]
def qG(Y:hV S 60 a=ar p)(X:hV S 60 b=ar q)(Z:Nw f p q=ar r):runs (Lu f a b) S Q↔Q (.bl r) S:=by rw[vD (by unfold Lu;rw[Y,X];simp only[Z];rfl)]
end
end S3
namespace S7
open PySem PySem.Spec PySem.W PyProof.Rows
section
variable {prog:ey}{w:fg}{A:j_}{E:a_->dr->Prop}{s:dr}{K:Vs}{x C:dt}{ox:Obj}{od:Option Obj}{name:Str}
theorem Ao:Slot "BaseException" "__getattribute__" "BaseException.__getattribute__":=
 .of (owner:="BaseException") (n:="__getattribute__") (by rw[SY,RK];kernel_rfl) (by decide+kernel) (by decide+kernel) (by decide+kernel)
  (by first|exact .inl (by decide+kernel)|exact .inr (by decide+kernel)) (by rw[RI];kernel_rfl)
theorem DL{M:U3}{Z:a_}{Q:Unit->dr->Prop}(X:K.In s.heap)(I:A' s.heap x ox C od)(P:UT K C (.type "BaseException")=ar b_)(h:Q () s):
  eb M A (R_ "BaseException.__getattribute__" ⟨[.ref x,Z],[]⟩) Q E s:=by
 have U:builtinKind "BaseException.__getattribute__"=ar .slot:=by decide+kernel
 have Y:splitId "BaseException.__getattribute__"=ar ("BaseException","__getattribute__"):=by decide+kernel
 have S:=I.type (M:=M);have L1:=looks_mroIn (M:=M) X P;have O:=F.args_bexc_ga (.ref x) Z;obtain⟨T,g,d,t,os⟩:=s;have R:Looks M T (TX (.ref x) (.type "BaseException")) true:=S.andThen L1;simp only[R_,U,Y];refine OB (R.at ?_)
 repeat (first|wp_step)
 exact h
theorem DM{Y Z:Bool}{O:Tok}{Q:a_->dr->Prop}(X:K.In s.heap)(I:A' s.heap x ox C od)(U:y_ K (.ref C) "__getattribute__"=ar (ar (.builtin "BaseException.__getattribute__")))
  (R:y_ K (.ref C) "__getattr__"=ar none) (L:UT K C (.type "BaseException")=ar b_)
  (h:eb (fc prog w) A.in1 (Builtin.«object.__getattribute__» ⟨[.ref x,.str name O],[]⟩)
   (λfin s'=>match fin with| .done (.ret v)=>eb (fc prog w) A (handedOut v) Q E s'|_=>False) (λ_ _=>False) s):
  eb (fc prog w) A (getAttrBy (.ref x) (.str name O) Y Z) Q E s:=by
 obtain⟨J,g,d,t,os⟩:=s;have N:=I.type (M:=fc prog w);have L1:=Ub (M:=fc prog w) X U;have L2:=Ub (M:=fc prog w) X R;have P:(Z && UU (A2 "BaseException.__getattribute__"))=false:=by cases Z<;>rfl
 have T:(A2 "BaseException.__getattribute__"==A2 "object.__getattribute__")=false:=by decide+kernel
 have S:(UU (er C) && A2 "BaseException.__getattribute__"==A2 "object.__getattribute__")=false:=by rw[T,Qk]
 unfold getAttrBy;refine Pl (OB (N.at (OB (L1.at ?_))));dsimp only;rw[S];simp only[fb,if_false];unfold getAttrByItsOwn hookBefore;rw[if_pos (show UU (er C)=b_ from rfl)];refine OB (L2.at ?_);unfold callGetattribute;rw[P];simp only[fb,if_false];refine OB (Rw (Pl ?_));unfold boundAndCalled;rw[Ao.bind];refine OB (OE ?_);refine Rf (Q4 Ao.plain F.entry_bexc_ga (DL X I L (O6 h (λfin s' z=>?_) λ_ _ z=>z.elim)));rcases fin with(_|_|_|_)|_<;>first|exact z|exact z.elim
theorem rT{g a:a_}{Y:Tok}{P:a_->dr->Prop}(X:K.In s.heap)(I:A' s.heap x ox C od)(U:UX K C od name=ar (.bind g a))
  (h:eb (fc prog w) A (call g [a,.ref x,.ref C]) P E s):
  eb (fc prog w) A (Builtin.«object.__getattribute__» ⟨[.ref x,.str name Y],[]⟩) (λfin s'=>match fin with| .done (.ret v)=>P v s'|_=>False) E s:=by
 obtain⟨T,S,d,t,os⟩:=s;have Z:=I.type (M:=fc prog w);have L1:=looks_find (M:=fc prog w) X I U;refine OB (OE (OB (OE (OB (Z.at (OB (L1.at ?_)))))));show eb _ _ (yn [a] (call g [a,.ref x,.ref C])>>=ret) _ _ _;exact OB (Pl (O6 h (λv s' z=>OE z) λ_ _ z=>z))
theorem tG{v:a_}{Y:Tok}{P:a_->dr->Prop}(X:K.In s.heap)(I:A' s.heap x ox C od)(U:UX K C od name=ar (.value v))(h:P v s):
  eb (fc prog w) A (Builtin.«object.__getattribute__» ⟨[.ref x,.str name Y],[]⟩) (λfin s'=>match fin with| .done (.ret v)=>P v s'|_=>False) E s:=by
 obtain⟨T,S,d,t,os⟩:=s;have Z:=I.type (M:=fc prog w);have L1:=looks_find (M:=fc prog w) X I U;refine OB (OE (OB (OE (OB (Z.at (OB (L1.at ?_)))))));exact OE h
structure ExcC(K:Vs)(C:dt):Prop where
 ga:y_ K (.ref C) "__getattribute__"=ar (ar (.builtin "BaseException.__getattribute__"))
 gt:y_ K (.ref C) "__getattr__"=ar none
 be:UT K C (.type "BaseException")=ar b_
 ob:UT K C (.type "object")=ar b_
 cl:y_ K (.ref C) "__class__"=ar (ar (.builtin "object.__class__"))
 gs:specialIn K (.builtin "object.__class__") "__get__"=ar (ar (.builtin "getset_descriptor.__get__"))
 tk:takesIn K (.builtin "object.__class__")=ar b_
 cd:(Vr K C).isSome=b_
 mf:y_ K (.ref C) "many"=ar none
 ms:y_ K (.ref C) "most"=ar none
def DN(K:Vs)(C:dt):Bool:=(y_ K (.ref C) "__getattribute__"==ar (ar (.builtin "BaseException.__getattribute__"))) && (y_ K (.ref C) "__getattr__"==ar none) && (UT K C (.type "BaseException")==ar b_) &&
 (UT K C (.type "object")==ar b_) && (y_ K (.ref C) "__class__"==ar (ar (.builtin "object.__class__"))) && (specialIn K (.builtin "object.__class__") "__get__"==ar (ar (.builtin "getset_descriptor.__get__"))) &&
 (takesIn K (.builtin "object.__class__")==ar b_) && (Vr K C).isSome && (y_ K (.ref C) "many"==ar none) && (y_ K (.ref C) "most"==ar none)
def ExcC.of(h:DN K C=b_):ExcC K C:=by unfold DN at h;simp only[hO,beq_iff_eq]at h;obtain⟨⟨⟨⟨⟨⟨⟨⟨⟨Y,T⟩,U⟩,Q⟩,S⟩,P⟩,X⟩,W⟩,R⟩,Z⟩:=h;exact⟨Y,T,U,Q,S,P,X,W,R,Z⟩
theorem BJ{Q:Option a_->dr->Prop}(c:ExcC K C)(X:K.In s.heap)(I:A' s.heap x ox C od)(h:Q (ar (.ref C)) {s with toks:=s.toks+1}):eb (fc prog w) A (getAttr? (.ref x) "__class__") Q E s:=by
 have hf:UX K C od "__class__"=ar (.bind (.builtin "getset_descriptor.__get__") (.builtin "object.__class__")):=by obtain⟨cd,Z⟩:=Px.mp c.cd;unfold UX;rw[Z,QJ,c.cl,QJ];simp[c.gs,c.tk]
 unfold getAttr? getAttrBy?;refine OB (wpAny_mkText (OB (Rw (DM (s:={s with toks:=s.toks+1}) X I c.ga c.gt c.be ?_))));refine rT (s:={s with toks:=s.toks+1}) X I hf ?_;exact Rf (class_get (s:={s with toks:=s.toks+1}) (ox:=ox) (od:=od) X I c.ob (handed_on rfl (OE h)))
theorem DO(c:ExcC K C):KitX K (.ref x) (.ref C) (λh=>∃ox od,A' h x ox C od) where
 ty:=λ_ _ _ ⟨_,_,I⟩=>I.type
 it:=λ_ _ X _=>by
  have Z:=c.cd;unfold Vr at Z;split at Z
  ·rename_i c' d' cd' sl' ho
   intro R U S s' k q;unfold isType loadHead;exact OB (wpAny_loadPart (k _ _ (X _ _ ho)) (OE q))
  ·cases Z
 ne:=λh tp dd its n T X Y=>by
  have Z:=c.cd;refine Sn.mpr λq=>?_;have e:C=tp:=Value.ref.inj (S9.mp q);subst e;unfold Vr at Z;split at Z
  ·rename_i c' d' cd' sl' ho
   have z:=(X _ _ ho).symm.trans Y;cases z
  ·cases Z
 ca:=λX ⟨_,_,I⟩ k=>BJ c X I k
end
end S7
namespace S7
open PySem PySem.Spec PyProof.Rows L2 S3
def DP(e T C:dt)(od:Option dt)(fl:a_)(h:gg):Prop:=
 ∃oe vs oT ts,h.get? e=ar oe/\oe.cls= .ref C/\oe.dict=od/\oe.data= .fields vs/\vs[1]? =ar (.ref T)/\T≠e/\h.get? T=ar oT/\oT.data= .fields ts/\ts[3]? =ar fl
structure Step(fs:List dt)(e T:dt)(h h':gg):Prop where
 keep:∀b o,h.get? b=ar o->b≠e->b≠T->b∉fs->h'.get? b=ar o
 slot:∀b o,h.get? b=ar o->b≠e->b≠T->∃sl,h'.get? b=ar {o with slots:=sl}
 size:h.objs.size<=h'.objs.size
section
variable {M:U3}{A:j_}{E:a_->dr->Prop}{s:dr}{base:gg}{env:Env}{outer:List Env}{L e T C:dt}{od:Option dt}{fl:a_}{Q:Unit->dr->Prop}
def rV(o:Obj)(f:Array a_->Array a_):(z_ f o).dict=o.dict:=by obtain⟨c,d,Z,Y⟩:=o;cases Z<;>rfl
theorem entry(J:A.frames=ar (env::outer))(F:s.heap.FunFrames base (env::outer))(w:env.frame=ar L)
  (G:s.heap.get? e=ar oe) (z:oe.cls= .ref C) (x:oe.dict=od) (K:oe.data= .fields vs) (O:1<vs.size)
  (h:∀h' T',DP e T' C od (mv L) h'->s.heap.objs.size<=T'->Step (kY (env::outer)) e e s.heap h'->Q () {s with heap:=h'}):
  eb M A (do let a<-frameOf env;let N<-entryPlaceOf L hadNext;let b<-EntryCells.newEntry head a .none (mv L) .none N;setField (.ref e) 1 b) Q E s:=by
 have U:e∉kY (env::outer):=λhm=>by obtain⟨_,o,q,I⟩:=F.mem hm;rw[G]at q;cases q;exact I vs K
 refine OB (wpAny_frameOf_fun J F w λY Z=>OB (wpAny_entryPlaceOf λN R=>?_));unfold EntryCells.newEntry newFields;refine OB (Pm (?_ :eb _ _ _ _ _ _) (R.sizeOk5 _ _ _ _ _));have X:Y.get? e=ar oe:=(Z.2.1 e U).trans G;have W:=OD (h:=Y) {cls:=.type "traceback",dict:=none,data:=.fields ([head,.ref L,.none,mv L,.none]++(if N.isEmpty then f' 6 h_ else N)).toArray} X;have S:Y.objs.size≠e:=Qh (OJ X);have P:=Qc K (·.setIfInBounds 1 (er Y.objs.size));refine QK W K O (h _ Y.objs.size ⟨_,_,_,_,PB _ W (QW P),?_,?_,P,by simp[O],S,(Pj _ _ (kC S)).trans (OK Y rfl),rfl,?_⟩ (Ri Z.1.symm) ⟨λb o q H _ B=>?_,λb o q H _=>?_,?_⟩)
 ·rw[Sq];exact z
 ·rw[rV];exact x
 ·first|(simp;done)|(rcases R with rfl|⟨_,_,_,_,_,_,_,rfl⟩<;>simp)
 ·rw[Pj _ _ (kC H)];exact OD _ ((Z.2.1 b B).trans q)
 ·obtain⟨y,v⟩:=Z.2.2 b o q;exact⟨y,by rw[Pj _ _ (kC H)];exact OD _ v⟩
 ·rw[QL,PP,Z.1];exact Rc _
theorem zh(Z:A.frames=ar (env::outer))(R:s.heap.FunFrames base (env::outer))(W:env.frame=ar L)
  (U:s.heap.get? e=ar oe) (P:oe.cls= .ref C) (S:oe.dict=od) (X:oe.data= .fields vs) (Y:vs[1]? =ar .none)
  (h:∀h' T',DP e T' C od (mv L) h'->s.heap.objs.size<=T'->Step (kY (env::outer)) e e s.heap h'->Q () {s with heap:=h'}):eb M A (Fn (.ref e) env) Q E s:=by
 unfold Fn;simp only[W];refine OB (PN U X Y ?_);rw[if_neg (by decide)];exact entry Z R W U P S X (O3.mp Y).1 h
theorem uy(W:A.frames=ar (env::outer))(B:s.heap.FunFrames base (env::outer))(H:env.frame=ar L)(F:DP e T C od .none s.heap)
  (h:∀h' X,DP e X C od (mv L) h'->s.heap.objs.size<=X->Step (kY (env::outer)) e T s.heap h'->Q () {s with heap:=h'}):eb M A (Fn (.ref e) env) Q E s:=by
 obtain⟨t,vs,u,I,he,x,w,hd,K,S,P,Z,J⟩:=F;have O:3<I.size:=(O3.mp J).1;unfold Fn;simp only[H];refine OB (PN he hd K ?_);rw[if_pos (show(er T !=h_)=b_ from by simp)];refine OB (PN P Z J ?_);rw[if_neg (show ¬ ((h_==mv L)=b_)from by simp[mv])];refine OB (QK P Z O ?_);have other:∀b,b≠T->(s.heap.update T (z_ (·.setIfInBounds 3 h_))).get? b=s.heap.get? b:=λb v=>Pj _ _ (kC v);have U:(s.heap.update T (z_ (·.setIfInBounds 3 h_))).FunFrames base (env::outer):=B.of_keeps λb o q R=>⟨o,(other b λz=>by rw[z,P]at q;cases q;exact R I Z).trans q,rfl⟩;refine entry (s:={s with heap:=s.heap.update T (z_ (·.setIfInBounds 3 h_))}) W U H ((other e (kC S)).trans he) x w hd (O3.mp K).1 λh' X y l st=>h h' X y ?_ ⟨λb o q Y N G=>st.keep b o ((other b N).trans q) Y Y G,λb o q Y N=>st.slot b o ((other b N).trans q) Y Y,?_⟩
 ·have:=l;rwa [QL]at this
 ·have:=st.size;rwa [QL]at this
theorem jr(F:DP e T C od fl s.heap)(h:∀h',DP e T C od .none h'->Step [] e T s.heap h'->Q () {s with heap:=h'}):eb M A (setFlight (.ref e) none) Q E s:=by
 obtain⟨K,vs,I,N,he,P,O,hd,U,X,S,Z,R⟩:=F;have Y:3<N.size:=(O3.mp R).1;refine wpAny_setFlight_none he hd U S Z Y (h _ ⟨K,vs,_,_,(Pj _ _ X).trans he,P,O,hd,U,X,PB _ S (QW (Qc Z _)),Qc Z _,by simp[Y]⟩
  ⟨λb o q J W _=>(Pj _ _ (kC W)).trans q,λb o q J W=>⟨o.slots,(Pj _ _ (kC W)).trans q⟩,?_⟩)
 rw[QL];exact OF _
theorem xm(W:A.frames=ar (env::outer))(z:s.heap.FunFrames base (env::outer))(G:env.frame=ar L)
  (P:s.heap.get? e=ar oe) (K:oe.cls= .ref C) (H:oe.dict=od) (R:oe.data= .fields vs) (S:vs[1]? =ar .none)
  (h:∀h' X,DP e X C od .none h'->s.heap.objs.size<=X->Step (kY (env::outer)) e e s.heap h'->Q () {s with heap:=h'}):eb M A (TF env (.ref e)) Q E s:=by
 unfold TF;refine OB (zh W z G P K H R S λh' X F l st=>jr (s:={s with heap:=h'}) F λU N Z=>h U X N l ⟨λb o q Y I O=>?_,λb o q Y I=>?_,OR st.size Z.size⟩)
 ·exact Z.keep b o (st.keep b o q Y Y O) Y (OQ (OU (OJ q) l)) (by simp)
 ·obtain⟨J,B⟩:=st.slot b o q Y Y;exact⟨J,Z.keep b _ B Y (OQ (OU (OJ q) l)) (by simp)⟩
theorem zj(W:A.frames=ar (env::outer))(J:s.heap.FunFrames base (env::outer))(N:env.frame=ar L)(F:DP e T C od .none s.heap)
  (h:∀h' X,DP e X C od .none h'->s.heap.objs.size<=X->Step (kY (env::outer)) e T s.heap h'->Q () {s with heap:=h'}):eb M A (TF env (.ref e)) Q E s:=by
 unfold TF;refine OB (uy W J N F λh' X F l st=>jr (s:={s with heap:=h'}) F λS P Z=>h S X P l ⟨λb o q Y U R=>?_,λb o q Y U=>?_,OR st.size Z.size⟩)
 ·exact Z.keep b o (st.keep b o q Y U R) Y (OQ (OU (OJ q) l)) (by simp)
 ·obtain⟨O,K⟩:=st.slot b o q Y U;exact⟨O,Z.keep b _ K Y (OQ (OU (OJ q) l)) (by simp)⟩
end
def mE(P:ey)(w:fg):Cu:=λouter H s E x s'=>
 ∃(e T C:dt) (od:Option dt) (H':Hp),x= .ref e/\s'.os=s.os/\z4 s'.gens/\Un (kY outer) [] H H' s.heap s'.heap/\gD P w H' s'.heap/\DP e T C od .none s'.heap/\
  H' e=none/\H' T=none/\s.heap.get? e=none/\s.heap.get? T=none/\E (.ref C) od H'
def BK{X:Cx}:qT (mE X.prog X.w) X E0:=λ_ _ _ _ _ _ _ ⟨_,_,_,_,_,_,_,_,_,_,_,_,_,_,_,h⟩=>h.elim
def iD{h:gg}(q:h.get? b=ar o)(n:h.get? e=none):b≠e:=λz=>by rw[z,n]at q;cases q
theorem Un.fly(u:Un fs [] H H' h h1)(X:Step fs e T h1 h2)(U:h.get? e=none)(W:h.get? T=none):Un fs [] H H' h h2 where
 keep:=λb o q n hf Y=>X.keep b o (u.keep b o q n hf Y) (iD q U) (iD q W) hf
 slot:=λb o q n hf Y=>by obtain⟨Q,S⟩:=u.slot b o q n hf Y;obtain⟨Z,R⟩:=X.slot b _ S (iD q U) (iD q W);exact⟨Z,R⟩
 free:=u.free
 there:=λb o q Y=>by obtain⟨P,S⟩:=u.there b o q Y;obtain⟨Z,R⟩:=X.slot b _ S (iD q U) (iD q W);exact⟨_,R⟩
 tups:=u.tups
 frzs:=u.frzs
 tbls:=u.tbls
theorem gD.fly{H:Hp}(S:gD P w H h1)(Y:Step fs e T h1 h2)(U:H e=none)(X:H T=none)(W:∀b∈fs,H b=none):gD P w H h2:=λa o q=>by
 have k:∀b u,H b≠none->h1.get? b=ar u->h2.get? b=ar u:=λb u n q=>Y.keep b u q (λz=>n (by rw[z];exact U)) (λz=>n (by rw[z];exact X)) λz=>n (W b z);refine(S a o q).stay (λb u Z=>k b u ?_) (λ_ z=>z) λ_ _ z=>z;rcases Z with rfl|Z
 ·rw[q];simp
 ·rw[Z];simp
section
def xn(l:List Env)(x:dt)(env:Env)(h:env.frame=ar x):kY (env::l)=x::kY l:=by unfold kY;rw[Pr,h]
theorem bC.there(x:bC P w H h a o):∃Z,h.get? a=ar Z:=by
 cases o with
 |lst xs=>obtain⟨_,_,_,_,e⟩:=x;exact⟨_,e⟩
 |tup xs=>obtain⟨_,_,_,Z,e,_⟩:=x;exact⟨_,e⟩
 |dK kvs=>obtain⟨_,_,_,_,o,_,_,e,_⟩:=x;exact⟨_,e⟩
 |dT kvs=>obtain⟨_,_,_,_,o,_,_,e,_⟩:=x;exact⟨_,e⟩
 |set S n=>obtain⟨o,_,_,_,e,_⟩:=x;exact⟨_,e⟩
 |ins C dx fs=>obtain⟨_,_,_,e,_⟩:=x;exact⟨_,e⟩
 |own y=>exact x
 |xd fs=>obtain⟨_,⟨_,_,_,e,_⟩,_⟩:=x;exact⟨_,e⟩
 |rng lo hi=>obtain⟨_,_,_,e⟩:=x;exact⟨_,e⟩
 |frz Z u=>obtain⟨e,_⟩:=x;exact⟨_,e⟩
 |tbl ps=>exact⟨_,(show h.get? a=ar _ from x)⟩
 |met f y=>exact⟨_,(show h.get? a=ar _ from x)⟩
 |ext φ=>exact x.2.1
theorem gD.gone{H:Hp}(x:gD P w H h)(e:h.get? a=none):H a=none:=by
 cases q:H a with
 |none=>rfl
 |some o=>
  obtain⟨Z,e2⟩:=bC.there (x a o q);rw[e]at e2;cases e2
theorem Un.gone(u:Un fs ex H H' h h')(Z:a∉ex)(e:h'.get? a=none):h.get? a=none:=by
 cases q:h.get? a with
 |none=>rfl
 |some o=>
  obtain⟨Y,e2⟩:=u.there a o q Z;rw[e]at e2;cases e2
end
abbrev Cx.hand(X:Cx)(e:a_):Cx:={X with A:=X.A.mark (ar e),calm:=c_,xe:=λ_ _=>False}
section
variable {X:Cx}{pins:List (dt×Obj)}{σ:L2.St}{H H':Hp}{s:dr}{x:a_}
theorem Inv.hand(I:Inv X pins σ H s)(e:a_):Inv (Cx.hand X e) pins σ H s:=
 ⟨⟨I.ok.mod,I.ok.kind,I.ok.glob,I.ok.blt,I.ok.above,I.ok.inj,I.ok.has,I.ok.cab,(λz=>Bool.noConfusion z),I.ok.frames,I.ok.stk,I.ok.exf,I.ok.bs,I.ok.bsz,I.ok.noex,I.ok.exfs,I.ok.funs,I.ok.frf⟩,
  I.os,I.bare,I.base,I.loc,I.cell,I.free,I.freeC,I.pin,I.hok,I.len⟩
def Inv.unhand(Z:X.Ok)(I:Inv (Cx.hand X x) pins σ H s):Inv X pins σ H s:=⟨Z,I.os,I.bare,I.base,I.loc,I.cell,I.free,I.freeC,I.pin,I.hok,I.len⟩
theorem Inv.local{Z:L2.St}(I:Inv X pins σ H s)(hs:ri X.env.locals s.heap h')(S:h'.Ns X.env.locals m')(W:Z.length=X.N.length)
  (O:∀(i:Nat) (y:Str) (v:V),X.N[i]? =ar y->Z[i]? =ar (ar v)->Ct X.env.scope y->∃u,RelV v u/\Look X.env h' m' y u):Inv X pins Z H {s with heap:=h',toks:=t'}:=by
 have ne:∀b o,X.s₀.heap.get? b=ar o->b≠X.env.locals:=λb o e=>OQ (OU (OJ e) I.ok.above);refine⟨I.ok,I.os,I.bare,⟨λb o e n T U=>(hs.2 b (ne b o e)).trans (I.base.keep b o e n T U),λb o e n T U=>?_,I.base.free,λb o e U=>?_,I.base.tups,I.base.frzs,I.base.tbls⟩,⟨m',S,O⟩,λy c e=>?_,I.free,I.freeC,λp P=>?_,λa o e=>?_,W⟩
 ·obtain⟨Q,e1⟩:=I.base.slot b o e n T U;exact⟨Q,(hs.2 b (ne b o e)).trans e1⟩
 ·obtain⟨R,e1⟩:=I.base.there b o e U;exact⟨R,(hs.2 b (ne b o e)).trans e1⟩
 ·obtain⟨v,z⟩:=I.cell y c e;exact⟨v,z.sameBut hs (I.cne y c e)⟩
 ·obtain⟨e,n,nl,r⟩:=I.pin p P;exact⟨(hs.2 p.1 nl).trans e,n,nl,r⟩
 ·refine(I.hok a o e).stay (λc L Y q=>(hs.2 c ?_).trans q) (λ_ q=>q) λ_ _ q=>q;rintro rfl;rcases Y with Y|Y
  ·subst Y;rw[I.free]at e;cases e
  ·rw[I.free]at Y;cases Y
theorem Gf{M:U3}{A:j_}{E:a_->dr->Prop}{i:Nat}{y:Str}{pos:Pos}{Q:Unit->dr->Prop}(I:Inv X pins σ H s)(S:X.N.Nodup)(R:X.N[i]? =ar y)(T:X.env.scope.names.lookup y=ar .local)
  (h:∀s',Inv X pins (σ.set i none) H s'->Q () s'):eb M A (do TZ X.env y .none;unbindBehindTheSuite X.env y pos) Q E s:=by
 obtain⟨m,U,P⟩:=id I.loc;refine wpAny_nameGoes_keeps T U (by rw[I.ok.kind];rfl) λh' v Z hs=>h _ (Inv.local I hs Z (by rw[PV];exact I.len) λj z W e1 e2 e3=>?_);have Y:j≠i:=by
  rintro rfl;by_cases hlt:j<σ.length
  ·rw[Pb hlt]at e2;cases e2
  ·rw[Pq (by rw[PV];omega)]at e2;cases e2
 rw[Pu (kC Y)]at e2;obtain⟨u,r,q⟩:=P j z W e1 e2 e3;refine⟨u,r,?_⟩;rcases q with⟨k,e⟩|⟨k,c,e,q⟩
 ·refine .inl ⟨k,?_⟩;have:z≠y:=λe=>Y (qR S e1 (e ▸ R));simp[this,e]
 ·exact .inr ⟨k,c,e,q.sameBut hs (I.cne z c e)⟩
end
theorem Un.track{Y:Hp}(u:Un fs [] H Y h h')(Z:Y e=none)(U:h.get? e=none):Un fs [] H (upd Y e o) h h' where
 keep:=u.keep
 slot:=u.slot
 free:=λb X q n T=>by rw[aI (iD q U)];exact u.free b X q n T
 there:=u.there
 tups:=λb xs q=>by have:=u.tups b xs q;rw[aI (aU this Z)];exact this
 frzs:=λb X x q=>by have:=u.frzs b X x q;rw[aI (aU this Z)];exact this
 tbls:=λb W q=>by obtain⟨more,this⟩:=u.tbls b W q;exact⟨more,by rw[aI (aU this Z)];exact this⟩
theorem gD.track{H:Hp}(X:gD P w H h)(Y:H e=none)(Z:bC P w (upd H e o) h e o):gD P w (upd H e o) h:=λb u q=>by
 by_cases hb:b=e
 ·subst hb;rw[aX]at q;cases q;exact Z
 ·rw[aI hb]at q;exact(X b u q).stay (λc v _ q=>q) (λc q=>by rw[aI (aU q Y)];exact q) λc xs q=>by rw[aI (aU q Y)];exact q
def Gg(F:DP e T C od fl h):bC P w H h e (.ext (qf C e od)):=by obtain⟨Z,vs,U,W,he,X,Y,hd,_⟩:=F;refine⟨⟨Z,vs,he,X,Y,hd⟩,⟨Z,he⟩,?_⟩;rintro h1 h2 ⟨Z,vs,he,r⟩ k;exact⟨Z,vs,k _ he,r⟩
structure LamOk(P:ey)(w:fg)(K:dV)(mg:Str->Option a_)(base:gg)(k:Nat)(f:dt)(sp:Hp->VK->XK->Prop):Prop where
 fn:∃o fd,base.get? f=ar o/\o.data= .func fd
 run:∀(A:j_) (outer:List Env) (s:dr) (H:Hp) (Q:VK) (E:XK),Room k A->aO P w K mg base A outer s H->sp H Q E->rn (fc P w) A (.call (.ref f) ⟨[],[]⟩) (CR (mE P w) outer P w H s Q E) s
section
variable {X:Cx}{k i jn jy:Nat}{f CW:dt}{sp:Hp->VK->XK->Prop}{x c n y:Str}{p cpos epos np p1 p2 p3 hpos tpos:Pos}
theorem BN(E:X.stack=X.env::X.outer)(c5:X.env.frame=ar X.env.locals)(L:LamOk X.prog X.w X.K X.mg X.base k f sp)(hr:Room k X.A)(hN:X.N.Nodup)(hi:X.N[i]? =ar x)(hv:Ct X.env.scope x)
  (S:X.N[jn]? =ar n) (c3:X.N[jy]? =ar y) (R:X.env.scope.names.lookup n=ar .local) (l:X.env.scope.names.lookup y=ar .local) (hg:Gl X c) (hm:X.mg c=ar (.ref CW))
  (hd:(x==("__debug__":Str))=false:=by decide) (c7:(x==("__classdict__":Str))=false:=by decide) (c6:(c==("__debug__":Str))=false:=by decide) (b4:(n==("__debug__":Str))=false:=by decide) (j:(n==("__classdict__":Str))=false:=by decide)
  (c0:lb (.Call (.Name x p) [] [] cpos) none epos.line X.env=aC false:=by rfl) (g:lb (.Name n p2) (ar (.Name y p1)) p3.line X.env=aC false:=by rfl):
  PS X (.Try [.Expr (.Call (.Name x p) [] [] cpos) epos] [.ExceptHandler (ar (.Name c np)) (ar n) [.Assign [.Name y p1] (.Name n p2) p3] hpos] [] [] tpos)
   (λD σ H=>σ[i]? =ar (ar (.ref f))/\sp H (λ_ Y=>D.nx σ Y) (λcls od Y=>∃C,cls= .ref C/\U_ X.K (.ref C) (.ref CW)=ar b_/\∀e,Y e=none->D.nx (((σ.set jn (ar (.ref e))).set jy (ar (.ref e))).set jn none) (upd Y e (.ext (qf C e od))))):=by
 intro pins s σ H D I ⟨hσ,hsp⟩;refine wpAny_Try_except (SJ (wpAny_Expr_any ?_ I.quiet c0));refine QN (O6 (uS (X:=X.nox) hi hv hd c7 pins s σ H (λv Y=>v= .ref f/\Y=H) (I.wish _) ⟨_,hσ,rfl,rfl⟩) (λu s1 b6=>?_) λ_ _ z=>ip z);obtain⟨v,Y,O,r1,ev,eH⟩:=b6;subst ev eH;obtain rfl:u=er f:=r1;have O:=O.unwish;obtain⟨o,fd,ho,b2⟩:=L.fn;refine callWith_meth0 b2 (O.bk f o ho) (Rf (Qi (L.run X.A X.stack s1 Y _ _ hr O.env0 hsp) λr s' U=>?_));cases r with
 | ok fl=>
  cases fl with
  |ret u=>
   obtain⟨v,H2,m,_,q⟩:=O.after U;exact QR (QR ⟨σ,H2,m,q⟩)
  |next=>exact ip U
  |brk=>exact ip U
  |cont=>exact ip U
 | error ev=>
  obtain⟨e,T,C',od,Z,rfl,os,bare,un,G,F,ne,nT,le,lT,C,eC,hx,hD⟩:=U;cases eC;have m:L2.Inv X pins σ Z s':=O.call' (ch:=[]) os un G bare (λb z=>absurd z (by simp));have c2:∀b∈kY X.stack,Z b=none:=m.stkFree;refine uy (base:=X.base) (outer:=X.outer) (by rw[m.ok.frames,E]) (by rw[<-E];exact m.stack) c5 F λh1 T1 F1 l1 B=>?_;rw[<-E]at B;have b1:Z T1=none:=G.fresh l1;refine jr (s:={s' with heap:=h1}) F1 λJ F2 d=>?_;have a3:s1.heap.get? T1=none:=Un.gone un (by simp) (PK l1);have a4:gD X.prog X.w Z h1:=gD.fly G B ne nT c2;have P:gD X.prog X.w Z J:=gD.fly a4 d ne b1 (λb z=>absurd z (by simp));have d0:Un (kY X.stack) [] Y Z s1.heap h1:=Un.fly un B le lT;have Q:∀{h a:gg} {e T:dt},Step [] e T h a->Step (kY X.stack) e T h a:=λst=>⟨λb o q n1 n2 _=>st.keep b o q n1 n2 (by simp),st.slot,st.size⟩;have t:Un (kY X.stack) [] Y Z s1.heap J:=Un.fly d0 (Q d) le a3;have I3:L2.Inv X pins σ Z {s' with heap:=J}:=O.call' (s':={s' with heap:=J}) (ch:=[]) os t P bare (λb z=>absurd z (by simp));refine wpAny_handleBy_cons (codeAny_handlers_test (lW (X:=Cx.hand X (.ref e)) (Inv.hand I3 _) hg hm ?_ c6)) (by intro q;cases q);have LT:W.Looks (fc X.prog X.w) J (typeOf (.ref e)) (.ref C'):=by obtain⟨oe,vs,oT,ts,he,hc,_⟩:=F2;exact hc ▸ (W.Looks.ld he).andThen .now
  refine(W.exm_one (h:=J) I3.kIn LT hx).at ?_;refine codeAny_handlers_suite_as (jr (s:={s' with heap:=J}) F2 λh3 F3 a0=>?_);have a6:gD X.prog X.w Z h3:=gD.fly P a0 ne b1 (λb z=>absurd z (by simp));have c8:Un (kY X.stack) [] Y Z s1.heap h3:=Un.fly t (Q a0) le a3;have I4:L2.Inv X pins σ (upd Z e (.ext (qf C' e od))) {s' with heap:=h3}:=
   O.call' (s':={s' with heap:=h3}) (ch:=[]) os (Un.track c8 ne le) (gD.track a6 ne (Gg F3)) bare (λb z=>absurd z (by simp))
  refine kZ (X:=X) I4 hN S (.inl R) (v:=.ref e) rfl (λs5 I5=>?_) (.inr R);have hl:jn<σ.length:=by rw[I.len];exact(OI.mp S).1
  have ps:=uT (CC (X:=Cx.hand X (.ref e)) (pos:=p3) (pos':=p1) hN c3 (.inl l) (uS (X:=Cx.hand X (.ref e)) (pos:=p2) S (.inl R) b4 j) g (.inr l));refine O6 (ps pins s5 _ _ {nx:=λa5 H6=>a5=(σ.set jn (ar (.ref e))).set jy (ar (.ref e))/\H6=upd Z e (.ext (qf C' e od)),rt:=λ_ _=>False} (Inv.hand I5 _) ⟨.ref e,by rw[Pb hl],rfl,rfl⟩) (λfl s6 U=>?_) λ_ _ z=>ip z;cases fl with
  |next=>
   obtain⟨a5,H6,I6,e1,e2⟩:=U;subst e1 e2;exact Gf (Inv.unhand I.ok I6) hN S R λs7 I7=>⟨_,_,I7,hD e ne⟩
  |ret u=>obtain⟨_,_,_,_,_,z⟩:=U;exact ip z
  |brk=>obtain⟨_,_,_,z⟩:=U;exact ip z
  |cont=>obtain⟨_,_,_,z⟩:=U;exact ip z
end
structure BaseL(K:dV)(mg:Str->Option a_)(base:gg):Prop where
 bm:∃bm ob,mg "__builtins__"=ar (.ref bm)/\bm≠wh/\base.get? bm=ar ob/\ob.cls= .type "module"/\ob.dict=ar wh/\ob.data= .plain
 cd:∀x∈cO,∀c P,mu K x=ar (c,P)->Tu base c P
def vE(K:dV):Prop:=∀x∈cO,∀y∈cO,∀c d P,mu K x=ar (c,P)->mu K y=ar (d,P)->x=y
theorem zm(l:List a_)(h:UR l)(e:Q_ pos (l++[mv a,mv b,c])=ar v):Q_ pos l=ar v\/v=c:=by
 fun_induction UR l with
 |case1=>
  have Z:(if a==(pos.line:Int) && b==(pos.col:Int)then ar c else none)=ar v:=e;split at Z
  ·exact .inr (O5 Z).symm
  ·cases Z
 |case2 a' t b' u x rest ih=>
  simp only[y',Q_]at e⊢;split at e
  ·next hq=>rw[if_pos hq];exact .inl e
  ·next hq=>rw[if_neg hq];exact ih h e
 |case3 l h1 h2=>exact h.elim
section
variable {X:Cx}{pins:List (dt×Obj)}{σ:L2.St}{H:Hp}{s:dr}{x ql:Str}{c P:dt}{params:TH}{body:Expr}{scope:Scope}{pos:Pos}{clos:List (Str×dt)}{Q:a_->dr->Prop}{E:a_->dr->Prop}{A:j_}
theorem JA(hx:x∈cO)(ht:mu X.K x=ar (c,P))(L:X.env.code= .ref c)(hq:X.env.qual++"<lambda>"=ql)(g:ql=x++".<locals>.<lambda>")(B:BaseL X.K X.mg X.base)(TI:vE X.K)(a5:UC scope X.env=aC clos)
  (a0:defaultsOf params X.env=([],[])) (I:L2.Inv X pins σ H s) (T:TabsOk X.K H)
  (h:∀f Z Y pm H1 s1,L2.Inv X pins σ H1 s1->s.heap.objs.size<=f->s1.heap.get? f=ar (zl "<lambda>" ql params body scope clos pm Z Y)->H1 f=none->H1 Z=ar (.ext (sZ ql Z))->
   (∀a o,H a=ar o->(∀G,o≠ .tbl G)->H1 a=ar o)->(∀a,H a=none->H1 a≠none->s.heap.objs.size<=a)->TabsOk X.K H1->Q (.ref f) s1):
  eb (fc X.prog X.w) A (hY (.Lambda params body scope pos) X.env) Q E s:=by
 refine W.kla_eval a0 ?_;rw[hq];obtain⟨G,O,hT,hA⟩:=T x hx c P ht;have C:Tu s.heap c P:=(B.cd x hx c P ht).keeps I.bk;have oP:s.heap.get? P=ar (y2 G):=I.hok P _ O;have hg:s.heap.Ns g_ X.mg:=I.mod.glob.keeps I.bk;have U:∀b,H b=none->b≠P:=λb n z=>by rw[z,O]at n;cases n
 have gP:g_≠P:=by obtain⟨o,es,ep,e,_⟩:=I.mod.glob;exact U _ (I.bs _ _ e).2
 have hb:s.heap.BuiltinsAt X.mg P:=by obtain⟨bm,ob,b1,b2,b3,b4,b5,b6⟩:=B.bm;refine⟨bm,ob,b1,b2,λz=>?_,U _ (I.bs _ _ b3).2,I.bk _ _ b3,b4,b5,b6⟩;obtain⟨o,es,ep,e,hd,_⟩:=I.mod.glob;rw[z,e]at b3;cases b3;rw[hd]at b6;cases b6
 cases hn:Q_ pos G.toList with
 |some cv=>
  obtain⟨Z,rfl,a3⟩:=hA pos cv hn;rw[<-g]at a3;refine W.kla_makeFunctionHit a5 I.ok.glob hg L C oP hT hn hb λY h' tk hk j=>?_;have S:∀b o,s.heap.get? b=ar o->(h'.push {cls:=.type "function",data:=.func (U' "<lambda>" ql params body scope clos ((X.mg "__name__").getD .none) (.ref Z) Y)}).get? b=ar o:=λb o e=>OD _ (hk b o e);exact h _ Z Y _ H _ (I.kept (t':=tk) S) j (OK _ rfl) (I.hok.fresh j) a3 (λa o e _=>e) (λa n z=>absurd n z) T
 | none=>
  refine W.kla_makeFunction a5 I.ok.glob hg L C oP hT hn gP hb λZ Y h' tk hX J v i c3=>?_;have nc:H Z=none:=I.hok.fresh J;have cP:P≠Z:=λz=>by rw[<-z,O]at nc;cases nc
  have S:∀b o,b≠P->s.heap.get? b=ar o->(h'.push (zl "<lambda>" ql params body scope clos ((X.mg "__name__").getD .none) Z Y)).get? b=ar o:=λb o n e=>OD _ (hX b o n e);have m:(h'.push (zl "<lambda>" ql params body scope clos ((X.mg "__name__").getD .none) Z Y)).get? P=ar (y2 (G++ #[mv pos.line,mv pos.col,.ref Z])):=OD _ c3;have old:∀a o,H a=ar o->a≠P->upd (upd H P (.tbl (G++ #[mv pos.line,mv pos.col,.ref Z]))) Z (.ext (sZ ql Z)) a=ar o:=λa o e n=>by rw[aI (aU e nc),aI n];exact e
  have l:∀b o,s.heap.get? b=ar o->b≠Z:=λb o e=>OQ (OU (OJ e) J);have un:Un X.fs [] H (upd (upd H P (.tbl (G++ #[mv pos.line,mv pos.col,.ref Z]))) Z (.ext (sZ ql Z))) s.heap (h'.push (zl "<lambda>" ql params body scope clos ((X.mg "__name__").getD .none) Z Y)):=
   ⟨λb o e n _ _=>S b o (U b n) e,λb o e n _ _=>⟨o.slots,S b o (U b n) e⟩,λb o e n _=>by rw[aI (l b o e),aI (U b n)];exact n,λb o e _=>(by
    by_cases z:b=P
    ·subst z;exact⟨_,m⟩
    ·exact⟨o,S b o z e⟩),λb xs e=>old b _ e (λz=>by rw[z,O]at e;cases e),λb o u e=>old b _ e (λz=>by rw[z,O]at e;cases e),λb qs e=>(by
    by_cases z:b=P
    ·subst z;rw[O]at e;cases e;exact⟨_,by rw[aI cP,aX]⟩
    ·exact⟨#[],by rw[old b _ e z];simp⟩)⟩
  have N:sZ ql Z (h'.push (zl "<lambda>" ql params body scope clos ((X.mg "__name__").getD .none) Z Y)):=by obtain⟨F,oc,vs,t,e1,e2,r⟩:=i;exact⟨F,oc,vs,t,e1,OD _ e2,r⟩
  have c7:gD X.prog X.w (upd (upd H P (.tbl (G++ #[mv pos.line,mv pos.col,.ref Z]))) Z (.ext (sZ ql Z))) (h'.push (zl "<lambda>" ql params body scope clos ((X.mg "__name__").getD .none) Z Y)):=by
   intro a o e;by_cases za:a=Z
   ·subst za;rw[aX]at e;cases e;refine⟨N,?_,?_⟩
    ·obtain⟨F,oc,vs,t,e1,e2,_⟩:=N;cases e1;exact⟨oc,e2⟩
    ·rintro h1 h2 ⟨F,oc,vs,t,e1,e2,r⟩ k;cases e1;exact⟨a,oc,vs,t,rfl,k _ e2,r⟩
   ·rw[aI za]at e;by_cases zP:a=P
    ·subst zP;rw[aX]at e;cases e;exact m
    ·rw[aI zP]at e;refine(I.hok a o e).stay (λb u R q=>S b u ?_ q) (λb q=>old b _ q (λz=>by rw[z,O]at q;cases q)) λb xs q=>old b _ q (λz=>by rw[z,O]at q;cases q);rintro rfl;rcases R with R|R
     ·exact zP R.symm
     ·rw[O]at R;cases R
  refine h _ Z Y _ _ _ (I.un (t':=tk) un c7) (OR J (Qp v)) (OK _ rfl) ?_ aX (λa o e n=>old a o e (λz=>by rw[z,O]at e;cases e;exact n _ rfl)) (λa n z=>?_) λy hy d P' e=>?_
  ·have:H h'.objs.size=none:=I.hok.fresh (OR J (Qp v));rw[aI (kC (OQ v)),aI (U _ this)];exact this
  ·by_cases za:a=Z
   ·rw[za];exact J
   ·rw[aI za,aI (U a n)]at z;exact absurd n z
  ·by_cases zP:P'=P
   ·subst zP;obtain rfl:y=x:=TI y hy x hx d c P' e ht;refine⟨_,by rw[aI cP,aX],?_,λp cv q=>?_⟩
    ·have:=TriplesOk_snoc pos.line pos.col (.ref Z) G.toList hT;simpa using this
    ·have q':Q_ p (G.toList++[mv pos.line,mv pos.col,.ref Z])=ar cv:=by simpa using q
     rcases zm _ hT q' with q2|q2
     ·obtain⟨F,e1,e2⟩:=hA p cv q2;exact⟨F,e1,old _ _ e2 (λz=>by rw[z,O]at e2;cases e2)⟩
     ·exact⟨Z,q2,by rw[<-g];exact aX⟩
   ·obtain⟨qs,g1,g2,g3⟩:=T y hy d P' e;exact⟨qs,old _ _ g1 zP,g2,λp cv q=>let ⟨F,e1,e2⟩:=g3 p cv q;⟨F,e1,old _ _ e2 (λz=>by rw[z,O]at e2;cases e2)⟩⟩
end
def NB(K:dV)(ι:List dt)(H:Hp)(x:D)(cls:a_)(od:Option dt):Prop:=
 ∃n ds C,x= .exc n ds/\p7 K g_ n=ar (ar (.ref C))/\cls= .ref C/\
  ((od=none/\ds=[])\/∃dx fs,od=ar dx/\H dx=ar (.xd fs)/\fs.map (·.1)=([("many":Str),("most":Str)]:List Str)/\RelDs K ι H ds (fs.map (·.2)))
def xo(K:dV)(Ek:XK):XD:=λx ι _ H=>∀cls od,NB K ι H x cls od->Ek cls od H
def DQ(K:dV)(F:List D->M D):Sp:=λvs H Q Ek=>∃ ι S ds,Rep K ι H S/\RelDs K ι H ds vs/\cont K (xo K Ek) (F ds) ι S H (mB K Q)
theorem DR{K:dV}{E X:XD}{α:Type}{c:M α}{ι:List dt}{S:aE}{H:Hp}{Q:α->List dt->aE->Hp->Prop}(h:cont K E c ι S H Q)(k:∀x ι' Z H',E x ι' Z H'->X x ι' Z H'):cont K X c ι S H Q:=by
 obtain⟨r,Z,e,q⟩:=h;refine⟨r,Z,e,λY T U rep1=>?_⟩;have:=q Y T U rep1;cases r with
 |ok a=>exact this
 |ex x=>exact k x _ _ _ this
def qj{α:Type}(c:M α):M α:=λS=>match c S with
 |some (.ok a,S')=>ar (.ok a,S')
 |_=>none
theorem uz{K:dV}{E:XD}{α:Type}{c:M α}{ι:List dt}{S:aE}{H:Hp}{Q:α->List dt->aE->Hp->Prop}(h:cont K E (qj c) ι S H Q):cont K cL c ι S H Q:=by
 obtain⟨r,Y,e,q⟩:=h;unfold qj at e;cases z:c S with
 |none=>rw[z]at e;cases e
 |some p=>
  obtain⟨Z,S1⟩:=p;rw[z]at e;cases Z with
  |ok a=>cases e;exact⟨_,_,z,q⟩
  |ex x=>cases e
section
variable {X:Cx}{E:XD}
def Gh{m:TM}(h:SE X cL e m):SE X E e (λρ=>qj (m ρ)):=PE.imp h λ_ _ _ ⟨ι,S,ρ,rep,re,c⟩=>⟨ι,S,ρ,rep,re,uz c⟩
def xp{Z:List pa}{m:dq}(h:wO X cL Z m):wO X E Z (λρ=>qj (m ρ)):=sT.imp h λ_ _ _ ⟨ι,S,ρ,rep,re,c⟩=>⟨ι,S,ρ,rep,re,uz c⟩
def vF{Z:List pa}{m:dq}(h:wO X.nox cL Z m):wO X cL Z m:=sT.nox h
end
structure Leaves(X:Cx)(Ek:XK):Prop where
 st:X.stack=X.env::X.outer
 fm:X.env.frame=ar X.env.locals
 ex:X.ex=[]
 xe:∀e s',eb (fc X.prog X.w) X.A (TF X.env e) (λ_ s''=>mE X.prog X.w X.outer X.H₀ X.s₀ Ek e s'') (λe' s''=>mE X.prog X.w X.outer X.H₀ X.s₀ Ek e' s'') s'->X.xe e s'
 ow:TC (fc X.prog X.w) X.A X.env X.xe
section
variable {X:Cx}{Ek:XK}
theorem Leaves.pass(L:Leaves X Ek):qT (mE X.prog X.w) X Ek:=by rintro pins σ H s x s' I ⟨e,T,C,od,H',rfl,os,bare,un,hok,F,ne,nT,le,lT,hE⟩;have U:L2.Inv X pins σ H' s':=I.call' (ch:=[]) os un hok bare (λb z=>absurd z (by simp));refine L.xe _ _ (zj (base:=X.base) (outer:=X.outer) (by rw[U.ok.frames,L.st]) (by rw[<-L.st];exact U.stack) L.fm F λh' Q P l st=>?_);rw[<-L.st]at st;have Z:gD X.prog X.w H' h':=gD.fly hok st ne nT U.stkFree;have S:Un (kY X.stack) [] H H' s.heap h':=Un.fly un st le lT;have W:L2.Inv X pins σ H' {s' with heap:=h'}:=I.call' (s':={s' with heap:=h'}) (ch:=[]) os S Z bare (λb z=>absurd z (by simp));have R:=W.base;have h0:=I.base;have Y:=U.base;rw[L.ex]at R h0 Y;exact⟨e,Q,C,od,H',rfl,W.os,W.bare,R,W.hok,P,ne,hok.fresh l,Un.gone h0 (by simp) le,Un.gone Y (by simp) (PK l),hE⟩
theorem Leaves.new{H:Hp}(L:Leaves X Ek)
  (I:L2.Inv X pins σ H s') (K:s'.heap.get? e=ar oe) (E:oe.cls= .ref C) (B:oe.dict=od) (G:oe.data= .fields vs) (O:vs[1]? =ar .none) (T:H e=none) (hs:X.s₀.heap.get? e=none) (J:Ek (.ref C) od H):X.xe (.ref e) s':=by
 refine L.xe _ _ (xm (base:=X.base) (outer:=X.outer) (by rw[I.ok.frames,L.st]) (by rw[<-L.st];exact I.stack) L.fm K E B G O λh' N F l st=>?_);have R:∀b∈kY (X.env::X.outer),H b=none:=by rw[<-L.st];exact I.stkFree
 have Y:gD X.prog X.w H h':=gD.fly I.hok st T T R;have Z:=I.base;rw[L.ex]at Z;have Q:∀b o,X.s₀.heap.get? b=ar o->b∉kY X.outer->b∉kY (X.env::X.outer):=λb o q n z=>by
  rw[xn X.outer X.env.locals _ L.fm]at z;rcases O2.mp z with z|z
  ·exact absurd (OJ q) (by rw[z];exact Tg.mpr I.ok.above)
  ·exact n z
 have ne:∀b o,X.s₀.heap.get? b=ar o->b≠e:=λb o q=>iD q hs;refine⟨e,N,C,od,H,rfl,I.os,I.bare,⟨λb o q n hf U=>?_,λb o q n hf U=>?_,Z.free,λb o q U=>?_,Z.tups,Z.frzs,Z.tbls⟩,Y,F,T,I.hok.fresh l,hs,Un.gone Z (by simp) (PK l),J⟩
 ·exact st.keep b o (Z.keep b o q n hf U) (ne b o q) (ne b o q) (Q b o q hf)
 ·obtain⟨y,S⟩:=Z.slot b o q n hf U;obtain⟨W,P⟩:=st.slot b _ S (ne b o q) (ne b o q);exact⟨W,P⟩
 ·obtain⟨A,S⟩:=Z.there b o q U;obtain⟨W,P⟩:=st.slot b _ S (ne b o q) (ne b o q);exact⟨_,P⟩
theorem dD{P:ey}{w:fg}{K:dV}{Y:Str->Option a_}{base:gg}{N:List Str}{qual:Str}{scope:Scope}{f:dt}{Z:a_}{A:j_}{outer:List Env}{s₀:dr}{H₀:Hp}:
  Leaves (kP (mE P w) P w K Y base N qual scope f Z A outer s₀ H₀ Ek) Ek:=⟨rfl,rfl,rfl,λ_ _ h=>h,PassesOwn.leaving⟩
end
structure DefX(P:ey)(w:fg)(K:dV)(mg:Str->Option a_)(base:gg)(k:Nat)(x:Str)(ps:List Str)(F:List D->M D):Prop where
 ex:∃f fd,FnOk P w K mg base (mE P w) k f fd ps (DQ K F)/\mg x=ar (.ref f)/\y0 K (.ref f)=b_/\Binds K fd ps []
section
variable {P:ey}{w:fg}{K:dV}{mg:Str->Option a_}{base:gg}
theorem JB{x qual:Str}{X:pa}{f:dt}{I:lx}{N U:List Str}{k:Nat}{m:dq}(F:Fun K x qual X f I)(B:FnScope N U (aw X))
  (T:∀(Z:a_) (A:j_) (outer:List Env) (s:dr) (H:Hp) (Y:XK),Room k (A.deeper (D_ qual (aw X) s.heap.objs.size f Z))->Tp K Z qual=b_->(∃J od R kV doc pm an ct,K.lookup f=ar ⟨J,od,.func (y9 x qual (gE X) (dw X) (aw X) .none kV doc pm an Z ct),R⟩)->
   wO (kP (mE P w) P w K mg base N qual (aw X) f Z A outer s H Y) (xo K Y) (dw X) m):FnOk P w K mg base (mE P w) (k+1) f I U (DQ K (tm N.length U.length m)):=by
 have key:∀{vs:List V} {H:Hp} {Q:VK} {Y:XK},DQ K (tm N.length U.length m) vs H Q Y->vs.length=U.length/\∃ ι S ds,Rep K ι H S/\RelDs K ι H ds vs/\cont K (xo K Y) (do let o<-m (ds.map ar++f' (N.length - U.length) none);outD o) ι S H (mB K Q):=by
  rintro vs H Q Y ⟨ι,S,ds,rep,r,c⟩;unfold tm at c;by_cases L:ds.length=U.length
  ·rw[if_pos L]at c;exact⟨by rw[<-r.length];exact L,ι,S,ds,rep,r,c⟩
  ·rw[if_neg L]at c;exact(ah c).elim
 obtain⟨J,od,kV,doc,pm,an,Z,ct,R,rfl,G,O⟩:=F.ex;refine CK G O B (λvs H Q Y h=>(key h).1) λA outer s H vs Q Y C h=>⟨_,T Z A outer s H Y C O ⟨J,od,R,kV,doc,pm,an,ct,G⟩,?_⟩;obtain⟨L,ι,S,ds,rep,r,c⟩:=key h;refine⟨ι,S,_,rep,?_,av (ak c) λo E S1 y e1 rep1 c1=>?_⟩
 ·have:=RelE.start r (N.length - U.length);unfold L2.start;rw[L];exact this
 ·cases o with
  |nx ρ=>exact λz _=>ao c1 .refl rep1 _ .non
  |ret d=>exact ao c1 .refl rep1
  |bk ρ=>exact(ah c1).elim
  |ct ρ=>exact(ah c1).elim
end
section
variable {X:Cx}{Ek:XK}{e:Expr}{es:List Expr}{pos:Pos}{ms:aO->M (List D)}
theorem fT(d:DefX X.prog X.w X.K X.mg X.base k x ps F)(I:Room k X.A)(J:qT (mE X.prog X.w) X Ek)(R:SA X (xo X.K Ek) (e::es) ms)(P:Gl X x:=by rfl)
  (W:(x==("__debug__":Str))=false:=by decide) (U:d_ (e::es) X.env=(c_,hY e X.env)::d_ es X.env:=by rfl) (Y:(n_ pos (d_ es X.env)).any (·.1)=false:=by rfl):
  SE X (xo X.K Ek) (.Call (.Name x p) (e::es) [] pos) (aA F ms):=by
 obtain⟨f,fd,G,hm,O,N⟩:=d.ex;refine PE.imp (zV G I P hm O N (.nil) (E:=Ek) J R W U Y) λσ H Q h=>?_;obtain⟨ι,S,ρ,rep,re,c⟩:=h;refine⟨ι,S,ρ,rep,re,av (ak c) λds Z S1 L e1 rep1 c1 vs T=>?_⟩;show DQ X.K F (vs++[]) L Q Ek;rw[Pp];exact⟨Z,S1,ds,rep1,T,c1⟩
theorem aJ(d:DefX X.prog X.w X.K X.mg X.base k x ps F)(J:Room k X.A)(R:SA X cL (e::es) ms)(P:Gl X x:=by rfl)
  (W:(x==("__debug__":Str))=false:=by decide) (U:d_ (e::es) X.env=(c_,hY e X.env)::d_ es X.env:=by rfl) (Y:(n_ pos (d_ es X.env)).any (·.1)=false:=by rfl):
  SE X cL (.Call (.Name x p) (e::es) [] pos) (aA F ms):=by
 obtain⟨f,fd,G,hm,O,N⟩:=d.ex;refine PE.imp (zV G J P hm O N (.nil) (E:=E0) BK R W U Y) λσ H Q h=>?_;obtain⟨ι,S,ρ,rep,re,c⟩:=h;refine⟨ι,S,ρ,rep,re,av (ak c) λds Z S1 L e1 rep1 c1 vs T=>?_⟩;show DQ X.K F (vs++[]) L Q E0;rw[Pp];exact⟨Z,S1,ds,rep1,T,DR c1 λ_ _ _ _ z=>z.elim⟩
end
def bb:List Str:=["WebError","NoWeb","NoPlace","NoPlaces","NoMap","NoSharing","NoRoot","NoNumber","NotJoined","NoTie","NoText","NoLine","NoDeed","TooGreat"]
def de(n y:Str):Bool:=n==y||y=="WebError"
abbrev KB:List Value:=[.type "ValueError",.type "Exception",.type "BaseException",.type "object"]
def DS(K:dV)(n:Str):Bool:=match p7 K g_ n with
 | some (ar (.ref C))=>DN K C && (n=="TooGreat"||UY K C KB "ValueError.__new__") && (qt K (.ref C) (.type "ValueError")==ar b_) && (qt K (.type "NoneType") (.ref C)==ar c_) &&
  bb.all (λy=>match p7 K g_ y with
   |some (ar (.ref D))=>qt K (.ref C) (.ref D)==ar (de n y) && U_ K (.ref C) (.ref D)==ar (de n y)
   |_=>c_)
 |_=>c_
def gT(K:dV):Bool:=bb.all (DS K) && qt K (.type "NoneType") (.type "ValueError")==ar c_
structure ErrAt(K:dV)(n:Str)(C:dt):Prop where
 ns:p7 K g_ n=ar (ar (.ref C))
 ck:ExcC K C
 pl:n="TooGreat"\/UY K C KB "ValueError.__new__"=b_
 ve:qt K (.ref C) (.type "ValueError")=ar b_
 nn:qt K (.type "NoneType") (.ref C)=ar c_
 sub:∀y∈bb,∃D,p7 K g_ y=ar (ar (.ref D))/\qt K (.ref C) (.ref D)=ar (de n y)/\U_ K (.ref C) (.ref D)=ar (de n y)
theorem lA{K:dV}(h:gT K=b_){n:Str}(Y:n∈bb):∃C,ErrAt K n C:=by
 unfold gT at h;rw[Po]at h;have Z:=OT.mp h.1 n Y;unfold DS at Z;split at Z
 ·next C e=>
  simp only[hO,vr,beq_iff_eq,y7]at Z;obtain⟨⟨⟨⟨a1,a2⟩,a3⟩,X⟩,a5⟩:=Z;refine⟨C,e,.of a1,a2,a3,X,λy U=>?_⟩;have:=a5 y U;split at this
  ·next D eD=>
   simp only[hO,beq_iff_eq]at this;exact⟨D,eD,this.1,this.2⟩
  ·cases this
 ·cases Z
def JC{K:dV}(h:gT K=b_):qt K (.type "NoneType") (.type "ValueError")=ar false:=by unfold gT at h;rw[Po,S9]at h;exact h.2
theorem Gi{K:dV}(X:K.In h)(q:UY K C KB "ValueError.__new__"=b_):∃bm N nm qn bs hdct sn sub ab col dd k0 k1 k2 k3 k5 mN,
  h.get? C=ar (xy nm qn C N bs bm hdct sn sub ab col dd k0 k1 k2 k3 k5 "ValueError.__new__")/\h.Ns N mN/\mN "__init__"=none/\Uu h KB bm:=by
 unfold UY at q;split at q
 case h_2=>cases q
 case h_1 dd cd T ho=>
 split at q
 case h_2=>cases q
 case h_1 C' bm k0 k1 k2 k3 n k5 hm hs=>
 simp only[hO,beq_iff_eq,K_]at q;obtain⟨⟨⟨⟨⟨S,en⟩,Z⟩,R⟩,Y⟩,U⟩:=q;subst S en;rcases cd with⟨nm,bs,mro,ns,qn,hd,sn,sub,ab,col,del⟩;dsimp only at hm Z Y U;subst hm Z;obtain rfl:T= #[k0,k1,k2,k3,ar (.builtin "ValueError.__new__"),k5]:=by rcases T with⟨l⟩;simp only at hs;rw[hs]
 exact⟨bm,ns,nm,qn,bs,hd,sn,sub,ab,col,dd,k0,k1,k2,k3,k5,_,X _ _ ho,.of_isNs (W.isNs_of_in X Y),W.nsMap_none_of_in X Y U,W.tail_of_in X R⟩
section
variable {X:Cx}{Ek:XK}{E:XD}
theorem DT(L:Leaves X Ek)(o:X.calm=b_)(j:gT X.K=b_)(l:x∈bb)(R:x≠"TooGreat")(i:SA X (xo X.K Ek) (e::es) ms)(p:Gl X x:=by rfl)
  (O:(x==("__debug__":Str))=false:=by decide) (y:d_ (e::es) X.env=(c_,hY e X.env)::d_ es X.env:=by rfl) (G:(n_ cpos (d_ es X.env)).any (·.1)=false:=by rfl):
  SS X (xo X.K Ek) (.Raise (ar (.Call (.Name x np) (e::es) [] cpos)) none pos) (λρ=>do let ds<-ms ρ;if ds.length<=lim then M.raise (.exc x [])else M.fail):=by
 intro pins s σ H T I h;obtain⟨ι,S,ρ,rep,re,c⟩:=h;obtain⟨C,B⟩:=lA j l;have g:=B.pl.resolve_left R;have hm:X.mg x=ar (.ref C):=QF I.mod.kin I.mod.glob B.ns;obtain⟨bm,N,nm,k,bs,hdct,sn,sub,ab,col,dd,k0,k1,k2,k3,k5,mN,f,n,P,A⟩:=Gi I.mod.kin g;refine wpAny_Raise_call_subU (k5:=k5) (k3:=k3) (k2:=k2) (k1:=k1) (k0:=k0) (nm:=nm) (q:=k) (C:=C) (N:=N) (bm:=bm) (bs:=bs) (hdct:=hdct) (sn:=sn) (sub:=sub) (ab:=ab) (col:=col) (dd:=dd) Qo (by decide) Qo (mN:=mN) (A.hasType PySem.F.excBase_ValueError.hasBase) (I.ok.hd o) (by rw[y];show(c_||(n_ cpos (d_ es X.env)).any (·.1))=c_;rw[G];rfl) P (lW I p hm ⟨rfl,?_⟩ O);have Y:=i cpos pins s σ H _ I ⟨ι,S,ρ,rep,re,av (ak c) λds Z S1 U e1 rep1 c1 vs Q=>(⟨Z,S1,ds,rep1,Q,c1⟩:∃Z S1 ds,Rep X.K Z U S1/\RelDs X.K Z U ds vs/\cont X.K (xo X.K Ek) (if ds.length<=lim then M.raise (.exc x [])else M.fail) Z S1 U _)⟩;rw[y]at Y⊢;refine RO (O6 Y (λus s2 J=>?_) λ_ _ z=>z);obtain⟨vs,U,W,m,Z,S1,ds,rep1,Q,c1⟩:=J;by_cases hl:ds.length<=lim
 ·rw[if_pos hl]at c1;refine⟨rfl,?_,W.bk _ _ f,n.keeps W.bk,A.keeps W.bk,λh' ea hm=>?_⟩
  ·show us.length<=sizeLine;rw[<-m.length, <-Q.length];exact OR hl g9
  ·obtain⟨t,v,a,h3⟩:=hm.there;have u:L2.Inv X pins σ U {s2 with heap:=h'}:=W.kept (t':=s2.toks) hm.keeps;have w:=W.base;rw[L.ex]at w;obtain⟨b,S',d,r⟩:=c1;cases d;refine L.new u v rfl rfl rfl rfl (gD.gone W.hok hm.new) (Un.gone w (by simp) hm.new) (r Z U .refl rep1 _ _ ⟨x,[],C,rfl,B.ns,rfl,.inl ⟨rfl,rfl⟩⟩)
 ·rw[if_neg hl]at c1;exact(ah c1).elim
def xq(f:Str->Bool):D->M D
 | .exc n _=>if n∈bb then aC (.bl (f n))else M.fail
 | .non=>aC (.bl c_)
 |_=>M.fail
theorem BO(x:qf C a od h)(S:od=none\/∃dx fs,od=ar dx/\bC P w H h dx (.xd fs)):∃ox odo,A' h a ox C odo:=by
 obtain⟨Y,vs,e,U,T,hf⟩:=x;have Z:Va Y=true:=by unfold Va;rw[hf]
 rcases S with rfl|⟨dx,fs,rfl,h2⟩
 ·exact⟨Y,none,e,U,Z,by rw[T];trivial⟩
 ·obtain⟨R,e2⟩:=bC.there h2;exact⟨Y,ar R,e,U,Z,by rw[T];exact e2⟩
theorem Gj{Q:a_->dr->Prop}(I:L2.Inv X pins σ H s)(r:RelD X.K ι H (.exc n ds) v)(S:RelV v u)
  (U:gT X.K=b_) (Y:n∈bb) (T:∀C,ErrAt X.K n C->qt X.K (.ref C) cv=ar b) (h:∀tk,Q (.bool b) {s with toks:=tk}):eb (fc X.prog X.w) A (call (.builtin "isinstance") [u,cv]) Q Ex s:=by
 obtain⟨C,Z⟩:=lA U Y;have fin:∀{a C2:dt} {od:Option dt},p7 X.K g_ n=ar (ar (.ref C2))->v= .ref a->qf C2 a od s.heap->(od=none\/∃dx fs,od=ar dx/\bC X.prog X.w H s.heap dx (.xd fs))->eb (fc X.prog X.w) A (call (.builtin "isinstance") [u,cv]) Q Ex s:=by rintro a C2 od e1 rfl ph hd;rw[Z.ns]at e1;cases e1;obtain rfl:u=er a:=S;exact PD (DO Z.ck) I.kIn (BO ph hd) (T C Z) (λz=>nomatch z) h
 cases r with
 |exc e1 e2=>exact fin e1 rfl (I.hok _ _ e2).1 (.inl rfl)
 |excF e1 e2 e3 e4 e5=>exact fin e1 rfl (I.hok _ _ e2).1 (.inr ⟨_,_,rfl,I.hok _ _ e3⟩)
theorem DU{Q:a_->dr->Prop}(I:L2.Inv X pins σ H s)(Z:qt X.K (.type "NoneType") cv=ar c_)(h:∀tk,Q (.bool c_) {s with toks:=tk}):
  eb (fc X.prog X.w) A (call (.builtin "isinstance") [.none,cv]) Q Ex s:=PD Sg I.kIn pd Z (λz=>nomatch z) h
theorem Ap{q:Pos}{f:Str->Bool}(z:gT X.K=b_)(A:X.mg "isinstance"=none)(G:SE X E e m)(O:PE X ec (tC vc))(P:∀u,RelV vc u->u=cv)(J:qt X.K (.type "NoneType") cv=ar c_)
  (F:∀n∈bb,∀C,ErrAt X.K n C->qt X.K (.ref C) cv=ar (f n)) (y:Gl X "isinstance":=by rfl)
  (hs:d_ [e,ec] X.env=[(c_,hY e X.env),(c_,hY ec X.env)]:=by rfl) (Z:d_ [ec] X.env=[(c_,hY ec X.env)]:=by rfl):
  SE X E (.Call (.Name "isinstance" p) [e,ec] [] pos) (λρ=>do let x<-m ρ;xq f x):=by
 have Y:dm X (.builtin "isinstance") (λxs H Q=>∃x ι d,xs=[x,vc]/\RelD X.K ι H d x/\((d= .non/\Q (.bl c_) H)\/∃n ds,d= .exc n ds/\n∈bb/\Q (.bl (f n)) H)):=by
  intro pins s σ H xs us Q I r h;obtain⟨x,ι,d,rfl,L,w⟩:=h;obtain⟨u,t,rfl,N,T⟩:=vals2 r;cases P _ T;rcases w with⟨rfl,q⟩|⟨n,ds,rfl,hn',q⟩
  ·cases L.non_inv;cases (show u=h_ from N);exact DU I J λR=>⟨.bl _,H,I.tok R,rfl,q⟩
  ·exact Gj I L N z hn' (λC B=>F n hn' C B) λR=>⟨.bl _,H,I.tok R,rfl,q⟩
 refine PE.imp (jQ Y y A (by decide+kernel) (eP G (eP O ke Z) (by rw[hs,Z])) (by decide) (by decide) (by rw[hs,Z]) (by rw[Z];rfl)) λσ H Q h=>?_;obtain⟨ι,S,ρ,rep,re,c⟩:=h;refine⟨ι,S,ρ,rep,re,av (ak c) λx U S1 o e1 rep1 c1 v r=>?_⟩;refine⟨v,U,x,rfl,r,?_⟩;cases x with
 |non=>exact .inl ⟨rfl,ao c1 .refl rep1 _ (.bl _)⟩
 | exc n ds=>
  dsimp only[xq]at c1;by_cases hn':n∈bb
  ·rw[if_pos hn']at c1;exact .inr ⟨n,ds,rfl,hn',ao c1 .refl rep1 _ (.bl _)⟩
  ·rw[if_neg hn']at c1;exact(ah c1).elim
 |_=>exact(ah c1).elim
theorem eV{m:TM}{e:Expr}{y:Str}{p q pos:Pos}(T:gT X.K=b_)(S:y∈bb)(G:Mod X.K X.mg X.base)(O:X.mg "isinstance"=none)(Q:SE X E e m)(P:Gl X "isinstance":=by rfl)(W:Gl X y:=by rfl)(R:(y==("__debug__":Str))=false:=by decide)
  (hs:d_ [e,.Name y q] X.env=[(c_,hY e X.env),(c_,hY (.Name y q) X.env)]:=by rfl) (Z:d_ [.Name y q] X.env=[(c_,hY (.Name y q) X.env)]:=by rfl):
  SE X E (.Call (.Name "isinstance" p) [e,.Name y q] [] pos) (λρ=>do let x<-m ρ;xq (λn=>de n y) x):=by
 obtain⟨C,U⟩:=lA T S;refine Ap (q:=q) (vc:=.ref C) (cv:=.ref C) T O Q (zU W (QF G.kin G.glob U.ns) rfl R) (λu z=>z) U.nn (λn N L Y=>?_) P hs Z;obtain⟨J,e1,e2,_⟩:=Y.sub y S;rw[U.ns]at e1;cases e1;exact e2
theorem Gk(T:gT X.K=b_)(R:X.mg "isinstance"=none)(Y:X.mg "ValueError"=none)(S:SE X E e m)(Q:Gl X "isinstance":=by rfl)(Z:Gl X "ValueError":=by rfl)
  (hs:d_ [e,.Name "ValueError" q] X.env=[(c_,hY e X.env),(c_,hY (.Name "ValueError" q) X.env)]:=by rfl) (U:d_ [.Name "ValueError" q] X.env=[(c_,hY (.Name "ValueError" q) X.env)]:=by rfl):
  SE X E (.Call (.Name "isinstance" p) [e,.Name "ValueError" q] [] pos) (λρ=>do let x<-m ρ;xq (λ_=>b_) x):=
 Ap (q:=q) (vc:=.ty "ValueError") (cv:=.type "ValueError") T R S (qy Z Y (by decide+kernel) rfl) (λu z=>z) (JC T) (λn P O W=>W.ve) Q hs U
end
abbrev lB(ql:Str)(scope:Scope)(f c':dt)(cl:List (Str×dt))(s:dr):Env:=W.envX ql scope s.heap.objs.size f (.ref c') cl
def xr(P:ey)(w:fg)(K:dV)(mg:Str->Option a_)(base:gg)(N:List Str)(ql:Str)(scope:Scope)(f c':dt)(cl:List (Str×dt))(A:j_)(outer:List Env)(s:dr)(H:Hp)(Ek:XK):Cx where
 prog:=P
 w:=w
 K:=K
 mg:=mg
 base:=base
 A:=A.deeper (lB ql scope f c' cl s)
 N:=N
 s₀:=s
 H₀:=H
 env:=lB ql scope f c' cl s
 outer:=outer
 stack:=lB ql scope f c' cl s::outer
 ex:=[]
 calm:=b_
 fn:=λ_=>c_
 pn:=[]
 xe:=λe s'=>eb (fc P w) (A.deeper (lB ql scope f c' cl s)) (TF (lB ql scope f c' cl s) e) (λ_ s''=>mE P w outer H s Ek e s'') (λe' s''=>mE P w outer H s Ek e' s'') s'
section
variable {P:ey}{w:fg}{K:dV}{mg:Str->Option a_}{base:gg}{N:List Str}{ql:Str}{scope:Scope}{f c':dt}{cl:List (Str×dt)}{params:TH}{body:Expr}{pm ctv:a_}
def rW:Leaves (xr P w K mg base N ql scope f c' cl A outer s H Ek) Ek:=⟨rfl,rfl,rfl,λ_ _ h=>h,PassesOwn.leaving⟩
structure Caps(base:gg)(scope:Scope)(cl:List (Str×dt))(N:List Str)(vs:List V):Prop where
 kind:scope.kind= .function
 nocell:∀y∈scope.names,y.2≠ .cell
 co:scope.isCoroutine=c_
 gen:scope.isGenerator=c_
 inj:∀x y c,cl.lookup x=ar c->cl.lookup y=ar c->x=y
 has:∀x,scope.names.lookup x=ar .free->∃c,cl.lookup x=ar c
 cell:∀x c,cl.lookup x=ar c->∃v,base.IsCell c v
 len:vs.length=N.length
 val:∀(i:Nat) (x:Str) (v:V),N[i]? =ar x->vs[i]? =ar v->scope.names.lookup x=ar .free/\∃c u,cl.lookup x=ar c/\RelV v u/\base.IsCell c (ar u)
def LH(K:dV)(c':dt)(ql:Str)(ds:List D)(vs:List V)(m:TM):Hp->VK->XK->Prop:=λH Q Ek=>
 ∃ ι S,Rep K ι H S/\H c'=ar (.ext (sZ ql c'))/\RelDs K ι H ds vs/\cont K (xo K Ek) (m (ds.map ar)) ι S H (mB K Q)
def iE{h h':gg}(x:h.IsCell c v)(k:∀b o,h.get? b=ar o->h'.get? b=ar o):h'.IsCell c v:=let ⟨o,e,r⟩:=x;⟨o,k _ _ e,r⟩
theorem xt:∀{ds:List D} {vs:List V},RelDs K ι H ds vs->RelE K ι H (ds.map ar) (vs.map ar)
 |_,_,.nil=>.nil
 |_,_,.cons r t=>.cons (λd z=>by cases z;exact⟨_,rfl,r⟩) (xt t)
theorem JD(ho:base.get? f=ar (zl "<lambda>" ql params body scope cl pm c' ctv))(Y:Caps base scope cl N vs)
  (T:Ux (U' "<lambda>" ql params body scope cl pm (.ref c') ctv) ⟨[],[]⟩=aC [])
  (X:∀(A:j_) (outer:List Env) (s:dr) (H:Hp) (L:XK),Room k (A.deeper (lB ql scope f c' cl s))->SE (xr P w K mg base N ql scope f c' cl A outer s H L) (xo K L) body m):
  LamOk P w K mg base (k+1) f (LH K c' ql ds vs m):=by
 refine⟨⟨_,_,ho,rfl⟩,λA outer s H Q L B Z l=>?_⟩;obtain⟨ι,S,rep,j,rd,c⟩:=l;have bk:∀b o,base.get? b=ar o->s.heap.get? b=ar o:=λb o e=>(Z.bs b o e).1;have n:s.heap.CodeRec (.ref c') ql:=(Z.hok _ _ j).1;refine W.kla_callFunE B.depth (bk _ _ ho) rfl Y.co Y.gen rfl n ?_;rw[T];refine OE (wpAny_newFunctionEnv Y.nocell (λy hy=>absurd hy (by simp)) (λh1 E C=>?_) Y.kind);have R:∀b o,s.heap.get? b=ar o->h1.get? b=ar o:=λb o e=>(C.2 b (OQ (OJ e))).trans (OD _ e);refine⟨(Z.mod.nolimit.keeps bk).keeps R,?_⟩;show rn _ _ (.expr body (lB ql scope f c' cl s)) _ _;refine W.kla_codeExpr ?_;have U:∀b:dt,b∉([]:List dt):=λb z=>by cases z
 have d:∀x,scope.names.lookup x≠ar .cell:=λx e=>Y.nocell _ (bJ e) rfl;have I:L2.Inv (xr P w K mg base N ql scope f c' cl A outer s H L) [] (vs.map ar) H {s with heap:=h1,toks:=s.toks+0}:=
  ⟨⟨Z.mod,Y.kind,rfl,rfl,OF _,Y.inj,(λx F=>by
    rcases F with F|F
    ·exact absurd F (d x)
    ·exact Y.has x F),(λ_ _ z=>Bool.noConfusion z),λ_=>B.hd,Around.frames_deeper Z.frames,.inr ⟨rfl,rfl⟩,λb z=>absurd z (U b),Z.bs,Z.bsz,λb _ _=>U b,λb z=>absurd z (U b),Z.funs,Z.frf⟩,
   rfl,Z.bare,Un.kept R,⟨_,E,λi x v h O h3=>(by
    have t:vs[i]? =ar v:=by
     rw[O1]at O;cases q:vs[i]? with
     |none=>rw[q]at O;cases O
     |some a=>rw[q]at O;cases O;rfl
    obtain⟨hf,G,u,e1,e2,e3⟩:=Y.val i x v h t;exact⟨u,e2,.inr ⟨.inr hf,G,e1,iE (iE e3 bk) R⟩⟩)⟩,
   (λx G e=>let ⟨v,z⟩:=Y.cell x G e;⟨v,iE (iE z bk) R⟩),Z.hok.fresh (OF _),(λx G e=>let ⟨v,o,z,_⟩:=Y.cell x G e;(Z.bs _ _ z).2),
   (λp hp=>absurd hp (by simp[xr])),Z.hok.kept R,by rw[OC];exact Y.len⟩
 refine O6 (X A outer s H L (B.deeper _) [] _ (vs.map ar) H Q I ⟨ι,S,ds.map ar,rep,xt rd,c⟩) (λu s' g=>?_) λe s' g=>g;obtain⟨v,H',J,r,q⟩:=g;exact⟨v,H',J.os,J.bare,J.base,J.hok,r,q⟩
end
theorem RelE.unset{K:dV}{ι:List dt}{H:Hp}:∀{ρ:S3.aO} {σ:L2.St} (i:Nat),RelE K ι H ρ σ->RelE K ι H (ρ.set i none) (σ.set i none)
 |_,_,_,.nil=>.nil
 |_,_,0,.cons _ t=>.cons (λd' z=>by cases z) t
 |_,_,i+1,.cons q t=>.cons q (RelE.unset i t)
def DV(jn jy:Nat)(c:M D)(ρ:S3.aO):M Out:=λS=>match c S with
 |some (.ok _,S')=>ar (.ok (.nx ρ),S')
 |some (.ex (.exc n ds),S')=>if n∈bb then ar (.ok (.nx (((ρ.set jn (ar (.exc n ds))).set jy (ar (.exc n ds))).set jn none)),S')else none
 |_=>none
open Classical in
def xu(i jn jy:Nat)(f:D)(c:M D):dq:=λρ=>if ρ[i]? =ar (ar f)then DV jn jy c ρ else M.fail
section
variable {X:Cx}{E:XD}{k i jn jy:Nat}{a c':dt}{ql:Str}{ds:List D}{vs:List V}{m:TM}{x n y:Str}{p cpos epos np p1 p2 p3 hpos tpos:Pos}
theorem JE(s:X.stack=X.env::X.outer)(F:X.env.frame=ar X.env.locals)(L:LamOk X.prog X.w X.K X.mg X.base k a (LH X.K c' ql ds vs m))(hr:Room k X.A)(hN:X.N.Nodup)(c:gT X.K=b_)(G:Mod X.K X.mg X.base)(hi:X.N[i]? =ar x)(hv:Ct X.env.scope x)
  (I:X.N[jn]? =ar n) (l:X.N[jy]? =ar y) (j:X.env.scope.names.lookup n=ar .local) (B:X.env.scope.names.lookup y=ar .local) (hg:Gl X "WebError")
  (hd:(x==("__debug__":Str))=false:=by decide) (o:(x==("__classdict__":Str))=false:=by decide) (J:(n==("__debug__":Str))=false:=by decide) (U:(n==("__classdict__":Str))=false:=by decide)
  (u:lb (.Call (.Name x p) [] [] cpos) none epos.line X.env=aC false:=by rfl) (Q:lb (.Name n p2) (ar (.Name y p1)) p3.line X.env=aC false:=by rfl):
  SS X E (.Try [.Expr (.Call (.Name x p) [] [] cpos) epos] [.ExceptHandler (ar (.Name "WebError" np)) (ar n) [.Assign [.Name y p1] (.Name n p2) p3] hpos] [] [] tpos) (xu i jn jy (.fn a c' ql ds vs) (m (ds.map ar))):=by
 obtain⟨CW,f⟩:=lA c (show("WebError":Str)∈bb from .head _);refine PS.imp (BN s F L hr hN hi hv I l j B hg (QF G.kin G.glob f.ns) hd o (by decide) J U u Q) λT σ H h=>?_;obtain⟨ι,S,ρ,rep,re,r,S',e,q⟩:=h;have e:xu i jn jy (.fn a c' ql ds vs) (m (ds.map ar)) ρ S=ar (r,S'):=e;unfold xu at e;by_cases hρ:ρ[i]? =ar (ar (.fn a c' ql ds vs))
 case neg=>rw[if_neg hρ]at e;cases e
 rw[if_pos hρ]at e;unfold DV at e;obtain⟨v,e1,rv⟩:=re.get hρ;cases rv with
 | fn hc' rds=>
  refine⟨e1,ι,S,rep,hc',rds,?_⟩;cases z:m (ds.map ar) S with
  |none=>rw[z]at e;cases e
  | some pr=>
   obtain⟨r1,S1⟩:=pr;rw[z]at e;cases r1 with
   |ok d=>
    cases e;exact⟨_,_,z,λZ O P rep1 v' _=>q Z O P rep1 σ (re.later rep P)⟩
   | ex xd=>
    cases xd with
    | exc nm es=>
     dsimp only at e;split at e
     case isFalse=>cases e
     case isTrue hnm=>
     cases e;refine⟨_,_,z,λZ O P rep1 cls od rx=>?_⟩;obtain⟨n2,c0,C,e2,Y,rfl,t⟩:=rx;cases e2;obtain⟨C2,g⟩:=lA c hnm;have:=g.ns;rw[Y]at this;cases this;obtain⟨D2,f1,f2,f3⟩:=g.sub "WebError" (.head _);rw[f.ns]at f1;cases f1;refine⟨C,rfl,by rw[f3];simp[de],λR W=>?_⟩;have xe:Ext Z O Z (upd O R (.ext (qf C R od))):=fx W;have b:RelD X.K Z (upd O R (.ext (qf C R od))) (.exc nm es) (.ref R):=by
      rcases t with⟨rfl,rfl⟩|⟨dx,fs,rfl,g1,g2,g3⟩
      ·exact .exc Y aX
      ·exact .excF Y aX (by rw[aI (aU g1 W)];exact g1) g2 (g3.later rep1 xe)
     exact q Z _ (P.trans xe) (gF rep1 W) _ (RelE.unset jn ((((re.later rep P).later rep1 xe).set b jn).set b jy))
    |_=>cases e
end
def zo:List Nat->S3.aO->Option (List D)
 |[],_=>ar []
 |j::r,ρ=>match ρ[j]? with
  |some (ar d)=>(zo r ρ).map (d::·)
  |_=>none
theorem Aq{K:dV}{ι:List dt}{H:Hp}{ρ:S3.aO}{Y:L2.St}(Z:RelE K ι H ρ Y):∀{js:List Nat} {ds:List D},zo js ρ=ar ds->∃vs,RelDs K ι H ds vs/\vs.length=js.length/\∀(i j:Nat) (v:V),js[i]? =ar j->vs[i]? =ar v->Y[j]? =ar (ar v)
 |[],ds,e=>by
  cases e;exact⟨[],.nil,rfl,λi j v h=>by simp at h⟩
 | j ::r,ds,e=>by
  unfold zo at e;cases q:ρ[j]? with
  |none=>rw[q]at e;cases e
  | some o=>
   cases o with
   |none=>rw[q]at e;cases e
   | some d=>
    rw[q]at e;cases q2:zo r ρ with
    |none=>rw[q2]at e;cases e
    |some es=>
     rw[q2]at e;cases e;obtain⟨v,X,S⟩:=Z.get q;obtain⟨vs,g1,g2,g3⟩:=Aq Z q2;refine⟨v::vs,.cons S g1,by simp[g2],λi T U e1 e2=>?_⟩;cases i with
     |zero=>simp at e1 e2;subst e1 e2;exact X
     |succ i=>exact g3 i T U (by simpa using e1) (by simpa using e2)
structure LamScope(X:Cx)(scope:Scope)(N3:List Str)(js:List Nat):Prop where
 kind:scope.kind= .function
 nocell:∀y∈scope.names,y.2≠ .cell
 co:scope.isCoroutine=c_
 gen:scope.isGenerator=c_
 free:∀y∈scope.names,y.2= .free->X.env.kindOf y.1=ar .cell\/X.env.kindOf y.1=ar .free
 len:js.length=N3.length
 ix:∀(i:Nat) (x:Str) (j:Nat),N3[i]? =ar x->js[i]? =ar j->X.N[j]? =ar x/\scope.names.lookup x=ar .free
def LJ(fs:Scope)(N:List Str)(scope:Scope)(N3:List Str)(js:List Nat):Bool:=
 (scope.kind== .function) && scope.names.all (λy=>y.2 != .cell) && !scope.isCoroutine && !scope.isGenerator &&
  scope.names.all (λy=>y.2 != .free||(fs.names.lookup y.1==ar .cell||fs.names.lookup y.1==ar .free)) && (js.length==N3.length) &&
  (N3.zip js).all (λp=>N[p.2]? ==ar p.1 && scope.names.lookup p.1==ar .free)
theorem LK{X:Cx}(fs:Scope)(N:List Str)(W:∀x,X.env.kindOf x=fs.names.lookup x)(P:X.N=N)(h:LJ fs N scope N3 js=b_):LamScope X scope N3 js:=by
 unfold LJ at h;simp only[hO,y7,beq_iff_eq,bne_iff_ne,vr,K_]at h;obtain⟨⟨⟨⟨⟨⟨Y,Q⟩,U⟩,T⟩,L⟩,S⟩,O⟩:=h;refine⟨Y,Q,U,T,λy R e=>?_,S,λi x j e1 e2=>?_⟩
 ·rw[W];exact(L y R).resolve_left λz=>z e
 ·have Z:(N3.zip js)[i]? =ar (x,j):=Q7.mpr ⟨e1,e2⟩;have:=O _ (Pa Z);rw[P];exact this
def DW(K:dV)(R:D->M D->List D->M D)(a c':dt)(ql:Str)(ds:List D)(vs:List V)(m:TM):Sp:=λus H Q _=>
 ∃ ι S rest es,us= .ref a::rest/\Rep K ι H S/\H c'=ar (.ext (sZ ql c'))/\RelDs K ι H ds vs/\RelDs K ι H es rest/\cont K cL (R (.fn a c' ql ds vs) (m (ds.map ar)) es) ι S H (mB K Q)
structure RefX(P:ey)(w:fg)(K:dV)(mg:Str->Option a_)(k k0:Nat)(x:Str)(ps:List Str)(R:D->M D->List D->M D):Prop where
 ex:∃fr fd,mg x=ar (.ref fr)/\y0 K (.ref fr)=b_/\Binds K fd ps []/\∀base,Mod K mg base->∀a c' ql ds vs m,LamOk P w K mg base k0 a (LH K c' ql ds vs m)->FnOk P w K mg base (mE P w) k fr fd ps (DW K R a c' ql ds vs m)
abbrev xv(js:List Nat)(ms:aO->M (List D))(m:TM)(R:M D->List D->M D):TM:=λρ=>match zo js ρ with
 |some ds=>(do let es<-ms ρ;R (m (ds.map ar)) es)
 |none=>M.fail
theorem mJ{h Z:gg}:∀{l:List Env},h.FunFrames base l->(∀b∈kY l,Z.get? b=none)->h.FunFrames Z l
 |[],_,_=>trivial
 |env::rest,⟨hk,⟨L,o,hf,_,ho,hd⟩,hr⟩,hn=>by
  rw[xn rest L env hf]at hn;exact⟨hk,⟨L,o,hf,hn L (.head _),ho,hd⟩,mJ hr λb Y=>hn b (.tail _ Y)⟩
abbrev lC(X:Cx)(H:Hp)(h:gg):Heap:=W.hideAll (mz h H) (kY X.stack)
def mX{X:Cx}{H:Hp}{h:gg}(e:h.get? b=ar o)(n:H b=none)(Z:b∉kY X.stack):(lC X H h).get? b=ar o:=W.hideAll_get _ (nj e n) Z
section
variable {X:Cx}{pins:List (dt×Obj)}{σ:L2.St}{H:Hp}{s:dr}
def n4(I:L2.Inv X pins σ H s):∀b o,X.base.get? b=ar o->(lC X H s.heap).get? b=ar o:=λb o e=>by obtain⟨Z,Y⟩:=I.bs b o e;refine mX Z Y λz=>?_;have:=(I.stack.mem z).1;rw[e]at this;cases this
def jH(I:L2.Inv X pins σ H s):Mod X.K X.mg (lC X H s.heap):=
 ⟨I.mod.kin.keeps (n4 I),I.mod.glob.keeps (n4 I),let ⟨mb,h1,h2⟩:=I.mod.blt;⟨mb,h1.keeps (n4 I),h2⟩,I.mod.nolimit.keeps (n4 I)⟩
theorem Gm(I:L2.Inv X pins σ H s):L2.aO X.prog X.w X.K X.mg (lC X H s.heap) X.A X.stack s H:=
 ⟨I.ok.frames,jH I,λb o e=>uR (W.of_hideAll _ e),by rw[W.hideAll_size,oF];exact OF _,mJ I.stack λb Z=>W.hideAll_none _ Z,I.stkFree,I.hok,I.bare⟩
theorem Ar(I:L2.Inv X pins σ H s)(Z:∀x,X.fn x=b_)(e:X.env.cells.lookup x=ar c)(h:s.heap.IsCell c v):(lC X H s.heap).IsCell c v:=by
 obtain⟨o,Y,W⟩:=h;refine⟨o,mX Y (I.freeC x c e) λz=>?_,W⟩;rcases O2.mp (I.stkSub c z)with z|z
 ·exact I.cne x c e z
 ·obtain⟨_,U,q,_⟩:=I.ok.funs.mem z;exact absurd (OJ q) (Tg.mpr (I.ok.cab x c (Z x) e))
end
section
variable {X:Cx}{x xl ql:Str}{k k0:Nat}{ps N3:List Str}{js:List Nat}{R:D->M D->List D->M D}{R':M D->List D->M D}{params:TH}{body:Expr}{scope:Scope}{lpos p pos:Pos}{es:List Expr}{ms:aO->M (List D)}{m:TM}{c P:dt}
theorem DX(d:RefX X.prog X.w X.K X.mg k (k0+1) x ps R)(hR:∀f c es,R f c es=R' c es)(hr:Room k X.A)(b1:∀x,X.fn x=b_)(e4:xl∈cO)(ht:mu X.K xl=ar (c,P))(a0:X.env.code= .ref c)(hq:X.env.qual++"<lambda>"=ql)(e8:ql=xl++".<locals>.<lambda>")
  (B:BaseL X.K X.mg X.base) (TI:vE X.K) (c0:defaultsOf params X.env=([],[])) (g:LamScope X scope N3 js) (ha:SA X cL es ms)
  (a4:∀(T:dt) (cl:List (Str×dt)) (pm C:a_),Ux (U' "<lambda>" ql params body scope cl pm (.ref T) C) ⟨[],[]⟩=aC [])
  (b5:∀(base:gg),Mod X.K X.mg base->∀(f T:dt) (cl:List (Str×dt)) (A:j_) (outer:List Env) (s:dr) (H:Hp) (Ek:XK),Room k0 (A.deeper (lB ql scope f T cl s))->SE (xr X.prog X.w X.K X.mg base N3 ql scope f T cl A outer s H Ek) (xo X.K Ek) body m)
  (hg:Gl X x:=by rfl) (c8:(x==("__debug__":Str))=false:=by decide)
  (he:d_ (.Lambda params body scope lpos::es) X.env=(c_,hY (.Lambda params body scope lpos) X.env)::d_ es X.env:=by rfl) (e7:(n_ pos (d_ es X.env)).any (·.1)=false:=by rfl):
  SE X cL (.Call (.Name x p) (.Lambda params body scope lpos::es) [] pos) (xv js ms m R'):=by
 intro pins s σ H Q I h;obtain⟨ι,S,ρ,rep,re,b⟩:=h;obtain⟨fr,fd,hm,hk,hb,F⟩:=d.ex;have b:cont X.K cL (xv js ms m R' ρ) ι S H (mB X.K Q):=b;unfold xv at b;cases hcap:zo js ρ with
 |none=>rw[hcap]at b;exact(ah b).elim
 |some ds=>
 rw[hcap]at b;dsimp only at b;obtain⟨vs,e6,b6,c9⟩:=Aq re hcap;have l:∀y∈scope.names,y.2= .free->∃a,X.env.cells.lookup y.1=ar a:=λy hy e=>I.ok.has y.1 (g.free y hy e);refine QN (lW I hg hm ?_ c8);refine W.callWith_K (h₀:=X.base) I.ok.mod.kin hk (spliced_more (JA e4 ht a0 hq e8 B TI (kf scope X.env l) c0 I rep.tab λf T C pm H1 s1 I1 a5 e0 d3 b3 E f3 hT=>?_) he) he e7;have x1:Ext ι H ι H1:=⟨⟨[],by simp⟩,λa o e n t=>⟨E a o e t,n⟩⟩;have rep1:Rep X.K ι H1 S:=⟨rep.nd,rep.len,λkk a xs e1 e2=>let ⟨ws,g1,g2⟩:=rep.get kk a xs e1 e2;⟨ws,E _ _ g1 (by intro _ z;cases z),g2.later rep x1⟩,hT⟩;have e3:L2.Inv X ((f,zl "<lambda>" ql params body scope (lg X.env.cells scope.names []) pm T C)::pins) σ H1 s1:=I1.pins_of λq Z=>by
  rcases O2.mp Z with rfl|Z
  ·exact⟨e0,d3,kC (OQ (OU I.lt a5)),I.nofs a5,λv z=>by cases z⟩
  ·exact I1.pin q (OZ _ Z)
 refine dW (ha pos _ s1 σ H1 (λN O=>∃U S2 L,Ext ι H1 U O/\Rep X.K U O S2/\RelDs X.K U O L N/\cont X.K cL (R' (m (ds.map ar)) L) U S2 O (mB X.K Q)) e3 ⟨ι,S,ρ,rep1,re.later rep x1,av (ak (gv b x1)) λL U S2 O e2 rep2 c2 N r2=>⟨U,S2,L,e2,rep2,r2,c2⟩⟩) λus s2 d0=>?_;obtain⟨N,O,a3,rv,U,S2,L,x2,rep2,r2,c2⟩:=d0;have J:L2.Inv X pins σ O s2:=a3.pins_of λq Z=>a3.pin q (OZ _ (.tail _ Z));refine⟨J.kIn,?_⟩;show eb _ _ (call (.ref fr) (.ref f::us)) _ _ _;obtain⟨po,pn,pl,pf,_⟩:=a3.pin (f,_) (OZ _ (.head _));have c6:O T=ar (.ext (sZ ql T)):=(x2.oth T _ b3 (rep1.notIn b3 (by intro _ z;cases z)) (by intro _ z;cases z)).1;have nf:f∉kY X.stack:=λz=>by
  rcases O2.mp (J.stkSub f z)with z|z
  ·exact pl z
  ·exact pf z
 have e9:=u9 (cells:=X.env.cells) scope.names [] l (λ_ z=>nomatch z);have Y:∀y a,(lg X.env.cells scope.names []).lookup y=ar a->X.env.cells.lookup y=ar a:=λy a e=>e9 _ (lookup_mem e);have cp:Caps (lC X O s2.heap) scope (lg X.env.cells scope.names []) N3 vs:=by
  refine⟨g.kind,g.nocell,g.co,g.gen,λy z a e1 e2=>I.ok.inj y z a (Y y a e1) (Y z a e2),λy e=>mem_lookup (lh scope.names [] (.inl (bJ e))),λy a e=>?_,by rw[b6];exact g.len,λi y v e1 e2=>?_⟩
  ·obtain⟨v,z⟩:=J.cell y a (Y y a e);exact⟨v,Ar J b1 (Y y a e) z⟩
  ·have d2:i<js.length:=by rw[<-b6];exact(OI.mp e2).1
   obtain⟨j,hj⟩:∃j,js[i]? =ar j:=⟨_,OH d2⟩;obtain⟨g1,g2⟩:=g.ix i y j e1 hj;have hv:=c9 i j v hj e2;have b2:=g.free (y,.free) (bJ g2) rfl;have b4:Ct X.env.scope y:=by
    rcases b2 with z|z
    ·exact .inr (.inl z)
    ·exact .inr (.inr z)
   obtain⟨mm,j7,hl⟩:=J.loc;obtain⟨u,ru,lk⟩:=hl j y v g1 hv b4;refine⟨g2,?_⟩;rcases lk with⟨z,_⟩|⟨_,a,ea,hca⟩
   ·have z':X.env.kindOf y=ar .local:=z;rcases b2 with w'|w'
    ·have w2:X.env.kindOf y=ar .cell:=w';rw[z']at w2;cases w2
    ·have w2:X.env.kindOf y=ar .free:=w';rw[z']at w2;cases w2
   ·obtain⟨a2,c1⟩:=mem_lookup (lh (cells:=X.env.cells) scope.names [] (.inl (bJ g2)));have:=Y y a2 c1;rw[ea]at this;cases this;exact⟨a,u,c1,ru,Ar J b1 ea hca⟩
 have LO:LamOk X.prog X.w X.K X.mg (lC X O s2.heap) (k0+1) f (LH X.K T ql ds vs m):=JD (mX po pn nf) cp (a4 T _ pm C) λA outer s H Ek d1=>b5 _ (jH J) f T _ A outer s H Ek d1;have G:=F (lC X O s2.heap) (jH J) f T ql ds vs m LO;have sp:DW X.K R f T ql ds vs m (.ref f::N) O Q E0:=⟨U,S2,N,L,rfl,rep2,c6,(e6.later rep x1).later rep1 x2,r2,by rw[hR];exact c2⟩;have hlen:(er f::us).length=ps.length:=by have:=G.len _ _ _ _ sp;rw[<-this,O9,O9,rv.length]
 refine Rf (Qi (G.run X.A X.stack s2 O ⟨.ref f::us,[]⟩ (.ref f::us) (.ref f::N) Q E0 hr (Gm J) (by have:=hb s2 (.ref f::us) J.kIn (by rw[Pp];exact hlen);rw[Pp]at this;exact this) (.cons rfl rv) sp) λr s' Z=>?_);cases r with
 |error e=>obtain⟨_,_,_,_,_,_,_,_,_,_,_,_,_,_,_,z⟩:=Z;exact ip z
 |ok fl=>
  cases fl with
  |ret u=>exact J.after Z
  |next=>exact ip Z
  |brk=>exact ip Z
  |cont=>exact ip Z
end
def lD(K:dV):List Addr:=cO.filterMap λy=>(mu K y).map (·.2)
def BP{K:dV}{y:Str}{c P:dt}(Z:y∈cO)(e:mu K y=ar (c,P)):P∈lD K:=Qb.mpr ⟨y,Z,by rw[e];rfl⟩
theorem xw{K:dV}{P:dt}(h:P∈lD K):∃y c,y∈cO/\mu K y=ar (c,P):=by
 obtain⟨y,Z,e⟩:=Qb.mp h;cases q:mu K y with
 |none=>rw[q]at e;cases e
 |some p=>rw[q]at e;cases e;exact⟨y,p.1,Z,q⟩
theorem Gn{K:dV}{mb:Str->Option a_}{sp:Sp}{Z:dr}{vs:List a_}
  (KX:K.In Z.heap) (nt:Vb K=b_) (p:Z.heap.Ns g_ mg) (hb:Z.heap.Ns wh mb) (n:∀x:Str,x≠"__name__"->mb x=k_ x) (E:Z.heap.NoLimit) (hg:Z.gens= #[])
  (a3:∃bm I,mg "__builtins__"=ar (.ref bm)/\bm≠wh/\Z.heap.get? bm=ar I/\I.cls= .type "module"/\I.dict=ar wh/\I.data= .plain)
  (U:∀y∈cO,∀c Q,mu K y=ar (c,Q)->Tu Z.heap c Q/\Z.heap.get? Q=ar (y2 #[]))
  (G:Z.heap.get? a=ar {cls:=.type "list",data:=.seq vs.toArray}) (hi:m_ vs ns) (hl:ns.length<=sizeLine) (hr:Room k y1)
  (F:∀base:gg,Mod K mg base->BaseL K mg base->FnOk P w K mg base (mE P w) k fa fd [x] sp) (L:∀(s:dr) (u:a_),J_ s fd ⟨[u],[]⟩ [(x,u)])
  (g:∀H:Hp,TabsOk K H->Ft K H a (ns.map V.int)->sp [.ref a] H (λv _=>v= .bl b_) λ_ _ _=>False):
  rn (fc P w) y1 (.call (.ref fa) ⟨[.ref a],[]⟩) (λr s'=>r= .ok (.ret (.bool b_))/\OldK Z.heap s'.heap/\s'.os=Z.os/\z4 s'.gens) Z:=by
 have rv:=jT hi;have X:∀Q∈lD K,Z.heap.get? Q=ar (y2 #[]):=λQ hQ=>let ⟨y,c,R,e⟩:=xw hQ;(U y R c Q e).2;have aT:a∉lD K:=λz=>by have:=X a z;rw[G]at this;cases this
 let H:Hp:=λb=>if b∈lD K then ar (.tbl #[])else if b=a/\K.lookup a=none then ar (.frz {cls:=.type "list",data:=.seq vs.toArray} (.lst (ns.map V.int)))else none;have i:∀b∈lD K,H b=ar (.tbl #[]):=λb z=>if_pos z;have J:∀b,b∉lD K->H b=if b=a/\K.lookup a=none then ar (.frz {cls:=.type "list",data:=.seq vs.toArray} (.lst (ns.map V.int)))else none:=λb z=>if_neg z;have free:∀{b:dt} {o:Obj},Z.heap.get? b=ar o->o≠y2 #[]->(o.cls≠ .type "list"\/K.lookup b=ar o)->H b=none:=λ{b o} e f T=>by
  have z:b∉lD K:=λz=>by have:=X b z;rw[e]at this;exact f (O5 this)
  rw[J b z,if_neg];rintro⟨rfl,kn⟩;rcases T with T|T
  ·rw[G]at e;cases e;exact T rfl
  ·rw[kn]at T;cases T
 have N:∀{b:dt} {o:Obj},K.lookup b=ar o->o≠y2 #[]:=λ{b o} e z=>by have l:=OT.mp nt (b,o) (W.mem_of_lookupK e);subst z;exact absurd (show c_=b_ from l) PU
 have B:gD P w H Z.heap:=λb u e=>by
  by_cases z:b∈lD K
  ·rw[i b z]at e;cases e;exact X b z
  ·rw[J b z]at e;by_cases q:b=a/\K.lookup a=none
   ·rw[if_pos q]at e;cases e;obtain⟨rfl,_⟩:=q;exact⟨G,by rw[OC];exact hl,vs,_,rv,G⟩
   ·rw[if_neg q]at e;cases e
 have Y:∀{b:dt} {o:Obj},Z.heap.get? b=ar o->o≠y2 #[]->(o.cls≠ .type "list"\/K.lookup b=ar o)->(mz Z.heap H).get? b=ar o:=λe f T=>nj e (free e f T);have O:∀{b:dt} {m:Str->Option a_},Z.heap.Ns b m->(mz Z.heap H).Ns b m:=λ{b m} ⟨o,es,ep,e,d,r⟩=>by
  have z:H b=none:=by
   by_cases zt:b∈lD K
   ·have:=X b zt;rw[e]at this;cases this;cases d
   ·rw[J b zt,if_neg];rintro⟨rfl,_⟩;rw[G]at e;cases e;cases d
  exact⟨o,es,ep,nj e z,d,r⟩
 have j:K.In (mz Z.heap H):=λb o e=>Y (KX b o e) (N e) (.inr e);have hM:Mod K mg (mz Z.heap H):=⟨j,O p,⟨mb,O hb,n⟩,let ⟨mc,h1,l⟩:=E;⟨mc,O h1,l⟩⟩;have hB:BaseL K mg (mz Z.heap H):=by
  refine⟨?_,λy R c Q e=>?_⟩
  ·obtain⟨bm,I,b1,b2,b3,t,b5,b6⟩:=a3;exact⟨bm,I,b1,b2,Y b3 (λz=>by rw[z]at t;cases t) (.inl (by rw[t];decide)),t,b5,b6⟩
  ·obtain⟨o,v2,file,tf,flags,tg,a0,text,tt,e1,A,r⟩:=(U y R c Q e).1;exact⟨o,v2,file,tf,flags,tg,a0,text,tt,Y e1 (λz=>by rw[z]at A;cases A) (.inl (by rw[A];decide)),A,r⟩
 have e0:L2.aO P w K mg (mz Z.heap H) y1 [] Z H:=⟨rfl,hM,λb o e=>uR e,Ri (oF _ _),trivial,λb hb=>absurd (show b∈([]:List dt)from hb) (by simp),B,.of_eq hg⟩;have a5:TabsOk K H:=λy R c Q e=>⟨#[],i Q (BP R e),trivial,λpos cv q=>by cases q⟩;have C:Ft K H a (ns.map V.int):=by
  cases hk:K.lookup a with
  |some o=>
   have e:=KX a o hk;rw[G]at e;cases e;exact .inr ⟨_,vs.toArray,_,hk,rfl,rfl,rfl,by rw[OL,hi.length];exact hl,by simpa using rv⟩
  |none=>exact .inl ⟨_,by rw[J a aT,if_pos ⟨rfl,hk⟩]⟩
 refine Qi ((F _ hM hB).run y1 [] Z H ⟨[.ref a],[]⟩ [.ref a] [.ref a] _ _ hr e0 (L Z (.ref a)) (.cons rfl .nil) (g H a5 C)) λr s' h=>?_;cases r with
 |error e=>obtain⟨_,_,_,_,_,_,_,_,_,_,_,_,_,_,_,z⟩:=h;exact ip z
 | ok fl=>
  cases fl with
  |next=>exact ip h
  |brk=>exact ip h
  |cont=>exact ip h
  | ret u=>
   obtain⟨v,H',os,bare,un,S,r',q⟩:=h;have q':v= .bl true:=q;subst q';obtain rfl:u=q_ true:=r';refine⟨rfl,⟨λb o e=>?_,λb o e=>un.there b o e (by simp)⟩,os,bare⟩;by_cases zt:b∈lD K
   ·obtain⟨y,c,R,et⟩:=xw zt;obtain⟨hc,hP⟩:=U y R c b et;obtain⟨more,em⟩:=un.tbls b _ (i b zt);have o2:s'.heap.get? b=ar {cls:=.none,data:=.fields (#[]++more)}:=S b _ em;rw[hP]at e;cases e;exact .inr (.inl ⟨(hc.tab hP).isCodeTable,rfl, #[],more,rfl,o2⟩)
   ·by_cases qa:b=a/\K.lookup a=none
    ·have z1:H b=ar (.frz {cls:=.type "list",data:=.seq vs.toArray} (.lst (ns.map V.int))):=by rw[J b zt,if_pos qa]
     obtain⟨e2,_⟩:=S b _ (un.frzs b _ _ z1);obtain⟨e1,_⟩:=B b _ z1;rw[e]at e1;cases e1;exact .inl e2
    ·exact .inl (un.keep b o e (by rw[J b zt,if_neg qa]) (by intro z;exact absurd (show b∈([]:List dt)from z) (by simp)) (by simp))
theorem DY{l:UP}{YP:fg->gg->Prop}{d:Ve}{K:Th->dV}{sp:fg->Sp}
  (E:l.most=ar n) (P:n<=sizeLine) (R:d.params.defaults=[]) (A:Room k y1)
  (C:∀(w:fg) (h:gg),YP w h->(K w.params).In h) (t:∀w:fg,Vb (K w.params)=b_)
  (X:∀(w:fg) (h:gg),YP w h->∀y∈cO,∀c Q,mu (K w.params) y=ar (c,Q)->Tu h c Q/\h.get? Q=ar (y2 #[]))
  (F:∀(w:fg) (Z:Str->Option a_) (S:dt) (h:gg),(K w.params).In h->h.Ns g_ Z->Z d.name=ar (.ref S)->
   ∃fd:lx,(∀(s:dr) (u:a_),J_ s fd ⟨[u],[]⟩ [(x,u)])/\
    ∀base:gg,Mod (K w.params) Z base->BaseL (K w.params) Z base->FnOk l.prog w (K w.params) Z base (mE l.prog w) k S fd [x] (sp w))
  (O:∀(w:fg) (H:Hp) (a:dt) (ns:List Int),ns.length<=n->TabsOk (K w.params) H->Ft (K w.params) H a (ns.map V.int)->sp w [.ref a] H (λv _=>v= .bl b_) λ_ _ _=>False):
  Vm q loose XP YP l.row.toRowW d [] (λf vs=>PySem.call f vs):=by
 refine Att.attach_call E R λw s₀ L Z i S o pm cd doc a vs ns G Y ho hd z N U hints hlen r=>?_;have J:=C w _ Y;obtain⟨fd,j,I⟩:=F w Z S _ J G.T.g N;refine Gn J (t w) G.T.g G.T.b G.T.builtins G.T.nolimit r G.T.bmain (λy B c Q e=>X w _ Y y B c Q e) U hints (OR hlen P) A I j λH m p=>O w H a ns hlen m p
def LL(K:dV)(ts:List dt):Bool:=cO.all λy=>match mu K y with
 |some (c,Q)=>W.codeHdIn K c Q && ts.contains Q
 |none=>b_
theorem NC{K:Th->dV}{e:∀P,as=(K P).map (·.1)}{w:fg}(Z:LL (K w.params) ts=b_)(Y:(W.kmHook K as e ts).says w h):
  ∀y∈cO,∀c Q,mu (K w.params) y=ar (c,Q)->Tu h c Q/\h.get? Q=ar (y2 #[]):=λy U c Q X=>by
 have:=OT.mp Z y U;rw[X]at this;simp only[hO]at this;exact⟨W.codeHd_of_K (W.km_in_of Y) this.1,W.km_tabs_of Y Q (List.contains_iff_mem.mp this.2)⟩
def HI(K:dV):Bool:=cO.all λx=>cO.all λy=>match mu K x,mu K y with
 |some (_,P),ar (_,Q)=>P !=Q||x==y
 |_,_=>b_
def JF{K:dV}(h:HI K=b_):vE K:=λx Z y Y c d P e1 e2=>by have:=OT.mp (OT.mp h x Z) y Y;rw[e1,e2]at this;simpa using this
def lE(N n:Nat)(m:dq):List D->M D:=tm N n (λρ=>qj (m ρ))
section
variable {P:ey}{w:fg}{K:dV}{mg:Str->Option a_}{base:gg}
theorem bM{x qual:Str}{X:pa}{f:dt}{T:lx}{N U:List Str}{k:Nat}{m:dq}{S:List D->M D}(F:Fun K x qual X f T)(J:mg x=ar (.ref f))(I:Binds K T U [])(Q:FnScope N U (aw X))(R:S=lE N.length U.length m)
  (Y:∀(Z:a_) (A:j_) (outer:List Env) (s:dr) (H:Hp) (E:XK),Room k (A.deeper (D_ qual (aw X) s.heap.objs.size f Z))->
   wO (kP (mE P w) P w K mg base N qual (aw X) f Z A outer s H E).nox cL (dw X) m):DefX P w K mg base (k+1) x U S:=
 ⟨f,T,by rw[R];exact JB F Q λZ A outer s H O L _ _=>xp (vF (Y Z A outer s H O L)),J,F.kp,I⟩
theorem qH{x qual:Str}{X:pa}{f:dt}{T:lx}{N U:List Str}{k:Nat}{m:dq}{S:List D->M D}(F:Fun K x qual X f T)(J:mg x=ar (.ref f))(I:Binds K T U [])(Q:FnScope N U (aw X))(R:S=tm N.length U.length m)
  (Y:∀(Z:a_) (A:j_) (outer:List Env) (s:dr) (H:Hp) (E:XK),Room k (A.deeper (D_ qual (aw X) s.heap.objs.size f Z))->
   wO (kP (mE P w) P w K mg base N qual (aw X) f Z A outer s H E) (xo K E) (dw X) m):DefX P w K mg base (k+1) x U S:=
 ⟨f,T,by rw[R];exact JB F Q λZ A outer s H O L _ _=>Y Z A outer s H O L,J,F.kp,I⟩
theorem Gp{x y qual:Str}{f c Q:dt}{N:a_}{od:Option dt}{X:Array (Option a_)}{kV U O Y ct S:a_}{T:Option dt}{J:TH}{bd:List pa}{L:Scope}(I:p7 K g_ x=ar (ar (.ref f)))
  (R:K.lookup f=ar ⟨N,od,.func (y9 y qual J bd L S kV U O T Y ct),X⟩) (Z:mu K x=ar (c,Q)):Y= .ref c:=by
 unfold mu at Z;rw[I]at Z;dsimp only at Z;rw[R]at Z;dsimp only at Z;cases Y with
 | ref c2=>
  dsimp only at Z;split at Z
  ·split at Z
   ·cases Z;rfl
   ·cases Z
  ·cases Z
 |_=>cases Z
theorem JG{x qual:Str}{Y:pa}{f:dt}{R:lx}{N X:List Str}{k:Nat}{m:dq}{S:List D->M D}{c J:dt}(F:Fun K x qual Y f R)(L:FnScope N X (aw Y))(Q:S=lE N.length X.length m)(B:p7 K g_ x=ar (ar (.ref f)))(y:mu K x=ar (c,J))
  (Z:∀(A:j_) (outer:List Env) (s:dr) (H:Hp) (E:XK),Room k (A.deeper (D_ qual (aw Y) s.heap.objs.size f (.ref c)))->
   wO (kP (mE P w) P w K mg base N qual (aw Y) f (.ref c) A outer s H E).nox cL (dw Y) m):FnOk P w K mg base (mE P w) (k+1) f R X (DQ K S):=by
 rw[Q];refine JB F L λU A outer s H C z _ T=>?_;obtain⟨v,od,I,kV,doc,pm,an,ct,O⟩:=T;have G:U= .ref c:=Gp B O y;subst G;exact xp (vF (Z A outer s H C z))
theorem JH{x qual:Str}{T:pa}{f:dt}{I:lx}{N Z:List Str}{k k0:Nat}{m:D->M D->dq}{R:D->M D->List D->M D}(F:Fun K x qual T f I)(v:mg x=ar (.ref f))(l:Binds K I Z [])(t:FnScope N Z (aw T))(n:R=λfv c es=>tm N.length Z.length (m fv c) (fv::es))
  (U:∀(base:gg),Mod K mg base->∀(a X:dt) (ql:Str) (ds:List D) (vs:List V) (mm:TM),LamOk P w K mg base k0 a (LH K X ql ds vs mm)->∀(Y:a_) (A:j_) (outer:List Env) (s:dr) (H:Hp) (E:XK),Room k (A.deeper (D_ qual (aw T) s.heap.objs.size f Y))->
   wO (kP (mE P w) P w K mg base N qual (aw T) f Y A outer s H E).nox cL (dw T) (m (.fn a X ql ds vs) (mm (ds.map ar)))):RefX P w K mg (k+1) k0 x Z R:=by
 refine⟨f,I,v,F.kp,l,λbase G a X ql ds vs mm L=>?_⟩;rw[n];obtain⟨j,od,kV,doc,pm,an,Y,ct,p,rfl,u,C⟩:=F.ex;have key:∀{us:List V} {H:Hp} {Q:VK} {O:XK},DW K (λfv c es=>tm N.length Z.length (m fv c) (fv::es)) a X ql ds vs mm us H Q O->us.length=Z.length/\∃ ι S es,Rep K ι H S/\RelDs K ι H es us/\cont K cL (do let o<-m (.fn a X ql ds vs) (mm (ds.map ar)) (es.map ar++f' (N.length - Z.length) none);outD o) ι S H (mB K Q):=by
  rintro us H Q O ⟨ι,S,rest,es,rfl,rep,hc',rds,res,c⟩;have B:RelDs K ι H (.fn a X ql ds vs::es) (.ref a::rest):=.cons (.fn hc' rds) res;unfold tm at c;dsimp only at c;by_cases J:(D.fn a X ql ds vs::es).length=Z.length
  ·rw[if_pos J]at c;exact⟨by rw[<-B.length];exact J,ι,S,_,rep,B,c⟩
  ·rw[if_neg J]at c;exact(ah c).elim
 refine CK u C t (λus H Q O h=>(key h).1) λA outer s H us Q O y h=>⟨_,vF (U base G a X ql ds vs mm L Y A outer s H O y),?_⟩;obtain⟨J,ι,S,es,rep,r,c⟩:=key h;refine⟨ι,S,_,rep,?_,av (ak c) λo z S1 i e1 rep1 c1=>?_⟩
 ·have:=RelE.start r (N.length - Z.length);unfold L2.start;rw[J];exact this
 ·cases o with
  |nx ρ=>exact λq _=>ao c1 .refl rep1 _ .non
  |ret d=>exact ao c1 .refl rep1
  |bk ρ=>exact(ah c1).elim
  |ct ρ=>exact(ah c1).elim
end
end S7
section
namespace S4
open PySem PySem.Spec PyProof.Rows
section
variable {prog:ey}{w:fg}{A:j_}{E:a_->dr->Prop}{s:dr}
theorem vG{h:gg}(e:h.get? a=ar (bL (dP w))):h.SetOf (l_ prog w) a (λk=>(H_ val 0).any (· ==k)) (H_ val 0).length:=
 ⟨_, #[],0,.fresh 0 0 (dP w),e,⟨rfl,rfl,rfl⟩,rfl,(λx Z=>by cases Z),(λk=>⟨(λz=>by cases z),λ⟨x,Z,_⟩=>by cases Z⟩),(by decide),rfl,rfl⟩
set_option maxHeartbeats 8000000 in
theorem Gq(f:A.handled=none)(r:Src s.heap x items)(Z:Nat->Int)(X:∀(i:Nat) (v:a_),items[i]? =ar v->∃t,v= .int (Z i) t)(q:items.size<=18)
  (h:∀(h':gg) (tk:Nat),h'.SetOf (l_ prog w) s.heap.objs.size (λk=>(H_ Z items.size).any (· ==k)) (H_ Z items.size).length->(∀b o,b<s.heap.objs.size->s.heap.get? b=ar o->h'.get? b=ar o)->
   Q (.ref s.heap.objs.size) {s with heap:=h',toks:=tk}):eb (fc prog w) A (call (.type "set") [.ref x]) Q E s:=by
 obtain⟨c,tl,y⟩:=F.called_set.mro;have L:=F.called_set.made;have z:=F.called_set.sub;refine Rf (Ru ?_);show eb _ _ (Vp (.type "set") _) _ _ _;refine OE ⟨Rv _ (by decide+kernel),Qz F.entry_type_call ?_⟩;rw[Around.under_plain (weight_type_call_type "set" [.ref x] []) rfl];have h1:=F.called_set.notType;have h2:=F.called_set.canCreate;have a0:=F.typeCall_set_1 (.ref x)
 repeat (any_goals (first|assumption|wp_step))
 refine Qi (LC (.ref x) (E:=E) (Q1:=λobj s1=>obj= .ref s.heap.objs.size/\s1={s with heap:=s.heap.push (bL (dP w))}) ⟨rfl,rfl⟩) λd s1 O=>?_;cases d with
 |error e=>exact O
 | ok fl=>
  cases fl with
  | ret obj=>
   obtain⟨rfl,rfl⟩:=O;have B:(s.heap.push (bL (dP w))).get? s.heap.objs.size=ar (bL (dP w)):=OK _ rfl;have C:M_ {s with heap:=s.heap.push (bL (dP w))} (.ref s.heap.objs.size) "set":=⟨_,B,rfl⟩;have m:=F.called_set.init.lookup;have l:=F.called_set.init.bind (.ref s.heap.objs.size)
   repeat (any_goals (first|assumption|wp_step))
   refine Qi (Q4 (R:=wants (λr s2=>r= .none/\Q (.ref s.heap.objs.size) s2) E) F.called_set.init.plain F.entry_set_init (check_set_init_1 C ?_)) λn s2 Y=>?_
   ·have H:Src (s.heap.push (bL (dP w))) x items:=r.at λo e=>OD _ e;obtain⟨Tx,a5,a3,a,hd⟩:=xi (s:={s with heap:=s.heap.push (bL (dP w))}) H;unfold Builtin.«set.__init__» noKeywords Builtin.Frozenset.updateFrom;generalize hPI:Sw=PI;have p:=C;unfold bL at B
    wp_walk
    subst hPI;refine xh (s:={s with heap:=s.heap.push (bL (dP w))}) H λG St W N=>?_;refine OB (Ta ?_);have K:x<s.heap.objs.size:=r.lt;have U:(s.heap.push (bL (dP w))).objs.size=s.heap.objs.size+1:=PP _ _;have P:s.heap.objs.size∉[(s.heap.push (bL (dP w))).objs.size,x]:=by rw[U];simp only[gc,f_,or_false,not_or];exact⟨OQ (QG _),Qh K⟩
    have T:A.in1.in1.in1.handled=none:=by simp[f]
    have up:∀b o,s.heap.get? b=ar o->((s.heap.push (bL (dP w))).push G).get? b=ar o:=λb o e=>OD _ (OD _ e);have S0:((s.heap.push (bL (dP w))).push G).SetOf (l_ prog w) s.heap.objs.size (λk=>(H_ Z 0).any (· ==k)) (H_ Z 0).length:=vG (OD _ (OK _ rfl));refine codeAny_set_update_loopS ((W _ T).toS) s.heap.objs.size P Z X (Rq (Q8 q) (by decide)) (items.size - 0) 0 _ rfl (OX _) N S0 λs' hm J=>?_
    ·obtain⟨h',g',d',I,S⟩:=s';have eg:g'=s.gens:=hm.gens;have g:d'=s.drawn:=hm.drawn;have j:S=s.os:=hm.os;subst eg g j;show eb _ _ _ _ _ _;refine OE ?_;show eb _ _ (ret h_) _ _ _;refine OE ⟨rfl,h h' I J λb o u e=>?_⟩;refine hm.heap b o ?_ (up b o e);rw[U];simp only[gc,f_,or_false,not_or];exact⟨OQ u,OQ (PR u)⟩
   ·cases n with
    |error e=>exact Y
    | ok fl2=>
     cases fl2 with
     |ret rv=>
      obtain⟨rfl,hq⟩:=Y
      repeat (any_goals (first|assumption|wp_step))
     |_=>exact Y.elim
  |_=>exact O.elim
end
end S4
namespace S3
open PySem PySem.Spec PyProof.Rows L2 S4
section
variable {X:Cx}{E:XD}{e:Expr}{m:TM}{pos:Pos}
def distinct(ns:List Int):List Int:=H_ (λi=>ns.getD i 0) ns.length
theorem BQ(J:X.calm=b_):dm X (.type "set") (λxs H Q=>∃(p:dt) (ns:List Int),xs=[.ref p]/\(kN X.K H p (ns.map V.int)\/k9 X.K H p (ns.map V.int))/\ns.length<=18/\
  ∀l,H l=none->Q (.ref l) (upd H l (.set (λk=>(distinct ns).any (· ==k)) (distinct ns).length))):=by
 intro pins s σ H xs us Q I r h;obtain⟨p,ns,rfl,W,G,q⟩:=h;obtain⟨u,rfl,P⟩:=vals1 r;cases (show u=er p from P);have src:∃its,bx (ns.map V.int) its/\Src s.heap p its.toArray:=by
  rcases W with W|W
  ·obtain⟨its,Z,U,O⟩:=I.list W;exact⟨its,Z,.inl U.isList⟩
  ·obtain⟨its,Z,U,O⟩:=I.tuple W;exact⟨its,Z,.inr U⟩
 obtain⟨its,Z,hs⟩:=src;have R:=RF Z;have Y:=Z.length;rw[OC]at Y;have T:its.toArray.size=ns.length:=by rw[OL,Y]
 refine Gq (I.ok.hd J) hs (λi=>ns.getD i 0) (λi v L=>R.int_at i v (by simpa using L)) (by omega) λh' F S N=>?_;rw[T]at S;have hf:H s.heap.objs.size=none:=I.hok.fresh (OF _);exact⟨.ref s.heap.objs.size,_,I.laid (o:=.set (λk=>(distinct ns).any (· ==k)) (distinct ns).length) (λb o e=>N b o (OJ e) e) (OF _) S,rfl,q _ hf⟩
theorem tH:dm X (.builtin "len") (λxs H Q=>∃p S n,xs=[.ref p]/\H p=ar (.set S n)/\Q (.int n) H):=by
 intro pins s σ H xs us Q I r h;obtain⟨p,S,n,rfl,W,q⟩:=h;obtain⟨u,rfl,T⟩:=vals1 r;cases (show u=er p from T);obtain⟨o,es,ep,t,U,hex,hd,_,_,R,Z,Y⟩:=(show s.heap.SetOf (l_ X.prog X.w) p S n from I.hok p _ W);have:(es.size:Int)<2 ^ 63:=by
  have:scanBound<=2 ^ 62:=by decide
  omega
 exact call_len_set U hex hd Z this ⟨.int n,H,I.tok _,⟨_,by rw[Y]⟩,q⟩
def fU:List D->M D
 |[.tup ds]=>match intsOf ds with
  |some ns=>if ns.length<=18 then aC (.int (distinct ns).length)else M.fail
  |none=>M.fail
 |_=>M.fail
theorem uA(N:X.calm=b_)(J:X.mg "len"=none)(U:X.mg "set"=none)(R:SE X E e m)(P:Gl X "len":=by rfl)(W:Gl X "set":=by rfl)(hs:d_ [e] X.env=[(c_,hY e X.env)]:=by rfl)
  (Y:d_ [.Call (.Name "set" q) [e] [] pos2] X.env=[(c_,hY (.Call (.Name "set" q) [e] [] pos2) X.env)]:=by rfl):
  SE X E (.Call (.Name "len" p) [.Call (.Name "set" q) [e] [] pos2] [] pos) (cg fU m):=by
 refine PE.imp (jQ tH P J (by decide+kernel) (eP (jR (BQ N) W U (by decide+kernel) (eP R ke hs) (by decide) (by decide) hs rfl) ke Y) (by decide) (by decide) Y rfl) λσ H Q h=>?_;obtain⟨ι,S,ρ,rep,re,c⟩:=h;have c:cont X.K E (do let ds<-(do let x<-m ρ;let xs<-aC [];aC (x::xs));fU ds) ι S H (mB X.K Q):=c;simp only[du,aj]at c;refine⟨ι,S,ρ,rep,re,av (ak c) λx O S1 I e1 rep1 c1 v r=>?_⟩;cases x with
 | tup ds=>
  obtain⟨a,vs,rfl,T,L⟩:=r.tup_inv;dsimp only[fU]at c1;cases z:intsOf ds with
  |none=>rw[z]at c1;exact(ah c1).elim
  | some ns=>
   rw[z]at c1;dsimp only at c1;by_cases hl:ns.length<=18
   ·rw[if_pos hl]at c1;refine⟨a,ns,rfl,.inr ?_,hl,λl Z=>⟨l,_,_,rfl,aX,?_⟩⟩
    ·rw[<-fE L z];exact k9.of T
    ·exact ao c1 (fx Z) (gF rep1 Z) _ (.int _)
   ·rw[if_neg hl]at c1;exact(ah c1).elim
 |_=>exact(ah c1).elim
end
end S3
end
namespace S4
open PySem PySem.Spec PyProof.Rows L2 S3
def Gr(l1 l2:dt):It:=⟨λi H=>∃va vb,Rd H l1 (.lst va)/\Rd H l2 (.lst vb)/\i<va.length/\i<vb.length,
 λi H x H'=>∃va vb p u v,Rd H l1 (.lst va)/\Rd H l2 (.lst vb)/\H p=none/\va[i]? =ar u/\vb[i]? =ar v/\x= .ref p/\H'=upd H p (.tup [u,v]),λi H=>∃va vb,Rd H l1 (.lst va)/\Rd H l2 (.lst vb)/\(va.length<=i\/vb.length<=i)⟩
theorem BR{P:ey}{w:fg}{K:dV}{B:List Expr}{x1}{tp:Pos}{z TI TO Q L d l2:dt}(D:UK z TI TO Q L d l2):
  Turn P w K (.Tuple B x1 tp) (Gr d l2) [z,TI,TO,Q,L] z
   (λi h=>Si h z TI TO .none/\p_ h TI (.ref Q) (.ref L)/\(∃a b,p_ h TO a b)/\h.IsListIter Q d i/\h.IsListIter L l2 i) where
 mem:=by simp
 obj:=λi h st b Y=>by
  obtain⟨S,Z,⟨a,c,U⟩,⟨o1,e1,c1,d1⟩,⟨o2,e2,c2,d2⟩⟩:=st;simp only[gc,f_,or_false]at Y;rcases Y with rfl|rfl|rfl|rfl|rfl
  ·exact⟨_,S,λv z=>by cases z⟩
  ·exact⟨_,Z,λv z=>by cases z⟩
  ·exact⟨_,U,λv z=>by cases z⟩
  ·exact⟨_,e1,λv z=>by rw[d1]at z;cases z⟩
  ·exact⟨_,e2,λv z=>by rw[d2]at z;cases z⟩
 keep:=λi h h' st k=>by obtain⟨S,Z,⟨a,c,U⟩,J,G⟩:=st;exact⟨k z (by simp) _ S,k TI (by simp) _ Z,⟨a,c,k TO (by simp) _ U⟩,J.at λo e=>k Q (by simp) o e,G.at λo e=>k L (by simp) o e⟩
 item:=by
  intro X hP hw hK hc i pins s σ H E I hf st f;subst hP hw hK;obtain⟨S,Z,⟨a,c,U⟩,J,G⟩:=st;obtain⟨r,q,t,p,ga,gb⟩:=f;obtain⟨C,O,l,_⟩:=I.list (.inl t);obtain⟨A,N,p2,_⟩:=I.list (.inl p);obtain⟨j,m,c3⟩:=O.get (OH ga);obtain⟨u2,b2,b1⟩:=N.get (OH gb);refine wpAny_pyNext_zip_item D S Z U J G l.isList p2.isList (x:=j) (y:=u2) (by simpa using m) (by simpa using b2) λh' a1 a2 a3 a4 a5 a6 n=>?_;have b3:H s.heap.objs.size=none:=I.hok.fresh (OF _);have lt:∀{c o},s.heap.get? c=ar o->s.heap.objs.size≠c:=λe=>Qh (OJ e);refine⟨_,rfl,Sd a1 λR c0 T=>?_⟩;have u:p_ R TI (.ref Q) (.ref L):=T.extBut _ _ D.TIz (n _ _ D.TIz D.TITO D.TIi1 D.TIi2 Z);have kk:∀b o,b∉[z,TI,TO,Q,L]->s.heap.get? b=ar o->R.get? b=ar o:=λb o Y e=>by simp only[gc,f_,or_false,not_or]at Y;exact T.extBut _ _ Y.1 (n b o Y.1 Y.2.2.1 Y.2.2.2.1 Y.2.2.2.2 e)
  have F:p_ R s.heap.objs.size j u2:=T.extBut _ _ (lt S) a5;have I2:L2.Inv X pins σ (upd H s.heap.objs.size (.tup [r[i],q[i]])) {s with heap:=R,toks:=s.toks}:=Am (o:=.tup [r[i],q[i]]) I hf kk (OF _) ⟨⟨by show 2<=sizeLine;decide,_,F,rfl⟩,[j,u2],.cons c3 (.cons b1 .nil),_,F,rfl,_,rfl⟩;refine⟨.ref s.heap.objs.size,_,I2,rfl,
   ⟨r,q,_,_,_,t,p,b3,OH ga,OH gb,rfl,rfl⟩,⟨c0,u,⟨_,_,T.extBut _ _ D.TOz a2⟩,a3.at λo e=>T.extBut _ _ D.i1z e,a4.at λo e=>T.extBut _ _ D.i2z e⟩,λb Y=>?_⟩
  obtain⟨ob,ho,_⟩:∃ob,s.heap.get? b=ar ob/\True:=by
   simp only[gc,f_,or_false]at Y;rcases Y with rfl|rfl|rfl|rfl|rfl
   ·exact⟨_,S,trivial⟩
   ·exact⟨_,Z,trivial⟩
   ·exact⟨_,U,trivial⟩
   ·obtain⟨o,e,_⟩:=J;exact⟨_,e,trivial⟩
   ·obtain⟨o,e,_⟩:=G;exact⟨_,e,trivial⟩
  rw[aI (OQ (OJ ho))];exact(hf b Y).1
 done:=by intro X hP hw hK hc i pins s σ H E I hf st f;subst hP hw hK;obtain⟨S,Z,⟨a,c,U⟩,J,G⟩:=st;obtain⟨r,q,t,p,gs⟩:=f;obtain⟨C,O,l,_⟩:=I.list (.inl t);obtain⟨A,N,p2,_⟩:=I.list (.inl p);have e3:=O.length;have e0:=N.length;refine wpAny_pyNext_zip_end (I.ok.hd hc) D S Z U J G l.isList p2.isList (gs.imp (λg=>by simp;omega) λg=>by simp;omega) λh' n=>⟨rfl,Al (t':=s.toks) I hf λb o Y e=>?_⟩;simp only[gc,f_,or_false,not_or]at Y;exact n b o Y.1 Y.2.2.1 Y.2.2.2.1 Y.2.2.2.2 e
 self:=λ_ _ _ _ _ st h=>RM st.1 h
theorem Gs{X:Cx}{K:List Expr}{x1}{tp p pos:Pos}{es:List Expr}{e:Expr}{z:TA}(v:Gl X "zip")(x:X.mg "zip"=none)(w:PA X (e::es) z)
  (y:d_ (e::es) X.env=(c_,hY e X.env)::d_ es X.env:=by rfl) (C:(n_ pos (d_ es X.env)).any (·.1)=false:=by rfl):
  PI X (.Tuple K x1 tp) (.Call (.Name "zip" p) (e::es) [] pos) (λσ H R=>z σ H λxs Z=>(∃a b va vb,xs=[.ref a,.ref b]/\Rd Z a (.lst va)/\Rd Z b (.lst vb)/\R (Gr a b) Z)\/
   (∃a b va vb,xs=[.ref a,.ref b]/\Z a=ar (.tup va)/\Z b=ar (.tup vb)/\
   R ⟨λi H=>(Cv va vb).go i H/\(H a=ar (.tup va)/\H b=ar (.tup vb)),(Cv va vb).yld,λi H=>(Cv va vb).stop i H/\(H a=ar (.tup va)/\H b=ar (.tup vb))⟩ Z)):=by
 intro pins s σ H R I h;refine Call_ (oG I v x (show k_ "zip"=ar (.type "zip") by decide+kernel) (Ql (dW (w pos pins s σ H _ I h) λus s1 ⟨vs,Z,I1,r1,q1⟩=>?_) y C) (by decide) (by decide));have fresh:∀c∈[s1.heap.objs.size+4,s1.heap.objs.size+2,s1.heap.objs.size+3,s1.heap.objs.size,s1.heap.objs.size+1],s1.heap.objs.size<=c:=λc T=>by simp only[gc,f_,or_false]at T;omega
 rcases q1 with⟨a,b,va,vb,rfl,hA,hB,q⟩|⟨a,b,va,vb,rfl,hA,hB,q⟩
 ·obtain⟨u,G,rfl,E,W⟩:=vals2 r1;cases (show u=er a from E);cases (show G=er b from W);obtain⟨O,B,L,_⟩:=I1.list (.inl hA);obtain⟨J,A,P,_⟩:=I1.list (.inl hB);have a1:a<s1.heap.objs.size:=by obtain⟨_,e,_⟩:=L.isList;exact OJ e
  have a2:b<s1.heap.objs.size:=by obtain⟨_,e,_⟩:=P.isList;exact OJ e
  refine call_zip_2 L.isList P.isList λh' N U S Y Q _ F=>RM N ?_;exact⟨s1.heap.objs.size+4,_,_,_,Z,rfl,I1.kept (t':=s1.toks) F,BR (zipApart_new a1 a2),⟨N,U,⟨_,_,S⟩,Y,Q⟩,λc T=>I1.fpOk (fresh c T) (I1.hok.fresh (fresh c T)),q⟩
 ·obtain⟨u,G,rfl,E,W⟩:=vals2 r1;cases (show u=er a from E);cases (show G=er b from W);obtain⟨O,B,L,_⟩:=I1.tuple (.of hA);obtain⟨J,A,P,_⟩:=I1.tuple (.of hB);have a1:a<s1.heap.objs.size:=by obtain⟨_,e,_⟩:=L;exact OJ e
  have a2:b<s1.heap.objs.size:=by obtain⟨_,e,_⟩:=P;exact OJ e
  refine BG L P λh' N U S Y Q F=>RM N ?_;exact⟨s1.heap.objs.size+4,_,_,_,Z,rfl,I1.kept (t':=s1.toks) F,DI (zipApart_new a1 a2) (λH=>H a=ar (.tup va)/\H b=ar (.tup vb)) (λ_=>.rfl),⟨N,U,⟨_,_,S⟩,Y,Q⟩,λc T=>I1.fpOk (fresh c T) (I1.hok.fresh (fresh c T)),q⟩
def Rd.lst_inj(h:Rd H a (.lst xs))(h':Rd H a (.lst ys)):xs=ys:=by rcases h with h|⟨o,h⟩<;>rcases h' with h'|⟨o',h'⟩<;>(rw[h]at h';cases h'<;>rfl)
def zL:D->M (List D×Option (Nat×List D))
 | .lst k=>do let xs<-getL k;aC (xs,ar (k,xs))
 | .fz xs=>aC (xs,none)
 |_=>M.fail
def JI:Option (Nat×List D)->Option (Nat×List D)->Chk
 |some (k,xs),ar (j,ys)=>.two k j xs ys
 |some (k,xs),none=>.two k k xs xs
 |none,ar (j,ys)=>.two j j ys ys
 |none,none=>.none
def DZ:List D->M Iter
 |[.tup xs,.tup ys]=>aC ⟨(xs.zip ys).map λp=>.tup [p.1,p.2],.none⟩
 |[a,b]=>do let x<-zL a;let y<-zL b;aC ⟨(x.1.zip y.1).map λp=>.tup [p.1,p.2],JI x.2 y.2⟩
 |_=>M.fail
structure ZOk(K:dV)(x:List D×Option (Nat×List D))(a:dt)(ι:List dt)(H:Hp):Prop where
 ok:∀ ι2 H2 S2,ExtN ι H ι2 H2->Rep K ι2 H2 S2->(∀k xs,x.2=ar (k,xs)->S2[k]? =ar xs)->∃va,Rd H2 a (.lst va)/\RelDs K ι2 H2 x.1 va
theorem D0{K:dV}{E:XD}{ι:List dt}{S:aE}{H:Hp}{d:D}{v:V}{α:Type}{f:List D×Option (Nat×List D)->M α}{Q:α->List dt->aE->Hp->Prop}(Z:Rep K ι H S)(r:RelD K ι H d v)(c:cont K E (zL d>>=f) ι S H Q):
  ∃a x U,v= .ref a/\Rd H a (.lst U)/\ZOk K x a ι H/\cont K E (f x) ι S H Q:=by
 cases d with
 | lst k=>
  obtain⟨a,rfl,Y⟩:=r.lst_inv;have L:cont K E (getL k>>=λxs=>aC (xs,ar (k,xs))>>=f) ι S H Q:=by rw[<-du];exact c
  obtain⟨xs,vs,I,N,R,T⟩:=bz L Z Y;rw[aj]at T;refine⟨a,(xs,ar (k,xs)),vs,rfl,.inl N,⟨λX J S2 e rep2 ok=>?_⟩,T⟩;obtain⟨U,O,P⟩:=rep2.get k a xs (e.at Y) (ok k xs rfl);exact⟨U,.inl O,P⟩
 |fz xs=>
  obtain⟨a,o,vs,rfl,Y,R⟩:=r.fz_inv;refine⟨a,(xs,none),vs,rfl,.inr ⟨o,Y⟩,⟨λX J S2 e rep2 ok=>?_⟩,ao (ak c) .refl Z⟩;exact⟨vs,.inr ⟨o,(e.oth _ _ Y (Z.notIn Y (by intro _ z;cases z)) (by intro _ z;cases z) (by intro _ z;cases z)).1⟩,R.laterN Z e⟩
 |_=>exact(ah (ak c)).elim
theorem Gu(h:Iter.okS ⟨items,JI x y⟩ S):(∀k xs,x=ar (k,xs)->S[k]? =ar xs)/\∀k xs,y=ar (k,xs)->S[k]? =ar xs:=by
 match x,y,h with
 |some (k,xs),ar (j,ys),h=>exact⟨λ_ _ e=>(by cases e;exact h.1),λ_ _ e=>(by cases e;exact h.2)⟩
 |some (k,xs),none,h=>exact⟨λ_ _ e=>(by cases e;exact h.1),λ_ _ e=>(by cases e)⟩
 |none,ar (j,ys),h=>exact⟨λ_ _ e=>(by cases e),λ_ _ e=>(by cases e;exact h.1)⟩
 |none,none,h=>exact⟨λ_ _ e=>(by cases e),λ_ _ e=>(by cases e)⟩
theorem xx{K:dV}{ι:List dt}{H:Hp}{a b:dt}{x y:List D×Option (Nat×List D)}(C:ZOk K x a ι H)(F:ZOk K y b ι H):
  km K ⟨(x.1.zip y.1).map λp=>.tup [p.1,p.2],JI x.2 y.2⟩ (Gr a b) ι H:=by
 intro Z S S2 e rep2 ok i;obtain⟨P,R⟩:=Gu ok;obtain⟨L,X,U⟩:=C.ok Z S S2 e rep2 P;obtain⟨J,Y,T⟩:=F.ok Z S S2 e rep2 R;have r:=U.length;have B:=T.length;refine⟨λd hd=>?_,λhlen=>?_⟩
 ·obtain⟨A,s,O,N,rfl⟩:=zip_get hd;have t:=(OI.mp O).1;have w:=(OI.mp N).1;refine⟨⟨L,J,X,Y,by omega,by omega⟩,?_⟩;rintro v H3 ⟨va',vb',p,u,E,gA,gB,hp,g1,g2,rfl,rfl⟩;cases Rd.lst_inj X gA;cases Rd.lst_inj Y gB;obtain⟨v1,e1,I⟩:=U.get' O;obtain⟨v2,e2,G⟩:=T.get' N;obtain rfl:v1=u:=O5 (e1.symm.trans g1);obtain rfl:v2=E:=O5 (e2.symm.trans g2);have Q:Ext Z S Z (upd S p (.tup [v1,v2])):=fx hp;exact⟨Q,gF rep2 hp,.tup aX (.cons (I.later rep2 Q) (.cons (G.later rep2 Q) .nil))⟩
 ·have q:min x.1.length y.1.length<=i:=by simpa using hlen
  refine⟨L,J,X,Y,?_⟩;rcases Nat.le_total x.1.length y.1.length with z|z
  ·exact .inl (by omega)
  ·exact .inr (by omega)
theorem As{X:Cx}{x1}(v:X.mg "zip"=none)(t:SE X E a m)(k:SE X E b n)(q:Gl X "zip":=by rfl)
  (hs:d_ [a,b] X.env=[(c_,hY a X.env),(c_,hY b X.env)]:=by rfl) (W:d_ [b] X.env=[(c_,hY b X.env)]:=by rfl):
  SI X E (.Tuple elts x1 tp) (.Call (.Name "zip" p) [a,b] [] pos) (λρ=>do let ds<-(do let x<-m ρ;let xs<-(do let y<-n ρ;let ys<-aC [];aC (y::ys));aC (x::xs));DZ ds):=by
 intro pins s σ H R I h;have J:PI X (.Tuple elts x1 tp) (.Call (.Name "zip" p) [a,b] [] pos) (λσ H R=>Nr X.K E (af m (af n au)) σ H λxs U=>(∃a b Z Y,xs=[.ref a,.ref b]/\Rd U a (.lst Z)/\Rd U b (.lst Y)/\R (Gr a b) U)\/
   (∃a b Z Y,xs=[.ref a,.ref b]/\U a=ar (.tup Z)/\U b=ar (.tup Y)/\
   R ⟨λi H=>(Cv Z Y).go i H/\(H a=ar (.tup Z)/\H b=ar (.tup Y)),(Cv Z Y).yld,λi H=>(Cv Z Y).stop i H/\(H a=ar (.tup Z)/\H b=ar (.tup Y))⟩ U)):=
  Gs q v (ae t (ae k ag (by rw[W];rfl)) (by rw[hs,W])) (by rw[hs,W]) (by rw[W];rfl)
 refine J pins s σ H R I ?_;obtain⟨ι,S,ρ,rep,re,c⟩:=h;refine⟨ι,S,ρ,rep,re,av (ak c) λds B S1 U e1 rep1 c1 vs r=>?_⟩;unfold DZ at c1;split at c1
 ·next xs ys=>
  obtain⟨v1,ws,rfl,P,O⟩:=r.cons_inv;obtain⟨v2,G,rfl,C,L⟩:=O.cons_inv;cases L.nil_inv;obtain⟨F,Z,rfl,Q,u⟩:=P.tup_inv;obtain⟨N,Y,rfl,T,z⟩:=C.tup_inv;exact .inr ⟨F,N,Z,Y,rfl,Q,T,ao c1 .refl rep1 _ (zb rep1 Q T u z)⟩
 ·next a b _=>
  obtain⟨v1,ws,rfl,P,O⟩:=r.cons_inv;obtain⟨v2,G,rfl,C,L⟩:=O.cons_inv;cases L.nil_inv;obtain⟨F,x,Z,rfl,Q,l,A⟩:=D0 rep1 P c1;obtain⟨N,y,Y,rfl,T,w,o⟩:=D0 rep1 C A;exact .inl ⟨F,N,Z,Y,rfl,Q,T,ao o .refl rep1 _ (xx l w)⟩
 ·exact(ah c1).elim
abbrev Au(m n:TM):aO->M Iter:=λρ=>do let ds<-af m (af n au) ρ;DZ ds
end S4
namespace S3
open PySem PySem.Spec PyProof.Rows L2 S4
def oZ(f:Expr->Option D):List Expr->Option (List D)
 |[]=>ar []
 |e::es=>match f e,oZ f es with
  |some d,ar ds=>ar (d::ds)
  |_,_=>none
def litE:Nat->Expr->Option D
 |_,.Constant .none _ _=>ar .non
 |_,.Constant (.bool b) _ _=>ar (.bl b)
 |_,.Constant (.int i) _ _=>ar (.int i)
 |_,.Constant (.str x) _ _=>ar (.str x)
 |_,.UnaryOp .USub (.Constant (.int i) _ _) _=>ar (.int (-i))
 |n+1,.Tuple es _ _=>match oZ (litE n) es with
  |some ds=>if ds.length<=100 then ar (.tup ds)else none
  |none=>none
 |_,_=>none
section
variable {X:Cx}{E:XD}
def SE.mono{m Z:TM}(h:SE X E e m)(k:∀ ρ S r,Z ρ S=ar r->m ρ S=ar r):SE X E e Z:=PE.imp h λσ H Q q=>by obtain⟨ι,S,ρ,rep,re,r,Y,e,c⟩:=q;exact⟨ι,S,ρ,rep,re,r,Y,k ρ S _ e,c⟩
theorem D1(h:litE n e=ar d)(es:List Expr)(env:Env):d_ (e::es) env=(c_,hY e env)::d_ es env:=by
 cases e with
 |Constant c j p=>exact az
 |UnaryOp o a p=>exact zd
 |Tuple l k p=>exact aQ
 |_=>cases n<;>cases h
theorem Av(Z:∀e d,litE n e=ar d->SE X E e (mK d)):∀{es:List Expr} {ds:List D},oZ (litE n) es=ar ds->SA X E es (λ_=>aC ds)
 |[],ds,h=>by cases h;exact ag
 | e::es,ds,h=>by
  unfold oZ at h;cases q:litE n e with
  |none=>rw[q]at h;cases h
  | some d=>
   rw[q]at h;cases q2:oZ (litE n) es with
   |none=>rw[q2]at h;cases h
   |some ds'=>
    rw[q2]at h;cases h;exact ae (Z e d q) (Av Z q2) (D1 q _ _)
theorem JJ:∀(n:Nat) (e:Expr) (d:D),litE n e=ar d->SE X E e (mK d):=by
 intro n
 induction n with
 |zero=>
  intro e d h;unfold litE at h;split at h
  ·cases h;exact jF
  ·cases h;exact dO
  ·cases h;exact aq
  ·cases h;exact rj
  ·cases h;exact DK
  ·next h'=>exact absurd h' (by omega)
  ·cases h
 | succ n ih=>
  intro e d h;unfold litE at h;split at h
  ·cases h;exact jF
  ·cases h;exact dO
  ·cases h;exact aq
  ·cases h;exact rj
  ·cases h;exact DK
  ·next m es k p hm=>
   cases hm;cases q:oZ (litE n) es with
   |none=>rw[q]at h;cases h
   | some ds=>
    rw[q]at h;simp only at h;split at h
    ·next hl=>
     cases h;refine(bo (Av ih q)).mono λρ S r Z=>?_;have e:(do let ds'<-(aC ds:M (List D));bj ds')=(aC (.tup ds):M D):=by show bj ds=_;unfold bj;rw[if_pos (by unfold lim;omega)]
     rw[e];exact Z
    ·cases h
  ·cases h
def cN(n:Nat)(h:litE n e=ar d):SE X E e (mK d):=JJ n e d h
end
def aN(m:TM)(ms:Cw):Cw:=af m ms
section
variable {X:Cx}{E:XD}
def aK(Z:SE X E e m)(Y:SA X E es ms)(hs:d_ (e::es) X.env=(c_,hY e X.env)::d_ es X.env):SA X E (e::es) (aN m ms):=ae Z Y hs
def iF{l p t n}:lb (.List l p) t n env=aC false:=rfl
def D3{l k p t n}:lb (.Tuple l k p) t n env=aC false:=rfl
def df{a o b p t n}:lb (.BinOp a o b p) t n env=aC false:=rfl
def fV{f l k p t n}:lb (.Call f l k p) t n env=aC false:=rfl
def iG{a b p t n}:lb (.Subscript a b p) t n env=aC false:=rfl
def xA{a b p t n}:lb (.Constant a b p) t n env=aC false:=rfl
end
end S3
namespace S7
open PySem PySem.Spec PyProof.Rows L2 S3
def n5{a b p}:d_ (.Attribute a b p::es) env=(c_,hY (.Attribute a b p) env)::d_ es env:=rfl
abbrev ND(m:TM):TM:=λρ=>qj (m ρ)
abbrev LM:TM:=λ_=>M.fail
abbrev dQ(m:TM)(y:Str):TM:=λρ=>do let x<-m ρ;xq (λn=>de n y) x
abbrev D4(m:TM):TM:=λρ=>do let x<-m ρ;xq (λ_=>b_) x
abbrev JK(x:Str)(ms:aO->M (List D)):dq:=λρ=>do let ds<-ms ρ;if ds.length<=lim then M.raise (.exc x [])else M.fail
end S7
namespace S3
open PySem PySem.Spec PyProof.Rows L2
mutual
def d7(n:Nat):D->Bool
 | .lst k=>decide (k<n)
 | .tup ds=>bU n ds
 | .ro ds=>bU n ds
 | .fz ds=>bU n ds
 | .fn _ _ _ ds _=>bU n ds
 | .exc _ ds=>bU n ds
 | .non=>b_
 | .bl _=>b_
 | .int _=>b_
 | .str _=>b_
 | .emp=>b_
def bU(n:Nat):List D->Bool
 |[]=>b_
 |d::ds=>d7 n d && bU n ds
end
mutual
def jI(n:Nat)(g:Nat->Option (List D)):D->Option D
 | .lst k=>if k<n then ar (.lst k)else (g k).map .fz
 | .tup ds=>(gU n g ds).map .tup
 | .ro ds=>(gU n g ds).map .ro
 | .fz ds=>(gU n g ds).map .fz
 | .fn a c q ds vs=>(gU n g ds).map λes=>.fn a c q es vs
 | .exc x ds=>(gU n g ds).map λes=>.exc x es
 | .non=>ar .non
 | .bl b=>ar (.bl b)
 | .int i=>ar (.int i)
 | .str x=>ar (.str x)
 | .emp=>ar .emp
def gU(n:Nat)(g:Nat->Option (List D)):List D->Option (List D)
 |[]=>ar []
 |d::ds=>match jI n g d,gU n g ds with
  |some u,ar us=>ar (u::us)
  |_,_=>none
end
def yw(S:aE)(n:Nat):Nat->Nat->Option (List D)
 |0,_=>none
 |f+1,k=>(S[k]?).bind λxs=>gU n (yw S n f) xs
def pS(S S':aE):Prop:=∀k xs,k<S.length->S'[k]? =ar xs->S[k]? =ar xs\/bU S.length xs=b_
open Classical in
def fW(m:M D):M D:=λS=>match m S with
 | some (.ok d,S')=>if S'.length<=S.length then ar (.ok d,S')else
   if pS S S' then (match jI S.length (yw S' S.length 60) d with
    |some u=>ar (.ok u,S'.take S.length)
    |none=>none)else none
 |r=>r
abbrev aV(m:TM):TM:=λρ=>fW (m ρ)
section
variable {K:dV}{ι ι':List dt}{H H':Hp}{S S':aE}
mutual
theorem RelD.cl:∀{d:D} {v:V},RelD K ι H d v->d7 ι.length d=b_
 |_,_,.non=>rfl
 |_,_,.bl b=>rfl
 |_,_,.int i=>rfl
 |_,_,.str x=>rfl
 |_,_,.tup h hs=>by unfold d7;exact RelDs.cl hs
 |_,_,.lst h=>by unfold d7;exact OS (OI.mp h).1
 |_,_,.ro h hs=>by unfold d7;exact RelDs.cl hs
 |_,_,.emp h=>rfl
 |_,_,.fn h hs=>by unfold d7;exact RelDs.cl hs
 |_,_,.exc n h=>rfl
 |_,_,.excF n h h2 hn hs=>by unfold d7;exact RelDs.cl hs
 |_,_,.fz h hs=>by unfold d7;exact RelDs.cl hs
theorem RelDs.cl:∀{ds:List D} {vs:List V},RelDs K ι H ds vs->bU ι.length ds=b_
 |_,_,.nil=>rfl
 |_,_,.cons h hs=>by unfold bU;rw[RelD.cl h,RelDs.cl hs];rfl
end
def pT(P:List dt)(os:dt->Obj)(H:Hp):Hp:=λb=>match H b with
 |some (.lst vs)=>if b∈P then ar (.frz (os b) (.lst vs))else ar (.lst vs)
 |x=>x
def D5{P:List dt}{os:dt->Obj}{b:dt}(h:H b=none):pT P os H b=none:=by unfold pT;rw[h]
theorem cm{P:List dt}{os:dt->Obj}{b:dt}{o:HO}(h:H b=ar o)(Z:∀vs,o≠ .lst vs):pT P os H b=ar o:=by
 unfold pT;rw[h];cases o with
 |lst vs=>exact absurd rfl (Z vs)
 |_=>rfl
def Aw{P:List dt}{os:dt->Obj}{b:dt}(h:b∉P):pT P os H b=H b:=by
 unfold pT;split
 ·next q=>rw[if_neg h,q]
 ·rfl
def JL{os:dt->Obj}(h:b∈P)(e:H b=ar (.lst vs)):pT P os H b=ar (.frz (os b) (.lst vs)):=by unfold pT;rw[e];exact if_pos h
theorem xB(Y:ι.Nodup)(h:ι[k]? =ar a):a∈ι.drop n↔n<=k:=by
 constructor
 ·intro hm;obtain⟨j,Z⟩:=QV.mp hm;rw[R5]at Z;have:=rh Y h Z;omega
 ·intro X;refine QV.mpr ⟨k - n,?_⟩;rw[R5,show n+(k - n)=k by omega];exact h
mutual
theorem RelD.down{n:Nat}{os:dt->Obj}:∀{d:D} {v:V},RelD K ι H d v->d7 n d=b_->RelD K (ι.take n) (pT (ι.drop n) os H) d v
 |_,_,.non,_=>.non
 |_,_,.bl b,_=>.bl b
 |_,_,.int i,_=>.int i
 |_,_,.str x,_=>.str x
 |_,_,.tup h hs,c=>.tup (cm h (by intro _ z;cases z)) (RelDs.down hs (by unfold d7 at c;exact c))
 |_,_,.lst h,c=>.lst (by unfold d7 at c;rw[Rx,if_pos (PQ c)];exact h)
 |_,_,.ro h hs,c=>.ro (h.imp (λ⟨o,h⟩=>⟨o,cm h (by intro _ z;cases z)⟩) λz=>z) (RelDs.down hs (by unfold d7 at c;exact c))
 |_,_,.emp h,_=>.emp (cm h (by intro _ z;cases z))
 |_,_,.fn h hs,c=>.fn (cm h (by intro _ z;cases z)) (RelDs.down hs (by unfold d7 at c;exact c))
 |_,_,.exc n h,_=>.exc n (cm h (by intro _ z;cases z))
 |_,_,.excF n h h2 hn hs,c=>.excF n (cm h (by intro _ z;cases z)) (cm h2 (by intro _ z;cases z)) hn (RelDs.down hs (by unfold d7 at c;exact c))
 |_,_,.fz h hs,c=>.fz (cm h (by intro _ z;cases z)) (RelDs.down hs (by unfold d7 at c;exact c))
theorem RelDs.down{n:Nat}{os:dt->Obj}:∀{ds:List D} {vs:List V},RelDs K ι H ds vs->bU n ds=b_->RelDs K (ι.take n) (pT (ι.drop n) os H) ds vs
 |_,_,.nil,_=>.nil
 |_,_,.cons h hs,c=>by
  unfold bU at c;rw[Po]at c;exact .cons (RelD.down h c.1) (RelDs.down hs c.2)
end
theorem kE{α Z:Type}{f:α->Z}{o:Option α}{b:Z}(h:o.map f=ar b):∃a,o=ar a/\f a=b:=by
 cases o with
 |none=>cases h
 |some a=>exact⟨a,rfl,O5 h⟩
def D6(h:gU n g (d::ds)=ar us):∃u us',us=u::us'/\jI n g d=ar u/\gU n g ds=ar us':=by
 unfold gU at h;split at h
 ·next u us' e1 e2=>cases h;exact⟨u,us',rfl,e1,e2⟩
 ·cases h
mutual
theorem zq{n:Nat}{os:dt->Obj}{g:Nat->Option (List D)}(Y:∀k us a,n<=k->g k=ar us->ι[k]? =ar a->∃vs,H a=ar (.lst vs)/\RelDs K (ι.take n) (pT (ι.drop n) os H) us vs)(Z:ι.Nodup):
  ∀{d:D} {v:V},RelD K ι H d v->∀{u:D},jI n g d=ar u->RelD K (ι.take n) (pT (ι.drop n) os H) u v
 |_,_,.non,u,e=>by unfold jI at e;cases e;exact .non
 |_,_,.bl b,u,e=>by unfold jI at e;cases e;exact .bl b
 |_,_,.int i,u,e=>by unfold jI at e;cases e;exact .int i
 |_,_,.str x,u,e=>by unfold jI at e;cases e;exact .str x
 |_,_,.tup h hs,u,e=>by
  unfold jI at e;obtain⟨es,e1,rfl⟩:=kE e;exact .tup (cm h (by intro _ z;cases z)) (kF Y Z hs e1)
 | _,_,@RelD.lst _ _ _ a k h,u,e=>by
  unfold jI at e;by_cases hk:k<n
  ·rw[if_pos hk]at e;cases e;exact .lst (by rw[Rx,if_pos hk];exact h)
  ·rw[if_neg hk]at e;obtain⟨us,e1,rfl⟩:=kE e;obtain⟨vs,U,X⟩:=Y k us a (by omega) e1 h;exact .fz (JL ((xB Z h).mpr (by omega)) U) X
 |_,_,.ro h hs,u,e=>by
  unfold jI at e;obtain⟨es,e1,rfl⟩:=kE e;exact .ro (h.imp (λ⟨o,h⟩=>⟨o,cm h (by intro _ z;cases z)⟩) λz=>z) (kF Y Z hs e1)
 |_,_,.emp h,u,e=>by unfold jI at e;cases e;exact .emp (cm h (by intro _ z;cases z))
 |_,_,.fn h hs,u,e=>by
  unfold jI at e;obtain⟨es,e1,rfl⟩:=kE e;exact .fn (cm h (by intro _ z;cases z)) (kF Y Z hs e1)
 |_,_,.exc x h,u,e=>by
  unfold jI at e;obtain⟨es,e1,rfl⟩:=kE e;unfold gU at e1;cases e1;exact .exc x (cm h (by intro _ z;cases z))
 |_,_,.excF x h X hn hs,u,e=>by
  unfold jI at e;obtain⟨es,e1,rfl⟩:=kE e;exact .excF x (cm h (by intro _ z;cases z)) (cm X (by intro _ z;cases z)) hn (kF Y Z hs e1)
 |_,_,.fz h hs,u,e=>by
  unfold jI at e;obtain⟨es,e1,rfl⟩:=kE e;exact .fz (cm h (by intro _ z;cases z)) (kF Y Z hs e1)
theorem kF{n:Nat}{os:dt->Obj}{g:Nat->Option (List D)}(Y:∀k us a,n<=k->g k=ar us->ι[k]? =ar a->∃vs,H a=ar (.lst vs)/\RelDs K (ι.take n) (pT (ι.drop n) os H) us vs)(Z:ι.Nodup):
  ∀{ds:List D} {vs:List V},RelDs K ι H ds vs->∀{us:List D},gU n g ds=ar us->RelDs K (ι.take n) (pT (ι.drop n) os H) us vs
 |_,_,.nil,us,e=>by unfold gU at e;cases e;exact .nil
 |_,_,.cons h hs,us,e=>by
  obtain⟨u,X,rfl,e1,e2⟩:=D6 e;exact .cons (zq Y Z h e1) (kF Y Z hs e2)
end
theorem Ax(Z:Rep K ι H S){n:Nat}{os:dt->Obj}:∀f k us a,n<=k->yw S n f k=ar us->ι[k]? =ar a->∃vs,H a=ar (.lst vs)/\RelDs K (ι.take n) (pT (ι.drop n) os H) us vs:=by
 intro f
 induction f with
 |zero=>intro k us a _ e;cases e
 | succ f ih=>
  intro k us a T e X;unfold yw at e;cases z:S[k]? with
  |none=>rw[z]at e;cases e
  |some xs=>
   rw[z]at e;obtain⟨vs,Y,U⟩:=Z.get k a xs X z;exact⟨vs,Y,kF ih Z.nd U e⟩
theorem xC(Y:Rep K ι H S)(x:Ext ι H ι' H')(Z:Rep K ι' H' S')(Q:pS S S')(os:dt->Obj):
  Ext ι H ι (pT (ι'.drop ι.length) os H')/\Rep K ι (pT (ι'.drop ι.length) os H') (S'.take ι.length):=by
 obtain⟨more,rfl⟩:=id x.ids;have N:(ι++more).take ι.length=ι:=by simp
 refine⟨⟨⟨[],by simp⟩,λa o h n t=>?_⟩,⟨Y.nd,?_,λk a xs e1 e2=>?_,Z.tab.mono λa o h n=>cm h n⟩⟩
 ·obtain⟨U,R⟩:=x.oth a o h n t;rw[Aw (λz=>R (Q5 z))];exact⟨U,n⟩
 ·have:=Z.len;rw[Pk, <-this,OG];omega
 ·have T:k<ι.length:=(OI.mp e1).1;rw[Rx,if_pos T]at e2;have X:(ι++more)[k]? =ar a:=by rw[Pf T];exact e1
  obtain⟨vs,U,R⟩:=Z.get k a xs X e2;refine⟨vs,?_,?_⟩
  ·rw[Aw (λz=>by have:=(xB Z.nd X).mp z;omega)];exact U
  ·have O:bU ι.length xs=true:=by
    rcases Q k xs (by rw[<-Y.len];exact T) e2 with z|z
    ·obtain⟨_,_,P⟩:=Y.get k a xs e1 z;exact P.cl
    ·rw[Y.len];exact z
   have:=RelDs.down (n:=ι.length) (os:=os) R O;rw[N]at this;exact this
end
section
variable {X:Cx}{E:XD}{e:Expr}{m:TM}{pins:List (dt×Obj)}{σ:L2.St}{H:Hp}{s:dr}
theorem Inv.fz(I:L2.Inv X pins σ H s)(P:List dt):∃os,L2.Inv X pins σ (pT P os H) s:=by
 refine⟨λa=>(s.heap.get? a).getD {cls:=.none,data:=.fields #[]},?_⟩;have Z:Un X.fs [] H (pT P (λa=>(s.heap.get? a).getD {cls:=.none,data:=.fields #[]}) H) s.heap s.heap:=
  ⟨λb o q _ _ _=>q,λb o q _ _ _=>⟨o.slots,q⟩,λb o _ n _=>D5 n,λb o q _=>⟨o,q⟩,λb xs q=>cm q (by intro _ z;cases z),λb o u q=>cm q (by intro _ z;cases z),λb Y q=>⟨#[],by rw[cm q (by intro _ z;cases z)];simp⟩⟩
 refine I.un (t':=s.toks) Z λb o q=>?_;have st:∀u,H b=ar u->bC X.prog X.w (pT P (λa=>(s.heap.get? a).getD {cls:=.none,data:=.fields #[]}) H) s.heap b u:=λu Z=>
  (I.hok b u Z).stay (λ_ _ _ z=>z) (λc z=>cm z (by intro _ z;cases z)) λc xs z=>cm z (by intro _ z;cases z)
 unfold pT at q;split at q
 ·next vs hb=>
  split at q
  ·cases q;obtain⟨z,its,n,r,e⟩:=(show bC X.prog X.w H s.heap b (.lst vs)from I.hok b _ hb);exact⟨by dsimp only;rw[e];rfl,z,its,n,r,e⟩
  ·cases q;exact st _ hb
 ·exact st _ q
theorem aB(h:SE X E e m):SE X E e (aV m):=by
 intro pins s σ H Q I L;obtain⟨ι,S,ρ,rep,re,r,O,G,k⟩:=L;have Z:fW (m ρ) S=ar (r,O):=G;unfold fW at Z;cases q:m ρ S with
 |none=>rw[q]at Z;cases Z
 | some p=>
  obtain⟨F,T⟩:=p;rw[q]at Z;cases F with
  |ex x=>
   cases Z;exact h pins s σ H Q I ⟨ι,S,ρ,rep,re,.ex x,_,q,k⟩
  | ok d=>
   dsimp only at Z;by_cases hl:T.length<=S.length
   ·rw[if_pos hl]at Z;cases Z;exact h pins s σ H Q I ⟨ι,S,ρ,rep,re,.ok d,_,q,k⟩
   ·rw [if_neg hl]at Z;by_cases hk:pS S T
    ·rw [if_pos hk]at Z;cases z:jI S.length (yw T S.length 60) d with
     |none=>rw[z]at Z;cases Z
     | some u=>
      rw[z]at Z;cases Z;refine dW (h pins s σ H (λv R=>∃P:List dt,∀os,Q v (pT P os R)) I ⟨ι,S,ρ,rep,re,.ok d,T,q,λW R x Y v N=>?_⟩) λuv s' ⟨v,R,I',N,P,hq⟩=>?_
      ·refine⟨W.drop ι.length,λos=>?_⟩;obtain⟨C,rep2⟩:=xC rep x Y hk os;have U:Rep X.K ι (pT (W.drop ι.length) os R) (T.take S.length):=by rw[<-rep.len];exact rep2
       have L:W.take ι.length=ι:=by obtain⟨more,rfl⟩:=x.ids;simp
       have rel:RelD X.K ι (pT (W.drop ι.length) os R) u v:=by have:=zq (n:=ι.length) (os:=os) (λk us a=>by rw[rep.len];exact Ax Y 60 k us a) Y.nd N (by rw[rep.len];exact z);rw[L]at this;exact this
       exact k ι _ C U v rel
      ·obtain⟨os,J⟩:=Inv.fz I' P;exact⟨v,_,J,N,hq os⟩
    ·rw[if_neg hk]at Z;cases Z
end
end S3
namespace S4
open PySem PySem.Spec PyProof.Rows L2 S3
section
variable {prog:ey}{w:fg}{A:j_}{E:a_->dr->Prop}{s:dr}
end
end S4
namespace S3
open PySem PySem.Spec PyProof.Rows L2
section
variable {X:Cx}{E:XD}{a b e c o tg:Expr}{m n l:TM}{pos p2:Pos}{es:List Expr}{ms:aO->M (List D)}
theorem range_any{bs:List Bool}:(ee bs.length).any (λi=>bs.getD i c_)=bs.any id:=by
 induction bs with
 |nil=>rfl
 |cons b bs ih=>
  rw[O9,RB,SC,List.any_map];simp only[List.getD_cons_zero,TL,id];congr 1
theorem BS(G:X.calm=b_):dm X (.builtin "any") (λxs H Q=>∃(p:dt) (bs:List Bool),xs=[.ref p]/\kN X.K H p (bs.map V.bl)/\Q (.bl (bs.any id)) H):=by
 intro pins s σ H xs us Q I r h;obtain⟨p,bs,rfl,F,q⟩:=h;obtain⟨u,rfl,N⟩:=vals1 r;cases (show u=er p from N);obtain⟨its,S,J,B⟩:=I.list F;have T:=J.isList;refine call_any_walk (RC T ?_);have W:p<s.heap.objs.size:=by obtain⟨o,C,_⟩:=T;exact OJ C
 have hlen:=S.length;refine⟨s.heap.objs.size,_,_,_,_,_,λi=>bs.getD i c_,rfl,UE (A:=X.A.in1) (by show X.A.handled=none;exact I.ok.hd G) s.heap.objs.size p (OQ W) its.toArray,⟨⟨_,OK _ rfl,rfl,rfl⟩,T.push _⟩,?_,λh' y L=>?_⟩
 ·intro i v s' z w P U;have Y:its[i]? =ar v:=by simpa using P
  have x:i<its.length:=(OI.mp Y).1;have Z:i<bs.length:=by rw[OC]at hlen;omega
  have:(bs.map V.bl)[i]? =ar (.bl bs[i]):=by rw[O1,OH Z];rfl
  obtain⟨u,R,O⟩:=S.get this;rw[Y]at R;cases R;cases (show v=q_ bs[i]from O);have:bs.getD i c_=bs[i]:=by simp[List.getD,Z]
  dsimp only at U;rw[this]at U;exact Pw U
 ·have e1:its.toArray.size=bs.length:=by rw[OL, <-hlen,OC]
  rw[e1,range_any];refine⟨.bl _,H,I.kept (λb o e=>L b o ?_ (OD _ e)),rfl,q⟩;have:b≠s.heap.objs.size:=OQ (OJ e);simpa using this
def D7:List D->M D
 |[.lst k]=>do
  let xs<-getL k
  match boolsOf xs with
  |some bs=>aC (.bl (bs.any id))
  |none=>M.fail
 |[.fz xs]=>match boolsOf xs with
  |some bs=>aC (.bl (bs.any id))
  |none=>M.fail
 |_=>M.fail
theorem BU:lp X.K E D7 (λxs H Q=>∃(p:dt) (bs:List Bool),xs=[.ref p]/\kN X.K H p (bs.map V.bl)/\Q (.bl (bs.any id)) H):=by
 intro ι S H ds vs Q rep r c;unfold D7 at c;split at c
 ·next k=>
  obtain⟨v,ws,rfl,W,U⟩:=r.cons_inv;cases U.nil_inv;obtain⟨p,rfl,Y⟩:=W.lst_inv;obtain⟨es,us,_,R,T,Z⟩:=bz c rep Y;cases q:boolsOf es with
  |none=>rw[q]at Z;exact(ah Z).elim
  |some bs=>
   rw[q]at Z;refine⟨p,bs,rfl,.of ?_,ao Z .refl rep _ (.bl _)⟩;rw[<-gS T q];exact R
 ·next es=>
  obtain⟨v,ws,rfl,W,U⟩:=r.cons_inv;cases U.nil_inv;obtain⟨p,o,us,rfl,Y,T⟩:=W.fz_inv;cases q:boolsOf es with
  |none=>rw[q]at c;exact(ah c).elim
  |some bs=>
   rw[q]at c;refine⟨p,bs,rfl,.inl (.inr ⟨o,?_⟩),ao c .refl rep _ (.bl _)⟩;rw[<-gS T q];exact Y
 ·exact(ah c).elim
theorem JM(U:X.calm=b_)(Y:X.mg "any"=none)(Z:SE X E e m)(W:Gl X "any":=by rfl)(hs:d_ [e] X.env=[(c_,hY e X.env)]:=by rfl):SE X E (.Call (.Name "any" p) [e] [] pos) (cg D7 m):=
 iR (BS U) BU W Y (by decide+kernel) (ae Z ag hs) (by decide) (by decide) hs rfl
end
end S3
section
namespace S3
open PySem PySem.Spec PyProof.Rows L2
section
variable {prog:ey}{w:fg}{A:j_}{R:UV->dr->Prop}{s:dr}
theorem zv
  (Y:rn (fc prog w) A (.compLoop (.ListComp elt [c1,⟨target,iter,ifs,0⟩] scope pos) 1 it acc env) R s)
  (h:eb (fc prog w) A (Sw it) (λZ s'=>rn (fc prog w) A (.compLoop (.ListComp elt [c1,⟨target,iter,ifs,0⟩] scope pos) 1 Z acc env) R s')
   (notedBy (fc prog w) A env λx s'=>R (.error x) s') s):
  rn (fc prog w) A (.compStart (.ListComp elt [c1,⟨target,iter,ifs,0⟩] scope pos) 1 it acc env) R s:=by
 refine Ru ?_;show eb _ _ ((compStart (.ListComp elt [c1,⟨target,iter,ifs,0⟩] scope pos) 1 it acc env).onRaise (λx=>do Fn x env;I_ theWindowsPlace)) _ _ s;refine wpAny_notedAt ?_;unfold compStart;show eb _ _ (ask>>=_) _ _ s;refine OB (QI (wpAny_ite ?_));split
 ·first
   |exact OB (OE (OE (Ul rfl Y)))
   |exact OE (Ul rfl Y)
 ·first
   |exact OB (Re (OB (PL (OB (O6 h (λZ s' h'=>OE (Ul rfl h')) λ_ _ x=>x)))))
   |(refine OB (Re ?_);show eb _ _ (I_ iter.pos>>=_) _ _ s;exact OB (PL (OB (O6 h (λZ s' h'=>OE (Ul rfl h')) λ_ _ x=>x))))
end
abbrev JN:=St->Hp->(St->Hp->Prop)->Prop
def Ay(J:It)(g:TG)(tt:TT)(tb:JN)(fin:St->Hp->Prop):St->Hp->Prop:=λσ H=>∃W:Nat->Nat->St->Hp->Prop,(∃m,W 0 m σ H)/\∀i m σc Hc,W i m σc Hc->
  (J.stop i Hc/\fin σc Hc)\/(J.go i Hc/\∃N:St->Hp->Prop,(∀ σ' H',N σ' H'->∃m',m'<m/\W (i+1) m' σ' H')/\∀x H',J.yld i Hc x H'->g x σc H' λσ2 H2=>tt σ2 H2 λb H3=>if b=b_ then tb σ2 H3 N else N σ2 H3)
def NF(X:Cx)(bd:Sem Unit)(tb:JN):Prop:=∀(pins:List (dt×Obj)) (s:dr) (σ:St) (H:Hp) (N:St->Hp->Prop),Inv X pins σ H s->tb σ H N->∀E,(∀v s',X.xe v s'->E v s')->eb (fc X.prog X.w) X.A bd (λ_ s'=>∃ σ' H',Inv X pins σ' H' s'/\N σ' H') E s
def zw(e:Expr)(d:Nat)(ipos:Pos)(tg:Expr)(ifs:List Expr)(it acc:a_)(env:Env)(bd:Sem Unit):Sem Fin:=do
 I_ ipos
 match<-B' it with
 |none=>aC (.done .next)
 | some v=>
  C_ tg it v
  Sl tg env v
  let mut ok:=b_
  for c in ifs do
   if ok then ok<-isTrue c env (hY c env)
  if ok then bd
  To (.compLoop e d it acc env)
theorem LN(U S Y T Z:Expr)(W X:List Expr)(scope:Scope)(pos:Pos)(it acc:a_)(env:Env):
  T_ (.ListComp U [⟨S,Y,W,0⟩,⟨T,Z,X,0⟩] scope pos) 0 it acc env=zw (.ListComp U [⟨S,Y,W,0⟩,⟨T,Z,X,0⟩] scope pos) 0 Y.pos S W it acc env
  (do let x<-hY Z env;I_ Z.pos;let x<-kb Z env x;let _<-runOwn (.compStart (.ListComp U [⟨S,Y,W,0⟩,⟨T,Z,X,0⟩] scope pos) 1 (<-yn [x] (Sw x)) acc env) env):=by
 unfold T_ zw;simp;rfl
section
variable {X:Cx}{pins:List (dt×Obj)}{σ:St}{H:Hp}{s:dr}
theorem xD{O:Nat->gg->Prop}{Q:St->Hp->Prop}{R:UV->dr->Prop}
  (U:∀v s',X.xe v s'->False) (G:X.calm=b_) (T:Turn X.prog X.w X.K tg J fp it O) (B:PG X tg g) (t:Fs X ifs tt) (C:NF X bd tb)
  (S:T_ (.ListComp elt gens scope pos) d (.ref it) acc X.env=zw (.ListComp elt gens scope pos) d ipos tg ifs (.ref it) acc X.env bd)
  (I:Inv X pins σ H s) (F:O 0 s.heap) (f:∀b∈fp,kO X pins H b) (h:Ay J g tt tb Q σ H) (P:∀s' σ' H',Inv X pins σ' H' s'->Q σ' H'->R (.ok .next) s'):
  rn (fc X.prog X.w) X.A (.compLoop (.ListComp elt gens scope pos) d (.ref it) acc X.env) R s:=by
 obtain⟨W,⟨m0,p⟩,turn⟩:=h;have Z:∀{H':Hp},(∀b∈fp,H' b=none)->∀b∈fp,kO X pins H' b:=λE b Y=>⟨E b Y,(f b Y).2⟩;refine codeAny_loop rfl (λn s'=>∃i σ' H',Inv X pins σ' H' s'/\O i s'.heap/\(∀b∈fp,H' b=none)/\W i n σ' H') ?_ m0 ⟨0,_,_,I,F,λb Y=>(f b Y).1,p⟩;rintro n s4 ⟨i,σ4,H4,I4,st4,fr4,w4⟩;show eb _ X.A ((T_ (.ListComp elt gens scope pos) d (.ref it) acc X.env).onRaise (λx=>do Fn x X.env;theTreesLotGoes x)) _ _ s4;refine wpAny_noted ?_;rw[S];refine OB (PL (OB ?_));rcases turn i n σ4 H4 w4 with⟨stop,qn⟩|⟨go,N,hN,step⟩
 ·refine O6 (T.done X rfl rfl rfl G i pins s4 σ4 H4 (λ_ _=>False) I4 (Z fr4) st4 stop) (λr s5 ⟨hr,I5⟩=>?_) λ_ _ z=>z.elim;subst hr;exact OE (P s5 σ4 H4 I5 qn)
 ·refine O6 (T.item X rfl rfl rfl G i pins s4 σ4 H4 (λ_ _=>False) I4 (Z fr4) st4 go) (λr s5 ⟨u,hr,h5⟩=>?_) λ_ _ z=>z.elim;subst hr;refine OB (O6 h5 (λ_ s6 ⟨x,H6,I6,r6,y6,st6,fr6⟩=>?_) λ_ _ z=>z.elim);have L:=I6.pinned (Z fr6) (T.obj _ _ st6);refine OB (O6 (B _ s6 σ4 H6 x u _ L r6 (step x H6 y6)) (λ_ s7 ⟨σ7,H7,I7,q7⟩=>?_) λ_ _ z=>(U _ _ z).elim);refine OB (O6 (t _ s7 σ7 H7 _ I7 q7) (λb s8 ⟨H8,I8,q8⟩=>?_) λ_ _ z=>(U _ _ z).elim);have To:∀{σ9:St} {H9:Hp} {s9:dr},Inv X (pins++oH fp s6.heap) σ9 H9 s9->N σ9 H9->
    ∃m,m<n/\∃i σ' H',Inv X pins σ' H' s9/\O i s9.heap/\(∀b∈fp,H' b=none)/\W i m σ' H':=λ{σ9 H9 s9} I9 n9=>by
   obtain⟨y,hm,q⟩:=hN σ9 H9 n9;refine⟨y,hm,i+1,σ9,H9,I9.unpinned,T.keep _ _ _ st6 λb Y o e=>(I9.pin (b,o) (OZ _ (OZ _ (gu Y e)))).1,λb Y=>?_,q⟩;obtain⟨o,e,d⟩:=T.obj _ _ st6 b Y;exact(I9.pin (b,o) (OZ _ (OZ _ (gu Y e)))).2.1
  cases b with
  |false=>exact OE ⟨rfl,To I8 q8⟩
  |true=>exact OB (O6 (C _ s8 σ7 H8 N I8 q8 (λ_ _=>False) λ_ _ z=>(U _ _ z).elim) (λ_ s9 ⟨σ9,H9,I9,q9⟩=>OE ⟨rfl,To I9 q9⟩) λ_ _ z=>z.elim)
def BV(p:dt)(te:TE):JN:=λσ H N=>te σ H λy H4=>∃xs,H4 p=ar (.lst xs)/\xs.length<sizeLine/\N σ (upd H4 p (.lst (xs++[y])))
theorem Gv(W:PE X elt te):NF X (do let _<-call (.builtin "list.append") [.ref p, <-hY elt X.env]) (BV p te):=by intro pins s σ H N I h E Y;refine OB (O6 (W _ s σ H _ I h) (λy s9 ⟨yv,H9,I9,r9,q9⟩=>?_) Y);obtain⟨xs,Z,T,S⟩:=q9;refine OB (O6 (oJ (X:=X) _ s9 σ H9 (.ref p) [yv] (.ref p) [y] (λ_ U=>N σ U) I9 rfl (.cons r9 .nil) ⟨p,xs,yv,rfl,rfl,Z,T,S⟩) (λ_ s10 ⟨_,H10,I10,_,q10⟩=>?_) Y);exact OE ⟨σ,H10,I10,q10⟩
def MI(wi:TI)(g:TG)(tt:TT)(tb:JN):JN:=λσ H N=>wi σ H λJ H1=>Ay J g tt tb N σ H1
theorem JO(U:∀v s',X.xe v s'->False)(B:X.calm=b_)(y:PI X tg iter wi)(L:PG X tg g)(K:Fs X ifs tt)(G:PE X elt te)
  (hs:∀x,kb iter X.env x=aC x):
  NF X (do let x<-hY iter X.env;I_ iter.pos;let x<-kb iter X.env x;let _<-runOwn (.compStart (.ListComp elt [c1,⟨tg,iter,ifs,0⟩] scope pos) 1 (<-yn [x] (Sw x)) (.ref p) X.env) X.env) (MI wi g tt (BV p te)):=by
 intro pins s σ H N I h E S;refine OB (O6 (y pins s σ H _ I h) (λv s1 R=>?_) S);refine OB (PL (OB (Tb (hs v) (OB (Pl (O6 R (λF s2 O=>?_) S))))));obtain⟨it,t,u,J,q,e,Q,T,Y,f2,P⟩:=O;subst e;have loop:rn (fc X.prog X.w) X.A (.compLoop (.ListComp elt [c1,⟨tg,iter,ifs,0⟩] scope pos) 1 (.ref it) (.ref p) X.env) (λr s'=>match r with| .ok f=>eb (fc X.prog X.w) X.A (aC ()) (λ_ s'=>∃Z W,Inv X pins Z W s'/\N Z W) E s'| .error e=>cameBackBy (fc X.prog X.w) X.A X.env E e s') s2:=
  xD (ipos:=iter.pos) U B T L K (Gv G) (by rfl) Q Y f2 P λs' Z W z C=>OE ⟨Z,W,z,C⟩
 exact OB (wpAny_runOwn (zv loop (T.self _ 0 _ _ _ Y loop)))
end
def D8(wi:TI)(js:List (Option Nat))(g:TG)(tt:TT)(tb:dt->JN):TE:=λσ H Q=>wi σ H λJ H1=>∀p,H1 p=none->Ay J g tt (tb p) (λ_ H'=>Q (.ref p) H') (oO js σ) (upd H1 p (.lst []))
section
variable {X:Cx}{scope:Scope}{Nc:List Str}{js:List (Option Nat)}{pins:List (dt×Obj)}{σ:St}{H:Hp}{s:dr}
theorem D9(c:CompScope X scope Nc js)(hc:X.calm=b_)(hi:PI X tg iter wi)
  (j:∀C ex s H,PG (bc X scope Nc C ex s H) tg g/\Fs (bc X scope Nc C ex s H) ifs tt/\PI (bc X scope Nc C ex s H) tg2 iter2 wi2/\PG (bc X scope Nc C ex s H) tg2 g2/\Fs (bc X scope Nc C ex s H) ifs2 tt2/\PE (bc X scope Nc C ex s H) elt te)
  (hs:∀x,kb iter X.env x=aC x:=by intro _;rfl) (i:∀env x,kb iter2 env x=aC x:=by intro _ _;rfl):
  PE X (.ListComp elt [⟨tg,iter,ifs,0⟩,⟨tg2,iter2,ifs2,0⟩] scope pos) (D8 wi js g tt λp=>MI wi2 g2 tt2 (BV p te)):=by
 intro pins s σ H Q I h;rw[eval_ListComp];refine wpAny_comprehension_free rfl hs (kf scope X.env (c.has I.ok)) c.kind c.loc (dW (hi pins s σ H _ I h) λv s1 O=>dW O λb5 s2 h2=>?_);obtain⟨it,Y,a,J,R,e,I2,T,G,f2,B⟩:=h2;subst e;refine Pm (ud λO U S W=>?_);dsimp only at U S W⊢;have B:=B s2.heap.objs.size (I2.hok.fresh (OF _));have d:Inv X pins σ (upd R s2.heap.objs.size (.lst [])) {s2 with heap:=s2.heap.push {cls:=.type "list",dict:=none,data:=.seq ([]:List a_).toArray}}:=
  I2.laid (t':=s2.toks) (λ_ _ q=>OD _ q) (OF _) ⟨OX _,[],0,.nil,OK _ rfl⟩
 generalize hS3:({s2 with heap:=s2.heap.push {cls:=.type "list",dict:=none,data:=.seq ([]:List a_).toArray}}:dr)=s3 at d;have e3:s3.heap=s2.heap.push {cls:=.type "list",dict:=none,data:=.seq ([]:List a_).toArray}:=by rw[<-hS3]
 rw[<-e3]at U S W⊢;generalize hp:s2.heap.objs.size=p at*;have L:∀b∈Y,b<p:=λb Z=>by obtain⟨o,e,_⟩:=T.obj _ _ G b Z;rw[<-hp];exact OJ e
 have t:∀b∈Y,b≠p:=λb Z=>OQ (L b Z);have n:∀b∈Y,kO X pins (upd R p (.lst [])) b:=λb Z=>⟨by rw[aI (t b Z)];exact(f2 b Z).1,(f2 b Z).2⟩;have K:s3.heap.objs.size=p+1:=by rw[e3,PP,hp]
 have N:∀b∈Y,b<s3.heap.objs.size:=λb Z=>by rw[K];exact PR (L b Z)
 have P:∀b o,s3.heap.get? b=ar o->O.get? b=ar o:=S;have l:a 0 O:=T.keep _ _ _ G λb Z o e=>P b o (by rw[e3];exact OD _ e);generalize hC:s3.heap.objs.size=C at*;have E:O.Ns C (λ_=>none):=by simpa using U
 have start:∀tk,Inv (bc X scope Nc C Y s3 (upd R p (.lst []))) [] (oO js σ) (upd R p (.lst [])) {s3 with heap:=O,toks:=tk}:=λtk=>rg c d n (λb Z=>by rw[hC];exact N b Z) hC.symm E P W;have ok:=(start 0).ok;have F:∀b∈Y,kO (bc X scope Nc C Y s3 (upd R p (.lst []))) [] (upd R p (.lst [])) b:=λb Z=>
  ⟨(n b Z).1,(ok.exf b Z).1,ok.exfs b Z,.inl Z,(ok.exf b Z).2,λ_ z=>nomatch z⟩
 obtain⟨hG,hT,f,u,r,hE⟩:=j C Y s3 (upd R p (.lst []));have loop:∀s':dr,Inv (bc X scope Nc C Y s3 (upd R p (.lst []))) [] (oO js σ) (upd R p (.lst [])) s'->a 0 s'.heap->
   rn (fc X.prog X.w) X.A (.compLoop (.ListComp elt [⟨tg,iter,ifs,0⟩,⟨tg2,iter2,ifs2,0⟩] scope pos) 0 (.ref it) (.ref p) (bc X scope Nc C Y s3 (upd R p (.lst []))).env) (U4 (fc X.prog X.w) X.A X.xe none (EP X pins σ Q) (.ref p) C) s':=by
  intro s' I' k;refine xD (X:=bc X scope Nc C Y s3 (upd R p (.lst []))) (ipos:=iter.pos) (λ_ _ z=>z) hc T hG hT (JO (c1:=⟨tg,iter,ifs,0⟩) (scope:=scope) (pos:=pos) (λ_ _ z=>z) hc f u r hE (i _)) (LN ..) I' k F B λs5 b6 H5 I5 q5=>?_;obtain⟨m,hm,_⟩:=I5.loc;exact⟨m,hm,λh2 y=>⟨.ref p,H5,wK d hC.symm n I5 y,rfl,q5⟩⟩
 refine codeAny_compStart_list (loop _ ?_ ?_) (T.self _ 0 _ _ _ ?_ (loop _ ?_ ?_))
 all_goals first
  |exact l
  |(subst hS3;exact start _)
end
end S3
end
namespace S3
open PySem PySem.Spec PyProof.Rows L2
abbrev BM:=aO->M (List D×aO)
def cB(it:Iter)(g:nE)(t:aO->M Bool)(bd:BM):List D->aO->M (List D×aO)
 |[],ρ=>do iz it;aC ([],ρ)
 | d::ds,ρ=>do
  iz it
  let ρ1<-g d ρ;let b<-t ρ1
  if b=b_ then do
   let x<-bd ρ1;let y<-cB it g t bd ds x.2
   aC (x.1++y.1,y.2)
  else cB it g t bd ds ρ1
def BW(m:TM):BM:=λρ=>do let y<-m ρ;aC ([y],ρ)
def JP(mi:aO->M Iter)(g:nE)(t:aO->M Bool)(m:TM):BM:=λρ=>do let it<-mi ρ;if it.items.length<=3000 then cB it g t (BW m) it.items ρ else M.fail
abbrev pj(mi:aO->M Iter)(g:nE)(t:aO->M Bool)(mi2:aO->M Iter)(g2:nE)(t2:aO->M Bool)(m:TM)(js:List (Option Nat)):TM:=λρ=>do
 let it<-mi ρ;let x<-(if it.items.length<=3000 then cB it g t (JP mi2 g2 t2 m) it.items (ko js ρ)else M.fail)
 bB x.1
section
variable {K:dV}{p:dt}{Q:D->List dt->aE->Hp->Prop}
structure MkL(K:dV)(p:dt)(ι:List dt)(S:aE)(ρ:aO)(σ:St)(H:Hp)(xs:List D):Prop where
 rep:Rep K ι (dz H p) S
 re:RelE K ι (dz H p) ρ σ
 lst:∃vs,H p=ar (.lst vs)/\RelDs K ι (dz H p) xs vs
 out:p∉ι
abbrev KM:=List D->aO->M D
def Ea(K:dV)(p:dt)(Q:D->List dt->aE->Hp->Prop)(B:Nat)(bd:BM)(tb:JN):Prop:=
 ∀ ι S ρ σ H xs (k:KM) (N:St->Hp->Prop) (n:Nat),MkL K p ι S ρ σ H xs->xs.length<=n->n+B<=lim->cont K cL (bd ρ>>=λx=>k (xs++x.1) x.2) ι S (dz H p) Q->
  (∀ ι' S' ρ' σ' H' xs',MkL K p ι' S' ρ' σ' H' xs'->xs'.length<=n+B->Ext ι (dz H p) ι' (dz H' p)->cont K cL (k xs' ρ') ι' S' (dz H' p) Q->N σ' H')->tb σ H N
theorem JQ:Ea K p Q 1 (BW m) (BV p (tM K cL m)):=by
 intro ι S ρ σ H xs k N n mk L O c U;obtain⟨vs,P,R⟩:=mk.lst;have T:cont K cL (m ρ>>=λy=>k (xs++[y]) ρ) ι S (dz H p) Q:=by
  have:(BW m ρ>>=λx=>k (xs++x.1) x.2)=(m ρ>>=λy=>k (xs++[y]) ρ):=by show((m ρ>>=λy=>aC ([y],ρ))>>=_)=_;rw[du];rfl
  rw[<-this];exact c
 refine⟨ι,S,ρ,mk.rep.unhide,mk.re.unhide,av (gw (E:=cL) (ak T) P mk.out) λy ι6 S6 H6 e6 rep6 ⟨hp6,hn6,c7⟩ yv ry=>?_⟩;have Z:Ext ι (dz H p) ι6 (dz H6 p):=e6.hide;have Y:=R.later mk.rep Z;have X:vs.length<sizeLine:=by rw[<-Y.length];exact Rq (by omega) C0
 refine⟨vs,hp6,X,U ι6 S6 ρ σ _ (xs++[y]) ⟨?_,?_,⟨vs++[yv],aX,?_⟩,hn6⟩ (by simp;omega) ?_ ?_⟩
 ·rw[eA];exact rep6.hide hp6 hn6
 ·rw[eA];exact(mk.re.unhide.later mk.rep.unhide e6).hide hp6
 ·rw[eA];exact Y.append (.cons (ry.hide hp6) .nil)
 ·rw[eA];exact Z
 ·rw[eA];exact c7
theorem xE{k:KM}{C:St->Hp->Prop}(e:km K it J ι1 H1)(a:Ea K p Q B bd tb)
  (mk:MkL K p ι S ρ σ H xs) (e1:∀ ι2 Y,Ext ι (dz H p) ι2 (dz Y p)->ExtN ι1 H1 ι2 Y) (hl:xs.length<=n) (hn:n+it.items.length*B<=lim) (c:cont K cL (cB it g t bd it.items ρ>>=λx=>k (xs++x.1) x.2) ι S (dz H p) Q)
  (hf:∀ ι' S' ρ' X U xs',MkL K p ι' S' ρ' X U xs'->xs'.length<=n+it.items.length*B->Ext ι (dz H p) ι' (dz U p)->cont K cL (k xs' ρ') ι' S' (dz U p) Q->C X U):
  Ay J (CZ K cL g) (z9 K cL t) tb C σ H:=by
 refine⟨λi m O Y=>∃ ι2 S2 ρ2 xs2,m=it.items.length - i/\i<=it.items.length/\MkL K p ι2 S2 ρ2 O Y xs2/\xs2.length<=n+i*B/\Ext ι (dz H p) ι2 (dz Y p)/\
  cont K cL (cB it g t bd (it.items.drop i) ρ2>>=λx=>k (xs2++x.1) x.2) ι2 S2 (dz Y p) Q,⟨_,ι,S,ρ,xs,rfl,OX _,mk,by omega,.refl,c⟩,?_⟩
 rintro i m O Y ⟨ι2,S2,ρ2,xs2,hm,hi',mk2,hl2,e2,c2⟩;by_cases hlt:i<it.items.length
 ·have hd:it.items.drop i=it.items[i]::it.items.drop (i+1):=Q6 hlt;rw[hd]at c2;have L:cont K cL (iz it>>=λ_=>g it.items[i] ρ2>>=λZ=>t Z>>=λb=>if b=b_ then bd Z>>=λx=>(cB it g t bd (it.items.drop (i+1)) x.2>>=λy=>k (xs2++x.1++y.1) y.2)else cB it g t bd (it.items.drop (i+1)) Z>>=λx=>k (xs2++x.1) x.2) ι2 S2 (dz Y p) Q:=by
   have:(cB it g t bd (it.items[i]::it.items.drop (i+1)) ρ2>>=λx=>k (xs2++x.1) x.2)=(iz it>>=λ_=>g it.items[i] ρ2>>=λZ=>t Z>>=λb=>if b=b_ then bd Z>>=λx=>(cB it g t bd (it.items.drop (i+1)) x.2>>=λy=>k (xs2++x.1++y.1) y.2)else cB it g t bd (it.items.drop (i+1)) Z>>=λx=>k (xs2++x.1) x.2):=by show((iz it>>=λ_=>g it.items[i] ρ2>>=λZ=>t Z>>=λb=>if b=b_ then bd Z>>=λx=>cB it g t bd (it.items.drop (i+1)) x.2>>=λy=>aC (x.1++y.1,y.2)else cB it g t bd (it.items.drop (i+1)) Z)>>=λx=>k (xs2++x.1) x.2)=_;simp only[du,Aa,aj,List.append_assoc]
   rw[<-this];exact c2
  obtain⟨ok,A⟩:=jW L mk2.rep;obtain⟨v,a5⟩:=e ι2 Y S2 (e1 _ _ e2) mk2.rep.unhide ok i;obtain⟨go,yl⟩:=v it.items[i] (OH hlt);have T:n+i*B+B<=lim:=by have:(i+1)*B<=it.items.length*B:=Nat.mul_le_mul_right _ hlt;rw[QT]at this;omega
  refine .inr ⟨go,λX U=>∃ ι3 S3 ρ3 xs3,MkL K p ι3 S3 ρ3 X U xs3/\xs3.length<=n+(i+1)*B/\Ext ι (dz H p) ι3 (dz U p)/\cont K cL (cB it g t bd (it.items.drop (i+1)) ρ3>>=λx=>k (xs3++x.1) x.2) ι3 S3 (dz U p) Q,?_,λx d hy=>?_⟩
  ·rintro X U ⟨ι3,S3,ρ3,xs3,h1,h2,h3,h4⟩;exact⟨_,by omega,ι3,S3,ρ3,xs3,rfl,hlt,h1,h2,h3,h4⟩
  ·obtain⟨e3,rep3,rd⟩:=yl x d hy;obtain⟨vs,s,rx⟩:=mk2.lst;have I:=mk2.out;obtain⟨r,_⟩:=e3.oth p _ s I (by intro _ z;cases z);have F:Ext ι2 (dz Y p) ι2 (dz d p):=e3.hide;have c4:=ak (gv A F);refine⟨ι2,S2,ρ2,it.items[i],rep3,mk2.re.unhide.later mk2.rep.unhide e3,rd,av (gw (E:=cL) c4 r I) λρ4 ι4 S4 H4 e4 rep4 ⟨hp4,hn4,c5⟩ σ4 re4=>?_⟩;have l:Rep K ι4 (dz H4 p) S4:=rep4.hide hp4 hn4;have o:Ext ι2 (dz Y p) ι4 (dz H4 p):=F.trans e4.hide;refine⟨ι4,S4,ρ4,rep4,re4,av (gw (E:=cL) (ak c5) hp4 hn4) λb ι5 S5 H5 e5 rep5 ⟨hp5,hn5,c6⟩=>?_⟩;have P:Rep K ι5 (dz H5 p) S5:=rep5.hide hp5 hn5;have N:Ext ι2 (dz Y p) ι5 (dz H5 p):=o.trans e5.hide;have u:RelE K ι5 H5 ρ4 σ4:=re4.later rep4 e5;have G:MkL K p ι5 S5 ρ4 σ4 H5 xs2:=⟨P,u.hide hp5,⟨vs,hp5,rx.later mk2.rep N⟩,hn5⟩;cases b with
   |false=>
    have R:cont K cL (cB it g t bd (it.items.drop (i+1)) ρ4>>=λx=>k (xs2++x.1) x.2) ι5 S5 (dz H5 p) Q:=c6;exact⟨ι5,S5,ρ4,xs2,G,by rw[QT];omega,e2.trans N,R⟩
   |true=>
    have R:cont K cL (bd ρ4>>=λx=>(λys ρ'=>cB it g t bd (it.items.drop (i+1)) ρ'>>=λy=>k (ys++y.1) y.2) (xs2++x.1) x.2) ι5 S5 (dz H5 p) Q:=c6;refine a ι5 S5 ρ4 σ4 H5 xs2 (λys ρ'=>cB it g t bd (it.items.drop (i+1)) ρ'>>=λy=>k (ys++y.1) y.2) _ (n+i*B) G hl2 T R λh S6 w a4 H6 j q a0 e6 c7=>?_;exact⟨h,S6,w,j,q,by rw[QT];omega,e2.trans (N.trans e6),c7⟩
 ·have hd:it.items.drop i=[]:=Qm (by omega);rw[hd]at c2;have L:cont K cL (iz it>>=λ_=>k (xs2++[]) ρ2) ι2 S2 (dz Y p) Q:=by
   have:(cB it g t bd [] ρ2>>=λx=>k (xs2++x.1) x.2)=(iz it>>=λ_=>k (xs2++[]) ρ2):=by show((iz it>>=λ_=>aC ([],ρ2))>>=λx=>k (xs2++x.1) x.2)=_;simp only[du,aj]
   rw[<-this];exact c2
  obtain⟨ok,A⟩:=jW L mk2.rep;rw[Pp]at A;have f:i=it.items.length:=by omega
  refine .inl ⟨(e ι2 Y S2 (e1 _ _ e2) mk2.rep.unhide ok i).2 (by omega),?_⟩;exact hf ι2 S2 ρ2 O Y xs2 mk2 (by rw[<-f];exact hl2) e2 A
theorem Ext.unhideP{H:Hp}(e:Ext ι (dz H p) ι' (dz H' p))(X:H p=ar (.lst ws)):ExtN ι H ι' H':=
 ⟨e.ids,λa o h n t l=>by
  have Z:a≠p:=λz=>by subst z;rw[X]at h;exact l ws (O5 h).symm
  obtain⟨Y,U⟩:=e.oth a o (by rw[hide_ne Z];exact h) n t;exact⟨(cW Y).2,U⟩⟩
theorem LP:Ea K p Q 3000 (JP mi g t m) (MI (Kv K cL mi) (CZ K cL g) (z9 K cL t) (BV p (tM K cL m))):=by
 intro ι S ρ σ H xs k N n mk P y c I;obtain⟨vs,B,C⟩:=mk.lst;have G:cont K cL (mi ρ>>=λit=>(if it.items.length<=3000 then cB it g t (BW m) it.items ρ else M.fail)>>=λx=>k (xs++x.1) x.2) ι S (dz H p) Q:=by
  have:(JP mi g t m ρ>>=λx=>k (xs++x.1) x.2)=(mi ρ>>=λit=>(if it.items.length<=3000 then cB it g t (BW m) it.items ρ else M.fail)>>=λx=>k (xs++x.1) x.2):=by show((mi ρ>>=λit=>_)>>=_)=_;rw[du]
  rw[<-this];exact c
 refine⟨ι,S,ρ,mk.rep.unhide,mk.re.unhide,av (gw (E:=cL) (ak G) B mk.out) λit ι1 S1 H1 e1 rep1 ⟨hp1,hn1,c1⟩ J hJ=>?_⟩;have Z:Ext ι (dz H p) ι1 (dz H1 p):=e1.hide;have T:MkL K p ι1 S1 ρ σ H1 xs:=⟨rep1.hide hp1 hn1,(mk.re.unhide.later mk.rep.unhide e1).hide hp1,⟨vs,hp1,C.later mk.rep Z⟩,hn1⟩;by_cases h:it.items.length<=3000
 ·rw[if_pos h]at c1;exact xE (k:=k) hJ JQ T (λA w e=>e.unhideP hp1) P (by omega) c1 λY L ρ' X F R mk' O z U=>I Y L ρ' X F R mk' (by omega) (Z.trans z) U
 ·rw[if_neg h]at c1;exact(ah (ak c1)).elim
section
variable {X:Cx}{scope:Scope}{Nc:List Str}{js:List (Option Nat)}{elt tg iter tg2 iter2:Expr}{ifs ifs2:List Expr}{pos:Pos}{mi mi2:aO->M Iter}{g g2:nE}{t t2:aO->M Bool}{m:TM}
theorem BX{U:St}{H:Hp}{Q:VK}(h:tM X.K cL (pj mi g t mi2 g2 t2 m js) U H Q):
  D8 (Kv X.K cL mi) js (CZ X.K cL g) (z9 X.K cL t) (λp=>MI (Kv X.K cL mi2) (CZ X.K cL g2) (z9 X.K cL t2) (BV p (tM X.K cL m))) U H Q:=by
 obtain⟨ι,S,ρ,rep,re,c⟩:=h;refine⟨ι,S,ρ,rep,re,av (ak c) λit N S1 T e1 rep1 c1 J P p R=>?_⟩;by_cases hl:it.items.length<=3000
 ·rw[if_pos hl]at c1;have Z:dz (upd T p (.lst [])) p=T:=by rw[eA,iT R]
  refine xE (K:=X.K) (p:=p) (Q:=mB X.K Q) (n:=0) (xs:=[]) (k:=λxs _=>bB xs) (S:=S1) (ρ:=ko js ρ) P LP ⟨by rw[Z];exact rep1,by rw[Z];exact(re.later rep e1).blk js,⟨[],aX,by rw[Z];exact .nil⟩,rep1.free R⟩
   (λL B e=>by rw[Z]at e;exact e.unhide.n) (OX _) (by unfold lim;omega) (by rw[Z];exact c1) λO y ρ' F A G mk' E z C=>?_
  obtain⟨vs,Y,I⟩:=mk'.lst;have:=(bq C mk'.rep I).2 p lX;rw[wQ Y]at this;exact this
 ·rw[if_neg hl]at c1;exact(ah (ak c1)).elim
theorem Eb(c:CompScope X scope Nc js)(T:X.calm=b_)(U:SI X cL tg iter mi)
  (Z:∀C ex s H,SG (bc X scope Nc C ex s H) cL tg g/\Kw (bc X scope Nc C ex s H) cL ifs t/\SI (bc X scope Nc C ex s H) cL tg2 iter2 mi2/\SG (bc X scope Nc C ex s H) cL tg2 g2/\Kw (bc X scope Nc C ex s H) cL ifs2 t2/\SE (bc X scope Nc C ex s H) cL elt m)
  (hs:∀x,kb iter X.env x=aC x:=by intro _;rfl) (Y:∀env x,kb iter2 env x=aC x:=by intro _ _;rfl):
  SE X cL (.ListComp elt [⟨tg,iter,ifs,0⟩,⟨tg2,iter2,ifs2,0⟩] scope pos) (pj mi g t mi2 g2 t2 m js):=
 PE.imp (D9 (wi2:=Kv X.K cL mi2) (g:=CZ X.K cL g) (tt:=z9 X.K cL t) (g2:=CZ X.K cL g2) (tt2:=z9 X.K cL t2) (te:=tM X.K cL m) c T U Z hs Y) λ_ _ _ q=>BX q
end
end
end S3
namespace S7
open PySem PySem.Spec PyProof.Rows L2 S3
section
open Sem (wp)
section
variable {prog:ey}{w:fg}{A:j_}{E:a_->dr->Prop}{h:gg}{g:Array Ti}{d:Drawn}{t:Nat}{os:Tw}
variable {nm q:Str}{C N:dt}{bs bm bmB:List a_}{hdct:Bool}{sn:List Str}{sub:List a_}{ab:Bool}{col:Option Bool}{dd:Option dt}{k0 k1 k2 k3 k5:Option a_}{B Bn newId nid initId inN:String}{bmN:List a_}
theorem qk(O:y3 Bn newId inN bmN)(U:bmB.contains (.type Bn)=b_)(F:y3 B nid initId bmB)(T:Uu h bmB bm){mN:Str->Option a_}{rest:List a_}{fI:dt}{oI:Obj}{Q:Fin->dr->Prop}
  (R:h.get? C=ar (xy nm q C N bs bm hdct sn sub ab col dd k0 k1 k2 k3 k5 newId)) (J:h.Ns N mN) (z:mN "__init__"=ar (.ref fI)) (P:h.get? fI=ar oI) (L:oI.cls= .type "function")
  (H:∀h' e,Tv h h' e (.ref C) rest->
   eb (fc prog w) A (call (.ref fI) (.ref e::rest)) (λr s'=>r= .none/\Q (.done (.ret (.ref e))) s') E ⟨h',g,d,t,os⟩) (hrest:rest.length<=sizeLine:=by size_fits):
  eb (fc prog w) A (Builtin.«type.__call__» ⟨.ref C::rest,[]⟩) Q E ⟨h,g,d,t,os⟩:=by
 repeat (first|with_reducible refine QY R ?_ |with_reducible refine wpAny_madeBy_exc R ?_ |wp_step)
 refine codeAny_call_builtin_code (Rv _ O.quiet) (wpAny_check_new_subU O U T R ?_);refine codeAny_exc_new_subU O U F T R ?_ hrest;show eb _ _ _ _ _ _;have Z:=OD {cls:=.ref C,data:=.fields #[.ref h.objs.size,.none,.none,.none,.bool c_,.none]}
  (OD {cls:=.type "tuple",data:=.seq rest.toArray} R)
 have Y:=OD {cls:=.ref C,data:=.fields #[.ref h.objs.size,.none,.none,.none,.bool c_,.none]}
  (OD {cls:=.type "tuple",data:=.seq rest.toArray} P)
 have W:((h.push {cls:=.type "tuple",data:=.seq rest.toArray}).push {cls:=.ref C,data:=.fields #[.ref h.objs.size,.none,.none,.none,.bool c_,.none]}).Ns N mN:=
  let ⟨o,es,ep,e,r⟩:=J;⟨o,es,ep,OD _ (OD _ e),r⟩
 have X:((h.push {cls:=.type "tuple",data:=.seq rest.toArray}).push
   {cls:=.ref C,data:=.fields #[.ref h.objs.size,.none,.none,.none,.bool c_,.none]}).get? (h.objs.size+1)=ar
   {cls:=.ref C,data:=.fields #[.ref h.objs.size,.none,.none,.none,.bool c_,.none]}:=by heap_get
 have K:(er C::bm).contains (.ref C)=true:=by simp
 have S:=T.keeps (h':=(h.push {cls:=.type "tuple",data:=.seq rest.toArray}).push {cls:=.ref C,data:=.fields #[.ref h.objs.size,.none,.none,.none,.bool c_,.none]})
  λb o e=>OD _ (OD _ e)
 unfold TX
 repeat (first|with_reducible refine QY X ?_ |(with_reducible refine wpAny_isSubtype_exc Z ?_;rw[K])|wp_step)
 show eb _ _ (typeLookup (.ref C) _) _ _ _;refine wpAny_typeLookup_tail Z W S F.mroIs F.init.lookup ?_;rw[z];refine Pl (OB ?_);unfold bindSpecial;refine OB (Rh (T:="function") ⟨_,Y,L⟩ ?_);rw[if_pos (by decide)];refine OE (OB (O6 (H _ (h.objs.size+1) ⟨λb o G=>OD _ (OD _ G),PK (Rc _),h.objs.size,X,PK (OF _),?_⟩) (λr s' y=>?_) λ_ _ x=>x))
 ·exact OD _ (Heap.get?_push_at rfl rfl)
 ·obtain⟨rfl,I⟩:=y
  wp_walk
  exact I
theorem zx(R:y3 Bn newId inN bmN)(Y:bmB.contains (.type Bn)=b_)(F:y3 B nid initId bmB)(T:Uu h bmB bm){mN:Str->Option a_}{rest:List a_}{fI:dt}{oI:Obj}{Q:a_->dr->Prop}
  (Z:h.get? C=ar (xy nm q C N bs bm hdct sn sub ab col dd k0 k1 k2 k3 k5 newId)) (U:h.Ns N mN) (P:mN "__init__"=ar (.ref fI)) (X:h.get? fI=ar oI) (W:oI.cls= .type "function")
  (S:∀h' e,Tv h h' e (.ref C) rest->
   eb (fc prog w) (A.under (.builtin "type.__call__" ⟨.ref C::rest,[]⟩)) (call (.ref fI) (.ref e::rest)) (λr s'=>r= .none/\Q (.ref e) s') E ⟨h',g,d,t,os⟩) (hrest:rest.length<=sizeLine:=by size_fits):
  eb (fc prog w) A (call (.ref C) rest) Q E ⟨h,g,d,t,os⟩:=by
 have f1:=tc_lookup;have f2:=tc_bind (.ref C);have O:(⟨h,g,d,t,os⟩:dr).TypeIs (.ref C) "type":=⟨_,Z,rfl⟩;refine Rf (Ru ?_);show eb _ _ (Vp (.ref C) _) _ _ _
 repeat (any_goals (first|assumption|with_reducible refine QY Z ?_ |wp_step))
 refine⟨rfl,?_⟩;refine codeAny_call_builtin_at (Rv _ (by decide+kernel)) entry_typeCall (wpAny_check_type_call_sub Z (qk (hrest:=hrest) R Y F T Z U P X W λh' e hm=>?_));exact S h' e hm
end
section
variable {M:U3}{A:j_}{E:a_->dr->Prop}{env:Env}
variable {nm q:Str}{C N:dt}{bs bm:List a_}{hdct:Bool}{sn:List Str}{sub:List a_}{ab:Bool}{col:Option Bool}{dd:Option dt}{k0 k1 k2 k3 k5:Option a_}{newId:String}
theorem iW(Y:bm.contains (.type "BaseException")=b_)(S:A.handled=none)
  (h:eb M A x (λv Z=>∃e t od,v= .ref e/\Z.heap.get? C=ar (xy nm q C N bs bm hdct sn sub ab col dd k0 k1 k2 k3 k5 newId)/\Z.heap.get? e=ar {cls:=.ref C,dict:=od,data:=.fields #[.ref t,.none,.none,.none,.bool c_,.none]}/\E (.ref e) Z) E s):
  eb M A (raiseStmt env (ar x) none) Q E s:=by
 have W:(er C::bm).contains (.type "BaseException")=true:=by rw[List.contains_cons,Y,Bool.or_true]
 unfold raiseStmt;refine OB (O6 h (λv Z X=>?_) λ_ _ x=>x);obtain⟨e,t,od,rfl,U,he,T⟩:=X;obtain⟨R,g,d,P,os⟩:=Z
 repeat (first|with_reducible refine QY he ?_ |with_reducible refine QY U ?_ |(with_reducible refine wpAny_isSubtype_exc U ?_;rw[W])|wp_step)
 exact wpAny_raiseNew_none S T
end
section
variable {prog:ey}{w:fg}{A:j_}{E:a_->dr->Prop}{s:dr}{env:Env}
variable {nm q:Str}{C N:dt}{bs bm bmB:List a_}{hdct:Bool}{sn:List Str}{sub:List a_}{ab:Bool}{col:Option Bool}{dd:Option dt}{k0 k1 k2 k3 k5:Option a_}{B Bn newId nid initId inN:String}{bmN:List a_}
theorem xF(l:y3 Bn newId inN bmN)(L:bmB.contains (.type Bn)=b_)(F:y3 B nid initId bmB){mN:Str->Option a_}{x:Str}{y R pos:Pos}{args:List Expr}{fI:dt}{oI:Obj}{Q:Flow->dr->Prop}
  (W:bm.contains (.type "BaseException")=b_) (J:A.handled=none) (P:(n_ R (d_ args env)).any (·.1)=c_) (k:mN "__init__"=ar (.ref fI)) (G:oI.cls= .type "function")
  (h :eb (fc prog w) A (hY (.Name x y) env) (λf U=>f= .ref C/\eb (fc prog w) A (evalArgs (.ref C) b_ (n_ R (d_ args env)) [])
   (λa Z=>a.kw=[]/\a.pos.length<=sizeLine/\Z.heap.get? C=ar (xy nm q C N bs bm hdct sn sub ab col dd k0 k1 k2 k3 k5 newId)/\Z.heap.Ns N mN/\Uu Z.heap bmB bm/\Z.heap.get? fI=ar oI/\
    ∀h' e,Tv Z.heap h' e (.ref C) a.pos->eb (fc prog w) (A.under (.builtin "type.__call__" ⟨.ref C::a.pos,[]⟩)) (call (.ref fI) (.ref e::a.pos)) (λr s'=>r= .none/\
     ∃t od,s'.heap.get? C=ar (xy nm q C N bs bm hdct sn sub ab col dd k0 k1 k2 k3 k5 newId)/\s'.heap.get? e=ar {cls:=.ref C,dict:=od,data:=.fields #[.ref t,.none,.none,.none,.bool c_,.none]}/\E (.ref e) s') E {Z with heap:=h'}) E U) E s):
  eb (fc prog w) A (exec (.Raise (ar (.Call (.Name x y) args [] R)) none pos) env) Q E s:=by
 rw[arm_exec_Raise];first
  |refine OB (PL (iW (C:=C) (nm:=nm) (q:=q) (N:=N) (bs:=bs) (bm:=bm) (hdct:=hdct) (sn:=sn) (sub:=sub) (ab:=ab) (col:=col) (dd:=dd) (k0:=k0) (k1:=k1) (k2:=k2) (k3:=k3) (k5:=k5) (newId:=newId) W J (OB (O6 (Sr (O6 h (λf U X=>?_) λ_ _ x=>x)) (λv O Y=>OB (PL (OE Y))) λ_ _ x=>x))))
  |(simp only[evalOpt,Option.map];refine OB (PL (iW (C:=C) (nm:=nm) (q:=q) (N:=N) (bs:=bs) (bm:=bm) (hdct:=hdct) (sn:=sn) (sub:=sub) (ab:=ab) (col:=col) (dd:=dd) (k0:=k0) (k1:=k1) (k2:=k2) (k3:=k3) (k5:=k5) (newId:=newId) W J (OB (O6 (Sr (O6 h (λf U X=>?_) λ_ _ x=>x)) (λv O Y=>OB (PL (OE Y))) λ_ _ x=>x)))))
  |(refine OB (PL (iW (C:=C) (nm:=nm) (q:=q) (N:=N) (bs:=bs) (bm:=bm) (hdct:=hdct) (sn:=sn) (sub:=sub) (ab:=ab) (col:=col) (dd:=dd) (k0:=k0) (k1:=k1) (k2:=k2) (k3:=k3) (k5:=k5) (newId:=newId) W J ?_));refine OB (O6 (Sr (O6 h (λf U X=>?_) λ_ _ x=>x)) (λv O Y=>OB (PL (OE Y))) λ_ _ x=>x))
 obtain⟨rfl,X⟩:=X;unfold callWith;refine OB (Pl (O6 X (λa Z S=>OB (PL ?_)) λ_ _ x=>x));obtain⟨apos,H⟩:=a;obtain⟨K,hlen,u,o,T,I,S⟩:=S;obtain rfl:H=[]:=K;obtain⟨i,g,d,j,os⟩:=Z;simp only[P];refine OB (wpAny_keeperOf_exc u ?_);refine OB (zx (hrest:=hlen) l L F T u o k I G λh' e hm=>O6 (S h' e hm) (λr s' z=>⟨z.1,OB (Pl (wpAny_point (OE ?_)))⟩) λ_ _ x=>x);obtain⟨_,t,od,p,m,n⟩:=z;exact⟨e,t,od,rfl,p,m,n⟩
end
end
end S7
namespace S7
open PySem PySem.Spec PySem.W PyProof.Rows
section
open Builtin Builtin.ObjectAttr
def xG:List a_->Bool
 | .ref _:: .ref _::r=>r==[.type "ValueError",.type "Exception",.type "BaseException",.type "object"]
 |_=>c_
theorem BY(e:xG l=b_):∃a b,l= .ref a:: .ref b::[.type "ValueError",.type "Exception",.type "BaseException",.type "object"]:=by
 unfold xG at e;split at e
 ·next a b r=>exact⟨a,b,by rw[S9.mp e]⟩
 ·cases e
def Ec(Z:a_)(e:xG l=b_):refuseLoop Z "__setattr__" l=aC ():=by obtain⟨a,b,rfl⟩:=BY e;rw[refuseLoop_ref,refuseLoop_ref];exact PySem.F.store_ValueError.passes Z
structure ExcS(K:Vs)(C:dt):Prop where
 sa:y_ K (.ref C) "__setattr__"=ar (ar (.builtin "object.__setattr__"))
 ob:UT K C (.type "object")=ar b_
 cd:∃cd,Vr K C=ar cd/\cd.hasDict=b_/\xG cd.mro=b_
section
variable {prog:ey}{w:fg}{A:j_}{E:a_->dr->Prop}{s:dr}{K:Vs}{x C:dt}{o:Obj}{vs:Array a_}{mA:Str->Option a_}{name:Str}{v:a_}{R:UV->dr->Prop}
theorem Ed{Q:Fin->dr->Prop}(c:ExcS K C)(X:K.In s.heap)(J:s.heap.get? x=ar o)(m:o.cls= .ref C)(O:o.data= .fields vs)
  (p:(o.dict=none/\∀n,mA n=none)\/∃d,o.dict=ar d/\d≠x/\s.heap.Ns1 d mA)
  (l:∀h' tk' dx,h'.Ns1 dx (λy=>if y=name then ar v else mA y)->dx≠x->h'.get? x=ar {o with dict:=ar dx}->(o.dict=ar dx\/(o.dict=none/\s.heap.get? dx=none))->
   (∀b o,b≠x->b≠dx->s.heap.get? b=ar o->h'.get? b=ar o)->Q (.done (.ret .none)) {s with heap:=h',toks:=tk'}) (j:Within mA ns:=by within_ways) (a4:ns.length<=sizeLine:=by size_fits):
  eb (fc prog w) A (storeInOwnDict (.ref x) (.ref C) (.str name tk) name v b) Q E s:=by
 obtain⟨cd,G,F,_⟩:=c.cd;obtain⟨h,g,d,t,os⟩:=s;obtain⟨oc,od,a,z⟩:=o;dsimp only at J m O p;subst m O;unfold storeInOwnDict;refine OB (OE ?_);show eb _ _ (ownDictForStores (.ref x)>>=_) _ _ _;unfold ownDictForStores instanceDict;refine OB (OB (wpAny_loadPart J (OB ((looks_clsIn X G).here ?_))));rw[F];simp only[t8,fb,if_false];rcases p with⟨hdn,hmA⟩|⟨dx,hdx,hne,hns⟩
 ·have N:od=none:=hdn;subst N;simp only[typeHasDict,t8,Bool.or_self,fb,if_false];have Y:(h.push {cls:=.type "dict",data:=.dict #[]}).get? x=ar ⟨.ref C,none,.fields vs,z⟩:=OD _ J;have U:x≠h.objs.size:=OQ (OJ J);refine OB (wpAny_alloc' ?_);refine OB (wpAny_update' Y ?_);refine OE ?_;have u:((h.push {cls:=.type "dict",data:=.dict #[]}).update x λo=>{cls:=o.cls,dict:=ar h.objs.size,data:=o.data,slots:=o.slots}).get? h.objs.size
    =ar {cls:=.type "dict",data:=.dict #[]}:=
   (QE _ _ _ _ U.symm).trans (Heap.get?_push_at rfl rfl)
  have I:((h.push {cls:=.type "dict",data:=.dict #[]}).update x λo=>{cls:=o.cls,dict:=ar h.objs.size,data:=o.data,slots:=o.slots}).Ns h.objs.size (λ_=>none):=
   ⟨_, #[],_,u,rfl,λe he=>absurd he (by simp),λ_=>rfl⟩
  show eb _ _ (storeInDict h.objs.size (.str name tk) name v) _ _ _;unfold storeInDict newKeyGuard;refine OB (OE (OB (wpAny_nsSet1 (Heap.Ns1.of_empty I) λh' Z hs=>?_)));obtain⟨oD,H,B,P,W,T⟩:=Z.count (Tc name v UL);refine OB (wpAny_lookBehind P (by rw[W];exact pastItsLine_dict (OR T (by rw[O9,D',PC];omega))) ?_)
  wp_walk
  refine l h' _ h.objs.size ?_ U.symm ?_ (.inr ⟨rfl,PK (OF _)⟩) (λb f r S q=>?_)
  ·obtain⟨i,es,ep,e1,e2,e3,eu,k⟩:=Z;exact⟨i,es,ep,e1,e2,e3,eu,λy=>by rw[k y];by_cases hy:y=name<;>simp[hy,hmA]⟩
  ·exact(hs.2 x U).trans (PB _ Y rfl)
  ·exact(hs.2 b S).trans ((QE _ _ _ _ r).trans (OD _ q))
 ·have L:od=ar dx:=hdx;subst L;refine OE ?_;show eb _ _ (storeInDict dx (.str name tk) name v) _ _ _;unfold storeInDict newKeyGuard;refine OB (OE (OB (wpAny_nsSet1 hns λh' Z hs=>?_)));obtain⟨oD,H,B,P,W,T⟩:=Z.count (Tc name v j);refine OB (wpAny_lookBehind P (by rw[W];exact pastItsLine_dict (OR T (by rw[O9];omega))) ?_)
  wp_walk
  exact l h' _ dx Z hne ((hs.2 x hne.symm).trans J) (.inl rfl) (λb f _ S q=>(hs.2 b S).trans q)
theorem pU{Q:Unit->dr->Prop}(c:ExcS K C)(X:K.In s.heap)(O:s.heap.get? x=ar o)(P:o.cls= .ref C)(W:o.data= .fields vs)(u:y_ K (.ref C) name=ar none)
  (J:(o.dict=none/\∀n,mA n=none)\/∃d,o.dict=ar d/\d≠x/\s.heap.Ns1 d mA)
  (z:∀h' Y Z,h'.Ns1 Z (λy=>if y=name then ar v else mA y)->Z≠x->h'.get? x=ar {o with dict:=ar Z}->(o.dict=ar Z\/(o.dict=none/\s.heap.get? Z=none))->
   (∀b o,b≠x->b≠Z->s.heap.get? b=ar o->h'.get? b=ar o)->Q () {s with heap:=h',toks:=Y}) (B:Within mA ns:=by within_ways) (L:ns.length<=sizeLine:=by size_fits):
  eb (fc prog w) A (setAttr (.ref x) name v) Q E s:=by
 obtain⟨cd,N,H,S⟩:=c.cd;have U:notCls o=true:=by unfold notCls;rw[W]
 have I:∃od,InstAt s.heap x o C od:=by
  rcases J with⟨hdn,_⟩|⟨Z,hdx,_,⟨od,es,ep,e1,_⟩⟩
  ·exact⟨none,O,P,U,by rw[hdn];trivial⟩
  ·exact⟨ar od,O,P,U,by rw[hdx];exact e1⟩
 obtain⟨od,I⟩:=I;refine set_plain X I c.sa ?_;have T:=PySem.F.store_object;have sub:Looks (fc prog w) s.heap (TX (.ref x) (.type "object")) true:=I.type.andThen (looks_mroIn X c.ob);refine Q4 T.slot.plain T.entry (@check_slot (fc prog w) _ _ {s with toks:=s.toks+1} "object.__setattr__" "object" "__setattr__" (.ref x) [.str name s.toks,v] [] _ T.kind T.split sub (T.args (.ref x) (.str name s.toks) v) ?_);have hm:Looks (fc prog w) s.heap (mroOf (.ref C)) cd.mro:=(looks_clsIn X N).andThen .now;rw[osa_eq,refuse_eq];refine OB (OB (I.type _ _ _ _ (λ_ _ e=>e) (OB (hm _ _ _ _ (λ_ _ e=>e) ?_))));rw[Ec _ S];refine OE (OB (I.type _ _ _ _ (λ_ _ e=>e) (OB (Ub X u _ _ _ _ (λ_ _ e=>e) (OB (OE ?_))))));exact Ed (s:={s with toks:=s.toks+1}) c X O P W J (λh' Y Z a1 a2 a3 G a5=>z h' Y Z a1 a2 a3 G a5) B L
end
end
end S7
namespace S7
open PySem PySem.Spec PyProof.Rows L2 S3
def ib(C a t:dt)(od:Option dt):gg->Prop:=λh=>h.get? a=ar {cls:=.ref C,dict:=od,data:=.fields #[.ref t,.none,.none,.none,.bool c_,.none]}
def jk(dx:dt)(fs:List (Str×V)):gg->Prop:=λh=>∃mA,h.Ns1 dx mA/\(∀f,uO (fs.lookup f) (mA f))/\PySem.Within mA (fs.map (·.1))
def BZ{Z:gg}(p:ib C a t od h1)(k:∀o,h1.get? a=ar o->Z.get? a=ar o):ib C a t od Z:=k _ p
def B0{Z:gg}(p:jk dx fs h1)(k:∀o,h1.get? dx=ar o->Z.get? dx=ar o):jk dx fs Z:=by obtain⟨mA,⟨o,es,ep,e,r⟩,q⟩:=p;exact⟨mA,⟨o,es,ep,k _ e,r⟩,q⟩
def Ee(p:ib C a t od h):bC P w H h a (.ext (ib C a t od)):=⟨p,⟨_,p⟩,λ_ _ q k=>BZ q k⟩
def HJ(p:jk dx fs h):bC P w H h dx (.ext (jk dx fs)):=⟨p,(let ⟨_,⟨o,_,_,e,_⟩,_⟩:=p;⟨o,e⟩),λ_ _ q k=>B0 q k⟩
section
variable {X:Cx}{pins:List (dt×Obj)}{σ:L2.St}{H:Hp}{s:dr}{h':gg}{t':Nat}
theorem Inv.laidG(I:L2.Inv X pins σ H s)(k:∀b u,s.heap.get? b=ar u->h'.get? b=ar u)(W:s.heap.get? a=none)(Y:bC X.prog X.w (upd H a o) h' a o):L2.Inv X pins σ (upd H a o) {s with heap:=h',toks:=t'}:=by
 have Z:H a=none:=gD.gone I.hok W;have ne:∀b u,s.heap.get? b=ar u->b≠a:=λb u q=>iD q W;refine I.un (t':=t') ⟨λb u q _ _ _=>k b u q,λb u q _ _ _=>⟨u.slots,k b u q⟩,λb u q n _=>by rw[aI (ne b u q)];exact n,λb u q _=>⟨u,k b u q⟩,λb xs q=>by rw[aI (aU q Z)];exact q,λb u xs q=>by rw[aI (aU q Z)];exact q,λb U q=>⟨#[],by rw[aI (aU q Z),q];simp⟩⟩ λb u e=>?_;by_cases hb:b=a
 ·subst hb;rw[aX]at e;cases e;exact Y
 ·rw[aI hb]at e;exact(I.hok b u e).stay (λc v _ q=>k c v q) (λc q=>by rw[aI (aU q Z)];exact q) λc xs q=>by rw[aI (aU q Z)];exact q
theorem Inv.write2(I:L2.Inv X pins σ H s)(R:H a=ar (.ext φ))(Z:(∃ ψ,H b=ar (.ext ψ))\/s.heap.get? b=none)(k:∀c v,c≠a->c≠b->s.heap.get? c=ar v->h'.get? c=ar v)(T:∃v,h'.get? a=ar v)(S:∃v,h'.get? b=ar v)
  (P:b≠a) (Q:∀H',bC X.prog X.w H' h' a o) (nb:∀H',bC X.prog X.w H' h' b u):L2.Inv X pins σ (upd (upd H b u) a o) {s with heap:=h',toks:=t'}:=by
 have U:∀c v,H c=ar v->(∀ ψ,v≠ .ext ψ)->c≠a/\c≠b:=λc v e n=>by
  refine⟨λz=>?_,λz=>?_⟩
  ·subst z;rw[R]at e;cases e;exact n _ rfl
  ·subst z;rcases Z with⟨ψ,Z⟩|Z
   ·rw[Z]at e;cases e;exact n _ rfl
   ·rw[gD.gone I.hok Z]at e;cases e
 have free:∀c v,s.heap.get? c=ar v->H c=none->c≠a/\c≠b:=λc v q n=>by
  refine⟨λz=>?_,λz=>?_⟩
  ·subst z;rw[R]at n;cases n
  ·subst z;rcases Z with⟨ψ,Z⟩|Z
   ·rw[Z]at n;cases n
   ·rw[Z]at q;cases q
 have up:∀c v,H c=ar v->(∀ ψ,v≠ .ext ψ)->upd (upd H b u) a o c=ar v:=λc v e n=>by obtain⟨Y,W⟩:=U c v e n;rw[aI Y,aI W];exact e
 refine I.un (t':=t') ⟨λc v q n _ _=>k c v (free c v q n).1 (free c v q n).2 q,λc v q n _ _=>⟨v.slots,k c v (free c v q n).1 (free c v q n).2 q⟩,λc v q n _=>by rw[aI (free c v q n).1,aI (free c v q n).2];exact n,λc v q _=>?_,λc xs q=>up c _ q (by intro _ z;cases z),λc w xs q=>up c _ q (by intro _ z;cases z),λc O q=>⟨#[],by rw[up c _ q (by intro _ z;cases z)];simp⟩⟩ λc v e=>?_
 ·by_cases Y:c=a
  ·subst Y;exact T
  ·by_cases W:c=b
   ·subst W;exact S
   ·exact⟨v,k c v Y W q⟩
 ·by_cases Y:c=a
  ·subst Y;rw[aX]at e;cases e;exact Q _
  ·rw[aI Y]at e;by_cases W:c=b
   ·subst W;rw[aX]at e;cases e;exact nb _
   ·rw[aI W]at e;have own:∀d,H d=ar (.own c)->d≠a/\d≠b:=λd q=>U d _ q (by intro _ z;cases z);refine(I.hok c v e).stay (λd w hd q=>?_) (λd q=>up d _ q (by intro _ z;cases z)) λd xs q=>up d _ q (by intro _ z;cases z);rcases hd with rfl|hd
    ·exact k _ w Y W q
    ·exact k d w (own d hd).1 (own d hd).2 q
end
section
variable {X:Cx}{o value:Expr}{ta tv:TE}{f:Str}{pos pos':Pos}
def LQ(K:dV)(ta tv:TE)(f:Str):TS:=λD σ H=>tv σ H λy H1=>ta σ H1 λx H2=>∃p C t,x= .ref p/\ExcS K C/\F_ K (.ref C) f=ar none/\
  ((H2 p=ar (.ext (ib C p t none))/\∀dx,H2 dx=none->dx≠p->D.nx σ (upd (upd H2 dx (.ext (jk dx [(f,y)]))) p (.ext (ib C p t (ar dx)))))\/
   (∃dx fs,H2 p=ar (.ext (ib C p t (ar dx)))/\H2 dx=ar (.ext (jk dx fs))/\dx≠p/\fs.lookup f=none/\fs.length<=100/\D.nx σ (upd (upd H2 dx (.ext (jk dx (fs++[(f,y)])))) p (.ext (ib C p t (ar dx))))))
theorem pV{α:Type}{g f:Str}{y:α}:∀{fs:List (Str×α)},fs.lookup f=none->(fs++[(f,y)]).lookup g=if g=f then ar y else fs.lookup g
 |[],_=>by
  show(match g==f with|true=>ar y|false=>none)=_;by_cases h:g=f
  ·subst h;simp
  ·rw[if_neg h,RW h];rfl
 | (a,b)::r,h=>by
  rw[Pd]at h;by_cases hf:f=a
  ·subst hf;simp at h
  ·rw[RW hf]at h;rw[y',Pd,Pd,pV (fs:=r) h];by_cases hg:g=a
   ·subst hg;have Z:¬ g=f:=λz=>hf z.symm;simp[Z]
   ·rw[RW hg]
theorem Az(m:PE X o ta)(n:PE X value tv)(hs:lb value (ar (.Attribute o f pos')) pos.line X.env=aC c_):PS X (.Assign [.Attribute o f pos'] value pos) (LQ X.K ta tv f):=by
 intro pins s σ H D I h;refine plainObj_wpAny_Assign_Attribute (dW (n pins s σ H _ I h) λu s1 ⟨y,H1,I1,ry,q⟩=>dW (m pins s1 σ H1 _ I1 q) λl s2 ⟨x,H2,I2,rx,p,C,t,ex,c,hf,q2⟩=>?_) hs;subst ex;obtain rfl:l=er p:=rx;rcases q2 with⟨hp,q⟩|⟨Z,fs,hp,hd,Y,hl,hlen,q⟩
 ·have E:s2.heap.get? p=ar {cls:=.ref C,dict:=none,data:=.fields #[.ref t,.none,.none,.none,.bool c_,.none]}:=(I2.hok p _ hp).1;refine pU (mA:=λ_=>none) (ns:=[]) c I2.kIn E rfl rfl hf (.inl ⟨rfl,λ_=>rfl⟩) (λh' S Z T Y W U N=>?_) UL (by simp);rcases U with U|⟨_,hnew⟩
  ·cases U
  have J:ib C p t (ar Z) h':=W;have Q:jk Z [(f,y)] h':=⟨_,T,λg=>by
   show uO (match g==f with|true=>ar y|false=>none) _;by_cases hg:g=f
   ·subst hg;simp;exact ry
   ·rw[RW hg,if_neg hg];exact trivial,Tc f u UL⟩
  obtain⟨F,⟨od,es,ep,e1,_⟩,_⟩:=id Q;have A:=Inv.write2 (t':=S) (a:=p) (b:=Z) (o:=.ext (ib C p t (ar Z))) (u:=.ext (jk Z [(f,y)])) I2 hp (.inr hnew) (λc v O G q=>N c v O G q) ⟨_,W⟩ ⟨_,e1⟩ Y (λ_=>Ee J) (λ_=>HJ Q);exact⟨σ,_,A,q Z (gD.gone I2.hok hnew) Y⟩
 ·have E:s2.heap.get? p=ar {cls:=.ref C,dict:=ar Z,data:=.fields #[.ref t,.none,.none,.none,.bool c_,.none]}:=(I2.hok p _ hp).1;obtain⟨mA,P,R,hw⟩:=(I2.hok Z _ hd).1;refine pU (mA:=mA) (ns:=fs.map (·.1)) c I2.kIn E rfl rfl hf (.inr ⟨Z,rfl,Y,P⟩) (λh' S B T w W U N=>?_) hw (by rw[OC,PC];omega);have L:Z=B:=by
   rcases U with U|⟨U,_⟩
   ·exact O5 U
   ·cases U
  subst L;have J:ib C p t (ar Z) h':=W;have Q:jk Z (fs++[(f,y)]) h':=⟨_,T,λg=>by
   rw[pV hl];by_cases hg:g=f
   ·subst hg;simp;exact ry
   ·rw[if_neg hg,if_neg hg];exact R g,by
   have:=Tc f u hw;intro z r;have:=this z r;simp only[List.map_append,K',TY,Td,gc,f_,or_false]at this⊢;exact this.symm⟩
  obtain⟨F,⟨od,es,ep,e1,_⟩,_⟩:=id Q;have A:=Inv.write2 (t':=S) (a:=p) (b:=Z) (o:=.ext (ib C p t (ar Z))) (u:=.ext (jk Z (fs++[(f,y)]))) I2 hp (.inl ⟨_,hd⟩) (λc v O G q=>N c v O G q) ⟨_,W⟩ ⟨_,e1⟩ Y (λ_=>Ee J) (λ_=>HJ Q);exact⟨σ,_,A,q⟩
end
end S7
section
namespace S7
open PySem PySem.Spec PyProof.Rows L2 S3
theorem Gw{K:dV}{Z:Str->Option a_}(X:K.In h)(G:h.Ns N Z)(e:p7 K N n=ar (ar v)):Z n=ar v:=by
 obtain⟨o,es,ep,Y,hd,_,hf⟩:=G;unfold p7 at e;split at e
 ·rename_i c d es' n' sl q
  have:=X _ _ q;rw[Y]at this;cases this;cases hd;split at e
  ·rename_i en he
   cases e;rw[<-hf];unfold nsFind findBy;rw[<-R3,he];rfl
  ·split at e<;>cases e
 ·cases e
def mj(K:dV)(C f:dt):Bool:=match K.lookup C with
 |some ⟨.type "type",_,.cls cd,sl⟩=>(match cd.mro,sl.toList with
  | .ref C'::bm,[_,_,_,_,ar (.builtin n),_]=>C'==C && n=="ValueError.__new__" && !cd.hasDel && W.tailIn K KB bm && W.nsOkIn K cd.ns && p7 K cd.ns "__init__"==ar (ar (.ref f)) && cd.hasDict && xG cd.mro
  |_,_=>c_) && (F_ K (.ref C) "__setattr__"==ar (ar (.builtin "object.__setattr__"))) && (match K.lookup f with|some o=>o.cls== .type "function"|none=>c_)
 |_=>c_
theorem uB{K:dV}(X:K.In h)(c:ExcC K C)(q:mj K C f=b_):ExcS K C/\(∃o,K.lookup f=ar o/\o.cls= .type "function")/\∃bm N nm qn bs hdct sn sub ab col dd k0 k1 k2 k3 k5 mN,
  h.get? C=ar (xy nm qn C N bs bm hdct sn sub ab col dd k0 k1 k2 k3 k5 "ValueError.__new__")/\h.Ns N mN/\mN "__init__"=ar (.ref f)/\Uu h KB bm:=by
 unfold mj at q;split at q
 case h_2=>cases q
 case h_1 dd cd P ho=>
 simp only[hO,beq_iff_eq]at q;obtain⟨⟨q,R⟩,Y⟩:=q;split at q
 case h_2=>cases q
 case h_1 C' bm k0 k1 k2 k3 n k5 hm hs=>
 simp only[hO,beq_iff_eq,K_]at q;obtain⟨⟨⟨⟨⟨⟨⟨J,en⟩,Z⟩,I⟩,U⟩,L⟩,T⟩,S⟩:=q;subst J en;have Q:Uc K C'=ar cd:=by unfold Uc;rw[ho]
 refine⟨⟨R,c.ob,cd,Q,T,S⟩,?_,?_⟩
 ·split at Y
  ·next o hf=>exact⟨o,hf,S9.mp Y⟩
  ·cases Y
 rcases cd with⟨nm,bs,mro,ns,qn,hd,sn,sub,ab,col,del⟩;dsimp only at hm Z U L;subst hm Z;obtain rfl:P= #[k0,k1,k2,k3,ar (.builtin "ValueError.__new__"),k5]:=by rcases P with⟨l⟩;simp only at hs;rw[hs]
 have O:h.Ns ns (h.nsMap ns):=.of_isNs (W.isNs_of_in X U);exact⟨bm,ns,nm,qn,bs,hd,sn,sub,ab,col,dd,k0,k1,k2,k3,k5,_,X _ _ ho,O,Gw X O L,W.tail_of_in X I⟩
def MJ(C:dt):Sp:=λvs H Q _=>∃e t v1 v2,vs=[.ref e,v1,v2]/\H e=ar (.ext (ib C e t none))/\∀dx,H dx=none->dx≠e->Q .non (upd (upd H dx (.ext (jk dx [("many",v1),("most",v2)]))) e (.ext (ib C e t (ar dx))))
theorem xH(h:a≠b):upd (upd H a o) b u=upd (upd H b u) a o:=by
 funext c;unfold upd;by_cases h1:c=b
 ·by_cases h2:c=a
  ·exact absurd (h2.symm.trans h1) h
  ·rw[if_pos h1,if_neg h2,if_pos h1]
 ·rw[if_neg h1];by_cases h2:c=a
  ·rw[if_pos h2,if_pos h2]
  ·rw[if_neg h2,if_neg h2,if_neg h1]
theorem Gx{P:ey}{w:fg}{K:dV}{S:Str->Option a_}{base:gg}{C f:dt}{L:lx}{X:pa}{u G m o B p I y:Pos}(F:Fun K "__init__" "TooGreat.__init__" X f L)(J:ExcS K C)(c:ExcC K C)
  (v:FnScope ["self","many","most"] ["self","many","most"] (aw X)) (N:∀x∈(["self","many","most"]:List Str),(aw X).names.lookup x=ar .local)
  (n:dw X=[.Assign [.Attribute (.Name "self" u) "many" G] (.Name "many" m) o,.Assign [.Attribute (.Name "self" B) "most" p] (.Name "most" I) y]):
  FnOk P w K S base (mE P w) 1 f L ["self","many","most"] (MJ C):=by
 obtain⟨k,od,kV,doc,pm,an,U,ct,r,rfl,z,O⟩:=F.ex;refine CK z O v (λvs H Q E ⟨_,_,_,_,h,_⟩=>by rw[h];rfl) λA outer s H vs Q E l h=>?_;rw[n];have v0:Ct (kP (mE P w) P w K S base ["self","many","most"] "TooGreat.__init__" (aw X) f U A outer s H E).env.scope "self":=.inl (N "self" (by simp));have v1:Ct (kP (mE P w) P w K S base ["self","many","most"] "TooGreat.__init__" (aw X) f U A outer s H E).env.scope "many":=.inl (N "many" (by simp));have v2:Ct (kP (mE P w) P w K S base ["self","many","most"] "TooGreat.__init__" (aw X) f U A outer s H E).env.scope "most":=.inl (N "most" (by simp));refine⟨_,wB (Az (pv 0 rfl v0) (pv 1 rfl v1) rfl) (uT (Az (pv 0 rfl v0) (pv 2 rfl v2) rfl)),?_⟩;obtain⟨e,t,T,R,rfl,he,q⟩:=h;refine⟨T,rfl,.ref e,rfl,e,C,t,rfl,J,c.mf,.inl ⟨he,λZ hd Y=>?_⟩⟩;refine⟨R,rfl,.ref e,rfl,e,C,t,rfl,J,c.ms,.inr ⟨Z,[("many",T)],aX,by rw[aI Y];exact aX,Y,rfl,by simp,?_⟩⟩;have:=q Z hd Y;have e2:upd (upd (upd (upd H Z (.ext (jk Z [("many",T)]))) e (.ext (ib C e t (ar Z)))) Z (.ext (jk Z [("many",T),("most",R)]))) e (.ext (ib C e t (ar Z)))=upd (upd H Z (.ext (jk Z [("many",T),("most",R)]))) e (.ext (ib C e t (ar Z))):=by rw[xH Y.symm,uP,uP]
 show Q .non _;rw[<-e2]at this;exact this
section
variable {X:Cx}{Ek:XK}
theorem Inv.forget{H:Hp}(I:L2.Inv X pins σ (upd (upd H dx (.ext (jk dx fs))) e (.ext φ)) s)(P:H dx=none)(S:H e=none)(U:dx≠e):
  L2.Inv X pins σ (upd H dx (.xd fs)) s:=by
 have Y:∀b u,upd (upd H dx (.ext (jk dx fs))) e (.ext φ) b=ar u->(∀ χ,u≠ .ext χ)->upd H dx (.xd fs) b=ar u:=λb u q n=>by
  by_cases W:b=e
  ·subst W;rw[aX]at q;cases q;exact absurd rfl (n _)
  ·rw[aI W]at q;by_cases Z:b=dx
   ·subst Z;rw[aX]at q;cases q;exact absurd rfl (n _)
   ·rw[aI Z]at q⊢;exact q
 have T:∀b,upd (upd H dx (.ext (jk dx fs))) e (.ext φ) b=none->upd H dx (.xd fs) b=none:=λb q=>by
  by_cases W:b=e
  ·subst W;rw[aX]at q;cases q
  ·rw[aI W]at q;by_cases Z:b=dx
   ·subst Z;rw[aX]at q;cases q
   ·rw[aI Z]at q⊢;exact q
 refine I.un (t':=s.toks) ⟨λb o q _ _ _=>q,λb o q _ _ _=>⟨o.slots,q⟩,λb o _ n _=>T b n,λb o q _=>⟨o,q⟩,λb xs q=>Y b _ q (by intro _ z;cases z),λb o u q=>Y b _ q (by intro _ z;cases z),λb Q q=>⟨#[],by rw[Y b _ q (by intro _ z;cases z)];simp⟩⟩ λb u q=>?_;by_cases Z:b=dx
 ·subst Z;rw[aX]at q;cases q;have R:=I.hok b (.ext (jk b fs)) (by rw[aI U];exact aX);obtain⟨mA,W,Z,_⟩:=R.1;exact⟨mA,W,Z⟩
 ·rw[aI Z]at q;have W:b≠e:=λz=>by rw[z,S]at q;cases q
  exact(I.hok b u (by rw[aI W,aI Z];exact q)).stay (λ_ _ _ z=>z) (λc z=>Y c _ z (by intro _ z;cases z)) λc xs z=>Y c _ z (by intro _ z;cases z)
def Ef:List D->M Out
 |[a,b]=>M.raise (.exc "TooGreat" [a,b])
 |_=>M.fail
abbrev vH(ms:aO->M (List D)):dq:=λρ=>do let ds<-ms ρ;Ef ds
theorem B5(L:Leaves X Ek)(hc:X.calm=b_)(eK:gT X.K=b_)(d:p7 X.K g_ "TooGreat"=ar (ar (.ref C)))(b1:mj X.K C f=b_)
  (F:FnOk X.prog X.w X.K X.mg X.base (mE X.prog X.w) k f fd ["self","many","most"] (MJ C)) (hb:Binds X.K fd ["self","many","most"] []) (hr:Room (k+1) X.A)
  (ha:SA X (xo X.K Ek) (e::es) ms) (hg:Gl X "TooGreat":=by rfl)
  (he:d_ (e::es) X.env=(c_,hY e X.env)::d_ es X.env:=by rfl) (a6:(n_ cpos (d_ es X.env)).any (·.1)=false:=by rfl):
  SS X (xo X.K Ek) (.Raise (ar (.Call (.Name "TooGreat" np) (e::es) [] cpos)) none pos) (vH ms):=by
 intro pins s σ H T I h;obtain⟨ι,S,ρ,rep,re,c⟩:=h;obtain⟨R,g⟩:=lA eK (show("TooGreat":Str)∈bb by decide);have eC:R=C:=by have:=g.ns.symm.trans d;cases this;rfl
 subst eC;obtain⟨cS,⟨oI,a5,a0⟩,bm,N,nm,qn,bs,hdct,sn,sub,ab,col,dd,k0,k1,k2,k3,k5,mN,hC,hN,hi,tl⟩:=uB I.mod.kin g.ck b1;have hm:X.mg "TooGreat"=ar (.ref R):=QF I.mod.kin I.mod.glob g.ns;refine xF (k5:=k5) (k3:=k3) (k2:=k2) (k1:=k1) (k0:=k0) (nm:=nm) (q:=qn) (C:=R) (N:=N) (bm:=bm) (bs:=bs) (hdct:=hdct) (sn:=sn) (sub:=sub) (ab:=ab) (col:=col) (dd:=dd) (fI:=f) (oI:=oI) Qo (by decide) Qo (mN:=mN) (tl.hasType PySem.F.excBase_ValueError.hasBase) (I.ok.hd hc) (by rw[he];show(c_||(n_ cpos (d_ es X.env)).any (·.1))=c_;rw[a6];rfl) hi a0 (lW I hg hm ⟨rfl,?_⟩ (by decide));have G:=ha cpos pins s σ H _ I ⟨ι,S,ρ,rep,re,av (ak c) λds Y S1 Q e1 rep1 c1 vs E=>(⟨Y,S1,ds,rep1,E,c1⟩:∃Y S1 ds,Rep X.K Y Q S1/\RelDs X.K Y Q ds vs/\cont X.K (xo X.K Ek) (Ef ds) Y S1 Q _)⟩;rw[he]at G⊢;refine RO (O6 G (λus s2 a=>?_) λ_ _ z=>z);obtain⟨vs,Q,p,rv,Y,S1,ds,rep1,E,c1⟩:=a
 match ds,E,c1 with
 |[],E,c1=>exact(ah c1).elim
 |[_],E,c1=>exact(ah c1).elim
 |_::_::_::_,E,c1=>exact(ah c1).elim
 | [da,db],E,c1=>
  obtain⟨y,ws,rfl,ra,r2⟩:=E.cons_inv;obtain⟨o,e4,rfl,rb,r3⟩:=r2.cons_inv;cases r3.nil_inv;have hlen:us.length=2:=rv.length.symm;refine⟨rfl,?_,p.bk _ _ hC,hN.keeps p.bk,tl.keeps p.bk,p.bk _ _ (I.mod.kin _ _ a5),λh' Z hm=>?_⟩
  ·show us.length<=sizeLine;rw[hlen,PC];decide
  ·obtain⟨t,h1,h2,h3⟩:=hm.there;have m:Q Z=none:=gD.gone p.hok hm.new;have j:L2.Inv X pins σ (upd Q Z (.ext (ib R Z t none))) {s2 with heap:=h'}:=Inv.laidG (t':=s2.toks) p hm.keeps hm.new (Ee h1);have b:MJ R [.ref Z,y,o] (upd Q Z (.ext (ib R Z t none))) (λv H'=>v= .non/\∃U,upd Q Z (.ext (ib R Z t none)) U=none/\U≠Z/\H'=upd (upd (upd Q Z (.ext (ib R Z t none))) U (.ext (jk U [("many",y),("most",o)]))) Z (.ext (ib R Z t (ar U)))) Ek:=
    ⟨Z,t,y,o,rfl,aX,λU hd P=>⟨rfl,U,hd,P,rfl⟩⟩
   have a3:bx [V.ref Z,y,o] (er Z::us):=.cons rfl rv;refine Rf (Qi (F.run _ X.stack _ _ ⟨er Z::us,[]⟩ (er Z::us) _ _ Ek (hr.make R us []) (j.env0.make R us []) ?_ a3 b) λr s' O=>?_)
   ·have:=hb {s2 with heap:=h'} (er Z::us) j.kIn (by simp[hlen]);rw[Pp]at this;exact this
   ·cases r with
    |error x=>exact L.pass pins σ _ _ x s' j O
    | ok fl=>
     cases fl with
     |next=>exact ip O
     |brk=>exact ip O
     |cont=>exact ip O
     | ret u=>
      obtain⟨v,H',i,a4,ev,U,l,P,rfl⟩:=j.after O;subst ev;have J:Q U=none:=by rw[aI P]at l;exact l
      have e2:upd (upd (upd Q Z (.ext (ib R Z t none))) U (.ext (jk U [("many",y),("most",o)]))) Z (.ext (ib R Z t (ar U)))=upd (upd Q U (.ext (jk U [("many",y),("most",o)]))) Z (.ext (ib R Z t (ar U))):=by rw[xH P.symm,uP]
      rw[e2]at i;have B:s'.heap.get? Z=ar {cls:=.ref R,dict:=ar U,data:=.fields #[.ref t,.none,.none,.none,.bool c_,.none]}:=(i.hok Z _ aX).1;have I4:=Inv.forget i J m P;refine⟨a4,t,ar U,i.bk _ _ hC,B,?_⟩;obtain⟨r',S',e',q'⟩:=c1;cases e';have n:=p.base;rw[L.ex]at n;refine L.new I4 B rfl rfl rfl rfl (by rw[aI (kC P)];exact m) (Un.gone n (by simp) hm.new) ?_;have hE:Ext Y Q Y (upd Q U (.xd [("many",y),("most",o)])):=fx J;exact q' Y _ hE (gF rep1 J) _ _ ⟨"TooGreat",[da,db],R,rfl,g.ns,rfl,.inr ⟨U,_,rfl,aX,rfl,.cons (ra.later rep1 hE) (.cons (rb.later rep1 hE) .nil)⟩⟩
end
end S7
end
namespace S7
open PySem PySem.Spec PyProof.Rows L2 S3
theorem Eg{h:gg}{mA:Str->Option a_}(n:h.Ns1 dx mA)(e:h.get? dx=ar od)(Y:mA f=ar v):T3 f od=ar (ar v):=by
 obtain⟨o,es,ep,e1,hd,_,_,hf⟩:=n;rw[e]at e1;cases e1;unfold T3;rw[hd];have:=hf f;rw[Y]at this;unfold nsFind findBy at this;rw[<-R3]at this;cases q:es.toList.find? (·.key.isStr f)with
 |none=>rw[q]at this;cases this
 |some en=>
  rw[q]at this;have Z:en.val=v:=O5 this;rw[<-Z];dsimp only;rw[q]
section
variable {X:Cx}{E:XD}{pins:List (dt×Obj)}{σ:L2.St}{H:Hp}{s:dr}
theorem xI{a C Y:dt}{fs:List (Str×V)}{f:Str}{v:V}{b:Bool}{Q:a_->dr->Prop}{A:j_}{E:a_->dr->Prop}(c:ExcC X.K C)(T:∀cd,Uc X.K C=ar cd->cd.hasDict=b_)(S:F_ X.K (.ref C) f=ar none)(I:L2.Inv X pins σ H s)(G:H a=ar (.ext (qf C a (ar Y))))(L:H Y=ar (.xd fs))(y:fs.lookup f=ar v)
  (N:W.copiedNames.contains f=c_) (h:∀u s',L2.Inv X pins σ H s'->RelV v u->Q u s'):eb (fc X.prog X.w) A (Vk (.ref a) f b) Q E s:=by
 obtain⟨⟨z,vs,he,F,B,U⟩,_⟩:=I.hok a _ G;obtain⟨mA,P,O⟩:=(show ∃mA,s.heap.Ns1 Y mA/\∀f,uO (fs.lookup f) (mA f)from I.hok Y _ L);obtain⟨od,es,ep,e1,_⟩:=id P;obtain⟨u,x,R⟩:=uO.some_of (v:=v) (o:=mA f) (by rw[<-y];exact O f);have J:A' s.heap a z C (ar od):=⟨he,F,by unfold Va;rw[U],by rw[B];exact e1⟩;obtain⟨cd,Z⟩:=Px.mp c.cd;have hf:W.findObj X.K C (ar od) f=ar (.value u):=by unfold W.findObj;rw[Z,QJ,S,QJ];simp only[M'];unfold W.ownOf;rw[T cd Z,if_pos rfl];dsimp only;rw[Eg P e1 x];rfl
 unfold Vk;refine OB (wpAny_mkText ?_);refine DM (s:={s with toks:=s.toks+1}) I.kIn J c.ga c.gt c.be ?_;refine tG (s:={s with toks:=s.toks+1}) I.kIn J hf ?_;exact W.handed_on (Bd R) (h u _ (I.tok _) R)
def AA(second:Bool):D->M D
 | .exc n [a,b]=>if n∈bb then aC (if second then b else a)else M.fail
 |_=>M.fail
abbrev j6(second:Bool)(m:TM):TM:=λρ=>do let x<-m ρ;AA second x
theorem AB{e:Expr}{m:TM}{pos:Pos}{Z:Bool}{f:Str}(z:gT X.K=b_)(R:∀n∈bb,∀C,p7 X.K g_ n=ar (ar (.ref C))->∀cd,Uc X.K C=ar cd->cd.hasDict=b_)(L:SE X E e m)(P:f=if Z then "most" else "many")(w:nN e f X.env (hY e X.env)=hY e X.env:=by rfl):
  SE X E (.Attribute e f pos) (j6 Z m):=by
 intro pins s σ H Q I h;refine FI w (dW (L pins s σ H (λv Y=>∃ ι d,RelD X.K ι Y d v/\∃n a b va vb C dx p,d= .exc n [a,b]/\n∈bb/\v= .ref p/\p7 X.K g_ n=ar (ar (.ref C))/\Y p=ar (.ext (qf C p (ar dx)))/\Y dx=ar (.xd [("many",va),("most",vb)])/\Q (if Z then vb else va) Y) I ?_) λu s1 ⟨v,Y,I1,rv,ι,d,rd,n,a,b,va,vb,C,dx,p,hd,hn,hp,hns,g1,g2,q⟩=>?_)
 ·obtain⟨ι,S,ρ,rep,re,c⟩:=h;refine⟨ι,S,ρ,rep,re,av (ak c) λd T S1 Y e1 rep1 c1 v r=>⟨T,d,r,?_⟩⟩;unfold AA at c1;split at c1
  ·next n a b=>
   split at c1
   ·next hn=>
    cases r with
    | excF hns h1 h2 h3 h4=>
     rename_i p C dx fs
     match fs,h3,h4,h2 with
     |[(f1,va),(f2,vb)],h3,h4,h2=>
      have e1:f1="many":=(Qe h3).1;have e2:f2="most":=(Qe (Qe h3).2).1;subst e1 e2;obtain⟨_,_,e3,J,F⟩:=h4.cons_inv;obtain⟨O,y⟩:=Qe e3;subst O y;obtain⟨_,_,A,B,_⟩:=F.cons_inv;obtain⟨N,_⟩:=Qe A;subst N;refine⟨n,a,b,va,vb,C,dx,p,rfl,hn,rfl,hns,h1,h2,?_⟩;have:=ao c1 .refl rep1;cases Z with
      |true=>exact this _ B
      |false=>exact this _ J
     |[],h3,_,_=>cases h3
     |[_],h3,_,_=>have:=Rl Uo h3;simp at this
     |_::_::_::_,h3,_,_=>have:=Rl Uo h3;simp at this
   ·exact(ah c1).elim
  ·exact(ah c1).elim
 ·subst hp;obtain rfl:u=er p:=rv;obtain⟨o,U⟩:=lA z hn;have:=U.ns.symm.trans hns;cases this;refine xI (f:=f) (v:=if Z then vb else va) U.ck (R n hn C hns) (by rw[P];cases Z<;>first|exact U.ck.mf|exact U.ck.ms) I1 g1 g2 (by rw[P];cases Z<;>rfl) (by rw[P];cases Z<;>decide) λt s' x G=>⟨_,Y,x,G,q⟩
end
section
variable {X:Cx}{E:XD}{st:pa}{m:TM}{i:Nat}
theorem RelE.all{K:dV}{ι Z:List dt}{H U:Hp}{n:Nat}(Y:∀e v,d7 n e=b_->RelD K ι H e v->RelD K Z U e v):
  ∀{ρ:aO} {σ:L2.St},RelE K ι H ρ σ->(∀e,ar e∈ρ->d7 n e=b_)->RelE K Z U ρ σ
 |[],_,h,_=>by cases h;exact .nil
 |_::ρ,_,.cons h t,c=>.cons (λd' z=>by obtain⟨v,e1,e2⟩:=h _ z;exact⟨v,e1,Y _ v (c d' (by rw[z];exact OV ..)) e2⟩) (RelE.all Y t λe z=>c e (OO _ z))
theorem RelE.swap{K:dV}{ι Z:List dt}{H U:Hp}{n:Nat}{d u:D}(T:∀v,RelD K ι H d v->RelD K Z U u v)(Y:∀e v,d7 n e=b_->RelD K ι H e v->RelD K Z U e v):
  ∀{ρ:aO} {i:Nat} {σ:L2.St},RelE K ι H (ρ.set i (ar d)) σ->(∀e,ar e∈ρ->d7 n e=b_)->RelE K Z U (ρ.set i (ar u)) σ
 |[],_,_,h,_=>by cases h;exact .nil
 |_::ρ,0,_,.cons h t,c=>.cons (λd' z=>by cases z;obtain⟨v,e1,e2⟩:=h _ rfl;exact⟨v,e1,T v e2⟩) (RelE.all Y t λe z=>c e (OO _ z))
 |_::ρ,i+1,_,.cons h t,c=>.cons (λd' z=>by obtain⟨v,e1,e2⟩:=h _ z;exact⟨v,e1,Y _ v (c d' (by rw[z];exact OV ..)) e2⟩) (RelE.swap T Y (ρ:=ρ) (i:=i) t λe z=>c e (OO _ z))
theorem xJ(h:SS X E st (bR i m)):SS X E st (bR i (aV m)):=by
 intro pins s σ H T I L;obtain⟨ι,S,ρ,rep,re,r,G,A,k⟩:=L;have Z:(fW (m ρ)>>=λd=>(aC (Out.nx (ρ.set i (ar d))):M Out)) S=ar (r,G):=A;have F:∀(c:M D),(c>>=λd=>(aC (Out.nx (ρ.set i (ar d))):M Out)) S=(match c S with|some (.ok d,S1)=>ar (.ok (Out.nx (ρ.set i (ar d))),S1)|some (.ex x,S1)=>ar (.ex x,S1)|none=>none):=λc=>by
  show M.bnd c _ S=_;unfold M.bnd;cases c S with
  |none=>rfl
  |some p=>obtain⟨r,S1⟩:=p;cases r<;>rfl
 rw[F]at Z;unfold fW at Z;cases q:m ρ S with
 |none=>rw[q]at Z;cases Z
 | some p=>
  obtain⟨B,O⟩:=p;rw[q]at Z;have N:bR i m ρ S=_:=F (m ρ);rw[q]at N;cases B with
  |ex x=>
   cases Z;exact h pins s σ H T I ⟨ι,S,ρ,rep,re,.ex x,_,N,k⟩
  | ok d=>
   dsimp only at Z;by_cases hl:O.length<=S.length
   ·rw[if_pos hl]at Z;cases Z;exact h pins s σ H T I ⟨ι,S,ρ,rep,re,_,_,N,k⟩
   ·rw [if_neg hl]at Z;by_cases hk:pS S O
    ·rw [if_pos hk]at Z;cases z:jI S.length (yw O S.length 60) d with
     |none=>rw[z]at Z;cases Z
     | some u=>
      rw[z]at Z;cases Z;refine dW (h pins s σ H {nx:=λW Q=>∃P:List dt,∀os,T.nx W (pT P os Q),rt:=λ_ _=>False} I ⟨ι,S,ρ,rep,re,_,_,N,λU Q x Y W J=>?_⟩) λf s' hf=>?_
      ·refine⟨U.drop ι.length,λos=>?_⟩;obtain⟨y,rep2⟩:=xC rep x Y hk os;have R:Rep X.K ι (pT (U.drop ι.length) os Q) (O.take S.length):=by rw[<-rep.len];exact rep2
       have L:U.take ι.length=ι:=by obtain⟨more,rfl⟩:=x.ids;simp
       refine k ι _ y R W ?_;refine RelE.swap (n:=ι.length) (d:=d) (u:=u) (λv l=>?_) (λe v c r=>?_) J λe z=>?_
       ·have:=zq (n:=ι.length) (os:=os) (λk us a=>by rw[rep.len];exact Ax Y 60 k us a) Y.nd l (by rw[rep.len];exact z);rw[L]at this;exact this
       ·have:=RelD.down (n:=ι.length) (os:=os) r c;rw[L]at this;exact this
       ·obtain⟨j,w⟩:=List.getElem?_of_mem z;obtain⟨v,_,r⟩:=re.get w;exact r.cl
      ·cases f with
       |next=>
        obtain⟨W,Q,t,P,o⟩:=hf;obtain⟨os,C⟩:=Inv.fz t P;exact⟨W,_,C,o os⟩
       |ret v=>obtain⟨_,_,_,_,_,z⟩:=hf;exact z.elim
       |brk=>obtain⟨_,_,_,z⟩:=hf;exact z.elim
       |cont=>obtain⟨_,_,_,z⟩:=hf;exact z.elim
    ·rw[if_neg hk]at Z;cases Z
end
def LR:pa->pa
 | .ClassDef _ _ _ (b::_) .. =>b
 |s=>s
structure GrX(P:ey)(w:fg)(K:dV)(mg:Str->Option a_)(base:gg):Prop where
 ex:∃C f fd,p7 K g_ "TooGreat"=ar (ar (.ref C))/\mj K C f=b_/\FnOk P w K mg base (mE P w) 1 f fd ["self","many","most"] (MJ C)/\Binds K fd ["self","many","most"] []
theorem Eh{P:ey}{w:fg}{K:dV}{I:Str->Option a_}{base h:gg}{C f:dt}{T:lx}{U:pa}{N E z G y H Q O:Pos}(F:Fun K "__init__" "TooGreat.__init__" U f T)(X:K.In h)(L:gT K=b_)(Z:p7 K g_ "TooGreat"=ar (ar (.ref C)))(Y:mj K C f=b_)
  (J:FnScope ["self","many","most"] ["self","many","most"] (aw U)) (B:∀x∈(["self","many","most"]:List Str),(aw U).names.lookup x=ar .local) (R:Binds K T ["self","many","most"] [])
  (A:dw U=[.Assign [.Attribute (.Name "self" N) "many" E] (.Name "many" z) G,.Assign [.Attribute (.Name "self" y) "most" H] (.Name "most" Q) O]):GrX P w K I base:=by
 obtain⟨v,S⟩:=lA L (show("TooGreat":Str)∈bb by decide);have:=S.ns.symm.trans Z;cases this;exact⟨C,f,T,Z,Y,Gx F (uB X S.ck Y).1 S.ck J B A,R⟩
section
variable {X:Cx}{Ek:XK}
theorem Ei(L:Leaves X Ek)(J:X.calm=b_)(T:gT X.K=b_)(W:GrX X.prog X.w X.K X.mg X.base)(R:Room 2 X.A)
  (S:SA X (xo X.K Ek) (e::es) ms) (P:Gl X "TooGreat":=by rfl)
  (U:d_ (e::es) X.env=(c_,hY e X.env)::d_ es X.env:=by rfl) (Z:(n_ cpos (d_ es X.env)).any (·.1)=false:=by rfl):
  SS X (xo X.K Ek) (.Raise (ar (.Call (.Name "TooGreat" np) (e::es) [] cpos)) none pos) (vH ms):=by
 obtain⟨C,f,fd,Y,O,Q,N⟩:=W.ex;exact B5 L J T Y O Q N R S P U Z
end
theorem DefX.none{P:ey}{w:fg}{K:dV}{X:Str->Option a_}{base:gg}{k:Nat}{x qual:Str}{U:pa}{f:dt}{Z:lx}{Y:List Str}(F:Fun K x qual U f Z)(S:X x=ar (.ref f))(T:Binds K Z Y []):DefX P w K X base k x Y (λ_=>M.fail):=
 ⟨f,Z,⟨λvs H Q E ⟨_,_,_,_,_,h⟩=>(ah h).elim,λA outer s H args us vs Q E _ _ _ _ ⟨_,_,_,_,_,h⟩=>(ah h).elim⟩,S,F.kp,T⟩
def Gy(K:dV):Bool:=bb.all λn=>match p7 K g_ n with
 |some (ar (.ref C))=>(match Uc K C with|some cd=>cd.hasDict|none=>b_)
 |_=>b_
theorem HK{K:dV}(h:Gy K=b_):∀n∈bb,∀C,p7 K g_ n=ar (ar (.ref C))->∀cd,Uc K C=ar cd->cd.hasDict=true:=by intro n Y C X cd Z;have:=OT.mp h n Y;rw[X]at this;dsimp only at this;rw[Z]at this;exact this
section
variable {X:Cx}{E:XD}
def Gz(U:gT X.K=b_)(Y:Gy X.K=b_)(W:SE X E e m)(Z:nN e "many" X.env (hY e X.env)=hY e X.env:=by rfl):SE X E (.Attribute e "many" pos) (j6 c_ m):=AB U (HK Y) W rfl Z
def GA(U:gT X.K=b_)(Y:Gy X.K=b_)(W:SE X E e m)(Z:nN e "most" X.env (hY e X.env)=hY e X.env:=by rfl):SE X E (.Attribute e "most" pos) (j6 b_ m):=AB U (HK Y) W rfl Z
end
end S7
namespace S3
open PySem PySem.Spec PyProof.Rows L2 S4
mutual
theorem vI:∀d,d7 n d=b_->jI n g d=ar d
 | .lst k,h=>by unfold d7 at h;unfold jI;rw[if_pos (PQ h)]
 | .tup ds,h=>by unfold d7 at h;unfold jI;rw[jt ds h];rfl
 | .ro ds,h=>by unfold d7 at h;unfold jI;rw[jt ds h];rfl
 | .fz ds,h=>by unfold d7 at h;unfold jI;rw[jt ds h];rfl
 | .fn _ _ _ ds _,h=>by unfold d7 at h;unfold jI;rw[jt ds h];rfl
 | .exc _ ds,h=>by unfold d7 at h;unfold jI;rw[jt ds h];rfl
 | .non,_=>by unfold jI;rfl
 | .bl _,_=>by unfold jI;rfl
 | .int _,_=>by unfold jI;rfl
 | .str _,_=>by unfold jI;rfl
 | .emp,_=>by unfold jI;rfl
theorem jt:∀ds,bU n ds=b_->gU n g ds=ar ds
 |[],_=>by unfold gU;rfl
 |d::ds,h=>by
  unfold bU at h;rw[Po]at h;unfold gU;rw[vI d h.1,jt ds h.2]
end
mutual
theorem AC(Z:m<=n):∀d,d7 m d=b_->d7 n d=b_
 | .lst k,h=>by unfold d7 at h⊢;exact OS (OU (PQ h) Z)
 | .tup ds,h=>by unfold d7 at h⊢;exact jJ Z ds h
 | .ro ds,h=>by unfold d7 at h⊢;exact jJ Z ds h
 | .fz ds,h=>by unfold d7 at h⊢;exact jJ Z ds h
 | .fn _ _ _ ds _,h=>by unfold d7 at h⊢;exact jJ Z ds h
 | .exc _ ds,h=>by unfold d7 at h⊢;exact jJ Z ds h
 | .non,_=>by unfold d7;rfl
 | .bl _,_=>by unfold d7;rfl
 | .int _,_=>by unfold d7;rfl
 | .str _,_=>by unfold d7;rfl
 | .emp,_=>by unfold d7;rfl
theorem jJ(Z:m<=n):∀ds,bU m ds=b_->bU n ds=b_
 |[],_=>by unfold bU;rfl
 |d::ds,h=>by
  unfold bU at h⊢;rw[Po]at h⊢;exact⟨AC Z d h.1,jJ Z ds h.2⟩
end
section
variable {c:M D}{S:aE}{Q:D->aE->Prop}{v:D}
def vJ:fW (aC v)=aC v:=by funext S;show(if S.length<=S.length then _ else _)=_;rw[if_pos (OF _)];rfl
def Ej:fW (M.raise x)=M.raise x:=rfl
theorem pA(e:c S=ar (.ok d,S'))(Z:pS S S')(Y:S.length<S'.length\/u=d)(W:S.length<=S'.length)(X:jI S.length (yw S' S.length 60) d=ar u):fW c S=ar (.ok u,S'.take S.length):=by
 unfold fW;rw[e];dsimp only;by_cases h:S'.length<=S.length
 ·have hd:u=d:=Y.resolve_left (by omega);rw[if_pos h,hd,QM h]
 ·rw[if_neg h,if_pos Z,X]
def GC(h:runs c S λd Z=>pS S Z/\S.length<=Z.length/\d7 S.length d=b_/\Q d (Z.take S.length)):runs (fW c) S Q:=by obtain⟨d,Z,e,X,Y,hd,q⟩:=h;exact⟨d,_,pA e X (.inr rfl) Y (vI d hd),q⟩
def rX:pS S (S++G):=λk xs Z e=>.inl (by rw[Pf Z]at e;exact e)
def El(h:runs c S λd Z=>(∃G,Z=S++G)/\d7 S.length d=b_/\Q d S):runs (fW c) S Q:=by obtain⟨d,Z,e,⟨G,rfl⟩,hd,q⟩:=h;exact GC ⟨d,_,e,rX,by simp,hd,by simpa using q⟩
theorem rY(h:runs c S λd Z=>∃G p us,d= .lst p/\Z=S++G/\Z[p]? =ar us/\S.length<=p/\bU S.length us=b_/\Q (.fz us) S):runs (fW c) S Q:=by
 obtain⟨d,Z,e,G,p,us,rfl,rfl,Y,U,W,q⟩:=h;have X:=(OI.mp Y).1;refine⟨.fz us,S,?_,q⟩;have:=pA (u:=.fz us) e rX (.inl (by omega)) (by simp) (by unfold jI;rw[if_neg (by omega)];show(((S++G)[p]?).bind λxs=>gU S.length (yw (S++G) S.length 59) xs).map D.fz=_;rw[Y,QJ,jt us W];rfl)
 rw[this];simp
def bH{α:Type}{c:M α}{v:α}(h:∀S,runs c S λd Z=>d=v/\Z=S):c=aC v:=by funext S;obtain⟨d,Z,e,rfl,rfl⟩:=h S;exact e
def HL(Y:d7 0 v=b_)(h:∀S,runs c S λd Z=>d=v/\∃G,Z=S++G):fW c=aC v:=
 bH λS=>El (ux (h S) λd Z ⟨e,g⟩=>⟨g,by rw[e];exact AC (OX _) v Y,e,rfl⟩)
theorem GD(Y:bU 0 us=b_)(h:∀S,runs c S λd Z=>∃G p,d= .lst p/\Z=S++G/\Z[p]? =ar us/\S.length<=p):fW c=aC (.fz us):=
 bH λS=>rY (ux (h S) λd Z ⟨G,p,e1,e2,e3,e4⟩=>⟨G,p,us,e1,e2,e3,e4,jJ (OX _) us Y,rfl,rfl⟩)
def bW(Y:bU 0 us=b_)(Z:us.length<=lim):fW (bB us)=aC (.fz us):=
 GD Y λS=>BI.mpr ⟨Z,[us],S.length,rfl,rfl,by simp,OF _⟩
end
def cQ:iz ⟨its,.none⟩=aC ():=by funext S;unfold iz;rw[if_pos (show Iter.okS ⟨its,.none⟩ S from trivial)];rfl
section
variable {its:List D}{g:nE}{t:aO->M Bool}{m:TM}
theorem xK(R:aO->Prop)(q:D->Bool)(f:D->D):∀(items:List D) (ρ:aO),R ρ->(∀d∈items,∀ ρ,R ρ->∃Z,g d ρ=aC Z/\R Z/\t Z=aC (q d)/\(q d=b_->m Z=aC (f d)))->
  cV ⟨its,.none⟩ g t m items ρ=aC ((items.filter q).map f)
 |[],ρ,_,_=>by unfold cV;rw[cQ];rfl
 |d::ds,ρ,hR,hb=>by
  obtain⟨Z,e1,Y,e2,e3⟩:=hb d (OV ..) ρ hR;have X:=xK R q f ds Z Y λx W=>hb x (OO _ W);unfold cV;rw[cQ,aj,e1,aj,e2,aj,X];cases hq:q d with
  |true=>rw[Qf hq,if_pos rfl,e3 hq,aj];rfl
  |false=>rw[Qg (by rw[hq];decide),if_neg (by decide)]
theorem GE(R:aO->Prop)(q:D->Bool)(f:D->D)(Z:its.length<=lim)(X:R ρ)(Y:∀d∈its,∀ ρ,R ρ->∃ ρ1,g d ρ=aC ρ1/\R ρ1/\t ρ1=aC (q d)/\(q d=b_->m ρ1=aC (f d))):
  gG ⟨its,.none⟩ g t m ρ=aC ((its.filter q).map f):=by
 unfold gG;rw[if_pos Z];exact xK R q f its ρ X Y
theorem AD{bd:BM}(R:aO->Prop)(q:D->Bool)(f:D->List D):∀(items:List D) (ρ:aO),R ρ->(∀d∈items,∀ ρ,R ρ->∃Z,g d ρ=aC Z/\t Z=aC (q d)/\(q d=b_->∃Y,R Y/\bd Z=aC (f d,Y))/\(q d=c_->R Z))->
  ∃ ρ',R ρ'/\cB ⟨its,.none⟩ g t bd items ρ=aC ((items.filter q).flatMap f,ρ')
 |[],ρ,hR,_=>⟨ρ,hR,by unfold cB;rw[cQ];rfl⟩
 | d::ds,ρ,hR,hb=>by
  obtain⟨Z,e1,e2,e3,S⟩:=hb d (OV ..) ρ hR;have W:=λx P=>hb x (OO d P);cases hq:q d with
  |true=>
   obtain⟨Y,T,Q⟩:=e3 hq;obtain⟨ρ',X,U⟩:=AD R q f ds Y T W;refine⟨ρ',X,?_⟩;unfold cB;rw[cQ,aj,e1,aj,e2,aj,hq,if_pos rfl,Q,aj];show(cB _ g t bd ds Y>>=_)=_;rw[U,aj,Qf hq];rfl
  |false=>
   obtain⟨ρ',X,U⟩:=AD R q f ds Z (S hq) W;refine⟨ρ',X,?_⟩;unfold cB;rw[cQ,aj,e1,aj,e2,aj,hq,if_neg (by decide),U,Qg (by rw[hq];decide)]
end
end S3
namespace S7
open PySem PySem.Spec PyProof.Rows L2 S3
section
variable {X:Cx}{E:XD}{k i jn jy:Nat}{a c':dt}{ql:Str}{ds:List D}{vs:List V}{m:TM}{x n y cx:Str}{p cpos epos np p1 p2 p3 hpos tpos:Pos}
end
section
variable {X:Cx}{x ql:Str}{k k0 i:Nat}{a c':dt}{ps:List Str}{R:D->M D->List D->M D}{R':M D->List D->M D}{p pos:Pos}{e:Expr}{es:List Expr}{ms:S3.aO->M (List D)}{m:TM}{ds:List D}{vs:List V}
end
section
variable {X:Cx}{E:XD}{pos:Pos}
end
end S7
namespace S3
open PySem PySem.Spec PySem.W PyProof.Rows L2 S4
section
variable {X:Cx}{E:XD}{e:Expr}{m:TM}{pos:Pos}
theorem tI:dm X (.builtin "sorted") (λxs H Q=>∃(p:dt) (ns:List Int),xs=[.ref p]/\k9 X.K H p (ns.map V.int)/\ns.length<64/\∀l,H l=none->Q (.ref l) (upd H l (.lst ((sortI ns).map V.int)))):=by
 intro pins s σ H xs us Q I r h;obtain⟨p,ns,rfl,F,N,q⟩:=h;obtain⟨u,rfl,O⟩:=vals1 r;cases (show u=er p from O);obtain⟨its,R,⟨o,G,J,n,hd⟩,L⟩:=I.tuple F;have P:m_ its ns:=RF R;have hlen:=R.length;rw[OC]at hlen L;refine Sa kind_sorted plain_sorted entry_sorted (args_sorted1 _) ?_;unfold Builtin.«sorted»;refine OB (m:=checkCount "sorted" 1 1 _) (OE ?_);refine OB (wpAny_collect_seq p (.inr rfl) G J hd (λh' keep=>?_) (by rw[OL];omega));rw[List.toList_toArray];refine OB (TU ?_ (by rw[PC];omega));have Z:(h'.push (t_ "list" its.toArray 0)).get? h'.objs.size=ar (t_ "list" its.toArray 0):=OK _ rfl;refine OB (Pl (PF slot_list_sort ⟨_,Z,rfl⟩ entry_list_sort (list_sort_tree Z P (by omega) λout U a1 a2 a3=>⟨_,rfl,?_⟩) (args_list_sort _)));refine OE ⟨_,rfl,?_⟩;have en:U=sortI ns:=W.lks_uniq (a2.trans (sortI_perm ns).symm) a3 (kz ns);subst en;obtain⟨c,T⟩:=sortedHeap_at (vs:=its) (out:=out) Z;have S:L2.Inv X pins σ H {s with heap:=h',toks:=s.toks}:=I.kept keep;have hf:H h'.objs.size=none:=S.hok.fresh (OF _);refine⟨.ref h'.objs.size,_,S.laid (t':=s.toks) (o:=.lst ((sortI ns).map V.int)) (λb o e=>?_) (OF _) ⟨?_,out.toList,c,jT a1,T⟩,rfl,q _ hf⟩
 ·have Y:b<h'.objs.size:=OJ e;rw[sortedHeap_old (OQ Y) (by rw[size_push'];exact PR Y)];exact OD _ e
 ·rw[OC,(sortI_perm ns).length_eq,PC];omega
theorem tJ:dm X (.builtin "sorted") (λxs H Q=>∃(p:dt) (vs:List V) (Z:List (List Int)),xs=[.ref p]/\k9 X.K H p vs/\TRow H vs Z/\vs.length<64/\
  ∀q,fS Z q->∀l,H l=none->Q (.ref l) (upd H l (.lst (q.map λi=>vs.getD i .non)))):=by
 intro pins s σ H xs us Q I r h;obtain⟨p,vs,Z,rfl,U,T,Y,q⟩:=h;obtain⟨u,rfl,J⟩:=vals1 r;cases (show u=er p from J);obtain⟨its,W,⟨o,N,S,n,hd⟩,G⟩:=I.tuple U;have O:=W.length;refine ia I (λus=>us=its) (λR F P=>?_) λus L=>⟨vs,Z,by rw[L];exact W,T,Y,q⟩;refine wpAny_collect_seq p (.inr rfl) N S hd (λh' keep=>?_) (by rw[OL];omega);rw[List.toList_toArray];exact P its h' s.toks rfl keep
def j8:List D->M D
 |[.tup xs]=>jq xs
 |_=>M.fail
def HM(X:Cx):List V->Hp->VK->Prop:=λxs H Q=>(∃(p:dt) (ns:List Int),xs=[.ref p]/\k9 X.K H p (ns.map V.int)/\ns.length<64/\∀l,H l=none->Q (.ref l) (upd H l (.lst ((sortI ns).map V.int))))\/
 ∃(p:dt) (vs:List V) (nss:List (List Int)),xs=[.ref p]/\k9 X.K H p vs/\TRow H vs nss/\vs.length<64/\∀q,fS nss q->∀l,H l=none->Q (.ref l) (upd H l (.lst (q.map λi=>vs.getD i .non)))
def tK:dm X (.builtin "sorted") (HM X):=by
 intro pins s σ H xs us Q I r h;rcases h with h|h
 ·exact tI pins s σ H xs us Q I r h
 ·exact tJ pins s σ H xs us Q I r h
theorem rZ:lp X.K E j8 (HM X):=by
 intro ι S H ds vs Q rep r c;unfold j8 at c;split at c
 ·next es=>
  obtain⟨v,ws,rfl,P,N⟩:=r.cons_inv;cases N.nil_inv;obtain⟨p,us,rfl,U,R⟩:=P.tup_inv;unfold jq at c;cases q:intsOf es with
  | some ns=>
   rw[q]at c;have c:cont X.K E (if ns.length<64 then bB ((sortI ns).map D.int)else M.fail) ι S H (mB X.K Q):=c;by_cases h:ns.length<64
   ·rw[if_pos h]at c;exact .inl ⟨p,ns,rfl,.of (by rw[<-fE R q];exact U),h,(bq c rep (nQ _)).2⟩
   ·rw[if_neg h]at c;exact(ah c).elim
  | none=>
   rw[q]at c;cases q2:rowsOf es with
   |none=>rw[q2]at c;exact(ah c).elim
   | some nss=>
    rw[q2]at c;have Z:cont X.K E (if nss.length<64/\two nss=b_ then bB ((b0 nss).map tupI)else M.fail) ι S H (mB X.K Q):=c;by_cases h:nss.length<64/\two nss=b_
    ·rw[if_pos h]at Z;obtain⟨g1,g2⟩:=nW R q2;refine .inr ⟨p,us,nss,rfl,.of U,Ak ⟨g1,g2⟩ h.2,by omega,λW T l O=>?_⟩;have Y:∀i∈W,i<us.length:=λi J=>by rw[g1];exact OP.mp (T.1.mem_iff.mp J)
     have L:RelDs X.K ι H ((b0 nss).map tupI) (W.map λi=>us.getD i .non):=by rw[<-mT T];exact nX g2 W Y
     exact(bq Z rep L).2 l O
    ·rw[if_neg h]at Z;exact(ah Z).elim
 ·exact(ah c).elim
theorem r0{p:Pos}(Y:X.mg "sorted"=none)(Z:SE X E e m)(W:Gl X "sorted":=by rfl)(hs:d_ [e] X.env=[(c_,hY e X.env)]:=by rfl):SE X E (.Call (.Name "sorted" p) [e] [] pos) (λρ=>do let ds<-(do let x<-m ρ;let xs<-aC [];aC (x::xs));j8 ds):=
 iR tK rZ W Y (by decide+kernel) (ae Z ag hs) (by decide) (by decide) hs rfl
end
end S3
namespace S7
open PySem PySem.Spec PyProof.Rows L2 S3 S4
theorem GF{i j:Nat}{Z:Cw}:mC (b9 Z) (gq 2 (bS (gN i) (bS (gN j) gQ)))=tF i j Z:=by
 funext ρ;unfold mC b9 tF;rw[du];refine Rl _ ?_;funext ds
 match ds with
 |[]=>rfl
 |[d]=>rfl
 |[d,e]=>rfl
 |d::e::f::r=>
  funext S;show(bj _>>=_) S=_;unfold bj;split<;>rfl
def GG{X:Cx}{E:XD}{Z:pa}{i j:Nat}{Y:Cw}(h:SS X E Z (mC (b9 Y) (gq 2 (bS (gN i) (bS (gN j) gQ))))):SS X E Z (tF i j Y):=GF ▸ h
end S7
namespace S3
open PySem PySem.Spec PyProof.Rows L2
def Em:D->D->M D
 | .lst k,.int i=>do
  let xs<-getL k
  if -(2 ^ 62)<=i/\i<=1000/\xs.length<=1000 then bB (f' i.toNat xs).flatten else M.fail
 |_,_=>M.fail
section
variable {X:Cx}{E:XD}{a b:Expr}{m n:TM}{pos:Pos}
theorem RelDs.rep{K:dV}{ι:List dt}{H:Hp}{ds:List D}{vs:List V}(r:RelDs K ι H ds vs):∀k:Nat,RelDs K ι H (f' k ds).flatten (f' k vs).flatten
 |0=>.nil
 |k+1=>by rw[P5,P5,Qy,Qy];exact r.append (RelDs.rep r k)
theorem GH:sR X.K E Em Ll:=by
 intro ι S H N P v1 v2 Q rep T R c;unfold Em at c;split at c
 ·next k i=>
  obtain⟨p,rfl,W⟩:=T.lst_inv;obtain⟨es,us,_,U,Y,Z⟩:=bz c rep W;split at Z
  ·next hb=>
   have O:=Y.length;refine⟨p,i,us,rfl,R.int_inv,U,by omega,by omega,OR (Nat.mul_le_mul (show us.length<=1000 by omega) (show i.toNat<=1000 by omega)) (show 1000*1000<=sizeLine by decide),(bq Z rep (Y.rep i.toNat)).2⟩
  ·exact(ah Z).elim
 ·exact(ah c).elim
def JR(Z:SE X E a m)(Y:SE X E b n):SE X E (.BinOp a .Mult b pos) (λρ=>do let x<-m ρ;let y<-n ρ;Em x y):=rk IX GH Z Y
end
end S3
namespace W
open PySem PySem.Spec PyProof.Rows L2 S3 S4 S7
def sd:dq:=bQ (qh (iV (mV 0) "int") (LF (iV (mV 0) "bool")))
def dI:List D->M D:=lE 1 1 sd
def uC:dq:=bQ (qh (iV (mV 0) "tuple") (a7 kR (cg ef (mV 0)) (mK (.int 2))))
def cY:List D->M D:=lE 1 1 uC
def iX:j4:=mI
def iY:TM:=a7 rp (mV 0) (mV 1)
def pW:dq:=bQ (cg rC (aV (cq (Au (mV 0) (aV (BH (mV 0) (oS (mK (.int 1))) oN))) (gq 2 (bS (gN 0) (bS (gN 1) gQ))) iX iY [none,none])))
def gW:List D->M D:=lE 1 1 pW
def fj:j4:=mI
def dJ:j4:=mI
def cw:TM:=b9 (af (mV 0) (af (mV 1) au))
def se:dq:=bQ (aV (pj (qi (mV 0)) (gN 0) fj (yu (a7 bP (mV 0) (mK (.int 1))) (mV 2)) (gN 1) dJ cw [none,none,ar 0]))
def fF:List D->M D:=lE 1 1 se
def sf:dq:=bQ (a7 inD (b9 (af (aA minD (af (mV 1) (af (mV 2) au))) (af (aA maxD (af (mV 1) (af (mV 2) au))) au))) (a7 cX (mV 0) (mK (.int 1))))
def kG:List D->M D:=lE 3 3 sf
def iZ:j4:=mI
def i5:TM:=a7 inD (mV 0) (mV 1)
def pX:dq:=bQ (cg D7 (aV (cq (ez (mV 0)) (gN 0) iZ i5 [none,ar 1])))
def ju:List D->M D:=lE 2 2 pX
def lF:dq:=aM (j5 (gr rp (mV 1) (cg ef (mV 0))) (bQ (a7 cX (mV 0) (mV 1))) d6) (bQ (mK (.int 0)))
def eF:List D->M D:=lE 2 2 lF
def pY:dq:=aM (j5 (bV (a7 cX (mV 0) (mK (.int 1)))) (aM (bR 2 (a7 mR (a7 cX (mV 0) (mK (.int 0))) (mV 1))) (aM (mC (a7 nI (a7 cX (mV 0) (mK (.int 0))) (mV 1)) (DJ (mV 0) (mK (.int 0)))) (bQ (mV 2)))) d6) (aM (mC (a7 mR (a7 bP (a7 vk (a7 cX (mV 0) (mK (.int 0))) (mK (.int 48271))) (mK (.int 29))) (mK (.int 2147483647))) (DJ (mV 0) (mK (.int 0)))) (aM (bR 3 (a7 mR (a7 bP (a7 bP (a7 vk (a7 cX (mV 0) (mK (.int 0))) (a7 cX (mV 0) (mK (.int 0)))) (a7 vk (mK (.int 39373)) (a7 cX (mV 0) (mK (.int 0))))) (mK (.int 7))) (mK (.int 2147483629)))) (aM (bR 3 (a7 mR (a7 bP (a7 vk (mV 3) (mV 3)) (a7 vk (mK (.int 16807)) (mV 3))) (mK (.int 2147483587)))) (bQ (a7 mR (a7 nI (mV 3) (mK (.int 8))) (mV 1))))))
def aF:List D->M D:=lE 4 2 pY
def fy:j4:=mI
def fA:TM:=b9 (af (mV 1) (af (mV 0) au))
def ic:dq:=rS (uw ky (mV 1) (aV (cq (yu (a7 bP (mV 2) (mK (.int 1))) (mV 0)) (gN 0) fy fA [none,ar 2])))
def n6:dq:=aM (bR 1 (bD au)) (aM (jj (qi (mV 0)) (gN 2) ic) (bQ (mV 1)))
def bg:List D->M D:=lE 3 1 n6
def i6:j4:=gr rp (cg fU (aV (a7 bP (a7 cX (mV 1) (mV 2)) (a7 cX (mV 1) (mV 0))))) (mK (.int 4))
def i7:TM:=b9 (af (mV 2) (af (mV 0) au))
def i8:dq:=rS (uw ky (mV 2) (aV (cq (yu (a7 bP (mV 3) (mK (.int 1))) (cg ef (mV 1))) (gN 0) i6 i7 [none,ar 1,ar 3])))
def pZ:dq:=aM (bR 1 (a7 cX (mV 0) (mK (.int 1)))) (aM (bR 2 (bD au)) (aM (jj (qi (cg ef (mV 1))) (gN 3) i8) (bQ (b9 (af (cg ef (mV 1)) (af (cg b7 (mV 2)) au))))))
def gX:List D->M D:=lE 4 1 pZ
def ie:j4:=mI
def ig:TM:=cg b7 (aV (cg cu (aV (bD (af (a7 cX (mV 2) (mV 0)) (af (a7 cX (mV 2) (mV 1)) au))))))
def n8:dq:=bQ (b9 (af (a7 cX (mV 0) (mK (.int 0))) (af (cg b7 (aV (cg cu (aV (cq (ez (a7 cX (mV 0) (mK (.int 1)))) (gq 2 (bS (gN 0) (bS (gN 1) gQ))) ie ig [none,none,ar 1]))))) au)))
def fX:List D->M D:=lE 2 2 n8
def oa:dq:=bQ (qh (iV (mV 0) "int") (LF (iV (mV 0) "bool")))
def dE:List D->M D:=lE 1 1 oa
def p9:dq:=bQ (a7 inD (b9 (af (aA minD (af (mV 1) (af (mV 2) au))) (af (aA maxD (af (mV 1) (af (mV 2) au))) au))) (a7 cX (mV 0) (mK (.int 1))))
def gY:List D->M D:=lE 3 3 p9
def sg:dq:=bQ (qh (aA dI (af (mV 1) au)) (Jy yt rp (mK (.int 0)) (mV 1) (mV 0)))
def i9:List D->M D:=lE 2 2 sg
def og:dq:=aM (bR 2 (aA eF (af (mV 0) (af (mV 1) au)))) (aM (j5 (gr Nv (mV 2) (a7 C8 (mK (.int 10)) (mK (.int 18)))) (bQ (bD (af (a7 iB (mV 2) (a7 C8 (mK (.int 10)) (mK (.int 18)))) (af (mK (.bl b_)) au)))) d6) (bQ (bD (af (a7 mR (mV 2) (mK (.int 2147483647))) (af (mK (.bl c_)) au)))))
def iH:List D->M D:=lE 3 2 og
def cR:dq:=rS (uw cU (mV 3) (uw oV (mV 2) (aV (aA aF (af (mV 0) (af (cg ef (mV 2)) au))))))
def eX:dq:=aM (bR 2 (cg iU (mV 1))) (aM (bR 3 (bD au)) (aM (Jz 64 (gr kd (mV 2) (aV (bD au))) cR) (bQ (mV 3))))
def cn:List D->M D:=lE 4 2 eX
def fh:dq:=aM (bR 4 (aV (aA aF (af (mV 0) (af (mV 1) au))))) (aM (bR 5 (a7 mR (a7 bP (a7 bP (mV 4) (mK (.int 1))) (aV (aA aF (af (mV 0) (af (a7 iB (mV 1) (mK (.int 1))) au))))) (mV 1))) (rS (uw cU (mV 2) (b9 (af (aA minD (af (mV 4) (af (mV 5) au))) (af (aA maxD (af (mV 4) (af (mV 5) au))) au))))))
def eY:dq:=aM (bR 1 (a7 bP (mK (.int 8)) (aV (aA aF (af (mV 0) (af (mK (.int 7)) au)))))) (aM (bR 2 (bD au)) (aM (jj (qi (aV (aA aF (af (mV 0) (af (mK (.int 12)) au))))) (gN 3) fh) (bQ (b9 (af (mV 1) (af (cg b7 (aV (cg jZ (mV 2)))) au))))))
def dR:List D->M D:=lE 6 1 eY
abbrev GI:=a7 cX (mV 1) (mK (.int 0))
abbrev En:=a7 cX (mV 0) (mK (.int 0))
abbrev vK:=a7 cX (mV 1) (mK (.int 1))
abbrev LS:=nZ (gr kd (cg ef (mV 1)) (mK (.int 2))) (nZ (cM (bV (aV (aA dE (af GI au))))) (cM (bV (aV (aA dE (af vK au))))))
abbrev GJ:=cM (bV (iV (mV 1) "tuple"))
def cZ:dq:=aM (j5 (nZ GJ LS) (bQ (mK (.bl c_))) d6) (j5 (cM (qF yt rp rp (mK (.int 0)) GI vK En)) (bQ (mK (.bl c_))) d6)
abbrev xM:=a7 cX (mV 0) (mK (.int 1))
abbrev LU:=nZ (gr kd (cg ef (mV 0)) (mK (.int 2))) (nZ (cM (bV (aV (aA dE (af En au))))) (cM (oY yt yt (mK (.int 0)) En (mK (.int 14)))))
def gJ:dq:=aM (j5 (nZ (cM (bV (iV (mV 0) "tuple"))) LU) (bQ (mK (.bl c_))) d6) (aM (j5 (cM (bV (iV xM "tuple"))) (bQ (mK (.bl c_))) d6) (aM (jj (ez xM) (gN 1) cZ) (bQ (a7 kR (aV (cg iU xM)) (aV (cg jZ xM))))))
def cy:List D->M D:=lE 2 1 gJ
def fY:dq:=aM (bR 1 (bD (aN (mK .non) (aN (mK (.int 0)) (aN (mK (.tup [])) (aN (mK (.tup [.int 15,.tup []])) (aN (mK (.tup [.int (-1),.tup []])) (aN (mK (.tup [.bl b_,.tup []])) (aN (b9 (af (mK (.int 2)) (af (bD au) au))) (aN (bD (af (mK (.int 2)) (af (mK (.tup [])) au))) (aN (mK (.tup [.int 2,.tup [.tup [.int 1,.int 0]]])) (aN (mK (.tup [.int 2,.tup [.tup [.int 0,.int 0]]])) (aN (mK .emp) (aN (mK (.str "2:")) au)))))))))))))) (aM (bR 1 (a7 bP (mV 1) (bD (aN (mK (.tup [.int 2,.tup [.tup [.int 0,.int 1],.tup [.int 0,.int 1]]])) (aN (mK (.tup [.int 3,.tup [.tup [.int 0,.int 2],.tup [.int 0,.int 1]]])) (aN (mK (.tup [.int 2,.tup [.tup [.int 0,.int 2]]])) (aN (mK (.tup [.int 2,.tup [.tup [.int 0,.bl b_]]])) (aN (mK (.tup [.int 2,.tup [.tup [.int 0,.int 1,.int 1]]])) au)))))))) (aM (bR 1 (a7 bP (mV 1) (bD (aN (mK (.tup [.int 2,.tup [.int 0,.int 1]])) (aN (mK (.tup [.int 2,.non])) (aN (mK (.tup [.int 2,.tup [],.tup []])) (aN (mK (.tup [.int 2])) (aN (b9 (af (mK (.int 2)) (af (b9 (af (bD (af (mK (.int 0)) (af (mK (.int 1)) au))) au)) au))) (aN (mK (.tup [.int 2,.tup [.non]])) (aN (mK (.tup [.str "2",.tup []])) (aN (mK (.tup [.int 0,.tup [.tup [.int 0,.int 1]]])) au))))))))))) (bQ (a7 cX (mV 1) (aA aF (af (mV 0) (af (mK (.int 25)) au)))))))
def fZ:List D->M D:=lE 2 1 fY
abbrev Eo:=af (mV 6) (af (mV 7) au)
abbrev N6:=bD (aN (b9 Eo) (aN (b9 (af (mV 7) (af (mV 6) au))) (aN (b9 (af (aA minD Eo) (af (aA maxD Eo) au))) (aN (b9 (af (mV 6) au)) (aN (aV (bD Eo)) (aN (mK .non) (aN (mK (.str "01")) (aN (mK (.tup [.int 0,.bl b_])) (aN (b9 (af (mV 6) (af (mV 7) (af (mV 7) au)))) (aN (mK (.int 0)) au))))))))))
abbrev GK:=BH (mV 9) oN (oS (cg ef (mV 3)))
abbrev N7:=af (b9 (af (mV 2) (af (cg b7 (aV GK)) au))) (af (b9 (af (mV 2) (af (aV (a7 bP (aV (a7 bP (aV (BH (mV 3) oN (oS (mV 4)))) (b9 (af (mV 8) au)))) (aV (BH (mV 3) (oS (a7 bP (mV 4) (mK (.int 1)))) oN)))) au))) (af (b9 (af (mV 2) (af (aV (cg iU (mV 3))) au))) au))
abbrev Ep:=a7 cX (mV 2) (mK (.int 0))
abbrev GL:=af (mV 2) (af (mV 3) au)
abbrev N8:=bD (aN (b9 (af (mV 2) au)) (aN (b9 (af (mV 2) (af (aV (a7 bP (aV (BH (mV 3) oN (oS (mV 4)))) (aV (BH (mV 3) (oS (a7 bP (mV 4) (mK (.int 1)))) oN)))) au))) (aN (b9 (af (mV 2) (af (aV (a7 bP (mV 3) (mK (.tup [.tup [.int 0,.int 1]])))) au))) (aN (aV (bD GL)) au))))
abbrev N9:=bD (aN (b9 (af (b9 (af Ep (af (aV (BH (a7 cX (mV 2) (mK (.int 1))) (oS (mK (.int 1))) oN)) au))) (af (mV 3) au))) (aN (b9 (af (mK .non) (af (mV 3) au))) (aN (b9 (af (mV 2) (af (mV 3) (af (mK (.tup [])) au)))) (aN (b9 (af (mV 2) (af (mK .non) au))) au))))
abbrev Oa:=bD (aN (b9 (af (b9 (af (a7 bP Ep (mK (.int 1))) (af (a7 cX (mV 2) (mK (.int 1))) au))) (af (mV 3) au))) (aN (b9 (af (b9 (af (a7 iB Ep (mK (.int 1))) (af (a7 cX (mV 2) (mK (.int 1))) au))) (af (mV 3) au))) (aN (mK .non) (aN (mK .emp) au))))
abbrev JS:=af (a7 cX (mV 9) (mV 5)) (af (a7 cX (mV 9) (mV 4)) au)
abbrev LV:=aV (aA aF (af (mV 0) (af (a7 bP (cg ef (mV 3)) (mK (.int 1))) au)))
abbrev JT:=bD (af (mK (.tup [.int 0,.int 1])) au)
abbrev LW:=aV (aA aF (af (mV 0) (af (a7 bP Ep (mK (.int 1))) au)))
def jv:dq:=aM (mC (mV 1) (gq 2 (bS (gN 2) (bS (gN 3) gQ)))) (aM (tF 4 5 (af LV (af LV au))) (aM (tF 6 7 (af LW (af LW au))) (aM (bR 8 (aV N6)) (aM (bR 8 (a7 cX (mV 8) (aV (aA aF (af (mV 0) (af (mK (.int 10)) au)))))) (aM (bR 9 (a7 bP (aV (cg iU (mV 3))) (aV JT))) (aM (mC (b9 JS) (gq 2 (bS (DJ (mV 9) (mV 4)) (bS (DJ (mV 9) (mV 5)) gQ)))) (aM (bR 10 (bD N7)) (aM (bR 10 (a7 bP (mV 10) (aV N8))) (aM (rS (uw cU (mV 10) (b9 (af (mV 3) (af (mV 2) au))))) (aM (bR 10 (a7 bP (mV 10) (aV Oa))) (aM (bR 10 (a7 bP (mV 10) (aV N9))) (bQ (a7 cX (mV 10) (aV (aA aF (af (mV 0) (af (mK (.int 16)) au)))))))))))))))))
def fM:List D->M D:=lE 11 2 jv
def sh:dq:=aM (j5 (cM (bV (aA cY (af (mV 1) au)))) (bQ (mK (.bl c_))) d6) (aM (mC (mV 1) (gq 2 (bS (gN 2) (bS (gN 3) gQ)))) (bQ (qh (aA i9 (af (mV 0) (af (mV 2) au))) (qh (aA i9 (af (mV 0) (af (mV 3) au))) (a7 rp (mV 2) (mV 3))))))
def j9:List D->M D:=lE 4 2 sh
def jK:j4:=gr rp (aV (aA aF (af (mV 1) (af (mK (.int 8)) au)))) (a7 cX (aV (bD (af (mK (.int 2)) (af (mK (.int 4)) (af (mK (.int 6)) au))))) (a7 mR (mV 2) (mK (.int 3))))
def jL:TM:=mV 0
def gK:dq:=rS (uw cU (mV 4) (cg b7 (aV (cg cu (aV (bD (af (a7 cX (mV 5) (mV 6)) (af (a7 cX (mV 5) (a7 cX (aV (bD (aN (a7 iB (mV 6) (mK (.int 1))) (aN (a7 iB (mV 6) (mK (.int 1))) (aN (mK (.int 0)) (aN (a7 nI (mV 6) (mK (.int 2))) au)))))) (a7 iB (mV 3) (mK (.int 3))))) au))))))))
def fq:j4:=gr kR (aV (aA aF (af (mV 1) (af (mK (.int 12)) au)))) (mK (.int 0))
def ft:TM:=mV 0
def gL:j4:=gr kd (a7 inD (mV 0) (mV 1)) (a7 inD (mV 0) (mV 2))
def gM:TM:=mV 0
def kH:dq:=aM (bR 2 (aA maxD (af (mK (.int 0)) (af (a7 iB (mV 1) (a7 cX (aV (bD (aN (mK (.int 0)) (aN (mK (.int 0)) (aN (mK (.int 1)) (aN (mK (.int 0)) (aN (mK (.int 2)) (aN (mK (.int 1)) (aN (mK (.int 3)) (aN (mV 1) au)))))))))) (aV (aA aF (af (mV 0) (af (mK (.int 8)) au)))))) au)))) (aM (bR 3 (aV (aA aF (af (mV 0) (af (mK (.int 7)) au))))) (aM (bR 4 (cq (ez (aV (aA bg (af (mV 2) au)))) (gN 0) jK jL [none,ar 0,ar 3])) (aM (bR 5 (aV (aA cn (af (mV 0) (af (aV (cg eE (mV 2))) au))))) (aM (j5 (gr C9 (mV 3) (mK (.int 2))) (aM (bR 4 (bD au)) (aM (jj (yu (mK (.int 1)) (mV 2)) (gN 6) gK) (aM (j5 (Gc (gr kR (mV 3) (mK (.int 4))) (gr C9 (mV 2) (mK (.int 2)))) (rS (uw cU (mV 4) (cg b7 (aV (cg cu (aV (bD (af (a7 cX (mV 5) (mK (.int 0))) (af (a7 cX (mV 5) (a7 iB (mV 2) (mK (.int 1)))) au))))))))) d6) (aM (bR 7 (aV (cq (ez (aV (aA bg (af (mV 2) au)))) (gN 0) fq ft [none,ar 0]))) (bR 4 (cq (ez (aV (aA bg (af (mV 2) au)))) (gN 0) gL gM [none,ar 4,ar 7])))))) d6) (bQ (b9 (af (mV 2) (af (cg b7 (aV (cg cu (mV 4)))) au))))))))
def ja:List D->M D:=lE 8 2 kH
def f7:j4:=cM (bV (aV (aA dE (af (mV 0) au))))
def f9:TM:=mV 0
abbrev LX:=gr kd (aV (cq (ez (mV 3)) (gN 0) f7 f9 [none])) (aV (bD au))
def cD:dq:=j5 (nZ (cM (bV (iV (mV 3) "tuple"))) LX) (bQ (mK (.bl c_))) d6
abbrev GN:=a7 bP (a7 cX (mV 2) (mV 5)) (a7 cX (mV 2) (mV 4))
def dF:dq:=j5 (gr kd (a7 rp (cg fU (aV GN)) (mK (.int 4))) (aV (aA gY (af (mV 0) (af (mV 5) (af (mV 4) au)))))) (bQ (mK (.bl c_))) d6
def cF:dq:=jj (qi (mV 4)) (gN 5) dF
abbrev LY:=nZ (gr kd (cg ef (mV 1)) (mK (.int 2))) (nZ (cM (bV (aV (aA cy (af GI au))))) (cM (bV (iV vK "tuple"))))
abbrev LZ:=gr kd (aV (cg j8 (mV 2))) (aV (cg iU (a7 cX GI (mK (.int 1)))))
def gf:dq:=aM (j5 (nZ GJ LY) (bQ (mK (.bl c_))) d6) (aM (bR 2 vK) (aM (jj (ez (mV 2)) (gN 3) cD) (aM (j5 (nZ (gr kd (cg ef (mV 2)) En) LZ) (bQ (mK (.bl c_))) d6) (aM (jj (qi En) (gN 4) cF) (bQ (mK (.bl b_)))))))
def dg:List D->M D:=lE 6 2 gf
def jw:j4:=mI
def jx:TM:=aV (aA j9 (af (mV 1) (af (mV 0) au)))
def si:dq:=aM (j5 (cM (bV (aV (aA cY (af (mV 0) au))))) (bQ (mK (.bl c_))) d6) (aM (mC (mV 0) (gq 2 (bS (gN 1) (bS (gN 2) gQ)))) (aM (j5 (nZ (cM (bV (aV (aA dI (af (mV 1) au))))) (nZ (cM (oY yt yt (mK (.int 0)) (mV 1) (mK (.int 14)))) (cM (bV (iV (mV 2) "tuple"))))) (bQ (mK (.bl c_))) d6) (bQ (qh (cg rC (aV (cq (ez (mV 2)) (gN 0) jw jx [none,ar 1]))) (aV (aA gW (af (mV 2) au)))))))
def d8:List D->M D:=lE 3 1 si
def jb:j4:=mI
def jc:TM:=aV (aA j9 (af GI (af (mV 0) au)))
def jz:dq:=aM (j5 (nZ (cM (bV (iV (mV 2) "tuple"))) (gr kd (cg ef (mV 2)) (mV 1))) (bQ (mK (.bl c_))) d6) (bQ (qh (cg rC (aV (cq (ez (mV 2)) (gN 0) jb jc [none,ar 0]))) (a7 kR (cg b7 (aV (cg j8 (mV 2)))) xM)))
def eI:List D->M D:=lE 3 3 jz
def eJ:dq:=mC (a7 cX vK (mV 5)) (DJ (mV 4) (a7 cX (mV 3) (mV 5)))
abbrev L3:=af (a7 bP GI (aV (aA aF (af (mV 0) (af (mK (.int 3)) au))))) (af (aV (BH vK oN (oS (mK (.int 7))))) au)
abbrev L4:=af (aV (aA fX GL)) (af (b9 (af (mV 1) (af (cg b7 (mV 4)) au))) au)
def jA:dq:=aM (bR 1 (aV (aA ja (af (mV 0) (af (mK (.int 6)) au))))) (aM (bR 1 (b9 L3)) (aM (bR 2 (aV (aA gX (af (mV 1) au)))) (aM (bR 3 (aV (aA cn (af (mV 0) (af (aV (cg eE Ep)) au))))) (aM (bR 4 (a7 Em (bD (af (mK .non) au)) Ep)) (aM (jj (qi Ep) (gN 5) eJ) (bQ (b9 L4)))))))
def gZ:List D->M D:=lE 6 1 jA
def sj:dq:=j5 (cM (bV (aV (aA d8 (af (mV 0) au))))) (JK "NoWeb" (af (mK (.str "this is no web")) au)) d6
def gy:List D->M D:=tm 1 1 sj
def jB:dq:=aM (rS (aV (aA gy (af (mV 0) au)))) (j5 (gr C9 (a7 cX (mV 0) (mK (.int 0))) (mV 1)) (vH (af (a7 cX (mV 0) (mK (.int 0))) (af (mV 1) au))) d6)
def cb:List D->M D:=tm 2 2 jB
def lG:dq:=rS (aV (aA cb (af (mV 0) (af (mK (.int 7)) au))))
def dU:List D->M D:=tm 1 1 lG
def lH(F:List D->M D):j4:=mI
def lI(F:List D->M D):TM:=aV (aA F (af (mV 0) (af (mV 1) au)))
def g0(F:List D->M D):dq:=aM (j5 (bV (HH (mV 1) "tuple" "list")) (aM (j5 (nZ (gr kd (iV (mV 0) "tuple") (iV (mV 1) "tuple")) (gr kd (iV (mV 0) "list") (iV (mV 1) "list"))) (bQ (mK (.bl c_))) d6) (aM (j5 (gr kd (cg ef (mV 0)) (cg ef (mV 1))) (bQ (mK (.bl c_))) d6) (bQ (cg rC (aV (cq (Au (mV 0) (mV 1)) (gq 2 (bS (gN 0) (bS (gN 1) gQ))) (lH F) (lI F) [none,none])))))) d6) (bQ (qh (a7 kR (mV 0) (mV 1)) (a7 kR (iV (mV 0) "bool") (iV (mV 1) "bool"))))
def gh:Nat->List D->M D
 |0=>λ_=>M.fail
 |n+1=>lE 2 2 (g0 (gh n))
def lJ:List D->M D:=gh 6
def ij:j4:=mI
abbrev GO:=af (mV 0) (af (mV 1) au)
def ik:TM:=a7 kR (aV (aA kG (af (mV 2) GO))) (aV (aA ju (af (a7 cX (mV 3) (mV 0)) (af (a7 cX (mV 3) (mV 1)) au))))
abbrev GP:=af (mV 2) (af (mV 4) au)
abbrev JU:=bV (aV (aA d8 (af (mV 3) au)))
def oh:dq:=aM (rS (aV (aA dU (af (mV 0) au)))) (aM (j5 (cM (bV (aV (aA cY (af (mV 1) au))))) (bQ (mK (.bl c_))) d6) (aM (bR 2 En) (aM (mC (mV 1) (gq 2 (bS (gN 3) (bS (gN 4) gQ)))) (aM (j5 (nZ (cM JU) (cM (bV (aV (aA eI (af (mV 3) GP)))))) (bQ (mK (.bl c_))) d6) (bQ (cg rC (aV (ND (cq (ez (aV (aA fF (af (mV 2) au)))) (gq 2 (bS (gN 0) (bS (gN 1) gQ))) ij ik [none,none,ar 0,ar 4])))))))))
def bA:List D->M D:=tm 5 2 oh
def cG:j4:=bV (a7 cX (mV 1) (mV 0))
def cH:TM:=mV 0
def gi(fv:D)(cc:M D):dq:=aM (bR 1 (mK .non)) (aM (xu 0 2 1 fv cc) (aM (bR 3 (bD (af (dQ (mV 1) "NoWeb") (af (dQ (mV 1) "NoPlace") (af (dQ (mV 1) "NoPlaces") au))))) (aM (bR 3 (a7 bP (mV 3) (aV (bD (af (dQ (mV 1) "NoMap") (af (dQ (mV 1) "NoSharing") (af (dQ (mV 1) "NoRoot") au))))))) (aM (bR 3 (a7 bP (mV 3) (aV (bD (af (dQ (mV 1) "NoNumber") (af (dQ (mV 1) "NotJoined") (af (dQ (mV 1) "NoTie") au))))))) (aM (bR 3 (a7 bP (mV 3) (aV (bD (af (dQ (mV 1) "NoText") (af (dQ (mV 1) "NoLine") (af (dQ (mV 1) "NoDeed") au))))))) (aM (rS (uw cU (mV 3) (dQ (mV 1) "TooGreat"))) (aM (j5 (cM (bV (D4 (mV 1)))) (bQ (mK .non)) d6) (aM (bR 4 (aV (cq (qi (mK (.int 13))) (gN 0) cG cH [none,ar 3]))) (bQ (Nz (gr kR (mV 4) (aV (bD (af (mK (.int 12)) au)))) (aV (a7 bP (mV 4) (aV (bD (af (j6 c_ (mV 1)) (af (j6 b_ (mV 1)) au)))))) (mV 4)))))))))))
def bY:D->M D->List D->M D:=λfv cc es=>tm 5 1 (gi fv cc) (fv::es)
def bE:M D->List D->M D:=bY (.fn 0 0 "" [] [])
def oj:j4:=gr kd (a7 inD (mV 0) vK) (a7 kR (mV 0) (mV 2))
def sk:TM:=mV 0
def om:dq:=j5 (cM (bV (aV (aA lJ (af (aV (aA bA (af (mV 7) (af (mV 8) au)))) (af (aV (aA dg (af (mV 7) (af (mV 8) au)))) au)))))) (bQ (mK (.bl c_))) d6
abbrev NG:=bD (af (mV 4) (af (aV (aA fM GP)) (af (aV (aA fM GP)) au)))
def lK:dq:=jj (ez (aV NG)) (gN 8) om
def sm:TM:=aV (aA bA GO)
def so:TM:=aV (aA bA GO)
abbrev MK:=bD (af (aV (aA aF (af (mV 2) (af (mK (.int 7)) au)))) (af (aV (aA aF (af (mV 2) (af (mK (.int 7)) au)))) au))
abbrev GQ:=a7 cX (mV 3) (mK (.int 0))
abbrev JV:=bD (af (mV 3) (af (mV 3) (af (b9 (af GQ (af (cg b7 (mV 6)) au))) au)))
abbrev L5:=af (aV (aA dR (af (mV 2) au))) (af (aV (aA fZ (af (mV 2) au))) au)
abbrev L6:=bD (af (mK (.int 12)) (af (a7 cX (mV 9) (mK (.int 0))) (af (mK (.int 7)) au)))
def lL:dq:=aM (bR 2 (aA iH GO)) (aM (mC (aV (aA gZ (af (mV 2) au))) (gq 2 (bS (gN 3) (bS (gN 4) gQ)))) (aM (j5 (gr (Ky (!·)) (aV (aA bA (af (mV 3) (af (mV 4) au)))) (mK (.bl b_))) (bQ (mK (.bl c_))) d6) (aM (bR 5 (cg b7 (aV (cg cu (aV MK))))) (aM (bR 6 (aV (cq (ez (aV (aA bg (af GQ au)))) (gN 0) oj sk [none,ar 3,ar 5]))) (aM (jj (ez (aV JV)) (gN 7) lK) (aM (tF 9 10 L5) (aM (j5 (gr kd (aV (xv [9,4] au sm bE)) (aV L6)) (bQ (mK (.bl c_))) d6) (j5 (gr kd (aV (xv [10,4] au so bE)) (aV (bD (af (mK (.int 0)) au)))) (bQ (mK (.bl c_))) d6))))))))
def Er:dq:=aM (jj (qi (aA maxD (af (mK (.int 1)) (af (aA minD (af (cg ef (mV 0)) (af (mK (.int 6)) au))) au)))) (gN 1) lL) (bQ (a7 (Ky id) (aV (aA bA (af (mK (.tup [.int 0,.tup []])) (af (mK (.tup [.tup [.int 14,.tup []],.tup []])) au)))) (mK (.bl b_))))
def uD:List D->M D:=lE 11 1 Er
def mF:2<=lim:=by unfold lim;omega
def GS:3<=lim:=by unfold lim;omega
def L7:HF (ar d::r) 0=aC d:=rfl
def L8:HF (o0::ar d::r) 1=aC d:=rfl
def L9:HF (o0::o1::ar d::r) 2=aC d:=rfl
def Ma:HF (o0::o1::o2::ar d::r) 3=aC d:=rfl
def Mb:HF (o0::o1::o2::o3::ar d::r) 4=aC d:=rfl
def mn:hV S n (.int i)=ar (.int i):=by cases n<;>rfl
def pB:hV S n (.bl b)=ar (.bool b):=by cases n<;>rfl
theorem eq_int{Q:D->aE->Prop}:runs (kR (.int a) (.int b)) S Q↔Q (.bl (decide (a=b))) S:=by
 unfold kR;rw[eU mn mn];have:hI (.int a) (.int b)=decide (a=b):=by simp only[hI];rw[P1];simp
 rw[this]
theorem qb(l:List Bool):boolsOf (l.map D.bl)=ar l:=by
 induction l with
 |nil=>rfl
 |cons b l ih=>simp[boolsOf,ih]
def bI:(S++[xs])[S.length]? =ar xs:=by simp
def HN{Q:D->aE->Prop}:runs (kR (.bl a) (.bl b)) S Q↔Q (.bl (a==b)) S:=by
 unfold kR;rw[eU pB pB];have:hI (.bool a) (.bool b)=(a==b):=by cases a<;>cases b<;>simp[hI]
 rw[this]
def B6{α:Type}(a:α):qj (aC a:M α)=aC a:=rfl
def GT{α Z:Type}{c:Prop} [Decidable c]{a b:M α}{f:α->M Z}:((if c then a else b)>>=f)=if c then a>>=f else b>>=f:=by split<;>rfl
def eL{α:Type}(l:List α):l.filter (λ_=>b_)=l:=List.filter_eq_self.mpr λ_ _=>rfl
def dM{m:dq}{ds:List D}(h:m (ds.map ar++f' (N - n) none)=aC o)(Z:outD o=aC d)(Y:ds.length=n:=by rfl):lE N n m ds=aC d:=by unfold lE tm;rw[if_pos Y];show(qj (m _)>>=outD)=_;rw[h,B6,aj,Z]
def vL{m n:TM}(Z:m ρ=aC x)(Y:n ρ=aC y):yu m n ρ=lZ [x,y]:=by
 have:af m (af n au) ρ=aC [x,y]:=by unfold af;rw[Z,aj,Y,aj];rfl
 unfold yu;rw[this,aj]
def sr{m:TM}(Z:m ρ=aC x):qi m ρ=mS [x]:=by
 have:af m au ρ=aC [x]:=by unfold af;rw[Z,aj];rfl
 unfold qi;rw[this,aj]
def GU(h: -(2 ^ 62)<=i/\i<2 ^ 62/\ -(2 ^ 62)<=j/\j<2 ^ 62):lZ [.int i,.int j]=aC ⟨a9 i (j - i).toNat,.none⟩:=by unfold lZ;exact if_pos h
def B7(h: -(2 ^ 62)<=j/\j<2 ^ 62):mS [.int j]=aC ⟨a9 0 j.toNat,.none⟩:=by unfold mS;exact if_pos h
def bX{f:D->D->M D}{m n:TM}(Z:m ρ=aC x)(Y:n ρ=aC y):a7 f m n ρ=f x y:=by unfold a7;rw[Z,aj,Y,aj]
def JW{bs:List Bool}:D7 [.fz (bs.map D.bl)]=aC (.bl (bs.any id)):=by show(match boolsOf (bs.map D.bl)with|some bs=>(aC (D.bl (bs.any id)):M D)|none=>M.fail)=_;rw[qb]
def eM{f:List D->M D}{m:TM}(h:m ρ=aC x):cg f m ρ=f [x]:=by
 have:af m au ρ=aC [x]:=by unfold af;rw[h,aj];rfl
 unfold cg aA;rw[this,aj]
def eh{m:TM}(h:m ρ=aC x):bQ m ρ=aC (.ret x):=by unfold bQ;rw[h];rfl
theorem vM(bs:List Bool):bU 0 (bs.map D.bl)=true:=by
 induction bs with
 |nil=>rfl
 |cons x r ih=>rw[OW];unfold bU;rw[ih];unfold d7;rfl
theorem lM{mi:aO->M Iter}{g:nE}{t:j4}{m:TM}(R:aO->Prop)(q:D->Bool)(f:D->D)(Y:mi ρ=aC ⟨its,.none⟩)(Z:its.length<=lim)(U:R (ko js ρ))(X:∀d∈its,∀ ρ,R ρ->∃ ρ1,g d ρ=aC ρ1/\R ρ1/\t ρ1=aC (q d)/\(q d=b_->m ρ1=aC (f d)))
  (W:bU 0 ((its.filter q).map f)=b_):aV (cq mi g t m js) ρ=aC (.fz ((its.filter q).map f)):=by
 have e:cq mi g t m js ρ=bB ((its.filter q).map f):=by unfold cq;rw[Y,aj,GE R q f Z U X,aj]
 unfold aV;rw[e];exact bW W (by rw[OC];exact OR (Qu _ _) Z)
section
variable {m n:dq}{ρ ρ':aO}{e e1 e2:TM}{x y d:D}{t:j4}{b:Bool}{o:Out}{N k:Nat}{ds:List D}{F:List D->M D}
def bh(h:m ρ=aC (.nx ρ')):aM m n ρ=n ρ':=by unfold aM;rw[h];rfl
def cT(h:m ρ=aC (.ret d)):aM m n ρ=aC (.ret d):=by unfold aM;rw[h];rfl
def mY(h:m ρ=M.raise x):aM m n ρ=M.raise x:=by unfold aM;rw[h];rfl
def xN(h:e ρ=aC x):rS e ρ=aC (.nx ρ):=by unfold rS;rw[h];rfl
def lO(h:e ρ=M.raise x):rS e ρ=M.raise x:=by unfold rS;rw[h];rfl
def pC(h:e ρ=aC x):bR i e ρ=aC (.nx (ρ.set i (ar x))):=by unfold bR;rw[h];rfl
def fe(h:t ρ=aC b):j5 t m n ρ=if b=b_ then m ρ else n ρ:=by unfold j5;rw[h];rfl
def dh{f:D->D->M D}(Z:e1 ρ=aC x)(Y:e2 ρ=aC y)(h:f x y=aC (.bl b)):gr f e1 e2 ρ=aC b:=by unfold gr;rw[Z,aj,Y,aj,h];rfl
def dn(h:e ρ=aC x):aA F (af e au) ρ=F [x]:=eM h
def kU(h:e ρ=aC x):aV e ρ=aC x:=by unfold aV;rw[h];exact vJ
def JX(h:e ρ=M.raise x):aV e ρ=M.raise x:=by unfold aV;rw[h];exact Ej
def su(h:m (ds.map ar++f' (N - k) none)=aC o)(Y:outD o=aC d)(Z:ds.length=k:=by rfl):tm N k m ds=aC d:=by unfold tm;rw[if_pos Z,h,aj,Y]
def gz(h:m (ds.map ar++f' (N - k) none)=M.raise x)(Z:ds.length=k:=by rfl):tm N k m ds=M.raise x:=by unfold tm;rw[if_pos Z,h];rfl
end
def B8:qj (bB us)=bB us:=by
 funext S;unfold qj bB;by_cases h:us.length<=lim
 ·rw[if_pos h]
 ·rw[if_neg h]
def call2{F:List D->M D}{e1 e2:TM}(Z:e1 ρ=aC x)(Y:e2 ρ=aC y):aA F (af e1 (af e2 au)) ρ=F [x,y]:=by
 have:af e1 (af e2 au) ρ=aC [x,y]:=by unfold af;rw[Z,aj,Y,aj];rfl
 unfold aA;rw[this,aj]
def ff{e:TM}(h:e ρ=aC (.bl b)):bV e ρ=aC b:=by unfold bV;rw[h];rfl
def lQ{us:List D}(h:us.length<=lim):b7 [.fz us]=aC (.tup us):=by show bj us=_;unfold bj;rw[if_pos h]
section
variable {α β:Type}{c:M α}{f:α->M β}{S S1:aE}{a:α}
def aH(h:c S=ar (.ok a,S1)):(c>>=f) S=f a S1:=by show M.bnd c f S=_;unfold M.bnd;rw[h]
end
section
variable {m n:dq}{ρ ρ':aO}{e e1 e2:TM}{x y:D}{S S1 S2:aE}{c:M D}{f:D->List D->M D}{F:List D->M D}
def aS(h:m ρ S=ar (.ok (.nx ρ'),S1)):aM m n ρ S=n ρ' S1:=aH h
def sv(h:e ρ S=ar (.ok x,S1)):rS e ρ S=ar (.ok (.nx ρ),S1):=aH h
def bN(h:e ρ S=ar (.ok x,S1)):bR i e ρ S=ar (.ok (.nx (ρ.set i (ar x))),S1):=aH h
def gC(h:e ρ S=ar (.ok x,S1)):bQ e ρ S=ar (.ok (.ret x),S1):=aH h
def dG{us:List D}(h:us.length<=lim):bB us S=ar (.ok (.lst S.length),S++[us]):=by unfold bB;exact if_pos h
def dj(h:S[p]? =ar us):getL p S=ar (.ok us,S):=by unfold getL;rw[h];rfl
def jC{us:List D}(h:us.length<=lim)(Z:p<S.length):kQ p us S=ar (.ok .non,S.set p us):=by unfold kQ;exact if_pos ⟨h,Z⟩
def Mc(Y:e1 ρ=aC x)(Z:Jg x=aC ())(X:e2 ρ=c):uw f e1 e2 ρ=c>>=λy=>f x [y]:=by unfold uw;rw[Y,aj,Z,aj,X,du];rfl
def uE(h:e ρ S=ar (.ok x,S1)):cg F e ρ S=F [x] S1:=by unfold cg aA;rw[aH (a:=[x]) (S1:=S1)];show(e ρ>>=_) S=_;rw[aH h];rfl
theorem vN(Z:e1 ρ S=ar (.ok x,S1))(Y:e2 ρ S1=ar (.ok y,S2)):b9 (af e1 (af e2 au)) ρ S=ar (.ok (.tup [x,y]),S2):=by
 unfold b9;rw[aH (a:=[x,y]) (S1:=S2)]
 ·unfold bj;rw[if_pos (show[x,y].length<=lim from mF)];rfl
 ·show(e1 ρ>>=_) S=_;rw[aH Z];show(((e2 ρ>>=_)>>=_):M (List D)) S1=_;rw[aH (a:=[y]) (S1:=S2)]
  ·rfl
  ·rw[aH Y];rfl
end
def fB:fD ⟨its,.none⟩ g b [] ρ=aC (.nx ρ):=by unfold fD;rw[cQ];rfl
def il{g:nE}{b:dq}(h:g d ρ=aC ρ1)(Z:b ρ1 S=ar (.ok (.nx ρ2),S1)):fD ⟨its,.none⟩ g b (d::ds) ρ S=fD ⟨its,.none⟩ g b ds ρ2 S1:=by rw[fD,cQ,aj,h,aj,aH Z]
theorem fG{m:dq}{ds:List D}(h:m (ds.map ar++f' (N - n) none) S=ar (.ok o,S1))(Z:outD o=aC d)(Y:ds.length=n:=by rfl):lE N n m ds S=ar (.ok d,S1):=by
 unfold lE tm;rw[if_pos Y,aH (a:=o) (S1:=S1),Z]
 ·rfl
 ·show qj (m _) S=_;unfold qj;rw[h]
def sx{mi:aO->M Iter}(Z:mi ρ=aC ⟨its,.none⟩)(h:fD ⟨its,.none⟩ g b its ρ S=ar (.ok o,S1)):jj mi g b ρ S=ar (.ok o,S1):=by unfold jj;rw[Z,aj];exact h
def Ow:kR (.bl b) (.bl b)=aC (.bl b_):=bH λS=>HN.mpr ⟨by rw[SN],rfl⟩
def zy{bs:List Bool}:rC [.fz (bs.map D.bl)]=aC (.bl (bs.all id)):=by show(match boolsOf (bs.map D.bl)with|some bs=>(aC (D.bl (bs.all id)):M D)|none=>M.fail)=_;rw[qb]
def aL{e:TM}{es:aO->M (List D)}(Z:e ρ=aC x)(Y:es ρ=aC ys):af e es ρ=aC (x::ys):=by unfold af;rw[Z,aj,Y];rfl
theorem xO{g:nE}{t:aO->M Bool}{m:TM}(R:aO->Prop)(q:D->Bool):∀(items:List D) (ρ:aO),R ρ->(∀d∈items,∀ ρ,R ρ->∃Z,g d ρ=aC Z/\R Z/\t Z S=ar (.ok (q d),S)/\m Z=aC d)->
  cV ⟨its,.none⟩ g t m items ρ S=ar (.ok (items.filter q),S)
 |[],ρ,_,_=>by unfold cV;rw[cQ];rfl
 |d::ds,ρ,hR,hb=>by
  obtain⟨Z,e1,Y,e2,e3⟩:=hb d (OV ..) ρ hR;have X:=xO (its:=its) R q ds Z Y λx W=>hb x (OO _ W);unfold cV;rw[cQ,aj,e1,aj,aH e2];cases hq:q d with
  |true=>rw[Qf hq,if_pos rfl,e3,aj,aH X];rfl
  |false=>rw[Qg (by rw[hq];decide),if_neg (by decide),X]
section
variable {e1 e2:TM}{f:D->D->M D}{x y:D}{S S1 S2:aE}{ρ:aO}{F:List D->M D}
def fu(Z:e1 ρ S=ar (.ok x,S1))(Y:e2 ρ S1=ar (.ok y,S2)):a7 f e1 e2 ρ S=f x y S2:=by unfold a7;rw[aH Z,aH Y]
def ba{es:aO->M (List D)}(Z:e1 ρ S=ar (.ok x,S1))(Y:es ρ S1=ar (.ok ys,S2)):af e1 es ρ S=ar (.ok (x::ys),S2):=by unfold af;rw[aH Z,aH Y];rfl
def uF(h:S[p]? =ar us)(Z:jS us j=ar x):cX (.lst p) (.int j) S=ar (.ok x,S):=by show(getL p>>=λxs=>match jS xs j with|some d=>(aC d:M D)|none=>M.fail) S=_;rw[aH (dj h),Z];rfl
def jM{es:aO->M (List D)}(h:es ρ S=ar (.ok ys,S1))(Z:ys.length<=lim):bD es ρ S=ar (.ok (.lst S1.length),S1++[ys]):=by unfold bD;rw[aH h];exact dG Z
theorem AE(Z:S[a]? =ar xs)(X:S[b]? =ar ys)(Y:(xs++ys).length<=lim):bP (.lst a) (.lst b) S=ar (.ok (.lst S.length),S++[xs++ys]):=by show(getL a>>=λxs=>getL b>>=λys=>bB (xs++ys)) S=_;rw[aH (dj Z),aH (dj X)];exact dG Y
end
def jd:D->Bool
 | .int _=>b_
 |_=>c_
abbrev AF(d:D):Prop:=tu d=b_
def mL:D->Bool
 | .tup [_,_]=>b_
 |_=>c_
def jN(many:Int):D->Bool
 | .int i=>decide (0<=i) && decide (i<many)
 |_=>c_
def fH(many:Int):D->Bool
 | .tup [a,b]=>jN many a && (jN many b && match a,b with| .int i,.int j=>decide (i<j)|_,_=>c_)
 |_=>c_
def ML(d:D):Prop:=AF d/\∀ds,d= .tup ds->∀x∈ds,AF x
theorem mq(h:jN many d=b_):∃i,d= .int i/\0<=i/\i<many:=by
 cases d with
 |int i=>exact⟨i,rfl,by simpa [jN]using h⟩
 |_=>cases h
def vO:D->D->Bool
 | .tup xs,.tup ys=>match intsOf xs,intsOf ys with
  |some a,ar b=>HT.lexLt a b
  |_,_=>c_
 |_,_=>c_
def qm:List D->Bool
 |a::b::r=>vO a b && qm (b::r)
 |_=>b_
def AG(d:D):Prop:=∃ds ns,d= .tup ds/\intsOf ds=ar ns
theorem AH:∀l:List D,((l.zip (l.drop 1)).map λp=>vO p.1 p.2).all id=qm l
 |[]=>rfl
 |[_]=>rfl
 |a::b::r=>by
  have:=AH (b::r);simp only[List.drop_succ_cons,Tr,G2,K',TK,id]at this⊢;rw[qm, <-this]
theorem NH(l:List D):S3.cutD l (ar 1) none=l.drop 1:=by
 unfold S3.cutD HT.sIx;cases l with
 |nil=>rfl
 |cons a r=>simp
def JY(d:D):Prop:=AF d/\∀ds,d= .tup ds->∀x∈ds,AF x/\∀ts,x= .tup ts->∀t∈ts,ML t
def gj:D->Bool
 | .tup [.int many,.tup ties]=>decide (0<=many) && (decide (many<=14) && (ties.all (fH many) && qm ties))
 |_=>c_
theorem AI(h:fH many d=b_):∃i j,d= .tup [.int i,.int j]/\0<=i/\i<j/\j<many:=by
 unfold fH at h;split at h
 ·next a b=>
  simp only[hO]at h;obtain⟨Y,U,Z⟩:=h;obtain⟨i,rfl,W,T⟩:=mq Y;obtain⟨j,rfl,S,X⟩:=mq U;simp only[decide_eq_true_eq]at Z;exact⟨i,j,rfl,W,Z,X⟩
 ·cases h
def B9(h:fH many d=b_):AG d:=by obtain⟨i,j,rfl,_⟩:=AI h;exact⟨_,[i,j],rfl,rfl⟩
section
variable {many:Int}{d:D}{ρ:aO}{e1 e2:TM}{b:Bool}{y:D}
theorem and_eq(Y:e1 ρ=aC (.bl b))(X:b=b_->e2 ρ=aC y)(Z:b=c_->y= .bl c_):qh e1 e2 ρ=aC y:=by
 unfold qh;rw[Y];cases b with
 |true=>exact X rfl
 |false=>rw[Z rfl];rfl
def NI{a b:Int}:kR (.int a) (.int b)=aC (.bl (decide (a=b))):=bH λS=>eq_int.mpr ⟨rfl,rfl⟩
def vP(h:AF d):dI [d]=aC (.bl (jd d)):=by cases d<;>first|rfl|cases h
theorem pD(h:AF d):cY [d]=aC (.bl (mL d)):=by
 cases d with
 |tup ds=>
  refine dM (eh (and_eq (b:=b_) rfl (λ_=>(bX (y:=.int 2) (eM (x:=.tup ds) rfl) rfl).trans NI) (λe=>by cases e))) ?_;show aC (D.bl (decide ((ds.length:Int)=2)))=_
  match ds with
  |[]=>rfl
  |[_]=>rfl
  |[_,_]=>rfl
  |_::_::_::r=>rw[OY (by simp only[n3];omega)];rfl
 |_=>first|rfl|cases h
theorem AJ(h:AF d):i9 [.int many,d]=aC (.bl (jN many d)):=by
 cases d with
 |int i=>
  refine dM (eh (and_eq (b:=b_) ((dn rfl).trans (vP h)) (λ_=>?_) (λe=>by cases e))) rfl;show(if decide (0<=i)=b_ then (aC (D.bl (decide (i<many))):M D)else aC (.bl c_))=aC (.bl (decide (0<=i) && decide (i<many)));by_cases h0:0<=i
  ·rw[if_pos (OS h0),OS h0,Ph]
  ·rw[if_neg (by rw[PJ];exact h0),OY h0,Pe]
 |_=>first|rfl|cases h
def AK(h:mL d=b_):∃a b,d= .tup [a,b]:=by
 unfold mL at h;split at h
 ·exact⟨_,_,rfl⟩
 ·cases h
def vQ{b:D}:fH many (.tup [a,b])=(jN many a && (jN many b && match a,b with| .int i,.int j=>decide (i<j)|_,_=>c_)):=rfl
theorem Es(h:ML d):j9 [.int many,d]=aC (.bl (fH many d)):=by
 by_cases hp:mL d=b_
 ·obtain⟨a,b,rfl⟩:=AK hp;have X:AF a:=h.2 _ rfl a (.head _);have W:AF b:=h.2 _ rfl b (.tail _ (.head _));refine dM (o:=.ret (.bl (fH many (.tup [a,b])))) ?_ rfl;unfold sh;have Z:cM (bV (aA cY (af (mV 1) au))) [ar (.int many),ar (.tup [a,b]),none,none]=aC false:=by
   show(bV _ _>>=_)=_;rw[ff ((dn rfl).trans (pD h.1))];rfl
  refine(bh (ρ':=[ar (.int many),ar (.tup [a,b]),none,none]) ((fe Z).trans (if_neg (by decide)))).trans ((bh (ρ':=[ar (.int many),ar (.tup [a,b]),ar a,ar b]) rfl).trans (eh ?_));refine and_eq (b:=jN many a) ((call2 rfl rfl).trans (AJ X)) (λk1=>and_eq (b:=jN many b) ((call2 rfl rfl).trans (AJ W)) (λk2=>?_) λk2=>?_) λk1=>?_
  ·obtain⟨i,rfl,_⟩:=mq k1;obtain⟨j,rfl,_⟩:=mq k2;rw[vQ,k1,k2];rfl
  ·rw[vQ,k2,Pe,Qk]
  ·rw[vQ,k1,Pe]
 ·have Y:mL d=false:=by rw[<-Ra];exact hp
  have Z:cM (bV (aA cY (af (mV 1) au))) [ar (.int many),ar d,none,none]=aC true:=by show(bV _ _>>=_)=_;rw[ff ((dn rfl).trans (pD h.1)),Y];rfl
  refine(dM (o:=.ret (.bl c_)) (cT ((fe Z).trans (if_pos rfl))) rfl).trans ?_;unfold fH;split
  ·cases hp rfl
  ·rfl
def JZ{a b:D}(Z:AG a)(Y:AG b):rp a b=aC (.bl (vO a b)):=by obtain⟨xs,ns,rfl,e1⟩:=Z;obtain⟨ys,ms,rfl,e2⟩:=Y;simp only[rp,e1,e2,vO]
def Ob:D->D
 | .tup [a,b]=>.bl (vO a b)
 |_=>.non
theorem Et(h:∀t∈ts,AG t)(W:ts.length<=1000):gW [.tup ts]=aC (.bl (qm ts)):=by
 have em:(((ts.zip (ts.drop 1)).map λp:D×D=>D.tup [p.1,p.2]).filter λ_=>b_).map Ob=((ts.zip (ts.drop 1)).map λp=>vO p.1 p.2).map D.bl:=by rw[eL,Pn,Pn];rfl
 have hs:aV (BH (mV 0) (oS (mK (.int 1))) oN) [ar (.tup ts)]=aC (.tup (ts.drop 1)):=by refine kU (?_ :bj (S3.cutD ts (ar 1) none)=_);rw[NH];unfold bj;exact if_pos (by rw[P2];unfold lim;omega)
 have X:Au (mV 0) (aV (BH (mV 0) (oS (mK (.int 1))) oN)) [ar (.tup ts)]=aC ⟨(ts.zip (ts.drop 1)).map λp:D×D=>D.tup [p.1,p.2],.none⟩:=by unfold Au;rw[aL (x:=.tup ts) rfl (aL hs rfl)];rfl
 have Z:=lM (g:=gq 2 (bS (gN 0) (bS (gN 1) gQ))) (t:=iX) (m:=iY) (js:=[none,none]) (λρ=>∃x y,ρ=[x,y]) (λ_=>b_) Ob X (by rw[OC,List.length_zip];unfold lim;omega) ⟨none,none,rfl⟩
  (λd hd ρ ⟨x,y,hρ⟩=>by subst hρ;obtain⟨⟨a,b⟩,Y,rfl⟩:=O0.mp hd;exact⟨_,rfl,⟨_,_,rfl⟩,rfl,λ_=>(bX (x:=a) (y:=b) rfl rfl).trans (JZ (h a (Rn Y).1) (h b (Q5 (Rn Y).2)))⟩) (by rw[em];exact vM _)
 rw[em]at Z;refine dM (eh ((eM Z).trans zy)) ?_;rw[AH];rfl
theorem Eu(h:JY d)(U:∀m ts,d= .tup [m,.tup ts]->ts.length<=1000):d8 [d]=aC (.bl (gj d)):=by
 by_cases hp:mL d=b_
 ·obtain⟨a,t,rfl⟩:=AK hp;obtain⟨N,_⟩:=h.2 _ rfl a (.head _);obtain⟨O,P⟩:=h.2 _ rfl t (.tail _ (.head _));refine dM (o:=.ret (.bl (gj (.tup [a,t])))) ?_ rfl;unfold si;have S:cM (bV (aV (aA cY (af (mV 0) au)))) [ar (.tup [a,t]),none,none]=aC false:=by
   show(bV _ _>>=_)=_;rw[ff (kU ((dn rfl).trans (pD h.1)))];rfl
  refine(bh (ρ':=[ar (.tup [a,t]),none,none]) ((fe S).trans (if_neg (by decide)))).trans ((bh (ρ':=[ar (.tup [a,t]),ar a,ar t]) rfl).trans ?_);have hw:cM (bV (aV (aA dI (af (mV 1) au)))) [ar (.tup [a,t]),ar a,ar t]=aC (!jd a):=by show(bV _ _>>=_)=_;rw[ff (kU ((dn rfl).trans (vP N)))];rfl
  have X:∀{p q:j4} {b:Bool} {ρ:aO},p ρ=aC b->nZ p q ρ=if b=b_ then aC b_ else q ρ:=λ{p q b ρ} e=>by show(p ρ>>=_)=_;rw[e];rfl
  have no:∀{q:j4},nZ (cM (bV (aV (aA dI (af (mV 1) au))))) q [ar (.tup [a,t]),ar a,ar t]=aC b_->aM (j5 (nZ (cM (bV (aV (aA dI (af (mV 1) au))))) q) (bQ (mK (.bl c_))) d6) (bQ (qh (cg rC (aV (cq (ez (mV 2)) (gN 0) jw jx [none,ar 1]))) (aV (aA gW (af (mV 2) au))))) [ar (.tup [a,t]),ar a,ar t]=aC (.ret (.bl c_)):=λe=>cT ((fe e).trans (if_pos rfl));by_cases ew:jd a=b_
  ·cases a with
   | int many=>
    rw[ew]at hw;have W:cM (oY yt yt (mK (.int 0)) (mV 1) (mK (.int 14))) [ar (.tup [.int many,t]),ar (.int many),ar t]=aC (!(decide (0<=many) && decide (many<=14))):=by
     show(((if decide (0<=many)=b_ then (aC (D.bl (decide (many<=14))):M D)else aC (.bl c_))>>=kh)>>=_)=_;by_cases h0:0<=many
     ·rw[if_pos (OS h0),OS h0,Ph];rfl
     ·rw[if_neg (by rw[PJ];exact h0),OY h0,Pe];rfl
    by_cases hr:(decide (0<=many) && decide (many<=14))=b_
    ·rw [hr]at W;cases t with
     | tup ts=>
      have Q:=U _ ts rfl;have L:nZ (cM (bV (aV (aA dI (af (mV 1) au))))) (nZ (cM (oY yt yt (mK (.int 0)) (mV 1) (mK (.int 14)))) (cM (bV (iV (mV 2) "tuple")))) [ar (.tup [.int many,.tup ts]),ar (.int many),ar (.tup ts)]=aC false:=by rw[X hw,if_neg (by decide),X W,if_neg (by decide)];rfl
      refine(bh ((fe L).trans (if_neg (by decide)))).trans (eh ?_);have em:(ts.filter λ_=>b_).map (λd=>D.bl (fH many d))=(ts.map (fH many)).map D.bl:=by rw[eL,Pn];rfl
      have hm:=lM (mi:=ez (mV 2)) (ρ:=[ar (.tup [.int many,.tup ts]),ar (.int many),ar (.tup ts)]) (g:=gN 0) (t:=jw) (m:=jx) (js:=[none,ar 1]) (its:=ts) (λρ=>∃x,ρ=[x,ar (.int many)]) (λ_=>b_) (λd=>.bl (fH many d)) rfl (by unfold lim;omega) ⟨none,rfl⟩
       (λd hd ρ ⟨x,hρ⟩=>by subst hρ;exact⟨_,rfl,⟨_,rfl⟩,rfl,λ_=>kU ((call2 (x:=.int many) (y:=d) rfl rfl).trans (Es (P ts rfl d hd)))⟩) (by rw[em];exact vM _)
      rw[em]at hm;have T:(ts.map (fH many)).all id=ts.all (fH many):=by rw[Rj];rfl
      have Y:gj (.tup [.int many,.tup ts])=(ts.all (fH many) && qm ts):=by show(decide (0<=many) && (decide (many<=14) && (ts.all (fH many) && qm ts)))=_;rw[<-Qv,hr,Ph]
      rw[Y];refine and_eq (b:=ts.all (fH many)) ((eM hm).trans (zy.trans (by rw[T]))) (λZ=>?_) λZ=>by rw[Z];rfl
      rw[Z,Ph];exact kU ((dn rfl).trans (Et (λt O=>B9 (OT.mp Z t O)) Q))
     |_=>first|exact no (by rw[X hw,if_neg (by decide),X W,if_neg (by decide)];rfl)|cases O
    ·have Y:gj (.tup [.int many,t])=false:=by
      cases t<;>first|rfl|(show(decide (0<=many) && (decide (many<=14) && _))=c_;rw[<-Qv,Ra _ |>.mp hr,Pe])
     rw[Y];rw[Ra _ |>.mp hr]at W;exact no (by rw[X hw,if_neg (by decide),X W];rfl)
   |_=>cases ew
  ·have Y:gj (.tup [a,t])=false:=by cases a<;>first|rfl|exact absurd rfl ew
   rw[Y];exact no (by rw[X hw,Ra _ |>.mp ew];rfl)
 ·have R:mL d=false:=by rw[<-Ra];exact hp
  have S:cM (bV (aV (aA cY (af (mV 0) au)))) [ar d,none,none]=aC true:=by show(bV _ _>>=_)=_;rw[ff (kU ((dn rfl).trans (pD h.1))),R];rfl
  refine(dM (o:=.ret (.bl c_)) (cT ((fe S).trans (if_pos rfl))) rfl).trans ?_;unfold gj;split
  ·cases hp rfl
  ·rfl
end
def eZ(S:aE)(k:Nat):Prop:=∃st b,S[k]? =ar [.int st,.bl b]/\0<=st/\(b=c_->st<2147483647)
def eZ.lt(h:eZ S k):k<S.length:=let ⟨_,_,e,_⟩:=h;(OI.mp e).1
def HP{t:j4}(h:t ρ S=ar (.ok b,S1)):j5 t m n ρ S=if b=b_ then m ρ S1 else n ρ S1:=by show(t ρ>>=λc=>if c=b_ then m ρ else n ρ) S=_;rw[aH h];split<;>rfl
section
variable {S:aE}{k:Nat}{st x y many:Int}{b:Bool}{r:List (Option D)}{e1 e2:TM}{ρ:aO}
def KC(e:S[k]? =ar [.int st,.bl b]):a7 cX (mV 0) (mK (.int 0)) (ar (.lst k)::r) S=ar (.ok (.int st),S):=uF e rfl
theorem jH(Z:e1 ρ S=ar (.ok (.int x),S))(Y:e2 ρ S=ar (.ok (.int y),S))(h:0<y):a7 mR e1 e2 ρ S=ar (.ok (.int (x % y)),S):=
 (fu Z Y).trans (O4 (if_pos h:(if 0<y then (aC (D.int (x % y)):M D)else M.fail)=_) S)
theorem sy(Z:e1 ρ S=ar (.ok (.int x),S))(Y:e2 ρ S=ar (.ok (.int y),S))(h:yz x y):a7 vk e1 e2 ρ S=ar (.ok (.int (x*y)),S):=
 (fu Z Y).trans (O4 (if_pos h:(if yz x y then (aC (D.int (x*y)):M D)else M.fail)=_) S)
theorem Ew(Z:e1 ρ S=ar (.ok (.int x),S))(Y:e2 ρ S=ar (.ok (.int y),S))(h:A9 x y):a7 nI e1 e2 ρ S=ar (.ok (.int (x / y)),S):=
 (fu Z Y).trans (O4 (if_pos h:(if A9 x y then (aC (D.int (x / y)):M D)else M.fail)=_) S)
def vR(Z:e1 ρ S=ar (.ok (.int x),S))(Y:e2 ρ S=ar (.ok (.int y),S)):a7 bP e1 e2 ρ S=ar (.ok (.int (x+y)),S):=(fu Z Y).trans rfl
theorem Md(e:S[k]? =ar [.int st,.bl b])(h:e1 (ar (.lst k)::r) S=ar (.ok (.int x),S)):mC e1 (DJ (mV 0) (mK (.int 0))) (ar (.lst k)::r) S=ar (.ok (.nx (ar (.lst k)::r)),S.set k [.int x,.bl b]):=by
 have Y:fQ (.lst k) (.int 0) (.int x) S=ar (.ok (),S.set k [.int x,.bl b]):=by show(getL k>>=_) S=_;rw[aH (dj e)];exact aH (jC (us:=[.int x,.bl b]) mF (OI.mp e).1)
 have Z:DJ (mV 0) (mK (.int 0)) (.int x) (ar (.lst k)::r) S=ar (.ok (ar (.lst k)::r),S.set k [.int x,.bl b]):=aH Y;show(e1 _>>=_) S=_;rw[aH h];exact aH Z
def sA{m:dq}(h:m ρ S=ar (.ok (.ret d),S1)):aM m n ρ S=ar (.ok (.ret d),S1):=aH h
end
theorem J0{Q:D->aE->Prop}(hs:eZ S k)(Y:0<many)(P:many<1073741824)
  (X:∀j S',0<=j->j<many->S'.length=S.length->(∀i,i≠k->S'[i]? =S[i]?)->eZ S' k->Q (.int j) S'):runs (aF [.lst k,.int many]) S Q:=by
 have U:=hs.lt;obtain⟨st,b,e,O,N⟩:=hs;have q:∀x:Int,0<=x % many/\x % many<many:=λx=>⟨QU _ (by omega),Qq _ Y⟩;have R:bV (a7 cX (mV 0) (mK (.int 1))) [ar (.lst k),ar (.int many),none,none] S=ar (.ok b,S):=aH (uF (x:=.bl b) e rfl);have Z:∀(ys:List D) i,i≠k->(S.set k ys)[i]? =S[i]? :=λys i L=>Pu (kC L);cases b with
 |true=>
  refine⟨_,_,fG (o:=.ret (.int (st % many))) (S1:=S.set k [.int (st / many),.bl b_]) ?_ rfl,X _ _ (q _).1 (q _).2 (by simp) (Z _) ⟨_,b_,Pb U,Int.ediv_nonneg O (by omega),λz=>by cases z⟩⟩;exact sA ((HP R).trans ((aS (bN (jH (KC e) rfl Y))).trans ((aS (Md e (Ew (KC e) rfl ⟨Y,P⟩))).trans (gC rfl))))
 |false=>
  have I:=N rfl;generalize hst:(st*48271+29) % 2147483647=st';have s1:0<=st':=by rw[<-hst];exact QU _ (by decide)
  have s2:st'<2147483647:=by rw[<-hst];exact Qq _ (by decide)
  have e1:(S.set k [.int st',.bl c_])[k]? =ar [.int st',.bl c_]:=Pb U;have T:=Md (r:=[ar (.int many),none,none]) e (jH (vR (sy (KC e) (e2:=mK (.int 48271)) rfl (.inr ⟨by decide,by decide⟩)) (e2:=mK (.int 29)) rfl) (e2:=mK (.int 2147483647)) rfl (by decide));rw[hst]at T;have W:∀r,a7 mR (a7 bP (a7 bP (a7 vk (a7 cX (mV 0) (mK (.int 0))) (a7 cX (mV 0) (mK (.int 0)))) (a7 vk (mK (.int 39373)) (a7 cX (mV 0) (mK (.int 0))))) (mK (.int 7))) (mK (.int 2147483629)) (ar (.lst k)::r) (S.set k [.int st',.bl c_])=_:=λr=>jH (vR (vR (sy (KC e1) (KC e1) (.inl ⟨by omega,by omega⟩)) (sy rfl (KC e1) (.inl ⟨by decide,by decide⟩))) rfl) rfl (by decide);generalize hx:(st'*st'+39373*st'+7) % 2147483629=x at W;have J:0<=x:=by rw[<-hx];exact QU _ (by decide)
  have K:x<2147483629:=by rw[<-hx];exact Qq _ (by decide)
  refine⟨_,_,fG (o:=.ret (.int ((x*x+16807*x) % 2147483587 / 8 % many))) (S1:=S.set k [.int st',.bl c_]) ?_ rfl,X _ _ (q _).1 (q _).2 (by simp) (Z _) ⟨_,c_,e1,s1,λ_=>s2⟩⟩;exact(aS (HP R)).trans ((aS T).trans ((aS (bN (W _))).trans ((aS (bN (jH (vR (sy rfl rfl (.inl ⟨by omega,by omega⟩)) (sy rfl rfl (.inl ⟨by decide,by decide⟩))) rfl (by decide)))).trans (gC (jH (Ew rfl rfl ⟨by decide,by decide⟩) rfl Y)))))
theorem J1{S:aE}{ns:List Int}{k:Nat}:∃i,eF [.ro (ns.map D.int),.int k] S=ar (.ok (.int i),S):=by
 have Z:gr rp (mV 1) (cg ef (mV 0)) [ar (.ro (ns.map D.int)),ar (.int k)]=aC (decide ((k:Int)<(ns.map D.int).length)):=dh (x:=.int k) (y:=.int (ns.map D.int).length) rfl rfl rfl;by_cases h:k<ns.length
 ·refine⟨ns[k],fG (o:=.ret (.int ns[k])) (sA ((O4 ((fe Z).trans (if_pos (OS (by rw[OC];omega)))) S).trans (gC (x:=.int ns[k]) (S1:=S) ?_))) rfl⟩;have e:jS (ns.map D.int) (k:Int)=ar (.int ns[k]):=by
   unfold jS yq;simp[h]
  show(match jS (ns.map D.int) k with|some d=>(aC d:M D)|none=>M.fail) S=_;rw[e];rfl
 ·exact⟨0,fG (o:=.ret (.int 0)) (O4 ((bh ((fe Z).trans (if_neg (by rw[PJ,OC];omega)))).trans rfl) S) rfl⟩
theorem GV{S:aE}{ns:List Int}{k:Nat}{Q:D->aE->Prop}(Y:∀xs,eZ (S++[xs]) S.length->Q (.lst S.length) (S++[xs])):runs (iH [.ro (ns.map D.int),.int k]) S Q:=by
 obtain⟨c,U⟩:=J1 (S:=S) (ns:=ns) (k:=k);have Z:bR 2 (aA eF (af (mV 0) (af (mV 1) au))) [ar (.ro (ns.map D.int)),ar (.int k),none] S=ar (.ok (.nx [ar (.ro (ns.map D.int)),ar (.int k),ar (.int c)]),S):=bN (x:=.int c) (by rw[call2 (x:=.ro (ns.map D.int)) (y:=.int k) rfl rfl];exact U);have X:∀ ρ,a7 C8 (mK (.int 10)) (mK (.int 18)) ρ=aC (.int 1000000000000000000):=λρ=>(bX (x:=.int 10) (y:=.int 18) rfl rfl).trans (if_pos (e:=M.fail) (show FC 10 18 from⟨by decide,by decide,by decide⟩));have W:gr Nv (mV 2) (a7 C8 (mK (.int 10)) (mK (.int 18))) [ar (.ro (ns.map D.int)),ar (.int k),ar (.int c)]=aC (decide (1000000000000000000<=c)):=dh (x:=.int c) rfl (X _) rfl;by_cases h:1000000000000000000<=c
 ·exact⟨_,_,fG (o:=.ret (.lst S.length)) ((aS Z).trans (sA ((O4 ((fe W).trans (if_pos (OS h))) S).trans (gC (jM (ys:=[.int (c - 1000000000000000000),.bl b_]) (ba (S1:=S) (O4 ((bX (x:=.int c) rfl (X _)).trans rfl) S) (ba rfl rfl)) mF))))) rfl,Y _ ⟨_,b_,bI,by omega,λz=>by cases z⟩⟩
 ·exact⟨_,_,fG (o:=.ret (.lst S.length)) ((aS Z).trans ((aS (O4 ((fe W).trans (if_neg (by rw[PJ];exact h))) S)).trans (gC (jM (ys:=[.int (c % 2147483647),.bl c_]) (ba (jH rfl rfl (by decide)) (ba rfl rfl)) mF)))) rfl,Y _ ⟨_,c_,bI,QU _ (by decide),λ_=>Qq _ (by decide)⟩⟩
def kI(n a:Nat):List (List Int):=(lN (a+1) (n - (a+1))).map λb:Nat=>[(a:Int),(b:Int)]
def bF(n:Nat):List (List Int):=(ee n).flatMap (kI n)
def pairs_len(Z:n<=14):(bF n).length<=91:=by
 have:∀m,m<15->(bF m).length<=91:=by decide+kernel
 exact this n (by omega)
def GW(Z:n<=14):(kI n a).length<=14:=by unfold kI;simp;omega
structure Kp(k:Nat)(S S':aE):Prop where
 len:S.length<=S'.length
 oth:∀i,i<S.length->i≠k->S'[i]? =S[i]?
 st:eZ S' k
theorem Kp.trans(a:Kp k S S1)(b:Kp k S1 S2):Kp k S S2:=⟨OR a.len b.len,λi Y Z=>(b.oth i (OU Y a.len) Z).trans (a.oth i Y Z),b.st⟩
def Kp.refl(h:eZ S k):Kp k S S:=⟨OF _,λ_ _ _=>rfl,h⟩
def eZ.grow(h:eZ S k):eZ (S++G) k:=by obtain⟨st,b,e,r⟩:=id h;exact⟨st,b,by rw[Pf h.lt];exact e,r⟩
theorem Kp.grow(h:eZ S k)(G:aE):Kp k S (S++G):=⟨by simp,λi Z _=>Pf Z,h.grow⟩
theorem AL{Q:D->aE->Prop}(hs:eZ S k)(X:0<many)(Y:many<1073741824)(U:∀j Z,0<=j->j<many->Z.length=S.length->Kp k S Z->Q (.int j) Z):runs (aF [.lst k,.int many]) S Q:=
 J0 hs X Y λj Z a b c d e=>U j Z a b c ⟨Ri c.symm,λi _ W=>d i W,e⟩
theorem pE:∀ns:List Int,mapP (hV S n) (ns.map D.int)=ar (ns.map wL)
 |[]=>rfl
 |x::r=>by
  show(match hV S n (D.int x),mapP (hV S n) (r.map D.int)with|some p,ar ps=>ar (p::ps)|_,_=>none)=_;rw[mn,pE r];rfl
theorem Ey{ns:List Int}(h:S[k]? =ar (ns.map D.int)):hV S (n+1) (.lst k)=ar (.list (ns.map wL)):=by show((S[k]?).bind λxs=>(mapP (hV S n) xs).map u3)=_;rw[h];show(mapP (hV S n) (ns.map D.int)).map u3=_;rw[pE];rfl
theorem uG{α Z:Type}(f:α->Z):∀(l:List α) (i:Nat),(l.map f).eraseIdx i=(l.eraseIdx i).map f
 |[],_=>rfl
 |_::_,0=>rfl
 |a::l,i+1=>by simp[uG f l i]
def iI(r:List Int):PyData:=.tuple (r.map wL)
def jD(r:List Int):hV S (n+1) (tupI r)=ar (iI r):=by show(mapP (hV S n) (r.map D.int)).map SF=_;rw[pE];rfl
theorem iP:∀rs:List (List Int),mapP (hV S (n+1)) (rs.map tupI)=ar (rs.map iI)
 |[]=>rfl
 |x::r=>by
  show(match hV S (n+1) (tupI x),mapP (hV S (n+1)) (r.map tupI)with|some p,ar ps=>ar (p::ps)|_,_=>none)=_;rw[jD,iP r];rfl
theorem Ez{rs:List (List Int)}(h:S[k]? =ar (rs.map tupI)):hV S (n+2) (.lst k)=ar (.list (rs.map iI)):=by show((S[k]?).bind λxs=>(mapP (hV S (n+1)) xs).map u3)=_;rw[h];show(mapP (hV S (n+1)) (rs.map tupI)).map u3=_;rw[iP];rfl
def GX{rs:List (List Int)}{Q:D->aE->Prop}(h:S[k]? =ar (rs.map tupI))(Z:∀b,Q (.bl b) S):runs (inD (tupI r) (.lst k)) S Q:=by unfold inD;rw[qG (jD r) (Ez h) rfl];exact Z _
def Me{Q:D->aE->Prop}(Z:∀b,Q (.bl b) S):runs (kd (.bl a) (.bl b)) S Q:=by unfold kd;rw[eU pB pB];exact Z _
theorem fJ(ns:List Int):intsOf (ns.map D.int)=ar ns:=by
 induction ns with
 |nil=>rfl
 |cons x r ih=>simp[intsOf,ih]
theorem eN(rs:List (List Int)):rowsOf (rs.map tupI)=ar rs:=by
 induction rs with
 |nil=>rfl
 |cons x r ih=>
  show(match intsOf (x.map D.int),rowsOf (r.map tupI)with|some ns,ar nss=>ar (ns::nss)|_,_=>none)=_;rw[fJ,ih]
structure WebOk(many:Int)(ts:List (List Int)):Prop where
 el:∀t∈ts,∃a b:Int,t=[a,b]/\0<=a/\a<b/\b<many
 ris:ts.Pairwise λa b=>HT.lexLt a b=b_
 few:ts.length<=21
theorem EB:∀t∈bF n,∃a b:Int,t=[a,b]/\0<=a/\a<b/\b<n:=by intro t Y;unfold bF at Y;obtain⟨a,W,X⟩:=SQ.mp Y;unfold kI at X;obtain⟨b,Z,rfl⟩:=O0.mp X;rw[P6]at Z;rw[OP]at W;exact⟨a,b,rfl,by omega,by omega,by omega⟩
theorem uH(Z:n<=7):(bF n).Pairwise (λa b=>HT.lexLt a b=b_)/\(bF n).length<=21:=by
 have:∀m,m<8->(bF m).Pairwise (λa b=>HT.lexLt a b=b_)/\(bF m).length<=21:=by decide+kernel
 exact this n (by omega)
def WebOk.of_sub(Z:n<=7){Y:List (List Int)}(h:Y.Sublist (bF n)):WebOk n Y:=
 ⟨λt X=>EB t (h.subset X),List.Pairwise.sublist h (uH Z).1,OR h.length_le (uH Z).2⟩
def Ca{Z:List (List Int)}(h:Z.Pairwise λa b=>HT.lexLt a b=b_):b0 Z=Z:=
 jX (bu Z) (dC Z) (h.imp λz=>lz z)
def Cb:vO (tupI a) (tupI b)=HT.lexLt a b:=by simp only[vO,tupI,fJ]
theorem sC:∀{ts:List (List Int)},ts.Pairwise (λa b=>HT.lexLt a b=b_)->qm (ts.map tupI)=b_
 |[],_=>rfl
 |[_],_=>rfl
 |a::b::r,h=>by
  obtain⟨Z,Y⟩:=Pz.mp h;show(vO (tupI a) (tupI b) && qm ((b::r).map tupI))=b_;rw[Cb,Z b (by simp),sC Y];rfl
theorem AM(X:0<=many)(Z:many<=14)(w:WebOk many ts):gj (.tup [.int many,.tup (ts.map tupI)])=true:=by
 have:(ts.map tupI).all (fH many)=true:=by rw[Rj,OT];intro t U;obtain⟨a,b,rfl,Y,T,W⟩:=w.el t U;simp[tupI,fH,jN,Y,T,W];omega
 simp only[gj,X,Z,this,sC w.ris,decide_true,TR]
def uI:t∈iu l↔t∈l:=by unfold iu;rw[(bu _).mem_iff,jY]
theorem uJ:∀l:List (List Int),(gx l).length<=l.length
 |[]=>OF _
 |x::r=>by
  unfold gx;have:=uJ r;split
  ·simp;omega
  ·simp;omega
def pF(l:List (List Int)):(iu l).length<=l.length:=by unfold iu;rw[(bu _).length_eq];exact uJ l
theorem pG(l:List (List Int)):(iu l).Pairwise λa b=>HT.lexLt a b=true:=by
 have Y:=dC (gx l);have Z:(iu l).Nodup:=(QD (bu _)).mpr (nV l);unfold iu at Z⊢;generalize b0 (gx l)=s at Y Z
 induction s with
 |nil=>exact .nil
 |cons x r ih=>
  obtain⟨a1,a2⟩:=Pz.mp Y;obtain⟨U,W⟩:=PM.mp Z;refine Pz.mpr ⟨λy X=>?_,ih a2 W⟩;cases q:HT.lexLt x y with
  |true=>rfl
  |false=>exact absurd (qE q (a1 y X) ▸ X) U
def Mf:Nat->D->Bool
 |_,.ro _=>c_
 |_,.fn _ _ _ _ _=>c_
 |_,.exc _ _=>c_
 |n+1,.tup ds=>ds.all (Mf n)
 |_,_=>b_
def AN(h:Mf n d=b_):AF d:=by cases d<;>first|rfl|(cases n<;>cases h)
def Mg(h:Mf (n+1) d=b_):ML d:=⟨AN h,λds e x Z=>by subst e;exact AN (OT.mp h x Z)⟩
def Mh:D->Bool
 | .tup ds=>ds.all λx=>match x with
  | .tup ts=>decide (ts.length<=18)
  |_=>b_
 |_=>b_
structure Good(d:D):Prop where
 nr:JY d
 few:∀m ts,d= .tup [m,.tup ts]->ts.length<=18
theorem GY(h:Mf 3 d=b_)(T:Mh d=b_):Good d:=⟨⟨AN h,λds e x X=>by
  subst e;have Z:=OT.mp h x X;refine⟨AN Z,λY W t U=>?_⟩;subst W;exact Mg (OT.mp Z t U)⟩,λm Y e=>by
  subst e;have:=OT.mp T (.tup Y) (by simp);simpa using this⟩
def EC(d:D):Bool:=Mf 3 d && Mh d
def oq(h:EC d=b_):Good d:=by unfold EC at h;rw[Po]at h;exact GY h.1 h.2
def HQ{xs:List D}{j:Int}(X:0<=j)(Y:j<xs.length):∃d,jS xs j=ar d/\d∈xs:=by
 have Z:j.toNat<xs.length:=by omega
 refine⟨xs[j.toNat],?_,PY Z⟩;unfold jS yq;simp[X,Y,Z]
section
variable {d:D}
def ED(h:JY d)(Z:∀m ts,d= .tup [m,.tup ts]->ts.length<=1000):fW (d8 [d])=aC (.bl (gj d)):=by rw[Eu h Z];exact vJ
theorem EE(h:JY d)(Y:∀m ts,d= .tup [m,.tup ts]->ts.length<=1000):gy [d]=if gj d=b_ then aC .non else M.raise (.exc "NoWeb" []):=by
 have Z:cM (bV (aV (aA d8 (af (mV 0) au)))) [ar d]=aC (!gj d):=by show(bV _ _>>=_)=_;rw[ff (b:=gj d) (kU ((dn rfl).trans (Eu h Y)))];rfl
 cases hw:gj d with
 |true=>exact(su ((fe Z).trans (by rw[hw];exact if_neg (by decide))) rfl).trans (if_pos rfl).symm
 |false=>exact(gz ((fe Z).trans (by rw[hw];exact if_pos rfl))).trans (if_neg (by decide)).symm
end
def Oc(n:Nat):D->List D
 | .int a=>(kI n a.toNat).map tupI
 |_=>[]
theorem GZ(n a:Nat):((a9 ((a:Int)+1) ((n:Int) - ((a:Int)+1)).toNat).filter λ_=>b_).flatMap (λd=>[D.tup [.int a,d]])=(kI n a).map tupI:=by
 have e:((n:Int) - ((a:Int)+1)).toNat=n - (a+1):=by omega
 rw[e,eL];unfold a9 kI;rw[Ss,Pn,Pn,List.flatMap_map]
 induction (ee (n - (a+1)))with
 |nil=>rfl
 |cons x l ih=>rw[QZ,ih];rfl
theorem G0(n:Nat):((a9 0 n).filter λ_=>b_).flatMap (Oc n)=(bF n).map tupI:=by rw[eL];unfold a9 bF;rw[List.flatMap_map,List.map_flatMap];congr 1;funext a;show(kI n (0+(a:Int)).toNat).map tupI=_;congr 2;omega
theorem bf(l:List (List Int)):bU 0 (l.map tupI)=true:=by
 have h:∀r:List Int,bU 0 (r.map D.int)=true:=λr=>by
  induction r with
  |nil=>rfl
  |cons x r ih=>rw[OW];unfold bU;rw[ih];unfold d7;rfl
 induction l with
 |nil=>rfl
 |cons x l ih=>rw[OW];unfold bU;rw[ih];unfold tupI d7;rw[h];rfl
theorem sD(Z:n<=50):(bF n).length<=2500:=by
  have:∀l:List Nat,(l.flatMap (kI n)).length<=l.length*50:=λl=>by
    induction l with
    |nil=>exact OF 0
    | cons x l ih => rw[QZ,OG,O9,QT];have:(kI n x).length<=50:=by unfold kI;simp;omega
                     omega
  have:=this (ee n);rw[Pi]at this;unfold bF;exact OR this (Nat.mul_le_mul_right 50 Z)
theorem Mi{n a:Nat}(U:n<=50)(T:a<n)(y:Option D):∃ ρ2,(∃x y,ρ2=[x,y,ar (.int n)])/\JP (yu (a7 bP (mV 0) (mK (.int 1))) (mV 2)) (gN 1) dJ cw [ar (.int a),y,ar (.int n)]=aC ((kI n a).map tupI,ρ2):=by
 obtain⟨ρ',⟨Z,rfl⟩,e⟩:=AD (its:=a9 ((a:Int)+1) ((n:Int) - ((a:Int)+1)).toNat) (g:=gN 1) (t:=dJ) (bd:=BW cw) (λρ=>∃y,ρ=[ar (.int a),y,ar (.int n)]) (λ_=>b_) (λd=>[D.tup [.int a,d]]) (a9 ((a:Int)+1) ((n:Int) - ((a:Int)+1)).toNat) [ar (.int a),y,ar (.int n)] ⟨y,rfl⟩ λd hd ρ ⟨y,hρ⟩=>by
  subst hρ;refine⟨_,rfl,rfl,λ_=>⟨[ar (.int a),ar d,ar (.int n)],⟨_,rfl⟩,?_⟩,λh=>by cases h⟩;have:cw [ar (.int a),ar d,ar (.int n)]=aC (.tup [.int a,d]):=by show bj [.int a,d]=_;unfold bj;exact if_pos mF
  show(cw [ar (.int a),ar d,ar (.int n)]>>=_)=_;rw[this];rfl
 refine⟨[ar (.int a),Z,ar (.int n)],⟨ar (.int a),Z,rfl⟩,?_⟩;have W: -(2 ^ 62)<=(a:Int)+1/\(a:Int)+1<2 ^ 62/\ -(2 ^ 62)<=(n:Int)/\(n:Int)<2 ^ 62:=by omega
 have X:(a9 ((a:Int)+1) ((n:Int) - ((a:Int)+1)).toNat).length<=3000:=by unfold a9;simp;omega
 rw[GZ]at e;have Y:yu (a7 bP (mV 0) (mK (.int 1))) (mV 2) [ar (.int a),y,ar (.int n)]=aC ⟨a9 ((a:Int)+1) ((n:Int) - ((a:Int)+1)).toNat,.none⟩:=by exact(vL (bX (x:=.int a) (y:=.int 1) rfl rfl) (y:=.int n) rfl).trans (GU W)
 unfold JP;rw[Y,aj];dsimp only;rw[if_pos X];exact e
theorem G1{n:Nat}(U:n<=50):fW (fF [.int n])=aC (.fz ((bF n).map tupI)):=by
 obtain⟨ρ',_,e⟩:=AD (its:=a9 0 n) (g:=gN 0) (t:=fj) (bd:=JP (yu (a7 bP (mV 0) (mK (.int 1))) (mV 2)) (gN 1) dJ cw) (λρ=>∃x y,ρ=[x,y,ar (.int n)]) (λ_=>b_) (Oc n) (a9 0 n) [none,none,ar (.int n)] ⟨none,none,rfl⟩ λd hd ρ ⟨x,y,hρ⟩=>by subst hρ;obtain⟨a,T,rfl⟩:=O0.mp hd;have X:=OP.mp T;refine⟨_,rfl,rfl,λ_=>?_,λh=>by cases h⟩;obtain⟨W,Z,Y⟩:=Mi U X y;refine⟨W,Z,?_⟩;show JP _ _ _ _ [ar (.int (0+(a:Int))),y,ar (.int n)]=_;rw[Rk,Y];rfl
 rw[G0]at e;have R: -(2 ^ 62)<=(n:Int)/\(n:Int)<2 ^ 62:=by omega
 have P:(a9 0 n).length<=3000:=by unfold a9;simp;omega
 have Z:pj (qi (mV 0)) (gN 0) fj (yu (a7 bP (mV 0) (mK (.int 1))) (mV 2)) (gN 1) dJ cw [none,none,ar 0] [ar (.int n)]=bB ((bF n).map tupI):=by
  have Q:qi (mV 0) [ar (.int n)]=aC ⟨a9 0 n,.none⟩:=by have:=(sr (m:=mV 0) (ρ:=[ar (.int n)]) (x:=.int n) rfl).trans (B7 R);rw[Py]at this;exact this
  have O:ko [none,none,ar 0] [ar (D.int n)]=[none,none,ar (.int n)]:=rfl;unfold pj;rw[Q,aj];dsimp only;rw[if_pos P,O,e,aj]
 have Y:bQ (aV (pj (qi (mV 0)) (gN 0) fj (yu (a7 bP (mV 0) (mK (.int 1))) (mV 2)) (gN 1) dJ cw [none,none,ar 0])) [ar (.int n)]=aC (.ret (.fz ((bF n).map tupI))):=by unfold bQ aV;rw[Z,bW (bf _) (by rw[OC];exact OR (sD U) (by unfold lim;omega))];rfl
 have S:fF [.int n]=aC (.fz ((bF n).map tupI)):=by exact dM Y rfl
 rw[S];exact vJ
abbrev aP(n:Nat)(E:List (List Int)):D:=.tup [.int n,.tup (E.map tupI)]
theorem J2:JY (aP n E):=by
 refine⟨rfl,?_⟩;intro ds e x Z;cases e;simp only[gc,f_,or_false]at Z;rcases Z with rfl|rfl
 ·exact⟨rfl,λY e=>by cases e⟩
 ·refine⟨rfl,λY e t X=>?_⟩;cases e;obtain⟨r,_,rfl⟩:=O0.mp X;refine⟨rfl,λds e x Z=>?_⟩;cases e;obtain⟨i,_,rfl⟩:=O0.mp Z;exact rfl
def G5{n:Nat}{E:List (List Int)}(w:WebOk n E):∀m Z,aP n E= .tup [m,.tup Z]->Z.length<=1000:=by intro m Z e;cases e;have:=w.few;rw[OC];omega
def great(a:Nat):D:=.exc "TooGreat" [.int a,.int 7]
def sE(c:M D)(k:D->M D):M D:=λS=>match c S with
 |some (.ok _,S')=>k .non S'
 |some (.ex (.exc n ds),S')=>if n∈bb then k (.exc n ds) S' else none
 |_=>none
def EF{g:Str->Bool}(Z:n∈bb):xq g (.exc n ds)=aC (.bl (g n)):=if_pos Z
def zz(bs:List Bool):D->Bool
 | .int k=>bs.getD k.toNat c_
 |_=>c_
section
variable {S S':aE}{k:Nat}
def qI(Z:Kp k S S'):pS S S':=λi xs Y e=>by
 by_cases h:i=k
 ·subst h;obtain⟨st,b,e2,_⟩:=Z.st;rw[e2]at e;cases e;exact .inr rfl
 ·exact .inl (by rw[<-Z.oth i Y h];exact e)
theorem vS(hs:eZ S k)(Y:Kp k S S'):Kp k S (S'.take S.length)/\(S'.take S.length).length=S.length:=by
 have W:(S'.take S.length).length=S.length:=by rw[Pk];have:=Y.len;omega
 have X:∀i,i<S.length->(S'.take S.length)[i]? =S'[i]? :=λi Z=>by rw[Rx,if_pos Z]
 refine⟨⟨Ri W.symm,λi Z U=>(X i Z).trans (Y.oth i Z U),?_⟩,W⟩;obtain⟨st,b,e,r⟩:=Y.st;exact⟨st,b,(X k hs.lt).trans e,r⟩
theorem xP{c:M D}(hs:eZ S k)(h:c S=ar (.ok d,S'))(Z:Kp k S S')(Y:d7 0 d=b_):∃S1,fW c S=ar (.ok d,S1)/\Kp k S S1/\S1.length=S.length:=
 ⟨_,pA h (qI Z) (.inr rfl) Z.len (vI d (AC (OX _) d Y)),vS hs Z⟩
def je:d7 0 (aP n E)=true:=by unfold aP d7 bU d7 bU d7;rw[bf];rfl
theorem AO(hs:eZ S k)(X:0<many)(Y:many<1073741824):∃j S1,fW (aF [.lst k,.int many]) S=ar (.ok (.int j),S1)/\0<=j/\j<many/\Kp k S S1/\S1.length=S.length:=by obtain⟨d,S',e,j,rfl,a,b,Z⟩:=AL (Q:=λd S'=>∃j,d= .int j/\0<=j/\j<many/\Kp k S S') hs X Y λj S' a b _ Z=>⟨j,rfl,a,b,Z⟩;obtain⟨S1,e1,k1⟩:=xP hs e Z rfl;exact⟨j,S1,e1,a,b,k1⟩
end
theorem sF(h:n<=k)(Y:S[k]? =ar us)(Z:bU 0 us=b_):jI n (yw S n (f+1)) (.lst k)=ar (.fz us):=by unfold jI;rw[if_neg (by omega)];show((S[k]?).bind λxs=>gU n (yw S n f) xs).map D.fz=_;rw[Y,QJ,jt us (jJ (OX _) us Z)];rfl
def tL{S G:aE}(i:Nat):(S++G)[S.length+i]? =G[i]? :=by rw[Q0 (QH _ _),Nat.add_sub_cancel_left]
def HR(h:∀S,hV S 60 (.fz us)=ar p)(Z:hI p p=b_):kd (.fz us) (.fz us)=aC (.bl c_):=bH λS=>by unfold kd;exact(eU (h S) (h S)).mpr ⟨by rw[Z];rfl,rfl⟩
def NJ:kd (.fz [.int i]) (.fz [.int i])=aC (.bl c_):=HR (p:=.list [.int i]) (λS=>rfl) (by simp[hI,kB])
def NK:kd (.fz [.int i,.int j,.int k]) (.fz [.int i,.int j,.int k])=aC (.bl c_):=HR (p:=.list [.int i,.int j,.int k]) (λS=>rfl) (by simp[hI,kB])
def J3:aV (bD (af (mK (.int i)) au)) ρ=aC (.fz [.int i]):=bW (us:=[.int i]) rfl (by show 1<=lim;unfold lim;omega)
section
variable {ρ:aO}{js:List Nat}{ds:List D}{m:TM}{c:M D}{R:M D->List D->M D}{x:D}
theorem EG(Y:zo js ρ=ar ds)(Z:m (ds.map ar)=c)(X:fW (R c [])=aC x):aV (xv js au m R) ρ=aC x:=by
 have:xv js au m R ρ=R c []:=by unfold xv;rw[Y];show(au ρ>>=λes=>R (m (ds.map ar)) es)=_;rw[Z];rfl
 unfold aV;rw[this,X]
end
section
variable {me e:TM}{g:nE}{ρ ρ':aO}{S S1 S2:aE}{d:D}{F:List D->M D}{x y:D}
def zA(Z:me ρ S=ar (.ok d,S1))(Y:g d ρ S1=ar (.ok ρ',S2)):mC me g ρ S=ar (.ok (.nx ρ'),S2):=by unfold mC;rw[aH Z,aH Y];rfl
end
section
variable {S S1 S2:aE}{k p q:Nat}{e1 e2:TM}{ρ:aO}{x y:D}{f:D->List D->M D}{xs:List D}
def sG(Y:e1 ρ=aC x)(Z:Jg x=aC ())(X:e2 ρ S=ar (.ok y,S1)):uw f e1 e2 ρ S=f x [y] S1:=by unfold uw;rw[Y,aj,Z,aj,aH (a:=[y]) (S1:=S1)];rw[aH X];rfl
theorem zB(Z:S[p]? =ar xs)(Y:xs.length<=1000):cU (.lst p) [d] S=ar (.ok .non,S.set p (xs++[d])):=by show(getL p>>=λxs=>kQ p (xs++[d])) S=_;rw[aH (dj Z)];exact jC (by rw[OG];show xs.length+1<=lim;unfold lim;omega) (OI.mp Z).1
theorem pop_at{j:Int}{d:D}(Z:S[p]? =ar xs)(U:xs.length<=1000)(X:0<=j)(Y:j<xs.length)(W:xs[j.toNat]? =ar d):oV (.lst p) [.int j] S=ar (.ok d,S.set p (xs.eraseIdx j.toNat)):=by show(getL p>>=λxs=>if 0<=j/\j<xs.length then (match xs[j.toNat]? with|some y=>(do let _<-kQ p (xs.eraseIdx j.toNat);aC y)|none=>M.fail)else M.fail) S=_;rw[aH (dj Z),if_pos ⟨X,Y⟩,W];show(kQ p (xs.eraseIdx j.toNat)>>=λ_=>aC d) S=_;rw[aH (jC (by have:=List.length_eraseIdx_le xs j.toNat;unfold lim;omega) (OI.mp Z).1)];rfl
theorem J4{ns:List Int}(Y:S[p]? =ar (ns.map D.int)):kd (.lst p) (.fz []) S=ar (.ok (.bl (!ns.isEmpty)),S):=by
 have X:hV S 60 (.fz [])=ar (.list []):=rfl;obtain⟨d,Z,e,h⟩:=(eU (f:=λp q=> !hI p q) (Q:=λd Z=>d= .bl (!ns.isEmpty)/\Z=S) (Ey (n:=59) Y) X).mpr ⟨by
  have:hI (.list (ns.map wL)) (.list [])=ns.isEmpty:=by cases ns<;>simp[hI,kB]
  rw[this],rfl⟩
 obtain⟨rfl,rfl⟩:=h;exact e
end
theorem Kp.set(Z:Kp k S S')(U:S.length<=p)(W:k<S.length):Kp k S (S'.set p xs):=by
 refine⟨by rw[PV];exact Z.len,λi X Y=>?_,?_⟩
 ·rw[Pu (by omega)];exact Z.oth i X Y
 ·obtain⟨st,b,e,r⟩:=Z.st;exact⟨st,b,by rw[Pu (by omega)];exact e,r⟩
theorem zF{l:List Int}(h:j<l.length):(l[j]::l.eraseIdx j).Perm l:=by
 induction l generalizing j with
 |nil=>cases h
 |cons x l ih=>
  cases j with
  |zero=>exact .refl _
  |succ j=>exact(List.Perm.swap _ _ _).trans ((ih (by simpa using h)).cons _)
def NL{j:Int}(h: -(2 ^ 62)<=j/\j<=lim):eE [.int j]=bB (a9 0 j.toNat):=by unfold eE;exact if_pos h
theorem ot(r:List Int):bU 0 (r.map D.int)=true:=by
 induction r with
 |nil=>rfl
 |cons x r ih=>rw[OW];unfold bU;rw[ih];unfold d7;rfl
def zG(r:List Int):d7 0 (tupI r)=true:=by unfold tupI d7;exact ot r
def dN(n:Nat):List Int:=(ee n).map λi:Nat=>(0:Int)+(i:Int)
inductive Dr(P:D->D->Prop):List D->List D->Prop
 |nil:Dr P [] []
 |skip {d:D} {ds ys:List D}:Dr P ds ys->Dr P (d::ds) ys
 |put {d y:D} {ds ys:List D}:P d y->Dr P ds ys->Dr P (d::ds) (y::ys)
theorem EH{f:D->D->M D}{e1 e2:TM}(Z:e1 ρ S=ar (.ok x,S1))(Y:e2 ρ S1=ar (.ok y,S2))(h:f x y=aC (.bl b)):gr f e1 e2 ρ S=ar (.ok b,S2):=by
 have:(e1 ρ>>=λx=>e2 ρ>>=λy=>f x y) S=ar (.ok (.bl b),S2):=by rw[aH Z,aH Y,h];rfl
 exact aH this
theorem J5{ys:List D}(Z:S[p]? =ar xs)(Y:xs.length+ys.length<=1000):ky (.lst p) [.fz ys] S=ar (.ok .non,S.set p (xs++ys)):=by show(getL p>>=λxs=>kQ p (xs++ys)) S=_;rw[aH (dj Z)];exact jC (by rw[OG];unfold lim;omega) (OI.mp Z).1
theorem J6{l:List (List Int)}(h:l.Nodup):(b0 l).Pairwise λa b=>HT.lexLt a b=true:=by
 have Z:=dC l;have X:(b0 l).Nodup:=(QD (bu _)).mpr h;generalize b0 l=s at Z X
 induction s with
 |nil=>exact .nil
 |cons x r ih=>
  obtain⟨a1,a2⟩:=Pz.mp Z;obtain⟨U,W⟩:=PM.mp X;refine Pz.mpr ⟨λy Y=>?_,ih a2 W⟩;cases q:HT.lexLt x y with
  |true=>rfl
  |false=>exact absurd (qE q (a1 y Y) ▸ Y) U
theorem uK(W:∀r∈nss,r.length=2)(X:nss.length<64):jq (nss.map tupI)=bB ((b0 nss).map tupI):=by
 cases nss with
 |nil=>rfl
 |cons r nss=>
  have Y:two (r::nss)=true:=OT.mpr λx Z=>by rw[W x Z];rfl
  show(match rowsOf ((r::nss).map tupI)with|some nss=>rR nss|none=>M.fail)=_;rw[eN];exact if_pos ⟨X,Y⟩
theorem pH{c:M D}{S2:aE}(h:c S=ar (.ok (.lst S2.length),S2++[us]))(Z:Kp k S S2)(l:S2.length=S.length)(Y:bU 0 us=b_):fW c S=ar (.ok (.fz us),S2):=by have:=pA (u:=.fz us) h (qI (Z.trans (Kp.grow Z.st [us]))) (.inl (by rw[OG,l];exact QG _)) (by rw[OG,l];exact Rc _) (sF (f:=59) (by omega) bI Y);rw[this, <-l,List.take_left]
theorem Cc{Z:List (List Int)}(hs:eZ S k)(X:S[p]? =ar (Z.map tupI))(W:∀r∈Z,r.length=2)(Y:Z.length<64):fW (cu [.lst p]) S=ar (.ok (.fz ((b0 Z).map tupI)),S):=by refine pH ?_ (Kp.refl hs) rfl (bf _);show(getL p>>=λxs=>jq xs) S=_;rw[aH (dj X),uK W Y];exact dG (by rw[OC,(bu Z).length_eq];unfold lim;omega)
theorem G6{zs:List Int}{a:Int}(Z:0<=a)(h:a<zs.length):cX (tupI zs) (.int a)=aC (.int (zs.getD a.toNat 0)):=by
 show(match jS (zs.map D.int) a with|some d=>(aC d:M D)|none=>M.fail)=_;have:jS (zs.map D.int) a=ar (.int (zs.getD a.toNat 0)):=by
  unfold jS yq;rw[OC];have X:¬ (a<0):=by omega
  have Y:a.toNat<zs.length:=by omega
  simp[Z,h,Y]
 rw[this]
theorem WebOk.sort{T:List (List Int)}(h:T.Nodup)(X:∀t∈T,∃a b:Int,t=[a,b]/\0<=a/\a<b/\b<m)(Y:T.length<=21):WebOk m (b0 T):=
 ⟨λt Z=>X t ((bu T).mem_iff.mp Z),J6 h,by rw[(bu T).length_eq];exact Y⟩
section
variable {n:Nat}{zs:List Int}{E:List (List Int)}
theorem mr(Z:zs.Perm (dN n))(W:i<n):0<=zs.getD i 0/\zs.getD i 0<n:=by
 have X:zs.length=n:=by rw[Z.length_eq];unfold dN;simp
 have:zs.getD i 0∈dN n:=by rw[<-Z.mem_iff,OM,OH (by omega)];exact PY _
 unfold dN at this;obtain⟨j,Y,e⟩:=O0.mp this;have:=OP.mp Y;omega
def G7(Z:zs.Perm (dN n)):zs.Nodup:=by rw[Z.nodup_iff];unfold dN;exact List.Pairwise.map _ (λa b h e=>h (by have e2:(0:Int)+(a:Int)=0+(b:Int):=e;omega)) (List.nodup_range (n:=n))
theorem gk(Z:zs.Perm (dN n))(Y:i<n)(X:j<n)(h:zs.getD i 0=zs.getD j 0):i=j:=by
 have W:zs.length=n:=by rw[Z.length_eq];unfold dN;simp
 rw[OM,OM,OH (by omega),OH (by omega)]at h;exact(SH (G7 Z)).mp h
end
def EI{Z:aO->M (List D)}(h:Z ρ S=ar (.ok [d1,d2],S1)):tF i j Z ρ S=ar (.ok (.nx ((ρ.set i (ar d1)).set j (ar d2))),S1):=by unfold tF;rw[aH h];rfl
theorem jf{e1 e2:TM}(hs:eZ S k)(Z:e1 ρ=aC (.lst k))(X:e2 ρ=aC (.int m))(Y:0<m)(W:m<1000):∃j S1,aV (aA aF (af e1 (af e2 au))) ρ S=ar (.ok (.int j),S1)/\0<=j/\j<m/\Kp k S S1/\S1.length=S.length:=by obtain⟨j,S1,e,r⟩:=AO (many:=m) hs Y (by omega);refine⟨j,S1,?_,r⟩;unfold aV;rw[call2 Z X];exact e
def sH(n:Nat)(T:List (List Int)):Prop:=∀t∈T,∃a b:Int,t=[a,b]/\0<=a/\a<b/\b<n
def sH.snoc{n:Nat}{T:List (List Int)}{a b:Int}(h:sH n T)(Y:0<=a)(Z:a<b)(W:b<n):sH n (T++[[a,b]]):=λt X=>by
 rcases PZ.mp X with h'|h'
 ·exact h t h'
 ·exact⟨a,b,by simpa using h',Y,Z,W⟩
def J7{e:TM}(h:e ρ S=ar (.ok x,S1)):qi e ρ S=mS [x] S1:=by unfold qi;rw[aH (ba h rfl)]
def vT{mi:aO->M Iter}(Z:mi ρ S=ar (.ok ⟨its,.none⟩,S1))(h:fD ⟨its,.none⟩ g b its ρ S1=ar (.ok o,S2)):jj mi g b ρ S=ar (.ok o,S2):=by unfold jj;rw[aH Z];exact h
theorem J8(l:List D)(m:Nat):S3.cutD l none (ar (m:Int))=l.take m:=by
 unfold S3.cutD;rw[HT.sIx_none,HT.sIx_nat,Tr,Nat.sub_zero];by_cases h:m<=l.length
 ·rw[Nat.min_eq_left h]
 ·rw[Nat.min_eq_right (by omega),QM (OF _),QM (by omega)]
def sH.two(h:sH n T):∀r∈T,r.length=2:=λr Z=>by obtain⟨a,b,rfl,_⟩:=h r Z;rfl
def mZ(p:Int)(t:List Int):Bool:=t.any (· ==p)
theorem AQ(p:Int):∀t:List Int,((t.map wL).any λy=>hI y (.int p))=mZ p t
 |[]=>rfl
 |x::r=>by
  rw[OW,SC,AQ p r];unfold mZ;rw[SC];congr 1
def Mj:inD (.int p) (tupI t)=aC (.bl (mZ p t)):=bH λS=>by unfold inD;exact(qG mn (jD t) (r:=mZ p t) (by show ar (id ((t.map wL).any λy=>hI y (.int p)))=_;rw[AQ];rfl)).mpr ⟨rfl,rfl⟩
theorem lR{E:List (List Int)}(h:a<E.length):cX (.tup (E.map tupI)) (.int a)=aC (tupI (E.getD a [])):=by
 show(match jS (E.map tupI) a with|some d=>(aC d:M D)|none=>M.fail)=_;have:jS (E.map tupI) (a:Int)=ar (tupI (E.getD a [])):=by
  unfold jS yq;rw[OC];have Z:¬ ((a:Int)<0):=by omega
  have Y:(a:Int)<E.length:=by omega
  simp[Z,Y,h]
 rw[this]
def getD_in{E:List (List Int)}(h:a<E.length):E.getD a []∈E:=by rw[OM,OH h];exact PY h
def EJ{F:List D->M D}{e1 e2 e3:TM}(Y:e1 ρ=aC x)(X:e2 ρ=aC y)(Z:e3 ρ=aC z):aA F (af e1 (af e2 (af e3 au))) ρ=F [x,y,z]:=by unfold aA;rw[aL Y (aL X (aL Z rfl)),aj]
theorem ou:∀s t:List Int,kB (s.map wL) (t.map wL)=decide (s=t)
 |[],[]=>by simp[kB]
 |[],_::_=>by simp[kB]
 |_::_,[]=>by simp[kB]
 |x::s,y::t=>by
  rw[OW,OW];unfold kB;rw[ou s t,P1];simp[hI]
theorem vU{a m:Nat}:a9 ((a:Int)+1) ((m:Int) - ((a:Int)+1)).toNat=(lN (a+1) (m - (a+1))).map λb:Nat=>.int (b:Int):=by
 have e:((m:Int) - ((a:Int)+1)).toNat=m - (a+1):=by omega
 rw[e];unfold a9;rw[Ss,Pn];refine RX λi _=>?_;show D.int ((a:Int)+1+(i:Int))= .int ((a+1+i:Nat):Int);congr 1
theorem NM{n a:Nat}{x:Option D}(Z:n<=14)(Y:a<n):aV (cq (yu (a7 bP (mV 2) (mK (.int 1))) (mV 0)) (gN 0) fy fA [none,ar 2]) [ar (.int n),x,ar (.int a)]=aC (.fz ((kI n a).map tupI)):=by
 have em:(((lN (a+1) (n - (a+1))).map λb:Nat=>D.int (b:Int)).filter λ_=>b_).map (λd=>D.tup [.int a,d])=(kI n a).map tupI:=by unfold kI;rw[eL,Pn,Pn];rfl
 have h:=lM (mi:=yu (a7 bP (mV 2) (mK (.int 1))) (mV 0)) (g:=gN 0) (t:=fy) (m:=fA) (js:=[none,ar 2]) (ρ:=[ar (.int n),x,ar (.int a)]) (its:=(lN (a+1) (n - (a+1))).map λb:Nat=>D.int (b:Int)) (λρ=>∃y,ρ=[y,ar (.int a)]) (λ_=>b_) (λd=>D.tup [.int a,d])
  (by rw[vL (x:=.int ((a:Int)+1)) (y:=.int n) rfl rfl,GU (by omega),vU]) (by rw[OC,QP];unfold lim;omega) ⟨none,rfl⟩
  (λd hd ρ ⟨y,hρ⟩=>by subst hρ;refine⟨_,rfl,⟨_,rfl⟩,rfl,λ_=>?_⟩;show bj [.int a,d]=_;unfold bj;exact if_pos mF) (by rw[em];exact bf _)
 rw[em]at h;exact h
theorem uL{S:aE}{n:Nat}{its:List D}(Y:n<=14):∀(post:List Nat) (acc:List (List Int)) (x:Option D),(∀a∈post,a<n)->acc.length+post.length*14<=300->
  ∃Z,fD ⟨its,.none⟩ (gN 2) ic (post.map λi:Nat=>.int (0+(i:Int))) [ar (.int n),ar (.lst S.length),x] (S++[acc.map tupI])=ar (.ok (.nx [ar (.int n),ar (.lst S.length),Z]),S++[(acc++post.flatMap (kI n)).map tupI])
 |[],acc,x,_,_=>⟨x,by rw[Qj,fB,List.flatMap_nil,Pp];rfl⟩
 |a::post,acc,x,ha,hl=>by
  rw[O9,QT]at hl;have U:=GW (a:=a) Y;obtain⟨Z,X⟩:=uL (S:=S) (its:=its) Y post (acc++kI n a) (ar (.int a)) (λb W=>ha b (.tail _ W)) (by rw[OG];omega);refine⟨Z,?_⟩;rw[QZ, <-O7, <-X,OW,Rk];refine il rfl (sv (x:=.non) ((sG (x:=.lst S.length) rfl rfl (O4 (NM Y (ha a (.head _))) _)).trans ((J5 bI (by rw[OC,OC];omega)).trans ?_)));rw[<-PX,Qa _ _ (OF _),R6];rfl
theorem EK{n:Nat}(Z:n<=14):fW (bg [.int n])=aC (.fz ((bF n).map tupI)):=by
 have T:=pairs_len Z;have Y:((bF n).map tupI).length<=lim:=by rw[OC];unfold lim;omega
 have:bg [.int n]=bB ((bF n).map tupI):=by
  funext S;obtain⟨U,e⟩:=uL (S:=S) (its:=a9 0 n) Z (ee n) [] none (λa W=>OP.mp W) (by rw[Pi];simp;omega);have X:qi (mV 0) [ar (.int n),ar (.lst S.length),none]=aC ⟨a9 0 n,.none⟩:=by have:=(sr (m:=mV 0) (ρ:=[ar (.int n),ar (.lst S.length),none]) (x:=.int n) rfl).trans (B7 (by omega));rw[Py]at this;exact this
  rw[dG Y];exact fG (o:=.ret (.lst S.length)) ((aS (bN (dG (S:=S) (us:=[]) (OX _)))).trans ((aS (sx X e)).trans (gC rfl))) rfl
 rw[this];exact bW (bf _) Y
theorem J9{c:M D}(hs:eZ S k)(h:c S=ar (.ok (.lst q),S2))(Z:Kp k S S2)(Y:S.length<=q)(g:S2[q]? =ar us)(X:bU 0 us=b_):∃S1,fW c S=ar (.ok (.fz us),S1)/\Kp k S S1/\S1.length=S.length:=
 ⟨_,pA (u:=.fz us) h (qI Z) (.inl (Rq Y (OI.mp g).1)) Z.len (sF (f:=59) Y g X),vS hs Z⟩
theorem xQ{S:aE}(T:k<S.length)(N:S.length<=p)(O:S.length<=q)(X:p≠q):∀(f:Nat) (ls ms:List Int) (S':aE),ls.length<f->ls.length+ms.length<=14->S'[p]? =ar (ls.map D.int)->S'[q]? =ar (ms.map D.int)->Kp k S S'->
  ∃(zs:List Int) (S2:aE),lq (gr kd (mV 2) (aV (bD au))) cR f [ar (.lst k),a1,ar (.lst p),ar (.lst q)] S'=ar (.ok (.nx [ar (.lst k),a1,ar (.lst p),ar (.lst q)]),S2)/\S2[q]? =ar (zs.map D.int)/\zs.Perm (ms++ls)/\Kp k S S2
 |0,ls,ms,S',h,_,_,_,_=>by omega
 | f +1,ls,ms,S',hf,hl,g1,g2,kp=>by
  have C:gr kd (mV 2) (aV (bD au)) [ar (.lst k),a1,ar (.lst p),ar (.lst q)] S'=ar (.ok (!ls.isEmpty),S'):=by have J:aV (bD au) [ar (.lst k),a1,ar (.lst p),ar (.lst q)]=aC (.fz []):=bW (us:=[]) rfl (OX _);show((mV 2 _>>=λx=>aV (bD au) _>>=λy=>kd x y)>>=kh) S'=_;rw[J];show(kd (.lst p) (.fz [])>>=kh) S'=_;rw[aH (J4 g1)];rfl
  rw[lq,aH C];cases ls with
  |nil=>exact⟨ms,S',by rfl,g2,by rw[Pp],kp⟩
  | cons l0 ls0=>
   generalize hL:l0::ls0=ls at*;have U:(!ls.isEmpty)=true:=by rw[<-hL];rfl
   have P:0<ls.length:=by rw[<-hL];exact Nat.succ_pos _
   rw[if_pos U];obtain⟨j,S1,I,H,z,Y,A⟩:=AO (S:=S') (k:=k) (many:=ls.length) kp.st (by omega) (by omega);have L:=(OI.mp g1).1;have ql:=(OI.mp g2).1;have E:=(Y.oth p L (by omega)).trans g1;have F:=(Y.oth q ql (by omega)).trans g2;have R:j.toNat<ls.length:=by omega
   have B:cR [ar (.lst k),a1,ar (.lst p),ar (.lst q)] S'=ar (.ok (.nx [ar (.lst k),a1,ar (.lst p),ar (.lst q)]),(S1.set p ((ls.eraseIdx j.toNat).map D.int)).set q ((ms++[ls[j.toNat]]).map D.int)):=by
    unfold cR;have hlen:cg ef (mV 2) [ar (.lst k),a1,ar (.lst p),ar (.lst q)] S'=ar (.ok (.int ls.length),S'):=by refine(uE (x:=.lst p) (S1:=S') rfl).trans ?_;show(getL p>>=λxs=>aC (D.int xs.length)) S'=_;rw[aH (dj g1),OC];rfl
    have Q:aV (aA aF (af (mV 0) (af (cg ef (mV 2)) au))) [ar (.lst k),a1,ar (.lst p),ar (.lst q)] S'=ar (.ok (.int j),S1):=by have K:aA aF (af (mV 0) (af (cg ef (mV 2)) au)) [ar (.lst k),a1,ar (.lst p),ar (.lst q)] S'=aF [.lst k,.int ls.length] S':=aH (ba (x:=.lst k) rfl (ba hlen rfl));unfold aV;rw[<-I];unfold fW;rw[K]
    have Z:=(sG (f:=oV) (e1:=mV 2) (ρ:=[ar (.lst k),a1,ar (.lst p),ar (.lst q)]) (x:=.lst p) rfl rfl Q).trans (pop_at (d:=.int ls[j.toNat]) E (by rw[OC];omega) H (by rw[OC];omega) (by rw[O1,OH R];rfl));rw[uG]at Z;have W:=(sG (f:=cU) (e1:=mV 3) (ρ:=[ar (.lst k),a1,ar (.lst p),ar (.lst q)]) (x:=.lst q) rfl rfl Z).trans (zB (d:=.int ls[j.toNat]) (xs:=ms.map D.int) (by rw[Pu X];exact F) (by rw[OC];omega));refine sv (x:=.non) (W.trans ?_);rw[PX];rfl
   rw[aH B];have he:=R0 R;obtain⟨zs,S2,e2,g3,G,k2⟩:=xQ (a1:=a1) T N O X f (ls.eraseIdx j.toNat) (ms++[ls[j.toNat]]) ((S1.set p ((ls.eraseIdx j.toNat).map D.int)).set q ((ms++[ls[j.toNat]]).map D.int)) (by omega) (by rw[OG];show _+(ms.length+1)<=14;omega)
    (by rw[Pu (kC X),Pb (by omega)]) (by rw[Pb (by rw[PV];omega)]) (((kp.trans Y).set N T).set O T)
   refine⟨zs,S2,e2,g3,G.trans ?_,k2⟩;rw[O7];exact(zF R).append_left ms
theorem xR{S:aE}{k n:Nat}{ρ:aO}{e1 e2:TM}(hs:eZ S k)(N:n<=14)(U:e1 ρ=aC (.lst k))(Q:e2 ρ=aC (.int n)):∃(zs:List Int) (S1:aE),aV (aA cn (af e1 (af (aV (cg eE e2)) au))) ρ S=ar (.ok (.fz (zs.map D.int)),S1)/\zs.Perm (dN n)/\Kp k S S1/\S1.length=S.length:=by
 have P:a9 0 n=(dN n).map D.int:=by unfold a9 dN;rw[Pn];rfl
 have hlen:(dN n).length=n:=by unfold dN;simp
 have Z:((dN n).map D.int).length<=lim:=by rw[OC,hlen];unfold lim;omega
 have O:aV (cg eE e2) ρ=aC (.fz ((dN n).map D.int)):=by unfold aV;rw[eM Q,NL (j:=n) ⟨by omega,by unfold lim;omega⟩,Py,P];exact bW (ot _) Z
 obtain⟨zs,S2,e,g3,W,k2⟩:=xQ (S:=S) (k:=k) (p:=S.length) (q:=S.length+1) (a1:=ar (.fz ((dN n).map D.int))) hs.lt (OF _) (Rc _) (by omega) 64 (dN n) [] (S++[(dN n).map D.int,[]]) (by omega) (by simp;omega) (tL 0) (tL 1) (Kp.grow hs _);have T:bR 3 (bD au) [ar (.lst k),ar (.fz ((dN n).map D.int)),ar (.lst S.length),none] (S++[(dN n).map D.int])=ar (.ok (.nx [ar (.lst k),ar (.fz ((dN n).map D.int)),ar (.lst S.length),ar (.lst (S.length+1))]),S++[(dN n).map D.int,[]]):=by refine(bN (dG (S:=S++[(dN n).map D.int]) (us:=[]) (OX _))).trans ?_;rw[O7,OG];rfl
 have R:cg iU (mV 1) [ar (.lst k),ar (.fz ((dN n).map D.int)),none,none] S=ar (.ok (.lst S.length),S++[(dN n).map D.int]):=(uE (F:=iU) (x:=.fz ((dN n).map D.int)) (S1:=S) rfl).trans (dG Z);have X:eX [ar (.lst k),ar (.fz ((dN n).map D.int)),none,none] S=ar (.ok (.ret (.lst (S.length+1))),S2):=by unfold eX;exact(aS (bN R)).trans ((aS T).trans ((aS e).trans (gC rfl)))
 have hm:cn [.lst k,.fz ((dN n).map D.int)] S=ar (.ok (.lst (S.length+1)),S2):=fG X rfl;obtain⟨S1,Y,k1⟩:=J9 hs hm k2 (Rc _) g3 (ot _);refine⟨zs,S1,?_,by rw[SU]at W;exact W,k1⟩;unfold aV;rw[call2 U O];exact Y
theorem Dr.sub:∀{L:List (List Int)} {ys:List D},Dr (λd y=>y=d) (L.map tupI) ys->∃rs:List (List Int),ys=rs.map tupI/\rs.Sublist L
 |[],_,.nil=>⟨[],rfl,.slnil⟩
 |t::L,_,.skip h=>by
  obtain⟨rs,e,Z⟩:=Dr.sub h;exact⟨rs,e,Z.cons _⟩
 |t::L,_,.put p h=>by
  obtain⟨rs,e,Z⟩:=Dr.sub h;subst p e;exact⟨t::rs,rfl,Z.cons₂ _⟩
theorem pI{mi:aO->M Iter}{t:j4}{m:TM}{L:List (List Int)}(r:List (Option D))(Q:mi ρ=aC ⟨L.map tupI,.none⟩)(N:L.length<=1000)(O:ko js ρ=none::r)(hs:eZ S k)(T:∀d,m (ar d::r)=aC d)
  (P:∀(u:List Int) Z,Kp k S Z->Z.length=S.length->∃b S1,t (ar (tupI u)::r) Z=ar (.ok b,S1)/\Kp k Z S1/\S1.length=Z.length):
  ∃(rs:List (List Int)) (S2:aE),cq mi (gN 0) t m js ρ S=ar (.ok (.lst S2.length),S2++[rs.map tupI])/\rs.Sublist L/\Kp k S S2/\S2.length=S.length:=by
 have key:∀(items:List D) (o:Option D) (Z:aE),(∀d∈items,∃u,d=tupI u)->Kp k S Z->Z.length=S.length->∃ys S2,cV ⟨L.map tupI,.none⟩ (gN 0) t m items (o::r) Z=ar (.ok ys,S2)/\Dr (λd y=>y=d) items ys/\Kp k S S2/\S2.length=S.length:=λitems=>by
  induction items with
  |nil=>exact λo Z _ X l=>⟨[],Z,by unfold cV;rw[cQ];rfl,.nil,X,l⟩
  | cons d ds ih=>
   intro o Z hd X l;obtain⟨u,rfl⟩:=hd d (.head _);obtain⟨b,S1,e1,k1,R⟩:=P u Z X l;obtain⟨ys,S2,e2,Y,k2,W⟩:=ih (ar (tupI u)) S1 (λd h=>hd d (.tail _ h)) (X.trans k1) (R.trans l);cases b with
   |false=>
    refine⟨ys,S2,?_,.skip Y,k2,W⟩;unfold cV;rw[cQ,aj,show gN 0 (tupI u) (o::r)=aC (ar (tupI u)::r)from rfl,aj,aH e1,if_neg (by decide)];exact e2
   |true=>
    refine⟨tupI u::ys,S2,?_,.put rfl Y,k2,W⟩;unfold cV;rw[cQ,aj,show gN 0 (tupI u) (o::r)=aC (ar (tupI u)::r)from rfl,aj,aH e1,if_pos rfl,T,aj,aH e2];rfl
 obtain⟨ys,S2,e,Y,k2,W⟩:=key (L.map tupI) none S (λd hd=>by obtain⟨u,_,rfl⟩:=O0.mp hd;exact⟨u,rfl⟩) (.refl hs) rfl;obtain⟨rs,rfl,U⟩:=Y.sub;refine⟨rs,S2,?_,U,k2,W⟩;have:=U.length_le;unfold cq;rw[Q,aj];unfold gG;rw[if_pos (show(L.map tupI).length<=lim by rw[OC];unfold lim;omega),O,aH e];exact dG (by rw[OC];unfold lim;omega)
theorem xS{ds:List D}{i:Int}(Y:0<=i)(Z:i<ds.length):∃d∈ds,cX (.fz ds) (.int i)=aC d:=by obtain⟨d,e,hd⟩:=HQ Y Z;refine⟨d,hd,?_⟩;show(match jS ds i with|some d=>(aC d:M D)|none=>M.fail)=_;rw[e]
def m4{zs:List Int}{a:Int}(Z:0<=a)(h:a<zs.length):cX (.fz (zs.map D.int)) (.int a)=aC (.int (zs.getD a.toNat 0)):=G6 Z h
theorem EL{e1 e2:TM}(Y:e1 ρ=aC (.int x))(W:e2 ρ=aC (.int y)):cg b7 (aV (cg cu (aV (bD (af e1 (af e2 au)))))) ρ=aC (tupI (sortI [x,y])):=by
 have X:(sortI [x,y]).length=2:=(sortI_perm [x,y]).length_eq;have Z:((sortI [x,y]).map D.int).length<=lim:=by rw[OC,X];exact mF
 have a1:aV (bD (af e1 (af e2 au))) ρ=aC (.fz [.int x,.int y]):=by show fW (af _ _ _>>=bB)=_;rw[aL Y (aL W (es:=au) rfl),aj];exact bW (us:=[.int x,.int y]) rfl mF
 refine(eM (x:=.fz ((sortI [x,y]).map D.int)) ?_).trans (lQ Z);show fW (cg cu _ _)=_;rw[eM a1];exact bW (ot _) Z
theorem Ka{rs:List (List Int)}:∃b,inD (tupI s) (.fz (rs.map tupI))=aC (.bl b):=by
 refine⟨(rs.map iI).any λy=>hI y (iI s),bH λS=>?_⟩;unfold inD;have Z:hV S 60 (.fz (rs.map tupI))=ar (.list (rs.map iI)):=by show(mapP (hV S 59) (rs.map tupI)).map u3=_;rw[iP];rfl
 exact(qG (jD s) Z (r:=(rs.map iI).any λy=>hI y (iI s)) rfl).mpr ⟨rfl,rfl⟩
theorem mw{ρ:aO}{e:TM}{n:Nat}(Z:n<=14)(h:e ρ=aC (.int n)):ez (aV (aA bg (af e au))) ρ=aC ⟨(bF n).map tupI,.none⟩:=by
 have:aV (aA bg (af e au)) ρ=aC (.fz ((bF n).map tupI)):=by unfold aV;rw[dn h];exact EK Z
 unfold ez;rw[this];rfl
section
variable {S:aE}{k n g:Nat}{j:Int}{zs:List Int}{its:List D}
abbrev m8:TM:=aV (bD (aN (mK (.int 0)) (aN (mK (.int 0)) (aN (mK (.int 1)) (aN (mK (.int 0)) (aN (mK (.int 2)) (aN (mK (.int 1)) (aN (mK (.int 3)) (aN (mV 1) au)))))))))
theorem Kb{r:List (Option D)}(hs:eZ S k):∃(n:Nat) (S1:aE),aA maxD (af (mK (.int 0)) (af (a7 iB (mV 1) (a7 cX m8 (aV (aA aF (af (mV 0) (af (mK (.int 8)) au)))))) au)) (ar (.lst k)::ar (.int g)::r) S=ar (.ok (.int n),S1)/\n<=g/\Kp k S S1/\S1.length=S.length:=by
 obtain⟨i,S1,U,Y,T,k1,X⟩:=jf (e1:=mV 0) (e2:=mK (.int 8)) (ρ:=ar (.lst k)::ar (.int g)::r) (m:=8) hs rfl rfl (by decide) (by decide);have W:m8 (ar (.lst k)::ar (.int g)::r)=aC (.fz [.int 0,.int 0,.int 1,.int 0,.int 2,.int 1,.int 3,.int g]):=bW (us:=[.int 0,.int 0,.int 1,.int 0,.int 2,.int 1,.int 3,.int g]) rfl (by show 8<=lim;unfold lim;omega);obtain⟨d,hd,Z⟩:=xS (ds:=[.int 0,.int 0,.int 1,.int 0,.int 2,.int 1,.int 3,.int g]) Y T;have R:∃u:Int,d= .int u/\0<=u:=by simp only[gc,f_,or_false]at hd;rcases hd with rfl|rfl|rfl|rfl|rfl|rfl|rfl|rfl<;>exact⟨_,rfl,by omega⟩
 obtain⟨u,rfl,P⟩:=R;have Q:a7 iB (mV 1) (a7 cX m8 (aV (aA aF (af (mV 0) (af (mK (.int 8)) au))))) (ar (.lst k)::ar (.int g)::r) S=ar (.ok (.int ((g:Int) - u)),S1):=
  (fu (f:=iB) (x:=.int g) (S1:=S) rfl ((fu (O4 W S) U).trans (O4 Z S1))).trans rfl
 refine⟨((g:Int) - u).toNat,S1,?_,by omega,k1,X⟩;refine(aH (ba (x:=.int 0) (S1:=S) rfl (ba Q rfl))).trans ?_;show ar (Res.ok (D.int (if (g:Int) - u>0 then (g:Int) - u else 0)),S1)=_;have:(if (g:Int) - u>0 then (g:Int) - u else 0)=(((g:Int) - u).toNat:Int):=by split<;>omega
 rw[this]
abbrev eW(k g n:Nat)(j:Int)(r:List (Option D)):aO:=ar (.lst k)::ar (.int g)::ar (.int n)::ar (.int j)::r
theorem G8{r:List (Option D)}(hs:eZ S k)(R:n<=7)(O:0<=j):∃(rs:List (List Int)) (S2:aE),cq (ez (aV (aA bg (af (mV 2) au)))) (gN 0) jK jL [none,ar 0,ar 3] (eW k g n j r) S=ar (.ok (.lst S2.length),S2++[rs.map tupI])/\rs.Sublist (bF n)/\Kp k S S2/\S2.length=S.length:=
 pI [ar (.lst k),ar (.int j)] (mw (by omega) rfl) (by have:=pairs_len (n:=n) (by omega);omega) rfl hs (λd=>rfl) λu P Z l=>by
  obtain⟨i,S1,T,Q,N,k1,W⟩:=jf (e1:=mV 1) (e2:=mK (.int 8)) (ρ:=[ar (tupI u),ar (.lst k),ar (.int j)]) (m:=8) Z.st rfl rfl (by decide) (by decide);have X:aV (bD (af (mK (.int 2)) (af (mK (.int 4)) (af (mK (.int 6)) au)))) [ar (tupI u),ar (.lst k),ar (.int j)]=aC (.fz [.int 2,.int 4,.int 6]):=bW (us:=[.int 2,.int 4,.int 6]) rfl (by show 3<=lim;unfold lim;omega);have hm:a7 mR (mV 2) (mK (.int 3)) [ar (tupI u),ar (.lst k),ar (.int j)]=aC (.int (j % 3)):=(bX (x:=.int j) (y:=.int 3) rfl rfl).trans (show mR (.int j) (.int 3)=_ from if_pos (e:=M.fail) (show(0:Int)<3 by decide));obtain⟨d,hd,Y⟩:=xS (ds:=[.int 2,.int 4,.int 6]) (i:=j % 3) (by omega) (by show j % 3<3;omega);have U:∃v:Int,d= .int v:=by simp only[gc,f_,or_false]at hd;rcases hd with rfl|rfl|rfl<;>exact⟨_,rfl⟩
  obtain⟨v,rfl⟩:=U;exact⟨decide (i<v),S1,EH (y:=.int v) T (O4 ((bX X hm).trans Y) S1) rfl,k1,W⟩
theorem Kc{a:Nat}{q:Nat}{x7:Option D}(R:2<j)(P:j<7)(Q:1<=a)(Y:a<n)(T:zs.length=n):∃r:List Int,cg b7 (aV (cg cu (aV (bD (af (a7 cX (mV 5) (mV 6)) (af (a7 cX (mV 5) (a7 cX (aV (bD (aN (a7 iB (mV 6) (mK (.int 1))) (aN (a7 iB (mV 6) (mK (.int 1))) (aN (mK (.int 0)) (aN (a7 nI (mV 6) (mK (.int 2))) au)))))) (a7 iB (mV 3) (mK (.int 3))))) au)))))) (eW k g n j [ar (.lst q),ar (.fz (zs.map D.int)),ar (.int a),x7])=aC (tupI r):=by
 have X:aV (bD (aN (a7 iB (mV 6) (mK (.int 1))) (aN (a7 iB (mV 6) (mK (.int 1))) (aN (mK (.int 0)) (aN (a7 nI (mV 6) (mK (.int 2))) au))))) (eW k g n j [ar (.lst q),ar (.fz (zs.map D.int)),ar (.int a),x7])=aC (.fz [.int ((a:Int) - 1),.int ((a:Int) - 1),.int 0,.int ((a:Int) / 2)]):=by
  have W:aN (a7 iB (mV 6) (mK (.int 1))) (aN (a7 iB (mV 6) (mK (.int 1))) (aN (mK (.int 0)) (aN (a7 nI (mV 6) (mK (.int 2))) au))) (eW k g n j [ar (.lst q),ar (.fz (zs.map D.int)),ar (.int a),x7])=aC [.int ((a:Int) - 1),.int ((a:Int) - 1),.int 0,.int ((a:Int) / 2)]:=
   aL (x:=.int ((a:Int) - 1)) rfl (aL (x:=.int ((a:Int) - 1)) rfl (aL (x:=.int 0) rfl (aL (x:=.int ((a:Int) / 2)) ((bX (x:=.int a) (y:=.int 2) rfl rfl).trans (show nI (.int a) (.int 2)=_ from if_pos (e:=M.fail) (show A9 a 2 from⟨by decide,by decide⟩))) (es:=au) rfl)))
  show fW (aN _ _ _>>=bB)=_;rw[W,aj];exact bW (us:=[.int ((a:Int) - 1),.int ((a:Int) - 1),.int 0,.int ((a:Int) / 2)]) rfl (by show 4<=lim;unfold lim;omega)
 obtain⟨d,hd,Z⟩:=xS (ds:=[.int ((a:Int) - 1),.int ((a:Int) - 1),.int 0,.int ((a:Int) / 2)]) (i:=j - 3) (by omega) (by show j - 3<4;omega);have U:∃v:Int,d= .int v/\0<=v/\v<n:=by simp only[gc,f_,or_false]at hd;rcases hd with rfl|rfl|rfl|rfl<;>exact⟨_,rfl,by omega,by omega⟩
 obtain⟨v,rfl,v0,v1⟩:=U;exact⟨_,EL ((bX (x:=.fz (zs.map D.int)) (y:=.int a) rfl rfl).trans (m4 (by omega) (by omega))) ((bX (x:=.fz (zs.map D.int)) rfl ((bX (y:=.int (j - 3)) X rfl).trans Z)).trans (m4 v0 (by omega)))⟩
theorem AR{q:Nat}{e:TM}{acc:List (List Int)}(Z:mV 4 ρ=aC (.lst S.length))(Y:e ρ=aC (tupI r))(X:acc.length<=500):rS (uw cU (mV 4) e) ρ (S++[acc.map tupI])=ar (.ok (.nx ρ),S++[(acc++[r]).map tupI]):=by refine sv (x:=.non) ((sG Z rfl (O4 Y _)).trans ((zB bI (by rw[OC];omega)).trans ?_));rw[PX,Qa _ _ (OF _),R6];rfl
theorem HS(W:2<j)(U:j<7)(X:zs.length=n):∀(post:List Nat) (acc:List (List Int)) (x6 x7:Option D),(∀a∈post,1<=a/\a<n)->acc.length+post.length<=100->
  ∃(Y:Option D) (Z:List (List Int)),fD ⟨its,.none⟩ (gN 6) gK (post.map λb:Nat=>.int (b:Int)) (eW k g n j [ar (.lst S.length),ar (.fz (zs.map D.int)),x6,x7]) (S++[acc.map tupI])=ar (.ok (.nx (eW k g n j [ar (.lst S.length),ar (.fz (zs.map D.int)),Y,x7])),S++[Z.map tupI])/\Z.length<=acc.length+post.length
 |[],acc,x6,x7,_,_=>⟨x6,acc,by rw[Qj,fB];rfl,OF _⟩
 |a::post,acc,x6,x7,ha,hl=>by
  rw[O9]at hl⊢;obtain⟨T,N⟩:=ha a (.head _);obtain⟨r,P⟩:=Kc (k:=k) (g:=g) (q:=S.length) (x7:=x7) W U T N X;obtain⟨Y,Z,Q,R⟩:=HS W U X post (acc++[r]) (ar (.int a)) x7 (λb O=>ha b (.tail _ O)) (by rw[OG];show acc.length+1+_<=100;omega);refine⟨Y,Z,?_,by rw[OG]at R;have:[r].length=1:=rfl;omega⟩;rw[<-Q,OW];exact il rfl (AR (q:=0) rfl P (by omega))
theorem Ml(hs:eZ S k)(U:n<=7):∃(rs:List (List Int)) (S2:aE),aV (cq (ez (aV (aA bg (af (mV 2) au)))) (gN 0) fq ft [none,ar 0]) (eW k g n j r) S=ar (.ok (.fz (rs.map tupI)),S2)/\Kp k S S2/\S2.length=S.length:=by
 obtain⟨rs,S2,e,_,k2,Z⟩:=pI (t:=fq) (m:=ft) (js:=[none,ar 0]) (ρ:=eW k g n j r) [ar (.lst k)] (mw (e:=mV 2) (by omega) rfl) (by have:=pairs_len (n:=n) (by omega);omega) rfl hs (λd=>rfl) λu R Y l=>by obtain⟨i,S1,W,T,Q,k1,X⟩:=jf (e1:=mV 1) (e2:=mK (.int 12)) (ρ:=[ar (tupI u),ar (.lst k)]) (m:=12) Y.st rfl rfl (by decide) (by decide);exact⟨_,S1,EH (y:=.int 0) W rfl NI,k1,X⟩
 exact⟨rs,S2,pH e k2 Z (bf _),k2,Z⟩
theorem G9{q:Nat}{os acc:List (List Int)}{x5 x6:Option D}(hs:eZ S k)(N:n<=7)(U:S[q]? =ar (acc.map tupI))(X:q≠k):∃(rs:List (List Int)) (S2:aE),cq (ez (aV (aA bg (af (mV 2) au)))) (gN 0) gL gM [none,ar 4,ar 7] (eW k g n j [ar (.lst q),x5,x6,ar (.fz (os.map tupI))]) S=ar (.ok (.lst S2.length),S2++[rs.map tupI])/\rs.Sublist (bF n)/\Kp k S S2/\S2.length=S.length:=
 pI [ar (.lst q),ar (.fz (os.map tupI))] (mw (by omega) rfl) (by have:=pairs_len (n:=n) (by omega);omega) rfl hs (λd=>rfl) λu Z W l=>by have Y:=(W.oth q (OI.mp U).1 X).trans U;obtain⟨_,_,e1,b,rfl,rfl⟩:=GX (r:=u) (Q:=λd T=>∃b,d= .bl b/\Z=T) Y λb=>⟨b,rfl,rfl⟩;obtain⟨c,e2⟩:=Ka (s:=u) (rs:=os);obtain⟨_,_,e3,O,rfl,rfl⟩:=Me (S:=Z) (a:=b) (b:=c) (Q:=λd T=>∃b,d= .bl b/\Z=T) λb=>⟨b,rfl,rfl⟩;refine⟨O,Z,?_,.refl W.st,rfl⟩;have R:a7 inD (mV 0) (mV 1) [ar (tupI u),ar (.lst q),ar (.fz (os.map tupI))] Z=ar (.ok (.bl b),Z):=(O4 (bX (x:=tupI u) (y:=.lst q) rfl rfl) Z).trans e1;have P:a7 inD (mV 0) (mV 2) [ar (tupI u),ar (.lst q),ar (.fz (os.map tupI))] Z=ar (.ok (.bl c),Z):=O4 ((bX (x:=tupI u) (y:=.fz (os.map tupI)) rfl rfl).trans e2) Z;exact aH ((fu R P).trans e3)
theorem Mm{m:TM}(Z:n<=100)(h:m ρ=aC (.int n)):yu (mK (.int 1)) m ρ=aC ⟨(lN 1 (n - 1)).map λb:Nat=>.int (b:Int),.none⟩:=by have:=vU (a:=0) (m:=n);rw[vL (x:=.int 1) rfl h,GU (by omega)];rw[show((0:Nat):Int)+1=1 from rfl]at this;rw[this]
theorem Mn{rs:List (List Int)}(hs:eZ S k)(Z:n<=7)(W:mV 2 ρ=aC (.int n))(X:mV 4 ρ=aC (.lst q))(g:S[q]? =ar (rs.map tupI))(U:rs.Sublist (bF n)):
  bQ (b9 (af (mV 2) (af (cg b7 (aV (cg cu (mV 4)))) au))) ρ S=ar (.ok (.ret (aP n rs)),S):=by
 have w:WebOk n rs:=WebOk.of_sub Z U;have hf:=w.few;have Y:aV (cg cu (mV 4)) ρ S=ar (.ok (.fz (rs.map tupI)),S):=by unfold aV;rw[eM X];have:=Cc hs g (λr T=>by obtain⟨a,b,e,_⟩:=w.el r T;rw[e];rfl) (by omega);rw[Ca w.ris]at this;exact this
 refine gC (vN (O4 W S) ((uE Y).trans ?_));rw[lQ (by rw[OC];unfold lim;omega)];rfl
theorem Kd{q:Nat}{acc:List (List Int)}(T:n<=7)(U:zs.length=n)(R:acc.length<=100):∃acc2:List (List Int),j5 (Gc (gr kR (mV 3) (mK (.int 4))) (gr C9 (mV 2) (mK (.int 2)))) (rS (uw cU (mV 4) (cg b7 (aV (cg cu (aV (bD (af (a7 cX (mV 5) (mK (.int 0))) (af (a7 cX (mV 5) (a7 iB (mV 2) (mK (.int 1)))) au))))))))) d6 (eW k g n j [ar (.lst S.length),ar (.fz (zs.map D.int)),x6,x7]) (S++[acc.map tupI])=ar (.ok (.nx (eW k g n j [ar (.lst S.length),ar (.fz (zs.map D.int)),x6,x7])),S++[acc2.map tupI]):=by
 have Y:gr kR (mV 3) (mK (.int 4)) (eW k g n j [ar (.lst S.length),ar (.fz (zs.map D.int)),x6,x7])=aC (decide (j=4)):=dh (x:=.int j) (y:=.int 4) rfl rfl NI;have X:gr C9 (mV 2) (mK (.int 2)) (eW k g n j [ar (.lst S.length),ar (.fz (zs.map D.int)),x6,x7])=aC (decide (2<(n:Int))):=dh (x:=.int n) (y:=.int 2) rfl rfl rfl;have Z:Gc (gr kR (mV 3) (mK (.int 4))) (gr C9 (mV 2) (mK (.int 2))) (eW k g n j [ar (.lst S.length),ar (.fz (zs.map D.int)),x6,x7])=aC (decide (j=4) && decide (2<(n:Int))):=by
  show(gr kR _ _ _>>=_)=_;rw[Y,aj];cases decide (j=4)with
  |false=>rfl
  |true=>exact X
 by_cases h:(decide (j=4) && decide (2<(n:Int)))=b_
 ·have W:2<n:=by
   have:=PQ ((Po _ _).mp h).2;omega
  refine⟨_,(O4 ((fe Z).trans (if_pos h)) _).trans (AR (q:=0) rfl (EL (x:=zs.getD 0 0) (y:=zs.getD (n - 1) 0) ?_ ?_) (by omega))⟩
  ·exact(bX (x:=.fz (zs.map D.int)) (y:=.int 0) rfl rfl).trans (m4 (by decide) (by omega))
  ·refine(bX (x:=.fz (zs.map D.int)) (y:=.int ((n:Int) - 1)) rfl rfl).trans ((m4 (by omega) (by omega)).trans ?_);rw[show((n:Int) - 1).toNat=n - 1 by omega]
 ·exact⟨acc,(O4 ((fe Z).trans (if_neg h)) _).trans rfl⟩
theorem Ke(hg:g<=7)(hs:eZ S k):∃(n:Nat) (E:List (List Int)) (S1:aE),fW (ja [.lst k,.int g]) S=ar (.ok (aP n E),S1)/\n<=g/\WebOk n E/\Kp k S S1/\S1.length=S.length:=by
 obtain⟨n,T1,e1,w,k1,l1⟩:=Kb (g:=g) (r:=[none,none,none,none,none,none]) hs;have Y:n<=7:=by omega
 obtain⟨j,T2,e2,i,j7,k2,l2⟩:=jf (e1:=mV 0) (e2:=mK (.int 7)) (ρ:=[ar (.lst k),ar (.int g),ar (.int n),none,none,none,none,none]) (m:=7) k1.st rfl rfl (by decide) (by decide);obtain⟨rs,R,e3,sb,k3,l3⟩:=G8 (g:=g) (n:=n) (j:=j) (r:=[none,none,none,none]) k2.st Y i;have H:=Kp.grow k3.st [rs.map tupI];obtain⟨zs,X,z,pz,k5,l5⟩:=xR (n:=n) (ρ:=eW k g n j [ar (.lst R.length),none,none,none]) (e1:=mV 0) (e2:=mV 2) H.st (by omega) rfl rfl;have G:zs.length=n:=by rw[pz.length_eq];unfold dN;simp
 have u:k<R.length:=by have:=hs.lt;omega
 have h:X[R.length]? =ar (rs.map tupI):=(k5.oth R.length (by simp) (by omega)).trans bI;have J:=((k1.trans k2).trans k3).trans (H.trans k5);have key:∃(x4:Nat) (Z:List (List Int)) (ρ:aO) (T:aE),j5 (gr C9 (mV 3) (mK (.int 2))) (aM (bR 4 (bD au)) (aM (jj (yu (mK (.int 1)) (mV 2)) (gN 6) gK) (aM (j5 (Gc (gr kR (mV 3) (mK (.int 4))) (gr C9 (mV 2) (mK (.int 2)))) (rS (uw cU (mV 4) (cg b7 (aV (cg cu (aV (bD (af (a7 cX (mV 5) (mK (.int 0))) (af (a7 cX (mV 5) (a7 iB (mV 2) (mK (.int 1)))) au))))))))) d6) (aM (bR 7 (aV (cq (ez (aV (aA bg (af (mV 2) au)))) (gN 0) fq ft [none,ar 0]))) (bR 4 (cq (ez (aV (aA bg (af (mV 2) au)))) (gN 0) gL gM [none,ar 4,ar 7])))))) d6 (eW k g n j [ar (.lst R.length),ar (.fz (zs.map D.int)),none,none]) X=ar (.ok (.nx ρ),T)/\mV 2 ρ=aC (.int n)/\mV 4 ρ=aC (.lst x4)/\T[x4]? =ar (Z.map tupI)/\Z.Sublist (bF n)/\Kp k S T:=by
  have C:gr C9 (mV 3) (mK (.int 2)) (eW k g n j [ar (.lst R.length),ar (.fz (zs.map D.int)),none,none])=aC (decide (2<j)):=dh (x:=.int j) (y:=.int 2) rfl rfl rfl;by_cases hj:2<j
  ·have hi:=Mm (n:=n) (m:=mV 2) (ρ:=eW k g n j [ar (.lst X.length),ar (.fz (zs.map D.int)),none,none]) (by omega) rfl;obtain⟨K,acc,L,F⟩:=HS (S:=X) (k:=k) (g:=g) (its:=(lN 1 (n - 1)).map λb:Nat=>.int (b:Int)) hj j7 G (lN 1 (n - 1)) [] none none (λa e=>by have:=P6.mp e;omega) (by rw[QP];simp;omega);rw[QP]at F;obtain⟨U,N⟩:=Kd (S:=X) (k:=k) (g:=g) (j:=j) (zs:=zs) (q:=0) (x6:=K) (x7:=none) Y G (acc:=acc) (by simp at F;omega);have Q:=Kp.grow k5.st [U.map tupI];obtain⟨os,f,A,O,l7⟩:=Ml (g:=g) (n:=n) (j:=j) (r:=[ar (.lst X.length),ar (.fz (zs.map D.int)),K,none]) Q.st Y;have l:k<X.length:=by have:=k5.len;simp at this;omega
   have P:f[X.length]? =ar (U.map tupI):=(O.oth X.length (by simp) (by omega)).trans bI;obtain⟨Z,v,p,W,I,l8⟩:=G9 (g:=g) (n:=n) (j:=j) (os:=os) (x5:=ar (.fz (zs.map D.int))) (x6:=K) O.st Y P (by omega);refine⟨v.length,Z,_,_,(O4 ((fe C).trans (if_pos (OS hj))) X).trans ((aS (bN (dG (S:=X) (us:=[]) (OX _)))).trans ((aS (sx hi L)).trans ((aS N).trans ((aS (bN A)).trans (bN p))))),rfl,rfl,bI,W,J.trans ((Q.trans O).trans (I.trans (Kp.grow I.st _)))⟩
  ·exact⟨R.length,rs,_,_,(O4 ((fe C).trans (if_neg (by rw[PJ];exact hj))) X).trans rfl,rfl,rfl,h,sb,J⟩
 obtain⟨x4,Z,ρ,T,L,s,t,P,W,B⟩:=key;have hm:kH [ar (.lst k),ar (.int g),none,none,none,none,none,none] S=ar (.ok (.ret (aP n Z)),T):=by unfold kH;exact(aS (bN e1)).trans ((aS (bN e2)).trans ((aS (bN e3)).trans ((aS (bN z)).trans ((aS L).trans (Mn B.st Y s t P W)))))
 obtain⟨S1,N,Q⟩:=xP (c:=ja [.lst k,.int g]) (d:=aP n Z) hs (fG (o:=.ret (aP n Z)) hm rfl) B je;exact⟨n,Z,S1,N,w,WebOk.of_sub Y W,Q⟩
abbrev eG(k n q:Nat)(r:List (Option D)):aO:=ar (.lst k)::ar (.int n)::ar (.lst q)::r
theorem HU{B:aE}(N:k<B.length)(I:8<=n)(X:n<=14):∀(post:List Nat) (acc:List (List Int)) (S':aE) (x3 x4 x5:Option D),acc.length+post.length<=100->sH n acc->S'[B.length]? =ar (acc.map tupI)->Kp k B S'->
  ∃(Q R W:Option D) (Z:List (List Int)) (S2:aE),fD ⟨its,.none⟩ (gN 3) fh (post.map λi:Nat=>.int (0+(i:Int))) (eG k n B.length [x3,x4,x5]) S'=ar (.ok (.nx (eG k n B.length [Q,R,W])),S2)/\S2[B.length]? =ar (Z.map tupI)/\sH n Z/\Z.length<=acc.length+post.length/\Kp k B S2
 |[],acc,S',x3,x4,x5,_,gt,g,kp=>⟨x3,x4,x5,acc,S',by rw[Qj,fB];rfl,g,gt,OF _,kp⟩
 | a ::post,acc,S',x3,x4,x5,hl,gt,g,kp=>by
  rw[O9]at hl⊢;obtain⟨i,O,e1,A,s,k1,q⟩:=jf (e1:=mV 0) (e2:=mV 1) (ρ:=eG k n B.length [ar (.int (0+(a:Int))),x4,x5]) (m:=n) kp.st rfl rfl (by omega) (by omega);obtain⟨v,Y,e2,v0,v1,k2,r⟩:=jf (e1:=mV 0) (e2:=a7 iB (mV 1) (mK (.int 1))) (ρ:=eG k n B.length [ar (.int (0+(a:Int))),ar (.int i),x5]) (m:=(n:Int) - 1) k1.st rfl rfl (by omega) (by omega);have E:=(OI.mp g).1;have g2:=(k2.oth B.length (by omega) (by omega)).trans ((k1.oth B.length E (by omega)).trans g);have L:a7 mR (a7 bP (a7 bP (mV 4) (mK (.int 1))) (aV (aA aF (af (mV 0) (af (a7 iB (mV 1) (mK (.int 1))) au))))) (mV 1) (eG k n B.length [ar (.int (0+(a:Int))),ar (.int i),x5]) O=ar (.ok (.int ((i+1+v) % n)),Y):=
   (fu ((fu (f:=bP) (x:=.int (i+1)) (S1:=O) rfl e2).trans rfl) (y:=.int n) rfl).trans (O4 (show mR (.int (i+1+v)) (.int n)=_ from if_pos (e:=M.fail) (show(0:Int)<n by omega)) Y)
  generalize hw:(i+1+v) % (n:Int)=w at L;have p:0<=w:=by rw[<-hw];exact QU _ (by omega)
  have t:w<n:=by rw[<-hw];exact Qq _ (by omega)
  have J:i≠w:=by
   intro e;have K:=Int.mul_ediv_add_emod (i+1+v) n;rw[hw]at K;have u:(n:Int)*((i+1+v) / n)=1+v:=by omega
   have z:0<(i+1+v) / (n:Int):=by
    rcases Int.lt_or_le 0 ((i+1+v) / (n:Int))with h|h
    ·exact h
    ·have:=Int.mul_nonpos_of_nonneg_of_nonpos (a:=(n:Int)) (by omega) h;omega
   have:=Int.mul_le_mul_of_nonneg_left (show 1<=(i+1+v) / (n:Int) by omega) (show(0:Int)<=n by omega);omega
  have U:aA minD (af (mV 4) (af (mV 5) au)) (eG k n B.length [ar (.int (0+(a:Int))),ar (.int i),ar (.int w)])=aC (.int (if w<i then w else i)):=(call2 (x:=.int i) (y:=.int w) rfl rfl).trans rfl;have T:aA maxD (af (mV 4) (af (mV 5) au)) (eG k n B.length [ar (.int (0+(a:Int))),ar (.int i),ar (.int w)])=aC (.int (if w>i then w else i)):=(call2 (x:=.int i) (y:=.int w) rfl rfl).trans rfl;obtain⟨Q,R,W,Z,S2,F,C,P,G,H⟩:=HU N I X post (acc++[[if w<i then w else i,if w>i then w else i]]) (Y.set B.length ((acc++[[if w<i then w else i,if w>i then w else i]]).map tupI)) (ar (.int (0+(a:Int)))) (ar (.int i)) (ar (.int w)) (by rw[OG];show acc.length+1+_<=100;omega)
   (gt.snoc (by split<;>omega) (by split<;>split<;>omega) (by split<;>omega)) (Pb (by omega)) (((kp.trans k1).trans k2).set (OF _) N)
  refine⟨Q,R,W,Z,S2,?_,C,P,by rw[OG]at G;have:[[if w<i then w else i,if w>i then w else i]].length=1:=rfl;omega,H⟩;rw[<-F,OW];refine il rfl ((aS (bN e1)).trans ((aS (bN L)).trans (sv (x:=.non) ((sG (x:=.lst B.length) (y:=tupI [if w<i then w else i,if w>i then w else i]) (S1:=Y) rfl rfl (vN (O4 U Y) (O4 T Y))).trans ((zB g2 (by rw[OC];omega)).trans ?_)))));rw[PX];rfl
theorem EM(hs:eZ S k):∃(n:Nat) (E:List (List Int)) (S1:aE),fW (dR [.lst k]) S=ar (.ok (aP n E),S1)/\8<=n/\n<=14/\WebOk n E/\Kp k S S1/\S1.length=S.length:=by
 obtain⟨j,B,I,A,y,k1,u⟩:=jf (e1:=mV 0) (e2:=mK (.int 7)) (ρ:=[ar (.lst k),none,none,none,none,none]) (m:=7) hs rfl rfl (by decide) (by decide);obtain⟨n,T⟩:∃n:Nat,8+j=n:=⟨(8+j).toNat,by omega⟩;have Q:k<B.length:=by have:=hs.lt;omega
 obtain⟨i,X,O,C,z,k2,v⟩:=jf (e1:=mV 0) (e2:=mK (.int 12)) (ρ:=eG k n B.length [none,none,none]) (m:=12) (Kp.grow k1.st [[]]).st rfl rfl (by decide) (by decide);have g1:X[B.length]? =ar (([]:List (List Int)).map tupI):=(k2.oth B.length (by simp) (by omega)).trans bI;obtain⟨K,N,F,acc,S2,e3,g3,Z,W,k3⟩:=HU (n:=n) (its:=a9 0 i.toNat) Q (by omega) (by omega) (ee i.toNat) [] X none none none (by rw[Pi];simp;omega) (λt Y=>by cases Y) g1 ((Kp.grow k1.st [[]]).trans k2);rw[Pi]at W;have J:acc.length<=18:=by simp at W;omega
 have w:WebOk n (iu acc):=⟨λt Y=>Z t (uI.mp Y),pG acc,by have:=pF acc;omega⟩;have H:qi (aV (aA aF (af (mV 0) (af (mK (.int 12)) au)))) (eG k n B.length [none,none,none]) (B++[[]])=ar (.ok ⟨a9 0 i.toNat,.none⟩,X):=by rw[J7 O,B7 (by omega)];rfl
 have U:a7 bP (mK (.int 8)) (aV (aA aF (af (mV 0) (af (mK (.int 7)) au)))) [ar (.lst k),none,none,none,none,none] S=ar (.ok (.int n),B):=by rw[fu (f:=bP) (x:=.int 8) (S1:=S) rfl I, <-T];rfl
 have P:aV (cg jZ (mV 2)) (eG k n B.length [K,N,F]) S2=ar (.ok (.fz ((iu acc).map tupI)),S2):=by
  refine pH ((uE (x:=.lst B.length) (S1:=S2) rfl).trans ?_) (Kp.refl k3.st) rfl (bf _);show(getL B.length>>=λxs=>match rowsOf xs with|some nss=>cA nss|none=>M.fail) S2=_;rw[aH (dj g3),eN];have Y:Js acc=true:=OT.mpr λx G=>by rw[Z.two x G];rfl
  show cA acc S2=_;unfold cA;rw[if_pos ⟨J,Y⟩];exact dG (by rw[OC];have:=pF acc;unfold lim;omega)
 have hm:eY [ar (.lst k),none,none,none,none,none] S=ar (.ok (.ret (aP n (iu acc))),S2):=by unfold eY;refine(aS (bN U)).trans ((aS (bN (dG (S:=B) (us:=[]) (OX _)))).trans ((aS (vT H e3)).trans (gC (vN (x:=.int n) (S1:=S2) rfl ((uE P).trans ?_)))));rw[lQ (by rw[OC];have:=pF acc;unfold lim;omega)];rfl
 obtain⟨S1,L,R⟩:=xP (c:=dR [.lst k]) (d:=aP n (iu acc)) hs (fG (o:=.ret (aP n (iu acc))) hm rfl) (k1.trans k3) je;exact⟨n,_,S1,L,by omega,by omega,w,R⟩
def zH(zs:List Int)(t:List Int):List Int:=sortI [zs.getD (t.getD 0 0).toNat 0,zs.getD (t.getD 1 0).toNat 0]
def Od(zs:List Int):D->D
 | .tup [.int a,.int b]=>tupI (zH zs [a,b])
 |d=>d
theorem Kf(h:x≠y):∃a b,sortI [x,y]=[a,b]/\a<b/\(a=x/\b=y\/a=y/\b=x):=by
 by_cases c:x<=y
 ·refine⟨x,y,?_,by omega,.inl ⟨rfl,rfl⟩⟩;show insI x [y]=_;unfold insI;exact if_pos c
 ·refine⟨y,x,?_,by omega,.inr ⟨rfl,rfl⟩⟩;show insI x [y]=_;unfold insI;exact if_neg c
theorem EN(T:zs.Perm (dN n))(w:WebOk n E):WebOk n (b0 (E.map (zH zs))):=by
 have R:∀t∈E,∃x y a b:Int,zH zs t=[a,b]/\a<b/\t=[x,y]/\0<=x/\x<y/\y<n/\(a=zs.getD x.toNat 0/\b=zs.getD y.toNat 0\/a=zs.getD y.toNat 0/\b=zs.getD x.toNat 0):=λt W=>by
  obtain⟨x,y,rfl,x0,Q,Z⟩:=w.el t W;obtain⟨a,b,e,H,F⟩:=Kf (x:=zs.getD x.toNat 0) (y:=zs.getD y.toNat 0) λz=>by have:=gk T (i:=x.toNat) (j:=y.toNat) (by omega) (by omega) z;omega
  exact⟨x,y,a,b,e,H,rfl,x0,Q,Z,F⟩
 have C:E.Nodup:=w.ris.imp λ{a b} h e=>by subst e;rw[kD]at h;cases h
 refine WebOk.sort (List.pairwise_map.mpr (Su (λ{s t} hs W hne e=>hne ?_) C)) (λt W=>?_) (by rw[OC];exact w.few)
 ·obtain⟨s,hs,rfl⟩:=O0.mp W;obtain⟨x,y,a,b,e1,P,rfl,x0,Q,Z,c1⟩:=R s hs;have r:=mr T (i:=x.toNat) (by omega);have B:=mr T (i:=y.toNat) (by omega);exact⟨a,b,e1,by omega,P,by omega⟩
 ·obtain⟨x,y,a,b,e1,_,rfl,x0,Q,Z,c1⟩:=R s hs;obtain⟨u,v,c,d,e2,_,rfl,N,o,J,G⟩:=R t W;rw[e1,e2]at e;have A:=(Qe e).1;have m:=(Qe (Qe e).2).1;have inj:=λ(p q:Int) (p0:0<=p) (pn:p<n) (q0:0<=q) (qn:q<n) z=>gk T (i:=p.toNat) (j:=q.toNat) (by omega) (by omega) z;have K:=inj x u x0 (by omega) N (by omega);have O:=inj y v (by omega) Z (by omega) J;have L:=inj x v x0 (by omega) (by omega) J;have I:=inj y u (by omega) Z N (by omega);generalize zs.getD x.toNat 0=X at*;generalize zs.getD y.toNat 0=Y at*;generalize zs.getD u.toNat 0=U at*;generalize zs.getD v.toNat 0=V at*;have:x=u/\y=v:=by
   rcases c1 with⟨c11,c12⟩|⟨c11,c12⟩<;>rcases G with⟨c21,c22⟩|⟨c21,c22⟩
   ·have:=K (by omega);have:=O (by omega);omega
   ·have:=L (by omega);have:=I (by omega);omega
   ·have:=L (by omega);have:=I (by omega);omega
   ·have:=K (by omega);have:=O (by omega);omega
  rw[this.1,this.2]
theorem Ha(Y:zs.Perm (dN n))(w:WebOk n E):fX [aP n E,.fz (zs.map D.int)]=aC (aP n (b0 (E.map (zH zs)))):=by
 have T:zs.length=n:=by rw[Y.length_eq];unfold dN;simp
 have wS:=EN Y w;have hf:=w.few;have em:((E.map tupI).filter λ_=>b_).map (Od zs)=(E.map (zH zs)).map tupI:=by rw[eL,Pn,Pn];refine RX λt Z=>?_;obtain⟨x,y,rfl,_⟩:=w.el t Z;rfl
 have W:=lM (mi:=ez (a7 cX (mV 0) (mK (.int 1)))) (g:=gq 2 (bS (gN 0) (bS (gN 1) gQ))) (t:=ie) (m:=ig) (js:=[none,none,ar 1]) (ρ:=[ar (aP n E),ar (.fz (zs.map D.int))]) (its:=E.map tupI) (λρ=>∃x y,ρ=[x,y,ar (.fz (zs.map D.int))]) (λ_=>b_) (Od zs) rfl (by rw[OC];unfold lim;omega) ⟨none,none,rfl⟩
  (λd hd ρ ⟨x,y,hρ⟩=>by subst hρ;obtain⟨t,Z,rfl⟩:=O0.mp hd;obtain⟨a,b,rfl,a0,ab,bn⟩:=w.el t Z;refine⟨[ar (.int a),ar (.int b),ar (.fz (zs.map D.int))],rfl,⟨_,_,rfl⟩,rfl,λ_=>?_⟩;exact EL ((bX (x:=.fz (zs.map D.int)) (y:=.int a) rfl rfl).trans (m4 a0 (by omega))) ((bX (x:=.fz (zs.map D.int)) (y:=.int b) rfl rfl).trans (m4 (by omega) (by omega)))) (by rw[em];exact bf _)
 rw[em]at W;have X:((b0 (E.map (zH zs))).map tupI).length<=lim:=by rw[OC];have:=wS.few;unfold lim;omega
 refine dM (o:=.ret (aP n (b0 (E.map (zH zs))))) (eh ?_) rfl;show(af _ _ _>>=bj)=_;rw[aL (x:=.int n) rfl (aL (x:=.tup ((b0 (E.map (zH zs))).map tupI)) ((eM (x:=.fz ((b0 (E.map (zH zs))).map tupI)) ?_).trans (lQ X)) (es:=au) rfl),aj]
 ·unfold bj;exact if_pos mF
 ·show fW (cg cu _ [ar (aP n E),ar (.fz (zs.map D.int))])=_;rw[eM W];show fW (jq ((E.map (zH zs)).map tupI))=_;rw[uK (λr U=>by
   have:=(bu (E.map (zH zs))).mem_iff.mpr U;obtain⟨a,b,e,_⟩:=wS.el r this;rw[e];rfl) (by rw[OC];omega)]
  exact bW (bf _) X
end
def eO(s t:List Int):Bool:=decide ((distinct (s++t)).length<4)
theorem xT(X:a<b)(W:c<d):eO [a,b] [c,d]=decide (a=c\/a=d\/b=c\/b=d):=by
 unfold eO distinct H_;have e:(ee ([a,b]++[c,d]).length).map (λi=>([a,b]++[c,d]).getD i 0)=[a,b,c,d]:=rfl;rw[e];have Z:¬ a=b:=by omega
 have Y:¬ c=d:=by omega
 refine Rb.mpr ?_;show(nC (nC (nC (nC [] a) b) c) d).length<4↔_;have s1:nC [] a=[a]:=rfl;have s2:nC [a] b=[a,b]:=by simp[nC,Z]
 have s3:nC [a,b] c=if a=c\/b=c then [a,b]else [a,b,c]:=by unfold nC;simp
 rw[s1,s2,s3];by_cases h:a=c\/b=c
 ·rw[if_pos h];have:(nC [a,b] d).length<4:=by unfold nC;split<;>simp
  exact⟨λ_=>by omega,λ_=>this⟩
 ·rw[if_neg h];have s4:nC [a,b,c] d=if a=d\/b=d then [a,b,c]else [a,b,c,d]:=by unfold nC;simp[Y]
  rw[s4];by_cases h3:a=d\/b=d
  ·rw[if_pos h3];exact⟨λ_=>by omega,λ_=>by simp⟩
  ·rw[if_neg h3];exact⟨λz=>by simp at z,λz=>by omega⟩
structure Tied(n:Nat)(E:List (List Int)):Prop where
 el:∀t∈E,∃a b:Int,t=[a,b]/\0<=a/\a<b/\b<n
 nd:E.Nodup
def NN:mZ p [a,b]=decide (p=a\/p=b):=by
 unfold mZ;rw[P1];simp;constructor
 ·rintro(h|h)
  ·exact .inl h.symm
  ·exact .inr h.symm
 ·rintro(h|h)
  ·exact .inl h.symm
  ·exact .inr h.symm
def tN(E:List (List Int))(a:Nat):List (List Int):=((lN (a+1) (E.length - (a+1))).filter λb=>eO (E.getD a []) (E.getD b [])).map λb:Nat=>[(a:Int),(b:Int)]
def gm(E:List (List Int)):List (List Int):=(ee E.length).flatMap (tN E)
def qc:dq:=bQ (Nz (gr kR (mV 4) (aV (bD (af (mK (.int 12)) au)))) (aV (a7 bP (mV 4) (aV (bD (af (j6 c_ (mV 1)) (af (j6 b_ (mV 1)) au)))))) (mV 4))
def m_find:dq:=aM (j5 (cM (bV (D4 (mV 1)))) (bQ (mK .non)) d6) (aM (bR 4 (aV (cq (qi (mK (.int 13))) (gN 0) cG cH [none,ar 3]))) qc)
def jO:dq:=aM (bR 3 (bD (af (dQ (mV 1) "NoWeb") (af (dQ (mV 1) "NoPlace") (af (dQ (mV 1) "NoPlaces") au))))) (aM (bR 3 (a7 bP (mV 3) (aV (bD (af (dQ (mV 1) "NoMap") (af (dQ (mV 1) "NoSharing") (af (dQ (mV 1) "NoRoot") au))))))) (aM (bR 3 (a7 bP (mV 3) (aV (bD (af (dQ (mV 1) "NoNumber") (af (dQ (mV 1) "NotJoined") (af (dQ (mV 1) "NoTie") au))))))) (aM (bR 3 (a7 bP (mV 3) (aV (bD (af (dQ (mV 1) "NoText") (af (dQ (mV 1) "NoLine") (af (dQ (mV 1) "NoDeed") au))))))) (aM (rS (uw cU (mV 3) (dQ (mV 1) "TooGreat"))) m_find))))
def EO(f:D)(c:M D):gi f c=aM (bR 1 (mK .non)) (aM (xu 0 2 1 f c) jO):=rfl
theorem Cd(f g x:D):(jO [ar f,ar x,none,none,none]>>=outD)=(jO [ar g,ar x,none,none,none]>>=outD):=by unfold jO m_find qc;simp only[aM,bR,rS,j5,bQ,d6,mV,mK,bD,a7,uw,dQ,D4,Nz,cM,bV,gr,af,au,aA,cg,cq,aV,j6,qi,LM,C4,du,aj,GT,L7,L8,L9,Ma,Mb,List.set_cons_succ,List.set_cons_zero,outD,ko,K',TY,Option.bind,List.getElem?_cons_succ,List.getElem?_cons_zero,Option.join]
theorem ER(f:D)(c:M D):bY f c []=sE c (λx=>jO [ar f,ar x,none,none,none]>>=outD):=by
 funext S;unfold bY tm;rw[if_pos (show[f].length=1 from rfl)];show((gi f c [ar f,none,none,none,none])>>=outD) S=_;rw[EO,bh (ρ':=[ar f,ar .non,none,none,none]) rfl];have Z:xu 0 2 1 f c [ar f,ar .non,none,none,none]=DV 2 1 c [ar f,ar .non,none,none,none]:=by unfold xu;exact if_pos rfl
 show((xu 0 2 1 f c [ar f,ar .non,none,none,none]>>=λo=>C4 o jO)>>=outD) S=_;rw[Z,du];show M.bnd (DV 2 1 c [ar f,ar .non,none,none,none]) _ S=_;unfold M.bnd DV sE;cases h:c S with
 |none=>rfl
 | some p=>
  obtain⟨r,S1⟩:=p;cases r with
  |ok a=>rfl
  | ex x=>
   cases x with
   |exc n ds=>
    dsimp only;by_cases hn:n∈bb
    ·rw[if_pos hn,if_pos hn];rfl
    ·rw[if_neg hn,if_neg hn]
   |_=>rfl
theorem fC:∀f c es,bY f c es=bE c es:=by
 intro f c es;unfold bE;cases es with
 |nil=>
  rw[ER,ER];congr 1;funext x;exact Cd _ _ x
 |cons e es=>
  unfold bY tm;rw[if_neg (by simp),if_neg (by simp)]
section
variable {f:D}{n:Str}{ds:List D}{S G:aE}{p:Nat}{xs:List D}{z:Option D}
def qJ(Z:n∈bb)(a:Str):dQ (mV 1) a [ar f,ar (.exc n ds),none,z,none]=aC (.bl (de n a)):=EF (ds:=ds) (g:=λn=>de n a) Z
theorem three(Z:n∈bb)(a b c:Str):af (dQ (mV 1) a) (af (dQ (mV 1) b) (af (dQ (mV 1) c) au)) [ar f,ar (.exc n ds),none,z,none]=aC [.bl (de n a),.bl (de n b),.bl (de n c)]:=
 aL (qJ Z a) (aL (qJ Z b) (aL (qJ Z c) rfl))
theorem sI(Y:n∈bb)(a b c:Str)(X:(S++G)[p]? =ar xs)(U:xs.length<=100):∃p' G',bR 3 (a7 bP (mV 3) (aV (bD (af (dQ (mV 1) a) (af (dQ (mV 1) b) (af (dQ (mV 1) c) au)))))) [ar f,ar (.exc n ds),none,ar (.lst p),none] (S++G)=ar (.ok (.nx [ar f,ar (.exc n ds),none,ar (.lst p'),none]),S++G')/\(S++G')[p']? =ar (xs++[.bl (de n a),.bl (de n b),.bl (de n c)])/\S.length<=p':=by
 refine⟨(S++G).length,G++[xs++[.bl (de n a),.bl (de n b),.bl (de n c)]],?_,by rw[<-O7];exact bI,by rw[OG];omega⟩;have Z:aV (bD (af (dQ (mV 1) a) (af (dQ (mV 1) b) (af (dQ (mV 1) c) au)))) [ar f,ar (.exc n ds),none,ar (.lst p),none]=aC (.fz [.bl (de n a),.bl (de n b),.bl (de n c)]):=by show fW (af _ _ _>>=bB)=_;rw[three Y a b c,aj];exact bW rfl GS
 have W:=bX (f:=bP) (m:=mV 3) (ρ:=[ar f,ar (.exc n ds),none,ar (.lst p),none]) (x:=.lst p) rfl Z;show((a7 bP _ _ _)>>=λx=>aC (Out.nx _)) _=_;rw[W,aH (a:=.lst (S++G).length) (S1:=S++(G++[xs++[.bl (de n a),.bl (de n b),.bl (de n c)]]))]
 ·rfl
 ·show(getL p>>=λxs=>bB (xs++_)) _=_;rw[aH (a:=xs) (S1:=S++G) (by unfold getL;rw[X];rfl)];unfold bB;rw[if_pos (by rw[OG];show xs.length+3<=lim;unfold lim;omega),O7]
end
theorem find_eq{bs:List Bool}(Y:n∈bb)(P:S[p]? =ar (bs.map D.bl))(K:bs.length=13):
  m_find [ar f,ar (.exc n ds),none,ar (.lst p),none] S=qc [ar f,ar (.exc n ds),none,ar (.lst p),ar (.fz ((a9 0 13).filter (zz bs)))] S:=by
 have Z:j5 (cM (bV (D4 (mV 1)))) (bQ (mK .non)) d6 [ar f,ar (.exc n ds),none,ar (.lst p),none]=aC (.nx [ar f,ar (.exc n ds),none,ar (.lst p),none]):=by
  have:cM (bV (D4 (mV 1))) [ar f,ar (.exc n ds),none,ar (.lst p),none]=aC false:=by show((xq (λ_=>b_) (.exc n ds)>>=kh)>>=_)=_;rw[EF Y];rfl
  exact(fe this).trans (if_neg (by decide))
 unfold m_find;rw[bh Z];have L:qi (mK (.int 13)) [ar f,ar (.exc n ds),none,ar (.lst p),none]=aC ⟨a9 0 13,.none⟩:=(sr (x:=.int 13) rfl).trans (B7 (by omega));have O:cV ⟨a9 0 13,.none⟩ (gN 0) cG cH (a9 0 13) [none,ar (.lst p)] S=ar (.ok ((a9 0 13).filter (zz bs)),S):=by
  refine xO (λρ=>∃x,ρ=[x,ar (.lst p)]) (zz bs) _ _ ⟨none,rfl⟩ λd hd ρ ⟨x,hρ⟩=>?_;subst hρ;obtain⟨k,W,rfl⟩:=O0.mp hd;have W:k<13:=OP.mp W;refine⟨_,rfl,⟨_,rfl⟩,?_,rfl⟩;have e:jS (bs.map D.bl) (0+(k:Int))=ar (.bl (bs.getD k c_)):=by
   rw[Rk];unfold jS yq;rw[OC];have Z:¬ ((k:Int)<0):=by omega
   have N:(k:Int)<bs.length:=by omega
   have T:k<bs.length:=by omega
   simp[Z,N,T]
  show((getL p>>=λxs=>match jS xs (0+(k:Int))with|some d=>(aC d:M D)|none=>M.fail)>>=kh) S=_;rw[aH (a:=D.bl (bs.getD k c_)) (S1:=S)]
  ·show ar (Res.ok (bs.getD k c_),S)=ar (.ok (bs.getD (0+(k:Int)).toNat c_),S);rw[Rk,Py]
  ·rw[aH (a:=bs.map D.bl) (S1:=S) (by unfold getL;rw[P];rfl),e];rfl
 have hm:cq (qi (mK (.int 13))) (gN 0) cG cH [none,ar 3] [ar f,ar (.exc n ds),none,ar (.lst p),none] S=bB ((a9 0 13).filter (zz bs)) S:=by unfold cq;rw[L,aj];unfold gG;rw[if_pos (by show(a9 0 13).length<=lim;unfold a9 lim;rw[OC,Pi];omega)];exact aH O
 have R:fW (cq (qi (mK (.int 13))) (gN 0) cG cH [none,ar 3] [ar f,ar (.exc n ds),none,ar (.lst p),none]) S=ar (.ok (.fz ((a9 0 13).filter (zz bs))),S):=by
  have X:bU 0 ((a9 0 13).filter (zz bs))=true:=by
   have:∀l:List Nat,bU 0 ((l.map λi:Nat=>D.int (0+(i:Int))).filter (zz bs))=true:=λl=>by
    induction l with
    |nil=>rfl
    |cons x l ih=>
     rw[OW,List.filter_cons];split
     ·unfold bU;rw[ih];unfold d7;rfl
     ·exact ih
   exact this _
  have Y:bB ((a9 0 13).filter (zz bs)) S=ar (.ok (.lst S.length),S++[(a9 0 13).filter (zz bs)]):=by unfold bB;exact if_pos (OR (Qu _ _) (by unfold a9 lim;rw[OC,Pi];omega))
  obtain⟨d,U,e,rfl,rfl⟩:=rY (Q:=λd U=>d= .fz ((a9 0 13).filter (zz bs))/\U=S) ⟨_,_,hm.trans Y,[(a9 0 13).filter (zz bs)],S.length,_,rfl,rfl,bI,OF _,jJ (OX _) _ X,rfl,rfl⟩;exact e
 show(bR 4 _ _>>=λo=>C4 o qc) S=_;rw[aH (a:=.nx [ar f,ar (.exc n ds),none,ar (.lst p),ar (.fz ((a9 0 13).filter (zz bs)))]) (S1:=S)]
 ·rfl
 ·show(fW _>>=_) S=_;rw[aH R];rfl
def marks(n:Str):List Bool:=[de n "NoWeb",de n "NoPlace",de n "NoPlaces",de n "NoMap",de n "NoSharing",de n "NoRoot",de n "NoNumber",de n "NotJoined",de n "NoTie",de n "NoText",de n "NoLine",de n "NoDeed",de n "TooGreat"]
theorem ES(Y:n∈bb)(U:(a9 0 13).filter (zz (marks n))=us)(W:∀p,qc [ar f,ar (.exc n ds),none,ar (.lst p),ar (.fz us)]=aC (.ret v))(S:aE):
  runs (jO [ar f,ar (.exc n ds),none,none,none]>>=outD) S λd L=>d=v/\∃G,L=S++G:=by
 have P:bR 3 (bD (af (dQ (mV 1) "NoWeb") (af (dQ (mV 1) "NoPlace") (af (dQ (mV 1) "NoPlaces") au)))) [ar f,ar (.exc n ds),none,none,none] S=ar (.ok (.nx [ar f,ar (.exc n ds),none,ar (.lst S.length),none]),S++[[.bl (de n "NoWeb"),.bl (de n "NoPlace"),.bl (de n "NoPlaces")]]):=by show((af _ _ _>>=bB)>>=λx=>aC (Out.nx _)) S=_;rw[three Y,aj,aH (dG (us:=[.bl (de n "NoWeb"),.bl (de n "NoPlace"),.bl (de n "NoPlaces")]) GS)];rfl
 obtain⟨H,C,e2,g2,F⟩:=sI (f:=f) (ds:=ds) (S:=S) Y "NoMap" "NoSharing" "NoRoot" (bI (S:=S) (xs:=[.bl (de n "NoWeb"),.bl (de n "NoPlace"),.bl (de n "NoPlaces")])) (by decide:3<=100);obtain⟨E,J,e3,g3,I⟩:=sI (f:=f) (ds:=ds) (S:=S) Y "NoNumber" "NotJoined" "NoTie" g2 (by decide:6<=100);obtain⟨Z,X,O,T,N⟩:=sI (f:=f) (ds:=ds) (S:=S) Y "NoText" "NoLine" "NoDeed" g3 (by decide:9<=100);have Q:=(OI.mp T).1;have K:rS (uw cU (mV 3) (dQ (mV 1) "TooGreat")) [ar f,ar (.exc n ds),none,ar (.lst Z),none] (S++X)=ar (.ok (.nx [ar f,ar (.exc n ds),none,ar (.lst Z),none]),(S++X).set Z ((marks n).map D.bl)):=by have hm:=Mc (f:=cU) (e1:=mV 3) (ρ:=[ar f,ar (.exc n ds),none,ar (.lst Z),none]) (x:=.lst Z) rfl rfl (qJ (f:=f) (ds:=ds) (z:=ar (.lst Z)) Y "TooGreat");refine sv (x:=.non) ((O4 hm _).trans ?_);rw[aj];show(getL Z>>=λxs=>kQ Z (xs++[.bl (de n "TooGreat")])) _=_;rw[aH (dj T)];exact jC (by show 13<=lim;unfold lim;omega) Q
 have R:=find_eq (f:=f) (ds:=ds) (S:=(S++X).set Z ((marks n).map D.bl)) (p:=Z) (bs:=marks n) Y (Pb Q) rfl;rw[U,W]at R;refine⟨v,(S++X).set Z ((marks n).map D.bl),?_,rfl,X.set (Z - S.length) ((marks n).map D.bl),Qa _ _ N⟩;rw[aH (a:=Out.ret v) (S1:=(S++X).set Z ((marks n).map D.bl))]
 ·rfl
 ·unfold jO;exact(aS P).trans ((aS e2).trans ((aS e3).trans ((aS O).trans ((aS K).trans R))))
theorem Hb(X:n∈bb)(Y:(a9 0 13).filter (zz (marks n))=us)(Z:∀f p,qc [ar f,ar (.exc n ds),none,ar (.lst p),ar (.fz us)]=aC (.ret v))(S:aE):
  runs (bE (M.raise (.exc n ds)) []) S λd W=>d=v/\∃G,W=S++G:=by
 unfold bE;rw[ER];have:sE (M.raise (.exc n ds)) (λx=>jO [ar (.fn 0 0 "" [] []),ar x,none,none,none]>>=outD)=(jO [ar (.fn 0 0 "" [] []),ar (.exc n ds),none,none,none]>>=outD):=by funext S;show(if n∈bb then _ else none)=_;rw[if_pos X]
 rw[this];exact ES X Y (Z _) S
theorem uM(X:n∈bb)(Y:(a9 0 13).filter (zz (marks n))=us)(Z:∀f p,qc [ar f,ar (.exc n ds),none,ar (.lst p),ar (.fz us)]=aC (.ret v))(W:d7 0 v=b_):
  fW (bE (M.raise (.exc n ds)) [])=aC v:=HL W (Hb X Y Z)
theorem eq_12:gr kR (mV 4) (aV (bD (af (mK (.int 12)) au))) [ar f,ar x,none,ar (.lst p),ar (.fz [.int k])]=aC (decide (k=12)):=by
 have Z:aV (bD (af (mK (.int 12)) au)) [ar f,ar x,none,ar (.lst p),ar (.fz [.int k])]=aC (.fz [.int 12]):=bW (us:=[.int 12]) rfl (by show 1<=lim;unfold lim;omega);refine dh (x:=.fz [.int k]) rfl Z (bH λS=>?_);unfold kR;refine(eU (p:=.list [.int k]) (q:=.list [.int 12]) rfl rfl).mpr ⟨?_,rfl⟩;have:hI (.list [.int k]) (.list [.int 12])=decide (k=12):=by rw[P1];simp[hI,kB]
 rw[this]
def Mo(h:k≠12):qc [ar f,ar x,none,ar (.lst p),ar (.fz [.int k])]=aC (.ret (.fz [.int k])):=by refine eh ?_;show(gr kR _ _ _>>=_)=_;rw[eq_12,aj,if_neg (by rw[PJ];exact h)];rfl
def Hd:fW (bE (M.raise (.exc "NoWeb" [])) [])=aC (.fz [.int 0]):=uM (by decide) (by rfl) (λf p=>Mo (by decide)) rfl
theorem Ce:fW (bE (M.raise (great L)) [])=aC (.fz [.int 12,.int L,.int 7]):=by
 refine uM (n:="TooGreat") (us:=[.int 12]) (by decide) (by rfl) (λf p=>?_) rfl;refine eh ?_;show(gr kR _ _ _>>=_)=_;rw[eq_12,aj,if_pos (by decide)];have Z:∀b,j6 b (mV 1) [ar f,ar (great L),none,ar (.lst p),ar (.fz [.int 12])]=aC (if b then .int 7 else .int L):=λb=>by show AA b (great L)=_;unfold great AA;exact if_pos (by decide)
 have Y:aV (bD (af (j6 c_ (mV 1)) (af (j6 b_ (mV 1)) au))) [ar f,ar (great L),none,ar (.lst p),ar (.fz [.int 12])]=aC (.fz [.int L,.int 7]):=by show fW ((j6 c_ (mV 1) _>>=λx=>(j6 b_ (mV 1) _>>=λy=>_)>>=_)>>=bB)=_;rw[Z,Z];exact bW (us:=[.int L,.int 7]) rfl mF
 have X:=bX (f:=bP) (m:=mV 4) (ρ:=[ar f,ar (great L),none,ar (.lst p),ar (.fz [.int 12])]) (x:=.fz [.int 12]) rfl Y;exact(Rl fW X).trans (bW (us:=[.int 12,.int L,.int 7]) rfl GS)
def sJ(a b:Nat):List D:=[.non,.int 0,.tup [],.tup [.int 15,.tup []],.tup [.int (-1),.tup []],.tup [.bl b_,.tup []],.tup [.int 2,.lst a],.lst b,.tup [.int 2,.tup [.tup [.int 1,.int 0]]],.tup [.int 2,.tup [.tup [.int 0,.int 0]]],.emp,.str "2:"]
def sL:List D:=[.tup [.int 2,.tup [.tup [.int 0,.int 1],.tup [.int 0,.int 1]]],.tup [.int 3,.tup [.tup [.int 0,.int 2],.tup [.int 0,.int 1]]],.tup [.int 2,.tup [.tup [.int 0,.int 2]]],.tup [.int 2,.tup [.tup [.int 0,.bl b_]]],.tup [.int 2,.tup [.tup [.int 0,.int 1,.int 1]]]]
def vV(c:Nat):List D:=[.tup [.int 2,.tup [.int 0,.int 1]],.tup [.int 2,.non],.tup [.int 2,.tup [],.tup []],.tup [.int 2],.tup [.int 2,.tup [.lst c]],.tup [.int 2,.tup [.non]],.tup [.str "2",.tup []],.tup [.int 0,.tup [.tup [.int 0,.int 1]]]]
theorem Kg(W:n<=a)(I:n<=b)(P:n<=c)(R:S[a]? =ar [])(J:S[b]? =ar [.int 2,.tup []])(K:S[c]? =ar [.int 0,.int 1]):∀d∈sJ a b++sL++vV c,∃u,jI n (yw S n 60) d=ar u/\Good u/\gj u=false:=by
 have Y:=sF (f:=59) W R rfl;have U:=sF (f:=59) I J rfl;have L:=sF (f:=59) P K rfl;have Q:∀d,d7 0 d=b_->EC d=b_->gj d=c_->∃u,jI n (yw S n 60) d=ar u/\Good u/\gj u=false:=λd Z O T=>⟨d,vI d (AC (OX _) d Z),oq O,T⟩;have X:∃u,jI n (yw S n 60) (.tup [.int 2,.lst a])=ar u/\Good u/\gj u=false:=⟨.tup [.int 2,.fz []],by unfold jI gU gU gU;rw[Y];rfl,oq rfl,rfl⟩;have N:∃u,jI n (yw S n 60) (.lst b)=ar u/\Good u/\gj u=false:=⟨_,U,oq rfl,rfl⟩;have H:∃u,jI n (yw S n 60) (.tup [.int 2,.tup [.lst c]])=ar u/\Good u/\gj u=false:=⟨.tup [.int 2,.tup [.fz [.int 0,.int 1]]],by
  have:jI n (yw S n 60) (.tup [.lst c])=ar (.tup [.fz [.int 0,.int 1]]):=by unfold jI gU gU;rw[L];rfl
  unfold jI gU gU gU;rw[this];rfl,oq rfl,rfl⟩
 intro d hd;simp only[sJ,sL,vV,Td,gc,f_,or_false]at hd;rcases hd with((rfl|rfl|rfl|rfl|rfl|rfl|rfl|rfl|rfl|rfl|rfl|rfl)|(rfl|rfl|rfl|rfl|rfl))|(rfl|rfl|rfl|rfl|rfl|rfl|rfl|rfl)<;>first|exact X|exact N|exact H|exact Q _ rfl rfl rfl
def bT(S:aE):aE:=[[],[.int 2,.tup []],sJ S.length (S.length+1),sL,sJ S.length (S.length+1)++sL,[.int 0,.int 1],vV (S.length+5),sJ S.length (S.length+1)++sL++vV (S.length+5)]
theorem He(Y:aF [.lst k,.int 25] (S++bT S)=ar (.ok (.int j),S'))(X:S'[S.length+7]? =ar (sJ S.length (S.length+1)++sL++vV (S.length+5)))(Z:jS (sJ S.length (S.length+1)++sL++vV (S.length+5)) j=ar d):
  fY [ar (.lst k),none] S=ar (.ok (.ret d),S'):=by
 unfold fY;refine(aS (ρ':=[ar (.lst k),ar (.lst (S.length+2))]) (S1:=S++(bT S).take 3) (bN (x:=.lst (S.length+2)) ?_)).trans ((aS (ρ':=[ar (.lst k),ar (.lst (S.length+4))]) (S1:=S++(bT S).take 5) (bN (x:=.lst (S.length+4)) ?_)).trans ((aS (ρ':=[ar (.lst k),ar (.lst (S.length+7))]) (S1:=S++bT S) (bN (x:=.lst (S.length+7)) ?_)).trans (gC ?_)))
 ·refine(jM (ys:=sJ S.length (S++[[]]).length) (S1:=S++[[]]++[[.int 2,.tup []]]) rfl (by show 12<=lim;unfold lim;omega)).trans ?_;rw[show(S++([[]]:aE)).length=S.length+1 from OG,O7,OG,O7];rfl
 ·refine(fu (x:=.lst (S.length+2)) rfl (jM (ys:=sL) (S1:=S++(bT S).take 3) rfl (by show 5<=lim;unfold lim;omega))).trans ?_;rw[O7,OG];refine(AE (xs:=sJ S.length (S.length+1)) (ys:=sL) (tL 2) (tL 3) (by show 17<=lim;unfold lim;omega)).trans ?_;rw[O7,OG];rfl
 ·refine(fu (x:=.lst (S.length+4)) rfl (jM (ys:=vV (S++(bT S).take 5).length) (S1:=S++(bT S).take 5++[[.int 0,.int 1]]) rfl (by show 8<=lim;unfold lim;omega))).trans ?_;rw[show(S++(bT S).take 5).length=S.length+5 from OG,O7,O7,OG];refine(AE (xs:=sJ S.length (S.length+1)++sL) (ys:=vV (S.length+5)) (tL 4) (tL 6) (by show 25<=lim;unfold lim;omega)).trans ?_;rw[OG];exact Rl (λx=>ar (Res.ok (D.lst (S.length+7)),x)) (O7 _ _ _)
 ·refine(fu (x:=.lst (S.length+7)) (y:=.int j) (S2:=S') rfl ?_).trans (uF X Z);exact Y
theorem Kh(hs:eZ S k):∃d S1,fW (fZ [.lst k]) S=ar (.ok d,S1)/\Good d/\gj d=c_/\Kp k S S1/\S1.length=S.length:=by obtain⟨_,Y,T,j,rfl,R,P,Z⟩:=AL (Q:=λd Y=>∃j,d= .int j/\0<=j/\j<25/\Kp k (S++bT S) Y) hs.grow (many:=25) (by decide) (by decide) λj Y a b _ X=>⟨j,rfl,a,b,X⟩;have N:=hs.lt;have gt:∀i us,(S++bT S)[S.length+i]? =ar us->Y[S.length+i]? =ar us:=λi us h=>(Z.oth (S.length+i) (OI.mp h).1 (by omega)).trans h;obtain⟨d,W,hd⟩:=HQ (xs:=sJ S.length (S.length+1)++sL++vV (S.length+5)) R P;have X:Kp k S Y:=(Kp.grow hs _).trans Z;obtain⟨u,O,U,hw⟩:=Kg (n:=S.length) (a:=S.length) (b:=S.length+1) (c:=S.length+5) (S:=Y) (OF _) (QH _ _) (QH _ _) (gt 0 _ (tL 0)) (gt 1 _ (tL 1)) (gt 5 _ (tL 5)) d hd;refine⟨u,_,pA (fG (He T (gt 7 _ (tL 7)) W) rfl) (qI X) (.inl ?_) X.len O,U,hw,vS hs X⟩;have:=Z.len;rw[OG,show(bT S).length=8 from rfl]at this;omega
def Oe(t:List Int):D->D
 | .int p=>.bl (mZ p t)
 |d=>d
theorem Ki{s:List Int}(hs:s.length<=1000):ju [tupI s,tupI t]=aC (.bl (s.any λp=>mZ p t)):=by
 have Z:(s.map D.int).length<=lim:=by rw[OC];unfold lim;omega
 have em:((s.map D.int).filter λ_=>b_).map (Oe t)=(s.map λp=>mZ p t).map D.bl:=by rw[eL,Pn,Pn];rfl
 have h:=lM (mi:=ez (mV 0)) (g:=gN 0) (t:=iZ) (m:=i5) (js:=[none,ar 1]) (ρ:=[ar (tupI s),ar (tupI t)]) (its:=s.map D.int) (λρ=>∃x,ρ=[x,ar (tupI t)]) (λ_=>b_) (Oe t) rfl Z ⟨none,rfl⟩ (λd hd ρ ⟨x,hρ⟩=>by subst hρ;obtain⟨p,_,rfl⟩:=O0.mp hd;exact⟨_,rfl,⟨_,rfl⟩,rfl,λ_=>(bX (x:=.int p) (y:=tupI t) rfl rfl).trans Mj⟩) (by rw[em];exact vM _)
 rw[em]at h;refine dM (eh ((eM h).trans JW)) ?_;show aC _=aC _;rw[List.any_map];rfl
theorem ET(Z:a<b)(Y:c<d):([a,b].any λp=>mZ p [c,d])=eO [a,b] [c,d]:=by
 rw[xT Z Y,P1];simp only[TL,List.any_nil,NN,Bool.or_false,vr,decide_eq_true_eq];constructor
 ·rintro((h|h)|(h|h))<;>simp[h]
 ·rintro(h|h|h|h)<;>simp[h]
def Of(E:List (List Int)):D->Bool
 | .tup [.int a,.int b]=>eO (E.getD a.toNat []) (E.getD b.toNat [])
 |_=>c_
theorem Cf(E:List (List Int)):(((bF E.length).map tupI).filter (Of E)).map id=(gm E).map tupI:=by rw[RY,SZ];congr 1;unfold bF gm;rw[List.filter_flatMap];congr 1;funext a;unfold kI tN;rw[SZ];congr 1
theorem AS(s:List Int):∀rs:List (List Int),((rs.map iI).any λy=>hI y (iI s))=decide (s∈rs)
 |[]=>by simp
 | r::rs=>by
  rw[OW,SC,AS s rs];have:hI (iI r) (iI s)=decide (r=s):=by unfold iI hI;exact ou r s
  rw[this,P1];simp only[vr,decide_eq_true_eq,gc];exact or_congr ⟨Eq.symm,Eq.symm⟩ Iff.rfl
theorem vW{rs:List (List Int)}:inD (tupI s) (.tup (rs.map tupI))=aC (.bl (decide (s∈rs))):=bH λS=>by
 unfold inD;have Z:hV S 60 (.tup (rs.map tupI))=ar (.tuple (rs.map iI)):=by show(mapP (hV S 59) (rs.map tupI)).map SF=_;rw[iP];rfl
 exact(qG (jD s) Z (r:=decide (s∈rs)) (by show ar (id ((rs.map iI).any λy=>hI y (iI s)))=_;rw[AS];rfl)).mpr ⟨rfl,rfl⟩
def Mp:kR (.bl a) (.bl b)=aC (.bl (a==b)):=bH λS=>HN.mpr ⟨rfl,rfl⟩
def Mq:kd (.bl a) (.bl b)=aC (.bl (a !=b)):=bH λS=>by unfold kd;refine(eU pB pB).mpr ⟨?_,rfl⟩;cases a<;>cases b<;>rfl
def tB(E:List (List Int))(a b:Int):Bool:=decide ([if b<a then b else a,if b>a then b else a]∈E)
section
variable {n n':Nat}{E E':List (List Int)}
theorem mm{e1 e2:TM}{a:Int}(Z:e1 ρ=aC (.int a))(Y:e2 ρ=aC (.int b)):b9 (af (aA minD (af e1 (af e2 au))) (af (aA maxD (af e1 (af e2 au))) au)) ρ=aC (tupI [if b<a then b else a,if b>a then b else a]):=by show(af _ _ _>>=bj)=_;rw[aL ((call2 (F:=minD) Z Y).trans rfl) (aL ((call2 (F:=maxD) Z Y).trans rfl) (es:=au) rfl),aj];unfold bj;exact if_pos mF
def Kj:kG [aP n E,.int a,.int b]=aC (.bl (tB E a b)):=
 dM (o:=.ret (.bl (tB E a b))) (eh ((bX (y:=.tup (E.map tupI)) (mm (a:=a) (b:=b) rfl rfl) rfl).trans vW)) rfl
def Hf:gY [aP n E,.int a,.int b]=aC (.bl (tB E a b)):=
 dM (o:=.ret (.bl (tB E a b))) (eh ((bX (y:=.tup (E.map tupI)) (mm (a:=a) (b:=b) rfl rfl) rfl).trans vW)) rfl
def NO(n:Nat):a9 0 n=(ee n).map λi:Nat=>D.int (i:Int):=by unfold a9;exact RX λi _=>by rw[Rk]
def Hg{m:TM}(h:m ρ=aC (.int n))(Z:n<=1000):qi m ρ=aC ⟨(ee n).map λi:Nat=>D.int (i:Int),.none⟩:=by have:=(sr h).trans (B7 (by omega));rw[Py,NO]at this;exact this
end
end W
namespace S3
open PySem PySem.Spec PyProof.Rows L2 PySem.SeqAt
section
variable {X:Cx}{E:XD}{o e:Expr}{es:List Expr}{m:TM}{ms:aO->M (List D)}{pos:Pos}
end
end S3
namespace S7
open PySem PySem.Spec PyProof.Rows L2 S3
section
variable {X:Cx}{E:XD}{scope:Scope}{Nc:List Str}{js:List (Option Nat)}{elt tg iter:Expr}{ifs:List Expr}{pos:Pos}{mi:S3.aO->M Iter}{g:nE}{t:S3.aO->M Bool}{m:TM}
end
end S7
namespace W
open PySem PySem.Spec PyProof.Rows L2 S3 S4 S7
section
variable {α:Type}{l:List α}{mk f:α->D}{mi:aO->M Iter}{g:nE}{t:j4}{m:TM}{ρ:aO}{js:List (Option Nat)}{its:List D}
theorem EU(R:aO->Prop)(q:α->Bool):∀(l:List α) (ρ:aO),R ρ->(∀a∈l,∀ ρ,R ρ->∃Z,g (mk a) ρ=aC Z/\R Z/\t Z=aC (q a)/\(q a=b_->m Z=aC (f a)))->cV ⟨its,.none⟩ g t m (l.map mk) ρ=aC ((l.filter q).map f)
 |[],ρ,_,_=>by unfold cV;rw[cQ];rfl
 |a::l,ρ,hR,h=>by
  obtain⟨Z,Y,S,W,T⟩:=h a (.head _) ρ hR;have X:=EU R q l Z S λb U=>h b (.tail _ U);rw[OW];unfold cV;rw[cQ,aj,Y,aj,W,aj,X];cases hq:q a with
  |true=>rw[Qf hq,if_pos rfl,T hq,aj];rfl
  |false=>rw[Qg (by rw[hq];decide),if_neg (by decide)]
theorem EV(R:aO->Prop)(q:α->Bool)(W:mi ρ=aC ⟨l.map mk,.none⟩)(Z:l.length<=lim)(X:R (ko js ρ))(Y:∀a∈l,∀ ρ,R ρ->∃ ρ1,g (mk a) ρ=aC ρ1/\R ρ1/\t ρ1=aC (q a)/\(q a=b_->m ρ1=aC (f a))):
  cq mi g t m js ρ=bB ((l.filter q).map f):=by
 unfold cq;rw[W,aj];unfold gG;rw[if_pos (by show(l.map mk).length<=lim;rw[OC];exact Z)];show(cV _ g t m (l.map mk) _>>=_)=_;rw[EU R q l _ X Y,aj]
theorem AU(R:aO->Prop)(q:α->Bool)(U:mi ρ=aC ⟨l.map mk,.none⟩)(Z:l.length<=lim)(W:R (ko js ρ))(X:∀a∈l,∀ ρ,R ρ->∃ ρ1,g (mk a) ρ=aC ρ1/\R ρ1/\t ρ1=aC (q a)/\(q a=b_->m ρ1=aC (f a)))
  (Y:bU 0 ((l.filter q).map f)=b_):aV (cq mi g t m js) ρ=aC (.fz ((l.filter q).map f)):=by
 unfold aV;rw[EV R q U Z W X];exact bW Y (by rw[OC];exact OR (Qu _ _) Z)
theorem Mr(R:aO->Prop)(q:α->Bool)(U:mi ρ=aC ⟨l.map mk,.none⟩)(Z:l.length<=lim)(W:R (ko js ρ))(X:∀a∈l,∀ ρ,R ρ->∃ ρ1,g (mk a) ρ=aC ρ1/\R ρ1/\t ρ1=aC (q a)/\(q a=b_->m ρ1=aC (f a)))
  (Y:bU 0 ((l.filter q).map f)=b_):aV (ND (cq mi g t m js)) ρ=aC (.fz ((l.filter q).map f)):=by
 unfold aV ND;rw[EV R q U Z W X,B8];exact bW Y (by rw[OC];exact OR (Qu _ _) Z)
end
theorem EX{S:aE}{xs:List D}{d:D}(Z:xs.length<=1000):cU (.lst S.length) [d] (S++[xs])=ar (.ok .non,S++[xs++[d]]):=by show(getL S.length>>=λxs=>kQ S.length (xs++[d])) (S++[xs])=_;rw[aH (dj (bI (S:=S) (xs:=xs))),jC (by rw[OG];show xs.length+1<=lim;unfold lim;omega) (by simp)];rw[Qa _ _ (OF _),R6];rfl
theorem xU{S:aE}{xs:List D}(Z:xs.length<=lim):b7 [.lst S.length] (S++[xs])=ar (.ok (.tup xs),S++[xs]):=by show(getL S.length>>=bj) (S++[xs])=_;rw[aH (dj (bI (S:=S) (xs:=xs)))];unfold bj;rw[if_pos Z];rfl
theorem forA{α:Type}{mk:α->D}{f:α->List D}{g:nE}{b:dq}{its:List D}{S:aE}(c:Nat)(R:aO->Prop):∀(l:List α) (xs:List D) (ρ:aO),R ρ->xs.length+l.length*c<=1000->
  (∀a∈l,(f a).length<=c/\∀ ρ xs,R ρ->xs.length<=1000->∃Y Z,g (mk a) ρ=aC Y/\R Z/\b Y (S++[xs])=ar (.ok (.nx Z),S++[xs++f a]))->
  ∃ ρ',R ρ'/\fD ⟨its,.none⟩ g b (l.map mk) ρ (S++[xs])=ar (.ok (.nx ρ'),S++[xs++l.flatMap f])
 |[],xs,ρ,hR,_,_=>⟨ρ,hR,by rw[Qj,fB,List.flatMap_nil,Pp];rfl⟩
 |a::l,xs,ρ,hR,hl,h=>by
  rw[O9,QT]at hl;obtain⟨P,Q⟩:=h a (.head _);obtain⟨Y,Z,e1,U,e2⟩:=Q ρ xs hR (by omega);obtain⟨ρ',W,X⟩:=forA c R l (xs++f a) Z U (by rw[OG];omega) λx T=>h x (.tail _ T);refine⟨ρ',W,?_⟩;rw[OW,il e1 e2,X,QZ,O7]
theorem Hh{c:M D}{S:aE}{us:List D}(h:c S=ar (.ok (.lst S.length),S++[us]))(Y:bU 0 us=b_):fW c S=ar (.ok (.fz us),S):=by obtain⟨d,Z,e,rfl,rfl⟩:=rY (Q:=λd Z=>d= .fz us/\Z=S) ⟨_,_,h,[us],S.length,us,rfl,rfl,bI,OF _,jJ (OX _) _ Y,rfl,rfl⟩;exact e
def things{es:aO->M (List D)}{ρ:aO}{us:List D}(Y:es ρ=aC us)(Z:bU 0 us=b_)(X:us.length<=50):aV (bD es) ρ=aC (.fz us):=by show fW (es ρ>>=bB)=_;rw[Y,aj];exact bW Z (by unfold lim;omega)
theorem sM{S:aE}{xs:List D}{j:Int}{v:D}(Y:0<=j)(Z:j<xs.length)(X:xs.length<=1000):fQ (.lst S.length) (.int j) v (S++[xs])=ar (.ok (),S++[xs.set j.toNat v]):=by show(getL S.length>>=λxs=>match yq xs.length j with|some at'=>(do let _<-kQ S.length (xs.set at' v);aC ())|none=>M.fail) (S++[xs])=_;rw[aH (dj (bI (S:=S) (xs:=xs))),show yq xs.length j=ar j.toNat by unfold yq;rw[if_pos Y,if_pos Z]];show(kQ S.length (xs.set j.toNat v)>>=_) _=_;rw[aH (jC (by rw[PV];unfold lim;omega) (by simp)),Qa _ _ (OF _),R6];rfl
section
variable {n:Nat}{E E':List (List Int)}{a b i:Int}{d e:D}
def xV:kd (.int a) (.int b)=aC (.bl (!decide (a=b))):=bH λS=>by unfold kd;refine(eU mn mn).mpr ⟨?_,rfl⟩;simp[hI];rfl
def Hi:mZ p t=b_↔p∈t:=by unfold mZ;rw[List.any_eq_true];exact⟨λ⟨x,hx,e⟩=>by rw[<-Ue e];exact hx,λh=>⟨p,h,SN p⟩⟩
def Ms(h:a<b):tB E a b=decide ([a,b]∈E):=by unfold tB;rw[if_neg (by omega),if_pos h]
def AV(Z:n<=14)(w:WebOk n E):gy [aP n E]=aC .non:=by rw[EE J2 (G5 w),if_pos (AM (by omega) (by omega) w)]
theorem xW(Y:n<=14)(w:WebOk n E):cb [aP n E,.int 7]=if 7<n then M.raise (great n)else aC .non:=by
 have Z:gr C9 En (mV 1) [ar (aP n E),ar (.int 7)]=aC (decide (7<(n:Int))):=dh (x:=.int n) (y:=.int 7) rfl rfl rfl;by_cases h:7<n
 ·rw[if_pos h];exact gz ((bh (xN (kU ((dn rfl).trans (AV Y w))))).trans ((fe Z).trans ((if_pos (OS (by omega))).trans rfl)))
 ·rw[if_neg h];exact su ((bh (xN (kU ((dn rfl).trans (AV Y w))))).trans ((fe Z).trans (if_neg (by rw[PJ];omega)))) rfl
def Kk:D->Bool
 | .int _=>b_
 | .bl _=>b_
 | .non=>b_
 | .str s=>PyData.strOk s
 | .tup ds=>(intsOf ds).isSome
 |_=>c_
def isTup:D->Bool
 | .tup _=>b_
 |_=>c_
def HV(h:Kk x=b_):tu x=true:=by cases x<;>first|rfl|cases h
def pJ(h:tu d=b_):wY (λt=>ku t "tuple") d=aC (.bl (isTup d)):=by cases d<;>first|rfl|cases h
theorem dY{p q:j4}{b c:Bool}{ρ:aO}(Z:p ρ=aC b)(Y:b=c_->q ρ=aC c):nZ p q ρ=aC (b||c):=by
 show(p ρ>>=_)=_;rw[Z];cases b with
 |true=>rfl
 |false=>exact Y rfl
def not_eq{t:j4}{b:Bool}{ρ:aO}(h:t ρ=aC b):cM t ρ=aC (!b):=by show(t ρ>>=_)=_;rw[h];rfl
def lS(h:AF d):dE [d]=aC (.bl (jd d)):=vP h
theorem m5:∀{ds:List D} {ns:List Int},intsOf ds=ar ns->ds=ns.map D.int
 |[],ns,e=>by cases e;rfl
 | d::ds,ns,e=>by
  cases d with
  | int i=>
   cases hq:intsOf ds with
   |none=>simp[intsOf,hq]at e
   |some ms=>
    simp[intsOf,hq]at e;subst e;rw[m5 hq];rfl
  |_=>simp[intsOf]at e
theorem NP(h:Kk x=b_):∃p,hV S (n+2) x=ar p:=by
 cases x with
 |int i=>exact⟨_,rfl⟩
 |bl b=>exact⟨_,rfl⟩
 |non=>exact⟨_,rfl⟩
 |str s=>exact⟨_,if_pos h⟩
 |tup ds=>
  have h:(intsOf ds).isSome=true:=h;obtain⟨ns,e⟩:=Px.mp h;rw[m5 e];exact⟨_,jD ns⟩
 |_=>cases h
theorem HW{S:aE}{n:Nat}:∀{us:List D},(∀x∈us,Kk x=b_)->∃Z,mapP (hV S (n+2)) us=ar Z/\Z.length=us.length
 |[],_=>⟨[],rfl,rfl⟩
 |x::us,h=>by
  obtain⟨p,e1⟩:=NP (S:=S) (n:=n) (h x (.head _));obtain⟨Z,e2,l⟩:=HW (S:=S) (n:=n) λy Y=>h y (.tail _ Y);exact⟨p::Z,by simp[mapP,e1,e2],by rw[O9,O9,l]⟩
theorem Hj(h:∀x∈us,Kk x=b_):kd (.fz us) (.fz [])=aC (.bl (!us.isEmpty)):=bH λS=>by
 obtain⟨Z,e,l⟩:=HW (S:=S) (n:=57) h;have Y:hV S 60 (.fz us)=ar (.list Z):=by show(mapP (hV S 59) us).map u3=_;rw[e];rfl
 unfold kd;refine(eU Y (show hV S 60 (.fz [])=ar (.list [])from rfl)).mpr ⟨?_,rfl⟩;cases Z with
 |nil=>rw[Sy.mp l.symm];simp[hI,kB]
 |cons p Z=>
  cases us with
  |nil=>cases l
  |cons u us=>simp[hI,kB]
theorem HX:∀{us:List D},(∀x∈us,Kk x=b_)->bU 0 us=b_
 |[],_=>rfl
 | x::us,h=>by
  have Y:d7 0 x=true:=by
   have Z:=h x (.head _);cases x with
   |tup ds=>
    have Z:(intsOf ds).isSome=true:=Z;obtain⟨ns,e⟩:=Px.mp Z;rw[m5 e];exact zG ns
   |int i=>rfl
   |bl b=>rfl
   |non=>rfl
   |str s=>rfl
   |_=>cases Z
  unfold bU;rw[Y,HX λy X=>h y (.tail _ X)];rfl
theorem sN:∀{ds:List D},(ds.filter λd=> !jd d).isEmpty=b_->∃z:List Int,ds=z.map D.int
 |[],_=>⟨[],rfl⟩
 | d::ds,h=>by
  cases hw:jd d with
  |false=>rw[Qf (by rw[hw];rfl)]at h;cases h
  |true=>
   rw[Qg (by rw[hw];decide)]at h;obtain⟨z,rfl⟩:=sN h;cases d<;>first|(cases hw)|skip
   exact⟨_::z,rfl⟩
def kJ{e:TM}(h:e ρ=aC (.tup us)):cg ef e ρ=aC (.int us.length):=eM h
def EY(g:Good d)(Z:gj d=c_):gy [d]=M.raise (.exc "NoWeb" []):=by rw[EE g.nr (λm Y z=>OR (g.few m Y z) (by decide)),if_neg (by rw[Z];decide)]
end
theorem mx:∀A B:List (List Int),kB (A.map iI) (B.map iI)=decide (A=B)
 |[],[]=>by simp[kB]
 |[],_::_=>by simp[kB]
 |_::_,[]=>by simp[kB]
 | a::A,b::B=>by
  have e:hI (iI a) (iI b)=decide (a=b):=by unfold iI hI;exact ou a b
  rw[OW,OW];unfold kB;rw[e,mx A B,P1];simp
def qK{A:List (List Int)}:hV S (f+2) (.fz (A.map tupI))=ar (.list (A.map iI)):=by show(mapP (hV S (f+1)) (A.map tupI)).map u3=_;rw[iP];rfl
def EZ{A B:List (List Int)}:kR (.fz (A.map tupI)) (.fz (B.map tupI))=aC (.bl (decide (A=B))):=bH λS=>by unfold kR;refine(eU qK qK).mpr ⟨?_,rfl⟩;rw[<-mx A B];simp only[hI]
def E1{A B:List (List Int)}:kd (.fz (A.map tupI)) (.fz (B.map tupI))=aC (.bl (!decide (A=B))):=bH λS=>by unfold kd;refine(eU qK qK).mpr ⟨?_,rfl⟩;rw[<-mx A B];simp only[hI]
theorem zI{A B:List (List Int)}:kR (.tup (A.map tupI)) (.tup (B.map tupI))=aC (.bl (decide (A=B))):=bH λS=>by
 have Z:∀C:List (List Int),hV S 60 (.tup (C.map tupI))=ar (.tuple (C.map iI)):=λC=>by show(mapP (hV S 59) (C.map tupI)).map SF=_;rw[iP];rfl
 unfold kR;refine(eU (Z A) (Z B)).mpr ⟨?_,rfl⟩;rw[<-mx A B];simp only[hI]
structure RowsOk(T:List (List Int)):Prop where
 el:∀t∈T,∃a b:Int,t=[a,b]/\0<=a/\a<b
 ris:T.Pairwise λa b=>HT.lexLt a b=b_
 few:T.length<=7
theorem zJ{T:List (List Int)}(h:T.Pairwise λa b=>HT.lexLt a b=b_):iu T=T:=by
 have Z:∀{l:List (List Int)},l.Pairwise (λa b=>HT.lexLt a b=b_)->l.Nodup:=λh=>h.imp λ{a b} h e=>by subst e;rw[kD]at h;cases h
 exact jX ((Q2 (Z (pG T)) (Z h)).mpr λt=>uI) ((pG T).imp λh=>lz h) (h.imp λh=>lz h)
theorem Cg{e1 e2 e3:TM}(Y:e1 ρ=aC (.int x))(X:e2 ρ=aC (.int y))(Z:e3 ρ=aC (.int z)):oY yt yt e1 e2 e3 ρ=aC (decide (x<=y) && decide (y<=z)):=by
 unfold oY;rw[Y,aj,X,aj,show yt (.int x) (.int y)=aC (.bl (decide (x<=y)))from rfl,aj,show kh (.bl (decide (x<=y)))=aC (decide (x<=y))from rfl,aj];by_cases c:x<=y
 ·rw[OS c,if_pos rfl,Z];rfl
 ·rw[OY c,if_neg (by decide)];rfl
theorem zK{e1 e2 e3 Z:TM}(Y:e1 ρ=aC (.int x))(U:e2 ρ=aC (.int y))(X:e3 ρ=aC (.int z))(W:Z ρ=aC (.int u)):qF yt rp rp e1 e2 e3 Z ρ=aC (decide (x<=y) && (decide (y<z) && decide (z<u))):=by
 unfold qF;rw[Y,aj,U,aj,show yt (.int x) (.int y)=aC (.bl (decide (x<=y)))from rfl,aj,show kh (.bl (decide (x<=y)))=aC (decide (x<=y))from rfl,aj];by_cases c:x<=y
 ·rw[OS c,if_pos rfl,X,aj,show rp (.int y) (.int z)=aC (.bl (decide (y<z)))from rfl,aj,show kh (.bl (decide (y<z)))=aC (decide (y<z))from rfl,aj];by_cases c2:y<z
  ·rw[OS c2,if_pos rfl,W];rfl
  ·rw[OY c2,if_neg (by decide)];rfl
 ·rw[OY c,if_neg (by decide)];rfl
def qL{g:nE}{b:dq}(h:g d ρ=aC ρ1)(Z:b ρ1=aC (.ret v)):fD ⟨its,.none⟩ g b (d::ds) ρ=aC (.ret v):=by rw[fD,cQ,aj,h,aj,Z];rfl
def qM{g:nE}{b:dq}(h:g d ρ=aC ρ1)(Z:b ρ1=aC (.nx ρ2)):fD ⟨its,.none⟩ g b (d::ds) ρ=fD ⟨its,.none⟩ g b ds ρ2:=by rw[fD,cQ,aj,h,aj,Z];rfl
def iw{t:j4}(h:t ρ=aC c_):j5 t m d6 ρ=aC (.nx ρ):=(fe h).trans (if_neg (by decide))
def fK{t:j4}{e:TM}(h:t ρ=aC b_)(Z:e ρ=aC v):j5 t (bQ e) d6 ρ=aC (.ret v):=(fe h).trans ((if_pos rfl).trans (eh Z))
abbrev iJ(i:Int)(T:List (List Int)):D:=.tup [.int i,.tup (T.map tupI)]
section
variable {i:Int}{T:List (List Int)}
theorem Mt(X:0<=a)(Y:a<b):cZ [ar (iJ i T),ar (tupI [a,b])]=if b<i then aC (.nx [ar (iJ i T),ar (tupI [a,b])])else aC (.ret (.bl c_)):=by
 have W:nZ GJ LS [ar (iJ i T),ar (tupI [a,b])]=aC false:=
  dY (b:=c_) rfl λ_=>dY (b:=c_) (dh (x:=.int 2) (y:=.int 2) rfl rfl xV) λ_=>dY (b:=c_) (not_eq (b:=b_) (ff (kU ((dn (x:=.int a) rfl).trans (lS rfl))))) λ_=>not_eq (b:=b_) (ff (kU ((dn (x:=.int b) rfl).trans (lS rfl))))
 have Z:cM (qF yt rp rp (mK (.int 0)) GI vK En) [ar (iJ i T),ar (tupI [a,b])]=aC (!decide (b<i)):=by refine not_eq ((zK (x:=0) (y:=a) (z:=b) (u:=i) rfl rfl rfl rfl).trans ?_);rw[OS X,OS Y,Ph,Ph]
 unfold cZ;refine(bh (iw W)).trans ?_;by_cases c:b<i
 ·rw[if_pos c];exact iw (Z.trans (by rw[OS c];rfl))
 ·rw[if_neg c];exact fK (Z.trans (by rw[OY c];rfl)) rfl
theorem E2:∀(R:List (List Int)) (x:Option D),(∀t∈R,∃a b:Int,t=[a,b]/\0<=a/\a<b)->∃y,fD ⟨its,.none⟩ (gN 1) cZ (R.map tupI) [ar (iJ i T),x]=if (R.all λt=>decide (t.getD 1 0<i))=b_ then aC (.nx [ar (iJ i T),y])else aC (.ret (.bl c_))
 |[],x,_=>⟨x,by rw[Qj,fB];rfl⟩
 | t::R,x,h=>by
  obtain⟨a,b,rfl,h0,Y⟩:=h t (.head _);obtain⟨y,X⟩:=E2 (its:=its) R (ar (tupI [a,b])) λt W=>h t (.tail _ W);refine⟨y,?_⟩;have Z:=Mt (i:=i) (T:=T) h0 Y;rw[Rr,OW];by_cases c:b<i
  ·rw[if_pos c]at Z;rw[qM rfl Z,X,show decide (([a,b]:List Int).getD 1 0<i)=b_ from OS c,Ph]
  ·rw[if_neg c]at Z;rw[qL rfl Z,show decide (([a,b]:List Int).getD 1 0<i)=c_ from OY c,Pe,if_neg (by decide)]
theorem Hk(h:RowsOk T):gj (iJ i T)=(decide (0<=i) && (decide (i<=14) && T.all λt=>decide (t.getD 1 0<i))):=by show(decide (0<=i) && (decide (i<=14) && ((T.map tupI).all (fH i) && qm (T.map tupI))))=_;rw[sC h.ris,Bool.and_true,Rj];congr 2;refine P1.mpr ?_;rw[OT,OT];refine forall_congr' λt=>imp_congr_right λZ=>?_;obtain⟨a,b,rfl,h0,Y⟩:=h.el t Z;show((decide (0<=a) && decide (a<i)) && ((decide (0<=b) && decide (b<i)) && decide (a<b)))=b_↔decide (b<i)=b_;simp only[hO,decide_eq_true_eq];omega
theorem zM(h:RowsOk T):cy [iJ i T]=aC (.bl (gj (iJ i T))):=by
 have hf:=h.few;have Y:nZ (cM (bV (iV (mV 0) "tuple"))) LU [ar (iJ i T),none]=aC (!(decide (0<=i) && decide (i<=14))):=
  dY (b:=c_) rfl λ_=>dY (b:=c_) (dh (x:=.int 2) (y:=.int 2) rfl rfl xV) λ_=>dY (b:=c_) (not_eq (b:=b_) (ff (kU ((dn (x:=.int i) rfl).trans (lS rfl))))) λ_=>not_eq (Cg (x:=0) (y:=i) (z:=14) rfl rfl rfl)
 rw[Hk h];refine dM (o:=.ret (.bl (decide (0<=i) && (decide (i<=14) && T.all λt=>decide (t.getD 1 0<i))))) ?_ rfl;show gJ [ar (iJ i T),none]=_;unfold gJ;cases q:decide (0<=i) && decide (i<=14)with
 |false=>
  rw[<-Qv,q,Pe];exact cT (fK (Y.trans (by rw[q];rfl)) rfl)
 | true=>
  rw[<-Qv,q,Ph];refine(bh (iw (Y.trans (by rw[q];rfl)))).trans ((bh (iw (not_eq (b:=b_) rfl))).trans ?_);obtain⟨y,Z⟩:=E2 (i:=i) (T:=T) (its:=T.map tupI) T none h.el;have hs:jj (ez xM) (gN 1) cZ [ar (iJ i T),none]=if (T.all λt=>decide (t.getD 1 0<i))=b_ then aC (.nx [ar (iJ i T),y])else aC (.ret (.bl c_)):=by rw[<-Z];rfl
  cases q2:T.all λt=>decide (t.getD 1 0<i)with
  |false=>
   rw[q2,if_neg (by decide)]at hs;exact cT hs
  | true=>
   rw[q2,if_pos rfl]at hs;refine(bh hs).trans (eh ?_);have W:aV (cg iU xM) [ar (iJ i T),y]=aC (.fz (T.map tupI)):=by unfold aV;rw[eM (x:=.tup (T.map tupI)) rfl];exact bW (bf _) (by rw[OC];unfold lim;omega)
   have X:aV (cg jZ xM) [ar (iJ i T),y]=aC (.fz (T.map tupI)):=by unfold aV;rw[eM (x:=.tup (T.map tupI)) rfl];show fW (match rowsOf (T.map tupI)with|some nss=>cA nss|none=>M.fail)=_;rw[eN];show fW (cA T)=_;unfold cA;rw[if_pos ⟨by omega,OT.mpr λt U=>by obtain⟨a,b,rfl,_⟩:=h.el t U;rfl⟩,zJ h.ris];exact bW (bf _) (by rw[OC];unfold lim;omega)
   exact(bX W X).trans (EZ.trans (by rw[OS rfl]))
theorem Ci{R:List (List Int)}:cy [.tup (R.map tupI)]=aC (.bl c_):=by
 refine dM (o:=.ret (.bl c_)) (cT (fK ?_ rfl)) rfl;have Z:cg ef (mV 0) [ar (.tup (R.map tupI)),none]=aC (.int R.length):=(kJ (us:=R.map tupI) rfl).trans (by rw[OC]);refine dY (b:=c_) (c:=b_) rfl λ_=>?_;by_cases c:R.length=2
 ·match R,c with
  |[r,s],_=>
   refine dY (b:=c_) (c:=b_) (dh (x:=.int 2) (y:=.int 2) rfl rfl xV) λ_=>dY (b:=b_) (c:=b_) (not_eq (b:=c_) (ff (kU ((dn (x:=tupI r) rfl).trans (lS rfl))))) λz=>by cases z
 ·refine dY (b:=b_) (c:=b_) (dh Z (y:=.int 2) rfl (xV.trans (by rw[OY (by omega)];rfl))) λz=>by cases z
def E4:cy [.non]=aC (.bl c_):=dM (o:=.ret (.bl c_)) (cT (fK (dY (b:=b_) (c:=b_) rfl λz=>by cases z) rfl)) rfl
end
inductive NmOk:D->Prop
 |row {r:List Int}:0<r.length->r.length<=10->NmOk (tupI r)
 |tup {ds:List D}:(∀x∈ds,Kk x=b_)->intsOf ds=none->ds.length<=10->NmOk (.tup ds)
 |oth {d:D}:tu d=b_->isTup d=c_->NmOk d
def fL:D->Bool
 | .tup ds=>(intsOf ds).isSome
 |_=>c_
theorem Mu(h:NmOk d):ML d:=by
 cases h with
 |row h1 _=>exact⟨rfl,λds e x Z=>by cases e;obtain⟨i,_,rfl⟩:=O0.mp Z;rfl⟩
 |tup h1 _ _=>exact⟨rfl,λds e x Z=>by cases e;exact HV (h1 x Z)⟩
 |oth h1 h2=>exact⟨h1,λds e=>by subst e;cases h2⟩
theorem Kl(h:NmOk d)(Z:fL d=b_):∃r:List Int,d=tupI r/\0<r.length/\r.length<=10:=by
 cases h with
 |row h1 h2=>exact⟨_,rfl,h1,h2⟩
 |tup _ h2 _=>
  have:(intsOf _).isSome=true:=Z;rw[h2]at this;cases this
 |oth h1 h2=>cases d<;>first|cases Z|cases h2
theorem qN:∀{xs:List D},(∀x∈xs,NmOk x)->xs.all fL=b_->∃R:List (List Int),xs=R.map tupI/\∀r∈R,0<r.length/\r.length<=10
 |[],_,_=>⟨[],rfl,λ_ h=>by cases h⟩
 |x::xs,h,ha=>by
  rw[Rr,Po]at ha;obtain⟨r,rfl,Z⟩:=Kl (h x (.head _)) ha.1;obtain⟨R,rfl,X⟩:=qN (λy Y=>h y (.tail _ Y)) ha.2;exact⟨r::R,rfl,λs hs=>by rcases O2.mp hs with rfl|hs;exact Z;exact X s hs⟩
def xX(h:fH m d=b_):fL d=true:=by obtain⟨i,j,rfl,_⟩:=AI h;rfl
def Cj(r:List Int):fL (tupI r)=true:=by show(intsOf (r.map D.int)).isSome=b_;rw[fJ];rfl
section
variable {n:Nat}{E:List (List Int)}{r:Int}{T R:List (List Int)}{xs:List D}
def Ck(n:Nat)(E R:List (List Int)):Bool:=(ee n).all λb=>(ee b).all λa=>tB E (a:Int) (b:Int)==eO (R.getD a []) (R.getD b [])
def E5(n:Nat)(E:List (List Int))(T R:List (List Int)):Bool:=decide (R.length=n) && (decide (b0 R=T) && Ck n E R)
theorem pK:t∈bF n↔∃a b:Nat,t=[(a:Int),(b:Int)]/\a<b/\b<n:=by
 unfold bF kI;rw[SQ];constructor
 ·rintro⟨a,ha,h⟩;obtain⟨b,Z,rfl⟩:=O0.mp h;obtain⟨Y,X⟩:=P6.mp Z;exact⟨a,b,rfl,by omega,by have:=OP.mp ha;omega⟩
 ·rintro⟨a,b,rfl,h1,h2⟩;exact⟨a,OP.mpr (by omega),O0.mpr ⟨b,P6.mpr (by omega),rfl⟩⟩
def pq(E R:List (List Int))(t:List Int):Bool:=tB E (t.getD 0 0) (t.getD 1 0)==eO (R.getD (t.getD 0 0).toNat []) (R.getD (t.getD 1 0).toNat [])
theorem E6:(bF n).all (pq E R)=Ck n E R:=by
 unfold Ck;rw[P1,OT,OT];constructor
 ·intro h b W;refine OT.mpr λa Y=>?_;exact h [(a:Int),(b:Int)] (pK.mpr ⟨a,b,rfl,OP.mp Y,OP.mp W⟩)
 ·intro h t X;obtain⟨a,b,rfl,Z,U⟩:=pK.mp X;exact OT.mp (h b (OP.mpr U)) a (OP.mpr Z)
theorem xY{α:Type}{l:List α}{e:TM}{ρ:aO}{f:α->Bool}(h:e ρ=aC (.fz (l.map λa=>D.bl (f a)))):cg rC e ρ=aC (.bl (l.all f)):=by
 have e1:(l.map λa=>D.bl (f a))=(l.map f).map D.bl:=by rw[Pn];rfl
 rw[e1]at h;refine(eM h).trans (zy.trans ?_);rw[Rj];rfl
def E7{α:Type}(f:α->Bool)(l:List α):bU 0 (l.map λa=>D.bl (f a))=true:=by have:=vM (l.map f);rw[Pn]at this;exact this
def AW(Z:n<=7)(w:WebOk n E):dU [aP n E]=aC .non:=by
 have:cb [aP n E,.int 7]=aC .non:=by rw[xW (by omega) w,if_neg (by omega)]
 exact su (xN (kU ((call2 rfl rfl).trans this))) rfl
theorem xZ(h:∀r∈R,0<r.length)(W:R.length<64){e:TM}(Z:e ρ=aC (.tup (R.map tupI))):aV (cg j8 e) ρ=aC (.fz ((b0 R).map tupI)):=by
 unfold aV;rw[eM Z];show fW (jq (R.map tupI))=_;have:jq (R.map tupI)=bB ((b0 R).map tupI):=by
  cases R with
  |nil=>rfl
  | cons r R=>
   have X:two (r::R)=true:=OT.mpr λx Y=>by have:=h x Y;rw[bne_iff_ne];omega
   show(match rowsOf ((r::R).map tupI)with|some nss=>rR nss|none=>M.fail)=_;rw[eN];exact if_pos ⟨W,X⟩
 rw[this];exact bW (bf _) (by rw[OC,(bu _).length_eq];unfold lim;omega)
theorem AX(h:∀x∈xs,NmOk x)(S:xs.length<=50):eI [iJ r T,.int n,.tup xs]=aC (.bl (decide (xs.length=n) && (xs.all (fH r) && match rowsOf xs with|some R=>decide (b0 R=T)|none=>b_))):=by
 have W:nZ (cM (bV (iV (mV 2) "tuple"))) (gr kd (cg ef (mV 2)) (mV 1)) [ar (iJ r T),ar (.int n),ar (.tup xs)]=aC (!decide (xs.length=n)):=
  dY (b:=c_) (c:= !decide (xs.length=n)) rfl λ_=>dh (x:=.int xs.length) (y:=.int n) (kJ rfl) rfl (xV.trans (by rw[show decide ((xs.length:Int)=(n:Int))=decide (xs.length=n)from Rb.mpr (by omega)]))
 refine dM (o:=.ret (.bl (decide (xs.length=n) && (xs.all (fH r) && match rowsOf xs with|some R=>decide (b0 R=T)|none=>b_)))) ?_ rfl;show jz [ar (iJ r T),ar (.int n),ar (.tup xs)]=_;unfold jz;by_cases c:xs.length=n
 ·rw[OS c,Ph];refine(bh (iw (W.trans (by rw[OS c];rfl)))).trans (eh ?_);have U:=AU (l:=xs) (mk:=id) (f:=λx=>D.bl (fH r x)) (mi:=ez (mV 2)) (g:=gN 0) (t:=jb) (m:=jc) (js:=[none,ar 0]) (ρ:=[ar (iJ r T),ar (.int n),ar (.tup xs)]) (λρ=>∃x,ρ=[x,ar (iJ r T)]) (λ_=>b_) (by rw[RY];rfl) (by unfold lim;omega) ⟨none,rfl⟩ (λx X ρ Y=>by
   obtain⟨y,rfl⟩:=Y;exact⟨[ar x,ar (iJ r T)],rfl,⟨_,rfl⟩,rfl,λ_=>kU ((call2 (x:=.int r) (y:=x) rfl rfl).trans (Es (Mu (h x X))))⟩) (by rw[eL];exact E7 (fH r) xs)
  rw[eL]at U;refine and_eq (b:=xs.all (fH r)) (xY U) (λZ=>?_) (λZ=>by rw[Z,Pe]);obtain⟨R,rfl,Q⟩:=qN h (OT.mpr λx X=>xX (OT.mp Z x X));rw[Z,Ph,eN];rw[OC]at S;have hs:=xZ (λs hs=>(Q s hs).1) (by omega) (e:=mV 2) (ρ:=[ar (iJ r T),ar (.int n),ar (.tup (R.map tupI))]) rfl;exact(bX ((eM hs).trans (lQ (by rw[OC,(bu _).length_eq];unfold lim;omega))) (y:=.tup (T.map tupI)) rfl).trans zI
 ·rw[OY c,Pe];exact cT (fK (W.trans (by rw[OY c];rfl)) rfl)
theorem Cm(Z:tu d=b_)(Y:isTup d=c_):eI [z,.int n,d]=aC (.bl c_):=by refine dM (o:=.ret (.bl c_)) (cT (fK (dY (b:=b_) (c:=b_) (not_eq (b:=c_) (ff ?_)) λz=>by cases z) rfl)) rfl;have:=pJ Z;rw[Y]at this;exact this
end
section
variable {n:Nat}{E:List (List Int)}{r:Int}{T R:List (List Int)}{xs:List D}{d root names:D}
theorem Hl(Y:n<=7)(w:WebOk n E)(h:AF d)(Z:mL d=c_):bA [aP n E,d]=aC (.bl c_):=
 su (o:=.ret (.bl c_)) ((bh (xN (kU ((dn rfl).trans (AW Y w))))).trans (cT (fK (not_eq (b:=c_) (ff (kU ((dn rfl).trans ((pD h).trans (by rw[Z])))))) rfl))) rfl
theorem m7(N:n<=7)(w:WebOk n E)(K:fW (d8 [root])=aC (.bl bw))(C:bw=b_->eI [root,.int n,names]=aC (.bl bn))
  (G:bw=b_->bn=b_->names= .tup (R.map tupI)/\R.length=n/\∀s∈R,∃a b:Int,s=[a,b]/\a<b):bA [aP n E,.tup [root,names]]=aC (.bl (bw && (bn && Ck n E R))):=by
 have O:cM (bV (aV (aA cY (af (mV 1) au)))) [ar (aP n E),ar (.tup [root,names]),none,none,none]=aC false:=not_eq (b:=b_) (ff (kU ((dn rfl).trans (pD rfl))));have Z:cM JU [ar (aP n E),ar (.tup [root,names]),ar (.int n),ar root,ar names]=aC (!bw):=by refine not_eq (ff ?_);unfold aV;rw[dn (x:=root) rfl];exact K
 have P:nZ (cM JU) (cM (bV (aV (aA eI (af (mV 3) GP))))) [ar (aP n E),ar (.tup [root,names]),ar (.int n),ar root,ar names]=aC (!(bw && bn)):=by
  cases bw with
  |false=>exact dY (b:=b_) (c:=b_) Z λz=>by cases z
  |true=>exact dY (b:=c_) (c:= !bn) Z λ_=>not_eq (ff (kU ((EJ rfl rfl rfl).trans (C rfl))))
 refine su (o:=.ret (.bl (bw && (bn && Ck n E R)))) ((bh (xN (kU ((dn rfl).trans (AW N w))))).trans ((bh (iw O)).trans ((bh (ρ':=[ar (aP n E),ar (.tup [root,names]),ar (.int n),none,none]) (pC (x:=.int n) rfl)).trans ((bh (ρ':=[ar (aP n E),ar (.tup [root,names]),ar (.int n),ar root,ar names]) rfl).trans ?_)))) rfl;cases q:bw && bn with
 |false=>
  rw[<-Qv,q,Pe];exact cT (fK (P.trans (by rw[q];rfl)) rfl)
 | true=>
  rw[<-Qv,q,Ph];obtain⟨J,A⟩:=(Po _ _ ▸ q:bw=b_/\bn=b_);obtain⟨rfl,p,F⟩:=G J A;refine(bh (iw (P.trans (by rw[q];rfl)))).trans (eh ?_);have U:∀i:Nat,i<n->∃a b:Int,R.getD i []=[a,b]/\a<b:=λi j=>F _ (getD_in (by omega));have Q:=Mr (l:=bF n) (mk:=tupI) (f:=λt=>D.bl (pq E R t)) (mi:=ez (aV (aA fF (af (mV 2) au)))) (g:=gq 2 (bS (gN 0) (bS (gN 1) gQ))) (t:=ij) (m:=ik) (js:=[none,none,ar 0,ar 4]) (ρ:=[ar (aP n E),ar (.tup [root,.tup (R.map tupI)]),ar (.int n),ar root,ar (.tup (R.map tupI))]) (λρ=>∃x y,ρ=[x,y,ar (aP n E),ar (.tup (R.map tupI))]) (λ_=>b_) (by
   have:aV (aA fF (af (mV 2) au)) [ar (aP n E),ar (.tup [root,.tup (R.map tupI)]),ar (.int n),ar root,ar (.tup (R.map tupI))]=aC (.fz ((bF n).map tupI)):=by unfold aV;rw[dn (x:=.int n) rfl];exact G1 (by omega)
   unfold ez;rw[this];rfl) (OR (sD (by omega)) (by unfold lim;omega)) ⟨none,none,rfl⟩ (λt u ρ X=>by
   obtain⟨x,y,rfl⟩:=X;obtain⟨a,b,rfl,B,W⟩:=pK.mp u;obtain⟨a1,a2,Y,H⟩:=U a (by omega);obtain⟨h,k,S,v⟩:=U b W;refine⟨[ar (.int a),ar (.int b),ar (aP n E),ar (.tup (R.map tupI))],rfl,⟨_,_,rfl⟩,rfl,λ_=>?_⟩;have I:a7 cX (mV 3) (mV 0) [ar (.int a),ar (.int b),ar (aP n E),ar (.tup (R.map tupI))]=aC (tupI (R.getD a [])):=(bX (x:=.tup (R.map tupI)) (y:=.int a) rfl rfl).trans (lR (by omega));have L:a7 cX (mV 3) (mV 1) [ar (.int a),ar (.int b),ar (aP n E),ar (.tup (R.map tupI))]=aC (tupI (R.getD b [])):=(bX (x:=.tup (R.map tupI)) (y:=.int b) rfl rfl).trans (lR (by omega));refine(bX (kU ((EJ rfl rfl rfl).trans Kj)) (kU ((call2 I L).trans (Ki (by rw[Y];show 2<=1000;decide))))).trans (Mp.trans ?_);rw[Y,S,ET H v, <-Y, <-S];rfl) (by rw[eL];exact E7 (pq E R) _)
  rw[eL]at Q;refine(xY Q).trans ?_;rw[E6]
theorem E8(h:AF d)(Z:mL d=c_):dg [aP n E,d]=aC (.bl c_):=by
 refine dM (o:=.ret (.bl c_)) (cT (fK ?_ rfl)) rfl;cases hd:isTup d with
 |false=>
  refine dY (b:=b_) (c:=b_) (not_eq (b:=c_) (ff ?_)) λz=>by cases z
  have:=pJ h;rw[hd]at this;exact this
 | true=>
  cases d with
  |tup ds=>
   refine dY (b:=c_) (c:=b_) rfl λ_=>dY (b:=b_) (c:=b_) (dh (x:=.int ds.length) (y:=.int 2) (kJ rfl) rfl (xV.trans ?_)) λz=>by cases z
   rw[OY];· rfl
   intro e
   match ds,e with
   |[_,_],_=>cases Z
   |[],e=>simp at e
   |[_],e=>simp at e
   |_::_::_::l,e=>simp only[n3]at e;omega
  |_=>cases hd
def gn(n:Nat)(E:List (List Int))(root:D)(xs:List D)(o:List (Option D)):aO:=ar (aP n E)::ar (.tup [root,.tup xs])::ar (.tup xs)::o
theorem Mv(h:NmOk x):cD (gn n E root xs [ar x,x4,x5])=if fL x=b_ then aC (.nx (gn n E root xs [ar x,x4,x5]))else aC (.ret (.bl c_)):=by
 unfold cD;have Z:∀ds:List D,x= .tup ds->(∀y∈ds,Kk y=b_)->ds.length<=10->nZ (cM (bV (iV (mV 3) "tuple"))) LX (gn n E root xs [ar x,x4,x5])=aC (!(ds.filter λd=> !jd d).isEmpty):=λds hd he S=>by
  subst hd;have U:=AU (l:=ds) (mk:=id) (f:=id) (mi:=ez (mV 3)) (g:=gN 0) (t:=f7) (m:=f9) (js:=[none]) (ρ:=gn n E root xs [ar (.tup ds),x4,x5]) (λρ=>∃x,ρ=[x]) (λd=> !jd d) (by rw[RY];rfl) (by unfold lim;omega) ⟨none,rfl⟩ (λy Y ρ X=>by obtain⟨u,rfl⟩:=X;exact⟨[ar y],rfl,⟨_,rfl⟩,not_eq (ff (kU ((dn rfl).trans (lS (HV (he y Y)))))),λ_=>rfl⟩) (by rw[RY];exact HX λy Y=>he y (QQ.mp Y).1)
  rw[RY]at U;exact dY (b:=c_) (c:= !(ds.filter λd=> !jd d).isEmpty) rfl λ_=>dh U (y:=.fz []) (bW (us:=[]) rfl (OX _)) (Hj λy Y=>he y (QQ.mp Y).1)
 cases h with
 |row h1 h2=>
  rename_i r
  rw[if_pos (Cj r)];refine iw ((Z _ rfl (λy Y=>by obtain⟨i,_,rfl⟩:=O0.mp Y;rfl) (by rw[OC];exact h2)).trans ?_);rw[show((r.map D.int).filter λd=> !jd d)=[]from List.filter_eq_nil_iff.mpr λy Y=>by obtain⟨i,_,rfl⟩:=O0.mp Y;exact λz=>by cases z];rfl
 | tup h1 h2 h3=>
  rename_i ds
  have W:fL (.tup ds)=false:=by show(intsOf ds).isSome=c_;rw[h2];rfl
  rw[if_neg (by rw[W];decide)];refine fK ((Z _ rfl h1 h3).trans ?_) rfl;cases q:(ds.filter λd=> !jd d).isEmpty with
  |false=>rfl
  |true=>
   obtain⟨z,rfl⟩:=sN q;rw[fJ]at h2;cases h2
 |oth h1 h2=>
  have W:fL x=false:=by cases x<;>first|rfl|cases h2
  rw[if_neg (by rw[W];decide)];refine fK (dY (b:=b_) (c:=b_) (not_eq (b:=c_) (ff ?_)) λz=>by cases z) rfl;have:=pJ h1;rw[h2]at this;exact this
theorem AY:∀(ys:List D) (x3:Option D),(∀y∈ys,NmOk y)->∃Y,fD ⟨its,.none⟩ (gN 3) cD ys (gn n E root xs [x3,x4,x5])=if ys.all fL=b_ then aC (.nx (gn n E root xs [Y,x4,x5]))else aC (.ret (.bl c_))
 |[],x3,_=>⟨x3,by rw[fB];rfl⟩
 | y::ys,x3,h=>by
  obtain⟨Y,W⟩:=AY (its:=its) ys (ar y) λz X=>h z (.tail _ X);refine⟨Y,?_⟩;have Z:=Mv (n:=n) (E:=E) (root:=root) (xs:=xs) (x4:=x4) (x5:=x5) (h y (.head _));rw[Rr];cases q:fL y with
  |true=>
   rw[q,if_pos rfl]at Z;rw[qM rfl Z,W,Ph]
  |false=>
   rw[q,if_neg (by decide)]at Z;rw[qL rfl Z,Pe,if_neg (by decide)]
theorem Mw(O:R.length=n)(Y:∀s∈R,s.length=2)(Q:a<n)(Z:b<n):dF (gn n E root (R.map tupI) [x3,ar (.int b),ar (.int a)])=if (tB E (a:Int) (b:Int)==eO (R.getD a []) (R.getD b []))=b_ then aC (.nx (gn n E root (R.map tupI) [x3,ar (.int b),ar (.int a)]))else aC (.ret (.bl c_)):=by
 have S:a7 cX (mV 2) (mV 5) (gn n E root (R.map tupI) [x3,ar (.int b),ar (.int a)])=aC (tupI (R.getD a [])):=(bX (x:=.tup (R.map tupI)) (y:=.int a) rfl rfl).trans (lR (by omega));have X:a7 cX (mV 2) (mV 4) (gn n E root (R.map tupI) [x3,ar (.int b),ar (.int a)])=aC (tupI (R.getD b [])):=(bX (x:=.tup (R.map tupI)) (y:=.int b) rfl rfl).trans (lR (by omega));have N:=Y _ (getD_in (E:=R) (a:=a) (by omega));have P:=Y _ (getD_in (E:=R) (a:=b) (by omega));have W:aV GN (gn n E root (R.map tupI) [x3,ar (.int b),ar (.int a)])=aC (.tup ((R.getD a []++R.getD b []).map D.int)):=by refine kU ((bX S X).trans ?_);show bj ((R.getD a []).map D.int++(R.getD b []).map D.int)=_;rw[<-PX];unfold bj;exact if_pos (by rw[OC,OG];unfold lim;omega)
 have U:a7 rp (cg fU (aV GN)) (mK (.int 4)) (gn n E root (R.map tupI) [x3,ar (.int b),ar (.int a)])=aC (.bl (eO (R.getD a []) (R.getD b []))):=by
  have:fU [.tup ((R.getD a []++R.getD b []).map D.int)]=aC (.int (distinct (R.getD a []++R.getD b [])).length):=by unfold fU;dsimp only;rw[fJ];exact if_pos (by rw[OG];omega)
  refine(bX ((eM W).trans this) (y:=.int 4) rfl).trans ?_;show aC (D.bl (decide (((distinct (R.getD a []++R.getD b [])).length:Int)<4)))=_;unfold eO;rw[show decide (((distinct (R.getD a []++R.getD b [])).length:Int)<4)=decide ((distinct (R.getD a []++R.getD b [])).length<4)from Rb.mpr (by omega)]
 have Z:gr kd (a7 rp (cg fU (aV GN)) (mK (.int 4))) (aV (aA gY (af (mV 0) (af (mV 5) (af (mV 4) au))))) (gn n E root (R.map tupI) [x3,ar (.int b),ar (.int a)])=aC (eO (R.getD a []) (R.getD b []) !=tB E (a:Int) (b:Int)):=dh U (kU ((EJ rfl rfl rfl).trans Hf)) Mq;unfold dF;cases q1:tB E (a:Int) (b:Int)<;>cases q2:eO (R.getD a []) (R.getD b [])
 ·rw[if_pos (by decide:(c_==c_)=b_)];exact iw (Z.trans (by rw[q1,q2];rfl))
 ·rw[if_neg (by decide)];exact fK (Z.trans (by rw[q1,q2];rfl)) rfl
 ·rw[if_neg (by decide)];exact fK (Z.trans (by rw[q1,q2];rfl)) rfl
 ·rw[if_pos (by decide:(b_==b_)=b_)];exact iw (Z.trans (by rw[q1,q2];rfl))
theorem AZ(W:R.length=n)(X:∀s∈R,s.length=2)(U:b<n):∀(post:List Nat) (x5:Option D),(∀a∈post,a<n)->∃Y,fD ⟨its,.none⟩ (gN 5) dF (post.map λi:Nat=>D.int (i:Int)) (gn n E root (R.map tupI) [x3,ar (.int b),x5])=if (post.all λa=>tB E (a:Int) (b:Int)==eO (R.getD a []) (R.getD b []))=b_ then aC (.nx (gn n E root (R.map tupI) [x3,ar (.int b),Y]))else aC (.ret (.bl c_))
 |[],x5,_=>⟨x5,by rw[Qj,fB];rfl⟩
 | a::post,x5,h=>by
  obtain⟨Y,Q⟩:=AZ (its:=its) (x3:=x3) W X U post (ar (.int a)) λz S=>h z (.tail _ S);refine⟨Y,?_⟩;have Z:=Mw (E:=E) (root:=root) (x3:=x3) W X (h a (.head _)) U;rw[Rr,OW];cases q:(tB E (a:Int) (b:Int)==eO (R.getD a []) (R.getD b []))with
  |true=>
   rw[q,if_pos rfl]at Z;rw[qM rfl Z,Q,Ph]
  |false=>
   rw[q,if_neg (by decide)]at Z;rw[qL rfl Z,Pe,if_neg (by decide)]
theorem A0(P:n<=7)(U:R.length=n)(S:∀s∈R,s.length=2):∀(post:List Nat) (x4 x5:Option D),(∀b∈post,b<n)->∃Y X,fD ⟨its,.none⟩ (gN 4) cF (post.map λi:Nat=>D.int (i:Int)) (gn n E root (R.map tupI) [x3,x4,x5])=if (post.all λb=>(ee b).all λa=>tB E (a:Int) (b:Int)==eO (R.getD a []) (R.getD b []))=b_ then aC (.nx (gn n E root (R.map tupI) [x3,Y,X]))else aC (.ret (.bl c_))
 |[],x4,x5,_=>⟨x4,x5,by rw[Qj,fB];rfl⟩
 | b::post,x4,x5,h=>by
  have L:=h b (.head _);obtain⟨W,K⟩:=AZ (its:=(ee b).map λi:Nat=>D.int (i:Int)) (E:=E) (root:=root) (x3:=x3) U S L (ee b) x5 λa N=>by have:=OP.mp N;omega
  have Z:cF (gn n E root (R.map tupI) [x3,ar (.int b),x5])=if ((ee b).all λa=>tB E (a:Int) (b:Int)==eO (R.getD a []) (R.getD b []))=b_ then aC (.nx (gn n E root (R.map tupI) [x3,ar (.int b),W]))else aC (.ret (.bl c_)):=by unfold cF jj;rw[Hg (n:=b) rfl (by omega),aj];exact K
  obtain⟨Y,X,O⟩:=A0 (its:=its) (x3:=x3) P U S post (ar (.int b)) W λz Q=>h z (.tail _ Q);refine⟨Y,X,?_⟩;rw[Rr,OW];cases q:((ee b).all λa=>tB E (a:Int) (b:Int)==eO (R.getD a []) (R.getD b []))with
  |true=>
   rw[q,if_pos rfl]at Z;rw[qM rfl Z,O,Ph]
  |false=>
   rw[q,if_neg (by decide)]at Z;rw[qL rfl Z,Pe,if_neg (by decide)]
end
section
variable {n:Nat}{E:List (List Int)}{i:Int}{T R:List (List Int)}{xs:List D}{d root names:D}
theorem uN(X:cy [root]=aC (.bl bw))(Y:wY (λt=>ku t "tuple") names=aC (.bl bt)):nZ GJ LY [ar (aP n E),ar (.tup [root,names]),none,none,none,none]=aC (!(bw && bt)):=by
 refine dY (b:=c_) (c:= !(bw && bt)) rfl λ_=>dY (b:=c_) (c:= !(bw && bt)) (dh (x:=.int 2) (y:=.int 2) rfl rfl xV) λ_=>?_;have Z:cM (bV (aV (aA cy (af GI au)))) [ar (aP n E),ar (.tup [root,names]),none,none,none,none]=aC (!bw):=not_eq (ff (kU ((dn (x:=root) rfl).trans X)));cases bw with
 |false=>exact dY (b:=b_) (c:=b_) Z λz=>by cases z
 |true=>exact dY (b:=c_) (c:= !bt) Z λ_=>not_eq (ff Y)
theorem oy(Y:cy [root]=aC (.bl bw))(Z:wY (λt=>ku t "tuple") names=aC (.bl bt))(h:(bw && bt)=c_):dg [aP n E,.tup [root,names]]=aC (.bl c_):=
 dM (o:=.ret (.bl c_)) (cT (fK ((uN Y Z).trans (by rw[h];rfl)) rfl)) rfl
theorem Cn(Q:n<=7)(W:RowsOk T)(P:gj (iJ i T)=b_)(h:∀x∈xs,NmOk x)(J:xs.length<=50):dg [aP n E,.tup [iJ i T,.tup xs]]=aC (.bl (xs.all fL && E5 n E T ((rowsOf xs).getD []))):=by
 have h0:=uN (n:=n) (E:=E) (root:=iJ i T) (names:=.tup xs) (bw:=b_) (bt:=b_) ((zM W).trans (by rw[P])) rfl;refine dM (o:=.ret (.bl (xs.all fL && E5 n E T ((rowsOf xs).getD [])))) ?_ rfl;show gf [ar (aP n E),ar (.tup [iJ i T,.tup xs]),none,none,none,none]=_;unfold gf;obtain⟨Z,O⟩:=AY (n:=n) (E:=E) (root:=iJ i T) (xs:=xs) (its:=xs) (x4:=none) (x5:=none) xs none h;have s3:jj (ez (mV 2)) (gN 3) cD (gn n E (iJ i T) xs [none,none,none])=if xs.all fL=b_ then aC (.nx (gn n E (iJ i T) xs [Z,none,none]))else aC (.ret (.bl c_)):=by rw[<-O];rfl
 refine(bh (iw h0)).trans ((bh (ρ':=gn n E (iJ i T) xs [none,none,none]) (pC (x:=.tup xs) rfl)).trans ?_);cases q:xs.all fL with
 |false=>
  rw[q,if_neg (by decide)]at s3;rw[Pe];exact cT s3
 | true=>
  rw[q,if_pos rfl]at s3;obtain⟨R,rfl,N⟩:=qN h q;rw[eN,Ph];rw[OC]at J;refine(bh s3).trans ?_;have hlen:cg ef (mV 2) (gn n E (iJ i T) (R.map tupI) [Z,none,none])=aC (.int R.length):=(kJ (us:=R.map tupI) rfl).trans (by rw[OC]);have hs:=xZ (λs hs=>(N s hs).1) (by omega) (e:=mV 2) (ρ:=gn n E (iJ i T) (R.map tupI) [Z,none,none]) rfl;have hf:=W.few;have U:aV (cg iU (a7 cX GI (mK (.int 1)))) (gn n E (iJ i T) (R.map tupI) [Z,none,none])=aC (.fz (T.map tupI)):=by unfold aV;rw[eM (x:=.tup (T.map tupI)) rfl];exact bW (bf _) (by rw[OC];unfold lim;omega)
  have X:nZ (gr kd (cg ef (mV 2)) En) LZ (gn n E (iJ i T) (R.map tupI) [Z,none,none])=aC (!(decide (R.length=n) && decide (b0 R=T))):=by
   have Y:gr kd (cg ef (mV 2)) En (gn n E (iJ i T) (R.map tupI) [Z,none,none])=aC (!decide (R.length=n)):=dh hlen (y:=.int n) rfl (xV.trans (by rw[show decide ((R.length:Int)=(n:Int))=decide (R.length=n)from Rb.mpr (by omega)]));by_cases c:R.length=n
   ·rw[OS c]at Y⊢;exact dY (b:=c_) (c:= !decide (b0 R=T)) Y λ_=>dh hs U E1
   ·rw[OY c]at Y⊢;exact dY (b:=b_) (c:=b_) Y λz=>by cases z
  show _=(aC (Out.ret (.bl (decide (R.length=n) && (decide (b0 R=T) && Ck n E R)))):M Out);cases q2:decide (R.length=n) && decide (b0 R=T)with
  |false=>
   rw[<-Qv,q2,Pe];exact cT (fK (X.trans (by rw[q2];rfl)) rfl)
  | true=>
   rw[<-Qv,q2,Ph];rw[Po,PJ,PJ]at q2;have L:∀s∈R,s.length=2:=λs hs=>by obtain⟨a,b,rfl,_⟩:=W.el s (by rw[<-q2.2];exact(bu R).mem_iff.mpr hs);rfl
   obtain⟨S,I,K⟩:=A0 (its:=(ee n).map λi:Nat=>D.int (i:Int)) (E:=E) (root:=iJ i T) (x3:=Z) Q q2.1 L (ee n) none none λb X=>OP.mp X;refine(bh (iw (X.trans (by rw[q2.1,OS rfl,OS q2.2];rfl)))).trans ?_;have s5:jj (qi En) (gN 4) cF (gn n E (iJ i T) (R.map tupI) [Z,none,none])=if Ck n E R=b_ then aC (.nx (gn n E (iJ i T) (R.map tupI) [Z,S,I]))else aC (.ret (.bl c_)):=by unfold jj;rw[Hg (n:=n) rfl (by omega),aj];exact K
   cases q3:Ck n E R with
   |true=>
    rw[q3,if_pos rfl]at s5;exact(bh s5).trans (eh rfl)
   |false=>
    rw[q3,if_neg (by decide)]at s5;exact cT s5
theorem Mx:JY (iJ i T):=by
 refine⟨rfl,?_⟩;intro ds e x Z;cases e;simp only[gc,f_,or_false]at Z;rcases Z with rfl|rfl
 ·exact⟨rfl,λY e=>by cases e⟩
 ·refine⟨rfl,λY e t X=>?_⟩;cases e;obtain⟨r,_,rfl⟩:=O0.mp X;refine⟨rfl,λds e x Z=>?_⟩;cases e;obtain⟨i,_,rfl⟩:=O0.mp Z;exact rfl
def vX(Z:RowsOk T):fW (d8 [iJ i T])=aC (.bl (gj (iJ i T))):=ED Mx λm Y e=>by cases e;have:=Z.few;rw[OC];omega
def Hm:JY (.tup (R.map tupI)):=by refine⟨rfl,?_⟩;intro ds e x Z;cases e;obtain⟨r,_,rfl⟩:=O0.mp Z;refine⟨rfl,λX e t Y=>?_⟩;cases e;obtain⟨j,_,rfl⟩:=O0.mp Y;exact⟨rfl,λds e=>by cases e⟩
theorem E9(Z:∀r∈R,r.length<=1000):fW (d8 [.tup (R.map tupI)])=aC (.bl c_):=by
 have Y:gj (.tup (R.map tupI))=false:=by
  match R with
  |[]=>rfl
  |[_]=>rfl
  |[_,_]=>rfl
  |_::_::_::_=>rfl
 rw[ED Hm λm X e=>?_,Y];have e:=D.tup.inj e
 match R,Z,e with
 |[a,b],Z,e=>
  have e2:=D.tup.inj (Qe (Qe e).2).1;rw[<-e2,OC];exact Z b (.tail _ (.head _))
def Hn:fW (d8 [.non])=aC (.bl c_):=by rw[ED ⟨rfl,λds e=>by cases e⟩ λm Z e=>by cases e];rfl
inductive Thg:D->Prop
 |np {d:D}:AF d->mL d=c_->Thg d
 |rows {R:List (List Int)} {x:D}:(∀r∈R,r.length<=1000)->tu x=b_->Thg (.tup [.tup (R.map tupI),x])
 |non {x:D}:tu x=b_->Thg (.tup [.non,x])
 |oth {i:Int} {T:List (List Int)} {x:D}:RowsOk T->tu x=b_->isTup x=c_->Thg (.tup [iJ i T,x])
 |web {i:Int} {T:List (List Int)} {xs:List D}:RowsOk T->(∀x∈xs,NmOk x)->xs.length<=50->Thg (.tup [iJ i T,.tup xs])
theorem both(Y:n<=7)(w:WebOk n E)(h:Thg d):∃b,bA [aP n E,d]=aC (.bl b)/\dg [aP n E,d]=aC (.bl b):=by
 cases h with
 |np h1 h2=>exact⟨c_,Hl Y w h1 h2,E8 h1 h2⟩
 |rows h1 h2=>exact⟨c_,m7 (bn:=c_) (R:=[]) Y w (E9 h1) (λz=>by cases z) (λz=>by cases z),oy Ci (pJ h2) rfl⟩
 |non h2=>exact⟨c_,m7 (bn:=c_) (R:=[]) Y w Hn (λz=>by cases z) (λz=>by cases z),oy E4 (pJ h2) rfl⟩
 |oth h1 h2 h3=>
  refine⟨c_,(m7 (bn:=c_) (R:=[]) Y w (vX h1) (λ_=>Cm h2 h3) (λ_ z=>by cases z)).trans (by rw[Pe,Qk]),oy (zM h1) (pJ h2) (by rw[h3,Qk])⟩
 | web h1 h2 h3=>
  rename_i i T xs
  have Z:=AX (r:=i) (T:=T) (n:=n) h2 h3;cases hw:gj (iJ i T)with
  |false=>
   have:=vX (i:=i) h1;rw[hw]at this;exact⟨c_,m7 (bn:=c_) (R:=[]) Y w this (λz=>by cases z) (λz=>by cases z),oy ((zM h1).trans (by rw[hw])) rfl rfl⟩
  | true=>
   have X:=vX (i:=i) h1;rw[hw]at X;refine⟨xs.all fL && E5 n E T ((rowsOf xs).getD []),?_,Cn Y h1 hw h2 h3⟩;cases q:xs.all fL with
   | false=>
    have P:xs.all (fH i)=false:=by
     cases q2:xs.all (fH i)with
     |false=>rfl
     |true=>
      rw[OT.mpr λx N=>xX (OT.mp q2 x N)]at q;cases q
    rw[P,Pe,Qk]at Z;rw[Pe];exact m7 (bn:=c_) (R:=[]) Y w X (λ_=>Z) (λ_ z=>by cases z)
   | true=>
    obtain⟨R,rfl,L⟩:=qN h2 q;rw[eN]at Z⊢;dsimp only at Z;have tt:b0 R=T->(R.map tupI).all (fH i)=true:=λe=>by have W:(decide (0<=i) && (decide (i<=14) && ((T.map tupI).all (fH i) && qm (T.map tupI))))=true:=hw;simp only[hO]at W;rw[Rj,OT]at W⊢;exact λs hs=>W.2.2.1 s (by rw[<-e];exact(bu R).mem_iff.mpr hs)
    refine(m7 (R:=R) Y w X (λ_=>Z) λ_ Q=>?_).trans ?_
    ·simp only[hO,decide_eq_true_eq]at Q;obtain⟨S,K,O⟩:=Q;rw[OC]at S;refine⟨rfl,S,λs hs=>?_⟩;obtain⟨a,b,rfl,_,U⟩:=h1.el s (by rw[<-O];exact(bu R).mem_iff.mpr hs);exact⟨a,b,rfl,U⟩
    ·rw[OC,Ph,Ph];show _=aC (D.bl (decide (R.length=n) && (decide (b0 R=T) && Ck n E R)));by_cases c:b0 R=T
     ·rw[OS c,tt c,Ph,Ph,Bool.and_true]
     ·rw[OY c,Qk,Qk,Pe,Qk]
end
section
variable {n:Nat}{E:List (List Int)}
def Ho{s t:List Int}(hs:s.length=2)(Z:t.length=2):fU [.tup ((s++t).map D.int)]=aC (.int (distinct (s++t)).length):=by unfold fU;dsimp only;rw[fJ];exact if_pos (by rw[OG];omega)
theorem Fb{S:aE}{xs ys:List D}(Z:xs.length+ys.length<=10000):ky (.lst S.length) [.fz ys] (S++[xs])=ar (.ok .non,S++[xs++ys]):=by show(getL S.length>>=λxs=>kQ S.length (xs++ys)) (S++[xs])=_;rw[aH (dj (bI (S:=S) (xs:=xs))),jC (by rw[OG];unfold lim;omega) (by simp)];rw[Qa _ _ (OF _),R6];rfl
theorem Km(J:E.length<=21)(R:∀t∈E,t.length=2):fW (gX [aP n E])=aC (aP E.length (gm E)):=by
 refine HL je λS=>?_;have hlen:∀{w x y},cg ef (mV 1) [w,ar (.tup (E.map tupI)),x,y]=aC (.int E.length):=λ{w x y}=>(kJ rfl).trans (by rw[OC]);have Z:∀a,(tN E a).length<=21:=λa=>by unfold tN;rw[OC];exact OR (Qu _ _) (by rw[QP];omega)
 obtain⟨ρ',⟨x3,rfl⟩,Y⟩:=forA (α:=Nat) (mk:=λi:Nat=>D.int (i:Int)) (f:=λa=>(tN E a).map tupI) (g:=gN 3) (b:=i8) (its:=(ee E.length).map λi:Nat=>D.int (i:Int)) (S:=S) 21
  (λρ=>∃x,ρ=[ar (aP n E),ar (.tup (E.map tupI)),ar (.lst S.length),x]) (ee E.length) [] [ar (aP n E),ar (.tup (E.map tupI)),ar (.lst S.length),none] ⟨none,rfl⟩ (by show 0+_<=1000;rw[Pi];omega)
  (λa X=>⟨by rw[OC];exact Z a,λρ xs ⟨x,hρ⟩ hl=>by
   subst hρ;have X:=OP.mp X;refine⟨[ar (aP n E),ar (.tup (E.map tupI)),ar (.lst S.length),ar (.int a)],_,rfl,⟨ar (.int a),rfl⟩,?_⟩;have L:yu (a7 bP (mV 3) (mK (.int 1))) (cg ef (mV 1)) [ar (aP n E),ar (.tup (E.map tupI)),ar (.lst S.length),ar (.int a)]=aC ⟨(lN (a+1) (E.length - (a+1))).map λb:Nat=>.int (b:Int),.none⟩:=by rw[vL (x:=.int ((a:Int)+1)) (y:=.int E.length) rfl hlen,GU (by omega),vU]
   have T:=AU (α:=Nat) (l:=lN (a+1) (E.length - (a+1))) (f:=λb:Nat=>tupI [(a:Int),(b:Int)]) (g:=gN 0) (t:=i6) (m:=i7) (js:=[none,ar 1,ar 3]) (λρ=>∃x,ρ=[x,ar (.tup (E.map tupI)),ar (.int a)]) (λb=>eO (E.getD a []) (E.getD b [])) L (by rw[QP];unfold lim;omega) ⟨none,rfl⟩
    (λb W ρ ⟨x,hρ⟩=>by
     subst hρ;have W:b<E.length:=by have:=P6.mp W;omega
     refine⟨[ar (.int b),ar (.tup (E.map tupI)),ar (.int a)],rfl,⟨_,rfl⟩,?_,λ_=>rfl⟩;have K:a7 cX (mV 1) (mV 2) [ar (.int b),ar (.tup (E.map tupI)),ar (.int a)]=aC (tupI (E.getD a [])):=(bX (x:=.tup (E.map tupI)) (y:=.int a) rfl rfl).trans (lR X);have P:a7 cX (mV 1) (mV 0) [ar (.int b),ar (.tup (E.map tupI)),ar (.int a)]=aC (tupI (E.getD b [])):=(bX (x:=.tup (E.map tupI)) (y:=.int b) rfl rfl).trans (lR W);have N:=R _ (getD_in X);have Q:=R _ (getD_in W);have O:aV (a7 bP (a7 cX (mV 1) (mV 2)) (a7 cX (mV 1) (mV 0))) [ar (.int b),ar (.tup (E.map tupI)),ar (.int a)]=aC (.tup ((E.getD a []++E.getD b []).map D.int)):=by refine kU ((bX K P).trans ?_);show bj ((E.getD a []).map D.int++(E.getD b []).map D.int)=_;rw[<-PX];unfold bj;exact if_pos (by rw[OC,OG];unfold lim;omega)
     refine dh ((eM O).trans (Ho N Q)) (y:=.int 4) rfl ?_;show aC (D.bl (decide (((distinct (E.getD a []++E.getD b [])).length:Int)<4)))=_;unfold eO;congr 2;exact Rb.mpr (by omega))
    (by have:=bf (((lN (a+1) (E.length - (a+1))).filter λb=>eO (E.getD a []) (E.getD b [])).map λb:Nat=>[(a:Int),(b:Int)]);rw[Pn]at this;exact this)
   have e:((lN (a+1) (E.length - (a+1))).filter λb=>eO (E.getD a []) (E.getD b [])).map (λb:Nat=>tupI [(a:Int),(b:Int)])=(tN E a).map tupI:=by unfold tN;rw[Pn];rfl
   rw[e]at T;refine sv (x:=.non) ((sG (x:=.lst S.length) rfl rfl (O4 T _)).trans (Fb ?_));rw[OC];have:=Z a;omega⟩)
 have e:(ee E.length).flatMap (λa=>(tN E a).map tupI)=(gm E).map tupI:=by unfold gm;rw[List.map_flatMap]
 rw[e]at Y;have U:((gm E).map tupI).length<=lim:=by
  have key:∀l:List Nat,(l.flatMap (tN E)).length<=l.length*21:=λl=>by
   induction l with
   |nil=>exact OF 0
   |cons x l ih=>rw[QZ,OG,O9,QT];have:=Z x;omega
  have:=key (ee E.length);rw[Pi]at this;rw[OC];unfold gm lim;omega
 refine⟨_,S++[[]++(gm E).map tupI],fG (o:=.ret (aP E.length (gm E))) ?_ rfl,rfl,_,rfl⟩;refine(O4 (bh (pC (x:=.tup (E.map tupI)) rfl)) S).trans ((aS (bN (jM (ys:=[]) (S1:=S) rfl (OX _)))).trans ((aS (sx (Hg hlen (by omega)) Y)).trans (gC ?_)));exact vN (O4 hlen _) ((uE (x:=.lst S.length) rfl).trans (xU U))
theorem sO:t∈gm E↔∃i j:Nat,t=[(i:Int),(j:Int)]/\i<j/\j<E.length/\eO (E.getD i []) (E.getD j [])=true:=by
 unfold gm tN;rw[SQ];constructor
 ·rintro⟨i,hi,h⟩;obtain⟨j,W,rfl⟩:=O0.mp h;obtain⟨Y,X⟩:=QQ.mp W;obtain⟨Z,U⟩:=P6.mp Y;exact⟨i,j,rfl,by omega,by omega,X⟩
 ·rintro⟨i,j,rfl,Y,X,Z⟩;exact⟨i,OP.mpr (by omega),O0.mpr ⟨j,QQ.mpr ⟨P6.mpr (by omega),Z⟩,rfl⟩⟩
def mM:mZ p [a,b]=b_↔p=a\/p=b:=by rw[Hi,O2,QO]
theorem oz(w:WebOk n E)(hs:s∈E)(Y:t∈E):eO s t=b_↔∃p:Int,mZ p s=b_/\mZ p t=true:=by
 obtain⟨a,b,rfl,_,Z,_⟩:=w.el s hs;obtain⟨c,d,rfl,_,X,_⟩:=w.el t Y;rw[xT Z X,PJ];constructor
 ·rintro(h|h|h|h)
  ·exact⟨a,mM.mpr (.inl rfl),mM.mpr (.inl h)⟩
  ·exact⟨a,mM.mpr (.inl rfl),mM.mpr (.inr h)⟩
  ·exact⟨b,mM.mpr (.inr rfl),mM.mpr (.inl h)⟩
  ·exact⟨b,mM.mpr (.inr rfl),mM.mpr (.inr h)⟩
 ·rintro⟨p,h3,h4⟩;rcases mM.mp h3 with e|e<;>rcases mM.mp h4 with f|f
  ·exact .inl (e ▸ f)
  ·exact .inr (.inl (e ▸ f))
  ·exact .inr (.inr (.inl (e ▸ f)))
  ·exact .inr (.inr (.inr (e ▸ f)))
def Kn(w:WebOk n E):E.Nodup:=w.ris.imp λ{a b} h e=>by subst e;rw[kD]at h;cases h
def getD_at{z:List Int}(h:a<z.length):z.getD a 0=z[a]:=by rw[OM,OH h];rfl
def oA{E:List (List Int)}(h:a<E.length):E.getD a []=E[a]:=by rw[OM,OH h];rfl
end
section
variable {T:List (List Int)}{zs:List Int}{m:Nat}
def tO(T:List (List Int))(zs:List Int)(xs:List D)(l:List Nat):List D:=l.foldl (λxs i=>xs.set (zs.getD i 0).toNat (tupI (T.getD i []))) xs
def ya:tO T zs xs (l++[i])=(tO T zs xs l).set (zs.getD i 0).toNat (tupI (T.getD i [])):=by unfold tO;rw[List.foldl_append];rfl
theorem vY:∀l:List Nat,(tO T zs xs l).length=xs.length:=λl=>by
 unfold tO
 induction l generalizing xs with
 |nil=>rfl
 |cons i l ih=>rw[SR,ih,PV]
theorem Fc{xs:List D}(Z:zs.Perm (dN m))(Y:xs.length=m):∀k,k<=m->∀i,i<k->(tO T zs xs (ee k))[(zs.getD i 0).toNat]? =ar (tupI (T.getD i []))
 |0,_,i,h=>by omega
 | k+1,hk,i,hi=>by
  have pi:=mr Z (i:=i) (by omega);have X:=mr Z (i:=k) (by omega);rw[SX,ya];by_cases c:i=k
  ·subst c;rw[Pb];rw[vY,Y];omega
  ·rw[Pu]
   ·exact Fc Z Y k (by omega) i (by omega)
   ·intro e;exact c (gk Z (by omega) (by omega) (by omega))
def jl(T:List (List Int))(zs:List Int):List (List Int):=(ee T.length).map λa:Nat=>T.getD (zs.idxOf (a:Int)) []
def zN(Z:zs.Perm (dN m)):zs.length=m:=by rw[Z.length_eq];unfold dN;rw[OC,Pi]
def Ko(Y:zs.Perm (dN m))(Z:a<m):(a:Int)∈zs:=Y.mem_iff.mpr (O0.mpr ⟨a,OP.mpr Z,by omega⟩)
theorem m9(Y:zs.Perm (dN m))(X:a<m):zs.idxOf (a:Int)<m/\zs.getD (zs.idxOf (a:Int)) 0=(a:Int):=by have Z:=List.idxOf_lt_length_of_mem (Ko Y X);exact⟨by rw[zN Y]at Z;exact Z,by rw[getD_at Z];exact List.getElem_idxOf Z⟩
theorem qD{xs:List D}(Z:zs.Perm (dN T.length))(Y:xs.length=T.length):tO T zs xs (ee T.length)=(jl T zs).map tupI:=by
 refine QX λa=>?_;by_cases ha:a<T.length
 ·obtain⟨X,W⟩:=m9 Z ha;have:=Fc (T:=T) Z Y T.length (OF _) _ X;rw[W]at this;rw[show((a:Int).toNat)=a from rfl]at this;rw[this];unfold jl;rw[Pn,O1,QC ha];rfl
 ·rw[Pq (by rw[vY,Y];omega),Pq (by unfold jl;rw[OC,OC,Pi];omega)]
def vZ:(jl T zs).length=T.length:=by unfold jl;rw[OC,Pi]
def A1(Z:a<T.length):(jl T zs).getD a []=T.getD (zs.idxOf (a:Int)) []:=by rw[oA (by rw[vZ];exact Z)];unfold jl;rw[SM,List.getElem_range]
theorem Fd{n:Nat}(Z:zs.Perm (dN T.length))(w:WebOk n T):(jl T zs).Perm T:=by
 have W:=Kn w;have inj:∀{i j:Nat},i<T.length->j<T.length->T.getD i []=T.getD j []->i=j:=λ{i j} Y hj h=>by rw[oA Y,oA hj]at h;exact(SH W).mp h
 refine(Q2 ?_ W).mpr λt=>⟨λh=>?_,λh=>?_⟩
 ·unfold jl;refine List.pairwise_map.mpr (Su (λ{a b} X hb hne e=>hne ?_) List.nodup_range);obtain⟨a1,a2⟩:=m9 Z (OP.mp X);obtain⟨Q,R⟩:=m9 Z (OP.mp hb);have:=inj a1 Q e;rw[this,R]at a2;omega
 ·obtain⟨a,X,rfl⟩:=O0.mp h;exact getD_in (m9 Z (OP.mp X)).1
 ·obtain⟨i,Y,rfl⟩:=RP.mp h;have pi:=mr Z (i:=i) Y;refine O0.mpr ⟨(zs.getD i 0).toNat,OP.mpr (by omega),?_⟩;obtain⟨U,S⟩:=m9 Z (a:=(zs.getD i 0).toNat) (by omega);have:zs.idxOf (((zs.getD i 0).toNat:Nat):Int)=i:=gk Z U Y (by rw[S];omega);rw[this,oA Y]
theorem Kq{n:Nat}(X:zs.Perm (dN T.length))(w:WebOk n T):Ck T.length (b0 ((gm T).map (zH zs))) (jl T zs)=true:=by
 unfold Ck;refine OT.mpr λb L=>OT.mpr λa I=>?_;have L:=OP.mp L;have I:=OP.mp I;have P:a<T.length:=by omega
 obtain⟨a1,a2⟩:=m9 X P;obtain⟨W,R⟩:=m9 X L;rw[A1 P,A1 L,S9,Ms (by omega),P1,PJ,(bu _).mem_iff,O0,oz w (getD_in a1) (getD_in W)];constructor
 ·rintro⟨t,ht,e⟩;obtain⟨p,q,rfl,pq,N,hm⟩:=sO.mp ht;have O:p<T.length:=by omega
  obtain⟨x,Q,S⟩:=(oz w (getD_in O) (getD_in N)).mp hm;have pm:([zs.getD p 0,zs.getD q 0]:List Int).Perm [(a:Int),(b:Int)]:=by rw[<-e];exact(sortI_perm _).symm
  have Y:zs.getD p 0∈([(a:Int),(b:Int)]:List Int):=pm.mem_iff.mp (.head _);have Z:zs.getD q 0∈([(a:Int),(b:Int)]:List Int):=pm.mem_iff.mp (.tail _ (.head _));have ne:zs.getD p 0≠zs.getD q 0:=λz=>by have:=gk X O N z;omega
  simp only[gc,f_,or_false]at Y Z;rcases Y with Y|Y<;>rcases Z with Z|Z
  ·exact absurd (Y.trans Z.symm) ne
  ·have e1:=gk X O a1 (Y.trans a2.symm);have e2:=gk X N W (Z.trans R.symm);rw[<-e1, <-e2];exact⟨x,Q,S⟩
  ·have e1:=gk X O W (Y.trans R.symm);have e2:=gk X N a1 (Z.trans a2.symm);rw[<-e1, <-e2];exact⟨x,S,Q⟩
  ·exact absurd (Y.trans Z.symm) ne
 ·rintro⟨x,Q,S⟩;have K:zs.idxOf (a:Int)≠zs.idxOf (b:Int):=λz=>by rw[z,R]at a2;omega
  have J:∀{u v:Int},u<v->sortI [u,v]=[u,v]:=λ{u v} h=>by show insI u [v]=_;unfold insI;exact if_pos (by omega)
  have U:∀{u v:Int},u<v->sortI [v,u]=[u,v]:=λ{u v} h=>by show insI v [u]=_;unfold insI;exact if_neg (by omega)
  rcases Nat.lt_or_gt_of_ne K with c|c
  ·refine⟨[((zs.idxOf (a:Int):Nat):Int),((zs.idxOf (b:Int):Nat):Int)],sO.mpr ⟨_,_,rfl,c,W,(oz w (getD_in a1) (getD_in W)).mpr ⟨x,Q,S⟩⟩,?_⟩;show sortI [zs.getD (zs.idxOf (a:Int)) 0,zs.getD (zs.idxOf (b:Int)) 0]=_;rw[a2,R];exact J (by omega)
  ·refine⟨[((zs.idxOf (b:Int):Nat):Int),((zs.idxOf (a:Int):Nat):Int)],sO.mpr ⟨_,_,rfl,c,a1,(oz w (getD_in W) (getD_in a1)).mpr ⟨x,S,Q⟩⟩,?_⟩;show sortI [zs.getD (zs.idxOf (b:Int)) 0,zs.getD (zs.idxOf (a:Int)) 0]=_;rw[a2,R];exact U (by omega)
end
section
variable {S:aE}{k:Nat}
def Co:bj [x,y]=aC (.tup [x,y]):=by unfold bj;exact if_pos mF
theorem NQ{e1 e2:TM}{ρ:aO}{m:Nat}{T:List (List Int)}(Z:e1 ρ=aC (.int m))(Y:e2 ρ=aC (.tup (T.map tupI))):b9 (af e1 (af e2 au)) ρ=aC (aP m T):=by show(af _ _ _>>=bj)=_;rw[aL Z (aL Y (es:=au) rfl),aj];unfold bj;exact if_pos mF
theorem NR{E:List (List Int)}{e:TM}(h:e ρ=aC (.tup (E.map tupI)))(Y:E.length<=100):aV (BH e oN (oS (mK (.int 7)))) ρ=aC (.tup ((E.take 7).map tupI)):=by refine kU ?_;show(e ρ>>=λx=>oN ρ>>=λlo=>oS (mK (.int 7)) ρ>>=λZ=>oR x lo Z)=_;rw[h,aj,show oN ρ=aC none from rfl,aj,show oS (mK (.int 7)) ρ=aC (ar ((7:Nat):Int))from rfl,aj];show bj (S3.cutD (E.map tupI) none (ar ((7:Nat):Int)))=_;rw[J8, <-Sv];unfold bj;rw[if_pos (by rw[OC,Pk];unfold lim;omega)]
theorem Fe{E:List (List Int)}(Z:E.length<=7):WebOk E.length (gm E):=WebOk.of_sub Z (by
 have:=Cf E;rw[RY,SZ]at this;have e:(bF E.length).filter (Of E∘tupI)=gm E:=List.map_inj_right (f:=tupI) (λa b h=>by unfold tupI at h;exact List.map_inj_right (λx y z=>by cases z;rfl) |>.mp (D.tup.inj h)) |>.mp this
 rw[<-e];exact List.filter_sublist)
def mG(k r:Nat)(T:List (List Int))(o:List (Option D)):aO:=ar (.lst k)::ar (aP r T)::ar (aP T.length (gm T))::o
theorem Hq{B:aE}{T:List (List Int)}{zs:List Int}{xs:List D}(Z:zs.Perm (dN T.length))(R:xs.length=T.length)(U:T.length<=7)(Y:i<T.length):eJ (mG k r T [ar (.fz (zs.map D.int)),ar (.lst B.length),ar (.int i)]) (B++[xs])=ar (.ok (.nx (mG k r T [ar (.fz (zs.map D.int)),ar (.lst B.length),ar (.int i)])),B++[xs.set (zs.getD i 0).toNat (tupI (T.getD i []))]):=by have pi:=mr Z Y;have Q:=zN Z;have W:a7 cX vK (mV 5) (mG k r T [ar (.fz (zs.map D.int)),ar (.lst B.length),ar (.int i)])=aC (tupI (T.getD i [])):=(bX (x:=.tup (T.map tupI)) (y:=.int i) rfl rfl).trans (lR Y);have X:a7 cX (mV 3) (mV 5) (mG k r T [ar (.fz (zs.map D.int)),ar (.lst B.length),ar (.int i)])=aC (.int (zs.getD i 0)):=(bX (x:=.fz (zs.map D.int)) (y:=.int i) rfl rfl).trans (m4 (by omega) (by omega));unfold eJ;refine zA (O4 W _) ?_;show(mV 4 _>>=λx=>a7 cX (mV 3) (mV 5) _>>=λy=>fQ x y _>>=λ_=>aC _) _=_;rw[show mV 4 (mG k r T [ar (.fz (zs.map D.int)),ar (.lst B.length),ar (.int i)])=aC (.lst B.length)from rfl,aj,X,aj,aH (sM pi.1 (by omega) (by omega))];rfl
theorem yb{B:aE}{T:List (List Int)}{zs:List Int}{xs:List D}(Y:zs.Perm (dN T.length))(W:xs.length=T.length)(X:T.length<=7):∀(post pre:List Nat) (x5:Option D),(∀i∈post,i<T.length)->∃Z,fD ⟨its,.none⟩ (gN 5) eJ (post.map λi:Nat=>D.int (i:Int)) (mG k r T [ar (.fz (zs.map D.int)),ar (.lst B.length),x5]) (B++[tO T zs xs pre])=ar (.ok (.nx (mG k r T [ar (.fz (zs.map D.int)),ar (.lst B.length),Z])),B++[tO T zs xs (pre++post)])
 |[],pre,x5,_=>⟨x5,by rw[Qj,fB,Pp];rfl⟩
 |i::post,pre,x5,h=>by
  obtain⟨Z,R⟩:=yb (its:=its) (B:=B) (r:=r) (xs:=xs) Y W X post (pre++[i]) (ar (.int i)) λj Q=>h j (.tail _ Q);refine⟨Z,?_⟩;have U:=Hq (B:=B) (r:=r) (k:=k) (xs:=tO T zs xs pre) Y (by rw[vY];exact W) X (h i (.head _));rw[<-ya]at U;rw[OW,il rfl U,R,O7];rfl
theorem Hr(hs:eZ S k):∃(r:Nat) (T L N:List (List Int)) (S1:aE),fW (gZ [.lst k]) S=ar (.ok (.tup [aP T.length L,.tup [aP r T,.tup (N.map tupI)]]),S1)/\T.length<=7/\WebOk T.length L/\r<=8/\WebOk r T/\N.length=T.length/\N.Perm T/\Ck T.length L N=b_/\Kp k S S1/\S1.length=S.length:=by
 obtain⟨m,E0,S1,e1,m6,H,k1,l1⟩:=Ke (g:=6) (by decide) hs;have hf:=H.few;obtain⟨j,S2,e2,v,d,k2,c⟩:=jf (e1:=mV 0) (e2:=mK (.int 3)) (ρ:=[ar (.lst k),ar (aP m E0),none,none,none,none]) (m:=3) k1.st rfl rfl (by decide) (by decide);obtain⟨q,rfl⟩:=Ry v;have w:WebOk (m+q:Nat) (E0.take 7):=⟨λt P=>by obtain⟨a,b,e,h0,A,K⟩:=H.el t (RR P);exact⟨a,b,e,h0,A,by omega⟩,H.ris.sublist (List.take_sublist _ _),by rw[Pk];omega⟩
 have J:(E0.take 7).length<=7:=by rw[Pk];omega
 have W:b9 L3 [ar (.lst k),ar (aP m E0),none,none,none,none] S1=ar (.ok (aP (m+q) (E0.take 7)),S2):=by show(af _ _ _>>=bj) S1=_;rw[aH (ba (x:=.int ((m:Int)+(q:Int))) ((fu (x:=.int m) rfl e2).trans rfl) (ba (O4 (NR (E:=E0) rfl (by omega)) S2) (es:=au) rfl))];rw[Co,show((m:Int)+(q:Int))=((m+q:Nat):Int) by omega];rfl
 generalize E0.take 7=T at w J W;have K:∀t∈T,t.length=2:=λt P=>by obtain⟨a,b,rfl,_⟩:=w.el t P;rfl
 have U:aV (aA gX (af (mV 1) au)) [ar (.lst k),ar (aP (m+q) T),none,none,none,none]=aC (aP T.length (gm T)):=by unfold aV;rw[dn (x:=aP (m+q) T) rfl];exact Km (by omega) K
 obtain⟨zs,Z,e3,R,k3,l3⟩:=xR (n:=T.length) (ρ:=mG k (m+q) T [none,none,none]) (e1:=mV 0) (e2:=a7 cX (mV 2) (mK (.int 0))) k2.st (by omega) rfl rfl;have f:=zN R;have X:a7 Em (bD (af (mK .non) au)) Ep (mG k (m+q) T [ar (.fz (zs.map D.int)),none,none]) Z=ar (.ok (.lst (Z++[[D.non]]).length),(Z++[[D.non]])++[f' T.length D.non]):=by
  rw[fu (jM (ys:=[.non]) (S1:=Z) (ba (x:=.non) rfl (es:=au) rfl) (by show 1<=lim;unfold lim;omega)) (y:=.int T.length) (S2:=Z++[[.non]]) rfl];show(getL Z.length>>=_) _=_;rw[aH (dj bI),if_pos ⟨by omega,by omega,by show 1<=1000;decide⟩];have:(f' (T.length:Int).toNat [D.non]).flatten=f' T.length D.non:=by rw[show(T.length:Int).toNat=T.length from rfl,List.flatten_replicate_singleton]
  rw[this];exact dG (by rw[QS];unfold lim;omega)
 generalize hB:Z++[[D.non]]=B at X;obtain⟨O,Y⟩:=yb (its:=(ee T.length).map λi:Nat=>D.int (i:Int)) (B:=B) (r:=m+q) (k:=k) (xs:=f' T.length D.non) R (QS ..) J (ee T.length) [] none λi l=>OP.mp l;rw[SU,qD R (QS ..)]at Y;have G:=Fe J;have I:aV (aA fX GL) (mG k (m+q) T [ar (.fz (zs.map D.int)),ar (.lst B.length),O])=aC (aP T.length (b0 ((gm T).map (zH zs)))):=kU ((call2 rfl rfl).trans (Ha R G));have Q:b9 L4 (mG k (m+q) T [ar (.fz (zs.map D.int)),ar (.lst B.length),O]) (B++[(jl T zs).map tupI])=ar (.ok (.tup [aP T.length (b0 ((gm T).map (zH zs))),.tup [aP (m+q) T,.tup ((jl T zs).map tupI)]]),B++[(jl T zs).map tupI]):=by
  have P:cg b7 (mV 4) (mG k (m+q) T [ar (.fz (zs.map D.int)),ar (.lst B.length),O]) (B++[(jl T zs).map tupI])=ar (.ok (.tup ((jl T zs).map tupI)),B++[(jl T zs).map tupI]):=by show(af _ _ _>>=b7) _=_;rw[aH (ba (x:=.lst B.length) rfl (es:=au) rfl)];exact xU (by rw[OC,vZ];unfold lim;omega)
  have K:b9 (af (mV 1) (af (cg b7 (mV 4)) au)) (mG k (m+q) T [ar (.fz (zs.map D.int)),ar (.lst B.length),O]) (B++[(jl T zs).map tupI])=ar (.ok (.tup [aP (m+q) T,.tup ((jl T zs).map tupI)]),B++[(jl T zs).map tupI]):=by show(af _ _ _>>=bj) _=_;rw[aH (ba (x:=aP (m+q) T) rfl (ba P (es:=au) rfl))];rw[Co];rfl
  show(af _ _ _>>=bj) _=_;rw[aH (ba (O4 I _) (ba K (es:=au) rfl))];rw[Co];rfl
 have C:gZ [.lst k] S=ar (.ok (.tup [aP T.length (b0 ((gm T).map (zH zs))),.tup [aP (m+q) T,.tup ((jl T zs).map tupI)]]),B++[(jl T zs).map tupI]):=by refine fG (o:=.ret _) ?_ rfl;show jA [ar (.lst k),none,none,none,none,none] S=_;unfold jA;refine(aS (ρ':=[ar (.lst k),ar (aP m E0),none,none,none,none]) (S1:=S1) (bN ?_)).trans ((aS (ρ':=[ar (.lst k),ar (aP (m+q) T),none,none,none,none]) (bN W)).trans ((O4 (bh (ρ':=mG k (m+q) T [none,none,none]) (pC U)) S2).trans ((aS (ρ':=mG k (m+q) T [ar (.fz (zs.map D.int)),none,none]) (bN e3)).trans ((aS (ρ':=mG k (m+q) T [ar (.fz (zs.map D.int)),ar (.lst B.length),none]) (bN X)).trans ((aS (sx (Hg (n:=T.length) rfl (by omega)) Y)).trans (gC Q))))));show fW (aA _ _ _) S=_;rw[call2 (x:=.lst k) (y:=.int 6) rfl rfl];exact e1
 have p:Kp k S (B++[(jl T zs).map tupI]):=by
  have F:Kp k S B:=by rw[<-hB];exact((k1.trans k2).trans k3).trans (Kp.grow k3.st _)
  exact F.trans (Kp.grow F.st _)
 obtain⟨h,z,u,s⟩:=xP hs C p (by unfold d7 bU;rw[je];unfold bU d7 bU;rw[je];unfold bU d7;rw[bf];rfl)
 exact⟨m+q,T,_,_,h,z,J,EN R G,by omega,w,vZ,Fd R w,Kq R w,u,s⟩
end
def zO(a b:Int):List D:=[tupI [a,b],tupI [b,a],tupI [if b<a then b else a,if b>a then b else a],tupI [a],.fz [.int a,.int b],.non,.str "01",.tup [.int 0,.bl b_],tupI [a,b,b],.int 0]
theorem Hs:∀d∈zO a b,NmOk d/\d7 0 d=true:=λd hd=>by
 unfold zO at hd;simp only[gc,f_,or_false]at hd;have Z:∀{l:List Int},0<l.length->l.length<=10->NmOk (tupI l)/\d7 0 (tupI l)=true:=λX W=>⟨.row X W,zG _⟩;rcases hd with rfl|rfl|rfl|rfl|rfl|rfl|rfl|rfl|rfl|rfl
 ·exact Z (by simp) (by simp)
 ·exact Z (by simp) (by simp)
 ·exact Z (by simp) (by simp)
 ·exact Z (by simp) (by simp)
 ·exact⟨.oth rfl rfl,rfl⟩
 ·exact⟨.oth rfl rfl,rfl⟩
 ·exact⟨.oth rfl rfl,rfl⟩
 ·refine⟨.tup (λx Y=>?_) rfl (by decide),rfl⟩;simp only[gc,f_,or_false]at Y;rcases Y with rfl|rfl<;>rfl
 ·exact Z (by simp) (by simp)
 ·exact⟨.oth rfl rfl,rfl⟩
section
variable {r:Nat}{T N M:List (List Int)}{odd:D}{i:Nat}
def jg(r:Nat)(T N M:List (List Int))(odd:D)(i:Nat):List D:=[.tup [aP r T,.tup ((M.take N.length).map tupI)],.tup [aP r T,.tup ((N.take i).map tupI++[odd]++(N.drop (i+1)).map tupI)],.tup [aP r T,.fz (N.map tupI)]]
def kc(r:Nat)(T N:List (List Int))(i:Nat):List D:=[.tup [aP r T],.tup [aP r T,.tup ((N.take i).map tupI++(N.drop (i+1)).map tupI)],.tup [aP r T,.tup (N.map tupI++[tupI [0,1]])],.fz [aP r T,.tup (N.map tupI)]]
def lU(r:Nat)(T N:List (List Int)):List D:=[.tup [.tup (N.map tupI),aP r T]]
def oB(r:Nat)(T N:List (List Int)):List D:=[.tup [iJ ((r:Int)+1) T,.tup (N.map tupI)],.tup [iJ ((r:Int) - 1) T,.tup (N.map tupI)],.non,.emp]
def sP(r:Nat)(T N:List (List Int)):List D:=[.tup [iJ r (T.drop 1),.tup (N.map tupI)],.tup [.non,.tup (N.map tupI)],.tup [aP r T,.tup (N.map tupI),.tup []],.tup [aP r T,.non]]
def A3(w:WebOk n T)(Y:T.length<=7):RowsOk T:=⟨λt X=>by obtain⟨a,b,e,h0,Z,_⟩:=w.el t X;exact⟨a,b,e,h0,Z⟩,w.ris,Y⟩
def pL{R:List (List Int)}(h:∀s∈R,s.length=2):∀x∈R.map tupI,NmOk x:=λx Z=>by obtain⟨s,hs,rfl⟩:=O0.mp Z;exact .row (by rw[h s hs];decide) (by rw[h s hs];decide)
theorem Ff(Y:RowsOk T)(X:∀s∈N,s.length=2)(L:∀s∈M,s.length=2)(O:N.length<=7)(Q:NmOk odd):∀d∈jg r T N M odd i++kc r T N i++lU r T N++oB r T N++sP r T N,Thg d:=λd hd=>by
 have W:=pL X;have S:∀x∈(N.take i).map tupI,NmOk x:=pL λs hs=>X s (RR hs);have R:∀x∈(N.drop (i+1)).map tupI,NmOk x:=pL λs hs=>X s (Q5 hs);have I:((N.take i).map tupI).length<=7:=by rw[OC,Pk];omega
 have K:((N.drop (i+1)).map tupI).length<=7:=by rw[OC,P2];omega
 have J:(N.map tupI).length<=7:=by rw[OC];exact O
 have U:RowsOk (T.drop 1):=⟨λt P=>Y.el t (Q5 P),Y.ris.sublist (List.drop_sublist _ _),by rw[P2];have:=Y.few;omega⟩;unfold jg kc lU oB sP at hd;simp only[y',List.nil_append,gc,f_,or_false]at hd;rcases hd with rfl|rfl|rfl|rfl|rfl|rfl|rfl|rfl|rfl|rfl|rfl|rfl|rfl|rfl|rfl|rfl
 ·exact .web Y (pL λs hs=>L s (RR hs)) (by rw[OC,Pk];omega)
 ·refine .web Y (λx Z=>?_) (by rw[OG,OG];show _+1+_<=50;omega);rcases PZ.mp Z with Z|Z
  ·rcases PZ.mp Z with Z|Z
   ·exact S x Z
   ·rw[QO.mp Z];exact Q
  ·exact R x Z
 ·exact .oth Y rfl rfl
 ·exact .np rfl rfl
 ·refine .web Y (λx Z=>?_) (by rw[OG];omega);rcases PZ.mp Z with Z|Z
  ·exact S x Z
  ·exact R x Z
 ·refine .web Y (λx Z=>?_) (by rw[OG];show _+1<=50;omega);rcases PZ.mp Z with Z|Z
  ·exact W x Z
  ·rw[QO.mp Z];exact .row (by decide) (by decide)
 ·exact .np rfl rfl
 ·exact .rows (λs hs=>by rw[X s hs];decide) rfl
 ·exact .web Y W (by omega)
 ·exact .web Y W (by omega)
 ·exact .np rfl rfl
 ·exact .np rfl rfl
 ·exact .web U W (by omega)
 ·exact .non rfl
 ·exact .np rfl rfl
 ·exact .oth Y rfl rfl
theorem jE(Z:bU 0 a=b_)(Y:bU 0 b=b_):bU 0 (a++b)=true:=by
 induction a with
 |nil=>exact Y
 |cons x a ih=>
  unfold bU at Z;rw[Po]at Z;rw[y'];unfold bU;rw[Z.1,ih Z.2];rfl
def Cp(h:bU 0 ds=b_):d7 0 (.tup ds)=true:=by unfold d7;exact h
def Og(h:bU 0 ds=b_):d7 0 (.fz ds)=true:=by unfold d7;exact h
def kX(Z:d7 0 x=b_)(Y:bU 0 ds=b_):bU 0 (x::ds)=true:=by unfold bU;rw[Z,Y];rfl
def Fg:d7 0 (iJ j R)=true:=Cp (kX rfl (kX (Cp (bf _)) rfl))
theorem qO(W:d7 0 odd=b_):bU 0 (jg r T N M odd i)=b_/\bU 0 (kc r T N i)=b_/\bU 0 (lU r T N)=b_/\bU 0 (oB r T N)=b_/\bU 0 (sP r T N)=true:=by have w:d7 0 (aP r T)=true:=je;have Z:∀{x y:D},d7 0 x=b_->d7 0 y=b_->d7 0 (.tup [x,y])=true:=λX U=>Cp (kX X (kX U rfl));have Y:d7 0 (.tup (N.map tupI))=true:=Cp (bf _);refine⟨kX (Z w (Cp (bf _))) (kX (Z w (Cp (jE (jE (bf _) (kX W rfl)) (bf _)))) (kX (Z w (Og (bf _))) rfl)),kX (Cp (kX w rfl)) (kX (Z w (Cp (jE (bf _) (bf _)))) (kX (Z w (Cp (jE (bf _) (kX (zG _) rfl)))) (kX (Og (kX w (kX Y rfl))) rfl))),kX (Z Y w) rfl,kX (Z Fg Y) (kX (Z Fg Y) rfl),kX (Z Fg Y) (kX (Z rfl Y) (kX (Cp (kX w (kX Y rfl))) (kX (Z w rfl) rfl)))⟩
end
theorem NS(l:List D)(a:Nat):S3.cutD l (ar (a:Int)) none=l.drop a:=by
 unfold S3.cutD;rw[HT.sIx_none,HT.sIx_nat];by_cases h:a<=l.length
 ·rw[Nat.min_eq_left h,QM (by rw[P2];exact OF _)]
 ·rw[Nat.min_eq_right (by omega),Qm (OF _),Qm (by omega),List.take_nil]
section
variable {R:List (List Int)}{ρ:aO}{e e1 e2:TM}{i:Nat}{xs ys:List D}
theorem Oh(h:e ρ=aC (.tup (R.map tupI)))(Y:e2 ρ=aC (.int i))(X:R.length<=100):aV (BH e oN (oS e2)) ρ=aC (.tup ((R.take i).map tupI)):=by refine kU ?_;show(e ρ>>=λx=>oN ρ>>=λlo=>oS e2 ρ>>=λZ=>oR x lo Z)=_;rw[h,aj,show oN ρ=aC none from rfl,aj,show oS e2 ρ=aC (ar (i:Int)) by unfold oS;rw[Y];rfl,aj];show bj (S3.cutD (R.map tupI) none (ar (i:Int)))=_;rw[J8, <-Sv];unfold bj;rw[if_pos (by rw[OC,Pk];unfold lim;omega)]
theorem NT(h:e ρ=aC (.tup (R.map tupI)))(Y:e2 ρ=aC (.int i))(X:R.length<=100):aV (BH e (oS e2) oN) ρ=aC (.tup ((R.drop i).map tupI)):=by refine kU ?_;show(e ρ>>=λx=>oS e2 ρ>>=λlo=>oN ρ>>=λZ=>oR x lo Z)=_;rw[h,aj,show oS e2 ρ=aC (ar (i:Int)) by unfold oS;rw[Y];rfl,aj,show oN ρ=aC none from rfl,aj];show bj (S3.cutD (R.map tupI) (ar (i:Int)) none)=_;rw[NS, <-List.map_drop];unfold bj;rw[if_pos (by rw[OC,P2];unfold lim;omega)]
theorem Ht(Z:e1 ρ=aC (.tup xs))(Y:e2 ρ=aC (.tup ys))(X:xs.length+ys.length<=100):aV (a7 bP e1 e2) ρ=aC (.tup (xs++ys)):=by refine kU ((bX Z Y).trans ?_);show bj (xs++ys)=_;unfold bj;exact if_pos (by rw[OG];unfold lim;omega)
def Kr(h:e ρ=aC x):b9 (af e au) ρ=aC (.tup [x]):=by show(af _ _ _>>=bj)=_;rw[aL h (es:=au) rfl,aj];unfold bj;exact if_pos (by show 1<=lim;unfold lim;omega)
def ng(Z:e1 ρ=aC x)(Y:e2 ρ=aC y):b9 (af e1 (af e2 au)) ρ=aC (.tup [x,y]):=by show(af _ _ _>>=bj)=_;rw[aL Z (aL Y (es:=au) rfl),aj];exact Co
theorem My{e3:TM}(Y:e1 ρ=aC x)(X:e2 ρ=aC y)(Z:e3 ρ=aC z):b9 (af e1 (af e2 (af e3 au))) ρ=aC (.tup [x,y,z]):=by show(af _ _ _>>=bj)=_;rw[aL Y (aL X (aL Z (es:=au) rfl)),aj];unfold bj;exact if_pos (by show 3<=lim;unfold lim;omega)
theorem Fh(h:a<R.length):jS (R.map tupI) (a:Int)=ar (tupI (R.getD a [])):=by
 have:=lR (E:=R) h;have e:cX (.tup (R.map tupI)) (.int a)=(match jS (R.map tupI) (a:Int)with|some d=>(aC d:M D)|none=>M.fail):=rfl;rw[e]at this;cases q:jS (R.map tupI) (a:Int)with
 |none=>rw[q]at this;exact absurd (O4 this []) (by intro h;cases h)
 |some d=>
  rw[q]at this;have:=O4 this [];cases this;rfl
end
def di(k r:Nat)(T N:List (List Int))(o:List (Option D)):aO:=ar (.lst k)::ar (.tup [aP r T,.tup (N.map tupI)])::ar (aP r T)::ar (.tup (N.map tupI))::o
section
variable {S:aE}{k r:Nat}{T N M:List (List Int)}{i j:Nat}{a b:Int}{odd:D}{x8 x9 x10 o6 o7:Option D}{p:Nat}
theorem Hu:aV N6 (di k r T N [ar (.int i),ar (.int j),ar (.int a),ar (.int b),x8,x9,x10])=aC (.fz (zO a b)):=by have Z:aV (bD Eo) (di k r T N [ar (.int i),ar (.int j),ar (.int a),ar (.int b),x8,x9,x10])=aC (.fz [.int a,.int b]):=things (aL (x:=.int a) rfl (aL (x:=.int b) rfl (es:=au) rfl)) rfl (by show 2<=50;decide);exact things (aL (ng (x:=.int a) (y:=.int b) rfl rfl) (aL (ng (x:=.int b) (y:=.int a) rfl rfl) (aL (mm (a:=a) (b:=b) rfl rfl) (aL (Kr (x:=.int a) rfl) (aL Z (aL (e:=mK .non) (x:=.non) rfl (aL (e:=mK (.str "01")) (x:=.str "01") rfl (aL (e:=mK (.tup [.int 0,.bl b_])) (x:=.tup [.int 0,.bl b_]) rfl (aL (My (x:=.int a) (y:=.int b) (z:=.int b) rfl rfl rfl) (aL (e:=mK (.int 0)) (x:=.int 0) rfl (es:=au) rfl)))))))))) rfl (by show 10<=50;decide)
theorem Hv{B:aE}(Y:i<M.length)(W:j<M.length)(R:M.length<=50):mC (b9 JS) (gq 2 (bS (DJ (mV 9) (mV 4)) (bS (DJ (mV 9) (mV 5)) gQ))) (di k r T N [ar (.int i),ar (.int j),o6,o7,x8,ar (.lst B.length),x10]) (B++[M.map tupI])=ar (.ok (.nx (di k r T N [ar (.int i),ar (.int j),o6,o7,x8,ar (.lst B.length),x10])),B++[((M.set i (M.getD j [])).set j (M.getD i [])).map tupI]):=by
 have U:a7 cX (mV 9) (mV 5) (di k r T N [ar (.int i),ar (.int j),o6,o7,x8,ar (.lst B.length),x10]) (B++[M.map tupI])=ar (.ok (tupI (M.getD j [])),B++[M.map tupI]):=(fu (x:=.lst B.length) rfl (y:=.int j) rfl).trans (uF bI (Fh W));have Z:a7 cX (mV 9) (mV 4) (di k r T N [ar (.int i),ar (.int j),o6,o7,x8,ar (.lst B.length),x10]) (B++[M.map tupI])=ar (.ok (tupI (M.getD i [])),B++[M.map tupI]):=(fu (x:=.lst B.length) rfl (y:=.int i) rfl).trans (uF bI (Fh Y));have X:b9 JS (di k r T N [ar (.int i),ar (.int j),o6,o7,x8,ar (.lst B.length),x10]) (B++[M.map tupI])=ar (.ok (.tup [tupI (M.getD j []),tupI (M.getD i [])]),B++[M.map tupI]):=by show(af _ _ _>>=bj) _=_;rw[aH (ba U (ba Z (es:=au) rfl)),Co];rfl
 refine zA X ?_;have s1:=sM (S:=B) (xs:=M.map tupI) (v:=tupI (M.getD j [])) (j:=(i:Int)) (by omega) (by rw[OC];omega) (by rw[OC];omega);have s2:=sM (S:=B) (xs:=(M.map tupI).set (i:Int).toNat (tupI (M.getD j []))) (v:=tupI (M.getD i [])) (j:=(j:Int)) (by omega) (by rw[PV,OC];omega) (by rw[PV,OC];omega);rw[List.map_set,List.map_set];show(DJ (mV 9) (mV 4) (tupI (M.getD j [])) (di k r T N [ar (.int i),ar (.int j),o6,o7,x8,ar (.lst B.length),x10])>>=_) _=_;rw[aH (a:=di k r T N [ar (.int i),ar (.int j),o6,o7,x8,ar (.lst B.length),x10]) (S1:=B++[(M.map tupI).set (i:Int).toNat (tupI (M.getD j []))])]
 ·show(DJ (mV 9) (mV 5) (tupI (M.getD i [])) (di k r T N [ar (.int i),ar (.int j),o6,o7,x8,ar (.lst B.length),x10])>>=_) _=_;rw[aH (a:=di k r T N [ar (.int i),ar (.int j),o6,o7,x8,ar (.lst B.length),x10]) (S1:=B++[((M.map tupI).set (i:Int).toNat (tupI (M.getD j []))).set (j:Int).toNat (tupI (M.getD i []))])]
  ·rfl
  ·show(fQ (.lst B.length) (.int j) _>>=_) _=_;rw[aH s2];rfl
 ·show(fQ (.lst B.length) (.int i) _>>=_) _=_;rw[aH s1];rfl
end
section
variable {S:aE}{k r:Nat}{T N M:List (List Int)}{i j:Nat}{a b:Int}{odd:D}{x8 x9 x10 o5 o6 o7:Option D}{p:Nat}
theorem v8{B:aE}{e1 e2:TM}{xs:List D}(Z:e1 ρ=aC (.lst B.length))(Y:e2 ρ=aC (.fz ys))(X:xs.length+ys.length<=1000):a7 bP e1 e2 ρ (B++[xs])=ar (.ok (.lst (B++[xs]).length),(B++[xs])++[xs++ys]):=by rw[fu (O4 Z _) (O4 Y _)];show(getL B.length>>=λxs=>bB (xs++ys)) (B++[xs])=_;rw[aH (dj bI)];exact dG (by rw[OG];unfold lim;omega)
theorem NU{B:aE}(Q:N.length<=7)(P:M.length<=50):bD N7 (di k r T N [ar (.int i),o5,o6,o7,ar odd,ar (.lst B.length),x10]) (B++[M.map tupI])=ar (.ok (.lst (B++[M.map tupI]).length),(B++[M.map tupI])++[jg r T N M odd i]):=by
 have hlen:cg ef (mV 3) (di k r T N [ar (.int i),o5,o6,o7,ar odd,ar (.lst B.length),x10])=aC (.int N.length):=(kJ (us:=N.map tupI) rfl).trans (by rw[OC]);have s1:aV GK (di k r T N [ar (.int i),o5,o6,o7,ar odd,ar (.lst B.length),x10]) (B++[M.map tupI])=ar (.ok (.fz ((M.take N.length).map tupI)),B++[M.map tupI]):=by refine Hh ?_ (bf _);show(mV 9 _>>=λx=>oN _>>=λlo=>oS (cg ef (mV 3)) _>>=λX=>oR x lo X) _=_;rw[show mV 9 (di k r T N [ar (.int i),o5,o6,o7,ar odd,ar (.lst B.length),x10])=aC (.lst B.length)from rfl,aj,show oN (di k r T N [ar (.int i),o5,o6,o7,ar odd,ar (.lst B.length),x10])=aC none from rfl,aj,show oS (cg ef (mV 3)) (di k r T N [ar (.int i),o5,o6,o7,ar odd,ar (.lst B.length),x10])=aC (ar (N.length:Int)) by unfold oS;rw[hlen];rfl,aj];show(getL B.length>>=λxs=>bB (S3.cutD xs none (ar (N.length:Int)))) _=_;rw[aH (dj bI),J8, <-Sv];exact dG (by rw[OC,Pk];unfold lim;omega)
 have t1:b9 (af (mV 2) (af (cg b7 (aV GK)) au)) (di k r T N [ar (.int i),o5,o6,o7,ar odd,ar (.lst B.length),x10]) (B++[M.map tupI])=ar (.ok (.tup [aP r T,.tup ((M.take N.length).map tupI)]),B++[M.map tupI]):=by
  have U:cg b7 (aV GK) (di k r T N [ar (.int i),o5,o6,o7,ar odd,ar (.lst B.length),x10]) (B++[M.map tupI])=ar (.ok (.tup ((M.take N.length).map tupI)),B++[M.map tupI]):=by show(af _ _ _>>=b7) _=_;rw[aH (ba s1 (es:=au) rfl)];exact O4 (lQ (by rw[OC,Pk];unfold lim;omega)) _
  show(af _ _ _>>=bj) _=_;rw[aH (ba (x:=aP r T) rfl (ba U (es:=au) rfl)),Co];rfl
 have Z:=Oh (e:=mV 3) (R:=N) (e2:=mV 4) (i:=i) (ρ:=di k r T N [ar (.int i),o5,o6,o7,ar odd,ar (.lst B.length),x10]) rfl rfl (by omega);have W:=NT (e:=mV 3) (R:=N) (e2:=a7 bP (mV 4) (mK (.int 1))) (i:=i+1) (ρ:=di k r T N [ar (.int i),o5,o6,o7,ar odd,ar (.lst B.length),x10]) rfl rfl (by omega);have t2:=ng (e1:=mV 2) (x:=aP r T) rfl (Ht (Ht Z (Kr (e:=mV 8) (x:=odd) rfl) (by rw[OC,Pk];show _+1<=100;omega)) W (by rw[OG,OC,OC,Pk,P2];show _+1+_<=100;omega));have Y:aV (cg iU (mV 3)) (di k r T N [ar (.int i),o5,o6,o7,ar odd,ar (.lst B.length),x10])=aC (.fz (N.map tupI)):=by unfold aV;rw[eM (x:=.tup (N.map tupI)) rfl];exact bW (bf _) (by rw[OC];unfold lim;omega)
 have t3:=ng (e1:=mV 2) (x:=aP r T) rfl Y;exact jM (ba t1 (ba (O4 t2 _) (ba (O4 t3 _) (es:=au) rfl))) (by show 3<=lim;unfold lim;omega)
theorem NV(W:N.length<=7):aV N8 (di k r T N [ar (.int i),o5,o6,o7,x8,x9,x10])=aC (.fz (kc r T N i)):=by have Y:=Oh (e:=mV 3) (R:=N) (e2:=mV 4) (i:=i) (ρ:=di k r T N [ar (.int i),o5,o6,o7,x8,x9,x10]) rfl rfl (by omega);have X:=NT (e:=mV 3) (R:=N) (e2:=a7 bP (mV 4) (mK (.int 1))) (i:=i+1) (ρ:=di k r T N [ar (.int i),o5,o6,o7,x8,x9,x10]) rfl rfl (by omega);have t2:=ng (e1:=mV 2) (x:=aP r T) rfl (Ht Y X (by rw[OC,OC,Pk,P2];omega));have t3:=ng (e1:=mV 2) (x:=aP r T) rfl (Ht (e1:=mV 3) (xs:=N.map tupI) (e2:=mK (.tup [.tup [.int 0,.int 1]])) (ys:=[tupI [0,1]]) (ρ:=di k r T N [ar (.int i),o5,o6,o7,x8,x9,x10]) rfl rfl (by rw[OC];show _+1<=100;omega));have Z:aV (bD GL) (di k r T N [ar (.int i),o5,o6,o7,x8,x9,x10])=aC (.fz [aP r T,.tup (N.map tupI)]):=things (aL (x:=aP r T) rfl (aL (x:=.tup (N.map tupI)) rfl (es:=au) rfl)) (kX je (kX (Cp (bf _)) rfl)) (by show 2<=50;decide);exact things (aL (Kr (x:=aP r T) rfl) (aL t2 (aL t3 (aL Z (es:=au) rfl)))) (qO (M:=[]) (odd:=.non) rfl).2.1 (by show 4<=50;decide)
theorem NW:aV Oa (di k r T N [ar (.int i),o5,o6,o7,x8,x9,x10])=aC (.fz (oB r T N)):=by have t1:=ng (ρ:=di k r T N [ar (.int i),o5,o6,o7,x8,x9,x10]) (ng (e1:=a7 bP Ep (mK (.int 1))) (x:=.int ((r:Int)+1)) (e2:=a7 cX (mV 2) (mK (.int 1))) (y:=.tup (T.map tupI)) rfl rfl) (e2:=mV 3) (y:=.tup (N.map tupI)) rfl;have t2:=ng (ρ:=di k r T N [ar (.int i),o5,o6,o7,x8,x9,x10]) (ng (e1:=a7 iB Ep (mK (.int 1))) (x:=.int ((r:Int) - 1)) (e2:=a7 cX (mV 2) (mK (.int 1))) (y:=.tup (T.map tupI)) rfl rfl) (e2:=mV 3) (y:=.tup (N.map tupI)) rfl;exact things (aL t1 (aL t2 (aL (e:=mK .non) (x:=.non) rfl (aL (e:=mK .emp) (x:=.emp) rfl (es:=au) rfl)))) (qO (M:=[]) (odd:=.non) (i:=0) rfl).2.2.2.1 (by show 4<=50;decide)
theorem NX(Z:T.length<=7):aV N9 (di k r T N [ar (.int i),o5,o6,o7,x8,x9,x10])=aC (.fz (sP r T N)):=by have t1:=ng (ρ:=di k r T N [ar (.int i),o5,o6,o7,x8,x9,x10]) (ng (e1:=a7 cX (mV 2) (mK (.int 0))) (x:=.int r) rfl (NT (e:=a7 cX (mV 2) (mK (.int 1))) (R:=T) (e2:=mK (.int 1)) (i:=1) rfl rfl (by omega))) (e2:=mV 3) (y:=.tup (N.map tupI)) rfl;exact things (aL t1 (aL (ng (e1:=mK .non) (x:=.non) (e2:=mV 3) (y:=.tup (N.map tupI)) rfl rfl) (aL (My (e1:=mV 2) (x:=aP r T) (e2:=mV 3) (y:=.tup (N.map tupI)) (e3:=mK (.tup [])) (z:=.tup []) rfl rfl rfl) (aL (ng (e1:=mV 2) (x:=aP r T) (e2:=mK .non) (y:=.non) rfl rfl) (es:=au) rfl)))) (qO (M:=[]) (odd:=.non) (i:=0) rfl).2.2.2.2 (by show 4<=50;decide)
end
section
variable {S:aE}{k r:Nat}{T N:List (List Int)}
theorem Fi{e:TM}{ρ:aO}{c i j:Nat}(hs:eZ S k)(Z:mV 0 ρ=aC (.lst k))(Y:e ρ=aC (.int ((c:Int)+1)))(Q:c<100):∃(x y:Nat) (S1:aE),tF i j (af (aV (aA aF (af (mV 0) (af e au)))) (af (aV (aA aF (af (mV 0) (af e au)))) au)) ρ S=ar (.ok (.nx ((ρ.set i (ar (.int x))).set j (ar (.int y)))),S1)/\x<=c/\y<=c/\Kp k S S1/\S1.length=S.length:=by obtain⟨x,S1,e1,x0,P,k1,U⟩:=jf (e1:=mV 0) (e2:=e) (ρ:=ρ) (m:=(c:Int)+1) hs Z Y (by omega) (by omega);obtain⟨y,S2,e2,W,R,k2,X⟩:=jf (e1:=mV 0) (e2:=e) (ρ:=ρ) (m:=(c:Int)+1) k1.st Z Y (by omega) (by omega);obtain⟨x,rfl⟩:=Ry x0;obtain⟨y,rfl⟩:=Ry W;exact⟨x,y,S2,EI (ba e1 (ba e2 (es:=au) rfl)),by omega,by omega,k1.trans k2,X.trans U⟩
theorem Fj(Z:cX (.fz all) (.int c)=aC d):jS all c=ar d:=by
 have e:cX (.fz all) (.int c)=(match jS all c with|some d=>(aC d:M D)|none=>M.fail):=rfl;rw[e]at Z;cases q:jS all c with
 |none=>rw[q]at Z;exact absurd (O4 Z []) (by intro h;cases h)
 |some d'=>
  rw[q]at Z;have:=O4 Z [];cases this;rfl
theorem A4(hs:eZ S k)(g:RowsOk T)(hN:∀s∈N,s.length=2)(I:N.length<=7)(hr:r<=50):∃(d:D) (S1:aE),fW (fM [.lst k,.tup [aP r T,.tup (N.map tupI)]]) S=ar (.ok d,S1)/\Thg d/\d7 0 d=b_/\Kp k S S1/\S1.length=S.length:=by
 have hlen:∀{o},a7 bP (cg ef (mV 3)) (mK (.int 1)) (di k r T N o)=aC (.int ((N.length:Int)+1)):=λ{o}=>(bX ((kJ (us:=N.map tupI) rfl).trans (by rw[OC])) (y:=.int 1) rfl).trans rfl;obtain⟨i,j,S1,e1,hi,hj,k1,l1⟩:=Fi (e:=a7 bP (cg ef (mV 3)) (mK (.int 1))) (ρ:=di k r T N [none,none,none,none,none,none,none]) (i:=4) (j:=5) hs rfl hlen (by omega);obtain⟨a,b,S2,e2,ha,hb,k2,l2⟩:=Fi (c:=r) (e:=a7 bP Ep (mK (.int 1))) (ρ:=di k r T N [ar (.int i),ar (.int j),none,none,none,none,none]) (i:=6) (j:=7) k1.st rfl rfl (by omega);obtain⟨q,Z,e3,q0,q1,k3,l3⟩:=jf (e1:=mV 0) (e2:=mK (.int 10)) (ρ:=di k r T N [ar (.int i),ar (.int j),ar (.int a),ar (.int b),ar (.fz (zO a b)),none,none]) (m:=10) k2.st rfl rfl (by decide) (by decide);obtain⟨odd,O,R⟩:=xS (ds:=zO a b) q0 q1;obtain⟨o1,o2⟩:=Hs odd O;have C:a7 cX (mV 8) (aV (aA aF (af (mV 0) (af (mK (.int 10)) au)))) (di k r T N [ar (.int i),ar (.int j),ar (.int a),ar (.int b),ar (.fz (zO a b)),none,none]) S2=ar (.ok odd,Z):=(fu (x:=.fz (zO a b)) rfl e3).trans (O4 R Z);have hM:(N++[[0,1]]).length=N.length+1:=by rw[OG];rfl
 have l4:aV (cg iU (mV 3)) (di k r T N [ar (.int i),ar (.int j),ar (.int a),ar (.int b),ar odd,none,none])=aC (.fz (N.map tupI)):=by unfold aV;rw[eM (x:=.tup (N.map tupI)) rfl];exact bW (bf _) (by rw[OC];unfold lim;omega)
 have l5:aV JT (di k r T N [ar (.int i),ar (.int j),ar (.int a),ar (.int b),ar odd,none,none])=aC (.fz [tupI [0,1]]):=things (aL (x:=tupI [0,1]) rfl (es:=au) rfl) rfl (by show 1<=50;decide);have e4:a7 bP (aV (cg iU (mV 3))) (aV JT) (di k r T N [ar (.int i),ar (.int j),ar (.int a),ar (.int b),ar odd,none,none]) Z=ar (.ok (.lst Z.length),Z++[(N++[[0,1]]).map tupI]):=by rw[fu (O4 l4 _) (O4 l5 _),PX];exact dG (by rw[OG,OC];show _+1<=lim;unfold lim;omega)
 have w:=Hv (M:=N++[[0,1]]) (B:=Z) (k:=k) (r:=r) (T:=T) (N:=N) (i:=i) (j:=j) (o6:=ar (.int a)) (o7:=ar (.int b)) (x8:=ar odd) (x10:=none) (by omega) (by omega) (by omega);have W:∀s∈N++[[0,1]],s.length=2:=λs hs=>by
  rcases PZ.mp hs with hs|hs
  ·exact hN s hs
  ·rw[QO.mp hs];rfl
 have J:∀s∈((N++[[0,1]]).set i ((N++[[0,1]]).getD j [])).set j ((N++[[0,1]]).getD i []),s.length=2:=λs hs=>by
  rcases Se hs with hs|rfl
  ·rcases Se hs with hs|rfl
   ·exact W s hs
   ·exact W _ (getD_in (by omega))
  ·exact W _ (getD_in (by omega))
 have Q:(((N++[[0,1]]).set i ((N++[[0,1]]).getD j [])).set j ((N++[[0,1]]).getD i [])).length<=50:=by rw[PV,PV];omega
 generalize ((N++[[0,1]]).set i ((N++[[0,1]]).getD j [])).set j ((N++[[0,1]]).getD i [])=M at w J Q;have z:=NU (B:=Z) (k:=k) (r:=r) (T:=T) (N:=N) (M:=M) (i:=i) (odd:=odd) (o5:=ar (.int j)) (o6:=ar (.int a)) (o7:=ar (.int b)) (x10:=none) I Q;generalize hB1:Z++[M.map tupI]=B1 at w z;have v:=v8 (B:=B1) (xs:=jg r T N M odd i) (e1:=mV 10) (ρ:=di k r T N [ar (.int i),ar (.int j),ar (.int a),ar (.int b),ar odd,ar (.lst Z.length),ar (.lst B1.length)]) rfl (NV I) (by show 3+4<=1000;decide);generalize hB2:B1++[jg r T N M odd i]=B2 at z v;have n:rS (uw cU (mV 10) (b9 (af (mV 3) (af (mV 2) au)))) (di k r T N [ar (.int i),ar (.int j),ar (.int a),ar (.int b),ar odd,ar (.lst Z.length),ar (.lst B2.length)]) (B2++[jg r T N M odd i++kc r T N i])=ar (.ok (.nx (di k r T N [ar (.int i),ar (.int j),ar (.int a),ar (.int b),ar odd,ar (.lst Z.length),ar (.lst B2.length)])),B2++[jg r T N M odd i++kc r T N i++lU r T N]):=
  sv ((sG (x:=.lst B2.length) rfl rfl (O4 (ng (e1:=mV 3) (x:=.tup (N.map tupI)) (e2:=mV 2) (y:=aP r T) rfl rfl) _)).trans (EX (by show 3+4<=1000;decide)))
 have F:=v8 (B:=B2) (xs:=jg r T N M odd i++kc r T N i++lU r T N) (e1:=mV 10) (ρ:=di k r T N [ar (.int i),ar (.int j),ar (.int a),ar (.int b),ar odd,ar (.lst Z.length),ar (.lst B2.length)]) rfl NW (by show 8+4<=1000;decide);generalize hB3:B2++[jg r T N M odd i++kc r T N i++lU r T N]=B3 at n F;have U:=v8 (B:=B3) (xs:=jg r T N M odd i++kc r T N i++lU r T N++oB r T N) (e1:=mV 10) (ρ:=di k r T N [ar (.int i),ar (.int j),ar (.int a),ar (.int b),ar odd,ar (.lst Z.length),ar (.lst B3.length)]) rfl (NX g.few) (by show 12+4<=1000;decide);generalize hB4:B3++[jg r T N M odd i++kc r T N i++lU r T N++oB r T N]=B4 at F U;have u:Kp k S Z:=(k1.trans k2).trans k3;have g1:Kp k Z B1:=by rw[<-hB1];exact Kp.grow u.st _
 have g2:Kp k B1 B2:=by rw[<-hB2];exact Kp.grow g1.st _
 have g3:Kp k B2 B3:=by rw[<-hB3];exact Kp.grow g2.st _
 have g4:Kp k B3 B4:=by rw[<-hB4];exact Kp.grow g3.st _
 have H:Kp k S B4:=(((u.trans g1).trans g2).trans g3).trans g4;have p:=Ff (r:=r) (i:=i) g hN J I o1;have ca:=qO (r:=r) (T:=T) (N:=N) (M:=M) (i:=i) o2;have X:bU 0 (jg r T N M odd i++kc r T N i++lU r T N++oB r T N++sP r T N)=true:=jE (jE (jE (jE ca.1 ca.2.1) ca.2.2.1) ca.2.2.2.1) ca.2.2.2.2;have Y:(jg r T N M odd i++kc r T N i++lU r T N++oB r T N++sP r T N).length=16:=rfl;generalize jg r T N M odd i++kc r T N i++lU r T N++oB r T N++sP r T N=all at U p X Y;have t:Kp k S (B4++[all]):=H.trans (Kp.grow H.st _);obtain⟨c,f,A,c0,c1,k5,a4⟩:=jf (e1:=mV 0) (e2:=mK (.int 16)) (ρ:=di k r T N [ar (.int i),ar (.int j),ar (.int a),ar (.int b),ar odd,ar (.lst Z.length),ar (.lst B4.length)]) (m:=16) t.st rfl rfl (by decide) (by decide);have a3:k<B4.length:=H.st.lt;have L:f[B4.length]? =ar all:=(k5.oth B4.length (by rw[OG];exact QG _) (by omega)).trans bI;obtain⟨d,hd,ed⟩:=xS (ds:=all) c0 (by rw[Y];exact c1);have E:jS all c=ar d:=Fj ed;have K:d7 0 d=true:=by
  have:∀{l:List D},bU 0 l=b_->∀x∈l,d7 0 x=true:=λ{l} h=>by
   induction l with
   |nil=>intro x P;cases P
   |cons y l ih=>
    intro x P;unfold bU at h;rw[Po]at h;rcases O2.mp P with rfl|P
    ·exact h.1
    ·exact ih h.2 x P
  exact this X d hd
 have hF:fM [.lst k,.tup [aP r T,.tup (N.map tupI)]] S=ar (.ok d,f):=by refine fG (o:=.ret d) ?_ rfl;show jv [ar (.lst k),ar (.tup [aP r T,.tup (N.map tupI)]),none,none,none,none,none,none,none,none,none] S=_;unfold jv;exact(O4 (bh (ρ':=di k r T N [none,none,none,none,none,none,none]) rfl) S).trans ((aS e1).trans ((aS e2).trans ((O4 (bh (pC Hu)) S2).trans ((aS (bN C)).trans ((aS (bN e4)).trans ((aS w).trans ((aS (bN z)).trans ((aS (bN v)).trans ((aS n).trans ((aS (bN F)).trans ((aS (bN U)).trans (gC ((fu (x:=.lst B4.length) rfl A).trans (uF L E))))))))))))))
 obtain⟨S6,G,k6,l6⟩:=xP hs hF (t.trans k5) K;exact⟨d,S6,G,p d hd,K,k6,l6⟩
end
theorem Hw(Y:HH (mV 1) "tuple" "list" [ar x,ar x]=aC (.bl c_))(X:kR x x=aC (.bl b_))(Z:∀i,i<2->iV (mV i) "bool" [ar x,ar x]=aC (.bl b)):gh (k+1) [x,x]=aC (.bl b_):=by refine dM (o:=.ret (.bl b_)) ?_ rfl;show g0 _ [ar x,ar x]=_;unfold g0;refine(bh ((fe (b:=c_) (ff Y)).trans (if_neg (by decide)))).trans (eh ?_);show(a7 kR (mV 0) (mV 1) _>>=_)=_;rw[bX (x:=x) (y:=x) rfl rfl,X,aj];rw[show kh (D.bl b_)=aC b_ from rfl,aj,if_pos rfl,bX (Z 0 (by decide)) (Z 1 (by decide)),Ow]
def Hx:kR (tupI a) (tupI b)=aC (.bl (decide (a=b))):=bH λS=>by unfold kR;refine(eU (jD a) (jD b)).mpr ⟨?_,rfl⟩;unfold iI hI;rw[ou]
theorem Hy:gh (k+1) [.bl b,.bl b]=aC (.bl b_):=Hw (b:=b_) rfl (Mp.trans (by rw[SN])) λi Z=>by
 match i,Z with
 |0,_=>rfl
 |1,_=>rfl
section
variable {S:aE}{k r:Nat}{T N L:List (List Int)}{ns:List Int}{i:Nat}
def nb{e:TM}(h:e ρ=aC (.bl b_)):cM (bV e) ρ=aC false:=not_eq (ff h)
abbrev kK(r:Nat)(T N:List (List Int)):D:=.tup [aP r T,.tup (N.map tupI)]
theorem Fk{n:Nat}{E:List (List Int)}{o:aO}{d x9 x10:Option D}{t:D}{a0 a1 Y a3 Z a5 a6:Option D}(W:n<=7)(w:WebOk n E)(h:Thg t):om [a0,a1,Y,a3,Z,a5,a6,ar (aP n E),ar t,x9,x10]=aC (.nx [a0,a1,Y,a3,Z,a5,a6,ar (aP n E),ar t,x9,x10]):=by obtain⟨b,X,U⟩:=both W w h;unfold om;exact iw (nb (kU ((call2 (kU ((call2 rfl rfl).trans X)) (kU ((call2 rfl rfl).trans U))).trans Hy)))
theorem Fl{n:Nat}{E:List (List Int)}{x8 x9 x10:Option D}{a0 a1 a3 a5 a6:Option D}(hs:eZ S k)(X:n<=7)(w:WebOk n E)(W:RowsOk T)(U:∀s∈N,s.length=2)(K:N.length<=7)(O:r<=50):∃(y8:Option D) (S1:aE),lK [a0,a1,ar (.lst k),a3,ar (kK r T N),a5,a6,ar (aP n E),x8,x9,x10] S=ar (.ok (.nx [a0,a1,ar (.lst k),a3,ar (kK r T N),a5,a6,ar (aP n E),y8,x9,x10]),S1)/\Kp k S S1/\S1.length=S.length:=by
 obtain⟨R,S1,e1,t1,c1,k1,P⟩:=A4 hs W U K O;obtain⟨Z,S2,e2,t2,I,k2,Q⟩:=A4 k1.st W U K O;have H:Thg (kK r T N):=.web W (pL U) (by rw[OC];omega);have J:aV NG [a0,a1,ar (.lst k),a3,ar (kK r T N),a5,a6,ar (aP n E),x8,x9,x10] S=ar (.ok (.fz [kK r T N,R,Z]),S2):=by
  refine pH (jM (S1:=S2) (ys:=[kK r T N,R,Z]) (ba (x:=kK r T N) (S1:=S) rfl (ba (S1:=S1) ?_ (ba (S1:=S2) ?_ (es:=au) rfl))) GS) (k1.trans k2) (Q.trans P) (kX (Cp (kX je (kX (Cp (bf _)) rfl))) (kX c1 (kX I rfl)))
  ·show fW (aA _ _ _) S=_;rw[call2 (x:=.lst k) (y:=kK r T N) rfl rfl];exact e1
  ·show fW (aA _ _ _) S1=_;rw[call2 (x:=.lst k) (y:=kK r T N) rfl rfl];exact e2
 have Y:ez (aV NG) [a0,a1,ar (.lst k),a3,ar (kK r T N),a5,a6,ar (aP n E),x8,x9,x10] S=ar (.ok ⟨[kK r T N,R,Z],.none⟩,S2):=by unfold ez;rw[aH J];rfl
 refine⟨ar Z,S2,?_,k1.trans k2,Q.trans P⟩;unfold lK;refine vT Y ?_;rw[il rfl (O4 (Fk (o:=[]) (d:=none) X w H) S2),il rfl (O4 (Fk (o:=[]) (d:=none) X w t1) S2),il rfl (O4 (Fk (o:=[]) (d:=none) X w t2) S2),fB];rfl
theorem qd{n:Nat}(O:n<=7)(P:WebOk n L)(G:r<=14)(w:WebOk r T)(I:T.length<=7)(U:N.length=n)(Y:N.Perm T)(J:Ck n L N=b_):bA [aP n L,kK r T N]=aC (.bl b_):=by
 have W:=A3 w I;have K:∀s∈N,s.length=2:=λs hs=>by obtain⟨a,b,rfl,_⟩:=W.el s (Y.mem_iff.mp hs);rfl
 have Q:gj (iJ r T)=true:=AM (by omega) (by omega) w;have hw:=vX (i:=(r:Int)) W;rw[Q]at hw;have X:=AX (r:=(r:Int)) (T:=T) (n:=n) (pL K) (by rw[OC];have:=Y.length_eq;omega);have H:(N.map tupI).all (fH r)=true:=by have Z:(decide (0<=(r:Int)) && (decide ((r:Int)<=14) && ((T.map tupI).all (fH r) && qm (T.map tupI))))=true:=Q;simp only[hO]at Z;rw[Rj,OT]at Z⊢;exact λs hs=>Z.2.2.1 s (Y.mem_iff.mp hs)
 have hs:b0 N=T:=jX ((bu N).trans Y) (dC N) (w.ris.imp λh=>lz h);rw[OC,U,OS rfl,H,eN]at X;dsimp only at X;rw[hs,OS rfl]at X;refine(m7 (bw:=b_) (bn:=b_) (R:=N) O P hw (λ_=>X) λ_ _=>⟨rfl,U,λs hs=>?_⟩).trans (by rw[J];rfl);obtain⟨a,b,rfl,_,h⟩:=W.el s (Y.mem_iff.mp hs);exact⟨a,b,rfl,h⟩
theorem zQ{n:Nat}{E:List (List Int)}{d:D}(Y:7<n)(X:n<=14)(w:WebOk n E):bA [aP n E,d]=M.raise (great n):=by
 have Z:cb [aP n E,.int 7]=M.raise (great n):=by rw[xW X w,if_pos Y]
 have W:dU [aP n E]=M.raise (great n):=gz (lO (JX ((call2 rfl rfl).trans Z)));exact gz (mY (lO (JX ((dn rfl).trans W))))
theorem Fm(g:Good d)(Y:gj d=c_):bA [d,e]=M.raise (.exc "NoWeb" []):=by have Z:cb [d,.int 7]=M.raise (.exc "NoWeb" []):=gz (mY (lO (JX ((dn rfl).trans (EY g Y)))));have X:dU [d]=M.raise (.exc "NoWeb" []):=gz (lO (JX ((call2 rfl rfl).trans Z)));exact gz (mY (lO (JX ((dn rfl).trans X))))
end
theorem Ks:oj [ar (tupI t),ar (aP n E),ar (tupI s)]=aC (decide (t∈E) !=decide (t=s)):=
 dh ((bX (x:=tupI t) (y:=.tup (E.map tupI)) rfl rfl).trans vW) ((bX (x:=tupI t) (y:=tupI s) rfl rfl).trans Hx) Mq
theorem Hz(hs:eZ S k)(X:mV 2 ρ=aC (.lst k)):∃(s:List Int) (S1:aE),cg b7 (aV (cg cu (aV MK))) ρ S=ar (.ok (tupI s),S1)/\Kp k S S1/\S1.length=S.length:=by
 obtain⟨x,S1,e1,_,_,k1,Y⟩:=jf (e1:=mV 2) (e2:=mK (.int 7)) (ρ:=ρ) (m:=7) hs X rfl (by decide) (by decide);obtain⟨y,S2,e2,_,_,k2,Z⟩:=jf (e1:=mV 2) (e2:=mK (.int 7)) (ρ:=ρ) (m:=7) k1.st X rfl (by decide) (by decide);have W:aV MK ρ S=ar (.ok (.fz ([x,y].map D.int)),S2):=pH (jM (S1:=S2) (ys:=[.int x,.int y]) (ba e1 (ba e2 (es:=au) rfl)) mF) (k1.trans k2) (Z.trans Y) rfl;have U:aV (cg cu (aV MK)) ρ S=ar (.ok (.fz ((sortI [x,y]).map D.int)),S2):=by
  refine pH ?_ (k1.trans k2) (Z.trans Y) (ot _);show(af _ _ _>>=cu) S=_;rw[aH (ba W (es:=au) rfl)];show jq ([x,y].map D.int) S2=_;have:jq ([x,y].map D.int)=bB ((sortI [x,y]).map D.int):=by unfold jq;rw[fJ];exact if_pos (by show 2<64;decide)
  rw[this];exact dG (by rw[OC,(sortI_perm _).length_eq];exact mF)
 refine⟨sortI [x,y],S2,?_,k1.trans k2,Z.trans Y⟩;show(af _ _ _>>=b7) S=_;rw[aH (ba U (es:=au) rfl)];exact O4 (lQ (by rw[OC,(sortI_perm _).length_eq];exact mF)) S2
abbrev ev(ns:List Int)(i k r:Nat)(T L N:List (List Int))(o:aO):aO:=ar (.ro (ns.map D.int))::ar (.int i)::ar (.lst k)::ar (aP T.length L)::ar (kK r T N)::o
abbrev fv(s:List Int)(P:List (List Int))(o:aO):aO:=ar (tupI s)::ar (.fz (P.map tupI))::o
theorem Kt{S:aE}{ns:List Int}{i:Nat}{o2 o3 o4 o5 o6 o7 o8 o9 o10:Option D}:∃x2 x3 x4 x5 x6 x7 x8 x9 x10 S1,lL [ar (.ro (ns.map D.int)),ar (.int i),o2,o3,o4,o5,o6,o7,o8,o9,o10] S=ar (.ok (.nx [ar (.ro (ns.map D.int)),ar (.int i),x2,x3,x4,x5,x6,x7,x8,x9,x10]),S1):=by
 obtain⟨_,_,E,xs,rfl,rfl,hs⟩:=GV (S:=S) (ns:=ns) (k:=i) (Q:=λd S'=>∃xs,d= .lst S.length/\S'=S++[xs]/\eZ (S++[xs]) S.length) λxs h=>⟨xs,rfl,rfl,h⟩;generalize S++[xs]=T0 at E hs;generalize S.length=k at E hs;obtain⟨r,T,L,N,q,e1,W,B,r8,w,hl,j,pr,k1,_⟩:=Hr hs;have J:=A3 w W;have F:∀s∈N,s.length=2:=λs hs=>by obtain⟨a,b,rfl,_⟩:=J.el s (j.mem_iff.mp hs);rfl
 have hh:=qd (n:=T.length) W B (by omega) w W hl j pr;obtain⟨s,I,e2,k2,_⟩:=Hz (ρ:=(ev ns i k r T L N [o5,o6,o7,o8,o9,o10])) k1.st rfl;have o:=AU (l:=bF T.length) (mk:=tupI) (f:=tupI) (mi:=ez (aV (aA bg (af GQ au)))) (g:=gN 0) (t:=oj) (m:=sk) (js:=[none,ar 3,ar 5]) (ρ:=(ev ns i k r T L N [ar (tupI s),o6,o7,o8,o9,o10])) (λρ=>∃x,ρ=[x,ar (aP T.length L),ar (tupI s)]) (λt=>decide (t∈L) !=decide (t=s)) (mw (n:=T.length) (by omega) rfl) (OR (sD (by omega)) (by unfold lim;omega)) ⟨none,rfl⟩ (λt ht ρ v=>by obtain⟨x,rfl⟩:=v;exact⟨[ar (tupI t),ar (aP T.length L),ar (tupI s)],rfl,⟨_,rfl⟩,Ks,λ_=>rfl⟩) (bf _)
 have wP:WebOk T.length ((bF T.length).filter λt=>decide (t∈L) !=decide (t=s)):=WebOk.of_sub W List.filter_sublist;generalize (bF T.length).filter (λt=>decide (t∈L) !=decide (t=s))=P at o wP;have H:b9 (af GQ (af (cg b7 (mV 6)) au)) (ev ns i k r T L N (fv s P [o7,o8,o9,o10]))=aC (aP T.length P):=NQ rfl ((eM (x:=.fz (P.map tupI)) rfl).trans (lQ (by rw[OC];have:=wP.few;unfold lim;omega)));have C:aV JV (ev ns i k r T L N (fv s P [o7,o8,o9,o10]))=aC (.fz [aP T.length L,aP T.length L,aP T.length P]):=things (aL (x:=aP T.length L) rfl (aL (x:=aP T.length L) rfl (aL H (es:=au) rfl))) (kX je (kX je (kX je rfl))) (by show 3<=50;decide);have G:ez (aV JV) (ev ns i k r T L N (fv s P [o7,o8,o9,o10])) I=ar (.ok ⟨[aP T.length L,aP T.length L,aP T.length P],.none⟩,I):=by unfold ez;rw[C];rfl
 obtain⟨p8,U1,f1,g1,_⟩:=Fl (a0:=ar (.ro (ns.map D.int))) (a1:=ar (.int i)) (a3:=ar (aP T.length L)) (a5:=ar (tupI s)) (a6:=ar (.fz (P.map tupI))) (x8:=o8) (x9:=o9) (x10:=o10) (r:=r) (T:=T) (N:=N) k2.st W B J F (by omega) (by omega);obtain⟨q8,U2,f2,g2,_⟩:=Fl (a0:=ar (.ro (ns.map D.int))) (a1:=ar (.int i)) (a3:=ar (aP T.length L)) (a5:=ar (tupI s)) (a6:=ar (.fz (P.map tupI))) (x8:=p8) (x9:=o9) (x10:=o10) (r:=r) (T:=T) (N:=N) g1.st W B J F (by omega) (by omega);obtain⟨X,u,f3,g3,_⟩:=Fl (a0:=ar (.ro (ns.map D.int))) (a1:=ar (.int i)) (a3:=ar (aP T.length L)) (a5:=ar (tupI s)) (a6:=ar (.fz (P.map tupI))) (x8:=q8) (x9:=o9) (x10:=o10) (r:=r) (T:=T) (N:=N) g2.st W wP J F (by omega) (by omega);have hF:fD ⟨[aP T.length L,aP T.length L,aP T.length P],.none⟩ (gN 7) lK [aP T.length L,aP T.length L,aP T.length P] (ev ns i k r T L N (fv s P [o7,o8,o9,o10])) I=ar (.ok (.nx (ev ns i k r T L N (fv s P [ar (aP T.length P),X,o9,o10]))),u):=by rw[il rfl f1,il rfl f2,il rfl f3,fB];rfl
 obtain⟨Z,Y,p,e4,m3,A,c,k4,_⟩:=EM g3.st;obtain⟨d,K,e5,gd,wd,k5,_⟩:=Kh k4.st;have O:tF 9 10 L5 (ev ns i k r T L N (fv s P [ar (aP T.length P),X,o9,o10])) u=ar (.ok (.nx (ev ns i k r T L N (fv s P [ar (aP T.length P),X,ar (aP Z Y),ar d]))),K):=by
  refine EI (ba (x:=aP Z Y) (S1:=p) ?_ (ba (x:=d) (S1:=K) ?_ (es:=au) rfl))
  ·show fW (aA _ _ _) u=_;rw[dn (x:=.lst k) rfl];exact e4
  ·show fW (aA _ _ _) p=_;rw[dn (x:=.lst k) rfl];exact e5
 have z:aV L6 (ev ns i k r T L N (fv s P [ar (aP T.length P),X,ar (aP Z Y),ar d]))=aC (.fz [.int 12,.int Z,.int 7]):=things (aL (x:=.int 12) rfl (aL (x:=.int Z) rfl (aL (e:=mK (.int 7)) (x:=.int 7) rfl (es:=au) rfl))) rfl (by show 3<=50;decide);have r1:=EG (js:=[9,4]) (ρ:=(ev ns i k r T L N (fv s P [ar (aP T.length P),X,ar (aP Z Y),ar d]))) (ds:=[aP Z Y,kK r T N]) (m:=sm) (R:=bE) rfl (JX ((call2 rfl rfl).trans (zQ (by omega) A c))) Ce;have r2:=EG (js:=[10,4]) (ρ:=(ev ns i k r T L N (fv s P [ar (aP T.length P),X,ar (aP Z Y),ar d]))) (ds:=[d,kK r T N]) (m:=so) (R:=bE) rfl (JX ((call2 rfl rfl).trans (Fm gd wd))) Hd;have U:gr (Ky (!·)) (aV (aA bA (af (mV 3) (af (mV 4) au)))) (mK (.bl b_)) (ev ns i k r T L N [o5,o6,o7,o8,o9,o10])=aC false:=dh (kU ((call2 rfl rfl).trans hh)) (y:=.bl b_) rfl rfl;refine⟨ar (.lst k),ar (aP T.length L),ar (kK r T N),ar (tupI s),ar (.fz (P.map tupI)),ar (aP T.length P),X,ar (aP Z Y),ar d,K,?_⟩;unfold lL;refine(aS (ρ':=[ar (.ro (ns.map D.int)),ar (.int i),ar (.lst k),o3,o4,o5,o6,o7,o8,o9,o10]) (S1:=T0) (bN (x:=.lst k) ?_)).trans ((aS (ρ':=(ev ns i k r T L N [o5,o6,o7,o8,o9,o10])) (S1:=q) (zA (d:=.tup [aP T.length L,kK r T N]) ?_ rfl)).trans ((O4 (bh (iw U)) q).trans ((aS (ρ':=(ev ns i k r T L N [ar (tupI s),o6,o7,o8,o9,o10])) (bN e2)).trans ((O4 (bh (pC o)) I).trans ((aS (vT G hF)).trans ((aS O).trans ((O4 (bh (iw (dh r1 z NK))) K).trans (O4 (iw (dh r2 J3 NJ)) K))))))))
 ·rw[call2 (x:=.ro (ns.map D.int)) (y:=.int i) rfl rfl];exact E
 ·show fW (aA _ _ _) T0=_;rw[dn (x:=.lst k) rfl];exact e1
theorem yc{ns:List Int}:∀(ts:List Nat) (o1 o2 o3 o4 o5 o6 o7 o8 o9 o10:Option D) (S:aE),∃x1 Z x3 x4 x5 x6 x7 x8 x9 x10 S1,fD ⟨its,.none⟩ (gN 1) lL (ts.map λi:Nat=>.int (0+(i:Int))) [ar (.ro (ns.map D.int)),o1,o2,o3,o4,o5,o6,o7,o8,o9,o10] S=ar (.ok (.nx [ar (.ro (ns.map D.int)),x1,Z,x3,x4,x5,x6,x7,x8,x9,x10]),S1)
 |[],o1,o2,o3,o4,o5,o6,o7,o8,o9,o10,S=>⟨o1,o2,o3,o4,o5,o6,o7,o8,o9,o10,S,by rw[Qj,fB];rfl⟩
 |t::ts,o1,o2,o3,o4,o5,o6,o7,o8,o9,o10,S=>by
  obtain⟨Z,x3,x4,x5,x6,x7,x8,x9,x10,S1,h⟩:=Kt (S:=S) (ns:=ns) (i:=t) (o2:=o2) (o3:=o3) (o4:=o4) (o5:=o5) (o6:=o6) (o7:=o7) (o8:=o8) (o9:=o9) (o10:=o10);obtain⟨N,W,T,X,U,O,Q,L,P,Y,S2,R⟩:=yc (its:=its) (ns:=ns) ts (ar (.int t)) Z x3 x4 x5 x6 x7 x8 x9 x10 S1;refine⟨N,W,T,X,U,O,Q,L,P,Y,S2,?_⟩;rw[OW,Rk];exact(il rfl h).trans R
theorem Mz{ns:List Int}:runs (uD [.ro (ns.map D.int)]) S (λd _=>d= .bl b_):=by
 have hm:aA minD (af (cg ef (mV 0)) (af (mK (.int 6)) au)) [ar (.ro (ns.map D.int)),none,none,none,none,none,none,none,none,none,none]=aC (.int (if (6:Int)<(ns.map D.int).length then 6 else (ns.map D.int).length)):=(call2 (x:=.int (ns.map D.int).length) (y:=.int 6) rfl rfl).trans rfl;have Z:aA maxD (af (mK (.int 1)) (af (aA minD (af (cg ef (mV 0)) (af (mK (.int 6)) au))) au)) [ar (.ro (ns.map D.int)),none,none,none,none,none,none,none,none,none,none]=aC (.int (if (if (6:Int)<(ns.map D.int).length then (6:Int)else (ns.map D.int).length)>1 then (if (6:Int)<(ns.map D.int).length then 6 else (ns.map D.int).length)else 1)):=(call2 (x:=.int 1) rfl hm).trans rfl;generalize hn:(if (if (6:Int)<(ns.map D.int).length then (6:Int)else (ns.map D.int).length)>1 then (if (6:Int)<(ns.map D.int).length then (6:Int)else (ns.map D.int).length)else 1)=n at Z;have X:n<=6:=by rw[<-hn];split<;>split<;>omega
 have Q:1<=n:=by rw[<-hn];split<;>split<;>omega
 have W:=(sr Z).trans (B7 (by omega));obtain⟨R,T,x3,x4,x5,x6,x7,x8,x9,x10,S1,hf⟩:=yc (its:=a9 0 n.toNat) (ns:=ns) (ee n.toNat) none none none none none none none none none none S;have Y:∀m:Nat,WebOk m ([]:List (List Int)):=λm=>⟨(λt U=>by cases U),.nil,OX _⟩;have h0:bA [aP 0 [],kK 14 [] []]=aC (.bl b_):=qd (n:=0) (by decide) (Y 0) (by decide) (Y 14) (by decide) rfl (.refl _) rfl;refine⟨.bl b_,S1,fG (o:=.ret (.bl b_)) ?_ rfl,rfl⟩;unfold Er;exact(aS (sx W hf)).trans (O4 (eh ((bX (kU ((call2 (x:=aP 0 []) (y:=kK 14 [] []) rfl rfl).trans h0)) (y:=.bl b_) rfl).trans rfl)) S1)
def top(i:Nat):Stmt:=PySem.Challenge.pw_tiewebs_k09_root_papers_looked_at.main.body.getD i (.Pass ⟨0,0,0,0⟩)
structure Txt(K:dV)(mg:Str->Option a_):Prop where
 err:gT K=b_
 dk:Gy K=b_
 b_ValueError:mg "ValueError"=none
 b_all:mg "all"=none
 b_any:mg "any"=none
 b_bool:mg "bool"=none
 b_int:mg "int"=none
 b_isinstance:mg "isinstance"=none
 b_len:mg "len"=none
 b_list:mg "list"=none
 b_max:mg "max"=none
 b_min:mg "min"=none
 b_range:mg "range"=none
 b_set:mg "set"=none
 b_sorted:mg "sorted"=none
 b_tuple:mg "tuple"=none
 b_zip:mg "zip"=none
 g_MOST_CROWDED:∃t,mg "MOST_CROWDED"=ar (.int 7 t)
 g_MOST_PLACES:∃t,mg "MOST_PLACES"=ar (.int 14 t)
theorem my{N P:List Str}{Z:Scope}(a:Z.kind= .function:=by exact rfl)(b:Z.isCoroutine=false:=by exact rfl)(c:Z.isGenerator=false:=by exact rfl)(d:N.Nodup:=by decide+kernel)(e:N.take P.length=P:=by exact rfl)(f:∀x∈P,Z.names.lookup x=ar .local\/Z.names.lookup x=ar .cell:=by decide+kernel)(g:∀y∈Z.names,y.2≠ .free:=by decide+kernel):FnScope N P Z:=⟨a,b,c,d,e,f,g⟩
def yd:FnScope ["thing"] ["thing"] (aw (top 17)):=my
def zR:FnScope ["thing"] ["thing"] (aw (top 18)):=my
def v9:FnScope ["things"] ["things"] (aw (top 21)):=my
def ye:FnScope ["many"] ["many"] (aw (top 25)):=my
def yf:FnScope ["web","one","other"] ["web","one","other"] (aw (top 26)):=my
def wa:FnScope ["one","other"] ["one","other"] (aw (top 31)):=my
def qo:FnScope ["_law_script","_law_k"] ["_law_script","_law_k"] (aw (top 36)):=my
def iK:FnScope ["_law_state_here","_law_many","_law_found","_law_stirred"] ["_law_state_here","_law_many"] (aw (top 38)):=my
def jP:FnScope ["_law_many","_law_found","_law_a"] ["_law_many"] (aw (top 39)):=my
def iL:FnScope ["_law_web_here","_law_ties","_law_found","_law_a"] ["_law_web_here"] (aw (top 42)):=my
def tP:FnScope ["_law_web_here","_law_names"] ["_law_web_here","_law_names"] (aw (top 43)):=my
def tQ:FnScope ["_law_thing"] ["_law_thing"] (aw (top 45)):=my
def wb:FnScope ["_law_web_here","_law_one","_law_other"] ["_law_web_here","_law_one","_law_other"] (aw (top 47)):=my
def yg:FnScope ["many","thing"] ["many","thing"] (aw (top 19)):=my
def mO:FnScope ["_law_script","_law_k","_law_cell"] ["_law_script","_law_k"] (aw (top 37)):=my
def gp:FnScope ["_law_state_here","_law_things","_law_left","_law_found"] ["_law_state_here","_law_things"] (aw (top 40)):=my
def cI:FnScope ["_law_state_here","_law_many","_law_ties","_law_turn","_law_one","_law_other"] ["_law_state_here"] (aw (top 44)):=my
def lV:FnScope ["_law_thing","_law_tie"] ["_law_thing"] (aw (top 46)):=my
def kM:FnScope ["_law_state_here","_law_some"] ["_law_state_here"] (aw (top 49)):=my
theorem bZ:FnScope ["_law_state_here","_law_paper","_law_root","_law_names","_law_at","_law_to","_law_a","_law_b","_law_odd","_law_other","_law_some"] ["_law_state_here","_law_paper"] (aw (top 53)):=my
def pM:FnScope ["many","thing","low","high"] ["many","thing"] (aw (top 20)):=my
def dH:FnScope ["_law_state_here","_law_most","_law_many","_law_way","_law_ties","_law_row","_law_at","_law_odd"] ["_law_state_here","_law_most"] (aw (top 41)):=my
def d9:FnScope ["_law_web_here","_law_thing","_law_names","_law_name","_law_b","_law_a"] ["_law_web_here","_law_thing"] (aw (top 48)):=my
def pN:FnScope ["thing","many","ties"] ["thing"] (aw (top 22)):=my
def wc:FnScope ["root","many","thing"] ["root","many","thing"] (aw (top 33)):=my
def d4:FnScope ["_law_state_here","_law_root","_law_web_here","_law_row","_law_names","_law_number"] ["_law_state_here"] (aw (top 52)):=my
def yh:FnScope ["thing"] ["thing"] (aw (top 23)):=my
def nh:FnScope ["web","most"] ["web","most"] (aw (top 24)):=my
def qp:FnScope ["web"] ["web"] (aw (top 29)):=my
def we:FnScope ["_law_found","_law_due"] ["_law_found","_law_due"] (aw (top 50)):=my
def gO:FnScope ["web","thing","many","root","names"] ["web","thing"] (aw (top 34)):=my
def cf:FnScope ["_law_call","_law_error","e","_law_marks","_law_found"] ["_law_call"] (aw (top 51)):=my
theorem jh:FnScope ["_law_script","_law_k","_law_state_here","_law_web_here","_law_paper","_law_tie","_law_ties","_law_one","_law_thing","_law_great","_law_bad"] ["_law_script"] (aw (top 54)):=my
section
variable {P:ey}{w:fg}{K:dV}{mg:Str->Option a_}{base:gg}
theorem yi(F:Fun K "is_whole" "is_whole" (top 17) f fd)(Y:mg "is_whole"=ar (.ref f))(T:Txt K mg):DefX P w K mg base 1 "is_whole" ["thing"] dI:=
 bM (m:=sd) F Y (F.binds λ_ _ _ _ _ _ us X=>match us,X with|[_],_=>rfl) yd rfl λZ A outer s H E U=>
  aR (a8 (kj (dZ (Ts:="int") T.b_isinstance T.b_int (aa 0)) (ll (C3 (dZ (Ts:="bool") T.b_isinstance T.b_bool (aa 0))))))
theorem zS(F:Fun K "is_pair" "is_pair" (top 18) f fd)(Y:mg "is_pair"=ar (.ref f))(T:Txt K mg):DefX P w K mg base 1 "is_pair" ["thing"] cY:=
 bM (m:=uC) F Y (F.binds λ_ _ _ _ _ _ us U=>match us,U with|[_],_=>rfl) zR rfl λZ A outer s H E X=>
  aR (a8 (kj (dZ (Ts:="tuple") T.b_isinstance T.b_tuple (aa 0)) (ll (rz (fi X) (eB T.b_len (aa 0)) aq))))
theorem wg(F:Fun K "is_rising" "is_rising" (top 21) f fd)(Y:mg "is_rising"=ar (.ref f))(T:Txt K mg):DefX P w K mg base 1 "is_rising" ["things"] gW:=
 bM (m:=pW) F Y (F.binds λ_ _ _ _ _ _ us U=>match us,U with|[_],_=>rfl) v9 rfl λZ A outer s H E X=>
  aR (a8 (rD rfl T.b_all (aB (eR (t:=iX) (m:=iY) (mD (Nc:=["ahead","behind"]) (js:=[none,none]) (aw (top 21)) ["things"] (λ_=>rfl) rfl (by decide+kernel)) rfl (As T.b_zip (aa 0) (aB (gR (aa 0) (jo aq) jm))) (λC ex s2 S=>⟨iS rfl (bO (aZ 0 (show(["ahead","behind"]:List Str).Nodup by decide+kernel)) (bO (aZ 1 (show(["ahead","behind"]:List Str).Nodup by decide+kernel)) fP)),gH,De (Gd X) (aa 0) (aa 1)⟩)))))
theorem yj(F:Fun K "pairs_of" "pairs_of" (top 25) f fd)(Y:mg "pairs_of"=ar (.ref f))(T:Txt K mg):DefX P w K mg base 1 "pairs_of" ["many"] fF:=
 bM (m:=se) F Y (F.binds λ_ _ _ _ _ _ us X=>match us,X with|[_],_=>rfl) ye rfl λZ A outer s H E U=>
  aR (a8 (aB (Eb (t:=fj) (t2:=dJ) (m:=cw) (mD (Nc:=["low","high","many"]) (js:=[none,none,ar 0]) (aw (top 25)) ["many"] (λ_=>rfl) rfl (by decide+kernel)) rfl (eS T.b_range (aa 0)) (λC ex s2 S=>⟨aZ 0 (show(["low","high","many"]:List Str).Nodup by decide+kernel),gH,l9 T.b_range (bK (aa 0) aq) (aa 2),aZ 1 (show(["low","high","many"]:List Str).Nodup by decide+kernel),gH,bo (ae (aa 0) (ae (aa 1) ag ai) ai)⟩))))
theorem yk(F:Fun K "are_tied" "are_tied" (top 26) f fd)(Y:mg "are_tied"=ar (.ref f))(T:Txt K mg):DefX P w K mg base 1 "are_tied" ["web","one","other"] kG:=
 bM (m:=sf) F Y (F.binds λ_ _ _ _ _ _ us U=>match us,U with|[_,_,_],_=>rfl) yf rfl λZ A outer s H E X=>
  aR (a8 (uf (fi X) (bo (ae (rB rfl T.b_min (ae (aa 1) (ae (aa 2) ag ai) ai)) (ae (oU rfl T.b_max (ae (aa 1) (ae (aa 2) ag ai) ai)) ag aY) aY)) (aD (aa 0) aq)))
theorem wj(F:Fun K "ties_meet" "ties_meet" (top 31) f fd)(Y:mg "ties_meet"=ar (.ref f))(T:Txt K mg):DefX P w K mg base 1 "ties_meet" ["one","other"] ju:=
 bM (m:=pX) F Y (F.binds λ_ _ _ _ _ _ us U=>match us,U with|[_,_],_=>rfl) wa rfl λZ A outer s H E X=>
  aR (a8 (JM rfl T.b_any (aB (eR (t:=iZ) (m:=i5) (mD (Nc:=["place","other"]) (js:=[none,ar 1]) (aw (top 31)) ["one","other"] (λ_=>rfl) rfl (by decide+kernel)) rfl (fR (aa 0)) (λC ex s2 S=>⟨aZ 0 (show(["place","other"]:List Str).Nodup by decide+kernel),gH,uf (fi X) (aa 0) (aa 1)⟩)))))
theorem qr(F:Fun K "_law_cell_at" "_law_cell_at" (top 36) f fd)(Y:mg "_law_cell_at"=ar (.ref f))(T:Txt K mg):DefX P w K mg base 1 "_law_cell_at" ["_law_script","_law_k"] eF:=
 bM (m:=lF) F Y (F.binds λ_ _ _ _ _ _ us U=>match us,U with|[_,_],_=>rfl) qo rfl λZ A outer s H E X=>
  ay (dy (Df (Gd X) (aa 1) (eB T.b_len (aa 0))) (aR (a8 (aD (aa 0) (aa 1)))) b8) (aR (a8 aq))
theorem wk(F:Fun K "_law_take" "_law_take" (top 38) f fd)(Y:mg "_law_take"=ar (.ref f))(T:Txt K mg):DefX P w K mg base 1 "_law_take" ["_law_state_here","_law_many"] aF:=
 bM (m:=pY) F Y (F.binds λ_ _ _ _ _ _ us X=>match us,X with|[_,_],_=>rfl) iK rfl λZ A outer s H E U=>
  ay (dy (cJ (aD (aa 0) aq)) (ay (bp 2 iK.nd (lu (aD (aa 0) aq) (aa 1)) (hs:=df)) (ay (jG (vm (aD (aa 0) aq) (aa 1)) (nM (aa 0) aq)) (aR (a8 (aa 2))))) b8) (ay (jG (lu (bK (rm (aD (aa 0) aq) aq) aq) aq) (nM (aa 0) aq)) (ay (bp 3 iK.nd (lu (bK (bK (rm (aD (aa 0) aq) (aD (aa 0) aq)) (rm aq (aD (aa 0) aq))) aq) aq) (hs:=df)) (ay (bp 3 iK.nd (lu (bK (rm (aa 3) (aa 3)) (rm aq (aa 3))) aq) (hs:=df)) (aR (a8 (lu (vm (aa 3) aq) (aa 1)))))))
theorem tR(F:Fun K "_law_pairs" "_law_pairs" (top 39) f fd)(Y:mg "_law_pairs"=ar (.ref f))(T:Txt K mg):DefX P w K mg base 1 "_law_pairs" ["_law_many"] bg:=
 bM (m:=n6) F Y (F.binds λ_ _ _ _ _ _ us X=>match us,X with|[_],_=>rfl) jP rfl λZ A outer s H E U=>
  ay (bp 1 jP.nd (br ag) (hs:=iF)) (ay (hU (b:=ic) PH rfl (eS T.b_range (aa 0)) (aZ 2 jP.nd) (aR (fO (ug (aa 1) (aB (eR (t:=fy) (m:=fA) (mD (Nc:=["_law_b","_law_a"]) (js:=[none,ar 2]) (aw (top 39)) ["_law_many","_law_found","_law_a"] (λ_=>rfl) rfl (by decide+kernel)) rfl (l9 T.b_range (bK (aa 2) aq) (aa 0)) (λC ex s2 S=>⟨aZ 0 (show(["_law_b","_law_a"]:List Str).Nodup by decide+kernel),gH,bo (ae (aa 1) (ae (aa 0) ag ai) ai)⟩))))))) (aR (a8 (aa 1))))
theorem wm(F:Fun K "_law_made" "_law_made" (top 42) f fd)(Y:mg "_law_made"=ar (.ref f))(T:Txt K mg):DefX P w K mg base 1 "_law_made" ["_law_web_here"] gX:=
 bM (m:=pZ) F Y (F.binds λ_ _ _ _ _ _ us U=>match us,U with|[_],_=>rfl) iL rfl λZ A outer s H E X=>
  ay (bp 1 iL.nd (aD (aa 0) aq) (hs:=iG)) (ay (bp 2 iL.nd (br ag) (hs:=iF)) (ay (hU (b:=i8) PH rfl (eS T.b_range (eB T.b_len (aa 1))) (aZ 3 iL.nd) (aR (fO (ug (aa 2) (aB (eR (t:=i6) (m:=i7) (mD (Nc:=["_law_b","_law_ties","_law_a"]) (js:=[none,ar 1,ar 3]) (aw (top 42)) ["_law_web_here","_law_ties","_law_found","_law_a"] (λ_=>rfl) rfl (by decide+kernel)) rfl (l9 T.b_range (bK (aa 3) aq) (eB T.b_len (aa 1))) (λC ex s2 S=>⟨aZ 0 (show(["_law_b","_law_ties","_law_a"]:List Str).Nodup by decide+kernel),kq (Df (Gd X) (uA rfl T.b_len T.b_set (aB (bK (aD (aa 1) (aa 2)) (aD (aa 1) (aa 0))))) aq),bo (ae (aa 2) (ae (aa 0) ag ai) ai)⟩))))))) (aR (a8 (bo (ae (eB T.b_len (aa 1)) (ae (d5 T.b_tuple (aa 2)) ag aY) aY))))))
theorem tS(F:Fun K "_law_named" "_law_named" (top 43) f fd)(Y:mg "_law_named"=ar (.ref f))(T:Txt K mg):DefX P w K mg base 1 "_law_named" ["_law_web_here","_law_names"] fX:=
 bM (m:=n8) F Y (F.binds λ_ _ _ _ _ _ us X=>match us,X with|[_,_],_=>rfl) tP rfl λZ A outer s H E U=>
  aR (a8 (bo (ae (aD (aa 0) aq) (ae (d5 T.b_tuple (aB (iO T.b_sorted (aB (eR (t:=ie) (m:=ig) (mD (Nc:=["_law_a","_law_b","_law_names"]) (js:=[none,none,ar 1]) (aw (top 43)) ["_law_web_here","_law_names"] (λ_=>rfl) rfl (by decide+kernel)) rfl (fR (aD (aa 0) aq)) (λC ex s2 S=>⟨iS rfl (bO (aZ 0 (show(["_law_a","_law_b","_law_names"]:List Str).Nodup by decide+kernel)) (bO (aZ 1 (show(["_law_a","_law_b","_law_names"]:List Str).Nodup by decide+kernel)) fP)),gH,d5 T.b_tuple (aB (iO T.b_sorted (aB (br (ae (aD (aa 2) (aa 0)) (ae (aD (aa 2) (aa 1)) ag aW) aW)))))⟩)))))) ag aY) aW)))
theorem tT(F:Fun K "_law_whole" "_law_whole" (top 45) f fd)(Y:mg "_law_whole"=ar (.ref f))(T:Txt K mg):DefX P w K mg base 1 "_law_whole" ["_law_thing"] dE:=
 bM (m:=oa) F Y (F.binds λ_ _ _ _ _ _ us X=>match us,X with|[_],_=>rfl) tQ rfl λZ A outer s H E U=>
  aR (a8 (kj (dZ (Ts:="int") T.b_isinstance T.b_int (aa 0)) (ll (C3 (dZ (Ts:="bool") T.b_isinstance T.b_bool (aa 0))))))
theorem wo(F:Fun K "_law_tied" "_law_tied" (top 47) f fd)(Y:mg "_law_tied"=ar (.ref f))(T:Txt K mg):DefX P w K mg base 1 "_law_tied" ["_law_web_here","_law_one","_law_other"] gY:=
 bM (m:=p9) F Y (F.binds λ_ _ _ _ _ _ us U=>match us,U with|[_,_,_],_=>rfl) wb rfl λZ A outer s H E X=>
  aR (a8 (uf (fi X) (bo (ae (rB rfl T.b_min (ae (aa 1) (ae (aa 2) ag ai) ai)) (ae (oU rfl T.b_max (ae (aa 1) (ae (aa 2) ag ai) ai)) ag aY) aY)) (aD (aa 0) aq)))
theorem ym(F:Fun K "is_place" "is_place" (top 19) f fd)(U:mg "is_place"=ar (.ref f))(T:Txt K mg)(Z:DefX P w K mg base 1 "is_whole" ["thing"] dI):DefX P w K mg base 2 "is_place" ["many","thing"] i9:=
 bM (m:=sg) F U (F.binds λ_ _ _ _ _ _ us S=>match us,S with|[_,_],_=>rfl) yg rfl λX A outer s H E Y=>
  aR (a8 (kj (aJ Z (Y.mono (by decide)) (ae (aa 1) ag ai)) (ll (Dg tY (wD.or (qX (Gd Y))) (iA λ_ _ _ _=>.bl _) rq aq (aa 1) (aa 0)))))
theorem tU(F:Fun K "_law_state" "_law_state" (top 37) f fd)(X:mg "_law_state"=ar (.ref f))(T:Txt K mg)(Z:DefX P w K mg base 1 "_law_cell_at" ["_law_script","_law_k"] eF):DefX P w K mg base 2 "_law_state" ["_law_script","_law_k"] iH:=
 bM (m:=og) F X (F.binds λ_ _ _ _ _ _ us S=>match us,S with|[_,_],_=>rfl) mO rfl λY A outer s H E U=>
  ay (bp 2 mO.nd (aJ Z (U.mono (by decide)) (ae (aa 0) (ae (aa 1) ag ai) ai)) (hs:=fV)) (ay (dy (Ls (aa 2) (Da aq aq)) (aR (a8 (br (ae (lr (aa 2) (Da aq aq)) (ae dO ag az) cC)))) b8) (aR (a8 (br (ae (lu (aa 2) aq) (ae dO ag az) cC)))))
theorem oC(F:Fun K "_law_mixed_row" "_law_mixed_row" (top 40) f fd)(U:mg "_law_mixed_row"=ar (.ref f))(T:Txt K mg)(Z:DefX P w K mg base 1 "_law_take" ["_law_state_here","_law_many"] aF):DefX P w K mg base 2 "_law_mixed_row" ["_law_state_here","_law_things"] cn:=
 bM (m:=eX) F U (F.binds λ_ _ _ _ _ _ us S=>match us,S with|[_,_],_=>rfl) gp rfl λX A outer s H E Y=>
  ay (bp 2 gp.nd (nL T.b_list (aa 1)) (hs:=fV)) (ay (bp 3 gp.nd (br ag) (hs:=iF)) (ay (C6 (b:=cR) 64 PH (ir (fi Y) (aa 2) (aB (br ag))) (aR (fO (iN (aa 3) (Ds (aa 2) (aB (aJ Z (Y.mono (by decide)) (ae (aa 0) (ae (eB T.b_len (aa 2)) ag aY) ai)))))))) (aR (a8 (aa 3)))))
theorem oE(F:Fun K "_law_great_web" "_law_great_web" (top 44) f fd)(U:mg "_law_great_web"=ar (.ref f))(T:Txt K mg)(Z:DefX P w K mg base 1 "_law_take" ["_law_state_here","_law_many"] aF):DefX P w K mg base 2 "_law_great_web" ["_law_state_here"] dR:=
 bM (m:=eY) F U (F.binds λ_ _ _ _ _ _ us S=>match us,S with|[_],_=>rfl) cI rfl λX A outer s H E Y=>
  ay (bp 1 cI.nd (bK aq (aB (aJ Z (Y.mono (by decide)) (ae (aa 0) (ae aq ag az) ai)))) (hs:=df)) (ay (bp 2 cI.nd (br ag) (hs:=iF)) (ay (hU (b:=fh) PH rfl (eS T.b_range (aB (aJ Z (Y.mono (by decide)) (ae (aa 0) (ae aq ag az) ai)))) (aZ 3 cI.nd) (ay (bp 4 cI.nd (aB (aJ Z (Y.mono (by decide)) (ae (aa 0) (ae (aa 1) ag ai) ai))) (hs:=fV)) (ay (bp 5 cI.nd (lu (bK (bK (aa 4) aq) (aB (aJ Z (Y.mono (by decide)) (ae (aa 0) (ae (lr (aa 1) aq) ag cC) ai)))) (aa 1)) (hs:=df)) (aR (fO (iN (aa 2) (bo (ae (rB rfl T.b_min (ae (aa 4) (ae (aa 5) ag ai) ai)) (ae (oU rfl T.b_max (ae (aa 4) (ae (aa 5) ag ai) ai)) ag aY) aY)))))))) (aR (a8 (bo (ae (aa 1) (ae (d5 T.b_tuple (aB (nY rfl (N5 Y) T.b_sorted T.b_set (aa 2)))) ag aY) ai))))))
theorem sQ(F:Fun K "_law_is_web" "_law_is_web" (top 46) f fd)(U:mg "_law_is_web"=ar (.ref f))(T:Txt K mg)(Z:DefX P w K mg base 1 "_law_whole" ["_law_thing"] dE):DefX P w K mg base 2 "_law_is_web" ["_law_thing"] cy:=
 bM (m:=gJ) F U (F.binds λ_ _ _ _ _ _ us S=>match us,S with|[_],_=>rfl) lV rfl λX A outer s H E Y=>
  ay (dy (tj (iq (cK (cJ (dZ (Ts:="tuple") T.b_isinstance T.b_tuple (aa 0)))) (iq (ir (fi Y) (eB T.b_len (aa 0)) aq) (iq (cK (cJ (aB (aJ Z (Y.mono (by decide)) (ae (aD (aa 0) aq) ag aW))))) (kl (cK (wV tY tY (iA λ_ _ _ _=>.bl _) (iA λ_ _ _ _=>.bl _) aq (aD (aa 0) aq) aq))))))) (aR (a8 dO)) b8) (ay (dy (cK (cJ (dZ (Ts:="tuple") T.b_isinstance T.b_tuple (aD (aa 0) aq)))) (aR (a8 dO)) b8) (ay (hU (b:=cZ) PH rfl (fR (aD (aa 0) aq)) (aZ 1 lV.nd) (ay (dy (tj (iq (cK (cJ (dZ (Ts:="tuple") T.b_isinstance T.b_tuple (aa 1)))) (iq (ir (fi Y) (eB T.b_len (aa 1)) aq) (iq (cK (cJ (aB (aJ Z (Y.mono (by decide)) (ae (aD (aa 1) aq) ag aW))))) (kl (cK (cJ (aB (aJ Z (Y.mono (by decide)) (ae (aD (aa 1) aq) ag aW)))))))))) (aR (a8 dO)) b8) (aR (dy (cK (Bu tY (wD.or (qX (Gd Y))) (wD.or (qX (Gd Y))) (iA λ_ _ _ _=>.bl _) rq rq aq (aD (aa 1) aq) (aD (aa 1) aq) (aD (aa 0) aq))) (aR (a8 dO)) b8)))) (aR (a8 (rz (fi Y) (aB (nL T.b_list (aD (aa 0) aq))) (aB (nY rfl (N5 Y) T.b_sorted T.b_set (aD (aa 0) aq))))))))
theorem qu(F:Fun K "_law_bad_web" "_law_bad_web" (top 49) f fd)(R:mg "_law_bad_web"=ar (.ref f))(T:Txt K mg)(Z:DefX P w K mg base 1 "_law_take" ["_law_state_here","_law_many"] aF):DefX P w K mg base 2 "_law_bad_web" ["_law_state_here"] fZ:=by
 refine bM (m:=fY) F R (F.binds λ_ _ _ _ _ _ us Q=>match us,Q with|[_],_=>rfl) kM rfl λY A outer s H E S=>?_;have key:∀e pos pos' X,SE (kP (mE P w) P w K mg base ["_law_state_here","_law_some"] "_law_bad_web" (aw (top 49)) f Y A outer s H E).nox cL e X->lb e (ar (.Name "_law_some" pos')) pos.line (kP (mE P w) P w K mg base ["_law_state_here","_law_some"] "_law_bad_web" (aw (top 49)) f Y A outer s H E).nox.env=aC c_->SS (kP (mE P w) P w K mg base ["_law_state_here","_law_some"] "_law_bad_web" (aw (top 49)) f Y A outer s H E).nox cL (.Assign [.Name "_law_some" pos'] e pos) (bR 1 X):=λe pos pos' X h hs=>bp 1 kM.nd h (hs:=hs);have U:∀pos,SE (kP (mE P w) P w K mg base ["_law_state_here","_law_some"] "_law_bad_web" (aw (top 49)) f Y A outer s H E).nox cL (.Name "_law_some" pos) (mV 1):=λpos=>aa 1;refine ay ?_ ?_
 ·with_reducible refine key _ _ _ _ ?_ iF
  with_reducible refine br ?_
  with_reducible refine aK jF ?_ az
  with_reducible refine aK aq ?_ az
  with_reducible refine aK (cN 6 ?_) ?_ aQ
  case refine_1=>rfl
  with_reducible refine aK (cN 6 ?_) ?_ aQ
  case refine_1=>rfl
  with_reducible refine aK (cN 6 ?_) ?_ aQ
  case refine_1=>rfl
  with_reducible refine aK (cN 6 ?_) ?_ aQ
  case refine_1=>rfl
  with_reducible refine aK ?_ ?_ aQ
  case refine_1=>exact(bo (ae aq (ae (br ag) ag n0) az))
  with_reducible refine aK ?_ ?_ n0
  case refine_1=>exact(br (ae aq (ae (cN 6 rfl) ag aQ) az))
  with_reducible refine aK (cN 6 ?_) ?_ aQ
  case refine_1=>rfl
  with_reducible refine aK (cN 6 ?_) ?_ aQ
  case refine_1=>rfl
  with_reducible refine aK Dt ?_ An
  with_reducible refine aK rj ?_ az
  exact ag
 refine ay ?_ ?_
 ·with_reducible refine key _ _ _ _ ?_ df
  with_reducible refine bK (U _) ?_
  with_reducible refine br ?_
  with_reducible refine aK (cN 6 ?_) ?_ aQ
  case refine_1=>rfl
  with_reducible refine aK (cN 6 ?_) ?_ aQ
  case refine_1=>rfl
  with_reducible refine aK (cN 6 ?_) ?_ aQ
  case refine_1=>rfl
  with_reducible refine aK (cN 6 ?_) ?_ aQ
  case refine_1=>rfl
  with_reducible refine aK (cN 6 ?_) ?_ aQ
  case refine_1=>rfl
  exact ag
 refine ay ?_ ?_
 ·with_reducible refine key _ _ _ _ ?_ df
  with_reducible refine bK (U _) ?_
  with_reducible refine br ?_
  with_reducible refine aK (cN 6 ?_) ?_ aQ
  case refine_1=>rfl
  with_reducible refine aK (cN 6 ?_) ?_ aQ
  case refine_1=>rfl
  with_reducible refine aK (cN 6 ?_) ?_ aQ
  case refine_1=>rfl
  with_reducible refine aK (cN 6 ?_) ?_ aQ
  case refine_1=>rfl
  with_reducible refine aK ?_ ?_ aQ
  case refine_1=>exact(bo (ae aq (ae (bo (ae (br (ae aq (ae aq ag az) az)) ag n0)) ag aQ) az))
  with_reducible refine aK (cN 6 ?_) ?_ aQ
  case refine_1=>rfl
  with_reducible refine aK (cN 6 ?_) ?_ aQ
  case refine_1=>rfl
  with_reducible refine aK (cN 6 ?_) ?_ aQ
  case refine_1=>rfl
  exact ag
 exact(aR (a8 (aD (aa 1) (aJ Z (S.mono (by decide)) (ae (aa 0) (ae aq ag az) ai)))))
theorem wq(F:Fun K "_law_bent" "_law_bent" (top 53) f fd)(U:mg "_law_bent"=ar (.ref f))(T:Txt K mg)(Z:DefX P w K mg base 1 "_law_take" ["_law_state_here","_law_many"] aF):DefX P w K mg base 2 "_law_bent" ["_law_state_here","_law_paper"] fM:=
 bM (m:=jv) F U (F.binds λ_ _ _ _ _ _ us S=>match us,S with|[_,_],_=>rfl) bZ rfl λX A outer s H E Y=>
  ay (jG (aa 1) (iS rfl (bO (aZ 2 bZ.nd) (bO (aZ 3 bZ.nd) fP)))) (ay (C5 4 5 rfl bZ.nd (ae (aB (aJ Z (Y.mono (by decide)) (ae (aa 0) (ae (bK (eB T.b_len (aa 3)) aq) ag cC) ai))) (ae (aB (aJ Z (Y.mono (by decide)) (ae (aa 0) (ae (bK (eB T.b_len (aa 3)) aq) ag cC) ai))) ag aY) aY)) (ay (C5 6 7 rfl bZ.nd (ae (aB (aJ Z (Y.mono (by decide)) (ae (aa 0) (ae (bK (aD (aa 2) aq) aq) ag cC) ai))) (ae (aB (aJ Z (Y.mono (by decide)) (ae (aa 0) (ae (bK (aD (aa 2) aq) aq) ag cC) ai))) ag aY) aY)) (ay (bp 8 bZ.nd (aB (br (by (refine aK (bo (ae (aa 6) (ae (aa 7) ag ai) ai)) ?_ aQ;refine aK (bo (ae (aa 7) (ae (aa 6) ag ai) ai)) ?_ aQ;refine aK (bo (ae (rB rfl T.b_min (ae (aa 6) (ae (aa 7) ag ai) ai)) (ae (oU rfl T.b_max (ae (aa 6) (ae (aa 7) ag ai) ai)) ag aY) aY)) ?_ aQ;refine aK (bo (ae (aa 6) ag ai)) ?_ aQ;refine aK (aB (br (ae (aa 6) (ae (aa 7) ag ai) ai))) ?_ n0;refine aK jF ?_ az;refine aK rj ?_ az;refine aK (cN 6 rfl) ?_ aQ;refine aK (bo (ae (aa 6) (ae (aa 7) (ae (aa 7) ag ai) ai) ai)) ?_ aQ;refine aK aq ?_ az;exact ag)))) (hs:=iF)) (ay (bp 8 bZ.nd (aD (aa 8) (aB (aJ Z (Y.mono (by decide)) (ae (aa 0) (ae aq ag az) ai)))) (hs:=iG)) (ay (bp 9 bZ.nd (bK (aB (nL T.b_list (aa 3))) (aB (br (ae (cN 6 rfl) ag aQ)))) (hs:=df)) (ay (jG (bo (ae (aD (aa 9) (aa 5)) (ae (aD (aa 9) (aa 4)) ag aW) aW)) (iS rfl (bO (nM (aa 9) (aa 4)) (bO (nM (aa 9) (aa 5)) fP)))) (ay (bp 10 bZ.nd (br (ae (bo (ae (aa 2) (ae (d5 T.b_tuple (aB (gR (aa 9) jm (jo (eB T.b_len (aa 3)))))) ag aY) ai)) (ae (bo (ae (aa 2) (ae (aB (bK (aB (bK (aB (gR (aa 3) jm (jo (aa 4)))) (bo (ae (aa 8) ag ai)))) (aB (gR (aa 3) (jo (bK (aa 4) aq)) jm)))) ag cC) ai)) (ae (bo (ae (aa 2) (ae (aB (nL T.b_list (aa 3))) ag aY) ai)) ag aQ) aQ) aQ)) (hs:=iF)) (ay (bp 10 bZ.nd (bK (aa 10) (aB (br (by (refine aK (bo (ae (aa 2) ag ai)) ?_ aQ;refine aK (bo (ae (aa 2) (ae (aB (bK (aB (gR (aa 3) jm (jo (aa 4)))) (aB (gR (aa 3) (jo (bK (aa 4) aq)) jm)))) ag cC) ai)) ?_ aQ;refine aK (bo (ae (aa 2) (ae (aB (bK (aa 3) (cN 6 rfl))) ag cC) ai)) ?_ aQ;refine aK (aB (br (ae (aa 2) (ae (aa 3) ag ai) ai))) ?_ n0;exact ag))))) (hs:=df)) (ay (fO (iN (aa 10) (bo (ae (aa 3) (ae (aa 2) ag ai) ai)))) (ay (bp 10 bZ.nd (bK (aa 10) (aB (br (by (refine aK (bo (ae (bo (ae (bK (aD (aa 2) aq) aq) (ae (aD (aa 2) aq) ag aW) cC)) (ae (aa 3) ag ai) aQ)) ?_ aQ;refine aK (bo (ae (bo (ae (lr (aD (aa 2) aq) aq) (ae (aD (aa 2) aq) ag aW) cC)) (ae (aa 3) ag ai) aQ)) ?_ aQ;refine aK jF ?_ az;refine aK Dt ?_ An;exact ag))))) (hs:=df)) (ay (bp 10 bZ.nd (bK (aa 10) (aB (br (by (refine aK (bo (ae (bo (ae (aD (aa 2) aq) (ae (aB (gR (aD (aa 2) aq) (jo aq) jm)) ag aW) aW)) (ae (aa 3) ag ai) aQ)) ?_ aQ;refine aK (bo (ae jF (ae (aa 3) ag ai) az)) ?_ aQ;refine aK (bo (ae (aa 2) (ae (aa 3) (ae (cN 6 rfl) ag aQ) ai) ai)) ?_ aQ;refine aK (bo (ae (aa 2) (ae jF ag az) ai)) ?_ aQ;exact ag))))) (hs:=df)) (aR (a8 (aD (aa 10) (aB (aJ Z (Y.mono (by decide)) (ae (aa 0) (ae aq ag az) ai)))))))))))))))))
theorem Cq(F:Fun K "is_tie" "is_tie" (top 20) f fd)(S:mg "is_tie"=ar (.ref f))(T:Txt K mg)(Y:DefX P w K mg base 1 "is_pair" ["thing"] cY)(Z:DefX P w K mg base 2 "is_place" ["many","thing"] i9):DefX P w K mg base 3 "is_tie" ["many","thing"] j9:=
 bM (m:=sh) F S (F.binds λ_ _ _ _ _ _ us R=>match us,R with|[_,_],_=>rfl) pM rfl λU A outer s H E X=>
  ay (dy (cK (cJ (aJ Y (X.mono (by decide)) (ae (aa 1) ag ai)))) (aR (a8 dO)) b8) (ay (jG (aa 1) (iS rfl (bO (aZ 2 pM.nd) (bO (aZ 3 pM.nd) fP)))) (aR (a8 (kj (aJ Z (X.mono (by decide)) (ae (aa 0) (ae (aa 2) ag ai) ai)) (kj (aJ Z (X.mono (by decide)) (ae (aa 0) (ae (aa 3) ag ai) ai)) (ll (De (Gd X) (aa 2) (aa 3))))))))
theorem yo(F:Fun K "_law_web" "_law_web" (top 41) f fd)(Q:mg "_law_web"=ar (.ref f))(T:Txt K mg)(Z:DefX P w K mg base 1 "_law_take" ["_law_state_here","_law_many"] aF)(Y:DefX P w K mg base 1 "_law_pairs" ["_law_many"] bg)(X:DefX P w K mg base 2 "_law_mixed_row" ["_law_state_here","_law_things"] cn):DefX P w K mg base 3 "_law_web" ["_law_state_here","_law_most"] ja:=
 bM (m:=kH) F Q (F.binds λ_ _ _ _ _ _ us O=>match us,O with|[_,_],_=>rfl) dH rfl λR A outer s H E U=>
  ay (bp 2 dH.nd (oU rfl T.b_max (ae aq (ae (lr (aa 1) (aD (aB (br (by (refine aK aq ?_ az;refine aK aq ?_ az;refine aK aq ?_ az;refine aK aq ?_ az;refine aK aq ?_ az;refine aK aq ?_ az;refine aK aq ?_ az;refine aK (aa 1) ?_ ai;exact ag)))) (aB (aJ Z (U.mono (by decide)) (ae (aa 0) (ae aq ag az) ai))))) ag cC) az)) (hs:=fV)) (ay (bp 3 dH.nd (aB (aJ Z (U.mono (by decide)) (ae (aa 0) (ae aq ag az) ai))) (hs:=fV)) (ay (bp 4 dH.nd (eR (t:=jK) (m:=jL) (mD (Nc:=["_law_tie","_law_state_here","_law_way"]) (js:=[none,ar 0,ar 3]) (aw (top 41)) ["_law_state_here","_law_most","_law_many","_law_way","_law_ties","_law_row","_law_at","_law_odd"] (λ_=>rfl) rfl (by decide+kernel)) rfl (fR (aB (aJ Y (U.mono (by decide)) (ae (aa 2) ag ai)))) (λC ex s2 S=>⟨aZ 0 (show(["_law_tie","_law_state_here","_law_way"]:List Str).Nodup by decide+kernel),kq (Df (Gd U) (aB (aJ Z (U.mono (by decide)) (ae (aa 1) (ae aq ag az) ai))) (aD (aB (br (ae aq (ae aq (ae aq ag az) az) az))) (lu (aa 2) aq))),aa 0⟩))) (ay (bp 5 dH.nd (aB (aJ X (U.mono (by decide)) (ae (aa 0) (ae (aB (nP rfl T.b_list T.b_range (aa 2))) ag aY) ai))) (hs:=fV)) (ay (dy (Dd (aa 3) aq) (ay (bp 4 dH.nd (br ag) (hs:=iF)) (ay (hU (b:=gK) PH rfl (l9 T.b_range aq (aa 2)) (aZ 6 dH.nd) (aR (fO (iN (aa 4) (d5 T.b_tuple (aB (iO T.b_sorted (aB (br (ae (aD (aa 5) (aa 6)) (ae (aD (aa 5) (aD (aB (br (by (refine aK (lr (aa 6) aq) ?_ cC;refine aK (lr (aa 6) aq) ?_ cC;refine aK aq ?_ az;refine aK (vm (aa 6) aq) ?_ cC;exact ag)))) (lr (aa 3) aq))) ag aW) aW)))))))))) (ay (dy (tj (Jb (Di (fi U) (aa 3) aq) (FV (Dd (aa 2) aq)))) (aR (fO (iN (aa 4) (d5 T.b_tuple (aB (iO T.b_sorted (aB (br (ae (aD (aa 5) aq) (ae (aD (aa 5) (lr (aa 2) aq)) ag aW) aW))))))))) b8) (ay (bp 7 dH.nd (aB (eR (t:=fq) (m:=ft) (mD (Nc:=["_law_tie","_law_state_here"]) (js:=[none,ar 0]) (aw (top 41)) ["_law_state_here","_law_most","_law_many","_law_way","_law_ties","_law_row","_law_at","_law_odd"] (λ_=>rfl) rfl (by decide+kernel)) rfl (fR (aB (aJ Y (U.mono (by decide)) (ae (aa 2) ag ai)))) (λC ex s2 S=>⟨aZ 0 (show(["_law_tie","_law_state_here"]:List Str).Nodup by decide+kernel),kq (Di (fi U) (aB (aJ Z (U.mono (by decide)) (ae (aa 1) (ae aq ag az) ai))) aq),aa 0⟩)))) (aR (bp 4 dH.nd (eR (t:=gL) (m:=gM) (mD (Nc:=["_law_tie","_law_ties","_law_odd"]) (js:=[none,ar 4,ar 7]) (aw (top 41)) ["_law_state_here","_law_most","_law_many","_law_way","_law_ties","_law_row","_law_at","_law_odd"] (λ_=>rfl) rfl (by decide+kernel)) rfl (fR (aB (aJ Y (U.mono (by decide)) (ae (aa 2) ag ai)))) (λC ex s2 S=>⟨aZ 0 (show(["_law_tie","_law_ties","_law_odd"]:List Str).Nodup by decide+kernel),kq (ir (fi U) (uf (fi U) (aa 0) (aa 1)) (uf (fi U) (aa 0) (aa 2))),aa 0⟩)))))))) b8) (aR (a8 (bo (ae (aa 2) (ae (d5 T.b_tuple (aB (iO T.b_sorted (aa 4)))) ag aY) ai))))))))
theorem qv(F:Fun K "_law_is_root" "_law_is_root" (top 48) f fd)(R:mg "_law_is_root"=ar (.ref f))(T:Txt K mg)(Y:DefX P w K mg base 1 "_law_whole" ["_law_thing"] dE)(Z:DefX P w K mg base 2 "_law_is_web" ["_law_thing"] cy)(X:DefX P w K mg base 1 "_law_tied" ["_law_web_here","_law_one","_law_other"] gY):DefX P w K mg base 3 "_law_is_root" ["_law_web_here","_law_thing"] dg:=
 bM (m:=gf) F R (F.binds λ_ _ _ _ _ _ us Q=>match us,Q with|[_,_],_=>rfl) d9 rfl λS A outer s H E U=>
  ay (dy (tj (iq (cK (cJ (dZ (Ts:="tuple") T.b_isinstance T.b_tuple (aa 1)))) (iq (ir (fi U) (eB T.b_len (aa 1)) aq) (iq (cK (cJ (aB (aJ Z (U.mono (by decide)) (ae (aD (aa 1) aq) ag aW))))) (kl (cK (cJ (dZ (Ts:="tuple") T.b_isinstance T.b_tuple (aD (aa 1) aq))))))))) (aR (a8 dO)) b8) (ay (bp 2 d9.nd (aD (aa 1) aq) (hs:=iG)) (ay (hU (b:=cD) PH rfl (fR (aa 2)) (aZ 3 d9.nd) (aR (dy (tj (iq (cK (cJ (dZ (Ts:="tuple") T.b_isinstance T.b_tuple (aa 3)))) (kl (ir (fi U) (aB (eR (t:=f7) (m:=f9) (mD (Nc:=["_law_one"]) (js:=[none]) (aw (top 48)) ["_law_web_here","_law_thing","_law_names","_law_name","_law_b","_law_a"] (λ_=>rfl) rfl (by decide+kernel)) rfl (fR (aa 3)) (λC ex s2 O=>⟨aZ 0 (show(["_law_one"]:List Str).Nodup by decide+kernel),kq (cK (cJ (aB (aJ Y (U.mono (by decide)) (ae (aa 0) ag ai))))),aa 0⟩))) (aB (br ag)))))) (aR (a8 dO)) b8))) (ay (dy (tj (iq (ir (fi U) (eB T.b_len (aa 2)) (aD (aa 0) aq)) (kl (ir (fi U) (aB (r0 T.b_sorted (aa 2))) (aB (nL T.b_list (aD (aD (aa 1) aq) aq))))))) (aR (a8 dO)) b8) (ay (hU (b:=cF) PH rfl (eS T.b_range (aD (aa 0) aq)) (aZ 4 d9.nd) (aR (hU (b:=dF) PH rfl (eS T.b_range (aa 4)) (aZ 5 d9.nd) (aR (dy (ir (fi U) (De (Gd U) (uA rfl T.b_len T.b_set (aB (bK (aD (aa 2) (aa 5)) (aD (aa 2) (aa 4))))) aq) (aB (aJ X (U.mono (by decide)) (ae (aa 0) (ae (aa 5) (ae (aa 4) ag ai) ai) ai)))) (aR (a8 dO)) b8))))) (aR (a8 dO))))))
theorem Cr(F:Fun K "is_web" "is_web" (top 22) f fd)(Q:mg "is_web"=ar (.ref f))(T:Txt K mg)(Y:DefX P w K mg base 1 "is_whole" ["thing"] dI)(X:DefX P w K mg base 1 "is_pair" ["thing"] cY)(U:DefX P w K mg base 3 "is_tie" ["many","thing"] j9)(Z:DefX P w K mg base 1 "is_rising" ["things"] gW):DefX P w K mg base 4 "is_web" ["thing"] d8:=
 bM (m:=si) F Q (F.binds λ_ _ _ _ _ _ us O=>match us,O with|[_],_=>rfl) pN rfl λR A outer s H E S=>
  ay (dy (cK (cJ (aB (aJ X (S.mono (by decide)) (ae (aa 0) ag ai))))) (aR (a8 dO)) b8) (ay (jG (aa 0) (iS rfl (bO (aZ 1 pN.nd) (bO (aZ 2 pN.nd) fP)))) (ay (dy (tj (iq (cK (cJ (aB (aJ Y (S.mono (by decide)) (ae (aa 1) ag ai))))) (iq (cK (wV tY tY (iA λ_ _ _ _=>.bl _) (iA λ_ _ _ _=>.bl _) aq (aa 1) (xk rfl T.g_MOST_PLACES))) (kl (cK (cJ (dZ (Ts:="tuple") T.b_isinstance T.b_tuple (aa 2)))))))) (aR (a8 dO)) b8) (aR (a8 (kj (rD rfl T.b_all (aB (eR (t:=jw) (m:=jx) (mD (Nc:=["tie","many"]) (js:=[none,ar 1]) (aw (top 22)) ["thing","many","ties"] (λ_=>rfl) rfl (by decide+kernel)) rfl (fR (aa 2)) (λC ex s2 N=>⟨aZ 0 (show(["tie","many"]:List Str).Nodup by decide+kernel),gH,aB (aJ U (S.mono (by decide)) (ae (aa 1) (ae (aa 0) ag ai) ai))⟩)))) (ll (aB (aJ Z (S.mono (by decide)) (ae (aa 2) ag ai)))))))))
theorem wt(F:Fun K "are_names" "are_names" (top 33) f fd)(U:mg "are_names"=ar (.ref f))(T:Txt K mg)(Z:DefX P w K mg base 3 "is_tie" ["many","thing"] j9):DefX P w K mg base 4 "are_names" ["root","many","thing"] eI:=
 bM (m:=jz) F U (F.binds λ_ _ _ _ _ _ us S=>match us,S with|[_,_,_],_=>rfl) wc rfl λX A outer s H E Y=>
  ay (dy (tj (iq (cK (cJ (dZ (Ts:="tuple") T.b_isinstance T.b_tuple (aa 2)))) (kl (ir (fi Y) (eB T.b_len (aa 2)) (aa 1))))) (aR (a8 dO)) b8) (aR (a8 (kj (rD rfl T.b_all (aB (eR (t:=jb) (m:=jc) (mD (Nc:=["name","root"]) (js:=[none,ar 0]) (aw (top 33)) ["root","many","thing"] (λ_=>rfl) rfl (by decide+kernel)) rfl (fR (aa 2)) (λC ex s2 R=>⟨aZ 0 (show(["name","root"]:List Str).Nodup by decide+kernel),gH,aB (aJ Z (Y.mono (by decide)) (ae (aD (aa 1) aq) (ae (aa 0) ag ai) aW))⟩)))) (ll (rz (fi Y) (d5 T.b_tuple (aB (r0 T.b_sorted (aa 2)))) (aD (aa 0) aq))))))
theorem wu(F:Fun K "_law_case" "_law_case" (top 52) f fd)(O:mg "_law_case"=ar (.ref f))(T:Txt K mg)(U:DefX P w K mg base 1 "_law_take" ["_law_state_here","_law_many"] aF)(Z:DefX P w K mg base 2 "_law_mixed_row" ["_law_state_here","_law_things"] cn)(S:DefX P w K mg base 3 "_law_web" ["_law_state_here","_law_most"] ja)(X:DefX P w K mg base 1 "_law_made" ["_law_web_here"] gX)(Y:DefX P w K mg base 1 "_law_named" ["_law_web_here","_law_names"] fX):DefX P w K mg base 4 "_law_case" ["_law_state_here"] gZ:=
 bM (m:=jA) F O (F.binds λ_ _ _ _ _ _ us N=>match us,N with|[_],_=>rfl) d4 rfl λQ A outer s H E R=>
  ay (bp 1 d4.nd (aB (aJ S (R.mono (by decide)) (ae (aa 0) (ae aq ag az) ai))) (hs:=fV)) (ay (bp 1 d4.nd (bo (ae (bK (aD (aa 1) aq) (aB (aJ U (R.mono (by decide)) (ae (aa 0) (ae aq ag az) ai)))) (ae (aB (gR (aD (aa 1) aq) jm (jo aq))) ag aW) cC)) (hs:=D3)) (ay (bp 2 d4.nd (aB (aJ X (R.mono (by decide)) (ae (aa 1) ag ai))) (hs:=fV)) (ay (bp 3 d4.nd (aB (aJ Z (R.mono (by decide)) (ae (aa 0) (ae (aB (nP rfl T.b_list T.b_range (aD (aa 2) aq))) ag aY) ai))) (hs:=fV)) (ay (bp 4 d4.nd (JR (br (ae jF ag az)) (aD (aa 2) aq)) (hs:=df)) (ay (hU (b:=eJ) PH rfl (eS T.b_range (aD (aa 2) aq)) (aZ 5 d4.nd) (aR (jG (aD (aD (aa 1) aq) (aa 5)) (nM (aa 4) (aD (aa 3) (aa 5)))))) (aR (a8 (bo (ae (aB (aJ Y (R.mono (by decide)) (ae (aa 2) (ae (aa 3) ag ai) ai))) (ae (bo (ae (aa 1) (ae (d5 T.b_tuple (aa 4)) ag aY) ai)) ag aQ) aY)))))))))
theorem yp(F:Fun K "need_web" "need_web" (top 23) f fd)(X:mg "need_web"=ar (.ref f))(T:Txt K mg)(Z:DefX P w K mg base 4 "is_web" ["thing"] d8):DefX P w K mg base 5 "need_web" ["thing"] gy:=
 qH (m:=sj) F X (F.binds λ_ _ _ _ _ _ us S=>match us,S with|[_],_=>rfl) yh rfl λY A outer s H E U=>
  aR (dy (cK (cJ (aB (fT Z (U.mono (by decide)) dD.pass (ae (aa 0) ag ai))))) (aR (DT dD rfl T.err (by decide) (by decide) (ae rj ag az))) b8)
theorem ni(F:Fun K "need_few_places" "need_few_places" (top 24) f fd)(S:mg "need_few_places"=ar (.ref f))(T:Txt K mg)(X:GrX P w K mg base)(Z:DefX P w K mg base 5 "need_web" ["thing"] gy):DefX P w K mg base 6 "need_few_places" ["web","most"] cb:=
 qH (m:=jB) F S (F.binds λ_ _ _ _ _ _ us R=>match us,R with|[_,_],_=>rfl) nh rfl λU A outer s H E Y=>
  ay (fO (aB (fT Z (Y.mono (by decide)) dD.pass (ae (aa 0) ag ai)))) (aR (dy (Dd (aD (aa 0) aq) (aa 1)) (aR (Ei dD rfl T.err X (Y.mono (by decide)) (ae (aD (aa 0) aq) (ae (aa 1) ag ai) aW))) b8))
theorem qw(F:Fun K "need_crowded" "need_crowded" (top 29) f fd)(X:mg "need_crowded"=ar (.ref f))(T:Txt K mg)(Z:DefX P w K mg base 6 "need_few_places" ["web","most"] cb):DefX P w K mg base 7 "need_crowded" ["web"] dU:=
 qH (m:=lG) F X (F.binds λ_ _ _ _ _ _ us S=>match us,S with|[_],_=>rfl) qp rfl λY A outer s H E U=>
  aR (fO (aB (fT Z (U.mono (by decide)) dD.pass (ae (aa 0) (ae (xk rfl T.g_MOST_CROWDED) ag ai) ai))))
theorem tV(F:Fun K "_law_same" "_law_same" (top 50) f fd)(U:mg "_law_same"=ar (.ref f))(T:Txt K mg)(Z:DefX P w K mg base (1+j) "_law_same" ["_law_found","_law_due"] F0):DefX P w K mg base (1+j+1) "_law_same" ["_law_found","_law_due"] (lE 2 2 (g0 F0)):=
 bM (m:=g0 F0) F U (F.binds λ_ _ _ _ _ _ us S=>match us,S with|[_,_],_=>rfl) we rfl λX A outer s H E Y=>
  ay (dy (cJ (F4 (Ts:="tuple") (Us:="list") T.b_isinstance T.b_tuple T.b_list (aa 1))) (ay (dy (tj (iq (ir (fi Y) (dZ (Ts:="tuple") T.b_isinstance T.b_tuple (aa 0)) (dZ (Ts:="tuple") T.b_isinstance T.b_tuple (aa 1))) (kl (ir (fi Y) (dZ (Ts:="list") T.b_isinstance T.b_list (aa 0)) (dZ (Ts:="list") T.b_isinstance T.b_list (aa 1)))))) (aR (a8 dO)) b8) (ay (dy (ir (fi Y) (eB T.b_len (aa 0)) (eB T.b_len (aa 1))) (aR (a8 dO)) b8) (aR (a8 (rD rfl T.b_all (aB (eR (t:=lH F0) (m:=lI F0) (mD (Nc:=["_law_one","_law_other"]) (js:=[none,none]) (aw (top 50)) ["_law_found","_law_due"] (λ_=>rfl) rfl (by decide+kernel)) rfl (As T.b_zip (aa 0) (aa 1)) (λC ex s2 R=>⟨iS rfl (bO (aZ 0 (show(["_law_one","_law_other"]:List Str).Nodup by decide+kernel)) (bO (aZ 1 (show(["_law_one","_law_other"]:List Str).Nodup by decide+kernel)) fP)),gH,aB (aJ Z (Y.mono (OF _)) (ae (aa 0) (ae (aa 1) ag ai) ai))⟩)))))))) b8) (aR (a8 (kj (rz (fi Y) (aa 0) (aa 1)) (ll (rz (fi Y) (dZ (Ts:="bool") T.b_isinstance T.b_bool (aa 0)) (dZ (Ts:="bool") T.b_isinstance T.b_bool (aa 1)))))))
theorem mP(F:Fun K "_law_same" "_law_same" (top 50) f fd)(Z:mg "_law_same"=ar (.ref f))(T:Txt K mg):∀n,DefX P w K mg base (1+n) "_law_same" ["_law_found","_law_due"] (gh n)
 |0=>DefX.none F Z (F.binds λ_ _ _ _ _ _ us Y=>match us,Y with|[_,_],_=>rfl)
 |n+1=>tV F Z T (mP F Z T n)
def wx(F:Fun K "_law_same" "_law_same" (top 50) f fd)(Z:mg "_law_same"=ar (.ref f))(T:Txt K mg):DefX P w K mg base 7 "_law_same" ["_law_found","_law_due"] lJ:=mP F Z T 6
theorem tW(F:Fun K "root_holds" "root_holds" (top 34) f fd)(L:mg "root_holds"=ar (.ref f))(T:Txt K mg)(R:DefX P w K mg base 1 "is_pair" ["thing"] cY)(Q:DefX P w K mg base 4 "is_web" ["thing"] d8)(S:DefX P w K mg base 1 "pairs_of" ["many"] fF)(U:DefX P w K mg base 1 "are_tied" ["web","one","other"] kG)(Z:DefX P w K mg base 7 "need_crowded" ["web"] dU)(X:DefX P w K mg base 1 "ties_meet" ["one","other"] ju)(Y:DefX P w K mg base 4 "are_names" ["root","many","thing"] eI):DefX P w K mg base 8 "root_holds" ["web","thing"] bA:=
 qH (m:=oh) F L (F.binds λ_ _ _ _ _ _ us J=>match us,J with|[_,_],_=>rfl) gO rfl λN A outer s H E O=>
  ay (fO (aB (fT Z (O.mono (by decide)) dD.pass (ae (aa 0) ag ai)))) (ay (dy (cK (cJ (aB (fT R (O.mono (by decide)) dD.pass (ae (aa 1) ag ai))))) (aR (a8 dO)) b8) (ay (bp 2 gO.nd (aD (aa 0) aq) (hs:=iG)) (ay (jG (aa 1) (iS rfl (bO (aZ 3 gO.nd) (bO (aZ 4 gO.nd) fP)))) (ay (dy (tj (iq (cK (cJ (aB (fT Q (O.mono (by decide)) dD.pass (ae (aa 3) ag ai))))) (kl (cK (cJ (aB (fT Y (O.mono (by decide)) dD.pass (ae (aa 3) (ae (aa 2) (ae (aa 4) ag ai) ai) ai)))))))) (aR (a8 dO)) b8) (aR (a8 (rD rfl T.b_all (aB (Gh (eR (t:=ij) (m:=ik) (mD (Nc:=["low","high","web","names"]) (js:=[none,none,ar 0,ar 4]) (aw (top 34)) ["web","thing","many","root","names"] (λ_=>rfl) rfl (by decide+kernel)) rfl (fR (aB (aJ S (O.mono (by decide)) (ae (aa 2) ag ai)))) (λC ex s2 I=>⟨iS rfl (bO (aZ 0 (show(["low","high","web","names"]:List Str).Nodup by decide+kernel)) (bO (aZ 1 (show(["low","high","web","names"]:List Str).Nodup by decide+kernel)) fP)),gH,rz (fi O) (aB (aJ U (O.mono (by decide)) (ae (aa 2) (ae (aa 0) (ae (aa 1) ag ai) ai) ai))) (aB (aJ X (O.mono (by decide)) (ae (aD (aa 3) (aa 0)) (ae (aD (aa 3) (aa 1)) ag aW) aW)))⟩)))))))))))
theorem qx(F:Fun K "_law_refused" "_law_refused" (top 51) f fd)(X:mg "_law_refused"=ar (.ref f))(T:Txt K mg):RefX P w K mg 10 9 "_law_refused" ["_law_call"] bY:=
 JH (m:=gi) F X (F.binds λ_ _ _ _ _ _ us U=>match us,U with|[_],_=>rfl) cf rfl λbase G a S ql ds vs mm L Y A outer s H E Z=>
  ay (bp 1 cf.nd jF (hs:=xA)) (ay (JE rfl rfl L (Z.mono (by decide)) cf.nd T.err G rfl (.inl rfl) rfl rfl rfl rfl rfl) (ay (bp 3 cf.nd (br (ae (eV T.err (by decide) G T.b_isinstance (aa 1)) (ae (eV T.err (by decide) G T.b_isinstance (aa 1)) (ae (eV T.err (by decide) G T.b_isinstance (aa 1)) ag aY) aY) aY)) (hs:=iF)) (ay (bp 3 cf.nd (bK (aa 3) (aB (br (ae (eV T.err (by decide) G T.b_isinstance (aa 1)) (ae (eV T.err (by decide) G T.b_isinstance (aa 1)) (ae (eV T.err (by decide) G T.b_isinstance (aa 1)) ag aY) aY) aY)))) (hs:=df)) (ay (bp 3 cf.nd (bK (aa 3) (aB (br (ae (eV T.err (by decide) G T.b_isinstance (aa 1)) (ae (eV T.err (by decide) G T.b_isinstance (aa 1)) (ae (eV T.err (by decide) G T.b_isinstance (aa 1)) ag aY) aY) aY)))) (hs:=df)) (ay (bp 3 cf.nd (bK (aa 3) (aB (br (ae (eV T.err (by decide) G T.b_isinstance (aa 1)) (ae (eV T.err (by decide) G T.b_isinstance (aa 1)) (ae (eV T.err (by decide) G T.b_isinstance (aa 1)) ag aY) aY) aY)))) (hs:=df)) (ay (fO (iN (aa 3) (eV T.err (by decide) G T.b_isinstance (aa 1)))) (ay (dy (cK (cJ (Gk T.err T.b_isinstance T.b_ValueError (aa 1)))) (aR (a8 jF)) b8) (ay (xJ (rl 4 (t:=cG) (m:=cH) cf.nd (mD (Nc:=["_law_k","_law_marks"]) (js:=[none,ar 3]) (aw (top 51)) ["_law_call","_law_error","e","_law_marks","_law_found"] (λ_=>rfl) rfl (by decide+kernel)) rfl (eS T.b_range aq) (λC ex s2 R=>⟨aZ 0 (show(["_law_k","_law_marks"]:List Str).Nodup by decide+kernel),kq (cJ (aD (aa 1) (aa 0))),aa 0⟩))) (aR (a8 (Ln (Di (fi Z) (aa 4) (aB (br (ae aq ag az)))) (aB (bK (aa 4) (aB (br (ae (Gz T.err T.dk (aa 1)) (ae (GA T.err T.dk (aa 1)) ag n5) n5))))) (aa 4))))))))))))
end
theorem Cs{P:ey}{w:fg}{K:dV}{Q:Str->Option a_}{base:gg}{f c k:dt}{q:lx}(F:Fun K "law" "law" (top 54) f q)(T:Txt K Q)(G:Mod K Q base)(p:BaseL K Q base)(TI:vE K)(j:p7 K g_ "law"=ar (ar (.ref f)))(z:mu K "law"=ar (c,k))(Z:∀base,Mod K Q base->DefX P w K Q base 8 "root_holds" ["web","thing"] bA)(N:∀base,Mod K Q base->DefX P w K Q base 2 "_law_state" ["_law_script","_law_k"] iH)(S:∀base,Mod K Q base->DefX P w K Q base 1 "_law_take" ["_law_state_here","_law_many"] aF)(J:∀base,Mod K Q base->DefX P w K Q base 1 "_law_pairs" ["_law_many"] bg)(X:∀base,Mod K Q base->DefX P w K Q base 2 "_law_great_web" ["_law_state_here"] dR)(R:∀base,Mod K Q base->DefX P w K Q base 3 "_law_is_root" ["_law_web_here","_law_thing"] dg)(O:∀base,Mod K Q base->DefX P w K Q base 2 "_law_bad_web" ["_law_state_here"] fZ)(I:∀base,Mod K Q base->DefX P w K Q base 7 "_law_same" ["_law_found","_law_due"] lJ)(Y:RefX P w K Q 10 9 "_law_refused" ["_law_call"] bY)(fC:∀f c es,bY f c es=bE c es)(B:∀base,Mod K Q base->DefX P w K Q base 4 "_law_case" ["_law_state_here"] gZ)(U:∀base,Mod K Q base->DefX P w K Q base 2 "_law_bent" ["_law_state_here","_law_paper"] fM):FnOk P w K Q base (mE P w) 11 f q ["_law_script"] (DQ K uD):=
 JG (m:=Er) F jh rfl j z λA outer s H E L=>
  ay (hU (b:=lL) PH rfl (eS T.b_range (oU rfl T.b_max (ae aq (ae (rB rfl T.b_min (ae (eB T.b_len (aa 0)) (ae aq ag az) aY)) ag aY) az))) (aZ 1 jh.nd) (ay (bp 2 jh.nd (aJ (N _ G) (L.mono (by decide)) (ae (aa 0) (ae (aa 1) ag ai) ai)) (hs:=fV)) (ay (jG (aB (aJ (B _ G) (L.mono (by decide)) (ae (aa 2) ag ai))) (iS rfl (bO (aZ 3 jh.nd) (bO (aZ 4 jh.nd) fP)))) (ay (dy (Dl (aB (aJ (Z _ G) (L.mono (by decide)) (ae (aa 3) (ae (aa 4) ag ai) ai))) dO) (aR (a8 dO)) b8) (ay (bp 5 jh.nd (d5 T.b_tuple (aB (iO T.b_sorted (aB (br (ae (aB (aJ (S _ G) (L.mono (by decide)) (ae (aa 2) (ae aq ag az) ai))) (ae (aB (aJ (S _ G) (L.mono (by decide)) (ae (aa 2) (ae aq ag az) ai))) ag aY) aY)))))) (hs:=fV)) (ay (xJ (rl 6 (t:=oj) (m:=sk) jh.nd (mD (Nc:=["_law_old","_law_web_here","_law_tie"]) (js:=[none,ar 3,ar 5]) (aw (top 54)) ["_law_script","_law_k","_law_state_here","_law_web_here","_law_paper","_law_tie","_law_ties","_law_one","_law_thing","_law_great","_law_bad"] (λ_=>rfl) rfl (by decide+kernel)) rfl (fR (aB (aJ (J _ G) (L.mono (by decide)) (ae (aD (aa 3) aq) ag aW)))) (λC ex s2 o=>⟨aZ 0 (show(["_law_old","_law_web_here","_law_tie"]:List Str).Nodup by decide+kernel),kq (ir (fi L) (uf (fi L) (aa 0) (aD (aa 1) aq)) (rz (fi L) (aa 0) (aa 2))),aa 0⟩))) (ay (hU (b:=lK) PH rfl (fR (aB (br (ae (aa 3) (ae (aa 3) (ae (bo (ae (aD (aa 3) aq) (ae (d5 T.b_tuple (aa 6)) ag aY) aW)) ag aQ) ai) ai)))) (aZ 7 jh.nd) (aR (hU (b:=om) PH rfl (fR (aB (br (ae (aa 4) (ae (aB (aJ (U _ G) (L.mono (by decide)) (ae (aa 2) (ae (aa 4) ag ai) ai))) (ae (aB (aJ (U _ G) (L.mono (by decide)) (ae (aa 2) (ae (aa 4) ag ai) ai))) ag aY) aY) ai)))) (aZ 8 jh.nd) (aR (dy (cK (cJ (aB (aJ (I _ G) (L.mono (by decide)) (ae (aB (aJ (Z _ G) (L.mono (by decide)) (ae (aa 7) (ae (aa 8) ag ai) ai))) (ae (aB (aJ (R _ G) (L.mono (by decide)) (ae (aa 7) (ae (aa 8) ag ai) ai))) ag aY) aY))))) (aR (a8 dO)) b8))))) (ay (GG (jG (bo (ae (aB (aJ (X _ G) (L.mono (by decide)) (ae (aa 2) ag ai))) (ae (aB (aJ (O _ G) (L.mono (by decide)) (ae (aa 2) ag ai))) ag aY) aY)) (iS rfl (bO (aZ 9 jh.nd) (bO (aZ 10 jh.nd) fP))))) (ay (dy (ir (fi L) (aB (DX (ql:="law.<locals>.<lambda>") (m:=sm) (xl:="law") Y fC (L.mono (by decide)) (λ_=>rfl) (by decide) z rfl rfl rfl p TI rfl (LK (N3:=["_law_great","_law_paper"]) (js:=[9,4]) (aw (top 54)) ["_law_script","_law_k","_law_state_here","_law_web_here","_law_paper","_law_tie","_law_ties","_law_one","_law_thing","_law_great","_law_bad"] (λ_=>rfl) rfl (by decide+kernel)) ag (λ_ _ _ _=>rfl) (λv u f2 n kX l y s2 o r x=>aB (fT (Z _ u) (x.mono (by decide)) rW.pass (ae (aa 0) (ae (aa 1) ag ai) ai))))) (aB (br (ae aq (ae (aD (aa 9) aq) (ae aq ag az) aW) az)))) (aR (a8 dO)) b8) (aR (dy (ir (fi L) (aB (DX (ql:="law.<locals>.<lambda>") (m:=so) (xl:="law") Y fC (L.mono (by decide)) (λ_=>rfl) (by decide) z rfl rfl rfl p TI rfl (LK (N3:=["_law_bad","_law_paper"]) (js:=[10,4]) (aw (top 54)) ["_law_script","_law_k","_law_state_here","_law_web_here","_law_paper","_law_tie","_law_ties","_law_one","_law_thing","_law_great","_law_bad"] (λ_=>rfl) rfl (by decide+kernel)) ag (λ_ _ _ _=>rfl) (λv u f2 n kX l y s2 o r x=>aB (fT (Z _ u) (x.mono (by decide)) rW.pass (ae (aa 0) (ae (aa 1) ag ai) ai))))) (aB (br (ae aq ag az)))) (aR (a8 dO)) b8))))))))))) (aR (a8 (Lx (aB (aJ (Z _ G) (L.mono (by decide)) (ae (cN 6 rfl) (ae (cN 6 rfl) ag aQ) aQ))) dO)))
def HY:Stmt:=LR (top 14)
def HA:FnScope ["self","many","most"] ["self","many","most"] (aw HY):=my
abbrev lP:Program:=PySem.Challenge.rw_tiewebs_k09_root_papers_looked_at.prog
abbrev kW(w:fg):W.Frag:=KH.K0 w.params
theorem fk{K:dV}{f c:dt}{m:a_}(x q:Str)(Z:pa)(l:K.lookup f=ar ⟨.type "function",none,.func (y9 x q (gE Z) (dw Z) (aw Z) .none .none .none m none (.ref c) .none), #[]⟩)(h:Tp K (.ref c) q=b_)(k:y0 K (.ref f)=b_):Fun K x q Z f (y9 x q (gE Z) (dw Z) (aw Z) .none .none .none m none (.ref c) .none):=IZ l h k
abbrev nK(w:fg)(x:Str):Option (Option a_):=p7 (kW w) g_ x
abbrev wy:Value:=KH.zs "law_tiewebs_k09_root_papers_looked_at" 537
abbrev Ox:Value:=KH.zs "tiewebs.crowds" 504
abbrev Oi:Value:=KH.zs "tiewebs.roots" 523
abbrev Oy:Value:=KH.zs "tiewebs.ties" 515
abbrev Fv:Value:=KH.zs "tiewebs.webs" 426
theorem mQ{w:fg}{Y:Str->Option a_}{h:gg}(X:(kW w).In h)(G:h.Ns g_ Y)(f c:dt)(m:a_)(x:Str)(Z:pa)(a:nK w x=ar (ar (.ref f)):=by kernel_rfl)(l:(kW w).lookup f=ar ⟨.type "function",none,.func (y9 x x (gE Z) (dw Z) (aw Z) .none .none .none m none (.ref c) .none), #[]⟩:=by kernel_rfl)(j:Tp (kW w) (.ref c) x=true:=by kernel_rfl)(k:y0 (kW w) (.ref f)=true:=by kernel_rfl):Y x=ar (.ref f)/\Fun (kW w) x x Z f (y9 x x (gE Z) (dw Z) (aw Z) .none .none .none m none (.ref c) .none):=⟨QF X G a,fk x x Z l j k⟩
theorem Oz(w:fg)(U:Str->Option a_)(fa:dt)(h:gg)(X:(kW w).In h)(G:h.Ns g_ U)(e1:U "law"=ar (.ref fa)):∃fd:lx,(∀(s:dr) (u:a_),J_ s fd ⟨[u],[]⟩ [("_law_script",u)])/\∀base:gg,Mod (kW w) U base->BaseL (kW w) U base->FnOk lP w (kW w) U base (mE lP w) 11 fa fd ["_law_script"] (DQ (kW w) uD):=by
 have aG:nK w "TooGreat"=ar (ar (.ref 188)):=by kernel_rfl
 have d:mj (kW w) 188 185=true:=by kernel_rfl
 have FG:=@fk (kW w) 185 184 (KH.zs "tiewebs.errors" 187) "__init__" "TooGreat.__init__" HY (by kernel_rfl) (by kernel_rfl) (by kernel_rfl);obtain⟨h1,c9⟩:=mQ X G 197 196 Fv "is_whole" (top 17);obtain⟨f3,d0⟩:=mQ X G 204 203 Fv "is_pair" (top 18);obtain⟨i1,c5⟩:=mQ X G 211 210 Fv "is_place" (top 19);obtain⟨e9,b1⟩:=mQ X G 218 217 Fv "is_tie" (top 20);obtain⟨a0,d2⟩:=mQ X G 223 222 Fv "is_rising" (top 21);obtain⟨f6,e3⟩:=mQ X G 228 227 Fv "is_web" (top 22);obtain⟨i4,b⟩:=mQ X G 235 234 Fv "need_web" (top 23);obtain⟨j1,a5⟩:=mQ X G 242 241 Fv "need_few_places" (top 24);obtain⟨d1,b4⟩:=mQ X G 247 246 Fv "pairs_of" (top 25);obtain⟨i0,i2⟩:=mQ X G 254 253 Fv "are_tied" (top 26);obtain⟨e6,e0⟩:=mQ X G 261 260 Ox "need_crowded" (top 29);obtain⟨b6,b5⟩:=mQ X G 266 265 Oy "ties_meet" (top 31);obtain⟨h4,b3⟩:=mQ X G 271 270 Oi "are_names" (top 33);obtain⟨a4,c6⟩:=mQ X G 276 275 Oi "root_holds" (top 34);obtain⟨f5,c2⟩:=mQ X G 283 282 wy "_law_cell_at" (top 36);obtain⟨g7,e5⟩:=mQ X G 290 289 wy "_law_state" (top 37);obtain⟨e7,h5⟩:=mQ X G 297 296 wy "_law_take" (top 38);obtain⟨b2,g6⟩:=mQ X G 302 301 wy "_law_pairs" (top 39);obtain⟨a6,h2⟩:=mQ X G 309 308 wy "_law_mixed_row" (top 40);obtain⟨i3,j7⟩:=mQ X G 314 313 wy "_law_web" (top 41);obtain⟨c3,c4⟩:=mQ X G 319 318 wy "_law_made" (top 42);obtain⟨a,j3⟩:=mQ X G 324 323 wy "_law_named" (top 43);obtain⟨h8,c1⟩:=mQ X G 331 330 wy "_law_great_web" (top 44);obtain⟨h9,d3⟩:=mQ X G 338 337 wy "_law_whole" (top 45);obtain⟨c0,g4⟩:=mQ X G 345 344 wy "_law_is_web" (top 46);obtain⟨c7,k1⟩:=mQ X G 352 351 wy "_law_tied" (top 47);obtain⟨h6,e4⟩:=mQ X G 357 356 wy "_law_is_root" (top 48);obtain⟨j2,h3⟩:=mQ X G 364 363 wy "_law_bad_web" (top 49);obtain⟨a3,g5⟩:=mQ X G 369 368 wy "_law_same" (top 50);obtain⟨e8,k0⟩:=mQ X G 374 373 wy "_law_refused" (top 51);obtain⟨j0,c8⟩:=mQ X G 381 380 wy "_law_case" (top 52);obtain⟨e2,g8⟩:=mQ X G 388 387 wy "_law_bent" (top 53);have c:nK w "law"=ar (ar (.ref 393)):=by kernel_rfl
 have h7:=@fk (kW w) 393 392 (KH.zs "law_tiewebs_k09_root_papers_looked_at" 537) "law" "law" (top 54) (by kernel_rfl) (by kernel_rfl) (by kernel_rfl);obtain⟨⟨ct,Pt⟩,f⟩:=Px.mp (show(mu (kW w) "law").isSome=b_ by kernel_rfl);have e:=e1.symm.trans (QF X G c);cases e;have T:Txt (kW w) U:=⟨by kernel_rfl,by kernel_rfl,Pc X G (by kernel_rfl),Pc X G (by kernel_rfl),Pc X G (by kernel_rfl),Pc X G (by kernel_rfl),Pc X G (by kernel_rfl),Pc X G (by kernel_rfl),Pc X G (by kernel_rfl),Pc X G (by kernel_rfl),Pc X G (by kernel_rfl),Pc X G (by kernel_rfl),Pc X G (by kernel_rfl),Pc X G (by kernel_rfl),Pc X G (by kernel_rfl),Pc X G (by kernel_rfl),Pc X G (by kernel_rfl),⟨506,QF X G (by kernel_rfl)⟩,⟨428,QF X G (by kernel_rfl)⟩⟩;have GR:∀base,GrX lP w (kW w) U base:=λbase=>Eh FG X T.err aG d HA (by decide+kernel) (FG.binds λ_ _ _ _ _ _ us hl=>match us,hl with|[_,_,_],_=>rfl) rfl;refine⟨y9 "law" "law" (gE (top 54)) (dw (top 54)) (aw (top 54)) .none .none .none (KH.zs "law_tiewebs_k09_root_papers_looked_at" 537) none (.ref 392) .none,λs v=>.of_eq rfl,λbase GM BL=>?_⟩;have L:=λbase (GB:Mod (kW w) U base)=>yi (P:=lP) (w:=w) (base:=base) c9 h1 T;have O:=λbase (GB:Mod (kW w) U base)=>zS (P:=lP) (w:=w) (base:=base) d0 f3 T;have o:=λbase (GB:Mod (kW w) U base)=>wg (P:=lP) (w:=w) (base:=base) d2 a0 T;have j:=λbase (GB:Mod (kW w) U base)=>yj (P:=lP) (w:=w) (base:=base) b4 d1 T;have i:=λbase (GB:Mod (kW w) U base)=>yk (P:=lP) (w:=w) (base:=base) i2 i0 T;have x:=λbase (GB:Mod (kW w) U base)=>wj (P:=lP) (w:=w) (base:=base) b5 b6 T;have H:=λbase (GB:Mod (kW w) U base)=>qr (P:=lP) (w:=w) (base:=base) c2 f5 T;have Z:=λbase (GB:Mod (kW w) U base)=>wk (P:=lP) (w:=w) (base:=base) h5 e7 T;have S:=λbase (GB:Mod (kW w) U base)=>tR (P:=lP) (w:=w) (base:=base) g6 b2 T;have r:=λbase (GB:Mod (kW w) U base)=>wm (P:=lP) (w:=w) (base:=base) c4 c3 T;have C:=λbase (GB:Mod (kW w) U base)=>tS (P:=lP) (w:=w) (base:=base) j3 a T;have R:=λbase (GB:Mod (kW w) U base)=>tT (P:=lP) (w:=w) (base:=base) d3 h9 T;have p:=λbase (GB:Mod (kW w) U base)=>wo (P:=lP) (w:=w) (base:=base) k1 c7 T;have l:=λbase (GB:Mod (kW w) U base)=>ym (P:=lP) (w:=w) (base:=base) c5 i1 T (L base GB);have A:=λbase (GB:Mod (kW w) U base)=>tU (P:=lP) (w:=w) (base:=base) e5 g7 T (H base GB);have Y:=λbase (GB:Mod (kW w) U base)=>oC (P:=lP) (w:=w) (base:=base) h2 a6 T (Z base GB);have N:=λbase (GB:Mod (kW w) U base)=>oE (P:=lP) (w:=w) (base:=base) c1 h8 T (Z base GB);have E:=λbase (GB:Mod (kW w) U base)=>sQ (P:=lP) (w:=w) (base:=base) g4 c0 T (R base GB);have I:=λbase (GB:Mod (kW w) U base)=>qu (P:=lP) (w:=w) (base:=base) h3 j2 T (Z base GB);have t:=λbase (GB:Mod (kW w) U base)=>wq (P:=lP) (w:=w) (base:=base) g8 e2 T (Z base GB);have z:=λbase (GB:Mod (kW w) U base)=>Cq (P:=lP) (w:=w) (base:=base) b1 e9 T (O base GB) (l base GB);have k:=λbase (GB:Mod (kW w) U base)=>yo (P:=lP) (w:=w) (base:=base) j7 i3 T (Z base GB) (S base GB) (Y base GB);have F:=λbase (GB:Mod (kW w) U base)=>qv (P:=lP) (w:=w) (base:=base) e4 h6 T (R base GB) (E base GB) (p base GB);have y:=λbase (GB:Mod (kW w) U base)=>Cr (P:=lP) (w:=w) (base:=base) e3 f6 T (L base GB) (O base GB) (z base GB) (o base GB);have n:=λbase (GB:Mod (kW w) U base)=>wt (P:=lP) (w:=w) (base:=base) b3 h4 T (z base GB);have q:=λbase (GB:Mod (kW w) U base)=>wu (P:=lP) (w:=w) (base:=base) c8 j0 T (Z base GB) (Y base GB) (k base GB) (r base GB) (C base GB);have g:=λbase (GB:Mod (kW w) U base)=>yp (P:=lP) (w:=w) (base:=base) b i4 T (y base GB);have Q:=λbase (GB:Mod (kW w) U base)=>ni (P:=lP) (w:=w) (base:=base) a5 j1 T (GR base) (g base GB);have J:=λbase (GB:Mod (kW w) U base)=>qw (P:=lP) (w:=w) (base:=base) e0 e6 T (Q base GB);have m:=λbase (GB:Mod (kW w) U base)=>wx (P:=lP) (w:=w) (base:=base) g5 a3 T;have B:=λbase (GB:Mod (kW w) U base)=>tW (P:=lP) (w:=w) (base:=base) c6 a4 T (O base GB) (y base GB) (j base GB) (i base GB) (J base GB) (x base GB) (n base GB);have K:RefX lP w (kW w) U 10 9 "_law_refused" ["_law_call"] bY:=qx k0 e8 T;exact Cs h7 T GM BL (JF (show HI (kW w)=b_ by kernel_rfl)) c f B A Z S N F I m K fC q t
end W
section
namespace W
open PySem PySem.Spec PyProof.Rows L2 S3 S4 S7
theorem Ku(K:dV)(H:Hp)(a:dt)(ns:List Int)(Y:TabsOk K H)(Z:Ft K H a (ns.map V.int)):DQ K uD [.ref a] H (λv _=>v= .bl b_) λ_ _ _=>False:=by obtain⟨d,T,e,hd⟩:=Mz (S:=[]) (ns:=ns);refine⟨[],[],[.ro (ns.map D.int)],⟨.nil,rfl,(λk a xs h=>by cases h),Y⟩,.cons (.ro Z (nQ ns)) .nil,?_⟩;refine⟨.ok d,T,e,λU R _ _=>?_⟩;subst hd;intro v X;cases X;rfl
theorem walk{l:UP}{q:ey}{loose:List Str}{XP:(Str->Option a_)->gg->Prop}{YP:fg->gg->Prop}{d:Ve}{K:Th->dV}(X:l.most=ar 63)(Y:d.params.defaults=[])
  (T:∀(w:fg) (h:gg),YP w h->(K w.params).In h) (U:∀w:fg,Vb (K w.params)=b_)
  (Z:∀(w:fg) (h:gg),YP w h->∀y∈cO,∀c Q,mu (K w.params) y=ar (c,Q)->Tu h c Q/\h.get? Q=ar (y2 #[]))
  (F:∀(w:fg) (mg:Str->Option a_) (fa:dt) (h:gg),(K w.params).In h->h.Ns g_ mg->mg d.name=ar (.ref fa)->
   ∃fd:lx,(∀(s:dr) (u:a_),J_ s fd ⟨[u],[]⟩ [("_law_script",u)])/\∀base:gg,Mod (K w.params) mg base->BaseL (K w.params) mg base->FnOk l.prog w (K w.params) mg base (mE l.prog w) 11 fa fd ["_law_script"] (DQ (K w.params) uD)):
  Vm q loose XP YP l.row.toRowW d [] (λf vs=>PySem.call f vs):=
 DY (n:=63) (k:=11) (x:="_law_script") (sp:=λw=>DQ (K w.params) uD) X (by decide) Y ⟨rfl,by decide,by decide⟩ T U Z F λw H a ns _ R S=>Ku (K w.params) H a ns R S
end W
open PySem PySem.W PyProof.Rows
set_option maxRecDepth 100000 in
set_option maxHeartbeats 0 in
theorem PySem.Challenge.cw_tiewebs_k09_root_papers_looked_at_holds : PySem.Challenge.rw_tiewebs_k09_root_papers_looked_at.Holds := by
 w_on;o_law
 refine holds_open (q:=KH.vq) (loose:=[]) (Xt:=KH.Xt0) (XP:=XL KH.vq []) (Yf:=UZ (Tj KH.K0 KH.as0 KH.as0_eq KH.ts0)) (Ya:=U0 (Tj KH.K0 KH.as0 KH.as0_eq KH.ts0)) (YP:=Hook.says (Tj KH.K0 KH.as0 KH.as0_eq KH.ts0)) (N:=8158) KH.left0 (Hook.of (Tj KH.K0 KH.as0 KH.as0_eq KH.ts0)) (Hook.keeps (Tj KH.K0 KH.as0 KH.as0_eq KH.ts0)) (fun s e=>xl_of s (Bool.and_eq_true_iff.mp e).1) XL.keeps (by rfl) (by rfl) (by rfl) (fun s e=>recFacts_of (Bool.and_eq_true_iff.mp e).2) (by rfl) (by first|assumption|decide+kernel) (by decide+kernel) ⟨rfl,rfl,rfl,rfl,rfl,by decide+kernel⟩ ?hw ?hc
 case hw=>w_witness2
 refine W.walk (l:=PySem.Challenge.rw_tiewebs_k09_root_papers_looked_at) rfl rfl (fun w h Y=>PySem.W.km_in_of Y) ?nt (fun w h Y=>S7.NC (w:=w) ?ck Y) W.Oz
 case nt=>intro w;kernel_rfl
 case ck=>kernel_rfl
end
