import PyProof.Rows.All
import Wide.All
import OpenK.AllK
import Wide.FinOn
import PySem.Challenge.RW_tiewebs_k02_places_and_pieces
import Lean
import PyProof.EqAt
import PyProof.EqKinds
import PyProof.TupleCall
import PyProof.SetScanFacts
import PyProof.EnumMake
import PyProof.Draws
import PyProof.ExcInit
import PyProof.ExcClass3
import PyProof.InstStore
import KE.KUnpack
import PyProof.P3In
set_option Elab.async false
set_option compiler.extract_closed false
set_option linter.all false
set_option maxRecDepth 100000
set_option maxHeartbeats 8000000
noncomputable section
open Option renaming some->ar,map_some->z8,bind_some->G_
open Pure renaming pure->aC
open PySem renaming Value->a_,Addr->c_,Shared->dn,starEach->d_,wpAny->ee,Program->er,World->fc,model->fg,mainGlobals->gc,Heap->gd,FuncData->gg,eval->hJ,Around->hS,compareOp->i_,cellsFrom->kr,importedModules->kT,IsTupleKey->k4,foldedSetIterable->k6,behindInMarks->k7,bootBuiltins->k_,swapsWith->la,SetTable->lb,attributeBase->lx,rawInt->mh,NameKind->mu,intKind->m1,PyData->n_,Stmt->oo,assignEach->o_,IsPair->p_,binaryOp->rA,backTo->r_,cLine->u3,builtinsNs->wd,sliceBounds->wh,callerA->xk,holding->B_,codeAny->B',pyNext->D',firstArgMember->E2,BindsTo->F0,ofAClassStatement->G2,treeTable->I0,Arguments->J',codeAmong->K_,checkBuiltinCall->K',IsZip->LI,letOwnedTupleGo->M_,Params->O',GenState->P1,assign->QL,OsState->Rf,PassesOwn->Ri,leaving->Rk,noteFrame->Rm,wpAny_standAt->Ro,seq_tuple_add->Rp,wpAny_newList->Ru,IsPart->Rv,bindArgs->Rx,concat_meets->Ry,getItem->Rz,lastMarks->RE,seqIndex?->RG,isSubtype->RI,pickOrder->RJ,seqIndex_of->RL,hashByValue->RM,wpAny_of_eq->RN,wpAny_letGo->RO,Keyword->RP,sysModules->RQ,wpAny_Name->RS,pyIter->RT,again->RU,bindL->RV,bindC->RW,typeIs_int->RX,closureFor->RZ,setsByText->R5,field->R6,ZipApart->R7,defaultsOf->R8,Model->Sd,TriplesOk->Sj,seqItems?->Sk,onTheHeap->Sn,standAt->So,entryFor->SD,slotArgs->SF,Result->SL,DefRec->SM,argsOk->SR,newExc->SU,setItem->SV,getAttr->SW,newList->SZ,collect->S8
open Bool renaming true->b_,false->dt,false_eq_true->e_,and_eq_true->j_,not_true->y',or_eq_true->A2,not_eq_true'->G3,and_false->O_,and_self->Rr
open List renaming range->dr,replicate->eb,not_mem_nil->eK,mem_cons->f_,range'->iB,lookup_cons->k',size_toArray->mv,getD_eq_getElem?_getD->nC,length_cons->q_,all_eq_true->y1,mem_append->z7,toArray->C_,length->F_,cons_append->L0,length_nil->M',forIn_cons->N_,map_cons->Rn,all_cons->Rq,foldl->RY,map->SC
open PySem.W renaming Frag->dV,tabIn->kS,kitOne->ra,nsIn->rb,kas_place->r7,kas_asc->t_,kas_desc->u4,kas_rev->u5,kas_sort->u',kla_obj->wk,openSeen->w7,openGood->w_,keepIn->xg,tabObj->x',fnOf->y2,InstAt->z6,findIn->A_,boot_heap->D_,behindTheImports->H_,findIn->J_,kmHook->P2,codeIn->QO,CodeHd->Q_,kas_bin->Rl,lookIn->Rw,kas_descPart->RB,kas_count->RH,methodObj->RK,kitAny->R0,kla_fn->R9,instObj->Sa,OpenLaw->Sg,kas_tail3->Sh,mroIn->Sl,findObj->Sr,excIn->Ss,clsIn->Su,exmOne->SH,notCls->SJ,noTabs->SK,KasT->SN,OpenLaw->SX,WalkO->SY,clsIn->S9,Frag->S_
open PySem.Value renaming ref->eo,none->hO,int->oi,bool->u0,type->v_,builtin->z4,str->I_,float->P_
open PySem.SetTable renaming insertAt->ey,below->vr,fresh->EW,turns->E1,below->QT,runEnd->R1,advance->Sq,bits->Sx,turns->Sy
open PySem.PyData renaming eqv->f',eqvAll->ly,depthAll->l6,list->m_,int->rn,tuple->x_
open False renaming elim->g_
open PySem.NameKind renaming free->hY,cell->p4
open PySem.Str renaming ofString->h_
open PySem.Builtin.SmallTypes renaming nextOf->iA,ownedTupleIsFree->k8
open Ne renaming symm->j'
open PySem.Obj renaming mapSeq->l_,mapFields->z3,putSet->L_
open PyProof.Rows renaming IntsAre->m2,seqObj->s_,envOfC->y3,AllBare->y_,spliced_more->RD,IsTup->R_,bubble->SQ
open PySem.Builtin.Slice renaming slicePlaces->n3,sliceAdjust->u_
open True renaming intro->pa
open PySem.Builtin.Tuple renaming tupleExact->pz
open PySem.Builtin.List renaming listTooLong->p0
open PySem.Heap renaming SameBut->ri
open Array renaming replicate->rB,mk->z5,length_toList->A',getD->R4
open Or renaming inr->sb,inl->y8
open ForInStep renaming yield->z_
open List.Perm renaming cons->EA
open Int renaming toNat_natCast->E_
open PySem.SetTable.layClean renaming free->G4
open Sum renaming inl->Rg,inr->Rh
open PySem.Shared renaming TypeIs->Rt
open PySem.W.KasT renaming ret->RA
open PySem.pickOrder renaming go->RC
open LawfulBEq renaming eq_of_beq->RF
open PySem.SetTable.below renaming go->R3
open PyProof.Rows.IsTup renaming new->Se
open ForIn renaming forIn->Si
open PySem.W.Hook renaming obs->Sv,val->Sw
open PySem.SetTable.probe renaming go->Sz
abbrev MR:=@PySem.wpAny_bind
abbrev MS:=@List.length_map
abbrev MT:=@List.length_append
abbrev MU:=@PySem.Heap.get?_push_of_some
abbrev MV:=@Nat.le_refl
abbrev MW:=@PySem.wpAny_pure
abbrev MX:=@List.getElem?_eq_some_iff
abbrev MY:=@List.getElem?_eq_getElem
abbrev MZ:=@PySem.Heap.lt_size
abbrev M0:=@List.length_range
abbrev M1:=@Array.getElem?_eq_getElem
abbrev M3:=@List.mem_cons_of_mem
abbrev M5:=@nC
abbrev M6:=@PySem.Heap.get?_push_size
abbrev M7:=@Nat.le_trans
abbrev M8:=@mv
abbrev M9:=@f_
abbrev Na:=@List.mem_range
abbrev Nb:=@decide_eq_true
abbrev Nd:=@Rn
abbrev Nf:=@Nat.lt_of_lt_of_le
abbrev Ng:=@Nat.ne_of_lt
abbrev Nh:=@List.append_assoc
abbrev Ni:=@List.mem_cons_self
abbrev Nj:=@List.mem_append_right
abbrev Nk:=@List.getElem?_append_left
abbrev Nl:=@List.map_map
abbrev Nm:=@List.mem_map
abbrev Nn:=@List.getElem?_map
abbrev Np:=@List.length_filter_le
abbrev Nq:=@Array.getElem?_eq_some_iff
abbrev Nr:=@Nat.zero_le
abbrev Nt:=@congrFun
abbrev Nu:=@decide_eq_true_eq
abbrev Nv:=@decide_eq_false
abbrev Nw:=@Option.some.inj
abbrev Nx:=@y1
abbrev Ny:=@Array.getElem?_toList
abbrev Nz:=@List.mem_of_getElem?
abbrev NA:=@z7
abbrev NB:=@List.getElem?_set_self
abbrev NC:=@List.map_append
abbrev ND:=@j_
abbrev NF:=@List.cons.inj
abbrev NG:=@Array.getD_eq_getD_getElem?
abbrev NH:=@E_
abbrev NI:=@PySem.W.mg_none_of
abbrev NJ:=@PySem.Heap.get?_update_other
abbrev NK:=@List.replicate_succ
abbrev NL:=@List.append_nil
abbrev NM:=@List.getElem?_set_ne
abbrev NN:=@List.nodup_cons
abbrev NO:=@k'
abbrev NP:=@List.mem_singleton
abbrev NQ:=@List.filterMap_cons
abbrev NR:=@List.mem_filter
abbrev NS:=@Option.isSome_iff_exists
abbrev NT:=@PySem.wpAny_newObj_type
abbrev NU:=@List.pairwise_cons
abbrev NV:=@PySem.wpAny_holding
abbrev NW:=@PySem.W.kia_one
abbrev NX:=@PySem.wpAny_call_entry
abbrev NY:=@of_decide_eq_true
abbrev NZ:=@PySem.wpAny_field
abbrev N0:=@PySem.Heap.get?_update_self
abbrev N1:=@List.getElem?_eq_none
abbrev N4:=@q_
abbrev N5:=@PySem.sizeLine_eq
abbrev N6:=@Bool.false_ne_true
abbrev N7:=@PySem.PassesOwn.never
abbrev N8:=@Nat.lt_succ_of_lt
abbrev N9:=@PySem.Heap.size_push
abbrev Oa:=@PySem.W.kia_tup
abbrev Ob:=@List.mem_append_left
abbrev Oc:=@PySem.wpAny_mono
abbrev Od:=@List.length_take
abbrev Oe:=@List.getElem_mem
abbrev Of:=@Array.getElem?_eq_none
abbrev Og:=@PySem.wpAny_truthy_bool
abbrev Oh:=@PyProof.Rows.slot_tuple_getitem
abbrev Oi:=@List.getElem?_range
abbrev Oj:=@PySem.wpAny_setState_of
abbrev Ol:=@PySem.Heap.SameBut.update
abbrev Om:=@List.map_congr_left
abbrev On:=@PySem.wpAny_seqItems
abbrev Oo:=@List.map_nil
abbrev Oq:=@List.mem_filterMap
abbrev Os:=@PySem.Obj.data_mapFields
abbrev Ot:=@List.length_drop
abbrev Ou:=@PySem.Heap.get?_none_of_le
abbrev Ov:=@Nat.lt_irrefl
abbrev Ow:=@List.filter_cons_of_pos
abbrev Ox:=@List.filter_cons_of_neg
abbrev Oy:=@Nat.le_of_lt
abbrev Oz:=@List.flatten_cons
abbrev OA:=@PyProof.Rows.callWith_type1
abbrev OB:=@Bool.eq_iff_iff
abbrev OC:=@List.getElem?_append_right
abbrev OD:=@PySem.F.slot_tuple_iterator_next
abbrev OE:=@Nat.lt_succ_self
abbrev OF:=@Nat.ne_of_gt
abbrev OG:=@PySem.wpAny_Call_Name_kw
abbrev OH:=@Int.emod_lt_of_pos
abbrev OI:=@List.getElem?_toArray
abbrev OJ:=@PySem.wpAny_setField_rec
abbrev OK:=@List.length_range'
abbrev OL:=@PySem.Around.under_plainId
abbrev OM:=@PySem.wpAny_passesOwn
abbrev ON:=@List.mem_range'_1
abbrev OO:=@PySem.codeAny_mono
abbrev OP:=@PySem.mem_of_lookup
abbrev OQ:=@A'
abbrev OR:=@List.mem_map_of_mem
abbrev OS:=@Nat.le_add_right
abbrev OT:=@G_
abbrev OU:=@Bool.false_and
abbrev OV:=@O_
abbrev OW:=@PySem.wpAny_setField
abbrev OX:=@List.drop_eq_nil_of_le
abbrev OY:=@PySem.Heap.size_after_update
abbrev OZ:=@List.take_of_length_le
abbrev O0:=@List.zip_cons_cons
abbrev O1:=@PySem.wpAny_execs_nil
abbrev O2:=@List.length_set
abbrev O3:=@Int.emod_nonneg
abbrev O4:=@List.mem_iff_getElem?
abbrev O5:=@PySem.codeAny_builtin
abbrev O6:=@PySem.Obj.isFreed_of_fields
abbrev O7:=@List.set_append_right
abbrev O8:=@Bool.true_and
abbrev O9:=@Nat.lt_trichotomy
abbrev Pa:=@List.pairwise_map
abbrev Pb:=@List.filter_congr
abbrev Pc:=@List.perm_ext_iff_of_nodup
abbrev Pd:=@List.pairwise_iff_getElem
abbrev Pe:=@List.getElem?_zip_eq_some
abbrev Pf:=@congrArg
abbrev Pg:=@PySem.wpAny_execs_cons
abbrev Ph:=@PySem.wpAny_forIn_list
abbrev Pi:=@Nat.succ_le_succ
abbrev Pj:=@PySem.wpAny_askSetting
abbrev Pk:=@PySem.wpAny_isInstance
abbrev Pl:=@Bool.not_eq_true
abbrev Pm:=@Nat.le_succ
abbrev Pn:=@List.Perm.nodup_iff
abbrev Po:=@List.filter_sublist
abbrev Pp:=@PySem.F.args_tuple_add_2
abbrev Pq:=@Nat.le_of_eq
abbrev Pr:=@PySem.wpAny_pyIter_tuple
abbrev Pu:=@List.of_mem_zip
abbrev Pw:=@PySem.F.entry_tuple_add
abbrev Px:=@Array.Perm.refl
abbrev Py:=@Nat.lt_of_le_of_lt
abbrev Pz:=@Nat.min_le_left
abbrev PB:=@PyProof.Rows.F.plain_set_update_loop
abbrev PC:=@PySem.wpAny_attempt
abbrev PD:=@PySem.W.mg_of
abbrev PF:=@List.getElem?_take
abbrev PH:=@PySem.W.cellsFrom_some
abbrev PJ:=@PySem.F.slot_tuple_add
abbrev PK:=@List.pairwise_lt_range
abbrev PL:=@PySem.W.kitx_list
abbrev PM:=@PySem.W.kitx_dict
abbrev PN:=@Nat.le_of_succ_le
abbrev PP:=@List.nodup_append
abbrev PQ:=@List.ext_getElem?
abbrev PR:=@Prod.ext
abbrev PU:=@PySem.isSubtype_type
abbrev PV:=@List.length_replicate
abbrev PX:=@PySem.wpAny_typeOf
abbrev PY:=@List.length_singleton
abbrev PZ:=@List.all_map
abbrev P0:=@Int.zero_add
abbrev P3:=@List.Pairwise.sublist
abbrev P4:=@PySem.builtinLookup_eq_fast
abbrev P5:=@List.getElem_map
abbrev P6:=@PySem.wpAny_pyIter_zip
abbrev P7:=@decide_eq_decide
abbrev P8:=@Array.mem_toList_iff
abbrev P9:=@PySem.Calls.evalArgs_plain
abbrev Qa:=@PySem.wpAny_updateSeq_pair
abbrev Qb:=@List.mem_of_mem_drop
abbrev Qc:=@Bool.and_eq_true_iff
abbrev Qd:=@PySem.F.args_tuple_iterator_next_1
abbrev Qe:=@PySem.wpAny_call
abbrev Qf:=@PyProof.Rows.intsAre_of
abbrev Qg:=@List.nil_append
abbrev Qh:=@List.range_succ
abbrev Qi:=@PySem.wpAny_setEntries_of
abbrev Qj:=@PySem.Heap.get?_update_ne
abbrev Qk:=@PySem.F.entry_tuple_iterator_next
abbrev Ql:=@PySem.F.slot_zip_next
abbrev Qm:=@List.filter_eq_self
abbrev Qn:=@List.length_zip
abbrev Qo:=@PySem.Calls.Name_function_global
abbrev Qp:=@List.perm_append_singleton
abbrev Qq:=@List.length_eraseIdx_of_lt
abbrev Qs:=@PySem.F.excBase_ValueError
abbrev Qt:=@PySem.W.callWith_K
abbrev Qu:=@Nat.lt_trans
abbrev Qv:=@List.getElem?_drop
abbrev Qw:=@List.drop_eq_getElem_cons
abbrev Qx:=@Classical.byContradiction
abbrev Qy:=@PySem.isSubtype_stop
abbrev Qz:=@PySem.Calls.call_function_entry
abbrev QA:=@PySem.wpAny_letOwnedTupleGo_zip
abbrev QB:=@PySem.wpAny_pyIter_list
abbrev QC:=@PySem.W.kitx_none
abbrev QD:=@PySem.Calls.spliced_nil
abbrev QE:=@List.getElem?_take_of_lt
abbrev QF:=@PySem.call_meets
abbrev QG:=@Nat.not_lt
abbrev QH:=@PySem.wpAny_rule
abbrev QI:=@PySem.F.slot_list_append
abbrev QJ:=@PySem.F.type_list_append
abbrev QK:=@Nat.mod_lt
abbrev QM:=@Bool.eq_false_iff
abbrev QN:=@Array.getElem?_replicate
abbrev QP:=@PySem.Obj.cls_mapFields
abbrev QQ:=@List.Perm.eq_of_pairwise
abbrev QR:=@List.Pairwise.imp_of_mem
abbrev QS:=@PySem.F.plainAttrs_list
abbrev QU:=@PySem.plainId_quiet
abbrev QV:=@PySem.wpAny_onRaise
abbrev QW:=@List.pairwise_singleton
abbrev QX:=@Int.eq_ofNat_of_zero_le
abbrev QY:=@PySem.wpAny_eqBool_int
abbrev QZ:=@PySem.noFill_tuple_add
abbrev Q0:=@Nat.le_of_not_lt
abbrev Q3:=@List.countP_cons
abbrev Q4:=@List.mem_flatMap
abbrev Q5:=@List.nodup_range
abbrev Q6:=@PySem.wpAny_loadPart'
abbrev Q7:=@Nat.not_lt_zero
abbrev Q8:=@PySem.pushCells_keeps
abbrev Q9:=@PySem.typeLookup_type
abbrev Ra:=@Nat.sub_self
abbrev Rb:=@PySem.wpAny_Expr_any
abbrev Rc:=@List.drop_zero
abbrev Re:=@List.take_left
abbrev Rj:=@List.any_cons
namespace KH
open PySem PySem.W PySem.Spec PyProof.Rows
def tp(i:Nat):Stmt:=PySem.Challenge.pw_tiewebs_k02_places_and_pieces.main.body.getD i (.Pass ⟨0,0,0,0⟩)
def iC:oo->oo
 | .ClassDef _ _ _ (b::_) .. =>b
 |s=>s
def dA(s:oo):Arguments:=match s with
 | .FunctionDef _ a _ _ _ _ _ _ _ _=>a
 |_=>{posonlyargs:=[],args:=[],vararg:=none,kwonlyargs:=[],kw_defaults:=[],kwarg:=none,defaults:=[]}
def dB(s:oo):List Stmt:=match s with
 | .FunctionDef _ _ b _ _ _ _ _ _ _=>b
 |_=>[]
def dS(s:oo):Scope:=match s with
 | .FunctionDef _ _ _ _ _ _ sc _ _ _=>sc
 |_=>{kind:=.function,names:=[],isGenerator:=dt,isCoroutine:=dt}
def zs(x:String)(t:Nat):Value:=.str (h_ x) t
def ze(P:O')(x:String)(t:Nat)(v:a_):DictEntry:=⟨PyData.keyHash P (h_ x),zs x t,v⟩
def zt(xs:Array a_):Obj:=⟨.type "tuple",none,.seq xs, #[]⟩
def zc(n q:String)(a:Nat)(l ac p5 p6 fl:Int)(r8:a_)(p10:Int)(r11 r13 r14 r15:a_)(p16:Int)(t:Nat):Obj:=⟨.type "code",none,.fields #[zs n a,zs q (a+1),zs "/claim/cut.py" (a+2),.int l 0,.int ac 0,.int p5 0,.int p6 0,.int fl 0,r8,.bool b_,.int p10 0,r11,.none,r13,r14,r15,.int p16 0,.int l 0,zs "/claim/cut.py" t], #[]⟩
def zf(n q:String)(st:oo)(kV dc pm:a_)(an:Option c_)(cd ct:a_):Data:=.func (y2 (h_ n) (h_ q) (dA st) (dB st) (dS st) .none kV dc pm an cd ct)
def zg(n q:String)(st:oo):Obj:=⟨.none,none,.func {name:=h_ n,qualname:=h_ q,params:=dA st,body:=.stmts (dB st),scope:=dS st,globals:=0,closure:=[],defaults:=.none,kwdefaults:=.none}, #[]⟩
def z0:Obj:=⟨.none,none,.fields #[],#[]⟩
def zp:Obj:=⟨.type "builtin_function_or_method",none,.fields #[.builtin "type.__prepare__",.type "type"],#[]⟩
def zu(a:Nat):Obj:=⟨.type "super",none,.fields #[.ref a,.ref a,.ref a],#[]⟩
def zi(a:Nat):Obj:=⟨.type "builtin_function_or_method",none,.fields #[.builtin "object.__init_subclass__",.ref a],#[]⟩
def zr(a b:Nat)(v:a_):Obj:=⟨.type "frame",none,.plain,#[ar (.ref a),ar (.ref 3),ar (.ref b),none,ar v,none,ar (.ref 0)]⟩
def zk(n:String)(a b c:Nat)(l:Int)(r:Nat)(m:Int)(s:Nat)(x y:Int)(t:Nat):Obj:=⟨.type "code",none,.fields #[zs n a,zs n b,zs "/claim/cut.py" c,.int l 0,.int 0 0,.int 0 0,.int 0 0,.int 0 0,.ref r,.bool dt,.int m 0,.ref s,.none,.none,.none,.none,.int x 0,.int y 0,zs "/claim/cut.py" t],#[]⟩
def zE(n:String)(i x a:Nat)(l ac fl:Int)(md:String)(m t:Nat):List Obj:=[zt #[],z0,zg n n (tp i),zc n n a l ac 0 0 fl (.ref x) 181 (.ref (x+1)) .none .none (.ref (x+2)) t (t+1),⟨.type "function",none,zf n n (tp i) .none .none (zs md m) none (.ref (x+3)) .none,#[]⟩]
def zD(n:String)(i x a:Nat)(l ac fl:Int)(v:Array a_)(md:String)(m t:Nat):List Obj:=[zt #[],z0,zt v,zt #[],zg n n (tp i),zc n n a l ac 0 0 fl (.ref x) 181 (.ref (x+1)) (.ref (x+2)) (.ref (x+3)) (.ref (x+4)) t (t+1),⟨.type "function",none,zf n n (tp i) .none .none (zs md m) none (.ref (x+5)) .none,#[]⟩]
def zC(P:O')(n:String)(a t l:Nat):List Obj:=[zp,⟨(.type "dict"),none,(.dict #[ze P "__module__" (t+5) (zs "tiewebs.errors" 187),ze P "__qualname__" (t+7) (zs n (t+6)),ze P "__firstlineno__" (t+9) (.int l (t+8)),ze P "__static_attributes__" (t+10) (.ref (a+6))] 4),#[]⟩,zt #[],z0,zk n t (t+1) (t+2) l (a+2) 181 (a+3) (t+3) l (t+4),zr (a+4) (a+1) (zs "tiewebs.errors" 187),zt #[],⟨(.type "dict"),none,(.dict #[ze P "__module__" (t+5) (zs "tiewebs.errors" 187),ze P "__firstlineno__" (t+9) (.int l (t+8)),ze P "__static_attributes__" (t+10) (.ref (a+6)),ze P "__doc__" (t+11) .none] 2),#[]⟩,⟨(.type "type"),none,(.cls ⟨(h_ n),[(.ref 24)],[(.ref (a+8)),(.ref 24),(.type "ValueError"),(.type "Exception"),(.type "BaseException"),(.type "object")],(a+7),(h_ n),b_,[],[],dt,none,dt⟩),#[ar (.ref (a-1)),none,ar (zs n (t-2)),ar (zs n (t+6)),ar (.builtin "ValueError.__new__"),ar (.bool b_)]⟩,zu (a+8),zi (a+8),zt #[(.ref 24)]]
def ml:String:="law_tiewebs_k02_places_and_pieces"
def L1(P:O'):List Obj:=[boot_o_0 P,boot_o_1 P,boot_o_2 P,⟨(.type "dict"),none,(.dict #[ze P "__name__" 165 (zs ml 528),ze P "__doc__" 166 .none,ze P "__package__" 167 .none,ze P "__loader__" 168 (.builtin "__main__.__loader__#opaque"),ze P "__spec__" 169 .none,ze P "__annotations__" 170 (.ref 6),ze P "__builtins__" 171 (.ref 4),ze P "__file__" 173 (zs "/claim/cut.py" 172),ze P "__cached__" 174 .none,ze P "WebError" 206 (.ref 24),ze P "NoWeb" 222 (.ref 37),ze P "NoPlace" 238 (.ref 49),ze P "NoPlaces" 254 (.ref 61),ze P "NoMap" 270 (.ref 73),ze P "NoSharing" 286 (.ref 85),ze P "NoRoot" 302 (.ref 97),ze P "NoNumber" 318 (.ref 109),ze P "NotJoined" 334 (.ref 121),ze P "NoTie" 350 (.ref 133),ze P "NoText" 366 (.ref 145),ze P "NoLine" 382 (.ref 157),ze P "NoDeed" 398 (.ref 169),ze P "TooGreat" 425 (.ref 188),ze P "MOST_PLACES" 429 (.int 14 428),ze P "is_whole" 436 (.ref 197),ze P "is_pair" 443 (.ref 204),ze P "is_place" 451 (.ref 211),ze P "is_tie" 461 (.ref 218),ze P "is_rising" 467 (.ref 223),ze P "is_places" 473 (.ref 228),ze P "is_web" 479 (.ref 233),ze P "need_web" 486 (.ref 240),ze P "need_place" 494 (.ref 247),ze P "are_tied" 503 (.ref 254),ze P "near" 509 (.ref 259),ze P "degrees" 515 (.ref 264),ze P "pieces" 521 (.ref 269),ze P "within" 527 (.ref 274),ze P "_law_cell_at" 537 (.ref 281),ze P "_law_state" 546 (.ref 288),ze P "_law_take" 556 (.ref 295),ze P "_law_pairs" 562 (.ref 300),ze P "_law_mixed_row" 572 (.ref 307),ze P "_law_web" 578 (.ref 312),ze P "_law_great_web" 590 (.ref 319),ze P "_law_tied" 599 (.ref 326),ze P "_law_bad_web" 607 (.ref 333),ze P "_law_same" 613 (.ref 338),ze P "_law_refused" 619 (.ref 343),ze P "_law_pieces" 625 (.ref 348),ze P "_law_within_right" 631 (.ref 353),ze P "_law_refusals_right" 637 (.ref 358),ze P "law" 643 (.ref 363)] 53),#[]⟩,boot_o_4 P,boot_o_5 P,boot_o_6 P,boot_o_7 P,boot_o_8 P,boot_o_9 P,boot_o_10 P,zt #[],⟨.none,none,(.fields #[(.int 2 0),(.int 0 0),(.ref 20),(.int 4 0),(.int 0 0),(.ref 33),(.int 6 0),(.int 0 0),(.ref 45),(.int 8 0),(.int 0 0),(.ref 57),(.int 10 0),(.int 0 0),(.ref 69),(.int 12 0),(.int 0 0),(.ref 81),(.int 14 0),(.int 0 0),(.ref 93),(.int 16 0),(.int 0 0),(.ref 105),(.int 18 0),(.int 0 0),(.ref 117),(.int 20 0),(.int 0 0),(.ref 129),(.int 22 0),(.int 0 0),(.ref 141),(.int 24 0),(.int 0 0),(.ref 153),(.int 26 0),(.int 0 0),(.ref 165),(.int 28 0),(.int 0 0),(.ref 177),(.int 35 0),(.int 0 0),(.ref 196),(.int 37 0),(.int 0 0),(.ref 203),(.int 39 0),(.int 0 0),(.ref 210),(.int 41 0),(.int 0 0),(.ref 217),(.int 46 0),(.int 0 0),(.ref 222),(.int 48 0),(.int 0 0),(.ref 227),(.int 50 0),(.int 0 0),(.ref 232),(.int 57 0),(.int 0 0),(.ref 239),(.int 60 0),(.int 0 0),(.ref 246),(.int 64 0),(.int 0 0),(.ref 253),(.int 66 0),(.int 0 0),(.ref 258),(.int 69 0),(.int 0 0),(.ref 263),(.int 73 0),(.int 0 0),(.ref 268),(.int 83 0),(.int 0 0),(.ref 273),(.int 91 0),(.int 0 0),(.ref 280),(.int 95 0),(.int 0 0),(.ref 287),(.int 100 0),(.int 0 0),(.ref 294),(.int 109 0),(.int 0 0),(.ref 299),(.int 114 0),(.int 0 0),(.ref 306),(.int 120 0),(.int 0 0),(.ref 311),(.int 134 0),(.int 0 0),(.ref 318),(.int 142 0),(.int 0 0),(.ref 325),(.int 144 0),(.int 0 0),(.ref 332),(.int 149 0),(.int 0 0),(.ref 337),(.int 157 0),(.int 0 0),(.ref 342),(.int 172 0),(.int 0 0),(.ref 347),(.int 180 0),(.int 0 0),(.ref 352),(.int 192 0),(.int 0 0),(.ref 357),(.int 201 0),(.int 0 0),(.ref 362)]),#[]⟩,⟨(.type "code"),none,(.fields #[(zs "<module>" 182),(zs "<module>" 183),(zs "/claim/cut.py" 184),(.int 1 0),(.int 0 0),(.int 0 0),(.int 0 0),(.int 0 0),(.ref 11),(.bool dt),(.int 181 0),(.ref 12),.none,.none,.none,.none,(.int 185 0),(.int 1 0),(zs "/claim/cut.py" 186)]),#[]⟩,zr 13 3 (zs "__main__" 164),zt #[(.type "ValueError")],zp,⟨(.type "dict"),none,(.dict #[ze P "__module__" 196 (zs "tiewebs.errors" 187),ze P "__qualname__" 198 (zs "WebError" 197),ze P "__firstlineno__" 200 (.int 2 199),ze P "__static_attributes__" 201 (.ref 22)] 4),#[]⟩,zt #[],z0,zk "WebError" 191 192 193 2 18 181 19 194 2 195,zr 20 17 (zs "tiewebs.errors" 187),zt #[],⟨(.type "dict"),none,(.dict #[ze P "__module__" 196 (zs "tiewebs.errors" 187),ze P "__firstlineno__" 200 (.int 2 199),ze P "__static_attributes__" 201 (.ref 22),ze P "__weakref__" 203 (.ref 25),ze P "__doc__" 204 .none] 3),#[]⟩,⟨(.type "type"),none,(.cls ⟨(h_ "WebError"),[(.type "ValueError")],[(.ref 24),(.type "ValueError"),(.type "Exception"),(.type "BaseException"),(.type "object")],23,(h_ "WebError"),b_,[],[(.ref 37),(.ref 49),(.ref 61),(.ref 73),(.ref 85),(.ref 97),(.ref 109),(.ref 121),(.ref 133),(.ref 145),(.ref 157),(.ref 169),(.ref 188)],dt,none,dt⟩),#[ar (.ref 15),none,ar (zs "WebError" 189),ar (zs "WebError" 197),ar (.builtin "ValueError.__new__"),ar (.bool b_)]⟩,⟨(.type "getset_descriptor"),none,(.fields #[(zs "__weakref__" 202),(.ref 24),(.builtin "ExceptionGroup.__weakref__"),.none]),#[]⟩,zu 24,zi 24,zt #[(.ref 24)]]++zC P "NoWeb" 29 209 4++zC P "NoPlace" 41 225 6++zC P "NoPlaces" 53 241 8++zC P "NoMap" 65 257 10++zC P "NoSharing" 77 273 12++zC P "NoRoot" 89 289 14++zC P "NoNumber" 101 305 16++zC P "NotJoined" 113 321 18++zC P "NoTie" 125 337 20++zC P "NoText" 137 353 22++zC P "NoLine" 149 369 24++zC P "NoDeed" 161 385 26++[zp,⟨(.type "dict"),none,(.dict #[ze P "__module__" 406 (zs "tiewebs.errors" 187),ze P "__qualname__" 408 (zs "TooGreat" 407),ze P "__firstlineno__" 410 (.int 28 409),ze P "__init__" 419 (.ref 185),ze P "__static_attributes__" 422 (.ref 186)] 5),#[]⟩,zt #[],⟨.none,none,(.fields #[(.int 30 0),(.int 4 0),(.ref 184)]),#[]⟩,zk "TooGreat" 401 402 403 28 175 181 176 404 28 405,zr 177 174 (zs "tiewebs.errors" 187),zt #[],z0,zt #[(zs "self" 414),(zs "many" 415),(zs "most" 416)],zt #[],zg "__init__" "TooGreat.__init__" (iC (tp 14)),zc "__init__" "TooGreat.__init__" 411 30 3 0 0 3 (.ref 179) 181 (.ref 180) (.ref 181) (.ref 182) (.ref 183) 417 418,⟨.type "function",none,(zf "__init__" "TooGreat.__init__" (iC (tp 14)) .none .none (zs "tiewebs.errors" 187) none (.ref 184) .none),#[]⟩,zt #[(zs "many" 420),(zs "most" 421)],⟨(.type "dict"),none,(.dict #[ze P "__module__" 406 (zs "tiewebs.errors" 187),ze P "__firstlineno__" 410 (.int 28 409),ze P "__init__" 419 (.ref 185),ze P "__static_attributes__" 422 (.ref 186),ze P "__doc__" 423 .none] 2),#[]⟩,⟨(.type "type"),none,(.cls ⟨(h_ "TooGreat"),[(.ref 24)],[(.ref 188),(.ref 24),(.type "ValueError"),(.type "Exception"),(.type "BaseException"),(.type "object")],187,(h_ "TooGreat"),b_,[],[],dt,none,dt⟩),#[ar (.ref 172),none,ar (zs "TooGreat" 399),ar (zs "TooGreat" 407),ar (.builtin "ValueError.__new__"),ar (.bool b_)]⟩,zu 188,zi 188]++zD "is_whole" 17 191 430 35 1 3 #[zs "thing" 433] "tiewebs.webs" 426 434++zD "is_pair" 18 198 437 37 1 3 #[zs "thing" 440] "tiewebs.webs" 426 441++zD "is_place" 19 205 444 39 2 3 #[zs "many" 447,zs "thing" 448] "tiewebs.webs" 426 449++zD "is_tie" 20 212 452 41 2 3 #[zs "many" 455,zs "thing" 456,zs "low" 457,zs "high" 458] "tiewebs.webs" 426 459++zE "is_rising" 21 219 462 46 1 3 "tiewebs.webs" 426 465++zE "is_places" 22 224 468 48 2 3 "tiewebs.webs" 426 471++zE "is_web" 23 229 474 50 1 3 "tiewebs.webs" 426 477++zD "need_web" 24 234 480 57 1 3 #[zs "thing" 483] "tiewebs.webs" 426 484++zD "need_place" 25 241 487 60 2 3 #[zs "web" 490,zs "place" 491] "tiewebs.webs" 426 492++zD "are_tied" 26 248 495 64 3 3 #[zs "web" 498,zs "one" 499,zs "other" 500] "tiewebs.webs" 426 501++zE "near" 27 255 504 66 2 3 "tiewebs.webs" 426 507++zE "degrees" 28 260 510 69 1 3 "tiewebs.webs" 426 513++zE "pieces" 29 265 516 73 1 3 "tiewebs.webs" 426 519++zE "within" 30 270 522 83 2 3 "tiewebs.webs" 426 525++zD "_law_cell_at" 32 275 530 91 2 3 #[zs "_law_script" 533,zs "_law_k" 534] ml 528 535++zD "_law_state" 33 282 538 95 2 3 #[zs "_law_script" 541,zs "_law_k" 542,zs "_law_cell" 543] ml 528 544++zD "_law_take" 34 289 547 100 2 3 #[zs "_law_state_here" 550,zs "_law_many" 551,zs "_law_found" 552,zs "_law_stirred" 553] ml 528 554++zE "_law_pairs" 35 296 557 109 1 3 ml 528 560++zD "_law_mixed_row" 36 301 563 114 2 3 #[zs "_law_state_here" 566,zs "_law_things" 567,zs "_law_left" 568,zs "_law_found" 569] ml 528 570++zE "_law_web" 37 308 573 120 2 3 ml 528 576++zD "_law_great_web" 38 313 579 134 1 3 #[zs "_law_state_here" 582,zs "_law_many" 583,zs "_law_ties" 584,zs "_law_turn" 585,zs "_law_one" 586,zs "_law_other" 587] ml 528 588++zD "_law_tied" 39 320 591 142 3 3 #[zs "_law_web_here" 594,zs "_law_one" 595,zs "_law_other" 596] ml 528 597++zD "_law_bad_web" 40 327 600 144 1 3 #[zs "_law_state_here" 603,zs "_law_some" 604] ml 528 605++zE "_law_same" 41 334 608 149 2 3 ml 528 611++zE "_law_refused" 42 339 614 157 1 3 ml 528 617++zE "_law_pieces" 43 344 620 172 1 3 ml 528 623++zE "_law_within_right" 44 349 626 180 2 3 ml 528 629++zE "_law_refusals_right" 45 354 632 192 2 3 ml 528 635++zE "law" 46 359 638 201 1 3 ml 528 641
def Lb(P:O'):List Obj:=[boot_o_0 P,boot_o_1 P,boot_o_2 P,boot_o_3 P,boot_o_4 P,boot_o_5 P,boot_o_6 P,boot_o_7 P,boot_o_8 P,boot_o_9 P,boot_o_10 P,zt #[],z0,⟨(.type "code"),none,(.fields #[(zs "<module>" 182),(zs "<module>" 183),(zs "/claim/cut.py" 184),(.int 1 0),(.int 0 0),(.int 0 0),(.int 0 0),(.int 0 0),(.ref 11),(.bool dt),(.int 181 0),(.ref 12),.none,.none,.none,.none,(.int 185 0),(.int 1 0),(zs "/claim/cut.py" 186)]),#[]⟩,zr 13 3 (zs "__main__" 164)]
def as0:List Addr:=[2,3,15,22,23,24,25,28,35,36,37,40,47,48,49,52,59,60,61,64,71,72,73,76,83,84,85,88,95,96,97,100,107,108,109,112,119,120,121,124,131,132,133,136,143,144,145,148,155,156,157,160,167,168,169,172,179,181,182,184,185,186,187,188,191,193,194,196,197,198,200,201,203,204,205,207,208,210,211,212,214,215,217,218,219,222,223,224,227,228,229,232,233,234,236,237,239,240,241,243,244,246,247,248,250,251,253,254,255,258,259,260,263,264,265,268,269,270,273,274,275,277,278,280,281,282,284,285,287,288,289,291,292,294,295,296,299,300,301,303,304,306,307,308,311,312,313,315,316,318,319,320,322,323,325,326,327,329,330,332,333,334,337,338,339,342,343,344,347,348,349,352,353,354,357,358,359,362,363]
def ts0:List Addr:=[355,350,360]
def vq:Program:={PySem.Challenge.pw_tiewebs_k02_places_and_pieces with main:={PySem.Challenge.pw_tiewebs_k02_places_and_pieces.main with body:=[tp 1,tp 2,tp 3,tp 4,tp 5,tp 6,tp 7,tp 8,tp 9,tp 10,tp 11,tp 12,tp 13,tp 14,tp 16,tp 17,tp 18,tp 19,tp 20,tp 21,tp 22,tp 23,tp 24,tp 25,tp 26,tp 27,tp 28,tp 29,tp 30,tp 32,tp 33,tp 34,tp 35,tp 36,tp 37,tp 38,tp 39,tp 40,tp 41,tp 42,tp 43,tp 44,tp 45,tp 46]}}
def alt:Bool->List Obj->List Obj
 |_,[]=>[]
 |true,a::r=>a::alt dt r
 |false,_::r=>alt b_ r
def toT:Nat->List Obj->BT
 |0,_=>.nil
 |_+1,[]=>.nil
 |f+1,o::r=>.node o (toT f (alt b_ r)) (toT f (alt dt r))
def pick:Nat->List c_->List Obj->dV
 |i,as,o::os=>match as with
  |a::r=>if Nat.beq i a then (a,o)::pick (i+1) r os else pick (i+1) (a::r) os
  |[]=>[]
 |_,_,[]=>[]
def K0(P:O'):W.Frag:=pick 0 as0 (L1 P)
theorem as0_eq:∀P,as0=(K0 P).map (·.1):=λ_=>by kernel_rfl
abbrev pw:Program:=PySem.Challenge.pw_tiewebs_k02_places_and_pieces
abbrev Xt0(s:dn):Bool:=xlAt vq [] s && recOk (RowW.records (OpenRow.toRowW (OpenLaw.row PySem.Challenge.rw_tiewebs_k02_places_and_pieces))) s
def lf:Life:={}
def en:Env:={scope:=pw.main.scope,locals:=mainNs,globals:=mainNs,cells:=[],code:=(.ref 13),frame:=ar 14}
abbrev cE:Code:=.body (H_ pw) en
abbrev Bf:List Frame:=[topFrame ⟨0,0,0,0⟩]
abbrev S0(w:fc)(os:Rf):Shared:=⟨D_ w.params,z5 [],boot_drawn,boot_toks,os⟩
abbrev Sb(w:fc)(os:Rf):SharedT:=⟨toT 12 (Lb w.params),15,lf,z5 [],⟨0,0,0,0⟩,187,os⟩
abbrev Sm(w:fc)(os:Rf):SharedT:=⟨toT 12 (L1 w.params),364,lf,z5 [],⟨0,0,0,0⟩,644,os⟩
abbrev Sf(w:fc)(os:Rf):Shared:=⟨⟨z5 (L1 w.params),lf⟩,z5 [],⟨0,0,0,0⟩,644,os⟩
theorem Ll:∀w,(λos=>topGo I0 pw w 11 (ar (.ref 6)) 12 (S0 w os) (topStub pw))=λos=>ar ((Sb w os).abs,⟨denote I0 cE,cE,⟨0,0,0,0⟩,Bf⟩):=λw=>by kernel_rfl
theorem G1:∀w,(λos=>segRun I0 pw w 11 (ar (.ref 6)) 1 1 (Sb w os).abs (blockOf (H_ pw) en cE ⟨0,0,0,0⟩ Bf))=λos=>ar (.next,(Sb w os).abs,cE,⟨0,0,0,0⟩):=λw=>by kernel_rfl
theorem JB:∀w,(λos=>segRunT I0 pw w 11 (ar (.ref 6)) 1 3846 (Sb w os) (piecesOf (H_ pw) en cE ⟨0,0,0,0⟩ Bf))=λos=>ar (.next,Sm w os,cE,⟨201,0,216,15⟩):=λw=>by kernel_rfl
theorem Lm:∀w,(λos=>topRun I0 pw w 11 (ar (.ref 6)) 2 (Sm w os).abs ⟨doneF .next,cE,⟨201,0,216,15⟩,Bf⟩)=λos=>ar (Sf w os):=λw=>by kernel_rfl
theorem Ln(w:fc)(os:Rf):topRun I0 pw w 11 (ar (.ref 6)) (12+(1+(3846+2))) (S0 w os) (topStub pw)=ar (Sf w os):=
 go_top (Nt (Ll w) os) (piece_block (Nt (G1 w) os) (by have:=piece_app (rest:=[]) (segRun_of (Nt (JB w) os)) (piece_nil (Nt (Lm w) os));rw[NL]at this;exact this))
theorem JC:∀w:fc,((D_ w.params).isNs gc && (z5 []:Array P1).size==0,(D_ w.params).objs.size,(D_ w.params).nsMap gc "__annotations__")=(b_,11,(ar (.ref 6))):=λw=>by kernel_rfl
theorem JD:∀w os,(staticsOk (kT pw.main.body) (D_ w.params) (Sf w os).heap && namesBound pw (Sf w os).heap && gensDone (Sf w os) && laidKept (D_ w.params) (Sf w os).heap)=true:=λw os=>by kernel_rfl
theorem Lo:∀w os,(w7 vq [] (kT pw.main.body) Xt0 b_ (Sf w os)).1=(w_ vq []).1:=λw os=>by kernel_rfl
theorem Lp:∀w os,(w7 vq [] (kT pw.main.body) Xt0 b_ (Sf w os)).2.1=(w_ vq []).2.1:=λw os=>by kernel_rfl
theorem Lq:∀w os,(w7 vq [] (kT pw.main.body) Xt0 b_ (Sf w os)).2.2.1=(w_ vq []).2.2.1:=λw os=>by kernel_rfl
theorem Lr:∀w os,(w7 vq [] (kT pw.main.body) Xt0 b_ (Sf w os)).2.2.2.1=(w_ vq []).2.2.2.1:=λw os=>by kernel_rfl
theorem Lu:∀w os,(w7 vq [] (kT pw.main.body) Xt0 b_ (Sf w os)).2.2.2.2.1=(w_ vq []).2.2.2.2.1:=λw os=>by kernel_rfl
theorem Lv:∀w os,(w7 vq [] (kT pw.main.body) Xt0 b_ (Sf w os)).2.2.2.2.2.1=(w_ vq []).2.2.2.2.2.1:=λw os=>by kernel_rfl
theorem Lw:∀w os,(w7 vq [] (kT pw.main.body) Xt0 b_ (Sf w os)).2.2.2.2.2.2.1=(w_ vq []).2.2.2.2.2.2.1:=λw os=>by kernel_rfl
theorem Lx:∀w os,(w7 vq [] (kT pw.main.body) Xt0 b_ (Sf w os)).2.2.2.2.2.2.2.1=(w_ vq []).2.2.2.2.2.2.2.1:=λw os=>by kernel_rfl
theorem Ly:∀w os,(w7 vq [] (kT pw.main.body) Xt0 b_ (Sf w os)).2.2.2.2.2.2.2.2=(w_ vq []).2.2.2.2.2.2.2.2:=λw os=>by kernel_rfl
theorem JE:∀w os,Sv (P2 K0 as0 as0_eq ts0) (Sf w os)=Sw (P2 K0 as0 as0_eq ts0) w:=λw os=>by kernel_rfl
theorem JF(w:fc)(os:Rf):w7 vq [] (kT pw.main.body) Xt0 b_ (Sf w os)=w_ vq []:=PR (Lo w os) (PR (Lp w os) (PR (Lq w os) (PR (Lr w os) (PR (Lu w os) (PR (Lv w os) (PR (Lw w os) (PR (Lx w os) (Ly w os))))))))
theorem left0:LeftO (OpenLaw.row PySem.Challenge.rw_tiewebs_k02_places_and_pieces).prog vq [] Xt0 (Sv (P2 K0 as0 as0_eq ts0)) (Sw (P2 K0 as0 as0_eq ts0)) 7816:=
 LeftO.of_pieces (p:=pw) (H₀:=D_) (H₁:=λP=>⟨z5 (L1 P),lf⟩) (gs₀:=z5 []) (gs₁:=z5 []) (d₀:=boot_drawn) (d₁:=⟨0,0,0,0⟩) (k₀:=boot_toks) (k₁:=644) (M:=12+(1+(3846+2))) (boot_open (p:=pw) (by kernel_rfl) (by decide) (λs=>by kernel_rfl)) JC Ln (by decide) λw=>funext λos=>PR (JD w os) (PR (JF w os) (JE w os))
end KH
section
namespace L2
open PySem PySem.Spec PyProof.Rows
abbrev Key:=Sum Int Str
def Gz:Key->a_->Bool
 | .inl k,v=>Value.isInt k v
 | .inr x,v=>Value.isStrOf x v
def Lz(w:fc):Key->Int
 | .inl k=>hashInt k
 | .inr x=>hashStr w x
theorem dm:∀{k:Key} {v:a_},Gz k v=b_->(∃i t,k=Rg i/\v=oi i t)\/(∃x t,k=Rh x/\v=I_ x t)
 | .inl i,v,h=>by
  obtain⟨t,e⟩:=Value.isInt_shape (k:=i) (v:=v) h;exact .inl ⟨i,t,rfl,e⟩
 | .inr x,v,h=>by
  obtain⟨t,e⟩:=Value.isStrOf_shape (x:=x) (v:=v) h;exact .inr ⟨x,t,rfl,e⟩
theorem G5(a b:Int):decide ((Rg a:Key)=Rg b)=(a==b):=by
 by_cases e:a=b
 ·subst e;simp
 ·have h:¬ (Rg a:Key)=Rg b:=λq=>e (Sum.inl.inj q);rw[Nv h];exact(beq_eq_false_iff_ne.mpr e).symm
theorem G6(a b:Str):decide ((Rh a:Key)=Rh b)=decide (a=b):=by
 by_cases e:a=b
 ·subst e;simp
 ·have h:¬ (Rh a:Key)=Rh b:=λq=>e (Sum.inr.inj q);rw[Nv h,Nv e]
theorem G7(a:Int)(b:Str):decide ((Rg a:Key)=Rh b)=false:=Nv (λq=>nomatch q)
theorem G8(a:Str)(b:Int):decide ((Rh a:Key)=Rg b)=false:=Nv (λq=>nomatch q)
def yL(prog:er)(w:fc):PySem.KeyKind prog w Key where
 is:=Gz
 hash:=Lz w
 inj:=λv a b ha hb=>by
  rcases dm ha with⟨i,t,rfl,rfl⟩|⟨x,t,rfl,rfl⟩
  ·rcases dm hb with⟨j,u,rfl,e⟩|⟨y,u,rfl,e⟩
   ·injection e with e1 _;rw[e1]
   ·exact nomatch e
  ·rcases dm hb with⟨j,u,rfl,e⟩|⟨y,u,rfl,e⟩
   ·exact nomatch e
   ·injection e with e1 _;rw[e1]
 byValue:=λk v h=>by rcases dm h with⟨i,t,rfl,rfl⟩|⟨x,t,rfl,rfl⟩<;>rfl
 pyHash:=λhv h=>by
  rcases dm hv with⟨i,t,rfl,rfl⟩|⟨x,t,rfl,rfl⟩
  ·exact wpAny_pyHash_int h
  ·exact wpAny_pyHash_str h
 eqBool:=λhu hv h=>by
  rcases dm hu with⟨i,t,rfl,rfl⟩|⟨x,t,rfl,rfl⟩
  ·rcases dm hv with⟨j,u,rfl,rfl⟩|⟨y,u,rfl,rfl⟩
   ·rw[G5]at h;exact QY h
   ·rw[G7]at h;exact SeqAt.EqAt.int_str i t y u _ _ _ _ h
  ·rcases dm hv with⟨j,u,rfl,rfl⟩|⟨y,u,rfl,rfl⟩
   ·rw[G8]at h;exact SeqAt.EqAt.str_int x t j u _ _ _ _ h
   ·rw[G6]at h;exact wpAny_eqBool_str h
 «strs»:=λk x t v h=>by
  rcases dm h with⟨i,u,rfl,e⟩|⟨y,u,rfl,e⟩
  ·exact nomatch e
  ·injection e with e1 _;subst e1;cases v<;>rfl
inductive V where
 |non|bl (b:Bool)|int (i:Int)|str (x:Str)|byt (b:Array UInt8)|flt (b:UInt64)|ref (a:c_)|ty (n:String)
 deriving DecidableEq
def RelV:V->a_->Prop
 | .non,u=>u=hO
 | .bl b,u=>u=u0 b
 | .int i,u=>∃t,u=oi i t
 | .str x,u=>∃t,u=I_ x t
 | .byt b,u=>∃t,u=Value.bytes b t
 | .flt b,u=>∃t,u=P_ b t
 | .ref a,u=>u=eo a
 | .ty n,u=>u=v_ n
abbrev bu:List V->List a_->Prop:=Paired RelV
theorem bu.length{xs:List V}{us:List a_}(r:bu xs us):xs.length=us.length:=Paired.length r
theorem bu.get:∀{xs:List V} {us:List a_} {i:Nat} {x:V},bu xs us->xs[i]? =ar x->∃u,us[i]? =ar u/\RelV x u
 |_,_,_,_,.nil,e=>by simp at e
 |_,_,0,_,.cons r _,e=>by simp at e;subst e;exact⟨_,rfl,r⟩
 |_,_,i+1,x,.cons _ t,e=>by
  obtain⟨u,Z,Y⟩:=bu.get (i:=i) (x:=x) t (by simpa using e);exact⟨u,by simpa using Z,Y⟩
theorem bu.set(r:RelV x u):∀{xs:List V} {us:List a_} (i:Nat),bu xs us->bu (xs.set i x) (us.set i u)
 |_,_,_,.nil=>.nil
 |_,_,0,.cons _ t=>.cons r t
 |_,_,i+1,.cons q t=>.cons q (bu.set r i t)
theorem bu.append:∀{xs ys:List V} {us ws:List a_},bu xs us->bu ys ws->bu (xs++ys) (us++ws)
 |_,_,_,_,.nil,s=>s
 |_,_,_,_,.cons r t,s=>.cons r (bu.append t s)
theorem bu.take:∀{xs:List V} {us:List a_} (n:Nat),bu xs us->bu (xs.take n) (us.take n)
 |_,_,0,_=>.nil
 |_,_,_+1,.nil=>.nil
 |_,_,n+1,.cons r t=>.cons r (bu.take n t)
theorem bu.drop:∀{xs:List V} {us:List a_} (n:Nat),bu xs us->bu (xs.drop n) (us.drop n)
 |_,_,0,r=>r
 |_,_,_+1,.nil=>.nil
 |_,_,n+1,.cons _ t=>bu.drop n t
def vO:Option V->Option a_->Prop
 |some v,ar u=>RelV v u
 |none,none=>True
 |_,_=>False
def KV{κ:Type}:List (κ×V)->List (κ×a_)->Prop:=Paired λ(p:κ×V) (q:κ×a_)=>p.1=q.1/\RelV p.2 q.2
def kV:Key->V
 | .inl i=>.int i
 | .inr x=>.str x
inductive HO where
 |lst (xs:List V)
 |tup (xs:List V)
 |dK (kvs:List (Key×V))|dT (kvs:List (List Key×V))
 |set (S:Int->Bool) (n:Nat)
 |ins (C dx:c_) (fs:List (Str×V))
 |own (x:c_)
 |xd (fs:List (Str×V))
 |met (f x:c_)
 |rng (lo hi:Int)
 |frz (o:Obj) (u:HO)
 |tbl (ps:Array a_)
 |ext (φ:gd->Prop)
abbrev Hp:=c_->Option HO
def upd(H:Hp)(a:c_)(o:HO):Hp:=λb=>if b=a then ar o else H b
theorem bo:upd H a o a=ar o:=by unfold upd;rw[if_pos rfl]
theorem aN{H:Hp}(h:b≠a):upd H a o b=H b:=by unfold upd;rw[if_neg h]
theorem GA{H:Hp}(h:H a=ar o)(h':H b=ar u)(d:o≠u):a≠b:=by intro e;subst e;rw[h]at h';exact d (Nw h')
theorem aK{H:Hp}(h:H a=ar o)(h':H b=none):a≠b:=by intro e;subst e;rw[h]at h';cases h'
section
variable (P:er)(w:fc)
def bG(H:Hp)(h:gd)(a:c_):HO->Prop
 | .lst xs=>xs.length<=sizeLine/\∃(its:List a_) (n:Nat),bu xs its/\h.get? a=ar {cls:=.type "list",data:=.seq its.toArray n}
 | .tup xs=>(xs.length<=sizeLine/\∃o,h.get? a=ar o/\o.dict=none)/\∃its:List a_,bu xs its/\R_ h a its.toArray
 | .dK kvs=>kvs.length<=sizeLine/\(a==RQ)=dt/\∃vs,KV kvs vs/\h.DictOf (yL P w) a vs
 | .dT kvs=>kvs.length<=sizeLine/\(a==RQ)=dt/\∃xs:List (List Key×c_×a_),
   Paired (λ(p:List Key×V) (q:List Key×c_×a_)=>p.1=q.1/\H q.2.1=ar (.tup (p.1.map kV))/\RelV p.2 q.2.2) kvs xs/\
   ∃o es ep,h.get? a=ar o/\o.ExactDict/\o.data= .dict es ep/\es.toList=xs.map (entryOfKey (tupleKind (yL P w)))/\(xs.map (·.1)).Nodup
 | .set S n=>h.SetOf (m1 P w) a S n
 | .ins C dx fs=>H dx=ar (.own a)/\fs.length<=1000/\dx≠a/\h.get? a=ar (Sa C dx)/\
   ∃mA,h.Ns1 dx mA/\(∀f,vO (fs.lookup f) (mA f))/\PySem.Within mA (fs.map (·.1))
 | .own _=>∃o,h.get? a=ar o
 | .xd fs=>∃mA,h.Ns1 a mA/\∀f,vO (fs.lookup f) (mA f)
 | .rng lo hi=>∃t u v,h.get? a=ar {cls:=.type "range",data:=.fields #[.int lo t,.int hi u,.int 1 v]}
 | .frz o u=>h.get? a=ar o/\bG H h a u
 | .tbl ps=>h.get? a=ar {cls:=.none,data:=.fields ps}
 | .met f x=>h.get? a=ar (RK (.ref f) (.ref x))
 | .ext φ=>φ h/\(∃o,h.get? a=ar o)/\∀h1 h2:gd,φ h1->(∀o,h1.get? a=ar o->h2.get? a=ar o)->φ h2
theorem t6{h:gd}{xs:List V}{Z:Array a_}(z:xs.length<=sizeLine):xs.length<=sizeLine/\∃o,(h.push {cls:=.type "tuple",data:=.seq Z}).get? h.objs.size=ar o/\o.dict=none:=⟨z,_,M6 _ rfl,rfl⟩
def ij(H:Hp)(h:gd):Prop:=∀a o,H a=ar o->bG P w H h a o
end
section
variable {P:er}{w:fc}{H H':Hp}{h h':gd}{a:c_}{o:HO}
theorem bG.lt(x:bG P w H h a o):a<h.objs.size:=by
 cases o with
 |lst xs=>obtain⟨_,_,_,_,e⟩:=x;exact MZ e
 |tup xs=>obtain⟨_,_,_,p⟩:=x;exact p.lt
 |dK kvs=>obtain⟨_,_,_,_,o,_,_,e,_⟩:=x;exact MZ e
 |dT kvs=>obtain⟨_,_,_,_,o,_,_,e,_⟩:=x;exact MZ e
 |set S n=>obtain⟨o,_,_,_,e,_⟩:=x;exact MZ e
 |ins C dx fs=>obtain⟨_,_,_,e,_⟩:=x;exact MZ e
 |own y=>obtain⟨_,e⟩:=x;exact MZ e
 |xd fs=>obtain⟨_,⟨_,_,_,e,_⟩,_⟩:=x;exact MZ e
 |rng lo hi=>obtain⟨_,_,_,e⟩:=x;exact MZ e
 |frz ob u=>obtain⟨e,_⟩:=x;exact MZ e
 |tbl ps=>exact MZ (show h.get? a=ar _ from x)
 |met f y=>exact MZ (show h.get? a=ar _ from x)
 |ext φ=>obtain⟨_,⟨_,e⟩,_⟩:=x;exact MZ e
theorem Paired.mapP{α Z:Type}{F G:α->Z->Prop}:∀{l₁:List α} {l₂:List Z},Paired F l₁ l₂->(∀a b,F a b->G a b)->Paired G l₁ l₂
 |_,_,.nil,_=>.nil
 |_,_,.cons r t,f=>.cons (f _ _ r) (Paired.mapP t f)
theorem bG.stay(x:bG P w H h a o)(k:∀b u,(b=a\/H b=ar (.own a))->h.get? b=ar u->h'.get? b=ar u)
  (U:∀b,H b=ar (.own a)->H' b=ar (.own a)) (T:∀b xs,H b=ar (.tup xs)->H' b=ar (.tup xs)):bG P w H' h' a o:=by
 induction o with
 |lst xs=>obtain⟨z,its,n,r,e⟩:=x;exact⟨z,its,n,r,k _ _ (.inl rfl) e⟩
 |tup xs=>obtain⟨⟨z,X,R,Q⟩,its,r,Z,e,c⟩:=x;exact⟨⟨z,X,k _ _ (.inl rfl) R,Q⟩,its,r,Z,k _ _ (.inl rfl) e,c⟩
 |dK kvs=>obtain⟨z,y,vs,r,Z,es,ep,e,c⟩:=x;exact⟨z,y,vs,r,Z,es,ep,k _ _ (.inl rfl) e,c⟩
 |dT kvs=>
  obtain⟨z,y,xs,r,Z,es,ep,e,c⟩:=x;exact⟨z,y,xs,Paired.mapP r λp q z=>⟨z.1,T _ _ z.2.1,z.2.2⟩,Z,es,ep,k _ _ (.inl rfl) e,c⟩
 |set S n=>obtain⟨Z,es,ep,t,e,c⟩:=x;exact⟨Z,es,ep,t,k _ _ (.inl rfl) e,c⟩
 |ins C dx fs=>
  obtain⟨d,z,ne,e,Y,⟨od,es,ep,e2,c⟩,r⟩:=x;exact⟨U _ d,z,ne,k _ _ (.inl rfl) e,Y,⟨od,es,ep,k _ _ (.inr d) e2,c⟩,r⟩
 |own y=>obtain⟨Z,e⟩:=x;exact⟨Z,k _ _ (.inl rfl) e⟩
 |xd fs=>obtain⟨Y,⟨od,es,ep,e,c⟩,r⟩:=x;exact⟨Y,⟨od,es,ep,k _ _ (.inl rfl) e,c⟩,r⟩
 |rng lo hi=>obtain⟨t,u,v,e⟩:=x;exact⟨t,u,v,k _ _ (.inl rfl) e⟩
 |frz Z u ih=>obtain⟨e,q⟩:=x;exact⟨k _ _ (.inl rfl) e,ih q⟩
 |tbl ps=>
  have e:h.get? a=ar {cls:=.none,data:=.fields ps}:=x;show h'.get? a=ar {cls:=.none,data:=.fields ps};exact k a _ (.inl rfl) e
 |met f y=>
  have e:h.get? a=ar (RK (.ref f) (.ref y)):=x;show h'.get? a=ar (RK (.ref f) (.ref y));exact k a _ (.inl rfl) e
 |ext φ=>obtain⟨p,⟨o,e⟩,st⟩:=x;exact⟨st _ _ p λo q=>k _ _ (.inl rfl) q,⟨o,k _ _ (.inl rfl) e⟩,st⟩
theorem ij.lt(x:ij P w H h)(e:H a=ar o):a<h.objs.size:=(x a o e).lt
theorem ij.fresh(x:ij P w H h)(e:h.objs.size<=a):H a=none:=by
 cases q:H a with
 |none=>rfl
 |some u=>exact absurd (Nf (x.lt q) e) (Ov _)
theorem ij.kept(x:ij P w H h)(k:∀b u,h.get? b=ar u->h'.get? b=ar u):ij P w H h':=λa o e=>
 (x a o e).stay (λb u _ q=>k b u q) (λ_ q=>q) λ_ _ q=>q
theorem ij.laid(x:ij P w H h)(k:∀b u,h.get? b=ar u->h'.get? b=ar u)(X:h.objs.size<=a)(Z:bG P w (upd H a o) h' a o):ij P w (upd H a o) h':=λb u e=>by
 have Y:=x.fresh X;by_cases hb:b=a
 ·subst hb;rw[bo]at e;cases e;exact Z
 ·rw[aN hb]at e;exact(x b u e).stay (λc v _ q=>k c v q) (λc q=>by rw[aN (aK q Y)];exact q) λc xs q=>by rw[aN (aK q Y)];exact q
end
def Rd(H:Hp)(a:c_)(u:HO):Prop:=H a=ar u\/∃o,H a=ar (.frz o u)
theorem Rd.ok{P:er}{w:fc}{H:Hp}{h:gd}{a:c_}{u:HO}(r:Rd H a u)(x:ij P w H h):bG P w H h a u:=by
 rcases r with r|⟨o,r⟩
 ·exact x a u r
 ·obtain⟨_,q⟩:=x a _ r;exact q
def K8:Option HO->Prop
 |some (.lst _)=>True
 |some (.dK _)=>True
 |some (.dT _)=>True
 |some (.set _ _)=>True
 |some (.ins _ _ _)=>True
 |some (.ext _)=>True
 |_=>False
section
variable {P:er}{w:fc}{H:Hp}{h h':gd}{x e:c_}{o':HO}
theorem ij.write(Q:ij P w H h)(X:K8 (H x))(R:e=x\/H e=ar (.own x))(k:∀b u,b≠e->h.get? b=ar u->h'.get? b=ar u)(T:∃u,h'.get? e=ar u)
  (U:bG P w (upd H x o') h' x o'):ij P w (upd H x o') h':=λb u q=>by
 have Z:∀c y,H c=ar (.own y)->c≠x:=λc y r z=>by subst z;rw[r]at X;exact X
 have Y:∀c xs,H c=ar (.tup xs)->c≠x:=λc xs r z=>by subst z;rw[r]at X;exact X
 by_cases hb:b=x
 ·subst hb;rw[bo]at q;cases q;exact U
 ·rw[aN hb]at q;by_cases hbe:b=e
  ·have S:H b=ar (.own x):=by
    rcases R with z|z
    ·exact absurd (hbe.trans z) hb
    ·rw[hbe];exact z
   rw[q]at S;cases S;obtain⟨v,O⟩:=T;exact⟨v,by rw[hbe];exact O⟩
  ·refine(Q b u q).stay (λc v W r=>k c v ?_ r) (λc r=>by rw[aN (Z c b r)];exact r) λc xs r=>by rw[aN (Y c xs r)];exact r
   rcases W with rfl|W
   ·exact hbe
   ·rintro rfl;rcases R with z|z
    ·exact Z c b W z
    ·rw[W]at z;cases z;exact hb rfl
end
structure Un(fs ex:List c_)(H H':Hp)(h h':gd):Prop where
 keep:∀b o,h.get? b=ar o->H b=none->b∉fs->b∉ex->h'.get? b=ar o
 slot:∀b o,h.get? b=ar o->H b=none->b∈fs->b∉ex->∃sl,h'.get? b=ar {o with slots:=sl}
 free:∀b o,h.get? b=ar o->H b=none->b∉ex->H' b=none
 there:∀b o,h.get? b=ar o->b∉ex->∃o',h'.get? b=ar o'
 tups:∀b xs,H b=ar (.tup xs)->H' b=ar (.tup xs)
 frzs:∀b o u,H b=ar (.frz o u)->H' b=ar (.frz o u)
 tbls:∀b ps,H b=ar (.tbl ps)->∃more,H' b=ar (.tbl (ps++more))
section
variable {fs fs' ex ex':List c_}{H H1 H2:Hp}{h h1 h2 h':gd}{a x e:c_}{o:HO}
theorem Un.any(u:Un fs ex H H1 h h1)(q:h.get? b=ar ob)(n:H b=none)(Z:b∉ex):∃sl,h1.get? b=ar {ob with slots:=sl}:=by
 by_cases hb:b∈fs
 ·exact u.slot b ob q n hb Z
 ·exact⟨ob.slots,u.keep b ob q n hb Z⟩
theorem Un.kept(k:∀b u,h.get? b=ar u->h'.get? b=ar u):Un fs ex H H h h':=
 ⟨λb Z q _ _ _=>k b Z q,λb Z q _ _ _=>⟨Z.slots,k b Z q⟩,λ_ _ _ n _=>n,λb Z q _=>⟨Z,k b Z q⟩,λ_ _ q=>q,λ_ _ _ q=>q,λ_ Y q=>⟨#[],by rw[q];simp⟩⟩
theorem Un.refl:Un fs ex H H h h:=Un.kept λ_ _ q=>q
theorem Un.laid(k:∀b u,h.get? b=ar u->h'.get? b=ar u)(Y:h.objs.size<=a)(Z:H a=none):Un fs ex H (upd H a o) h h' where
 keep:=λb u q _ _ _=>k b u q
 slot:=λb u q _ _ _=>⟨u.slots,k b u q⟩
 free:=λb u q n _=>by rw[aN (Ng (Nf (MZ q) Y))];exact n
 there:=λb u q _=>⟨u,k b u q⟩
 tups:=λb xs q=>by rw[aN (aK q Z)];exact q
 frzs:=λb u xs q=>by rw[aN (aK q Z)];exact q
 tbls:=λb X q=>⟨#[],by rw[aN (aK q Z),q];simp⟩
theorem Un.write(Z:K8 (H x))(U:e=x\/H e=ar (.own x))(k:∀b u,b≠e->h.get? b=ar u->h'.get? b=ar u)(Y:∃u,h'.get? e=ar u):Un fs ex H (upd H x o) h h':=by
 have X:∀b,H b=none->b≠x:=λb n z=>by subst z;rw[n]at Z;exact Z
 have W:∀b,H b=none->b≠e:=λb n z=>by
  subst z;rcases U with r|r
  ·exact X b n r
  ·rw[n]at r;cases r
 have hm:∀b u,H b=ar u->¬ K8 (ar u)->b≠x:=λb u q nm z=>by subst z;rw[q]at Z;exact nm Z
 refine⟨λb u q n _ _=>k b u (W b n) q,λb u q n _ _=>⟨u.slots,k b u (W b n) q⟩,λb u q n _=>by rw[aN (X b n)];exact n,λb u q _=>?_,
  λb xs q=>by rw[aN (hm b _ q λz=>z)];exact q,λb u xs q=>by rw[aN (hm b _ q λz=>z)];exact q,λb T q=>⟨#[],by rw[aN (hm b _ q λz=>z),q];simp⟩⟩
 by_cases hbe:b=e
 ·subst hbe;exact Y
 ·exact⟨u,k b u hbe q⟩
end
def K9(h:gd)(H:Hp):List Addr:=(dr h.objs.size).filter λa=>(H a).isSome
def lO(h:gd)(H:Hp):Heap:=W.hideAll h (K9 h H)
theorem oJ(h:gd)(H:Hp):(lO h H).objs.size=h.objs.size:=W.hideAll_size _ _
theorem mW{h:gd}{H:Hp}(e:h.get? b=ar o)(n:H b=none):(lO h H).get? b=ar o:=
 W.hideAll_get _ e λhm=>by have q:(H b).isSome=true:=(NR.mp hm).2;rw[n]at q;simp at q
theorem t7{H:Hp}(e:(lO h H).get? b=ar o):h.get? b=ar o/\H b=none:=by
 have Z:h.get? b=ar o:=W.of_hideAll (K9 h H) e;refine⟨Z,?_⟩;cases q:H b with
 |none=>rfl
 |some x=>
  have hm:b∈K9 h H:=NR.mpr ⟨Na.mpr (MZ Z),by simp[q]⟩;have z:(lO h H).get? b=none:=W.hideAll_none (K9 h H) hm;rw[z]at e;cases e
def mX(g h:gd)(L:c_):List (c_×Obj):=(dr h.objs.size).filterMap λa=>if a=L\/(g.get? a).isSome=b_ then none else (h.get? a).map λo=>(a,o)
theorem vP{g h:gd}(Y:a≠L)(X:g.get? a=none)(Z:h.get? a=ar o):(a,o)∈mX g h L:=
 Oq.mpr ⟨a,Na.mpr (MZ Z),by simp[Y,X,Z]⟩
theorem qr(Z:p∈mX g h L):p.1≠L/\g.get? p.1=none/\h.get? p.1=ar p.2:=by
 obtain⟨b,_,e⟩:=Oq.mp Z;split at e
 ·cases e
 ·rename_i hn
  cases q:h.get? b with
  |none=>rw[q]at e;simp at e
  |some u=>
   rw[q]at e;simp only[z8,Option.some.injEq]at e;subst e;refine⟨λz=>hn (.inl z),?_,q⟩;show g.get? b=none;cases r:g.get? b with
   |none=>rfl
   |some v=>exact(hn (.inr (by simp[r]))).elim
def rest(g h:gd)(L d:c_):List (c_×Obj):=(mX g h L).filter λp=>decide (p.1≠d)
theorem qt:News g L h (mX g h L):=λp Z=>let ⟨a,b,c⟩:=qr Z;⟨c,a,b⟩
structure Mod(K:dV)(mg:Str->Option a_)(base:gd):Prop where
 kin:K.In base
 glob:base.Ns gc mg
 blt:∃mb,base.Ns wd mb/\∀x:Str,x≠"__name__"->mb x=k_ x
 nolimit:base.NoLimit
structure Cx where
 prog:er
 w:fc
 K:dV
 mg:Str->Option a_
 base:gd
 A:hS
 N:List Str
 s₀:dn
 H₀:Hp
 env:Env
 outer:List Env
 stack:List Env
 ex:List c_
 fn:Str->Bool
 calm:Bool
 pn:List (c_×Obj)
 xe:a_->dn->Prop
def kl(l:List Env):List Addr:=l.filterMap (·.frame)
abbrev Cx.fs(X:Cx):List Addr:=kl X.outer
def EN(sc:Scope)(x:Str):Prop:=sc.names.lookup x=ar .local\/sc.names.lookup x=ar .cell\/sc.names.lookup x=ar .free
def Loc(sc:Scope)(x:Str):Prop:=sc.names.lookup x=ar .local\/sc.names.lookup x=ar .cell
def Look(env:Env)(h:gd)(m:Str->Option a_)(x:Str)(u:a_):Prop:=
 (env.kindOf x=ar .local/\m x=ar u)\/((env.kindOf x=ar .cell\/env.kindOf x=ar .free)/\∃c,env.cells.lookup x=ar c/\h.IsCell c (ar u))
structure Cx.Ok(X:Cx):Prop where
 mod:Mod X.K X.mg X.base
 kind:X.env.scope.kind= .function
 glob:X.env.globals=gc
 blt:X.env.builtins=wd
 above:X.s₀.heap.objs.size<=X.env.locals
 inj:∀x y c,X.env.cells.lookup x=ar c->X.env.cells.lookup y=ar c->x=y
 has:∀x,(X.env.kindOf x=ar .cell\/X.env.kindOf x=ar .free)->∃c,X.env.cells.lookup x=ar c
 cab:∀x c,X.fn x=b_->X.env.cells.lookup x=ar c->X.s₀.heap.objs.size<=c
 hd:X.calm=b_->X.A.handled=none
 frames:X.A.frames=ar X.stack
 stk:X.stack=X.outer\/(X.stack=X.env::X.outer/\X.env.frame=ar X.env.locals)
 exf:∀b∈X.ex,b≠X.env.locals/\∀x c,X.env.cells.lookup x=ar c->c≠b
 bs:∀b o,X.base.get? b=ar o->X.s₀.heap.get? b=ar o/\X.H₀ b=none
 bsz:X.base.objs.size<=X.s₀.heap.objs.size
 noex:∀b o,X.base.get? b=ar o->b∉X.ex
 exfs:∀b∈X.ex,b∉X.fs
 funs:X.s₀.heap.FunFrames X.base X.outer
 frf:∀b∈X.fs,X.H₀ b=none
structure Inv(X:Cx)(pins:List (c_×Obj))(σ:List (Option V))(H:Hp)(s:dn):Prop where
 ok:X.Ok
 os:s.os=X.s₀.os
 bare:y_ s.gens
 base:Un X.fs X.ex X.H₀ H X.s₀.heap s.heap
 loc:∃m,s.heap.Ns X.env.locals m/\∀(i:Nat) (x:Str) (v:V),X.N[i]? =ar x->σ[i]? =ar (ar v)->EN X.env.scope x->∃u,RelV v u/\Look X.env s.heap m x u
 cell:∀x c,X.env.cells.lookup x=ar c->∃v,s.heap.IsCell c v
 free:H X.env.locals=none
 freeC:∀x c,X.env.cells.lookup x=ar c->H c=none
 pin:∀p∈X.pn++pins,s.heap.get? p.1=ar p.2/\H p.1=none/\p.1≠X.env.locals/\p.1∉X.fs/\∀v,p.2.data≠ .cell v
 hok:ij X.prog X.w H s.heap
 len:σ.length=X.N.length
section
variable {X:Cx}{pins:List (c_×Obj)}{σ:List (Option V)}{H H':Hp}{s:dn}{h':gd}
theorem Cx.Ok.nofr(Y:X.Ok)(e:X.base.get? b=ar o):b∉X.fs:=λZ=>by have:=(Y.funs.mem Z).1;rw[e]at this;cases this
theorem Inv.bs(I:Inv X pins σ H s):∀b o,X.base.get? b=ar o->s.heap.get? b=ar o/\H b=none:=λb o e=>
 ⟨I.base.keep b o (I.ok.bs b o e).1 (I.ok.bs b o e).2 (I.ok.nofr e) (I.ok.noex b o e),I.base.free b o (I.ok.bs b o e).1 (I.ok.bs b o e).2 (I.ok.noex b o e)⟩
theorem Inv.bk(I:Inv X pins σ H s):∀b o,X.base.get? b=ar o->s.heap.get? b=ar o:=λb o e=>(I.bs b o e).1
theorem Inv.mod(I:Inv X pins σ H s):Mod X.K X.mg X.base:=I.ok.mod
theorem Inv.kIn(I:Inv X pins σ H s):X.K.In s.heap:=I.ok.mod.kin.keeps I.bk
theorem Inv.fr(I:Inv X pins σ H s):∃m,Fr X.base X.env.locals s.heap m:=
 let ⟨m,hn,_⟩:=I.loc
 ⟨m,hn,I.bk,M7 I.ok.bsz I.ok.above⟩
theorem Inv.lt(I:Inv X pins σ H s):X.env.locals<s.heap.objs.size:=let ⟨_,hn,_⟩:=I.loc;hn.lt
theorem Inv.sz(I:Inv X pins σ H s):X.s₀.heap.objs.size<=s.heap.objs.size:=M7 I.ok.above (Oy I.lt)
theorem Inv.nofs(I:Inv X pins σ H s)(h:s.heap.objs.size<=a):a∉X.fs:=λZ=>by obtain⟨_,o,Y,_⟩:=I.ok.funs.mem Z;exact absurd (Nf (MZ Y) (M7 I.sz h)) (Ov _)
theorem Inv.cne(I:Inv X pins σ H s):∀x c,X.env.cells.lookup x=ar c->c≠X.env.locals:=λx c e z=>by obtain⟨v,o,W,hd⟩:=I.cell x c e;obtain⟨m,⟨U,es,ep,Z,Y,_⟩,_⟩:=I.loc;rw[z,Z]at W;cases W;rw[Y]at hd;cases hd
theorem Inv.funs(I:Inv X pins σ H s):s.heap.FunFrames X.base X.outer:=by
 have all:∀(l:List Env),(∀b∈kl l,b∈X.fs)->X.s₀.heap.FunFrames X.base l->s.heap.FunFrames X.base l:=by
  intro l
  induction l with
  |nil=>intro _ _;trivial
  |cons env r ih=>
   intro hs T;obtain⟨W,⟨L,o,hf,S,U,hd⟩,R⟩:=T;have Z:L∈X.fs:=hs L (by unfold kl;rw[NQ,hf];exact Ni);obtain⟨Q,e⟩:=I.base.slot L o U (I.ok.frf L Z) Z λz=>I.ok.exfs L z Z;exact⟨W,⟨L,_,hf,S,e,hd⟩,ih (λb Y=>hs b (by unfold kl;rw[NQ,hf];exact M3 _ Y)) R⟩
 exact all X.outer (λ_ Y=>Y) I.ok.funs
theorem Inv.stack(I:Inv X pins σ H s):s.heap.FunFrames X.base X.stack:=by
 rcases I.ok.stk with e|⟨e,hf⟩
 ·rw[e];exact I.funs
 ·rw[e];obtain⟨m,Z,_⟩:=I.loc;refine .cons (by rw[I.ok.kind];decide) hf Z ?_ I.funs;exact Ou (M7 I.ok.bsz I.ok.above)
theorem Inv.stkSub(I:Inv X pins σ H s):∀b∈kl X.stack,b∈X.env.locals::X.fs:=λb Z=>by
 rcases I.ok.stk with e|⟨e,hf⟩
 ·rw[e]at Z;exact M3 _ Z
 ·rw[e]at Z;unfold kl at Z;rw[NQ,hf]at Z;exact Z
theorem Inv.stkFree(I:Inv X pins σ H s):∀b∈kl X.stack,H b=none:=λb Z=>by
 rcases M9.mp (I.stkSub b Z)with e|Z
 ·rw[e];exact I.free
 ·obtain⟨_,o,Y,_⟩:=I.ok.funs.mem Z;exact I.base.free b o Y (I.ok.frf b Z) λz=>I.ok.exfs b z Z
theorem Inv.step{g':Array P1}{t':Nat}{d':Drawn}{ch:List c_}(I:Inv X pins σ H s)
  (W:∀b∈ch,(b∈X.ex\/X.s₀.heap.objs.size<=b)/\b≠X.env.locals/\(∀x c,X.env.cells.lookup x=ar c->c≠b)/\∀p∈X.pn++pins,p.1≠b)
  (keep:∀b o,b≠X.env.locals->b∉X.fs->b∉ch->s.heap.get? b=ar o->H b=none->h'.get? b=ar o)
  (S:∀b o,b≠X.env.locals->b∈X.fs->b∉ch->s.heap.get? b=ar o->H b=none->∃F,h'.get? b=ar {o with slots:=F}) (Y:∀b o,b∉ch->s.heap.get? b=ar o->H b=none->H' b=none)
  (Q:∀b o,b∉ch->s.heap.get? b=ar o->∃J,h'.get? b=ar J)
  (N:∀b xs,H b=ar (.tup xs)->H' b=ar (.tup xs)) (O:∀b o u,H b=ar (.frz o u)->H' b=ar (.frz o u)) (K:∀b G,H b=ar (.tbl G)->∃more,H' b=ar (.tbl (G++more)))
  (ns:∀m,s.heap.Ns X.env.locals m->h'.Ns X.env.locals m) (E:ij X.prog X.w H' h') (h:y_ g'):
  Inv X pins σ H' {s with heap:=h',gens:=g',drawn:=d',toks:=t'}:=by
 have L:∀b o,X.s₀.heap.get? b=ar o->b≠X.env.locals:=λb o e=>Ng (Nf (MZ e) I.ok.above);have T:∀b o,X.s₀.heap.get? b=ar o->b∉X.ex->b∉ch:=λb o e Z R=>by
  rcases (W b R).1 with z|z
  ·exact Z z
  ·exact absurd (Nf (MZ e) z) (Ov _)
 have cellK:∀x c,X.env.cells.lookup x=ar c->∀v,s.heap.IsCell c v->h'.IsCell c v:=λx c e v ⟨o,P,hd⟩=>by
  have U:c∉ch:=λz=>(W c z).2.2.1 x c e rfl;by_cases hc:c∈X.fs
  ·obtain⟨F,q⟩:=S c o (I.cne x c e) hc U P (I.freeC x c e);exact⟨_,q,hd⟩
  ·exact⟨o,keep c o (I.cne x c e) hc U P (I.freeC x c e),hd⟩
 refine⟨I.ok,I.os,h,⟨λb o e n R Z=>?_,λb o e n R Z=>?_,λb o e n Z=>?_,λb o e Z=>?_,λb xs e=>N b xs (I.base.tups b xs e),λb o xs e=>O b o xs (I.base.frzs b o xs e),λb G e=>?_⟩,?_,λx c e=>?_,?_,λx c e=>?_,λp B=>?_,E,I.len⟩
 ·exact keep b o (L b o e) R (T b o e Z) (I.base.keep b o e n R Z) (I.base.free b o e n Z)
 ·obtain⟨F,e1⟩:=I.base.slot b o e n R Z;obtain⟨C,e2⟩:=S b _ (L b o e) R (T b o e Z) e1 (I.base.free b o e n Z);exact⟨C,e2⟩
 ·obtain⟨J,e1⟩:=I.base.there b o e Z;exact Y b J (T b o e Z) e1 (I.base.free b o e n Z)
 ·obtain⟨J,e1⟩:=I.base.there b o e Z;exact Q b J (T b o e Z) e1
 ·obtain⟨f,e1⟩:=I.base.tbls b G e;obtain⟨t,e2⟩:=K b _ e1;exact⟨f++t,by rw[e2,Array.append_assoc]⟩
 ·obtain⟨m,j,g⟩:=I.loc;refine⟨m,ns m j,λi x v e1 e2 y=>?_⟩;obtain⟨u,r,l⟩:=g i x v e1 e2 y;refine⟨u,r,?_⟩;rcases l with l|⟨k,c,e,z⟩
  ·exact .inl l
  ·exact .inr ⟨k,c,e,cellK x c e _ z⟩
 ·obtain⟨v,z⟩:=I.cell x c e;exact⟨v,cellK x c e v z⟩
 ·obtain⟨m,⟨o,_,_,P,_⟩,_⟩:=I.loc;exact Y _ o (λz=>(W _ z).2.1 rfl) P I.free
 ·obtain⟨v,o,P,hd⟩:=I.cell x c e;exact Y c o (λz=>(W c z).2.2.1 x c e rfl) P (I.freeC x c e)
 ·obtain⟨e,n,ne,A,d⟩:=I.pin p B;have U:p.1∉ch:=λz=>(W p.1 z).2.2.2 p B rfl;exact⟨keep p.1 p.2 ne A U e n,Y p.1 p.2 U e n,ne,A,d⟩
theorem Inv.un{t':Nat}(I:Inv X pins σ H s)(u:Un X.fs [] H H' s.heap h')(Y:ij X.prog X.w H' h'):Inv X pins σ H' {s with heap:=h',toks:=t'}:=by
 obtain⟨m,⟨o,es,ep,T,r⟩,_⟩:=id I.loc;obtain⟨Q,S⟩:=u.any T I.free (by simp);exact I.step (g':=s.gens) (d':=s.drawn) (ch:=[]) (λ_ z=>nomatch z) (λb o _ U _ e n=>u.keep b o e n U (by simp)) (λb o _ U _ e n=>u.slot b o e n U (by simp)) (λb o _ e n=>u.free b o e n (by simp)) (λb o _ e=>u.there b o e (by simp)) u.tups u.frzs u.tbls (λP hm=>by obtain⟨O,es',W,Z,R⟩:=hm;rw[T]at Z;cases Z;exact⟨_,es',W,S,R⟩) Y I.bare
theorem Inv.call{g':Array P1}{t':Nat}{d':Drawn}{ch:List c_}(I:Inv X pins σ H s)(u:Un (kl X.stack) ch H H' s.heap h')(T:ij X.prog X.w H' h')(Q:y_ g')
  (W:∀b∈ch,(b∈X.ex\/X.s₀.heap.objs.size<=b)/\b≠X.env.locals/\(∀x c,X.env.cells.lookup x=ar c->c≠b)/\∀p∈X.pn++pins,p.1≠b):
  Inv X pins σ H' {s with heap:=h',gens:=g',drawn:=d',toks:=t'}:=by
 obtain⟨m,⟨o,es,ep,R,r⟩,_⟩:=id I.loc;obtain⟨N,U⟩:=u.any R I.free λz=>(W _ z).2.1 rfl;exact I.step (ch:=ch) W (λb o U O Z e n=>u.keep b o e n (λz=>(M9.mp (I.stkSub b z)).elim U O) Z) (λb o _ _ Z e n=>u.any e n Z) (λb o Z e n=>u.free b o e n Z) (λb o Z e=>u.there b o e Z) u.tups u.frzs u.tbls (λL hm=>by obtain⟨K,es',S,Y,P⟩:=hm;rw[R]at Y;cases Y;exact⟨_,es',S,U,P⟩) T Q
theorem Inv.turned{t':Nat}{it:c_}(I:Inv X pins σ H s)(k:∀b o,b≠it->s.heap.get? b=ar o->h'.get? b=ar o)(Q:H it=none)(W:it≠X.env.locals)
  (R:it∈X.ex\/X.s₀.heap.objs.size<=it) (T:∀x c,X.env.cells.lookup x=ar c->c≠it) (U:∀p∈X.pn++pins,p.1≠it):Inv X pins σ H {s with heap:=h',toks:=t'}:=by
 have Y:∀b u,H b=ar u->b≠it:=λb u e z=>by rw[z,Q]at e;cases e
 refine I.step (g':=s.gens) (d':=s.drawn) (ch:=[it]) (λb P=>?_) (λb o _ _ Z e _=>k b o (λz=>Z (by simp[z])) e) (λb o _ _ Z e _=>⟨o.slots,k b o (λz=>Z (by simp[z])) e⟩) (λ_ _ _ _ n=>n)
  (λb o Z e=>⟨o,k b o (λz=>Z (by simp[z])) e⟩) (λ_ _ e=>e) (λ_ _ _ e=>e) (λb O e=>⟨#[],by rw[e];simp⟩) (λm hm=>?_) (λb u e=>?_) I.bare
 ·have e:b=it:=by simpa using P
  subst e;exact⟨R,W,T,U⟩
 ·obtain⟨o,es,ep,S,r⟩:=hm;exact⟨o,es,ep,k _ o (j' W) S,r⟩
 ·refine(I.hok b u e).stay (λc v Z q=>k c v ?_ q) (λ_ q=>q) λ_ _ q=>q;rcases Z with z|z
  ·rw[z];exact Y b u e
  ·exact Y c _ z
theorem Inv.tok(I:Inv X pins σ H s)(t:Nat):Inv X pins σ H {s with toks:=t}:=I.un (h':=s.heap) (t':=t) Un.refl I.hok
theorem Inv.kept(I:Inv X pins σ H s)(k:∀b u,s.heap.get? b=ar u->h'.get? b=ar u):Inv X pins σ H {s with heap:=h',toks:=t'}:=I.un (Un.kept k) (I.hok.kept k)
theorem Inv.laid(I:Inv X pins σ H s)(k:∀b u,s.heap.get? b=ar u->h'.get? b=ar u)(Y:s.heap.objs.size<=a)(Z:bG X.prog X.w (upd H a o) h' a o):
  Inv X pins σ (upd H a o) {s with heap:=h',toks:=t'}:=I.un (Un.laid k Y (I.hok.fresh Y)) (I.hok.laid k Y Z)
theorem Inv.write(I:Inv X pins σ H s)(W:K8 (H x))(U:e=x\/H e=ar (.own x))(k:∀b u,b≠e->s.heap.get? b=ar u->h'.get? b=ar u)(Z:∃u,h'.get? e=ar u)
  (Y:bG X.prog X.w (upd H x o) h' x o):Inv X pins σ (upd H x o) {s with heap:=h',toks:=t'}:=I.un (Un.write W U k Z) (I.hok.write W U k Z Y)
theorem Inv.pins_of(I:Inv X pins σ H s)(h:∀p∈pins',s.heap.get? p.1=ar p.2/\H p.1=none/\p.1≠X.env.locals/\p.1∉X.fs/\∀v,p.2.data≠ .cell v):Inv X pins' σ H s:=
 ⟨I.ok,I.os,I.bare,I.base,I.loc,I.cell,I.free,I.freeC,λp Z=>(NA.mp Z).elim (λz=>I.pin p (Ob _ z)) (h p),I.hok,I.len⟩
theorem qu{N:List Str}(Z:N.Nodup){i j:Nat}{x:Str}(a:N[i]? =ar x)(b:N[j]? =ar x):i=j:=by obtain⟨Y,e1⟩:=MX.mp a;obtain⟨W,e2⟩:=MX.mp b;exact(List.getElem_inj Z).mp (e1.trans e2.symm)
theorem sS{M:Sd}{A:hS}{E:a_->dn->Prop}{i:Nat}{x:Str}{v:V}{u:a_}{Q:Unit->dn->Prop}(I:Inv X pins σ H s)(hN:X.N.Nodup)(O:X.N[i]? =ar x)(Y:Loc X.env.scope x)(r:RelV v u)
  (h:∀s',Inv X pins (σ.set i (ar v)) H s'->(∃a,ri a s.heap s'.heap/\(a=X.env.locals\/X.env.cells.lookup x=ar a))->Q () s') (hf:X.fn x=b_\/X.env.scope.names.lookup x=ar .local:=by first|exact .inl rfl|exact .inr rfl|assumption):ee M A (storeName X.env x u) Q E s:=by
 obtain⟨m,hn,hl⟩:=id I.loc;have J:(X.env.scope.kind== .class||(X.env.scope.kind== .module && X.env.locals !=X.env.globals))=false:=by rw[I.ok.kind];rfl
 have U:i<σ.length:=by rw[I.len];exact(MX.mp O).1
 have S:=I.cne;have tracked:∀{a:c_} {h':gd},(∃o,s.heap.get? a=ar o/\H a=none)->ri a s.heap h'->ij X.prog X.w H h':=λ{a h'} ha hs b ob e=>by
  obtain⟨_,_,W⟩:=ha;refine(I.hok b ob e).stay (λc G Z q=>(hs.2 c ?_).trans q) (λ_ q=>q) λ_ _ q=>q;rintro rfl;rcases Z with rfl|Z
  ·rw[W]at e;cases e
  ·rw[W]at Z;cases Z
 rcases Y with hk|hk
 ·refine wpAny_storeName_local hk hn (λh' a4 hs=>?_) J;obtain⟨oL,_,_,a3,_⟩:=id hn;refine h _ ⟨I.ok,I.os,I.bare,⟨λb o e n T Y=>?_,λb o e n T Y=>?_,I.base.free,λb o e Y=>?_,I.base.tups,I.base.frzs,I.base.tbls⟩,⟨_,a4,λj y v' e1 e2 B=>?_⟩,λy c e=>?_,I.free,I.freeC,λp C=>?_,tracked ⟨oL,a3,I.free⟩ hs,by simpa using I.len⟩ ⟨_,hs,.inl rfl⟩
  ·exact(hs.2 b (Ng (Nf (MZ e) I.ok.above))).trans (I.base.keep b o e n T Y)
  ·obtain⟨t,e1⟩:=I.base.slot b o e n T Y;exact⟨t,(hs.2 b (Ng (Nf (MZ e) I.ok.above))).trans e1⟩
  ·obtain⟨o',e1⟩:=I.base.there b o e Y;exact⟨o',(hs.2 b (Ng (Nf (MZ e) I.ok.above))).trans e1⟩
  ·by_cases hj:j=i
   ·subst hj;rw[O]at e1;cases e1;rw[NB U]at e2;cases e2;exact⟨u,r,.inl ⟨hk,by simp⟩⟩
   ·rw[NM (j' hj)]at e2;obtain⟨g,l,q⟩:=hl j y v' e1 e2 B;refine⟨g,l,?_⟩;rcases q with⟨k,e⟩|⟨k,c,e,z⟩
    ·refine .inl ⟨k,?_⟩;have:y≠x:=λe=>hj (qu hN e1 (e ▸ O));simp[this,e]
    ·exact .inr ⟨k,c,e,z.sameBut hs (S y c e)⟩
  ·obtain⟨G,z⟩:=I.cell y c e;exact⟨G,z.sameBut hs (S y c e)⟩
  ·obtain⟨e,n,ne,f,d⟩:=I.pin p C;exact⟨(hs.2 p.1 ne).trans e,n,ne,f,d⟩
 ·have R:X.fn x=true:=by
   rcases hf with z|z
   ·exact z
   ·rw[z]at hk;cases hk
  obtain⟨c,Z⟩:=I.ok.has x (.inl hk);obtain⟨G,z⟩:=I.cell x c Z;refine wpAny_storeName_cell I.ok.kind hk Z z (λh' K hs=>?_);obtain⟨oc,L,P⟩:=id z;refine h {s with heap:=h'} ⟨I.ok,I.os,I.bare,⟨λb o e n T Y=>?_,λb o e n T Y=>?_,I.base.free,λb o e Y=>?_,I.base.tups,I.base.frzs,I.base.tbls⟩,⟨m,hn.sameBut hs (j' (S x c Z)),λj y v' e1 e2 B=>?_⟩,λy F e=>?_,I.free,I.freeC,λp C=>?_,tracked ⟨oc,L,I.freeC x c Z⟩ hs,by simpa using I.len⟩ ⟨c,hs,.inr Z⟩
  ·exact(hs.2 b (Ng (Nf (MZ e) (I.ok.cab x c R Z)))).trans (I.base.keep b o e n T Y)
  ·obtain⟨t,e1⟩:=I.base.slot b o e n T Y;exact⟨t,(hs.2 b (Ng (Nf (MZ e) (I.ok.cab x c R Z)))).trans e1⟩
  ·obtain⟨o',e1⟩:=I.base.there b o e Y;exact⟨o',(hs.2 b (Ng (Nf (MZ e) (I.ok.cab x c R Z)))).trans e1⟩
  ·by_cases hj:j=i
   ·subst hj;rw[O]at e1;cases e1;rw[NB U]at e2;cases e2;exact⟨u,r,.inr ⟨.inl hk,c,Z,K⟩⟩
   ·rw[NM (j' hj)]at e2;obtain⟨g,l,q⟩:=hl j y v' e1 e2 B;refine⟨g,l,?_⟩;rcases q with q|⟨k,F,e,z'⟩
    ·exact .inl q
    ·refine .inr ⟨k,F,e,z'.sameBut hs ?_⟩;rintro rfl;exact hj (qu hN e1 (I.ok.inj _ _ _ e Z ▸ O))
  ·by_cases hcc:F=c
   ·subst hcc;exact⟨_,K⟩
   ·obtain⟨w2,z2⟩:=I.cell y F e;exact⟨w2,z2.sameBut hs hcc⟩
  ·obtain⟨e,n,ne,f,d⟩:=I.pin p C;refine⟨(hs.2 p.1 ?_).trans e,n,ne,f,d⟩;intro q;rw[q,L]at e;have q':oc=p.2:=Nw e;exact d G (by rw[<-q'];exact P)
theorem mY{Q:Unit->dn->Prop}(I:Inv X pins σ H s)(T:X.N.Nodup)(W:X.N[i]? =ar x)(U:Loc X.env.scope x)(r:RelV v u)
  (h:∀s',Inv X pins (σ.set i (ar v)) H s'->Q () s') (Z:X.fn x=b_\/X.env.scope.names.lookup x=ar .local:=by first|exact .inl rfl|exact .inr rfl|assumption):ee M A (storeName X.env x u) Q E s:=
 sS I T W U r (λs' Y _=>h s' Y) Z
theorem Inv.call'{s':dn}(I:Inv X pins σ H s)(U:s'.os=s.os)(u:Un (kl X.stack) ch H H' s.heap s'.heap)(Z:ij X.prog X.w H' s'.heap)(W:y_ s'.gens)
  (Y:∀b∈ch,(b∈X.ex\/X.s₀.heap.objs.size<=b)/\b≠X.env.locals/\(∀x c,X.env.cells.lookup x=ar c->c≠b)/\∀p∈X.pn++pins,p.1≠b):Inv X pins σ H' s':=by
 obtain⟨h',g',d',t',T⟩:=s';have e:T=s.os:=U;subst e;exact I.call (g':=g') (t':=t') (d':=d') u Z W Y
end
abbrev XK:=a_->Option c_->Hp->Prop
abbrev St:=List (Option V)
abbrev VK:=V->Hp->Prop
abbrev TE:=St->Hp->VK->Prop
abbrev TT:=St->Hp->(Bool->Hp->Prop)->Prop
abbrev TA:=St->Hp->(List V->Hp->Prop)->Prop
structure Ends where
 nx:St->Hp->Prop
 rt:VK
 bk:St->Hp->Prop:=λ_ _=>False
 ct:St->Hp->Prop:=λ_ _=>False
abbrev TS:=Ends->St->Hp->Prop
def EP(X:Cx)(pins:List (c_×Obj))(σ:St)(Q:VK)(u:a_)(s':dn):Prop:=∃v H',Inv X pins σ H' s'/\RelV v u/\Q v H'
def TP(X:Cx)(pins:List (c_×Obj))(σ:St)(Q:Bool->Hp->Prop)(b:Bool)(s':dn):Prop:=∃H',Inv X pins σ H' s'/\Q b H'
def AP(X:Cx)(pins:List (c_×Obj))(σ:St)(Q:List V->Hp->Prop)(us:List a_)(s':dn):Prop:=∃vs H',Inv X pins σ H' s'/\bu vs us/\Q vs H'
def SP(X:Cx)(pins:List (c_×Obj))(D:Ends)(f:Flow)(s':dn):Prop:=
 match f with
 | .next=>∃ σ' H',Inv X pins σ' H' s'/\D.nx σ' H'
 | .brk=>∃ σ' H',Inv X pins σ' H' s'/\D.bk σ' H'
 | .cont=>∃ σ' H',Inv X pins σ' H' s'/\D.ct σ' H'
 | .ret u=>∃v σ' H',Inv X pins σ' H' s'/\RelV v u/\D.rt v H'
def PE(X:Cx)(e:Expr)(t:TE):Prop:=
 ∀(pins:List (c_×Obj)) (s:dn) (σ:St) (H:Hp) (Q:VK),Inv X pins σ H s->t σ H Q->ee (fg X.prog X.w) X.A (hJ e X.env) (EP X pins σ Q) X.xe s
def PT(X:Cx)(e:Expr)(t:TT):Prop:=
 ∀(pins:List (c_×Obj)) (s:dn) (σ:St) (H:Hp) (Q:Bool->Hp->Prop),Inv X pins σ H s->t σ H Q->ee (fg X.prog X.w) X.A (isTrue e X.env (hJ e X.env)) (TP X pins σ Q) X.xe s
def PW(X:Cx)(e:Expr)(t:TT):Prop:=
 ∀(whole:Sem a_) (pins:List (c_×Obj)) (s:dn) (σ:St) (H:Hp) (Q:Bool->Hp->Prop),Inv X pins σ H s->t σ H Q->ee (fg X.prog X.w) X.A (isTrue e X.env whole) (TP X pins σ Q) X.xe s
theorem PW.pt(h:PW X e t):PT X e t:=h _
def PA(X:Cx)(es:List Expr)(t:TA):Prop:=
 ∀(pos:Pos) (pins:List (c_×Obj)) (s:dn) (σ:St) (H:Hp) (Q:List V->Hp->Prop),Inv X pins σ H s->t σ H Q->ee (fg X.prog X.w) X.A (spliced (r_ pos (d_ es X.env))) (AP X pins σ Q) X.xe s
def PS(X:Cx)(st:oo)(t:TS):Prop:=
 ∀(pins:List (c_×Obj)) (s:dn) (σ:St) (H:Hp) (D:Ends),Inv X pins σ H s->t D σ H->ee (fg X.prog X.w) X.A (exec st X.env) (SP X pins D) X.xe s
def sr(X:Cx)(st:List oo)(t:TS):Prop:=
 ∀(pins:List (c_×Obj)) (s:dn) (σ:St) (H:Hp) (D:Ends),Inv X pins σ H s->t D σ H->ee (fg X.prog X.w) X.A (execs st X.env) (SP X pins D) X.xe s
theorem eJ{α:Type}{t:Sem α}{Q Z:α->dn->Prop}{M:Sd}{A:hS}{E:a_->dn->Prop}{s:dn}(h:ee M A t Q E s)(Y:∀a s,Q a s->Z a s):ee M A t Z E s:=Oc h Y λ_ _ x=>x
section
variable {X:Cx}
def xx(i:Nat):TE:=λσ H Q=>∃v,σ[i]? =ar (ar v)/\Q v H
def tC(v:V):TE:=λ_ H Q=>Q v H
theorem ky(T:X.N[i]? =ar x)(S:EN X.env.scope x)(Z:(x==("__debug__":Str))=false:=by decide)(Y:(x==("__classdict__":Str))=false:=by decide):PE X (.Name x pos) (xx i):=by
 intro pins s σ H Q I h;obtain⟨v,e,h⟩:=h;obtain⟨m,U,W⟩:=I.loc;obtain⟨u,r,l⟩:=W i x v T e S;have fin:EP X pins σ Q u s:=⟨v,H,I,r,h⟩;rcases l with⟨hk,hm⟩|⟨hk,c,hc,hcell⟩
 ·exact RS (wpAny_loadName_local I.ok.kind hk U hm fin) Z
 ·rcases hk with hk|hk
  ·exact RS (wpAny_loadName_cell I.ok.kind hk hc hcell fin) Z
  ·exact RS (wpAny_loadName_free I.ok.kind hk hc hcell fin Y) Z
theorem B8{i j pos}:PE X (.Constant (.int i) j pos) (tC (.int i)):=λ_ _ _ H _ I h=>wpAny_Constant_int ⟨.int i,H,I.tok _,⟨_,rfl⟩,h⟩
theorem JG{b j pos}:PE X (.Constant (.bool b) j pos) (tC (.bl b)):=λ_ _ _ H _ I h=>Constant_bool ⟨.bl b,H,I,rfl,h⟩
theorem G9{j pos}:PE X (.Constant .none j pos) (tC .non):=λ_ _ _ H _ I h=>Constant_none ⟨.non,H,I,rfl,h⟩
theorem Ha{x j pos}:PE X (.Constant (.str x) j pos) (tC (.str x)):=λ_ _ _ H _ I h=>Calls.Constant_str ⟨.str x,H,I.tok _,⟨_,rfl⟩,h⟩
def Gl(X:Cx)(x:Str):Prop:=X.env.kindOf x=ar .globalImplicit
theorem lz{Q:a_->dn->Prop}(I:Inv X pins σ H s)(Z:Gl X x)(Y:X.mg x=ar u)(h:Q u s)
  (W:(x==("__debug__":Str))=false:=by decide):ee (fg X.prog X.w) X.A (hJ (.Name x pos) X.env) Q E s:=
 Qo I.ok.kind Z (Calls.loadGlobal_global (by rw[I.ok.glob];exact I.mod.glob.keeps I.bk) Y h) W
theorem oK{Q:a_->dn->Prop}(I:Inv X pins σ H s)(Z:Gl X x)(W:X.mg x=none)(R:k_ x=ar u)(h:Q u s)
  (T:x≠"__name__":=by decide) (U:(x==("__debug__":Str))=false:=by decide):ee (fg X.prog X.w) X.A (hJ (.Name x pos) X.env) Q E s:=by
 obtain⟨P,Y,S⟩:=I.mod.blt;exact Qo I.ok.kind Z (Calls.loadGlobal_builtin (by rw[I.ok.glob];exact I.mod.glob.keeps I.bk) W (by rw[I.ok.blt];exact Y.keeps I.bk) ((S x T).trans R) h) U
theorem yM(Z:Gl X x)(Y:X.mg x=ar u)(r:RelV v u)(W:(x==("__debug__":Str))=false:=by decide):PE X (.Name x pos) (tC v):=
 λ_ _ _ H _ I h=>lz I Z Y ⟨v,H,I,r,h⟩ W
theorem qb(Z:Gl X x)(Y:X.mg x=none)(T:k_ x=ar u)(r:RelV v u)(U:x≠"__name__":=by decide)(W:(x==("__debug__":Str))=false:=by decide):PE X (.Name x pos) (tC v):=
 λ_ _ _ H _ I h=>oK I Z Y T ⟨v,H,I,r,h⟩ U W
variable {a b:Expr}{ta tb:TE}{pos:Pos}
theorem qv(b:Expr)(h:op≠ .In)(Z:op≠ .NotIn):k7 op b=false:=by
 have e1:(op==CmpOp.In)=false:=by cases op<;>first|rfl|exact absurd rfl h
 have e2:(op==CmpOp.NotIn)=false:=by cases op<;>first|rfl|exact absurd rfl Z
 cases b<;>simp[k7,e1,e2]
def tB(t:TE):TT:=λσ H Q=>t σ H λx H1=>∃c,x= .bl c/\Q c H1
theorem Hd(h:PE X e t)(Z:∀whole,isTrue e X.env whole=(do let v<-whole;So e.pos;B_ [v] (truthy v)):=by intro _;rfl):PT X e (tB t):=by intro pins s σ H Q I hw;refine isTrue_plain (eJ (h pins s σ H _ I hw) λv s1 ⟨x,H1,I1,r1,q1⟩=>?_) (Z _);obtain⟨d,rfl,q⟩:=q1;cases r1;exact Og ⟨H1,I1,q⟩
variable {tA tB':TT}{rest:List Expr}
def LA(t u:TT):TT:=λσ H Q=>t σ H λc H1=>if c=b_ then u σ H1 Q else Q dt H1
def MB(t u:TT):TT:=λσ H Q=>t σ H λc H1=>if c=b_ then Q b_ H1 else u σ H1 Q
def LB(t:TT):TT:=λσ H Q=>t σ H λc H1=>Q (!c) H1
theorem EO(Z:PT X a tA):PW X (.BoolOp .And [a] pos) tA:=by
 intro Y pins s σ H Q I h;refine isTrue_and (eJ (Z pins s σ H Q I h) λc s1 e=>?_);cases c with
 |true=>exact isTrue_and_nil e
 |false=>exact e
theorem He(Z:PT X a tA):PW X (.BoolOp .Or [a] pos) tA:=by
 intro Y pins s σ H Q I h;refine isTrue_or (eJ (Z pins s σ H Q I h) λc s1 e=>?_);cases c with
 |false=>exact isTrue_or_nil e
 |true=>exact e
theorem Hf(Y:PT X a tA)(W:PW X (.BoolOp .And (b::rest) pos) tB'):PW X (.BoolOp .And (a::b::rest) pos) (LA tA tB'):=by
 intro Z pins s σ H Q I h;refine isTrue_and (eJ (Y pins s σ H _ I h) λc s1 ⟨H1,I1,q1⟩=>?_);cases c with
 |true=>exact W Z pins s1 σ H1 Q I1 q1
 |false=>exact⟨H1,I1,q1⟩
theorem JH(Y:PT X a tA)(W:PW X (.BoolOp .Or (b::rest) pos) tB'):PW X (.BoolOp .Or (a::b::rest) pos) (MB tA tB'):=by
 intro Z pins s σ H Q I h;refine isTrue_or (eJ (Y pins s σ H _ I h) λc s1 ⟨H1,I1,q1⟩=>?_);cases c with
 |true=>exact⟨H1,I1,q1⟩
 |false=>exact W Z pins s1 σ H1 Q I1 q1
theorem Hg(Y:PT X a tA):PT X (.UnaryOp .Not a pos) (LB tA):=by intro pins s σ H Q I h;exact isTrue_not (Y pins s σ H (λc Z=>Q (!c) Z) I h)
def JI(ta tb:TE):TE:=λσ H Q=>ta σ H λx H1=>∃c,x= .bl c/\if c=b_ then tb σ H1 Q else Q (.bl dt) H1
def JJ(ta:TE):TE:=λσ H Q=>ta σ H λx H1=>∃c,x= .bl c/\Q (.bl (!c)) H1
theorem Hh{op}(h:PE X a t):PE X (.BoolOp op [a] pos) t:=λpins s σ H Q I hw=>BoolOp_one (h pins s σ H Q I hw)
theorem Hi(Y:PE X a ta)(W:PE X (.BoolOp .And (b::rest) pos) tb):PE X (.BoolOp .And (a::b::rest) pos) (JI ta tb):=by
 intro pins s σ H Q I h;refine BoolOp_and (eJ (Y pins s σ H _ I h) λv s1 ⟨x,H1,I1,r1,Z⟩=>?_);obtain⟨c,rfl,Z⟩:=Z;cases r1;refine Og ?_;cases c with
 |true=>exact W pins s1 σ H1 Q I1 Z
 |false=>exact⟨.bl dt,H1,I1,rfl,Z⟩
theorem Hj(Y:PE X a ta):PE X (.UnaryOp .Not a pos) (JJ ta):=by intro pins s σ H Q I h;refine UnaryOp_ (eJ (Y pins s σ H _ I h) λv s1 ⟨x,H1,I1,r1,Z⟩=>?_);obtain⟨c,rfl,Z⟩:=Z;cases r1;exact not_of (Og ⟨.bl (!c),H1,I1,rfl,Z⟩)
def MC(t:TT)(ta tb:TE):TE:=λσ H Q=>t σ H λc H1=>if c=b_ then ta σ H1 Q else tb σ H1 Q
theorem B9(Z:PT X c tA)(Y:PE X a ta)(W:PE X b tb):PE X (.IfExp c a b pos) (MC tA ta tb):=by
 intro pins s σ H Q I h;refine wpAny_IfExp (eJ (Z pins s σ H _ I h) λd s1 ⟨H1,I1,q1⟩=>?_);cases d with
 |true=>exact Y pins s1 σ H1 Q I1 q1
 |false=>exact W pins s1 σ H1 Q I1 q1
end
def lA(K:dV)(H:Hp)(a:c_)(xs:List V):Prop:=
 Rd H a (.lst xs)\/
  ∃(o:Obj) (its:Array a_) (n:Nat),K.lookup a=ar o/\o.cls= .type "list"/\o.dict=none/\o.data= .seq its n/\its.size<=sizeLine/\bu xs its.toList
def lQ(K:dV)(H:Hp)(a:c_)(xs:List V):Prop:=
 Rd H a (.tup xs)\/
  ∃(o:Obj) (its:Array a_) (n:Nat),K.lookup a=ar o/\o.cls= .type "tuple"/\o.data= .seq its n/\its.size<=sizeLine/\bu xs its.toList
def LC:a_->Option V
 | .none=>ar .non
 | .bool b=>ar (.bl b)
 | .int i _=>ar (.int i)
 | .str x _=>ar (.str x)
 | .bytes b _=>ar (.byt b)
 | .float b _=>ar (.flt b)
 | .ref a=>ar (.ref a)
 | .type n=>ar (.ty n)
 |_=>none
theorem RelV.abs(r:RelV x u):LC u=ar x:=by
 cases x with
 |non=>cases r;rfl
 |bl _=>cases r;rfl
 |int _=>obtain⟨t,rfl⟩:=r;rfl
 |str _=>obtain⟨t,rfl⟩:=r;rfl
 |byt _=>obtain⟨t,rfl⟩:=r;rfl
 |flt _=>obtain⟨t,rfl⟩:=r;rfl
 |ref _=>cases r;rfl
 |ty _=>cases r;rfl
theorem RelV.inj(r:RelV x u)(q:RelV y u):x=y:=Nw (r.abs.symm.trans q.abs)
theorem bu.inj:∀{xs ys:List V} {us:List a_},bu xs us->bu ys us->xs=ys
 |_,_,_,.nil,.nil=>rfl
 |_,_,_,.cons r t,.cons r' t'=>by rw[r.inj r',bu.inj t t']
section
variable {X:Cx}{pins:List (c_×Obj)}{σ:St}{H:Hp}{s:dn}{a:c_}{xs ys:List V}
theorem lA.of{K:dV}(h:H a=ar (.lst xs)):lA K H a xs:=.inl (.inl h)
theorem lQ.of{K:dV}(h:H a=ar (.tup xs)):lQ K H a xs:=.inl (.inl h)
theorem Inv.list(I:Inv X pins σ H s)(h:lA X.K H a xs):∃its:List a_,bu xs its/\PlainL s.heap a its.toArray/\xs.length<=sizeLine:=by
 rcases h with h|⟨o,its,n,hk,hc,hd,hs,hz,r⟩
 ·obtain⟨z,its,n,r,e⟩:=h.ok I.hok;exact⟨its,r,⟨_,n,e,rfl,rfl,rfl⟩,z⟩
 ·refine⟨its.toList,r,⟨o,n,I.kIn a o hk,hc,hd,by simpa using hs⟩,?_⟩;have e:=r.length;simp only[A']at e;omega
theorem Inv.tuple(I:Inv X pins σ H s)(h:lQ X.K H a xs):∃its:List a_,bu xs its/\R_ s.heap a its.toArray/\xs.length<=sizeLine:=by
 rcases h with h|⟨o,its,n,hk,hc,hs,hz,r⟩
 ·obtain⟨z,its,r,p⟩:=h.ok I.hok;exact⟨its,r,p,z.1⟩
 ·refine⟨its.toList,r,⟨o,I.kIn a o hk,hc,n,by simpa using hs⟩,?_⟩;have e:=r.length;simp only[A']at e;omega
theorem Inv.list_inj(I:Inv X pins σ H s)(h:lA X.K H a xs)(h':lA X.K H a ys):xs=ys:=by
 obtain⟨its,r,⟨o,n,e,_,_,d⟩,_⟩:=I.list h;obtain⟨its',Y,⟨U,W,Z,_,_,d'⟩,_⟩:=I.list h';rw[e]at Z;cases Z;rw[d]at d';injection d' with d1 _;have:its=its':=by simpa using Pf Array.toList d1
 subst this;exact r.inj Y
theorem Inv.tuple_inj(I:Inv X pins σ H s)(h:lQ X.K H a xs)(h':lQ X.K H a ys):xs=ys:=by
 obtain⟨its,r,⟨o,e,_,n,d⟩,_⟩:=I.tuple h;obtain⟨its',Y,⟨U,Z,_,W,d'⟩,_⟩:=I.tuple h';rw[e]at Z;cases Z;rw[d]at d';injection d' with d1 _;have:its=its':=by simpa using Pf Array.toList d1
 subst this;exact r.inj Y
end
abbrev Cx.wish(X:Cx)(E:a_->dn->Prop):Cx:={X with xe:=E}
abbrev Cx.nox(X:Cx):Cx:=X.wish λ_ _=>False
theorem Cx.Ok.wish{X:Cx}(Z:X.Ok)(E:a_->dn->Prop):(X.wish E).Ok:=
 ⟨Z.mod,Z.kind,Z.glob,Z.blt,Z.above,Z.inj,Z.has,Z.cab,Z.hd,Z.frames,Z.stk,Z.exf,Z.bs,Z.bsz,Z.noex,Z.exfs,Z.funs,Z.frf⟩
theorem Cx.Ok.unwish{X:Cx}(Z:(X.wish E).Ok):X.Ok:=
 ⟨Z.mod,Z.kind,Z.glob,Z.blt,Z.above,Z.inj,Z.has,Z.cab,Z.hd,Z.frames,Z.stk,Z.exf,Z.bs,Z.bsz,Z.noex,Z.exfs,Z.funs,Z.frf⟩
section
variable {X:Cx}{pins:List (c_×Obj)}{σ:St}{H:Hp}{s:dn}{E:a_->dn->Prop}
theorem Inv.wish(I:Inv X pins σ H s)(E:a_->dn->Prop):Inv (X.wish E) pins σ H s:=⟨I.ok.wish E,I.os,I.bare,I.base,I.loc,I.cell,I.free,I.freeC,I.pin,I.hok,I.len⟩
theorem Inv.unwish(I:Inv (X.wish E) pins σ H s):Inv X pins σ H s:=⟨I.ok.unwish,I.os,I.bare,I.base,I.loc,I.cell,I.free,I.freeC,I.pin,I.hok,I.len⟩
theorem SP.unwish(h:SP (X.wish E) pins D f s'):SP X pins D f s':=by
 cases f with
 |next=>obtain⟨Z,Y,I,q⟩:=h;exact⟨Z,Y,I.unwish,q⟩
 |brk=>obtain⟨Z,Y,I,q⟩:=h;exact⟨Z,Y,I.unwish,q⟩
 |cont=>obtain⟨Z,Y,I,q⟩:=h;exact⟨Z,Y,I.unwish,q⟩
 |ret u=>obtain⟨v,Z,Y,I,r,q⟩:=h;exact⟨v,Z,Y,I.unwish,r,q⟩
theorem sr.nox{Z:List oo}{t:TS}(h:sr X.nox Z t):sr X Z t:=λpins s σ H D I hw=>
 Oc (h pins s σ H D (I.wish _) hw) (λ_ _ q=>q.unwish) λ_ _ z=>g_ z
end
section
variable {X:Cx}{st:oo}{rest:List oo}{t u:TS}{e:Expr}{te:TE}{pos:Pos}
def JK:TS:=λD σ H=>D.nx σ H
def LD(t u:TS):TS:=λD σ H=>t {D with nx:=u D} σ H
theorem ER:sr X [] JK:=λ_ _ σ H _ I h=>O1 ⟨σ,H,I,h⟩
theorem Ca(Y:PS X st t)(U:sr X rest u):sr X (st::rest) (LD t u):=by
 intro pins s σ H D I h;refine Pg (eJ (Y pins s σ H {D with nx:=u D} I h) λf s1 q=>?_);cases f with
 |next=>
  obtain⟨Z,W,T,q⟩:=q;exact U pins s1 Z W D T q
 |ret v=>exact q
 |brk=>exact q
 |cont=>exact q
theorem t8(Z:PS X st t):sr X [st] t:=by
 intro pins s σ H D I h;refine Pg (eJ (Z pins s σ H D I h) λf s1 q=>?_);cases f with
 |next=>exact O1 q
 |ret v=>exact q
 |brk=>exact q
 |cont=>exact q
theorem Inv.quiet(I:Inv X pins σ H s):interactive X.env=false:=by simp[interactive,I.ok.kind]
def JL(te:TE):TS:=λD σ H=>te σ H λ_ H1=>D.nx σ H1
theorem ES(Z:PE X e te)(hs:la e none pos.line X.env=aC false:=by rfl):PS X (.Expr e pos) (JL te):=by intro pins s σ H D I h;exact Rb (eJ (Z pins s σ H _ I h) λv s1 ⟨x,H1,I1,r1,q1⟩=>⟨σ,H1,I1,q1⟩) I.quiet hs
def LF(te:TE):TS:=λD σ H=>te σ H D.rt
theorem Cb(Z:PE X e te):PS X (.Return (ar e) pos) (LF te):=by intro pins s σ H D I h;exact wpAny_Return_some (eJ (Z pins s σ H _ I h) λv s1 ⟨x,H1,I1,r1,q1⟩=>⟨x,σ,H1,I1,r1,q1⟩)
def LG(c:TT)(t u:TS):TS:=λD σ H=>c σ H λb H1=>if b=b_ then t D σ H1 else u D σ H1
theorem JM(Z:PT X c tc)(Y:sr X a t)(W:sr X b u):PS X (.If c a b pos) (LG tc t u):=by
 intro pins s σ H D I h;refine wpAny_If (eJ (Z pins s σ H _ I h) λd s1 ⟨H1,I1,q1⟩=>?_);cases d with
 |true=>exact Y pins s1 σ H1 D I1 q1
 |false=>exact W pins s1 σ H1 D I1 q1
end
abbrev TG:=V->St->Hp->(St->Hp->Prop)->Prop
abbrev Hk:=List V->St->Hp->(St->Hp->Prop)->Prop
def PG(X:Cx)(target:Expr)(t:TG):Prop:=
 ∀(pins:List (c_×Obj)) (s:dn) (σ:St) (H:Hp) (v:V) (u:a_) (Q:St->Hp->Prop),Inv X pins σ H s->RelV v u->t v σ H Q->
  ee (fg X.prog X.w) X.A (QL target X.env u) (λ_ s'=>∃ σ' H',Inv X pins σ' H' s'/\Q σ' H') X.xe s
def EI(X:Cx)(ts:List Expr)(t:Hk):Prop:=
 ∀(pins:List (c_×Obj)) (s:dn) (σ:St) (H:Hp) (vs:List V) (us:List a_) (Q:St->Hp->Prop),Inv X pins σ H s->bu vs us->t vs σ H Q->
  ee (fg X.prog X.w) X.A (assignInOrder ((o_ ts X.env).map (·.2)) us) (λ_ s'=>∃ σ' H',Inv X pins σ' H' s'/\Q σ' H') X.xe s
abbrev Hl:=V->V->V->Hp->(Hp->Prop)->Prop
def JN(X:Cx)(t:Hl):Prop:=
 ∀(pins:List (c_×Obj)) (s:dn) (σ:St) (H:Hp) (o i v:V) (ov iv u:a_) (Q:Hp->Prop),Inv X pins σ H s->RelV o ov->RelV i iv->RelV v u->t o i v H Q->
  ee (fg X.prog X.w) X.A (SV ov iv u) (λ_ s'=>∃H',Inv X pins σ H' s'/\Q H') X.xe s
section
variable {X:Cx}{pos:Pos}
def Cc(i:Nat):TG:=λv σ H Q=>Q (σ.set i (ar v)) H
theorem ET(T:X.N.Nodup)(W:X.N[i]? =ar x)(U:Loc X.env.scope x)(Z:X.fn x=b_\/X.env.scope.names.lookup x=ar .local:=by first|exact .inl rfl|exact .inr rfl|assumption):PG X (.Name x pos) (Cc i):=by intro pins s σ H v u Q I r h;exact wpAny_assign_Name (mY I T W U r (λs' Y=>⟨_,H,Y,h⟩) Z)
def LH:Hk:=λvs σ H Q=>vs=[]/\Q σ H
def JO(t:TG)(u:Hk):Hk:=λvs σ H Q=>∃v r,vs=v::r/\t v σ H λσ' H'=>u r σ' H' Q
theorem EU:EI X [] LH:=by intro pins s σ H vs us Q I r h;obtain⟨e,h⟩:=h;subst e;cases r;exact assignInOrder_nil ⟨σ,H,I,h⟩
theorem Cd(Y:PG X e t)(Z:EI X es u)
  (hs:(o_ (e::es) X.env).map (·.2)=QL e X.env::(o_ es X.env).map (·.2):=by rfl):EI X (e::es) (JO t u):=by
 intro pins s σ H vs us Q I r h;obtain⟨v,W,e1,h⟩:=h;subst e1;cases r with
 |cons r rr=>
  rw[hs];refine assignInOrder_cons (eJ (Y pins s σ H _ _ _ I r h) λ_ s1 ⟨σ1,H1,I1,q1⟩=>?_);exact Z pins s1 σ1 H1 _ _ Q I1 rr q1
def LK(K:dV)(n:Nat)(t:Hk):TG:=λv σ H Q=>∃a xs,v= .ref a/\lQ K H a xs/\xs.length=n/\t xs σ H Q
theorem Hm(S:X.calm=b_)(h:EI X es t)
  (R:(o_ es X.env).length=n:=by rfl) (Z:(o_ es X.env).findIdx? (·.1)=none:=by rfl):PG X (.Tuple es k pos) (LK X.K n t):=by
 intro pins s σ H v u Q I r hw;obtain⟨a,xs,e1,P,T,hw⟩:=hw;subst e1;cases r;obtain⟨its,Y,U,N⟩:=I.tuple P;refine assign_Tuple_tuple (I.ok.hd S) U (by simp[R, <-T,Y.length]) Z λh' O=>?_;have W:Inv X pins σ H {s with heap:=h'}:=I.kept (t':=s.toks) λb o e=>O b o (Ng (MZ e)) e;exact h pins _ σ H xs _ Q W (by simpa using Y) hw
def LL(to ti:TE)(t:Hl):TG:=λv σ H Q=>to σ H λo H1=>ti σ H1 λi H2=>t o i v H2 λH3=>Q σ H3
theorem Hn(Y:PE X o to)(Z:PE X i ti)(hs:JN X t)
  (W:∀v,QL (.Subscript o i pos) X.env v=(do
   let ov<-B_ [v] (hJ o X.env);let iv<-B_ [v,ov] (hJ i X.env)
   So pos
   B_ [v,ov,iv] (SV ov iv v)
   release [v,ov,iv] []):=by intro _;rfl):PG X (.Subscript o i pos) (LL to ti t):=by
 intro pins s σ H v u Q I r h;rw[W];refine MR (NV (eJ (Y pins s σ H _ I h) λov s1 ⟨x,H1,I1,r1,q1⟩=>?_));refine MR (NV (eJ (Z pins s1 σ H1 _ I1 q1) λiv s2 ⟨y,H2,I2,r2,q2⟩=>?_));refine MR (Ro (MR (NV (eJ (hs pins s2 σ H2 x y v ov iv u _ I2 r1 r2 r q2) λ_ s3 ⟨H3,I3,q3⟩=>?_))));exact wpAny_release ⟨σ,H3,I3,q3⟩
def Ho(te:TE)(g:TG):TS:=λD σ H=>te σ H λx H1=>g x σ H1 D.nx
theorem Hq(W:PE X e te)(Z:PG X tg g)(hs:swapsWithSole [tg] e pos.line X.env=aC false:=by rfl)(U:swappedStores [tg] e X.env=aC none:=by rfl)
  (Y:(o_ [tg] X.env).map (·.2)=[QL tg X.env]:=by rfl):PS X (.Assign [tg] e pos) (Ho te g):=by
 intro pins s σ H D I h;refine wpAny_Assign_stores (eJ (W pins s σ H _ I h) λv s1 ⟨x,H1,I1,r1,q1⟩=>?_) hs U;rw[Y];exact eJ (Z pins s1 σ H1 x v _ I1 r1 q1) λ_ s2 q=>q
theorem Ce(S:X.N.Nodup)(U:X.N[i]? =ar x)(T:Loc X.env.scope x)(Z:PE X e te)(hs:la e (ar (.Name x pos')) pos.line X.env=aC false:=by rfl)(Y:X.fn x=b_\/X.env.scope.names.lookup x=ar .local:=by first|exact .inl rfl|exact .inr rfl|assumption):
  PS X (.Assign [.Name x pos'] e pos) (Ho te (Cc i)):=by
 intro pins s σ H D I h;refine wpAny_Assign_Name (eJ (Z pins s σ H _ I h) λv s1 ⟨y,H1,I1,r1,q1⟩=>?_) hs;exact mY I1 S U T r1 (λs2 W=>⟨_,H1,W,q1⟩) Y
def Hr(c:TT)(tb:TS):TS:=λD σ H=>∃W:Nat->St->Hp->Prop,(∃m,W m σ H)/\∀m σ H,W m σ H->
 c σ H λb H1=>if b=b_ then ∃N:St->Hp->Prop,(∀ σ' H',N σ' H'->∃m',m'<m/\W m' σ' H')/\tb {D with nx:=N,ct:=N,bk:=D.nx} σ H1 else D.nx σ H1
theorem Cf{c:Expr}{body:List oo}{L:TT}{tb:TS}(O:Ri (fg X.prog X.w) X.A X.env X.xe)(G:PT X c L)(F:sr X body tb):PS X (.While c body [] pos) (Hr L tb):=by
 intro pins s σ H D I h;obtain⟨W,⟨m0,J⟩,turn⟩:=h;refine wpAny_While (codeAny_whileLoop (λn s'=>∃ σ' H',Inv X pins σ' H' s'/\W n σ' H') ?_ m0 ⟨σ,H,I,J⟩);rintro n s1 ⟨σ1,H1,I1,w1⟩;refine OM O (eJ (G pins s1 σ1 H1 _ I1 (turn n σ1 H1 w1)) λb s2 ⟨H2,I2,U⟩=>?_);cases b with
 | true=>
  obtain⟨N,K,U⟩:=U;rw[if_pos rfl];refine OM O (eJ (F pins s2 σ1 H2 _ I2 U) λf s3 T=>?_);cases f with
  |next=>
   obtain⟨Z,Y,P,Q⟩:=T;obtain⟨R,hm,S⟩:=K Z Y Q;exact⟨R,hm,Z,Y,P,S⟩
  |cont=>
   obtain⟨Z,Y,P,Q⟩:=T;obtain⟨R,hm,S⟩:=K Z Y Q;exact⟨R,hm,Z,Y,P,S⟩
  |brk=>exact T
  |ret v=>exact T
 |false=>
  rw[if_neg N6];exact O1 ⟨σ1,H2,I2,U⟩
end
structure It where
 go:Nat->Hp->Prop
 yld:Nat->Hp->V->Hp->Prop
 stop:Nat->Hp->Prop
def mw(X:Cx)(pins:List (c_×Obj))(H:Hp)(b:c_):Prop:=
 H b=none/\b≠X.env.locals/\b∉X.fs/\(b∈X.ex\/X.s₀.heap.objs.size<=b)/\(∀x c,X.env.cells.lookup x=ar c->c≠b)/\∀p∈X.pn++pins,p.1≠b
theorem Inv.fpOk{Y:Hp}(I:Inv X pins σ H s)(Z:s.heap.objs.size<=b)(U:Y b=none):mw X pins Y b:=by
 refine⟨U,OF (Nf I.lt Z),I.nofs Z,.inr (M7 I.sz Z),λx c e z=>?_,λp W z=>?_⟩
 ·obtain⟨v,q⟩:=I.cell x c e;exact absurd (Nf q.lt (by rw[z];exact Z)) (Ov _)
 ·exact absurd (Nf (MZ (I.pin p W).1) (by rw[z];exact Z)) (Ov _)
structure Turn(P:er)(w:fc)(K:dV)(tg:Expr)(J:It)(fp:List c_)(it:c_)(tn:Nat->gd->Prop):Prop where
 mem:it∈fp
 obj:∀i h,tn i h->∀b∈fp,∃o,h.get? b=ar o/\∀v,o.data≠ .cell v
 keep:∀i h h',tn i h->(∀b∈fp,∀o,h.get? b=ar o->h'.get? b=ar o)->tn i h'
 item:∀(X:Cx),X.prog=P->X.w=w->X.K=K->X.calm=b_->∀(i:Nat) (pins:List (c_×Obj)) (s:dn) (σ:St) (H:Hp) (E:a_->dn->Prop),Inv X pins σ H s->(∀b∈fp,mw X pins H b)->tn i s.heap->J.go i H->
  ee (fg P w) X.A (D' (.ref it)) (λr s1=>∃u,r=ar u/\
   ee (fg P w) X.A (M_ tg (.ref it) u) (λ_ s2=>∃x H',Inv X pins σ H' s2/\RelV x u/\J.yld i H x H'/\tn (i+1) s2.heap/\∀b∈fp,H' b=none) E s1) E s
 done:∀(X:Cx),X.prog=P->X.w=w->X.K=K->X.calm=b_->∀(i:Nat) (pins:List (c_×Obj)) (s:dn) (σ:St) (H:Hp) (E:a_->dn->Prop),Inv X pins σ H s->(∀b∈fp,mw X pins H b)->tn i s.heap->J.stop i H->
  ee (fg P w) X.A (D' (.ref it)) (λr s1=>r=none/\Inv X pins σ H s1) E s
 self:∀(A:hS) (i:Nat) (s:dn) (Q:a_->dn->Prop) (E:a_->dn->Prop),tn i s.heap->Q (.ref it) s->ee (fg P w) A (RT (.ref it)) Q E s
abbrev TI:=St->Hp->(It->Hp->Prop)->Prop
def Mr(X:Cx)(pins:List (c_×Obj))(σ:St)(tg:Expr)(R:It->Hp->Prop)(itv:a_)(s2:dn):Prop:=
 ∃(it:c_) (fp:List c_) (tn:Nat->gd->Prop) (J:It) (H':Hp),itv= .ref it/\Inv X pins σ H' s2/\Turn X.prog X.w X.K tg J fp it tn/\tn 0 s2.heap/\(∀b∈fp,mw X pins H' b)/\R J H'
def PI(X:Cx)(tg iter:Expr)(wi:TI):Prop:=
 ∀(pins:List (c_×Obj)) (s:dn) (σ:St) (H:Hp) (R:It->Hp->Prop),Inv X pins σ H s->wi σ H R->
  ee (fg X.prog X.w) X.A (hJ iter X.env) (λv s1=>ee (fg X.prog X.w) X.A (RT v) (Mr X pins σ tg R) X.xe s1) X.xe s
theorem Cg{s:dn}{Q:Unit->dn->Prop}(U:s.heap.get? it=ar o)(X:o.cls= .type n)(W:o.data= .fields vs)
    (Y:["enumerate","zip","dict_itemiterator","dict_reverseitemiterator","odict_iterator","itertools.zip_longest","itertools.pairwise"].contains n=dt) (Z:Q () s):ee M A (M_ tg (.ref it) u) Q E s:=by
  unfold M_;cases tg <;>first
    |exact MW Z
    |(cases u<;>first
        |exact MW Z
        | (refine MR (wpAny_load U ?_)
           rw[X,W];show ee M A (if (["enumerate","zip","dict_itemiterator","dict_reverseitemiterator","odict_iterator","itertools.zip_longest","itertools.pairwise"].contains n && vs[0]? ==ar (mh _))=b_ then _ else _) Q E s;rw[if_neg (by intro h;rw[Y,OU]at h;cases h)];exact MW Z))
def JP(K:dV)(a:c_):It:=
 ⟨λi H=>∃xs x,lA K H a xs/\xs[i]? =ar x,λi H x H'=>H'=H/\∀xs,lA K H a xs->xs[i]? =ar x,λi H=>∃xs,lA K H a xs/\xs.length<=i⟩
def LM(K:dV)(a:c_):It:=
 ⟨λi H=>∃xs x,lQ K H a xs/\xs[i]? =ar x,λi H x H'=>H'=H/\∀xs,lQ K H a xs->xs[i]? =ar x,λi H=>∃xs,lQ K H a xs/\xs.length<=i⟩
def JQ(lo:Int)(n:Nat):It:=⟨λi _=>i<n,λi H x H'=>H'=H/\x= .int (lo+i),λi _=>n<=i⟩
theorem AI{P:er}{w:fc}{K:dV}{C:Expr}(a it:c_):Turn P w K C (JP K a) [it] it (λi h=>h.IsListIter it a i) where
 mem:=by simp
 obj:=λi h st b Z=>by
  have e:b=it:=by simpa using Z
  subst e;obtain⟨o,e,c,d⟩:=st;exact⟨o,e,λv z=>by rw[d]at z;cases z⟩
 keep:=λi h h' st k=>st.at λo e=>k it (by simp) o e
 item:=by intro X N hw R J i pins s σ H E I hf st S;subst N hw R;obtain⟨xs,x,U,T⟩:=S;obtain⟨its,O,p,G⟩:=I.list U;obtain⟨u,F,t⟩:=O.get T;obtain⟨f0,f1,f2,Q,f4,L⟩:=hf it (by simp);refine wpAny_pyNext_list_item st p.isList (x:=u) (by simpa using F) λh' Y B=>?_;have A:Inv X pins σ H {s with heap:=h'}:=I.turned (t':=s.toks) (λb o Z e=>(B.2 b Z).trans e) f0 f1 Q f4 L;obtain⟨o,e,c,d⟩:=id Y;exact⟨u,rfl,Cg (s:={s with heap:=h'}) e c d (by decide) ⟨x,H,A,t,⟨rfl,λys r=>by rw[I.list_inj r U];exact T⟩,Y,λb Z=>(hf b Z).1⟩⟩
 done:=by intro X N hw R J i pins s σ H E I hf st S;subst N hw R;obtain⟨xs,U,T⟩:=S;obtain⟨its,O,p,G⟩:=I.list U;obtain⟨f0,f1,f2,Q,f4,L⟩:=hf it (by simp);have q:=O.length;exact wpAny_pyNext_list_end (I.ok.hd J) st p.isList (by simp;omega) λh' y=>⟨rfl,I.turned (t':=s.toks) (λb o Z e=>y b o Z e) f0 f1 Q f4 L⟩
 self:=λ_ _ _ _ _ st h=>wpAny_pyIter_listiter st h
theorem xy{P:er}{w:fc}{K:dV}{C:Expr}(a it:c_):Turn P w K C (LM K a) [it] it (λi h=>h.IsTupleIter it a i) where
 mem:=by simp
 obj:=λi h st b Z=>by
  have e:b=it:=by simpa using Z
  subst e;obtain⟨o,e,c,d⟩:=st;exact⟨o,e,λv z=>by rw[d]at z;cases z⟩
 keep:=λi h h' st k=>st.at λo e=>k it (by simp) o e
 item:=by intro X N hw R J i pins s σ H E I hf st S;subst N hw R;obtain⟨xs,x,U,T⟩:=S;obtain⟨its,O,p,G⟩:=I.tuple U;obtain⟨u,F,t⟩:=O.get T;obtain⟨f0,f1,f2,Q,f4,L⟩:=hf it (by simp);refine wpAny_pyNext_tuple_item st (show s.heap.IsTuple a its.toArray from p) (x:=u) (by simpa using F) λh' Y B=>?_;have A:Inv X pins σ H {s with heap:=h'}:=I.turned (t':=s.toks) (λb o Z e=>(B.2 b Z).trans e) f0 f1 Q f4 L;obtain⟨o,e,c,d⟩:=id Y;exact⟨u,rfl,Cg (s:={s with heap:=h'}) e c d (by decide) ⟨x,H,A,t,⟨rfl,λys r=>by rw[I.tuple_inj r U];exact T⟩,Y,λb Z=>(hf b Z).1⟩⟩
 done:=by intro X N hw R J i pins s σ H E I hf st S;subst N hw R;obtain⟨xs,U,T⟩:=S;obtain⟨its,O,p,G⟩:=I.tuple U;obtain⟨f0,f1,f2,Q,f4,L⟩:=hf it (by simp);have q:=O.length;exact wpAny_pyNext_tuple_end (I.ok.hd J) st (show s.heap.IsTuple a its.toArray from p) (by simp;omega) λh' y=>⟨rfl,I.turned (t':=s.toks) (λb o Z e=>y b o Z e) f0 f1 Q f4 L⟩
 self:=λ_ _ _ _ _ st h=>wpAny_pyIter_tupleiter st h
theorem xA{P:er}{w:fc}{K:dV}{G:Expr}(it:c_)(U:Int)(n:Nat):Turn P w K G (JQ U n) [it] it (λi h=>IsRangeIter h it (U+(i:Nat)*1) ((n:Int) - (i:Nat)) 1) where
 mem:=by simp
 obj:=λi h st b Z=>by
  have e:b=it:=by simpa using Z
  subst e;exact⟨_,st,λv z=>by have J:Data.fields _=Data.cell v:=z;cases J⟩
 keep:=λi h h' st k=>k it (by simp) _ st
 item:=by intro X Q hw S O i pins s σ H E I hf st T;subst Q hw S;obtain⟨f0,f1,f2,R,f4,N⟩:=hf it (by simp);have W:=Walks.range (prog:=X.prog) (w:=X.w) (I.ok.hd O) it U 1 n;refine W.item i s _ _ T st λv h' L F Y A=>?_;obtain⟨t,rfl⟩:=F;have C:Inv X pins σ H {s with heap:=h',toks:=L}:=I.turned (λb o Z e=>A b o (by simpa using Z) e) f0 f1 R f4 N;refine⟨_,rfl,Cg (s:={s with heap:=h',toks:=L}) (n:="range_iterator") Y rfl rfl (by decide) ⟨.int (U+i),H,C,⟨t,?_⟩,⟨rfl,rfl⟩,Y,λb Z=>(hf b Z).1⟩⟩;rw[Int.mul_one]
 done:=by intro X Q hw S O i pins s σ H E I hf st T;subst Q hw S;obtain⟨f0,f1,f2,R,f4,N⟩:=hf it (by simp);exact wpAny_pyNext_range_end (I.ok.hd O) st (by have:n<=i:=T;omega) λh' B=>⟨rfl,I.turned (t':=s.toks) (λb o Z e=>B b o Z e) f0 f1 R f4 N⟩
 self:=λ_ _ _ _ _ st h=>wpAny_pyIter_rangeiter st h
section
variable {X:Cx}{tg:Expr}
def JR(K:dV)(tl:TE):TI:=λσ H R=>tl σ H λx H1=>∃a,x= .ref a/\(∃xs,lA K H1 a xs)/\R (JP K a) H1
def LN(K:dV)(tl:TE):TI:=λσ H R=>tl σ H λx H1=>∃a,x= .ref a/\(∃xs,lQ K H1 a xs)/\R (LM K a) H1
theorem lB{l:Expr}{Z:TE}(Y:PE X l Z):PI X tg l (JR X.K Z):=by
 intro pins s σ H R I h;refine eJ (Y pins s σ H _ I h) λv s1 ⟨x,H1,I1,r1,q1⟩=>?_;obtain⟨a,e,⟨xs,W⟩,q⟩:=q1;subst e;cases r1;obtain⟨its,S,p,T⟩:=I1.list W;refine QB p.isList ?_;refine⟨s1.heap.objs.size,[s1.heap.objs.size],_,_,H1,rfl,I1.kept (t':=s1.toks) λb o e=>MU _ e,AI a _,⟨_,M6 _ rfl,rfl,rfl⟩,λb U=>?_,q⟩;have e:b=s1.heap.objs.size:=by simpa using U
 subst e;exact I1.fpOk (MV _) (I1.hok.fresh (MV _))
theorem Hs{l:Expr}{Z:TE}(Y:PE X l Z):PI X tg l (LN X.K Z):=by
 intro pins s σ H R I h;refine eJ (Y pins s σ H _ I h) λv s1 ⟨x,H1,I1,r1,q1⟩=>?_;obtain⟨a,e,⟨xs,W⟩,q⟩:=q1;subst e;cases r1;obtain⟨its,S,p,T⟩:=I1.tuple W;refine Pr (show s1.heap.IsTuple a its.toArray from p) ?_;refine⟨s1.heap.objs.size,[s1.heap.objs.size],_,_,H1,rfl,I1.kept (t':=s1.toks) λb o e=>MU _ e,xy a _,⟨_,M6 _ rfl,rfl,rfl⟩,λb U=>?_,q⟩;have e:b=s1.heap.objs.size:=by simpa using U
 subst e;exact I1.fpOk (MV _) (I1.hok.fresh (MV _))
theorem vQ{W:List (c_×Obj)}{S:St}{H:Hp}{s:dn}{R:It->Hp->Prop}{E:a_->dn->Prop}{Z Y:Int}{t u v:Tok}{T:Nat}(I:Inv X W S H s)(O: -(2 ^ 62)<=Z)(P:Z<2 ^ 62)(Q: -(2 ^ 62)<=Y)(N:Y<2 ^ 62)
  (q:R (JQ Z (Y - Z).toNat) H):ee (fg X.prog X.w) X.A (RT (.ref s.heap.objs.size)) (Mr X W S tg R) E {s with heap:=s.heap.push {cls:=.type "range",data:=.fields #[.int Z t,.int Y u,.int 1 v]},toks:=T}:=by
 refine wpAny_pyIter_range (IsRange.new ..) (small_one O P Q N) ?_;have U:Inv X W S H {s with heap:=s.heap.push {cls:=.type "range",data:=.fields #[.int Z t,.int Y u,.int 1 v]},toks:=T}:=I.kept λb o e=>MU _ e;refine⟨(s.heap.push {cls:=.type "range",data:=.fields #[.int Z t,.int Y u,.int 1 v]}).objs.size,[(s.heap.push {cls:=.type "range",data:=.fields #[.int Z t,.int Y u,.int 1 v]}).objs.size],_,_,H,rfl,
  U.kept (t':=T) λb o e=>MU _ e,xA _ Z (Y - Z).toNat,?_,λb L=>?_,q⟩
 ·have e1:Z+((0:Nat):Int)*1=Z:=by simp
  have e2:(((Y - Z).toNat:Nat):Int) - ((0:Nat):Int)=Builtin.Range.rangeSize Z Y 1:=by rw[rangeSize_one];split<;>omega
  show IsRangeIter _ _ (Z+((0:Nat):Int)*1) ((((Y - Z).toNat:Nat):Int) - ((0:Nat):Int)) 1;rw[e1,e2];exact M6 _ rfl
 ·have e:b=(s.heap.push {cls:=.type "range",data:=.fields #[.int Z t,.int Y u,.int 1 v]}).objs.size:=by simpa using L
  subst e;exact U.fpOk (MV _) (U.hok.fresh (MV _))
def JS(ta:TA):TI:=λσ H R=>ta σ H λvs H1=>∃j:Int,vs=[.int j]/\ -(2 ^ 62)<=j/\j<2 ^ 62/\R (JQ 0 j.toNat) H1
def JT(ta:TA):TI:=λσ H R=>ta σ H λvs H1=>∃i j:Int,vs=[.int i,.int j]/\(-(2 ^ 62)<=i/\i<2 ^ 62/\ -(2 ^ 62)<=j/\j<2 ^ 62)/\R (JQ i (j - i).toNat) H1
theorem AJ{a:Expr}{Y:TA}{p pos:Pos}(W:Gl X "range")(U:X.mg "range"=none)(S:PA X [a] Y)(hs:d_ [a] X.env=[(dt,hJ a X.env)]:=by rfl):PI X tg (.Call (.Name "range" p) [a] [] pos) (JS Y):=by
 intro pins s σ H R I h;refine Call_ (oK I W U boot_range (OA (eJ (S pos pins s σ H _ I h) λus s1 ⟨vs,H1,I1,r1,Z⟩=>?_) hs rfl));obtain⟨j,e,Z,T,q⟩:=Z;subst e;cases r1 with
 |cons r rr=>
  cases rr;obtain⟨t,rfl⟩:=r;exact call_range_1 (vQ I1 (by omega) (by omega) Z T (by simpa using q))
theorem AK(U:Gl X "range")(T:X.mg "range"=none)(Q:PA X [a,b] ta)(hs:d_ [a,b] X.env=[(dt,hJ a X.env),(dt,hJ b X.env)]:=by rfl)(Z:d_ [b] X.env=[(dt,hJ b X.env)]:=by rfl):
  PI X tg (.Call (.Name "range" p) [a,b] [] pos) (JT ta):=by
 intro pins s σ H R I h;refine Call_ (oK I U T boot_range (OA (eJ (Q pos pins s σ H _ I h) λus s1 ⟨vs,H1,I1,r1,Y⟩=>?_) (by rw[hs,Z]) (by rw[Z];rfl)));obtain⟨i,j,e,⟨Y,S,P,W⟩,q⟩:=Y;subst e;cases r1 with
 | cons r rr=>
  cases rr with
  |cons r' rr=>
   cases rr;obtain⟨t,rfl⟩:=r;obtain⟨t',rfl⟩:=r';exact call_range_2 (vQ I1 Y S P W q)
def LP(wi:TI)(g:TG)(tb:TS):TS:=λD σ H=>wi σ H λJ H1=>∃W:Nat->Nat->St->Hp->Prop,(∃m,W 0 m σ H1)/\∀i m σ H,W i m σ H->
 (J.stop i H/\D.nx σ H)\/(J.go i H/\∃N:St->Hp->Prop,(∀ σ' H',N σ' H'->∃m',m'<m/\W (i+1) m' σ' H')/\∀x H',J.yld i H x H'->g x σ H' λσ2 H2=>tb {D with nx:=N,ct:=N,bk:=D.nx} σ2 H2)
def qw(fp:List c_)(h:gd):List (c_×Obj):=fp.filterMap λb=>(h.get? b).map λo=>(b,o)
theorem jO{h:gd}(Z:b∈fp)(e:h.get? b=ar o):(b,o)∈qw fp h:=Oq.mpr ⟨b,Z,by rw[e];rfl⟩
theorem AL(Y:p∈qw fp h):p.1∈fp/\h.get? p.1=ar p.2:=by
 obtain⟨b,W,e⟩:=Oq.mp Y;cases q:h.get? b with
 |none=>rw[q]at e;cases e
 |some o=>
  rw[q]at e;have Z:(b,o)=p:=Nw e;subst Z;exact⟨W,q⟩
theorem Inv.pinned(I:Inv X pins σ H s)(U:∀b∈fp,mw X pins H b)(T:∀b∈fp,∃o,s.heap.get? b=ar o/\∀v,o.data≠ .cell v):Inv X (pins++qw fp s.heap) σ H s:=
 I.pins_of λp W=>(NA.mp W).elim (λz=>I.pin p (Nj _ z)) λz=>by obtain⟨Y,e⟩:=AL z;obtain⟨f0,f1,f2,_⟩:=U p.1 Y;obtain⟨o,Z,d⟩:=T p.1 Y;rw[e]at Z;cases Z;exact⟨e,f0,f1,f2,d⟩
theorem Inv.unpinned(I:Inv X (pins++pl) σ H s):Inv X pins σ H s:=I.pins_of λp Z=>I.pin p (Nj _ (Ob _ Z))
theorem Ht{Y:Expr}{body:List oo}{B:TI}{g:TG}{tb:TS}{pos:Pos}(O:Ri (fg X.prog X.w) X.A X.env X.xe)(C:X.calm=b_)(l:PI X tg Y B)(q:PG X tg g)(S:sr X body tb)
  (hs:∀x,k6 Y X.env x=aC x:=by intro _;rfl):PS X (.For tg Y body [] pos) (LP B g tb):=by
 intro pins s σ H D I h;refine wpAny_For (eJ (l pins s σ H _ I h) λv s1 j=>eJ j λa0 s2 p=>?_) hs;obtain⟨it,L,E,J,z,e,I2,T,G,f2,W,⟨m0,k⟩,turn⟩:=p;subst e;have U:∀{H':Hp},(∀b∈L,H' b=none)->∀b∈L,mw X pins H' b:=λt b S=>⟨t b S,(f2 b S).2⟩;refine codeAny_forLoop_any (λn s'=>∃i σ' H',Inv X pins σ' H' s'/\E i s'.heap/\(∀b∈L,H' b=none)/\W i n σ' H') ?_ m0 ⟨0,σ,z,I2,G,λb S=>(f2 b S).1,k⟩;rintro n s3 ⟨i,σ3,H3,I3,st3,fr3,w3⟩;rcases turn i n σ3 H3 w3 with⟨stop,qn⟩|⟨go,N,hN,step⟩
 ·refine OM O (eJ (T.done X rfl rfl rfl C i pins s3 σ3 H3 X.xe I3 (U fr3) st3 stop) λr s4 ⟨hr,I4⟩=>?_);subst hr;exact O1 ⟨σ3,H3,I4,qn⟩
 ·refine OM O (eJ (T.item X rfl rfl rfl C i pins s3 σ3 H3 X.xe I3 (U fr3) st3 go) λr s4 ⟨u,hr,h4⟩=>?_);subst hr;refine OM O (eJ h4 λ_ s5 ⟨x,H5,I5,r5,y5,st5,fr5⟩=>?_);have F:=I5.pinned (U fr5) (T.obj _ _ st5);refine OM O (eJ (q _ s5 σ3 H5 x u _ F r5 (step x H5 y5)) λ_ s6 ⟨σ6,H6,I6,q6⟩=>?_);refine OM O (eJ (S _ s6 σ6 H6 _ I6 q6) λf K P=>?_);have RU:∀{Z:St} {Q:Hp},Inv X (pins++qw L s5.heap) Z Q K->N Z Q->∃m,m<n/\∃i σ' H',Inv X pins σ' H' K/\E i K.heap/\(∀b∈L,H' b=none)/\W i m σ' H':=λ{Z Q} R n7=>by
   obtain⟨c,hm,y⟩:=hN Z Q n7;refine⟨c,hm,i+1,Z,Q,R.unpinned,T.keep _ _ _ st5 λb S o e=>(R.pin (b,o) (Nj _ (Nj _ (jO S e)))).1,λb S=>?_,y⟩;obtain⟨o,e,d⟩:=T.obj _ _ st5 b S;exact(R.pin (b,o) (Nj _ (Nj _ (jO S e)))).2.1
  cases f with
  |next=>obtain⟨Z,Q,R,n7⟩:=P;exact RU R n7
  |cont=>obtain⟨Z,Q,R,n7⟩:=P;exact RU R n7
  |brk=>obtain⟨Z,Q,R,P⟩:=P;exact⟨Z,Q,R.unpinned,P⟩
  |ret v=>obtain⟨x7,Z,Q,R,a,P⟩:=P;exact⟨x7,Z,Q,R.unpinned,a,P⟩
end
abbrev R2:=V->V->Hp->VK->Prop
def jA(X:Cx)(f:a_->a_->Sem a_)(r:R2):Prop:=
 ∀(pins:List (c_×Obj)) (s:dn) (σ:St) (H:Hp) (x y:V) (v u:a_) (Q:VK),Inv X pins σ H s->RelV x v->RelV y u->r x y H Q->
  ee (fg X.prog X.w) X.A (f v u) (EP X pins σ Q) X.xe s
def LQ(X:Cx)(f:a_->Sem a_)(r:V->Hp->VK->Prop):Prop:=
 ∀(pins:List (c_×Obj)) (s:dn) (σ:St) (H:Hp) (x:V) (v:a_) (Q:VK),Inv X pins σ H s->RelV x v->r x H Q->
  ee (fg X.prog X.w) X.A (f v) (EP X pins σ Q) X.xe s
def dN(X:Cx)(f:a_)(r:List V->Hp->VK->Prop):Prop:=
 ∀(pins:List (c_×Obj)) (s:dn) (σ:St) (H:Hp) (xs:List V) (us:List a_) (Q:VK),Inv X pins σ H s->bu xs us->r xs H Q->
  ee (fg X.prog X.w) X.A (call f us) (EP X pins σ Q) X.xe s
def Js(r:R2)(ta tb:TE):TE:=λσ H Q=>ta σ H λx H1=>tb σ H1 λy H2=>r x y H2 Q
def MD(r:V->Hp->VK->Prop)(ta:TE):TE:=λσ H Q=>ta σ H λx H1=>r x H1 Q
def rI(C:Int->Int->Prop)(g:Int->Int->V):R2:=λx y H Q=>∃i j,x= .int i/\y= .int j/\C i j/\Q (g i j) H
def EJ(g:Int->Int->V):R2:=λx y H Q=>∃i j,x= .int i/\y= .int j/\Q (g i j) H
def rU(g:Int->V):V->Hp->VK->Prop:=λx H Q=>∃i,x= .int i/\Q (g i) H
section
variable {X:Cx}{a b c:Expr}{ta tb tc:TE}{pos:Pos}
theorem Hu(S:PE X a ta)(P:PE X b tb){R:V->V->Hp->Prop}(I:Inv X pins σ H s)
  (h:ta σ H λx U=>tb σ U λy Z=>R x y Z) {f:a_->a_->Sem a_}
  (T:∀v u s2 x y Z,Inv X pins σ Z s2->RelV x v->RelV y u->R x y Z->ee (fg X.prog X.w) X.A (f v u) Q X.xe s2):
  ee (fg X.prog X.w) X.A (hJ a X.env) (λv W=>ee (fg X.prog X.w) X.A (hJ b X.env) (λu Y=>ee (fg X.prog X.w) X.A (f v u) Q X.xe Y) X.xe W) X.xe s:=by
 refine eJ (S pins s σ H _ I h) λv s1 ⟨x,U,I1,r1,q1⟩=>?_;refine eJ (P pins s1 σ U _ I1 q1) λu s2 ⟨y,Z,I2,r2,q2⟩=>?_;exact T v u s2 x y Z I2 r1 r2 q2
theorem JU(Y:jA X (rA op) r)(W:PE X a ta)(R:PE X b tb):PE X (.BinOp a op b pos) (Js r ta tb):=by intro pins s σ H Q I h;exact wpAny_BinOp (Hu W R I h λv u s2 x y Z S T U q=>Y pins s2 σ Z x y v u Q S T U q)
theorem JV(Z:LQ X (unaryOp op) r)(Y:PE X a ta):PE X (.UnaryOp op a pos) (MD r ta):=by intro pins s σ H Q I h;exact UnaryOp_ (eJ (Y pins s σ H _ I h) λv s1 ⟨x,H1,I1,r1,q1⟩=>Z pins s1 σ H1 x v Q I1 r1 q1)
theorem La{f:a_->a_->Sem a_}{C:Int->Int->Prop}{g:Int->Int->Int}
  (Z:∀(i j:Int) (t u:Tok) (s:dn) (Q:a_->dn->Prop) (E:a_->dn->Prop),C i j->Q (.int (g i j) s.toks) {s with toks:=s.toks+1}->ee (fg X.prog X.w) X.A (f (.int i t) (.int j u)) Q E s):
  jA X f (rI C λi j=>.int (g i j)):=by
 intro pins s σ H x y v u Q I W Y h;obtain⟨i,j,rfl,rfl,U,q⟩:=h;obtain⟨t,rfl⟩:=W;obtain⟨t',rfl⟩:=Y;exact Z i j t t' s _ _ U ⟨.int (g i j),H,I.tok _,⟨_,rfl⟩,q⟩
theorem JW{f:a_->a_->Sem a_}{g:Int->Int->Int}
  (Z:∀(i j:Int) (t u:Tok) (s:dn) (Q:a_->dn->Prop) (E:a_->dn->Prop),Q (.int (g i j) s.toks) {s with toks:=s.toks+1}->ee (fg X.prog X.w) X.A (f (.int i t) (.int j u)) Q E s):
  jA X f (EJ λi j=>.int (g i j)):=by
 intro pins s σ H x y v u Q I W Y h;obtain⟨i,j,rfl,rfl,q⟩:=h;obtain⟨t,rfl⟩:=W;obtain⟨t',rfl⟩:=Y;exact Z i j t t' s _ _ ⟨.int (g i j),H,I.tok _,⟨_,rfl⟩,q⟩
theorem EV{f:a_->a_->Sem a_}{g:Int->Int->Bool}
  (Z:∀(i j:Int) (t u:Tok) (s:dn) (Q:a_->dn->Prop) (E:a_->dn->Prop),Q (.bool (g i j)) s->ee (fg X.prog X.w) X.A (f (.int i t) (.int j u)) Q E s):
  jA X f (EJ λi j=>.bl (g i j)):=by
 intro pins s σ H x y v u Q I W Y h;obtain⟨i,j,rfl,rfl,q⟩:=h;obtain⟨t,rfl⟩:=W;obtain⟨t',rfl⟩:=Y;exact Z i j t t' s _ _ ⟨.bl (g i j),H,I,rfl,q⟩
def AM(i j:Int):Prop:=0<j/\j<1073741824
def Ci(i j:Int):Prop:=0<=j/\j<=1000000/\i.natAbs<2 ^ 64
def xB(i j:Int):Prop:=(-(2 ^ 64)<i/\i<2 ^ 64)\/(-(2 ^ 64)<j/\j<2 ^ 64)
theorem xB.ok{i j:Int}(h:xB i j):IntMulOk i j:=by
 rcases h with⟨h1,h2⟩|⟨h1,h2⟩
 ·exact .of_left (intBits_le_64 h1 h2)
 ·exact .of_right (intBits_le_64 h1 h2)
theorem Hv:jA X (rA .Add) (EJ λi j=>.int (i+j)):=JW λ_ _ _ _ _ _ _ q=>add_int q
theorem Hw:jA X (rA .Sub) (EJ λi j=>.int (i - j)):=JW λ_ _ _ _ _ _ _ q=>sub_int q
theorem Hx:jA X (rA .Mult) (rI xB λi j=>.int (i*j)):=La λ_ _ _ _ _ _ _ Z q=>mul_int q Z.ok
theorem EX:jA X (rA .FloorDiv) (rI AM λi j=>.int (i / j)):=La λi j _ _ _ _ _ Z q=>by have Y:(0:Int)<j:=Z.1;have W:j<1073741824:=Z.2;exact floordiv_int (by omega) (by rw[Int.fdiv_eq_ediv_of_nonneg i (by omega)];exact q) (.inl (PyProof.noPylong_small (by omega)))
theorem Hy:jA X (rA .Mod) (rI (λ_ j=>0<j) λi j=>.int (i % j)):=La λi j _ _ _ _ _ Z q=>by have Y:(0:Int)<j:=Z;exact mod_int' (by omega) (by rw[Int.fmod_eq_emod_of_nonneg i (by omega)];exact q)
theorem Hz:jA X (rA .Pow) (rI Ci λi j=>.int (i ^ j.toNat)):=La λ_ _ _ _ _ _ _ Z q=>pow_int_small Z.1 Z.2.1 Z.2.2 q
theorem ME{f:a_->Sem a_}{g:Int->Int}
  (Z:∀(i:Int) (t:Tok) (s:dn) (Q:a_->dn->Prop) (E:a_->dn->Prop),Q (.int (g i) s.toks) {s with toks:=s.toks+1}->ee (fg X.prog X.w) X.A (f (.int i t)) Q E s):
  LQ X f (rU λi=>.int (g i)):=by
 intro pins s σ H x v Q I Y h;obtain⟨i,rfl,q⟩:=h;obtain⟨t,rfl⟩:=Y;exact Z i t s _ _ ⟨.int (g i),H,I.tok _,⟨_,rfl⟩,q⟩
theorem HA:LQ X (unaryOp .USub) (rU λi=>.int (-i)):=ME λ_ _ _ _ _ q=>neg_int q
theorem Cj:jA X (i_ .Lt) (EJ λi j=>.bl (decide (i<j))):=EV λ_ _ _ _ _ _ _ q=>lt_int q
theorem Ck:jA X (i_ .LtE) (EJ λi j=>.bl (decide (i<=j))):=EV λ_ _ _ _ _ _ _ q=>le_int q
theorem JX:jA X (i_ .Gt) (EJ λi j=>.bl (decide (j<i))):=EV λ_ _ _ _ _ _ _ q=>gt_int q
theorem JY:jA X (i_ .GtE) (EJ λi j=>.bl (decide (j<=i))):=EV λ_ _ _ _ _ _ _ q=>ge_int q
theorem jA.or{r W:R2}(h:jA X f r)(h':jA X f W):jA X f (λx y H Q=>r x y H Q\/W x y H Q):=by
 intro pins s σ H x y v u Q I Y Z q;rcases q with q|q
 ·exact h pins s σ H x y v u Q I Y Z q
 ·exact h' pins s σ H x y v u Q I Y Z q
theorem LR(b:Expr)(h:op≠ .In:=by decide)(Z:op≠ .NotIn:=by decide):k7 op b=false:=by
 have e1:(op==CmpOp.In)=false:=by cases op<;>first|rfl|exact absurd rfl h
 have e2:(op==CmpOp.NotIn)=false:=by cases op<;>first|rfl|exact absurd rfl Z
 cases b<;>simp[k7,e1,e2]
theorem yN(W:jA X (i_ op) r)(U:PE X a ta)(P:PE X b tb)(Y:k7 op b=dt):PE X (.Compare a [op] [b] pos) (Js r ta tb):=by intro pins s σ H Q I h;exact wpAny_Compare1 (Hu U P I h λv u s2 x y Z R S T q=>W pins s2 σ Z x y v u Q R S T q) Y
def GC(t:TE):TT:=λσ H Q=>t σ H λx H'=>∃k,x= .bl k/\Q k H'
theorem EY(Y:jA X (i_ op) r)(W:PE X a ta)(U:PE X b tb)(Z:k7 op b=dt):PT X (.Compare a [op] [b] pos) (GC (Js r ta tb)):=by
 intro pins s σ H Q I h;refine wpAny_isTrue_Compare1 (eJ (W pins s σ H _ I h) λv s1 ⟨x,H1,I1,r1,q1⟩=>eJ (U pins s1 σ H1 _ I1 q1) λu s2 ⟨y,H2,I2,r2,q2⟩=>
  eJ (Y pins s2 σ H2 x y v u _ I2 r1 r2 q2) λc s3 ⟨z,H3,I3,r3,k,e,q3⟩=>?_) Z
 subst e;cases r3;exact Og ⟨H3,I3,q3⟩
def xC(r r':R2)(ta tb tc:TE):TE:=λσ H Q=>ta σ H λx H1=>tb σ H1 λy H2=>r x y H2 λz H3=>∃k,z= .bl k/\
 (if k=b_ then tc σ H3 λw' H4=>r' y w' H4 Q else Q (.bl dt) H3)
theorem Cm(U:jA X (i_ op) r)(Z:jA X (i_ op') r')(T:PE X a ta)(S:PE X b tb)(Y:PE X c tc)
  (W:RE [op,op'] [b,c]=false:=by with_unfolding_all rfl):PE X (.Compare a [op,op'] [b,c] pos) (xC r r' ta tb tc):=by
 intro pins s σ H Q I h;refine Compare_chain (eJ (T pins s σ H _ I h) λv s1 ⟨x,H1,I1,r1,q1⟩=>chain_link (eJ (S pins s1 σ H1 _ I1 q1) λu s2 ⟨y,H2,I2,r2,q2⟩=>
  eJ (U pins s2 σ H2 x y v u _ I2 r1 r2 q2) λd s3 ⟨z,H3,I3,r3,k,e,q3⟩=>?_)) W
 subst e;cases r3;refine Og ?_;cases k with
 |false=>exact ite_ff ⟨.bl dt,H3,I3,rfl,q3⟩
 |true=>exact ite_tt (chain_last (eJ (Y pins s3 σ H3 _ I3 q3) λw' s4 ⟨z',H4,I4,r4,q4⟩=>Z pins s4 σ H4 y z' u w' Q I4 r2 r4 q4))
theorem Cn(T:jA X (i_ op) r)(Z:jA X (i_ op') r')(R:PE X a ta)(P:PE X b tb)(Y:PE X c tc)
  (U:RE [op,op'] [b,c]=false:=by with_unfolding_all rfl):PT X (.Compare a [op,op'] [b,c] pos) (GC (xC r r' ta tb tc)):=by
 intro pins s σ H Q I h;refine isTrue_chain (eJ (R pins s σ H _ I h) λv s1 ⟨x,H1,I1,r1,q1⟩=>test_link (eJ (P pins s1 σ H1 _ I1 q1) λu s2 ⟨y,H2,I2,r2,q2⟩=>
  eJ (T pins s2 σ H2 x y v u _ I2 r1 r2 q2) λd s3 ⟨z,H3,I3,r3,k,e,q3⟩=>?_)) U
 subst e;cases r3;refine Og ?_;cases k with
 |false=>
  obtain⟨O,S,W⟩:=q3;cases S;exact ite_ff ⟨H3,I3,W⟩
 |true=>
  refine ite_tt (test_last (eJ (Y pins s3 σ H3 _ I3 q3) λw' s4 ⟨z',H4,I4,r4,q4⟩=>eJ (Z pins s4 σ H4 y z' u w' _ I4 r2 r4 q4) λd' s5 ⟨z2,H5,I5,r5,k2,e2,q5⟩=>?_));subst e2;cases r5;exact Og ⟨H5,I5,q5⟩
theorem qx:(sizeLine:Nat)<2 ^ 63:=by rw[N5];decide
theorem vals1(r:bu [x] us):∃u,us=[u]/\RelV x u:=by
 cases r with
 |cons r1 r2=>cases r2;exact⟨_,rfl,r1⟩
theorem vals2(r:bu [x,y] us):∃u w',us=[u,w']/\RelV x u/\RelV y w':=by
 cases r with
 |cons r1 r2=>
  cases r2 with
  |cons r3 r4=>cases r4;exact⟨_,_,rfl,r1,r3⟩
theorem AN(Z:X.calm=b_):dN X (.builtin "max") (λxs H Q=>∃i j,xs=[.int i,.int j]/\Q (.int (if j>i then j else i)) H):=by
 intro pins s σ H xs us Q I r h;obtain⟨i,j,rfl,q⟩:=h;obtain⟨u,W,rfl,⟨t,rfl⟩,⟨t',rfl⟩⟩:=vals2 r;refine max_two_ints (I.ok.hd Z) λh' Y k=>⟨_,H,I.kept k,?_,q⟩;by_cases hj:j>i
 ·rw[if_pos hj,if_pos hj];exact⟨_,rfl⟩
 ·rw[if_neg hj,if_neg hj];exact⟨_,rfl⟩
theorem AO(Z:X.calm=b_):dN X (.builtin "min") (λxs H Q=>∃i j,xs=[.int i,.int j]/\Q (.int (if j<i then j else i)) H):=by
 intro pins s σ H xs us Q I r h;obtain⟨i,j,rfl,q⟩:=h;obtain⟨u,W,rfl,⟨t,rfl⟩,⟨t',rfl⟩⟩:=vals2 r;refine min_two_ints (I.ok.hd Z) λh' Y k=>⟨_,H,I.kept k,?_,q⟩;by_cases hj:j<i
 ·rw[if_pos hj,if_pos hj];exact⟨_,rfl⟩
 ·rw[if_neg hj,if_neg hj];exact⟨_,rfl⟩
end
structure ObjM(h:gd)(x dx C:c_)(mA:Str->Option a_):Prop where
 obj:h.get? x=ar (Sa C dx)
 ns:h.Ns1 dx mA
 ne:dx≠x
theorem AQ{h:gd}{Y:Str->Option a_}(n:h.Ns1 dx Y):∃od,h.get? dx=ar od/\∀name,Rw name od=ar (Y name):=by
 obtain⟨o,es,ep,U,hd,X,_,hm⟩:=n;refine⟨o,U,λname=>?_⟩;have e:=hm name;unfold nsFind findBy at e;rw[<-Array.find?_toList]at e;unfold Rw;rw[hd];dsimp only;split
 ·rename_i y q
  rw[q]at e;exact Pf ar e
 ·rename_i q
  rw[q]at e;have a:es.toList.any (·.refKey)=false:=by rw[List.any_eq_false];intro y T;obtain⟨z,t,Z⟩:=X y (P8.mp T);simp[DictEntry.refKey,Z]
  have S:¬ es.toList.any (·.refKey)=true:=by rw[a];exact N6
  rw[if_neg S];exact Pf ar e
theorem ObjM.look{Z:Str->Option a_}(I:ObjM h x dx C Z):∃od,z6 h x (Sa C dx) C (ar od)/\∀name,Rw name od=ar (Z name):=
 let ⟨od,ho,hl⟩:=AQ I.ns
 ⟨od,⟨I.obj,rfl,rfl,ho⟩,hl⟩
section
variable {prog:er}{w:fc}{A:hS}{E:a_->dn->Prop}{s:dn}{K:dV}{x dx C f:c_}{mA:Str->Option a_}{name:Str}{v:a_}
end
theorem vO.some_of(r:vO (ar v) o):∃u,o=ar u/\RelV v u:=by
 cases o with
 |none=>exact(show False from r).elim
 |some u=>exact⟨u,rfl,r⟩
theorem AR(r:RelV v u):W.handedIn u=true:=by
 cases v with
 |non=>cases (show u=hO from r);rfl
 |bl b=>cases (show u=u0 b from r);rfl
 |int i=>obtain⟨t,e⟩:=(show ∃t,u=oi i t from r);cases e;rfl
 |str x=>obtain⟨t,e⟩:=(show ∃t,u=I_ x t from r);cases e;rfl
 |byt b=>obtain⟨t,e⟩:=(show ∃t,u=Value.bytes b t from r);cases e;rfl
 |flt b=>obtain⟨t,e⟩:=(show ∃t,u=P_ b t from r);cases e;rfl
 |ref a=>cases (show u=eo a from r);rfl
 |ty n=>cases (show u=v_ n from r);rfl
section
variable {P:er}{w:fc}{H H':Hp}{h h':gd}{a C dx:c_}{fs fs':List (Str×V)}
theorem fB(Y:ij P w H h)(e:H a=ar (.ins C dx fs)):∃Z,ObjM h a dx C Z/\(∀f,vO (fs.lookup f) (Z f))/\PySem.Within Z (fs.map (·.1))/\fs.length<=1000/\H dx=ar (.own a):=by obtain⟨d,z,ne,X,Z,n,r,q⟩:=(show bG P w H h a (.ins C dx fs)from Y a _ e);exact⟨Z,⟨X,n,ne⟩,r,q,z,d⟩
end
structure Cls(K:dV)(C:c_):Prop where
 pg:W.plainGet K C Str.empty=b_
 hd:W.hasDictIn K C=b_
 po:W.plainOver K C=b_
 sa:J_ K (.ref C) "__setattr__"=ar (ar (.builtin "object.__setattr__"))
theorem Cls.get{K:dV}{C:c_}(c:Cls K C)(f:Str):W.plainGet K C f=true:=c.pg
structure Con(K:dV)(C:c_)(f:Str)(v:V)(u:a_):Prop where
 at_:J_ K (.ref C) f=ar (ar u)
 rel:RelV v u
 get:W.specialIn K u "__get__"=ar none
 cp:W.copiedNames.contains f=dt
structure Meth(K:dV)(C:c_)(m:Str)(f:c_):Prop where
 at_:J_ K (.ref C) m=ar (ar (.ref f))
 fn:W.isFn K (.ref f)=b_
 kp:xg K (.ref f)=b_
section
variable {X:Cx}{pins:List (c_×Obj)}{σ:St}{H:Hp}{s:dn}{a C dx:c_}{fs:List (Str×V)}{f:Str}{v:V}{A:hS}{E:a_->dn->Prop}
theorem EZ(Y:lx e f env (hJ e env)=hJ e env)
  (h:ee (fg prog w) A (hJ e env) (λo Z=>ee (fg prog w) A (SW o f b_) Q E Z) E s):ee (fg prog w) A (hJ (.Attribute e f pos) env) Q E s:=
 Attribute_any_ h (by rw[arm_eval_Attribute,Y])
end
section
variable {X:Cx}{o e value:Expr}{f:Str}{pos pos' tpos:Pos}{ta tv:TE}
end
section
variable {X:Cx}{pins:List (c_×Obj)}{σ:St}{H:Hp}{s:dn}{A:hS}{E:a_->dn->Prop}{Q:a_->dn->Prop}{c:a_}{b:Bool}
inductive TyOf(K:dV)(H:Hp):V->a_->Prop where
 |non:TyOf K H .non (.type "NoneType")
 |bl (x:Bool):TyOf K H (.bl x) (.type "bool")
 |int (i:Int):TyOf K H (.int i) (.type "int")
 |str (x:Str):TyOf K H (.str x) (.type "str")
 |flt (x:UInt64):TyOf K H (.flt x) (.type "float")
 |lst {a:c_} {xs:List V} (e:H a=ar (.lst xs)):TyOf K H (.ref a) (.type "list")
 |frz {a:c_} {o:Obj} {xs:List V} (e:H a=ar (.frz o (.lst xs))):TyOf K H (.ref a) (.type "list")
 |tup {a:c_} {xs:List V} (e:H a=ar (.tup xs)):TyOf K H (.ref a) (.type "tuple")
 |dK {a:c_} {kvs:List (Key×V)} (e:H a=ar (.dK kvs)):TyOf K H (.ref a) (.type "dict")
 |dT {a:c_} {kvs:List (List Key×V)} (e:H a=ar (.dT kvs)):TyOf K H (.ref a) (.type "dict")
 | ins {a C dx:c_} {fs:List (Str×V)} (e:H a=ar (.ins C dx fs)) (cl:Cls K C) (ha:J_ K (.ref C) "__class__"=ar (ar (.builtin "object.__class__")))
   (hn:W.specialIn K (.builtin "object.__class__") "__get__"=ar (ar (.builtin "getset_descriptor.__get__"))) (htk:W.takesIn K (.builtin "object.__class__")=ar b_)
   (hm:W.mroIn K C (.type "object")=ar b_):TyOf K H (.ref a) (.ref C)
theorem AS(I:Inv X pins σ H s)(Z:RelV x u)(T:TyOf X.K H x t)(e:ra X.K t c=ar b)(h:∀tk,Q (.bool b) {s with toks:=tk}):
  ee (fg X.prog X.w) A (call (.builtin "isinstance") [u,c]) Q E s:=by
 cases T with
 |non=>cases (show u=hO from Z);exact NW QC I.kIn pa e (λz=>nomatch z) h
 |bl y=>cases (show u=u0 y from Z);exact NW W.kitx_bool I.kIn pa e (λz=>nomatch z) h
 |int i=>obtain⟨t,q⟩:=(show ∃t,u=oi i t from Z);cases q;exact NW W.kitx_int I.kIn pa e (λz=>nomatch z) h
 |str y=>obtain⟨t,q⟩:=(show ∃t,u=I_ y t from Z);cases q;exact NW W.kitx_str I.kIn pa e (λz=>nomatch z) h
 |flt y=>obtain⟨t,q⟩:=(show ∃t,u=P_ y t from Z);cases q;exact NW W.kitx_float I.kIn pa e (λz=>nomatch z) h
 | @lst a xs ea=>
  cases (show u=eo a from Z);obtain⟨_,_,n,_,Y⟩:=(show bG X.prog X.w H s.heap a (.lst xs)from I.hok a _ ea);exact NW PL I.kIn ⟨_,Y,rfl⟩ e (λz=>nomatch z) h
 | @frz a ob xs ea=>
  cases (show u=eo a from Z);obtain⟨_,_,_,n,_,Y⟩:=(show bG X.prog X.w H s.heap a (.frz ob (.lst xs))from I.hok a _ ea);exact NW PL I.kIn ⟨_,Y,rfl⟩ e (λz=>nomatch z) h
 | @tup a xs ea=>
  cases (show u=eo a from Z);obtain⟨_,_,_,p⟩:=(show bG X.prog X.w H s.heap a (.tup xs)from I.hok a _ ea);obtain⟨o,Y,U,_⟩:=p;exact NW W.kitx_tuple I.kIn ⟨o,Y,U⟩ e (λz=>nomatch z) h
 | @dK a kvs ea=>
  cases (show u=eo a from Z);obtain⟨_,_,vs,_,p⟩:=(show bG X.prog X.w H s.heap a (.dK kvs)from I.hok a _ ea);obtain⟨o,es,ep,Y,U,_⟩:=p;exact NW PM I.kIn ⟨o,Y,U.1⟩ e (λz=>nomatch z) h
 | @dT a kvs ea=>
  cases (show u=eo a from Z);obtain⟨_,_,xs,_,o,es,ep,Y,U,_⟩:=(show bG X.prog X.w H s.heap a (.dT kvs)from I.hok a _ ea);exact NW PM I.kIn ⟨o,Y,U.1⟩ e (λz=>nomatch z) h
 | @ins a C dx fs ea cl ha hn htk hm=>
  cases (show u=eo a from Z);obtain⟨S,O,_⟩:=fB I.hok ea;obtain⟨od,J,_⟩:=O.look;exact NW (W.kitx_own (cl.get _) cl.hd ha hn htk hm) I.kIn J e (λz=>nomatch z) h
end
structure Room(k:Nat)(A:hS):Prop where
 hd:A.handled=none
 dp:A.depth+3*k+5<recursionLimit
 un:A.units+16*k+200<u3
theorem Room.mono(r:Room k A)(h:j<=k):Room j A:=⟨r.hd,by have:=r.dp;omega,by have:=r.un;omega⟩
theorem Room.deeper(r:Room (k+1) A)(env:Env):Room k (A.deeper env):=
 ⟨r.hd,by have:=r.dp;show A.depth+1+3*k+5<_;omega,by have:=r.un;show A.units+3+16*k+200<_;omega⟩
theorem Room.depth(r:Room k A):A.depth<recursionLimit:=by have:=r.dp;omega
def E3:TA:=λ_ H Q=>Q [] H
def yO(ta:TE)(tr:TA):TA:=λσ H Q=>ta σ H λx H1=>tr σ H1 λxs H2=>Q (x::xs) H2
section
variable {X:Cx}{e:Expr}{es:List Expr}{te:TE}{t:TA}{pos:Pos}
theorem kz:PA X [] E3:=λ_ _ _ _ H Q I h=>QD ⟨[],H,I,.nil,h⟩
theorem fC(Y:PE X e te)(Z:PA X es t)(hs:d_ (e::es) X.env=(dt,hJ e X.env)::d_ es X.env:=by rfl):PA X (e::es) (yO te t):=by intro pos pins s σ H Q I h;rw[hs];show ee _ _ (spliced ((dt,hJ e X.env)::r_ pos (d_ es X.env))) _ _ s;refine Calls.spliced_cons (eJ (Y pins s σ H _ I h) λu s1 ⟨x,H1,I1,r1,q1⟩=>?_);exact eJ (Z pos pins s1 σ H1 _ I1 q1) λus s2 ⟨xs,H2,I2,r2,q2⟩=>⟨x::xs,H2,I2,.cons r1 r2,q2⟩
def LS(t:TA):TE:=λσ H Q=>t σ H λxs H1=>xs.length<=sizeLine/\∀p,H1 p=none->Q (.ref p) (upd H1 p (.tup xs))
def LU(t:TA):TE:=λσ H Q=>t σ H λxs H1=>xs.length<=sizeLine/\∀p,H1 p=none->Q (.ref p) (upd H1 p (.lst xs))
theorem Co{x1}(h:PA X es t):PE X (.Tuple es x1 pos) (LS t):=by intro pins s σ H Q I Z;refine wpAny_Tuple_spliced (eJ (h pos pins s σ H _ I Z) λus s1 ⟨xs,H1,I1,r,z,q⟩=>⟨by rw[<-r.length];exact z,?_⟩);have hf:H1 s1.heap.objs.size=none:=I1.hok.fresh (MV _);refine⟨.ref s1.heap.objs.size,upd H1 s1.heap.objs.size (.tup xs),I1.laid (t':=s1.toks) (λb u e=>MU _ e) (MV _) ?_,rfl,q _ hf⟩;exact⟨t6 z,us,r,⟨_,M6 _ rfl,rfl,_,rfl⟩⟩
theorem HB(h:PA X es t):PE X (.List es pos) (LU t):=by intro pins s σ H Q I Z;refine wpAny_List_spliced (eJ (h pos pins s σ H _ I Z) λus s1 ⟨xs,H1,I1,r,z,q⟩=>⟨by rw[<-r.length];exact z,?_⟩);have hf:H1 s1.heap.objs.size=none:=I1.hok.fresh (MV _);refine⟨.ref s1.heap.objs.size,upd H1 s1.heap.objs.size (.lst xs),I1.laid (t':=s1.toks) (λb u e=>MU _ e) (MV _) ?_,rfl,q _ hf⟩;exact⟨z,us,0,r,M6 _ rfl⟩
end
abbrev Sp:=List V->Hp->VK->XK->Prop
abbrev B0:=List Env->Hp->dn->XK->a_->dn->Prop
structure aI(P:er)(w:fc)(K:dV)(mg:Str->Option a_)(base:gd)(A:hS)(outer:List Env)(s:dn)(H:Hp):Prop where
 frames:A.frames=ar outer
 mod:Mod K mg base
 bs:∀b o,base.get? b=ar o->s.heap.get? b=ar o/\H b=none
 bsz:base.objs.size<=s.heap.objs.size
 funs:s.heap.FunFrames base outer
 frf:∀b∈kl outer,H b=none
 hok:ij P w H s.heap
 bare:y_ s.gens
def CE(outer:List Env)(P:er)(w:fc)(H:Hp)(s:dn)(Q:VK)(u:a_)(s':dn):Prop:=
 ∃v H',s'.os=s.os/\y_ s'.gens/\Un (kl outer) [] H H' s.heap s'.heap/\ij P w H' s'.heap/\RelV v u/\Q v H'
def CR(CX:B0)(outer:List Env)(P:er)(w:fc)(H:Hp)(s:dn)(Q:VK)(E:XK)(r:SL)(s':dn):Prop:=
 match r with
 | .ok (.ret u)=>CE outer P w H s Q u s'
 | .ok _=>False
 | .error e=>CX outer H s E e s'
structure FnOk(P:er)(w:fc)(K:dV)(mg:Str->Option a_)(base:gd)(CX:B0)(k:Nat)(f:c_)(fd:gg)(ps:List Str)(sp:Sp):Prop where
 len:∀vs H Q E,sp vs H Q E->vs.length=ps.length
 run:∀(A:hS) (outer:List Env) (s:dn) (H:Hp) (args:Args) (us:List a_) (vs:List V) (Q:VK) (E:XK),Room k A->aI P w K mg base A outer s H->F0 s fd args (ps.zip us)->bu vs us->sp vs H Q E->
  B' (fg P w) A (.call (.ref f) args) (CR CX outer P w H s Q E) s
section
variable {X:Cx}{pins:List (c_×Obj)}{σ:St}{H:Hp}{s s':dn}
theorem Inv.env0(I:Inv X pins σ H s):aI X.prog X.w X.K X.mg X.base X.A X.stack s H:=
 ⟨I.ok.frames,I.ok.mod,I.bs,M7 I.ok.bsz I.sz,I.stack,I.stkFree,I.hok,I.bare⟩
theorem Inv.after(I:Inv X pins σ H s)(h:CE X.stack X.prog X.w H s Q u s'):EP X pins σ Q u s':=by obtain⟨v,U,os,bare,un,Z,r,q⟩:=h;obtain⟨W,g,d,t,Y⟩:=s';obtain rfl:Y=s.os:=os;exact⟨v,U,I.call (h':=W) (g':=g) (d':=d) (t':=t) (ch:=[]) un Z bare (λb z=>absurd z (by simp)),r,q⟩
end
def JZ(sp:Sp)(dvs:List V)(E:XK)(t:TA):TE:=λσ H Q=>t σ H λvs H1=>sp (vs++dvs) H1 Q E
def Binds(K:dV)(fd:gg)(ps:List Str)(ds:List a_):Prop:=
 ∀(s:dn) (us:List a_),K.In s.heap->(us++ds).length=ps.length->F0 s fd ⟨us,[]⟩ (ps.zip (us++ds))
theorem Binds.all{K:dV}{X:gg}{Z:List Str}(h:∀us:List a_,us.length=Z.length->Rx X ⟨us,[]⟩=aC (Z.zip us)):Binds K X Z []:=λs us _ Y=>by rw[NL]at Y⊢;exact .of_eq (h us Y)
def qy(CX:B0)(X:Cx)(E:XK):Prop:=∀(pins:List (c_×Obj)) (σ:St) (H:Hp) (s:dn) (e:a_) (s':dn),Inv X pins σ H s->CX X.stack H s E e s'->X.xe e s'
section
variable {X:Cx}{CX:B0}{k:Nat}{f C:c_}{fd:gg}{ps:List Str}{sp:Sp}{dvs:List V}{ds:List a_}{E:XK}{x m:Str}{p pos apos:Pos}{e o:Expr}{es:List Expr}{ta:TE}{t:TA}
theorem HC(F:FnOk X.prog X.w X.K X.mg X.base CX k f fd ps sp)(T:Room k X.A)(R:Binds X.K fd ps ds)(U:bu dvs ds)(S:qy CX X E)
  (I:Inv X pins σ H s) (r:bu vs us) (h:sp (vs++dvs) H Q E):ee (fg X.prog X.w) X.A (call (.ref f) us) (EP X pins σ Q) X.xe s:=by
 have Y:bu (vs++dvs) (us++ds):=r.append U;have W:(us++ds).length=ps.length:=by rw[<-Y.length];exact F.len _ _ _ _ h
 refine Qe (OO (F.run X.A X.stack s H ⟨us,[]⟩ (us++ds) (vs++dvs) Q E T I.env0 (R s us I.kIn W) Y h) λr s' Z=>?_);cases r with
 |error e=>exact S pins σ H s e s' I Z
 |ok fl=>
  cases fl with
  |ret u=>exact I.after Z
  |next=>exact g_ Z
  |brk=>exact g_ Z
  |cont=>exact g_ Z
theorem yP(F:FnOk X.prog X.w X.K X.mg X.base CX k f fd ps sp)(N:Room k X.A)(U:Gl X x)(S:X.mg x=ar (.ref f))(T:xg X.K (.ref f)=b_)(J:Binds X.K fd ps ds)(O:bu dvs ds)(L:qy CX X E)
  (R:PA X (e::es) t) (Y:(x==("__debug__":Str))=false:=by decide) (P:d_ (e::es) X.env=(dt,hJ e X.env)::d_ es X.env:=by rfl) (Z:(r_ pos (d_ es X.env)).any (·.1)=false:=by rfl):
  PE X (.Call (.Name x p) (e::es) [] pos) (JZ sp dvs E t):=by
 intro pins s σ H Q I h;refine OG (lz I U S ?_ Y);refine Qt (h₀:=X.base) I.ok.mod.kin T (eJ (R pos pins s σ H _ I h) λus s1 ⟨vs,H1,I1,r,q⟩=>⟨I1.kIn,?_⟩) P Z;exact HC F N J O L I1 r q
structure Mk(K:dV)(C f:c_):Prop where
 makes:W.makesIn K C=b_
 init:J_ K (.ref C) "__init__"=ar (ar (.ref f))
 fn:W.isFn K (.ref f)=b_
 kp:xg K (.ref C)=b_
end
section
variable {X:Cx}{CX:B0}{k:Nat}{f C:c_}{fd:gg}{ps ks:List Str}{sp:Sp}{E:XK}{x m:Str}{p pos apos kpos:Pos}{e o:Expr}{es:List Expr}{kws:List RP}{te ta:TE}{t tk:TA}{nm:Option Str}
structure KBinds(K:dV)(fd:gg)(ps ks:List Str)(g:List a_->List a_->List a_)(gV:List V->List V->List V):Prop where
 to:∀(s:dn) (us ws:List a_),K.In s.heap->(g us ws).length=ps.length->F0 s fd ⟨us,ks.zip ws⟩ (ps.zip (g us ws))
 rel:∀{vs:List V} {us:List a_} {zs:List V} {ws:List a_},bu vs us->bu zs ws->bu (gV vs zs) (g us ws)
variable {g:List a_->List a_->List a_}{gV:List V->List V->List V}
end
structure FnScope(N P:List Str)(sc:Scope):Prop where
 kind:sc.kind= .function
 co:sc.isCoroutine=dt
 gen:sc.isGenerator=dt
 nd:N.Nodup
 pre:N.take P.length=P
 par:∀x∈P,sc.names.lookup x=ar .local\/sc.names.lookup x=ar .cell
 nofree:∀y∈sc.names,y.2≠ .free
theorem sT{Z:Str->Option mu}{x:Str}:∀{binds:List (Str×a_)} {m:Str->Option a_},(∀v,(x,v)∉binds)->RV Z binds m x=m x
 |[],_,_=>rfl
 | (n,v)::r,m,h=>by
  unfold RV;rw[sT λw hw=>h w (M3 _ hw)];split
  ·have:x≠n:=by rintro rfl;exact h v Ni
   simp[this]
  ·rfl
theorem sU{Z:Str->Option mu}{x:Str}:∀{binds:List (Str×a_)} {m:Str->Option a_},(∀v,(x,v)∉binds)->RW Z binds m x=m x
 |[],_,_=>rfl
 | (n,v)::r,m,h=>by
  unfold RW;rw[sU λw hw=>h w (M3 _ hw)];split
  ·rfl
  ·have:x≠n:=by rintro rfl;exact h v Ni
   simp[this]
theorem sV{Z:Str->Option mu}:∀{P:List Str} {vs:List a_} {i:Nat} {m:Str->Option a_},P.Nodup->P[i]? =ar x->vs[i]? =ar v->Z x=ar .local->
  RV Z (P.zip vs) m x=ar v
 |[],_,_,_,_,h,_,_=>by simp at h
 |_::_,[],_,_,_,_,h,_=>by simp at h
 |p::P,w::vs,0,m,nd,h1,h2,hk=>by
  simp at h1 h2;subst h1;subst h2;show RV Z ((p,w)::P.zip vs) m p=_;unfold RV;rw[sT λv Y=>(NN.mp nd).1 (Pu Y).1,if_pos hk];simp
 |p::P,w::vs,i+1,m,nd,h1,h2,hk=>by
  show RV Z ((p,w)::P.zip vs) m x=_;unfold RV;exact sV (i:=i) (NN.mp nd).2 (by simpa using h1) (by simpa using h2) hk
theorem sW{Z:Str->Option mu}:∀{P:List Str} {vs:List a_} {i:Nat} {m:Str->Option a_},P.Nodup->P[i]? =ar x->vs[i]? =ar v->Z x≠ar .local->
  RW Z (P.zip vs) m x=ar v
 |[],_,_,_,_,h,_,_=>by simp at h
 |_::_,[],_,_,_,_,h,_=>by simp at h
 |p::P,w::vs,0,m,nd,h1,h2,hk=>by
  simp at h1 h2;subst h1;subst h2;show RW Z ((p,w)::P.zip vs) m p=_;unfold RW;rw[sU λv Y=>(NN.mp nd).1 (Pu Y).1,if_neg hk];simp
 |p::P,w::vs,i+1,m,nd,h1,h2,hk=>by
  show RW Z ((p,w)::P.zip vs) m x=_;unfold RW;exact sW (i:=i) (NN.mp nd).2 (by simpa using h1) (by simpa using h2) hk
def start(N:List Str)(vs:List V):St:=vs.map ar++eb (N.length - vs.length) none
def lR(CX:B0)(P:er)(w:fc)(K:dV)(mg:Str->Option a_)(base:gd)(N:List Str)(qual:Str)(scope:Scope)(f:c_)(cd:a_)(A:hS)(outer:List Env)(s:dn)(H:Hp)(E:XK):Cx where
 prog:=P
 w:=w
 K:=K
 mg:=mg
 base:=base
 A:=A.deeper (y3 qual scope s.heap.objs.size f cd)
 N:=N
 s₀:=s
 H₀:=H
 env:=y3 qual scope s.heap.objs.size f cd
 outer:=outer
 stack:=y3 qual scope s.heap.objs.size f cd::outer
 ex:=[]
 calm:=b_
 fn:=λ_=>b_
 pn:=[]
 xe:=λe s'=>ee (fg P w) (A.deeper (y3 qual scope s.heap.objs.size f cd)) (Rk (y3 qual scope s.heap.objs.size f cd) e) (λ_ s''=>CX outer H s E e s'') (λe' s''=>CX outer H s E e' s'') s'
theorem vR{Z:Scope}(h:Z.names.lookup x=ar .cell):∃c,(kr n Z.names []).lookup x=ar c:=by have q:=PH Z.names n [] (.inl h);exact NS.mp q
theorem AU{C:B0}{P:er}{w:fc}{K:dV}{I:Str->Option a_}{base:gd}{N T:List Str}{qual:Str}{scope:Scope}{f:c_}{O:a_}{A:hS}{outer:List Env}{s G:dn}{H:Hp}{E:XK}{us:List a_}{vs:List V}
  (S:FnScope N T scope) (l:A.handled=none) (Y:aI P w K I base A outer s H) (d:vs.length=T.length) (r:bu vs us)
  (x:InCallC s s.heap.objs.size (RV (y3 qual scope s.heap.objs.size f O).kindOf (T.zip us) λ_=>none) (kr (s.heap.objs.size+1) scope.names []) (RW (y3 qual scope s.heap.objs.size f O).kindOf (T.zip us) λ_=>none) G):
  Inv (lR C P w K I base N qual scope f O A outer s H E) [] (start N vs) H G:=by
 have t:T.length<=N.length:=by have:=Pf F_ S.pre;rw[Od]at this;omega
 obtain⟨J,g,rfl,B⟩:=x.done;have X:∀b:c_,b∉(lR C P w K I base N qual scope f O A outer s H E).ex:=λb z=>absurd (show b∈([]:List c_)from z) (by simp);refine⟨⟨Y.mod,S.kind,rfl,rfl,MV _,λy z c J Z=>?_,λy U=>?_,λy c _ h=>?_,λ_=>l,Around.frames_deeper Y.frames,.inr ⟨rfl,rfl⟩,λb z=>absurd z (X b),Y.bs,Y.bsz,λb _ _=>X b,λb z=>absurd z (X b),Y.funs,Y.frf⟩,
  rfl,Y.bare,Un.kept B,⟨_,x.toInCall.ns,λi y v J Z j=>?_⟩,λy c h=>⟨_,x.cell y c h⟩,Y.hok.fresh (MV _),λy c h=>?_,λp R=>absurd (show p∈([]:List (c_×Obj))from R) (by simp),Y.hok.kept B,?_⟩
 ·exact name_of_addr x.apart (OP J) (OP Z)
 ·have U:scope.names.lookup y=ar .cell\/scope.names.lookup y=ar .free:=U;rcases U with U|U
  ·exact vR U
  ·exact absurd rfl (S.nofree _ (OP U))
 ·exact Oy (x.above y c (OP h))
 ·have L:i<vs.length:=by
   unfold start at Z;by_cases L:i<vs.length
   ·exact L
   ·rw[OC (by simpa using L)]at Z;rw[List.getElem?_replicate]at Z;split at Z<;>cases Z
  have o:vs[i]? =ar v:=by
   unfold start at Z;rw[Nk (by simpa using L),Nn]at Z;cases e:vs[i]? with
   |none=>rw[e]at Z;cases Z
   |some a=>rw[e]at Z;cases Z;rfl
  obtain⟨u,F,m⟩:=r.get o;have R:T[i]? =ar y:=by rw[<-S.pre,QE (by omega)];exact J
  have Q:T.Nodup:=by rw[<-S.pre];exact S.nd.sublist (List.take_sublist _ _)
  refine⟨u,m,?_⟩;rcases S.par y (Nz R)with k|k
  ·exact .inl ⟨k,sV Q R F k⟩
  ·obtain⟨c,e⟩:=vR (n:=s.heap.objs.size+1) k;refine .inr ⟨.inl k,c,e,?_⟩;have q:=x.cell y c e;rw[sW Q R F (by show scope.names.lookup y≠_;rw[k];decide)]at q;exact q
 ·exact Y.hok.fresh (Oy (x.above y c (OP h)))
 ·unfold start;show _=N.length;rw[MT,MS,PV];omega
theorem GD{F:B0}{P:er}{w:fc}{K:dV}{C:Str->Option a_}{base:gd}{k:Nat}{f:c_}{name qual:Str}{params:J'}{body:List oo}{scope:Scope}{j kV L g Z ct d:a_}{i od:Option c_}
  {p:Array (Option a_)} {N B:List Str} {sp:Sp} (lk:K.lookup f=ar ⟨d,od,.func (y2 name qual params body scope j kV L g i Z ct),p⟩) (l:QO K Z qual=b_) (S:FnScope N B scope)
  (R:∀vs H Q E,sp vs H Q E->vs.length=B.length)
  (U:∀(A:hS) (outer:List Env) (s:dn) (H:Hp) (vs:List V) (Q:VK) (E:XK),Room k (A.deeper (y3 qual scope s.heap.objs.size f Z))->sp vs H Q E->
   ∃t,sr (lR F P w K C base N qual scope f Z A outer s H E) body t/\t {nx:=λ_ X=>Q .non X,rt:=Q} (start N vs) H):
  FnOk P w K C base F (k+1) f (y2 name qual params body scope j kV L g i Z ct) B sp:=by
 refine⟨R,λA outer s H args us vs Q E z G c r O=>?_⟩;have hl:=R _ _ _ _ O;have h:K.In s.heap:=G.mod.kin.keeps λb o e=>(G.bs b o e).1;have lim:s.heap.NoLimit:=G.mod.nolimit.keeps λb o e=>(G.bs b o e).1;have T:∀y∈B.zip us,scope.names.lookup y.1=ar .local\/(scope.names.lookup y.1=ar .cell/\((kr (s.heap.objs.size+1) scope.names []).lookup y.1).isSome=b_):=λ⟨n,v⟩ hy=>by
  rcases S.par n (Pu hy).1 with q|q
  ·exact .inl q
  ·exact .inr ⟨q,PH _ _ _ (.inl q)⟩
 refine codeAny_call_function z.depth (h _ _ lk) rfl S.co S.gen rfl (W.codeRec_of h l) (c _ _ _ _ ?_);refine wpAny_newFunctionEnv_cells S.kind T λenv he s1 x=>?_;subst he;refine⟨lim.keeps x.toInCall.keep,codeAny_func ?_⟩;obtain⟨t,a,hq⟩:=U A outer s H vs Q E (z.deeper _) O;have I:Inv (lR F P w K C base N qual scope f Z A outer s H E) [] (start N vs) H s1:=AU S z.hd G hl r x;refine Oc (a [] s1 (start N vs) H _ I hq) (λfl s' hs=>?_) λe s' hs=>hs;have fin:∀{Y:St} {X:Hp} {v:V} {u:a_},Inv (lR F P w K C base N qual scope f Z A outer s H E) [] Y X s'->RelV v u->Q v X->CE outer P w H s Q u s':=
  λ{Y X v u} J m q=>⟨v,X,J.os,J.bare,J.base,J.hok,m,q⟩
 cases fl with
 |ret u=>
  obtain⟨v,Y,X,J,m,q⟩:=hs;exact fin J m q
 |next=>
  obtain⟨Y,X,J,q⟩:=hs;exact fin (v:=V.non) (u:=hO) J rfl q
 |brk=>
  obtain⟨_,_,_,q⟩:=hs;exact g_ q
 |cont=>
  obtain⟨_,_,_,q⟩:=hs;exact g_ q
section
variable {X:Cx}{x:Str}{p pos:Pos}{e:Expr}{es:List Expr}{t:TA}{id T:String}{r:List V->Hp->VK->Prop}
def LV(r:List V->Hp->VK->Prop)(t:TA):TE:=λσ H Q=>t σ H λvs H1=>r vs H1 Q
theorem kA(U:dN X (.builtin id) r)(W:Gl X x)(R:X.mg x=none)(N:k_ x=ar (.builtin id))(O:PA X (e::es) t)(P:x≠"__name__":=by decide)(Y:(x==("__debug__":Str))=false:=by decide)
  (S:d_ (e::es) X.env=(dt,hJ e X.env)::d_ es X.env:=by rfl) (Z:(r_ pos (d_ es X.env)).any (·.1)=false:=by rfl):PE X (.Call (.Name x p) (e::es) [] pos) (LV r t):=by
 intro pins s σ H Q I h;refine OG (oK I W R N ?_ P Y);exact PyProof.Rows.callWith_builtin1 (eJ (O pos pins s σ H _ I h) λus s1 ⟨vs,H1,I1,r1,q1⟩=>U pins s1 σ H1 vs us Q I1 r1 q1) S Z
theorem lC(U:dN X (.type T) r)(W:Gl X x)(R:X.mg x=none)(N:k_ x=ar (.type T))(O:PA X (e::es) t)(P:x≠"__name__":=by decide)(Y:(x==("__debug__":Str))=false:=by decide)
  (S:d_ (e::es) X.env=(dt,hJ e X.env)::d_ es X.env:=by rfl) (Z:(r_ pos (d_ es X.env)).any (·.1)=false:=by rfl):PE X (.Call (.Name x p) (e::es) [] pos) (LV r t):=by
 intro pins s σ H Q I h;refine OG (oK I W R N ?_ P Y);exact OA (eJ (O pos pins s σ H _ I h) λus s1 ⟨vs,H1,I1,r1,q1⟩=>U pins s1 σ H1 vs us Q I1 r1 q1) S Z
end
end L2
namespace HT
open PySem PyProof.Rows
def lexLt:List Int->List Int->Bool
 |[],[]=>dt
 |[],_::_=>b_
 |_::_,[]=>dt
 |x::xs,y::ys=>if x=y then lexLt xs ys else decide (x<y)
theorem lexLt_cons(x y:Int)(xs ys:List Int):lexLt (x::xs) (y::ys)=if x=y then lexLt xs ys else decide (x<y):=rfl
theorem su:lexLt [] []=false:=rfl
theorem qz(y:Int)(ys:List Int):lexLt [] (y::ys)=true:=rfl
theorem qA(x:Int)(xs:List Int):lexLt (x::xs) []=false:=rfl
theorem Cp(A:hS)(s:dn)(a:Int)(t:Tok)(c:Int)(u:Tok):∃e,SeqAt.EqAt A s (.int a t) (.int c u) e/\(e=b_↔a=c):=
 ⟨(a==c),SeqAt.EqAt.int_int a t c u,by simp⟩
theorem Cq(A:hS)(s:dn)(a:Int)(t:Tok)(c:Int)(u:Tok)(prog:er)(w:fc)(E:a_->dn->Prop)(Q:a_->dn->Prop)(h:Q (.bool (decide (a<c))) s):
  ee (fg prog w) A (richCompare .Lt (.int a t) (.int c u)) Q E s:=
 (PyProof.Rows.lt_int h:ee (fg prog w) A (i_ .Lt (.int a t) (.int c u)) Q E s)
section
open PySem.SeqAt
open PySem.AutoSeq1 (wpAny_loadPart')
open PySem.MeetsSeq PySem.MeetsSeq2 PySem.MeetsSeq3
theorem sv(l b:c_)(Y Z:Array a_)(n H:Nat)(dd Q:Option c_)(K S:Array (Option a_))(ns U:List Int)(N:m2 Y.toList ns)(L:m2 Z.toList U):
  Meets (Builtin.«tuple.__lt__» ⟨[.ref l,.ref b],[]⟩)
   (λ_ R s=>s.heap.get? l=ar {cls:=.type "tuple",dict:=dd,data:=.seq Y n,slots:=K}/\s.heap.get? b=ar {cls:=.type "tuple",dict:=Q,data:=.seq Z H,slots:=S}/\
    R (.ok (.ret (.bool (lexLt ns U)))) s):=
 .of_wp λprog w A R s h=>by
  obtain⟨W,g,d,T,os⟩:=s;obtain⟨I,J,h⟩:=h;have f2:=AutoSeq1.sub_tuple_tuple;have F:Y.size=ns.length:=by rw[<-N.length];simp
  have G:Z.size=U.length:=by rw[<-L.length];simp
  wp_walk using Q6 I,Q6 J,Ph _ (λrest b s'=>b.1=none/\s'=⟨W,g,d,T,os⟩/\∃(vs ws:List a_) (ns' ms':List Int),rest=vs.zip ws/\
   m2 vs ns'/\m2 ws ms'/\ns'.length+Z.size=ms'.length+Y.size/\R (.ok (.ret (.bool (lexLt ns' ms')))) ⟨W,g,d,T,os⟩) _
  case turn=>
   rintro⟨y,x⟩ rest b s' ⟨hb',rfl,vs,ws,ns',ms',hz,hvi,hwi,hlen,hR⟩;cases hvi with
   |nil=>rw[List.zip_nil_left]at hz;cases hz
   | cons a t hvi'=>
    cases hwi with
    |nil=>rw[List.zip_nil_right]at hz;cases hz
    | cons c u hwi'=>
     rw[O0]at hz;injection hz with hyx hrest;injection hyx with hy hx;subst hy hx;rw[lexLt_cons]at hR;simp only[q_]at hlen;obtain⟨e,he,X⟩:=Cp A.in1 ⟨W,g,d,T,os⟩ a t c u;refine MR (he prog w _ _ ?_);cases e with
     |true=>
      rw[if_pos (X.mp rfl)]at hR
      wp_walk
      exact⟨rfl,rfl,_,_,_,_,hrest,hvi',hwi',by omega,hR⟩
     |false=>
      rw[if_neg (λq=>absurd (X.mpr q) N6)]at hR;have P:=Cq A.in1 ⟨W,g,d,T,os⟩ a t c u prog w
      wp_walk using P
      exact⟨_,rfl,by simpa using hR⟩
  case fin=>
   rintro⟨b1,b2⟩ s' ⟨hb',rfl,vs,ws,ns',ms',hz,hvi,hwi,hlen,hR⟩;simp only at hb';subst hb';have O:lexLt ns' ms'=decide (Y.size<Z.size):=by
    cases hvi with
    | nil=>
     cases hwi with
     |nil=>
      simp only[M']at hlen;rw[su];exact(Nv (by omega)).symm
     |cons c u hw=>
      simp only[M',q_]at hlen;rw[qz];exact(Nb (by omega)).symm
    | cons a t O=>
     cases hwi with
     |nil=>
      simp only[M',q_]at hlen;rw[qA];exact(Nv (by omega)).symm
     |cons c u hw=>
      rw[O0]at hz;cases hz
   rw[O]at hR
   wp_walk
   exact⟨_,rfl,by simpa [Builtin.Tuple.tupleCompareSizes]using hR⟩
  case h=>
   exact⟨rfl,rfl,Y.toList,Z.toList,ns,U,rfl,N,L,by omega,h⟩
end
section
variable {prog:er}{w:fc}{A:hS}{E:a_->dn->Prop}{s:dn}
theorem lt_tupInts{Q:a_->dn->Prop}(L:R_ s.heap l items)(J:R_ s.heap b items2)(P:m2 items.toList ns)(N:m2 items2.toList ms)
  (O:A.units<u3) (h:Q (.bool (lexLt ns ms)) s):ee (fg prog w) A (i_ .Lt (.ref l) (.ref b)) Q E s:=by
 obtain⟨⟨cls,dd,data,R⟩,U,S,n,hd⟩:=id L;obtain⟨⟨T,X,data2,W⟩,Y,Z,K,hd2⟩:=id J;simp only at S hd Z hd2;subst S hd Z hd2;exact richCompare_meets_room (op:=.Lt) ⟨_,U,rfl⟩ ⟨_,Y,rfl⟩ PySem.F.slot_tuple_lt PySem.F.entry_tuple_lt (PySem.F.args_tuple_lt_2 _ _) (sv l b items items2 n K dd X R W ns ms P N)
  ⟨U,Y,show u0 (lexLt ns ms)≠Value.notImplemented/\Q (.bool (lexLt ns ms)) s from⟨(λx=>nomatch x),h⟩⟩ O
theorem cat_tup{vs Z:List a_}{Q:a_->dn->Prop}(J:R_ s.heap t vs.toArray)(H:R_ s.heap b Z.toArray)(L:vs≠[])
  (I:Z=[]->Q (.ref t) s) (K:Z≠[]->Q (.ref s.heap.objs.size) {s with heap:=s.heap.push {cls:=.type "tuple",data:=.seq (vs++Z).toArray}})
  (S:vs.length+Z.length<=sizeLine):ee (fg prog w) A (rA .Add (.ref t) (.ref b)) Q E s:=by
 obtain⟨⟨cls,dd,data,R⟩,T,O,n,hd⟩:=id J;obtain⟨⟨P,X,data2,U⟩,Y,W,N,hd2⟩:=id H;simp only at O hd W hd2;subst O hd W hd2;have e:vs.toArray++Z.toArray=(vs++Z).toArray:=by simp
 by_cases hw:Z=[]
 ·exact Ry ⟨_,T,rfl⟩ ⟨_,Y,rfl⟩ QZ Rp PJ Pw (Pp _ _)
   (tuple_addW1 t b vs.toArray Z.toArray n N dd X R U (by simpa using L) (by simp[hw])) ⟨T,Y,I hw⟩
 ·refine Ry ⟨_,T,rfl⟩ ⟨_,Y,rfl⟩ QZ Rp PJ Pw (Pp _ _)
   (tuple_addW2 t b vs.toArray Z.toArray n N dd X R U (by simpa using L) (by simpa using hw) (by rw[M8,M8];exact S)) ⟨T,Y,?_⟩
  rw[e];exact K hw
def sIx(n d:Nat):Option Int->Nat
 |none=>d
 |some v=>if v<0 then (v+(n:Int)).toNat else min v.toNat n
theorem sIx_none(n d:Nat):sIx n d none=d:=rfl
theorem sIx_nat(n d k:Nat):sIx n d (ar (k:Int))=min k n:=by show(if (k:Int)<0 then ((k:Int)+(n:Int)).toNat else min (k:Int).toNat n)=min k n;rw[if_neg (by omega),NH]
theorem HD(n d:Nat)(Z:d<=n)(o:Option Int):sIx n d o<=n:=by
 cases o with
 |none=>exact Z
 |some v=>
  show(if v<0 then (v+(n:Int)).toNat else min v.toNat n)<=n;by_cases hv:v<0
  ·rw[if_pos hv];omega
  ·rw[if_neg hv];exact Nat.min_le_right _ _
theorem yQ(v:Int)(n d:Nat):(if v<0 then max (v+(n:Int)) 0 else min v (n:Int))=((sIx n d (ar v):Nat):Int):=by
 show(if v<0 then max (v+(n:Int)) 0 else min v (n:Int))=(((if v<0 then (v+(n:Int)).toNat else min v.toNat n):Nat):Int);by_cases hv:v<0
 ·simp only[if_pos hv];omega
 ·simp only[if_neg hv];omega
theorem xD(Z Y:Option Int)(n:Nat):u_ Z Y 1 (n:Int)=(((sIx n 0 Z:Nat):Int),((sIx n n Y:Nat):Int)):=by
 have X:¬ ((1:Int)<0):=by omega
 unfold u_;simp only[X,if_false];refine PR ?_ ?_
 ·cases Z with
  |none=>rfl
  |some v=>exact yQ v n 0
 ·cases Y with
  |none=>rfl
  |some v=>exact yQ v n n
theorem xE(i j:Nat):n3 (i:Int) (j:Int) 1=j - i:=by
 unfold n3;have Z:(1:Int)>0:=by omega
 simp only[Z,if_true,Int.ediv_one];split<;>omega
theorem qB{Q:Option Int->dn->Prop}(p:Rv v o)(h:Q o s):ee (fg prog w) A (Builtin.Slice.slicePartIndex v) Q E s:=by
 cases p with
 |none=>exact slicePart_none h
 |int i t=>exact slicePart_int h
theorem sliceApplied_gen{S:c_}{U T:a_}{Z W:Option Int}{n:Nat}{Q:Int×Int×Nat->dn->Prop}(hs:s.heap.IsSliceOf S U T .none)(O:Rv U Z)(P:Rv T W)
  (h:Q (((sIx n 0 Z:Nat):Int),1,sIx n n W - sIx n 0 Z) s):ee (fg prog w) A (Builtin.Slice.sliceApplied (.ref S) (aC (n:Int))) Q E s:=by
 obtain⟨os,Y,R,X⟩:=id hs;unfold Builtin.Slice.sliceApplied Builtin.Slice.sliceFields;refine MR (MR (NZ Y X (x:=U) rfl (MR (NZ Y X (x:=T) rfl (MR (NZ Y X (x:=.none) rfl (MW ?_)))))));refine MR (slicePart_none ?_);show ee _ _ (if ((1:Int)==0)=b_ then _ else _) _ _ s;rw[if_neg (by decide)];refine MR (qB O (MR (qB P (MR (MW ?_)))));show ee _ _ (match u_ Z W 1 (n:Int)with|(Z,W)=>aC (Z,(1:Int),n3 Z W 1)) _ _ s;rw[xD Z W n];show ee _ _ (aC (((sIx n 0 Z:Nat):Int),(1:Int),n3 ((sIx n 0 Z:Nat):Int) ((sIx n n W:Nat):Int) 1)) _ _ s;rw[xE];exact MW h
theorem Cr(xs:Array a_)(i k:Nat):((dr k).filterMap λ(m:Nat)=>xs[((i:Int)+(m:Int)*1).toNat]?).toArray=((xs.toList.drop i).take k).toArray:=by
 have e:(λ(m:Nat)=>xs[((i:Int)+(m:Int)*1).toNat]?)=λm=>xs[i+m]? :=by
  funext m;have:((i:Int)+(m:Int)*1).toNat=i+m:=by omega
  rw[this]
 rw[e];have:=pick_run xs i k;rw[List.filterMap_map]at this;have e2:((λx=>xs[x]?)∘λx=>i+x)=λm=>xs[i+m]? :=rfl;rw[e2]at this;rw[this]
theorem getItem_tuple_cut{t T:c_}{Z:Array a_}{N L:a_}{X W:Option Int}{Q:a_->dn->Prop}(U:R_ s.heap t Z)(hs:s.heap.IsSliceOf T N L .none)(I:Rv N X)(K:Rv L W)
  (G:¬ (sIx Z.size 0 X=0/\sIx Z.size Z.size W=Z.size))
  (h:Q (.ref s.heap.objs.size) {s with heap:=s.heap.push {cls:=.type "tuple",data:=.seq ((Z.toList.drop (sIx Z.size 0 X)).take (sIx Z.size Z.size W - sIx Z.size 0 X)).toArray}})
  (H:Z.size<=sizeLine):ee (fg prog w) A (Rz (.ref t) (.ref T)) Q E s:=by
 have Y:sizeOk (.seq ((Z.toList.drop (sIx Z.size 0 X)).take (sIx Z.size Z.size W - sIx Z.size 0 X)).toArray):=by show((Z.toList.drop (sIx Z.size 0 X)).take (sIx Z.size Z.size W - sIx Z.size 0 X)).toArray.size<=sizeLine;rw[M8,Od,Ot,OQ];omega
 have B:sIx Z.size Z.size W<=Z.size:=HD _ _ (MV _) W;obtain⟨os,O,P,J⟩:=id hs;have S:s.TypeIs (.ref T) "slice":=⟨os,O,P⟩;unfold Rz
 try with_reducible refine NV ?_
 first|refine MR (MW ?_)|skip
 refine MR (wpAny_sequenceKey U.typeIs (by decide) ?_);refine MR (wpAny_callSpecial?_slot (name:=h_ "__getitem__") U.typeIs Oh
  (NX Oh U.typeIs entry_tuple_getitem ?_ (args_tuple_getitem _ _)))
 show ee _ _ (Builtin.Tuple.tupleItemsOf (.ref t)>>=_) _ _ s;refine MR (tupleItemsOf_ U ?_);refine MR (PX S ?_);rw[if_pos (by decide)];refine MR (sliceApplied_gen hs I K ?_);have R:¬ ((((sIx Z.size 0 X:Nat):Int)==0 && (1:Int)==1 && (sIx Z.size Z.size W - sIx Z.size 0 X)==Z.size)=b_):=by intro q;rw[ND,ND]at q;have F:((sIx Z.size 0 X:Nat):Int)=0:=RF q.1.1;have C:sIx Z.size Z.size W - sIx Z.size 0 X=Z.size:=RF q.2;exact G ⟨by omega,by omega⟩
 show ee _ _ (if (((sIx Z.size 0 X:Nat):Int)==0 && (1:Int)==1 && (sIx Z.size Z.size W - sIx Z.size 0 X)==Z.size)=b_ then _ else _) _ _ s;rw[if_neg R,Cr];first
  |exact MR (m:=pz _) (NT (MW ⟨_,rfl,MW h⟩) Y)
  |exact MR (m:=pz _) (NT (MR (MW (MW ⟨_,rfl,MW h⟩))) Y)
  |exact MR (MR (m:=pz _) (NT (MW (MW ⟨_,rfl,MW h⟩)) Y))
  |exact MR (MR (m:=pz _) (NT (MW ⟨_,rfl,MW h⟩) Y))
end
end HT
namespace L2
open PySem PySem.Spec PyProof.Rows
abbrev TO:=St->Hp->(Option Int->Hp->Prop)->Prop
def PO(X:Cx)(e:Option Expr)(t:TO):Prop:=
 ∀(pins:List (c_×Obj)) (s:dn) (σ:St) (H:Hp) (Q:Option Int->Hp->Prop),Inv X pins σ H s->t σ H Q->
  ee (fg X.prog X.w) X.A (evalPart e X.env) (λu s'=>∃o H',Inv X pins σ H' s'/\Rv u o/\Q o H') X.xe s
def E4:TO:=λ_ H Q=>Q none H
def J0(t:TE):TO:=λσ H Q=>t σ H λx H1=>∃i,x= .int i/\Q (ar i) H1
theorem Qf{ns:List Int}:∀{us:List a_},bu (ns.map V.int) us->m2 us ns:=by
 induction ns with
 |nil=>intro us r;rw[Oo]at r;cases r;exact .nil
 | cons n ns ih=>
  intro us r;rw[Nd]at r;cases r with
  |cons r1 r2=>
   obtain⟨t,e⟩:=r1;subst e;exact .cons n t (ih r2)
section
variable {X:Cx}{e:Expr}{te:TE}{lo hi:Option Expr}{tl th:TO}{pos p2:Pos}
theorem E5:PO X none E4:=by intro pins s σ H Q I h;rw[evalPart_none];exact MW ⟨none,H,I,.none,h⟩
theorem E6(h:PE X e te):PO X (ar e) (J0 te):=by intro pins s σ H Q I hw;rw[evalPart_some];refine eJ (h pins s σ H _ I hw) λu s1 ⟨x,H1,I1,r1,q1⟩=>?_;obtain⟨i,rfl,q⟩:=q1;obtain⟨t,rfl⟩:=r1;exact⟨ar i,H1,I1,.int i t,q⟩
def GE(X:Cx)(r:V->Option Int->Option Int->Hp->VK->Prop):Prop:=
 ∀(pins:List (c_×Obj)) (s:dn) (σ:St) (H:Hp) (x:V) (v vl vu:a_) (lo hi:Option Int) (sl:c_) (Q:VK),Inv X pins σ H s->RelV x v->s.heap.IsSliceOf sl vl vu .none->Rv vl lo->Rv vu hi->r x lo hi H Q->
  ∃T id,typeLookup (.type T) "__getitem__"=aC (ar (.builtin id))/\s.TypeIs v T/\ee (fg X.prog X.w) X.A (Rz v (.ref sl)) (EP X pins σ Q) X.xe s
theorem GE.or{r U:V->Option Int->Option Int->Hp->VK->Prop}(h:GE X r)(h':GE X U):GE X (λx lo hi H Q=>r x lo hi H Q\/U x lo hi H Q):=by
 intro pins s σ H x v Z T lo hi Y Q I W hs S pu q;rcases q with q|q
 ·exact h pins s σ H x v Z T lo hi Y Q I W hs S pu q
 ·exact h' pins s σ H x v Z T lo hi Y Q I W hs S pu q
def MF(r:V->Option Int->Option Int->Hp->VK->Prop)(te:TE)(tl th:TO):TE:=λσ H Q=>te σ H λx H1=>tl σ H1 λl H2=>th σ H2 λu H3=>r x l u H3 Q
theorem Cs(O:GE X r)(P:PE X e te)(R:PO X lo tl)(U:PO X hi th):PE X (.Subscript e (.Slice lo hi none p2) pos) (MF r te tl th):=by intro pins s σ H Q I h;refine Subscript_ (eJ (P pins s σ H _ I h) λv s1 ⟨x,H1,I1,r1,q1⟩=>?_);refine wpAny_Slice (eJ (R pins s1 σ H1 _ I1 q1) λvl s2 ⟨l,H2,I2,pl,q2⟩=>eJ (U pins s2 σ H2 _ I2 q2) λvu s3 ⟨u,H3,I3,pu,q3⟩=>?_);rw[evalPart_none];refine MW ?_;have W:Inv X pins σ H3 {s3 with heap:=s3.heap.push {cls:=.type "slice",data:=.fields #[vl,vu,.none]}}:=I3.kept (t':=s3.toks) λb N q=>MU _ q;obtain⟨T,id,Z,S,Y⟩:=O pins {s3 with heap:=s3.heap.push {cls:=.type "slice",data:=.fields #[vl,vu,.none]}} σ H3 x v vl vu l u s3.heap.objs.size Q W r1 (Heap.IsSliceOf.new ..) pl pu q3;show ee (fg X.prog X.w) X.A (subscriptTail e (.Slice lo hi none p2) v (.ref s3.heap.objs.size)) (EP X pins σ Q) X.xe {s3 with heap:=s3.heap.push {cls:=.type "slice",data:=.fields #[vl,vu,.none]}};exact tail_any (ops:=[.ref s3.heap.objs.size,v]) S Z Y (by with_unfolding_all rfl)
def sx(xs:List V)(lo hi:Option Int):List V:=(xs.drop (HT.sIx xs.length 0 lo)).take (HT.sIx xs.length xs.length hi - HT.sIx xs.length 0 lo)
theorem pG(xs:List V)(lo hi:Option Int):(sx xs lo hi).length<=xs.length:=by unfold sx;rw[Od,Ot];omega
def LW(K:dV):V->Option Int->Option Int->Hp->VK->Prop:=λx lo hi H Q=>∃a xs,x= .ref a/\lQ K H a xs/\
 ¬ (HT.sIx xs.length 0 lo=0/\HT.sIx xs.length xs.length hi=xs.length)/\∀p,H p=none->Q (.ref p) (upd H p (.tup (sx xs lo hi)))
theorem HE:GE X (LW X.K):=by
 intro pins s σ H x v S O lo hi R Q I W hs U pu h;obtain⟨a,xs,rfl,T,hw,q⟩:=h;cases W;obtain⟨its,r,Y,Z⟩:=I.tuple T;have hlen:its.toArray.size=xs.length:=by rw[M8];exact r.length.symm
 refine⟨"tuple",_,PyProof.Rows.slot_tuple_getitem.lookup,Y.typeIs,?_⟩;refine HT.getItem_tuple_cut Y hs U pu (by rw[hlen];exact hw) ?_ (by rw[hlen];exact Z);rw[hlen];refine⟨.ref s.heap.objs.size,_,I.laid (t':=s.toks) (o:=.tup (sx xs lo hi)) (λb P q=>MU _ q) (MV _) ?_,rfl,q _ (I.hok.fresh (MV _))⟩;exact⟨t6 (M7 (pG xs lo hi) Z),_,(r.drop (HT.sIx xs.length 0 lo)).take (HT.sIx xs.length xs.length hi - HT.sIx xs.length 0 lo),Se _ _⟩
def J1(K:dV):R2:=λx y H Q=>∃a b ns ms,x= .ref a/\y= .ref b/\lQ K H a (ns.map V.int)/\lQ K H b (ms.map V.int)/\Q (.bl (HT.lexLt ns ms)) H
theorem xF(R:X.A.units<u3):jA X (i_ .Lt) (J1 X.K):=by intro pins s σ H x y v u Q I P S h;obtain⟨a,b,ns,ms,rfl,rfl,T,N,q⟩:=h;cases P;cases S;obtain⟨its,U,Y,_⟩:=I.tuple T;obtain⟨Z,O,p2,_⟩:=I.tuple N;have L:m2 its.toArray.toList ns:=Qf U;have W:m2 Z.toArray.toList ms:=Qf O;exact HT.lt_tupInts Y p2 L W R ⟨.bl (HT.lexLt ns ms),H,I,rfl,q⟩
def J2(K:dV):R2:=λx y H Q=>∃a b xs ys,x= .ref a/\y= .ref b/\lQ K H a xs/\lQ K H b ys/\xs≠[]/\xs.length+ys.length<=sizeLine/\
 (ys=[]->Q (.ref a) H)/\(ys≠[]->∀p,H p=none->Q (.ref p) (upd H p (.tup (xs++ys))))
theorem bu.nil_iff(r:bu xs us):us=[]↔xs=[]:=by
 cases r with
 |nil=>simp
 |cons _ _=>simp
theorem E7:jA X (rA .Add) (J2 X.K):=by intro pins s σ H x y v u Q I N O h;obtain⟨a,b,xs,ys,rfl,rfl,P,J,L,U,T,R⟩:=h;cases N;cases O;obtain⟨its,Y,S,_⟩:=I.tuple P;obtain⟨W,Z,p2,_⟩:=I.tuple J;refine HT.cat_tup S p2 (λz=>L (Y.nil_iff.mp z)) (λz=>⟨.ref a,H,I,rfl,T (Z.nil_iff.mp z)⟩) (λz=>?_) (by rw[<-Y.length, <-Z.length];exact U);refine⟨.ref s.heap.objs.size,_,I.laid (t':=s.toks) (o:=.tup (xs++ys)) (λb G q=>MU _ q) (MV _) ?_,rfl,R (λw=>z (Z.nil_iff.mpr w)) _ (I.hok.fresh (MV _))⟩;exact⟨t6 (by rw[MT];exact U),_,Y.append Z,Se _ _⟩
end
def B1(n:Nat)(i:Int):Option Nat:=if 0<=i then (if i<n then ar i.toNat else none)else if -(n:Int)<=i then ar (i+n).toNat else none
def mx{α:Type}(xs:List α)(i:Int):Option α:=(B1 xs.length i).bind λj=>xs[j]?
theorem yR(h:B1 n i=ar j):RG i n=ar j/\j<n/\ -(n:Int)<=i/\i<n:=by
 unfold B1 at h;by_cases h0:0<=i
 ·rw[if_pos h0]at h;by_cases h1:i<n
  ·rw[if_pos h1]at h;have e:i.toNat=j:=Nw h;exact⟨by rw[RL h0 h1,e],by omega,by omega,h1⟩
  ·rw[if_neg h1]at h;cases h
 ·rw[if_neg h0]at h;by_cases h1: -(n:Int)<=i
  ·rw[if_pos h1]at h;have e:(i+n).toNat=j:=Nw h;exact⟨by rw[seqIndex_neg (by omega) h1,e],by omega,h1,by omega⟩
  ·rw[if_neg h1]at h;cases h
theorem t9{α:Type}{xs:List α}{i:Int}{v:α}(h:mx xs i=ar v):∃j,RG i xs.length=ar j/\xs[j]? =ar v/\j<xs.length/\ -(xs.length:Int)<=i/\i<xs.length:=by
 unfold mx at h;cases e:B1 xs.length i with
 |none=>rw[e]at h;cases h
 |some j=>
  rw[e]at h;obtain⟨Y,X,Z,W⟩:=yR e;exact⟨j,Y,h,X,Z,W⟩
def ua(b:Expr):Prop:=∀o i,subscripted b dt o i=operate [o,i] (Rz o i)
def EK(X:Cx)(r:R2):Prop:=
 ∀(value slice:Expr) (pins:List (c_×Obj)) (s:dn) (σ:St) (H:Hp) (x y:V) (v u:a_) (Q:VK),Inv X pins σ H s->RelV x v->RelV y u->r x y H Q->
  subscripted slice dt v u=operate [v,u] (Rz v u)->ee (fg X.prog X.w) X.A (subscriptTail value slice v u) (EP X pins σ Q) X.xe s
def Lc(X:Cx)(id:String)(r:V->List V->Hp->VK->Prop):Prop:=
 ∀(pins:List (c_×Obj)) (s:dn) (σ:St) (H:Hp) (x:V) (xs:List V) (v:a_) (us:List a_) (Q:VK),Inv X pins σ H s->RelV x v->bu xs us->r x xs H Q->
  ee (fg X.prog X.w) X.A (call (.builtin id) (v::us)) (EP X pins σ Q) X.xe s
section
variable {X:Cx}{a b:Expr}{ta tb:TE}{pos:Pos}
theorem EK.or{r W:R2}(h:EK X r)(h':EK X W):EK X (λx y H Q=>r x y H Q\/W x y H Q):=by
 intro value slice pins s σ H x y v u Q I Y Z q hs;rcases q with q|q
 ·exact h value slice pins s σ H x y v u Q I Y Z q hs
 ·exact h' value slice pins s σ H x y v u Q I Y Z q hs
theorem J3(T:EK X r)(Y:PE X a ta)(R:PE X b tb)(hs:ua b):PE X (.Subscript a b pos) (Js r ta tb):=by intro pins s σ H Q I h;exact Subscript_ (Hu Y R I h λv u s2 x y Z S U W q=>T a b pins s2 σ Z x y v u Q S U W q (hs _ _))
def J4(K:dV):R2:=λx y H Q=>∃p xs i v,x= .ref p/\y= .int i/\lA K H p xs/\mx xs i=ar v/\Q v H
def J5(K:dV):R2:=λx y H Q=>∃p xs i v,x= .ref p/\y= .int i/\lQ K H p xs/\mx xs i=ar v/\Q v H
def J6:R2:=λx y H Q=>∃z i c,x= .str z/\y= .int i/\z.length<=sizeLine/\mx z.cps.toList i=ar c/\Q (.str ⟨#[c]⟩) H
theorem E8:EK X (J4 X.K):=by
 intro value slice pins s σ H x y v u Q I N S h hs;obtain⟨p,xs,i,z,rfl,rfl,J,he,q⟩:=h;cases N;obtain⟨t,rfl⟩:=S;obtain⟨its,r,Y,G⟩:=I.list J;obtain⟨j,Z,P,F,R,O⟩:=t9 he;obtain⟨w,T,U⟩:=r.get P;have L:=r.length;have E:=qx;have fin:EP X pins σ Q w s:=⟨z,H,I,U,q⟩;by_cases h0:0<=i
 ·have W:i.toNat=j:=by
   rw[RL h0 O]at Z;exact Nw Z
  exact item_listR Y.isList h0 (by omega) (by rw[W];simpa using T) fin hs
 ·have W:(i+(its.toArray.size:Int)).toNat=j:=by
   rw[seqIndex_neg (by omega) R]at Z;rw[M8, <-L];exact Nw Z
  exact subscriptTail_builtinR (x:=w) Y.isList.typeIs slot_list_getitem.lookup
   (wpAny_getItem_list_neg (Q:=λr s'=>r=w/\EP X pins σ Q r s') Y.isList (by omega) (by rw[M8]<;>omega) (by omega) (by rw[W];simpa using T) ⟨rfl,fin⟩) hs
theorem HF:EK X (J5 X.K):=by
 intro value slice pins s σ H x y v u Q I S W h hs;obtain⟨p,xs,i,z,rfl,rfl,O,he,q⟩:=h;cases S;obtain⟨t,rfl⟩:=W;obtain⟨its,r,Y,N⟩:=I.tuple O;obtain⟨j,P,U,L,G,F⟩:=t9 he;obtain⟨w,T,Z⟩:=r.get U;have R:=r.length;have J:=qx;have fin:EP X pins σ Q w s:=⟨z,H,I,Z,q⟩;exact subscriptTail_builtinR (x:=w) Y.typeIs slot_tuple_getitem.lookup
  (getItem_tuple (j:=j) (Q:=λr s'=>r=w/\EP X pins σ Q r s') Y (by omega) (by omega) (by rw[M8, <-R];exact P) (by simpa using T) ⟨rfl,fin⟩) hs
theorem HG:EK X J6:=by
 intro value slice pins s σ H x y v u Q I S W h hs;obtain⟨z,i,c,rfl,rfl,P,he,q⟩:=h;obtain⟨t,rfl⟩:=S;obtain⟨t',rfl⟩:=W;obtain⟨j,Z,Y,O,T,U⟩:=t9 he;have R:z.cps.toList.length=z.length:=by simp[Str.length]
 rw[R]at Z T U;have N:=qx;exact tail_any (typeIs_str s z t) slot_str_getitem.lookup (getItem_str (c:=c) (by have e1:decide (i< -(2 ^ 63:Int))=false:=Nv (by omega);have e2:decide (i ≥ 2 ^ 63)=false:=Nv (by omega);rw[e1,e2,Bool.or_false]) (by rw[Z];simpa using Y) ⟨.str ⟨#[c]⟩,H,I.tok _,⟨_,rfl⟩,q⟩) hs
def Ms(K:dV):R2:=λx y H Q=>J4 K x y H Q\/J5 K x y H Q\/J6 x y H Q
theorem HH:EK X (Ms X.K):=E8.or (HF.or HG)
theorem xG(its:List a_)(n j:Nat)(u:a_):l_ (·.setIfInBounds j u) {cls:=.type "list",data:=.seq its.toArray n}={cls:=.type "list",data:=.seq (its.set j u).toArray n}:=by simp[l_]
theorem Inv.lst{Z:List (c_×Obj)}{Y:St}{H:Hp}{s:dn}{p:c_}{xs:List V}(I:Inv X Z Y H s)(h:H p=ar (.lst xs)):
  ∃(its:List a_) (n:Nat),bu xs its/\s.heap.get? p=ar {cls:=.type "list",data:=.seq its.toArray n}/\xs.length<=sizeLine:=by
 obtain⟨z,its,n,r,e⟩:=I.hok p _ h;exact⟨its,n,r,e,z⟩
theorem Inv.lstUpd{H:Hp}{its its':List a_}{f:Obj->Obj}(I:Inv X pins σ H s)(h:H p=ar (.lst xs))
  (W:s.heap.get? p=ar {cls:=.type "list",data:=.seq its.toArray n}) (Z:f {cls:=.type "list",data:=.seq its.toArray n}={cls:=.type "list",data:=.seq its'.toArray n'}) (r:bu ys its') (Y:ys.length<=sizeLine) (t:Nat):
  Inv X pins σ (upd H p (.lst ys)) {s with heap:=s.heap.update p f,toks:=t}:=by
 have e:(s.heap.update p f).get? p=ar {cls:=.type "list",data:=.seq its'.toArray n'}:=by rw[N0 f W (by rw[Z]<;>rfl),Z]
 refine I.write (x:=p) (e:=p) (by rw[h];trivial) (.inl rfl) (λb u U q=>(NJ _ _ (j' U)).trans q) ⟨_,e⟩ ?_;exact⟨Y,its',n',r,e⟩
def GF:V->V->V->Hp->(Hp->Prop)->Prop:=λo i v H Q=>∃p xs k j,o= .ref p/\i= .int k/\H p=ar (.lst xs)/\B1 xs.length k=ar j/\Q (upd H p (.lst (xs.set j v)))
theorem set_list:JN X GF:=by
 intro pins s σ H o i v C E u Q I L K G h;obtain⟨p,xs,k,j,rfl,rfl,R,J,q⟩:=h;cases L;obtain⟨t,rfl⟩:=K;obtain⟨its,n,r,Y,N⟩:=I.lst R;obtain⟨Z,B,S,O⟩:=yR J;have T:=r.length;have F:=qx;have P:Inv X pins σ (upd H p (.lst (xs.set j v))) {s with heap:=s.heap.update p (l_ (·.setIfInBounds j u))}:=
  I.lstUpd R Y (xG its n j u) (r.set G j) (by rw[O2];exact N) s.toks
 by_cases h0:0<=k
 ·have U:k.toNat=j:=by
   rw[RL h0 O]at Z;exact Nw Z
  exact W.ki_setAt Y h0 (by omega) (by rw[M8, <-T];exact O) (by rw[U];exact⟨_,P,q⟩)
 ·have U:(k+(its.toArray.size:Int)).toNat=j:=by
   rw[seqIndex_neg (by omega) S]at Z;rw[M8, <-T];exact Nw Z
  exact W.ki_setBack Y (by omega) (by rw[M8, <-T];exact S) (by omega) (by rw[U];exact⟨_,P,q⟩)
theorem ub(Z Y:Option Int)(n:Nat):(wh Z Y none n).1=((HT.sIx n 0 Z:Nat):Int)/\(wh Z Y none n).2.1=((HT.sIx n n Y:Nat):Int)/\(wh Z Y none n).2.2=1:=by
 refine⟨?_,?_,rfl⟩
 ·cases Z with
  |none=>simp[wh,HT.sIx]
  |some i=>
   simp only[wh,HT.sIx,Option.getD_none,show(1:Int)>0 by decide,if_true];by_cases h:i<0
   ·simp only[h,if_true]<;>omega
   ·simp only[h,if_false]<;>omega
 ·cases Y with
  |none=>simp[wh,HT.sIx]
  |some i=>
   simp only[wh,HT.sIx,Option.getD_none,show(1:Int)>0 by decide,if_true];by_cases h:i<0
   ·simp only[h,if_true]<;>omega
   ·simp only[h,if_false]<;>omega
theorem sy(its:List a_)(Z Y:Option Int):slicePick its.toArray Z Y none=((its.drop (HT.sIx its.length 0 Z)).take (HT.sIx its.length its.length Y - HT.sIx its.length 0 Z)).toArray:=by obtain⟨U,T,W⟩:=ub Z Y its.toArray.size;unfold slicePick;rw[U,T,W];simp only[sliceRange_one,pick_run,mv]<;>rfl
def LX(K:dV):V->Option Int->Option Int->Hp->VK->Prop:=λx lo hi H Q=>∃a xs,x= .ref a/\lA K H a xs/\∀p,H p=none->Q (.ref p) (upd H p (.lst (sx xs lo hi)))
theorem E9:GE X (LX X.K):=by intro pins s σ H x v R N lo Z P Q I U hs T pu h;obtain⟨a,xs,rfl,S,q⟩:=h;cases U;obtain⟨its,r,Y,W⟩:=I.list S;have hlen:=r.length;refine⟨"list",_,slot_list_getitem.lookup,Y.isList.typeIs,?_⟩;refine wpAny_getItem_list_slice Y.isList hs T pu .none (by simp) ?_ (by rw[M8]<;>omega);rw[sy, <-hlen];refine⟨.ref s.heap.objs.size,_,I.laid (t':=s.toks) (o:=.lst (sx xs lo Z)) (λb O q=>MU _ q) (MV _) ?_,rfl,q _ (I.hok.fresh (MV _))⟩;exact⟨M7 (pG xs lo Z) W,_,0,(r.drop (HT.sIx xs.length 0 lo)).take (HT.sIx xs.length xs.length Z - HT.sIx xs.length 0 lo),M6 _ rfl⟩
theorem uc:dN X (.builtin "len") (λxs H Q=>∃p ys,xs=[.ref p]/\(lA X.K H p ys\/lQ X.K H p ys)/\Q (.int ys.length) H):=by
 intro pins s σ H xs us Q I r h;obtain⟨p,ys,rfl,Z,q⟩:=h;obtain⟨u,rfl,T⟩:=vals1 r;cases T;have S:=qx;rcases Z with Z|Z
 ·obtain⟨its,Y,W,U⟩:=I.list Z;have hlen:=Y.length;exact Calls.call_len_list W.isList (by simp only[mv]<;>omega) ⟨.int ys.length,H,I.tok _,⟨s.toks+1,by rw[M8,hlen]⟩,q⟩
 ·obtain⟨its,Y,W,U⟩:=I.tuple Z;have hlen:=Y.length;exact len_tuple W (by simp only[mv]<;>omega) ⟨.int ys.length,H,I.tok _,⟨s.toks+1,by rw[M8,hlen]⟩,q⟩
theorem dN.or{r Z:List V->Hp->VK->Prop}(h:dN X f r)(h':dN X f Z):dN X f (λxs H Q=>r xs H Q\/Z xs H Q):=by
 intro pins s σ H xs us Q I rs q;rcases q with q|q
 ·exact h pins s σ H xs us Q I rs q
 ·exact h' pins s σ H xs us Q I rs q
theorem ud:dN X (.type "list") (λxs H Q=>∃p ys,xs=[.ref p]/\(lA X.K H p ys\/lQ X.K H p ys)/\∀l,H l=none->Q (.ref l) (upd H l (.lst ys))):=by
 intro pins s σ H xs us Q I r h;obtain⟨p,ys,rfl,U,q⟩:=h;obtain⟨u,rfl,O⟩:=vals1 r;cases O;have fin:∀(its:List a_),bu ys its->ys.length<=sizeLine->∀(h':gd) (Z:Nat),(∀b o',s.heap.get? b=ar o'->h'.get? b=ar o')->
   h'.get? s.heap.objs.size=ar {cls:=.type "list",dict:=none,data:=.seq its.toArray Z,slots:= #[]}->EP X pins σ Q (.ref s.heap.objs.size) {s with heap:=h'}:=λits Y W h' Z T e=>
  ⟨.ref s.heap.objs.size,_,I.laid (t':=s.toks) T (MV _) (show bG X.prog X.w _ h' _ (.lst ys)from⟨W,its,Z,Y,e⟩),rfl,q _ (I.hok.fresh (MV _))⟩
 rcases U with U|U
 ·obtain⟨its,Y,P,W⟩:=I.list U;have hlen:=Y.length;obtain⟨o,S,R,n,hd⟩:=P.isList;exact call_list_seq p (.inl rfl) S R hd (λh' Z T e=>fin its Y W h' Z T e) (by simp only[mv]<;>omega)
 ·obtain⟨its,Y,P,W⟩:=I.tuple U;have hlen:=Y.length;obtain⟨o,S,R,n,hd⟩:=P;exact call_list_seq p (.inr rfl) S R hd (λh' Z T e=>fin its Y W h' Z T e) (by simp only[mv]<;>omega)
theorem sA:dN X (.type "tuple") (λxs H Q=>∃p ys,xs=[.ref p]/\((lA X.K H p ys/\∀l,H l=none->Q (.ref l) (upd H l (.tup ys)))\/(lQ X.K H p ys/\Q (.ref p) H))):=by
 intro pins s σ H xs us Q I r h;obtain⟨p,ys,rfl,h⟩:=h;obtain⟨u,rfl,T⟩:=vals1 r;cases T;rcases h with⟨hq,q⟩|⟨hq,q⟩
 ·obtain⟨its,Z,Y,U⟩:=I.list hq;have hlen:=Z.length;refine call_tuple_list Y.isList (λh' R=>?_) (by simp only[mv]<;>omega);have W:Inv X pins σ H {s with heap:=h'}:=I.kept (t':=s.toks) R;have S:Inv X pins σ (upd H h'.objs.size (.tup ys)) {s with heap:=h'.push {cls:=.type "tuple",data:=.seq its.toArray}}:=
   W.laid (t':=s.toks) (λb o e=>MU _ e) (MV _) (show bG X.prog X.w _ _ _ (.tup ys)from⟨t6 U,its,Z,Se _ _⟩)
  exact⟨.ref h'.objs.size,_,S,rfl,q _ (W.hok.fresh (MV _))⟩
 ·obtain⟨its,Z,Y,U⟩:=I.tuple hq;exact call_tuple_same Y ⟨.ref p,H,I,rfl,q⟩
def LY(K:dV)(T:String)(x:V)(H:Hp):Prop:=match x with
 | .str _=>T="str"
 | .int _=>T="int"
 | .ref p=>(T="list"/\∃xs,lA K H p xs)\/(T="tuple"/\∃xs,H p=ar (.tup xs))\/
   (T="dict"/\((∃kvs,H p=ar (.dK kvs))\/∃kvs,H p=ar (.dT kvs)))\/(T="set"/\∃S n,H p=ar (.set S n))
 |_=>False
theorem Ct(I:Inv X pins σ H s)(r:RelV x v)(Z:LY X.K T x H):
  s.TypeIs v T/\∀a,v= .ref a->∃ob,s.heap.get? a=ar ob/\ob.dict=none:=by
 cases x with
 |str z=>
  obtain⟨t,rfl⟩:=r;cases (show T="str" from Z);exact⟨typeIs_str s z t,λ_ e=>nomatch e⟩
 |int i=>
  obtain⟨t,rfl⟩:=r;cases (show T="int" from Z);exact⟨RX s i t,λ_ e=>nomatch e⟩
 | ref p=>
  cases r;rcases Z with⟨rfl,xs,hq⟩|⟨rfl,xs,hk⟩|⟨rfl,hk⟩|⟨rfl,S,n,hk⟩
  ·obtain⟨its,_,Y,_⟩:=I.list hq;refine⟨Y.isList.typeIs,λa e=>?_⟩;cases e;obtain⟨o,n,e,c,hd,_⟩:=Y;exact⟨o,e,hd⟩
  ·obtain⟨⟨_,o,e,hd⟩,its,_,pt⟩:=(show bG X.prog X.w H s.heap p (.tup xs)from I.hok p _ hk);refine⟨pt.typeIs,λa e2=>?_⟩;cases e2;exact⟨o,e,hd⟩
  ·have z:∃o,s.heap.get? p=ar o/\o.ExactDict:=by
    rcases hk with⟨kvs,hk⟩|⟨kvs,hk⟩
    ·obtain⟨_,_,_,_,o,_,_,e,ex,_⟩:=I.hok p _ hk;exact⟨o,e,ex⟩
    ·obtain⟨_,_,_,_,o,_,_,e,ex,_⟩:=I.hok p _ hk;exact⟨o,e,ex⟩
   obtain⟨o,e,ex⟩:=z;refine⟨⟨o,e,ex.1⟩,λa e2=>?_⟩;cases e2;exact⟨o,e,ex.2.1⟩
  ·obtain⟨o,_,_,_,e,ex,_⟩:=I.hok p _ hk;refine⟨⟨o,e,ex.1⟩,λa e2=>?_⟩;cases e2;exact⟨o,e,ex.2.1⟩
 |_=>exact g_ Z
def MG(K:dV)(T:String)(r:V->List V->Hp->VK->Prop)(to:TE)(t:TA):TE:=λσ H Q=>to σ H λx H1=>LY K T x H1/\t σ H1 λxs H2=>r x xs H2 Q
variable {o e:Expr}{es:List Expr}{to:TE}{t:TA}{name:Str}{apos cpos:Pos}{T id:String}{r:V->List V->Hp->VK->Prop}
theorem GG(F:PlainAttrs T)(U:Slot T name id)(R:typeOf (.builtin id)=aC (.type "method_descriptor"))(O:Lc X id r)(N:PE X o to)(J:PA X (e::es) t)
  (Y:lx o name X.env (hJ o X.env)=hJ o X.env:=by rfl)
  (S:((r_ cpos (d_ (e::es) X.env)).all (λx=> !x.1) && (backToKw cpos (keywordEach [] X.env)).all (λx=>x.1.isSome)
   && decide ((e::es).length+([]:List RP).length+(if ([]:List RP).isEmpty then 0 else 1)<30))=true:=by rfl)
  (W:(apos.endLine==cpos.line)=true:=by rfl) (hs:d_ (e::es) X.env=(dt,hJ e X.env)::d_ es X.env:=by rfl) (Z:(r_ cpos (d_ es X.env)).any (·.1)=false:=by rfl):
  PE X (.Call (.Attribute o name apos) (e::es) [] cpos) (MG X.K T r to t):=by
 intro pins s σ H Q I h;refine wpAny_Call_method_late Y S W rfl (eJ (N pins s σ H _ I h) λv s1 ⟨x,H1,I1,r1,ty,q1⟩=>?_);obtain⟨G,L⟩:=Ct I1 r1 ty;refine⟨T,id,F,U,R,G,L,?_⟩;have P:=J cpos pins s1 σ H1 _ I1 q1;rw[hs]at P⊢;refine Calls.callWith_builtin (by show(dt||(r_ cpos (d_ es X.env)).any (·.1))=dt;rw[Z]<;>rfl) (P9 ?_);exact eJ P λus s2 ⟨vs,H2,I2,r2,q2⟩=>O pins s2 σ H2 x vs v us Q I2 r1 r2 q2
end
def Mt(X:Cx)(id:String)(r:V->List V->Hp->VK->Prop):Prop:=
 ∀(pins:List (c_×Obj)) (s:dn) (σ:St) (H:Hp) (x:V) (xs:List V) (v:a_) (us:List a_) (Q:VK),Inv X pins σ H s->RelV x v->bu xs us->r x xs H Q->
  ee (fg X.prog X.w) X.A (call (.builtin id) (v::us)) (EP X pins σ Q) X.xe s
theorem bu.one:∀{x:V} {us:List a_},bu [x] us->∃u,us=[u]/\RelV x u
 |_,_,.cons r .nil=>⟨_,rfl,r⟩
theorem bu.eraseIdx:∀{xs:List V} {us:List a_} (i:Nat),bu xs us->bu (xs.eraseIdx i) (us.eraseIdx i)
 |_,_,_,.nil=>.nil
 |_,_,0,.cons _ t=>t
 |_,_,i+1,.cons r t=>.cons r (bu.eraseIdx i t)
theorem bu.rep{xs:List V}{us:List a_}(h:bu xs us):∀k:Nat,bu (eb k xs).flatten (eb k us).flatten
 |0=>.nil
 |k+1=>by
  rw[NK,NK,Oz,Oz];exact bu.append h (bu.rep h k)
theorem sX{α:Type}:∀(l:List α) (i:Nat),(l.eraseIdx i).length<=l.length
 |[],_=>MV _
 |_::_,0=>Pm _
 |_::r,i+1=>Pi (sX r i)
theorem foldl_rep(its:List a_):∀(k:Nat) (acc:List a_),
  RY (λZ Y=>Z++Y) acc.toArray (eb k its.toArray)=(acc++(eb k its).flatten).toArray
 |0,acc=>by simp
 | k+1,acc=>by
  have e:acc.toArray++its.toArray=(acc++its).toArray:=by simp
  have e2:(acc++its)++(eb k its).flatten=acc++(eb (k+1) its).flatten:=by rw[NK,Oz,Nh]
  rw[<-e2, <-foldl_rep its k (acc++its), <-e,NK,List.foldl_cons]
section
variable {X:Cx}{pins:List (c_×Obj)}{σ:St}{H:Hp}{s:dn}{l b:c_}{xs ys zs:List V}
theorem Inv.lset{its its':List a_}{f:Array a_->Array a_}(I:Inv X pins σ H s)(W:H l=ar (.lst xs))
  (e:s.heap.get? l=ar {cls:=.type "list",data:=.seq its.toArray n}) (Y:f its.toArray=its'.toArray) (U:bu ys its') (Z:ys.length<=sizeLine):
  Inv X pins σ (upd H l (.lst ys)) {s with heap:=s.heap.update l (l_ f),toks:=t'}:=by
 have q:=PySem.IsL.update e f;rw[Y]at q;refine I.write (x:=l) (e:=l) (by rw[W];exact trivial) (.inl rfl) (λR u S T=>(NJ s.heap (l_ f) (j' S)).trans T) ⟨_,q⟩ ?_;exact⟨Z,its',_,U,q⟩
theorem Inv.lnew(I:Inv X pins σ H s)(Y:bu ys its)(Z:ys.length<=sizeLine):
  Inv X pins σ (upd H s.heap.objs.size (.lst ys)) {s with heap:=s.heap.push {cls:=.type "list",data:=.seq its.toArray},toks:=t'}:=
 I.laid (λ_ _ q=>MU _ q) (MV _) ⟨Z,its,0,Y,M6 _ rfl⟩
theorem Inv.fresh(I:Inv X pins σ H s):H s.heap.objs.size=none:=I.hok.fresh (MV _)
theorem Inv.lstM(I:Inv X pins σ H s)(Z:H l=ar (.lst xs)):xs.length<=sizeLine/\∃(its:List a_) (n:Nat),bu xs its/\xs.length=its.length/\s.heap.get? l=ar {cls:=.type "list",data:=.seq its.toArray n}:=by obtain⟨z,its,n,r,e⟩:=I.hok l _ Z;exact⟨z,its,n,r,r.length,e⟩
theorem vS(h:n<=sizeLine):p0 n=false:=by unfold p0;exact Nv (by omega)
end
section
variable {X:Cx}
def yS:V->List V->Hp->VK->Prop:=λx vs H Q=>∃l xs y,x= .ref l/\vs=[y]/\H l=ar (.lst xs)/\xs.length<sizeLine/\Q .non (upd H l (.lst (xs++[y])))
theorem oM:Mt X "list.append" yS:=by intro pins s σ H x vs v us Q I Y W h;obtain⟨l,xs,y,rfl,rfl,Z,T,q⟩:=h;cases Y;obtain⟨u,rfl,U⟩:=W.one;obtain⟨z,its,n,r,S,e⟩:=I.lstM Z;refine QF F.slot_list_append ⟨_,e,rfl⟩ F.entry_list_append (F.args_list_append_2 _ _) (PySem.list_append l its.toArray n u (by rw[M8];omega)) ⟨e,?_⟩;refine⟨.non,_,I.lset (its':=its++[u]) Z e (by simp) (r.append (.cons U .nil)) ?_,rfl,q⟩;rw[MT,PY];omega
def Cu:V->List V->Hp->VK->Prop:=λx vs H Q=>∃l xs i k y,x= .ref l/\vs=[.int i]/\H l=ar (.lst xs)/\ -(2 ^ 63)<=i/\i<2 ^ 63/\RG i xs.length=ar k/\xs[k]? =ar y/\Q y (upd H l (.lst (xs.eraseIdx k)))
theorem Cv:Mt X "list.pop" Cu:=by
 intro pins s σ H x vs v us Q I T S h;obtain⟨l,xs,i,k,y,rfl,rfl,Y,P,U,W,N,q⟩:=h;cases T;obtain⟨u,rfl,O⟩:=S.one;obtain⟨t,rfl⟩:=O;obtain⟨z,its,n,r,R,e⟩:=I.lstM Y;obtain⟨w,hw,Z⟩:=r.get N;refine QF F.slot_list_pop ⟨_,e,rfl⟩ F.entry_list_pop (F.args_list_pop_2 _ _)
  (MeetsSeq.list_pop_at l its.toArray n i t k w (fitsIndex_both P U) (by rw[M8, <-R];exact W) (by rw[<-Ny];exact hw) (by rw[M8];omega)) ⟨e,?_⟩
 refine⟨y,_,I.lset (its':=its.eraseIdx k) Y e ?_ (r.eraseIdx k) ?_,Z,q⟩
 ·show its.toArray.eraseIdxIfInBounds k=(its.eraseIdx k).toArray;rw[List.eraseIdxIfInBounds_toArray]
 ·have:=sX xs k;omega
def J7:R2:=λx y H Q=>∃l k xs,x= .ref l/\y= .int k/\H l=ar (.lst xs)/\ -(2 ^ 63)<=k/\k<2 ^ 63/\xs.length*k.toNat<=sizeLine/\
 ∀p,H p=none->Q (.ref p) (upd H p (.lst (eb k.toNat xs).flatten))
theorem len_rep{α:Type}(xs:List α)(k:Nat):(eb k xs).flatten.length=k*xs.length:=by
 induction k with
 |zero=>simp
 |succ k ih=>rw[NK,Oz,MT,ih,Nat.succ_mul,Nat.add_comm]
theorem HI:jA X (rA .Mult) J7:=by
 intro pins s σ H x y v u Q I J N h;obtain⟨l,k,xs,rfl,rfl,L,E,K,O,q⟩:=h;cases J;obtain⟨t,rfl⟩:=N;obtain⟨z,its,n,r,G,e⟩:=I.lstM L;have hlen:its.toArray.size*k.toNat<=sizeLine:=by rw[M8, <-G];exact O
 have S:¬ its.toArray.size*k.toNat>(2 ^ 63 - 1) / 8:=by
  have:(sizeLine:Nat)<=(2 ^ 63 - 1) / 8:=by decide
  omega
 have W:¬ (!Builtin.List.listFitsIndex k)=true:=by rw[fitsIndex_both E K];exact N6
 have Z:¬ p0 (its.toArray.size*k.toNat)=true:=by rw[vS hlen];exact N6
 have Y:RY (λP R=>P++R) #[] (eb (if its.toArray.isEmpty=b_ then 0 else k.toNat) its.toArray)=(eb k.toNat its).flatten.toArray:=by
  have f0:∀m:Nat,RY (λP R=>P++R) #[] (eb m its.toArray)=(eb m its).flatten.toArray:=λm=>by have:=foldl_rep its m [];rw[Qg]at this;exact this
  rw[f0];cases its with
  |nil=>simp
  |cons a r'=>rw[if_neg (by simp)]
 refine wpAny_binaryOp_repeat_ref (T:="list") (U:="int") (by decide) ⟨_,e,rfl⟩ (λs'=>RX s' k t) noFill_list_mul F.fills_int_mul F.slot_int_rmul repeat_list F.slot_int_index.lookup
  (QF F.slot_int_rmul (RX s k t) F.entry_int_rmul (F.args_int_rmul_2 _ _) (int___rmul___int_list k t l its.toArray n)
   ⟨e,rfl,⟨_,e,rfl⟩,QF F.slot_list_mul ⟨_,e,rfl⟩ F.entry_list_mul (F.args_list_mul_2 _ _) (AutoListH.list___mul___list_int_3 l its.toArray n k t W S Z) ⟨e,?_⟩⟩)
 rw[Y];exact⟨.ref _,_,I.lnew (t':=s.toks) (r.rep k.toNat) (by rw[len_rep,Nat.mul_comm];exact O),rfl,q _ I.fresh⟩
end
section
variable {prog:er}{w:fc}{A:hS}{E:a_->dn->Prop}{s:dn}
end
section
variable {X:Cx}
end
end L2
namespace Att
open PySem PySem.W PySem.Calls PyProof.Rows
theorem pS:∀(ns:List Int) (vs:List a_),WellAll P h vs (ns.map WData.int)->m2 vs ns:=by
 intro ns
 induction ns with
 |nil=>
  intro vs w;rw[Oo]at w;cases w;exact .nil
 | cons n ns ih=>
  intro vs w;rw[Nd]at w;cases w with
  |cons a b=>
   cases a;exact .cons _ _ (ih _ b)
theorem AV{l:SX}(O:l.most=ar n)
  (Z:l.row.toRowW.claim.pre args=b_) (W:WellAll P h vals args):
  ∃a vs ns,vals=[eo a]/\args=[WData.list (ns.map WData.int)]/\h.get? a=ar {cls:=.type "list",data:=.seq vs.toArray}/\m2 vs ns/\ns.length<=n:=by
 have i4:WShape.hasAll [] args [.list .int]=true:=(pre_splitW Z).1;have U:l.pre.holds [] {args:=args}=true:=(pre_splitW Z).2;obtain⟨d,r,rfl,Q,S⟩:=hasAllW_cons i4;obtain rfl:=hasAllW_nil S;obtain⟨xs,rfl,T⟩:=hasW_list Q;obtain⟨ns,rfl⟩:=items_int T;have hlen:ns.length<=n:=by
  unfold OpenLaw.pre at U;have X:(WTm.not (.lt (.lit (.int (n:Int))) (.len (.arg 0)))).holds [] {args:=[.list (ns.map .int)]}=true:=by have X:=(holds_andW U).1;rw[O]at X;exact X
  have Y:=condW_of X (w_not (w_lt w_lit (w_len_list (w_arg rfl))));rw[MS]at Y;refine Q0 λq=>?_;have R:(n:Int)<((ns.length:Nat):Int):=by omega
  first
   |(rw[Nb R]at Y;exact absurd Y (by decide))
   |(simp at Y;omega)
 cases W with
 |cons w1 w2=>
  cases w2;cases w1 with
  |list ho hall=>exact⟨_,_,ns,rfl,rfl,ho,pS ns _ hall,hlen⟩
theorem AW(l:SX)(args:List WData):l.row.toRowW.claim.post args (.bool b_) args=true:=
 postW_of (r:=l.row.toRowW) (X:=(b_==b_))
  (show WShape.has [] (.bool b_) .bool=b_ by first|rfl|decide|simp[WShape.has,WShape.arms,WShape.armsAll])
  (show(WTm.eq .res (.lit (.bool b_))).value [] {args:=args,res:=ar (.bool b_),after:=args}=ar (.bool (b_==b_))from w_eq_bool (w_res rfl) w_lit) rfl
theorem attach_call{l:SX}{YP:fc->gd->Prop}{d:SM}
  (F:l.most=ar n) (P:d.params.defaults=[])
  (U:∀(w:fc) (s₀ Z:dn) (S R:Str->Option a_) (W:c_) (o:Obj) (pm cd doc:a_) (a:c_) (vs:List a_) (ns:List Int),
   Ground q loose [] XP w s₀ S R Z.heap->YP w Z.heap->
   Z.heap.get? W=ar o->o.data= .func (docDef d.name d.params d.body d.scope pm cd doc)->Z.heap.CodeRec cd d.name->S d.name=ar (.ref W)->
   Z.heap.get? a=ar {cls:=.type "list",data:=.seq vs.toArray}->m2 vs ns->ns.length<=n->Z.gens= #[]->
   B' (fg l.prog w) xk (.call (.ref W) ⟨[.ref a],[]⟩) (λr s'=>r= .ok (.ret (.bool b_))/\OldK Z.heap s'.heap/\s'.os=Z.os/\y_ s'.gens) Z):
  WalkO q loose XP YP l.row.toRowW d [] (λf vs=>PySem.call f vs):=by
 intro w s₀ Z S R G Y W o pm cd doc E kV I hd N L Q B args vals as T K H O y;obtain rfl:E= .none:=Dflts.none L P;obtain rfl:kV= .none:=Dflts.noKw L;obtain⟨a,vs,ns,rfl,rfl,X,hints,hlen⟩:=AV F T O;refine enter_call (OO (U w s₀ Z S R W o pm cd doc a vs ns G Y I (fd_plain hd) N Q X hints hlen B) λr s' z=>?_);obtain⟨rfl,A,J,C⟩:=z;exact⟨.inl ⟨.bool b_,.bool b_,[],rfl,λ_=>rfl,.bool b_,AW l _,λ_=>⟨List.Pairwise.nil,λ_ hm=>(nomatch hm)⟩⟩,A,J,C⟩
section
variable {prog:er}{w:fc}{A:hS}{E:a_->dn->Prop}{s:dn}{K:S_}
def ledger(h:gd)(L d:c_):List (c_×Obj):=(dr h.objs.size).filterMap λa=>if a=L\/a=d then none else (h.get? a).map λo=>(a,o)
end
end Att
namespace L2
open PySem PySem.Spec PyProof.Rows
theorem jB:∀{vs:List a_} {ns:List Int},m2 vs ns->bu (ns.map V.int) vs
 |_,_,.nil=>.nil
 |_,_,.cons n t h=>.cons ⟨t,rfl⟩ (jB h)
def HJ(H:Hp):Prop:=∀b,H b=none\/∃o xs,H b=ar (.frz o (.lst xs))
theorem Cw{K:dV}{E:Str->Option a_}{l:B0}{sp:Sp}{Z:dn}{vs:List a_}
  (f:K.In Z.heap) (Q:Z.heap.Ns gc mg) (X:Z.heap.Ns wd E) (A:∀x:Str,x≠"__name__"->E x=k_ x) (J:Z.heap.NoLimit) (hg:Z.gens= #[])
  (I:Z.heap.get? a=ar {cls:=.type "list",data:=.seq vs.toArray}) (j:m2 vs ns) (g:ns.length<=sizeLine) (hr:Room k xk)
  (F:∀base:gd,K.In base->base.Ns gc mg->FnOk P w K mg base l k fa fd [x] sp) (T:∀(s:dn) (u:a_),F0 s fd ⟨[u],[]⟩ [(x,u)])
  (C:∀H:Hp,HJ H->lA K H a (ns.map V.int)->sp [.ref a] H (λv _=>v= .bl b_) λ_ _ _=>False)
  (G:∀H e s',l [] H Z (λ_ _ _=>False) e s'->False):
  B' (fg P w) xk (.call (.ref fa) ⟨[.ref a],[]⟩) (λr s'=>r= .ok (.ret (.bool b_))/\OldK Z.heap s'.heap/\s'.os=Z.os/\y_ s'.gens) Z:=by
 have i:=jB j;have L:=j.length;have core:∀H:Hp,HJ H->lA K H a (ns.map V.int)->ij P w H Z.heap->(∀b,H b≠none->b=a)->(H a≠none->K.lookup a=none)->
   B' (fg P w) xk (.call (.ref fa) ⟨[.ref a],[]⟩) (λr s'=>r= .ok (.ret (.bool b_))/\OldK Z.heap s'.heap/\s'.os=Z.os/\y_ s'.gens) Z:=by
  intro H t c O p hK;have Y:∀{b:c_} {o:Obj},Z.heap.get? b=ar o->H b=none->(lO Z.heap H).get? b=ar o:=λe n=>mW e n;have B:∀{b:c_} {o:Obj} {es:Array DictEntry} {ep:Nat},Z.heap.get? b=ar o->o.data= .dict es ep->H b=none:=λ{b o es ep} e d=>by
   cases q:H b with
   |none=>rfl
   |some u=>
    have y:b=a:=p b (by rw[q];simp);subst y;rw[I]at e;cases e;have d':Data.seq vs.toArray _=Data.dict es ep:=d;cases d'
  have U:∀{b:c_} {m:Str->Option a_},Z.heap.Ns b m->(lO Z.heap H).Ns b m:=λ{b m} ⟨o,es,ep,e,d,r⟩=>⟨o,es,ep,Y e (B e d),d,r⟩;have S:K.In (lO Z.heap H):=λb o e=>Y (f b o e) (by
   cases q:H b with
   |none=>rfl
   |some u=>
    have y:b=a:=p b (by rw[q];simp);subst y;rw[hK (by rw[q];simp)]at e;cases e)
  have hM:Mod K mg (lO Z.heap H):=⟨S,U Q,⟨E,U X,A⟩,let ⟨mc,h1,h2⟩:=J;⟨mc,U h1,h2⟩⟩;have e0:aI P w K mg (lO Z.heap H) xk [] Z H:=⟨rfl,hM,λb o e=>t7 e,Pq (oJ _ _),trivial,λb X=>absurd (show b∈([]:List c_)from X) (by simp),O,.of_eq hg⟩;refine OO ((F _ S (U Q)).run xk [] Z H ⟨[.ref a],[]⟩ [.ref a] [.ref a] _ _ hr e0 (T Z (.ref a)) (.cons rfl .nil) (C H t c)) λr s' h=>?_;cases r with
  |error e=>exact(G H e s' h).elim
  | ok fl=>
   cases fl with
   |next=>exact g_ h
   |brk=>exact g_ h
   |cont=>exact g_ h
   | ret u=>
    obtain⟨v,H',os,bare,un,N,r',q⟩:=h;have q':v= .bl true:=q;subst q';obtain rfl:u=u0 true:=r';refine⟨rfl,OldK.of_keep λb o e=>?_,os,bare⟩;cases q:H b with
    |none=>exact un.keep b o e q (by intro z;exact absurd (show b∈([]:List c_)from z) (by simp)) (by simp)
    | some u=>
     rcases t b with z|⟨ob,xs,z⟩
     ·rw[q]at z;cases z
     ·have z2:=un.frzs b ob _ z;obtain⟨e1,_⟩:=O b _ z;obtain⟨e2,_⟩:=N b _ z2;rw[e]at e1;cases e1;exact e2
 cases hk:K.lookup a with
 |some o=>
  have e:=f a o hk;rw[I]at e;cases e;refine core (λ_=>none) (λ_=>.inl rfl) (.inr ⟨_,vs.toArray,_,hk,rfl,rfl,rfl,by rw[M8,L];exact g,by simpa using i⟩) (λb u z=>by have R:(none:Option HO)=ar u:=z;cases R) (λb z=>absurd rfl z) λz=>absurd rfl z
 | none=>
  refine core (λb=>if b=a then ar (.frz {cls:=.type "list",data:=.seq vs.toArray} (.lst (ns.map V.int)))else none) (λb=>?_) (.inl (.inr ⟨{cls:=.type "list",data:=.seq vs.toArray},if_pos rfl⟩)) (λb u z=>?_) (λb z=>?_) λ_=>hk
  ·by_cases X:b=a
   ·exact .inr ⟨_,_,if_pos X⟩
   ·exact .inl (if_neg X)
  ·by_cases X:b=a
   ·have R:=(if_pos X).symm.trans z;cases R;subst X;exact⟨I,by rw[MS];exact g,vs,_,i,I⟩
   ·have R:=(if_neg X).symm.trans z;cases R
  ·by_cases X:b=a
   ·exact X
   ·exact absurd (if_neg X) z
abbrev MQ{K:dV}{h:gd}(_:K.In h):W.Frag:=K
theorem Ld{l:Sg}{YP:fc->gd->Prop}{d:SM}{K:O'->dV}{L:fc->B0}{sp:fc->Sp}
  (A:l.most=ar n) (O:n<=sizeLine) (N:d.params.defaults=[]) (z:Room k xk)
  (r:∀(w:fc) (h:gd),YP w h->(K w.params).In h)
  (F:∀(w:fc) (Z:Str->Option a_) (S:c_) (h:gd),(K w.params).In h->h.Ns gc Z->Z d.name=ar (.ref S)->
   ∃fd:gg,(∀(s:dn) (u:a_),F0 s fd ⟨[u],[]⟩ [(x,u)])/\
    ∀base:gd,(K w.params).In base->base.Ns gc Z->FnOk l.prog w (K w.params) Z base (L w) k S fd [x] (sp w))
  (Q:∀(w:fc) (H:Hp) (a:c_) (ns:List Int),ns.length<=n->HJ H->lA (K w.params) H a (ns.map V.int)->sp w [.ref a] H (λv _=>v= .bl b_) λ_ _ _=>False)
  (R:∀(w:fc) (H:Hp) (s:dn) (e:a_) (s':dn),L w [] H s (λ_ _ _=>False) e s'->False):
  SY q loose XP YP l.row.toRowW d [] (λf vs=>PySem.call f vs):=by
 refine Att.attach_call A N λw s₀ U Z p S o pm cd doc a vs ns G Y m hd B P X hints hlen t=>?_;have J:=r w _ Y;obtain⟨fd,y,C⟩:=F w Z S _ J G.T.g P;exact Cw J G.T.g G.T.b G.T.builtins G.T.nolimit t X hints (M7 hlen O) z C y (λH E I=>Q w H a ns hlen E I) λH e s'=>R w H U e s'
def gJ(s:oo):Arguments:=match s with
 | .FunctionDef _ a _ _ _ _ _ _ _ _=>a
 |_=>{posonlyargs:=[],args:=[],vararg:=none,kwonlyargs:=[],kw_defaults:=[],kwarg:=none,defaults:=[]}
def dJ(s:oo):List Stmt:=match s with
 | .FunctionDef _ _ b _ _ _ _ _ _ _=>b
 |_=>[]
def ao(s:oo):Scope:=match s with
 | .FunctionDef _ _ _ _ _ _ sc _ _ _=>sc
 |_=>{kind:=.function,names:=[],isGenerator:=dt,isCoroutine:=dt}
abbrev MH:B0:=λ_ _ _ _ _ _=>False
abbrev E0:XK:=λ_ _ _=>False
structure Fun(K:dV)(x qual:Str)(st:oo)(f:c_)(fd:gg):Prop where
 ex:∃(oc:a_) (od:Option c_) (kV doc pm:a_) (an:Option c_) (cdv ct:a_) (osl:Array (Option a_)),
  fd=y2 x qual (gJ st) (dJ st) (ao st) .none kV doc pm an cdv ct/\K.lookup f=ar ⟨oc,od,.func fd,osl⟩/\QO K cdv qual=b_
 kp:xg K (.ref f)=b_
section
variable {P:er}{w:fc}{K:dV}{mg:Str->Option a_}{base:gd}
theorem Fun.binds{x qual:Str}{Y:oo}{f:c_}{U:gg}{X:List Str}(F:Fun K x qual Y f U)
  (h:∀(kV doc pm:a_) (an:Option c_) (Z ct:a_) (us:List a_),us.length=X.length->Rx (y2 x qual (gJ Y) (dJ Y) (ao Y) .none kV doc pm an Z ct) ⟨us,[]⟩=aC (X.zip us)):Binds K U X []:=by
 obtain⟨R,od,kV,doc,pm,an,Z,ct,T,rfl,Q,S⟩:=F.ex;exact .all (h kV doc pm an Z ct)
theorem HK{x qual:Str}{Y:oo}{f:c_}{R:a_}{od T:Option c_}{U:Array (Option a_)}{kV X S Z ct:a_}(l:K.lookup f=ar ⟨R,od,.func (y2 x qual (gJ Y) (dJ Y) (ao Y) .none kV X S T Z ct),U⟩)
  (c:QO K Z qual=b_) (k:xg K (.ref f)=b_):Fun K x qual Y f (y2 x qual (gJ Y) (dJ Y) (ao Y) .none kV X S T Z ct):=⟨⟨R,od,kV,X,S,T,Z,ct,U,rfl,l,c⟩,k⟩
end
section
variable {X:Cx}
end
end L2
end
namespace S3
open PySem PySem.W PyProof.Rows
def bA{α:Type}(b:Nat->Nat->Bool):SN α->α
 | .ret a=>a
 | .ask i j k=>bA b (k (b i j))
theorem iK{α Z:Type}(b:Nat->Nat->Bool)(f:α->SN Z):∀t:SN α,bA b (t.bind f)=bA b (f (bA b t))
 | .ret _=>rfl
 | .ask i j k=>iK b f (k (b i j))
section
variable (r:Nat->Nat)
abbrev eU:Nat->Nat->Bool:=λi j=>decide (r i<r j)
def ka(p:Array Nat)(k:Nat):Nat:=r (p.getD k 0)
def Cy(p:Array Nat)(n:Nat):Prop:=∀i j,i<=j->j<n->ka r p i<=ka r p j
def LZ(p:Array Nat)(n:Nat):Prop:=∀i j,i<=j->j<n->ka r p j<=ka r p i
variable {r}
theorem m3{p q:Array Nat}{i j:Nat}(h:p[i]? =q[j]?):p.getD i 0=q.getD j 0:=by rw[NG,NG,h]
theorem ue{p:Array Nat}{i j:Nat}(Z:j<=p.size)(k:Nat):ka r (u5 p i j) k=if i<=k/\k<j then ka r p (i+j - 1 - k)else ka r p k:=by
 have h:=getElem?_mirror_all (i:=i) Z k;unfold ka u5;by_cases c:i<=k/\k<j
 ·rw[if_pos c]at h⊢;rw[m3 h]
 ·rw[if_neg c]at h⊢;rw[m3 h]
theorem sY{p:Array Nat}{Z d:Nat}(hs:Z<p.size)(Y:d<=Z)(k:Nat):ka r (SQ p Z d) k=if k=Z - d then ka r p Z else if Z - d<k/\k<=Z then ka r p (k - 1)else ka r p k:=by
 have h:=getElem?_bubble hs d Y k;unfold ka;by_cases c:k=Z - d
 ·rw[if_pos c]at h⊢;rw[m3 h]
 ·rw[if_neg c]at h⊢;by_cases c2:Z - d<k/\k<=Z
  ·rw[if_pos c2]at h⊢;rw[m3 h]
  ·rw[if_neg c2]at h⊢;rw[m3 h]
theorem qC:(u5 p i j).size=p.size:=mirror_size _ _ _ _
theorem fU:(u5 p i j).Perm p:=mirror_perm _ _ _ _
theorem uf:∀(f n:Nat),1<=n->Cy r p n->n<=bA (eU r) (t_ p f n)/\bA (eU r) (t_ p f n)<=n+f/\Cy r p (bA (eU r) (t_ p f n))
 |0,n,h1,h=>⟨MV _,MV _,h⟩
 | f +1,n,h1,h=>by
  show n<=bA (eU r) (if (eU r) (p.getD n 0) (p.getD (n - 1) 0)=b_ then RA n else t_ p f (n+1))/\bA (eU r) (if (eU r) (p.getD n 0) (p.getD (n - 1) 0)=b_ then RA n else t_ p f (n+1))<=n+(f+1)/\Cy r p (bA (eU r) (if (eU r) (p.getD n 0) (p.getD (n - 1) 0)=b_ then RA n else t_ p f (n+1)));by_cases c:(eU r) (p.getD n 0) (p.getD (n - 1) 0)=b_
  ·rw[if_pos c];exact⟨MV _,by show n<=n+(f+1);omega,h⟩
  ·rw[if_neg c];have Y:ka r p (n - 1)<=ka r p n:=by
    exact Q0 λz=>c (Nb z)
   obtain⟨a1,a2,a3⟩:=uf f (n+1) (by omega) (λi j Z X=>by
    by_cases e:j=n
    ·subst e;by_cases e2:i=j
     ·subst e2;exact MV _
     ·exact M7 (h i (j - 1) (by omega) (by omega)) Y
    ·exact h i j Z (by omega))
   exact⟨by omega,by omega,a3⟩
structure Down(r:Nat->Nat)(p:Array Nat)(n q:Nat):Prop where
 dsc:LZ r p n
 q1:q+1<=n
 eqs:∀k,n - (q+1)<=k->k<n->ka r p k=ka r p (n - 1)
theorem qD{p:Array Nat}(Z:n<=p.size)(h:Down r p n q):∀k,ka r (u5 p (n - (q+1)) n) k=ka r p k:=λk=>by
 rw[ue Z];split
 ·next c=>rw[h.eqs k c.1 c.2,h.eqs _ (by omega) (by omega)]
 ·rfl
theorem m4:∀(f:Nat) (p:Array Nat) (n q:Nat),n+f<=p.size->Down r p n q->
  Down r (bA (eU r) (u4 f p n q)).1 (bA (eU r) (u4 f p n q)).2.1 (bA (eU r) (u4 f p n q)).2.2/\(bA (eU r) (u4 f p n q)).1.Perm p/\n<=(bA (eU r) (u4 f p n q)).2.1/\(bA (eU r) (u4 f p n q)).2.1<=n+f
 |0,p,n,q,hs,h=>⟨h,Px _,MV _,MV _⟩
 | f +1,p,n,q,hs,h=>by
  have e:bA (eU r) (u4 (f+1) p n q)=if ka r p n<ka r p (n - 1)then (if q>0 then bA (eU r) (u4 f (u5 p (n - (q+1)) n) (n+1) 0)else bA (eU r) (u4 f p (n+1) 0))
    else if ka r p (n - 1)<ka r p n then (p,n,q)else bA (eU r) (u4 f p (n+1) (q+1)):=by
   show bA (eU r) (if (eU r) (p.getD n 0) (p.getD (n - 1) 0)=b_ then _ else _)=_;unfold ka;by_cases c:r (p.getD n 0)<r (p.getD (n - 1) 0)
   ·rw[if_pos (by simpa using c),if_pos c];split<;>rfl
   ·rw[if_neg (by simpa using c),if_neg c];show bA (eU r) (if (eU r) (p.getD (n - 1) 0) (p.getD n 0)=b_ then _ else _)=_;by_cases c2:r (p.getD (n - 1) 0)<r (p.getD n 0)
    ·rw[if_pos (by simpa using c2),if_pos c2];rfl
    ·rw[if_neg (by simpa using c2),if_neg c2]
  have X:=h.q1;have ext:∀{p':Array Nat} {q':Nat},(∀k,ka r p' k=ka r p k)->ka r p n<=ka r p (n - 1)->(q'=0\/(q'=q+1/\ka r p n=ka r p (n - 1)))->Down r p' (n+1) q':=λ{p' q'} hk hle hq=>by
   refine⟨λi j Z U=>?_,by omega,λk Y W=>?_⟩
   ·rw[hk,hk];by_cases ej:j=n
    ·subst ej;by_cases e2:i=j
     ·subst e2;exact MV _
     ·exact M7 hle (h.dsc i (j - 1) (by omega) (by omega))
    ·exact h.dsc i j Z (by omega)
   ·rw[hk,hk,show n+1 - 1=n by omega];rcases hq with rfl|⟨rfl,he⟩
    ·have:k=n:=by omega
     subst this;rfl
    ·by_cases ek:k=n
     ·subst ek;rfl
     ·rw[he];exact h.eqs k (by omega) (by omega)
  rw[e];by_cases c:ka r p n<ka r p (n - 1)
  ·rw[if_pos c];by_cases hq:q>0
   ·rw[if_pos hq];obtain⟨a1,a2,a3,a4⟩:=m4 f (u5 p (n - (q+1)) n) (n+1) 0 (by rw[qC];omega) (ext (qD (by omega) h) (by omega) (.inl rfl));exact⟨a1,a2.trans fU,by omega,by omega⟩
   ·rw[if_neg hq];obtain⟨a1,a2,a3,a4⟩:=m4 f p (n+1) 0 (by omega) (ext (λ_=>rfl) (by omega) (.inl rfl));exact⟨a1,a2,by omega,by omega⟩
  ·rw[if_neg c];by_cases c2:ka r p (n - 1)<ka r p n
   ·rw[if_pos c2];exact⟨h,Px _,MV _,by show n<=n+(f+1);omega⟩
   ·rw[if_neg c2];obtain⟨a1,a2,a3,a4⟩:=m4 f p (n+1) (q+1) (by omega) (ext (λ_=>rfl) (by omega) (.inr ⟨rfl,by omega⟩));exact⟨a1,a2,by omega,by omega⟩
structure Got(r:Nat->Nat)(nrem:Nat)(p:Array Nat)(g:Nat×Array Nat):Prop where
 asc:Cy r g.2 g.1
 le:g.1<=nrem
 pos:1<=g.1
 perm:g.2.Perm p
theorem sZ{p:Array Nat}(Y:1<=n)(W:n<=nrem)(hs:nrem<=p.size)(h:LZ r p n):Got r nrem p (bA (eU r) (Sh n nrem p)):=by
 unfold Sh;rw[iK];have X:Cy r (u5 p 0 n) n:=λi j Z U=>by rw[ue (by omega),ue (by omega),if_pos ⟨by omega,by omega⟩,if_pos ⟨by omega,by omega⟩];exact h _ _ (by omega) (by omega)
 obtain⟨a1,a2,a3⟩:=uf (p:=u5 p 0 n) (nrem - n) n Y X;exact⟨a3,by show bA (eU r) (t_ (u5 p 0 n) (nrem - n) n)<=nrem;omega,by show 1<=bA (eU r) (t_ (u5 p 0 n) (nrem - n) n);omega,fU⟩
theorem m5{p:Array Nat}(S:n<nrem)(hs:nrem<=p.size)(h:Down r p (n+1) 0):Got r nrem p (bA (eU r) (RB n nrem p)):=by
 unfold RB;rw[iK];obtain⟨a1,a2,a3,a4⟩:=m4 (nrem - (n+1)) p (n+1) 0 (by omega) h;generalize bA (eU r) (u4 (nrem - (n+1)) p (n+1) 0)=d at a1 a2 a3 a4;obtain⟨W,Z,X⟩:=d;dsimp only at a1 a2 a3 a4;have Y:W.size=p.size:=a2.size_eq;by_cases hq:X>0
 ·show Got r nrem p (bA (eU r) (if X>0 then _ else _));rw[if_pos hq];have hd:LZ r (u5 W (Z - (X+1)) Z) Z:=λi j U T=>by
   rw[qD (show Z<=W.size by omega) a1,qD (show Z<=W.size by omega) a1];exact a1.dsc i j U T
  have:=sZ (n:=Z) (nrem:=nrem) (by omega) (by omega) (by rw[qC,Y];exact hs) hd;exact⟨this.asc,this.le,this.pos,(this.perm.trans fU).trans a2⟩
 ·show Got r nrem p (bA (eU r) (if X>0 then _ else _));rw[if_neg hq];have:=sZ (n:=Z) (nrem:=nrem) (by omega) (by omega) (by rw[Y];exact hs) a1.dsc;exact⟨this.asc,this.le,this.pos,this.perm.trans a2⟩
theorem AX{p:Array Nat}(P:2<=nrem)(hs:nrem<=p.size):Got r nrem p (bA (eU r) (RH nrem p)):=by
 unfold RH;rw[iK];obtain⟨a1,a2,a3⟩:=uf (r:=r) (p:=p) (nrem - 1) 1 (MV _) (λi j Y T=>by
  have:i=j:=by omega
  subst this;exact MV _)
 have stop:∀(f n:Nat),1<=n->bA (eU r) (t_ p f n)<n+f->ka r p (bA (eU r) (t_ p f n))<ka r p (bA (eU r) (t_ p f n) - 1):=by
  intro f
  induction f with
  |zero=>intro n _ h;exact absurd h (Ov _)
  | succ f ih=>
   intro n X h;have e:bA (eU r) (t_ p (f+1) n)=if ka r p n<ka r p (n - 1)then n else bA (eU r) (t_ p f (n+1)):=by
    show bA (eU r) (if (eU r) (p.getD n 0) (p.getD (n - 1) 0)=b_ then _ else _)=_;unfold ka;by_cases c:r (p.getD n 0)<r (p.getD (n - 1) 0)
    ·rw[if_pos (Nb c),if_pos c];rfl
    ·rw[if_neg (λz=>c (NY z)),if_neg c]
   rw[e]at h⊢;by_cases c:ka r p n<ka r p (n - 1)
   ·rw[if_pos c];exact c
   ·rw[if_neg c]at h⊢;exact ih (n+1) (by omega) (by omega)
 have Z:=stop (nrem - 1) 1 (MV _);generalize bA (eU r) (t_ p (nrem - 1) 1)=n at a1 a2 a3 Z;by_cases hn:n=nrem
 ·show Got r nrem p (bA (eU r) (if (n==nrem)=b_ then _ else _));rw[if_pos (by simp[hn])];exact⟨a3,by show n<=nrem;omega,a1,Px _⟩
 ·show Got r nrem p (bA (eU r) (if (n==nrem)=b_ then _ else _));rw[if_neg (by simp[hn])];have Q:=Z (by omega);by_cases X:n>1
  ·rw [if_pos X];show Got r nrem p (bA (eU r) (if (eU r) (p.getD 0 0) (p.getD (n - 1) 0)=b_ then _ else _));by_cases c:r (p.getD 0 0)<r (p.getD (n - 1) 0)
   ·rw[if_pos (Nb c)];exact⟨a3,by show n<=nrem;omega,a1,Px _⟩
   ·rw [if_neg (λz=>c (NY z))];have all:∀k,k<n->ka r p k=ka r p (n - 1):=λk R=>by
     have W:=a3 0 k (by omega) R;have S:=a3 k (n - 1) (by omega) (by omega);have O:ka r p (n - 1)<=ka r p 0:=Q0 c;omega
    have U:∀k,ka r (u5 p 0 n) k=ka r p k:=λk=>by
     rw[ue (by omega)];split
     ·next h=>rw[all k h.2,all _ (by omega)]
     ·rfl
    have:=m5 (r:=r) (n:=n) (nrem:=nrem) (p:=u5 p 0 n) (by omega) (by rw[qC];exact hs) ⟨λi j Y T=>by
      rw[U,U];by_cases ej:j=n
      ·subst ej;by_cases ei:i=j
       ·subst ei;exact MV _
       ·rw[all i (by omega)];omega
      ·rw[all i (by omega),all j (by omega)];exact MV _,by omega,λk W S=>by rw[show k=n+1 - 1 by omega]⟩
    exact⟨this.asc,this.le,this.pos,this.perm.trans fU⟩
  ·rw [if_neg X];have e1:n=1:=by omega
   subst e1;exact m5 (by omega) hs ⟨λi j Y T=>by
     by_cases ej:j=1
     ·subst ej;by_cases ei:i=1
      ·subst ei;exact MV _
      ·rw[show i=1 - 1 by omega];omega
     ·rw[show i=j by omega];exact MV _,by omega,λk W S=>by rw[show k=1+1 - 1 by omega]⟩
theorem oO(Z:Cy r p k):∀(f l m:Nat),m - l<=f->l<=m->m<=k->(∀i,i<l->ka r p i<=ka r p k)->(∀i,m<=i->i<k->ka r p k<=ka r p i)->
  bA (eU r) (r7 p k f l m)<=k/\(∀i,i<bA (eU r) (r7 p k f l m)->ka r p i<=ka r p k)/\∀i,bA (eU r) (r7 p k f l m)<=i->i<k->ka r p k<=ka r p i
 |0,l,m,hf,hl,hm,h1,h2=>by
  have:l=m:=by omega
  subst this;exact⟨by show l<=k;omega,h1,h2⟩
 | f+1,l,m,hf,hl,hm,h1,h2=>by
  by_cases c:l ≥ m
  ·have e:bA (eU r) (r7 p k (f+1) l m)=l:=by
    show bA (eU r) (if l ≥ m then _ else _)=l;rw[if_pos c];rfl
   rw[e];have:l=m:=by omega
   subst this;exact⟨by omega,h1,h2⟩
  ·have e:bA (eU r) (r7 p k (f+1) l m)=if ka r p k<ka r p ((l+m) / 2)then bA (eU r) (r7 p k f l ((l+m) / 2))else bA (eU r) (r7 p k f ((l+m) / 2+1) m):=by
    show bA (eU r) (if l ≥ m then _ else _)=_;rw[if_neg c];show bA (eU r) (if (eU r) (p.getD k 0) (p.getD ((l+m) / 2) 0)=b_ then _ else _)=_;unfold ka;by_cases d:r (p.getD k 0)<r (p.getD ((l+m) / 2) 0)
    ·rw[if_pos (Nb d),if_pos d]
    ·rw[if_neg (λz=>d (NY z)),if_neg d]
   rw[e];by_cases d:ka r p k<ka r p ((l+m) / 2)
   ·rw[if_pos d];exact oO Z f l ((l+m) / 2) (by omega) (by omega) (by omega) h1 λi Y X=>M7 (Oy d) (Z _ i Y X)
   ·rw[if_neg d];exact oO Z f ((l+m) / 2+1) m (by omega) (by omega) hm (λi Y=>M7 (Z i ((l+m) / 2) (by omega) (by omega)) (by omega)) h2
theorem yT:∀(f:Nat) (p:Array Nat) (k:Nat),k+f<=p.size->Cy r p k->Cy r (bA (eU r) (Rl f p k)) (k+f)/\(bA (eU r) (Rl f p k)).Perm p
 |0,p,k,hs,h=>⟨h,Px _⟩
 | f +1,p,k,hs,h=>by
  have e:bA (eU r) (Rl (f+1) p k)=bA (eU r) (Rl f (SQ p k (k - bA (eU r) (r7 p k k 0 k))) (k+1)):=by show bA (eU r) ((r7 p k k 0 k).bind _)=_;rw[iK]
  rw[e];obtain⟨Q,W,U⟩:=oO (r:=r) h k 0 k (by omega) (by omega) (MV _) (λi X=>absurd X (Q7 _)) (λi X T=>absurd T (by omega));generalize bA (eU r) (r7 p k k 0 k)=l at Q W U;have P:Cy r (SQ p k (k - l)) (k+1):=λi j Z O=>by
   rw[sY (by omega) (by omega),sY (by omega) (by omega)];have Y:k - (k - l)=l:=by omega
   rw[Y];by_cases ei:i=l
   ·rw[if_pos ei];by_cases ej:j=l
    ·rw[if_pos ej];exact MV _
    ·rw[if_neg ej,if_pos ⟨by omega,by omega⟩];exact U (j - 1) (by omega) (by omega)
   ·rw[if_neg ei];by_cases ci:l<i/\i<=k
    ·rw[if_pos ci,if_neg (by omega),if_pos ⟨by omega,by omega⟩];exact h _ _ (by omega) (by omega)
    ·rw[if_neg ci];by_cases ej:j=l
     ·rw[if_pos ej];exact W i (by omega)
     ·rw[if_neg ej];by_cases cj:l<j/\j<=k
      ·rw[if_pos cj];exact h _ _ (by omega) (by omega)
      ·rw[if_neg cj];exact h _ _ Z (by omega)
  obtain⟨S,R⟩:=yT f (SQ p k (k - l)) (k+1) (by rw[bubble_size];omega) P;refine⟨?_,R.trans (bubble_perm _ _ _)⟩;rw[show k+(f+1)=k+1+f by omega];exact S
theorem Cz(W:2<=n):Cy r (bA (eU r) (u' n)) n/\(bA (eU r) (u' n)).Perm (C_ (dr n)):=by
 unfold u';rw[iK];have G:=AX (r:=r) (nrem:=n) (p:=C_ (dr n)) W (by simp);generalize bA (eU r) (RH n (C_ (dr n)))=g at G;obtain⟨m,p⟩:=g;have U:p.size=n:=by rw[G.perm.size_eq];simp
 have hle:m<=n:=G.le;have Z:1<=m:=G.pos;show Cy r (bA (eU r) (if m<n then Rl (n - max m 1) p (max m 1)else RA p)) n/\Array.Perm (bA (eU r) (if m<n then Rl (n - max m 1) p (max m 1)else RA p)) (C_ (dr n));by_cases c:m<n
 ·rw[if_pos c];have em:max m 1=m:=by omega
  rw[em];obtain⟨Y,X⟩:=yT (r:=r) (n - m) p m (by omega) G.asc;refine⟨?_,X.trans G.perm⟩;rw[show m+(n - m)=n by omega]at Y;exact Y
 ·rw[if_neg c];have em:m=n:=by omega
  subst em;exact⟨G.asc,G.perm⟩
end
def xv(n:Nat){α:Type}(R:α->Prop):SN α->Prop
 | .ret a=>R a
 | .ask i j k=>i<n/\j<n/\∀b,xv n R (k b)
theorem jC{n:Nat}{α Y:Type}{R:α->Prop}{Z:Y->Prop}{f:α->SN Y}:∀{t:SN α},xv n R t->(∀a,R a->xv n Z (f a))->xv n Z (t.bind f)
 | .ret a,h,k=>k a h
 | .ask i j g,h,k=>⟨h.1,h.2.1,λb=>jC (h.2.2 b) k⟩
theorem CA{n:Nat}{α:Type}{R:α->Prop}{Z:Nat->Nat->(Bool->dn->Prop)->dn->Prop}{b:Nat->Nat->Bool}{s:dn}{Q:α->dn->Prop}(h:∀i j C,i<n->j<n->C (b i j) s->Z i j C s):
  ∀{t:SN α},xv n R t->Q (bA b t) s->t.kasWp Z Q s
 | .ret a,_,q=>q
 | .ask i j k,o,q=>h i j _ o.1 o.2.1 (CA h (o.2.2 (b i j)) q)
theorem qE{n:Nat}{α:Type}{R:α->Prop}{b Z:Nat->Nat->Bool}(h:∀i j,i<n->j<n->b i j=Z i j):∀{t:SN α},xv n R t->bA b t=bA Z t
 | .ret a,_=>rfl
 | .ask i j k,o=>by
  show bA b (k (b i j))=bA Z (k (Z i j));rw[h i j o.1 o.2.1];exact qE h (o.2.2 _)
def In(n:Nat)(p:Array Nat):Prop:=0<n/\∀x∈p.toList,x<n
theorem In.get(h:In n p)(k:Nat):p.getD k 0<n:=by
 rw[NG];cases e:p[k]? with
 |none=>exact h.1
 |some x=>exact h.2 x (by rw[<-Ny]at e;exact Nz e)
theorem In.perm{q:Array Nat}(h:In n p)(e:q.Perm p):In n q:=⟨h.1,λx Z=>h.2 x ((Array.Perm.toList e).mem_iff.mp Z)⟩
theorem ug(h:In n p):∀(f m:Nat),xv n (λ_=>True) (t_ p f m)
 |0,m=>trivial
 | f+1,m=>⟨h.get _,h.get _,λb=>by
   cases b with
   |true=>exact trivial
   |false=>exact ug h f (m+1)⟩
theorem m6:∀(f:Nat) (p:Array Nat) (m q:Nat),In n p->xv n (λr=>In n r.1) (u4 f p m q)
 |0,p,m,q,h=>h
 | f+1,p,m,q,h=>⟨h.get _,h.get _,λb=>by
   cases b with
   |true=>
    show xv n _ (if q>0 then _ else _);split
    ·exact m6 f _ _ _ (h.perm fU)
    ·exact m6 f _ _ _ h
   |false=>
    refine⟨h.get _,h.get _,λb=>?_⟩;cases b with
    |true=>exact h
    |false=>exact m6 f _ _ _ h⟩
theorem td(h:In n p):xv n (λr:Nat×Array Nat=>In n r.2) (Sh m nrem p):=
 jC (ug (h.perm fU) _ _) λ_ _=>h.perm fU
theorem m7(h:In n p):xv n (λr:Nat×Array Nat=>In n r.2) (RB m nrem p):=
 jC (m6 _ _ _ _ h) λa Z=>by
  split
  ·exact td (Z.perm fU)
  ·exact td Z
theorem AY(h:In n p):xv n (λr:Nat×Array Nat=>In n r.2) (RH nrem p):=
 jC (ug h _ _) λa _=>by
  split
  ·exact h
  ·split
   ·refine⟨h.get _,h.get _,λb=>?_⟩;cases b with
    |true=>exact h
    |false=>exact m7 (h.perm fU)
   ·exact m7 h
theorem oQ(h:In n p):∀(f l m:Nat),xv n (λ_=>True) (r7 p k f l m)
 |0,l,m=>trivial
 | f+1,l,m=>by
  show xv n _ (if l ≥ m then _ else _);split
  ·exact trivial
  ·refine⟨h.get _,h.get _,λb=>?_⟩;cases b with
   |true=>exact oQ h f _ _
   |false=>exact oQ h f _ _
theorem yU:∀(f:Nat) (p:Array Nat) (k:Nat),In n p->xv n (In n) (Rl f p k)
 |0,p,k,h=>h
 |f+1,p,k,h=>jC (oQ h _ _ _) λl _=>yU f _ _ (h.perm (bubble_perm _ _ _))
theorem vT(X:0<n):xv n (In n) (u' n):=
 jC (AY ⟨X,λx Y=>by simpa using Y⟩) λa Z=>by
  split
  ·exact yU _ _ _ Z
  ·exact Z
theorem vU{α:Type}{p q:α->Bool}:∀{l:List α} {x:α},(∀y∈l,p y=b_->q y=b_)->x∈l->p x=dt->q x=b_->l.countP p<l.countP q
 | y::l,x,h,hx,hp,hq=>by
  have X:l.countP p<=l.countP q:=List.countP_mono_left λz Z=>h z (M3 _ Z);rw[Q3,Q3];rcases M9.mp hx with e|hx'
  ·subst e;rw[hp,hq];simp;omega
  ·have W:=vU (λz Z=>h z (M3 _ Z)) hx' hp hq;have Y:=h y Ni;cases e1:p y with
   |true=>rw[Y e1];simp;omega
   |false=>simp;split<;>omega
theorem Fb{b:Nat->Nat->Bool}(P:2<=n)(T:∀i,i<n->b i i=dt)(O:∀i j k,i<n->j<n->k<n->b i j=b_->b j k=b_->b i k=b_)(U:∀i j k,i<n->j<n->k<n->b i k=b_->b i j=b_\/b j k=b_):
  (bA b (u' n)).Perm (C_ (dr n))/\∀i j,i<=j->j<n->b ((bA b (u' n)).getD j 0) ((bA b (u' n)).getD i 0)=false:=by
 let r:Nat->Nat:=λi=>(dr n).countP λj=>b j i;have R:∀i j,i<n->j<n->b i j=decide (r i<r j):=λi j Y X=>by
  cases e:b i j with
  |true=>
   refine(Nb ?_).symm;exact vU (x:=i) (λy S h=>O y i j (Na.mp S) Y X h e) (Na.mpr Y) (T i Y) e
  |false=>
   refine(Nv (QG.mpr ?_)).symm;refine List.countP_mono_left λy S h=>?_;rcases U y i j (Na.mp S) Y X h with z|z
   ·exact z
   ·rw[e]at z;cases z
 have Q:bA b (u' n)=bA (eU r) (u' n):=qE R (vT (by omega));obtain⟨a1,a2⟩:=Cz (r:=r) P;rw[Q];refine⟨a2,λi j W X=>?_⟩;have Z:In n (bA (eU r) (u' n)):=In.perm ⟨by omega,λx N=>by simpa using N⟩ a2;rw[R _ _ (Z.get j) (Z.get i)];exact Nv (QG.mpr (a1 i j W X))
end S3
namespace S3
open PySem PySem.Spec PySem.W PyProof.Rows L2
section
variable {prog:er}{w:fc}{A:hS}{E:a_->dn->Prop}{s:dn}{Q:Bool->dn->Prop}
theorem vV:∀{us ws:List a_} {ns ms:List Int} (i:Nat),m2 us ns->m2 ws ms->Q (HT.lexLt ns ms) s->
  KatLex prog w A b (decide (us.length<ws.length)) Q (us.zip ws) i s
 |[],[],ns,ms,i,h1,h2,q=>by
  cases h1;cases h2;exact q
 |[],_::_,_,_,_,h1,h2,q=>by
  cases h1;cases h2;exact q
 |_::_,[],_,_,_,h1,h2,q=>by
  cases h1;cases h2;exact q
 | u::us,v::ws,ns,ms,i,h1,h2,q=>by
  cases h1 with
  |cons n t h1=>
  cases h2 with
  | cons k t' h2=>
   rw[HT.lexLt_cons]at q;by_cases e:n=k
   ·rw[if_pos e]at q;refine kat_cons (QY ?_);have:(n==k)=true:=by simp[e]
    rw[this];refine kat_yes ?_;show KatLex prog w A b (decide (us.length+1<ws.length+1)) Q (us.zip ws) (i+1) s;rw[show decide (us.length+1<ws.length+1)=decide (us.length<ws.length) by simp];exact vV (i+1) h1 h2 q
   ·rw[if_neg e]at q;refine kat_cons (QY ?_);have:(n==k)=false:=by simp[e]
    rw[this];refine kat_no ?_;cases hbi:(b && i==0)with
    |true=>exact oneLt_int q
    |false=>exact kat_one _ _ (lt_int q)
end
structure Tups(h:gd)(vs:List a_)(nss:List (List Int)):Prop where
 len:vs.length=nss.length
 get:∀(i:Nat),i<vs.length->∃a o us n,vs.getD i hO= .ref a/\h.get? a=ar o/\o.cls= .type "tuple"/\o.data= .seq us n/\m2 us.toList (nss.getD i [])/\0<us.size
theorem Tups.keep{h':gd}(t:Tups h vs nss)(k:∀i a o,i<vs.length->vs.getD i hO= .ref a->h.get? a=ar o->h'.get? a=ar o):Tups h' vs nss:=
 ⟨t.len,λi Z=>let ⟨a,o,us,n,e1,e2,r⟩:=t.get i Z;⟨a,o,us,n,e1,k i a o Z e1 e2,r⟩⟩
theorem Tups.ask{s:dn}(t:Tups s.heap vs nss){C:Bool->dn->Prop}(Y:i<vs.length)(W:j<vs.length)
  (q:C (HT.lexLt (nss.getD i []) (nss.getD j [])) s):kas_ask prog w A (tuples' b) vs i j C s:=by
 obtain⟨a,o,us,n,e1,e2,P,T,U,N⟩:=t.get i Y;obtain⟨S,L,X,R,f1,f2,O,f4,Z,Q⟩:=t.get j W;unfold kas_ask;rw[e1,f1];refine kat_lt e2 T f2 f4 ?_;have z:=vV (prog:=prog) (w:=w) (A:=A) (b:=b) 0 U Z q;simpa using z
end S3
namespace S3
open PySem PySem.Spec PyProof.Rows L2
abbrev St:=L2.St
def jD(cells:List (Str×c_)):List (Str×mu)->List (Str×c_)->List (Str×c_)
 |[],cs=>cs
 |(n,k)::r,cs=>jD cells r (if k== .free then (n,(cells.lookup n).getD 0)::cs else cs)
theorem iq(scope:Scope)(env:Env)(h:∀y∈scope.names,y.2= .free->∃c,env.cells.lookup y.1=ar c):RZ scope env=aC (jD env.cells scope.names []):=by
 have go:∀(names:List (Str×mu)) (cs:List (Str×c_)),(∀y∈names,y.2= .free->∃c,env.cells.lookup y.1=ar c)->
   (Si names cs (λ(x:Str×mu) (r:List (Str×c_))=>(if (x.2==hY)=b_ then do let a<-cellOf env x.1;aC (z_ ((x.1,a)::r))else aC (z_ r):Sem (ForInStep (List (Str×c_))))):Sem (List (Str×c_)))=aC (jD env.cells names cs):=by
  intro names
  induction names with
  |nil=>intro cs _;rfl
  | cons y r ih=>
   intro cs W;obtain⟨n,k⟩:=y;have U:∀y∈r,y.2= .free->∃c,env.cells.lookup y.1=ar c:=λy hm=>W y (M3 _ hm);rw[N_];by_cases hk:(k==hY)=b_
   ·have Y:k= .free:=by simpa using hk
    obtain⟨c,X⟩:=W (n,k) Ni Y;have e:cellOf env n=aC c:=by unfold cellOf;rw[X]
    simp only[hk,if_true,e,pure_bind];rw[ih _ U];simp only[jD,hk,if_true,X,Option.getD_some]
   ·have Z:(k==hY)=false:=by simpa using hk
    simp only[Z,e_,if_false,pure_bind];rw[ih _ U];simp only[jD,Z,e_,if_false]
 have:=go scope.names [] h;unfold RZ;simp only[bind_pure]at*;exact this
theorem qc{cells:List (Str×c_)}:∀(names:List (Str×mu)) (cs:List (Str×c_)),(∀y∈names,y.2= .free->∃c,cells.lookup y.1=ar c)->(∀p∈cs,cells.lookup p.1=ar p.2)->
  ∀p∈jD cells names cs,cells.lookup p.1=ar p.2
 |[],cs,_,h=>h
 | (n,k)::r,cs,hy,h=>by
  refine qc r _ (λy hm=>hy y (M3 _ hm)) λp Z=>?_;by_cases hk:(k==hY)=b_
  ·rw[if_pos hk]at Z;rcases M9.mp Z with rfl|Z
   ·obtain⟨c,X⟩:=hy (n,k) Ni (by simpa using hk);show cells.lookup n=ar ((cells.lookup n).getD 0);have Y:cells.lookup n=ar c:=X;rw[Y];rfl
   ·exact h p Z
  ·rw[if_neg hk]at Z;exact h p Z
theorem iM:∀(names:List (Str×mu)) (cs:List (Str×c_)),(x,hY)∈names\/x∈cs.map (·.1)->x∈(jD cells names cs).map (·.1)
 |[],cs,h=>by
  rcases h with h|h
  ·cases h
  ·exact h
 | (n,k)::r,cs,h=>by
  refine iM r _ ?_;rcases h with h|h
  ·rcases M9.mp h with e|h
   ·cases e;refine .inr ?_;simp
   ·exact .inl h
  ·refine .inr ?_;by_cases hk:(k==hY)=b_
   ·rw[if_pos hk];exact M3 _ h
   ·rw[if_neg hk];exact h
theorem lookup_mem:∀{l:List (Str×c_)},l.lookup x=ar c->(x,c)∈l
 |[],h=>by cases h
 | (n,a)::r,h=>by
  by_cases e:x==n
  ·have Z:x=n:=by simpa using e
   rw[NO,e]at h;have h':ar a=ar c:=h;cases h';subst Z;exact Ni
  ·have e2:(x==n)=false:=by simpa using e
   rw[NO,e2]at h;exact M3 _ (lookup_mem h)
theorem mem_lookup:∀{l:List (Str×c_)},x∈l.map (·.1)->∃c,l.lookup x=ar c
 |[],h=>by cases h
 | (n,a)::r,h=>by
  by_cases e:x==n
  ·exact⟨a,by rw[NO,e]⟩
  ·have e2:(x==n)=false:=by simpa using e
   rw[NO,e2];refine mem_lookup ?_;rcases M9.mp h with z|z
   ·have Z:x=n:=z;subst Z;simp at e
   ·exact z
theorem bb:∀{l:List (Str×mu)},l.lookup x=ar k->(x,k)∈l
 |[],h=>by cases h
 | (n,a)::r,h=>by
  by_cases e:x==n
  ·have Z:x=n:=by simpa using e
   rw[NO,e]at h;have h':ar a=ar k:=h;cases h';subst Z;exact Ni
  ·have e2:(x==n)=false:=by simpa using e
   rw[NO,e2]at h;exact M3 _ (bb h)
theorem jP{env:Env}:∀{names:List (Str×mu)} {k:mu},
  (names.map λ(n,k)=>if (k==hY && env.scope.kind== .function && env.kindOf n==ar .cell)then (n,p4)else (n,k)).lookup x=ar k->
   names.lookup x=ar k\/(k= .cell/\names.lookup x=ar .free)
 |[],k,h=>by cases h
 | (n,a)::r,k,h=>by
  by_cases e:x==n
  ·rw[Nd]at h;by_cases c:(a==hY && env.scope.kind== .function && env.kindOf n==ar .cell)=b_
   ·have Y:a= .free:=by
     simp only[j_,beq_iff_eq]at c;exact c.1.1
    simp only[c,if_true,k',e]at h;cases h;refine .inr ⟨rfl,?_⟩;rw[NO,e,Y]
   ·have Z:(a==hY && env.scope.kind== .function && env.kindOf n==ar .cell)=false:=by simpa using c
    simp only[Z,e_,if_false,k',e]at h;refine .inl ?_;rw[NO,e];exact h
  ·have e2:(x==n)=false:=by simpa using e
   rw[NO,e2];refine jP (env:=env) (names:=r) ?_;rw[Nd]at h;by_cases c:(a==hY && env.scope.kind== .function && env.kindOf n==ar .cell)=b_
   ·simp only[c,if_true,k',e2]at h;exact h
   ·have Z:(a==hY && env.scope.kind== .function && env.kindOf n==ar .cell)=false:=by simpa using c
    simp only[Z,e_,if_false,k',e2]at h;exact h
theorem m9{env:Env}:∀{names:List (Str×mu)},names.lookup x=ar .free->
  (names.map λ(n,k)=>if (k==hY && env.scope.kind== .function && env.kindOf n==ar .cell)then (n,p4)else (n,k)).lookup x=ar .cell\/
  (names.map λ(n,k)=>if (k==hY && env.scope.kind== .function && env.kindOf n==ar .cell)then (n,p4)else (n,k)).lookup x=ar .free
 |[],h=>by cases h
 | (n,a)::r,h=>by
  rw[Nd];by_cases e:x==n
  ·rw[NO,e]at h;have X:ar a=ar NameKind.free:=h;cases X;by_cases c:(hY==hY && env.scope.kind== .function && env.kindOf n==ar .cell)=b_
   ·refine .inl ?_;simp only[c,if_true,k',e]
   ·have Z:(hY==hY && env.scope.kind== .function && env.kindOf n==ar .cell)=false:=by simpa using c
    refine .inr ?_;simp only[Z,e_,if_false,k',e]
  ·have e2:(x==n)=false:=by simpa using e
   rw[NO,e2]at h;have Y:=m9 (env:=env) h;by_cases c:(a==hY && env.scope.kind== .function && env.kindOf n==ar .cell)=b_
   ·simp only[c,if_true,k',e2];exact Y
   ·have Z:(a==hY && env.scope.kind== .function && env.kindOf n==ar .cell)=false:=by simpa using c
    simp only[Z,e_,if_false,k',e2];exact Y
theorem xH:∀{names:List (Str×mu)} {n:Nat} {acc:List (Str×c_)} {p:Str×c_},p∈kr n names acc->p∈acc\/n<=p.2
 |[],n,acc,p,h=>.inl h
 | (x,k)::r,n,acc,p,h=>by
  unfold kr at h;split at h
  ·rcases xH h with h|h
   ·rcases M9.mp h with rfl|h
    ·exact .inr (MV _)
    ·exact .inl h
   ·exact .inr (PN h)
  ·exact xH h
theorem xI:∀{names:List (Str×mu)} {n:Nat} {acc:List (Str×c_)},(∀p∈acc,p.2<n)->(∀x y c,(x,c)∈acc->(y,c)∈acc->x=y)->∀x y c,(x,c)∈kr n names acc->(y,c)∈kr n names acc->x=y
 |[],n,acc,_,hi,x,y,c,h1,h2=>hi x y c h1 h2
 | (z,k)::r,n,acc,hl,hi,x,y,c,h1,h2=>by
  unfold kr at h1 h2;by_cases hk:(k==p4)=b_
  ·rw[if_pos hk]at h1 h2;refine xI (λp Z=>?_) (λx y c g1 g2=>?_) x y c h1 h2
   ·rcases M9.mp Z with rfl|Z
    ·exact OE _
    ·exact N8 (hl p Z)
   ·rcases M9.mp g1 with g1|g1<;>rcases M9.mp g2 with g2|g2
    ·rw[<-g2]at g1;exact(Prod.mk.inj g1).1
    ·cases g1;exact absurd (hl _ g2) (Ov _)
    ·cases g2;exact absurd (hl _ g1) (Ov _)
    ·exact hi x y c g1 g2
  ·rw[if_neg hk]at h1 h2;exact xI hl hi x y c h1 h2
theorem uh:∀{names:List (Str×mu)} {n:Nat} {acc:List (Str×c_)},(∀y∈names,y.2= .cell->y.1≠x)->(kr n names acc).lookup x=acc.lookup x
 |[],_,_,_=>rfl
 | (z,k)::r,n,acc,h=>by
  unfold kr;split
  ·next hk=>
   rw[uh λy Z=>h y (M3 _ Z),NO];have:(x==z)=false:=by have:=h (z,k) Ni (by simpa using hk);simpa using j' this
   rw[this]
  ·exact uh λy Z=>h y (M3 _ Z)
theorem ui:∀{names:List (Str×mu)} {h:gd} {acc:List (Str×c_)} {p:Str×c_},p∈kr h.objs.size names acc->p∈acc\/(pushCells h names).IsCell p.2 none
 |[],h,acc,p,q=>.inl q
 | (x,k)::r,h,acc,p,q=>by
  unfold kr at q;unfold pushCells;split at q
  ·next hk=>
   rw[if_pos hk];have Z:p∈kr (h.push {cls:=.type "cell",data:=.cell none}).objs.size r ((x,h.objs.size)::acc):=by rw[N9];exact q
   rcases ui Z with Z|Z
   ·rcases M9.mp Z with rfl|Z
    ·exact .inr ⟨_,Q8 _ _ _ _ (M6 _ rfl),rfl⟩
    ·exact .inl Z
   ·exact .inr Z
  ·next hk=>
   rw[if_neg hk];exact ui q
theorem xJ:∀(names:List (Str×mu)) (n:Nat) (acc:List (Str×c_)),((x,p4)∈names\/∃c,acc.lookup x=ar c/\m<=c)->m<=n->(kr n names acc).lookup x=ar a->m<=a
 | [],n,acc,h,hm,e=>by
  rcases h with h|⟨c,h2,h3⟩
  ·cases h
  ·have Y:acc.lookup x=ar a:=e;rw[h2]at Y;cases Y;exact h3
 | (z,k)::r,n,acc,h,hm,e=>by
  unfold kr at e;by_cases hk:(k==p4)=b_
  ·rw[if_pos hk]at e;refine xJ r (n+1) _ ?_ (Nat.le_succ_of_le hm) e;by_cases hz:(x==z)=b_
   ·exact .inr ⟨n,by rw[NO,hz],hm⟩
   ·have Z:(x==z)=false:=by simpa using hz
    rcases h with h|⟨c,h2,h3⟩
    ·rcases M9.mp h with h|h
     ·cases h;simp at hz
     ·exact .inl h
    ·exact .inr ⟨c,by rw[NO,Z];exact h2,h3⟩
  ·rw[if_neg hk]at e;refine xJ r n acc ?_ hm e;rcases h with h|h
   ·rcases M9.mp h with h|h
    ·cases h;simp at hk
    ·exact .inl h
   ·exact .inr h
theorem AZ{s:dn}{scope:Scope}{env:Env}
  (h:∀h1,h1.Ns s.heap.objs.size (λ_=>none)->(∀b o,s.heap.get? b=ar o->h1.get? b=ar o)->(∀p∈kr (s.heap.objs.size+1) scope.names cl,p∈cl\/h1.IsCell p.2 none)->
   Q {scope,locals:=s.heap.objs.size,globals:=env.globals,cells:=kr (s.heap.objs.size+1) scope.names cl,qual:=env.qual,func:=none,code:=env.code,frame:=env.frame,builtins:=env.builtins} {s with heap:=h1}):
  ee M A (newFunctionEnv scope env.globals cl [] env.qual none .none (ar env)) Q E s:=by
 simp only[newFunctionEnv,Option.isSome_some,if_true];refine MR (wpAny_alloc (MR (wpAny_layCells _ (λname kind cells=>by cases hkc:kind==p4<;>simp[hkc]) _ _ _ _ ?_)));have e:({s with heap:=s.heap.push {cls:=.type "dict",data:=.dict #[]}}:dn).heap.objs.size=s.heap.objs.size+1:=N9 ..;rw[e];refine MR (m:=Si [] _ _) (MW (MW (h _ ((Heap.Ns.new s.heap (.type "dict")).keeps (Q8 _ _)) (λb o q=>Q8 _ _ b o (MU _ q)) λp Z=>?_)));exact ui (h:=s.heap.push {cls:=.type "dict",data:=.dict #[]}) (by rw[e];exact Z)
def aX(X:Cx)(scope:Scope)(Nc:List Str)(C:c_)(ex:List c_)(s:dn)(H:Hp):Cx:=
 {X with N:=Nc,s₀:=s,H₀:=H,env:=compEnvC scope (kr (C+1) scope.names (jD X.env.cells scope.names [])) C X.env,outer:=X.stack,stack:=X.stack,ex:=ex,fn:=λx=>scope.names.lookup x==ar .cell,pn:=[],xe:=λ_ _=>False}
structure CompScope(X:Cx)(scope:Scope)(Nc:List Str)(js:List (Option Nat)):Prop where
 kind:scope.kind= .function
 cel:∀y∈scope.names,y.2= .cell->scope.names.lookup y.1=ar .cell
 loc:∀y∈scope.names,y.2= .local->scope.names.lookup y.1=ar .local
 free:∀y∈scope.names,y.2= .free->X.env.kindOf y.1=ar .cell\/X.env.kindOf y.1=ar .free
 len:js.length=Nc.length
 ix:∀(i:Nat) (x:Str) (j:Nat),Nc[i]? =ar x->js[i]? =ar (ar j)->X.N[j]? =ar x/\scope.names.lookup x=ar .free
def sC(js:List (Option Nat))(σ:St):St:=js.map λo=>o.bind λj=>(σ[j]?).join
def Jt(X:Cx)(ifs:List Expr)(t:TT):Prop:=
 ∀(pins:List (c_×Obj)) (s:dn) (σ:St) (H:Hp) (Q:Bool->Hp->Prop),Inv X pins σ H s->t σ H Q->
  ee (fg X.prog X.w) X.A (Si ifs b_ λc r=>if r=b_ then do let ok<-isTrue c X.env (hJ c X.env);aC (z_ ok)else aC (z_ r)) (TP X pins σ Q) X.xe s
theorem Fc:Jt X [] (λ_ H Q=>Q b_ H):=λpins s σ H Q I h=>wpAny_tests_nil ⟨H,I,h⟩
theorem Fd(h:PT X c t):Jt X [c] t:=λpins s σ H Q I hw=>wpAny_tests_one (h pins s σ H Q I hw)
def yV(wi:TI)(js:List (Option Nat))(g:TG)(tt:TT)(te:TE):TE:=λσ H Q=>wi σ H λJ H1=>∀p,H1 p=none->
 ∃W:Nat->Nat->St->Hp->Prop,(∃m,W 0 m (sC js σ) (upd H1 p (.lst [])))/\∀i m σc Hc,W i m σc Hc->
  (J.stop i Hc/\Q (.ref p) Hc)\/(J.go i Hc/\∃N:St->Hp->Prop,(∀ σ' H',N σ' H'->∃m',m'<m/\W (i+1) m' σ' H')/\∀x H',J.yld i Hc x H'->g x σc H' λσ2 H2=>tt σ2 H2 λb H3=>
   if b=b_ then te σ2 H3 λy H4=>∃xs,H4 p=ar (.lst xs)/\xs.length<sizeLine/\N σ2 (upd H4 p (.lst (xs++[y])))else N σ2 H3)
section
variable {X:Cx}{scope:Scope}{Nc:List Str}{js:List (Option Nat)}{pins:List (c_×Obj)}{σ:St}{H:Hp}{s:dn}
theorem CompScope.has(c:CompScope X scope Nc js)(Y:X.Ok):∀y∈scope.names,y.2= .free->∃a,X.env.cells.lookup y.1=ar a:=λy Z e=>Y.has y.1 (c.free y Z e)
theorem xK{G:gd}(c:CompScope X scope Nc js)(I:Inv X pins σ H s)(S:∀b∈ex,mw X pins H b)(K:∀b∈ex,b<s.heap.objs.size)
  (R:C=s.heap.objs.size) (l:G.Ns C (λ_=>none)) (hs:∀b o,s.heap.get? b=ar o->G.get? b=ar o)
  (w:∀p∈kr (C+1) scope.names (jD X.env.cells scope.names []),p∈jD X.env.cells scope.names []\/G.IsCell p.2 none):
  Inv (aX X scope Nc C ex s H) [] (sC js σ) H {s with heap:=G,toks:=tk}:=by
 have Y:=qc (cells:=X.env.cells) scope.names [] (c.has I.ok) (λ_ z=>nomatch z);have P:∀x a,(jD X.env.cells scope.names []).lookup x=ar a->X.env.cells.lookup x=ar a:=λx a e=>Y _ (lookup_mem e);have B:∀b o,s.heap.get? b=ar o->b≠C:=λb o e=>by rw[R];exact Ng (MZ e)
 have Q:∀p∈jD X.env.cells scope.names [],p.2<C+1:=λp E=>by obtain⟨v,F,O,_⟩:=I.cell p.1 p.2 (Y p E);rw[R];exact N8 (MZ O)
 have Z:∀x a,(kr (C+1) scope.names (jD X.env.cells scope.names [])).lookup x=ar a->X.env.cells.lookup x=ar a\/(C<a/\G.IsCell a none):=λx a e=>by
  have hm:=lookup_mem e;rcases w _ hm with z|z
  ·exact .inl (Y _ z)
  ·rcases xH hm with y|y
   ·exact .inl (Y _ y)
   ·exact .inr ⟨y,z⟩
 refine⟨⟨I.ok.mod,c.kind,I.ok.glob,I.ok.blt,Pq R.symm,λx y a e1 e2=>xI Q (λx y a e1 e2=>I.ok.inj x y a (Y _ e1) (Y _ e2)) x y a (lookup_mem e1) (lookup_mem e2),λx L=>?_,λx a z e=>?_,I.ok.hd,I.ok.frames,.inl rfl,λb W=>⟨?_,λx a e z=>?_⟩,
  I.bs,M7 I.ok.bsz I.sz,λb o e W=>?_,λb W z=>?_,I.stack,I.stkFree⟩,rfl,I.bare,Un.kept hs,⟨_,l,λi x v e1 e2 e3=>?_⟩,λx a e=>?_,?_,λx a e=>?_,(λp E=>nomatch E),I.hok.kept hs,?_⟩
 ·-- names that are cells here have one
  have A:scope.names.lookup x=ar .free\/scope.names.lookup x=ar .cell:=by
   rcases L with L|L
   ·rcases jP (env:=X.env) (names:=scope.names) L with z|⟨_,z⟩
    ·exact .inr z
    ·exact .inl z
   ·rcases jP (env:=X.env) (names:=scope.names) L with z|⟨z,_⟩
    ·exact .inl z
    ·cases z
  refine NS.mp (PH scope.names (C+1) _ ?_);rcases A with z|z
  ·exact .inr (NS.mpr (mem_lookup (iM scope.names [] (.inl (bb z)))))
  ·exact .inl z
 ·-- the block's own cells are new
  have n:scope.names.lookup x=ar .cell:=by have:(scope.names.lookup x==ar .cell)=true:=z;simpa using this
  show s.heap.objs.size<=a;rw[<-R];exact PN (xJ (m:=C+1) scope.names (C+1) _ (.inl (bb n)) (MV _) e)
 ·show b≠C;rw[R];exact Ng (K b W)
 ·rcases Z x a e with y|⟨y,_⟩
  ·exact(S b W).2.2.2.2.1 x a y z
  ·rw[z,R]at y;exact Ov _ (Qu y (K b W))
 ·have:b<X.base.objs.size:=MZ e;rcases (S b W).2.2.2.1 with z|z
  ·exact I.ok.noex b o e z
  ·exact absurd (Nf this (M7 I.ok.bsz z)) (Ov _)
 ·rcases M9.mp (I.stkSub b z)with e|e
  ·exact(S b W).2.1 e
  ·exact(S b W).2.2.1 e
 ·-- the names that are read from around
  have t:Nc[i]? =ar x:=e1;have:∃j,js[i]? =ar (ar j)/\σ[j]? =ar (ar v):=by
   unfold sC at e2;rw[Nn]at e2;cases q:js[i]? with
   |none=>rw[q]at e2;cases e2
   | some o=>
    rw[q]at e2;cases o with
    |none=>cases e2
    |some j=>
     refine⟨j,rfl,?_⟩;have U:(σ[j]?).join=ar v:=Nw e2;cases r:σ[j]? with
     |none=>rw[r]at U;cases U
     |some z=>rw[r]at U;exact Pf ar U
  obtain⟨j,g,k⟩:=this;obtain⟨hN,T⟩:=c.ix i x j t g;obtain⟨m,h,f⟩:=I.loc;have N:=c.free (x,.free) (bb T) rfl;have J:EN X.env.scope x:=by
   rcases N with z|z
   ·exact .inr (.inl z)
   ·exact .inr (.inr z)
  obtain⟨u,ru,d⟩:=f j x v hN k J;refine⟨u,ru,.inr ⟨?_,?_⟩⟩
  ·rcases m9 (env:=X.env) T with z|z
   ·exact .inl z
   ·exact .inr z
  ·rcases d with⟨z,_⟩|⟨_,a,ea,ha⟩
   ·rcases N with y|y
    ·rw[show X.env.kindOf x=ar p4 from y]at z;cases z
    ·rw[show X.env.kindOf x=ar hY from y]at z;cases z
   ·obtain⟨b,W⟩:=mem_lookup (iM (cells:=X.env.cells) scope.names [] (.inl (bb T)));have:=P x b W;rw[ea]at this;cases this;obtain⟨F,O,hd⟩:=ha;refine⟨a,?_,F,hs _ _ O,hd⟩;show(kr (C+1) scope.names (jD X.env.cells scope.names [])).lookup x=ar a;rw[uh λy hy e z=>by have:=c.cel y hy e;rw[z,T]at this;cases this];exact W
 ·rcases Z x a e with y|⟨_,y⟩
  ·obtain⟨v,F,O,hd⟩:=I.cell x a y;exact⟨v,F,hs _ _ O,hd⟩
  ·exact⟨_,y⟩
 ·show H C=none;rw[R];exact I.hok.fresh (MV _)
 ·rcases Z x a e with y|⟨y,_⟩
  ·exact I.freeC x a y
  ·exact I.hok.fresh (by rw[<-R];exact Oy y)
 ·show(sC js σ).length=Nc.length;unfold sC;rw[MS];exact c.len
theorem CB(I:Inv X pins σ H s)(R:C=s.heap.objs.size)(Z:∀b∈ex,mw X pins H b)
  (U:Inv (aX X scope Nc C ex s H) [] σc H' s') (hs:ri C s'.heap h2):Inv X pins σ H' {s' with heap:=h2}:=by
 have W:∀b o,s.heap.get? b=ar o->b≠C:=λb o e=>by rw[R];exact Ng (MZ e)
 have B:=U.base;have u:Un (kl X.stack) ex H H' s.heap h2:={
  keep:=λb o e n Y T=>(hs.2 b (W b o e)).trans (B.keep b o e n Y T)
  slot:=λb o e n Y T=>by obtain⟨Q,q⟩:=B.slot b o e n Y T;exact⟨Q,(hs.2 b (W b o e)).trans q⟩
  free:=B.free
  there:=λb o e T=>by obtain⟨P,q⟩:=B.there b o e T;exact⟨P,(hs.2 b (W b o e)).trans q⟩
  tups:=B.tups
  frzs:=B.frzs
  tbls:=B.tbls}
 refine I.call' (s':={s' with heap:=h2}) (ch:=ex) U.os u (λb o e=>?_) U.bare λb Y=>⟨(Z b Y).2.2.2.1,(Z b Y).2.1,(Z b Y).2.2.2.2.1,(Z b Y).2.2.2.2.2⟩;have S:∀b o,H' b=ar o->b≠C:=λb o e z=>by have hf:H' C=none:=U.free;rw[z,hf]at e;cases e
 refine(U.hok b o e).stay (λd v hd q=>?_) (λ_ q=>q) λ_ _ q=>q;refine(hs.2 d ?_).trans q;rcases hd with z|z
 ·subst z;exact S _ _ e
 ·exact S _ _ z
theorem qF{Q:VK}(G:Option (a_->Sem Unit))(Qr:a_->dn->Prop)(c:CompScope X scope Nc js)(hc:X.calm=b_)(hi:PI X tg iter wi)
  (b1:∀C ex s H,Inv X pins σ H s->(∀b∈ex,mw X pins H b)->PG (aX X scope Nc C ex s H) tg g/\Jt (aX X scope Nc C ex s H) ifs tt/\PE (aX X scope Nc C ex s H) elt te)
  (I:Inv X pins σ H s) (h:yV wi js g tt te σ H Q)
  (E:∀p C s' S,Q (.ref p) S->(∀j,ri C s'.heap j->Inv X pins σ S {s' with heap:=j})->(∃m,s'.heap.Ns C m)->mw X pins S C->
   compPost (fg X.prog X.w) X.A X.xe G Qr (.ref p) C (.ok .next) s')
  (hs:∀x,k6 iter X.env x=aC x:=by intro _;rfl):
  ee (fg X.prog X.w) X.A (comprehension (.ListComp elt [⟨tg,iter,ifs,0⟩] scope pos) scope X.env pos' (SZ []) dt (hJ iter X.env) G) Qr X.xe s:=by
 refine wpAny_comprehension_free rfl hs (iq scope X.env (c.has I.ok)) c.kind c.loc (eJ (hi pins s σ H _ I h) λv s1 F=>eJ F λe0 s2 j=>?_);obtain⟨it,Y,tn,J,U,e,I2,T,t,f2,hW⟩:=j;subst e;refine NT (AZ λF O R K=>?_);dsimp only at O R K⊢;obtain⟨W,⟨m0,w0⟩,turn⟩:=hW s2.heap.objs.size (I2.hok.fresh (MV _));have l:Inv X pins σ (upd U s2.heap.objs.size (.lst [])) {s2 with heap:=s2.heap.push {cls:=.type "list",dict:=none,data:=.seq ([]:List a_).toArray}}:=
  I2.laid (t':=s2.toks) (λ_ _ q=>MU _ q) (MV _) ⟨Nr _,[],0,.nil,M6 _ rfl⟩
 generalize hS3:({s2 with heap:=s2.heap.push {cls:=.type "list",dict:=none,data:=.seq ([]:List a_).toArray}}:dn)=s3 at l;have e3:s3.heap=s2.heap.push {cls:=.type "list",dict:=none,data:=.seq ([]:List a_).toArray}:=by rw[<-hS3]
 rw[<-e3]at O R K⊢;generalize hp:s2.heap.objs.size=p at*;have f:∀b∈Y,b<p:=λb Z=>by obtain⟨o,e,_⟩:=T.obj _ _ t b Z;rw[<-hp];exact MZ e
 have b4:∀b∈Y,b≠p:=λb Z=>Ng (f b Z);have a:∀b∈Y,mw X pins (upd U p (.lst [])) b:=λb Z=>⟨by rw[aN (b4 b Z)];exact(f2 b Z).1,(f2 b Z).2⟩;have B:s3.heap.objs.size=p+1:=by rw[e3,N9,hp]
 have k:∀b∈Y,b<s3.heap.objs.size:=λb Z=>by rw[B];exact N8 (f b Z)
 have P:∀b o,s3.heap.get? b=ar o->F.get? b=ar o:=R;have a3:tn 0 F:=T.keep _ _ _ t λb Z o e=>P b o (by rw[e3];exact MU _ e);generalize hC:s3.heap.objs.size=C at*;have a4:F.Ns C (λ_=>none):=by simpa using O
 have start:∀tk,Inv (aX X scope Nc C Y s3 (upd U p (.lst []))) [] (sC js σ) (upd U p (.lst [])) {s3 with heap:=F,toks:=tk}:=λtk=>xK c l a (λb Z=>by rw[hC];exact k b Z) hC.symm a4 P K;have ok:=(start 0).ok;have L:∀{S:Hp},(∀b∈Y,S b=none)->∀b∈Y,mw (aX X scope Nc C Y s3 (upd U p (.lst []))) [] S b:=λhn b Z=>
  ⟨hn b Z,(ok.exf b Z).1,ok.exfs b Z,.inl Z,(ok.exf b Z).2,λ_ z=>nomatch z⟩
 obtain⟨hG,hT,hE⟩:=b1 C Y s3 (upd U p (.lst [])) l a;have loop:∀s':dn,Inv (aX X scope Nc C Y s3 (upd U p (.lst []))) [] (sC js σ) (upd U p (.lst [])) s'->tn 0 s'.heap->
   B' (fg X.prog X.w) X.A (.compLoop (.ListComp elt [⟨tg,iter,ifs,0⟩] scope pos) 0 (.ref it) (.ref p) (aX X scope Nc C Y s3 (upd U p (.lst []))).env) (compPost (fg X.prog X.w) X.A X.xe G Qr (.ref p) C) s':=by
  intro s' I' a7;refine codeAny_loop rfl (λn s'=>∃i σ' S,Inv (aX X scope Nc C Y s3 (upd U p (.lst []))) [] σ' S s'/\tn i s'.heap/\(∀b∈Y,S b=none)/\W i n σ' S) ?_ m0 ⟨0,_,_,I',a7,λb Z=>(a b Z).1,w0⟩;rintro n s4 ⟨i,σ4,H4,I4,st4,fr4,w4⟩;show ee _ X.A ((compTurn (.ListComp elt [⟨tg,iter,ifs,0⟩] scope pos) 0 (.ref it) (.ref p) (aX X scope Nc C Y s3 (upd U p (.lst []))).env).onRaise (λx=>do Rm x (aX X scope Nc C Y s3 (upd U p (.lst []))).env;theTreesLotGoes x)) _ _ s4;refine wpAny_noted ?_;rw[compTurn_list];refine MR (Ro (MR ?_));rcases turn i n σ4 H4 w4 with⟨stop,qn⟩|⟨go,N,hN,step⟩
  ·refine Oc (T.done (aX X scope Nc C Y s3 (upd U p (.lst []))) rfl rfl rfl hc i [] s4 σ4 H4 (λ_ _=>False) I4 (L fr4) st4 stop) (λr s5 ⟨hr,I5⟩=>?_) λ_ _ z=>z.elim;subst hr;refine MW (E p C s5 H4 qn (λj b3=>CB l hC.symm a I5 b3) ?_ (l.fpOk (Pq hC) I5.free));obtain⟨m,hm,_⟩:=I5.loc;exact⟨m,hm⟩
  ·refine Oc (T.item (aX X scope Nc C Y s3 (upd U p (.lst []))) rfl rfl rfl hc i [] s4 σ4 H4 (λ_ _=>False) I4 (L fr4) st4 go) (λr s5 ⟨u,hr,h5⟩=>?_) λ_ _ z=>z.elim;subst hr;refine MR (Oc h5 (λ_ s6 ⟨x,H6,I6,r6,y6,st6,fr6⟩=>?_) λ_ _ z=>z.elim);have a6:=I6.pinned (L fr6) (T.obj _ _ st6);refine MR (Oc (hG _ s6 σ4 H6 x u _ a6 r6 (step x H6 y6)) (λ_ s7 ⟨σ7,H7,I7,q7⟩=>?_) λ_ _ z=>z.elim);refine MR (Oc (hT _ s7 σ7 H7 _ I7 q7) (λb s8 ⟨H8,I8,q8⟩=>?_) λ_ _ z=>z.elim);have RU:∀{σ9:St} {H9:Hp} {s9:dn},Inv (aX X scope Nc C Y s3 (upd U p (.lst []))) ([]++qw Y s6.heap) σ9 H9 s9->N σ9 H9->
     ∃m,m<n/\∃i σ' S,Inv (aX X scope Nc C Y s3 (upd U p (.lst []))) [] σ' S s9/\tn i s9.heap/\(∀b∈Y,S b=none)/\W i m σ' S:=λ{σ9 H9 s9} I9 n9=>by
    obtain⟨m',hm,w9⟩:=hN σ9 H9 n9;refine⟨m',hm,i+1,σ9,H9,I9.unpinned,T.keep _ _ _ st6 λb Z o e=>(I9.pin (b,o) (Nj _ (Nj _ (jO Z e)))).1,λb Z=>?_,w9⟩;obtain⟨o,e,d⟩:=T.obj _ _ st6 b Z;exact(I9.pin (b,o) (Nj _ (Nj _ (jO Z e)))).2.1
   cases b with
   |false=>exact MW ⟨rfl,RU I8 q8⟩
   |true=>
    refine MR (MR (Oc (hE _ s8 σ7 H8 _ I8 q8) (λy s9 ⟨yv,H9,I9,r9,q9⟩=>?_) λ_ _ z=>z.elim));obtain⟨xs,hx,hl,n9⟩:=q9;refine MR (Oc (oM (X:=aX X scope Nc C Y s3 (upd U p (.lst []))) _ s9 σ7 H9 (.ref p) [yv] (.ref p) [y] (λ_ S=>N σ7 S) I9 rfl (.cons r9 .nil) ⟨p,xs,yv,rfl,rfl,hx,hl,n9⟩) (λ_ s10 ⟨_,H10,I10,_,q10⟩=>?_) λ_ _ z=>z.elim);exact MW (MW ⟨rfl,RU I10 q10⟩)
 refine codeAny_compStart_list (loop _ ?_ ?_) (T.self _ 0 _ _ _ ?_ (loop _ ?_ ?_))
 all_goals first
  |exact a3
  |(subst hS3;exact start _)
theorem Fe(c:CompScope X scope Nc js)(S:X.calm=b_)(T:PI X tg iter wi)
  (Y:∀C ex s H,PG (aX X scope Nc C ex s H) tg g/\Jt (aX X scope Nc C ex s H) ifs tt/\PE (aX X scope Nc C ex s H) elt te)
  (hs:∀x,k6 iter X.env x=aC x:=by intro _;rfl):PE X (.ListComp elt [⟨tg,iter,ifs,0⟩] scope pos) (yV wi js g tt te):=by
 intro pins s σ H Q I h;rw[eval_ListComp];refine qF none _ c S T (λC ex s H _ _=>Y C ex s H) I h (λp C s' W q P R _=>?_) hs;obtain⟨m,hm⟩:=R;exact⟨m,hm,λU Z=>⟨.ref p,W,P U Z,rfl,q⟩⟩
theorem xM{pos:Pos}(E:X.N.Nodup)(T:X.N[i]? =ar x)(O:Loc X.env.scope x)
  (c:CompScope X scope Nc js) (G:X.calm=b_) (J:PI X tg iter wi)
  (U:∀C ex s H,PG (aX X scope Nc C ex s H) tg g/\Jt (aX X scope Nc C ex s H) ifs tt/\PE (aX X scope Nc C ex s H) elt te)
  (W:la (.ListComp elt [⟨tg,iter,ifs,0⟩] scope cpos) (ar (.Name x pos')) pos.line X.env=aC true:=by rfl)
  (K:X.fn x=b_\/X.env.scope.names.lookup x=ar .local:=by first|exact .inl rfl|exact .inr rfl|assumption)
  (hs:∀x,k6 iter X.env x=aC x:=by intro _;rfl):PS X (.Assign [.Name x pos'] (.ListComp elt [⟨tg,iter,ifs,0⟩] scope cpos) pos) (Ho (yV wi js g tt te) (Cc i)):=by
 intro pins s σ H D I h;rw[exec_Assign_Name_used _ _ _ _ W];refine MR (Ro (MR ?_));show ee _ X.A (do let _<-comprehension (.ListComp elt [⟨tg,iter,ifs,0⟩] scope cpos) scope X.env _ (SZ []) dt (hJ iter X.env) (ar (QL (.Name x pos') X.env))) _ _ s;refine MR (eJ (qF (ar (QL (.Name x pos') X.env)) (λ_ s'=>SP X pins D .next s') c G J (λC ex s H _ _=>U C ex s H) I h (λp C s' S q F P Z=>?_) hs) λ_ s' q=>MW (MW q));obtain⟨m,hm⟩:=P;have Q:Inv X pins σ S s':=F s'.heap (.refl ..);refine wpAny_assign_Name (sS Q E T O (v:=.ref p) rfl (λs'' I'' ⟨a,hsb,ha⟩=>?_) K);have R:C≠a:=by
  rcases ha with z|z
  ·rw[z];exact Z.2.1
  ·exact λe=>Z.2.2.2.2.1 x a z e.symm
 refine⟨m,hm.sameBut hsb R,λB Y=>?_⟩;exact⟨_,S,I''.turned (t':=s''.toks) (it:=C) (λb o L e=>(Y.2 b L).trans e) Z.1 Z.2.1 Z.2.2.2.1 Z.2.2.2.2.1 Z.2.2.2.2.2,q⟩
end
inductive D where
 |non|bl (b:Bool)|int (i:Int)|str (x:Str)|tup (ds:List D)|lst (k:Nat)|ro (ds:List D)|emp
 |fn (a c:c_) (q:Str) (ds:List D) (vs:List V)|exc (x:Str) (ds:List D)
 |fz (ds:List D)
abbrev av:=List (List D)
inductive Res(α:Type) where
 |ok (a:α)|ex (x:D)
def M(α:Type):=av->Option (Res α×av)
namespace M
def ret{α:Type}(a:α):M α:=λS=>ar (.ok a,S)
def bnd{α β:Type}(m:M α)(f:α->M β):M β:=λS=>match m S with
 |some (.ok a,S')=>f a S'
 |some (.ex x,S')=>ar (.ex x,S')
 |none=>none
def fail{α:Type}:M α:=λ_=>none
def raise{α:Type}(x:D):M α:=λS=>ar (.ex x,S)
noncomputable instance:Monad M where
 pure:=ret
 bind:=bnd
end M
def MI(K:dV)(a:c_)(xs:List V):Prop:=∃(o:Obj) (its:Array a_) (n:Nat),K.lookup a=ar o/\o.cls= .type "list"/\o.dict=none/\o.data= .seq its n/\its.size<=sizeLine/\bu xs its.toList
def EL(K:dV)(H:Hp)(a:c_)(vs:List V):Prop:=(∃o,H a=ar (.frz o (.lst vs)))\/MI K a vs
theorem EL.sq{K:dV}{H:Hp}{a:c_}{vs:List V}(h:EL K H a vs):lA K H a vs:=h.imp (λ⟨o,e⟩=>.inr ⟨o,e⟩) λz=>z
def pT(C a:c_)(od:Option c_):gd->Prop:=λh=>∃oe vs,h.get? a=ar oe/\oe.cls= .ref C/\oe.dict=od/\oe.data= .fields vs
def oR(qual:Str)(c:c_):gd->Prop:=λh=>h.CodeRec (.ref c) qual
def cf:List Str:=["law","_law_within_right","_law_refusals_right","_law_sharings_right","_law_right","_law_lists_right","_law_papers_right","_law_great_right","_law_told_right","_law_desks_right","_law_texts_right"]
def TabsOk(K:dV)(H:Hp):Prop:=∀x∈cf,∀c P,kS K x=ar (c,P)->∃ps,H P=ar (.tbl ps)/\Sj ps.toList/\
 ∀pos cv,K_ pos ps.toList=ar cv->∃c',cv= .ref c'/\H c'=ar (.ext (oR (x++".<locals>.<lambda>") c'))
theorem TabsOk.mono{K:dV}{H Z:Hp}(h:TabsOk K H)(k:∀a o,H a=ar o->(∀vs,o≠ .lst vs)->Z a=ar o):TabsOk K Z:=λx Y c P e=>
 let ⟨ps,h1,h2,h3⟩:=h x Y c P e
 ⟨ps,k _ _ h1 (by intro _ z;cases z),h2,λpos cv q=>let ⟨c',e1,e2⟩:=h3 pos cv q;⟨c',e1,k _ _ e2 (by intro _ z;cases z)⟩⟩
mutual
inductive RelD(K:dV)(ι:List c_)(H:Hp):D->V->Prop where
 |non:RelD K ι H .non .non
 |bl (b:Bool):RelD K ι H (.bl b) (.bl b)
 |int (i:Int):RelD K ι H (.int i) (.int i)
 |str (x:Str):RelD K ι H (.str x) (.str x)
 |tup {a:c_} {ds:List D} {vs:List V}:H a=ar (.tup vs)->RelDs K ι H ds vs->RelD K ι H (.tup ds) (.ref a)
 |lst {a:c_} {k:Nat}:ι[k]? =ar a->RelD K ι H (.lst k) (.ref a)
 |ro {a:c_} {ds:List D} {vs:List V}:EL K H a vs->RelDs K ι H ds vs->RelD K ι H (.ro ds) (.ref a)
 |emp {a:c_}:H a=ar (.dK [])->RelD K ι H .emp (.ref a)
 |fn {a c:c_} {q:Str} {ds:List D} {vs:List V}:H c=ar (.ext (oR q c))->RelDs K ι H ds vs->RelD K ι H (.fn a c q ds vs) (.ref a)
 |exc {a C:c_} {x:Str}:rb K gc x=ar (ar (.ref C))->H a=ar (.ext (pT C a none))->RelD K ι H (.exc x []) (.ref a)
 |excF {a C dx:c_} {x:Str} {fs:List (Str×V)} {ds:List D}:rb K gc x=ar (ar (.ref C))->H a=ar (.ext (pT C a (ar dx)))->H dx=ar (.xd fs)->fs.map (·.1)=([("many":Str),("most":Str)]:List Str)->RelDs K ι H ds (fs.map (·.2))->RelD K ι H (.exc x ds) (.ref a)
 |fz {a:c_} {o:Obj} {ds:List D} {vs:List V}:H a=ar (.frz o (.lst vs))->RelDs K ι H ds vs->RelD K ι H (.fz ds) (.ref a)
inductive RelDs(K:dV)(ι:List c_)(H:Hp):List D->List V->Prop where
 |nil:RelDs K ι H [] []
 |cons {d:D} {v:V} {ds:List D} {vs:List V}:RelD K ι H d v->RelDs K ι H ds vs->RelDs K ι H (d::ds) (v::vs)
end
structure Rep(K:dV)(ι:List c_)(H:Hp)(S:av):Prop where
 nd:ι.Nodup
 len:ι.length=S.length
 get:∀(k:Nat) (a:c_) (xs:List D),ι[k]? =ar a->S[k]? =ar xs->∃vs,H a=ar (.lst vs)/\RelDs K ι H xs vs
 tab:TabsOk K H
structure Ext(ι:List c_)(H:Hp)(ι':List c_)(H':Hp):Prop where
 ids:∃more,ι'=ι++more
 oth:∀a o,H a=ar o->a∉ι->(∀ps,o≠ .tbl ps)->H' a=ar o/\a∉ι'
structure ExtN(ι:List c_)(H:Hp)(ι':List c_)(H':Hp):Prop where
 ids:∃more,ι'=ι++more
 oth:∀a o,H a=ar o->a∉ι->(∀ps,o≠ .tbl ps)->(∀vs,o≠ .lst vs)->H' a=ar o/\a∉ι'
theorem Ext.n{ι Z:List c_}{H Y:Hp}(e:Ext ι H Z Y):ExtN ι H Z Y:=⟨e.ids,λa o h n t _=>e.oth a o h n t⟩
theorem Ext.refl{ι:List c_}{H:Hp}:Ext ι H ι H:=⟨⟨[],by simp⟩,λ_ _ h n _=>⟨h,n⟩⟩
theorem Ext.trans{ι Y Z:List c_}{H W X:Hp}(a:Ext ι H Y W)(b:Ext Y W Z X):Ext ι H Z X:=by obtain⟨T,e1⟩:=a.ids;obtain⟨U,e2⟩:=b.ids;exact⟨⟨T++U,by rw[e2,e1,Nh]⟩,λc o h n t=>let ⟨h1,n1⟩:=a.oth c o h n t;b.oth c o h1 n1 t⟩
theorem ExtN.at{ι Z:List c_}{H X:Hp}(e:ExtN ι H Z X){k:Nat}{a:c_}(h:ι[k]? =ar a):Z[k]? =ar a:=by obtain⟨m,rfl⟩:=e.ids;have Y:k<ι.length:=(MX.mp h).1;rw[Nk Y];exact h
section
variable {K:dV}{ι ι':List c_}{H H':Hp}{S:av}
theorem Rep.isL(r:Rep K ι H S)(h:a∈ι):∃vs,H a=ar (.lst vs):=by
 obtain⟨k,Y,e⟩:=List.mem_iff_getElem.mp h;have Z:k<S.length:=by rw[<-r.len];exact Y
 obtain⟨vs,X,_⟩:=r.get k a (S[k]) (by rw[MY Y,e]) (MY Z);exact⟨vs,X⟩
theorem Rep.notIn(r:Rep K ι H S)(h:H a=ar o)(Z:∀vs,o≠ .lst vs):a∉ι:=λz=>by obtain⟨vs,e⟩:=r.isL z;rw[h]at e;exact Z vs (Nw e)
theorem Rep.free(r:Rep K ι H S)(h:H a=none):a∉ι:=λz=>by obtain⟨vs,e⟩:=r.isL z;rw[h]at e;cases e
mutual
theorem RelD.laterN(r:Rep K ι H S)(e:ExtN ι H ι' H'):∀{d:D} {v:V},RelD K ι H d v->RelD K ι' H' d v
 |_,_,.non=>.non
 |_,_,.bl b=>.bl b
 |_,_,.int i=>.int i
 |_,_,.str x=>.str x
 |_,_,.tup h hs=>.tup (e.oth _ _ h (r.notIn h (by intro _ z;cases z)) (by intro _ z;cases z) (by intro _ z;cases z)).1 (RelDs.laterN r e hs)
 |_,_,.lst h=>.lst (e.at h)
 |_,_,.ro h hs=>.ro (h.imp (λ⟨o,h⟩=>⟨o,(e.oth _ _ h (r.notIn h (by intro _ z;cases z)) (by intro _ z;cases z) (by intro _ z;cases z)).1⟩) λz=>z) (RelDs.laterN r e hs)
 |_,_,.emp h=>.emp (e.oth _ _ h (r.notIn h (by intro _ z;cases z)) (by intro _ z;cases z) (by intro _ z;cases z)).1
 |_,_,.fn h hs=>.fn (e.oth _ _ h (r.notIn h (by intro _ z;cases z)) (by intro _ z;cases z) (by intro _ z;cases z)).1 (RelDs.laterN r e hs)
 |_,_,.exc n h=>.exc n (e.oth _ _ h (r.notIn h (by intro _ z;cases z)) (by intro _ z;cases z) (by intro _ z;cases z)).1
 |_,_,.excF n h h2 hn hs=>.excF n (e.oth _ _ h (r.notIn h (by intro _ z;cases z)) (by intro _ z;cases z) (by intro _ z;cases z)).1 (e.oth _ _ h2 (r.notIn h2 (by intro _ z;cases z)) (by intro _ z;cases z) (by intro _ z;cases z)).1 hn (RelDs.laterN r e hs)
 |_,_,.fz h hs=>.fz (e.oth _ _ h (r.notIn h (by intro _ z;cases z)) (by intro _ z;cases z) (by intro _ z;cases z)).1 (RelDs.laterN r e hs)
theorem RelDs.laterN(r:Rep K ι H S)(e:ExtN ι H ι' H'):∀{ds:List D} {vs:List V},RelDs K ι H ds vs->RelDs K ι' H' ds vs
 |_,_,.nil=>.nil
 |_,_,.cons h hs=>.cons (RelD.laterN r e h) (RelDs.laterN r e hs)
end
theorem RelD.later(r:Rep K ι H S)(e:Ext ι H ι' H'){d:D}{v:V}(h:RelD K ι H d v):RelD K ι' H' d v:=RelD.laterN r e.n h
theorem RelDs.later(r:Rep K ι H S)(e:Ext ι H ι' H'){ds:List D}{vs:List V}(h:RelDs K ι H ds vs):RelDs K ι' H' ds vs:=RelDs.laterN r e.n h
theorem RelDs.length:∀{ds:List D} {vs:List V},RelDs K ι H ds vs->ds.length=vs.length
 |_,_,.nil=>rfl
 |_,_,.cons _ t=>by rw[N4,N4,RelDs.length t]
theorem RelDs.append:∀{ds es:List D} {vs ws:List V},RelDs K ι H ds vs->RelDs K ι H es ws->RelDs K ι H (ds++es) (vs++ws)
 |_,_,_,_,.nil,s=>s
 |_,_,_,_,.cons r t,s=>.cons r (RelDs.append t s)
theorem RelDs.get':∀{ds:List D} {vs:List V} {i:Nat} {d:D},RelDs K ι H ds vs->ds[i]? =ar d->∃v,vs[i]? =ar v/\RelD K ι H d v
 |_,_,_,_,.nil,e=>by simp at e
 |_,_,0,_,.cons r _,e=>by simp at e;subst e;exact⟨_,rfl,r⟩
 |_,_,i+1,v,.cons _ t,e=>by
  obtain⟨u,Z,Y⟩:=RelDs.get' (i:=i) t (by simpa using e);exact⟨u,by simpa using Z,Y⟩
theorem RelDs.take:∀{ds:List D} {vs:List V} (n:Nat),RelDs K ι H ds vs->RelDs K ι H (ds.take n) (vs.take n)
 |_,_,0,_=>.nil
 |_,_,_+1,.nil=>.nil
 |_,_,n+1,.cons r t=>.cons r (RelDs.take n t)
theorem RelDs.drop:∀{ds:List D} {vs:List V} (n:Nat),RelDs K ι H ds vs->RelDs K ι H (ds.drop n) (vs.drop n)
 |_,_,0,r=>r
 |_,_,_+1,.nil=>.nil
 |_,_,n+1,.cons _ t=>RelDs.drop n t
theorem RelDs.set(r:RelD K ι H d v):∀{ds:List D} {vs:List V} (i:Nat),RelDs K ι H ds vs->RelDs K ι H (ds.set i d) (vs.set i v)
 |_,_,_,.nil=>.nil
 |_,_,0,.cons _ t=>.cons r t
 |_,_,i+1,.cons q t=>.cons q (RelDs.set r i t)
theorem RelDs.eraseIdx:∀{ds:List D} {vs:List V} (i:Nat),RelDs K ι H ds vs->RelDs K ι H (ds.eraseIdx i) (vs.eraseIdx i)
 |_,_,_,.nil=>.nil
 |_,_,0,.cons _ t=>t
 |_,_,i+1,.cons q t=>.cons q (RelDs.eraseIdx i t)
theorem gK(Z:H p=none):Ext ι H ι (upd H p o):=⟨⟨[],by simp⟩,λa Y h n _=>⟨by rw[aN (aK h Z)];exact h,n⟩⟩
theorem i5{p:c_}{o:HO}(r:Rep K ι H S)(Z:H p=none):Rep K ι (upd H p o) S:=by refine⟨r.nd,r.len,λk a xs e1 e2=>?_,r.tab.mono λb o h _=>by rw[aN (aK h Z)];exact h⟩;obtain⟨vs,Y,X⟩:=r.get k a xs e1 e2;exact⟨vs,by rw[aN (aK Y Z)];exact Y,RelDs.later r (gK Z) X⟩
theorem vW(Z:H p=none):Ext ι H (ι++[p]) (upd H p o):=⟨⟨[p],rfl⟩,λa Y h n _=>⟨by rw[aN (aK h Z)];exact h,by have:a≠p:=aK h Z;simp[n,this]⟩⟩
theorem CC{p:c_}{xs:List D}{vs:List V}(r:Rep K ι H S)(Z:H p=none)(h:RelDs K ι H xs vs):Rep K (ι++[p]) (upd H p (.lst vs)) (S++[xs]):=by
 have U:Ext ι H (ι++[p]) (upd H p (.lst vs)):=vW Z;refine⟨?_,by simp[r.len],λk a ys e1 e2=>?_,r.tab.mono λb o h _=>by rw[aN (aK h Z)];exact h⟩
 ·rw[PP];refine⟨r.nd,by simp,λa R b Q=>?_⟩;have:b=p:=by simpa using Q
  subst this;rintro rfl;exact r.free Z R
 ·by_cases hk:k<ι.length
  ·rw[Nk hk]at e1;rw[Nk (by rw[<-r.len];exact hk)]at e2;obtain⟨ws,X,T⟩:=r.get k a ys e1 e2;exact⟨ws,by rw[aN (aK X Z)];exact X,RelDs.later r U T⟩
  ·have Y:k<(ι++[p]).length:=(MX.mp e1).1;have:k=ι.length:=by simp at Y;omega
   subst this;simp at e1;rw[r.len]at e2;simp at e2;subst e1 e2;exact⟨vs,bo,RelDs.later r U h⟩
theorem qG:∀{l:List c_} {i j:Nat} {a:c_},l.Nodup->l[i]? =ar a->l[j]? =ar a->i=j
 |[],i,j,a,_,h,_=>by simp at h
 |x::r,0,0,a,_,_,_=>rfl
 |x::r,0,j+1,a,hn,h1,h2=>by
  simp at h1 h2;subst h1;exact absurd (Nz h2) (NN.mp hn).1
 |x::r,i+1,0,a,hn,h1,h2=>by
  simp at h1 h2;subst h2;exact absurd (Nz h1) (NN.mp hn).1
 |x::r,i+1,j+1,a,hn,h1,h2=>by
  simp at h1 h2;rw[qG (NN.mp hn).2 h1 h2]
theorem uj(Z:a∈ι):Ext ι H ι (upd H a o):=⟨⟨[],by simp⟩,λb Y h n _=>⟨by rw[aN (λz=>n (by rw[z];exact Z))];exact h,n⟩⟩
theorem uk{a:c_}{k:Nat}{xs:List D}{vs:List V}(r:Rep K ι H S)(Z:ι[k]? =ar a)(h:RelDs K ι H xs vs):Rep K ι (upd H a (.lst vs)) (S.set k xs):=by
 have Y:a∈ι:=Nz Z;have X:Ext ι H ι (upd H a (.lst vs)):=uj Y;refine⟨r.nd,by simp[r.len],λj b ys e1 e2=>?_,r.tab.mono λb o h n=>by obtain⟨ws,hw⟩:=r.isL Y;rw[aN (λz=>by subst z;rw[h]at hw;exact n ws (Nw hw))];exact h⟩
 by_cases hj:j=k
 ·subst hj;rw[Z]at e1;cases e1;have T:j<S.length:=by rw[<-r.len];exact(MX.mp Z).1
  rw[NB T]at e2;cases e2;exact⟨vs,bo,RelDs.later r X h⟩
 ·rw[NM (j' hj)]at e2;obtain⟨ws,R,U⟩:=r.get j b ys e1 e2;have Q:b≠a:=by
   rintro rfl;exact hj (qG r.nd e1 Z)
  exact⟨ws,by rw[aN Q];exact R,RelDs.later r X U⟩
end
abbrev XD:=D->List c_->av->Hp->Prop
def cont(K:dV)(E:XD){α:Type}(c:M α)(ι:List c_)(S:av)(H:Hp)(Q:α->List c_->av->Hp->Prop):Prop:=
 ∃r S',c S=ar (r,S')/\∀ ι' H',Ext ι H ι' H'->Rep K ι' H' S'->match r with
  | .ok a=>Q a ι' S' H'
  | .ex x=>E x ι' S' H'
section
variable {K:dV}{E:XD}{ι:List c_}{S:av}{H:Hp}{α β:Type}
theorem aj{c:M α}{f:α->M β}{Q:β->List c_->av->Hp->Prop}(h:cont K E (c>>=f) ι S H Q):cont K E c ι S H (λa Z S1 X=>cont K E (f a) Z S1 X Q):=by
 obtain⟨r,R,e,k⟩:=h;have Y:M.bnd c f S=ar (r,R):=e;unfold M.bnd at Y;cases q:c S with
 |none=>rw[q]at Y;cases Y
 | some p=>
  obtain⟨O,S1⟩:=p;rw[q]at Y;cases O with
  |ok a=>exact⟨.ok a,S1,q,λZ X T rep1=>⟨r,R,Y,λU P N rep2=>k U P (T.trans N) rep2⟩⟩
  |ex x=>
   cases Y;exact⟨.ex x,_,q,λZ X T rep1=>k Z X T rep1⟩
theorem ay{c:M α}{Q X:α->List c_->av->Hp->Prop}(h:cont K E c ι S H Q)(k:∀a ι' Z H',Ext ι H ι' H'->Rep K ι' H' Z->Q a ι' Z H'->X a ι' Z H'):cont K E c ι S H X:=by
 obtain⟨r,Z,e,q⟩:=h;refine⟨r,Z,e,λY U T rep1=>?_⟩;have:=q Y U T rep1;cases r with
 |ok a=>exact k a Y Z U T rep1 this
 |ex x=>exact this
theorem aq{a:α}{Q:α->List c_->av->Hp->Prop}(h:cont K E (aC a) ι S H Q){Z:List c_}{Y:Hp}(x:Ext ι H Z Y)(r:Rep K Z Y S):Q a Z S Y:=by obtain⟨X,U,e,q⟩:=h;cases e;exact q Z Y x r
theorem ag{Q:α->List c_->av->Hp->Prop}(h:cont K E (M.fail) ι S H Q):False:=by obtain⟨Z,Y,e,q⟩:=h;cases e
end
abbrev aI:=List (Option D)
inductive RelE(K:dV)(ι:List c_)(H:Hp):aI->St->Prop where
 |nil:RelE K ι H [] []
 |cons {o:Option D} {u:Option V} {ρ:aI} {σ:St}:(∀d,o=ar d->∃v,u=ar v/\RelD K ι H d v)->RelE K ι H ρ σ->RelE K ι H (o::ρ) (u::σ)
section
variable {K:dV}{ι ι':List c_}{S:av}{H H':Hp}
theorem RelE.later(r:Rep K ι H S)(e:Ext ι H ι' H'):∀{ρ:aI} {σ:St},RelE K ι H ρ σ->RelE K ι' H' ρ σ
 |_,_,.nil=>.nil
 |_,_,.cons h t=>.cons (λd z=>let ⟨v,e1,e2⟩:=h d z;⟨v,e1,RelD.later r e e2⟩) (RelE.later r e t)
theorem RelE.get:∀{ρ:aI} {σ:St} {i:Nat} {d:D},RelE K ι H ρ σ->ρ[i]? =ar (ar d)->∃v,σ[i]? =ar (ar v)/\RelD K ι H d v
 |_,_,_,_,.nil,e=>by simp at e
 |_,_,0,_,.cons h _,e=>by
  simp at e;obtain⟨v,e1,e2⟩:=h _ e;exact⟨v,by simp[e1],e2⟩
 |_,_,i+1,_,.cons _ t,e=>by
  obtain⟨v,Z,Y⟩:=RelE.get (i:=i) t (by simpa using e);exact⟨v,by simpa using Z,Y⟩
theorem RelE.set(r:RelD K ι H d v):∀{ρ:aI} {σ:St} (i:Nat),RelE K ι H ρ σ->RelE K ι H (ρ.set i (ar d)) (σ.set i (ar v))
 |_,_,_,.nil=>.nil
 |_,_,0,.cons _ t=>.cons (λd' z=>by cases z;exact⟨v,rfl,r⟩) t
 |_,_,i+1,.cons q t=>.cons q (RelE.set r i t)
theorem RelE.start:∀{ds:List D} {vs:List V},RelDs K ι H ds vs->∀n,RelE K ι H (ds.map ar++eb n none) (vs.map ar++eb n none)
 |_,_,.nil,n=>by
  induction n with
  |zero=>exact .nil
  |succ n ih=>exact .cons (λd z=>by cases z) ih
 |_,_,.cons r t,n=>.cons (λd z=>by cases z;exact⟨_,rfl,r⟩) (RelE.start t n)
end
abbrev TM:=aI->M D
def kB(K:dV)(Q:VK):D->List c_->av->Hp->Prop:=λd ι' _ H'=>∀v,RelD K ι' H' d v->Q v H'
def tM(K:dV)(E:XD)(m:TM):TE:=λσ H Q=>∃ ι S ρ,Rep K ι H S/\RelE K ι H ρ σ/\cont K E (m ρ) ι S H (kB K Q)
def SE(X:Cx)(E:XD)(e:Expr)(m:TM):Prop:=PE X e (tM X.K E m)
def Ff(K:dV)(E:XD)(m:aI->M Bool):TT:=λσ H Q=>∃ ι S ρ,Rep K ι H S/\RelE K ι H ρ σ/\cont K E (m ρ) ι S H (λb _ _ H'=>Q b H')
def SB(X:Cx)(E:XD)(e:Expr)(m:aI->M Bool):Prop:=PT X e (Ff X.K E m)
def HL(X:Cx)(E:XD)(e:Expr)(m:aI->M Bool):Prop:=PW X e (Ff X.K E m)
def L3(K:dV)(E:XD)(m:aI->M (List D)):TA:=λσ H Q=>∃ ι S ρ,Rep K ι H S/\RelE K ι H ρ σ/\cont K E (m ρ) ι S H (λds ι' _ H'=>∀vs,RelDs K ι' H' ds vs->Q vs H')
def SA(X:Cx)(E:XD)(es:List Expr)(m:aI->M (List D)):Prop:=PA X es (L3 X.K E m)
inductive Out where
 |nx (ρ:aI)|ret (d:D)|bk (ρ:aI)|ct (ρ:aI)
abbrev cY:=aI->M Out
def EM(K:dV)(T:Ends):Out->List c_->av->Hp->Prop:=λo ι' _ H'=>match o with
 | .nx ρ=>∀ σ,RelE K ι' H' ρ σ->T.nx σ H'
 | .ret d=>∀v,RelD K ι' H' d v->T.rt v H'
 | .bk ρ=>∀ σ,RelE K ι' H' ρ σ->T.bk σ H'
 | .ct ρ=>∀ σ,RelE K ι' H' ρ σ->T.ct σ H'
def Mu(K:dV)(E:XD)(m:cY):TS:=λT σ H=>∃ ι S ρ,Rep K ι H S/\RelE K ι H ρ σ/\cont K E (m ρ) ι S H (EM K T)
def SS(X:Cx)(E:XD)(st:oo)(m:cY):Prop:=PS X st (Mu X.K E m)
def um(X:Cx)(E:XD)(st:List oo)(m:cY):Prop:=sr X st (Mu X.K E m)
abbrev oH:=D->aI->M aI
def Ju(K:dV)(E:XD)(m:oH):TG:=λv σ H Q=>∃ ι S ρ d,Rep K ι H S/\RelE K ι H ρ σ/\RelD K ι H d v/\cont K E (m d ρ) ι S H (λρ' ι' _ H'=>∀ σ',RelE K ι' H' ρ' σ'->Q σ' H')
def SG(X:Cx)(E:XD)(tg:Expr)(m:oH):Prop:=PG X tg (Ju X.K E m)
theorem PE.imp{X:Cx}{e:Expr}{t t':TE}(h:PE X e t)(k:∀ σ H Q,t' σ H Q->t σ H Q):PE X e t':=λpins s σ H Q I hw=>h pins s σ H Q I (k σ H Q hw)
theorem PT.imp{X:Cx}{e:Expr}{t t':TT}(h:PT X e t)(k:∀ σ H Q,t' σ H Q->t σ H Q):PT X e t':=λpins s σ H Q I hw=>h pins s σ H Q I (k σ H Q hw)
theorem PW.imp{X:Cx}{e:Expr}{t t':TT}(h:PW X e t)(k:∀ σ H Q,t' σ H Q->t σ H Q):PW X e t':=λZ pins s σ H Q I hw=>h Z pins s σ H Q I (k σ H Q hw)
theorem PA.imp{X:Cx}{e:List Expr}{t t':TA}(h:PA X e t)(k:∀ σ H Q,t' σ H Q->t σ H Q):PA X e t':=λpos pins s σ H Q I hw=>h pos pins s σ H Q I (k σ H Q hw)
theorem PS.imp{X:Cx}{e:oo}{t t':TS}(h:PS X e t)(k:∀D σ H,t' D σ H->t D σ H):PS X e t':=λpins s σ H D I hw=>h pins s σ H D I (k D σ H hw)
theorem sr.imp{X:Cx}{e:List oo}{t t':TS}(h:sr X e t)(k:∀D σ H,t' D σ H->t D σ H):sr X e t':=λpins s σ H D I hw=>h pins s σ H D I (k D σ H hw)
theorem PG.imp{X:Cx}{e:Expr}{t t':TG}(h:PG X e t)(k:∀v σ H Q,t' v σ H Q->t v σ H Q):PG X e t':=λpins s σ H v u Q I r hw=>h pins s σ H v u Q I r (k v σ H Q hw)
section
variable {X:Cx}{E:XD}{a b e:Expr}{m n:TM}{pos:Pos}
def GH(ρ:aI)(i:Nat):M D:=match ρ[i]? with
 |some (ar d)=>aC d
 |_=>M.fail
theorem aa(i:Nat)(U:X.N[i]? =ar x:=by rfl)(W:EN X.env.scope x:=by first|exact y8 rfl|exact sb (y8 rfl)|exact sb (sb rfl))(Z:(x==("__debug__":Str))=false:=by decide)
  (Y:(x==("__classdict__":Str))=false:=by decide):SE X E (.Name x pos) (λρ=>GH ρ i):=by
 refine PE.imp (ky U W Z Y) λσ H Q h=>?_;obtain⟨ι,S,ρ,rep,re,c⟩:=h;unfold GH at c;dsimp only at c;split at c
 ·next d Z=>
  obtain⟨v,e1,e2⟩:=re.get Z;exact⟨v,e1,aq c .refl rep v e2⟩
 ·exact(ag c).elim
theorem kC(h:PE X e (tC v))(Z:∀ ι H,RelD X.K ι H d v):SE X E e (λ_=>aC d):=by refine PE.imp h λσ H Q h=>?_;obtain⟨ι,S,ρ,rep,re,c⟩:=h;exact aq c .refl rep v (Z _ _)
theorem aB{j}:SE X E (.Constant (.int i) j pos) (λ_=>aC (.int i)):=kC B8 λ_ _=>.int i
theorem ik{j}:SE X E (.Constant (.bool i) j pos) (λ_=>aC (.bl i)):=kC JG λ_ _=>.bl i
theorem kD{j}:SE X E (.Constant .none j pos) (λ_=>aC .non):=kC G9 λ_ _=>.non
theorem kE{j}:SE X E (.Constant (.str x) j pos) (λ_=>aC (.str x)):=kC Ha λ_ _=>.str x
theorem Fg(Z:Gl X x)(Y:X.mg x=ar (.int i t))(W:(x==("__debug__":Str))=false:=by decide):SE X E (.Name x pos) (λ_=>aC (.int i)):=
 kC (yM Z Y (v:=.int i) ⟨t,rfl⟩ W) λ_ _=>.int i
def tj(K:dV)(E:XD)(f:D->D->M D)(r:R2):Prop:=
 ∀ ι S H d1 d2 v1 v2 Q,Rep K ι H S->RelD K ι H d1 v1->RelD K ι H d2 v2->cont K E (f d1 d2) ι S H (kB K Q)->r v1 v2 H Q
theorem Fh(U:tj X.K E f r)(h:tM X.K E (λρ=>do let x<-m ρ;let y<-n ρ;f x y) σ H Q):Js r (tM X.K E m) (tM X.K E n) σ H Q:=by obtain⟨ι,S,ρ,rep,re,c⟩:=h;refine⟨ι,S,ρ,rep,re,ay (aj c) λx Z S1 N e1 rep1 O v1 R=>?_⟩;refine⟨Z,S1,ρ,rep1,re.later rep e1,ay (aj O) λy Y S2 W e2 rep2 T v2 P=>?_⟩;exact U Y S2 W x y v1 v2 Q rep2 (R.later rep1 e2) P T
theorem qH(h:jA X (rA op) r)(W:tj X.K E f r)(Z:SE X E a m)(Y:SE X E b n):SE X E (.BinOp a op b pos) (λρ=>do let x<-m ρ;let y<-n ρ;f x y):=
 PE.imp (JU h Z Y) λ_ _ _ q=>Fh W q
theorem xN(h:jA X (i_ op) r)(U:tj X.K E f r)(Z:SE X E a m)(W:SE X E b n)(Y:k7 op b=false:=by first|exact qv _ (by decide) (by decide)|rfl):
  SE X E (.Compare a [op] [b] pos) (λρ=>do let x<-m ρ;let y<-n ρ;f x y):=
 PE.imp (yN h Z W Y) λ_ _ _ q=>Fh U q
theorem J8(h:EK X r)(Z:tj X.K E f r)(Y:SE X E a m)(W:SE X E b n)(hs:ua b:=by intro _ _;rfl):SE X E (.Subscript a b pos) (λρ=>do let x<-m ρ;let y<-n ρ;f x y):=
 PE.imp (J3 h Y W hs) λ_ _ _ q=>Fh Z q
end
def lim:Nat:=10000000
theorem hU:lim<=sizeLine:=by rw[N5];decide
theorem HM:lim<sizeLine:=by rw[N5];decide
section
variable {K:dV}{ι:List c_}{H:Hp}
theorem RelD.bl_inv(h:RelD K ι H (.bl b) v):v= .bl b:=by cases h;rfl
theorem RelD.int_inv(h:RelD K ι H (.int b) v):v= .int b:=by cases h;rfl
theorem RelD.str_inv(h:RelD K ι H (.str b) v):v= .str b:=by cases h;rfl
theorem RelD.non_inv(h:RelD K ι H .non v):v= .non:=by cases h;rfl
theorem RelD.tup_inv(h:RelD K ι H (.tup ds) v):∃a vs,v= .ref a/\H a=ar (.tup vs)/\RelDs K ι H ds vs:=by
 cases h with
 |tup h1 h2=>exact⟨_,_,rfl,h1,h2⟩
theorem RelD.lst_inv(h:RelD K ι H (.lst k) v):∃a,v= .ref a/\ι[k]? =ar a:=by
 cases h with
 |lst h1=>exact⟨_,rfl,h1⟩
theorem RelD.ro_inv(h:RelD K ι H (.ro ds) v):∃a vs,v= .ref a/\EL K H a vs/\RelDs K ι H ds vs:=by
 cases h with
 |ro h1 h2=>exact⟨_,_,rfl,h1,h2⟩
theorem RelD.fz_inv(h:RelD K ι H (.fz ds) v):∃a o vs,v= .ref a/\H a=ar (.frz o (.lst vs))/\RelDs K ι H ds vs:=by
 cases h with
 |fz h1 h2=>exact⟨_,_,_,rfl,h1,h2⟩
theorem RelDs.nil_inv(h:RelDs K ι H [] vs):vs=[]:=by cases h;rfl
theorem RelDs.cons_inv(h:RelDs K ι H (d::ds) vs):∃v ws,vs=v::ws/\RelD K ι H d v/\RelDs K ι H ds ws:=by
 cases h with
 |cons h1 h2=>exact⟨_,_,rfl,h1,h2⟩
end
def lS:D->M Bool
 | .bl b=>aC b
 |_=>M.fail
def getL(k:Nat):M (List D):=λS=>(S[k]?).bind λxs=>ar (.ok xs,S)
def bj(ds:List D):M D:=λS=>if ds.length<=lim then ar (.ok (.lst S.length),S++[ds])else none
def lU(k:Nat)(ds:List D):M D:=λS=>if ds.length<=lim/\k<S.length then ar (.ok .non,S.set k ds)else none
def bH(ds:List D):M D:=if ds.length<=lim then aC (.tup ds)else M.fail
section
variable {K:dV}{E:XD}{ι:List c_}{S:av}{H:Hp}{α:Type}
theorem uo{f:Bool->M α}(Z:Rep K ι H S)(r:RelD K ι H x v)(c:cont K E (lS x>>=f) ι S H Q):∃b,v= .bl b/\x= .bl b/\cont K E (f b) ι S H Q:=by
 cases x with
 |bl b=>exact⟨b,r.bl_inv,rfl,aq (aj c) .refl Z⟩
 |_=>exact(ag (aj c)).elim
theorem qI{Q:Bool->List c_->av->Hp->Prop}(Z:Rep K ι H S)(r:RelD K ι H x v)(c:cont K E (lS x) ι S H Q):∃b,v= .bl b/\x= .bl b/\Q b ι S H:=by
 cases x with
 |bl b=>exact⟨b,r.bl_inv,rfl,aq c .refl Z⟩
 |_=>exact(ag c).elim
theorem A0{Q:D->List c_->av->Hp->Prop}(c:cont K E (bj ds) ι S H Q)(Z:Rep K ι H S)(r:RelDs K ι H ds vs):
  vs.length<=lim/\∀p,H p=none->Q (.lst S.length) (ι++[p]) (S++[ds]) (upd H p (.lst vs)):=by
 obtain⟨X,U,e,q⟩:=c;unfold bj at e;split at e
 ·next hl=>
  cases e;exact⟨by rw[<-r.length];exact hl,λp Y=>q _ _ (vW Y) (CC Z Y r)⟩
 ·cases e
theorem CD(Z:Rep K ι H S):RelD K (ι++[p]) H' (.lst S.length) (.ref p):=.lst (by rw[<-Z.len];simp)
theorem bt{Q:VK}(c:cont K E (bj ds) ι S H (kB K Q))(Z:Rep K ι H S)(r:RelDs K ι H ds vs):vs.length<=lim/\∀p,H p=none->Q (.ref p) (upd H p (.lst vs)):=
 let ⟨h1,h2⟩:=A0 c Z r
 ⟨h1,λp Y=>h2 p Y _ (CD Z)⟩
theorem iN{Q:VK}(c:cont K E (bH ds) ι S H (kB K Q))(Z:Rep K ι H S)(r:RelDs K ι H ds vs):vs.length<=lim/\∀p,H p=none->Q (.ref p) (upd H p (.tup vs)):=by
 unfold bH at c;split at c
 ·next hl=>
  refine⟨by rw[<-r.length];exact hl,λp Y=>?_⟩;exact aq c (gK Y) (i5 Z Y) _ (.tup bo (r.later Z (gK Y)))
 ·exact(ag c).elim
theorem jQ{Q:VK}(c:cont K E (bH ds) ι S H (kB K Q))(Z:Rep K ι H S)(h:H a=ar (.tup vs))(r:RelDs K ι H ds vs):Q (.ref a) H:=by
 unfold bH at c;split at c
 ·exact aq c .refl Z _ (.tup h r)
 ·exact(ag c).elim
theorem bx{f:List D->M α}(c:cont K E (getL k>>=f) ι S H Q)(Z:Rep K ι H S)(Y:ι[k]? =ar a):
  ∃ds vs,S[k]? =ar ds/\H a=ar (.lst vs)/\RelDs K ι H ds vs/\cont K E (f ds) ι S H Q:=by
 obtain⟨T,R,e,q⟩:=aj c;unfold getL at e;cases z:S[k]? with
 |none=>rw[z]at e;cases e
 |some ds=>
  rw[z]at e;cases e;obtain⟨vs,X,U⟩:=Z.get k a ds Y z;exact⟨ds,vs,rfl,X,U,q ι H .refl Z⟩
theorem jE{Q:D->List c_->av->Hp->Prop}(c:cont K E (lU k ds) ι S H Q)(Z:Rep K ι H S)(Y:ι[k]? =ar a)(r:RelDs K ι H ds vs):
  vs.length<=lim/\Q .non ι (S.set k ds) (upd H a (.lst vs)):=by
 obtain⟨X,U,e,q⟩:=c;unfold lU at e;split at e
 ·next hl=>
  cases e;exact⟨by rw[<-r.length];exact hl.1,q _ _ (uj (Nz Y)) (uk Z Y r)⟩
 ·cases e
end
section
variable {X:Cx}{E:XD}{a b e:Expr}{m n:TM}{pos:Pos}{rest es:List Expr}{ms:aI->M (List D)}{t u:aI->M Bool}
theorem my{op}(h:SE X E a m):SE X E (.BoolOp op [a] pos) m:=Hh h
theorem jR(U:SE X E a m)(R:SE X E (.BoolOp .And (b::rest) pos) n):SE X E (.BoolOp .And (a::b::rest) pos) (λρ=>do let x<-m ρ;let c<-lS x;if c=b_ then n ρ else aC (.bl dt)):=by
 refine PE.imp (Hi U R) λσ H Q h=>?_;obtain⟨ι,S,ρ,rep,re,c⟩:=h;refine⟨ι,S,ρ,rep,re,ay (aj c) λx Z S1 P e1 rep1 T v1 W=>?_⟩;obtain⟨k,rfl,rfl,Y⟩:=uo rep1 W T;refine⟨k,rfl,?_⟩;cases k with
 |true=>exact⟨Z,S1,ρ,rep1,re.later rep e1,Y⟩
 |false=>exact aq Y .refl rep1 _ (.bl dt)
theorem HN(U:SE X E a m):SE X E (.UnaryOp .Not a pos) (λρ=>do let x<-m ρ;let c<-lS x;aC (.bl (!c))):=by refine PE.imp (Hj U) λσ H Q h=>?_;obtain⟨ι,S,ρ,rep,re,c⟩:=h;refine⟨ι,S,ρ,rep,re,ay (aj c) λx Y S1 R e1 rep1 T v1 W=>?_⟩;obtain⟨k,rfl,rfl,Z⟩:=uo rep1 W T;exact⟨k,rfl,aq Z .refl rep1 _ (.bl _)⟩
theorem GI(U:SB X E c t)(W:SE X E a m)(T:SE X E b n):SE X E (.IfExp c a b pos) (λρ=>do let k<-t ρ;if k=b_ then m ρ else n ρ):=by
 refine PE.imp (B9 U W T) λσ H Q h=>?_;obtain⟨ι,S,ρ,rep,re,c⟩:=h;refine⟨ι,S,ρ,rep,re,ay (aj c) λk Z S1 R e1 rep1 Y=>?_⟩;cases k with
 |true=>exact⟨Z,S1,ρ,rep1,re.later rep e1,Y⟩
 |false=>exact⟨Z,S1,ρ,rep1,re.later rep e1,Y⟩
theorem J9(h:Ff X.K E (λρ=>do let x<-m ρ;lS x) σ H Q):tB (tM X.K E m) σ H Q:=by obtain⟨ι,S,ρ,rep,re,c⟩:=h;refine⟨ι,S,ρ,rep,re,ay (aj c) λx Y S1 T e1 rep1 U v1 W=>?_⟩;obtain⟨k,rfl,rfl,Z⟩:=qI rep1 W U;exact⟨k,rfl,Z⟩
theorem eL(h:SE X E e m)(Z:∀whole,isTrue e X.env whole=(do let v<-whole;So e.pos;B_ [v] (truthy v)):=by intro _;rfl):SB X E e (λρ=>do let x<-m ρ;lS x):=
 PT.imp (Hd h Z) λ_ _ _ q=>J9 q
theorem mz(h:jA X (i_ op) r)(Y:tj X.K E f r)(P:SE X E a m)(N:SE X E b n)(Z:k7 op b=false:=by first|exact qv _ (by decide) (by decide)|rfl):
  SB X E (.Compare a [op] [b] pos) (λρ=>do let z<-(do let x<-m ρ;let y<-n ρ;f x y);lS z):=
 PT.imp (EY h P N Z) λσ H Q q=>by obtain⟨ι,S,ρ,rep,re,c⟩:=q;refine Fh Y (Q:=λx U=>∃k,x= .bl k/\Q k U) ⟨ι,S,ρ,rep,re,ay (aj c) λx T S1 L e1 rep1 O v1 R=>?_⟩;obtain⟨k,rfl,rfl,W⟩:=qI rep1 R O;exact⟨k,rfl,W⟩
theorem gq(h:SB X E a t):SB X E (.UnaryOp .Not a pos) (λρ=>do let c<-t ρ;aC (!c)):=by refine PT.imp (Hg h) λσ H Q q=>?_;obtain⟨ι,S,ρ,rep,re,c⟩:=q;exact⟨ι,S,ρ,rep,re,ay (aj c) λk Y S1 W e1 rep1 Z=>aq Z .refl rep1⟩
theorem yW(h:SB X E a t):HL X E (.BoolOp .And [a] pos) t:=EO h
theorem xO(h:SB X E a t):HL X E (.BoolOp .Or [a] pos) t:=He h
theorem CF(W:SB X E a t)(U:HL X E (.BoolOp .And (b::rest) pos) u):HL X E (.BoolOp .And (a::b::rest) pos) (λρ=>do let c<-t ρ;if c=b_ then u ρ else aC dt):=by
 refine PW.imp (Hf W U) λσ H Q q=>?_;obtain⟨ι,S,ρ,rep,re,c⟩:=q;refine⟨ι,S,ρ,rep,re,ay (aj c) λk Z S1 T e1 rep1 Y=>?_⟩;cases k with
 |true=>exact⟨Z,S1,ρ,rep1,re.later rep e1,Y⟩
 |false=>exact aq Y .refl rep1
theorem yX(W:SB X E a t)(U:HL X E (.BoolOp .Or (b::rest) pos) u):HL X E (.BoolOp .Or (a::b::rest) pos) (λρ=>do let c<-t ρ;if c=b_ then aC b_ else u ρ):=by
 refine PW.imp (JH W U) λσ H Q q=>?_;obtain⟨ι,S,ρ,rep,re,c⟩:=q;refine⟨ι,S,ρ,rep,re,ay (aj c) λk Z S1 T e1 rep1 Y=>?_⟩;cases k with
 |false=>exact⟨Z,S1,ρ,rep1,re.later rep e1,Y⟩
 |true=>exact aq Y .refl rep1
theorem CG(h:HL X E e t):SB X E e t:=PW.pt h
theorem ai:SA X E [] (λ_=>aC []):=by refine PA.imp kz λσ H Q q=>?_;obtain⟨ι,S,ρ,rep,re,c⟩:=q;exact aq c .refl rep _ .nil
theorem af(U:SE X E e m)(O:SA X E es ms)(hs:d_ (e::es) X.env=(dt,hJ e X.env)::d_ es X.env:=by rfl):SA X E (e::es) (λρ=>do let x<-m ρ;let xs<-ms ρ;aC (x::xs)):=by refine PA.imp (fC U O hs) λσ H Q q=>?_;obtain⟨ι,S,ρ,rep,re,c⟩:=q;refine⟨ι,S,ρ,rep,re,ay (aj c) λx Z S1 L e1 rep1 R v1 W=>?_⟩;refine⟨Z,S1,ρ,rep1,re.later rep e1,ay (aj R) λxs T S2 N e2 rep2 Y vs P=>?_⟩;exact aq Y .refl rep2 _ (.cons (W.later rep1 e2) P)
theorem dO{x1}(h:SA X E es ms):SE X E (.Tuple es x1 pos) (λρ=>do let ds<-ms ρ;bH ds):=by refine PE.imp (Co h) λσ H Q q=>?_;obtain⟨ι,S,ρ,rep,re,c⟩:=q;refine⟨ι,S,ρ,rep,re,ay (aj c) λx Y S1 R e1 rep1 U vs W=>?_⟩;obtain⟨T,Z⟩:=iN U rep1 W;exact⟨M7 T hU,Z⟩
theorem bz(h:SA X E es ms):SE X E (.List es pos) (λρ=>do let ds<-ms ρ;bj ds):=by refine PE.imp (HB h) λσ H Q q=>?_;obtain⟨ι,S,ρ,rep,re,c⟩:=q;refine⟨ι,S,ρ,rep,re,ay (aj c) λx Y S1 R e1 rep1 U vs W=>?_⟩;obtain⟨T,Z⟩:=bt U rep1 W;exact⟨M7 T hU,Z⟩
def lW(K:dV)(E:XD)(f:List D->M D)(r:List V->Hp->VK->Prop):Prop:=
 ∀ ι S H ds vs Q,Rep K ι H S->RelDs K ι H ds vs->cont K E (f ds) ι S H (kB K Q)->r vs H Q
theorem Ka(W:lW X.K E f r)(h:tM X.K E (λρ=>do let ds<-ms ρ;f ds) σ H Q):LV r (L3 X.K E ms) σ H Q:=by obtain⟨ι,S,ρ,rep,re,c⟩:=h;exact⟨ι,S,ρ,rep,re,ay (aj c) λds Z S1 U e1 rep1 Y vs T=>W Z S1 U ds vs Q rep1 T Y⟩
theorem jF{x:Str}{W:String}{f:List D->M D}{r:List V->Hp->VK->Prop}{p:Pos}(T:dN X (.builtin W) r)(P:lW X.K E f r)(U:Gl X x)(R:X.mg x=none)(N:k_ x=ar (.builtin W))(O:SA X E (e::es) ms)
  (Q:x≠"__name__":=by decide) (Y:(x==("__debug__":Str))=false:=by decide) (S:d_ (e::es) X.env=(dt,hJ e X.env)::d_ es X.env:=by rfl) (Z:(r_ pos (d_ es X.env)).any (·.1)=false:=by rfl):
  SE X E (.Call (.Name x p) (e::es) [] pos) (λρ=>do let ds<-ms ρ;f ds):=
 PE.imp (kA T U R N O Q Y S Z) λ_ _ _ q=>Ka P q
theorem tm(U:dN X (.type T) r)(P:lW X.K E f r)(W:Gl X x)(R:X.mg x=none)(N:k_ x=ar (.type T))(O:SA X E (e::es) ms)
  (Q:x≠"__name__":=by decide) (Y:(x==("__debug__":Str))=false:=by decide) (S:d_ (e::es) X.env=(dt,hJ e X.env)::d_ es X.env:=by rfl) (Z:(r_ pos (d_ es X.env)).any (·.1)=false:=by rfl):
  SE X E (.Call (.Name x p) (e::es) [] pos) (λρ=>do let ds<-ms ρ;f ds):=
 PE.imp (lC U W R N O Q Y S Z) λ_ _ _ q=>Ka P q
abbrev eA:XD:=λ_ _ _ _=>False
def MJ(K:dV)(F:List D->M D):Sp:=λvs H Q _=>∃ ι S ds,Rep K ι H S/\RelDs K ι H ds vs/\cont K eA (F ds) ι S H (kB K Q)
def Kb(K:dV)(E:XD)(f:D->List D->M D)(r:V->List V->Hp->VK->Prop):Prop:=
 ∀ ι S H d ds v vs Q,Rep K ι H S->RelD K ι H d v->RelDs K ι H ds vs->cont K E (f d ds) ι S H (kB K Q)->r v vs H Q
end
theorem gr{K:dV}{E:XD}{α:Type}{c:M α}{ι Z:List c_}{S:av}{H X:Hp}{Q:α->List c_->av->Hp->Prop}(h:cont K E c ι S H Q)(e:Ext ι H Z X):cont K E c Z S X Q:=by obtain⟨r,R,q,k⟩:=h;exact⟨r,R,q,λY U T rep2=>k Y U (e.trans T) rep2⟩
section
variable {X:Cx}{E:XD}{st:oo}{sts:List oo}{m n:cY}{e:Expr}{me:TM}{t:aI->M Bool}{pos:Pos}{g:oH}
def CH(o:Out)(n:cY):M Out:=match o with
 | .nx ρ=>n ρ
 | .ret d=>aC (.ret d)
 | .bk ρ=>aC (.bk ρ)
 | .ct ρ=>aC (.ct ρ)
theorem dP:um X E [] (λρ=>aC (.nx ρ)):=by refine sr.imp ER λT σ H h=>?_;obtain⟨ι,S,ρ,rep,re,c⟩:=h;exact aq c .refl rep σ re
theorem aE(Q:SS X E st m)(R:um X E sts n):um X E (st::sts) (λρ=>do let o<-m ρ;CH o n):=by
 refine sr.imp (Ca Q R) λT σ H h=>?_;obtain⟨ι,S,ρ,rep,re,c⟩:=h;refine⟨ι,S,ρ,rep,re,ay (aj c) λo Y S1 P e1 rep1 Z=>?_⟩;cases o with
 |nx ρ'=>exact λU W=>⟨Y,S1,ρ',rep1,W,Z⟩
 |ret d=>exact aq Z .refl rep1
 |bk ρ'=>exact aq Z .refl rep1
 |ct ρ'=>exact aq Z .refl rep1
theorem aR(Z:SS X E st m):um X E [st] m:=by refine sr.imp (t8 Z) λT σ H h=>h
theorem eV(W:SE X E e me)(hs:la e none pos.line X.env=aC false:=by rfl):SS X E (.Expr e pos) (λρ=>do let _<-me ρ;aC (.nx ρ)):=by refine PS.imp (ES W hs) λT σ H h=>?_;obtain⟨ι,S,ρ,rep,re,c⟩:=h;refine⟨ι,S,ρ,rep,re,ay (aj c) λd Z S1 U e1 rep1 Y v r=>?_⟩;exact aq Y .refl rep1 σ (re.later rep e1)
theorem br(Y:SE X E e me):SS X E (.Return (ar e) pos) (λρ=>do let d<-me ρ;aC (.ret d)):=by refine PS.imp (Cb Y) λT σ H h=>?_;obtain⟨ι,S,ρ,rep,re,c⟩:=h;exact⟨ι,S,ρ,rep,re,ay (aj c) λd W S1 U e1 rep1 Z=>aq Z .refl rep1⟩
theorem fM(U:SB X E e t)(W:um X E a m)(R:um X E b n):SS X E (.If e a b pos) (λρ=>do let c<-t ρ;if c=b_ then m ρ else n ρ):=by
 refine PS.imp (JM U W R) λT σ H h=>?_;obtain⟨ι,S,ρ,rep,re,c⟩:=h;refine⟨ι,S,ρ,rep,re,ay (aj c) λk Z S1 Q e1 rep1 Y=>?_⟩;cases k with
 |true=>exact⟨Z,S1,ρ,rep1,re.later rep e1,Y⟩
 |false=>exact⟨Z,S1,ρ,rep1,re.later rep e1,Y⟩
theorem aM(i:Nat)(U:X.N.Nodup)(Y:X.N[i]? =ar x:=by rfl)(W:Loc X.env.scope x:=by first|exact y8 rfl|exact sb rfl)(Z:X.fn x=b_\/X.env.scope.names.lookup x=ar .local:=by first|exact .inl rfl|exact .inr rfl|assumption):
  SG X E (.Name x pos) (λd ρ=>aC (ρ.set i (ar d))):=by
 refine PG.imp (ET U Y W Z) λv σ H Q h=>?_;obtain⟨ι,S,ρ,d,rep,re,r,c⟩:=h;exact aq c .refl rep _ (re.set r i)
def L4(K:dV)(E:XD)(m:List D->aI->M aI):Hk:=λvs σ H Q=>∃ ι S ρ ds,Rep K ι H S/\RelE K ι H ρ σ/\RelDs K ι H ds vs/\cont K E (m ds ρ) ι S H (λρ' ι' _ H'=>∀ σ',RelE K ι' H' ρ' σ'->Q σ' H')
def Le(X:Cx)(E:XD)(ts:List Expr)(m:List D->aI->M aI):Prop:=EI X ts (L4 X.K E m)
theorem EI.imp{X:Cx}{e:List Expr}{t t':Hk}(h:EI X e t)(k:∀v σ H Q,t' v σ H Q->t v σ H Q):EI X e t':=λpins s σ H v u Q I r hw=>h pins s σ H v u Q I r (k v σ H Q hw)
def dQ:List D->aI->M aI:=λds ρ=>match ds with
 |[]=>aC ρ
 |_=>M.fail
def aY(g:oH)(gs:List D->aI->M aI):List D->aI->M aI:=λds ρ=>match ds with
 |d::r=>do let ρ1<-g d ρ;gs r ρ1
 |_=>M.fail
theorem fD:Le X E [] dQ:=by
 refine EI.imp EU λvs σ H Q h=>?_;obtain⟨ι,S,ρ,ds,rep,re,r,c⟩:=h;cases ds with
 |nil=>exact⟨r.nil_inv,aq c .refl rep σ re⟩
 |cons d ds=>exact(ag c).elim
theorem bB(N:SG X E e g)(T:Le X E es gs)(hs:(o_ (e::es) X.env).map (·.2)=QL e X.env::(o_ es X.env).map (·.2):=by rfl):Le X E (e::es) (aY g gs):=by
 refine EI.imp (Cd N T hs) λvs σ H Q h=>?_;obtain⟨ι,S,ρ,ds,rep,re,r,c⟩:=h;cases ds with
 |nil=>exact(ag c).elim
 |cons d ds=>
  obtain⟨v,ws,rfl,R,P⟩:=r.cons_inv;refine⟨v,ws,rfl,ι,S,ρ,d,rep,re,R,ay (aj c) λY Z S1 L e1 rep1 O U W=>?_⟩;exact⟨Z,S1,Y,ds,rep1,W,P.later rep e1,O⟩
def dH(n:Nat)(gs:List D->aI->M aI):oH:=λd ρ=>match d with
 | .tup ds=>if ds.length=n then gs ds ρ else M.fail
 |_=>M.fail
theorem hV{es:List Expr}{k:Nat}{n:Nat}{Y:List D->aI->M aI}(U:X.calm=b_)(h:Le X E es Y)(R:(o_ es X.env).length=n:=by rfl)(Z:(o_ es X.env).findIdx? (·.1)=none:=by rfl):
  SG X E (.Tuple es k pos) (dH n Y):=by
 refine PG.imp (Hm U h R Z) λv σ H Q q=>?_;obtain⟨ι,S,ρ,d,rep,re,r,c⟩:=q;cases d with
 |tup ds=>
  obtain⟨a,vs,rfl,T,W⟩:=r.tup_inv;dsimp only[dH]at c;split at c
  ·next hl=>exact⟨a,vs,rfl,lQ.of T,by rw[<-W.length];exact hl,ι,S,ρ,ds,rep,re,W,c⟩
  ·exact(ag c).elim
 |_=>exact(ag c).elim
theorem kF(P:SE X E e me)(Y:SG X E tg g)(hs:swapsWithSole [tg] e pos.line X.env=aC false:=by rfl)(O:swappedStores [tg] e X.env=aC none:=by rfl)
  (Q:(o_ [tg] X.env).map (·.2)=[QL tg X.env]:=by rfl):SS X E (.Assign [tg] e pos) (λρ=>do let d<-me ρ;let ρ'<-g d ρ;aC (.nx ρ')):=by
 refine PS.imp (Hq P Y hs O Q) λT σ H h=>?_;obtain⟨ι,S,ρ,rep,re,c⟩:=h;refine⟨ι,S,ρ,rep,re,ay (aj c) λd Z S1 L e1 rep1 R v r=>?_⟩;exact⟨Z,S1,ρ,d,rep1,re.later rep e1,r,ay (aj R) λρ' U S2 N e2 rep2 W=>aq W .refl rep2⟩
theorem bp(i:Nat)(P:X.N.Nodup)(R:SE X E e me)(W:X.N[i]? =ar x:=by rfl)(Q:Loc X.env.scope x:=by first|exact y8 rfl|exact sb rfl)(hs:la e (ar (.Name x pos')) pos.line X.env=aC false:=by rfl)
  (Z:X.fn x=b_\/X.env.scope.names.lookup x=ar .local:=by first|exact .inl rfl|exact .inr rfl|assumption):SS X E (.Assign [.Name x pos'] e pos) (λρ=>do let d<-me ρ;aC (.nx (ρ.set i (ar d)))):=by
 refine PS.imp (Ce P W Q R hs Z) λT σ H h=>?_;obtain⟨ι,S,ρ,rep,re,c⟩:=h;refine⟨ι,S,ρ,rep,re,ay (aj c) λd Y S1 O e1 rep1 U v r=>?_⟩;exact aq U .refl rep1 _ ((re.later rep e1).set r i)
def L5(K:dV)(E:XD)(f:D->D->D->M Unit)(r:Hl):Prop:=
 ∀ ι S H d1 d2 d3 v1 v2 v3 Q,Rep K ι H S->RelD K ι H d1 v1->RelD K ι H d2 v2->RelD K ι H d3 v3->cont K E (f d1 d2 d3) ι S H (λ_ _ _ H'=>Q H')->r v1 v2 v3 H Q
def kG:D->D->D->M Unit:=λo i v=>match o,i with
 | .lst k,.int j=>do
  let xs<-getL k
  match B1 xs.length j with
  |some at'=>do let _<-lU k (xs.set at' v);aC ()
  |none=>M.fail
 |_,_=>M.fail
inductive Chk where
 |none|some (k:Nat)|two (k j:Nat) (xs ys:List D)
structure Iter where
 items:List D
 chk:Chk
def Iter.okS(it:Iter)(S:av):Prop:=match it.chk with
 | .none=>True
 | .some k=>S[k]? = .some it.items
 | .two k j xs ys=>S[k]? = .some xs/\S[j]? = .some ys
open Classical in
def ia(it:Iter):M Unit:=λS=>if it.okS S then ar (.ok (),S)else none
def kH(K:dV)(it:Iter)(J:It)(ι:List c_)(H:Hp):Prop:=
 ∀ ι2 H2 S2,ExtN ι H ι2 H2->Rep K ι2 H2 S2->it.okS S2->∀i,(∀d,it.items[i]? =ar d->J.go i H2/\∀x H3,J.yld i H2 x H3->Ext ι2 H2 ι2 H3/\Rep K ι2 H3 S2/\RelD K ι2 H3 d x)/\(it.items.length<=i->J.stop i H2)
def Mv(K:dV)(E:XD)(mi:aI->M Iter):TI:=λσ H R=>∃ ι S ρ,Rep K ι H S/\RelE K ι H ρ σ/\cont K E (mi ρ) ι S H (λit ι' _ H'=>∀J,kH K it J ι' H'->R J H')
def SI(X:Cx)(E:XD)(tg iter:Expr)(mi:aI->M Iter):Prop:=PI X tg iter (Mv X.K E mi)
def eQ(it:Iter)(g:oH)(b:cY):List D->aI->M Out
 |[],ρ=>do ia it;aC (.nx ρ)
 |d::ds,ρ=>do
  ia it
  let ρ1<-g d ρ;let o<-b ρ1
  match o with
  | .nx ρ'=>eQ it g b ds ρ'
  | .ct ρ'=>eQ it g b ds ρ'
  | .bk ρ'=>aC (.nx ρ')
  | .ret r=>aC (.ret r)
theorem ng{K:dV}{ι:List c_}{S:av}{H:Hp}{α:Type}{it:Iter}{f:Unit->M α}{Q:α->List c_->av->Hp->Prop}(h:cont K E (ia it>>=f) ι S H Q)(Z:Rep K ι H S):it.okS S/\cont K E (f ()) ι S H Q:=by
 obtain⟨r,Y,e,k⟩:=aj h;unfold ia at e;split at e
 ·next ho=>cases e;exact⟨ho,k ι H .refl Z⟩
 ·cases e
theorem iO(k:Ri (fg X.prog X.w) X.A X.env X.xe)(hc:X.calm=b_)(hi:SI X E tg iter mi)(hg:SG X E tg g)(hb:um X E body b)
  (hs:∀x,k6 iter X.env x=aC x:=by intro _;rfl):SS X E (.For tg iter body [] pos) (λρ=>do let it<-mi ρ;eQ it g b it.items ρ):=by
 refine PS.imp (Ht k hc hi hg hb hs) λT σ H h=>?_;obtain⟨ι,S,ρ,rep,re,c⟩:=h;refine⟨ι,S,ρ,rep,re,ay (aj c) λit U S1 y e1 rep1 f J p=>?_⟩;refine⟨λi n P W=>∃ ι2 S2 ρ2,n=it.items.length - i/\i<=it.items.length/\Ext U y ι2 W/\Rep X.K ι2 W S2/\RelE X.K ι2 W ρ2 P/\cont X.K E (eQ it g b (it.items.drop i) ρ2) ι2 S2 W (EM X.K T),⟨_,U,S1,ρ,rfl,Nr _,.refl,rep1,re.later rep e1,f⟩,?_⟩;rintro i n P W ⟨ι2,S2,ρ2,hn,hi',e2,rep2,re2,c2⟩;by_cases hlt:i<it.items.length
 ·have hd:it.items.drop i=it.items[i]::it.items.drop (i+1):=Qw hlt;rw[hd]at c2;have O:cont X.K E (do ia it;let ρ1<-g it.items[i] ρ2;let o<-b ρ1;match o with| .nx ρ'=>eQ it g b (it.items.drop (i+1)) ρ'| .ct ρ'=>eQ it g b (it.items.drop (i+1)) ρ'| .bk ρ'=>aC (.nx ρ')| .ret r=>aC (.ret r)) ι2 S2 W (EM X.K T):=c2;obtain⟨ok,s⟩:=ng O rep2;obtain⟨C,a6⟩:=p ι2 W S2 e2.n rep2 ok i;obtain⟨go,yl⟩:=C it.items[i] (MY hlt);refine .inr ⟨go,λR Y=>∃ ι3 S3 ρ3,Ext U y ι3 Y/\Rep X.K ι3 Y S3/\RelE X.K ι3 Y ρ3 R/\cont X.K E (eQ it g b (it.items.drop (i+1)) ρ3) ι3 S3 Y (EM X.K T),?_,λx H3 hy=>?_⟩
  ·rintro R Y ⟨ι3,S3,ρ3,L,rep3,re3,q⟩;exact⟨_,by omega,ι3,S3,ρ3,rfl,hlt,L,rep3,re3,q⟩
  ·obtain⟨L,rep3,a⟩:=yl x H3 hy;refine⟨ι2,S2,ρ2,it.items[i],rep3,re2.later rep2 L,a,ay (aj (gr s L)) λu v S4 H4 e4 G q a0 z=>?_⟩;refine⟨v,S4,u,G,z,ay (aj q) λo Q l j e5 Z F=>?_⟩;have I:Ext U y Q j:=e2.trans (L.trans (e4.trans e5));cases o with
   |nx ρ'=>exact λB N=>⟨Q,l,ρ',I,Z,N,F⟩
   |ct ρ'=>exact λB N=>⟨Q,l,ρ',I,Z,N,F⟩
   |bk ρ'=>exact aq F .refl Z
   |ret d=>exact aq F .refl Z
 ·have hd:it.items.drop i=[]:=OX (by omega);rw[hd]at c2;have O:cont X.K E (do ia it;aC (.nx ρ2)) ι2 S2 W (EM X.K T):=c2;obtain⟨ok,s⟩:=ng O rep2;exact .inl ⟨(p ι2 W S2 e2.n rep2 ok i).2 (by omega),aq s .refl rep2 P re2⟩
def kI(t:aI->M Bool)(b:cY):Nat->aI->M Out
 |0,_=>M.fail
 | k+1,ρ=>do
  let c<-t ρ
  if c=b_ then do
   let o<-b ρ
   match o with
   | .nx ρ'=>kI t b k ρ'
   | .ct ρ'=>kI t b k ρ'
   | .bk ρ'=>aC (.nx ρ')
   | .ret r=>aC (.ret r)
  else aC (.nx ρ)
theorem CI(k:Nat)(F:Ri (fg X.prog X.w) X.A X.env X.xe)(C:SB X E e t)(z:um X E body b):SS X E (.While e body [] pos) (λρ=>kI t b k ρ):=by
 refine PS.imp (Cf F C z) λT σ H h=>?_;obtain⟨ι,S,ρ,rep,re,c⟩:=h;refine⟨λn U P=>∃ ι2 S2 ρ2,Rep X.K ι2 P S2/\RelE X.K ι2 P ρ2 U/\cont X.K E (kI t b n ρ2) ι2 S2 P (EM X.K T),⟨k,ι,S,ρ,rep,re,c⟩,?_⟩;rintro n U P ⟨ι2,S2,ρ2,rep2,re2,c2⟩;cases n with
 |zero=>exact(ag c2).elim
 | succ n=>
  refine⟨ι2,S2,ρ2,rep2,re2,ay (aj c2) λk N B v I rep3 G=>?_⟩;cases k with
  |false=>exact aq G .refl rep3 U (re2.later rep2 I)
  |true=>
   refine⟨λW Y=>∃ ι2 S2 ρ2,Rep X.K ι2 Y S2/\RelE X.K ι2 Y ρ2 W/\cont X.K E (kI t b n ρ2) ι2 S2 Y (EM X.K T),λW Y h=>⟨n,OE _,h⟩,?_⟩;refine⟨N,B,ρ2,rep3,re2.later rep2 I,ay (aj G) λo Q J y x Z O=>?_⟩;cases o with
   |nx ρ'=>exact λL R=>⟨Q,J,ρ',Z,R,O⟩
   |ct ρ'=>exact λL R=>⟨Q,J,ρ',Z,R,O⟩
   |bk ρ'=>exact aq O .refl Z
   |ret d=>exact aq O .refl Z
end
def g9(H:Hp)(p:c_):Hp:=λa=>if a=p then none else H a
theorem hide_ne{H:Hp}(h:a≠p):g9 H p a=H a:=if_neg h
theorem nh:g9 H p p=none:=if_pos rfl
theorem dj{H:Hp}(h:g9 H p a=ar o):a≠p/\H a=ar o:=by
 by_cases e:a=p
 ·rw[e,nh]at h;cases h
 ·rw[hide_ne e]at h;exact⟨e,h⟩
theorem CJ{H:Hp}(h:H p=ar o):upd (g9 H p) p o=H:=by
 funext a;by_cases e:a=p
 ·rw[e,bo,h]
 ·rw[aN e,hide_ne e]
theorem kJ:g9 (upd H p o) p=g9 H p:=by
 funext a;by_cases e:a=p
 ·rw[e,nh,nh]
 ·rw[hide_ne e,hide_ne e,aN e]
theorem jS{H:Hp}(h:H p=none):g9 H p=H:=by
 funext a;by_cases e:a=p
 ·rw[e,nh,h]
 ·rw[hide_ne e]
section
variable {K:dV}{ι ι':List c_}{H H':Hp}{S:av}{p:c_}
mutual
theorem RelD.hide(Z:H p=ar (.lst ws)):∀{d:D} {v:V},RelD K ι H d v->RelD K ι (g9 H p) d v
 |_,_,.non=>.non
 |_,_,.bl b=>.bl b
 |_,_,.int i=>.int i
 |_,_,.str x=>.str x
 |_,_,.tup h hs=>.tup (by rw[hide_ne (λz=>by rw[z,Z]at h;cases h)];exact h) (RelDs.hide Z hs)
 |_,_,.lst h=>.lst h
 |_,_,.ro h hs=>.ro (h.imp (λ⟨o,h⟩=>⟨o,by rw[hide_ne (λz=>by rw[z,Z]at h;cases h)];exact h⟩) λz=>z) (RelDs.hide Z hs)
 |_,_,.emp h=>.emp (by rw[hide_ne (λz=>by rw[z,Z]at h;cases h)];exact h)
 |_,_,.fn h hs=>.fn (by rw[hide_ne (λz=>by rw[z,Z]at h;cases h)];exact h) (RelDs.hide Z hs)
 |_,_,.exc n h=>.exc n (by rw[hide_ne (λz=>by rw[z,Z]at h;cases h)];exact h)
 |_,_,.excF n h h2 hn hs=>.excF n (by rw[hide_ne (λz=>by rw[z,Z]at h;cases h)];exact h) (by rw[hide_ne (λz=>by rw[z,Z]at h2;cases h2)];exact h2) hn (RelDs.hide Z hs)
 |_,_,.fz h hs=>.fz (by rw[hide_ne (λz=>by rw[z,Z]at h;cases h)];exact h) (RelDs.hide Z hs)
theorem RelDs.hide(Z:H p=ar (.lst ws)):∀{ds:List D} {vs:List V},RelDs K ι H ds vs->RelDs K ι (g9 H p) ds vs
 |_,_,.nil=>.nil
 |_,_,.cons h hs=>.cons (RelD.hide Z h) (RelDs.hide Z hs)
end
mutual
theorem RelD.unhide:∀{d:D} {v:V},RelD K ι (g9 H p) d v->RelD K ι H d v
 |_,_,.non=>.non
 |_,_,.bl b=>.bl b
 |_,_,.int i=>.int i
 |_,_,.str x=>.str x
 |_,_,.tup h hs=>.tup (dj h).2 (RelDs.unhide hs)
 |_,_,.lst h=>.lst h
 |_,_,.ro h hs=>.ro (h.imp (λ⟨o,h⟩=>⟨o,(dj h).2⟩) λz=>z) (RelDs.unhide hs)
 |_,_,.emp h=>.emp (dj h).2
 |_,_,.fn h hs=>.fn (dj h).2 (RelDs.unhide hs)
 |_,_,.exc n h=>.exc n (dj h).2
 |_,_,.excF n h h2 hn hs=>.excF n (dj h).2 (dj h2).2 hn (RelDs.unhide hs)
 |_,_,.fz h hs=>.fz (dj h).2 (RelDs.unhide hs)
theorem RelDs.unhide:∀{ds:List D} {vs:List V},RelDs K ι (g9 H p) ds vs->RelDs K ι H ds vs
 |_,_,.nil=>.nil
 |_,_,.cons h hs=>.cons (RelD.unhide h) (RelDs.unhide hs)
end
theorem RelE.hide(Z:H p=ar (.lst ws)):∀{ρ:aI} {σ:St},RelE K ι H ρ σ->RelE K ι (g9 H p) ρ σ
 |_,_,.nil=>.nil
 |_,_,.cons h t=>.cons (λd z=>let ⟨v,e1,e2⟩:=h d z;⟨v,e1,e2.hide Z⟩) (RelE.hide Z t)
theorem RelE.unhide:∀{ρ:aI} {σ:St},RelE K ι (g9 H p) ρ σ->RelE K ι H ρ σ
 |_,_,.nil=>.nil
 |_,_,.cons h t=>.cons (λd z=>let ⟨v,e1,e2⟩:=h d z;⟨v,e1,e2.unhide⟩) (RelE.unhide t)
theorem Rep.hide(Z:H p=ar (.lst ws))(Y:p∉ι)(r:Rep K ι H S):Rep K ι (g9 H p) S:=
 ⟨r.nd,r.len,λk a xs e1 e2=>let ⟨vs,h1,h2⟩:=r.get k a xs e1 e2;⟨vs,by rw[hide_ne (λz=>Y (by rw[<-z];exact Nz e1))];exact h1,h2.hide Z⟩,r.tab.mono λb o h n=>by rw[hide_ne (λz=>by subst z;rw[h]at Z;exact n ws (Nw Z))];exact h⟩
theorem Rep.unhide(r:Rep K ι (g9 H p) S):Rep K ι H S:=
 ⟨r.nd,r.len,λk a xs e1 e2=>let ⟨vs,h1,h2⟩:=r.get k a xs e1 e2;⟨vs,(dj h1).2,h2.unhide⟩,r.tab.mono λb o h _=>(dj h).2⟩
theorem Ext.hide(e:Ext ι H ι' H'):Ext ι (g9 H p) ι' (g9 H' p):=
 ⟨e.ids,λa o h n t=>by obtain⟨Y,X⟩:=dj h;obtain⟨Z,U⟩:=e.oth a o X n t;exact⟨by rw[hide_ne Y];exact Z,U⟩⟩
theorem Ext.unhide(e:Ext ι H ι' (g9 H' p)):Ext ι H ι' H':=
 ⟨e.ids,λa o h n t=>by obtain⟨Z,Y⟩:=e.oth a o h n t;exact⟨(dj Z).2,Y⟩⟩
theorem oU{E:XD}{α:Type}{c:M α}{X:List V}{Q:α->List c_->av->Hp->Prop}(h:cont K eA c ι S (g9 H p) Q)(T:H p=ar (.lst X))(R:p∉ι):
  cont K E c ι S H (λa ι' Z H'=>H' p=ar (.lst X)/\p∉ι'/\Q a ι' Z (g9 H' p)):=by
 obtain⟨r,Z,e,k⟩:=h;refine⟨r,Z,e,λι' H' x rep=>?_⟩;obtain⟨U,Y⟩:=x.oth p _ T R (by intro _ z;cases z);have:=k ι' (g9 H' p) x.hide (rep.hide U Y);cases r with
 |ok a=>exact⟨U,Y,this⟩
 |ex y=>exact this.elim
end
def gU(js:List (Option Nat))(ρ:aI):aI:=js.map λo=>o.bind λj=>(ρ[j]?).join
theorem RelE.blk{K:dV}{ι:List c_}{H:Hp}{ρ:aI}{X:St}(Y:RelE K ι H ρ X):∀js:List (Option Nat),RelE K ι H (gU js ρ) (sC js X)
 |[]=>.nil
 |none::js=>.cons (λd z=>by cases z) (RelE.blk Y js)
 | some j::js=>.cons (λd z=>by
   have Z:(ρ[j]?).join=ar d:=z;have:ρ[j]? =ar (ar d):=by
    cases q:ρ[j]? with
    |none=>rw[q]at Z;cases Z
    |some o=>rw[q]at Z;exact Pf ar Z
   obtain⟨v,e1,e2⟩:=Y.get this;refine⟨v,?_,e2⟩;show(X[j]?).join=ar v;rw[e1];rfl) (RelE.blk Y js)
def bI(it:Iter)(g:oH)(t:aI->M Bool)(m:TM):List D->aI->M (List D)
 |[],ρ=>do ia it;aC []
 | d::ds,ρ=>do
  ia it
  let ρ1<-g d ρ;let b<-t ρ1
  if b=b_ then do
   let y<-m ρ1;let ys<-bI it g t m ds ρ1
   aC (y::ys)
  else bI it g t m ds ρ1
def dq(it:Iter)(g:oH)(t:aI->M Bool)(m:TM)(ρ:aI):M (List D):=if it.items.length<=lim then bI it g t m it.items ρ else M.fail
def Lf(X:Cx)(E:XD)(ifs:List Expr)(t:aI->M Bool):Prop:=Jt X ifs (Ff X.K E t)
theorem eX:Lf X E [] (λ_=>aC b_):=λpins s σ H Q I h=>Fc pins s σ H Q I (by obtain⟨ι,S,ρ,rep,re,c⟩:=h;exact aq c .refl rep)
theorem ef(h:SB X E c t):Lf X E [c] t:=Fd h
section
variable {X:Cx}{scope:Scope}{Nc:List Str}{js:List (Option Nat)}{elt tg iter:Expr}{ifs:List Expr}{pos:Pos}{mi:aI->M Iter}{g:oH}{t:aI->M Bool}{m:TM}
theorem fN{α Z Y:Type}(c:M α)(f:α->M Z)(h:Z->M Y):((c>>=f)>>=h)=(c>>=λa=>f a>>=h):=by
 funext S;show M.bnd (M.bnd c f) h S=M.bnd c (λa=>M.bnd (f a) h) S;unfold M.bnd;cases c S with
 |none=>rfl
 |some r=>
  obtain⟨r,W⟩:=r;cases r<;>rfl
theorem ah{α Z:Type}(a:α)(f:α->M Z):(aC a>>=f)=f a:=rfl
theorem Fi{α Z:Type}{c:Prop} [Decidable c](x y:M α)(f:α->M Z):((if c then x else y)>>=f)=if c then x>>=f else y>>=f:=by split<;>rfl
abbrev Kc(js:List (Option Nat))(g:TG)(tt:TT)(te:TE)(σ:St)(Q:VK):It->Hp->Prop:=λJ H1=>∀p,H1 p=none->
 ∃W:Nat->Nat->St->Hp->Prop,(∃m,W 0 m (sC js σ) (upd H1 p (.lst [])))/\∀i m σc Hc,W i m σc Hc->
  (J.stop i Hc/\Q (.ref p) Hc)\/(J.go i Hc/\∃N:St->Hp->Prop,(∀ σ' H',N σ' H'->∃m',m'<m/\W (i+1) m' σ' H')/\∀x H',J.yld i Hc x H'->g x σc H' λσ2 H2=>tt σ2 H2 λb H3=>
   if b=b_ then te σ2 H3 λy H4=>∃xs,H4 p=ar (.lst xs)/\xs.length<sizeLine/\N σ2 (upd H4 p (.lst (xs++[y])))else N σ2 H3)
theorem vX{Q:VK}{k:St}{H:Hp}{ι:List c_}{S:av}{ρ:aI}(e:Rep X.K ι H S)(re:RelE X.K ι H ρ k)(c:cont X.K eA (do let it<-mi ρ;let ys<-dq it g t m (gU js ρ);bj ys) ι S H (kB X.K Q)):
  cont X.K eA (mi ρ) ι S H (λit Y _ T=>∀J,kH X.K it J Y T->Kc js (Ju X.K eA g) (Ff X.K eA t) (tM X.K eA m) k Q J T):=by
 refine ay (aj c) λit Y S1 T e1 rep1 o J a p F=>?_;have j:it.items.length<=lim/\cont X.K eA (bI it g t m it.items (gU js ρ)>>=λys=>bj ys) Y S1 T (kB X.K Q):=by
  have U:cont X.K eA ((if it.items.length<=lim then bI it g t m it.items (gU js ρ)else M.fail)>>=λys=>bj ys) Y S1 T (kB X.K Q):=o;by_cases h:it.items.length<=lim
  ·rw[if_pos h]at U;exact⟨h,U⟩
  ·rw[if_neg h]at U;exact(ag (aj U)).elim
 obtain⟨hlen,o⟩:=j;have d:RelE X.K Y T (gU js ρ) (sC js k):=(re.later e e1).blk js;refine⟨λi n C W=>∃ ι2 S2 ρ2 xs vs,n=it.items.length - i/\i<=it.items.length/\Ext Y T ι2 (g9 W p)/\Rep X.K ι2 (g9 W p) S2/\RelE X.K ι2 (g9 W p) ρ2 C/\W p=ar (.lst vs)/\p∉ι2/\RelDs X.K ι2 (g9 W p) xs vs/\xs.length<=i/\
  cont X.K eA (bI it g t m (it.items.drop i) ρ2>>=λys=>bj (xs++ys)) ι2 S2 (g9 W p) (kB X.K Q),⟨_,Y,S1,gU js ρ,[],[],rfl,Nr _,?_,?_,?_,bo,rep1.free F,.nil,Nr _,?_⟩,?_⟩
 ·rw[kJ,jS F];exact .refl
 ·rw[kJ,jS F];exact rep1
 ·rw[kJ,jS F];exact d
 ·rw[kJ,jS F];exact o
 rintro i n C W ⟨ι2,S2,ρ2,xs,vs,hn,hi',e2,rep2,re2,hpc,hpn,rx,hlim,c2⟩;by_cases hlt:i<it.items.length
 ·have hd:it.items.drop i=it.items[i]::it.items.drop (i+1):=Qw hlt;rw[hd]at c2;have G:cont X.K eA (ia it>>=λ_=>g it.items[i] ρ2>>=λZ=>t Z>>=λb=>if b=b_ then m Z>>=λy=>bI it g t m (it.items.drop (i+1)) Z>>=λys=>bj (xs++y::ys)else bI it g t m (it.items.drop (i+1)) Z>>=λys=>bj (xs++ys)) ι2 S2 (g9 W p) (kB X.K Q):=by
   have:(bI it g t m (it.items[i]::it.items.drop (i+1)) ρ2>>=λys=>bj (xs++ys))=(ia it>>=λ_=>g it.items[i] ρ2>>=λZ=>t Z>>=λb=>if b=b_ then m Z>>=λy=>bI it g t m (it.items.drop (i+1)) Z>>=λys=>bj (xs++y::ys)else bI it g t m (it.items.drop (i+1)) Z>>=λys=>bj (xs++ys)):=by show((ia it>>=λ_=>g it.items[i] ρ2>>=λZ=>t Z>>=λb=>if b=b_ then m Z>>=λy=>bI it g t m (it.items.drop (i+1)) Z>>=λys=>aC (y::ys)else bI it g t m (it.items.drop (i+1)) Z)>>=λys=>bj (xs++ys))=_;simp only[fN,Fi,ah]
   rw[<-this];exact c2
  obtain⟨ok,u⟩:=ng G rep2;obtain⟨s,a5⟩:=a ι2 W S2 e2.unhide.n rep2.unhide ok i;obtain⟨go,yl⟩:=s it.items[i] (MY hlt);refine .inr ⟨go,λB P=>∃ ι3 S3 ρ3 xs3 vs3,Ext Y T ι3 (g9 P p)/\Rep X.K ι3 (g9 P p) S3/\RelE X.K ι3 (g9 P p) ρ3 B/\P p=ar (.lst vs3)/\p∉ι3/\RelDs X.K ι3 (g9 P p) xs3 vs3/\xs3.length<=i+1/\
   cont X.K eA (bI it g t m (it.items.drop (i+1)) ρ3>>=λys=>bj (xs3++ys)) ι3 S3 (g9 P p) (kB X.K Q),?_,λx H3 hy=>?_⟩
  ·rintro B P ⟨ι3,S3,ρ3,xs3,vs3,h1,h2,h3,h4,h5,h6,h7,h8⟩;exact⟨_,by omega,ι3,S3,ρ3,xs3,vs3,rfl,hlt,h1,h2,h3,h4,h5,h6,h7,h8⟩
  ·obtain⟨q,rep3,rd⟩:=yl x H3 hy;obtain⟨l,_⟩:=q.oth p _ hpc hpn (by intro _ z;cases z);have v:Ext ι2 (g9 W p) ι2 (g9 H3 p):=q.hide;have c4:=aj (gr u v);refine⟨ι2,S2,ρ2,it.items[i],rep3,re2.unhide.later rep2.unhide q,rd,ay (oU (E:=eA) c4 l hpn) λρ4 ι4 S4 H4 e4 rep4 ⟨hp4,hn4,c5⟩ σ4 re4=>?_⟩;have r:Rep X.K ι4 (g9 H4 p) S4:=rep4.hide hp4 hn4;have f:Ext ι2 (g9 W p) ι4 (g9 H4 p):=v.trans e4.hide;refine⟨ι4,S4,ρ4,rep4,re4,ay (oU (E:=eA) (aj c5) hp4 hn4) λb ι5 S5 H5 e5 rep5 ⟨hp5,hn5,c6⟩=>?_⟩;have R:Rep X.K ι5 (g9 H5 p) S5:=rep5.hide hp5 hn5;have L:Ext ι2 (g9 W p) ι5 (g9 H5 p):=f.trans e5.hide;have O:RelE X.K ι5 H5 ρ4 σ4:=re4.later rep4 e5;cases b with
   |false=>
    have I:cont X.K eA (bI it g t m (it.items.drop (i+1)) ρ4>>=λys=>bj (xs++ys)) ι5 S5 (g9 H5 p) (kB X.K Q):=c6;exact⟨ι5,S5,ρ4,xs,vs,e2.trans L,R,O.hide hp5,hp5,hn5,rx.later rep2 L,by omega,I⟩
   |true=>
    have I:cont X.K eA (m ρ4>>=λy=>bI it g t m (it.items.drop (i+1)) ρ4>>=λys=>bj (xs++y::ys)) ι5 S5 (g9 H5 p) (kB X.K Q):=c6;refine⟨ι5,S5,ρ4,rep5,O,ay (oU (E:=eA) (aj I) hp5 hn5) λy ι6 S6 H6 e6 rep6 ⟨hp6,hn6,c7⟩ yv ry=>?_⟩;have w:Ext ι2 (g9 W p) ι6 (g9 H6 p):=L.trans e6.hide;have N:Rep X.K ι6 (g9 H6 p) S6:=rep6.hide hp6 hn6;have A:=rx.later rep2 w;have hl:vs.length<sizeLine:=by rw[<-A.length];exact Py (by omega) HM
    refine⟨vs,hp6,hl,ι6,S6,ρ4,xs++[y],vs++[yv],?_⟩;rw[kJ];refine⟨e2.trans w,N,(O.later rep5 e6).hide hp6,bo,hn6,A.append (.cons (ry.hide hp6) .nil),by simp;omega,by simpa using c7⟩
 ·have hd:it.items.drop i=[]:=OX (by omega);rw[hd]at c2;have G:cont X.K eA (ia it>>=λ_=>bj (xs++[])) ι2 S2 (g9 W p) (kB X.K Q):=by
   have:(bI it g t m [] ρ2>>=λys=>bj (xs++ys))=(ia it>>=λ_=>bj (xs++[])):=by show((ia it>>=λ_=>aC [])>>=λys=>bj (xs++ys))=_;simp only[fN,ah]
   rw[<-this];exact c2
  obtain⟨ok,u⟩:=ng G rep2;rw[NL]at u;refine .inl ⟨(a ι2 W S2 e2.unhide.n rep2.unhide ok i).2 (by omega),?_⟩;have:=(bt u rep2 rx).2 p nh;rw[CJ hpc]at this;exact this
theorem vY(h:tM X.K eA (λρ=>do let it<-mi ρ;let ys<-dq it g t m (gU js ρ);bj ys) σ H Q):
  yV (Mv X.K eA mi) js (Ju X.K eA g) (Ff X.K eA t) (tM X.K eA m) σ H Q:=
 let ⟨ι,S,ρ,rep,re,c⟩:=h
 ⟨ι,S,ρ,rep,re,vX rep re c⟩
theorem bQ(c:CompScope X scope Nc js)(Y:X.calm=b_)(W:SI X eA tg iter mi)
  (Z:∀C ex s H,SG (aX X scope Nc C ex s H) eA tg g/\Lf (aX X scope Nc C ex s H) eA ifs t/\SE (aX X scope Nc C ex s H) eA elt m)
  (hs:∀x,k6 iter X.env x=aC x:=by intro _;rfl):SE X eA (.ListComp elt [⟨tg,iter,ifs,0⟩] scope pos) (λρ=>do let it<-mi ρ;let ys<-dq it g t m (gU js ρ);bj ys):=
 PE.imp (Fe (g:=Ju X.K eA g) (tt:=Ff X.K eA t) (te:=tM X.K eA m) c Y W Z hs) λ_ _ _ q=>vY q
theorem jT(i:Nat)(J:X.N.Nodup)(c:CompScope X scope Nc js)(P:X.calm=b_)(Q:SI X eA tg iter mi)
  (Y:∀C ex s H,SG (aX X scope Nc C ex s H) eA tg g/\Lf (aX X scope Nc C ex s H) eA ifs t/\SE (aX X scope Nc C ex s H) eA elt m)
  (W:X.N[i]? =ar x:=by rfl) (L:Loc X.env.scope x:=by first|exact y8 rfl|exact sb rfl)
  (Z:la (.ListComp elt [⟨tg,iter,ifs,0⟩] scope cpos) (ar (.Name x pos')) pos.line X.env=aC true:=by rfl)
  (U:X.fn x=b_\/X.env.scope.names.lookup x=ar .local:=by first|exact .inl rfl|exact .inr rfl|assumption)
  (hs:∀x,k6 iter X.env x=aC x:=by intro _;rfl):SS X eA (.Assign [.Name x pos'] (.ListComp elt [⟨tg,iter,ifs,0⟩] scope cpos) pos)
   (λρ=>do let d<-(do let it<-mi ρ;let ys<-dq it g t m (gU js ρ);bj ys);aC (.nx (ρ.set i (ar d)))):=by
 refine PS.imp (xM (g:=Ju X.K eA g) (tt:=Ff X.K eA t) (te:=tM X.K eA m) J W L c P Q Y Z U hs) λT σ H h=>?_;obtain⟨ι,S,ρ,rep,re,c⟩:=h;refine vY ⟨ι,S,ρ,rep,re,ay (aj c) λd R S1 I e1 rep1 O v r=>?_⟩;exact aq O .refl rep1 _ ((re.later rep e1).set r i)
end
section
variable {P:er}{w:fc}{K:dV}{mg:Str->Option a_}{base:gd}
def outD:Out->M D
 | .nx _=>aC .non
 | .ret d=>aC d
 |_=>M.fail
def pU(N n:Nat)(m:cY):List D->M D:=λds=>if ds.length=n then do let o<-m (ds.map ar++eb (N - n) none);outD o else M.fail
end
def sD(f:Int->Int->M D):D->D->M D
 | .int i,.int j=>f i j
 |_,_=>M.fail
theorem lD{K:dV}{E:XD}{g:Int->Int->V}{f:Int->Int->D}(Z:∀ ι H i j,RelD K ι H (f i j) (g i j)):tj K E (sD λi j=>aC (f i j)) (EJ g):=by
 intro ι S H d1 U v1 v2 Q rep Y X c;cases d1<;>cases U<;>first
  |exact(ag c).elim
  |exact⟨_,_,Y.int_inv,X.int_inv,aq c .refl rep _ (Z _ _ _ _)⟩
theorem ni{K:dV}{E:XD}{C:Int->Int->Prop} [∀i j,Decidable (C i j)]{g:Int->Int->V}{f:Int->Int->D}(Y:∀ ι H i j,RelD K ι H (f i j) (g i j)):tj K E (sD λi j=>if C i j then aC (f i j)else M.fail) (rI C g):=by
 intro ι S H d1 T v1 v2 Q rep X U c;cases d1<;>cases T<;>first
  |exact(ag c).elim
  | (next i j=>
    have Z:cont K E (if C i j then aC (f i j)else M.fail) ι S H (kB K Q):=c;by_cases h:C i j
    ·rw[if_pos h]at Z;exact⟨_,_,X.int_inv,U.int_inv,h,aq Z .refl rep _ (Y _ _ _ _)⟩
    ·rw[if_neg h]at Z;exact(ag Z).elim)
def iZ:D->D->M D:=sD λi j=>aC (.int (i - j))
instance:∀i j,Decidable (xB i j):=λi j=>inferInstanceAs (Decidable (_\/_))
instance:∀i j,Decidable (AM i j):=λi j=>inferInstanceAs (Decidable (_/\_))
instance:∀i j,Decidable (Ci i j):=λi j=>inferInstanceAs (Decidable (_/\_))
def uq:D->D->M D:=sD λi j=>if xB i j then aC (.int (i*j))else M.fail
def nj:D->D->M D:=sD λi j=>if AM i j then aC (.int (i / j))else M.fail
def mB:D->D->M D:=sD λi j=>if 0<j then aC (.int (i % j))else M.fail
def qJ:D->D->M D:=sD λi j=>if Ci i j then aC (.int (i ^ j.toNat))else M.fail
def bK:D->D->M D
 | .int i,.int j=>aC (.int (i+j))
 | .tup xs,.tup ys=>bH (xs++ys)
 | .lst a,.lst b=>do let xs<-getL a;let ys<-getL b;bj (xs++ys)
 | .lst a,.fz ys=>do let xs<-getL a;bj (xs++ys)
 | .fz xs,.lst b=>do let ys<-getL b;bj (xs++ys)
 | .fz xs,.fz ys=>bj (xs++ys)
 |_,_=>M.fail
def HP:D->D->M D:=sD λi j=>aC (.bl (decide (i<=j)))
def CK:D->D->M D:=sD λi j=>aC (.bl (decide (j<i)))
def L6:D->D->M D:=sD λi j=>aC (.bl (decide (j<=i)))
section
variable {X:Cx}{E:XD}{a b e c:Expr}{m n l:TM}{pos:Pos}
theorem mC(Y:SE X E a m)(Z:SE X E b n):SE X E (.BinOp a .Sub b pos) (λρ=>do let x<-m ρ;let y<-n ρ;iZ x y):=qH Hw (lD λ_ _ _ _=>.int _) Y Z
theorem qK(Y:SE X E a m)(Z:SE X E b n):SE X E (.BinOp a .Mult b pos) (λρ=>do let x<-m ρ;let y<-n ρ;uq x y):=qH Hx (ni λ_ _ _ _=>.int _) Y Z
theorem ur(Y:SE X E a m)(Z:SE X E b n):SE X E (.BinOp a .FloorDiv b pos) (λρ=>do let x<-m ρ;let y<-n ρ;nj x y):=qH EX (ni λ_ _ _ _=>.int _) Y Z
theorem kK(Z:SE X E a m)(Y:SE X E b n):SE X E (.BinOp a .Mod b pos) (λρ=>do let x<-m ρ;let y<-n ρ;mB x y):=qH Hy (ni (C:=λ_ j=>0<j) λ_ _ _ _=>.int _) Z Y
theorem uu(Y:SE X E a m)(Z:SE X E b n):SE X E (.BinOp a .Pow b pos) (λρ=>do let x<-m ρ;let y<-n ρ;qJ x y):=qH Hz (ni λ_ _ _ _=>.int _) Y Z
theorem CL:jA X (rA .Add) (λx y H Q=>∃a b ys,x= .ref a/\y= .ref b/\lQ X.K H a []/\lQ X.K H b ys/\Q (.ref b) H):=by
 intro pins s σ H x y v u Q I B L h;obtain⟨a,b,ys,rfl,rfl,N,J,q⟩:=h;cases B;cases L;obtain⟨its,C,G,_⟩:=I.tuple N;obtain⟨Z,z,F,_⟩:=I.tuple J;cases C;obtain⟨⟨cls,dd,data,O⟩,S,P,n,hd⟩:=id G;obtain⟨⟨R,T,data2,U⟩,W,Y,A,hd2⟩:=id F;simp only at P hd Y hd2;subst P hd Y hd2;exact Ry ⟨_,S,rfl⟩ ⟨_,W,rfl⟩ QZ Rp PJ Pw (Pp _ _)
  (tuple_addW0 a b #[] Z.toArray n A dd T O U (by simp)) ⟨S,W,⟨.ref b,H,I,rfl,q⟩⟩
theorem Inv.lstR{X:Cx}{Z:List (c_×Obj)}{Y:L2.St}{H:Hp}{s:dn}{l:c_}{xs:List V}(I:L2.Inv X Z Y H s)(W:Rd H l (.lst xs)):xs.length<=sizeLine/\∃(its:List a_) (n:Nat),bu xs its/\xs.length=its.length/\s.heap.get? l=ar {cls:=.type "list",data:=.seq its.toArray n}:=by obtain⟨z,its,n,r,e⟩:=W.ok I.hok;exact⟨z,its,n,r,r.length,e⟩
def Kd:R2:=λx y H Q=>∃l b xs zs,x= .ref l/\y= .ref b/\Rd H l (.lst xs)/\Rd H b (.lst zs)/\xs.length+zs.length<=sizeLine/\∀p,H p=none->Q (.ref p) (upd H p (.lst (xs++zs)))
theorem Fj:jA X (rA .Add) Kd:=by
 intro pins s σ H x y v u Q I T Y h;obtain⟨l,b,xs,zs,rfl,rfl,W,O,N,q⟩:=h;cases T;cases Y;obtain⟨z,its,n,r,K,e⟩:=Inv.lstR I W;obtain⟨L,Z,J,S,U,e2⟩:=Inv.lstR I O;refine PySem.P.add_list e e2 ?_ (by rw[M8,M8];omega);have R:its.toArray++Z.toArray=(its++Z).toArray:=by simp
 rw[R];exact⟨.ref _,_,I.lnew (t':=s.toks) (r.append S) (by rw[MT];omega),rfl,q _ I.fresh⟩
theorem cJ(F:SE X E a m)(B:SE X E b n):SE X E (.BinOp a .Add b pos) (λρ=>do let x<-m ρ;let y<-n ρ;bK x y):=by
 refine qH (Hv.or (E7.or (CL.or Fj))) ?_ F B;intro ι S H d1 C v1 v2 Q rep O P c;cases d1<;>cases C<;>first
  |exact(ag c).elim
  |exact .inl ⟨_,_,O.int_inv,P.int_inv,aq c .refl rep _ (.int _)⟩
  | (next xs ys=>
    obtain⟨p,vs,rfl,U,I⟩:=O.tup_inv;obtain⟨q,ws,rfl,W,G⟩:=P.tup_inv;obtain⟨Y,T⟩:=iN c rep (I.append G);rw[MT]at Y;cases vs with
    |nil=>
     refine .inr (.inr (.inl ⟨p,q,ws,rfl,rfl,.of U,.of W,?_⟩));exact jQ c rep W (I.append G)
    |cons v vs=>
     refine .inr (.inl ⟨p,q,v::vs,ws,rfl,rfl,.of U,.of W,by simp,M7 Y hU,λz=>?_,λ_=>T⟩);subst z;have:=I.append G;rw[NL]at this;exact jQ c rep U this)
  | (next j k=>
    obtain⟨p,rfl,U⟩:=O.lst_inv;obtain⟨q,rfl,W⟩:=P.lst_inv;obtain⟨ds,vs,_,J,R,K⟩:=bx c rep U;obtain⟨es,ws,_,hw,Z,L⟩:=bx K rep W;obtain⟨Y,T⟩:=bt L rep (R.append Z);rw[MT]at Y;exact .inr (.inr (.inr ⟨p,q,vs,ws,rfl,rfl,.inl J,.inl hw,M7 Y hU,T⟩)))
  | (next j ys=>
    obtain⟨p,rfl,U⟩:=O.lst_inv;obtain⟨q,o2,ws,rfl,W,Z⟩:=P.fz_inv;obtain⟨ds,vs,_,J,R,K⟩:=bx c rep U;obtain⟨Y,T⟩:=bt K rep (R.append Z);rw[MT]at Y;exact .inr (.inr (.inr ⟨p,q,vs,ws,rfl,rfl,.inl J,.inr ⟨o2,W⟩,M7 Y hU,T⟩)))
  | (next xs k=>
    obtain⟨p,N,vs,rfl,U,R⟩:=O.fz_inv;obtain⟨q,rfl,W⟩:=P.lst_inv;obtain⟨es,ws,_,hw,Z,L⟩:=bx c rep W;obtain⟨Y,T⟩:=bt L rep (R.append Z);rw[MT]at Y;exact .inr (.inr (.inr ⟨p,q,vs,ws,rfl,rfl,.inr ⟨N,U⟩,.inl hw,M7 Y hU,T⟩)))
  | (next xs ys=>
    obtain⟨p,N,vs,rfl,U,R⟩:=O.fz_inv;obtain⟨q,o2,ws,rfl,W,Z⟩:=P.fz_inv;obtain⟨Y,T⟩:=bt c rep (R.append Z);rw[MT]at Y;exact .inr (.inr (.inr ⟨p,q,vs,ws,rfl,rfl,.inr ⟨N,U⟩,.inr ⟨o2,W⟩,M7 Y hU,T⟩)))
theorem CM(Y:SE X E a m)(Z:SE X E b n):SB X E (.Compare a [.Gt] [b] pos) (λρ=>do let z<-(do let x<-m ρ;let y<-n ρ;CK x y);lS z):=mz JX (lD λ_ _ _ _=>.bl _) Y Z
theorem Ke(Y:SE X E a m)(Z:SE X E b n):SB X E (.Compare a [.GtE] [b] pos) (λρ=>do let z<-(do let x<-m ρ;let y<-n ρ;L6 x y);lS z):=mz JY (lD λ_ _ _ _=>.bl _) Y Z
def intsOf:List D->Option (List Int)
 |[]=>ar []
 | .int i::r=>(intsOf r).map (i::·)
 |_=>none
theorem gu{K:dV}{ι:List c_}{H:Hp}:∀{ds:List D} {vs:List V} {ns:List Int},RelDs K ι H ds vs->intsOf ds=ar ns->vs=ns.map V.int
 |[],vs,ns,h,e=>by cases e;rw[h.nil_inv];rfl
 | .int i::ds,vs,ns,h,e=>by
  obtain⟨v,ws,rfl,Y,Z⟩:=h.cons_inv;cases q:intsOf ds with
  |none=>simp[intsOf,q]at e
  |some ks=>
   simp[intsOf,q]at e;subst e;rw[Y.int_inv,gu Z q];rfl
 | .non::_,_,_,_,e=>by cases e
 | .bl _::_,_,_,_,e=>by cases e
 | .str _::_,_,_,_,e=>by cases e
 | .tup _::_,_,_,_,e=>by cases e
 | .lst _::_,_,_,_,e=>by cases e
 | .ro _::_,_,_,_,e=>by cases e
 | .fz _::_,_,_,_,e=>by cases e
 | .emp::_,_,_,_,e=>by cases e
def A1:D->D->M D
 | .int i,.int j=>aC (.bl (decide (i<j)))
 | .tup xs,.tup ys=>match intsOf xs,intsOf ys with
  |some ns,ar ms=>aC (.bl (HT.lexLt ns ms))
  |_,_=>M.fail
 |_,_=>M.fail
theorem xP:tj X.K E A1 (λx y H Q=>EJ (λi j=>.bl (decide (i<j))) x y H Q\/J1 X.K x y H Q):=by
 intro ι S H d1 R v1 v2 Q rep Z Y c;cases d1<;>cases R<;>first
  |exact(ag c).elim
  |exact .inl ⟨_,_,Z.int_inv,Y.int_inv,aq c .refl rep _ (.bl _)⟩
  | (next xs ys=>
    obtain⟨p,vs,rfl,P,W⟩:=Z.tup_inv;obtain⟨q,ws,rfl,U,T⟩:=Y.tup_inv;dsimp only[A1]at c;split at c
    ·next ns ms e1 e2=>
     refine .inr ⟨p,q,ns,ms,rfl,rfl,.of (by rw[<-gu W e1];exact P),.of (by rw[<-gu T e2];exact U),aq c .refl rep _ (.bl _)⟩
    ·exact(ag c).elim)
theorem GJ(Z:X.A.units<u3)(W:SE X E a m)(Y:SE X E b n):SE X E (.Compare a [.Lt] [b] pos) (λρ=>do let x<-m ρ;let y<-n ρ;A1 x y):=xN (Cj.or (xF Z)) xP W Y
theorem GK(Z:X.A.units<u3)(W:SE X E a m)(Y:SE X E b n):SB X E (.Compare a [.Lt] [b] pos) (λρ=>do let z<-(do let x<-m ρ;let y<-n ρ;A1 x y);lS z):=mz (Cj.or (xF Z)) xP W Y
theorem vZ(u:tj X.K E f r)(v:tj X.K E g r')
  (h:tM X.K E (λρ=>do let x<-m ρ;let y<-n ρ;let z<-f x y;let k<-lS z;if k=b_ then do let w<-l ρ;g y w else aC (.bl dt)) σ H Q):xC r r' (tM X.K E m) (tM X.K E n) (tM X.K E l) σ H Q:=by
 obtain⟨ι,S,ρ,rep,re,c⟩:=h;refine⟨ι,S,ρ,rep,re,ay (aj c) λx W S1 p e1 rep1 J v1 t=>?_⟩;refine⟨W,S1,ρ,rep1,re.later rep e1,ay (aj J) λy T S2 N e2 rep2 L v2 P=>?_⟩;refine u T S2 N x y v1 v2 _ rep2 (t.later rep1 e2) P (ay (aj L) λz U I j R rep3 q o B=>?_);obtain⟨k,rfl,rfl,O⟩:=uo rep3 B q;refine⟨k,rfl,?_⟩;cases k with
 |true=>
  exact⟨U,I,ρ,rep3,((re.later rep e1).later rep1 e2).later rep2 R,ay (aj O) λw Y s C G Z A v4 F=>v Y s C y w v2 v4 Q Z ((P.later rep2 R).later rep3 G) F A⟩
 |false=>exact aq O .refl rep3 _ (.bl dt)
theorem CN(h:jA X (i_ op) r)(h':jA X (i_ op') r')(U:tj X.K E f r)(Z:tj X.K E g r')(T:SE X E a m)(S:SE X E b n)(Y:SE X E c l)
  (W:RE [op,op'] [b,c]=false:=by with_unfolding_all rfl):
  SE X E (.Compare a [op,op'] [b,c] pos) (λρ=>do let x<-m ρ;let y<-n ρ;let z<-f x y;let k<-lS z;if k=b_ then do let w<-l ρ;g y w else aC (.bl dt)):=
 PE.imp (Cm h h' T S Y W) λ_ _ _ q=>vZ U Z q
theorem CO(h:jA X (i_ op) r)(h':jA X (i_ op') r')(W:tj X.K E f r)(Z:tj X.K E g r')(O:SE X E a m)(J:SE X E b n)(N:SE X E c l)
  (Y:RE [op,op'] [b,c]=false:=by with_unfolding_all rfl):
  SB X E (.Compare a [op,op'] [b,c] pos) (λρ=>do let v<-(do let x<-m ρ;let y<-n ρ;let z<-f x y;let k<-lS z;if k=b_ then do let w<-l ρ;g y w else aC (.bl dt));lS v):=
 PT.imp (Cn h h' O J N Y) λσ H Q q=>by obtain⟨ι,S,ρ,rep,re,c⟩:=q;refine vZ W Z (Q:=λx U=>∃k,x= .bl k/\Q k U) ⟨ι,S,ρ,rep,re,ay (aj c) λx R S1 I e1 rep1 L v1 P=>?_⟩;obtain⟨k,rfl,rfl,T⟩:=qI rep1 P L;exact⟨k,rfl,T⟩
def cZ:D->D->M D
 | .lst k,.int i=>do
  let xs<-getL k
  match mx xs i with
  |some d=>aC d
  |none=>M.fail
 | .tup xs,.int i=>match mx xs i with
  |some d=>aC d
  |none=>M.fail
 | .ro xs,.int i=>match mx xs i with
  |some d=>aC d
  |none=>M.fail
 | .fz xs,.int i=>match mx xs i with
  |some d=>aC d
  |none=>M.fail
 |_,_=>M.fail
theorem qd{K:dV}{ι:List c_}{H:Hp}{ds:List D}{vs:List V}{i:Int}{d:D}(h:RelDs K ι H ds vs)(e:mx ds i=ar d):∃v,mx vs i=ar v/\RelD K ι H d v:=by
 unfold mx at e⊢;rw[h.length]at e;cases q:B1 vs.length i with
 |none=>rw[q]at e;cases e
 |some j=>
  rw[q]at e;exact h.get' e
theorem HQ:tj X.K E cZ (Ms X.K):=by
 intro ι S H d1 R v1 v2 Q rep W U c;cases d1<;>cases R<;>first
  |exact(ag c).elim
  | (next k i=>
    obtain⟨p,rfl,Y⟩:=W.lst_inv;obtain⟨ds,vs,_,P,Z,T⟩:=bx c rep Y;cases q:mx ds i with
    |none=>rw[q]at T;exact(ag T).elim
    |some d=>
     rw[q]at T;obtain⟨v,e1,e2⟩:=qd Z q;exact .inl ⟨p,vs,i,v,rfl,U.int_inv,.of P,e1,aq T .refl rep _ e2⟩)
  | (next ds i=>
    obtain⟨p,vs,rfl,Y,Z⟩:=W.tup_inv;dsimp only[cZ]at c;cases q:mx ds i with
    |none=>rw[q]at c;exact(ag c).elim
    |some d=>
     rw[q]at c;obtain⟨v,e1,e2⟩:=qd Z q;exact .inr (.inl ⟨p,vs,i,v,rfl,U.int_inv,.of Y,e1,aq c .refl rep _ e2⟩))
  | (next ds i=>
    obtain⟨p,vs,rfl,Y,Z⟩:=W.ro_inv;dsimp only[cZ]at c;cases q:mx ds i with
    |none=>rw[q]at c;exact(ag c).elim
    |some d=>
     rw[q]at c;obtain⟨v,e1,e2⟩:=qd Z q;exact .inl ⟨p,vs,i,v,rfl,U.int_inv,Y.sq,e1,aq c .refl rep _ e2⟩)
  | (next ds i=>
    obtain⟨p,o,vs,rfl,Y,Z⟩:=W.fz_inv;dsimp only[cZ]at c;cases q:mx ds i with
    |none=>rw[q]at c;exact(ag c).elim
    |some d=>
     rw[q]at c;obtain⟨v,e1,e2⟩:=qd Z q;exact .inl ⟨p,vs,i,v,rfl,U.int_inv,.inl (.inr ⟨o,Y⟩),e1,aq c .refl rep _ e2⟩)
theorem aZ(Z:SE X E a m)(Y:SE X E b n)(hs:ua b:=by intro _ _;rfl):SE X E (.Subscript a b pos) (λρ=>do let x<-m ρ;let y<-n ρ;cZ x y):=J8 HH HQ Z Y hs
end
mutual
inductive ReadsV(H:Hp):V->n_->Prop where
 |non:ReadsV H .non .none
 |bl (b:Bool):ReadsV H (.bl b) (.bool b)
 |int (i:Int):ReadsV H (.int i) (.int i)
 |str (x:Str):ReadsV H (.str x) (.str x)
 |lst {a:c_} {vs:List V} {ps:List n_}:Rd H a (.lst vs)->ReadsVs H vs ps->ReadsV H (.ref a) (.list ps)
 |tup {a:c_} {vs:List V} {ps:List n_}:H a=ar (.tup vs)->ReadsVs H vs ps->ReadsV H (.ref a) (.tuple ps)
inductive ReadsVs(H:Hp):List V->List n_->Prop where
 |nil:ReadsVs H [] []
 |cons {v:V} {p:n_} {vs:List V} {ps:List n_}:ReadsV H v p->ReadsVs H vs ps->ReadsVs H (v::vs) (p::ps)
end
mutual
theorem ReadsV.heap(Z:ij P w H h):∀{v:V} {p:n_},ReadsV H v p->∀{u:a_},RelV v u->∃as,Reads h u p as
 |_,_,.non,u,r=>by cases (show u=hO from r);exact⟨_,.none⟩
 |_,_,.bl b,u,r=>by cases (show u=u0 b from r);exact⟨_,.bool b⟩
 |_,_,.int i,u,r=>by obtain⟨t,rfl⟩:=(show ∃t,u=oi i t from r);exact⟨_,.int i t⟩
 |_,_,.str x,u,r=>by obtain⟨t,rfl⟩:=(show ∃t,u=I_ x t from r);exact⟨_,.str x t⟩
 |_,_,@ReadsV.lst _ a vs ps h1 h2,u,r=>by
  cases (show u=eo a from r);obtain⟨_,its,n,Y,e⟩:=(show bG P w H h a (.lst vs)from h1.ok Z);obtain⟨as,q⟩:=ReadsVs.heap Z h2 Y;exact⟨_,.list e rfl rfl (by simpa using q)⟩
 |_,_,@ReadsV.tup _ a vs ps h1 h2,u,r=>by
  cases (show u=eo a from r);obtain⟨_,its,Y,o,e,c,n,d⟩:=(show bG P w H h a (.tup vs)from Z a _ h1);obtain⟨as,q⟩:=ReadsVs.heap Z h2 Y;exact⟨_,.tuple e c d (by simpa using q)⟩
theorem ReadsVs.heap(Z:ij P w H h):∀{vs:List V} {ps:List n_},ReadsVs H vs ps->∀{us:List a_},bu vs us->∃as,ReadsAll h us ps as
 |_,_,.nil,us,r=>by cases r;exact⟨_,.nil⟩
 | _,_,.cons h1 h2,us,r=>by
  cases r with
  |cons r1 r2=>
   obtain⟨as,q⟩:=ReadsV.heap Z h1 r1;obtain⟨bs,Y⟩:=ReadsVs.heap Z h2 r2;exact⟨_,.cons q Y⟩
end
def mapP(f:D->Option n_):List D->Option (List n_)
 |[]=>ar []
 |d::ds=>match f d,mapP f ds with
  |some p,ar ps=>ar (p::ps)
  |_,_=>none
def gm(S:av):Nat->D->Option n_
 |_,.non=>ar .none
 |_,.bl b=>ar (.bool b)
 |_,.int i=>ar (.int i)
 |_,.str x=>if PyData.strOk x=b_ then ar (.str x)else none
 |n+1,.tup ds=>(mapP (gm S n) ds).map .tuple
 |n+1,.lst k=>(S[k]?).bind λxs=>(mapP (gm S n) xs).map .list
 |n+1,.fz ds=>(mapP (gm S n) ds).map .list
 |_,_=>none
section
variable {K:dV}{ι:List c_}{S:av}{H:Hp}
theorem nk{f:D->Option n_}(Z:∀d p v,f d=ar p->RelD K ι H d v->ReadsV H v p/\p.canLay0=b_/\p.depth<=n):
  ∀{ds:List D} {ps:List n_} {vs:List V},mapP f ds=ar ps->RelDs K ι H ds vs->ReadsVs H vs ps/\PyData.canLayAll0 ps=b_/\l6 ps<=n
 |[],ps,vs,e,r=>by
  cases e;rw[r.nil_inv];exact⟨.nil,rfl,Nr _⟩
 | d ::ds,ps,vs,e,r=>by
  obtain⟨v,ws,rfl,R,Y⟩:=r.cons_inv;unfold mapP at e;cases q:f d with
  |none=>rw[q]at e;cases e
  | some p=>
   rw[q]at e;cases q2:mapP f ds with
   |none=>rw[q2]at e;cases e
   | some ps'=>
    rw[q2]at e;cases e;obtain⟨U,T,X⟩:=Z d p v q R;obtain⟨k1,k2,k3⟩:=nk Z q2 Y;refine⟨.cons U k1,?_,?_⟩
    ·show(PyData.canLay0 p && PyData.canLayAll0 ps')=b_;rw[T,k2];rfl
    ·show max p.depth (l6 ps')<=n;exact Nat.max_le.mpr ⟨X,k3⟩
theorem lE(X:Rep K ι H S):∀(n:Nat) (d:D) (p:n_) (v:V),gm S n d=ar p->RelD K ι H d v->ReadsV H v p/\p.canLay0=b_/\p.depth<=n:=by
 intro n
 induction n with
 | zero=>
  intro d p v e r;cases d with
  |non=>cases e;rw[r.non_inv];exact⟨.non,rfl,MV _⟩
  |bl b=>cases e;rw[r.bl_inv];exact⟨.bl b,rfl,MV _⟩
  |int i=>cases e;rw[r.int_inv];exact⟨.int i,rfl,MV _⟩
  |str x=>
   unfold gm at e;split at e
   ·next hs=>cases e;rw[r.str_inv];exact⟨.str x,hs,MV _⟩
   ·cases e
  |_=>cases e
 | succ n ih=>
  intro d p v e r;cases d with
  |non=>cases e;rw[r.non_inv];exact⟨.non,rfl,Nr _⟩
  |bl b=>cases e;rw[r.bl_inv];exact⟨.bl b,rfl,Nr _⟩
  |int i=>cases e;rw[r.int_inv];exact⟨.int i,rfl,Nr _⟩
  |str x=>
   unfold gm at e;split at e
   ·next hs=>cases e;rw[r.str_inv];exact⟨.str x,hs,Nr _⟩
   ·cases e
  | tup ds=>
   obtain⟨a,vs,rfl,Y,Z⟩:=r.tup_inv;unfold gm at e;cases q:mapP (gm S n) ds with
   |none=>rw[q]at e;cases e
   |some ps=>
    rw[q]at e;cases e;obtain⟨k1,k2,k3⟩:=nk ih q Z;exact⟨.tup Y k1,k2,Pi k3⟩
  | lst k=>
   obtain⟨a,rfl,Y⟩:=r.lst_inv;unfold gm at e;cases z:S[k]? with
   |none=>rw[z]at e;cases e
   | some xs=>
    rw[z]at e;obtain⟨vs,U,Z⟩:=X.get k a xs Y z;cases q:mapP (gm S n) xs with
    |none=>simp[q]at e
    |some ps=>
     simp[q]at e;subst e;obtain⟨k1,k2,k3⟩:=nk ih q Z;exact⟨.lst (.inl U) k1,k2,Pi k3⟩
  |ro ds=>cases e
  | fz ds=>
   obtain⟨a,o,vs,rfl,Y,Z⟩:=r.fz_inv;unfold gm at e;cases q:mapP (gm S n) ds with
   |none=>rw[q]at e;cases e
   |some ps=>
    rw[q]at e;cases e;obtain⟨k1,k2,k3⟩:=nk ih q Z;exact⟨.lst (.inr ⟨o,Y⟩) k1,k2,Pi k3⟩
  |emp=>cases e
  |fn a c q ds vs=>cases e
  |exc x ds=>cases e
end
def Jv(f:n_->n_->Bool):D->D->M D:=λa b S=>match gm S 60 a,gm S 60 b with
 |some p,ar q=>ar (.ok (.bl (f p q)),S)
 |_,_=>none
def km:D->D->M D:=Jv f'
def kL:D->D->M D:=Jv λp q=> !f' p q
def L7(f:Bool->Bool):n_->n_->Option Bool
 |d,.list xs=>ar (f (xs.any λy=>f' y d))
 |d,.tuple xs=>ar (f (xs.any λy=>f' y d))
 |_,_=>none
def Jw(f:Bool->Bool):D->D->M D:=λa b S=>match gm S 60 a,gm S 60 b with
 |some p,ar q=>match L7 f p q with
  |some r=>ar (.ok (.bl r),S)
  |none=>none
 |_,_=>none
def inD:D->D->M D:=Jw id
def xQ:D->D->M D:=Jw (!·)
section
variable {X:Cx}{E:XD}{a b e:Expr}{m n:TM}{pos:Pos}
def HR(f:n_->n_->Bool):R2:=λx y H Q=>∃p q,(ReadsV H x p/\p.canLay0=b_/\p.depth<=60)/\(ReadsV H y q/\q.canLay0=b_/\q.depth<=60)/\Q (.bl (f p q)) H
theorem lF{p:n_}(h:p.canLay0=b_)(Z:p.depth<=60):SeqAt.shaped p=true:=by unfold SeqAt.shaped;rw[h,O8];exact Nb (by omega)
theorem xR(R:X.A.units+64<u3):jA X (i_ .Eq) (HR f'):=by intro pins s σ H x y v u Q I P T h;obtain⟨p,q,⟨Y,W,N⟩,⟨Z,U,S⟩,h⟩:=h;obtain⟨as,O⟩:=Y.heap I.hok P;obtain⟨bs,L⟩:=Z.heap I.hok T;exact eq_dataH O L (lF W N) (lF U S) R ⟨.bl _,H,I,rfl,h⟩
theorem HS(R:X.A.units+64<u3):jA X (i_ .NotEq) (HR λp q=> !f' p q):=by intro pins s σ H x y v u Q I P T h;obtain⟨p,q,⟨Y,W,N⟩,⟨Z,U,S⟩,h⟩:=h;obtain⟨as,O⟩:=Y.heap I.hok P;obtain⟨bs,L⟩:=Z.heap I.hok T;exact ne_dataH O L (lF W N) (lF U S) R ⟨.bl _,H,I,rfl,h⟩
theorem qe:tj X.K E (Jv f) (HR f):=by
 intro ι S H d1 W v1 v2 Q rep Z Y c;obtain⟨r,U,e,k⟩:=c;unfold Jv at e;split at e
 ·next p q hp hq=>
  cases e;exact⟨p,q,lE rep 60 d1 p v1 hp Z,lE rep 60 W q v2 hq Y,k ι H .refl rep _ (.bl _)⟩
 ·cases e
theorem yY(Z:X.A.units+64<u3)(W:SE X E a m)(Y:SE X E b n):SE X E (.Compare a [.Eq] [b] pos) (λρ=>do let x<-m ρ;let y<-n ρ;km x y):=xN (xR Z) qe W Y
theorem tq(Z:X.A.units+64<u3)(W:SE X E a m)(Y:SE X E b n):SB X E (.Compare a [.Eq] [b] pos) (λρ=>do let z<-(do let x<-m ρ;let y<-n ρ;km x y);lS z):=mz (xR Z) qe W Y
theorem qL(Z:X.A.units+64<u3)(W:SE X E a m)(Y:SE X E b n):SB X E (.Compare a [.NotEq] [b] pos) (λρ=>do let z<-(do let x<-m ρ;let y<-n ρ;kL x y);lS z):=mz (HS Z) qe W Y
def HU(f:Bool->Bool):R2:=λx y H Q=>∃p q r,(ReadsV H x p/\p.canLay0=b_/\p.depth<=60)/\(ReadsV H y q/\q.canLay0=b_/\q.depth<=60)/\L7 f p q=ar r/\Q (.bl r) H
theorem uw:tj X.K E (Jw f) (HU f):=by
 intro ι S H d1 W v1 v2 Q rep Z Y c;obtain⟨r,U,e,k⟩:=c;unfold Jw at e;split at e
 ·next p q hp hq=>
  split at e
  ·next r hr=>
   cases e;exact⟨p,q,r,lE rep 60 d1 p v1 hp Z,lE rep 60 W q v2 hq Y,hr,k ι H .refl rep _ (.bl _)⟩
  ·cases e
 ·cases e
theorem qM(h:(m_ xs).depth<=60):l6 xs<=60:=PN h
theorem kM(h:(x_ xs).depth<=60):l6 xs<=60:=PN h
theorem CP(L:X.A.units+64<u3):jA X (i_ .In) (HU id):=by
 intro pins s σ H x y v u Q I N O h;obtain⟨p,q,r,⟨P,Y,K⟩,⟨R,W,U⟩,Z,h⟩:=h;obtain⟨as,T⟩:=P.heap I.hok N;obtain⟨bs,S⟩:=R.heap I.hok O;cases q with
 |list xs=>
  cases Z;exact SeqAt.in_list_reads S T W Y (by have:=qM U;have:min (l6 xs) p.depth<=60:=M7 (Pz _ _) this;omega) ⟨.bl _,H,I,rfl,h⟩
 |tuple xs=>
  cases Z;exact SeqAt.in_tuple_reads S T W Y (by have:=kM U;have:min (l6 xs) p.depth<=60:=M7 (Pz _ _) this;omega) ⟨.bl _,H,I,rfl,h⟩
 |_=>cases Z
theorem A3(L:X.A.units+64<u3):jA X (i_ .NotIn) (HU (!·)):=by
 intro pins s σ H x y v u Q I N O h;obtain⟨p,q,r,⟨P,Y,K⟩,⟨R,W,U⟩,Z,h⟩:=h;obtain⟨as,T⟩:=P.heap I.hok N;obtain⟨bs,S⟩:=R.heap I.hok O;cases q with
 |list xs=>
  cases Z;exact SeqAt.notIn_list_reads S T W Y (by have:=qM U;have:min (l6 xs) p.depth<=60:=M7 (Pz _ _) this;omega) ⟨.bl _,H,I,rfl,h⟩
 |tuple xs=>
  cases Z;exact SeqAt.notIn_tuple_reads S T W Y (by have:=kM U;have:min (l6 xs) p.depth<=60:=M7 (Pz _ _) this;omega) ⟨.bl _,H,I,rfl,h⟩
 |_=>cases Z
theorem yZ(W:X.A.units+64<u3)(Z:SE X E a m)(U:SE X E b n)(Y:k7 .In b=false:=by rfl):SE X E (.Compare a [.In] [b] pos) (λρ=>do let x<-m ρ;let y<-n ρ;inD x y):=xN (CP W) uw Z U Y
theorem v5(W:X.A.units+64<u3)(Z:SE X E a m)(U:SE X E b n)(Y:k7 .In b=false:=by rfl):SB X E (.Compare a [.In] [b] pos) (λρ=>do let z<-(do let x<-m ρ;let y<-n ρ;inD x y);lS z):=mz (CP W) uw Z U Y
theorem CQ(W:X.A.units+64<u3)(Z:SE X E a m)(U:SE X E b n)(Y:k7 .NotIn b=false:=by rfl):SB X E (.Compare a [.NotIn] [b] pos) (λρ=>do let z<-(do let x<-m ρ;let y<-n ρ;xQ x y);lS z):=mz (A3 W) uw Z U Y
end
section
variable {X:Cx}{E:XD}{a b e c:Expr}{m n l:TM}{pos p2:Pos}{es:List Expr}{ms:aI->M (List D)}
def Mw:D->M Int
 | .int i=>aC i
 |_=>M.fail
def MK(K:dV)(E:XD)(m:aI->M (Option Int)):TO:=λσ H Q=>∃ ι S ρ,Rep K ι H S/\RelE K ι H ρ σ/\cont K E (m ρ) ι S H (λo _ _ H'=>Q o H')
def SO(X:Cx)(E:XD)(o:Option Expr)(m:aI->M (Option Int)):Prop:=PO X o (MK X.K E m)
theorem PO.imp{X:Cx}{e:Option Expr}{t t':TO}(h:PO X e t)(k:∀ σ H Q,t' σ H Q->t σ H Q):PO X e t':=λpins s σ H Q I hw=>h pins s σ H Q I (k σ H Q hw)
theorem nq:SO X E none (λ_=>aC none):=by refine PO.imp E5 λσ H Q h=>?_;obtain⟨ι,S,ρ,rep,re,c⟩:=h;exact aq c .refl rep
theorem nu(h:SE X E e m):SO X E (ar e) (λρ=>do let x<-m ρ;let i<-Mw x;aC (ar i)):=by
 refine PO.imp (E6 h) λσ H Q h=>?_;obtain⟨ι,S,ρ,rep,re,c⟩:=h;refine⟨ι,S,ρ,rep,re,ay (aj c) λx Y S1 W e1 rep1 Z v r=>?_⟩;cases x with
 |int i=>exact⟨i,r.int_inv,aq (aq (aj Z) .refl rep1) .refl rep1⟩
 |_=>exact(ag (aj Z)).elim
def cutD(xs:List D)(lo hi:Option Int):List D:=(xs.drop (HT.sIx xs.length 0 lo)).take (HT.sIx xs.length xs.length hi - HT.sIx xs.length 0 lo)
theorem qf{K:dV}{ι:List c_}{H:Hp}{ds:List D}{vs:List V}(Y Z:Option Int)(h:RelDs K ι H ds vs):RelDs K ι H (cutD ds Y Z) (sx vs Y Z):=by unfold cutD sx;rw[h.length];exact(h.drop _).take _
def ux:D->Option Int->Option Int->M D
 | .tup xs,lo,hi=>bH (cutD xs lo hi)
 | .lst k,lo,hi=>do let xs<-getL k;bj (cutD xs lo hi)
 | .fz xs,lo,hi=>bj (cutD xs lo hi)
 |_,_,_=>M.fail
theorem Fk:GE X (λx lo T H Q=>∃a xs,x= .ref a/\lQ X.K H a xs/\(HT.sIx xs.length 0 lo=0/\HT.sIx xs.length xs.length T=xs.length)/\Q (.ref a) H):=by
 intro pins s σ H x v J G lo T S Q I N hs P pu h;obtain⟨a,xs,rfl,O,hw,q⟩:=h;cases N;obtain⟨its,r,Z,L⟩:=I.tuple O;have hlen:its.toArray.size=xs.length:=by rw[M8];exact r.length.symm
 refine⟨"tuple",_,PyProof.Rows.slot_tuple_getitem.lookup,Z.typeIs,?_⟩;have fin:EP X pins σ Q (.ref a) s:=⟨.ref a,H,I,rfl,q⟩;obtain⟨os,U,W,R⟩:=id hs;have Y:s.TypeIs (.ref S) "slice":=⟨os,U,W⟩;unfold Rz
 try with_reducible refine NV ?_
 first|refine MR (MW ?_)|skip
 refine MR (wpAny_sequenceKey Z.typeIs (by decide) ?_);refine MR (wpAny_callSpecial?_slot (name:=h_ "__getitem__") Z.typeIs Oh
  (NX Oh Z.typeIs entry_tuple_getitem ?_ (args_tuple_getitem _ _)))
 show ee _ _ (Builtin.Tuple.tupleItemsOf (.ref a)>>=_) _ _ s;refine MR (tupleItemsOf_ Z (MR (PX Y ?_)));rw[if_pos (by decide)];refine MR (HT.sliceApplied_gen hs P pu ?_);rw[hlen,hw.1,hw.2];show ee _ _ (if ((((0:Nat):Int))==0 && (1:Int)==1 && (xs.length - 0)==xs.length)=b_ then _ else _) _ _ s;rw[if_pos (by simp)];unfold Builtin.Tuple.tupleIsExact;refine MR (MR (PX Z.typeIs (MW ?_)));rw[if_pos (by decide)];first
  |exact MR (QH (MW ⟨_,rfl,MW fin⟩))
  |exact MR (QH (MR (MW (MW ⟨_,rfl,MW fin⟩))))
theorem xS{xs:List V}{Z Y:Option Int}(h:HT.sIx xs.length 0 Z=0/\HT.sIx xs.length xs.length Y=xs.length):sx xs Z Y=xs:=by unfold sx;rw[h.1,h.2,Rc,Nat.sub_zero,List.take_length]
theorem kN{L O:Option Expr}{ml N:aI->M (Option Int)}(A:SE X E e m)(B:SO X E L ml)(F:SO X E O N):
  SE X E (.Subscript e (.Slice L O none p2) pos) (λρ=>do let x<-m ρ;let i<-ml ρ;let j<-N ρ;ux x i j):=by
 refine PE.imp (Cs (HE.or (Fk.or E9)) A B F) λσ H Q h=>?_;obtain⟨ι,S,ρ,rep,re,c⟩:=h;refine⟨ι,S,ρ,rep,re,ay (aj c) λx U S1 u e1 rep1 I v r=>?_⟩;refine⟨U,S1,ρ,rep1,re.later rep e1,ay (aj I) λi R S2 y e2 rep2 K=>?_⟩;refine⟨R,S2,ρ,rep2,(re.later rep e1).later rep1 e2,ay (aj K) λj C w t J rep3 Y=>?_⟩;have W:=(r.later rep1 e2).later rep2 J;cases x with
 | tup ds=>
  obtain⟨p,vs,rfl,Z,P⟩:=W.tup_inv;by_cases hw:HT.sIx vs.length 0 i=0/\HT.sIx vs.length vs.length j=vs.length
  ·refine .inr (.inl ⟨p,vs,rfl,.of Z,hw,jQ Y rep3 Z ?_⟩);have:=qf i j P;rw[xS hw]at this;exact this
  ·exact .inl ⟨p,vs,rfl,.of Z,hw,(iN Y rep3 (qf i j P)).2⟩
 |lst k=>
  obtain⟨p,rfl,Z⟩:=W.lst_inv;obtain⟨ds,vs,_,G,T,z⟩:=bx Y rep3 Z;exact .inr (.inr ⟨p,vs,rfl,.of G,(bt z rep3 (qf i j T)).2⟩)
 |fz ds=>
  obtain⟨p,o,vs,rfl,Z,T⟩:=W.fz_inv;exact .inr (.inr ⟨p,vs,rfl,.inl (.inr ⟨o,Z⟩),(bt Y rep3 (qf i j T)).2⟩)
 |_=>exact(ag Y).elim
end
section
variable {X:Cx}{E:XD}{a b e c o:Expr}{m n l:TM}{pos p2:Pos}{es:List Expr}{ms:aI->M (List D)}
def gn:List D->M D
 |[.lst k]=>do let xs<-getL k;aC (.int xs.length)
 |[.tup ds]=>aC (.int ds.length)
 |[.ro ds]=>aC (.int ds.length)
 |[.fz ds]=>aC (.int ds.length)
 |_=>M.fail
theorem A4:lW X.K E gn (λxs H Q=>∃p ys,xs=[.ref p]/\(lA X.K H p ys\/lQ X.K H p ys)/\Q (.int ys.length) H):=by
 intro ι S H ds vs Q rep r c
 match ds,r,c with
 |[.lst k],r,c=>
  obtain⟨v,ws,rfl,Z,W⟩:=r.cons_inv;cases W.nil_inv;obtain⟨p,rfl,U⟩:=Z.lst_inv;obtain⟨es,us,_,R,Y,T⟩:=bx c rep U;refine⟨p,us,rfl,.inl (.of R),?_⟩;have:=aq T .refl rep _ (.int _);rw[Y.length]at this;exact this
 |[.tup es],r,c=>
  obtain⟨v,ws,rfl,Z,W⟩:=r.cons_inv;cases W.nil_inv;obtain⟨p,us,rfl,U,Y⟩:=Z.tup_inv;refine⟨p,us,rfl,.inr (.of U),?_⟩;have:=aq c .refl rep _ (.int _);rw[Y.length]at this;exact this
 |[.ro es],r,c=>
  obtain⟨v,ws,rfl,Z,W⟩:=r.cons_inv;cases W.nil_inv;obtain⟨p,us,rfl,U,Y⟩:=Z.ro_inv;refine⟨p,us,rfl,.inl U.sq,?_⟩;have:=aq c .refl rep _ (.int _);rw[Y.length]at this;exact this
 |[.fz es],r,c=>
  obtain⟨v,ws,rfl,Z,W⟩:=r.cons_inv;cases W.nil_inv;obtain⟨p,o,us,rfl,U,Y⟩:=Z.fz_inv;refine⟨p,us,rfl,.inl (.inl (.inr ⟨o,U⟩)),?_⟩;have:=aq c .refl rep _ (.int _);rw[Y.length]at this;exact this
 |[],r,c=>exact(ag c).elim
 |[.non],r,c=>exact(ag c).elim
 |[.bl _],r,c=>exact(ag c).elim
 |[.int _],r,c=>exact(ag c).elim
 |[.str _],r,c=>exact(ag c).elim
 |[.emp],r,c=>exact(ag c).elim
 |d::d2::r',r,c=>cases d<;>exact(ag c).elim
theorem ib(W:X.mg "len"=none)(Y:SE X E e m)(Z:Gl X "len":=by rfl)(hs:d_ [e] X.env=[(dt,hJ e X.env)]:=by rfl):SE X E (.Call (.Name "len" p) [e] [] pos) (λρ=>do let ds<-(do let x<-m ρ;let xs<-aC [];aC (x::xs));gn ds):=
 jF uc A4 Z W PySem.boot_len (af Y ai hs) (by decide) (by decide) hs rfl
def y0(f:Int->Int->Int):List D->M D
 |[.int i,.int j]=>aC (.int (f i j))
 |_=>M.fail
theorem qN{f:Int->Int->Int}:lW X.K E (y0 f) (λxs H Q=>∃i j,xs=[.int i,.int j]/\Q (.int (f i j)) H):=by
 intro ι S H ds vs Q rep r c;unfold y0 at c;split at c
 ·next i j=>
  obtain⟨v,ws,rfl,Z,W⟩:=r.cons_inv;obtain⟨R,Y,rfl,T,U⟩:=W.cons_inv;cases U.nil_inv;rw[Z.int_inv,T.int_inv];exact⟨i,j,rfl,aq c .refl rep _ (.int _)⟩
 ·exact(ag c).elim
def maxD:List D->M D:=y0 λi j=>if j>i then j else i
def minD:List D->M D:=y0 λi j=>if j<i then j else i
theorem oV(W:X.calm=b_)(T:X.mg "max"=none)(U:SA X E [a,b] ms)(Y:Gl X "max":=by rfl)(hs:d_ [a,b] X.env=[(dt,hJ a X.env),(dt,hJ b X.env)]:=by rfl)(Z:d_ [b] X.env=[(dt,hJ b X.env)]:=by rfl):
  SE X E (.Call (.Name "max" p) [a,b] [] pos) (λρ=>do let ds<-ms ρ;maxD ds):=
 jF (AN W) qN Y T (by decide+kernel) U (by decide) (by decide) (by rw[hs,Z]) (by rw[Z];rfl)
theorem qO(W:X.calm=b_)(T:X.mg "min"=none)(U:SA X E [a,b] ms)(Y:Gl X "min":=by rfl)(hs:d_ [a,b] X.env=[(dt,hJ a X.env),(dt,hJ b X.env)]:=by rfl)(Z:d_ [b] X.env=[(dt,hJ b X.env)]:=by rfl):
  SE X E (.Call (.Name "min" p) [a,b] [] pos) (λρ=>do let ds<-ms ρ;minD ds):=
 jF (AO W) qN Y T (by decide+kernel) U (by decide) (by decide) (by rw[hs,Z]) (by rw[Z];rfl)
def nv:List D->M D
 |[.lst k]=>do let xs<-getL k;bj xs
 |[.tup ds]=>bj ds
 |[.ro ds]=>bj ds
 |[.fz ds]=>bj ds
 |_=>M.fail
def cK:List D->M D
 |[.lst k]=>do let xs<-getL k;bH xs
 |[.tup ds]=>bH ds
 |[.fz ds]=>bH ds
 |_=>M.fail
theorem xT:lW X.K E nv (λxs H Q=>∃p ys,xs=[.ref p]/\(lA X.K H p ys\/lQ X.K H p ys)/\∀l,H l=none->Q (.ref l) (upd H l (.lst ys))):=by
 intro ι S H ds vs Q rep r c;unfold nv at c;split at c
 ·next k=>
  obtain⟨v,ws,rfl,Z,W⟩:=r.cons_inv;cases W.nil_inv;obtain⟨p,rfl,U⟩:=Z.lst_inv;obtain⟨es,us,_,R,Y,T⟩:=bx c rep U;exact⟨p,us,rfl,.inl (.of R),(bt T rep Y).2⟩
 ·next es=>
  obtain⟨v,ws,rfl,Z,W⟩:=r.cons_inv;cases W.nil_inv;obtain⟨p,us,rfl,U,Y⟩:=Z.tup_inv;exact⟨p,us,rfl,.inr (.of U),(bt c rep Y).2⟩
 ·next es=>
  obtain⟨v,ws,rfl,Z,W⟩:=r.cons_inv;cases W.nil_inv;obtain⟨p,us,rfl,U,Y⟩:=Z.ro_inv;exact⟨p,us,rfl,.inl U.sq,(bt c rep Y).2⟩
 ·next es=>
  obtain⟨v,ws,rfl,Z,W⟩:=r.cons_inv;cases W.nil_inv;obtain⟨p,o,us,rfl,U,Y⟩:=Z.fz_inv;exact⟨p,us,rfl,.inl (.inl (.inr ⟨o,U⟩)),(bt c rep Y).2⟩
 ·exact(ag c).elim
theorem v7:lW X.K E cK (λxs H Q=>∃p ys,xs=[.ref p]/\((lA X.K H p ys/\∀l,H l=none->Q (.ref l) (upd H l (.tup ys)))\/(lQ X.K H p ys/\Q (.ref p) H))):=by
 intro ι S H ds vs Q rep r c;unfold cK at c;split at c
 ·next k=>
  obtain⟨v,ws,rfl,Y,U⟩:=r.cons_inv;cases U.nil_inv;obtain⟨p,rfl,Z⟩:=Y.lst_inv;obtain⟨es,us,_,R,W,T⟩:=bx c rep Z;exact⟨p,us,rfl,.inl ⟨.of R,(iN T rep W).2⟩⟩
 ·next es=>
  obtain⟨v,ws,rfl,Y,U⟩:=r.cons_inv;cases U.nil_inv;obtain⟨p,us,rfl,Z,W⟩:=Y.tup_inv;exact⟨p,us,rfl,.inr ⟨.of Z,jQ c rep Z W⟩⟩
 ·next es=>
  obtain⟨v,ws,rfl,Y,U⟩:=r.cons_inv;cases U.nil_inv;obtain⟨p,o,us,rfl,Z,W⟩:=Y.fz_inv;exact⟨p,us,rfl,.inl ⟨.inl (.inr ⟨o,Z⟩),(iN c rep W).2⟩⟩
 ·exact(ag c).elim
theorem y9(W:X.mg "list"=none)(Y:SE X E e m)(Z:Gl X "list":=by rfl)(hs:d_ [e] X.env=[(dt,hJ e X.env)]:=by rfl):SE X E (.Call (.Name "list" p) [e] [] pos) (λρ=>do let ds<-(do let x<-m ρ;let xs<-aC [];aC (x::xs));nv ds):=
 tm ud xT Z W (by decide+kernel) (af Y ai hs) (by decide) (by decide) hs rfl
theorem fV(W:X.mg "tuple"=none)(Y:SE X E e m)(Z:Gl X "tuple":=by rfl)(hs:d_ [e] X.env=[(dt,hJ e X.env)]:=by rfl):SE X E (.Call (.Name "tuple" p) [e] [] pos) (λρ=>do let ds<-(do let x<-m ρ;let xs<-aC [];aC (x::xs));cK ds):=
 tm sA v7 Z W (by decide+kernel) (af Y ai hs) (by decide) (by decide) hs rfl
def Fl(H:Hp):V->Option String
 | .non=>ar "NoneType"
 | .bl _=>ar "bool"
 | .int _=>ar "int"
 | .str _=>ar "str"
 | .ref a=>match H a with
  |some (.lst _)=>ar "list"
  |some (.frz _ (.lst _))=>ar "list"
  |some (.tup _)=>ar "tuple"
  |some (.dK _)=>ar "dict"
  |_=>none
 |_=>none
theorem CS{K:dV}{H:Hp}{v:V}{T:String}(h:Fl H v=ar T):TyOf K H v (.type T):=by
 cases v with
 |non=>cases h;exact .non
 |bl b=>cases h;exact .bl b
 |int i=>cases h;exact .int i
 |str x=>cases h;exact .str x
 |ref a=>
  simp only[Fl]at h;split at h
  ·next q=>cases h;exact .lst q
  ·next q=>cases h;exact .frz q
  ·next q=>cases h;exact .tup q
  ·next q=>cases h;exact .dK q
  ·cases h
 |_=>cases h
def CT:D->String
 | .non=>"NoneType"
 | .bl _=>"bool"
 | .int _=>"int"
 | .str _=>"str"
 | .tup _=>"tuple"
 | .lst _=>"list"
 | .ro _=>"list"
 | .fz _=>"list"
 | .emp=>"dict"
 | .fn _ _ _ _ _=>"NoneType"
 | .exc _ _=>"NoneType"
def HV:D->Bool
 | .ro _=>dt
 | .fn _ _ _ _ _=>dt
 | .exc _ _=>dt
 |_=>b_
theorem CU{K:dV}{ι:List c_}{S:av}{H:Hp}{d:D}{v:V}(Y:Rep K ι H S)(r:RelD K ι H d v)(Z:HV d=b_):Fl H v=ar (CT d):=by
 cases r with
 |non=>rfl
 |bl=>rfl
 |int=>rfl
 |str=>rfl
 |tup h _=>simp[Fl,h,CT]
 |lst h=>
  obtain⟨vs,e⟩:=Y.isL (Nz h);simp[Fl,e,CT]
 |ro h _=>cases Z
 |fz h _=>simp[Fl,h,CT]
 |emp h=>simp[Fl,h,CT]
 |fn=>cases Z
 |exc=>cases Z
 |excF=>cases Z
def CV(f:String->Bool):D->M D
 | .ro _=>M.fail
 | .fn _ _ _ _ _=>M.fail
 | .exc _ _=>M.fail
 |d=>aC (.bl (f (CT d)))
theorem v8{K:dV}{E:XD}{ι:List c_}{S:av}{H:Hp}{f:String->Bool}{d:D}{Q:D->List c_->av->Hp->Prop}(c:cont K E (CV f d) ι S H Q):HV d=b_/\cont K E (aC (.bl (f (CT d)))) ι S H Q:=by
 cases d with
 |ro ds=>exact(ag c).elim
 |fn a c' q ds vs=>exact(ag c).elim
 |exc x ds=>exact(ag c).elim
 |_=>exact⟨rfl,c⟩
def i3(t T:String):Bool:=t==T||(t=="bool" && T=="int")
theorem uy(K:dV)(t:String)(Y:t∈["NoneType","bool","int","str","tuple","list","dict"])(T:String)(Z:T∈["bool","int","str","tuple","list"]):ra K (.type t) (.type T)=ar (i3 t T):=by simp only[f_,eK,or_false]at Y Z;rcases Y with rfl|rfl|rfl|rfl|rfl|rfl|rfl<;>rcases Z with rfl|rfl|rfl|rfl|rfl<;>rfl
theorem zb(d:D):CT d∈["NoneType","bool","int","str","tuple","list","dict"]:=by cases d<;>simp[CT]
theorem CY:dN X (.builtin "isinstance") (λxs H Q=>∃x t T,xs=[x,.ty T]/\Fl H x=ar t/\t∈["NoneType","bool","int","str","tuple","list","dict"]/\T∈["bool","int","str","tuple","list"]/\Q (.bl (i3 t T)) H):=by intro pins s σ H xs us Q I r h;obtain⟨x,t,T,rfl,S,W,Y,q⟩:=h;obtain⟨u,P,rfl,R,Z⟩:=vals2 r;cases (show P=v_ T from Z);exact AS I R (CS S) (uy X.K t W T Y) λU=>⟨.bl _,H,I.tok U,rfl,q⟩
theorem iP{p q:Pos}{T:Str}{Ts:String}(N:X.mg "isinstance"=none)(P:X.mg T=none)(K:SE X E e m)(I:k_ T=ar (.type Ts):=by decide+kernel)(R:Ts∈["bool","int","str","tuple","list"]:=by decide)(O:Gl X "isinstance":=by rfl)(Y:Gl X T:=by rfl)
  (J:T≠"__name__":=by decide) (U:(T==("__debug__":Str))=false:=by decide)
  (hs:d_ [e,.Name T q] X.env=[(dt,hJ e X.env),(dt,hJ (.Name T q) X.env)]:=by rfl) (Z:d_ [.Name T q] X.env=[(dt,hJ (.Name T q) X.env)]:=by rfl):
  SE X E (.Call (.Name "isinstance" p) [e,.Name T q] [] pos) (λρ=>do let x<-m ρ;CV (λt=>i3 t Ts) x):=by
 refine PE.imp (kA CY O N (by decide+kernel) (fC K (fC (qb Y P I (v:=.ty Ts) rfl J U) kz Z) (by rw[hs,Z])) (by decide) (by decide) (by rw[hs,Z]) (by rw[Z];rfl)) λσ H Q h=>?_;obtain⟨ι,S,ρ,rep,re,c⟩:=h;refine⟨ι,S,ρ,rep,re,ay (aj c) λx L S1 G e1 rep1 W v r=>?_⟩;obtain⟨U,W⟩:=v8 W;exact⟨v,CT x,Ts,rfl,CU rep1 r U,zb x,R,aq W .refl rep1 _ (.bl _)⟩
theorem A5:dN X (.builtin "isinstance") (λxs H Q=>∃x t p T U,xs=[x,.ref p]/\H p=ar (.tup [.ty T,.ty U])/\Fl H x=ar t/\t∈["NoneType","bool","int","str","tuple","list","dict"]/\T∈["bool","int","str","tuple","list"]/\U∈["bool","int","str","tuple","list"]/\
  Q (.bl (i3 t T||i3 t U)) H):=by
 intro pins s σ H xs us Q I r h;obtain⟨x,t,p,T,U,rfl,J,Z,R,L,F,q⟩:=h;obtain⟨u,G,rfl,S,O⟩:=vals2 r;cases (show G=eo p from O);obtain⟨_,its,v,⟨cls,dd,data,j⟩,Y,N,n,hd⟩:=(show bG X.prog X.w H s.heap p (.tup [.ty T,.ty U])from I.hok p _ J);simp only at N hd;subst N hd;obtain⟨k,C,rfl,B,A⟩:=vals2 v;cases (show k=v_ T from B);cases (show C=v_ U from A);have e:R0 X.K (.type t) [.type T,.type U]=ar (i3 t T||i3 t U):=by unfold R0 R0 R0;rw[uy X.K t R T L,uy X.K t R U F];cases i3 t T<;>cases i3 t U<;>rfl
 have fin:∀P,EP X pins σ Q (.bool (i3 t T||i3 t U)) {s with toks:=P}:=λP=>⟨.bl _,H,I.tok P,rfl,q⟩;have ty:=CS (K:=X.K) Z;generalize hT:v_ t=tv at ty e;cases ty with
 |non=>cases (show u=hO from S);exact Oa QC I.kIn pa Y e (λz=>nomatch z) fin
 |bl y=>cases (show u=u0 y from S);exact Oa W.kitx_bool I.kIn pa Y e (λz=>nomatch z) fin
 |int i=>obtain⟨t,q⟩:=(show ∃t,u=oi i t from S);cases q;exact Oa W.kitx_int I.kIn pa Y e (λz=>nomatch z) fin
 |str y=>obtain⟨t,q⟩:=(show ∃t,u=I_ y t from S);cases q;exact Oa W.kitx_str I.kIn pa Y e (λz=>nomatch z) fin
 |flt y=>obtain⟨t,q⟩:=(show ∃t,u=P_ y t from S);cases q;exact Oa W.kitx_float I.kIn pa Y e (λz=>nomatch z) fin
 | @lst a xs ea=>
  cases (show u=eo a from S);obtain⟨_,_,n,_,Z⟩:=(show bG X.prog X.w H s.heap a (.lst xs)from I.hok a _ ea);exact Oa PL I.kIn ⟨_,Z,rfl⟩ Y e (λz=>nomatch z) fin
 | @frz a ob xs ea=>
  cases (show u=eo a from S);obtain⟨_,_,_,n,_,Z⟩:=(show bG X.prog X.w H s.heap a (.frz ob (.lst xs))from I.hok a _ ea);exact Oa PL I.kIn ⟨_,Z,rfl⟩ Y e (λz=>nomatch z) fin
 | @tup a xs ea=>
  cases (show u=eo a from S);obtain⟨_,_,_,o,Z,R,_⟩:=(show bG X.prog X.w H s.heap a (.tup xs)from I.hok a _ ea);exact Oa W.kitx_tuple I.kIn ⟨o,Z,R⟩ Y e (λz=>nomatch z) fin
 | @dK a kvs ea=>
  cases (show u=eo a from S);obtain⟨_,_,vs,_,o,es,ep,Z,R,_⟩:=(show bG X.prog X.w H s.heap a (.dK kvs)from I.hok a _ ea);exact Oa PM I.kIn ⟨o,Z,R.1⟩ Y e (λz=>nomatch z) fin
 | @dT a kvs ea=>
  cases (show u=eo a from S);obtain⟨_,_,xs,_,o,es,ep,Z,R,_⟩:=(show bG X.prog X.w H s.heap a (.dT kvs)from I.hok a _ ea);exact Oa PM I.kIn ⟨o,Z,R.1⟩ Y e (λz=>nomatch z) fin
 |ins=>cases hT
theorem Fm{p q Y R:Pos}{x1}{T U:Str}{Ts Us:String}(s:X.mg "isinstance"=none)(C:X.mg T=none)(I:X.mg U=none)(k:SE X E e m)(w:k_ T=ar (.type Ts):=by decide+kernel)(B:k_ U=ar (.type Us):=by decide+kernel)
  (L:Ts∈["bool","int","str","tuple","list"]:=by decide) (O:Us∈["bool","int","str","tuple","list"]:=by decide) (u:Gl X "isinstance":=by rfl) (J:Gl X T:=by rfl) (P:Gl X U:=by rfl)
  (y:T≠"__name__":=by decide) (F:(T==("__debug__":Str))=false:=by decide) (K:U≠"__name__":=by decide) (G:(U==("__debug__":Str))=false:=by decide)
  (hs:d_ [e,.Tuple [.Name T q,.Name U Y] x1 R] X.env=[(dt,hJ e X.env),(dt,hJ (.Tuple [.Name T q,.Name U Y] x1 R) X.env)]:=by rfl) (Z:d_ [.Tuple [.Name T q,.Name U Y] x1 R] X.env=[(dt,hJ (.Tuple [.Name T q,.Name U Y] x1 R) X.env)]:=by rfl):
  SE X E (.Call (.Name "isinstance" p) [e,.Tuple [.Name T q,.Name U Y] x1 R] [] pos) (λρ=>do let x<-m ρ;CV (λt=>i3 t Ts||i3 t Us) x):=by
 refine PE.imp (kA A5 u s (by decide+kernel) (fC k (fC (Co (fC (qb J C w (v:=.ty Ts) rfl y F) (fC (qb P I B (v:=.ty Us) rfl K G) kz rfl) rfl)) kz Z) (by rw[hs,Z])) (by decide) (by decide) (by rw[hs,Z]) (by rw[Z];rfl)) λσ H Q h=>?_;obtain⟨ι,S,ρ,rep,re,c⟩:=h;refine⟨ι,S,ρ,rep,re,ay (aj c) λx W S1 z e1 rep1 N v r=>?_⟩;obtain⟨F,N⟩:=v8 N;refine⟨by show 2<=sizeLine;decide,λp A=>?_⟩;have rep2:=i5 (o:=.tup [.ty Ts,.ty Us]) rep1 A;have e2:Ext W z W (upd z p (.tup [.ty Ts,.ty Us])):=gK A;exact⟨v,CT x,p,Ts,Us,rfl,bo,CU rep2 (r.later rep1 e2) F,zb x,L,O,aq N e2 rep2 _ (.bl _)⟩
end
section
variable {X:Cx}{E:XD}{a b e c o tg:Expr}{m n l:TM}{pos p2:Pos}{es:List Expr}{ms:aI->M (List D)}
theorem range_all{bs:List Bool}:(dr bs.length).all (λi=>bs.getD i dt)=bs.all id:=by
 induction bs with
 |nil=>rfl
 |cons b bs ih=>
  rw[N4,List.range_succ_eq_map,Rq,PZ];simp only[List.getD_cons_zero,Rq,id];congr 1
theorem A6(G:X.calm=b_):dN X (.builtin "all") (λxs H Q=>∃(p:c_) (bs:List Bool),xs=[.ref p]/\lA X.K H p (bs.map V.bl)/\Q (.bl (bs.all id)) H):=by
 intro pins s σ H xs us Q I r h;obtain⟨p,bs,rfl,P,q⟩:=h;obtain⟨u,rfl,L⟩:=vals1 r;cases (show u=eo p from L);obtain⟨its,R,N,B⟩:=I.list P;have T:=N.isList;refine call_all_walk (QB T ?_);have U:p<s.heap.objs.size:=by obtain⟨o,O,_⟩:=T;exact MZ O
 have hlen:=R.length;refine⟨s.heap.objs.size,_,_,_,_,_,λi=>bs.getD i dt,rfl,Walks.list (A:=X.A.in1) (by show X.A.handled=none;exact I.ok.hd G) s.heap.objs.size p (Ng U) its.toArray,⟨⟨_,M6 _ rfl,rfl,rfl⟩,T.push _⟩,?_,λh' x C=>?_⟩
 ·intro i v s' y z J W;have Z:its[i]? =ar v:=by simpa using J
  have w:i<its.length:=(MX.mp Z).1;have Y:i<bs.length:=by rw[MS]at hlen;omega
  have:(bs.map V.bl)[i]? =ar (.bl bs[i]):=by rw[Nn,MY Y];rfl
  obtain⟨u,S,F⟩:=R.get this;rw[Z]at S;cases S;cases (show v=u0 bs[i]from F);have:bs.getD i dt=bs[i]:=by simp[List.getD,Y]
  dsimp only at W;rw[this]at W;exact Og W
 ·have e1:its.toArray.size=bs.length:=by rw[M8, <-hlen,MS]
  rw[e1,range_all];refine⟨.bl _,H,I.kept (λb o e=>C b o ?_ (MU _ e)),rfl,q⟩;have:b≠s.heap.objs.size:=Ng (MZ e);simpa using this
def boolsOf:List D->Option (List Bool)
 |[]=>ar []
 | .bl i::r=>(boolsOf r).map (i::·)
 |_=>none
theorem kO{K:dV}{ι:List c_}{H:Hp}:∀{ds:List D} {vs:List V} {ns:List Bool},RelDs K ι H ds vs->boolsOf ds=ar ns->vs=ns.map V.bl
 |[],vs,ns,h,e=>by cases e;rw[h.nil_inv];rfl
 | .bl i::ds,vs,ns,h,e=>by
  obtain⟨v,ws,rfl,Y,Z⟩:=h.cons_inv;cases q:boolsOf ds with
  |none=>simp[boolsOf,q]at e
  |some ks=>
   simp[boolsOf,q]at e;subst e;rw[Y.bl_inv,kO Z q];rfl
 | .non::_,_,_,_,e=>by cases e
 | .int _::_,_,_,_,e=>by cases e
 | .str _::_,_,_,_,e=>by cases e
 | .tup _::_,_,_,_,e=>by cases e
 | .lst _::_,_,_,_,e=>by cases e
 | .ro _::_,_,_,_,e=>by cases e
 | .fz _::_,_,_,_,e=>by cases e
 | .emp::_,_,_,_,e=>by cases e
def qP:List D->M D
 |[.lst k]=>do
  let xs<-getL k
  match boolsOf xs with
  |some bs=>aC (.bl (bs.all id))
  |none=>M.fail
 |[.fz xs]=>match boolsOf xs with
  |some bs=>aC (.bl (bs.all id))
  |none=>M.fail
 |_=>M.fail
theorem A7:lW X.K E qP (λxs H Q=>∃(p:c_) (bs:List Bool),xs=[.ref p]/\lA X.K H p (bs.map V.bl)/\Q (.bl (bs.all id)) H):=by
 intro ι S H ds vs Q rep r c;unfold qP at c;split at c
 ·next k=>
  obtain⟨v,ws,rfl,Y,U⟩:=r.cons_inv;cases U.nil_inv;obtain⟨p,rfl,T⟩:=Y.lst_inv;obtain⟨es,us,_,R,W,Z⟩:=bx c rep T;cases q:boolsOf es with
  |none=>rw[q]at Z;exact(ag Z).elim
  |some bs=>
   rw[q]at Z;refine⟨p,bs,rfl,.of ?_,aq Z .refl rep _ (.bl _)⟩;rw[<-kO W q];exact R
 ·next es=>
  obtain⟨v,ws,rfl,Y,U⟩:=r.cons_inv;cases U.nil_inv;obtain⟨p,o,us,rfl,T,W⟩:=Y.fz_inv;cases q:boolsOf es with
  |none=>rw[q]at c;exact(ag c).elim
  |some bs=>
   rw[q]at c;refine⟨p,bs,rfl,.inl (.inr ⟨o,?_⟩),aq c .refl rep _ (.bl _)⟩;rw[<-kO W q];exact T
 ·exact(ag c).elim
theorem uz(Y:X.calm=b_)(U:X.mg "all"=none)(W:SE X E e m)(Z:Gl X "all":=by rfl)(hs:d_ [e] X.env=[(dt,hJ e X.env)]:=by rfl):SE X E (.Call (.Name "all" p) [e] [] pos) (λρ=>do let ds<-(do let x<-m ρ;let xs<-aC [];aC (x::xs));qP ds):=
 jF (A6 Y) A7 Z U (by decide+kernel) (af W ai hs) (by decide) (by decide) hs rfl
def cO:D->List D->M D
 | .lst k,[d]=>do let xs<-getL k;lU k (xs++[d])
 |_,_=>M.fail
def ny:D->List D->M D
 | .lst k,[.lst j]=>do let xs<-getL k;let ys<-getL j;lU k (xs++ys)
 | .lst k,[.fz ys]=>do let xs<-getL k;lU k (xs++ys)
 |_,_=>M.fail
def oW:D->List D->M D
 | .lst k,[.int i]=>do
  let xs<-getL k
  if 0<=i/\i<xs.length then
   match xs[i.toNat]? with
   |some y=>do let _<-lU k (xs.eraseIdx i.toNat);aC y
   |none=>M.fail
  else M.fail
 |_,_=>M.fail
theorem v9{K:dV}{H:Hp}{p:c_}{xs:List V}(h:H p=ar (.lst xs)):LY K "list" (.ref p) H:=.inl ⟨rfl,xs,.of h⟩
def HW:D->M Unit
 | .lst _=>aC ()
 |_=>M.fail
theorem uA{name:Str}{O:String}{f:D->List D->M D}{r:V->List V->Hp->VK->Prop}{Y:Pos}(T:Slot "list" name O)(P:typeOf (.builtin O)=aC (.type "method_descriptor"))(y:Lc X O r)
  (w:Kb X.K E f r) (F:SE X E o m) (B:SA X E (e::es) ms)
  (W:lx o name X.env (hJ o X.env)=hJ o X.env:=by rfl)
  (R:((r_ pos (d_ (e::es) X.env)).all (λx=> !x.1) && (backToKw pos (keywordEach [] X.env)).all (λx=>x.1.isSome)
   && decide ((e::es).length+([]:List RP).length+(if ([]:List RP).isEmpty then 0 else 1)<30))=true:=by rfl)
  (U:(Y.endLine==pos.line)=true:=by rfl) (hs:d_ (e::es) X.env=(dt,hJ e X.env)::d_ es X.env:=by rfl) (Z:(r_ pos (d_ es X.env)).any (·.1)=false:=by rfl):
  SE X E (.Call (.Attribute o name Y) (e::es) [] pos) (λρ=>do let x<-m ρ;HW x;let ds<-ms ρ;f x ds):=by
 refine PE.imp (GG QS T P y F B W R U hs Z) λσ H Q h=>?_;obtain⟨ι,S,ρ,rep,re,c⟩:=h;refine⟨ι,S,ρ,rep,re,ay (aj c) λx N S1 s e1 rep1 J v I=>?_⟩;cases x with
 |lst k=>
  obtain⟨p,rfl,u⟩:=I.lst_inv;obtain⟨vs,z⟩:=rep1.isL (Nz u);have C:=aq (aj J) .refl rep1;exact⟨v9 z,N,S1,ρ,rep1,re.later rep e1,ay (aj C) λds L S2 G e2 rep2 t vs A=>w L S2 G (.lst k) ds (.ref p) vs Q rep2 (I.later rep1 e2) A t⟩
 |_=>exact(ag (aj J)).elim
theorem xU:Kb X.K E cO yS:=by
 intro ι S H d ds v vs Q rep r rs c;unfold cO at c;split at c
 ·next k d=>
  obtain⟨p,rfl,Y⟩:=r.lst_inv;obtain⟨w,ws,rfl,W,T⟩:=rs.cons_inv;cases T.nil_inv;obtain⟨es,us,_,O,U,P⟩:=bx c rep Y;obtain⟨Z,R⟩:=jE P rep Y (U.append (.cons W .nil));rw[MT]at Z;exact⟨p,us,w,rfl,rfl,O,Nf (by simp at Z;omega) hU,R _ .non⟩
 ·exact(ag c).elim
def wa:V->List V->Hp->VK->Prop:=λx vs H Q=>∃l b xs zs,x= .ref l/\vs=[.ref b]/\H l=ar (.lst xs)/\Rd H b (.lst zs)/\xs.length+zs.length<=sizeLine/\Q .non (upd H l (.lst (xs++zs)))
theorem xV:Lc X "list.extend" wa:=by
 intro pins s σ H x vs v us Q I P O h;obtain⟨l,b,xs,zs,rfl,rfl,U,S,K,q⟩:=h;cases P;obtain⟨u,rfl,N⟩:=O.one;cases N;obtain⟨z,its,n,r,G,e⟩:=I.lstM U;obtain⟨J,Z,L,T,R,e2⟩:=Inv.lstR I S;have W:its.toArray.size+Z.toArray.size<=sizeLine:=by rw[M8,M8];omega
 have Y:¬ (!its.toArray.isEmpty && p0 (its.toArray.size+Z.toArray.size))=true:=by rw[vS W,OV];exact N6
 refine QF F.slot_list_extend ⟨_,e,rfl⟩ F.entry_list_extend (F.args_list_extend_2 _ _)
  (AutoSeq1.list_extend_list_list_0 l its.toArray n b Z.toArray L Y (by rw[M8];omega) (by omega)) ⟨e,e2,?_⟩
 refine⟨.non,_,I.lset (its':=its++Z) U e (by simp) (r.append T) ?_,rfl,q⟩;rw[MT];omega
theorem xW:Kb X.K E ny wa:=by
 intro ι S H d ds v vs Q rep r rs c;unfold ny at c;split at c
 ·next k j=>
  obtain⟨p,rfl,Y⟩:=r.lst_inv;obtain⟨w,ws,rfl,U,P⟩:=rs.cons_inv;cases P.nil_inv;obtain⟨q,rfl,W⟩:=U.lst_inv;obtain⟨es,us,_,L,R,N⟩:=bx c rep Y;obtain⟨J,ys,_,G,T,I⟩:=bx N rep W;obtain⟨Z,O⟩:=jE I rep Y (R.append T);rw[MT]at Z;exact⟨p,q,us,ys,rfl,rfl,L,.inl G,M7 Z hU,O _ .non⟩
 ·next k J=>
  obtain⟨p,rfl,Y⟩:=r.lst_inv;obtain⟨w,ws,rfl,U,P⟩:=rs.cons_inv;cases P.nil_inv;obtain⟨q,o,ys,rfl,W,T⟩:=U.fz_inv;obtain⟨es,us,_,L,R,N⟩:=bx c rep Y;obtain⟨Z,O⟩:=jE N rep Y (R.append T);rw[MT]at Z;exact⟨p,q,us,ys,rfl,rfl,L,.inr ⟨o,W⟩,M7 Z hU,O _ .non⟩
 ·exact(ag c).elim
theorem A8:Kb X.K E oW Cu:=by
 intro ι S H d ds v vs Q rep r rs c;unfold oW at c;split at c
 ·next k i=>
  obtain⟨p,rfl,W⟩:=r.lst_inv;obtain⟨w,ws,rfl,L,J⟩:=rs.cons_inv;cases J.nil_inv;rw[L.int_inv];obtain⟨es,us,I,G,U,Z⟩:=bx c rep W;split at Z
  ·next hb=>
   cases q:es[i.toNat]? with
   |none=>rw[q]at Z;exact(ag Z).elim
   | some y=>
    rw[q]at Z;obtain⟨N,P,R⟩:=U.get' q;have hlen:=U.length;have F:Ext ι H ι (upd H p (.lst (us.eraseIdx i.toNat))):=uj (Nz W);have Y:=RelDs.eraseIdx i.toNat U;have O:=jE (aj Z) rep W Y;have T:us.length<=lim+1:=by have:=O.1;rw[List.length_eraseIdx]at this;split at this<;>omega
    refine⟨p,us,i,i.toNat,N,rfl,rfl,G,by omega,by unfold lim at T;omega,?_,P,?_⟩
    ·unfold RG;simp only[show ¬ i<0 by omega,if_false];first|(rw[if_pos (by omega)])|(rw[if_pos (by simp;omega)])|(simp;omega)
    ·exact aq O.2 .refl (uk rep W Y) _ (R.later rep F)
  ·exact(ag Z).elim
 ·exact(ag c).elim
theorem gv{Z:Pos}(T:SE X E o m)(U:SE X E e n)
  (W:lx o "append" X.env (hJ o X.env)=hJ o X.env:=by rfl)
  (Y:(Z.endLine==pos.line)=true:=by rfl) (hs:d_ [e] X.env=[(dt,hJ e X.env)]:=by rfl):
  SE X E (.Call (.Attribute o "append" Z) [e] [] pos) (λρ=>do let x<-m ρ;HW x;let ds<-(do let y<-n ρ;let ys<-aC [];aC (y::ys));cO x ds):=
 uA QI QJ oM xU T (af U ai hs) W (by rw[hs];rfl) Y hs rfl
theorem A9{Z:Pos}(T:SE X E o m)(U:SE X E e n)
  (W:lx o "extend" X.env (hJ o X.env)=hJ o X.env:=by rfl)
  (Y:(Z.endLine==pos.line)=true:=by rfl) (hs:d_ [e] X.env=[(dt,hJ e X.env)]:=by rfl):
  SE X E (.Call (.Attribute o "extend" Z) [e] [] pos) (λρ=>do let x<-m ρ;HW x;let ds<-(do let y<-n ρ;let ys<-aC [];aC (y::ys));ny x ds):=
 uA PySem.F.slot_list_extend PySem.F.type_list_extend xV xW T (af U ai hs) W (by rw[hs];rfl) Y hs rfl
theorem CZ{Z:Pos}(T:SE X E o m)(U:SE X E e n)
  (W:lx o "pop" X.env (hJ o X.env)=hJ o X.env:=by rfl)
  (Y:(Z.endLine==pos.line)=true:=by rfl) (hs:d_ [e] X.env=[(dt,hJ e X.env)]:=by rfl):
  SE X E (.Call (.Attribute o "pop" Z) [e] [] pos) (λρ=>do let x<-m ρ;HW x;let ds<-(do let y<-n ρ;let ys<-aC [];aC (y::ys));oW x ds):=
 uA PySem.F.slot_list_pop PySem.F.type_list_pop Cv A8 T (af U ai hs) W (by rw[hs];rfl) Y hs rfl
theorem Ba:L5 X.K E kG GF:=by
 intro ι S H d1 I N v1 v2 L Q rep T R U c;unfold kG at c;split at c
 ·next k j=>
  obtain⟨p,rfl,W⟩:=T.lst_inv;obtain⟨es,us,_,O,Y,Z⟩:=bx c rep W;cases q:B1 es.length j with
  |none=>rw[q]at Z;exact(ag Z).elim
  |some at'=>
   rw[q]at Z;obtain⟨J,P⟩:=jE (aj Z) rep W (RelDs.set U at' Y);refine⟨p,us,j,at',rfl,R.int_inv,O,by rw[<-Y.length];exact q,?_⟩;exact aq P .refl (uk rep W (RelDs.set U at' Y))
 ·exact(ag c).elim
theorem zd(T:SE X E o m)(J:SE X E i n)(O:∀v,QL (.Subscript o i pos) X.env v=(do
   let ov<-B_ [v] (hJ o X.env);let iv<-B_ [v,ov] (hJ i X.env)
   So pos
   B_ [v,ov,iv] (SV ov iv v)
   release [v,ov,iv] []):=by intro _;rfl):SG X E (.Subscript o i pos) (λd ρ=>do let x<-m ρ;let y<-n ρ;kG x y d;aC ρ):=by
 refine PG.imp (Hn T J set_list O) λv σ H Q h=>?_;obtain⟨ι,S,ρ,d,rep,re,r,c⟩:=h;refine⟨ι,S,ρ,rep,re,ay (aj c) λx Z S1 C e1 rep1 L v1 K=>?_⟩;refine⟨Z,S1,ρ,rep1,re.later rep e1,ay (aj L) λy Y S2 U e2 rep2 R v2 N=>?_⟩;have W:=(re.later rep e1).later rep1 e2;refine Ba (E:=E) Y S2 U x y d v1 v2 v _ rep2 (K.later rep1 e2) N ((r.later rep e1).later rep1 e2) (ay (aj R) λ_ I F B P rep3 G=>?_);exact aq G .refl rep3 σ (W.later rep2 P)
def bq(lo:Int)(n:Nat):List D:=(dr n).map λi=>.int (lo+(i:Nat))
def mD:List D->M Iter
 |[.int j]=>if -(2 ^ 62)<=j/\j<2 ^ 62 then aC ⟨bq 0 j.toNat,.none⟩else M.fail
 |_=>M.fail
def lG:List D->M Iter
 |[.int i,.int j]=>if -(2 ^ 62)<=i/\i<2 ^ 62/\ -(2 ^ 62)<=j/\j<2 ^ 62 then aC ⟨bq i (j - i).toNat,.none⟩else M.fail
 |_=>M.fail
theorem nz{K:dV}{Y:Int}{n:Nat}{ι:List c_}{H:Hp}:kH K ⟨bq Y n,.none⟩ (JQ Y n) ι H:=by
 intro T R S2 e rep ok i;refine⟨λd hd=>?_,λh=>?_⟩
 ·have Z:((dr n)[i]?).map (λi:Nat=>D.int (Y+(i:Nat)))=ar d:=by
   have:(bq Y n)[i]? =ar d:=hd;unfold bq at this;rw[Nn]at this;exact this
  have U:i<n:=by
   by_cases h:i<n
   ·exact h
   ·rw[N1 (by simp;omega)]at Z;cases Z
  rw[Oi U]at Z;cases Z;exact⟨U,λx Q S=>by obtain⟨rfl,rfl⟩:=S;exact⟨.refl,rep,.int _⟩⟩
 ·have h':(bq Y n).length<=i:=h;unfold bq at h';rw[MS,M0]at h';exact h'
theorem bW(W:X.mg "range"=none)(Q:SE X E a m)(Y:Gl X "range":=by rfl)(hs:d_ [a] X.env=[(dt,hJ a X.env)]:=by rfl):
  SI X E tg (.Call (.Name "range" p) [a] [] pos) (λρ=>do let ds<-(do let x<-m ρ;let xs<-aC [];aC (x::xs));mD ds):=by
 intro pins s σ H R I h;refine AJ Y W (af Q ai hs) hs pins s σ H R I ?_;obtain⟨ι,S,ρ,rep,re,c⟩:=h;refine⟨ι,S,ρ,rep,re,ay (aj c) λds T S1 O e1 rep1 Z vs r=>?_⟩;unfold mD at Z;split at Z
 ·next j=>
  obtain⟨w,ws,rfl,U,P⟩:=r.cons_inv;cases P.nil_inv;split at Z
  ·next hb=>rw[U.int_inv];exact⟨j,rfl,hb.1,hb.2,aq Z .refl rep1 _ nz⟩
  ·exact(ag Z).elim
 ·exact(ag Z).elim
theorem tu(T:X.mg "range"=none)(O:SE X E a m)(W:SE X E b n)(U:Gl X "range":=by rfl)(hs:d_ [a,b] X.env=[(dt,hJ a X.env),(dt,hJ b X.env)]:=by rfl)(Z:d_ [b] X.env=[(dt,hJ b X.env)]:=by rfl):
  SI X E tg (.Call (.Name "range" p) [a,b] [] pos) (λρ=>do let ds<-(do let x<-m ρ;let xs<-(do let y<-n ρ;let ys<-aC [];aC (y::ys));aC (x::xs));lG ds):=by
 intro pins s σ H R I h;refine AK U T (af O (af W ai Z) (by rw[hs,Z])) hs Z pins s σ H R I ?_;obtain⟨ι,S,ρ,rep,re,c⟩:=h;refine⟨ι,S,ρ,rep,re,ay (aj c) λds P S1 F e1 rep1 Y vs r=>?_⟩;unfold lG at Y;split at Y
 ·next i j=>
  obtain⟨w,ws,rfl,Q,K⟩:=r.cons_inv;obtain⟨G,L,rfl,N,J⟩:=K.cons_inv;cases J.nil_inv;split at Y
  ·next W=>rw[Q.int_inv,N.int_inv];exact⟨i,j,rfl,W,aq Y .refl rep1 _ nz⟩
  ·exact(ag Y).elim
 ·exact(ag Y).elim
def Kf:D->M Iter
 | .lst k=>do let xs<-getL k;aC ⟨xs,.some k⟩
 | .tup ds=>aC ⟨ds,.none⟩
 | .ro ds=>aC ⟨ds,.none⟩
 | .fz ds=>aC ⟨ds,.none⟩
 |_=>M.fail
theorem wb{K:dV}{k:Nat}{a:c_}{xs:List D}{ι:List c_}{H:Hp}(S:ι[k]? =ar a):kH K ⟨xs,.some k⟩ (JP K a) ι H:=by intro Q P S2 e rep ok i;obtain⟨vs,Y,U⟩:=rep.get k a xs (e.at S) ok;refine⟨λd hd=>?_,λh=>⟨vs,.of Y,by rw[<-U.length];exact h⟩⟩;obtain⟨v,T,R⟩:=U.get' hd;refine⟨⟨vs,v,.of Y,T⟩,λx O Z=>?_⟩;obtain⟨rfl,Z⟩:=Z;have:=Z vs (.of Y);rw[T]at this;cases this;exact⟨.refl,rep,R⟩
theorem xX{K:dV}{a:c_}{ds:List D}{vs:List V}{ι:List c_}{S:av}{H:Hp}(Y:Rep K ι H S)(T:H a=ar (.tup vs))(r:RelDs K ι H ds vs):kH K ⟨ds,.none⟩ (LM K a) ι H:=by intro O N S2 e rep2 ok i;have Z:=(e.oth a _ T (Y.notIn T (by intro _ z;cases z)) (by intro _ z;cases z) (by intro _ z;cases z)).1;have P:=r.laterN Y e;refine⟨λd hd=>?_,λh=>⟨vs,.of Z,by rw[<-r.length];exact h⟩⟩;obtain⟨v,R,Q⟩:=P.get' hd;refine⟨⟨vs,v,.of Z,R⟩,λx L U=>?_⟩;obtain⟨rfl,U⟩:=U;have:=U vs (.of Z);rw[R]at this;cases this;exact⟨.refl,rep2,Q⟩
theorem oX{K:dV}{a:c_}{ds:List D}{vs:List V}{ι:List c_}{S:av}{H:Hp}(Z:Rep K ι H S)(O:EL K H a vs)(r:RelDs K ι H ds vs):kH K ⟨ds,.none⟩ (JP K a) ι H:=by intro L R S2 e rep2 ok i;have U:EL K R a vs:=O.imp (λ⟨o,h⟩=>⟨o,(e.oth a _ h (Z.notIn h (by intro _ z;cases z)) (by intro _ z;cases z) (by intro _ z;cases z)).1⟩) λz=>z;have N:=r.laterN Z e;have Y:lA K R a vs:=U.sq;refine⟨λd hd=>?_,λh=>⟨vs,Y,by rw[<-r.length];exact h⟩⟩;obtain⟨v,Q,P⟩:=N.get' hd;refine⟨⟨vs,v,Y,Q⟩,λx J T=>?_⟩;obtain⟨rfl,T⟩:=T;have:=T vs Y;rw[Q]at this;cases this;exact⟨.refl,rep2,P⟩
theorem eM(P:SE X E e m):SI X E tg e (λρ=>do let x<-m ρ;Kf x):=by
 intro pins s σ H R I h;obtain⟨ι,S,ρ,rep,re,c⟩:=h;obtain⟨r,Q,T,k⟩:=id (aj c);cases r with
 |ex x=>
  refine lB P pins s σ H R I ⟨ι,S,ρ,rep,re,.ex x,Q,T,k⟩
 | ok d=>
  cases d with
  |tup ds=>
   refine Hs P pins s σ H R I ⟨ι,S,ρ,rep,re,.ok (.tup ds),Q,T,λZ W e1 rep1 v U=>?_⟩;obtain⟨p,vs,rfl,Y,O⟩:=U.tup_inv;exact⟨p,rfl,⟨vs,.of Y⟩,aq (k Z W e1 rep1) .refl rep1 _ (xX rep1 Y O)⟩
  |lst j=>
   refine lB P pins s σ H R I ⟨ι,S,ρ,rep,re,.ok (.lst j),Q,T,λZ W e1 rep1 v U=>?_⟩;obtain⟨p,rfl,Y⟩:=U.lst_inv;obtain⟨es,us,_,N,K,L⟩:=bx (k Z W e1 rep1) rep1 Y;exact⟨p,rfl,⟨us,.of N⟩,aq L .refl rep1 _ (wb Y)⟩
  |ro ds=>
   refine lB P pins s σ H R I ⟨ι,S,ρ,rep,re,.ok (.ro ds),Q,T,λZ W e1 rep1 v U=>?_⟩;obtain⟨p,vs,rfl,Y,O⟩:=U.ro_inv;exact⟨p,rfl,⟨vs,Y.sq⟩,aq (k Z W e1 rep1) .refl rep1 _ (oX rep1 Y O)⟩
  |fz ds=>
   refine lB P pins s σ H R I ⟨ι,S,ρ,rep,re,.ok (.fz ds),Q,T,λZ W e1 rep1 v U=>?_⟩;obtain⟨p,o,vs,rfl,Y,O⟩:=U.fz_inv;exact⟨p,rfl,⟨vs,.inl (.inr ⟨o,Y⟩)⟩,aq (k Z W e1 rep1) .refl rep1 _ (oX rep1 (.inl ⟨o,Y⟩) O)⟩
  |_=>exact lB P pins s σ H R I ⟨ι,S,ρ,rep,re,.ok _,Q,T,λZ W e1 rep1 v U=>(ag (k Z W e1 rep1)).elim⟩
theorem wc:dN X (.type "range") (λxs H Q=>∃j,xs=[.int j]/\∀p,H p=none->Q (.ref p) (upd H p (.rng 0 j))):=by intro pins s σ H xs us Q I r h;obtain⟨j,rfl,q⟩:=h;obtain⟨u,rfl,Z⟩:=vals1 r;obtain⟨t,rfl⟩:=(show ∃t,u=oi j t from Z);refine call_range_1 ⟨.ref s.heap.objs.size,_,I.laid (o:=.rng 0 j) (λb o e=>MU _ e) (MV _) ⟨_,_,_,M6 _ rfl⟩,rfl,q _ (I.hok.fresh (MV _))⟩
theorem sE(J:X.calm=b_):dN X (.type "list") (λxs H Q=>∃(p:c_) (j:Int),xs=[.ref p]/\H p=ar (.rng 0 j)/\ -(2 ^ 62)<=j/\j<=lim/\∀l,H l=none->Q (.ref l) (upd H l (.lst ((dr j.toNat).map λi:Nat=>V.int (i:Nat))))):=by
 intro pins s σ H xs us Q I r h;obtain⟨p,j,rfl,T,G,P,q⟩:=h;obtain⟨u,rfl,L⟩:=vals1 r;cases (show u=eo p from L);obtain⟨t,u,v,R⟩:=(show bG X.prog X.w H s.heap p (.rng 0 j)from I.hok p _ T);have W:Builtin.Range.rangeSize 0 j 1=(j.toNat:Int):=by rw[rangeSize_one];split<;>omega
 have Z:j.toNat<=lim:=by omega
 refine call_list_range (I.ok.hd J) R (small_one (by omega) (by omega) G (by unfold lim at P;omega)) W (by unfold lim at Z;omega) λh' O acc K F S hit=>?_;refine⟨.ref s.heap.objs.size,_,I.laid (t':=O) F (MV _) (o:=.lst ((dr j.toNat).map λi:Nat=>V.int (i:Nat))) ?_,rfl,q _ (I.hok.fresh (MV _))⟩;refine⟨by rw[MS,M0];exact M7 Z hU,acc.toList,K,?_,by simpa using S⟩;obtain⟨hs,N⟩:=hit;have gen:∀(l:List a_) (f:Nat->Int),(∀i v,l[i]? =ar v->∃t,v=oi (f i) t)->bu ((dr l.length).map λi:Nat=>V.int (f i)) l:=by
  intro l
  induction l with
  |nil=>intro f _;exact .nil
  |cons x l ih=>
   intro f hf;rw[N4,List.range_succ_eq_map,Nd,Nl];obtain⟨t,U⟩:=hf 0 x rfl;refine .cons ⟨t,U⟩ ?_;exact ih (λi=>f (i+1)) λi v Y=>hf (i+1) v (by simpa using Y)
 have:=gen acc.toList (λi=>(i:Int)) λi v Y=>by obtain⟨t,U⟩:=N i v (by simpa using Y);exact⟨t,by rw[U];congr 1;omega⟩
 rw[OQ,hs]at this;exact this
def eh:List D->M D
 |[.int j]=>if -(2 ^ 62)<=j/\j<=lim then bj (bq 0 j.toNat)else M.fail
 |_=>M.fail
theorem qQ{K:dV}{ι:List c_}{H:Hp}:∀(l:List Nat),RelDs K ι H (l.map λi:Nat=>D.int (0+(i:Nat))) (l.map λi:Nat=>V.int (i:Nat))
 |[]=>.nil
 |x::l=>.cons (by show RelD K ι H (D.int (0+(x:Int))) (V.int (x:Int));rw[P0];exact .int _) (qQ l)
theorem nA(I:X.calm=b_)(P:X.mg "list"=none)(U:X.mg "range"=none)(K:SE X E a m)(R:Gl X "list":=by rfl)(W:Gl X "range":=by rfl)(hs:d_ [a] X.env=[(dt,hJ a X.env)]:=by rfl)
  (Y:d_ [.Call (.Name "range" q) [a] [] pos2] X.env=[(dt,hJ (.Call (.Name "range" q) [a] [] pos2) X.env)]:=by rfl):
  SE X E (.Call (.Name "list" p) [.Call (.Name "range" q) [a] [] pos2] [] pos) (λρ=>do let ds<-(do let x<-m ρ;let xs<-aC [];aC (x::xs));eh ds):=by
 refine PE.imp (lC (sE I) R P (by decide+kernel) (fC (lC wc W U (by decide+kernel) (af K ai hs) (by decide) (by decide) hs rfl) kz Y) (by decide) (by decide) Y rfl) λσ H Q h=>?_;obtain⟨ι,S,ρ,rep,re,c⟩:=h;refine⟨ι,S,ρ,rep,re,ay (aj c) λds L S1 G e1 rep1 Z vs r=>?_⟩;unfold eh at Z;split at Z
 ·next j=>
  obtain⟨w,ws,rfl,N,J⟩:=r.cons_inv;cases J.nil_inv;split at Z
  ·next hb=>
   rw[N.int_inv];refine⟨j,rfl,λp T=>?_⟩;have rep2:=i5 (o:=.rng 0 j) rep1 T;refine⟨p,j,rfl,bo,hb.1,hb.2,?_⟩;have O:=gr Z (gK (o:=.rng 0 j) T);exact(bt O rep2 (qQ (dr j.toNat))).2
  ·exact(ag Z).elim
 ·exact(ag Z).elim
end
section
variable {X:Cx}{E:XD}{a b c d e:Expr}{m n l k:TM}{pos p2:Pos}
theorem C0:SE X E (.Dict [] [] pos) (λ_=>aC .emp):=by intro pins s σ H Q I h;obtain⟨ι,S,ρ,rep,re,Y⟩:=h;have big:RQ<s.heap.objs.size:=Qu (by decide) (I.mod.glob.keeps I.bk).lt;have hf:H s.heap.objs.size=none:=I.hok.fresh (MV _);have Z:bG X.prog X.w (upd H s.heap.objs.size (.dK [])) (s.heap.push {cls:=.type "dict",data:=.dict #[]}) s.heap.objs.size (.dK []):=⟨Nr _,beq_eq_false_iff_ne.mpr (j' (Ng big)),[],.nil,Heap.DictOf.new s.heap⟩;refine wpAny_Dict_empty ⟨.ref s.heap.objs.size,upd H s.heap.objs.size (.dK []),I.laid (t':=s.toks) (λ_ _ q=>MU _ q) (MV _) Z,rfl,?_⟩;exact aq Y (gK hf) (i5 rep hf) _ (.emp bo)
end
section
variable {X:Cx}{E:XD}{e:Expr}{m:TM}{te:TE}{pos p1 p2 p3:Pos}{j:Nat}
end
def insI(x:Int):List Int->List Int
 |[]=>[x]
 |y::r=>if x<=y then x::y::r else y::insI x r
def sortI:List Int->List Int
 |[]=>[]
 |x::r=>insI x (sortI r)
theorem insI_perm(x:Int):∀l,(insI x l).Perm (x::l)
 |[]=>.refl _
 |y::r=>by
  unfold insI;split
  ·exact .refl _
  ·exact(EA y (insI_perm x r)).trans (List.Perm.swap x y r)
theorem sortI_perm:∀l,(sortI l).Perm l
 |[]=>.refl _
 |x::r=>(insI_perm x _).trans (EA x (sortI_perm r))
theorem pH(x:Int):∀{l:List Int},l.Pairwise (· <=·)->(insI x l).Pairwise (· <=·)
 |[],_=>by simp[insI]
 | y::r,h=>by
  obtain⟨Y,X⟩:=NU.mp h;unfold insI;split
  ·next c=>
   refine NU.mpr ⟨λz Z=>?_,h⟩;rcases M9.mp Z with rfl|Z
   ·exact c
   ·exact Int.le_trans c (Y z Z)
  ·next c=>
   refine NU.mpr ⟨λz Z=>?_,pH x X⟩;rcases M9.mp ((insI_perm x r).mem_iff.mp Z)with rfl|Z
   ·omega
   ·exact Y z Z
theorem ir:∀l,(sortI l).Pairwise (· <=·)
 |[]=>.nil
 |x::r=>pH x (ir r)
section
variable {X:Cx}{E:XD}{e:Expr}{m:TM}{pos:Pos}
theorem uB:dN X (.builtin "sorted") (λxs H Q=>∃(p:c_) (ns:List Int),xs=[.ref p]/\lA X.K H p (ns.map V.int)/\ns.length<64/\∀l,H l=none->Q (.ref l) (upd H l (.lst ((sortI ns).map V.int)))):=by intro pins s σ H xs us Q I r h;obtain⟨p,ns,rfl,T,U,q⟩:=h;obtain⟨u,rfl,S⟩:=vals1 r;cases (show u=eo p from S);obtain⟨its,Y,O,N⟩:=I.list T;have P:m2 its ns:=Qf Y;have hlen:=Y.length;rw[MS]at hlen;refine sorted_ints O.isList P (by omega) λout Z a1 a2 a3=>?_;have en:Z=sortI ns:=W.lks_uniq (a2.trans (sortI_perm ns).symm) a3 (ir ns);subst en;obtain⟨c,R⟩:=sortedAll_at s.heap its out;have hf:H (s.heap.objs.size+1)=none:=I.hok.fresh (Pm _);refine⟨.ref (s.heap.objs.size+1),_,I.laid (t':=s.toks) (o:=.lst ((sortI ns).map V.int)) (λb o e=>sortedAll_old e) (Pm _) ⟨?_,out.toList,c,jB a1,R⟩,rfl,q _ hf⟩;rw[MS,(sortI_perm ns).length_eq,N5];omega
theorem nB{K:dV}{ι:List c_}{H:Hp}:∀ns:List Int,RelDs K ι H (ns.map D.int) (ns.map V.int)
 |[]=>.nil
 |n::r=>.cons (.int n) (nB r)
end
end S3
namespace S3
open PySem PySem.Spec PySem.W PyProof.Rows L2
theorem qR{h:gd}:∀{vs:List a_},(∀v∈vs,∃a o us n i t,v= .ref a/\h.get? a=ar o/\o.cls= .type "tuple"/\o.data= .seq us n/\us[0]? =ar (oi i t))->
  ∃Z,KatTups h vs Z/\Z.length=vs.length/\∀f∈Z,∃i t,f=oi i t
 |[],_=>⟨[],.nil,rfl,λ_ z=>nomatch z⟩
 |v::vs,hv=>by
  obtain⟨a,o,us,n,i,t,rfl,e1,e2,Y,W⟩:=hv v Ni;obtain⟨Z,k1,k2,k3⟩:=qR λX h'=>hv X (M3 _ h');refine⟨_::Z,.cons e1 e2 Y W k1,by simp[k2],λf hf=>?_⟩;rcases M9.mp hf with rfl|hf
  ·exact⟨i,t,rfl⟩
  ·exact k3 f hf
theorem i6:∀ns:List Int,HT.lexLt ns ns=dt
 |[]=>rfl
 |n::r=>by rw[HT.lexLt_cons,if_pos rfl];exact i6 r
theorem xY:∀{a b c:List Int},HT.lexLt a b=b_->HT.lexLt b c=b_->HT.lexLt a c=b_
 |[],[],c,h,_=>by cases h
 |[],_::_,[],_,h=>by cases h
 |[],_::_,_::_,_,_=>rfl
 |_::_,[],c,h,_=>by cases h
 |_::_,_::_,[],_,h=>by cases h
 | x::a,y::b,z::c,h1,h2=>by
  rw[HT.lexLt_cons]at h1 h2⊢;split at h1
  ·next e=>
   subst e;split at h2
   ·next e2=>subst e2;rw[if_pos rfl];exact xY h1 h2
   ·next e2=>rw[if_neg e2];exact h2
  ·next e=>
   have Z:x<y:=NY h1;split at h2
   ·next e2=>subst e2;rw[if_neg e];exact h1
   ·next e2=>
    have Y:y<z:=NY h2;rw[if_neg (by omega)];exact Nb (by omega)
theorem uC:∀{a b c:List Int},HT.lexLt a c=b_->HT.lexLt a b=b_\/HT.lexLt b c=b_
 |a,b,[],h=>by cases a<;>cases h
 |[],[],_::_,_=>.inr rfl
 |[],_::_,_::_,_=>.inl rfl
 |_::_,[],_::_,_=>.inr rfl
 | x ::a,y::b,z::c,h=>by
  rw[HT.lexLt_cons]at h;rw[HT.lexLt_cons,HT.lexLt_cons];split at h
  ·next e=>
   subst e;by_cases e2:x=y
   ·subst e2;rw[if_pos rfl,if_pos rfl];exact uC h
   ·rw[if_neg e2,if_neg (j' e2)];rcases Int.lt_or_gt_of_ne e2 with l|l
    ·exact .inl (Nb l)
    ·exact .inr (Nb l)
  ·next e=>
   have h':x<z:=NY h;by_cases e2:x=y
   ·subst e2;rw[if_neg e];exact .inr (Nb h')
   ·rw[if_neg e2];by_cases l:x<y
    ·exact .inl (Nb l)
    ·refine .inr ?_;rw[if_neg (by omega)];exact Nb (by omega)
theorem C1(x:bG P w H h a o):∃Z,h.get? a=ar Z:=by
 cases o with
 |lst xs=>obtain⟨_,_,_,_,e⟩:=x;exact⟨_,e⟩
 |tup xs=>obtain⟨_,_,_,Z,e,_⟩:=x;exact⟨_,e⟩
 |dK kvs=>obtain⟨_,_,_,_,o,_,_,e,_⟩:=x;exact⟨_,e⟩
 |dT kvs=>obtain⟨_,_,_,_,o,_,_,e,_⟩:=x;exact⟨_,e⟩
 |set S n=>obtain⟨o,_,_,_,e,_⟩:=x;exact⟨_,e⟩
 |ins C dx fs=>obtain⟨_,_,_,e,_⟩:=x;exact⟨_,e⟩
 |own y=>exact x
 |xd fs=>obtain⟨_,⟨_,_,_,e,_⟩,_⟩:=x;exact⟨_,e⟩
 |rng lo hi=>obtain⟨_,_,_,e⟩:=x;exact⟨_,e⟩
 |frz Z u=>exact⟨_,x.1⟩
 |tbl ps=>exact⟨_,show h.get? a=ar _ from x⟩
 |met f y=>exact⟨_,show h.get? a=ar _ from x⟩
 |ext φ=>exact x.2.1
section
variable {X:Cx}{pins:List (c_×Obj)}{σ:L2.St}{H:Hp}{s:dn}
theorem xZ{us:List a_}(I:L2.Inv X pins σ H s)(N:Fr X.base X.env.locals s.heap m)(F:Fr X.base X.env.locals h2 m)
  (U:∀b o,b≠X.env.locals->s.heap.get? b=ar o->h2.get? b=ar o) (R:s.heap.get? d=none) (E:h2.get? d=ar {cls:=.type "list",data:=.seq us.toArray n}) (J:bu ys us) (Q:ys.length<=sizeLine):
  L2.Inv X pins σ (upd H d (.lst ys)) {s with heap:=h2}:=by
 have Y:H d=none:=by
  cases e:H d with
  |none=>rfl
  |some o=>obtain⟨O,q⟩:=C1 (I.hok d o e);rw[R]at q;cases q
 have W:∀b o,H b=ar o->b≠X.env.locals:=λb o e z=>by rw[z,I.free]at e;cases e
 have old:∀b o,s.heap.get? b=ar o->b≠d:=λb o e z=>by rw[z,R]at e;cases e
 refine I.step (g':=s.gens) (d':=s.drawn) (t':=s.toks) (ch:=[]) (λ_ z=>nomatch z) (λb o Z _ _ e _=>U b o Z e) (λb o Z _ _ e _=>⟨o.slots,U b o Z e⟩)
  (λb o _ e n=>by rw[aN (old b o e)];exact n) (λb o _ e=>?_) (λb xs e=>by rw[aN (aK e Y)];exact e) (λb O u e=>by rw[aN (aK e Y)];exact e)
  (λb A e=>⟨#[],by rw[aN (aK e Y),e];simp⟩) (λG hm=>?_) (λb u e=>?_) I.bare
 ·by_cases Z:b=X.env.locals
  ·obtain⟨C,_,_,K,_⟩:=F.ns;exact⟨C,by rw[Z];exact K⟩
  ·exact⟨o,U b o Z e⟩
 ·have:G=m:=by
   obtain⟨B,es,ep,e1,d1,_,g1⟩:=hm;obtain⟨o2,P,L,e2,S,_,g2⟩:=N.ns;rw[e1]at e2;cases e2;rw[d1]at S;cases S;funext x;rw[<-g1 x, <-g2 x]
  rw[this];exact F.ns
 ·by_cases Z:b=d
  ·subst Z;rw[bo]at e;cases e;exact⟨Q,us,n,J,E⟩
  ·rw[aN Z]at e;refine(I.hok b u e).stay (λc v T z=>U c v ?_ z) (λc z=>by rw[aN (aK z Y)];exact z) λc xs z=>by rw[aN (aK z Y)];exact z
   rcases T with rfl|T
   ·exact W _ _ e
   ·exact W _ _ T
end
section
variable {X:Cx}
end
end S3
namespace S4
open PySem PySem.SetTable
def tb(m:Nat):SetTable:=⟨m, #[], #[],0,b_,0,b_⟩
def cB(m:Nat)(h:Int):Nat->Probe
 |0=>(tb m).probeStart h
 |k+1=>(tb m).advance (cB m h k)
theorem HX(t:lb)(h:Int)(k:Nat):t.advance (cB t.mask h k)=cB t.mask h (k+1):=rfl
theorem Bb(t:lb)(p:Probe)(Z:p.dummy=none):(t.advance p).dummy=none:=by
 unfold Sq;split
 ·exact Z
 ·exact Z
theorem qS(m:Nat)(h:Int):∀k,(cB m h k).dummy=none
 |0=>rfl
 |k+1=>Bb _ _ (qS m h k)
def gL(m:Nat)(h:Int):Nat->Nat×Nat
 |0=>(Sx h % (m+1),Sx h)
 |n+1=>leap m (gL m h n).1 (gL m h n).2
def run(m i:Nat):Nat:=R1 m i - i
theorem HY(m i:Nat):run m i<=9:=by unfold run R1;split<;>omega
def so(m:Nat)(h:Int):Nat->Nat
 |0=>0
 |n+1=>so m h n+run m (gL m h n).1+1
theorem C3(m:Nat)(h:Int):∀n,so m h n<=10*n
 |0=>MV _
 |n+1=>by
  have:=C3 m h n;have:=HY m (gL m h n).1;show so m h n+run m (gL m h n).1+1<=10*(n+1);omega
theorem uD(m:Nat)(h:Int)(n:Nat)(e:cB m h (so m h n)=⟨(gL m h n).1,run m (gL m h n).1,(gL m h n).1,(gL m h n).2,none⟩):
  ∀r,r<=run m (gL m h n).1->cB m h (so m h n+r)=⟨(gL m h n).1+r,run m (gL m h n).1 - r,(gL m h n).1,(gL m h n).2,none⟩
 |0,_=>e
 |r+1,hr=>by
  have Z:=uD m h n e r (by omega);show(tb m).advance (cB m h (so m h n+r))=_;rw[Z];unfold Sq;simp only;rw[if_pos (by omega)];simp only[Probe.mk.injEq,and_true,true_and];omega
theorem qT(m:Nat)(h:Int):∀n,cB m h (so m h n)=⟨(gL m h n).1,run m (gL m h n).1,(gL m h n).1,(gL m h n).2,none⟩
 |0=>rfl
 |n+1=>by
  have e:=uD m h n (qT m h n) _ (MV _);show(tb m).advance (cB m h (so m h n+run m (gL m h n).1))=_;rw[e];unfold Sq;simp only;rw[if_neg (by omega)];rfl
theorem mE(m:Nat)(h:Int)(n r:Nat)(Z:r<=run m (gL m h n).1):(cB m h (so m h n+r)).j=(gL m h n).1+r:=by rw[uD m h n (qT m h n) r Z]
theorem zh(m:Nat)(h:Int):∀n,(gL m h n).2=Sx h / 32 ^ n
 |0=>by simp[gL]
 |n+1=>by
  show(gL m h n).2 / 32=_;rw[zh m h n,Nat.div_div_eq_div_mul,Nat.pow_succ]
theorem Fn(h:Int):Sx h<2 ^ 64:=by unfold Sx;have Z:0<=h % (2 ^ 64:Int):=O3 _ (by decide);have Y:h % (2 ^ 64:Int)<2 ^ 64:=OH _ (by decide);omega
theorem L8(m:Nat)(h:Int)(n:Nat):(gL m h (13+n)).2=0:=by
 rw[zh];refine Nat.div_eq_of_lt (Nf (Fn h) ?_);have:(2:Nat) ^ 64<=32 ^ 13:=by decide
 exact M7 this (Nat.pow_le_pow_right (by decide) (by omega))
def Kg(m:Nat):Nat->Nat->Nat
 |0,a=>a
 |n+1,a=>(Kg m n a*5+1) % (m+1)
theorem x9(m:Nat)(h:Int):∀n,(gL m h (13+n)).1=Kg m n (gL m h 13).1
 |0=>rfl
 |n+1=>by
  show((gL m h (13+n)).1*5+1+(gL m h (13+n)).2 / 32) % (m+1)=(Kg m n (gL m h 13).1*5+1) % (m+1);rw[L8,x9 m h n]
theorem C4(m:Nat)(h:Int):∀n,(gL m h n).1<m+1
 |0=>QK _ (by omega)
 |n+1=>QK _ (by omega)
theorem L9:∀a,a<8->∀j,j<8->∃n,n<8/\Kg 7 n a=j:=by decide+kernel
theorem Kh:∀a,a<32->∀j,j<32->∃n,n<32/\Kg 31 n a=j:=by decide+kernel
def GL(m:Nat):Prop:=m=7\/m=31
theorem C5(X:GL m)(h:Int)(j:Nat)(W:j<=m):∃n,n<m+14/\(gL m h n).1=j:=by
 rcases X with rfl|rfl
 ·obtain⟨n,Y,Z⟩:=L9 _ (C4 7 h 13) j (by omega);exact⟨13+n,by omega,by rw[x9];exact Z⟩
 ·obtain⟨n,Y,Z⟩:=Kh _ (C4 31 h 13) j (by omega);exact⟨13+n,by omega,by rw[x9];exact Z⟩
theorem cover(Z:GL m)(h:Int)(j:Nat)(Y:j<=m):∃K,K<10*Sy m/\(cB m h K).j=j:=by obtain⟨n,W,X⟩:=C5 Z h j Y;refine⟨so m h n,?_,by rw[qT];exact X⟩;have:=C3 m h n;unfold Sy;omega
theorem tw(h:i<m+1):i+run m i<=m:=by unfold run R1;split<;>omega
theorem HZ{p:Probe}(h:p.j+p.more<=m):((tb m).advance p).j+((tb m).advance p).more<=m:=by
 unfold Sq;split
 ·simp only;omega
 ·simp only[leap];exact tw (QK _ (by omega))
theorem tx(m:Nat)(h:Int):∀k,(cB m h k).j+(cB m h k).more<=m
 |0=>tw (QK _ (by omega))
 |k+1=>HZ (tx m h k)
theorem Fo(m:Nat)(h:Int)(k:Nat)(_:GL m):(cB m h k).j<=m:=M7 (OS _ _) (tx m h k)
def Fp(xs:Array Nat):Prop:=∀(i j a b:Nat),i<j->xs[i]? =ar a->xs[j]? =ar b->a<b
theorem qU(X:Fp xs):∀(fuel lo hi:Nat),lo<=hi->hi<=xs.size->hi - lo<=fuel->(∀(i a:Nat),i<lo->xs[i]? =ar a->a<j)->(∀(i a:Nat),hi<=i->xs[i]? =ar a->j<=a)->
  R3 xs j fuel lo hi<=xs.size/\(∀(i a:Nat),i<R3 xs j fuel lo hi->xs[i]? =ar a->a<j)/\(∀(i a:Nat),R3 xs j fuel lo hi<=i->xs[i]? =ar a->j<=a)
 |0,lo,hi,h1,h2,h3,h4,h5=>by
  have:lo=hi:=by omega
  subst this;exact⟨h2,h4,h5⟩
 | fuel+1,lo,hi,h1,h2,h3,h4,h5=>by
  unfold R3;by_cases hlt:lo<hi
  ·rw[if_pos hlt];simp only;have Z:(lo+hi) / 2<xs.size:=by omega
   have U:xs.getD ((lo+hi) / 2) j=xs[(lo+hi) / 2]:=by simp[R4,Z]
   have Y:xs[(lo+hi) / 2]? =ar xs[(lo+hi) / 2]:=M1 Z;rw[U];split
   ·next hc=>
    refine qU X fuel _ hi (by omega) h2 (by omega) (λi a W e=>?_) h5;by_cases he:i=(lo+hi) / 2
    ·subst he;rw[Y]at e;cases e;exact hc
    ·exact Qu (X i _ a _ (by omega) e Y) hc
   ·next hc=>
    refine qU X fuel lo _ (by omega) (by omega) (by omega) h4 (λi a W e=>?_);by_cases he:i=(lo+hi) / 2
    ·subst he;rw[Y]at e;cases e;omega
    ·have:=X _ i _ a (by omega) Y e;omega
  ·rw[if_neg hlt];have:lo=hi:=by omega
   subst this;exact⟨h2,h4,h5⟩
theorem qV(Z:Fp xs)(j:Nat):vr xs j<=xs.size/\(∀(i a:Nat),i<vr xs j->xs[i]? =ar a->a<j)/\(∀(i a:Nat),vr xs j<=i->xs[i]? =ar a->j<=a):=
 qU Z xs.size 0 xs.size (Nr _) (MV _) (by omega) (λ_ _ h=>absurd h (Q7 _)) λi a Y e=>by rw[Of Y]at e;cases e
theorem ya(Z:Fp xs)(h:xs[i]? =ar j):vr xs j=i:=by
 obtain⟨_,X,Y⟩:=qV Z j;rcases O9 (vr xs j) i with l|l|l
 ·have W:vr xs j<xs.size:=Qu l (Nq.mp h).1;have e:xs[vr xs j]? =ar xs[vr xs j]:=M1 W;have U:=Z _ _ _ _ l e h;have T:=Y _ _ (MV _) e;omega
 ·exact l
 ·have:=X i j l h;omega
theorem oY{t:lb}(h:t.slot j= .live i):t.place[i]? =ar j:=by
 unfold slot at h;simp only at h;split at h
 ·next hc=>cases h;exact RF hc
 ·split at h<;>cases h
theorem qg{t:lb}(Z:Fp t.place)(h:t.place[i]? =ar j):t.slot j= .live i:=by unfold slot;simp only;rw[ya Z h,h];simp
theorem zj{t:lb}(Z:t.dummies= #[])(j:Nat):(∃i,t.slot j= .live i)\/t.slot j= .empty:=by
 unfold slot;simp only;rw[Z];split
 ·exact .inl ⟨_,rfl⟩
 ·exact .inr (by simp[has])
theorem yb{t:lb}(Z:Fp t.place)(h:t.slot j= .empty):∀(i:Nat),t.place[i]? ≠ar j:=λi e=>by rw[qg Z e]at h;cases h
theorem zl(Y:Fp xs)(h:∀(j:Nat),j<n->∃i:Nat,xs[i]? =ar j):∀(j:Nat),j<n->∃i:Nat,j<=i/\xs[i]? =ar j
 |0,hj=>by obtain⟨i,e⟩:=h 0 hj;exact⟨i,Nr _,e⟩
 |j+1,hj=>by
  obtain⟨i,W,Z⟩:=zl Y h j (by omega);obtain⟨X,e⟩:=h (j+1) hj;refine⟨X,?_,e⟩;rcases O9 i X with l|l|l
  ·omega
  ·subst l;rw[Z]at e;cases e
  ·have:=Y _ _ _ _ l e Z;omega
theorem Bc{t:lb}(W:Fp t.place)(Y:t.dummies= #[])(hs:t.place.size<=t.mask):∃j,j<=t.mask/\t.slot j= .empty:=by
 apply Qx;intro Z;have:∀(j:Nat),j<t.mask+1->∃i:Nat,t.place[i]? =ar j:=λj T=>by
  rcases zj Y j with⟨i,e⟩|e
  ·exact⟨i,oY e⟩
  ·exact absurd ⟨j,by omega,e⟩ Z
 obtain⟨i,U,X⟩:=zl W this t.mask (by omega);have:=(Nq.mp X).1;omega
theorem zm{t:lb}(W:t.dummies= #[])(Y:Nat->Int)(h:Int)(K:Nat)(X:t.slot (cB t.mask h K).j= .empty):∀(fuel k:Nat),k<=K->K - k<fuel->
    ∃Z,k<=Z/\Z<=K/\(∀m,k<=m->m<Z->∃i,t.slot (cB t.mask h m).j= .live i/\Y i≠h)/\
      ((t.slot (cB t.mask h Z).j= .empty/\Sz t Y h fuel (cB t.mask h k)=ar (.empty (cB t.mask h Z).j none))\/
       (∃i,t.slot (cB t.mask h Z).j= .live i/\Y i=h/\Sz t Y h fuel (cB t.mask h k)=ar (.candidate (cB t.mask h Z).j i (cB t.mask h (Z+1)))))
  |0,k,h1,h2=>by omega
  | fuel+1,k,h1,h2=>by
    unfold Sz;rcases zj W (cB t.mask h k).j with⟨i,e⟩|e
    · rw[e]
      simp only;by_cases hh:Y i=h
      · rw[if_pos (by simpa using hh)]
        exact⟨k,MV _,h1,λm a b=>by omega,.inr ⟨i,e,hh,rfl⟩⟩
      · rw[if_neg (by simpa using hh)]
        have U:k≠K:=λz=>by subst z;rw[X]at e;cases e
        obtain⟨Z,g1,g2,g3,T⟩:=zm W Y h K X fuel (k+1) (by omega) (by omega);refine⟨Z,by omega,g2,λm a b=>?_,?_⟩
        · by_cases hm:m=k
          · subst hm;exact⟨i,e,hh⟩
          · exact g3 m (by omega) b
        · rw[HX];exact T
    · rw[e]
      simp only[qS];exact⟨k,MV _,h1,λm a b=>by omega,.inl ⟨e,rfl⟩⟩
abbrev Ent:=Int×a_
def At(pl:Array Nat)(es:Array Ent)(j:Nat)(e:Ent):Prop:=∃i:Nat,pl[i]? =ar j/\es[i]? =ar e
structure TPre(t:lb)(es:Array Ent):Prop where
 msk:GL t.mask
 dum:t.dummies= #[]
 siz:t.place.size=es.size
 ris:Fp t.place
 inb:∀(i a:Nat),t.place[i]? =ar a->a<=t.mask
 way:∀(j:Nat) (e:Ent),At t.place es j e->∃k,(cB t.mask e.1 k).j=j/\∀m,m<k->∃e',At t.place es (cB t.mask e.1 m).j e'
structure TOk(t:lb)(es:Array Ent):Prop extends TPre t es where
 few:es.size*5<t.mask*3
theorem TPre.fits(k:TPre t es)(h:es.size<=t.mask):t.fits es.size=true:=by unfold SetTable.fits fill;rw[k.siz,k.dum];simpa using h
theorem TOk.le(k:TOk t es):es.size<=t.mask:=by have:=k.few;omega
theorem TPre.at_of{t:lb}{es:Array Ent}(k:TPre t es){i j:Nat}(h:t.place[i]? =ar j):∃e,es[i]? =ar e/\At t.place es j e:=by
 have Z:i<es.size:=by rw[<-k.siz];exact(Nq.mp h).1
 exact⟨es[i],M1 Z,i,h,M1 Z⟩
theorem C6(Z:Bool):TOk (EW 0 0 Z) #[] where
 msk:=.inl rfl
 dum:=rfl
 siz:=rfl
 ris:=λi j a b _ h _=>by simp[EW]at h
 inb:=λi a h=>by simp[EW]at h
 way:=λj e ⟨i,h,_⟩=>by simp[EW]at h
 few:=by show 0*5<7*3;decide
theorem fB{α:Type}(xs:Array α)(p:Nat)(x:α)(Y:p<=xs.size)(i:Nat):(ey xs p x)[i]? =if i<p then xs[i]? else if i=p then ar x else xs[i - 1]? :=by
 rw[<-Ny,SetTable.toList_insertAt];have Z:(xs.toList.take p).length=p:=by simp[Y]
 by_cases h1:i<p
 ·rw[if_pos h1,Nk (by omega),QE h1,Ny]
 ·rw[if_neg h1,OC (by omega),Z];by_cases h2:i=p
  ·subst h2;simp
  ·rw[if_neg h2];obtain⟨d,hd⟩:∃d,i - p=d+1:=⟨i - p - 1,by omega⟩;rw[hd,List.getElem?_cons_succ,Qv,show p+d=i - 1 by omega,Ny]
theorem qW{α:Type}(xs:Array α)(p:Nat)(x:α):(ey xs p x).size=xs.size+1:=by have:=(SetTable.insertAt_perm xs p x).length_eq;simpa using this
theorem C7{X:Array Nat}{es:Array Ent}(hs:X.size=es.size)(Y:p<=X.size)(U:Nat)(W:Ent):
  At (ey X p j) (ey es p e) U W↔At X es U W\/(U=j/\W=e):=by
 have Z:p<=es.size:=by rw[<-hs];exact Y
 constructor
 ·rintro⟨i,h1,h2⟩;rw[fB _ _ _ Y]at h1;rw[fB _ _ _ Z]at h2;by_cases c1:i<p
  ·rw[if_pos c1]at h1 h2;exact .inl ⟨i,h1,h2⟩
  ·rw[if_neg c1]at h1 h2;by_cases c2:i=p
   ·rw[if_pos c2]at h1 h2;cases h1;cases h2;exact .inr ⟨rfl,rfl⟩
   ·rw[if_neg c2]at h1 h2;exact .inl ⟨_,h1,h2⟩
 ·rintro(⟨i,h1,h2⟩|⟨rfl,rfl⟩)
  ·by_cases c1:i<p
   ·exact⟨i,by rw[fB _ _ _ Y,if_pos c1];exact h1,by rw[fB _ _ _ Z,if_pos c1];exact h2⟩
   ·exact⟨i+1,by rw[fB _ _ _ Y,if_neg (by omega),if_neg (by omega)];exact h1,by rw[fB _ _ _ Z,if_neg (by omega),if_neg (by omega)];exact h2⟩
  ·exact⟨p,by rw[fB _ _ _ Y,if_neg (by omega),if_pos rfl],by rw[fB _ _ _ Z,if_neg (by omega),if_pos rfl]⟩
theorem Ia{t:lb}(Z:t.dummies= #[])(j:Nat):t.put j=({t with place:=ey t.place (vr t.place j) j},vr t.place j):=by
 unfold put;simp only;rw[Z];have:has (#[]:Array Nat) j=false:=by simp[has]
 rw[this];cases t;simp only at Z;subst Z;rfl
theorem Ib(k:TPre t es){e:Ent}(I:j<=t.mask)(L:t.slot j= .empty)(O:(cB t.mask e.1 K).j=j)(G:∀m,m<K->∃U,At t.place es (cB t.mask e.1 m).j U):
  TPre (t.put j).1 (ey es (t.put j).2 e)/\(t.put j).1.mask=t.mask/\(t.put j).1.led=t.led/\(t.put j).1.plain=t.plain:=by
 obtain⟨X,N,H⟩:=qV k.ris j;have P:=yb k.ris L;rw[Ia k.dum];refine⟨⟨k.msk,k.dum,?_,?_,?_,?_⟩,rfl,rfl,rfl⟩
 ·show(ey t.place (vr t.place j) j).size=_;rw[qW,qW,k.siz]
 ·intro R T a b S Q W;have Y:(ey t.place (vr t.place j) j)[R]? =ar a:=Q;have Z:(ey t.place (vr t.place j) j)[T]? =ar b:=W;rw[fB _ _ _ X]at Y Z;by_cases c1:R<vr t.place j
  ·rw[if_pos c1]at Y;by_cases c2:T<vr t.place j
   ·rw[if_pos c2]at Z;exact k.ris _ _ _ _ S Y Z
   ·rw[if_neg c2]at Z;by_cases c3:T=vr t.place j
    ·rw[if_pos c3]at Z;cases Z;exact N _ _ c1 Y
    ·rw[if_neg c3]at Z;exact k.ris _ _ _ _ (by omega) Y Z
  ·rw[if_neg c1]at Y;rw[if_neg (by omega),if_neg (by omega)]at Z;by_cases c3:R=vr t.place j
   ·rw[if_pos c3]at Y;cases Y;have q:=H _ _ (by omega) Z;have:b≠j:=λz=>by subst z;exact P _ Z
    omega
   ·rw[if_neg c3]at Y;exact k.ris _ _ _ _ (by omega) Y Z
 ·intro i a h;have h':(ey t.place (vr t.place j) j)[i]? =ar a:=h;rw[fB _ _ _ X]at h';by_cases c1:i<vr t.place j
  ·rw[if_pos c1]at h';exact k.inb _ _ h'
  ·rw[if_neg c1]at h';by_cases c3:i=vr t.place j
   ·rw[if_pos c3]at h';cases h';exact I
   ·rw[if_neg c3]at h';exact k.inb _ _ h'
 ·intro J U h;have up:∀{a b},At t.place es a b->At (ey t.place (vr t.place j) j) (ey es (vr t.place j) e) a b:=λz=>(C7 k.siz X _ _).mpr (.inl z);rcases (C7 k.siz X J U).mp h with h'|⟨rfl,rfl⟩
  ·obtain⟨n,Q,W⟩:=k.way _ _ h';exact⟨n,Q,λm hm=>let ⟨x,hx⟩:=W m hm;⟨x,up hx⟩⟩
  ·exact⟨K,O,λm hm=>let ⟨x,hx⟩:=G m hm;⟨x,up hx⟩⟩
abbrev Ie:=Array (Option Nat)
def Bd(o:Ie)(j:Nat):Prop:=∃k,o[j]? =ar (ar k)
structure Laid(m:Nat)(hs:List Int)(o:Ie):Prop where
 siz:o.size=m+1
 way:∀(j k:Nat),o[j]? =ar (ar k)->∃x,hs[k]? =ar x/\∃n,(cB m x n).j=j/\∀i,i<n->Bd o (cB m x i).j
theorem tD{o:Ie}(Q:o.size=m+1)(h:Int)(T:Nat)(O:o[(gL m h T).1]? =ar none):∀(fuel n:Nat),n<=T->T - n<fuel->
  ∃idx,so m h n<=idx/\G4 m o fuel (gL m h n).1 (gL m h n).2=ar (cB m h idx).j/\o[(cB m h idx).j]? =ar none/\∀i,so m h n<=i->i<idx->Bd o (cB m h i).j
 |0,n,h1,h2=>by omega
 | fuel+1,n,h1,h2=>by
  have S:R1 m (gL m h n).1+1 - (gL m h n).1=run m (gL m h n).1+1:=by unfold run R1;split<;>omega
  have P:(gL m h n).1+run m (gL m h n).1<=m:=by have:=C4 m h n;unfold run R1;split<;>omega
  have get:∀k,k<=run m (gL m h n).1->o.getD ((gL m h n).1+k) (ar 0)=o[(gL m h n).1+k]?.getD (ar 0):=λk _=>by simp
  have R:∀k,k<=run m (gL m h n).1->(o.getD ((gL m h n).1+k) (ar 0)).isNone=dt->Bd o (cB m h (so m h n+k)).j:=λk U N=>by
   rw[mE m h n k U];have Y:(gL m h n).1+k<o.size:=by omega
   rw[get k U,M1 Y]at N;cases e:o[(gL m h n).1+k]with
   |none=>simp[e]at N
   |some z=>exact⟨z,by rw[M1 Y,e]⟩
  unfold G4;rw[S];cases q:(dr (run m (gL m h n).1+1)).find? (λk=>(o.getD ((gL m h n).1+k) (ar 0)).isNone)with
  | some k=>
   simp only;have U:=List.find?_some q;have X:k<=run m (gL m h n).1:=by have:=List.mem_of_find?_eq_some q;rw[Na]at this;omega
   refine⟨so m h n+k,by omega,by rw[mE m h n k X],?_,λi a b=>?_⟩
   ·rw[mE m h n k X];have Y:(gL m h n).1+k<o.size:=by omega
    rw[get k X,M1 Y]at U;rw[M1 Y];cases e:o[(gL m h n).1+k]with
    |none=>rfl
    |some z=>simp[e]at U
   ·obtain⟨d,rfl⟩:∃d,i=so m h n+d:=⟨i - so m h n,by omega⟩;refine R d (by omega) ?_;have Z:=List.find?_eq_some_iff_getElem.mp q;obtain⟨_,H,K,e1,e2⟩:=Z;simp at e1;subst e1;have:=e2 d (by omega);simpa using this
  | none=>
   simp only;have Z:=List.find?_eq_none.mp q;have W:∀k,k<=run m (gL m h n).1->Bd o (cB m h (so m h n+k)).j:=λk U=>R k U (by have:=Z k (Na.mpr (by omega));exact QM.mpr this)
   have L:n≠T:=λz=>by subst z;obtain⟨k,e⟩:=W 0 (Nr _);rw[mE m h n 0 (Nr _)]at e;rw[Nat.add_zero,O]at e;cases e
   obtain⟨idx,g1,g2,g3,J⟩:=tD Q h T O fuel (n+1) (by omega) (by omega);have I:so m h (n+1)=so m h n+run m (gL m h n).1+1:=rfl;refine⟨idx,by omega,g2,g3,λi a b=>?_⟩;by_cases hi:so m h (n+1)<=i
   ·exact J i hi b
   ·obtain⟨d,rfl⟩:∃d,i=so m h n+d:=⟨i - so m h n,by omega⟩;exact W d (by omega)
def d7(m:Nat)(f:Nat->Option Nat):List (Nat×Nat):=(dr (m+1)).filterMap λj=>(f j).map λk=>(j,k)
theorem nD{α Y:Type}{f g:α->Option Y}:∀{l:List α},(∀x∈l,f x=g x)->l.filterMap f=l.filterMap g
 |[],_=>rfl
 |x::l,h=>by rw[NQ,NQ,h x Ni,nD λy Z=>h y (M3 _ Z)]
theorem C8{f g:Nat->Option Nat}(U:j<m+1)(W:f j=none)(X:g j=ar k)(Y:∀i,i≠j->g i=f i):(d7 m g).Perm ((j,k)::d7 m f):=by
 unfold d7;have e:dr (m+1)=dr j++j::(iB (j+1) (m - j)):=by rw[List.range_eq_range',List.range_eq_range',show m+1=j+(1+(m - j)) by omega, <-List.range'_append_1, <-List.range'_append_1];simp
 rw[e,List.filterMap_append,List.filterMap_append,NQ,NQ,W,X];simp only[z8,Option.map_none];rw[nD (l:=dr j) (g:=λj=>(f j).map λk=>(j,k)) λx Z=>by rw[Y x (by rw[Na]at Z;omega)],
  nD (l:=iB (j+1) (m - j)) (g:=λj=>(f j).map λk=>(j,k)) λx Z=>by rw[Y x (by rw[ON]at Z;omega)]]
 exact List.perm_middle
def fo(o:Ie)(j:Nat):Option Nat:=o.getD j none
theorem qX:fo o j=ar k↔o[j]? =ar (ar k):=by
 unfold fo;rw[NG];cases o[j]? with
 |none=>simp
 |some z=>simp
structure LaidN(m:Nat)(hs:List Int)(o:Ie):Prop extends Laid m hs o where
 all:((d7 m (fo o)).map (·.2)).Perm (dr hs.length)
theorem we(L:LaidN m hs o):(d7 m (fo o)).length=hs.length:=by have:=L.all.length_eq;simpa using this
theorem wg(L:LaidN m hs o)(S:hs.length<=m):∃j,j<=m/\o[j]? =ar none:=by
 apply Qx;intro T;have Z:∀j,j∈dr (m+1)->∃k,fo o j=ar k:=λj X=>by
  rw[Na]at X;have Y:j<o.size:=by rw[L.siz];exact X
  cases e:o[j]with
  |none=>exact absurd ⟨j,by omega,by rw[M1 Y,e]⟩ T
  |some k=>exact⟨k,qX.mpr (by rw[M1 Y,e])⟩
 have:∀l:List Nat,(∀j∈l,∃k,fo o j=ar k)->(l.filterMap λj=>(fo o j).map λk=>(j,k)).length=l.length:=by
  intro l
  induction l with
  |nil=>intro _;rfl
  |cons x l ih=>
   intro h;obtain⟨k,e⟩:=h x Ni;rw[NQ,e];simp only[z8,q_];rw[ih λj X=>h j (M3 _ X)]
 have U:=this _ Z;have W:=we L;unfold d7 at W;rw[U,M0]at W;omega
theorem C9(O:GL m)(L:LaidN m hs o)(J:hs.length<=m)(x:Int):
  ∃j,G4 m o (Sy m) (Sx x % (m+1)) (Sx x)=ar j/\LaidN m (hs++[x]) (o.setIfInBounds j (ar hs.length)):=by
 obtain⟨G,S,W⟩:=wg L J;obtain⟨P,H,U⟩:=C5 O x G S;obtain⟨idx,_,g2,g3,I⟩:=tD L.siz x P (by rw[U];exact W) (Sy m) 0 (Nr _) (by unfold Sy;omega);refine⟨(cB m x idx).j,g2,?_⟩;generalize hj:(cB m x idx).j=j at g3⊢;have Y:j<o.size:=(Nq.mp g3).1;have self:(o.setIfInBounds j (ar hs.length))[j]? =ar (ar hs.length):=by simp[Y]
 have X:∀i,i≠j->(o.setIfInBounds j (ar hs.length))[i]? =o[i]? :=λi Z=>by rw[Array.getElem?_setIfInBounds_ne (j' Z)]
 have up:∀i,Bd o i->Bd (o.setIfInBounds j (ar hs.length)) i:=λi ⟨k,e⟩=>by
  by_cases Z:i=j
  ·subst Z;exact⟨_,self⟩
  ·exact⟨k,by rw[X i Z];exact e⟩
 refine⟨⟨by rw[Array.size_setIfInBounds];exact L.siz,λi k e=>?_⟩,?_⟩
 ·by_cases Z:i=j
  ·subst Z;rw[self]at e;cases e;exact⟨x,by simp,idx,hj,λq T=>up _ (I q (Nr _) T)⟩
  ·rw[X i Z]at e;obtain⟨y,R,n,K,Q⟩:=L.way i k e;refine⟨y,?_,n,K,λq T=>up _ (Q q T)⟩;rw[Nk (MX.mp R).1];exact R
 ·have N:=C8 (m:=m) (j:=j) (k:=hs.length) (f:=fo o) (g:=fo (o.setIfInBounds j (ar hs.length))) (by rw[<-L.siz];exact Y)
   (by unfold fo;rw[NG,g3];rfl) (qX.mpr self) (λi Z=>by unfold fo;rw[NG,NG,X i Z])
  refine(N.map (·.2)).trans ?_;rw[MT,PY,Qh];exact(EA _ L.all).trans (Qp _ _).symm
theorem zq(W:GL m):∀(rest hs:List Int) (o:Ie),LaidN m hs o->hs.length+rest.length<=m+1->
  ∃Y,rest.foldl (λ(acc:Option (Ie×Nat)) h=>do
   let (owner,k)<-acc;let j<-G4 m owner (Sy m) (Sx h % (m+1)) (Sx h)
   aC (owner.setIfInBounds j (ar k),k+1)) (ar (o,hs.length))=ar (Y,hs.length+rest.length)/\LaidN m (hs++rest) Y
 |[],hs,o,L,_=>⟨o,rfl,by rw[NL];exact L⟩
 |x::rest,hs,o,L,hl=>by
  rw[N4]at hl;obtain⟨j,e,U⟩:=C9 W L (by omega) x;obtain⟨Y,X,Z⟩:=zq W rest (hs++[x]) _ U (by simp;omega);refine⟨Y,?_,by rw[Nh]at Z;exact Z⟩;rw[List.foldl_cons];simp only[Option.bind_eq_bind,G_,e];rw[MT,PY]at X;simp only[Option.bind_eq_bind]at X;rw[N4,show hs.length+(rest.length+1)=hs.length+1+rest.length by omega];exact X
theorem Be(X:GL m)(Z:Array Int)(Y:Z.size<=m+1):∃o,layClean m Z=ar o/\LaidN m Z.toList o:=by
 have W:LaidN m [] (rB (m+1) none):=by
  refine⟨⟨by simp,λj k e=>?_⟩,?_⟩
  ·rw[QN]at e;split at e<;>cases e
  ·have:d7 m (fo (rB (m+1) none))=[]:=by
    unfold d7;rw[List.filterMap_eq_nil_iff];intro j _;have:fo (rB (m+1) none) j=none:=by
     cases e:fo (rB (m+1) none) j with
     |none=>rfl
     |some k=>
      rw[qX,QN]at e;split at e<;>cases e
    rw[this];rfl
   rw[this];exact .refl _
 obtain⟨o,e,L⟩:=zq X Z.toList [] _ W (by simpa using Y);refine⟨o,?_,by simpa using L⟩;unfold layClean;rw[<-Array.foldl_toList];rw[show(rB (m+1) (none:Option Nat),0)=(rB (m+1) none,([]:List Int).length)from rfl];rw[e];rfl
theorem qY(f:Nat->Option Nat):∀l:List Nat,((l.filterMap λj=>(f j).map λk=>(j,k)).map (·.1)).Sublist l
 |[]=>.slnil
 |x::l=>by
  rw[NQ];cases f x with
  |none=>exact .cons _ (qY f l)
  |some k=>exact .cons₂ _ (qY f l)
theorem qZ{f:Nat->Option Nat}:(j,k)∈d7 m f↔j<m+1/\f j=ar k:=by
 unfold d7;rw[Oq];constructor
 ·rintro⟨a,h1,h2⟩;cases e:f a with
  |none=>rw[e]at h2;cases h2
  |some b=>
   rw[e]at h2;cases h2;exact⟨Na.mp h1,e⟩
 ·rintro⟨h1,h2⟩;exact⟨j,Na.mpr h1,by rw[h2];rfl⟩
theorem Ig{l:List Nat}(h:l.Pairwise (· <·)):Fp l.toArray:=by intro i j a b Z X Y;rw[OI]at X Y;obtain⟨T,U⟩:=MX.mp X;obtain⟨S,W⟩:=MX.mp Y;have:=Pd.mp h i j T S Z;rw[U,W]at this;exact this
theorem Da{α Y:Type}{f:α->Option Y}:∀{l:List α},(∀x∈l,∃y,f x=ar y)->∀i:Nat,(l.filterMap f)[i]? =l[i]?.bind f
 |[],_,i=>by simp
 |x::l,h,i=>by
  obtain⟨y,e⟩:=h x Ni;rw[NQ,e];cases i with
  |zero=>simp[e]
  |succ i=>simpa using Da (λz Z=>h z (M3 _ Z)) i
theorem Fq{es:Array Ent}(G:GL m)(v:es.size*5<m*3)(J F:Nat)(O N:Bool):
  ∃(t':lb) (order:Array Nat),laid m J F O N (es.map (·.1))=ar (t',order)/\order.toList.Perm (dr es.size)/\(order.filterMap (es[·]?)).size=es.size/\TOk t' (order.filterMap (es[·]?))/\t'.led=O/\t'.plain=N/\t'.mask=m:=by
 obtain⟨o,e,L⟩:=Be G (es.map (·.1)) (by rw[Array.size_map];omega);have hlen:(es.map (·.1)).toList.length=es.size:=by simp
 have Z:=L.all;rw[hlen]at Z;have I:∀p∈d7 m (fo o),∃y,es[p.2]? =ar y:=λp T=>by have:p.2∈dr es.size:=Z.mem_iff.mp (OR T);rw[Na]at this;exact⟨es[p.2],M1 this⟩
 have S:(((d7 m (fo o)).map (·.2)).toArray.filterMap (es[·]?)).toList=((d7 m (fo o)).map (·.2)).filterMap (es[·]?):=by rw[Array.toList_filterMap]
 have X:(((d7 m (fo o)).map (·.2)).toArray.filterMap (es[·]?)).toList.Perm es.toList:=by rw[S];exact(Z.filterMap _).trans (by rw[filterMap_getElem?_range])
 have U:(((d7 m (fo o)).map (·.2)).toArray.filterMap (es[·]?)).size=es.size:=by have:=X.length_eq;simpa using this
 have Q:∀(j:Nat) (x:Ent),At (((d7 m (fo o)).map (·.1)).toArray) (((d7 m (fo o)).map (·.2)).toArray.filterMap (es[·]?)) j x↔∃k,(j,k)∈d7 m (fo o)/\es[k]? =ar x:=by
  intro j x;have key:∀i:Nat,(((d7 m (fo o)).map (·.2)).toArray.filterMap (es[·]?))[i]? =((d7 m (fo o))[i]?).bind λp=>es[p.2]? :=λi=>by
   rw[<-Ny,S,Da (λz E=>by obtain⟨p,T,rfl⟩:=Nm.mp E;exact I p T) i,Nn]
   cases (d7 m (fo o))[i]? <;>rfl
  constructor
  ·rintro⟨i,Y,W⟩;rw[OI,Nn]at Y;rw[key]at W;cases q:(d7 m (fo o))[i]? with
   |none=>rw[q]at Y;cases Y
   |some p=>
    rw[q]at Y W;cases Y;exact⟨p.2,Nz q,W⟩
  ·rintro⟨k,Y,W⟩;obtain⟨i,P⟩:=O4.mp Y;exact⟨i,by rw[OI,Nn,P];rfl,by rw[key,P];exact W⟩
 refine⟨⟨m,((d7 m (fo o)).map (·.1)).toArray, #[],J,O,F,N⟩,((d7 m (fo o)).map (·.2)).toArray,?_,by simpa using Z,U,⟨⟨G,rfl,?_,?_,?_,?_⟩,?_⟩,rfl,rfl,rfl⟩
 ·unfold laid;rw[e];rfl
 ·rw[U];show(((d7 m (fo o)).map (·.1)).toArray).size=_;rw[M8,MS,we L,hlen]
 ·exact Ig (P3 (qY _ _) PK)
 ·intro i a h;have h':(((d7 m (fo o)).map (·.1)).toArray)[i]? =ar a:=h;rw[OI]at h';obtain⟨p,T,rfl⟩:=Nm.mp (Nz h');have:=(qZ.mp T).1;show p.1<=m;omega
 ·intro j x w;obtain⟨k,Y,W⟩:=(Q j x).mp w;obtain⟨s,A⟩:=qZ.mp Y;obtain⟨y,g1,n,g2,g3⟩:=L.way j k (qX.mp A);have C:y=x.1:=by
   rw[Ny,Array.getElem?_map,W]at g1;cases g1;rfl
  subst C;refine⟨n,g2,λi P=>?_⟩;obtain⟨B,H⟩:=g3 i P;have K:(cB m x.1 i).j<m+1:=by rw[<-L.siz];exact(Nq.mp H).1
  have R:=qZ.mpr ⟨K,qX.mpr H⟩;obtain⟨u,t⟩:=I _ R;exact⟨u,(Q _ _).mpr ⟨B,R,t⟩⟩
 ·rw[U];exact v
theorem Bg{t:lb}{es:Array Ent}(W:es.size=5):∃(t':lb) (order:Array Nat),t.relaid (es.map (·.1)) (SetTable.grown 5)=ar (t',order)/\order.toList.Perm (dr es.size)/\(order.filterMap (es[·]?)).size=es.size/\
  TOk t' (order.filterMap (es[·]?))/\t'.led=t.led/\t'.plain=t.plain:=by
 obtain⟨t',o,X,U,Z,Y,S,T,_⟩:=Fq (es:=es) (m:=31) (.inr rfl) (by rw[W];decide) t.finger (t.movedTo 31) t.led t.plain;exact⟨t',o,X,U,Z,Y,S,T⟩
end S4
namespace S4
open PySem PySem.Spec PyProof.Rows
section
variable {prog:er}{w:fc}{A:hS}{E:a_->dn->Prop}{s:dn}
theorem items_int(h:ItemsAre (m1 prog w) ks vs):∀v∈vs,∃n t,v=oi n t:=by
 induction h with
 |nil=>intro v Z;cases Z
 | cons h1 _ ih=>
  intro v Z;rcases M9.mp Z with rfl|Z
  ·obtain⟨t,e⟩:=Value.isInt_shape h1;exact⟨_,t,e⟩
  ·exact ih v Z
theorem Bh{Q:Bool->dn->Prop}(Y:k4 (m1 prog w) s.heap ks a)(h:Q b_ s):ee (fg prog w) A (RM 8 (.ref a)) Q E s:=by
 have X:=Y.typeIs;obtain⟨o,items,n,W,_,hd,U⟩:=Y;unfold RM;refine MR (wpAny_specialOf X F.slot_tuple_hash.lookup ?_);show ee _ _ (Sk (.ref a)>>=_) _ _ s;refine MR (On W hd ?_);refine MR ?_;show ee _ _ (Si items _ _) _ _ s;rw[<-Array.forIn_toList];refine Ph _ (λrest r s'=>r.1=none/\s'=s/\∀v∈rest,∃n t,v=oi n t) _ ?_ ?_ _ _ ⟨rfl,rfl,items_int U⟩
 ·rintro v rest r s' ⟨hr,rfl,hall⟩;obtain⟨i,t,rfl⟩:=hall v Ni;refine MR ?_;unfold RM;refine MW ?_;simp only[y',e_,if_false];exact MW ⟨rfl,rfl,λu Z=>hall u (M3 _ Z)⟩
 ·rintro⟨r1,r2⟩ s' ⟨hr,rfl,_⟩;simp only at hr;subst hr;exact MW h
theorem pI{Q:Bool->dn->Prop}(Y:k4 (m1 prog w) s.heap ks a)(h:Q dt s):ee (fg prog w) A (G2 8 (.ref a)) Q E s:=by
 have X:=Y.typeIs;obtain⟨o,items,n,W,_,hd,U⟩:=Y;unfold G2;refine MR (PX X ?_);simp only;rw[if_pos (by decide)];refine MR (MW ?_);simp only[y',e_,if_false];refine MR (On W hd ?_);simp only;refine MR ?_;show ee _ _ (Si items _ _) _ _ s;rw[<-Array.forIn_toList];refine Ph _ (λrest r s'=>r.1=none/\s'=s/\∀v∈rest,∃n t,v=oi n t) _ ?_ ?_ _ _ ⟨rfl,rfl,items_int U⟩
 ·rintro v rest r s' ⟨hr,rfl,hall⟩;obtain⟨i,t,rfl⟩:=hall v Ni;refine MR ?_;unfold G2;refine MW ?_;simp only[e_,if_false];exact MW ⟨rfl,rfl,λu Z=>hall u (M3 _ Z)⟩
 ·rintro⟨r1,r2⟩ s' ⟨hr,rfl,_⟩;simp only at hr;subst hr;exact MW h
theorem Ih(W:k4 (m1 prog w) s.heap kx ax)(U:∀y∈ys,∃k a,y= .ref a/\k4 (m1 prog w) s.heap k a){Q:Bool->dn->Prop}(h:Q dt s):
  ee (fg prog w) A (searchCouldBeSeen (.ref ax) ys) Q E s:=by
 unfold searchCouldBeSeen;refine MR ?_;refine Ph _ (λrest r s'=>r.1=none/\s'=s/\∀v∈rest,∃k a,v= .ref a/\k4 (m1 prog w) s.heap k a) _ ?_ ?_ _ _ ⟨rfl,rfl,U⟩
 ·rintro v rest r s' ⟨hr,rfl,hall⟩;obtain⟨k,a,rfl,Y⟩:=hall v Ni;have X:∀u∈rest,∃k a,u= .ref a/\k4 (m1 prog w) s'.heap k a:=λu Z=>hall u (M3 _ Z);simp only;split
  ·exact MW ⟨rfl,rfl,X⟩
  ·refine MR (wpAny_eqIsQuiet_tuple W ?_);simp only[y',e_,if_false];refine MR (wpAny_eqIsQuiet_tuple Y ?_);simp only[y',e_,if_false];refine MR (pI W ?_);simp only[e_,if_false];refine MR (pI Y ?_);simp only[e_,if_false];exact MW ⟨rfl,rfl,X⟩
 ·rintro⟨r1,r2⟩ s' ⟨hr,rfl,_⟩;simp only at hr;subst hr;exact MW h
abbrev KA:=List Int×c_
def i4(prog:er)(w:fc)(k:List Int):Int:=tupleKeyHash (m1 prog w) k
def ent(prog:er)(w:fc)(p:KA):Ent:=(i4 prog w p.1,.ref p.2)
def yc(prog:er)(w:fc)(h:gd)(L:List KA):Prop:=∀p∈L,k4 (m1 prog w) h p.1 p.2
structure SetAt(prog:er)(w:fc)(h:gd)(a:c_)(o:Obj)(es:Array Ent)(ep:Nat)(t:lb)(L:List KA):Prop where
 get:h.get? a=ar o
 ex:o.ExactSet
 dat:o.data= .set es ep t
 ok:TOk t es
 pln:t.plain=b_
 led:t.led= !(w.params.followText "set-order")
 ents:es.toList=L.map (ent prog w)
 nd:(L.map (·.1)).Nodup
theorem SetAt.fits(k:SetAt prog w h a o es ep t L):t.fits es.size=true:=k.ok.fits k.ok.le
theorem SetAt.ent_at(k:SetAt prog w h a o es ep t L)(i:Nat):es[i]? =(L[i]?).map (ent prog w):=by rw[<-Ny,k.ents,Nn]
theorem SetAt.len(k:SetAt prog w h a o es ep t L):es.size=L.length:=by rw[<-OQ,k.ents,MS]
theorem Dc{t:lb}:t.sameMemory t.moves t.mask=ar true:=by unfold SetTable.sameMemory;simp
theorem tE{a ax:c_}{o:Obj}{es:Array Ent}{ep:Nat}{t:lb}{L:List KA}{Z:List Int}(hu:A.units<u3)(k:SetAt prog w s.heap a o es ep t L)(u:yc prog w s.heap L)(g:k4 (m1 prog w) s.heap Z ax)
  {K:Nat} (B:t.slot (cB t.mask (i4 prog w Z) K).j= .empty) (F:K<10*E1 t.mask) {Q:SetFound->dn->Prop}
  (U:Z∈L.map (·.1)->Q (.there none) s)
  (N:Z∉L.map (·.1)->∀n,t.slot (cB t.mask (i4 prog w Z) n).j= .empty->(∀m,m<n->∃i,t.slot (cB t.mask (i4 prog w Z) m).j= .live i)->Q (.free (cB t.mask (i4 prog w Z) n).j dt) s):
  ∀(fuel n:Nat) (st:Option SetTable.Probe),st.getD (t.probeStart (i4 prog w Z))=cB t.mask (i4 prog w Z) n->n<=K->K - n<fuel->
   (∀m,m<n->∃i,t.slot (cB t.mask (i4 prog w Z) m).j= .live i/\∀p,L[i]? =ar p->p.1≠Z)->ee (fg prog w) A (setSearchFrom a (.ref ax) (i4 prog w Z) b_ fuel st) Q E s
 |0,n,st,e,v,h2,h3=>by omega
 | fuel+1,n,st,e,v,h2,h3=>by
  have odd:t.gaveWay=false:=by unfold SetTable.gaveWay;rcases k.ok.msk with h|h<;>rw[h]<;>rfl
  unfold setSearchFrom;refine MR (Oj k.get k.dat k.fits ?_);simp only;rw[odd];simp only[e_,if_false];rw[e];obtain⟨Y,g1,g2,g3,g4⟩:=zm k.ok.dum (λi=>(es[i]?.map (·.1)).getD 0) (i4 prog w Z) K B (10*E1 t.mask) n v (by omega);have stored:∀(i:Nat) (p:KA),L[i]? =ar p->(es[i]?.map (·.1)).getD 0=i4 prog w p.1:=λi p W=>by rw[k.ent_at,W];rfl
  have before:∀m,m<Y->∃i,t.slot (cB t.mask (i4 prog w Z) m).j= .live i/\∀p,L[i]? =ar p->p.1≠Z:=λm hm=>by
   by_cases hmn:m<n
   ·exact h3 m hmn
   ·obtain⟨i,R,f⟩:=g3 m (by omega) hm;refine⟨i,R,λp W z=>f ?_⟩;rw[stored i p W,z]
  rcases g4 with⟨c1,c2⟩|⟨i,c1,c2,c3⟩
  ·generalize hpr:t.probe _ (i4 prog w Z) (cB t.mask (i4 prog w Z) n)=pr;have ep:pr=ar (.empty (cB t.mask (i4 prog w Z) Y).j none):=hpr.symm.trans c2;subst ep;simp only;refine MW (N (λG=>?_) Y c1 λm hm=>let ⟨i,q,_⟩:=before m hm;⟨i,q⟩);obtain⟨p,W,rfl⟩:=Nm.mp G;obtain⟨O,I⟩:=O4.mp W;have X:es[O]? =ar (ent prog w p):=by rw[k.ent_at,I];rfl
   have T:O<t.place.size:=by rw[k.ok.siz];exact(Nq.mp X).1
   have c:At t.place es t.place[O] (ent prog w p):=⟨O,M1 T,X⟩;obtain⟨b,w1,w2⟩:=k.ok.way _ _ c;have P:(cB t.mask (i4 prog w p.1) b).j=t.place[O]:=w1;rcases Nat.lt_or_ge b Y with l|l
   ·obtain⟨i,R,f⟩:=before b l;rw[P,qg k.ok.ris (M1 T)]at R;cases R;exact f p I rfl
   ·rcases Nat.eq_or_lt_of_le l with l|l
    ·subst l;rw[P,qg k.ok.ris (M1 T)]at c1;cases c1
    ·obtain⟨e',i',R,_⟩:=w2 Y l;have r:t.place[i']? =ar (cB t.mask (i4 prog w p.1) Y).j:=R;rw[qg k.ok.ris r]at c1;cases c1
  ·generalize hpr:t.probe _ (i4 prog w Z) (cB t.mask (i4 prog w Z) n)=pr;have ep:pr=ar (.candidate (cB t.mask (i4 prog w Z) Y).j i (cB t.mask (i4 prog w Z) (Y+1))):=hpr.symm.trans c3;subst ep;simp only;have hi:i<es.size:=by rw[<-k.ok.siz];exact(Nq.mp (oY c1)).1
   have S:i<L.length:=by rw[<-k.len];exact hi
   have W:L[i]? =ar L[i]:=MY S;have X:es[i]? =ar (ent prog w L[i]):=by rw[k.ent_at,W];rfl
   have J:k4 (m1 prog w) s.heap L[i].1 L[i].2:=u _ (Oe S);have d:∀y∈SC (λx:Ent=>x.snd) (Array.filter (λx:Ent=>x.fst==i4 prog w Z) es).toList,∃k a,y= .ref a/\k4 (m1 prog w) s.heap k a:=λy hy=>by
    obtain⟨e1,v,rfl⟩:=Nm.mp hy;have C:e1∈es.toList:=by have:=P8.mp v;exact P8.mpr (Array.mem_filter.mp this).1
    rw[k.ents]at C;obtain⟨p,W,rfl⟩:=Nm.mp C;exact⟨p.1,p.2,rfl,u p W⟩
   split
   case' isTrue=>
    refine MR (Ih g d ?_);simp only[e_,if_false]
   all_goals
    rw[X];simp only[ent];refine MR (NV (wpAny_eqBool_tuple hu J g ?_));refine MR (Oj k.get k.dat k.fits ?_);by_cases hq:L[i].1=Z
    ·rw[Nb hq];simp only[Rr,if_true];exact MW (U (Nm.mpr ⟨_,Oe S,hq⟩))
    ·rw[Nv hq];simp only[O_,e_,if_false];rw[Dc];simp only[if_true];rw[c1];simp only;rw[X];simp only[ent];refine MR (wpAny_isSame_ref_self (MR (MW ?_)));simp only[if_true];refine tE hu k u g B F U N fuel (Y+1) _ rfl ?_ ?_ λm hm=>?_
     ·have:Y≠K:=λz=>by subst z;rw[B]at c1;cases c1
      omega
     ·have:Y≠K:=λz=>by subst z;rw[B]at c1;cases c1
      omega
     ·by_cases hmn:m<Y
      ·exact before m hmn
      ·have:m=Y:=by omega
       subst this;exact⟨i,c1,λp H=>by rw[W]at H;cases H;exact hq⟩
end
def Ki(L:List KA)(p:KA)(L':List KA):Prop:=(p.1∈L.map (·.1)/\L'=L)\/(p.1∉L.map (·.1)/\L'.Perm (p::L))
section
variable {prog:er}{w:fc}{A:hS}{E:a_->dn->Prop}{s:dn}
theorem zv{h:gd}(Y:h.get? a=ar o)(Z:o.data= .set es ep t):(h.update a (L_ es' t')).get? a=ar {o with data:=.set es' (ep+1) t'}:=by have:=N0 (L_ es' t') Y (by rw[putSet_of es' t' Z];rfl);rw[putSet_of es' t' Z]at this;exact this
theorem Ii(hu:A.units<u3)(k:SetAt prog w s.heap a o es ep t L)(hL:yc prog w s.heap L)(c:k4 (m1 prog w) s.heap kx ax)
  (a3:L.length<18) {Q:Bool->dn->Prop}
  (h:∀b h' o' es' ep' t' J,SetAt prog w h' a o' es' ep' t' J->ri a s.heap h'->Ki L (kx,ax) J->Q b {s with heap:=h'}):
  ee (fg prog w) A (setAddHashed a (.ref ax) (i4 prog w kx)) Q E s:=by
 obtain⟨j0,l,u⟩:=Bc k.ok.ris k.ok.dum (by rw[k.ok.siz];exact k.ok.le);obtain⟨K,f,g⟩:=cover k.ok.msk (i4 prog w kx) j0 l;have a5:10*E1 t.mask<=100000:=by unfold E1;rcases k.ok.msk with z|z<;>rw[z]<;>decide
 unfold setAddHashed setAddHashedIn;refine NV (MR (Oj k.get k.dat k.fits ?_));have x:byScan (.ref ax) es=false:=by simp[byScan,Value.scannable]
 simp only[x,e_,if_false];unfold setSearch;refine MR ?_;refine tE hu k hL c (by rw[g];exact u) f ?_ ?_ 100000 0 none rfl (Nr _) (by omega) (λm hm=>by omega)
 ·intro Y;simp only;refine MW ?_;have e:s={s with heap:=s.heap}:=by cases s;rfl
  rw[e];exact h _ s.heap o es ep t L k (Heap.SameBut.refl a s.heap) (.inl ⟨Y,rfl⟩)
 ·intro Y n d hb;simp only;refine MR (Oj k.get k.dat k.fits ?_);generalize hj:(cB t.mask (i4 prog w kx) n).j=j at d;have C:j<=t.mask:=by
   rw[<-hj];rcases Nat.eq_zero_or_pos n with z|z
   ·subst z;show SetTable.bits _ % (t.mask+1)<=t.mask;have:=QK (SetTable.bits (i4 prog w kx)) (show t.mask+1>0 by omega);omega
   ·exact Fo _ _ _ k.ok.msk
  obtain⟨T,B,y,H⟩:=Ib (e:=ent prog w (kx,ax)) (K:=n) k.ok.toTPre C d hj λm hm=>by obtain⟨i,q⟩:=hb m hm;obtain⟨e',_,q'⟩:=k.ok.toTPre.at_of (oY q);exact⟨e',q'⟩
  generalize hP:t.put j=P at T B y H⊢;obtain⟨t1,pp⟩:=P;simp only at T B y H⊢;have T:TPre t1 (ey es pp (i4 prog w kx,eo ax)):=T;rw[if_pos (by rw[H];exact k.pln)];refine MR (Bh c ?_);simp only[if_true];have Z:(ey es pp (i4 prog w kx,eo ax)).size=es.size+1:=qW _ _ _;have hlen:=k.len;refine MR (wpAny_storeSet_of k.get k.dat ?_ (by rw[Z,N5];omega));have g1:=zv (es':=ey es pp (i4 prog w kx,eo ax)) (t':=t1) k.get k.dat;have F:=Ol s.heap a (L_ (ey es pp (i4 prog w kx,eo ax)) t1);have X:(ey es pp (i4 prog w kx,eo ax)).toList=(L.take pp++(kx,ax)::L.drop pp).map (ent prog w):=by rw[SetTable.toList_insertAt,k.ents,NC,Nd,List.map_take,List.map_drop];rfl
  have W:(L.take pp++(kx,ax)::L.drop pp).Perm ((kx,ax)::L):=by
   have:=List.perm_middle (a:=(kx,ax)) (l₁:=L.take pp) (l₂:=L.drop pp)
   rwa [List.take_append_drop]at this
  have r:((kx::L.map (·.1))).Nodup:=NN.mpr ⟨Y,k.nd⟩;have G:∀J:List KA,J.Perm ((kx,ax)::L)->(J.map (·.1)).Nodup:=λJ hp=>(Pn (hp.map (λp:KA=>p.1))).mpr r;by_cases hful:t1.tooFull=b_
  ·rw [hful];simp only[Bool.not_false,Rr,if_true];have S:(es.size+1)*5 ≥ t.mask*3:=by
    unfold SetTable.tooFull SetTable.fill at hful;rw[T.siz,T.dum,B,Z]at hful;simpa using hful
   have h5:es.size+1=5:=by have:=k.ok.few;rcases k.ok.msk with z|z<;>rw[z]at S this<;>omega
   obtain⟨v,ord,r1,r2,r3,r4,r5,r6⟩:=Bg (t:=t1) (es:=ey es pp (i4 prog w kx,eo ax)) (by rw[Z];exact h5);have I:t1.fits (ey es pp (i4 prog w kx,eo ax)).size=true:=T.fits (by rw[Z,B];have:=k.ok.few;rcases k.ok.msk with z|z<;>rw[z]at this⊢<;>omega)
   unfold setRelay;refine MR (MR (Oj (s:={s with heap:=s.heap.update a (L_ (ey es pp (i4 prog w kx,eo ax)) t1)}) g1 rfl I ?_));simp only;rw[h5];rw[if_neg (by rw[N5];decide)];rw[r1];refine MR ?_;have step:∀(R:Array Ent×lb->dn->Prop) (s1:dn),R (ord.filterMap ((ey es pp (i4 prog w kx,eo ax))[·]?),v) s1->
     ee (fg prog w) A (if ((ord.filterMap ((ey es pp (i4 prog w kx,eo ax))[·]?)).size !=(ey es pp (i4 prog w kx,eo ax)).size)=b_
      then (do unsupported "internal:set-table-lost-an-element";aC (ord.filterMap ((ey es pp (i4 prog w kx,eo ax))[·]?),v))else aC (ord.filterMap ((ey es pp (i4 prog w kx,eo ax))[·]?),v)) R E s1:=λR s1 hR=>by
    rw[if_neg (by rw[r3];simp)];exact MW hR
   refine step _ _ ?_;refine wpAny_storeSet_of (s:={s with heap:=s.heap.update a (L_ (ey es pp (i4 prog w kx,eo ax)) t1)}) g1 rfl ?_ (by rw[r3,Z,N5];omega);have N:(ord.filterMap ((ey es pp (i4 prog w kx,eo ax))[·]?)).toList=(ord.toList.filterMap ((L.take pp++(kx,ax)::L.drop pp)[·]?)).map (ent prog w):=by rw[Array.toList_filterMap,List.map_filterMap];refine nD λi _=>?_;rw[<-Ny,X,Nn]
   have U:(ord.toList.filterMap ((L.take pp++(kx,ax)::L.drop pp)[·]?)).Perm ((kx,ax)::L):=by
    refine(r2.filterMap _).trans ?_;have e1:(ey es pp (i4 prog w kx,eo ax)).size=(L.take pp++(kx,ax)::L.drop pp).length:=by rw[<-OQ,X,MS]
    rw[e1,List.filterMap_getElem?_range_length];exact W
   refine MW (h _ _ _ _ _ _ _ ⟨zv g1 rfl,k.ex,rfl,r4,by rw[r6,H];exact k.pln,by rw[r5,y];exact k.led,N,G _ U⟩ (F.trans (Ol _ a _)) (.inr ⟨Y,U⟩))
  ·simp only[hful,O_,e_,if_false];refine MW ?_;refine h _ _ _ _ _ _ _ ⟨g1,k.ex,rfl,⟨T,?_⟩,by rw[H];exact k.pln,by rw[y];exact k.led,X,G _ W⟩ F (.inr ⟨Y,W⟩);unfold SetTable.tooFull SetTable.fill at hful;rw[T.siz,T.dum]at hful;have O:¬ (ey es pp (i4 prog w kx,eo ax)).size*5 ≥ t1.mask*3:=by simpa using hful
   exact Nat.lt_of_not_ge O
end
theorem yd{h':gd}(x:k4 (m1 prog w) h k a)(e:∀o,h.get? a=ar o->h'.get? a=ar o):k4 (m1 prog w) h' k a:=
 let ⟨o,its,n,ho,r⟩:=x
 ⟨o,its,n,e o ho,r⟩
theorem SetAt.at{h':gd}(k:SetAt prog w h a o es ep t L)(e:∀o,h.get? a=ar o->h'.get? a=ar o):SetAt prog w h' a o es ep t L:=
 {k with get:=e o k.get}
structure Folded(kv L:List KA):Prop where
 nd:(L.map (·.1)).Nodup
 mem:∀k,k∈L.map (·.1)↔k∈kv.map (·.1)
 sub:∀p∈L,p∈kv
 len:L.length<=kv.length
theorem Folded.nil:Folded [] []:=⟨.nil,λ_=>.rfl,λ_ h=>h,MV _⟩
theorem Folded.add(f:Folded kv L)(h:Ki L p L'):Folded (kv++[p]) L':=by
 rcases h with⟨h1,rfl⟩|⟨h1,h2⟩
 ·refine⟨f.nd,λk=>?_,λq Z=>Ob _ (f.sub q Z),by have:=f.len;simp;omega⟩;rw[f.mem,NC,NA];refine⟨.inl,λz=>z.elim id λz=>?_⟩;have:k=p.1:=by simpa using z
  rw[this];exact(f.mem _).mp h1
 ·have hm:=h2.map (λq:KA=>q.1);refine⟨(Pn hm).mpr (NN.mpr ⟨h1,f.nd⟩),λk=>?_,λq Z=>?_,by have:=f.len;rw[h2.length_eq];simp;omega⟩
  ·rw[hm.mem_iff,Nd,M9,f.mem,NC,NA];constructor
   ·rintro(rfl|z)
    ·exact .inr (by simp)
    ·exact .inl z
   ·rintro(z|z)
    ·exact .inr z
    ·exact .inl (by simpa using z)
  ·rcases M9.mp (h2.mem_iff.mp Z)with rfl|z
   ·exact Nj _ (NP.mpr rfl)
   ·exact Ob _ (f.sub q z)
section
variable {prog:er}{w:fc}{A:hS}{R:SL->dn->Prop}{I:c_}{fp wr:List c_}{G:Array P1->Array P1->Prop}{n:Nat}{P:Nat->a_->Prop}{St:Nat->dn->Prop}
theorem Fs(W:WalksS prog w A.in1 I fp wr G n P St)(y:S∉fp)(Z:Nat->KA)(x:∀i v,P i v->v= .ref (Z i).2)(hn:n<=18)(f:A.in1.units<u3)(J:∀i,i<n->(Z i).2∉S::wr):
  ∀(c i:Nat) (s:dn),n - i=c->i<=n->St i s->(∀j,j<n->k4 (m1 prog w) s.heap (Z j).1 (Z j).2)->∀o es ep t L,SetAt prog w s.heap S o es ep t L->Folded ((dr i).map Z) L->
   (∀s',Moved (S::wr) G s s'->∀o es ep t L,SetAt prog w s'.heap S o es ep t L->Folded ((dr n).map Z) L->R (.ok (.ret .none)) s')->
   B' (fg prog w) A (.builtin "set.update.loop" ⟨[.ref S,.ref I],[]⟩) R s:=by
 have H:S∉wr:=λh=>y (W.sub _ h);have X:∀b∈wr,b∈S::wr:=λb B=>M3 _ B;intro c
 induction c with
 |zero=>
  intro i s hc hi T d o es ep t L r E u;obtain rfl:i=n:=by omega
  refine O5 F.entry_set_update_loop ?_;rw[OL PB _];show ee _ A.in1 (D' (.ref I)>>=_) _ _ s;refine MR (W.done s _ _ T λs' hm=>?_);show ee _ A.in1 (ret hO) _ _ s';exact MW (u s' (hm.mono X) o es ep t L (r.at λN e=>hm.heap S N H e) E)
 | succ c ih=>
  intro i s hc hi T d o es ep t L r E u;have Y:i<n:=by omega
  refine O5 F.entry_set_update_loop ?_;rw[OL PB _];show ee _ A.in1 (D' (.ref I)>>=_) _ _ s;refine MR (W.item i s _ _ Y T λv s' hP K hm=>?_);cases x i v hP;have k:=r.at (h':=s'.heap) λN e=>hm.heap S N H e;have U:∀j,j<n->k4 (m1 prog w) s'.heap (Z j).1 (Z j).2:=λj O=>yd (d j O) λN e=>hm.heap _ N (λz=>J j O (X _ z)) e;show ee _ A.in1 (B_ [eo (Z i).2] (setAdd S (.ref (Z i).2))>>=_) _ _ s';refine MR (NV ?_);unfold setAdd;refine NV ?_;refine MR (wpAny_pyHash_tuple f (U i Y) ?_);have a5:L.length<=i:=by have:=E.len;simpa using this
  have l:yc prog w s'.heap L:=λp hp=>by obtain⟨j,O,rfl⟩:=Nm.mp (E.sub p hp);exact U j (Qu (Na.mp O) Y)
  refine Ii (s:={s' with toks:=s'.toks+((Z i).1.length+1)}) f k l (U i Y) (by omega) λb h' N es' a4 t' a m Q hA=>?_;have g:Folded ((dr (i+1)).map Z) a:=by rw[Qh,NC];exact E.add hA
  refine MW ⟨QU PB _,ih (i+1) _ (by omega) Y (W.frame _ s' _ _ K (OS _ _) λb B o e=>?_) (λj O=>yd (U j O) λo e=>?_) _ _ _ _ _ m g λq C=>?_⟩
  ·rw[Q.2 b (λh:b=S=>y (by rw[<-h];exact B))];exact e
  ·rw[Q.2 _ (λh=>J j O (by rw[h];exact Ni))];exact e
  ·refine u q (Moved.trans W.gtrans ((hm.mono X).then_heap (OS _ _) λb o B e=>?_) C);rw[Q.2 b (λh:b=S=>B (by rw[h];exact Ni))];exact e
end
section
variable {prog:er}{w:fc}{A:hS}{E:a_->dn->Prop}{s:dn}
theorem wj:RI (.type "tuple") (.type "set")=aC false:=by rw[PU];kernel_rfl
theorem uE:RI (.type "tuple") (.type "frozenset")=aC false:=by rw[PU];kernel_rfl
def eP(led:Bool):Obj:={cls:=.type "set",dict:=none,data:=.set #[] 0 (.fresh 0 0 led)}
def i7(w:fc):Bool:= !(w.params.followText "set-order")
def Src(h:gd)(x:c_)(items:Array a_):Prop:=h.IsList x items\/h.IsTuple x items
theorem Src.at{h':gd}(r:Src h x items)(e:∀o,h.get? x=ar o->h'.get? x=ar o):Src h' x items:=by
 rcases r with⟨o,ho,r⟩|⟨o,ho,r⟩
 ·exact .inl ⟨o,e o ho,r⟩
 ·exact .inr ⟨o,e o ho,r⟩
theorem Src.lt(r:Src h x items):x<h.objs.size:=by rcases r with⟨o,ho,_⟩|⟨o,ho,_⟩<;>exact MZ ho
theorem Dd(r:Src s.heap x items)
  (h:∀(ob:Obj) (St:Nat->gd->Prop),(∀Y:hS,Y.handled=none->Walks prog w Y s.heap.objs.size [s.heap.objs.size,x] [s.heap.objs.size] items.size (λi v=>items[i]? =ar v) St)->St 0 (s.heap.push ob)->
   Q (.ref s.heap.objs.size) {s with heap:=s.heap.push ob}):ee (fg prog w) A (RT (.ref x)) Q E s:=by
 have Z:x≠s.heap.objs.size:=Ng r.lt;rcases r with r|r
 ·refine QB r (h _ _ (λY X=>Walks.list X s.heap.objs.size x Z items) ⟨⟨_,M6 _ rfl,rfl,rfl⟩,r.push _⟩)
 ·refine Pr r (h _ _ (λY X=>Walks.tuple X s.heap.objs.size x Z items) ⟨⟨_,M6 _ rfl,rfl,rfl⟩,?_⟩);obtain⟨o,W,q⟩:=r;exact⟨o,MU _ W,q⟩
theorem Ma(a:a_){Q1:a_->dn->Prop}(h:Q1 (.ref s.heap.objs.size) {s with heap:=s.heap.push (eP (i7 w))}):
  B' (fg prog w) A (.call (.builtin "set.__new__") ⟨[.type "set",a],[]⟩) (wants Q1 E) s:=by
 refine codeAny_of_tree ?_;show ee _ A.in1 (do K' "set.__new__" ⟨[.type "set",a],[]⟩;RU (.builtin "set.__new__" ⟨[.type "set",a],[]⟩)) _ _ s;refine MR (RN (F.newCall_set_1 a) (MW ⟨QU F.plain_set_new _,O5 F.entry_set_new ?_⟩));rw[OL F.plain_set_new _];unfold Builtin.«set.__new__» Builtin.Frozenset.newClass;have Z:=sub_set_self;obtain⟨Y,g,d,X,os⟩:=s;dsimp only
 wp_walk
 refine Pj (MW ?_);dsimp only;simp only[newObj];exact MR (wpAny_alloc (MW (MW h)))
theorem De(r:Src s.heap x items):∃T,s.TypeIs (.ref x) T/\RI (.type T) (.type "set")=aC dt/\RI (.type T) (.type "frozenset")=aC dt/\(v_ T==v_ "dict")=false:=by
 rcases r with⟨o,ho,hc,_⟩|⟨o,ho,hc,_⟩
 ·exact⟨"list",⟨o,ho,hc⟩,F.sub_list_set,F.sub_list_frozenset,by decide⟩
 ·exact⟨"tuple",⟨o,ho,hc⟩,wj,uE,by decide⟩
set_option maxHeartbeats 8000000 in
theorem Ij(hh:A.handled=none)(g:A.in1.in1.in1.units<u3)(r:Src s.heap x items)(X:Nat->KA)(T:∀(i:Nat) (v:a_),items[i]? =ar v->v= .ref (X i).2)(hn:items.size<=18)
  (p:∀j,j<items.size->k4 (m1 prog w) s.heap (X j).1 (X j).2)
  (h:∀(h':gd) (tk:Nat) o es ep t L,SetAt prog w h' s.heap.objs.size o es ep t L->Folded ((dr items.size).map X) L->(∀b o,b<s.heap.objs.size->s.heap.get? b=ar o->h'.get? b=ar o)->
   Q (.ref s.heap.objs.size) {s with heap:=h',toks:=tk}):ee (fg prog w) A (call (.type "set") [.ref x]) Q E s:=by
 obtain⟨c,tl,y⟩:=F.called_set.mro;have G:=F.called_set.made;have m:=F.called_set.sub;refine Qe (codeAny_of_tree ?_);show ee _ _ (callAny (.type "set") _) _ _ _;refine MW ⟨Code.quiet_builtin _ (by decide+kernel),O5 F.entry_type_call ?_⟩;rw[Around.under_plain (weight_type_call_type "set" [.ref x] []) rfl];have h1:=F.called_set.notType;have h2:=F.called_set.canCreate;have b3:=F.typeCall_set_1 (.ref x)
 repeat (any_goals (first|assumption|wp_step))
 refine OO (Ma (.ref x) (E:=E) (Q1:=λobj s1=>obj= .ref s.heap.objs.size/\s1={s with heap:=s.heap.push (eP (i7 w))}) ⟨rfl,rfl⟩) λrr s1 O=>?_;cases rr with
 |error e=>exact O
 | ok fl=>
  cases fl with
  | ret obj=>
   obtain⟨rfl,rfl⟩:=O;have B:(s.heap.push (eP (i7 w))).get? s.heap.objs.size=ar (eP (i7 w)):=M6 _ rfl;have q:Rt {s with heap:=s.heap.push (eP (i7 w))} (.ref s.heap.objs.size) "set":=⟨_,B,rfl⟩;have b1:=F.called_set.init.lookup;have a:=F.called_set.init.bind (.ref s.heap.objs.size)
   repeat (any_goals (first|assumption|wp_step))
   refine OO (codeAny_call_builtin (R:=wants (λr s2=>r= .none/\Q (.ref s.heap.objs.size) s2) E) F.called_set.init.plain F.entry_set_init (check_set_init_1 q ?_)) λd s2 Z=>?_
   ·have n:Src (s.heap.push (eP (i7 w))) x items:=r.at λo e=>MU _ e;obtain⟨Tx,a7,k,b0,hd⟩:=De (s:={s with heap:=s.heap.push (eP (i7 w))}) n;unfold Builtin.«set.__init__» noKeywords Builtin.Frozenset.updateFrom;generalize hPI:RT=PI;have a3:=q;unfold eP at B
    wp_walk
    subst hPI;refine Dd (s:={s with heap:=s.heap.push (eP (i7 w))}) n λz St W K=>?_;refine MR (wpAny_runValue ?_);have P:x<s.heap.objs.size:=r.lt;have Y:(s.heap.push (eP (i7 w))).objs.size=s.heap.objs.size+1:=N9 _ _;have I:s.heap.objs.size∉[(s.heap.push (eP (i7 w))).objs.size,x]:=by rw[Y];simp only[f_,eK,or_false,not_or];exact⟨Ng (OE _),OF P⟩
    have J:A.in1.in1.in1.handled=none:=by simp[hh]
    have up:∀b o,s.heap.get? b=ar o->((s.heap.push (eP (i7 w))).push z).get? b=ar o:=λb o e=>MU _ (MU _ e);have U:∀j,j<items.size->(X j).2<s.heap.objs.size:=λj S=>let ⟨_,_,_,e,_⟩:=p j S;MZ e;have S0:SetAt prog w ((s.heap.push (eP (i7 w))).push z) s.heap.objs.size (eP (i7 w)) #[] 0 (.fresh 0 0 (i7 w)) []:=
     ⟨MU _ (M6 _ rfl),⟨rfl,rfl,rfl⟩,rfl,C6 _,rfl,rfl,rfl,.nil⟩
    refine Fs ((W _ J).toS) I X T hn g (λj S=>?_) (items.size - 0) 0 _ rfl (Nr _) K (λj S=>yd (p j S) λo e=>up _ o e) _ _ _ _ _ S0 .nil λs' hm o es ep t L N f=>?_
    ·rw[Y];have:=U j S;simp only[f_,eK,or_false,not_or];exact⟨Ng this,Ng (N8 this)⟩
    ·obtain⟨h',g',d',H,C⟩:=s';have eg:g'=s.gens:=hm.gens;have ed:d'=s.drawn:=hm.drawn;have l:C=s.os:=hm.os;subst eg ed l;show ee _ _ _ _ _ _;refine MW ?_;show ee _ _ (ret hO) _ _ _;refine MW ⟨rfl,h h' H o es ep t L N f λb o u e=>?_⟩;refine hm.heap b o ?_ (up b o e);rw[Y];simp only[f_,eK,or_false,not_or];exact⟨Ng u,Ng (N8 u)⟩
   ·cases d with
    |error e=>exact Z
    | ok fl2=>
     cases fl2 with
     |ret rv=>
      obtain⟨rfl,hq⟩:=Z
      repeat (any_goals (first|assumption|wp_step))
     |_=>exact Z.elim
  |_=>exact O.elim
end
theorem q0{α:Type}:∀{l:List α} {i:Nat} {x:α},l[i]? =ar x->l.Perm (x::l.eraseIdx i)
 |[],_,_,h=>by simp at h
 |y::l,0,x,h=>by simp at h;subst h;exact .refl _
 |y::l,i+1,x,h=>by
  have:=q0 (l:=l) (i:=i) (x:=x) (by simpa using h);rw[List.eraseIdx_cons_succ];exact(EA y this).trans (.swap _ _ _)
theorem zw{α:Type}(Z:Nat->Nat):∀(fuel k:Nat) (left:List α) (out:Array α),left.length=fuel->(RC Z fuel k left out).toList.Perm (out.toList++left)
 |0,k,left,out,h=>by
  have:left=[]:=List.length_eq_zero_iff.mp h;subst this;unfold RC;simp
 |fuel+1,k,left,out,h=>by
  unfold RC;have Y:Z k % left.length<left.length:=QK _ (by omega)
  have X:left[Z k % left.length]? =ar left[Z k % left.length]:=MY Y;rw[X];simp only;refine(zw Z fuel (k+1) _ _ (by rw[Qq Y];omega)).trans ?_;rw[Array.toList_push,Nh];exact List.Perm.append_left _ (q0 X).symm
theorem Bi{α:Type}(Z:Nat->Nat)(xs:Array α):(RJ Z xs).toList.Perm xs.toList:=by
 have:=zw Z xs.size 0 xs.toList #[] (by simp)
 simpa [RJ]using this
def kg(w:fc)(a:c_)(ep:Nat)(es:Array Ent):Array Ent:=if w.params.followText "set-order"=b_ then RJ (w.params.setOrder a ep) es else es
theorem tF(w:fc)(a:c_)(ep:Nat)(es:Array Ent):(kg w a ep es).toList.Perm es.toList:=by
 unfold kg;split
 ·exact Bi _ _
 ·exact .refl _
theorem lH(w:fc)(a:c_)(ep:Nat)(es:Array Ent):(kg w a ep es).size=es.size:=by have:=(tF w a ep es).length_eq;simpa using this
theorem eY:Slot "set_iterator" "__next__" "set_iterator.__next__":=
 .of (owner:="set_iterator") (n:="__next__") (by rw[Q9,P4];kernel_rfl) (by decide+kernel) (by decide+kernel) (by decide+kernel)
  (by first|exact .inl (by decide+kernel)|exact .inr (by decide+kernel)) (by rw[PU];kernel_rfl)
theorem lX:SD table "set_iterator.__next__"=ar Builtin.«set_iterator.__next__»:=entryFor_of_fast (by kernel_rfl)
theorem nE(a:a_):SR "set_iterator.__next__" ⟨[a],[]⟩:=by unfold SR;kernel_rfl
theorem rf:SD table "set.__iter__"=ar Builtin.«frozenset.__iter__»:=
 entryFor_alias (id':="frozenset.__iter__") (by kernel_rfl) rfl (by decide+kernel) (by kernel_rfl)
section
variable {prog:er}{w:fc}{A:hS}{E:a_->dn->Prop}{s:dn}
def ic(w:fc)(t:lb)(i:Nat):Nat:=if w.params.followText "set-order"=b_ then 0 else match i with
 |0=>0
 |i+1=>t.place.getD i 0+1
structure IterAt(w:fc)(h:gd)(I a:c_)(t:lb)(sz ep i:Nat):Prop where
 ex:∃o,h.get? I=ar o/\o.cls= .type "set_iterator"/\o.data= .fields #[.int (ic w t i) 0,.int i 0,.ref a,.int sz 0,.int ep 0]
theorem IterAt.typeIs(k:IterAt w s.heap I a t sz ep i):s.TypeIs (.ref I) "set_iterator":=
 let ⟨o,ho,hc,_⟩:=k.ex
 ⟨o,ho,hc⟩
theorem zx(k:SetAt prog w s.heap a o es ep t L)(F:i<=es.size){Q:Option (a_×Nat)->dn->Prop}
  (h:Q (((kg w a ep es)[i]?).map λe=>(e.2,ic w t (i+1))) s):ee (fg prog w) A (setNext a (ic w t i) i ep) Q E s:=by
 unfold setNext;refine MR (Oj k.get k.dat k.fits ?_);simp only;unfold R5;refine MR (MR (Pj (MW ?_)));show ee _ _ (if (w.params.followText "set-order")=b_ then _ else _) _ _ s;by_cases hw:w.params.followText "set-order"=b_
 ·rw[if_pos hw];simp only[bne_self_eq_false,e_,if_false];unfold setWalk;refine MR (MR (Oj k.get k.dat k.fits ?_));simp only;unfold R5;refine MR (MR (Pj (MW ?_)));show ee _ _ (if (w.params.followText "set-order")=b_ then _ else _) _ _ s;rw[if_pos hw];refine MR (Pj (MW ?_));refine MW ?_;have e1:kg w a ep es=RJ (w.params.setOrder a ep) es:=by unfold kg;rw[if_pos hw]
  have e2:∀j,ic w t j=0:=λj=>by unfold ic;rw[if_pos hw]
  rw[e1,e2]at h;rw[e2];exact h
 ·rw [if_neg hw];have S:(!t.plain && decide (es.size>1))=false:=by rw[k.pln];rfl
  have J:t.led=true:=by rw[k.led];simpa using hw
  have e1:kg w a ep es=es:=by unfold kg;rw[if_neg hw]
  have e2:∀j,ic w t j=match j with|0=>0|j+1=>t.place.getD j 0+1:=λj=>by unfold ic;rw[if_neg hw]
  have I:QT t.place (ic w t i)=i:=by
   obtain⟨T,Y,W⟩:=qV k.ok.ris (ic w t i);cases i with
   | zero=>
    rw[e2]at T Y W⊢;simp only at T Y W⊢;rcases Nat.eq_zero_or_pos (QT t.place 0)with z|z
    ·exact z
    ·have Z:0<t.place.size:=by omega
     have:=Y 0 _ z (M1 Z);omega
   | succ i=>
    have X:i<t.place.size:=by rw[k.ok.siz];omega
    have P:t.place.getD i 0=t.place[i]:=by simp[R4,X]
    rw[e2]at T Y W⊢;simp only[P]at T Y W⊢;have N:=M1 X;rcases O9 (QT t.place (t.place[i]+1)) (i+1)with l|l|l
    ·have:=W i _ (by omega) N;omega
    ·exact l
    ·have Z:i+1<t.place.size:=by omega
     have H:=Y (i+1) _ l (M1 Z);have G:=k.ok.ris i (i+1) _ _ (by omega) N (M1 Z);omega
  generalize hu:PySem.unsupported=U;show ee _ _ (if (!t.plain && decide (es.size>1))=b_ then _ else _) _ _ s;rw[S];simp only[e_,if_false];have hm:∀R:Unit->dn->Prop,R () s->ee (fg prog w) A (if (!t.led && !es.isEmpty)=b_ then unsupported "set:maker-not-led" else aC ()) R E s:=λR K=>by rw[J];simp only[y',Bool.false_and,e_,if_false];exact MW K
  refine MR (hm _ ?_);refine MW ?_;rw[I];rw[e1,e2]at h;simp only at h;by_cases Z:i<es.size
  ·have O:i<t.place.size:=by rw[k.ok.siz];exact Z
   have P:t.place.getD i 0=t.place[i]:=by simp[R4,O]
   rw[M1 Z,P]at h;rw[M1 Z,M1 O];exact h
  ·rw[Of (by omega)]at h;rw[Of (by omega)];exact h
end
theorem Df{α X:Type}{f:α->X}{l Y:List X}(h:l.Perm Y):∀L:List α,Y=L.map f->∃Z:List α,Z.Perm L/\l=Z.map f:=by
 induction h with
 |nil=>intro L e;exact⟨[],by rw[List.map_eq_nil_iff.mp e.symm],rfl⟩
 | cons x _ ih=>
  intro L e;cases L with
  |nil=>cases e
  |cons y L=>
   rw[Nd]at e;injection e with e1 e2;obtain⟨Z,p,q⟩:=ih L e2;exact⟨y::Z,p.cons y,by rw[q,e1];rfl⟩
 | swap x y l=>
  intro L e
  match L,e with
  |[],e=>cases e
  |[_],e=>rw[Nd]at e;injection e with _ e;cases e
  |a::b::L,e=>
   rw[Nd,Nd]at e;injection e with e1 e2;injection e2 with e2 e3;exact⟨b::a::L,.swap _ _ _,by rw[e1,e2,e3];rfl⟩
 |trans _ _ ih1 ih2=>
  intro L e;obtain⟨L1,U,W⟩:=ih2 L e;obtain⟨R,T,S⟩:=ih1 L1 W;exact⟨R,T.trans U,S⟩
section
variable {prog:er}{w:fc}{A:hS}{E:a_->dn->Prop}{s:dn}
theorem tG{h:gd}{g:Array a_->Array a_}(Y:h.get? I=ar o)(Z:o.data= .fields fs):
  ∃o',(h.update I (z3 g)).get? I=ar o'/\o'.cls=o.cls/\o'.data= .fields (g fs):=
 ⟨_,N0 _ Y (O6 (Os Z _)),QP ..,Os Z _⟩
theorem next_item{Q:Option a_->dn->Prop}(k:SetAt prog w s.heap a o es ep t L)(Z:IterAt w s.heap I a t es.size ep i)(R:I≠a)
  (U:(kg w a ep es)[i]? =ar e) (T:∀h',IterAt w h' I a t es.size ep (i+1)->ri I s.heap h'->Q (ar e.2) {s with heap:=h'}):ee (fg prog w) A (D' (.ref I)) Q E s:=by
 obtain⟨J,X,O,hd⟩:=Z.ex;have W:i<es.size:=by rw[<-lH w a ep es];exact(Nq.mp U).1
 unfold D';refine MR (PC (wpAny_callSpecial?_slot (name:=h_ "__next__") Z.typeIs eY
  (NX eY Z.typeIs lX ?_ (nE _))))
 unfold Builtin.«set_iterator.__next__»;refine MR (m:=SF "__next__" 0 _) (MW ?_);refine MR (wpAny_fieldsOf X hd ?_);simp only;refine MR (Qi k.get k.dat k.fits ?_);rw[if_neg (by simp)];refine MR ?_;rw[NH,NH,NH];refine zx k (Oy W) ?_;rw[U];simp only[z8];refine MR (OW X hd (by simp) ?_);obtain⟨S,g1,N,d1⟩:=tG (g:=λY=>Y.set! 0 (mh (ic w t (i+1):Nat))) X hd;refine MR (OW (o:=S) (s:={s with heap:=_}) g1 d1 (by simp) (MW ⟨e.2,rfl,MW (T _ ?_ ((Ol ..).trans (Ol ..)))⟩));obtain⟨o2,g2,P,K⟩:=tG (g:=λY=>Y.set! 1 (mh ((i:Int)+1))) g1 d1;refine⟨o2,g2,by rw[P,N];exact O,?_⟩;rw[K];simp[mh]
theorem next_end{Q:Option a_->dn->Prop}(Y:A.handled=none)(k:SetAt prog w s.heap a o es ep t L)(Z:IterAt w s.heap I a t es.size ep es.size)
  (W:∀h',Heap.ExtBut I s.heap h'->Q none {s with heap:=h'}):ee (fg prog w) A (D' (.ref I)) Q E s:=by
 obtain⟨S,X,U,hd⟩:=Z.ex;unfold D';refine MR (PC (wpAny_callSpecial?_slot (name:=h_ "__next__") Z.typeIs eY
  (NX eY Z.typeIs lX ?_ (nE _))))
 unfold Builtin.«set_iterator.__next__»;refine MR (m:=SF "__next__" 0 _) (MW ?_);refine MR (wpAny_fieldsOf X hd ?_);simp only;refine MR (Qi k.get k.dat k.fits ?_);rw[if_neg (by simp)];refine MR ?_;rw[NH,NH,NH];refine zx k (MV _) ?_;rw[Of (by rw[lH];exact MV _)];simp only[Option.map_none];refine MR (OW X hd (by simp) ?_);show ee _ _ (SU (.type "StopIteration") []>>=_) _ _ _;refine MR ?_;simp only[SU,newTuple];refine MR (NT ?_ (by size_fits));refine MR (m:=E2 _ _) (RN (a:=hO) (by first|rfl|(simp only[E2];rfl)) ?_);refine NT ?_ (by size_fits);simp only[raiseNew];refine MR (wpAny_handled ?_);first|rw[show A.in1.handled=none from Y]|rw[Y]
 refine MR (MW (wpAny_throw ?_));refine MR (Pk (T:="StopIteration") (b:=b_) ⟨_,M6 _ rfl,rfl⟩ Qy ?_);exact MW (W _ (((Ol ..).extBut.push _).push _))
theorem IterAt.at{h':gd}(k:IterAt w h I a t sz ep i)(e:∀o,h.get? I=ar o->h'.get? I=ar o):IterAt w h' I a t sz ep i:=
 let ⟨o,ho,r⟩:=k.ex
 ⟨⟨o,e o ho,r⟩⟩
theorem nF:Slot "set_iterator" "__iter__" "set_iterator.__iter__":=
 .of (owner:="set_iterator") (n:="__iter__") (by rw[Q9,P4];kernel_rfl) (by decide+kernel) (by decide+kernel) (by decide+kernel)
  (by first|exact .inl (by decide+kernel)|exact .inr (by decide+kernel)) (by rw[PU];kernel_rfl)
theorem sF:SD table "set_iterator.__iter__"=ar Builtin.«dict_keyiterator.__iter__»:=
 entryFor_alias (id':="dict_keyiterator.__iter__") (by kernel_rfl) rfl (by decide+kernel) (by kernel_rfl)
theorem uF(a:a_):SR "set_iterator.__iter__" ⟨[a],[]⟩:=by unfold SR;kernel_rfl
theorem Dg{Q:a_->dn->Prop}(k:SetAt prog w s.heap a o es ep t L)
  (T:∀ob,IterAt w (s.heap.push ob) s.heap.objs.size a t es.size ep 0->Q (.ref s.heap.objs.size) {s with heap:=s.heap.push ob}):ee (fg prog w) A (RT (.ref a)) Q E s:=by
 have U:s.TypeIs (.ref a) "set":=⟨o,k.get,k.ex.1⟩;refine wpAny_pyIter_slot U F.slot_set_iter (NX F.slot_set_iter U rf ?_ (F.args_set_iter_1 _));unfold Builtin.«frozenset.__iter__» Builtin.Frozenset.slot0;refine MR (MR (m:=SF "__iter__" 0 _) (MW ?_));refine MW ?_;unfold Builtin.Frozenset.sizeOf;refine MR (MR (Qi k.get k.dat k.fits (MW ?_)));unfold setDrawn;refine MR (MR (Oj k.get k.dat k.fits ?_));simp only;unfold R5;refine MR (MR (Pj (MW ?_)));refine MW ?_;have Z:(!(w.params.followText "set-order") && (!t.plain && decide (es.size>1)))=false:=by rw[k.pln];simp
 have W:∀(X Y:Sem Fin) (R:Fin->dn->Prop),ee (fg prog w) A.in1 Y R E s->ee (fg prog w) A.in1 (if (!(w.params.followText "set-order") && (!t.plain && decide (es.size>1)))=b_ then X else Y) R E s:=λX Y R S=>by rw[Z];simp only[e_,if_false];exact S
 refine W _ _ _ ?_;refine MR (MW ?_);refine MR (wpAny_setEpoch_of k.get k.dat k.fits ?_);refine MR (NT (MW ⟨_,rfl,"set_iterator",_,⟨_,M6 _ rfl,rfl⟩,eY.lookup,T _ ⟨⟨_,M6 _ rfl,rfl,?_⟩⟩⟩));have P:ic w t 0=0:=by unfold ic;split<;>rfl
 rw[P];rfl
theorem Bj{es:Array Ent}(O:A.handled=none)(U:I≠a):Walks prog w A I [I,a] [I] es.size (λi v=>∃e,(kg w a ep es)[i]? =ar e/\v=e.2)
  (λi h=>SetAt prog w h a o es ep t L/\IterAt w h I a t es.size ep i) where
 sub:=λb Y=>by simp at Y;simp[Y]
 frame:=λi h h' st P=>⟨st.1.at λZ e=>P a (by simp) Z e,st.2.at λZ e=>P I (by simp) Z e⟩
 item:=λi s Q E N st X=>by
  have S:i<(kg w a ep es).size:=by rw[lH];exact N
  have he:=M1 S;exact next_item st.1 st.2 U he λh' W T=>X _ h' s.toks ⟨_,he,rfl⟩ ⟨st.1.at λZ e=>T.extBut a Z (j' U) e,W⟩ λb Z Y e=>T.extBut b Z (λz=>Y (by simp[z])) e
 done:=λs Q E st X=>next_end O st.1 st.2 λh' R=>X h' s.toks λb Z Y e=>R b Z (λz=>Y (by simp[z])) e
 self:=λi s Q E st X=>by refine wpAny_pyIter_slot st.2.typeIs nF (NX nF st.2.typeIs sF ?_ (uF _));show ee _ _ (ret (.ref I)) _ _ s;exact MW ⟨_,rfl,"set_iterator",_,st.2.typeIs,eY.lookup,X⟩
theorem wm{Q:List a_->dn->Prop}(m:A.handled=none)(k:SetAt prog w s.heap a o es ep t L)(f:es.size<=18)
  (q:∀(h':gd) (tk:Nat) (R:List KA),R.Perm L->(∀b o,s.heap.get? b=ar o->h'.get? b=ar o)->Q (R.map λp=>eo p.2) {s with heap:=h',toks:=tk}):
  ee (fg prog w) A (S8 (.ref a)) Q E s:=by
 have Y:a<s.heap.objs.size:=MZ k.get;unfold S8;refine MR (wpAny_runValue (O5 F.entry_proto_collect ?_));rw[OL F.plain_proto_collect _];show ee _ A.in1 (SZ []>>=λl=>RU (.builtin "list.__iadd__" ⟨[l,.ref a],[]⟩)) _ _ s;refine MR (NT ?_);refine MW ⟨QU F.plain_list_iadd _,O5 F.entry_list_iadd ?_⟩;rw[OL F.plain_list_iadd _];have k1:SetAt prog w (s.heap.push {cls:=.type "list",data:=.seq ([]:List a_).toArray}) a o es ep t L:=k.at λZ e=>MU _ e;have H:(s.heap.push {cls:=.type "list",data:=.seq ([]:List a_).toArray}).get? s.heap.objs.size=ar {cls:=.type "list",data:=.seq ([]:List a_).toArray}:=M6 _ rfl;have n:Rt {s with heap:=s.heap.push {cls:=.type "list",data:=.seq ([]:List a_).toArray}} (.ref a) "set":=⟨o,k1.get,k1.ex.1⟩;have T:Builtin.List.listSameRef (.ref s.heap.objs.size) (.ref a)=false:=by simp[Builtin.List.listSameRef,Nat.ne_of_gt Y]
 show ee _ A.in1 (Builtin.List.listExtendWith (.ref s.heap.objs.size) (.ref a) (.ref s.heap.objs.size)) _ _ _;unfold Builtin.List.listExtendWith;refine MR (PX n ?_);rw[if_neg (by rw[T];decide)];refine MR (Dg (s:={s with heap:=s.heap.push {cls:=.type "list",data:=.seq ([]:List a_).toArray}}) k1 λN hit=>?_);refine MR (NV ?_);have U:Rt {s with heap:=(s.heap.push {cls:=.type "list",data:=.seq ([]:List a_).toArray}).push N} (.ref a) "set":=⟨o,MU _ k1.get,k1.ex.1⟩;unfold Builtin.List.listLengthHint;refine MR (wpAny_specialOf U F.slot_set_len.lookup ?_);generalize g9:("set.__len__":String)=id0
 wp_delta
 rw[show splitId id0=ar ("set","__len__")from by subst g9;decide+kernel];subst g9;refine MR (Pk (b:=b_) U sub_set_self ?_);rw[if_neg (by decide)];rw[if_pos (by decide+kernel)];refine MR (PX U ?_);refine MW ?_;rw[if_pos (by decide+kernel)];refine MR (QH ?_);generalize hg:(s.heap.push {cls:=.type "list",data:=.seq ([]:List a_).toArray}).objs.size=I at hit;have x:I=s.heap.objs.size+1:=by rw[<-hg];exact N9 _ _
 have J:I≠a:=by rw[x];exact OF (N8 Y)
 have P:I≠s.heap.objs.size:=by rw[x];exact Nat.succ_ne_self _
 have j:s.heap.objs.size∉[I,a]:=by simp only[f_,eK,or_false,not_or];exact⟨j' P,OF Y⟩
 have O:((s.heap.push {cls:=.type "list",data:=.seq ([]:List a_).toArray}).push N).get? s.heap.objs.size=ar {cls:=.type "list",data:=.seq ([]:List a_).toArray}:=MU _ H;refine MR ?_;show ee _ A.in1 (updateSeq s.heap.objs.size (·.push .none)>>=λ_=>updateSeq s.heap.objs.size (·.pop)) _ _ _;refine MR (wpAny_updateSeq O rfl ?_);have K:=N0 (l_ (·.push hO)) O rfl;refine wpAny_updateSeq K rfl ?_;have z:=N0 (l_ (·.pop)) K rfl;have S:∀b Z,b≠s.heap.objs.size->((s.heap.push {cls:=.type "list",data:=.seq ([]:List a_).toArray}).push N).get? b=ar Z->
   ((((s.heap.push {cls:=.type "list",data:=.seq ([]:List a_).toArray}).push N).update s.heap.objs.size (l_ (·.push hO))).update s.heap.objs.size (l_ (·.pop))).get? b=ar Z:=
  λb Z v e=>(NJ _ _ (j' v)).trans ((NJ _ _ (j' v)).trans e)
 have k2:=(k1.at (h':=(s.heap.push {cls:=.type "list",data:=.seq ([]:List a_).toArray}).push N) λZ e=>MU _ e);have C:A.in1.handled=none:=by simp[m]
 have W:=Bj (prog:=prog) (w:=w) (A:=A.in1) (I:=I) (a:=a) (o:=o) (es:=es) (ep:=ep) (t:=t) (L:=L) C J;refine MW ⟨QU F.plain_extend_loop _,?_⟩;refine codeAny_extend_loopS W.toS (by rw[N5];omega) _ j _ es.size 0 _ _ _ rfl (Nr _) ⟨k2.at λZ e=>S a Z (Ng Y) e,hit.at λZ e=>S I Z P e⟩ z (ItemsOf.nil _) λs' acc c hm G X=>?_;show ee _ A (load s.heap.objs.size>>=_) _ _ s';refine MR (wpAny_load G ?_);refine MW ?_;obtain⟨h',g',d',B,y⟩:=s';have r:g'=s.gens:=hm.gens;have d:d'=s.drawn:=hm.drawn;have u:y=s.os:=hm.os;subst r d u;obtain⟨R,h,g⟩:=Df (tF w a ep es) L k.ents;have he:acc.toList=R.map λp=>eo p.2:=by
  have e1:acc.toList=(kg w a ep es).toList.map (·.2):=by
   refine PQ λi=>?_;rw[Ny,Nn,Ny];by_cases hi:i<acc.size
   ·obtain⟨e,e1,e2⟩:=X.2 i _ (M1 hi);rw[M1 hi,e2,e1];rfl
   ·rw[Of (by omega),Of (by rw[lH, <-X.1];omega)];rfl
  rw[e1,g,Nl];rfl
 rw[he];refine q h' B R h λb Z e=>hm.heap b Z ?_ (S b Z (Ng (MZ e)) (MU _ (MU _ e)));simp only[f_,eK,or_false,not_or];exact⟨Ng (MZ e),by rw[x];exact Ng (N8 (MZ e))⟩
end
end S4
namespace S4
open PySem PySem.Spec PySem.W PyProof.Rows L2 S3
section
variable {prog:er}{w:fc}{A:hS}{E:a_->dn->Prop}{s:dn}
theorem ye{vs:List a_}{P:PySem.Fin->dn->Prop}(W:s.heap.get? a=ar (s_ "list" vs.toArray n))(O:vs.length<2)
  (h:∀h' c,h'.get? a=ar (s_ "list" vs.toArray c)->(∀b o,b≠a->s.heap.get? b=ar o->h'.get? b=ar o)->P (.done (.ret .none)) {s with heap:=h'}):
  ee (fg prog w) A (Builtin.«list.sort» ⟨[.ref a],[]⟩) P E s:=by
 have Q:a<s.heap.objs.size:=MZ W;obtain⟨e1,Y⟩:∃e1,(s.heap.update a (l_ λ_=>(#[]:Array a_))).get? a=ar (s_ "list" #[] e1):=⟨_,get?_update_seq W λ_=> #[]⟩;have Z:(((s.heap.update a (l_ λ_=>(#[]:Array a_))).push (s_ "tuple" vs.toArray 0)).push (s_ "list" #[] 0)).get? a=ar (s_ "list" #[] e1):=MU _ (MU _ Y);rw[list_sort_plain];refine MR (listItems_at W rfl ?_);refine MR (listUpdate_at W rfl ?_ (by rw[M8,N5];omega) (Nr _));refine MR (seqEpoch_at Y rfl ?_);refine MR (wpAny_newTuple ?_ (by show vs.length<=_;rw[N5];omega));refine MR (Ru ?_ (Nr _));refine NV ?_;show ee (fg prog w) A _ P E {s with heap:=((s.heap.update a (l_ λ_=>(#[]:Array a_))).push (s_ "tuple" vs.toArray 0)).push (s_ "list" #[] 0)};dsimp only;have X:vs.toArray.size<2:=by rw[M8];omega
 rw[if_pos X,if_pos X];refine MR (MW ?_);rw[StateT.run_pure];refine MR (MW ?_);dsimp only;refine MR (seqEpoch_at Z rfl ?_);have R:(arrOf (SortSt.mk' general' (vs.toArray.zip vs.toArray) #[] 7 none)).map (·.2)=vs.toArray:=by show(vs.toArray.zip vs.toArray).map (·.2)=vs.toArray;rw[Array.map_snd_zip (MV _)]
 rw[R];refine MR (listUpdate_at Z rfl ?_ (Nr _) (by rw[M8,N5];omega));obtain⟨U,T⟩:∃U,((((s.heap.update a (l_ λ_=>(#[]:Array a_))).push (s_ "tuple" vs.toArray 0)).push (s_ "list" #[] 0)).update a (l_ λ_=>vs.toArray)).get? a=ar (s_ "list" vs.toArray U):=⟨_,get?_update_seq Z λ_=>vs.toArray⟩;simp only[bne_self_eq_false,e_,if_false];refine MW (h _ U T λb o S e=>?_);rw[Qj _ _ _ _ S];refine MU _ (MU _ ?_);rw[Qj _ _ _ _ S];exact e
end
section
variable {X:Cx}
structure TRow(H:Hp)(vs:List V)(nss:List (List Int)):Prop where
 len:vs.length=nss.length
 at':∀i,i<vs.length->∃a,vs[i]? =ar (.ref a)/\H a=ar (.tup ((nss.getD i []).map V.int))
 ne:∀i,i<vs.length->0<(nss.getD i []).length
def fW(nss:List (List Int))(q:List Nat):Prop:=q.Perm (dr nss.length)/\∀i j,i<=j->j<nss.length->HT.lexLt (nss.getD (q.getD j 0) []) (nss.getD (q.getD i 0) [])=dt
theorem ie{H:Hp}{Q:VK}(I:L2.Inv X pins σ H s)(Pv:List a_->Prop)
  (hc:∀(R:List a_->dn->Prop) (E':a_->dn->Prop),(∀vs Y K,Pv vs->(∀b o,s.heap.get? b=ar o->Y.get? b=ar o)->R vs {s with heap:=Y,toks:=K})->ee (fg X.prog X.w) X.A.in1 (S8 arg) R E' s)
  (G:∀us,Pv us->∃(vs:List V) (Z:List (List Int)),bu vs us/\TRow H vs Z/\vs.length<64/\∀q,fW Z q->∀l,H l=none->Q (.ref l) (upd H l (.lst (q.map λi=>vs.getD i .non)))):
  ee (fg X.prog X.w) X.A (call (.builtin "sorted") [arg]) (EP X pins σ Q) X.xe s:=by
 refine Qz kind_sorted plain_sorted entry_sorted (args_sorted1 _) ?_;unfold Builtin.«sorted»;refine MR (m:=checkCount "sorted" 1 1 _) (MW ?_);refine MR (hc _ _ λits Y K hP keep=>?_);obtain⟨vs,Z,rv,T0,e0,q⟩:=G its hP;have a6:=rv.length;have N:L2.Inv X pins σ H {s with heap:=Y,toks:=K}:=I.kept keep;obtain⟨m,F⟩:=N.fr;refine MR (Ru ?_ (by rw[N5];omega));have O:(Y.push (s_ "list" its.toArray 0)).get? Y.objs.size=ar (s_ "list" its.toArray 0):=M6 _ rfl;have up:∀b o,Y.get? b=ar o->(Y.push (s_ "list" its.toArray 0)).get? b=ar o:=λb o e=>MU _ e;have nd:Y.get? Y.objs.size=none:=Ou (MV _);have hL:X.env.locals<Y.objs.size:=F.ns.lt;have hH:H Y.objs.size=none:=N.hok.fresh (MV _);have at':∀i,i<its.length->∃a,its[i]? =ar (.ref a)/\its.getD i hO= .ref a/\H a=ar (.tup ((Z.getD i []).map V.int)):=λi U=>by obtain⟨a,e1,e2⟩:=T0.at' i (by omega);obtain⟨u,hu,ru⟩:=rv.get e1;cases (show u=eo a from ru);exact⟨a,hu,by rw[M5,hu];rfl,e2⟩
 have b1:∀l:List Nat,(∀x∈l,x<its.length)->bu (l.map λi=>vs.getD i .non) (l.map λi=>its.getD i hO):=by
  intro l
  induction l with
  |nil=>intro _;exact .nil
  |cons x l ih=>
   intro hx;refine .cons ?_ (ih λy hy=>hx y (M3 _ hy));have r:x<vs.length:=by have:=hx x Ni;omega
   obtain⟨u,hu,ru⟩:=rv.get (MY r);show L2.RelV (vs.getD x .non) (its.getD x hO);rw[M5,M5,hu,MY r];exact ru
 show ee _ _ _ _ _ {s with heap:=Y.push (s_ "list" its.toArray 0),toks:=K};refine MR (NV (NX slot_list_sort ⟨_,O,rfl⟩ entry_list_sort ?body (args_list_sort _)))
 case body=>
  by_cases J:its.length<2
  ·refine ye (s:={s with heap:=Y.push (s_ "list" its.toArray 0),toks:=K}) O J λh' c g1 g2=>?_;refine⟨_,rfl,MW ⟨_,rfl,?_⟩⟩;have I2:L2.Inv X pins σ (upd H Y.objs.size (.lst vs)) {s with heap:=h',toks:=K}:=N.laid (λb o e=>g2 b o (Ng (MZ e)) (up b o e)) (MV _) ⟨by rw[N5];omega,its,c,rv,g1⟩;refine⟨.ref Y.objs.size,_,I2,rfl,?_⟩;have:=q (dr Z.length) ⟨.refl _,λi j f hj=>?_⟩ _ hH
   ·have e:(dr Z.length).map (λi=>vs.getD i .non)=vs:=by
     refine PQ λi=>?_;rw[Nn, <-T0.len];by_cases U:i<vs.length
     ·rw[Oi U,MY U];simp[nC,U]
     ·rw[N1 (by simpa using U),N1 (by omega)];rfl
    rw[e]at this;exact this
   ·have:i=j:=by have:=T0.len;omega
    subst this;exact i6 _
  ·have a7:=T0.ne;refine kat_list_sort (s:={s with heap:=Y.push (s_ "list" its.toArray 0),toks:=K}) (F.kept up) (News.grown (qt (g:=X.base) (h:=Y) (L:=X.env.locals)) up) O (OF hL) (Ou (M7 F.above (Oy hL)))
    (λp hp=>Ng (MZ (qt p hp).1)) (by omega) (by omega) λe1 h' F' N'=>?_
   have S:∀J:gd,Fr X.base X.env.locals J m->News X.base X.env.locals J (mX X.base Y X.env.locals)->∀b o,b≠X.env.locals->Y.get? b=ar o->J.get? b=ar o:=λJ F2 N2 b o hb e=>by
    cases z:X.base.get? b with
    |some o'=>
     have:=N.bk b o' z;rw[show Y.get? b=ar o' from this]at e;cases e;exact F2.keep b _ z
    |none=>exact(N2 (b,o) (vP hb z e)).1
   have kp:=S h' F' λz P=>N' z (M3 _ P);have T:Tups Y its Z:=⟨by have:=T0.len;omega,λi U=>by obtain⟨a,_,e1,e2⟩:=at' i U;obtain⟨_,ws,B,o,ho,c1,n,hd⟩:=(show bG X.prog X.w H Y a (.tup ((Z.getD i []).map V.int))from N.hok a _ e2);refine⟨a,o,ws.toArray,n,e1,ho,c1,hd,by simpa using Qf B,?_⟩;rw[M8, <-B.length,MS];exact a7 i (by omega)⟩
   have T':Tups h' its Z:=T.keep λi a o U ea ho=>by obtain⟨a',_,e1,e2⟩:=at' i U;rw[ea]at e1;cases e1;refine kp a o (λz=>?_) ho;rw[z,N.free]at e2;cases e2
   obtain⟨fs,k1,k2,k3⟩:=qR (h:=h') (vs:=its) λv G=>by
    obtain⟨i,U,ei⟩:=List.mem_iff_getElem.mp G;obtain⟨a,o,us,n,f1,f2,f3,f4,f5,f6⟩:=T'.get i U;have ev:v= .ref a:=by rw[M5,MY U,ei]at f1;exact f1
    generalize Z.getD i []=ns at f5;cases hus:us.toList with
    |nil=>
     have:us.size=0:=by rw[<-OQ,hus];rfl
     omega
    |cons x r'=>
     rw[hus]at f5;cases f5 with
     |cons n' t' _=>exact⟨a,o,us,n,n',t',ev,f2,f3,f4,by rw[<-Ny,hus];rfl⟩
   refine kat_kind k1 (by omega) (T:=.type "int") (λv G=>by obtain⟨i,t,rfl⟩:=k3 v G;exact Looks.of_pure rfl) rfl ?_;refine CA (n:=its.length) (R:=In its.length) (b:=λi j=>HT.lexLt (Z.getD i []) (Z.getD j [])) (λi j C U hj hC=>T'.ask U hj hC) (vT (by omega)) ?_;obtain⟨s1,s2⟩:=Fb (n:=its.length) (b:=λi j=>HT.lexLt (Z.getD i []) (Z.getD j [])) (by omega) (λi _=>i6 _) (λi j k _ _ _=>xY) (λi j k _ _ _=>uC);generalize bA (λi j=>HT.lexLt (Z.getD i []) (Z.getD j [])) (u' its.length)=pp at s1 s2;have W:pp.toList.Perm (dr its.length):=by simpa using Array.Perm.toList s1
   refine KasFin.intro F' N' (.head λz P=>Ng (MZ (qt z P).1)) λb5 c' E d=>?_;have b3:=S b5 E λz P=>d z (M3 _ P);obtain⟨g1,g2,g3⟩:=d _ Ni;have b4:∀x∈pp.toList,x<its.length:=λx hx=>Na.mp (W.mem_iff.mp hx);have b6:(pp.toList.map λi=>vs.getD i .non).length<=sizeLine:=by rw[MS,W.length_eq,M0,N5];omega
   have I2:=xZ N F E b3 nd g1 (b1 pp.toList b4) b6;refine⟨_,rfl,MW ⟨_,rfl,.ref Y.objs.size,_,I2,rfl,q pp.toList ⟨by rw[<-T0.len,a6];exact W,λi j f hj=>?_⟩ _ hH⟩⟩;have:=s2 i j f (by have:=T0.len;omega);rw[NG,NG]at this;rw[M5 (l:=pp.toList),M5 (l:=pp.toList),Ny,Ny];exact this
end
end S4
namespace S3
open PySem PySem.Spec PySem.W PyProof.Rows L2 S4
def tupI(ns:List Int):D:=.tup (ns.map D.int)
def rowsOf:List D->Option (List (List Int))
 |[]=>ar []
 | .tup ds::r=>match intsOf ds,rowsOf r with
  |some ns,ar nss=>ar (ns::nss)
  |_,_=>none
 |_=>none
theorem uG:∀{a b:List Int},HT.lexLt a b=dt->HT.lexLt b a=dt->a=b
 |[],[],_,_=>rfl
 |[],_::_,h,_=>by cases h
 |_::_,[],_,h=>by cases h
 | x::a,y::b,h1,h2=>by
  rw[HT.lexLt_cons]at h1 h2;by_cases e:x=y
  ·subst e;rw[if_pos rfl]at h1 h2;rw[uG h1 h2]
  ·rw[if_neg e]at h1;rw[if_neg (j' e)]at h2;have:=of_decide_eq_false h1;have:=of_decide_eq_false h2;omega
abbrev Dh(a b:List Int):Prop:=HT.lexLt b a=dt
def yf(x:List Int):List (List Int)->List (List Int)
 |[]=>[x]
 |y::r=>if HT.lexLt y x=b_ then y::yf x r else x::y::r
def fO:List (List Int)->List (List Int)
 |[]=>[]
 |x::r=>yf x (fO r)
theorem oZ(x:List Int):∀l,(yf x l).Perm (x::l)
 |[]=>.refl _
 |y::r=>by
  unfold yf;split
  ·exact((oZ x r).cons y).trans (.swap _ _ _)
  ·exact .refl _
theorem bM:∀l,(fO l).Perm l
 |[]=>.refl _
 |x::r=>(oZ x _).trans ((bM r).cons x)
theorem Bk(Z:Dh a b)(Y:Dh b c):Dh a c:=by
 cases q:HT.lexLt c a with
 |false=>exact q
 |true=>
  rcases uC (b:=b) q with z|z
  ·rw[show HT.lexLt c b=dt from Y]at z;cases z
  ·rw[show HT.lexLt b a=dt from Z]at z;cases z
theorem rh(h:HT.lexLt a b=b_):HT.lexLt b a=false:=by
 cases q:HT.lexLt b a with
 |false=>rfl
 |true=>
  have:=xY h q;rw[i6]at this;cases this
theorem pJ(x:List Int):∀{l:List (List Int)},l.Pairwise Dh->(yf x l).Pairwise Dh
 |[],_=>by simp[yf]
 | y::r,h=>by
  obtain⟨X,W⟩:=NU.mp h;unfold yf;split
  ·next c=>
   refine NU.mpr ⟨λz Z=>?_,pJ x W⟩;rcases M9.mp ((oZ x r).mem_iff.mp Z)with rfl|Z
   ·exact rh c
   ·exact X z Z
  ·next c=>
   have Y:Dh x y:=QM.mpr c;refine NU.mpr ⟨λz Z=>?_,h⟩;rcases M9.mp Z with rfl|Z
   ·exact Y
   ·exact Bk Y (X z Z)
theorem du:∀l,(fO l).Pairwise Dh
 |[]=>.nil
 |x::r=>pJ x (du r)
theorem jG{l:List (List Int)}(h:l.Perm l')(Z:l.Pairwise Dh)(Y:l'.Pairwise Dh):l=l':=
 QQ (le:=Dh) (λa b _ _ x y=>uG y x) Z Y h
theorem mF(h:fW nss q):q.map (λi=>nss.getD i [])=fO nss:=by
 have hlen:q.length=nss.length:=by simpa using h.1.length_eq
 have e:(dr nss.length).map (λi=>nss.getD i [])=nss:=by
  refine PQ λi=>?_;rw[Nn];by_cases Z:i<nss.length
  ·rw[Oi Z,MY Z];simp[nC,Z]
  ·rw[N1 (by simpa using Z),N1 (by omega)];rfl
 have W:(q.map (λi=>nss.getD i [])).Perm nss:=by have:=h.1.map (λi=>nss.getD i []);rw[e]at this;exact this
 refine jG (W.trans (bM nss).symm) ?_ (du _);rw[Pd];intro i j Z X Y;rw[MS]at Z X;rw[P5,P5];have:=h.2 i j (Oy Y) (by omega);rw[M5 (l:=q),M5 (l:=q),MY Z,MY X]at this;exact this
def gw:List (List Int)->List (List Int)
 |[]=>[]
 |x::r=>if x∈gw r then gw r else x::gw r
theorem jH:∀{l:List (List Int)},y∈gw l↔y∈l
 |[]=>.rfl
 | x::r=>by
  unfold gw;split
  ·next h=>
   rw[jH,M9];refine⟨.inr,λz=>z.elim (λz=>?_) id⟩;rw[z];exact jH.mp h
  ·rw[M9,M9,jH]
theorem nG:∀l:List (List Int),(gw l).Nodup
 |[]=>.nil
 |x::r=>by
  unfold gw;split
  ·exact nG r
  ·next h=>exact NN.mpr ⟨h,nG r⟩
def iQ(l:List (List Int)):List (List Int):=fO (gw l)
theorem Di(f:Folded kv L):fO (L.map (·.1))=iQ (kv.map (·.1)):=by
 unfold iQ;have Z:(L.map (·.1)).Perm (gw (kv.map (·.1))):=(Pc f.nd (nG _)).mpr λa=>by rw[f.mem,jH]
 exact jG ((bM _).trans (Z.trans (bM _).symm)) (du _) (du _)
theorem _root_.S4.Folded.perm{Z:List KA}(f:Folded kv L)(h:Z.Perm L):Folded kv Z:=
 ⟨(Pn (h.map (λp:KA=>p.1))).mpr f.nd,λk=>by rw[(h.map (λp:KA=>p.1)).mem_iff];exact f.mem k,λp Y=>f.sub p (h.mem_iff.mp Y),by rw[h.length_eq];exact f.len⟩
section
variable {K:dV}{ι:List c_}{H:Hp}
theorem nH:∀{ds:List D} {vs:List V} {nss:List (List Int)},RelDs K ι H ds vs->rowsOf ds=ar nss->vs.length=nss.length/\∀i,i<vs.length->∃a,vs[i]? =ar (.ref a)/\H a=ar (.tup ((nss.getD i []).map V.int))
 |[],vs,nss,h,e=>by
  cases e;rw[h.nil_inv];exact⟨rfl,λi Z=>absurd Z (Q7 _)⟩
 | .tup ds::r,vs,nss,h,e=>by
  obtain⟨v,ws,rfl,T,Y⟩:=h.cons_inv;unfold rowsOf at e;cases q:intsOf ds with
  |none=>rw[q]at e;cases e
  | some ns=>
   rw[q]at e;cases q2:rowsOf r with
   |none=>rw[q2]at e;cases e
   | some nss'=>
    rw[q2]at e;cases e;obtain⟨X,U⟩:=nH Y q2;obtain⟨a,us,rfl,g1,g2⟩:=T.tup_inv;refine⟨by simp[X],λi Z=>?_⟩;cases i with
    |zero=>
     refine⟨a,rfl,?_⟩;rw[gu g2 q]at g1;simpa using g1
    |succ i=>
     obtain⟨S,e1,e2⟩:=U i (by simpa using Z);exact⟨S,by simpa using e1,by simpa using e2⟩
 | .non::_,_,_,_,e=>by cases e
 | .bl _::_,_,_,_,e=>by cases e
 | .int _::_,_,_,_,e=>by cases e
 | .str _::_,_,_,_,e=>by cases e
 | .lst _::_,_,_,_,e=>by cases e
 | .ro _::_,_,_,_,e=>by cases e
 | .fz _::_,_,_,_,e=>by cases e
 | .emp::_,_,_,_,e=>by cases e
theorem tH:∀ns:List Int,RelDs K ι H (ns.map D.int) (ns.map V.int)
 |[]=>.nil
 |n::r=>.cons (.int n) (tH r)
theorem nI{vs:List V}{Z:List (List Int)}(h:∀i,i<vs.length->∃a,vs[i]? =ar (.ref a)/\H a=ar (.tup ((Z.getD i []).map V.int))):
  ∀q:List Nat,(∀i∈q,i<vs.length)->RelDs K ι H ((q.map λi=>Z.getD i []).map tupI) (q.map λi=>vs.getD i .non)
 |[],_=>.nil
 |i::q,hq=>by
  obtain⟨a,e1,e2⟩:=h i (hq i Ni);refine .cons ?_ (nI h q λj Y=>hq j (M3 _ Y));show RelD K ι H (tupI (Z.getD i [])) (vs.getD i .non);have X:vs.getD i .non= .ref a:=by rw[M5,e1];rfl
  rw[X];exact .tup e2 (tH _)
end
section
variable {X:Cx}{E:XD}{e:Expr}{m:TM}{pos:Pos}
theorem sG:dN X (.builtin "sorted") (λxs H Q=>∃(p:c_) (vs:List V) (Z:List (List Int)),xs=[.ref p]/\lA X.K H p vs/\TRow H vs Z/\vs.length<64/\
  ∀q,fW Z q->∀l,H l=none->Q (.ref l) (upd H l (.lst (q.map λi=>vs.getD i .non)))):=by
 intro pins s σ H xs us Q I r h;obtain⟨p,vs,Z,rfl,P,T,Y,q⟩:=h;obtain⟨u,rfl,O⟩:=vals1 r;cases (show u=eo p from O);obtain⟨its,U,J,G⟩:=I.list P;have N:=U.length;refine ie I (λus=>us=its) (λR F S=>?_) λus L=>⟨vs,Z,by rw[L];exact U,T,Y,q⟩;refine collect_list J.isList (S its _ _ rfl λb o e=>?_) (by rw[N5];omega);have W:b<s.heap.objs.size:=MZ e;rw[Qj _ _ _ _ (Ng W)];exact MU _ e
def pV(P:er)(w:fc)(a:c_)(kv:List KA):gd->Prop:=λh=>∃o es ep t L,SetAt P w h a o es ep t L/\Folded kv L
def mG(vs:List V)(nss:List (List Int)):List KA:=(dr vs.length).map λi=>(nss.getD i [],match vs.getD i .non with| .ref a=>a|_=>0)
theorem Ik{H:Hp}(Y:ij P w H h){ns:List Int}(e:H a=ar (.tup (ns.map V.int))):k4 (m1 P w) h ns a:=by
 obtain⟨_,ws,Z,o,U,W,n,hd⟩:=(show bG P w H h a (.tup (ns.map V.int))from Y a _ e);refine⟨o,ws.toArray,n,U,W,hd,?_⟩;have T:=Qf Z;have go:∀{ws:List a_} {ns:List Int},m2 ws ns->ItemsAre (m1 P w) ns ws:=by
  intro ws ns h
  induction h with
  |nil=>exact .nil
  |cons n t _ ih=>exact .cons (intKind_is _ _ _ _) ih
 simpa using go T
theorem Bl(x:X.calm=b_)(f:X.A.units+8<u3):dN X (.type "set") (λxs H Q=>∃(p:c_) (vs:List V) (Z:List (List Int)),xs=[.ref p]/\(lA X.K H p vs\/lQ X.K H p vs)/\
  (∀i,i<vs.length->∃a,vs[i]? =ar (.ref a)/\H a=ar (.tup ((Z.getD i []).map V.int)))/\vs.length<=18/\∀l,H l=none->Q (.ref l) (upd H l (.ext (pV X.prog X.w l (mG vs Z))))):=by
 intro pins s σ H xs us Q I r h;obtain⟨p,vs,Z,rfl,W,T,B,q⟩:=h;obtain⟨u,rfl,z⟩:=vals1 r;cases (show u=eo p from z);have src:∃its,bu vs its/\Src s.heap p its.toArray:=by
  rcases W with W|W
  ·obtain⟨its,Y,R,G⟩:=I.list W;exact⟨its,Y,.inl R.isList⟩
  ·obtain⟨its,Y,R,G⟩:=I.tuple W;exact⟨its,Y,.inr R⟩
 obtain⟨its,Y,hs⟩:=src;have U:=Y.length;have C:∀A:hS,A.in1.units<=A.units+1:=λA=>MV _;have at':∀i,i<vs.length->∃a,its[i]? =ar (.ref a)/\vs.getD i .non= .ref a/\H a=ar (.tup ((Z.getD i []).map V.int)):=λi O=>by obtain⟨a,e1,e2⟩:=T i O;obtain⟨u,S,n⟩:=Y.get e1;cases (show u=eo a from n);exact⟨a,S,by rw[M5,e1];rfl,e2⟩
 have hf:H s.heap.objs.size=none:=I.hok.fresh (MV _);refine Ij (I.ok.hd x) (by show X.A.units+3<u3;omega) hs (λi=>(Z.getD i [],match vs.getD i .non with| .ref a=>a|_=>0)) (λi v P=>?_) (by rw[M8];omega) (λj y=>?_) λh' d o es ep t L N J g=>?_
 ·have O:i<vs.length:=by rw[U];simpa using(Nq.mp P).1
  obtain⟨a,e1,e2,_⟩:=at' i O;rw[OI,e1]at P;cases P;simp only[e2]
 ·rw[M8]at y;obtain⟨a,e1,e2,F⟩:=at' j (by omega);simp only[e2];exact Ik I.hok F
 ·rw[M8, <-U]at J;refine⟨.ref s.heap.objs.size,_,I.laid (o:=.ext (pV X.prog X.w s.heap.objs.size (mG vs Z))) (λb o e=>g b o (MZ e) e) (MV _) ⟨⟨o,es,ep,t,L,N,J⟩,⟨o,N.get⟩,λh1 h2 ⟨o,es,ep,t,L,a1,a2⟩ k=>⟨o,es,ep,t,L,a1.at k,a2⟩⟩,rfl,q _ hf⟩
theorem uH(x:X.calm=b_):dN X (.builtin "sorted") (λxs H Q=>∃(p:c_) (T:List KA),xs=[.ref p]/\H p=ar (.ext (pV X.prog X.w p T))/\(∀k∈T,H k.2=ar (.tup (k.1.map V.int))/\k.1.length=2)/\T.length<=18/\
  ∀L q,Folded T L->fW (L.map (·.1)) q->∀l,H l=none->Q (.ref l) (upd H l (.lst (q.map λi=>(L.map λk=>V.ref k.2).getD i .non)))):=by
 intro pins s σ H xs us Q I r h;obtain⟨p,T,rfl,G,N,C,q⟩:=h;obtain⟨u,rfl,z⟩:=vals1 r;cases (show u=eo p from z);obtain⟨⟨o,es,ep,t,L,P,O⟩,_,_⟩:=(show bG X.prog X.w H s.heap p (.ext (pV X.prog X.w p T))from I.hok p _ G);have B:=O.len;have S:∀l:List KA,bu (l.map λk=>V.ref k.2) (l.map λk=>eo k.2):=by
  intro l
  induction l with
  |nil=>exact .nil
  |cons k l ih=>exact .cons rfl ih
 refine ie I (λus=>∃Z:List KA,Z.Perm L/\us=Z.map λk=>eo k.2) (λR j K=>?_) ?_
 ·refine wm (by show X.A.handled=none;exact I.ok.hd x) P (by rw[P.len];omega) λh' g Z U n=>K _ _ _ ⟨Z,U,rfl⟩ n
 ·rintro us ⟨Z,U,rfl⟩;have Y:=O.perm U;have J:=Y.len;refine⟨Z.map λk=>V.ref k.2,Z.map (·.1),S Z,⟨by simp,λi W=>?_,λi W=>?_⟩,by simp;omega,λF v l y=>q Z F Y v l y⟩
  ·rw[MS]at W;refine⟨Z[i].2,by rw[Nn,MY W];rfl,?_⟩;have:=(N _ (Y.sub _ (Oe W))).1;rw[M5,Nn,MY W];exact this
  ·rw[MS]at W;rw[M5,Nn,MY W];exact Nat.lt_of_lt_of_eq (by decide:0<2) (N _ (Y.sub _ (Oe W))).2.symm
def two(nss:List (List Int)):Bool:=nss.all λns=>ns.length !=0
def rj(nss:List (List Int)):M D:=if nss.length<64/\two nss=b_ then bj ((fO nss).map tupI)else M.fail
def nJ(xs:List D):M D:=match intsOf xs with
 |some ns=>if ns.length<64 then bj ((sortI ns).map D.int)else M.fail
 |none=>match rowsOf xs with
  |some nss=>rj nss
  |none=>M.fail
def cb:List D->M D
 |[.lst k]=>do
  let xs<-getL k
  nJ xs
 |[.fz xs]=>nJ xs
 |_=>M.fail
theorem zy{H:Hp}{vs:List V}{Z:List (List Int)}(h:vs.length=Z.length/\∀i,i<vs.length->∃a,vs[i]? =ar (.ref a)/\H a=ar (.tup ((Z.getD i []).map V.int)))(W:two Z=b_):TRow H vs Z:=
 ⟨h.1,h.2,λi U=>by
  have Y:i<Z.length:=by rw[<-h.1];exact U
  have:=Nx.mp W Z[i] (Oe Y);rw[M5,MY Y];exact Nat.pos_of_ne_zero λz=>by rw[show(ar Z[i]).getD []=Z[i]from rfl]at z;rw[z]at this;cases this⟩
theorem uI:lW X.K E cb (λxs H Q=>(∃(p:c_) (ns:List Int),xs=[.ref p]/\lA X.K H p (ns.map V.int)/\ns.length<64/\∀l,H l=none->Q (.ref l) (upd H l (.lst ((sortI ns).map V.int))))\/
  ∃(p:c_) (vs:List V) (nss:List (List Int)),xs=[.ref p]/\lA X.K H p vs/\TRow H vs nss/\vs.length<64/\∀q,fW nss q->∀l,H l=none->Q (.ref l) (upd H l (.lst (q.map λi=>vs.getD i .non)))):=by
 intro ι S H ds vs Q rep r c;have fin:∀{es:List D} {us:List V} {p:c_},RelDs X.K ι H es us->Rd H p (.lst us)->cont X.K E (nJ es) ι S H (kB X.K Q)->vs=[.ref p]->
   (∃(p:c_) (ns:List Int),vs=[.ref p]/\lA X.K H p (ns.map V.int)/\ns.length<64/\∀l,H l=none->Q (.ref l) (upd H l (.lst ((sortI ns).map V.int))))\/
  ∃(p:c_) (ws:List V) (nss:List (List Int)),vs=[.ref p]/\lA X.K H p ws/\TRow H ws nss/\ws.length<64/\∀q,fW nss q->∀l,H l=none->Q (.ref l) (upd H l (.lst (q.map λi=>ws.getD i .non))):=by
  intro es us p W T Z U;unfold nJ at Z;cases q:intsOf es with
  | some ns=>
   rw[q]at Z;have Y:cont X.K E (if ns.length<64 then bj ((sortI ns).map D.int)else M.fail) ι S H (kB X.K Q):=Z;by_cases h:ns.length<64
   ·rw[if_pos h]at Y;exact .inl ⟨p,ns,U,.inl (by rw[<-gu W q];exact T),h,(bt Y rep (nB _)).2⟩
   ·rw[if_neg h]at Y;exact(ag Y).elim
  | none=>
   rw[q]at Z;cases q2:rowsOf es with
   |none=>rw[q2]at Z;exact(ag Z).elim
   | some nss=>
    rw[q2]at Z;have Y:cont X.K E (if nss.length<64/\two nss=b_ then bj ((fO nss).map tupI)else M.fail) ι S H (kB X.K Q):=Z;by_cases h:nss.length<64/\two nss=b_
    ·rw[if_pos h]at Y;obtain⟨g1,g2⟩:=nH W q2;refine .inr ⟨p,us,nss,U,.inl T,zy ⟨g1,g2⟩ h.2,by omega,λR J l F=>?_⟩;have O:∀i∈R,i<us.length:=λi G=>by rw[g1];exact Na.mp (J.1.mem_iff.mp G)
     have I:RelDs X.K ι H ((fO nss).map tupI) (R.map λi=>us.getD i .non):=by rw[<-mF J];exact nI g2 R O
     exact(bt Y rep I).2 l F
    ·rw[if_neg h]at Y;exact(ag Y).elim
 unfold cb at c;split at c
 ·next k=>
  obtain⟨v,ws,rfl,N,P⟩:=r.cons_inv;cases P.nil_inv;obtain⟨p,rfl,L⟩:=N.lst_inv;obtain⟨es,us,_,T,W,Z⟩:=bx c rep L;exact fin W (.inl T) Z rfl
 ·next es=>
  obtain⟨v,ws,rfl,N,P⟩:=r.cons_inv;cases P.nil_inv;obtain⟨p,o,us,rfl,L,W⟩:=N.fz_inv;exact fin W (.inr ⟨o,L⟩) c rfl
 ·exact(ag c).elim
theorem jI(W:X.mg "sorted"=none)(Y:SE X E e m)(Z:Gl X "sorted":=by rfl)(hs:d_ [e] X.env=[(dt,hJ e X.env)]:=by rfl):SE X E (.Call (.Name "sorted" p) [e] [] pos) (λρ=>do let ds<-(do let x<-m ρ;let xs<-aC [];aC (x::xs));cb ds):=
 jF (dN.or uB sG) uI Z W (by decide+kernel) (af Y ai hs) (by decide) (by decide) hs rfl
def Il(nss:List (List Int)):Bool:=nss.all λns=>ns.length==2
def d8(nss:List (List Int)):M D:=if nss.length<=18/\Il nss=b_ then bj ((iQ nss).map tupI)else M.fail
def nL:List D->M D
 |[.lst k]=>do
  let xs<-getL k
  match rowsOf xs with
  |some nss=>d8 nss
  |none=>M.fail
 |[.tup xs]=>match rowsOf xs with
  |some nss=>d8 nss
  |none=>M.fail
 |[.fz xs]=>match rowsOf xs with
  |some nss=>d8 nss
  |none=>M.fail
 |_=>M.fail
theorem Ft{vs:List V}{Z:List (List Int)}(h:vs.length=Z.length):(mG vs Z).map (·.1)=Z:=by
 unfold mG;rw[Nl];refine PQ λi=>?_;rw[Nn,h];by_cases hi:i<Z.length
 ·rw[Oi hi,MY hi];simp[nC,hi]
 ·rw[N1 (by simpa using hi),N1 (by omega)];rfl
theorem Kj{K:dV}{ι:List c_}{H:Hp}{L:List KA}(h:∀k∈L,H k.2=ar (.tup (k.1.map V.int))):∀q:List Nat,(∀i∈q,i<L.length)->RelDs K ι H ((q.map λi=>(L.map (·.1)).getD i []).map tupI) (q.map λi=>(L.map λk=>V.ref k.2).getD i .non):=by
 intro q Y;refine nI (λi Z=>?_) q λi Z=>by rw[MS];exact Y i Z
 rw[MS]at Z;refine⟨L[i].2,by rw[Nn,MY Z];rfl,?_⟩;rw[M5,Nn,MY Z];exact h _ (Oe Z)
theorem uJ{p q T:Pos}(hc:X.calm=b_)(hu:X.A.units+8<u3)(hm:X.mg "sorted"=none)(f:X.mg "set"=none)(ha:SE X E e m)(hg:Gl X "sorted":=by rfl)(a4:Gl X "set":=by rfl)(hs:d_ [e] X.env=[(dt,hJ e X.env)]:=by rfl)
  (u:d_ [.Call (.Name "set" q) [e] [] T] X.env=[(dt,hJ (.Call (.Name "set" q) [e] [] T) X.env)]:=by rfl):
  SE X E (.Call (.Name "sorted" p) [.Call (.Name "set" q) [e] [] T] [] pos) (λρ=>do let ds<-(do let x<-m ρ;let xs<-aC [];aC (x::xs));nL ds):=by
 refine PE.imp (kA (uH hc) hg hm (by decide+kernel) (fC (lC (Bl hc hu) a4 f (by decide+kernel) (af ha ai hs) (by decide) (by decide) hs rfl) kz u) (by decide) (by decide) u rfl) λσ H Q h=>?_;obtain⟨ι,S,ρ,rep,re,c⟩:=h;refine⟨ι,S,ρ,rep,re,ay (aj c) λds R S1 Y e1 rep1 U vs r=>?_⟩;have fin:∀{xs:List D} {us:List V} {a:c_} {Z:List (List Int)},RelDs X.K R Y xs us->rowsOf xs=ar Z->(lA X.K Y a us\/lQ X.K Y a us)->cont X.K E (d8 Z) R S1 Y (kB X.K Q)->vs=[.ref a]->
   ∃ (p:c_) (vs':List V) (Z:List (List Int)),vs=[.ref p]/\(lA X.K Y p vs'\/lQ X.K Y p vs')/\
    (∀i,i<vs'.length->∃a,vs'[i]? =ar (.ref a)/\Y a=ar (.tup ((Z.getD i []).map V.int)))/\vs'.length<=18/\∀l,Y l=none->
     ∃(p:c_) (kv:List KA),[V.ref l]=[.ref p]/\upd Y l (.ext (pV X.prog X.w l (mG vs' Z))) p=ar (.ext (pV X.prog X.w p kv))/\(∀k∈kv,upd Y l (.ext (pV X.prog X.w l (mG vs' Z))) k.2=ar (.tup (k.1.map V.int))/\k.1.length=2)/\kv.length<=18/\
      ∀L q,Folded kv L->fW (L.map (·.1)) q->∀I,upd Y l (.ext (pV X.prog X.w l (mG vs' Z))) I=none->Q (.ref I) (upd (upd Y l (.ext (pV X.prog X.w l (mG vs' Z)))) I (.lst (q.map λi=>(L.map λk=>V.ref k.2).getD i .non))):=by
  intro xs us a Z P W j z g;unfold d8 at z;by_cases h:Z.length<=18/\Il Z=b_
  ·rw[if_pos h]at z;obtain⟨g1,g2⟩:=nH P W;refine⟨a,us,Z,g,j,g2,by omega,λl t=>⟨l,mG us Z,rfl,bo,λk N=>?_,by unfold mG;simp;omega,λL qq hF hq I n=>?_⟩⟩
   ·unfold mG at N;obtain⟨i,O,rfl⟩:=Nm.mp N;rw[Na]at O;obtain⟨b,b1,J⟩:=g2 i O;have d:us.getD i .non= .ref b:=by rw[M5,b1];rfl
    simp only[d];refine⟨by rw[aN (aK J t)];exact J,?_⟩;have C:i<Z.length:=by omega
    have:=Nx.mp h.2 Z[i] (Oe C);rw[M5,MY C];simpa using this
   ·have hE:Ext R Y R (upd Y l (.ext (pV X.prog X.w l (mG us Z)))):=gK t;have rep2:=i5 (o:=.ext (pV X.prog X.w l (mG us Z))) rep1 t;have a3:∀i∈qq,i<L.length:=λi O=>by
     have:=Na.mp (hq.1.mem_iff.mp O);simpa using this
    have N:∀k∈L,upd Y l (.ext (pV X.prog X.w l (mG us Z))) k.2=ar (.tup (k.1.map V.int)):=λk N=>by
     have y:=hF.sub k N;unfold mG at y;obtain⟨i,O,rfl⟩:=Nm.mp y;rw[Na]at O;obtain⟨b,b1,J⟩:=g2 i O;have d:us.getD i .non= .ref b:=by rw[M5,b1];rfl
     simp only[d];rw[aN (aK J t)];exact J
    have rr:=Kj (K:=X.K) (ι:=R) N qq a3;rw[mF hq,Di hF,Ft g1]at rr;exact(bt (gr z hE) rep2 rr).2 I n
  ·rw[if_neg h]at z;exact(ag z).elim
 unfold nL at U;split at U
 ·next k=>
  obtain⟨v,ws,rfl,G,B⟩:=r.cons_inv;cases B.nil_inv;obtain⟨a,rfl,F⟩:=G.lst_inv;obtain⟨es,us,_,hv,P,s⟩:=bx U rep1 F;cases W:rowsOf es with
  |none=>rw[W]at s;exact(ag s).elim
  |some Z=>
   rw[W]at s;exact fin P W (.inl (.of hv)) s rfl
 ·next xs=>
  obtain⟨v,ws,rfl,G,B⟩:=r.cons_inv;cases B.nil_inv;obtain⟨a,us,rfl,F,P⟩:=G.tup_inv;cases W:rowsOf xs with
  |none=>rw[W]at U;exact(ag U).elim
  |some Z=>
   rw[W]at U;exact fin P W (.inr (.of F)) U rfl
 ·next xs=>
  obtain⟨v,ws,rfl,G,B⟩:=r.cons_inv;cases B.nil_inv;obtain⟨a,o,us,rfl,F,P⟩:=G.fz_inv;cases W:rowsOf xs with
  |none=>rw[W]at U;exact(ag U).elim
  |some Z=>
   rw[W]at U;exact fin P W (.inl (.inl (.inr ⟨o,F⟩))) U rfl
 ·exact(ag U).elim
end
end S3
namespace S4
open PySem PySem.Spec PyProof.Rows L2 S3
section
variable {prog:er}{w:fc}{A:hS}{E:a_->dn->Prop}{s:dn}
theorem mH{Q:a_->dn->Prop}(Z:s.heap.IsTupleIter it t i)(R:s.heap.IsTuple t items)(S:items[i]? =ar x)
  (U:∀h',h'.IsTupleIter it t (i+1)->ri it s.heap h'->Q x {s with heap:=h'}):ee (fg prog w) A (iA (.ref it)) Q E s:=by
 obtain⟨o,Y,T,hd⟩:=id Z;obtain⟨ol,X,_,nl,W⟩:=R;unfold iA;refine MR (wpAny_callSpecial?_slot (name:=h_ "__next__") Z.typeIs OD
  (NX OD Z.typeIs Qk ?_ (Qd _)))
 show ee _ _ (R6 (.ref it) 0>>=_) _ _ s;refine MR (NZ Y hd (x:=.ref t) rfl ?_);show ee _ _ (if (eo t==hO)=b_ then _ else _) _ _ s;rw[if_neg (show ¬ ((eo t==hO)=b_)from N6)];show ee _ _ (R6 (.ref it) 1>>=_) _ _ s;refine MR (NZ Y hd (x:=.int i 0) rfl ?_);show ee _ _ (Sk (.ref t)>>=_) _ _ s;refine MR (On X W ?_);simp only[E_,S];refine MR (OW Y hd (by simp) (MW ⟨x,rfl,MW (U _ ?_ (Ol ..))⟩));exact⟨_,N0 _ Y (O6 (Os hd _)),(QP ..).trans T,by rw[Os hd];simp[mh]⟩
theorem tI(U:A.handled=none)(Z:s.heap.IsTupleIter it t i)(R:s.heap.IsTuple t items)(S:items[i]? =none)
  (T:∀h' e,Heap.ExtBut it s.heap h'->(∃o,h'.get? e=ar o/\o.cls= .type "StopIteration")->E (.ref e) {s with heap:=h'}):ee (fg prog w) A (iA (.ref it)) Q E s:=by
 obtain⟨o,W,P,hd⟩:=id Z;obtain⟨ol,Y,_,nl,X⟩:=R;unfold iA;refine MR (wpAny_callSpecial?_slot (name:=h_ "__next__") Z.typeIs OD
  (NX OD Z.typeIs Qk ?_ (Qd _)))
 show ee _ _ (R6 (.ref it) 0>>=_) _ _ s;refine MR (NZ W hd (x:=.ref t) rfl ?_);show ee _ _ (if (eo t==hO)=b_ then _ else _) _ _ s;rw[if_neg (show ¬ ((eo t==hO)=b_)from N6)];show ee _ _ (R6 (.ref it) 1>>=_) _ _ s;refine MR (NZ W hd (x:=.int i 0) rfl ?_);show ee _ _ (Sk (.ref t)>>=_) _ _ s;refine MR (On Y X ?_);simp only[E_,S];refine MR (QH (MR (OW W hd (by simp) ?_)));show ee _ _ (SU (.type "StopIteration") []>>=_) _ _ _;refine MR ?_;simp only[SU,newTuple];refine MR (NT ?_ (by size_fits));refine MR (m:=E2 _ _) (RN (a:=hO) (by first|rfl|(simp only[E2];rfl)) ?_);refine NT ?_ (by size_fits);simp only[raiseNew];refine MR (wpAny_handled ?_);first|rw[show A.in1.handled=none from U]|rw[U]
 refine MR (MW (wpAny_throw ?_));exact T _ _ (((Ol ..).extBut.push _).push _) ⟨_,M6 _ rfl,rfl⟩
theorem Bm{z TI TO N L p t:c_}{k:Nat}{xs ys:Array a_}{x y a b:a_}{Q:Option a_->dn->Prop}(D:R7 z TI TO N L p t)
  (v:LI s.heap z TI TO .none) (a0:p_ s.heap TI (.ref N) (.ref L)) (j:p_ s.heap TO a b)
  (h1:s.heap.IsTupleIter N p k) (h2:s.heap.IsTupleIter L t k) (d:s.heap.IsTuple p xs) (f:s.heap.IsTuple t ys) (hx:xs[k]? =ar x) (hy:ys[k]? =ar y)
  (hQ:∀h',LI h' z TI TO (mh s.heap.objs.size)->p_ h' TO x y->h'.IsTupleIter N p (k+1)->h'.IsTupleIter L t (k+1)->p_ h' s.heap.objs.size x y->h'.objs.size=s.heap.objs.size+1->
   (∀c o,c≠z->c≠TO->c≠N->c≠L->s.heap.get? c=ar o->h'.get? c=ar o)->Q (ar (.ref s.heap.objs.size)) {s with heap:=h'}):ee (fg prog w) A (D' (.ref z)) Q E s:=by
 have hT:s.TypeIs (.ref z) "zip":=⟨_,v,rfl⟩;unfold D';refine MR (PC (wpAny_callSpecial?_slot (name:=h_ "__next__") hT Ql (NX Ql hT F.entry_zip_next ?_ (F.args_zip_next_1 _))));show ee _ _ (R6 (.ref z) 2>>=_) _ _ _;refine MR (NZ v rfl (x:=.bool dt) rfl ?_);show ee _ _ (R6 (.ref z) 3>>=_) _ _ _;refine MR (NZ v rfl (x:=.ref TI) rfl ?_);refine MR (On a0 rfl ?_);show ee _ _ (k8 (.ref z)>>=_) _ _ _;refine MR ?_;unfold k8;refine MR (NZ v rfl (x:=.none) rfl (MW ?_));simp only[if_true];refine MR (QH ?_);refine MR (NZ v rfl (x:=.ref TO) rfl ?_);refine MR (OJ v (by simp) λg1 C Z=>?_);replace C:LI g1 z TI TO .ellipsis:=C;refine MR ?_;simp only[List.zipIdx_cons,List.zipIdx_nil,N_,List.forIn_nil];refine MR (MR (QV ?_));show ee _ _ (iA (.ref N)>>=_) _ _ _;refine MR (mH (s:={s with heap:=g1}) (h1.at λo e=>Z.extBut _ _ D.i1z e) (d.extBut Z.extBut D.l1z) hx λg2 a3 W=>MW ?_);have O:p_ g2 TO a b:=W.extBut _ _ D.TOi1 (Z.extBut _ _ D.TOz j);refine MR (On O rfl ?_);refine MR (Qa O λg3 R U=>?_);replace R:p_ g3 TO x b:=R;refine MR (RO (MW ?_));refine MR (MR (QV ?_));show ee _ _ (iA (.ref L)>>=_) _ _ _;refine MR (mH (s:={s with heap:=g3}) (((h2.at λo e=>Z.extBut _ _ D.i2z e).at λo e=>W.extBut _ _ D.i12.symm e).at λo e=>U.extBut _ _ D.TOi2.symm e)
  (((f.extBut Z.extBut D.l2z).extBut W.extBut D.l2i1).extBut U.extBut D.l2TO) hy λg4 a4 S=>MW ?_)
 have K:p_ g4 TO x b:=S.extBut _ _ D.TOi2 R;refine MR (On K rfl ?_);refine MR (Qa K λY X T=>?_);replace X:p_ Y TO x y:=X;refine MR (RO (MW (MW ?_)));refine MR (On X rfl ?_);refine MR (wpAny_newTuple ?_);have n:Y.objs.size=s.heap.objs.size:=by rw[T.1,S.1,U.1,W.1,Z.1]
 have q:LI Y z TI TO .ellipsis:=T.extBut _ _ D.TOz.symm (S.extBut _ _ D.i2z.symm (U.extBut _ _ D.TOz.symm (W.extBut _ _ D.i1z.symm C)));have g:∀c o,c≠z->c≠TO->c≠N->c≠L->s.heap.get? c=ar o->Y.get? c=ar o:=λc o G l c3 c4 e=>
  T.extBut _ _ l (S.extBut _ _ c4 (U.extBut _ _ l (W.extBut _ _ c3 (Z.extBut _ _ G e))))
 have h:Y.IsTupleIter N p (k+1):=((a3.at λo e=>U.extBut _ _ D.TOi1.symm e).at λo e=>S.extBut _ _ D.i12 e).at λo e=>T.extBut _ _ D.TOi1.symm e;have i:Y.IsTupleIter L t (k+1):=a4.at λo e=>T.extBut _ _ D.TOi2.symm e;have J:z<Y.objs.size:=MZ q;show ee _ _ (Builtin.SmallTypes.ownedTupleHandOut (.ref z) (.ref Y.objs.size)>>=_) _ _ _;refine MR ?_;unfold Builtin.SmallTypes.ownedTupleHandOut;have a7:LI (Y.push {cls:=.type "tuple",data:=.seq #[x,y]}) z TI TO .ellipsis:=MU _ q;refine MR (OJ a7 (by simp) λg7 B I=>?_);replace B:LI g7 z TI TO (mh Y.objs.size):=B;refine OJ B (by simp) λr P H=>?_;replace P:LI r z TI TO (mh Y.objs.size):=P;have up:∀c o,c≠z->Y.get? c=ar o->r.get? c=ar o:=λc o G e=>H.extBut _ _ G (I.extBut _ _ G (MU _ e));have m:p_ r Y.objs.size x y:=H.extBut _ _ (OF J) (I.extBut _ _ (OF J) (M6 _ rfl));have u:r.objs.size=Y.objs.size+1:=by rw[H.1,I.1,N9]
 rw[n]at P m u;refine MW ⟨_,rfl,?_⟩;refine MW ?_;show Q (ar (.ref Y.objs.size)) _;rw[n];exact hQ r P (up _ _ D.TOz X) (h.at λo e=>up _ o D.i1z e) (i.at λo e=>up _ o D.i2z e) m u λc o G l c3 c4 e=>up c o G (g c o G l c3 c4 e)
theorem Dj{z TI TO L K q n:c_}{k:Nat}{xs ys:Array a_}{a b:a_}{Q:Option a_->dn->Prop}(i:A.handled=none)(D:R7 z TI TO L K q n)
  (N:LI s.heap z TI TO .none) (t:p_ s.heap TI (.ref L) (.ref K)) (u:p_ s.heap TO a b)
  (d:s.heap.IsTupleIter L q k) (h2:s.heap.IsTupleIter K n k) (y:s.heap.IsTuple q xs) (p:s.heap.IsTuple n ys) (I:xs[k]? =none\/ys[k]? =none)
  (r:∀h',(∀c o,c≠z->c≠TO->c≠L->c≠K->s.heap.get? c=ar o->h'.get? c=ar o)->Q none {s with heap:=h'}):ee (fg prog w) A (D' (.ref z)) Q E s:=by
 have j:s.TypeIs (.ref z) "zip":=⟨_,N,rfl⟩;unfold D';refine MR (PC (wpAny_callSpecial?_slot (name:=h_ "__next__") j Ql (NX Ql j F.entry_zip_next ?_ (F.args_zip_next_1 _))));have stop:∀(g:gd) (e:c_),(∃o,g.get? e=ar o/\o.cls= .type "StopIteration")->(∀c o,c≠z->c≠TO->c≠L->c≠K->s.heap.get? c=ar o->g.get? c=ar o)->∀R:a_->dn->Prop,
   (∀v s',ee (fg prog w) A (do if<-isInstance v (.type "StopIteration")then aC none else throw v) Q E s'->R v s')->R (.ref e) {s with heap:=g}:=λg e ⟨o,ho,hc⟩ hk R hR=>hR _ _ (by
  refine MR (Pk (T:="StopIteration") (b:=b_) ⟨o,ho,hc⟩ Qy ?_);exact MW (r _ hk))
 show ee _ _ (R6 (.ref z) 2>>=_) _ _ _;refine MR (NZ N rfl (x:=.bool dt) rfl ?_);show ee _ _ (R6 (.ref z) 3>>=_) _ _ _;refine MR (NZ N rfl (x:=.ref TI) rfl ?_);refine MR (On t rfl ?_);show ee _ _ (k8 (.ref z)>>=_) _ _ _;refine MR ?_;unfold k8;refine MR (NZ N rfl (x:=.none) rfl (MW ?_));simp only[if_true];refine MR (QH ?_);refine MR (NZ N rfl (x:=.ref TO) rfl ?_);refine MR (OJ N (by simp) λg1 S Z=>?_);replace S:LI g1 z TI TO .ellipsis:=S;refine MR ?_;simp only[List.zipIdx_cons,List.zipIdx_nil,N_,List.forIn_nil];refine MR (MR (QV ?_));show ee _ _ (iA (.ref L)>>=_) _ _ _;cases hx:xs[k]? with
 |none=>
  refine MR (tI (s:={s with heap:=g1}) i (d.at λo e=>Z.extBut _ _ D.i1z e) (y.extBut Z.extBut D.l1z) hx λg2 e Y he=>?_);obtain⟨m,X,U⟩:=he;have B:LI g2 z TI TO .ellipsis:=Y _ _ D.i1z.symm S;have O:e≠z:=λx=>by subst x;rw[B]at X;cases X;simp at U
  refine OJ B (by simp) λg3 _ W=>?_;refine MR (Pk (T:="StopIteration") (b:=b_) ⟨m,W.extBut _ _ O X,U⟩ Qy ?_);exact MW (r _ λc o G _ l _ x=>W.extBut _ _ G (Y _ _ l (Z.extBut _ _ G x)))
 | some x=>
  have hy:ys[k]? =none:=by rcases I with h|h;rw[hx]at h;cases h;exact h
  refine MR (mH (s:={s with heap:=g1}) (d.at λo e=>Z.extBut _ _ D.i1z e) (y.extBut Z.extBut D.l1z) hx λg2 a3 Y=>MW ?_);have P:p_ g2 TO a b:=Y.extBut _ _ D.TOi1 (Z.extBut _ _ D.TOz u);refine MR (On P rfl ?_);refine MR (Qa P λg3 f W=>?_);refine MR (RO (MW ?_));refine MR (MR (QV ?_));show ee _ _ (iA (.ref K)>>=_) _ _ _;refine MR (tI (s:={s with heap:=g3}) i (((h2.at λo e=>Z.extBut _ _ D.i2z e).at λo e=>Y.extBut _ _ D.i12.symm e).at λo e=>W.extBut _ _ D.TOi2.symm e)
   (((p.extBut Z.extBut D.l2z).extBut Y.extBut D.l2i1).extBut W.extBut D.l2TO) hy λg4 e C he=>?_)
  obtain⟨m,X,U⟩:=he;have H:LI g4 z TI TO .ellipsis:=C _ _ D.i2z.symm (W.extBut _ _ D.TOz.symm (Y.extBut _ _ D.i1z.symm S));have O:e≠z:=λx=>by subst x;rw[H]at X;cases X;simp at U
  refine OJ H (by simp) λg5 _ J=>?_;refine MR (Pk (T:="StopIteration") (b:=b_) ⟨m,J.extBut _ _ O X,U⟩ Qy ?_);exact MW (r _ λc o G c2 l c4 x=>J.extBut _ _ G (C _ _ c4 (W.extBut _ _ c2 (Y.extBut _ _ l (Z.extBut _ _ G x)))))
end
def Lg(l:c_):Obj:={cls:=.type "tuple_iterator",data:=.fields #[.ref l,.int 0 0]}
def Im(h:gd)(l1:c_):Heap:=h.push (Lg l1)
def Io(h:gd)(l1 l2:c_):Heap:=(Im h l1).push (Lg l2)
def Ip(h:gd)(l1 l2:c_):Heap:=(Io h l1 l2).push {cls:=.type "tuple",data:=.seq #[.ref h.objs.size,.ref (Im h l1).objs.size]}
def Jx(h:gd)(l1 l2:c_):Heap:=(Ip h l1 l2).push {cls:=.type "tuple",data:=.seq #[.none,.none]}
def Iq(h:gd)(l1 l2:c_):Heap:=(Jx h l1 l2).push {cls:=.type "zip",data:=.fields #[.none,.bool dt,.bool dt,.ref (Io h l1 l2).objs.size,.ref (Ip h l1 l2).objs.size]}
theorem Ir(Z Y:c_)(xs ys:Array a_):
  Meets (Builtin.«zip.__new__» ⟨[.type "zip",.ref Z,.ref Y],[]⟩) (λ_ R s=>s.heap.IsTuple Z xs/\s.heap.IsTuple Y ys/\R (.ok (.ret (.ref (Jx s.heap Z Y).objs.size))) {s with heap:=Iq s.heap Z Y}):=
 .of_wp λprog w A R s h=>by
  obtain⟨S,g,d,Q,os⟩:=s;obtain⟨U,W,h⟩:=h;have P:=sub_zip;have T:Heap.IsTuple (Shared.heap ⟨S,g,d,Q,os⟩) Z xs:=U;have X:Heap.IsTuple (Shared.heap ⟨S.push {cls:=.type "tuple_iterator",data:=.fields #[.ref Z,.int 0 0]},g,d,Q,os⟩) Y ys:=let ⟨o,e,r⟩:=W;⟨o,MU _ e,r⟩
  wp_walk using Pr T,Pr X
  exact⟨_,rfl,h⟩
section
variable {prog:er}{w:fc}{A:hS}{E:a_->dn->Prop}{s:dn}
theorem Bo{Q:a_->dn->Prop}(P:s.heap.IsTuple l1 xs)(T:s.heap.IsTuple l2 ys)
  (h:∀h',LI h' (s.heap.objs.size+4) (s.heap.objs.size+2) (s.heap.objs.size+3) .none->p_ h' (s.heap.objs.size+2) (.ref s.heap.objs.size) (.ref (s.heap.objs.size+1))->
   p_ h' (s.heap.objs.size+3) .none .none->h'.IsTupleIter s.heap.objs.size l1 0->h'.IsTupleIter (s.heap.objs.size+1) l2 0->(∀c o,s.heap.get? c=ar o->h'.get? c=ar o)->Q (.ref (s.heap.objs.size+4)) {s with heap:=h'}):
  ee (fg prog w) A (call (.type "zip") [.ref l1,.ref l2]) Q E s:=by
 refine callType_new F.called_zip (by decide) (F.typeCall_zip_2 _ _) (F.newCall_zip_2 _ _) (λobj=>F.args_object_init_3 obj _ _) F.entry_zip_new (Ir l1 l2 xs ys) ⟨P,T,?_⟩;have R:(Im s.heap l1).objs.size=s.heap.objs.size+1:=N9 ..;have X:(Io s.heap l1 l2).objs.size=s.heap.objs.size+2:=(N9 ..).trans (by rw[R]);have U:(Ip s.heap l1 l2).objs.size=s.heap.objs.size+3:=(N9 ..).trans (by rw[X]);have O:(Jx s.heap l1 l2).objs.size=s.heap.objs.size+4:=(N9 ..).trans (by rw[U]);have Z:∀{c o},(Jx s.heap l1 l2).get? c=ar o->(Iq s.heap l1 l2).get? c=ar o:=λe=>MU _ e;have Y:∀{c o},(Ip s.heap l1 l2).get? c=ar o->(Jx s.heap l1 l2).get? c=ar o:=λe=>MU _ e;have S:∀{c o},(Io s.heap l1 l2).get? c=ar o->(Ip s.heap l1 l2).get? c=ar o:=λe=>MU _ e;have N:∀{c o},(Im s.heap l1).get? c=ar o->(Io s.heap l1 l2).get? c=ar o:=λe=>MU _ e;have K:∀{c o},s.heap.get? c=ar o->(Im s.heap l1).get? c=ar o:=λe=>MU _ e;have W:(Iq s.heap l1 l2).get? (Jx s.heap l1 l2).objs.size=ar {cls:=.type "zip",data:=.fields #[.none,.bool dt,.bool dt,.ref (Io s.heap l1 l2).objs.size,.ref (Ip s.heap l1 l2).objs.size]}:=M6 _ rfl;have L:(Iq s.heap l1 l2).get? (Ip s.heap l1 l2).objs.size=ar {cls:=.type "tuple",data:=.seq #[.none,.none]}:=Z (M6 _ rfl);have g3:(Iq s.heap l1 l2).get? (Io s.heap l1 l2).objs.size=ar {cls:=.type "tuple",data:=.seq #[.ref s.heap.objs.size,.ref (Im s.heap l1).objs.size]}:=Z (Y (M6 _ rfl));have g2:(Iq s.heap l1 l2).get? (Im s.heap l1).objs.size=ar (Lg l2):=Z (Y (S (M6 _ rfl)));have g1:(Iq s.heap l1 l2).get? s.heap.objs.size=ar (Lg l1):=Z (Y (S (N (M6 _ rfl))));show _/\_;rw[X,U,O]at W;rw[R,X]at g3;rw[U]at L;rw[R]at g2;rw[O];exact⟨⟨_,W,rfl⟩,h _ W g3 L ⟨_,g1,rfl,rfl⟩ ⟨_,g2,rfl,rfl⟩ λc o x=>Z (Y (S (N (K x))))⟩
end
def B2(va vb:List V):It:=⟨λi _=>i<va.length/\i<vb.length,λi H x H'=>∃p a b,H p=none/\va[i]? =ar a/\vb[i]? =ar b/\x= .ref p/\H'=upd H p (.tup [a,b]),λi _=>va.length<=i\/vb.length<=i⟩
section
variable {X:Cx}{pins:List (c_×Obj)}{σ:L2.St}{H:Hp}{s:dn}
theorem zz{h':gd}{t':Nat}{ch:List c_}(I:L2.Inv X pins σ H s)(W:∀b∈ch,mw X pins H b)(k:∀b o,b∉ch->s.heap.get? b=ar o->h'.get? b=ar o):L2.Inv X pins σ H {s with heap:=h',toks:=t'}:=by
 have Y:∀b u,H b=ar u->b∉ch:=λb u e z=>by rw[(W b z).1]at e;cases e
 refine I.step (g':=s.gens) (d':=s.drawn) (ch:=ch) (λb R=>?_) (λb o _ _ Z e _=>k b o Z e) (λb o _ _ Z e _=>⟨o.slots,k b o Z e⟩) (λ_ _ _ _ n=>n)
  (λb o Z e=>⟨o,k b o Z e⟩) (λ_ _ e=>e) (λ_ _ _ e=>e) (λb Q e=>⟨#[],by rw[e];simp⟩) (λm hm=>?_) (λb u e=>?_) I.bare
 ·obtain⟨f0,f1,f2,T,f4,S⟩:=W b R;exact⟨T,f1,f4,S⟩
 ·obtain⟨o,es,ep,U,r⟩:=hm;exact⟨o,es,ep,k _ o (λz=>(W _ z).2.1 rfl) U,r⟩
 ·refine(I.hok b u e).stay (λc v Z q=>k c v ?_ q) (λ_ q=>q) λ_ _ q=>q;rcases Z with z|z
  ·rw[z];exact Y b u e
  ·exact Y c _ z
theorem zA{h':gd}{t':Nat}{ch:List c_}{a:c_}{o:HO}(I:L2.Inv X pins σ H s)(T:∀b∈ch,mw X pins H b)(k:∀b o,b∉ch->s.heap.get? b=ar o->h'.get? b=ar o)(R:s.heap.objs.size<=a)(S:bG X.prog X.w (upd H a o) h' a o):
  L2.Inv X pins σ (upd H a o) {s with heap:=h',toks:=t'}:=by
 have Y:H a=none:=I.hok.fresh R;have W:∀b u,H b=ar u->b∉ch:=λb u e z=>by rw[(T b z).1]at e;cases e
 have ne:∀b o,s.heap.get? b=ar o->b≠a:=λb o e=>Ng (Nf (MZ e) R);refine I.step (g':=s.gens) (d':=s.drawn) (ch:=ch) (λb U=>?_) (λb o _ _ Z e _=>k b o Z e) (λb o _ _ Z e _=>⟨o.slots,k b o Z e⟩) (λb o _ e n=>by rw[aN (ne b o e)];exact n)
  (λb o Z e=>⟨o,k b o Z e⟩) (λb xs e=>by rw[aN (aK e Y)];exact e) (λb _ _ e=>by rw[aN (aK e Y)];exact e) (λb N e=>⟨#[],by rw[aN (aK e Y),e];simp⟩) (λm hm=>?_) (λb u e=>?_) I.bare
 ·obtain⟨f0,f1,f2,P,f4,O⟩:=T b U;exact⟨P,f1,f4,O⟩
 ·obtain⟨o,es,ep,Q,r⟩:=hm;exact⟨o,es,ep,k _ o (λz=>(T _ z).2.1 rfl) Q,r⟩
 ·by_cases U:b=a
  ·subst U;rw[bo]at e;cases e;exact S
  ·rw[aN U]at e;refine(I.hok b u e).stay (λc v Z q=>k c v ?_ q) (λc q=>by rw[aN (aK q Y)];exact q) λc xs q=>by rw[aN (aK q Y)];exact q
   rcases Z with z|z
   ·rw[z];exact W b u e
   ·exact W c _ z
end
theorem Dk{P:er}{w:fc}{K:dV}{u:List Expr}{x1}{tp:Pos}{z TI TO Q O l1 l2:c_}(D:R7 z TI TO Q O l1 l2){F J:List V}(H0:Hp->Prop)(t:∀H,H0 H↔(H l1=ar (.tup F)/\H l2=ar (.tup J))):
  Turn P w K (.Tuple u x1 tp) ⟨λi H=>(B2 F J).go i H/\H0 H,(B2 F J).yld,λi H=>(B2 F J).stop i H/\H0 H⟩ [z,TI,TO,Q,O] z
   (λi h=>LI h z TI TO .none/\p_ h TI (.ref Q) (.ref O)/\(∃a b,p_ h TO a b)/\h.IsTupleIter Q l1 i/\h.IsTupleIter O l2 i) where
 mem:=by simp
 obj:=λi h st b Z=>by
  obtain⟨S,Y,⟨a,c,U⟩,⟨o1,e1,c1,d1⟩,⟨o2,e2,c2,d2⟩⟩:=st;simp only[f_,eK,or_false]at Z;rcases Z with rfl|rfl|rfl|rfl|rfl
  ·exact⟨_,S,λv z=>by cases z⟩
  ·exact⟨_,Y,λv z=>by cases z⟩
  ·exact⟨_,U,λv z=>by cases z⟩
  ·exact⟨_,e1,λv z=>by rw[d1]at z;cases z⟩
  ·exact⟨_,e2,λv z=>by rw[d2]at z;cases z⟩
 keep:=λi h h' st k=>by obtain⟨S,Y,⟨a,c,U⟩,G,C⟩:=st;exact⟨k z (by simp) _ S,k TI (by simp) _ Y,⟨a,c,k TO (by simp) _ U⟩,G.at λo e=>k Q (by simp) o e,C.at λo e=>k O (by simp) o e⟩
 item:=by
  intro X hP hw f hc i pins s σ H E I hf st hg;subst hP hw f;obtain⟨S,Y,⟨a,c,U⟩,G,C⟩:=st;obtain⟨⟨ga,gb⟩,m⟩:=hg;obtain⟨hA,j⟩:=(t H).mp m;obtain⟨A,L,d,_⟩:=I.tuple (.of hA);obtain⟨r,N,p2,_⟩:=I.tuple (.of j);obtain⟨u1,n,b4⟩:=L.get (MY ga);obtain⟨u2,l,b1⟩:=N.get (MY gb);refine Bm D S Y U G C d p2 (x:=u1) (y:=u2) (by simpa using n) (by simpa using l) λh' a1 a2 a3 a4 a5 a6 p=>?_;have c3:H s.heap.objs.size=none:=I.hok.fresh (MV _);have lt:∀{c o},s.heap.get? c=ar o->s.heap.objs.size≠c:=λe=>OF (MZ e);refine⟨_,rfl,QA a1 λR a0 T=>?_⟩;have B:p_ R TI (.ref Q) (.ref O):=T.extBut _ _ D.TIz (p _ _ D.TIz D.TITO D.TIi1 D.TIi2 Y);have kk:∀b o,b∉[z,TI,TO,Q,O]->s.heap.get? b=ar o->R.get? b=ar o:=λb o Z e=>by simp only[f_,eK,or_false,not_or]at Z;exact T.extBut _ _ Z.1 (p b o Z.1 Z.2.2.1 Z.2.2.2.1 Z.2.2.2.2 e)
  have q:p_ R s.heap.objs.size u1 u2:=T.extBut _ _ (lt S) a5;have I2:L2.Inv X pins σ (upd H s.heap.objs.size (.tup [F[i],J[i]])) {s with heap:=R,toks:=s.toks}:=zA (o:=.tup [F[i],J[i]]) I hf kk (MV _) ⟨⟨by show 2<=sizeLine;decide,_,q,rfl⟩,[u1,u2],.cons b4 (.cons b1 .nil),_,q,rfl,_,rfl⟩;refine⟨.ref s.heap.objs.size,_,I2,rfl,
   ⟨_,_,_,c3,MY ga,MY gb,rfl,rfl⟩,⟨a0,B,⟨_,_,T.extBut _ _ D.TOz a2⟩,a3.at λo e=>T.extBut _ _ D.i1z e,a4.at λo e=>T.extBut _ _ D.i2z e⟩,λb Z=>?_⟩
  obtain⟨ob,ho,_⟩:∃ob,s.heap.get? b=ar ob/\True:=by
   simp only[f_,eK,or_false]at Z;rcases Z with rfl|rfl|rfl|rfl|rfl
   ·exact⟨_,S,trivial⟩
   ·exact⟨_,Y,trivial⟩
   ·exact⟨_,U,trivial⟩
   ·obtain⟨o,e,_⟩:=G;exact⟨_,e,trivial⟩
   ·obtain⟨o,e,_⟩:=C;exact⟨_,e,trivial⟩
  rw[aN (Ng (MZ ho))];exact(hf b Z).1
 done:=by intro X hP hw f hc i pins s σ H E I hf st hg;subst hP hw f;obtain⟨S,Y,⟨a,c,U⟩,G,C⟩:=st;obtain⟨gs,m⟩:=hg;obtain⟨hA,j⟩:=(t H).mp m;obtain⟨A,L,d,_⟩:=I.tuple (.of hA);obtain⟨r,N,p2,_⟩:=I.tuple (.of j);have e4:=L.length;have e5:=N.length;refine Dj (I.ok.hd hc) D S Y U G C d p2 (gs.imp (λg=>by simp;omega) λg=>by simp;omega) λh' p=>⟨rfl,zz (t':=s.toks) I hf λb o Z e=>?_⟩;simp only[f_,eK,or_false,not_or]at Z;exact p b o Z.1 Z.2.2.1 Z.2.2.2.1 Z.2.2.2.2 e
 self:=λ_ _ _ _ _ st h=>P6 st.1 h
theorem zip_get{xs ys:List D}{i:Nat}{d:D}(h:((xs.zip ys).map λp=>D.tup [p.1,p.2])[i]? =ar d):∃x y,xs[i]? =ar x/\ys[i]? =ar y/\d= .tup [x,y]:=by
 rw[Nn]at h;cases q:(xs.zip ys)[i]? with
 |none=>rw[q]at h;cases h
 |some p=>
  rw[q]at h;cases h;obtain⟨Z,Y⟩:=Pe.mp q;exact⟨p.1,p.2,Z,Y,rfl⟩
theorem yg{K:dV}{ι:List c_}{H:Hp}{S:av}{a b:c_}{Y X:List V}{xs ys:List D}(Z:Rep K ι H S)(I:H a=ar (.tup Y))(G:H b=ar (.tup X))(w:RelDs K ι H xs Y)(C:RelDs K ι H ys X):
  kH K ⟨(xs.zip ys).map λp=>.tup [p.1,p.2],.none⟩ ⟨λi H=>(B2 Y X).go i H/\(H a=ar (.tup Y)/\H b=ar (.tup X)),(B2 Y X).yld,λi H=>(B2 Y X).stop i H/\(H a=ar (.tup Y)/\H b=ar (.tup X))⟩ ι H:=by
 intro P O S2 e rep2 ok i;have U:O a=ar (.tup Y):=(e.oth a _ I (Z.notIn I (by intro _ z;cases z)) (by intro _ z;cases z) (by intro _ z;cases z)).1;have R:O b=ar (.tup X):=(e.oth b _ G (Z.notIn G (by intro _ z;cases z)) (by intro _ z;cases z) (by intro _ z;cases z)).1;have T:=w.laterN Z e;have Q:=C.laterN Z e;have u:=T.length;have s:=Q.length;refine⟨λd hd=>?_,λhlen=>?_⟩
 ·obtain⟨x,y,E,F,rfl⟩:=zip_get hd;have t:=(MX.mp E).1;have r:=(MX.mp F).1;refine⟨⟨⟨by omega,by omega⟩,U,R⟩,?_⟩;rintro v H3 ⟨p,L,J,hp,g1,g2,rfl,rfl⟩;obtain⟨v1,e1,A⟩:=T.get' E;obtain⟨v2,e2,B⟩:=Q.get' F;obtain rfl:v1=L:=Nw (e1.symm.trans g1);obtain rfl:v2=J:=Nw (e2.symm.trans g2);have N:Ext P O P (upd O p (.tup [v1,v2])):=gK hp;exact⟨N,i5 rep2 hp,.tup bo (.cons (A.later rep2 N) (.cons (B.later rep2 N) .nil))⟩
 ·have q:min xs.length ys.length<=i:=by simpa using hlen
  refine⟨?_,U,R⟩;rcases Nat.le_total xs.length ys.length with z|z
  ·exact .inl (by omega)
  ·exact .inr (by omega)
end S4
namespace S3
open PySem PySem.Spec PyProof.Rows L2 S4
abbrev mV(i:Nat):TM:=λρ=>GH ρ i
abbrev mK(d:D):TM:=λ_=>aC d
abbrev pW(m n:TM):TM:=λρ=>do let x<-m ρ;let c<-lS x;if c=b_ then n ρ else aC (.bl dt)
abbrev Mb(m:TM):TM:=λρ=>do let x<-m ρ;let c<-lS x;aC (.bl (!c))
abbrev Lh(t:aI->M Bool)(m n:TM):TM:=λρ=>do let k<-t ρ;if k=b_ then m ρ else n ρ
abbrev B3:=aI->M (List D)
abbrev ak:B3:=λ_=>aC []
abbrev ae(m:TM)(ms:B3):B3:=λρ=>do let x<-m ρ;let xs<-ms ρ;aC (x::xs)
abbrev ft(ms:B3):TM:=λρ=>do let ds<-ms ρ;bH ds
abbrev bc(ms:B3):TM:=λρ=>do let ds<-ms ρ;bj ds
abbrev az(F:List D->M D)(ms:B3):TM:=λρ=>do let ds<-ms ρ;F ds
abbrev di(F:List D->M D)(m:TM):TM:=az F (ae m ak)
abbrev aU(f:D->D->M D)(m n:TM):TM:=λρ=>do let x<-m ρ;let y<-n ρ;f x y
abbrev Iu(f g:D->D->M D)(m n l:TM):TM:=λρ=>do let x<-m ρ;let y<-n ρ;let z<-f x y;let k<-lS z;if k=b_ then do let w<-l ρ;g y w else aC (.bl dt)
abbrev Mc:=aI->M (Option Int)
abbrev oN:Mc:=λ_=>aC none
abbrev oS(m:TM):Mc:=λρ=>do let x<-m ρ;let i<-Mw x;aC (ar i)
abbrev wo(m:TM)(lo hi:Mc):TM:=λρ=>do let x<-m ρ;let i<-lo ρ;let j<-hi ρ;ux x i j
abbrev gx(m:TM)(T:String):TM:=λρ=>do let x<-m ρ;CV (λt=>i3 t T) x
abbrev Kk(m:TM)(T U:String):TM:=λρ=>do let x<-m ρ;CV (λt=>i3 t T||i3 t U) x
abbrev uK(f:D->List D->M D)(m n:TM):TM:=λρ=>do let x<-m ρ;HW x;let ds<-(do let y<-n ρ;let ys<-aC [];aC (y::ys));f x ds
abbrev aW(mi:aI->M Iter)(g:oH)(t:aI->M Bool)(m:TM)(js:List (Option Nat)):TM:=λρ=>do let it<-mi ρ;let ys<-dq it g t m (gU js ρ);bj ys
abbrev gM:=aI->M Bool
abbrev bV(m:TM):gM:=λρ=>do let x<-m ρ;lS x
abbrev fP(f:D->D->M D)(m n:TM):gM:=λρ=>do let z<-(do let x<-m ρ;let y<-n ρ;f x y);lS z
abbrev yh(f g:D->D->M D)(m n l:TM):gM:=λρ=>do let v<-(do let x<-m ρ;let y<-n ρ;let z<-f x y;let k<-lS z;if k=b_ then do let w<-l ρ;g y w else aC (.bl dt));lS v
abbrev eR(t:gM):gM:=λρ=>do let c<-t ρ;aC (!c)
abbrev Dl(t u:gM):gM:=λρ=>do let c<-t ρ;if c=b_ then u ρ else aC dt
abbrev B4(t u:gM):gM:=λρ=>do let c<-t ρ;if c=b_ then aC b_ else u ρ
abbrev kh:gM:=λ_=>aC b_
abbrev iY(m:TM):aI->M Iter:=λρ=>do let ds<-ae m ak ρ;mD ds
abbrev GN(m n:TM):aI->M Iter:=λρ=>do let ds<-ae m (ae n ak) ρ;lG ds
abbrev cg(m:TM):aI->M Iter:=λρ=>do let x<-m ρ;Kf x
abbrev gN(i:Nat):oH:=λd ρ=>aC (ρ.set i (ar d))
abbrev Li(m n:TM):oH:=λd ρ=>do let x<-m ρ;let y<-n ρ;kG x y d;aC ρ
abbrev fS:cY:=λρ=>aC (.nx ρ)
abbrev aJ(m n:cY):cY:=λρ=>do let o<-m ρ;CH o n
abbrev qh(me:TM):cY:=λρ=>do let _<-me ρ;aC (.nx ρ)
abbrev cq(me:TM):cY:=λρ=>do let d<-me ρ;aC (.ret d)
abbrev lI(t:gM)(m n:cY):cY:=λρ=>do let c<-t ρ;if c=b_ then m ρ else n ρ
abbrev bE(i:Nat)(me:TM):cY:=λρ=>do let d<-me ρ;aC (.nx (ρ.set i (ar d)))
abbrev rk(me:TM)(g:oH):cY:=λρ=>do let d<-me ρ;let ρ'<-g d ρ;aC (.nx ρ')
abbrev Bp(i j:Nat)(ms:B3):cY:=λρ=>do let ds<-ms ρ;match ds with|[d1,d2]=>aC (.nx ((ρ.set i (ar d1)).set j (ar d2)))|_=>M.fail
abbrev iu(mi:aI->M Iter)(g:oH)(b:cY):cY:=λρ=>do let it<-mi ρ;eQ it g b it.items ρ
abbrev Iv(k:Nat)(t:gM)(b:cY):cY:=λρ=>kI t b k ρ
structure DefIs(P:er)(w:fc)(K:dV)(mg:Str->Option a_)(base:gd)(k:Nat)(x:Str)(ps:List Str)(F:List D->M D):Prop where
 ex:∃f fd,FnOk P w K mg base MH k f fd ps (MJ K F)/\mg x=ar (.ref f)/\xg K (.ref f)=b_/\Binds K fd ps []
section
variable {X:Cx}{E:XD}{e:Expr}{es:List Expr}{pos:Pos}{ms:B3}
theorem aw{c j p}:d_ (.Constant c j p::es) env=(dt,hJ (.Constant c j p) env)::d_ es env:=rfl
theorem bh{l k p}:d_ (.Tuple l k p::es) env=(dt,hJ (.Tuple l k p) env)::d_ es env:=rfl
theorem qi{l p}:d_ (.List l p::es) env=(dt,hJ (.List l p) env)::d_ es env:=rfl
theorem au{x p}:d_ (.Name x p::es) env=(dt,hJ (.Name x p) env)::d_ es env:=rfl
theorem ba{f l k p}:d_ (.Call f l k p::es) env=(dt,hJ (.Call f l k p) env)::d_ es env:=rfl
theorem dR{a o b p}:d_ (.BinOp a o b p::es) env=(dt,hJ (.BinOp a o b p) env)::d_ es env:=rfl
theorem bC{a b p}:d_ (.Subscript a b p::es) env=(dt,hJ (.Subscript a b p) env)::d_ es env:=rfl
theorem zB{a b p}:d_ (.Dict a b p::es) env=(dt,hJ (.Dict a b p) env)::d_ es env:=rfl
theorem mI{a b p}:d_ (.UnaryOp a b p::es) env=(dt,hJ (.UnaryOp a b p) env)::d_ es env:=rfl
theorem wq{a o b p}:d_ (.ListComp a o b p::es) env=(dt,hJ (.ListComp a o b p) env)::d_ es env:=rfl
theorem uL{j p}:SE X E (.UnaryOp .USub (.Constant (.int i) j p) pos) (mK (.int (-i))):=by refine PE.imp (JV HA B8) λσ H Q h=>?_;obtain⟨ι,S,ρ,rep,re,c⟩:=h;exact⟨i,rfl,aq c .refl rep _ (.int _)⟩
theorem Dm(Z:Gl X x)(W:∃t,X.mg x=ar (.int i t))(Y:(x==("__debug__":Str))=false:=by decide):SE X E (.Name x pos) (mK (.int i)):=
 let ⟨_,h⟩:=W
 Fg Z h Y
def Kl(fs:Scope)(N:List Str)(scope:Scope)(Nc:List Str)(js:List (Option Nat)):Bool:=
 (scope.kind== .function) && scope.names.all (λy=>y.2 != .cell||scope.names.lookup y.1==ar .cell) && scope.names.all (λy=>y.2 != .local||scope.names.lookup y.1==ar .local) &&
  scope.names.all (λy=>y.2 != .free||(fs.names.lookup y.1==ar .cell||fs.names.lookup y.1==ar .free)) && (js.length==Nc.length) &&
  (Nc.zip js).all (λp=>match p.2 with|none=>b_|some j=>N[j]? ==ar p.1 && scope.names.lookup p.1==ar .free)
theorem gp(Y:Scope)(N:List Str)(P:∀x,X.env.kindOf x=Y.names.lookup x)(O:X.N=N)(h:Kl Y N scope Nc js=b_):CompScope X scope Nc js:=by
 unfold Kl at h;simp only[j_,y1,beq_iff_eq,bne_iff_ne,A2]at h;obtain⟨⟨⟨⟨⟨Q,T⟩,U⟩,L⟩,R⟩,S⟩:=h;refine⟨Q,λy Z e=>(T y Z).resolve_left λz=>z e,λy Z e=>(U y Z).resolve_left λz=>z e,λy Z e=>?_,R,λi x j e1 e2=>?_⟩
 ·rw[P];exact(L y Z).resolve_left λz=>z e
 ·have W:(Nc.zip js)[i]? =ar (x,ar j):=Pe.mpr ⟨e1,e2⟩;have:=S _ (Nz W);simp only[j_,beq_iff_eq]at this;rw[O];exact this
theorem fT(Z:Room k A):A.units+64<cLine:=by have:=Z.un;omega
theorem ML(Z:Room k A):A.units+8<cLine:=by have:=Z.un;omega
theorem Km(Z:Room k A):A.units<cLine:=by have:=Z.un;omega
end
section
variable {P:er}{w:fc}{K:dV}{mg:Str->Option a_}{base:gd}
end
def runs{α:Type}(c:M α)(S:av)(Q:α->av->Prop):Prop:=∃a S',c S=ar (.ok a,S')/\Q a S'
section
variable {α β:Type}{c:M α}{f:α->M β}{S:av}{Q Q':α->av->Prop}{R:β->av->Prop}
theorem uM(h:c S=ar (.ok a,S1)):runs c S Q↔Q a S1:=by
 constructor
 ·rintro⟨a',S',e,q⟩;rw[h]at e;cases e;exact q
 ·exact λq=>⟨a,S1,h,q⟩
theorem Fu(h:c S=none):runs c S Q↔False:=by
 constructor
 ·rintro⟨a',S',e,q⟩;rw[h]at e;cases e
 ·exact λq=>q.elim
theorem tJ(h:runs c S Q)(k:∀a S',Q a S'->Q' a S'):runs c S Q':=let ⟨a,S',e,q⟩:=h;⟨a,S',e,k a S' q⟩
end
section
variable {S:av}{Q:D->av->Prop}
theorem Bq:runs (bj ds) S Q↔ds.length<=lim/\Q (.lst S.length) (S++[ds]):=by
 by_cases h:ds.length<=lim
 ·rw[uM (by unfold bj;rw[if_pos h])];simp[h]
 ·rw[Fu (by unfold bj;rw[if_neg h])];simp[h]
theorem fX{f:n_->n_->Bool}(Z:gm S 60 a=ar p)(Y:gm S 60 b=ar q):runs (Jv f a b) S Q↔Q (.bl (f p q)) S:=by rw[uM (by unfold Jv;rw[Z,Y])]
theorem nM(Z:gm S 60 a=ar p)(X:gm S 60 b=ar q)(Y:L7 f p q=ar r):runs (Jw f a b) S Q↔Q (.bl r) S:=by rw[uM (by unfold Jw;rw[Z,X];simp only[Y];rfl)]
end
end S3
namespace S7
open PySem PySem.Spec PySem.W PyProof.Rows
section
variable {prog:er}{w:fc}{A:hS}{E:a_->dn->Prop}{s:dn}{K:S_}{x C:c_}{ox:Obj}{od:Option Obj}{name:Str}
theorem zF:Slot "BaseException" "__getattribute__" "BaseException.__getattribute__":=
 .of (owner:="BaseException") (n:="__getattribute__") (by rw[Q9,P4];kernel_rfl) (by decide+kernel) (by decide+kernel) (by decide+kernel)
  (by first|exact .inl (by decide+kernel)|exact .inr (by decide+kernel)) (by rw[PU];kernel_rfl)
theorem Dn{M:Sd}{Z:a_}{Q:Unit->dn->Prop}(X:K.In s.heap)(I:z6 s.heap x ox C od)(S:Sl K C (.type "BaseException")=ar b_)(h:Q () s):
  ee M A (K' "BaseException.__getattribute__" ⟨[.ref x,Z],[]⟩) Q E s:=by
 have U:builtinKind "BaseException.__getattribute__"=ar .slot:=by decide+kernel
 have Y:splitId "BaseException.__getattribute__"=ar ("BaseException","__getattribute__"):=by decide+kernel
 have R:=I.type (M:=M);have L1:=looks_mroIn (M:=M) X S;have O:=F.args_bexc_ga (.ref x) Z;obtain⟨T,g,d,t,os⟩:=s;have P:Looks M T (isInstance (.ref x) (.type "BaseException")) true:=R.andThen L1;simp only[K',U,Y];refine MR (P.at ?_)
 repeat (first|wp_step)
 exact h
theorem Do{Y Z:Bool}{O:Tok}{Q:a_->dn->Prop}(X:K.In s.heap)(I:z6 s.heap x ox C od)(R:A_ K (.ref C) "__getattribute__"=ar (ar (.builtin "BaseException.__getattribute__")))
  (U:A_ K (.ref C) "__getattr__"=ar none) (N:Sl K C (.type "BaseException")=ar b_)
  (h:ee (fg prog w) A.in1 (Builtin.«object.__getattribute__» ⟨[.ref x,.str name O],[]⟩)
   (λfin s'=>match fin with| .done (.ret v)=>ee (fg prog w) A (handedOut v) Q E s'|_=>False) (λ_ _=>False) s):
  ee (fg prog w) A (getAttrBy (.ref x) (.str name O) Y Z) Q E s:=by
 obtain⟨J,g,d,t,os⟩:=s;have L:=I.type (M:=fg prog w);have L1:=looks_findIn (M:=fg prog w) X R;have L2:=looks_findIn (M:=fg prog w) X U;have S:(Z && Sn (z4 "BaseException.__getattribute__"))=false:=by cases Z<;>rfl
 have P:(z4 "BaseException.__getattribute__"==z4 "object.__getattribute__")=false:=by decide+kernel
 have T:(Sn (eo C) && z4 "BaseException.__getattribute__"==z4 "object.__getattribute__")=false:=by rw[P,OV]
 unfold getAttrBy;refine NV (MR (L.at (MR (L1.at ?_))));dsimp only;rw[T];simp only[e_,if_false];unfold getAttrByItsOwn hookBefore;rw[if_pos (show Sn (eo C)=b_ from rfl)];refine MR (L2.at ?_);unfold callGetattribute;rw[S];simp only[e_,if_false];refine MR (PC (NV ?_));unfold boundAndCalled;rw[zF.bind];refine MR (MW ?_);refine Qe (codeAny_call_builtin zF.plain F.entry_bexc_ga (Dn X I N (Oc h (λfin s' z=>?_) λ_ _ z=>z.elim)));rcases fin with(_|_|_|_)|_<;>first|exact z|exact z.elim
theorem rl{g a:a_}{Y:Tok}{P:a_->dn->Prop}(X:K.In s.heap)(I:z6 s.heap x ox C od)(Z:Sr K C od name=ar (.bind g a))
  (h:ee (fg prog w) A (call g [a,.ref x,.ref C]) P E s):
  ee (fg prog w) A (Builtin.«object.__getattribute__» ⟨[.ref x,.str name Y],[]⟩) (λfin s'=>match fin with| .done (.ret v)=>P v s'|_=>False) E s:=by
 obtain⟨T,S,d,t,os⟩:=s;have U:=I.type (M:=fg prog w);have L1:=looks_find (M:=fg prog w) X I Z;refine MR (MW (MR (MW (MR (U.at (MR (L1.at ?_)))))));show ee _ _ (B_ [a] (call g [a,.ref x,.ref C])>>=ret) _ _ _;exact MR (NV (Oc h (λv s' z=>MW z) λ_ _ z=>z))
theorem sH{v:a_}{Y:Tok}{P:a_->dn->Prop}(X:K.In s.heap)(I:z6 s.heap x ox C od)(Z:Sr K C od name=ar (.value v))(h:P v s):
  ee (fg prog w) A (Builtin.«object.__getattribute__» ⟨[.ref x,.str name Y],[]⟩) (λfin s'=>match fin with| .done (.ret v)=>P v s'|_=>False) E s:=by
 obtain⟨T,S,d,t,os⟩:=s;have U:=I.type (M:=fg prog w);have L1:=looks_find (M:=fg prog w) X I Z;refine MR (MW (MR (MW (MR (U.at (MR (L1.at ?_)))))));exact MW h
structure ExcC(K:S_)(C:c_):Prop where
 ga:A_ K (.ref C) "__getattribute__"=ar (ar (.builtin "BaseException.__getattribute__"))
 gt:A_ K (.ref C) "__getattr__"=ar none
 be:Sl K C (.type "BaseException")=ar b_
 ob:Sl K C (.type "object")=ar b_
 cl:A_ K (.ref C) "__class__"=ar (ar (.builtin "object.__class__"))
 gs:specialIn K (.builtin "object.__class__") "__get__"=ar (ar (.builtin "getset_descriptor.__get__"))
 tk:takesIn K (.builtin "object.__class__")=ar b_
 cd:(S9 K C).isSome=b_
 mf:A_ K (.ref C) "many"=ar none
 ms:A_ K (.ref C) "most"=ar none
def Dp(K:S_)(C:c_):Bool:=(A_ K (.ref C) "__getattribute__"==ar (ar (.builtin "BaseException.__getattribute__"))) && (A_ K (.ref C) "__getattr__"==ar none) && (Sl K C (.type "BaseException")==ar b_) &&
 (Sl K C (.type "object")==ar b_) && (A_ K (.ref C) "__class__"==ar (ar (.builtin "object.__class__"))) && (specialIn K (.builtin "object.__class__") "__get__"==ar (ar (.builtin "getset_descriptor.__get__"))) &&
 (takesIn K (.builtin "object.__class__")==ar b_) && (S9 K C).isSome && (A_ K (.ref C) "many"==ar none) && (A_ K (.ref C) "most"==ar none)
theorem ExcC.of(h:Dp K C=b_):ExcC K C:=by unfold Dp at h;simp only[j_,beq_iff_eq]at h;obtain⟨⟨⟨⟨⟨⟨⟨⟨⟨U,T⟩,Y⟩,P⟩,Q⟩,W⟩,S⟩,X⟩,R⟩,Z⟩:=h;exact⟨U,T,Y,P,Q,W,S,X,R,Z⟩
theorem Br{Q:Option a_->dn->Prop}(c:ExcC K C)(X:K.In s.heap)(I:z6 s.heap x ox C od)(h:Q (ar (.ref C)) {s with toks:=s.toks+1}):ee (fg prog w) A (getAttr? (.ref x) "__class__") Q E s:=by
 have hf:Sr K C od "__class__"=ar (.bind (.builtin "getset_descriptor.__get__") (.builtin "object.__class__")):=by obtain⟨cd,Z⟩:=NS.mp c.cd;unfold Sr;rw[Z,OT,c.cl,OT];simp[c.gs,c.tk]
 unfold getAttr? getAttrBy?;refine MR (wpAny_mkText (MR (PC (Do (s:={s with toks:=s.toks+1}) X I c.ga c.gt c.be ?_))));refine rl (s:={s with toks:=s.toks+1}) X I hf ?_;exact Qe (class_get (s:={s with toks:=s.toks+1}) (ox:=ox) (od:=od) X I c.ob (handed_on rfl (MW h)))
theorem Dq(c:ExcC K C):KitX K (.ref x) (.ref C) (λh=>∃ox od,z6 h x ox C od) where
 ty:=λ_ _ _ ⟨_,_,I⟩=>I.type
 it:=λ_ _ X _=>by
  have Z:=c.cd;unfold S9 at Z;split at Z
  ·rename_i c' d' cd' sl' ho
   intro U R S s' k q;unfold isType loadHead;exact MR (wpAny_loadPart (k _ _ (X _ _ ho)) (MW q))
  ·cases Z
 ne:=λh tp dd its n T X Y=>by
  have Z:=c.cd;refine QM.mpr λq=>?_;have e:C=tp:=Value.ref.inj (beq_iff_eq.mp q);subst e;unfold S9 at Z;split at Z
  ·rename_i c' d' cd' sl' ho
   have z:=(X _ _ ho).symm.trans Y;cases z
  ·cases Z
 ca:=λX ⟨_,_,I⟩ k=>Br c X I k
end
end S7
namespace S7
open PySem PySem.Spec PyProof.Rows L2 S3
def Ds(e T C:c_)(od:Option c_)(fl:a_)(h:gd):Prop:=
 ∃oe vs oT ts,h.get? e=ar oe/\oe.cls= .ref C/\oe.dict=od/\oe.data= .fields vs/\vs[1]? =ar (.ref T)/\T≠e/\h.get? T=ar oT/\oT.data= .fields ts/\ts[3]? =ar fl
structure Step(fs:List c_)(e T:c_)(h h':gd):Prop where
 keep:∀b o,h.get? b=ar o->b≠e->b≠T->b∉fs->h'.get? b=ar o
 slot:∀b o,h.get? b=ar o->b≠e->b≠T->∃sl,h'.get? b=ar {o with slots:=sl}
 size:h.objs.size<=h'.objs.size
section
variable {M:Sd}{A:hS}{E:a_->dn->Prop}{s:dn}{base:gd}{env:Env}{outer:List Env}{L e T C:c_}{od:Option c_}{fl:a_}{Q:Unit->dn->Prop}
theorem rm(o:Obj)(f:Array a_->Array a_):(z3 f o).dict=o.dict:=by obtain⟨c,d,Z,Y⟩:=o;cases Z<;>rfl
theorem entry(K:A.frames=ar (env::outer))(G:s.heap.FunFrames base (env::outer))(B:env.frame=ar L)
  (F:s.heap.get? e=ar oe) (w:oe.cls= .ref C) (z:oe.dict=od) (J:oe.data= .fields vs) (U:1<vs.size)
  (h:∀h' T',Ds e T' C od (mh L) h'->s.heap.objs.size<=T'->Step (kl (env::outer)) e e s.heap h'->Q () {s with heap:=h'}):
  ee M A (do let a<-frameOf env;let N<-entryPlaceOf L hadNext;let b<-EntryCells.newEntry head a .none (mh L) .none N;setField (.ref e) 1 b) Q E s:=by
 have O:e∉kl (env::outer):=λhm=>by obtain⟨_,o,q,I⟩:=G.mem hm;rw[F]at q;cases q;exact I vs J
 refine MR (wpAny_frameOf_fun K G B λY Z=>MR (wpAny_entryPlaceOf λN W=>?_));unfold EntryCells.newEntry newFields;refine MR (NT (?_ :ee _ _ _ _ _ _) (W.sizeOk5 _ _ _ _ _));have X:Y.get? e=ar oe:=(Z.2.1 e O).trans F;have P:=MU (h:=Y) {cls:=.type "traceback",dict:=none,data:=.fields ([head,.ref L,.none,mh L,.none]++(if N.isEmpty then eb 6 hO else N)).toArray} X;have S:Y.objs.size≠e:=OF (MZ X);have R:=Os J (·.setIfInBounds 1 (eo Y.objs.size));refine OW P J U (h _ Y.objs.size ⟨_,_,_,_,N0 _ P (O6 R),?_,?_,R,by simp[U],S,(NJ _ _ (j' S)).trans (M6 Y rfl),rfl,?_⟩ (Pq Z.1.symm) ⟨λb o q H _ v=>?_,λb o q H _=>?_,?_⟩)
 ·rw[QP];exact w
 ·rw[rm];exact z
 ·first|(simp;done)|(rcases W with rfl|⟨_,_,_,_,_,_,_,rfl⟩<;>simp)
 ·rw[NJ _ _ (j' H)];exact MU _ ((Z.2.1 b v).trans q)
 ·obtain⟨x,y⟩:=Z.2.2 b o q;exact⟨x,by rw[NJ _ _ (j' H)];exact MU _ y⟩
 ·rw[OY,N9,Z.1];exact Pm _
theorem yi(Z:A.frames=ar (env::outer))(S:s.heap.FunFrames base (env::outer))(W:env.frame=ar L)
  (X:s.heap.get? e=ar oe) (R:oe.cls= .ref C) (P:oe.dict=od) (U:oe.data= .fields vs) (Y:vs[1]? =ar .none)
  (h:∀h' T',Ds e T' C od (mh L) h'->s.heap.objs.size<=T'->Step (kl (env::outer)) e e s.heap h'->Q () {s with heap:=h'}):ee M A (Rm (.ref e) env) Q E s:=by
 unfold Rm;simp only[W];refine MR (NZ X U Y ?_);rw[if_neg (by decide)];exact entry Z S W X R P U (Nq.mp Y).1 h
theorem tK(W:A.frames=ar (env::outer))(x:s.heap.FunFrames base (env::outer))(I:env.frame=ar L)(F:Ds e T C od .none s.heap)
  (h:∀h' X,Ds e X C od (mh L) h'->s.heap.objs.size<=X->Step (kl (env::outer)) e T s.heap h'->Q () {s with heap:=h'}):ee M A (Rm (.ref e) env) Q E s:=by
 obtain⟨t,vs,u,J,he,w,G,hd,H,U,R,Z,K⟩:=F;have O:3<J.size:=(Nq.mp K).1;unfold Rm;simp only[I];refine MR (NZ he hd H ?_);rw[if_pos (show(eo T !=hO)=b_ from by simp)];refine MR (NZ R Z K ?_);rw[if_neg (show ¬ ((hO==mh L)=b_)from by simp[mh])];refine MR (OW R Z O ?_);have other:∀b,b≠T->(s.heap.update T (z3 (·.setIfInBounds 3 hO))).get? b=s.heap.get? b:=λb y=>NJ _ _ (j' y);have P:(s.heap.update T (z3 (·.setIfInBounds 3 hO))).FunFrames base (env::outer):=x.of_keeps λb o q S=>⟨o,(other b λz=>by rw[z,R]at q;cases q;exact S J Z).trans q,rfl⟩;refine entry (s:={s with heap:=s.heap.update T (z3 (·.setIfInBounds 3 hO))}) W P I ((other e (j' U)).trans he) w G hd (Nq.mp H).1 λh' X B l st=>h h' X B ?_ ⟨λb o q Y N v=>st.keep b o ((other b N).trans q) Y Y v,λb o q Y N=>st.slot b o ((other b N).trans q) Y Y,?_⟩
 ·have:=l;rwa [OY]at this
 ·have:=st.size;rwa [OY]at this
theorem i8(F:Ds e T C od fl s.heap)(h:∀h',Ds e T C od .none h'->Step [] e T s.heap h'->Q () {s with heap:=h'}):ee M A (setFlight (.ref e) none) Q E s:=by
 obtain⟨N,vs,I,J,he,O,P,hd,S,X,U,Z,R⟩:=F;have Y:3<J.size:=(Nq.mp R).1;refine wpAny_setFlight_none he hd S U Z Y (h _ ⟨N,vs,_,_,(NJ _ _ X).trans he,O,P,hd,S,X,N0 _ U (O6 (Os Z _)),Os Z _,by simp[Y]⟩
  ⟨λb o q K W _=>(NJ _ _ (j' W)).trans q,λb o q K W=>⟨o.slots,(NJ _ _ (j' W)).trans q⟩,?_⟩)
 rw[OY];exact MV _
theorem wt(W:A.frames=ar (env::outer))(N:s.heap.FunFrames base (env::outer))(S:env.frame=ar L)
  (H:s.heap.get? e=ar oe) (J:oe.cls= .ref C) (R:oe.dict=od) (G:oe.data= .fields vs) (I:vs[1]? =ar .none)
  (h:∀h' X,Ds e X C od .none h'->s.heap.objs.size<=X->Step (kl (env::outer)) e e s.heap h'->Q () {s with heap:=h'}):ee M A (Rk env (.ref e)) Q E s:=by
 unfold Rk;refine MR (yi W N S H J R G I λh' X F l st=>i8 (s:={s with heap:=h'}) F λU K Z=>h U X K l ⟨λb o q Y z B=>?_,λb o q Y z=>?_,M7 st.size Z.size⟩)
 ·exact Z.keep b o (st.keep b o q Y Y B) Y (Ng (Nf (MZ q) l)) (by simp)
 ·obtain⟨O,P⟩:=st.slot b o q Y Y;exact⟨O,Z.keep b _ P Y (Ng (Nf (MZ q) l)) (by simp)⟩
theorem yj(W:A.frames=ar (env::outer))(N:s.heap.FunFrames base (env::outer))(R:env.frame=ar L)(F:Ds e T C od .none s.heap)
  (h:∀h' X,Ds e X C od .none h'->s.heap.objs.size<=X->Step (kl (env::outer)) e T s.heap h'->Q () {s with heap:=h'}):ee M A (Rk env (.ref e)) Q E s:=by
 unfold Rk;refine MR (tK W N R F λh' X F l st=>i8 (s:={s with heap:=h'}) F λU K Z=>h U X K l ⟨λb o q Y S J=>?_,λb o q Y S=>?_,M7 st.size Z.size⟩)
 ·exact Z.keep b o (st.keep b o q Y S J) Y (Ng (Nf (MZ q) l)) (by simp)
 ·obtain⟨O,P⟩:=st.slot b o q Y S;exact⟨O,Z.keep b _ P Y (Ng (Nf (MZ q) l)) (by simp)⟩
end
def nN(P:er)(w:fc):B0:=λouter H s E x s'=>
 ∃(e T C:c_) (od:Option c_) (H':Hp),x= .ref e/\s'.os=s.os/\y_ s'.gens/\Un (kl outer) [] H H' s.heap s'.heap/\ij P w H' s'.heap/\Ds e T C od .none s'.heap/\
  H' e=none/\H' T=none/\s.heap.get? e=none/\s.heap.get? T=none/\E (.ref C) od H'
theorem Bs{X:Cx}:qy (nN X.prog X.w) X E0:=λ_ _ _ _ _ _ _ ⟨_,_,_,_,_,_,_,_,_,_,_,_,_,_,_,h⟩=>h.elim
theorem i9{h:gd}(q:h.get? b=ar o)(n:h.get? e=none):b≠e:=λz=>by rw[z,n]at q;cases q
theorem Un.fly(u:Un fs [] H H' h h1)(U:Step fs e T h1 h2)(R:h.get? e=none)(X:h.get? T=none):Un fs [] H H' h h2 where
 keep:=λb o q n hf Y=>U.keep b o (u.keep b o q n hf Y) (i9 q R) (i9 q X) hf
 slot:=λb o q n hf Y=>by obtain⟨P,W⟩:=u.slot b o q n hf Y;obtain⟨Z,S⟩:=U.slot b _ W (i9 q R) (i9 q X);exact⟨Z,S⟩
 free:=u.free
 there:=λb o q Y=>by obtain⟨Q,W⟩:=u.there b o q Y;obtain⟨Z,S⟩:=U.slot b _ W (i9 q R) (i9 q X);exact⟨_,S⟩
 tups:=u.tups
 frzs:=u.frzs
 tbls:=u.tbls
theorem ij.fly{H:Hp}(S:ij P w H h1)(U:Step fs e T h1 h2)(X:H e=none)(Y:H T=none)(W:∀b∈fs,H b=none):ij P w H h2:=λa o q=>by
 have k:∀b u,H b≠none->h1.get? b=ar u->h2.get? b=ar u:=λb u n q=>U.keep b u q (λz=>n (by rw[z];exact X)) (λz=>n (by rw[z];exact Y)) λz=>n (W b z);refine(S a o q).stay (λb u Z=>k b u ?_) (λ_ z=>z) λ_ _ z=>z;rcases Z with rfl|Z
 ·rw[q];simp
 ·rw[Z];simp
section
theorem wu(l:List Env)(x:c_)(env:Env)(h:env.frame=ar x):kl (env::l)=x::kl l:=by unfold kl;rw[NQ,h]
theorem bG.there(x:bG P w H h a o):∃Z,h.get? a=ar Z:=by
 cases o with
 |lst xs=>obtain⟨_,_,_,_,e⟩:=x;exact⟨_,e⟩
 |tup xs=>obtain⟨_,_,_,Z,e,_⟩:=x;exact⟨_,e⟩
 |dK kvs=>obtain⟨_,_,_,_,o,_,_,e,_⟩:=x;exact⟨_,e⟩
 |dT kvs=>obtain⟨_,_,_,_,o,_,_,e,_⟩:=x;exact⟨_,e⟩
 |set S n=>obtain⟨o,_,_,_,e,_⟩:=x;exact⟨_,e⟩
 |ins C dx fs=>obtain⟨_,_,_,e,_⟩:=x;exact⟨_,e⟩
 |own y=>exact x
 |xd fs=>obtain⟨_,⟨_,_,_,e,_⟩,_⟩:=x;exact⟨_,e⟩
 |rng lo hi=>obtain⟨_,_,_,e⟩:=x;exact⟨_,e⟩
 |frz Z u=>obtain⟨e,_⟩:=x;exact⟨_,e⟩
 |tbl ps=>exact⟨_,(show h.get? a=ar _ from x)⟩
 |met f y=>exact⟨_,(show h.get? a=ar _ from x)⟩
 |ext φ=>exact x.2.1
theorem ij.gone{H:Hp}(x:ij P w H h)(e:h.get? a=none):H a=none:=by
 cases q:H a with
 |none=>rfl
 |some o=>
  obtain⟨Z,e2⟩:=bG.there (x a o q);rw[e]at e2;cases e2
theorem Un.gone(u:Un fs ex H H' h h')(Z:a∉ex)(e:h'.get? a=none):h.get? a=none:=by
 cases q:h.get? a with
 |none=>rfl
 |some o=>
  obtain⟨Y,e2⟩:=u.there a o q Z;rw[e]at e2;cases e2
end
abbrev Cx.hand(X:Cx)(e:a_):Cx:={X with A:=X.A.mark (ar e),calm:=dt,xe:=λ_ _=>False}
section
variable {X:Cx}{pins:List (c_×Obj)}{σ:L2.St}{H H':Hp}{s:dn}{x:a_}
theorem Inv.hand(I:Inv X pins σ H s)(e:a_):Inv (Cx.hand X e) pins σ H s:=
 ⟨⟨I.ok.mod,I.ok.kind,I.ok.glob,I.ok.blt,I.ok.above,I.ok.inj,I.ok.has,I.ok.cab,(λz=>Bool.noConfusion z),I.ok.frames,I.ok.stk,I.ok.exf,I.ok.bs,I.ok.bsz,I.ok.noex,I.ok.exfs,I.ok.funs,I.ok.frf⟩,
  I.os,I.bare,I.base,I.loc,I.cell,I.free,I.freeC,I.pin,I.hok,I.len⟩
theorem Inv.unhand(Z:X.Ok)(I:Inv (Cx.hand X x) pins σ H s):Inv X pins σ H s:=⟨Z,I.os,I.bare,I.base,I.loc,I.cell,I.free,I.freeC,I.pin,I.hok,I.len⟩
theorem Inv.local{Z:L2.St}(I:Inv X pins σ H s)(hs:ri X.env.locals s.heap h')(P:h'.Ns X.env.locals m')(W:Z.length=X.N.length)
  (Q:∀(i:Nat) (y:Str) (v:V),X.N[i]? =ar y->Z[i]? =ar (ar v)->EN X.env.scope y->∃u,RelV v u/\Look X.env h' m' y u):Inv X pins Z H {s with heap:=h',toks:=t'}:=by
 have ne:∀b o,X.s₀.heap.get? b=ar o->b≠X.env.locals:=λb o e=>Ng (Nf (MZ e) I.ok.above);refine⟨I.ok,I.os,I.bare,⟨λb o e n T U=>(hs.2 b (ne b o e)).trans (I.base.keep b o e n T U),λb o e n T U=>?_,I.base.free,λb o e U=>?_,I.base.tups,I.base.frzs,I.base.tbls⟩,⟨m',P,Q⟩,λy c e=>?_,I.free,I.freeC,λp S=>?_,λa o e=>?_,W⟩
 ·obtain⟨R,e1⟩:=I.base.slot b o e n T U;exact⟨R,(hs.2 b (ne b o e)).trans e1⟩
 ·obtain⟨O,e1⟩:=I.base.there b o e U;exact⟨O,(hs.2 b (ne b o e)).trans e1⟩
 ·obtain⟨v,z⟩:=I.cell y c e;exact⟨v,z.sameBut hs (I.cne y c e)⟩
 ·obtain⟨e,n,nl,r⟩:=I.pin p S;exact⟨(hs.2 p.1 nl).trans e,n,nl,r⟩
 ·refine(I.hok a o e).stay (λc L Y q=>(hs.2 c ?_).trans q) (λ_ q=>q) λ_ _ q=>q;rintro rfl;rcases Y with Y|Y
  ·subst Y;rw[I.free]at e;cases e
  ·rw[I.free]at Y;cases Y
theorem Fv{M:Sd}{A:hS}{E:a_->dn->Prop}{i:Nat}{y:Str}{pos:Pos}{Q:Unit->dn->Prop}(I:Inv X pins σ H s)(O:X.N.Nodup)(T:X.N[i]? =ar y)(W:X.env.scope.names.lookup y=ar .local)
  (h:∀s',Inv X pins (σ.set i none) H s'->Q () s'):ee M A (do bindName X.env y .none;unbindBehindTheSuite X.env y pos) Q E s:=by
 obtain⟨m,P,R⟩:=id I.loc;refine wpAny_nameGoes_keeps W P (by rw[I.ok.kind];rfl) λh' v Z hs=>h _ (Inv.local I hs Z (by rw[O2];exact I.len) λj z S e1 e2 U=>?_);have Y:j≠i:=by
  rintro rfl;by_cases hlt:j<σ.length
  ·rw[NB hlt]at e2;cases e2
  ·rw[N1 (by rw[O2];omega)]at e2;cases e2
 rw[NM (j' Y)]at e2;obtain⟨u,r,q⟩:=R j z S e1 e2 U;refine⟨u,r,?_⟩;rcases q with⟨k,e⟩|⟨k,c,e,q⟩
 ·refine .inl ⟨k,?_⟩;have:z≠y:=λe=>Y (qu O e1 (e ▸ T));simp[this,e]
 ·exact .inr ⟨k,c,e,q.sameBut hs (I.cne z c e)⟩
end
theorem Un.track{Y:Hp}(u:Un fs [] H Y h h')(Z:Y e=none)(W:h.get? e=none):Un fs [] H (upd Y e o) h h' where
 keep:=u.keep
 slot:=u.slot
 free:=λb X q n U=>by rw[aN (i9 q W)];exact u.free b X q n U
 there:=u.there
 tups:=λb xs q=>by have:=u.tups b xs q;rw[aN (aK this Z)];exact this
 frzs:=λb X x q=>by have:=u.frzs b X x q;rw[aN (aK this Z)];exact this
 tbls:=λb T q=>by obtain⟨more,this⟩:=u.tbls b T q;exact⟨more,by rw[aN (aK this Z)];exact this⟩
theorem ij.track{H:Hp}(X:ij P w H h)(Y:H e=none)(Z:bG P w (upd H e o) h e o):ij P w (upd H e o) h:=λb u q=>by
 by_cases hb:b=e
 ·subst hb;rw[bo]at q;cases q;exact Z
 ·rw[aN hb]at q;exact(X b u q).stay (λc v _ q=>q) (λc q=>by rw[aN (aK q Y)];exact q) λc xs q=>by rw[aN (aK q Y)];exact q
theorem Fw(F:Ds e T C od fl h):bG P w H h e (.ext (pT C e od)):=by obtain⟨Z,vs,U,W,he,Y,X,hd,_⟩:=F;refine⟨⟨Z,vs,he,Y,X,hd⟩,⟨Z,he⟩,?_⟩;rintro h1 h2 ⟨Z,vs,he,r⟩ k;exact⟨Z,vs,k _ he,r⟩
structure LamOk(P:er)(w:fc)(K:dV)(mg:Str->Option a_)(base:gd)(k:Nat)(f:c_)(sp:Hp->VK->XK->Prop):Prop where
 fn:∃o fd,base.get? f=ar o/\o.data= .func fd
 run:∀(A:hS) (outer:List Env) (s:dn) (H:Hp) (Q:VK) (E:XK),Room k A->aI P w K mg base A outer s H->sp H Q E->B' (fg P w) A (.call (.ref f) ⟨[],[]⟩) (CR (nN P w) outer P w H s Q E) s
section
variable {X:Cx}{k i jn jy:Nat}{f CW:c_}{sp:Hp->VK->XK->Prop}{x c n y:Str}{p cpos epos np p1 p2 p3 hpos tpos:Pos}
theorem Bt(E:X.stack=X.env::X.outer)(b2:X.env.frame=ar X.env.locals)(L:LamOk X.prog X.w X.K X.mg X.base k f sp)(hr:Room k X.A)(hN:X.N.Nodup)(hi:X.N[i]? =ar x)(hv:EN X.env.scope x)
  (R:X.N[jn]? =ar n) (c2:X.N[jy]? =ar y) (S:X.env.scope.names.lookup n=ar .local) (t:X.env.scope.names.lookup y=ar .local) (hg:Gl X c) (hm:X.mg c=ar (.ref CW))
  (hd:(x==("__debug__":Str))=false:=by decide) (c0:(x==("__classdict__":Str))=false:=by decide) (c3:(c==("__debug__":Str))=false:=by decide) (b4:(n==("__debug__":Str))=false:=by decide) (d:(n==("__classdict__":Str))=false:=by decide)
  (b3:la (.Call (.Name x p) [] [] cpos) none epos.line X.env=aC false:=by rfl) (b0:la (.Name n p2) (ar (.Name y p1)) p3.line X.env=aC false:=by rfl):
  PS X (.Try [.Expr (.Call (.Name x p) [] [] cpos) epos] [.ExceptHandler (ar (.Name c np)) (ar n) [.Assign [.Name y p1] (.Name n p2) p3] hpos] [] [] tpos)
   (λD σ H=>σ[i]? =ar (ar (.ref f))/\sp H (λ_ Y=>D.nx σ Y) (λcls od Y=>∃C,cls= .ref C/\SH X.K (.ref C) (.ref CW)=ar b_/\∀e,Y e=none->D.nx (((σ.set jn (ar (.ref e))).set jy (ar (.ref e))).set jn none) (upd Y e (.ext (pT C e od))))):=by
 intro pins s σ H D I ⟨hσ,hsp⟩;refine wpAny_Try_except (Pg (Rb ?_ I.quiet b3));refine OG (Oc (ky (X:=X.nox) hi hv hd c0 pins s σ H (λv Y=>v= .ref f/\Y=H) (I.wish _) ⟨_,hσ,rfl,rfl⟩) (λu s1 c7=>?_) λ_ _ z=>g_ z);obtain⟨v,Y,Q,r1,ev,eH⟩:=c7;subst ev eH;obtain rfl:u=eo f:=r1;have Q:=Q.unwish;obtain⟨o,fd,ho,a0⟩:=L.fn;refine callWith_meth0 a0 (Q.bk f o ho) (Qe (OO (L.run X.A X.stack s1 Y _ _ hr Q.env0 hsp) λr s' U=>?_));cases r with
 | ok fl=>
  cases fl with
  |ret u=>
   obtain⟨v,H2,I2,_,q⟩:=Q.after U;exact O1 (O1 ⟨σ,H2,I2,q⟩)
  |next=>exact g_ U
  |brk=>exact g_ U
  |cont=>exact g_ U
 | error ev=>
  obtain⟨e,T,C',od,Z,rfl,os,bare,un,G,F,ne,nT,le,lT,C,eC,hx,hD⟩:=U;cases eC;have I2:L2.Inv X pins σ Z s':=Q.call' (ch:=[]) os un G bare (λb z=>absurd z (by simp));have c6:∀b∈kl X.stack,Z b=none:=I2.stkFree;refine tK (base:=X.base) (outer:=X.outer) (by rw[I2.ok.frames,E]) (by rw[<-E];exact I2.stack) b2 F λh1 T1 F1 l1 J=>?_;rw[<-E]at J;have j:Z T1=none:=G.fresh l1;refine i8 (s:={s' with heap:=h1}) F1 λB F2 m=>?_;have a5:s1.heap.get? T1=none:=Un.gone un (by simp) (Ou l1);have a3:ij X.prog X.w Z h1:=ij.fly G J ne nT c6;have O:ij X.prog X.w Z B:=ij.fly a3 m ne j (λb z=>absurd z (by simp));have d0:Un (kl X.stack) [] Y Z s1.heap h1:=Un.fly un J le lT;have P:∀{h a:gd} {e T:c_},Step [] e T h a->Step (kl X.stack) e T h a:=λst=>⟨λb o q n1 n2 _=>st.keep b o q n1 n2 (by simp),st.slot,st.size⟩;have l:Un (kl X.stack) [] Y Z s1.heap B:=Un.fly d0 (P m) le a5;have I3:L2.Inv X pins σ Z {s' with heap:=B}:=Q.call' (s':={s' with heap:=B}) (ch:=[]) os l O bare (λb z=>absurd z (by simp));refine wpAny_handleBy_cons (codeAny_handlers_test (lz (X:=Cx.hand X (.ref e)) (Inv.hand I3 _) hg hm ?_ c3)) (by intro q;cases q);have LT:W.Looks (fg X.prog X.w) B (typeOf (.ref e)) (.ref C'):=by obtain⟨oe,vs,oT,ts,he,hc,_⟩:=F2;exact hc ▸ (W.Looks.ld he).andThen .now
  refine(W.exm_one (h:=B) I3.kIn LT hx).at ?_;refine codeAny_handlers_suite_as (i8 (s:={s' with heap:=B}) F2 λh3 F3 g=>?_);have a4:ij X.prog X.w Z h3:=ij.fly O g ne j (λb z=>absurd z (by simp));have c4:Un (kl X.stack) [] Y Z s1.heap h3:=Un.fly l (P g) le a5;have I4:L2.Inv X pins σ (upd Z e (.ext (pT C' e od))) {s' with heap:=h3}:=
   Q.call' (s':={s' with heap:=h3}) (ch:=[]) os (Un.track c4 ne le) (ij.track a4 ne (Fw F3)) bare (λb z=>absurd z (by simp))
  refine mY (X:=X) I4 hN R (.inl S) (v:=.ref e) rfl (λs5 I5=>?_) (.inr S);have hl:jn<σ.length:=by rw[I.len];exact(MX.mp R).1
  have ps:=t8 (Ce (X:=Cx.hand X (.ref e)) (pos:=p3) (pos':=p1) hN c2 (.inl t) (ky (X:=Cx.hand X (.ref e)) (pos:=p2) R (.inl S) b4 d) b0 (.inr t));refine Oc (ps pins s5 _ _ {nx:=λa6 H6=>a6=(σ.set jn (ar (.ref e))).set jy (ar (.ref e))/\H6=upd Z e (.ext (pT C' e od)),rt:=λ_ _=>False} (Inv.hand I5 _) ⟨.ref e,by rw[NB hl],rfl,rfl⟩) (λfl s6 U=>?_) λ_ _ z=>g_ z;cases fl with
  |next=>
   obtain⟨a6,H6,I6,e1,e2⟩:=U;subst e1 e2;exact Fv (Inv.unhand I.ok I6) hN R S λs7 I7=>⟨_,_,I7,hD e ne⟩
  |ret u=>obtain⟨_,_,_,_,_,z⟩:=U;exact g_ z
  |brk=>obtain⟨_,_,_,z⟩:=U;exact g_ z
  |cont=>obtain⟨_,_,_,z⟩:=U;exact g_ z
end
structure BaseL(K:dV)(mg:Str->Option a_)(base:gd):Prop where
 bm:∃bm ob,mg "__builtins__"=ar (.ref bm)/\bm≠wd/\base.get? bm=ar ob/\ob.cls= .type "module"/\ob.dict=ar wd/\ob.data= .plain
 cd:∀x∈cf,∀c P,kS K x=ar (c,P)->Q_ base c P
def kP(K:dV):Prop:=∀x∈cf,∀y∈cf,∀c d P,kS K x=ar (c,P)->kS K y=ar (d,P)->x=y
theorem yk(l:List a_)(h:Sj l)(e:K_ pos (l++[mh a,mh b,c])=ar v):K_ pos l=ar v\/v=c:=by
 fun_induction Sj l with
 |case1=>
  have Z:(if a==(pos.line:Int) && b==(pos.col:Int)then ar c else none)=ar v:=e;split at Z
  ·exact .inr (Nw Z).symm
  ·cases Z
 |case2 a' t b' u x rest ih=>
  simp only[L0,K_]at e⊢;split at e
  ·next hq=>rw[if_pos hq];exact .inl e
  ·next hq=>rw[if_neg hq];exact ih h e
 |case3 l h1 h2=>exact h.elim
section
variable {X:Cx}{pins:List (c_×Obj)}{σ:L2.St}{H:Hp}{s:dn}{x ql:Str}{c P:c_}{params:J'}{body:Expr}{scope:Scope}{pos:Pos}{clos:List (Str×c_)}{Q:a_->dn->Prop}{E:a_->dn->Prop}{A:hS}
theorem ym(hx:x∈cf)(ht:kS X.K x=ar (c,P))(J:X.env.code= .ref c)(hq:X.env.qual++"<lambda>"=ql)(a0:ql=x++".<locals>.<lambda>")(B:BaseL X.K X.mg X.base)(TI:kP X.K)(j:RZ scope X.env=aC clos)
  (a3:R8 params X.env=([],[])) (I:L2.Inv X pins σ H s) (T:TabsOk X.K H)
  (h:∀f Z Y pm H1 s1,L2.Inv X pins σ H1 s1->s.heap.objs.size<=f->s1.heap.get? f=ar (wk "<lambda>" ql params body scope clos pm Z Y)->H1 f=none->H1 Z=ar (.ext (oR ql Z))->
   (∀a o,H a=ar o->(∀G,o≠ .tbl G)->H1 a=ar o)->(∀a,H a=none->H1 a≠none->s.heap.objs.size<=a)->TabsOk X.K H1->Q (.ref f) s1):
  ee (fg X.prog X.w) A (hJ (.Lambda params body scope pos) X.env) Q E s:=by
 refine W.kla_eval a3 ?_;rw[hq];obtain⟨G,O,hT,hA⟩:=T x hx c P ht;have C:Q_ s.heap c P:=(B.cd x hx c P ht).keeps I.bk;have oP:s.heap.get? P=ar (x' G):=I.hok P _ O;have hg:s.heap.Ns gc X.mg:=I.mod.glob.keeps I.bk;have U:∀b,H b=none->b≠P:=λb n z=>by rw[z,O]at n;cases n
 have gP:gc≠P:=by obtain⟨o,es,ep,e,_⟩:=I.mod.glob;exact U _ (I.bs _ _ e).2
 have hb:s.heap.BuiltinsAt X.mg P:=by obtain⟨bm,ob,b1,b2,b3,b4,b5,b6⟩:=B.bm;refine⟨bm,ob,b1,b2,λz=>?_,U _ (I.bs _ _ b3).2,I.bk _ _ b3,b4,b5,b6⟩;obtain⟨o,es,ep,e,hd,_⟩:=I.mod.glob;rw[z,e]at b3;cases b3;rw[hd]at b6;cases b6
 cases hn:K_ pos G.toList with
 |some cv=>
  obtain⟨Z,rfl,a5⟩:=hA pos cv hn;rw[<-a0]at a5;refine W.kla_makeFunctionHit j I.ok.glob hg J C oP hT hn hb λY h' tk hk a4=>?_;have S:∀b o,s.heap.get? b=ar o->(h'.push {cls:=.type "function",data:=.func (R9 "<lambda>" ql params body scope clos ((X.mg "__name__").getD .none) (.ref Z) Y)}).get? b=ar o:=λb o e=>MU _ (hk b o e);exact h _ Z Y _ H _ (I.kept (t':=tk) S) a4 (M6 _ rfl) (I.hok.fresh a4) a5 (λa o e _=>e) (λa n z=>absurd n z) T
 | none=>
  refine W.kla_makeFunction j I.ok.glob hg J C oP hT hn gP hb λZ Y h' tk hX L F m c4=>?_;have nc:H Z=none:=I.hok.fresh L;have cP:P≠Z:=λz=>by rw[<-z,O]at nc;cases nc
  have S:∀b o,b≠P->s.heap.get? b=ar o->(h'.push (wk "<lambda>" ql params body scope clos ((X.mg "__name__").getD .none) Z Y)).get? b=ar o:=λb o n e=>MU _ (hX b o n e);have i:(h'.push (wk "<lambda>" ql params body scope clos ((X.mg "__name__").getD .none) Z Y)).get? P=ar (x' (G++ #[mh pos.line,mh pos.col,.ref Z])):=MU _ c4;have old:∀a o,H a=ar o->a≠P->upd (upd H P (.tbl (G++ #[mh pos.line,mh pos.col,.ref Z]))) Z (.ext (oR ql Z)) a=ar o:=λa o e n=>by rw[aN (aK e nc),aN n];exact e
  have g:∀b o,s.heap.get? b=ar o->b≠Z:=λb o e=>Ng (Nf (MZ e) L);have un:Un X.fs [] H (upd (upd H P (.tbl (G++ #[mh pos.line,mh pos.col,.ref Z]))) Z (.ext (oR ql Z))) s.heap (h'.push (wk "<lambda>" ql params body scope clos ((X.mg "__name__").getD .none) Z Y)):=
   ⟨λb o e n _ _=>S b o (U b n) e,λb o e n _ _=>⟨o.slots,S b o (U b n) e⟩,λb o e n _=>by rw[aN (g b o e),aN (U b n)];exact n,λb o e _=>(by
    by_cases z:b=P
    ·subst z;exact⟨_,i⟩
    ·exact⟨o,S b o z e⟩),λb xs e=>old b _ e (λz=>by rw[z,O]at e;cases e),λb o u e=>old b _ e (λz=>by rw[z,O]at e;cases e),λb qs e=>(by
    by_cases z:b=P
    ·subst z;rw[O]at e;cases e;exact⟨_,by rw[aN cP,bo]⟩
    ·exact⟨#[],by rw[old b _ e z];simp⟩)⟩
  have N:oR ql Z (h'.push (wk "<lambda>" ql params body scope clos ((X.mg "__name__").getD .none) Z Y)):=by obtain⟨v,l,vs,t,e1,e2,r⟩:=m;exact⟨v,l,vs,t,e1,MU _ e2,r⟩
  have c0:ij X.prog X.w (upd (upd H P (.tbl (G++ #[mh pos.line,mh pos.col,.ref Z]))) Z (.ext (oR ql Z))) (h'.push (wk "<lambda>" ql params body scope clos ((X.mg "__name__").getD .none) Z Y)):=by
   intro a o e;by_cases za:a=Z
   ·subst za;rw[bo]at e;cases e;refine⟨N,?_,?_⟩
    ·obtain⟨v,l,vs,t,e1,e2,_⟩:=N;cases e1;exact⟨l,e2⟩
    ·rintro h1 h2 ⟨v,l,vs,t,e1,e2,r⟩ k;cases e1;exact⟨a,l,vs,t,rfl,k _ e2,r⟩
   ·rw[aN za]at e;by_cases zP:a=P
    ·subst zP;rw[bo]at e;cases e;exact i
    ·rw[aN zP]at e;refine(I.hok a o e).stay (λb u R q=>S b u ?_ q) (λb q=>old b _ q (λz=>by rw[z,O]at q;cases q)) λb xs q=>old b _ q (λz=>by rw[z,O]at q;cases q);rintro rfl;rcases R with R|R
     ·exact zP R.symm
     ·rw[O]at R;cases R
  refine h _ Z Y _ _ _ (I.un (t':=tk) un c0) (M7 L (Oy F)) (M6 _ rfl) ?_ bo (λa o e n=>old a o e (λz=>by rw[z,O]at e;cases e;exact n _ rfl)) (λa n z=>?_) λy hy d P' e=>?_
  ·have:H h'.objs.size=none:=I.hok.fresh (M7 L (Oy F));rw[aN (j' (Ng F)),aN (U _ this)];exact this
  ·by_cases za:a=Z
   ·rw[za];exact L
   ·rw[aN za,aN (U a n)]at z;exact absurd n z
  ·by_cases zP:P'=P
   ·subst zP;obtain rfl:y=x:=TI y hy x hx d c P' e ht;refine⟨_,by rw[aN cP,bo],?_,λp cv q=>?_⟩
    ·have:=TriplesOk_snoc pos.line pos.col (.ref Z) G.toList hT;simpa using this
    ·have q':K_ p (G.toList++[mh pos.line,mh pos.col,.ref Z])=ar cv:=by simpa using q
     rcases yk _ hT q' with q2|q2
     ·obtain⟨v,e1,e2⟩:=hA p cv q2;exact⟨v,e1,old _ _ e2 (λz=>by rw[z,O]at e2;cases e2)⟩
     ·exact⟨Z,q2,by rw[<-a0];exact bo⟩
   ·obtain⟨qs,g1,g2,g3⟩:=T y hy d P' e;exact⟨qs,old _ _ g1 zP,g2,λp cv q=>let ⟨v,e1,e2⟩:=g3 p cv q;⟨v,e1,old _ _ e2 (λz=>by rw[z,O]at e2;cases e2)⟩⟩
end
def Md(K:dV)(ι:List c_)(H:Hp)(x:D)(cls:a_)(od:Option c_):Prop:=
 ∃n ds C,x= .exc n ds/\rb K gc n=ar (ar (.ref C))/\cls= .ref C/\
  ((od=none/\ds=[])\/∃dx fs,od=ar dx/\H dx=ar (.xd fs)/\fs.map (·.1)=([("many":Str),("most":Str)]:List Str)/\RelDs K ι H ds (fs.map (·.2)))
def Bu(K:dV)(Ek:XK):XD:=λx ι _ H=>∀cls od,Md K ι H x cls od->Ek cls od H
def Dt(K:dV)(F:List D->M D):Sp:=λvs H Q Ek=>∃ ι S ds,Rep K ι H S/\RelDs K ι H ds vs/\cont K (Bu K Ek) (F ds) ι S H (kB K Q)
theorem Du{K:dV}{E X:XD}{α:Type}{c:M α}{ι:List c_}{S:av}{H:Hp}{Q:α->List c_->av->Hp->Prop}(h:cont K E c ι S H Q)(k:∀x ι' Z H',E x ι' Z H'->X x ι' Z H'):cont K X c ι S H Q:=by
 obtain⟨r,Z,e,q⟩:=h;refine⟨r,Z,e,λY U T rep1=>?_⟩;have:=q Y U T rep1;cases r with
 |ok a=>exact this
 |ex x=>exact k x _ _ _ this
def lV{α:Type}(c:M α):M α:=λS=>match c S with
 |some (.ok a,S')=>ar (.ok a,S')
 |_=>none
theorem o9{K:dV}{E:XD}{α:Type}{c:M α}{ι:List c_}{S:av}{H:Hp}{Q:α->List c_->av->Hp->Prop}(h:cont K E (lV c) ι S H Q):cont K eA c ι S H Q:=by
 obtain⟨r,Y,e,q⟩:=h;unfold lV at e;cases z:c S with
 |none=>rw[z]at e;cases e
 |some p=>
  obtain⟨Z,S1⟩:=p;rw[z]at e;cases Z with
  |ok a=>cases e;exact⟨_,_,z,q⟩
  |ex x=>cases e
section
variable {X:Cx}{E:XD}
theorem nO{m:TM}(h:SE X eA e m):SE X E e (λρ=>lV (m ρ)):=PE.imp h λ_ _ _ ⟨ι,S,ρ,rep,re,c⟩=>⟨ι,S,ρ,rep,re,o9 c⟩
theorem zG{Z:oo}{m:cY}(h:SS X eA Z m):SS X E Z (λρ=>lV (m ρ)):=PS.imp h λ_ _ _ ⟨ι,S,ρ,rep,re,c⟩=>⟨ι,S,ρ,rep,re,o9 c⟩
theorem wx{Z:List oo}{m:cY}(h:um X eA Z m):um X E Z (λρ=>lV (m ρ)):=sr.imp h λ_ _ _ ⟨ι,S,ρ,rep,re,c⟩=>⟨ι,S,ρ,rep,re,o9 c⟩
theorem uN{Z:List oo}{m:cY}(h:um X.nox eA Z m):um X eA Z m:=sr.nox h
end
structure Leaves(X:Cx)(Ek:XK):Prop where
 st:X.stack=X.env::X.outer
 fm:X.env.frame=ar X.env.locals
 ex:X.ex=[]
 xe:∀e s',ee (fg X.prog X.w) X.A (Rk X.env e) (λ_ s''=>nN X.prog X.w X.outer X.H₀ X.s₀ Ek e s'') (λe' s''=>nN X.prog X.w X.outer X.H₀ X.s₀ Ek e' s'') s'->X.xe e s'
 ow:Ri (fg X.prog X.w) X.A X.env X.xe
section
variable {X:Cx}{Ek:XK}
theorem Leaves.pass(L:Leaves X Ek):qy (nN X.prog X.w) X Ek:=by rintro pins σ H s x s' I ⟨e,T,C,od,H',rfl,os,bare,un,hok,F,ne,nT,le,lT,hE⟩;have W:L2.Inv X pins σ H' s':=I.call' (ch:=[]) os un hok bare (λb z=>absurd z (by simp));refine L.xe _ _ (yj (base:=X.base) (outer:=X.outer) (by rw[W.ok.frames,L.st]) (by rw[<-L.st];exact W.stack) L.fm F λh' Q P l st=>?_);rw[<-L.st]at st;have Z:ij X.prog X.w H' h':=ij.fly hok st ne nT W.stkFree;have S:Un (kl X.stack) [] H H' s.heap h':=Un.fly un st le lT;have U:L2.Inv X pins σ H' {s' with heap:=h'}:=I.call' (s':={s' with heap:=h'}) (ch:=[]) os S Z bare (λb z=>absurd z (by simp));have R:=U.base;have h0:=I.base;have Y:=W.base;rw[L.ex]at R h0 Y;exact⟨e,Q,C,od,H',rfl,U.os,U.bare,R,U.hok,P,ne,hok.fresh l,Un.gone h0 (by simp) le,Un.gone Y (by simp) (Ou l),hE⟩
theorem Leaves.new{H:Hp}(L:Leaves X Ek)
  (I:L2.Inv X pins σ H s') (E:s'.heap.get? e=ar oe) (G:oe.cls= .ref C) (O:oe.dict=od) (B:oe.data= .fields vs) (F:vs[1]? =ar .none) (T:H e=none) (hs:X.s₀.heap.get? e=none) (K:Ek (.ref C) od H):X.xe (.ref e) s':=by
 refine L.xe _ _ (wt (base:=X.base) (outer:=X.outer) (by rw[I.ok.frames,L.st]) (by rw[<-L.st];exact I.stack) L.fm E G O B F λh' N J l st=>?_);have R:∀b∈kl (X.env::X.outer),H b=none:=by rw[<-L.st];exact I.stkFree
 have U:ij X.prog X.w H h':=ij.fly I.hok st T T R;have Z:=I.base;rw[L.ex]at Z;have S:∀b o,X.s₀.heap.get? b=ar o->b∉kl X.outer->b∉kl (X.env::X.outer):=λb o q n z=>by
  rw[wu X.outer X.env.locals _ L.fm]at z;rcases M9.mp z with z|z
  ·exact absurd (MZ q) (by rw[z];exact QG.mpr I.ok.above)
  ·exact n z
 have ne:∀b o,X.s₀.heap.get? b=ar o->b≠e:=λb o q=>i9 q hs;refine⟨e,N,C,od,H,rfl,I.os,I.bare,⟨λb o q n hf W=>?_,λb o q n hf W=>?_,Z.free,λb o q W=>?_,Z.tups,Z.frzs,Z.tbls⟩,U,J,T,I.hok.fresh l,hs,Un.gone Z (by simp) (Ou l),K⟩
 ·exact st.keep b o (Z.keep b o q n hf W) (ne b o q) (ne b o q) (S b o q hf)
 ·obtain⟨y,Q⟩:=Z.slot b o q n hf W;obtain⟨Y,P⟩:=st.slot b _ Q (ne b o q) (ne b o q);exact⟨Y,P⟩
 ·obtain⟨A,Q⟩:=Z.there b o q W;obtain⟨Y,P⟩:=st.slot b _ Q (ne b o q) (ne b o q);exact⟨_,P⟩
theorem bY{P:er}{w:fc}{K:dV}{Z:Str->Option a_}{base:gd}{N:List Str}{qual:Str}{scope:Scope}{f:c_}{Y:a_}{A:hS}{outer:List Env}{s₀:dn}{H₀:Hp}:
  Leaves (lR (nN P w) P w K Z base N qual scope f Y A outer s₀ H₀ Ek) Ek:=⟨rfl,rfl,rfl,λ_ _ h=>h,PassesOwn.leaving⟩
end
structure DefX(P:er)(w:fc)(K:dV)(mg:Str->Option a_)(base:gd)(k:Nat)(x:Str)(ps:List Str)(F:List D->M D):Prop where
 ex:∃f fd,FnOk P w K mg base (nN P w) k f fd ps (Dt K F)/\mg x=ar (.ref f)/\xg K (.ref f)=b_/\Binds K fd ps []
section
variable {P:er}{w:fc}{K:dV}{mg:Str->Option a_}{base:gd}
theorem Iw{x qual:Str}{X:oo}{f:c_}{E:gg}{N U:List Str}{k:Nat}{m:cY}(F:Fun K x qual X f E)(y:FnScope N U (ao X))
  (T:∀(Z:a_) (A:hS) (outer:List Env) (s:dn) (H:Hp) (Y:XK),Room k (A.deeper (y3 qual (ao X) s.heap.objs.size f Z))->QO K Z qual=b_->(∃I od R kV doc pm an ct,K.lookup f=ar ⟨I,od,.func (y2 x qual (gJ X) (dJ X) (ao X) .none kV doc pm an Z ct),R⟩)->
   um (lR (nN P w) P w K mg base N qual (ao X) f Z A outer s H Y) (Bu K Y) (dJ X) m):FnOk P w K mg base (nN P w) (k+1) f E U (Dt K (pU N.length U.length m)):=by
 have key:∀{vs:List V} {H:Hp} {Q:VK} {Y:XK},Dt K (pU N.length U.length m) vs H Q Y->vs.length=U.length/\∃ ι S ds,Rep K ι H S/\RelDs K ι H ds vs/\cont K (Bu K Y) (do let o<-m (ds.map ar++eb (N.length - U.length) none);outD o) ι S H (kB K Q):=by
  rintro vs H Q Y ⟨ι,S,ds,rep,r,c⟩;unfold pU at c;by_cases O:ds.length=U.length
  ·rw[if_pos O]at c;exact⟨by rw[<-r.length];exact O,ι,S,ds,rep,r,c⟩
  ·rw[if_neg O]at c;exact(ag c).elim
 obtain⟨I,od,kV,doc,pm,an,Z,ct,R,rfl,G,L⟩:=F.ex;refine GD G L y (λvs H Q Y h=>(key h).1) λA outer s H vs Q Y C h=>⟨_,T Z A outer s H Y C L ⟨I,od,R,kV,doc,pm,an,ct,G⟩,?_⟩;obtain⟨O,ι,S,ds,rep,r,c⟩:=key h;refine⟨ι,S,_,rep,?_,ay (aj c) λo z S1 v e1 rep1 J=>?_⟩
 ·have:=RelE.start r (N.length - U.length);unfold L2.start;rw[O];exact this
 ·cases o with
  |nx ρ=>exact λB _=>aq J .refl rep1 _ .non
  |ret d=>exact aq J .refl rep1
  |bk ρ=>exact(ag J).elim
  |ct ρ=>exact(ag J).elim
end
section
variable {X:Cx}{Ek:XK}{e:Expr}{es:List Expr}{pos:Pos}{ms:aI->M (List D)}
theorem dv(d:DefX X.prog X.w X.K X.mg X.base k x ps F)(J:Room k X.A)(I:qy (nN X.prog X.w) X Ek)(P:SA X (Bu X.K Ek) (e::es) ms)(U:Gl X x:=by rfl)
  (W:(x==("__debug__":Str))=false:=by decide) (N:d_ (e::es) X.env=(dt,hJ e X.env)::d_ es X.env:=by rfl) (Z:(r_ pos (d_ es X.env)).any (·.1)=false:=by rfl):
  SE X (Bu X.K Ek) (.Call (.Name x p) (e::es) [] pos) (az F ms):=by
 obtain⟨f,fd,G,hm,T,C⟩:=d.ex;refine PE.imp (yP G J U hm T C (.nil) (E:=Ek) I P W N Z) λσ H Q h=>?_;obtain⟨ι,S,ρ,rep,re,c⟩:=h;refine⟨ι,S,ρ,rep,re,ay (aj c) λds Y S1 L e1 rep1 O vs R=>?_⟩;show Dt X.K F (vs++[]) L Q Ek;rw[NL];exact⟨Y,S1,ds,rep1,R,O⟩
theorem aO(d:DefX X.prog X.w X.K X.mg X.base k x ps F)(J:Room k X.A)(P:SA X eA (e::es) ms)(U:Gl X x:=by rfl)
  (W:(x==("__debug__":Str))=false:=by decide) (N:d_ (e::es) X.env=(dt,hJ e X.env)::d_ es X.env:=by rfl) (Z:(r_ pos (d_ es X.env)).any (·.1)=false:=by rfl):
  SE X eA (.Call (.Name x p) (e::es) [] pos) (az F ms):=by
 obtain⟨f,fd,G,hm,T,I⟩:=d.ex;refine PE.imp (yP G J U hm T I (.nil) (E:=E0) Bs P W N Z) λσ H Q h=>?_;obtain⟨ι,S,ρ,rep,re,c⟩:=h;refine⟨ι,S,ρ,rep,re,ay (aj c) λds Y S1 L e1 rep1 O vs R=>?_⟩;show Dt X.K F (vs++[]) L Q E0;rw[NL];exact⟨Y,S1,ds,rep1,R,Du O λ_ _ _ _ z=>z.elim⟩
end
def bf:List Str:=["WebError","NoWeb","NoPlace","NoPlaces","NoMap","NoSharing","NoRoot","NoNumber","NotJoined","NoTie","NoText","NoLine","NoDeed","TooGreat"]
def c8(n y:Str):Bool:=n==y||y=="WebError"
abbrev Kn:List Value:=[.type "ValueError",.type "Exception",.type "BaseException",.type "object"]
def Dv(K:dV)(n:Str):Bool:=match rb K gc n with
 | some (ar (.ref C))=>Dp K C && (n=="TooGreat"||Ss K C Kn "ValueError.__new__") && (ra K (.ref C) (.type "ValueError")==ar b_) && (ra K (.type "NoneType") (.ref C)==ar dt) &&
  bf.all (λy=>match rb K gc y with
   |some (ar (.ref D))=>ra K (.ref C) (.ref D)==ar (c8 n y) && SH K (.ref C) (.ref D)==ar (c8 n y)
   |_=>dt)
 |_=>dt
def ja(K:dV):Bool:=bf.all (Dv K) && ra K (.type "NoneType") (.type "ValueError")==ar dt
structure ErrAt(K:dV)(n:Str)(C:c_):Prop where
 ns:rb K gc n=ar (ar (.ref C))
 ck:ExcC K C
 pl:n="TooGreat"\/Ss K C Kn "ValueError.__new__"=b_
 ve:ra K (.ref C) (.type "ValueError")=ar b_
 nn:ra K (.type "NoneType") (.ref C)=ar dt
 sub:∀y∈bf,∃D,rb K gc y=ar (ar (.ref D))/\ra K (.ref C) (.ref D)=ar (c8 n y)/\SH K (.ref C) (.ref D)=ar (c8 n y)
theorem pd{K:dV}(h:ja K=b_){n:Str}(Y:n∈bf):∃C,ErrAt K n C:=by
 unfold ja at h;rw[ND]at h;have Z:=Nx.mp h.1 n Y;unfold Dv at Z;split at Z
 ·next C e=>
  simp only[j_,A2,beq_iff_eq,y1]at Z;obtain⟨⟨⟨⟨a1,a2⟩,a3⟩,a4⟩,a5⟩:=Z;refine⟨C,e,.of a1,a2,a3,a4,λy X=>?_⟩;have:=a5 y X;split at this
  ·next D eD=>
   simp only[j_,beq_iff_eq]at this;exact⟨D,eD,this.1,this.2⟩
  ·cases this
 ·cases Z
theorem Iy{K:dV}(h:ja K=b_):ra K (.type "NoneType") (.type "ValueError")=ar false:=by unfold ja at h;rw[ND,beq_iff_eq]at h;exact h.2
theorem Fx{K:dV}(X:K.In h)(q:Ss K C Kn "ValueError.__new__"=b_):∃bm N nm qn bs hdct sn sub ab col dd k0 k1 k2 k3 k5 mN,
  h.get? C=ar (excClassObj nm qn C N bs bm hdct sn sub ab col dd k0 k1 k2 k3 k5 "ValueError.__new__")/\h.Ns N mN/\mN "__init__"=none/\OwnTail h Kn bm:=by
 unfold Ss at q;split at q
 case h_2=>cases q
 case h_1 dd cd T ho=>
 split at q
 case h_2=>cases q
 case h_1 C' bm k0 k1 k2 k3 n k5 hm hs=>
 simp only[j_,beq_iff_eq,G3]at q;obtain⟨⟨⟨⟨⟨R,en⟩,Z⟩,S⟩,Y⟩,U⟩:=q;subst R en;rcases cd with⟨nm,bs,mro,ns,qn,hd,sn,sub,ab,col,del⟩;dsimp only at hm Z Y U;subst hm Z;obtain rfl:T= #[k0,k1,k2,k3,ar (.builtin "ValueError.__new__"),k5]:=by rcases T with⟨l⟩;simp only at hs;rw[hs]
 exact⟨bm,ns,nm,qn,bs,hd,sn,sub,ab,col,dd,k0,k1,k2,k3,k5,_,X _ _ ho,.of_isNs (W.isNs_of_in X Y),W.nsMap_none_of_in X Y U,W.tail_of_in X S⟩
section
variable {X:Cx}{Ek:XK}{E:XD}
theorem rq(L:Leaves X Ek)(o:X.calm=b_)(k:ja X.K=b_)(g:x∈bf)(O:x≠"TooGreat")(i:SA X (Bu X.K Ek) (e::es) ms)(f:Gl X x:=by rfl)
  (J:(x==("__debug__":Str))=false:=by decide) (w:d_ (e::es) X.env=(dt,hJ e X.env)::d_ es X.env:=by rfl) (Q:(r_ cpos (d_ es X.env)).any (·.1)=false:=by rfl):
  SS X (Bu X.K Ek) (.Raise (ar (.Call (.Name x np) (e::es) [] cpos)) none pos) (λρ=>do let ds<-ms ρ;if ds.length<=lim then M.raise (.exc x [])else M.fail):=by
 intro pins s σ H T I h;obtain⟨ι,S,ρ,rep,re,c⟩:=h;obtain⟨C,A⟩:=pd k g;have m:=A.pl.resolve_left O;have hm:X.mg x=ar (.ref C):=PD I.mod.kin I.mod.glob A.ns;obtain⟨bm,N,nm,r,bs,hdct,sn,sub,ab,col,dd,k0,k1,k2,k3,k5,mN,j,l,B,v⟩:=Fx I.mod.kin m;refine wpAny_Raise_call_subU (k5:=k5) (k3:=k3) (k2:=k2) (k1:=k1) (k0:=k0) (nm:=nm) (q:=r) (C:=C) (N:=N) (bm:=bm) (bs:=bs) (hdct:=hdct) (sn:=sn) (sub:=sub) (ab:=ab) (col:=col) (dd:=dd) Qs (by decide) Qs (mN:=mN) (v.hasType PySem.F.excBase_ValueError.hasBase) (I.ok.hd o) (by rw[w];show(dt||(r_ cpos (d_ es X.env)).any (·.1))=dt;rw[Q];rfl) B (lz I f hm ⟨rfl,?_⟩ J);have Y:=i cpos pins s σ H _ I ⟨ι,S,ρ,rep,re,ay (aj c) λds Z S1 R e1 rep1 W vs G=>(⟨Z,S1,ds,rep1,G,W⟩:∃Z S1 ds,Rep X.K Z R S1/\RelDs X.K Z R ds vs/\cont X.K (Bu X.K Ek) (if ds.length<=lim then M.raise (.exc x [])else M.fail) Z S1 R _)⟩;rw[w]at Y⊢;refine P9 (Oc Y (λus s2 P=>?_) λ_ _ z=>z);obtain⟨vs,R,U,p,Z,S1,ds,rep1,G,W⟩:=P;by_cases hl:ds.length<=lim
 ·rw[if_pos hl]at W;refine⟨rfl,?_,U.bk _ _ j,l.keeps U.bk,v.keeps U.bk,λh' ea hm=>?_⟩
  ·show us.length<=sizeLine;rw[<-p.length, <-G.length];exact M7 hl hU
  ·obtain⟨t,n,h2,a⟩:=hm.there;have b:L2.Inv X pins σ R {s2 with heap:=h'}:=U.kept (t':=s2.toks) hm.keeps;have y:=U.base;rw[L.ex]at y;obtain⟨r',S',d,u⟩:=W;cases d;refine L.new b n rfl rfl rfl rfl (ij.gone U.hok hm.new) (Un.gone y (by simp) hm.new) (u Z R .refl rep1 _ _ ⟨x,[],C,rfl,A.ns,rfl,.inl ⟨rfl,rfl⟩⟩)
 ·rw[if_neg hl]at W;exact(ag W).elim
def wy(f:Str->Bool):D->M D
 | .exc n _=>if n∈bf then aC (.bl (f n))else M.fail
 | .non=>aC (.bl dt)
 |_=>M.fail
theorem Bv(x:pT C a od h)(S:od=none\/∃dx fs,od=ar dx/\bG P w H h dx (.xd fs)):∃ox odo,z6 h a ox C odo:=by
 obtain⟨Y,vs,e,U,T,hf⟩:=x;have Z:SJ Y=true:=by unfold SJ;rw[hf]
 rcases S with rfl|⟨dx,fs,rfl,h2⟩
 ·exact⟨Y,none,e,U,Z,by rw[T];trivial⟩
 ·obtain⟨R,e2⟩:=bG.there h2;exact⟨Y,ar R,e,U,Z,by rw[T];exact e2⟩
theorem Fy{Q:a_->dn->Prop}(I:L2.Inv X pins σ H s)(r:RelD X.K ι H (.exc n ds) v)(S:RelV v u)
  (U:ja X.K=b_) (T:n∈bf) (Y:∀C,ErrAt X.K n C->ra X.K (.ref C) cv=ar b) (h:∀tk,Q (.bool b) {s with toks:=tk}):ee (fg X.prog X.w) A (call (.builtin "isinstance") [u,cv]) Q Ex s:=by
 obtain⟨C,Z⟩:=pd U T;have fin:∀{a C2:c_} {od:Option c_},rb X.K gc n=ar (ar (.ref C2))->v= .ref a->pT C2 a od s.heap->(od=none\/∃dx fs,od=ar dx/\bG X.prog X.w H s.heap dx (.xd fs))->ee (fg X.prog X.w) A (call (.builtin "isinstance") [u,cv]) Q Ex s:=by rintro a C2 od e1 rfl ph hd;rw[Z.ns]at e1;cases e1;obtain rfl:u=eo a:=S;exact NW (Dq Z.ck) I.kIn (Bv ph hd) (Y C Z) (λz=>nomatch z) h
 cases r with
 |exc e1 e2=>exact fin e1 rfl (I.hok _ _ e2).1 (.inl rfl)
 |excF e1 e2 e3 e4 e5=>exact fin e1 rfl (I.hok _ _ e2).1 (.inr ⟨_,_,rfl,I.hok _ _ e3⟩)
theorem Dw{Q:a_->dn->Prop}(I:L2.Inv X pins σ H s)(Z:ra X.K (.type "NoneType") cv=ar dt)(h:∀tk,Q (.bool dt) {s with toks:=tk}):
  ee (fg X.prog X.w) A (call (.builtin "isinstance") [.none,cv]) Q Ex s:=NW QC I.kIn pa Z (λz=>nomatch z) h
theorem zH{q:Pos}{f:Str->Bool}(G:ja X.K=b_)(z:X.mg "isinstance"=none)(y:SE X E e m)(R:PE X ec (tC vc))(T:∀u,RelV vc u->u=cv)(F:ra X.K (.type "NoneType") cv=ar dt)
  (B:∀n∈bf,∀C,ErrAt X.K n C->ra X.K (.ref C) cv=ar (f n)) (A:Gl X "isinstance":=by rfl)
  (hs:d_ [e,ec] X.env=[(dt,hJ e X.env),(dt,hJ ec X.env)]:=by rfl) (Z:d_ [ec] X.env=[(dt,hJ ec X.env)]:=by rfl):
  SE X E (.Call (.Name "isinstance" p) [e,ec] [] pos) (λρ=>do let x<-m ρ;wy f x):=by
 have Y:dN X (.builtin "isinstance") (λxs H Q=>∃x ι d,xs=[x,vc]/\RelD X.K ι H d x/\((d= .non/\Q (.bl dt) H)\/∃n ds,d= .exc n ds/\n∈bf/\Q (.bl (f n)) H)):=by
  intro pins s σ H xs us Q I r h;obtain⟨x,ι,d,rfl,L,w⟩:=h;obtain⟨u,o,rfl,J,N⟩:=vals2 r;cases T _ N;rcases w with⟨rfl,q⟩|⟨n,ds,rfl,hn',q⟩
  ·cases L.non_inv;cases (show u=hO from J);exact Dw I F λP=>⟨.bl _,H,I.tok P,rfl,q⟩
  ·exact Fy I L J G hn' (λC t=>B n hn' C t) λP=>⟨.bl _,H,I.tok P,rfl,q⟩
 refine PE.imp (kA Y A z (by decide+kernel) (fC y (fC R kz Z) (by rw[hs,Z])) (by decide) (by decide) (by rw[hs,Z]) (by rw[Z];rfl)) λσ H Q h=>?_;obtain⟨ι,S,ρ,rep,re,c⟩:=h;refine⟨ι,S,ρ,rep,re,ay (aj c) λx O S1 l e1 rep1 U v r=>?_⟩;refine⟨v,O,x,rfl,r,?_⟩;cases x with
 |non=>exact .inl ⟨rfl,aq U .refl rep1 _ (.bl _)⟩
 | exc n ds=>
  dsimp only[wy]at U;by_cases hn':n∈bf
  ·rw[if_pos hn']at U;exact .inr ⟨n,ds,rfl,hn',aq U .refl rep1 _ (.bl _)⟩
  ·rw[if_neg hn']at U;exact(ag U).elim
 |_=>exact(ag U).elim
theorem eZ{m:TM}{e:Expr}{y:Str}{p q pos:Pos}(T:ja X.K=b_)(S:y∈bf)(G:Mod X.K X.mg X.base)(Q:X.mg "isinstance"=none)(P:SE X E e m)(R:Gl X "isinstance":=by rfl)(Y:Gl X y:=by rfl)(O:(y==("__debug__":Str))=false:=by decide)
  (hs:d_ [e,.Name y q] X.env=[(dt,hJ e X.env),(dt,hJ (.Name y q) X.env)]:=by rfl) (U:d_ [.Name y q] X.env=[(dt,hJ (.Name y q) X.env)]:=by rfl):
  SE X E (.Call (.Name "isinstance" p) [e,.Name y q] [] pos) (λρ=>do let x<-m ρ;wy (λn=>c8 n y) x):=by
 obtain⟨C,Z⟩:=pd T S;refine zH (q:=q) (vc:=.ref C) (cv:=.ref C) T Q P (yM Y (PD G.kin G.glob Z.ns) rfl O) (λu z=>z) Z.nn (λn N J W=>?_) R hs U;obtain⟨L,e1,e2,_⟩:=W.sub y S;rw[Z.ns]at e1;cases e1;exact e2
theorem Fz(T:ja X.K=b_)(Q:X.mg "isinstance"=none)(Z:X.mg "ValueError"=none)(R:SE X E e m)(S:Gl X "isinstance":=by rfl)(W:Gl X "ValueError":=by rfl)
  (hs:d_ [e,.Name "ValueError" q] X.env=[(dt,hJ e X.env),(dt,hJ (.Name "ValueError" q) X.env)]:=by rfl) (U:d_ [.Name "ValueError" q] X.env=[(dt,hJ (.Name "ValueError" q) X.env)]:=by rfl):
  SE X E (.Call (.Name "isinstance" p) [e,.Name "ValueError" q] [] pos) (λρ=>do let x<-m ρ;wy (λ_=>b_) x):=
 zH (q:=q) (vc:=.ty "ValueError") (cv:=.type "ValueError") T Q R (qb W Z (by decide+kernel) rfl) (λu z=>z) (Iy T) (λn P O Y=>Y.ve) S hs U
end
abbrev jU(ql:Str)(scope:Scope)(f c':c_)(cl:List (Str×c_))(s:dn):Env:=W.envX ql scope s.heap.objs.size f (.ref c') cl
def tL(P:er)(w:fc)(K:dV)(mg:Str->Option a_)(base:gd)(N:List Str)(ql:Str)(scope:Scope)(f c':c_)(cl:List (Str×c_))(A:hS)(outer:List Env)(s:dn)(H:Hp)(Ek:XK):Cx where
 prog:=P
 w:=w
 K:=K
 mg:=mg
 base:=base
 A:=A.deeper (jU ql scope f c' cl s)
 N:=N
 s₀:=s
 H₀:=H
 env:=jU ql scope f c' cl s
 outer:=outer
 stack:=jU ql scope f c' cl s::outer
 ex:=[]
 calm:=b_
 fn:=λ_=>dt
 pn:=[]
 xe:=λe s'=>ee (fg P w) (A.deeper (jU ql scope f c' cl s)) (Rk (jU ql scope f c' cl s) e) (λ_ s''=>nN P w outer H s Ek e s'') (λe' s''=>nN P w outer H s Ek e' s'') s'
section
variable {P:er}{w:fc}{K:dV}{mg:Str->Option a_}{base:gd}{N:List Str}{ql:Str}{scope:Scope}{f c':c_}{cl:List (Str×c_)}{params:J'}{body:Expr}{pm ctv:a_}
theorem gy:Leaves (tL P w K mg base N ql scope f c' cl A outer s H Ek) Ek:=⟨rfl,rfl,rfl,λ_ _ h=>h,PassesOwn.leaving⟩
structure Caps(base:gd)(scope:Scope)(cl:List (Str×c_))(N:List Str)(vs:List V):Prop where
 kind:scope.kind= .function
 nocell:∀y∈scope.names,y.2≠ .cell
 co:scope.isCoroutine=dt
 gen:scope.isGenerator=dt
 inj:∀x y c,cl.lookup x=ar c->cl.lookup y=ar c->x=y
 has:∀x,scope.names.lookup x=ar .free->∃c,cl.lookup x=ar c
 cell:∀x c,cl.lookup x=ar c->∃v,base.IsCell c v
 len:vs.length=N.length
 val:∀(i:Nat) (x:Str) (v:V),N[i]? =ar x->vs[i]? =ar v->scope.names.lookup x=ar .free/\∃c u,cl.lookup x=ar c/\RelV v u/\base.IsCell c (ar u)
def Jy(K:dV)(c':c_)(ql:Str)(ds:List D)(vs:List V)(m:TM):Hp->VK->XK->Prop:=λH Q Ek=>
 ∃ ι S,Rep K ι H S/\H c'=ar (.ext (oR ql c'))/\RelDs K ι H ds vs/\cont K (Bu K Ek) (m (ds.map ar)) ι S H (kB K Q)
theorem iw{h h':gd}(x:h.IsCell c v)(k:∀b o,h.get? b=ar o->h'.get? b=ar o):h'.IsCell c v:=let ⟨o,e,r⟩:=x;⟨o,k _ _ e,r⟩
theorem wz:∀{ds:List D} {vs:List V},RelDs K ι H ds vs->RelE K ι H (ds.map ar) (vs.map ar)
 |_,_,.nil=>.nil
 |_,_,.cons r t=>.cons (λd z=>by cases z;exact⟨_,rfl,r⟩) (wz t)
theorem Dx(ho:base.get? f=ar (wk "<lambda>" ql params body scope cl pm c' ctv))(Y:Caps base scope cl N vs)
  (T:Rx (R9 "<lambda>" ql params body scope cl pm (.ref c') ctv) ⟨[],[]⟩=aC [])
  (U:∀(A:hS) (outer:List Env) (s:dn) (H:Hp) (R:XK),Room k (A.deeper (jU ql scope f c' cl s))->SE (tL P w K mg base N ql scope f c' cl A outer s H R) (Bu K R) body m):
  LamOk P w K mg base (k+1) f (Jy K c' ql ds vs m):=by
 refine⟨⟨_,_,ho,rfl⟩,λA outer s H Q R n Z C=>?_⟩;obtain⟨ι,S,rep,d,rd,c⟩:=C;have bk:∀b o,base.get? b=ar o->s.heap.get? b=ar o:=λb o e=>(Z.bs b o e).1;have g:s.heap.CodeRec (.ref c') ql:=(Z.hok _ _ d).1;refine W.kla_callFunE n.depth (bk _ _ ho) rfl Y.co Y.gen rfl g ?_;rw[T];refine MW (wpAny_newFunctionEnv Y.nocell (λy hy=>absurd hy (by simp)) (λh1 B l=>?_) Y.kind);have G:∀b o,s.heap.get? b=ar o->h1.get? b=ar o:=λb o e=>(l.2 b (Ng (MZ e))).trans (MU _ e);refine⟨(Z.mod.nolimit.keeps bk).keeps G,?_⟩;show B' _ _ (.expr body (jU ql scope f c' cl s)) _ _;refine W.kla_codeExpr ?_;have X:∀b:c_,b∉([]:List c_):=λb z=>by cases z
 have t:∀x,scope.names.lookup x≠ar .cell:=λx e=>Y.nocell _ (bb e) rfl;have I:L2.Inv (tL P w K mg base N ql scope f c' cl A outer s H R) [] (vs.map ar) H {s with heap:=h1,toks:=s.toks+0}:=
  ⟨⟨Z.mod,Y.kind,rfl,rfl,MV _,Y.inj,(λx L=>by
    rcases L with L|L
    ·exact absurd L (t x)
    ·exact Y.has x L),(λ_ _ z=>Bool.noConfusion z),λ_=>n.hd,Around.frames_deeper Z.frames,.inr ⟨rfl,rfl⟩,λb z=>absurd z (X b),Z.bs,Z.bsz,λb _ _=>X b,λb z=>absurd z (X b),Z.funs,Z.frf⟩,
   rfl,Z.bare,Un.kept G,⟨_,B,λi x v h F h3=>(by
    have E:vs[i]? =ar v:=by
     rw[Nn]at F;cases q:vs[i]? with
     |none=>rw[q]at F;cases F
     |some a=>rw[q]at F;cases F;rfl
    obtain⟨hf,O,u,e1,e2,e3⟩:=Y.val i x v h E;exact⟨u,e2,.inr ⟨.inr hf,O,e1,iw (iw e3 bk) G⟩⟩)⟩,
   (λx O e=>let ⟨v,z⟩:=Y.cell x O e;⟨v,iw (iw z bk) G⟩),Z.hok.fresh (MV _),(λx O e=>let ⟨v,o,z,_⟩:=Y.cell x O e;(Z.bs _ _ z).2),
   (λp hp=>absurd hp (by simp[tL])),Z.hok.kept G,by rw[MS];exact Y.len⟩
 refine Oc (U A outer s H R (n.deeper _) [] _ (vs.map ar) H Q I ⟨ι,S,ds.map ar,rep,wz rd,c⟩) (λu s' j=>?_) λe s' j=>j;obtain⟨v,H',J,r,q⟩:=j;exact⟨v,H',J.os,J.bare,J.base,J.hok,r,q⟩
end
theorem RelE.unset{K:dV}{ι:List c_}{H:Hp}:∀{ρ:S3.aI} {σ:L2.St} (i:Nat),RelE K ι H ρ σ->RelE K ι H (ρ.set i none) (σ.set i none)
 |_,_,_,.nil=>.nil
 |_,_,0,.cons _ t=>.cons (λd' z=>by cases z) t
 |_,_,i+1,.cons q t=>.cons q (RelE.unset i t)
def Dy(jn jy:Nat)(c:M D)(ρ:S3.aI):M Out:=λS=>match c S with
 |some (.ok _,S')=>ar (.ok (.nx ρ),S')
 |some (.ex (.exc n ds),S')=>if n∈bf then ar (.ok (.nx (((ρ.set jn (ar (.exc n ds))).set jy (ar (.exc n ds))).set jn none)),S')else none
 |_=>none
open Classical in
def wA(i jn jy:Nat)(f:D)(c:M D):cY:=λρ=>if ρ[i]? =ar (ar f)then Dy jn jy c ρ else M.fail
section
variable {X:Cx}{E:XD}{k i jn jy:Nat}{a c':c_}{ql:Str}{ds:List D}{vs:List V}{m:TM}{x n y:Str}{p cpos epos np p1 p2 p3 hpos tpos:Pos}
theorem Iz(o:X.stack=X.env::X.outer)(J:X.env.frame=ar X.env.locals)(L:LamOk X.prog X.w X.K X.mg X.base k a (Jy X.K c' ql ds vs m))(hr:Room k X.A)(hN:X.N.Nodup)(g:ja X.K=b_)(G:Mod X.K X.mg X.base)(hi:X.N[i]? =ar x)(hv:EN X.env.scope x)
  (l:X.N[jn]? =ar n) (F:X.N[jy]? =ar y) (B:X.env.scope.names.lookup n=ar .local) (I:X.env.scope.names.lookup y=ar .local) (hg:Gl X "WebError")
  (hd:(x==("__debug__":Str))=false:=by decide) (j:(x==("__classdict__":Str))=false:=by decide) (s:(n==("__debug__":Str))=false:=by decide) (Q:(n==("__classdict__":Str))=false:=by decide)
  (t:la (.Call (.Name x p) [] [] cpos) none epos.line X.env=aC false:=by rfl) (P:la (.Name n p2) (ar (.Name y p1)) p3.line X.env=aC false:=by rfl):
  SS X E (.Try [.Expr (.Call (.Name x p) [] [] cpos) epos] [.ExceptHandler (ar (.Name "WebError" np)) (ar n) [.Assign [.Name y p1] (.Name n p2) p3] hpos] [] [] tpos) (wA i jn jy (.fn a c' ql ds vs) (m (ds.map ar))):=by
 obtain⟨CW,f⟩:=pd g (show("WebError":Str)∈bf from .head _);refine PS.imp (Bt o J L hr hN hi hv l F B I hg (PD G.kin G.glob f.ns) hd j (by decide) s Q t P) λT σ H h=>?_;obtain⟨ι,S,ρ,rep,re,r,S',e,q⟩:=h;have e:wA i jn jy (.fn a c' ql ds vs) (m (ds.map ar)) ρ S=ar (r,S'):=e;unfold wA at e;by_cases hρ:ρ[i]? =ar (ar (.fn a c' ql ds vs))
 case neg=>rw[if_neg hρ]at e;cases e
 rw[if_pos hρ]at e;unfold Dy at e;obtain⟨v,e1,rv⟩:=re.get hρ;cases rv with
 | fn hc' rds=>
  refine⟨e1,ι,S,rep,hc',rds,?_⟩;cases z:m (ds.map ar) S with
  |none=>rw[z]at e;cases e
  | some pr=>
   obtain⟨r1,S1⟩:=pr;rw[z]at e;cases r1 with
   |ok d=>
    cases e;exact⟨_,_,z,λZ U R rep1 v' _=>q Z U R rep1 σ (re.later rep R)⟩
   | ex xd=>
    cases xd with
    | exc nm es=>
     dsimp only at e;split at e
     case isFalse=>cases e
     case isTrue hnm=>
     cases e;refine⟨_,_,z,λZ U R rep1 cls od rx=>?_⟩;obtain⟨n2,a5,C,e2,Y,rfl,u⟩:=rx;cases e2;obtain⟨C2,b⟩:=pd g hnm;have:=b.ns;rw[Y]at this;cases this;obtain⟨D2,f1,f2,f3⟩:=b.sub "WebError" (.head _);rw[f.ns]at f1;cases f1;refine⟨C,rfl,by rw[f3];simp[c8],λO W=>?_⟩;have xe:Ext Z U Z (upd U O (.ext (pT C O od))):=gK W;have c:RelD X.K Z (upd U O (.ext (pT C O od))) (.exc nm es) (.ref O):=by
      rcases u with⟨rfl,rfl⟩|⟨dx,fs,rfl,g1,g2,g3⟩
      ·exact .exc Y bo
      ·exact .excF Y bo (by rw[aN (aK g1 W)];exact g1) g2 (g3.later rep1 xe)
     exact q Z _ (R.trans xe) (i5 rep1 W) _ (RelE.unset jn ((((re.later rep R).later rep1 xe).set c jn).set c jy))
    |_=>cases e
end
def uO:List Nat->S3.aI->Option (List D)
 |[],_=>ar []
 |j::r,ρ=>match ρ[j]? with
  |some (ar d)=>(uO r ρ).map (d::·)
  |_=>none
theorem uP{K:dV}{ι:List c_}{H:Hp}{ρ:S3.aI}{Y:L2.St}(Z:RelE K ι H ρ Y):∀{js:List Nat} {ds:List D},uO js ρ=ar ds->∃vs,RelDs K ι H ds vs/\vs.length=js.length/\∀(i j:Nat) (v:V),js[i]? =ar j->vs[i]? =ar v->Y[j]? =ar (ar v)
 |[],ds,e=>by
  cases e;exact⟨[],.nil,rfl,λi j v h=>by simp at h⟩
 | j ::r,ds,e=>by
  unfold uO at e;cases q:ρ[j]? with
  |none=>rw[q]at e;cases e
  | some o=>
   cases o with
   |none=>rw[q]at e;cases e
   | some d=>
    rw[q]at e;cases q2:uO r ρ with
    |none=>rw[q2]at e;cases e
    |some es=>
     rw[q2]at e;cases e;obtain⟨v,S,X⟩:=Z.get q;obtain⟨vs,g1,g2,g3⟩:=uP Z q2;refine⟨v::vs,.cons X g1,by simp[g2],λi U T e1 e2=>?_⟩;cases i with
     |zero=>simp at e1 e2;subst e1 e2;exact S
     |succ i=>exact g3 i U T (by simpa using e1) (by simpa using e2)
structure LamScope(X:Cx)(scope:Scope)(N3:List Str)(js:List Nat):Prop where
 kind:scope.kind= .function
 nocell:∀y∈scope.names,y.2≠ .cell
 co:scope.isCoroutine=dt
 gen:scope.isGenerator=dt
 free:∀y∈scope.names,y.2= .free->X.env.kindOf y.1=ar .cell\/X.env.kindOf y.1=ar .free
 len:js.length=N3.length
 ix:∀(i:Nat) (x:Str) (j:Nat),N3[i]? =ar x->js[i]? =ar j->X.N[j]? =ar x/\scope.names.lookup x=ar .free
def Ko(fs:Scope)(N:List Str)(scope:Scope)(N3:List Str)(js:List Nat):Bool:=
 (scope.kind== .function) && scope.names.all (λy=>y.2 != .cell) && !scope.isCoroutine && !scope.isGenerator &&
  scope.names.all (λy=>y.2 != .free||(fs.names.lookup y.1==ar .cell||fs.names.lookup y.1==ar .free)) && (js.length==N3.length) &&
  (N3.zip js).all (λp=>N[p.2]? ==ar p.1 && scope.names.lookup p.1==ar .free)
theorem Bw{X:Cx}(Z:Scope)(N:List Str)(Q:∀x,X.env.kindOf x=Z.names.lookup x)(P:X.N=N)(h:Ko Z N scope N3 js=b_):LamScope X scope N3 js:=by
 unfold Ko at h;simp only[j_,y1,beq_iff_eq,bne_iff_ne,A2,G3]at h;obtain⟨⟨⟨⟨⟨⟨R,U⟩,W⟩,K⟩,S⟩,T⟩,O⟩:=h;refine⟨R,U,W,K,λy L e=>?_,T,λi x j e1 e2=>?_⟩
 ·rw[Q];exact(S y L).resolve_left λz=>z e
 ·have Y:(N3.zip js)[i]? =ar (x,j):=Pe.mpr ⟨e1,e2⟩;have:=O _ (Nz Y);rw[P];exact this
def zI(K:dV)(R:D->M D->List D->M D)(a c':c_)(ql:Str)(ds:List D)(vs:List V)(m:TM):Sp:=λus H Q _=>
 ∃ ι S rest es,us= .ref a::rest/\Rep K ι H S/\H c'=ar (.ext (oR ql c'))/\RelDs K ι H ds vs/\RelDs K ι H es rest/\cont K eA (R (.fn a c' ql ds vs) (m (ds.map ar)) es) ι S H (kB K Q)
structure RefX(P:er)(w:fc)(K:dV)(mg:Str->Option a_)(k k0:Nat)(x:Str)(ps:List Str)(R:D->M D->List D->M D):Prop where
 ex:∃fr fd,mg x=ar (.ref fr)/\xg K (.ref fr)=b_/\Binds K fd ps []/\∀base,Mod K mg base->∀a c' ql ds vs m,LamOk P w K mg base k0 a (Jy K c' ql ds vs m)->FnOk P w K mg base (nN P w) k fr fd ps (zI K R a c' ql ds vs m)
abbrev uQ(js:List Nat)(ms:aI->M (List D))(m:TM)(R:M D->List D->M D):TM:=λρ=>match uO js ρ with
 |some ds=>(do let es<-ms ρ;R (m (ds.map ar)) es)
 |none=>M.fail
theorem lY{h Z:gd}:∀{l:List Env},h.FunFrames base l->(∀b∈kl l,Z.get? b=none)->h.FunFrames Z l
 |[],_,_=>trivial
 |env::rest,⟨hk,⟨L,o,hf,_,ho,hd⟩,hr⟩,hn=>by
  rw[wu rest L env hf]at hn;exact⟨hk,⟨L,o,hf,hn L (.head _),ho,hd⟩,lY hr λb Y=>hn b (.tail _ Y)⟩
abbrev fY(X:Cx)(H:Hp)(h:gd):Heap:=W.hideAll (lO h H) (kl X.stack)
theorem jV{X:Cx}{H:Hp}{h:gd}(e:h.get? b=ar o)(n:H b=none)(Z:b∉kl X.stack):(fY X H h).get? b=ar o:=W.hideAll_get _ (mW e n) Z
section
variable {X:Cx}{pins:List (c_×Obj)}{σ:L2.St}{H:Hp}{s:dn}
theorem nP(I:L2.Inv X pins σ H s):∀b o,X.base.get? b=ar o->(fY X H s.heap).get? b=ar o:=λb o e=>by obtain⟨Z,Y⟩:=I.bs b o e;refine jV Z Y λz=>?_;have:=(I.stack.mem z).1;rw[e]at this;cases this
theorem iR(I:L2.Inv X pins σ H s):Mod X.K X.mg (fY X H s.heap):=
 ⟨I.mod.kin.keeps (nP I),I.mod.glob.keeps (nP I),let ⟨mb,h1,h2⟩:=I.mod.blt;⟨mb,h1.keeps (nP I),h2⟩,I.mod.nolimit.keeps (nP I)⟩
theorem zJ(I:L2.Inv X pins σ H s):L2.aI X.prog X.w X.K X.mg (fY X H s.heap) X.A X.stack s H:=
 ⟨I.ok.frames,iR I,λb o e=>t7 (W.of_hideAll _ e),by rw[W.hideAll_size,oJ];exact MV _,lY I.stack λb Z=>W.hideAll_none _ Z,I.stkFree,I.hok,I.bare⟩
theorem zK(I:L2.Inv X pins σ H s)(Z:∀x,X.fn x=b_)(e:X.env.cells.lookup x=ar c)(h:s.heap.IsCell c v):(fY X H s.heap).IsCell c v:=by
 obtain⟨o,Y,W⟩:=h;refine⟨o,jV Y (I.freeC x c e) λz=>?_,W⟩;rcases M9.mp (I.stkSub c z)with z|z
 ·exact I.cne x c e z
 ·obtain⟨_,U,q,_⟩:=I.ok.funs.mem z;exact absurd (MZ q) (QG.mpr (I.ok.cab x c (Z x) e))
end
section
variable {X:Cx}{x xl ql:Str}{k k0:Nat}{ps N3:List Str}{js:List Nat}{R:D->M D->List D->M D}{R':M D->List D->M D}{params:J'}{body:Expr}{scope:Scope}{lpos p pos:Pos}{es:List Expr}{ms:aI->M (List D)}{m:TM}{c P:c_}
theorem Dz(d:RefX X.prog X.w X.K X.mg k (k0+1) x ps R)(hR:∀f c es,R f c es=R' c es)(hr:Room k X.A)(b2:∀x,X.fn x=b_)(e7:xl∈cf)(ht:kS X.K xl=ar (c,P))(a0:X.env.code= .ref c)(hq:X.env.qual++"<lambda>"=ql)(e8:ql=xl++".<locals>.<lambda>")
  (B:BaseL X.K X.mg X.base) (TI:kP X.K) (c0:R8 params X.env=([],[])) (g:LamScope X scope N3 js) (ha:SA X eA es ms)
  (a3:∀(T:c_) (cl:List (Str×c_)) (pm C:a_),Rx (R9 "<lambda>" ql params body scope cl pm (.ref T) C) ⟨[],[]⟩=aC [])
  (b5:∀(base:gd),Mod X.K X.mg base->∀(f T:c_) (cl:List (Str×c_)) (A:hS) (outer:List Env) (s:dn) (H:Hp) (Ek:XK),Room k0 (A.deeper (jU ql scope f T cl s))->SE (tL X.prog X.w X.K X.mg base N3 ql scope f T cl A outer s H Ek) (Bu X.K Ek) body m)
  (hg:Gl X x:=by rfl) (c6:(x==("__debug__":Str))=false:=by decide)
  (he:d_ (.Lambda params body scope lpos::es) X.env=(dt,hJ (.Lambda params body scope lpos) X.env)::d_ es X.env:=by rfl) (c4:(r_ pos (d_ es X.env)).any (·.1)=false:=by rfl):
  SE X eA (.Call (.Name x p) (.Lambda params body scope lpos::es) [] pos) (uQ js ms m R'):=by
 intro pins s σ H Q I h;obtain⟨ι,S,ρ,rep,re,b⟩:=h;obtain⟨fr,fd,hm,hk,hb,F⟩:=d.ex;have b:cont X.K eA (uQ js ms m R' ρ) ι S H (kB X.K Q):=b;unfold uQ at b;cases hcap:uO js ρ with
 |none=>rw[hcap]at b;exact(ag b).elim
 |some ds=>
 rw[hcap]at b;dsimp only at b;obtain⟨vs,d0,b1,c7⟩:=uP re hcap;have l:∀y∈scope.names,y.2= .free->∃a,X.env.cells.lookup y.1=ar a:=λy hy e=>I.ok.has y.1 (g.free y hy e);refine OG (lz I hg hm ?_ c6);refine Qt (h₀:=X.base) I.ok.mod.kin hk (RD (ym e7 ht a0 hq e8 B TI (iq scope X.env l) c0 I rep.tab λf T C pm H1 s1 I1 b3 e5 e3 a5 J f5 hT=>?_) he) he c4;have x1:Ext ι H ι H1:=⟨⟨[],by simp⟩,λa o e n t=>⟨J a o e t,n⟩⟩;have rep1:Rep X.K ι H1 S:=⟨rep.nd,rep.len,λkk a xs e1 e2=>let ⟨ws,g1,g2⟩:=rep.get kk a xs e1 e2;⟨ws,J _ _ g1 (by intro _ z;cases z),g2.later rep x1⟩,hT⟩;have d2:L2.Inv X ((f,wk "<lambda>" ql params body scope (jD X.env.cells scope.names []) pm T C)::pins) σ H1 s1:=I1.pins_of λq Z=>by
  rcases M9.mp Z with rfl|Z
  ·exact⟨e5,e3,j' (Ng (Nf I.lt b3)),I.nofs b3,λv z=>by cases z⟩
  ·exact I1.pin q (Nj _ Z)
 refine eJ (ha pos _ s1 σ H1 (λL O=>∃U S2 N,Ext ι H1 U O/\Rep X.K U O S2/\RelDs X.K U O N L/\cont X.K eA (R' (m (ds.map ar)) N) U S2 O (kB X.K Q)) d2 ⟨ι,S,ρ,rep1,re.later rep x1,ay (aj (gr b x1)) λN U S2 O e2 rep2 c2 L r2=>⟨U,S2,N,e2,rep2,r2,c2⟩⟩) λus s2 c5=>?_;obtain⟨L,O,a4,rv,U,S2,N,x2,rep2,r2,c2⟩:=c5;have E:L2.Inv X pins σ O s2:=a4.pins_of λq Z=>a4.pin q (Nj _ (.tail _ Z));refine⟨E.kIn,?_⟩;show ee _ _ (call (.ref fr) (.ref f::us)) _ _ _;obtain⟨po,pn,pl,pf,_⟩:=a4.pin (f,_) (Nj _ (.head _));have d3:O T=ar (.ext (oR ql T)):=(x2.oth T _ a5 (rep1.notIn a5 (by intro _ z;cases z)) (by intro _ z;cases z)).1;have nf:f∉kl X.stack:=λz=>by
  rcases M9.mp (E.stkSub f z)with z|z
  ·exact pl z
  ·exact pf z
 have d1:=qc (cells:=X.env.cells) scope.names [] l (λ_ z=>nomatch z);have Y:∀y a,(jD X.env.cells scope.names []).lookup y=ar a->X.env.cells.lookup y=ar a:=λy a e=>d1 _ (lookup_mem e);have cp:Caps (fY X O s2.heap) scope (jD X.env.cells scope.names []) N3 vs:=by
  refine⟨g.kind,g.nocell,g.co,g.gen,λy z a e1 e2=>I.ok.inj y z a (Y y a e1) (Y z a e2),λy e=>mem_lookup (iM scope.names [] (.inl (bb e))),λy a e=>?_,by rw[b1];exact g.len,λi y v e1 e2=>?_⟩
  ·obtain⟨v,z⟩:=E.cell y a (Y y a e);exact⟨v,zK E b2 (Y y a e) z⟩
  ·have e0:i<js.length:=by rw[<-b1];exact(MX.mp e2).1
   obtain⟨j,hj⟩:∃j,js[i]? =ar j:=⟨_,MY e0⟩;obtain⟨g1,g2⟩:=g.ix i y j e1 hj;have hv:=c7 i j v hj e2;have a7:=g.free (y,.free) (bb g2) rfl;have b0:EN X.env.scope y:=by
    rcases a7 with z|z
    ·exact .inr (.inl z)
    ·exact .inr (.inr z)
   obtain⟨mm,h4,hl⟩:=E.loc;obtain⟨u,ru,lk⟩:=hl j y v g1 hv b0;refine⟨g2,?_⟩;rcases lk with⟨z,_⟩|⟨_,a,ea,hca⟩
   ·have z':X.env.kindOf y=ar .local:=z;rcases a7 with w'|w'
    ·have w2:X.env.kindOf y=ar .cell:=w';rw[z']at w2;cases w2
    ·have w2:X.env.kindOf y=ar .free:=w';rw[z']at w2;cases w2
   ·obtain⟨a2,b4⟩:=mem_lookup (iM (cells:=X.env.cells) scope.names [] (.inl (bb g2)));have:=Y y a2 b4;rw[ea]at this;cases this;exact⟨a,u,b4,ru,zK E b2 ea hca⟩
 have LO:LamOk X.prog X.w X.K X.mg (fY X O s2.heap) (k0+1) f (Jy X.K T ql ds vs m):=Dx (jV po pn nf) cp (a3 T _ pm C) λA outer s H Ek f3=>b5 _ (iR E) f T _ A outer s H Ek f3;have G:=F (fY X O s2.heap) (iR E) f T ql ds vs m LO;have sp:zI X.K R f T ql ds vs m (.ref f::L) O Q E0:=⟨U,S2,L,N,rfl,rep2,d3,(d0.later rep x1).later rep1 x2,r2,by rw[hR];exact c2⟩;have hlen:(eo f::us).length=ps.length:=by have:=G.len _ _ _ _ sp;rw[<-this,N4,N4,rv.length]
 refine Qe (OO (G.run X.A X.stack s2 O ⟨.ref f::us,[]⟩ (.ref f::us) (.ref f::L) Q E0 hr (zJ E) (by have:=hb s2 (.ref f::us) E.kIn (by rw[NL];exact hlen);rw[NL]at this;exact this) (.cons rfl rv) sp) λr s' Z=>?_);cases r with
 |error e=>obtain⟨_,_,_,_,_,_,_,_,_,_,_,_,_,_,_,z⟩:=Z;exact g_ z
 |ok fl=>
  cases fl with
  |ret u=>exact E.after Z
  |next=>exact g_ Z
  |brk=>exact g_ Z
  |cont=>exact g_ Z
end
def kQ(K:dV):List Addr:=cf.filterMap λy=>(kS K y).map (·.2)
theorem Bx{K:dV}{y:Str}{c P:c_}(Z:y∈cf)(e:kS K y=ar (c,P)):P∈kQ K:=Oq.mpr ⟨y,Z,by rw[e];rfl⟩
theorem wB{K:dV}{P:c_}(h:P∈kQ K):∃y c,y∈cf/\kS K y=ar (c,P):=by
 obtain⟨y,Z,e⟩:=Oq.mp h;cases q:kS K y with
 |none=>rw[q]at e;cases e
 |some p=>rw[q]at e;cases e;exact⟨y,p.1,Z,q⟩
theorem FA{K:dV}{f:Str->Option a_}{sp:Sp}{Z:dn}{vs:List a_}
  (KX:K.In Z.heap) (nt:SK K=b_) (j:Z.heap.Ns gc mg) (i:Z.heap.Ns wd f) (a3:∀x:Str,x≠"__name__"->f x=k_ x) (B:Z.heap.NoLimit) (hg:Z.gens= #[])
  (g:∃bm I,mg "__builtins__"=ar (.ref bm)/\bm≠wd/\Z.heap.get? bm=ar I/\I.cls= .type "module"/\I.dict=ar wd/\I.data= .plain)
  (U:∀y∈cf,∀c Q,kS K y=ar (c,Q)->Q_ Z.heap c Q/\Z.heap.get? Q=ar (x' #[]))
  (J:Z.heap.get? a=ar {cls:=.type "list",data:=.seq vs.toArray}) (hi:m2 vs ns) (hl:ns.length<=sizeLine) (hr:Room k xk)
  (F:∀base:gd,Mod K mg base->BaseL K mg base->FnOk P w K mg base (nN P w) k fa fd [x] sp) (R:∀(s:dn) (u:a_),F0 s fd ⟨[u],[]⟩ [(x,u)])
  (l:∀H:Hp,TabsOk K H->EL K H a (ns.map V.int)->sp [.ref a] H (λv _=>v= .bl b_) λ_ _ _=>False):
  B' (fg P w) xk (.call (.ref fa) ⟨[.ref a],[]⟩) (λr s'=>r= .ok (.ret (.bool b_))/\OldK Z.heap s'.heap/\s'.os=Z.os/\y_ s'.gens) Z:=by
 have rv:=jB hi;have X:∀Q∈kQ K,Z.heap.get? Q=ar (x' #[]):=λQ hQ=>let ⟨y,c,L,e⟩:=wB hQ;(U y L c Q e).2;have aT:a∉kQ K:=λz=>by have:=X a z;rw[J]at this;cases this
 let H:Hp:=λb=>if b∈kQ K then ar (.tbl #[])else if b=a/\K.lookup a=none then ar (.frz {cls:=.type "list",data:=.seq vs.toArray} (.lst (ns.map V.int)))else none;have hT:∀b∈kQ K,H b=ar (.tbl #[]):=λb z=>if_pos z;have G:∀b,b∉kQ K->H b=if b=a/\K.lookup a=none then ar (.frz {cls:=.type "list",data:=.seq vs.toArray} (.lst (ns.map V.int)))else none:=λb z=>if_neg z;have free:∀{b:c_} {o:Obj},Z.heap.get? b=ar o->o≠x' #[]->(o.cls≠ .type "list"\/K.lookup b=ar o)->H b=none:=λ{b o} e n1 T=>by
  have z:b∉kQ K:=λz=>by have:=X b z;rw[e]at this;exact n1 (Nw this)
  rw[G b z,if_neg];rintro⟨rfl,kn⟩;rcases T with T|T
  ·rw[J]at e;cases e;exact T rfl
  ·rw[kn]at T;cases T
 have O:∀{b:c_} {o:Obj},K.lookup b=ar o->o≠x' #[]:=λ{b o} e z=>by have h2:=Nx.mp nt (b,o) (W.mem_of_lookupK e);subst z;exact absurd (show dt=b_ from h2) N6
 have E:ij P w H Z.heap:=λb u e=>by
  by_cases z:b∈kQ K
  ·rw[hT b z]at e;cases e;exact X b z
  ·rw[G b z]at e;by_cases q:b=a/\K.lookup a=none
   ·rw[if_pos q]at e;cases e;obtain⟨rfl,_⟩:=q;exact⟨J,by rw[MS];exact hl,vs,_,rv,J⟩
   ·rw[if_neg q]at e;cases e
 have Y:∀{b:c_} {o:Obj},Z.heap.get? b=ar o->o≠x' #[]->(o.cls≠ .type "list"\/K.lookup b=ar o)->(lO Z.heap H).get? b=ar o:=λe n1 T=>mW e (free e n1 T);have N:∀{b:c_} {m:Str->Option a_},Z.heap.Ns b m->(lO Z.heap H).Ns b m:=λ{b m} ⟨o,es,ep,e,d,r⟩=>by
  have z:H b=none:=by
   by_cases zt:b∈kQ K
   ·have:=X b zt;rw[e]at this;cases this;cases d
   ·rw[G b zt,if_neg];rintro⟨rfl,_⟩;rw[J]at e;cases e;cases d
  exact⟨o,es,ep,mW e z,d,r⟩
 have n:K.In (lO Z.heap H):=λb o e=>Y (KX b o e) (O e) (.inr e);have hM:Mod K mg (lO Z.heap H):=⟨n,N j,⟨f,N i,a3⟩,let ⟨mc,h1,h2⟩:=B;⟨mc,N h1,h2⟩⟩;have hB:BaseL K mg (lO Z.heap H):=by
  refine⟨?_,λy L c Q e=>?_⟩
  ·obtain⟨bm,I,b1,b2,b3,t,b5,b6⟩:=g;exact⟨bm,I,b1,b2,Y b3 (λz=>by rw[z]at t;cases t) (.inl (by rw[t];decide)),t,b5,b6⟩
  ·obtain⟨o,v2,file,tf,flags,tg,a5,text,tt,e1,A,r⟩:=(U y L c Q e).1;exact⟨o,v2,file,tf,flags,tg,a5,text,tt,Y e1 (λz=>by rw[z]at A;cases A) (.inl (by rw[A];decide)),A,r⟩
 have e0:L2.aI P w K mg (lO Z.heap H) xk [] Z H:=⟨rfl,hM,λb o e=>t7 e,Pq (oJ _ _),trivial,λb i=>absurd (show b∈([]:List c_)from i) (by simp),E,.of_eq hg⟩;have p:TabsOk K H:=λy L c Q e=>⟨#[],hT Q (Bx L e),trivial,λpos cv q=>by cases q⟩;have C:EL K H a (ns.map V.int):=by
  cases hk:K.lookup a with
  |some o=>
   have e:=KX a o hk;rw[J]at e;cases e;exact .inr ⟨_,vs.toArray,_,hk,rfl,rfl,rfl,by rw[M8,hi.length];exact hl,by simpa using rv⟩
  |none=>exact .inl ⟨_,by rw[G a aT,if_pos ⟨rfl,hk⟩]⟩
 refine OO ((F _ hM hB).run xk [] Z H ⟨[.ref a],[]⟩ [.ref a] [.ref a] _ _ hr e0 (R Z (.ref a)) (.cons rfl .nil) (l H p C)) λr s' h=>?_;cases r with
 |error e=>obtain⟨_,_,_,_,_,_,_,_,_,_,_,_,_,_,_,z⟩:=h;exact g_ z
 | ok fl=>
  cases fl with
  |next=>exact g_ h
  |brk=>exact g_ h
  |cont=>exact g_ h
  | ret u=>
   obtain⟨v,H',os,bare,un,S,r',q⟩:=h;have q':v= .bl true:=q;subst q';obtain rfl:u=u0 true:=r';refine⟨rfl,⟨λb o e=>?_,λb o e=>un.there b o e (by simp)⟩,os,bare⟩;by_cases zt:b∈kQ K
   ·obtain⟨y,c,L,et⟩:=wB zt;obtain⟨hc,hP⟩:=U y L c b et;obtain⟨more,em⟩:=un.tbls b _ (hT b zt);have o2:s'.heap.get? b=ar {cls:=.none,data:=.fields (#[]++more)}:=S b _ em;rw[hP]at e;cases e;exact .inr (.inl ⟨(hc.tab hP).isCodeTable,rfl, #[],more,rfl,o2⟩)
   ·by_cases qa:b=a/\K.lookup a=none
    ·have z1:H b=ar (.frz {cls:=.type "list",data:=.seq vs.toArray} (.lst (ns.map V.int))):=by rw[G b zt,if_pos qa]
     obtain⟨e2,_⟩:=S b _ (un.frzs b _ _ z1);obtain⟨e1,_⟩:=E b _ z1;rw[e]at e1;cases e1;exact .inl e2
    ·exact .inl (un.keep b o e (by rw[G b zt,if_neg qa]) (by intro z;exact absurd (show b∈([]:List c_)from z) (by simp)) (by simp))
theorem DA{l:Sg}{YP:fc->gd->Prop}{d:SM}{K:O'->dV}{sp:fc->Sp}
  (A:l.most=ar n) (O:n<=sizeLine) (N:d.params.defaults=[]) (z:Room k xk)
  (m:∀(w:fc) (h:gd),YP w h->(K w.params).In h) (t:∀w:fc,SK (K w.params)=b_)
  (U:∀(w:fc) (h:gd),YP w h->∀y∈cf,∀c Q,kS (K w.params) y=ar (c,Q)->Q_ h c Q/\h.get? Q=ar (x' #[]))
  (F:∀(w:fc) (Z:Str->Option a_) (S:c_) (h:gd),(K w.params).In h->h.Ns gc Z->Z d.name=ar (.ref S)->
   ∃fd:gg,(∀(s:dn) (u:a_),F0 s fd ⟨[u],[]⟩ [(x,u)])/\
    ∀base:gd,Mod (K w.params) Z base->BaseL (K w.params) Z base->FnOk l.prog w (K w.params) Z base (nN l.prog w) k S fd [x] (sp w))
  (R:∀(w:fc) (H:Hp) (a:c_) (ns:List Int),ns.length<=n->TabsOk (K w.params) H->EL (K w.params) H a (ns.map V.int)->sp w [.ref a] H (λv _=>v= .bl b_) λ_ _ _=>False):
  SY q loose XP YP l.row.toRowW d [] (λf vs=>PySem.call f vs):=by
 refine Att.attach_call A N λw s₀ L Z i S o pm cd doc a vs ns G Y ho hd B P X hints hlen p=>?_;have J:=m w _ Y;obtain⟨fd,r,C⟩:=F w Z S _ J G.T.g P;refine FA J (t w) G.T.g G.T.b G.T.builtins G.T.nolimit p G.T.bmain (λy j c Q e=>U w _ Y y j c Q e) X hints (M7 hlen O) z C r λH E I=>R w H a ns hlen E I
def Kq(K:dV)(ts:List c_):Bool:=cf.all λy=>match kS K y with
 |some (c,Q)=>W.codeHdIn K c Q && ts.contains Q
 |none=>b_
theorem Me{K:O'->dV}{e:∀P,as=(K P).map (·.1)}{w:fc}(Z:Kq (K w.params) ts=b_)(Y:(W.kmHook K as e ts).says w h):
  ∀y∈cf,∀c Q,kS (K w.params) y=ar (c,Q)->Q_ h c Q/\h.get? Q=ar (x' #[]):=λy U c Q X=>by
 have:=Nx.mp Z y U;rw[X]at this;simp only[j_]at this;exact⟨W.codeHd_of_K (W.km_in_of Y) this.1,W.km_tabs_of Y Q (List.contains_iff_mem.mp this.2)⟩
def zM(K:dV):Bool:=cf.all λx=>cf.all λy=>match kS K x,kS K y with
 |some (_,P),ar (_,Q)=>P !=Q||x==y
 |_,_=>b_
theorem yn{K:dV}(h:zM K=b_):kP K:=λx Y y Z c d P e1 e2=>by have:=Nx.mp (Nx.mp h x Y) y Z;rw[e1,e2]at this;simpa using this
def mU(N n:Nat)(m:cY):List D->M D:=pU N n (λρ=>lV (m ρ))
section
variable {P:er}{w:fc}{K:dV}{mg:Str->Option a_}{base:gd}
theorem cQ{x qual:Str}{X:oo}{f:c_}{T:gg}{N U:List Str}{k:Nat}{m:cY}{S:List D->M D}(F:Fun K x qual X f T)(R:mg x=ar (.ref f))(I:Binds K T U [])(Q:FnScope N U (ao X))(L:S=mU N.length U.length m)
  (Y:∀(Z:a_) (A:hS) (outer:List Env) (s:dn) (H:Hp) (E:XK),Room k (A.deeper (y3 qual (ao X) s.heap.objs.size f Z))->
   um (lR (nN P w) P w K mg base N qual (ao X) f Z A outer s H E).nox eA (dJ X) m):DefX P w K mg base (k+1) x U S:=
 ⟨f,T,by rw[L];exact Iw F Q λZ A outer s H O J _ _=>wx (uN (Y Z A outer s H O J)),R,F.kp,I⟩
theorem lJ{x qual:Str}{X:oo}{f:c_}{T:gg}{N U:List Str}{k:Nat}{m:cY}{S:List D->M D}(F:Fun K x qual X f T)(R:mg x=ar (.ref f))(I:Binds K T U [])(Q:FnScope N U (ao X))(L:S=pU N.length U.length m)
  (Y:∀(Z:a_) (A:hS) (outer:List Env) (s:dn) (H:Hp) (E:XK),Room k (A.deeper (y3 qual (ao X) s.heap.objs.size f Z))->
   um (lR (nN P w) P w K mg base N qual (ao X) f Z A outer s H E) (Bu K E) (dJ X) m):DefX P w K mg base (k+1) x U S:=
 ⟨f,T,by rw[L];exact Iw F Q λZ A outer s H O J _ _=>Y Z A outer s H O J,R,F.kp,I⟩
theorem FB{x y qual:Str}{f c T:c_}{R:a_}{od:Option c_}{U:Array (Option a_)}{kV X L Y ct J:a_}{O:Option c_}{S:J'}{Q:List oo}{I:Scope}(H:rb K gc x=ar (ar (.ref f)))
  (N:K.lookup f=ar ⟨R,od,.func (y2 y qual S Q I J kV X L O Y ct),U⟩) (Z:kS K x=ar (c,T)):Y= .ref c:=by
 unfold kS at Z;rw[H]at Z;dsimp only at Z;rw[N]at Z;dsimp only at Z;cases Y with
 | ref c2=>
  dsimp only at Z;split at Z
  ·split at Z
   ·cases Z;rfl
   ·cases Z
  ·cases Z
 |_=>cases Z
theorem DB{x qual:Str}{Y:oo}{f:c_}{S:gg}{N T:List Str}{k:Nat}{m:cY}{R:List D->M D}{c Q:c_}(F:Fun K x qual Y f S)(L:FnScope N T (ao Y))(I:R=mU N.length T.length m)(y:rb K gc x=ar (ar (.ref f)))(J:kS K x=ar (c,Q))
  (Z:∀(A:hS) (outer:List Env) (s:dn) (H:Hp) (E:XK),Room k (A.deeper (y3 qual (ao Y) s.heap.objs.size f (.ref c)))->
   um (lR (nN P w) P w K mg base N qual (ao Y) f (.ref c) A outer s H E).nox eA (dJ Y) m):FnOk P w K mg base (nN P w) (k+1) f S T (Dt K R):=by
 rw[I];refine Iw F L λX A outer s H C z _ U=>?_;obtain⟨v,od,O,kV,doc,pm,an,ct,G⟩:=U;have B:X= .ref c:=FB y G J;subst B;exact wx (uN (Z A outer s H C z))
theorem IA{x qual:Str}{O:oo}{f:c_}{B:gg}{N Y:List Str}{k k0:Nat}{m:D->M D->cY}{R:D->M D->List D->M D}(F:Fun K x qual O f B)(q:mg x=ar (.ref f))(t:Binds K B Y [])(n:FnScope N Y (ao O))(v:R=λI c es=>pU N.length Y.length (m I c) (I::es))
  (U:∀(base:gd),Mod K mg base->∀(a X:c_) (ql:Str) (ds:List D) (vs:List V) (mm:TM),LamOk P w K mg base k0 a (Jy K X ql ds vs mm)->∀(Z:a_) (A:hS) (outer:List Env) (s:dn) (H:Hp) (E:XK),Room k (A.deeper (y3 qual (ao O) s.heap.objs.size f Z))->
   um (lR (nN P w) P w K mg base N qual (ao O) f Z A outer s H E).nox eA (dJ O) (m (.fn a X ql ds vs) (mm (ds.map ar)))):RefX P w K mg (k+1) k0 x Y R:=by
 refine⟨f,B,q,F.kp,t,λbase G a X ql ds vs mm L=>?_⟩;rw[v];obtain⟨g,od,kV,doc,pm,an,Z,ct,l,rfl,j,z⟩:=F.ex;have key:∀{us:List V} {H:Hp} {Q:VK} {T:XK},zI K (λI c es=>pU N.length Y.length (m I c) (I::es)) a X ql ds vs mm us H Q T->us.length=Y.length/\∃ ι S es,Rep K ι H S/\RelDs K ι H es us/\cont K eA (do let o<-m (.fn a X ql ds vs) (mm (ds.map ar)) (es.map ar++eb (N.length - Y.length) none);outD o) ι S H (kB K Q):=by
  rintro us H Q T ⟨ι,S,rest,es,rfl,rep,hc',rds,res,c⟩;have y:RelDs K ι H (.fn a X ql ds vs::es) (.ref a::rest):=.cons (.fn hc' rds) res;unfold pU at c;dsimp only at c;by_cases J:(D.fn a X ql ds vs::es).length=Y.length
  ·rw[if_pos J]at c;exact⟨by rw[<-y.length];exact J,ι,S,_,rep,y,c⟩
  ·rw[if_neg J]at c;exact(ag c).elim
 refine GD j z n (λus H Q T h=>(key h).1) λA outer s H us Q T u h=>⟨_,uN (U base G a X ql ds vs mm L Z A outer s H T u),?_⟩;obtain⟨J,ι,S,es,rep,r,c⟩:=key h;refine⟨ι,S,_,rep,?_,ay (aj c) λo p S1 e e1 rep1 C=>?_⟩
 ·have:=RelE.start r (N.length - Y.length);unfold L2.start;rw[J];exact this
 ·cases o with
  |nx ρ=>exact λi _=>aq C .refl rep1 _ .non
  |ret d=>exact aq C .refl rep1
  |bk ρ=>exact(ag C).elim
  |ct ρ=>exact(ag C).elim
end
end S7
section
namespace S4
open PySem PySem.Spec PyProof.Rows
section
variable {prog:er}{w:fc}{A:hS}{E:a_->dn->Prop}{s:dn}
end
end S4
namespace S3
open PySem PySem.Spec PyProof.Rows L2 S4
section
variable {X:Cx}{E:XD}{e:Expr}{m:TM}{pos:Pos}
end
end S3
end
namespace S4
open PySem PySem.Spec PyProof.Rows L2 S3
def FC(l1 l2:c_):It:=⟨λi H=>∃va vb,Rd H l1 (.lst va)/\Rd H l2 (.lst vb)/\i<va.length/\i<vb.length,
 λi H x H'=>∃va vb p u v,Rd H l1 (.lst va)/\Rd H l2 (.lst vb)/\H p=none/\va[i]? =ar u/\vb[i]? =ar v/\x= .ref p/\H'=upd H p (.tup [u,v]),λi H=>∃va vb,Rd H l1 (.lst va)/\Rd H l2 (.lst vb)/\(va.length<=i\/vb.length<=i)⟩
theorem By{P:er}{w:fc}{K:dV}{B:List Expr}{x1}{tp:Pos}{z TI TO Q O l1 l2:c_}(D:R7 z TI TO Q O l1 l2):
  Turn P w K (.Tuple B x1 tp) (FC l1 l2) [z,TI,TO,Q,O] z
   (λi h=>LI h z TI TO .none/\p_ h TI (.ref Q) (.ref O)/\(∃a b,p_ h TO a b)/\h.IsListIter Q l1 i/\h.IsListIter O l2 i) where
 mem:=by simp
 obj:=λi h st b Z=>by
  obtain⟨S,Y,⟨a,c,U⟩,⟨o1,e1,c1,d1⟩,⟨o2,e2,c2,d2⟩⟩:=st;simp only[f_,eK,or_false]at Z;rcases Z with rfl|rfl|rfl|rfl|rfl
  ·exact⟨_,S,λv z=>by cases z⟩
  ·exact⟨_,Y,λv z=>by cases z⟩
  ·exact⟨_,U,λv z=>by cases z⟩
  ·exact⟨_,e1,λv z=>by rw[d1]at z;cases z⟩
  ·exact⟨_,e2,λv z=>by rw[d2]at z;cases z⟩
 keep:=λi h h' st k=>by obtain⟨S,Y,⟨a,c,U⟩,J,G⟩:=st;exact⟨k z (by simp) _ S,k TI (by simp) _ Y,⟨a,c,k TO (by simp) _ U⟩,J.at λo e=>k Q (by simp) o e,G.at λo e=>k O (by simp) o e⟩
 item:=by
  intro X hP hw j hc i pins s σ H E I hf st hg;subst hP hw j;obtain⟨S,Y,⟨a,c,U⟩,J,G⟩:=st;obtain⟨q,t,p,r,ga,gb⟩:=hg;obtain⟨C,L,f,_⟩:=I.list (.inl p);obtain⟨A,N,p2,_⟩:=I.list (.inl r);obtain⟨u1,m,b2⟩:=L.get (MY ga);obtain⟨u2,l,b0⟩:=N.get (MY gb);refine wpAny_pyNext_zip_item D S Y U J G f.isList p2.isList (x:=u1) (y:=u2) (by simpa using m) (by simpa using l) λh' a1 a2 a3 a4 a5 a6 n=>?_;have b6:H s.heap.objs.size=none:=I.hok.fresh (MV _);have lt:∀{c o},s.heap.get? c=ar o->s.heap.objs.size≠c:=λe=>OF (MZ e);refine⟨_,rfl,QA a1 λR d T=>?_⟩;have F:p_ R TI (.ref Q) (.ref O):=T.extBut _ _ D.TIz (n _ _ D.TIz D.TITO D.TIi1 D.TIi2 Y);have kk:∀b o,b∉[z,TI,TO,Q,O]->s.heap.get? b=ar o->R.get? b=ar o:=λb o Z e=>by simp only[f_,eK,or_false,not_or]at Z;exact T.extBut _ _ Z.1 (n b o Z.1 Z.2.2.1 Z.2.2.2.1 Z.2.2.2.2 e)
  have u:p_ R s.heap.objs.size u1 u2:=T.extBut _ _ (lt S) a5;have I2:L2.Inv X pins σ (upd H s.heap.objs.size (.tup [q[i],t[i]])) {s with heap:=R,toks:=s.toks}:=zA (o:=.tup [q[i],t[i]]) I hf kk (MV _) ⟨⟨by show 2<=sizeLine;decide,_,u,rfl⟩,[u1,u2],.cons b2 (.cons b0 .nil),_,u,rfl,_,rfl⟩;refine⟨.ref s.heap.objs.size,_,I2,rfl,
   ⟨q,t,_,_,_,p,r,b6,MY ga,MY gb,rfl,rfl⟩,⟨d,F,⟨_,_,T.extBut _ _ D.TOz a2⟩,a3.at λo e=>T.extBut _ _ D.i1z e,a4.at λo e=>T.extBut _ _ D.i2z e⟩,λb Z=>?_⟩
  obtain⟨ob,ho,_⟩:∃ob,s.heap.get? b=ar ob/\True:=by
   simp only[f_,eK,or_false]at Z;rcases Z with rfl|rfl|rfl|rfl|rfl
   ·exact⟨_,S,trivial⟩
   ·exact⟨_,Y,trivial⟩
   ·exact⟨_,U,trivial⟩
   ·obtain⟨o,e,_⟩:=J;exact⟨_,e,trivial⟩
   ·obtain⟨o,e,_⟩:=G;exact⟨_,e,trivial⟩
  rw[aN (Ng (MZ ho))];exact(hf b Z).1
 done:=by intro X hP hw j hc i pins s σ H E I hf st hg;subst hP hw j;obtain⟨S,Y,⟨a,c,U⟩,J,G⟩:=st;obtain⟨q,t,p,r,gs⟩:=hg;obtain⟨C,L,f,_⟩:=I.list (.inl p);obtain⟨A,N,p2,_⟩:=I.list (.inl r);have d3:=L.length;have e0:=N.length;refine wpAny_pyNext_zip_end (I.ok.hd hc) D S Y U J G f.isList p2.isList (gs.imp (λg=>by simp;omega) λg=>by simp;omega) λh' n=>⟨rfl,zz (t':=s.toks) I hf λb o Z e=>?_⟩;simp only[f_,eK,or_false,not_or]at Z;exact n b o Z.1 Z.2.2.1 Z.2.2.2.1 Z.2.2.2.2 e
 self:=λ_ _ _ _ _ st h=>P6 st.1 h
theorem FD{X:Cx}{L:List Expr}{x1}{tp p pos:Pos}{es:List Expr}{e:Expr}{z:TA}(x:Gl X "zip")(w:X.mg "zip"=none)(y:PA X (e::es) z)
  (v:d_ (e::es) X.env=(dt,hJ e X.env)::d_ es X.env:=by rfl) (G:(r_ pos (d_ es X.env)).any (·.1)=false:=by rfl):
  PI X (.Tuple L x1 tp) (.Call (.Name "zip" p) (e::es) [] pos) (λσ H R=>z σ H λxs Z=>(∃a b va vb,xs=[.ref a,.ref b]/\Rd Z a (.lst va)/\Rd Z b (.lst vb)/\R (FC a b) Z)\/
   (∃a b va vb,xs=[.ref a,.ref b]/\Z a=ar (.tup va)/\Z b=ar (.tup vb)/\
   R ⟨λi H=>(B2 va vb).go i H/\(H a=ar (.tup va)/\H b=ar (.tup vb)),(B2 va vb).yld,λi H=>(B2 va vb).stop i H/\(H a=ar (.tup va)/\H b=ar (.tup vb))⟩ Z)):=by
 intro pins s σ H R I h;refine Call_ (oK I x w (show k_ "zip"=ar (.type "zip") by decide+kernel) (OA (eJ (y pos pins s σ H _ I h) λus s1 ⟨vs,Z,I1,r1,q1⟩=>?_) v G) (by decide) (by decide));have fresh:∀c∈[s1.heap.objs.size+4,s1.heap.objs.size+2,s1.heap.objs.size+3,s1.heap.objs.size,s1.heap.objs.size+1],s1.heap.objs.size<=c:=λc T=>by simp only[f_,eK,or_false]at T;omega
 rcases q1 with⟨a,b,va,vb,rfl,hA,hB,q⟩|⟨a,b,va,vb,rfl,hA,hB,q⟩
 ·obtain⟨u,F,rfl,B,S⟩:=vals2 r1;cases (show u=eo a from B);cases (show F=eo b from S);obtain⟨N,E,K,_⟩:=I1.list (.inl hA);obtain⟨P,A,J,_⟩:=I1.list (.inl hB);have a1:a<s1.heap.objs.size:=by obtain⟨_,e,_⟩:=K.isList;exact MZ e
  have a2:b<s1.heap.objs.size:=by obtain⟨_,e,_⟩:=J.isList;exact MZ e
  refine call_zip_2 K.isList J.isList λh' O W Y Q U _ C=>P6 O ?_;exact⟨s1.heap.objs.size+4,_,_,_,Z,rfl,I1.kept (t':=s1.toks) C,By (zipApart_new a1 a2),⟨O,W,⟨_,_,Y⟩,Q,U⟩,λc T=>I1.fpOk (fresh c T) (I1.hok.fresh (fresh c T)),q⟩
 ·obtain⟨u,F,rfl,B,S⟩:=vals2 r1;cases (show u=eo a from B);cases (show F=eo b from S);obtain⟨N,E,K,_⟩:=I1.tuple (.of hA);obtain⟨P,A,J,_⟩:=I1.tuple (.of hB);have a1:a<s1.heap.objs.size:=by obtain⟨_,e,_⟩:=K;exact MZ e
  have a2:b<s1.heap.objs.size:=by obtain⟨_,e,_⟩:=J;exact MZ e
  refine Bo K J λh' O W Y Q U C=>P6 O ?_;exact⟨s1.heap.objs.size+4,_,_,_,Z,rfl,I1.kept (t':=s1.toks) C,Dk (zipApart_new a1 a2) (λH=>H a=ar (.tup va)/\H b=ar (.tup vb)) (λ_=>.rfl),⟨O,W,⟨_,_,Y⟩,Q,U⟩,λc T=>I1.fpOk (fresh c T) (I1.hok.fresh (fresh c T)),q⟩
theorem Rd.lst_inj(h:Rd H a (.lst xs))(h':Rd H a (.lst ys)):xs=ys:=by rcases h with h|⟨o,h⟩<;>rcases h' with h'|⟨o',h'⟩<;>(rw[h]at h';cases h'<;>rfl)
def zL:D->M (List D×Option (Nat×List D))
 | .lst k=>do let xs<-getL k;aC (xs,ar (k,xs))
 | .fz xs=>aC (xs,none)
 |_=>M.fail
def FE:Option (Nat×List D)->Option (Nat×List D)->Chk
 |some (k,xs),ar (j,ys)=>.two k j xs ys
 |some (k,xs),none=>.two k k xs xs
 |none,ar (j,ys)=>.two j j ys ys
 |none,none=>.none
def tN:List D->M Iter
 |[.tup xs,.tup ys]=>aC ⟨(xs.zip ys).map λp=>.tup [p.1,p.2],.none⟩
 |[a,b]=>do let x<-zL a;let y<-zL b;aC ⟨(x.1.zip y.1).map λp=>.tup [p.1,p.2],FE x.2 y.2⟩
 |_=>M.fail
structure ZOk(K:dV)(x:List D×Option (Nat×List D))(a:c_)(ι:List c_)(H:Hp):Prop where
 ok:∀ ι2 H2 S2,ExtN ι H ι2 H2->Rep K ι2 H2 S2->(∀k xs,x.2=ar (k,xs)->S2[k]? =ar xs)->∃va,Rd H2 a (.lst va)/\RelDs K ι2 H2 x.1 va
theorem DC{K:dV}{E:XD}{ι:List c_}{S:av}{H:Hp}{d:D}{v:V}{α:Type}{f:List D×Option (Nat×List D)->M α}{Q:α->List c_->av->Hp->Prop}(Z:Rep K ι H S)(r:RelD K ι H d v)(c:cont K E (zL d>>=f) ι S H Q):
  ∃a x X,v= .ref a/\Rd H a (.lst X)/\ZOk K x a ι H/\cont K E (f x) ι S H Q:=by
 cases d with
 | lst k=>
  obtain⟨a,rfl,Y⟩:=r.lst_inv;have J:cont K E (getL k>>=λxs=>aC (xs,ar (k,xs))>>=f) ι S H Q:=by rw[<-fN];exact c
  obtain⟨xs,vs,I,N,R,T⟩:=bx J Z Y;rw[ah]at T;refine⟨a,(xs,ar (k,xs)),vs,rfl,.inl N,⟨λU P S2 e rep2 ok=>?_⟩,T⟩;obtain⟨X,L,O⟩:=rep2.get k a xs (e.at Y) (ok k xs rfl);exact⟨X,.inl L,O⟩
 |fz xs=>
  obtain⟨a,o,vs,rfl,Y,R⟩:=r.fz_inv;refine⟨a,(xs,none),vs,rfl,.inr ⟨o,Y⟩,⟨λU P S2 e rep2 ok=>?_⟩,aq (aj c) .refl Z⟩;exact⟨vs,.inr ⟨o,(e.oth _ _ Y (Z.notIn Y (by intro _ z;cases z)) (by intro _ z;cases z) (by intro _ z;cases z)).1⟩,R.laterN Z e⟩
 |_=>exact(ag (aj c)).elim
theorem FF(h:Iter.okS ⟨items,FE x y⟩ S):(∀k xs,x=ar (k,xs)->S[k]? =ar xs)/\∀k xs,y=ar (k,xs)->S[k]? =ar xs:=by
 match x,y,h with
 |some (k,xs),ar (j,ys),h=>exact⟨λ_ _ e=>(by cases e;exact h.1),λ_ _ e=>(by cases e;exact h.2)⟩
 |some (k,xs),none,h=>exact⟨λ_ _ e=>(by cases e;exact h.1),λ_ _ e=>(by cases e)⟩
 |none,ar (j,ys),h=>exact⟨λ_ _ e=>(by cases e),λ_ _ e=>(by cases e;exact h.1)⟩
 |none,none,h=>exact⟨λ_ _ e=>(by cases e),λ_ _ e=>(by cases e)⟩
theorem wC{K:dV}{ι:List c_}{H:Hp}{a b:c_}{x y:List D×Option (Nat×List D)}(G:ZOk K x a ι H)(C:ZOk K y b ι H):
  kH K ⟨(x.1.zip y.1).map λp=>.tup [p.1,p.2],FE x.2 y.2⟩ (FC a b) ι H:=by
 intro Z S S2 e rep2 ok i;obtain⟨Q,P⟩:=FF ok;obtain⟨O,Y,U⟩:=G.ok Z S S2 e rep2 Q;obtain⟨N,X,T⟩:=C.ok Z S S2 e rep2 P;have B:=U.length;have t:=T.length;refine⟨λd hd=>?_,λhlen=>?_⟩
 ·obtain⟨A,r,J,L,rfl⟩:=zip_get hd;have w:=(MX.mp J).1;have s:=(MX.mp L).1;refine⟨⟨O,N,Y,X,by omega,by omega⟩,?_⟩;rintro v H3 ⟨va',vb',p,u,E,gA,gB,hp,g1,g2,rfl,rfl⟩;cases Rd.lst_inj Y gA;cases Rd.lst_inj X gB;obtain⟨v1,e1,F⟩:=U.get' J;obtain⟨v2,e2,I⟩:=T.get' L;obtain rfl:v1=u:=Nw (e1.symm.trans g1);obtain rfl:v2=E:=Nw (e2.symm.trans g2);have R:Ext Z S Z (upd S p (.tup [v1,v2])):=gK hp;exact⟨R,i5 rep2 hp,.tup bo (.cons (F.later rep2 R) (.cons (I.later rep2 R) .nil))⟩
 ·have q:min x.1.length y.1.length<=i:=by simpa using hlen
  refine⟨O,N,Y,X,?_⟩;rcases Nat.le_total x.1.length y.1.length with z|z
  ·exact .inl (by omega)
  ·exact .inr (by omega)
theorem zN{X:Cx}{x1}(q:X.mg "zip"=none)(z:SE X E a m)(u:SE X E b n)(t:Gl X "zip":=by rfl)
  (hs:d_ [a,b] X.env=[(dt,hJ a X.env),(dt,hJ b X.env)]:=by rfl) (W:d_ [b] X.env=[(dt,hJ b X.env)]:=by rfl):
  SI X E (.Tuple elts x1 tp) (.Call (.Name "zip" p) [a,b] [] pos) (λρ=>do let ds<-(do let x<-m ρ;let xs<-(do let y<-n ρ;let ys<-aC [];aC (y::ys));aC (x::xs));tN ds):=by
 intro pins s σ H R I h;have C:PI X (.Tuple elts x1 tp) (.Call (.Name "zip" p) [a,b] [] pos) (λσ H R=>L3 X.K E (ae m (ae n ak)) σ H λxs U=>(∃a b Z Y,xs=[.ref a,.ref b]/\Rd U a (.lst Z)/\Rd U b (.lst Y)/\R (FC a b) U)\/
   (∃a b Z Y,xs=[.ref a,.ref b]/\U a=ar (.tup Z)/\U b=ar (.tup Y)/\
   R ⟨λi H=>(B2 Z Y).go i H/\(H a=ar (.tup Z)/\H b=ar (.tup Y)),(B2 Z Y).yld,λi H=>(B2 Z Y).stop i H/\(H a=ar (.tup Z)/\H b=ar (.tup Y))⟩ U)):=
  FD t q (af z (af u ai (by rw[W];rfl)) (by rw[hs,W])) (by rw[hs,W]) (by rw[W];rfl)
 refine C pins s σ H R I ?_;obtain⟨ι,S,ρ,rep,re,c⟩:=h;refine⟨ι,S,ρ,rep,re,ay (aj c) λds o S1 U e1 rep1 T vs r=>?_⟩;unfold tN at T;split at T
 ·next xs ys=>
  obtain⟨v1,ws,rfl,G,O⟩:=r.cons_inv;obtain⟨v2,J,rfl,L,N⟩:=O.cons_inv;cases N.nil_inv;obtain⟨B,Z,rfl,Q,l⟩:=G.tup_inv;obtain⟨F,Y,rfl,P,w⟩:=L.tup_inv;exact .inr ⟨B,F,Z,Y,rfl,Q,P,aq T .refl rep1 _ (yg rep1 Q P l w)⟩
 ·next a b _=>
  obtain⟨v1,ws,rfl,G,O⟩:=r.cons_inv;obtain⟨v2,J,rfl,L,N⟩:=O.cons_inv;cases N.nil_inv;obtain⟨B,x,Z,rfl,Q,v,A⟩:=DC rep1 G T;obtain⟨F,y,Y,rfl,P,j,k⟩:=DC rep1 L A;exact .inl ⟨B,F,Z,Y,rfl,Q,P,aq k .refl rep1 _ (wC v j)⟩
 ·exact(ag T).elim
abbrev pK(m n:TM):aI->M Iter:=λρ=>do let ds<-ae m (ae n ak) ρ;tN ds
end S4
namespace S3
open PySem PySem.Spec PyProof.Rows L2 S4
def pe(f:Expr->Option D):List Expr->Option (List D)
 |[]=>ar []
 |e::es=>match f e,pe f es with
  |some d,ar ds=>ar (d::ds)
  |_,_=>none
def litE:Nat->Expr->Option D
 |_,.Constant .none _ _=>ar .non
 |_,.Constant (.bool b) _ _=>ar (.bl b)
 |_,.Constant (.int i) _ _=>ar (.int i)
 |_,.Constant (.str x) _ _=>ar (.str x)
 |_,.UnaryOp .USub (.Constant (.int i) _ _) _=>ar (.int (-i))
 |n+1,.Tuple es _ _=>match pe (litE n) es with
  |some ds=>if ds.length<=100 then ar (.tup ds)else none
  |none=>none
 |_,_=>none
section
variable {X:Cx}{E:XD}
theorem SE.mono{m Z:TM}(h:SE X E e m)(k:∀ ρ S r,Z ρ S=ar r->m ρ S=ar r):SE X E e Z:=PE.imp h λσ H Q q=>by obtain⟨ι,S,ρ,rep,re,r,Y,e,c⟩:=q;exact⟨ι,S,ρ,rep,re,r,Y,k ρ S _ e,c⟩
theorem DD(h:litE n e=ar d)(es:List Expr)(env:Env):d_ (e::es) env=(dt,hJ e env)::d_ es env:=by
 cases e with
 |Constant c j p=>exact aw
 |UnaryOp o a p=>exact mI
 |Tuple l k p=>exact bh
 |_=>cases n<;>cases h
theorem zO(Z:∀e d,litE n e=ar d->SE X E e (mK d)):∀{es:List Expr} {ds:List D},pe (litE n) es=ar ds->SA X E es (λ_=>aC ds)
 |[],ds,h=>by cases h;exact ai
 | e::es,ds,h=>by
  unfold pe at h;cases q:litE n e with
  |none=>rw[q]at h;cases h
  | some d=>
   rw[q]at h;cases q2:pe (litE n) es with
   |none=>rw[q2]at h;cases h
   |some ds'=>
    rw[q2]at h;cases h;exact af (Z e d q) (zO Z q2) (DD q _ _)
theorem IB:∀(n:Nat) (e:Expr) (d:D),litE n e=ar d->SE X E e (mK d):=by
 intro n
 induction n with
 |zero=>
  intro e d h;unfold litE at h;split at h
  ·cases h;exact kD
  ·cases h;exact ik
  ·cases h;exact aB
  ·cases h;exact kE
  ·cases h;exact uL
  ·next h'=>exact absurd h' (by omega)
  ·cases h
 | succ n ih=>
  intro e d h;unfold litE at h;split at h
  ·cases h;exact kD
  ·cases h;exact ik
  ·cases h;exact aB
  ·cases h;exact kE
  ·cases h;exact uL
  ·next m es k p hm=>
   cases hm;cases q:pe (litE n) es with
   |none=>rw[q]at h;cases h
   | some ds=>
    rw[q]at h;simp only at h;split at h
    ·next hl=>
     cases h;refine(dO (zO ih q)).mono λρ S r Z=>?_;have e:(do let ds'<-(aC ds:M (List D));bH ds')=(aC (.tup ds):M D):=by show bH ds=_;unfold bH;rw[if_pos (by unfold lim;omega)]
     rw[e];exact Z
    ·cases h
  ·cases h
theorem c9(n:Nat)(h:litE n e=ar d):SE X E e (mK d):=IB n e d h
end
def aA(m:TM)(ms:B3):B3:=ae m ms
section
variable {X:Cx}{E:XD}
theorem aF(Y:SE X E e m)(Z:SA X E es ms)(hs:d_ (e::es) X.env=(dt,hJ e X.env)::d_ es X.env):SA X E (e::es) (aA m ms):=af Y Z hs
theorem iy{l p t n}:la (.List l p) t n env=aC false:=rfl
theorem dU{a o b p t n}:la (.BinOp a o b p) t n env=aC false:=rfl
theorem fE{f l k p t n}:la (.Call f l k p) t n env=aC false:=rfl
theorem iz{a b p t n}:la (.Subscript a b p) t n env=aC false:=rfl
theorem wD{a b p t n}:la (.Constant a b p) t n env=aC false:=rfl
end
end S3
namespace S7
open PySem PySem.Spec PyProof.Rows L2 S3
theorem nQ{a b p}:d_ (.Attribute a b p::es) env=(dt,hJ (.Attribute a b p) env)::d_ es env:=rfl
abbrev FG(m:TM):TM:=λρ=>lV (m ρ)
abbrev Kr(m:cY):cY:=λρ=>lV (m ρ)
abbrev Ks:TM:=λ_=>M.fail
abbrev dW(m:TM)(y:Str):TM:=λρ=>do let x<-m ρ;wy (λn=>c8 n y) x
abbrev DE(m:TM):TM:=λρ=>do let x<-m ρ;wy (λ_=>b_) x
abbrev uR(x:Str)(ms:aI->M (List D)):cY:=λρ=>do let ds<-ms ρ;if ds.length<=lim then M.raise (.exc x [])else M.fail
end S7
namespace S3
open PySem PySem.Spec PyProof.Rows L2
mutual
def fi(n:Nat):D->Bool
 | .lst k=>decide (k<n)
 | .tup ds=>bF n ds
 | .ro ds=>bF n ds
 | .fz ds=>bF n ds
 | .fn _ _ _ ds _=>bF n ds
 | .exc _ ds=>bF n ds
 | .non=>b_
 | .bl _=>b_
 | .int _=>b_
 | .str _=>b_
 | .emp=>b_
def bF(n:Nat):List D->Bool
 |[]=>b_
 |d::ds=>fi n d && bF n ds
end
mutual
def jm(n:Nat)(g:Nat->Option (List D)):D->Option D
 | .lst k=>if k<n then ar (.lst k)else (g k).map .fz
 | .tup ds=>(gW n g ds).map .tup
 | .ro ds=>(gW n g ds).map .ro
 | .fz ds=>(gW n g ds).map .fz
 | .fn a c q ds vs=>(gW n g ds).map λes=>.fn a c q es vs
 | .exc x ds=>(gW n g ds).map λes=>.exc x es
 | .non=>ar .non
 | .bl b=>ar (.bl b)
 | .int i=>ar (.int i)
 | .str x=>ar (.str x)
 | .emp=>ar .emp
def gW(n:Nat)(g:Nat->Option (List D)):List D->Option (List D)
 |[]=>ar []
 |d::ds=>match jm n g d,gW n g ds with
  |some u,ar us=>ar (u::us)
  |_,_=>none
end
def xw(S:av)(n:Nat):Nat->Nat->Option (List D)
 |0,_=>none
 |f+1,k=>(S[k]?).bind λxs=>gW n (xw S n f) xs
def pL(S S':av):Prop:=∀k xs,k<S.length->S'[k]? =ar xs->S[k]? =ar xs\/bF S.length xs=b_
open Classical in
def iD(m:M D):M D:=λS=>match m S with
 | some (.ok d,S')=>if S'.length<=S.length then ar (.ok d,S')else
   if pL S S' then (match jm S.length (xw S' S.length 60) d with
    |some u=>ar (.ok u,S'.take S.length)
    |none=>none)else none
 |r=>r
abbrev aL(m:TM):TM:=λρ=>iD (m ρ)
section
variable {K:dV}{ι ι':List c_}{H H':Hp}{S S':av}
mutual
theorem RelD.cl:∀{d:D} {v:V},RelD K ι H d v->fi ι.length d=b_
 |_,_,.non=>rfl
 |_,_,.bl b=>rfl
 |_,_,.int i=>rfl
 |_,_,.str x=>rfl
 |_,_,.tup h hs=>by unfold fi;exact RelDs.cl hs
 |_,_,.lst h=>by unfold fi;exact Nb (MX.mp h).1
 |_,_,.ro h hs=>by unfold fi;exact RelDs.cl hs
 |_,_,.emp h=>rfl
 |_,_,.fn h hs=>by unfold fi;exact RelDs.cl hs
 |_,_,.exc n h=>rfl
 |_,_,.excF n h h2 hn hs=>by unfold fi;exact RelDs.cl hs
 |_,_,.fz h hs=>by unfold fi;exact RelDs.cl hs
theorem RelDs.cl:∀{ds:List D} {vs:List V},RelDs K ι H ds vs->bF ι.length ds=b_
 |_,_,.nil=>rfl
 |_,_,.cons h hs=>by unfold bF;rw[RelD.cl h,RelDs.cl hs];rfl
end
def lZ(P:List c_)(os:c_->Obj)(H:Hp):Hp:=λb=>match H b with
 |some (.lst vs)=>if b∈P then ar (.frz (os b) (.lst vs))else ar (.lst vs)
 |x=>x
theorem DF{P:List c_}{os:c_->Obj}{b:c_}(h:H b=none):lZ P os H b=none:=by unfold lZ;rw[h]
theorem bP{P:List c_}{os:c_->Obj}{b:c_}{o:HO}(h:H b=ar o)(Z:∀vs,o≠ .lst vs):lZ P os H b=ar o:=by
 unfold lZ;rw[h];cases o with
 |lst vs=>exact absurd rfl (Z vs)
 |_=>rfl
theorem qj{P:List c_}{os:c_->Obj}{b:c_}(h:b∉P):lZ P os H b=H b:=by
 unfold lZ;split
 ·next q=>rw[if_neg h,q]
 ·rfl
theorem yo{os:c_->Obj}(h:b∈P)(e:H b=ar (.lst vs)):lZ P os H b=ar (.frz (os b) (.lst vs)):=by unfold lZ;rw[e];exact if_pos h
theorem wF(Y:ι.Nodup)(h:ι[k]? =ar a):a∈ι.drop n↔n<=k:=by
 constructor
 ·intro hm;obtain⟨j,Z⟩:=O4.mp hm;rw[Qv]at Z;have:=qG Y h Z;omega
 ·intro X;refine O4.mpr ⟨k - n,?_⟩;rw[Qv,show n+(k - n)=k by omega];exact h
mutual
theorem RelD.down{n:Nat}{os:c_->Obj}:∀{d:D} {v:V},RelD K ι H d v->fi n d=b_->RelD K (ι.take n) (lZ (ι.drop n) os H) d v
 |_,_,.non,_=>.non
 |_,_,.bl b,_=>.bl b
 |_,_,.int i,_=>.int i
 |_,_,.str x,_=>.str x
 |_,_,.tup h hs,c=>.tup (bP h (by intro _ z;cases z)) (RelDs.down hs (by unfold fi at c;exact c))
 |_,_,.lst h,c=>.lst (by unfold fi at c;rw[PF,if_pos (NY c)];exact h)
 |_,_,.ro h hs,c=>.ro (h.imp (λ⟨o,h⟩=>⟨o,bP h (by intro _ z;cases z)⟩) λz=>z) (RelDs.down hs (by unfold fi at c;exact c))
 |_,_,.emp h,_=>.emp (bP h (by intro _ z;cases z))
 |_,_,.fn h hs,c=>.fn (bP h (by intro _ z;cases z)) (RelDs.down hs (by unfold fi at c;exact c))
 |_,_,.exc n h,_=>.exc n (bP h (by intro _ z;cases z))
 |_,_,.excF n h h2 hn hs,c=>.excF n (bP h (by intro _ z;cases z)) (bP h2 (by intro _ z;cases z)) hn (RelDs.down hs (by unfold fi at c;exact c))
 |_,_,.fz h hs,c=>.fz (bP h (by intro _ z;cases z)) (RelDs.down hs (by unfold fi at c;exact c))
theorem RelDs.down{n:Nat}{os:c_->Obj}:∀{ds:List D} {vs:List V},RelDs K ι H ds vs->bF n ds=b_->RelDs K (ι.take n) (lZ (ι.drop n) os H) ds vs
 |_,_,.nil,_=>.nil
 |_,_,.cons h hs,c=>by
  unfold bF at c;rw[ND]at c;exact .cons (RelD.down h c.1) (RelDs.down hs c.2)
end
theorem jW{α Z:Type}{f:α->Z}{o:Option α}{b:Z}(h:o.map f=ar b):∃a,o=ar a/\f a=b:=by
 cases o with
 |none=>cases h
 |some a=>exact⟨a,rfl,Nw h⟩
theorem DG(h:gW n g (d::ds)=ar us):∃u us',us=u::us'/\jm n g d=ar u/\gW n g ds=ar us':=by
 unfold gW at h;split at h
 ·next u us' e1 e2=>cases h;exact⟨u,us',rfl,e1,e2⟩
 ·cases h
mutual
theorem yp{n:Nat}{os:c_->Obj}{g:Nat->Option (List D)}(Z:∀k us a,n<=k->g k=ar us->ι[k]? =ar a->∃vs,H a=ar (.lst vs)/\RelDs K (ι.take n) (lZ (ι.drop n) os H) us vs)(Y:ι.Nodup):
  ∀{d:D} {v:V},RelD K ι H d v->∀{u:D},jm n g d=ar u->RelD K (ι.take n) (lZ (ι.drop n) os H) u v
 |_,_,.non,u,e=>by unfold jm at e;cases e;exact .non
 |_,_,.bl b,u,e=>by unfold jm at e;cases e;exact .bl b
 |_,_,.int i,u,e=>by unfold jm at e;cases e;exact .int i
 |_,_,.str x,u,e=>by unfold jm at e;cases e;exact .str x
 |_,_,.tup h hs,u,e=>by
  unfold jm at e;obtain⟨es,e1,rfl⟩:=jW e;exact .tup (bP h (by intro _ z;cases z)) (jX Z Y hs e1)
 | _,_,@RelD.lst _ _ _ a k h,u,e=>by
  unfold jm at e;by_cases hk:k<n
  ·rw[if_pos hk]at e;cases e;exact .lst (by rw[PF,if_pos hk];exact h)
  ·rw[if_neg hk]at e;obtain⟨us,e1,rfl⟩:=jW e;obtain⟨vs,U,X⟩:=Z k us a (by omega) e1 h;exact .fz (yo ((wF Y h).mpr (by omega)) U) X
 |_,_,.ro h hs,u,e=>by
  unfold jm at e;obtain⟨es,e1,rfl⟩:=jW e;exact .ro (h.imp (λ⟨o,h⟩=>⟨o,bP h (by intro _ z;cases z)⟩) λz=>z) (jX Z Y hs e1)
 |_,_,.emp h,u,e=>by unfold jm at e;cases e;exact .emp (bP h (by intro _ z;cases z))
 |_,_,.fn h hs,u,e=>by
  unfold jm at e;obtain⟨es,e1,rfl⟩:=jW e;exact .fn (bP h (by intro _ z;cases z)) (jX Z Y hs e1)
 |_,_,.exc x h,u,e=>by
  unfold jm at e;obtain⟨es,e1,rfl⟩:=jW e;unfold gW at e1;cases e1;exact .exc x (bP h (by intro _ z;cases z))
 |_,_,.excF x h X hn hs,u,e=>by
  unfold jm at e;obtain⟨es,e1,rfl⟩:=jW e;exact .excF x (bP h (by intro _ z;cases z)) (bP X (by intro _ z;cases z)) hn (jX Z Y hs e1)
 |_,_,.fz h hs,u,e=>by
  unfold jm at e;obtain⟨es,e1,rfl⟩:=jW e;exact .fz (bP h (by intro _ z;cases z)) (jX Z Y hs e1)
theorem jX{n:Nat}{os:c_->Obj}{g:Nat->Option (List D)}(Z:∀k us a,n<=k->g k=ar us->ι[k]? =ar a->∃vs,H a=ar (.lst vs)/\RelDs K (ι.take n) (lZ (ι.drop n) os H) us vs)(Y:ι.Nodup):
  ∀{ds:List D} {vs:List V},RelDs K ι H ds vs->∀{us:List D},gW n g ds=ar us->RelDs K (ι.take n) (lZ (ι.drop n) os H) us vs
 |_,_,.nil,us,e=>by unfold gW at e;cases e;exact .nil
 |_,_,.cons h hs,us,e=>by
  obtain⟨u,X,rfl,e1,e2⟩:=DG e;exact .cons (yp Z Y h e1) (jX Z Y hs e2)
end
theorem zQ(Z:Rep K ι H S){n:Nat}{os:c_->Obj}:∀f k us a,n<=k->xw S n f k=ar us->ι[k]? =ar a->∃vs,H a=ar (.lst vs)/\RelDs K (ι.take n) (lZ (ι.drop n) os H) us vs:=by
 intro f
 induction f with
 |zero=>intro k us a _ e;cases e
 | succ f ih=>
  intro k us a T e U;unfold xw at e;cases z:S[k]? with
  |none=>rw[z]at e;cases e
  |some xs=>
   rw[z]at e;obtain⟨vs,Y,X⟩:=Z.get k a xs U z;exact⟨vs,Y,jX ih Z.nd X e⟩
theorem wG(Y:Rep K ι H S)(x:Ext ι H ι' H')(Z:Rep K ι' H' S')(N:pL S S')(os:c_->Obj):
  Ext ι H ι (lZ (ι'.drop ι.length) os H')/\Rep K ι (lZ (ι'.drop ι.length) os H') (S'.take ι.length):=by
 obtain⟨more,rfl⟩:=id x.ids;have P:(ι++more).take ι.length=ι:=by simp
 refine⟨⟨⟨[],by simp⟩,λa o h n t=>?_⟩,⟨Y.nd,?_,λk a xs e1 e2=>?_,Z.tab.mono λa o h n=>bP h n⟩⟩
 ·obtain⟨R,T⟩:=x.oth a o h n t;rw[qj (λz=>T (Qb z))];exact⟨R,n⟩
 ·have:=Z.len;rw[Od, <-this,MT];omega
 ·have U:k<ι.length:=(MX.mp e1).1;rw[PF,if_pos U]at e2;have X:(ι++more)[k]? =ar a:=by rw[Nk U];exact e1
  obtain⟨vs,R,T⟩:=Z.get k a xs X e2;refine⟨vs,?_,?_⟩
  ·rw[qj (λz=>by have:=(wF Z.nd X).mp z;omega)];exact R
  ·have O:bF ι.length xs=true:=by
    rcases N k xs (by rw[<-Y.len];exact U) e2 with z|z
    ·obtain⟨_,_,Q⟩:=Y.get k a xs e1 z;exact Q.cl
    ·rw[Y.len];exact z
   have:=RelDs.down (n:=ι.length) (os:=os) T O;rw[P]at this;exact this
end
section
variable {X:Cx}{E:XD}{e:Expr}{m:TM}{pins:List (c_×Obj)}{σ:L2.St}{H:Hp}{s:dn}
theorem Inv.fz(I:L2.Inv X pins σ H s)(P:List c_):∃os,L2.Inv X pins σ (lZ P os H) s:=by
 refine⟨λa=>(s.heap.get? a).getD {cls:=.none,data:=.fields #[]},?_⟩;have Z:Un X.fs [] H (lZ P (λa=>(s.heap.get? a).getD {cls:=.none,data:=.fields #[]}) H) s.heap s.heap:=
  ⟨λb o q _ _ _=>q,λb o q _ _ _=>⟨o.slots,q⟩,λb o _ n _=>DF n,λb o q _=>⟨o,q⟩,λb xs q=>bP q (by intro _ z;cases z),λb o u q=>bP q (by intro _ z;cases z),λb Y q=>⟨#[],by rw[bP q (by intro _ z;cases z)];simp⟩⟩
 refine I.un (t':=s.toks) Z λb o q=>?_;have st:∀u,H b=ar u->bG X.prog X.w (lZ P (λa=>(s.heap.get? a).getD {cls:=.none,data:=.fields #[]}) H) s.heap b u:=λu Z=>
  (I.hok b u Z).stay (λ_ _ _ z=>z) (λc z=>bP z (by intro _ z;cases z)) λc xs z=>bP z (by intro _ z;cases z)
 unfold lZ at q;split at q
 ·next vs hb=>
  split at q
  ·cases q;obtain⟨z,its,n,r,e⟩:=(show bG X.prog X.w H s.heap b (.lst vs)from I.hok b _ hb);exact⟨by dsimp only;rw[e];rfl,z,its,n,r,e⟩
  ·cases q;exact st _ hb
 ·exact st _ q
theorem aG(h:SE X E e m):SE X E e (aL m):=by
 intro pins s σ H Q I O;obtain⟨ι,S,ρ,rep,re,r,L,J,k⟩:=O;have Z:iD (m ρ) S=ar (r,L):=J;unfold iD at Z;cases q:m ρ S with
 |none=>rw[q]at Z;cases Z
 | some p=>
  obtain⟨G,R⟩:=p;rw[q]at Z;cases G with
  |ex x=>
   cases Z;exact h pins s σ H Q I ⟨ι,S,ρ,rep,re,.ex x,_,q,k⟩
  | ok d=>
   dsimp only at Z;by_cases hl:R.length<=S.length
   ·rw[if_pos hl]at Z;cases Z;exact h pins s σ H Q I ⟨ι,S,ρ,rep,re,.ok d,_,q,k⟩
   ·rw [if_neg hl]at Z;by_cases hk:pL S R
    ·rw [if_pos hk]at Z;cases z:jm S.length (xw R S.length 60) d with
     |none=>rw[z]at Z;cases Z
     | some u=>
      rw[z]at Z;cases Z;refine eJ (h pins s σ H (λv T=>∃P:List c_,∀os,Q v (lZ P os T)) I ⟨ι,S,ρ,rep,re,.ok d,R,q,λW T x Y v N=>?_⟩) λuv s' ⟨v,T,I',N,P,hq⟩=>?_
      ·refine⟨W.drop ι.length,λos=>?_⟩;obtain⟨F,rep2⟩:=wG rep x Y hk os;have U:Rep X.K ι (lZ (W.drop ι.length) os T) (R.take S.length):=by rw[<-rep.len];exact rep2
       have O:W.take ι.length=ι:=by obtain⟨more,rfl⟩:=x.ids;simp
       have rel:RelD X.K ι (lZ (W.drop ι.length) os T) u v:=by have:=yp (n:=ι.length) (os:=os) (λk us a=>by rw[rep.len];exact zQ Y 60 k us a) Y.nd N (by rw[rep.len];exact z);rw[O]at this;exact this
       exact k ι _ F U v rel
      ·obtain⟨os,C⟩:=Inv.fz I' P;exact⟨v,_,C,N,hq os⟩
    ·rw[if_neg hk]at Z;cases Z
end
end S3
namespace S4
open PySem PySem.Spec PyProof.Rows L2 S3
section
variable {prog:er}{w:fc}{A:hS}{E:a_->dn->Prop}{s:dn}
end
end S4
namespace S3
open PySem PySem.Spec PyProof.Rows L2
section
variable {X:Cx}{E:XD}{a b e c o tg:Expr}{m n l:TM}{pos p2:Pos}{es:List Expr}{ms:aI->M (List D)}
end
end S3
section
namespace S3
open PySem PySem.Spec PyProof.Rows L2
section
variable {prog:er}{w:fc}{A:hS}{R:SL->dn->Prop}{s:dn}
end
section
variable {X:Cx}{pins:List (c_×Obj)}{σ:St}{H:Hp}{s:dn}
end
section
variable {X:Cx}{scope:Scope}{Nc:List Str}{js:List (Option Nat)}{pins:List (c_×Obj)}{σ:St}{H:Hp}{s:dn}
end
end S3
end
namespace S3
open PySem PySem.Spec PyProof.Rows L2
section
variable {K:dV}{p:c_}{Q:D->List c_->av->Hp->Prop}
structure MkL(K:dV)(p:c_)(ι:List c_)(S:av)(ρ:aI)(σ:St)(H:Hp)(xs:List D):Prop where
 rep:Rep K ι (g9 H p) S
 re:RelE K ι (g9 H p) ρ σ
 lst:∃vs,H p=ar (.lst vs)/\RelDs K ι (g9 H p) xs vs
 out:p∉ι
section
variable {X:Cx}{scope:Scope}{Nc:List Str}{js:List (Option Nat)}{elt tg iter tg2 iter2:Expr}{ifs ifs2:List Expr}{pos:Pos}{mi mi2:aI->M Iter}{g g2:oH}{t t2:aI->M Bool}{m:TM}
end
end
end S3
namespace S7
open PySem PySem.Spec PyProof.Rows L2 S3
section
open Sem (wp)
section
variable {prog:er}{w:fc}{A:hS}{E:a_->dn->Prop}{h:gd}{g:Array P1}{d:Drawn}{t:Nat}{os:Rf}
variable {nm q:Str}{C N:c_}{bs bm bmB:List a_}{hdct:Bool}{sn:List Str}{sub:List a_}{ab:Bool}{col:Option Bool}{dd:Option c_}{k0 k1 k2 k3 k5:Option a_}{B Bn newId nid initId inN:String}{bmN:List a_}
end
section
variable {M:Sd}{A:hS}{E:a_->dn->Prop}{env:Env}
variable {nm q:Str}{C N:c_}{bs bm:List a_}{hdct:Bool}{sn:List Str}{sub:List a_}{ab:Bool}{col:Option Bool}{dd:Option c_}{k0 k1 k2 k3 k5:Option a_}{newId:String}
end
section
variable {prog:er}{w:fc}{A:hS}{E:a_->dn->Prop}{s:dn}{env:Env}
variable {nm q:Str}{C N:c_}{bs bm bmB:List a_}{hdct:Bool}{sn:List Str}{sub:List a_}{ab:Bool}{col:Option Bool}{dd:Option c_}{k0 k1 k2 k3 k5:Option a_}{B Bn newId nid initId inN:String}{bmN:List a_}
end
end
end S7
namespace S7
open PySem PySem.Spec PySem.W PyProof.Rows
section
open Builtin Builtin.ObjectAttr
def GO:List a_->Bool
 | .ref _:: .ref _::r=>r==[.type "ValueError",.type "Exception",.type "BaseException",.type "object"]
 |_=>dt
structure ExcS(K:S_)(C:c_):Prop where
 sa:A_ K (.ref C) "__setattr__"=ar (ar (.builtin "object.__setattr__"))
 ob:Sl K C (.type "object")=ar b_
 cd:∃cd,S9 K C=ar cd/\cd.hasDict=b_/\GO cd.mro=b_
section
variable {prog:er}{w:fc}{A:hS}{E:a_->dn->Prop}{s:dn}{K:S_}{x C:c_}{o:Obj}{vs:Array a_}{mA:Str->Option a_}{name:Str}{v:a_}{R:SL->dn->Prop}
end
end
end S7
namespace S7
open PySem PySem.Spec PyProof.Rows L2 S3
def Kt(C a t:c_)(od:Option c_):gd->Prop:=λh=>h.get? a=ar {cls:=.ref C,dict:=od,data:=.fields #[.ref t,.none,.none,.none,.bool dt,.none]}
def Mf(dx:c_)(fs:List (Str×V)):gd->Prop:=λh=>∃mA,h.Ns1 dx mA/\(∀f,vO (fs.lookup f) (mA f))/\PySem.Within mA (fs.map (·.1))
section
variable {X:Cx}{pins:List (c_×Obj)}{σ:L2.St}{H:Hp}{s:dn}{h':gd}{t':Nat}
end
section
variable {X:Cx}{o value:Expr}{ta tv:TE}{f:Str}{pos pos':Pos}
end
end S7
section
namespace S7
open PySem PySem.Spec PyProof.Rows L2 S3
def FH(K:dV)(C f:c_):Bool:=match K.lookup C with
 |some ⟨.type "type",_,.cls cd,sl⟩=>(match cd.mro,sl.toList with
  | .ref C'::bm,[_,_,_,_,ar (.builtin n),_]=>C'==C && n=="ValueError.__new__" && !cd.hasDel && W.tailIn K Kn bm && W.nsOkIn K cd.ns && rb K cd.ns "__init__"==ar (ar (.ref f)) && cd.hasDict && GO cd.mro
  |_,_=>dt) && (J_ K (.ref C) "__setattr__"==ar (ar (.builtin "object.__setattr__"))) && (match K.lookup f with|some o=>o.cls== .type "function"|none=>dt)
 |_=>dt
def MM(C:c_):Sp:=λvs H Q _=>∃e t v1 v2,vs=[.ref e,v1,v2]/\H e=ar (.ext (Kt C e t none))/\∀dx,H dx=none->dx≠e->Q .non (upd (upd H dx (.ext (Mf dx [("many",v1),("most",v2)]))) e (.ext (Kt C e t (ar dx))))
section
variable {X:Cx}{Ek:XK}
end
end S7
end
namespace S7
open PySem PySem.Spec PyProof.Rows L2 S3
theorem DH{h:gd}{Y:Str->Option a_}(n:h.Ns1 dx Y)(e:h.get? dx=ar od)(X:Y f=ar v):Rw f od=ar (ar v):=by
 obtain⟨o,es,ep,e1,hd,_,_,hf⟩:=n;rw[e]at e1;cases e1;unfold Rw;rw[hd];have:=hf f;rw[X]at this;unfold nsFind findBy at this;rw[<-Array.find?_toList]at this;cases q:es.toList.find? (·.key.isStr f)with
 |none=>rw[q]at this;cases this
 |some en=>
  rw[q]at this;have Z:en.val=v:=Nw this;rw[<-Z];dsimp only;rw[q]
section
variable {X:Cx}{E:XD}{pins:List (c_×Obj)}{σ:L2.St}{H:Hp}{s:dn}
theorem wH{a C U:c_}{T:List (Str×V)}{f:Str}{v:V}{b:Bool}{Q:a_->dn->Prop}{A:hS}{E:a_->dn->Prop}(c:ExcC X.K C)(P:∀cd,Su X.K C=ar cd->cd.hasDict=b_)(S:J_ X.K (.ref C) f=ar none)(I:L2.Inv X pins σ H s)(G:H a=ar (.ext (pT C a (ar U))))(x:H U=ar (.xd T))(z:T.lookup f=ar v)
  (t:W.copiedNames.contains f=dt) (h:∀u s',L2.Inv X pins σ H s'->RelV v u->Q u s'):ee (fg X.prog X.w) A (SW (.ref a) f b) Q E s:=by
 obtain⟨⟨r,vs,he,y,L,R⟩,_⟩:=I.hok a _ G;obtain⟨Y,N,B⟩:=(show ∃Y,s.heap.Ns1 U Y/\∀f,vO (T.lookup f) (Y f)from I.hok U _ x);obtain⟨od,es,ep,e1,_⟩:=id N;obtain⟨u,F,O⟩:=vO.some_of (v:=v) (o:=Y f) (by rw[<-z];exact B f);have J:z6 s.heap a r C (ar od):=⟨he,y,by unfold SJ;rw[R],by rw[L];exact e1⟩;obtain⟨cd,Z⟩:=NS.mp c.cd;have hf:W.findObj X.K C (ar od) f=ar (.value u):=by unfold W.findObj;rw[Z,OT,S,OT];simp only[G_];unfold W.ownOf;rw[P cd Z,if_pos rfl];dsimp only;rw[DH N e1 F];rfl
 unfold SW;refine MR (wpAny_mkText ?_);refine Do (s:={s with toks:=s.toks+1}) I.kIn J c.ga c.gt c.be ?_;refine sH (s:={s with toks:=s.toks+1}) I.kIn J hf ?_;exact W.handed_on (AR O) (h u _ (I.tok _) O)
def GP(second:Bool):D->M D
 | .exc n [a,b]=>if n∈bf then aC (if second then b else a)else M.fail
 |_=>M.fail
abbrev pM(second:Bool)(m:TM):TM:=λρ=>do let x<-m ρ;GP second x
theorem zR{e:Expr}{m:TM}{pos:Pos}{Z:Bool}{f:Str}(N:ja X.K=b_)(R:∀n∈bf,∀C,rb X.K gc n=ar (ar (.ref C))->∀cd,Su X.K C=ar cd->cd.hasDict=b_)(x:SE X E e m)(P:f=if Z then "most" else "many")(y:lx e f X.env (hJ e X.env)=hJ e X.env:=by rfl):
  SE X E (.Attribute e f pos) (pM Z m):=by
 intro pins s σ H Q I h;refine EZ y (eJ (x pins s σ H (λv Y=>∃ ι d,RelD X.K ι Y d v/\∃n a b va vb C dx p,d= .exc n [a,b]/\n∈bf/\v= .ref p/\rb X.K gc n=ar (ar (.ref C))/\Y p=ar (.ext (pT C p (ar dx)))/\Y dx=ar (.xd [("many",va),("most",vb)])/\Q (if Z then vb else va) Y) I ?_) λu s1 ⟨v,Y,I1,rv,ι,d,rd,n,a,b,va,vb,C,dx,p,hd,hn,hp,hns,g1,g2,q⟩=>?_)
 ·obtain⟨ι,S,ρ,rep,re,c⟩:=h;refine⟨ι,S,ρ,rep,re,ay (aj c) λd O S1 Y e1 rep1 U v r=>⟨O,d,r,?_⟩⟩;unfold GP at U;split at U
  ·next n a b=>
   split at U
   ·next hn=>
    cases r with
    | excF hns h1 h2 h3 h4=>
     rename_i p C dx fs
     match fs,h3,h4,h2 with
     |[(f1,va),(f2,vb)],h3,h4,h2=>
      have e1:f1="many":=(NF h3).1;have e2:f2="most":=(NF (NF h3).2).1;subst e1 e2;obtain⟨_,_,J,B,F⟩:=h4.cons_inv;obtain⟨z,w⟩:=NF J;subst z w;obtain⟨_,_,A,o,_⟩:=F.cons_inv;obtain⟨G,_⟩:=NF A;subst G;refine⟨n,a,b,va,vb,C,dx,p,rfl,hn,rfl,hns,h1,h2,?_⟩;have:=aq U .refl rep1;cases Z with
      |true=>exact this _ o
      |false=>exact this _ B
     |[],h3,_,_=>cases h3
     |[_],h3,_,_=>have:=Pf F_ h3;simp at this
     |_::_::_::_,h3,_,_=>have:=Pf F_ h3;simp at this
   ·exact(ag U).elim
  ·exact(ag U).elim
 ·subst hp;obtain rfl:u=eo p:=rv;obtain⟨l,T⟩:=pd N hn;have:=T.ns.symm.trans hns;cases this;refine wH (f:=f) (v:=if Z then vb else va) T.ck (R n hn C hns) (by rw[P];cases Z<;>first|exact T.ck.mf|exact T.ck.ms) I1 g1 g2 (by rw[P];cases Z<;>rfl) (by rw[P];cases Z<;>decide) λk s' L t=>⟨_,Y,L,t,q⟩
end
section
variable {X:Cx}{E:XD}{st:oo}{m:TM}{i:Nat}
theorem RelE.all{K:dV}{ι Z:List c_}{H Y:Hp}{n:Nat}(U:∀e v,fi n e=b_->RelD K ι H e v->RelD K Z Y e v):
  ∀{ρ:aI} {σ:L2.St},RelE K ι H ρ σ->(∀e,ar e∈ρ->fi n e=b_)->RelE K Z Y ρ σ
 |[],_,h,_=>by cases h;exact .nil
 |_::ρ,_,.cons h t,c=>.cons (λd' z=>by obtain⟨v,e1,e2⟩:=h _ z;exact⟨v,e1,U _ v (c d' (by rw[z];exact Ni ..)) e2⟩) (RelE.all U t λe z=>c e (M3 _ z))
theorem RelE.swap{K:dV}{ι Z:List c_}{H Y:Hp}{n:Nat}{d u:D}(T:∀v,RelD K ι H d v->RelD K Z Y u v)(U:∀e v,fi n e=b_->RelD K ι H e v->RelD K Z Y e v):
  ∀{ρ:aI} {i:Nat} {σ:L2.St},RelE K ι H (ρ.set i (ar d)) σ->(∀e,ar e∈ρ->fi n e=b_)->RelE K Z Y (ρ.set i (ar u)) σ
 |[],_,_,h,_=>by cases h;exact .nil
 |_::ρ,0,_,.cons h t,c=>.cons (λd' z=>by cases z;obtain⟨v,e1,e2⟩:=h _ rfl;exact⟨v,e1,T v e2⟩) (RelE.all U t λe z=>c e (M3 _ z))
 |_::ρ,i+1,_,.cons h t,c=>.cons (λd' z=>by obtain⟨v,e1,e2⟩:=h _ z;exact⟨v,e1,U _ v (c d' (by rw[z];exact Ni ..)) e2⟩) (RelE.swap T U (ρ:=ρ) (i:=i) t λe z=>c e (M3 _ z))
theorem nR(h:SS X E st (bE i m)):SS X E st (bE i (aL m)):=by
 intro pins s σ H T I N;obtain⟨ι,S,ρ,rep,re,r,J,C,k⟩:=N;have Z:(iD (m ρ)>>=λd=>(aC (Out.nx (ρ.set i (ar d))):M Out)) S=ar (r,J):=C;have F:∀(c:M D),(c>>=λd=>(aC (Out.nx (ρ.set i (ar d))):M Out)) S=(match c S with|some (.ok d,S1)=>ar (.ok (Out.nx (ρ.set i (ar d))),S1)|some (.ex x,S1)=>ar (.ex x,S1)|none=>none):=λc=>by
  show M.bnd c _ S=_;unfold M.bnd;cases c S with
  |none=>rfl
  |some p=>obtain⟨r,S1⟩:=p;cases r<;>rfl
 rw[F]at Z;unfold iD at Z;cases q:m ρ S with
 |none=>rw[q]at Z;cases Z
 | some p=>
  obtain⟨y,L⟩:=p;rw[q]at Z;have O:bE i m ρ S=_:=F (m ρ);rw[q]at O;cases y with
  |ex x=>
   cases Z;exact h pins s σ H T I ⟨ι,S,ρ,rep,re,.ex x,_,O,k⟩
  | ok d=>
   dsimp only at Z;by_cases hl:L.length<=S.length
   ·rw[if_pos hl]at Z;cases Z;exact h pins s σ H T I ⟨ι,S,ρ,rep,re,_,_,O,k⟩
   ·rw [if_neg hl]at Z;by_cases hk:pL S L
    ·rw [if_pos hk]at Z;cases z:jm S.length (xw L S.length 60) d with
     |none=>rw[z]at Z;cases Z
     | some u=>
      rw[z]at Z;cases Z;refine eJ (h pins s σ H {nx:=λW Q=>∃P:List c_,∀os,T.nx W (lZ P os Q),rt:=λ_ _=>False} I ⟨ι,S,ρ,rep,re,_,_,O,λU Q x Y W G=>?_⟩) λf s' hf=>?_
      ·refine⟨U.drop ι.length,λos=>?_⟩;obtain⟨A,rep2⟩:=wG rep x Y hk os;have R:Rep X.K ι (lZ (U.drop ι.length) os Q) (L.take S.length):=by rw[<-rep.len];exact rep2
       have N:U.take ι.length=ι:=by obtain⟨more,rfl⟩:=x.ids;simp
       refine k ι _ A R W ?_;refine RelE.swap (n:=ι.length) (d:=d) (u:=u) (λv t=>?_) (λe v c r=>?_) G λe z=>?_
       ·have:=yp (n:=ι.length) (os:=os) (λk us a=>by rw[rep.len];exact zQ Y 60 k us a) Y.nd t (by rw[rep.len];exact z);rw[N]at this;exact this
       ·have:=RelD.down (n:=ι.length) (os:=os) r c;rw[N]at this;exact this
       ·obtain⟨j,w⟩:=List.getElem?_of_mem z;obtain⟨v,_,r⟩:=re.get w;exact r.cl
      ·cases f with
       |next=>
        obtain⟨W,Q,B,P,o⟩:=hf;obtain⟨os,l⟩:=Inv.fz B P;exact⟨W,_,l,o os⟩
       |ret v=>obtain⟨_,_,_,_,_,z⟩:=hf;exact z.elim
       |brk=>obtain⟨_,_,_,z⟩:=hf;exact z.elim
       |cont=>obtain⟨_,_,_,z⟩:=hf;exact z.elim
    ·rw[if_neg hk]at Z;cases Z
end
structure GrX(P:er)(w:fc)(K:dV)(mg:Str->Option a_)(base:gd):Prop where
 ex:∃C f fd,rb K gc "TooGreat"=ar (ar (.ref C))/\FH K C f=b_/\FnOk P w K mg base (nN P w) 1 f fd ["self","many","most"] (MM C)/\Binds K fd ["self","many","most"] []
section
variable {X:Cx}{Ek:XK}
end
theorem DefX.none{P:er}{w:fc}{K:dV}{Y:Str->Option a_}{base:gd}{k:Nat}{x qual:Str}{T:oo}{f:c_}{Z:gg}{X:List Str}(F:Fun K x qual T f Z)(U:Y x=ar (.ref f))(S:Binds K Z X []):DefX P w K Y base k x X (λ_=>M.fail):=
 ⟨f,Z,⟨λvs H Q E ⟨_,_,_,_,_,h⟩=>(ag h).elim,λA outer s H args us vs Q E _ _ _ _ ⟨_,_,_,_,_,h⟩=>(ag h).elim⟩,U,F.kp,S⟩
def FJ(K:dV):Bool:=bf.all λn=>match rb K gc n with
 |some (ar (.ref C))=>(match Su K C with|some cd=>cd.hasDict|none=>b_)
 |_=>b_
theorem GQ{K:dV}(h:FJ K=b_):∀n∈bf,∀C,rb K gc n=ar (ar (.ref C))->∀cd,Su K C=ar cd->cd.hasDict=true:=by intro n Y C X cd Z;have:=Nx.mp h n Y;rw[X]at this;dsimp only at this;rw[Z]at this;exact this
section
variable {X:Cx}{E:XD}
theorem FK(Y:ja X.K=b_)(W:FJ X.K=b_)(Z:SE X E e m)(U:lx e "many" X.env (hJ e X.env)=hJ e X.env:=by rfl):SE X E (.Attribute e "many" pos) (pM dt m):=zR Y (GQ W) Z rfl U
theorem FL(Y:ja X.K=b_)(W:FJ X.K=b_)(Z:SE X E e m)(U:lx e "most" X.env (hJ e X.env)=hJ e X.env:=by rfl):SE X E (.Attribute e "most" pos) (pM b_ m):=zR Y (GQ W) Z rfl U
end
end S7
namespace S3
open PySem PySem.Spec PyProof.Rows L2 S4
mutual
theorem uS:∀d,fi n d=b_->jm n g d=ar d
 | .lst k,h=>by unfold fi at h;unfold jm;rw[if_pos (NY h)]
 | .tup ds,h=>by unfold fi at h;unfold jm;rw[jb ds h];rfl
 | .ro ds,h=>by unfold fi at h;unfold jm;rw[jb ds h];rfl
 | .fz ds,h=>by unfold fi at h;unfold jm;rw[jb ds h];rfl
 | .fn _ _ _ ds _,h=>by unfold fi at h;unfold jm;rw[jb ds h];rfl
 | .exc _ ds,h=>by unfold fi at h;unfold jm;rw[jb ds h];rfl
 | .non,_=>by unfold jm;rfl
 | .bl _,_=>by unfold jm;rfl
 | .int _,_=>by unfold jm;rfl
 | .str _,_=>by unfold jm;rfl
 | .emp,_=>by unfold jm;rfl
theorem jb:∀ds,bF n ds=b_->gW n g ds=ar ds
 |[],_=>by unfold gW;rfl
 |d::ds,h=>by
  unfold bF at h;rw[ND]at h;unfold gW;rw[uS d h.1,jb ds h.2]
end
mutual
theorem zS(Z:m<=n):∀d,fi m d=b_->fi n d=b_
 | .lst k,h=>by unfold fi at h⊢;exact Nb (Nf (NY h) Z)
 | .tup ds,h=>by unfold fi at h⊢;exact jY Z ds h
 | .ro ds,h=>by unfold fi at h⊢;exact jY Z ds h
 | .fz ds,h=>by unfold fi at h⊢;exact jY Z ds h
 | .fn _ _ _ ds _,h=>by unfold fi at h⊢;exact jY Z ds h
 | .exc _ ds,h=>by unfold fi at h⊢;exact jY Z ds h
 | .non,_=>by unfold fi;rfl
 | .bl _,_=>by unfold fi;rfl
 | .int _,_=>by unfold fi;rfl
 | .str _,_=>by unfold fi;rfl
 | .emp,_=>by unfold fi;rfl
theorem jY(Z:m<=n):∀ds,bF m ds=b_->bF n ds=b_
 |[],_=>by unfold bF;rfl
 |d::ds,h=>by
  unfold bF at h⊢;rw[ND]at h⊢;exact⟨zS Z d h.1,jY Z ds h.2⟩
end
section
variable {c:M D}{S:av}{Q:D->av->Prop}{v:D}
theorem FM:iD (aC v)=aC v:=by funext S;show(if S.length<=S.length then _ else _)=_;rw[if_pos (MV _)];rfl
theorem DI:iD (M.raise x)=M.raise x:=rfl
theorem kR(e:c S=ar (.ok d,S'))(X:pL S S')(Z:S.length<S'.length\/u=d)(W:S.length<=S'.length)(Y:jm S.length (xw S' S.length 60) d=ar u):iD c S=ar (.ok u,S'.take S.length):=by
 unfold iD;rw[e];dsimp only;by_cases h:S'.length<=S.length
 ·have hd:u=d:=Z.resolve_left (by omega);rw[if_pos h,hd,OZ h]
 ·rw[if_neg h,if_pos X,Y]
theorem FN(h:runs c S λd Z=>pL S Z/\S.length<=Z.length/\fi S.length d=b_/\Q d (Z.take S.length)):runs (iD c) S Q:=by obtain⟨d,Z,e,X,Y,hd,q⟩:=h;exact⟨d,_,kR e X (.inr rfl) Y (uS d hd),q⟩
theorem rz:pL S (S++G):=λk xs Z e=>.inl (by rw[Nk Z]at e;exact e)
theorem DJ(h:runs c S λd Z=>(∃G,Z=S++G)/\fi S.length d=b_/\Q d S):runs (iD c) S Q:=by obtain⟨d,Z,e,⟨G,rfl⟩,hd,q⟩:=h;exact FN ⟨d,_,e,rz,by simp,hd,by simpa using q⟩
theorem wI(h:runs c S λd Z=>∃G p us,d= .lst p/\Z=S++G/\Z[p]? =ar us/\S.length<=p/\bF S.length us=b_/\Q (.fz us) S):runs (iD c) S Q:=by
 obtain⟨d,Z,e,G,p,us,rfl,rfl,Y,U,W,q⟩:=h;have X:=(MX.mp Y).1;refine⟨.fz us,S,?_,q⟩;have:=kR (u:=.fz us) e rz (.inl (by omega)) (by simp) (by unfold jm;rw[if_neg (by omega)];show(((S++G)[p]?).bind λxs=>gW S.length (xw (S++G) S.length 59) xs).map D.fz=_;rw[Y,OT,jb us W];rfl)
 rw[this];simp
theorem bN{α:Type}{c:M α}{v:α}(h:∀S,runs c S λd Z=>d=v/\Z=S):c=aC v:=by funext S;obtain⟨d,Z,e,rfl,rfl⟩:=h S;exact e
theorem Ku(Y:fi 0 v=b_)(h:∀S,runs c S λd Z=>d=v/\∃G,Z=S++G):iD c=aC v:=
 bN λS=>DJ (tJ (h S) λd Z ⟨e,g⟩=>⟨g,by rw[e];exact zS (Nr _) v Y,e,rfl⟩)
theorem zT(Y:bF 0 us=b_)(h:∀S,runs c S λd Z=>∃G p,d= .lst p/\Z=S++G/\Z[p]? =ar us/\S.length<=p):iD c=aC (.fz us):=
 bN λS=>wI (tJ (h S) λd Z ⟨G,p,e1,e2,e3,e4⟩=>⟨G,p,us,e1,e2,e3,e4,jY (Nr _) us Y,rfl,rfl⟩)
theorem bR(Z:bF 0 us=b_)(Y:us.length<=lim):iD (bj us)=aC (.fz us):=
 zT Z λS=>Bq.mpr ⟨Y,[us],S.length,rfl,rfl,by simp,MV _⟩
end
theorem cC:ia ⟨its,.none⟩=aC ():=by funext S;unfold ia;rw[if_pos (show Iter.okS ⟨its,.none⟩ S from trivial)];rfl
section
variable {its:List D}{g:oH}{t:aI->M Bool}{m:TM}
theorem wJ(R:aI->Prop)(q:D->Bool)(f:D->D):∀(items:List D) (ρ:aI),R ρ->(∀d∈items,∀ ρ,R ρ->∃Z,g d ρ=aC Z/\R Z/\t Z=aC (q d)/\(q d=b_->m Z=aC (f d)))->
  bI ⟨its,.none⟩ g t m items ρ=aC ((items.filter q).map f)
 |[],ρ,_,_=>by unfold bI;rw[cC];rfl
 |d::ds,ρ,hR,hb=>by
  obtain⟨Z,e1,Y,e2,X⟩:=hb d (Ni ..) ρ hR;have W:=wJ R q f ds Z Y λx U=>hb x (M3 _ U);unfold bI;rw[cC,ah,e1,ah,e2,ah,W];cases hq:q d with
  |true=>rw[Ow hq,if_pos rfl,X hq,ah];rfl
  |false=>rw[Ox (by rw[hq];decide),if_neg (by decide)]
theorem FO(R:aI->Prop)(q:D->Bool)(f:D->D)(Z:its.length<=lim)(Y:R ρ)(X:∀d∈its,∀ ρ,R ρ->∃ ρ1,g d ρ=aC ρ1/\R ρ1/\t ρ1=aC (q d)/\(q d=b_->m ρ1=aC (f d))):
  dq ⟨its,.none⟩ g t m ρ=aC ((its.filter q).map f):=by
 unfold dq;rw[if_pos Z];exact wJ R q f its ρ Y X
end
end S3
namespace S7
open PySem PySem.Spec PyProof.Rows L2 S3
section
variable {X:Cx}{E:XD}{k i jn jy:Nat}{a c':c_}{ql:Str}{ds:List D}{vs:List V}{m:TM}{x n y cx:Str}{p cpos epos np p1 p2 p3 hpos tpos:Pos}
end
section
variable {X:Cx}{x ql:Str}{k k0 i:Nat}{a c':c_}{ps:List Str}{R:D->M D->List D->M D}{R':M D->List D->M D}{p pos:Pos}{e:Expr}{es:List Expr}{ms:S3.aI->M (List D)}{m:TM}{ds:List D}{vs:List V}
end
section
variable {X:Cx}{E:XD}{pos:Pos}
end
end S7
namespace S3
open PySem PySem.Spec PySem.W PyProof.Rows L2 S4
section
variable {X:Cx}{E:XD}{e:Expr}{m:TM}{pos:Pos}
theorem sI:dN X (.builtin "sorted") (λxs H Q=>∃(p:c_) (ns:List Int),xs=[.ref p]/\lQ X.K H p (ns.map V.int)/\ns.length<64/\∀l,H l=none->Q (.ref l) (upd H l (.lst ((sortI ns).map V.int)))):=by
 intro pins s σ H xs us Q I r h;obtain⟨p,ns,rfl,O,L,q⟩:=h;obtain⟨u,rfl,J⟩:=vals1 r;cases (show u=eo p from J);obtain⟨its,R,⟨o,N,G,n,hd⟩,P⟩:=I.tuple O;have F:m2 its ns:=Qf R;have hlen:=R.length;rw[MS]at hlen P;refine Qz kind_sorted plain_sorted entry_sorted (args_sorted1 _) ?_;unfold Builtin.«sorted»;refine MR (m:=checkCount "sorted" 1 1 _) (MW ?_);refine MR (wpAny_collect_seq p (.inr rfl) N G hd (λh' keep=>?_) (by rw[M8];omega));rw[List.toList_toArray];refine MR (Ru ?_ (by rw[N5];omega));have Z:(h'.push (s_ "list" its.toArray 0)).get? h'.objs.size=ar (s_ "list" its.toArray 0):=M6 _ rfl;refine MR (NV (NX slot_list_sort ⟨_,Z,rfl⟩ entry_list_sort (list_sort_tree Z F (by omega) λout T a1 a2 a3=>⟨_,rfl,?_⟩) (args_list_sort _)));refine MW ⟨_,rfl,?_⟩;have en:T=sortI ns:=W.lks_uniq (a2.trans (sortI_perm ns).symm) a3 (ir ns);subst en;obtain⟨c,U⟩:=sortedHeap_at (vs:=its) (out:=out) Z;have S:L2.Inv X pins σ H {s with heap:=h',toks:=s.toks}:=I.kept keep;have hf:H h'.objs.size=none:=S.hok.fresh (MV _);refine⟨.ref h'.objs.size,_,S.laid (t':=s.toks) (o:=.lst ((sortI ns).map V.int)) (λb o e=>?_) (MV _) ⟨?_,out.toList,c,jB a1,U⟩,rfl,q _ hf⟩
 ·have Y:b<h'.objs.size:=MZ e;rw[sortedHeap_old (Ng Y) (by rw[size_push'];exact N8 Y)];exact MU _ e
 ·rw[MS,(sortI_perm ns).length_eq,N5];omega
theorem sJ:dN X (.builtin "sorted") (λxs H Q=>∃(p:c_) (vs:List V) (Z:List (List Int)),xs=[.ref p]/\lQ X.K H p vs/\TRow H vs Z/\vs.length<64/\
  ∀q,fW Z q->∀l,H l=none->Q (.ref l) (upd H l (.lst (q.map λi=>vs.getD i .non)))):=by
 intro pins s σ H xs us Q I r h;obtain⟨p,vs,Z,rfl,S,T,Y,q⟩:=h;obtain⟨u,rfl,N⟩:=vals1 r;cases (show u=eo p from N);obtain⟨its,W,⟨o,P,J,n,hd⟩,G⟩:=I.tuple S;have L:=W.length;refine ie I (λus=>us=its) (λR F U=>?_) λus O=>⟨vs,Z,by rw[O];exact W,T,Y,q⟩;refine wpAny_collect_seq p (.inr rfl) P J hd (λh' keep=>?_) (by rw[M8];omega);rw[List.toList_toArray];exact U its h' s.toks rfl keep
def gX:List D->M D
 |[.tup xs]=>nJ xs
 |_=>M.fail
def GR(X:Cx):List V->Hp->VK->Prop:=λxs H Q=>(∃(p:c_) (ns:List Int),xs=[.ref p]/\lQ X.K H p (ns.map V.int)/\ns.length<64/\∀l,H l=none->Q (.ref l) (upd H l (.lst ((sortI ns).map V.int))))\/
 ∃(p:c_) (vs:List V) (nss:List (List Int)),xs=[.ref p]/\lQ X.K H p vs/\TRow H vs nss/\vs.length<64/\∀q,fW nss q->∀l,H l=none->Q (.ref l) (upd H l (.lst (q.map λi=>vs.getD i .non)))
theorem sL:dN X (.builtin "sorted") (GR X):=by
 intro pins s σ H xs us Q I r h;rcases h with h|h
 ·exact sI pins s σ H xs us Q I r h
 ·exact sJ pins s σ H xs us Q I r h
theorem rC:lW X.K E gX (GR X):=by
 intro ι S H ds vs Q rep r c;unfold gX at c;split at c
 ·next es=>
  obtain⟨v,ws,rfl,O,J⟩:=r.cons_inv;cases J.nil_inv;obtain⟨p,us,rfl,T,U⟩:=O.tup_inv;unfold nJ at c;cases q:intsOf es with
  | some ns=>
   rw[q]at c;have c:cont X.K E (if ns.length<64 then bj ((sortI ns).map D.int)else M.fail) ι S H (kB X.K Q):=c;by_cases h:ns.length<64
   ·rw[if_pos h]at c;exact .inl ⟨p,ns,rfl,.of (by rw[<-gu U q];exact T),h,(bt c rep (nB _)).2⟩
   ·rw[if_neg h]at c;exact(ag c).elim
  | none=>
   rw[q]at c;cases q2:rowsOf es with
   |none=>rw[q2]at c;exact(ag c).elim
   | some nss=>
    rw[q2]at c;have Z:cont X.K E (if nss.length<64/\two nss=b_ then bj ((fO nss).map tupI)else M.fail) ι S H (kB X.K Q):=c;by_cases h:nss.length<64/\two nss=b_
    ·rw[if_pos h]at Z;obtain⟨g1,g2⟩:=nH U q2;refine .inr ⟨p,us,nss,rfl,.of T,zy ⟨g1,g2⟩ h.2,by omega,λY R l L=>?_⟩;have W:∀i∈Y,i<us.length:=λi N=>by rw[g1];exact Na.mp (R.1.mem_iff.mp N)
     have P:RelDs X.K ι H ((fO nss).map tupI) (Y.map λi=>us.getD i .non):=by rw[<-mF R];exact nI g2 Y W
     exact(bt Z rep P).2 l L
    ·rw[if_neg h]at Z;exact(ag Z).elim
 ·exact(ag c).elim
theorem yq{p:Pos}(W:X.mg "sorted"=none)(Y:SE X E e m)(Z:Gl X "sorted":=by rfl)(hs:d_ [e] X.env=[(dt,hJ e X.env)]:=by rfl):SE X E (.Call (.Name "sorted" p) [e] [] pos) (λρ=>do let ds<-(do let x<-m ρ;let xs<-aC [];aC (x::xs));gX ds):=
 jF sL rC Z W (by decide+kernel) (af Y ai hs) (by decide) (by decide) hs rfl
end
end S3
namespace S3
open PySem PySem.Spec PyProof.Rows L2 PySem.SeqAt
theorem rD{M:Sd}{A:hS}{E:a_->dn->Prop}{s:dn}{X:Type}{b:Nat}(f:Nat->X->Sem (ForInStep X))(I:Nat->X->dn->Prop)(Q:X->dn->Prop)
  (Z:∀i c s,i<b->I i c s->ee M A (f i c) (λr s'=>match r with| .yield c'=>I (i+1) c' s'| .done c'=>Q c' s') E s)
  (W:∀c s,I b c s->Q c s) (c:X) (h:I 0 c s):ee M A (Si [:b] c f) Q E s:=by
 rw[Std.Legacy.Range.forIn_eq_forIn_range'];have U:([:b]:Std.Legacy.Range).size=b:=by simp[Std.Legacy.Range.size]
 show ee M A (Si (iB 0 ([:b]:Std.Legacy.Range).size 1) c f) Q E s;rw[U];refine Ph f (λl c s=>∃i,i<=b/\l=iB i (b - i) 1/\I i c s) Q ?_ ?_ _ c ⟨0,Nr _,rfl,h⟩
 ·rintro x rest c s ⟨i,hib,hl,hI⟩;have Y:i<b:=by
   rcases Nat.lt_or_ge i b with h'|h'
   ·exact h'
   ·rw[show b - i=0 by omega]at hl;simp at hl
  obtain⟨n,T⟩:∃n,b - i=n+1:=⟨b - i - 1,by omega⟩;rw[T,List.range'_succ]at hl;obtain⟨rfl,rfl⟩:=NF hl;refine Oc (Z x c s Y hI) (λr s' h'=>?_) λ_ _ h'=>h';cases r with
  |done c'=>exact h'
  |yield c'=>exact⟨x+1,Y,by congr 1;omega,h'⟩
 ·rintro c s ⟨i,hib,hl,hI⟩;have:b - i=0:=by
   have:=Pf F_ hl;simpa using this.symm
  have:i=b:=by omega
  subst this;exact W c s hI
theorem sM(l:c_)(Z:Array a_)(n:Nat)(dd:Option c_)(Q:Array (Option a_))(x:a_)(e:a_->Bool)(j:Nat)(O:j<Z.size)(W:e Z[j]=b_)(X:∀m (hm:m<Z.size),m<j->e Z[m]=dt):
  Meets (Builtin.«tuple.index» ⟨[.ref l,x],[]⟩)
   (λA R s=>s.heap.get? l=ar {cls:=.type "tuple",dict:=dd,data:=.seq Z n,slots:=Q}/\(∀y,y∈Z->EqAt A.in1 s y x (e y))/\R (.ok (.ret (.int j s.toks))) {s with toks:=s.toks+1}):=
 .of_wp λprog w A R s h=>by
  obtain⟨T,g,d,S,os⟩:=s;obtain⟨P,he,h⟩:=h;have U:min Z.size Z.size=Z.size:=Nat.min_self _
  wp_walk using Q6 P,rD _ (λi b s'=>i<=j/\b.1=none/\s'=⟨T,g,d,S,os⟩) _
  next=>
   rintro i b s' hi ⟨hij,hb,rfl⟩;have Y:i<Z.size:=by omega
   rw[M1 Y];refine MR (he _ (Array.getElem_mem Y) prog w _ _ ?_);by_cases hc:i=j
   ·subst hc;rw[W]
    wp_walk
    exact⟨_,rfl,h⟩
   ·rw[X i Y (by omega)]
    wp_walk
    exact⟨by omega,rfl,rfl⟩
  next=>
   rintro b s' ⟨hij, -, -⟩;omega
  next=>
   exact⟨Nr _,rfl,rfl⟩
section
variable {X:Cx}{E:XD}{o e:Expr}{es:List Expr}{m:TM}{ms:aI->M (List D)}{pos:Pos}
def mJ:D->List D->M D:=λt ds S=>match ds with
 | [x]=>match gm S 60 t,gm S 60 x with
  |some (.tuple xs),ar p=>match xs.findIdx? λy=>f' y p with
   |some j=>ar (.ok (.int j),S)
   |none=>none
  |_,_=>none
 |_=>none
def DK:V->List V->Hp->VK->Prop:=λx vs H Q=>∃y p xs j,vs=[y]/\(ReadsV H x (.tuple xs)/\(x_ xs).canLay0=b_/\(x_ xs).depth<=60)/\(ReadsV H y p/\p.canLay0=b_/\p.depth<=60)/\xs.findIdx? (λz=>f' z p)=ar j/\Q (.int j) H
theorem DL(z:X.A.units+64<u3):Lc X "tuple.index" DK:=by
 intro pins s σ H x vs v us Q I K L h;obtain⟨y,p,xs,j,rfl,⟨O,U,C⟩,⟨P,N,w⟩,T,q⟩:=h;obtain⟨u,rfl,G⟩:=L.one;obtain⟨as,R⟩:=O.heap I.hok K;obtain⟨bs,B⟩:=P.heap I.hok G;cases R with
 | @tuple a ob its n _ _ h1 h2 h3 h4=>
  obtain⟨cls,dd,data,S⟩:=ob;simp only at h2 h3;subst h2 h3;have Z:=readsAll_map xs _ _ U h4;rw[<-Z,List.findIdx?_map]at T;obtain⟨W,hit,Y⟩:=List.findIdx?_eq_some_iff_getElem.mp T;have hd:=kM C;have hm:min (l6 xs) p.depth<=60:=M7 (Pz _ _) hd;refine QF F.slot_tuple_index ⟨_,h1,rfl⟩ F.entry_tuple_index (F.args_tuple_index_2 _ _)
   (sM a its n dd S u (λy=>f' (readOf s.heap y) p) j (by simpa using W) (by simpa using hit) (λm hm J=>by simpa using Y m J)) ⟨h1,items_eqAt h4 B U N (by omega),?_⟩
  exact⟨.int j,H,I.tok _,⟨_,rfl⟩,q⟩
theorem Bz:Kb X.K E mJ DK:=by
 intro ι S H d ds v vs Q rep r rs c;obtain⟨W,U,e,k⟩:=c;unfold mJ at e;split at e
 ·next x=>
  obtain⟨w,ws,rfl,Z,Y⟩:=rs.cons_inv;cases Y.nil_inv;split at e
  ·next xs p hp hq=>
   split at e
   ·next j hj=>
    cases e;exact⟨w,p,xs,j,rfl,lE rep 60 d _ v hp r,lE rep 60 x p w hq Z,hj,k ι H .refl rep _ (.int _)⟩
   ·cases e
  ·cases e
 ·cases e
def Mx:D->M Unit
 | .tup _=>aC ()
 |_=>M.fail
abbrev DM(f:D->List D->M D)(m n:TM):TM:=λρ=>do let x<-m ρ;Mx x;let ds<-(do let y<-n ρ;let ys<-aC [];aC (y::ys));f x ds
theorem wK{n:TM}{Z:Pos}(J:X.A.units+64<u3)(O:SE X E o m)(K:SE X E e n)
  (Y:lx o "index" X.env (hJ o X.env)=hJ o X.env:=by rfl)
  (W:(Z.endLine==pos.line)=true:=by rfl) (hs:d_ [e] X.env=[(dt,hJ e X.env)]:=by rfl):
  SE X E (.Call (.Attribute o "index" Z) [e] [] pos) (DM mJ m n):=by
 refine PE.imp (GG PySem.F.plainAttrs_tuple PySem.F.slot_tuple_index PySem.F.type_tuple_index (DL J) O (af K ai hs) Y (by rw[hs];rfl) W hs rfl) λσ H Q h=>?_;obtain⟨ι,S,ρ,rep,re,c⟩:=h;refine⟨ι,S,ρ,rep,re,ay (aj c) λx U S1 C e1 rep1 R v L=>?_⟩;cases x with
 |tup us=>
  have N:=aq (aj R) .refl rep1;cases L with
  |tup hv hs=>exact⟨.inr (.inl ⟨rfl,_,hv⟩),U,S1,ρ,rep1,re.later rep e1,ay (aj N) λds T S2 P e2 rep2 G vs I=>Bz T S2 P _ ds _ vs Q rep2 ((RelD.tup hv hs).later rep1 e2) I G⟩
 |_=>exact(ag (aj R)).elim
end
end S3
namespace S7
open PySem PySem.Spec PyProof.Rows L2 S3 S4
theorem FP{i j:Nat}{Z:B3}:rk (ft Z) (dH 2 (aY (gN i) (aY (gN j) dQ)))=Bp i j Z:=by
 funext ρ;unfold rk ft Bp;rw[fN];refine Pf _ ?_;funext ds
 match ds with
 |[]=>rfl
 |[d]=>rfl
 |[d,e]=>rfl
 |d::e::f::r=>
  funext S;show(bH _>>=_) S=_;unfold bH;split<;>rfl
theorem FQ{X:Cx}{E:XD}{Y:oo}{i j:Nat}{Z:B3}(h:SS X E Y (rk (ft Z) (dH 2 (aY (gN i) (aY (gN j) dQ))))):SS X E Y (Bp i j Z):=FP ▸ h
end S7
namespace S7
open PySem PySem.Spec PyProof.Rows L2 S3
section
variable {P:er}{w:fc}{K:dV}{mg:Str->Option a_}{base:gd}
theorem zU{x qual:Str}{Y:oo}{f:c_}{U:gg}{N X:List Str}{k:Nat}{m:cY}{T:List D->M D}{c S:c_}(F:Fun K x qual Y f U)(R:mg x=ar (.ref f))(I:Binds K U X [])(Q:FnScope N X (ao Y))(L:T=mU N.length X.length m)(J:rb K gc x=ar (ar (.ref f)))(O:kS K x=ar (c,S))
  (Z:∀(A:hS) (outer:List Env) (s:dn) (H:Hp) (E:XK),Room k (A.deeper (y3 qual (ao Y) s.heap.objs.size f (.ref c)))->
   um (lR (nN P w) P w K mg base N qual (ao Y) f (.ref c) A outer s H E).nox eA (dJ Y) m):DefX P w K mg base (k+1) x X T:=
 ⟨f,U,DB F Q L J O Z,R,F.kp,I⟩
end
abbrev pin(X:Cx)(os:List (c_×Obj)):Cx:={X with pn:=os++X.pn}
structure LmS where
 params:J'
 body:Expr
 scope:Scope
 N3:List Str
 js:List Nat
 m:TM
structure FI where
 f:c_
 c:c_
 pm:a_
 ctv:a_
abbrev B5(cells:List (Str×c_))(ql:Str)(p:LmS×FI):c_×Obj:=(p.2.f,wk "<lambda>" ql p.1.params p.1.body p.1.scope (jD cells p.1.scope.names []) p.2.pm p.2.c p.2.ctv)
structure LmOk(X:Cx)(ql:Str)(k0:Nat)(L:LmS):Prop where
 sc:LamScope X L.scope L.N3 L.js
 df:R8 L.params X.env=([],[])
 bd:∀(c':c_) (cl:List (Str×c_)) (pm ctv:a_),Rx (R9 "<lambda>" ql L.params L.body L.scope cl pm (.ref c') ctv) ⟨[],[]⟩=aC []
 lam:∀(base:gd),Mod X.K X.mg base->∀(f c':c_) (cl:List (Str×c_)) (A:hS) (outer:List Env) (s:dn) (H:Hp) (Ek:XK),Room k0 (A.deeper (jU ql L.scope f c' cl s))->SE (tL X.prog X.w X.K X.mg base L.N3 ql L.scope f c' cl A outer s H Ek) (Bu X.K Ek) L.body L.m
def tO:List (List Nat×TM)->S3.aI->Option (List (M D))
 |[],_=>ar []
 |(js,m)::r,ρ=>match uO js ρ,tO r ρ with
  |some ds,ar cs=>ar (m (ds.map ar)::cs)
  |_,_=>none
def uT(R:M D->List D->M D):List (M D)->M (List D)
 |[]=>aC []
 |c::cs=>do let y<-R c [];let ys<-uT R cs;aC (y::ys)
def jo(cs:List (List Nat×TM))(R:M D->List D->M D):TM:=λρ=>match tO cs ρ with
 |some l=>(do let ys<-uT R l;bj ys)
 |none=>M.fail
abbrev FR(L:LmS):List Nat×TM:=(L.js,L.m)
section
variable {X:Cx}{pins os:List (c_×Obj)}{σ:L2.St}{H:Hp}{s:dn}
theorem uU(I:L2.Inv X (os++pins) σ H s):L2.Inv (pin X os) pins σ H s:=
 ⟨⟨I.ok.mod,I.ok.kind,I.ok.glob,I.ok.blt,I.ok.above,I.ok.inj,I.ok.has,I.ok.cab,I.ok.hd,I.ok.frames,I.ok.stk,I.ok.exf,I.ok.bs,I.ok.bsz,I.ok.noex,I.ok.exfs,I.ok.funs,I.ok.frf⟩,I.os,I.bare,I.base,I.loc,I.cell,I.free,I.freeC,(λp Z=>I.pin p (by
  simp only[z7]at Z⊢;rcases Z with(h|h)|h
  ·exact .inr (.inl h)
  ·exact .inl h
  ·exact .inr (.inr h))),I.hok,I.len⟩
theorem iL(I:L2.Inv (pin X os) pins σ H s):L2.Inv X (os++pins) σ H s:=
 ⟨⟨I.ok.mod,I.ok.kind,I.ok.glob,I.ok.blt,I.ok.above,I.ok.inj,I.ok.has,I.ok.cab,I.ok.hd,I.ok.frames,I.ok.stk,I.ok.exf,I.ok.bs,I.ok.bsz,I.ok.noex,I.ok.exfs,I.ok.funs,I.ok.frf⟩,I.os,I.bare,I.base,I.loc,I.cell,I.free,I.freeC,(λp Z=>I.pin p (by
  simp only[z7]at Z⊢;rcases Z with h|h|h
  ·exact .inl (.inr h)
  ·exact .inl (.inl h)
  ·exact .inr h)),I.hok,I.len⟩
theorem nS(I:L2.Inv X (os++pins) σ H s):L2.Inv X pins σ H s:=I.pins_of λp Z=>I.pin p (by rw[NA,NA];exact .inr (.inr Z))
end
structure Zi where
 q:LmS×FI
 ds:List D
 vs:List V
abbrev Zi.it(ql:Str)(z:Zi):D:=.fn z.q.2.f z.q.2.c ql z.ds z.vs
structure ZOk(K:dV)(ι:List c_)(H:Hp)(ρ:S3.aI)(σ:L2.St)(z:Zi):Prop where
 cap:uO z.q.1.js ρ=ar z.ds
 rel:RelDs K ι H z.ds z.vs
 len:z.vs.length=z.q.1.js.length
 val:∀(i j:Nat) (v:V),z.q.1.js[i]? =ar j->z.vs[i]? =ar v->σ[j]? =ar (ar v)
theorem rE{K:dV}{ι:List c_}{H:Hp}{ρ:S3.aI}{U:L2.St}(X:RelE K ι H ρ U):∀{P:List (LmS×FI)} {l:List (M D)},tO (P.map λp=>FR p.1) ρ=ar l->
  ∃Z:List Zi,Z.map (·.q)=P/\l=Z.map (λz=>z.q.1.m (z.ds.map ar))/\∀z∈Z,ZOk K ι H ρ U z
 |[],l,e=>by cases e;exact⟨[],rfl,rfl,λz Y=>by cases Y⟩
 | p::P,l,e=>by
  rw[Nd]at e;unfold tO at e;split at e
  ·next ds cs e1 e2=>
   cases e;obtain⟨Z,R,S,T⟩:=rE X e2;obtain⟨vs,g1,g2,g3⟩:=uP X e1;exact⟨⟨p,ds,vs⟩::Z,by rw[Nd,R],by rw[Nd,S],λz Y=>by
    rcases M9.mp Y with rfl|Y
    ·exact⟨e1,g1,g2,g3⟩
    ·exact T z Y⟩
  ·cases e
open Classical in
def findZ(ql:Str)(d:D):List Zi->Option Zi
 |[]=>none
 |z::r=>if z.it ql=d then ar z else findZ ql d r
theorem mL{ql:Str}{d:D}{y:Zi}:∀{Z:List Zi},findZ ql d Z=ar y->y∈Z/\y.it ql=d
 |[],e=>by cases e
 |z::r,e=>by
  unfold findZ at e;split at e
  ·next h=>cases e;exact⟨.head _,h⟩
  ·exact let ⟨a,b⟩:=mL e;⟨.tail _ a,b⟩
theorem wL{ql:Str}{z:Zi}:∀{Z:List Zi},z∈Z->∃y,findZ ql (z.it ql) Z=ar y
 | a::r,h=>by
  unfold findZ;split
  ·exact⟨_,rfl⟩
  ·next hn=>
   rcases M9.mp h with rfl|h
   ·exact absurd rfl hn
   ·exact wL h
def mZ(ql:Str)(Z:List Zi)(R:M D->List D->M D):TM:=λρ=>match ρ with
 |[ar d]=>(match findZ ql d Z with
  |some z=>R (z.q.1.m (z.ds.map ar)) []
  |none=>M.fail)
 |_=>M.fail
theorem Kv{ql:Str}{Z:List Zi}{R:M D->List D->M D}(U:(Z.map (·.q.2.f)).Nodup){z:Zi}(X:z∈Z):mZ ql Z R [ar (z.it ql)]=R (z.q.1.m (z.ds.map ar)) []:=by
 obtain⟨y,hf⟩:=wL (ql:=ql) X;obtain⟨S,e⟩:=mL hf;have e1:y.q.2.f=z.q.2.f:=by injection e
 have key:∀{l:List Zi},(l.map (·.q.2.f)).Nodup->y∈l->z∈l->y=z:=λ{l}=>by
  induction l with
  |nil=>intro _ h;cases h
  |cons a l ih=>
   intro Y W T;rw[Nd,NN]at Y;rcases M9.mp W with r1|r1<;>rcases M9.mp T with r2|r2
   ·rw[r1,r2]
   ·exact absurd (Nm.mpr ⟨z,r2,by rw[<-r1];exact e1.symm⟩) Y.1
   ·exact absurd (Nm.mpr ⟨y,r1,by rw[<-r2];exact e1⟩) Y.1
   ·exact ih Y.2 r1 r2
 unfold mZ;dsimp only;rw[hf,key U S X]
theorem GS{ql:Str}{Z:List Zi}{R:M D->List D->M D}(X:(Z.map (·.q.2.f)).Nodup){its:List D}:∀(Y:List Zi) (x:Option D),(∀z∈Y,z∈Z)->bI ⟨its,.none⟩ (gN 0) (λ_=>aC b_) (mZ ql Z R) (Y.map (·.it ql)) [x]=uT R (Y.map λz=>z.q.1.m (z.ds.map ar))
 |[],x,_=>by
  unfold bI uT;rw[show ia ⟨its,.none⟩=aC () by funext S;unfold ia;rw[if_pos (show Iter.okS ⟨its,.none⟩ S from trivial)];rfl];rfl
 |z::Y,x,h=>by
  rw[Nd,Nd];unfold bI uT;rw[show ia ⟨its,.none⟩=aC () by funext S;unfold ia;rw[if_pos (show Iter.okS ⟨its,.none⟩ S from trivial)];rfl,ah];show(gN 0 (z.it ql) [x]>>=_)=_;rw[show gN 0 (z.it ql) [x]=aC [ar (z.it ql)]from rfl,ah,ah,if_pos rfl,Kv X (h z (.head _))];congr 1;funext y;rw[GS X Y (ar (z.it ql)) λa W=>h a (.tail _ W)]
section
variable {X:Cx}{R call y ql:Str}{k k0 j:Nat}{ps:List Str}{RR:D->M D->List D->M D}{R':M D->List D->M D}{scope:Scope}{rp cp cpos tp ip pos:Pos}{P:List (LmS×FI)}
theorem FS{Z:List Zi}{σ:L2.St}{ρ:S3.aI}{b1:List c_}{H0:Hp}{S:List (c_×Obj)}{C:c_}{ex:List c_}{T:dn}{U:Hp}(d:RefX X.prog X.w X.K X.mg k (k0+1) R ps RR)(hR:∀f c es,RR f c es=R' c es)(hr:Room k X.A)(b5:∀x,X.fn x=b_)
  (hZ:∀z∈Z,ZOk X.K b1 H0 ρ σ z/\LmOk X ql k0 z.q.1/\B5 X.env.cells ql z.q∈S) (O:L2.Inv X S σ U T) (f3:∀b∈ex,mw X S U b)
  (hn:PA (aX X scope [call] C ex T U) [.Name call cp] (yO (xx 0) E3)) (hg:Gl (aX X scope [call] C ex T U) R) (a4:(R==("__debug__":Str))=dt)
  (he:d_ [.Name call cp] (aX X scope [call] C ex T U).env=[(dt,hJ (.Name call cp) (aX X scope [call] C ex T U).env)]):
  PE (aX X scope [call] C ex T U) (.Call (.Name R rp) [.Name call cp] [] cpos) (tM X.K eA (mZ ql Z R')):=by
 intro E s2 b0 g Q2 Ic hq;obtain⟨I,S2,B,rep2,b4,(W:cont X.K eA (mZ ql Z R' B) I S2 g (kB X.K Q2))⟩:=hq;obtain⟨fr,fd,hm,hk,hb,F⟩:=d.ex;obtain⟨dd,rfl⟩:∃dd,B=[ar dd]:=by
  match B,W with
  |[],W=>exact(ag W).elim
  |[none],W=>exact(ag W).elim
  |[ar dd],_=>exact⟨dd,rfl⟩
  |none::_::_,W=>exact(ag W).elim
  |some _::_::_,W=>exact(ag W).elim
 cases hf:findZ ql dd Z with
 |none=>
  unfold mZ at W;dsimp only at W;rw[hf]at W;exact(ag W).elim
 |some z=>
 unfold mZ at W;dsimp only at W;rw[hf]at W;dsimp only at W;obtain⟨hz,e⟩:=mL hf;subst e;obtain⟨zo,lo,L⟩:=hZ z hz;obtain⟨v,e1,rv⟩:=b4.get (i:=0) rfl;obtain⟨rfl,c4,a6⟩:v= .ref z.q.2.f/\g z.q.2.c=ar (.ext (oR ql z.q.2.c))/\RelDs X.K I g z.ds z.vs:=by
  cases rv with
  |fn h1 h2=>exact⟨rfl,h1,h2⟩
 refine OG (lz Ic hg hm ?_ a4);refine Qt (h₀:=X.base) Ic.ok.mod.kin hk (eJ (hn cpos E s2 b0 g (λws N=>ws=[.ref z.q.2.f]/\N=g) Ic ⟨_,e1,rfl,rfl⟩) λus s4 h4=>?_) he rfl;obtain⟨ws,N,J,c0,rfl,rfl⟩:=h4;obtain⟨u,rfl,ru⟩:=c0.one;cases ru;refine⟨J.kIn,?_⟩;obtain⟨po,pn,pl,pf,_⟩:=O.pin _ (Nj _ L);have kept:∀c o,T.heap.get? c=ar o->U c=none->c∉kl X.stack->c∉ex->(fY (aX X scope [call] C ex T U) N s4.heap).get? c=ar o:=λc o e n hs hx=>
  jV (J.base.keep c o e n hs hx) (J.base.free c o e n hx) hs
 have nf:z.q.2.f∉kl X.stack:=λw=>by
  rcases M9.mp (O.stkSub _ w)with w|w
  ·exact pl w
  ·exact pf w
 have nx:z.q.2.f∉ex:=λw=>(f3 _ w).2.2.2.2.2 _ (Nj _ L) rfl;have cellK:∀x c v,X.env.cells.lookup x=ar c->T.heap.IsCell c v->(fY (aX X scope [call] C ex T U) N s4.heap).IsCell c v:=λx c v e ⟨o,h1,h2⟩=>by
  refine⟨o,kept c o h1 (O.freeC x c e) (λw=>?_) (λw=>(f3 _ w).2.2.2.2.1 x c e rfl),h2⟩;rcases M9.mp (O.stkSub c w)with w|w
  ·exact O.cne x c e w
  ·obtain⟨_,ob,q,_⟩:=O.ok.funs.mem w;exact absurd (MZ q) (QG.mpr (O.ok.cab x c (b5 x) e))
 have ls:=lo.sc;have t:∀y∈z.q.1.scope.names,y.2= .free->∃a,X.env.cells.lookup y.1=ar a:=λy hy e=>O.ok.has y.1 (ls.free y hy e);have a5:=qc (cells:=X.env.cells) z.q.1.scope.names [] t (λ_ z=>nomatch z);have Y:∀y a,(jD X.env.cells z.q.1.scope.names []).lookup y=ar a->X.env.cells.lookup y=ar a:=λy a e=>a5 _ (lookup_mem e);have cp:Caps (fY (aX X scope [call] C ex T U) N s4.heap) z.q.1.scope (jD X.env.cells z.q.1.scope.names []) z.q.1.N3 z.vs:=by
  refine⟨ls.kind,ls.nocell,ls.co,ls.gen,λy w a e1 e2=>O.ok.inj y w a (Y y a e1) (Y w a e2),λy e=>mem_lookup (iM z.q.1.scope.names [] (.inl (bb e))),λy a e=>?_,by rw[zo.len];exact ls.len,λi y v e1 e2=>?_⟩
  ·obtain⟨v,w⟩:=O.cell y a (Y y a e);exact⟨v,cellK y a v (Y y a e) w⟩
  ·have b2:i<z.q.1.js.length:=by rw[<-zo.len];exact(MX.mp e2).1
   obtain⟨h,hj⟩:∃h,z.q.1.js[i]? =ar h:=⟨_,MY b2⟩;obtain⟨g1,g2⟩:=ls.ix i y h e1 hj;have hv:=zo.val i h v hj e2;have p:=ls.free (y,.free) (bb g2) rfl;have a0:EN X.env.scope y:=by
    rcases p with w|w
    ·exact .inr (.inl w)
    ·exact .inr (.inr w)
   obtain⟨mm,e7,hl⟩:=O.loc;obtain⟨u,ru,lk⟩:=hl h y v g1 hv a0;refine⟨g2,?_⟩;rcases lk with⟨w,_⟩|⟨_,a,ea,hca⟩
   ·have w':X.env.kindOf y=ar .local:=w;rcases p with w2|w2
    ·have l:X.env.kindOf y=ar .cell:=w2;rw[w']at l;cases l
    ·have l:X.env.kindOf y=ar .free:=w2;rw[w']at l;cases l
   ·obtain⟨a2,a3⟩:=mem_lookup (iM (cells:=X.env.cells) z.q.1.scope.names [] (.inl (bb g2)));have:=Y y a2 a3;rw[ea]at this;cases this;exact⟨a,u,a3,ru,cellK y a _ ea hca⟩
 have M4:Mod X.K X.mg (fY (aX X scope [call] C ex T U) N s4.heap):=iR (X:=aX X scope [call] C ex T U) J;have LO:LamOk X.prog X.w X.K X.mg (fY (aX X scope [call] C ex T U) N s4.heap) (k0+1) z.q.2.f (Jy X.K z.q.2.c ql z.ds z.vs z.q.1.m):=Dx (kept _ _ po pn nf nx) cp (lo.bd z.q.2.c _ z.q.2.pm z.q.2.ctv) λA outer s H Ek c3=>lo.lam _ M4 z.q.2.f z.q.2.c _ A outer s H Ek c3;have G:=F (fY (aX X scope [call] C ex T U) N s4.heap) M4 z.q.2.f z.q.2.c ql z.ds z.vs z.q.1.m LO;have sp:zI X.K RR z.q.2.f z.q.2.c ql z.ds z.vs z.q.1.m [.ref z.q.2.f] N Q2 E0:=⟨I,S2,[],[],rfl,rep2,c4,a6,.nil,by rw[hR];exact W⟩;have hlen:[eo z.q.2.f].length=ps.length:=by have:=G.len _ _ _ _ sp;rw[<-this];rfl
 refine Qe (OO (G.run X.A X.stack s4 N ⟨[.ref z.q.2.f],[]⟩ [.ref z.q.2.f] [.ref z.q.2.f] Q2 E0 hr (zJ (X:=aX X scope [call] C ex T U) J) (by have:=hb s4 [.ref z.q.2.f] J.kIn (by rw[NL];exact hlen);rw[NL]at this;exact this) (.cons rfl .nil) sp) λr s' Q=>?_);cases r with
 |error e=>obtain⟨_,_,_,_,_,_,_,_,_,_,_,_,_,_,_,w⟩:=Q;exact g_ w
 |ok fl=>
  cases fl with
  |ret u=>exact J.after Q
  |next=>exact g_ Q
  |brk=>exact g_ Q
  |cont=>exact g_ Q
theorem BA{T:List (c_×Obj)}{G:L2.St}{H J:Hp}{s:dn}{p:c_}{ι:List c_}{S:av}{ρ:S3.aI}{Q:VK}(d:RefX X.prog X.w X.K X.mg k (k0+1) R ps RR)(hR:∀f c es,RR f c es=R' c es)(hr:Room k X.A)(a4:∀x,X.fn x=b_)(hc:X.calm=b_)
  (hL:∀q∈P,LmOk X ql k0 q.1) (nd:(P.map (·.2.f)).Nodup) (N:P.length<=100) (c:CompScope X scope [call] [none]) (hy:PE X (.Name y ip) (xx j))
  (hG:∀C ex s H,SG (aX X scope [call] C ex s H) eA (.Name call tp) (gN 0)) (b:∀C ex s H,PA (aX X scope [call] C ex s H) [.Name call cp] (yO (xx 0) E3)) (hg:∀C ex s H,Gl (aX X scope [call] C ex s H) R) (i:(R==("__debug__":Str))=dt)
  (he:∀C ex s H,d_ [.Name call cp] (aX X scope [call] C ex s H).env=[(dt,hJ (.Name call cp) (aX X scope [call] C ex s H).env)]) (hs:∀x,k6 (.Name y ip) X.env x=aC x)
  (I:L2.Inv X (P.map (B5 X.env.cells ql)++T) G H s) (a3:G[j]? =ar (ar (.ref p))) (hp:H p=ar (.lst (P.map λq=>V.ref q.2.f))) (hb:J p=none) (a7:∀q∈P,H q.2.c=ar (.ext (oR ql q.2.c))) (O:∀a o,J a=ar o->(∀ps,o≠ .tbl ps)->H a=ar o) (a5:TabsOk X.K H)
  (W:Rep X.K ι J S) (re:RelE X.K ι J ρ G) (L:cont X.K eA (jo (P.map λq=>FR q.1) R' ρ) ι S J (kB X.K Q)):
  ee (fg X.prog X.w) X.A (hJ (.ListComp (.Call (.Name R rp) [.Name call cp] [] cpos) [⟨.Name call tp,.Name y ip,[],0⟩] scope pos) X.env) (EP X (P.map (B5 X.env.cells ql)++T) G Q) X.xe s:=by
 obtain⟨os,I1⟩:=S3.Inv.fz I [p];have x1:Ext ι J ι (lZ [p] os H):=⟨⟨[],by simp⟩,λa o e n t=>⟨by rw[qj (by rw[NP];exact aK e hb)];exact O a o e t,n⟩⟩;have rep1:Rep X.K ι (lZ [p] os H) S:=⟨W.nd,W.len,λkk a xs e1 e2=>let ⟨ws,g1,g2⟩:=W.get kk a xs e1 e2;⟨ws,by rw[qj (by rw[NP];exact aK g1 hb)];exact O _ _ g1 (by intro _ z;cases z),g2.later W x1⟩,a5.mono λa o e n=>bP e n⟩;have v:=re.later W x1;unfold jo at L;cases hcap:tO (P.map λq=>FR q.1) ρ with
 |none=>rw[hcap]at L;exact(ag L).elim
 |some l=>
 rw[hcap]at L;dsimp only at L;obtain⟨Z,U,rfl,F⟩:=rE v hcap;have r:(Z.map (·.q.2.f)).Nodup:=by
  have:Z.map (·.q.2.f)=P.map (·.2.f):=by rw[<-U,Nl];rfl
  rw[this];exact nd
 have hlen:Z.length<=100:=by rw[<-U,MS]at N;exact N
 have hZ:∀z∈Z,ZOk X.K ι (lZ [p] os H) ρ G z/\LmOk X ql k0 z.q.1/\B5 X.env.cells ql z.q∈P.map (B5 X.env.cells ql)++T:=λz hz=>by
  have u:z.q∈P:=by rw[<-U];exact OR hz
  exact⟨F z hz,hL _ u,Ob _ (OR u)⟩
 have rI:RelDs X.K ι (lZ [p] os H) (Z.map (·.it ql)) (P.map λq=>V.ref q.2.f):=by
  rw[<-U,Nl];have key:∀Y:List Zi,(∀z∈Y,z∈Z)->RelDs X.K ι (lZ [p] os H) (Y.map (·.it ql)) (Y.map ((λq:LmS×FI=>V.ref q.2.f)∘(·.q))):=λY=>by
   induction Y with
   |nil=>intro _;exact .nil
   |cons z Y ih=>
    intro h;have u:z.q∈P:=by rw[<-U];exact OR (h z (.head _))
    exact .cons (.fn (bP (a7 _ u) (by intro _ w;cases w)) (F z (h z (.head _))).rel) (ih λa ha=>h a (.tail _ ha))
  exact key Z λz h=>h
 have c2:cont X.K eA (do let it<-(aC ⟨Z.map (·.it ql),.none⟩:M Iter);let ys<-dq it (gN 0) (λ_=>aC b_) (mZ ql Z R') (gU [none] ρ);bj ys) ι S (lZ [p] os H) (kB X.K Q):=by
  rw[ah];have:dq ⟨Z.map (·.it ql),.none⟩ (gN 0) (λ_=>aC b_) (mZ ql Z R') (gU [none] ρ)=uT R' (Z.map λz=>z.q.1.m (z.ds.map ar)):=by unfold dq;rw[if_pos (by show(Z.map (·.it ql)).length<=lim;rw[MS];unfold lim;omega)];exact GS r Z none λz h=>h
  rw[this];exact gr L x1
 have rest:=aq (vX (X:=X) (mi:=λ_=>aC ⟨Z.map (·.it ql),.none⟩) (js:=[none]) (g:=gN 0) (t:=λ_=>aC b_) (m:=mZ ql Z R') rep1 v c2) .refl rep1 (JP X.K p) (oX rep1 (.inl ⟨os p,yo (NP.mpr rfl) hp⟩) rI);rw[eval_ListComp];refine qF (g:=Ju X.K eA (gN 0)) (tt:=Ff X.K eA λ_=>aC b_) (te:=tM X.K eA (mZ ql Z R')) none _ c hc (lB hy) (λC ex s3 B I3 f3=>⟨hG C ex s3 B,eX (X:=aX X scope [call] C ex s3 B) (E:=eA),FS d hR hr a4 hZ I3 f3 (b C ex s3 B) (hg C ex s3 B) i (he C ex s3 B)⟩) I1 ⟨_,a3,p,rfl,⟨_,.inl (.inr ⟨os p,yo (NP.mpr rfl) hp⟩)⟩,rest⟩ (λp C s' H' q hI b _=>?_) hs;obtain⟨m,hm⟩:=b;exact⟨m,hm,λh2 a6=>⟨.ref p,H',hI h2 a6,rfl,q⟩⟩
end
theorem RelE.forget{K:dV}{ι:List c_}{H:Hp}{u:Option V}:∀{ρ:S3.aI} {σ:L2.St} (i:Nat),RelE K ι H ρ σ->RelE K ι H (ρ.set i none) (σ.set i u)
 |_,_,_,.nil=>.nil
 |_,_,0,.cons _ t=>.cons (λd' z=>by cases z) t
 |_,_,i+1,.cons q t=>.cons q (RelE.forget i t)
section
variable {X:Cx}{os:List (c_×Obj)}
theorem Kw{e:Expr}{t:TE}(h:PE X e t):PE (pin X os) e t:=λpins s σ H Q I q=>eJ (h (os++pins) s σ H Q (iL I) q) λ_ _ ⟨v,H',I',r,q⟩=>⟨v,H',uU I',r,q⟩
theorem FT{Y:List (c_×Obj)}{T:Ends}{f:Flow}{s:dn}(S:SP (pin X os) Y T f s):SP X Y T f s:=by
 cases f with
 |next=>obtain⟨Z,W,U,q⟩:=S;exact⟨Z,W,nS (iL U),q⟩
 |brk=>obtain⟨Z,W,U,q⟩:=S;exact⟨Z,W,nS (iL U),q⟩
 |cont=>obtain⟨Z,W,U,q⟩:=S;exact⟨Z,W,nS (iL U),q⟩
 |ret u=>obtain⟨v,Z,W,U,r,q⟩:=S;exact⟨v,Z,W,nS (iL U),r,q⟩
end
structure LAt{α:Type}(K:dV)(ql:Str)(j:Nat)(P:List (LmS×FI))(c:S3.aI->M α)(Q:α->List c_->av->Hp->Prop)(σ:L2.St)(H:Hp)(p:c_)(ι:List c_)(S:av)(ρ:S3.aI)(Hb:Hp):Prop where
 hσ:σ[j]? =ar (ar (.ref p))
 hp:H p=ar (.lst (P.map λq=>V.ref q.2.f))
 hb:Hb p=none
 hc:∀q∈P,H q.2.c=ar (.ext (oR ql q.2.c))
 same:∀a o,Hb a=ar o->(∀ps,o≠ .tbl ps)->H a=ar o
 tab:TabsOk K H
 rep:Rep K ι Hb S
 re:RelE K ι Hb ρ σ
 c:cont K eA (c ρ) ι S Hb Q
abbrev Kx(j:Nat)(m:cY):cY:=λρ=>m (ρ.set j none)
def LJ(X:Cx)(ql:Str)(k0 j:Nat)(Ls:List LmS)(sts:List oo)(m:cY):Prop:=
 ∀P:List (LmS×FI),P.map (·.1)=Ls->(∀q∈P,LmOk X ql k0 q.1)->(P.map (·.2.f)).Nodup->∀(pins:List (c_×Obj)) (s:dn) (σ:L2.St) (H:Hp) (T:Ends),L2.Inv X (P.map (B5 X.env.cells ql)++pins) σ H s->(∃p ι S ρ Hb,LAt X.K ql j P m (EM X.K T) σ H p ι S ρ Hb)->
  ee (fg X.prog X.w) X.A (execs sts X.env) (SP X pins T) X.xe s
section
variable {X:Cx}{xl y ql:Str}{k0 j:Nat}{c Pt:c_}{L:LmS}{Ls:List LmS}{rest:List oo}{m:cY}{p1 lp lpos ap apos cpos epos:Pos}
theorem DN(l:xl∈cf)(b:kS X.K xl=ar (c,Pt))(Q:X.env.code= .ref c)(hq:X.env.qual++"<lambda>"=ql)(x:ql=xl++".<locals>.<lambda>")(B:BaseL X.K X.mg X.base)(TI:kP X.K)(w:LmOk X ql k0 L)(hN:X.N.Nodup)(n:X.N[j]? =ar y)(hl:Loc X.env.scope y)(g:X.fn y=b_\/X.env.scope.names.lookup y=ar .local)
  (h:LJ X ql k0 j [L] rest m) (he:d_ [.Lambda L.params L.body L.scope lp] X.env=[(dt,hJ (.Lambda L.params L.body L.scope lp) X.env)]:=by rfl) (hs:la (.List [.Lambda L.params L.body L.scope lp] lpos) (ar (.Name y p1)) ap.line X.env=aC false:=by rfl):
  um X eA (.Assign [.Name y p1] (.List [.Lambda L.params L.body L.scope lp] lpos) ap::rest) (Kx j m):=by
 intro pins s σ H T I h0;obtain⟨ι,S,ρ,rep,re,k⟩:=h0;refine Pg (wpAny_Assign_Name (wpAny_List_spliced (RD (ym l b Q hq x B TI (iq L.scope X.env λy hy e=>I.ok.has y.1 (w.sc.free y hy e)) w.df I rep.tab λf u Y pm F s1 C U O r P R p i=>QD ⟨show 1<=sizeLine by decide,?_⟩) he)) hs);have E:f<s1.heap.objs.size:=MZ O;have G:H s1.heap.objs.size=none:=I.hok.fresh (Oy (Py U E));have J:F s1.heap.objs.size=none:=C.hok.fresh (MV _);have A:L2.Inv X ([(L,(⟨f,u,pm,Y⟩:FI))].map (B5 X.env.cells ql)++pins) σ F s1:=C.pins_of λq Z=>by
  rcases M9.mp Z with rfl|Z
  ·exact⟨O,r,j' (Ng (Nf I.lt U)),I.nofs U,λv z=>by cases z⟩
  ·exact C.pin q (Nj _ Z)
 have d:L2.Inv X ([(L,(⟨f,u,pm,Y⟩:FI))].map (B5 X.env.cells ql)++pins) σ (upd F s1.heap.objs.size (.lst [.ref f])) {s1 with heap:=s1.heap.push {cls:=.type "list",data:=.seq [eo f].toArray}}:=
  A.laid (t':=s1.toks) (λ_ _ q=>MU _ q) (MV _) ⟨show 1<=sizeLine by decide,[.ref f],0,.cons rfl .nil,M6 _ rfl⟩
 refine mY d hN n hl (v:=.ref s1.heap.objs.size) rfl (λs3 I3=>?_) g;refine h [(L,⟨f,u,pm,Y⟩)] rfl (λq Z=>by rw[NP.mp Z];exact w) (QW _ _) pins s3 _ _ T I3 ⟨s1.heap.objs.size,ι,S,ρ.set j none,H,?_⟩;refine⟨NB (by rw[I.len];exact(MX.mp n).1),bo,G,λq Z=>?_,λa o e t=>?_,i.mono λa o e _=>by rw[aN (aK e J)];exact e,rep,RelE.forget j re,k⟩
 ·rw[NP.mp Z,aN (aK P J)];exact P
 ·rw[aN (aK e G)];exact R a o e t
theorem yr(hx:xl∈cf)(ht:kS X.K xl=ar (c,Pt))(O:X.env.code= .ref c)(hq:X.env.qual++"<lambda>"=ql)(d:ql=xl++".<locals>.<lambda>")(B:BaseL X.K X.mg X.base)(TI:kP X.K)(lo:LmOk X ql k0 L)(hy:PE X (.Name y p1) (xx j))(R:Ls.length<=100)
  (h:LJ X ql k0 j (Ls++[L]) rest m) (J:lx (.Name y p1) "append" X.env (hJ (.Name y p1) X.env)=hJ (.Name y p1) X.env:=by rfl)
  (G:(apos.endLine==cpos.line)=true:=by rfl) (l:d_ [.Lambda L.params L.body L.scope lp] X.env=[(dt,hJ (.Lambda L.params L.body L.scope lp) X.env)]:=by rfl) (hs:la (.Call (.Attribute (.Name y p1) "append" apos) [.Lambda L.params L.body L.scope lp] [] cpos) none epos.line X.env=aC false:=by rfl):
  LJ X ql k0 j Ls (.Expr (.Call (.Attribute (.Name y p1) "append" apos) [.Lambda L.params L.body L.scope lp] [] cpos) epos::rest) m:=by
 intro P hP g nd pins s σ H T I h0;obtain⟨p,ι,S,ρ,Hb,q⟩:=h0;refine Pg (Rb (wpAny_Call_method_late J (by rw[l];rfl) G rfl (eJ (hy _ s σ H (λx H'=>x= .ref p/\H'=H) I ⟨_,q.hσ,rfl,rfl⟩) λv s0 hv=>?_)) I.quiet hs);obtain⟨x,H0,E,r0,rfl,rfl⟩:=hv;cases r0;obtain⟨h1,h2⟩:=Ct (x:=.ref p) (v:=.ref p) E rfl (v9 (K:=X.K) q.hp);refine⟨"list","list.append",QS,QI,QJ,h1,h2,?_⟩;refine Calls.callWith_builtin (by show(r_ cpos (d_ [.Lambda L.params L.body L.scope lp] X.env)).any (·.1)=dt;rw[l];rfl) (P9 (RD (ym hx ht O hq d B TI (iq L.scope X.env λy hy e=>I.ok.has y.1 (lo.sc.free y hy e)) lo.df E q.tab λf c' Q pm A s1 u N i k F Z a6 hT=>QD ?_) l));have U:A p=ar (.lst (P.map λq=>V.ref q.2.f)):=Z p _ q.hp (by intro _ z;cases z);have r:L2.Inv X ((P++[(L,(⟨f,c',pm,Q⟩:FI))]).map (B5 X.env.cells ql)++pins) σ A s1:=u.pins_of λw hw=>by
  rw[NC,Nh]at hw;rcases NA.mp hw with hw|hw
  ·exact u.pin w (Nj _ (Ob _ hw))
  ·rcases NA.mp hw with hw|hw
   ·rw[NP.mp hw];exact⟨i,k,j' (Ng (Nf E.lt N)),E.nofs N,λv z=>by cases z⟩
   ·exact u.pin w (Nj _ (Nj _ hw))
 have hlen:P.length<=100:=by rw[<-hP,MS]at R;exact R
 refine eJ (oM _ s1 σ A (.ref p) [.ref f] (.ref p) [.ref f] (λ_ H3=>H3=upd A p (.lst ((P.map λq=>V.ref q.2.f)++[.ref f]))) r rfl (.cons rfl .nil) ⟨p,_,_,rfl,rfl,U,by rw[MS];exact Py hlen (by decide),rfl⟩) λ_ s3 h3=>?_;obtain⟨_,H3,I3,_,rfl⟩:=h3;have a4:((P++[(L,(⟨f,c',pm,Q⟩:FI))]).map (·.2.f)).Nodup:=by rw[NC,PP];refine⟨nd,QW _ _,λa ha b C e=>?_⟩;obtain⟨w,hw,rfl⟩:=Nm.mp ha;have e2:b=f:=NP.mp C;have:=MZ (E.pin (B5 X.env.cells ql w) (Nj _ (Ob _ (OR hw)))).1;have e3:w.2.f=f:=e.trans e2;rw[show(B5 X.env.cells ql w).1=f from e3]at this;exact absurd this (QG.mpr N)
 refine h (P++[(L,⟨f,c',pm,Q⟩)]) (by rw[NC,hP];rfl) (λq Y=>by
  rcases NA.mp Y with Y|Y
  ·exact g q Y
  ·rw[NP.mp Y];exact lo) a4 pins s3 _ _ T I3 ⟨p,ι,S,ρ,Hb,?_⟩
 have C:=q.hb;refine⟨q.hσ,by rw[bo,NC];rfl,C,λw hw=>?_,λa o e t=>?_,hT.mono λa o e n=>?_,q.rep,q.re,q.c⟩
 ·rcases NA.mp hw with hw|hw
  ·have e1:=Z _ _ (q.hc w hw) (by intro _ z;cases z);rw[aN (GA e1 U (by intro z;cases z))];exact e1
  ·rw[NP.mp hw,aN (GA F U (by intro z;cases z))];exact F
 ·rw[aN (aK e C)];exact Z a o (q.same a o e t) t
 ·rw[aN (λz=>by rw[z,U]at e;exact n _ (Nw e).symm)];exact e
end
section
variable {X:Cx}{R call y ql:Str}{k k0 j:Nat}{ps:List Str}{RR:D->M D->List D->M D}{R':M D->List D->M D}{scope:Scope}{rp cp cpos tp ip pos pos2 pos3:Pos}{Ls:List LmS}{rhs:Expr}{n:TM}{op:CmpOp}{f:D->D->M D}{r:R2}{a b rest:List oo}{ma mb mr:cY}
structure WalkOk(X:Cx)(ql:Str)(k k0 j:Nat)(Ls:List LmS)(R call y:Str)(ps:List Str)(RR:D->M D->List D->M D)(R':M D->List D->M D)(scope:Scope)(cp tp ip:Pos):Prop where
 d:RefX X.prog X.w X.K X.mg k (k0+1) R ps RR
 hR:∀f c es,RR f c es=R' c es
 hr:Room k X.A
 hfn:∀x,X.fn x=b_
 hc:X.calm=b_
 hlim:Ls.length<=100
 c:CompScope X scope [call] [none]
 hy:PE X (.Name y ip) (xx j)
 hG:∀C ex s H,SG (aX X scope [call] C ex s H) eA (.Name call tp) (gN 0)
 hn:∀C ex s H,PA (aX X scope [call] C ex s H) [.Name call cp] (yO (xx 0) E3)
 hg:∀C ex s H,Gl (aX X scope [call] C ex s H) R
 hdb:(R==("__debug__":Str))=dt
 he:∀C ex s H,d_ [.Name call cp] (aX X scope [call] C ex s H).env=[(dt,hJ (.Name call cp) (aX X scope [call] C ex s H).env)]
 hs:∀x,k6 (.Name y ip) X.env x=aC x
def My(X:Cx)(ql:Str)(j:Nat)(P:List (LmS×FI))(R':M D->List D->M D):TE:=λσ H Q=>∃p ι S ρ Hb,LAt X.K ql j P (jo (P.map λq=>FR q.1) R') (kB X.K Q) σ H p ι S ρ Hb
theorem DO{P:List (LmS×FI)}(w:WalkOk X ql k k0 j Ls R call y ps RR R' scope cp tp ip)(Y:P.map (·.1)=Ls)(Z:∀q∈P,LmOk X ql k0 q.1)(W:(P.map (·.2.f)).Nodup):
  PE (pin X (P.map (B5 X.env.cells ql))) (.ListComp (.Call (.Name R rp) [.Name call cp] [] cpos) [⟨.Name call tp,.Name y ip,[],0⟩] scope pos) (My X ql j P R'):=by
 intro pins s σ H Q I h;obtain⟨p,ι,S,ρ,U,q⟩:=h;exact eJ (BA (X:=X) (P:=P) w.d w.hR w.hr w.hfn w.hc Z W (by have:=w.hlim;rw[<-Y,MS]at this;exact this) w.c w.hy w.hG w.hn w.hg w.hdb w.he w.hs (iL I) q.hσ q.hp q.hb q.hc q.same q.tab q.rep q.re q.c) λ_ _ ⟨v,H',I',r,z⟩=>⟨v,H',uU I',r,z⟩
theorem IC{P:List (LmS×FI)}{U:L2.St}{H:Hp}{Q:VK}{α:Type}{g:S3.aI->D->M α}{J:α->List c_->av->Hp->Prop}(s:P.map (·.1)=Ls)(w:tj X.K eA f r){p:c_}{ι:List c_}{S:av}{ρ:S3.aI}{I:Hp}
  (q:LAt X.K ql j P (λρ=>jo (Ls.map FR) R' ρ>>=λx=>n ρ>>=λy=>f x y>>=g ρ) J U H p ι S ρ I)
  (A:∀z d Z S1 Y,Rep X.K Z Y S1->RelE X.K Z Y ρ U->RelD X.K Z Y d z->cont X.K eA (g ρ d) Z S1 Y J->Q z Y):Js r (My X ql j P R') (tM X.K eA n) U H Q:=by
 refine⟨p,ι,S,ρ,I,q.hσ,q.hp,q.hb,q.hc,q.same,q.tab,q.rep,q.re,?_⟩;rw[show(P.map λq=>FR q.1)=Ls.map FR by rw[<-s,Nl];rfl];refine ay (aj q.c) λd Z S1 Y e1 rep1 C v t=>?_;have W:=q.re.later q.rep e1;refine⟨Z,S1,ρ,rep1,W,ay (aj C) λB O S2 G e2 rep2 F v2 N=>?_⟩;refine w O S2 G d B v v2 Q rep2 (t.later rep1 e2) N (ay (aj F) λu T S3 l E rep3 o m L=>?_);exact A m u T S3 l rep3 ((W.later rep1 e2).later rep2 E) L o
theorem ID(w:WalkOk X ql k k0 j Ls R call y ps RR R' scope cp tp ip)(E:SE X eA rhs n)(O:∀os,jA (pin X os) (i_ op) r)(U:tj X.K eA f r)(W:k7 op rhs=false:=by first|exact qv _ (by decide) (by decide)|rfl):
  LJ X ql k0 j Ls [.Return (ar (.Compare (.ListComp (.Call (.Name R rp) [.Name call cp] [] cpos) [⟨.Name call tp,.Name y ip,[],0⟩] scope pos) [op] [rhs] pos2)) pos3] (cq (aU f (jo (Ls.map FR) R') n)):=by
 intro P Y Z F pins s σ H T I h0;obtain⟨p,ι,S,ρ,G,q⟩:=h0;refine eJ (t8 (Cb (yN (O _) (DO w Y Z F) (Kw E) W)) pins s σ H T (uU I) ?_) λ_ _ z=>FT z;have N:LAt X.K ql j P (λρ=>jo (Ls.map FR) R' ρ>>=λx=>n ρ>>=λy=>f x y>>=λz=>(aC (.ret z):M Out)) (EM X.K T) σ H p ι S ρ G:=by refine⟨q.hσ,q.hp,q.hb,q.hc,q.same,q.tab,q.rep,q.re,?_⟩;have:=q.c;unfold cq aU at this;simp only[fN]at this;exact this
 exact IC (g:=λ_ z=>(aC (Out.ret z):M Out)) Y U N λz d L S1 A rep1 C B J=>aq (Q:=EM X.K T) J .refl rep1 _ B
end
end S7
namespace S3
open PySem PySem.Spec PyProof.Rows L2
def BB:D->D->M D
 | .lst k,.int i=>do
  let xs<-getL k
  if -(2 ^ 62)<=i/\i<=1000/\xs.length<=1000 then bj (eb i.toNat xs).flatten else M.fail
 |_,_=>M.fail
section
variable {X:Cx}{E:XD}{a b:Expr}{m n:TM}{pos:Pos}
theorem RelDs.rep{K:dV}{ι:List c_}{H:Hp}{ds:List D}{vs:List V}(r:RelDs K ι H ds vs):∀k:Nat,RelDs K ι H (eb k ds).flatten (eb k vs).flatten
 |0=>.nil
 |k+1=>by rw[NK,NK,Oz,Oz];exact r.append (RelDs.rep r k)
theorem FU:tj X.K E BB J7:=by
 intro ι S H d1 O v1 v2 Q rep W U c;unfold BB at c;split at c
 ·next k i=>
  obtain⟨p,rfl,T⟩:=W.lst_inv;obtain⟨es,us,_,R,Y,Z⟩:=bx c rep T;split at Z
  ·next hb=>
   have P:=Y.length;refine⟨p,i,us,rfl,U.int_inv,R,by omega,by omega,M7 (Nat.mul_le_mul (show us.length<=1000 by omega) (show i.toNat<=1000 by omega)) (show 1000*1000<=sizeLine by decide),(bt Z rep (Y.rep i.toNat)).2⟩
  ·exact(ag Z).elim
 ·exact(ag c).elim
theorem IE(Y:SE X E a m)(Z:SE X E b n):SE X E (.BinOp a .Mult b pos) (λρ=>do let x<-m ρ;let y<-n ρ;BB x y):=qH HI FU Y Z
end
end S3
namespace W
open PySem PySem.Spec PyProof.Rows L2 S3 S4 S7
def rF:cY:=cq (pW (gx (mV 0) "int") (Mb (gx (mV 0) "bool")))
def dE:List D->M D:=mU 1 1 rF
def tP:cY:=cq (pW (gx (mV 0) "tuple") (aU km (di gn (mV 0)) (mK (.int 2))))
def eE:List D->M D:=mU 1 1 tP
def iS:gM:=kh
def iT:TM:=aU A1 (mV 0) (mV 1)
def pN:cY:=cq (di qP (aL (aW (pK (mV 0) (aL (wo (mV 0) (oS (mK (.int 1))) oN))) (dH 2 (aY (gN 0) (aY (gN 1) dQ))) iS iT [none,none])))
def dw:List D->M D:=mU 1 1 pN
def rG:cY:=cq (aU inD (ft (ae (az minD (ae (mV 1) (ae (mV 2) ak))) (ae (az maxD (ae (mV 1) (ae (mV 2) ak))) ak))) (aU cZ (mV 0) (mK (.int 1))))
def jZ:List D->M D:=mU 3 3 rG
def kU:cY:=aJ (lI (fP A1 (mV 1) (di gn (mV 0))) (cq (aU cZ (mV 0) (mV 1))) fS) (cq (mK (.int 0)))
def eS:List D->M D:=mU 2 2 kU
def pO:cY:=aJ (lI (bV (aU cZ (mV 0) (mK (.int 1)))) (aJ (bE 2 (aU mB (aU cZ (mV 0) (mK (.int 0))) (mV 1))) (aJ (rk (aU nj (aU cZ (mV 0) (mK (.int 0))) (mV 1)) (Li (mV 0) (mK (.int 0)))) (cq (mV 2)))) fS) (aJ (rk (aU mB (aU bK (aU uq (aU cZ (mV 0) (mK (.int 0))) (mK (.int 48271))) (mK (.int 29))) (mK (.int 2147483647))) (Li (mV 0) (mK (.int 0)))) (aJ (bE 3 (aU mB (aU bK (aU bK (aU uq (aU cZ (mV 0) (mK (.int 0))) (aU cZ (mV 0) (mK (.int 0)))) (aU uq (mK (.int 39373)) (aU cZ (mV 0) (mK (.int 0))))) (mK (.int 7))) (mK (.int 2147483629)))) (aJ (bE 3 (aU mB (aU bK (aU uq (mV 3) (mV 3)) (aU uq (mK (.int 16807)) (mV 3))) (mK (.int 2147483587)))) (cq (aU mB (aU nj (mV 3) (mK (.int 8))) (mV 1))))))
def aH:List D->M D:=mU 4 2 pO
def fF:gM:=kh
def fG:TM:=ft (ae (mV 1) (ae (mV 0) ak))
def ig:cY:=qh (uK ny (mV 1) (aL (aW (GN (aU bK (mV 2) (mK (.int 1))) (mV 0)) (gN 0) fF fG [none,ar 2])))
def nU:cY:=aJ (bE 1 (bc ak)) (aJ (iu (iY (mV 0)) (gN 2) ig) (cq (mV 1)))
def bD:List D->M D:=mU 3 1 nU
def pP:cY:=cq (aU inD (ft (ae (az minD (ae (mV 1) (ae (mV 2) ak))) (ae (az maxD (ae (mV 1) (ae (mV 2) ak))) ak))) (aU cZ (mV 0) (mK (.int 1))))
def fQ:List D->M D:=mU 3 3 pP
def gz:gM:=kh
def gC:TM:=ft (ae (mV 0) ak)
def gD:gM:=fP inD (mV 1) (mV 0)
def gE:TM:=mV 0
def gF:gM:=fP inD (mV 1) (mV 0)
def gG:TM:=mV 0
def dX:gM:=fP xQ (mV 0) (ft (ae (mV 1) (ae (mV 2) ak)))
def dY:TM:=mV 0
def dZ:cY:=aJ (bE 4 (aU cZ (aL (aW (cg (mV 1)) (gN 0) gD gE [none,ar 2])) (mK (.int 0)))) (aJ (bE 5 (aU cZ (aL (aW (cg (mV 1)) (gN 0) gF gG [none,ar 3])) (mK (.int 0)))) (lI (fP kL (mV 4) (mV 5)) (bE 1 (aL (aU bK (aL (aW (cg (mV 1)) (gN 0) dX dY [none,ar 4,ar 5])) (aL (bc (ae (di cK (aL (di gX (aL (aU bK (mV 4) (mV 5)))))) ak)))))) fS))
def l9:cY:=aJ (bE 1 (aL (aW (iY (aU cZ (mV 0) (mK (.int 0)))) (gN 0) gz gC [none]))) (aJ (iu (cg (aU cZ (mV 0) (mK (.int 1)))) (dH 2 (aY (gN 2) (aY (gN 3) dQ))) dZ) (cq (aL (di cb (mV 1)))))
def dF:List D->M D:=mU 6 1 l9
def rH:cY:=cq (pW (az dE (ae (mV 1) ak)) (Iu HP A1 (mK (.int 0)) (mV 1) (mV 0)))
def da:List D->M D:=mU 2 2 rH
def nV:cY:=aJ (bE 2 (az eS (ae (mV 0) (ae (mV 1) ak)))) (aJ (lI (fP L6 (mV 2) (aU qJ (mK (.int 10)) (mK (.int 18)))) (cq (bc (ae (aU iZ (mV 2) (aU qJ (mK (.int 10)) (mK (.int 18)))) (ae (mK (.bl b_)) ak)))) fS) (cq (bc (ae (aU mB (mV 2) (mK (.int 2147483647))) (ae (mK (.bl dt)) ak)))))
def iE:List D->M D:=mU 3 2 nV
def cN:cY:=qh (uK cO (mV 3) (uK oW (mV 2) (aL (az aH (ae (mV 0) (ae (di gn (mV 2)) ak))))))
def e9:cY:=aJ (bE 2 (di nv (mV 1))) (aJ (bE 3 (bc ak)) (aJ (Iv 64 (fP kL (mV 2) (aL (bc ak))) cN) (cq (mV 3))))
def d4:List D->M D:=mU 4 2 e9
def fj:cY:=aJ (bE 4 (aL (az aH (ae (mV 0) (ae (mV 1) ak))))) (aJ (bE 5 (aU mB (aU bK (aU bK (mV 4) (mK (.int 1))) (aL (az aH (ae (mV 0) (ae (aU iZ (mV 1) (mK (.int 1))) ak))))) (mV 1))) (qh (uK cO (mV 2) (ft (ae (az minD (ae (mV 4) (ae (mV 5) ak))) (ae (az maxD (ae (mV 4) (ae (mV 5) ak))) ak))))))
def fe:cY:=aJ (bE 1 (aU bK (mK (.int 8)) (aL (az aH (ae (mV 0) (ae (mK (.int 7)) ak)))))) (aJ (bE 2 (bc ak)) (aJ (iu (iY (aL (az aH (ae (mV 0) (ae (mK (.int 12)) ak))))) (gN 3) fj) (cq (ft (ae (mV 1) (ae (di cK (aL (di nL (mV 2)))) ak))))))
def cm:List D->M D:=mU 6 1 fe
def fZ:cY:=aJ (bE 1 (bc (aA (mK .non) (aA (mK (.int 0)) (aA (mK (.tup [])) (aA (mK (.tup [.int 15,.tup []])) (aA (mK (.tup [.int (-1),.tup []])) (aA (mK (.tup [.bl b_,.tup []])) (aA (ft (ae (mK (.int 2)) (ae (bc ak) ak))) (aA (bc (ae (mK (.int 2)) (ae (mK (.tup [])) ak))) (aA (mK (.tup [.int 2,.tup [.tup [.int 1,.int 0]]])) (aA (mK (.tup [.int 2,.tup [.tup [.int 0,.int 0]]])) (aA (mK .emp) (aA (mK (.str "2:")) ak)))))))))))))) (aJ (bE 1 (aU bK (mV 1) (bc (aA (mK (.tup [.int 2,.tup [.tup [.int 0,.int 1],.tup [.int 0,.int 1]]])) (aA (mK (.tup [.int 3,.tup [.tup [.int 0,.int 2],.tup [.int 0,.int 1]]])) (aA (mK (.tup [.int 2,.tup [.tup [.int 0,.int 2]]])) (aA (mK (.tup [.int 2,.tup [.tup [.int 0,.bl b_]]])) (aA (mK (.tup [.int 2,.tup [.tup [.int 0,.int 1,.int 1]]])) ak)))))))) (aJ (bE 1 (aU bK (mV 1) (bc (aA (mK (.tup [.int 2,.tup [.int 0,.int 1]])) (aA (mK (.tup [.int 2,.non])) (aA (mK (.tup [.int 2,.tup [],.tup []])) (aA (mK (.tup [.int 2])) (aA (ft (ae (mK (.int 2)) (ae (ft (ae (bc (ae (mK (.int 0)) (ae (mK (.int 1)) ak))) ak)) ak))) (aA (mK (.tup [.int 2,.tup [.non]])) (aA (mK (.tup [.str "2",.tup []])) (aA (mK (.tup [.int 0,.tup [.tup [.int 0,.int 1]]])) ak))))))))))) (cq (aU cZ (mV 1) (az aH (ae (mV 0) (ae (mK (.int 25)) ak)))))))
def eT:List D->M D:=mU 2 1 fZ
def rJ:cY:=aJ (lI (eR (bV (az eE (ae (mV 1) ak)))) (cq (mK (.bl dt))) fS) (aJ (rk (mV 1) (dH 2 (aY (gN 2) (aY (gN 3) dQ)))) (cq (pW (az da (ae (mV 0) (ae (mV 2) ak))) (pW (az da (ae (mV 0) (ae (mV 3) ak))) (aU A1 (mV 2) (mV 3))))))
def nW:List D->M D:=mU 4 2 rJ
def f7:gM:=kh
def f9:TM:=aL (az da (ae (mV 1) (ae (mV 0) ak)))
def pQ:cY:=cq (pW (gx (mV 1) "tuple") (pW (di qP (aL (aW (cg (mV 1)) (gN 0) f7 f9 [none,ar 0]))) (aL (az dw (ae (mV 1) ak)))))
def bZ:List D->M D:=mU 2 2 pQ
def jq:gM:=fP A1 (aL (az aH (ae (mV 1) (ae (mK (.int 8)) ak)))) (aU cZ (aL (bc (ae (mK (.int 2)) (ae (mK (.int 4)) (ae (mK (.int 6)) ak))))) (aU mB (mV 2) (mK (.int 3))))
def jr:TM:=mV 0
def gO:cY:=qh (uK cO (mV 4) (di cK (aL (di cb (aL (bc (ae (aU cZ (mV 5) (mV 6)) (ae (aU cZ (mV 5) (aU cZ (aL (bc (aA (aU iZ (mV 6) (mK (.int 1))) (aA (aU iZ (mV 6) (mK (.int 1))) (aA (mK (.int 0)) (aA (aU nj (mV 6) (mK (.int 2))) ak)))))) (aU iZ (mV 3) (mK (.int 3))))) ak))))))))
def fu:gM:=fP km (aL (az aH (ae (mV 1) (ae (mK (.int 12)) ak)))) (mK (.int 0))
def fw:TM:=mV 0
def gQ:gM:=fP kL (aU inD (mV 0) (mV 1)) (aU inD (mV 0) (mV 2))
def gR:TM:=mV 0
def j4:cY:=aJ (bE 2 (az maxD (ae (mK (.int 0)) (ae (aU iZ (mV 1) (aU cZ (aL (bc (aA (mK (.int 0)) (aA (mK (.int 0)) (aA (mK (.int 1)) (aA (mK (.int 0)) (aA (mK (.int 2)) (aA (mK (.int 1)) (aA (mK (.int 3)) (aA (mV 1) ak)))))))))) (aL (az aH (ae (mV 0) (ae (mK (.int 8)) ak)))))) ak)))) (aJ (bE 3 (aL (az aH (ae (mV 0) (ae (mK (.int 7)) ak))))) (aJ (bE 4 (aW (cg (aL (az bD (ae (mV 2) ak)))) (gN 0) jq jr [none,ar 0,ar 3])) (aJ (bE 5 (aL (az d4 (ae (mV 0) (ae (aL (di eh (mV 2))) ak))))) (aJ (lI (fP CK (mV 3) (mK (.int 2))) (aJ (bE 4 (bc ak)) (aJ (iu (GN (mK (.int 1)) (mV 2)) (gN 6) gO) (aJ (lI (Dl (fP km (mV 3) (mK (.int 4))) (fP CK (mV 2) (mK (.int 2)))) (qh (uK cO (mV 4) (di cK (aL (di cb (aL (bc (ae (aU cZ (mV 5) (mK (.int 0))) (ae (aU cZ (mV 5) (aU iZ (mV 2) (mK (.int 1)))) ak))))))))) fS) (aJ (bE 7 (aL (aW (cg (aL (az bD (ae (mV 2) ak)))) (gN 0) fu fw [none,ar 0]))) (bE 4 (aW (cg (aL (az bD (ae (mV 2) ak)))) (gN 0) gQ gR [none,ar 4,ar 7])))))) fS) (cq (ft (ae (mV 2) (ae (di cK (aL (di cb (mV 4)))) ak))))))))
def fH:List D->M D:=mU 8 2 j4
def jc:gM:=kh
def jd:TM:=aL (az nW (ae (mV 1) (ae (mV 0) ak)))
def rK:cY:=aJ (lI (eR (bV (aL (az eE (ae (mV 0) ak))))) (cq (mK (.bl dt))) fS) (aJ (rk (mV 0) (dH 2 (aY (gN 1) (aY (gN 2) dQ)))) (aJ (lI (B4 (eR (bV (aL (az dE (ae (mV 1) ak))))) (B4 (eR (yh HP HP (mK (.int 0)) (mV 1) (mK (.int 14)))) (eR (bV (gx (mV 2) "tuple"))))) (cq (mK (.bl dt))) fS) (cq (pW (di qP (aL (aW (cg (mV 2)) (gN 0) jc jd [none,ar 1]))) (aL (az dw (ae (mV 2) ak)))))))
def kX:List D->M D:=mU 3 1 rK
def rL:cY:=lI (eR (bV (aL (az kX (ae (mV 0) ak))))) (uR "NoWeb" (ae (mK (.str "this is no web")) ak)) fS
def cn:List D->M D:=pU 1 1 rL
def nX:cY:=aJ (qh (aL (az cn (ae (mV 0) ak)))) (lI (eR (bV (aL (az da (ae (aU cZ (mV 0) (mK (.int 0))) (ae (mV 1) ak)))))) (uR "NoPlace" (ae (mK (.str "this is no place of the web")) ak)) fS)
def gf:List D->M D:=pU 2 2 nX
def j5:gM:=fP inD (mV 1) (mV 0)
def j6:TM:=mV 0
def j8:gM:=kh
def j9:TM:=di gn (aL (aW (cg (mV 1)) (gN 0) j5 j6 [none,ar 0]))
def lK:cY:=aJ (qh (aL (az cn (ae (mV 0) ak)))) (aJ (rk (mV 0) (dH 2 (aY (gN 1) (aY (gN 2) dQ)))) (cq (FG (aW (iY (mV 1)) (gN 0) j8 j9 [none,ar 2]))))
def eF:List D->M D:=pU 3 1 lK
def kY:gM:=kh
def kZ:TM:=Lh (fP km (mV 0) (mV 1)) (mV 2) (mV 0)
def gY:cY:=aJ (bE 6 (az minD (ae (aU cZ (mV 3) (mV 4)) (ae (aU cZ (mV 3) (mV 5)) ak)))) (aJ (bE 7 (az maxD (ae (aU cZ (mV 3) (mV 4)) (ae (aU cZ (mV 3) (mV 5)) ak)))) (bE 3 (aL (FG (aW (cg (mV 3)) (gN 0) kY kZ [none,ar 7,ar 6])))))
def je:gM:=fP km (aU cZ (mV 1) (mV 0)) (mV 0)
def jf:TM:=mV 0
def k9:gM:=fP km (aU cZ (mV 1) (mV 0)) (mV 2)
def lg:TM:=mV 0
def lh:gM:=kh
def lj:TM:=di cK (aL (aW (iY (mV 1)) (gN 0) k9 lg [none,ar 2,ar 0]))
def nY:cY:=aJ (qh (aL (az cn (ae (mV 0) ak)))) (aJ (rk (mV 0) (dH 2 (aY (gN 1) (aY (gN 2) dQ)))) (aJ (bE 3 (aL (di eh (mV 1)))) (aJ (iu (cg (mV 2)) (dH 2 (aY (gN 4) (aY (gN 5) dQ))) gY) (aJ (Kr (bE 8 (aL (aW (iY (mV 1)) (gN 0) je jf [none,ar 3])))) (cq (FG (aW (cg (mV 8)) (gN 0) lh lj [none,ar 1,ar 3])))))))
def fx:List D->M D:=pU 9 1 nY
def jg:gM:=Dl (fP inD (mV 0) (mV 2)) (fP inD (mV 1) (mV 2))
def jh:TM:=ft (ae (mV 0) (ae (mV 1) ak))
def ji:gM:=kh
def jj:TM:=ft (ae (DM mJ (mV 2) (mV 0)) (ae (DM mJ (mV 2) (mV 1)) ak))
def wM:cY:=aJ (qh (aL (az cn (ae (mV 0) ak)))) (aJ (rk (mV 0) (dH 2 (aY (gN 2) (aY (gN 3) dQ)))) (aJ (lI (eR (bV (aL (az bZ (ae (mV 2) (ae (mV 1) ak)))))) (uR "NoPlaces" (ae (mK (.str "this is no rising tuple of places of the web")) ak)) fS) (aJ (Kr (bE 4 (aL (aW (cg (mV 3)) (dH 2 (aY (gN 0) (aY (gN 1) dQ))) jg jh [none,none,ar 1])))) (cq (ft (ae (di gn (mV 1)) (ae (di cK (aL (FG (aW (cg (mV 4)) (dH 2 (aY (gN 0) (aY (gN 1) dQ))) ji jj [none,none,ar 1])))) ak)))))))
def fy:List D->M D:=pU 5 2 wM
def pj:gM:=bV (aL (az jZ (ae (mV 1) (ae (mV 2) (ae (mV 0) ak)))))
def pk:TM:=mV 0
def uV:cY:=aJ (qh (aL (az gf (ae (mV 0) (ae (mV 1) ak))))) (cq (FG (aW (iY (aU cZ (mV 0) (mK (.int 0)))) (gN 0) pj pk [none,ar 0,ar 1])))
def jt:List D->M D:=pU 2 2 uV
def d5(F:List D->M D):gM:=kh
def d6(F:List D->M D):TM:=aL (az F (ae (mV 0) (ae (mV 1) ak)))
def dy(F:List D->M D):cY:=aJ (lI (bV (Kk (mV 1) "tuple" "list")) (aJ (lI (B4 (fP kL (gx (mV 0) "tuple") (gx (mV 1) "tuple")) (fP kL (gx (mV 0) "list") (gx (mV 1) "list"))) (cq (mK (.bl dt))) fS) (aJ (lI (fP kL (di gn (mV 0)) (di gn (mV 1))) (cq (mK (.bl dt))) fS) (cq (di qP (aL (aW (pK (mV 0) (mV 1)) (dH 2 (aY (gN 0) (aY (gN 1) dQ))) (d5 F) (d6 F) [none,none])))))) fS) (cq (pW (aU km (mV 0) (mV 1)) (aU km (gx (mV 0) "bool") (gx (mV 1) "bool"))))
def a8:Nat->List D->M D
 |0=>λ_=>M.fail
 |n+1=>mU 2 2 (dy (a8 n))
def cD:List D->M D:=a8 6
def cF:gM:=bV (aU cZ (mV 1) (mV 0))
def cG:TM:=mV 0
def gh(fv:D)(cc:M D):cY:=aJ (bE 1 (mK .non)) (aJ (wA 0 2 1 fv cc) (aJ (bE 3 (bc (ae (dW (mV 1) "NoWeb") (ae (dW (mV 1) "NoPlace") (ae (dW (mV 1) "NoPlaces") ak))))) (aJ (bE 3 (aU bK (mV 3) (aL (bc (ae (dW (mV 1) "NoMap") (ae (dW (mV 1) "NoSharing") (ae (dW (mV 1) "NoRoot") ak))))))) (aJ (bE 3 (aU bK (mV 3) (aL (bc (ae (dW (mV 1) "NoNumber") (ae (dW (mV 1) "NotJoined") (ae (dW (mV 1) "NoTie") ak))))))) (aJ (bE 3 (aU bK (mV 3) (aL (bc (ae (dW (mV 1) "NoText") (ae (dW (mV 1) "NoLine") (ae (dW (mV 1) "NoDeed") ak))))))) (aJ (qh (uK cO (mV 3) (dW (mV 1) "TooGreat"))) (aJ (lI (eR (bV (DE (mV 1)))) (cq (mK .non)) fS) (aJ (bE 4 (aL (aW (iY (mK (.int 13))) (gN 0) cF cG [none,ar 3]))) (cq (Lh (fP km (mV 4) (aL (bc (ae (mK (.int 12)) ak)))) (aL (aU bK (mV 4) (aL (bc (ae (pM dt (mV 1)) (ae (pM b_ (mV 1)) ak)))))) (mV 4)))))))))))
def bw:D->M D->List D->M D:=λfv cc es=>pU 5 1 (gh fv cc) (fv::es)
def aV:M D->List D->M D:=bw (.fn 0 0 "" [] [])
def cR:gM:=fP CK (aL (az aH (ae (mV 1) (ae (mK (.int 3)) ak)))) (mK (.int 0))
def cS:TM:=mV 0
def cT:gM:=bV (aL (az fQ (ae (mV 1) (ae (aU cZ (mV 2) (mV 0)) (ae (aU cZ (mV 2) (mV 3)) ak)))))
def cU:TM:=ft (ae (mV 0) (ae (mV 3) ak))
def bS:cY:=bE 3 (aL (aU bK (mV 3) (aL (aW (iY (mV 4)) (gN 0) cT cU [none,ar 1,ar 2,ar 4]))))
def cV:TM:=aL (az fy (ae (mV 0) (ae (mV 1) ak)))
def dM:cY:=aJ (bE 2 (di cK (aL (aW (iY (aU cZ (mV 1) (mK (.int 0)))) (gN 0) cR cS [none,ar 0])))) (aJ (bE 3 (aL (bc ak))) (aJ (iu (iY (di gn (mV 2))) (gN 4) bS) (aJ (lI (eR (bV (aL (az cD (ae (aL (az fy (ae (mV 1) (ae (mV 2) ak)))) (ae (ft (ae (di gn (mV 2)) (ae (di cK (aL (di cb (mV 3)))) ak))) ak)))))) (cq (mK (.bl dt))) fS) (aJ (bE 5 (aL (az aH (ae (mV 0) (ae (aU bK (di gn (mV 2)) (mK (.int 1))) ak))))) (aJ (bE 6 (aU cZ (aL (bc (aA (aU cZ (mV 1) (mK (.int 0))) (aA (mK (.int (-1))) (aA (mK (.bl b_)) (aA (mK .non) (aA (mK (.str "0")) (aA (mK (.tup [.int 0])) (aA (aU qJ (mK (.int 10)) (mK (.int 29))) ak))))))))) (aL (az aH (ae (mV 0) (ae (mK (.int 7)) ak)))))) (aJ (bE 7 (aL (bc (aA (aL (aU bK (aL (aU bK (aL (wo (mV 2) oN (oS (mV 5)))) (ft (ae (mV 6) ak)))) (aL (wo (mV 2) (oS (mV 5)) oN)))) (aA (aL (aU bK (aL (aU bK (aL (wo (mV 2) oN (oS (mV 5)))) (ft (ae (mV 6) ak)))) (aL (wo (mV 2) (oS (aU bK (mV 5) (mK (.int 1)))) oN)))) (aA (aL (di nv (mV 2))) (aA (mK .non) (aA (mK .emp) (aA (mK (.int 0)) (aA (mK (.tup [.int 1,.int 0])) (aA (mK (.tup [.int 0,.int 0])) ak))))))))))) (aJ (bE 7 (aU cZ (mV 7) (aL (az aH (ae (mV 0) (ae (mK (.int 8)) ak)))))) (cq (aU km (aL (uQ [1,7] ak cV aV)) (aL (bc (ae (mK (.int 2)) ak))))))))))))
def bX:List D->M D:=mU 8 2 dM
def dG:TM:=aL (az jt (ae (mV 0) (ae (mV 1) ak)))
def cu:TM:=aL (az jt (ae (mV 0) (ae (mV 1) ak)))
def cw:TM:=aL (az eF (ae (mV 0) ak))
def cy:TM:=aL (az fx (ae (mV 0) ak))
def cz:TM:=aL (az fy (ae (mV 0) (ae (mV 1) ak)))
def dh:cY:=aJ (Bp 2 3 (ae (aL (az eT (ae (mV 0) ak))) (ae (aU cZ (aL (bc (aA (aU cZ (mV 1) (mK (.int 0))) (aA (mK (.int (-1))) (aA (mK (.bl b_)) (aA (mK .non) (aA (mK (.str "0")) (aA (mK (.tup [.int 0])) (aA (aU qJ (mK (.int 10)) (mK (.int 29))) ak))))))))) (aL (az aH (ae (mV 0) (ae (mK (.int 7)) ak))))) ak))) (aJ (lI (fP kL (aL (uQ [1,3] ak dG aV)) (aL (bc (ae (mK (.int 1)) ak)))) (cq (mK (.bl dt))) fS) (Kx 4 (cq (aU km (jo [([2,3],cu),([2],cw),([2],cy),([2,3],cz)] aV) (aL (aU BB (bc (ae (aL (bc (ae (mK (.int 0)) ak))) ak)) (mK (.int 4))))))))
def bL:List D->M D:=mU 5 2 dh
def nZ:gM:=bV (aL (az fQ (ae (mV 1) (ae (mV 2) (ae (mV 0) ak)))))
def n0:TM:=mV 0
def n4:cY:=qh (uK cO (mV 4) (aL (aW (iY (aU cZ (mV 3) (mK (.int 0)))) (gN 0) nZ n0 [none,ar 3,ar 5])))
def iU:gM:=kh
def iV:TM:=az jt (ae (mV 1) (ae (mV 0) ak))
def iW:gM:=kh
def iX:TM:=di gn (mV 0)
def n8:cY:=qh (uK cO (mV 8) (mK (.int 0)))
def ll:cY:=aJ (bE 7 (aU bK (aW (iY (aU cZ (mV 3) (mK (.int 0)))) (gN 0) iU iV [none,ar 3]) (bc (ae (az eF (ae (mV 3) ak)) (ae (az fx (ae (mV 3) ak)) ak))))) (aJ (lI (eR (bV (aL (az cD (ae (mV 7) (ae (aL (aU bK (mV 4) (aL (bc (ae (aL (aW (cg (mV 4)) (gN 0) iW iX [none])) (ae (aL (az dF (ae (mV 3) ak))) ak)))))) ak)))))) (cq (mK (.bl dt))) fS) (iu (cg (mV 7)) (gN 8) n8))
def jJ:cY:=aJ (bE 4 (bc ak)) (aJ (iu (iY (aU cZ (mV 3) (mK (.int 0)))) (gN 5) n4) (aJ (iu (iY (mK (.int 2))) (gN 6) ll) (lI (B4 (eR (bV (aL (az bX (ae (mV 2) (ae (mV 3) ak)))))) (eR (bV (aL (az bL (ae (mV 2) (ae (mV 3) ak))))))) (cq (mK (.bl dt))) fS)))
def jK:cY:=aJ (bE 2 (az iE (ae (mV 0) (ae (mV 1) ak)))) (iu (cg (aL (bc (ae (aL (az fH (ae (mV 2) (ae (mK (.int 7)) ak)))) (ae (aL (az cm (ae (mV 2) ak))) ak))))) (gN 3) jJ)
def DP:cY:=aJ (iu (iY (az maxD (ae (mK (.int 1)) (ae (az minD (ae (di gn (mV 0)) (ae (mK (.int 8)) ak))) ak)))) (gN 1) jK) (cq (mK (.bl b_)))
def tQ:List D->M D:=mU 9 1 DP
theorem pq:2<=lim:=by unfold lim;omega
theorem Ky:3<=lim:=by unfold lim;omega
theorem Kz:GH (ar d::r) 0=aC d:=rfl
theorem KB:GH (o0::ar d::r) 1=aC d:=rfl
theorem KC:GH (o0::o1::ar d::r) 2=aC d:=rfl
theorem KD:GH (o0::o1::o2::ar d::r) 3=aC d:=rfl
theorem KF:GH (o0::o1::o2::o3::ar d::r) 4=aC d:=rfl
theorem jk:gm S n (.int i)=ar (.int i):=by cases n<;>rfl
theorem pv:gm S n (.bl b)=ar (.bool b):=by cases n<;>rfl
theorem eq_int{Q:D->av->Prop}:runs (km (.int a) (.int b)) S Q↔Q (.bl (decide (a=b))) S:=by
 unfold km;rw[fX jk jk];have:f' (.int a) (.int b)=decide (a=b):=by simp only[f'];rw[OB];simp
 rw[this]
theorem wN(l:List Bool):boolsOf (l.map D.bl)=ar l:=by
 induction l with
 |nil=>rfl
 |cons b l ih=>simp[boolsOf,ih]
theorem bJ:(S++[xs])[S.length]? =ar xs:=by simp
theorem KG{Q:D->av->Prop}:runs (km (.bl a) (.bl b)) S Q↔Q (.bl (a==b)) S:=by
 unfold km;rw[fX pv pv];have:f' (.bool a) (.bool b)=(a==b):=by cases a<;>cases b<;>simp[f']
 rw[this]
theorem BC{α:Type}(a:α):lV (aC a:M α)=aC a:=rfl
theorem FV{α Z:Type}{c:Prop} [Decidable c]{a b:M α}{f:α->M Z}:((if c then a else b)>>=f)=if c then a>>=f else b>>=f:=by split<;>rfl
theorem dz{α:Type}(l:List α):l.filter (λ_=>b_)=l:=Qm.mpr λ_ _=>rfl
theorem fq{m:cY}{ds:List D}(h:m (ds.map ar++eb (N - n) none)=aC o)(Y:outD o=aC d)(Z:ds.length=n:=by rfl):mU N n m ds=aC d:=by unfold mU pU;rw[if_pos Z];show(lV (m _)>>=outD)=_;rw[h,BC,ah,Y]
theorem DQ{m n:TM}(Z:m ρ=aC x)(Y:n ρ=aC y):GN m n ρ=lG [x,y]:=by
 have:ae m (ae n ak) ρ=aC [x,y]:=by unfold ae;rw[Z,ah,Y,ah];rfl
 unfold GN;rw[this,ah]
theorem uW{m:TM}(Z:m ρ=aC x):iY m ρ=mD [x]:=by
 have:ae m ak ρ=aC [x]:=by unfold ae;rw[Z,ah];rfl
 unfold iY;rw[this,ah]
theorem KI(h: -(2 ^ 62)<=i/\i<2 ^ 62/\ -(2 ^ 62)<=j/\j<2 ^ 62):lG [.int i,.int j]=aC ⟨bq i (j - i).toNat,.none⟩:=by unfold lG;exact if_pos h
theorem DR(h: -(2 ^ 62)<=j/\j<2 ^ 62):mD [.int j]=aC ⟨bq 0 j.toNat,.none⟩:=by unfold mD;exact if_pos h
theorem b7{f:D->D->M D}{m n:TM}(Z:m ρ=aC x)(Y:n ρ=aC y):aU f m n ρ=f x y:=by unfold aU;rw[Z,ah,Y,ah]
theorem fA{f:List D->M D}{m:TM}(h:m ρ=aC x):di f m ρ=f [x]:=by
 have:ae m ak ρ=aC [x]:=by unfold ae;rw[h,ah];rfl
 unfold di az;rw[this,ah]
theorem eN{m:TM}(h:m ρ=aC x):cq m ρ=aC (.ret x):=by unfold cq;rw[h];rfl
theorem rM(bs:List Bool):bF 0 (bs.map D.bl)=true:=by
 induction bs with
 |nil=>rfl
 |cons x r ih=>rw[Nd];unfold bF;rw[ih];unfold fi;rfl
theorem oa{mi:aI->M Iter}{g:oH}{t:gM}{m:TM}(R:aI->Prop)(q:D->Bool)(f:D->D)(W:mi ρ=aC ⟨its,.none⟩)(Z:its.length<=lim)(Y:R (gU js ρ))(U:∀d∈its,∀ ρ,R ρ->∃ ρ1,g d ρ=aC ρ1/\R ρ1/\t ρ1=aC (q d)/\(q d=b_->m ρ1=aC (f d)))
  (X:bF 0 ((its.filter q).map f)=b_):aL (aW mi g t m js) ρ=aC (.fz ((its.filter q).map f)):=by
 have e:aW mi g t m js ρ=bj ((its.filter q).map f):=by unfold aW;rw[W,ah,FO R q f Z Y U,ah]
 unfold aL;rw[e];exact bR X (by rw[MS];exact M7 (Np _ _) Z)
section
variable {m n:cY}{ρ ρ':aI}{e e1 e2:TM}{x y d:D}{t:gM}{b:Bool}{o:Out}{N k:Nat}{ds:List D}{F:List D->M D}
theorem a9(h:m ρ=aC (.nx ρ')):aJ m n ρ=n ρ':=by unfold aJ;rw[h];rfl
theorem og(h:m ρ=aC (.ret d)):aJ m n ρ=aC (.ret d):=by unfold aJ;rw[h];rfl
theorem fI(h:m ρ=M.raise x):aJ m n ρ=M.raise x:=by unfold aJ;rw[h];rfl
theorem tR(h:e ρ=aC x):qh e ρ=aC (.nx ρ):=by unfold qh;rw[h];rfl
theorem jL(h:e ρ=M.raise x):qh e ρ=M.raise x:=by unfold qh;rw[h];rfl
theorem fJ(h:e ρ=aC x):bE i e ρ=aC (.nx (ρ.set i (ar x))):=by unfold bE;rw[h];rfl
theorem dI(h:t ρ=aC b):lI t m n ρ=if b=b_ then m ρ else n ρ:=by unfold lI;rw[h];rfl
theorem eu{f:D->D->M D}(Z:e1 ρ=aC x)(Y:e2 ρ=aC y)(h:f x y=aC (.bl b)):fP f e1 e2 ρ=aC b:=by unfold fP;rw[Z,ah,Y,ah,h];rfl
theorem d9(h:e ρ=aC x):az F (ae e ak) ρ=F [x]:=fA h
theorem mM(h:e ρ=aC x):aL e ρ=aC x:=by unfold aL;rw[h];exact FM
theorem B6(h:e ρ=M.raise x):aL e ρ=M.raise x:=by unfold aL;rw[h];exact DI
theorem yt(h:m (ds.map ar++eb (N - k) none)=aC o)(Y:outD o=aC d)(Z:ds.length=k:=by rfl):pU N k m ds=aC d:=by unfold pU;rw[if_pos Z,h,ah,Y]
theorem ff(h:m (ds.map ar++eb (N - k) none)=M.raise x)(Z:ds.length=k:=by rfl):pU N k m ds=M.raise x:=by unfold pU;rw[if_pos Z,h];rfl
end
theorem tS:lV (bj us)=bj us:=by
 funext S;unfold lV bj;by_cases h:us.length<=lim
 ·rw[if_pos h]
 ·rw[if_neg h]
theorem call2{F:List D->M D}{e1 e2:TM}(Y:e1 ρ=aC x)(Z:e2 ρ=aC y):az F (ae e1 (ae e2 ak)) ρ=F [x,y]:=by
 have:ae e1 (ae e2 ak) ρ=aC [x,y]:=by unfold ae;rw[Y,ah,Z,ah];rfl
 unfold az;rw[this,ah]
theorem il{e:TM}(h:e ρ=aC (.bl b)):bV e ρ=aC b:=by unfold bV;rw[h];rfl
theorem lq{us:List D}(h:us.length<=lim):cK [.fz us]=aC (.tup us):=by show bH us=_;unfold bH;rw[if_pos h]
section
variable {α β:Type}{c:M α}{f:α->M β}{S S1:av}{a:α}
theorem aD(h:c S=ar (.ok a,S1)):(c>>=f) S=f a S1:=by show M.bnd c f S=_;unfold M.bnd;rw[h]
end
section
variable {m n:cY}{ρ ρ':aI}{e e1 e2:TM}{x y:D}{S S1 S2:av}{c:M D}{f:D->List D->M D}{F:List D->M D}
theorem aQ(h:m ρ S=ar (.ok (.nx ρ'),S1)):aJ m n ρ S=n ρ' S1:=aD h
theorem rN(h:e ρ S=ar (.ok x,S1)):qh e ρ S=ar (.ok (.nx ρ),S1):=aD h
theorem b9(h:e ρ S=ar (.ok x,S1)):bE i e ρ S=ar (.ok (.nx (ρ.set i (ar x))),S1):=aD h
theorem gH(h:e ρ S=ar (.ok x,S1)):cq e ρ S=ar (.ok (.ret x),S1):=aD h
theorem cA{us:List D}(h:us.length<=lim):bj us S=ar (.ok (.lst S.length),S++[us]):=by unfold bj;exact if_pos h
theorem cH(h:S[p]? =ar us):getL p S=ar (.ok us,S):=by unfold getL;rw[h];rfl
theorem kb{us:List D}(h:us.length<=lim)(Z:p<S.length):lU p us S=ar (.ok .non,S.set p us):=by unfold lU;exact if_pos ⟨h,Z⟩
theorem KJ(Z:e1 ρ=aC x)(Y:HW x=aC ())(X:e2 ρ=c):uK f e1 e2 ρ=c>>=λy=>f x [y]:=by unfold uK;rw[Z,ah,Y,ah,X,fN];rfl
theorem rO(h:e ρ S=ar (.ok x,S1)):di F e ρ S=F [x] S1:=by unfold di az;rw[aD (a:=[x]) (S1:=S1)];show(e ρ>>=_) S=_;rw[aD h];rfl
theorem yu(Z:e1 ρ S=ar (.ok x,S1))(Y:e2 ρ S1=ar (.ok y,S2)):ft (ae e1 (ae e2 ak)) ρ S=ar (.ok (.tup [x,y]),S2):=by
 unfold ft;rw[aD (a:=[x,y]) (S1:=S2)]
 ·unfold bH;rw[if_pos (show[x,y].length<=lim from pq)];rfl
 ·show(e1 ρ>>=_) S=_;rw[aD Z];show(((e2 ρ>>=_)>>=_):M (List D)) S1=_;rw[aD (a:=[y]) (S1:=S2)]
  ·rfl
  ·rw[aD Y];rfl
end
theorem gS:eQ ⟨its,.none⟩ g b [] ρ=aC (.nx ρ):=by unfold eQ;rw[cC];rfl
theorem kc{g:oH}{b:cY}(h:g d ρ=aC ρ1)(Z:b ρ1 S=ar (.ok (.nx ρ2),S1)):eQ ⟨its,.none⟩ g b (d::ds) ρ S=eQ ⟨its,.none⟩ g b ds ρ2 S1:=by rw[eQ,cC,ah,h,ah,aD Z]
theorem fK{m:cY}{ds:List D}(h:m (ds.map ar++eb (N - n) none) S=ar (.ok o,S1))(Y:outD o=aC d)(Z:ds.length=n:=by rfl):mU N n m ds S=ar (.ok d,S1):=by
 unfold mU pU;rw[if_pos Z,aD (a:=o) (S1:=S1),Y]
 ·rfl
 ·show lV (m _) S=_;unfold lV;rw[h]
theorem rP{mi:aI->M Iter}(Z:mi ρ=aC ⟨its,.none⟩)(h:eQ ⟨its,.none⟩ g b its ρ S=ar (.ok o,S1)):iu mi g b ρ S=ar (.ok o,S1):=by unfold iu;rw[Z,ah];exact h
theorem MN:km (.int i) (.int i)=aC (.bl b_):=bN λS=>eq_int.mpr ⟨by rw[Nb rfl],rfl⟩
theorem MO:km (.bl b) (.bl b)=aC (.bl b_):=bN λS=>KG.mpr ⟨by rw[beq_self_eq_true],rfl⟩
theorem Mg:kL (.bl b) (.bl b)=aC (.bl dt):=bN λS=>by unfold kL;refine(fX pv pv).mpr ⟨?_,rfl⟩;cases b<;>rfl
theorem Mz:kL (.int i) (.int i)=aC (.bl dt):=bN λS=>by unfold kL;refine(fX jk jk).mpr ⟨?_,rfl⟩;simp[f']
theorem rQ{bs:List Bool}:qP [.fz (bs.map D.bl)]=aC (.bl (bs.all id)):=by show(match boolsOf (bs.map D.bl)with|some bs=>(aC (D.bl (bs.all id)):M D)|none=>M.fail)=_;rw[wN]
theorem wO:∀{xs:List D},d∈(xs.zip xs).map (λp:D×D=>D.tup [p.1,p.2])->∃x∈xs,d= .tup [x,x]
 | x::r,h=>by
  rw[O0,Nd,M9]at h;rcases h with rfl|h
  ·exact⟨x,.head _,rfl⟩
  ·obtain⟨y,Z,e⟩:=wO h;exact⟨y,.tail _ Z,e⟩
theorem aP{e:TM}{es:aI->M (List D)}(Z:e ρ=aC x)(Y:es ρ=aC ys):ae e es ρ=aC (x::ys):=by unfold ae;rw[Z,ah,Y];rfl
theorem wQ{g:oH}{t:aI->M Bool}{m:TM}(R:aI->Prop)(q:D->Bool):∀(items:List D) (ρ:aI),R ρ->(∀d∈items,∀ ρ,R ρ->∃Z,g d ρ=aC Z/\R Z/\t Z S=ar (.ok (q d),S)/\m Z=aC d)->
  bI ⟨its,.none⟩ g t m items ρ S=ar (.ok (items.filter q),S)
 |[],ρ,_,_=>by unfold bI;rw[cC];rfl
 |d::ds,ρ,hR,hb=>by
  obtain⟨Z,e1,Y,e2,W⟩:=hb d (Ni ..) ρ hR;have X:=wQ (its:=its) R q ds Z Y λx U=>hb x (M3 _ U);unfold bI;rw[cC,ah,e1,ah,aD e2];cases hq:q d with
  |true=>rw[Ow hq,if_pos rfl,W,ah,aD X];rfl
  |false=>rw[Ox (by rw[hq];decide),if_neg (by decide),X]
section
variable {e1 e2:TM}{f:D->D->M D}{x y:D}{S S1 S2:av}{ρ:aI}{F:List D->M D}
theorem fR(Z:e1 ρ S=ar (.ok x,S1))(Y:e2 ρ S1=ar (.ok y,S2)):aU f e1 e2 ρ S=f x y S2:=by unfold aU;rw[aD Z,aD Y]
theorem bO{es:aI->M (List D)}(Z:e1 ρ S=ar (.ok x,S1))(Y:es ρ S1=ar (.ok ys,S2)):ae e1 es ρ S=ar (.ok (x::ys),S2):=by unfold ae;rw[aD Z,aD Y];rfl
theorem DS(h:S[p]? =ar us)(Z:mx us j=ar x):cZ (.lst p) (.int j) S=ar (.ok x,S):=by show(getL p>>=λxs=>match mx xs j with|some d=>(aC d:M D)|none=>M.fail) S=_;rw[aD (cH h),Z];rfl
theorem ju{es:aI->M (List D)}(h:es ρ S=ar (.ok ys,S1))(Z:ys.length<=lim):bc es ρ S=ar (.ok (.lst S1.length),S1++[ys]):=by unfold bc;rw[aD h];exact cA Z
theorem zV(Y:S[a]? =ar xs)(X:S[b]? =ar ys)(Z:(xs++ys).length<=lim):bK (.lst a) (.lst b) S=ar (.ok (.lst S.length),S++[xs++ys]):=by show(getL a>>=λxs=>getL b>>=λys=>bj (xs++ys)) S=_;rw[aD (cH Y),aD (cH X)];exact cA Z
end
def yw:D->Bool
 | .int _=>b_
 |_=>dt
abbrev zW(d:D):Prop:=HV d=b_
def rR:D->Bool
 | .tup [_,_]=>b_
 |_=>dt
def ez(many:Int):D->Bool
 | .int i=>decide (0<=i) && decide (i<many)
 |_=>dt
def ko(many:Int):D->Bool
 | .tup [a,b]=>ez many a && (ez many b && match a,b with| .int i,.int j=>decide (i<j)|_,_=>dt)
 |_=>dt
def Mh(d:D):Prop:=zW d/\∀ds,d= .tup ds->∀x∈ds,zW x
theorem lL(h:ez many d=b_):∃i,d= .int i/\0<=i/\i<many:=by
 cases d with
 |int i=>exact⟨i,rfl,by simpa [ez]using h⟩
 |_=>cases h
def uX:D->D->Bool
 | .tup xs,.tup ys=>match intsOf xs,intsOf ys with
  |some a,ar b=>HT.lexLt a b
  |_,_=>dt
 |_,_=>dt
def uY:List D->Bool
 |a::b::r=>uX a b && uY (b::r)
 |_=>b_
def zX(d:D):Prop:=∃ds ns,d= .tup ds/\intsOf ds=ar ns
theorem zY:∀l:List D,((l.zip (l.drop 1)).map λp=>uX p.1 p.2).all id=uY l
 |[]=>rfl
 |[_]=>rfl
 |a::b::r=>by
  have:=zY (b::r);simp only[List.drop_succ_cons,List.drop_zero,List.zip_cons_cons,Rn,Rq,id]at this⊢;rw[uY, <-this]
theorem KL(l:List D):S3.cutD l (ar 1) none=l.drop 1:=by
 unfold S3.cutD HT.sIx;cases l with
 |nil=>rfl
 |cons a r=>simp
def Lj(d:D):Prop:=zW d/\∀ds,d= .tup ds->∀x∈ds,zW x/\∀ts,x= .tup ts->∀t∈ts,Mh t
def iF:D->Bool
 | .tup [.int many,.tup ties]=>decide (0<=many) && (decide (many<=14) && (ties.all (ko many) && uY ties))
 |_=>dt
theorem FW(h:ko many d=b_):∃i j,d= .tup [.int i,.int j]/\0<=i/\i<j/\j<many:=by
 unfold ko at h;split at h
 ·next a b=>
  simp only[j_]at h;obtain⟨Y,X,Z⟩:=h;obtain⟨i,rfl,U,T⟩:=lL Y;obtain⟨j,rfl,S,W⟩:=lL X;simp only[decide_eq_true_eq]at Z;exact⟨i,j,rfl,U,Z,W⟩
 ·cases h
theorem BD(h:ko many d=b_):zX d:=by obtain⟨i,j,rfl,_⟩:=FW h;exact⟨_,[i,j],rfl,rfl⟩
section
variable {many:Int}{d:D}{ρ:aI}{e1 e2:TM}{b:Bool}{y:D}
theorem and_eq(Z:e1 ρ=aC (.bl b))(X:b=b_->e2 ρ=aC y)(Y:b=dt->y= .bl dt):pW e1 e2 ρ=aC y:=by
 unfold pW;rw[Z];cases b with
 |true=>exact X rfl
 |false=>rw[Y rfl];rfl
theorem Jz{a b:Int}:km (.int a) (.int b)=aC (.bl (decide (a=b))):=bN λS=>eq_int.mpr ⟨rfl,rfl⟩
theorem zZ(h:zW d):dE [d]=aC (.bl (yw d)):=by cases d<;>first|rfl|cases h
theorem uZ(h:zW d):eE [d]=aC (.bl (rR d)):=by
 cases d with
 |tup ds=>
  refine fq (eN (and_eq (b:=b_) rfl (λ_=>(b7 (y:=.int 2) (fA (x:=.tup ds) rfl) rfl).trans Jz) (λe=>by cases e))) ?_;show aC (D.bl (decide ((ds.length:Int)=2)))=_
  match ds with
  |[]=>rfl
  |[_]=>rfl
  |[_,_]=>rfl
  |_::_::_::r=>rw[Nv (by simp only[q_];omega)];rfl
 |_=>first|rfl|cases h
theorem oh(h:zW d):da [.int many,d]=aC (.bl (ez many d)):=by
 cases d with
 |int i=>
  refine fq (eN (and_eq (b:=b_) ((d9 rfl).trans (zZ h)) (λ_=>?_) (λe=>by cases e))) rfl;show(if decide (0<=i)=b_ then (aC (D.bl (decide (i<many))):M D)else aC (.bl dt))=aC (.bl (decide (0<=i) && decide (i<many)));by_cases h0:0<=i
  ·rw[if_pos (Nb h0),Nb h0,O8]
  ·rw[if_neg (by rw[Nu];exact h0),Nv h0,OU]
 |_=>first|rfl|cases h
theorem z9(h:rR d=b_):∃a b,d= .tup [a,b]:=by
 unfold rR at h;split at h
 ·exact⟨_,_,rfl⟩
 ·cases h
theorem u6{b:D}:ko many (.tup [a,b])=(ez many a && (ez many b && match a,b with| .int i,.int j=>decide (i<j)|_,_=>dt)):=rfl
theorem IF(h:Mh d):nW [.int many,d]=aC (.bl (ko many d)):=by
 by_cases hp:rR d=b_
 ·obtain⟨a,b,rfl⟩:=z9 hp;have X:zW a:=h.2 _ rfl a (.head _);have W:zW b:=h.2 _ rfl b (.tail _ (.head _));refine fq (o:=.ret (.bl (ko many (.tup [a,b])))) ?_ rfl;unfold rJ;have Z:eR (bV (az eE (ae (mV 1) ak))) [ar (.int many),ar (.tup [a,b]),none,none]=aC false:=by
   show(bV _ _>>=_)=_;rw[il ((d9 rfl).trans (uZ h.1))];rfl
  refine(a9 (ρ':=[ar (.int many),ar (.tup [a,b]),none,none]) ((dI Z).trans (if_neg (by decide)))).trans ((a9 (ρ':=[ar (.int many),ar (.tup [a,b]),ar a,ar b]) rfl).trans (eN ?_));refine and_eq (b:=ez many a) ((call2 rfl rfl).trans (oh X)) (λk1=>and_eq (b:=ez many b) ((call2 rfl rfl).trans (oh W)) (λk2=>?_) λk2=>?_) λk1=>?_
  ·obtain⟨i,rfl,_⟩:=lL k1;obtain⟨j,rfl,_⟩:=lL k2;rw[u6,k1,k2];rfl
  ·rw[u6,k2,OU,OV]
  ·rw[u6,k1,OU]
 ·have Y:rR d=false:=by rw[<-Pl];exact hp
  have Z:eR (bV (az eE (ae (mV 1) ak))) [ar (.int many),ar d,none,none]=aC true:=by show(bV _ _>>=_)=_;rw[il ((d9 rfl).trans (uZ h.1)),Y];rfl
  refine(fq (o:=.ret (.bl dt)) (og ((dI Z).trans (if_pos rfl))) rfl).trans ?_;unfold ko;split
  ·cases hp rfl
  ·rfl
theorem IG{a b:D}(Z:zX a)(Y:zX b):A1 a b=aC (.bl (uX a b)):=by obtain⟨xs,ns,rfl,e1⟩:=Z;obtain⟨ys,ms,rfl,e2⟩:=Y;simp only[A1,e1,e2,uX]
def MA:D->D
 | .tup [a,b]=>.bl (uX a b)
 |_=>.non
theorem DT(h:∀t∈ts,zX t)(W:ts.length<=1000):dw [.tup ts]=aC (.bl (uY ts)):=by
 have em:(((ts.zip (ts.drop 1)).map λp:D×D=>D.tup [p.1,p.2]).filter λ_=>b_).map MA=((ts.zip (ts.drop 1)).map λp=>uX p.1 p.2).map D.bl:=by rw[dz,Nl,Nl];rfl
 have hs:aL (wo (mV 0) (oS (mK (.int 1))) oN) [ar (.tup ts)]=aC (.tup (ts.drop 1)):=by refine mM (?_ :bH (S3.cutD ts (ar 1) none)=_);rw[KL];unfold bH;exact if_pos (by rw[Ot];unfold lim;omega)
 have X:pK (mV 0) (aL (wo (mV 0) (oS (mK (.int 1))) oN)) [ar (.tup ts)]=aC ⟨(ts.zip (ts.drop 1)).map λp:D×D=>D.tup [p.1,p.2],.none⟩:=by unfold pK;rw[aP (x:=.tup ts) rfl (aP hs rfl)];rfl
 have Z:=oa (g:=dH 2 (aY (gN 0) (aY (gN 1) dQ))) (t:=iS) (m:=iT) (js:=[none,none]) (λρ=>∃x y,ρ=[x,y]) (λ_=>b_) MA X (by rw[MS,Qn];unfold lim;omega) ⟨none,none,rfl⟩
  (λd hd ρ ⟨x,y,hρ⟩=>by subst hρ;obtain⟨⟨a,b⟩,Y,rfl⟩:=Nm.mp hd;exact⟨_,rfl,⟨_,_,rfl⟩,rfl,λ_=>(b7 (x:=a) (y:=b) rfl rfl).trans (IG (h a (Pu Y).1) (h b (Qb (Pu Y).2)))⟩) (by rw[em];exact rM _)
 rw[em]at Z;refine fq (eN ((fA Z).trans rQ)) ?_;rw[zY];rfl
theorem IH(h:Lj d)(T:∀m ts,d= .tup [m,.tup ts]->ts.length<=1000):kX [d]=aC (.bl (iF d)):=by
 by_cases hp:rR d=b_
 ·obtain⟨a,t,rfl⟩:=z9 hp;obtain⟨N,_⟩:=h.2 _ rfl a (.head _);obtain⟨P,S⟩:=h.2 _ rfl t (.tail _ (.head _));refine fq (o:=.ret (.bl (iF (.tup [a,t])))) ?_ rfl;unfold rK;have O:eR (bV (aL (az eE (ae (mV 0) ak)))) [ar (.tup [a,t]),none,none]=aC false:=by
   show(bV _ _>>=_)=_;rw[il (mM ((d9 rfl).trans (uZ h.1)))];rfl
  refine(a9 (ρ':=[ar (.tup [a,t]),none,none]) ((dI O).trans (if_neg (by decide)))).trans ((a9 (ρ':=[ar (.tup [a,t]),ar a,ar t]) rfl).trans ?_);have hw:eR (bV (aL (az dE (ae (mV 1) ak)))) [ar (.tup [a,t]),ar a,ar t]=aC (!yw a):=by show(bV _ _>>=_)=_;rw[il (mM ((d9 rfl).trans (zZ N)))];rfl
  have X:∀{p q:gM} {b:Bool} {ρ:aI},p ρ=aC b->B4 p q ρ=if b=b_ then aC b_ else q ρ:=λ{p q b ρ} e=>by show(p ρ>>=_)=_;rw[e];rfl
  have no:∀{q:gM},B4 (eR (bV (aL (az dE (ae (mV 1) ak))))) q [ar (.tup [a,t]),ar a,ar t]=aC b_->aJ (lI (B4 (eR (bV (aL (az dE (ae (mV 1) ak))))) q) (cq (mK (.bl dt))) fS) (cq (pW (di qP (aL (aW (cg (mV 2)) (gN 0) jc jd [none,ar 1]))) (aL (az dw (ae (mV 2) ak))))) [ar (.tup [a,t]),ar a,ar t]=aC (.ret (.bl dt)):=λe=>og ((dI e).trans (if_pos rfl));by_cases ew:yw a=b_
  ·cases a with
   | int many=>
    rw[ew]at hw;have U:eR (yh HP HP (mK (.int 0)) (mV 1) (mK (.int 14))) [ar (.tup [.int many,t]),ar (.int many),ar t]=aC (!(decide (0<=many) && decide (many<=14))):=by
     show(((if decide (0<=many)=b_ then (aC (D.bl (decide (many<=14))):M D)else aC (.bl dt))>>=lS)>>=_)=_;by_cases h0:0<=many
     ·rw[if_pos (Nb h0),Nb h0,O8];rfl
     ·rw[if_neg (by rw[Nu];exact h0),Nv h0,OU];rfl
    by_cases hr:(decide (0<=many) && decide (many<=14))=b_
    ·rw [hr]at U;cases t with
     | tup ts=>
      have R:=T _ ts rfl;have L:B4 (eR (bV (aL (az dE (ae (mV 1) ak))))) (B4 (eR (yh HP HP (mK (.int 0)) (mV 1) (mK (.int 14)))) (eR (bV (gx (mV 2) "tuple")))) [ar (.tup [.int many,.tup ts]),ar (.int many),ar (.tup ts)]=aC false:=by rw[X hw,if_neg (by decide),X U,if_neg (by decide)];rfl
      refine(a9 ((dI L).trans (if_neg (by decide)))).trans (eN ?_);have em:(ts.filter λ_=>b_).map (λd=>D.bl (ko many d))=(ts.map (ko many)).map D.bl:=by rw[dz,Nl];rfl
      have hm:=oa (mi:=cg (mV 2)) (ρ:=[ar (.tup [.int many,.tup ts]),ar (.int many),ar (.tup ts)]) (g:=gN 0) (t:=jc) (m:=jd) (js:=[none,ar 1]) (its:=ts) (λρ=>∃x,ρ=[x,ar (.int many)]) (λ_=>b_) (λd=>.bl (ko many d)) rfl (by unfold lim;omega) ⟨none,rfl⟩
       (λd hd ρ ⟨x,hρ⟩=>by subst hρ;exact⟨_,rfl,⟨_,rfl⟩,rfl,λ_=>mM ((call2 (x:=.int many) (y:=d) rfl rfl).trans (IF (S ts rfl d hd)))⟩) (by rw[em];exact rM _)
      rw[em]at hm;have W:(ts.map (ko many)).all id=ts.all (ko many):=by rw[PZ];rfl
      have Y:iF (.tup [.int many,.tup ts])=(ts.all (ko many) && uY ts):=by show(decide (0<=many) && (decide (many<=14) && (ts.all (ko many) && uY ts)))=_;rw[<-Bool.and_assoc,hr,O8]
      rw[Y];refine and_eq (b:=ts.all (ko many)) ((fA hm).trans (rQ.trans (by rw[W]))) (λZ=>?_) λZ=>by rw[Z];rfl
      rw[Z,O8];exact mM ((d9 rfl).trans (DT (λt P=>BD (Nx.mp Z t P)) R))
     |_=>first|exact no (by rw[X hw,if_neg (by decide),X U,if_neg (by decide)];rfl)|cases P
    ·have Y:iF (.tup [.int many,t])=false:=by
      cases t<;>first|rfl|(show(decide (0<=many) && (decide (many<=14) && _))=dt;rw[<-Bool.and_assoc,Pl _ |>.mp hr,OU])
     rw[Y];rw[Pl _ |>.mp hr]at U;exact no (by rw[X hw,if_neg (by decide),X U];rfl)
   |_=>cases ew
  ·have Y:iF (.tup [a,t])=false:=by cases a<;>first|rfl|exact absurd rfl ew
   rw[Y];exact no (by rw[X hw,Pl _ |>.mp ew];rfl)
 ·have Q:rR d=false:=by rw[<-Pl];exact hp
  have O:eR (bV (aL (az eE (ae (mV 0) ak)))) [ar d,none,none]=aC true:=by show(bV _ _>>=_)=_;rw[il (mM ((d9 rfl).trans (uZ h.1))),Q];rfl
  refine(fq (o:=.ret (.bl dt)) (og ((dI O).trans (if_pos rfl))) rfl).trans ?_;unfold iF;split
  ·cases hp rfl
  ·rfl
end
def eB(S:av)(k:Nat):Prop:=∃st b,S[k]? =ar [.int st,.bl b]/\0<=st/\(b=dt->st<2147483647)
theorem eB.lt{S:av}{k:Nat}(h:eB S k):k<S.length:=let ⟨_,_,e,_⟩:=h;(MX.mp e).1
theorem Aa{t:gM}{m n:cY}{ρ:aI}{b:Bool}{S S1:av}(h:t ρ S=ar (.ok b,S1)):lI t m n ρ S=if b=b_ then m ρ S1 else n ρ S1:=by show(t ρ>>=λc=>if c=b_ then m ρ else n ρ) S=_;rw[aD h];split<;>rfl
section
variable {S:av}{k:Nat}{st x y many:Int}{b:Bool}{r:List (Option D)}{e1 e2:TM}{ρ:aI}
theorem JA(e:S[k]? =ar [.int st,.bl b]):aU cZ (mV 0) (mK (.int 0)) (ar (.lst k)::r) S=ar (.ok (.int st),S):=DS e rfl
theorem iR(Z:e1 ρ S=ar (.ok (.int x),S))(Y:e2 ρ S=ar (.ok (.int y),S))(h:0<y):aU mB e1 e2 ρ S=ar (.ok (.int (x % y)),S):=
 (fR Z Y).trans (Nt (if_pos h:(if 0<y then (aC (D.int (x % y)):M D)else M.fail)=_) S)
theorem rS(Z:e1 ρ S=ar (.ok (.int x),S))(Y:e2 ρ S=ar (.ok (.int y),S))(h:xB x y):aU uq e1 e2 ρ S=ar (.ok (.int (x*y)),S):=
 (fR Z Y).trans (Nt (if_pos h:(if xB x y then (aC (D.int (x*y)):M D)else M.fail)=_) S)
theorem DU(Z:e1 ρ S=ar (.ok (.int x),S))(Y:e2 ρ S=ar (.ok (.int y),S))(h:AM x y):aU nj e1 e2 ρ S=ar (.ok (.int (x / y)),S):=
 (fR Z Y).trans (Nt (if_pos h:(if AM x y then (aC (D.int (x / y)):M D)else M.fail)=_) S)
theorem u7(Z:e1 ρ S=ar (.ok (.int x),S))(Y:e2 ρ S=ar (.ok (.int y),S)):aU bK e1 e2 ρ S=ar (.ok (.int (x+y)),S):=(fR Z Y).trans rfl
theorem KM(e:S[k]? =ar [.int st,.bl b])(h:e1 (ar (.lst k)::r) S=ar (.ok (.int x),S)):rk e1 (Li (mV 0) (mK (.int 0))) (ar (.lst k)::r) S=ar (.ok (.nx (ar (.lst k)::r)),S.set k [.int x,.bl b]):=by
 have Y:kG (.lst k) (.int 0) (.int x) S=ar (.ok (),S.set k [.int x,.bl b]):=by show(getL k>>=_) S=_;rw[aD (cH e)];exact aD (kb (us:=[.int x,.bl b]) pq (MX.mp e).1)
 have Z:Li (mV 0) (mK (.int 0)) (.int x) (ar (.lst k)::r) S=ar (.ok (ar (.lst k)::r),S.set k [.int x,.bl b]):=aD Y;show(e1 _>>=_) S=_;rw[aD h];exact aD Z
theorem rT{m n:cY}{d:D}{S1:av}(h:m ρ S=ar (.ok (.ret d),S1)):aJ m n ρ S=ar (.ok (.ret d),S1):=aD h
end
theorem II{S:av}{k:Nat}{many:Int}{Q:D->av->Prop}(hs:eB S k)(Y:0<many)(L:many<1073741824)
  (U:∀j S',0<=j->j<many->S'.length=S.length->(∀i,i≠k->S'[i]? =S[i]?)->eB S' k->Q (.int j) S'):runs (aH [.lst k,.int many]) S Q:=by
 have T:=hs.lt;obtain⟨st,b,e,P,O⟩:=hs;have q:∀x:Int,0<=x % many/\x % many<many:=λx=>⟨O3 _ (by omega),OH _ Y⟩;have W:bV (aU cZ (mV 0) (mK (.int 1))) [ar (.lst k),ar (.int many),none,none] S=ar (.ok b,S):=aD (DS (x:=.bl b) e rfl);have Z:∀(ys:List D) i,i≠k->(S.set k ys)[i]? =S[i]? :=λys i N=>NM (j' N);cases b with
 |true=>
  refine⟨_,_,fK (o:=.ret (.int (st % many))) (S1:=S.set k [.int (st / many),.bl b_]) ?_ rfl,U _ _ (q _).1 (q _).2 (by simp) (Z _) ⟨_,b_,NB T,Int.ediv_nonneg P (by omega),λz=>by cases z⟩⟩;exact rT ((Aa W).trans ((aQ (b9 (iR (JA e) rfl Y))).trans ((aQ (KM e (DU (JA e) rfl ⟨Y,L⟩))).trans (gH rfl))))
 |false=>
  have I:=O rfl;generalize hst:(st*48271+29) % 2147483647=st';have s1:0<=st':=by rw[<-hst];exact O3 _ (by decide)
  have s2:st'<2147483647:=by rw[<-hst];exact OH _ (by decide)
  have e1:(S.set k [.int st',.bl dt])[k]? =ar [.int st',.bl dt]:=NB T;have R:=KM (r:=[ar (.int many),none,none]) e (iR (u7 (rS (JA e) (e2:=mK (.int 48271)) rfl (.inr ⟨by decide,by decide⟩)) (e2:=mK (.int 29)) rfl) (e2:=mK (.int 2147483647)) rfl (by decide));rw[hst]at R;have X:∀r,aU mB (aU bK (aU bK (aU uq (aU cZ (mV 0) (mK (.int 0))) (aU cZ (mV 0) (mK (.int 0)))) (aU uq (mK (.int 39373)) (aU cZ (mV 0) (mK (.int 0))))) (mK (.int 7))) (mK (.int 2147483629)) (ar (.lst k)::r) (S.set k [.int st',.bl dt])=_:=λr=>iR (u7 (u7 (rS (JA e1) (JA e1) (.inl ⟨by omega,by omega⟩)) (rS rfl (JA e1) (.inl ⟨by decide,by decide⟩))) rfl) rfl (by decide);generalize hx:(st'*st'+39373*st'+7) % 2147483629=x at X;have J:0<=x:=by rw[<-hx];exact O3 _ (by decide)
  have K:x<2147483629:=by rw[<-hx];exact OH _ (by decide)
  refine⟨_,_,fK (o:=.ret (.int ((x*x+16807*x) % 2147483587 / 8 % many))) (S1:=S.set k [.int st',.bl dt]) ?_ rfl,U _ _ (q _).1 (q _).2 (by simp) (Z _) ⟨_,dt,e1,s1,λ_=>s2⟩⟩;exact(aQ (Aa W)).trans ((aQ R).trans ((aQ (b9 (X _))).trans ((aQ (b9 (iR (u7 (rS rfl rfl (.inl ⟨by omega,by omega⟩)) (rS rfl rfl (.inl ⟨by decide,by decide⟩))) rfl (by decide)))).trans (gH (iR (DU rfl rfl ⟨by decide,by decide⟩) rfl Y)))))
theorem IJ{S:av}{ns:List Int}{k:Nat}:∃i,eS [.ro (ns.map D.int),.int k] S=ar (.ok (.int i),S):=by
 have Z:fP A1 (mV 1) (di gn (mV 0)) [ar (.ro (ns.map D.int)),ar (.int k)]=aC (decide ((k:Int)<(ns.map D.int).length)):=eu (x:=.int k) (y:=.int (ns.map D.int).length) rfl rfl rfl;by_cases h:k<ns.length
 ·refine⟨ns[k],fK (o:=.ret (.int ns[k])) (rT ((Nt ((dI Z).trans (if_pos (Nb (by rw[MS];omega)))) S).trans (gH (x:=.int ns[k]) (S1:=S) ?_))) rfl⟩;have e:mx (ns.map D.int) (k:Int)=ar (.int ns[k]):=by
   unfold mx B1;simp[h]
  show(match mx (ns.map D.int) k with|some d=>(aC d:M D)|none=>M.fail) S=_;rw[e];rfl
 ·exact⟨0,fK (o:=.ret (.int 0)) (Nt ((a9 ((dI Z).trans (if_neg (by rw[Nu,MS];omega)))).trans rfl) S) rfl⟩
theorem FX{S:av}{ns:List Int}{k:Nat}{Q:D->av->Prop}(Z:∀xs,eB (S++[xs]) S.length->Q (.lst S.length) (S++[xs])):runs (iE [.ro (ns.map D.int),.int k]) S Q:=by
 obtain⟨c,U⟩:=IJ (S:=S) (ns:=ns) (k:=k);have Y:bE 2 (az eS (ae (mV 0) (ae (mV 1) ak))) [ar (.ro (ns.map D.int)),ar (.int k),none] S=ar (.ok (.nx [ar (.ro (ns.map D.int)),ar (.int k),ar (.int c)]),S):=b9 (x:=.int c) (by rw[call2 (x:=.ro (ns.map D.int)) (y:=.int k) rfl rfl];exact U);have X:∀ ρ,aU qJ (mK (.int 10)) (mK (.int 18)) ρ=aC (.int 1000000000000000000):=λρ=>(b7 (x:=.int 10) (y:=.int 18) rfl rfl).trans (if_pos (e:=M.fail) (show Ci 10 18 from⟨by decide,by decide,by decide⟩));have W:fP L6 (mV 2) (aU qJ (mK (.int 10)) (mK (.int 18))) [ar (.ro (ns.map D.int)),ar (.int k),ar (.int c)]=aC (decide (1000000000000000000<=c)):=eu (x:=.int c) rfl (X _) rfl;by_cases h:1000000000000000000<=c
 ·exact⟨_,_,fK (o:=.ret (.lst S.length)) ((aQ Y).trans (rT ((Nt ((dI W).trans (if_pos (Nb h))) S).trans (gH (ju (ys:=[.int (c - 1000000000000000000),.bl b_]) (bO (S1:=S) (Nt ((b7 (x:=.int c) rfl (X _)).trans rfl) S) (bO rfl rfl)) pq))))) rfl,Z _ ⟨_,b_,bJ,by omega,λz=>by cases z⟩⟩
 ·exact⟨_,_,fK (o:=.ret (.lst S.length)) ((aQ Y).trans ((aQ (Nt ((dI W).trans (if_neg (by rw[Nu];exact h))) S)).trans (gH (ju (ys:=[.int (c % 2147483647),.bl dt]) (bO (iR rfl rfl (by decide)) (bO rfl rfl)) pq)))) rfl,Z _ ⟨_,dt,bJ,O3 _ (by decide),λ_=>OH _ (by decide)⟩⟩
def u9(n a:Nat):List (List Int):=(iB (a+1) (n - (a+1))).map λb:Nat=>[(a:Int),(b:Int)]
def eO(n:Nat):List (List Int):=(dr n).flatMap (u9 n)
theorem pairs_len(Z:n<=14):(eO n).length<=91:=by
 have:∀m,m<15->(eO m).length<=91:=by decide+kernel
 exact this n (by omega)
theorem FY(Z:n<=14):(u9 n a).length<=14:=by unfold u9;simp;omega
structure Kp(k:Nat)(S S':av):Prop where
 len:S.length<=S'.length
 oth:∀i,i<S.length->i≠k->S'[i]? =S[i]?
 st:eB S' k
theorem Kp.trans(a:Kp k S S1)(b:Kp k S1 S2):Kp k S S2:=⟨M7 a.len b.len,λi Y Z=>(b.oth i (Nf Y a.len) Z).trans (a.oth i Y Z),b.st⟩
theorem Kp.refl(h:eB S k):Kp k S S:=⟨MV _,λ_ _ _=>rfl,h⟩
theorem eB.grow(h:eB S k):eB (S++G) k:=by obtain⟨st,b,e,r⟩:=id h;exact⟨st,b,by rw[Nk h.lt];exact e,r⟩
theorem Kp.grow(h:eB S k)(G:av):Kp k S (S++G):=⟨by simp,λi Z _=>Nk Z,h.grow⟩
theorem Ab{Q:D->av->Prop}(hs:eB S k)(U:0<many)(W:many<1073741824)(Y:∀j Z,0<=j->j<many->Z.length=S.length->Kp k S Z->Q (.int j) Z):runs (aH [.lst k,.int many]) S Q:=
 II hs U W λj Z a b c d e=>Y j Z a b c ⟨Pq c.symm,λi _ X=>d i X,e⟩
theorem lM:∀ns:List Int,mapP (gm S n) (ns.map D.int)=ar (ns.map rn)
 |[]=>rfl
 |x::r=>by
  show(match gm S n (D.int x),mapP (gm S n) (r.map D.int)with|some p,ar ps=>ar (p::ps)|_,_=>none)=_;rw[jk,lM r];rfl
theorem DV{ns:List Int}(h:S[k]? =ar (ns.map D.int)):gm S (n+1) (.lst k)=ar (.list (ns.map rn)):=by show((S[k]?).bind λxs=>(mapP (gm S n) xs).map m_)=_;rw[h];show(mapP (gm S n) (ns.map D.int)).map m_=_;rw[lM];rfl
theorem tT{α Z:Type}(f:α->Z):∀(l:List α) (i:Nat),(l.map f).eraseIdx i=(l.eraseIdx i).map f
 |[],_=>rfl
 |_::_,0=>rfl
 |a::l,i+1=>by simp[tT f l i]
def iG(r:List Int):PyData:=.tuple (r.map rn)
theorem iH(r:List Int):gm S (n+1) (tupI r)=ar (iG r):=by show(mapP (gm S n) (r.map D.int)).map x_=_;rw[lM];rfl
theorem jM:∀rs:List (List Int),mapP (gm S (n+1)) (rs.map tupI)=ar (rs.map iG)
 |[]=>rfl
 |x::r=>by
  show(match gm S (n+1) (tupI x),mapP (gm S (n+1)) (r.map tupI)with|some p,ar ps=>ar (p::ps)|_,_=>none)=_;rw[iH,jM r];rfl
theorem DW{rs:List (List Int)}(h:S[k]? =ar (rs.map tupI)):gm S (n+2) (.lst k)=ar (.list (rs.map iG)):=by show((S[k]?).bind λxs=>(mapP (gm S (n+1)) xs).map m_)=_;rw[h];show(mapP (gm S (n+1)) (rs.map tupI)).map m_=_;rw[jM];rfl
theorem FZ{rs:List (List Int)}{Q:D->av->Prop}(h:S[k]? =ar (rs.map tupI))(Z:∀b,Q (.bl b) S):runs (inD (tupI r) (.lst k)) S Q:=by unfold inD;rw[nM (iH r) (DW h) rfl];exact Z _
theorem KN{Q:D->av->Prop}(Z:∀b,Q (.bl b) S):runs (kL (.bl a) (.bl b)) S Q:=by unfold kL;rw[fX pv pv];exact Z _
theorem mO(ns:List Int):intsOf (ns.map D.int)=ar ns:=by
 induction ns with
 |nil=>rfl
 |cons x r ih=>simp[intsOf,ih]
theorem mP(rs:List (List Int)):rowsOf (rs.map tupI)=ar rs:=by
 induction rs with
 |nil=>rfl
 |cons x r ih=>
  show(match intsOf (x.map D.int),rowsOf (r.map tupI)with|some ns,ar nss=>ar (ns::nss)|_,_=>none)=_;rw[mO,ih]
structure WebOk(many:Int)(ts:List (List Int)):Prop where
 el:∀t∈ts,∃a b:Int,t=[a,b]/\0<=a/\a<b/\b<many
 ris:ts.Pairwise λa b=>HT.lexLt a b=b_
 few:ts.length<=21
theorem DX:∀t∈eO n,∃a b:Int,t=[a,b]/\0<=a/\a<b/\b<n:=by intro t Y;unfold eO at Y;obtain⟨a,W,X⟩:=Q4.mp Y;unfold u9 at X;obtain⟨b,Z,rfl⟩:=Nm.mp X;rw[ON]at Z;rw[Na]at W;exact⟨a,b,rfl,by omega,by omega,by omega⟩
theorem tU(Z:n<=7):(eO n).Pairwise (λa b=>HT.lexLt a b=b_)/\(eO n).length<=21:=by
 have:∀m,m<8->(eO m).Pairwise (λa b=>HT.lexLt a b=b_)/\(eO m).length<=21:=by decide+kernel
 exact this n (by omega)
theorem WebOk.of_sub(Z:n<=7){Y:List (List Int)}(h:Y.Sublist (eO n)):WebOk n Y:=
 ⟨λt X=>DX t (h.subset X),P3 h (tU Z).1,M7 h.length_le (tU Z).2⟩
theorem BE{Z:List (List Int)}(h:Z.Pairwise λa b=>HT.lexLt a b=b_):fO Z=Z:=
 jG (bM Z) (du Z) (h.imp λz=>rh z)
theorem BF:uX (tupI a) (tupI b)=HT.lexLt a b:=by simp only[uX,tupI,mO]
theorem wR:∀{ts:List (List Int)},ts.Pairwise (λa b=>HT.lexLt a b=b_)->uY (ts.map tupI)=b_
 |[],_=>rfl
 |[_],_=>rfl
 |a::b::r,h=>by
  obtain⟨Z,Y⟩:=NU.mp h;show(uX (tupI a) (tupI b) && uY ((b::r).map tupI))=b_;rw[BF,Z b (by simp),wR Y];rfl
theorem F4(U:0<=many)(Z:many<=14)(w:WebOk many ts):iF (.tup [.int many,.tup (ts.map tupI)])=true:=by
 have:(ts.map tupI).all (ko many)=true:=by rw[PZ,Nx];intro t T;obtain⟨a,b,rfl,X,W,Y⟩:=w.el t T;simp[tupI,ko,ez,X,W,Y];omega
 simp only[iF,U,Z,this,wR w.ris,decide_true,Rr]
theorem BG:t∈iQ l↔t∈l:=by unfold iQ;rw[(bM _).mem_iff,jH]
theorem tV:∀l:List (List Int),(gw l).length<=l.length
 |[]=>MV _
 |x::r=>by
  unfold gw;have:=tV r;split
  ·simp;omega
  ·simp;omega
theorem px(l:List (List Int)):(iQ l).length<=l.length:=by unfold iQ;rw[(bM _).length_eq];exact tV l
theorem BH(l:List (List Int)):(iQ l).Pairwise λa b=>HT.lexLt a b=true:=by
 have Y:=du (gw l);have Z:(iQ l).Nodup:=(Pn (bM _)).mpr (nG l);unfold iQ at Z⊢;generalize fO (gw l)=s at Y Z
 induction s with
 |nil=>exact .nil
 |cons x r ih=>
  obtain⟨a1,a2⟩:=NU.mp Y;obtain⟨W,U⟩:=NN.mp Z;refine NU.mpr ⟨λy X=>?_,ih a2 U⟩;cases q:HT.lexLt x y with
  |true=>rfl
  |false=>exact absurd (uG q (a1 y X) ▸ X) W
def KO:Nat->D->Bool
 |_,.ro _=>dt
 |_,.fn _ _ _ _ _=>dt
 |_,.exc _ _=>dt
 |n+1,.tup ds=>ds.all (KO n)
 |_,_=>b_
theorem Ac(h:KO n d=b_):zW d:=by cases d<;>first|rfl|(cases n<;>cases h)
theorem KP(h:KO (n+1) d=b_):Mh d:=⟨Ac h,λds e x Z=>by subst e;exact Ac (Nx.mp h x Z)⟩
def KQ:D->Bool
 | .tup ds=>ds.all λx=>match x with
  | .tup ts=>decide (ts.length<=18)
  |_=>b_
 |_=>b_
structure Good(d:D):Prop where
 nr:Lj d
 few:∀m ts,d= .tup [m,.tup ts]->ts.length<=18
theorem F5(h:KO 3 d=b_)(X:KQ d=b_):Good d:=⟨⟨Ac h,λds e x U=>by
  subst e;have Z:=Nx.mp h x U;refine⟨Ac Z,λY W t T=>?_⟩;subst W;exact KP (Nx.mp Z t T)⟩,λm Y e=>by
  subst e;have:=Nx.mp X (.tup Y) (by simp);simpa using this⟩
def DY(d:D):Bool:=KO 3 d && KQ d
theorem oj(h:DY d=b_):Good d:=by unfold DY at h;rw[ND]at h;exact F5 h.1 h.2
theorem GT{xs:List D}{j:Int}(X:0<=j)(Y:j<xs.length):∃d,mx xs j=ar d/\d∈xs:=by
 have Z:j.toNat<xs.length:=by omega
 refine⟨xs[j.toNat],?_,Oe Z⟩;unfold mx B1;simp[X,Y,Z]
section
variable {d:D}
theorem DZ(h:Lj d)(Y:∀m ts,d= .tup [m,.tup ts]->ts.length<=1000):cn [d]=if iF d=b_ then aC .non else M.raise (.exc "NoWeb" []):=by
 have Z:eR (bV (aL (az kX (ae (mV 0) ak)))) [ar d]=aC (!iF d):=by show(bV _ _>>=_)=_;rw[il (b:=iF d) (mM ((d9 rfl).trans (IH h Y)))];rfl
 cases hw:iF d with
 |true=>exact(yt ((dI Z).trans (by rw[hw];exact if_neg (by decide))) rfl).trans (if_pos rfl).symm
 |false=>exact(ff ((dI Z).trans (by rw[hw];exact if_pos rfl))).trans (if_neg (by decide)).symm
end
theorem bU(l:List (List Int)):bF 0 (l.map tupI)=true:=by
 have h:∀r:List Int,bF 0 (r.map D.int)=true:=λr=>by
  induction r with
  |nil=>rfl
  |cons x r ih=>rw[Nd];unfold bF;rw[ih];unfold fi;rfl
 induction l with
 |nil=>rfl
 |cons x l ih=>rw[Nd];unfold bF;rw[ih];unfold tupI fi;rw[h];rfl
abbrev aS(n:Nat)(E:List (List Int)):D:=.tup [.int n,.tup (E.map tupI)]
theorem IK:Lj (aS n E):=by
 refine⟨rfl,?_⟩;intro ds e x Z;cases e;simp only[f_,eK,or_false]at Z;rcases Z with rfl|rfl
 ·exact⟨rfl,λY e=>by cases e⟩
 ·refine⟨rfl,λY e t X=>?_⟩;cases e;obtain⟨r,_,rfl⟩:=Nm.mp X;refine⟨rfl,λds e x Z=>?_⟩;cases e;obtain⟨i,_,rfl⟩:=Nm.mp Z;exact rfl
theorem F6{n:Nat}{E:List (List Int)}(w:WebOk n E):∀m Z,aS n E= .tup [m,.tup Z]->Z.length<=1000:=by intro m Z e;cases e;have:=w.few;rw[MS];omega
theorem same_int:a8 (k+1) [.int i,.int i]=aC (.bl b_):=by refine fq (o:=.ret (.bl b_)) ?_ rfl;show dy _ [ar (.int i),ar (.int i)]=_;unfold dy;rw[a9 (ρ':=[ar (.int i),ar (.int i)]) ((dI (b:=dt) (il rfl)).trans (if_neg (by decide)))];refine eN ?_;show(aU km (mV 0) (mV 1) _>>=_)=_;rw[b7 (x:=.int i) (y:=.int i) rfl rfl,MN,ah];rw[show lS (D.bl b_)=aC b_ from rfl,ah,if_pos rfl,b7 (x:=.bl dt) (y:=.bl dt) rfl rfl,MO]
theorem om{xs:List D}(P:xs.length<=1000)(h:∀x∈xs,a8 k [x,x]=aC (.bl b_)):a8 (k+1) [.tup xs,.tup xs]=aC (.bl b_):=by
 have em:((((xs.zip xs).map λp:D×D=>D.tup [p.1,p.2]).filter λ_=>b_).map λ_=>D.bl b_)=(xs.map λ_=>b_).map D.bl:=by rw[dz,Nl,Nl];refine List.ext_getElem (by simp) λi O R=>by simp
 have Y:=oa (mi:=pK (mV 0) (mV 1)) (g:=dH 2 (aY (gN 0) (aY (gN 1) dQ))) (t:=d5 (a8 k)) (m:=d6 (a8 k)) (js:=[none,none]) (ρ:=[ar (.tup xs),ar (.tup xs)])
  (its:=(xs.zip xs).map λp:D×D=>D.tup [p.1,p.2]) (λρ=>∃x y,ρ=[x,y]) (λ_=>b_) (λ_=>.bl b_) rfl (by rw[MS,Qn];unfold lim;omega) ⟨none,none,rfl⟩
  (λd hd ρ ⟨x,y,hρ⟩=>by subst hρ;obtain⟨z,W,rfl⟩:=wO hd;exact⟨_,rfl,⟨_,_,rfl⟩,rfl,λ_=>mM ((call2 rfl rfl).trans (h z W))⟩) (by rw[em];exact rM _)
 rw[em]at Y;have Z:(xs.map λ_=>b_).all id=true:=by rw[PZ];exact Nx.mpr λ_ _=>rfl
 have hlen:∀j,j<2->di gn (mV j) [ar (.tup xs),ar (.tup xs)]=aC (.int xs.length):=λj S=>by
  match j,S with
  |0,_=>rfl
  |1,_=>rfl
 refine fq (o:=.ret (.bl b_)) ?_ rfl;show dy _ [ar (.tup xs),ar (.tup xs)]=_;unfold dy;refine og ?_;refine(dI (b:=b_) (il rfl)).trans ?_;rw[if_pos rfl];have Q:∀T,aU kL (gx (mV 0) T) (gx (mV 1) T) [ar (.tup xs),ar (.tup xs)]=aC (.bl dt):=λT=>(b7 (x:=.bl (i3 "tuple" T)) (y:=.bl (i3 "tuple" T)) rfl rfl).trans Mg;have X:∀T,fP kL (gx (mV 0) T) (gx (mV 1) T) [ar (.tup xs),ar (.tup xs)]=aC false:=λT=>eu (x:=.bl (i3 "tuple" T)) (y:=.bl (i3 "tuple" T)) rfl rfl Mg;have U:B4 (fP kL (gx (mV 0) "tuple") (gx (mV 1) "tuple")) (fP kL (gx (mV 0) "list") (gx (mV 1) "list")) [ar (.tup xs),ar (.tup xs)]=aC false:=by show(fP kL _ _ _>>=_)=_;rw[X "tuple",ah];exact X "list"
 rw[a9 ((dI U).trans (if_neg (by decide))),a9 ((dI (eu (hlen 0 (by decide)) (hlen 1 (by decide)) Mz)).trans (if_neg (by decide)))];refine eN ((fA Y).trans (rQ.trans ?_));rw[Z]
theorem IL{E:List (List Int)}(Y:E.length<=1000)(X:∀t∈E,t.length<=1000):cD [aS n E,aS n E]=aC (.bl b_):=by
 refine om (k:=5) (by decide:2<=1000) λx Z=>?_;simp only[f_,eK,or_false]at Z;rcases Z with rfl|rfl
 ·exact same_int
 ·refine om (by rw[MS];exact Y) λx Z=>?_;obtain⟨r,W,rfl⟩:=Nm.mp Z;refine om (by rw[MS];exact X r W) λx Z=>?_;obtain⟨i,_,rfl⟩:=Nm.mp Z;exact same_int
def rV(c:M D)(k:D->M D):M D:=λS=>match c S with
 |some (.ok _,S')=>k .non S'
 |some (.ex (.exc n ds),S')=>if n∈bf then k (.exc n ds) S' else none
 |_=>none
theorem D0{g:Str->Bool}(Z:n∈bf):wy g (.exc n ds)=aC (.bl (g n)):=if_pos Z
def yx(bs:List Bool):D->Bool
 | .int k=>bs.getD k.toNat dt
 |_=>dt
section
variable {S S':av}{k:Nat}
theorem oq(Z:Kp k S S'):pL S S':=λi xs Y e=>by
 by_cases h:i=k
 ·subst h;obtain⟨st,b,e2,_⟩:=Z.st;rw[e2]at e;cases e;exact .inr rfl
 ·exact .inl (by rw[<-Z.oth i Y h];exact e)
theorem vd(hs:eB S k)(Y:Kp k S S'):Kp k S (S'.take S.length)/\(S'.take S.length).length=S.length:=by
 have X:(S'.take S.length).length=S.length:=by rw[Od];have:=Y.len;omega
 have W:∀i,i<S.length->(S'.take S.length)[i]? =S'[i]? :=λi Z=>by rw[PF,if_pos Z]
 refine⟨⟨Pq X.symm,λi Z U=>(W i Z).trans (Y.oth i Z U),?_⟩,X⟩;obtain⟨st,b,e,r⟩:=Y.st;exact⟨st,b,(W k hs.lt).trans e,r⟩
theorem wU{c:M D}(hs:eB S k)(h:c S=ar (.ok d,S'))(Z:Kp k S S')(Y:fi 0 d=b_):∃S1,iD c S=ar (.ok d,S1)/\Kp k S S1/\S1.length=S.length:=
 ⟨_,kR h (oq Z) (.inr rfl) Z.len (uS d (zS (Nr _) d Y)),vd hs Z⟩
theorem vf:fi 0 (aS n E)=true:=by unfold aS fi bF fi bF fi;rw[bU];rfl
theorem Ad(hs:eB S k)(X:0<many)(Y:many<1073741824):∃j S1,iD (aH [.lst k,.int many]) S=ar (.ok (.int j),S1)/\0<=j/\j<many/\Kp k S S1/\S1.length=S.length:=by obtain⟨d,S',e,j,rfl,a,b,Z⟩:=Ab (Q:=λd S'=>∃j,d= .int j/\0<=j/\j<many/\Kp k S S') hs X Y λj S' a b _ Z=>⟨j,rfl,a,b,Z⟩;obtain⟨S1,e1,k1⟩:=wU hs e Z rfl;exact⟨j,S1,e1,a,b,k1⟩
end
theorem mQ(h:n<=k)(Z:S[k]? =ar us)(Y:bF 0 us=b_):jm n (xw S n (f+1)) (.lst k)=ar (.fz us):=by unfold jm;rw[if_neg (by omega)];show((S[k]?).bind λxs=>gW n (xw S n f) xs).map D.fz=_;rw[Z,OT,jb us (jY (Nr _) us Y)];rfl
theorem pX{S G:av}(i:Nat):(S++G)[S.length+i]? =G[i]? :=by rw[OC (OS _ _),Nat.add_sub_cancel_left]
theorem KR(h:∀S,gm S 60 (.fz us)=ar p)(Z:f' p p=b_):kL (.fz us) (.fz us)=aC (.bl dt):=bN λS=>by unfold kL;exact(fX (h S) (h S)).mpr ⟨by rw[Z];rfl,rfl⟩
theorem Mi:kL (.fz [.int i]) (.fz [.int i])=aC (.bl dt):=KR (p:=.list [.int i]) (λS=>rfl) (by simp[f',ly])
theorem yy:aL (bc (ae (mK (.int i)) ak)) ρ=aC (.fz [.int i]):=bR (us:=[.int i]) rfl (by show 1<=lim;unfold lim;omega)
theorem F7{g:oH}{b:cY}(X:S[p]? =ar its)(h:g d ρ=aC ρ1)(Z:b ρ1 S=ar (.ok (.nx ρ2),S1)):eQ ⟨its,.some p⟩ g b (d::ds) ρ S=eQ ⟨its,.some p⟩ g b ds ρ2 S1:=by
 have Y:ia ⟨its,.some p⟩ S=ar (.ok (),S):=by unfold ia;exact if_pos X
 rw[eQ,aD Y,h,ah,aD Z]
theorem D1(Z:S[p]? =ar its):eQ ⟨its,.some p⟩ g b [] ρ S=ar (.ok (.nx ρ),S):=by
 have Y:ia ⟨its,.some p⟩ S=ar (.ok (),S):=by unfold ia;exact if_pos Z
 rw[eQ,aD Y];rfl
section
variable {ρ:aI}{js:List Nat}{ds:List D}{m:TM}{c:M D}{R:M D->List D->M D}{x:D}
theorem D3(X:uO js ρ=ar ds)(Y:m (ds.map ar)=c)(Z:iD (R c [])=aC x):aL (uQ js ak m R) ρ=aC x:=by
 have:uQ js ak m R ρ=R c []:=by unfold uQ;rw[X];show(ak ρ>>=λes=>R (m (ds.map ar)) es)=_;rw[Y];rfl
 unfold aL;rw[this,Z]
end
section
variable {me e:TM}{g:oH}{ρ ρ':aI}{S S1 S2:av}{d:D}{F:List D->M D}{x y:D}
theorem Ae{c:M D}(h:c S=ar (.ok d,S)):iD c S=ar (.ok d,S):=by unfold iD;rw[h];exact if_pos (MV _)
theorem F8{mi:aI->M Iter}(Z:mi ρ S=ar (.ok ⟨its,.some p⟩,S1))(h:eQ ⟨its,.some p⟩ g b its ρ S1=ar (.ok o,S2)):iu mi g b ρ S=ar (.ok o,S2):=by unfold iu;rw[aD Z];exact h
end
section
variable {S S1 S2:av}{k p q:Nat}{e1 e2:TM}{ρ:aI}{x y:D}{f:D->List D->M D}{xs:List D}
theorem rW(Z:e1 ρ=aC x)(Y:HW x=aC ())(X:e2 ρ S=ar (.ok y,S1)):uK f e1 e2 ρ S=f x [y] S1:=by unfold uK;rw[Z,ah,Y,ah,aD (a:=[y]) (S1:=S1)];rw[aD X];rfl
theorem yz(Z:S[p]? =ar xs)(Y:xs.length<=1000):cO (.lst p) [d] S=ar (.ok .non,S.set p (xs++[d])):=by show(getL p>>=λxs=>lU p (xs++[d])) S=_;rw[aD (cH Z)];exact kb (by rw[MT];show xs.length+1<=lim;unfold lim;omega) (MX.mp Z).1
theorem pop_at{j:Int}{d:D}(Z:S[p]? =ar xs)(U:xs.length<=1000)(W:0<=j)(Y:j<xs.length)(X:xs[j.toNat]? =ar d):oW (.lst p) [.int j] S=ar (.ok d,S.set p (xs.eraseIdx j.toNat)):=by show(getL p>>=λxs=>if 0<=j/\j<xs.length then (match xs[j.toNat]? with|some y=>(do let _<-lU p (xs.eraseIdx j.toNat);aC y)|none=>M.fail)else M.fail) S=_;rw[aD (cH Z),if_pos ⟨W,Y⟩,X];show(lU p (xs.eraseIdx j.toNat)>>=λ_=>aC d) S=_;rw[aD (kb (by have:=List.length_eraseIdx_le xs j.toNat;unfold lim;omega) (MX.mp Z).1)];rfl
theorem IM{ns:List Int}(Y:S[p]? =ar (ns.map D.int)):kL (.lst p) (.fz []) S=ar (.ok (.bl (!ns.isEmpty)),S):=by
 have X:gm S 60 (.fz [])=ar (.list []):=rfl;obtain⟨d,Z,e,h⟩:=(fX (f:=λp q=> !f' p q) (Q:=λd Z=>d= .bl (!ns.isEmpty)/\Z=S) (DV (n:=59) Y) X).mpr ⟨by
  have:f' (.list (ns.map rn)) (.list [])=ns.isEmpty:=by cases ns<;>simp[f',ly]
  rw[this],rfl⟩
 obtain⟨rfl,rfl⟩:=h;exact e
end
theorem Kp.set(Y:Kp k S S')(U:S.length<=p)(W:k<S.length):Kp k S (S'.set p xs):=by
 refine⟨by rw[O2];exact Y.len,λi X Z=>?_,?_⟩
 ·rw[NM (by omega)];exact Y.oth i X Z
 ·obtain⟨st,b,e,r⟩:=Y.st;exact⟨st,b,by rw[NM (by omega)];exact e,r⟩
theorem yA{l:List Int}(h:j<l.length):(l[j]::l.eraseIdx j).Perm l:=by
 induction l generalizing j with
 |nil=>cases h
 |cons x l ih=>
  cases j with
  |zero=>exact .refl _
  |succ j=>exact(List.Perm.swap _ _ _).trans ((ih (by simpa using h)).cons _)
theorem KS{j:Int}(h: -(2 ^ 62)<=j/\j<=lim):eh [.int j]=bj (bq 0 j.toNat):=by unfold eh;exact if_pos h
theorem fh(r:List Int):bF 0 (r.map D.int)=true:=by
 induction r with
 |nil=>rfl
 |cons x r ih=>rw[Nd];unfold bF;rw[ih];unfold fi;rfl
def jv(n:Nat):List Int:=(dr n).map λi:Nat=>(0:Int)+(i:Int)
inductive Dr(P:D->D->Prop):List D->List D->Prop
 |nil:Dr P [] []
 |skip {d:D} {ds ys:List D}:Dr P ds ys->Dr P (d::ds) ys
 |put {d y:D} {ds ys:List D}:P d y->Dr P ds ys->Dr P (d::ds) (y::ys)
theorem Dr.len:∀{ds ys:List D},Dr P ds ys->ys.length<=ds.length
 |_,_,.nil=>MV _
 |_,_,.skip h=>Nat.le_succ_of_le h.len
 |_,_,.put _ h=>Pi h.len
theorem Dr.cl{P:D->D->Prop}(Z:∀d y,P d y->fi 0 y=b_):∀{ds ys:List D},Dr P ds ys->bF 0 ys=b_
 |_,_,.nil=>rfl
 |_,_,.skip h=>h.cl Z
 |_,_,.put p h=>by unfold bF;rw[Z _ _ p,h.cl Z];rfl
theorem mR{g:oH}{t:aI->M Bool}{m:TM}(R:aI->Prop)(P:D->D->Prop):∀(items:List D) (ρ:aI) (S:av),R ρ->eB S k->
  (∀d∈items,∀ ρ S,R ρ->eB S k->∃Z b S1,g d ρ=aC Z/\R Z/\t Z S=ar (.ok b,S1)/\Kp k S S1/\S1.length=S.length/\(b=b_->∃y S2,m Z S1=ar (.ok y,S2)/\P d y/\Kp k S1 S2/\S2.length=S1.length))->
  ∃ys S2,bI ⟨its,.none⟩ g t m items ρ S=ar (.ok ys,S2)/\Dr P items ys/\Kp k S S2/\S2.length=S.length
 |[],ρ,S,_,hs,_=>⟨[],S,by unfold bI;rw[cC];rfl,.nil,.refl hs,rfl⟩
 | d::ds,ρ,S,hR,hs,hb=>by
  obtain⟨Z,b,S1,e1,Y,e2,k1,O,N⟩:=hb d (Ni ..) ρ S hR hs;cases b with
  |false=>
   obtain⟨ys,S2,T,X,k2,W⟩:=mR (its:=its) R P ds Z S1 Y k1.st λx Q=>hb x (M3 _ Q);refine⟨ys,S2,?_,.skip X,k1.trans k2,W.trans O⟩;unfold bI;rw[cC,ah,e1,ah,aD e2,if_neg (by decide)];exact T
  |true=>
   obtain⟨y,S2,L,J,k2,W⟩:=N rfl;obtain⟨ys,U,T,X,k3,K⟩:=mR (its:=its) R P ds Z S2 Y k2.st λx Q=>hb x (M3 _ Q);refine⟨y::ys,U,?_,.put J X,(k1.trans k2).trans k3,K.trans (W.trans O)⟩;unfold bI;rw[cC,ah,e1,ah,aD e2,if_pos rfl,aD L,aD T];rfl
theorem BI{mi:aI->M Iter}{g:oH}{t:gM}{m:TM}(R:aI->Prop)(P:D->D->Prop)(W:mi ρ=aC ⟨its,.none⟩)(O:its.length<=1000)(X:R (gU js ρ))(hs:eB S k)(U:∀d y,P d y->fi 0 y=b_)
  (Q:∀d∈its,∀ ρ S,R ρ->eB S k->∃ ρ1 b S1,g d ρ=aC ρ1/\R ρ1/\t ρ1 S=ar (.ok b,S1)/\Kp k S S1/\S1.length=S.length/\(b=b_->∃y S2,m ρ1 S1=ar (.ok y,S2)/\P d y/\Kp k S1 S2/\S2.length=S1.length)):
  ∃ys S2,aL (aW mi g t m js) ρ S=ar (.ok (.fz ys),S2)/\Dr P its ys/\Kp k S S2/\S2.length=S.length:=by
 obtain⟨ys,S2,e,Y,k2,Z⟩:=mR (its:=its) (g:=g) (t:=t) (m:=m) (k:=k) R P its (gU js ρ) S X hs Q;have hlen:=Y.len;refine⟨ys,S2,?_,Y,k2,Z⟩;have T:aW mi g t m js ρ S=ar (.ok (.lst S2.length),S2++[ys]):=by unfold aW;rw[W,ah];unfold dq;rw[if_pos (show its.length<=lim by unfold lim;omega),aD e];exact cA (by unfold lim;omega)
 have:=kR (u:=.fz ys) T (oq (k2.trans (Kp.grow k2.st [ys]))) (.inl (by rw[MT,Z];exact OE _)) (by rw[MT,Z];exact Pm _) (mQ (f:=59) (by omega) bJ (Y.cl U));unfold aL;rw[this, <-Z,Re]
theorem vg{f:D->D->M D}{e1 e2:TM}(Z:e1 ρ S=ar (.ok x,S1))(Y:e2 ρ S1=ar (.ok y,S2))(h:f x y=aC (.bl b)):fP f e1 e2 ρ S=ar (.ok b,S2):=by
 have:(e1 ρ>>=λx=>e2 ρ>>=λy=>f x y) S=ar (.ok (.bl b),S2):=by rw[aD Z,aD Y,h];rfl
 exact aD this
theorem IP{ys:List D}(Z:S[p]? =ar xs)(Y:xs.length+ys.length<=1000):ny (.lst p) [.fz ys] S=ar (.ok .non,S.set p (xs++ys)):=by show(getL p>>=λxs=>lU p (xs++ys)) S=_;rw[aD (cH Z)];exact kb (by rw[MT];unfold lim;omega) (MX.mp Z).1
theorem BJ(W:∀r∈nss,r.length=2)(Z:nss.length<64):nJ (nss.map tupI)=bj ((fO nss).map tupI):=by
 cases nss with
 |nil=>rfl
 |cons r nss=>
  have X:two (r::nss)=true:=Nx.mpr λx Y=>by rw[W x Y];rfl
  show(match rowsOf ((r::nss).map tupI)with|some nss=>rj nss|none=>M.fail)=_;rw[mP];exact if_pos ⟨Z,X⟩
theorem vh{c:M D}{S2:av}(h:c S=ar (.ok (.lst S2.length),S2++[us]))(Z:Kp k S S2)(l:S2.length=S.length)(Y:bF 0 us=b_):iD c S=ar (.ok (.fz us),S2):=by have:=kR (u:=.fz us) h (oq (Z.trans (Kp.grow Z.st [us]))) (.inl (by rw[MT,l];exact OE _)) (by rw[MT,l];exact Pm _) (mQ (f:=59) (by omega) bJ Y);rw[this, <-l,Re]
theorem BK{Z:List (List Int)}(hs:eB S k)(X:S[p]? =ar (Z.map tupI))(W:∀r∈Z,r.length=2)(Y:Z.length<64):iD (cb [.lst p]) S=ar (.ok (.fz ((fO Z).map tupI)),S):=by refine vh ?_ (Kp.refl hs) rfl (bU _);show(getL p>>=λxs=>nJ xs) S=_;rw[aD (cH X),BJ W Y];exact cA (by rw[MS,(bM Z).length_eq];unfold lim;omega)
theorem vi{zs:List Int}{a:Int}(Y:0<=a)(h:a<zs.length):cZ (tupI zs) (.int a)=aC (.int (zs.getD a.toNat 0)):=by
 show(match mx (zs.map D.int) a with|some d=>(aC d:M D)|none=>M.fail)=_;have:mx (zs.map D.int) a=ar (.int (zs.getD a.toNat 0)):=by
  unfold mx B1;rw[MS];have X:¬ (a<0):=by omega
  have Z:a.toNat<zs.length:=by omega
  simp[Y,h,Z]
 rw[this]
section
variable {n:Nat}{zs:List Int}{E:List (List Int)}
end
theorem IQ{Z:aI->M (List D)}(h:Z ρ S=ar (.ok [d1,d2],S1)):Bp i j Z ρ S=ar (.ok (.nx ((ρ.set i (ar d1)).set j (ar d2))),S1):=by unfold Bp;rw[aD h];rfl
theorem jN{e1 e2:TM}(hs:eB S k)(Z:e1 ρ=aC (.lst k))(Y:e2 ρ=aC (.int m))(X:0<m)(W:m<1000):∃j S1,aL (az aH (ae e1 (ae e2 ak))) ρ S=ar (.ok (.int j),S1)/\0<=j/\j<m/\Kp k S S1/\S1.length=S.length:=by obtain⟨j,S1,e,r⟩:=Ad (many:=m) hs X (by omega);refine⟨j,S1,?_,r⟩;unfold aL;rw[call2 Z Y];exact e
def rX(n:Nat)(T:List (List Int)):Prop:=∀t∈T,∃a b:Int,t=[a,b]/\0<=a/\a<b/\b<n
theorem rX.snoc{n:Nat}{T:List (List Int)}{a b:Int}(h:rX n T)(X:0<=a)(Z:a<b)(Y:b<n):rX n (T++[[a,b]]):=λt W=>by
 rcases NA.mp W with h'|h'
 ·exact h t h'
 ·exact⟨a,b,by simpa using h',X,Z,Y⟩
theorem IR{e:TM}(h:e ρ S=ar (.ok x,S1)):iY e ρ S=mD [x] S1:=by unfold iY;rw[aD (bO h rfl)]
theorem Af{mi:aI->M Iter}(Z:mi ρ S=ar (.ok ⟨its,.none⟩,S1))(h:eQ ⟨its,.none⟩ g b its ρ S1=ar (.ok o,S2)):iu mi g b ρ S=ar (.ok o,S2):=by unfold iu;rw[aD Z];exact h
theorem Mj(l:List D)(m:Nat):S3.cutD l none (ar (m:Int))=l.take m:=by
 unfold S3.cutD;rw[HT.sIx_none,HT.sIx_nat,Rc,Nat.sub_zero];by_cases h:m<=l.length
 ·rw[Nat.min_eq_left h]
 ·rw[Nat.min_eq_right (by omega),OZ (MV _),OZ (by omega)]
theorem rX.two(h:rX n T):∀r∈T,r.length=2:=λr Z=>by obtain⟨a,b,rfl,_⟩:=h r Z;rfl
def iI(p:Int)(t:List Int):Bool:=t.any (· ==p)
theorem Ag(p:Int):∀t:List Int,((t.map rn).any λy=>f' y (.int p))=iI p t
 |[]=>rfl
 |x::r=>by
  rw[Nd,Rj,Ag p r];unfold iI;rw[Rj];congr 1
theorem Ah:inD (.int p) (tupI t)=aC (.bl (iI p t)):=bN λS=>by unfold inD;exact(nM jk (iH t) (r:=iI p t) (by show ar (id ((t.map rn).any λy=>f' y (.int p)))=_;rw[Ag];rfl)).mpr ⟨rfl,rfl⟩
theorem D4{F:List D->M D}{e1 e2 Z:TM}(W:e1 ρ=aC x)(Y:e2 ρ=aC y)(X:Z ρ=aC z):az F (ae e1 (ae e2 (ae Z ak))) ρ=F [x,y,z]:=by unfold az;rw[aP W (aP Y (aP X rfl)),ah]
theorem ot:∀s t:List Int,ly (s.map rn) (t.map rn)=decide (s=t)
 |[],[]=>by simp[ly]
 |[],_::_=>by simp[ly]
 |_::_,[]=>by simp[ly]
 |x::s,y::t=>by
  rw[Nd,Nd];unfold ly;rw[ot s t,OB];simp[f']
theorem Ai{a m:Nat}:bq ((a:Int)+1) ((m:Int) - ((a:Int)+1)).toNat=(iB (a+1) (m - (a+1))).map λb:Nat=>.int (b:Int):=by
 have e:((m:Int) - ((a:Int)+1)).toNat=m - (a+1):=by omega
 rw[e];unfold bq;rw[List.range'_eq_map_range,Nl];refine Om λi _=>?_;show D.int ((a:Int)+1+(i:Int))= .int ((a+1+i:Nat):Int);congr 1
theorem Ml{n a:Nat}{x:Option D}(Z:n<=14)(Y:a<n):aL (aW (GN (aU bK (mV 2) (mK (.int 1))) (mV 0)) (gN 0) fF fG [none,ar 2]) [ar (.int n),x,ar (.int a)]=aC (.fz ((u9 n a).map tupI)):=by
 have em:(((iB (a+1) (n - (a+1))).map λb:Nat=>D.int (b:Int)).filter λ_=>b_).map (λd=>D.tup [.int a,d])=(u9 n a).map tupI:=by unfold u9;rw[dz,Nl,Nl];rfl
 have h:=oa (mi:=GN (aU bK (mV 2) (mK (.int 1))) (mV 0)) (g:=gN 0) (t:=fF) (m:=fG) (js:=[none,ar 2]) (ρ:=[ar (.int n),x,ar (.int a)]) (its:=(iB (a+1) (n - (a+1))).map λb:Nat=>D.int (b:Int)) (λρ=>∃y,ρ=[y,ar (.int a)]) (λ_=>b_) (λd=>D.tup [.int a,d])
  (by rw[DQ (x:=.int ((a:Int)+1)) (y:=.int n) rfl rfl,KI (by omega),Ai]) (by rw[MS,OK];unfold lim;omega) ⟨none,rfl⟩
  (λd hd ρ ⟨y,hρ⟩=>by subst hρ;refine⟨_,rfl,⟨_,rfl⟩,rfl,λ_=>?_⟩;show bH [.int a,d]=_;unfold bH;exact if_pos pq) (by rw[em];exact bU _)
 rw[em]at h;exact h
theorem tW{S:av}{n:Nat}{its:List D}(Z:n<=14):∀(post:List Nat) (acc:List (List Int)) (x:Option D),(∀a∈post,a<n)->acc.length+post.length*14<=300->
  ∃Y,eQ ⟨its,.none⟩ (gN 2) ig (post.map λi:Nat=>.int (0+(i:Int))) [ar (.int n),ar (.lst S.length),x] (S++[acc.map tupI])=ar (.ok (.nx [ar (.int n),ar (.lst S.length),Y]),S++[(acc++post.flatMap (u9 n)).map tupI])
 |[],acc,x,_,_=>⟨x,by rw[Oo,gS,List.flatMap_nil,NL];rfl⟩
 |a::post,acc,x,ha,hl=>by
  rw[N4,Nat.succ_mul]at hl;have U:=FY (a:=a) Z;obtain⟨Y,X⟩:=tW (S:=S) (its:=its) Z post (acc++u9 n a) (ar (.int a)) (λb W=>ha b (.tail _ W)) (by rw[MT];omega);refine⟨Y,?_⟩;rw[List.flatMap_cons, <-Nh, <-X,Nd,P0];refine kc rfl (rN (x:=.non) ((rW (x:=.lst S.length) rfl rfl (Nt (Ml Z (ha a (.head _))) _)).trans ((IP bJ (by rw[MS,MS];omega)).trans ?_)));rw[<-NC,O7 _ _ (MV _),Ra];rfl
theorem D5{n:Nat}(Y:n<=14):iD (bD [.int n])=aC (.fz ((eO n).map tupI)):=by
 have U:=pairs_len Y;have Z:((eO n).map tupI).length<=lim:=by rw[MS];unfold lim;omega
 have:bD [.int n]=bj ((eO n).map tupI):=by
  funext S;obtain⟨T,e⟩:=tW (S:=S) (its:=bq 0 n) Y (dr n) [] none (λa W=>Na.mp W) (by rw[M0];simp;omega);have X:iY (mV 0) [ar (.int n),ar (.lst S.length),none]=aC ⟨bq 0 n,.none⟩:=by have:=(uW (m:=mV 0) (ρ:=[ar (.int n),ar (.lst S.length),none]) (x:=.int n) rfl).trans (DR (by omega));rw[NH]at this;exact this
  rw[cA Z];exact fK (o:=.ret (.lst S.length)) ((aQ (b9 (cA (S:=S) (us:=[]) (Nr _)))).trans ((aQ (rP X e)).trans (gH rfl))) rfl
 rw[this];exact bR (bU _) Z
theorem IS{c:M D}{S S2:av}{us:List D}{k q:Nat}(hs:eB S k)(h:c S=ar (.ok (.lst q),S2))(Z:Kp k S S2)(Y:S.length<=q)(g:S2[q]? =ar us)(X:bF 0 us=b_):∃S1,iD c S=ar (.ok (.fz us),S1)/\Kp k S S1/\S1.length=S.length:=
 ⟨_,kR (u:=.fz us) h (oq Z) (.inl (Py Y (MX.mp g).1)) Z.len (mQ (f:=59) Y g X),vd hs Z⟩
theorem wV{S:av}{k p q:Nat}{a1:Option D}(T:k<S.length)(P:S.length<=p)(N:S.length<=q)(Y:p≠q):∀(f:Nat) (ls ms:List Int) (S':av),ls.length<f->ls.length+ms.length<=14->S'[p]? =ar (ls.map D.int)->S'[q]? =ar (ms.map D.int)->Kp k S S'->
  ∃(zs:List Int) (S2:av),kI (fP kL (mV 2) (aL (bc ak))) cN f [ar (.lst k),a1,ar (.lst p),ar (.lst q)] S'=ar (.ok (.nx [ar (.lst k),a1,ar (.lst p),ar (.lst q)]),S2)/\S2[q]? =ar (zs.map D.int)/\zs.Perm (ms++ls)/\Kp k S S2
 |0,ls,ms,S',h,_,_,_,_=>by omega
 | f +1,ls,ms,S',hf,hl,g1,g2,kp=>by
  have E:fP kL (mV 2) (aL (bc ak)) [ar (.lst k),a1,ar (.lst p),ar (.lst q)] S'=ar (.ok (!ls.isEmpty),S'):=by have F:aL (bc ak) [ar (.lst k),a1,ar (.lst p),ar (.lst q)]=aC (.fz []):=bR (us:=[]) rfl (Nr _);show((mV 2 _>>=λx=>aL (bc ak) _>>=λy=>kL x y)>>=lS) S'=_;rw[F];show(kL (.lst p) (.fz [])>>=lS) S'=_;rw[aD (IM g1)];rfl
  rw[kI,aD E];cases ls with
  |nil=>exact⟨ms,S',by rfl,g2,by rw[NL],kp⟩
  | cons l0 ls0=>
   generalize hL:l0::ls0=ls at*;have U:(!ls.isEmpty)=true:=by rw[<-hL];rfl
   have O:0<ls.length:=by rw[<-hL];exact Nat.succ_pos _
   rw[if_pos U];obtain⟨j,S1,K,B,z,X,A⟩:=Ad (S:=S') (k:=k) (many:=ls.length) kp.st (by omega) (by omega);have H:=(MX.mp g1).1;have ql:=(MX.mp g2).1;have I:=(X.oth p H (by omega)).trans g1;have L:=(X.oth q ql (by omega)).trans g2;have Q:j.toNat<ls.length:=by omega
   have G:cN [ar (.lst k),a1,ar (.lst p),ar (.lst q)] S'=ar (.ok (.nx [ar (.lst k),a1,ar (.lst p),ar (.lst q)]),(S1.set p ((ls.eraseIdx j.toNat).map D.int)).set q ((ms++[ls[j.toNat]]).map D.int)):=by
    unfold cN;have hlen:di gn (mV 2) [ar (.lst k),a1,ar (.lst p),ar (.lst q)] S'=ar (.ok (.int ls.length),S'):=by refine(rO (x:=.lst p) (S1:=S') rfl).trans ?_;show(getL p>>=λxs=>aC (D.int xs.length)) S'=_;rw[aD (cH g1),MS];rfl
    have R:aL (az aH (ae (mV 0) (ae (di gn (mV 2)) ak))) [ar (.lst k),a1,ar (.lst p),ar (.lst q)] S'=ar (.ok (.int j),S1):=by have C:az aH (ae (mV 0) (ae (di gn (mV 2)) ak)) [ar (.lst k),a1,ar (.lst p),ar (.lst q)] S'=aH [.lst k,.int ls.length] S':=aD (bO (x:=.lst k) rfl (bO hlen rfl));unfold aL;rw[<-K];unfold iD;rw[C]
    have Z:=(rW (f:=oW) (e1:=mV 2) (ρ:=[ar (.lst k),a1,ar (.lst p),ar (.lst q)]) (x:=.lst p) rfl rfl R).trans (pop_at (d:=.int ls[j.toNat]) I (by rw[MS];omega) B (by rw[MS];omega) (by rw[Nn,MY Q];rfl));rw[tT]at Z;have W:=(rW (f:=cO) (e1:=mV 3) (ρ:=[ar (.lst k),a1,ar (.lst p),ar (.lst q)]) (x:=.lst q) rfl rfl Z).trans (yz (d:=.int ls[j.toNat]) (xs:=ms.map D.int) (by rw[NM Y];exact L) (by rw[MS];omega));refine rN (x:=.non) (W.trans ?_);rw[NC];rfl
   rw[aD G];have he:=Qq Q;obtain⟨zs,S2,e2,g3,J,k2⟩:=wV (a1:=a1) T P N Y f (ls.eraseIdx j.toNat) (ms++[ls[j.toNat]]) ((S1.set p ((ls.eraseIdx j.toNat).map D.int)).set q ((ms++[ls[j.toNat]]).map D.int)) (by omega) (by rw[MT];show _+(ms.length+1)<=14;omega)
    (by rw[NM (j' Y),NB (by omega)]) (by rw[NB (by rw[O2];omega)]) (((kp.trans X).set P T).set N T)
   refine⟨zs,S2,e2,g3,J.trans ?_,k2⟩;rw[Nh];exact(yA Q).append_left ms
theorem D6{S:av}{k n:Nat}{ρ:aI}{e1 e2:TM}(hs:eB S k)(N:n<=14)(Q:e1 ρ=aC (.lst k))(T:e2 ρ=aC (.int n)):∃(zs:List Int) (S1:av),aL (az d4 (ae e1 (ae (aL (di eh e2)) ak))) ρ S=ar (.ok (.fz (zs.map D.int)),S1)/\zs.Perm (jv n)/\Kp k S S1/\S1.length=S.length:=by
 have P:bq 0 n=(jv n).map D.int:=by unfold bq jv;rw[Nl];rfl
 have hlen:(jv n).length=n:=by unfold jv;simp
 have Z:((jv n).map D.int).length<=lim:=by rw[MS,hlen];unfold lim;omega
 have R:aL (di eh e2) ρ=aC (.fz ((jv n).map D.int)):=by unfold aL;rw[fA T,KS (j:=n) ⟨by omega,by unfold lim;omega⟩,NH,P];exact bR (fh _) Z
 obtain⟨zs,S2,e,g3,W,k2⟩:=wV (S:=S) (k:=k) (p:=S.length) (q:=S.length+1) (a1:=ar (.fz ((jv n).map D.int))) hs.lt (MV _) (Pm _) (by omega) 64 (jv n) [] (S++[(jv n).map D.int,[]]) (by omega) (by simp;omega) (pX 0) (pX 1) (Kp.grow hs _);have U:bE 3 (bc ak) [ar (.lst k),ar (.fz ((jv n).map D.int)),ar (.lst S.length),none] (S++[(jv n).map D.int])=ar (.ok (.nx [ar (.lst k),ar (.fz ((jv n).map D.int)),ar (.lst S.length),ar (.lst (S.length+1))]),S++[(jv n).map D.int,[]]):=by refine(b9 (cA (S:=S++[(jv n).map D.int]) (us:=[]) (Nr _))).trans ?_;rw[Nh,MT];rfl
 have O:di nv (mV 1) [ar (.lst k),ar (.fz ((jv n).map D.int)),none,none] S=ar (.ok (.lst S.length),S++[(jv n).map D.int]):=(rO (F:=nv) (x:=.fz ((jv n).map D.int)) (S1:=S) rfl).trans (cA Z);have Y:e9 [ar (.lst k),ar (.fz ((jv n).map D.int)),none,none] S=ar (.ok (.ret (.lst (S.length+1))),S2):=by unfold e9;exact(aQ (b9 O)).trans ((aQ U).trans ((aQ e).trans (gH rfl)))
 have hm:d4 [.lst k,.fz ((jv n).map D.int)] S=ar (.ok (.lst (S.length+1)),S2):=fK Y rfl;obtain⟨S1,X,k1⟩:=IS hs hm k2 (Pm _) g3 (fh _);refine⟨zs,S1,?_,by rw[Qg]at W;exact W,k1⟩;unfold aL;rw[call2 Q R];exact X
theorem Dr.sub:∀{L:List (List Int)} {ys:List D},Dr (λd y=>y=d) (L.map tupI) ys->∃rs:List (List Int),ys=rs.map tupI/\rs.Sublist L
 |[],_,.nil=>⟨[],rfl,.slnil⟩
 |t::L,_,.skip h=>by
  obtain⟨rs,e,Z⟩:=Dr.sub h;exact⟨rs,e,Z.cons _⟩
 |t::L,_,.put p h=>by
  obtain⟨rs,e,Z⟩:=Dr.sub h;subst p e;exact⟨t::rs,rfl,Z.cons₂ _⟩
theorem pA{mi:aI->M Iter}{t:gM}{m:TM}{js:List (Option Nat)}{ρ:aI}{L:List (List Int)}{S:av}{k:Nat}(r:List (Option D))(P:mi ρ=aC ⟨L.map tupI,.none⟩)(N:L.length<=1000)(T:gU js ρ=none::r)(hs:eB S k)(R:∀d,m (ar d::r)=aC d)
  (O:∀(u:List Int) Z,Kp k S Z->Z.length=S.length->∃b S1,t (ar (tupI u)::r) Z=ar (.ok b,S1)/\Kp k Z S1/\S1.length=Z.length):
  ∃(rs:List (List Int)) (S2:av),aW mi (gN 0) t m js ρ S=ar (.ok (.lst S2.length),S2++[rs.map tupI])/\rs.Sublist L/\Kp k S S2/\S2.length=S.length:=by
 have key:∀(items:List D) (o:Option D) (Z:av),(∀d∈items,∃u,d=tupI u)->Kp k S Z->Z.length=S.length->∃ys S2,bI ⟨L.map tupI,.none⟩ (gN 0) t m items (o::r) Z=ar (.ok ys,S2)/\Dr (λd y=>y=d) items ys/\Kp k S S2/\S2.length=S.length:=λitems=>by
  induction items with
  |nil=>exact λo Z _ W l=>⟨[],Z,by unfold bI;rw[cC];rfl,.nil,W,l⟩
  | cons d ds ih=>
   intro o Z hd W l;obtain⟨u,rfl⟩:=hd d (.head _);obtain⟨b,S1,e1,k1,Q⟩:=O u Z W l;obtain⟨ys,S2,e2,Y,k2,X⟩:=ih (ar (tupI u)) S1 (λd h=>hd d (.tail _ h)) (W.trans k1) (Q.trans l);cases b with
   |false=>
    refine⟨ys,S2,?_,.skip Y,k2,X⟩;unfold bI;rw[cC,ah,show gN 0 (tupI u) (o::r)=aC (ar (tupI u)::r)from rfl,ah,aD e1,if_neg (by decide)];exact e2
   |true=>
    refine⟨tupI u::ys,S2,?_,.put rfl Y,k2,X⟩;unfold bI;rw[cC,ah,show gN 0 (tupI u) (o::r)=aC (ar (tupI u)::r)from rfl,ah,aD e1,if_pos rfl,R,ah,aD e2];rfl
 obtain⟨ys,S2,e,Y,k2,X⟩:=key (L.map tupI) none S (λd hd=>by obtain⟨u,_,rfl⟩:=Nm.mp hd;exact⟨u,rfl⟩) (.refl hs) rfl;obtain⟨rs,rfl,U⟩:=Y.sub;refine⟨rs,S2,?_,U,k2,X⟩;have:=U.length_le;unfold aW;rw[P,ah];unfold dq;rw[if_pos (show(L.map tupI).length<=lim by rw[MS];unfold lim;omega),T,aD e];exact cA (by rw[MS];unfold lim;omega)
theorem tX{ds:List D}{i:Int}(Z:0<=i)(Y:i<ds.length):∃d∈ds,cZ (.fz ds) (.int i)=aC d:=by obtain⟨d,e,hd⟩:=GT Z Y;refine⟨d,hd,?_⟩;show(match mx ds i with|some d=>(aC d:M D)|none=>M.fail)=_;rw[e]
theorem mS{zs:List Int}{a:Int}(Z:0<=a)(h:a<zs.length):cZ (.fz (zs.map D.int)) (.int a)=aC (.int (zs.getD a.toNat 0)):=vi Z h
theorem GU{e1 e2:TM}{ρ:aI}{x y:Int}(W:e1 ρ=aC (.int x))(Y:e2 ρ=aC (.int y)):di cK (aL (di cb (aL (bc (ae e1 (ae e2 ak)))))) ρ=aC (tupI (sortI [x,y])):=by
 have X:(sortI [x,y]).length=2:=(sortI_perm [x,y]).length_eq;have Z:((sortI [x,y]).map D.int).length<=lim:=by rw[MS,X];exact pq
 have a1:aL (bc (ae e1 (ae e2 ak))) ρ=aC (.fz [.int x,.int y]):=by show iD (ae _ _ _>>=bj)=_;rw[aP W (aP Y (es:=ak) rfl),ah];exact bR (us:=[.int x,.int y]) rfl pq
 refine(fA (x:=.fz ((sortI [x,y]).map D.int)) ?_).trans (lq Z);show iD (di cb _ _)=_;rw[fA a1];exact bR (fh _) Z
theorem IT{s:List Int}{rs:List (List Int)}:∃b,inD (tupI s) (.fz (rs.map tupI))=aC (.bl b):=by
 refine⟨(rs.map iG).any λy=>f' y (iG s),bN λS=>?_⟩;unfold inD;have Z:gm S 60 (.fz (rs.map tupI))=ar (.list (rs.map iG)):=by show(mapP (gm S 59) (rs.map tupI)).map m_=_;rw[jM];rfl
 exact(nM (iH s) Z (r:=(rs.map iG).any λy=>f' y (iG s)) rfl).mpr ⟨rfl,rfl⟩
theorem pB{ρ:aI}{e:TM}{n:Nat}(Z:n<=14)(h:e ρ=aC (.int n)):cg (aL (az bD (ae e ak))) ρ=aC ⟨(eO n).map tupI,.none⟩:=by
 have:aL (az bD (ae e ak)) ρ=aC (.fz ((eO n).map tupI)):=by unfold aL;rw[d9 h];exact D5 Z
 unfold cg;rw[this];rfl
section
variable {S:av}{k n g:Nat}{j:Int}{zs:List Int}{its:List D}
abbrev m8:TM:=aL (bc (aA (mK (.int 0)) (aA (mK (.int 0)) (aA (mK (.int 1)) (aA (mK (.int 0)) (aA (mK (.int 2)) (aA (mK (.int 1)) (aA (mK (.int 3)) (aA (mV 1) ak)))))))))
theorem IU{r:List (Option D)}(hs:eB S k):∃(n:Nat) (S1:av),az maxD (ae (mK (.int 0)) (ae (aU iZ (mV 1) (aU cZ m8 (aL (az aH (ae (mV 0) (ae (mK (.int 8)) ak)))))) ak)) (ar (.lst k)::ar (.int g)::r) S=ar (.ok (.int n),S1)/\n<=g/\Kp k S S1/\S1.length=S.length:=by
 obtain⟨i,S1,Y,U,X,k1,T⟩:=jN (e1:=mV 0) (e2:=mK (.int 8)) (ρ:=ar (.lst k)::ar (.int g)::r) (m:=8) hs rfl rfl (by decide) (by decide);have R:m8 (ar (.lst k)::ar (.int g)::r)=aC (.fz [.int 0,.int 0,.int 1,.int 0,.int 2,.int 1,.int 3,.int g]):=bR (us:=[.int 0,.int 0,.int 1,.int 0,.int 2,.int 1,.int 3,.int g]) rfl (by show 8<=lim;unfold lim;omega);obtain⟨d,hd,Z⟩:=tX (ds:=[.int 0,.int 0,.int 1,.int 0,.int 2,.int 1,.int 3,.int g]) U X;have Q:∃u:Int,d= .int u/\0<=u:=by simp only[f_,eK,or_false]at hd;rcases hd with rfl|rfl|rfl|rfl|rfl|rfl|rfl|rfl<;>exact⟨_,rfl,by omega⟩
 obtain⟨u,rfl,P⟩:=Q;have W:aU iZ (mV 1) (aU cZ m8 (aL (az aH (ae (mV 0) (ae (mK (.int 8)) ak))))) (ar (.lst k)::ar (.int g)::r) S=ar (.ok (.int ((g:Int) - u)),S1):=
  (fR (f:=iZ) (x:=.int g) (S1:=S) rfl ((fR (Nt R S) Y).trans (Nt Z S1))).trans rfl
 refine⟨((g:Int) - u).toNat,S1,?_,by omega,k1,T⟩;refine(aD (bO (x:=.int 0) (S1:=S) rfl (bO W rfl))).trans ?_;show ar (Res.ok (D.int (if (g:Int) - u>0 then (g:Int) - u else 0)),S1)=_;have:(if (g:Int) - u>0 then (g:Int) - u else 0)=(((g:Int) - u).toNat:Int):=by split<;>omega
 rw[this]
abbrev eW(k g n:Nat)(j:Int)(r:List (Option D)):aI:=ar (.lst k)::ar (.int g)::ar (.int n)::ar (.int j)::r
theorem F9{r:List (Option D)}(hs:eB S k)(Q:n<=7)(O:0<=j):∃(rs:List (List Int)) (S2:av),aW (cg (aL (az bD (ae (mV 2) ak)))) (gN 0) jq jr [none,ar 0,ar 3] (eW k g n j r) S=ar (.ok (.lst S2.length),S2++[rs.map tupI])/\rs.Sublist (eO n)/\Kp k S S2/\S2.length=S.length:=
 pA [ar (.lst k),ar (.int j)] (pB (by omega) rfl) (by have:=pairs_len (n:=n) (by omega);omega) rfl hs (λd=>rfl) λu R T l=>by
  obtain⟨i,S1,Z,P,N,k1,Y⟩:=jN (e1:=mV 1) (e2:=mK (.int 8)) (ρ:=[ar (tupI u),ar (.lst k),ar (.int j)]) (m:=8) T.st rfl rfl (by decide) (by decide);have X:aL (bc (ae (mK (.int 2)) (ae (mK (.int 4)) (ae (mK (.int 6)) ak)))) [ar (tupI u),ar (.lst k),ar (.int j)]=aC (.fz [.int 2,.int 4,.int 6]):=bR (us:=[.int 2,.int 4,.int 6]) rfl (by show 3<=lim;unfold lim;omega);have hm:aU mB (mV 2) (mK (.int 3)) [ar (tupI u),ar (.lst k),ar (.int j)]=aC (.int (j % 3)):=(b7 (x:=.int j) (y:=.int 3) rfl rfl).trans (show mB (.int j) (.int 3)=_ from if_pos (e:=M.fail) (show(0:Int)<3 by decide));obtain⟨d,hd,U⟩:=tX (ds:=[.int 2,.int 4,.int 6]) (i:=j % 3) (by omega) (by show j % 3<3;omega);have W:∃v:Int,d= .int v:=by simp only[f_,eK,or_false]at hd;rcases hd with rfl|rfl|rfl<;>exact⟨_,rfl⟩
  obtain⟨v,rfl⟩:=W;exact⟨decide (i<v),S1,vg (y:=.int v) Z (Nt ((b7 X hm).trans U) S1) rfl,k1,Y⟩
theorem IV{a:Nat}{q:Nat}{x7:Option D}(R:2<j)(P:j<7)(Q:1<=a)(W:a<n)(T:zs.length=n):∃r:List Int,di cK (aL (di cb (aL (bc (ae (aU cZ (mV 5) (mV 6)) (ae (aU cZ (mV 5) (aU cZ (aL (bc (aA (aU iZ (mV 6) (mK (.int 1))) (aA (aU iZ (mV 6) (mK (.int 1))) (aA (mK (.int 0)) (aA (aU nj (mV 6) (mK (.int 2))) ak)))))) (aU iZ (mV 3) (mK (.int 3))))) ak)))))) (eW k g n j [ar (.lst q),ar (.fz (zs.map D.int)),ar (.int a),x7])=aC (tupI r):=by
 have X:aL (bc (aA (aU iZ (mV 6) (mK (.int 1))) (aA (aU iZ (mV 6) (mK (.int 1))) (aA (mK (.int 0)) (aA (aU nj (mV 6) (mK (.int 2))) ak))))) (eW k g n j [ar (.lst q),ar (.fz (zs.map D.int)),ar (.int a),x7])=aC (.fz [.int ((a:Int) - 1),.int ((a:Int) - 1),.int 0,.int ((a:Int) / 2)]):=by
  have U:aA (aU iZ (mV 6) (mK (.int 1))) (aA (aU iZ (mV 6) (mK (.int 1))) (aA (mK (.int 0)) (aA (aU nj (mV 6) (mK (.int 2))) ak))) (eW k g n j [ar (.lst q),ar (.fz (zs.map D.int)),ar (.int a),x7])=aC [.int ((a:Int) - 1),.int ((a:Int) - 1),.int 0,.int ((a:Int) / 2)]:=
   aP (x:=.int ((a:Int) - 1)) rfl (aP (x:=.int ((a:Int) - 1)) rfl (aP (x:=.int 0) rfl (aP (x:=.int ((a:Int) / 2)) ((b7 (x:=.int a) (y:=.int 2) rfl rfl).trans (show nj (.int a) (.int 2)=_ from if_pos (e:=M.fail) (show AM a 2 from⟨by decide,by decide⟩))) (es:=ak) rfl)))
  show iD (aA _ _ _>>=bj)=_;rw[U,ah];exact bR (us:=[.int ((a:Int) - 1),.int ((a:Int) - 1),.int 0,.int ((a:Int) / 2)]) rfl (by show 4<=lim;unfold lim;omega)
 obtain⟨d,hd,Z⟩:=tX (ds:=[.int ((a:Int) - 1),.int ((a:Int) - 1),.int 0,.int ((a:Int) / 2)]) (i:=j - 3) (by omega) (by show j - 3<4;omega);have Y:∃v:Int,d= .int v/\0<=v/\v<n:=by simp only[f_,eK,or_false]at hd;rcases hd with rfl|rfl|rfl|rfl<;>exact⟨_,rfl,by omega,by omega⟩
 obtain⟨v,rfl,v0,v1⟩:=Y;exact⟨_,GU ((b7 (x:=.fz (zs.map D.int)) (y:=.int a) rfl rfl).trans (mS (by omega) (by omega))) ((b7 (x:=.fz (zs.map D.int)) rfl ((b7 (y:=.int (j - 3)) X rfl).trans Z)).trans (mS v0 (by omega)))⟩
theorem Aj{q:Nat}{ρ:aI}{e:TM}{r:List Int}{acc:List (List Int)}(Y:mV 4 ρ=aC (.lst S.length))(Z:e ρ=aC (tupI r))(X:acc.length<=500):qh (uK cO (mV 4) e) ρ (S++[acc.map tupI])=ar (.ok (.nx ρ),S++[(acc++[r]).map tupI]):=by refine rN (x:=.non) ((rW Y rfl (Nt Z _)).trans ((yz bJ (by rw[MS];omega)).trans ?_));rw[NC,O7 _ _ (MV _),Ra];rfl
theorem GV(W:2<j)(U:j<7)(X:zs.length=n):∀(post:List Nat) (acc:List (List Int)) (x6 x7:Option D),(∀a∈post,1<=a/\a<n)->acc.length+post.length<=100->
  ∃(Y:Option D) (Z:List (List Int)),eQ ⟨its,.none⟩ (gN 6) gO (post.map λb:Nat=>.int (b:Int)) (eW k g n j [ar (.lst S.length),ar (.fz (zs.map D.int)),x6,x7]) (S++[acc.map tupI])=ar (.ok (.nx (eW k g n j [ar (.lst S.length),ar (.fz (zs.map D.int)),Y,x7])),S++[Z.map tupI])/\Z.length<=acc.length+post.length
 |[],acc,x6,x7,_,_=>⟨x6,acc,by rw[Oo,gS];rfl,MV _⟩
 |a::post,acc,x6,x7,ha,hl=>by
  rw[N4]at hl⊢;obtain⟨R,P⟩:=ha a (.head _);obtain⟨r,O⟩:=IV (k:=k) (g:=g) (q:=S.length) (x7:=x7) W U R P X;obtain⟨Y,Z,N,Q⟩:=GV W U X post (acc++[r]) (ar (.int a)) x7 (λb T=>ha b (.tail _ T)) (by rw[MT];show acc.length+1+_<=100;omega);refine⟨Y,Z,?_,by rw[MT]at Q;have:[r].length=1:=rfl;omega⟩;rw[<-N,Nd];exact kc rfl (Aj (q:=0) rfl O (by omega))
theorem KU{r:List (Option D)}(hs:eB S k)(T:n<=7):∃(rs:List (List Int)) (S2:av),aL (aW (cg (aL (az bD (ae (mV 2) ak)))) (gN 0) fu fw [none,ar 0]) (eW k g n j r) S=ar (.ok (.fz (rs.map tupI)),S2)/\Kp k S S2/\S2.length=S.length:=by
 obtain⟨rs,S2,e,_,k2,Z⟩:=pA (t:=fu) (m:=fw) (js:=[none,ar 0]) (ρ:=eW k g n j r) [ar (.lst k)] (pB (e:=mV 2) (by omega) rfl) (by have:=pairs_len (n:=n) (by omega);omega) rfl hs (λd=>rfl) λu U W l=>by obtain⟨i,S1,Y,R,Q,k1,X⟩:=jN (e1:=mV 1) (e2:=mK (.int 12)) (ρ:=[ar (tupI u),ar (.lst k)]) (m:=12) W.st rfl rfl (by decide) (by decide);exact⟨_,S1,vg (y:=.int 0) Y rfl Jz,k1,X⟩
 exact⟨rs,S2,vh e k2 Z (bU _),k2,Z⟩
theorem Ga{q:Nat}{os acc:List (List Int)}{x5 x6:Option D}(hs:eB S k)(L:n<=7)(W:S[q]? =ar (acc.map tupI))(X:q≠k):∃(rs:List (List Int)) (S2:av),aW (cg (aL (az bD (ae (mV 2) ak)))) (gN 0) gQ gR [none,ar 4,ar 7] (eW k g n j [ar (.lst q),x5,x6,ar (.fz (os.map tupI))]) S=ar (.ok (.lst S2.length),S2++[rs.map tupI])/\rs.Sublist (eO n)/\Kp k S S2/\S2.length=S.length:=
 pA [ar (.lst q),ar (.fz (os.map tupI))] (pB (by omega) rfl) (by have:=pairs_len (n:=n) (by omega);omega) rfl hs (λd=>rfl) λu Z U l=>by have Y:=(U.oth q (MX.mp W).1 X).trans W;obtain⟨_,_,e1,b,rfl,rfl⟩:=FZ (r:=u) (Q:=λd T=>∃b,d= .bl b/\Z=T) Y λb=>⟨b,rfl,rfl⟩;obtain⟨c,e2⟩:=IT (s:=u) (rs:=os);obtain⟨_,_,O,R,rfl,rfl⟩:=KN (S:=Z) (a:=b) (b:=c) (Q:=λd T=>∃b,d= .bl b/\Z=T) λb=>⟨b,rfl,rfl⟩;refine⟨R,Z,?_,.refl U.st,rfl⟩;have N:aU inD (mV 0) (mV 1) [ar (tupI u),ar (.lst q),ar (.fz (os.map tupI))] Z=ar (.ok (.bl b),Z):=(Nt (b7 (x:=tupI u) (y:=.lst q) rfl rfl) Z).trans e1;have P:aU inD (mV 0) (mV 2) [ar (tupI u),ar (.lst q),ar (.fz (os.map tupI))] Z=ar (.ok (.bl c),Z):=Nt ((b7 (x:=tupI u) (y:=.fz (os.map tupI)) rfl rfl).trans e2) Z;exact aD ((fR N P).trans O)
theorem KW{m:TM}{ρ:aI}(Z:n<=100)(h:m ρ=aC (.int n)):GN (mK (.int 1)) m ρ=aC ⟨(iB 1 (n - 1)).map λb:Nat=>.int (b:Int),.none⟩:=by have:=Ai (a:=0) (m:=n);rw[DQ (x:=.int 1) rfl h,KI (by omega)];rw[show((0:Nat):Int)+1=1 from rfl]at this;rw[this]
theorem KY{ρ:aI}{q:Nat}{rs:List (List Int)}(hs:eB S k)(X:n<=7)(W:mV 2 ρ=aC (.int n))(T:mV 4 ρ=aC (.lst q))(g:S[q]? =ar (rs.map tupI))(Y:rs.Sublist (eO n)):
  cq (ft (ae (mV 2) (ae (di cK (aL (di cb (mV 4)))) ak))) ρ S=ar (.ok (.ret (aS n rs)),S):=by
 have w:WebOk n rs:=WebOk.of_sub X Y;have hf:=w.few;have Z:aL (di cb (mV 4)) ρ S=ar (.ok (.fz (rs.map tupI)),S):=by unfold aL;rw[fA T];have:=BK hs g (λr U=>by obtain⟨a,b,e,_⟩:=w.el r U;rw[e];rfl) (by omega);rw[BE w.ris]at this;exact this
 refine gH (yu (Nt W S) ((rO Z).trans ?_));rw[lq (by rw[MS];unfold lim;omega)];rfl
theorem IW{q:Nat}{acc:List (List Int)}{x6 x7:Option D}(R:n<=7)(U:zs.length=n)(T:acc.length<=100):∃acc2:List (List Int),lI (Dl (fP km (mV 3) (mK (.int 4))) (fP CK (mV 2) (mK (.int 2)))) (qh (uK cO (mV 4) (di cK (aL (di cb (aL (bc (ae (aU cZ (mV 5) (mK (.int 0))) (ae (aU cZ (mV 5) (aU iZ (mV 2) (mK (.int 1)))) ak))))))))) fS (eW k g n j [ar (.lst S.length),ar (.fz (zs.map D.int)),x6,x7]) (S++[acc.map tupI])=ar (.ok (.nx (eW k g n j [ar (.lst S.length),ar (.fz (zs.map D.int)),x6,x7])),S++[acc2.map tupI]):=by
 have X:fP km (mV 3) (mK (.int 4)) (eW k g n j [ar (.lst S.length),ar (.fz (zs.map D.int)),x6,x7])=aC (decide (j=4)):=eu (x:=.int j) (y:=.int 4) rfl rfl Jz;have Y:fP CK (mV 2) (mK (.int 2)) (eW k g n j [ar (.lst S.length),ar (.fz (zs.map D.int)),x6,x7])=aC (decide (2<(n:Int))):=eu (x:=.int n) (y:=.int 2) rfl rfl rfl;have Z:Dl (fP km (mV 3) (mK (.int 4))) (fP CK (mV 2) (mK (.int 2))) (eW k g n j [ar (.lst S.length),ar (.fz (zs.map D.int)),x6,x7])=aC (decide (j=4) && decide (2<(n:Int))):=by
  show(fP km _ _ _>>=_)=_;rw[X,ah];cases decide (j=4)with
  |false=>rfl
  |true=>exact Y
 by_cases h:(decide (j=4) && decide (2<(n:Int)))=b_
 ·have W:2<n:=by
   have:=NY ((ND _ _).mp h).2;omega
  refine⟨_,(Nt ((dI Z).trans (if_pos h)) _).trans (Aj (q:=0) rfl (GU (x:=zs.getD 0 0) (y:=zs.getD (n - 1) 0) ?_ ?_) (by omega))⟩
  ·exact(b7 (x:=.fz (zs.map D.int)) (y:=.int 0) rfl rfl).trans (mS (by decide) (by omega))
  ·refine(b7 (x:=.fz (zs.map D.int)) (y:=.int ((n:Int) - 1)) rfl rfl).trans ((mS (by omega) (by omega)).trans ?_);rw[show((n:Int) - 1).toNat=n - 1 by omega]
 ·exact⟨acc,(Nt ((dI Z).trans (if_neg h)) _).trans rfl⟩
theorem IX(hg:g<=7)(hs:eB S k):∃(n:Nat) (E:List (List Int)) (S1:av),iD (fH [.lst k,.int g]) S=ar (.ok (aS n E),S1)/\n<=g/\WebOk n E/\Kp k S S1/\S1.length=S.length:=by
 obtain⟨n,T1,e1,p,k1,l1⟩:=IU (g:=g) (r:=[none,none,none,none,none,none]) hs;have Y:n<=7:=by omega
 obtain⟨j,T2,e2,j0,u,k2,l2⟩:=jN (e1:=mV 0) (e2:=mK (.int 7)) (ρ:=[ar (.lst k),ar (.int g),ar (.int n),none,none,none,none,none]) (m:=7) k1.st rfl rfl (by decide) (by decide);obtain⟨rs,R,z,s,k3,l3⟩:=F9 (g:=g) (n:=n) (j:=j) (r:=[none,none,none,none]) k2.st Y j0;have I:=Kp.grow k3.st [rs.map tupI];obtain⟨zs,X,h,t,k5,l5⟩:=D6 (n:=n) (ρ:=eW k g n j [ar (.lst R.length),none,none,none]) (e1:=mV 0) (e2:=mV 2) I.st (by omega) rfl rfl;have J:zs.length=n:=by rw[t.length_eq];unfold jv;simp
 have a3:k<R.length:=by have:=hs.lt;omega
 have g4:X[R.length]? =ar (rs.map tupI):=(k5.oth R.length (by simp) (by omega)).trans bJ;have C:=((k1.trans k2).trans k3).trans (I.trans k5);have key:∃(x4:Nat) (Z:List (List Int)) (ρ:aI) (T:av),lI (fP CK (mV 3) (mK (.int 2))) (aJ (bE 4 (bc ak)) (aJ (iu (GN (mK (.int 1)) (mV 2)) (gN 6) gO) (aJ (lI (Dl (fP km (mV 3) (mK (.int 4))) (fP CK (mV 2) (mK (.int 2)))) (qh (uK cO (mV 4) (di cK (aL (di cb (aL (bc (ae (aU cZ (mV 5) (mK (.int 0))) (ae (aU cZ (mV 5) (aU iZ (mV 2) (mK (.int 1)))) ak))))))))) fS) (aJ (bE 7 (aL (aW (cg (aL (az bD (ae (mV 2) ak)))) (gN 0) fu fw [none,ar 0]))) (bE 4 (aW (cg (aL (az bD (ae (mV 2) ak)))) (gN 0) gQ gR [none,ar 4,ar 7])))))) fS (eW k g n j [ar (.lst R.length),ar (.fz (zs.map D.int)),none,none]) X=ar (.ok (.nx ρ),T)/\mV 2 ρ=aC (.int n)/\mV 4 ρ=aC (.lst x4)/\T[x4]? =ar (Z.map tupI)/\Z.Sublist (eO n)/\Kp k S T:=by
  have F:fP CK (mV 3) (mK (.int 2)) (eW k g n j [ar (.lst R.length),ar (.fz (zs.map D.int)),none,none])=aC (decide (2<j)):=eu (x:=.int j) (y:=.int 2) rfl rfl rfl;by_cases hj:2<j
  ·have hi:=KW (n:=n) (m:=mV 2) (ρ:=eW k g n j [ar (.lst X.length),ar (.fz (zs.map D.int)),none,none]) (by omega) rfl;obtain⟨O,acc,K,B⟩:=GV (S:=X) (k:=k) (g:=g) (its:=(iB 1 (n - 1)).map λb:Nat=>.int (b:Int)) hj u J (iB 1 (n - 1)) [] none none (λa w=>by have:=ON.mp w;omega) (by rw[OK];simp;omega);rw[OK]at B;obtain⟨U,N⟩:=IW (S:=X) (k:=k) (g:=g) (j:=j) (zs:=zs) (q:=0) (x6:=O) (x7:=none) Y J (acc:=acc) (by simp at B;omega);have Q:=Kp.grow k5.st [U.map tupI];obtain⟨os,T5,v,P,l7⟩:=KU (g:=g) (n:=n) (j:=j) (r:=[ar (.lst X.length),ar (.fz (zs.map D.int)),O,none]) Q.st Y;have A:k<X.length:=by have:=k5.len;simp at this;omega
   have L:T5[X.length]? =ar (U.map tupI):=(P.oth X.length (by simp) (by omega)).trans bJ;obtain⟨Z,i,l,W,H,l8⟩:=Ga (g:=g) (n:=n) (j:=j) (os:=os) (x5:=ar (.fz (zs.map D.int))) (x6:=O) P.st Y L (by omega);refine⟨i.length,Z,_,_,(Nt ((dI F).trans (if_pos (Nb hj))) X).trans ((aQ (b9 (cA (S:=X) (us:=[]) (Nr _)))).trans ((aQ (rP hi K)).trans ((aQ N).trans ((aQ (b9 v)).trans (b9 l))))),rfl,rfl,bJ,W,C.trans ((Q.trans P).trans (H.trans (Kp.grow H.st _)))⟩
  ·exact⟨R.length,rs,_,_,(Nt ((dI F).trans (if_neg (by rw[Nu];exact hj))) X).trans rfl,rfl,rfl,g4,s,C⟩
 obtain⟨x4,Z,ρ,T,K,e,f,L,W,G⟩:=key;have hm:j4 [ar (.lst k),ar (.int g),none,none,none,none,none,none] S=ar (.ok (.ret (aS n Z)),T):=by unfold j4;exact(aQ (b9 e1)).trans ((aQ (b9 e2)).trans ((aQ (b9 z)).trans ((aQ (b9 h)).trans ((aQ K).trans (KY G.st Y e f L W)))))
 obtain⟨S1,N,Q⟩:=wU (c:=fH [.lst k,.int g]) (d:=aS n Z) hs (fK (o:=.ret (aS n Z)) hm rfl) G vf;exact⟨n,Z,S1,N,p,WebOk.of_sub Y W,Q⟩
abbrev eG(k n q:Nat)(r:List (Option D)):aI:=ar (.lst k)::ar (.int n)::ar (.lst q)::r
theorem GW{B:av}(N:k<B.length)(J:8<=n)(X:n<=14):∀(post:List Nat) (acc:List (List Int)) (S':av) (x3 x4 x5:Option D),acc.length+post.length<=100->rX n acc->S'[B.length]? =ar (acc.map tupI)->Kp k B S'->
  ∃(U R P:Option D) (Z:List (List Int)) (S2:av),eQ ⟨its,.none⟩ (gN 3) fj (post.map λi:Nat=>.int (0+(i:Int))) (eG k n B.length [x3,x4,x5]) S'=ar (.ok (.nx (eG k n B.length [U,R,P])),S2)/\S2[B.length]? =ar (Z.map tupI)/\rX n Z/\Z.length<=acc.length+post.length/\Kp k B S2
 |[],acc,S',x3,x4,x5,_,gt,g,kp=>⟨x3,x4,x5,acc,S',by rw[Oo,gS];rfl,g,gt,MV _,kp⟩
 | a ::post,acc,S',x3,x4,x5,hl,gt,g,kp=>by
  rw[N4]at hl⊢;obtain⟨i,O,e1,p,u,k1,s⟩:=jN (e1:=mV 0) (e2:=mV 1) (ρ:=eG k n B.length [ar (.int (0+(a:Int))),x4,x5]) (m:=n) kp.st rfl rfl (by omega) (by omega);obtain⟨v,Y,e2,v0,v1,k2,q⟩:=jN (e1:=mV 0) (e2:=aU iZ (mV 1) (mK (.int 1))) (ρ:=eG k n B.length [ar (.int (0+(a:Int))),ar (.int i),x5]) (m:=(n:Int) - 1) k1.st rfl rfl (by omega) (by omega);have H:=(MX.mp g).1;have g2:=(k2.oth B.length (by omega) (by omega)).trans ((k1.oth B.length H (by omega)).trans g);have L:aU mB (aU bK (aU bK (mV 4) (mK (.int 1))) (aL (az aH (ae (mV 0) (ae (aU iZ (mV 1) (mK (.int 1))) ak))))) (mV 1) (eG k n B.length [ar (.int (0+(a:Int))),ar (.int i),x5]) O=ar (.ok (.int ((i+1+v) % n)),Y):=
   (fR ((fR (f:=bK) (x:=.int (i+1)) (S1:=O) rfl e2).trans rfl) (y:=.int n) rfl).trans (Nt (show mB (.int (i+1+v)) (.int n)=_ from if_pos (e:=M.fail) (show(0:Int)<n by omega)) Y)
  generalize hw:(i+1+v) % (n:Int)=w at L;have r:0<=w:=by rw[<-hw];exact O3 _ (by omega)
  have z:w<n:=by rw[<-hw];exact OH _ (by omega)
  have K:i≠w:=by
   intro e;have F:=Int.mul_ediv_add_emod (i+1+v) n;rw[hw]at F;have t:(n:Int)*((i+1+v) / n)=1+v:=by omega
   have A:0<(i+1+v) / (n:Int):=by
    rcases Int.lt_or_le 0 ((i+1+v) / (n:Int))with h|h
    ·exact h
    ·have:=Int.mul_nonpos_of_nonneg_of_nonpos (a:=(n:Int)) (by omega) h;omega
   have:=Int.mul_le_mul_of_nonneg_left (show 1<=(i+1+v) / (n:Int) by omega) (show(0:Int)<=n by omega);omega
  have T:az minD (ae (mV 4) (ae (mV 5) ak)) (eG k n B.length [ar (.int (0+(a:Int))),ar (.int i),ar (.int w)])=aC (.int (if w<i then w else i)):=(call2 (x:=.int i) (y:=.int w) rfl rfl).trans rfl;have Q:az maxD (ae (mV 4) (ae (mV 5) ak)) (eG k n B.length [ar (.int (0+(a:Int))),ar (.int i),ar (.int w)])=aC (.int (if w>i then w else i)):=(call2 (x:=.int i) (y:=.int w) rfl rfl).trans rfl;obtain⟨U,R,P,Z,S2,I,C,W,E,G⟩:=GW N J X post (acc++[[if w<i then w else i,if w>i then w else i]]) (Y.set B.length ((acc++[[if w<i then w else i,if w>i then w else i]]).map tupI)) (ar (.int (0+(a:Int)))) (ar (.int i)) (ar (.int w)) (by rw[MT];show acc.length+1+_<=100;omega)
   (gt.snoc (by split<;>omega) (by split<;>split<;>omega) (by split<;>omega)) (NB (by omega)) (((kp.trans k1).trans k2).set (MV _) N)
  refine⟨U,R,P,Z,S2,?_,C,W,by rw[MT]at E;have:[[if w<i then w else i,if w>i then w else i]].length=1:=rfl;omega,G⟩;rw[<-I,Nd];refine kc rfl ((aQ (b9 e1)).trans ((aQ (b9 L)).trans (rN (x:=.non) ((rW (x:=.lst B.length) (y:=tupI [if w<i then w else i,if w>i then w else i]) (S1:=Y) rfl rfl (yu (Nt T Y) (Nt Q Y))).trans ((yz g2 (by rw[MS];omega)).trans ?_)))));rw[NC];rfl
theorem D7(hs:eB S k):∃(n:Nat) (E:List (List Int)) (S1:av),iD (cm [.lst k]) S=ar (.ok (aS n E),S1)/\8<=n/\n<=14/\WebOk n E/\Kp k S S1/\S1.length=S.length:=by
 obtain⟨j,B,U,s,u,k1,z⟩:=jN (e1:=mV 0) (e2:=mK (.int 7)) (ρ:=[ar (.lst k),none,none,none,none,none]) (m:=7) hs rfl rfl (by decide) (by decide);obtain⟨n,Q⟩:∃n:Nat,8+j=n:=⟨(8+j).toNat,by omega⟩;have K:k<B.length:=by have:=hs.lt;omega
 obtain⟨i,X,I,v,A,k2,y⟩:=jN (e1:=mV 0) (e2:=mK (.int 12)) (ρ:=eG k n B.length [none,none,none]) (m:=12) (Kp.grow k1.st [[]]).st rfl rfl (by decide) (by decide);have g1:X[B.length]? =ar (([]:List (List Int)).map tupI):=(k2.oth B.length (by simp) (by omega)).trans bJ;obtain⟨P,J,C,acc,S2,T,g3,Z,W,k3⟩:=GW (n:=n) (its:=bq 0 i.toNat) K (by omega) (by omega) (dr i.toNat) [] X none none none (by rw[M0];simp;omega) (λt Y=>by cases Y) g1 ((Kp.grow k1.st [[]]).trans k2);rw[M0]at W;have R:acc.length<=18:=by simp at W;omega
 have w:WebOk n (iQ acc):=⟨λt Y=>Z t (BG.mp Y),BH acc,by have:=px acc;omega⟩;have H:iY (aL (az aH (ae (mV 0) (ae (mK (.int 12)) ak)))) (eG k n B.length [none,none,none]) (B++[[]])=ar (.ok ⟨bq 0 i.toNat,.none⟩,X):=by rw[IR I,DR (by omega)];rfl
 have F:aU bK (mK (.int 8)) (aL (az aH (ae (mV 0) (ae (mK (.int 7)) ak)))) [ar (.lst k),none,none,none,none,none] S=ar (.ok (.int n),B):=by rw[fR (f:=bK) (x:=.int 8) (S1:=S) rfl U, <-Q];rfl
 have L:aL (di nL (mV 2)) (eG k n B.length [P,J,C]) S2=ar (.ok (.fz ((iQ acc).map tupI)),S2):=by
  refine vh ((rO (x:=.lst B.length) (S1:=S2) rfl).trans ?_) (Kp.refl k3.st) rfl (bU _);show(getL B.length>>=λxs=>match rowsOf xs with|some nss=>d8 nss|none=>M.fail) S2=_;rw[aD (cH g3),mP];have Y:Il acc=true:=Nx.mpr λx N=>by rw[Z.two x N];rfl
  show d8 acc S2=_;unfold d8;rw[if_pos ⟨R,Y⟩];exact cA (by rw[MS];have:=px acc;unfold lim;omega)
 have hm:fe [ar (.lst k),none,none,none,none,none] S=ar (.ok (.ret (aS n (iQ acc))),S2):=by unfold fe;refine(aQ (b9 F)).trans ((aQ (b9 (cA (S:=B) (us:=[]) (Nr _)))).trans ((aQ (Af H T)).trans (gH (yu (x:=.int n) (S1:=S2) rfl ((rO L).trans ?_)))));rw[lq (by rw[MS];have:=px acc;unfold lim;omega)];rfl
 obtain⟨S1,O,G⟩:=wU (c:=cm [.lst k]) (d:=aS n (iQ acc)) hs (fK (o:=.ret (aS n (iQ acc))) hm rfl) (k1.trans k3) vf;exact⟨n,_,S1,O,by omega,by omega,w,G⟩
end
def sm(m:Nat)(f:Nat->Nat):Nat:=((dr m).map f).sum
theorem Gb(f:Nat->Nat):sm 0 f=0:=rfl
theorem jl(m:Nat)(f:Nat->Nat):sm (m+1) f=sm m f+f m:=by unfold sm;rw[Qh];simp
theorem D8(f g:Nat->Nat):∀m,sm m (λi=>f i+g i)=sm m f+sm m g
 |0=>rfl
 |m+1=>by rw[jl,jl,jl,D8 f g m];omega
theorem ou{f g:Nat->Nat}:∀{m:Nat},(∀i,i<m->f i=g i)->sm m f=sm m g
 |0,_=>rfl
 |m+1,h=>by rw[jl,jl,ou λi Z=>h i (N8 Z),h m (OE m)]
theorem pC:∀m,sm m (λ_=>0)=0
 |0=>rfl
 |m+1=>by rw[jl,pC m]
theorem D9(i x:Nat):∀m,sm m (λj=>if j=i then x else 0)=if i<m then x else 0
 |0=>by simp[Gb]
 | m+1=>by
  rw[jl,D9 i x m];by_cases h:i<m
  ·rw[if_pos h,if_neg (by omega),if_pos (by omega)];omega
  ·by_cases h2:m=i
   ·subst h2;simp
   ·rw[if_neg h,if_neg h2,if_neg (by omega)]
structure Tied(n:Nat)(E:List (List Int)):Prop where
 el:∀t∈E,∃a b:Int,t=[a,b]/\0<=a/\a<b/\b<n
 nd:E.Nodup
theorem Ak{n:Nat}{a:Int}(Z:0<=a)(Y:a<n)(x:Nat):sm n (λp=>if (p:Int)=a then x else 0)=x:=by
 obtain⟨k,rfl⟩:=QX Z;have:∀p:Nat,((p:Int)=(k:Int))↔p=k:=λp=>by omega
 simp only[this];rw[D9,if_pos (by omega)]
theorem Mm{p a b:Int}:iI p [a,b]=decide (p=a\/p=b):=by
 unfold iI;rw[OB];simp;constructor
 ·rintro(h|h)
  ·exact .inl h.symm
  ·exact .inr h.symm
 ·rintro(h|h)
  ·exact .inl h.symm
  ·exact .inr h.symm
def vj(E:List (List Int))(p:Nat):Nat:=E.countP (iI p)
theorem vk(s:List Int):∀rs:List (List Int),((rs.map iG).any λy=>f' y (iG s))=decide (s∈rs)
 |[]=>by simp
 | r::rs=>by
  rw[Nd,Rj,vk s rs];have:f' (iG r) (iG s)=decide (r=s):=by unfold iG f';exact ot r s
  rw[this,OB];simp only[A2,decide_eq_true_eq,f_];exact or_congr ⟨Eq.symm,Eq.symm⟩ Iff.rfl
theorem Al{s:List Int}{rs:List (List Int)}:inD (tupI s) (.tup (rs.map tupI))=aC (.bl (decide (s∈rs))):=bN λS=>by
 unfold inD;have Z:gm S 60 (.tup (rs.map tupI))=ar (.tuple (rs.map iG)):=by show(mapP (gm S 59) (rs.map tupI)).map x_=_;rw[jM];rfl
 exact(nM (iH s) Z (r:=decide (s∈rs)) (by show ar (id ((rs.map iG).any λy=>f' y (iG s)))=_;rw[vk];rfl)).mpr ⟨rfl,rfl⟩
def tB(E:List (List Int))(a b:Int):Bool:=decide ([if b<a then b else a,if b>a then b else a]∈E)
section
variable {n n':Nat}{E E':List (List Int)}
theorem mm{ρ:aI}{e1 e2:TM}{a b:Int}(Z:e1 ρ=aC (.int a))(Y:e2 ρ=aC (.int b)):ft (ae (az minD (ae e1 (ae e2 ak))) (ae (az maxD (ae e1 (ae e2 ak))) ak)) ρ=aC (tupI [if b<a then b else a,if b>a then b else a]):=by show(ae _ _ _>>=bH)=_;rw[aP ((call2 (F:=minD) Z Y).trans rfl) (aP ((call2 (F:=maxD) Z Y).trans rfl) (es:=ak) rfl),ah];unfold bH;exact if_pos pq
theorem IY{a b:Int}:jZ [aS n E,.int a,.int b]=aC (.bl (tB E a b)):=
 fq (o:=.ret (.bl (tB E a b))) (eN ((b7 (y:=.tup (E.map tupI)) (mm (a:=a) (b:=b) rfl rfl) rfl).trans Al)) rfl
theorem Am{a b:Int}:fQ [aS n E,.int a,.int b]=aC (.bl (tB E a b)):=
 fq (o:=.ret (.bl (tB E a b))) (eN ((b7 (y:=.tup (E.map tupI)) (mm (a:=a) (b:=b) rfl rfl) rfl).trans Al)) rfl
theorem KZ(n:Nat):bq 0 n=(dr n).map λi:Nat=>D.int (i:Int):=by unfold bq;exact Om λi _=>by rw[P0]
theorem pY{m:TM}{ρ:aI}{n:Nat}(h:m ρ=aC (.int n))(Z:n<=1000):iY m ρ=aC ⟨(dr n).map λi:Nat=>D.int (i:Int),.none⟩:=by have:=(uW h).trans (DR (by omega));rw[NH,KZ]at this;exact this
end
def pR:cY:=cq (Lh (fP km (mV 4) (aL (bc (ae (mK (.int 12)) ak)))) (aL (aU bK (mV 4) (aL (bc (ae (pM dt (mV 1)) (ae (pM b_ (mV 1)) ak)))))) (mV 4))
def m_find:cY:=aJ (lI (eR (bV (DE (mV 1)))) (cq (mK .non)) fS) (aJ (bE 4 (aL (aW (iY (mK (.int 13))) (gN 0) cF cG [none,ar 3]))) pR)
def jw:cY:=aJ (bE 3 (bc (ae (dW (mV 1) "NoWeb") (ae (dW (mV 1) "NoPlace") (ae (dW (mV 1) "NoPlaces") ak))))) (aJ (bE 3 (aU bK (mV 3) (aL (bc (ae (dW (mV 1) "NoMap") (ae (dW (mV 1) "NoSharing") (ae (dW (mV 1) "NoRoot") ak))))))) (aJ (bE 3 (aU bK (mV 3) (aL (bc (ae (dW (mV 1) "NoNumber") (ae (dW (mV 1) "NotJoined") (ae (dW (mV 1) "NoTie") ak))))))) (aJ (bE 3 (aU bK (mV 3) (aL (bc (ae (dW (mV 1) "NoText") (ae (dW (mV 1) "NoLine") (ae (dW (mV 1) "NoDeed") ak))))))) (aJ (qh (uK cO (mV 3) (dW (mV 1) "TooGreat"))) m_find))))
theorem Ea(f:D)(c:M D):gh f c=aJ (bE 1 (mK .non)) (aJ (wA 0 2 1 f c) jw):=rfl
theorem BM(f g x:D):(jw [ar f,ar x,none,none,none]>>=outD)=(jw [ar g,ar x,none,none,none]>>=outD):=by unfold jw m_find pR;simp only[aJ,bE,qh,lI,cq,fS,mV,mK,bc,aU,uK,dW,DE,Lh,eR,bV,fP,ae,ak,az,di,aW,aL,pM,iY,Ks,CH,fN,ah,FV,Kz,KB,KC,KD,KF,List.set_cons_succ,List.set_cons_zero,outD,gU,Rn,List.map_nil,Option.bind,List.getElem?_cons_succ,List.getElem?_cons_zero,Option.join]
theorem Eb(f:D)(c:M D):bw f c []=rV c (λx=>jw [ar f,ar x,none,none,none]>>=outD):=by
 funext S;unfold bw pU;rw[if_pos (show[f].length=1 from rfl)];show((gh f c [ar f,none,none,none,none])>>=outD) S=_;rw[Ea,a9 (ρ':=[ar f,ar .non,none,none,none]) rfl];have Z:wA 0 2 1 f c [ar f,ar .non,none,none,none]=Dy 2 1 c [ar f,ar .non,none,none,none]:=by unfold wA;exact if_pos rfl
 show((wA 0 2 1 f c [ar f,ar .non,none,none,none]>>=λo=>CH o jw)>>=outD) S=_;rw[Z,fN];show M.bnd (Dy 2 1 c [ar f,ar .non,none,none,none]) _ S=_;unfold M.bnd Dy rV;cases h:c S with
 |none=>rfl
 | some p=>
  obtain⟨r,S1⟩:=p;cases r with
  |ok a=>rfl
  | ex x=>
   cases x with
   |exc n ds=>
    dsimp only;by_cases hn:n∈bf
    ·rw[if_pos hn,if_pos hn];rfl
    ·rw[if_neg hn,if_neg hn]
   |_=>rfl
theorem cL:∀f c es,bw f c es=aV c es:=by
 intro f c es;unfold aV;cases es with
 |nil=>
  rw[Eb,Eb];congr 1;funext x;exact BM _ _ x
 |cons e es=>
  unfold bw pU;rw[if_neg (by simp),if_neg (by simp)]
section
variable {f:D}{n:Str}{ds:List D}{S G:av}{p:Nat}{xs:List D}{z:Option D}
theorem qk(Z:n∈bf)(a:Str):dW (mV 1) a [ar f,ar (.exc n ds),none,z,none]=aC (.bl (c8 n a)):=D0 (ds:=ds) (g:=λn=>c8 n a) Z
theorem three(Z:n∈bf)(a b c:Str):ae (dW (mV 1) a) (ae (dW (mV 1) b) (ae (dW (mV 1) c) ak)) [ar f,ar (.exc n ds),none,z,none]=aC [.bl (c8 n a),.bl (c8 n b),.bl (c8 n c)]:=
 aP (qk Z a) (aP (qk Z b) (aP (qk Z c) rfl))
theorem rY(X:n∈bf)(a b c:Str)(Y:(S++G)[p]? =ar xs)(U:xs.length<=100):∃p' G',bE 3 (aU bK (mV 3) (aL (bc (ae (dW (mV 1) a) (ae (dW (mV 1) b) (ae (dW (mV 1) c) ak)))))) [ar f,ar (.exc n ds),none,ar (.lst p),none] (S++G)=ar (.ok (.nx [ar f,ar (.exc n ds),none,ar (.lst p'),none]),S++G')/\(S++G')[p']? =ar (xs++[.bl (c8 n a),.bl (c8 n b),.bl (c8 n c)])/\S.length<=p':=by
 refine⟨(S++G).length,G++[xs++[.bl (c8 n a),.bl (c8 n b),.bl (c8 n c)]],?_,by rw[<-Nh];exact bJ,by rw[MT];omega⟩;have Z:aL (bc (ae (dW (mV 1) a) (ae (dW (mV 1) b) (ae (dW (mV 1) c) ak)))) [ar f,ar (.exc n ds),none,ar (.lst p),none]=aC (.fz [.bl (c8 n a),.bl (c8 n b),.bl (c8 n c)]):=by show iD (ae _ _ _>>=bj)=_;rw[three X a b c,ah];exact bR rfl Ky
 have W:=b7 (f:=bK) (m:=mV 3) (ρ:=[ar f,ar (.exc n ds),none,ar (.lst p),none]) (x:=.lst p) rfl Z;show((aU bK _ _ _)>>=λx=>aC (Out.nx _)) _=_;rw[W,aD (a:=.lst (S++G).length) (S1:=S++(G++[xs++[.bl (c8 n a),.bl (c8 n b),.bl (c8 n c)]]))]
 ·rfl
 ·show(getL p>>=λxs=>bj (xs++_)) _=_;rw[aD (a:=xs) (S1:=S++G) (by unfold getL;rw[Y];rfl)];unfold bj;rw[if_pos (by rw[MT];show xs.length+3<=lim;unfold lim;omega),Nh]
end
theorem find_eq{f:D}{n:Str}{ds:List D}{S:av}{p:Nat}{bs:List Bool}(Z:n∈bf)(R:S[p]? =ar (bs.map D.bl))(K:bs.length=13):
  m_find [ar f,ar (.exc n ds),none,ar (.lst p),none] S=pR [ar f,ar (.exc n ds),none,ar (.lst p),ar (.fz ((bq 0 13).filter (yx bs)))] S:=by
 have X:lI (eR (bV (DE (mV 1)))) (cq (mK .non)) fS [ar f,ar (.exc n ds),none,ar (.lst p),none]=aC (.nx [ar f,ar (.exc n ds),none,ar (.lst p),none]):=by
  have:eR (bV (DE (mV 1))) [ar f,ar (.exc n ds),none,ar (.lst p),none]=aC false:=by show((wy (λ_=>b_) (.exc n ds)>>=lS)>>=_)=_;rw[D0 Z];rfl
  exact(dI this).trans (if_neg (by decide))
 unfold m_find;rw[a9 X];have N:iY (mK (.int 13)) [ar f,ar (.exc n ds),none,ar (.lst p),none]=aC ⟨bq 0 13,.none⟩:=(uW (x:=.int 13) rfl).trans (DR (by omega));have L:bI ⟨bq 0 13,.none⟩ (gN 0) cF cG (bq 0 13) [none,ar (.lst p)] S=ar (.ok ((bq 0 13).filter (yx bs)),S):=by
  refine wQ (λρ=>∃x,ρ=[x,ar (.lst p)]) (yx bs) _ _ ⟨none,rfl⟩ λd hd ρ ⟨x,hρ⟩=>?_;subst hρ;obtain⟨k,W,rfl⟩:=Nm.mp hd;have W:k<13:=Na.mp W;refine⟨_,rfl,⟨_,rfl⟩,?_,rfl⟩;have e:mx (bs.map D.bl) (0+(k:Int))=ar (.bl (bs.getD k dt)):=by
   rw[P0];unfold mx B1;rw[MS];have X:¬ ((k:Int)<0):=by omega
   have O:(k:Int)<bs.length:=by omega
   have T:k<bs.length:=by omega
   simp[X,O,T]
  show((getL p>>=λxs=>match mx xs (0+(k:Int))with|some d=>(aC d:M D)|none=>M.fail)>>=lS) S=_;rw[aD (a:=D.bl (bs.getD k dt)) (S1:=S)]
  ·show ar (Res.ok (bs.getD k dt),S)=ar (.ok (bs.getD (0+(k:Int)).toNat dt),S);rw[P0,NH]
  ·rw[aD (a:=bs.map D.bl) (S1:=S) (by unfold getL;rw[R];rfl),e];rfl
 have hm:aW (iY (mK (.int 13))) (gN 0) cF cG [none,ar 3] [ar f,ar (.exc n ds),none,ar (.lst p),none] S=bj ((bq 0 13).filter (yx bs)) S:=by unfold aW;rw[N,ah];unfold dq;rw[if_pos (by show(bq 0 13).length<=lim;unfold bq lim;rw[MS,M0];omega)];exact aD L
 have P:iD (aW (iY (mK (.int 13))) (gN 0) cF cG [none,ar 3] [ar f,ar (.exc n ds),none,ar (.lst p),none]) S=ar (.ok (.fz ((bq 0 13).filter (yx bs))),S):=by
  have Y:bF 0 ((bq 0 13).filter (yx bs))=true:=by
   have:∀l:List Nat,bF 0 ((l.map λi:Nat=>D.int (0+(i:Int))).filter (yx bs))=true:=λl=>by
    induction l with
    |nil=>rfl
    |cons x l ih=>
     rw[Nd,List.filter_cons];split
     ·unfold bF;rw[ih];unfold fi;rfl
     ·exact ih
   exact this _
  have Z:bj ((bq 0 13).filter (yx bs)) S=ar (.ok (.lst S.length),S++[(bq 0 13).filter (yx bs)]):=by unfold bj;exact if_pos (M7 (Np _ _) (by unfold bq lim;rw[MS,M0];omega))
  obtain⟨d,U,e,rfl,rfl⟩:=wI (Q:=λd U=>d= .fz ((bq 0 13).filter (yx bs))/\U=S) ⟨_,_,hm.trans Z,[(bq 0 13).filter (yx bs)],S.length,_,rfl,rfl,bJ,MV _,jY (Nr _) _ Y,rfl,rfl⟩;exact e
 show(bE 4 _ _>>=λo=>CH o pR) S=_;rw[aD (a:=.nx [ar f,ar (.exc n ds),none,ar (.lst p),ar (.fz ((bq 0 13).filter (yx bs)))]) (S1:=S)]
 ·rfl
 ·show(iD _>>=_) S=_;rw[aD P];rfl
def marks(n:Str):List Bool:=[c8 n "NoWeb",c8 n "NoPlace",c8 n "NoPlaces",c8 n "NoMap",c8 n "NoSharing",c8 n "NoRoot",c8 n "NoNumber",c8 n "NotJoined",c8 n "NoTie",c8 n "NoText",c8 n "NoLine",c8 n "NoDeed",c8 n "TooGreat"]
theorem Ec{f:D}{n:Str}{ds:List D}{us:List D}{v:D}(Y:n∈bf)(U:(bq 0 13).filter (yx (marks n))=us)(W:∀p,pR [ar f,ar (.exc n ds),none,ar (.lst p),ar (.fz us)]=aC (.ret v))(S:av):
  runs (jw [ar f,ar (.exc n ds),none,none,none]>>=outD) S λd N=>d=v/\∃G,N=S++G:=by
 have L:bE 3 (bc (ae (dW (mV 1) "NoWeb") (ae (dW (mV 1) "NoPlace") (ae (dW (mV 1) "NoPlaces") ak)))) [ar f,ar (.exc n ds),none,none,none] S=ar (.ok (.nx [ar f,ar (.exc n ds),none,ar (.lst S.length),none]),S++[[.bl (c8 n "NoWeb"),.bl (c8 n "NoPlace"),.bl (c8 n "NoPlaces")]]):=by show((ae _ _ _>>=bj)>>=λx=>aC (Out.nx _)) S=_;rw[three Y,ah,aD (cA (us:=[.bl (c8 n "NoWeb"),.bl (c8 n "NoPlace"),.bl (c8 n "NoPlaces")]) Ky)];rfl
 obtain⟨H,F,e2,g2,I⟩:=rY (f:=f) (ds:=ds) (S:=S) Y "NoMap" "NoSharing" "NoRoot" (bJ (S:=S) (xs:=[.bl (c8 n "NoWeb"),.bl (c8 n "NoPlace"),.bl (c8 n "NoPlaces")])) (by decide:3<=100);obtain⟨C,E,P,g3,B⟩:=rY (f:=f) (ds:=ds) (S:=S) Y "NoNumber" "NotJoined" "NoTie" g2 (by decide:6<=100);obtain⟨Z,X,J,Q,K⟩:=rY (f:=f) (ds:=ds) (S:=S) Y "NoText" "NoLine" "NoDeed" g3 (by decide:9<=100);have R:=(MX.mp Q).1;have O:qh (uK cO (mV 3) (dW (mV 1) "TooGreat")) [ar f,ar (.exc n ds),none,ar (.lst Z),none] (S++X)=ar (.ok (.nx [ar f,ar (.exc n ds),none,ar (.lst Z),none]),(S++X).set Z ((marks n).map D.bl)):=by have hm:=KJ (f:=cO) (e1:=mV 3) (ρ:=[ar f,ar (.exc n ds),none,ar (.lst Z),none]) (x:=.lst Z) rfl rfl (qk (f:=f) (ds:=ds) (z:=ar (.lst Z)) Y "TooGreat");refine rN (x:=.non) ((Nt hm _).trans ?_);rw[ah];show(getL Z>>=λxs=>lU Z (xs++[.bl (c8 n "TooGreat")])) _=_;rw[aD (cH Q)];exact kb (by show 13<=lim;unfold lim;omega) R
 have T:=find_eq (f:=f) (ds:=ds) (S:=(S++X).set Z ((marks n).map D.bl)) (p:=Z) (bs:=marks n) Y (NB R) rfl;rw[U,W]at T;refine⟨v,(S++X).set Z ((marks n).map D.bl),?_,rfl,X.set (Z - S.length) ((marks n).map D.bl),O7 _ _ K⟩;rw[aD (a:=Out.ret v) (S1:=(S++X).set Z ((marks n).map D.bl))]
 ·rfl
 ·unfold jw;exact(aQ L).trans ((aQ e2).trans ((aQ P).trans ((aQ J).trans ((aQ O).trans T))))
theorem An{n:Str}{ds us:List D}{v:D}(X:n∈bf)(Y:(bq 0 13).filter (yx (marks n))=us)(Z:∀f p,pR [ar f,ar (.exc n ds),none,ar (.lst p),ar (.fz us)]=aC (.ret v))(S:av):
  runs (aV (M.raise (.exc n ds)) []) S λd W=>d=v/\∃G,W=S++G:=by
 unfold aV;rw[Eb];have:rV (M.raise (.exc n ds)) (λx=>jw [ar (.fn 0 0 "" [] []),ar x,none,none,none]>>=outD)=(jw [ar (.fn 0 0 "" [] []),ar (.exc n ds),none,none,none]>>=outD):=by funext S;show(if n∈bf then _ else none)=_;rw[if_pos X]
 rw[this];exact Ec X Y (Z _) S
theorem tY{n:Str}{ds us:List D}{v:D}(X:n∈bf)(Y:(bq 0 13).filter (yx (marks n))=us)(Z:∀f p,pR [ar f,ar (.exc n ds),none,ar (.lst p),ar (.fz us)]=aC (.ret v))(W:fi 0 v=b_):
  iD (aV (M.raise (.exc n ds)) [])=aC v:=Ku W (An X Y Z)
theorem eq_12{f x:D}{p:Nat}{k:Int}:fP km (mV 4) (aL (bc (ae (mK (.int 12)) ak))) [ar f,ar x,none,ar (.lst p),ar (.fz [.int k])]=aC (decide (k=12)):=by
 have Z:aL (bc (ae (mK (.int 12)) ak)) [ar f,ar x,none,ar (.lst p),ar (.fz [.int k])]=aC (.fz [.int 12]):=bR (us:=[.int 12]) rfl (by show 1<=lim;unfold lim;omega);refine eu (x:=.fz [.int k]) rfl Z (bN λS=>?_);unfold km;refine(fX (p:=.list [.int k]) (q:=.list [.int 12]) rfl rfl).mpr ⟨?_,rfl⟩;have:f' (.list [.int k]) (.list [.int 12])=decide (k=12):=by rw[OB];simp[f',ly]
 rw[this]
theorem Ed{f x:D}{p:Nat}{k:Int}(h:k≠12):pR [ar f,ar x,none,ar (.lst p),ar (.fz [.int k])]=aC (.ret (.fz [.int k])):=by refine eN ?_;show(fP km _ _ _>>=_)=_;rw[eq_12,ah,if_neg (by rw[Nu];exact h)];rfl
def rZ(a b:Nat):List D:=[.non,.int 0,.tup [],.tup [.int 15,.tup []],.tup [.int (-1),.tup []],.tup [.bl b_,.tup []],.tup [.int 2,.lst a],.lst b,.tup [.int 2,.tup [.tup [.int 1,.int 0]]],.tup [.int 2,.tup [.tup [.int 0,.int 0]]],.emp,.str "2:"]
def sd:List D:=[.tup [.int 2,.tup [.tup [.int 0,.int 1],.tup [.int 0,.int 1]]],.tup [.int 3,.tup [.tup [.int 0,.int 2],.tup [.int 0,.int 1]]],.tup [.int 2,.tup [.tup [.int 0,.int 2]]],.tup [.int 2,.tup [.tup [.int 0,.bl b_]]],.tup [.int 2,.tup [.tup [.int 0,.int 1,.int 1]]]]
def vm(c:Nat):List D:=[.tup [.int 2,.tup [.int 0,.int 1]],.tup [.int 2,.non],.tup [.int 2,.tup [],.tup []],.tup [.int 2],.tup [.int 2,.tup [.lst c]],.tup [.int 2,.tup [.non]],.tup [.str "2",.tup []],.tup [.int 0,.tup [.tup [.int 0,.int 1]]]]
theorem IZ{n a b c:Nat}{S:av}(T:n<=a)(H:n<=b)(N:n<=c)(P:S[a]? =ar [])(O:S[b]? =ar [.int 2,.tup []])(Q:S[c]? =ar [.int 0,.int 1]):∀d∈rZ a b++sd++vm c,∃u,jm n (xw S n 60) d=ar u/\Good u/\iF u=false:=by
 have X:=mQ (f:=59) T P rfl;have I:=mQ (f:=59) H O rfl;have R:=mQ (f:=59) N Q rfl;have K:∀d,fi 0 d=b_->DY d=b_->iF d=dt->∃u,jm n (xw S n 60) d=ar u/\Good u/\iF u=false:=λd L W Z=>⟨d,uS d (zS (Nr _) d L),oj W,Z⟩;have Y:∃u,jm n (xw S n 60) (.tup [.int 2,.lst a])=ar u/\Good u/\iF u=false:=⟨.tup [.int 2,.fz []],by unfold jm gW gW gW;rw[X];rfl,oj rfl,rfl⟩;have U:∃u,jm n (xw S n 60) (.lst b)=ar u/\Good u/\iF u=false:=⟨_,I,oj rfl,rfl⟩;have J:∃u,jm n (xw S n 60) (.tup [.int 2,.tup [.lst c]])=ar u/\Good u/\iF u=false:=⟨.tup [.int 2,.tup [.fz [.int 0,.int 1]]],by
  have:jm n (xw S n 60) (.tup [.lst c])=ar (.tup [.fz [.int 0,.int 1]]):=by unfold jm gW gW;rw[R];rfl
  unfold jm gW gW gW;rw[this];rfl,oj rfl,rfl⟩
 intro d hd;simp only[rZ,sd,vm,z7,f_,eK,or_false]at hd;rcases hd with((rfl|rfl|rfl|rfl|rfl|rfl|rfl|rfl|rfl|rfl|rfl|rfl)|(rfl|rfl|rfl|rfl|rfl))|(rfl|rfl|rfl|rfl|rfl|rfl|rfl|rfl)<;>first|exact Y|exact U|exact J|exact K _ rfl rfl rfl
def bT(S:av):av:=[[],[.int 2,.tup []],rZ S.length (S.length+1),sd,rZ S.length (S.length+1)++sd,[.int 0,.int 1],vm (S.length+5),rZ S.length (S.length+1)++sd++vm (S.length+5)]
theorem Gc{S Z:av}{k:Nat}{j:Int}{d:D}(X:aH [.lst k,.int 25] (S++bT S)=ar (.ok (.int j),Z))(W:Z[S.length+7]? =ar (rZ S.length (S.length+1)++sd++vm (S.length+5)))(Y:mx (rZ S.length (S.length+1)++sd++vm (S.length+5)) j=ar d):
  fZ [ar (.lst k),none] S=ar (.ok (.ret d),Z):=by
 unfold fZ;refine(aQ (ρ':=[ar (.lst k),ar (.lst (S.length+2))]) (S1:=S++(bT S).take 3) (b9 (x:=.lst (S.length+2)) ?_)).trans ((aQ (ρ':=[ar (.lst k),ar (.lst (S.length+4))]) (S1:=S++(bT S).take 5) (b9 (x:=.lst (S.length+4)) ?_)).trans ((aQ (ρ':=[ar (.lst k),ar (.lst (S.length+7))]) (S1:=S++bT S) (b9 (x:=.lst (S.length+7)) ?_)).trans (gH ?_)))
 ·refine(ju (ys:=rZ S.length (S++[[]]).length) (S1:=S++[[]]++[[.int 2,.tup []]]) rfl (by show 12<=lim;unfold lim;omega)).trans ?_;rw[show(S++([[]]:av)).length=S.length+1 from MT,Nh,MT,Nh];rfl
 ·refine(fR (x:=.lst (S.length+2)) rfl (ju (ys:=sd) (S1:=S++(bT S).take 3) rfl (by show 5<=lim;unfold lim;omega))).trans ?_;rw[Nh,MT];refine(zV (xs:=rZ S.length (S.length+1)) (ys:=sd) (pX 2) (pX 3) (by show 17<=lim;unfold lim;omega)).trans ?_;rw[Nh,MT];rfl
 ·refine(fR (x:=.lst (S.length+4)) rfl (ju (ys:=vm (S++(bT S).take 5).length) (S1:=S++(bT S).take 5++[[.int 0,.int 1]]) rfl (by show 8<=lim;unfold lim;omega))).trans ?_;rw[show(S++(bT S).take 5).length=S.length+5 from MT,Nh,Nh,MT];refine(zV (xs:=rZ S.length (S.length+1)++sd) (ys:=vm (S.length+5)) (pX 4) (pX 6) (by show 25<=lim;unfold lim;omega)).trans ?_;rw[MT];exact Pf (λx=>ar (Res.ok (D.lst (S.length+7)),x)) (Nh _ _ _)
 ·refine(fR (x:=.lst (S.length+7)) (y:=.int j) (S2:=Z) rfl ?_).trans (DS W Y);exact X
theorem Ja{S:av}{k:Nat}(hs:eB S k):∃d S1,iD (eT [.lst k]) S=ar (.ok d,S1)/\Good d/\iF d=dt/\Kp k S S1/\S1.length=S.length:=by obtain⟨_,Y,U,j,rfl,P,O,Z⟩:=Ab (Q:=λd Y=>∃j,d= .int j/\0<=j/\j<25/\Kp k (S++bT S) Y) hs.grow (many:=25) (by decide) (by decide) λj Y a b _ X=>⟨j,rfl,a,b,X⟩;have N:=hs.lt;have gt:∀i us,(S++bT S)[S.length+i]? =ar us->Y[S.length+i]? =ar us:=λi us h=>(Z.oth (S.length+i) (MX.mp h).1 (by omega)).trans h;obtain⟨d,R,hd⟩:=GT (xs:=rZ S.length (S.length+1)++sd++vm (S.length+5)) P O;have X:Kp k S Y:=(Kp.grow hs _).trans Z;obtain⟨u,T,W,hw⟩:=IZ (n:=S.length) (a:=S.length) (b:=S.length+1) (c:=S.length+5) (S:=Y) (MV _) (OS _ _) (OS _ _) (gt 0 _ (pX 0)) (gt 1 _ (pX 1)) (gt 5 _ (pX 5)) d hd;refine⟨u,_,kR (fK (Gc U (gt 7 _ (pX 7)) R) rfl) (oq X) (.inl ?_) X.len T,W,hw,vd hs X⟩;have:=Z.len;rw[MT,show(bT S).length=8 from rfl]at this;omega
section
variable {n:Nat}{E:List (List Int)}
def Mn(h t:List Int):Bool:=t.all λx=>decide (x∈h)
structure Rch(n:Nat)(E:List (List Int))(h:List Int):Prop where
 nd:h.Nodup
 el:∀x∈h,0<=x/\x<n
 zr:0∈h
 ct:h.length<=E.countP (Mn h)+1
 dg:2<=h.length->∀x∈h,∃t∈E,x∈t
theorem Jb(w:WebOk n E):∀t∈E,∃a b:Int,t=[a,b]:=λt Z=>by obtain⟨a,b,e,_⟩:=w.el t Z;exact⟨a,b,e⟩
end
abbrev gI(L:List Int)(a:Int):Int:=L.getD a.toNat 0
def dC(L t:List Int):List Int:=match t with
 |[a,b]=>L.map λx=>if x=(if gI L b>gI L a then gI L b else gI L a)then (if gI L b<gI L a then gI L b else gI L a)else x
 |_=>L
section
variable {n:Nat}{E T:List (List Int)}{L:List Int}
structure Lab(n:Nat)(E T:List (List Int))(L:List Int):Prop where
 len:L.length=n
 rg:∀p:Int,0<=p->p<n->0<=gI L p/\gI L p<n
 idm:∀p:Int,0<=p->p<n->gI L (gI L p)=gI L p
 tie:∀a b,[a,b]∈T->gI L a=gI L b
 cls:∀C:Int->Prop,(∀a b,[a,b]∈E->(C a↔C b))->∀p:Int,0<=p->p<n->(C p↔C (gI L p))
theorem yB{f:Int->Int}{p:Int}(Z:0<=p)(h:p<L.length):gI (L.map f) p=f (gI L p):=by unfold gI;rw[M5,M5,Nn,MY (by omega)];rfl
theorem Lab.step(w:WebOk n E)(l:Lab n E T L){a b:Int}(W:[a,b]∈E)(F:∀t∈T,t∈E):Lab n E ([a,b]::T) (dC L [a,b]):=by
 obtain⟨m,r,e2,a0,ab,bn⟩:=w.el _ W;have y:=(NF e2).1;have A:=(NF (NF e2).2).1;subst y A;have o:=l.rg a a0 (by omega);have u:=l.rg b (by omega) bn;have j:=l.idm a a0 (by omega);have s:=l.idm b (by omega) bn;obtain⟨g,k,K,J⟩:∃g k,g=(if gI L b>gI L a then gI L b else gI L a)/\k=(if gI L b<gI L a then gI L b else gI L a):=⟨_,_,rfl,rfl⟩;have Y:(g=gI L a/\k=gI L b)\/(g=gI L b/\k=gI L a):=by
  rw[K,J];by_cases c:gI L b>gI L a
  ·rw[if_pos c,if_neg (by omega)];exact .inr ⟨rfl,rfl⟩
  ·rw[if_neg c];by_cases X:gI L b<gI L a
   ·rw[if_pos X];exact .inl ⟨rfl,rfl⟩
   ·rw[if_neg X];exact .inl ⟨rfl,by omega⟩
 have e:dC L [a,b]=L.map λx=>if x=g then k else x:=by rw[K,J];rfl
 have gt:∀p:Int,0<=p->p<n->gI (dC L [a,b]) p=if gI L p=g then k else gI L p:=λp h0 Z=>by rw[e,yB h0 (by rw[l.len];exact Z)]
 have R:0<=k/\k<n:=by rcases Y with⟨_,rfl⟩|⟨_,rfl⟩<;>assumption
 have v:gI L k=k:=by rcases Y with⟨_,rfl⟩|⟨_,rfl⟩<;>assumption
 have k2:gI (dC L [a,b]) k=k:=by rw[gt k R.1 R.2,v];split<;>rfl
 refine⟨by rw[e,MS];exact l.len,λp h0 Z=>?_,λp h0 Z=>?_,λc d P=>?_,λC U p h0 Z=>?_⟩
 ·rw[gt p h0 Z];split
  ·exact R
  ·exact l.rg p h0 Z
 ·rw[gt p h0 Z];split
  ·exact k2
  ·next hne=>
   have:=l.rg p h0 Z;rw[gt _ this.1 this.2,l.idm p h0 Z,if_neg hne]
 ·rcases M9.mp P with z|z
  ·have Q:=(NF z).1;have S:=(NF (NF z).2).1;subst Q S;rw[gt _ a0 (by omega),gt _ (by omega) bn];rcases Y with⟨rfl,rfl⟩|⟨rfl,rfl⟩
   ·rw[if_pos rfl];split<;>rfl
   ·rw[if_pos rfl];split<;>rfl
  ·obtain⟨q,d',O,G,cd,B⟩:=w.el _ (F _ z);have Q:=(NF O).1;have S:=(NF (NF O).2).1;subst Q S;rw[gt _ G (by omega),gt _ (by omega) B,l.tie _ _ z]
 ·have N:=l.cls C U p h0 Z;have X:=l.cls C U a a0 (by omega);have I:=l.cls C U b (by omega) bn;have H:=U a b W;rw[gt p h0 Z];split
  ·next hp=>
   rw[N,hp];rcases Y with⟨rfl,rfl⟩|⟨rfl,rfl⟩
   ·exact X.symm.trans (H.trans I)
   ·exact I.symm.trans (H.symm.trans X)
  ·exact N
abbrev vN(n:Nat):List Int:=(dr n).map λj:Nat=>(j:Int)
theorem wW:Lab n E [] (vN n):=by
 have g:∀p:Int,0<=p->p<n->gI (vN n) p=p:=λp h0 Z=>by unfold gI vN;rw[M5,Nn,Oi (by omega)];show((p.toNat:Nat):Int)=p;omega
 exact⟨by rw[MS,M0],λp h0 Z=>by rw[g p h0 Z];exact⟨h0,Z⟩,λp h0 Z=>by rw[g p h0 Z,g p h0 Z],(λa b z=>by cases z),λC _ p h0 Z=>by rw[g p h0 Z]⟩
theorem Ao(w:WebOk n E):∀(R T:List (List Int)) (L:List Int),(∀t∈R,t∈E)->(∀t∈T,t∈E)->Lab n E T L->∃Y,Lab n E Y (R.foldl dC L)/\(∀t∈T,t∈Y)/\∀t∈R,t∈Y
 |[],T,L,_,_,l=>⟨T,l,λt h=>h,λt h=>by cases h⟩
 | t::R,T,L,hR,hT,l=>by
  obtain⟨a,b,rfl⟩:=Jb w t (hR t (.head _));obtain⟨Y,X,s1,s2⟩:=Ao w R ([a,b]::T) _ (λt Z=>hR t (.tail _ Z)) (λt Z=>by
   rcases M9.mp Z with rfl|Z
   ·exact hR _ (.head _)
   ·exact hT t Z) (l.step w (hR _ (.head _)) hT)
  exact⟨Y,X,λt Z=>s1 t (.tail _ Z),λt Z=>by
   rcases M9.mp Z with rfl|Z
   ·exact s1 _ (.head _)
   ·exact s2 t Z⟩
abbrev cM(n:Nat)(E:List (List Int)):List Int:=E.foldl dC (vN n)
theorem Ap(w:WebOk n E):Lab n E E (cM n E):=by obtain⟨Z,l,_,s⟩:=Ao w E [] (vN n) (λt h=>h) (λt h=>by cases h) wW;exact⟨l.len,l.rg,l.idm,λa b h=>l.tie a b (s _ h),l.cls⟩
def heads(n:Nat)(L:List Int):List Nat:=(dr n).filter λp:Nat=>decide (gI L (p:Int)=(p:Int))
end
end W
namespace S7
open PySem PySem.Spec PyProof.Rows L2 S3
section
variable {X:Cx}{E:XD}{scope:Scope}{Nc:List Str}{js:List (Option Nat)}{elt tg iter:Expr}{ifs:List Expr}{pos:Pos}{mi:S3.aI->M Iter}{g:oH}{t:S3.aI->M Bool}{m:TM}
end
end S7
namespace W
open PySem PySem.Spec PyProof.Rows L2 S3 S4 S7
section
variable {α:Type}{l:List α}{mk f:α->D}{mi:aI->M Iter}{g:oH}{t:gM}{m:TM}{ρ:aI}{js:List (Option Nat)}{its:List D}
theorem Ee(R:aI->Prop)(q:α->Bool):∀(l:List α) (ρ:aI),R ρ->(∀a∈l,∀ ρ,R ρ->∃Z,g (mk a) ρ=aC Z/\R Z/\t Z=aC (q a)/\(q a=b_->m Z=aC (f a)))->bI ⟨its,.none⟩ g t m (l.map mk) ρ=aC ((l.filter q).map f)
 |[],ρ,_,_=>by unfold bI;rw[cC];rfl
 |a::l,ρ,hR,h=>by
  obtain⟨Z,W,U,X,S⟩:=h a (.head _) ρ hR;have T:=Ee R q l Z U λb Y=>h b (.tail _ Y);rw[Nd];unfold bI;rw[cC,ah,W,ah,X,ah,T];cases hq:q a with
  |true=>rw[Ow hq,if_pos rfl,S hq,ah];rfl
  |false=>rw[Ox (by rw[hq];decide),if_neg (by decide)]
theorem se(R:aI->Prop)(q:α->Bool)(X:mi ρ=aC ⟨l.map mk,.none⟩)(Z:l.length<=lim)(Y:R (gU js ρ))(W:∀a∈l,∀ ρ,R ρ->∃ ρ1,g (mk a) ρ=aC ρ1/\R ρ1/\t ρ1=aC (q a)/\(q a=b_->m ρ1=aC (f a))):
  aW mi g t m js ρ=bj ((l.filter q).map f):=by
 unfold aW;rw[X,ah];unfold dq;rw[if_pos (by show(l.map mk).length<=lim;rw[MS];exact Z)];show(bI _ g t m (l.map mk) _>>=_)=_;rw[Ee R q l _ Y W,ah]
theorem mj(R:aI->Prop)(q:α->Bool)(W:mi ρ=aC ⟨l.map mk,.none⟩)(Z:l.length<=lim)(Y:R (gU js ρ))(U:∀a∈l,∀ ρ,R ρ->∃ ρ1,g (mk a) ρ=aC ρ1/\R ρ1/\t ρ1=aC (q a)/\(q a=b_->m ρ1=aC (f a)))
  (X:bF 0 ((l.filter q).map f)=b_):aL (aW mi g t m js) ρ=aC (.fz ((l.filter q).map f)):=by
 unfold aL;rw[se R q W Z Y U];exact bR X (by rw[MS];exact M7 (Np _ _) Z)
theorem GX(R:aI->Prop)(q:α->Bool)(W:mi ρ=aC ⟨l.map mk,.none⟩)(Z:l.length<=lim)(Y:R (gU js ρ))(U:∀a∈l,∀ ρ,R ρ->∃ ρ1,g (mk a) ρ=aC ρ1/\R ρ1/\t ρ1=aC (q a)/\(q a=b_->m ρ1=aC (f a)))
  (X:bF 0 ((l.filter q).map f)=b_):aL (FG (aW mi g t m js)) ρ=aC (.fz ((l.filter q).map f)):=by
 unfold aL FG;rw[se R q W Z Y U,tS];exact bR X (by rw[MS];exact M7 (Np _ _) Z)
end
theorem Ef{S:av}{xs:List D}{d:D}(Z:xs.length<=1000):cO (.lst S.length) [d] (S++[xs])=ar (.ok .non,S++[xs++[d]]):=by show(getL S.length>>=λxs=>lU S.length (xs++[d])) (S++[xs])=_;rw[aD (cH (bJ (S:=S) (xs:=xs))),kb (by rw[MT];show xs.length+1<=lim;unfold lim;omega) (by simp)];rw[O7 _ _ (MV _),Ra];rfl
theorem things{es:aI->M (List D)}{ρ:aI}{us:List D}(Y:es ρ=aC us)(Z:bF 0 us=b_)(X:us.length<=50):aL (bc es) ρ=aC (.fz us):=by show iD (es ρ>>=bj)=_;rw[Y,ah];exact bR Z (by unfold lim;omega)
theorem Eg{f:D->List D->M D}{e1 e2:TM}{ρ:aI}{xs:List D}{y:D}(Z:e1 ρ=aC (.tup xs))(Y:e2 ρ=aC y):DM f e1 e2 ρ=f (.tup xs) [y]:=by unfold DM;rw[Z,ah,show Mx (.tup xs)=aC ()from rfl,ah,Y,ah,ah,ah]
theorem not_eq{t:gM}{b:Bool}{ρ:aI}(h:t ρ=aC b):eR t ρ=aC (!b):=by show(t ρ>>=_)=_;rw[h];rfl
theorem vn{α:Type}(g:α->Int)(l:List α):bF 0 (l.map λa=>D.int (g a))=true:=by have:=fh (l.map g);rw[Nl]at this;exact this
theorem Aq{t:gM}{m:cY}{ρ:aI}(h:t ρ=aC dt):lI t m fS ρ=aC (.nx ρ):=(dI h).trans (if_neg (by decide))
theorem nb{e:TM}{ρ:aI}(h:e ρ=aC (.bl b_)):eR (bV e) ρ=aC false:=not_eq (il h)
theorem vo{its ds:List D}{d:D}{g:oH}{b:cY}{ρ Y Z:aI}(h:g d ρ=aC Y)(X:b Y=aC (.nx Z)):eQ ⟨its,.none⟩ g b (d::ds) ρ=eQ ⟨its,.none⟩ g b ds Z:=by rw[eQ,cC,ah,h,ah,X];rfl
theorem gi{p:Int}{t:List Int}:iI p t=b_↔p∈t:=by unfold iI;rw[List.any_eq_true];exact⟨λ⟨x,hx,e⟩=>by rw[<-RF e];exact hx,λh=>⟨p,h,beq_self_eq_true p⟩⟩
section
variable {n:Nat}{E:List (List Int)}{d e:D}
theorem oy(Z:n<=14)(w:WebOk n E):cn [aS n E]=aC .non:=by rw[DZ IK (F6 w),if_pos (F4 (by omega) (by omega) w)]
theorem qm{us:List D}{ρ:aI}{e:TM}(h:e ρ=aC (.tup us)):di gn e ρ=aC (.int us.length):=fA h
theorem Jc{us:List D}{ρ:aI}{e:TM}(h:e ρ=aC (.fz us)):di gn e ρ=aC (.int us.length):=fA h
theorem wX(X:n<=14)(w:WebOk n E)(h:zW d):gf [aS n E,d]=if ez n d=b_ then aC .non else M.raise (.exc "NoPlace" []):=by
 have Y:=not_eq (il (mM (e:=az da (ae (aU cZ (mV 0) (mK (.int 0))) (ae (mV 1) ak))) (ρ:=[ar (aS n E),ar d]) ((call2 (x:=.int n) (y:=d) rfl rfl).trans (oh h))));have Z:=a9 (n:=lI (eR (bV (aL (az da (ae (aU cZ (mV 0) (mK (.int 0))) (ae (mV 1) ak)))))) (uR "NoPlace" (ae (mK (.str "this is no place of the web")) ak)) fS) (tR (mM (e:=az cn (ae (mV 0) ak)) (ρ:=[ar (aS n E),ar d]) ((d9 rfl).trans (oy X w))));by_cases hp:ez n d=b_
 ·rw[if_pos hp];exact yt (Z.trans ((dI Y).trans (if_neg (by rw[hp];decide)))) rfl
 ·rw[if_neg hp];exact ff (Z.trans ((dI Y).trans ((if_pos (by simpa using hp)).trans rfl)))
theorem yC{N k:Nat}{m:cY}{ds:List D}{S S1:av}{d:D}(Z:ds.length=k)(h:m (ds.map ar++eb (N - k) none) S=ar (.ok (.ret d),S1)):pU N k m ds S=ar (.ok d,S1):=by unfold pU;rw[if_pos Z];show(m _>>=outD) S=_;rw[aD h];rfl
theorem vp{m:TM}{ρ:aI}{us:List D}{S:av}(h:m ρ=bj us)(Z:us.length<=lim):cq (FG m) ρ S=ar (.ok (.ret (.lst S.length)),S++[us]):=by refine gH ?_;show lV (m ρ) S=_;rw[h,tS];exact cA Z
def gZ(n:Nat)(E:List (List Int))(p:Nat):List Int:=((dr n).filter λq:Nat=>tB E (p:Int) (q:Int)).map λq:Nat=>(q:Int)
theorem Ar(p:Nat):(gZ n E p).length<=n:=by unfold gZ;rw[MS];exact M7 (Np _ _) (by rw[M0];exact MV _)
theorem wY(p:Nat):((dr n).filter λq:Nat=>tB E (p:Int) (q:Int)).map (λq:Nat=>D.int (q:Int))=(gZ n E p).map D.int:=by unfold gZ;rw[Nl];rfl
theorem Jd{p:Nat}(Y:n<=14)(w:WebOk n E)(X:p<n)(S:av):jt [aS n E,.int p] S=ar (.ok (.lst S.length),S++[(gZ n E p).map D.int]):=by
 have Z:=se (α:=Nat) (l:=dr n) (mk:=λi:Nat=>D.int (i:Int)) (f:=λq:Nat=>D.int (q:Int)) (mi:=iY (aU cZ (mV 0) (mK (.int 0)))) (g:=gN 0) (t:=pj) (m:=pk) (js:=[none,ar 0,ar 1]) (ρ:=[ar (aS n E),ar (.int p)]) (λρ=>∃x,ρ=[x,ar (aS n E),ar (.int p)]) (λq:Nat=>tB E (p:Int) (q:Int)) (pY rfl (by omega)) (by rw[M0];unfold lim;omega) ⟨none,rfl⟩
  (λq hq ρ ⟨x,hρ⟩=>by subst hρ;exact⟨[ar (.int q),ar (aS n E),ar (.int p)],rfl,⟨_,rfl⟩,il (mM ((D4 rfl rfl rfl).trans IY)),λ_=>rfl⟩)
 rw[wY]at Z;refine yC rfl ?_;show uV [ar (aS n E),ar (.int p)] S=_;unfold uV;refine(Nt (a9 (tR (mM ((call2 rfl rfl).trans ((wX Y w (d:=.int p) rfl).trans (if_pos ?_)))))) S).trans (vp Z (by rw[MS];have:=Ar (n:=n) (E:=E) p;unfold lim;omega));show(decide (0<=(p:Int)) && decide ((p:Int)<n))=b_;rw[Nb (by omega),Nb (by omega)];rfl
def dl(n:Nat)(E:List (List Int)):List Int:=(dr n).map λp=>((vj E p:Nat):Int)
theorem Je(Y:n<=14)(w:WebOk n E)(S:av):eF [aS n E] S=ar (.ok (.lst S.length),S++[(dl n E).map D.int]):=by
 have hf:=w.few;have Z:=se (α:=Nat) (l:=dr n) (mk:=λi:Nat=>D.int (i:Int)) (f:=λp:Nat=>D.int (vj E p)) (mi:=iY (mV 1)) (g:=gN 0) (t:=j8) (m:=j9) (js:=[none,ar 2]) (ρ:=[ar (aS n E),ar (.int n),ar (.tup (E.map tupI))]) (λρ=>∃x,ρ=[x,ar (.tup (E.map tupI))]) (λ_=>b_) (pY rfl (by omega)) (by rw[M0];unfold lim;omega) ⟨none,rfl⟩
  (λp hp ρ ⟨x,hρ⟩=>by
   subst hρ;refine⟨[ar (.int p),ar (.tup (E.map tupI))],rfl,⟨_,rfl⟩,rfl,λ_=>?_⟩;have h:=mj (α:=List Int) (l:=E) (mk:=tupI) (f:=tupI) (mi:=cg (mV 1)) (g:=gN 0) (t:=j5) (m:=j6) (js:=[none,ar 0]) (ρ:=[ar (.int p),ar (.tup (E.map tupI))]) (λρ=>∃x,ρ=[x,ar (.int p)]) (iI p) rfl (by unfold lim;omega) ⟨none,rfl⟩
    (λt ht ρ ⟨x,hρ⟩=>by subst hρ;exact⟨[ar (tupI t),ar (.int p)],rfl,⟨_,rfl⟩,eu (x:=.int p) (y:=tupI t) rfl rfl Ah,λ_=>rfl⟩) (bU _)
   refine(Jc h).trans ?_;rw[MS];unfold vj;rw[List.countP_eq_length_filter])
 rw[dz,show(dr n).map (λp:Nat=>D.int (vj E p))=(dl n E).map D.int by unfold dl;rw[Nl];rfl]at Z;refine yC rfl ?_;show lK [ar (aS n E),none,none] S=_;unfold lK;refine(Nt (a9 (tR (mM ((d9 rfl).trans (oy Y w))))) S).trans ((Nt (a9 (ρ':=[ar (aS n E),ar (.int n),ar (.tup (E.map tupI))]) rfl) S).trans (vp Z (by unfold dl;rw[MS,MS,M0];unfold lim;omega)))
abbrev kq(n:Nat)(E:List (List Int))(r:List (Option D)):aI:=ar (aS n E)::ar (.int n)::ar (.tup (E.map tupI))::r
theorem Jf{L:List Int}{a b:Int}{x6 x7 x8:Option D}(P:L.length<=100)(a0:0<=a)(T:a<L.length)(S:0<=b)(R:b<L.length):∃y6 y7,gY (kq n E [ar (.fz (L.map D.int)),ar (.int a),ar (.int b),x6,x7,x8])=aC (.nx (kq n E [ar (.fz ((dC L [a,b]).map D.int)),ar (.int a),ar (.int b),y6,y7,x8])):=by
 have X:∀{y6 y7:Option D},aU cZ (mV 3) (mV 4) (kq n E [ar (.fz (L.map D.int)),ar (.int a),ar (.int b),y6,y7,x8])=aC (.int (gI L a)):=(b7 (x:=.fz (L.map D.int)) (y:=.int a) rfl rfl).trans (mS a0 T);have Y:∀{y6 y7:Option D},aU cZ (mV 3) (mV 5) (kq n E [ar (.fz (L.map D.int)),ar (.int a),ar (.int b),y6,y7,x8])=aC (.int (gI L b)):=(b7 (x:=.fz (L.map D.int)) (y:=.int b) rfl rfl).trans (mS S R);have U:az minD (ae (aU cZ (mV 3) (mV 4)) (ae (aU cZ (mV 3) (mV 5)) ak)) (kq n E [ar (.fz (L.map D.int)),ar (.int a),ar (.int b),x6,x7,x8])=aC (.int (if gI L b<gI L a then gI L b else gI L a)):=(call2 X Y).trans rfl;have Z:∀{y6:Option D},az maxD (ae (aU cZ (mV 3) (mV 4)) (ae (aU cZ (mV 3) (mV 5)) ak)) (kq n E [ar (.fz (L.map D.int)),ar (.int a),ar (.int b),y6,x7,x8])=aC (.int (if gI L b>gI L a then gI L b else gI L a)):=(call2 X Y).trans rfl;generalize hk:(if gI L b<gI L a then gI L b else gI L a)=k at U;generalize hg:(if gI L b>gI L a then gI L b else gI L a)=g at Z;have W:=GX (α:=Int) (l:=L) (mk:=D.int) (f:=λx=>D.int (if x=g then k else x)) (mi:=cg (mV 3)) (g:=gN 0) (t:=kY) (m:=kZ) (js:=[none,ar 7,ar 6]) (ρ:=kq n E [ar (.fz (L.map D.int)),ar (.int a),ar (.int b),ar (.int k),ar (.int g),x8]) (λρ=>∃x,ρ=[x,ar (.int g),ar (.int k)]) (λ_=>b_) rfl (by unfold lim;omega) ⟨none,rfl⟩
  (λx hx ρ ⟨y,hρ⟩=>by
   subst hρ;refine⟨[ar (.int x),ar (.int g),ar (.int k)],rfl,⟨_,rfl⟩,rfl,λ_=>?_⟩;have Q:fP km (mV 0) (mV 1) [ar (.int x),ar (.int g),ar (.int k)]=aC (decide (x=g)):=eu (x:=.int x) (y:=.int g) rfl rfl Jz;show(fP km _ _ _>>=_)=_;rw[Q,ah];by_cases h:x=g
   ·rw[if_pos (Nb h),if_pos h];rfl
   ·rw[if_neg (by rw[Nu];exact h),if_neg h];rfl) (by rw[dz];exact vn (λx:Int=>if x=g then k else x) _)
 rw[dz]at W;refine⟨ar (.int k),ar (.int g),(a9 (fJ U)).trans ((a9 (fJ Z)).trans ((fJ W).trans ?_))⟩;have e:(dC L [a,b]).map D.int=L.map λx=>D.int (if x=g then k else x):=by unfold dC;dsimp only;rw[hk,hg,Nl];rfl
 rw[e];rfl
theorem As{its:List D}(w:WebOk n E)(P:n<=14):∀(R T:List (List Int)) (L:List Int) (x4 x5 x6 x7 x8:Option D),(∀t∈R,t∈E)->L.length=n->∃Z W Y X,eQ ⟨its,.none⟩ (dH 2 (aY (gN 4) (aY (gN 5) dQ))) gY (R.map tupI) (kq n E [ar (.fz (L.map D.int)),x4,x5,x6,x7,x8])=aC (.nx (kq n E [ar (.fz ((R.foldl dC L).map D.int)),Z,W,Y,X,x8]))
 |[],T,L,x4,x5,x6,x7,x8,_,_=>⟨x4,x5,x6,x7,gS⟩
 |t::R,T,L,x4,x5,x6,x7,x8,hR,hl=>by
  obtain⟨a,b,rfl,a0,ab,bn⟩:=w.el t (hR t (.head _));obtain⟨O,U,N⟩:=Jf (n:=n) (E:=E) (L:=L) (x6:=x6) (x7:=x7) (x8:=x8) (by omega) a0 (by omega) (show 0<=b by omega) (by omega);obtain⟨Z,W,Y,X,S⟩:=As (its:=its) w P R T (dC L [a,b]) (ar (.int a)) (ar (.int b)) O U x8 (λt Q=>hR t (.tail _ Q)) (by unfold dC;dsimp only;rw[MS];exact hl);exact⟨Z,W,Y,X,(vo rfl N).trans S⟩
def lr(n:Nat)(L:List Int):List D:=(heads n L).map λh:Nat=>.tup (((dr n).filter λp:Nat=>decide (gI L (p:Int)=(h:Int))).map λp:Nat=>D.int (p:Int))
theorem Jg(N:n<=14)(w:WebOk n E)(S:av):fx [aS n E] S=ar (.ok (.lst S.length),S++[lr n (cM n E)]):=by
 have hf:=w.few;have Q:aL (di eh (mV 1)) (kq n E [none,none,none,none,none,none])=aC (.fz ((vN n).map D.int)):=by unfold aL;rw[fA (x:=.int n) rfl,KS (j:=n) ⟨by omega,by unfold lim;omega⟩,NH,KZ,show(dr n).map (λi:Nat=>D.int (i:Int))=(vN n).map D.int by rw[Nl];rfl];exact bR (fh _) (by rw[MS,MS,M0];unfold lim;omega)
 obtain⟨Y,T,X,U,W⟩:=As (its:=E.map tupI) w N E [] (vN n) none none none none none (λt h=>h) (by rw[MS,M0]);have hlen:(cM n E).length=n:=(Ap w).len;have L:iu (cg (mV 2)) (dH 2 (aY (gN 4) (aY (gN 5) dQ))) gY (kq n E [ar (.fz ((vN n).map D.int)),none,none,none,none,none])=aC (.nx (kq n E [ar (.fz ((cM n E).map D.int)),Y,T,X,U,none])):=by unfold iu;rw[show cg (mV 2) (kq n E [ar (.fz ((vN n).map D.int)),none,none,none,none,none])=aC ⟨E.map tupI,.none⟩from rfl,ah];exact W
 have O:∀{ρ:aI} {p:Nat} {e1 e2:TM},p<n->e1 ρ=aC (.fz ((cM n E).map D.int))->e2 ρ=aC (.int p)->aU cZ e1 e2 ρ=aC (.int (gI (cM n E) (p:Int))):=λ{ρ p e1 e2} Z h1 h2=>(b7 h1 h2).trans (mS (by omega) (by omega));have P:=mj (α:=Nat) (l:=dr n) (mk:=λi:Nat=>D.int (i:Int)) (f:=λp:Nat=>D.int (p:Int)) (mi:=iY (mV 1)) (g:=gN 0) (t:=je) (m:=jf) (js:=[none,ar 3]) (ρ:=kq n E [ar (.fz ((cM n E).map D.int)),Y,T,X,U,none]) (λρ=>∃x,ρ=[x,ar (.fz ((cM n E).map D.int))]) (λp:Nat=>decide (gI (cM n E) (p:Int)=(p:Int))) (pY rfl (by omega)) (by rw[M0];unfold lim;omega) ⟨none,rfl⟩
  (λp Z ρ ⟨x,hρ⟩=>by subst hρ;exact⟨[ar (.int p),ar (.fz ((cM n E).map D.int))],rfl,⟨_,rfl⟩,eu (O (Na.mp Z) rfl rfl) (y:=.int p) rfl Jz,λ_=>rfl⟩) (vn (λp:Nat=>(p:Int)) _)
 have R:Kr (bE 8 (aL (aW (iY (mV 1)) (gN 0) je jf [none,ar 3]))) (kq n E [ar (.fz ((cM n E).map D.int)),Y,T,X,U,none])=aC (.nx (kq n E [ar (.fz ((cM n E).map D.int)),Y,T,X,U,ar (.fz ((heads n (cM n E)).map λp:Nat=>D.int (p:Int)))])):=by show lV (bE 8 _ _)=_;rw[fJ P];rfl
 have Z:=se (α:=Nat) (l:=heads n (cM n E)) (mk:=λi:Nat=>D.int (i:Int)) (f:=λh:Nat=>D.tup (((dr n).filter λp:Nat=>decide (gI (cM n E) (p:Int)=(h:Int))).map λp:Nat=>D.int (p:Int))) (mi:=cg (mV 8)) (g:=gN 0) (t:=lh) (m:=lj) (js:=[none,ar 1,ar 3]) (ρ:=kq n E [ar (.fz ((cM n E).map D.int)),Y,T,X,U,ar (.fz ((heads n (cM n E)).map λp:Nat=>D.int (p:Int)))]) (λρ=>∃x,ρ=[x,ar (.int n),ar (.fz ((cM n E).map D.int))]) (λ_=>b_) rfl (by have:(heads n (cM n E)).length<=n:=M7 (Np _ _) (by rw[M0];exact MV _);unfold lim;omega) ⟨none,rfl⟩
  (λh P ρ ⟨x,hρ⟩=>by
   subst hρ;refine⟨[ar (.int h),ar (.int n),ar (.fz ((cM n E).map D.int))],rfl,⟨_,rfl⟩,rfl,λ_=>?_⟩;have K:=mj (α:=Nat) (l:=dr n) (mk:=λi:Nat=>D.int (i:Int)) (f:=λp:Nat=>D.int (p:Int)) (mi:=iY (mV 1)) (g:=gN 0) (t:=k9) (m:=lg) (js:=[none,ar 2,ar 0]) (ρ:=[ar (.int h),ar (.int n),ar (.fz ((cM n E).map D.int))]) (λρ=>∃x,ρ=[x,ar (.fz ((cM n E).map D.int)),ar (.int h)]) (λp:Nat=>decide (gI (cM n E) (p:Int)=(h:Int))) (pY rfl (by omega)) (by rw[M0];unfold lim;omega) ⟨none,rfl⟩
    (λp Z ρ ⟨x,hρ⟩=>by subst hρ;exact⟨[ar (.int p),ar (.fz ((cM n E).map D.int)),ar (.int h)],rfl,⟨_,rfl⟩,eu (O (Na.mp Z) rfl rfl) (y:=.int h) rfl Jz,λ_=>rfl⟩) (vn (λp:Nat=>(p:Int)) _)
   refine(fA K).trans (lq ?_);rw[MS];exact M7 (Np _ _) (by rw[M0];unfold lim;omega))
 rw[dz]at Z;refine yC rfl ?_;show nY [ar (aS n E),none,none,none,none,none,none,none,none] S=_;unfold nY;refine(Nt (a9 (tR (mM ((d9 rfl).trans (oy N w))))) S).trans ((Nt (a9 (ρ':=kq n E [none,none,none,none,none,none]) rfl) S).trans ((Nt (a9 (fJ Q)) S).trans ((Nt (a9 L) S).trans ((Nt (a9 R) S).trans (vp Z ?_)))));unfold lr;rw[MS];exact M7 (Np _ _) (by rw[M0];unfold lim;omega)
end
theorem qo{c:M D}{S:av}{us:List D}(h:c S=ar (.ok (.lst S.length),S++[us]))(Y:bF 0 us=b_):iD c S=ar (.ok (.fz us),S):=by have:=kR (u:=.fz us) h (λk xs Z e=>.inl (by rw[<-e,Nk Z])) (.inl (by simp)) (by simp) (mQ (f:=59) (MV _) bJ Y);rw[this,Re]
theorem Eh{it:Iter}{S:av}(Z:it.okS S):ia it S=ar (.ok (),S):=if_pos Z
theorem vt{it:Iter}{g:oH}{t:gM}{m:TM}{f:D->D}{S:av}{R:aI->Prop}(Y:it.okS S):∀(ds:List D) (ρ:aI),R ρ->(∀d∈ds,∀ ρ,R ρ->∃Z,g d ρ=aC Z/\R Z/\t Z=aC b_/\m Z S=ar (.ok (f d),S))->bI it g t m ds ρ S=ar (.ok (ds.map f),S)
 |[],ρ,_,_=>by
  unfold bI;rw[aD (Eh Y)];rfl
 |d::ds,ρ,hR,h=>by
  obtain⟨Z,e1,X,e2,W⟩:=h d (.head _) ρ hR;unfold bI;rw[aD (Eh Y),e1,ah,e2,ah,if_pos rfl,aD W,aD (vt Y ds Z X λd hd=>h d (.tail _ hd))];rfl
theorem Ei{k p:Nat}{S:av}{us vs:List D}(Y:S[p]? =ar us)(O:us.length=vs.length)(K:vs.length<=1000)(h:∀q∈us.zip vs,a8 k [q.1,q.2] S=ar (.ok (.bl b_),S)):a8 (k+1) [.lst p,.fz vs] S=ar (.ok (.bl b_),S):=by
 have P:pK (mV 0) (mV 1) [ar (.lst p),ar (.fz vs)] S=ar (.ok ⟨(us.zip vs).map λq:D×D=>D.tup [q.1,q.2],.two p p us us⟩,S):=by show(ae _ _ _>>=tN) S=_;rw[aP (e:=mV 0) (x:=.lst p) rfl (aP (e:=mV 1) (x:=.fz vs) rfl (es:=ak) rfl),ah];show(zL (.lst p)>>=λx=>zL (.fz vs)>>=λy=>(aC ⟨(x.1.zip y.1).map λp=>.tup [p.1,p.2],FE x.2 y.2⟩:M Iter)) S=_;rw[aD (show zL (.lst p) S=ar (.ok (us,ar (p,us)),S) by show(getL p>>=_) S=_;rw[aD (cH Y)];rfl)];rfl
 have N:aW (pK (mV 0) (mV 1)) (dH 2 (aY (gN 0) (aY (gN 1) dQ))) (d5 (a8 k)) (d6 (a8 k)) [none,none] [ar (.lst p),ar (.fz vs)] S=ar (.ok (.lst S.length),S++[((us.zip vs).map λ_=>b_).map D.bl]):=by
  unfold aW;rw[aD P];have hlen:((us.zip vs).map λq:D×D=>D.tup [q.1,q.2]).length<=lim:=by rw[MS,Qn];unfold lim;omega
  have:=vt (it:=⟨(us.zip vs).map λq:D×D=>D.tup [q.1,q.2],.two p p us us⟩) (g:=dH 2 (aY (gN 0) (aY (gN 1) dQ))) (t:=d5 (a8 k)) (m:=d6 (a8 k)) (f:=λ_=>.bl b_) (S:=S) (R:=λρ=>∃x y,ρ=[x,y]) ⟨Y,Y⟩ ((us.zip vs).map λq:D×D=>D.tup [q.1,q.2]) (gU [none,none] [ar (.lst p),ar (.fz vs)]) ⟨none,none,rfl⟩ (λd hd ρ X=>by obtain⟨x,y,rfl⟩:=X;obtain⟨q,L,rfl⟩:=Nm.mp hd;refine⟨[ar q.1,ar q.2],rfl,⟨_,_,rfl⟩,rfl,?_⟩;show iD (az _ _ _) S=_;rw[call2 (x:=q.1) (y:=q.2) rfl rfl];exact Ae (h q L))
  unfold dq;rw[if_pos hlen,aD this];rw[show SC (λ_=>D.bl b_) (SC (λq:D×D=>D.tup [q.1,q.2]) (us.zip vs))=((us.zip vs).map λ_=>b_).map D.bl by rw[Nl,Nl];rfl];exact cA (by rw[MS,MS];rw[MS]at hlen;exact hlen)
 have U:aL (aW (pK (mV 0) (mV 1)) (dH 2 (aY (gN 0) (aY (gN 1) dQ))) (d5 (a8 k)) (d6 (a8 k)) [none,none]) [ar (.lst p),ar (.fz vs)] S=ar (.ok (.fz (((us.zip vs).map λ_=>b_).map D.bl)),S):=qo N (rM _);have Z:((us.zip vs).map λ_=>b_).all id=true:=by rw[PZ];exact Nx.mpr λ_ _=>rfl
 have W:∀T,fP kL (gx (mV 0) T) (gx (mV 1) T) [ar (.lst p),ar (.fz vs)]=aC false:=λT=>eu (x:=.bl (i3 "list" T)) (y:=.bl (i3 "list" T)) rfl rfl Mg;have Q:B4 (fP kL (gx (mV 0) "tuple") (gx (mV 1) "tuple")) (fP kL (gx (mV 0) "list") (gx (mV 1) "list")) [ar (.lst p),ar (.fz vs)]=aC false:=by show(fP kL _ _ _>>=_)=_;rw[W "tuple",ah];exact W "list"
 have hle:fP kL (di gn (mV 0)) (di gn (mV 1)) [ar (.lst p),ar (.fz vs)] S=ar (.ok dt,S):=by refine vg (x:=.int us.length) (y:=.int vs.length) ?_ (S2:=S) rfl (by rw[O];exact Mz);rw[rO (x:=.lst p) (S1:=S) rfl];show(getL p>>=_) S=_;rw[aD (cH Y)];rfl
 refine fK (o:=.ret (.bl b_)) ?_ rfl;show dy _ [ar (.lst p),ar (.fz vs)] S=_;unfold dy;show(lI _ _ _ _>>=_) S=_;refine aD (a:=Out.ret (.bl b_)) ?_;refine(Nt (dI (b:=b_) (il rfl)) S).trans ?_;rw[if_pos rfl];refine(Nt (a9 (Aq Q)) S).trans ((aQ ((Aa hle).trans (if_neg (by decide)))).trans (gH ?_));rw[rO U,rQ,Z];rfl
section
variable {n:Nat}{E:List (List Int)}
theorem cnt_ite{q:Nat->Bool}:∀m,((dr m).filter q).length=sm m (λi=>if q i then 1 else 0)
 |0=>rfl
 |m+1=>by
  rw[Qh,List.filter_append,MT,cnt_ite m,jl];cases h:q m<;>simp[h]
theorem Jh{a b:Int}:tB [] a b=false:=by unfold tB;rw[Nv];intro h;cases h
theorem wZ:∀(E:List (List Int)),E.Nodup->(∀t∈E,∃a b:Int,t=[a,b]/\0<=a/\a<b/\b<n)->∀p:Nat,p<n->sm n (λq:Nat=>if tB E (p:Int) (q:Int)then 1 else 0)=vj E p
 |[],_,_,p,_=>by
  unfold vj;rw[List.countP_nil,ou (g:=λ_=>0) λq _=>by rw[Jh];rfl,pC]
 | t ::E,nd,el,p,hp=>by
  obtain⟨a,b,rfl,a0,ab,bn⟩:=el t (.head _);obtain⟨T,U⟩:=NN.mp nd;have X:=wZ E U (λt W=>el t (.tail _ W)) p hp;have key:∀q,q<n->(if tB ([a,b]::E) (p:Int) (q:Int)then 1 else 0)=(if tB E (p:Int) (q:Int)then 1 else 0)+(if (q:Int)=(if (p:Int)=a then b else if (p:Int)=b then a else -1)then 1 else 0):=λq _=>by
   unfold tB;by_cases h:[if (q:Int)<p then (q:Int)else p,if (q:Int)>p then (q:Int)else p]=[a,b]
   ·have Y:=(NF h).1;have Z:=(NF (NF h).2).1;rw[h,Nb (.head _),Nv T];have:(q:Int)=(if (p:Int)=a then b else if (p:Int)=b then a else -1):=by
     split at Y<;>split at Z<;>split<;>(try split)<;>omega
    rw[if_pos this];rfl
   ·have:¬ (q:Int)=(if (p:Int)=a then b else if (p:Int)=b then a else -1):=λz=>h (by
     have:(if (q:Int)<p then (q:Int)else p)=a/\(if (q:Int)>p then (q:Int)else p)=b:=by
      split at z
      ·subst z;constructor<;>split<;>omega
      ·split at z
       ·subst z;constructor<;>split<;>omega
       ·omega
     rw[this.1,this.2])
    rw[if_neg this];have:([if (q:Int)<p then (q:Int)else p,if (q:Int)>p then (q:Int)else p]∈[a,b]::E)↔([if (q:Int)<p then (q:Int)else p,if (q:Int)>p then (q:Int)else p]∈E):=⟨λz=>(M9.mp z).resolve_left h,λz=>.tail _ z⟩;rw[P7.mpr this];rfl
  rw[ou key,D8 (λq:Nat=>if tB E (p:Int) (q:Int)then 1 else 0),X];unfold vj;rw[Q3,Mm];congr 1;by_cases Y:(p:Int)=a
  ·rw[if_pos Y,Ak (by omega) bn,if_pos (Nb (.inl Y))]
  ·rw[if_neg Y];by_cases Z:(p:Int)=b
   ·rw[if_pos Z,Ak a0 (by omega),if_pos (Nb (.inr Z))]
   ·rw[if_neg Z,ou (g:=λ_=>0) λq _=>if_neg (by omega),pC,if_neg (by rw[Nv λz=>z.elim Y Z];decide)]
theorem i6:∀l:List Int,HT.lexLt l l=dt
 |[]=>rfl
 |x::l=>by
  unfold HT.lexLt;simp[i6 l]
theorem Gd(w:WebOk n E):Tied n E:=⟨w.el,w.ris.imp λh e=>by rw[e,i6]at h;cases h⟩
theorem Ej(w:WebOk n E){p:Nat}(Z:p<n):(gZ n E p).length=vj E p:=by unfold gZ;rw[MS,cnt_ite];exact wZ E (Gd w).nd w.el p Z
def gj(n:Nat)(E:List (List Int)):List (List D):=(dr n).map λp=>(gZ n E p).map D.int
def ki(n:Nat)(E:List (List Int)):List (List D):=gj n E++[(dl n E).map D.int,lr n (cM n E)]
structure Fnd(b:Nat)(S:av)(p:Nat)(fs:List Nat)(vs:List (List D)):Prop where
 here:S[p]? =ar (fs.map D.lst)
 nd:fs.Nodup
 np:p∉fs
 pb:b<=p
 fb:∀f∈fs,b<=f
 rd:fs.map (λf=>S[f]?)=vs.map ar
theorem tZ{its:List D}(Z:n<=14)(w:WebOk n E):∀(post:List Nat) (T:av) (x:Option D),(∀p∈post,p<n)->bI ⟨its,.none⟩ (gN 0) iU iV (post.map λi:Nat=>D.int (i:Int)) [x,ar (aS n E)] T=ar (.ok ((iB T.length post.length).map D.lst),T++post.map λp=>(gZ n E p).map D.int)
 |[],T,x,_=>by
  rw[Oo,Oo,NL];unfold bI;rw[cC,ah];rfl
 | p::post,T,x,h=>by
  rw[Nd];unfold bI;have e1:iV [ar (.int p),ar (aS n E)] T=ar (.ok (.lst T.length),T++[(gZ n E p).map D.int]):=by show az jt _ _ T=_;rw[call2 (x:=aS n E) (y:=.int p) rfl rfl];exact Jd Z w (h p (.head _)) T
  rw[cC,ah,show gN 0 (D.int p) [x,ar (aS n E)]=aC [ar (.int p),ar (aS n E)]from rfl,ah,show iU [ar (.int p),ar (aS n E)]=aC b_ from rfl,ah,if_pos rfl,aD e1,aD (tZ Z w post _ (ar (.int p)) λq Y=>h q (.tail _ Y))];rw[Nh,MT,show(p::post).length=post.length+1 from rfl,List.range'_succ];rfl
theorem vv{S G H:av}{x:List D}{i:Nat}(h:i=S.length+G.length):(S++(G++x::H))[i]? =ar x:=by subst h;rw[pX,OC (MV _),Ra];rfl
theorem El{ρ:aI}(W:n<=14)(w:WebOk n E)(X:mV 3 ρ=aC (aS n E))(U:gU [none,ar 3] ρ=[none,ar (aS n E)])(T:av):∃(G:av) (p:Nat) (fs:List Nat),aU bK (aW (iY (aU cZ (mV 3) (mK (.int 0)))) (gN 0) iU iV [none,ar 3]) (bc (ae (az eF (ae (mV 3) ak)) (ae (az fx (ae (mV 3) ak)) ak))) ρ T=ar (.ok (.lst p),T++G)/\Fnd T.length (T++G) p fs (ki n E):=by
 have I:iY (aU cZ (mV 3) (mK (.int 0))) ρ=aC ⟨(dr n).map λi:Nat=>D.int (i:Int),.none⟩:=pY ((b7 X (y:=.int 0) rfl).trans rfl) (by omega);have R:aW (iY (aU cZ (mV 3) (mK (.int 0)))) (gN 0) iU iV [none,ar 3] ρ T=ar (.ok (.lst (T++gj n E).length),(T++gj n E)++[(iB T.length n).map D.lst]):=by have:=tZ (its:=(dr n).map λi:Nat=>D.int (i:Int)) W w (dr n) T none λp N=>Na.mp N;rw[M0]at this;unfold aW;rw[I,ah];unfold dq;rw[if_pos (show((dr n).map λi:Nat=>D.int (i:Int)).length<=lim by rw[MS,M0];unfold lim;omega),U,aD this];exact cA (by rw[MS,OK];unfold lim;omega)
 have Z:(gj n E).length=n:=by unfold gj;rw[MS,M0]
 generalize hT1:T++gj n E=T1 at R;have J:T1.length=T.length+n:=by rw[<-hT1,MT,Z]
 generalize hT2:T1++[(iB T.length n).map D.lst]=T2 at R;have O:T2.length=T.length+n+1:=by rw[<-hT2,MT,J];rfl
 have e1:az eF (ae (mV 3) ak) ρ T2=ar (.ok (.lst T2.length),T2++[(dl n E).map D.int]):=by rw[d9 X];exact Je W w T2
 have e2:az fx (ae (mV 3) ak) ρ (T2++[(dl n E).map D.int])=ar (.ok (.lst (T2++[(dl n E).map D.int]).length),T2++[(dl n E).map D.int]++[lr n (cM n E)]):=by rw[d9 X];exact Jg W w _
 have L:=ju (ys:=[.lst T2.length,.lst (T2++[(dl n E).map D.int]).length]) (bO e1 (bO e2 (es:=ak) rfl)) pq;have g1:∀G:av,(T2++G)[T1.length]? =ar ((iB T.length n).map D.lst):=λG=>by rw[Nk (by omega), <-hT2];exact bJ
 have P:aU bK (aW (iY (aU cZ (mV 3) (mK (.int 0)))) (gN 0) iU iV [none,ar 3]) (bc (ae (az eF (ae (mV 3) ak)) (ae (az fx (ae (mV 3) ak)) ak))) ρ T=ar (.ok (.lst (T2++[(dl n E).map D.int]++[lr n (cM n E)]++[[D.lst T2.length,.lst (T2++[(dl n E).map D.int]).length]]).length),T2++[(dl n E).map D.int]++[lr n (cM n E)]++[[D.lst T2.length,.lst (T2++[(dl n E).map D.int]).length]]++[(iB T.length n).map D.lst++[D.lst T2.length,.lst (T2++[(dl n E).map D.int]).length]]):=by rw[fR R L];show(getL _>>=λxs=>getL _>>=λys=>bj (xs++ys)) _=_;rw[aD (cH (by rw[Nh,Nh];exact g1 _)),aD (cH bJ)];exact cA (by rw[MT,MS,OK];show n+2<=lim;unfold lim;omega)
 have Y:(T2++[(dl n E).map D.int]).length=T.length+n+2:=by rw[MT,O];rfl
 have Q:(T2++[(dl n E).map D.int]++[lr n (cM n E)]++[[D.lst T2.length,.lst (T2++[(dl n E).map D.int]).length]]).length=T.length+n+4:=by rw[MT,MT,Y];rfl
 rw[Q,Y,O]at P;refine⟨gj n E++[(iB T.length n).map D.lst,(dl n E).map D.int,lr n (cM n E),[D.lst (T.length+n+1),.lst (T.length+n+2)],(iB T.length n).map D.lst++[D.lst (T.length+n+1),.lst (T.length+n+2)]],T.length+n+4,iB T.length n++[T.length+n+1,T.length+n+2],P.trans ?_,?_⟩
 ·congr 2;rw[<-hT2, <-hT1];simp only[List.append_assoc,L0,List.nil_append]
 ·refine⟨?_,?_,?_,by omega,?_,?_⟩
  ·rw[show ∀a b c d e:List D,gj n E++[a,b,c,d,e]=(gj n E++[a,b,c,d])++[e]from λa b c d e=>by rw[Nh];rfl];rw[vv (H:=[]) (by rw[MT,Z];show _=T.length+(n+4);omega),NC];rfl
  ·rw[PP];refine⟨List.nodup_range' (step:=1),by simp,λa K b U=>?_⟩;rw[ON]at K;simp only[f_,eK,or_false]at U;omega
  ·intro z;rcases NA.mp z with z|z
   ·rw[ON]at z;omega
   ·simp only[f_,eK,or_false]at z;omega
  ·intro f hf;rcases NA.mp hf with z|z
   ·rw[ON]at z;omega
   ·simp only[f_,eK,or_false]at z;omega
  ·rw[NC];unfold ki;rw[NC];congr 1
   ·refine List.ext_getElem (by rw[MS,MS,OK,Z]) λi F S=>?_;rw[MS]at S;rw[P5,P5,List.getElem_range',Nat.one_mul,pX,Nk S,MY S]
   ·rw[Nd,Nd,Oo];have a1:∀(a b c d e:List D),(T++(gj n E++[a,b,c,d,e]))[T.length+n+1]? =ar b:=λa b c d e=>by
     rw[show gj n E++[a,b,c,d,e]=(gj n E++[a])++b::[c,d,e] by rw[Nh];rfl];exact vv (by rw[MT,Z];show _=T.length+(n+1);omega)
    have a2:∀(a b c d e:List D),(T++(gj n E++[a,b,c,d,e]))[T.length+n+2]? =ar c:=λa b c d e=>by rw[show gj n E++[a,b,c,d,e]=(gj n E++[a,b])++c::[d,e] by rw[Nh];rfl];exact vv (by rw[MT,Z];show _=T.length+(n+2);omega)
    rw[a1,a2];rfl
end
theorem Au{its:List D}{p:Nat}{a0 a1 a2 a3 a4 a5 a6 a7:Option D}:∀(todo:List Nat) (S:av) (x8:Option D),S[p]? =ar its->p∉todo->todo.Nodup->(∀f∈todo,∃xs,S[f]? =ar xs/\xs.length<=1000)->∃W Z,eQ ⟨its,.some p⟩ (gN 8) n8 (todo.map D.lst) [a0,a1,a2,a3,a4,a5,a6,a7,x8] S=ar (.ok (.nx [a0,a1,a2,a3,a4,a5,a6,a7,W]),Z)/\Z.length=S.length/\∀i,i∉todo->Z[i]? =S[i]?
 |[],S,x8,hp,_,_,_=>⟨x8,S,D1 hp,rfl,λ_ _=>rfl⟩
 | f::todo,S,x8,hp,np,nd,hx=>by
  obtain⟨O,P⟩:=NN.mp nd;obtain⟨xs,hf,L⟩:=hx f (.head _);have X:f<S.length:=(MX.mp hf).1;have N:n8 [a0,a1,a2,a3,a4,a5,a6,a7,ar (.lst f)] S=ar (.ok (.nx [a0,a1,a2,a3,a4,a5,a6,a7,ar (.lst f)]),S.set f (xs++[.int 0])):=by refine rN (x:=.non) ((rW (x:=.lst f) (y:=.int 0) (S1:=S) rfl rfl rfl).trans ?_);show(getL f>>=λxs=>lU f (xs++[D.int 0])) S=_;rw[aD (cH hf),kb (by rw[MT];show xs.length+1<=lim;unfold lim;omega) X]
  have Y:(S.set f (xs++[.int 0]))[p]? =ar its:=by rw[NM (λz=>np (by rw[z];exact .head _))];exact hp
  obtain⟨W,Z,e,l,o⟩:=Au todo (S.set f (xs++[.int 0])) (ar (.lst f)) Y (λz=>np (.tail _ z)) P λg U=>by obtain⟨ys,Q,R⟩:=hx g (.tail _ U);exact⟨ys,by rw[NM (λz=>O (by rw[z];exact U))];exact Q,R⟩
  refine⟨W,Z,(F7 hp rfl N).trans e,by rw[l,O2],λi T=>?_⟩;rw[o i λz=>T (.tail _ z),NM (λz=>T (by rw[z];exact .head _))]
section
variable {n:Nat}{E T:List (List Int)}{L:List Int}
def cW(n:Nat)(L:List Int)(h:Nat):List Int:=((dr n).filter λp:Nat=>decide (gI L (p:Int)=(h:Int))).map λp:Nat=>(p:Int)
theorem gT{h:Nat}{x:Int}:x∈cW n L h↔0<=x/\x<n/\gI L x=h:=by
 unfold cW;constructor
 ·intro X;obtain⟨p,W,rfl⟩:=Nm.mp X;obtain⟨Y,Z⟩:=NR.mp W;have:=Na.mp Y;exact⟨by omega,by omega,NY Z⟩
 ·rintro⟨h0,Y,Z⟩;refine Nm.mpr ⟨x.toNat,NR.mpr ⟨Na.mpr (by omega),Nb ?_⟩,by omega⟩;rw[show((x.toNat:Nat):Int)=x by omega];exact Z
theorem oz(h:Nat):(cW n L h).Pairwise (· <·):=by unfold cW;exact Pa.mpr ((PK (n:=n)).sublist Po |>.imp λh=>by omega)
theorem vw(h:Nat):(cW n L h).length<=n:=by unfold cW;rw[MS];exact M7 (Np _ _) (by rw[M0];exact MV _)
theorem oA:lr n L=((heads n L).map (cW n L)).map tupI:=by unfold lr;rw[Nl];refine Om λh _=>?_;show _=D.tup ((cW n L h).map D.int);unfold cW;rw[Nl];rfl
theorem Av{p:Nat}:p∈heads n L↔p<n/\gI L (p:Int)=p:=by unfold heads;rw[NR,Na,Nu]
theorem GY:(heads n L).Nodup:=List.nodup_range.filter _
theorem w5{l:List Nat}{x:Nat}(X:l.Nodup)(Y:x∈l):l.filter (λh=>decide (h=x))=[x]:=by
 induction l with
 |nil=>cases Y
 | cons y l ih=>
  obtain⟨U,W⟩:=NN.mp X;by_cases e:y=x
  ·subst e;rw[Ow (by simp),List.filter_eq_nil_iff.mpr λz Z=>by
    simp only[decide_eq_true_eq];intro q;rw[q]at Z;exact U Z]
  ·rw[Ox (by simp[e])];exact ih W ((M9.mp Y).resolve_left λz=>e z.symm)
theorem BN{l:List Nat}{x:Nat}(X:l.Nodup)(Y:x∈l):l.Perm (x::l.filter λh=>decide (h≠x)):=by
 induction l with
 |nil=>cases Y
 | cons y l ih=>
  obtain⟨U,W⟩:=NN.mp X;by_cases e:y=x
  ·subst e;rw[Ox (by simp),Qm.mpr λz Z=>by
    simp only[decide_eq_true_eq];intro q;rw[q]at Z;exact U Z]
  ·rw[Ow (by simp[e])];exact((ih W ((M9.mp Y).resolve_left λz=>e z.symm)).cons y).trans (.swap x y _)
theorem Em{l s:List Int}(h:l.Perm s)(hs:s.Pairwise (· <=·)):sortI l=s:=
 QQ (le:=(· <=·)) (λa b _ _ x y=>Int.le_antisymm x y) (ir l) hs ((sortI_perm l).trans h)
def PI(n:Nat)(L:List Int)(P:List (List Int)):Prop:=P.Perm ((heads n L).map (cW n L))
theorem sf(l:Lab n E T L){a:Int}(a0:0<=a)(Z:a<n):(gI L a).toNat∈heads n L/\(((gI L a).toNat:Nat):Int)=gI L a:=by
 have r:=l.rg a a0 Z;have e:(((gI L a).toNat:Nat):Int)=gI L a:=by omega
 exact⟨Av.mpr ⟨by omega,by rw[e];exact l.idm a a0 Z⟩,e⟩
theorem Ji{P:List (List Int)}(l:Lab n E T L)(h:PI n L P){a:Int}(a0:0<=a)(Z:a<n):P.filter (λc=>iI a c)=[cW n L (gI L a).toNat]:=by
 obtain⟨Y,X⟩:=sf l a0 Z;have p:=h.filter λc=>iI a c;rw[List.filter_map]at p;have e:(heads n L).filter ((λc=>iI a c)∘cW n L)=(heads n L).filter λh=>decide (h=(gI L a).toNat):=Pb λx W=>by show iI a (cW n L x)=_;rw[OB,gi,gT,Nu];exact⟨λz=>by omega,λz=>⟨a0,Z,by rw[z,X]⟩⟩
 rw[e,w5 GY Y]at p;exact List.perm_singleton.mp p
theorem vx{x y:Nat}(Z:x∈heads n L)(h:cW n L x=cW n L y):x=y:=by obtain⟨X,Y⟩:=Av.mp Z;have:(x:Int)∈cW n L x:=gT.mpr ⟨by omega,by omega,Y⟩;rw[h]at this;have:=(gT.mp this).2.2;omega
theorem En(l:Lab n E T L){a b p:Int}(Z:0<=p)(pn:p<n):gI (dC L [a,b]) p=if gI L p=(if gI L b>gI L a then gI L b else gI L a)then (if gI L b<gI L a then gI L b else gI L a)else gI L p:=by have:=l.len;show gI (L.map _) p=_;rw[yB Z (by omega)]
theorem Ge{P:List (List Int)}(h:PI n L P){a b:Int}(e:gI L a=gI L b):PI n (dC L [a,b]) P:=by
 have:dC L [a,b]=L:=by
  show L.map _=L;rw[e];refine(Om λx _=>?_).trans (List.map_id L);show(if x=(if gI L b>gI L b then gI L b else gI L b)then (if gI L b<gI L b then gI L b else gI L b)else x)=x;rw[ite_self];split
  ·next z=>exact z.symm
  ·rfl
 rw[this];exact h
theorem Gf{P:List (List Int)}(l:Lab n E T L)(h:PI n L P){a b:Int}(a0:0<=a)(u:a<n)(s:0<=b)(o:b<n)(e:gI L a≠gI L b):PI n (dC L [a,b]) (P.filter (λc=> !decide (c=cW n L (gI L a).toNat\/c=cW n L (gI L b).toNat))++[sortI (cW n L (gI L a).toNat++cW n L (gI L b).toNat)]):=by
 obtain⟨I,J⟩:=sf l a0 u;obtain⟨H,K⟩:=sf l s o;have X:∀p:Int,0<=p->p<n->gI (dC L [a,b]) p=if gI L p=(if gI L b>gI L a then gI L b else gI L a)then (if gI L b<gI L a then gI L b else gI L a)else gI L p:=λp B pn=>En l B pn;obtain⟨g,k,f,G,A,C,N,Z⟩:∃g k:Nat,g∈heads n L/\k∈heads n L/\(if gI L b>gI L a then gI L b else gI L a)=(g:Int)/\(if gI L b<gI L a then gI L b else gI L a)=(k:Int)/\g≠k/\(g=(gI L a).toNat/\k=(gI L b).toNat\/g=(gI L b).toNat/\k=(gI L a).toNat):=by
  by_cases c:gI L b>gI L a
  ·exact⟨_,_,H,I,by rw[if_pos c,K],by rw[if_neg (by omega),J],by omega,.inr ⟨rfl,rfl⟩⟩
  ·exact⟨_,_,I,H,by rw[if_neg c,J],by rw[if_pos (by omega),K],by omega,.inl ⟨rfl,rfl⟩⟩
 rw[A,C]at X;have m:=(Av.mp G).2;have S:heads n (dC L [a,b])=(heads n L).filter λx=>decide (x≠g):=by
  unfold heads;rw[List.filter_filter];refine Pb λp W=>?_;have W:=Na.mp W;rw[X p (by omega) (by omega),OB,ND,Nu,Nu,Nu];constructor
  ·intro z;split at z
   ·next q=>
    have:p=k:=by omega
    subst this;omega
   ·next q=>exact⟨λw=>q (by rw[z,w]),z⟩
  ·rintro⟨z1,z2⟩;rw[if_neg (by rw[z2];omega)];exact z2
 have R:∀x∈heads n L,x≠g->x≠k->cW n (dC L [a,b]) x=cW n L x:=λx Y i j=>by
  unfold cW;congr 1;refine Pb λp W=>?_;have W:=Na.mp W;rw[X p (by omega) (by omega),P7];constructor
  ·intro z;split at z
   ·omega
   ·exact z
  ·intro z;rw[if_neg (by rw[z];omega)];exact z
 have Q:cW n (dC L [a,b]) k=sortI (cW n L (gI L a).toNat++cW n L (gI L b).toNat):=by
  symm
  refine Em ?_ ((oz k).imp λh=>Int.le_of_lt h);refine(Pc ?_ ((oz k).imp λh=>by omega)).mpr λx=>?_
  ·rw[PP];refine⟨(oz _).imp λh=>by omega,(oz _).imp λh=>by omega,λx Y y r q=>?_⟩;subst q;have:=(gT.mp Y).2.2;have:=(gT.mp r).2.2;omega
  ·rw[NA,gT,gT,gT,J,K];constructor
   ·rintro(⟨x0,xn,q⟩|⟨x0,xn,q⟩)
    ·refine⟨x0,xn,?_⟩;rw[X x x0 xn];split<;>omega
    ·refine⟨x0,xn,?_⟩;rw[X x x0 xn];split<;>omega
   ·rintro⟨x0,xn,q⟩;rw[X x x0 xn]at q;split at q
    ·rcases Z with⟨z1,z2⟩|⟨z1,z2⟩
     ·exact .inl ⟨x0,xn,by omega⟩
     ·exact .inr ⟨x0,xn,by omega⟩
    ·rcases Z with⟨z1,z2⟩|⟨z1,z2⟩
     ·exact .inr ⟨x0,xn,by omega⟩
     ·exact .inl ⟨x0,xn,by omega⟩
 unfold PI;rw[S];have U:k∈(heads n L).filter λx=>decide (x≠g):=NR.mpr ⟨G,Nb λz=>N z.symm⟩;have F:=(BN (GY.filter _) U).map (cW n (dC L [a,b]));rw[Nd,Q,List.filter_filter]at F;refine List.Perm.trans ?_ F.symm;refine(Qp _ _).trans (.cons _ ?_);have v:=h.filter λc=> !decide (c=cW n L (gI L a).toNat\/c=cW n L (gI L b).toNat);refine v.trans (.of_eq ?_);rw[List.filter_map];have e1:(heads n L).filter ((λc=> !decide (c=cW n L (gI L a).toNat\/c=cW n L (gI L b).toNat))∘cW n L)=(heads n L).filter λx=>decide (x≠k) && decide (x≠g):=Pb λx Y=>by
  show(!decide (cW n L x=_\/cW n L x=_))=_;rw[OB,G3,decide_eq_false_iff_not,ND,Nu,Nu];constructor
  ·intro z;constructor
   ·intro q;rcases Z with⟨_,z2⟩|⟨_,z2⟩
    ·exact z (.inr (by rw[q,z2]))
    ·exact z (.inl (by rw[q,z2]))
   ·intro q;rcases Z with⟨z2,_⟩|⟨z2,_⟩
    ·exact z (.inl (by rw[q,z2]))
    ·exact z (.inr (by rw[q,z2]))
  ·rintro⟨z1,z2⟩ (q|q)
   ·have:=vx Y q;omega
   ·have:=vx Y q;omega
 rw[e1];refine Om λx Y=>?_;obtain⟨t,O⟩:=NR.mp Y;rw[ND,Nu,Nu]at O;exact(R x t O.2 O.1).symm
end
theorem w6{Z:List (List Int)}(h:∀r∈Z,0<r.length)(Y:Z.length<64):nJ (Z.map tupI)=bj ((fO Z).map tupI):=by
 cases Z with
 |nil=>rfl
 | cons r Z=>
  have W:two (r::Z)=true:=Nx.mpr λx X=>by have:=h x X;rw[bne_iff_ne];omega
  show(match rowsOf ((r::Z).map tupI)with|some Z=>rj Z|none=>M.fail)=_;rw[mP];exact if_pos ⟨Y,W⟩
theorem Gg{a b:List Int}:kL (tupI a) (tupI b)=aC (.bl (!decide (a=b))):=bN λS=>by
 unfold kL;refine(fX (iH a) (iH b)).mpr ⟨?_,rfl⟩;have:f' (iG a) (iG b)=decide (a=b):=by unfold iG f';rw[ot]
 rw[this]
theorem BO{c a b:List Int}:xQ (tupI c) (.tup [tupI a,tupI b])=aC (.bl (!decide (c=a\/c=b))):=bN λS=>by
 have Z:gm S 60 (.tup [tupI a,tupI b])=ar (.tuple [iG a,iG b]):=by show(mapP (gm S 59) ([a,b].map tupI)).map x_=_;rw[jM];rfl
 have:=vk c [a,b];refine(nM (iH c) Z (r:= !decide (c=a\/c=b)) ?_).mpr ⟨rfl,rfl⟩;show ar (!(([a,b].map iG).any λy=>f' y (iG c)))=_;rw[this];congr 2;exact P7.mpr (by simp)
section
variable {n:Nat}{E:List (List Int)}
abbrev kd(n:Nat)(E P:List (List Int))(r:List (Option D)):aI:=ar (aS n E)::ar (.fz (P.map tupI))::r
theorem Aw{T:List (List Int)}{L:List Int}{P:List (List Int)}{a:Int}{ρ:aI}{t m:_}{j:Nat}(U:t=(fP inD (mV 1) (mV 0):gM))(X:m=(mV 0:TM))(l:Lab n E T L)(h:PI n L P)(a0:0<=a)(R:a<n)(O:P.length<=14)(Q:mV 1 ρ=aC (.fz (P.map tupI)))(S:gU [none,ar j] ρ=[none,ar (.int a)]):aU cZ (aL (aW (cg (mV 1)) (gN 0) t m [none,ar j])) (mK (.int 0)) ρ=aC (tupI (cW n L (gI L a).toNat)):=by
 subst U X;have W:cg (mV 1) ρ=aC ⟨P.map tupI,.none⟩:=by unfold cg;rw[Q];rfl
 have Y:=mj (α:=List Int) (l:=P) (mk:=tupI) (f:=tupI) (mi:=cg (mV 1)) (g:=gN 0) (t:=fP inD (mV 1) (mV 0)) (m:=mV 0) (js:=[none,ar j]) (ρ:=ρ) (λρ=>∃x,ρ=[x,ar (.int a)]) (λc=>iI a c) W (by unfold lim;omega) ⟨none,S⟩
  (λc Y ρ Z=>by obtain⟨x,rfl⟩:=Z;exact⟨[ar (tupI c),ar (.int a)],rfl,⟨_,rfl⟩,eu (x:=.int a) (y:=tupI c) rfl rfl Ah,λ_=>rfl⟩) (bU _)
 rw[Ji l h a0 R]at Y;exact(b7 Y (y:=.int 0) rfl).trans rfl
theorem Eo{L:List Int}{P:List (List Int)}(h:PI n L P):P.length<=n:=by rw[h.length_eq,MS];exact M7 (Np _ _) (by rw[M0];exact MV _)
theorem K1{T:List (List Int)}{L:List Int}{P:List (List Int)}{a b:Int}{x4 x5:Option D}(F:n<=14)(l:Lab n E T L)(h:PI n L P)(a0:0<=a)(X:a<n)(W:0<=b)(S:b<n):∃P' y4 y5,dZ (kd n E P [ar (.int a),ar (.int b),x4,x5])=aC (.nx (kd n E P' [ar (.int a),ar (.int b),y4,y5]))/\PI n (dC L [a,b]) P':=by
 have u:=Eo h;have K:=Aw (j:=2) (t:=gD) (m:=gE) (ρ:=kd n E P [ar (.int a),ar (.int b),x4,x5]) rfl rfl l h a0 X (by omega) rfl rfl;have O:=Aw (j:=3) (t:=gF) (m:=gG) (ρ:=kd n E P [ar (.int a),ar (.int b),ar (tupI (cW n L (gI L a).toNat)),x5]) rfl rfl l h W S (by omega) rfl rfl;have v:=vw (n:=n) (L:=L) (gI L a).toNat;have w:=vw (n:=n) (L:=L) (gI L b).toNat;obtain⟨H,r⟩:=sf l a0 X;obtain⟨C,s⟩:=sf l W S;have Z:cW n L (gI L a).toNat=cW n L (gI L b).toNat↔gI L a=gI L b:=⟨λz=>by have:=vx H z;omega,λz=>by rw[z]⟩;have pi:=λe=>Gf l h a0 X W S e;have hs:=@Ge n L P h a b;have J:∀x∈sortI (cW n L (gI L a).toNat++cW n L (gI L b).toNat),True:=λ_ _=>trivial;generalize cW n L (gI L a).toNat=A at*;generalize cW n L (gI L b).toNat=B at*;have R:fP kL (mV 4) (mV 5) (kd n E P [ar (.int a),ar (.int b),ar (tupI A),ar (tupI B)])=aC (!decide (A=B)):=eu (x:=tupI A) (y:=tupI B) rfl rfl Gg;by_cases e:gI L a=gI L b
 ·refine⟨P,ar (tupI A),ar (tupI B),?_,hs e⟩;exact(a9 (fJ K)).trans ((a9 (fJ O)).trans (Aq (R.trans (by rw[Nb (Z.mpr e)];rfl))))
 ·refine⟨P.filter (λc=> !decide (c=A\/c=B))++[sortI (A++B)],ar (tupI A),ar (tupI B),?_,pi e⟩;have N:=mj (α:=List Int) (l:=P) (mk:=tupI) (f:=tupI) (mi:=cg (mV 1)) (g:=gN 0) (t:=dX) (m:=dY) (js:=[none,ar 4,ar 5]) (ρ:=kd n E P [ar (.int a),ar (.int b),ar (tupI A),ar (tupI B)]) (λρ=>∃x,ρ=[x,ar (tupI A),ar (tupI B)]) (λc=> !decide (c=A\/c=B)) rfl (by unfold lim;omega) ⟨none,rfl⟩
   (λc N ρ Y=>by obtain⟨x,rfl⟩:=Y;exact⟨[ar (tupI c),ar (tupI A),ar (tupI B)],rfl,⟨_,rfl⟩,eu (x:=tupI c) (y:=.tup [tupI A,tupI B]) rfl (by show(ae _ _ _>>=bH)=_;rw[aP (e:=mV 1) (x:=tupI A) rfl (aP (e:=mV 2) (x:=tupI B) rfl (es:=ak) rfl),ah];unfold bH;exact if_pos pq) BO,λ_=>rfl⟩) (bU _)
  have e1:=mM (e:=aU bK (mV 4) (mV 5)) (ρ:=kd n E P [ar (.int a),ar (.int b),ar (tupI A),ar (tupI B)]) (x:=tupI (A++B)) ((b7 (x:=tupI A) (y:=tupI B) rfl rfl).trans (by show bH (A.map D.int++B.map D.int)=_;unfold bH;rw[if_pos (by rw[MT,MS,MS];unfold lim;omega), <-NC];rfl))
  have e2:aL (di gX (aL (aU bK (mV 4) (mV 5)))) (kd n E P [ar (.int a),ar (.int b),ar (tupI A),ar (tupI B)])=aC (.fz ((sortI (A++B)).map D.int)):=by
   unfold aL;have U:iD (aU bK (mV 4) (mV 5) (kd n E P [ar (.int a),ar (.int b),ar (tupI A),ar (tupI B)]))=aC (tupI (A++B)):=e1;have:di gX (λρ=>iD (aU bK (mV 4) (mV 5) ρ)) (kd n E P [ar (.int a),ar (.int b),ar (tupI A),ar (tupI B)])=bj ((sortI (A++B)).map D.int):=by rw[fA U];show(match intsOf ((A++B).map D.int)with|some ns=>if ns.length<64 then bj ((sortI ns).map D.int)else M.fail|none=>_)=_;rw[mO];exact if_pos (by rw[MT];omega)
   rw[this];exact bR (fh _) (by rw[MS,(sortI_perm _).length_eq,MT];unfold lim;omega)
  have I:=things (us:=[tupI (sortI (A++B))]) (aP ((fA e2).trans (lq (by rw[MS,(sortI_perm _).length_eq,MT];unfold lim;omega))) (es:=ak) rfl) (bU [sortI (A++B)]) (by show 1<=50;decide);have G:aL (aU bK (aL (aW (cg (mV 1)) (gN 0) dX dY [none,ar 4,ar 5])) (aL (bc (ae (di cK (aL (di gX (aL (aU bK (mV 4) (mV 5)))))) ak)))) (kd n E P [ar (.int a),ar (.int b),ar (tupI A),ar (tupI B)])=aC (.fz ((P.filter (λc=> !decide (c=A\/c=B))++[sortI (A++B)]).map tupI)):=by have Q:aU bK (aL (aW (cg (mV 1)) (gN 0) dX dY [none,ar 4,ar 5])) (aL (bc (ae (di cK (aL (di gX (aL (aU bK (mV 4) (mV 5)))))) ak))) (kd n E P [ar (.int a),ar (.int b),ar (tupI A),ar (tupI B)])=bj ((P.filter (λc=> !decide (c=A\/c=B))++[sortI (A++B)]).map tupI):=(b7 N I).trans (by rw[NC];rfl);unfold aL at Q⊢;rw[Q];refine bR (bU _) ?_;have:=Np (λc=> !decide (c=A\/c=B)) P;rw[MS,MT];show _+1<=lim;unfold lim;omega
  exact(a9 (fJ K)).trans ((a9 (fJ O)).trans ((dI R).trans ((if_pos (by rw[Nv λz=>e (Z.mp z)];rfl)).trans (fJ G))))
theorem Ep{its:List D}(S:n<=14)(w:WebOk n E):∀(R T:List (List Int)) (L:List Int) (P:List (List Int)) (x2 x3 x4 x5:Option D),(∀t∈R,t∈E)->(∀t∈T,t∈E)->Lab n E T L->PI n L P->∃P' X W Y U,eQ ⟨its,.none⟩ (dH 2 (aY (gN 2) (aY (gN 3) dQ))) dZ (R.map tupI) (kd n E P [x2,x3,x4,x5])=aC (.nx (kd n E P' [X,W,Y,U]))/\PI n (R.foldl dC L) P'
 |[],T,L,P,x2,x3,x4,x5,_,_,_,h=>⟨P,x2,x3,x4,x5,gS,h⟩
 | t::R,T,L,P,x2,x3,x4,x5,hR,hT,l,h=>by
  obtain⟨a,b,rfl,a0,ab,bn⟩:=w.el t (hR t (.head _));obtain⟨J,O,K,e,H⟩:=K1 (x4:=x4) (x5:=x5) S l h a0 (by omega) (show 0<=b by omega) bn;obtain⟨I,X,W,Y,U,N,Q⟩:=Ep (its:=its) S w R ([a,b]::T) (dC L [a,b]) J (ar (.int a)) (ar (.int b)) O K (λt Z=>hR t (.tail _ Z)) (λt Z=>by
   rcases M9.mp Z with rfl|Z
   ·exact hR _ (.head _)
   ·exact hT t Z) (l.step w (hR _ (.head _)) hT) H
  exact⟨I,X,W,Y,U,(vo rfl e).trans N,Q⟩
theorem Ax:∀(R:List (List Int)) (L:List Int),(∀t∈R,∃a b:Int,t=[a,b])->(∀p:Int,0<=p->p<L.length->gI L p<=p)->∀p:Int,0<=p->p<(R.foldl dC L).length->gI (R.foldl dC L) p<=p
 |[],L,_,h=>h
 | t::R,L,hR,h=>by
  obtain⟨a,b,rfl⟩:=hR t (.head _);refine Ax R (dC L [a,b]) (λt X=>hR t (.tail _ X)) λp Z pn=>?_;have Y:(dC L [a,b]).length=L.length:=by show(L.map _).length=_;rw[MS]
  rw[Y]at pn;have:=h p Z pn;show gI (L.map _) p<=p;rw[yB Z pn];by_cases q:gI L p=(if gI L b>gI L a then gI L b else gI L a)
  ·rw[if_pos q];split at q<;>split<;>omega
  ·rw[if_neg q];exact this
theorem low(w:WebOk n E){p:Int}(Z:0<=p)(pn:p<n):gI (cM n E) p<=p:=by refine Ax E (vN n) (λt Y=>by obtain⟨a,b,e,_⟩:=w.el t Y;exact⟨a,b,e⟩) (λp Z pn=>?_) p Z (by rw[show(E.foldl dC (vN n)).length=n from(Ap w).len];exact pn);unfold vN at pn⊢;rw[MS,M0]at pn;unfold gI;rw[M5,Nn,Oi (by omega)];show((p.toNat:Nat):Int)<=p;omega
theorem sg(w:WebOk n E){h:Nat}(Y:h∈heads n (cM n E)):∃r,cW n (cM n E) h=(h:Int)::r:=by
 obtain⟨T,X⟩:=Av.mp Y;have hm:(h:Int)∈cW n (cM n E) h:=gT.mpr ⟨by omega,by omega,X⟩;have Z:=oz (n:=n) (L:=cM n E) h;cases hc:cW n (cM n E) h with
 |nil=>rw[hc]at hm;cases hm
 | cons x r=>
  rw[hc]at hm Z;have W:x∈cW n (cM n E) h:=by rw[hc];exact .head _
  obtain⟨x0,U,q⟩:=gT.mp W;have:=low w x0 U;rcases M9.mp hm with e|e
  ·exact⟨r,by rw[e]⟩
  ·have:=(NU.mp Z).1 _ e;omega
theorem yD(w:WebOk n E):((heads n (cM n E)).map (cW n (cM n E))).Pairwise Dh:=by refine Pa.mpr (QR (λ{x y} hx hy hlt=>?_) ((PK (n:=n)).sublist Po));obtain⟨r,e1⟩:=sg w hx;obtain⟨s,e2⟩:=sg w hy;show HT.lexLt _ _=dt;rw[e1,e2,HT.lexLt_cons,if_neg (by omega),Nv (by omega)]
theorem Jj(I:n<=14)(w:WebOk n E):dF [aS n E]=aC (.fz (lr n (cM n E))):=by
 have O:(dr n).map (λi:Nat=>D.tup [.int (i:Int)])=(((dr n).map λi:Nat=>[(i:Int)])).map tupI:=by rw[Nl];rfl
 have Q:=mj (α:=Nat) (l:=dr n) (mk:=λi:Nat=>D.int (i:Int)) (f:=λi:Nat=>D.tup [.int (i:Int)]) (mi:=iY (aU cZ (mV 0) (mK (.int 0)))) (g:=gN 0) (t:=gz) (m:=gC) (js:=[none]) (ρ:=[ar (aS n E),none,none,none,none,none]) (λρ=>∃x,ρ=[x]) (λ_=>b_) (pY rfl (by omega)) (by rw[M0];unfold lim;omega) ⟨none,rfl⟩
  (λp Y ρ W=>by obtain⟨x,rfl⟩:=W;refine⟨[ar (.int p)],rfl,⟨_,rfl⟩,rfl,λ_=>?_⟩;show(ae _ _ _>>=bH)=_;rw[aP (e:=mV 0) (x:=.int p) rfl (es:=ak) rfl,ah];unfold bH;exact if_pos (by show 1<=lim;unfold lim;omega)) (by rw[dz,O];exact bU _)
 rw[dz,O]at Q;have h0:PI n (vN n) ((dr n).map λi:Nat=>[(i:Int)]):=by
  have T:∀p,p<n->gI (vN n) (p:Int)=p:=λp Y=>by unfold gI vN;rw[M5,Nn,Oi (by omega)];show((_:Nat):Int)=_;omega
  have U:heads n (vN n)=dr n:=Qm.mpr λp Y=>Nb (T p (Na.mp Y));unfold PI;rw[U];refine .of_eq (Om λi K=>?_);unfold cW;rw[Pb (q:=λp=>decide (p=i)) λp Y=>by rw[T p (Na.mp Y),P7];omega,w5 Q5 K];rfl
 obtain⟨P,R,N,S,L,hf,X⟩:=Ep (its:=E.map tupI) I w E [] (vN n) _ none none none none (λt h=>h) (λt h=>by cases h) wW h0;have J:iu (cg (aU cZ (mV 0) (mK (.int 1)))) (dH 2 (aY (gN 2) (aY (gN 3) dQ))) dZ (kd n E ((dr n).map λi:Nat=>[(i:Int)]) [none,none,none,none])=aC (.nx (kd n E P [R,N,S,L])):=by unfold iu;rw[show cg (aU cZ (mV 0) (mK (.int 1))) (kd n E ((dr n).map λi:Nat=>[(i:Int)]) [none,none,none,none])=aC ⟨E.map tupI,.none⟩from rfl,ah];exact hf
 have X:PI n (cM n E) P:=X;have Z:fO P=(heads n (cM n E)).map (cW n (cM n E)):=jG ((bM P).trans X) (du P) (yD w);have G:=Eo X;have hs:aL (di cb (mV 1)) (kd n E P [R,N,S,L])=aC (.fz (lr n (cM n E))):=by
  unfold aL;rw[fA (x:=.fz (P.map tupI)) rfl];have:cb [.fz (P.map tupI)]=bj ((fO P).map tupI):=w6 (λr H=>by obtain⟨h,U,rfl⟩:=Nm.mp (X.mem_iff.mp H);obtain⟨s,e⟩:=sg w U;rw[e];exact Nat.zero_lt_succ _) (by omega)
  rw[this,Z, <-oA];refine bR (by rw[oA];exact bU _) ?_;rw[oA,MS, <-Z,(bM P).length_eq];unfold lim;omega
 refine fq (o:=.ret (.fz (lr n (cM n E)))) ?_ rfl;exact(a9 (ρ':=kd n E ((dr n).map λi:Nat=>[(i:Int)]) [none,none,none,none]) (fJ Q)).trans ((a9 J).trans (eN hs))
end
theorem vy(Z:bF 0 a=b_)(Y:bF 0 b=b_):bF 0 (a++b)=true:=by
 induction a with
 |nil=>exact Y
 |cons x a ih=>
  unfold bF at Z;rw[ND]at Z;rw[L0];unfold bF;rw[Z.1,ih Z.2];rfl
theorem Er{e:TM}{ρ:aI}{S S1:av}(h:e ρ S=ar (.ok (.bl b_),S1)):eR (bV e) ρ S=ar (.ok dt,S1):=by show((e ρ>>=lS)>>=λb=>aC (!b)) S=_;rw[aD (show(e ρ>>=lS) S=ar (.ok b_,S1) by rw[aD h];rfl)];rfl
theorem Es{t:gM}{m:cY}{ρ:aI}{S S1:av}(h:t ρ S=ar (.ok dt,S1)):lI t m fS ρ S=ar (.ok (.nx ρ),S1):=(Aa h).trans (if_neg (by decide))
theorem mE{e:TM}{ρ:aI}{S:av}{p:Nat}{us:List D}(h:e ρ=aC (.lst p))(Z:S[p]? =ar us):cg e ρ S=ar (.ok ⟨us,.some p⟩,S):=by unfold cg;rw[h,ah];show(getL p>>=_) S=_;rw[aD (cH Z)];rfl
section
variable {n:Nat}{E:List (List Int)}{a0 a1 a2 x5 x6 x7 x8:Option D}
def ku(n:Nat)(E:List (List Int)):List D:=(gj n E).map D.fz
theorem Gh{p:Nat}{ρ:aI}(U:n<=14)(X:mV 3 ρ=aC (aS n E))(W:gU [none,ar 3,ar 5] ρ=[none,ar (aS n E),ar (.int p)]):aL (aW (iY (aU cZ (mV 3) (mK (.int 0)))) (gN 0) nZ n0 [none,ar 3,ar 5]) ρ=aC (.fz ((gZ n E p).map D.int)):=by
 have Y:=mj (α:=Nat) (l:=dr n) (mk:=λi:Nat=>D.int (i:Int)) (f:=λq:Nat=>D.int (q:Int)) (mi:=iY (aU cZ (mV 3) (mK (.int 0)))) (g:=gN 0) (t:=nZ) (m:=n0) (js:=[none,ar 3,ar 5]) (ρ:=ρ) (λρ=>∃x,ρ=[x,ar (aS n E),ar (.int p)]) (λq:Nat=>tB E (p:Int) (q:Int)) (pY ((b7 X (y:=.int 0) rfl).trans rfl) (by omega)) (by rw[M0];unfold lim;omega) ⟨none,W⟩
  (λq T ρ Z=>by obtain⟨x,rfl⟩:=Z;exact⟨[ar (.int q),ar (aS n E),ar (.int p)],rfl,⟨_,rfl⟩,il (mM ((D4 rfl rfl rfl).trans Am)),λ_=>rfl⟩) (vn (λq:Nat=>(q:Int)) _)
 rw[wY]at Y;exact Y
theorem Ay{its:List D}{S:av}(X:n<=14):∀(post:List Nat) (acc:List D) (x5:Option D),acc.length+post.length<=100->∃Z,eQ ⟨its,.none⟩ (gN 5) n4 (post.map λi:Nat=>D.int (i:Int)) [a0,a1,a2,ar (aS n E),ar (.lst S.length),x5,x6,x7,x8] (S++[acc])=ar (.ok (.nx [a0,a1,a2,ar (aS n E),ar (.lst S.length),Z,x6,x7,x8]),S++[acc++post.map λp=>D.fz ((gZ n E p).map D.int)])
 |[],acc,x5,_=>⟨x5,by rw[Oo,Oo,NL,gS];rfl⟩
 |p::post,acc,x5,Y=>by
  have Y:acc.length+(post.length+1)<=100:=Y;have U:=Gh (E:=E) (p:=p) (ρ:=[a0,a1,a2,ar (aS n E),ar (.lst S.length),ar (.int p),x6,x7,x8]) X rfl rfl;obtain⟨Z,W⟩:=Ay (its:=its) (S:=S) X post (acc++[.fz ((gZ n E p).map D.int)]) (ar (.int p)) (by rw[MT];show acc.length+1+post.length<=100;omega);refine⟨Z,?_⟩;have T:n4 [a0,a1,a2,ar (aS n E),ar (.lst S.length),ar (.int p),x6,x7,x8] (S++[acc])=ar (.ok (.nx [a0,a1,a2,ar (aS n E),ar (.lst S.length),ar (.int p),x6,x7,x8]),S++[acc++[.fz ((gZ n E p).map D.int)]]):=rN ((rW (x:=.lst S.length) rfl rfl (Nt U _)).trans (Ef (by omega)));rw[Nh]at W;exact(kc rfl T).trans W
theorem vz{k:Nat}{l:List Int}:∀x∈l.map D.int,a8 (k+1) [x,x]=aC (.bl b_):=λx Z=>by obtain⟨i,_,rfl⟩:=Nm.mp Z;exact same_int
theorem Az(T:n<=14):∀v∈ki n E,v.length<=1000/\∀x∈v,a8 4 [x,x]=aC (.bl b_):=λv Z=>by
 have W:(heads n (cM n E)).length<=n:=M7 (Np _ _) (by rw[M0];exact MV _);unfold ki at Z;rcases NA.mp Z with Z|Z
 ·unfold gj at Z;obtain⟨p,U,rfl⟩:=Nm.mp Z;have:=Ar (n:=n) (E:=E) p;exact⟨by rw[MS];omega,vz⟩
 ·simp only[f_,eK,or_false]at Z;rcases Z with rfl|rfl
  ·exact⟨by unfold dl;rw[MS,MS,M0];omega,vz⟩
  ·rw[oA];refine⟨by rw[MS,MS];omega,λx X=>?_⟩;obtain⟨c,Y,rfl⟩:=Nm.mp X;obtain⟨h,_,rfl⟩:=Nm.mp Y;have:=vw (n:=n) (L:=cM n E) h;exact om (by rw[MS];omega) vz
theorem t4:∀{l:List D} {q:D×D},q∈l.zip l->q.1=q.2/\q.1∈l
 |[],q,h=>by cases h
 | x::l,q,h=>by
  rw[O0]at h;rcases M9.mp h with rfl|h
  ·exact⟨rfl,.head _⟩
  ·obtain⟨Z,Y⟩:=t4 h;exact⟨Z,.tail _ Y⟩
theorem Et{k p:Nat}{S:av}{v:List D}(X:S[p]? =ar v)(Z:v.length<=1000)(h:∀x∈v,a8 k [x,x]=aC (.bl b_)):a8 (k+1) [.lst p,.fz v] S=ar (.ok (.bl b_),S):=
 Ei X rfl Z λq U=>by obtain⟨Y,W⟩:=t4 U;rw[<-Y,h _ W];rfl
theorem AA{S:av}:∀{fs:List Nat} {vs:List (List D)} {q:D×D},fs.map (λf=>S[f]?)=vs.map ar->q∈(fs.map D.lst).zip (vs.map D.fz)->∃f v,q=(.lst f,.fz v)/\S[f]? =ar v/\v∈vs
 |[],[],q,_,h=>by cases h
 | f::fs,v::vs,q,e,h=>by
  rw[Nd,Nd]at e;obtain⟨e1,e2⟩:=NF e;rw[Nd,Nd,O0]at h;rcases M9.mp h with rfl|h
  ·exact⟨f,v,rfl,e1,.head _⟩
  ·obtain⟨X,U,Y,W,Z⟩:=AA e2 h;exact⟨X,U,Y,W,.tail _ Z⟩
 |[],_::_,_,e,_=>by cases e
 |_::_,[],_,e,_=>by cases e
theorem Eu:∀l:List (List Int),bF 0 (l.map λr=>D.fz (r.map D.int))=b_
 |[]=>rfl
 |r::l=>by
  rw[Nd];unfold bF fi;rw[fh,Eu l];rfl
theorem pD:ku n E=((dr n).map (gZ n E)).map λr=>D.fz (r.map D.int):=by unfold ku gj;rw[Nl,Nl];rfl
theorem Gi{T:av}{q:Nat}{ρ:aI}(Q:n<=14)(w:WebOk n E)(U:mV 4 ρ=aC (.lst q))(X:T[q]? =ar (ku n E)):aL (aW (cg (mV 4)) (gN 0) iW iX [none]) ρ T=ar (.ok (.fz ((dl n E).map D.int)),T):=by
 have hlen:(ku n E).length=n:=by rw[pD,MS,MS,M0]
 have Y:=vt (it:=⟨ku n E,.some q⟩) (g:=gN 0) (t:=iW) (m:=iX) (f:=λd=>match d with| .fz r=>.int r.length|d=>d) (S:=T) (R:=λρ=>∃x,ρ=[x]) X (ku n E) (gU [none] ρ) ⟨none,rfl⟩ (λd hd ρ Z=>by obtain⟨x,rfl⟩:=Z;rw[pD]at hd;obtain⟨r,P,rfl⟩:=Nm.mp hd;exact⟨[ar (.fz (r.map D.int))],rfl,⟨_,rfl⟩,rfl,rfl⟩)
 have e:(ku n E).map (λd=>match d with| .fz r=>D.int r.length|d=>d)=(dl n E).map D.int:=by rw[pD];unfold dl;rw[Nl,Nl,Nl];refine Om λp W=>?_;show D.int (((gZ n E p).map D.int).length:Int)=D.int ((vj E p:Nat):Int);rw[MS,Ej w (Na.mp W)]
 rw[e]at Y;refine qo ?_ (fh _);unfold aW;rw[aD (mE U X)];unfold dq;rw[if_pos (show(ku n E).length<=lim by rw[hlen];unfold lim;omega),aD Y];exact cA (by unfold dl;rw[MS,MS,M0];unfold lim;omega)
theorem Jk{T:av}{q:Nat}{ρ:aI}(X:n<=14)(w:WebOk n E)(S:mV 3 ρ=aC (aS n E))(U:mV 4 ρ=aC (.lst q))(W:T[q]? =ar (ku n E)):aL (aU bK (mV 4) (aL (bc (ae (aL (aW (cg (mV 4)) (gN 0) iW iX [none])) (ae (aL (az dF (ae (mV 3) ak))) ak))))) ρ T=ar (.ok (.fz ((ki n E).map D.fz)),T):=by
 have hlen:(ku n E).length=n:=by rw[pD,MS,MS,M0]
 have Y:bF 0 (lr n (cM n E))=true:=by rw[oA];exact bU _
 have Z:bF 0 [D.fz ((dl n E).map D.int),.fz (lr n (cM n E))]=true:=by unfold bF fi;rw[fh];unfold bF fi;rw[Y];rfl
 have R:aL (bc (ae (aL (aW (cg (mV 4)) (gN 0) iW iX [none])) (ae (aL (az dF (ae (mV 3) ak))) ak))) ρ T=ar (.ok (.fz [.fz ((dl n E).map D.int),.fz (lr n (cM n E))]),T):=
  qo (ju (bO (Gi X w U W) (bO (Nt (mM ((d9 S).trans (Jj X w))) T) (es:=ak) rfl)) pq) Z
 have Q:(ki n E).map D.fz=ku n E++[D.fz ((dl n E).map D.int),.fz (lr n (cM n E))]:=by unfold ki;rw[NC];rfl
 rw[Q];refine qo ?_ (vy (by rw[pD];exact Eu _) Z);rw[fR (Nt U T) R];show(getL q>>=λxs=>bj (xs++_)) T=_;rw[aD (cH W)];exact cA (by rw[MT,hlen];show n+2<=lim;unfold lim;omega)
theorem GZ{S:av}{k q:Nat}(X:n<=14)(w:WebOk n E)(hs:eB S k)(L:S[q]? =ar (ku n E)):∃y7 T S1,ll [a0,a1,a2,ar (aS n E),ar (.lst q),x5,x6,x7,x8] S=ar (.ok (.nx [a0,a1,a2,ar (aS n E),ar (.lst q),x5,x6,y7,T]),S1)/\Kp k S S1:=by
 have P:q<S.length:=(MX.mp L).1;obtain⟨G,p,U,e1,F⟩:=El (ρ:=[a0,a1,a2,ar (aS n E),ar (.lst q),x5,x6,x7,x8]) X w rfl rfl S;have Q:(S++G)[q]? =ar (ku n E):=by rw[Nk P];exact L
 have e2:=Jk (ρ:=[a0,a1,a2,ar (aS n E),ar (.lst q),x5,x6,ar (.lst p),x8]) X w rfl rfl Q;have R:U.length=(ki n E).length:=by have:=Pf F_ F.rd;rw[MS,MS]at this;exact this
 have O:(ki n E).length=n+2:=by unfold ki gj;rw[MT,MS,M0];rfl
 have Z:cD [.lst p,.fz ((ki n E).map D.fz)] (S++G)=ar (.ok (.bl b_),S++G):=
  Ei (k:=5) F.here (by rw[MS,MS,R]) (by rw[MS,O];omega) λz K=>by obtain⟨f,v,rfl,A,B⟩:=AA F.rd K;have W:=Az X v B;exact Et (k:=4) A W.1 W.2
 have J:aL (az cD (ae (mV 7) (ae (aL (aU bK (mV 4) (aL (bc (ae (aL (aW (cg (mV 4)) (gN 0) iW iX [none])) (ae (aL (az dF (ae (mV 3) ak))) ak)))))) ak))) [a0,a1,a2,ar (aS n E),ar (.lst q),x5,x6,ar (.lst p),x8] (S++G)=ar (.ok (.bl b_),S++G):=by refine Ae ?_;show(ae _ _ _>>=cD) _=_;rw[aD (bO (x:=.lst p) (S1:=S++G) rfl (bO e2 (es:=ak) rfl))];exact Z
 have C:∀f∈U,∃xs,(S++G)[f]? =ar xs/\xs.length<=1000:=λf hf=>by
  have:(S++G)[f]? ∈(ki n E).map some:=by rw[<-F.rd];exact Nm.mpr ⟨f,hf,rfl⟩
  obtain⟨v,W,e⟩:=Nm.mp this;exact⟨v,e.symm,(Az X v W).1⟩
 obtain⟨T,S1,H,I,o4⟩:=Au (a0:=a0) (a1:=a1) (a2:=a2) (a3:=ar (aS n E)) (a4:=ar (.lst q)) (a5:=x5) (a6:=x6) (a7:=ar (.lst p)) U (S++G) x8 F.here F.np F.nd C;have Y:∀i,i<S.length->S1[i]? =S[i]? :=λi N=>by rw[o4 i λz=>by have:=F.fb i z;omega,Nk N]
 refine⟨ar (.lst p),T,S1,?_,⟨by rw[I,MT];omega,λi N _=>Y i N,?_⟩⟩
 ·unfold ll;exact(aQ (ρ':=[a0,a1,a2,ar (aS n E),ar (.lst q),x5,x6,ar (.lst p),x8]) (b9 e1)).trans ((aQ (Es (Er J))).trans (F8 (mE rfl F.here) H))
 ·obtain⟨st,b,e,r⟩:=id hs;exact⟨st,b,by rw[Y k hs.lt];exact e,r⟩
end
theorem getD_at{z:List Int}{a:Nat}(h:a<z.length):z.getD a 0=z[a]:=by rw[M5,MY h];rfl
theorem sh{z:List Int}{a:Nat}(h:a<z.length):z.getD a 0∈z:=by rw[getD_at h];exact Oe h
section
variable {z:List Int}
theorem oB{x:Int}(h:x∈z):z.idxOf x<z.length/\z.getD (z.idxOf x) 0=x:=by have Z:=List.idxOf_lt_length_of_mem h;exact⟨Z,by rw[getD_at Z];exact List.getElem_idxOf Z⟩
theorem vA(X:z.Pairwise (· <·)){a b:Nat}(Z:a<b)(Y:b<z.length):z.getD a 0<z.getD b 0:=by rw[getD_at Y,getD_at (by omega)];exact Pd.mp X a b (by omega) Y Z
theorem yE(X:z.Pairwise (· <·)){x y:Int}(T:x∈z)(U:y∈z)(h:x<y):z.idxOf x<z.idxOf y:=by
 obtain⟨W,Z⟩:=oB T;obtain⟨S,Y⟩:=oB U;rcases O9 (z.idxOf x) (z.idxOf y)with c|c|c
 ·exact c
 ·rw[c,Y]at Z;omega
 ·have:=vA X c W;rw[Z,Y]at this;omega
theorem Ew(Z:z.Pairwise (· <·)){a:Nat}(h:a<z.length):z.idxOf (z.getD a 0)=a:=by
 have hm:=sh h;obtain⟨Y,X⟩:=oB hm;rcases O9 (z.idxOf (z.getD a 0)) a with c|c|c
 ·have:=vA Z c h;omega
 ·exact c
 ·have:=vA Z c Y;omega
end
theorem Jl{a b c d:Int}:HT.lexLt [a,b] [c,d]=b_↔a<c\/(a=c/\b<d):=by
 rw[HT.lexLt_cons];by_cases e:a=c
 ·rw[if_pos e,HT.lexLt_cons];by_cases f:b=d
  ·rw[if_pos f];exact⟨(λh=>by cases h),λh=>by omega⟩
  ·rw[if_neg f,Nu];exact⟨λh=>.inr ⟨e,h⟩,λh=>by omega⟩
 ·rw[if_neg e,Nu];exact⟨λh=>.inl h,λh=>by omega⟩
def B7(z t:List Int):Bool:=iI (t.getD 0 0) z && iI (t.getD 1 0) z
def Lk(z t:List Int):List Int:=[((z.idxOf (t.getD 0 0):Nat):Int),((z.idxOf (t.getD 1 0):Nat):Int)]
def g0(L:List (List Int))(z:List Int):List (List Int):=(L.filter (B7 z)).map (Lk z)
section
variable {α:Type}{l:List α}{mk:α->D}{mi:aI->M Iter}{g:oH}{t:gM}{m:TM}{ρ:aI}{js:List (Option Nat)}
theorem Ey{e:TM}{f:α->Bool}(h:e ρ=aC (.fz (l.map λa=>D.bl (f a)))):di qP e ρ=aC (.bl (l.all f)):=by
 have e1:(l.map λa=>D.bl (f a))=(l.map f).map D.bl:=by rw[Nl];rfl
 rw[e1]at h;refine(fA h).trans (rQ.trans ?_);rw[PZ];rfl
theorem Jm(f:α->Bool)(l:List α):bF 0 (l.map λa=>D.bl (f a))=true:=by have:=rM (l.map f);rw[Nl]at this;exact this
theorem si(f:α->Bool)(R:aI->Prop)(Q:mi ρ=aC ⟨l.map mk,.none⟩)(X:l.length<=lim)(W:R (gU js ρ))(N:∀a∈l,∀ ρ,R ρ->∃Z,g (mk a) ρ=aC Z/\R Z/\t Z=aC b_/\m Z=aC (.bl (f a))):
  di qP (aL (aW mi g t m js)) ρ=aC (.bl (l.all f)):=by
 have h:=mj (f:=λa=>D.bl (f a)) R (λ_=>b_) Q X W (λa P ρ Y=>by obtain⟨Z,T,S,U,O⟩:=N a P ρ Y;exact⟨Z,T,S,U,λ_=>O⟩) (by rw[dz];exact Jm f l)
 rw[dz]at h;exact Ey h
theorem Gj{d d1:D}(Z:α->α->Bool)(hs:aL (wo (mV 0) (oS (mK (.int 1))) oN) [ar d]=aC d1)(W:tN [d,d1]=aC ⟨(l.zip (l.drop 1)).map λp=>D.tup [mk p.1,mk p.2],.none⟩)(X:∀a b,A1 (mk a) (mk b)=aC (.bl (Z a b)))(U:l.length<=1000):
  dw [d]=aC (.bl ((l.zip (l.drop 1)).all λp=>Z p.1 p.2)):=by
 refine fq (o:=.ret (.bl ((l.zip (l.drop 1)).all λp=>Z p.1 p.2))) (eN (si (α:=α×α) (l:=l.zip (l.drop 1)) (mk:=λp=>D.tup [mk p.1,mk p.2]) (λp=>Z p.1 p.2) (λρ=>∃x y,ρ=[x,y]) ?_ ?_ ⟨none,none,rfl⟩ λp T ρ Y=>?_)) rfl
 ·show(ae (mV 0) (ae (aL (wo (mV 0) (oS (mK (.int 1))) oN)) ak) [ar d]>>=tN)=_;rw[aP (x:=d) rfl (aP hs (es:=ak) rfl),ah];exact W
 ·rw[Qn];unfold lim;omega
 ·obtain⟨x,y,rfl⟩:=Y;exact⟨[ar (mk p.1),ar (mk p.2)],rfl,⟨_,_,rfl⟩,rfl,(b7 (x:=mk p.1) (y:=mk p.2) rfl rfl).trans (X _ _)⟩
end
theorem w8(x:Int):∀z:List Int,x∈z->(z.map rn).findIdx? (λy=>f' y (.int x))=ar (z.idxOf x)
 |[],h=>by cases h
 | r::rs,h=>by
  have e:f' (.int r) (.int x)=decide (r=x):=by simp only[f'];rfl
  rw[Nd,List.findIdx?_cons,e,List.idxOf_cons];by_cases hr:r=x
  ·rw[if_pos (Nb hr),beq_iff_eq.mpr hr];rfl
  ·rw[if_neg (by rw[Nu];exact hr),beq_false_of_ne hr,w8 x rs ((M9.mp h).resolve_left λz=>hr z.symm)];rfl
theorem t5{x:Int}{z:List Int}(h:x∈z):mJ (tupI z) [.int x]=aC (.int (z.idxOf x)):=by funext S;unfold mJ;dsimp only;rw[iH,jk];unfold iG;dsimp only;rw[w8 x z h];rfl
theorem vB{e1 e2:TM}{ρ:aI}{x y:Int}(Z:e1 ρ=aC (.int x))(Y:e2 ρ=aC (.int y)):ft (ae e1 (ae e2 ak)) ρ=aC (tupI [x,y]):=by show(ae _ _ _>>=bH)=_;rw[aP Z (aP Y (es:=ak) rfl),ah];unfold bH;exact if_pos pq
theorem K2{e1 e2:TM}{ρ:aI}{m:Nat}{T:List (List Int)}(Z:e1 ρ=aC (.int m))(Y:e2 ρ=aC (.tup (T.map tupI))):ft (ae e1 (ae e2 ak)) ρ=aC (aS m T):=by show(ae _ _ _>>=bH)=_;rw[aP Z (aP Y (es:=ak) rfl),ah];unfold bH;exact if_pos pq
section
variable {n:Nat}{E:List (List Int)}{z:List Int}
theorem BP(Z:z.length<=1000):dw [tupI z]=aC (.bl ((z.zip (z.drop 1)).all λp=>decide (p.1<p.2))):=by
 exact Gj (l:=z) (mk:=D.int) (d:=tupI z) (d1:=tupI (z.drop 1)) (λa b=>decide (a<b)) (by
  refine mM (?_ :bH (S3.cutD (z.map D.int) (ar 1) none)=_);rw[KL, <-List.map_drop];unfold bH;exact if_pos (by rw[MS,Ot];unfold lim;omega)) (by
  show(aC (⟨((z.map D.int).zip ((z.drop 1).map D.int)).map (λp=>D.tup [p.1,p.2]),.none⟩:Iter):M Iter)=_;rw[List.zip_map,Nl];rfl) (λa b=>rfl) Z
theorem yF{m:Nat}(Y:z.length<=1000):bZ [.int m,tupI z]=aC (.bl ((z.all λx=>ez m (.int x)) && (z.zip (z.drop 1)).all λp=>decide (p.1<p.2))):=by
 have h:=si (l:=z) (mk:=D.int) (mi:=cg (mV 1)) (g:=gN 0) (t:=f7) (m:=f9) (js:=[none,ar 0]) (ρ:=[ar (.int m),ar (tupI z)]) (λx=>ez m (.int x)) (λρ=>∃x,ρ=[x,ar (.int m)]) rfl (by unfold lim;omega) ⟨none,rfl⟩ λx X ρ Z=>by obtain⟨y,rfl⟩:=Z;exact⟨[ar (.int x),ar (.int m)],rfl,⟨_,rfl⟩,rfl,mM ((call2 rfl rfl).trans (oh rfl))⟩
 refine fq (o:=.ret _) (eN (and_eq (b:=b_) rfl (λ_=>and_eq h (λq=>?_) (λq=>?_)) (λh=>by cases h))) rfl
 ·rw[q,O8];exact mM ((d9 rfl).trans (BP Y))
 ·rw[q,OU]
theorem Ez{α:Type}{R:α->α->Prop}:∀{l:List α},l.Pairwise R->∀p∈l.zip (l.drop 1),R p.1 p.2
 |[],_,p,hp=>by cases hp
 |[_],_,p,hp=>by cases hp
 |a::b::r,h,p,hp=>by
  obtain⟨Z,Y⟩:=NU.mp h;rcases M9.mp (show p∈(a,b)::(b::r).zip r from hp)with rfl|hp
  ·exact Z b (.head _)
  ·exact Ez Y p hp
theorem BQ{m:Nat}(Y:z.Pairwise (· <·))(W:∀x∈z,0<=x/\x<m)(Z:z.length<=1000):bZ [.int m,tupI z]=aC (.bl b_):=by
 rw[yF Z,Nx.mpr λx X=>?_,Nx.mpr λp U=>Nb (Ez Y p U)]
 ·rfl
 ·have:=W x X;show(decide (0<=x) && decide (x<m))=b_;rw[Nb this.1,Nb this.2];rfl
theorem Gk{m:Nat}{us:List D}(h:∀x∈us,zW x)(Y:∃x∈us,ez m x=dt)(U:us.length<=1000):bZ [.int m,.tup us]=aC (.bl dt):=by
 have h:=si (l:=us) (mk:=λd=>d) (mi:=cg (mV 1)) (g:=gN 0) (t:=f7) (m:=f9) (js:=[none,ar 0]) (ρ:=[ar (.int m),ar (.tup us)]) (λx=>ez m x) (λρ=>∃x,ρ=[x,ar (.int m)]) (by rw[List.map_id'];rfl) (by unfold lim;omega) ⟨none,rfl⟩ λx Y ρ Z=>by obtain⟨y,rfl⟩:=Z;exact⟨[ar x,ar (.int m)],rfl,⟨_,rfl⟩,rfl,mM ((call2 rfl rfl).trans (oh (h x Y)))⟩
 have hf:us.all (λx=>ez m x)=false:=by obtain⟨x,X,W⟩:=Y;rw[List.all_eq_false];exact⟨x,X,by rw[W];decide⟩
 rw[hf]at h;exact fq (o:=.ret (.bl dt)) (eN (and_eq (b:=b_) rfl (λ_=>and_eq h (λq=>by cases q) λ_=>rfl) (λh=>by cases h))) rfl
theorem BR{d:D}(Y:n<=14)(w:WebOk n E)(h:bZ [.int n,d]=aC (.bl dt)):fy [aS n E,d]=M.raise (.exc "NoPlaces" []):=by have Z:eR (bV (aL (az bZ (ae (mV 2) (ae (mV 1) ak))))) [ar (aS n E),ar d,ar (.int n),ar (.tup (E.map tupI)),none]=aC true:=not_eq (il (mM ((call2 rfl rfl).trans h)));exact ff ((a9 (tR (mM ((d9 rfl).trans (oy Y w))))).trans ((a9 (ρ':=[ar (aS n E),ar d,ar (.int n),ar (.tup (E.map tupI)),none]) rfl).trans (fI ((dI Z).trans ((if_pos rfl).trans rfl)))))
theorem EB(P:n<=14)(w:WebOk n E)(U:z.Pairwise (· <·))(T:∀x∈z,0<=x/\x<n)(L:z.length<=100):fy [aS n E,tupI z]=aC (aS z.length (g0 E z)):=by
 have hf:=w.few;have Q:eR (bV (aL (az bZ (ae (mV 2) (ae (mV 1) ak))))) [ar (aS n E),ar (tupI z),ar (.int n),ar (.tup (E.map tupI)),none]=aC false:=not_eq (il (mM ((call2 rfl rfl).trans (BQ U T (by omega)))));have R:=mj (l:=E) (mk:=tupI) (f:=tupI) (mi:=cg (mV 3)) (g:=dH 2 (aY (gN 0) (aY (gN 1) dQ))) (t:=jg) (m:=jh) (js:=[none,none,ar 1]) (ρ:=[ar (aS n E),ar (tupI z),ar (.int n),ar (.tup (E.map tupI)),none]) (λρ=>∃x y,ρ=[x,y,ar (tupI z)]) (B7 z) rfl (by unfold lim;omega) ⟨none,none,rfl⟩ (λt X ρ Z=>by
  obtain⟨x,y,rfl⟩:=Z;obtain⟨a,b,rfl,_⟩:=w.el t X;refine⟨[ar (.int a),ar (.int b),ar (tupI z)],rfl,⟨_,_,rfl⟩,?_,λ_=>vB rfl rfl⟩;show(fP inD (mV 0) (mV 2) _>>=_)=_;rw[eu (x:=.int a) (y:=tupI z) rfl rfl Ah,ah];unfold B7;cases q:iI a z with
  |true=>
   rw[if_pos rfl];show _=aC (iI a z && iI b z);rw[q,O8];exact eu (x:=.int b) (y:=tupI z) rfl rfl Ah
  |false=>
   rw[if_neg (by decide)];show _=aC (iI a z && iI b z);rw[q];rfl) (bU _)
 have s1:Kr (bE 4 (aL (aW (cg (mV 3)) (dH 2 (aY (gN 0) (aY (gN 1) dQ))) jg jh [none,none,ar 1]))) [ar (aS n E),ar (tupI z),ar (.int n),ar (.tup (E.map tupI)),none]=aC (.nx [ar (aS n E),ar (tupI z),ar (.int n),ar (.tup (E.map tupI)),ar (.fz ((E.filter (B7 z)).map tupI))]):=by unfold Kr;rw[fJ R];rfl
 have W:=GX (l:=E.filter (B7 z)) (mk:=tupI) (f:=λt=>tupI (Lk z t)) (mi:=cg (mV 4)) (g:=dH 2 (aY (gN 0) (aY (gN 1) dQ))) (t:=ji) (m:=jj) (js:=[none,none,ar 1]) (ρ:=[ar (aS n E),ar (tupI z),ar (.int n),ar (.tup (E.map tupI)),ar (.fz ((E.filter (B7 z)).map tupI))]) (λρ=>∃x y,ρ=[x,y,ar (tupI z)]) (λ_=>b_) rfl (M7 (Np _ _) (by unfold lim;omega)) ⟨none,none,rfl⟩ (λt X ρ Z=>by
  obtain⟨x,y,rfl⟩:=Z;obtain⟨t1,Y⟩:=NR.mp X;obtain⟨a,b,rfl,_⟩:=w.el t t1;unfold B7 at Y;rw[ND]at Y;have N:a∈z:=gi.mp Y.1;have O:b∈z:=gi.mp Y.2;exact⟨[ar (.int a),ar (.int b),ar (tupI z)],rfl,⟨_,_,rfl⟩,rfl,λ_=>vB ((Eg (xs:=z.map D.int) (y:=.int a) rfl rfl).trans (t5 N)) ((Eg (xs:=z.map D.int) (y:=.int b) rfl rfl).trans (t5 O))⟩) (by
  rw[dz];have:=bU ((E.filter (B7 z)).map (Lk z));rw[Nl]at this;exact this)
 rw[dz]at W;have S:(E.filter (B7 z)).length<=21:=M7 (Np _ _) hf;have e2:di cK (aL (FG (aW (cg (mV 4)) (dH 2 (aY (gN 0) (aY (gN 1) dQ))) ji jj [none,none,ar 1]))) [ar (aS n E),ar (tupI z),ar (.int n),ar (.tup (E.map tupI)),ar (.fz ((E.filter (B7 z)).map tupI))]=aC (.tup ((g0 E z).map tupI)):=by refine(fA W).trans ((lq (by rw[MS];unfold lim;omega)).trans ?_);unfold g0;rw[Nl];rfl
 exact yt (o:=.ret (aS z.length (g0 E z))) ((a9 (tR (mM ((d9 rfl).trans (oy P w))))).trans ((a9 (ρ':=[ar (aS n E),ar (tupI z),ar (.int n),ar (.tup (E.map tupI)),none]) rfl).trans ((a9 ((dI Q).trans (if_neg (by decide)))).trans ((a9 s1).trans (eN (K2 ((qm (us:=z.map D.int) rfl).trans (by rw[MS])) e2)))))) rfl
end
theorem Dr.subI:∀{L:List Int} {ys:List D},Dr (λd y=>y=d) (L.map D.int) ys->∃z:List Int,ys=z.map D.int/\z.Sublist L
 |[],_,h=>by cases h;exact⟨[],rfl,.slnil⟩
 | x::L,ys,h=>by
  cases h with
  |skip h=>
   obtain⟨z,rfl,s⟩:=Dr.subI h;exact⟨z,rfl,s.cons _⟩
  |put p h=>
   obtain⟨z,rfl,s⟩:=Dr.subI h;exact⟨x::z,by rw[p];rfl,s.cons₂ _⟩
section
variable {n:Nat}{E:List (List Int)}{z:List Int}
def fL(E:List (List Int))(z:List Int)(b:Nat):List (List Int):=((dr b).filter λa:Nat=>tB E (z.getD a 0) (z.getD b 0)).map λa:Nat=>[(a:Int),(b:Int)]
theorem oC{b:Nat}{t:List Int}:t∈fL E z b↔∃a:Nat,a<b/\tB E (z.getD a 0) (z.getD b 0)=b_/\t=[(a:Int),(b:Int)]:=by
 unfold fL;constructor
 ·intro h;obtain⟨a,X,rfl⟩:=Nm.mp h;obtain⟨Z,Y⟩:=NR.mp X;exact⟨a,Na.mp Z,Y,rfl⟩
 ·rintro⟨a,Z,Y,rfl⟩;exact Nm.mpr ⟨a,NR.mpr ⟨Na.mpr Z,Y⟩,rfl⟩
theorem G0{a b:Int}(h:a<b):tB E a b=decide ([a,b]∈E):=by unfold tB;rw[if_neg (by omega),if_pos (by omega)]
theorem EC(w:WebOk n E)(Y:z.Pairwise (· <·)):(g0 E z).Pairwise λa b=>HT.lexLt a b=true:=by
 unfold g0;refine Pa.mpr (QR (λ{s t} hs ht h=>?_) (w.ris.sublist Po));obtain⟨s1,s2⟩:=NR.mp hs;obtain⟨t1,Z⟩:=NR.mp ht;obtain⟨a,b,rfl,_⟩:=w.el s s1;obtain⟨c,d,rfl,_⟩:=w.el t t1;unfold B7 at s2 Z;rw[ND]at s2 Z;have a1:=gi.mp s2.1;have a2:=gi.mp s2.2;have X:=gi.mp Z.1;have W:=gi.mp Z.2;unfold Lk;rcases Jl.mp h with c1|⟨c1,c2⟩
 ·have:=yE Y a1 X c1;exact Jl.mpr (.inl (by show((z.idxOf a:Nat):Int)<((z.idxOf c:Nat):Int);exact Int.ofNat_lt.mpr this))
 ·subst c1;have:=yE Y a2 W c2;exact Jl.mpr (.inr ⟨rfl,by show((z.idxOf b:Nat):Int)<((z.idxOf d:Nat):Int);exact Int.ofNat_lt.mpr this⟩)
theorem qp(w:WebOk n E)(X:z.Pairwise (· <·)):fO ((dr z.length).flatMap (fL E z))=g0 E z:=by
 have P:=EC w X;refine jG ((bM _).trans ((Pc ?_ (P.imp λh e=>by rw[e,i6]at h;cases h)).mpr λt=>?_)) (du _) (P.imp λh=>rh h)
 ·unfold List.Nodup;rw[List.pairwise_flatMap];refine⟨λb _=>?_,(Q5 (n:=z.length)).imp λ{a b} Z s hs t ht e=>?_⟩
  ·unfold fL;refine Pa.mpr (((Q5 (n:=b)).sublist Po).imp λT e=>T ?_);have:=(NF e).1;omega
  ·obtain⟨_,_,_,rfl⟩:=oC.mp hs;obtain⟨_,_,_,rfl⟩:=oC.mp ht;have:=(NF (NF e).2).1;exact Z (by omega)
 ·rw[Q4];unfold g0;rw[Nm];constructor
  ·rintro⟨b,W,ht⟩;obtain⟨a,U,Y,rfl⟩:=oC.mp ht;have W:=Na.mp W;have S:=vA X U W;rw[G0 S,Nu]at Y;refine⟨_,NR.mpr ⟨Y,?_⟩,?_⟩
   ·show(iI (z.getD a 0) z && iI (z.getD b 0) z)=b_;rw[gi.mpr (sh (by omega)),gi.mpr (sh W)];rfl
   ·show[((z.idxOf (z.getD a 0):Nat):Int),((z.idxOf (z.getD b 0):Nat):Int)]=_;rw[Ew X (by omega),Ew X W]
  ·rintro⟨t',ht,rfl⟩;obtain⟨U,Y⟩:=NR.mp ht;obtain⟨a,b,rfl,_,Z,_⟩:=w.el t' U;unfold B7 at Y;rw[ND]at Y;have R:a∈z:=gi.mp Y.1;have Q:b∈z:=gi.mp Y.2;obtain⟨K,O⟩:=oB R;obtain⟨L,N⟩:=oB Q;refine⟨z.idxOf b,Na.mpr L,oC.mpr ⟨z.idxOf a,yE X R Q Z,?_,rfl⟩⟩;rw[O,N,G0 Z];exact Nb U
theorem xa(b:Nat):(fL E z b).length<=b:=by unfold fL;rw[MS];exact M7 (Np _ _) (by rw[M0];exact MV _)
abbrev jx(k n:Nat)(E:List (List Int))(z:List Int)(r:List (Option D)):aI:=ar (.lst k)::ar (aS n E)::ar (tupI z)::r
theorem K3{k b:Nat}{acc:List (List Int)}{n5 n6 n7:Option D}(S:z.length<=14)(P:b<z.length)(R:acc.length<=1000):bS (jx k n E z [ar (.fz (acc.map tupI)),ar (.int b),n5,n6,n7])=aC (.nx (jx k n E z [ar (.fz ((acc++fL E z b).map tupI)),ar (.int b),n5,n6,n7])):=by
 have Y:=mj (α:=Nat) (l:=dr b) (mk:=λi:Nat=>D.int (i:Int)) (f:=λa:Nat=>tupI [(a:Int),(b:Int)]) (mi:=iY (mV 4)) (g:=gN 0) (t:=cT) (m:=cU) (js:=[none,ar 1,ar 2,ar 4]) (ρ:=jx k n E z [ar (.fz (acc.map tupI)),ar (.int b),n5,n6,n7]) (λρ=>∃x,ρ=[x,ar (aS n E),ar (tupI z),ar (.int b)]) (λa:Nat=>tB E (z.getD a 0) (z.getD b 0)) (pY rfl (by omega)) (by rw[M0];unfold lim;omega) ⟨none,rfl⟩
  (λa X ρ Z=>by
   obtain⟨x,rfl⟩:=Z;have X:=Na.mp X;have T:aU cZ (mV 2) (mV 0) [ar (.int a),ar (aS n E),ar (tupI z),ar (.int b)]=aC (.int (z.getD a 0)):=(b7 (x:=tupI z) (y:=.int a) rfl rfl).trans ((vi (by omega) (by omega)).trans (by rw[NH]));have U:aU cZ (mV 2) (mV 3) [ar (.int a),ar (aS n E),ar (tupI z),ar (.int b)]=aC (.int (z.getD b 0)):=(b7 (x:=tupI z) (y:=.int b) rfl rfl).trans ((vi (by omega) (by omega)).trans (by rw[NH]));exact⟨[ar (.int a),ar (aS n E),ar (tupI z),ar (.int b)],rfl,⟨_,rfl⟩,il (mM ((D4 rfl T U).trans Am)),λ_=>vB rfl rfl⟩) (by
  have:=bU (fL E z b);unfold fL at this;rw[Nl]at this;exact this)
 rw[show((dr b).filter λa:Nat=>tB E (z.getD a 0) (z.getD b 0)).map (λa:Nat=>tupI [(a:Int),(b:Int)])=(fL E z b).map tupI by unfold fL;rw[Nl];rfl]at Y;refine fJ ?_;have Q:=xa (E:=E) (z:=z) b;have W:aU bK (mV 3) (aL (aW (iY (mV 4)) (gN 0) cT cU [none,ar 1,ar 2,ar 4])) (jx k n E z [ar (.fz (acc.map tupI)),ar (.int b),n5,n6,n7])=bj ((acc++fL E z b).map tupI):=(b7 (x:=.fz (acc.map tupI)) rfl Y).trans (by rw[NC];rfl);unfold aL at W⊢;rw[W];exact bR (bU _) (by rw[MS,MT];unfold lim;omega)
theorem ED{k:Nat}{its:List D}{n5 n6 n7:Option D}(Y:z.length<=14):∀(post:List Nat) (acc:List (List Int)) (x4:Option D),(∀b∈post,b<z.length)->acc.length+post.length*14<=1000->∃Z,eQ ⟨its,.none⟩ (gN 4) bS (post.map λi:Nat=>D.int (i:Int)) (jx k n E z [ar (.fz (acc.map tupI)),x4,n5,n6,n7])=aC (.nx (jx k n E z [ar (.fz ((acc++post.flatMap (fL E z)).map tupI)),Z,n5,n6,n7]))
 |[],acc,x4,_,_=>⟨x4,by rw[Oo,List.flatMap_nil,NL];exact gS⟩
 |b::post,acc,x4,hb,W=>by
  have W:acc.length+(post.length+1)*14<=1000:=W;have T:=hb b (.head _);have S:=xa (E:=E) (z:=z) b;obtain⟨Z,X⟩:=ED (k:=k) (its:=its) (n5:=n5) (n6:=n6) (n7:=n7) Y post (acc++fL E z b) (ar (.int b)) (λc U=>hb c (.tail _ U)) (by rw[MT];omega);refine⟨Z,?_⟩;rw[Nh]at X;rw[List.flatMap_cons];exact(vo rfl (K3 Y T (by omega))).trans X
theorem Gm{S:av}{k:Nat}{r:List (Option D)}(hs:eB S k)(J:n<=14):∃(z:List Int) (S1:av),di cK (aL (aW (iY (aU cZ (mV 1) (mK (.int 0)))) (gN 0) cR cS [none,ar 0])) (ar (.lst k)::ar (aS n E)::r) S=ar (.ok (tupI z),S1)/\z.Pairwise (· <·)/\(∀x∈z,0<=x/\x<n)/\z.length<=n/\Kp k S S1/\S1.length=S.length:=by
 obtain⟨ys,S1,e1,T,k1,U⟩:=BI (its:=(dr n).map λi:Nat=>D.int (i:Int)) (mi:=iY (aU cZ (mV 1) (mK (.int 0)))) (g:=gN 0) (t:=cR) (m:=cS) (js:=[none,ar 0]) (ρ:=ar (.lst k)::ar (aS n E)::r) (S:=S) (k:=k) (λρ=>∃x,ρ=[x,ar (.lst k)]) (λd y=>y=d/\∃i,d= .int i) (pY rfl (by omega)) (by rw[MS,M0];omega) ⟨none,rfl⟩ hs (λd y ⟨h,i,e⟩=>by rw[h,e];rfl) (λd hd ρ S Y hs=>by obtain⟨x,rfl⟩:=Y;obtain⟨i,_,rfl⟩:=Nm.mp hd;obtain⟨j,S2,W,L,K,k2,O⟩:=jN (e1:=mV 1) (e2:=mK (.int 3)) (ρ:=[ar (.int i),ar (.lst k)]) (m:=3) hs rfl rfl (by decide) (by decide);exact⟨[ar (.int i),ar (.lst k)],decide (0<j),S2,rfl,⟨_,rfl⟩,vg (f:=CK) W (y:=.int 0) rfl rfl,k2,O,λ_=>⟨.int i,S2,rfl,⟨rfl,i,rfl⟩,.refl k2.st,rfl⟩⟩)
 have X:Dr (λd y=>y=d) (((dr n).map λi:Nat=>(i:Int)).map D.int) ys:=by
  have Q:∀{ds ys:List D},Dr (λd y=>y=d/\∃i,d= .int i) ds ys->Dr (λd y=>y=d) ds ys:=λh=>by
   induction h with
   |nil=>exact .nil
   |skip _ ih=>exact .skip ih
   |put p _ ih=>exact .put p.1 ih
  rw[Nl];exact Q T
 obtain⟨z,rfl,Z⟩:=X.subI;have P:z.length<=14:=by have:=Z.length_le;rw[MS,M0]at this;omega
 refine⟨z,S1,?_,P3 Z (Pa.mpr (List.pairwise_lt_range.imp λh=>by omega)),λx N=>?_,?_,k1,U⟩
 ·show(ae _ _ _>>=cK) S=_;rw[aD (bO e1 (es:=ak) rfl)];exact Nt (lq (by rw[MS];unfold lim;omega)) S1
 ·obtain⟨i,R,rfl⟩:=Nm.mp (Z.subset N);exact⟨by omega,by have:=Na.mp R;omega⟩
 ·have:=Z.length_le;rw[MS,M0]at this;exact this
end
theorem Mo(l:List D)(a:Nat):S3.cutD l (ar (a:Int)) none=l.drop a:=by
 unfold S3.cutD;rw[HT.sIx_none,HT.sIx_nat];by_cases h:a<=l.length
 ·rw[Nat.min_eq_left h,OZ (by rw[Ot];exact MV _)]
 ·rw[Nat.min_eq_right (by omega),OX (MV _),OX (by omega),List.take_nil]
section
variable {ρ:aI}{e e1 e2:TM}{i:Nat}{us xs ys:List D}
theorem Mp(h:e ρ=aC (.tup us))(Y:e2 ρ=aC (.int i))(X:us.length<=100):aL (wo e oN (oS e2)) ρ=aC (.tup (us.take i)):=by refine mM ?_;show(e ρ>>=λx=>oN ρ>>=λlo=>oS e2 ρ>>=λZ=>ux x lo Z)=_;rw[h,ah,show oN ρ=aC none from rfl,ah,show oS e2 ρ=aC (ar (i:Int)) by unfold oS;rw[Y];rfl,ah];show bH (S3.cutD us none (ar (i:Int)))=_;rw[Mj];unfold bH;rw[if_pos (by rw[Od];unfold lim;omega)]
theorem Mq(h:e ρ=aC (.tup us))(Y:e2 ρ=aC (.int i))(X:us.length<=100):aL (wo e (oS e2) oN) ρ=aC (.tup (us.drop i)):=by refine mM ?_;show(e ρ>>=λx=>oS e2 ρ>>=λlo=>oN ρ>>=λZ=>ux x lo Z)=_;rw[h,ah,show oS e2 ρ=aC (ar (i:Int)) by unfold oS;rw[Y];rfl,ah,show oN ρ=aC none from rfl,ah];show bH (S3.cutD us (ar (i:Int)) none)=_;rw[Mo];unfold bH;rw[if_pos (by rw[Ot];unfold lim;omega)]
theorem K4(Z:e1 ρ=aC (.tup xs))(Y:e2 ρ=aC (.tup ys))(X:xs.length+ys.length<=100):aL (aU bK e1 e2) ρ=aC (.tup (xs++ys)):=by refine mM ((b7 Z Y).trans ?_);show bH (xs++ys)=_;unfold bH;exact if_pos (by rw[MT];unfold lim;omega)
end
theorem Gn{a b:List Int}:km (.fz (a.map D.int)) (.fz (b.map D.int))=aC (.bl (decide (a=b))):=bN λS=>by
 unfold km;have h:∀l:List Int,gm S 60 (.fz (l.map D.int))=ar (.list (l.map rn)):=λl=>by show(mapP (gm S 59) (l.map D.int)).map m_=_;rw[lM];rfl
 refine(fX (h a) (h b)).mpr ⟨?_,rfl⟩;unfold f';rw[ot]
section
variable {n:Nat}{E:List (List Int)}
def sj(n:Nat):List D:=[D.int n,.int (-1),.bl b_,.non,.str "0",.tup [.int 0],.int (10 ^ 29)]
theorem xb{ρ:aI}{j:Nat}(Z:mV j ρ=aC (aS n E)):aL (bc (aA (aU cZ (mV j) (mK (.int 0))) (aA (mK (.int (-1))) (aA (mK (.bl b_)) (aA (mK .non) (aA (mK (.str "0")) (aA (mK (.tup [.int 0])) (aA (aU qJ (mK (.int 10)) (mK (.int 29))) ak)))))))) ρ=aC (.fz (sj n)):=by have Y:aU qJ (mK (.int 10)) (mK (.int 29)) ρ=aC (.int (10 ^ 29)):=(b7 (x:=.int 10) (y:=.int 29) rfl rfl).trans (if_pos (e:=M.fail) (show Ci 10 29 from⟨by decide,by decide,by decide⟩));have h0:aU cZ (mV j) (mK (.int 0)) ρ=aC (.int n):=(b7 Z (y:=.int 0) rfl).trans rfl;exact things (ρ:=ρ) (aP h0 (aP (e:=mK (.int (-1))) (x:=.int (-1)) rfl (aP (e:=mK (.bl b_)) (x:=.bl b_) rfl (aP (e:=mK .non) (x:=.non) rfl (aP (e:=mK (.str "0")) (x:=.str "0") rfl (aP (e:=mK (.tup [.int 0])) (x:=.tup [.int 0]) rfl (aP Y (es:=ak) rfl))))))) rfl (by show 7<=50;decide)
theorem AB(Z:n<=14):∀d∈sj n,zW d/\ez n d=false:=λd hd=>by
 simp only[sj,f_,eK,or_false]at hd;rcases hd with rfl|rfl|rfl|rfl|rfl|rfl|rfl
 ·exact⟨rfl,by show(decide (0<=(n:Int)) && decide ((n:Int)<n))=dt;rw[Nv (Int.lt_irrefl _),OV]⟩
 ·exact⟨rfl,rfl⟩
 ·exact⟨rfl,rfl⟩
 ·exact⟨rfl,rfl⟩
 ·exact⟨rfl,rfl⟩
 ·exact⟨rfl,rfl⟩
 ·exact⟨rfl,by show(decide (0<=(10 ^ 29:Int)) && decide ((10 ^ 29:Int)<n))=dt;rw[Nv (show ¬ (10 ^ 29:Int)<n by omega),OV]⟩
theorem Jn:∀d∈sj n,fi 0 d=true:=λd hd=>by simp only[sj,f_,eK,or_false]at hd;rcases hd with rfl|rfl|rfl|rfl|rfl|rfl|rfl<;>rfl
theorem yG:iD (aV (M.raise (.exc "NoPlaces" [])) [])=aC (.fz [.int 2]):=tY (by decide) (by rfl) (λf p=>Ed (by decide)) rfl
variable {z:List Int}{odd:D}
def vC(z:List Int)(i j:Nat)(odd:D):List D:=(z.map D.int).take i++[odd]++(z.map D.int).drop j
def xc(z:List Int)(i:Nat)(odd:D):List D:=[.tup (vC z i i odd),.tup (vC z i (i+1) odd),.fz (z.map D.int),.non,.emp,.int 0,tupI [1,0],tupI [0,0]]
theorem AC{i j:Nat}(Y:n<=14)(X:odd∈sj n)(U:z.length<=14):bZ [.int n,.tup (vC z i j odd)]=aC (.bl dt):=by
 obtain⟨W,o2⟩:=AB Y odd X;refine Gk (λx Z=>?_) ⟨odd,?_,o2⟩ ?_
 ·unfold vC at Z;rcases NA.mp Z with Z|Z
  ·rcases NA.mp Z with Z|Z
   ·obtain⟨_,_,rfl⟩:=Nm.mp (List.mem_of_mem_take Z);rfl
   ·rw[NP.mp Z];exact W
  ·obtain⟨_,_,rfl⟩:=Nm.mp (Qb Z);rfl
 ·unfold vC;exact NA.mpr (.inl (NA.mpr (.inr (.head _))))
 ·unfold vC;rw[MT,MT,Od,Ot,MS];show _+1+_<=1000;omega
theorem vD{m:Nat}{d:D}(h:gx (mV 1) "tuple" [ar (.int m),ar d]=aC (.bl dt)):bZ [.int m,d]=aC (.bl dt):=
 fq (o:=.ret (.bl dt)) (eN (and_eq h (λz=>by cases z) λ_=>rfl)) rfl
theorem Gp{i:Nat}(Y:n<=14)(X:odd∈sj n)(Z:z.length<=14):∀d∈xc z i odd,bZ [.int n,d]=aC (.bl dt):=λd hd=>by
 simp only[xc,f_,eK,or_false]at hd;rcases hd with rfl|rfl|rfl|rfl|rfl|rfl|rfl|rfl
 ·exact AC Y X Z
 ·exact AC Y X Z
 ·exact vD rfl
 ·exact vD rfl
 ·exact vD rfl
 ·exact vD rfl
 ·rw[yF (z:=[1,0]) (by decide)];show aC (D.bl (_ && dt))=_;rw[OV]
 ·rw[yF (z:=[0,0]) (by decide)];show aC (D.bl (_ && dt))=_;rw[OV]
theorem AD{ρ:aI}{i j:Nat}{X:TM}(Y:mV 2 ρ=aC (tupI z))(T:mV 5 ρ=aC (.int i))(U:mV 6 ρ=aC odd)(W:X ρ=aC (.int j))(S:z.length<=14):aL (aU bK (aL (aU bK (aL (wo (mV 2) oN (oS (mV 5)))) (ft (ae (mV 6) ak)))) (aL (wo (mV 2) (oS X) oN))) ρ=aC (.tup (vC z i j odd)):=by
 have Z:(z.map D.int).length<=100:=by rw[MS];omega
 have t1:ft (ae (mV 6) ak) ρ=aC (.tup [odd]):=by show(ae _ _ _>>=bH)=_;rw[aP U (es:=ak) rfl,ah];unfold bH;exact if_pos (by show 1<=lim;unfold lim;omega)
 have a1:=K4 (Mp Y T Z) t1 (by rw[Od,MS];show _+1<=100;omega);exact K4 a1 (Mq Y W Z) (by rw[MT,Od,Ot,MS];show _+1+_<=100;omega)
theorem AE(i:Nat)(l:List D)(h:bF 0 l=b_):bF 0 (l.take i)=b_/\bF 0 (l.drop i)=true:=by
 induction l generalizing i with
 |nil=>rw[List.take_nil,List.drop_nil];exact⟨rfl,rfl⟩
 | cons x l ih=>
  unfold bF at h;rw[ND]at h
  match i with
  |0=>exact⟨rfl,by rw[Rc];unfold bF;rw[h.1,h.2];rfl⟩
  |i+1=>
   obtain⟨a,b⟩:=ih i h.2;refine⟨?_,b⟩;rw[List.take_succ_cons];unfold bF;rw[h.1,a];rfl
theorem AF{i j:Nat}(Z:odd∈sj n):fi 0 (.tup (vC z i j odd))=true:=by unfold fi vC;exact vy (vy (AE i _ (fh z)).1 (by unfold bF;rw[Jn odd Z];rfl)) (AE j _ (fh z)).2
theorem Gq{ρ:aI}{i:Nat}(W:odd∈sj n)(Y:mV 2 ρ=aC (tupI z))(Z:mV 5 ρ=aC (.int i))(U:mV 6 ρ=aC odd)(T:z.length<=14):aL (bc (aA (aL (aU bK (aL (aU bK (aL (wo (mV 2) oN (oS (mV 5)))) (ft (ae (mV 6) ak)))) (aL (wo (mV 2) (oS (mV 5)) oN)))) (aA (aL (aU bK (aL (aU bK (aL (wo (mV 2) oN (oS (mV 5)))) (ft (ae (mV 6) ak)))) (aL (wo (mV 2) (oS (aU bK (mV 5) (mK (.int 1)))) oN)))) (aA (aL (di nv (mV 2))) (aA (mK .non) (aA (mK .emp) (aA (mK (.int 0)) (aA (mK (.tup [.int 1,.int 0])) (aA (mK (.tup [.int 0,.int 0])) ak))))))))) ρ=aC (.fz (xc z i odd)):=by
 have S:aL (di nv (mV 2)) ρ=aC (.fz (z.map D.int)):=by unfold aL;rw[fA Y];exact bR (fh _) (by rw[MS];unfold lim;omega)
 have X:aU bK (mV 5) (mK (.int 1)) ρ=aC (.int ((i+1:Nat):Int)):=(b7 Z (y:=.int 1) rfl).trans rfl;refine things (us:=xc z i odd) (aP (AD Y Z U Z T) (aP (AD Y Z U X T) (aP S (aP (e:=mK .non) (x:=.non) rfl (aP (e:=mK .emp) (x:=.emp) rfl (aP (e:=mK (.int 0)) (x:=.int 0) rfl (aP (e:=mK (.tup [.int 1,.int 0])) (x:=tupI [1,0]) rfl (aP (e:=mK (.tup [.int 0,.int 0])) (x:=tupI [0,0]) rfl (es:=ak) rfl)))))))) ?_ (by show 8<=50;decide);have R:fi 0 (.fz (z.map D.int))=true:=by unfold fi;exact fh z
 show(fi 0 _ && (fi 0 _ && (fi 0 _ && bF 0 [D.non,.emp,.int 0,tupI [1,0],tupI [0,0]])))=b_;rw[AF W,AF W,R];rfl
theorem BS{S:av}{k:Nat}(P:n<=14)(w:WebOk n E)(hs:eB S k):∃S1,iD (bX [.lst k,aS n E]) S=ar (.ok (.bl b_),S1)/\Kp k S S1/\S1.length=S.length:=by
 obtain⟨z,S1,e1,T,hm,hl,k1,l1⟩:=Gm (E:=E) (r:=[none,none,none,none,none,none]) hs P;have Y:z.length<=14:=by omega
 obtain⟨Z,hf⟩:=ED (n:=n) (E:=E) (k:=k) (its:=(dr z.length).map λi:Nat=>D.int (i:Int)) (n5:=none) (n6:=none) (n7:=none) Y (dr z.length) [] none (λb l=>Na.mp l) (by rw[M0];show 0+z.length*14<=1000;omega);rw[Qg]at hf;have C:iu (iY (di gn (mV 2))) (gN 4) bS (jx k n E z [ar (.fz []),none,none,none,none])=aC (.nx (jx k n E z [ar (.fz (((dr z.length).flatMap (fL E z)).map tupI)),Z,none,none,none])):=by unfold iu;rw[pY (n:=z.length) ((qm (us:=z.map D.int) rfl).trans (by rw[MS])) (by omega),ah];exact hf
 have p:((dr z.length).flatMap (fL E z)).length<64:=by
  have:=(bM ((dr z.length).flatMap (fL E z))).length_eq;rw[qp w T]at this;rw[<-this];have f:(g0 E z).length<=E.length:=by unfold g0;rw[MS];exact Np _ _
  have:=w.few;omega
 have O:di cK (aL (di cb (mV 3))) (jx k n E z [ar (.fz (((dr z.length).flatMap (fL E z)).map tupI)),Z,none,none,none])=aC (.tup ((g0 E z).map tupI)):=by
  have:aL (di cb (mV 3)) (jx k n E z [ar (.fz (((dr z.length).flatMap (fL E z)).map tupI)),Z,none,none,none])=aC (.fz ((g0 E z).map tupI)):=by
   unfold aL;rw[fA (x:=.fz (((dr z.length).flatMap (fL E z)).map tupI)) rfl];have:cb [.fz (((dr z.length).flatMap (fL E z)).map tupI)]=bj ((fO ((dr z.length).flatMap (fL E z))).map tupI):=w6 (λr N=>by obtain⟨b,_,h⟩:=Q4.mp N;obtain⟨a,_,_,rfl⟩:=oC.mp h;exact Nat.zero_lt_succ _) p
   rw[this,qp w T];exact bR (bU _) (by rw[MS, <-qp w T,(bM _).length_eq];unfold lim;omega)
  exact(fA this).trans (lq (by rw[MS, <-qp w T,(bM _).length_eq];unfold lim;omega))
 have U:cD [aS z.length (g0 E z),aS z.length (g0 E z)]=aC (.bl b_):=IL (by
  have f:(g0 E z).length<=E.length:=by unfold g0;rw[MS];exact Np _ _
  have:=w.few;omega) λt J=>by
   unfold g0 at J;obtain⟨s,_,rfl⟩:=Nm.mp J;show 2<=1000
   decide
 have q:eR (bV (aL (az cD (ae (aL (az fy (ae (mV 1) (ae (mV 2) ak)))) (ae (ft (ae (di gn (mV 2)) (ae (di cK (aL (di cb (mV 3)))) ak))) ak))))) (jx k n E z [ar (.fz (((dr z.length).flatMap (fL E z)).map tupI)),Z,none,none,none])=aC false:=
  nb (mM ((call2 (mM ((call2 rfl rfl).trans (EB P w T hm (by omega)))) (K2 ((qm (us:=z.map D.int) rfl).trans (by rw[MS])) O)).trans U))
 obtain⟨i,S2,e2,e,i1,k2,l2⟩:=jN (e1:=mV 0) (e2:=aU bK (di gn (mV 2)) (mK (.int 1))) (ρ:=jx k n E z [ar (.fz (((dr z.length).flatMap (fL E z)).map tupI)),Z,none,none,none]) (m:=(z.length:Int)+1) k1.st rfl ((b7 ((qm (us:=z.map D.int) rfl).trans (by rw[MS])) (y:=.int 1) rfl).trans rfl) (by omega) (by omega);obtain⟨i,rfl⟩:=QX e;obtain⟨j,W,H,j0,j1,k3,l3⟩:=jN (e1:=mV 0) (e2:=mK (.int 7)) (ρ:=jx k n E z [ar (.fz (((dr z.length).flatMap (fL E z)).map tupI)),Z,ar (.int i),none,none]) (m:=7) k2.st rfl rfl (by decide) (by decide);obtain⟨odd,K,G⟩:=tX (ds:=sj n) j0 j1;have v:aU cZ (aL (bc (aA (aU cZ (mV 1) (mK (.int 0))) (aA (mK (.int (-1))) (aA (mK (.bl b_)) (aA (mK .non) (aA (mK (.str "0")) (aA (mK (.tup [.int 0])) (aA (aU qJ (mK (.int 10)) (mK (.int 29))) ak))))))))) (aL (az aH (ae (mV 0) (ae (mK (.int 7)) ak)))) (jx k n E z [ar (.fz (((dr z.length).flatMap (fL E z)).map tupI)),Z,ar (.int i),none,none]) S2=ar (.ok odd,W):=(fR (Nt (xb (j:=1) rfl) S2) H).trans (Nt G W);have e5:=Gq (z:=z) (i:=i) (ρ:=jx k n E z [ar (.fz (((dr z.length).flatMap (fL E z)).map tupI)),Z,ar (.int i),ar odd,none]) K rfl rfl rfl Y;obtain⟨c,X,A,u,B,I,l4⟩:=jN (e1:=mV 0) (e2:=mK (.int 8)) (ρ:=jx k n E z [ar (.fz (((dr z.length).flatMap (fL E z)).map tupI)),Z,ar (.int i),ar odd,ar (.fz (xc z i odd))]) (m:=8) k3.st rfl rfl (by decide) (by decide);obtain⟨d,hd,g⟩:=tX (ds:=xc z i odd) u B;have F:aU cZ (mV 7) (aL (az aH (ae (mV 0) (ae (mK (.int 8)) ak)))) (jx k n E z [ar (.fz (((dr z.length).flatMap (fL E z)).map tupI)),Z,ar (.int i),ar odd,ar (.fz (xc z i odd))]) W=ar (.ok d,X):=(fR (x:=.fz (xc z i odd)) rfl A).trans (Nt g X);have N:=D3 (js:=[1,7]) (ρ:=jx k n E z [ar (.fz (((dr z.length).flatMap (fL E z)).map tupI)),Z,ar (.int i),ar odd,ar d]) (ds:=[aS n E,d]) (m:=cV) (R:=aV) rfl (B6 ((call2 rfl rfl).trans (BR P w (Gp P K Y d hd)))) yG;have Q:aU km (aL (uQ [1,7] ak cV aV)) (aL (bc (ae (mK (.int 2)) ak))) (jx k n E z [ar (.fz (((dr z.length).flatMap (fL E z)).map tupI)),Z,ar (.int i),ar odd,ar d])=aC (.bl b_):=(b7 N yy).trans (Gn (a:=[2]) (b:=[2]));have L:bX [.lst k,aS n E] S=ar (.ok (.bl b_),X):=by refine fK (o:=.ret (.bl b_)) ?_ rfl;show dM [ar (.lst k),ar (aS n E),none,none,none,none,none,none] S=_;unfold dM;exact(aQ (ρ':=jx k n E z [none,none,none,none,none]) (b9 e1)).trans ((Nt (a9 (ρ':=jx k n E z [ar (.fz []),none,none,none,none]) (fJ (bR (us:=[]) rfl (Nr _)))) S1).trans ((Nt (a9 C) S1).trans ((Nt (a9 (Aq q)) S1).trans ((aQ (b9 e2)).trans ((aQ (b9 v)).trans ((Nt (a9 (fJ e5)) W).trans ((aQ (b9 F)).trans (Nt (eN Q) X))))))))
 exact wU hs L (((k1.trans k2).trans k3).trans I) rfl
end
theorem BU:iD (aV (M.raise (.exc "NoPlace" [])) [])=aC (.fz [.int 1]):=tY (by decide) (by rfl) (λf p=>Ed (by decide)) rfl
abbrev z0:D:=.fz [.int 0]
theorem xf:∀(l:List (M D)) (S:av),(∀c∈l,c=M.raise (.exc "NoWeb" []))->∃G,uT aV l S=ar (.ok (l.map λ_=>z0),S++G)
 |[],S,_=>⟨[],by rw[NL];rfl⟩
 |c::l,S,h=>by
  obtain⟨_,_,e,rfl,G,rfl⟩:=An (n:="NoWeb") (ds:=[]) (us:=[.int 0]) (v:=z0) (by decide) (by rfl) (λf p=>Ed (by decide)) S;obtain⟨Y,e2⟩:=xf l (S++G) λx Z=>h x (.tail _ Z);refine⟨G++Y,?_⟩;rw[h c (.head _)];unfold uT;rw[aD e,aD e2,Nh];rfl
theorem Jo{k:Nat}{ρ:aI}(W:k<=50):aL (aU BB (bc (ae (aL (bc (ae (mK (.int 0)) ak))) ak)) (mK (.int k))) ρ=aC (.fz (eb k z0)):=by
 have Y:aL (bc (ae (mK (.int 0)) ak)) ρ=aC z0:=yy;have Z:bF 0 (eb k z0)=true:=by
  induction k with
  |zero=>rfl
  |succ k ih=>rw[NK];unfold bF;rw[ih (by omega)];rfl
 refine zT Z λS=>?_;have X:bc (ae (aL (bc (ae (mK (.int 0)) ak))) ak) ρ S=ar (.ok (.lst S.length),S++[[z0]]):=ju (ys:=[z0]) (S1:=S) (Nt (aP Y (es:=ak) rfl) S) (by show 1<=lim;unfold lim;omega);have hf:(eb k [z0]).flatten=eb k z0:=by
  induction k with
  |zero=>rfl
  |succ k ih=>rw[NK,Oz,ih (by omega) (by unfold eb bF at Z;exact(Qc.mp Z).2),NK];rfl
 refine⟨.lst (S++[[z0]]).length,S++[[z0]]++[eb k z0],?_,[[z0],eb k z0],(S++[[z0]]).length,rfl,by rw[Nh];rfl,bJ,by rw[MT];omega⟩;rw[fR X (y:=.int k) (S2:=S++[[z0]]) rfl];show(getL S.length>>=λxs=>if -(2 ^ 62)<=(k:Int)/\(k:Int)<=1000/\xs.length<=1000 then bj (eb (k:Int).toNat xs).flatten else M.fail) _=_;rw[aD (cH bJ),if_pos ⟨by omega,by omega,by show 1<=1000;decide⟩,NH,hf];exact cA (by rw[PV];unfold lim;omega)
theorem yH{S:av}{f:Nat}:∀k:Nat,mapP (gm S (f+1)) (eb k z0)=ar (eb k (.list [.int 0]))
 |0=>rfl
 | k+1=>by
  rw[NK,NK];have h0:gm S (f+1) z0=ar (.list [.int 0]):=by show(mapP (gm S f) [.int 0]).map m_=_;have:gm S f (.int 0)=ar (.int 0):=jk;simp[mapP,this]
  simp[mapP,h0,yH (S:=S) (f:=f) k]
theorem EE:∀k:Nat,ly (eb k (.list [.int 0])) (eb k (.list [.int 0]))=b_
 |0=>by simp[ly]
 |k+1=>by rw[NK];simp[ly,f',EE k]
theorem Jp{S:av}{p k:Nat}(Z:S[p]? =ar (eb k z0)):gm S 60 (.lst p)=ar (.list (eb k (.list [.int 0])))/\gm S 60 (.fz (eb k z0))=ar (.list (eb k (.list [.int 0]))):=by
 constructor
 ·show(S[p]?).bind (λxs=>(mapP (gm S 59) xs).map m_)=_;rw[Z];show(mapP (gm S 59) _).map m_=_;rw[yH];rfl
 ·show(mapP (gm S 59) _).map m_=_;rw[yH];rfl
theorem K5{S:av}{p k:Nat}(X:S[p]? =ar (eb k z0)):km (.lst p) (.fz (eb k z0)) S=ar (.ok (.bl b_),S):=by obtain⟨Y,W⟩:=Jp X;obtain⟨_,_,e,rfl,rfl⟩:=(fX (f:=f') Y W (Q:=λd Z=>d= .bl b_/\Z=S)).mpr ⟨by unfold f';rw[EE],rfl⟩;exact e
theorem EF{cs:List (List Nat×TM)}{l:List (M D)}{ρ:aI}{S:av}(Y:tO cs ρ=ar l)(h:∀c∈l,c=M.raise (.exc "NoWeb" []))(Z:l.length<=50):
  ∃G,aU km (jo cs aV) (aL (aU BB (bc (ae (aL (bc (ae (mK (.int 0)) ak))) ak)) (mK (.int l.length)))) ρ S=ar (.ok (.bl b_),S++G):=by
 obtain⟨G,e⟩:=xf l S h;have hm:l.map (λ_=>z0)=eb l.length z0:=by
  clear e Y h Z
  induction l with
  |nil=>rfl
  |cons x l ih=>rw[Nd,ih];rfl
 rw[hm]at e;have X:jo cs aV ρ S=ar (.ok (.lst (S++G).length),S++G++[eb l.length z0]):=by unfold jo;rw[Y];show(uT _ l>>=bj) S=_;rw[aD e];exact cA (by rw[PV];unfold lim;omega)
 refine⟨G++[eb l.length z0],?_⟩;rw[fR X (Nt (Jo Z) _),K5 bJ,Nh]
section
variable {n:Nat}{E:List (List Int)}{d e:D}
theorem oD(g:Good d)(Z:iF d=dt):cn [d]=M.raise (.exc "NoWeb" []):=by rw[DZ g.nr (λm Y z=>M7 (g.few m Y z) (by decide)),if_neg (by rw[Z];decide)]
theorem Gr(Y:n<=14)(w:WebOk n E)(h:zW d)(Z:ez n d=dt):jt [aS n E,d]=M.raise (.exc "NoPlace" []):=
 ff (fI (jL (B6 ((call2 rfl rfl).trans ((wX Y w h).trans (if_neg (by rw[Z];decide)))))))
theorem EG(g:Good d)(Y:iF d=dt):jt [d,e]=M.raise (.exc "NoWeb" []):=by have Z:gf [d,e]=M.raise (.exc "NoWeb" []):=ff (fI (jL (B6 ((d9 rfl).trans (oD g Y)))));exact ff (fI (jL (B6 ((call2 rfl rfl).trans Z))))
theorem Gs(g:Good d)(Z:iF d=dt):eF [d]=M.raise (.exc "NoWeb" []):=ff (fI (jL (B6 ((d9 rfl).trans (oD g Z)))))
theorem Gu(g:Good d)(Z:iF d=dt):fx [d]=M.raise (.exc "NoWeb" []):=ff (fI (jL (B6 ((d9 rfl).trans (oD g Z)))))
theorem Gv(g:Good d)(Z:iF d=dt):fy [d,e]=M.raise (.exc "NoWeb" []):=ff (fI (jL (B6 ((d9 rfl).trans (oD g Z)))))
theorem Gw{S:av}{k:Nat}(W:n<=14)(w:WebOk n E)(hs:eB S k):∃S1,iD (bL [.lst k,aS n E]) S=ar (.ok (.bl b_),S1)/\Kp k S S1/\S1.length=S.length:=by
 obtain⟨d,S1,e1,Y,Z,k1,C⟩:=Ja hs;obtain⟨j,S2,e2,F,K,k2,B⟩:=jN (e1:=mV 0) (e2:=mK (.int 7)) (ρ:=[ar (.lst k),ar (aS n E),none,none,none]) (m:=7) k1.st rfl rfl (by decide) (by decide);obtain⟨odd,T,O⟩:=tX (ds:=sj n) F K;obtain⟨Q,o2⟩:=AB W odd T;have P:aU cZ (aL (bc (aA (aU cZ (mV 1) (mK (.int 0))) (aA (mK (.int (-1))) (aA (mK (.bl b_)) (aA (mK .non) (aA (mK (.str "0")) (aA (mK (.tup [.int 0])) (aA (aU qJ (mK (.int 10)) (mK (.int 29))) ak))))))))) (aL (az aH (ae (mV 0) (ae (mK (.int 7)) ak)))) [ar (.lst k),ar (aS n E),none,none,none] S1=ar (.ok odd,S2):=(fR (Nt (xb (j:=1) rfl) S1) e2).trans (Nt O S2);have H:aL (az eT (ae (mV 0) ak)) [ar (.lst k),ar (aS n E),none,none,none] S=ar (.ok d,S1):=by show iD (az _ _ _) S=_;rw[d9 (x:=.lst k) rfl];exact e1
 have J:=D3 (js:=[1,3]) (ρ:=[ar (.lst k),ar (aS n E),ar d,ar odd,none]) (ds:=[aS n E,odd]) (m:=dG) (R:=aV) rfl (B6 ((call2 rfl rfl).trans (Gr W w Q o2))) BU;obtain⟨G,I⟩:=EF (cs:=[([2,3],cu),([2],cw),([2],cy),([2,3],cz)]) (l:=[cu [ar d,ar odd],cw [ar d],cy [ar d],cz [ar d,ar odd]]) (ρ:=[ar (.lst k),ar (aS n E),ar d,ar odd,none]) (S:=S2) rfl (λc X=>by
  simp only[f_,eK,or_false]at X;rcases X with rfl|rfl|rfl|rfl
  ·exact B6 ((call2 rfl rfl).trans (EG Y Z))
  ·exact B6 ((d9 rfl).trans (Gs Y Z))
  ·exact B6 ((d9 rfl).trans (Gu Y Z))
  ·exact B6 ((call2 rfl rfl).trans (Gv Y Z))) (by show 4<=50;decide)
 have L:bL [.lst k,aS n E] S=ar (.ok (.bl b_),S2++G):=by refine fK (o:=.ret (.bl b_)) ?_ rfl;show dh [ar (.lst k),ar (aS n E),none,none,none] S=_;unfold dh;exact(aQ (ρ':=[ar (.lst k),ar (aS n E),ar d,ar odd,none]) (IQ (bO H (bO P (es:=ak) rfl)))).trans ((Nt (a9 (Aq (eu J yy Mi))) S2).trans (gH I))
 have U:=k1.trans k2;exact wU hs L (U.trans ⟨by rw[MT];omega,λi N _=>Nk N,U.st.grow⟩) rfl
end
theorem K6{p q:gM}{ρ:aI}{S S1 S2:av}(Z:p ρ S=ar (.ok dt,S1))(Y:q ρ S1=ar (.ok dt,S2)):B4 p q ρ S=ar (.ok dt,S2):=by show(p ρ>>=_) S=_;rw[aD Z];exact Y
section
variable {n:Nat}{E:List (List Int)}{a0 a1 x4 x5 x6 x7 x8:Option D}
theorem EH{S:av}{k:Nat}(Y:n<=14)(w:WebOk n E)(hs:eB S k):∃y4 Z y6 U T S1,jJ [a0,a1,ar (.lst k),ar (aS n E),x4,x5,x6,x7,x8] S=ar (.ok (.nx [a0,a1,ar (.lst k),ar (aS n E),y4,Z,y6,U,T]),S1)/\Kp k S S1:=by
 have H:=hs.lt;obtain⟨Z,hf⟩:=Ay (n:=n) (E:=E) (S:=S) (its:=(dr n).map λi:Nat=>D.int (i:Int)) (a0:=a0) (a1:=a1) (a2:=ar (.lst k)) (x6:=x6) (x7:=x7) (x8:=x8) Y (dr n) [] x5 (by rw[M0];show 0+n<=100;omega);rw[Qg]at hf;have hd:(dr n).map (λp=>D.fz ((gZ n E p).map D.int))=ku n E:=by rw[pD,Nl];rfl
 rw[hd]at hf;have N:iY (aU cZ (mV 3) (mK (.int 0))) [a0,a1,ar (.lst k),ar (aS n E),ar (.lst S.length),x5,x6,x7,x8]=aC ⟨(dr n).map λi:Nat=>D.int (i:Int),.none⟩:=pY rfl (by omega);have k0:Kp k S (S++[ku n E]):=Kp.grow hs _;obtain⟨P,J,S2,e1,k1⟩:=GZ (a0:=a0) (a1:=a1) (a2:=ar (.lst k)) (x5:=Z) (x6:=ar (.int ((0:Nat):Int))) (x7:=x7) (x8:=x8) Y w k0.st (bJ (S:=S) (xs:=ku n E));have K:S2[S.length]? =ar (ku n E):=by rw[k1.oth S.length (by rw[MT];exact OE _) (by omega)];exact bJ
 obtain⟨U,T,X,e2,k2⟩:=GZ (a0:=a0) (a1:=a1) (a2:=ar (.lst k)) (x5:=Z) (x6:=ar (.int ((1:Nat):Int))) (x7:=P) (x8:=J) Y w k1.st K;have L:eQ ⟨(dr 2).map λi:Nat=>D.int (i:Int),.none⟩ (gN 6) ll ((dr 2).map λi:Nat=>D.int (i:Int)) [a0,a1,ar (.lst k),ar (aS n E),ar (.lst S.length),Z,x6,x7,x8] (S++[ku n E])=ar (.ok (.nx [a0,a1,ar (.lst k),ar (aS n E),ar (.lst S.length),Z,ar (.int ((1:Nat):Int)),U,T]),X):=by show eQ _ _ _ [D.int ((0:Nat):Int),D.int ((1:Nat):Int)] _ _=_;rw[kc rfl e1,kc rfl e2,gS];rfl
 obtain⟨W,O,k3,_⟩:=BS Y w k2.st;obtain⟨R,I,Q,_⟩:=Gw Y w k3.st;refine⟨ar (.lst S.length),Z,ar (.int ((1:Nat):Int)),U,T,R,?_,(((k0.trans k1).trans k2).trans k3).trans Q⟩;unfold jJ;refine(aQ (ρ':=[a0,a1,ar (.lst k),ar (aS n E),ar (.lst S.length),x5,x6,x7,x8]) (b9 (ju (ys:=[]) (S1:=S) rfl (Nr _)))).trans ((aQ (rP N hf)).trans ((aQ (rP (pY (n:=2) rfl (by decide)) L)).trans (Es (K6 (S1:=W) (Er ?_) (Er ?_)))))
 ·show iD (az _ _ _) X=_;rw[call2 (x:=.lst k) (y:=aS n E) rfl rfl];exact O
 ·show iD (az _ _ _) W=_;rw[call2 (x:=.lst k) (y:=aS n E) rfl rfl];exact I
end
theorem Jq{S:av}{ns:List Int}{i:Nat}{o2 o3 o4 o5 o6 o7 o8:Option D}:∃x2 x3 x4 x5 x6 x7 x8 S1,jK [ar (.ro (ns.map D.int)),ar (.int i),o2,o3,o4,o5,o6,o7,o8] S=ar (.ok (.nx [ar (.ro (ns.map D.int)),ar (.int i),x2,x3,x4,x5,x6,x7,x8]),S1):=by
 obtain⟨_,_,R,xs,rfl,rfl,hs⟩:=FX (S:=S) (ns:=ns) (k:=i) (Q:=λd r=>∃xs,d= .lst S.length/\r=S++[xs]/\eB (S++[xs]) S.length) λxs h=>⟨xs,rfl,rfl,h⟩;generalize S++[xs]=T0 at R hs;generalize S.length=k at R hs;obtain⟨W,X,N,e1,j,v,k1,t⟩:=IX (g:=7) (by decide) hs;obtain⟨Y,Z,U,e2,l,z,G,k2,q⟩:=D7 k1.st;have F:aL (bc (ae (aL (az fH (ae (mV 2) (ae (mK (.int 7)) ak)))) (ae (aL (az cm (ae (mV 2) ak))) ak))) [ar (.ro (ns.map D.int)),ar (.int i),ar (.lst k),o3,o4,o5,o6,o7,o8] T0=ar (.ok (.fz [aS W X,aS Y Z]),U):=by
  refine vh (ju (S1:=U) (ys:=[aS W X,aS Y Z]) (bO (S1:=N) ?_ (bO (S1:=U) ?_ rfl)) (by show 2<=lim;unfold lim;omega)) (k1.trans k2) (q.trans t) ?_
  ·show iD (az _ _ _) T0=_;rw[call2 (x:=.lst k) (y:=.int 7) rfl rfl];exact e1
  ·show iD (az _ _ _) N=_;rw[d9 (x:=.lst k) rfl];exact e2
  ·unfold bF bF bF;rw[vf,vf];rfl
 obtain⟨u,p,H,s,B,m,C,k3⟩:=EH (n:=W) (E:=X) (a0:=ar (.ro (ns.map D.int))) (a1:=ar (.int i)) (x4:=o4) (x5:=o5) (x6:=o6) (x7:=o7) (x8:=o8) (by omega) v k2.st;obtain⟨O,K,J,P,I,L,w,o⟩:=EH (n:=Y) (E:=Z) (a0:=ar (.ro (ns.map D.int))) (a1:=ar (.int i)) (x4:=u) (x5:=p) (x6:=H) (x7:=s) (x8:=B) (by omega) G k3.st;have A:eQ ⟨[aS W X,aS Y Z],.none⟩ (gN 3) jJ [aS W X,aS Y Z] [ar (.ro (ns.map D.int)),ar (.int i),ar (.lst k),o3,o4,o5,o6,o7,o8] U=ar (.ok (.nx [ar (.ro (ns.map D.int)),ar (.int i),ar (.lst k),ar (aS Y Z),O,K,J,P,I]),L):=by rw[kc rfl C,kc rfl w,gS];rfl
 have T:cg (aL (bc (ae (aL (az fH (ae (mV 2) (ae (mK (.int 7)) ak)))) (ae (aL (az cm (ae (mV 2) ak))) ak)))) [ar (.ro (ns.map D.int)),ar (.int i),ar (.lst k),o3,o4,o5,o6,o7,o8] T0=ar (.ok ⟨[aS W X,aS Y Z],.none⟩,U):=by unfold cg;rw[aD F];rfl
 refine⟨ar (.lst k),ar (aS Y Z),O,K,J,P,I,L,?_⟩;unfold jK;refine(aQ (ρ':=[ar (.ro (ns.map D.int)),ar (.int i),ar (.lst k),o3,o4,o5,o6,o7,o8]) (S1:=T0) (b9 (x:=.lst k) ?_)).trans (Af T A);rw[call2 (x:=.ro (ns.map D.int)) (y:=.int i) rfl rfl];exact R
theorem xh{its:List D}{ns:List Int}:∀(ts:List Nat) (o1 o2 o3 o4 o5 o6 o7 o8:Option D) (S:av),∃x1 Z Y x4 x5 x6 x7 x8 S1,eQ ⟨its,.none⟩ (gN 1) jK (ts.map λi:Nat=>.int (0+(i:Int))) [ar (.ro (ns.map D.int)),o1,o2,o3,o4,o5,o6,o7,o8] S=ar (.ok (.nx [ar (.ro (ns.map D.int)),x1,Z,Y,x4,x5,x6,x7,x8]),S1)
 |[],o1,o2,o3,o4,o5,o6,o7,o8,S=>⟨o1,o2,o3,o4,o5,o6,o7,o8,S,by rw[Oo,gS];rfl⟩
 |t::ts,o1,o2,o3,o4,o5,o6,o7,o8,S=>by
  obtain⟨Z,Y,x4,x5,x6,x7,x8,S1,h⟩:=Jq (S:=S) (ns:=ns) (i:=t) (o2:=o2) (o3:=o3) (o4:=o4) (o5:=o5) (o6:=o6) (o7:=o7) (o8:=o8);obtain⟨W,P,O,X,N,U,T,Q,S2,R⟩:=xh (its:=its) (ns:=ns) ts (ar (.int t)) Z Y x4 x5 x6 x7 x8 S1;refine⟨W,P,O,X,N,U,T,Q,S2,?_⟩;rw[Nd,P0];exact(kc rfl h).trans R
theorem K7{S:av}{ns:List Int}:runs (tQ [.ro (ns.map D.int)]) S (λd _=>d= .bl b_):=by
 have hm:az minD (ae (di gn (mV 0)) (ae (mK (.int 8)) ak)) [ar (.ro (ns.map D.int)),none,none,none,none,none,none,none,none]=aC (.int (if (8:Int)<(ns.map D.int).length then 8 else (ns.map D.int).length)):=(call2 (x:=.int (ns.map D.int).length) (y:=.int 8) rfl rfl).trans rfl;have Z:az maxD (ae (mK (.int 1)) (ae (az minD (ae (di gn (mV 0)) (ae (mK (.int 8)) ak))) ak)) [ar (.ro (ns.map D.int)),none,none,none,none,none,none,none,none]=aC (.int (if (if (8:Int)<(ns.map D.int).length then (8:Int)else (ns.map D.int).length)>1 then (if (8:Int)<(ns.map D.int).length then 8 else (ns.map D.int).length)else 1)):=(call2 (x:=.int 1) rfl hm).trans rfl;generalize hn:(if (if (8:Int)<(ns.map D.int).length then (8:Int)else (ns.map D.int).length)>1 then (if (8:Int)<(ns.map D.int).length then (8:Int)else (ns.map D.int).length)else 1)=n at Z;have Y:n<=8:=by rw[<-hn];split<;>split<;>omega
 have R:1<=n:=by rw[<-hn];split<;>split<;>omega
 have X:=(uW Z).trans (DR (by omega));obtain⟨T,W,U,x4,x5,x6,x7,x8,S1,hf⟩:=xh (its:=bq 0 n.toNat) (ns:=ns) (dr n.toNat) none none none none none none none none S;refine⟨.bl b_,S1,fK (o:=.ret (.bl b_)) ?_ rfl,rfl⟩;unfold DP;exact(aQ (rP X hf)).trans (Nt (eN (x:=.bl b_) rfl) S1)
def top(i:Nat):Stmt:=PySem.Challenge.pw_tiewebs_k02_places_and_pieces.main.body.getD i (.Pass ⟨0,0,0,0⟩)
structure Txt(K:dV)(mg:Str->Option a_):Prop where
 err:ja K=b_
 dk:FJ K=b_
 b_ValueError:mg "ValueError"=none
 b_all:mg "all"=none
 b_bool:mg "bool"=none
 b_int:mg "int"=none
 b_isinstance:mg "isinstance"=none
 b_len:mg "len"=none
 b_list:mg "list"=none
 b_max:mg "max"=none
 b_min:mg "min"=none
 b_range:mg "range"=none
 b_set:mg "set"=none
 b_sorted:mg "sorted"=none
 b_tuple:mg "tuple"=none
 b_zip:mg "zip"=none
 g_MOST_PLACES:∃t,mg "MOST_PLACES"=ar (.int 14 t)
theorem oE{N P:List Str}{Z:Scope}(a:Z.kind= .function:=by exact rfl)(b:Z.isCoroutine=false:=by exact rfl)(c:Z.isGenerator=false:=by exact rfl)(d:N.Nodup:=by decide+kernel)(e:N.take P.length=P:=by exact rfl)(f:∀x∈P,Z.names.lookup x=ar .local\/Z.names.lookup x=ar .cell:=by decide+kernel)(g:∀y∈Z.names,y.2≠ .free:=by decide+kernel):FnScope N P Z:=⟨a,b,c,d,e,f,g⟩
theorem xi:FnScope ["thing"] ["thing"] (ao (top 17)):=oE
theorem yI:FnScope ["thing"] ["thing"] (ao (top 18)):=oE
theorem vE:FnScope ["things"] ["things"] (ao (top 21)):=oE
theorem xj:FnScope ["web","one","other"] ["web","one","other"] (ao (top 26)):=oE
theorem pZ:FnScope ["_law_script","_law_k"] ["_law_script","_law_k"] (ao (top 32)):=oE
theorem iJ:FnScope ["_law_state_here","_law_many","_law_found","_law_stirred"] ["_law_state_here","_law_many"] (ao (top 34)):=oE
theorem jz:FnScope ["_law_many","_law_found","_law_a"] ["_law_many"] (ao (top 35)):=oE
theorem vF:FnScope ["_law_web_here","_law_one","_law_other"] ["_law_web_here","_law_one","_law_other"] (ao (top 39)):=oE
theorem de:FnScope ["_law_web_here","_law_some","_law_one","_law_other","_law_mine","_law_theirs"] ["_law_web_here"] (ao (top 43)):=oE
theorem xm:FnScope ["many","thing"] ["many","thing"] (ao (top 19)):=oE
theorem mn:FnScope ["_law_script","_law_k","_law_cell"] ["_law_script","_law_k"] (ao (top 33)):=oE
theorem gk:FnScope ["_law_state_here","_law_things","_law_left","_law_found"] ["_law_state_here","_law_things"] (ao (top 36)):=oE
theorem cI:FnScope ["_law_state_here","_law_many","_law_ties","_law_turn","_law_one","_law_other"] ["_law_state_here"] (ao (top 38)):=oE
theorem kj:FnScope ["_law_state_here","_law_some"] ["_law_state_here"] (ao (top 40)):=oE
theorem pE:FnScope ["many","thing","low","high"] ["many","thing"] (ao (top 20)):=oE
theorem vG:FnScope ["many","thing"] ["many","thing"] (ao (top 22)):=oE
theorem dD:FnScope ["_law_state_here","_law_most","_law_many","_law_way","_law_ties","_law_row","_law_at","_law_odd"] ["_law_state_here","_law_most"] (ao (top 37)):=oE
theorem pF:FnScope ["thing","many","ties"] ["thing"] (ao (top 23)):=oE
theorem xo:FnScope ["thing"] ["thing"] (ao (top 24)):=oE
theorem sN:FnScope ["web","place"] ["web","place"] (ao (top 25)):=oE
theorem mT:FnScope ["web","many","ties"] ["web"] (ao (top 28)):=oE
theorem eI:FnScope ["web","many","ties","leasts","low","high","kept","gone","heads"] ["web"] (ao (top 29)):=oE
theorem lN:FnScope ["web","some","many","ties","kept"] ["web","some"] (ao (top 30)):=oE
theorem Gx:FnScope ["web","place"] ["web","place"] (ao (top 27)):=oE
theorem vH:FnScope ["_law_found","_law_due"] ["_law_found","_law_due"] (ao (top 41)):=oE
theorem b8:FnScope ["_law_call","_law_error","e","_law_marks","_law_found"] ["_law_call"] (ao (top 42)):=oE
theorem bg:FnScope ["_law_state_here","_law_web_here","_law_some","_law_ties","_law_b","_law_at","_law_odd","_law_bad"] ["_law_state_here","_law_web_here"] (ao (top 44)):=oE
theorem cX:FnScope ["_law_state_here","_law_web_here","_law_bad","_law_none","_law_calls"] ["_law_state_here","_law_web_here"] (ao (top 45)):=oE
theorem ke:FnScope ["_law_script","_law_k","_law_state_here","_law_web_here","_law_due","_law_place","_law_turn","_law_found","_law_some"] ["_law_script"] (ao (top 46)):=oE
section
variable {P:er}{w:fc}{K:dV}{mg:Str->Option a_}{base:gd}
theorem xp{f:c_}{X:gg}(F:Fun K "is_whole" "is_whole" (top 17) f X)(Y:mg "is_whole"=ar (.ref f))(T:Txt K mg):DefX P w K mg base 1 "is_whole" ["thing"] dE:=
 cQ (m:=rF) F Y (F.binds λ_ _ _ _ _ _ us Z=>match us,Z with|[_],_=>rfl) xi rfl λU A outer s H E S=>
  aR (br (jR (iP (Ts:="int") T.b_isinstance T.b_int (aa 0)) (my (HN (iP (Ts:="bool") T.b_isinstance T.b_bool (aa 0))))))
theorem yJ{f:c_}{X:gg}(F:Fun K "is_pair" "is_pair" (top 18) f X)(Y:mg "is_pair"=ar (.ref f))(T:Txt K mg):DefX P w K mg base 1 "is_pair" ["thing"] eE:=
 cQ (m:=tP) F Y (F.binds λ_ _ _ _ _ _ us Z=>match us,Z with|[_],_=>rfl) yI rfl λU A outer s H E S=>
  aR (br (jR (iP (Ts:="tuple") T.b_isinstance T.b_tuple (aa 0)) (my (yY (fT S) (ib T.b_len (aa 0)) aB))))
theorem vI{f:c_}{U:gg}(F:Fun K "is_rising" "is_rising" (top 21) f U)(Z:mg "is_rising"=ar (.ref f))(T:Txt K mg):DefX P w K mg base 1 "is_rising" ["things"] dw:=
 cQ (m:=pN) F Z (F.binds λ_ _ _ _ _ _ us X=>match us,X with|[_],_=>rfl) vE rfl λY A outer s H E S=>
  aR (br (uz rfl T.b_all (aG (bQ (t:=iS) (m:=iT) (gp (Nc:=["ahead","behind"]) (js:=[none,none]) (ao (top 21)) ["things"] (λ_=>rfl) rfl (by decide+kernel)) rfl (zN T.b_zip (aa 0) (aG (kN (aa 0) (nu aB) nq))) (λC ex s2 R=>⟨hV rfl (bB (aM 0 (show(["ahead","behind"]:List Str).Nodup by decide+kernel)) (bB (aM 1 (show(["ahead","behind"]:List Str).Nodup by decide+kernel)) fD)),eX,GJ (Km S) (aa 0) (aa 1)⟩)))))
theorem xq{f:c_}{X:gg}(F:Fun K "are_tied" "are_tied" (top 26) f X)(Y:mg "are_tied"=ar (.ref f))(T:Txt K mg):DefX P w K mg base 1 "are_tied" ["web","one","other"] jZ:=
 cQ (m:=rG) F Y (F.binds λ_ _ _ _ _ _ us Z=>match us,Z with|[_,_,_],_=>rfl) xj rfl λU A outer s H E S=>
  aR (br (yZ (fT S) (dO (af (qO rfl T.b_min (af (aa 1) (af (aa 2) ai au) au)) (af (oV rfl T.b_max (af (aa 1) (af (aa 2) ai au) au)) ai ba) ba)) (aZ (aa 0) aB)))
theorem p7{f:c_}{X:gg}(F:Fun K "_law_cell_at" "_law_cell_at" (top 32) f X)(Y:mg "_law_cell_at"=ar (.ref f))(T:Txt K mg):DefX P w K mg base 1 "_law_cell_at" ["_law_script","_law_k"] eS:=
 cQ (m:=kU) F Y (F.binds λ_ _ _ _ _ _ us Z=>match us,Z with|[_,_],_=>rfl) pZ rfl λU A outer s H E S=>
  aE (fM (GK (Km S) (aa 1) (ib T.b_len (aa 0))) (aR (br (aZ (aa 0) (aa 1)))) dP) (aR (br aB))
theorem vJ{f:c_}{X:gg}(F:Fun K "_law_take" "_law_take" (top 34) f X)(Y:mg "_law_take"=ar (.ref f))(T:Txt K mg):DefX P w K mg base 1 "_law_take" ["_law_state_here","_law_many"] aH:=
 cQ (m:=pO) F Y (F.binds λ_ _ _ _ _ _ us Z=>match us,Z with|[_,_],_=>rfl) iJ rfl λU A outer s H E S=>
  aE (fM (eL (aZ (aa 0) aB)) (aE (bp 2 iJ.nd (kK (aZ (aa 0) aB) (aa 1)) (hs:=dU)) (aE (kF (ur (aZ (aa 0) aB) (aa 1)) (zd (aa 0) aB)) (aR (br (aa 2))))) dP) (aE (kF (kK (cJ (qK (aZ (aa 0) aB) aB) aB) aB) (zd (aa 0) aB)) (aE (bp 3 iJ.nd (kK (cJ (cJ (qK (aZ (aa 0) aB) (aZ (aa 0) aB)) (qK aB (aZ (aa 0) aB))) aB) aB) (hs:=dU)) (aE (bp 3 iJ.nd (kK (cJ (qK (aa 3) (aa 3)) (qK aB (aa 3))) aB) (hs:=dU)) (aR (br (kK (ur (aa 3) aB) (aa 1)))))))
theorem sO{f:c_}{U:gg}(F:Fun K "_law_pairs" "_law_pairs" (top 35) f U)(Z:mg "_law_pairs"=ar (.ref f))(T:Txt K mg):DefX P w K mg base 1 "_law_pairs" ["_law_many"] bD:=
 cQ (m:=nU) F Z (F.binds λ_ _ _ _ _ _ us X=>match us,X with|[_],_=>rfl) jz rfl λY A outer s H E R=>
  aE (bp 1 jz.nd (bz ai) (hs:=iy)) (aE (iO (b:=ig) N7 rfl (bW T.b_range (aa 0)) (aM 2 jz.nd) (aR (eV (A9 (aa 1) (aG (bQ (t:=fF) (m:=fG) (gp (Nc:=["_law_b","_law_a"]) (js:=[none,ar 2]) (ao (top 35)) ["_law_many","_law_found","_law_a"] (λ_=>rfl) rfl (by decide+kernel)) rfl (tu T.b_range (cJ (aa 2) aB) (aa 0)) (λC ex s2 S=>⟨aM 0 (show(["_law_b","_law_a"]:List Str).Nodup by decide+kernel),eX,dO (af (aa 1) (af (aa 0) ai au) au)⟩))))))) (aR (br (aa 1))))
theorem vK{f:c_}{X:gg}(F:Fun K "_law_tied" "_law_tied" (top 39) f X)(Y:mg "_law_tied"=ar (.ref f))(T:Txt K mg):DefX P w K mg base 1 "_law_tied" ["_law_web_here","_law_one","_law_other"] fQ:=
 cQ (m:=pP) F Y (F.binds λ_ _ _ _ _ _ us Z=>match us,Z with|[_,_,_],_=>rfl) vF rfl λU A outer s H E S=>
  aR (br (yZ (fT S) (dO (af (qO rfl T.b_min (af (aa 1) (af (aa 2) ai au) au)) (af (oV rfl T.b_max (af (aa 1) (af (aa 2) ai au) au)) ai ba) ba)) (aZ (aa 0) aB)))
theorem sk{f:c_}{R:gg}(F:Fun K "_law_pieces" "_law_pieces" (top 43) f R)(X:mg "_law_pieces"=ar (.ref f))(T:Txt K mg):DefX P w K mg base 1 "_law_pieces" ["_law_web_here"] dF:=
 cQ (m:=l9) F X (F.binds λ_ _ _ _ _ _ us S=>match us,S with|[_],_=>rfl) de rfl λU A outer s H E Z=>
  aE (nR (jT 1 (t:=gz) (m:=gC) de.nd (gp (Nc:=["_law_place"]) (js:=[none]) (ao (top 43)) ["_law_web_here","_law_some","_law_one","_law_other","_law_mine","_law_theirs"] (λ_=>rfl) rfl (by decide+kernel)) rfl (bW T.b_range (aZ (aa 0) aB)) (λC ex s2 Y=>⟨aM 0 (show(["_law_place"]:List Str).Nodup by decide+kernel),eX,dO (af (aa 0) ai au)⟩))) (aE (iO (b:=dZ) N7 rfl (eM (aZ (aa 0) aB)) (hV rfl (bB (aM 2 de.nd) (bB (aM 3 de.nd) fD))) (aE (bp 4 de.nd (aZ (aG (bQ (t:=gD) (m:=gE) (gp (Nc:=["_law_piece","_law_one"]) (js:=[none,ar 2]) (ao (top 43)) ["_law_web_here","_law_some","_law_one","_law_other","_law_mine","_law_theirs"] (λ_=>rfl) rfl (by decide+kernel)) rfl (eM (aa 1)) (λC ex s2 Y=>⟨aM 0 (show(["_law_piece","_law_one"]:List Str).Nodup by decide+kernel),ef (v5 (fT Z) (aa 1) (aa 0)),aa 0⟩))) aB) (hs:=iz)) (aE (bp 5 de.nd (aZ (aG (bQ (t:=gF) (m:=gG) (gp (Nc:=["_law_piece","_law_other"]) (js:=[none,ar 3]) (ao (top 43)) ["_law_web_here","_law_some","_law_one","_law_other","_law_mine","_law_theirs"] (λ_=>rfl) rfl (by decide+kernel)) rfl (eM (aa 1)) (λC ex s2 Y=>⟨aM 0 (show(["_law_piece","_law_other"]:List Str).Nodup by decide+kernel),ef (v5 (fT Z) (aa 1) (aa 0)),aa 0⟩))) aB) (hs:=iz)) (aR (fM (qL (fT Z) (aa 4) (aa 5)) (aR (bp 1 de.nd (aG (cJ (aG (bQ (t:=dX) (m:=dY) (gp (Nc:=["_law_piece","_law_mine","_law_theirs"]) (js:=[none,ar 4,ar 5]) (ao (top 43)) ["_law_web_here","_law_some","_law_one","_law_other","_law_mine","_law_theirs"] (λ_=>rfl) rfl (by decide+kernel)) rfl (eM (aa 1)) (λC ex s2 Y=>⟨aM 0 (show(["_law_piece","_law_mine","_law_theirs"]:List Str).Nodup by decide+kernel),ef (CQ (fT Z) (aa 0) (dO (af (aa 1) (af (aa 2) ai au) au))),aa 0⟩))) (aG (bz (af (fV T.b_tuple (aG (yq T.b_sorted (aG (cJ (aa 4) (aa 5)))))) ai ba))))) (hs:=dU))) dP))))) (aR (br (aG (jI T.b_sorted (aa 1))))))
theorem xr{f:c_}{S:gg}(F:Fun K "is_place" "is_place" (top 19) f S)(U:mg "is_place"=ar (.ref f))(T:Txt K mg)(Z:DefX P w K mg base 1 "is_whole" ["thing"] dE):DefX P w K mg base 2 "is_place" ["many","thing"] da:=
 cQ (m:=rH) F U (F.binds λ_ _ _ _ _ _ us X=>match us,X with|[_,_],_=>rfl) xm rfl λR A outer s H E Y=>
  aR (br (jR (aO Z (Y.mono (by decide)) (af (aa 1) ai au)) (my (CN Ck (Cj.or (xF (Km Y))) (lD λ_ _ _ _=>.bl _) xP aB (aa 1) (aa 0)))))
theorem sP{f:c_}{U:gg}(F:Fun K "_law_state" "_law_state" (top 33) f U)(X:mg "_law_state"=ar (.ref f))(T:Txt K mg)(Z:DefX P w K mg base 1 "_law_cell_at" ["_law_script","_law_k"] eS):DefX P w K mg base 2 "_law_state" ["_law_script","_law_k"] iE:=
 cQ (m:=nV) F X (F.binds λ_ _ _ _ _ _ us Y=>match us,Y with|[_,_],_=>rfl) mn rfl λS A outer s H E R=>
  aE (bp 2 mn.nd (aO Z (R.mono (by decide)) (af (aa 0) (af (aa 1) ai au) au)) (hs:=fE)) (aE (fM (Ke (aa 2) (uu aB aB)) (aR (br (bz (af (mC (aa 2) (uu aB aB)) (af ik ai aw) dR)))) dP) (aR (br (bz (af (kK (aa 2) aB) (af ik ai aw) dR)))))
theorem oF{f:c_}{S:gg}(F:Fun K "_law_mixed_row" "_law_mixed_row" (top 36) f S)(U:mg "_law_mixed_row"=ar (.ref f))(T:Txt K mg)(Z:DefX P w K mg base 1 "_law_take" ["_law_state_here","_law_many"] aH):DefX P w K mg base 2 "_law_mixed_row" ["_law_state_here","_law_things"] d4:=
 cQ (m:=e9) F U (F.binds λ_ _ _ _ _ _ us X=>match us,X with|[_,_],_=>rfl) gk rfl λR A outer s H E Y=>
  aE (bp 2 gk.nd (y9 T.b_list (aa 1)) (hs:=fE)) (aE (bp 3 gk.nd (bz ai) (hs:=iy)) (aE (CI (b:=cN) 64 N7 (qL (fT Y) (aa 2) (aG (bz ai))) (aR (eV (gv (aa 3) (CZ (aa 2) (aG (aO Z (Y.mono (by decide)) (af (aa 0) (af (ib T.b_len (aa 2)) ai ba) au)))))))) (aR (br (aa 3)))))
theorem oG{f:c_}{S:gg}(F:Fun K "_law_great_web" "_law_great_web" (top 38) f S)(U:mg "_law_great_web"=ar (.ref f))(T:Txt K mg)(Z:DefX P w K mg base 1 "_law_take" ["_law_state_here","_law_many"] aH):DefX P w K mg base 2 "_law_great_web" ["_law_state_here"] cm:=
 cQ (m:=fe) F U (F.binds λ_ _ _ _ _ _ us X=>match us,X with|[_],_=>rfl) cI rfl λR A outer s H E Y=>
  aE (bp 1 cI.nd (cJ aB (aG (aO Z (Y.mono (by decide)) (af (aa 0) (af aB ai aw) au)))) (hs:=dU)) (aE (bp 2 cI.nd (bz ai) (hs:=iy)) (aE (iO (b:=fj) N7 rfl (bW T.b_range (aG (aO Z (Y.mono (by decide)) (af (aa 0) (af aB ai aw) au)))) (aM 3 cI.nd) (aE (bp 4 cI.nd (aG (aO Z (Y.mono (by decide)) (af (aa 0) (af (aa 1) ai au) au))) (hs:=fE)) (aE (bp 5 cI.nd (kK (cJ (cJ (aa 4) aB) (aG (aO Z (Y.mono (by decide)) (af (aa 0) (af (mC (aa 1) aB) ai dR) au)))) (aa 1)) (hs:=dU)) (aR (eV (gv (aa 2) (dO (af (qO rfl T.b_min (af (aa 4) (af (aa 5) ai au) au)) (af (oV rfl T.b_max (af (aa 4) (af (aa 5) ai au) au)) ai ba) ba)))))))) (aR (br (dO (af (aa 1) (af (fV T.b_tuple (aG (uJ rfl (ML Y) T.b_sorted T.b_set (aa 2)))) ai ba) au))))))
theorem p8{f:c_}{Q:gg}(F:Fun K "_law_bad_web" "_law_bad_web" (top 40) f Q)(S:mg "_law_bad_web"=ar (.ref f))(T:Txt K mg)(Z:DefX P w K mg base 1 "_law_take" ["_law_state_here","_law_many"] aH):DefX P w K mg base 2 "_law_bad_web" ["_law_state_here"] eT:=by
 refine cQ (m:=fZ) F S (F.binds λ_ _ _ _ _ _ us R=>match us,R with|[_],_=>rfl) kj rfl λY A outer s H E O=>?_;have key:∀e pos pos' X,SE (lR (nN P w) P w K mg base ["_law_state_here","_law_some"] "_law_bad_web" (ao (top 40)) f Y A outer s H E).nox eA e X->la e (ar (.Name "_law_some" pos')) pos.line (lR (nN P w) P w K mg base ["_law_state_here","_law_some"] "_law_bad_web" (ao (top 40)) f Y A outer s H E).nox.env=aC dt->SS (lR (nN P w) P w K mg base ["_law_state_here","_law_some"] "_law_bad_web" (ao (top 40)) f Y A outer s H E).nox eA (.Assign [.Name "_law_some" pos'] e pos) (bE 1 X):=λe pos pos' X h hs=>bp 1 kj.nd h (hs:=hs);have U:∀pos,SE (lR (nN P w) P w K mg base ["_law_state_here","_law_some"] "_law_bad_web" (ao (top 40)) f Y A outer s H E).nox eA (.Name "_law_some" pos) (mV 1):=λpos=>aa 1;refine aE ?_ ?_
 ·with_reducible refine key _ _ _ _ ?_ iy
  with_reducible refine bz ?_
  with_reducible refine aF kD ?_ aw
  with_reducible refine aF aB ?_ aw
  with_reducible refine aF (c9 6 ?_) ?_ bh
  case refine_1=>rfl
  with_reducible refine aF (c9 6 ?_) ?_ bh
  case refine_1=>rfl
  with_reducible refine aF (c9 6 ?_) ?_ bh
  case refine_1=>rfl
  with_reducible refine aF (c9 6 ?_) ?_ bh
  case refine_1=>rfl
  with_reducible refine aF ?_ ?_ bh
  case refine_1=>exact(dO (af aB (af (bz ai) ai qi) aw))
  with_reducible refine aF ?_ ?_ qi
  case refine_1=>exact(bz (af aB (af (c9 6 rfl) ai bh) aw))
  with_reducible refine aF (c9 6 ?_) ?_ bh
  case refine_1=>rfl
  with_reducible refine aF (c9 6 ?_) ?_ bh
  case refine_1=>rfl
  with_reducible refine aF C0 ?_ zB
  with_reducible refine aF kE ?_ aw
  exact ai
 refine aE ?_ ?_
 ·with_reducible refine key _ _ _ _ ?_ dU
  with_reducible refine cJ (U _) ?_
  with_reducible refine bz ?_
  with_reducible refine aF (c9 6 ?_) ?_ bh
  case refine_1=>rfl
  with_reducible refine aF (c9 6 ?_) ?_ bh
  case refine_1=>rfl
  with_reducible refine aF (c9 6 ?_) ?_ bh
  case refine_1=>rfl
  with_reducible refine aF (c9 6 ?_) ?_ bh
  case refine_1=>rfl
  with_reducible refine aF (c9 6 ?_) ?_ bh
  case refine_1=>rfl
  exact ai
 refine aE ?_ ?_
 ·with_reducible refine key _ _ _ _ ?_ dU
  with_reducible refine cJ (U _) ?_
  with_reducible refine bz ?_
  with_reducible refine aF (c9 6 ?_) ?_ bh
  case refine_1=>rfl
  with_reducible refine aF (c9 6 ?_) ?_ bh
  case refine_1=>rfl
  with_reducible refine aF (c9 6 ?_) ?_ bh
  case refine_1=>rfl
  with_reducible refine aF (c9 6 ?_) ?_ bh
  case refine_1=>rfl
  with_reducible refine aF ?_ ?_ bh
  case refine_1=>exact(dO (af aB (af (dO (af (bz (af aB (af aB ai aw) aw)) ai qi)) ai bh) aw))
  with_reducible refine aF (c9 6 ?_) ?_ bh
  case refine_1=>rfl
  with_reducible refine aF (c9 6 ?_) ?_ bh
  case refine_1=>rfl
  with_reducible refine aF (c9 6 ?_) ?_ bh
  case refine_1=>rfl
  exact ai
 exact(aR (br (aZ (aa 1) (aO Z (O.mono (by decide)) (af (aa 0) (af aB ai aw) au)))))
theorem BV{f:c_}{R:gg}(F:Fun K "is_tie" "is_tie" (top 20) f R)(S:mg "is_tie"=ar (.ref f))(T:Txt K mg)(Y:DefX P w K mg base 1 "is_pair" ["thing"] eE)(Z:DefX P w K mg base 2 "is_place" ["many","thing"] da):DefX P w K mg base 3 "is_tie" ["many","thing"] nW:=
 cQ (m:=rJ) F S (F.binds λ_ _ _ _ _ _ us U=>match us,U with|[_,_],_=>rfl) pE rfl λQ A outer s H E X=>
  aE (fM (gq (eL (aO Y (X.mono (by decide)) (af (aa 1) ai au)))) (aR (br ik)) dP) (aE (kF (aa 1) (hV rfl (bB (aM 2 pE.nd) (bB (aM 3 pE.nd) fD)))) (aR (br (jR (aO Z (X.mono (by decide)) (af (aa 0) (af (aa 2) ai au) au)) (jR (aO Z (X.mono (by decide)) (af (aa 0) (af (aa 3) ai au) au)) (my (GJ (Km X) (aa 2) (aa 3))))))))
theorem vL{f:c_}{Q:gg}(F:Fun K "is_places" "is_places" (top 22) f Q)(U:mg "is_places"=ar (.ref f))(T:Txt K mg)(Y:DefX P w K mg base 2 "is_place" ["many","thing"] da)(Z:DefX P w K mg base 1 "is_rising" ["things"] dw):DefX P w K mg base 3 "is_places" ["many","thing"] bZ:=
 cQ (m:=pQ) F U (F.binds λ_ _ _ _ _ _ us R=>match us,R with|[_,_],_=>rfl) vG rfl λS A outer s H E X=>
  aR (br (jR (iP (Ts:="tuple") T.b_isinstance T.b_tuple (aa 1)) (jR (uz rfl T.b_all (aG (bQ (t:=f7) (m:=f9) (gp (Nc:=["place","many"]) (js:=[none,ar 0]) (ao (top 22)) ["many","thing"] (λ_=>rfl) rfl (by decide+kernel)) rfl (eM (aa 1)) (λC ex s2 O=>⟨aM 0 (show(["place","many"]:List Str).Nodup by decide+kernel),eX,aG (aO Y (X.mono (by decide)) (af (aa 1) (af (aa 0) ai au) au))⟩)))) (my (aG (aO Z (X.mono (by decide)) (af (aa 1) ai au)))))))
theorem xt{f:c_}{N:gg}(F:Fun K "_law_web" "_law_web" (top 37) f N)(R:mg "_law_web"=ar (.ref f))(T:Txt K mg)(Z:DefX P w K mg base 1 "_law_take" ["_law_state_here","_law_many"] aH)(Y:DefX P w K mg base 1 "_law_pairs" ["_law_many"] bD)(X:DefX P w K mg base 2 "_law_mixed_row" ["_law_state_here","_law_things"] d4):DefX P w K mg base 3 "_law_web" ["_law_state_here","_law_most"] fH:=
 cQ (m:=j4) F R (F.binds λ_ _ _ _ _ _ us O=>match us,O with|[_,_],_=>rfl) dD rfl λQ A outer s H E U=>
  aE (bp 2 dD.nd (oV rfl T.b_max (af aB (af (mC (aa 1) (aZ (aG (bz (by (refine aF aB ?_ aw;refine aF aB ?_ aw;refine aF aB ?_ aw;refine aF aB ?_ aw;refine aF aB ?_ aw;refine aF aB ?_ aw;refine aF aB ?_ aw;refine aF (aa 1) ?_ au;exact ai)))) (aG (aO Z (U.mono (by decide)) (af (aa 0) (af aB ai aw) au))))) ai dR) aw)) (hs:=fE)) (aE (bp 3 dD.nd (aG (aO Z (U.mono (by decide)) (af (aa 0) (af aB ai aw) au))) (hs:=fE)) (aE (bp 4 dD.nd (bQ (t:=jq) (m:=jr) (gp (Nc:=["_law_tie","_law_state_here","_law_way"]) (js:=[none,ar 0,ar 3]) (ao (top 37)) ["_law_state_here","_law_most","_law_many","_law_way","_law_ties","_law_row","_law_at","_law_odd"] (λ_=>rfl) rfl (by decide+kernel)) rfl (eM (aG (aO Y (U.mono (by decide)) (af (aa 2) ai au)))) (λC ex s2 S=>⟨aM 0 (show(["_law_tie","_law_state_here","_law_way"]:List Str).Nodup by decide+kernel),ef (GK (Km U) (aG (aO Z (U.mono (by decide)) (af (aa 1) (af aB ai aw) au))) (aZ (aG (bz (af aB (af aB (af aB ai aw) aw) aw))) (kK (aa 2) aB))),aa 0⟩))) (aE (bp 5 dD.nd (aG (aO X (U.mono (by decide)) (af (aa 0) (af (aG (nA rfl T.b_list T.b_range (aa 2))) ai ba) au))) (hs:=fE)) (aE (fM (CM (aa 3) aB) (aE (bp 4 dD.nd (bz ai) (hs:=iy)) (aE (iO (b:=gO) N7 rfl (tu T.b_range aB (aa 2)) (aM 6 dD.nd) (aR (eV (gv (aa 4) (fV T.b_tuple (aG (jI T.b_sorted (aG (bz (af (aZ (aa 5) (aa 6)) (af (aZ (aa 5) (aZ (aG (bz (by (refine aF (mC (aa 6) aB) ?_ dR;refine aF (mC (aa 6) aB) ?_ dR;refine aF aB ?_ aw;refine aF (ur (aa 6) aB) ?_ dR;exact ai)))) (mC (aa 3) aB))) ai bC) bC)))))))))) (aE (fM (CG (CF (tq (fT U) (aa 3) aB) (yW (CM (aa 2) aB)))) (aR (eV (gv (aa 4) (fV T.b_tuple (aG (jI T.b_sorted (aG (bz (af (aZ (aa 5) aB) (af (aZ (aa 5) (mC (aa 2) aB)) ai bC) bC))))))))) dP) (aE (bp 7 dD.nd (aG (bQ (t:=fu) (m:=fw) (gp (Nc:=["_law_tie","_law_state_here"]) (js:=[none,ar 0]) (ao (top 37)) ["_law_state_here","_law_most","_law_many","_law_way","_law_ties","_law_row","_law_at","_law_odd"] (λ_=>rfl) rfl (by decide+kernel)) rfl (eM (aG (aO Y (U.mono (by decide)) (af (aa 2) ai au)))) (λC ex s2 S=>⟨aM 0 (show(["_law_tie","_law_state_here"]:List Str).Nodup by decide+kernel),ef (tq (fT U) (aG (aO Z (U.mono (by decide)) (af (aa 1) (af aB ai aw) au))) aB),aa 0⟩)))) (aR (bp 4 dD.nd (bQ (t:=gQ) (m:=gR) (gp (Nc:=["_law_tie","_law_ties","_law_odd"]) (js:=[none,ar 4,ar 7]) (ao (top 37)) ["_law_state_here","_law_most","_law_many","_law_way","_law_ties","_law_row","_law_at","_law_odd"] (λ_=>rfl) rfl (by decide+kernel)) rfl (eM (aG (aO Y (U.mono (by decide)) (af (aa 2) ai au)))) (λC ex s2 S=>⟨aM 0 (show(["_law_tie","_law_ties","_law_odd"]:List Str).Nodup by decide+kernel),ef (qL (fT U) (yZ (fT U) (aa 0) (aa 1)) (yZ (fT U) (aa 0) (aa 2))),aa 0⟩)))))))) dP) (aR (br (dO (af (aa 2) (af (fV T.b_tuple (aG (jI T.b_sorted (aa 4)))) ai ba) au))))))))
theorem BW{f:c_}{N:gg}(F:Fun K "is_web" "is_web" (top 23) f N)(R:mg "is_web"=ar (.ref f))(T:Txt K mg)(Y:DefX P w K mg base 1 "is_whole" ["thing"] dE)(X:DefX P w K mg base 1 "is_pair" ["thing"] eE)(U:DefX P w K mg base 3 "is_tie" ["many","thing"] nW)(Z:DefX P w K mg base 1 "is_rising" ["things"] dw):DefX P w K mg base 4 "is_web" ["thing"] kX:=
 cQ (m:=rK) F R (F.binds λ_ _ _ _ _ _ us O=>match us,O with|[_],_=>rfl) pF rfl λQ A outer s H E S=>
  aE (fM (gq (eL (aG (aO X (S.mono (by decide)) (af (aa 0) ai au))))) (aR (br ik)) dP) (aE (kF (aa 0) (hV rfl (bB (aM 1 pF.nd) (bB (aM 2 pF.nd) fD)))) (aE (fM (CG (yX (gq (eL (aG (aO Y (S.mono (by decide)) (af (aa 1) ai au))))) (yX (gq (CO Ck Ck (lD λ_ _ _ _=>.bl _) (lD λ_ _ _ _=>.bl _) aB (aa 1) (Dm rfl T.g_MOST_PLACES))) (xO (gq (eL (iP (Ts:="tuple") T.b_isinstance T.b_tuple (aa 2)))))))) (aR (br ik)) dP) (aR (br (jR (uz rfl T.b_all (aG (bQ (t:=jc) (m:=jd) (gp (Nc:=["tie","many"]) (js:=[none,ar 1]) (ao (top 23)) ["thing","many","ties"] (λ_=>rfl) rfl (by decide+kernel)) rfl (eM (aa 2)) (λC ex s2 L=>⟨aM 0 (show(["tie","many"]:List Str).Nodup by decide+kernel),eX,aG (aO U (S.mono (by decide)) (af (aa 1) (af (aa 0) ai au) au))⟩)))) (my (aG (aO Z (S.mono (by decide)) (af (aa 2) ai au)))))))))
theorem xu{f:c_}{U:gg}(F:Fun K "need_web" "need_web" (top 24) f U)(X:mg "need_web"=ar (.ref f))(T:Txt K mg)(Z:DefX P w K mg base 4 "is_web" ["thing"] kX):DefX P w K mg base 5 "need_web" ["thing"] cn:=
 lJ (m:=rL) F X (F.binds λ_ _ _ _ _ _ us Y=>match us,Y with|[_],_=>rfl) xo rfl λS A outer s H E R=>
  aR (fM (gq (eL (aG (dv Z (R.mono (by decide)) bY.pass (af (aa 0) ai au))))) (aR (rq bY rfl T.err (by decide) (by decide) (af kE ai aw))) dP)
theorem sQ{f:c_}{R:gg}(F:Fun K "need_place" "need_place" (top 25) f R)(S:mg "need_place"=ar (.ref f))(T:Txt K mg)(Y:DefX P w K mg base 2 "is_place" ["many","thing"] da)(Z:DefX P w K mg base 5 "need_web" ["thing"] cn):DefX P w K mg base 6 "need_place" ["web","place"] gf:=
 lJ (m:=nX) F S (F.binds λ_ _ _ _ _ _ us U=>match us,U with|[_,_],_=>rfl) sN rfl λQ A outer s H E X=>
  aE (eV (aG (dv Z (X.mono (by decide)) bY.pass (af (aa 0) ai au)))) (aR (fM (gq (eL (aG (dv Y (X.mono (by decide)) bY.pass (af (aZ (aa 0) aB) (af (aa 1) ai au) bC))))) (aR (rq bY rfl T.err (by decide) (by decide) (af kE ai aw))) dP))
theorem yK{f:c_}{Q:gg}(F:Fun K "degrees" "degrees" (top 28) f Q)(U:mg "degrees"=ar (.ref f))(T:Txt K mg)(Z:DefX P w K mg base 5 "need_web" ["thing"] cn):DefX P w K mg base 6 "degrees" ["web"] eF:=
 lJ (m:=lK) F U (F.binds λ_ _ _ _ _ _ us R=>match us,R with|[_],_=>rfl) mT rfl λS A outer s H E Y=>
  aE (eV (aG (dv Z (Y.mono (by decide)) bY.pass (af (aa 0) ai au)))) (aE (kF (aa 0) (hV rfl (bB (aM 1 mT.nd) (bB (aM 2 mT.nd) fD)))) (aR (br (nO (bQ (t:=j8) (m:=j9) (gp (Nc:=["place","ties"]) (js:=[none,ar 2]) (ao (top 28)) ["web","many","ties"] (λ_=>rfl) rfl (by decide+kernel)) rfl (bW T.b_range (aa 1)) (λC ex s2 X=>⟨aM 0 (show(["place","ties"]:List Str).Nodup by decide+kernel),eX,ib T.b_len (aG (bQ (t:=j5) (m:=j6) (gp (Nc:=["tie","place"]) (js:=[none,ar 0]) _ ["place","ties"] (λ_=>rfl) rfl rfl) rfl (eM (aa 1)) (λC ex s2 X=>⟨aM 0 (show(["tie","place"]:List Str).Nodup by decide+kernel),ef (v5 (fT Y) (aa 1) (aa 0)),aa 0⟩)))⟩))))))
theorem BX{f:c_}{Q:gg}(F:Fun K "pieces" "pieces" (top 29) f Q)(U:mg "pieces"=ar (.ref f))(T:Txt K mg)(Z:DefX P w K mg base 5 "need_web" ["thing"] cn):DefX P w K mg base 6 "pieces" ["web"] fx:=
 lJ (m:=nY) F U (F.binds λ_ _ _ _ _ _ us R=>match us,R with|[_],_=>rfl) eI rfl λS A outer s H E Y=>
  aE (eV (aG (dv Z (Y.mono (by decide)) bY.pass (af (aa 0) ai au)))) (aE (kF (aa 0) (hV rfl (bB (aM 1 eI.nd) (bB (aM 2 eI.nd) fD)))) (aE (bp 3 eI.nd (aG (nA rfl T.b_list T.b_range (aa 1))) (hs:=fE)) (aE (iO (b:=gY) bY.ow rfl (eM (aa 2)) (hV rfl (bB (aM 4 eI.nd) (bB (aM 5 eI.nd) fD))) (aE (bp 6 eI.nd (qO rfl T.b_min (af (aZ (aa 3) (aa 4)) (af (aZ (aa 3) (aa 5)) ai bC) bC)) (hs:=fE)) (aE (bp 7 eI.nd (oV rfl T.b_max (af (aZ (aa 3) (aa 4)) (af (aZ (aa 3) (aa 5)) ai bC) bC)) (hs:=fE)) (aR (bp 3 eI.nd (aG (nO (bQ (t:=kY) (m:=kZ) (gp (Nc:=["least","gone","kept"]) (js:=[none,ar 7,ar 6]) (ao (top 29)) ["web","many","ties","leasts","low","high","kept","gone","heads"] (λ_=>rfl) rfl (by decide+kernel)) rfl (eM (aa 3)) (λC ex s2 X=>⟨aM 0 (show(["least","gone","kept"]:List Str).Nodup by decide+kernel),eX,GI (tq (fT Y) (aa 0) (aa 1)) (aa 2) (aa 0)⟩))))))))) (aE (zG (nR (jT 8 (t:=je) (m:=jf) eI.nd (gp (Nc:=["place","leasts"]) (js:=[none,ar 3]) (ao (top 29)) ["web","many","ties","leasts","low","high","kept","gone","heads"] (λ_=>rfl) rfl (by decide+kernel)) rfl (bW T.b_range (aa 1)) (λC ex s2 X=>⟨aM 0 (show(["place","leasts"]:List Str).Nodup by decide+kernel),ef (tq (fT Y) (aZ (aa 1) (aa 0)) (aa 0)),aa 0⟩)))) (aR (br (nO (bQ (t:=lh) (m:=lj) (gp (Nc:=["head","many","leasts"]) (js:=[none,ar 1,ar 3]) (ao (top 29)) ["web","many","ties","leasts","low","high","kept","gone","heads"] (λ_=>rfl) rfl (by decide+kernel)) rfl (eM (aa 8)) (λC ex s2 X=>⟨aM 0 (show(["head","many","leasts"]:List Str).Nodup by decide+kernel),eX,fV T.b_tuple (aG (bQ (t:=k9) (m:=lg) (gp (Nc:=["place","leasts","head"]) (js:=[none,ar 2,ar 0]) _ ["head","many","leasts"] (λ_=>rfl) rfl rfl) rfl (bW T.b_range (aa 1)) (λC ex s2 X=>⟨aM 0 (show(["place","leasts","head"]:List Str).Nodup by decide+kernel),ef (tq (fT Y) (aZ (aa 1) (aa 0)) (aa 2)),aa 0⟩)))⟩)))))))))
theorem BY{f:c_}{O:gg}(F:Fun K "within" "within" (top 30) f O)(S:mg "within"=ar (.ref f))(T:Txt K mg)(Z:DefX P w K mg base 3 "is_places" ["many","thing"] bZ)(Y:DefX P w K mg base 5 "need_web" ["thing"] cn):DefX P w K mg base 6 "within" ["web","some"] fy:=
 lJ (m:=wM) F S (F.binds λ_ _ _ _ _ _ us Q=>match us,Q with|[_,_],_=>rfl) lN rfl λR A outer s H E X=>
  aE (eV (aG (dv Y (X.mono (by decide)) bY.pass (af (aa 0) ai au)))) (aE (kF (aa 0) (hV rfl (bB (aM 2 lN.nd) (bB (aM 3 lN.nd) fD)))) (aE (fM (gq (eL (aG (dv Z (X.mono (by decide)) bY.pass (af (aa 2) (af (aa 1) ai au) au))))) (aR (rq bY rfl T.err (by decide) (by decide) (af kE ai aw))) dP) (aE (zG (nR (jT 4 (t:=jg) (m:=jh) lN.nd (gp (Nc:=["low","high","some"]) (js:=[none,none,ar 1]) (ao (top 30)) ["web","some","many","ties","kept"] (λ_=>rfl) rfl (by decide+kernel)) rfl (eM (aa 3)) (λC ex s2 U=>⟨hV rfl (bB (aM 0 (show(["low","high","some"]:List Str).Nodup by decide+kernel)) (bB (aM 1 (show(["low","high","some"]:List Str).Nodup by decide+kernel)) fD)),ef (CG (CF (v5 (fT X) (aa 0) (aa 2)) (yW (v5 (fT X) (aa 1) (aa 2))))),dO (af (aa 0) (af (aa 1) ai au) au)⟩)))) (aR (br (dO (af (ib T.b_len (aa 1)) (af (fV T.b_tuple (aG (nO (bQ (t:=ji) (m:=jj) (gp (Nc:=["low","high","some"]) (js:=[none,none,ar 1]) (ao (top 30)) ["web","some","many","ties","kept"] (λ_=>rfl) rfl (by decide+kernel)) rfl (eM (aa 4)) (λC ex s2 U=>⟨hV rfl (bB (aM 0 (show(["low","high","some"]:List Str).Nodup by decide+kernel)) (bB (aM 1 (show(["low","high","some"]:List Str).Nodup by decide+kernel)) fD)),eX,dO (af (wK (fT X) (aa 2) (aa 0)) (af (wK (fT X) (aa 2) (aa 1)) ai ba) ba)⟩))))) ai ba) ba)))))))
theorem Gy{f:c_}{Q:gg}(F:Fun K "near" "near" (top 27) f Q)(U:mg "near"=ar (.ref f))(T:Txt K mg)(Z:DefX P w K mg base 6 "need_place" ["web","place"] gf)(Y:DefX P w K mg base 1 "are_tied" ["web","one","other"] jZ):DefX P w K mg base 7 "near" ["web","place"] jt:=
 lJ (m:=uV) F U (F.binds λ_ _ _ _ _ _ us R=>match us,R with|[_,_],_=>rfl) Gx rfl λS A outer s H E X=>
  aE (eV (aG (dv Z (X.mono (by decide)) bY.pass (af (aa 0) (af (aa 1) ai au) au)))) (aR (br (nO (bQ (t:=pj) (m:=pk) (gp (Nc:=["other","web","place"]) (js:=[none,ar 0,ar 1]) (ao (top 27)) ["web","place"] (λ_=>rfl) rfl (by decide+kernel)) rfl (bW T.b_range (aZ (aa 0) aB)) (λC ex s2 O=>⟨aM 0 (show(["other","web","place"]:List Str).Nodup by decide+kernel),ef (eL (aG (aO Y (X.mono (by decide)) (af (aa 1) (af (aa 2) (af (aa 0) ai au) au) au)))),aa 0⟩)))))
theorem sR{j:Nat}{X:List D->M D}{f:c_}{Q:gg}(F:Fun K "_law_same" "_law_same" (top 41) f Q)(U:mg "_law_same"=ar (.ref f))(T:Txt K mg)(Z:DefX P w K mg base (1+j) "_law_same" ["_law_found","_law_due"] X):DefX P w K mg base (1+j+1) "_law_same" ["_law_found","_law_due"] (mU 2 2 (dy X)):=
 cQ (m:=dy X) F U (F.binds λ_ _ _ _ _ _ us R=>match us,R with|[_,_],_=>rfl) vH rfl λS A outer s H E Y=>
  aE (fM (eL (Fm (Ts:="tuple") (Us:="list") T.b_isinstance T.b_tuple T.b_list (aa 1))) (aE (fM (CG (yX (qL (fT Y) (iP (Ts:="tuple") T.b_isinstance T.b_tuple (aa 0)) (iP (Ts:="tuple") T.b_isinstance T.b_tuple (aa 1))) (xO (qL (fT Y) (iP (Ts:="list") T.b_isinstance T.b_list (aa 0)) (iP (Ts:="list") T.b_isinstance T.b_list (aa 1)))))) (aR (br ik)) dP) (aE (fM (qL (fT Y) (ib T.b_len (aa 0)) (ib T.b_len (aa 1))) (aR (br ik)) dP) (aR (br (uz rfl T.b_all (aG (bQ (t:=d5 X) (m:=d6 X) (gp (Nc:=["_law_one","_law_other"]) (js:=[none,none]) (ao (top 41)) ["_law_found","_law_due"] (λ_=>rfl) rfl (by decide+kernel)) rfl (zN T.b_zip (aa 0) (aa 1)) (λC ex s2 O=>⟨hV rfl (bB (aM 0 (show(["_law_one","_law_other"]:List Str).Nodup by decide+kernel)) (bB (aM 1 (show(["_law_one","_law_other"]:List Str).Nodup by decide+kernel)) fD)),eX,aG (aO Z (Y.mono (MV _)) (af (aa 0) (af (aa 1) ai au) au))⟩)))))))) dP) (aR (br (jR (yY (fT Y) (aa 0) (aa 1)) (my (yY (fT Y) (iP (Ts:="bool") T.b_isinstance T.b_bool (aa 0)) (iP (Ts:="bool") T.b_isinstance T.b_bool (aa 1)))))))
theorem mq{f:c_}{X:gg}(F:Fun K "_law_same" "_law_same" (top 41) f X)(Z:mg "_law_same"=ar (.ref f))(T:Txt K mg):∀n,DefX P w K mg base (1+n) "_law_same" ["_law_found","_law_due"] (a8 n)
 |0=>DefX.none F Z (F.binds λ_ _ _ _ _ _ us Y=>match us,Y with|[_,_],_=>rfl)
 |n+1=>sR F Z T (mq F Z T n)
theorem vM{f:c_}{Y:gg}(F:Fun K "_law_same" "_law_same" (top 41) f Y)(Z:mg "_law_same"=ar (.ref f))(T:Txt K mg):DefX P w K mg base 7 "_law_same" ["_law_found","_law_due"] cD:=mq F Z T 6
theorem p9{f:c_}{S:gg}(F:Fun K "_law_refused" "_law_refused" (top 42) f S)(Y:mg "_law_refused"=ar (.ref f))(T:Txt K mg):RefX P w K mg 9 8 "_law_refused" ["_law_call"] bw:=
 IA (m:=gh) F Y (F.binds λ_ _ _ _ _ _ us U=>match us,U with|[_],_=>rfl) b8 rfl λbase G a Q ql ds vs mm L X A outer s H E Z=>
  aE (bp 1 b8.nd kD (hs:=wD)) (aE (Iz rfl rfl L (Z.mono (by decide)) b8.nd T.err G rfl (.inl rfl) rfl rfl rfl rfl rfl) (aE (bp 3 b8.nd (bz (af (eZ T.err (by decide) G T.b_isinstance (aa 1)) (af (eZ T.err (by decide) G T.b_isinstance (aa 1)) (af (eZ T.err (by decide) G T.b_isinstance (aa 1)) ai ba) ba) ba)) (hs:=iy)) (aE (bp 3 b8.nd (cJ (aa 3) (aG (bz (af (eZ T.err (by decide) G T.b_isinstance (aa 1)) (af (eZ T.err (by decide) G T.b_isinstance (aa 1)) (af (eZ T.err (by decide) G T.b_isinstance (aa 1)) ai ba) ba) ba)))) (hs:=dU)) (aE (bp 3 b8.nd (cJ (aa 3) (aG (bz (af (eZ T.err (by decide) G T.b_isinstance (aa 1)) (af (eZ T.err (by decide) G T.b_isinstance (aa 1)) (af (eZ T.err (by decide) G T.b_isinstance (aa 1)) ai ba) ba) ba)))) (hs:=dU)) (aE (bp 3 b8.nd (cJ (aa 3) (aG (bz (af (eZ T.err (by decide) G T.b_isinstance (aa 1)) (af (eZ T.err (by decide) G T.b_isinstance (aa 1)) (af (eZ T.err (by decide) G T.b_isinstance (aa 1)) ai ba) ba) ba)))) (hs:=dU)) (aE (eV (gv (aa 3) (eZ T.err (by decide) G T.b_isinstance (aa 1)))) (aE (fM (gq (eL (Fz T.err T.b_isinstance T.b_ValueError (aa 1)))) (aR (br kD)) dP) (aE (nR (jT 4 (t:=cF) (m:=cG) b8.nd (gp (Nc:=["_law_k","_law_marks"]) (js:=[none,ar 3]) (ao (top 42)) ["_law_call","_law_error","e","_law_marks","_law_found"] (λ_=>rfl) rfl (by decide+kernel)) rfl (bW T.b_range aB) (λC ex s2 R=>⟨aM 0 (show(["_law_k","_law_marks"]:List Str).Nodup by decide+kernel),ef (eL (aZ (aa 1) (aa 0))),aa 0⟩))) (aR (br (GI (tq (fT Z) (aa 4) (aG (bz (af aB ai aw)))) (aG (cJ (aa 4) (aG (bz (af (FK T.err T.dk (aa 1)) (af (FL T.err T.dk (aa 1)) ai nQ) nQ))))) (aa 4))))))))))))
theorem lu{f c y:c_}{q:gg}(F:Fun K "_law_within_right" "_law_within_right" (top 44) f q)(x:mg "_law_within_right"=ar (.ref f))(T:Txt K mg)(G:Mod K mg base)(I:BaseL K mg base)(TI:kP K)(z:rb K gc "_law_within_right"=ar (ar (.ref f)))(Q:kS K "_law_within_right"=ar (c,y))(X:∀base,Mod K mg base->DefX P w K mg base 6 "within" ["web","some"] fy)(Z:∀base,Mod K mg base->DefX P w K mg base 1 "_law_take" ["_law_state_here","_law_many"] aH)(U:∀base,Mod K mg base->DefX P w K mg base 1 "_law_tied" ["_law_web_here","_law_one","_law_other"] fQ)(S:∀base,Mod K mg base->DefX P w K mg base 7 "_law_same" ["_law_found","_law_due"] cD)(Y:RefX P w K mg 9 8 "_law_refused" ["_law_call"] bw)(cL:∀f c es,bw f c es=aV c es):DefX P w K mg base 10 "_law_within_right" ["_law_state_here","_law_web_here"] bX:=
 zU (m:=dM) F x (F.binds λ_ _ _ _ _ _ us r=>match us,r with|[_,_],_=>rfl) bg rfl z Q λA outer s H E R=>
  aE (bp 2 bg.nd (fV T.b_tuple (aG (bQ (t:=cR) (m:=cS) (gp (Nc:=["_law_place","_law_state_here"]) (js:=[none,ar 0]) (ao (top 44)) ["_law_state_here","_law_web_here","_law_some","_law_ties","_law_b","_law_at","_law_odd","_law_bad"] (λ_=>rfl) rfl (by decide+kernel)) rfl (bW T.b_range (aZ (aa 1) aB)) (λC ex s2 J=>⟨aM 0 (show(["_law_place","_law_state_here"]:List Str).Nodup by decide+kernel),ef (CM (aG (aO (Z _ G) (R.mono (by decide)) (af (aa 1) (af aB ai aw) au))) aB),aa 0⟩)))) (hs:=fE)) (aE (bp 3 bg.nd (aG (bz ai)) (hs:=iy)) (aE (iO (b:=bS) N7 rfl (bW T.b_range (ib T.b_len (aa 2))) (aM 4 bg.nd) (aR (bp 3 bg.nd (aG (cJ (aa 3) (aG (bQ (t:=cT) (m:=cU) (gp (Nc:=["_law_a","_law_web_here","_law_some","_law_b"]) (js:=[none,ar 1,ar 2,ar 4]) (ao (top 44)) ["_law_state_here","_law_web_here","_law_some","_law_ties","_law_b","_law_at","_law_odd","_law_bad"] (λ_=>rfl) rfl (by decide+kernel)) rfl (bW T.b_range (aa 4)) (λC ex s2 J=>⟨aM 0 (show(["_law_a","_law_web_here","_law_some","_law_b"]:List Str).Nodup by decide+kernel),ef (eL (aG (aO (U _ G) (R.mono (by decide)) (af (aa 1) (af (aZ (aa 2) (aa 0)) (af (aZ (aa 2) (aa 3)) ai bC) bC) au)))),dO (af (aa 0) (af (aa 3) ai au) au)⟩))))) (hs:=dU)))) (aE (fM (gq (eL (aG (aO (S _ G) (R.mono (by decide)) (af (aG (aO (X _ G) (R.mono (by decide)) (af (aa 1) (af (aa 2) ai au) au))) (af (dO (af (ib T.b_len (aa 2)) (af (fV T.b_tuple (aG (jI T.b_sorted (aa 3)))) ai ba) ba)) ai bh) ba))))) (aR (br ik)) dP) (aE (bp 5 bg.nd (aG (aO (Z _ G) (R.mono (by decide)) (af (aa 0) (af (cJ (ib T.b_len (aa 2)) aB) ai dR) au))) (hs:=fE)) (aE (bp 6 bg.nd (aZ (aG (bz (by (refine aF (aZ (aa 1) aB) ?_ bC;refine aF uL ?_ mI;refine aF ik ?_ aw;refine aF kD ?_ aw;refine aF kE ?_ aw;refine aF (c9 6 rfl) ?_ bh;refine aF (uu aB aB) ?_ dR;exact ai)))) (aG (aO (Z _ G) (R.mono (by decide)) (af (aa 0) (af aB ai aw) au)))) (hs:=iz)) (aE (bp 7 bg.nd (aG (bz (by (refine aF (aG (cJ (aG (cJ (aG (kN (aa 2) nq (nu (aa 5)))) (dO (af (aa 6) ai au)))) (aG (kN (aa 2) (nu (aa 5)) nq)))) ?_ dR;refine aF (aG (cJ (aG (cJ (aG (kN (aa 2) nq (nu (aa 5)))) (dO (af (aa 6) ai au)))) (aG (kN (aa 2) (nu (cJ (aa 5) aB)) nq)))) ?_ dR;refine aF (aG (y9 T.b_list (aa 2))) ?_ ba;refine aF kD ?_ aw;refine aF C0 ?_ zB;refine aF aB ?_ aw;refine aF (c9 6 rfl) ?_ bh;refine aF (c9 6 rfl) ?_ bh;exact ai)))) (hs:=iy)) (aE (bp 7 bg.nd (aZ (aa 7) (aG (aO (Z _ G) (R.mono (by decide)) (af (aa 0) (af aB ai aw) au)))) (hs:=iz)) (aR (br (yY (fT R) (aG (Dz (ql:="_law_within_right.<locals>.<lambda>") (m:=cV) (xl:="_law_within_right") Y cL (R.mono (by decide)) (λ_=>rfl) (by decide) Q rfl rfl rfl I TI rfl (Bw (N3:=["_law_web_here","_law_bad"]) (js:=[1,7]) (ao (top 44)) ["_law_state_here","_law_web_here","_law_some","_law_ties","_law_b","_law_at","_law_odd","_law_bad"] (λ_=>rfl) rfl (by decide+kernel)) ai (λ_ _ _ _=>rfl) (λN u f2 p B o O s2 J v L=>aG (dv (X _ u) (L.mono (by decide)) gy.pass (af (aa 0) (af (aa 1) ai au) au))))) (aG (bz (af aB ai aw)))))))))))))
theorem kf{f c o:c_}{k:gg}(F:Fun K "_law_refusals_right" "_law_refusals_right" (top 45) f k)(n:mg "_law_refusals_right"=ar (.ref f))(T:Txt K mg)(G:Mod K mg base)(t:BaseL K mg base)(TI:kP K)(p:rb K gc "_law_refusals_right"=ar (ar (.ref f)))(S:kS K "_law_refusals_right"=ar (c,o))(J:∀base,Mod K mg base->DefX P w K mg base 7 "near" ["web","place"] jt)(N:∀base,Mod K mg base->DefX P w K mg base 6 "degrees" ["web"] eF)(B:∀base,Mod K mg base->DefX P w K mg base 6 "pieces" ["web"] fx)(I:∀base,Mod K mg base->DefX P w K mg base 6 "within" ["web","some"] fy)(O:∀base,Mod K mg base->DefX P w K mg base 1 "_law_take" ["_law_state_here","_law_many"] aH)(Y:∀base,Mod K mg base->DefX P w K mg base 2 "_law_bad_web" ["_law_state_here"] eT)(Z:RefX P w K mg 9 8 "_law_refused" ["_law_call"] bw)(cL:∀f c es,bw f c es=aV c es):DefX P w K mg base 10 "_law_refusals_right" ["_law_state_here","_law_web_here"] bL:=
 zU (m:=dh) F n (F.binds λ_ _ _ _ _ _ us l=>match us,l with|[_,_],_=>rfl) cX rfl p S λA outer s H E u=>
  aE (FQ (kF (dO (af (aG (aO (Y _ G) (u.mono (by decide)) (af (aa 0) ai au))) (af (aZ (aG (bz (by (refine aF (aZ (aa 1) aB) ?_ bC;refine aF uL ?_ mI;refine aF ik ?_ aw;refine aF kD ?_ aw;refine aF kE ?_ aw;refine aF (c9 6 rfl) ?_ bh;refine aF (uu aB aB) ?_ dR;exact ai)))) (aG (aO (O _ G) (u.mono (by decide)) (af (aa 0) (af aB ai aw) au)))) ai bC) ba)) (hV rfl (bB (aM 2 cX.nd) (bB (aM 3 cX.nd) fD))))) (aE (fM (qL (fT u) (aG (Dz (ql:="_law_refusals_right.<locals>.<lambda>") (m:=dG) (xl:="_law_refusals_right") Z cL (u.mono (by decide)) (λ_=>rfl) (by decide) S rfl rfl rfl t TI rfl (Bw (N3:=["_law_web_here","_law_none"]) (js:=[1,3]) (ao (top 45)) ["_law_state_here","_law_web_here","_law_bad","_law_none","_law_calls"] (λ_=>rfl) rfl (by decide+kernel)) ai (λ_ _ _ _=>rfl) (λR x f2 r z q U s2 v y Q=>aG (dv (J _ x) (Q.mono (by decide)) gy.pass (af (aa 0) (af (aa 1) ai au) au))))) (aG (bz (af aB ai aw)))) (aR (br ik)) dP) (DN (xl:="_law_refusals_right") (L:=⟨_,_,_,["_law_bad","_law_none"],[2,3],cu⟩) (by decide) S rfl rfl rfl t TI ⟨Bw (N3:=["_law_bad","_law_none"]) (js:=[2,3]) (ao (top 45)) ["_law_state_here","_law_web_here","_law_bad","_law_none","_law_calls"] (λ_=>rfl) rfl (by decide+kernel),rfl,λ_ _ _ _=>rfl,λR x f2 r z q U s2 v y Q=>aG (dv (J _ x) (Q.mono (by decide)) gy.pass (af (aa 0) (af (aa 1) ai au) au))⟩ cX.nd rfl (by first|exact y8 rfl|exact sb rfl) (.inl rfl) (yr (xl:="_law_refusals_right") (L:=⟨_,_,_,["_law_bad"],[2],cw⟩) (by decide) S rfl rfl rfl t TI ⟨Bw (N3:=["_law_bad"]) (js:=[2]) (ao (top 45)) ["_law_state_here","_law_web_here","_law_bad","_law_none","_law_calls"] (λ_=>rfl) rfl (by decide+kernel),rfl,λ_ _ _ _=>rfl,λR x f2 r z q U s2 v y Q=>aG (dv (N _ x) (Q.mono (by decide)) gy.pass (af (aa 0) ai au))⟩ (ky rfl (by first|exact y8 rfl|exact sb (y8 rfl)|exact sb (sb rfl))) (show 1<=100 by decide) (yr (xl:="_law_refusals_right") (L:=⟨_,_,_,["_law_bad"],[2],cy⟩) (by decide) S rfl rfl rfl t TI ⟨Bw (N3:=["_law_bad"]) (js:=[2]) (ao (top 45)) ["_law_state_here","_law_web_here","_law_bad","_law_none","_law_calls"] (λ_=>rfl) rfl (by decide+kernel),rfl,λ_ _ _ _=>rfl,λR x f2 r z q U s2 v y Q=>aG (dv (B _ x) (Q.mono (by decide)) gy.pass (af (aa 0) ai au))⟩ (ky rfl (by first|exact y8 rfl|exact sb (y8 rfl)|exact sb (sb rfl))) (show 2<=100 by decide) (yr (xl:="_law_refusals_right") (L:=⟨_,_,_,["_law_bad","_law_none"],[2,3],cz⟩) (by decide) S rfl rfl rfl t TI ⟨Bw (N3:=["_law_bad","_law_none"]) (js:=[2,3]) (ao (top 45)) ["_law_state_here","_law_web_here","_law_bad","_law_none","_law_calls"] (λ_=>rfl) rfl (by decide+kernel),rfl,λ_ _ _ _=>rfl,λR x f2 r z q U s2 v y Q=>aG (dv (I _ x) (Q.mono (by decide)) gy.pass (af (aa 0) (af (aa 1) ai au) au))⟩ (ky rfl (by first|exact y8 rfl|exact sb (y8 rfl)|exact sb (sb rfl))) (show 3<=100 by decide) (ID ⟨Z,cL,u.mono (by decide),λ_=>rfl,rfl,show 4<=100 by decide,gp (Nc:=["_law_call"]) (js:=[none]) (ao (top 45)) ["_law_state_here","_law_web_here","_law_bad","_law_none","_law_calls"] (λ_=>rfl) rfl (by decide+kernel),ky rfl (by first|exact y8 rfl|exact sb (y8 rfl)|exact sb (sb rfl)),λC ex s2 v=>aM 0 (show(["_law_call"]:List Str).Nodup by decide+kernel),λC ex s2 v=>fC (ky rfl (.inl rfl)) kz,λC ex s2 v=>rfl,by decide,λC ex s2 v=>rfl,λ_=>rfl⟩ (aG (IE (bz (af (aG (bz (af aB ai aw))) ai qi)) aB)) (λos=>xR (X:=pin _ os) (fT u)) qe))))))
end
theorem BZ{P:er}{w:fc}{K:dV}{U:Str->Option a_}{base:gd}{f c u:c_}{x:gg}(F:Fun K "law" "law" (top 46) f x)(T:Txt K U)(G:Mod K U base)(r:BaseL K U base)(TI:kP K)(v:rb K gc "law"=ar (ar (.ref f)))(z:kS K "law"=ar (c,u))(B:∀base,Mod K U base->DefX P w K U base 7 "near" ["web","place"] jt)(L:∀base,Mod K U base->DefX P w K U base 6 "degrees" ["web"] eF)(J:∀base,Mod K U base->DefX P w K U base 6 "pieces" ["web"] fx)(R:∀base,Mod K U base->DefX P w K U base 2 "_law_state" ["_law_script","_law_k"] iE)(N:∀base,Mod K U base->DefX P w K U base 3 "_law_web" ["_law_state_here","_law_most"] fH)(X:∀base,Mod K U base->DefX P w K U base 2 "_law_great_web" ["_law_state_here"] cm)(Q:∀base,Mod K U base->DefX P w K U base 1 "_law_tied" ["_law_web_here","_law_one","_law_other"] fQ)(O:∀base,Mod K U base->DefX P w K U base 7 "_law_same" ["_law_found","_law_due"] cD)(S:∀base,Mod K U base->DefX P w K U base 1 "_law_pieces" ["_law_web_here"] dF)(Y:DefX P w K U base 10 "_law_within_right" ["_law_state_here","_law_web_here"] bX)(Z:DefX P w K U base 10 "_law_refusals_right" ["_law_state_here","_law_web_here"] bL):FnOk P w K U base (nN P w) 11 f x ["_law_script"] (Dt K tQ):=
 DB (m:=DP) F ke rfl v z λA outer s H E I=>
  aE (iO (b:=jK) N7 rfl (bW T.b_range (oV rfl T.b_max (af aB (af (qO rfl T.b_min (af (ib T.b_len (aa 0)) (af aB ai aw) ba)) ai ba) aw))) (aM 1 ke.nd) (aE (bp 2 ke.nd (aO (R _ G) (I.mono (by decide)) (af (aa 0) (af (aa 1) ai au) au)) (hs:=fE)) (aR (iO (b:=jJ) N7 rfl (eM (aG (bz (af (aG (aO (N _ G) (I.mono (by decide)) (af (aa 2) (af aB ai aw) au))) (af (aG (aO (X _ G) (I.mono (by decide)) (af (aa 2) ai au))) ai ba) ba)))) (aM 3 ke.nd) (aE (bp 4 ke.nd (bz ai) (hs:=iy)) (aE (iO (b:=n4) N7 rfl (bW T.b_range (aZ (aa 3) aB)) (aM 5 ke.nd) (aR (eV (gv (aa 4) (aG (bQ (t:=nZ) (m:=n0) (gp (Nc:=["_law_other","_law_web_here","_law_place"]) (js:=[none,ar 3,ar 5]) (ao (top 46)) ["_law_script","_law_k","_law_state_here","_law_web_here","_law_due","_law_place","_law_turn","_law_found","_law_some"] (λ_=>rfl) rfl (by decide+kernel)) rfl (bW T.b_range (aZ (aa 3) aB)) (λC ex s2 y=>⟨aM 0 (show(["_law_other","_law_web_here","_law_place"]:List Str).Nodup by decide+kernel),ef (eL (aG (aO (Q _ G) (I.mono (by decide)) (af (aa 1) (af (aa 2) (af (aa 0) ai au) au) au)))),aa 0⟩))))))) (aE (iO (b:=ll) N7 rfl (bW T.b_range aB) (aM 6 ke.nd) (aE (bp 7 ke.nd (cJ (bQ (t:=iU) (m:=iV) (gp (Nc:=["_law_place","_law_web_here"]) (js:=[none,ar 3]) (ao (top 46)) ["_law_script","_law_k","_law_state_here","_law_web_here","_law_due","_law_place","_law_turn","_law_found","_law_some"] (λ_=>rfl) rfl (by decide+kernel)) rfl (bW T.b_range (aZ (aa 3) aB)) (λC ex s2 y=>⟨aM 0 (show(["_law_place","_law_web_here"]:List Str).Nodup by decide+kernel),eX,aO (B _ G) (I.mono (by decide)) (af (aa 1) (af (aa 0) ai au) au)⟩)) (bz (af (aO (L _ G) (I.mono (by decide)) (af (aa 3) ai au)) (af (aO (J _ G) (I.mono (by decide)) (af (aa 3) ai au)) ai ba) ba))) (hs:=dU)) (aE (fM (gq (eL (aG (aO (O _ G) (I.mono (by decide)) (af (aa 7) (af (aG (cJ (aa 4) (aG (bz (af (aG (bQ (t:=iW) (m:=iX) (gp (Nc:=["_law_some"]) (js:=[none]) (ao (top 46)) ["_law_script","_law_k","_law_state_here","_law_web_here","_law_due","_law_place","_law_turn","_law_found","_law_some"] (λ_=>rfl) rfl (by decide+kernel)) rfl (eM (aa 4)) (λC ex s2 y=>⟨aM 0 (show(["_law_some"]:List Str).Nodup by decide+kernel),eX,ib T.b_len (aa 0)⟩))) (af (aG (aO (S _ G) (I.mono (by decide)) (af (aa 3) ai au))) ai ba) wq))))) ai dR) au))))) (aR (br ik)) dP) (aR (iO (b:=n8) N7 rfl (eM (aa 7)) (aM 8 ke.nd) (aR (eV (gv (aa 8) aB)))))))) (aR (fM (CG (yX (gq (eL (aG (aO Y (I.mono (by decide)) (af (aa 2) (af (aa 3) ai au) au))))) (xO (gq (eL (aG (aO Z (I.mono (by decide)) (af (aa 2) (af (aa 3) ai au) au)))))))) (aR (br ik)) dP))))))))) (aR (br ik))
abbrev lP:Program:=PySem.Challenge.rw_tiewebs_k02_places_and_pieces.prog
abbrev kW(w:fc):W.Frag:=KH.K0 w.params
theorem fk{K:dV}{f c:c_}{m:a_}(x q:Str)(Z:oo)(l:K.lookup f=ar ⟨.type "function",none,.func (y2 x q (gJ Z) (dJ Z) (ao Z) .none .none .none m none (.ref c) .none), #[]⟩)(h:QO K (.ref c) q=b_)(k:xg K (.ref f)=b_):Fun K x q Z f (y2 x q (gJ Z) (dJ Z) (ao Z) .none .none .none m none (.ref c) .none):=HK l h k
abbrev nK(w:fc)(x:Str):Option (Option a_):=rb (kW w) gc x
abbrev AG:Value:=KH.zs "law_tiewebs_k02_places_and_pieces" 528
abbrev AH:Value:=KH.zs "tiewebs.webs" 426
theorem oI{w:fc}{Y:Str->Option a_}{h:gd}(X:(kW w).In h)(G:h.Ns gc Y)(f c:c_)(m:a_)(x:Str)(Z:oo)(a:nK w x=ar (ar (.ref f)):=by kernel_rfl)(l:(kW w).lookup f=ar ⟨.type "function",none,.func (y2 x x (gJ Z) (dJ Z) (ao Z) .none .none .none m none (.ref c) .none), #[]⟩:=by kernel_rfl)(j:QO (kW w) (.ref c) x=true:=by kernel_rfl)(k:xg (kW w) (.ref f)=true:=by kernel_rfl):Y x=ar (.ref f)/\Fun (kW w) x x Z f (y2 x x (gJ Z) (dJ Z) (ao Z) .none .none .none m none (.ref c) .none):=⟨PD X G a,fk x x Z l j k⟩
theorem MP(w:fc)(O:Str->Option a_)(fa:c_)(h:gd)(X:(kW w).In h)(G:h.Ns gc O)(a6:O "law"=ar (.ref fa)):∃fd:gg,(∀(s:dn) (u:a_),F0 s fd ⟨[u],[]⟩ [("_law_script",u)])/\∀base:gd,Mod (kW w) O base->BaseL (kW w) O base->FnOk lP w (kW w) O base (nN lP w) 11 fa fd ["_law_script"] (Dt (kW w) tQ):=by
 obtain⟨h7,j1⟩:=oI X G 197 196 AH "is_whole" (top 17);obtain⟨h9,e4⟩:=oI X G 204 203 AH "is_pair" (top 18);obtain⟨i1,a4⟩:=oI X G 211 210 AH "is_place" (top 19);obtain⟨c,j2⟩:=oI X G 218 217 AH "is_tie" (top 20);obtain⟨h5,c4⟩:=oI X G 223 222 AH "is_rising" (top 21);obtain⟨a5,e7⟩:=oI X G 228 227 AH "is_places" (top 22);obtain⟨d1,g7⟩:=oI X G 233 232 AH "is_web" (top 23);obtain⟨d,b3⟩:=oI X G 240 239 AH "need_web" (top 24);obtain⟨b5,d0⟩:=oI X G 247 246 AH "need_place" (top 25);obtain⟨a0,g4⟩:=oI X G 254 253 AH "are_tied" (top 26);obtain⟨g5,c2⟩:=oI X G 259 258 AH "near" (top 27);obtain⟨j0,c5⟩:=oI X G 264 263 AH "degrees" (top 28);obtain⟨c6,a⟩:=oI X G 269 268 AH "pieces" (top 29);obtain⟨f3,e6⟩:=oI X G 274 273 AH "within" (top 30);obtain⟨h8,c1⟩:=oI X G 281 280 AG "_law_cell_at" (top 32);obtain⟨e1,g8⟩:=oI X G 288 287 AG "_law_state" (top 33);obtain⟨c0,a7⟩:=oI X G 295 294 AG "_law_take" (top 34);obtain⟨e0,f5⟩:=oI X G 300 299 AG "_law_pairs" (top 35);obtain⟨g6,h2⟩:=oI X G 307 306 AG "_law_mixed_row" (top 36);obtain⟨f6,d2⟩:=oI X G 312 311 AG "_law_web" (top 37);obtain⟨b1,i2⟩:=oI X G 319 318 AG "_law_great_web" (top 38);obtain⟨c7,h3⟩:=oI X G 326 325 AG "_law_tied" (top 39);obtain⟨i0,h6⟩:=oI X G 333 332 AG "_law_bad_web" (top 40);obtain⟨b4,e8⟩:=oI X G 338 337 AG "_law_same" (top 41);obtain⟨c3,d3⟩:=oI X G 343 342 AG "_law_refused" (top 42);obtain⟨b6,b⟩:=oI X G 348 347 AG "_law_pieces" (top 43);have h4:nK w "_law_within_right"=ar (ar (.ref 353)):=by kernel_rfl
 obtain⟨f,b0⟩:=oI X G 353 352 AG "_law_within_right" (top 44);have e5:nK w "_law_refusals_right"=ar (ar (.ref 358)):=by kernel_rfl
 obtain⟨h1,a3⟩:=oI X G 358 357 AG "_law_refusals_right" (top 45);have g:nK w "law"=ar (ar (.ref 363)):=by kernel_rfl
 have e2:=@fk (kW w) 363 362 (KH.zs "law_tiewebs_k02_places_and_pieces" 528) "law" "law" (top 46) (by kernel_rfl) (by kernel_rfl) (by kernel_rfl);obtain⟨⟨ct,Pt⟩,i⟩:=NS.mp (show(kS (kW w) "law").isSome=b_ by kernel_rfl);obtain⟨⟨k1,j3⟩,j⟩:=NS.mp (show(kS (kW w) "_law_within_right").isSome=b_ by kernel_rfl);obtain⟨⟨j7,k2⟩,k⟩:=NS.mp (show(kS (kW w) "_law_refusals_right").isSome=b_ by kernel_rfl);have e:=a6.symm.trans (PD X G g);cases e;have T:Txt (kW w) O:=⟨by kernel_rfl,by kernel_rfl,NI X G (by kernel_rfl),NI X G (by kernel_rfl),NI X G (by kernel_rfl),NI X G (by kernel_rfl),NI X G (by kernel_rfl),NI X G (by kernel_rfl),NI X G (by kernel_rfl),NI X G (by kernel_rfl),NI X G (by kernel_rfl),NI X G (by kernel_rfl),NI X G (by kernel_rfl),NI X G (by kernel_rfl),NI X G (by kernel_rfl),NI X G (by kernel_rfl),⟨428,PD X G (by kernel_rfl)⟩⟩;refine⟨y2 "law" "law" (gJ (top 46)) (dJ (top 46)) (ao (top 46)) .none .none .none (KH.zs "law_tiewebs_k02_places_and_pieces" 528) none (.ref 362) .none,λs v=>.of_eq rfl,λbase GM BL=>?_⟩;have H:=λbase (GB:Mod (kW w) O base)=>xp (P:=lP) (w:=w) (base:=base) j1 h7 T;have C:=λbase (GB:Mod (kW w) O base)=>yJ (P:=lP) (w:=w) (base:=base) e4 h9 T;have K:=λbase (GB:Mod (kW w) O base)=>vI (P:=lP) (w:=w) (base:=base) c4 h5 T;have p:=λbase (GB:Mod (kW w) O base)=>xq (P:=lP) (w:=w) (base:=base) g4 a0 T;have E:=λbase (GB:Mod (kW w) O base)=>p7 (P:=lP) (w:=w) (base:=base) c1 h8 T;have Z:=λbase (GB:Mod (kW w) O base)=>vJ (P:=lP) (w:=w) (base:=base) a7 c0 T;have x:=λbase (GB:Mod (kW w) O base)=>sO (P:=lP) (w:=w) (base:=base) f5 e0 T;have N:=λbase (GB:Mod (kW w) O base)=>vK (P:=lP) (w:=w) (base:=base) h3 c7 T;have B:=λbase (GB:Mod (kW w) O base)=>sk (P:=lP) (w:=w) (base:=base) b b6 T;have Q:=λbase (GB:Mod (kW w) O base)=>xr (P:=lP) (w:=w) (base:=base) a4 i1 T (H base GB);have y:=λbase (GB:Mod (kW w) O base)=>sP (P:=lP) (w:=w) (base:=base) g8 e1 T (E base GB);have L:=λbase (GB:Mod (kW w) O base)=>oF (P:=lP) (w:=w) (base:=base) h2 g6 T (Z base GB);have I:=λbase (GB:Mod (kW w) O base)=>oG (P:=lP) (w:=w) (base:=base) i2 b1 T (Z base GB);have F:=λbase (GB:Mod (kW w) O base)=>p8 (P:=lP) (w:=w) (base:=base) h6 i0 T (Z base GB);have l:=λbase (GB:Mod (kW w) O base)=>BV (P:=lP) (w:=w) (base:=base) j2 c T (C base GB) (Q base GB);have q:=λbase (GB:Mod (kW w) O base)=>vL (P:=lP) (w:=w) (base:=base) e7 a5 T (Q base GB) (K base GB);have o:=λbase (GB:Mod (kW w) O base)=>xt (P:=lP) (w:=w) (base:=base) d2 f6 T (Z base GB) (x base GB) (L base GB);have m:=λbase (GB:Mod (kW w) O base)=>BW (P:=lP) (w:=w) (base:=base) g7 d1 T (H base GB) (C base GB) (l base GB) (K base GB);have Y:=λbase (GB:Mod (kW w) O base)=>xu (P:=lP) (w:=w) (base:=base) b3 d T (m base GB);have z:=λbase (GB:Mod (kW w) O base)=>sQ (P:=lP) (w:=w) (base:=base) d0 b5 T (Q base GB) (Y base GB);have A:=λbase (GB:Mod (kW w) O base)=>yK (P:=lP) (w:=w) (base:=base) c5 j0 T (Y base GB);have t:=λbase (GB:Mod (kW w) O base)=>BX (P:=lP) (w:=w) (base:=base) a c6 T (Y base GB);have r:=λbase (GB:Mod (kW w) O base)=>BY (P:=lP) (w:=w) (base:=base) e6 f3 T (q base GB) (Y base GB);have n:=λbase (GB:Mod (kW w) O base)=>Gy (P:=lP) (w:=w) (base:=base) c2 g5 T (z base GB) (p base GB);have J:=λbase (GB:Mod (kW w) O base)=>vM (P:=lP) (w:=w) (base:=base) e8 b4 T;have S:RefX lP w (kW w) O 9 8 "_law_refused" ["_law_call"] bw:=p9 d3 c3 T;have R:DefX lP w (kW w) O base 10 "_law_within_right" ["_law_state_here","_law_web_here"] bX:=lu b0 f T GM BL (yn (show zM (kW w)=b_ by kernel_rfl)) h4 j r Z N J S cL;have U:DefX lP w (kW w) O base 10 "_law_refusals_right" ["_law_state_here","_law_web_here"] bL:=kf a3 h1 T GM BL (yn (show zM (kW w)=b_ by kernel_rfl)) e5 k n A t r Z F S cL;exact BZ e2 T GM BL (yn (show zM (kW w)=b_ by kernel_rfl)) g i n A t y o I N J B R U
end W
section
namespace W
open PySem PySem.Spec PyProof.Rows L2 S3 S4 S7
theorem Jr(K:dV)(H:Hp)(a:c_)(ns:List Int)(Y:TabsOk K H)(Z:EL K H a (ns.map V.int)):Dt K tQ [.ref a] H (λv _=>v= .bl b_) λ_ _ _=>False:=by obtain⟨d,X,e,hd⟩:=K7 (S:=[]) (ns:=ns);refine⟨[],[],[.ro (ns.map D.int)],⟨.nil,rfl,(λk a xs h=>by cases h),Y⟩,.cons (.ro Z (nB ns)) .nil,?_⟩;refine⟨.ok d,X,e,λT R _ _=>?_⟩;subst hd;intro v U;cases U;rfl
theorem walk{l:Sg}{q:er}{loose:List Str}{XP:(Str->Option a_)->gd->Prop}{YP:fc->gd->Prop}{d:SM}{K:O'->dV}(S:l.most=ar 63)(Y:d.params.defaults=[])
  (U:∀(w:fc) (h:gd),YP w h->(K w.params).In h) (R:∀w:fc,SK (K w.params)=b_)
  (Z:∀(w:fc) (h:gd),YP w h->∀y∈cf,∀c Q,kS (K w.params) y=ar (c,Q)->Q_ h c Q/\h.get? Q=ar (x' #[]))
  (F:∀(w:fc) (mg:Str->Option a_) (fa:c_) (h:gd),(K w.params).In h->h.Ns gc mg->mg d.name=ar (.ref fa)->
   ∃fd:gg,(∀(s:dn) (u:a_),F0 s fd ⟨[u],[]⟩ [("_law_script",u)])/\∀base:gd,Mod (K w.params) mg base->BaseL (K w.params) mg base->FnOk l.prog w (K w.params) mg base (nN l.prog w) 11 fa fd ["_law_script"] (Dt (K w.params) tQ)):
  SY q loose XP YP l.row.toRowW d [] (λf vs=>PySem.call f vs):=
 DA (n:=63) (k:=11) (x:="_law_script") (sp:=λw=>Dt (K w.params) tQ) S (by decide) Y ⟨rfl,by decide,by decide⟩ U R Z F λw H a ns _ T X=>Jr (K w.params) H a ns T X
end W
open PySem PySem.W PyProof.Rows
set_option maxRecDepth 100000 in
set_option maxHeartbeats 0 in
theorem PySem.Challenge.cw_tiewebs_k02_places_and_pieces_holds : PySem.Challenge.rw_tiewebs_k02_places_and_pieces.Holds := by
 w_on;o_law
 refine holds_open (q:=KH.vq) (loose:=[]) (Xt:=KH.Xt0) (XP:=XL KH.vq []) (Yf:=Sv (P2 KH.K0 KH.as0 KH.as0_eq KH.ts0)) (Ya:=Sw (P2 KH.K0 KH.as0 KH.as0_eq KH.ts0)) (YP:=Hook.says (P2 KH.K0 KH.as0 KH.as0_eq KH.ts0)) (N:=7816) KH.left0 (Hook.of (P2 KH.K0 KH.as0 KH.as0_eq KH.ts0)) (Hook.keeps (P2 KH.K0 KH.as0 KH.as0_eq KH.ts0)) (fun s e=>xl_of s (Qc.mp e).1) XL.keeps (by rfl) (by rfl) (by rfl) (fun s e=>recFacts_of (Qc.mp e).2) (by rfl) (by first|assumption|decide+kernel) (by decide+kernel) ⟨rfl,rfl,rfl,rfl,rfl,by decide+kernel⟩ ?hw ?hc
 case hw=>w_witness2
 refine W.walk (l:=PySem.Challenge.rw_tiewebs_k02_places_and_pieces) rfl rfl (fun w h Y=>PySem.W.km_in_of Y) ?nt (fun w h Y=>S7.Me (w:=w) ?ck Y) W.MP
 case nt=>intro w;kernel_rfl
 case ck=>kernel_rfl
end
