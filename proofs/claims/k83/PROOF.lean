import PyProof.Rows.All
import Wide.All
import OpenK.AllK
import Wide.FinOn
import PySem.Challenge.RW_tiewebs_k83_whole_fates_come
import Lean
import PyProof.EqAt
import PyProof.EqKinds
import PyProof.TupleCall
import PyProof.SetScanFacts
import PyProof.EnumMake
import PyProof.Draws
import PyProof.ExcInit
import PyProof.ExcClass3
import PyProof.InstStore
import KE.KUnpack
import PyProof.P3In
set_option Elab.async false
set_option compiler.extract_closed false
set_option linter.all false
set_option maxRecDepth 100000
set_option maxHeartbeats 8000000
noncomputable section
open Option renaming some->ar,none->aC,isNone->H0
open Pure renaming pure->a_
open PySem renaming Value->b_,Addr->cq,Shared->c_,starEach->dt,Program->d_,wpAny->ed,World->ee,model->e_,FuncData->f_,Heap->f',mainGlobals->g_,foldedSetIterable->hI,Around->iB,eval->i4,compareOp->i',cellsFrom->j1,importedModules->j3,behindInMarks->kT,bootBuiltins->k4,NameKind->k6,backTo->lx,PyData->ly,assignEach->mh,IsPair->m_,Stmt->nf,swapsWith->nC,binaryOp->n_,codeAny->r_,builtinsNs->s_,sliceBounds->u5,excClassObj->u_,holding->v_,callerA->v',ExcBaseFacts->wh,standAt->xy,attributeBase->x_,letOwnedTupleGo->y2,noteFrame->z_,rawInt->A_,cLine->EA,BindsTo->EW,swapsWithSole->Fn,swappedStores->F0,treeTable->I_,IsZip->J',assign->K_,Params->M',GenState->Ng,OsState->Np,PassesOwn->Nt,Arguments->Nu,assignInOrder->Ny,seq_tuple_add->Nz,IsPart->NB,again->NC,leaving->NG,concat_meets->NH,getItem->NI,compTurn->NM,SetTable->NO,pyNext->NS,lastMarks->NT,seqIndex?->NU,seqIndex_of->NZ,wpAny_letGo->N0,Keyword->N5,OwnTail->N6,sysModules->N7,wpAny_Name->N8,bindName->N9,pyIter->N_,bindL->Oa,bindC->Ob,typeIs_int->Oc,field->Of,ZipApart->Og,isInstance->Oh,truthy->Oo,Result->Oq,compPost->Ow,DefRec->Oz,intKind->OC,setItem->OD,Model->OI
open Bool renaming true->b',false->dr,false_eq_true->h_,and_eq_true->i_,not_true->r7,true_eq_false->u2,not_false->D_,true_and->E_,or_eq_true->MK
open PySem.W renaming Frag->dn,tabIn->lk,kas_place->pb,nsIn->pd,kas_asc->pe,kas_desc->p7,kas_rev->p8,keepIn->rA,kas_sort->rB,openSeen->vn,openGood->vr,fnOf->w7,kitOne->y1,boot_heap->z7,findIn->B',tabObj->C_,behindTheImports->Ic,findIn->J_,kmHook->Ni,codeIn->Nl,kas_bin->Nv,kas_descPart->NL,CodeHd->NP,kas_count->NW,methodObj->NY,instObj->Ol,OpenLaw->Om,kas_tail3->On,excIn->Os,lookIn->Ov,exmOne->Ox,noTabs->Oy,KasT->OA,OpenLaw->OE,WalkO->OF,mroIn->OG,clsIn->OH,Frag->OJ
open List renaming range->dV,replicate->eb,not_mem_nil->hh,mem_cons->hO,size_toArray->j7,lookup_cons->kr,length_cons->kS,range'->k7,length_nil->k_,nil_append->oo,map_cons->pa,getD_eq_getElem?_getD->p4,cons_append->qs,getD_cons_zero->q_,set_cons_succ->t_,set_cons_zero->u0,map_nil->u',drop_succ_cons->y_,toArray->z4,zip_cons_cons->B_,all_eq_true->H_,forIn_cons->L',drop_zero->M_,getD->Nw,any_cons->Nx,all_cons->NA,all_map->NN,map_id->N1,foldl->Od
open PySem.PyData renaming eqv->er,int->j2,eqvAll->j',list->n3,depthAll->o_,strOk->p_,tuple->qq
open PySem.Value renaming ref->hF,none->j0,bool->sh,int->u4,str->NQ
open PySem.NameKind renaming free->hY,cell->m2
open False renaming elim->iA
open PySem.Builtin.SmallTypes renaming nextOf->i2,ownedTupleIsFree->j_
open PySem.Str renaming ofString->i3
open Ne renaming symm->k8
open PyProof.Rows renaming step_dedup->k',IntsAre->la,seqObj->ri,AllBare->w_,envOfC->A',IsTup->Oj,bubble->OB
open PySem.Builtin.Slice renaming slicePlaces->l_,sliceAdjust->qt
open PySem.Builtin.Tuple renaming tupleExact->mu
open PySem.Builtin.List renaming listTooLong->m1
open PySem.Obj renaming mapSeq->n7,mapFields->F_
open Nat renaming add_sub_cancel->u3,zero_add->z6,reduceAdd->G_,reduceSub->G',mul_comm->NJ,add_mul->N4,not_lt->Oe
open Array renaming mk->yn,length_toList->y4
open ForInStep renaming yield->y3
open PySem.Heap renaming SameBut->y',MadeExcOf->Nn
open Int renaming toNat_natCast->D'
open True renaming intro->K'
open PySem.SeqAt renaming shaped->L_
open Or renaming inr->Nm,inl->NV
open Sum renaming inl->Nq,inr->Nr
open PySem.Around renaming under->ND
open PySem.Code renaming isFrame->NF
open PySem.W.KasT renaming ret->NK
open PyProof.Rows.IsTup renaming new->NR
open And renaming intro->NX
open PySem.Within renaming nil->Oi
open PySem.W.Hook renaming obs->Ot,val->Ou
abbrev JM:=@PySem.wpAny_bind
abbrev JN:=@List.length_map
abbrev JO:=@PySem.Heap.get?_push_of_some
abbrev JP:=@List.getElem?_eq_getElem
abbrev JQ:=@Nat.le_refl
abbrev JR:=@PySem.wpAny_pure
abbrev JS:=@p4
abbrev JT:=@decide_eq_true
abbrev JU:=@PySem.Heap.lt_size
abbrev JV:=@List.getElem?_eq_some_iff
abbrev JW:=@List.length_append
abbrev JX:=@Nat.le_trans
abbrev JY:=@j7
abbrev JZ:=@List.mem_cons_of_mem
abbrev J0:=@PySem.Heap.get?_push_size
abbrev J1:=@Nat.lt_of_lt_of_le
abbrev J2:=@List.mem_range
abbrev J3:=@List.cons.inj
abbrev J4:=@List.length_range
abbrev J5:=@hO
abbrev J6:=@Classical.byContradiction
abbrev J7:=@Nat.ne_of_lt
abbrev J8:=@decide_eq_false
abbrev J9:=@List.mem_cons_self
abbrev Ka:=@Option.some.inj
abbrev Kb:=@PySem.wpAny_mono
abbrev Kc:=@List.mem_append_right
abbrev Kd:=@of_decide_eq_true
abbrev Ke:=@pa
abbrev Kf:=@List.map_map
abbrev Kg:=@List.mem_singleton
abbrev Kh:=@kr
abbrev Ki:=@kS
abbrev Kj:=@PySem.W.mg_none_of
abbrev Kk:=@Nat.zero_le
abbrev Kl:=@List.mem_map
abbrev Km:=@List.getElem?_map
abbrev Kn:=@List.mem_of_getElem?
abbrev Ko:=@D'
abbrev Kq:=@List.getElem?_append_left
abbrev Kr:=@PySem.Heap.get?_update_other
abbrev Ks:=@List.mem_filter
abbrev Kt:=@H_
abbrev Ku:=@PySem.Heap.get?_none_of_le
abbrev Kv:=@congrFun
abbrev Kw:=@PySem.wpAny_standAt
abbrev Kx:=@List.pairwise_cons
abbrev Ky:=@List.append_nil
abbrev Kz:=@List.nodup_cons
abbrev KB:=@PySem.wpAny_field
abbrev KC:=@List.replicate_succ
abbrev KD:=@List.length_filter_le
abbrev KF:=@PySem.wpAny_truthy_bool
abbrev KG:=@PySem.wpAny_newObj_type
abbrev KI:=@decide_eq_true_eq
abbrev KJ:=@List.getElem?_set_ne
abbrev KL:=@Bool.false_ne_true
abbrev KN:=@List.getElem?_set_self
abbrev KO:=@PySem.W.kia_one
abbrev KP:=@List.countP_cons
abbrev KQ:=@List.getElem?_eq_none
abbrev KR:=@PySem.sizeLine_eq
abbrev KS:=@Array.getD_eq_getD_getElem?
abbrev KU:=@i_
abbrev KW:=@PyProof.Rows.slot_tuple_getitem
abbrev KY:=@PySem.wpAny_holding
abbrev KZ:=@PySem.Heap.size_push
abbrev K1:=@Nat.lt_irrefl
abbrev K2:=@Int.eq_ofNat_of_zero_le
abbrev K3:=@List.sum_cons
abbrev K4:=@List.flatten_cons
abbrev K5:=@PyProof.Rows.callWith_type1
abbrev K6:=@List.getElem?_range
abbrev K7:=@List.map_congr_left
abbrev K8:=@List.drop_eq_nil_of_le
abbrev K9:=@PySem.F.slot_tuple_iterator_next
abbrev La:=@Array.getElem?_eq_some_iff
abbrev Lc:=@PySem.F.excBase_ValueError
abbrev Ld:=@PySem.wpAny_call_entry
abbrev Le:=@List.mem_filterMap
abbrev Lf:=@PySem.Heap.get?_update_self
abbrev Lg:=@Array.getElem?_toList
abbrev Lh:=@PySem.wpAny_setField_rec
abbrev Li:=@PySem.W.mg_of
abbrev Lj:=@PySem.wpAny_seqItems
abbrev Lk:=@PySem.wpAny_passesOwn
abbrev Ll:=@Option.isSome_iff_exists
abbrev Lm:=@List.append_assoc
abbrev Ln:=@List.mem_range'_1
abbrev Lo:=@PySem.mem_of_lookup
abbrev Lp:=@PySem.Heap.get?_update_ne
abbrev Lq:=@List.getElem_map
abbrev Lr:=@List.getElem_mem
abbrev Ls:=@decide_eq_decide
abbrev Lu:=@List.range_succ_eq_map
abbrev Lv:=@PySem.Heap.size_after_update
abbrev Lw:=@PySem.Obj.data_mapFields
abbrev Lx:=@List.countP_eq_length_filter
abbrev Ly:=@List.mem_append
abbrev Lz:=@Nat.le_of_eq
abbrev LA:=@Nat.lt_succ_of_lt
abbrev LB:=@PySem.wpAny_loadPart_at
abbrev LC:=@List.mem_append_left
abbrev LD:=@Bool.false_and
abbrev LF:=@List.drop_eq_getElem_cons
abbrev LG:=@List.length_take
abbrev LH:=@Nat.lt_succ_self
abbrev LI:=@Bool.not_eq_true
abbrev LJ:=@List.any_eq_true
abbrev LK:=@List.filterMap_cons
abbrev LL:=@Nat.le_succ
abbrev LM:=@Nat.le_of_lt
abbrev LN:=@Nat.ne_of_gt
abbrev LO:=@PySem.F.args_tuple_add_2
abbrev LP:=@Nat.succ_mul
abbrev LQ:=@List.Pairwise.imp_of_mem
abbrev LR:=@PySem.wpAny_Call_Name_kw
abbrev LS:=@List.of_mem_zip
abbrev LU:=@PySem.F.entry_tuple_add
abbrev LV:=@Array.Perm.refl
abbrev LW:=@List.getElem?_take
abbrev LX:=@List.filter_cons_of_pos
abbrev LY:=@List.filter_cons_of_neg
abbrev LZ:=@Bool.eq_iff_iff
abbrev L0:=@Int.emod_lt_of_pos
abbrev L3:=@PySem.W.cellsFrom_some
abbrev L4:=@PySem.F.slot_tuple_add
abbrev L5:=@List.take_of_length_le
abbrev L6:=@PySem.wpAny_rule
abbrev L7:=@Nat.le_of_succ_le
abbrev L8:=@Prod.ext
abbrev L9:=@PySem.codeAny_mono
abbrev Ma:=@List.countP_mono_left
abbrev Mb:=@PySem.Obj.isFreed_of_fields
abbrev Mc:=@List.countP_le_length
abbrev Md:=@List.length_drop
abbrev Me:=@Nat.succ_le_succ
abbrev Mf:=@PySem.wpAny_pyIter_zip
abbrev Mg:=@PySem.Calls.evalArgs_plain
abbrev Mh:=@PySem.wpAny_updateSeq_pair
abbrev Mi:=@E_
abbrev Mj:=@PySem.F.args_tuple_iterator_next_1
abbrev Ml:=@PySem.wpAny_execs_nil
abbrev Mm:=@y4
abbrev Mn:=@PySem.F.entry_tuple_iterator_next
abbrev Mo:=@PySem.F.slot_zip_next
abbrev Mp:=@beq_false_of_ne
abbrev Mq:=@Int.emod_nonneg
abbrev Mr:=@List.countP_eq_zero
abbrev Ms:=@List.countP_pos_iff
abbrev Mt:=@List.length_pos_iff
abbrev Mu:=@PySem.PassesOwn.never
abbrev Mv:=@PySem.Calls.Name_function_global
abbrev Mw:=@List.getElem?_append_right
abbrev Mx:=@PyProof.Rows.assignInOrder_cons
abbrev My:=@PySem.wpAny_pyIter_tuple
abbrev Mz:=@u'
abbrev MA:=@Nat.lt_of_le_of_lt
abbrev MB:=@Int.zero_add
abbrev MC:=@List.getElem?_drop
abbrev MD:=@List.length_range'
abbrev ME:=@List.pairwise_iff_getElem
abbrev MF:=@PySem.wpAny_setField
abbrev MG:=@PySem.wpAny_letOwnedTupleGo_zip
abbrev MH:=@List.getElem?_zip_eq_some
abbrev MI:=@PySem.wpAny_pyIter_list
abbrev MJ:=@PyProof.Rows.intsAre_of
abbrev ML:=@List.ext_getElem?
abbrev MM:=@List.Perm.eq_of_pairwise
abbrev MN:=@PySem.wpAny_Call_ofName
abbrev MO:=@List.range'_eq_map_range
abbrev MP:=@List.flatMap_cons
abbrev MQ:=@List.pairwise_map
abbrev MR:=@List.countP_congr
abbrev MS:=@congrArg
abbrev MT:=@PySem.wpAny_onRaise
abbrev MU:=@List.pairwise_singleton
abbrev MV:=@PySem.wpAny_eqBool_int
abbrev MW:=@PySem.wpAny_execs_cons
abbrev MX:=@PySem.noFill_tuple_add
abbrev MY:=@Nat.le_of_not_lt
abbrev MZ:=@PySem.wpAny_isInstance
abbrev M0:=@List.mem_flatMap
abbrev M1:=@List.nodup_range
abbrev M3:=@PySem.wpAny_typeOf
abbrev M4:=@List.length_set
abbrev M5:=@PySem.pushCells_keeps
abbrev M6:=@List.any_map
abbrev M7:=@List.map_append
abbrev M8:=@List.countP_map
abbrev M9:=@List.filter_map
abbrev Na:=@PySem.call_meets
abbrev Nb:=@M_
abbrev Nd:=@PySem.isSubtype_stop
abbrev Nf:=@PySem.Within.cons
abbrev Nh:=@Nx
abbrev Nj:=@PySem.wpAny_call
abbrev Nk:=@beq_iff_eq
namespace KH
open PySem PySem.W PySem.Spec PyProof.Rows
def tp(i:Nat):Stmt:=PySem.Challenge.pw_tiewebs_k83_whole_fates_come.main.body.getD i (.Pass ⟨0,0,0,0⟩)
def iC:nf->nf
 | .ClassDef _ _ _ (b::_) .. =>b
 |s=>s
def dA(s:nf):Arguments:=match s with
 | .FunctionDef _ a _ _ _ _ _ _ _ _=>a
 |_=>{posonlyargs:=[],args:=[],vararg:=aC,kwonlyargs:=[],kw_defaults:=[],kwarg:=aC,defaults:=[]}
def dB(s:nf):List Stmt:=match s with
 | .FunctionDef _ _ b _ _ _ _ _ _ _=>b
 |_=>[]
def dS(s:nf):Scope:=match s with
 | .FunctionDef _ _ _ _ _ _ sc _ _ _=>sc
 |_=>{kind:=.function,names:=[],isGenerator:=dr,isCoroutine:=dr}
def zs(x:String)(t:Nat):Value:=.str (i3 x) t
def ze(P:M')(x:String)(t:Nat)(v:b_):DictEntry:=⟨PyData.keyHash P (i3 x),zs x t,v⟩
def zt(xs:Array b_):Obj:=⟨.type "tuple",aC,.seq xs, #[]⟩
def zc(n q:String)(a:Nat)(l ac p5 p6 fl:Int)(r8:b_)(p10:Int)(r11 r13 r14 r15:b_)(p16:Int)(t:Nat):Obj:=⟨.type "code",aC,.fields #[zs n a,zs q (a+1),zs "/claim/cut.py" (a+2),.int l 0,.int ac 0,.int p5 0,.int p6 0,.int fl 0,r8,.bool b',.int p10 0,r11,.none,r13,r14,r15,.int p16 0,.int l 0,zs "/claim/cut.py" t], #[]⟩
def zf(n q:String)(st:nf)(kV dc pm:b_)(an:Option cq)(cd ct:b_):Data:=.func (w7 (i3 n) (i3 q) (dA st) (dB st) (dS st) .none kV dc pm an cd ct)
def zg(n q:String)(st:nf):Obj:=⟨.none,aC,.func {name:=i3 n,qualname:=i3 q,params:=dA st,body:=.stmts (dB st),scope:=dS st,globals:=0,closure:=[],defaults:=.none,kwdefaults:=.none}, #[]⟩
def z0:Obj:=⟨.none,aC,.fields #[],#[]⟩
def zp:Obj:=⟨.type "builtin_function_or_method",aC,.fields #[.builtin "type.__prepare__",.type "type"],#[]⟩
def zu(a:Nat):Obj:=⟨.type "super",aC,.fields #[.ref a,.ref a,.ref a],#[]⟩
def zi(a:Nat):Obj:=⟨.type "builtin_function_or_method",aC,.fields #[.builtin "object.__init_subclass__",.ref a],#[]⟩
def zr(a b:Nat)(v:b_):Obj:=⟨.type "frame",aC,.plain,#[ar (.ref a),ar (.ref 3),ar (.ref b),aC,ar v,aC,ar (.ref 0)]⟩
def zk(n:String)(a b c:Nat)(l:Int)(r:Nat)(m:Int)(s:Nat)(x y:Int)(t:Nat):Obj:=⟨.type "code",aC,.fields #[zs n a,zs n b,zs "/claim/cut.py" c,.int l 0,.int 0 0,.int 0 0,.int 0 0,.int 0 0,.ref r,.bool dr,.int m 0,.ref s,.none,.none,.none,.none,.int x 0,.int y 0,zs "/claim/cut.py" t],#[]⟩
def zE(n:String)(i x a:Nat)(l ac fl:Int)(md:String)(m t:Nat):List Obj:=[zt #[],z0,zg n n (tp i),zc n n a l ac 0 0 fl (.ref x) 181 (.ref (x+1)) .none .none (.ref (x+2)) t (t+1),⟨.type "function",aC,zf n n (tp i) .none .none (zs md m) aC (.ref (x+3)) .none,#[]⟩]
def zD(n:String)(i x a:Nat)(l ac fl:Int)(v:Array b_)(md:String)(m t:Nat):List Obj:=[zt #[],z0,zt v,zt #[],zg n n (tp i),zc n n a l ac 0 0 fl (.ref x) 181 (.ref (x+1)) (.ref (x+2)) (.ref (x+3)) (.ref (x+4)) t (t+1),⟨.type "function",aC,zf n n (tp i) .none .none (zs md m) aC (.ref (x+5)) .none,#[]⟩]
def zC(P:M')(n:String)(a t l:Nat):List Obj:=[zp,⟨(.type "dict"),aC,(.dict #[ze P "__module__" (t+5) (zs "tiewebs.errors" 187),ze P "__qualname__" (t+7) (zs n (t+6)),ze P "__firstlineno__" (t+9) (.int l (t+8)),ze P "__static_attributes__" (t+10) (.ref (a+6))] 4),#[]⟩,zt #[],z0,zk n t (t+1) (t+2) l (a+2) 181 (a+3) (t+3) l (t+4),zr (a+4) (a+1) (zs "tiewebs.errors" 187),zt #[],⟨(.type "dict"),aC,(.dict #[ze P "__module__" (t+5) (zs "tiewebs.errors" 187),ze P "__firstlineno__" (t+9) (.int l (t+8)),ze P "__static_attributes__" (t+10) (.ref (a+6)),ze P "__doc__" (t+11) .none] 2),#[]⟩,⟨(.type "type"),aC,(.cls ⟨(i3 n),[(.ref 24)],[(.ref (a+8)),(.ref 24),(.type "ValueError"),(.type "Exception"),(.type "BaseException"),(.type "object")],(a+7),(i3 n),b',[],[],dr,aC,dr⟩),#[ar (.ref (a-1)),aC,ar (zs n (t-2)),ar (zs n (t+6)),ar (.builtin "ValueError.__new__"),ar (.bool b')]⟩,zu (a+8),zi (a+8),zt #[(.ref 24)]]
def ml:String:="law_tiewebs_k83_whole_fates_come"
def L1(P:M'):List Obj:=[boot_o_0 P,boot_o_1 P,boot_o_2 P,⟨(.type "dict"),aC,(.dict #[ze P "__name__" 165 (zs ml 430),ze P "__doc__" 166 .none,ze P "__package__" 167 .none,ze P "__loader__" 168 (.builtin "__main__.__loader__#opaque"),ze P "__spec__" 169 .none,ze P "__annotations__" 170 (.ref 6),ze P "__builtins__" 171 (.ref 4),ze P "__file__" 173 (zs "/claim/cut.py" 172),ze P "__cached__" 174 .none,ze P "WebError" 206 (.ref 24),ze P "NoWeb" 222 (.ref 37),ze P "NoNumber" 238 (.ref 49),ze P "NotJoined" 254 (.ref 61),ze P "TooGreat" 281 (.ref 80),ze P "MOST_PLACES" 285 (.int 14 284),ze P "is_whole" 292 (.ref 89),ze P "is_pair" 299 (.ref 96),ze P "is_place" 307 (.ref 103),ze P "is_tie" 317 (.ref 110),ze P "is_rising" 323 (.ref 115),ze P "is_web" 329 (.ref 120),ze P "need_web" 336 (.ref 127),ze P "need_number" 344 (.ref 134),ze P "pairs_of" 350 (.ref 139),ze P "degrees" 356 (.ref 144),ze P "pieces" 362 (.ref 149),ze P "need_joined" 369 (.ref 156),ze P "MOST_TIES" 373 (.int 7 372),ze P "ties_meet" 379 (.ref 161),ze P "need_few_ties" 386 (.ref 168),ze P "tie_web" 392 (.ref 173),ze P "ties_ahead" 398 (.ref 178),ze P "MOST_TIMES" 402 (.int 6 401),ze P "DEGREES_OF_THREE_IN_A_STAR" 407 (.ref 179),ze P "made_again" 417 (.ref 186),ze P "sizes_ahead" 423 (.ref 191),ze P "fate" 429 (.ref 196),ze P "_law_cell_at" 439 (.ref 203),ze P "_law_state" 448 (.ref 210),ze P "_law_take" 458 (.ref 217),ze P "_law_pairs" 464 (.ref 222),ze P "_law_mixed_row" 474 (.ref 229),ze P "_law_web" 480 (.ref 234),ze P "_law_named" 486 (.ref 239),ze P "_law_again" 494 (.ref 246),ze P "_law_grows" 500 (.ref 251),ze P "_law_right" 511 (.ref 258),ze P "law" 522 (.ref 265)] 48),#[]⟩,boot_o_4 P,boot_o_5 P,boot_o_6 P,boot_o_7 P,boot_o_8 P,boot_o_9 P,boot_o_10 P,zt #[],⟨.none,aC,(.fields #[(.int 2 0),(.int 0 0),(.ref 20),(.int 4 0),(.int 0 0),(.ref 33),(.int 6 0),(.int 0 0),(.ref 45),(.int 8 0),(.int 0 0),(.ref 57),(.int 10 0),(.int 0 0),(.ref 69),(.int 17 0),(.int 0 0),(.ref 88),(.int 19 0),(.int 0 0),(.ref 95),(.int 21 0),(.int 0 0),(.ref 102),(.int 23 0),(.int 0 0),(.ref 109),(.int 28 0),(.int 0 0),(.ref 114),(.int 30 0),(.int 0 0),(.ref 119),(.int 37 0),(.int 0 0),(.ref 126),(.int 40 0),(.int 0 0),(.ref 133),(.int 43 0),(.int 0 0),(.ref 138),(.int 45 0),(.int 0 0),(.ref 143),(.int 49 0),(.int 0 0),(.ref 148),(.int 59 0),(.int 0 0),(.ref 155),(.int 64 0),(.int 0 0),(.ref 160),(.int 66 0),(.int 0 0),(.ref 167),(.int 70 0),(.int 0 0),(.ref 172),(.int 75 0),(.int 0 0),(.ref 177),(.int 80 0),(.int 0 0),(.ref 185),(.int 87 0),(.int 0 0),(.ref 190),(.int 91 0),(.int 0 0),(.ref 195),(.int 103 0),(.int 0 0),(.ref 202),(.int 107 0),(.int 0 0),(.ref 209),(.int 112 0),(.int 0 0),(.ref 216),(.int 121 0),(.int 0 0),(.ref 221),(.int 126 0),(.int 0 0),(.ref 228),(.int 132 0),(.int 0 0),(.ref 233),(.int 146 0),(.int 0 0),(.ref 238),(.int 148 0),(.int 0 0),(.ref 245),(.int 153 0),(.int 0 0),(.ref 250),(.int 158 0),(.int 0 0),(.ref 257),(.int 172 0),(.int 0 0),(.ref 264)]),#[]⟩,⟨(.type "code"),aC,(.fields #[(zs "<module>" 182),(zs "<module>" 183),(zs "/claim/cut.py" 184),(.int 1 0),(.int 0 0),(.int 0 0),(.int 0 0),(.int 0 0),(.ref 11),(.bool dr),(.int 181 0),(.ref 12),.none,.none,.none,.none,(.int 185 0),(.int 1 0),(zs "/claim/cut.py" 186)]),#[]⟩,zr 13 3 (zs "__main__" 164),zt #[(.type "ValueError")],zp,⟨(.type "dict"),aC,(.dict #[ze P "__module__" 196 (zs "tiewebs.errors" 187),ze P "__qualname__" 198 (zs "WebError" 197),ze P "__firstlineno__" 200 (.int 2 199),ze P "__static_attributes__" 201 (.ref 22)] 4),#[]⟩,zt #[],z0,zk "WebError" 191 192 193 2 18 181 19 194 2 195,zr 20 17 (zs "tiewebs.errors" 187),zt #[],⟨(.type "dict"),aC,(.dict #[ze P "__module__" 196 (zs "tiewebs.errors" 187),ze P "__firstlineno__" 200 (.int 2 199),ze P "__static_attributes__" 201 (.ref 22),ze P "__weakref__" 203 (.ref 25),ze P "__doc__" 204 .none] 3),#[]⟩,⟨(.type "type"),aC,(.cls ⟨(i3 "WebError"),[(.type "ValueError")],[(.ref 24),(.type "ValueError"),(.type "Exception"),(.type "BaseException"),(.type "object")],23,(i3 "WebError"),b',[],[(.ref 37),(.ref 49),(.ref 61),(.ref 80)],dr,aC,dr⟩),#[ar (.ref 15),aC,ar (zs "WebError" 189),ar (zs "WebError" 197),ar (.builtin "ValueError.__new__"),ar (.bool b')]⟩,⟨(.type "getset_descriptor"),aC,(.fields #[(zs "__weakref__" 202),(.ref 24),(.builtin "ExceptionGroup.__weakref__"),.none]),#[]⟩,zu 24,zi 24,zt #[(.ref 24)]]++zC P "NoWeb" 29 209 4++zC P "NoNumber" 41 225 6++zC P "NotJoined" 53 241 8++[zp,⟨(.type "dict"),aC,(.dict #[ze P "__module__" 262 (zs "tiewebs.errors" 187),ze P "__qualname__" 264 (zs "TooGreat" 263),ze P "__firstlineno__" 266 (.int 10 265),ze P "__init__" 275 (.ref 77),ze P "__static_attributes__" 278 (.ref 78)] 5),#[]⟩,zt #[],⟨.none,aC,(.fields #[(.int 12 0),(.int 4 0),(.ref 76)]),#[]⟩,zk "TooGreat" 257 258 259 10 67 181 68 260 10 261,zr 69 66 (zs "tiewebs.errors" 187),zt #[],z0,zt #[(zs "self" 270),(zs "many" 271),(zs "most" 272)],zt #[],zg "__init__" "TooGreat.__init__" (iC (tp 5)),zc "__init__" "TooGreat.__init__" 267 12 3 0 0 3 (.ref 71) 181 (.ref 72) (.ref 73) (.ref 74) (.ref 75) 273 274,⟨.type "function",aC,(zf "__init__" "TooGreat.__init__" (iC (tp 5)) .none .none (zs "tiewebs.errors" 187) aC (.ref 76) .none),#[]⟩,zt #[(zs "many" 276),(zs "most" 277)],⟨(.type "dict"),aC,(.dict #[ze P "__module__" 262 (zs "tiewebs.errors" 187),ze P "__firstlineno__" 266 (.int 10 265),ze P "__init__" 275 (.ref 77),ze P "__static_attributes__" 278 (.ref 78),ze P "__doc__" 279 .none] 2),#[]⟩,⟨(.type "type"),aC,(.cls ⟨(i3 "TooGreat"),[(.ref 24)],[(.ref 80),(.ref 24),(.type "ValueError"),(.type "Exception"),(.type "BaseException"),(.type "object")],79,(i3 "TooGreat"),b',[],[],dr,aC,dr⟩),#[ar (.ref 64),aC,ar (zs "TooGreat" 255),ar (zs "TooGreat" 263),ar (.builtin "ValueError.__new__"),ar (.bool b')]⟩,zu 80,zi 80]++zD "is_whole" 8 83 286 17 1 3 #[zs "thing" 289] "tiewebs.webs" 282 290++zD "is_pair" 9 90 293 19 1 3 #[zs "thing" 296] "tiewebs.webs" 282 297++zD "is_place" 10 97 300 21 2 3 #[zs "many" 303,zs "thing" 304] "tiewebs.webs" 282 305++zD "is_tie" 11 104 308 23 2 3 #[zs "many" 311,zs "thing" 312,zs "low" 313,zs "high" 314] "tiewebs.webs" 282 315++zE "is_rising" 12 111 318 28 1 3 "tiewebs.webs" 282 321++zE "is_web" 13 116 324 30 1 3 "tiewebs.webs" 282 327++zD "need_web" 14 121 330 37 1 3 #[zs "thing" 333] "tiewebs.webs" 282 334++zD "need_number" 15 128 337 40 2 3 #[zs "thing" 340,zs "most" 341] "tiewebs.webs" 282 342++zE "pairs_of" 16 135 345 43 1 3 "tiewebs.webs" 282 348++zE "degrees" 17 140 351 45 1 3 "tiewebs.webs" 282 354++zE "pieces" 18 145 357 49 1 3 "tiewebs.webs" 282 360++zD "need_joined" 19 150 363 59 1 3 #[zs "web" 366] "tiewebs.webs" 282 367++zE "ties_meet" 22 157 374 64 2 3 "tiewebs.ties" 370 377++zD "need_few_ties" 23 162 380 66 1 3 #[zs "web" 383] "tiewebs.ties" 370 384++zE "tie_web" 24 169 387 70 1 3 "tiewebs.ties" 370 390++zE "ties_ahead" 25 174 393 75 1 3 "tiewebs.ties" 370 396++[zt #[(.int 1 403),(.int 1 404),(.int 1 405),(.int 3 406)]]++zD "made_again" 29 180 408 80 2 3 #[zs "web" 411,zs "times" 412,zs "made" 413,zs "turn" 414] "tiewebs.again" 399 415++zE "sizes_ahead" 30 187 418 87 1 3 "tiewebs.again" 399 421++zE "fate" 31 192 424 91 1 3 "tiewebs.again" 399 427++zD "_law_cell_at" 33 197 432 103 2 3 #[zs "_law_script" 435,zs "_law_k" 436] ml 430 437++zD "_law_state" 34 204 440 107 2 3 #[zs "_law_script" 443,zs "_law_k" 444,zs "_law_cell" 445] ml 430 446++zD "_law_take" 35 211 449 112 2 3 #[zs "_law_state_here" 452,zs "_law_many" 453,zs "_law_found" 454,zs "_law_stirred" 455] ml 430 456++zE "_law_pairs" 36 218 459 121 1 3 ml 430 462++zD "_law_mixed_row" 37 223 465 126 2 3 #[zs "_law_state_here" 468,zs "_law_things" 469,zs "_law_left" 470,zs "_law_found" 471] ml 430 472++zE "_law_web" 38 230 475 132 2 3 ml 430 478++zE "_law_named" 39 235 481 146 2 3 ml 430 484++zD "_law_again" 40 240 487 148 2 3 #[zs "_law_web_here" 490,zs "_law_times" 491] ml 430 492++zE "_law_grows" 41 247 495 153 1 3 ml 430 498++zD "_law_right" 42 252 501 158 1 3 #[zs "_law_web_here" 504,zs "_law_told" 505,zs "_law_sizes" 506,zs "_law_later" 507,zs "_law_last" 508] ml 430 509++zD "law" 43 259 512 172 1 3 #[zs "_law_script" 515,zs "_law_k" 516,zs "_law_state_here" 517,zs "_law_web_here" 518,zs "_law_other" 519] ml 430 520
def Lb(P:M'):List Obj:=[boot_o_0 P,boot_o_1 P,boot_o_2 P,boot_o_3 P,boot_o_4 P,boot_o_5 P,boot_o_6 P,boot_o_7 P,boot_o_8 P,boot_o_9 P,boot_o_10 P,zt #[],z0,⟨(.type "code"),aC,(.fields #[(zs "<module>" 182),(zs "<module>" 183),(zs "/claim/cut.py" 184),(.int 1 0),(.int 0 0),(.int 0 0),(.int 0 0),(.int 0 0),(.ref 11),(.bool dr),(.int 181 0),(.ref 12),.none,.none,.none,.none,(.int 185 0),(.int 1 0),(zs "/claim/cut.py" 186)]),#[]⟩,zr 13 3 (zs "__main__" 164)]
def as0:List Addr:=[2,3,15,22,23,24,25,28,35,36,37,40,47,48,49,52,59,60,61,64,71,73,74,76,77,78,79,80,83,85,86,88,89,90,92,93,95,96,97,99,100,102,103,104,106,107,109,110,111,114,115,116,119,120,121,123,124,126,127,128,130,131,133,134,135,138,139,140,143,144,145,148,149,150,152,153,155,156,157,160,161,162,164,165,167,168,169,172,173,174,177,178,179,180,182,183,185,186,187,190,191,192,195,196,197,199,200,202,203,204,206,207,209,210,211,213,214,216,217,218,221,222,223,225,226,228,229,230,233,234,235,238,239,240,242,243,245,246,247,250,251,252,254,255,257,258,259,261,262,264,265]
def ts0:List Addr:=[253,260]
def vq:Program:={PySem.Challenge.pw_tiewebs_k83_whole_fates_come with main:={PySem.Challenge.pw_tiewebs_k83_whole_fates_come.main with body:=[tp 1,tp 2,tp 3,tp 4,tp 5,tp 7,tp 8,tp 9,tp 10,tp 11,tp 12,tp 13,tp 14,tp 15,tp 16,tp 17,tp 18,tp 19,tp 21,tp 22,tp 23,tp 24,tp 25,tp 27,tp 28,tp 29,tp 30,tp 31,tp 33,tp 34,tp 35,tp 36,tp 37,tp 38,tp 39,tp 40,tp 41,tp 42,tp 43]}}
def alt:Bool->List Obj->List Obj
 |_,[]=>[]
 |true,a::r=>a::alt dr r
 |false,_::r=>alt b' r
def toT:Nat->List Obj->BT
 |0,_=>.nil
 |_+1,[]=>.nil
 |f+1,o::r=>.node o (toT f (alt b' r)) (toT f (alt dr r))
def pick:Nat->List cq->List Obj->dn
 |i,as,o::os=>match as with
  |a::r=>if Nat.beq i a then (a,o)::pick (i+1) r os else pick (i+1) (a::r) os
  |[]=>[]
 |_,_,[]=>[]
def K0(P:M'):W.Frag:=pick 0 as0 (L1 P)
theorem as0_eq:∀P,as0=(K0 P).map (·.1):=λ_=>by kernel_rfl
abbrev pw:Program:=PySem.Challenge.pw_tiewebs_k83_whole_fates_come
abbrev Xt0(s:c_):Bool:=xlAt vq [] s && recOk (RowW.records (OpenRow.toRowW (OpenLaw.row PySem.Challenge.rw_tiewebs_k83_whole_fates_come))) s
def lf:Life:={}
def en:Env:={scope:=pw.main.scope,locals:=mainNs,globals:=mainNs,cells:=[],code:=(.ref 13),frame:=ar 14}
abbrev cE:Code:=.body (Ic pw) en
abbrev Bf:List Frame:=[topFrame ⟨0,0,0,0⟩]
abbrev S0(w:ee)(os:Np):Shared:=⟨z7 w.params,yn [],boot_drawn,boot_toks,os⟩
abbrev Sb(w:ee)(os:Np):SharedT:=⟨toT 12 (Lb w.params),15,lf,yn [],⟨0,0,0,0⟩,187,os⟩
abbrev Sm(w:ee)(os:Np):SharedT:=⟨toT 12 (L1 w.params),266,lf,yn [],⟨0,0,0,0⟩,523,os⟩
abbrev Sf(w:ee)(os:Np):Shared:=⟨⟨yn (L1 w.params),lf⟩,yn [],⟨0,0,0,0⟩,523,os⟩
theorem HS:∀w,(λos=>topGo I_ pw w 11 (ar (.ref 6)) 12 (S0 w os) (topStub pw))=λos=>ar ((Sb w os).abs,⟨denote I_ cE,cE,⟨0,0,0,0⟩,Bf⟩):=λw=>by kernel_rfl
theorem D1:∀w,(λos=>segRun I_ pw w 11 (ar (.ref 6)) 1 1 (Sb w os).abs (blockOf (Ic pw) en cE ⟨0,0,0,0⟩ Bf))=λos=>ar (.next,(Sb w os).abs,cE,⟨0,0,0,0⟩):=λw=>by kernel_rfl
theorem Ge:∀w,(λos=>segRunT I_ pw w 11 (ar (.ref 6)) 1 2013 (Sb w os) (piecesOf (Ic pw) en cE ⟨0,0,0,0⟩ Bf))=λos=>ar (.next,Sm w os,cE,⟨172,0,183,15⟩):=λw=>by kernel_rfl
theorem HU:∀w,(λos=>topRun I_ pw w 11 (ar (.ref 6)) 2 (Sm w os).abs ⟨doneF .next,cE,⟨172,0,183,15⟩,Bf⟩)=λos=>ar (Sf w os):=λw=>by kernel_rfl
theorem HV(w:ee)(os:Np):topRun I_ pw w 11 (ar (.ref 6)) (12+(1+(2013+2))) (S0 w os) (topStub pw)=ar (Sf w os):=
 go_top (Kv (HS w) os) (piece_block (Kv (D1 w) os) (by have:=piece_app (rest:=[]) (segRun_of (Kv (Ge w) os)) (piece_nil (Kv (HU w) os));rw[Ky]at this;exact this))
theorem Gg:∀w:ee,((z7 w.params).isNs g_ && (yn []:Array Ng).size==0,(z7 w.params).objs.size,(z7 w.params).nsMap g_ "__annotations__")=(b',11,(ar (.ref 6))):=λw=>by kernel_rfl
theorem Gh:∀w os,(staticsOk (j3 pw.main.body) (z7 w.params) (Sf w os).heap && namesBound pw (Sf w os).heap && gensDone (Sf w os) && laidKept (z7 w.params) (Sf w os).heap)=true:=λw os=>by kernel_rfl
theorem HW:∀w os,(vn vq [] (j3 pw.main.body) Xt0 b' (Sf w os)).1=(vr vq []).1:=λw os=>by kernel_rfl
theorem HX:∀w os,(vn vq [] (j3 pw.main.body) Xt0 b' (Sf w os)).2.1=(vr vq []).2.1:=λw os=>by kernel_rfl
theorem HY:∀w os,(vn vq [] (j3 pw.main.body) Xt0 b' (Sf w os)).2.2.1=(vr vq []).2.2.1:=λw os=>by kernel_rfl
theorem HZ:∀w os,(vn vq [] (j3 pw.main.body) Xt0 b' (Sf w os)).2.2.2.1=(vr vq []).2.2.2.1:=λw os=>by kernel_rfl
theorem Ia:∀w os,(vn vq [] (j3 pw.main.body) Xt0 b' (Sf w os)).2.2.2.2.1=(vr vq []).2.2.2.2.1:=λw os=>by kernel_rfl
theorem Ib:∀w os,(vn vq [] (j3 pw.main.body) Xt0 b' (Sf w os)).2.2.2.2.2.1=(vr vq []).2.2.2.2.2.1:=λw os=>by kernel_rfl
theorem Ie:∀w os,(vn vq [] (j3 pw.main.body) Xt0 b' (Sf w os)).2.2.2.2.2.2.1=(vr vq []).2.2.2.2.2.2.1:=λw os=>by kernel_rfl
theorem Ig:∀w os,(vn vq [] (j3 pw.main.body) Xt0 b' (Sf w os)).2.2.2.2.2.2.2.1=(vr vq []).2.2.2.2.2.2.2.1:=λw os=>by kernel_rfl
theorem Ih:∀w os,(vn vq [] (j3 pw.main.body) Xt0 b' (Sf w os)).2.2.2.2.2.2.2.2=(vr vq []).2.2.2.2.2.2.2.2:=λw os=>by kernel_rfl
theorem Gi:∀w os,Ot (Ni K0 as0 as0_eq ts0) (Sf w os)=Ou (Ni K0 as0 as0_eq ts0) w:=λw os=>by kernel_rfl
theorem Gj(w:ee)(os:Np):vn vq [] (j3 pw.main.body) Xt0 b' (Sf w os)=vr vq []:=L8 (HW w os) (L8 (HX w os) (L8 (HY w os) (L8 (HZ w os) (L8 (Ia w os) (L8 (Ib w os) (L8 (Ie w os) (L8 (Ig w os) (Ih w os))))))))
theorem left0:LeftO (OpenLaw.row PySem.Challenge.rw_tiewebs_k83_whole_fates_come).prog vq [] Xt0 (Ot (Ni K0 as0 as0_eq ts0)) (Ou (Ni K0 as0 as0_eq ts0)) 4150:=
 LeftO.of_pieces (p:=pw) (H₀:=z7) (H₁:=λP=>⟨yn (L1 P),lf⟩) (gs₀:=yn []) (gs₁:=yn []) (d₀:=boot_drawn) (d₁:=⟨0,0,0,0⟩) (k₀:=boot_toks) (k₁:=523) (M:=12+(1+(2013+2))) (boot_open (p:=pw) (by kernel_rfl) (by decide) (λs=>by kernel_rfl)) Gg HV (by decide) λw=>funext λos=>L8 (Gh w os) (L8 (Gj w os) (Gi w os))
end KH
section
namespace L2
open PySem PySem.Spec PyProof.Rows
abbrev Key:=Sum Int Str
def Dt:Key->b_->Bool
 | .inl k,v=>Value.isInt k v
 | .inr x,v=>Value.isStrOf x v
def Ii(w:ee):Key->Int
 | .inl k=>hashInt k
 | .inr x=>hashStr w x
theorem cD:∀{k:Key} {v:b_},Dt k v=b'->(∃i t,k=Nq i/\v=u4 i t)\/(∃x t,k=Nr x/\v=NQ x t)
 | .inl i,v,h=>by
  obtain⟨t,e⟩:=Value.isInt_shape (k:=i) (v:=v) h;exact .inl ⟨i,t,rfl,e⟩
 | .inr x,v,h=>by
  obtain⟨t,e⟩:=Value.isStrOf_shape (x:=x) (v:=v) h;exact .inr ⟨x,t,rfl,e⟩
theorem D3(a b:Int):decide ((Nq a:Key)=Nq b)=(a==b):=by
 by_cases e:a=b
 ·subst e;simp
 ·have h:¬ (Nq a:Key)=Nq b:=λq=>e (Sum.inl.inj q);rw[J8 h];exact(beq_eq_false_iff_ne.mpr e).symm
theorem D4(a b:Str):decide ((Nr a:Key)=Nr b)=decide (a=b):=by
 by_cases e:a=b
 ·subst e;simp
 ·have h:¬ (Nr a:Key)=Nr b:=λq=>e (Sum.inr.inj q);rw[J8 h,J8 e]
theorem D5(a:Int)(b:Str):decide ((Nq a:Key)=Nr b)=false:=J8 (λq=>nomatch q)
theorem D6(a:Str)(b:Int):decide ((Nr a:Key)=Nq b)=false:=J8 (λq=>nomatch q)
def qA(prog:d_)(w:ee):PySem.KeyKind prog w Key where
 is:=Dt
 hash:=Ii w
 inj:=λv a b ha hb=>by
  rcases cD ha with⟨i,t,rfl,rfl⟩|⟨x,t,rfl,rfl⟩
  ·rcases cD hb with⟨j,u,rfl,e⟩|⟨y,u,rfl,e⟩
   ·injection e with e1 _;rw[e1]
   ·exact nomatch e
  ·rcases cD hb with⟨j,u,rfl,e⟩|⟨y,u,rfl,e⟩
   ·exact nomatch e
   ·injection e with e1 _;rw[e1]
 byValue:=λk v h=>by rcases cD h with⟨i,t,rfl,rfl⟩|⟨x,t,rfl,rfl⟩<;>rfl
 pyHash:=λhv h=>by
  rcases cD hv with⟨i,t,rfl,rfl⟩|⟨x,t,rfl,rfl⟩
  ·exact wpAny_pyHash_int h
  ·exact wpAny_pyHash_str h
 eqBool:=λhu hv h=>by
  rcases cD hu with⟨i,t,rfl,rfl⟩|⟨x,t,rfl,rfl⟩
  ·rcases cD hv with⟨j,u,rfl,rfl⟩|⟨y,u,rfl,rfl⟩
   ·rw[D3]at h;exact MV h
   ·rw[D5]at h;exact SeqAt.EqAt.int_str i t y u _ _ _ _ h
  ·rcases cD hv with⟨j,u,rfl,rfl⟩|⟨y,u,rfl,rfl⟩
   ·rw[D6]at h;exact SeqAt.EqAt.str_int x t j u _ _ _ _ h
   ·rw[D4]at h;exact wpAny_eqBool_str h
 «strs»:=λk x t v h=>by
  rcases cD h with⟨i,u,rfl,e⟩|⟨y,u,rfl,e⟩
  ·exact nomatch e
  ·injection e with e1 _;subst e1;cases v<;>rfl
inductive V where
 |non|bl (b:Bool)|int (i:Int)|str (x:Str)|byt (b:Array UInt8)|flt (b:UInt64)|ref (a:cq)|ty (n:String)
 deriving DecidableEq
def RelV:V->b_->Prop
 | .non,u=>u=j0
 | .bl b,u=>u=sh b
 | .int i,u=>∃t,u=u4 i t
 | .str x,u=>∃t,u=NQ x t
 | .byt b,u=>∃t,u=Value.bytes b t
 | .flt b,u=>∃t,u=Value.float b t
 | .ref a,u=>u=hF a
 | .ty n,u=>u=Value.type n
abbrev bh:List V->List b_->Prop:=Paired RelV
theorem bh.length{xs:List V}{us:List b_}(r:bh xs us):xs.length=us.length:=Paired.length r
theorem bh.get:∀{xs:List V} {us:List b_} {i:Nat} {x:V},bh xs us->xs[i]? =ar x->∃u,us[i]? =ar u/\RelV x u
 |_,_,_,_,.nil,e=>by simp at e
 |_,_,0,_,.cons r _,e=>by simp at e;subst e;exact⟨_,rfl,r⟩
 |_,_,i+1,x,.cons _ t,e=>by
  obtain⟨u,Z,Y⟩:=bh.get (i:=i) (x:=x) t (by simpa using e);exact⟨u,by simpa using Z,Y⟩
theorem bh.set(r:RelV x u):∀{xs:List V} {us:List b_} (i:Nat),bh xs us->bh (xs.set i x) (us.set i u)
 |_,_,_,.nil=>.nil
 |_,_,0,.cons _ t=>.cons r t
 |_,_,i+1,.cons q t=>.cons q (bh.set r i t)
theorem bh.append:∀{xs ys:List V} {us ws:List b_},bh xs us->bh ys ws->bh (xs++ys) (us++ws)
 |_,_,_,_,.nil,s=>s
 |_,_,_,_,.cons r t,s=>.cons r (bh.append t s)
theorem bh.take:∀{xs:List V} {us:List b_} (n:Nat),bh xs us->bh (xs.take n) (us.take n)
 |_,_,0,_=>.nil
 |_,_,_+1,.nil=>.nil
 |_,_,n+1,.cons r t=>.cons r (bh.take n t)
theorem bh.drop:∀{xs:List V} {us:List b_} (n:Nat),bh xs us->bh (xs.drop n) (us.drop n)
 |_,_,0,r=>r
 |_,_,_+1,.nil=>.nil
 |_,_,n+1,.cons _ t=>bh.drop n t
def yY:Option V->Option b_->Prop
 |some v,ar u=>RelV v u
 |none,aC=>True
 |_,_=>False
def KV{κ:Type}:List (κ×V)->List (κ×b_)->Prop:=Paired λ(p:κ×V) (q:κ×b_)=>p.1=q.1/\RelV p.2 q.2
def kV:Key->V
 | .inl i=>.int i
 | .inr x=>.str x
inductive HO where
 |lst (xs:List V)
 |tup (xs:List V)
 |dK (kvs:List (Key×V))|dT (kvs:List (List Key×V))
 |set (S:Int->Bool) (n:Nat)
 |ins (C dx:cq) (fs:List (Str×V))
 |own (x:cq)
 |xd (fs:List (Str×V))
 |met (f x:cq)
 |rng (lo hi:Int)
 |frz (o:Obj) (u:HO)
 |tbl (ps:Array b_)
 |ext (φ:f'->Prop)
abbrev Hp:=cq->Option HO
def upd(H:Hp)(a:cq)(o:HO):Hp:=λb=>if b=a then ar o else H b
theorem aY:upd H a o a=ar o:=by unfold upd;rw[if_pos rfl]
theorem aK{H:Hp}(h:b≠a):upd H a o b=H b:=by unfold upd;rw[if_neg h]
theorem qB:upd (upd H a o) a u=upd H a u:=by funext b;unfold upd;split<;>rfl
theorem aO{H:Hp}(h:H a=ar o)(h':H b=aC):a≠b:=by intro e;subst e;rw[h]at h';cases h'
section
variable (P:d_)(w:ee)
def bK(H:Hp)(h:f')(a:cq):HO->Prop
 | .lst xs=>xs.length<=sizeLine/\∃(its:List b_) (n:Nat),bh xs its/\h.get? a=ar {cls:=.type "list",data:=.seq its.toArray n}
 | .tup xs=>(xs.length<=sizeLine/\∃o,h.get? a=ar o/\o.dict=aC)/\∃its:List b_,bh xs its/\Oj h a its.toArray
 | .dK kvs=>kvs.length<=sizeLine/\(a==N7)=dr/\∃vs,KV kvs vs/\h.DictOf (qA P w) a vs
 | .dT kvs=>kvs.length<=sizeLine/\(a==N7)=dr/\∃xs:List (List Key×cq×b_),
   Paired (λ(p:List Key×V) (q:List Key×cq×b_)=>p.1=q.1/\H q.2.1=ar (.tup (p.1.map kV))/\RelV p.2 q.2.2) kvs xs/\
   ∃o es ep,h.get? a=ar o/\o.ExactDict/\o.data= .dict es ep/\es.toList=xs.map (entryOfKey (tupleKind (qA P w)))/\(xs.map (·.1)).Nodup
 | .set S n=>h.SetOf (OC P w) a S n
 | .ins C dx fs=>H dx=ar (.own a)/\fs.length<=1000/\dx≠a/\h.get? a=ar (Ol C dx)/\
   ∃mA,h.Ns1 dx mA/\(∀f,yY (fs.lookup f) (mA f))/\PySem.Within mA (fs.map (·.1))
 | .own _=>∃o,h.get? a=ar o
 | .xd fs=>∃mA,h.Ns1 a mA/\∀f,yY (fs.lookup f) (mA f)
 | .rng lo hi=>∃t u v,h.get? a=ar {cls:=.type "range",data:=.fields #[.int lo t,.int hi u,.int 1 v]}
 | .frz o u=>h.get? a=ar o/\bK H h a u
 | .tbl ps=>h.get? a=ar {cls:=.none,data:=.fields ps}
 | .met f x=>h.get? a=ar (NY (.ref f) (.ref x))
 | .ext φ=>φ h/\(∃o,h.get? a=ar o)/\∀h1 h2:f',φ h1->(∀o,h1.get? a=ar o->h2.get? a=ar o)->φ h2
theorem qC{h:f'}{xs:List V}{items:Array b_}(z:xs.length<=sizeLine):xs.length<=sizeLine/\∃o,(h.push {cls:=.type "tuple",data:=.seq items}).get? h.objs.size=ar o/\o.dict=none:=⟨z,_,J0 _ rfl,rfl⟩
def fY(H:Hp)(h:f'):Prop:=∀a o,H a=ar o->bK P w H h a o
end
section
variable {P:d_}{w:ee}{H H':Hp}{h h':f'}{a:cq}{o:HO}
theorem bK.lt(x:bK P w H h a o):a<h.objs.size:=by
 cases o with
 |lst xs=>obtain⟨_,_,_,_,e⟩:=x;exact JU e
 |tup xs=>obtain⟨_,_,_,p⟩:=x;exact p.lt
 |dK kvs=>obtain⟨_,_,_,_,o,_,_,e,_⟩:=x;exact JU e
 |dT kvs=>obtain⟨_,_,_,_,o,_,_,e,_⟩:=x;exact JU e
 |set S n=>obtain⟨o,_,_,_,e,_⟩:=x;exact JU e
 |ins C dx fs=>obtain⟨_,_,_,e,_⟩:=x;exact JU e
 |own y=>obtain⟨_,e⟩:=x;exact JU e
 |xd fs=>obtain⟨_,⟨_,_,_,e,_⟩,_⟩:=x;exact JU e
 |rng lo hi=>obtain⟨_,_,_,e⟩:=x;exact JU e
 |frz ob u=>obtain⟨e,_⟩:=x;exact JU e
 |tbl ps=>exact JU (show h.get? a=ar _ from x)
 |met f y=>exact JU (show h.get? a=ar _ from x)
 |ext φ=>obtain⟨_,⟨_,e⟩,_⟩:=x;exact JU e
theorem Paired.mapP{α Z:Type}{F G:α->Z->Prop}:∀{l₁:List α} {l₂:List Z},Paired F l₁ l₂->(∀a b,F a b->G a b)->Paired G l₁ l₂
 |_,_,.nil,_=>.nil
 |_,_,.cons r t,f=>.cons (f _ _ r) (Paired.mapP t f)
theorem bK.stay(x:bK P w H h a o)(k:∀b u,(b=a\/H b=ar (.own a))->h.get? b=ar u->h'.get? b=ar u)
  (U:∀b,H b=ar (.own a)->H' b=ar (.own a)) (O:∀b xs,H b=ar (.tup xs)->H' b=ar (.tup xs)):bK P w H' h' a o:=by
 induction o with
 |lst xs=>obtain⟨z,its,n,r,e⟩:=x;exact⟨z,its,n,r,k _ _ (.inl rfl) e⟩
 |tup xs=>obtain⟨⟨z,Q,R,T⟩,its,r,Z,e,c⟩:=x;exact⟨⟨z,Q,k _ _ (.inl rfl) R,T⟩,its,r,Z,k _ _ (.inl rfl) e,c⟩
 |dK kvs=>obtain⟨z,y,vs,r,Z,es,Y,e,c⟩:=x;exact⟨z,y,vs,r,Z,es,Y,k _ _ (.inl rfl) e,c⟩
 |dT kvs=>
  obtain⟨z,y,xs,r,Z,es,Y,e,c⟩:=x;exact⟨z,y,xs,Paired.mapP r λp q z=>⟨z.1,O _ _ z.2.1,z.2.2⟩,Z,es,Y,k _ _ (.inl rfl) e,c⟩
 |set S n=>obtain⟨Z,es,Y,t,e,c⟩:=x;exact⟨Z,es,Y,t,k _ _ (.inl rfl) e,c⟩
 |ins C dx fs=>
  obtain⟨d,z,ne,e,mA,⟨X,es,Y,e2,c⟩,r⟩:=x;exact⟨U _ d,z,ne,k _ _ (.inl rfl) e,mA,⟨X,es,Y,k _ _ (.inr d) e2,c⟩,r⟩
 |own y=>obtain⟨Z,e⟩:=x;exact⟨Z,k _ _ (.inl rfl) e⟩
 |xd fs=>obtain⟨mA,⟨X,es,Y,e,c⟩,r⟩:=x;exact⟨mA,⟨X,es,Y,k _ _ (.inl rfl) e,c⟩,r⟩
 |rng lo hi=>obtain⟨t,u,v,e⟩:=x;exact⟨t,u,v,k _ _ (.inl rfl) e⟩
 |frz Z u ih=>obtain⟨e,q⟩:=x;exact⟨k _ _ (.inl rfl) e,ih q⟩
 |tbl ps=>
  have e:h.get? a=ar {cls:=.none,data:=.fields ps}:=x;show h'.get? a=ar {cls:=.none,data:=.fields ps};exact k a _ (.inl rfl) e
 |met f y=>
  have e:h.get? a=ar (NY (.ref f) (.ref y)):=x;show h'.get? a=ar (NY (.ref f) (.ref y));exact k a _ (.inl rfl) e
 |ext φ=>obtain⟨p,⟨o,e⟩,st⟩:=x;exact⟨st _ _ p λo q=>k _ _ (.inl rfl) q,⟨o,k _ _ (.inl rfl) e⟩,st⟩
theorem fY.lt(x:fY P w H h)(e:H a=ar o):a<h.objs.size:=(x a o e).lt
theorem fY.fresh(x:fY P w H h)(e:h.objs.size<=a):H a=none:=by
 cases q:H a with
 |none=>rfl
 |some u=>exact absurd (J1 (x.lt q) e) (K1 _)
theorem fY.kept(x:fY P w H h)(k:∀b u,h.get? b=ar u->h'.get? b=ar u):fY P w H h':=λa o e=>
 (x a o e).stay (λb u _ q=>k b u q) (λ_ q=>q) λ_ _ q=>q
theorem fY.laid(x:fY P w H h)(k:∀b u,h.get? b=ar u->h'.get? b=ar u)(X:h.objs.size<=a)(Z:bK P w (upd H a o) h' a o):fY P w (upd H a o) h':=λb u e=>by
 have Y:=x.fresh X;by_cases hb:b=a
 ·subst hb;rw[aY]at e;cases e;exact Z
 ·rw[aK hb]at e;exact(x b u e).stay (λc v _ q=>k c v q) (λc q=>by rw[aK (aO q Y)];exact q) λc xs q=>by rw[aK (aO q Y)];exact q
end
def Rd(H:Hp)(a:cq)(u:HO):Prop:=H a=ar u\/∃o,H a=ar (.frz o u)
theorem Rd.ok{P:d_}{w:ee}{H:Hp}{h:f'}{a:cq}{u:HO}(r:Rd H a u)(x:fY P w H h):bK P w H h a u:=by
 rcases r with r|⟨o,r⟩
 ·exact x a u r
 ·obtain⟨_,q⟩:=x a _ r;exact q
def HD:Option HO->Prop
 |some (.lst _)=>True
 |some (.dK _)=>True
 |some (.dT _)=>True
 |some (.set _ _)=>True
 |some (.ins _ _ _)=>True
 |some (.ext _)=>True
 |_=>False
section
variable {P:d_}{w:ee}{H:Hp}{h h':f'}{x e:cq}{o':HO}
theorem fY.write(Q:fY P w H h)(W:HD (H x))(S:e=x\/H e=ar (.own x))(k:∀b u,b≠e->h.get? b=ar u->h'.get? b=ar u)(U:∃u,h'.get? e=ar u)
  (T:bK P w (upd H x o') h' x o'):fY P w (upd H x o') h':=λb u q=>by
 have Z:∀c y,H c=ar (.own y)->c≠x:=λc y r z=>by subst z;rw[r]at W;exact W
 have Y:∀c xs,H c=ar (.tup xs)->c≠x:=λc xs r z=>by subst z;rw[r]at W;exact W
 by_cases hb:b=x
 ·subst hb;rw[aY]at q;cases q;exact T
 ·rw[aK hb]at q;by_cases hbe:b=e
  ·have R:H b=ar (.own x):=by
    rcases S with z|z
    ·exact absurd (hbe.trans z) hb
    ·rw[hbe];exact z
   rw[q]at R;cases R;obtain⟨v,O⟩:=U;exact⟨v,by rw[hbe];exact O⟩
  ·refine(Q b u q).stay (λc v X r=>k c v ?_ r) (λc r=>by rw[aK (Z c b r)];exact r) λc xs r=>by rw[aK (Y c xs r)];exact r
   rcases X with rfl|X
   ·exact hbe
   ·rintro rfl;rcases S with z|z
    ·exact Z c b X z
    ·rw[X]at z;cases z;exact hb rfl
end
structure Un(fs ex:List cq)(H H':Hp)(h h':f'):Prop where
 keep:∀b o,h.get? b=ar o->H b=aC->b∉fs->b∉ex->h'.get? b=ar o
 slot:∀b o,h.get? b=ar o->H b=aC->b∈fs->b∉ex->∃sl,h'.get? b=ar {o with slots:=sl}
 free:∀b o,h.get? b=ar o->H b=aC->b∉ex->H' b=aC
 there:∀b o,h.get? b=ar o->b∉ex->∃o',h'.get? b=ar o'
 tups:∀b xs,H b=ar (.tup xs)->H' b=ar (.tup xs)
 frzs:∀b o u,H b=ar (.frz o u)->H' b=ar (.frz o u)
 tbls:∀b ps,H b=ar (.tbl ps)->∃more,H' b=ar (.tbl (ps++more))
section
variable {fs fs' ex ex':List cq}{H H1 H2:Hp}{h h1 h2 h':f'}{a x e:cq}{o:HO}
theorem Un.any(u:Un fs ex H H1 h h1)(q:h.get? b=ar ob)(n:H b=aC)(Z:b∉ex):∃sl,h1.get? b=ar {ob with slots:=sl}:=by
 by_cases hb:b∈fs
 ·exact u.slot b ob q n hb Z
 ·exact⟨ob.slots,u.keep b ob q n hb Z⟩
theorem Un.kept(k:∀b u,h.get? b=ar u->h'.get? b=ar u):Un fs ex H H h h':=
 ⟨λb Z q _ _ _=>k b Z q,λb Z q _ _ _=>⟨Z.slots,k b Z q⟩,λ_ _ _ n _=>n,λb Z q _=>⟨Z,k b Z q⟩,λ_ _ q=>q,λ_ _ _ q=>q,λ_ Y q=>⟨#[],by rw[q];simp⟩⟩
theorem Un.refl:Un fs ex H H h h:=Un.kept λ_ _ q=>q
theorem Un.laid(k:∀b u,h.get? b=ar u->h'.get? b=ar u)(Y:h.objs.size<=a)(Z:H a=aC):Un fs ex H (upd H a o) h h' where
 keep:=λb u q _ _ _=>k b u q
 slot:=λb u q _ _ _=>⟨u.slots,k b u q⟩
 free:=λb u q n _=>by rw[aK (J7 (J1 (JU q) Y))];exact n
 there:=λb u q _=>⟨u,k b u q⟩
 tups:=λb xs q=>by rw[aK (aO q Z)];exact q
 frzs:=λb u xs q=>by rw[aK (aO q Z)];exact q
 tbls:=λb X q=>⟨#[],by rw[aK (aO q Z),q];simp⟩
theorem Un.write(Z:HD (H x))(U:e=x\/H e=ar (.own x))(k:∀b u,b≠e->h.get? b=ar u->h'.get? b=ar u)(Y:∃u,h'.get? e=ar u):Un fs ex H (upd H x o) h h':=by
 have W:∀b,H b=aC->b≠x:=λb n z=>by subst z;rw[n]at Z;exact Z
 have X:∀b,H b=aC->b≠e:=λb n z=>by
  subst z;rcases U with r|r
  ·exact W b n r
  ·rw[n]at r;cases r
 have hm:∀b u,H b=ar u->¬ HD (ar u)->b≠x:=λb u q nm z=>by subst z;rw[q]at Z;exact nm Z
 refine⟨λb u q n _ _=>k b u (X b n) q,λb u q n _ _=>⟨u.slots,k b u (X b n) q⟩,λb u q n _=>by rw[aK (W b n)];exact n,λb u q _=>?_,
  λb xs q=>by rw[aK (hm b _ q λz=>z)];exact q,λb u xs q=>by rw[aK (hm b _ q λz=>z)];exact q,λb T q=>⟨#[],by rw[aK (hm b _ q λz=>z),q];simp⟩⟩
 by_cases hbe:b=e
 ·subst hbe;exact Y
 ·exact⟨u,k b u hbe q⟩
end
def HE(h:f')(H:Hp):List Addr:=(dV h.objs.size).filter λa=>(H a).isSome
def jT(h:f')(H:Hp):Heap:=W.hideAll h (HE h H)
theorem pI(h:f')(H:Hp):(jT h H).objs.size=h.objs.size:=W.hideAll_size _ _
theorem m9{h:f'}{H:Hp}(e:h.get? b=ar o)(n:H b=aC):(jT h H).get? b=ar o:=
 W.hideAll_get _ e λhm=>by have q:(H b).isSome=true:=(Ks.mp hm).2;rw[n]at q;simp at q
theorem v7{H:Hp}(e:(jT h H).get? b=ar o):h.get? b=ar o/\H b=none:=by
 have Z:h.get? b=ar o:=W.of_hideAll (HE h H) e;refine⟨Z,?_⟩;cases q:H b with
 |none=>rfl
 |some x=>
  have hm:b∈HE h H:=Ks.mpr ⟨J2.mpr (JU Z),by simp[q]⟩;have z:(jT h H).get? b=none:=W.hideAll_none (HE h H) hm;rw[z]at e;cases e
def kh(g h:f')(L:cq):List (cq×Obj):=(dV h.objs.size).filterMap λa=>if a=L\/(g.get? a).isSome=b' then aC else (h.get? a).map λo=>(a,o)
theorem sr{g h:f'}(Y:a≠L)(X:g.get? a=aC)(Z:h.get? a=ar o):(a,o)∈kh g h L:=
 Le.mpr ⟨a,J2.mpr (JU Z),by simp[Y,X,Z]⟩
theorem nc(Z:p∈kh g h L):p.1≠L/\g.get? p.1=aC/\h.get? p.1=ar p.2:=by
 obtain⟨b,_,e⟩:=Le.mp Z;split at e
 ·cases e
 ·rename_i hn
  cases q:h.get? b with
  |none=>rw[q]at e;simp at e
  |some u=>
   rw[q]at e;simp only[Option.map_some,Option.some.injEq]at e;subst e;refine⟨λz=>hn (.inl z),?_,q⟩;show g.get? b=aC;cases r:g.get? b with
   |none=>rfl
   |some v=>exact(hn (.inr (by simp[r]))).elim
def rest(g h:f')(L d:cq):List (cq×Obj):=(kh g h L).filter λp=>decide (p.1≠d)
theorem ng:News g L h (kh g h L):=λp Z=>let ⟨a,b,c⟩:=nc Z;⟨c,a,b⟩
structure Mod(K:dn)(mg:Str->Option b_)(base:f'):Prop where
 kin:K.In base
 glob:base.Ns g_ mg
 blt:∃mb,base.Ns s_ mb/\∀x:Str,x≠"__name__"->mb x=k4 x
 nolimit:base.NoLimit
structure Cx where
 prog:d_
 w:ee
 K:dn
 mg:Str->Option b_
 base:f'
 A:iB
 N:List Str
 s₀:c_
 H₀:Hp
 env:Env
 outer:List Env
 stack:List Env
 ex:List cq
 fn:Str->Bool
 calm:Bool
 pn:List (cq×Obj)
 xe:b_->c_->Prop
def jU(l:List Env):List Addr:=l.filterMap (·.frame)
abbrev Cx.fs(X:Cx):List Addr:=jU X.outer
def Du(sc:Scope)(x:Str):Prop:=sc.names.lookup x=ar .local\/sc.names.lookup x=ar .cell\/sc.names.lookup x=ar .free
def Loc(sc:Scope)(x:Str):Prop:=sc.names.lookup x=ar .local\/sc.names.lookup x=ar .cell
def Look(env:Env)(h:f')(m:Str->Option b_)(x:Str)(u:b_):Prop:=
 (env.kindOf x=ar .local/\m x=ar u)\/((env.kindOf x=ar .cell\/env.kindOf x=ar .free)/\∃c,env.cells.lookup x=ar c/\h.IsCell c (ar u))
structure Cx.Ok(X:Cx):Prop where
 mod:Mod X.K X.mg X.base
 kind:X.env.scope.kind= .function
 glob:X.env.globals=g_
 blt:X.env.builtins=s_
 above:X.s₀.heap.objs.size<=X.env.locals
 inj:∀x y c,X.env.cells.lookup x=ar c->X.env.cells.lookup y=ar c->x=y
 has:∀x,(X.env.kindOf x=ar .cell\/X.env.kindOf x=ar .free)->∃c,X.env.cells.lookup x=ar c
 cab:∀x c,X.fn x=b'->X.env.cells.lookup x=ar c->X.s₀.heap.objs.size<=c
 hd:X.calm=b'->X.A.handled=aC
 frames:X.A.frames=ar X.stack
 stk:X.stack=X.outer\/(X.stack=X.env::X.outer/\X.env.frame=ar X.env.locals)
 exf:∀b∈X.ex,b≠X.env.locals/\∀x c,X.env.cells.lookup x=ar c->c≠b
 bs:∀b o,X.base.get? b=ar o->X.s₀.heap.get? b=ar o/\X.H₀ b=aC
 bsz:X.base.objs.size<=X.s₀.heap.objs.size
 noex:∀b o,X.base.get? b=ar o->b∉X.ex
 exfs:∀b∈X.ex,b∉X.fs
 funs:X.s₀.heap.FunFrames X.base X.outer
 frf:∀b∈X.fs,X.H₀ b=aC
structure Inv(X:Cx)(pins:List (cq×Obj))(σ:List (Option V))(H:Hp)(s:c_):Prop where
 ok:X.Ok
 os:s.os=X.s₀.os
 bare:w_ s.gens
 base:Un X.fs X.ex X.H₀ H X.s₀.heap s.heap
 loc:∃m,s.heap.Ns X.env.locals m/\∀(i:Nat) (x:Str) (v:V),X.N[i]? =ar x->σ[i]? =ar (ar v)->Du X.env.scope x->∃u,RelV v u/\Look X.env s.heap m x u
 cell:∀x c,X.env.cells.lookup x=ar c->∃v,s.heap.IsCell c v
 free:H X.env.locals=aC
 freeC:∀x c,X.env.cells.lookup x=ar c->H c=aC
 pin:∀p∈X.pn++pins,s.heap.get? p.1=ar p.2/\H p.1=aC/\p.1≠X.env.locals/\p.1∉X.fs/\∀v,p.2.data≠ .cell v
 hok:fY X.prog X.w H s.heap
 len:σ.length=X.N.length
section
variable {X:Cx}{pins:List (cq×Obj)}{σ:List (Option V)}{H H':Hp}{s:c_}{h':f'}
theorem Cx.Ok.nofr(Y:X.Ok)(e:X.base.get? b=ar o):b∉X.fs:=λZ=>by have:=(Y.funs.mem Z).1;rw[e]at this;cases this
theorem Inv.bs(I:Inv X pins σ H s):∀b o,X.base.get? b=ar o->s.heap.get? b=ar o/\H b=none:=λb o e=>
 ⟨I.base.keep b o (I.ok.bs b o e).1 (I.ok.bs b o e).2 (I.ok.nofr e) (I.ok.noex b o e),I.base.free b o (I.ok.bs b o e).1 (I.ok.bs b o e).2 (I.ok.noex b o e)⟩
theorem Inv.bk(I:Inv X pins σ H s):∀b o,X.base.get? b=ar o->s.heap.get? b=ar o:=λb o e=>(I.bs b o e).1
theorem Inv.mod(I:Inv X pins σ H s):Mod X.K X.mg X.base:=I.ok.mod
theorem Inv.kIn(I:Inv X pins σ H s):X.K.In s.heap:=I.ok.mod.kin.keeps I.bk
theorem Inv.fr(I:Inv X pins σ H s):∃m,Fr X.base X.env.locals s.heap m:=
 let ⟨m,hn,_⟩:=I.loc
 ⟨m,hn,I.bk,JX I.ok.bsz I.ok.above⟩
theorem Inv.lt(I:Inv X pins σ H s):X.env.locals<s.heap.objs.size:=let ⟨_,hn,_⟩:=I.loc;hn.lt
theorem Inv.sz(I:Inv X pins σ H s):X.s₀.heap.objs.size<=s.heap.objs.size:=JX I.ok.above (LM I.lt)
theorem Inv.nofs(I:Inv X pins σ H s)(h:s.heap.objs.size<=a):a∉X.fs:=λZ=>by obtain⟨_,o,Y,_⟩:=I.ok.funs.mem Z;exact absurd (J1 (JU Y) (JX I.sz h)) (K1 _)
theorem Inv.cne(I:Inv X pins σ H s):∀x c,X.env.cells.lookup x=ar c->c≠X.env.locals:=λx c e z=>by obtain⟨v,o,W,hd⟩:=I.cell x c e;obtain⟨m,⟨U,es,T,Y,Z,_⟩,_⟩:=I.loc;rw[z,Y]at W;cases W;rw[Z]at hd;cases hd
theorem Inv.funs(I:Inv X pins σ H s):s.heap.FunFrames X.base X.outer:=by
 have all:∀(l:List Env),(∀b∈jU l,b∈X.fs)->X.s₀.heap.FunFrames X.base l->s.heap.FunFrames X.base l:=by
  intro l
  induction l with
  |nil=>intro _ _;trivial
  |cons env r ih=>
   intro hs R;obtain⟨T,⟨L,o,hf,S,W,hd⟩,U⟩:=R;have Y:L∈X.fs:=hs L (by unfold jU;rw[LK,hf];exact J9);obtain⟨Q,e⟩:=I.base.slot L o W (I.ok.frf L Y) Y λz=>I.ok.exfs L z Y;exact⟨T,⟨L,_,hf,S,e,hd⟩,ih (λb Z=>hs b (by unfold jU;rw[LK,hf];exact JZ _ Z)) U⟩
 exact all X.outer (λ_ Z=>Z) I.ok.funs
theorem Inv.stack(I:Inv X pins σ H s):s.heap.FunFrames X.base X.stack:=by
 rcases I.ok.stk with e|⟨e,hf⟩
 ·rw[e];exact I.funs
 ·rw[e];obtain⟨m,Z,_⟩:=I.loc;refine .cons (by rw[I.ok.kind];decide) hf Z ?_ I.funs;exact Ku (JX I.ok.bsz I.ok.above)
theorem Inv.stkSub(I:Inv X pins σ H s):∀b∈jU X.stack,b∈X.env.locals::X.fs:=λb Z=>by
 rcases I.ok.stk with e|⟨e,hf⟩
 ·rw[e]at Z;exact JZ _ Z
 ·rw[e]at Z;unfold jU at Z;rw[LK,hf]at Z;exact Z
theorem Inv.stkFree(I:Inv X pins σ H s):∀b∈jU X.stack,H b=none:=λb Z=>by
 rcases J5.mp (I.stkSub b Z)with e|Z
 ·rw[e];exact I.free
 ·obtain⟨_,o,Y,_⟩:=I.ok.funs.mem Z;exact I.base.free b o Y (I.ok.frf b Z) λz=>I.ok.exfs b z Z
theorem Inv.step{g':Array Ng}{t':Nat}{d':Drawn}{ch:List cq}(I:Inv X pins σ H s)
  (W:∀b∈ch,(b∈X.ex\/X.s₀.heap.objs.size<=b)/\b≠X.env.locals/\(∀x c,X.env.cells.lookup x=ar c->c≠b)/\∀p∈X.pn++pins,p.1≠b)
  (keep:∀b o,b≠X.env.locals->b∉X.fs->b∉ch->s.heap.get? b=ar o->H b=aC->h'.get? b=ar o)
  (S:∀b o,b≠X.env.locals->b∈X.fs->b∉ch->s.heap.get? b=ar o->H b=aC->∃C,h'.get? b=ar {o with slots:=C}) (Y:∀b o,b∉ch->s.heap.get? b=ar o->H b=aC->H' b=aC)
  (R:∀b o,b∉ch->s.heap.get? b=ar o->∃K,h'.get? b=ar K)
  (J:∀b xs,H b=ar (.tup xs)->H' b=ar (.tup xs)) (O:∀b o u,H b=ar (.frz o u)->H' b=ar (.frz o u)) (L:∀b G,H b=ar (.tbl G)->∃more,H' b=ar (.tbl (G++more)))
  (ns:∀m,s.heap.Ns X.env.locals m->h'.Ns X.env.locals m) (F:fY X.prog X.w H' h') (t:w_ g'):
  Inv X pins σ H' {s with heap:=h',gens:=g',drawn:=d',toks:=t'}:=by
 have N:∀b o,X.s₀.heap.get? b=ar o->b≠X.env.locals:=λb o e=>J7 (J1 (JU e) I.ok.above);have T:∀b o,X.s₀.heap.get? b=ar o->b∉X.ex->b∉ch:=λb o e Z Q=>by
  rcases (W b Q).1 with z|z
  ·exact Z z
  ·exact absurd (J1 (JU e) z) (K1 _)
 have cellK:∀x c,X.env.cells.lookup x=ar c->∀v,s.heap.IsCell c v->h'.IsCell c v:=λx c e v ⟨o,P,hd⟩=>by
  have U:c∉ch:=λz=>(W c z).2.2.1 x c e rfl;by_cases hc:c∈X.fs
  ·obtain⟨C,q⟩:=S c o (I.cne x c e) hc U P (I.freeC x c e);exact⟨_,q,hd⟩
  ·exact⟨o,keep c o (I.cne x c e) hc U P (I.freeC x c e),hd⟩
 refine⟨I.ok,I.os,t,⟨λb o e n Q Z=>?_,λb o e n Q Z=>?_,λb o e n Z=>?_,λb o e Z=>?_,λb xs e=>J b xs (I.base.tups b xs e),λb o xs e=>O b o xs (I.base.frzs b o xs e),λb G e=>?_⟩,?_,λx c e=>?_,?_,λx c e=>?_,λp A=>?_,F,I.len⟩
 ·exact keep b o (N b o e) Q (T b o e Z) (I.base.keep b o e n Q Z) (I.base.free b o e n Z)
 ·obtain⟨C,e1⟩:=I.base.slot b o e n Q Z;obtain⟨E,e2⟩:=S b _ (N b o e) Q (T b o e Z) e1 (I.base.free b o e n Z);exact⟨E,e2⟩
 ·obtain⟨K,e1⟩:=I.base.there b o e Z;exact Y b K (T b o e Z) e1 (I.base.free b o e n Z)
 ·obtain⟨K,e1⟩:=I.base.there b o e Z;exact R b K (T b o e Z) e1
 ·obtain⟨j,e1⟩:=I.base.tbls b G e;obtain⟨y,e2⟩:=L b _ e1;exact⟨j++y,by rw[e2,Array.append_assoc]⟩
 ·obtain⟨m,h,g⟩:=I.loc;refine⟨m,ns m h,λi x v e1 e2 f=>?_⟩;obtain⟨u,r,l⟩:=g i x v e1 e2 f;refine⟨u,r,?_⟩;rcases l with l|⟨k,c,e,z⟩
  ·exact .inl l
  ·exact .inr ⟨k,c,e,cellK x c e _ z⟩
 ·obtain⟨v,z⟩:=I.cell x c e;exact⟨v,cellK x c e v z⟩
 ·obtain⟨m,⟨o,_,_,P,_⟩,_⟩:=I.loc;exact Y _ o (λz=>(W _ z).2.1 rfl) P I.free
 ·obtain⟨v,o,P,hd⟩:=I.cell x c e;exact Y c o (λz=>(W c z).2.2.1 x c e rfl) P (I.freeC x c e)
 ·obtain⟨e,n,ne,B,d⟩:=I.pin p A;have U:p.1∉ch:=λz=>(W p.1 z).2.2.2 p A rfl;exact⟨keep p.1 p.2 ne B U e n,Y p.1 p.2 U e n,ne,B,d⟩
theorem Inv.un{t':Nat}(I:Inv X pins σ H s)(u:Un X.fs [] H H' s.heap h')(U:fY X.prog X.w H' h'):Inv X pins σ H' {s with heap:=h',toks:=t'}:=by
 obtain⟨m,⟨o,es,P,S,r⟩,_⟩:=id I.loc;obtain⟨L,Q⟩:=u.any S I.free (by simp);exact I.step (g':=s.gens) (d':=s.drawn) (ch:=[]) (λ_ z=>nomatch z) (λb o _ Y _ e n=>u.keep b o e n Y (by simp)) (λb o _ Y _ e n=>u.slot b o e n Y (by simp)) (λb o _ e n=>u.free b o e n (by simp)) (λb o _ e=>u.there b o e (by simp)) u.tups u.frzs u.tbls (λO hm=>by obtain⟨N,W,T,Z,R⟩:=hm;rw[S]at Z;cases Z;exact⟨_,W,T,Q,R⟩) U I.bare
theorem Inv.call{g':Array Ng}{t':Nat}{d':Drawn}{ch:List cq}(I:Inv X pins σ H s)(u:Un (jU X.stack) ch H H' s.heap h')(T:fY X.prog X.w H' h')(N:w_ g')
  (W:∀b∈ch,(b∈X.ex\/X.s₀.heap.objs.size<=b)/\b≠X.env.locals/\(∀x c,X.env.cells.lookup x=ar c->c≠b)/\∀p∈X.pn++pins,p.1≠b):
  Inv X pins σ H' {s with heap:=h',gens:=g',drawn:=d',toks:=t'}:=by
 obtain⟨m,⟨o,es,L,Q,r⟩,_⟩:=id I.loc;obtain⟨G,R⟩:=u.any Q I.free λz=>(W _ z).2.1 rfl;exact I.step (ch:=ch) W (λb o R P Z e n=>u.keep b o e n (λz=>(J5.mp (I.stkSub b z)).elim R P) Z) (λb o _ _ Z e n=>u.any e n Z) (λb o Z e n=>u.free b o e n Z) (λb o Z e=>u.there b o e Z) u.tups u.frzs u.tbls (λK hm=>by obtain⟨J,U,S,Y,O⟩:=hm;rw[Q]at Y;cases Y;exact⟨_,U,S,R,O⟩) T N
theorem Inv.turned{t':Nat}{it:cq}(I:Inv X pins σ H s)(k:∀b o,b≠it->s.heap.get? b=ar o->h'.get? b=ar o)(P:H it=aC)(W:it≠X.env.locals)
  (T:it∈X.ex\/X.s₀.heap.objs.size<=it) (O:∀x c,X.env.cells.lookup x=ar c->c≠it) (Q:∀p∈X.pn++pins,p.1≠it):Inv X pins σ H {s with heap:=h',toks:=t'}:=by
 have Y:∀b u,H b=ar u->b≠it:=λb u e z=>by rw[z,P]at e;cases e
 refine I.step (g':=s.gens) (d':=s.drawn) (ch:=[it]) (λb U=>?_) (λb o _ _ Z e _=>k b o (λz=>Z (by simp[z])) e) (λb o _ _ Z e _=>⟨o.slots,k b o (λz=>Z (by simp[z])) e⟩) (λ_ _ _ _ n=>n)
  (λb o Z e=>⟨o,k b o (λz=>Z (by simp[z])) e⟩) (λ_ _ e=>e) (λ_ _ _ e=>e) (λb N e=>⟨#[],by rw[e];simp⟩) (λm hm=>?_) (λb u e=>?_) I.bare
 ·have e:b=it:=by simpa using U
  subst e;exact⟨T,W,O,Q⟩
 ·obtain⟨o,es,R,S,r⟩:=hm;exact⟨o,es,R,k _ o (k8 W) S,r⟩
 ·refine(I.hok b u e).stay (λc v Z q=>k c v ?_ q) (λ_ q=>q) λ_ _ q=>q;rcases Z with z|z
  ·rw[z];exact Y b u e
  ·exact Y c _ z
theorem Inv.tok(I:Inv X pins σ H s)(t:Nat):Inv X pins σ H {s with toks:=t}:=I.un (h':=s.heap) (t':=t) Un.refl I.hok
theorem Inv.kept(I:Inv X pins σ H s)(k:∀b u,s.heap.get? b=ar u->h'.get? b=ar u):Inv X pins σ H {s with heap:=h',toks:=t'}:=I.un (Un.kept k) (I.hok.kept k)
theorem Inv.laid(I:Inv X pins σ H s)(k:∀b u,s.heap.get? b=ar u->h'.get? b=ar u)(Y:s.heap.objs.size<=a)(Z:bK X.prog X.w (upd H a o) h' a o):
  Inv X pins σ (upd H a o) {s with heap:=h',toks:=t'}:=I.un (Un.laid k Y (I.hok.fresh Y)) (I.hok.laid k Y Z)
theorem Inv.write(I:Inv X pins σ H s)(W:HD (H x))(U:e=x\/H e=ar (.own x))(k:∀b u,b≠e->s.heap.get? b=ar u->h'.get? b=ar u)(Z:∃u,h'.get? e=ar u)
  (Y:bK X.prog X.w (upd H x o) h' x o):Inv X pins σ (upd H x o) {s with heap:=h',toks:=t'}:=I.un (Un.write W U k Z) (I.hok.write W U k Z Y)
theorem Inv.pins_of(I:Inv X pins σ H s)(h:∀p∈pins',s.heap.get? p.1=ar p.2/\H p.1=aC/\p.1≠X.env.locals/\p.1∉X.fs/\∀v,p.2.data≠ .cell v):Inv X pins' σ H s:=
 ⟨I.ok,I.os,I.bare,I.base,I.loc,I.cell,I.free,I.freeC,λp Z=>(Ly.mp Z).elim (λz=>I.pin p (LC _ z)) (h p),I.hok,I.len⟩
theorem su{N:List Str}(Z:N.Nodup){i j:Nat}{x:Str}(a:N[i]? =ar x)(b:N[j]? =ar x):i=j:=by obtain⟨Y,e1⟩:=JV.mp a;obtain⟨W,e2⟩:=JV.mp b;exact(List.getElem_inj Z).mp (e1.trans e2.symm)
theorem pJ{M:OI}{A:iB}{E:b_->c_->Prop}{i:Nat}{x:Str}{v:V}{u:b_}{Q:Unit->c_->Prop}(I:Inv X pins σ H s)(hN:X.N.Nodup)(J:X.N[i]? =ar x)(Y:Loc X.env.scope x)(r:RelV v u)
  (h:∀s',Inv X pins (σ.set i (ar v)) H s'->(∃a,y' a s.heap s'.heap/\(a=X.env.locals\/X.env.cells.lookup x=ar a))->Q () s') (hf:X.fn x=b'\/X.env.scope.names.lookup x=ar .local:=by first|exact .inl rfl|exact .inr rfl|assumption):ed M A (storeName X.env x u) Q E s:=by
 obtain⟨m,hn,hl⟩:=id I.loc;have L:(X.env.scope.kind== .class||(X.env.scope.kind== .module && X.env.locals !=X.env.globals))=false:=by rw[I.ok.kind];rfl
 have U:i<σ.length:=by rw[I.len];exact(JV.mp J).1
 have T:=I.cne;have tracked:∀{a:cq} {h':f'},(∃o,s.heap.get? a=ar o/\H a=aC)->y' a s.heap h'->fY X.prog X.w H h':=λ{a h'} ha hs b ob e=>by
  obtain⟨_,_,W⟩:=ha;refine(I.hok b ob e).stay (λc F Z q=>(hs.2 c ?_).trans q) (λ_ q=>q) λ_ _ q=>q;rintro rfl;rcases Z with rfl|Z
  ·rw[W]at e;cases e
  ·rw[W]at Z;cases Z
 rcases Y with hk|hk
 ·refine wpAny_storeName_local hk hn (λh' l hs=>?_) L;obtain⟨oL,_,_,B,_⟩:=id hn;refine h _ ⟨I.ok,I.os,I.bare,⟨λb o e n S Y=>?_,λb o e n S Y=>?_,I.base.free,λb o e Y=>?_,I.base.tups,I.base.frzs,I.base.tbls⟩,⟨_,l,λj y t e1 e2 C=>?_⟩,λy c e=>?_,I.free,I.freeC,λp hp=>?_,tracked ⟨oL,B,I.free⟩ hs,by simpa using I.len⟩ ⟨_,hs,.inl rfl⟩
  ·exact(hs.2 b (J7 (J1 (JU e) I.ok.above))).trans (I.base.keep b o e n S Y)
  ·obtain⟨sl,e1⟩:=I.base.slot b o e n S Y;exact⟨sl,(hs.2 b (J7 (J1 (JU e) I.ok.above))).trans e1⟩
  ·obtain⟨o',e1⟩:=I.base.there b o e Y;exact⟨o',(hs.2 b (J7 (J1 (JU e) I.ok.above))).trans e1⟩
  ·by_cases hj:j=i
   ·subst hj;rw[J]at e1;cases e1;rw[KN U]at e2;cases e2;exact⟨u,r,.inl ⟨hk,by simp⟩⟩
   ·rw[KJ (k8 hj)]at e2;obtain⟨g,r',q⟩:=hl j y t e1 e2 C;refine⟨g,r',?_⟩;rcases q with⟨k,e⟩|⟨k,c,e,z⟩
    ·refine .inl ⟨k,?_⟩;have:y≠x:=λe=>hj (su hN e1 (e ▸ J));simp[this,e]
    ·exact .inr ⟨k,c,e,z.sameBut hs (T y c e)⟩
  ·obtain⟨F,z⟩:=I.cell y c e;exact⟨F,z.sameBut hs (T y c e)⟩
  ·obtain⟨e,n,ne,f,d⟩:=I.pin p hp;exact⟨(hs.2 p.1 ne).trans e,n,ne,f,d⟩
 ·have R:X.fn x=true:=by
   rcases hf with z|z
   ·exact z
   ·rw[z]at hk;cases hk
  obtain⟨c,Z⟩:=I.ok.has x (.inl hk);obtain⟨F,z⟩:=I.cell x c Z;refine wpAny_storeName_cell I.ok.kind hk Z z (λh' P hs=>?_);obtain⟨oc,K,O⟩:=id z;refine h {s with heap:=h'} ⟨I.ok,I.os,I.bare,⟨λb o e n S Y=>?_,λb o e n S Y=>?_,I.base.free,λb o e Y=>?_,I.base.tups,I.base.frzs,I.base.tbls⟩,⟨m,hn.sameBut hs (k8 (T x c Z)),λj y t e1 e2 C=>?_⟩,λy G e=>?_,I.free,I.freeC,λp hp=>?_,tracked ⟨oc,K,I.freeC x c Z⟩ hs,by simpa using I.len⟩ ⟨c,hs,.inr Z⟩
  ·exact(hs.2 b (J7 (J1 (JU e) (I.ok.cab x c R Z)))).trans (I.base.keep b o e n S Y)
  ·obtain⟨sl,e1⟩:=I.base.slot b o e n S Y;exact⟨sl,(hs.2 b (J7 (J1 (JU e) (I.ok.cab x c R Z)))).trans e1⟩
  ·obtain⟨o',e1⟩:=I.base.there b o e Y;exact⟨o',(hs.2 b (J7 (J1 (JU e) (I.ok.cab x c R Z)))).trans e1⟩
  ·by_cases hj:j=i
   ·subst hj;rw[J]at e1;cases e1;rw[KN U]at e2;cases e2;exact⟨u,r,.inr ⟨.inl hk,c,Z,P⟩⟩
   ·rw[KJ (k8 hj)]at e2;obtain⟨g,r',q⟩:=hl j y t e1 e2 C;refine⟨g,r',?_⟩;rcases q with q|⟨k,G,e,z'⟩
    ·exact .inl q
    ·refine .inr ⟨k,G,e,z'.sameBut hs ?_⟩;rintro rfl;exact hj (su hN e1 (I.ok.inj _ _ _ e Z ▸ J))
  ·by_cases hcc:G=c
   ·subst hcc;exact⟨_,P⟩
   ·obtain⟨w2,z2⟩:=I.cell y G e;exact⟨w2,z2.sameBut hs hcc⟩
  ·obtain⟨e,n,ne,f,d⟩:=I.pin p hp;refine⟨(hs.2 p.1 ?_).trans e,n,ne,f,d⟩;intro q;rw[q,K]at e;have q':oc=p.2:=Ka e;exact d F (by rw[<-q'];exact O)
theorem ki{Q:Unit->c_->Prop}(I:Inv X pins σ H s)(U:X.N.Nodup)(Z:X.N[i]? =ar x)(T:Loc X.env.scope x)(r:RelV v u)
  (h:∀s',Inv X pins (σ.set i (ar v)) H s'->Q () s') (W:X.fn x=b'\/X.env.scope.names.lookup x=ar .local:=by first|exact .inl rfl|exact .inr rfl|assumption):ed M A (storeName X.env x u) Q E s:=
 pJ I U Z T r (λs' Y _=>h s' Y) W
theorem Inv.call'{s':c_}(I:Inv X pins σ H s)(W:s'.os=s.os)(u:Un (jU X.stack) ch H H' s.heap s'.heap)(Z:fY X.prog X.w H' s'.heap)(T:w_ s'.gens)
  (Y:∀b∈ch,(b∈X.ex\/X.s₀.heap.objs.size<=b)/\b≠X.env.locals/\(∀x c,X.env.cells.lookup x=ar c->c≠b)/\∀p∈X.pn++pins,p.1≠b):Inv X pins σ H' s':=by
 obtain⟨h',g',d',t',U⟩:=s';have e:U=s.os:=W;subst e;exact I.call (g':=g') (t':=t') (d':=d') u Z T Y
end
abbrev XK:=b_->Option cq->Hp->Prop
abbrev St:=List (Option V)
abbrev VK:=V->Hp->Prop
abbrev TE:=St->Hp->VK->Prop
abbrev TT:=St->Hp->(Bool->Hp->Prop)->Prop
abbrev TA:=St->Hp->(List V->Hp->Prop)->Prop
structure Ends where
 nx:St->Hp->Prop
 rt:VK
 bk:St->Hp->Prop:=λ_ _=>False
 ct:St->Hp->Prop:=λ_ _=>False
abbrev TS:=Ends->St->Hp->Prop
def EP(X:Cx)(pins:List (cq×Obj))(σ:St)(Q:VK)(u:b_)(s':c_):Prop:=∃v H',Inv X pins σ H' s'/\RelV v u/\Q v H'
def TP(X:Cx)(pins:List (cq×Obj))(σ:St)(Q:Bool->Hp->Prop)(b:Bool)(s':c_):Prop:=∃H',Inv X pins σ H' s'/\Q b H'
def AP(X:Cx)(pins:List (cq×Obj))(σ:St)(Q:List V->Hp->Prop)(us:List b_)(s':c_):Prop:=∃vs H',Inv X pins σ H' s'/\bh vs us/\Q vs H'
def SP(X:Cx)(pins:List (cq×Obj))(D:Ends)(f:Flow)(s':c_):Prop:=
 match f with
 | .next=>∃ σ' H',Inv X pins σ' H' s'/\D.nx σ' H'
 | .brk=>∃ σ' H',Inv X pins σ' H' s'/\D.bk σ' H'
 | .cont=>∃ σ' H',Inv X pins σ' H' s'/\D.ct σ' H'
 | .ret u=>∃v σ' H',Inv X pins σ' H' s'/\RelV v u/\D.rt v H'
def PE(X:Cx)(e:Expr)(t:TE):Prop:=
 ∀(pins:List (cq×Obj)) (s:c_) (σ:St) (H:Hp) (Q:VK),Inv X pins σ H s->t σ H Q->ed (e_ X.prog X.w) X.A (i4 e X.env) (EP X pins σ Q) X.xe s
def PT(X:Cx)(e:Expr)(t:TT):Prop:=
 ∀(pins:List (cq×Obj)) (s:c_) (σ:St) (H:Hp) (Q:Bool->Hp->Prop),Inv X pins σ H s->t σ H Q->ed (e_ X.prog X.w) X.A (isTrue e X.env (i4 e X.env)) (TP X pins σ Q) X.xe s
def PW(X:Cx)(e:Expr)(t:TT):Prop:=
 ∀(whole:Sem b_) (pins:List (cq×Obj)) (s:c_) (σ:St) (H:Hp) (Q:Bool->Hp->Prop),Inv X pins σ H s->t σ H Q->ed (e_ X.prog X.w) X.A (isTrue e X.env whole) (TP X pins σ Q) X.xe s
theorem PW.pt(h:PW X e t):PT X e t:=h _
def PA(X:Cx)(es:List Expr)(t:TA):Prop:=
 ∀(pos:Pos) (pins:List (cq×Obj)) (s:c_) (σ:St) (H:Hp) (Q:List V->Hp->Prop),Inv X pins σ H s->t σ H Q->ed (e_ X.prog X.w) X.A (spliced (lx pos (dt es X.env))) (AP X pins σ Q) X.xe s
def PS(X:Cx)(st:nf)(t:TS):Prop:=
 ∀(pins:List (cq×Obj)) (s:c_) (σ:St) (H:Hp) (D:Ends),Inv X pins σ H s->t D σ H->ed (e_ X.prog X.w) X.A (exec st X.env) (SP X pins D) X.xe s
def oV(X:Cx)(st:List nf)(t:TS):Prop:=
 ∀(pins:List (cq×Obj)) (s:c_) (σ:St) (H:Hp) (D:Ends),Inv X pins σ H s->t D σ H->ed (e_ X.prog X.w) X.A (execs st X.env) (SP X pins D) X.xe s
theorem dq{α:Type}{t:Sem α}{Q Z:α->c_->Prop}{M:OI}{A:iB}{E:b_->c_->Prop}{s:c_}(h:ed M A t Q E s)(Y:∀a s,Q a s->Z a s):ed M A t Z E s:=Kb h Y λ_ _ x=>x
section
variable {X:Cx}
def Gk(i:Nat):TE:=λσ H Q=>∃v,σ[i]? =ar (ar v)/\Q v H
def tC(v:V):TE:=λ_ H Q=>Q v H
theorem yZ(W:X.N[i]? =ar x)(S:Du X.env.scope x)(Z:(x==("__debug__":Str))=false:=by decide)(Y:(x==("__classdict__":Str))=false:=by decide):PE X (.Name x pos) (Gk i):=by
 intro pins s σ H Q I h;obtain⟨v,e,h⟩:=h;obtain⟨m,U,T⟩:=I.loc;obtain⟨u,r,l⟩:=T i x v W e S;have fin:EP X pins σ Q u s:=⟨v,H,I,r,h⟩;rcases l with⟨hk,hm⟩|⟨hk,c,hc,hcell⟩
 ·exact N8 (wpAny_loadName_local I.ok.kind hk U hm fin) Z
 ·rcases hk with hk|hk
  ·exact N8 (wpAny_loadName_cell I.ok.kind hk hc hcell fin) Z
  ·exact N8 (wpAny_loadName_free I.ok.kind hk hc hcell fin Y) Z
theorem y0{i j pos}:PE X (.Constant (.int i) j pos) (tC (.int i)):=λ_ _ _ H _ I h=>wpAny_Constant_int ⟨.int i,H,I.tok _,⟨_,rfl⟩,h⟩
theorem Gm{b j pos}:PE X (.Constant (.bool b) j pos) (tC (.bl b)):=λ_ _ _ H _ I h=>Constant_bool ⟨.bl b,H,I,rfl,h⟩
theorem y8{j pos}:PE X (.Constant .none j pos) (tC .non):=λ_ _ _ H _ I h=>Constant_none ⟨.non,H,I,rfl,h⟩
theorem D7{x j pos}:PE X (.Constant (.str x) j pos) (tC (.str x)):=λ_ _ _ H _ I h=>Calls.Constant_str ⟨.str x,H,I.tok _,⟨_,rfl⟩,h⟩
def Gl(X:Cx)(x:Str):Prop:=X.env.kindOf x=ar .globalImplicit
theorem jx{Q:b_->c_->Prop}(I:Inv X pins σ H s)(Y:Gl X x)(W:X.mg x=ar u)(h:Q u s)
  (Z:(x==("__debug__":Str))=false:=by decide):ed (e_ X.prog X.w) X.A (i4 (.Name x pos) X.env) Q E s:=
 Mv I.ok.kind Y (Calls.loadGlobal_global (by rw[I.ok.glob];exact I.mod.glob.keeps I.bk) W h) Z
theorem lz{Q:b_->c_->Prop}(I:Inv X pins σ H s)(U:Gl X x)(T:X.mg x=aC)(S:k4 x=ar u)(h:Q u s)
  (Y:x≠"__name__":=by decide) (R:(x==("__debug__":Str))=false:=by decide):ed (e_ X.prog X.w) X.A (i4 (.Name x pos) X.env) Q E s:=by
 obtain⟨P,Z,W⟩:=I.mod.blt;exact Mv I.ok.kind U (Calls.loadGlobal_builtin (by rw[I.ok.glob];exact I.mod.glob.keeps I.bk) T (by rw[I.ok.blt];exact Z.keeps I.bk) ((W x Y).trans S) h) R
theorem v8(Z:Gl X x)(Y:X.mg x=ar u)(r:RelV v u)(W:(x==("__debug__":Str))=false:=by decide):PE X (.Name x pos) (tC v):=
 λ_ _ _ H _ I h=>jx I Z Y ⟨v,H,I,r,h⟩ W
theorem B3(Y:Gl X x)(W:X.mg x=aC)(U:k4 x=ar u)(r:RelV v u)(Z:x≠"__name__":=by decide)(T:(x==("__debug__":Str))=false:=by decide):PE X (.Name x pos) (tC v):=
 λ_ _ _ H _ I h=>lz I Y W U ⟨v,H,I,r,h⟩ Z T
variable {a b:Expr}{ta tb:TE}{pos:Pos}
theorem nh(b:Expr)(h:op≠ .In)(Z:op≠ .NotIn):kT op b=false:=by
 have e1:(op==CmpOp.In)=false:=by cases op<;>first|rfl|exact absurd rfl h
 have e2:(op==CmpOp.NotIn)=false:=by cases op<;>first|rfl|exact absurd rfl Z
 cases b<;>simp[kT,e1,e2]
def tB(t:TE):TT:=λσ H Q=>t σ H λx H1=>∃c,x= .bl c/\Q c H1
theorem D8(h:PE X e t)(Z:∀whole,isTrue e X.env whole=(do let v<-whole;xy e.pos;v_ [v] (Oo v)):=by intro _;rfl):PT X e (tB t):=by intro pins s σ H Q I hw;refine isTrue_plain (dq (h pins s σ H _ I hw) λv s1 ⟨x,H1,I1,r1,q1⟩=>?_) (Z _);obtain⟨d,rfl,q⟩:=q1;cases r1;exact KF ⟨H1,I1,q⟩
variable {tA tB':TT}{rest:List Expr}
def Ij(t u:TT):TT:=λσ H Q=>t σ H λc H1=>if c=b' then u σ H1 Q else Q dr H1
def Jx(t u:TT):TT:=λσ H Q=>t σ H λc H1=>if c=b' then Q b' H1 else u σ H1 Q
def Ik(t:TT):TT:=λσ H Q=>t σ H λc H1=>Q (!c) H1
theorem B4(Z:PT X a tA):PW X (.BoolOp .And [a] pos) tA:=by
 intro Y pins s σ H Q I h;refine isTrue_and (dq (Z pins s σ H Q I h) λc s1 e=>?_);cases c with
 |true=>exact isTrue_and_nil e
 |false=>exact e
theorem D9(Z:PT X a tA):PW X (.BoolOp .Or [a] pos) tA:=by
 intro Y pins s σ H Q I h;refine isTrue_or (dq (Z pins s σ H Q I h) λc s1 e=>?_);cases c with
 |false=>exact isTrue_or_nil e
 |true=>exact e
theorem Ea(W:PT X a tA)(Z:PW X (.BoolOp .And (b::rest) pos) tB'):PW X (.BoolOp .And (a::b::rest) pos) (Ij tA tB'):=by
 intro Y pins s σ H Q I h;refine isTrue_and (dq (W pins s σ H _ I h) λc s1 ⟨H1,I1,q1⟩=>?_);cases c with
 |true=>exact Z Y pins s1 σ H1 Q I1 q1
 |false=>exact⟨H1,I1,q1⟩
theorem Gn(W:PT X a tA)(Z:PW X (.BoolOp .Or (b::rest) pos) tB'):PW X (.BoolOp .Or (a::b::rest) pos) (Jx tA tB'):=by
 intro Y pins s σ H Q I h;refine isTrue_or (dq (W pins s σ H _ I h) λc s1 ⟨H1,I1,q1⟩=>?_);cases c with
 |true=>exact⟨H1,I1,q1⟩
 |false=>exact Z Y pins s1 σ H1 Q I1 q1
theorem Eb(Y:PT X a tA):PT X (.UnaryOp .Not a pos) (Ik tA):=by intro pins s σ H Q I h;exact isTrue_not (Y pins s σ H (λc Z=>Q (!c) Z) I h)
def Gp(ta tb:TE):TE:=λσ H Q=>ta σ H λx H1=>∃c,x= .bl c/\if c=b' then tb σ H1 Q else Q (.bl dr) H1
def Gq(ta:TE):TE:=λσ H Q=>ta σ H λx H1=>∃c,x= .bl c/\Q (.bl (!c)) H1
theorem Ec{op}(h:PE X a t):PE X (.BoolOp op [a] pos) t:=λpins s σ H Q I hw=>BoolOp_one (h pins s σ H Q I hw)
theorem Ed(W:PE X a ta)(Y:PE X (.BoolOp .And (b::rest) pos) tb):PE X (.BoolOp .And (a::b::rest) pos) (Gp ta tb):=by
 intro pins s σ H Q I h;refine BoolOp_and (dq (W pins s σ H _ I h) λv s1 ⟨x,H1,I1,r1,Z⟩=>?_);obtain⟨c,rfl,Z⟩:=Z;cases r1;refine KF ?_;cases c with
 |true=>exact Y pins s1 σ H1 Q I1 Z
 |false=>exact⟨.bl dr,H1,I1,rfl,Z⟩
theorem Ee(Y:PE X a ta):PE X (.UnaryOp .Not a pos) (Gq ta):=by intro pins s σ H Q I h;refine UnaryOp_ (dq (Y pins s σ H _ I h) λv s1 ⟨x,H1,I1,r1,Z⟩=>?_);obtain⟨c,rfl,Z⟩:=Z;cases r1;exact not_of (KF ⟨.bl (!c),H1,I1,rfl,Z⟩)
def Jy(t:TT)(ta tb:TE):TE:=λσ H Q=>t σ H λc H1=>if c=b' then ta σ H1 Q else tb σ H1 Q
theorem y9(Y:PT X c tA)(W:PE X a ta)(Z:PE X b tb):PE X (.IfExp c a b pos) (Jy tA ta tb):=by
 intro pins s σ H Q I h;refine wpAny_IfExp (dq (Y pins s σ H _ I h) λd s1 ⟨H1,I1,q1⟩=>?_);cases d with
 |true=>exact W pins s1 σ H1 Q I1 q1
 |false=>exact Z pins s1 σ H1 Q I1 q1
end
def iR(K:dn)(H:Hp)(a:cq)(xs:List V):Prop:=
 Rd H a (.lst xs)\/
  ∃(o:Obj) (its:Array b_) (n:Nat),K.lookup a=ar o/\o.cls= .type "list"/\o.dict=aC/\o.data= .seq its n/\its.size<=sizeLine/\bh xs its.toList
def lr(K:dn)(H:Hp)(a:cq)(xs:List V):Prop:=
 Rd H a (.tup xs)\/
  ∃(o:Obj) (its:Array b_) (n:Nat),K.lookup a=ar o/\o.cls= .type "tuple"/\o.data= .seq its n/\its.size<=sizeLine/\bh xs its.toList
def Il:b_->Option V
 | .none=>ar .non
 | .bool b=>ar (.bl b)
 | .int i _=>ar (.int i)
 | .str x _=>ar (.str x)
 | .bytes b _=>ar (.byt b)
 | .float b _=>ar (.flt b)
 | .ref a=>ar (.ref a)
 | .type n=>ar (.ty n)
 |_=>aC
theorem RelV.abs(r:RelV x u):Il u=ar x:=by
 cases x with
 |non=>cases r;rfl
 |bl _=>cases r;rfl
 |int _=>obtain⟨t,rfl⟩:=r;rfl
 |str _=>obtain⟨t,rfl⟩:=r;rfl
 |byt _=>obtain⟨t,rfl⟩:=r;rfl
 |flt _=>obtain⟨t,rfl⟩:=r;rfl
 |ref _=>cases r;rfl
 |ty _=>cases r;rfl
theorem RelV.inj(r:RelV x u)(q:RelV y u):x=y:=Ka (r.abs.symm.trans q.abs)
theorem bh.inj:∀{xs ys:List V} {us:List b_},bh xs us->bh ys us->xs=ys
 |_,_,_,.nil,.nil=>rfl
 |_,_,_,.cons r t,.cons r' t'=>by rw[r.inj r',bh.inj t t']
section
variable {X:Cx}{pins:List (cq×Obj)}{σ:St}{H:Hp}{s:c_}{a:cq}{xs ys:List V}
theorem iR.of{K:dn}(h:H a=ar (.lst xs)):iR K H a xs:=.inl (.inl h)
theorem lr.of{K:dn}(h:H a=ar (.tup xs)):lr K H a xs:=.inl (.inl h)
theorem Inv.list(I:Inv X pins σ H s)(h:iR X.K H a xs):∃its:List b_,bh xs its/\PlainL s.heap a its.toArray/\xs.length<=sizeLine:=by
 rcases h with h|⟨o,its,n,hk,hc,hd,hs,hz,r⟩
 ·obtain⟨z,its,n,r,e⟩:=h.ok I.hok;exact⟨its,r,⟨_,n,e,rfl,rfl,rfl⟩,z⟩
 ·refine⟨its.toList,r,⟨o,n,I.kIn a o hk,hc,hd,by simpa using hs⟩,?_⟩;have e:=r.length;simp only[y4]at e;omega
theorem Inv.tuple(I:Inv X pins σ H s)(h:lr X.K H a xs):∃its:List b_,bh xs its/\Oj s.heap a its.toArray/\xs.length<=sizeLine:=by
 rcases h with h|⟨o,its,n,hk,hc,hs,hz,r⟩
 ·obtain⟨z,its,r,p⟩:=h.ok I.hok;exact⟨its,r,p,z.1⟩
 ·refine⟨its.toList,r,⟨o,I.kIn a o hk,hc,n,by simpa using hs⟩,?_⟩;have e:=r.length;simp only[y4]at e;omega
theorem Inv.list_inj(I:Inv X pins σ H s)(h:iR X.K H a xs)(h':iR X.K H a ys):xs=ys:=by
 obtain⟨its,r,⟨o,n,e,_,_,d⟩,_⟩:=I.list h;obtain⟨its',Y,⟨W,U,Z,_,_,d'⟩,_⟩:=I.list h';rw[e]at Z;cases Z;rw[d]at d';injection d' with d1 _;have:its=its':=by simpa using MS Array.toList d1
 subst this;exact r.inj Y
theorem Inv.tuple_inj(I:Inv X pins σ H s)(h:lr X.K H a xs)(h':lr X.K H a ys):xs=ys:=by
 obtain⟨its,r,⟨o,e,_,n,d⟩,_⟩:=I.tuple h;obtain⟨its',Y,⟨W,Z,_,U,d'⟩,_⟩:=I.tuple h';rw[e]at Z;cases Z;rw[d]at d';injection d' with d1 _;have:its=its':=by simpa using MS Array.toList d1
 subst this;exact r.inj Y
end
abbrev Cx.wish(X:Cx)(E:b_->c_->Prop):Cx:={X with xe:=E}
abbrev Cx.nox(X:Cx):Cx:=X.wish λ_ _=>False
theorem Cx.Ok.wish{X:Cx}(Z:X.Ok)(E:b_->c_->Prop):(X.wish E).Ok:=
 ⟨Z.mod,Z.kind,Z.glob,Z.blt,Z.above,Z.inj,Z.has,Z.cab,Z.hd,Z.frames,Z.stk,Z.exf,Z.bs,Z.bsz,Z.noex,Z.exfs,Z.funs,Z.frf⟩
theorem Cx.Ok.unwish{X:Cx}(Z:(X.wish E).Ok):X.Ok:=
 ⟨Z.mod,Z.kind,Z.glob,Z.blt,Z.above,Z.inj,Z.has,Z.cab,Z.hd,Z.frames,Z.stk,Z.exf,Z.bs,Z.bsz,Z.noex,Z.exfs,Z.funs,Z.frf⟩
section
variable {X:Cx}{pins:List (cq×Obj)}{σ:St}{H:Hp}{s:c_}{E:b_->c_->Prop}
theorem Inv.wish(I:Inv X pins σ H s)(E:b_->c_->Prop):Inv (X.wish E) pins σ H s:=⟨I.ok.wish E,I.os,I.bare,I.base,I.loc,I.cell,I.free,I.freeC,I.pin,I.hok,I.len⟩
theorem Inv.unwish(I:Inv (X.wish E) pins σ H s):Inv X pins σ H s:=⟨I.ok.unwish,I.os,I.bare,I.base,I.loc,I.cell,I.free,I.freeC,I.pin,I.hok,I.len⟩
theorem SP.unwish(h:SP (X.wish E) pins D f s'):SP X pins D f s':=by
 cases f with
 |next=>obtain⟨Z,Y,I,q⟩:=h;exact⟨Z,Y,I.unwish,q⟩
 |brk=>obtain⟨Z,Y,I,q⟩:=h;exact⟨Z,Y,I.unwish,q⟩
 |cont=>obtain⟨Z,Y,I,q⟩:=h;exact⟨Z,Y,I.unwish,q⟩
 |ret u=>obtain⟨v,Z,Y,I,r,q⟩:=h;exact⟨v,Z,Y,I.unwish,r,q⟩
theorem oV.nox{Z:List nf}{t:TS}(h:oV X.nox Z t):oV X Z t:=λpins s σ H D I hw=>
 Kb (h pins s σ H D (I.wish _) hw) (λ_ _ q=>q.unwish) λ_ _ z=>iA z
end
section
variable {X:Cx}{st:nf}{rest:List nf}{t u:TS}{e:Expr}{te:TE}{pos:Pos}
def Gr:TS:=λD σ H=>D.nx σ H
def Im(t u:TS):TS:=λD σ H=>t {D with nx:=u D} σ H
theorem B5:oV X [] Gr:=λ_ _ σ H _ I h=>Ml ⟨σ,H,I,h⟩
theorem sv(Y:PS X st t)(W:oV X rest u):oV X (st::rest) (Im t u):=by
 intro pins s σ H D I h;refine MW (dq (Y pins s σ H {D with nx:=u D} I h) λf s1 q=>?_);cases f with
 |next=>
  obtain⟨Z,U,T,q⟩:=q;exact W pins s1 Z U D T q
 |ret v=>exact q
 |brk=>exact q
 |cont=>exact q
theorem qD(Z:PS X st t):oV X [st] t:=by
 intro pins s σ H D I h;refine MW (dq (Z pins s σ H D I h) λf s1 q=>?_);cases f with
 |next=>exact Ml q
 |ret v=>exact q
 |brk=>exact q
 |cont=>exact q
theorem Inv.quiet(I:Inv X pins σ H s):interactive X.env=false:=by simp[interactive,I.ok.kind]
def Gs(te:TE):TS:=λD σ H=>te σ H λ_ H1=>D.nx σ H1
theorem B6(Z:PE X e te)(hs:nC e aC pos.line X.env=a_ false:=by rfl):PS X (.Expr e pos) (Gs te):=by intro pins s σ H D I h;exact wpAny_Expr_any (dq (Z pins s σ H _ I h) λv s1 ⟨x,H1,I1,r1,q1⟩=>⟨σ,H1,I1,q1⟩) I.quiet hs
def Io(te:TE):TS:=λD σ H=>te σ H D.rt
theorem za(Z:PE X e te):PS X (.Return (ar e) pos) (Io te):=by intro pins s σ H D I h;exact wpAny_Return_some (dq (Z pins s σ H _ I h) λv s1 ⟨x,H1,I1,r1,q1⟩=>⟨x,σ,H1,I1,r1,q1⟩)
def Ip(c:TT)(t u:TS):TS:=λD σ H=>c σ H λb H1=>if b=b' then t D σ H1 else u D σ H1
theorem Gu(Y:PT X c tc)(W:oV X a t)(Z:oV X b u):PS X (.If c a b pos) (Ip tc t u):=by
 intro pins s σ H D I h;refine wpAny_If (dq (Y pins s σ H _ I h) λd s1 ⟨H1,I1,q1⟩=>?_);cases d with
 |true=>exact W pins s1 σ H1 D I1 q1
 |false=>exact Z pins s1 σ H1 D I1 q1
end
abbrev TG:=V->St->Hp->(St->Hp->Prop)->Prop
abbrev Ef:=List V->St->Hp->(St->Hp->Prop)->Prop
def PG(X:Cx)(target:Expr)(t:TG):Prop:=
 ∀(pins:List (cq×Obj)) (s:c_) (σ:St) (H:Hp) (v:V) (u:b_) (Q:St->Hp->Prop),Inv X pins σ H s->RelV v u->t v σ H Q->
  ed (e_ X.prog X.w) X.A (K_ target X.env u) (λ_ s'=>∃ σ' H',Inv X pins σ' H' s'/\Q σ' H') X.xe s
def BO(X:Cx)(ts:List Expr)(t:Ef):Prop:=
 ∀(pins:List (cq×Obj)) (s:c_) (σ:St) (H:Hp) (vs:List V) (us:List b_) (Q:St->Hp->Prop),Inv X pins σ H s->bh vs us->t vs σ H Q->
  ed (e_ X.prog X.w) X.A (Ny ((mh ts X.env).map (·.2)) us) (λ_ s'=>∃ σ' H',Inv X pins σ' H' s'/\Q σ' H') X.xe s
abbrev Eg:=V->V->V->Hp->(Hp->Prop)->Prop
def Gv(X:Cx)(t:Eg):Prop:=
 ∀(pins:List (cq×Obj)) (s:c_) (σ:St) (H:Hp) (o i v:V) (ov iv u:b_) (Q:Hp->Prop),Inv X pins σ H s->RelV o ov->RelV i iv->RelV v u->t o i v H Q->
  ed (e_ X.prog X.w) X.A (OD ov iv u) (λ_ s'=>∃H',Inv X pins σ H' s'/\Q H') X.xe s
section
variable {X:Cx}{pos:Pos}
def zb(i:Nat):TG:=λv σ H Q=>Q (σ.set i (ar v)) H
theorem B7(U:X.N.Nodup)(Z:X.N[i]? =ar x)(T:Loc X.env.scope x)(W:X.fn x=b'\/X.env.scope.names.lookup x=ar .local:=by first|exact .inl rfl|exact .inr rfl|assumption):PG X (.Name x pos) (zb i):=by intro pins s σ H v u Q I r h;exact wpAny_assign_Name (ki I U Z T r (λs' Y=>⟨_,H,Y,h⟩) W)
def Iq:Ef:=λvs σ H Q=>vs=[]/\Q σ H
def Gw(t:TG)(u:Ef):Ef:=λvs σ H Q=>∃v r,vs=v::r/\t v σ H λσ' H'=>u r σ' H' Q
theorem B8:BO X [] Iq:=by intro pins s σ H vs us Q I r h;obtain⟨e,h⟩:=h;subst e;cases r;exact assignInOrder_nil ⟨σ,H,I,h⟩
theorem zd(Z:PG X e t)(Y:BO X es u)
  (hs:(mh (e::es) X.env).map (·.2)=K_ e X.env::(mh es X.env).map (·.2):=by rfl):BO X (e::es) (Gw t u):=by
 intro pins s σ H vs us Q I r h;obtain⟨v,W,e1,h⟩:=h;subst e1;cases r with
 |cons r rr=>
  rw[hs];refine Mx (dq (Z pins s σ H _ _ _ I r h) λ_ s1 ⟨σ1,H1,I1,q1⟩=>?_);exact Y pins s1 σ1 H1 _ _ Q I1 rr q1
def Ir(K:dn)(n:Nat)(t:Ef):TG:=λv σ H Q=>∃a xs,v= .ref a/\lr K H a xs/\xs.length=n/\t xs σ H Q
theorem Eh(S:X.calm=b')(h:BO X es t)
  (U:(mh es X.env).length=n:=by rfl) (Z:(mh es X.env).findIdx? (·.1)=none:=by rfl):PG X (.Tuple es k pos) (Ir X.K n t):=by
 intro pins s σ H v u Q I r hw;obtain⟨a,xs,e1,R,T,hw⟩:=hw;subst e1;cases r;obtain⟨its,Y,O,N⟩:=I.tuple R;refine assign_Tuple_tuple (I.ok.hd S) O (by simp[U, <-T,Y.length]) Z λh' P=>?_;have W:Inv X pins σ H {s with heap:=h'}:=I.kept (t':=s.toks) λb o e=>P b o (J7 (JU e)) e;exact h pins _ σ H xs _ Q W (by simpa using Y) hw
def Iu(to ti:TE)(t:Eg):TG:=λv σ H Q=>to σ H λo H1=>ti σ H1 λi H2=>t o i v H2 λH3=>Q σ H3
theorem Ei(Z:PE X o to)(W:PE X i ti)(hs:Gv X t)
  (Y:∀v,K_ (.Subscript o i pos) X.env v=(do
   let ov<-v_ [v] (i4 o X.env);let iv<-v_ [v,ov] (i4 i X.env)
   xy pos
   v_ [v,ov,iv] (OD ov iv v)
   release [v,ov,iv] []):=by intro _;rfl):PG X (.Subscript o i pos) (Iu to ti t):=by
 intro pins s σ H v u Q I r h;rw[Y];refine JM (KY (dq (Z pins s σ H _ I h) λov s1 ⟨x,H1,I1,r1,q1⟩=>?_));refine JM (KY (dq (W pins s1 σ H1 _ I1 q1) λiv s2 ⟨y,H2,I2,r2,q2⟩=>?_));refine JM (Kw (JM (KY (dq (hs pins s2 σ H2 x y v ov iv u _ I2 r1 r2 r q2) λ_ s3 ⟨H3,I3,q3⟩=>?_))));exact wpAny_release ⟨σ,H3,I3,q3⟩
def Ej(te:TE)(g:TG):TS:=λD σ H=>te σ H λx H1=>g x σ H1 D.nx
theorem El(W:PE X e te)(U:PG X tg g)(hs:Fn [tg] e pos.line X.env=a_ false:=by rfl)(Z:F0 [tg] e X.env=a_ none:=by rfl)
  (Y:(mh [tg] X.env).map (·.2)=[K_ tg X.env]:=by rfl):PS X (.Assign [tg] e pos) (Ej te g):=by
 intro pins s σ H D I h;refine wpAny_Assign_stores (dq (W pins s σ H _ I h) λv s1 ⟨x,H1,I1,r1,q1⟩=>?_) hs Z;rw[Y];exact dq (U pins s1 σ H1 x v _ I1 r1 q1) λ_ s2 q=>q
theorem Em(U:X.N.Nodup)(Y:X.N[i]? =ar x)(S:Loc X.env.scope x)(Z:PE X e te)(hs:nC e (ar (.Name x pos')) pos.line X.env=a_ false:=by rfl)(W:X.fn x=b'\/X.env.scope.names.lookup x=ar .local:=by first|exact .inl rfl|exact .inr rfl|assumption):
  PS X (.Assign [.Name x pos'] e pos) (Ej te (zb i)):=by
 intro pins s σ H D I h;refine wpAny_Assign_Name (dq (Z pins s σ H _ I h) λv s1 ⟨y,H1,I1,r1,q1⟩=>?_) hs;exact ki I1 U Y S r1 (λs2 T=>⟨_,H1,T,q1⟩) W
def Iv(i j:Nat)(ta:TA):TS:=λD σ H=>ta σ H λvs H1=>∃v w,vs=[v,w]/\D.nx ((σ.set i (ar v)).set j (ar w)) H1
theorem En{kt k2 pt2}(B:X.calm=b')(R:X.N.Nodup)(z:X.N[i]? =ar x)(E:X.N[j]? =ar y)(S:i≠j)
  (Q:X.env.scope.names.lookup x=ar .local) (P:X.env.scope.names.lookup y=ar .local) (G:PA X [a,b] ta)
  (J:F0 [.Tuple [.Name x px,.Name y py] kt pt] (.Tuple [a,b] k2 pt2) X.env=a_ (ar [x,y]))
  (hs:Fn [.Tuple [.Name x px,.Name y py] kt pt] (.Tuple [a,b] k2 pt2) pos.line X.env=a_ false:=by rfl):
  PS X (.Assign [.Tuple [.Name x px,.Name y py] kt pt] (.Tuple [a,b] k2 pt2) pos) (Iv i j ta):=by
 intro pins s σ H D I h;rw[exec_Assign_arm];refine JM (Kw ?_);rw[hs];refine JM (JR ?_);rw[if_neg (by decide)];refine JM (Tuple_ (dq (G _ pins s σ H _ I h) λus s1 ⟨vs,H1,I1,r1,W⟩=>?_));obtain⟨v,w,e1,W⟩:=W;subst e1;obtain⟨Y,Z,rfl,L,U⟩:∃Y Z,us=[Y,Z]/\RelV v Y/\RelV w Z:=by
  cases r1 with
  | cons p q=>
   cases q with
   |cons p' q'=>
    cases q';exact⟨_,_,rfl,p,p'⟩
 refine KG ?_ (by show 2<=sizeLine;decide);have K:Inv X pins σ H1 {s1 with heap:=s1.heap.push {cls:=.type "tuple",data:=.seq [Y,Z].toArray}}:=I1.kept (t':=s1.toks) λb o e=>JO _ e;rw[J];refine JM (JR ?_);show ed (e_ X.prog X.w) X.A (do rule "assign.swapped-stores";let items<-unpackItems (.ref s1.heap.objs.size) 2 aC;Ny [λv=>N9 X.env y v,λv=>N9 X.env x v] items.reverse;a_ Flow.next) _ _ _;refine JM (L6 (JM (unpackItems_tuple (items:= #[Y,Z]) (I.ok.hd B) (NR s1.heap _) λh' T=>?_)));have F:=K.kept (h':=h') (t':=s1.toks) λb o e=>T b o (J7 (JU e)) e;show ed _ _ (Ny [λv=>N9 X.env y v,λv=>N9 X.env x v] [Z,Y]>>=λ_=>a_ Flow.next) _ _ _;refine JM (Mx (wpAny_bindName (ki F R E (.inl P) U (λs2 C=>?_) (.inr P))));refine Mx (wpAny_bindName (ki C R z (.inl Q) L (λs3 O=>assignInOrder_nil (JR ?_)) (.inr Q)));rw[List.set_comm _ _ (k8 S)]at O;exact⟨_,H1,O,W⟩
def Eo(c:TT)(tb:TS):TS:=λD σ H=>∃W:Nat->St->Hp->Prop,(∃m,W m σ H)/\∀m σ H,W m σ H->
 c σ H λb H1=>if b=b' then ∃N:St->Hp->Prop,(∀ σ' H',N σ' H'->∃m',m'<m/\W m' σ' H')/\tb {D with nx:=N,ct:=N,bk:=D.nx} σ H1 else D.nx σ H1
theorem zh{c:Expr}{body:List nf}{O:TT}{tb:TS}(K:Nt (e_ X.prog X.w) X.A X.env X.xe)(G:PT X c O)(J:oV X body tb):PS X (.While c body [] pos) (Eo O tb):=by
 intro pins s σ H D I h;obtain⟨W,⟨m0,w0⟩,turn⟩:=h;refine wpAny_While (codeAny_whileLoop (λn s'=>∃ σ' H',Inv X pins σ' H' s'/\W n σ' H') ?_ m0 ⟨σ,H,I,w0⟩);rintro n s1 ⟨σ1,H1,I1,w1⟩;refine Lk K (dq (G pins s1 σ1 H1 _ I1 (turn n σ1 H1 w1)) λb s2 ⟨H2,I2,U⟩=>?_);cases b with
 | true=>
  obtain⟨N,L,U⟩:=U;rw[if_pos rfl];refine Lk K (dq (J pins s2 σ1 H2 _ I2 U) λf s3 T=>?_);cases f with
  |next=>
   obtain⟨Z,Y,S,P⟩:=T;obtain⟨Q,hm,R⟩:=L Z Y P;exact⟨Q,hm,Z,Y,S,R⟩
  |cont=>
   obtain⟨Z,Y,S,P⟩:=T;obtain⟨Q,hm,R⟩:=L Z Y P;exact⟨Q,hm,Z,Y,S,R⟩
  |brk=>exact T
  |ret v=>exact T
 |false=>
  rw[if_neg KL];exact Ml ⟨σ1,H2,I2,U⟩
end
structure It where
 go:Nat->Hp->Prop
 yld:Nat->Hp->V->Hp->Prop
 stop:Nat->Hp->Prop
def iS(X:Cx)(pins:List (cq×Obj))(H:Hp)(b:cq):Prop:=
 H b=aC/\b≠X.env.locals/\b∉X.fs/\(b∈X.ex\/X.s₀.heap.objs.size<=b)/\(∀x c,X.env.cells.lookup x=ar c->c≠b)/\∀p∈X.pn++pins,p.1≠b
theorem Inv.fpOk{Y:Hp}(I:Inv X pins σ H s)(Z:s.heap.objs.size<=b)(W:Y b=aC):iS X pins Y b:=by
 refine⟨W,LN (J1 I.lt Z),I.nofs Z,.inr (JX I.sz Z),λx c e z=>?_,λp U z=>?_⟩
 ·obtain⟨v,q⟩:=I.cell x c e;exact absurd (J1 q.lt (by rw[z];exact Z)) (K1 _)
 ·exact absurd (J1 (JU (I.pin p U).1) (by rw[z];exact Z)) (K1 _)
structure Turn(P:d_)(w:ee)(K:dn)(tg:Expr)(J:It)(fp:List cq)(it:cq)(tn:Nat->f'->Prop):Prop where
 mem:it∈fp
 obj:∀i h,tn i h->∀b∈fp,∃o,h.get? b=ar o/\∀v,o.data≠ .cell v
 keep:∀i h h',tn i h->(∀b∈fp,∀o,h.get? b=ar o->h'.get? b=ar o)->tn i h'
 item:∀(X:Cx),X.prog=P->X.w=w->X.K=K->X.calm=b'->∀(i:Nat) (pins:List (cq×Obj)) (s:c_) (σ:St) (H:Hp) (E:b_->c_->Prop),Inv X pins σ H s->(∀b∈fp,iS X pins H b)->tn i s.heap->J.go i H->
  ed (e_ P w) X.A (NS (.ref it)) (λr s1=>∃u,r=ar u/\
   ed (e_ P w) X.A (y2 tg (.ref it) u) (λ_ s2=>∃x H',Inv X pins σ H' s2/\RelV x u/\J.yld i H x H'/\tn (i+1) s2.heap/\∀b∈fp,H' b=aC) E s1) E s
 done:∀(X:Cx),X.prog=P->X.w=w->X.K=K->X.calm=b'->∀(i:Nat) (pins:List (cq×Obj)) (s:c_) (σ:St) (H:Hp) (E:b_->c_->Prop),Inv X pins σ H s->(∀b∈fp,iS X pins H b)->tn i s.heap->J.stop i H->
  ed (e_ P w) X.A (NS (.ref it)) (λr s1=>r=aC/\Inv X pins σ H s1) E s
 self:∀(A:iB) (i:Nat) (s:c_) (Q:b_->c_->Prop) (E:b_->c_->Prop),tn i s.heap->Q (.ref it) s->ed (e_ P w) A (N_ (.ref it)) Q E s
abbrev TI:=St->Hp->(It->Hp->Prop)->Prop
def Jk(X:Cx)(pins:List (cq×Obj))(σ:St)(tg:Expr)(R:It->Hp->Prop)(itv:b_)(s2:c_):Prop:=
 ∃(it:cq) (fp:List cq) (tn:Nat->f'->Prop) (J:It) (H':Hp),itv= .ref it/\Inv X pins σ H' s2/\Turn X.prog X.w X.K tg J fp it tn/\tn 0 s2.heap/\(∀b∈fp,iS X pins H' b)/\R J H'
def PI(X:Cx)(tg iter:Expr)(wi:TI):Prop:=
 ∀(pins:List (cq×Obj)) (s:c_) (σ:St) (H:Hp) (R:It->Hp->Prop),Inv X pins σ H s->wi σ H R->
  ed (e_ X.prog X.w) X.A (i4 iter X.env) (λv s1=>ed (e_ X.prog X.w) X.A (N_ v) (Jk X pins σ tg R) X.xe s1) X.xe s
theorem zj{s:c_}{Q:Unit->c_->Prop}(X:s.heap.get? it=ar o)(U:o.cls= .type n)(Y:o.data= .fields vs)
    (W:["enumerate","zip","dict_itemiterator","dict_reverseitemiterator","odict_iterator","itertools.zip_longest","itertools.pairwise"].contains n=dr) (Z:Q () s):ed M A (y2 tg (.ref it) u) Q E s:=by
  unfold y2;cases tg <;>first
    |exact JR Z
    |(cases u<;>first
        |exact JR Z
        | (refine JM (wpAny_load X ?_)
           rw[U,Y];show ed M A (if (["enumerate","zip","dict_itemiterator","dict_reverseitemiterator","odict_iterator","itertools.zip_longest","itertools.pairwise"].contains n && vs[0]? ==ar (A_ _))=b' then _ else _) Q E s;rw[if_neg (by intro h;rw[W,LD]at h;cases h)];exact JR Z))
def HF(K:dn)(a:cq):It:=
 ⟨λi H=>∃xs x,iR K H a xs/\xs[i]? =ar x,λi H x H'=>H'=H/\∀xs,iR K H a xs->xs[i]? =ar x,λi H=>∃xs,iR K H a xs/\xs.length<=i⟩
def Iw(K:dn)(a:cq):It:=
 ⟨λi H=>∃xs x,lr K H a xs/\xs[i]? =ar x,λi H x H'=>H'=H/\∀xs,lr K H a xs->xs[i]? =ar x,λi H=>∃xs,lr K H a xs/\xs.length<=i⟩
def Gx(lo:Int)(n:Nat):It:=⟨λi _=>i<n,λi H x H'=>H'=H/\x= .int (lo+i),λi _=>n<=i⟩
theorem xx{P:d_}{w:ee}{K:dn}{B:Expr}(a it:cq):Turn P w K B (HF K a) [it] it (λi h=>h.IsListIter it a i) where
 mem:=by simp
 obj:=λi h st b Z=>by
  have e:b=it:=by simpa using Z
  subst e;obtain⟨o,e,c,d⟩:=st;exact⟨o,e,λv z=>by rw[d]at z;cases z⟩
 keep:=λi h h' st k=>st.at λo e=>k it (by simp) o e
 item:=by intro X O hw N J i pins s σ H E I hf st Q;subst O hw N;obtain⟨xs,x,U,L⟩:=Q;obtain⟨its,T,p,t⟩:=I.list U;obtain⟨u,C,G⟩:=T.get L;obtain⟨f0,f1,f2,R,f4,S⟩:=hf it (by simp);refine wpAny_pyNext_list_item st p.isList (x:=u) (by simpa using C) λh' Y r=>?_;have y:Inv X pins σ H {s with heap:=h'}:=I.turned (t':=s.toks) (λb o Z e=>(r.2 b Z).trans e) f0 f1 R f4 S;obtain⟨o,e,c,d⟩:=id Y;exact⟨u,rfl,zj (s:={s with heap:=h'}) e c d (by decide) ⟨x,H,y,G,⟨rfl,λys A=>by rw[I.list_inj A U];exact L⟩,Y,λb Z=>(hf b Z).1⟩⟩
 done:=by intro X O hw N J i pins s σ H E I hf st Q;subst O hw N;obtain⟨xs,U,L⟩:=Q;obtain⟨its,T,p,t⟩:=I.list U;obtain⟨f0,f1,f2,R,f4,S⟩:=hf it (by simp);have q:=T.length;exact wpAny_pyNext_list_end (I.ok.hd J) st p.isList (by simp;omega) λh' F=>⟨rfl,I.turned (t':=s.toks) (λb o Z e=>F b o Z e) f0 f1 R f4 S⟩
 self:=λ_ _ _ _ _ st h=>wpAny_pyIter_listiter st h
theorem uz{P:d_}{w:ee}{K:dn}{B:Expr}(a it:cq):Turn P w K B (Iw K a) [it] it (λi h=>h.IsTupleIter it a i) where
 mem:=by simp
 obj:=λi h st b Z=>by
  have e:b=it:=by simpa using Z
  subst e;obtain⟨o,e,c,d⟩:=st;exact⟨o,e,λv z=>by rw[d]at z;cases z⟩
 keep:=λi h h' st k=>st.at λo e=>k it (by simp) o e
 item:=by intro X O hw N J i pins s σ H E I hf st Q;subst O hw N;obtain⟨xs,x,U,L⟩:=Q;obtain⟨its,T,p,t⟩:=I.tuple U;obtain⟨u,C,G⟩:=T.get L;obtain⟨f0,f1,f2,R,f4,S⟩:=hf it (by simp);refine wpAny_pyNext_tuple_item st (show s.heap.IsTuple a its.toArray from p) (x:=u) (by simpa using C) λh' Y r=>?_;have y:Inv X pins σ H {s with heap:=h'}:=I.turned (t':=s.toks) (λb o Z e=>(r.2 b Z).trans e) f0 f1 R f4 S;obtain⟨o,e,c,d⟩:=id Y;exact⟨u,rfl,zj (s:={s with heap:=h'}) e c d (by decide) ⟨x,H,y,G,⟨rfl,λys A=>by rw[I.tuple_inj A U];exact L⟩,Y,λb Z=>(hf b Z).1⟩⟩
 done:=by intro X O hw N J i pins s σ H E I hf st Q;subst O hw N;obtain⟨xs,U,L⟩:=Q;obtain⟨its,T,p,t⟩:=I.tuple U;obtain⟨f0,f1,f2,R,f4,S⟩:=hf it (by simp);have q:=T.length;exact wpAny_pyNext_tuple_end (I.ok.hd J) st (show s.heap.IsTuple a its.toArray from p) (by simp;omega) λh' F=>⟨rfl,I.turned (t':=s.toks) (λb o Z e=>F b o Z e) f0 f1 R f4 S⟩
 self:=λ_ _ _ _ _ st h=>wpAny_pyIter_tupleiter st h
theorem uA{P:d_}{w:ee}{K:dn}{C:Expr}(it:cq)(U:Int)(n:Nat):Turn P w K C (Gx U n) [it] it (λi h=>IsRangeIter h it (U+(i:Nat)*1) ((n:Int) - (i:Nat)) 1) where
 mem:=by simp
 obj:=λi h st b Z=>by
  have e:b=it:=by simpa using Z
  subst e;exact⟨_,st,λv z=>by have J:Data.fields _=Data.cell v:=z;cases J⟩
 keep:=λi h h' st k=>k it (by simp) _ st
 item:=by intro X Q hw N O i pins s σ H E I hf st R;subst Q hw N;obtain⟨f0,f1,f2,S,f4,T⟩:=hf it (by simp);have W:=Walks.range (prog:=X.prog) (w:=X.w) (I.ok.hd O) it U 1 n;refine W.item i s _ _ R st λv h' L F Y B=>?_;obtain⟨t,rfl⟩:=F;have A:Inv X pins σ H {s with heap:=h',toks:=L}:=I.turned (λb o Z e=>B b o (by simpa using Z) e) f0 f1 S f4 T;refine⟨_,rfl,zj (s:={s with heap:=h',toks:=L}) (n:="range_iterator") Y rfl rfl (by decide) ⟨.int (U+i),H,A,⟨t,?_⟩,⟨rfl,rfl⟩,Y,λb Z=>(hf b Z).1⟩⟩;rw[Int.mul_one]
 done:=by intro X Q hw N O i pins s σ H E I hf st R;subst Q hw N;obtain⟨f0,f1,f2,S,f4,T⟩:=hf it (by simp);exact wpAny_pyNext_range_end (I.ok.hd O) st (by have:n<=i:=R;omega) λh' G=>⟨rfl,I.turned (t':=s.toks) (λb o Z e=>G b o Z e) f0 f1 S f4 T⟩
 self:=λ_ _ _ _ _ st h=>wpAny_pyIter_rangeiter st h
section
variable {X:Cx}{tg:Expr}
def Gy(K:dn)(tl:TE):TI:=λσ H R=>tl σ H λx H1=>∃a,x= .ref a/\(∃xs,iR K H1 a xs)/\R (HF K a) H1
def Iy(K:dn)(tl:TE):TI:=λσ H R=>tl σ H λx H1=>∃a,x= .ref a/\(∃xs,lr K H1 a xs)/\R (Iw K a) H1
theorem kj{l:Expr}{Z:TE}(W:PE X l Z):PI X tg l (Gy X.K Z):=by
 intro pins s σ H R I h;refine dq (W pins s σ H _ I h) λv s1 ⟨x,H1,I1,r1,q1⟩=>?_;obtain⟨a,e,⟨xs,U⟩,q⟩:=q1;subst e;cases r1;obtain⟨its,T,p,S⟩:=I1.list U;refine MI p.isList ?_;refine⟨s1.heap.objs.size,[s1.heap.objs.size],_,_,H1,rfl,I1.kept (t':=s1.toks) λb o e=>JO _ e,xx a _,⟨_,J0 _ rfl,rfl,rfl⟩,λb Y=>?_,q⟩;have e:b=s1.heap.objs.size:=by simpa using Y
 subst e;exact I1.fpOk (JQ _) (I1.hok.fresh (JQ _))
theorem Ep{l:Expr}{Z:TE}(W:PE X l Z):PI X tg l (Iy X.K Z):=by
 intro pins s σ H R I h;refine dq (W pins s σ H _ I h) λv s1 ⟨x,H1,I1,r1,q1⟩=>?_;obtain⟨a,e,⟨xs,U⟩,q⟩:=q1;subst e;cases r1;obtain⟨its,T,p,S⟩:=I1.tuple U;refine My (show s1.heap.IsTuple a its.toArray from p) ?_;refine⟨s1.heap.objs.size,[s1.heap.objs.size],_,_,H1,rfl,I1.kept (t':=s1.toks) λb o e=>JO _ e,uz a _,⟨_,J0 _ rfl,rfl,rfl⟩,λb Y=>?_,q⟩;have e:b=s1.heap.objs.size:=by simpa using Y
 subst e;exact I1.fpOk (JQ _) (I1.hok.fresh (JQ _))
theorem sx{W:List (cq×Obj)}{U:St}{H:Hp}{s:c_}{R:It->Hp->Prop}{E:b_->c_->Prop}{Z Y:Int}{t u v:Tok}{S:Nat}(I:Inv X W U H s)(P: -(2 ^ 62)<=Z)(N:Z<2 ^ 62)(O: -(2 ^ 62)<=Y)(L:Y<2 ^ 62)
  (q:R (Gx Z (Y - Z).toNat) H):ed (e_ X.prog X.w) X.A (N_ (.ref s.heap.objs.size)) (Jk X W U tg R) E {s with heap:=s.heap.push {cls:=.type "range",data:=.fields #[.int Z t,.int Y u,.int 1 v]},toks:=S}:=by
 refine wpAny_pyIter_range (IsRange.new ..) (small_one P N O L) ?_;have T:Inv X W U H {s with heap:=s.heap.push {cls:=.type "range",data:=.fields #[.int Z t,.int Y u,.int 1 v]},toks:=S}:=I.kept λb o e=>JO _ e;refine⟨(s.heap.push {cls:=.type "range",data:=.fields #[.int Z t,.int Y u,.int 1 v]}).objs.size,[(s.heap.push {cls:=.type "range",data:=.fields #[.int Z t,.int Y u,.int 1 v]}).objs.size],_,_,H,rfl,
  T.kept (t':=S) λb o e=>JO _ e,uA _ Z (Y - Z).toNat,?_,λb Q=>?_,q⟩
 ·have e1:Z+((0:Nat):Int)*1=Z:=by simp
  have e2:(((Y - Z).toNat:Nat):Int) - ((0:Nat):Int)=Builtin.Range.rangeSize Z Y 1:=by rw[rangeSize_one];split<;>omega
  show IsRangeIter _ _ (Z+((0:Nat):Int)*1) ((((Y - Z).toNat:Nat):Int) - ((0:Nat):Int)) 1;rw[e1,e2];exact J0 _ rfl
 ·have e:b=(s.heap.push {cls:=.type "range",data:=.fields #[.int Z t,.int Y u,.int 1 v]}).objs.size:=by simpa using Q
  subst e;exact T.fpOk (JQ _) (T.hok.fresh (JQ _))
def Gz(ta:TA):TI:=λσ H R=>ta σ H λvs H1=>∃j:Int,vs=[.int j]/\ -(2 ^ 62)<=j/\j<2 ^ 62/\R (Gx 0 j.toNat) H1
def GA(ta:TA):TI:=λσ H R=>ta σ H λvs H1=>∃i j:Int,vs=[.int i,.int j]/\(-(2 ^ 62)<=i/\i<2 ^ 62/\ -(2 ^ 62)<=j/\j<2 ^ 62)/\R (Gx i (j - i).toNat) H1
theorem xA{a:Expr}{Y:TA}{p pos:Pos}(T:Gl X "range")(S:X.mg "range"=aC)(W:PA X [a] Y)(hs:dt [a] X.env=[(dr,i4 a X.env)]:=by rfl):PI X tg (.Call (.Name "range" p) [a] [] pos) (Gz Y):=by
 intro pins s σ H R I h;refine Call_ (lz I T S boot_range (K5 (dq (W pos pins s σ H _ I h) λus s1 ⟨vs,H1,I1,r1,Z⟩=>?_) hs rfl));obtain⟨j,e,Z,U,q⟩:=Z;subst e;cases r1 with
 |cons r rr=>
  cases rr;obtain⟨t,rfl⟩:=r;exact call_range_1 (sx I1 (by omega) (by omega) Z U (by simpa using q))
theorem xB(S:Gl X "range")(P:X.mg "range"=aC)(W:PA X [a,b] ta)(hs:dt [a,b] X.env=[(dr,i4 a X.env),(dr,i4 b X.env)]:=by rfl)(Z:dt [b] X.env=[(dr,i4 b X.env)]:=by rfl):
  PI X tg (.Call (.Name "range" p) [a,b] [] pos) (GA ta):=by
 intro pins s σ H R I h;refine Call_ (lz I S P boot_range (K5 (dq (W pos pins s σ H _ I h) λus s1 ⟨vs,H1,I1,r1,Y⟩=>?_) (by rw[hs,Z]) (by rw[Z];rfl)));obtain⟨i,j,e,⟨Y,T,Q,U⟩,q⟩:=Y;subst e;cases r1 with
 | cons r rr=>
  cases rr with
  |cons r' rr=>
   cases rr;obtain⟨t,rfl⟩:=r;obtain⟨t',rfl⟩:=r';exact call_range_2 (sx I1 Y T Q U q)
def Iz(wi:TI)(g:TG)(tb:TS):TS:=λD σ H=>wi σ H λJ H1=>∃W:Nat->Nat->St->Hp->Prop,(∃m,W 0 m σ H1)/\∀i m σ H,W i m σ H->
 (J.stop i H/\D.nx σ H)\/(J.go i H/\∃N:St->Hp->Prop,(∀ σ' H',N σ' H'->∃m',m'<m/\W (i+1) m' σ' H')/\∀x H',J.yld i H x H'->g x σ H' λσ2 H2=>tb {D with nx:=N,ct:=N,bk:=D.nx} σ2 H2)
def lA(fp:List cq)(h:f'):List (cq×Obj):=fp.filterMap λb=>(h.get? b).map λo=>(b,o)
theorem eN{h:f'}(Z:b∈fp)(e:h.get? b=ar o):(b,o)∈lA fp h:=Le.mpr ⟨b,Z,by rw[e];rfl⟩
theorem xC(Y:p∈lA fp h):p.1∈fp/\h.get? p.1=ar p.2:=by
 obtain⟨b,Z,e⟩:=Le.mp Y;cases q:h.get? b with
 |none=>rw[q]at e;cases e
 |some o=>
  rw[q]at e;have W:(b,o)=p:=Ka e;subst W;exact⟨Z,q⟩
theorem Inv.pinned(I:Inv X pins σ H s)(U:∀b∈fp,iS X pins H b)(W:∀b∈fp,∃o,s.heap.get? b=ar o/\∀v,o.data≠ .cell v):Inv X (pins++lA fp s.heap) σ H s:=
 I.pins_of λp T=>(Ly.mp T).elim (λz=>I.pin p (Kc _ z)) λz=>by obtain⟨Z,e⟩:=xC z;obtain⟨f0,f1,f2,_⟩:=U p.1 Z;obtain⟨o,Y,d⟩:=W p.1 Z;rw[e]at Y;cases Y;exact⟨e,f0,f1,f2,d⟩
theorem Inv.unpinned(I:Inv X (pins++pl) σ H s):Inv X pins σ H s:=I.pins_of λp Z=>I.pin p (Kc _ (LC _ Z))
theorem Er{Q:Expr}{body:List nf}{z:TI}{g:TG}{tb:TS}{pos:Pos}(K:Nt (e_ X.prog X.w) X.A X.env X.xe)(B:X.calm=b')(hi:PI X tg Q z)(k:PG X tg g)(R:oV X body tb)
  (hs:∀x,hI Q X.env x=a_ x:=by intro _;rfl):PS X (.For tg Q body [] pos) (Iz z g tb):=by
 intro pins s σ H D I h;refine wpAny_For (dq (hi pins s σ H _ I h) λv s1 y=>dq y λt s2 q=>?_) hs;obtain⟨it,O,C,J,c,e,j,T,E,f2,W,⟨m0,w0⟩,turn⟩:=q;subst e;have S:∀{H':Hp},(∀b∈O,H' b=aC)->∀b∈O,iS X pins H' b:=λa b R=>⟨a b R,(f2 b R).2⟩;refine codeAny_forLoop_any (λn s'=>∃i σ' H',Inv X pins σ' H' s'/\C i s'.heap/\(∀b∈O,H' b=aC)/\W i n σ' H') ?_ m0 ⟨0,σ,c,j,E,λb R=>(f2 b R).1,w0⟩;rintro n s3 ⟨i,σ3,H3,I3,st3,fr3,w3⟩;rcases turn i n σ3 H3 w3 with⟨stop,qn⟩|⟨go,N,hN,step⟩
 ·refine Lk K (dq (T.done X rfl rfl rfl B i pins s3 σ3 H3 X.xe I3 (S fr3) st3 stop) λr s4 ⟨hr,I4⟩=>?_);subst hr;exact Ml ⟨σ3,H3,I4,qn⟩
 ·refine Lk K (dq (T.item X rfl rfl rfl B i pins s3 σ3 H3 X.xe I3 (S fr3) st3 go) λr s4 ⟨u,hr,h4⟩=>?_);subst hr;refine Lk K (dq h4 λ_ s5 ⟨x,H5,I5,r5,y5,st5,fr5⟩=>?_);have G:=I5.pinned (S fr5) (T.obj _ _ st5);refine Lk K (dq (k _ s5 σ3 H5 x u _ G r5 (step x H5 y5)) λ_ s6 ⟨σ6,H6,I6,q6⟩=>?_);refine Lk K (dq (R _ s6 σ6 H6 _ I6 q6) λf F P=>?_);have NC:∀{Z:St} {Y:Hp},Inv X (pins++lA O s5.heap) Z Y F->N Z Y->∃m,m<n/\∃i σ' H',Inv X pins σ' H' F/\C i F.heap/\(∀b∈O,H' b=aC)/\W i m σ' H':=λ{Z Y} U L=>by
   obtain⟨m',hm,l⟩:=hN Z Y L;refine⟨m',hm,i+1,Z,Y,U.unpinned,T.keep _ _ _ st5 λb R o e=>(U.pin (b,o) (Kc _ (Kc _ (eN R e)))).1,λb R=>?_,l⟩;obtain⟨o,e,d⟩:=T.obj _ _ st5 b R;exact(U.pin (b,o) (Kc _ (Kc _ (eN R e)))).2.1
  cases f with
  |next=>obtain⟨Z,Y,U,L⟩:=P;exact NC U L
  |cont=>obtain⟨Z,Y,U,L⟩:=P;exact NC U L
  |brk=>obtain⟨Z,Y,U,P⟩:=P;exact⟨Z,Y,U.unpinned,P⟩
  |ret v=>obtain⟨x7,Z,Y,U,p,P⟩:=P;exact⟨x7,Z,Y,U.unpinned,p,P⟩
end
abbrev R2:=V->V->Hp->VK->Prop
def ib(X:Cx)(f:b_->b_->Sem b_)(r:R2):Prop:=
 ∀(pins:List (cq×Obj)) (s:c_) (σ:St) (H:Hp) (x y:V) (v u:b_) (Q:VK),Inv X pins σ H s->RelV x v->RelV y u->r x y H Q->
  ed (e_ X.prog X.w) X.A (f v u) (EP X pins σ Q) X.xe s
def IA(X:Cx)(f:b_->Sem b_)(r:V->Hp->VK->Prop):Prop:=
 ∀(pins:List (cq×Obj)) (s:c_) (σ:St) (H:Hp) (x:V) (v:b_) (Q:VK),Inv X pins σ H s->RelV x v->r x H Q->
  ed (e_ X.prog X.w) X.A (f v) (EP X pins σ Q) X.xe s
def dM(X:Cx)(f:b_)(r:List V->Hp->VK->Prop):Prop:=
 ∀(pins:List (cq×Obj)) (s:c_) (σ:St) (H:Hp) (xs:List V) (us:List b_) (Q:VK),Inv X pins σ H s->bh xs us->r xs H Q->
  ed (e_ X.prog X.w) X.A (call f us) (EP X pins σ Q) X.xe s
def IB(X:Cx)(r:V->Hp->(Bool->Hp->Prop)->Prop):Prop:=
 ∀(pins:List (cq×Obj)) (s:c_) (σ:St) (H:Hp) (x:V) (v:b_) (Q:Bool->Hp->Prop),Inv X pins σ H s->RelV x v->r x H Q->
  ed (e_ X.prog X.w) X.A (Oo v) (TP X pins σ Q) X.xe s
def GC(r:R2)(ta tb:TE):TE:=λσ H Q=>ta σ H λx H1=>tb σ H1 λy H2=>r x y H2 Q
def Jz(r:V->Hp->VK->Prop)(ta:TE):TE:=λσ H Q=>ta σ H λx H1=>r x H1 Q
def rI(C:Int->Int->Prop)(g:Int->Int->V):R2:=λx y H Q=>∃i j,x= .int i/\y= .int j/\C i j/\Q (g i j) H
def BP(g:Int->Int->V):R2:=λx y H Q=>∃i j,x= .int i/\y= .int j/\Q (g i j) H
def rU(g:Int->V):V->Hp->VK->Prop:=λx H Q=>∃i,x= .int i/\Q (g i) H
section
variable {X:Cx}{a b c:Expr}{ta tb tc:TE}{pos:Pos}
theorem Es(S:PE X a ta)(T:PE X b tb){R:V->V->Hp->Prop}(I:Inv X pins σ H s)
  (h:ta σ H λx U=>tb σ U λy Z=>R x y Z) {f:b_->b_->Sem b_}
  (P:∀v u s2 x y Z,Inv X pins σ Z s2->RelV x v->RelV y u->R x y Z->ed (e_ X.prog X.w) X.A (f v u) Q X.xe s2):
  ed (e_ X.prog X.w) X.A (i4 a X.env) (λv W=>ed (e_ X.prog X.w) X.A (i4 b X.env) (λu Y=>ed (e_ X.prog X.w) X.A (f v u) Q X.xe Y) X.xe W) X.xe s:=by
 refine dq (S pins s σ H _ I h) λv s1 ⟨x,U,I1,r1,q1⟩=>?_;refine dq (T pins s1 σ U _ I1 q1) λu s2 ⟨y,Z,I2,r2,q2⟩=>?_;exact P v u s2 x y Z I2 r1 r2 q2
theorem GD(Y:ib X (n_ op) r)(W:PE X a ta)(Z:PE X b tb):PE X (.BinOp a op b pos) (GC r ta tb):=by intro pins s σ H Q I h;exact wpAny_BinOp (Es W Z I h λv u s2 x y R T S U q=>Y pins s2 σ R x y v u Q T S U q)
theorem GE(Z:IA X (unaryOp op) r)(Y:PE X a ta):PE X (.UnaryOp op a pos) (Jz r ta):=by intro pins s σ H Q I h;exact UnaryOp_ (dq (Y pins s σ H _ I h) λv s1 ⟨x,H1,I1,r1,q1⟩=>Z pins s1 σ H1 x v Q I1 r1 q1)
theorem HG{f:b_->b_->Sem b_}{C:Int->Int->Prop}{g:Int->Int->Int}
  (Z:∀(i j:Int) (t u:Tok) (s:c_) (Q:b_->c_->Prop) (E:b_->c_->Prop),C i j->Q (.int (g i j) s.toks) {s with toks:=s.toks+1}->ed (e_ X.prog X.w) X.A (f (.int i t) (.int j u)) Q E s):
  ib X f (rI C λi j=>.int (g i j)):=by
 intro pins s σ H x y v u Q I U W h;obtain⟨i,j,rfl,rfl,Y,q⟩:=h;obtain⟨t,rfl⟩:=U;obtain⟨t',rfl⟩:=W;exact Z i j t t' s _ _ Y ⟨.int (g i j),H,I.tok _,⟨_,rfl⟩,q⟩
theorem GF{f:b_->b_->Sem b_}{g:Int->Int->Int}
  (Z:∀(i j:Int) (t u:Tok) (s:c_) (Q:b_->c_->Prop) (E:b_->c_->Prop),Q (.int (g i j) s.toks) {s with toks:=s.toks+1}->ed (e_ X.prog X.w) X.A (f (.int i t) (.int j u)) Q E s):
  ib X f (BP λi j=>.int (g i j)):=by
 intro pins s σ H x y v u Q I W Y h;obtain⟨i,j,rfl,rfl,q⟩:=h;obtain⟨t,rfl⟩:=W;obtain⟨t',rfl⟩:=Y;exact Z i j t t' s _ _ ⟨.int (g i j),H,I.tok _,⟨_,rfl⟩,q⟩
theorem B9{f:b_->b_->Sem b_}{g:Int->Int->Bool}
  (Z:∀(i j:Int) (t u:Tok) (s:c_) (Q:b_->c_->Prop) (E:b_->c_->Prop),Q (.bool (g i j)) s->ed (e_ X.prog X.w) X.A (f (.int i t) (.int j u)) Q E s):
  ib X f (BP λi j=>.bl (g i j)):=by
 intro pins s σ H x y v u Q I W Y h;obtain⟨i,j,rfl,rfl,q⟩:=h;obtain⟨t,rfl⟩:=W;obtain⟨t',rfl⟩:=Y;exact Z i j t t' s _ _ ⟨.bl (g i j),H,I,rfl,q⟩
def uB(i j:Int):Prop:=0<j/\j<1073741824
def Ca(i j:Int):Prop:=0<=j/\j<=1000000/\i.natAbs<2 ^ 64
def oW(i j:Int):Prop:=(-(2 ^ 64)<i/\i<2 ^ 64)\/(-(2 ^ 64)<j/\j<2 ^ 64)
theorem oW.ok{i j:Int}(h:oW i j):IntMulOk i j:=by
 rcases h with⟨h1,h2⟩|⟨h1,h2⟩
 ·exact .of_left (intBits_le_64 h1 h2)
 ·exact .of_right (intBits_le_64 h1 h2)
theorem Et:ib X (n_ .Add) (BP λi j=>.int (i+j)):=GF λ_ _ _ _ _ _ _ q=>add_int q
theorem Eu:ib X (n_ .Sub) (BP λi j=>.int (i - j)):=GF λ_ _ _ _ _ _ _ q=>sub_int q
theorem Ew:ib X (n_ .Mult) (rI oW λi j=>.int (i*j)):=HG λ_ _ _ _ _ _ _ Z q=>mul_int q Z.ok
theorem Cb:ib X (n_ .FloorDiv) (rI uB λi j=>.int (i / j)):=HG λi j _ _ _ _ _ Z q=>by have Y:(0:Int)<j:=Z.1;have W:j<1073741824:=Z.2;exact floordiv_int (by omega) (by rw[Int.fdiv_eq_ediv_of_nonneg i (by omega)];exact q) (.inl (PyProof.noPylong_small (by omega)))
theorem Ex:ib X (n_ .Mod) (rI (λ_ j=>0<j) λi j=>.int (i % j)):=HG λi j _ _ _ _ _ Z q=>by have Y:(0:Int)<j:=Z;exact mod_int' (by omega) (by rw[Int.fmod_eq_emod_of_nonneg i (by omega)];exact q)
theorem Ey:ib X (n_ .Pow) (rI Ca λi j=>.int (i ^ j.toNat)):=HG λ_ _ _ _ _ _ _ Z q=>pow_int_small Z.1 Z.2.1 Z.2.2 q
theorem JA{f:b_->Sem b_}{g:Int->Int}
  (Z:∀(i:Int) (t:Tok) (s:c_) (Q:b_->c_->Prop) (E:b_->c_->Prop),Q (.int (g i) s.toks) {s with toks:=s.toks+1}->ed (e_ X.prog X.w) X.A (f (.int i t)) Q E s):
  IA X f (rU λi=>.int (g i)):=by
 intro pins s σ H x v Q I Y h;obtain⟨i,rfl,q⟩:=h;obtain⟨t,rfl⟩:=Y;exact Z i t s _ _ ⟨.int (g i),H,I.tok _,⟨_,rfl⟩,q⟩
theorem Ez:IA X (unaryOp .USub) (rU λi=>.int (-i)):=JA λ_ _ _ _ _ q=>neg_int q
theorem zl:ib X (i' .Lt) (BP λi j=>.bl (decide (i<j))):=B9 λ_ _ _ _ _ _ _ q=>lt_int q
theorem sy:ib X (i' .LtE) (BP λi j=>.bl (decide (i<=j))):=B9 λ_ _ _ _ _ _ _ q=>le_int q
theorem Dv:ib X (i' .Gt) (BP λi j=>.bl (decide (j<i))):=B9 λ_ _ _ _ _ _ _ q=>gt_int q
theorem Dw:ib X (i' .GtE) (BP λi j=>.bl (decide (j<=i))):=B9 λ_ _ _ _ _ _ _ q=>ge_int q
theorem ib.or{r Z:R2}(h:ib X f r)(h':ib X f Z):ib X f (λx y H Q=>r x y H Q\/Z x y H Q):=by
 intro pins s σ H x y v u Q I W Y q;rcases q with q|q
 ·exact h pins s σ H x y v u Q I W Y q
 ·exact h' pins s σ H x y v u Q I W Y q
theorem IC(b:Expr)(h:op≠ .In:=by decide)(Z:op≠ .NotIn:=by decide):kT op b=false:=by
 have e1:(op==CmpOp.In)=false:=by cases op<;>first|rfl|exact absurd rfl h
 have e2:(op==CmpOp.NotIn)=false:=by cases op<;>first|rfl|exact absurd rfl Z
 cases b<;>simp[kT,e1,e2]
theorem Cc(Y:ib X (i' op) r)(U:PE X a ta)(Z:PE X b tb)(T:kT op b=dr):PE X (.Compare a [op] [b] pos) (GC r ta tb):=by intro pins s σ H Q I h;exact wpAny_Compare1 (Es U Z I h λv u s2 x y P S R W q=>Y pins s2 σ P x y v u Q S R W q) T
def Dx(t:TE):TT:=λσ H Q=>t σ H λx H'=>∃k,x= .bl k/\Q k H'
theorem v9(Y:ib X (i' op) r)(W:PE X a ta)(Z:PE X b tb)(U:kT op b=dr):PT X (.Compare a [op] [b] pos) (Dx (GC r ta tb)):=by
 intro pins s σ H Q I h;refine wpAny_isTrue_Compare1 (dq (W pins s σ H _ I h) λv s1 ⟨x,H1,I1,r1,q1⟩=>dq (Z pins s1 σ H1 _ I1 q1) λu s2 ⟨y,H2,I2,r2,q2⟩=>
  dq (Y pins s2 σ H2 x y v u _ I2 r1 r2 q2) λc s3 ⟨z,H3,I3,r3,k,e,q3⟩=>?_) U
 subst e;cases r3;exact KF ⟨H3,I3,q3⟩
def uC(r r':R2)(ta tb tc:TE):TE:=λσ H Q=>ta σ H λx H1=>tb σ H1 λy H2=>r x y H2 λz H3=>∃k,z= .bl k/\
 (if k=b' then tc σ H3 λw' H4=>r' y w' H4 Q else Q (.bl dr) H3)
theorem zm(W:ib X (i' op) r)(Z:ib X (i' op') r')(T:PE X a ta)(Y:PE X b tb)(U:PE X c tc)
  (S:NT [op,op'] [b,c]=false:=by with_unfolding_all rfl):PE X (.Compare a [op,op'] [b,c] pos) (uC r r' ta tb tc):=by
 intro pins s σ H Q I h;refine Compare_chain (dq (T pins s σ H _ I h) λv s1 ⟨x,H1,I1,r1,q1⟩=>chain_link (dq (Y pins s1 σ H1 _ I1 q1) λu s2 ⟨y,H2,I2,r2,q2⟩=>
  dq (W pins s2 σ H2 x y v u _ I2 r1 r2 q2) λd s3 ⟨z,H3,I3,r3,k,e,q3⟩=>?_)) S
 subst e;cases r3;refine KF ?_;cases k with
 |false=>exact ite_ff ⟨.bl dr,H3,I3,rfl,q3⟩
 |true=>exact ite_tt (chain_last (dq (U pins s3 σ H3 _ I3 q3) λw' s4 ⟨z',H4,I4,r4,q4⟩=>Z pins s4 σ H4 y z' u w' Q I4 r2 r4 q4))
theorem zo(W:ib X (i' op) r)(Z:ib X (i' op') r')(S:PE X a ta)(Y:PE X b tb)(T:PE X c tc)
  (R:NT [op,op'] [b,c]=false:=by with_unfolding_all rfl):PT X (.Compare a [op,op'] [b,c] pos) (Dx (uC r r' ta tb tc)):=by
 intro pins s σ H Q I h;refine isTrue_chain (dq (S pins s σ H _ I h) λv s1 ⟨x,H1,I1,r1,q1⟩=>test_link (dq (Y pins s1 σ H1 _ I1 q1) λu s2 ⟨y,H2,I2,r2,q2⟩=>
  dq (W pins s2 σ H2 x y v u _ I2 r1 r2 q2) λd s3 ⟨z,H3,I3,r3,k,e,q3⟩=>?_)) R
 subst e;cases r3;refine KF ?_;cases k with
 |false=>
  obtain⟨O,P,U⟩:=q3;cases P;exact ite_ff ⟨H3,I3,U⟩
 |true=>
  refine ite_tt (test_last (dq (T pins s3 σ H3 _ I3 q3) λw' s4 ⟨z',H4,I4,r4,q4⟩=>dq (Z pins s4 σ H4 y z' u w' _ I4 r2 r4 q4) λd' s5 ⟨z2,H5,I5,r5,k2,e2,q5⟩=>?_));subst e2;cases r5;exact KF ⟨H5,I5,q5⟩
def GG(K:dn)(x:V)(H:Hp)(k:Bool):Prop:=
 match x with
 | .non=>k=dr
 | .bl b=>k=b
 | .int i=>k=(i !=0)
 | .str y=>y.length<=sizeLine/\k=((y.length:Int) !=0)
 | .byt y=>y.size<=sizeLine/\k=((y.size:Int) !=0)
 | .ref p=>(∃xs,iR K H p xs/\k= !xs.isEmpty)\/(∃xs,lr K H p xs/\k= !xs.isEmpty)\/∃kvs,H p=ar (.dK kvs)/\k= !kvs.isEmpty
 |_=>False
theorem uD{Y:Type}{Z:List (Y×V)}{vs:List (Y×b_)}(r:KV Z vs):(!vs.isEmpty)= !Z.isEmpty:=by cases r<;>rfl
theorem ni(r:bh xs its):(!its.toArray.isEmpty)= !xs.isEmpty:=by cases r<;>simp
theorem lB:(sizeLine:Nat)<2 ^ 63:=by rw[KR];decide
theorem EB:IB X (λx H Q=>∃k,GG X.K x H k/\Q k H):=by
 intro pins s σ H x v Q I U h;obtain⟨k,e,q⟩:=h;have N:=lB;have hs:sizeLine=16777216:=KR;cases x with
 |non=>
  cases U;have Z:k=false:=e;subst Z;exact truthy_none ⟨H,I,q⟩
 |bl b=>
  cases U;have Z:k=b:=e;subst Z;exact KF ⟨H,I,q⟩
 |int i=>
  obtain⟨t,rfl⟩:=U;have Z:k=(i !=0):=e;subst Z;exact PySem.P.truthy_int ⟨H,I,q⟩
 |str y=>
  obtain⟨t,rfl⟩:=U;obtain⟨O,Z⟩:y.length<=sizeLine/\k=((y.length:Int) !=0):=e;subst Z;exact PySem.P.truthy_str (by omega) ⟨H,I.tok _,q⟩
 |byt y=>
  obtain⟨t,rfl⟩:=U;obtain⟨O,Z⟩:y.size<=sizeLine/\k=((y.size:Int) !=0):=e;subst Z;exact W.truthy_bytes (by omega) ⟨H,I.tok _,q⟩
 | ref p=>
  cases U;have Z:(∃xs,iR X.K H p xs/\k= !xs.isEmpty)\/(∃xs,lr X.K H p xs/\k= !xs.isEmpty)\/∃Y,H p=ar (.dK Y)/\k= !Y.isEmpty:=e;rcases Z with⟨xs,hx,Z⟩|⟨xs,hx,Z⟩|⟨Y,hx,Z⟩
  ·subst Z;obtain⟨its,r,T,S⟩:=I.list hx;have hlen:=r.length;exact wpAny_truthy_list T.isList (by simp only[j7];omega) ⟨H,I.tok _,by rw[ni r];exact q⟩
  ·subst Z;obtain⟨its,r,T,S⟩:=I.tuple hx;have hlen:=r.length;exact truthy_tuple T (by simp only[j7];omega) ⟨H,I.tok _,by rw[ni r];exact q⟩
  ·subst Z;obtain⟨S,R,vs,r,m⟩:Y.length<=sizeLine/\(p==N7)=dr/\∃vs,KV Y vs/\s.heap.DictOf (qA X.prog X.w) p vs:=I.hok p _ hx;have hlen:Y.length=vs.length:=Paired.length r;exact wpAny_truthy_dict R m (by omega) ⟨H,I.tok _,by rw[uD r];exact q⟩
 |_=>exact(show False from e).elim
theorem zq(W:PE X a ta)(Y:∀whole,isTrue a X.env whole=(do let v<-whole;xy a.pos;v_ [v] (Oo v))):
  PT X a (λσ H Q=>ta σ H λx Z=>∃k,GG X.K x Z k/\Q k Z):=by
 intro pins s σ H Q I h;exact isTrue_plain (dq (W pins s σ H _ I h) λv s1 ⟨x,H1,I1,r1,q1⟩=>EB pins s1 σ H1 x v Q I1 r1 q1) (Y _)
theorem vals1(r:bh [x] us):∃u,us=[u]/\RelV x u:=by
 cases r with
 |cons r1 r2=>cases r2;exact⟨_,rfl,r1⟩
theorem vals2(r:bh [x,y] us):∃u w',us=[u,w']/\RelV x u/\RelV y w':=by
 cases r with
 |cons r1 r2=>
  cases r2 with
  |cons r3 r4=>cases r4;exact⟨_,_,rfl,r1,r3⟩
theorem xD(Z:X.calm=b'):dM X (.builtin "max") (λxs H Q=>∃i j,xs=[.int i,.int j]/\Q (.int (if j>i then j else i)) H):=by
 intro pins s σ H xs us Q I r h;obtain⟨i,j,rfl,q⟩:=h;obtain⟨u,Y,rfl,⟨t,rfl⟩,⟨t',rfl⟩⟩:=vals2 r;refine max_two_ints (I.ok.hd Z) λh' W k=>⟨_,H,I.kept k,?_,q⟩;by_cases hj:j>i
 ·rw[if_pos hj,if_pos hj];exact⟨_,rfl⟩
 ·rw[if_neg hj,if_neg hj];exact⟨_,rfl⟩
theorem xE(Z:X.calm=b'):dM X (.builtin "min") (λxs H Q=>∃i j,xs=[.int i,.int j]/\Q (.int (if j<i then j else i)) H):=by
 intro pins s σ H xs us Q I r h;obtain⟨i,j,rfl,q⟩:=h;obtain⟨u,Y,rfl,⟨t,rfl⟩,⟨t',rfl⟩⟩:=vals2 r;refine min_two_ints (I.ok.hd Z) λh' W k=>⟨_,H,I.kept k,?_,q⟩;by_cases hj:j<i
 ·rw[if_pos hj,if_pos hj];exact⟨_,rfl⟩
 ·rw[if_neg hj,if_neg hj];exact⟨_,rfl⟩
end
structure ObjM(h:f')(x dx C:cq)(mA:Str->Option b_):Prop where
 obj:h.get? x=ar (Ol C dx)
 ns:h.Ns1 dx mA
 ne:dx≠x
theorem xF{h:f'}{mA:Str->Option b_}(n:h.Ns1 dx mA):∃od,h.get? dx=ar od/\∀name,Ov name od=ar (mA name):=by
 obtain⟨o,es,S,Y,hd,T,_,hm⟩:=n;refine⟨o,Y,λname=>?_⟩;have e:=hm name;unfold nsFind findBy at e;rw[<-Array.find?_toList]at e;unfold Ov;rw[hd];dsimp only;split
 ·rename_i y q
  rw[q]at e;exact MS ar e
 ·rename_i q
  rw[q]at e;have a:es.toList.any (·.refKey)=false:=by rw[List.any_eq_false];intro y X;obtain⟨z,t,Z⟩:=T y (Array.mem_toList_iff.mp X);simp[DictEntry.refKey,Z]
  have U:¬ es.toList.any (·.refKey)=true:=by rw[a];exact KL
  rw[if_neg U];exact MS ar e
theorem ObjM.look{mA:Str->Option b_}(I:ObjM h x dx C mA):∃od,W.InstAt h x (Ol C dx) C (ar od)/\∀name,Ov name od=ar (mA name):=
 let ⟨od,ho,hl⟩:=xF I.ns
 ⟨od,⟨I.obj,rfl,rfl,ho⟩,hl⟩
section
variable {prog:d_}{w:ee}{A:iB}{E:b_->c_->Prop}{s:c_}{K:dn}{x dx C f:cq}{mA:Str->Option b_}{name:Str}{v:b_}
end
section
variable {P:d_}{w:ee}{H H':Hp}{h h':f'}{a C dx:cq}{fs fs':List (Str×V)}
theorem Cd(Z:fY P w H h)(e:H a=ar (.ins C dx fs)):∃mA,ObjM h a dx C mA/\(∀f,yY (fs.lookup f) (mA f))/\PySem.Within mA (fs.map (·.1))/\fs.length<=1000/\H dx=ar (.own a):=by obtain⟨d,z,ne,Y,mA,n,r,q⟩:=(show bK P w H h a (.ins C dx fs)from Z a _ e);exact⟨mA,⟨Y,n,ne⟩,r,q,z,d⟩
end
structure Cls(K:dn)(C:cq):Prop where
 pg:W.plainGet K C Str.empty=b'
 hd:W.hasDictIn K C=b'
 po:W.plainOver K C=b'
 sa:J_ K (.ref C) "__setattr__"=ar (ar (.builtin "object.__setattr__"))
theorem Cls.get{K:dn}{C:cq}(c:Cls K C)(f:Str):W.plainGet K C f=true:=c.pg
structure Con(K:dn)(C:cq)(f:Str)(v:V)(u:b_):Prop where
 at_:J_ K (.ref C) f=ar (ar u)
 rel:RelV v u
 get:W.specialIn K u "__get__"=ar aC
 cp:W.copiedNames.contains f=dr
structure Meth(K:dn)(C:cq)(m:Str)(f:cq):Prop where
 at_:J_ K (.ref C) m=ar (ar (.ref f))
 fn:W.isFn K (.ref f)=b'
 kp:rA K (.ref f)=b'
section
variable {X:Cx}{pins:List (cq×Obj)}{σ:St}{H:Hp}{s:c_}{a C dx:cq}{fs:List (Str×V)}{f:Str}{v:V}{A:iB}{E:b_->c_->Prop}
end
section
variable {X:Cx}{o e value:Expr}{f:Str}{pos pos' tpos:Pos}{ta tv:TE}
end
section
variable {X:Cx}{pins:List (cq×Obj)}{σ:St}{H:Hp}{s:c_}{A:iB}{E:b_->c_->Prop}{Q:b_->c_->Prop}{c:b_}{b:Bool}
inductive TyOf(K:dn)(H:Hp):V->b_->Prop where
 |non:TyOf K H .non (.type "NoneType")
 |bl (x:Bool):TyOf K H (.bl x) (.type "bool")
 |int (i:Int):TyOf K H (.int i) (.type "int")
 |str (x:Str):TyOf K H (.str x) (.type "str")
 |flt (x:UInt64):TyOf K H (.flt x) (.type "float")
 |lst {a:cq} {xs:List V} (e:H a=ar (.lst xs)):TyOf K H (.ref a) (.type "list")
 |frz {a:cq} {o:Obj} {xs:List V} (e:H a=ar (.frz o (.lst xs))):TyOf K H (.ref a) (.type "list")
 |tup {a:cq} {xs:List V} (e:H a=ar (.tup xs)):TyOf K H (.ref a) (.type "tuple")
 |dK {a:cq} {kvs:List (Key×V)} (e:H a=ar (.dK kvs)):TyOf K H (.ref a) (.type "dict")
 |dT {a:cq} {kvs:List (List Key×V)} (e:H a=ar (.dT kvs)):TyOf K H (.ref a) (.type "dict")
 | ins {a C dx:cq} {fs:List (Str×V)} (e:H a=ar (.ins C dx fs)) (cl:Cls K C) (ha:J_ K (.ref C) "__class__"=ar (ar (.builtin "object.__class__")))
   (hn:W.specialIn K (.builtin "object.__class__") "__get__"=ar (ar (.builtin "getset_descriptor.__get__"))) (htk:W.takesIn K (.builtin "object.__class__")=ar b')
   (hm:W.mroIn K C (.type "object")=ar b'):TyOf K H (.ref a) (.ref C)
theorem xG(I:Inv X pins σ H s)(Z:RelV x u)(S:TyOf X.K H x t)(e:y1 X.K t c=ar b)(h:∀tk,Q (.bool b) {s with toks:=tk}):
  ed (e_ X.prog X.w) A (call (.builtin "isinstance") [u,c]) Q E s:=by
 cases S with
 |non=>cases (show u=j0 from Z);exact KO W.kitx_none I.kIn K' e (λz=>nomatch z) h
 |bl y=>cases (show u=sh y from Z);exact KO W.kitx_bool I.kIn K' e (λz=>nomatch z) h
 |int i=>obtain⟨t,q⟩:=(show ∃t,u=u4 i t from Z);cases q;exact KO W.kitx_int I.kIn K' e (λz=>nomatch z) h
 |str y=>obtain⟨t,q⟩:=(show ∃t,u=NQ y t from Z);cases q;exact KO W.kitx_str I.kIn K' e (λz=>nomatch z) h
 |flt y=>obtain⟨t,q⟩:=(show ∃t,u=Value.float y t from Z);cases q;exact KO W.kitx_float I.kIn K' e (λz=>nomatch z) h
 | @lst a xs ea=>
  cases (show u=hF a from Z);obtain⟨_,_,n,_,Y⟩:=(show bK X.prog X.w H s.heap a (.lst xs)from I.hok a _ ea);exact KO W.kitx_list I.kIn ⟨_,Y,rfl⟩ e (λz=>nomatch z) h
 | @frz a ob xs ea=>
  cases (show u=hF a from Z);obtain⟨_,_,_,n,_,Y⟩:=(show bK X.prog X.w H s.heap a (.frz ob (.lst xs))from I.hok a _ ea);exact KO W.kitx_list I.kIn ⟨_,Y,rfl⟩ e (λz=>nomatch z) h
 | @tup a xs ea=>
  cases (show u=hF a from Z);obtain⟨_,_,_,p⟩:=(show bK X.prog X.w H s.heap a (.tup xs)from I.hok a _ ea);obtain⟨o,Y,U,_⟩:=p;exact KO W.kitx_tuple I.kIn ⟨o,Y,U⟩ e (λz=>nomatch z) h
 | @dK a kvs ea=>
  cases (show u=hF a from Z);obtain⟨_,_,vs,_,p⟩:=(show bK X.prog X.w H s.heap a (.dK kvs)from I.hok a _ ea);obtain⟨o,es,T,Y,U,_⟩:=p;exact KO W.kitx_dict I.kIn ⟨o,Y,U.1⟩ e (λz=>nomatch z) h
 | @dT a kvs ea=>
  cases (show u=hF a from Z);obtain⟨_,_,xs,_,o,es,T,Y,U,_⟩:=(show bK X.prog X.w H s.heap a (.dT kvs)from I.hok a _ ea);exact KO W.kitx_dict I.kIn ⟨o,Y,U.1⟩ e (λz=>nomatch z) h
 | @ins a C dx fs ea cl ha hn htk hm=>
  cases (show u=hF a from Z);obtain⟨mA,O,_⟩:=Cd I.hok ea;obtain⟨R,J,_⟩:=O.look;exact KO (W.kitx_own (cl.get _) cl.hd ha hn htk hm) I.kIn J e (λz=>nomatch z) h
end
structure Room(k:Nat)(A:iB):Prop where
 hd:A.handled=aC
 dp:A.depth+3*k+5<recursionLimit
 un:A.units+16*k+200<EA
theorem Room.mono(r:Room k A)(h:j<=k):Room j A:=⟨r.hd,by have:=r.dp;omega,by have:=r.un;omega⟩
theorem Room.deeper(r:Room (k+1) A)(env:Env):Room k (A.deeper env):=
 ⟨r.hd,by have:=r.dp;show A.depth+1+3*k+5<_;omega,by have:=r.un;show A.units+3+16*k+200<_;omega⟩
theorem uE{A:iB}:(A.under (.builtin "type.__call__" ⟨.ref C::us,kw⟩)).depth=A.depth+1:=by first|rfl|simp[ND,Code.weight,Code.isCreation,Code.isGuard,Code.isCaller,Code.frames,NF,guardIds]
theorem uF{A:iB}:(A.under (.builtin "type.__call__" ⟨.ref C::us,kw⟩)).units=A.units+1:=by first|rfl|simp[ND,Code.cUnits,Code.frames,NF]
theorem Room.make(r:Room (k+1) A)(C:cq)(us:List b_)(Z:List (Str×b_)):Room k (A.under (.builtin "type.__call__" ⟨.ref C::us,Z⟩)):=
 ⟨r.hd,by have:=r.dp;rw[uE];omega,by have:=r.un;rw[uF];omega⟩
theorem Room.depth(r:Room k A):A.depth<recursionLimit:=by have:=r.dp;omega
def ID:TA:=λ_ H Q=>Q [] H
def GH(ta:TE)(tr:TA):TA:=λσ H Q=>ta σ H λx H1=>tr σ H1 λxs H2=>Q (x::xs) H2
section
variable {X:Cx}{e:Expr}{es:List Expr}{te:TE}{t:TA}{pos:Pos}
theorem uG:PA X [] ID:=λ_ _ _ _ H Q I h=>Calls.spliced_nil ⟨[],H,I,.nil,h⟩
theorem mQ(Z:PE X e te)(Y:PA X es t)(hs:dt (e::es) X.env=(dr,i4 e X.env)::dt es X.env:=by rfl):PA X (e::es) (GH te t):=by intro pos pins s σ H Q I h;rw[hs];show ed _ _ (spliced ((dr,i4 e X.env)::lx pos (dt es X.env))) _ _ s;refine Calls.spliced_cons (dq (Z pins s σ H _ I h) λu s1 ⟨x,H1,I1,r1,q1⟩=>?_);exact dq (Y pos pins s1 σ H1 _ I1 q1) λus s2 ⟨xs,H2,I2,r2,q2⟩=>⟨x::xs,H2,I2,.cons r1 r2,q2⟩
def IE(t:TA):TE:=λσ H Q=>t σ H λxs H1=>xs.length<=sizeLine/\∀p,H1 p=aC->Q (.ref p) (upd H1 p (.tup xs))
def IF(t:TA):TE:=λσ H Q=>t σ H λxs H1=>xs.length<=sizeLine/\∀p,H1 p=aC->Q (.ref p) (upd H1 p (.lst xs))
theorem EC{x1}(h:PA X es t):PE X (.Tuple es x1 pos) (IE t):=by intro pins s σ H Q I Z;refine wpAny_Tuple_spliced (dq (h pos pins s σ H _ I Z) λus s1 ⟨xs,H1,I1,r,z,q⟩=>⟨by rw[<-r.length];exact z,?_⟩);have hf:H1 s1.heap.objs.size=none:=I1.hok.fresh (JQ _);refine⟨.ref s1.heap.objs.size,upd H1 s1.heap.objs.size (.tup xs),I1.laid (t':=s1.toks) (λb u e=>JO _ e) (JQ _) ?_,rfl,q _ hf⟩;exact⟨qC z,us,r,⟨_,J0 _ rfl,rfl,_,rfl⟩⟩
theorem ED(h:PA X es t):PE X (.List es pos) (IF t):=by intro pins s σ H Q I Z;refine wpAny_List_spliced (dq (h pos pins s σ H _ I Z) λus s1 ⟨xs,H1,I1,r,z,q⟩=>⟨by rw[<-r.length];exact z,?_⟩);have hf:H1 s1.heap.objs.size=none:=I1.hok.fresh (JQ _);refine⟨.ref s1.heap.objs.size,upd H1 s1.heap.objs.size (.lst xs),I1.laid (t':=s1.toks) (λb u e=>JO _ e) (JQ _) ?_,rfl,q _ hf⟩;exact⟨z,us,0,r,J0 _ rfl⟩
end
abbrev Sp:=List V->Hp->VK->XK->Prop
abbrev yS:=List Env->Hp->c_->XK->b_->c_->Prop
structure aA(P:d_)(w:ee)(K:dn)(mg:Str->Option b_)(base:f')(A:iB)(outer:List Env)(s:c_)(H:Hp):Prop where
 frames:A.frames=ar outer
 mod:Mod K mg base
 bs:∀b o,base.get? b=ar o->s.heap.get? b=ar o/\H b=aC
 bsz:base.objs.size<=s.heap.objs.size
 funs:s.heap.FunFrames base outer
 frf:∀b∈jU outer,H b=aC
 hok:fY P w H s.heap
 bare:w_ s.gens
def CE(outer:List Env)(P:d_)(w:ee)(H:Hp)(s:c_)(Q:VK)(u:b_)(s':c_):Prop:=
 ∃v H',s'.os=s.os/\w_ s'.gens/\Un (jU outer) [] H H' s.heap s'.heap/\fY P w H' s'.heap/\RelV v u/\Q v H'
def CR(CX:yS)(outer:List Env)(P:d_)(w:ee)(H:Hp)(s:c_)(Q:VK)(E:XK)(r:Oq)(s':c_):Prop:=
 match r with
 | .ok (.ret u)=>CE outer P w H s Q u s'
 | .ok _=>False
 | .error e=>CX outer H s E e s'
structure FnOk(P:d_)(w:ee)(K:dn)(mg:Str->Option b_)(base:f')(CX:yS)(k:Nat)(f:cq)(fd:f_)(ps:List Str)(sp:Sp):Prop where
 len:∀vs H Q E,sp vs H Q E->vs.length=ps.length
 run:∀(A:iB) (outer:List Env) (s:c_) (H:Hp) (args:Args) (us:List b_) (vs:List V) (Q:VK) (E:XK),Room k A->aA P w K mg base A outer s H->EW s fd args (ps.zip us)->bh vs us->sp vs H Q E->
  r_ (e_ P w) A (.call (.ref f) args) (CR CX outer P w H s Q E) s
theorem aA.make{P:d_}{w:ee}{K:dn}{Z:Str->Option b_}{base:f'}{A:iB}{outer:List Env}{s:c_}{H:Hp}(e:aA P w K Z base A outer s H)(C:cq)(us:List b_)(Y:List (Str×b_)):
  aA P w K Z base (A.under (.builtin "type.__call__" ⟨.ref C::us,Y⟩)) outer s H:=⟨by first|exact e.frames|(simpa [ND,Code.envs,NF,pushEnvs]using e.frames),e.mod,e.bs,e.bsz,e.funs,e.frf,e.hok,e.bare⟩
section
variable {X:Cx}{pins:List (cq×Obj)}{σ:St}{H:Hp}{s s':c_}
theorem Inv.env0(I:Inv X pins σ H s):aA X.prog X.w X.K X.mg X.base X.A X.stack s H:=
 ⟨I.ok.frames,I.ok.mod,I.bs,JX I.ok.bsz I.sz,I.stack,I.stkFree,I.hok,I.bare⟩
theorem Inv.after(I:Inv X pins σ H s)(h:CE X.stack X.prog X.w H s Q u s'):EP X pins σ Q u s':=by obtain⟨v,W,os,bare,un,Z,r,q⟩:=h;obtain⟨U,g,d,t,Y⟩:=s';obtain rfl:Y=s.os:=os;exact⟨v,W,I.call (h':=U) (g':=g) (d':=d) (t':=t) (ch:=[]) un Z bare (λb z=>absurd z (by simp)),r,q⟩
end
def GI(sp:Sp)(dvs:List V)(E:XK)(t:TA):TE:=λσ H Q=>t σ H λvs H1=>sp (vs++dvs) H1 Q E
def Binds(K:dn)(fd:f_)(ps:List Str)(ds:List b_):Prop:=
 ∀(s:c_) (us:List b_),K.In s.heap->(us++ds).length=ps.length->EW s fd ⟨us,[]⟩ (ps.zip (us++ds))
theorem Binds.all{K:dn}{X:f_}{Z:List Str}(h:∀us:List b_,us.length=Z.length->bindArgs X ⟨us,[]⟩=a_ (Z.zip us)):Binds K X Z []:=λs us _ Y=>by rw[Ky]at Y⊢;exact .of_eq (h us Y)
def nj(CX:yS)(X:Cx)(E:XK):Prop:=∀(pins:List (cq×Obj)) (σ:St) (H:Hp) (s:c_) (e:b_) (s':c_),Inv X pins σ H s->CX X.stack H s E e s'->X.xe e s'
section
variable {X:Cx}{CX:yS}{k:Nat}{f C:cq}{fd:f_}{ps:List Str}{sp:Sp}{dvs:List V}{ds:List b_}{E:XK}{x m:Str}{p pos apos:Pos}{e o:Expr}{es:List Expr}{ta:TE}{t:TA}
theorem EE(F:FnOk X.prog X.w X.K X.mg X.base CX k f fd ps sp)(S:Room k X.A)(W:Binds X.K fd ps ds)(T:bh dvs ds)(R:nj CX X E)
  (I:Inv X pins σ H s) (r:bh vs us) (h:sp (vs++dvs) H Q E):ed (e_ X.prog X.w) X.A (call (.ref f) us) (EP X pins σ Q) X.xe s:=by
 have Y:bh (vs++dvs) (us++ds):=r.append T;have U:(us++ds).length=ps.length:=by rw[<-Y.length];exact F.len _ _ _ _ h
 refine Nj (L9 (F.run X.A X.stack s H ⟨us,[]⟩ (us++ds) (vs++dvs) Q E S I.env0 (W s us I.kIn U) Y h) λr s' Z=>?_);cases r with
 |error e=>exact R pins σ H s e s' I Z
 |ok fl=>
  cases fl with
  |ret u=>exact I.after Z
  |next=>exact iA Z
  |brk=>exact iA Z
  |cont=>exact iA Z
theorem wa(F:FnOk X.prog X.w X.K X.mg X.base CX k f fd ps sp)(R:Room k X.A)(N:Gl X x)(L:X.mg x=ar (.ref f))(O:rA X.K (.ref f)=b')(U:Binds X.K fd ps ds)(J:bh dvs ds)(T:nj CX X E)
  (P:PA X (e::es) t) (Y:(x==("__debug__":Str))=false:=by decide) (S:dt (e::es) X.env=(dr,i4 e X.env)::dt es X.env:=by rfl) (Z:(lx pos (dt es X.env)).any (·.1)=false:=by rfl):
  PE X (.Call (.Name x p) (e::es) [] pos) (GI sp dvs E t):=by
 intro pins s σ H Q I h;refine LR (jx I N L ?_ Y);refine W.callWith_K (h₀:=X.base) I.ok.mod.kin O (dq (P pos pins s σ H _ I h) λus s1 ⟨vs,H1,I1,r,q⟩=>⟨I1.kIn,?_⟩) S Z;exact EE F R U J T I1 r q
structure Mk(K:dn)(C f:cq):Prop where
 makes:W.makesIn K C=b'
 init:J_ K (.ref C) "__init__"=ar (ar (.ref f))
 fn:W.isFn K (.ref f)=b'
 kp:rA K (.ref C)=b'
end
section
variable {X:Cx}{CX:yS}{k:Nat}{f C:cq}{fd:f_}{ps ks:List Str}{sp:Sp}{E:XK}{x m:Str}{p pos apos kpos:Pos}{e o:Expr}{es:List Expr}{kws:List N5}{te ta:TE}{t tk:TA}{nm:Option Str}
structure KBinds(K:dn)(fd:f_)(ps ks:List Str)(g:List b_->List b_->List b_)(gV:List V->List V->List V):Prop where
 to:∀(s:c_) (us ws:List b_),K.In s.heap->(g us ws).length=ps.length->EW s fd ⟨us,ks.zip ws⟩ (ps.zip (g us ws))
 rel:∀{vs:List V} {us:List b_} {zs:List V} {ws:List b_},bh vs us->bh zs ws->bh (gV vs zs) (g us ws)
variable {g:List b_->List b_->List b_}{gV:List V->List V->List V}
end
structure FnScope(N P:List Str)(sc:Scope):Prop where
 kind:sc.kind= .function
 co:sc.isCoroutine=dr
 gen:sc.isGenerator=dr
 nd:N.Nodup
 pre:N.take P.length=P
 par:∀x∈P,sc.names.lookup x=ar .local\/sc.names.lookup x=ar .cell
 nofree:∀y∈sc.names,y.2≠ .free
theorem pK{Z:Str->Option k6}{x:Str}:∀{binds:List (Str×b_)} {m:Str->Option b_},(∀v,(x,v)∉binds)->Oa Z binds m x=m x
 |[],_,_=>rfl
 | (n,v)::r,m,h=>by
  unfold Oa;rw[pK λw hw=>h w (JZ _ hw)];split
  ·have:x≠n:=by rintro rfl;exact h v J9
   simp[this]
  ·rfl
theorem pL{Z:Str->Option k6}{x:Str}:∀{binds:List (Str×b_)} {m:Str->Option b_},(∀v,(x,v)∉binds)->Ob Z binds m x=m x
 |[],_,_=>rfl
 | (n,v)::r,m,h=>by
  unfold Ob;rw[pL λw hw=>h w (JZ _ hw)];split
  ·rfl
  ·have:x≠n:=by rintro rfl;exact h v J9
   simp[this]
theorem pM{Z:Str->Option k6}:∀{P:List Str} {vs:List b_} {i:Nat} {m:Str->Option b_},P.Nodup->P[i]? =ar x->vs[i]? =ar v->Z x=ar .local->
  Oa Z (P.zip vs) m x=ar v
 |[],_,_,_,_,h,_,_=>by simp at h
 |_::_,[],_,_,_,_,h,_=>by simp at h
 |p::P,w::vs,0,m,nd,h1,h2,hk=>by
  simp at h1 h2;subst h1;subst h2;show Oa Z ((p,w)::P.zip vs) m p=_;unfold Oa;rw[pK λv Y=>(Kz.mp nd).1 (LS Y).1,if_pos hk];simp
 |p::P,w::vs,i+1,m,nd,h1,h2,hk=>by
  show Oa Z ((p,w)::P.zip vs) m x=_;unfold Oa;exact pM (i:=i) (Kz.mp nd).2 (by simpa using h1) (by simpa using h2) hk
theorem pN{Z:Str->Option k6}:∀{P:List Str} {vs:List b_} {i:Nat} {m:Str->Option b_},P.Nodup->P[i]? =ar x->vs[i]? =ar v->Z x≠ar .local->
  Ob Z (P.zip vs) m x=ar v
 |[],_,_,_,_,h,_,_=>by simp at h
 |_::_,[],_,_,_,_,h,_=>by simp at h
 |p::P,w::vs,0,m,nd,h1,h2,hk=>by
  simp at h1 h2;subst h1;subst h2;show Ob Z ((p,w)::P.zip vs) m p=_;unfold Ob;rw[pL λv Y=>(Kz.mp nd).1 (LS Y).1,if_neg hk];simp
 |p::P,w::vs,i+1,m,nd,h1,h2,hk=>by
  show Ob Z ((p,w)::P.zip vs) m x=_;unfold Ob;exact pN (i:=i) (Kz.mp nd).2 (by simpa using h1) (by simpa using h2) hk
def start(N:List Str)(vs:List V):St:=vs.map ar++eb (N.length - vs.length) aC
def lC(CX:yS)(P:d_)(w:ee)(K:dn)(mg:Str->Option b_)(base:f')(N:List Str)(qual:Str)(scope:Scope)(f:cq)(cd:b_)(A:iB)(outer:List Env)(s:c_)(H:Hp)(E:XK):Cx where
 prog:=P
 w:=w
 K:=K
 mg:=mg
 base:=base
 A:=A.deeper (A' qual scope s.heap.objs.size f cd)
 N:=N
 s₀:=s
 H₀:=H
 env:=A' qual scope s.heap.objs.size f cd
 outer:=outer
 stack:=A' qual scope s.heap.objs.size f cd::outer
 ex:=[]
 calm:=b'
 fn:=λ_=>b'
 pn:=[]
 xe:=λe s'=>ed (e_ P w) (A.deeper (A' qual scope s.heap.objs.size f cd)) (NG (A' qual scope s.heap.objs.size f cd) e) (λ_ s''=>CX outer H s E e s'') (λe' s''=>CX outer H s E e' s'') s'
theorem sA{Z:Scope}(h:Z.names.lookup x=ar .cell):∃c,(j1 n Z.names []).lookup x=ar c:=by have q:=L3 Z.names n [] (.inl h);exact Ll.mp q
theorem xH{B:yS}{P:d_}{w:ee}{K:dn}{I:Str->Option b_}{base:f'}{N T:List Str}{qual:Str}{scope:Scope}{f:cq}{L:b_}{A:iB}{outer:List Env}{s G:c_}{H:Hp}{E:XK}{us:List b_}{vs:List V}
  (S:FnScope N T scope) (o:A.handled=aC) (Y:aA P w K I base A outer s H) (d:vs.length=T.length) (r:bh vs us)
  (x:InCallC s s.heap.objs.size (Oa (A' qual scope s.heap.objs.size f L).kindOf (T.zip us) λ_=>aC) (j1 (s.heap.objs.size+1) scope.names []) (Ob (A' qual scope s.heap.objs.size f L).kindOf (T.zip us) λ_=>aC) G):
  Inv (lC B P w K I base N qual scope f L A outer s H E) [] (start N vs) H G:=by
 have m:T.length<=N.length:=by have:=MS List.length S.pre;rw[LG]at this;omega
 obtain⟨O,g,rfl,F⟩:=x.done;have X:∀b:cq,b∉(lC B P w K I base N qual scope f L A outer s H E).ex:=λb z=>absurd (show b∈([]:List cq)from z) (by simp);refine⟨⟨Y.mod,S.kind,rfl,rfl,JQ _,λy z c O Z=>?_,λy U=>?_,λy c _ h=>?_,λ_=>o,Around.frames_deeper Y.frames,.inr ⟨rfl,rfl⟩,λb z=>absurd z (X b),Y.bs,Y.bsz,λb _ _=>X b,λb z=>absurd z (X b),Y.funs,Y.frf⟩,
  rfl,Y.bare,Un.kept F,⟨_,x.toInCall.ns,λi y v O Z j=>?_⟩,λy c h=>⟨_,x.cell y c h⟩,Y.hok.fresh (JQ _),λy c h=>?_,λp Q=>absurd (show p∈([]:List (cq×Obj))from Q) (by simp),Y.hok.kept F,?_⟩
 ·exact name_of_addr x.apart (Lo O) (Lo Z)
 ·have U:scope.names.lookup y=ar .cell\/scope.names.lookup y=ar .free:=U;rcases U with U|U
  ·exact sA U
  ·exact absurd rfl (S.nofree _ (Lo U))
 ·exact LM (x.above y c (Lo h))
 ·have J:i<vs.length:=by
   unfold start at Z;by_cases J:i<vs.length
   ·exact J
   ·rw[Mw (by simpa using J)]at Z;rw[List.getElem?_replicate]at Z;split at Z<;>cases Z
  have l:vs[i]? =ar v:=by
   unfold start at Z;rw[Kq (by simpa using J),Km]at Z;cases e:vs[i]? with
   |none=>rw[e]at Z;cases Z
   |some a=>rw[e]at Z;cases Z;rfl
  obtain⟨u,C,t⟩:=r.get l;have Q:T[i]? =ar y:=by rw[<-S.pre,List.getElem?_take_of_lt (by omega)];exact O
  have R:T.Nodup:=by rw[<-S.pre];exact S.nd.sublist (List.take_sublist _ _)
  refine⟨u,t,?_⟩;rcases S.par y (Kn Q)with k|k
  ·exact .inl ⟨k,pM R Q C k⟩
  ·obtain⟨c,e⟩:=sA (n:=s.heap.objs.size+1) k;refine .inr ⟨.inl k,c,e,?_⟩;have q:=x.cell y c e;rw[pN R Q C (by show scope.names.lookup y≠_;rw[k];decide)]at q;exact q
 ·exact Y.hok.fresh (LM (x.above y c (Lo h)))
 ·unfold start;show _=N.length;rw[JW,JN,List.length_replicate];omega
theorem Dy{B:yS}{P:d_}{w:ee}{K:dn}{F:Str->Option b_}{base:f'}{k:Nat}{f:cq}{name qual:Str}{params:Nu}{body:List nf}{scope:Scope}{g kV L j Z ct c:b_}{h a:Option cq}
  {m:Array (Option b_)} {N C:List Str} {sp:Sp} (d:K.lookup f=ar ⟨c,a,.func (w7 name qual params body scope g kV L j h Z ct),m⟩) (p:Nl K Z qual=b') (S:FnScope N C scope)
  (O:∀vs H Q E,sp vs H Q E->vs.length=C.length)
  (T:∀(A:iB) (outer:List Env) (s:c_) (H:Hp) (vs:List V) (Q:VK) (E:XK),Room k (A.deeper (A' qual scope s.heap.objs.size f Z))->sp vs H Q E->
   ∃t,oV (lC B P w K F base N qual scope f Z A outer s H E) body t/\t {nx:=λ_ X=>Q .non X,rt:=Q} (start N vs) H):
  FnOk P w K F base B (k+1) f (w7 name qual params body scope g kV L j h Z ct) C sp:=by
 refine⟨O,λA outer s H args us vs Q E l R hb r G=>?_⟩;have hl:=O _ _ _ _ G;have i:K.In s.heap:=R.mod.kin.keeps λb o e=>(R.bs b o e).1;have lim:s.heap.NoLimit:=R.mod.nolimit.keeps λb o e=>(R.bs b o e).1;have U:∀y∈C.zip us,scope.names.lookup y.1=ar .local\/(scope.names.lookup y.1=ar .cell/\((j1 (s.heap.objs.size+1) scope.names []).lookup y.1).isSome=b'):=λ⟨n,v⟩ hy=>by
  rcases S.par n (LS hy).1 with q|q
  ·exact .inl q
  ·exact .inr ⟨q,L3 _ _ _ (.inl q)⟩
 refine codeAny_call_function l.depth (i _ _ d) rfl S.co S.gen rfl (W.codeRec_of i p) (hb _ _ _ _ ?_);refine wpAny_newFunctionEnv_cells S.kind U λenv he s1 x=>?_;subst he;refine⟨lim.keeps x.toInCall.keep,codeAny_func ?_⟩;obtain⟨t,ht,hq⟩:=T A outer s H vs Q E (l.deeper _) G;have I:Inv (lC B P w K F base N qual scope f Z A outer s H E) [] (start N vs) H s1:=xH S l.hd R hl r x;refine Kb (ht [] s1 (start N vs) H _ I hq) (λfl s' hs=>?_) λe s' hs=>hs;have fin:∀{Y:St} {X:Hp} {v:V} {u:b_},Inv (lC B P w K F base N qual scope f Z A outer s H E) [] Y X s'->RelV v u->Q v X->CE outer P w H s Q u s':=
  λ{Y X v u} J z q=>⟨v,X,J.os,J.bare,J.base,J.hok,z,q⟩
 cases fl with
 |ret u=>
  obtain⟨v,Y,X,J,z,q⟩:=hs;exact fin J z q
 |next=>
  obtain⟨Y,X,J,q⟩:=hs;exact fin (v:=V.non) (u:=j0) J rfl q
 |brk=>
  obtain⟨_,_,_,q⟩:=hs;exact iA q
 |cont=>
  obtain⟨_,_,_,q⟩:=hs;exact iA q
section
variable {X:Cx}{x:Str}{p pos:Pos}{e:Expr}{es:List Expr}{t:TA}{id T:String}{r:List V->Hp->VK->Prop}
def IG(r:List V->Hp->VK->Prop)(t:TA):TE:=λσ H Q=>t σ H λvs H1=>r vs H1 Q
theorem sC(S:dM X (.builtin id) r)(P:Gl X x)(O:X.mg x=aC)(N:k4 x=ar (.builtin id))(R:PA X (e::es) t)(W:x≠"__name__":=by decide)(Y:(x==("__debug__":Str))=false:=by decide)
  (U:dt (e::es) X.env=(dr,i4 e X.env)::dt es X.env:=by rfl) (Z:(lx pos (dt es X.env)).any (·.1)=false:=by rfl):PE X (.Call (.Name x p) (e::es) [] pos) (IG r t):=by
 intro pins s σ H Q I h;refine LR (lz I P O N ?_ W Y);exact PyProof.Rows.callWith_builtin1 (dq (R pos pins s σ H _ I h) λus s1 ⟨vs,H1,I1,r1,q1⟩=>S pins s1 σ H1 vs us Q I1 r1 q1) U Z
theorem lD(S:dM X (.type T) r)(P:Gl X x)(O:X.mg x=aC)(N:k4 x=ar (.type T))(R:PA X (e::es) t)(W:x≠"__name__":=by decide)(Y:(x==("__debug__":Str))=false:=by decide)
  (U:dt (e::es) X.env=(dr,i4 e X.env)::dt es X.env:=by rfl) (Z:(lx pos (dt es X.env)).any (·.1)=false:=by rfl):PE X (.Call (.Name x p) (e::es) [] pos) (IG r t):=by
 intro pins s σ H Q I h;refine LR (lz I P O N ?_ W Y);exact K5 (dq (R pos pins s σ H _ I h) λus s1 ⟨vs,H1,I1,r1,q1⟩=>S pins s1 σ H1 vs us Q I1 r1 q1) U Z
end
end L2
namespace HT
open PySem PyProof.Rows
def lexLt:List Int->List Int->Bool
 |[],[]=>dr
 |[],_::_=>b'
 |_::_,[]=>dr
 |x::xs,y::ys=>if x=y then lexLt xs ys else decide (x<y)
theorem lexLt_cons(x y:Int)(xs ys:List Int):lexLt (x::xs) (y::ys)=if x=y then lexLt xs ys else decide (x<y):=rfl
theorem oX:lexLt [] []=false:=rfl
theorem nk(y:Int)(ys:List Int):lexLt [] (y::ys)=true:=rfl
theorem nq(x:Int)(xs:List Int):lexLt (x::xs) []=false:=rfl
theorem zv(A:iB)(s:c_)(a:Int)(t:Tok)(c:Int)(u:Tok):∃e,SeqAt.EqAt A s (.int a t) (.int c u) e/\(e=b'↔a=c):=
 ⟨(a==c),SeqAt.EqAt.int_int a t c u,by simp⟩
theorem zw(A:iB)(s:c_)(a:Int)(t:Tok)(c:Int)(u:Tok)(prog:d_)(w:ee)(E:b_->c_->Prop)(Q:b_->c_->Prop)(h:Q (.bool (decide (a<c))) s):
  ed (e_ prog w) A (richCompare .Lt (.int a t) (.int c u)) Q E s:=
 (PyProof.Rows.lt_int h:ed (e_ prog w) A (i' .Lt (.int a t) (.int c u)) Q E s)
section
open PySem.SeqAt
open PySem.AutoSeq1 (wpAny_loadPart')
open PySem.MeetsSeq PySem.MeetsSeq2 PySem.MeetsSeq3
theorem oY(l b:cq)(items Z:Array b_)(n J:Nat)(dd S:Option cq)(I Q:Array (Option b_))(ns W:List Int)(N:la items.toList ns)(O:la Z.toList W):
  Meets (Builtin.«tuple.__lt__» ⟨[.ref l,.ref b],[]⟩)
   (λ_ R s=>s.heap.get? l=ar {cls:=.type "tuple",dict:=dd,data:=.seq items n,slots:=I}/\s.heap.get? b=ar {cls:=.type "tuple",dict:=S,data:=.seq Z J,slots:=Q}/\
    R (.ok (.ret (.bool (lexLt ns W)))) s):=
 .of_wp λprog w A R s h=>by
  obtain⟨U,g,d,X,os⟩:=s;obtain⟨K,L,h⟩:=h;have f2:=AutoSeq1.sub_tuple_tuple;have G:items.size=ns.length:=by rw[<-N.length];simp
  have H:Z.size=W.length:=by rw[<-O.length];simp
  wp_walk using wpAny_loadPart' K,wpAny_loadPart' L,wpAny_forIn_list _ (λrest b s'=>b.1=aC/\s'=⟨U,g,d,X,os⟩/\∃(vs ws:List b_) (ns' ms':List Int),rest=vs.zip ws/\
   la vs ns'/\la ws ms'/\ns'.length+Z.size=ms'.length+items.size/\R (.ok (.ret (.bool (lexLt ns' ms')))) ⟨U,g,d,X,os⟩) _
  case turn=>
   rintro⟨y,x⟩ rest b s' ⟨hb',rfl,vs,ws,ns',ms',hz,hvi,hwi,hlen,hR⟩;cases hvi with
   |nil=>rw[List.zip_nil_left]at hz;cases hz
   | cons a t hvi'=>
    cases hwi with
    |nil=>rw[List.zip_nil_right]at hz;cases hz
    | cons c u hwi'=>
     rw[B_]at hz;injection hz with hyx hrest;injection hyx with hy hx;subst hy hx;rw[lexLt_cons]at hR;simp only[kS]at hlen;obtain⟨e,he,Y⟩:=zv A.in1 ⟨U,g,d,X,os⟩ a t c u;refine JM (he prog w _ _ ?_);cases e with
     |true=>
      rw[if_pos (Y.mp rfl)]at hR
      wp_walk
      exact⟨rfl,rfl,_,_,_,_,hrest,hvi',hwi',by omega,hR⟩
     |false=>
      rw[if_neg (λq=>absurd (Y.mpr q) KL)]at hR;have T:=zw A.in1 ⟨U,g,d,X,os⟩ a t c u prog w
      wp_walk using T
      exact⟨_,rfl,by simpa using hR⟩
  case fin=>
   rintro⟨b1,b2⟩ s' ⟨hb',rfl,vs,ws,ns',ms',hz,hvi,hwi,hlen,hR⟩;simp only at hb';subst hb';have P:lexLt ns' ms'=decide (items.size<Z.size):=by
    cases hvi with
    | nil=>
     cases hwi with
     |nil=>
      simp only[k_]at hlen;rw[oX];exact(J8 (by omega)).symm
     |cons c u hw=>
      simp only[k_,kS]at hlen;rw[nk];exact(JT (by omega)).symm
    | cons a t P=>
     cases hwi with
     |nil=>
      simp only[k_,kS]at hlen;rw[nq];exact(J8 (by omega)).symm
     |cons c u hw=>
      rw[B_]at hz;cases hz
   rw[P]at hR
   wp_walk
   exact⟨_,rfl,by simpa [Builtin.Tuple.tupleCompareSizes]using hR⟩
  case h=>
   exact⟨rfl,rfl,items.toList,Z.toList,ns,W,rfl,N,O,by omega,h⟩
end
section
variable {prog:d_}{w:ee}{A:iB}{E:b_->c_->Prop}{s:c_}
theorem lt_tupInts{Q:b_->c_->Prop}(N:Oj s.heap l items)(R:Oj s.heap b items2)(K:la items.toList ns)(O:la items2.toList ms)
  (P:A.units<EA) (h:Q (.bool (lexLt ns ms)) s):ed (e_ prog w) A (i' .Lt (.ref l) (.ref b)) Q E s:=by
 obtain⟨⟨cls,dd,data,J⟩,U,S,n,hd⟩:=id N;obtain⟨⟨T,X,data2,W⟩,Y,Z,L,hd2⟩:=id R;simp only at S hd Z hd2;subst S hd Z hd2;exact richCompare_meets_room (op:=.Lt) ⟨_,U,rfl⟩ ⟨_,Y,rfl⟩ PySem.F.slot_tuple_lt PySem.F.entry_tuple_lt (PySem.F.args_tuple_lt_2 _ _) (oY l b items items2 n L dd X J W ns ms K O)
  ⟨U,Y,show sh (lexLt ns ms)≠Value.notImplemented/\Q (.bool (lexLt ns ms)) s from⟨(λx=>nomatch x),h⟩⟩ P
theorem cat_tup{vs Z:List b_}{Q:b_->c_->Prop}(H:Oj s.heap t vs.toArray)(K:Oj s.heap b Z.toArray)(L:vs≠[])
  (J:Z=[]->Q (.ref t) s) (I:Z≠[]->Q (.ref s.heap.objs.size) {s with heap:=s.heap.push {cls:=.type "tuple",data:=.seq (vs++Z).toArray}})
  (S:vs.length+Z.length<=sizeLine):ed (e_ prog w) A (n_ .Add (.ref t) (.ref b)) Q E s:=by
 obtain⟨⟨cls,dd,data,N⟩,T,P,n,hd⟩:=id H;obtain⟨⟨R,U,data2,W⟩,Y,X,O,hd2⟩:=id K;simp only at P hd X hd2;subst P hd X hd2;have e:vs.toArray++Z.toArray=(vs++Z).toArray:=by simp
 by_cases hw:Z=[]
 ·exact NH ⟨_,T,rfl⟩ ⟨_,Y,rfl⟩ MX Nz L4 LU (LO _ _)
   (tuple_addW1 t b vs.toArray Z.toArray n O dd U N W (by simpa using L) (by simp[hw])) ⟨T,Y,J hw⟩
 ·refine NH ⟨_,T,rfl⟩ ⟨_,Y,rfl⟩ MX Nz L4 LU (LO _ _)
   (tuple_addW2 t b vs.toArray Z.toArray n O dd U N W (by simpa using L) (by simpa using hw) (by rw[JY,JY];exact S)) ⟨T,Y,?_⟩
  rw[e];exact I hw
def sIx(n d:Nat):Option Int->Nat
 |none=>d
 |some v=>if v<0 then (v+(n:Int)).toNat else min v.toNat n
theorem sIx_none(n d:Nat):sIx n d aC=d:=rfl
theorem sIx_nat(n d k:Nat):sIx n d (ar (k:Int))=min k n:=by show(if (k:Int)<0 then ((k:Int)+(n:Int)).toNat else min (k:Int).toNat n)=min k n;rw[if_neg (by omega),Ko]
theorem EF(n d:Nat)(Z:d<=n)(o:Option Int):sIx n d o<=n:=by
 cases o with
 |none=>exact Z
 |some v=>
  show(if v<0 then (v+(n:Int)).toNat else min v.toNat n)<=n;by_cases hv:v<0
  ·rw[if_pos hv];omega
  ·rw[if_neg hv];exact Nat.min_le_right _ _
theorem wb(v:Int)(n d:Nat):(if v<0 then max (v+(n:Int)) 0 else min v (n:Int))=((sIx n d (ar v):Nat):Int):=by
 show(if v<0 then max (v+(n:Int)) 0 else min v (n:Int))=(((if v<0 then (v+(n:Int)).toNat else min v.toNat n):Nat):Int);by_cases hv:v<0
 ·simp only[if_pos hv];omega
 ·simp only[if_neg hv];omega
theorem uH(Y Z:Option Int)(n:Nat):qt Y Z 1 (n:Int)=(((sIx n 0 Y:Nat):Int),((sIx n n Z:Nat):Int)):=by
 have X:¬ ((1:Int)<0):=by omega
 unfold qt;simp only[X,if_false];refine L8 ?_ ?_
 ·cases Y with
  |none=>rfl
  |some v=>exact wb v n 0
 ·cases Z with
  |none=>rfl
  |some v=>exact wb v n n
theorem uI(i j:Nat):l_ (i:Int) (j:Int) 1=j - i:=by
 unfold l_;have Z:(1:Int)>0:=by omega
 simp only[Z,if_true,Int.ediv_one];split<;>omega
theorem nu{Q:Option Int->c_->Prop}(p:NB v o)(h:Q o s):ed (e_ prog w) A (Builtin.Slice.slicePartIndex v) Q E s:=by
 cases p with
 |none=>exact slicePart_none h
 |int i t=>exact slicePart_int h
theorem sliceApplied_gen{S:cq}{U T:b_}{Z X:Option Int}{n:Nat}{Q:Int×Int×Nat->c_->Prop}(hs:s.heap.IsSliceOf S U T .none)(P:NB U Z)(R:NB T X)
  (h:Q (((sIx n 0 Z:Nat):Int),1,sIx n n X - sIx n 0 Z) s):ed (e_ prog w) A (Builtin.Slice.sliceApplied (.ref S) (a_ (n:Int))) Q E s:=by
 obtain⟨os,W,O,Y⟩:=id hs;unfold Builtin.Slice.sliceApplied Builtin.Slice.sliceFields;refine JM (JM (KB W Y (x:=U) rfl (JM (KB W Y (x:=T) rfl (JM (KB W Y (x:=.none) rfl (JR ?_)))))));refine JM (slicePart_none ?_);show ed _ _ (if ((1:Int)==0)=b' then _ else _) _ _ s;rw[if_neg (by decide)];refine JM (nu P (JM (nu R (JM (JR ?_)))));show ed _ _ (match qt Z X 1 (n:Int)with|(Z,X)=>a_ (Z,(1:Int),l_ Z X 1)) _ _ s;rw[uH Z X n];show ed _ _ (a_ (((sIx n 0 Z:Nat):Int),(1:Int),l_ ((sIx n 0 Z:Nat):Int) ((sIx n n X:Nat):Int) 1)) _ _ s;rw[uI];exact JR h
theorem zx(xs:Array b_)(i k:Nat):((dV k).filterMap λ(m:Nat)=>xs[((i:Int)+(m:Int)*1).toNat]?).toArray=((xs.toList.drop i).take k).toArray:=by
 have e:(λ(m:Nat)=>xs[((i:Int)+(m:Int)*1).toNat]?)=λm=>xs[i+m]? :=by
  funext m;have:((i:Int)+(m:Int)*1).toNat=i+m:=by omega
  rw[this]
 rw[e];have:=pick_run xs i k;rw[List.filterMap_map]at this;have e2:((λx=>xs[x]?)∘λx=>i+x)=λm=>xs[i+m]? :=rfl;rw[e2]at this;rw[this]
theorem getItem_tuple_cut{t P:cq}{items:Array b_}{N O:b_}{Y X:Option Int}{Q:b_->c_->Prop}(W:Oj s.heap t items)(hs:s.heap.IsSliceOf P N O .none)(H:NB N Y)(I:NB O X)
  (J:¬ (sIx items.size 0 Y=0/\sIx items.size items.size X=items.size))
  (h:Q (.ref s.heap.objs.size) {s with heap:=s.heap.push {cls:=.type "tuple",data:=.seq ((items.toList.drop (sIx items.size 0 Y)).take (sIx items.size items.size X - sIx items.size 0 Y)).toArray}})
  (K:items.size<=sizeLine):ed (e_ prog w) A (NI (.ref t) (.ref P)) Q E s:=by
 have Z:sizeOk (.seq ((items.toList.drop (sIx items.size 0 Y)).take (sIx items.size items.size X - sIx items.size 0 Y)).toArray):=by show((items.toList.drop (sIx items.size 0 Y)).take (sIx items.size items.size X - sIx items.size 0 Y)).toArray.size<=sizeLine;rw[JY,LG,Md,Mm];omega
 have C:sIx items.size items.size X<=items.size:=EF _ _ (JQ _) X;obtain⟨os,R,U,L⟩:=id hs;have T:s.TypeIs (.ref P) "slice":=⟨os,R,U⟩;unfold NI
 try with_reducible refine KY ?_
 first|refine JM (JR ?_)|skip
 refine JM (wpAny_sequenceKey W.typeIs (by decide) ?_);refine JM (wpAny_callSpecial?_slot (name:=i3 "__getitem__") W.typeIs KW
  (Ld KW W.typeIs entry_tuple_getitem ?_ (args_tuple_getitem _ _)))
 show ed _ _ (Builtin.Tuple.tupleItemsOf (.ref t)>>=_) _ _ s;refine JM (tupleItemsOf_ W ?_);refine JM (M3 T ?_);rw[if_pos (by decide)];refine JM (sliceApplied_gen hs H I ?_);have S:¬ ((((sIx items.size 0 Y:Nat):Int)==0 && (1:Int)==1 && (sIx items.size items.size X - sIx items.size 0 Y)==items.size)=b'):=by intro q;rw[KU,KU]at q;have G:((sIx items.size 0 Y:Nat):Int)=0:=eq_of_beq q.1.1;have F:sIx items.size items.size X - sIx items.size 0 Y=items.size:=eq_of_beq q.2;exact J ⟨by omega,by omega⟩
 show ed _ _ (if (((sIx items.size 0 Y:Nat):Int)==0 && (1:Int)==1 && (sIx items.size items.size X - sIx items.size 0 Y)==items.size)=b' then _ else _) _ _ s;rw[if_neg S,zx];first
  |exact JM (m:=mu _) (KG (JR ⟨_,rfl,JR h⟩) Z)
  |exact JM (m:=mu _) (KG (JM (JR (JR ⟨_,rfl,JR h⟩))) Z)
  |exact JM (JM (m:=mu _) (KG (JR (JR ⟨_,rfl,JR h⟩)) Z))
  |exact JM (JM (m:=mu _) (KG (JR ⟨_,rfl,JR h⟩) Z))
end
end HT
namespace L2
open PySem PySem.Spec PyProof.Rows
abbrev TO:=St->Hp->(Option Int->Hp->Prop)->Prop
def PO(X:Cx)(e:Option Expr)(t:TO):Prop:=
 ∀(pins:List (cq×Obj)) (s:c_) (σ:St) (H:Hp) (Q:Option Int->Hp->Prop),Inv X pins σ H s->t σ H Q->
  ed (e_ X.prog X.w) X.A (evalPart e X.env) (λu s'=>∃o H',Inv X pins σ H' s'/\NB u o/\Q o H') X.xe s
def Ce:TO:=λ_ H Q=>Q aC H
def GJ(t:TE):TO:=λσ H Q=>t σ H λx H1=>∃i,x= .int i/\Q (ar i) H1
theorem MJ{ns:List Int}:∀{us:List b_},bh (ns.map V.int) us->la us ns:=by
 induction ns with
 |nil=>intro us r;rw[Mz]at r;cases r;exact .nil
 | cons n ns ih=>
  intro us r;rw[Ke]at r;cases r with
  |cons r1 r2=>
   obtain⟨t,e⟩:=r1;subst e;exact .cons n t (ih r2)
section
variable {X:Cx}{e:Expr}{te:TE}{lo hi:Option Expr}{tl th:TO}{pos p2:Pos}
theorem Cf:PO X aC Ce:=by intro pins s σ H Q I h;rw[evalPart_none];exact JR ⟨aC,H,I,.none,h⟩
theorem Cg(h:PE X e te):PO X (ar e) (GJ te):=by intro pins s σ H Q I hw;rw[evalPart_some];refine dq (h pins s σ H _ I hw) λu s1 ⟨x,H1,I1,r1,q1⟩=>?_;obtain⟨i,rfl,q⟩:=q1;obtain⟨t,rfl⟩:=r1;exact⟨ar i,H1,I1,.int i t,q⟩
def Dz(X:Cx)(r:V->Option Int->Option Int->Hp->VK->Prop):Prop:=
 ∀(pins:List (cq×Obj)) (s:c_) (σ:St) (H:Hp) (x:V) (v vl vu:b_) (lo hi:Option Int) (sl:cq) (Q:VK),Inv X pins σ H s->RelV x v->s.heap.IsSliceOf sl vl vu .none->NB vl lo->NB vu hi->r x lo hi H Q->
  ∃T id,typeLookup (.type T) "__getitem__"=a_ (ar (.builtin id))/\s.TypeIs v T/\ed (e_ X.prog X.w) X.A (NI v (.ref sl)) (EP X pins σ Q) X.xe s
theorem Dz.or{r W:V->Option Int->Option Int->Hp->VK->Prop}(h:Dz X r)(h':Dz X W):Dz X (λx lo hi H Q=>r x lo hi H Q\/W x lo hi H Q):=by
 intro pins s σ H x v Y U lo hi T Q I S hs Z pu q;rcases q with q|q
 ·exact h pins s σ H x v Y U lo hi T Q I S hs Z pu q
 ·exact h' pins s σ H x v Y U lo hi T Q I S hs Z pu q
def JB(r:V->Option Int->Option Int->Hp->VK->Prop)(te:TE)(tl th:TO):TE:=λσ H Q=>te σ H λx H1=>tl σ H1 λl H2=>th σ H2 λu H3=>r x l u H3 Q
theorem zy(W:Dz X r)(Y:PE X e te)(R:PO X lo tl)(Z:PO X hi th):PE X (.Subscript e (.Slice lo hi aC p2) pos) (JB r te tl th):=by intro pins s σ H Q I h;refine Subscript_ (dq (Y pins s σ H _ I h) λv s1 ⟨x,H1,I1,r1,q1⟩=>?_);refine wpAny_Slice (dq (R pins s1 σ H1 _ I1 q1) λvl s2 ⟨l,H2,I2,pl,q2⟩=>dq (Z pins s2 σ H2 _ I2 q2) λvu s3 ⟨u,H3,I3,pu,q3⟩=>?_);rw[evalPart_none];refine JR ?_;have U:Inv X pins σ H3 {s3 with heap:=s3.heap.push {cls:=.type "slice",data:=.fields #[vl,vu,.none]}}:=I3.kept (t':=s3.toks) λb N q=>JO _ q;obtain⟨T,id,S,O,P⟩:=W pins {s3 with heap:=s3.heap.push {cls:=.type "slice",data:=.fields #[vl,vu,.none]}} σ H3 x v vl vu l u s3.heap.objs.size Q U r1 (Heap.IsSliceOf.new ..) pl pu q3;show ed (e_ X.prog X.w) X.A (subscriptTail e (.Slice lo hi aC p2) v (.ref s3.heap.objs.size)) (EP X pins σ Q) X.xe {s3 with heap:=s3.heap.push {cls:=.type "slice",data:=.fields #[vl,vu,.none]}};exact tail_any (ops:=[.ref s3.heap.objs.size,v]) O S P (by with_unfolding_all rfl)
def oZ(xs:List V)(lo hi:Option Int):List V:=(xs.drop (HT.sIx xs.length 0 lo)).take (HT.sIx xs.length xs.length hi - HT.sIx xs.length 0 lo)
theorem mn(xs:List V)(lo hi:Option Int):(oZ xs lo hi).length<=xs.length:=by unfold oZ;rw[LG,Md];omega
def IH(K:dn):V->Option Int->Option Int->Hp->VK->Prop:=λx lo hi H Q=>∃a xs,x= .ref a/\lr K H a xs/\
 ¬ (HT.sIx xs.length 0 lo=0/\HT.sIx xs.length xs.length hi=xs.length)/\∀p,H p=aC->Q (.ref p) (upd H p (.tup (oZ xs lo hi)))
theorem EG:Dz X (IH X.K):=by
 intro pins s σ H x v R P lo hi O Q I U hs W pu h;obtain⟨a,xs,rfl,T,hw,q⟩:=h;cases U;obtain⟨its,r,Y,Z⟩:=I.tuple T;have hlen:its.toArray.size=xs.length:=by rw[JY];exact r.length.symm
 refine⟨"tuple",_,PyProof.Rows.slot_tuple_getitem.lookup,Y.typeIs,?_⟩;refine HT.getItem_tuple_cut Y hs W pu (by rw[hlen];exact hw) ?_ (by rw[hlen];exact Z);rw[hlen];refine⟨.ref s.heap.objs.size,_,I.laid (t':=s.toks) (o:=.tup (oZ xs lo hi)) (λb S q=>JO _ q) (JQ _) ?_,rfl,q _ (I.hok.fresh (JQ _))⟩;exact⟨qC (JX (mn xs lo hi) Z),_,(r.drop (HT.sIx xs.length 0 lo)).take (HT.sIx xs.length xs.length hi - HT.sIx xs.length 0 lo),NR _ _⟩
def GK(K:dn):R2:=λx y H Q=>∃a b ns ms,x= .ref a/\y= .ref b/\lr K H a (ns.map V.int)/\lr K H b (ms.map V.int)/\Q (.bl (HT.lexLt ns ms)) H
theorem uJ(W:X.A.units<EA):ib X (i' .Lt) (GK X.K):=by intro pins s σ H x y v u Q I L N h;obtain⟨a,b,ns,ms,rfl,rfl,T,Y,q⟩:=h;cases L;cases N;obtain⟨its,U,S,_⟩:=I.tuple T;obtain⟨Z,P,p2,_⟩:=I.tuple Y;have R:la its.toArray.toList ns:=MJ U;have O:la Z.toArray.toList ms:=MJ P;exact HT.lt_tupInts S p2 R O W ⟨.bl (HT.lexLt ns ms),H,I,rfl,q⟩
def GL(K:dn):R2:=λx y H Q=>∃a b xs ys,x= .ref a/\y= .ref b/\lr K H a xs/\lr K H b ys/\xs≠[]/\xs.length+ys.length<=sizeLine/\
 (ys=[]->Q (.ref a) H)/\(ys≠[]->∀p,H p=aC->Q (.ref p) (upd H p (.tup (xs++ys))))
theorem bh.nil_iff(r:bh xs us):us=[]↔xs=[]:=by
 cases r with
 |nil=>simp
 |cons _ _=>simp
theorem Ci:ib X (n_ .Add) (GL X.K):=by intro pins s σ H x y v u Q I N L h;obtain⟨a,b,xs,ys,rfl,rfl,S,T,J,U,R,P⟩:=h;cases N;cases L;obtain⟨its,Y,O,_⟩:=I.tuple S;obtain⟨W,Z,p2,_⟩:=I.tuple T;refine HT.cat_tup O p2 (λz=>J (Y.nil_iff.mp z)) (λz=>⟨.ref a,H,I,rfl,R (Z.nil_iff.mp z)⟩) (λz=>?_) (by rw[<-Y.length, <-Z.length];exact U);refine⟨.ref s.heap.objs.size,_,I.laid (t':=s.toks) (o:=.tup (xs++ys)) (λb G q=>JO _ q) (JQ _) ?_,rfl,P (λw=>z (Z.nil_iff.mpr w)) _ (I.hok.fresh (JQ _))⟩;exact⟨qC (by rw[JW];exact U),_,Y.append Z,NR _ _⟩
end
def yT(n:Nat)(i:Int):Option Nat:=if 0<=i then (if i<n then ar i.toNat else aC)else if -(n:Int)<=i then ar (i+n).toNat else aC
def ke{α:Type}(xs:List α)(i:Int):Option α:=(yT xs.length i).bind λj=>xs[j]?
theorem wc(h:yT n i=ar j):NU i n=ar j/\j<n/\ -(n:Int)<=i/\i<n:=by
 unfold yT at h;by_cases h0:0<=i
 ·rw[if_pos h0]at h;by_cases h1:i<n
  ·rw[if_pos h1]at h;have e:i.toNat=j:=Ka h;exact⟨by rw[NZ h0 h1,e],by omega,by omega,h1⟩
  ·rw[if_neg h1]at h;cases h
 ·rw[if_neg h0]at h;by_cases h1: -(n:Int)<=i
  ·rw[if_pos h1]at h;have e:(i+n).toNat=j:=Ka h;exact⟨by rw[seqIndex_neg (by omega) h1,e],by omega,h1,by omega⟩
  ·rw[if_neg h1]at h;cases h
theorem qE{α:Type}{xs:List α}{i:Int}{v:α}(h:ke xs i=ar v):∃j,NU i xs.length=ar j/\xs[j]? =ar v/\j<xs.length/\ -(xs.length:Int)<=i/\i<xs.length:=by
 unfold ke at h;cases e:yT xs.length i with
 |none=>rw[e]at h;cases h
 |some j=>
  rw[e]at h;obtain⟨Y,X,Z,W⟩:=wc e;exact⟨j,Y,h,X,Z,W⟩
def qF(b:Expr):Prop:=∀o i,subscripted b dr o i=operate [o,i] (NI o i)
def BQ(X:Cx)(r:R2):Prop:=
 ∀(value slice:Expr) (pins:List (cq×Obj)) (s:c_) (σ:St) (H:Hp) (x y:V) (v u:b_) (Q:VK),Inv X pins σ H s->RelV x v->RelV y u->r x y H Q->
  subscripted slice dr v u=operate [v,u] (NI v u)->ed (e_ X.prog X.w) X.A (subscriptTail value slice v u) (EP X pins σ Q) X.xe s
def II(X:Cx)(id:String)(r:V->List V->Hp->VK->Prop):Prop:=
 ∀(pins:List (cq×Obj)) (s:c_) (σ:St) (H:Hp) (x:V) (xs:List V) (v:b_) (us:List b_) (Q:VK),Inv X pins σ H s->RelV x v->bh xs us->r x xs H Q->
  ed (e_ X.prog X.w) X.A (call (.builtin id) (v::us)) (EP X pins σ Q) X.xe s
section
variable {X:Cx}{a b:Expr}{ta tb:TE}{pos:Pos}
theorem BQ.or{r Z:R2}(h:BQ X r)(h':BQ X Z):BQ X (λx y H Q=>r x y H Q\/Z x y H Q):=by
 intro value slice pins s σ H x y v u Q I W Y q hs;rcases q with q|q
 ·exact h value slice pins s σ H x y v u Q I W Y q hs
 ·exact h' value slice pins s σ H x y v u Q I W Y q hs
theorem GN(Y:BQ X r)(W:PE X a ta)(Z:PE X b tb)(hs:qF b):PE X (.Subscript a b pos) (GC r ta tb):=by intro pins s σ H Q I h;exact Subscript_ (Es W Z I h λv u s2 x y R T S U q=>Y a b pins s2 σ R x y v u Q T S U q (hs _ _))
def GO(K:dn):R2:=λx y H Q=>∃p xs i v,x= .ref p/\y= .int i/\iR K H p xs/\ke xs i=ar v/\Q v H
def GP(K:dn):R2:=λx y H Q=>∃p xs i v,x= .ref p/\y= .int i/\lr K H p xs/\ke xs i=ar v/\Q v H
def GQ:R2:=λx y H Q=>∃z i c,x= .str z/\y= .int i/\z.length<=sizeLine/\ke z.cps.toList i=ar c/\Q (.str ⟨#[c]⟩) H
theorem Cj:BQ X (GO X.K):=by
 intro value slice pins s σ H x y v u Q I N O h hs;obtain⟨p,xs,i,z,rfl,rfl,J,he,q⟩:=h;cases N;obtain⟨t,rfl⟩:=O;obtain⟨its,r,W,E⟩:=I.list J;obtain⟨j,Z,R,G,P,S⟩:=qE he;obtain⟨w,T,Y⟩:=r.get R;have L:=r.length;have F:=lB;have fin:EP X pins σ Q w s:=⟨z,H,I,Y,q⟩;by_cases h0:0<=i
 ·have U:i.toNat=j:=by
   rw[NZ h0 S]at Z;exact Ka Z
  exact item_listR W.isList h0 (by omega) (by rw[U];simpa using T) fin hs
 ·have U:(i+(its.toArray.size:Int)).toNat=j:=by
   rw[seqIndex_neg (by omega) P]at Z;rw[JY, <-L];exact Ka Z
  exact subscriptTail_builtinR (x:=w) W.isList.typeIs slot_list_getitem.lookup
   (wpAny_getItem_list_neg (Q:=λr s'=>r=w/\EP X pins σ Q r s') W.isList (by omega) (by rw[JY]<;>omega) (by omega) (by rw[U];simpa using T) ⟨rfl,fin⟩) hs
theorem EH:BQ X (GP X.K):=by
 intro value slice pins s σ H x y v u Q I S T h hs;obtain⟨p,xs,i,z,rfl,rfl,O,he,q⟩:=h;cases S;obtain⟨t,rfl⟩:=T;obtain⟨its,r,Y,F⟩:=I.tuple O;obtain⟨j,W,U,L,J,N⟩:=qE he;obtain⟨w,R,Z⟩:=r.get U;have P:=r.length;have G:=lB;have fin:EP X pins σ Q w s:=⟨z,H,I,Z,q⟩;exact subscriptTail_builtinR (x:=w) Y.typeIs slot_tuple_getitem.lookup
  (getItem_tuple (j:=j) (Q:=λr s'=>r=w/\EP X pins σ Q r s') Y (by omega) (by omega) (by rw[JY, <-P];exact W) (by simpa using R) ⟨rfl,fin⟩) hs
theorem EI:BQ X GQ:=by
 intro value slice pins s σ H x y v u Q I R S h hs;obtain⟨z,i,c,rfl,rfl,N,he,q⟩:=h;obtain⟨t,rfl⟩:=R;obtain⟨t',rfl⟩:=S;obtain⟨j,Z,W,P,T,Y⟩:=qE he;have U:z.cps.toList.length=z.length:=by simp[Str.length]
 rw[U]at Z T Y;have O:=lB;exact tail_any (typeIs_str s z t) slot_str_getitem.lookup (getItem_str (c:=c) (by have e1:decide (i< -(2 ^ 63:Int))=false:=J8 (by omega);have e2:decide (i ≥ 2 ^ 63)=false:=J8 (by omega);rw[e1,e2,Bool.or_false]) (by rw[Z];simpa using W) ⟨.str ⟨#[c]⟩,H,I.tok _,⟨_,rfl⟩,q⟩) hs
def Jl(K:dn):R2:=λx y H Q=>GO K x y H Q\/GP K x y H Q\/GQ x y H Q
theorem EJ:BQ X (Jl X.K):=Cj.or (EH.or EI)
theorem uK(its:List b_)(n j:Nat)(u:b_):n7 (·.setIfInBounds j u) {cls:=.type "list",data:=.seq its.toArray n}={cls:=.type "list",data:=.seq (its.set j u).toArray n}:=by simp[n7]
theorem Inv.lst{Z:List (cq×Obj)}{Y:St}{H:Hp}{s:c_}{p:cq}{xs:List V}(I:Inv X Z Y H s)(h:H p=ar (.lst xs)):
  ∃(its:List b_) (n:Nat),bh xs its/\s.heap.get? p=ar {cls:=.type "list",data:=.seq its.toArray n}/\xs.length<=sizeLine:=by
 obtain⟨z,its,n,r,e⟩:=I.hok p _ h;exact⟨its,n,r,e,z⟩
theorem Inv.lstUpd{H:Hp}{its its':List b_}{f:Obj->Obj}(I:Inv X pins σ H s)(h:H p=ar (.lst xs))
  (W:s.heap.get? p=ar {cls:=.type "list",data:=.seq its.toArray n}) (Z:f {cls:=.type "list",data:=.seq its.toArray n}={cls:=.type "list",data:=.seq its'.toArray n'}) (r:bh ys its') (U:ys.length<=sizeLine) (t:Nat):
  Inv X pins σ (upd H p (.lst ys)) {s with heap:=s.heap.update p f,toks:=t}:=by
 have e:(s.heap.update p f).get? p=ar {cls:=.type "list",data:=.seq its'.toArray n'}:=by rw[Lf f W (by rw[Z]<;>rfl),Z]
 refine I.write (x:=p) (e:=p) (by rw[h];trivial) (.inl rfl) (λb u Y q=>(Kr _ _ (k8 Y)).trans q) ⟨_,e⟩ ?_;exact⟨U,its',n',r,e⟩
def DA:V->V->V->Hp->(Hp->Prop)->Prop:=λo i v H Q=>∃p xs k j,o= .ref p/\i= .int k/\H p=ar (.lst xs)/\yT xs.length k=ar j/\Q (upd H p (.lst (xs.set j v)))
theorem set_list:Gv X DA:=by
 intro pins s σ H o i v E C u Q I K N L h;obtain⟨p,xs,k,j,rfl,rfl,O,J,q⟩:=h;cases K;obtain⟨t,rfl⟩:=N;obtain⟨its,n,r,U,G⟩:=I.lst O;obtain⟨Z,F,S,R⟩:=wc J;have T:=r.length;have B:=lB;have P:Inv X pins σ (upd H p (.lst (xs.set j v))) {s with heap:=s.heap.update p (n7 (·.setIfInBounds j u))}:=
  I.lstUpd O U (uK its n j u) (r.set L j) (by rw[M4];exact G) s.toks
 by_cases h0:0<=k
 ·have Y:k.toNat=j:=by
   rw[NZ h0 R]at Z;exact Ka Z
  exact W.ki_setAt U h0 (by omega) (by rw[JY, <-T];exact R) (by rw[Y];exact⟨_,P,q⟩)
 ·have Y:(k+(its.toArray.size:Int)).toNat=j:=by
   rw[seqIndex_neg (by omega) S]at Z;rw[JY, <-T];exact Ka Z
  exact W.ki_setBack U (by omega) (by rw[JY, <-T];exact S) (by omega) (by rw[Y];exact⟨_,P,q⟩)
theorem qG(Y Z:Option Int)(n:Nat):(u5 Y Z aC n).1=((HT.sIx n 0 Y:Nat):Int)/\(u5 Y Z aC n).2.1=((HT.sIx n n Z:Nat):Int)/\(u5 Y Z aC n).2.2=1:=by
 refine⟨?_,?_,rfl⟩
 ·cases Y with
  |none=>simp[u5,HT.sIx]
  |some i=>
   simp only[u5,HT.sIx,Option.getD_none,show(1:Int)>0 by decide,if_true];by_cases h:i<0
   ·simp only[h,if_true]<;>omega
   ·simp only[h,if_false]<;>omega
 ·cases Z with
  |none=>simp[u5,HT.sIx]
  |some i=>
   simp only[u5,HT.sIx,Option.getD_none,show(1:Int)>0 by decide,if_true];by_cases h:i<0
   ·simp only[h,if_true]<;>omega
   ·simp only[h,if_false]<;>omega
theorem o8(its:List b_)(Z Y:Option Int):slicePick its.toArray Z Y aC=((its.drop (HT.sIx its.length 0 Z)).take (HT.sIx its.length its.length Y - HT.sIx its.length 0 Z)).toArray:=by obtain⟨U,T,W⟩:=qG Z Y its.toArray.size;unfold slicePick;rw[U,T,W];simp only[sliceRange_one,pick_run,j7]<;>rfl
def IJ(K:dn):V->Option Int->Option Int->Hp->VK->Prop:=λx lo hi H Q=>∃a xs,x= .ref a/\iR K H a xs/\∀p,H p=aC->Q (.ref p) (upd H p (.lst (oZ xs lo hi)))
theorem Ck:Dz X (IJ X.K):=by intro pins s σ H x v P O lo Z N Q I U hs W pu h;obtain⟨a,xs,rfl,S,q⟩:=h;cases U;obtain⟨its,r,Y,T⟩:=I.list S;have hlen:=r.length;refine⟨"list",_,slot_list_getitem.lookup,Y.isList.typeIs,?_⟩;refine wpAny_getItem_list_slice Y.isList hs W pu .none (by simp) ?_ (by rw[JY]<;>omega);rw[o8, <-hlen];refine⟨.ref s.heap.objs.size,_,I.laid (t':=s.toks) (o:=.lst (oZ xs lo Z)) (λb R q=>JO _ q) (JQ _) ?_,rfl,q _ (I.hok.fresh (JQ _))⟩;exact⟨JX (mn xs lo Z) T,_,0,(r.drop (HT.sIx xs.length 0 lo)).take (HT.sIx xs.length xs.length Z - HT.sIx xs.length 0 lo),J0 _ rfl⟩
theorem qH:dM X (.builtin "len") (λxs H Q=>∃p ys,xs=[.ref p]/\(iR X.K H p ys\/lr X.K H p ys)/\Q (.int ys.length) H):=by
 intro pins s σ H xs us Q I r h;obtain⟨p,ys,rfl,Z,q⟩:=h;obtain⟨u,rfl,T⟩:=vals1 r;cases T;have S:=lB;rcases Z with Z|Z
 ·obtain⟨its,W,Y,U⟩:=I.list Z;have hlen:=W.length;exact Calls.call_len_list Y.isList (by simp only[j7]<;>omega) ⟨.int ys.length,H,I.tok _,⟨s.toks+1,by rw[JY,hlen]⟩,q⟩
 ·obtain⟨its,W,Y,U⟩:=I.tuple Z;have hlen:=W.length;exact len_tuple Y (by simp only[j7]<;>omega) ⟨.int ys.length,H,I.tok _,⟨s.toks+1,by rw[JY,hlen]⟩,q⟩
theorem dM.or{r Z:List V->Hp->VK->Prop}(h:dM X f r)(h':dM X f Z):dM X f (λxs H Q=>r xs H Q\/Z xs H Q):=by
 intro pins s σ H xs us Q I rs q;rcases q with q|q
 ·exact h pins s σ H xs us Q I rs q
 ·exact h' pins s σ H xs us Q I rs q
theorem qI:dM X (.type "list") (λxs H Q=>∃p ys,xs=[.ref p]/\(iR X.K H p ys\/lr X.K H p ys)/\∀l,H l=aC->Q (.ref l) (upd H l (.lst ys))):=by
 intro pins s σ H xs us Q I r h;obtain⟨p,ys,rfl,U,q⟩:=h;obtain⟨u,rfl,O⟩:=vals1 r;cases O;have fin:∀(its:List b_),bh ys its->ys.length<=sizeLine->∀(h':f') (Z:Nat),(∀b o',s.heap.get? b=ar o'->h'.get? b=ar o')->
   h'.get? s.heap.objs.size=ar {cls:=.type "list",dict:=aC,data:=.seq its.toArray Z,slots:= #[]}->EP X pins σ Q (.ref s.heap.objs.size) {s with heap:=h'}:=λits Y T h' Z W e=>
  ⟨.ref s.heap.objs.size,_,I.laid (t':=s.toks) W (JQ _) (show bK X.prog X.w _ h' _ (.lst ys)from⟨T,its,Z,Y,e⟩),rfl,q _ (I.hok.fresh (JQ _))⟩
 rcases U with U|U
 ·obtain⟨its,Y,R,T⟩:=I.list U;have hlen:=Y.length;obtain⟨o,S,P,n,hd⟩:=R.isList;exact call_list_seq p (.inl rfl) S P hd (λh' Z W e=>fin its Y T h' Z W e) (by simp only[j7]<;>omega)
 ·obtain⟨its,Y,R,T⟩:=I.tuple U;have hlen:=Y.length;obtain⟨o,S,P,n,hd⟩:=R;exact call_list_seq p (.inr rfl) S P hd (λh' Z W e=>fin its Y T h' Z W e) (by simp only[j7]<;>omega)
theorem o9:dM X (.type "tuple") (λxs H Q=>∃p ys,xs=[.ref p]/\((iR X.K H p ys/\∀l,H l=aC->Q (.ref l) (upd H l (.tup ys)))\/(lr X.K H p ys/\Q (.ref p) H))):=by
 intro pins s σ H xs us Q I r h;obtain⟨p,ys,rfl,h⟩:=h;obtain⟨u,rfl,R⟩:=vals1 r;cases R;rcases h with⟨hq,q⟩|⟨hq,q⟩
 ·obtain⟨its,Y,Z,U⟩:=I.list hq;have hlen:=Y.length;refine call_tuple_list Z.isList (λh' T=>?_) (by simp only[j7]<;>omega);have W:Inv X pins σ H {s with heap:=h'}:=I.kept (t':=s.toks) T;have S:Inv X pins σ (upd H h'.objs.size (.tup ys)) {s with heap:=h'.push {cls:=.type "tuple",data:=.seq its.toArray}}:=
   W.laid (t':=s.toks) (λb o e=>JO _ e) (JQ _) (show bK X.prog X.w _ _ _ (.tup ys)from⟨qC U,its,Y,NR _ _⟩)
  exact⟨.ref h'.objs.size,_,S,rfl,q _ (W.hok.fresh (JQ _))⟩
 ·obtain⟨its,Y,Z,U⟩:=I.tuple hq;exact call_tuple_same Z ⟨.ref p,H,I,rfl,q⟩
def IK(K:dn)(T:String)(x:V)(H:Hp):Prop:=match x with
 | .str _=>T="str"
 | .int _=>T="int"
 | .ref p=>(T="list"/\∃xs,iR K H p xs)\/(T="tuple"/\∃xs,H p=ar (.tup xs))\/
   (T="dict"/\((∃kvs,H p=ar (.dK kvs))\/∃kvs,H p=ar (.dT kvs)))\/(T="set"/\∃S n,H p=ar (.set S n))
 |_=>False
theorem EK(I:Inv X pins σ H s)(r:RelV x v)(Z:IK X.K T x H):
  s.TypeIs v T/\∀a,v= .ref a->∃ob,s.heap.get? a=ar ob/\ob.dict=none:=by
 cases x with
 |str z=>
  obtain⟨t,rfl⟩:=r;cases (show T="str" from Z);exact⟨typeIs_str s z t,λ_ e=>nomatch e⟩
 |int i=>
  obtain⟨t,rfl⟩:=r;cases (show T="int" from Z);exact⟨Oc s i t,λ_ e=>nomatch e⟩
 | ref p=>
  cases r;rcases Z with⟨rfl,xs,hq⟩|⟨rfl,xs,hk⟩|⟨rfl,hk⟩|⟨rfl,S,n,hk⟩
  ·obtain⟨its,_,Y,_⟩:=I.list hq;refine⟨Y.isList.typeIs,λa e=>?_⟩;cases e;obtain⟨o,n,e,c,hd,_⟩:=Y;exact⟨o,e,hd⟩
  ·obtain⟨⟨_,o,e,hd⟩,its,_,pt⟩:=(show bK X.prog X.w H s.heap p (.tup xs)from I.hok p _ hk);refine⟨pt.typeIs,λa e2=>?_⟩;cases e2;exact⟨o,e,hd⟩
  ·have z:∃o,s.heap.get? p=ar o/\o.ExactDict:=by
    rcases hk with⟨kvs,hk⟩|⟨kvs,hk⟩
    ·obtain⟨_,_,_,_,o,_,_,e,ex,_⟩:=I.hok p _ hk;exact⟨o,e,ex⟩
    ·obtain⟨_,_,_,_,o,_,_,e,ex,_⟩:=I.hok p _ hk;exact⟨o,e,ex⟩
   obtain⟨o,e,ex⟩:=z;refine⟨⟨o,e,ex.1⟩,λa e2=>?_⟩;cases e2;exact⟨o,e,ex.2.1⟩
  ·obtain⟨o,_,_,_,e,ex,_⟩:=I.hok p _ hk;refine⟨⟨o,e,ex.1⟩,λa e2=>?_⟩;cases e2;exact⟨o,e,ex.2.1⟩
 |_=>exact iA Z
def JC(K:dn)(T:String)(r:V->List V->Hp->VK->Prop)(to:TE)(t:TA):TE:=λσ H Q=>to σ H λx H1=>IK K T x H1/\t σ H1 λxs H2=>r x xs H2 Q
variable {o e:Expr}{es:List Expr}{to:TE}{t:TA}{name:Str}{apos cpos:Pos}{T id:String}{r:V->List V->Hp->VK->Prop}
theorem GS(F:PlainAttrs T)(S:Slot T name id)(R:typeOf (.builtin id)=a_ (.type "method_descriptor"))(G:II X id r)(O:PE X o to)(L:PA X (e::es) t)
  (Y:x_ o name X.env (i4 o X.env)=i4 o X.env:=by rfl)
  (U:((lx cpos (dt (e::es) X.env)).all (λx=> !x.1) && (backToKw cpos (keywordEach [] X.env)).all (λx=>x.1.isSome)
   && decide ((e::es).length+([]:List N5).length+(if ([]:List N5).isEmpty then 0 else 1)<30))=true:=by rfl)
  (W:(apos.endLine==cpos.line)=true:=by rfl) (hs:dt (e::es) X.env=(dr,i4 e X.env)::dt es X.env:=by rfl) (Z:(lx cpos (dt es X.env)).any (·.1)=false:=by rfl):
  PE X (.Call (.Attribute o name apos) (e::es) [] cpos) (JC X.K T r to t):=by
 intro pins s σ H Q I h;refine wpAny_Call_method_late Y U W rfl (dq (O pins s σ H _ I h) λv s1 ⟨x,H1,I1,r1,ty,q1⟩=>?_);obtain⟨N,J⟩:=EK I1 r1 ty;refine⟨T,id,F,S,R,N,J,?_⟩;have P:=L cpos pins s1 σ H1 _ I1 q1;rw[hs]at P⊢;refine Calls.callWith_builtin (by show(dr||(lx cpos (dt es X.env)).any (·.1))=dr;rw[Z]<;>rfl) (Mg ?_);exact dq P λus s2 ⟨vs,H2,I2,r2,q2⟩=>G pins s2 σ H2 x vs v us Q I2 r1 r2 q2
end
def Jm(X:Cx)(id:String)(r:V->List V->Hp->VK->Prop):Prop:=
 ∀(pins:List (cq×Obj)) (s:c_) (σ:St) (H:Hp) (x:V) (xs:List V) (v:b_) (us:List b_) (Q:VK),Inv X pins σ H s->RelV x v->bh xs us->r x xs H Q->
  ed (e_ X.prog X.w) X.A (call (.builtin id) (v::us)) (EP X pins σ Q) X.xe s
theorem bh.one:∀{x:V} {us:List b_},bh [x] us->∃u,us=[u]/\RelV x u
 |_,_,.cons r .nil=>⟨_,rfl,r⟩
theorem bh.eraseIdx:∀{xs:List V} {us:List b_} (i:Nat),bh xs us->bh (xs.eraseIdx i) (us.eraseIdx i)
 |_,_,_,.nil=>.nil
 |_,_,0,.cons _ t=>t
 |_,_,i+1,.cons r t=>.cons r (bh.eraseIdx i t)
theorem bh.rep{xs:List V}{us:List b_}(h:bh xs us):∀k:Nat,bh (eb k xs).flatten (eb k us).flatten
 |0=>.nil
 |k+1=>by
  rw[KC,KC,K4,K4];exact bh.append h (bh.rep h k)
theorem pO{α:Type}:∀(l:List α) (i:Nat),(l.eraseIdx i).length<=l.length
 |[],_=>JQ _
 |_::_,0=>LL _
 |_::r,i+1=>Me (pO r i)
theorem foldl_rep(its:List b_):∀(k:Nat) (acc:List b_),
  Od (λY Z=>Y++Z) acc.toArray (eb k its.toArray)=(acc++(eb k its).flatten).toArray
 |0,acc=>by simp
 | k+1,acc=>by
  have e:acc.toArray++its.toArray=(acc++its).toArray:=by simp
  have e2:(acc++its)++(eb k its).flatten=acc++(eb (k+1) its).flatten:=by rw[KC,K4,Lm]
  rw[<-e2, <-foldl_rep its k (acc++its), <-e,KC,List.foldl_cons]
section
variable {X:Cx}{pins:List (cq×Obj)}{σ:St}{H:Hp}{s:c_}{l b:cq}{xs ys zs:List V}
theorem Inv.lset{its its':List b_}{f:Array b_->Array b_}(I:Inv X pins σ H s)(Z:H l=ar (.lst xs))
  (e:s.heap.get? l=ar {cls:=.type "list",data:=.seq its.toArray n}) (T:f its.toArray=its'.toArray) (S:bh ys its') (U:ys.length<=sizeLine):
  Inv X pins σ (upd H l (.lst ys)) {s with heap:=s.heap.update l (n7 f),toks:=t'}:=by
 have q:=PySem.IsL.update e f;rw[T]at q;refine I.write (x:=l) (e:=l) (by rw[Z];exact trivial) (.inl rfl) (λR u Y W=>(Kr s.heap (n7 f) (k8 Y)).trans W) ⟨_,q⟩ ?_;exact⟨U,its',_,S,q⟩
theorem Inv.lnew(I:Inv X pins σ H s)(Y:bh ys its)(Z:ys.length<=sizeLine):
  Inv X pins σ (upd H s.heap.objs.size (.lst ys)) {s with heap:=s.heap.push {cls:=.type "list",data:=.seq its.toArray},toks:=t'}:=
 I.laid (λ_ _ q=>JO _ q) (JQ _) ⟨Z,its,0,Y,J0 _ rfl⟩
theorem Inv.fresh(I:Inv X pins σ H s):H s.heap.objs.size=none:=I.hok.fresh (JQ _)
theorem Inv.lstM(I:Inv X pins σ H s)(Z:H l=ar (.lst xs)):xs.length<=sizeLine/\∃(its:List b_) (n:Nat),bh xs its/\xs.length=its.length/\s.heap.get? l=ar {cls:=.type "list",data:=.seq its.toArray n}:=by obtain⟨z,its,n,r,e⟩:=I.hok l _ Z;exact⟨z,its,n,r,r.length,e⟩
theorem sD(h:n<=sizeLine):m1 n=false:=by unfold m1;exact J8 (by omega)
end
section
variable {X:Cx}
def wd:V->List V->Hp->VK->Prop:=λx vs H Q=>∃l xs y,x= .ref l/\vs=[y]/\H l=ar (.lst xs)/\xs.length<sizeLine/\Q .non (upd H l (.lst (xs++[y])))
theorem lE:Jm X "list.append" wd:=by intro pins s σ H x vs v us Q I U W h;obtain⟨l,xs,y,rfl,rfl,Z,S,q⟩:=h;cases U;obtain⟨u,rfl,Y⟩:=W.one;obtain⟨z,its,n,r,T,e⟩:=I.lstM Z;refine Na F.slot_list_append ⟨_,e,rfl⟩ F.entry_list_append (F.args_list_append_2 _ _) (PySem.list_append l its.toArray n u (by rw[JY];omega)) ⟨e,?_⟩;refine⟨.non,_,I.lset (its':=its++[u]) Z e (by simp) (r.append (.cons Y .nil)) ?_,rfl,q⟩;rw[JW,List.length_singleton];omega
def zz:V->List V->Hp->VK->Prop:=λx vs H Q=>∃l xs i k y,x= .ref l/\vs=[.int i]/\H l=ar (.lst xs)/\ -(2 ^ 63)<=i/\i<2 ^ 63/\NU i xs.length=ar k/\xs[k]? =ar y/\Q y (upd H l (.lst (xs.eraseIdx k)))
theorem zA:Jm X "list.pop" zz:=by
 intro pins s σ H x vs v us Q I N T h;obtain⟨l,xs,i,k,y,rfl,rfl,Y,U,P,R,S,q⟩:=h;cases N;obtain⟨u,rfl,W⟩:=T.one;obtain⟨t,rfl⟩:=W;obtain⟨z,its,n,r,O,e⟩:=I.lstM Y;obtain⟨w,hw,Z⟩:=r.get S;refine Na F.slot_list_pop ⟨_,e,rfl⟩ F.entry_list_pop (F.args_list_pop_2 _ _)
  (MeetsSeq.list_pop_at l its.toArray n i t k w (fitsIndex_both U P) (by rw[JY, <-O];exact R) (by rw[<-Lg];exact hw) (by rw[JY];omega)) ⟨e,?_⟩
 refine⟨y,_,I.lset (its':=its.eraseIdx k) Y e ?_ (r.eraseIdx k) ?_,Z,q⟩
 ·show its.toArray.eraseIdxIfInBounds k=(its.eraseIdx k).toArray;rw[List.eraseIdxIfInBounds_toArray]
 ·have:=pO xs k;omega
def GT:R2:=λx y H Q=>∃l k xs,x= .ref l/\y= .int k/\H l=ar (.lst xs)/\ -(2 ^ 63)<=k/\k<2 ^ 63/\xs.length*k.toNat<=sizeLine/\
 ∀p,H p=aC->Q (.ref p) (upd H p (.lst (eb k.toNat xs).flatten))
theorem len_rep{α:Type}(xs:List α)(k:Nat):(eb k xs).flatten.length=k*xs.length:=by
 induction k with
 |zero=>simp
 |succ k ih=>rw[KC,K4,JW,ih,LP,Nat.add_comm]
theorem EL:ib X (n_ .Mult) GT:=by
 intro pins s σ H x y v u Q I G J h;obtain⟨l,k,xs,rfl,rfl,L,N,K,O,q⟩:=h;cases G;obtain⟨t,rfl⟩:=J;obtain⟨z,its,n,r,E,e⟩:=I.lstM L;have hlen:its.toArray.size*k.toNat<=sizeLine:=by rw[JY, <-E];exact O
 have S:¬ its.toArray.size*k.toNat>(2 ^ 63 - 1) / 8:=by
  have:(sizeLine:Nat)<=(2 ^ 63 - 1) / 8:=by decide
  omega
 have W:¬ (!Builtin.List.listFitsIndex k)=true:=by rw[fitsIndex_both N K];exact KL
 have Z:¬ m1 (its.toArray.size*k.toNat)=true:=by rw[sD hlen];exact KL
 have Y:Od (λR P=>R++P) #[] (eb (if its.toArray.isEmpty=b' then 0 else k.toNat) its.toArray)=(eb k.toNat its).flatten.toArray:=by
  have f0:∀m:Nat,Od (λR P=>R++P) #[] (eb m its.toArray)=(eb m its).flatten.toArray:=λm=>by have:=foldl_rep its m [];rw[oo]at this;exact this
  rw[f0];cases its with
  |nil=>simp
  |cons a r'=>rw[if_neg (by simp)]
 refine wpAny_binaryOp_repeat_ref (T:="list") (U:="int") (by decide) ⟨_,e,rfl⟩ (λs'=>Oc s' k t) noFill_list_mul F.fills_int_mul F.slot_int_rmul repeat_list F.slot_int_index.lookup
  (Na F.slot_int_rmul (Oc s k t) F.entry_int_rmul (F.args_int_rmul_2 _ _) (int___rmul___int_list k t l its.toArray n)
   ⟨e,rfl,⟨_,e,rfl⟩,Na F.slot_list_mul ⟨_,e,rfl⟩ F.entry_list_mul (F.args_list_mul_2 _ _) (AutoListH.list___mul___list_int_3 l its.toArray n k t W S Z) ⟨e,?_⟩⟩)
 rw[Y];exact⟨.ref _,_,I.lnew (t':=s.toks) (r.rep k.toNat) (by rw[len_rep,NJ];exact O),rfl,q _ I.fresh⟩
end
section
variable {prog:d_}{w:ee}{A:iB}{E:b_->c_->Prop}{s:c_}
end
section
variable {X:Cx}
end
end L2
namespace Att
open PySem PySem.W PySem.Calls PyProof.Rows
theorem mG:∀(ns:List Int) (vs:List b_),WellAll P h vs (ns.map WData.int)->la vs ns:=by
 intro ns
 induction ns with
 |nil=>
  intro vs w;rw[Mz]at w;cases w;exact .nil
 | cons n ns ih=>
  intro vs w;rw[Ke]at w;cases w with
  |cons a b=>
   cases a;exact .cons _ _ (ih _ b)
theorem xI{l:OE}(R:l.most=ar n)
  (Z:l.row.toRowW.claim.pre args=b') (W:WellAll P h vals args):
  ∃a vs ns,vals=[hF a]/\args=[WData.list (ns.map WData.int)]/\h.get? a=ar {cls:=.type "list",data:=.seq vs.toArray}/\la vs ns/\ns.length<=n:=by
 have IU:WShape.hasAll [] args [.list .int]=true:=(pre_splitW Z).1;have U:l.pre.holds [] {args:=args}=true:=(pre_splitW Z).2;obtain⟨d,r,rfl,T,Q⟩:=hasAllW_cons IU;obtain rfl:=hasAllW_nil Q;obtain⟨xs,rfl,S⟩:=hasW_list T;obtain⟨ns,rfl⟩:=items_int S;have hlen:ns.length<=n:=by
  unfold OpenLaw.pre at U;have X:(WTm.not (.lt (.lit (.int (n:Int))) (.len (.arg 0)))).holds [] {args:=[.list (ns.map .int)]}=true:=by have X:=(holds_andW U).1;rw[R]at X;exact X
  have Y:=condW_of X (w_not (w_lt w_lit (w_len_list (w_arg rfl))));rw[JN]at Y;refine MY λq=>?_;have O:(n:Int)<((ns.length:Nat):Int):=by omega
  first
   |(rw[JT O]at Y;exact absurd Y (by decide))
   |(simp at Y;omega)
 cases W with
 |cons w1 w2=>
  cases w2;cases w1 with
  |list ho hall=>exact⟨_,_,ns,rfl,rfl,ho,mG ns _ hall,hlen⟩
theorem xJ(l:OE)(args:List WData):l.row.toRowW.claim.post args (.bool b') args=true:=
 postW_of (r:=l.row.toRowW) (X:=(b'==b'))
  (show WShape.has [] (.bool b') .bool=b' by first|rfl|decide|simp[WShape.has,WShape.arms,WShape.armsAll])
  (show(WTm.eq .res (.lit (.bool b'))).value [] {args:=args,res:=ar (.bool b'),after:=args}=ar (.bool (b'==b'))from w_eq_bool (w_res rfl) w_lit) rfl
theorem attach_call{l:OE}{YP:ee->f'->Prop}{d:Oz}
  (A:l.most=ar n) (O:d.params.defaults=[])
  (X:∀(w:ee) (s₀ Z:c_) (S R:Str->Option b_) (W:cq) (o:Obj) (pm cd doc:b_) (a:cq) (vs:List b_) (ns:List Int),
   Ground q loose [] XP w s₀ S R Z.heap->YP w Z.heap->
   Z.heap.get? W=ar o->o.data= .func (docDef d.name d.params d.body d.scope pm cd doc)->Z.heap.CodeRec cd d.name->S d.name=ar (.ref W)->
   Z.heap.get? a=ar {cls:=.type "list",data:=.seq vs.toArray}->la vs ns->ns.length<=n->Z.gens= #[]->
   r_ (e_ l.prog w) v' (.call (.ref W) ⟨[.ref a],[]⟩) (λr s'=>r= .ok (.ret (.bool b'))/\OldK Z.heap s'.heap/\s'.os=Z.os/\w_ s'.gens) Z):
  WalkO q loose XP YP l.row.toRowW d [] (λf vs=>PySem.call f vs):=by
 intro w s₀ Z S R G Y W o pm cd doc y kV C hd P K Q E args vals as U L B N J;obtain rfl:y= .none:=Dflts.none K O;obtain rfl:kV= .none:=Dflts.noKw K;obtain⟨a,vs,ns,rfl,rfl,T,hints,hlen⟩:=xI A U N;refine enter_call (L9 (X w s₀ Z S R W o pm cd doc a vs ns G Y C (fd_plain hd) P Q T hints hlen E) λr s' z=>?_);obtain⟨rfl,H,I,F⟩:=z;exact⟨.inl ⟨.bool b',.bool b',[],rfl,λ_=>rfl,.bool b',xJ l _,λ_=>⟨List.Pairwise.nil,λ_ hm=>(nomatch hm)⟩⟩,H,I,F⟩
section
variable {prog:d_}{w:ee}{A:iB}{E:b_->c_->Prop}{s:c_}{K:OJ}
def ledger(h:f')(L d:cq):List (cq×Obj):=(dV h.objs.size).filterMap λa=>if a=L\/a=d then aC else (h.get? a).map λo=>(a,o)
end
end Att
namespace L2
open PySem PySem.Spec PyProof.Rows
theorem jz:∀{vs:List b_} {ns:List Int},la vs ns->bh (ns.map V.int) vs
 |_,_,.nil=>.nil
 |_,_,.cons n t h=>.cons ⟨t,rfl⟩ (jz h)
def EM(H:Hp):Prop:=∀b,H b=aC\/∃o xs,H b=ar (.frz o (.lst xs))
theorem zB{K:dn}{E:Str->Option b_}{i:yS}{sp:Sp}{Z:c_}{vs:List b_}
  (j:K.In Z.heap) (L:Z.heap.Ns g_ mg) (X:Z.heap.Ns s_ E) (C:∀x:Str,x≠"__name__"->E x=k4 x) (J:Z.heap.NoLimit) (hg:Z.gens= #[])
  (I:Z.heap.get? a=ar {cls:=.type "list",data:=.seq vs.toArray}) (f:la vs ns) (g:ns.length<=sizeLine) (hr:Room k v')
  (F:∀base:f',K.In base->base.Ns g_ mg->FnOk P w K mg base i k fa fd [x] sp) (T:∀(s:c_) (u:b_),EW s fd ⟨[u],[]⟩ [(x,u)])
  (y:∀H:Hp,EM H->iR K H a (ns.map V.int)->sp [.ref a] H (λv _=>v= .bl b') λ_ _ _=>False)
  (G:∀H e s',i [] H Z (λ_ _ _=>False) e s'->False):
  r_ (e_ P w) v' (.call (.ref fa) ⟨[.ref a],[]⟩) (λr s'=>r= .ok (.ret (.bool b'))/\OldK Z.heap s'.heap/\s'.os=Z.os/\w_ s'.gens) Z:=by
 have t:=jz f;have R:=f.length;have core:∀H:Hp,EM H->iR K H a (ns.map V.int)->fY P w H Z.heap->(∀b,H b≠aC->b=a)->(H a≠aC->K.lookup a=aC)->
   r_ (e_ P w) v' (.call (.ref fa) ⟨[.ref a],[]⟩) (λr s'=>r= .ok (.ret (.bool b'))/\OldK Z.heap s'.heap/\s'.os=Z.os/\w_ s'.gens) Z:=by
  intro H l hS S p hK;have Y:∀{b:cq} {o:Obj},Z.heap.get? b=ar o->H b=aC->(jT Z.heap H).get? b=ar o:=λe n=>m9 e n;have B:∀{b:cq} {o:Obj} {es:Array DictEntry} {ep:Nat},Z.heap.get? b=ar o->o.data= .dict es ep->H b=none:=λ{b o es ep} e d=>by
   cases q:H b with
   |none=>rfl
   |some u=>
    have A:b=a:=p b (by rw[q];simp);subst A;rw[I]at e;cases e;have d':Data.seq vs.toArray _=Data.dict es ep:=d;cases d'
  have U:∀{b:cq} {m:Str->Option b_},Z.heap.Ns b m->(jT Z.heap H).Ns b m:=λ{b m} ⟨o,es,ep,e,d,r⟩=>⟨o,es,ep,Y e (B e d),d,r⟩;have Q:K.In (jT Z.heap H):=λb o e=>Y (j b o e) (by
   cases q:H b with
   |none=>rfl
   |some u=>
    have A:b=a:=p b (by rw[q];simp);subst A;rw[hK (by rw[q];simp)]at e;cases e)
  have hM:Mod K mg (jT Z.heap H):=⟨Q,U L,⟨E,U X,C⟩,let ⟨mc,h1,h2⟩:=J;⟨mc,U h1,h2⟩⟩;have e0:aA P w K mg (jT Z.heap H) v' [] Z H:=⟨rfl,hM,λb o e=>v7 e,Lz (pI _ _),trivial,λb X=>absurd (show b∈([]:List cq)from X) (by simp),S,.of_eq hg⟩;refine L9 ((F _ Q (U L)).run v' [] Z H ⟨[.ref a],[]⟩ [.ref a] [.ref a] _ _ hr e0 (T Z (.ref a)) (.cons rfl .nil) (y H l hS)) λr s' h=>?_;cases r with
  |error e=>exact(G H e s' h).elim
  | ok fl=>
   cases fl with
   |next=>exact iA h
   |brk=>exact iA h
   |cont=>exact iA h
   | ret u=>
    obtain⟨v,H',os,bare,un,N,r',q⟩:=h;have q':v= .bl true:=q;subst q';obtain rfl:u=sh true:=r';refine⟨rfl,OldK.of_keep λb o e=>?_,os,bare⟩;cases q:H b with
    |none=>exact un.keep b o e q (by intro z;exact absurd (show b∈([]:List cq)from z) (by simp)) (by simp)
    | some u=>
     rcases l b with z|⟨ob,xs,z⟩
     ·rw[q]at z;cases z
     ·have c:=un.frzs b ob _ z;obtain⟨e1,_⟩:=S b _ z;obtain⟨e2,_⟩:=N b _ c;rw[e]at e1;cases e1;exact e2
 cases hk:K.lookup a with
 |some o=>
  have e:=j a o hk;rw[I]at e;cases e;refine core (λ_=>aC) (λ_=>.inl rfl) (.inr ⟨_,vs.toArray,_,hk,rfl,rfl,rfl,by rw[JY,R];exact g,by simpa using t⟩) (λb u z=>by have O:(aC:Option HO)=ar u:=z;cases O) (λb z=>absurd rfl z) λz=>absurd rfl z
 | none=>
  refine core (λb=>if b=a then ar (.frz {cls:=.type "list",data:=.seq vs.toArray} (.lst (ns.map V.int)))else aC) (λb=>?_) (.inl (.inr ⟨{cls:=.type "list",data:=.seq vs.toArray},if_pos rfl⟩)) (λb u z=>?_) (λb z=>?_) λ_=>hk
  ·by_cases X:b=a
   ·exact .inr ⟨_,_,if_pos X⟩
   ·exact .inl (if_neg X)
  ·by_cases X:b=a
   ·have O:=(if_pos X).symm.trans z;cases O;subst X;exact⟨I,by rw[JN];exact g,vs,_,t,I⟩
   ·have O:=(if_neg X).symm.trans z;cases O
  ·by_cases X:b=a
   ·exact X
   ·exact absurd (if_neg X) z
abbrev JL{K:dn}{h:f'}(_:K.In h):W.Frag:=K
theorem HH{l:Om}{YP:ee->f'->Prop}{d:Oz}{K:M'->dn}{L:ee->yS}{sp:ee->Sp}
  (r:l.most=ar n) (N:n<=sizeLine) (P:d.params.defaults=[]) (y:Room k v')
  (E:∀(w:ee) (h:f'),YP w h->(K w.params).In h)
  (F:∀(w:ee) (Z:Str->Option b_) (S:cq) (h:f'),(K w.params).In h->h.Ns g_ Z->Z d.name=ar (.ref S)->
   ∃fd:f_,(∀(s:c_) (u:b_),EW s fd ⟨[u],[]⟩ [(x,u)])/\
    ∀base:f',(K w.params).In base->base.Ns g_ Z->FnOk l.prog w (K w.params) Z base (L w) k S fd [x] (sp w))
  (O:∀(w:ee) (H:Hp) (a:cq) (ns:List Int),ns.length<=n->EM H->iR (K w.params) H a (ns.map V.int)->sp w [.ref a] H (λv _=>v= .bl b') λ_ _ _=>False)
  (R:∀(w:ee) (H:Hp) (s:c_) (e:b_) (s':c_),L w [] H s (λ_ _ _=>False) e s'->False):
  OF q loose XP YP l.row.toRowW d [] (λf vs=>PySem.call f vs):=by
 refine Att.attach_call r P λw s₀ X Z p S o pm cd doc a vs ns G Y m hd B Q U hints hlen C=>?_;have J:=E w _ Y;obtain⟨fd,A,t⟩:=F w Z S _ J G.T.g Q;exact zB J G.T.g G.T.b G.T.builtins G.T.nolimit C U hints (JX hlen N) y t A (λH I z=>O w H a ns hlen I z) λH e s'=>R w H X e s'
def eU(s:nf):Arguments:=match s with
 | .FunctionDef _ a _ _ _ _ _ _ _ _=>a
 |_=>{posonlyargs:=[],args:=[],vararg:=aC,kwonlyargs:=[],kw_defaults:=[],kwarg:=aC,defaults:=[]}
def cO(s:nf):List Stmt:=match s with
 | .FunctionDef _ _ b _ _ _ _ _ _ _=>b
 |_=>[]
def ak(s:nf):Scope:=match s with
 | .FunctionDef _ _ _ _ _ _ sc _ _ _=>sc
 |_=>{kind:=.function,names:=[],isGenerator:=dr,isCoroutine:=dr}
abbrev JD:yS:=λ_ _ _ _ _ _=>False
abbrev E0:XK:=λ_ _ _=>False
structure Fun(K:dn)(x qual:Str)(st:nf)(f:cq)(fd:f_):Prop where
 ex:∃(oc:b_) (od:Option cq) (kV doc pm:b_) (an:Option cq) (cdv ct:b_) (osl:Array (Option b_)),
  fd=w7 x qual (eU st) (cO st) (ak st) .none kV doc pm an cdv ct/\K.lookup f=ar ⟨oc,od,.func fd,osl⟩/\Nl K cdv qual=b'
 kp:rA K (.ref f)=b'
section
variable {P:d_}{w:ee}{K:dn}{mg:Str->Option b_}{base:f'}
theorem Fun.binds{x qual:Str}{Y:nf}{f:cq}{U:f_}{X:List Str}(F:Fun K x qual Y f U)
  (h:∀(kV doc pm:b_) (an:Option cq) (Z ct:b_) (us:List b_),us.length=X.length->bindArgs (w7 x qual (eU Y) (cO Y) (ak Y) .none kV doc pm an Z ct) ⟨us,[]⟩=a_ (X.zip us)):Binds K U X []:=by
 obtain⟨Q,O,kV,doc,pm,an,Z,ct,T,rfl,R,S⟩:=F.ex;exact .all (h kV doc pm an Z ct)
theorem EN{x qual:Str}{Y:nf}{f:cq}{R:b_}{Q S:Option cq}{U:Array (Option b_)}{kV X T Z ct:b_}(l:K.lookup f=ar ⟨R,Q,.func (w7 x qual (eU Y) (cO Y) (ak Y) .none kV X T S Z ct),U⟩)
  (c:Nl K Z qual=b') (k:rA K (.ref f)=b'):Fun K x qual Y f (w7 x qual (eU Y) (cO Y) (ak Y) .none kV X T S Z ct):=⟨⟨R,Q,kV,X,T,S,Z,ct,U,rfl,l,c⟩,k⟩
end
section
variable {X:Cx}
theorem pv(i:Nat)(W:X.N[i]? =ar x:=by rfl)(Y:Du X.env.scope x:=by first|exact NV rfl|exact Nm (NV rfl)|exact Nm (Nm rfl))(U:(x==("__debug__":Str))=false:=by decide)
  (Z:(x==("__classdict__":Str))=false:=by decide):PE X (.Name x pos) (Gk i):=yZ W Y U Z
end
end L2
end
namespace S3
open PySem PySem.W PyProof.Rows
def bj{α:Type}(b:Nat->Nat->Bool):OA α->α
 | .ret a=>a
 | .ask i j k=>bj b (k (b i j))
theorem fZ{α Z:Type}(b:Nat->Nat->Bool)(f:α->OA Z):∀t:OA α,bj b (t.bind f)=bj b (f (bj b t))
 | .ret _=>rfl
 | .ask i j k=>fZ b f (k (b i j))
section
variable (r:Nat->Nat)
abbrev dD:Nat->Nat->Bool:=λi j=>decide (r i<r j)
def ka(p:Array Nat)(k:Nat):Nat:=r (p.getD k 0)
def zF(p:Array Nat)(n:Nat):Prop:=∀i j,i<=j->j<n->ka r p i<=ka r p j
def IL(p:Array Nat)(n:Nat):Prop:=∀i j,i<=j->j<n->ka r p j<=ka r p i
variable {r}
theorem kl{p q:Array Nat}{i j:Nat}(h:p[i]? =q[j]?):p.getD i 0=q.getD j 0:=by rw[KS,KS,h]
theorem qJ{p:Array Nat}{i j:Nat}(Z:j<=p.size)(k:Nat):ka r (p8 p i j) k=if i<=k/\k<j then ka r p (i+j - 1 - k)else ka r p k:=by
 have h:=getElem?_mirror_all (i:=i) Z k;unfold ka p8;by_cases c:i<=k/\k<j
 ·rw[if_pos c]at h⊢;rw[kl h]
 ·rw[if_neg c]at h⊢;rw[kl h]
theorem pP{p:Array Nat}{Z d:Nat}(hs:Z<p.size)(Y:d<=Z)(k:Nat):ka r (OB p Z d) k=if k=Z - d then ka r p Z else if Z - d<k/\k<=Z then ka r p (k - 1)else ka r p k:=by
 have h:=getElem?_bubble hs d Y k;unfold ka;by_cases c:k=Z - d
 ·rw[if_pos c]at h⊢;rw[kl h]
 ·rw[if_neg c]at h⊢;by_cases c2:Z - d<k/\k<=Z
  ·rw[if_pos c2]at h⊢;rw[kl h]
  ·rw[if_neg c2]at h⊢;rw[kl h]
theorem nv:(p8 p i j).size=p.size:=mirror_size _ _ _ _
theorem ey:(p8 p i j).Perm p:=mirror_perm _ _ _ _
theorem qK:∀(f n:Nat),1<=n->zF r p n->n<=bj (dD r) (pe p f n)/\bj (dD r) (pe p f n)<=n+f/\zF r p (bj (dD r) (pe p f n))
 |0,n,h1,h=>⟨JQ _,JQ _,h⟩
 | f +1,n,h1,h=>by
  show n<=bj (dD r) (if (dD r) (p.getD n 0) (p.getD (n - 1) 0)=b' then NK n else pe p f (n+1))/\bj (dD r) (if (dD r) (p.getD n 0) (p.getD (n - 1) 0)=b' then NK n else pe p f (n+1))<=n+(f+1)/\zF r p (bj (dD r) (if (dD r) (p.getD n 0) (p.getD (n - 1) 0)=b' then NK n else pe p f (n+1)));by_cases c:(dD r) (p.getD n 0) (p.getD (n - 1) 0)=b'
  ·rw[if_pos c];exact⟨JQ _,by show n<=n+(f+1);omega,h⟩
  ·rw[if_neg c];have X:ka r p (n - 1)<=ka r p n:=by
    exact MY λz=>c (JT z)
   obtain⟨a1,a2,Y⟩:=qK f (n+1) (by omega) (λi j Z W=>by
    by_cases e:j=n
    ·subst e;by_cases e2:i=j
     ·subst e2;exact JQ _
     ·exact JX (h i (j - 1) (by omega) (by omega)) X
    ·exact h i j Z (by omega))
   exact⟨by omega,by omega,Y⟩
structure Down(r:Nat->Nat)(p:Array Nat)(n q:Nat):Prop where
 dsc:IL r p n
 q1:q+1<=n
 eqs:∀k,n - (q+1)<=k->k<n->ka r p k=ka r p (n - 1)
theorem ny{p:Array Nat}(Z:n<=p.size)(h:Down r p n q):∀k,ka r (p8 p (n - (q+1)) n) k=ka r p k:=λk=>by
 rw[qJ Z];split
 ·next c=>rw[h.eqs k c.1 c.2,h.eqs _ (by omega) (by omega)]
 ·rfl
theorem km:∀(f:Nat) (p:Array Nat) (n q:Nat),n+f<=p.size->Down r p n q->
  Down r (bj (dD r) (p7 f p n q)).1 (bj (dD r) (p7 f p n q)).2.1 (bj (dD r) (p7 f p n q)).2.2/\(bj (dD r) (p7 f p n q)).1.Perm p/\n<=(bj (dD r) (p7 f p n q)).2.1/\(bj (dD r) (p7 f p n q)).2.1<=n+f
 |0,p,n,q,hs,h=>⟨h,LV _,JQ _,JQ _⟩
 | f +1,p,n,q,hs,h=>by
  have e:bj (dD r) (p7 (f+1) p n q)=if ka r p n<ka r p (n - 1)then (if q>0 then bj (dD r) (p7 f (p8 p (n - (q+1)) n) (n+1) 0)else bj (dD r) (p7 f p (n+1) 0))
    else if ka r p (n - 1)<ka r p n then (p,n,q)else bj (dD r) (p7 f p (n+1) (q+1)):=by
   show bj (dD r) (if (dD r) (p.getD n 0) (p.getD (n - 1) 0)=b' then _ else _)=_;unfold ka;by_cases c:r (p.getD n 0)<r (p.getD (n - 1) 0)
   ·rw[if_pos (by simpa using c),if_pos c];split<;>rfl
   ·rw[if_neg (by simpa using c),if_neg c];show bj (dD r) (if (dD r) (p.getD (n - 1) 0) (p.getD n 0)=b' then _ else _)=_;by_cases c2:r (p.getD (n - 1) 0)<r (p.getD n 0)
    ·rw[if_pos (by simpa using c2),if_pos c2];rfl
    ·rw[if_neg (by simpa using c2),if_neg c2]
  have T:=h.q1;have ext:∀{p':Array Nat} {q':Nat},(∀k,ka r p' k=ka r p k)->ka r p n<=ka r p (n - 1)->(q'=0\/(q'=q+1/\ka r p n=ka r p (n - 1)))->Down r p' (n+1) q':=λ{p' q'} hk hle hq=>by
   refine⟨λi j Z S=>?_,by omega,λk W U=>?_⟩
   ·rw[hk,hk];by_cases ej:j=n
    ·subst ej;by_cases e2:i=j
     ·subst e2;exact JQ _
     ·exact JX hle (h.dsc i (j - 1) (by omega) (by omega))
    ·exact h.dsc i j Z (by omega)
   ·rw[hk,hk,show n+1 - 1=n by omega];rcases hq with rfl|⟨rfl,he⟩
    ·have:k=n:=by omega
     subst this;rfl
    ·by_cases ek:k=n
     ·subst ek;rfl
     ·rw[he];exact h.eqs k (by omega) (by omega)
  rw[e];by_cases c:ka r p n<ka r p (n - 1)
  ·rw[if_pos c];by_cases hq:q>0
   ·rw[if_pos hq];obtain⟨a1,a2,Y,X⟩:=km f (p8 p (n - (q+1)) n) (n+1) 0 (by rw[nv];omega) (ext (ny (by omega) h) (by omega) (.inl rfl));exact⟨a1,a2.trans ey,by omega,by omega⟩
   ·rw[if_neg hq];obtain⟨a1,a2,Y,X⟩:=km f p (n+1) 0 (by omega) (ext (λ_=>rfl) (by omega) (.inl rfl));exact⟨a1,a2,by omega,by omega⟩
  ·rw[if_neg c];by_cases c2:ka r p (n - 1)<ka r p n
   ·rw[if_pos c2];exact⟨h,LV _,JQ _,by show n<=n+(f+1);omega⟩
   ·rw[if_neg c2];obtain⟨a1,a2,Y,X⟩:=km f p (n+1) (q+1) (by omega) (ext (λ_=>rfl) (by omega) (.inr ⟨rfl,by omega⟩));exact⟨a1,a2,by omega,by omega⟩
structure Got(r:Nat->Nat)(nrem:Nat)(p:Array Nat)(g:Nat×Array Nat):Prop where
 asc:zF r g.2 g.1
 le:g.1<=nrem
 pos:1<=g.1
 perm:g.2.Perm p
theorem pQ{p:Array Nat}(Z:1<=n)(U:n<=nrem)(hs:nrem<=p.size)(h:IL r p n):Got r nrem p (bj (dD r) (On n nrem p)):=by
 unfold On;rw[fZ];have W:zF r (p8 p 0 n) n:=λi j X T=>by rw[qJ (by omega),qJ (by omega),if_pos ⟨by omega,by omega⟩,if_pos ⟨by omega,by omega⟩];exact h _ _ (by omega) (by omega)
 obtain⟨a1,a2,Y⟩:=qK (p:=p8 p 0 n) (nrem - n) n Z W;exact⟨Y,by show bj (dD r) (pe (p8 p 0 n) (nrem - n) n)<=nrem;omega,by show 1<=bj (dD r) (pe (p8 p 0 n) (nrem - n) n);omega,ey⟩
theorem ko{p:Array Nat}(Q:n<nrem)(hs:nrem<=p.size)(h:Down r p (n+1) 0):Got r nrem p (bj (dD r) (NL n nrem p)):=by
 unfold NL;rw[fZ];obtain⟨a1,a2,T,S⟩:=km (nrem - (n+1)) p (n+1) 0 (by omega) h;generalize bj (dD r) (p7 (nrem - (n+1)) p (n+1) 0)=d at a1 a2 T S;obtain⟨X,Z,W⟩:=d;dsimp only at a1 a2 T S;have Y:X.size=p.size:=a2.size_eq;by_cases hq:W>0
 ·show Got r nrem p (bj (dD r) (if W>0 then _ else _));rw[if_pos hq];have hd:IL r (p8 X (Z - (W+1)) Z) Z:=λi j U R=>by
   rw[ny (show Z<=X.size by omega) a1,ny (show Z<=X.size by omega) a1];exact a1.dsc i j U R
  have:=pQ (n:=Z) (nrem:=nrem) (by omega) (by omega) (by rw[nv,Y];exact hs) hd;exact⟨this.asc,this.le,this.pos,(this.perm.trans ey).trans a2⟩
 ·show Got r nrem p (bj (dD r) (if W>0 then _ else _));rw[if_neg hq];have:=pQ (n:=Z) (nrem:=nrem) (by omega) (by omega) (by rw[Y];exact hs) a1.dsc;exact⟨this.asc,this.le,this.pos,this.perm.trans a2⟩
theorem xK{p:Array Nat}(N:2<=nrem)(hs:nrem<=p.size):Got r nrem p (bj (dD r) (NW nrem p)):=by
 unfold NW;rw[fZ];obtain⟨a1,a2,Y⟩:=qK (r:=r) (p:=p) (nrem - 1) 1 (JQ _) (λi j X T=>by
  have:i=j:=by omega
  subst this;exact JQ _)
 have stop:∀(f n:Nat),1<=n->bj (dD r) (pe p f n)<n+f->ka r p (bj (dD r) (pe p f n))<ka r p (bj (dD r) (pe p f n) - 1):=by
  intro f
  induction f with
  |zero=>intro n _ h;exact absurd h (K1 _)
  | succ f ih=>
   intro n W h;have e:bj (dD r) (pe p (f+1) n)=if ka r p n<ka r p (n - 1)then n else bj (dD r) (pe p f (n+1)):=by
    show bj (dD r) (if (dD r) (p.getD n 0) (p.getD (n - 1) 0)=b' then _ else _)=_;unfold ka;by_cases c:r (p.getD n 0)<r (p.getD (n - 1) 0)
    ·rw[if_pos (JT c),if_pos c];rfl
    ·rw[if_neg (λz=>c (Kd z)),if_neg c]
   rw[e]at h⊢;by_cases c:ka r p n<ka r p (n - 1)
   ·rw[if_pos c];exact c
   ·rw[if_neg c]at h⊢;exact ih (n+1) (by omega) (by omega)
 have Z:=stop (nrem - 1) 1 (JQ _);generalize bj (dD r) (pe p (nrem - 1) 1)=n at a1 a2 Y Z;by_cases hn:n=nrem
 ·show Got r nrem p (bj (dD r) (if (n==nrem)=b' then _ else _));rw[if_pos (by simp[hn])];exact⟨Y,by show n<=nrem;omega,a1,LV _⟩
 ·show Got r nrem p (bj (dD r) (if (n==nrem)=b' then _ else _));rw[if_neg (by simp[hn])];have P:=Z (by omega);by_cases W:n>1
  ·rw [if_pos W];show Got r nrem p (bj (dD r) (if (dD r) (p.getD 0 0) (p.getD (n - 1) 0)=b' then _ else _));by_cases c:r (p.getD 0 0)<r (p.getD (n - 1) 0)
   ·rw[if_pos (JT c)];exact⟨Y,by show n<=nrem;omega,a1,LV _⟩
   ·rw [if_neg (λz=>c (Kd z))];have all:∀k,k<n->ka r p k=ka r p (n - 1):=λk Q=>by
     have S:=Y 0 k (by omega) Q;have R:=Y k (n - 1) (by omega) (by omega);have O:ka r p (n - 1)<=ka r p 0:=MY c;omega
    have U:∀k,ka r (p8 p 0 n) k=ka r p k:=λk=>by
     rw[qJ (by omega)];split
     ·next h=>rw[all k h.2,all _ (by omega)]
     ·rfl
    have:=ko (r:=r) (n:=n) (nrem:=nrem) (p:=p8 p 0 n) (by omega) (by rw[nv];exact hs) ⟨λi j X T=>by
      rw[U,U];by_cases ej:j=n
      ·subst ej;by_cases ei:i=j
       ·subst ei;exact JQ _
       ·rw[all i (by omega)];omega
      ·rw[all i (by omega),all j (by omega)];exact JQ _,by omega,λk S R=>by rw[show k=n+1 - 1 by omega]⟩
    exact⟨this.asc,this.le,this.pos,this.perm.trans ey⟩
  ·rw [if_neg W];have e1:n=1:=by omega
   subst e1;exact ko (by omega) hs ⟨λi j X T=>by
     by_cases ej:j=1
     ·subst ej;by_cases ei:i=1
      ·subst ei;exact JQ _
      ·rw[show i=1 - 1 by omega];omega
     ·rw[show i=j by omega];exact JQ _,by omega,λk S R=>by rw[show k=1+1 - 1 by omega]⟩
theorem lF(Z:zF r p k):∀(f l m:Nat),m - l<=f->l<=m->m<=k->(∀i,i<l->ka r p i<=ka r p k)->(∀i,m<=i->i<k->ka r p k<=ka r p i)->
  bj (dD r) (pb p k f l m)<=k/\(∀i,i<bj (dD r) (pb p k f l m)->ka r p i<=ka r p k)/\∀i,bj (dD r) (pb p k f l m)<=i->i<k->ka r p k<=ka r p i
 |0,l,m,hf,hl,hm,h1,h2=>by
  have:l=m:=by omega
  subst this;exact⟨by show l<=k;omega,h1,h2⟩
 | f+1,l,m,hf,hl,hm,h1,h2=>by
  by_cases c:l ≥ m
  ·have e:bj (dD r) (pb p k (f+1) l m)=l:=by
    show bj (dD r) (if l ≥ m then _ else _)=l;rw[if_pos c];rfl
   rw[e];have:l=m:=by omega
   subst this;exact⟨by omega,h1,h2⟩
  ·have e:bj (dD r) (pb p k (f+1) l m)=if ka r p k<ka r p ((l+m) / 2)then bj (dD r) (pb p k f l ((l+m) / 2))else bj (dD r) (pb p k f ((l+m) / 2+1) m):=by
    show bj (dD r) (if l ≥ m then _ else _)=_;rw[if_neg c];show bj (dD r) (if (dD r) (p.getD k 0) (p.getD ((l+m) / 2) 0)=b' then _ else _)=_;unfold ka;by_cases d:r (p.getD k 0)<r (p.getD ((l+m) / 2) 0)
    ·rw[if_pos (JT d),if_pos d]
    ·rw[if_neg (λz=>d (Kd z)),if_neg d]
   rw[e];by_cases d:ka r p k<ka r p ((l+m) / 2)
   ·rw[if_pos d];exact lF Z f l ((l+m) / 2) (by omega) (by omega) (by omega) h1 λi Y X=>JX (LM d) (Z _ i Y X)
   ·rw[if_neg d];exact lF Z f ((l+m) / 2+1) m (by omega) (by omega) hm (λi Y=>JX (Z i ((l+m) / 2) (by omega) (by omega)) (by omega)) h2
theorem we:∀(f:Nat) (p:Array Nat) (k:Nat),k+f<=p.size->zF r p k->zF r (bj (dD r) (Nv f p k)) (k+f)/\(bj (dD r) (Nv f p k)).Perm p
 |0,p,k,hs,h=>⟨h,LV _⟩
 | f +1,p,k,hs,h=>by
  have e:bj (dD r) (Nv (f+1) p k)=bj (dD r) (Nv f (OB p k (k - bj (dD r) (pb p k k 0 k))) (k+1)):=by show bj (dD r) ((pb p k k 0 k).bind _)=_;rw[fZ]
  rw[e];obtain⟨P,X,U⟩:=lF (r:=r) h k 0 k (by omega) (by omega) (JQ _) (λi W=>absurd W (Nat.not_lt_zero _)) (λi W Q=>absurd Q (by omega));generalize bj (dD r) (pb p k k 0 k)=l at P X U;have S:zF r (OB p k (k - l)) (k+1):=λi j Z O=>by
   rw[pP (by omega) (by omega),pP (by omega) (by omega)];have Y:k - (k - l)=l:=by omega
   rw[Y];by_cases ei:i=l
   ·rw[if_pos ei];by_cases ej:j=l
    ·rw[if_pos ej];exact JQ _
    ·rw[if_neg ej,if_pos ⟨by omega,by omega⟩];exact U (j - 1) (by omega) (by omega)
   ·rw[if_neg ei];by_cases ci:l<i/\i<=k
    ·rw[if_pos ci,if_neg (by omega),if_pos ⟨by omega,by omega⟩];exact h _ _ (by omega) (by omega)
    ·rw[if_neg ci];by_cases ej:j=l
     ·rw[if_pos ej];exact X i (by omega)
     ·rw[if_neg ej];by_cases cj:l<j/\j<=k
      ·rw[if_pos cj];exact h _ _ (by omega) (by omega)
      ·rw[if_neg cj];exact h _ _ Z (by omega)
  obtain⟨T,R⟩:=we f (OB p k (k - l)) (k+1) (by rw[bubble_size];omega) S;refine⟨?_,R.trans (bubble_perm _ _ _)⟩;rw[show k+(f+1)=k+1+f by omega];exact T
theorem zG(W:2<=n):zF r (bj (dD r) (rB n)) n/\(bj (dD r) (rB n)).Perm (z4 (dV n)):=by
 unfold rB;rw[fZ];have G:=xK (r:=r) (nrem:=n) (p:=z4 (dV n)) W (by simp);generalize bj (dD r) (NW n (z4 (dV n)))=g at G;obtain⟨m,p⟩:=g;have U:p.size=n:=by rw[G.perm.size_eq];simp
 have hle:m<=n:=G.le;have Y:1<=m:=G.pos;show zF r (bj (dD r) (if m<n then Nv (n - max m 1) p (max m 1)else NK p)) n/\Array.Perm (bj (dD r) (if m<n then Nv (n - max m 1) p (max m 1)else NK p)) (z4 (dV n));by_cases c:m<n
 ·rw[if_pos c];have em:max m 1=m:=by omega
  rw[em];obtain⟨Z,X⟩:=we (r:=r) (n - m) p m (by omega) G.asc;refine⟨?_,X.trans G.perm⟩;rw[show m+(n - m)=n by omega]at Z;exact Z
 ·rw[if_neg c];have em:m=n:=by omega
  subst em;exact⟨G.asc,G.perm⟩
end
def uw(n:Nat){α:Type}(R:α->Prop):OA α->Prop
 | .ret a=>R a
 | .ask i j k=>i<n/\j<n/\∀b,uw n R (k b)
theorem g0{n:Nat}{α Y:Type}{R:α->Prop}{Z:Y->Prop}{f:α->OA Y}:∀{t:OA α},uw n R t->(∀a,R a->uw n Z (f a))->uw n Z (t.bind f)
 | .ret a,h,k=>k a h
 | .ask i j g,h,k=>⟨h.1,h.2.1,λb=>g0 (h.2.2 b) k⟩
theorem zH{n:Nat}{α:Type}{R:α->Prop}{Z:Nat->Nat->(Bool->c_->Prop)->c_->Prop}{b:Nat->Nat->Bool}{s:c_}{Q:α->c_->Prop}(h:∀i j C,i<n->j<n->C (b i j) s->Z i j C s):
  ∀{t:OA α},uw n R t->Q (bj b t) s->t.kasWp Z Q s
 | .ret a,_,q=>q
 | .ask i j k,o,q=>h i j _ o.1 o.2.1 (zH h (o.2.2 (b i j)) q)
theorem nz{n:Nat}{α:Type}{R:α->Prop}{b Z:Nat->Nat->Bool}(h:∀i j,i<n->j<n->b i j=Z i j):∀{t:OA α},uw n R t->bj b t=bj Z t
 | .ret a,_=>rfl
 | .ask i j k,o=>by
  show bj b (k (b i j))=bj Z (k (Z i j));rw[h i j o.1 o.2.1];exact nz h (o.2.2 _)
def In(n:Nat)(p:Array Nat):Prop:=0<n/\∀x∈p.toList,x<n
theorem In.get(h:In n p)(k:Nat):p.getD k 0<n:=by
 rw[KS];cases e:p[k]? with
 |none=>exact h.1
 |some x=>exact h.2 x (by rw[<-Lg]at e;exact Kn e)
theorem In.perm{q:Array Nat}(h:In n p)(e:q.Perm p):In n q:=⟨h.1,λx Z=>h.2 x ((Array.Perm.toList e).mem_iff.mp Z)⟩
theorem qL(h:In n p):∀(f m:Nat),uw n (λ_=>True) (pe p f m)
 |0,m=>trivial
 | f+1,m=>⟨h.get _,h.get _,λb=>by
   cases b with
   |true=>exact trivial
   |false=>exact qL h f (m+1)⟩
theorem kq:∀(f:Nat) (p:Array Nat) (m q:Nat),In n p->uw n (λr=>In n r.1) (p7 f p m q)
 |0,p,m,q,h=>h
 | f+1,p,m,q,h=>⟨h.get _,h.get _,λb=>by
   cases b with
   |true=>
    show uw n _ (if q>0 then _ else _);split
    ·exact kq f _ _ _ (h.perm ey)
    ·exact kq f _ _ _ h
   |false=>
    refine⟨h.get _,h.get _,λb=>?_⟩;cases b with
    |true=>exact h
    |false=>exact kq f _ _ _ h⟩
theorem pR(h:In n p):uw n (λr:Nat×Array Nat=>In n r.2) (On m nrem p):=
 g0 (qL (h.perm ey) _ _) λ_ _=>h.perm ey
theorem ku(h:In n p):uw n (λr:Nat×Array Nat=>In n r.2) (NL m nrem p):=
 g0 (kq _ _ _ _ h) λa Z=>by
  split
  ·exact pR (Z.perm ey)
  ·exact pR Z
theorem xM(h:In n p):uw n (λr:Nat×Array Nat=>In n r.2) (NW nrem p):=
 g0 (qL h _ _) λa _=>by
  split
  ·exact h
  ·split
   ·refine⟨h.get _,h.get _,λb=>?_⟩;cases b with
    |true=>exact h
    |false=>exact ku (h.perm ey)
   ·exact ku h
theorem lG(h:In n p):∀(f l m:Nat),uw n (λ_=>True) (pb p k f l m)
 |0,l,m=>trivial
 | f+1,l,m=>by
  show uw n _ (if l ≥ m then _ else _);split
  ·exact trivial
  ·refine⟨h.get _,h.get _,λb=>?_⟩;cases b with
   |true=>exact lG h f _ _
   |false=>exact lG h f _ _
theorem wg:∀(f:Nat) (p:Array Nat) (k:Nat),In n p->uw n (In n) (Nv f p k)
 |0,p,k,h=>h
 |f+1,p,k,h=>g0 (lG h _ _ _) λl _=>wg f _ _ (h.perm (bubble_perm _ _ _))
theorem sE(Y:0<n):uw n (In n) (rB n):=
 g0 (xM ⟨Y,λx X=>by simpa using X⟩) λa Z=>by
  split
  ·exact wg _ _ _ Z
  ·exact Z
theorem iX{α:Type}{p q:α->Bool}:∀{l:List α} {x:α},(∀y∈l,p y=b'->q y=b')->x∈l->p x=dr->q x=b'->l.countP p<l.countP q
 | y::l,x,h,hx,hp,hq=>by
  have X:l.countP p<=l.countP q:=Ma λz Z=>h z (JZ _ Z);rw[KP,KP];rcases J5.mp hx with e|hx'
  ·subst e;rw[hp,hq];simp;omega
  ·have W:=iX (λz Z=>h z (JZ _ Z)) hx' hp hq;have Y:=h y J9;cases e1:p y with
   |true=>rw[Y e1];simp;omega
   |false=>simp;split<;>omega
theorem Cm{b:Nat->Nat->Bool}(O:2<=n)(U:∀i,i<n->b i i=dr)(Q:∀i j k,i<n->j<n->k<n->b i j=b'->b j k=b'->b i k=b')(W:∀i j k,i<n->j<n->k<n->b i k=b'->b i j=b'\/b j k=b'):
  (bj b (rB n)).Perm (z4 (dV n))/\∀i j,i<=j->j<n->b ((bj b (rB n)).getD j 0) ((bj b (rB n)).getD i 0)=false:=by
 let r:Nat->Nat:=λi=>(dV n).countP λj=>b j i;have R:∀i j,i<n->j<n->b i j=decide (r i<r j):=λi j X Y=>by
  cases e:b i j with
  |true=>
   refine(JT ?_).symm;exact iX (x:=i) (λy T h=>Q y i j (J2.mp T) X Y h e) (J2.mpr X) (U i X) e
  |false=>
   refine(J8 (Oe.mpr ?_)).symm;refine Ma λy T h=>?_;rcases W y i j (J2.mp T) X Y h with z|z
   ·exact z
   ·rw[e]at z;cases z
 have P:bj b (rB n)=bj (dD r) (rB n):=nz R (sE (by omega));obtain⟨a1,a2⟩:=zG (r:=r) O;rw[P];refine⟨a2,λi j S Y=>?_⟩;have Z:In n (bj (dD r) (rB n)):=In.perm ⟨by omega,λx N=>by simpa using N⟩ a2;rw[R _ _ (Z.get j) (Z.get i)];exact J8 (Oe.mpr (a1 i j S Y))
end S3
namespace S3
open PySem PySem.Spec PySem.W PyProof.Rows L2
section
variable {prog:d_}{w:ee}{A:iB}{E:b_->c_->Prop}{s:c_}{Q:Bool->c_->Prop}
theorem sF:∀{us ws:List b_} {ns ms:List Int} (i:Nat),la us ns->la ws ms->Q (HT.lexLt ns ms) s->
  KatLex prog w A b (decide (us.length<ws.length)) Q (us.zip ws) i s
 |[],[],ns,ms,i,h1,h2,q=>by
  cases h1;cases h2;exact q
 |[],_::_,_,_,_,h1,h2,q=>by
  cases h1;cases h2;exact q
 |_::_,[],_,_,_,h1,h2,q=>by
  cases h1;cases h2;exact q
 | u::us,v::ws,ns,ms,i,h1,h2,q=>by
  cases h1 with
  |cons n t h1=>
  cases h2 with
  | cons k t' h2=>
   rw[HT.lexLt_cons]at q;by_cases e:n=k
   ·rw[if_pos e]at q;refine kat_cons (MV ?_);have:(n==k)=true:=by simp[e]
    rw[this];refine kat_yes ?_;show KatLex prog w A b (decide (us.length+1<ws.length+1)) Q (us.zip ws) (i+1) s;rw[show decide (us.length+1<ws.length+1)=decide (us.length<ws.length) by simp];exact sF (i+1) h1 h2 q
   ·rw[if_neg e]at q;refine kat_cons (MV ?_);have:(n==k)=false:=by simp[e]
    rw[this];refine kat_no ?_;cases hbi:(b && i==0)with
    |true=>exact oneLt_int q
    |false=>exact kat_one _ _ (lt_int q)
end
structure Tups(h:f')(vs:List b_)(nss:List (List Int)):Prop where
 len:vs.length=nss.length
 get:∀(i:Nat),i<vs.length->∃a o us n,vs.getD i j0= .ref a/\h.get? a=ar o/\o.cls= .type "tuple"/\o.data= .seq us n/\la us.toList (nss.getD i [])/\0<us.size
theorem Tups.keep{h':f'}(t:Tups h vs nss)(k:∀i a o,i<vs.length->vs.getD i j0= .ref a->h.get? a=ar o->h'.get? a=ar o):Tups h' vs nss:=
 ⟨t.len,λi Z=>let ⟨a,o,us,n,e1,e2,r⟩:=t.get i Z;⟨a,o,us,n,e1,k i a o Z e1 e2,r⟩⟩
theorem Tups.ask{s:c_}(t:Tups s.heap vs nss){C:Bool->c_->Prop}(U:i<vs.length)(W:j<vs.length)
  (q:C (HT.lexLt (nss.getD i []) (nss.getD j [])) s):kas_ask prog w A (tuples' b) vs i j C s:=by
 obtain⟨a,o,us,n,e1,e2,P,T,Z,R⟩:=t.get i U;obtain⟨Q,O,X,N,f1,f2,L,f4,Y,S⟩:=t.get j W;unfold kas_ask;rw[e1,f1];refine kat_lt e2 T f2 f4 ?_;have z:=sF (prog:=prog) (w:=w) (A:=A) (b:=b) 0 Z Y q;simpa using z
end S3
namespace S3
open PySem PySem.Spec PyProof.Rows L2
abbrev St:=L2.St
def kx(cells:List (Str×cq)):List (Str×k6)->List (Str×cq)->List (Str×cq)
 |[],cs=>cs
 |(n,k)::r,cs=>kx cells r (if k== .free then (n,(cells.lookup n).getD 0)::cs else cs)
theorem ky(scope:Scope)(env:Env)(h:∀y∈scope.names,y.2= .free->∃c,env.cells.lookup y.1=ar c):closureFor scope env=a_ (kx env.cells scope.names []):=by
 have go:∀(names:List (Str×k6)) (cs:List (Str×cq)),(∀y∈names,y.2= .free->∃c,env.cells.lookup y.1=ar c)->
   (forIn names cs (λ(x:Str×k6) (r:List (Str×cq))=>(if (x.2==hY)=b' then do let a<-cellOf env x.1;a_ (y3 ((x.1,a)::r))else a_ (y3 r):Sem (ForInStep (List (Str×cq))))):Sem (List (Str×cq)))=a_ (kx env.cells names cs):=by
  intro names
  induction names with
  |nil=>intro cs _;rfl
  | cons y r ih=>
   intro cs U;obtain⟨n,k⟩:=y;have W:∀y∈r,y.2= .free->∃c,env.cells.lookup y.1=ar c:=λy hm=>U y (JZ _ hm);rw[L'];by_cases hk:(k==hY)=b'
   ·have Y:k= .free:=by simpa using hk
    obtain⟨c,X⟩:=U (n,k) J9 Y;have e:cellOf env n=a_ c:=by unfold cellOf;rw[X]
    simp only[hk,if_true,e,pure_bind];rw[ih _ W];simp only[kx,hk,if_true,X,Option.getD_some]
   ·have Z:(k==hY)=false:=by simpa using hk
    simp only[Z,h_,if_false,pure_bind];rw[ih _ W];simp only[kx,Z,h_,if_false]
 have:=go scope.names [] h;unfold closureFor;simp only[bind_pure]at*;exact this
theorem wj{cells:List (Str×cq)}:∀(names:List (Str×k6)) (cs:List (Str×cq)),(∀y∈names,y.2= .free->∃c,cells.lookup y.1=ar c)->(∀p∈cs,cells.lookup p.1=ar p.2)->
  ∀p∈kx cells names cs,cells.lookup p.1=ar p.2
 |[],cs,_,h=>h
 | (n,k)::r,cs,hy,h=>by
  refine wj r _ (λy hm=>hy y (JZ _ hm)) λp Z=>?_;by_cases hk:(k==hY)=b'
  ·rw[if_pos hk]at Z;rcases J5.mp Z with rfl|Z
   ·obtain⟨c,X⟩:=hy (n,k) J9 (by simpa using hk);show cells.lookup n=ar ((cells.lookup n).getD 0);have Y:cells.lookup n=ar c:=X;rw[Y];rfl
   ·exact h p Z
  ·rw[if_neg hk]at Z;exact h p Z
theorem nA:∀(names:List (Str×k6)) (cs:List (Str×cq)),(x,hY)∈names\/x∈cs.map (·.1)->x∈(kx cells names cs).map (·.1)
 |[],cs,h=>by
  rcases h with h|h
  ·cases h
  ·exact h
 | (n,k)::r,cs,h=>by
  refine nA r _ ?_;rcases h with h|h
  ·rcases J5.mp h with e|h
   ·cases e;refine .inr ?_;simp
   ·exact .inl h
  ·refine .inr ?_;by_cases hk:(k==hY)=b'
   ·rw[if_pos hk];exact JZ _ h
   ·rw[if_neg hk];exact h
theorem lookup_mem:∀{l:List (Str×cq)},l.lookup x=ar c->(x,c)∈l
 |[],h=>by cases h
 | (n,a)::r,h=>by
  by_cases e:x==n
  ·have Z:x=n:=by simpa using e
   rw[Kh,e]at h;have h':ar a=ar c:=h;cases h';subst Z;exact J9
  ·have e2:(x==n)=false:=by simpa using e
   rw[Kh,e2]at h;exact JZ _ (lookup_mem h)
theorem mem_lookup:∀{l:List (Str×cq)},x∈l.map (·.1)->∃c,l.lookup x=ar c
 |[],h=>by cases h
 | (n,a)::r,h=>by
  by_cases e:x==n
  ·exact⟨a,by rw[Kh,e]⟩
  ·have e2:(x==n)=false:=by simpa using e
   rw[Kh,e2];refine mem_lookup ?_;rcases J5.mp h with z|z
   ·have Z:x=n:=z;subst Z;simp at e
   ·exact z
theorem cR:∀{l:List (Str×k6)},l.lookup x=ar k->(x,k)∈l
 |[],h=>by cases h
 | (n,a)::r,h=>by
  by_cases e:x==n
  ·have Z:x=n:=by simpa using e
   rw[Kh,e]at h;have h':ar a=ar k:=h;cases h';subst Z;exact J9
  ·have e2:(x==n)=false:=by simpa using e
   rw[Kh,e2]at h;exact JZ _ (cR h)
theorem ic{env:Env}:∀{names:List (Str×k6)} {k:k6},
  (names.map λ(n,k)=>if (k==hY && env.scope.kind== .function && env.kindOf n==ar .cell)then (n,m2)else (n,k)).lookup x=ar k->
   names.lookup x=ar k\/(k= .cell/\names.lookup x=ar .free)
 |[],k,h=>by cases h
 | (n,a)::r,k,h=>by
  by_cases e:x==n
  ·rw[Ke]at h;by_cases c:(a==hY && env.scope.kind== .function && env.kindOf n==ar .cell)=b'
   ·have Y:a= .free:=by
     simp only[i_,beq_iff_eq]at c;exact c.1.1
    simp only[c,if_true,kr,e]at h;cases h;refine .inr ⟨rfl,?_⟩;rw[Kh,e,Y]
   ·have Z:(a==hY && env.scope.kind== .function && env.kindOf n==ar .cell)=false:=by simpa using c
    simp only[Z,h_,if_false,kr,e]at h;refine .inl ?_;rw[Kh,e];exact h
  ·have e2:(x==n)=false:=by simpa using e
   rw[Kh,e2];refine ic (env:=env) (names:=r) ?_;rw[Ke]at h;by_cases c:(a==hY && env.scope.kind== .function && env.kindOf n==ar .cell)=b'
   ·simp only[c,if_true,kr,e2]at h;exact h
   ·have Z:(a==hY && env.scope.kind== .function && env.kindOf n==ar .cell)=false:=by simpa using c
    simp only[Z,h_,if_false,kr,e2]at h;exact h
theorem kz{env:Env}:∀{names:List (Str×k6)},names.lookup x=ar .free->
  (names.map λ(n,k)=>if (k==hY && env.scope.kind== .function && env.kindOf n==ar .cell)then (n,m2)else (n,k)).lookup x=ar .cell\/
  (names.map λ(n,k)=>if (k==hY && env.scope.kind== .function && env.kindOf n==ar .cell)then (n,m2)else (n,k)).lookup x=ar .free
 |[],h=>by cases h
 | (n,a)::r,h=>by
  rw[Ke];by_cases e:x==n
  ·rw[Kh,e]at h;have X:ar a=ar NameKind.free:=h;cases X;by_cases c:(hY==hY && env.scope.kind== .function && env.kindOf n==ar .cell)=b'
   ·refine .inl ?_;simp only[c,if_true,kr,e]
   ·have Z:(hY==hY && env.scope.kind== .function && env.kindOf n==ar .cell)=false:=by simpa using c
    refine .inr ?_;simp only[Z,h_,if_false,kr,e]
  ·have e2:(x==n)=false:=by simpa using e
   rw[Kh,e2]at h;have Y:=kz (env:=env) h;by_cases c:(a==hY && env.scope.kind== .function && env.kindOf n==ar .cell)=b'
   ·simp only[c,if_true,kr,e2];exact Y
   ·have Z:(a==hY && env.scope.kind== .function && env.kindOf n==ar .cell)=false:=by simpa using c
    simp only[Z,h_,if_false,kr,e2];exact Y
theorem uL:∀{names:List (Str×k6)} {n:Nat} {acc:List (Str×cq)} {p:Str×cq},p∈j1 n names acc->p∈acc\/n<=p.2
 |[],n,acc,p,h=>.inl h
 | (x,k)::r,n,acc,p,h=>by
  unfold j1 at h;split at h
  ·rcases uL h with h|h
   ·rcases J5.mp h with rfl|h
    ·exact .inr (JQ _)
    ·exact .inl h
   ·exact .inr (L7 h)
  ·exact uL h
theorem uM:∀{names:List (Str×k6)} {n:Nat} {acc:List (Str×cq)},(∀p∈acc,p.2<n)->(∀x y c,(x,c)∈acc->(y,c)∈acc->x=y)->∀x y c,(x,c)∈j1 n names acc->(y,c)∈j1 n names acc->x=y
 |[],n,acc,_,hi,x,y,c,h1,h2=>hi x y c h1 h2
 | (z,k)::r,n,acc,hl,hi,x,y,c,h1,h2=>by
  unfold j1 at h1 h2;by_cases hk:(k==m2)=b'
  ·rw[if_pos hk]at h1 h2;refine uM (λp Z=>?_) (λx y c g1 g2=>?_) x y c h1 h2
   ·rcases J5.mp Z with rfl|Z
    ·exact LH _
    ·exact LA (hl p Z)
   ·rcases J5.mp g1 with g1|g1<;>rcases J5.mp g2 with g2|g2
    ·rw[<-g2]at g1;exact(Prod.mk.inj g1).1
    ·cases g1;exact absurd (hl _ g2) (K1 _)
    ·cases g2;exact absurd (hl _ g1) (K1 _)
    ·exact hi x y c g1 g2
  ·rw[if_neg hk]at h1 h2;exact uM hl hi x y c h1 h2
theorem qM:∀{names:List (Str×k6)} {n:Nat} {acc:List (Str×cq)},(∀y∈names,y.2= .cell->y.1≠x)->(j1 n names acc).lookup x=acc.lookup x
 |[],_,_,_=>rfl
 | (z,k)::r,n,acc,h=>by
  unfold j1;split
  ·next hk=>
   rw[qM λy Z=>h y (JZ _ Z),Kh];have:(x==z)=false:=by have:=h (z,k) J9 (by simpa using hk);simpa using k8 this
   rw[this]
  ·exact qM λy Z=>h y (JZ _ Z)
theorem qN:∀{names:List (Str×k6)} {h:f'} {acc:List (Str×cq)} {p:Str×cq},p∈j1 h.objs.size names acc->p∈acc\/(pushCells h names).IsCell p.2 aC
 |[],h,acc,p,q=>.inl q
 | (x,k)::r,h,acc,p,q=>by
  unfold j1 at q;unfold pushCells;split at q
  ·next hk=>
   rw[if_pos hk];have Z:p∈j1 (h.push {cls:=.type "cell",data:=.cell aC}).objs.size r ((x,h.objs.size)::acc):=by rw[KZ];exact q
   rcases qN Z with Z|Z
   ·rcases J5.mp Z with rfl|Z
    ·exact .inr ⟨_,M5 _ _ _ _ (J0 _ rfl),rfl⟩
    ·exact .inl Z
   ·exact .inr Z
  ·next hk=>
   rw[if_neg hk];exact qN q
theorem uN:∀(names:List (Str×k6)) (n:Nat) (acc:List (Str×cq)),((x,m2)∈names\/∃c,acc.lookup x=ar c/\m<=c)->m<=n->(j1 n names acc).lookup x=ar a->m<=a
 | [],n,acc,h,hm,e=>by
  rcases h with h|⟨c,h2,h3⟩
  ·cases h
  ·have Y:acc.lookup x=ar a:=e;rw[h2]at Y;cases Y;exact h3
 | (z,k)::r,n,acc,h,hm,e=>by
  unfold j1 at e;by_cases hk:(k==m2)=b'
  ·rw[if_pos hk]at e;refine uN r (n+1) _ ?_ (Nat.le_succ_of_le hm) e;by_cases hz:(x==z)=b'
   ·exact .inr ⟨n,by rw[Kh,hz],hm⟩
   ·have Z:(x==z)=false:=by simpa using hz
    rcases h with h|⟨c,h2,h3⟩
    ·rcases J5.mp h with h|h
     ·cases h;simp at hz
     ·exact .inl h
    ·exact .inr ⟨c,by rw[Kh,Z];exact h2,h3⟩
  ·rw[if_neg hk]at e;refine uN r n acc ?_ hm e;rcases h with h|h
   ·rcases J5.mp h with h|h
    ·cases h;simp at hk
    ·exact .inl h
   ·exact .inr h
theorem pS{s:c_}{scope:Scope}{env:Env}
  (h:∀h1,h1.Ns s.heap.objs.size (λ_=>aC)->(∀b o,s.heap.get? b=ar o->h1.get? b=ar o)->(∀p∈j1 (s.heap.objs.size+1) scope.names cl,p∈cl\/h1.IsCell p.2 aC)->
   Q {scope,locals:=s.heap.objs.size,globals:=env.globals,cells:=j1 (s.heap.objs.size+1) scope.names cl,qual:=env.qual,func:=aC,code:=env.code,frame:=env.frame,builtins:=env.builtins} {s with heap:=h1}):
  ed M A (newFunctionEnv scope env.globals cl [] env.qual aC .none (ar env)) Q E s:=by
 simp only[newFunctionEnv,Option.isSome_some,if_true];refine JM (wpAny_alloc (JM (wpAny_layCells _ (λname kind cells=>by cases hkc:kind==m2<;>simp[hkc]) _ _ _ _ ?_)));have e:({s with heap:=s.heap.push {cls:=.type "dict",data:=.dict #[]}}:c_).heap.objs.size=s.heap.objs.size+1:=KZ ..;rw[e];refine JM (m:=forIn [] _ _) (JR (JR (h _ ((Heap.Ns.new s.heap (.type "dict")).keeps (M5 _ _)) (λb o q=>M5 _ _ b o (JO _ q)) λp Z=>?_)));exact qN (h:=s.heap.push {cls:=.type "dict",data:=.dict #[]}) (by rw[e];exact Z)
def aV(X:Cx)(scope:Scope)(Nc:List Str)(C:cq)(ex:List cq)(s:c_)(H:Hp):Cx:=
 {X with N:=Nc,s₀:=s,H₀:=H,env:=compEnvC scope (j1 (C+1) scope.names (kx X.env.cells scope.names [])) C X.env,outer:=X.stack,stack:=X.stack,ex:=ex,fn:=λx=>scope.names.lookup x==ar .cell,pn:=[],xe:=λ_ _=>False}
structure CompScope(X:Cx)(scope:Scope)(Nc:List Str)(js:List (Option Nat)):Prop where
 kind:scope.kind= .function
 cel:∀y∈scope.names,y.2= .cell->scope.names.lookup y.1=ar .cell
 loc:∀y∈scope.names,y.2= .local->scope.names.lookup y.1=ar .local
 free:∀y∈scope.names,y.2= .free->X.env.kindOf y.1=ar .cell\/X.env.kindOf y.1=ar .free
 len:js.length=Nc.length
 ix:∀(i:Nat) (x:Str) (j:Nat),Nc[i]? =ar x->js[i]? =ar (ar j)->X.N[j]? =ar x/\scope.names.lookup x=ar .free
def lH(js:List (Option Nat))(σ:St):St:=js.map λo=>o.bind λj=>(σ[j]?).join
def BR(X:Cx)(ifs:List Expr)(t:TT):Prop:=
 ∀(pins:List (cq×Obj)) (s:c_) (σ:St) (H:Hp) (Q:Bool->Hp->Prop),Inv X pins σ H s->t σ H Q->
  ed (e_ X.prog X.w) X.A (forIn ifs b' λc r=>if r=b' then do let ok<-isTrue c X.env (i4 c X.env);a_ (y3 ok)else a_ (y3 r)) (TP X pins σ Q) X.xe s
theorem Cn:BR X [] (λ_ H Q=>Q b' H):=λpins s σ H Q I h=>wpAny_tests_nil ⟨H,I,h⟩
theorem Co(h:PT X c t):BR X [c] t:=λpins s σ H Q I hw=>wpAny_tests_one (h pins s σ H Q I hw)
def wk(wi:TI)(js:List (Option Nat))(g:TG)(tt:TT)(te:TE):TE:=λσ H Q=>wi σ H λJ H1=>∀p,H1 p=aC->
 ∃W:Nat->Nat->St->Hp->Prop,(∃m,W 0 m (lH js σ) (upd H1 p (.lst [])))/\∀i m σc Hc,W i m σc Hc->
  (J.stop i Hc/\Q (.ref p) Hc)\/(J.go i Hc/\∃N:St->Hp->Prop,(∀ σ' H',N σ' H'->∃m',m'<m/\W (i+1) m' σ' H')/\∀x H',J.yld i Hc x H'->g x σc H' λσ2 H2=>tt σ2 H2 λb H3=>
   if b=b' then te σ2 H3 λy H4=>∃xs,H4 p=ar (.lst xs)/\xs.length<sizeLine/\N σ2 (upd H4 p (.lst (xs++[y])))else N σ2 H3)
section
variable {X:Cx}{scope:Scope}{Nc:List Str}{js:List (Option Nat)}{pins:List (cq×Obj)}{σ:St}{H:Hp}{s:c_}
theorem CompScope.has(c:CompScope X scope Nc js)(Y:X.Ok):∀y∈scope.names,y.2= .free->∃a,X.env.cells.lookup y.1=ar a:=λy Z e=>Y.has y.1 (c.free y Z e)
theorem nB{O:f'}(c:CompScope X scope Nc js)(I:Inv X pins σ H s)(T:∀b∈ex,iS X pins H b)(K:∀b∈ex,b<s.heap.objs.size)
  (R:C=s.heap.objs.size) (hn:O.Ns C (λ_=>aC)) (hs:∀b o,s.heap.get? b=ar o->O.get? b=ar o)
  (B:∀p∈j1 (C+1) scope.names (kx X.env.cells scope.names []),p∈kx X.env.cells scope.names []\/O.IsCell p.2 aC):
  Inv (aV X scope Nc C ex s H) [] (lH js σ) H {s with heap:=O,toks:=tk}:=by
 have Y:=wj (cells:=X.env.cells) scope.names [] (c.has I.ok) (λ_ z=>nomatch z);have Q:∀x a,(kx X.env.cells scope.names []).lookup x=ar a->X.env.cells.lookup x=ar a:=λx a e=>Y _ (lookup_mem e);have w:∀b o,s.heap.get? b=ar o->b≠C:=λb o e=>by rw[R];exact J7 (JU e)
 have P:∀p∈kx X.env.cells scope.names [],p.2<C+1:=λp t=>by obtain⟨v,F,G,_⟩:=I.cell p.1 p.2 (Y p t);rw[R];exact LA (JU G)
 have Z:∀x a,(j1 (C+1) scope.names (kx X.env.cells scope.names [])).lookup x=ar a->X.env.cells.lookup x=ar a\/(C<a/\O.IsCell a aC):=λx a e=>by
  have hm:=lookup_mem e;rcases B _ hm with z|z
  ·exact .inl (Y _ z)
  ·rcases uL hm with y|y
   ·exact .inl (Y _ y)
   ·exact .inr ⟨y,z⟩
 refine⟨⟨I.ok.mod,c.kind,I.ok.glob,I.ok.blt,Lz R.symm,λx y a e1 e2=>uM P (λx y a e1 e2=>I.ok.inj x y a (Y _ e1) (Y _ e2)) x y a (lookup_mem e1) (lookup_mem e2),λx L=>?_,λx a z e=>?_,I.ok.hd,I.ok.frames,.inl rfl,λb W=>⟨?_,λx a e z=>?_⟩,
  I.bs,JX I.ok.bsz I.sz,λb o e W=>?_,λb W z=>?_,I.stack,I.stkFree⟩,rfl,I.bare,Un.kept hs,⟨_,hn,λi x v e1 e2 e3=>?_⟩,λx a e=>?_,?_,λx a e=>?_,(λp t=>nomatch t),I.hok.kept hs,?_⟩
 ·-- names that are cells here have one
  have E:scope.names.lookup x=ar .free\/scope.names.lookup x=ar .cell:=by
   rcases L with L|L
   ·rcases ic (env:=X.env) (names:=scope.names) L with z|⟨_,z⟩
    ·exact .inr z
    ·exact .inl z
   ·rcases ic (env:=X.env) (names:=scope.names) L with z|⟨z,_⟩
    ·exact .inl z
    ·cases z
  refine Ll.mp (L3 scope.names (C+1) _ ?_);rcases E with z|z
  ·exact .inr (Ll.mpr (mem_lookup (nA scope.names [] (.inl (cR z)))))
  ·exact .inl z
 ·-- the block's own cells are new
  have h:scope.names.lookup x=ar .cell:=by have:(scope.names.lookup x==ar .cell)=true:=z;simpa using this
  show s.heap.objs.size<=a;rw[<-R];exact L7 (uN (m:=C+1) scope.names (C+1) _ (.inl (cR h)) (JQ _) e)
 ·show b≠C;rw[R];exact J7 (K b W)
 ·rcases Z x a e with y|⟨y,_⟩
  ·exact(T b W).2.2.2.2.1 x a y z
  ·rw[z,R]at y;exact K1 _ (Nat.lt_trans y (K b W))
 ·have:b<X.base.objs.size:=JU e;rcases (T b W).2.2.2.1 with z|z
  ·exact I.ok.noex b o e z
  ·exact absurd (J1 this (JX I.ok.bsz z)) (K1 _)
 ·rcases J5.mp (I.stkSub b z)with e|e
  ·exact(T b W).2.1 e
  ·exact(T b W).2.2.1 e
 ·-- the names that are read from around
  have A:Nc[i]? =ar x:=e1;have:∃j,js[i]? =ar (ar j)/\σ[j]? =ar (ar v):=by
   unfold lH at e2;rw[Km]at e2;cases q:js[i]? with
   |none=>rw[q]at e2;cases e2
   | some o=>
    rw[q]at e2;cases o with
    |none=>cases e2
    |some j=>
     refine⟨j,rfl,?_⟩;have S:(σ[j]?).join=ar v:=Ka e2;cases r:σ[j]? with
     |none=>rw[r]at S;cases S
     |some z=>rw[r]at S;exact MS ar S
  obtain⟨j,hj,f⟩:=this;obtain⟨g,U⟩:=c.ix i x j A hj;obtain⟨m,l,hl⟩:=I.loc;have J:=c.free (x,.free) (cR U) rfl;have N:Du X.env.scope x:=by
   rcases J with z|z
   ·exact .inr (.inl z)
   ·exact .inr (.inr z)
  obtain⟨u,n,k⟩:=hl j x v g f N;refine⟨u,n,.inr ⟨?_,?_⟩⟩
  ·rcases kz (env:=X.env) U with z|z
   ·exact .inl z
   ·exact .inr z
  ·rcases k with⟨z,_⟩|⟨_,a,ea,ha⟩
   ·rcases J with y|y
    ·rw[show X.env.kindOf x=ar m2 from y]at z;cases z
    ·rw[show X.env.kindOf x=ar hY from y]at z;cases z
   ·obtain⟨b,W⟩:=mem_lookup (nA (cells:=X.env.cells) scope.names [] (.inl (cR U)));have:=Q x b W;rw[ea]at this;cases this;obtain⟨F,G,hd⟩:=ha;refine⟨a,?_,F,hs _ _ G,hd⟩;show(j1 (C+1) scope.names (kx X.env.cells scope.names [])).lookup x=ar a;rw[qM λy d e z=>by have:=c.cel y d e;rw[z,U]at this;cases this];exact W
 ·rcases Z x a e with y|⟨_,y⟩
  ·obtain⟨v,F,G,hd⟩:=I.cell x a y;exact⟨v,F,hs _ _ G,hd⟩
  ·exact⟨_,y⟩
 ·show H C=aC;rw[R];exact I.hok.fresh (JQ _)
 ·rcases Z x a e with y|⟨y,_⟩
  ·exact I.freeC x a y
  ·exact I.hok.fresh (by rw[<-R];exact LM y)
 ·show(lH js σ).length=Nc.length;unfold lH;rw[JN];exact c.len
theorem sG(I:Inv X pins σ H s)(Q:C=s.heap.objs.size)(Z:∀b∈ex,iS X pins H b)
  (T:Inv (aV X scope Nc C ex s H) [] σc H' s') (hs:y' C s'.heap h2):Inv X pins σ H' {s' with heap:=h2}:=by
 have W:∀b o,s.heap.get? b=ar o->b≠C:=λb o e=>by rw[Q];exact J7 (JU e)
 have B:=T.base;have u:Un (jU X.stack) ex H H' s.heap h2:={
  keep:=λb o e n Y U=>(hs.2 b (W b o e)).trans (B.keep b o e n Y U)
  slot:=λb o e n Y U=>by obtain⟨P,q⟩:=B.slot b o e n Y U;exact⟨P,(hs.2 b (W b o e)).trans q⟩
  free:=B.free
  there:=λb o e U=>by obtain⟨R,q⟩:=B.there b o e U;exact⟨R,(hs.2 b (W b o e)).trans q⟩
  tups:=B.tups
  frzs:=B.frzs
  tbls:=B.tbls}
 refine I.call' (s':={s' with heap:=h2}) (ch:=ex) T.os u (λb o e=>?_) T.bare λb Y=>⟨(Z b Y).2.2.2.1,(Z b Y).2.1,(Z b Y).2.2.2.2.1,(Z b Y).2.2.2.2.2⟩;have S:∀b o,H' b=ar o->b≠C:=λb o e z=>by have hf:H' C=none:=T.free;rw[z,hf]at e;cases e
 refine(T.hok b o e).stay (λd v hd q=>?_) (λ_ q=>q) λ_ _ q=>q;refine(hs.2 d ?_).trans q;rcases hd with z|z
 ·subst z;exact S _ _ e
 ·exact S _ _ z
theorem sH{Q:VK}(G:Option (b_->Sem Unit))(Qr:b_->c_->Prop)(c:CompScope X scope Nc js)(hc:X.calm=b')(hi:PI X tg iter wi)
  (b0:∀C ex s H,Inv X pins σ H s->(∀b∈ex,iS X pins H b)->PG (aV X scope Nc C ex s H) tg g/\BR (aV X scope Nc C ex s H) ifs tt/\PE (aV X scope Nc C ex s H) elt te)
  (I:Inv X pins σ H s) (h:wk wi js g tt te σ H Q)
  (t:∀p C s' S,Q (.ref p) S->(∀B,y' C s'.heap B->Inv X pins σ S {s' with heap:=B})->(∃m,s'.heap.Ns C m)->iS X pins S C->
   Ow (e_ X.prog X.w) X.A X.xe G Qr (.ref p) C (.ok .next) s')
  (hs:∀x,hI iter X.env x=a_ x:=by intro _;rfl):
  ed (e_ X.prog X.w) X.A (comprehension (.ListComp elt [⟨tg,iter,ifs,0⟩] scope pos) scope X.env pos' (newList []) dr (i4 iter X.env) G) Qr X.xe s:=by
 refine wpAny_comprehension_free rfl hs (ky scope X.env (c.has I.ok)) c.kind c.loc (dq (hi pins s σ H _ I h) λv s1 F=>dq F λc0 s2 B=>?_);obtain⟨it,Y,tn,J,U,e,I2,T,l,f2,hW⟩:=B;subst e;refine KG (pS λF R O K=>?_);dsimp only at R O K⊢;obtain⟨W,⟨m0,w0⟩,turn⟩:=hW s2.heap.objs.size (I2.hok.fresh (JQ _));have f:Inv X pins σ (upd U s2.heap.objs.size (.lst [])) {s2 with heap:=s2.heap.push {cls:=.type "list",dict:=aC,data:=.seq ([]:List b_).toArray}}:=
  I2.laid (t':=s2.toks) (λ_ _ q=>JO _ q) (JQ _) ⟨Kk _,[],0,.nil,J0 _ rfl⟩
 generalize hS3:({s2 with heap:=s2.heap.push {cls:=.type "list",dict:=aC,data:=.seq ([]:List b_).toArray}}:c_)=s3 at f;have e3:s3.heap=s2.heap.push {cls:=.type "list",dict:=aC,data:=.seq ([]:List b_).toArray}:=by rw[<-hS3]
 rw[<-e3]at R O K⊢;generalize hp:s2.heap.objs.size=p at*;have E:∀b∈Y,b<p:=λb Z=>by obtain⟨o,e,_⟩:=T.obj _ _ l b Z;rw[<-hp];exact JU e
 have b2:∀b∈Y,b≠p:=λb Z=>J7 (E b Z);have a:∀b∈Y,iS X pins (upd U p (.lst [])) b:=λb Z=>⟨by rw[aK (b2 b Z)];exact(f2 b Z).1,(f2 b Z).2⟩;have j:s3.heap.objs.size=p+1:=by rw[e3,KZ,hp]
 have k:∀b∈Y,b<s3.heap.objs.size:=λb Z=>by rw[j];exact LA (E b Z)
 have L:∀b o,s3.heap.get? b=ar o->F.get? b=ar o:=O;have b1:tn 0 F:=T.keep _ _ _ l λb Z o e=>L b o (by rw[e3];exact JO _ e);generalize hC:s3.heap.objs.size=C at*;have a9:F.Ns C (λ_=>aC):=by simpa using R
 have start:∀tk,Inv (aV X scope Nc C Y s3 (upd U p (.lst []))) [] (lH js σ) (upd U p (.lst [])) {s3 with heap:=F,toks:=tk}:=λtk=>nB c f a (λb Z=>by rw[hC];exact k b Z) hC.symm a9 L K;have ok:=(start 0).ok;have P:∀{S:Hp},(∀b∈Y,S b=aC)->∀b∈Y,iS (aV X scope Nc C Y s3 (upd U p (.lst []))) [] S b:=λhn b Z=>
  ⟨hn b Z,(ok.exf b Z).1,ok.exfs b Z,.inl Z,(ok.exf b Z).2,λ_ z=>nomatch z⟩
 obtain⟨hG,hT,hE⟩:=b0 C Y s3 (upd U p (.lst [])) f a;have loop:∀s':c_,Inv (aV X scope Nc C Y s3 (upd U p (.lst []))) [] (lH js σ) (upd U p (.lst [])) s'->tn 0 s'.heap->
   r_ (e_ X.prog X.w) X.A (.compLoop (.ListComp elt [⟨tg,iter,ifs,0⟩] scope pos) 0 (.ref it) (.ref p) (aV X scope Nc C Y s3 (upd U p (.lst []))).env) (Ow (e_ X.prog X.w) X.A X.xe G Qr (.ref p) C) s':=by
  intro s' I' a6;refine codeAny_loop rfl (λn s'=>∃i σ' S,Inv (aV X scope Nc C Y s3 (upd U p (.lst []))) [] σ' S s'/\tn i s'.heap/\(∀b∈Y,S b=aC)/\W i n σ' S) ?_ m0 ⟨0,_,_,I',a6,λb Z=>(a b Z).1,w0⟩;rintro n s4 ⟨i,σ4,H4,I4,st4,fr4,w4⟩;show ed _ X.A ((NM (.ListComp elt [⟨tg,iter,ifs,0⟩] scope pos) 0 (.ref it) (.ref p) (aV X scope Nc C Y s3 (upd U p (.lst []))).env).onRaise (λx=>do z_ x (aV X scope Nc C Y s3 (upd U p (.lst []))).env;theTreesLotGoes x)) _ _ s4;refine wpAny_noted ?_;rw[compTurn_list];refine JM (Kw (JM ?_));rcases turn i n σ4 H4 w4 with⟨stop,qn⟩|⟨go,N,hN,step⟩
  ·refine Kb (T.done (aV X scope Nc C Y s3 (upd U p (.lst []))) rfl rfl rfl hc i [] s4 σ4 H4 (λ_ _=>False) I4 (P fr4) st4 stop) (λr s5 ⟨hr,I5⟩=>?_) λ_ _ z=>z.elim;subst hr;refine JR (t p C s5 H4 qn (λB a3=>sG f hC.symm a I5 a3) ?_ (f.fpOk (Lz hC) I5.free));obtain⟨m,hm,_⟩:=I5.loc;exact⟨m,hm⟩
  ·refine Kb (T.item (aV X scope Nc C Y s3 (upd U p (.lst []))) rfl rfl rfl hc i [] s4 σ4 H4 (λ_ _=>False) I4 (P fr4) st4 go) (λr s5 ⟨u,hr,h5⟩=>?_) λ_ _ z=>z.elim;subst hr;refine JM (Kb h5 (λ_ s6 ⟨x,H6,I6,r6,y6,st6,fr6⟩=>?_) λ_ _ z=>z.elim);have a4:=I6.pinned (P fr6) (T.obj _ _ st6);refine JM (Kb (hG _ s6 σ4 H6 x u _ a4 r6 (step x H6 y6)) (λ_ s7 ⟨σ7,H7,I7,q7⟩=>?_) λ_ _ z=>z.elim);refine JM (Kb (hT _ s7 σ7 H7 _ I7 q7) (λb s8 ⟨H8,I8,q8⟩=>?_) λ_ _ z=>z.elim);have NC:∀{σ9:St} {H9:Hp} {s9:c_},Inv (aV X scope Nc C Y s3 (upd U p (.lst []))) ([]++lA Y s6.heap) σ9 H9 s9->N σ9 H9->
     ∃m,m<n/\∃i σ' S,Inv (aV X scope Nc C Y s3 (upd U p (.lst []))) [] σ' S s9/\tn i s9.heap/\(∀b∈Y,S b=aC)/\W i m σ' S:=λ{σ9 H9 s9} I9 n9=>by
    obtain⟨m',hm,w9⟩:=hN σ9 H9 n9;refine⟨m',hm,i+1,σ9,H9,I9.unpinned,T.keep _ _ _ st6 λb Z o e=>(I9.pin (b,o) (Kc _ (Kc _ (eN Z e)))).1,λb Z=>?_,w9⟩;obtain⟨o,e,d⟩:=T.obj _ _ st6 b Z;exact(I9.pin (b,o) (Kc _ (Kc _ (eN Z e)))).2.1
   cases b with
   |false=>exact JR ⟨rfl,NC I8 q8⟩
   |true=>
    refine JM (JM (Kb (hE _ s8 σ7 H8 _ I8 q8) (λy s9 ⟨yv,H9,I9,r9,q9⟩=>?_) λ_ _ z=>z.elim));obtain⟨xs,hx,hl,n9⟩:=q9;refine JM (Kb (lE (X:=aV X scope Nc C Y s3 (upd U p (.lst []))) _ s9 σ7 H9 (.ref p) [yv] (.ref p) [y] (λ_ S=>N σ7 S) I9 rfl (.cons r9 .nil) ⟨p,xs,yv,rfl,rfl,hx,hl,n9⟩) (λ_ s10 ⟨_,H10,I10,_,q10⟩=>?_) λ_ _ z=>z.elim);exact JR (JR ⟨rfl,NC I10 q10⟩)
 refine codeAny_compStart_list (loop _ ?_ ?_) (T.self _ 0 _ _ _ ?_ (loop _ ?_ ?_))
 all_goals first
  |exact b1
  |(subst hS3;exact start _)
theorem wm(c:CompScope X scope Nc js)(R:X.calm=b')(P:PI X tg iter wi)
  (Y:∀C ex s H,PG (aV X scope Nc C ex s H) tg g/\BR (aV X scope Nc C ex s H) ifs tt/\PE (aV X scope Nc C ex s H) elt te)
  (hs:∀x,hI iter X.env x=a_ x:=by intro _;rfl):PE X (.ListComp elt [⟨tg,iter,ifs,0⟩] scope pos) (wk wi js g tt te):=by
 intro pins s σ H Q I h;rw[eval_ListComp];refine sH aC _ c R P (λC ex s H _ _=>Y C ex s H) I h (λp C s' W q U T _=>?_) hs;obtain⟨m,hm⟩:=T;exact⟨m,hm,λS Z=>⟨.ref p,W,U S Z,rfl,q⟩⟩
theorem uO{pos:Pos}(R:X.N.Nodup)(U:X.N[i]? =ar x)(O:Loc X.env.scope x)
  (c:CompScope X scope Nc js) (J:X.calm=b') (G:PI X tg iter wi)
  (W:∀C ex s H,PG (aV X scope Nc C ex s H) tg g/\BR (aV X scope Nc C ex s H) ifs tt/\PE (aV X scope Nc C ex s H) elt te)
  (T:nC (.ListComp elt [⟨tg,iter,ifs,0⟩] scope cpos) (ar (.Name x pos')) pos.line X.env=a_ true:=by rfl)
  (E:X.fn x=b'\/X.env.scope.names.lookup x=ar .local:=by first|exact .inl rfl|exact .inr rfl|assumption)
  (hs:∀x,hI iter X.env x=a_ x:=by intro _;rfl):PS X (.Assign [.Name x pos'] (.ListComp elt [⟨tg,iter,ifs,0⟩] scope cpos) pos) (Ej (wk wi js g tt te) (zb i)):=by
 intro pins s σ H D I h;rw[exec_Assign_Name_used _ _ _ _ T];refine JM (Kw (JM ?_));show ed _ X.A (do let _<-comprehension (.ListComp elt [⟨tg,iter,ifs,0⟩] scope cpos) scope X.env _ (newList []) dr (i4 iter X.env) (ar (K_ (.Name x pos') X.env))) _ _ s;refine JM (dq (sH (ar (K_ (.Name x pos') X.env)) (λ_ s'=>SP X pins D .next s') c J G (λC ex s H _ _=>W C ex s H) I h (λp C s' S q Q K Z=>?_) hs) λ_ s' q=>JR (JR q));obtain⟨m,hm⟩:=K;have F:Inv X pins σ S s':=Q s'.heap (.refl ..);refine wpAny_assign_Name (pJ F R U O (v:=.ref p) rfl (λs'' I'' ⟨a,hsb,ha⟩=>?_) E);have L:C≠a:=by
  rcases ha with z|z
  ·rw[z];exact Z.2.1
  ·exact λe=>Z.2.2.2.2.1 x a z e.symm
 refine⟨m,hm.sameBut hsb L,λB Y=>?_⟩;exact⟨_,S,I''.turned (t':=s''.toks) (it:=C) (λb o P e=>(Y.2 b P).trans e) Z.1 Z.2.1 Z.2.2.2.1 Z.2.2.2.2.1 Z.2.2.2.2.2,q⟩
end
inductive D where
 |non|bl (b:Bool)|int (i:Int)|str (x:Str)|tup (ds:List D)|lst (k:Nat)|ro (ds:List D)|emp
 |fn (a c:cq) (q:Str) (ds:List D) (vs:List V)|exc (x:Str) (ds:List D)
 |fz (ds:List D)
abbrev aB:=List (List D)
inductive Res(α:Type) where
 |ok (a:α)|ex (x:D)
def M(α:Type):=aB->Option (Res α×aB)
namespace M
def ret{α:Type}(a:α):M α:=λS=>ar (.ok a,S)
def bnd{α β:Type}(m:M α)(f:α->M β):M β:=λS=>match m S with
 |some (.ok a,S')=>f a S'
 |some (.ex x,S')=>ar (.ex x,S')
 |none=>aC
def fail{α:Type}:M α:=λ_=>aC
def raise{α:Type}(x:D):M α:=λS=>ar (.ex x,S)
noncomputable instance:Monad M where
 pure:=ret
 bind:=bnd
end M
def JE(K:dn)(a:cq)(xs:List V):Prop:=∃(o:Obj) (its:Array b_) (n:Nat),K.lookup a=ar o/\o.cls= .type "list"/\o.dict=aC/\o.data= .seq its n/\its.size<=sizeLine/\bh xs its.toList
def BS(K:dn)(H:Hp)(a:cq)(vs:List V):Prop:=(∃o,H a=ar (.frz o (.lst vs)))\/JE K a vs
theorem BS.sq{K:dn}{H:Hp}{a:cq}{vs:List V}(h:BS K H a vs):iR K H a vs:=h.imp (λ⟨o,e⟩=>.inr ⟨o,e⟩) λz=>z
def GU(C a:cq)(od:Option cq):f'->Prop:=λh=>∃oe vs,h.get? a=ar oe/\oe.cls= .ref C/\oe.dict=od/\oe.data= .fields vs
def Cp(qual:Str)(c:cq):f'->Prop:=λh=>h.CodeRec (.ref c) qual
def cF:List Str:=["law","_law_within_right","_law_refusals_right","_law_sharings_right","_law_right","_law_lists_right","_law_papers_right","_law_great_right","_law_told_right","_law_desks_right","_law_texts_right"]
def TabsOk(K:dn)(H:Hp):Prop:=∀x∈cF,∀c P,lk K x=ar (c,P)->∃ps,H P=ar (.tbl ps)/\TriplesOk ps.toList/\
 ∀pos cv,codeAmong pos ps.toList=ar cv->∃c',cv= .ref c'/\H c'=ar (.ext (Cp (x++".<locals>.<lambda>") c'))
theorem TabsOk.mono{K:dn}{H Z:Hp}(h:TabsOk K H)(k:∀a o,H a=ar o->(∀vs,o≠ .lst vs)->Z a=ar o):TabsOk K Z:=λx X c P e=>
 let ⟨ps,h1,h2,h3⟩:=h x X c P e
 ⟨ps,k _ _ h1 (by intro _ z;cases z),h2,λpos Y q=>let ⟨c',e1,e2⟩:=h3 pos Y q;⟨c',e1,k _ _ e2 (by intro _ z;cases z)⟩⟩
mutual
inductive RelD(K:dn)(ι:List cq)(H:Hp):D->V->Prop where
 |non:RelD K ι H .non .non
 |bl (b:Bool):RelD K ι H (.bl b) (.bl b)
 |int (i:Int):RelD K ι H (.int i) (.int i)
 |str (x:Str):RelD K ι H (.str x) (.str x)
 |tup {a:cq} {ds:List D} {vs:List V}:H a=ar (.tup vs)->RelDs K ι H ds vs->RelD K ι H (.tup ds) (.ref a)
 |lst {a:cq} {k:Nat}:ι[k]? =ar a->RelD K ι H (.lst k) (.ref a)
 |ro {a:cq} {ds:List D} {vs:List V}:BS K H a vs->RelDs K ι H ds vs->RelD K ι H (.ro ds) (.ref a)
 |emp {a:cq}:H a=ar (.dK [])->RelD K ι H .emp (.ref a)
 |fn {a c:cq} {q:Str} {ds:List D} {vs:List V}:H c=ar (.ext (Cp q c))->RelDs K ι H ds vs->RelD K ι H (.fn a c q ds vs) (.ref a)
 |exc {a C:cq} {x:Str}:pd K g_ x=ar (ar (.ref C))->H a=ar (.ext (GU C a aC))->RelD K ι H (.exc x []) (.ref a)
 |excF {a C dx:cq} {x:Str} {fs:List (Str×V)} {ds:List D}:pd K g_ x=ar (ar (.ref C))->H a=ar (.ext (GU C a (ar dx)))->H dx=ar (.xd fs)->fs.map (·.1)=([("many":Str),("most":Str)]:List Str)->RelDs K ι H ds (fs.map (·.2))->RelD K ι H (.exc x ds) (.ref a)
 |fz {a:cq} {o:Obj} {ds:List D} {vs:List V}:H a=ar (.frz o (.lst vs))->RelDs K ι H ds vs->RelD K ι H (.fz ds) (.ref a)
inductive RelDs(K:dn)(ι:List cq)(H:Hp):List D->List V->Prop where
 |nil:RelDs K ι H [] []
 |cons {d:D} {v:V} {ds:List D} {vs:List V}:RelD K ι H d v->RelDs K ι H ds vs->RelDs K ι H (d::ds) (v::vs)
end
structure Rep(K:dn)(ι:List cq)(H:Hp)(S:aB):Prop where
 nd:ι.Nodup
 len:ι.length=S.length
 get:∀(k:Nat) (a:cq) (xs:List D),ι[k]? =ar a->S[k]? =ar xs->∃vs,H a=ar (.lst vs)/\RelDs K ι H xs vs
 tab:TabsOk K H
structure Ext(ι:List cq)(H:Hp)(ι':List cq)(H':Hp):Prop where
 ids:∃more,ι'=ι++more
 oth:∀a o,H a=ar o->a∉ι->(∀ps,o≠ .tbl ps)->H' a=ar o/\a∉ι'
structure ExtN(ι:List cq)(H:Hp)(ι':List cq)(H':Hp):Prop where
 ids:∃more,ι'=ι++more
 oth:∀a o,H a=ar o->a∉ι->(∀ps,o≠ .tbl ps)->(∀vs,o≠ .lst vs)->H' a=ar o/\a∉ι'
theorem Ext.n{X Z:List cq}{H Y:Hp}(e:Ext X H Z Y):ExtN X H Z Y:=⟨e.ids,λa o h n t _=>e.oth a o h n t⟩
theorem Ext.refl{Z:List cq}{H:Hp}:Ext Z H Z H:=⟨⟨[],by simp⟩,λ_ _ h n _=>⟨h,n⟩⟩
theorem Ext.trans{W Z Y:List cq}{H X U:Hp}(a:Ext W H Z X)(b:Ext Z X Y U):Ext W H Y U:=by obtain⟨T,e1⟩:=a.ids;obtain⟨S,e2⟩:=b.ids;exact⟨⟨T++S,by rw[e2,e1,Lm]⟩,λc o h n t=>let ⟨h1,n1⟩:=a.oth c o h n t;b.oth c o h1 n1 t⟩
theorem ExtN.at{Y Z:List cq}{H W:Hp}(e:ExtN Y H Z W){k:Nat}{a:cq}(h:Y[k]? =ar a):Z[k]? =ar a:=by obtain⟨m,rfl⟩:=e.ids;have X:k<Y.length:=(JV.mp h).1;rw[Kq X];exact h
section
variable {K:dn}{ι ι':List cq}{H H':Hp}{S:aB}
theorem Rep.isL(r:Rep K ι H S)(h:a∈ι):∃vs,H a=ar (.lst vs):=by
 obtain⟨k,Y,e⟩:=List.mem_iff_getElem.mp h;have Z:k<S.length:=by rw[<-r.len];exact Y
 obtain⟨vs,X,_⟩:=r.get k a (S[k]) (by rw[JP Y,e]) (JP Z);exact⟨vs,X⟩
theorem Rep.notIn(r:Rep K ι H S)(h:H a=ar o)(Z:∀vs,o≠ .lst vs):a∉ι:=λz=>by obtain⟨vs,e⟩:=r.isL z;rw[h]at e;exact Z vs (Ka e)
theorem Rep.free(r:Rep K ι H S)(h:H a=aC):a∉ι:=λz=>by obtain⟨vs,e⟩:=r.isL z;rw[h]at e;cases e
mutual
theorem RelD.laterN(r:Rep K ι H S)(e:ExtN ι H ι' H'):∀{d:D} {v:V},RelD K ι H d v->RelD K ι' H' d v
 |_,_,.non=>.non
 |_,_,.bl b=>.bl b
 |_,_,.int i=>.int i
 |_,_,.str x=>.str x
 |_,_,.tup h hs=>.tup (e.oth _ _ h (r.notIn h (by intro _ z;cases z)) (by intro _ z;cases z) (by intro _ z;cases z)).1 (RelDs.laterN r e hs)
 |_,_,.lst h=>.lst (e.at h)
 |_,_,.ro h hs=>.ro (h.imp (λ⟨o,h⟩=>⟨o,(e.oth _ _ h (r.notIn h (by intro _ z;cases z)) (by intro _ z;cases z) (by intro _ z;cases z)).1⟩) λz=>z) (RelDs.laterN r e hs)
 |_,_,.emp h=>.emp (e.oth _ _ h (r.notIn h (by intro _ z;cases z)) (by intro _ z;cases z) (by intro _ z;cases z)).1
 |_,_,.fn h hs=>.fn (e.oth _ _ h (r.notIn h (by intro _ z;cases z)) (by intro _ z;cases z) (by intro _ z;cases z)).1 (RelDs.laterN r e hs)
 |_,_,.exc n h=>.exc n (e.oth _ _ h (r.notIn h (by intro _ z;cases z)) (by intro _ z;cases z) (by intro _ z;cases z)).1
 |_,_,.excF n h h2 hn hs=>.excF n (e.oth _ _ h (r.notIn h (by intro _ z;cases z)) (by intro _ z;cases z) (by intro _ z;cases z)).1 (e.oth _ _ h2 (r.notIn h2 (by intro _ z;cases z)) (by intro _ z;cases z) (by intro _ z;cases z)).1 hn (RelDs.laterN r e hs)
 |_,_,.fz h hs=>.fz (e.oth _ _ h (r.notIn h (by intro _ z;cases z)) (by intro _ z;cases z) (by intro _ z;cases z)).1 (RelDs.laterN r e hs)
theorem RelDs.laterN(r:Rep K ι H S)(e:ExtN ι H ι' H'):∀{ds:List D} {vs:List V},RelDs K ι H ds vs->RelDs K ι' H' ds vs
 |_,_,.nil=>.nil
 |_,_,.cons h hs=>.cons (RelD.laterN r e h) (RelDs.laterN r e hs)
end
theorem RelD.later(r:Rep K ι H S)(e:Ext ι H ι' H'){d:D}{v:V}(h:RelD K ι H d v):RelD K ι' H' d v:=RelD.laterN r e.n h
theorem RelDs.later(r:Rep K ι H S)(e:Ext ι H ι' H'){ds:List D}{vs:List V}(h:RelDs K ι H ds vs):RelDs K ι' H' ds vs:=RelDs.laterN r e.n h
theorem RelDs.length:∀{ds:List D} {vs:List V},RelDs K ι H ds vs->ds.length=vs.length
 |_,_,.nil=>rfl
 |_,_,.cons _ t=>by rw[Ki,Ki,RelDs.length t]
theorem RelDs.append:∀{ds es:List D} {vs ws:List V},RelDs K ι H ds vs->RelDs K ι H es ws->RelDs K ι H (ds++es) (vs++ws)
 |_,_,_,_,.nil,s=>s
 |_,_,_,_,.cons r t,s=>.cons r (RelDs.append t s)
theorem RelDs.get':∀{ds:List D} {vs:List V} {i:Nat} {d:D},RelDs K ι H ds vs->ds[i]? =ar d->∃v,vs[i]? =ar v/\RelD K ι H d v
 |_,_,_,_,.nil,e=>by simp at e
 |_,_,0,_,.cons r _,e=>by simp at e;subst e;exact⟨_,rfl,r⟩
 |_,_,i+1,v,.cons _ t,e=>by
  obtain⟨u,Z,Y⟩:=RelDs.get' (i:=i) t (by simpa using e);exact⟨u,by simpa using Z,Y⟩
theorem RelDs.take:∀{ds:List D} {vs:List V} (n:Nat),RelDs K ι H ds vs->RelDs K ι H (ds.take n) (vs.take n)
 |_,_,0,_=>.nil
 |_,_,_+1,.nil=>.nil
 |_,_,n+1,.cons r t=>.cons r (RelDs.take n t)
theorem RelDs.drop:∀{ds:List D} {vs:List V} (n:Nat),RelDs K ι H ds vs->RelDs K ι H (ds.drop n) (vs.drop n)
 |_,_,0,r=>r
 |_,_,_+1,.nil=>.nil
 |_,_,n+1,.cons _ t=>RelDs.drop n t
theorem RelDs.set(r:RelD K ι H d v):∀{ds:List D} {vs:List V} (i:Nat),RelDs K ι H ds vs->RelDs K ι H (ds.set i d) (vs.set i v)
 |_,_,_,.nil=>.nil
 |_,_,0,.cons _ t=>.cons r t
 |_,_,i+1,.cons q t=>.cons q (RelDs.set r i t)
theorem RelDs.eraseIdx:∀{ds:List D} {vs:List V} (i:Nat),RelDs K ι H ds vs->RelDs K ι H (ds.eraseIdx i) (vs.eraseIdx i)
 |_,_,_,.nil=>.nil
 |_,_,0,.cons _ t=>t
 |_,_,i+1,.cons q t=>.cons q (RelDs.eraseIdx i t)
theorem ie(Z:H p=aC):Ext ι H ι (upd H p o):=⟨⟨[],by simp⟩,λa Y h n _=>⟨by rw[aK (aO h Z)];exact h,n⟩⟩
theorem kA{p:cq}{o:HO}(r:Rep K ι H S)(Z:H p=aC):Rep K ι (upd H p o) S:=by refine⟨r.nd,r.len,λk a xs e1 e2=>?_,r.tab.mono λb o h _=>by rw[aK (aO h Z)];exact h⟩;obtain⟨vs,Y,X⟩:=r.get k a xs e1 e2;exact⟨vs,by rw[aK (aO Y Z)];exact Y,RelDs.later r (ie Z) X⟩
theorem sI(Z:H p=aC):Ext ι H (ι++[p]) (upd H p o):=⟨⟨[p],rfl⟩,λa Y h n _=>⟨by rw[aK (aO h Z)];exact h,by have:a≠p:=aO h Z;simp[n,this]⟩⟩
theorem zI{p:cq}{xs:List D}{vs:List V}(r:Rep K ι H S)(Z:H p=aC)(h:RelDs K ι H xs vs):Rep K (ι++[p]) (upd H p (.lst vs)) (S++[xs]):=by
 have U:Ext ι H (ι++[p]) (upd H p (.lst vs)):=sI Z;refine⟨?_,by simp[r.len],λk a ys e1 e2=>?_,r.tab.mono λb o h _=>by rw[aK (aO h Z)];exact h⟩
 ·rw[List.nodup_append];refine⟨r.nd,by simp,λa R b T=>?_⟩;have:b=p:=by simpa using T
  subst this;rintro rfl;exact r.free Z R
 ·by_cases hk:k<ι.length
  ·rw[Kq hk]at e1;rw[Kq (by rw[<-r.len];exact hk)]at e2;obtain⟨ws,X,Q⟩:=r.get k a ys e1 e2;exact⟨ws,by rw[aK (aO X Z)];exact X,RelDs.later r U Q⟩
  ·have Y:k<(ι++[p]).length:=(JV.mp e1).1;have:k=ι.length:=by simp at Y;omega
   subst this;simp at e1;rw[r.len]at e2;simp at e2;subst e1 e2;exact⟨vs,aY,RelDs.later r U h⟩
theorem nD:∀{l:List cq} {i j:Nat} {a:cq},l.Nodup->l[i]? =ar a->l[j]? =ar a->i=j
 |[],i,j,a,_,h,_=>by simp at h
 |x::r,0,0,a,_,_,_=>rfl
 |x::r,0,j+1,a,hn,h1,h2=>by
  simp at h1 h2;subst h1;exact absurd (Kn h2) (Kz.mp hn).1
 |x::r,i+1,0,a,hn,h1,h2=>by
  simp at h1 h2;subst h2;exact absurd (Kn h1) (Kz.mp hn).1
 |x::r,i+1,j+1,a,hn,h1,h2=>by
  simp at h1 h2;rw[nD (Kz.mp hn).2 h1 h2]
theorem qO(Z:a∈ι):Ext ι H ι (upd H a o):=⟨⟨[],by simp⟩,λb Y h n _=>⟨by rw[aK (λz=>n (by rw[z];exact Z))];exact h,n⟩⟩
theorem qP{a:cq}{k:Nat}{xs:List D}{vs:List V}(r:Rep K ι H S)(Z:ι[k]? =ar a)(h:RelDs K ι H xs vs):Rep K ι (upd H a (.lst vs)) (S.set k xs):=by
 have Y:a∈ι:=Kn Z;have X:Ext ι H ι (upd H a (.lst vs)):=qO Y;refine⟨r.nd,by simp[r.len],λj b ys e1 e2=>?_,r.tab.mono λb o h n=>by obtain⟨ws,hw⟩:=r.isL Y;rw[aK (λz=>by subst z;rw[h]at hw;exact n ws (Ka hw))];exact h⟩
 by_cases hj:j=k
 ·subst hj;rw[Z]at e1;cases e1;have Q:j<S.length:=by rw[<-r.len];exact(JV.mp Z).1
  rw[KN Q]at e2;cases e2;exact⟨vs,aY,RelDs.later r X h⟩
 ·rw[KJ (k8 hj)]at e2;obtain⟨ws,T,R⟩:=r.get j b ys e1 e2;have U:b≠a:=by
   rintro rfl;exact hj (nD r.nd e1 Z)
  exact⟨ws,by rw[aK U];exact T,RelDs.later r X R⟩
end
abbrev XD:=D->List cq->aB->Hp->Prop
def cont(K:dn)(E:XD){α:Type}(c:M α)(ι:List cq)(S:aB)(H:Hp)(Q:α->List cq->aB->Hp->Prop):Prop:=
 ∃r S',c S=ar (r,S')/\∀ ι' H',Ext ι H ι' H'->Rep K ι' H' S'->match r with
  | .ok a=>Q a ι' S' H'
  | .ex x=>E x ι' S' H'
section
variable {K:dn}{E:XD}{ι:List cq}{S:aB}{H:Hp}{α β:Type}
theorem ag{c:M α}{f:α->M β}{Q:β->List cq->aB->Hp->Prop}(h:cont K E (c>>=f) ι S H Q):cont K E c ι S H (λa Z S1 X=>cont K E (f a) Z S1 X Q):=by
 obtain⟨r,R,e,k⟩:=h;have Y:M.bnd c f S=ar (r,R):=e;unfold M.bnd at Y;cases q:c S with
 |none=>rw[q]at Y;cases Y
 | some p=>
  obtain⟨P,S1⟩:=p;rw[q]at Y;cases P with
  |ok a=>exact⟨.ok a,S1,q,λZ X U rep1=>⟨r,R,Y,λT N O rep2=>k T N (U.trans O) rep2⟩⟩
  |ex x=>
   cases Y;exact⟨.ex x,_,q,λZ X U rep1=>k Z X U rep1⟩
theorem ao{c:M α}{Q U:α->List cq->aB->Hp->Prop}(h:cont K E c ι S H Q)(k:∀a ι' Z H',Ext ι H ι' H'->Rep K ι' H' Z->Q a ι' Z H'->U a ι' Z H'):cont K E c ι S H U:=by
 obtain⟨r,Z,e,q⟩:=h;refine⟨r,Z,e,λY T X rep1=>?_⟩;have:=q Y T X rep1;cases r with
 |ok a=>exact k a Y Z T X rep1 this
 |ex x=>exact this
theorem ai{a:α}{Q:α->List cq->aB->Hp->Prop}(h:cont K E (a_ a) ι S H Q){Z:List cq}{Y:Hp}(x:Ext ι H Z Y)(r:Rep K Z Y S):Q a Z S Y:=by obtain⟨X,U,e,q⟩:=h;cases e;exact q Z Y x r
theorem ah{Q:α->List cq->aB->Hp->Prop}(h:cont K E (M.fail) ι S H Q):False:=by obtain⟨Z,Y,e,q⟩:=h;cases e
end
abbrev aA:=List (Option D)
inductive RelE(K:dn)(ι:List cq)(H:Hp):aA->St->Prop where
 |nil:RelE K ι H [] []
 |cons {o:Option D} {u:Option V} {ρ:aA} {σ:St}:(∀d,o=ar d->∃v,u=ar v/\RelD K ι H d v)->RelE K ι H ρ σ->RelE K ι H (o::ρ) (u::σ)
section
variable {K:dn}{ι ι':List cq}{S:aB}{H H':Hp}
theorem RelE.later(r:Rep K ι H S)(e:Ext ι H ι' H'):∀{ρ:aA} {σ:St},RelE K ι H ρ σ->RelE K ι' H' ρ σ
 |_,_,.nil=>.nil
 |_,_,.cons h t=>.cons (λd z=>let ⟨v,e1,e2⟩:=h d z;⟨v,e1,RelD.later r e e2⟩) (RelE.later r e t)
theorem RelE.get:∀{ρ:aA} {σ:St} {i:Nat} {d:D},RelE K ι H ρ σ->ρ[i]? =ar (ar d)->∃v,σ[i]? =ar (ar v)/\RelD K ι H d v
 |_,_,_,_,.nil,e=>by simp at e
 |_,_,0,_,.cons h _,e=>by
  simp at e;obtain⟨v,e1,e2⟩:=h _ e;exact⟨v,by simp[e1],e2⟩
 |_,_,i+1,_,.cons _ t,e=>by
  obtain⟨v,Z,Y⟩:=RelE.get (i:=i) t (by simpa using e);exact⟨v,by simpa using Z,Y⟩
theorem RelE.set(r:RelD K ι H d v):∀{ρ:aA} {σ:St} (i:Nat),RelE K ι H ρ σ->RelE K ι H (ρ.set i (ar d)) (σ.set i (ar v))
 |_,_,_,.nil=>.nil
 |_,_,0,.cons _ t=>.cons (λd' z=>by cases z;exact⟨v,rfl,r⟩) t
 |_,_,i+1,.cons q t=>.cons q (RelE.set r i t)
theorem RelE.start:∀{ds:List D} {vs:List V},RelDs K ι H ds vs->∀n,RelE K ι H (ds.map ar++eb n aC) (vs.map ar++eb n aC)
 |_,_,.nil,n=>by
  induction n with
  |zero=>exact .nil
  |succ n ih=>exact .cons (λd z=>by cases z) ih
 |_,_,.cons r t,n=>.cons (λd z=>by cases z;exact⟨_,rfl,r⟩) (RelE.start t n)
end
abbrev TM:=aA->M D
def mq(K:dn)(Q:VK):D->List cq->aB->Hp->Prop:=λd ι' _ H'=>∀v,RelD K ι' H' d v->Q v H'
def tM(K:dn)(E:XD)(m:TM):TE:=λσ H Q=>∃ ι S ρ,Rep K ι H S/\RelE K ι H ρ σ/\cont K E (m ρ) ι S H (mq K Q)
def SE(X:Cx)(E:XD)(e:Expr)(m:TM):Prop:=PE X e (tM X.K E m)
def uP(K:dn)(E:XD)(m:aA->M Bool):TT:=λσ H Q=>∃ ι S ρ,Rep K ι H S/\RelE K ι H ρ σ/\cont K E (m ρ) ι S H (λb _ _ H'=>Q b H')
def SB(X:Cx)(E:XD)(e:Expr)(m:aA->M Bool):Prop:=PT X e (uP X.K E m)
def EO(X:Cx)(E:XD)(e:Expr)(m:aA->M Bool):Prop:=PW X e (uP X.K E m)
def IM(K:dn)(E:XD)(m:aA->M (List D)):TA:=λσ H Q=>∃ ι S ρ,Rep K ι H S/\RelE K ι H ρ σ/\cont K E (m ρ) ι S H (λds ι' _ H'=>∀vs,RelDs K ι' H' ds vs->Q vs H')
def SA(X:Cx)(E:XD)(es:List Expr)(m:aA->M (List D)):Prop:=PA X es (IM X.K E m)
inductive Out where
 |nx (ρ:aA)|ret (d:D)|bk (ρ:aA)|ct (ρ:aA)
abbrev cT:=aA->M Out
def ER(K:dn)(T:Ends):Out->List cq->aB->Hp->Prop:=λo ι' _ H'=>match o with
 | .nx ρ=>∀ σ,RelE K ι' H' ρ σ->T.nx σ H'
 | .ret d=>∀v,RelD K ι' H' d v->T.rt v H'
 | .bk ρ=>∀ σ,RelE K ι' H' ρ σ->T.bk σ H'
 | .ct ρ=>∀ σ,RelE K ι' H' ρ σ->T.ct σ H'
def Jn(K:dn)(E:XD)(m:cT):TS:=λT σ H=>∃ ι S ρ,Rep K ι H S/\RelE K ι H ρ σ/\cont K E (m ρ) ι S H (ER K T)
def SS(X:Cx)(E:XD)(st:nf)(m:cT):Prop:=PS X st (Jn X.K E m)
def ux(X:Cx)(E:XD)(st:List nf)(m:cT):Prop:=oV X st (Jn X.K E m)
abbrev lu:=D->aA->M aA
def yU(K:dn)(E:XD)(m:lu):TG:=λv σ H Q=>∃ ι S ρ d,Rep K ι H S/\RelE K ι H ρ σ/\RelD K ι H d v/\cont K E (m d ρ) ι S H (λρ' ι' _ H'=>∀ σ',RelE K ι' H' ρ' σ'->Q σ' H')
def SG(X:Cx)(E:XD)(tg:Expr)(m:lu):Prop:=PG X tg (yU X.K E m)
theorem PE.imp{X:Cx}{e:Expr}{t t':TE}(h:PE X e t)(k:∀ σ H Q,t' σ H Q->t σ H Q):PE X e t':=λpins s σ H Q I hw=>h pins s σ H Q I (k σ H Q hw)
theorem PT.imp{X:Cx}{e:Expr}{t t':TT}(h:PT X e t)(k:∀ σ H Q,t' σ H Q->t σ H Q):PT X e t':=λpins s σ H Q I hw=>h pins s σ H Q I (k σ H Q hw)
theorem PW.imp{X:Cx}{e:Expr}{t t':TT}(h:PW X e t)(k:∀ σ H Q,t' σ H Q->t σ H Q):PW X e t':=λZ pins s σ H Q I hw=>h Z pins s σ H Q I (k σ H Q hw)
theorem PA.imp{X:Cx}{e:List Expr}{t t':TA}(h:PA X e t)(k:∀ σ H Q,t' σ H Q->t σ H Q):PA X e t':=λpos pins s σ H Q I hw=>h pos pins s σ H Q I (k σ H Q hw)
theorem PS.imp{X:Cx}{e:nf}{t t':TS}(h:PS X e t)(k:∀D σ H,t' D σ H->t D σ H):PS X e t':=λpins s σ H D I hw=>h pins s σ H D I (k D σ H hw)
theorem oV.imp{X:Cx}{e:List nf}{t t':TS}(h:oV X e t)(k:∀D σ H,t' D σ H->t D σ H):oV X e t':=λpins s σ H D I hw=>h pins s σ H D I (k D σ H hw)
theorem PG.imp{X:Cx}{e:Expr}{t t':TG}(h:PG X e t)(k:∀v σ H Q,t' v σ H Q->t v σ H Q):PG X e t':=λpins s σ H v u Q I r hw=>h pins s σ H v u Q I r (k v σ H Q hw)
section
variable {X:Cx}{E:XD}{a b e:Expr}{m n:TM}{pos:Pos}
def yV(ρ:aA)(i:Nat):M D:=match ρ[i]? with
 |some (ar d)=>a_ d
 |_=>M.fail
theorem aa(i:Nat)(W:X.N[i]? =ar x:=by rfl)(U:Du X.env.scope x:=by first|exact NV rfl|exact Nm (NV rfl)|exact Nm (Nm rfl))(Y:(x==("__debug__":Str))=false:=by decide)
  (Z:(x==("__classdict__":Str))=false:=by decide):SE X E (.Name x pos) (λρ=>yV ρ i):=by
 refine PE.imp (yZ W U Y Z) λσ H Q h=>?_;obtain⟨T,S,ρ,rep,re,c⟩:=h;unfold yV at c;dsimp only at c;split at c
 ·next d Y=>
  obtain⟨v,e1,e2⟩:=re.get Y;exact⟨v,e1,ai c .refl rep v e2⟩
 ·exact(ah c).elim
theorem iY(h:PE X e (tC v))(Y:∀Z H,RelD X.K Z H d v):SE X E e (λ_=>a_ d):=by refine PE.imp h λσ H Q h=>?_;obtain⟨Z,S,ρ,rep,re,c⟩:=h;exact ai c .refl rep v (Y _ _)
theorem au{j}:SE X E (.Constant (.int i) j pos) (λ_=>a_ (.int i)):=iY y0 λ_ _=>.int i
theorem gw{j}:SE X E (.Constant (.bool i) j pos) (λ_=>a_ (.bl i)):=iY Gm λ_ _=>.bl i
theorem uQ{j}:SE X E (.Constant .none j pos) (λ_=>a_ .non):=iY y8 λ_ _=>.non
theorem ig{j}:SE X E (.Constant (.str x) j pos) (λ_=>a_ (.str x)):=iY D7 λ_ _=>.str x
theorem Cq(Z:Gl X x)(Y:X.mg x=ar (.int i t))(W:(x==("__debug__":Str))=false:=by decide):SE X E (.Name x pos) (λ_=>a_ (.int i)):=
 iY (v8 Z Y (v:=.int i) ⟨t,rfl⟩ W) λ_ _=>.int i
def sk(K:dn)(E:XD)(f:D->D->M D)(r:R2):Prop:=
 ∀ ι S H d1 d2 v1 v2 Q,Rep K ι H S->RelD K ι H d1 v1->RelD K ι H d2 v2->cont K E (f d1 d2) ι S H (mq K Q)->r v1 v2 H Q
theorem Cr(W:sk X.K E f r)(h:tM X.K E (λρ=>do let x<-m ρ;let y<-n ρ;f x y) σ H Q):GC r (tM X.K E m) (tM X.K E n) σ H Q:=by obtain⟨P,S,ρ,rep,re,c⟩:=h;refine⟨P,S,ρ,rep,re,ao (ag c) λx Z S1 L e1 rep1 c1 v1 R=>?_⟩;refine⟨Z,S1,ρ,rep1,re.later rep e1,ao (ag c1) λy Y U N e2 rep2 T v2 O=>?_⟩;exact W Y U N x y v1 v2 Q rep2 (R.later rep1 e2) O T
theorem nE(h:ib X (n_ op) r)(W:sk X.K E f r)(Y:SE X E a m)(Z:SE X E b n):SE X E (.BinOp a op b pos) (λρ=>do let x<-m ρ;let y<-n ρ;f x y):=
 PE.imp (GD h Y Z) λ_ _ _ q=>Cr W q
theorem nF(h:ib X (i' op) r)(W:sk X.K E f r)(Y:SE X E a m)(Z:SE X E b n)(U:kT op b=false:=by first|exact nh _ (by decide) (by decide)|rfl):
  SE X E (.Compare a [op] [b] pos) (λρ=>do let x<-m ρ;let y<-n ρ;f x y):=
 PE.imp (Cc h Y Z U) λ_ _ _ q=>Cr W q
theorem GV(h:BQ X r)(Y:sk X.K E f r)(W:SE X E a m)(Z:SE X E b n)(hs:qF b:=by intro _ _;rfl):SE X E (.Subscript a b pos) (λρ=>do let x<-m ρ;let y<-n ρ;f x y):=
 PE.imp (GN h W Z hs) λ_ _ _ q=>Cr Y q
end
def lim:Nat:=10000000
theorem ft:lim<=sizeLine:=by rw[KR];decide
theorem zJ:lim<sizeLine:=by rw[KR];decide
section
variable {K:dn}{ι:List cq}{H:Hp}
theorem RelD.bl_inv(h:RelD K ι H (.bl b) v):v= .bl b:=by cases h;rfl
theorem RelD.int_inv(h:RelD K ι H (.int b) v):v= .int b:=by cases h;rfl
theorem RelD.str_inv(h:RelD K ι H (.str b) v):v= .str b:=by cases h;rfl
theorem RelD.non_inv(h:RelD K ι H .non v):v= .non:=by cases h;rfl
theorem RelD.tup_inv(h:RelD K ι H (.tup ds) v):∃a vs,v= .ref a/\H a=ar (.tup vs)/\RelDs K ι H ds vs:=by
 cases h with
 |tup h1 h2=>exact⟨_,_,rfl,h1,h2⟩
theorem RelD.lst_inv(h:RelD K ι H (.lst k) v):∃a,v= .ref a/\ι[k]? =ar a:=by
 cases h with
 |lst h1=>exact⟨_,rfl,h1⟩
theorem RelD.ro_inv(h:RelD K ι H (.ro ds) v):∃a vs,v= .ref a/\BS K H a vs/\RelDs K ι H ds vs:=by
 cases h with
 |ro h1 h2=>exact⟨_,_,rfl,h1,h2⟩
theorem RelD.fz_inv(h:RelD K ι H (.fz ds) v):∃a o vs,v= .ref a/\H a=ar (.frz o (.lst vs))/\RelDs K ι H ds vs:=by
 cases h with
 |fz h1 h2=>exact⟨_,_,_,rfl,h1,h2⟩
theorem RelDs.nil_inv(h:RelDs K ι H [] vs):vs=[]:=by cases h;rfl
theorem RelDs.cons_inv(h:RelDs K ι H (d::ds) vs):∃v ws,vs=v::ws/\RelD K ι H d v/\RelDs K ι H ds ws:=by
 cases h with
 |cons h1 h2=>exact⟨_,_,rfl,h1,h2⟩
end
def iT:D->M Bool
 | .bl b=>a_ b
 |_=>M.fail
def getL(k:Nat):M (List D):=λS=>(S[k]?).bind λxs=>ar (.ok xs,S)
def bt(ds:List D):M D:=λS=>if ds.length<=lim then ar (.ok (.lst S.length),S++[ds])else aC
def lI(k:Nat)(ds:List D):M D:=λS=>if ds.length<=lim/\k<S.length then ar (.ok .non,S.set k ds)else aC
def cy(ds:List D):M D:=if ds.length<=lim then a_ (.tup ds)else M.fail
section
variable {K:dn}{E:XD}{ι:List cq}{S:aB}{H:Hp}{α:Type}
theorem qQ{f:Bool->M α}(Z:Rep K ι H S)(r:RelD K ι H x v)(c:cont K E (iT x>>=f) ι S H Q):∃b,v= .bl b/\x= .bl b/\cont K E (f b) ι S H Q:=by
 cases x with
 |bl b=>exact⟨b,r.bl_inv,rfl,ai (ag c) .refl Z⟩
 |_=>exact(ah (ag c)).elim
theorem nG{Q:Bool->List cq->aB->Hp->Prop}(Z:Rep K ι H S)(r:RelD K ι H x v)(c:cont K E (iT x) ι S H Q):∃b,v= .bl b/\x= .bl b/\Q b ι S H:=by
 cases x with
 |bl b=>exact⟨b,r.bl_inv,rfl,ai c .refl Z⟩
 |_=>exact(ah c).elim
theorem xN{Q:D->List cq->aB->Hp->Prop}(c:cont K E (bt ds) ι S H Q)(Z:Rep K ι H S)(r:RelDs K ι H ds vs):
  vs.length<=lim/\∀p,H p=aC->Q (.lst S.length) (ι++[p]) (S++[ds]) (upd H p (.lst vs)):=by
 obtain⟨X,U,e,q⟩:=c;unfold bt at e;split at e
 ·next hl=>
  cases e;exact⟨by rw[<-r.length];exact hl,λp Y=>q _ _ (sI Y) (zI Z Y r)⟩
 ·cases e
theorem zK(Z:Rep K ι H S):RelD K (ι++[p]) H' (.lst S.length) (.ref p):=.lst (by rw[<-Z.len];simp)
theorem bq{Q:VK}(c:cont K E (bt ds) ι S H (mq K Q))(Z:Rep K ι H S)(r:RelDs K ι H ds vs):vs.length<=lim/\∀p,H p=aC->Q (.ref p) (upd H p (.lst vs)):=
 let ⟨h1,h2⟩:=xN c Z r
 ⟨h1,λp Y=>h2 p Y _ (zK Z)⟩
theorem f9{Q:VK}(c:cont K E (cy ds) ι S H (mq K Q))(Z:Rep K ι H S)(r:RelDs K ι H ds vs):vs.length<=lim/\∀p,H p=aC->Q (.ref p) (upd H p (.tup vs)):=by
 unfold cy at c;split at c
 ·next hl=>
  refine⟨by rw[<-r.length];exact hl,λp Y=>?_⟩;exact ai c (ie Y) (kA Z Y) _ (.tup aY (r.later Z (ie Y)))
 ·exact(ah c).elim
theorem ij{Q:VK}(c:cont K E (cy ds) ι S H (mq K Q))(Z:Rep K ι H S)(h:H a=ar (.tup vs))(r:RelDs K ι H ds vs):Q (.ref a) H:=by
 unfold cy at c;split at c
 ·exact ai c .refl Z _ (.tup h r)
 ·exact(ah c).elim
theorem ba{f:List D->M α}(c:cont K E (getL k>>=f) ι S H Q)(Z:Rep K ι H S)(Y:ι[k]? =ar a):
  ∃ds vs,S[k]? =ar ds/\H a=ar (.lst vs)/\RelDs K ι H ds vs/\cont K E (f ds) ι S H Q:=by
 obtain⟨T,R,e,q⟩:=ag c;unfold getL at e;cases z:S[k]? with
 |none=>rw[z]at e;cases e
 |some ds=>
  rw[z]at e;cases e;obtain⟨vs,X,U⟩:=Z.get k a ds Y z;exact⟨ds,vs,rfl,X,U,q ι H .refl Z⟩
theorem g6{Q:D->List cq->aB->Hp->Prop}(c:cont K E (lI k ds) ι S H Q)(Z:Rep K ι H S)(Y:ι[k]? =ar a)(r:RelDs K ι H ds vs):
  vs.length<=lim/\Q .non ι (S.set k ds) (upd H a (.lst vs)):=by
 obtain⟨X,U,e,q⟩:=c;unfold lI at e;split at e
 ·next hl=>
  cases e;exact⟨by rw[<-r.length];exact hl.1,q _ _ (qO (Kn Y)) (qP Z Y r)⟩
 ·cases e
end
section
variable {X:Cx}{E:XD}{a b e:Expr}{m n:TM}{pos:Pos}{rest es:List Expr}{ms:aA->M (List D)}{t u:aA->M Bool}
theorem jV{op}(h:SE X E a m):SE X E (.BoolOp op [a] pos) m:=Ec h
theorem ik(T:SE X E a m)(W:SE X E (.BoolOp .And (b::rest) pos) n):SE X E (.BoolOp .And (a::b::rest) pos) (λρ=>do let x<-m ρ;let c<-iT x;if c=b' then n ρ else a_ (.bl dr)):=by
 refine PE.imp (Ed T W) λσ H Q h=>?_;obtain⟨R,S,ρ,rep,re,c⟩:=h;refine⟨R,S,ρ,rep,re,ao (ag c) λx Z S1 P e1 rep1 c1 v1 U=>?_⟩;obtain⟨k,rfl,rfl,Y⟩:=qQ rep1 U c1;refine⟨k,rfl,?_⟩;cases k with
 |true=>exact⟨Z,S1,ρ,rep1,re.later rep e1,Y⟩
 |false=>exact ai Y .refl rep1 _ (.bl dr)
theorem ES(U:SE X E a m):SE X E (.UnaryOp .Not a pos) (λρ=>do let x<-m ρ;let c<-iT x;a_ (.bl (!c))):=by refine PE.imp (Ee U) λσ H Q h=>?_;obtain⟨T,S,ρ,rep,re,c⟩:=h;refine⟨T,S,ρ,rep,re,ao (ag c) λx Z S1 R e1 rep1 c1 v1 W=>?_⟩;obtain⟨k,rfl,rfl,Y⟩:=qQ rep1 W c1;exact⟨k,rfl,ai Y .refl rep1 _ (.bl _)⟩
theorem GW(T:SB X E c t)(W:SE X E a m)(Y:SE X E b n):SE X E (.IfExp c a b pos) (λρ=>do let k<-t ρ;if k=b' then m ρ else n ρ):=by
 refine PE.imp (y9 T W Y) λσ H Q h=>?_;obtain⟨U,S,ρ,rep,re,c⟩:=h;refine⟨U,S,ρ,rep,re,ao (ag c) λk Z S1 R e1 rep1 c1=>?_⟩;cases k with
 |true=>exact⟨Z,S1,ρ,rep1,re.later rep e1,c1⟩
 |false=>exact⟨Z,S1,ρ,rep1,re.later rep e1,c1⟩
theorem GX(h:uP X.K E (λρ=>do let x<-m ρ;iT x) σ H Q):tB (tM X.K E m) σ H Q:=by obtain⟨U,S,ρ,rep,re,c⟩:=h;refine⟨U,S,ρ,rep,re,ao (ag c) λx Z S1 T e1 rep1 c1 v1 W=>?_⟩;obtain⟨k,rfl,rfl,Y⟩:=nG rep1 W c1;exact⟨k,rfl,Y⟩
theorem gM(h:SE X E e m)(Z:∀whole,isTrue e X.env whole=(do let v<-whole;xy e.pos;v_ [v] (Oo v)):=by intro _;rfl):SB X E e (λρ=>do let x<-m ρ;iT x):=
 PT.imp (D8 h Z) λ_ _ _ q=>GX q
theorem lJ(h:ib X (i' op) r)(Y:sk X.K E f r)(P:SE X E a m)(Z:SE X E b n)(N:kT op b=false:=by first|exact nh _ (by decide) (by decide)|rfl):
  SB X E (.Compare a [op] [b] pos) (λρ=>do let z<-(do let x<-m ρ;let y<-n ρ;f x y);iT z):=
 PT.imp (v9 h P Z N) λσ H Q q=>by obtain⟨O,S,ρ,rep,re,c⟩:=q;refine Cr Y (Q:=λx U=>∃k,x= .bl k/\Q k U) ⟨O,S,ρ,rep,re,ao (ag c) λx W S1 L e1 rep1 c1 v1 R=>?_⟩;obtain⟨k,rfl,rfl,T⟩:=nG rep1 R c1;exact⟨k,rfl,T⟩
theorem il(h:SB X E a t):SB X E (.UnaryOp .Not a pos) (λρ=>do let c<-t ρ;a_ (!c)):=by refine PT.imp (Eb h) λσ H Q q=>?_;obtain⟨Y,S,ρ,rep,re,c⟩:=q;exact⟨Y,S,ρ,rep,re,ao (ag c) λk Z S1 W e1 rep1 c1=>ai c1 .refl rep1⟩
theorem kB(h:SB X E a t):EO X E (.BoolOp .And [a] pos) t:=B4 h
theorem qR(h:SB X E a t):EO X E (.BoolOp .Or [a] pos) t:=D9 h
theorem nH(W:SB X E a t)(Y:EO X E (.BoolOp .And (b::rest) pos) u):EO X E (.BoolOp .And (a::b::rest) pos) (λρ=>do let c<-t ρ;if c=b' then u ρ else a_ dr):=by
 refine PW.imp (Ea W Y) λσ H Q q=>?_;obtain⟨U,S,ρ,rep,re,c⟩:=q;refine⟨U,S,ρ,rep,re,ao (ag c) λk Z S1 T e1 rep1 c1=>?_⟩;cases k with
 |true=>exact⟨Z,S1,ρ,rep1,re.later rep e1,c1⟩
 |false=>exact ai c1 .refl rep1
theorem sJ(W:SB X E a t)(Y:EO X E (.BoolOp .Or (b::rest) pos) u):EO X E (.BoolOp .Or (a::b::rest) pos) (λρ=>do let c<-t ρ;if c=b' then a_ b' else u ρ):=by
 refine PW.imp (Gn W Y) λσ H Q q=>?_;obtain⟨U,S,ρ,rep,re,c⟩:=q;refine⟨U,S,ρ,rep,re,ao (ag c) λk Z S1 T e1 rep1 c1=>?_⟩;cases k with
 |false=>exact⟨Z,S1,ρ,rep1,re.later rep e1,c1⟩
 |true=>exact ai c1 .refl rep1
theorem qS(h:EO X E e t):SB X E e t:=PW.pt h
theorem av:SA X E [] (λ_=>a_ []):=by refine PA.imp uG λσ H Q q=>?_;obtain⟨Z,S,ρ,rep,re,c⟩:=q;exact ai c .refl rep _ .nil
theorem af(U:SE X E e m)(T:SA X E es ms)(hs:dt (e::es) X.env=(dr,i4 e X.env)::dt es X.env:=by rfl):SA X E (e::es) (λρ=>do let x<-m ρ;let xs<-ms ρ;a_ (x::xs)):=by refine PA.imp (mQ U T hs) λσ H Q q=>?_;obtain⟨P,S,ρ,rep,re,c⟩:=q;refine⟨P,S,ρ,rep,re,ao (ag c) λx Z S1 L e1 rep1 c1 v1 W=>?_⟩;refine⟨Z,S1,ρ,rep1,re.later rep e1,ao (ag c1) λxs R N K e2 rep2 Y vs O=>?_⟩;exact ai Y .refl rep2 _ (.cons (W.later rep1 e2) O)
theorem ip{x1}(h:SA X E es ms):SE X E (.Tuple es x1 pos) (λρ=>do let ds<-ms ρ;cy ds):=by refine PE.imp (EC h) λσ H Q q=>?_;obtain⟨U,S,ρ,rep,re,c⟩:=q;refine⟨U,S,ρ,rep,re,ao (ag c) λx Y S1 R e1 rep1 c1 vs W=>?_⟩;obtain⟨Z,T⟩:=f9 c1 rep1 W;exact⟨JX Z ft,T⟩
theorem d7(h:SA X E es ms):SE X E (.List es pos) (λρ=>do let ds<-ms ρ;bt ds):=by refine PE.imp (ED h) λσ H Q q=>?_;obtain⟨U,S,ρ,rep,re,c⟩:=q;refine⟨U,S,ρ,rep,re,ao (ag c) λx Y S1 R e1 rep1 c1 vs W=>?_⟩;obtain⟨Z,T⟩:=bq c1 rep1 W;exact⟨JX Z ft,T⟩
def iZ(K:dn)(E:XD)(f:List D->M D)(r:List V->Hp->VK->Prop):Prop:=
 ∀ ι S H ds vs Q,Rep K ι H S->RelDs K ι H ds vs->cont K E (f ds) ι S H (mq K Q)->r vs H Q
theorem GY(Y:iZ X.K E f r)(h:tM X.K E (λρ=>do let ds<-ms ρ;f ds) σ H Q):IG r (IM X.K E ms) σ H Q:=by obtain⟨T,S,ρ,rep,re,c⟩:=h;exact⟨T,S,ρ,rep,re,ao (ag c) λds Z S1 W e1 rep1 c1 vs U=>Y Z S1 W ds vs Q rep1 U c1⟩
theorem gc{x:Str}{W:String}{f:List D->M D}{r:List V->Hp->VK->Prop}{p:Pos}(R:dM X (.builtin W) r)(U:iZ X.K E f r)(P:Gl X x)(O:X.mg x=aC)(N:k4 x=ar (.builtin W))(Q:SA X E (e::es) ms)
  (T:x≠"__name__":=by decide) (Y:(x==("__debug__":Str))=false:=by decide) (S:dt (e::es) X.env=(dr,i4 e X.env)::dt es X.env:=by rfl) (Z:(lx pos (dt es X.env)).any (·.1)=false:=by rfl):
  SE X E (.Call (.Name x p) (e::es) [] pos) (λρ=>do let ds<-ms ρ;f ds):=
 PE.imp (sC R P O N Q T Y S Z) λ_ _ _ q=>GY U q
theorem pT(R:dM X (.type T) r)(W:iZ X.K E f r)(P:Gl X x)(O:X.mg x=aC)(N:k4 x=ar (.type T))(Q:SA X E (e::es) ms)
  (U:x≠"__name__":=by decide) (Y:(x==("__debug__":Str))=false:=by decide) (S:dt (e::es) X.env=(dr,i4 e X.env)::dt es X.env:=by rfl) (Z:(lx pos (dt es X.env)).any (·.1)=false:=by rfl):
  SE X E (.Call (.Name x p) (e::es) [] pos) (λρ=>do let ds<-ms ρ;f ds):=
 PE.imp (lD R P O N Q U Y S Z) λ_ _ _ q=>GY W q
abbrev bX:XD:=λ_ _ _ _=>False
def JF(K:dn)(F:List D->M D):Sp:=λvs H Q _=>∃ ι S ds,Rep K ι H S/\RelDs K ι H ds vs/\cont K bX (F ds) ι S H (mq K Q)
def HI(K:dn)(E:XD)(f:D->List D->M D)(r:V->List V->Hp->VK->Prop):Prop:=
 ∀ ι S H d ds v vs Q,Rep K ι H S->RelD K ι H d v->RelDs K ι H ds vs->cont K E (f d ds) ι S H (mq K Q)->r v vs H Q
end
theorem iq{K:dn}{E:XD}{α:Type}{c:M α}{U Z:List cq}{S:aB}{H X:Hp}{Q:α->List cq->aB->Hp->Prop}(h:cont K E c U S H Q)(e:Ext U H Z X):cont K E c Z S X Q:=by obtain⟨r,T,q,k⟩:=h;exact⟨r,T,q,λY R P rep2=>k Y R (e.trans P) rep2⟩
section
variable {X:Cx}{E:XD}{st:nf}{sts:List nf}{m n:cT}{e:Expr}{me:TM}{t:aA->M Bool}{pos:Pos}{g:lu}
def xO(o:Out)(n:cT):M Out:=match o with
 | .nx ρ=>n ρ
 | .ret d=>a_ (.ret d)
 | .bk ρ=>a_ (.bk ρ)
 | .ct ρ=>a_ (.ct ρ)
theorem b9:ux X E [] (λρ=>a_ (.nx ρ)):=by refine oV.imp B5 λT σ H h=>?_;obtain⟨Z,S,ρ,rep,re,c⟩:=h;exact ai c .refl rep σ re
theorem az(W:SS X E st m)(Q:ux X E sts n):ux X E (st::sts) (λρ=>do let o<-m ρ;xO o n):=by
 refine oV.imp (sv W Q) λT σ H h=>?_;obtain⟨R,S,ρ,rep,re,c⟩:=h;refine⟨R,S,ρ,rep,re,ao (ag c) λo Z S1 P e1 rep1 c1=>?_⟩;cases o with
 |nx ρ'=>exact λU Y=>⟨Z,S1,ρ',rep1,Y,c1⟩
 |ret d=>exact ai c1 .refl rep1
 |bk ρ'=>exact ai c1 .refl rep1
 |ct ρ'=>exact ai c1 .refl rep1
theorem aL(Z:SS X E st m):ux X E [st] m:=by refine oV.imp (qD Z) λT σ H h=>h
theorem ez(Y:SE X E e me)(hs:nC e aC pos.line X.env=a_ false:=by rfl):SS X E (.Expr e pos) (λρ=>do let _<-me ρ;a_ (.nx ρ)):=by refine PS.imp (B6 Y hs) λT σ H h=>?_;obtain⟨W,S,ρ,rep,re,c⟩:=h;refine⟨W,S,ρ,rep,re,ao (ag c) λd Z S1 U e1 rep1 c1 v r=>?_⟩;exact ai c1 .refl rep1 σ (re.later rep e1)
theorem aZ(Y:SE X E e me):SS X E (.Return (ar e) pos) (λρ=>do let d<-me ρ;a_ (.ret d)):=by refine PS.imp (za Y) λT σ H h=>?_;obtain⟨W,S,ρ,rep,re,c⟩:=h;exact⟨W,S,ρ,rep,re,ao (ag c) λd Z S1 U e1 rep1 c1=>ai c1 .refl rep1⟩
theorem dm(R:SB X E e t)(W:ux X E a m)(Y:ux X E b n):SS X E (.If e a b pos) (λρ=>do let c<-t ρ;if c=b' then m ρ else n ρ):=by
 refine PS.imp (Gu R W Y) λT σ H h=>?_;obtain⟨U,S,ρ,rep,re,c⟩:=h;refine⟨U,S,ρ,rep,re,ao (ag c) λk Z S1 Q e1 rep1 c1=>?_⟩;cases k with
 |true=>exact⟨Z,S1,ρ,rep1,re.later rep e1,c1⟩
 |false=>exact⟨Z,S1,ρ,rep1,re.later rep e1,c1⟩
theorem aS(i:Nat)(W:X.N.Nodup)(Z:X.N[i]? =ar x:=by rfl)(U:Loc X.env.scope x:=by first|exact NV rfl|exact Nm rfl)(Y:X.fn x=b'\/X.env.scope.names.lookup x=ar .local:=by first|exact .inl rfl|exact .inr rfl|assumption):
  SG X E (.Name x pos) (λd ρ=>a_ (ρ.set i (ar d))):=by
 refine PG.imp (B7 W Z U Y) λv σ H Q h=>?_;obtain⟨T,S,ρ,d,rep,re,r,c⟩:=h;exact ai c .refl rep _ (re.set r i)
def IP(K:dn)(E:XD)(m:List D->aA->M aA):Ef:=λvs σ H Q=>∃ ι S ρ ds,Rep K ι H S/\RelE K ι H ρ σ/\RelDs K ι H ds vs/\cont K E (m ds ρ) ι S H (λρ' ι' _ H'=>∀ σ',RelE K ι' H' ρ' σ'->Q σ' H')
def HJ(X:Cx)(E:XD)(ts:List Expr)(m:List D->aA->M aA):Prop:=BO X ts (IP X.K E m)
theorem BO.imp{X:Cx}{e:List Expr}{t t':Ef}(h:BO X e t)(k:∀v σ H Q,t' v σ H Q->t v σ H Q):BO X e t':=λpins s σ H v u Q I r hw=>h pins s σ H v u Q I r (k v σ H Q hw)
def dN:List D->aA->M aA:=λds ρ=>match ds with
 |[]=>a_ ρ
 |_=>M.fail
def bc(g:lu)(gs:List D->aA->M aA):List D->aA->M aA:=λds ρ=>match ds with
 |d::r=>do let ρ1<-g d ρ;gs r ρ1
 |_=>M.fail
theorem eV:HJ X E [] dN:=by
 refine BO.imp B8 λvs σ H Q h=>?_;obtain⟨Z,S,ρ,ds,rep,re,r,c⟩:=h;cases ds with
 |nil=>exact⟨r.nil_inv,ai c .refl rep σ re⟩
 |cons d ds=>exact(ah c).elim
theorem bA(U:SG X E e g)(P:HJ X E es gs)(hs:(mh (e::es) X.env).map (·.2)=K_ e X.env::(mh es X.env).map (·.2):=by rfl):HJ X E (e::es) (bc g gs):=by
 refine BO.imp (zd U P hs) λvs σ H Q h=>?_;obtain⟨R,S,ρ,ds,rep,re,r,c⟩:=h;cases ds with
 |nil=>exact(ah c).elim
 |cons d ds=>
  obtain⟨v,ws,rfl,T,O⟩:=r.cons_inv;refine⟨v,ws,rfl,R,S,ρ,d,rep,re,T,ao (ag c) λW Z S1 L e1 rep1 c1 N Y=>?_⟩;exact⟨Z,S1,W,ds,rep1,Y,O.later rep e1,c1⟩
def du(n:Nat)(gs:List D->aA->M aA):lu:=λd ρ=>match d with
 | .tup ds=>if ds.length=n then gs ds ρ else M.fail
 |_=>M.fail
theorem gO{es:List Expr}{k:Nat}{n:Nat}{Y:List D->aA->M aA}(P:X.calm=b')(h:HJ X E es Y)(R:(mh es X.env).length=n:=by rfl)(Z:(mh es X.env).findIdx? (·.1)=none:=by rfl):
  SG X E (.Tuple es k pos) (du n Y):=by
 refine PG.imp (Eh P h R Z) λv σ H Q q=>?_;obtain⟨T,S,ρ,d,rep,re,r,c⟩:=q;cases d with
 |tup ds=>
  obtain⟨a,vs,rfl,U,W⟩:=r.tup_inv;dsimp only[du]at c;split at c
  ·next hl=>exact⟨a,vs,rfl,lr.of U,by rw[<-W.length];exact hl,T,S,ρ,ds,rep,re,W,c⟩
  ·exact(ah c).elim
 |_=>exact(ah c).elim
theorem jW(U:SE X E e me)(O:SG X E tg g)(hs:Fn [tg] e pos.line X.env=a_ false:=by rfl)(Y:F0 [tg] e X.env=a_ none:=by rfl)
  (W:(mh [tg] X.env).map (·.2)=[K_ tg X.env]:=by rfl):SS X E (.Assign [tg] e pos) (λρ=>do let d<-me ρ;let ρ'<-g d ρ;a_ (.nx ρ')):=by
 refine PS.imp (El U O hs Y W) λT σ H h=>?_;obtain⟨P,S,ρ,rep,re,c⟩:=h;refine⟨P,S,ρ,rep,re,ao (ag c) λd Z S1 K e1 rep1 c1 v r=>?_⟩;exact⟨Z,S1,ρ,d,rep1,re.later rep e1,r,ao (ag c1) λρ' Q N L e2 rep2 R=>ai R .refl rep2⟩
theorem bG(i:Nat)(U:X.N.Nodup)(Y:SE X E e me)(R:X.N[i]? =ar x:=by rfl)(P:Loc X.env.scope x:=by first|exact NV rfl|exact Nm rfl)(hs:nC e (ar (.Name x pos')) pos.line X.env=a_ false:=by rfl)
  (Q:X.fn x=b'\/X.env.scope.names.lookup x=ar .local:=by first|exact .inl rfl|exact .inr rfl|assumption):SS X E (.Assign [.Name x pos'] e pos) (λρ=>do let d<-me ρ;a_ (.nx (ρ.set i (ar d)))):=by
 refine PS.imp (Em U R P Y hs Q) λT σ H h=>?_;obtain⟨W,S,ρ,rep,re,c⟩:=h;refine⟨W,S,ρ,rep,re,ao (ag c) λd Z S1 O e1 rep1 c1 v r=>?_⟩;exact ai c1 .refl rep1 _ ((re.later rep e1).set r i)
theorem ET(i j:Nat){kt k2 pt2}(F:X.calm=b')(U:X.N.Nodup)(K:SA X E [a,b] ms)(C:X.N[i]? =ar x:=by rfl)(I:X.N[j]? =ar y:=by rfl)(Z:i≠j:=by decide)
  (B:X.env.scope.names.lookup x=ar .local:=by rfl) (J:X.env.scope.names.lookup y=ar .local:=by rfl)
  (O:F0 [.Tuple [.Name x px,.Name y py] kt pt] (.Tuple [a,b] k2 pt2) X.env=a_ (ar [x,y]):=by rfl)
  (hs:Fn [.Tuple [.Name x px,.Name y py] kt pt] (.Tuple [a,b] k2 pt2) pos.line X.env=a_ false:=by rfl):
  SS X E (.Assign [.Tuple [.Name x px,.Name y py] kt pt] (.Tuple [a,b] k2 pt2) pos) (λρ=>do let ds<-ms ρ;match ds with|[d1,d2]=>a_ (.nx ((ρ.set i (ar d1)).set j (ar d2)))|_=>M.fail):=by
 refine PS.imp (En F U C I Z B J K O hs) λT σ H h=>?_;obtain⟨W,S,ρ,rep,re,c⟩:=h;refine⟨W,S,ρ,rep,re,ao (ag c) λds L S1 A e1 rep1 c1 vs r=>?_⟩
 match ds,r,c1 with
 |[d1,d2],r,c1=>
  obtain⟨v1,ws,rfl,Y,Q⟩:=r.cons_inv;obtain⟨v2,R,rfl,P,G⟩:=Q.cons_inv;cases G.nil_inv;exact⟨v1,v2,rfl,ai c1 .refl rep1 _ (((re.later rep e1).set Y i).set P j)⟩
 |[],r,c1=>exact(ah c1).elim
 |[d],r,c1=>exact(ah c1).elim
 |d1::d2::d3::r',r,c1=>exact(ah c1).elim
def IQ(K:dn)(E:XD)(f:D->D->D->M Unit)(r:Eg):Prop:=
 ∀ ι S H d1 d2 d3 v1 v2 v3 Q,Rep K ι H S->RelD K ι H d1 v1->RelD K ι H d2 v2->RelD K ι H d3 v3->cont K E (f d1 d2 d3) ι S H (λ_ _ _ H'=>Q H')->r v1 v2 v3 H Q
def i5:D->D->D->M Unit:=λo i v=>match o,i with
 | .lst k,.int j=>do
  let xs<-getL k
  match yT xs.length j with
  |some at'=>do let _<-lI k (xs.set at' v);a_ ()
  |none=>M.fail
 |_,_=>M.fail
inductive Chk where
 |none|some (k:Nat)|two (k j:Nat) (xs ys:List D)
structure Iter where
 items:List D
 chk:Chk
def Iter.okS(it:Iter)(S:aB):Prop:=match it.chk with
 | .none=>True
 | .some k=>S[k]? = .some it.items
 | .two k j xs ys=>S[k]? = .some xs/\S[j]? = .some ys
open Classical in
def fG(it:Iter):M Unit:=λS=>if it.okS S then ar (.ok (),S)else aC
def ir(K:dn)(it:Iter)(J:It)(ι:List cq)(H:Hp):Prop:=
 ∀ ι2 H2 S2,ExtN ι H ι2 H2->Rep K ι2 H2 S2->it.okS S2->∀i,(∀d,it.items[i]? =ar d->J.go i H2/\∀x H3,J.yld i H2 x H3->Ext ι2 H2 ι2 H3/\Rep K ι2 H3 S2/\RelD K ι2 H3 d x)/\(it.items.length<=i->J.stop i H2)
def F6(K:dn)(E:XD)(mi:aA->M Iter):TI:=λσ H R=>∃ ι S ρ,Rep K ι H S/\RelE K ι H ρ σ/\cont K E (mi ρ) ι S H (λit ι' _ H'=>∀J,ir K it J ι' H'->R J H')
def SI(X:Cx)(E:XD)(tg iter:Expr)(mi:aA->M Iter):Prop:=PI X tg iter (F6 X.K E mi)
def fH(it:Iter)(g:lu)(b:cT):List D->aA->M Out
 |[],ρ=>do fG it;a_ (.nx ρ)
 |d::ds,ρ=>do
  fG it
  let ρ1<-g d ρ;let o<-b ρ1
  match o with
  | .nx ρ'=>fH it g b ds ρ'
  | .ct ρ'=>fH it g b ds ρ'
  | .bk ρ'=>a_ (.nx ρ')
  | .ret r=>a_ (.ret r)
theorem g9{K:dn}{Z:List cq}{S:aB}{H:Hp}{α:Type}{it:Iter}{f:Unit->M α}{Q:α->List cq->aB->Hp->Prop}(h:cont K E (fG it>>=f) Z S H Q)(Y:Rep K Z H S):it.okS S/\cont K E (f ()) Z S H Q:=by
 obtain⟨r,U,e,k⟩:=ag h;unfold fG at e;split at e
 ·next ho=>cases e;exact⟨ho,k Z H .refl Y⟩
 ·cases e
theorem nI(hp:Nt (e_ X.prog X.w) X.A X.env X.xe)(hc:X.calm=b')(hi:SI X E tg iter mi)(hg:SG X E tg g)(hb:ux X E body b)
  (hs:∀x,hI iter X.env x=a_ x:=by intro _;rfl):SS X E (.For tg iter body [] pos) (λρ=>do let it<-mi ρ;fH it g b it.items ρ):=by
 refine PS.imp (Er hp hc hi hg hb hs) λT σ H h=>?_;obtain⟨k,S,ρ,rep,re,c⟩:=h;refine⟨k,S,ρ,rep,re,ao (ag c) λit W S1 C e1 rep1 c1 J p=>?_⟩;refine⟨λi n N U=>∃ ι2 S2 ρ2,n=it.items.length - i/\i<=it.items.length/\Ext W C ι2 U/\Rep X.K ι2 U S2/\RelE X.K ι2 U ρ2 N/\cont X.K E (fH it g b (it.items.drop i) ρ2) ι2 S2 U (ER X.K T),⟨_,W,S1,ρ,rfl,Kk _,.refl,rep1,re.later rep e1,c1⟩,?_⟩;rintro i n N U ⟨ι2,S2,ρ2,hn,hi',e2,rep2,re2,c2⟩;by_cases hlt:i<it.items.length
 ·have hd:it.items.drop i=it.items[i]::it.items.drop (i+1):=LF hlt;rw[hd]at c2;have Q:cont X.K E (do fG it;let ρ1<-g it.items[i] ρ2;let o<-b ρ1;match o with| .nx ρ'=>fH it g b (it.items.drop (i+1)) ρ'| .ct ρ'=>fH it g b (it.items.drop (i+1)) ρ'| .bk ρ'=>a_ (.nx ρ')| .ret r=>a_ (.ret r)) ι2 S2 U (ER X.K T):=c2;obtain⟨ok,z⟩:=g9 Q rep2;obtain⟨s,a6⟩:=p ι2 U S2 e2.n rep2 ok i;obtain⟨go,yl⟩:=s it.items[i] (JP hlt);refine .inr ⟨go,λR Y=>∃ ι3 S3 ρ3,Ext W C ι3 Y/\Rep X.K ι3 Y S3/\RelE X.K ι3 Y ρ3 R/\cont X.K E (fH it g b (it.items.drop (i+1)) ρ3) ι3 S3 Y (ER X.K T),?_,λx f hy=>?_⟩
  ·rintro R Y ⟨ι3,S3,ρ3,L,rep3,re3,q⟩;exact⟨_,by omega,ι3,S3,ρ3,rfl,hlt,L,rep3,re3,q⟩
  ·obtain⟨L,rep3,rd⟩:=yl x f hy;refine⟨ι2,S2,ρ2,it.items[i],rep3,re2.later rep2 L,rd,ao (ag (iq z L)) λv u a H4 j G q a3 y=>?_⟩;refine⟨u,a,v,G,y,ao (ag q) λo O l H5 e5 Z F=>?_⟩;have I:Ext W C O H5:=e2.trans (L.trans (j.trans e5));cases o with
   |nx ρ'=>exact λB P=>⟨O,l,ρ',I,Z,P,F⟩
   |ct ρ'=>exact λB P=>⟨O,l,ρ',I,Z,P,F⟩
   |bk ρ'=>exact ai F .refl Z
   |ret d=>exact ai F .refl Z
 ·have hd:it.items.drop i=[]:=K8 (by omega);rw[hd]at c2;have Q:cont X.K E (do fG it;a_ (.nx ρ2)) ι2 S2 U (ER X.K T):=c2;obtain⟨ok,z⟩:=g9 Q rep2;exact .inl ⟨(p ι2 U S2 e2.n rep2 ok i).2 (by omega),ai z .refl rep2 N re2⟩
def i6(t:aA->M Bool)(b:cT):Nat->aA->M Out
 |0,_=>M.fail
 | k+1,ρ=>do
  let c<-t ρ
  if c=b' then do
   let o<-b ρ
   match o with
   | .nx ρ'=>i6 t b k ρ'
   | .ct ρ'=>i6 t b k ρ'
   | .bk ρ'=>a_ (.nx ρ')
   | .ret r=>a_ (.ret r)
  else a_ (.nx ρ)
theorem zM(k:Nat)(z:Nt (e_ X.prog X.w) X.A X.env X.xe)(B:SB X E e t)(F:ux X E body b):SS X E (.While e body [] pos) (λρ=>i6 t b k ρ):=by
 refine PS.imp (zh z B F) λT σ H h=>?_;obtain⟨C,S,ρ,rep,re,c⟩:=h;refine⟨λn U P=>∃ ι2 S2 ρ2,Rep X.K ι2 P S2/\RelE X.K ι2 P ρ2 U/\cont X.K E (i6 t b n ρ2) ι2 S2 P (ER X.K T),⟨k,C,S,ρ,rep,re,c⟩,?_⟩;rintro n U P ⟨ι2,S2,ρ2,rep2,re2,c2⟩;cases n with
 |zero=>exact(ah c2).elim
 | succ n=>
  refine⟨ι2,S2,ρ2,rep2,re2,ao (ag c2) λk L y u G rep3 J=>?_⟩;cases k with
  |false=>exact ai J .refl rep3 U (re2.later rep2 G)
  |true=>
   refine⟨λW Y=>∃ ι2 S2 ρ2,Rep X.K ι2 Y S2/\RelE X.K ι2 Y ρ2 W/\cont X.K E (i6 t b n ρ2) ι2 S2 Y (ER X.K T),λW Y h=>⟨n,LH _,h⟩,?_⟩;refine⟨L,y,ρ2,rep3,re2.later rep2 G,ao (ag J) λo Q I v x Z O=>?_⟩;cases o with
   |nx ρ'=>exact λN R=>⟨Q,I,ρ',Z,R,O⟩
   |ct ρ'=>exact λN R=>⟨Q,I,ρ',Z,R,O⟩
   |bk ρ'=>exact ai O .refl Z
   |ret d=>exact ai O .refl Z
end
def cM(H:Hp)(p:cq):Hp:=λa=>if a=p then aC else H a
theorem hide_ne{H:Hp}(h:a≠p):cM H p a=H a:=if_neg h
theorem jA:cM H p p=none:=if_pos rfl
theorem cf{H:Hp}(h:cM H p a=ar o):a≠p/\H a=ar o:=by
 by_cases e:a=p
 ·rw[e,jA]at h;cases h
 ·rw[hide_ne e]at h;exact⟨e,h⟩
theorem sL{H:Hp}(h:H p=ar o):upd (cM H p) p o=H:=by
 funext a;by_cases e:a=p
 ·rw[e,aY,h]
 ·rw[aK e,hide_ne e]
theorem dv:cM (upd H p o) p=cM H p:=by
 funext a;by_cases e:a=p
 ·rw[e,jA,jA]
 ·rw[hide_ne e,hide_ne e,aK e]
theorem gd{H:Hp}(h:H p=aC):cM H p=H:=by
 funext a;by_cases e:a=p
 ·rw[e,jA,h]
 ·rw[hide_ne e]
section
variable {K:dn}{ι ι':List cq}{H H':Hp}{S:aB}{p:cq}
mutual
theorem RelD.hide(Z:H p=ar (.lst ws)):∀{d:D} {v:V},RelD K ι H d v->RelD K ι (cM H p) d v
 |_,_,.non=>.non
 |_,_,.bl b=>.bl b
 |_,_,.int i=>.int i
 |_,_,.str x=>.str x
 |_,_,.tup h hs=>.tup (by rw[hide_ne (λz=>by rw[z,Z]at h;cases h)];exact h) (RelDs.hide Z hs)
 |_,_,.lst h=>.lst h
 |_,_,.ro h hs=>.ro (h.imp (λ⟨o,h⟩=>⟨o,by rw[hide_ne (λz=>by rw[z,Z]at h;cases h)];exact h⟩) λz=>z) (RelDs.hide Z hs)
 |_,_,.emp h=>.emp (by rw[hide_ne (λz=>by rw[z,Z]at h;cases h)];exact h)
 |_,_,.fn h hs=>.fn (by rw[hide_ne (λz=>by rw[z,Z]at h;cases h)];exact h) (RelDs.hide Z hs)
 |_,_,.exc n h=>.exc n (by rw[hide_ne (λz=>by rw[z,Z]at h;cases h)];exact h)
 |_,_,.excF n h h2 hn hs=>.excF n (by rw[hide_ne (λz=>by rw[z,Z]at h;cases h)];exact h) (by rw[hide_ne (λz=>by rw[z,Z]at h2;cases h2)];exact h2) hn (RelDs.hide Z hs)
 |_,_,.fz h hs=>.fz (by rw[hide_ne (λz=>by rw[z,Z]at h;cases h)];exact h) (RelDs.hide Z hs)
theorem RelDs.hide(Z:H p=ar (.lst ws)):∀{ds:List D} {vs:List V},RelDs K ι H ds vs->RelDs K ι (cM H p) ds vs
 |_,_,.nil=>.nil
 |_,_,.cons h hs=>.cons (RelD.hide Z h) (RelDs.hide Z hs)
end
mutual
theorem RelD.unhide:∀{d:D} {v:V},RelD K ι (cM H p) d v->RelD K ι H d v
 |_,_,.non=>.non
 |_,_,.bl b=>.bl b
 |_,_,.int i=>.int i
 |_,_,.str x=>.str x
 |_,_,.tup h hs=>.tup (cf h).2 (RelDs.unhide hs)
 |_,_,.lst h=>.lst h
 |_,_,.ro h hs=>.ro (h.imp (λ⟨o,h⟩=>⟨o,(cf h).2⟩) λz=>z) (RelDs.unhide hs)
 |_,_,.emp h=>.emp (cf h).2
 |_,_,.fn h hs=>.fn (cf h).2 (RelDs.unhide hs)
 |_,_,.exc n h=>.exc n (cf h).2
 |_,_,.excF n h h2 hn hs=>.excF n (cf h).2 (cf h2).2 hn (RelDs.unhide hs)
 |_,_,.fz h hs=>.fz (cf h).2 (RelDs.unhide hs)
theorem RelDs.unhide:∀{ds:List D} {vs:List V},RelDs K ι (cM H p) ds vs->RelDs K ι H ds vs
 |_,_,.nil=>.nil
 |_,_,.cons h hs=>.cons (RelD.unhide h) (RelDs.unhide hs)
end
theorem RelE.hide(Z:H p=ar (.lst ws)):∀{ρ:aA} {σ:St},RelE K ι H ρ σ->RelE K ι (cM H p) ρ σ
 |_,_,.nil=>.nil
 |_,_,.cons h t=>.cons (λd z=>let ⟨v,e1,e2⟩:=h d z;⟨v,e1,e2.hide Z⟩) (RelE.hide Z t)
theorem RelE.unhide:∀{ρ:aA} {σ:St},RelE K ι (cM H p) ρ σ->RelE K ι H ρ σ
 |_,_,.nil=>.nil
 |_,_,.cons h t=>.cons (λd z=>let ⟨v,e1,e2⟩:=h d z;⟨v,e1,e2.unhide⟩) (RelE.unhide t)
theorem Rep.hide(Z:H p=ar (.lst ws))(Y:p∉ι)(r:Rep K ι H S):Rep K ι (cM H p) S:=
 ⟨r.nd,r.len,λk a xs e1 e2=>let ⟨vs,h1,h2⟩:=r.get k a xs e1 e2;⟨vs,by rw[hide_ne (λz=>Y (by rw[<-z];exact Kn e1))];exact h1,h2.hide Z⟩,r.tab.mono λb o h n=>by rw[hide_ne (λz=>by subst z;rw[h]at Z;exact n ws (Ka Z))];exact h⟩
theorem Rep.unhide(r:Rep K ι (cM H p) S):Rep K ι H S:=
 ⟨r.nd,r.len,λk a xs e1 e2=>let ⟨vs,h1,h2⟩:=r.get k a xs e1 e2;⟨vs,(cf h1).2,h2.unhide⟩,r.tab.mono λb o h _=>(cf h).2⟩
theorem Ext.hide(e:Ext ι H ι' H'):Ext ι (cM H p) ι' (cM H' p):=
 ⟨e.ids,λa o h n t=>by obtain⟨Z,X⟩:=cf h;obtain⟨Y,U⟩:=e.oth a o X n t;exact⟨by rw[hide_ne Z];exact Y,U⟩⟩
theorem Ext.unhide(e:Ext ι H ι' (cM H' p)):Ext ι H ι' H':=
 ⟨e.ids,λa o h n t=>by obtain⟨Z,Y⟩:=e.oth a o h n t;exact⟨(cf Z).2,Y⟩⟩
theorem eO{E:XD}{α:Type}{c:M α}{U:List V}{Q:α->List cq->aB->Hp->Prop}(h:cont K bX c ι S (cM H p) Q)(R:H p=ar (.lst U))(T:p∉ι):
  cont K E c ι S H (λa ι' Z H'=>H' p=ar (.lst U)/\p∉ι'/\Q a ι' Z (cM H' p)):=by
 obtain⟨r,Z,e,k⟩:=h;refine⟨r,Z,e,λι' H' x rep=>?_⟩;obtain⟨Y,X⟩:=x.oth p _ R T (by intro _ z;cases z);have:=k ι' (cM H' p) x.hide (rep.hide Y X);cases r with
 |ok a=>exact⟨Y,X,this⟩
 |ex y=>exact this.elim
end
def gP(js:List (Option Nat))(ρ:aA):aA:=js.map λo=>o.bind λj=>(ρ[j]?).join
theorem RelE.blk{K:dn}{U:List cq}{H:Hp}{ρ:aA}{Y:St}(X:RelE K U H ρ Y):∀js:List (Option Nat),RelE K U H (gP js ρ) (lH js Y)
 |[]=>.nil
 |none::js=>.cons (λd z=>by cases z) (RelE.blk X js)
 | some j::js=>.cons (λd z=>by
   have Z:(ρ[j]?).join=ar d:=z;have:ρ[j]? =ar (ar d):=by
    cases q:ρ[j]? with
    |none=>rw[q]at Z;cases Z
    |some o=>rw[q]at Z;exact MS ar Z
   obtain⟨v,e1,e2⟩:=X.get this;refine⟨v,?_,e2⟩;show(Y[j]?).join=ar v;rw[e1];rfl) (RelE.blk X js)
def cN(it:Iter)(g:lu)(t:aA->M Bool)(m:TM):List D->aA->M (List D)
 |[],ρ=>do fG it;a_ []
 | d::ds,ρ=>do
  fG it
  let ρ1<-g d ρ;let b<-t ρ1
  if b=b' then do
   let y<-m ρ1;let ys<-cN it g t m ds ρ1
   a_ (y::ys)
  else cN it g t m ds ρ1
def eX(it:Iter)(g:lu)(t:aA->M Bool)(m:TM)(ρ:aA):M (List D):=if it.items.length<=lim then cN it g t m it.items ρ else M.fail
def EU(X:Cx)(E:XD)(ifs:List Expr)(t:aA->M Bool):Prop:=BR X ifs (uP X.K E t)
theorem cZ:EU X E [] (λ_=>a_ b'):=λpins s σ H Q I h=>Cn pins s σ H Q I (by obtain⟨Z,S,ρ,rep,re,c⟩:=h;exact ai c .refl rep)
theorem iu(h:SB X E c t):EU X E [c] t:=Co h
section
variable {X:Cx}{scope:Scope}{Nc:List Str}{js:List (Option Nat)}{elt tg iter:Expr}{ifs:List Expr}{pos:Pos}{mi:aA->M Iter}{g:lu}{t:aA->M Bool}{m:TM}
theorem eg{α Z Y:Type}(c:M α)(f:α->M Z)(h:Z->M Y):((c>>=f)>>=h)=(c>>=λa=>f a>>=h):=by
 funext S;show M.bnd (M.bnd c f) h S=M.bnd c (λa=>M.bnd (f a) h) S;unfold M.bnd;cases c S with
 |none=>rfl
 |some r=>
  obtain⟨r,W⟩:=r;cases r<;>rfl
theorem aj{α Z:Type}(a:α)(f:α->M Z):(a_ a>>=f)=f a:=rfl
theorem wo{α Z:Type}{c:Prop} [Decidable c](x y:M α)(f:α->M Z):((if c then x else y)>>=f)=if c then x>>=f else y>>=f:=by split<;>rfl
abbrev GZ(js:List (Option Nat))(g:TG)(tt:TT)(te:TE)(σ:St)(Q:VK):It->Hp->Prop:=λJ H1=>∀p,H1 p=aC->
 ∃W:Nat->Nat->St->Hp->Prop,(∃m,W 0 m (lH js σ) (upd H1 p (.lst [])))/\∀i m σc Hc,W i m σc Hc->
  (J.stop i Hc/\Q (.ref p) Hc)\/(J.go i Hc/\∃N:St->Hp->Prop,(∀ σ' H',N σ' H'->∃m',m'<m/\W (i+1) m' σ' H')/\∀x H',J.yld i Hc x H'->g x σc H' λσ2 H2=>tt σ2 H2 λb H3=>
   if b=b' then te σ2 H3 λy H4=>∃xs,H4 p=ar (.lst xs)/\xs.length<sizeLine/\N σ2 (upd H4 p (.lst (xs++[y])))else N σ2 H3)
theorem sM{Q:VK}{l:St}{H:Hp}{u:List cq}{S:aB}{ρ:aA}(o:Rep X.K u H S)(re:RelE X.K u H ρ l)(c:cont X.K bX (do let it<-mi ρ;let ys<-eX it g t m (gP js ρ);bt ys) u S H (mq X.K Q)):
  cont X.K bX (mi ρ) u S H (λit Y _ T=>∀J,ir X.K it J Y T->GZ js (yU X.K bX g) (uP X.K bX t) (tM X.K bX m) l Q J T):=by
 refine ao (ag c) λit Y S1 T e1 rep1 c1 J a p v=>?_;have k:it.items.length<=lim/\cont X.K bX (cN it g t m it.items (gP js ρ)>>=λys=>bt ys) Y S1 T (mq X.K Q):=by
  have U:cont X.K bX ((if it.items.length<=lim then cN it g t m it.items (gP js ρ)else M.fail)>>=λys=>bt ys) Y S1 T (mq X.K Q):=c1;by_cases h:it.items.length<=lim
  ·rw[if_pos h]at U;exact⟨h,U⟩
  ·rw[if_neg h]at U;exact(ah (ag U)).elim
 obtain⟨hlen,c1⟩:=k;have j:RelE X.K Y T (gP js ρ) (lH js l):=(re.later o e1).blk js;refine⟨λi n A W=>∃ ι2 S2 ρ2 xs vs,n=it.items.length - i/\i<=it.items.length/\Ext Y T ι2 (cM W p)/\Rep X.K ι2 (cM W p) S2/\RelE X.K ι2 (cM W p) ρ2 A/\W p=ar (.lst vs)/\p∉ι2/\RelDs X.K ι2 (cM W p) xs vs/\xs.length<=i/\
  cont X.K bX (cN it g t m (it.items.drop i) ρ2>>=λys=>bt (xs++ys)) ι2 S2 (cM W p) (mq X.K Q),⟨_,Y,S1,gP js ρ,[],[],rfl,Kk _,?_,?_,?_,aY,rep1.free v,.nil,Kk _,?_⟩,?_⟩
 ·rw[dv,gd v];exact .refl
 ·rw[dv,gd v];exact rep1
 ·rw[dv,gd v];exact j
 ·rw[dv,gd v];exact c1
 rintro i n A W ⟨ι2,S2,ρ2,xs,vs,hn,hi',e2,rep2,re2,hpc,hpn,rx,hlim,c2⟩;by_cases hlt:i<it.items.length
 ·have hd:it.items.drop i=it.items[i]::it.items.drop (i+1):=LF hlt;rw[hd]at c2;have R:cont X.K bX (fG it>>=λ_=>g it.items[i] ρ2>>=λZ=>t Z>>=λb=>if b=b' then m Z>>=λy=>cN it g t m (it.items.drop (i+1)) Z>>=λys=>bt (xs++y::ys)else cN it g t m (it.items.drop (i+1)) Z>>=λys=>bt (xs++ys)) ι2 S2 (cM W p) (mq X.K Q):=by
   have:(cN it g t m (it.items[i]::it.items.drop (i+1)) ρ2>>=λys=>bt (xs++ys))=(fG it>>=λ_=>g it.items[i] ρ2>>=λZ=>t Z>>=λb=>if b=b' then m Z>>=λy=>cN it g t m (it.items.drop (i+1)) Z>>=λys=>bt (xs++y::ys)else cN it g t m (it.items.drop (i+1)) Z>>=λys=>bt (xs++ys)):=by show((fG it>>=λ_=>g it.items[i] ρ2>>=λZ=>t Z>>=λb=>if b=b' then m Z>>=λy=>cN it g t m (it.items.drop (i+1)) Z>>=λys=>a_ (y::ys)else cN it g t m (it.items.drop (i+1)) Z)>>=λys=>bt (xs++ys))=_;simp only[eg,wo,aj]
   rw[<-this];exact c2
  obtain⟨ok,s⟩:=g9 R rep2;obtain⟨e,a4⟩:=a ι2 W S2 e2.unhide.n rep2.unhide ok i;obtain⟨go,yl⟩:=e it.items[i] (JP hlt);refine .inr ⟨go,λB I=>∃ ι3 S3 ρ3 xs3 vs3,Ext Y T ι3 (cM I p)/\Rep X.K ι3 (cM I p) S3/\RelE X.K ι3 (cM I p) ρ3 B/\I p=ar (.lst vs3)/\p∉ι3/\RelDs X.K ι3 (cM I p) xs3 vs3/\xs3.length<=i+1/\
   cont X.K bX (cN it g t m (it.items.drop (i+1)) ρ3>>=λys=>bt (xs3++ys)) ι3 S3 (cM I p) (mq X.K Q),?_,λx H3 hy=>?_⟩
  ·rintro B I ⟨ι3,S3,ρ3,xs3,vs3,h1,h2,h3,h4,h5,h6,h7,h8⟩;exact⟨_,by omega,ι3,S3,ρ3,xs3,vs3,rfl,hlt,h1,h2,h3,h4,h5,h6,h7,h8⟩
  ·obtain⟨f,rep3,rd⟩:=yl x H3 hy;obtain⟨r,_⟩:=f.oth p _ hpc hpn (by intro _ z;cases z);have w:Ext ι2 (cM W p) ι2 (cM H3 p):=f.hide;have c4:=ag (iq s w);refine⟨ι2,S2,ρ2,it.items[i],rep3,re2.unhide.later rep2.unhide f,rd,ao (eO (E:=bX) c4 r hpn) λρ4 ι4 S4 H4 e4 rep4 ⟨hp4,hn4,c5⟩ σ4 re4=>?_⟩;have q:Rep X.K ι4 (cM H4 p) S4:=rep4.hide hp4 hn4;have d:Ext ι2 (cM W p) ι4 (cM H4 p):=w.trans e4.hide;refine⟨ι4,S4,ρ4,rep4,re4,ao (eO (E:=bX) (ag c5) hp4 hn4) λb ι5 S5 H5 e5 rep5 ⟨hp5,hn5,c6⟩=>?_⟩;have O:Rep X.K ι5 (cM H5 p) S5:=rep5.hide hp5 hn5;have G:Ext ι2 (cM W p) ι5 (cM H5 p):=d.trans e5.hide;have N:RelE X.K ι5 H5 ρ4 σ4:=re4.later rep4 e5;cases b with
   |false=>
    have P:cont X.K bX (cN it g t m (it.items.drop (i+1)) ρ4>>=λys=>bt (xs++ys)) ι5 S5 (cM H5 p) (mq X.K Q):=c6;exact⟨ι5,S5,ρ4,xs,vs,e2.trans G,O,N.hide hp5,hp5,hn5,rx.later rep2 G,by omega,P⟩
   |true=>
    have P:cont X.K bX (m ρ4>>=λy=>cN it g t m (it.items.drop (i+1)) ρ4>>=λys=>bt (xs++y::ys)) ι5 S5 (cM H5 p) (mq X.K Q):=c6;refine⟨ι5,S5,ρ4,rep5,N,ao (eO (E:=bX) (ag P) hp5 hn5) λy ι6 S6 H6 e6 rep6 ⟨hp6,hn6,c7⟩ yv ry=>?_⟩;have C:Ext ι2 (cM W p) ι6 (cM H6 p):=G.trans e6.hide;have L:Rep X.K ι6 (cM H6 p) S6:=rep6.hide hp6 hn6;have F:=rx.later rep2 C;have hl:vs.length<sizeLine:=by rw[<-F.length];exact MA (by omega) zJ
    refine⟨vs,hp6,hl,ι6,S6,ρ4,xs++[y],vs++[yv],?_⟩;rw[dv];refine⟨e2.trans C,L,(N.later rep5 e6).hide hp6,aY,hn6,F.append (.cons (ry.hide hp6) .nil),by simp;omega,by simpa using c7⟩
 ·have hd:it.items.drop i=[]:=K8 (by omega);rw[hd]at c2;have R:cont X.K bX (fG it>>=λ_=>bt (xs++[])) ι2 S2 (cM W p) (mq X.K Q):=by
   have:(cN it g t m [] ρ2>>=λys=>bt (xs++ys))=(fG it>>=λ_=>bt (xs++[])):=by show((fG it>>=λ_=>a_ [])>>=λys=>bt (xs++ys))=_;simp only[eg,aj]
   rw[<-this];exact c2
  obtain⟨ok,s⟩:=g9 R rep2;rw[Ky]at s;refine .inl ⟨(a ι2 W S2 e2.unhide.n rep2.unhide ok i).2 (by omega),?_⟩;have:=(bq s rep2 rx).2 p jA;rw[sL hpc]at this;exact this
theorem sN(h:tM X.K bX (λρ=>do let it<-mi ρ;let ys<-eX it g t m (gP js ρ);bt ys) σ H Q):
  wk (F6 X.K bX mi) js (yU X.K bX g) (uP X.K bX t) (tM X.K bX m) σ H Q:=
 let ⟨ι,S,ρ,rep,re,c⟩:=h
 ⟨ι,S,ρ,rep,re,sM rep re c⟩
theorem cP(c:CompScope X scope Nc js)(Y:X.calm=b')(W:SI X bX tg iter mi)
  (Z:∀C ex s H,SG (aV X scope Nc C ex s H) bX tg g/\EU (aV X scope Nc C ex s H) bX ifs t/\SE (aV X scope Nc C ex s H) bX elt m)
  (hs:∀x,hI iter X.env x=a_ x:=by intro _;rfl):SE X bX (.ListComp elt [⟨tg,iter,ifs,0⟩] scope pos) (λρ=>do let it<-mi ρ;let ys<-eX it g t m (gP js ρ);bt ys):=
 PE.imp (wm (g:=yU X.K bX g) (tt:=uP X.K bX t) (te:=tM X.K bX m) c Y W Z hs) λ_ _ _ q=>sN q
theorem jX(i:Nat)(Q:X.N.Nodup)(c:CompScope X scope Nc js)(P:X.calm=b')(O:SI X bX tg iter mi)
  (W:∀C ex s H,SG (aV X scope Nc C ex s H) bX tg g/\EU (aV X scope Nc C ex s H) bX ifs t/\SE (aV X scope Nc C ex s H) bX elt m)
  (Z:X.N[i]? =ar x:=by rfl) (J:Loc X.env.scope x:=by first|exact NV rfl|exact Nm rfl)
  (Y:nC (.ListComp elt [⟨tg,iter,ifs,0⟩] scope cpos) (ar (.Name x pos')) pos.line X.env=a_ true:=by rfl)
  (L:X.fn x=b'\/X.env.scope.names.lookup x=ar .local:=by first|exact .inl rfl|exact .inr rfl|assumption)
  (hs:∀x,hI iter X.env x=a_ x:=by intro _;rfl):SS X bX (.Assign [.Name x pos'] (.ListComp elt [⟨tg,iter,ifs,0⟩] scope cpos) pos)
   (λρ=>do let d<-(do let it<-mi ρ;let ys<-eX it g t m (gP js ρ);bt ys);a_ (.nx (ρ.set i (ar d)))):=by
 refine PS.imp (uO (g:=yU X.K bX g) (tt:=uP X.K bX t) (te:=tM X.K bX m) Q Z J c P O W Y L hs) λT σ H h=>?_;obtain⟨R,S,ρ,rep,re,c⟩:=h;refine sN ⟨R,S,ρ,rep,re,ao (ag c) λd U S1 I e1 rep1 c1 v r=>?_⟩;exact ai c1 .refl rep1 _ ((re.later rep e1).set r i)
end
section
variable {P:d_}{w:ee}{K:dn}{mg:Str->Option b_}{base:f'}
def outD:Out->M D
 | .nx _=>a_ .non
 | .ret d=>a_ d
 |_=>M.fail
def mR(N n:Nat)(m:cT):List D->M D:=λds=>if ds.length=n then do let o<-m (ds.map ar++eb (N - n) aC);outD o else M.fail
end
def nJ(f:Int->Int->M D):D->D->M D
 | .int i,.int j=>f i j
 |_,_=>M.fail
theorem eY{K:dn}{E:XD}{g:Int->Int->V}{f:Int->Int->D}(R:∀Z H i j,RelD K Z H (f i j) (g i j)):sk K E (nJ λi j=>a_ (f i j)) (BP g):=by
 intro Z S H U X v1 v2 Q rep Y T c;cases U<;>cases X<;>first
  |exact(ah c).elim
  |exact⟨_,_,Y.int_inv,T.int_inv,ai c .refl rep _ (R _ _ _ _)⟩
theorem kC{K:dn}{E:XD}{C:Int->Int->Prop} [∀i j,Decidable (C i j)]{g:Int->Int->V}{f:Int->Int->D}(R:∀Y H i j,RelD K Y H (f i j) (g i j)):sk K E (nJ λi j=>if C i j then a_ (f i j)else M.fail) (rI C g):=by
 intro Y S H T U v1 v2 Q rep X P c;cases T<;>cases U<;>first
  |exact(ah c).elim
  | (next i j=>
    have Z:cont K E (if C i j then a_ (f i j)else M.fail) Y S H (mq K Q):=c;by_cases h:C i j
    ·rw[if_pos h]at Z;exact⟨_,_,X.int_inv,P.int_inv,h,ai Z .refl rep _ (R _ _ _ _)⟩
    ·rw[if_neg h]at Z;exact(ah Z).elim)
def eA:D->D->M D:=nJ λi j=>a_ (.int (i - j))
instance:∀i j,Decidable (oW i j):=λi j=>inferInstanceAs (Decidable (_\/_))
instance:∀i j,Decidable (uB i j):=λi j=>inferInstanceAs (Decidable (_/\_))
instance:∀i j,Decidable (Ca i j):=λi j=>inferInstanceAs (Decidable (_/\_))
def kD:D->D->M D:=nJ λi j=>if oW i j then a_ (.int (i*j))else M.fail
def iQ:D->D->M D:=nJ λi j=>if uB i j then a_ (.int (i / j))else M.fail
def mH:D->D->M D:=nJ λi j=>if 0<j then a_ (.int (i % j))else M.fail
def zN:D->D->M D:=nJ λi j=>if Ca i j then a_ (.int (i ^ j.toNat))else M.fail
def iw:D->D->M D
 | .int i,.int j=>a_ (.int (i+j))
 | .tup xs,.tup ys=>cy (xs++ys)
 | .lst a,.lst b=>do let xs<-getL a;let ys<-getL b;bt (xs++ys)
 | .lst a,.fz ys=>do let xs<-getL a;bt (xs++ys)
 | .fz xs,.lst b=>do let ys<-getL b;bt (xs++ys)
 | .fz xs,.fz ys=>bt (xs++ys)
 |_,_=>M.fail
def BU:D->D->M D:=nJ λi j=>a_ (.bl (decide (i<=j)))
def pU:D->D->M D:=nJ λi j=>a_ (.bl (decide (j<i)))
def G0:D->D->M D:=nJ λi j=>a_ (.bl (decide (j<=i)))
section
variable {X:Cx}{E:XD}{a b e c:Expr}{m n l:TM}{pos:Pos}
theorem gf(Z:SE X E a m)(Y:SE X E b n):SE X E (.BinOp a .Sub b pos) (λρ=>do let x<-m ρ;let y<-n ρ;eA x y):=nE Eu (eY λ_ _ _ _=>.int _) Z Y
theorem jY(Z:SE X E a m)(Y:SE X E b n):SE X E (.BinOp a .Mult b pos) (λρ=>do let x<-m ρ;let y<-n ρ;kD x y):=nE Ew (kC λ_ _ _ _=>.int _) Z Y
theorem kE(Z:SE X E a m)(Y:SE X E b n):SE X E (.BinOp a .FloorDiv b pos) (λρ=>do let x<-m ρ;let y<-n ρ;iQ x y):=nE Cb (kC λ_ _ _ _=>.int _) Z Y
theorem jZ(Z:SE X E a m)(Y:SE X E b n):SE X E (.BinOp a .Mod b pos) (λρ=>do let x<-m ρ;let y<-n ρ;mH x y):=nE Ex (kC (C:=λ_ j=>0<j) λ_ _ _ _=>.int _) Z Y
theorem zO(Z:SE X E a m)(Y:SE X E b n):SE X E (.BinOp a .Pow b pos) (λρ=>do let x<-m ρ;let y<-n ρ;zN x y):=nE Ey (kC λ_ _ _ _=>.int _) Z Y
theorem zP:ib X (n_ .Add) (λx y H Q=>∃a b ys,x= .ref a/\y= .ref b/\lr X.K H a []/\lr X.K H b ys/\Q (.ref b) H):=by
 intro pins s σ H x y v u Q I L N h;obtain⟨a,b,ys,rfl,rfl,G,J,q⟩:=h;cases L;cases N;obtain⟨its,O,F,_⟩:=I.tuple G;obtain⟨Y,z,C,_⟩:=I.tuple J;cases O;obtain⟨⟨cls,dd,data,A⟩,R,P,n,hd⟩:=id F;obtain⟨⟨S,U,data2,T⟩,W,Z,B,hd2⟩:=id C;simp only at P hd Z hd2;subst P hd Z hd2;exact NH ⟨_,R,rfl⟩ ⟨_,W,rfl⟩ MX Nz L4 LU (LO _ _)
  (tuple_addW0 a b #[] Y.toArray n B dd U A T (by simp)) ⟨R,W,⟨.ref b,H,I,rfl,q⟩⟩
theorem Inv.lstR{X:Cx}{Z:List (cq×Obj)}{W:L2.St}{H:Hp}{s:c_}{l:cq}{xs:List V}(I:L2.Inv X Z W H s)(Y:Rd H l (.lst xs)):xs.length<=sizeLine/\∃(its:List b_) (n:Nat),bh xs its/\xs.length=its.length/\s.heap.get? l=ar {cls:=.type "list",data:=.seq its.toArray n}:=by obtain⟨z,its,n,r,e⟩:=Y.ok I.hok;exact⟨z,its,n,r,r.length,e⟩
def G1:R2:=λx y H Q=>∃l b xs zs,x= .ref l/\y= .ref b/\Rd H l (.lst xs)/\Rd H b (.lst zs)/\xs.length+zs.length<=sizeLine/\∀p,H p=aC->Q (.ref p) (upd H p (.lst (xs++zs)))
theorem Cs:ib X (n_ .Add) G1:=by
 intro pins s σ H x y v u Q I R O h;obtain⟨l,b,xs,zs,rfl,rfl,W,U,J,q⟩:=h;cases R;cases O;obtain⟨z,its,n,r,L,e⟩:=Inv.lstR I W;obtain⟨N,Z,K,S,Y,e2⟩:=Inv.lstR I U;refine PySem.P.add_list e e2 ?_ (by rw[JY,JY];omega);have T:its.toArray++Z.toArray=(its++Z).toArray:=by simp
 rw[T];exact⟨.ref _,_,I.lnew (t':=s.toks) (r.append S) (by rw[JW];omega),rfl,q _ I.fresh⟩
theorem j4(F:SE X E a m)(G:SE X E b n):SE X E (.BinOp a .Add b pos) (λρ=>do let x<-m ρ;let y<-n ρ;iw x y):=by
 refine nE (Et.or (Ci.or (zP.or Cs))) ?_ F G;intro A S H B C v1 v2 Q rep P O c;cases B<;>cases C<;>first
  |exact(ah c).elim
  |exact .inl ⟨_,_,P.int_inv,O.int_inv,ai c .refl rep _ (.int _)⟩
  | (next xs ys=>
    obtain⟨p,vs,rfl,W,L⟩:=P.tup_inv;obtain⟨q,ws,rfl,U,I⟩:=O.tup_inv;obtain⟨Y,T⟩:=f9 c rep (L.append I);rw[JW]at Y;cases vs with
    |nil=>
     refine .inr (.inr (.inl ⟨p,q,ws,rfl,rfl,.of W,.of U,?_⟩));exact ij c rep U (L.append I)
    |cons v vs=>
     refine .inr (.inl ⟨p,q,v::vs,ws,rfl,rfl,.of W,.of U,by simp,JX Y ft,λz=>?_,λ_=>T⟩);subst z;have:=L.append I;rw[Ky]at this;exact ij c rep W this)
  | (next j k=>
    obtain⟨p,rfl,W⟩:=P.lst_inv;obtain⟨q,rfl,U⟩:=O.lst_inv;obtain⟨ds,vs,_,J,R,c1⟩:=ba c rep W;obtain⟨es,ws,_,hw,Z,N⟩:=ba c1 rep U;obtain⟨Y,T⟩:=bq N rep (R.append Z);rw[JW]at Y;exact .inr (.inr (.inr ⟨p,q,vs,ws,rfl,rfl,.inl J,.inl hw,JX Y ft,T⟩)))
  | (next j ys=>
    obtain⟨p,rfl,W⟩:=P.lst_inv;obtain⟨q,o2,ws,rfl,U,Z⟩:=O.fz_inv;obtain⟨ds,vs,_,J,R,c1⟩:=ba c rep W;obtain⟨Y,T⟩:=bq c1 rep (R.append Z);rw[JW]at Y;exact .inr (.inr (.inr ⟨p,q,vs,ws,rfl,rfl,.inl J,.inr ⟨o2,U⟩,JX Y ft,T⟩)))
  | (next xs k=>
    obtain⟨p,K,vs,rfl,W,R⟩:=P.fz_inv;obtain⟨q,rfl,U⟩:=O.lst_inv;obtain⟨es,ws,_,hw,Z,N⟩:=ba c rep U;obtain⟨Y,T⟩:=bq N rep (R.append Z);rw[JW]at Y;exact .inr (.inr (.inr ⟨p,q,vs,ws,rfl,rfl,.inr ⟨K,W⟩,.inl hw,JX Y ft,T⟩)))
  | (next xs ys=>
    obtain⟨p,K,vs,rfl,W,R⟩:=P.fz_inv;obtain⟨q,o2,ws,rfl,U,Z⟩:=O.fz_inv;obtain⟨Y,T⟩:=bq c rep (R.append Z);rw[JW]at Y;exact .inr (.inr (.inr ⟨p,q,vs,ws,rfl,rfl,.inr ⟨K,W⟩,.inr ⟨o2,U⟩,JX Y ft,T⟩)))
theorem DB(Z:SE X E a m)(Y:SE X E b n):SE X E (.Compare a [.Gt] [b] pos) (λρ=>do let x<-m ρ;let y<-n ρ;pU x y):=nF Dv (eY λ_ _ _ _=>.bl _) Z Y
theorem G2(Z:SE X E a m)(Y:SE X E b n):SE X E (.Compare a [.GtE] [b] pos) (λρ=>do let x<-m ρ;let y<-n ρ;G0 x y):=nF Dw (eY λ_ _ _ _=>.bl _) Z Y
theorem sO(Z:SE X E a m)(Y:SE X E b n):SB X E (.Compare a [.Gt] [b] pos) (λρ=>do let z<-(do let x<-m ρ;let y<-n ρ;pU x y);iT z):=lJ Dv (eY λ_ _ _ _=>.bl _) Z Y
theorem G3(Z:SE X E a m)(Y:SE X E b n):SB X E (.Compare a [.GtE] [b] pos) (λρ=>do let z<-(do let x<-m ρ;let y<-n ρ;G0 x y);iT z):=lJ Dw (eY λ_ _ _ _=>.bl _) Z Y
def intsOf:List D->Option (List Int)
 |[]=>ar []
 | .int i::r=>(intsOf r).map (i::·)
 |_=>aC
theorem d8{K:dn}{U:List cq}{H:Hp}:∀{ds:List D} {vs:List V} {ns:List Int},RelDs K U H ds vs->intsOf ds=ar ns->vs=ns.map V.int
 |[],vs,ns,h,e=>by cases e;rw[h.nil_inv];rfl
 | .int i::ds,vs,ns,h,e=>by
  obtain⟨v,ws,rfl,Y,Z⟩:=h.cons_inv;cases q:intsOf ds with
  |none=>simp[intsOf,q]at e
  |some ks=>
   simp[intsOf,q]at e;subst e;rw[Y.int_inv,d8 Z q];rfl
 | .non::_,_,_,_,e=>by cases e
 | .bl _::_,_,_,_,e=>by cases e
 | .str _::_,_,_,_,e=>by cases e
 | .tup _::_,_,_,_,e=>by cases e
 | .lst _::_,_,_,_,e=>by cases e
 | .ro _::_,_,_,_,e=>by cases e
 | .fz _::_,_,_,_,e=>by cases e
 | .emp::_,_,_,_,e=>by cases e
def pV:D->D->M D
 | .int i,.int j=>a_ (.bl (decide (i<j)))
 | .tup xs,.tup ys=>match intsOf xs,intsOf ys with
  |some ns,ar ms=>a_ (.bl (HT.lexLt ns ms))
  |_,_=>M.fail
 |_,_=>M.fail
theorem uR:sk X.K E pV (λx y H Q=>BP (λi j=>.bl (decide (i<j))) x y H Q\/GK X.K x y H Q):=by
 intro N S H P T v1 v2 Q rep Z Y c;cases P<;>cases T<;>first
  |exact(ah c).elim
  |exact .inl ⟨_,_,Z.int_inv,Y.int_inv,ai c .refl rep _ (.bl _)⟩
  | (next xs ys=>
    obtain⟨p,vs,rfl,W,U⟩:=Z.tup_inv;obtain⟨q,ws,rfl,O,R⟩:=Y.tup_inv;dsimp only[pV]at c;split at c
    ·next ns ms e1 e2=>
     refine .inr ⟨p,q,ns,ms,rfl,rfl,.of (by rw[<-d8 U e1];exact W),.of (by rw[<-d8 R e2];exact O),ai c .refl rep _ (.bl _)⟩
    ·exact(ah c).elim)
theorem DC(W:X.A.units<EA)(Z:SE X E a m)(Y:SE X E b n):SE X E (.Compare a [.Lt] [b] pos) (λρ=>do let x<-m ρ;let y<-n ρ;pV x y):=nF (zl.or (uJ W)) uR Z Y
theorem sP(W:X.A.units<EA)(Z:SE X E a m)(Y:SE X E b n):SB X E (.Compare a [.Lt] [b] pos) (λρ=>do let z<-(do let x<-m ρ;let y<-n ρ;pV x y);iT z):=lJ (zl.or (uJ W)) uR Z Y
theorem sQ(p:sk X.K E f r)(C:sk X.K E g r')
  (h:tM X.K E (λρ=>do let x<-m ρ;let y<-n ρ;let z<-f x y;let k<-iT z;if k=b' then do let w<-l ρ;g y w else a_ (.bl dr)) σ H Q):uC r r' (tM X.K E m) (tM X.K E n) (tM X.K E l) σ H Q:=by
 obtain⟨I,S,ρ,rep,re,c⟩:=h;refine⟨I,S,ρ,rep,re,ao (ag c) λx W S1 o e1 rep1 c1 v1 J=>?_⟩;refine⟨W,S1,ρ,rep1,re.later rep e1,ao (ag c1) λy U N v e2 rep2 L v2 R=>?_⟩;refine p U N v x y v1 v2 _ rep2 (J.later rep1 e2) R (ao (ag L) λz T A j P rep3 u i G=>?_);obtain⟨k,rfl,rfl,O⟩:=qQ rep3 G u;refine⟨k,rfl,?_⟩;cases k with
 |true=>
  exact⟨T,A,ρ,rep3,((re.later rep e1).later rep1 e2).later rep2 P,ao (ag O) λw Y B q F Z s v4 t=>C Y B q y w v2 v4 Q Z ((R.later rep2 P).later rep3 F) t s⟩
 |false=>exact ai O .refl rep3 _ (.bl dr)
theorem zQ(h:ib X (i' op) r)(h':ib X (i' op') r')(U:sk X.K E f r)(S:sk X.K E g r')(W:SE X E a m)(Z:SE X E b n)(Y:SE X E c l)
  (T:NT [op,op'] [b,c]=false:=by with_unfolding_all rfl):
  SE X E (.Compare a [op,op'] [b,c] pos) (λρ=>do let x<-m ρ;let y<-n ρ;let z<-f x y;let k<-iT z;if k=b' then do let w<-l ρ;g y w else a_ (.bl dr)):=
 PE.imp (zm h h' W Z Y T) λ_ _ _ q=>sQ U S q
theorem sR(h:ib X (i' op) r)(h':ib X (i' op') r')(L:sk X.K E f r)(O:sk X.K E g r')(R:SE X E a m)(Z:SE X E b n)(N:SE X E c l)
  (J:NT [op,op'] [b,c]=false:=by with_unfolding_all rfl):
  SB X E (.Compare a [op,op'] [b,c] pos) (λρ=>do let v<-(do let x<-m ρ;let y<-n ρ;let z<-f x y;let k<-iT z;if k=b' then do let w<-l ρ;g y w else a_ (.bl dr));iT v):=
 PT.imp (zo h h' R Z N J) λσ H Q q=>by obtain⟨P,S,ρ,rep,re,c⟩:=q;refine sQ L O (Q:=λx W=>∃k,x= .bl k/\Q k W) ⟨P,S,ρ,rep,re,ao (ag c) λx Y S1 I e1 rep1 c1 v1 T=>?_⟩;obtain⟨k,rfl,rfl,U⟩:=nG rep1 T c1;exact⟨k,rfl,U⟩
def bx:D->D->M D
 | .lst k,.int i=>do
  let xs<-getL k
  match ke xs i with
  |some d=>a_ d
  |none=>M.fail
 | .tup xs,.int i=>match ke xs i with
  |some d=>a_ d
  |none=>M.fail
 | .ro xs,.int i=>match ke xs i with
  |some d=>a_ d
  |none=>M.fail
 | .fz xs,.int i=>match ke xs i with
  |some d=>a_ d
  |none=>M.fail
 |_,_=>M.fail
theorem mS{K:dn}{Z:List cq}{H:Hp}{ds:List D}{vs:List V}{i:Int}{d:D}(h:RelDs K Z H ds vs)(e:ke ds i=ar d):∃v,ke vs i=ar v/\RelD K Z H d v:=by
 unfold ke at e⊢;rw[h.length]at e;cases q:yT vs.length i with
 |none=>rw[q]at e;cases e
 |some j=>
  rw[q]at e;exact h.get' e
theorem EV:sk X.K E bx (Jl X.K):=by
 intro O S H R T v1 v2 Q rep W U c;cases R<;>cases T<;>first
  |exact(ah c).elim
  | (next k i=>
    obtain⟨p,rfl,Z⟩:=W.lst_inv;obtain⟨ds,vs,_,P,Y,c1⟩:=ba c rep Z;cases q:ke ds i with
    |none=>rw[q]at c1;exact(ah c1).elim
    |some d=>
     rw[q]at c1;obtain⟨v,e1,e2⟩:=mS Y q;exact .inl ⟨p,vs,i,v,rfl,U.int_inv,.of P,e1,ai c1 .refl rep _ e2⟩)
  | (next ds i=>
    obtain⟨p,vs,rfl,Z,Y⟩:=W.tup_inv;dsimp only[bx]at c;cases q:ke ds i with
    |none=>rw[q]at c;exact(ah c).elim
    |some d=>
     rw[q]at c;obtain⟨v,e1,e2⟩:=mS Y q;exact .inr (.inl ⟨p,vs,i,v,rfl,U.int_inv,.of Z,e1,ai c .refl rep _ e2⟩))
  | (next ds i=>
    obtain⟨p,vs,rfl,Z,Y⟩:=W.ro_inv;dsimp only[bx]at c;cases q:ke ds i with
    |none=>rw[q]at c;exact(ah c).elim
    |some d=>
     rw[q]at c;obtain⟨v,e1,e2⟩:=mS Y q;exact .inl ⟨p,vs,i,v,rfl,U.int_inv,Z.sq,e1,ai c .refl rep _ e2⟩)
  | (next ds i=>
    obtain⟨p,o,vs,rfl,Z,Y⟩:=W.fz_inv;dsimp only[bx]at c;cases q:ke ds i with
    |none=>rw[q]at c;exact(ah c).elim
    |some d=>
     rw[q]at c;obtain⟨v,e1,e2⟩:=mS Y q;exact .inl ⟨p,vs,i,v,rfl,U.int_inv,.inl (.inr ⟨o,Z⟩),e1,ai c .refl rep _ e2⟩)
theorem aJ(Z:SE X E a m)(Y:SE X E b n)(hs:qF b:=by intro _ _;rfl):SE X E (.Subscript a b pos) (λρ=>do let x<-m ρ;let y<-n ρ;bx x y):=GV EJ EV Z Y hs
end
mutual
inductive ReadsV(H:Hp):V->ly->Prop where
 |non:ReadsV H .non .none
 |bl (b:Bool):ReadsV H (.bl b) (.bool b)
 |int (i:Int):ReadsV H (.int i) (.int i)
 |str (x:Str):ReadsV H (.str x) (.str x)
 |lst {a:cq} {vs:List V} {ps:List ly}:Rd H a (.lst vs)->ReadsVs H vs ps->ReadsV H (.ref a) (.list ps)
 |tup {a:cq} {vs:List V} {ps:List ly}:H a=ar (.tup vs)->ReadsVs H vs ps->ReadsV H (.ref a) (.tuple ps)
inductive ReadsVs(H:Hp):List V->List ly->Prop where
 |nil:ReadsVs H [] []
 |cons {v:V} {p:ly} {vs:List V} {ps:List ly}:ReadsV H v p->ReadsVs H vs ps->ReadsVs H (v::vs) (p::ps)
end
mutual
theorem ReadsV.heap(Z:fY P w H h):∀{v:V} {p:ly},ReadsV H v p->∀{u:b_},RelV v u->∃as,Reads h u p as
 |_,_,.non,u,r=>by cases (show u=j0 from r);exact⟨_,.none⟩
 |_,_,.bl b,u,r=>by cases (show u=sh b from r);exact⟨_,.bool b⟩
 |_,_,.int i,u,r=>by obtain⟨t,rfl⟩:=(show ∃t,u=u4 i t from r);exact⟨_,.int i t⟩
 |_,_,.str x,u,r=>by obtain⟨t,rfl⟩:=(show ∃t,u=NQ x t from r);exact⟨_,.str x t⟩
 |_,_,@ReadsV.lst _ a vs ps h1 h2,u,r=>by
  cases (show u=hF a from r);obtain⟨_,its,n,Y,e⟩:=(show bK P w H h a (.lst vs)from h1.ok Z);obtain⟨as,q⟩:=ReadsVs.heap Z h2 Y;exact⟨_,.list e rfl rfl (by simpa using q)⟩
 |_,_,@ReadsV.tup _ a vs ps h1 h2,u,r=>by
  cases (show u=hF a from r);obtain⟨_,its,Y,o,e,c,n,d⟩:=(show bK P w H h a (.tup vs)from Z a _ h1);obtain⟨as,q⟩:=ReadsVs.heap Z h2 Y;exact⟨_,.tuple e c d (by simpa using q)⟩
theorem ReadsVs.heap(Z:fY P w H h):∀{vs:List V} {ps:List ly},ReadsVs H vs ps->∀{us:List b_},bh vs us->∃as,ReadsAll h us ps as
 |_,_,.nil,us,r=>by cases r;exact⟨_,.nil⟩
 | _,_,.cons h1 h2,us,r=>by
  cases r with
  |cons r1 r2=>
   obtain⟨as,q⟩:=ReadsV.heap Z h1 r1;obtain⟨bs,Y⟩:=ReadsVs.heap Z h2 r2;exact⟨_,.cons q Y⟩
end
def mapP(f:D->Option ly):List D->Option (List ly)
 |[]=>ar []
 |d::ds=>match f d,mapP f ds with
  |some p,ar ps=>ar (p::ps)
  |_,_=>aC
def dO(S:aB):Nat->D->Option ly
 |_,.non=>ar .none
 |_,.bl b=>ar (.bool b)
 |_,.int i=>ar (.int i)
 |_,.str x=>if p_ x=b' then ar (.str x)else aC
 |n+1,.tup ds=>(mapP (dO S n) ds).map .tuple
 |n+1,.lst k=>(S[k]?).bind λxs=>(mapP (dO S n) xs).map .list
 |n+1,.fz ds=>(mapP (dO S n) ds).map .list
 |_,_=>aC
section
variable {K:dn}{ι:List cq}{S:aB}{H:Hp}
theorem kF{f:D->Option ly}(Z:∀d p v,f d=ar p->RelD K ι H d v->ReadsV H v p/\p.canLay0=b'/\p.depth<=n):
  ∀{ds:List D} {ps:List ly} {vs:List V},mapP f ds=ar ps->RelDs K ι H ds vs->ReadsVs H vs ps/\PyData.canLayAll0 ps=b'/\o_ ps<=n
 |[],ps,vs,e,r=>by
  cases e;rw[r.nil_inv];exact⟨.nil,rfl,Kk _⟩
 | d ::ds,ps,vs,e,r=>by
  obtain⟨v,ws,rfl,R,T⟩:=r.cons_inv;unfold mapP at e;cases q:f d with
  |none=>rw[q]at e;cases e
  | some p=>
   rw[q]at e;cases q2:mapP f ds with
   |none=>rw[q2]at e;cases e
   | some ps'=>
    rw[q2]at e;cases e;obtain⟨X,U,Y⟩:=Z d p v q R;obtain⟨k1,k2,k3⟩:=kF Z q2 T;refine⟨.cons X k1,?_,?_⟩
    ·show(PyData.canLay0 p && PyData.canLayAll0 ps')=b';rw[U,k2];rfl
    ·show max p.depth (o_ ps')<=n;exact Nat.max_le.mpr ⟨Y,k3⟩
theorem kG(X:Rep K ι H S):∀(n:Nat) (d:D) (p:ly) (v:V),dO S n d=ar p->RelD K ι H d v->ReadsV H v p/\p.canLay0=b'/\p.depth<=n:=by
 intro n
 induction n with
 | zero=>
  intro d p v e r;cases d with
  |non=>cases e;rw[r.non_inv];exact⟨.non,rfl,JQ _⟩
  |bl b=>cases e;rw[r.bl_inv];exact⟨.bl b,rfl,JQ _⟩
  |int i=>cases e;rw[r.int_inv];exact⟨.int i,rfl,JQ _⟩
  |str x=>
   unfold dO at e;split at e
   ·next hs=>cases e;rw[r.str_inv];exact⟨.str x,hs,JQ _⟩
   ·cases e
  |_=>cases e
 | succ n ih=>
  intro d p v e r;cases d with
  |non=>cases e;rw[r.non_inv];exact⟨.non,rfl,Kk _⟩
  |bl b=>cases e;rw[r.bl_inv];exact⟨.bl b,rfl,Kk _⟩
  |int i=>cases e;rw[r.int_inv];exact⟨.int i,rfl,Kk _⟩
  |str x=>
   unfold dO at e;split at e
   ·next hs=>cases e;rw[r.str_inv];exact⟨.str x,hs,Kk _⟩
   ·cases e
  | tup ds=>
   obtain⟨a,vs,rfl,Z,Y⟩:=r.tup_inv;unfold dO at e;cases q:mapP (dO S n) ds with
   |none=>rw[q]at e;cases e
   |some ps=>
    rw[q]at e;cases e;obtain⟨k1,k2,k3⟩:=kF ih q Y;exact⟨.tup Z k1,k2,Me k3⟩
  | lst k=>
   obtain⟨a,rfl,Z⟩:=r.lst_inv;unfold dO at e;cases z:S[k]? with
   |none=>rw[z]at e;cases e
   | some xs=>
    rw[z]at e;obtain⟨vs,U,Y⟩:=X.get k a xs Z z;cases q:mapP (dO S n) xs with
    |none=>simp[q]at e
    |some ps=>
     simp[q]at e;subst e;obtain⟨k1,k2,k3⟩:=kF ih q Y;exact⟨.lst (.inl U) k1,k2,Me k3⟩
  |ro ds=>cases e
  | fz ds=>
   obtain⟨a,o,vs,rfl,Z,Y⟩:=r.fz_inv;unfold dO at e;cases q:mapP (dO S n) ds with
   |none=>rw[q]at e;cases e
   |some ps=>
    rw[q]at e;cases e;obtain⟨k1,k2,k3⟩:=kF ih q Y;exact⟨.lst (.inr ⟨o,Z⟩) k1,k2,Me k3⟩
  |emp=>cases e
  |fn a c q ds vs=>cases e
  |exc x ds=>cases e
end
def EX(f:ly->ly->Bool):D->D->M D:=λa b S=>match dO S 60 a,dO S 60 b with
 |some p,ar q=>ar (.ok (.bl (f p q)),S)
 |_,_=>aC
def fJ:D->D->M D:=EX er
def kH:D->D->M D:=EX λp q=> !er p q
def IR(f:Bool->Bool):ly->ly->Option Bool
 |d,.list xs=>ar (f (xs.any λy=>er y d))
 |d,.tuple xs=>ar (f (xs.any λy=>er y d))
 |_,_=>aC
def G4(f:Bool->Bool):D->D->M D:=λa b S=>match dO S 60 a,dO S 60 b with
 |some p,ar q=>match IR f p q with
  |some r=>ar (.ok (.bl r),S)
  |none=>aC
 |_,_=>aC
def inD:D->D->M D:=G4 id
section
variable {X:Cx}{E:XD}{a b e:Expr}{m n:TM}{pos:Pos}
def EY(f:ly->ly->Bool):R2:=λx y H Q=>∃p q,(ReadsV H x p/\p.canLay0=b'/\p.depth<=60)/\(ReadsV H y q/\q.canLay0=b'/\q.depth<=60)/\Q (.bl (f p q)) H
theorem hU{p:ly}(h:p.canLay0=b')(Z:p.depth<=60):L_ p=true:=by unfold L_;rw[h,Mi];exact JT (by omega)
theorem zR(Z:X.A.units+64<EA):ib X (i' .Eq) (EY er):=by intro pins s σ H x y v u Q I L N h;obtain⟨p,q,⟨S,P,R⟩,⟨U,T,O⟩,h⟩:=h;obtain⟨as,W⟩:=S.heap I.hok L;obtain⟨bs,Y⟩:=U.heap I.hok N;exact eq_dataH W Y (hU P R) (hU T O) Z ⟨.bl _,H,I,rfl,h⟩
theorem EZ(Z:X.A.units+64<EA):ib X (i' .NotEq) (EY λp q=> !er p q):=by intro pins s σ H x y v u Q I L N h;obtain⟨p,q,⟨S,P,R⟩,⟨U,T,O⟩,h⟩:=h;obtain⟨as,W⟩:=S.heap I.hok L;obtain⟨bs,Y⟩:=U.heap I.hok N;exact ne_dataH W Y (hU P R) (hU T O) Z ⟨.bl _,H,I,rfl,h⟩
theorem qT:sk X.K E (EX f) (EY f):=by
 intro W S H U Y v1 v2 Q rep Z T c;obtain⟨r,R,e,k⟩:=c;unfold EX at e;split at e
 ·next p q hp hq=>
  cases e;exact⟨p,q,kG rep 60 U p v1 hp Z,kG rep 60 Y q v2 hq T,k W H .refl rep _ (.bl _)⟩
 ·cases e
theorem sS(W:X.A.units+64<EA)(Z:SE X E a m)(Y:SE X E b n):SE X E (.Compare a [.Eq] [b] pos) (λρ=>do let x<-m ρ;let y<-n ρ;fJ x y):=nF (zR W) qT Z Y
theorem kI(W:X.A.units+64<EA)(Z:SE X E a m)(Y:SE X E b n):SB X E (.Compare a [.Eq] [b] pos) (λρ=>do let z<-(do let x<-m ρ;let y<-n ρ;fJ x y);iT z):=lJ (zR W) qT Z Y
theorem nL(W:X.A.units+64<EA)(Z:SE X E a m)(Y:SE X E b n):SB X E (.Compare a [.NotEq] [b] pos) (λρ=>do let z<-(do let x<-m ρ;let y<-n ρ;kH x y);iT z):=lJ (EZ W) qT Z Y
def G5(f:Bool->Bool):R2:=λx y H Q=>∃p q r,(ReadsV H x p/\p.canLay0=b'/\p.depth<=60)/\(ReadsV H y q/\q.canLay0=b'/\q.depth<=60)/\IR f p q=ar r/\Q (.bl r) H
theorem wq:sk X.K E (G4 f) (G5 f):=by
 intro W S H U Y v1 v2 Q rep Z T c;obtain⟨r,R,e,k⟩:=c;unfold G4 at e;split at e
 ·next p q hp hq=>
  split at e
  ·next r hr=>
   cases e;exact⟨p,q,r,kG rep 60 U p v1 hp Z,kG rep 60 Y q v2 hq T,hr,k W H .refl rep _ (.bl _)⟩
  ·cases e
 ·cases e
theorem uS(h:(n3 xs).depth<=60):o_ xs<=60:=L7 h
theorem sT(h:(qq xs).depth<=60):o_ xs<=60:=L7 h
theorem zS(L:X.A.units+64<EA):ib X (i' .In) (G5 id):=by
 intro pins s σ H x y v u Q I N O h;obtain⟨p,q,r,⟨P,T,K⟩,⟨R,U,S⟩,Z,h⟩:=h;obtain⟨as,W⟩:=P.heap I.hok N;obtain⟨bs,Y⟩:=R.heap I.hok O;cases q with
 |list xs=>
  cases Z;exact SeqAt.in_list_reads Y W U T (by have:=uS S;have:min (o_ xs) p.depth<=60:=JX (Nat.min_le_left _ _) this;omega) ⟨.bl _,H,I,rfl,h⟩
 |tuple xs=>
  cases Z;exact SeqAt.in_tuple_reads Y W U T (by have:=sT S;have:min (o_ xs) p.depth<=60:=JX (Nat.min_le_left _ _) this;omega) ⟨.bl _,H,I,rfl,h⟩
 |_=>cases Z
theorem zT(W:X.A.units+64<EA)(Z:SE X E a m)(Y:SE X E b n)(U:kT .In b=false:=by rfl):SE X E (.Compare a [.In] [b] pos) (λρ=>do let x<-m ρ;let y<-n ρ;inD x y):=nF (zS W) wq Z Y U
theorem DD(W:X.A.units+64<EA)(Z:SE X E a m)(Y:SE X E b n)(U:kT .In b=false:=by rfl):SB X E (.Compare a [.In] [b] pos) (λρ=>do let z<-(do let x<-m ρ;let y<-n ρ;inD x y);iT z):=lJ (zS W) wq Z Y U
end
section
variable {X:Cx}{E:XD}{a b e c:Expr}{m n l:TM}{pos p2:Pos}{es:List Expr}{ms:aA->M (List D)}
def Jo:D->M Int
 | .int i=>a_ i
 |_=>M.fail
def JG(K:dn)(E:XD)(m:aA->M (Option Int)):TO:=λσ H Q=>∃ ι S ρ,Rep K ι H S/\RelE K ι H ρ σ/\cont K E (m ρ) ι S H (λo _ _ H'=>Q o H')
def SO(X:Cx)(E:XD)(o:Option Expr)(m:aA->M (Option Int)):Prop:=PO X o (JG X.K E m)
theorem PO.imp{X:Cx}{e:Option Expr}{t t':TO}(h:PO X e t)(k:∀ σ H Q,t' σ H Q->t σ H Q):PO X e t':=λpins s σ H Q I hw=>h pins s σ H Q I (k σ H Q hw)
theorem wt:SO X E aC (λ_=>a_ aC):=by refine PO.imp Cf λσ H Q h=>?_;obtain⟨Z,S,ρ,rep,re,c⟩:=h;exact ai c .refl rep
theorem wu(h:SE X E e m):SO X E (ar e) (λρ=>do let x<-m ρ;let i<-Jo x;a_ (ar i)):=by
 refine PO.imp (Cg h) λσ H Q h=>?_;obtain⟨Y,S,ρ,rep,re,c⟩:=h;refine⟨Y,S,ρ,rep,re,ao (ag c) λx Z S1 W e1 rep1 c1 v r=>?_⟩;cases x with
 |int i=>exact⟨i,r.int_inv,ai (ai (ag c1) .refl rep1) .refl rep1⟩
 |_=>exact(ah (ag c1)).elim
def cutD(xs:List D)(lo hi:Option Int):List D:=(xs.drop (HT.sIx xs.length 0 lo)).take (HT.sIx xs.length xs.length hi - HT.sIx xs.length 0 lo)
theorem mT{K:dn}{Y:List cq}{H:Hp}{ds:List D}{vs:List V}(U Z:Option Int)(h:RelDs K Y H ds vs):RelDs K Y H (cutD ds U Z) (oZ vs U Z):=by unfold cutD oZ;rw[h.length];exact(h.drop _).take _
def zU:D->Option Int->Option Int->M D
 | .tup xs,lo,hi=>cy (cutD xs lo hi)
 | .lst k,lo,hi=>do let xs<-getL k;bt (cutD xs lo hi)
 | .fz xs,lo,hi=>bt (cutD xs lo hi)
 |_,_,_=>M.fail
theorem Ct:Dz X (λx lo T H Q=>∃a xs,x= .ref a/\lr X.K H a xs/\(HT.sIx xs.length 0 lo=0/\HT.sIx xs.length xs.length T=xs.length)/\Q (.ref a) H):=by
 intro pins s σ H x v J L lo T O Q I R hs P pu h;obtain⟨a,xs,rfl,N,hw,q⟩:=h;cases R;obtain⟨its,r,Z,G⟩:=I.tuple N;have hlen:its.toArray.size=xs.length:=by rw[JY];exact r.length.symm
 refine⟨"tuple",_,PyProof.Rows.slot_tuple_getitem.lookup,Z.typeIs,?_⟩;have fin:EP X pins σ Q (.ref a) s:=⟨.ref a,H,I,rfl,q⟩;obtain⟨os,U,Y,S⟩:=id hs;have W:s.TypeIs (.ref O) "slice":=⟨os,U,Y⟩;unfold NI
 try with_reducible refine KY ?_
 first|refine JM (JR ?_)|skip
 refine JM (wpAny_sequenceKey Z.typeIs (by decide) ?_);refine JM (wpAny_callSpecial?_slot (name:=i3 "__getitem__") Z.typeIs KW
  (Ld KW Z.typeIs entry_tuple_getitem ?_ (args_tuple_getitem _ _)))
 show ed _ _ (Builtin.Tuple.tupleItemsOf (.ref a)>>=_) _ _ s;refine JM (tupleItemsOf_ Z (JM (M3 W ?_)));rw[if_pos (by decide)];refine JM (HT.sliceApplied_gen hs P pu ?_);rw[hlen,hw.1,hw.2];show ed _ _ (if ((((0:Nat):Int))==0 && (1:Int)==1 && (xs.length - 0)==xs.length)=b' then _ else _) _ _ s;rw[if_pos (by simp)];unfold Builtin.Tuple.tupleIsExact;refine JM (JM (M3 Z.typeIs (JR ?_)));rw[if_pos (by decide)];first
  |exact JM (L6 (JR ⟨_,rfl,JR fin⟩))
  |exact JM (L6 (JM (JR (JR ⟨_,rfl,JR fin⟩))))
theorem uT{xs:List V}{Y Z:Option Int}(h:HT.sIx xs.length 0 Y=0/\HT.sIx xs.length xs.length Z=xs.length):oZ xs Y Z=xs:=by unfold oZ;rw[h.1,h.2,Nb,Nat.sub_zero,List.take_length]
theorem sU{O L:Option Expr}{ml N:aA->M (Option Int)}(C:SE X E e m)(B:SO X E O ml)(G:SO X E L N):
  SE X E (.Subscript e (.Slice O L aC p2) pos) (λρ=>do let x<-m ρ;let i<-ml ρ;let j<-N ρ;zU x i j):=by
 refine PE.imp (zy (EG.or (Ct.or Ck)) C B G) λσ H Q h=>?_;obtain⟨I,S,ρ,rep,re,c⟩:=h;refine⟨I,S,ρ,rep,re,ao (ag c) λx T S1 w e1 rep1 c1 v r=>?_⟩;refine⟨T,S1,ρ,rep1,re.later rep e1,ao (ag c1) λi R K s e2 rep2 J=>?_⟩;refine⟨R,K,ρ,rep2,(re.later rep e1).later rep1 e2,ao (ag J) λj z t u A rep3 Y=>?_⟩;have U:=(r.later rep1 e2).later rep2 A;cases x with
 | tup ds=>
  obtain⟨p,vs,rfl,Z,P⟩:=U.tup_inv;by_cases hw:HT.sIx vs.length 0 i=0/\HT.sIx vs.length vs.length j=vs.length
  ·refine .inr (.inl ⟨p,vs,rfl,.of Z,hw,ij Y rep3 Z ?_⟩);have:=mT i j P;rw[uT hw]at this;exact this
  ·exact .inl ⟨p,vs,rfl,.of Z,hw,(f9 Y rep3 (mT i j P)).2⟩
 |lst k=>
  obtain⟨p,rfl,Z⟩:=U.lst_inv;obtain⟨ds,vs,_,F,W,y⟩:=ba Y rep3 Z;exact .inr (.inr ⟨p,vs,rfl,.of F,(bq y rep3 (mT i j W)).2⟩)
 |fz ds=>
  obtain⟨p,o,vs,rfl,Z,W⟩:=U.fz_inv;exact .inr (.inr ⟨p,vs,rfl,.inl (.inr ⟨o,Z⟩),(bq Y rep3 (mT i j W)).2⟩)
 |_=>exact(ah Y).elim
end
section
variable {X:Cx}{E:XD}{a b e c o:Expr}{m n l:TM}{pos p2:Pos}{es:List Expr}{ms:aA->M (List D)}
def bR:List D->M D
 |[.lst k]=>do let xs<-getL k;a_ (.int xs.length)
 |[.tup ds]=>a_ (.int ds.length)
 |[.ro ds]=>a_ (.int ds.length)
 |[.fz ds]=>a_ (.int ds.length)
 |_=>M.fail
theorem xP:iZ X.K E bR (λxs H Q=>∃p ys,xs=[.ref p]/\(iR X.K H p ys\/lr X.K H p ys)/\Q (.int ys.length) H):=by
 intro P S H ds vs Q rep r c
 match ds,r,c with
 |[.lst k],r,c=>
  obtain⟨v,ws,rfl,W,U⟩:=r.cons_inv;cases U.nil_inv;obtain⟨p,rfl,Z⟩:=W.lst_inv;obtain⟨es,us,_,T,Y,R⟩:=ba c rep Z;refine⟨p,us,rfl,.inl (.of T),?_⟩;have:=ai R .refl rep _ (.int _);rw[Y.length]at this;exact this
 |[.tup es],r,c=>
  obtain⟨v,ws,rfl,W,U⟩:=r.cons_inv;cases U.nil_inv;obtain⟨p,us,rfl,Z,Y⟩:=W.tup_inv;refine⟨p,us,rfl,.inr (.of Z),?_⟩;have:=ai c .refl rep _ (.int _);rw[Y.length]at this;exact this
 |[.ro es],r,c=>
  obtain⟨v,ws,rfl,W,U⟩:=r.cons_inv;cases U.nil_inv;obtain⟨p,us,rfl,Z,Y⟩:=W.ro_inv;refine⟨p,us,rfl,.inl Z.sq,?_⟩;have:=ai c .refl rep _ (.int _);rw[Y.length]at this;exact this
 |[.fz es],r,c=>
  obtain⟨v,ws,rfl,W,U⟩:=r.cons_inv;cases U.nil_inv;obtain⟨p,o,us,rfl,Z,Y⟩:=W.fz_inv;refine⟨p,us,rfl,.inl (.inl (.inr ⟨o,Z⟩)),?_⟩;have:=ai c .refl rep _ (.int _);rw[Y.length]at this;exact this
 |[],r,c=>exact(ah c).elim
 |[.non],r,c=>exact(ah c).elim
 |[.bl _],r,c=>exact(ah c).elim
 |[.int _],r,c=>exact(ah c).elim
 |[.str _],r,c=>exact(ah c).elim
 |[.emp],r,c=>exact(ah c).elim
 |d::d2::r',r,c=>cases d<;>exact(ah c).elim
theorem cU(W:X.mg "len"=aC)(Z:SE X E e m)(Y:Gl X "len":=by rfl)(hs:dt [e] X.env=[(dr,i4 e X.env)]:=by rfl):SE X E (.Call (.Name "len" p) [e] [] pos) (λρ=>do let ds<-(do let x<-m ρ;let xs<-a_ [];a_ (x::xs));bR ds):=
 gc qH xP Y W PySem.boot_len (af Z av hs) (by decide) (by decide) hs rfl
def wx(f:Int->Int->Int):List D->M D
 |[.int i,.int j]=>a_ (.int (f i j))
 |_=>M.fail
theorem nM{f:Int->Int->Int}:iZ X.K E (wx f) (λxs H Q=>∃i j,xs=[.int i,.int j]/\Q (.int (f i j)) H):=by
 intro R S H ds vs Q rep r c;unfold wx at c;split at c
 ·next i j=>
  obtain⟨v,ws,rfl,Z,U⟩:=r.cons_inv;obtain⟨P,Y,rfl,T,W⟩:=U.cons_inv;cases W.nil_inv;rw[Z.int_inv,T.int_inv];exact⟨i,j,rfl,ai c .refl rep _ (.int _)⟩
 ·exact(ah c).elim
def maxD:List D->M D:=wx λi j=>if j>i then j else i
def minD:List D->M D:=wx λi j=>if j<i then j else i
theorem uU(T:X.calm=b')(U:X.mg "max"=aC)(Y:SA X E [a,b] ms)(W:Gl X "max":=by rfl)(hs:dt [a,b] X.env=[(dr,i4 a X.env),(dr,i4 b X.env)]:=by rfl)(Z:dt [b] X.env=[(dr,i4 b X.env)]:=by rfl):
  SE X E (.Call (.Name "max" p) [a,b] [] pos) (λρ=>do let ds<-ms ρ;maxD ds):=
 gc (xD T) nM W U (by decide+kernel) Y (by decide) (by decide) (by rw[hs,Z]) (by rw[Z];rfl)
theorem zV(T:X.calm=b')(U:X.mg "min"=aC)(Y:SA X E [a,b] ms)(W:Gl X "min":=by rfl)(hs:dt [a,b] X.env=[(dr,i4 a X.env),(dr,i4 b X.env)]:=by rfl)(Z:dt [b] X.env=[(dr,i4 b X.env)]:=by rfl):
  SE X E (.Call (.Name "min" p) [a,b] [] pos) (λρ=>do let ds<-ms ρ;minD ds):=
 gc (xE T) nM W U (by decide+kernel) Y (by decide) (by decide) (by rw[hs,Z]) (by rw[Z];rfl)
def pW:List D->M D
 |[.lst k]=>do let xs<-getL k;bt xs
 |[.tup ds]=>bt ds
 |[.ro ds]=>bt ds
 |[.fz ds]=>bt ds
 |_=>M.fail
def cz:List D->M D
 |[.lst k]=>do let xs<-getL k;cy xs
 |[.tup ds]=>cy ds
 |[.fz ds]=>cy ds
 |_=>M.fail
theorem uV:iZ X.K E pW (λxs H Q=>∃p ys,xs=[.ref p]/\(iR X.K H p ys\/lr X.K H p ys)/\∀l,H l=aC->Q (.ref l) (upd H l (.lst ys))):=by
 intro P S H ds vs Q rep r c;unfold pW at c;split at c
 ·next k=>
  obtain⟨v,ws,rfl,W,U⟩:=r.cons_inv;cases U.nil_inv;obtain⟨p,rfl,Z⟩:=W.lst_inv;obtain⟨es,us,_,T,Y,R⟩:=ba c rep Z;exact⟨p,us,rfl,.inl (.of T),(bq R rep Y).2⟩
 ·next es=>
  obtain⟨v,ws,rfl,W,U⟩:=r.cons_inv;cases U.nil_inv;obtain⟨p,us,rfl,Z,Y⟩:=W.tup_inv;exact⟨p,us,rfl,.inr (.of Z),(bq c rep Y).2⟩
 ·next es=>
  obtain⟨v,ws,rfl,W,U⟩:=r.cons_inv;cases U.nil_inv;obtain⟨p,us,rfl,Z,Y⟩:=W.ro_inv;exact⟨p,us,rfl,.inl Z.sq,(bq c rep Y).2⟩
 ·next es=>
  obtain⟨v,ws,rfl,W,U⟩:=r.cons_inv;cases U.nil_inv;obtain⟨p,o,us,rfl,Z,Y⟩:=W.fz_inv;exact⟨p,us,rfl,.inl (.inl (.inr ⟨o,Z⟩)),(bq c rep Y).2⟩
 ·exact(ah c).elim
theorem sV:iZ X.K E cz (λxs H Q=>∃p ys,xs=[.ref p]/\((iR X.K H p ys/\∀l,H l=aC->Q (.ref l) (upd H l (.tup ys)))\/(lr X.K H p ys/\Q (.ref p) H))):=by
 intro P S H ds vs Q rep r c;unfold cz at c;split at c
 ·next k=>
  obtain⟨v,ws,rfl,W,U⟩:=r.cons_inv;cases U.nil_inv;obtain⟨p,rfl,Z⟩:=W.lst_inv;obtain⟨es,us,_,T,Y,R⟩:=ba c rep Z;exact⟨p,us,rfl,.inl ⟨.of T,(f9 R rep Y).2⟩⟩
 ·next es=>
  obtain⟨v,ws,rfl,W,U⟩:=r.cons_inv;cases U.nil_inv;obtain⟨p,us,rfl,Z,Y⟩:=W.tup_inv;exact⟨p,us,rfl,.inr ⟨.of Z,ij c rep Z Y⟩⟩
 ·next es=>
  obtain⟨v,ws,rfl,W,U⟩:=r.cons_inv;cases U.nil_inv;obtain⟨p,o,us,rfl,Z,Y⟩:=W.fz_inv;exact⟨p,us,rfl,.inl ⟨.inl (.inr ⟨o,Z⟩),(f9 c rep Y).2⟩⟩
 ·exact(ah c).elim
theorem Cu(W:X.mg "list"=aC)(Z:SE X E e m)(Y:Gl X "list":=by rfl)(hs:dt [e] X.env=[(dr,i4 e X.env)]:=by rfl):SE X E (.Call (.Name "list" p) [e] [] pos) (λρ=>do let ds<-(do let x<-m ρ;let xs<-a_ [];a_ (x::xs));pW ds):=
 pT qI uV Y W (by decide+kernel) (af Z av hs) (by decide) (by decide) hs rfl
theorem fh(W:X.mg "tuple"=aC)(Z:SE X E e m)(Y:Gl X "tuple":=by rfl)(hs:dt [e] X.env=[(dr,i4 e X.env)]:=by rfl):SE X E (.Call (.Name "tuple" p) [e] [] pos) (λρ=>do let ds<-(do let x<-m ρ;let xs<-a_ [];a_ (x::xs));cz ds):=
 pT o9 sV Y W (by decide+kernel) (af Z av hs) (by decide) (by decide) hs rfl
def DE(H:Hp):V->Option String
 | .non=>ar "NoneType"
 | .bl _=>ar "bool"
 | .int _=>ar "int"
 | .str _=>ar "str"
 | .ref a=>match H a with
  |some (.lst _)=>ar "list"
  |some (.frz _ (.lst _))=>ar "list"
  |some (.tup _)=>ar "tuple"
  |some (.dK _)=>ar "dict"
  |_=>aC
 |_=>aC
theorem E1{K:dn}{H:Hp}{v:V}{T:String}(h:DE H v=ar T):TyOf K H v (.type T):=by
 cases v with
 |non=>cases h;exact .non
 |bl b=>cases h;exact .bl b
 |int i=>cases h;exact .int i
 |str x=>cases h;exact .str x
 |ref a=>
  simp only[DE]at h;split at h
  ·next q=>cases h;exact .lst q
  ·next q=>cases h;exact .frz q
  ·next q=>cases h;exact .tup q
  ·next q=>cases h;exact .dK q
  ·cases h
 |_=>cases h
def BV:D->String
 | .non=>"NoneType"
 | .bl _=>"bool"
 | .int _=>"int"
 | .str _=>"str"
 | .tup _=>"tuple"
 | .lst _=>"list"
 | .ro _=>"list"
 | .fz _=>"list"
 | .emp=>"dict"
 | .fn _ _ _ _ _=>"NoneType"
 | .exc _ _=>"NoneType"
def E2:D->Bool
 | .ro _=>dr
 | .fn _ _ _ _ _=>dr
 | .exc _ _=>dr
 |_=>b'
theorem E3{K:dn}{U:List cq}{S:aB}{H:Hp}{d:D}{v:V}(Y:Rep K U H S)(r:RelD K U H d v)(Z:E2 d=b'):DE H v=ar (BV d):=by
 cases r with
 |non=>rfl
 |bl=>rfl
 |int=>rfl
 |str=>rfl
 |tup h _=>simp[DE,h,BV]
 |lst h=>
  obtain⟨vs,e⟩:=Y.isL (Kn h);simp[DE,e,BV]
 |ro h _=>cases Z
 |fz h _=>simp[DE,h,BV]
 |emp h=>simp[DE,h,BV]
 |fn=>cases Z
 |exc=>cases Z
 |excF=>cases Z
def Cv(f:String->Bool):D->M D
 | .ro _=>M.fail
 | .fn _ _ _ _ _=>M.fail
 | .exc _ _=>M.fail
 |d=>a_ (.bl (f (BV d)))
theorem zW{K:dn}{E:XD}{Z:List cq}{S:aB}{H:Hp}{f:String->Bool}{d:D}{Q:D->List cq->aB->Hp->Prop}(c:cont K E (Cv f d) Z S H Q):E2 d=b'/\cont K E (a_ (.bl (f (BV d)))) Z S H Q:=by
 cases d with
 |ro ds=>exact(ah c).elim
 |fn a c' q ds vs=>exact(ah c).elim
 |exc x ds=>exact(ah c).elim
 |_=>exact⟨rfl,c⟩
def xQ(t T:String):Bool:=t==T||(t=="bool" && T=="int")
theorem Cw(K:dn)(t:String)(Y:t∈["NoneType","bool","int","str","tuple","list","dict"])(T:String)(Z:T∈["bool","int","str","tuple","list"]):y1 K (.type t) (.type T)=ar (xQ t T):=by simp only[hO,hh,or_false]at Y Z;rcases Y with rfl|rfl|rfl|rfl|rfl|rfl|rfl<;>rcases Z with rfl|rfl|rfl|rfl|rfl<;>rfl
theorem Cy(d:D):BV d∈["NoneType","bool","int","str","tuple","list","dict"]:=by cases d<;>simp[BV]
theorem zX:dM X (.builtin "isinstance") (λxs H Q=>∃x t T,xs=[x,.ty T]/\DE H x=ar t/\t∈["NoneType","bool","int","str","tuple","list","dict"]/\T∈["bool","int","str","tuple","list"]/\Q (.bl (xQ t T)) H):=by intro pins s σ H xs us Q I r h;obtain⟨x,t,T,rfl,W,R,S,q⟩:=h;obtain⟨u,U,rfl,Y,Z⟩:=vals2 r;cases (show U=Value.type T from Z);exact xG I Y (E1 W) (Cw X.K t R T S) λP=>⟨.bl _,H,I.tok P,rfl,q⟩
theorem qU{p q:Pos}{T:Str}{Ts:String}(J:X.mg "isinstance"=aC)(U:X.mg T=aC)(O:SE X E e m)(I:k4 T=ar (.type Ts):=by decide+kernel)(W:Ts∈["bool","int","str","tuple","list"]:=by decide)(K:Gl X "isinstance":=by rfl)(Y:Gl X T:=by rfl)
  (L:T≠"__name__":=by decide) (R:(T==("__debug__":Str))=false:=by decide)
  (hs:dt [e,.Name T q] X.env=[(dr,i4 e X.env),(dr,i4 (.Name T q) X.env)]:=by rfl) (Z:dt [.Name T q] X.env=[(dr,i4 (.Name T q) X.env)]:=by rfl):
  SE X E (.Call (.Name "isinstance" p) [e,.Name T q] [] pos) (λρ=>do let x<-m ρ;Cv (λt=>xQ t Ts) x):=by
 refine PE.imp (sC zX K J (by decide+kernel) (mQ O (mQ (B3 Y U I (v:=.ty Ts) rfl L R) uG Z) (by rw[hs,Z])) (by decide) (by decide) (by rw[hs,Z]) (by rw[Z];rfl)) λσ H Q h=>?_;obtain⟨N,S,ρ,rep,re,c⟩:=h;refine⟨N,S,ρ,rep,re,ao (ag c) λx P S1 G e1 rep1 c1 v r=>?_⟩;obtain⟨R,c1⟩:=zW c1;exact⟨v,BV x,Ts,rfl,E3 rep1 r R,Cy x,W,ai c1 .refl rep1 _ (.bl _)⟩
end
section
variable {X:Cx}{E:XD}{a b e c o tg:Expr}{m n l:TM}{pos p2:Pos}{es:List Expr}{ms:aA->M (List D)}
theorem range_all{bs:List Bool}:(dV bs.length).all (λi=>bs.getD i dr)=bs.all id:=by
 induction bs with
 |nil=>rfl
 |cons b bs ih=>
  rw[Ki,Lu,NA,NN];simp only[q_,NA,id];congr 1
theorem xR(C:X.calm=b'):dM X (.builtin "all") (λxs H Q=>∃(p:cq) (bs:List Bool),xs=[.ref p]/\iR X.K H p (bs.map V.bl)/\Q (.bl (bs.all id)) H):=by
 intro pins s σ H xs us Q I r h;obtain⟨p,bs,rfl,F,q⟩:=h;obtain⟨u,rfl,O⟩:=vals1 r;cases (show u=hF p from O);obtain⟨its,S,G,w⟩:=I.list F;have T:=G.isList;refine call_all_walk (MI T ?_);have U:p<s.heap.objs.size:=by obtain⟨o,N,_⟩:=T;exact JU N
 have hlen:=S.length;refine⟨s.heap.objs.size,_,_,_,_,_,λi=>bs.getD i dr,rfl,Walks.list (A:=X.A.in1) (by show X.A.handled=aC;exact I.ok.hd C) s.heap.objs.size p (J7 U) its.toArray,⟨⟨_,J0 _ rfl,rfl,rfl⟩,T.push _⟩,?_,λh' y L=>?_⟩
 ·intro i v s' B z J W;have Y:its[i]? =ar v:=by simpa using J
  have x:i<its.length:=(JV.mp Y).1;have Z:i<bs.length:=by rw[JN]at hlen;omega
  have:(bs.map V.bl)[i]? =ar (.bl bs[i]):=by rw[Km,JP Z];rfl
  obtain⟨u,R,P⟩:=S.get this;rw[Y]at R;cases R;cases (show v=sh bs[i]from P);have:bs.getD i dr=bs[i]:=by simp[Nw,Z]
  dsimp only at W;rw[this]at W;exact KF W
 ·have e1:its.toArray.size=bs.length:=by rw[JY, <-hlen,JN]
  rw[e1,range_all];refine⟨.bl _,H,I.kept (λb o e=>L b o ?_ (JO _ e)),rfl,q⟩;have:b≠s.heap.objs.size:=J7 (JU e);simpa using this
def boolsOf:List D->Option (List Bool)
 |[]=>ar []
 | .bl i::r=>(boolsOf r).map (i::·)
 |_=>aC
theorem fi{K:dn}{U:List cq}{H:Hp}:∀{ds:List D} {vs:List V} {ns:List Bool},RelDs K U H ds vs->boolsOf ds=ar ns->vs=ns.map V.bl
 |[],vs,ns,h,e=>by cases e;rw[h.nil_inv];rfl
 | .bl i::ds,vs,ns,h,e=>by
  obtain⟨v,ws,rfl,Y,Z⟩:=h.cons_inv;cases q:boolsOf ds with
  |none=>simp[boolsOf,q]at e
  |some ks=>
   simp[boolsOf,q]at e;subst e;rw[Y.bl_inv,fi Z q];rfl
 | .non::_,_,_,_,e=>by cases e
 | .int _::_,_,_,_,e=>by cases e
 | .str _::_,_,_,_,e=>by cases e
 | .tup _::_,_,_,_,e=>by cases e
 | .lst _::_,_,_,_,e=>by cases e
 | .ro _::_,_,_,_,e=>by cases e
 | .fz _::_,_,_,_,e=>by cases e
 | .emp::_,_,_,_,e=>by cases e
def uW:List D->M D
 |[.lst k]=>do
  let xs<-getL k
  match boolsOf xs with
  |some bs=>a_ (.bl (bs.all id))
  |none=>M.fail
 |[.fz xs]=>match boolsOf xs with
  |some bs=>a_ (.bl (bs.all id))
  |none=>M.fail
 |_=>M.fail
theorem xS:iZ X.K E uW (λxs H Q=>∃(p:cq) (bs:List Bool),xs=[.ref p]/\iR X.K H p (bs.map V.bl)/\Q (.bl (bs.all id)) H):=by
 intro P S H ds vs Q rep r c;unfold uW at c;split at c
 ·next k=>
  obtain⟨v,ws,rfl,U,T⟩:=r.cons_inv;cases T.nil_inv;obtain⟨p,rfl,Y⟩:=U.lst_inv;obtain⟨es,us,_,R,W,Z⟩:=ba c rep Y;cases q:boolsOf es with
  |none=>rw[q]at Z;exact(ah Z).elim
  |some bs=>
   rw[q]at Z;refine⟨p,bs,rfl,.of ?_,ai Z .refl rep _ (.bl _)⟩;rw[<-fi W q];exact R
 ·next es=>
  obtain⟨v,ws,rfl,U,T⟩:=r.cons_inv;cases T.nil_inv;obtain⟨p,o,us,rfl,Y,W⟩:=U.fz_inv;cases q:boolsOf es with
  |none=>rw[q]at c;exact(ah c).elim
  |some bs=>
   rw[q]at c;refine⟨p,bs,rfl,.inl (.inr ⟨o,?_⟩),ai c .refl rep _ (.bl _)⟩;rw[<-fi W q];exact Y
 ·exact(ah c).elim
theorem zY(U:X.calm=b')(W:X.mg "all"=aC)(Z:SE X E e m)(Y:Gl X "all":=by rfl)(hs:dt [e] X.env=[(dr,i4 e X.env)]:=by rfl):SE X E (.Call (.Name "all" p) [e] [] pos) (λρ=>do let ds<-(do let x<-m ρ;let xs<-a_ [];a_ (x::xs));uW ds):=
 gc (xR U) xS Y W (by decide+kernel) (af Z av hs) (by decide) (by decide) hs rfl
def eB:D->List D->M D
 | .lst k,[d]=>do let xs<-getL k;lI k (xs++[d])
 |_,_=>M.fail
def kJ:D->List D->M D
 | .lst k,[.lst j]=>do let xs<-getL k;let ys<-getL j;lI k (xs++ys)
 | .lst k,[.fz ys]=>do let xs<-getL k;lI k (xs++ys)
 |_,_=>M.fail
def lK:D->List D->M D
 | .lst k,[.int i]=>do
  let xs<-getL k
  if 0<=i/\i<xs.length then
   match xs[i.toNat]? with
   |some y=>do let _<-lI k (xs.eraseIdx i.toNat);a_ y
   |none=>M.fail
  else M.fail
 |_,_=>M.fail
theorem zZ{K:dn}{H:Hp}{p:cq}{xs:List V}(h:H p=ar (.lst xs)):IK K "list" (.ref p) H:=.inl ⟨rfl,xs,.of h⟩
def F7:D->M Unit
 | .lst _=>a_ ()
 |_=>M.fail
theorem qV{name:Str}{P:String}{f:D->List D->M D}{r:V->List V->Hp->VK->Prop}{Y:Pos}(R:Slot "list" name P)(L:typeOf (.builtin P)=a_ (.type "method_descriptor"))(q:II X P r)
  (s:HI X.K E f r) (w:SE X E o m) (u:SA X E (e::es) ms)
  (U:x_ o name X.env (i4 o X.env)=i4 o X.env:=by rfl)
  (T:((lx pos (dt (e::es) X.env)).all (λx=> !x.1) && (backToKw pos (keywordEach [] X.env)).all (λx=>x.1.isSome)
   && decide ((e::es).length+([]:List N5).length+(if ([]:List N5).isEmpty then 0 else 1)<30))=true:=by rfl)
  (W:(Y.endLine==pos.line)=true:=by rfl) (hs:dt (e::es) X.env=(dr,i4 e X.env)::dt es X.env:=by rfl) (Z:(lx pos (dt es X.env)).any (·.1)=false:=by rfl):
  SE X E (.Call (.Attribute o name Y) (e::es) [] pos) (λρ=>do let x<-m ρ;F7 x;let ds<-ms ρ;f x ds):=by
 refine PE.imp (GS PySem.F.plainAttrs_list R L q w u U T W hs Z) λσ H Q h=>?_;obtain⟨B,S,ρ,rep,re,c⟩:=h;refine⟨B,S,ρ,rep,re,ao (ag c) λx O S1 j e1 rep1 c1 v J=>?_⟩;cases x with
 |lst k=>
  obtain⟨p,rfl,I⟩:=J.lst_inv;obtain⟨vs,z⟩:=rep1.isL (Kn I);have C:=ai (ag c1) .refl rep1;exact⟨zZ z,O,S1,ρ,rep1,re.later rep e1,ao (ag C) λds N G y e2 rep2 t vs A=>s N G y (.lst k) ds (.ref p) vs Q rep2 (J.later rep1 e2) A t⟩
 |_=>exact(ah (ag c1)).elim
theorem uX:HI X.K E eB wd:=by
 intro N S H d ds v vs Q rep r rs c;unfold eB at c;split at c
 ·next k d=>
  obtain⟨p,rfl,Z⟩:=r.lst_inv;obtain⟨w,ws,rfl,U,T⟩:=rs.cons_inv;cases T.nil_inv;obtain⟨es,us,_,P,W,O⟩:=ba c rep Z;obtain⟨Y,R⟩:=g6 O rep Z (W.append (.cons U .nil));rw[JW]at Y;exact⟨p,us,w,rfl,rfl,P,J1 (by simp at Y;omega) ft,R _ .non⟩
 ·exact(ah c).elim
def sW:V->List V->Hp->VK->Prop:=λx vs H Q=>∃l b xs zs,x= .ref l/\vs=[.ref b]/\H l=ar (.lst xs)/\Rd H b (.lst zs)/\xs.length+zs.length<=sizeLine/\Q .non (upd H l (.lst (xs++zs)))
theorem uY:II X "list.extend" sW:=by
 intro pins s σ H x vs v us Q I O S h;obtain⟨l,b,xs,zs,rfl,rfl,U,N,G,q⟩:=h;cases O;obtain⟨u,rfl,T⟩:=S.one;cases T;obtain⟨z,its,n,r,J,e⟩:=I.lstM U;obtain⟨K,Z,L,R,P,e2⟩:=Inv.lstR I N;have W:its.toArray.size+Z.toArray.size<=sizeLine:=by rw[JY,JY];omega
 have Y:¬ (!its.toArray.isEmpty && m1 (its.toArray.size+Z.toArray.size))=true:=by rw[sD W,Bool.and_false];exact KL
 refine Na F.slot_list_extend ⟨_,e,rfl⟩ F.entry_list_extend (F.args_list_extend_2 _ _)
  (AutoSeq1.list_extend_list_list_0 l its.toArray n b Z.toArray L Y (by rw[JY];omega) (by omega)) ⟨e,e2,?_⟩
 refine⟨.non,_,I.lset (its':=its++Z) U e (by simp) (r.append R) ?_,rfl,q⟩;rw[JW];omega
theorem uZ:HI X.K E kJ sW:=by
 intro G S H d ds v vs Q rep r rs c;unfold kJ at c;split at c
 ·next k j=>
  obtain⟨p,rfl,Z⟩:=r.lst_inv;obtain⟨w,ws,rfl,U,R⟩:=rs.cons_inv;cases R.nil_inv;obtain⟨q,rfl,T⟩:=U.lst_inv;obtain⟨es,us,_,N,W,L⟩:=ba c rep Z;obtain⟨fs,ys,_,J,O,I⟩:=ba L rep T;obtain⟨Y,P⟩:=g6 I rep Z (W.append O);rw[JW]at Y;exact⟨p,q,us,ys,rfl,rfl,N,.inl J,JX Y ft,P _ .non⟩
 ·next k fs=>
  obtain⟨p,rfl,Z⟩:=r.lst_inv;obtain⟨w,ws,rfl,U,R⟩:=rs.cons_inv;cases R.nil_inv;obtain⟨q,o,ys,rfl,T,O⟩:=U.fz_inv;obtain⟨es,us,_,N,W,L⟩:=ba c rep Z;obtain⟨Y,P⟩:=g6 L rep Z (W.append O);rw[JW]at Y;exact⟨p,q,us,ys,rfl,rfl,N,.inr ⟨o,T⟩,JX Y ft,P _ .non⟩
 ·exact(ah c).elim
theorem xT:HI X.K E lK zz:=by
 intro O S H d ds v vs Q rep r rs c;unfold lK at c;split at c
 ·next k i=>
  obtain⟨p,rfl,W⟩:=r.lst_inv;obtain⟨w,ws,rfl,L,I⟩:=rs.cons_inv;cases I.nil_inv;rw[L.int_inv];obtain⟨es,us,J,C,U,Z⟩:=ba c rep W;split at Z
  ·next hb=>
   cases q:es[i.toNat]? with
   |none=>rw[q]at Z;exact(ah Z).elim
   | some y=>
    rw[q]at Z;obtain⟨G,P,T⟩:=U.get' q;have hlen:=U.length;have F:Ext O H O (upd H p (.lst (us.eraseIdx i.toNat))):=qO (Kn W);have Y:=RelDs.eraseIdx i.toNat U;have N:=g6 (ag Z) rep W Y;have R:us.length<=lim+1:=by have:=N.1;rw[List.length_eraseIdx]at this;split at this<;>omega
    refine⟨p,us,i,i.toNat,G,rfl,rfl,C,by omega,by unfold lim at R;omega,?_,P,?_⟩
    ·unfold NU;simp only[show ¬ i<0 by omega,if_false];first|(rw[if_pos (by omega)])|(rw[if_pos (by simp;omega)])|(simp;omega)
    ·exact ai N.2 .refl (qP rep W Y) _ (T.later rep F)
  ·exact(ah Z).elim
 ·exact(ah c).elim
theorem lL{Z:Pos}(T:SE X E o m)(U:SE X E e n)
  (Y:x_ o "append" X.env (i4 o X.env)=i4 o X.env:=by rfl)
  (W:(Z.endLine==pos.line)=true:=by rfl) (hs:dt [e] X.env=[(dr,i4 e X.env)]:=by rfl):
  SE X E (.Call (.Attribute o "append" Z) [e] [] pos) (λρ=>do let x<-m ρ;F7 x;let ds<-(do let y<-n ρ;let ys<-a_ [];a_ (y::ys));eB x ds):=
 qV PySem.F.slot_list_append PySem.F.type_list_append lE uX T (af U av hs) Y (by rw[hs];rfl) W hs rfl
theorem xU{Z:Pos}(T:SE X E o m)(U:SE X E e n)
  (Y:x_ o "extend" X.env (i4 o X.env)=i4 o X.env:=by rfl)
  (W:(Z.endLine==pos.line)=true:=by rfl) (hs:dt [e] X.env=[(dr,i4 e X.env)]:=by rfl):
  SE X E (.Call (.Attribute o "extend" Z) [e] [] pos) (λρ=>do let x<-m ρ;F7 x;let ds<-(do let y<-n ρ;let ys<-a_ [];a_ (y::ys));kJ x ds):=
 qV PySem.F.slot_list_extend PySem.F.type_list_extend uY uZ T (af U av hs) Y (by rw[hs];rfl) W hs rfl
theorem z5{Z:Pos}(T:SE X E o m)(U:SE X E e n)
  (Y:x_ o "pop" X.env (i4 o X.env)=i4 o X.env:=by rfl)
  (W:(Z.endLine==pos.line)=true:=by rfl) (hs:dt [e] X.env=[(dr,i4 e X.env)]:=by rfl):
  SE X E (.Call (.Attribute o "pop" Z) [e] [] pos) (λρ=>do let x<-m ρ;F7 x;let ds<-(do let y<-n ρ;let ys<-a_ [];a_ (y::ys));lK x ds):=
 qV PySem.F.slot_list_pop PySem.F.type_list_pop zA xT T (af U av hs) Y (by rw[hs];rfl) W hs rfl
theorem xV:IQ X.K E i5 DA:=by
 intro I S H G L J v1 v2 N Q rep T R U c;unfold i5 at c;split at c
 ·next k j=>
  obtain⟨p,rfl,Y⟩:=T.lst_inv;obtain⟨es,us,_,O,W,Z⟩:=ba c rep Y;cases q:yT es.length j with
  |none=>rw[q]at Z;exact(ah Z).elim
  |some at'=>
   rw[q]at Z;obtain⟨F,P⟩:=g6 (ag Z) rep Y (RelDs.set U at' W);refine⟨p,us,j,at',rfl,R.int_inv,O,by rw[<-W.length];exact q,?_⟩;exact ai P .refl (qP rep Y (RelDs.set U at' W))
 ·exact(ah c).elim
theorem wy(L:SE X E o m)(F:SE X E i n)(K:∀v,K_ (.Subscript o i pos) X.env v=(do
   let ov<-v_ [v] (i4 o X.env);let iv<-v_ [v,ov] (i4 i X.env)
   xy pos
   v_ [v,ov,iv] (OD ov iv v)
   release [v,ov,iv] []):=by intro _;rfl):SG X E (.Subscript o i pos) (λd ρ=>do let x<-m ρ;let y<-n ρ;i5 x y d;a_ ρ):=by
 refine PG.imp (Ei L F set_list K) λv σ H Q h=>?_;obtain⟨P,S,ρ,d,rep,re,r,c⟩:=h;refine⟨P,S,ρ,rep,re,ao (ag c) λx Z S1 C e1 rep1 c1 v1 R=>?_⟩;refine⟨Z,S1,ρ,rep1,re.later rep e1,ao (ag c1) λy Y U N e2 rep2 T v2 O=>?_⟩;have W:=(re.later rep e1).later rep1 e2;refine xV (E:=E) Y U N x y d v1 v2 v _ rep2 (R.later rep1 e2) O ((r.later rep e1).later rep1 e2) (ao (ag T) λ_ G A B I rep3 J=>?_);exact ai J .refl rep3 σ (W.later rep2 I)
def bg(lo:Int)(n:Nat):List D:=(dV n).map λi=>.int (lo+(i:Nat))
def lM:List D->M Iter
 |[.int j]=>if -(2 ^ 62)<=j/\j<2 ^ 62 then a_ ⟨bg 0 j.toNat,.none⟩else M.fail
 |_=>M.fail
def jB:List D->M Iter
 |[.int i,.int j]=>if -(2 ^ 62)<=i/\i<2 ^ 62/\ -(2 ^ 62)<=j/\j<2 ^ 62 then a_ ⟨bg i (j - i).toNat,.none⟩else M.fail
 |_=>M.fail
theorem kK{K:dn}{Y:Int}{n:Nat}{R:List cq}{H:Hp}:ir K ⟨bg Y n,.none⟩ (Gx Y n) R H:=by
 intro S O Q e rep ok i;refine⟨λd hd=>?_,λh=>?_⟩
 ·have Z:((dV n)[i]?).map (λi:Nat=>D.int (Y+(i:Nat)))=ar d:=by
   have:(bg Y n)[i]? =ar d:=hd;unfold bg at this;rw[Km]at this;exact this
  have U:i<n:=by
   by_cases h:i<n
   ·exact h
   ·rw[KQ (by simp;omega)]at Z;cases Z
  rw[K6 U]at Z;cases Z;exact⟨U,λx P T=>by obtain⟨rfl,rfl⟩:=T;exact⟨.refl,rep,.int _⟩⟩
 ·have h':(bg Y n).length<=i:=h;unfold bg at h';rw[JN,J4]at h';exact h'
theorem eP(P:X.mg "range"=aC)(W:SE X E a m)(Q:Gl X "range":=by rfl)(hs:dt [a] X.env=[(dr,i4 a X.env)]:=by rfl):
  SI X E tg (.Call (.Name "range" p) [a] [] pos) (λρ=>do let ds<-(do let x<-m ρ;let xs<-a_ [];a_ (x::xs));lM ds):=by
 intro pins s σ H R I h;refine xA Q P (af W av hs) hs pins s σ H R I ?_;obtain⟨U,S,ρ,rep,re,c⟩:=h;refine⟨U,S,ρ,rep,re,ao (ag c) λds Z S1 O e1 rep1 c1 vs r=>?_⟩;unfold lM at c1;split at c1
 ·next j=>
  obtain⟨w,ws,rfl,Y,T⟩:=r.cons_inv;cases T.nil_inv;split at c1
  ·next hb=>rw[Y.int_inv];exact⟨j,rfl,hb.1,hb.2,ai c1 .refl rep1 _ kK⟩
  ·exact(ah c1).elim
 ·exact(ah c1).elim
theorem jC(J:X.mg "range"=aC)(T:SE X E a m)(Y:SE X E b n)(K:Gl X "range":=by rfl)(hs:dt [a,b] X.env=[(dr,i4 a X.env),(dr,i4 b X.env)]:=by rfl)(Z:dt [b] X.env=[(dr,i4 b X.env)]:=by rfl):
  SI X E tg (.Call (.Name "range" p) [a,b] [] pos) (λρ=>do let ds<-(do let x<-m ρ;let xs<-(do let y<-n ρ;let ys<-a_ [];a_ (y::ys));a_ (x::xs));jB ds):=by
 intro pins s σ H R I h;refine xB K J (af T (af Y av Z) (by rw[hs,Z])) hs Z pins s σ H R I ?_;obtain⟨P,S,ρ,rep,re,c⟩:=h;refine⟨P,S,ρ,rep,re,ao (ag c) λds W S1 F e1 rep1 c1 vs r=>?_⟩;unfold jB at c1;split at c1
 ·next i j=>
  obtain⟨w,ws,rfl,U,N⟩:=r.cons_inv;obtain⟨G,Q,rfl,L,O⟩:=N.cons_inv;cases O.nil_inv;split at c1
  ·next Y=>rw[U.int_inv,L.int_inv];exact⟨i,j,rfl,Y,ai c1 .refl rep1 _ kK⟩
  ·exact(ah c1).elim
 ·exact(ah c1).elim
def G6:D->M Iter
 | .lst k=>do let xs<-getL k;a_ ⟨xs,.some k⟩
 | .tup ds=>a_ ⟨ds,.none⟩
 | .ro ds=>a_ ⟨ds,.none⟩
 | .fz ds=>a_ ⟨ds,.none⟩
 |_=>M.fail
theorem sX{K:dn}{k:Nat}{a:cq}{xs:List D}{S:List cq}{H:Hp}(Q:S[k]? =ar a):ir K ⟨xs,.some k⟩ (HF K a) S H:=by intro R N O e rep ok i;obtain⟨vs,Y,T⟩:=rep.get k a xs (e.at Q) ok;refine⟨λd hd=>?_,λh=>⟨vs,.of Y,by rw[<-T.length];exact h⟩⟩;obtain⟨v,U,P⟩:=T.get' hd;refine⟨⟨vs,v,.of Y,U⟩,λx L Z=>?_⟩;obtain⟨rfl,Z⟩:=Z;have:=Z vs (.of Y);rw[U]at this;cases this;exact⟨.refl,rep,P⟩
theorem u6{K:dn}{a:cq}{ds:List D}{vs:List V}{T:List cq}{S:aB}{H:Hp}(Y:Rep K T H S)(Q:H a=ar (.tup vs))(r:RelDs K T H ds vs):ir K ⟨ds,.none⟩ (Iw K a) T H:=by intro P J L e rep2 ok i;have Z:=(e.oth a _ Q (Y.notIn Q (by intro _ z;cases z)) (by intro _ z;cases z) (by intro _ z;cases z)).1;have N:=r.laterN Y e;refine⟨λd hd=>?_,λh=>⟨vs,.of Z,by rw[<-r.length];exact h⟩⟩;obtain⟨v,R,O⟩:=N.get' hd;refine⟨⟨vs,v,.of Z,R⟩,λx I U=>?_⟩;obtain⟨rfl,U⟩:=U;have:=U vs (.of Z);rw[R]at this;cases this;exact⟨.refl,rep2,O⟩
theorem pX{K:dn}{a:cq}{ds:List D}{vs:List V}{T:List cq}{S:aB}{H:Hp}(Z:Rep K T H S)(O:BS K H a vs)(r:RelDs K T H ds vs):ir K ⟨ds,.none⟩ (HF K a) T H:=by intro N P I e rep2 ok i;have R:BS K P a vs:=O.imp (λ⟨o,h⟩=>⟨o,(e.oth a _ h (Z.notIn h (by intro _ z;cases z)) (by intro _ z;cases z) (by intro _ z;cases z)).1⟩) λz=>z;have J:=r.laterN Z e;have Y:iR K P a vs:=R.sq;refine⟨λd hd=>?_,λh=>⟨vs,Y,by rw[<-r.length];exact h⟩⟩;obtain⟨v,Q,L⟩:=J.get' hd;refine⟨⟨vs,v,Y,Q⟩,λx G U=>?_⟩;obtain⟨rfl,U⟩:=U;have:=U vs Y;rw[Q]at this;cases this;exact⟨.refl,rep2,L⟩
theorem d9(P:SE X E e m):SI X E tg e (λρ=>do let x<-m ρ;G6 x):=by
 intro pins s σ H R I h;obtain⟨T,S,ρ,rep,re,c⟩:=h;obtain⟨r,O,Q,k⟩:=id (ag c);cases r with
 |ex x=>
  refine kj P pins s σ H R I ⟨T,S,ρ,rep,re,.ex x,O,Q,k⟩
 | ok d=>
  cases d with
  |tup ds=>
   refine Ep P pins s σ H R I ⟨T,S,ρ,rep,re,.ok (.tup ds),O,Q,λZ W e1 rep1 v U=>?_⟩;obtain⟨p,vs,rfl,Y,N⟩:=U.tup_inv;exact⟨p,rfl,⟨vs,.of Y⟩,ai (k Z W e1 rep1) .refl rep1 _ (u6 rep1 Y N)⟩
  |lst j=>
   refine kj P pins s σ H R I ⟨T,S,ρ,rep,re,.ok (.lst j),O,Q,λZ W e1 rep1 v U=>?_⟩;obtain⟨p,rfl,Y⟩:=U.lst_inv;obtain⟨es,us,_,L,J,K⟩:=ba (k Z W e1 rep1) rep1 Y;exact⟨p,rfl,⟨us,.of L⟩,ai K .refl rep1 _ (sX Y)⟩
  |ro ds=>
   refine kj P pins s σ H R I ⟨T,S,ρ,rep,re,.ok (.ro ds),O,Q,λZ W e1 rep1 v U=>?_⟩;obtain⟨p,vs,rfl,Y,N⟩:=U.ro_inv;exact⟨p,rfl,⟨vs,Y.sq⟩,ai (k Z W e1 rep1) .refl rep1 _ (pX rep1 Y N)⟩
  |fz ds=>
   refine kj P pins s σ H R I ⟨T,S,ρ,rep,re,.ok (.fz ds),O,Q,λZ W e1 rep1 v U=>?_⟩;obtain⟨p,o,vs,rfl,Y,N⟩:=U.fz_inv;exact⟨p,rfl,⟨vs,.inl (.inr ⟨o,Y⟩)⟩,ai (k Z W e1 rep1) .refl rep1 _ (pX rep1 (.inl ⟨o,Y⟩) N)⟩
  |_=>exact kj P pins s σ H R I ⟨T,S,ρ,rep,re,.ok _,O,Q,λZ W e1 rep1 v U=>(ah (k Z W e1 rep1)).elim⟩
theorem sY:dM X (.type "range") (λxs H Q=>∃j,xs=[.int j]/\∀p,H p=aC->Q (.ref p) (upd H p (.rng 0 j))):=by intro pins s σ H xs us Q I r h;obtain⟨j,rfl,q⟩:=h;obtain⟨u,rfl,Z⟩:=vals1 r;obtain⟨t,rfl⟩:=(show ∃t,u=u4 j t from Z);refine call_range_1 ⟨.ref s.heap.objs.size,_,I.laid (o:=.rng 0 j) (λb o e=>JO _ e) (JQ _) ⟨_,_,_,J0 _ rfl⟩,rfl,q _ (I.hok.fresh (JQ _))⟩
theorem pf(G:X.calm=b'):dM X (.type "list") (λxs H Q=>∃(p:cq) (j:Int),xs=[.ref p]/\H p=ar (.rng 0 j)/\ -(2 ^ 62)<=j/\j<=lim/\∀l,H l=aC->Q (.ref l) (upd H l (.lst ((dV j.toNat).map λi:Nat=>V.int (i:Nat))))):=by
 intro pins s σ H xs us Q I r h;obtain⟨p,j,rfl,J,T,R,q⟩:=h;obtain⟨u,rfl,O⟩:=vals1 r;cases (show u=hF p from O);obtain⟨t,u,v,K⟩:=(show bK X.prog X.w H s.heap p (.rng 0 j)from I.hok p _ J);have Y:Builtin.Range.rangeSize 0 j 1=(j.toNat:Int):=by rw[rangeSize_one];split<;>omega
 have Z:j.toNat<=lim:=by omega
 refine call_list_range (I.ok.hd G) K (small_one (by omega) (by omega) T (by unfold lim at R;omega)) Y (by unfold lim at Z;omega) λh' P acc S L N hit=>?_;refine⟨.ref s.heap.objs.size,_,I.laid (t':=P) L (JQ _) (o:=.lst ((dV j.toNat).map λi:Nat=>V.int (i:Nat))) ?_,rfl,q _ (I.hok.fresh (JQ _))⟩;refine⟨by rw[JN,J4];exact JX Z ft,acc.toList,S,?_,by simpa using N⟩;obtain⟨hs,F⟩:=hit;have gen:∀(l:List b_) (f:Nat->Int),(∀i v,l[i]? =ar v->∃t,v=u4 (f i) t)->bh ((dV l.length).map λi:Nat=>V.int (f i)) l:=by
  intro l
  induction l with
  |nil=>intro f _;exact .nil
  |cons x l ih=>
   intro f hf;rw[Ki,Lu,Ke,Kf];obtain⟨t,U⟩:=hf 0 x rfl;refine .cons ⟨t,U⟩ ?_;exact ih (λi=>f (i+1)) λi v W=>hf (i+1) v (by simpa using W)
 have:=gen acc.toList (λi=>(i:Int)) λi v W=>by obtain⟨t,U⟩:=F i v (by simpa using W);exact⟨t,by rw[U];congr 1;omega⟩
 rw[Mm,hs]at this;exact this
def cg:List D->M D
 |[.int j]=>if -(2 ^ 62)<=j/\j<=lim then bt (bg 0 j.toNat)else M.fail
 |_=>M.fail
theorem nN{K:dn}{Z:List cq}{H:Hp}:∀(l:List Nat),RelDs K Z H (l.map λi:Nat=>D.int (0+(i:Nat))) (l.map λi:Nat=>V.int (i:Nat))
 |[]=>.nil
 |x::l=>.cons (by show RelD K Z H (D.int (0+(x:Int))) (V.int (x:Int));rw[MB];exact .int _) (nN l)
theorem iy(K:X.calm=b')(I:X.mg "list"=aC)(W:X.mg "range"=aC)(O:SE X E a m)(J:Gl X "list":=by rfl)(Y:Gl X "range":=by rfl)(hs:dt [a] X.env=[(dr,i4 a X.env)]:=by rfl)
  (Z:dt [.Call (.Name "range" q) [a] [] pos2] X.env=[(dr,i4 (.Call (.Name "range" q) [a] [] pos2) X.env)]:=by rfl):
  SE X E (.Call (.Name "list" p) [.Call (.Name "range" q) [a] [] pos2] [] pos) (λρ=>do let ds<-(do let x<-m ρ;let xs<-a_ [];a_ (x::xs));cg ds):=by
 refine PE.imp (lD (pf K) J I (by decide+kernel) (mQ (lD sY Y W (by decide+kernel) (af O av hs) (by decide) (by decide) hs rfl) uG Z) (by decide) (by decide) Z rfl) λσ H Q h=>?_;obtain⟨N,S,ρ,rep,re,c⟩:=h;refine⟨N,S,ρ,rep,re,ao (ag c) λds T S1 G e1 rep1 c1 vs r=>?_⟩;unfold cg at c1;split at c1
 ·next j=>
  obtain⟨w,ws,rfl,P,L⟩:=r.cons_inv;cases L.nil_inv;split at c1
  ·next hb=>
   rw[P.int_inv];refine⟨j,rfl,λp U=>?_⟩;have rep2:=kA (o:=.rng 0 j) rep1 U;refine⟨p,j,rfl,aY,hb.1,hb.2,?_⟩;have R:=iq c1 (ie (o:=.rng 0 j) U);exact(bq R rep2 (nN (dV j.toNat))).2
  ·exact(ah c1).elim
 ·exact(ah c1).elim
end
section
variable {X:Cx}{E:XD}{a b c d e:Expr}{m n l k:TM}{pos p2:Pos}
end
section
variable {X:Cx}{E:XD}{e:Expr}{m:TM}{te:TE}{pos p1 p2 p3:Pos}{j:Nat}
def IS:D->M D
 | .tup xs=>cy xs.reverse
 |_=>M.fail
end
def insI(x:Int):List Int->List Int
 |[]=>[x]
 |y::r=>if x<=y then x::y::r else y::insI x r
def sortI:List Int->List Int
 |[]=>[]
 |x::r=>insI x (sortI r)
theorem insI_perm(x:Int):∀l,(insI x l).Perm (x::l)
 |[]=>.refl _
 |y::r=>by
  unfold insI;split
  ·exact .refl _
  ·exact(List.Perm.cons y (insI_perm x r)).trans (List.Perm.swap x y r)
theorem sortI_perm:∀l,(sortI l).Perm l
 |[]=>.refl _
 |x::r=>(insI_perm x _).trans (List.Perm.cons x (sortI_perm r))
theorem mr(x:Int):∀{l:List Int},l.Pairwise (· <=·)->(insI x l).Pairwise (· <=·)
 |[],_=>by simp[insI]
 | y::r,h=>by
  obtain⟨Y,X⟩:=Kx.mp h;unfold insI;split
  ·next c=>
   refine Kx.mpr ⟨λz Z=>?_,h⟩;rcases J5.mp Z with rfl|Z
   ·exact c
   ·exact Int.le_trans c (Y z Z)
  ·next c=>
   refine Kx.mpr ⟨λz Z=>?_,mr x X⟩;rcases J5.mp ((insI_perm x r).mem_iff.mp Z)with rfl|Z
   ·omega
   ·exact Y z Z
theorem fK:∀l,(sortI l).Pairwise (· <=·)
 |[]=>.nil
 |x::r=>mr x (fK r)
section
variable {X:Cx}{E:XD}{e:Expr}{m:TM}{pos:Pos}
theorem qW:dM X (.builtin "sorted") (λxs H Q=>∃(p:cq) (ns:List Int),xs=[.ref p]/\iR X.K H p (ns.map V.int)/\ns.length<64/\∀l,H l=aC->Q (.ref l) (upd H l (.lst ((sortI ns).map V.int)))):=by intro pins s σ H xs us Q I r h;obtain⟨p,ns,rfl,O,U,q⟩:=h;obtain⟨u,rfl,N⟩:=vals1 r;cases (show u=hF p from N);obtain⟨its,Y,S,L⟩:=I.list O;have T:la its ns:=MJ Y;have hlen:=Y.length;rw[JN]at hlen;refine sorted_ints S.isList T (by omega) λout Z a1 a2 R=>?_;have en:Z=sortI ns:=W.lks_uniq (a2.trans (sortI_perm ns).symm) R (fK ns);subst en;obtain⟨c,P⟩:=sortedAll_at s.heap its out;have hf:H (s.heap.objs.size+1)=none:=I.hok.fresh (LL _);refine⟨.ref (s.heap.objs.size+1),_,I.laid (t':=s.toks) (o:=.lst ((sortI ns).map V.int)) (λb o e=>sortedAll_old e) (LL _) ⟨?_,out.toList,c,jz a1,P⟩,rfl,q _ hf⟩;rw[JN,(sortI_perm ns).length_eq,KR];omega
theorem nO{K:dn}{Z:List cq}{H:Hp}:∀ns:List Int,RelDs K Z H (ns.map D.int) (ns.map V.int)
 |[]=>.nil
 |n::r=>.cons (.int n) (nO r)
end
end S3
namespace S3
open PySem PySem.Spec PySem.W PyProof.Rows L2
theorem nP{h:f'}:∀{vs:List b_},(∀v∈vs,∃a o us n i t,v= .ref a/\h.get? a=ar o/\o.cls= .type "tuple"/\o.data= .seq us n/\us[0]? =ar (u4 i t))->
  ∃fs,KatTups h vs fs/\fs.length=vs.length/\∀f∈fs,∃i t,f=u4 i t
 |[],_=>⟨[],.nil,rfl,λ_ z=>nomatch z⟩
 |v::vs,hv=>by
  obtain⟨a,o,us,n,i,t,rfl,e1,e2,Y,X⟩:=hv v J9;obtain⟨fs,k1,k2,k3⟩:=nP λZ h'=>hv Z (JZ _ h');refine⟨_::fs,.cons e1 e2 Y X k1,by simp[k2],λf hf=>?_⟩;rcases J5.mp hf with rfl|hf
  ·exact⟨i,t,rfl⟩
  ·exact k3 f hf
theorem iz:∀ns:List Int,HT.lexLt ns ns=dr
 |[]=>rfl
 |n::r=>by rw[HT.lexLt_cons,if_pos rfl];exact iz r
theorem u7:∀{a b c:List Int},HT.lexLt a b=b'->HT.lexLt b c=b'->HT.lexLt a c=b'
 |[],[],c,h,_=>by cases h
 |[],_::_,[],_,h=>by cases h
 |[],_::_,_::_,_,_=>rfl
 |_::_,[],c,h,_=>by cases h
 |_::_,_::_,[],_,h=>by cases h
 | x::a,y::b,z::c,h1,h2=>by
  rw[HT.lexLt_cons]at h1 h2⊢;split at h1
  ·next e=>
   subst e;split at h2
   ·next e2=>subst e2;rw[if_pos rfl];exact u7 h1 h2
   ·next e2=>rw[if_neg e2];exact h2
  ·next e=>
   have Z:x<y:=Kd h1;split at h2
   ·next e2=>subst e2;rw[if_neg e];exact h1
   ·next e2=>
    have Y:y<z:=Kd h2;rw[if_neg (by omega)];exact JT (by omega)
theorem qX:∀{a b c:List Int},HT.lexLt a c=b'->HT.lexLt a b=b'\/HT.lexLt b c=b'
 |a,b,[],h=>by cases a<;>cases h
 |[],[],_::_,_=>.inr rfl
 |[],_::_,_::_,_=>.inl rfl
 |_::_,[],_::_,_=>.inr rfl
 | x ::a,y::b,z::c,h=>by
  rw[HT.lexLt_cons]at h;rw[HT.lexLt_cons,HT.lexLt_cons];split at h
  ·next e=>
   subst e;by_cases e2:x=y
   ·subst e2;rw[if_pos rfl,if_pos rfl];exact qX h
   ·rw[if_neg e2,if_neg (k8 e2)];rcases Int.lt_or_gt_of_ne e2 with l|l
    ·exact .inl (JT l)
    ·exact .inr (JT l)
  ·next e=>
   have h':x<z:=Kd h;by_cases e2:x=y
   ·subst e2;rw[if_neg e];exact .inr (JT h')
   ·rw[if_neg e2];by_cases l:x<y
    ·exact .inl (JT l)
    ·refine .inr ?_;rw[if_neg (by omega)];exact JT (by omega)
theorem z8(x:bK P w H h a o):∃Z,h.get? a=ar Z:=by
 cases o with
 |lst xs=>obtain⟨_,_,_,_,e⟩:=x;exact⟨_,e⟩
 |tup xs=>obtain⟨_,_,_,Z,e,_⟩:=x;exact⟨_,e⟩
 |dK kvs=>obtain⟨_,_,_,_,o,_,_,e,_⟩:=x;exact⟨_,e⟩
 |dT kvs=>obtain⟨_,_,_,_,o,_,_,e,_⟩:=x;exact⟨_,e⟩
 |set S n=>obtain⟨o,_,_,_,e,_⟩:=x;exact⟨_,e⟩
 |ins C dx fs=>obtain⟨_,_,_,e,_⟩:=x;exact⟨_,e⟩
 |own y=>exact x
 |xd fs=>obtain⟨_,⟨_,_,_,e,_⟩,_⟩:=x;exact⟨_,e⟩
 |rng lo hi=>obtain⟨_,_,_,e⟩:=x;exact⟨_,e⟩
 |frz Z u=>exact⟨_,x.1⟩
 |tbl ps=>exact⟨_,show h.get? a=ar _ from x⟩
 |met f y=>exact⟨_,show h.get? a=ar _ from x⟩
 |ext φ=>exact x.2.1
section
variable {X:Cx}{pins:List (cq×Obj)}{σ:L2.St}{H:Hp}{s:c_}
theorem u9{us:List b_}(I:L2.Inv X pins σ H s)(O:Fr X.base X.env.locals s.heap m)(F:Fr X.base X.env.locals h2 m)
  (U:∀b o,b≠X.env.locals->s.heap.get? b=ar o->h2.get? b=ar o) (S:s.heap.get? d=aC) (L:h2.get? d=ar {cls:=.type "list",data:=.seq us.toArray n}) (Q:bh ys us) (C:ys.length<=sizeLine):
  L2.Inv X pins σ (upd H d (.lst ys)) {s with heap:=h2}:=by
 have Y:H d=none:=by
  cases e:H d with
  |none=>rfl
  |some o=>obtain⟨P,q⟩:=z8 (I.hok d o e);rw[S]at q;cases q
 have W:∀b o,H b=ar o->b≠X.env.locals:=λb o e z=>by rw[z,I.free]at e;cases e
 have old:∀b o,s.heap.get? b=ar o->b≠d:=λb o e z=>by rw[z,S]at e;cases e
 refine I.step (g':=s.gens) (d':=s.drawn) (t':=s.toks) (ch:=[]) (λ_ z=>nomatch z) (λb o Z _ _ e _=>U b o Z e) (λb o Z _ _ e _=>⟨o.slots,U b o Z e⟩)
  (λb o _ e n=>by rw[aK (old b o e)];exact n) (λb o _ e=>?_) (λb xs e=>by rw[aK (aO e Y)];exact e) (λb P u e=>by rw[aK (aO e Y)];exact e)
  (λb w e=>⟨#[],by rw[aK (aO e Y),e];simp⟩) (λG hm=>?_) (λb u e=>?_) I.bare
 ·by_cases Z:b=X.env.locals
  ·obtain⟨E,_,_,N,_⟩:=F.ns;exact⟨E,by rw[Z];exact N⟩
  ·exact⟨o,U b o Z e⟩
 ·have:G=m:=by
   obtain⟨y,es,A,e1,K,_,g1⟩:=hm;obtain⟨o2,J,B,e2,R,_,g2⟩:=O.ns;rw[e1]at e2;cases e2;rw[K]at R;cases R;funext x;rw[<-g1 x, <-g2 x]
  rw[this];exact F.ns
 ·by_cases Z:b=d
  ·subst Z;rw[aY]at e;cases e;exact⟨C,us,n,Q,L⟩
  ·rw[aK Z]at e;refine(I.hok b u e).stay (λc v T z=>U c v ?_ z) (λc z=>by rw[aK (aO z Y)];exact z) λc xs z=>by rw[aK (aO z Y)];exact z
   rcases T with rfl|T
   ·exact W _ _ e
   ·exact W _ _ T
end
section
variable {X:Cx}
end
end S3
namespace S4
open PySem PySem.SetTable
def tb(m:Nat):SetTable:=⟨m, #[], #[],0,b',0,b'⟩
def z9(m:Nat)(h:Int):Nat->Probe
 |0=>(tb m).probeStart h
 |k+1=>(tb m).advance (z9 m h k)
def run(m i:Nat):Nat:=runEnd m i - i
def JH(m:Nat):Prop:=m=7\/m=31
def JI(xs:Array Nat):Prop:=∀(i j a b:Nat),i<j->xs[i]? =ar a->xs[j]? =ar b->a<b
abbrev Ent:=Int×b_
def At(pl:Array Nat)(es:Array Ent)(j:Nat)(e:Ent):Prop:=∃i:Nat,pl[i]? =ar j/\es[i]? =ar e
structure TPre(t:NO)(es:Array Ent):Prop where
 msk:JH t.mask
 dum:t.dummies= #[]
 siz:t.place.size=es.size
 ris:JI t.place
 inb:∀(i a:Nat),t.place[i]? =ar a->a<=t.mask
 way:∀(j:Nat) (e:Ent),At t.place es j e->∃k,(z9 t.mask e.1 k).j=j/\∀m,m<k->∃e',At t.place es (z9 t.mask e.1 m).j e'
structure TOk(t:NO)(es:Array Ent):Prop extends TPre t es where
 few:es.size*5<t.mask*3
abbrev HK:=Array (Option Nat)
def IT(o:HK)(j:Nat):Prop:=∃k,o[j]? =ar (ar k)
structure Laid(m:Nat)(hs:List Int)(o:HK):Prop where
 siz:o.size=m+1
 way:∀(j k:Nat),o[j]? =ar (ar k)->∃x,hs[k]? =ar x/\∃n,(z9 m x n).j=j/\∀i,i<n->IT o (z9 m x i).j
def G7(m:Nat)(f:Nat->Option Nat):List (Nat×Nat):=(dV (m+1)).filterMap λj=>(f j).map λk=>(j,k)
def fo(o:HK)(j:Nat):Option Nat:=o.getD j aC
structure LaidN(m:Nat)(hs:List Int)(o:HK):Prop extends Laid m hs o where
 all:((G7 m (fo o)).map (·.2)).Perm (dV hs.length)
end S4
namespace S4
open PySem PySem.Spec PyProof.Rows
section
variable {prog:d_}{w:ee}{A:iB}{E:b_->c_->Prop}{s:c_}
theorem items_int(h:ItemsAre (OC prog w) ks vs):∀v∈vs,∃n t,v=u4 n t:=by
 induction h with
 |nil=>intro v Z;cases Z
 | cons h1 _ ih=>
  intro v Z;rcases J5.mp Z with rfl|Z
  ·obtain⟨t,e⟩:=Value.isInt_shape h1;exact⟨_,t,e⟩
  ·exact ih v Z
abbrev KA:=List Int×cq
def IU(prog:d_)(w:ee)(k:List Int):Int:=tupleKeyHash (OC prog w) k
def ent(prog:d_)(w:ee)(p:KA):Ent:=(IU prog w p.1,.ref p.2)
structure SetAt(prog:d_)(w:ee)(h:f')(a:cq)(o:Obj)(es:Array Ent)(ep:Nat)(t:NO)(L:List KA):Prop where
 get:h.get? a=ar o
 ex:o.ExactSet
 dat:o.data= .set es ep t
 ok:TOk t es
 pln:t.plain=b'
 led:t.led= !(w.params.followText "set-order")
 ents:es.toList=L.map (ent prog w)
 nd:(L.map (·.1)).Nodup
end
structure Folded(kv L:List KA):Prop where
 nd:(L.map (·.1)).Nodup
 mem:∀k,k∈L.map (·.1)↔k∈kv.map (·.1)
 sub:∀p∈L,p∈kv
 len:L.length<=kv.length
section
variable {prog:d_}{w:ee}{A:iB}{R:Oq->c_->Prop}{I:cq}{fp wr:List cq}{G:Array Ng->Array Ng->Prop}{n:Nat}{P:Nat->b_->Prop}{St:Nat->c_->Prop}
end
section
variable {prog:d_}{w:ee}{A:iB}{E:b_->c_->Prop}{s:c_}
def E5(w:ee)(t:NO)(i:Nat):Nat:=if w.params.followText "set-order"=b' then 0 else match i with
 |0=>0
 |i+1=>t.place.getD i 0+1
structure IterAt(w:ee)(h:f')(I a:cq)(t:NO)(sz ep i:Nat):Prop where
 ex:∃o,h.get? I=ar o/\o.cls= .type "set_iterator"/\o.data= .fields #[.int (E5 w t i) 0,.int i 0,.ref a,.int sz 0,.int ep 0]
end
end S4
namespace S4
open PySem PySem.Spec PySem.W PyProof.Rows L2 S3
section
variable {prog:d_}{w:ee}{A:iB}{E:b_->c_->Prop}{s:c_}
theorem vc{vs:List b_}{P:PySem.Fin->c_->Prop}(W:s.heap.get? a=ar (ri "list" vs.toArray n))(Q:vs.length<2)
  (h:∀h' c,h'.get? a=ar (ri "list" vs.toArray c)->(∀b o,b≠a->s.heap.get? b=ar o->h'.get? b=ar o)->P (.done (.ret .none)) {s with heap:=h'}):
  ed (e_ prog w) A (Builtin.«list.sort» ⟨[.ref a],[]⟩) P E s:=by
 have O:a<s.heap.objs.size:=JU W;obtain⟨e1,X⟩:∃e1,(s.heap.update a (n7 λ_=>(#[]:Array b_))).get? a=ar (ri "list" #[] e1):=⟨_,get?_update_seq W λ_=> #[]⟩;have Z:(((s.heap.update a (n7 λ_=>(#[]:Array b_))).push (ri "tuple" vs.toArray 0)).push (ri "list" #[] 0)).get? a=ar (ri "list" #[] e1):=JO _ (JO _ X);rw[list_sort_plain];refine JM (listItems_at W rfl ?_);refine JM (listUpdate_at W rfl ?_ (by rw[JY,KR];omega) (Kk _));refine JM (seqEpoch_at X rfl ?_);refine JM (wpAny_newTuple ?_ (by show vs.length<=_;rw[KR];omega));refine JM (wpAny_newList ?_ (Kk _));refine KY ?_;show ed (e_ prog w) A _ P E {s with heap:=((s.heap.update a (n7 λ_=>(#[]:Array b_))).push (ri "tuple" vs.toArray 0)).push (ri "list" #[] 0)};dsimp only;have Y:vs.toArray.size<2:=by rw[JY];omega
 rw[if_pos Y,if_pos Y];refine JM (JR ?_);rw[StateT.run_pure];refine JM (JR ?_);dsimp only;refine JM (seqEpoch_at Z rfl ?_);have R:(arrOf (SortSt.mk' general' (vs.toArray.zip vs.toArray) #[] 7 aC)).map (·.2)=vs.toArray:=by show(vs.toArray.zip vs.toArray).map (·.2)=vs.toArray;rw[Array.map_snd_zip (JQ _)]
 rw[R];refine JM (listUpdate_at Z rfl ?_ (Kk _) (by rw[JY,KR];omega));obtain⟨U,T⟩:∃U,((((s.heap.update a (n7 λ_=>(#[]:Array b_))).push (ri "tuple" vs.toArray 0)).push (ri "list" #[] 0)).update a (n7 λ_=>vs.toArray)).get? a=ar (ri "list" vs.toArray U):=⟨_,get?_update_seq Z λ_=>vs.toArray⟩;simp only[bne_self_eq_false,h_,if_false];refine JR (h _ U T λb o S e=>?_);rw[Lp _ _ _ _ S];refine JO _ (JO _ ?_);rw[Lp _ _ _ _ S];exact e
end
section
variable {X:Cx}
structure TRow(H:Hp)(vs:List V)(nss:List (List Int)):Prop where
 len:vs.length=nss.length
 at':∀i,i<vs.length->∃a,vs[i]? =ar (.ref a)/\H a=ar (.tup ((nss.getD i []).map V.int))
 ne:∀i,i<vs.length->0<(nss.getD i []).length
def i7(nss:List (List Int))(q:List Nat):Prop:=q.Perm (dV nss.length)/\∀i j,i<=j->j<nss.length->HT.lexLt (nss.getD (q.getD j 0) []) (nss.getD (q.getD i 0) [])=dr
theorem mI{H:Hp}{Q:VK}(I:L2.Inv X pins σ H s)(Pv:List b_->Prop)
  (hc:∀(R:List b_->c_->Prop) (E':b_->c_->Prop),(∀vs Y K,Pv vs->(∀b o,s.heap.get? b=ar o->Y.get? b=ar o)->R vs {s with heap:=Y,toks:=K})->ed (e_ X.prog X.w) X.A.in1 (collect arg) R E' s)
  (E:∀us,Pv us->∃(vs:List V) (Z:List (List Int)),bh vs us/\TRow H vs Z/\vs.length<64/\∀q,i7 Z q->∀l,H l=aC->Q (.ref l) (upd H l (.lst (q.map λi=>vs.getD i .non)))):
  ed (e_ X.prog X.w) X.A (call (.builtin "sorted") [arg]) (EP X pins σ Q) X.xe s:=by
 refine Calls.call_function_entry kind_sorted plain_sorted entry_sorted (args_sorted1 _) ?_;unfold Builtin.«sorted»;refine JM (m:=checkCount "sorted" 1 1 _) (JR ?_);refine JM (hc _ _ λits Y K hP keep=>?_);obtain⟨vs,Z,rv,T0,d3,q⟩:=E its hP;have a8:=rv.length;have O:L2.Inv X pins σ H {s with heap:=Y,toks:=K}:=I.kept keep;obtain⟨m,F⟩:=O.fr;refine JM (wpAny_newList ?_ (by rw[KR];omega));have N:(Y.push (ri "list" its.toArray 0)).get? Y.objs.size=ar (ri "list" its.toArray 0):=J0 _ rfl;have up:∀b o,Y.get? b=ar o->(Y.push (ri "list" its.toArray 0)).get? b=ar o:=λb o e=>JO _ e;have nd:Y.get? Y.objs.size=none:=Ku (JQ _);have hL:X.env.locals<Y.objs.size:=F.ns.lt;have hH:H Y.objs.size=none:=O.hok.fresh (JQ _);have at':∀i,i<its.length->∃a,its[i]? =ar (.ref a)/\its.getD i j0= .ref a/\H a=ar (.tup ((Z.getD i []).map V.int)):=λi U=>by obtain⟨a,e1,e2⟩:=T0.at' i (by omega);obtain⟨u,hu,ru⟩:=rv.get e1;cases (show u=hF a from ru);exact⟨a,hu,by rw[JS,hu];rfl,e2⟩
 have b5:∀l:List Nat,(∀x∈l,x<its.length)->bh (l.map λi=>vs.getD i .non) (l.map λi=>its.getD i j0):=by
  intro l
  induction l with
  |nil=>intro _;exact .nil
  |cons x l ih=>
   intro hx;refine .cons ?_ (ih λy hy=>hx y (JZ _ hy));have G:x<vs.length:=by have:=hx x J9;omega
   obtain⟨u,hu,ru⟩:=rv.get (JP G);show L2.RelV (vs.getD x .non) (its.getD x j0);rw[JS,JS,hu,JP G];exact ru
 show ed _ _ _ _ _ {s with heap:=Y.push (ri "list" its.toArray 0),toks:=K};refine JM (KY (Ld slot_list_sort ⟨_,N,rfl⟩ entry_list_sort ?body (args_list_sort _)))
 case body=>
  by_cases J:its.length<2
  ·refine vc (s:={s with heap:=Y.push (ri "list" its.toArray 0),toks:=K}) N J λh' c g1 g2=>?_;refine⟨_,rfl,JR ⟨_,rfl,?_⟩⟩;have I2:L2.Inv X pins σ (upd H Y.objs.size (.lst vs)) {s with heap:=h',toks:=K}:=O.laid (λb o e=>g2 b o (J7 (JU e)) (up b o e)) (JQ _) ⟨by rw[KR];omega,its,c,rv,g1⟩;refine⟨.ref Y.objs.size,_,I2,rfl,?_⟩;have:=q (dV Z.length) ⟨.refl _,λi j d hj=>?_⟩ _ hH
   ·have e:(dV Z.length).map (λi=>vs.getD i .non)=vs:=by
     refine ML λi=>?_;rw[Km, <-T0.len];by_cases U:i<vs.length
     ·rw[K6 U,JP U];simp[p4,U]
     ·rw[KQ (by simpa using U),KQ (by omega)];rfl
    rw[e]at this;exact this
   ·have:i=j:=by have:=T0.len;omega
    subst this;exact iz _
  ·have b4:=T0.ne;refine kat_list_sort (s:={s with heap:=Y.push (ri "list" its.toArray 0),toks:=K}) (F.kept up) (News.grown (ng (g:=X.base) (h:=Y) (L:=X.env.locals)) up) N (LN hL) (Ku (JX F.above (LM hL)))
    (λp hp=>J7 (JU (ng p hp).1)) (by omega) (by omega) λe1 h' F' N'=>?_
   have S:∀J:f',Fr X.base X.env.locals J m->News X.base X.env.locals J (kh X.base Y X.env.locals)->∀b o,b≠X.env.locals->Y.get? b=ar o->J.get? b=ar o:=λJ F2 N2 b o hb e=>by
    cases z:X.base.get? b with
    |some o'=>
     have:=O.bk b o' z;rw[show Y.get? b=ar o' from this]at e;cases e;exact F2.keep b _ z
    |none=>exact(N2 (b,o) (sr hb z e)).1
   have kp:=S h' F' λz P=>N' z (JZ _ P);have T:Tups Y its Z:=⟨by have:=T0.len;omega,λi U=>by obtain⟨a,_,e1,e2⟩:=at' i U;obtain⟨_,ws,B,o,ho,b3,n,hd⟩:=(show bK X.prog X.w H Y a (.tup ((Z.getD i []).map V.int))from O.hok a _ e2);refine⟨a,o,ws.toArray,n,e1,ho,b3,hd,by simpa using MJ B,?_⟩;rw[JY, <-B.length,JN];exact b4 i (by omega)⟩
   have T':Tups h' its Z:=T.keep λi a o U ea ho=>by obtain⟨a',_,e1,e2⟩:=at' i U;rw[ea]at e1;cases e1;refine kp a o (λz=>?_) ho;rw[z,O.free]at e2;cases e2
   obtain⟨fs,k1,k2,k3⟩:=nP (h:=h') (vs:=its) λv E=>by
    obtain⟨i,U,ei⟩:=List.mem_iff_getElem.mp E;obtain⟨a,o,us,n,f1,f2,f3,f4,f5,f6⟩:=T'.get i U;have ev:v= .ref a:=by rw[JS,JP U,ei]at f1;exact f1
    generalize Z.getD i []=ns at f5;cases hus:us.toList with
    |nil=>
     have:us.size=0:=by rw[<-Mm,hus];rfl
     omega
    |cons x r'=>
     rw[hus]at f5;cases f5 with
     |cons n' t' _=>exact⟨a,o,us,n,n',t',ev,f2,f3,f4,by rw[<-Lg,hus];rfl⟩
   refine kat_kind k1 (by omega) (T:=.type "int") (λv E=>by obtain⟨i,t,rfl⟩:=k3 v E;exact Looks.of_pure rfl) rfl ?_;refine zH (n:=its.length) (R:=In its.length) (b:=λi j=>HT.lexLt (Z.getD i []) (Z.getD j [])) (λi j C U hj hC=>T'.ask U hj hC) (sE (by omega)) ?_;obtain⟨s1,s2⟩:=Cm (n:=its.length) (b:=λi j=>HT.lexLt (Z.getD i []) (Z.getD j [])) (by omega) (λi _=>iz _) (λi j k _ _ _=>u7) (λi j k _ _ _=>qX);generalize bj (λi j=>HT.lexLt (Z.getD i []) (Z.getD j [])) (rB its.length)=pp at s1 s2;have W:pp.toList.Perm (dV its.length):=by simpa using Array.Perm.toList s1
   refine KasFin.intro F' N' (.head λz P=>J7 (JU (ng z P).1)) λb6 c' f r=>?_;have a9:=S b6 f λz P=>r z (JZ _ P);obtain⟨g1,g2,g3⟩:=r _ J9;have c0:∀x∈pp.toList,x<its.length:=λx hx=>J2.mp (W.mem_iff.mp hx);have a5:(pp.toList.map λi=>vs.getD i .non).length<=sizeLine:=by rw[JN,W.length_eq,J4,KR];omega
   have I2:=u9 O F f a9 nd g1 (b5 pp.toList c0) a5;refine⟨_,rfl,JR ⟨_,rfl,.ref Y.objs.size,_,I2,rfl,q pp.toList ⟨by rw[<-T0.len,a8];exact W,λi j d hj=>?_⟩ _ hH⟩⟩;have:=s2 i j d (by have:=T0.len;omega);rw[KS,KS]at this;rw[JS (l:=pp.toList),JS (l:=pp.toList),Lg,Lg];exact this
end
end S4
namespace S3
open PySem PySem.Spec PySem.W PyProof.Rows L2 S4
def tupI(ns:List Int):D:=.tup (ns.map D.int)
def rowsOf:List D->Option (List (List Int))
 |[]=>ar []
 | .tup ds::r=>match intsOf ds,rowsOf r with
  |some ns,ar nss=>ar (ns::nss)
  |_,_=>aC
 |_=>aC
theorem qY:∀{a b:List Int},HT.lexLt a b=dr->HT.lexLt b a=dr->a=b
 |[],[],_,_=>rfl
 |[],_::_,h,_=>by cases h
 |_::_,[],_,h=>by cases h
 | x::a,y::b,h1,h2=>by
  rw[HT.lexLt_cons]at h1 h2;by_cases e:x=y
  ·subst e;rw[if_pos rfl]at h1 h2;rw[qY h1 h2]
  ·rw[if_neg e]at h1;rw[if_neg (k8 e)]at h2;have:=of_decide_eq_false h1;have:=of_decide_eq_false h2;omega
abbrev BW(a b:List Int):Prop:=HT.lexLt b a=dr
def vd(x:List Int):List (List Int)->List (List Int)
 |[]=>[x]
 |y::r=>if HT.lexLt y x=b' then y::vd x r else x::y::r
def dP:List (List Int)->List (List Int)
 |[]=>[]
 |x::r=>vd x (dP r)
theorem lN(x:List Int):∀l,(vd x l).Perm (x::l)
 |[]=>.refl _
 |y::r=>by
  unfold vd;split
  ·exact((lN x r).cons y).trans (.swap _ _ _)
  ·exact .refl _
theorem bL:∀l,(dP l).Perm l
 |[]=>.refl _
 |x::r=>(lN x _).trans ((bL r).cons x)
theorem xW(Z:BW a b)(Y:BW b c):BW a c:=by
 cases q:HT.lexLt c a with
 |false=>exact q
 |true=>
  rcases qX (b:=b) q with z|z
  ·rw[show HT.lexLt c b=dr from Y]at z;cases z
  ·rw[show HT.lexLt b a=dr from Z]at z;cases z
theorem sZ(h:HT.lexLt a b=b'):HT.lexLt b a=false:=by
 cases q:HT.lexLt b a with
 |false=>rfl
 |true=>
  have:=u7 h q;rw[iz]at this;cases this
theorem mv(x:List Int):∀{l:List (List Int)},l.Pairwise BW->(vd x l).Pairwise BW
 |[],_=>by simp[vd]
 | y::r,h=>by
  obtain⟨Y,W⟩:=Kx.mp h;unfold vd;split
  ·next c=>
   refine Kx.mpr ⟨λz Z=>?_,mv x W⟩;rcases J5.mp ((lN x r).mem_iff.mp Z)with rfl|Z
   ·exact sZ c
   ·exact Y z Z
  ·next c=>
   have X:BW x y:=Bool.eq_false_iff.mpr c;refine Kx.mpr ⟨λz Z=>?_,h⟩;rcases J5.mp Z with rfl|Z
   ·exact X
   ·exact xW X (Y z Z)
theorem fL:∀l,(dP l).Pairwise BW
 |[]=>.nil
 |x::r=>mv x (fL r)
theorem pY{l:List (List Int)}(h:l.Perm l')(Z:l.Pairwise BW)(Y:l'.Pairwise BW):l=l':=
 MM (le:=BW) (λa b _ _ x y=>qY y x) Z Y h
theorem vf(h:i7 nss q):q.map (λi=>nss.getD i [])=dP nss:=by
 have hlen:q.length=nss.length:=by simpa using h.1.length_eq
 have e:(dV nss.length).map (λi=>nss.getD i [])=nss:=by
  refine ML λi=>?_;rw[Km];by_cases Z:i<nss.length
  ·rw[K6 Z,JP Z];simp[p4,Z]
  ·rw[KQ (by simpa using Z),KQ (by omega)];rfl
 have W:(q.map (λi=>nss.getD i [])).Perm nss:=by have:=h.1.map (λi=>nss.getD i []);rw[e]at this;exact this
 refine pY (W.trans (bL nss).symm) ?_ (fL _);rw[ME];intro i j Z X Y;rw[JN]at Z X;rw[Lq,Lq];have:=h.2 i j (LM Y) (by omega);rw[JS (l:=q),JS (l:=q),JP Z,JP X]at this;exact this
theorem _root_.S4.Folded.perm{Z:List KA}(f:Folded kv L)(h:Z.Perm L):Folded kv Z:=
 ⟨(List.Perm.nodup_iff (h.map (λp:KA=>p.1))).mpr f.nd,λk=>by rw[(h.map (λp:KA=>p.1)).mem_iff];exact f.mem k,λp Y=>f.sub p (h.mem_iff.mp Y),by rw[h.length_eq];exact f.len⟩
section
variable {K:dn}{ι:List cq}{H:Hp}
theorem td:∀{ds:List D} {vs:List V} {nss:List (List Int)},RelDs K ι H ds vs->rowsOf ds=ar nss->vs.length=nss.length/\∀i,i<vs.length->∃a,vs[i]? =ar (.ref a)/\H a=ar (.tup ((nss.getD i []).map V.int))
 |[],vs,nss,h,e=>by
  cases e;rw[h.nil_inv];exact⟨rfl,λi Z=>absurd Z (Nat.not_lt_zero _)⟩
 | .tup ds::r,vs,nss,h,e=>by
  obtain⟨v,ws,rfl,T,U⟩:=h.cons_inv;unfold rowsOf at e;cases q:intsOf ds with
  |none=>rw[q]at e;cases e
  | some ns=>
   rw[q]at e;cases q2:rowsOf r with
   |none=>rw[q2]at e;cases e
   | some nss'=>
    rw[q2]at e;cases e;obtain⟨Y,X⟩:=td U q2;obtain⟨a,us,rfl,g1,g2⟩:=T.tup_inv;refine⟨by simp[Y],λi Z=>?_⟩;cases i with
    |zero=>
     refine⟨a,rfl,?_⟩;rw[d8 g2 q]at g1;simpa using g1
    |succ i=>
     obtain⟨S,e1,e2⟩:=X i (by simpa using Z);exact⟨S,by simpa using e1,by simpa using e2⟩
 | .non::_,_,_,_,e=>by cases e
 | .bl _::_,_,_,_,e=>by cases e
 | .int _::_,_,_,_,e=>by cases e
 | .str _::_,_,_,_,e=>by cases e
 | .lst _::_,_,_,_,e=>by cases e
 | .ro _::_,_,_,_,e=>by cases e
 | .fz _::_,_,_,_,e=>by cases e
 | .emp::_,_,_,_,e=>by cases e
theorem pZ:∀ns:List Int,RelDs K ι H (ns.map D.int) (ns.map V.int)
 |[]=>.nil
 |n::r=>.cons (.int n) (pZ r)
theorem tj{vs:List V}{Z:List (List Int)}(h:∀i,i<vs.length->∃a,vs[i]? =ar (.ref a)/\H a=ar (.tup ((Z.getD i []).map V.int))):
  ∀q:List Nat,(∀i∈q,i<vs.length)->RelDs K ι H ((q.map λi=>Z.getD i []).map tupI) (q.map λi=>vs.getD i .non)
 |[],_=>.nil
 |i::q,hq=>by
  obtain⟨a,e1,e2⟩:=h i (hq i J9);refine .cons ?_ (tj h q λj X=>hq j (JZ _ X));show RelD K ι H (tupI (Z.getD i [])) (vs.getD i .non);have Y:vs.getD i .non= .ref a:=by rw[JS,e1];rfl
  rw[Y];exact .tup e2 (pZ _)
end
section
variable {X:Cx}{E:XD}{e:Expr}{m:TM}{pos:Pos}
theorem ph:dM X (.builtin "sorted") (λxs H Q=>∃(p:cq) (vs:List V) (Z:List (List Int)),xs=[.ref p]/\iR X.K H p vs/\TRow H vs Z/\vs.length<64/\
  ∀q,i7 Z q->∀l,H l=aC->Q (.ref l) (upd H l (.lst (q.map λi=>vs.getD i .non)))):=by
 intro pins s σ H xs us Q I r h;obtain⟨p,vs,Z,rfl,L,T,Y,q⟩:=h;obtain⟨u,rfl,J⟩:=vals1 r;cases (show u=hF p from J);obtain⟨its,U,P,F⟩:=I.list L;have O:=U.length;refine mI I (λus=>us=its) (λR G N=>?_) λus S=>⟨vs,Z,by rw[S];exact U,T,Y,q⟩;refine collect_list P.isList (N its _ _ rfl λb o e=>?_) (by rw[KR];omega);have W:b<s.heap.objs.size:=JU e;rw[Lp _ _ _ _ (J7 W)];exact JO _ e
def two(nss:List (List Int)):Bool:=nss.all λns=>ns.length !=0
def tm(nss:List (List Int)):M D:=if nss.length<64/\two nss=b' then bt ((dP nss).map tupI)else M.fail
def kL(xs:List D):M D:=match intsOf xs with
 |some ns=>if ns.length<64 then bt ((sortI ns).map D.int)else M.fail
 |none=>match rowsOf xs with
  |some nss=>tm nss
  |none=>M.fail
def bH:List D->M D
 |[.lst k]=>do
  let xs<-getL k
  kL xs
 |[.fz xs]=>kL xs
 |_=>M.fail
theorem Cz{H:Hp}{vs:List V}{Z:List (List Int)}(h:vs.length=Z.length/\∀i,i<vs.length->∃a,vs[i]? =ar (.ref a)/\H a=ar (.tup ((Z.getD i []).map V.int)))(W:two Z=b'):TRow H vs Z:=
 ⟨h.1,h.2,λi U=>by
  have Y:i<Z.length:=by rw[<-h.1];exact U
  have:=Kt.mp W Z[i] (Lr Y);rw[JS,JP Y];exact Nat.pos_of_ne_zero λz=>by rw[show(ar Z[i]).getD []=Z[i]from rfl]at z;rw[z]at this;cases this⟩
theorem qZ:iZ X.K E bH (λxs H Q=>(∃(p:cq) (ns:List Int),xs=[.ref p]/\iR X.K H p (ns.map V.int)/\ns.length<64/\∀l,H l=aC->Q (.ref l) (upd H l (.lst ((sortI ns).map V.int))))\/
  ∃(p:cq) (vs:List V) (nss:List (List Int)),xs=[.ref p]/\iR X.K H p vs/\TRow H vs nss/\vs.length<64/\∀q,i7 nss q->∀l,H l=aC->Q (.ref l) (upd H l (.lst (q.map λi=>vs.getD i .non)))):=by
 intro U S H ds vs Q rep r c;have fin:∀{es:List D} {us:List V} {p:cq},RelDs X.K U H es us->Rd H p (.lst us)->cont X.K E (kL es) U S H (mq X.K Q)->vs=[.ref p]->
   (∃(p:cq) (ns:List Int),vs=[.ref p]/\iR X.K H p (ns.map V.int)/\ns.length<64/\∀l,H l=aC->Q (.ref l) (upd H l (.lst ((sortI ns).map V.int))))\/
  ∃(p:cq) (ws:List V) (nss:List (List Int)),vs=[.ref p]/\iR X.K H p ws/\TRow H ws nss/\ws.length<64/\∀q,i7 nss q->∀l,H l=aC->Q (.ref l) (upd H l (.lst (q.map λi=>ws.getD i .non))):=by
  intro es us p W R Z T;unfold kL at Z;cases q:intsOf es with
  | some ns=>
   rw[q]at Z;have Y:cont X.K E (if ns.length<64 then bt ((sortI ns).map D.int)else M.fail) U S H (mq X.K Q):=Z;by_cases h:ns.length<64
   ·rw[if_pos h]at Y;exact .inl ⟨p,ns,T,.inl (by rw[<-d8 W q];exact R),h,(bq Y rep (nO _)).2⟩
   ·rw[if_neg h]at Y;exact(ah Y).elim
  | none=>
   rw[q]at Z;cases q2:rowsOf es with
   |none=>rw[q2]at Z;exact(ah Z).elim
   | some nss=>
    rw[q2]at Z;have Y:cont X.K E (if nss.length<64/\two nss=b' then bt ((dP nss).map tupI)else M.fail) U S H (mq X.K Q):=Z;by_cases h:nss.length<64/\two nss=b'
    ·rw[if_pos h]at Y;obtain⟨g1,g2⟩:=td W q2;refine .inr ⟨p,us,nss,T,.inl R,Cz ⟨g1,g2⟩ h.2,by omega,λN I l F=>?_⟩;have J:∀i∈N,i<us.length:=λi C=>by rw[g1];exact J2.mp (I.1.mem_iff.mp C)
     have G:RelDs X.K U H ((dP nss).map tupI) (N.map λi=>us.getD i .non):=by rw[<-vf I];exact tj g2 N J
     exact(bq Y rep G).2 l F
    ·rw[if_neg h]at Y;exact(ah Y).elim
 unfold bH at c;split at c
 ·next k=>
  obtain⟨v,ws,rfl,O,L⟩:=r.cons_inv;cases L.nil_inv;obtain⟨p,rfl,P⟩:=O.lst_inv;obtain⟨es,us,_,R,W,Z⟩:=ba c rep P;exact fin W (.inl R) Z rfl
 ·next es=>
  obtain⟨v,ws,rfl,O,L⟩:=r.cons_inv;cases L.nil_inv;obtain⟨p,o,us,rfl,P,W⟩:=O.fz_inv;exact fin W (.inr ⟨o,P⟩) c rfl
 ·exact(ah c).elim
theorem f7(W:X.mg "sorted"=aC)(Z:SE X E e m)(Y:Gl X "sorted":=by rfl)(hs:dt [e] X.env=[(dr,i4 e X.env)]:=by rfl):SE X E (.Call (.Name "sorted" p) [e] [] pos) (λρ=>do let ds<-(do let x<-m ρ;let xs<-a_ [];a_ (x::xs));bH ds):=
 gc (dM.or qW ph) qZ Y W (by decide+kernel) (af Z av hs) (by decide) (by decide) hs rfl
end
end S3
namespace S4
open PySem PySem.Spec PyProof.Rows L2 S3
section
variable {prog:d_}{w:ee}{A:iB}{E:b_->c_->Prop}{s:c_}
theorem j5{Q:b_->c_->Prop}(Z:s.heap.IsTupleIter it t i)(R:s.heap.IsTuple t items)(U:items[i]? =ar x)
  (S:∀h',h'.IsTupleIter it t (i+1)->y' it s.heap h'->Q x {s with heap:=h'}):ed (e_ prog w) A (i2 (.ref it)) Q E s:=by
 obtain⟨o,Y,T,hd⟩:=id Z;obtain⟨ol,W,_,nl,X⟩:=R;unfold i2;refine JM (wpAny_callSpecial?_slot (name:=i3 "__next__") Z.typeIs K9
  (Ld K9 Z.typeIs Mn ?_ (Mj _)))
 show ed _ _ (Of (.ref it) 0>>=_) _ _ s;refine JM (KB Y hd (x:=.ref t) rfl ?_);show ed _ _ (if (hF t==j0)=b' then _ else _) _ _ s;rw[if_neg (show ¬ ((hF t==j0)=b')from KL)];show ed _ _ (Of (.ref it) 1>>=_) _ _ s;refine JM (KB Y hd (x:=.int i 0) rfl ?_);show ed _ _ (seqItems? (.ref t)>>=_) _ _ s;refine JM (Lj W X ?_);simp only[D',U];refine JM (MF Y hd (by simp) (JR ⟨x,rfl,JR (S _ ?_ (Heap.SameBut.update ..))⟩));exact⟨_,Lf _ Y (Mb (Lw hd _)),(Obj.cls_mapFields ..).trans T,by rw[Lw hd];simp[A_]⟩
theorem p9(U:A.handled=aC)(Z:s.heap.IsTupleIter it t i)(R:s.heap.IsTuple t items)(S:items[i]? =aC)
  (T:∀h' e,Heap.ExtBut it s.heap h'->(∃o,h'.get? e=ar o/\o.cls= .type "StopIteration")->E (.ref e) {s with heap:=h'}):ed (e_ prog w) A (i2 (.ref it)) Q E s:=by
 obtain⟨o,Y,P,hd⟩:=id Z;obtain⟨ol,W,_,nl,X⟩:=R;unfold i2;refine JM (wpAny_callSpecial?_slot (name:=i3 "__next__") Z.typeIs K9
  (Ld K9 Z.typeIs Mn ?_ (Mj _)))
 show ed _ _ (Of (.ref it) 0>>=_) _ _ s;refine JM (KB Y hd (x:=.ref t) rfl ?_);show ed _ _ (if (hF t==j0)=b' then _ else _) _ _ s;rw[if_neg (show ¬ ((hF t==j0)=b')from KL)];show ed _ _ (Of (.ref it) 1>>=_) _ _ s;refine JM (KB Y hd (x:=.int i 0) rfl ?_);show ed _ _ (seqItems? (.ref t)>>=_) _ _ s;refine JM (Lj W X ?_);simp only[D',S];refine JM (L6 (JM (MF Y hd (by simp) ?_)));show ed _ _ (newExc (.type "StopIteration") []>>=_) _ _ _;refine JM ?_;simp only[newExc,newTuple];refine JM (KG ?_ (by size_fits));refine JM (m:=firstArgMember _ _) (wpAny_of_eq (a:=j0) (by first|rfl|(simp only[firstArgMember];rfl)) ?_);refine KG ?_ (by size_fits);simp only[raiseNew];refine JM (wpAny_handled ?_);first|rw[show A.in1.handled=aC from U]|rw[U]
 refine JM (JR (wpAny_throw ?_));exact T _ _ (((Heap.SameBut.update ..).extBut.push _).push _) ⟨_,J0 _ rfl,rfl⟩
theorem xX{z TI TO N J r q:cq}{k:Nat}{xs ys:Array b_}{x y a b:b_}{Q:Option b_->c_->Prop}(D:Og z TI TO N J r q)
  (B:J' s.heap z TI TO .none) (a5:m_ s.heap TI (.ref N) (.ref J)) (g:m_ s.heap TO a b)
  (h1:s.heap.IsTupleIter N r k) (h2:s.heap.IsTupleIter J q k) (j:s.heap.IsTuple r xs) (f:s.heap.IsTuple q ys) (hx:xs[k]? =ar x) (hy:ys[k]? =ar y)
  (hQ:∀h',J' h' z TI TO (A_ s.heap.objs.size)->m_ h' TO x y->h'.IsTupleIter N r (k+1)->h'.IsTupleIter J q (k+1)->m_ h' s.heap.objs.size x y->h'.objs.size=s.heap.objs.size+1->
   (∀c o,c≠z->c≠TO->c≠N->c≠J->s.heap.get? c=ar o->h'.get? c=ar o)->Q (ar (.ref s.heap.objs.size)) {s with heap:=h'}):ed (e_ prog w) A (NS (.ref z)) Q E s:=by
 have hT:s.TypeIs (.ref z) "zip":=⟨_,B,rfl⟩;unfold NS;refine JM (wpAny_attempt (wpAny_callSpecial?_slot (name:=i3 "__next__") hT Mo (Ld Mo hT F.entry_zip_next ?_ (F.args_zip_next_1 _))));show ed _ _ (Of (.ref z) 2>>=_) _ _ _;refine JM (KB B rfl (x:=.bool dr) rfl ?_);show ed _ _ (Of (.ref z) 3>>=_) _ _ _;refine JM (KB B rfl (x:=.ref TI) rfl ?_);refine JM (Lj a5 rfl ?_);show ed _ _ (j_ (.ref z)>>=_) _ _ _;refine JM ?_;unfold j_;refine JM (KB B rfl (x:=.none) rfl (JR ?_));simp only[if_true];refine JM (L6 ?_);refine JM (KB B rfl (x:=.ref TO) rfl ?_);refine JM (Lh B (by simp) λg1 I Z=>?_);replace I:J' g1 z TI TO .ellipsis:=I;refine JM ?_;simp only[List.zipIdx_cons,List.zipIdx_nil,L',List.forIn_nil];refine JM (JM (MT ?_));show ed _ _ (i2 (.ref N)>>=_) _ _ _;refine JM (j5 (s:={s with heap:=g1}) (h1.at λo e=>Z.extBut _ _ D.i1z e) (j.extBut Z.extBut D.l1z) hx λg2 h U=>JR ?_);have K:m_ g2 TO a b:=U.extBut _ _ D.TOi1 (Z.extBut _ _ D.TOz g);refine JM (Lj K rfl ?_);refine JM (Mh K λg3 S W=>?_);replace S:m_ g3 TO x b:=S;refine JM (N0 (JR ?_));refine JM (JM (MT ?_));show ed _ _ (i2 (.ref J)>>=_) _ _ _;refine JM (j5 (s:={s with heap:=g3}) (((h2.at λo e=>Z.extBut _ _ D.i2z e).at λo e=>U.extBut _ _ D.i12.symm e).at λo e=>W.extBut _ _ D.TOi2.symm e)
  (((f.extBut Z.extBut D.l2z).extBut U.extBut D.l2i1).extBut W.extBut D.l2TO) hy λg4 l R=>JR ?_)
 have L:m_ g4 TO x b:=R.extBut _ _ D.TOi2 S;refine JM (Lj L rfl ?_);refine JM (Mh L λY X T=>?_);replace X:m_ Y TO x y:=X;refine JM (N0 (JR (JR ?_)));refine JM (Lj X rfl ?_);refine JM (wpAny_newTuple ?_);have v:Y.objs.size=s.heap.objs.size:=by rw[T.1,R.1,W.1,U.1,Z.1]
 have n:J' Y z TI TO .ellipsis:=T.extBut _ _ D.TOz.symm (R.extBut _ _ D.i2z.symm (W.extBut _ _ D.TOz.symm (U.extBut _ _ D.i1z.symm I)));have a6:∀c o,c≠z->c≠TO->c≠N->c≠J->s.heap.get? c=ar o->Y.get? c=ar o:=λc o c1 m c3 i e=>
  T.extBut _ _ m (R.extBut _ _ i (W.extBut _ _ m (U.extBut _ _ c3 (Z.extBut _ _ c1 e))))
 have d:Y.IsTupleIter N r (k+1):=((h.at λo e=>W.extBut _ _ D.TOi1.symm e).at λo e=>R.extBut _ _ D.i12 e).at λo e=>T.extBut _ _ D.TOi1.symm e;have a3:Y.IsTupleIter J q (k+1):=l.at λo e=>T.extBut _ _ D.TOi2.symm e;have O:z<Y.objs.size:=JU n;show ed _ _ (Builtin.SmallTypes.ownedTupleHandOut (.ref z) (.ref Y.objs.size)>>=_) _ _ _;refine JM ?_;unfold Builtin.SmallTypes.ownedTupleHandOut;have a0:J' (Y.push {cls:=.type "tuple",data:=.seq #[x,y]}) z TI TO .ellipsis:=JO _ n;refine JM (Lh a0 (by simp) λg7 G C=>?_);replace G:J' g7 z TI TO (A_ Y.objs.size):=G;refine Lh G (by simp) λt P H=>?_;replace P:J' t z TI TO (A_ Y.objs.size):=P;have up:∀c o,c≠z->Y.get? c=ar o->t.get? c=ar o:=λc o c1 e=>H.extBut _ _ c1 (C.extBut _ _ c1 (JO _ e));have u:m_ t Y.objs.size x y:=H.extBut _ _ (LN O) (C.extBut _ _ (LN O) (J0 _ rfl));have p:t.objs.size=Y.objs.size+1:=by rw[H.1,C.1,KZ]
 rw[v]at P u p;refine JR ⟨_,rfl,?_⟩;refine JR ?_;show Q (ar (.ref Y.objs.size)) _;rw[v];exact hQ t P (up _ _ D.TOz X) (d.at λo e=>up _ o D.i1z e) (a3.at λo e=>up _ o D.i2z e) u p λc o c1 m c3 i e=>up c o c1 (a6 c o c1 m c3 i e)
theorem Aa{z TI TO N L t n:cq}{k:Nat}{xs ys:Array b_}{a b:b_}{Q:Option b_->c_->Prop}(f:A.handled=aC)(D:Og z TI TO N L t n)
  (K:J' s.heap z TI TO .none) (m:m_ s.heap TI (.ref N) (.ref L)) (r:m_ s.heap TO a b)
  (l:s.heap.IsTupleIter N t k) (h2:s.heap.IsTupleIter L n k) (I:s.heap.IsTuple t xs) (q:s.heap.IsTuple n ys) (C:xs[k]? =aC\/ys[k]? =aC)
  (y:∀h',(∀c o,c≠z->c≠TO->c≠N->c≠L->s.heap.get? c=ar o->h'.get? c=ar o)->Q aC {s with heap:=h'}):ed (e_ prog w) A (NS (.ref z)) Q E s:=by
 have j:s.TypeIs (.ref z) "zip":=⟨_,K,rfl⟩;unfold NS;refine JM (wpAny_attempt (wpAny_callSpecial?_slot (name:=i3 "__next__") j Mo (Ld Mo j F.entry_zip_next ?_ (F.args_zip_next_1 _))));have stop:∀(g:f') (e:cq),(∃o,g.get? e=ar o/\o.cls= .type "StopIteration")->(∀c o,c≠z->c≠TO->c≠N->c≠L->s.heap.get? c=ar o->g.get? c=ar o)->∀R:b_->c_->Prop,
   (∀v s',ed (e_ prog w) A (do if<-Oh v (.type "StopIteration")then a_ aC else throw v) Q E s'->R v s')->R (.ref e) {s with heap:=g}:=λg e ⟨o,ho,hc⟩ hk R hR=>hR _ _ (by
  refine JM (MZ (T:="StopIteration") (b:=b') ⟨o,ho,hc⟩ Nd ?_);exact JR (y _ hk))
 show ed _ _ (Of (.ref z) 2>>=_) _ _ _;refine JM (KB K rfl (x:=.bool dr) rfl ?_);show ed _ _ (Of (.ref z) 3>>=_) _ _ _;refine JM (KB K rfl (x:=.ref TI) rfl ?_);refine JM (Lj m rfl ?_);show ed _ _ (j_ (.ref z)>>=_) _ _ _;refine JM ?_;unfold j_;refine JM (KB K rfl (x:=.none) rfl (JR ?_));simp only[if_true];refine JM (L6 ?_);refine JM (KB K rfl (x:=.ref TO) rfl ?_);refine JM (Lh K (by simp) λg1 S Z=>?_);replace S:J' g1 z TI TO .ellipsis:=S;refine JM ?_;simp only[List.zipIdx_cons,List.zipIdx_nil,L',List.forIn_nil];refine JM (JM (MT ?_));show ed _ _ (i2 (.ref N)>>=_) _ _ _;cases hx:xs[k]? with
 |none=>
  refine JM (p9 (s:={s with heap:=g1}) f (l.at λo e=>Z.extBut _ _ D.i1z e) (I.extBut Z.extBut D.l1z) hx λg2 e Y he=>?_);obtain⟨u,X,U⟩:=he;have H:J' g2 z TI TO .ellipsis:=Y _ _ D.i1z.symm S;have O:e≠z:=λx=>by subst x;rw[H]at X;cases X;simp at U
  refine Lh H (by simp) λg3 _ W=>?_;refine JM (MZ (T:="StopIteration") (b:=b') ⟨u,W.extBut _ _ O X,U⟩ Nd ?_);exact JR (y _ λc o c1 _ p _ x=>W.extBut _ _ c1 (Y _ _ p (Z.extBut _ _ c1 x)))
 | some x=>
  have hy:ys[k]? =none:=by rcases C with h|h;rw[hx]at h;cases h;exact h
  refine JM (j5 (s:={s with heap:=g1}) (l.at λo e=>Z.extBut _ _ D.i1z e) (I.extBut Z.extBut D.l1z) hx λg2 a4 Y=>JR ?_);have P:m_ g2 TO a b:=Y.extBut _ _ D.TOi1 (Z.extBut _ _ D.TOz r);refine JM (Lj P rfl ?_);refine JM (Mh P λg3 i W=>?_);refine JM (N0 (JR ?_));refine JM (JM (MT ?_));show ed _ _ (i2 (.ref L)>>=_) _ _ _;refine JM (p9 (s:={s with heap:=g3}) f (((h2.at λo e=>Z.extBut _ _ D.i2z e).at λo e=>Y.extBut _ _ D.i12.symm e).at λo e=>W.extBut _ _ D.TOi2.symm e)
   (((q.extBut Z.extBut D.l2z).extBut Y.extBut D.l2i1).extBut W.extBut D.l2TO) hy λg4 e B he=>?_)
  obtain⟨u,X,U⟩:=he;have G:J' g4 z TI TO .ellipsis:=B _ _ D.i2z.symm (W.extBut _ _ D.TOz.symm (Y.extBut _ _ D.i1z.symm S));have O:e≠z:=λx=>by subst x;rw[G]at X;cases X;simp at U
  refine Lh G (by simp) λg5 _ J=>?_;refine JM (MZ (T:="StopIteration") (b:=b') ⟨u,J.extBut _ _ O X,U⟩ Nd ?_);exact JR (y _ λc o c1 d p c4 x=>J.extBut _ _ c1 (B _ _ c4 (W.extBut _ _ d (Y.extBut _ _ p (Z.extBut _ _ c1 x)))))
end
def HL(l:cq):Obj:={cls:=.type "tuple_iterator",data:=.fields #[.ref l,.int 0 0]}
def E6(h:f')(l1:cq):Heap:=h.push (HL l1)
def E7(h:f')(l1 l2:cq):Heap:=(E6 h l1).push (HL l2)
def E8(h:f')(l1 l2:cq):Heap:=(E7 h l1 l2).push {cls:=.type "tuple",data:=.seq #[.ref h.objs.size,.ref (E6 h l1).objs.size]}
def Ga(h:f')(l1 l2:cq):Heap:=(E8 h l1 l2).push {cls:=.type "tuple",data:=.seq #[.none,.none]}
def E9(h:f')(l1 l2:cq):Heap:=(Ga h l1 l2).push {cls:=.type "zip",data:=.fields #[.none,.bool dr,.bool dr,.ref (E7 h l1 l2).objs.size,.ref (E8 h l1 l2).objs.size]}
theorem Fb(Z Y:cq)(xs ys:Array b_):
  Meets (Builtin.«zip.__new__» ⟨[.type "zip",.ref Z,.ref Y],[]⟩) (λ_ R s=>s.heap.IsTuple Z xs/\s.heap.IsTuple Y ys/\R (.ok (.ret (.ref (Ga s.heap Z Y).objs.size))) {s with heap:=E9 s.heap Z Y}):=
 .of_wp λprog w A R s h=>by
  obtain⟨Q,g,d,P,os⟩:=s;obtain⟨X,U,h⟩:=h;have S:=sub_zip;have T:Heap.IsTuple (Shared.heap ⟨Q,g,d,P,os⟩) Z xs:=X;have W:Heap.IsTuple (Shared.heap ⟨Q.push {cls:=.type "tuple_iterator",data:=.fields #[.ref Z,.int 0 0]},g,d,P,os⟩) Y ys:=let ⟨o,e,r⟩:=U;⟨o,JO _ e,r⟩
  wp_walk using My T,My W
  exact⟨_,rfl,h⟩
section
variable {prog:d_}{w:ee}{A:iB}{E:b_->c_->Prop}{s:c_}
theorem xY{Q:b_->c_->Prop}(T:s.heap.IsTuple l1 xs)(R:s.heap.IsTuple l2 ys)
  (h:∀h',J' h' (s.heap.objs.size+4) (s.heap.objs.size+2) (s.heap.objs.size+3) .none->m_ h' (s.heap.objs.size+2) (.ref s.heap.objs.size) (.ref (s.heap.objs.size+1))->
   m_ h' (s.heap.objs.size+3) .none .none->h'.IsTupleIter s.heap.objs.size l1 0->h'.IsTupleIter (s.heap.objs.size+1) l2 0->(∀c o,s.heap.get? c=ar o->h'.get? c=ar o)->Q (.ref (s.heap.objs.size+4)) {s with heap:=h'}):
  ed (e_ prog w) A (call (.type "zip") [.ref l1,.ref l2]) Q E s:=by
 refine callType_new F.called_zip (by decide) (F.typeCall_zip_2 _ _) (F.newCall_zip_2 _ _) (λobj=>F.args_object_init_3 obj _ _) F.entry_zip_new (Fb l1 l2 xs ys) ⟨T,R,?_⟩;have P:(E6 s.heap l1).objs.size=s.heap.objs.size+1:=KZ ..;have X:(E7 s.heap l1 l2).objs.size=s.heap.objs.size+2:=(KZ ..).trans (by rw[P]);have U:(E8 s.heap l1 l2).objs.size=s.heap.objs.size+3:=(KZ ..).trans (by rw[X]);have N:(Ga s.heap l1 l2).objs.size=s.heap.objs.size+4:=(KZ ..).trans (by rw[U]);have Z:∀{c o},(Ga s.heap l1 l2).get? c=ar o->(E9 s.heap l1 l2).get? c=ar o:=λe=>JO _ e;have Y:∀{c o},(E8 s.heap l1 l2).get? c=ar o->(Ga s.heap l1 l2).get? c=ar o:=λe=>JO _ e;have W:∀{c o},(E7 s.heap l1 l2).get? c=ar o->(E8 s.heap l1 l2).get? c=ar o:=λe=>JO _ e;have O:∀{c o},(E6 s.heap l1).get? c=ar o->(E7 s.heap l1 l2).get? c=ar o:=λe=>JO _ e;have K:∀{c o},s.heap.get? c=ar o->(E6 s.heap l1).get? c=ar o:=λe=>JO _ e;have S:(E9 s.heap l1 l2).get? (Ga s.heap l1 l2).objs.size=ar {cls:=.type "zip",data:=.fields #[.none,.bool dr,.bool dr,.ref (E7 s.heap l1 l2).objs.size,.ref (E8 s.heap l1 l2).objs.size]}:=J0 _ rfl;have L:(E9 s.heap l1 l2).get? (E8 s.heap l1 l2).objs.size=ar {cls:=.type "tuple",data:=.seq #[.none,.none]}:=Z (J0 _ rfl);have g3:(E9 s.heap l1 l2).get? (E7 s.heap l1 l2).objs.size=ar {cls:=.type "tuple",data:=.seq #[.ref s.heap.objs.size,.ref (E6 s.heap l1).objs.size]}:=Z (Y (J0 _ rfl));have g2:(E9 s.heap l1 l2).get? (E6 s.heap l1).objs.size=ar (HL l2):=Z (Y (W (J0 _ rfl)));have g1:(E9 s.heap l1 l2).get? s.heap.objs.size=ar (HL l1):=Z (Y (W (O (J0 _ rfl))));show _/\_;rw[X,U,N]at S;rw[P,X]at g3;rw[U]at L;rw[P]at g2;rw[N];exact⟨⟨_,S,rfl⟩,h _ S g3 L ⟨_,g1,rfl,rfl⟩ ⟨_,g2,rfl,rfl⟩ λc o x=>Z (Y (W (O (K x))))⟩
end
def yW(va vb:List V):It:=⟨λi _=>i<va.length/\i<vb.length,λi H x H'=>∃p a b,H p=aC/\va[i]? =ar a/\vb[i]? =ar b/\x= .ref p/\H'=upd H p (.tup [a,b]),λi _=>va.length<=i\/vb.length<=i⟩
section
variable {X:Cx}{pins:List (cq×Obj)}{σ:L2.St}{H:Hp}{s:c_}
theorem wz{h':f'}{t':Nat}{ch:List cq}(I:L2.Inv X pins σ H s)(W:∀b∈ch,iS X pins H b)(k:∀b o,b∉ch->s.heap.get? b=ar o->h'.get? b=ar o):L2.Inv X pins σ H {s with heap:=h',toks:=t'}:=by
 have Y:∀b u,H b=ar u->b∉ch:=λb u e z=>by rw[(W b z).1]at e;cases e
 refine I.step (g':=s.gens) (d':=s.drawn) (ch:=ch) (λb U=>?_) (λb o _ _ Z e _=>k b o Z e) (λb o _ _ Z e _=>⟨o.slots,k b o Z e⟩) (λ_ _ _ _ n=>n)
  (λb o Z e=>⟨o,k b o Z e⟩) (λ_ _ e=>e) (λ_ _ _ e=>e) (λb P e=>⟨#[],by rw[e];simp⟩) (λm hm=>?_) (λb u e=>?_) I.bare
 ·obtain⟨f0,f1,f2,Q,f4,R⟩:=W b U;exact⟨Q,f1,f4,R⟩
 ·obtain⟨o,es,S,T,r⟩:=hm;exact⟨o,es,S,k _ o (λz=>(W _ z).2.1 rfl) T,r⟩
 ·refine(I.hok b u e).stay (λc v Z q=>k c v ?_ q) (λ_ q=>q) λ_ _ q=>q;rcases Z with z|z
  ·rw[z];exact Y b u e
  ·exact Y c _ z
theorem wA{h':f'}{t':Nat}{ch:List cq}{a:cq}{o:HO}(I:L2.Inv X pins σ H s)(T:∀b∈ch,iS X pins H b)(k:∀b o,b∉ch->s.heap.get? b=ar o->h'.get? b=ar o)(R:s.heap.objs.size<=a)(S:bK X.prog X.w (upd H a o) h' a o):
  L2.Inv X pins σ (upd H a o) {s with heap:=h',toks:=t'}:=by
 have W:H a=none:=I.hok.fresh R;have Y:∀b u,H b=ar u->b∉ch:=λb u e z=>by rw[(T b z).1]at e;cases e
 have ne:∀b o,s.heap.get? b=ar o->b≠a:=λb o e=>J7 (J1 (JU e) R);refine I.step (g':=s.gens) (d':=s.drawn) (ch:=ch) (λb U=>?_) (λb o _ _ Z e _=>k b o Z e) (λb o _ _ Z e _=>⟨o.slots,k b o Z e⟩) (λb o _ e n=>by rw[aK (ne b o e)];exact n)
  (λb o Z e=>⟨o,k b o Z e⟩) (λb xs e=>by rw[aK (aO e W)];exact e) (λb _ _ e=>by rw[aK (aO e W)];exact e) (λb L e=>⟨#[],by rw[aK (aO e W),e];simp⟩) (λm hm=>?_) (λb u e=>?_) I.bare
 ·obtain⟨f0,f1,f2,O,f4,P⟩:=T b U;exact⟨O,f1,f4,P⟩
 ·obtain⟨o,es,Q,N,r⟩:=hm;exact⟨o,es,Q,k _ o (λz=>(T _ z).2.1 rfl) N,r⟩
 ·by_cases U:b=a
  ·subst U;rw[aY]at e;cases e;exact S
  ·rw[aK U]at e;refine(I.hok b u e).stay (λc v Z q=>k c v ?_ q) (λc q=>by rw[aK (aO q W)];exact q) λc xs q=>by rw[aK (aO q W)];exact q
   rcases Z with z|z
   ·rw[z];exact Y b u e
   ·exact Y c _ z
end
theorem Ab{P:d_}{w:ee}{K:dn}{r:List Expr}{x1}{tp:Pos}{z TI TO Q N l1 l2:cq}(D:Og z TI TO Q N l1 l2){F C:List V}(m:Hp->Prop)(u:∀H,m H↔(H l1=ar (.tup F)/\H l2=ar (.tup C))):
  Turn P w K (.Tuple r x1 tp) ⟨λi H=>(yW F C).go i H/\m H,(yW F C).yld,λi H=>(yW F C).stop i H/\m H⟩ [z,TI,TO,Q,N] z
   (λi h=>J' h z TI TO .none/\m_ h TI (.ref Q) (.ref N)/\(∃a b,m_ h TO a b)/\h.IsTupleIter Q l1 i/\h.IsTupleIter N l2 i) where
 mem:=by simp
 obj:=λi h st b Z=>by
  obtain⟨S,Y,⟨a,c,U⟩,⟨o1,e1,c1,d1⟩,⟨o2,e2,c2,d2⟩⟩:=st;simp only[hO,hh,or_false]at Z;rcases Z with rfl|rfl|rfl|rfl|rfl
  ·exact⟨_,S,λv z=>by cases z⟩
  ·exact⟨_,Y,λv z=>by cases z⟩
  ·exact⟨_,U,λv z=>by cases z⟩
  ·exact⟨_,e1,λv z=>by rw[d1]at z;cases z⟩
  ·exact⟨_,e2,λv z=>by rw[d2]at z;cases z⟩
 keep:=λi h h' st k=>by obtain⟨S,Y,⟨a,c,U⟩,G,J⟩:=st;exact⟨k z (by simp) _ S,k TI (by simp) _ Y,⟨a,c,k TO (by simp) _ U⟩,G.at λo e=>k Q (by simp) o e,J.at λo e=>k N (by simp) o e⟩
 item:=by
  intro X j hw hK hc i pins s σ H E I hf st hg;subst j hw hK;obtain⟨S,Y,⟨a,c,U⟩,G,J⟩:=st;obtain⟨⟨ga,gb⟩,hH⟩:=hg;obtain⟨d,hB⟩:=(u H).mp hH;obtain⟨q,L,p1,_⟩:=I.tuple (.of d);obtain⟨A,O,p2,_⟩:=I.tuple (.of hB);obtain⟨u1,b1,b4⟩:=L.get (JP ga);obtain⟨n,f,l⟩:=O.get (JP gb);refine xX D S Y U G J p1 p2 (x:=u1) (y:=n) (by simpa using b1) (by simpa using f) λh' a1 a2 a3 a4 a5 a6 p=>?_;have b3:H s.heap.objs.size=none:=I.hok.fresh (JQ _);have lt:∀{c o},s.heap.get? c=ar o->s.heap.objs.size≠c:=λe=>LN (JU e);refine⟨_,rfl,MG a1 λR a0 T=>?_⟩;have B:m_ R TI (.ref Q) (.ref N):=T.extBut _ _ D.TIz (p _ _ D.TIz D.TITO D.TIi1 D.TIi2 Y);have kk:∀b o,b∉[z,TI,TO,Q,N]->s.heap.get? b=ar o->R.get? b=ar o:=λb o Z e=>by simp only[hO,hh,or_false,not_or]at Z;exact T.extBut _ _ Z.1 (p b o Z.1 Z.2.2.1 Z.2.2.2.1 Z.2.2.2.2 e)
  have t:m_ R s.heap.objs.size u1 n:=T.extBut _ _ (lt S) a5;have I2:L2.Inv X pins σ (upd H s.heap.objs.size (.tup [F[i],C[i]])) {s with heap:=R,toks:=s.toks}:=wA (o:=.tup [F[i],C[i]]) I hf kk (JQ _) ⟨⟨by show 2<=sizeLine;decide,_,t,rfl⟩,[u1,n],.cons b4 (.cons l .nil),_,t,rfl,_,rfl⟩;refine⟨.ref s.heap.objs.size,_,I2,rfl,
   ⟨_,_,_,b3,JP ga,JP gb,rfl,rfl⟩,⟨a0,B,⟨_,_,T.extBut _ _ D.TOz a2⟩,a3.at λo e=>T.extBut _ _ D.i1z e,a4.at λo e=>T.extBut _ _ D.i2z e⟩,λb Z=>?_⟩
  obtain⟨ob,ho,_⟩:∃ob,s.heap.get? b=ar ob/\True:=by
   simp only[hO,hh,or_false]at Z;rcases Z with rfl|rfl|rfl|rfl|rfl
   ·exact⟨_,S,trivial⟩
   ·exact⟨_,Y,trivial⟩
   ·exact⟨_,U,trivial⟩
   ·obtain⟨o,e,_⟩:=G;exact⟨_,e,trivial⟩
   ·obtain⟨o,e,_⟩:=J;exact⟨_,e,trivial⟩
  rw[aK (J7 (JU ho))];exact(hf b Z).1
 done:=by intro X j hw hK hc i pins s σ H E I hf st hg;subst j hw hK;obtain⟨S,Y,⟨a,c,U⟩,G,J⟩:=st;obtain⟨gs,hH⟩:=hg;obtain⟨d,hB⟩:=(u H).mp hH;obtain⟨q,L,p1,_⟩:=I.tuple (.of d);obtain⟨A,O,p2,_⟩:=I.tuple (.of hB);have e4:=L.length;have e8:=O.length;refine Aa (I.ok.hd hc) D S Y U G J p1 p2 (gs.imp (λg=>by simp;omega) λg=>by simp;omega) λh' p=>⟨rfl,wz (t':=s.toks) I hf λb o Z e=>?_⟩;simp only[hO,hh,or_false,not_or]at Z;exact p b o Z.1 Z.2.2.1 Z.2.2.2.1 Z.2.2.2.2 e
 self:=λ_ _ _ _ _ st h=>Mf st.1 h
def IV:List D->M Iter
 |[.tup xs,.tup ys]=>a_ ⟨(xs.zip ys).map λp=>.tup [p.1,p.2],.none⟩
 |_=>M.fail
theorem zip_get{xs ys:List D}{i:Nat}{d:D}(h:((xs.zip ys).map λp=>D.tup [p.1,p.2])[i]? =ar d):∃x y,xs[i]? =ar x/\ys[i]? =ar y/\d= .tup [x,y]:=by
 rw[Km]at h;cases q:(xs.zip ys)[i]? with
 |none=>rw[q]at h;cases h
 |some p=>
  rw[q]at h;cases h;obtain⟨Z,Y⟩:=MH.mp q;exact⟨p.1,p.2,Z,Y,rfl⟩
theorem vg{K:dn}{O:List cq}{H:Hp}{S:aB}{a b:cq}{Y X:List V}{xs ys:List D}(Z:Rep K O H S)(F:H a=ar (.tup Y))(C:H b=ar (.tup X))(u:RelDs K O H xs Y)(w:RelDs K O H ys X):
  ir K ⟨(xs.zip ys).map λp=>.tup [p.1,p.2],.none⟩ ⟨λi H=>(yW Y X).go i H/\(H a=ar (.tup Y)/\H b=ar (.tup X)),(yW Y X).yld,λi H=>(yW Y X).stop i H/\(H a=ar (.tup Y)/\H b=ar (.tup X))⟩ O H:=by
 intro R N s e rep2 ok i;have U:N a=ar (.tup Y):=(e.oth a _ F (Z.notIn F (by intro _ z;cases z)) (by intro _ z;cases z) (by intro _ z;cases z)).1;have T:N b=ar (.tup X):=(e.oth b _ C (Z.notIn C (by intro _ z;cases z)) (by intro _ z;cases z) (by intro _ z;cases z)).1;have P:=u.laterN Z e;have Q:=w.laterN Z e;have r:=P.length;have t:=Q.length;refine⟨λd hd=>?_,λhlen=>?_⟩
 ·obtain⟨x,y,G,E,rfl⟩:=zip_get hd;have q:=(JV.mp G).1;have n:=(JV.mp E).1;refine⟨⟨⟨by omega,by omega⟩,U,T⟩,?_⟩;rintro v H3 ⟨p,J,I,hp,g1,g2,rfl,rfl⟩;obtain⟨v1,e1,B⟩:=P.get' G;obtain⟨v2,e2,A⟩:=Q.get' E;obtain rfl:v1=J:=Ka (e1.symm.trans g1);obtain rfl:v2=I:=Ka (e2.symm.trans g2);have L:Ext R N R (upd N p (.tup [v1,v2])):=ie hp;exact⟨L,kA rep2 hp,.tup aY (.cons (B.later rep2 L) (.cons (A.later rep2 L) .nil))⟩
 ·have o:min xs.length ys.length<=i:=by simpa using hlen
  refine⟨?_,U,T⟩;rcases Nat.le_total xs.length ys.length with z|z
  ·exact .inl (by omega)
  ·exact .inr (by omega)
end S4
namespace S3
open PySem PySem.Spec PyProof.Rows L2 S4
abbrev mV(i:Nat):TM:=λρ=>yV ρ i
abbrev mK(d:D):TM:=λ_=>a_ d
abbrev i8(m n:TM):TM:=λρ=>do let x<-m ρ;let c<-iT x;if c=b' then n ρ else a_ (.bl dr)
abbrev IW(m n:TM):TM:=λρ=>do let x<-m ρ;let c<-iT x;if c=b' then a_ (.bl b')else n ρ
abbrev CA(m:TM):TM:=λρ=>do let x<-m ρ;let c<-iT x;a_ (.bl (!c))
abbrev HM(t:aA->M Bool)(m n:TM):TM:=λρ=>do let k<-t ρ;if k=b' then m ρ else n ρ
abbrev BX:=aA->M (List D)
abbrev aw:BX:=λ_=>a_ []
abbrev ae(m:TM)(ms:BX):BX:=λρ=>do let x<-m ρ;let xs<-ms ρ;a_ (x::xs)
abbrev i9(ms:BX):TM:=λρ=>do let ds<-ms ρ;cy ds
abbrev cX(ms:BX):TM:=λρ=>do let ds<-ms ρ;bt ds
abbrev aq(F:List D->M D)(ms:BX):TM:=λρ=>do let ds<-ms ρ;F ds
abbrev bI(F:List D->M D)(m:TM):TM:=aq F (ae m aw)
abbrev aN(f:D->D->M D)(m n:TM):TM:=λρ=>do let x<-m ρ;let y<-n ρ;f x y
abbrev rf(f g:D->D->M D)(m n l:TM):TM:=λρ=>do let x<-m ρ;let y<-n ρ;let z<-f x y;let k<-iT z;if k=b' then do let w<-l ρ;g y w else a_ (.bl dr)
abbrev IX:=aA->M (Option Int)
abbrev oN:IX:=λ_=>a_ aC
abbrev oS(m:TM):IX:=λρ=>do let x<-m ρ;let i<-Jo x;a_ (ar i)
abbrev BY(m:TM)(lo hi:IX):TM:=λρ=>do let x<-m ρ;let i<-lo ρ;let j<-hi ρ;zU x i j
abbrev Fc(m:TM):TM:=λρ=>do let x<-m ρ;IS x
abbrev tq(m:TM)(T:String):TM:=λρ=>do let x<-m ρ;Cv (λt=>xQ t T) x
abbrev Ac(m:TM)(T U:String):TM:=λρ=>do let x<-m ρ;Cv (λt=>xQ t T||xQ t U) x
abbrev xZ(f:D->List D->M D)(m n:TM):TM:=λρ=>do let x<-m ρ;F7 x;let ds<-(do let y<-n ρ;let ys<-a_ [];a_ (y::ys));f x ds
abbrev bp(mi:aA->M Iter)(g:lu)(t:aA->M Bool)(m:TM)(js:List (Option Nat)):TM:=λρ=>do let it<-mi ρ;let ys<-eX it g t m (gP js ρ);bt ys
abbrev fE:=aA->M Bool
abbrev bV(m:TM):fE:=λρ=>do let x<-m ρ;iT x
abbrev dj(f:D->D->M D)(m n:TM):fE:=λρ=>do let z<-(do let x<-m ρ;let y<-n ρ;f x y);iT z
abbrev j6(f g:D->D->M D)(m n l:TM):fE:=λρ=>do let v<-(do let x<-m ρ;let y<-n ρ;let z<-f x y;let k<-iT z;if k=b' then do let w<-l ρ;g y w else a_ (.bl dr));iT v
abbrev rh(f g h:D->D->M D)(m n l k:TM):fE:=λρ=>do
 let x<-m ρ;let y<-n ρ;let z<-f x y;let i<-iT z
 if i=b' then do
  let w<-l ρ;let z2<-g y w;let j<-iT z2
  if j=b' then do
   let v<-k ρ;let z3<-h w v
   iT z3
  else a_ dr
 else a_ dr
abbrev eQ(t:fE):fE:=λρ=>do let c<-t ρ;a_ (!c)
abbrev iD(t u:fE):fE:=λρ=>do let c<-t ρ;if c=b' then u ρ else a_ dr
abbrev uy(t u:fE):fE:=λρ=>do let c<-t ρ;if c=b' then a_ b' else u ρ
abbrev eM:fE:=λ_=>a_ b'
abbrev oR(m:TM):aA->M Iter:=λρ=>do let ds<-ae m aw ρ;lM ds
abbrev rj(m n:TM):aA->M Iter:=λρ=>do let ds<-ae m (ae n aw) ρ;jB ds
abbrev cw(m:TM):aA->M Iter:=λρ=>do let x<-m ρ;G6 x
abbrev Fd(m n:TM):aA->M Iter:=λρ=>do let ds<-ae m (ae n aw) ρ;IV ds
abbrev gN(i:Nat):lu:=λd ρ=>a_ (ρ.set i (ar d))
abbrev Fe(m n:TM):lu:=λd ρ=>do let x<-m ρ;let y<-n ρ;i5 x y d;a_ ρ
abbrev cV:cT:=λρ=>a_ (.nx ρ)
abbrev aE(m n:cT):cT:=λρ=>do let o<-m ρ;xO o n
abbrev oU(me:TM):cT:=λρ=>do let _<-me ρ;a_ (.nx ρ)
abbrev bB(me:TM):cT:=λρ=>do let d<-me ρ;a_ (.ret d)
abbrev gx(t:fE)(m n:cT):cT:=λρ=>do let c<-t ρ;if c=b' then m ρ else n ρ
abbrev bS(i:Nat)(me:TM):cT:=λρ=>do let d<-me ρ;a_ (.nx (ρ.set i (ar d)))
abbrev nQ(me:TM)(g:lu):cT:=λρ=>do let d<-me ρ;let ρ'<-g d ρ;a_ (.nx ρ')
abbrev vh(i j:Nat)(ms:BX):cT:=λρ=>do let ds<-ms ρ;match ds with|[d1,d2]=>a_ (.nx ((ρ.set i (ar d1)).set j (ar d2)))|_=>M.fail
abbrev j8(mi:aA->M Iter)(g:lu)(b:cT):cT:=λρ=>do let it<-mi ρ;fH it g b it.items ρ
abbrev rk(k:Nat)(t:fE)(b:cT):cT:=λρ=>i6 t b k ρ
structure DefIs(P:d_)(w:ee)(K:dn)(mg:Str->Option b_)(base:f')(k:Nat)(x:Str)(ps:List Str)(F:List D->M D):Prop where
 ex:∃f fd,FnOk P w K mg base JD k f fd ps (JF K F)/\mg x=ar (.ref f)/\rA K (.ref f)=b'/\Binds K fd ps []
section
variable {X:Cx}{E:XD}{e:Expr}{es:List Expr}{pos:Pos}{ms:BX}
theorem aF{c j p}:dt (.Constant c j p::es) env=(dr,i4 (.Constant c j p) env)::dt es env:=rfl
theorem Ad{l k p}:dt (.Tuple l k p::es) env=(dr,i4 (.Tuple l k p) env)::dt es env:=rfl
theorem ax{x p}:dt (.Name x p::es) env=(dr,i4 (.Name x p) env)::dt es env:=rfl
theorem cG{f l k p}:dt (.Call f l k p::es) env=(dr,i4 (.Call f l k p) env)::dt es env:=rfl
theorem gg{a o b p}:dt (.BinOp a o b p::es) env=(dr,i4 (.BinOp a o b p) env)::dt es env:=rfl
theorem a7{a b p}:dt (.Subscript a b p::es) env=(dr,i4 (.Subscript a b p) env)::dt es env:=rfl
theorem vi{a b p}:dt (.UnaryOp a b p::es) env=(dr,i4 (.UnaryOp a b p) env)::dt es env:=rfl
theorem vj{j p}:SE X E (.UnaryOp .USub (.Constant (.int i) j p) pos) (mK (.int (-i))):=by refine PE.imp (GE Ez y0) λσ H Q h=>?_;obtain⟨Z,S,ρ,rep,re,c⟩:=h;exact⟨i,rfl,ai c .refl rep _ (.int _)⟩
theorem kM(Z:Gl X x)(Y:∃t,X.mg x=ar (.int i t))(W:(x==("__debug__":Str))=false:=by decide):SE X E (.Name x pos) (mK (.int i)):=
 let ⟨_,h⟩:=Y
 Cq Z h W
def G8(fs:Scope)(N:List Str)(scope:Scope)(Nc:List Str)(js:List (Option Nat)):Bool:=
 (scope.kind== .function) && scope.names.all (λy=>y.2 != .cell||scope.names.lookup y.1==ar .cell) && scope.names.all (λy=>y.2 != .local||scope.names.lookup y.1==ar .local) &&
  scope.names.all (λy=>y.2 != .free||(fs.names.lookup y.1==ar .cell||fs.names.lookup y.1==ar .free)) && (js.length==Nc.length) &&
  (Nc.zip js).all (λp=>match p.2 with|none=>b'|some j=>N[j]? ==ar p.1 && scope.names.lookup p.1==ar .free)
theorem gQ(fs:Scope)(N:List Str)(U:∀x,X.env.kindOf x=fs.names.lookup x)(S:X.N=N)(h:G8 fs N scope Nc js=b'):CompScope X scope Nc js:=by
 unfold G8 at h;simp only[i_,H_,beq_iff_eq,bne_iff_ne,MK]at h;obtain⟨⟨⟨⟨⟨Y,Q⟩,R⟩,P⟩,T⟩,W⟩:=h;refine⟨Y,λy Z e=>(Q y Z).resolve_left λz=>z e,λy Z e=>(R y Z).resolve_left λz=>z e,λy Z e=>?_,T,λi x j e1 e2=>?_⟩
 ·rw[U];exact(P y Z).resolve_left λz=>z e
 ·have O:(Nc.zip js)[i]? =ar (x,ar j):=MH.mpr ⟨e1,e2⟩;have:=W _ (Kn O);simp only[i_,beq_iff_eq]at this;rw[S];exact this
theorem eR(Z:Room k A):A.units+64<cLine:=by have:=Z.un;omega
theorem DF(Z:Room k A):A.units<cLine:=by have:=Z.un;omega
end
section
variable {P:d_}{w:ee}{K:dn}{mg:Str->Option b_}{base:f'}
end
def runs{α:Type}(c:M α)(S:aB)(Q:α->aB->Prop):Prop:=∃a S',c S=ar (.ok a,S')/\Q a S'
section
variable {α β:Type}{c:M α}{f:α->M β}{S:aB}{Q Q':α->aB->Prop}{R:β->aB->Prop}
theorem rl(h:c S=ar (.ok a,S1)):runs c S Q↔Q a S1:=by
 constructor
 ·rintro⟨a',S',e,q⟩;rw[h]at e;cases e;exact q
 ·exact λq=>⟨a,S1,h,q⟩
theorem CB(h:c S=aC):runs c S Q↔False:=by
 constructor
 ·rintro⟨a',S',e,q⟩;rw[h]at e;cases e
 ·exact λq=>q.elim
theorem x9(h:runs c S Q)(k:∀a S',Q a S'->Q' a S'):runs c S Q':=let ⟨a,S',e,q⟩:=h;⟨a,S',e,k a S' q⟩
end
section
variable {S:aB}{Q:D->aB->Prop}
theorem ya:runs (bt ds) S Q↔ds.length<=lim/\Q (.lst S.length) (S++[ds]):=by
 by_cases h:ds.length<=lim
 ·rw[rl (by unfold bt;rw[if_pos h])];simp[h]
 ·rw[CB (by unfold bt;rw[if_neg h])];simp[h]
theorem eE{f:ly->ly->Bool}(Z:dO S 60 a=ar p)(Y:dO S 60 b=ar q):runs (EX f a b) S Q↔Q (.bl (f p q)) S:=by rw[rl (by unfold EX;rw[Z,Y])]
theorem mU(Y:dO S 60 a=ar p)(X:dO S 60 b=ar q)(Z:IR f p q=ar r):runs (G4 f a b) S Q↔Q (.bl r) S:=by rw[rl (by unfold G4;rw[Y,X];simp only[Z];rfl)]
end
end S3
namespace S7
open PySem PySem.Spec PySem.W PyProof.Rows
section
variable {prog:d_}{w:ee}{A:iB}{E:b_->c_->Prop}{s:c_}{K:OJ}{x C:cq}{ox:Obj}{od:Option Obj}{name:Str}
structure ExcC(K:OJ)(C:cq):Prop where
 ga:B' K (.ref C) "__getattribute__"=ar (ar (.builtin "BaseException.__getattribute__"))
 gt:B' K (.ref C) "__getattr__"=ar aC
 be:OG K C (.type "BaseException")=ar b'
 ob:OG K C (.type "object")=ar b'
 cl:B' K (.ref C) "__class__"=ar (ar (.builtin "object.__class__"))
 gs:specialIn K (.builtin "object.__class__") "__get__"=ar (ar (.builtin "getset_descriptor.__get__"))
 tk:takesIn K (.builtin "object.__class__")=ar b'
 cd:(clsIn K C).isSome=b'
 mf:B' K (.ref C) "many"=ar aC
 ms:B' K (.ref C) "most"=ar aC
def Ae(K:OJ)(C:cq):Bool:=(B' K (.ref C) "__getattribute__"==ar (ar (.builtin "BaseException.__getattribute__"))) && (B' K (.ref C) "__getattr__"==ar aC) && (OG K C (.type "BaseException")==ar b') &&
 (OG K C (.type "object")==ar b') && (B' K (.ref C) "__class__"==ar (ar (.builtin "object.__class__"))) && (specialIn K (.builtin "object.__class__") "__get__"==ar (ar (.builtin "getset_descriptor.__get__"))) &&
 (takesIn K (.builtin "object.__class__")==ar b') && (clsIn K C).isSome && (B' K (.ref C) "many"==ar aC) && (B' K (.ref C) "most"==ar aC)
theorem ExcC.of(h:Ae K C=b'):ExcC K C:=by unfold Ae at h;simp only[i_,beq_iff_eq]at h;obtain⟨⟨⟨⟨⟨⟨⟨⟨⟨U,T⟩,W⟩,Q⟩,P⟩,S⟩,R⟩,X⟩,Y⟩,Z⟩:=h;exact⟨U,T,W,Q,P,S,R,X,Y,Z⟩
end
end S7
namespace S7
open PySem PySem.Spec PyProof.Rows L2 S3
def BZ(e T C:cq)(od:Option cq)(fl:b_)(h:f'):Prop:=
 ∃oe vs oT ts,h.get? e=ar oe/\oe.cls= .ref C/\oe.dict=od/\oe.data= .fields vs/\vs[1]? =ar (.ref T)/\T≠e/\h.get? T=ar oT/\oT.data= .fields ts/\ts[3]? =ar fl
structure Step(fs:List cq)(e T:cq)(h h':f'):Prop where
 keep:∀b o,h.get? b=ar o->b≠e->b≠T->b∉fs->h'.get? b=ar o
 slot:∀b o,h.get? b=ar o->b≠e->b≠T->∃sl,h'.get? b=ar {o with slots:=sl}
 size:h.objs.size<=h'.objs.size
section
variable {M:OI}{A:iB}{E:b_->c_->Prop}{s:c_}{base:f'}{env:Env}{outer:List Env}{L e T C:cq}{od:Option cq}{fl:b_}{Q:Unit->c_->Prop}
theorem nR(o:Obj)(f:Array b_->Array b_):(F_ f o).dict=o.dict:=by obtain⟨c,d,Z,Y⟩:=o;cases Z<;>rfl
theorem entry(K:A.frames=ar (env::outer))(F:s.heap.FunFrames base (env::outer))(w:env.frame=ar L)
  (G:s.heap.get? e=ar oe) (y:oe.cls= .ref C) (B:oe.dict=od) (J:oe.data= .fields vs) (W:1<vs.size)
  (h:∀h' T',BZ e T' C od (A_ L) h'->s.heap.objs.size<=T'->Step (jU (env::outer)) e e s.heap h'->Q () {s with heap:=h'}):
  ed M A (do let a<-frameOf env;let N<-entryPlaceOf L hadNext;let b<-EntryCells.newEntry head a .none (A_ L) .none N;setField (.ref e) 1 b) Q E s:=by
 have U:e∉jU (env::outer):=λhm=>by obtain⟨_,o,q,H⟩:=F.mem hm;rw[G]at q;cases q;exact H vs J
 refine JM (wpAny_frameOf_fun K F w λY Z=>JM (wpAny_entryPlaceOf λN X=>?_));unfold EntryCells.newEntry newFields;refine JM (KG (?_ :ed _ _ _ _ _ _) (X.sizeOk5 _ _ _ _ _));have S:Y.get? e=ar oe:=(Z.2.1 e U).trans G;have R:=JO (h:=Y) {cls:=.type "traceback",dict:=aC,data:=.fields ([head,.ref L,.none,A_ L,.none]++(if N.isEmpty then eb 6 j0 else N)).toArray} S;have P:Y.objs.size≠e:=LN (JU S);have O:=Lw J (·.setIfInBounds 1 (hF Y.objs.size));refine MF R J W (h _ Y.objs.size ⟨_,_,_,_,Lf _ R (Mb O),?_,?_,O,by simp[W],P,(Kr _ _ (k8 P)).trans (J0 Y rfl),rfl,?_⟩ (Lz Z.1.symm) ⟨λb o q I _ x=>?_,λb o q I _=>?_,?_⟩)
 ·rw[Obj.cls_mapFields];exact y
 ·rw[nR];exact B
 ·first|(simp;done)|(rcases X with rfl|⟨_,_,_,_,_,_,_,rfl⟩<;>simp)
 ·rw[Kr _ _ (k8 I)];exact JO _ ((Z.2.1 b x).trans q)
 ·obtain⟨v,z⟩:=Z.2.2 b o q;exact⟨v,by rw[Kr _ _ (k8 I)];exact JO _ z⟩
 ·rw[Lv,KZ,Z.1];exact LL _
theorem vk(Z:A.frames=ar (env::outer))(R:s.heap.FunFrames base (env::outer))(W:env.frame=ar L)
  (X:s.heap.get? e=ar oe) (P:oe.cls= .ref C) (S:oe.dict=od) (U:oe.data= .fields vs) (Y:vs[1]? =ar .none)
  (h:∀h' T',BZ e T' C od (A_ L) h'->s.heap.objs.size<=T'->Step (jU (env::outer)) e e s.heap h'->Q () {s with heap:=h'}):ed M A (z_ (.ref e) env) Q E s:=by
 unfold z_;simp only[W];refine JM (KB X U Y ?_);rw[if_neg (by decide)];exact entry Z R W X P S U (La.mp Y).1 h
theorem qb(W:A.frames=ar (env::outer))(y:s.heap.FunFrames base (env::outer))(I:env.frame=ar L)(F:BZ e T C od .none s.heap)
  (h:∀h' X,BZ e X C od (A_ L) h'->s.heap.objs.size<=X->Step (jU (env::outer)) e T s.heap h'->Q () {s with heap:=h'}):ed M A (z_ (.ref e) env) Q E s:=by
 obtain⟨u,vs,t,H,he,x,B,hd,K,U,S,Z,J⟩:=F;have P:3<H.size:=(La.mp J).1;unfold z_;simp only[I];refine JM (KB he hd K ?_);rw[if_pos (show(hF T !=j0)=b' from by simp)];refine JM (KB S Z J ?_);rw[if_neg (show ¬ ((j0==A_ L)=b')from by simp[A_])];refine JM (MF S Z P ?_);have other:∀b,b≠T->(s.heap.update T (F_ (·.setIfInBounds 3 j0))).get? b=s.heap.get? b:=λb G=>Kr _ _ (k8 G);have R:(s.heap.update T (F_ (·.setIfInBounds 3 j0))).FunFrames base (env::outer):=y.of_keeps λb o q O=>⟨o,(other b λz=>by rw[z,S]at q;cases q;exact O H Z).trans q,rfl⟩;refine entry (s:={s with heap:=s.heap.update T (F_ (·.setIfInBounds 3 j0))}) W R I ((other e (k8 U)).trans he) x B hd (La.mp K).1 λh' X v l st=>h h' X v ?_ ⟨λb o q Y N w=>st.keep b o ((other b N).trans q) Y Y w,λb o q Y N=>st.slot b o ((other b N).trans q) Y Y,?_⟩
 ·have:=l;rwa [Lv]at this
 ·have:=st.size;rwa [Lv]at this
theorem gy(F:BZ e T C od fl s.heap)(h:∀h',BZ e T C od .none h'->Step [] e T s.heap h'->Q () {s with heap:=h'}):ed M A (setFlight (.ref e) aC) Q E s:=by
 obtain⟨O,vs,I,J,he,K,R,hd,U,Y,S,Z,N⟩:=F;have X:3<J.size:=(La.mp N).1;refine wpAny_setFlight_none he hd U S Z X (h _ ⟨O,vs,_,_,(Kr _ _ Y).trans he,K,R,hd,U,Y,Lf _ S (Mb (Lw Z _)),Lw Z _,by simp[X]⟩
  ⟨λb o q P W _=>(Kr _ _ (k8 W)).trans q,λb o q P W=>⟨o.slots,(Kr _ _ (k8 W)).trans q⟩,?_⟩)
 rw[Lv];exact JQ _
theorem tu(W:A.frames=ar (env::outer))(K:s.heap.FunFrames base (env::outer))(G:env.frame=ar L)
  (O:s.heap.get? e=ar oe) (J:oe.cls= .ref C) (P:oe.dict=od) (z:oe.data= .fields vs) (R:vs[1]? =ar .none)
  (h:∀h' X,BZ e X C od .none h'->s.heap.objs.size<=X->Step (jU (env::outer)) e e s.heap h'->Q () {s with heap:=h'}):ed M A (NG env (.ref e)) Q E s:=by
 unfold NG;refine JM (vk W K G O J P z R λh' X F l st=>gy (s:={s with heap:=h'}) F λU S Y=>h U X S l ⟨λb o q Z I H=>?_,λb o q Z I=>?_,JX st.size Y.size⟩)
 ·exact Y.keep b o (st.keep b o q Z Z H) Z (J7 (J1 (JU q) l)) (by simp)
 ·obtain⟨B,N⟩:=st.slot b o q Z Z;exact⟨B,Y.keep b _ N Z (J7 (J1 (JU q) l)) (by simp)⟩
theorem vm(W:A.frames=ar (env::outer))(O:s.heap.FunFrames base (env::outer))(K:env.frame=ar L)(F:BZ e T C od .none s.heap)
  (h:∀h' X,BZ e X C od .none h'->s.heap.objs.size<=X->Step (jU (env::outer)) e T s.heap h'->Q () {s with heap:=h'}):ed M A (NG env (.ref e)) Q E s:=by
 unfold NG;refine JM (qb W O K F λh' X F l st=>gy (s:={s with heap:=h'}) F λU R Z=>h U X R l ⟨λb o q Y S N=>?_,λb o q Y S=>?_,JX st.size Z.size⟩)
 ·exact Z.keep b o (st.keep b o q Y S N) Y (J7 (J1 (JU q) l)) (by simp)
 ·obtain⟨J,P⟩:=st.slot b o q Y S;exact⟨J,Z.keep b _ P Y (J7 (J1 (JU q) l)) (by simp)⟩
end
def lO(P:d_)(w:ee):yS:=λouter H s E x s'=>
 ∃(e T C:cq) (od:Option cq) (H':Hp),x= .ref e/\s'.os=s.os/\w_ s'.gens/\Un (jU outer) [] H H' s.heap s'.heap/\fY P w H' s'.heap/\BZ e T C od .none s'.heap/\
  H' e=aC/\H' T=aC/\s.heap.get? e=aC/\s.heap.get? T=aC/\E (.ref C) od H'
theorem yb{X:Cx}:nj (lO X.prog X.w) X E0:=λ_ _ _ _ _ _ _ ⟨_,_,_,_,_,_,_,_,_,_,_,_,_,_,_,h⟩=>h.elim
theorem gz{h:f'}(q:h.get? b=ar o)(n:h.get? e=aC):b≠e:=λz=>by rw[z,n]at q;cases q
theorem Un.fly(u:Un fs [] H H' h h1)(S:Step fs e T h1 h2)(X:h.get? e=aC)(R:h.get? T=aC):Un fs [] H H' h h2 where
 keep:=λb o q n hf Z=>S.keep b o (u.keep b o q n hf Z) (gz q X) (gz q R) hf
 slot:=λb o q n hf Z=>by obtain⟨P,W⟩:=u.slot b o q n hf Z;obtain⟨Y,U⟩:=S.slot b _ W (gz q X) (gz q R);exact⟨Y,U⟩
 free:=u.free
 there:=λb o q Z=>by obtain⟨Q,W⟩:=u.there b o q Z;obtain⟨Y,U⟩:=S.slot b _ W (gz q X) (gz q R);exact⟨_,U⟩
 tups:=u.tups
 frzs:=u.frzs
 tbls:=u.tbls
theorem fY.fly{H:Hp}(W:fY P w H h1)(S:Step fs e T h1 h2)(X:H e=aC)(Y:H T=aC)(U:∀b∈fs,H b=aC):fY P w H h2:=λa o q=>by
 have k:∀b u,H b≠aC->h1.get? b=ar u->h2.get? b=ar u:=λb u n q=>S.keep b u q (λz=>n (by rw[z];exact X)) (λz=>n (by rw[z];exact Y)) λz=>n (U b z);refine(W a o q).stay (λb u Z=>k b u ?_) (λ_ z=>z) λ_ _ z=>z;rcases Z with rfl|Z
 ·rw[q];simp
 ·rw[Z];simp
section
theorem Af(l:List Env)(x:cq)(env:Env)(h:env.frame=ar x):jU (env::l)=x::jU l:=by unfold jU;rw[LK,h]
theorem bK.there(x:bK P w H h a o):∃Z,h.get? a=ar Z:=by
 cases o with
 |lst xs=>obtain⟨_,_,_,_,e⟩:=x;exact⟨_,e⟩
 |tup xs=>obtain⟨_,_,_,Z,e,_⟩:=x;exact⟨_,e⟩
 |dK kvs=>obtain⟨_,_,_,_,o,_,_,e,_⟩:=x;exact⟨_,e⟩
 |dT kvs=>obtain⟨_,_,_,_,o,_,_,e,_⟩:=x;exact⟨_,e⟩
 |set S n=>obtain⟨o,_,_,_,e,_⟩:=x;exact⟨_,e⟩
 |ins C dx fs=>obtain⟨_,_,_,e,_⟩:=x;exact⟨_,e⟩
 |own y=>exact x
 |xd fs=>obtain⟨_,⟨_,_,_,e,_⟩,_⟩:=x;exact⟨_,e⟩
 |rng lo hi=>obtain⟨_,_,_,e⟩:=x;exact⟨_,e⟩
 |frz Z u=>obtain⟨e,_⟩:=x;exact⟨_,e⟩
 |tbl ps=>exact⟨_,(show h.get? a=ar _ from x)⟩
 |met f y=>exact⟨_,(show h.get? a=ar _ from x)⟩
 |ext φ=>exact x.2.1
theorem fY.gone{H:Hp}(x:fY P w H h)(e:h.get? a=aC):H a=none:=by
 cases q:H a with
 |none=>rfl
 |some o=>
  obtain⟨Z,e2⟩:=bK.there (x a o q);rw[e]at e2;cases e2
theorem Un.gone(u:Un fs ex H H' h h')(Z:a∉ex)(e:h'.get? a=aC):h.get? a=none:=by
 cases q:h.get? a with
 |none=>rfl
 |some o=>
  obtain⟨Y,e2⟩:=u.there a o q Z;rw[e]at e2;cases e2
end
abbrev Cx.hand(X:Cx)(e:b_):Cx:={X with A:=X.A.mark (ar e),calm:=dr,xe:=λ_ _=>False}
section
variable {X:Cx}{pins:List (cq×Obj)}{σ:L2.St}{H H':Hp}{s:c_}{x:b_}
theorem Inv.hand(I:Inv X pins σ H s)(e:b_):Inv (Cx.hand X e) pins σ H s:=
 ⟨⟨I.ok.mod,I.ok.kind,I.ok.glob,I.ok.blt,I.ok.above,I.ok.inj,I.ok.has,I.ok.cab,(λz=>Bool.noConfusion z),I.ok.frames,I.ok.stk,I.ok.exf,I.ok.bs,I.ok.bsz,I.ok.noex,I.ok.exfs,I.ok.funs,I.ok.frf⟩,
  I.os,I.bare,I.base,I.loc,I.cell,I.free,I.freeC,I.pin,I.hok,I.len⟩
theorem Inv.unhand(Z:X.Ok)(I:Inv (Cx.hand X x) pins σ H s):Inv X pins σ H s:=⟨Z,I.os,I.bare,I.base,I.loc,I.cell,I.free,I.freeC,I.pin,I.hok,I.len⟩
end
structure LamOk(P:d_)(w:ee)(K:dn)(mg:Str->Option b_)(base:f')(k:Nat)(f:cq)(sp:Hp->VK->XK->Prop):Prop where
 fn:∃o fd,base.get? f=ar o/\o.data= .func fd
 run:∀(A:iB) (outer:List Env) (s:c_) (H:Hp) (Q:VK) (E:XK),Room k A->aA P w K mg base A outer s H->sp H Q E->r_ (e_ P w) A (.call (.ref f) ⟨[],[]⟩) (CR (lO P w) outer P w H s Q E) s
section
variable {X:Cx}{k i jn jy:Nat}{f CW:cq}{sp:Hp->VK->XK->Prop}{x c n y:Str}{p cpos epos np p1 p2 p3 hpos tpos:Pos}
end
structure BaseL(K:dn)(mg:Str->Option b_)(base:f'):Prop where
 bm:∃bm ob,mg "__builtins__"=ar (.ref bm)/\bm≠s_/\base.get? bm=ar ob/\ob.cls= .type "module"/\ob.dict=ar s_/\ob.data= .plain
 cd:∀x∈cF,∀c P,lk K x=ar (c,P)->NP base c P
def Ag(K:dn):Prop:=∀x∈cF,∀y∈cF,∀c d P,lk K x=ar (c,P)->lk K y=ar (d,P)->x=y
section
variable {X:Cx}{pins:List (cq×Obj)}{σ:L2.St}{H:Hp}{s:c_}{x ql:Str}{c P:cq}{params:Nu}{body:Expr}{scope:Scope}{pos:Pos}{clos:List (Str×cq)}{Q:b_->c_->Prop}{E:b_->c_->Prop}{A:iB}
end
def IY(K:dn)(ι:List cq)(H:Hp)(x:D)(cls:b_)(od:Option cq):Prop:=
 ∃n ds C,x= .exc n ds/\pd K g_ n=ar (ar (.ref C))/\cls= .ref C/\
  ((od=aC/\ds=[])\/∃dx fs,od=ar dx/\H dx=ar (.xd fs)/\fs.map (·.1)=([("many":Str),("most":Str)]:List Str)/\RelDs K ι H ds (fs.map (·.2)))
def vo(K:dn)(Ek:XK):XD:=λx ι _ H=>∀cls od,IY K ι H x cls od->Ek cls od H
def Ah(K:dn)(F:List D->M D):Sp:=λvs H Q Ek=>∃ ι S ds,Rep K ι H S/\RelDs K ι H ds vs/\cont K (vo K Ek) (F ds) ι S H (mq K Q)
theorem Ai{K:dn}{E U:XD}{α:Type}{c:M α}{X:List cq}{S:aB}{H:Hp}{Q:α->List cq->aB->Hp->Prop}(h:cont K E c X S H Q)(k:∀x ι' Z H',E x ι' Z H'->U x ι' Z H'):cont K U c X S H Q:=by
 obtain⟨r,Z,e,q⟩:=h;refine⟨r,Z,e,λY R T rep1=>?_⟩;have:=q Y R T rep1;cases r with
 |ok a=>exact this
 |ex x=>exact k x _ _ _ this
def ja{α:Type}(c:M α):M α:=λS=>match c S with
 |some (.ok a,S')=>ar (.ok a,S')
 |_=>aC
theorem jD{K:dn}{E:XD}{α:Type}{c:M α}{Z:List cq}{S:aB}{H:Hp}{Q:α->List cq->aB->Hp->Prop}(h:cont K E (ja c) Z S H Q):cont K bX c Z S H Q:=by
 obtain⟨r,X,e,q⟩:=h;unfold ja at e;cases z:c S with
 |none=>rw[z]at e;cases e
 |some p=>
  obtain⟨Y,S1⟩:=p;rw[z]at e;cases Y with
  |ok a=>cases e;exact⟨_,_,z,q⟩
  |ex x=>cases e
section
variable {X:Cx}{E:XD}
theorem jE{m:TM}(h:SE X bX e m):SE X E e (λρ=>ja (m ρ)):=PE.imp h λ_ _ _ ⟨ι,S,ρ,rep,re,c⟩=>⟨ι,S,ρ,rep,re,jD c⟩
theorem wB{Z:nf}{m:cT}(h:SS X bX Z m):SS X E Z (λρ=>ja (m ρ)):=PS.imp h λ_ _ _ ⟨ι,S,ρ,rep,re,c⟩=>⟨ι,S,ρ,rep,re,jD c⟩
theorem tw{Z:List nf}{m:cT}(h:ux X bX Z m):ux X E Z (λρ=>ja (m ρ)):=oV.imp h λ_ _ _ ⟨ι,S,ρ,rep,re,c⟩=>⟨ι,S,ρ,rep,re,jD c⟩
theorem wC{Z:List nf}{m:cT}(h:ux X.nox bX Z m):ux X bX Z m:=oV.nox h
end
structure Leaves(X:Cx)(Ek:XK):Prop where
 st:X.stack=X.env::X.outer
 fm:X.env.frame=ar X.env.locals
 ex:X.ex=[]
 xe:∀e s',ed (e_ X.prog X.w) X.A (NG X.env e) (λ_ s''=>lO X.prog X.w X.outer X.H₀ X.s₀ Ek e s'') (λe' s''=>lO X.prog X.w X.outer X.H₀ X.s₀ Ek e' s'') s'->X.xe e s'
 ow:Nt (e_ X.prog X.w) X.A X.env X.xe
section
variable {X:Cx}{Ek:XK}
theorem Leaves.pass(L:Leaves X Ek):nj (lO X.prog X.w) X Ek:=by rintro pins σ H s x s' I ⟨e,T,C,od,H',rfl,os,bare,un,hok,F,ne,nT,le,lT,hE⟩;have W:L2.Inv X pins σ H' s':=I.call' (ch:=[]) os un hok bare (λb z=>absurd z (by simp));refine L.xe _ _ (vm (base:=X.base) (outer:=X.outer) (by rw[W.ok.frames,L.st]) (by rw[<-L.st];exact W.stack) L.fm F λh' Q P l st=>?_);rw[<-L.st]at st;have Z:fY X.prog X.w H' h':=fY.fly hok st ne nT W.stkFree;have S:Un (jU X.stack) [] H H' s.heap h':=Un.fly un st le lT;have U:L2.Inv X pins σ H' {s' with heap:=h'}:=I.call' (s':={s' with heap:=h'}) (ch:=[]) os S Z bare (λb z=>absurd z (by simp));have R:=U.base;have h0:=I.base;have Y:=W.base;rw[L.ex]at R h0 Y;exact⟨e,Q,C,od,H',rfl,U.os,U.bare,R,U.hok,P,ne,hok.fresh l,Un.gone h0 (by simp) le,Un.gone Y (by simp) (Ku l),hE⟩
theorem Leaves.new{H:Hp}(L:Leaves X Ek)
  (I:L2.Inv X pins σ H s') (E:s'.heap.get? e=ar oe) (B:oe.cls= .ref C) (F:oe.dict=od) (G:oe.data= .fields vs) (O:vs[1]? =ar .none) (Q:H e=aC) (hs:X.s₀.heap.get? e=aC) (J:Ek (.ref C) od H):X.xe (.ref e) s':=by
 refine L.xe _ _ (tu (base:=X.base) (outer:=X.outer) (by rw[I.ok.frames,L.st]) (by rw[<-L.st];exact I.stack) L.fm E B F G O λh' K N l st=>?_);have S:∀b∈jU (X.env::X.outer),H b=none:=by rw[<-L.st];exact I.stkFree
 have Y:fY X.prog X.w H h':=fY.fly I.hok st Q Q S;have Z:=I.base;rw[L.ex]at Z;have P:∀b o,X.s₀.heap.get? b=ar o->b∉jU X.outer->b∉jU (X.env::X.outer):=λb o q n z=>by
  rw[Af X.outer X.env.locals _ L.fm]at z;rcases J5.mp z with z|z
  ·exact absurd (JU q) (by rw[z];exact Oe.mpr I.ok.above)
  ·exact n z
 have ne:∀b o,X.s₀.heap.get? b=ar o->b≠e:=λb o q=>gz q hs;refine⟨e,K,C,od,H,rfl,I.os,I.bare,⟨λb o q n hf W=>?_,λb o q n hf W=>?_,Z.free,λb o q W=>?_,Z.tups,Z.frzs,Z.tbls⟩,Y,N,Q,I.hok.fresh l,hs,Un.gone Z (by simp) (Ku l),J⟩
 ·exact st.keep b o (Z.keep b o q n hf W) (ne b o q) (ne b o q) (P b o q hf)
 ·obtain⟨y,T⟩:=Z.slot b o q n hf W;obtain⟨U,R⟩:=st.slot b _ T (ne b o q) (ne b o q);exact⟨U,R⟩
 ·obtain⟨A,T⟩:=Z.there b o q W;obtain⟨U,R⟩:=st.slot b _ T (ne b o q) (ne b o q);exact⟨_,R⟩
theorem aW{P:d_}{w:ee}{K:dn}{Z:Str->Option b_}{base:f'}{N:List Str}{qual:Str}{scope:Scope}{f:cq}{Y:b_}{A:iB}{outer:List Env}{s₀:c_}{H₀:Hp}:
  Leaves (lC (lO P w) P w K Z base N qual scope f Y A outer s₀ H₀ Ek) Ek:=⟨rfl,rfl,rfl,λ_ _ h=>h,PassesOwn.leaving⟩
end
structure DefX(P:d_)(w:ee)(K:dn)(mg:Str->Option b_)(base:f')(k:Nat)(x:Str)(ps:List Str)(F:List D->M D):Prop where
 ex:∃f fd,FnOk P w K mg base (lO P w) k f fd ps (Ah K F)/\mg x=ar (.ref f)/\rA K (.ref f)=b'/\Binds K fd ps []
section
variable {P:d_}{w:ee}{K:dn}{mg:Str->Option b_}{base:f'}
theorem Ff{x qual:Str}{X:nf}{f:cq}{C:f_}{N U:List Str}{k:Nat}{m:cT}(F:Fun K x qual X f C)(v:FnScope N U (ak X))
  (O:∀(Z:b_) (A:iB) (outer:List Env) (s:c_) (H:Hp) (Y:XK),Room k (A.deeper (A' qual (ak X) s.heap.objs.size f Z))->Nl K Z qual=b'->(∃I G R kV doc pm an ct,K.lookup f=ar ⟨I,G,.func (w7 x qual (eU X) (cO X) (ak X) .none kV doc pm an Z ct),R⟩)->
   ux (lC (lO P w) P w K mg base N qual (ak X) f Z A outer s H Y) (vo K Y) (cO X) m):FnOk P w K mg base (lO P w) (k+1) f C U (Ah K (mR N.length U.length m)):=by
 have key:∀{vs:List V} {H:Hp} {Q:VK} {Y:XK},Ah K (mR N.length U.length m) vs H Q Y->vs.length=U.length/\∃T S ds,Rep K T H S/\RelDs K T H ds vs/\cont K (vo K Y) (do let o<-m (ds.map ar++eb (N.length - U.length) aC);outD o) T S H (mq K Q):=by
  rintro vs H Q Y ⟨T,S,ds,rep,r,c⟩;unfold mR at c;by_cases J:ds.length=U.length
  ·rw[if_pos J]at c;exact⟨by rw[<-r.length];exact J,T,S,ds,rep,r,c⟩
  ·rw[if_neg J]at c;exact(ah c).elim
 obtain⟨I,G,kV,doc,pm,an,Z,ct,R,rfl,E,L⟩:=F.ex;refine Dy E L v (λvs H Q Y h=>(key h).1) λA outer s H vs Q Y y h=>⟨_,O Z A outer s H Y y L ⟨I,G,R,kV,doc,pm,an,ct,E⟩,?_⟩;obtain⟨J,T,S,ds,rep,r,c⟩:=key h;refine⟨T,S,_,rep,?_,ao (ag c) λo B S1 u e1 rep1 c1=>?_⟩
 ·have:=RelE.start r (N.length - U.length);unfold L2.start;rw[J];exact this
 ·cases o with
  |nx ρ=>exact λz _=>ai c1 .refl rep1 _ .non
  |ret d=>exact ai c1 .refl rep1
  |bk ρ=>exact(ah c1).elim
  |ct ρ=>exact(ah c1).elim
end
section
variable {X:Cx}{Ek:XK}{e:Expr}{es:List Expr}{pos:Pos}{ms:aA->M (List D)}
theorem cm(d:DefX X.prog X.w X.K X.mg X.base k x ps F)(P:Room k X.A)(C:nj (lO X.prog X.w) X Ek)(O:SA X (vo X.K Ek) (e::es) ms)(I:Gl X x:=by rfl)
  (W:(x==("__debug__":Str))=false:=by decide) (T:dt (e::es) X.env=(dr,i4 e X.env)::dt es X.env:=by rfl) (Y:(lx pos (dt es X.env)).any (·.1)=false:=by rfl):
  SE X (vo X.K Ek) (.Call (.Name x p) (e::es) [] pos) (aq F ms):=by
 obtain⟨f,fd,G,hm,L,U⟩:=d.ex;refine PE.imp (wa G P I hm L U (.nil) (E:=Ek) C O W T Y) λσ H Q h=>?_;obtain⟨N,S,ρ,rep,re,c⟩:=h;refine⟨N,S,ρ,rep,re,ao (ag c) λds Z S1 J e1 rep1 c1 vs R=>?_⟩;show Ah X.K F (vs++[]) J Q Ek;rw[Ky];exact⟨Z,S1,ds,rep1,R,c1⟩
theorem aI(d:DefX X.prog X.w X.K X.mg X.base k x ps F)(P:Room k X.A)(O:SA X bX (e::es) ms)(I:Gl X x:=by rfl)
  (W:(x==("__debug__":Str))=false:=by decide) (T:dt (e::es) X.env=(dr,i4 e X.env)::dt es X.env:=by rfl) (Y:(lx pos (dt es X.env)).any (·.1)=false:=by rfl):
  SE X bX (.Call (.Name x p) (e::es) [] pos) (aq F ms):=by
 obtain⟨f,fd,G,hm,L,U⟩:=d.ex;refine PE.imp (wa G P I hm L U (.nil) (E:=E0) yb O W T Y) λσ H Q h=>?_;obtain⟨N,S,ρ,rep,re,c⟩:=h;refine⟨N,S,ρ,rep,re,ao (ag c) λds Z S1 J e1 rep1 c1 vs R=>?_⟩;show Ah X.K F (vs++[]) J Q E0;rw[Ky];exact⟨Z,S1,ds,rep1,R,Ai c1 λ_ _ _ _ z=>z.elim⟩
end
def c9:List Str:=["WebError","NoWeb","NoNumber","NotJoined","TooGreat"]
def vp(n y:Str):Bool:=n==y||y=="WebError"
abbrev Gb:List Value:=[.type "ValueError",.type "Exception",.type "BaseException",.type "object"]
def Aj(K:dn)(n:Str):Bool:=match pd K g_ n with
 | some (ar (.ref C))=>Ae K C && (n=="TooGreat"||Os K C Gb "ValueError.__new__") && (y1 K (.ref C) (.type "ValueError")==ar b') && (y1 K (.type "NoneType") (.ref C)==ar dr) &&
  c9.all (λy=>match pd K g_ y with
   |some (ar (.ref D))=>y1 K (.ref C) (.ref D)==ar (vp n y) && Ox K (.ref C) (.ref D)==ar (vp n y)
   |_=>dr)
 |_=>dr
def mw(K:dn):Bool:=c9.all (Aj K) && y1 K (.type "NoneType") (.type "ValueError")==ar dr
structure ErrAt(K:dn)(n:Str)(C:cq):Prop where
 ns:pd K g_ n=ar (ar (.ref C))
 ck:ExcC K C
 pl:n="TooGreat"\/Os K C Gb "ValueError.__new__"=b'
 ve:y1 K (.ref C) (.type "ValueError")=ar b'
 nn:y1 K (.type "NoneType") (.ref C)=ar dr
 sub:∀y∈c9,∃D,pd K g_ y=ar (ar (.ref D))/\y1 K (.ref C) (.ref D)=ar (vp n y)/\Ox K (.ref C) (.ref D)=ar (vp n y)
theorem nS{K:dn}(h:mw K=b'){n:Str}(Y:n∈c9):∃C,ErrAt K n C:=by
 unfold mw at h;rw[KU]at h;have Z:=Kt.mp h.1 n Y;unfold Aj at Z;split at Z
 ·next C e=>
  simp only[i_,MK,beq_iff_eq,H_]at Z;obtain⟨⟨⟨⟨a1,a2⟩,X⟩,S⟩,T⟩:=Z;refine⟨C,e,.of a1,a2,X,S,λy U=>?_⟩;have:=T y U;split at this
  ·next D eD=>
   simp only[i_,beq_iff_eq]at this;exact⟨D,eD,this.1,this.2⟩
  ·cases this
 ·cases Z
theorem CC{K:dn}(X:K.In h)(q:Os K C Gb "ValueError.__new__"=b'):∃bm N nm qn bs hdct sn sub ab col dd k0 k1 k2 k3 k5 mN,
  h.get? C=ar (u_ nm qn C N bs bm hdct sn sub ab col dd k0 k1 k2 k3 k5 "ValueError.__new__")/\h.Ns N mN/\mN "__init__"=aC/\N6 h Gb bm:=by
 unfold Os at q;split at q
 case h_2=>cases q
 case h_1 dd cd T ho=>
 split at q
 case h_2=>cases q
 case h_1 C' bm k0 k1 k2 k3 n k5 hm hs=>
 simp only[i_,beq_iff_eq,Bool.not_eq_true']at q;obtain⟨⟨⟨⟨⟨S,en⟩,Z⟩,R⟩,Y⟩,U⟩:=q;subst S en;rcases cd with⟨nm,bs,mro,ns,qn,hd,sn,sub,ab,col,del⟩;dsimp only at hm Z Y U;subst hm Z;obtain rfl:T= #[k0,k1,k2,k3,ar (.builtin "ValueError.__new__"),k5]:=by rcases T with⟨l⟩;simp only at hs;rw[hs]
 exact⟨bm,ns,nm,qn,bs,hd,sn,sub,ab,col,dd,k0,k1,k2,k3,k5,_,X _ _ ho,.of_isNs (W.isNs_of_in X Y),W.nsMap_none_of_in X Y U,W.tail_of_in X R⟩
section
variable {X:Cx}{Ek:XK}{E:XD}
theorem nU(L:Leaves X Ek)(o:X.calm=b')(m:mw X.K=b')(n:x∈c9)(G:x≠"TooGreat")(f:SA X (vo X.K Ek) (e::es) ms)(i:Gl X x:=by rfl)
  (Q:(x==("__debug__":Str))=false:=by decide) (y:dt (e::es) X.env=(dr,i4 e X.env)::dt es X.env:=by rfl) (P:(lx cpos (dt es X.env)).any (·.1)=false:=by rfl):
  SS X (vo X.K Ek) (.Raise (ar (.Call (.Name x np) (e::es) [] cpos)) aC pos) (λρ=>do let ds<-ms ρ;if ds.length<=lim then M.raise (.exc x [])else M.fail):=by
 intro pins s σ H T I h;obtain⟨r,S,ρ,rep,re,c⟩:=h;obtain⟨C,R⟩:=nS m n;have b:=R.pl.resolve_left G;have hm:X.mg x=ar (.ref C):=Li I.mod.kin I.mod.glob R.ns;obtain⟨bm,N,nm,u,bs,hdct,sn,sub,ab,col,dd,k0,k1,k2,k3,k5,mN,j,k,J,w⟩:=CC I.mod.kin b;refine wpAny_Raise_call_subU (k5:=k5) (k3:=k3) (k2:=k2) (k1:=k1) (k0:=k0) (nm:=nm) (q:=u) (C:=C) (N:=N) (bm:=bm) (bs:=bs) (hdct:=hdct) (sn:=sn) (sub:=sub) (ab:=ab) (col:=col) (dd:=dd) Lc (by decide) Lc (mN:=mN) (w.hasType PySem.F.excBase_ValueError.hasBase) (I.ok.hd o) (by rw[y];show(dr||(lx cpos (dt es X.env)).any (·.1))=dr;rw[P];rfl) J (jx I i hm ⟨rfl,?_⟩ Q);have Y:=f cpos pins s σ H _ I ⟨r,S,ρ,rep,re,ao (ag c) λds Z S1 W e1 rep1 c1 vs O=>(⟨Z,S1,ds,rep1,O,c1⟩:∃Z S1 ds,Rep X.K Z W S1/\RelDs X.K Z W ds vs/\cont X.K (vo X.K Ek) (if ds.length<=lim then M.raise (.exc x [])else M.fail) Z S1 W _)⟩;rw[y]at Y⊢;refine Mg (Kb Y (λus s2 B=>?_) λ_ _ z=>z);obtain⟨vs,W,U,v,Z,S1,ds,rep1,O,c1⟩:=B;by_cases hl:ds.length<=lim
 ·rw[if_pos hl]at c1;refine⟨rfl,?_,U.bk _ _ j,k.keeps U.bk,w.keeps U.bk,λh' ea hm=>?_⟩
  ·show us.length<=sizeLine;rw[<-v.length, <-O.length];exact JX hl ft
  ·obtain⟨t,l,h2,a⟩:=hm.there;have p:L2.Inv X pins σ W {s2 with heap:=h'}:=U.kept (t':=s2.toks) hm.keeps;have A:=U.base;rw[L.ex]at A;obtain⟨r',S',g,d⟩:=c1;cases g;refine L.new p l rfl rfl rfl rfl (fY.gone U.hok hm.new) (Un.gone A (by simp) hm.new) (d Z W .refl rep1 _ _ ⟨x,[],C,rfl,R.ns,rfl,.inl ⟨rfl,rfl⟩⟩)
 ·rw[if_neg hl]at c1;exact(ah c1).elim
def G9(f:Str->Bool):D->M D
 | .exc n _=>if n∈c9 then a_ (.bl (f n))else M.fail
 | .non=>a_ (.bl dr)
 |_=>M.fail
end
section
variable {P:d_}{w:ee}{K:dn}{mg:Str->Option b_}{base:f'}{N:List Str}{ql:Str}{scope:Scope}{f c':cq}{cl:List (Str×cq)}{params:Nu}{body:Expr}{pm ctv:b_}
structure Caps(base:f')(scope:Scope)(cl:List (Str×cq))(N:List Str)(vs:List V):Prop where
 kind:scope.kind= .function
 nocell:∀y∈scope.names,y.2≠ .cell
 co:scope.isCoroutine=dr
 gen:scope.isGenerator=dr
 inj:∀x y c,cl.lookup x=ar c->cl.lookup y=ar c->x=y
 has:∀x,scope.names.lookup x=ar .free->∃c,cl.lookup x=ar c
 cell:∀x c,cl.lookup x=ar c->∃v,base.IsCell c v
 len:vs.length=N.length
 val:∀(i:Nat) (x:Str) (v:V),N[i]? =ar x->vs[i]? =ar v->scope.names.lookup x=ar .free/\∃c u,cl.lookup x=ar c/\RelV v u/\base.IsCell c (ar u)
def JJ(K:dn)(c':cq)(ql:Str)(ds:List D)(vs:List V)(m:TM):Hp->VK->XK->Prop:=λH Q Ek=>
 ∃ ι S,Rep K ι H S/\H c'=ar (.ext (Cp ql c'))/\RelDs K ι H ds vs/\cont K (vo K Ek) (m (ds.map ar)) ι S H (mq K Q)
end
section
variable {X:Cx}{E:XD}{k i jn jy:Nat}{a c':cq}{ql:Str}{ds:List D}{vs:List V}{m:TM}{x n y:Str}{p cpos epos np p1 p2 p3 hpos tpos:Pos}
end
structure LamScope(X:Cx)(scope:Scope)(N3:List Str)(js:List Nat):Prop where
 kind:scope.kind= .function
 nocell:∀y∈scope.names,y.2≠ .cell
 co:scope.isCoroutine=dr
 gen:scope.isGenerator=dr
 free:∀y∈scope.names,y.2= .free->X.env.kindOf y.1=ar .cell\/X.env.kindOf y.1=ar .free
 len:js.length=N3.length
 ix:∀(i:Nat) (x:Str) (j:Nat),N3[i]? =ar x->js[i]? =ar j->X.N[j]? =ar x/\scope.names.lookup x=ar .free
def Ha(K:dn)(R:D->M D->List D->M D)(a c':cq)(ql:Str)(ds:List D)(vs:List V)(m:TM):Sp:=λus H Q _=>
 ∃ ι S rest es,us= .ref a::rest/\Rep K ι H S/\H c'=ar (.ext (Cp ql c'))/\RelDs K ι H ds vs/\RelDs K ι H es rest/\cont K bX (R (.fn a c' ql ds vs) (m (ds.map ar)) es) ι S H (mq K Q)
structure RefX(P:d_)(w:ee)(K:dn)(mg:Str->Option b_)(k k0:Nat)(x:Str)(ps:List Str)(R:D->M D->List D->M D):Prop where
 ex:∃fr fd,mg x=ar (.ref fr)/\rA K (.ref fr)=b'/\Binds K fd ps []/\∀base,Mod K mg base->∀a c' ql ds vs m,LamOk P w K mg base k0 a (JJ K c' ql ds vs m)->FnOk P w K mg base (lO P w) k fr fd ps (Ha K R a c' ql ds vs m)
section
variable {X:Cx}{pins:List (cq×Obj)}{σ:L2.St}{H:Hp}{s:c_}
end
section
variable {X:Cx}{x xl ql:Str}{k k0:Nat}{ps N3:List Str}{js:List Nat}{R:D->M D->List D->M D}{R':M D->List D->M D}{params:Nu}{body:Expr}{scope:Scope}{lpos p pos:Pos}{es:List Expr}{ms:aA->M (List D)}{m:TM}{c P:cq}
end
def jb(K:dn):List Addr:=cF.filterMap λy=>(lk K y).map (·.2)
theorem yc{K:dn}{y:Str}{c P:cq}(Z:y∈cF)(e:lk K y=ar (c,P)):P∈jb K:=Le.mpr ⟨y,Z,by rw[e];rfl⟩
theorem tx{K:dn}{P:cq}(h:P∈jb K):∃y c,y∈cF/\lk K y=ar (c,P):=by
 obtain⟨y,Z,e⟩:=Le.mp h;cases q:lk K y with
 |none=>rw[q]at e;cases e
 |some p=>rw[q]at e;cases e;exact⟨y,p.1,Z,q⟩
theorem CD{K:dn}{mb:Str->Option b_}{sp:Sp}{Z:c_}{vs:List b_}
  (KX:K.In Z.heap) (nt:Oy K=b') (a4:Z.heap.Ns g_ mg) (hb:Z.heap.Ns s_ mb) (l:∀x:Str,x≠"__name__"->mb x=k4 x) (C:Z.heap.NoLimit) (hg:Z.gens= #[])
  (n:∃bm J,mg "__builtins__"=ar (.ref bm)/\bm≠s_/\Z.heap.get? bm=ar J/\J.cls= .type "module"/\J.dict=ar s_/\J.data= .plain)
  (U:∀y∈cF,∀c Q,lk K y=ar (c,Q)->NP Z.heap c Q/\Z.heap.get? Q=ar (C_ #[]))
  (G:Z.heap.get? a=ar {cls:=.type "list",data:=.seq vs.toArray}) (hi:la vs ns) (hl:ns.length<=sizeLine) (hr:Room k v')
  (F:∀base:f',Mod K mg base->BaseL K mg base->FnOk P w K mg base (lO P w) k fa fd [x] sp) (O:∀(s:c_) (u:b_),EW s fd ⟨[u],[]⟩ [(x,u)])
  (i:∀H:Hp,TabsOk K H->BS K H a (ns.map V.int)->sp [.ref a] H (λv _=>v= .bl b') λ_ _ _=>False):
  r_ (e_ P w) v' (.call (.ref fa) ⟨[.ref a],[]⟩) (λr s'=>r= .ok (.ret (.bool b'))/\OldK Z.heap s'.heap/\s'.os=Z.os/\w_ s'.gens) Z:=by
 have rv:=jz hi;have X:∀Q∈jb K,Z.heap.get? Q=ar (C_ #[]):=λQ hQ=>let ⟨y,c,N,e⟩:=tx hQ;(U y N c Q e).2;have aT:a∉jb K:=λz=>by have:=X a z;rw[G]at this;cases this
 let H:Hp:=λb=>if b∈jb K then ar (.tbl #[])else if b=a/\K.lookup a=aC then ar (.frz {cls:=.type "list",data:=.seq vs.toArray} (.lst (ns.map V.int)))else aC;have f:∀b∈jb K,H b=ar (.tbl #[]):=λb z=>if_pos z;have I:∀b,b∉jb K->H b=if b=a/\K.lookup a=aC then ar (.frz {cls:=.type "list",data:=.seq vs.toArray} (.lst (ns.map V.int)))else none:=λb z=>if_neg z;have free:∀{b:cq} {o:Obj},Z.heap.get? b=ar o->o≠C_ #[]->(o.cls≠ .type "list"\/K.lookup b=ar o)->H b=none:=λ{b o} e n1 S=>by
  have z:b∉jb K:=λz=>by have:=X b z;rw[e]at this;exact n1 (Ka this)
  rw[I b z,if_neg];rintro⟨rfl,kn⟩;rcases S with S|S
  ·rw[G]at e;cases e;exact S rfl
  ·rw[kn]at S;cases S
 have R:∀{b:cq} {o:Obj},K.lookup b=ar o->o≠C_ #[]:=λ{b o} e z=>by have p:=Kt.mp nt (b,o) (W.mem_of_lookupK e);subst z;exact absurd (show dr=b' from p) KL
 have E:fY P w H Z.heap:=λb u e=>by
  by_cases z:b∈jb K
  ·rw[f b z]at e;cases e;exact X b z
  ·rw[I b z]at e;by_cases q:b=a/\K.lookup a=aC
   ·rw[if_pos q]at e;cases e;obtain⟨rfl,_⟩:=q;exact⟨G,by rw[JN];exact hl,vs,_,rv,G⟩
   ·rw[if_neg q]at e;cases e
 have Y:∀{b:cq} {o:Obj},Z.heap.get? b=ar o->o≠C_ #[]->(o.cls≠ .type "list"\/K.lookup b=ar o)->(jT Z.heap H).get? b=ar o:=λe n1 S=>m9 e (free e n1 S);have L:∀{b:cq} {m:Str->Option b_},Z.heap.Ns b m->(jT Z.heap H).Ns b m:=λ{b m} ⟨o,es,ep,e,d,r⟩=>by
  have z:H b=none:=by
   by_cases zt:b∈jb K
   ·have:=X b zt;rw[e]at this;cases this;cases d
   ·rw[I b zt,if_neg];rintro⟨rfl,_⟩;rw[G]at e;cases e;cases d
  exact⟨o,es,ep,m9 e z,d,r⟩
 have g:K.In (jT Z.heap H):=λb o e=>Y (KX b o e) (R e) (.inr e);have hM:Mod K mg (jT Z.heap H):=⟨g,L a4,⟨mb,L hb,l⟩,let ⟨mc,h1,p⟩:=C;⟨mc,L h1,p⟩⟩;have hB:BaseL K mg (jT Z.heap H):=by
  refine⟨?_,λy N c Q e=>?_⟩
  ·obtain⟨bm,J,b1,b2,b3,A,b5,b6⟩:=n;exact⟨bm,J,b1,b2,Y b3 (λz=>by rw[z]at A;cases A) (.inl (by rw[A];decide)),A,b5,b6⟩
  ·obtain⟨o,v2,file,tf,flags,tg,j,text,tt,e1,t,r⟩:=(U y N c Q e).1;exact⟨o,v2,file,tf,flags,tg,j,text,tt,Y e1 (λz=>by rw[z]at t;cases t) (.inl (by rw[t];decide)),t,r⟩
 have e0:L2.aA P w K mg (jT Z.heap H) v' [] Z H:=⟨rfl,hM,λb o e=>v7 e,Lz (pI _ _),trivial,λb hb=>absurd (show b∈([]:List cq)from hb) (by simp),E,.of_eq hg⟩;have a3:TabsOk K H:=λy N c Q e=>⟨#[],f Q (yc N e),trivial,λpos cv q=>by cases q⟩;have B:BS K H a (ns.map V.int):=by
  cases hk:K.lookup a with
  |some o=>
   have e:=KX a o hk;rw[G]at e;cases e;exact .inr ⟨_,vs.toArray,_,hk,rfl,rfl,rfl,by rw[JY,hi.length];exact hl,by simpa using rv⟩
  |none=>exact .inl ⟨_,by rw[I a aT,if_pos ⟨rfl,hk⟩]⟩
 refine L9 ((F _ hM hB).run v' [] Z H ⟨[.ref a],[]⟩ [.ref a] [.ref a] _ _ hr e0 (O Z (.ref a)) (.cons rfl .nil) (i H a3 B)) λr s' h=>?_;cases r with
 |error e=>obtain⟨_,_,_,_,_,_,_,_,_,_,_,_,_,_,_,z⟩:=h;exact iA z
 | ok fl=>
  cases fl with
  |next=>exact iA h
  |brk=>exact iA h
  |cont=>exact iA h
  | ret u=>
   obtain⟨v,H',os,bare,un,T,r',q⟩:=h;have q':v= .bl true:=q;subst q';obtain rfl:u=sh true:=r';refine⟨rfl,⟨λb o e=>?_,λb o e=>un.there b o e (by simp)⟩,os,bare⟩;by_cases zt:b∈jb K
   ·obtain⟨y,c,N,et⟩:=tx zt;obtain⟨hc,hP⟩:=U y N c b et;obtain⟨more,em⟩:=un.tbls b _ (f b zt);have o2:s'.heap.get? b=ar {cls:=.none,data:=.fields (#[]++more)}:=T b _ em;rw[hP]at e;cases e;exact .inr (.inl ⟨(hc.tab hP).isCodeTable,rfl, #[],more,rfl,o2⟩)
   ·by_cases qa:b=a/\K.lookup a=aC
    ·have z1:H b=ar (.frz {cls:=.type "list",data:=.seq vs.toArray} (.lst (ns.map V.int))):=by rw[I b zt,if_pos qa]
     obtain⟨e2,_⟩:=T b _ (un.frzs b _ _ z1);obtain⟨e1,_⟩:=E b _ z1;rw[e]at e1;cases e1;exact .inl e2
    ·exact .inl (un.keep b o e (by rw[I b zt,if_neg qa]) (by intro z;exact absurd (show b∈([]:List cq)from z) (by simp)) (by simp))
theorem Ak{l:Om}{YP:ee->f'->Prop}{d:Oz}{K:M'->dn}{sp:ee->Sp}
  (j:l.most=ar n) (N:n<=sizeLine) (P:d.params.defaults=[]) (t:Room k v')
  (E:∀(w:ee) (h:f'),YP w h->(K w.params).In h) (m:∀w:ee,Oy (K w.params)=b')
  (X:∀(w:ee) (h:f'),YP w h->∀y∈cF,∀c Q,lk (K w.params) y=ar (c,Q)->NP h c Q/\h.get? Q=ar (C_ #[]))
  (F:∀(w:ee) (Z:Str->Option b_) (S:cq) (h:f'),(K w.params).In h->h.Ns g_ Z->Z d.name=ar (.ref S)->
   ∃fd:f_,(∀(s:c_) (u:b_),EW s fd ⟨[u],[]⟩ [(x,u)])/\
    ∀base:f',Mod (K w.params) Z base->BaseL (K w.params) Z base->FnOk l.prog w (K w.params) Z base (lO l.prog w) k S fd [x] (sp w))
  (O:∀(w:ee) (H:Hp) (a:cq) (ns:List Int),ns.length<=n->TabsOk (K w.params) H->BS (K w.params) H a (ns.map V.int)->sp w [.ref a] H (λv _=>v= .bl b') λ_ _ _=>False):
  OF q loose XP YP l.row.toRowW d [] (λf vs=>PySem.call f vs):=by
 refine Att.attach_call j P λw s₀ L Z i S o pm cd doc a vs ns G Y ho hd B R U hints hlen C=>?_;have J:=E w _ Y;obtain⟨fd,A,p⟩:=F w Z S _ J G.T.g R;refine CD J (m w) G.T.g G.T.b G.T.builtins G.T.nolimit C G.T.bmain (λy r c Q e=>X w _ Y y r c Q e) U hints (JX hlen N) t p A λH I z=>O w H a ns hlen I z
def Hb(K:dn)(ts:List cq):Bool:=cF.all λy=>match lk K y with
 |some (c,Q)=>W.codeHdIn K c Q && ts.contains Q
 |none=>b'
theorem IZ{K:M'->dn}{e:∀P,as=(K P).map (·.1)}{w:ee}(X:Hb (K w.params) ts=b')(Y:(W.kmHook K as e ts).says w h):
  ∀y∈cF,∀c Q,lk (K w.params) y=ar (c,Q)->NP h c Q/\h.get? Q=ar (C_ #[]):=λy U c Q Z=>by
 have:=Kt.mp X y U;rw[Z]at this;simp only[i_]at this;exact⟨W.codeHd_of_K (W.km_in_of Y) this.1,W.km_tabs_of Y Q (List.contains_iff_mem.mp this.2)⟩
def DG(K:dn):Bool:=cF.all λx=>cF.all λy=>match lk K x,lk K y with
 |some (_,P),ar (_,Q)=>P !=Q||x==y
 |_,_=>b'
theorem Fg{K:dn}(h:DG K=b'):Ag K:=λx Y y Z c d P e1 e2=>by have:=Kt.mp (Kt.mp h x Y) y Z;rw[e1,e2]at this;simpa using this
def mJ(N n:Nat)(m:cT):List D->M D:=mR N n (λρ=>ja (m ρ))
section
variable {P:d_}{w:ee}{K:dn}{mg:Str->Option b_}{base:f'}
theorem cu{x qual:Str}{X:nf}{f:cq}{T:f_}{N U:List Str}{k:Nat}{m:cT}{S:List D->M D}(F:Fun K x qual X f T)(J:mg x=ar (.ref f))(R:Binds K T U [])(L:FnScope N U (ak X))(I:S=mJ N.length U.length m)
  (Y:∀(Z:b_) (A:iB) (outer:List Env) (s:c_) (H:Hp) (E:XK),Room k (A.deeper (A' qual (ak X) s.heap.objs.size f Z))->
   ux (lC (lO P w) P w K mg base N qual (ak X) f Z A outer s H E).nox bX (cO X) m):DefX P w K mg base (k+1) x U S:=
 ⟨f,T,by rw[I];exact Ff F L λZ A outer s H O Q _ _=>tw (wC (Y Z A outer s H O Q)),J,F.kp,R⟩
theorem eF{x qual:Str}{X:nf}{f:cq}{T:f_}{N U:List Str}{k:Nat}{m:cT}{S:List D->M D}(F:Fun K x qual X f T)(J:mg x=ar (.ref f))(R:Binds K T U [])(L:FnScope N U (ak X))(I:S=mR N.length U.length m)
  (Y:∀(Z:b_) (A:iB) (outer:List Env) (s:c_) (H:Hp) (E:XK),Room k (A.deeper (A' qual (ak X) s.heap.objs.size f Z))->
   ux (lC (lO P w) P w K mg base N qual (ak X) f Z A outer s H E) (vo K E) (cO X) m):DefX P w K mg base (k+1) x U S:=
 ⟨f,T,by rw[I];exact Ff F L λZ A outer s H O Q _ _=>Y Z A outer s H O Q,J,F.kp,R⟩
theorem CF{x y qual:Str}{f c N:cq}{S:b_}{O:Option cq}{X:Array (Option b_)}{kV U R Y ct J:b_}{Q:Option cq}{L:Nu}{bd:List nf}{I:Scope}(H:pd K g_ x=ar (ar (.ref f)))
  (T:K.lookup f=ar ⟨S,O,.func (w7 y qual L bd I J kV U R Q Y ct),X⟩) (Z:lk K x=ar (c,N)):Y= .ref c:=by
 unfold lk at Z;rw[H]at Z;dsimp only at Z;rw[T]at Z;dsimp only at Z;cases Y with
 | ref c2=>
  dsimp only at Z;split at Z
  ·split at Z
   ·cases Z;rfl
   ·cases Z
  ·cases Z
 |_=>cases Z
theorem Fh{x qual:Str}{Y:nf}{f:cq}{R:f_}{N T:List Str}{k:Nat}{m:cT}{S:List D->M D}{c B:cq}(F:Fun K x qual Y f R)(I:FnScope N T (ak Y))(G:S=mJ N.length T.length m)(z:pd K g_ x=ar (ar (.ref f)))(y:lk K x=ar (c,B))
  (Z:∀(A:iB) (outer:List Env) (s:c_) (H:Hp) (E:XK),Room k (A.deeper (A' qual (ak Y) s.heap.objs.size f (.ref c)))->
   ux (lC (lO P w) P w K mg base N qual (ak Y) f (.ref c) A outer s H E).nox bX (cO Y) m):FnOk P w K mg base (lO P w) (k+1) f R T (Ah K S):=by
 rw[G];refine Ff F I λU A outer s H J L _ X=>?_;obtain⟨v,u,Q,kV,doc,pm,an,ct,O⟩:=X;have C:U= .ref c:=CF z O y;subst C;exact tw (wC (Z A outer s H J L))
end
end S7
section
namespace S4
open PySem PySem.Spec PyProof.Rows
section
variable {prog:d_}{w:ee}{A:iB}{E:b_->c_->Prop}{s:c_}
end
end S4
namespace S3
open PySem PySem.Spec PyProof.Rows L2 S4
section
variable {X:Cx}{E:XD}{e:Expr}{m:TM}{pos:Pos}
theorem vt:∀{vs:List b_} {ns:List Int},la vs ns->∃xs:Array (Int×Tok),vs.toArray=intItems xs/\preSum (numAt xs) xs.size=ns.sum:=by
 intro vs ns h;obtain⟨xs,Z⟩:=h.allInts.items;refine⟨xs,Z,?_⟩;have:=h.numsOf;have e2:numsOf (intItems xs).toList=ns:=by rw[<-Z];exact this
 rw[nums_intItems]at e2;rw[preSum_eq,L5 (by simp)];rw[<-e2]
theorem yd(T:X.calm=b'):dM X (.builtin "sum") (λxs H Q=>∃(p:cq) (ns:List Int),xs=[.ref p]/\iR X.K H p (ns.map V.int)/\Q (.int ns.sum) H):=by intro pins s σ H xs us Q I r h;obtain⟨p,ns,rfl,R,q⟩:=h;obtain⟨u,rfl,P⟩:=vals1 r;cases (show u=hF p from P);obtain⟨its,Y,W,O⟩:=I.list R;obtain⟨xs,e1,e2⟩:=vt (MJ Y);have Z:=W.isList;rw[e1]at Z;refine sum_intListG (I.ok.hd T) Z λh' S t' U=>⟨.int ns.sum,H,I.kept (t':=S) U,⟨t',?_⟩,q⟩;rw[e2]
def ye:List D->M D
 |[.lst k]=>do
  let xs<-getL k
  match intsOf xs with
  |some ns=>a_ (.int ns.sum)
  |none=>M.fail
 |[.fz xs]=>match intsOf xs with
  |some ns=>a_ (.int ns.sum)
  |none=>M.fail
 |_=>M.fail
theorem yf:iZ X.K E ye (λxs H Q=>∃(p:cq) (ns:List Int),xs=[.ref p]/\iR X.K H p (ns.map V.int)/\Q (.int ns.sum) H):=by
 intro P S H ds vs Q rep r c;unfold ye at c;split at c
 ·next k=>
  obtain⟨v,ws,rfl,U,T⟩:=r.cons_inv;cases T.nil_inv;obtain⟨p,rfl,Y⟩:=U.lst_inv;obtain⟨es,us,_,R,W,Z⟩:=ba c rep Y;cases q:intsOf es with
  |none=>rw[q]at Z;exact(ah Z).elim
  |some ns=>
   rw[q]at Z;refine⟨p,ns,rfl,.of ?_,ai Z .refl rep _ (.int _)⟩;rw[<-d8 W q];exact R
 ·next es=>
  obtain⟨v,ws,rfl,U,T⟩:=r.cons_inv;cases T.nil_inv;obtain⟨p,o,us,rfl,Y,W⟩:=U.fz_inv;cases q:intsOf es with
  |none=>rw[q]at c;exact(ah c).elim
  |some ns=>
   rw[q]at c;refine⟨p,ns,rfl,.inl (.inr ⟨o,?_⟩),ai c .refl rep _ (.int _)⟩;rw[<-d8 W q];exact Y
 ·exact(ah c).elim
theorem Al(U:X.calm=b')(W:X.mg "sum"=aC)(Z:SE X E e m)(Y:Gl X "sum":=by rfl)(hs:dt [e] X.env=[(dr,i4 e X.env)]:=by rfl):SE X E (.Call (.Name "sum" p) [e] [] pos) (bI ye m):=
 gc (yd U) yf Y W (by decide+kernel) (af Z av hs) (by decide) (by decide) hs rfl
def distinct(ns:List Int):List Int:=firstMet (λi=>ns.getD i 0) ns.length
end
end S3
end
namespace S4
open PySem PySem.Spec PyProof.Rows L2 S3
def CG(l1 l2:cq):It:=⟨λi H=>∃va vb,Rd H l1 (.lst va)/\Rd H l2 (.lst vb)/\i<va.length/\i<vb.length,
 λi H x H'=>∃va vb p u v,Rd H l1 (.lst va)/\Rd H l2 (.lst vb)/\H p=aC/\va[i]? =ar u/\vb[i]? =ar v/\x= .ref p/\H'=upd H p (.tup [u,v]),λi H=>∃va vb,Rd H l1 (.lst va)/\Rd H l2 (.lst vb)/\(va.length<=i\/vb.length<=i)⟩
theorem yg{P:d_}{w:ee}{K:dn}{A:List Expr}{x1}{tp:Pos}{z TI TO Q N l1 l2:cq}(D:Og z TI TO Q N l1 l2):
  Turn P w K (.Tuple A x1 tp) (CG l1 l2) [z,TI,TO,Q,N] z
   (λi h=>J' h z TI TO .none/\m_ h TI (.ref Q) (.ref N)/\(∃a b,m_ h TO a b)/\h.IsListIter Q l1 i/\h.IsListIter N l2 i) where
 mem:=by simp
 obj:=λi h st b Z=>by
  obtain⟨S,Y,⟨a,c,U⟩,⟨o1,e1,c1,d1⟩,⟨o2,e2,c2,d2⟩⟩:=st;simp only[hO,hh,or_false]at Z;rcases Z with rfl|rfl|rfl|rfl|rfl
  ·exact⟨_,S,λv z=>by cases z⟩
  ·exact⟨_,Y,λv z=>by cases z⟩
  ·exact⟨_,U,λv z=>by cases z⟩
  ·exact⟨_,e1,λv z=>by rw[d1]at z;cases z⟩
  ·exact⟨_,e2,λv z=>by rw[d2]at z;cases z⟩
 keep:=λi h h' st k=>by obtain⟨S,Y,⟨a,c,U⟩,G,J⟩:=st;exact⟨k z (by simp) _ S,k TI (by simp) _ Y,⟨a,c,k TO (by simp) _ U⟩,G.at λo e=>k Q (by simp) o e,J.at λo e=>k N (by simp) o e⟩
 item:=by
  intro X j hw hK hc i pins s σ H E I hf st hg;subst j hw hK;obtain⟨S,Y,⟨a,c,U⟩,G,J⟩:=st;obtain⟨q,n,t,p,ga,gb⟩:=hg;obtain⟨u,L,p1,_⟩:=I.list (.inl t);obtain⟨C,O,p2,_⟩:=I.list (.inl p);obtain⟨u1,a9,b2⟩:=L.get (JP ga);obtain⟨m,f,l⟩:=O.get (JP gb);refine wpAny_pyNext_zip_item D S Y U G J p1.isList p2.isList (x:=u1) (y:=m) (by simpa using a9) (by simpa using f) λh' a1 a2 a3 a4 a5 a6 r=>?_;have b1:H s.heap.objs.size=none:=I.hok.fresh (JQ _);have lt:∀{c o},s.heap.get? c=ar o->s.heap.objs.size≠c:=λe=>LN (JU e);refine⟨_,rfl,MG a1 λR d T=>?_⟩;have F:m_ R TI (.ref Q) (.ref N):=T.extBut _ _ D.TIz (r _ _ D.TIz D.TITO D.TIi1 D.TIi2 Y);have kk:∀b o,b∉[z,TI,TO,Q,N]->s.heap.get? b=ar o->R.get? b=ar o:=λb o Z e=>by simp only[hO,hh,or_false,not_or]at Z;exact T.extBut _ _ Z.1 (r b o Z.1 Z.2.2.1 Z.2.2.2.1 Z.2.2.2.2 e)
  have B:m_ R s.heap.objs.size u1 m:=T.extBut _ _ (lt S) a5;have I2:L2.Inv X pins σ (upd H s.heap.objs.size (.tup [q[i],n[i]])) {s with heap:=R,toks:=s.toks}:=wA (o:=.tup [q[i],n[i]]) I hf kk (JQ _) ⟨⟨by show 2<=sizeLine;decide,_,B,rfl⟩,[u1,m],.cons b2 (.cons l .nil),_,B,rfl,_,rfl⟩;refine⟨.ref s.heap.objs.size,_,I2,rfl,
   ⟨q,n,_,_,_,t,p,b1,JP ga,JP gb,rfl,rfl⟩,⟨d,F,⟨_,_,T.extBut _ _ D.TOz a2⟩,a3.at λo e=>T.extBut _ _ D.i1z e,a4.at λo e=>T.extBut _ _ D.i2z e⟩,λb Z=>?_⟩
  obtain⟨ob,ho,_⟩:∃ob,s.heap.get? b=ar ob/\True:=by
   simp only[hO,hh,or_false]at Z;rcases Z with rfl|rfl|rfl|rfl|rfl
   ·exact⟨_,S,trivial⟩
   ·exact⟨_,Y,trivial⟩
   ·exact⟨_,U,trivial⟩
   ·obtain⟨o,e,_⟩:=G;exact⟨_,e,trivial⟩
   ·obtain⟨o,e,_⟩:=J;exact⟨_,e,trivial⟩
  rw[aK (J7 (JU ho))];exact(hf b Z).1
 done:=by intro X j hw hK hc i pins s σ H E I hf st hg;subst j hw hK;obtain⟨S,Y,⟨a,c,U⟩,G,J⟩:=st;obtain⟨q,n,t,p,gs⟩:=hg;obtain⟨u,L,p1,_⟩:=I.list (.inl t);obtain⟨C,O,p2,_⟩:=I.list (.inl p);have d3:=L.length;have e5:=O.length;refine wpAny_pyNext_zip_end (I.ok.hd hc) D S Y U G J p1.isList p2.isList (gs.imp (λg=>by simp;omega) λg=>by simp;omega) λh' r=>⟨rfl,wz (t':=s.toks) I hf λb o Z e=>?_⟩;simp only[hO,hh,or_false,not_or]at Z;exact r b o Z.1 Z.2.2.1 Z.2.2.2.1 Z.2.2.2.2 e
 self:=λ_ _ _ _ _ st h=>Mf st.1 h
theorem CH{X:Cx}{P:List Expr}{x1}{tp p pos:Pos}{es:List Expr}{e:Expr}{z:TA}(y:Gl X "zip")(v:X.mg "zip"=aC)(w:PA X (e::es) z)
  (x:dt (e::es) X.env=(dr,i4 e X.env)::dt es X.env:=by rfl) (C:(lx pos (dt es X.env)).any (·.1)=false:=by rfl):
  PI X (.Tuple P x1 tp) (.Call (.Name "zip" p) (e::es) [] pos) (λσ H R=>z σ H λxs Z=>(∃a b va vb,xs=[.ref a,.ref b]/\Rd Z a (.lst va)/\Rd Z b (.lst vb)/\R (CG a b) Z)\/
   (∃a b va vb,xs=[.ref a,.ref b]/\Z a=ar (.tup va)/\Z b=ar (.tup vb)/\
   R ⟨λi H=>(yW va vb).go i H/\(H a=ar (.tup va)/\H b=ar (.tup vb)),(yW va vb).yld,λi H=>(yW va vb).stop i H/\(H a=ar (.tup va)/\H b=ar (.tup vb))⟩ Z)):=by
 intro pins s σ H R I h;refine Call_ (lz I y v (show k4 "zip"=ar (.type "zip") by decide+kernel) (K5 (dq (w pos pins s σ H _ I h) λus s1 ⟨vs,Z,I1,r1,q1⟩=>?_) x C) (by decide) (by decide));have fresh:∀c∈[s1.heap.objs.size+4,s1.heap.objs.size+2,s1.heap.objs.size+3,s1.heap.objs.size,s1.heap.objs.size+1],s1.heap.objs.size<=c:=λc S=>by simp only[hO,hh,or_false]at S;omega
 rcases q1 with⟨a,b,va,vb,rfl,hA,hB,q⟩|⟨a,b,va,vb,rfl,hA,hB,q⟩
 ·obtain⟨u,B,rfl,G,U⟩:=vals2 r1;cases (show u=hF a from G);cases (show B=hF b from U);obtain⟨O,A,N,_⟩:=I1.list (.inl hA);obtain⟨L,E,K,_⟩:=I1.list (.inl hB);have a1:a<s1.heap.objs.size:=by obtain⟨_,e,_⟩:=N.isList;exact JU e
  have a2:b<s1.heap.objs.size:=by obtain⟨_,e,_⟩:=K.isList;exact JU e
  refine call_zip_2 N.isList K.isList λh' J T Y W Q _ F=>Mf J ?_;exact⟨s1.heap.objs.size+4,_,_,_,Z,rfl,I1.kept (t':=s1.toks) F,yg (zipApart_new a1 a2),⟨J,T,⟨_,_,Y⟩,W,Q⟩,λc S=>I1.fpOk (fresh c S) (I1.hok.fresh (fresh c S)),q⟩
 ·obtain⟨u,B,rfl,G,U⟩:=vals2 r1;cases (show u=hF a from G);cases (show B=hF b from U);obtain⟨O,A,N,_⟩:=I1.tuple (.of hA);obtain⟨L,E,K,_⟩:=I1.tuple (.of hB);have a1:a<s1.heap.objs.size:=by obtain⟨_,e,_⟩:=N;exact JU e
  have a2:b<s1.heap.objs.size:=by obtain⟨_,e,_⟩:=K;exact JU e
  refine xY N K λh' J T Y W Q F=>Mf J ?_;exact⟨s1.heap.objs.size+4,_,_,_,Z,rfl,I1.kept (t':=s1.toks) F,Ab (zipApart_new a1 a2) (λH=>H a=ar (.tup va)/\H b=ar (.tup vb)) (λ_=>.rfl),⟨J,T,⟨_,_,Y⟩,W,Q⟩,λc S=>I1.fpOk (fresh c S) (I1.hok.fresh (fresh c S)),q⟩
theorem Rd.lst_inj(h:Rd H a (.lst xs))(h':Rd H a (.lst ys)):xs=ys:=by rcases h with h|⟨o,h⟩<;>rcases h' with h'|⟨o',h'⟩<;>(rw[h]at h';cases h'<;>rfl)
def zL:D->M (List D×Option (Nat×List D))
 | .lst k=>do let xs<-getL k;a_ (xs,ar (k,xs))
 | .fz xs=>a_ (xs,aC)
 |_=>M.fail
def Fi:Option (Nat×List D)->Option (Nat×List D)->Chk
 |some (k,xs),ar (j,ys)=>.two k j xs ys
 |some (k,xs),aC=>.two k k xs xs
 |none,ar (j,ys)=>.two j j ys ys
 |none,aC=>.none
def Am:List D->M Iter
 |[.tup xs,.tup ys]=>a_ ⟨(xs.zip ys).map λp=>.tup [p.1,p.2],.none⟩
 |[a,b]=>do let x<-zL a;let y<-zL b;a_ ⟨(x.1.zip y.1).map λp=>.tup [p.1,p.2],Fi x.2 y.2⟩
 |_=>M.fail
structure ZOk(K:dn)(x:List D×Option (Nat×List D))(a:cq)(ι:List cq)(H:Hp):Prop where
 ok:∀ ι2 H2 S2,ExtN ι H ι2 H2->Rep K ι2 H2 S2->(∀k xs,x.2=ar (k,xs)->S2[k]? =ar xs)->∃va,Rd H2 a (.lst va)/\RelDs K ι2 H2 x.1 va
theorem An{K:dn}{E:XD}{X:List cq}{S:aB}{H:Hp}{d:D}{v:V}{α:Type}{f:List D×Option (Nat×List D)->M α}{Q:α->List cq->aB->Hp->Prop}(Z:Rep K X H S)(r:RelD K X H d v)(c:cont K E (zL d>>=f) X S H Q):
  ∃a x T,v= .ref a/\Rd H a (.lst T)/\ZOk K x a X H/\cont K E (f x) X S H Q:=by
 cases d with
 | lst k=>
  obtain⟨a,rfl,Y⟩:=r.lst_inv;have N:cont K E (getL k>>=λxs=>a_ (xs,ar (k,xs))>>=f) X S H Q:=by rw[<-eg];exact c
  obtain⟨xs,vs,F,I,R,P⟩:=ba N Z Y;rw[aj]at P;refine⟨a,(xs,ar (k,xs)),vs,rfl,.inl I,⟨λU G O e rep2 ok=>?_⟩,P⟩;obtain⟨T,L,J⟩:=rep2.get k a xs (e.at Y) (ok k xs rfl);exact⟨T,.inl L,J⟩
 |fz xs=>
  obtain⟨a,o,vs,rfl,Y,R⟩:=r.fz_inv;refine⟨a,(xs,aC),vs,rfl,.inr ⟨o,Y⟩,⟨λU G O e rep2 ok=>?_⟩,ai (ag c) .refl Z⟩;exact⟨vs,.inr ⟨o,(e.oth _ _ Y (Z.notIn Y (by intro _ z;cases z)) (by intro _ z;cases z) (by intro _ z;cases z)).1⟩,R.laterN Z e⟩
 |_=>exact(ah (ag c)).elim
theorem CI(h:Iter.okS ⟨items,Fi x y⟩ S):(∀k xs,x=ar (k,xs)->S[k]? =ar xs)/\∀k xs,y=ar (k,xs)->S[k]? =ar xs:=by
 match x,y,h with
 |some (k,xs),ar (j,ys),h=>exact⟨λ_ _ e=>(by cases e;exact h.1),λ_ _ e=>(by cases e;exact h.2)⟩
 |some (k,xs),aC,h=>exact⟨λ_ _ e=>(by cases e;exact h.1),λ_ _ e=>(by cases e)⟩
 |none,ar (j,ys),h=>exact⟨λ_ _ e=>(by cases e),λ_ _ e=>(by cases e;exact h.1)⟩
 |none,aC,h=>exact⟨λ_ _ e=>(by cases e),λ_ _ e=>(by cases e)⟩
theorem tD{K:dn}{R:List cq}{H:Hp}{a b:cq}{x y:List D×Option (Nat×List D)}(A:ZOk K x a R H)(B:ZOk K y b R H):
  ir K ⟨(x.1.zip y.1).map λp=>.tup [p.1,p.2],Fi x.2 y.2⟩ (CG a b) R H:=by
 intro Z S L e rep2 ok i;obtain⟨O,P⟩:=CI ok;obtain⟨I,Y,T⟩:=A.ok Z S L e rep2 O;obtain⟨G,X,U⟩:=B.ok Z S L e rep2 P;have s:=T.length;have w:=U.length;refine⟨λd hd=>?_,λhlen=>?_⟩
 ·obtain⟨n,t,N,J,rfl⟩:=zip_get hd;have r:=(JV.mp N).1;have o:=(JV.mp J).1;refine⟨⟨I,G,Y,X,by omega,by omega⟩,?_⟩;rintro v H3 ⟨va',vb',p,u,E,gA,gB,hp,g1,g2,rfl,rfl⟩;cases Rd.lst_inj Y gA;cases Rd.lst_inj X gB;obtain⟨v1,e1,F⟩:=T.get' N;obtain⟨v2,e2,C⟩:=U.get' J;obtain rfl:v1=u:=Ka (e1.symm.trans g1);obtain rfl:v2=E:=Ka (e2.symm.trans g2);have Q:Ext Z S Z (upd S p (.tup [v1,v2])):=ie hp;exact⟨Q,kA rep2 hp,.tup aY (.cons (F.later rep2 Q) (.cons (C.later rep2 Q) .nil))⟩
 ·have q:min x.1.length y.1.length<=i:=by simpa using hlen
  refine⟨I,G,Y,X,?_⟩;rcases Nat.le_total x.1.length y.1.length with z|z
  ·exact .inl (by omega)
  ·exact .inr (by omega)
theorem CJ{X:Cx}{x1}(k:X.mg "zip"=aC)(q:SE X E a m)(u:SE X E b n)(z:Gl X "zip":=by rfl)
  (hs:dt [a,b] X.env=[(dr,i4 a X.env),(dr,i4 b X.env)]:=by rfl) (W:dt [b] X.env=[(dr,i4 b X.env)]:=by rfl):
  SI X E (.Tuple elts x1 tp) (.Call (.Name "zip" p) [a,b] [] pos) (λρ=>do let ds<-(do let x<-m ρ;let xs<-(do let y<-n ρ;let ys<-a_ [];a_ (y::ys));a_ (x::xs));Am ds):=by
 intro pins s σ H R I h;have O:PI X (.Tuple elts x1 tp) (.Call (.Name "zip" p) [a,b] [] pos) (λσ H R=>IM X.K E (ae m (ae n aw)) σ H λxs U=>(∃a b Z Y,xs=[.ref a,.ref b]/\Rd U a (.lst Z)/\Rd U b (.lst Y)/\R (CG a b) U)\/
   (∃a b Z Y,xs=[.ref a,.ref b]/\U a=ar (.tup Z)/\U b=ar (.tup Y)/\
   R ⟨λi H=>(yW Z Y).go i H/\(H a=ar (.tup Z)/\H b=ar (.tup Y)),(yW Z Y).yld,λi H=>(yW Z Y).stop i H/\(H a=ar (.tup Z)/\H b=ar (.tup Y))⟩ U)):=
  CH z k (af q (af u av (by rw[W];rfl)) (by rw[hs,W])) (by rw[hs,W]) (by rw[W];rfl)
 refine O pins s σ H R I ?_;obtain⟨A,S,ρ,rep,re,c⟩:=h;refine⟨A,S,ρ,rep,re,ao (ag c) λds t S1 U e1 rep1 c1 vs r=>?_⟩;unfold Am at c1;split at c1
 ·next xs ys=>
  obtain⟨v1,ws,rfl,P,L⟩:=r.cons_inv;obtain⟨v2,N,rfl,J,F⟩:=L.cons_inv;cases F.nil_inv;obtain⟨G,Z,rfl,T,v⟩:=P.tup_inv;obtain⟨C,Y,rfl,Q,w⟩:=J.tup_inv;exact .inr ⟨G,C,Z,Y,rfl,T,Q,ai c1 .refl rep1 _ (vg rep1 T Q v w)⟩
 ·next a b _=>
  obtain⟨v1,ws,rfl,P,L⟩:=r.cons_inv;obtain⟨v2,N,rfl,J,F⟩:=L.cons_inv;cases F.nil_inv;obtain⟨G,x,Z,rfl,T,j,B⟩:=An rep1 P c1;obtain⟨C,y,Y,rfl,Q,o,l⟩:=An rep1 J B;exact .inl ⟨G,C,Z,Y,rfl,T,Q,ai l .refl rep1 _ (tD j o)⟩
 ·exact(ah c1).elim
abbrev nV(m n:TM):aA->M Iter:=λρ=>do let ds<-ae m (ae n aw) ρ;Am ds
end S4
namespace S3
open PySem PySem.Spec PyProof.Rows L2 S4
def lQ(f:Expr->Option D):List Expr->Option (List D)
 |[]=>ar []
 |e::es=>match f e,lQ f es with
  |some d,ar ds=>ar (d::ds)
  |_,_=>aC
def litE:Nat->Expr->Option D
 |_,.Constant .none _ _=>ar .non
 |_,.Constant (.bool b) _ _=>ar (.bl b)
 |_,.Constant (.int i) _ _=>ar (.int i)
 |_,.Constant (.str x) _ _=>ar (.str x)
 |_,.UnaryOp .USub (.Constant (.int i) _ _) _=>ar (.int (-i))
 |n+1,.Tuple es _ _=>match lQ (litE n) es with
  |some ds=>if ds.length<=100 then ar (.tup ds)else aC
  |none=>aC
 |_,_=>aC
section
variable {X:Cx}{E:XD}
theorem SE.mono{m Z:TM}(h:SE X E e m)(k:∀ ρ S r,Z ρ S=ar r->m ρ S=ar r):SE X E e Z:=PE.imp h λσ H Q q=>by obtain⟨Y,S,ρ,rep,re,r,W,e,c⟩:=q;exact⟨Y,S,ρ,rep,re,r,W,k ρ S _ e,c⟩
theorem Ao(h:litE n e=ar d)(es:List Expr)(env:Env):dt (e::es) env=(dr,i4 e env)::dt es env:=by
 cases e with
 |Constant c j p=>exact aF
 |UnaryOp o a p=>exact vi
 |Tuple l k p=>exact Ad
 |_=>cases n<;>cases h
theorem wD(Z:∀e d,litE n e=ar d->SE X E e (mK d)):∀{es:List Expr} {ds:List D},lQ (litE n) es=ar ds->SA X E es (λ_=>a_ ds)
 |[],ds,h=>by cases h;exact av
 | e::es,ds,h=>by
  unfold lQ at h;cases q:litE n e with
  |none=>rw[q]at h;cases h
  | some d=>
   rw[q]at h;cases q2:lQ (litE n) es with
   |none=>rw[q2]at h;cases h
   |some ds'=>
    rw[q2]at h;cases h;exact af (Z e d q) (wD Z q2) (Ao q _ _)
theorem Fj:∀(n:Nat) (e:Expr) (d:D),litE n e=ar d->SE X E e (mK d):=by
 intro n
 induction n with
 |zero=>
  intro e d h;unfold litE at h;split at h
  ·cases h;exact uQ
  ·cases h;exact gw
  ·cases h;exact au
  ·cases h;exact ig
  ·cases h;exact vj
  ·next h'=>exact absurd h' (by omega)
  ·cases h
 | succ n ih=>
  intro e d h;unfold litE at h;split at h
  ·cases h;exact uQ
  ·cases h;exact gw
  ·cases h;exact au
  ·cases h;exact ig
  ·cases h;exact vj
  ·next m es k p hm=>
   cases hm;cases q:lQ (litE n) es with
   |none=>rw[q]at h;cases h
   | some ds=>
    rw[q]at h;simp only at h;split at h
    ·next hl=>
     cases h;refine(ip (wD ih q)).mono λρ S r Z=>?_;have e:(do let ds'<-(a_ ds:M (List D));cy ds')=(a_ (.tup ds):M D):=by show cy ds=_;unfold cy;rw[if_pos (by unfold lim;omega)]
     rw[e];exact Z
    ·cases h
  ·cases h
theorem Ap(n:Nat)(h:litE n e=ar d):SE X E e (mK d):=Fj n e d h
end
def bb(m:TM)(ms:BX):BX:=ae m ms
section
variable {X:Cx}{E:XD}
theorem b7(Z:SE X E e m)(Y:SA X E es ms)(hs:dt (e::es) X.env=(dr,i4 e X.env)::dt es X.env):SA X E (e::es) (bb m ms):=af Z Y hs
theorem rm{l p t n}:nC (.List l p) t n env=a_ false:=rfl
theorem nW{a o b p t n}:nC (.BinOp a o b p) t n env=a_ false:=rfl
theorem cH{f l k p t n}:nC (.Call f l k p) t n env=a_ false:=rfl
theorem rn{a b p t n}:nC (.Subscript a b p) t n env=a_ false:=rfl
theorem CK{a p t n}:nC (.Name a p) t n env=a_ false:=rfl
end
end S3
namespace S7
open PySem PySem.Spec PyProof.Rows L2 S3
abbrev rq(m:TM):TM:=λρ=>ja (m ρ)
abbrev DH(m:cT):cT:=λρ=>ja (m ρ)
abbrev wF:TM:=λ_=>M.fail
abbrev CL(m:TM)(y:Str):TM:=λρ=>do let x<-m ρ;G9 (λn=>vp n y) x
abbrev CM(m:TM):TM:=λρ=>do let x<-m ρ;G9 (λ_=>b') x
abbrev j9(x:Str)(ms:aA->M (List D)):cT:=λρ=>do let ds<-ms ρ;if ds.length<=lim then M.raise (.exc x [])else M.fail
end S7
namespace S3
open PySem PySem.Spec PyProof.Rows L2
mutual
def fF(n:Nat):D->Bool
 | .lst k=>decide (k<n)
 | .tup ds=>cA n ds
 | .ro ds=>cA n ds
 | .fz ds=>cA n ds
 | .fn _ _ _ ds _=>cA n ds
 | .exc _ ds=>cA n ds
 | .non=>b'
 | .bl _=>b'
 | .int _=>b'
 | .str _=>b'
 | .emp=>b'
def cA(n:Nat):List D->Bool
 |[]=>b'
 |d::ds=>fF n d && cA n ds
end
mutual
def jF(n:Nat)(g:Nat->Option (List D)):D->Option D
 | .lst k=>if k<n then ar (.lst k)else (g k).map .fz
 | .tup ds=>(iU n g ds).map .tup
 | .ro ds=>(iU n g ds).map .ro
 | .fz ds=>(iU n g ds).map .fz
 | .fn a c q ds vs=>(iU n g ds).map λes=>.fn a c q es vs
 | .exc x ds=>(iU n g ds).map λes=>.exc x es
 | .non=>ar .non
 | .bl b=>ar (.bl b)
 | .int i=>ar (.int i)
 | .str x=>ar (.str x)
 | .emp=>ar .emp
def iU(n:Nat)(g:Nat->Option (List D)):List D->Option (List D)
 |[]=>ar []
 |d::ds=>match jF n g d,iU n g ds with
  |some u,ar us=>ar (u::us)
  |_,_=>aC
end
def B0(S:aB)(n:Nat):Nat->Nat->Option (List D)
 |0,_=>aC
 |f+1,k=>(S[k]?).bind λxs=>iU n (B0 S n f) xs
def nX(S S':aB):Prop:=∀k xs,k<S.length->S'[k]? =ar xs->S[k]? =ar xs\/cA S.length xs=b'
open Classical in
def kf(m:M D):M D:=λS=>match m S with
 | some (.ok d,S')=>if S'.length<=S.length then ar (.ok d,S')else
   if nX S S' then (match jF S.length (B0 S' S.length 60) d with
    |some u=>ar (.ok u,S'.take S.length)
    |none=>aC)else aC
 |r=>r
abbrev aR(m:TM):TM:=λρ=>kf (m ρ)
section
variable {K:dn}{ι ι':List cq}{H H':Hp}{S S':aB}
mutual
theorem RelD.cl:∀{d:D} {v:V},RelD K ι H d v->fF ι.length d=b'
 |_,_,.non=>rfl
 |_,_,.bl b=>rfl
 |_,_,.int i=>rfl
 |_,_,.str x=>rfl
 |_,_,.tup h hs=>by unfold fF;exact RelDs.cl hs
 |_,_,.lst h=>by unfold fF;exact JT (JV.mp h).1
 |_,_,.ro h hs=>by unfold fF;exact RelDs.cl hs
 |_,_,.emp h=>rfl
 |_,_,.fn h hs=>by unfold fF;exact RelDs.cl hs
 |_,_,.exc n h=>rfl
 |_,_,.excF n h h2 hn hs=>by unfold fF;exact RelDs.cl hs
 |_,_,.fz h hs=>by unfold fF;exact RelDs.cl hs
theorem RelDs.cl:∀{ds:List D} {vs:List V},RelDs K ι H ds vs->cA ι.length ds=b'
 |_,_,.nil=>rfl
 |_,_,.cons h hs=>by unfold cA;rw[RelD.cl h,RelDs.cl hs];rfl
end
def mx(P:List cq)(os:cq->Obj)(H:Hp):Hp:=λb=>match H b with
 |some (.lst vs)=>if b∈P then ar (.frz (os b) (.lst vs))else ar (.lst vs)
 |x=>x
theorem Aq{P:List cq}{os:cq->Obj}{b:cq}(h:H b=aC):mx P os H b=none:=by unfold mx;rw[h]
theorem bJ{P:List cq}{os:cq->Obj}{b:cq}{o:HO}(h:H b=ar o)(Z:∀vs,o≠ .lst vs):mx P os H b=ar o:=by
 unfold mx;rw[h];cases o with
 |lst vs=>exact absurd rfl (Z vs)
 |_=>rfl
theorem wG{P:List cq}{os:cq->Obj}{b:cq}(h:b∉P):mx P os H b=H b:=by
 unfold mx;split
 ·next q=>rw[if_neg h,q]
 ·rfl
theorem Fk{os:cq->Obj}(h:b∈P)(e:H b=ar (.lst vs)):mx P os H b=ar (.frz (os b) (.lst vs)):=by unfold mx;rw[e];exact if_pos h
theorem tE(Y:ι.Nodup)(h:ι[k]? =ar a):a∈ι.drop n↔n<=k:=by
 constructor
 ·intro hm;obtain⟨j,Z⟩:=List.mem_iff_getElem?.mp hm;rw[MC]at Z;have:=nD Y h Z;omega
 ·intro X;refine List.mem_iff_getElem?.mpr ⟨k - n,?_⟩;rw[MC,show n+(k - n)=k by omega];exact h
mutual
theorem RelD.down{n:Nat}{os:cq->Obj}:∀{d:D} {v:V},RelD K ι H d v->fF n d=b'->RelD K (ι.take n) (mx (ι.drop n) os H) d v
 |_,_,.non,_=>.non
 |_,_,.bl b,_=>.bl b
 |_,_,.int i,_=>.int i
 |_,_,.str x,_=>.str x
 |_,_,.tup h hs,c=>.tup (bJ h (by intro _ z;cases z)) (RelDs.down hs (by unfold fF at c;exact c))
 |_,_,.lst h,c=>.lst (by unfold fF at c;rw[LW,if_pos (Kd c)];exact h)
 |_,_,.ro h hs,c=>.ro (h.imp (λ⟨o,h⟩=>⟨o,bJ h (by intro _ z;cases z)⟩) λz=>z) (RelDs.down hs (by unfold fF at c;exact c))
 |_,_,.emp h,_=>.emp (bJ h (by intro _ z;cases z))
 |_,_,.fn h hs,c=>.fn (bJ h (by intro _ z;cases z)) (RelDs.down hs (by unfold fF at c;exact c))
 |_,_,.exc n h,_=>.exc n (bJ h (by intro _ z;cases z))
 |_,_,.excF n h h2 hn hs,c=>.excF n (bJ h (by intro _ z;cases z)) (bJ h2 (by intro _ z;cases z)) hn (RelDs.down hs (by unfold fF at c;exact c))
 |_,_,.fz h hs,c=>.fz (bJ h (by intro _ z;cases z)) (RelDs.down hs (by unfold fF at c;exact c))
theorem RelDs.down{n:Nat}{os:cq->Obj}:∀{ds:List D} {vs:List V},RelDs K ι H ds vs->cA n ds=b'->RelDs K (ι.take n) (mx (ι.drop n) os H) ds vs
 |_,_,.nil,_=>.nil
 |_,_,.cons h hs,c=>by
  unfold cA at c;rw[KU]at c;exact .cons (RelD.down h c.1) (RelDs.down hs c.2)
end
theorem iE{α Z:Type}{f:α->Z}{o:Option α}{b:Z}(h:o.map f=ar b):∃a,o=ar a/\f a=b:=by
 cases o with
 |none=>cases h
 |some a=>exact⟨a,rfl,Ka h⟩
theorem Ar(h:iU n g (d::ds)=ar us):∃u us',us=u::us'/\jF n g d=ar u/\iU n g ds=ar us':=by
 unfold iU at h;split at h
 ·next u us' e1 e2=>cases h;exact⟨u,us',rfl,e1,e2⟩
 ·cases h
mutual
theorem vv{n:Nat}{os:cq->Obj}{g:Nat->Option (List D)}(Y:∀k us a,n<=k->g k=ar us->ι[k]? =ar a->∃vs,H a=ar (.lst vs)/\RelDs K (ι.take n) (mx (ι.drop n) os H) us vs)(Z:ι.Nodup):
  ∀{d:D} {v:V},RelD K ι H d v->∀{u:D},jF n g d=ar u->RelD K (ι.take n) (mx (ι.drop n) os H) u v
 |_,_,.non,u,e=>by unfold jF at e;cases e;exact .non
 |_,_,.bl b,u,e=>by unfold jF at e;cases e;exact .bl b
 |_,_,.int i,u,e=>by unfold jF at e;cases e;exact .int i
 |_,_,.str x,u,e=>by unfold jF at e;cases e;exact .str x
 |_,_,.tup h hs,u,e=>by
  unfold jF at e;obtain⟨es,e1,rfl⟩:=iE e;exact .tup (bJ h (by intro _ z;cases z)) (iF Y Z hs e1)
 | _,_,@RelD.lst _ _ _ a k h,u,e=>by
  unfold jF at e;by_cases hk:k<n
  ·rw[if_pos hk]at e;cases e;exact .lst (by rw[LW,if_pos hk];exact h)
  ·rw[if_neg hk]at e;obtain⟨us,e1,rfl⟩:=iE e;obtain⟨vs,U,X⟩:=Y k us a (by omega) e1 h;exact .fz (Fk ((tE Z h).mpr (by omega)) U) X
 |_,_,.ro h hs,u,e=>by
  unfold jF at e;obtain⟨es,e1,rfl⟩:=iE e;exact .ro (h.imp (λ⟨o,h⟩=>⟨o,bJ h (by intro _ z;cases z)⟩) λz=>z) (iF Y Z hs e1)
 |_,_,.emp h,u,e=>by unfold jF at e;cases e;exact .emp (bJ h (by intro _ z;cases z))
 |_,_,.fn h hs,u,e=>by
  unfold jF at e;obtain⟨es,e1,rfl⟩:=iE e;exact .fn (bJ h (by intro _ z;cases z)) (iF Y Z hs e1)
 |_,_,.exc x h,u,e=>by
  unfold jF at e;obtain⟨es,e1,rfl⟩:=iE e;unfold iU at e1;cases e1;exact .exc x (bJ h (by intro _ z;cases z))
 |_,_,.excF x h X hn hs,u,e=>by
  unfold jF at e;obtain⟨es,e1,rfl⟩:=iE e;exact .excF x (bJ h (by intro _ z;cases z)) (bJ X (by intro _ z;cases z)) hn (iF Y Z hs e1)
 |_,_,.fz h hs,u,e=>by
  unfold jF at e;obtain⟨es,e1,rfl⟩:=iE e;exact .fz (bJ h (by intro _ z;cases z)) (iF Y Z hs e1)
theorem iF{n:Nat}{os:cq->Obj}{g:Nat->Option (List D)}(Y:∀k us a,n<=k->g k=ar us->ι[k]? =ar a->∃vs,H a=ar (.lst vs)/\RelDs K (ι.take n) (mx (ι.drop n) os H) us vs)(Z:ι.Nodup):
  ∀{ds:List D} {vs:List V},RelDs K ι H ds vs->∀{us:List D},iU n g ds=ar us->RelDs K (ι.take n) (mx (ι.drop n) os H) us vs
 |_,_,.nil,us,e=>by unfold iU at e;cases e;exact .nil
 |_,_,.cons h hs,us,e=>by
  obtain⟨u,X,rfl,e1,e2⟩:=Ar e;exact .cons (vv Y Z h e1) (iF Y Z hs e2)
end
theorem wH(Z:Rep K ι H S){n:Nat}{os:cq->Obj}:∀f k us a,n<=k->B0 S n f k=ar us->ι[k]? =ar a->∃vs,H a=ar (.lst vs)/\RelDs K (ι.take n) (mx (ι.drop n) os H) us vs:=by
 intro f
 induction f with
 |zero=>intro k us a _ e;cases e
 | succ f ih=>
  intro k us a T e U;unfold B0 at e;cases z:S[k]? with
  |none=>rw[z]at e;cases e
  |some xs=>
   rw[z]at e;obtain⟨vs,Y,X⟩:=Z.get k a xs U z;exact⟨vs,Y,iF ih Z.nd X e⟩
theorem tF(Y:Rep K ι H S)(x:Ext ι H ι' H')(Z:Rep K ι' H' S')(Q:nX S S')(os:cq->Obj):
  Ext ι H ι (mx (ι'.drop ι.length) os H')/\Rep K ι (mx (ι'.drop ι.length) os H') (S'.take ι.length):=by
 obtain⟨more,rfl⟩:=id x.ids;have N:(ι++more).take ι.length=ι:=by simp
 refine⟨⟨⟨[],by simp⟩,λa o h n t=>?_⟩,⟨Y.nd,?_,λk a xs e1 e2=>?_,Z.tab.mono λa o h n=>bJ h n⟩⟩
 ·obtain⟨U,R⟩:=x.oth a o h n t;rw[wG (λz=>R (List.mem_of_mem_drop z))];exact⟨U,n⟩
 ·have:=Z.len;rw[LG, <-this,JW];omega
 ·have T:k<ι.length:=(JV.mp e1).1;rw[LW,if_pos T]at e2;have X:(ι++more)[k]? =ar a:=by rw[Kq T];exact e1
  obtain⟨vs,U,R⟩:=Z.get k a xs X e2;refine⟨vs,?_,?_⟩
  ·rw[wG (λz=>by have:=(tE Z.nd X).mp z;omega)];exact U
  ·have O:cA ι.length xs=true:=by
    rcases Q k xs (by rw[<-Y.len];exact T) e2 with z|z
    ·obtain⟨_,_,P⟩:=Y.get k a xs e1 z;exact P.cl
    ·rw[Y.len];exact z
   have:=RelDs.down (n:=ι.length) (os:=os) R O;rw[N]at this;exact this
end
section
variable {X:Cx}{E:XD}{e:Expr}{m:TM}{pins:List (cq×Obj)}{σ:L2.St}{H:Hp}{s:c_}
theorem Inv.fz(I:L2.Inv X pins σ H s)(P:List cq):∃os,L2.Inv X pins σ (mx P os H) s:=by
 refine⟨λa=>(s.heap.get? a).getD {cls:=.none,data:=.fields #[]},?_⟩;have Z:Un X.fs [] H (mx P (λa=>(s.heap.get? a).getD {cls:=.none,data:=.fields #[]}) H) s.heap s.heap:=
  ⟨λb o q _ _ _=>q,λb o q _ _ _=>⟨o.slots,q⟩,λb o _ n _=>Aq n,λb o q _=>⟨o,q⟩,λb xs q=>bJ q (by intro _ z;cases z),λb o u q=>bJ q (by intro _ z;cases z),λb Y q=>⟨#[],by rw[bJ q (by intro _ z;cases z)];simp⟩⟩
 refine I.un (t':=s.toks) Z λb o q=>?_;have st:∀u,H b=ar u->bK X.prog X.w (mx P (λa=>(s.heap.get? a).getD {cls:=.none,data:=.fields #[]}) H) s.heap b u:=λu Z=>
  (I.hok b u Z).stay (λ_ _ _ z=>z) (λc z=>bJ z (by intro _ z;cases z)) λc xs z=>bJ z (by intro _ z;cases z)
 unfold mx at q;split at q
 ·next vs hb=>
  split at q
  ·cases q;obtain⟨z,its,n,r,e⟩:=(show bK X.prog X.w H s.heap b (.lst vs)from I.hok b _ hb);exact⟨by dsimp only;rw[e];rfl,z,its,n,r,e⟩
  ·cases q;exact st _ hb
 ·exact st _ q
theorem aH(h:SE X E e m):SE X E e (aR m):=by
 intro pins s σ H Q I J;obtain⟨Y,S,ρ,rep,re,r,L,F,k⟩:=J;have Z:kf (m ρ) S=ar (r,L):=F;unfold kf at Z;cases q:m ρ S with
 |none=>rw[q]at Z;cases Z
 | some p=>
  obtain⟨G,O⟩:=p;rw[q]at Z;cases G with
  |ex x=>
   cases Z;exact h pins s σ H Q I ⟨Y,S,ρ,rep,re,.ex x,_,q,k⟩
  | ok d=>
   dsimp only at Z;by_cases hl:O.length<=S.length
   ·rw[if_pos hl]at Z;cases Z;exact h pins s σ H Q I ⟨Y,S,ρ,rep,re,.ok d,_,q,k⟩
   ·rw [if_neg hl]at Z;by_cases hk:nX S O
    ·rw [if_pos hk]at Z;cases z:jF S.length (B0 O S.length 60) d with
     |none=>rw[z]at Z;cases Z
     | some u=>
      rw[z]at Z;cases Z;refine dq (h pins s σ H (λv R=>∃P:List cq,∀os,Q v (mx P os R)) I ⟨Y,S,ρ,rep,re,.ok d,O,q,λU R x W v N=>?_⟩) λuv s' ⟨v,R,I',N,P,hq⟩=>?_
      ·refine⟨U.drop Y.length,λos=>?_⟩;obtain⟨C,rep2⟩:=tF rep x W hk os;have T:Rep X.K Y (mx (U.drop Y.length) os R) (O.take S.length):=by rw[<-rep.len];exact rep2
       have J:U.take Y.length=Y:=by obtain⟨more,rfl⟩:=x.ids;simp
       have rel:RelD X.K Y (mx (U.drop Y.length) os R) u v:=by have:=vv (n:=Y.length) (os:=os) (λk us a=>by rw[rep.len];exact wH W 60 k us a) W.nd N (by rw[rep.len];exact z);rw[J]at this;exact this
       exact k Y _ C T v rel
      ·obtain⟨os,B⟩:=Inv.fz I' P;exact⟨v,_,B,N,hq os⟩
    ·rw[if_neg hk]at Z;cases Z
end
end S3
namespace S4
open PySem PySem.Spec PyProof.Rows L2 S3
section
variable {prog:d_}{w:ee}{A:iB}{E:b_->c_->Prop}{s:c_}
end
end S4
namespace S3
open PySem PySem.Spec PyProof.Rows L2
section
variable {X:Cx}{E:XD}{a b e c o tg:Expr}{m n l:TM}{pos p2:Pos}{es:List Expr}{ms:aA->M (List D)}
theorem range_any{bs:List Bool}:(dV bs.length).any (λi=>bs.getD i dr)=bs.any id:=by
 induction bs with
 |nil=>rfl
 |cons b bs ih=>
  rw[Ki,Lu,Nh,M6];simp only[q_,Nx,id];congr 1
theorem yh(C:X.calm=b'):dM X (.builtin "any") (λxs H Q=>∃(p:cq) (bs:List Bool),xs=[.ref p]/\iR X.K H p (bs.map V.bl)/\Q (.bl (bs.any id)) H):=by
 intro pins s σ H xs us Q I r h;obtain⟨p,bs,rfl,F,q⟩:=h;obtain⟨u,rfl,O⟩:=vals1 r;cases (show u=hF p from O);obtain⟨its,S,G,w⟩:=I.list F;have T:=G.isList;refine call_any_walk (MI T ?_);have U:p<s.heap.objs.size:=by obtain⟨o,N,_⟩:=T;exact JU N
 have hlen:=S.length;refine⟨s.heap.objs.size,_,_,_,_,_,λi=>bs.getD i dr,rfl,Walks.list (A:=X.A.in1) (by show X.A.handled=aC;exact I.ok.hd C) s.heap.objs.size p (J7 U) its.toArray,⟨⟨_,J0 _ rfl,rfl,rfl⟩,T.push _⟩,?_,λh' y L=>?_⟩
 ·intro i v s' B z J W;have Y:its[i]? =ar v:=by simpa using J
  have x:i<its.length:=(JV.mp Y).1;have Z:i<bs.length:=by rw[JN]at hlen;omega
  have:(bs.map V.bl)[i]? =ar (.bl bs[i]):=by rw[Km,JP Z];rfl
  obtain⟨u,R,P⟩:=S.get this;rw[Y]at R;cases R;cases (show v=sh bs[i]from P);have:bs.getD i dr=bs[i]:=by simp[Nw,Z]
  dsimp only at W;rw[this]at W;exact KF W
 ·have e1:its.toArray.size=bs.length:=by rw[JY, <-hlen,JN]
  rw[e1,range_any];refine⟨.bl _,H,I.kept (λb o e=>L b o ?_ (JO _ e)),rfl,q⟩;have:b≠s.heap.objs.size:=J7 (JU e);simpa using this
def tG:List D->M D
 |[.lst k]=>do
  let xs<-getL k
  match boolsOf xs with
  |some bs=>a_ (.bl (bs.any id))
  |none=>M.fail
 |[.fz xs]=>match boolsOf xs with
  |some bs=>a_ (.bl (bs.any id))
  |none=>M.fail
 |_=>M.fail
theorem yi:iZ X.K E tG (λxs H Q=>∃(p:cq) (bs:List Bool),xs=[.ref p]/\iR X.K H p (bs.map V.bl)/\Q (.bl (bs.any id)) H):=by
 intro P S H ds vs Q rep r c;unfold tG at c;split at c
 ·next k=>
  obtain⟨v,ws,rfl,U,T⟩:=r.cons_inv;cases T.nil_inv;obtain⟨p,rfl,Y⟩:=U.lst_inv;obtain⟨es,us,_,R,W,Z⟩:=ba c rep Y;cases q:boolsOf es with
  |none=>rw[q]at Z;exact(ah Z).elim
  |some bs=>
   rw[q]at Z;refine⟨p,bs,rfl,.of ?_,ai Z .refl rep _ (.bl _)⟩;rw[<-fi W q];exact R
 ·next es=>
  obtain⟨v,ws,rfl,U,T⟩:=r.cons_inv;cases T.nil_inv;obtain⟨p,o,us,rfl,Y,W⟩:=U.fz_inv;cases q:boolsOf es with
  |none=>rw[q]at c;exact(ah c).elim
  |some bs=>
   rw[q]at c;refine⟨p,bs,rfl,.inl (.inr ⟨o,?_⟩),ai c .refl rep _ (.bl _)⟩;rw[<-fi W q];exact Y
 ·exact(ah c).elim
theorem As(U:X.calm=b')(W:X.mg "any"=aC)(Z:SE X E e m)(Y:Gl X "any":=by rfl)(hs:dt [e] X.env=[(dr,i4 e X.env)]:=by rfl):SE X E (.Call (.Name "any" p) [e] [] pos) (bI tG m):=
 gc (yh U) yi Y W (by decide+kernel) (af Z av hs) (by decide) (by decide) hs rfl
def I0:D->M Bool
 | .bl b=>a_ b
 | .non=>a_ dr
 | .int i=>a_ (i !=0)
 | .tup xs=>a_ (!xs.isEmpty)
 | .fz xs=>a_ (!xs.isEmpty)
 | .lst k=>do let xs<-getL k;a_ (!xs.isEmpty)
 |_=>M.fail
abbrev bT(m:TM):aA->M Bool:=λρ=>do let x<-m ρ;I0 x
theorem jd{K:dn}{Z:List cq}{H:Hp}{ds:List D}{vs:List V}(r:RelDs K Z H ds vs):(!ds.isEmpty)= !vs.isEmpty:=by cases r<;>rfl
theorem Fl(h:SE X E e m)(T:∀whole,isTrue e X.env whole=(do let v<-whole;xy e.pos;v_ [v] (Oo v)):=by intro _;rfl):SB X E e (bT m):=by
 refine PT.imp (zq h T) λσ H Q q=>?_;obtain⟨P,S,ρ,rep,re,c⟩:=q;refine⟨P,S,ρ,rep,re,ao (ag c) λx W S1 N e1 rep1 c1 v r=>?_⟩;cases x with
 |bl b=>rw[r.bl_inv];exact⟨b,rfl,ai c1 .refl rep1⟩
 |non=>rw[r.non_inv];exact⟨dr,rfl,ai c1 .refl rep1⟩
 |int i=>rw[r.int_inv];exact⟨_,rfl,ai c1 .refl rep1⟩
 |tup xs=>
  obtain⟨a,vs,rfl,Z,Y⟩:=r.tup_inv;exact⟨_,.inr (.inl ⟨vs,.of Z,(jd Y)⟩),ai c1 .refl rep1⟩
 |fz xs=>
  obtain⟨a,o,vs,rfl,Z,Y⟩:=r.fz_inv;exact⟨_,.inl ⟨vs,.inl (.inr ⟨o,Z⟩),(jd Y)⟩,ai c1 .refl rep1⟩
 |lst k=>
  obtain⟨a,rfl,Z⟩:=r.lst_inv;obtain⟨xs,vs,_,O,U,R⟩:=ba c1 rep1 Z;exact⟨_,.inl ⟨vs,.of O,(jd U)⟩,ai R .refl rep1⟩
 |_=>exact(ah c1).elim
end
end S3
section
namespace S3
open PySem PySem.Spec PyProof.Rows L2
section
variable {prog:d_}{w:ee}{A:iB}{R:Oq->c_->Prop}{s:c_}
theorem vw
  (Y:r_ (e_ prog w) A (.compLoop (.ListComp elt [c1,⟨target,iter,ifs,0⟩] scope pos) 1 it acc env) R s)
  (h:ed (e_ prog w) A (N_ it) (λZ s'=>r_ (e_ prog w) A (.compLoop (.ListComp elt [c1,⟨target,iter,ifs,0⟩] scope pos) 1 Z acc env) R s')
   (notedBy (e_ prog w) A env λx s'=>R (.error x) s') s):
  r_ (e_ prog w) A (.compStart (.ListComp elt [c1,⟨target,iter,ifs,0⟩] scope pos) 1 it acc env) R s:=by
 refine codeAny_of_tree ?_;show ed _ _ ((compStart (.ListComp elt [c1,⟨target,iter,ifs,0⟩] scope pos) 1 it acc env).onRaise (λx=>do z_ x env;xy theWindowsPlace)) _ _ s;refine wpAny_notedAt ?_;unfold compStart;show ed _ _ (ask>>=_) _ _ s;refine JM (wpAny_askSetting (wpAny_ite ?_));split
 ·first
   |exact JM (JR (JR (NX rfl Y)))
   |exact JR (NX rfl Y)
 ·first
   |exact JM (L6 (JM (Kw (JM (Kb h (λZ s' h'=>JR (NX rfl h')) λ_ _ x=>x)))))
   |(refine JM (L6 ?_);show ed _ _ (xy iter.pos>>=_) _ _ s;exact JM (Kw (JM (Kb h (λZ s' h'=>JR (NX rfl h')) λ_ _ x=>x))))
end
abbrev Fm:=St->Hp->(St->Hp->Prop)->Prop
def wI(J:It)(g:TG)(tt:TT)(tb:Fm)(fin:St->Hp->Prop):St->Hp->Prop:=λσ H=>∃W:Nat->Nat->St->Hp->Prop,(∃m,W 0 m σ H)/\∀i m σc Hc,W i m σc Hc->
  (J.stop i Hc/\fin σc Hc)\/(J.go i Hc/\∃N:St->Hp->Prop,(∀ σ' H',N σ' H'->∃m',m'<m/\W (i+1) m' σ' H')/\∀x H',J.yld i Hc x H'->g x σc H' λσ2 H2=>tt σ2 H2 λb H3=>if b=b' then tb σ2 H3 N else N σ2 H3)
def Ja(X:Cx)(bd:Sem Unit)(tb:Fm):Prop:=∀(pins:List (cq×Obj)) (s:c_) (σ:St) (H:Hp) (N:St->Hp->Prop),Inv X pins σ H s->tb σ H N->∀E,(∀v s',X.xe v s'->E v s')->ed (e_ X.prog X.w) X.A bd (λ_ s'=>∃ σ' H',Inv X pins σ' H' s'/\N σ' H') E s
def vx(e:Expr)(d:Nat)(ipos:Pos)(tg:Expr)(ifs:List Expr)(it acc:b_)(env:Env)(bd:Sem Unit):Sem Fin:=do
 xy ipos
 match<-NS it with
 |none=>a_ (.done .next)
 | some v=>
  y2 tg it v
  K_ tg env v
  let mut ok:=b'
  for c in ifs do
   if ok then ok<-isTrue c env (i4 c env)
  if ok then bd
  NC (.compLoop e d it acc env)
theorem Hd(U S Y T Z:Expr)(W X:List Expr)(scope:Scope)(pos:Pos)(it acc:b_)(env:Env):
  NM (.ListComp U [⟨S,Y,W,0⟩,⟨T,Z,X,0⟩] scope pos) 0 it acc env=vx (.ListComp U [⟨S,Y,W,0⟩,⟨T,Z,X,0⟩] scope pos) 0 Y.pos S W it acc env
  (do let x<-i4 Z env;xy Z.pos;let x<-hI Z env x;let _<-runOwn (.compStart (.ListComp U [⟨S,Y,W,0⟩,⟨T,Z,X,0⟩] scope pos) 1 (<-v_ [x] (N_ x)) acc env) env):=by
 unfold NM vx;simp;rfl
section
variable {X:Cx}{pins:List (cq×Obj)}{σ:St}{H:Hp}{s:c_}
theorem tH{O:Nat->f'->Prop}{Q:St->Hp->Prop}{R:Oq->c_->Prop}
  (U:∀v s',X.xe v s'->False) (G:X.calm=b') (T:Turn X.prog X.w X.K tg J fp it O) (C:PG X tg g) (E:BR X ifs tt) (y:Ja X bd tb)
  (S:NM (.ListComp elt gens scope pos) d (.ref it) acc X.env=vx (.ListComp elt gens scope pos) d ipos tg ifs (.ref it) acc X.env bd)
  (I:Inv X pins σ H s) (F:O 0 s.heap) (f:∀b∈fp,iS X pins H b) (h:wI J g tt tb Q σ H) (P:∀s' σ' H',Inv X pins σ' H' s'->Q σ' H'->R (.ok .next) s'):
  r_ (e_ X.prog X.w) X.A (.compLoop (.ListComp elt gens scope pos) d (.ref it) acc X.env) R s:=by
 obtain⟨W,⟨m0,w0⟩,turn⟩:=h;have Z:∀{H':Hp},(∀b∈fp,H' b=aC)->∀b∈fp,iS X pins H' b:=λt b Y=>⟨t b Y,(f b Y).2⟩;refine codeAny_loop rfl (λn s'=>∃i σ' H',Inv X pins σ' H' s'/\O i s'.heap/\(∀b∈fp,H' b=aC)/\W i n σ' H') ?_ m0 ⟨0,_,_,I,F,λb Y=>(f b Y).1,w0⟩;rintro n s4 ⟨i,σ4,H4,I4,st4,fr4,w4⟩;show ed _ X.A ((NM (.ListComp elt gens scope pos) d (.ref it) acc X.env).onRaise (λx=>do z_ x X.env;theTreesLotGoes x)) _ _ s4;refine wpAny_noted ?_;rw[S];refine JM (Kw (JM ?_));rcases turn i n σ4 H4 w4 with⟨stop,qn⟩|⟨go,N,hN,step⟩
 ·refine Kb (T.done X rfl rfl rfl G i pins s4 σ4 H4 (λ_ _=>False) I4 (Z fr4) st4 stop) (λr s5 ⟨hr,I5⟩=>?_) λ_ _ z=>z.elim;subst hr;exact JR (P s5 σ4 H4 I5 qn)
 ·refine Kb (T.item X rfl rfl rfl G i pins s4 σ4 H4 (λ_ _=>False) I4 (Z fr4) st4 go) (λr s5 ⟨u,hr,h5⟩=>?_) λ_ _ z=>z.elim;subst hr;refine JM (Kb h5 (λ_ s6 ⟨x,H6,I6,r6,y6,st6,fr6⟩=>?_) λ_ _ z=>z.elim);have L:=I6.pinned (Z fr6) (T.obj _ _ st6);refine JM (Kb (C _ s6 σ4 H6 x u _ L r6 (step x H6 y6)) (λ_ s7 ⟨σ7,H7,I7,q7⟩=>?_) λ_ _ z=>(U _ _ z).elim);refine JM (Kb (E _ s7 σ7 H7 _ I7 q7) (λb s8 ⟨H8,I8,q8⟩=>?_) λ_ _ z=>(U _ _ z).elim);have NC:∀{σ9:St} {H9:Hp} {s9:c_},Inv X (pins++lA fp s6.heap) σ9 H9 s9->N σ9 H9->
    ∃m,m<n/\∃i σ' H',Inv X pins σ' H' s9/\O i s9.heap/\(∀b∈fp,H' b=aC)/\W i m σ' H':=λ{σ9 H9 s9} I9 n9=>by
   obtain⟨q,hm,B⟩:=hN σ9 H9 n9;refine⟨q,hm,i+1,σ9,H9,I9.unpinned,T.keep _ _ _ st6 λb Y o e=>(I9.pin (b,o) (Kc _ (Kc _ (eN Y e)))).1,λb Y=>?_,B⟩;obtain⟨o,e,d⟩:=T.obj _ _ st6 b Y;exact(I9.pin (b,o) (Kc _ (Kc _ (eN Y e)))).2.1
  cases b with
  |false=>exact JR ⟨rfl,NC I8 q8⟩
  |true=>exact JM (Kb (y _ s8 σ7 H8 N I8 q8 (λ_ _=>False) λ_ _ z=>(U _ _ z).elim) (λ_ s9 ⟨σ9,H9,I9,q9⟩=>JR ⟨rfl,NC I9 q9⟩) λ_ _ z=>z.elim)
def yj(p:cq)(te:TE):Fm:=λσ H N=>te σ H λy H4=>∃xs,H4 p=ar (.lst xs)/\xs.length<sizeLine/\N σ (upd H4 p (.lst (xs++[y])))
theorem CN(S:PE X elt te):Ja X (do let _<-call (.builtin "list.append") [.ref p, <-i4 elt X.env]) (yj p te):=by intro pins s σ H N I h E Y;refine JM (Kb (S _ s σ H _ I h) (λy s9 ⟨yv,H9,I9,r9,q9⟩=>?_) Y);obtain⟨xs,Z,W,T⟩:=q9;refine JM (Kb (lE (X:=X) _ s9 σ H9 (.ref p) [yv] (.ref p) [y] (λ_ U=>N σ U) I9 rfl (.cons r9 .nil) ⟨p,xs,yv,rfl,rfl,Z,W,T⟩) (λ_ s10 ⟨_,H10,I10,_,q10⟩=>?_) Y);exact JR ⟨σ,H10,I10,q10⟩
def HN(wi:TI)(g:TG)(tt:TT)(tb:Fm):Fm:=λσ H N=>wi σ H λJ H1=>wI J g tt tb N σ H1
theorem Fo(U:∀v s',X.xe v s'->False)(B:X.calm=b')(z:PI X tg iter wi)(G:PG X tg g)(O:BR X ifs tt)(K:PE X elt te)
  (hs:∀x,hI iter X.env x=a_ x):
  Ja X (do let x<-i4 iter X.env;xy iter.pos;let x<-hI iter X.env x;let _<-runOwn (.compStart (.ListComp elt [c1,⟨tg,iter,ifs,0⟩] scope pos) 1 (<-v_ [x] (N_ x)) (.ref p) X.env) X.env) (HN wi g tt (yj p te)):=by
 intro pins s σ H N I h E S;refine JM (Kb (z pins s σ H _ I h) (λv s1 R=>?_) S);refine JM (Kw (JM (wpAny_of_eq (hs v) (JM (KY (Kb R (λQ s2 P=>?_) S))))));obtain⟨it,q,u,J,t,e,F,T,Y,f2,C⟩:=P;subst e;have loop:r_ (e_ X.prog X.w) X.A (.compLoop (.ListComp elt [c1,⟨tg,iter,ifs,0⟩] scope pos) 1 (.ref it) (.ref p) X.env) (λr s'=>match r with| .ok f=>ed (e_ X.prog X.w) X.A (a_ ()) (λ_ s'=>∃Z W,Inv X pins Z W s'/\N Z W) E s'| .error e=>cameBackBy (e_ X.prog X.w) X.A X.env E e s') s2:=
  tH (ipos:=iter.pos) U B T G O (CN K) (by rfl) F Y f2 C λs' Z W y L=>JR ⟨Z,W,y,L⟩
 exact JM (wpAny_runOwn (vw loop (T.self _ 0 _ _ _ Y loop)))
end
def Au(wi:TI)(js:List (Option Nat))(g:TG)(tt:TT)(tb:cq->Fm):TE:=λσ H Q=>wi σ H λJ H1=>∀p,H1 p=aC->wI J g tt (tb p) (λ_ H'=>Q (.ref p) H') (lH js σ) (upd H1 p (.lst []))
section
variable {X:Cx}{scope:Scope}{Nc:List Str}{js:List (Option Nat)}{pins:List (cq×Obj)}{σ:St}{H:Hp}{s:c_}
theorem Av(c:CompScope X scope Nc js)(hc:X.calm=b')(hi:PI X tg iter wi)
  (r:∀C ex s H,PG (aV X scope Nc C ex s H) tg g/\BR (aV X scope Nc C ex s H) ifs tt/\PI (aV X scope Nc C ex s H) tg2 iter2 wi2/\PG (aV X scope Nc C ex s H) tg2 g2/\BR (aV X scope Nc C ex s H) ifs2 tt2/\PE (aV X scope Nc C ex s H) elt te)
  (hs:∀x,hI iter X.env x=a_ x:=by intro _;rfl) (d:∀env x,hI iter2 env x=a_ x:=by intro _ _;rfl):
  PE X (.ListComp elt [⟨tg,iter,ifs,0⟩,⟨tg2,iter2,ifs2,0⟩] scope pos) (Au wi js g tt λp=>HN wi2 g2 tt2 (yj p te)):=by
 intro pins s σ H Q I h;rw[eval_ListComp];refine wpAny_comprehension_free rfl hs (ky scope X.env (c.has I.ok)) c.kind c.loc (dq (hi pins s σ H _ I h) λv s1 O=>dq O λa9 s2 h2=>?_);obtain⟨it,P,tn,J,W,e,I2,T,F,f2,j⟩:=h2;subst e;refine KG (pS λO Y U R=>?_);dsimp only at Y U R⊢;have j:=j s2.heap.objs.size (I2.hok.fresh (JQ _));have k:Inv X pins σ (upd W s2.heap.objs.size (.lst [])) {s2 with heap:=s2.heap.push {cls:=.type "list",dict:=aC,data:=.seq ([]:List b_).toArray}}:=
  I2.laid (t':=s2.toks) (λ_ _ q=>JO _ q) (JQ _) ⟨Kk _,[],0,.nil,J0 _ rfl⟩
 generalize hS3:({s2 with heap:=s2.heap.push {cls:=.type "list",dict:=aC,data:=.seq ([]:List b_).toArray}}:c_)=s3 at k;have i:s3.heap=s2.heap.push {cls:=.type "list",dict:=aC,data:=.seq ([]:List b_).toArray}:=by rw[<-hS3]
 rw[<-i]at Y U R⊢;generalize hp:s2.heap.objs.size=p at*;have N:∀b∈P,b<p:=λb Z=>by obtain⟨o,e,_⟩:=T.obj _ _ F b Z;rw[<-hp];exact JU e
 have l:∀b∈P,b≠p:=λb Z=>J7 (N b Z);have u:∀b∈P,iS X pins (upd W p (.lst [])) b:=λb Z=>⟨by rw[aK (l b Z)];exact(f2 b Z).1,(f2 b Z).2⟩;have G:s3.heap.objs.size=p+1:=by rw[i,KZ,hp]
 have L:∀b∈P,b<s3.heap.objs.size:=λb Z=>by rw[G];exact LA (N b Z)
 have S:∀b o,s3.heap.get? b=ar o->O.get? b=ar o:=U;have n:tn 0 O:=T.keep _ _ _ F λb Z o e=>S b o (by rw[i];exact JO _ e);generalize hC:s3.heap.objs.size=C at*;have t:O.Ns C (λ_=>aC):=by simpa using Y
 have start:∀tk,Inv (aV X scope Nc C P s3 (upd W p (.lst []))) [] (lH js σ) (upd W p (.lst [])) {s3 with heap:=O,toks:=tk}:=λtk=>nB c k u (λb Z=>by rw[hC];exact L b Z) hC.symm t S R;have ok:=(start 0).ok;have K:∀b∈P,iS (aV X scope Nc C P s3 (upd W p (.lst []))) [] (upd W p (.lst [])) b:=λb Z=>
  ⟨(u b Z).1,(ok.exf b Z).1,ok.exfs b Z,.inl Z,(ok.exf b Z).2,λ_ z=>nomatch z⟩
 obtain⟨hG,hT,a,y,f,hE⟩:=r C P s3 (upd W p (.lst []));have loop:∀s':c_,Inv (aV X scope Nc C P s3 (upd W p (.lst []))) [] (lH js σ) (upd W p (.lst [])) s'->tn 0 s'.heap->
   r_ (e_ X.prog X.w) X.A (.compLoop (.ListComp elt [⟨tg,iter,ifs,0⟩,⟨tg2,iter2,ifs2,0⟩] scope pos) 0 (.ref it) (.ref p) (aV X scope Nc C P s3 (upd W p (.lst []))).env) (Ow (e_ X.prog X.w) X.A X.xe aC (EP X pins σ Q) (.ref p) C) s':=by
  intro s' I' E;refine tH (X:=aV X scope Nc C P s3 (upd W p (.lst []))) (ipos:=iter.pos) (λ_ _ z=>z) hc T hG hT (Fo (c1:=⟨tg,iter,ifs,0⟩) (scope:=scope) (pos:=pos) (λ_ _ z=>z) hc a y f hE (d _)) (Hd ..) I' E K j λs5 b4 H5 I5 q5=>?_;obtain⟨m,hm,_⟩:=I5.loc;exact⟨m,hm,λh2 B=>⟨.ref p,H5,sG k hC.symm u I5 B,rfl,q5⟩⟩
 refine codeAny_compStart_list (loop _ ?_ ?_) (T.self _ 0 _ _ _ ?_ (loop _ ?_ ?_))
 all_goals first
  |exact n
  |(subst hS3;exact start _)
end
end S3
end
namespace S3
open PySem PySem.Spec PyProof.Rows L2
abbrev BM:=aA->M (List D×aA)
def cB(it:Iter)(g:lu)(t:aA->M Bool)(bd:BM):List D->aA->M (List D×aA)
 |[],ρ=>do fG it;a_ ([],ρ)
 | d::ds,ρ=>do
  fG it
  let ρ1<-g d ρ;let b<-t ρ1
  if b=b' then do
   let x<-bd ρ1;let y<-cB it g t bd ds x.2
   a_ (x.1++y.1,y.2)
  else cB it g t bd ds ρ1
def yk(m:TM):BM:=λρ=>do let y<-m ρ;a_ ([y],ρ)
def Fp(mi:aA->M Iter)(g:lu)(t:aA->M Bool)(m:TM):BM:=λρ=>do let it<-mi ρ;if it.items.length<=3000 then cB it g t (yk m) it.items ρ else M.fail
abbrev lR(mi:aA->M Iter)(g:lu)(t:aA->M Bool)(mi2:aA->M Iter)(g2:lu)(t2:aA->M Bool)(m:TM)(js:List (Option Nat)):TM:=λρ=>do
 let it<-mi ρ;let x<-(if it.items.length<=3000 then cB it g t (Fp mi2 g2 t2 m) it.items (gP js ρ)else M.fail)
 bt x.1
section
variable {K:dn}{p:cq}{Q:D->List cq->aB->Hp->Prop}
structure MkL(K:dn)(p:cq)(ι:List cq)(S:aB)(ρ:aA)(σ:St)(H:Hp)(xs:List D):Prop where
 rep:Rep K ι (cM H p) S
 re:RelE K ι (cM H p) ρ σ
 lst:∃vs,H p=ar (.lst vs)/\RelDs K ι (cM H p) xs vs
 out:p∉ι
abbrev KM:=List D->aA->M D
def Aw(K:dn)(p:cq)(Q:D->List cq->aB->Hp->Prop)(B:Nat)(bd:BM)(tb:Fm):Prop:=
 ∀ ι S ρ σ H xs (k:KM) (N:St->Hp->Prop) (n:Nat),MkL K p ι S ρ σ H xs->xs.length<=n->n+B<=lim->cont K bX (bd ρ>>=λx=>k (xs++x.1) x.2) ι S (cM H p) Q->
  (∀ ι' S' ρ' σ' H' xs',MkL K p ι' S' ρ' σ' H' xs'->xs'.length<=n+B->Ext ι (cM H p) ι' (cM H' p)->cont K bX (k xs' ρ') ι' S' (cM H' p) Q->N σ' H')->tb σ H N
theorem Fq:Aw K p Q 1 (yk m) (yj p (tM K bX m)):=by
 intro X S ρ σ H xs k N n mk J L c R;obtain⟨vs,P,O⟩:=mk.lst;have T:cont K bX (m ρ>>=λy=>k (xs++[y]) ρ) X S (cM H p) Q:=by
  have:(yk m ρ>>=λx=>k (xs++x.1) x.2)=(m ρ>>=λy=>k (xs++[y]) ρ):=by show((m ρ>>=λy=>a_ ([y],ρ))>>=_)=_;rw[eg];rfl
  rw[<-this];exact c
 refine⟨X,S,ρ,mk.rep.unhide,mk.re.unhide,ao (eO (E:=bX) (ag T) P mk.out) λy ι6 S6 H6 e6 rep6 ⟨hp6,hn6,c7⟩ yv ry=>?_⟩;have Z:Ext X (cM H p) ι6 (cM H6 p):=e6.hide;have Y:=O.later mk.rep Z;have U:vs.length<sizeLine:=by rw[<-Y.length];exact MA (by omega) zJ
 refine⟨vs,hp6,U,R ι6 S6 ρ σ _ (xs++[y]) ⟨?_,?_,⟨vs++[yv],aY,?_⟩,hn6⟩ (by simp;omega) ?_ ?_⟩
 ·rw[dv];exact rep6.hide hp6 hn6
 ·rw[dv];exact(mk.re.unhide.later mk.rep.unhide e6).hide hp6
 ·rw[dv];exact Y.append (.cons (ry.hide hp6) .nil)
 ·rw[dv];exact Z
 ·rw[dv];exact c7
theorem tI{k:KM}{G:St->Hp->Prop}(d:ir K it J ι1 H1)(hB:Aw K p Q B bd tb)
  (mk:MkL K p ι S ρ σ H xs) (e1:∀ ι2 Y,Ext ι (cM H p) ι2 (cM Y p)->ExtN ι1 H1 ι2 Y) (hl:xs.length<=n) (hn:n+it.items.length*B<=lim) (c:cont K bX (cB it g t bd it.items ρ>>=λx=>k (xs++x.1) x.2) ι S (cM H p) Q)
  (hf:∀ ι' S' ρ' X U xs',MkL K p ι' S' ρ' X U xs'->xs'.length<=n+it.items.length*B->Ext ι (cM H p) ι' (cM U p)->cont K bX (k xs' ρ') ι' S' (cM U p) Q->G X U):
  wI J (yU K bX g) (uP K bX t) tb G σ H:=by
 refine⟨λi m N Y=>∃ ι2 S2 ρ2 xs2,m=it.items.length - i/\i<=it.items.length/\MkL K p ι2 S2 ρ2 N Y xs2/\xs2.length<=n+i*B/\Ext ι (cM H p) ι2 (cM Y p)/\
  cont K bX (cB it g t bd (it.items.drop i) ρ2>>=λx=>k (xs2++x.1) x.2) ι2 S2 (cM Y p) Q,⟨_,ι,S,ρ,xs,rfl,Kk _,mk,by omega,.refl,c⟩,?_⟩
 rintro i m N Y ⟨ι2,S2,ρ2,xs2,hm,hi',mk2,hl2,e2,c2⟩;by_cases hlt:i<it.items.length
 ·have hd:it.items.drop i=it.items[i]::it.items.drop (i+1):=LF hlt;rw[hd]at c2;have T:cont K bX (fG it>>=λ_=>g it.items[i] ρ2>>=λZ=>t Z>>=λb=>if b=b' then bd Z>>=λx=>(cB it g t bd (it.items.drop (i+1)) x.2>>=λy=>k (xs2++x.1++y.1) y.2)else cB it g t bd (it.items.drop (i+1)) Z>>=λx=>k (xs2++x.1) x.2) ι2 S2 (cM Y p) Q:=by
   have:(cB it g t bd (it.items[i]::it.items.drop (i+1)) ρ2>>=λx=>k (xs2++x.1) x.2)=(fG it>>=λ_=>g it.items[i] ρ2>>=λZ=>t Z>>=λb=>if b=b' then bd Z>>=λx=>(cB it g t bd (it.items.drop (i+1)) x.2>>=λy=>k (xs2++x.1++y.1) y.2)else cB it g t bd (it.items.drop (i+1)) Z>>=λx=>k (xs2++x.1) x.2):=by show((fG it>>=λ_=>g it.items[i] ρ2>>=λZ=>t Z>>=λb=>if b=b' then bd Z>>=λx=>cB it g t bd (it.items.drop (i+1)) x.2>>=λy=>a_ (x.1++y.1,y.2)else cB it g t bd (it.items.drop (i+1)) Z)>>=λx=>k (xs2++x.1) x.2)=_;simp only[eg,wo,aj,List.append_assoc]
   rw[<-this];exact c2
  obtain⟨ok,A⟩:=g9 T mk2.rep;obtain⟨f,a8⟩:=d ι2 Y S2 (e1 _ _ e2) mk2.rep.unhide ok i;obtain⟨go,yl⟩:=f it.items[i] (JP hlt);have O:n+i*B+B<=lim:=by have:(i+1)*B<=it.items.length*B:=Nat.mul_le_mul_right _ hlt;rw[LP]at this;omega
  refine .inr ⟨go,λX U=>∃ ι3 S3 ρ3 xs3,MkL K p ι3 S3 ρ3 X U xs3/\xs3.length<=n+(i+1)*B/\Ext ι (cM H p) ι3 (cM U p)/\cont K bX (cB it g t bd (it.items.drop (i+1)) ρ3>>=λx=>k (xs3++x.1) x.2) ι3 S3 (cM U p) Q,?_,λx a hy=>?_⟩
  ·rintro X U ⟨ι3,S3,ρ3,xs3,h1,h2,h3,h4⟩;exact⟨_,by omega,ι3,S3,ρ3,xs3,rfl,hlt,h1,h2,h3,h4⟩
  ·obtain⟨h,rep3,rd⟩:=yl x a hy;obtain⟨vs,j,rx⟩:=mk2.lst;have I:=mk2.out;obtain⟨u,_⟩:=h.oth p _ j I (by intro _ z;cases z);have C:Ext ι2 (cM Y p) ι2 (cM a p):=h.hide;have c4:=ag (iq A C);refine⟨ι2,S2,ρ2,it.items[i],rep3,mk2.re.unhide.later mk2.rep.unhide h,rd,ao (eO (E:=bX) c4 u I) λρ4 ι4 S4 H4 e4 rep4 ⟨hp4,hn4,c5⟩ σ4 re4=>?_⟩;have r:Rep K ι4 (cM H4 p) S4:=rep4.hide hp4 hn4;have e:Ext ι2 (cM Y p) ι4 (cM H4 p):=C.trans e4.hide;refine⟨ι4,S4,ρ4,rep4,re4,ao (eO (E:=bX) (ag c5) hp4 hn4) λb ι5 S5 H5 e5 rep5 ⟨hp5,hn5,c6⟩=>?_⟩;have P:Rep K ι5 (cM H5 p) S5:=rep5.hide hp5 hn5;have L:Ext ι2 (cM Y p) ι5 (cM H5 p):=e.trans e5.hide;have s:RelE K ι5 H5 ρ4 σ4:=re4.later rep4 e5;have F:MkL K p ι5 S5 ρ4 σ4 H5 xs2:=⟨P,s.hide hp5,⟨vs,hp5,rx.later mk2.rep L⟩,hn5⟩;cases b with
   |false=>
    have R:cont K bX (cB it g t bd (it.items.drop (i+1)) ρ4>>=λx=>k (xs2++x.1) x.2) ι5 S5 (cM H5 p) Q:=c6;exact⟨ι5,S5,ρ4,xs2,F,by rw[LP];omega,e2.trans L,R⟩
   |true=>
    have R:cont K bX (bd ρ4>>=λx=>(λys ρ'=>cB it g t bd (it.items.drop (i+1)) ρ'>>=λy=>k (ys++y.1) y.2) (xs2++x.1) x.2) ι5 S5 (cM H5 p) Q:=c6;refine hB ι5 S5 ρ4 σ4 H5 xs2 (λys ρ'=>cB it g t bd (it.items.drop (i+1)) ρ'>>=λy=>k (ys++y.1) y.2) _ (n+i*B) F hl2 O R λq S6 v a5 H6 w l a3 e6 c7=>?_;exact⟨q,S6,v,w,l,by rw[LP];omega,e2.trans (L.trans e6),c7⟩
 ·have hd:it.items.drop i=[]:=K8 (by omega);rw[hd]at c2;have T:cont K bX (fG it>>=λ_=>k (xs2++[]) ρ2) ι2 S2 (cM Y p) Q:=by
   have:(cB it g t bd [] ρ2>>=λx=>k (xs2++x.1) x.2)=(fG it>>=λ_=>k (xs2++[]) ρ2):=by show((fG it>>=λ_=>a_ ([],ρ2))>>=λx=>k (xs2++x.1) x.2)=_;simp only[eg,aj]
   rw[<-this];exact c2
  obtain⟨ok,A⟩:=g9 T mk2.rep;rw[Ky]at A;have o:i=it.items.length:=by omega
  refine .inl ⟨(d ι2 Y S2 (e1 _ _ e2) mk2.rep.unhide ok i).2 (by omega),?_⟩;exact hf ι2 S2 ρ2 N Y xs2 mk2 (by rw[<-o];exact hl2) e2 A
theorem Ext.unhideP{H:Hp}(e:Ext ι (cM H p) ι' (cM H' p))(U:H p=ar (.lst ws)):ExtN ι H ι' H':=
 ⟨e.ids,λa o h n t l=>by
  have Z:a≠p:=λz=>by subst z;rw[U]at h;exact l ws (Ka h).symm
  obtain⟨Y,X⟩:=e.oth a o (by rw[hide_ne Z];exact h) n t;exact⟨(cf Y).2,X⟩⟩
theorem He:Aw K p Q 3000 (Fp mi g t m) (HN (F6 K bX mi) (yU K bX g) (uP K bX t) (yj p (tM K bX m))):=by
 intro U S ρ σ H xs k N n mk B w c G;obtain⟨vs,A,y⟩:=mk.lst;have I:cont K bX (mi ρ>>=λit=>(if it.items.length<=3000 then cB it g t (yk m) it.items ρ else M.fail)>>=λx=>k (xs++x.1) x.2) U S (cM H p) Q:=by
  have:(Fp mi g t m ρ>>=λx=>k (xs++x.1) x.2)=(mi ρ>>=λit=>(if it.items.length<=3000 then cB it g t (yk m) it.items ρ else M.fail)>>=λx=>k (xs++x.1) x.2):=by show((mi ρ>>=λit=>_)>>=_)=_;rw[eg]
  rw[<-this];exact c
 refine⟨U,S,ρ,mk.rep.unhide,mk.re.unhide,ao (eO (E:=bX) (ag I) A mk.out) λit ι1 S1 H1 e1 rep1 ⟨hp1,hn1,c1⟩ J hJ=>?_⟩;have Z:Ext U (cM H p) ι1 (cM H1 p):=e1.hide;have X:MkL K p ι1 S1 ρ σ H1 xs:=⟨rep1.hide hp1 hn1,(mk.re.unhide.later mk.rep.unhide e1).hide hp1,⟨vs,hp1,y.later mk.rep Z⟩,hn1⟩;by_cases h:it.items.length<=3000
 ·rw[if_pos h]at c1;exact tI (k:=k) hJ Fq X (λL v e=>e.unhideP hp1) B (by omega) c1 λR F ρ' Y O T mk' C z P=>G R F ρ' Y O T mk' (by omega) (Z.trans z) P
 ·rw[if_neg h]at c1;exact(ah (ag c1)).elim
section
variable {X:Cx}{scope:Scope}{Nc:List Str}{js:List (Option Nat)}{elt tg iter tg2 iter2:Expr}{ifs ifs2:List Expr}{pos:Pos}{mi mi2:aA->M Iter}{g g2:lu}{t t2:aA->M Bool}{m:TM}
theorem ym{T:St}{H:Hp}{Q:VK}(h:tM X.K bX (lR mi g t mi2 g2 t2 m js) T H Q):
  Au (F6 X.K bX mi) js (yU X.K bX g) (uP X.K bX t) (λp=>HN (F6 X.K bX mi2) (yU X.K bX g2) (uP X.K bX t2) (yj p (tM X.K bX m))) T H Q:=by
 obtain⟨O,S,ρ,rep,re,c⟩:=h;refine⟨O,S,ρ,rep,re,ao (ag c) λit F S1 U e1 rep1 c1 J P p R=>?_⟩;by_cases hl:it.items.length<=3000
 ·rw[if_pos hl]at c1;have Z:cM (upd U p (.lst [])) p=U:=by rw[dv,gd R]
  refine tI (K:=X.K) (p:=p) (Q:=mq X.K Q) (n:=0) (xs:=[]) (k:=λxs _=>bt xs) (S:=S1) (ρ:=gP js ρ) P He ⟨by rw[Z];exact rep1,by rw[Z];exact(re.later rep e1).blk js,⟨[],aY,by rw[Z];exact .nil⟩,rep1.free R⟩
   (λC A e=>by rw[Z]at e;exact e.unhide.n) (Kk _) (by unfold lim;omega) (by rw[Z];exact c1) λI x ρ' E y B mk' L z N=>?_
  obtain⟨vs,Y,G⟩:=mk'.lst;have:=(bq N mk'.rep G).2 p jA;rw[sL Y]at this;exact this
 ·rw[if_neg hl]at c1;exact(ah (ag c1)).elim
theorem Ax(c:CompScope X scope Nc js)(U:X.calm=b')(T:SI X bX tg iter mi)
  (Y:∀C ex s H,SG (aV X scope Nc C ex s H) bX tg g/\EU (aV X scope Nc C ex s H) bX ifs t/\SI (aV X scope Nc C ex s H) bX tg2 iter2 mi2/\SG (aV X scope Nc C ex s H) bX tg2 g2/\EU (aV X scope Nc C ex s H) bX ifs2 t2/\SE (aV X scope Nc C ex s H) bX elt m)
  (hs:∀x,hI iter X.env x=a_ x:=by intro _;rfl) (Z:∀env x,hI iter2 env x=a_ x:=by intro _ _;rfl):
  SE X bX (.ListComp elt [⟨tg,iter,ifs,0⟩,⟨tg2,iter2,ifs2,0⟩] scope pos) (lR mi g t mi2 g2 t2 m js):=
 PE.imp (Av (wi2:=F6 X.K bX mi2) (g:=yU X.K bX g) (tt:=uP X.K bX t) (g2:=yU X.K bX g2) (tt2:=uP X.K bX t2) (te:=tM X.K bX m) c U T Y hs Z) λ_ _ _ q=>ym q
end
end
end S3
namespace S7
open PySem PySem.Spec PyProof.Rows L2 S3
section
open Sem (wp)
section
variable {prog:d_}{w:ee}{A:iB}{E:b_->c_->Prop}{h:f'}{g:Array Ng}{d:Drawn}{t:Nat}{os:Np}
variable {nm q:Str}{C N:cq}{bs bm bmB:List b_}{hdct:Bool}{sn:List Str}{sub:List b_}{ab:Bool}{col:Option Bool}{dd:Option cq}{k0 k1 k2 k3 k5:Option b_}{B Bn newId nid initId inN:String}{bmN:List b_}
theorem mL(O:wh Bn newId inN bmN)(U:bmB.contains (.type Bn)=b')(F:wh B nid initId bmB)(T:N6 h bmB bm){mN:Str->Option b_}{rest:List b_}{fI:cq}{oI:Obj}{Q:Fin->c_->Prop}
  (S:h.get? C=ar (u_ nm q C N bs bm hdct sn sub ab col dd k0 k1 k2 k3 k5 newId)) (G:h.Ns N mN) (y:mN "__init__"=ar (.ref fI)) (K:h.get? fI=ar oI) (L:oI.cls= .type "function")
  (z:∀h' e,Nn h h' e (.ref C) rest->
   ed (e_ prog w) A (call (.ref fI) (.ref e::rest)) (λr s'=>r= .none/\Q (.done (.ret (.ref e))) s') E ⟨h',g,d,t,os⟩) (hrest:rest.length<=sizeLine:=by size_fits):
  ed (e_ prog w) A (Builtin.«type.__call__» ⟨.ref C::rest,[]⟩) Q E ⟨h,g,d,t,os⟩:=by
 repeat (first|with_reducible refine LB S ?_ |with_reducible refine wpAny_madeBy_exc S ?_ |wp_step)
 refine codeAny_call_builtin_code (Code.quiet_builtin _ O.quiet) (wpAny_check_new_subU O U T S ?_);refine codeAny_exc_new_subU O U F T S ?_ hrest;show ed _ _ _ _ _ _;have Z:=JO {cls:=.ref C,data:=.fields #[.ref h.objs.size,.none,.none,.none,.bool dr,.none]}
  (JO {cls:=.type "tuple",data:=.seq rest.toArray} S)
 have Y:=JO {cls:=.ref C,data:=.fields #[.ref h.objs.size,.none,.none,.none,.bool dr,.none]}
  (JO {cls:=.type "tuple",data:=.seq rest.toArray} K)
 have W:((h.push {cls:=.type "tuple",data:=.seq rest.toArray}).push {cls:=.ref C,data:=.fields #[.ref h.objs.size,.none,.none,.none,.bool dr,.none]}).Ns N mN:=
  let ⟨o,es,ep,e,r⟩:=G;⟨o,es,ep,JO _ (JO _ e),r⟩
 have X:((h.push {cls:=.type "tuple",data:=.seq rest.toArray}).push
   {cls:=.ref C,data:=.fields #[.ref h.objs.size,.none,.none,.none,.bool dr,.none]}).get? (h.objs.size+1)=ar
   {cls:=.ref C,data:=.fields #[.ref h.objs.size,.none,.none,.none,.bool dr,.none]}:=by heap_get
 have P:(hF C::bm).contains (.ref C)=true:=by simp
 have R:=T.keeps (h':=(h.push {cls:=.type "tuple",data:=.seq rest.toArray}).push {cls:=.ref C,data:=.fields #[.ref h.objs.size,.none,.none,.none,.bool dr,.none]})
  λb o e=>JO _ (JO _ e)
 unfold Oh
 repeat (first|with_reducible refine LB X ?_ |(with_reducible refine wpAny_isSubtype_exc Z ?_;rw[P])|wp_step)
 show ed _ _ (typeLookup (.ref C) _) _ _ _;refine wpAny_typeLookup_tail Z W R F.mroIs F.init.lookup ?_;rw[y];refine KY (JM ?_);unfold bindSpecial;refine JM (M3 (T:="function") ⟨_,Y,L⟩ ?_);rw[if_pos (by decide)];refine JR (JM (Kb (z _ (h.objs.size+1) ⟨λb o J=>JO _ (JO _ J),Ku (LL _),h.objs.size,X,Ku (JQ _),?_⟩) (λr s' I=>?_) λ_ _ x=>x))
 ·exact JO _ (Heap.get?_push_at rfl rfl)
 ·obtain⟨rfl,H⟩:=I
  wp_walk
  exact H
theorem vy(P:wh Bn newId inN bmN)(Y:bmB.contains (.type Bn)=b')(F:wh B nid initId bmB)(T:N6 h bmB bm){mN:Str->Option b_}{rest:List b_}{fI:cq}{oI:Obj}{Q:b_->c_->Prop}
  (Z:h.get? C=ar (u_ nm q C N bs bm hdct sn sub ab col dd k0 k1 k2 k3 k5 newId)) (U:h.Ns N mN) (R:mN "__init__"=ar (.ref fI)) (W:h.get? fI=ar oI) (X:oI.cls= .type "function")
  (S:∀h' e,Nn h h' e (.ref C) rest->
   ed (e_ prog w) (A.under (.builtin "type.__call__" ⟨.ref C::rest,[]⟩)) (call (.ref fI) (.ref e::rest)) (λr s'=>r= .none/\Q (.ref e) s') E ⟨h',g,d,t,os⟩) (hrest:rest.length<=sizeLine:=by size_fits):
  ed (e_ prog w) A (call (.ref C) rest) Q E ⟨h,g,d,t,os⟩:=by
 have f1:=tc_lookup;have f2:=tc_bind (.ref C);have O:(⟨h,g,d,t,os⟩:c_).TypeIs (.ref C) "type":=⟨_,Z,rfl⟩;refine Nj (codeAny_of_tree ?_);show ed _ _ (callAny (.ref C) _) _ _ _
 repeat (any_goals (first|assumption|with_reducible refine LB Z ?_ |wp_step))
 refine⟨rfl,?_⟩;refine codeAny_call_builtin_at (Code.quiet_builtin _ (by decide+kernel)) entry_typeCall (wpAny_check_type_call_sub Z (mL (hrest:=hrest) P Y F T Z U R W X λh' e hm=>?_));exact S h' e hm
end
section
variable {M:OI}{A:iB}{E:b_->c_->Prop}{env:Env}
variable {nm q:Str}{C N:cq}{bs bm:List b_}{hdct:Bool}{sn:List Str}{sub:List b_}{ab:Bool}{col:Option Bool}{dd:Option cq}{k0 k1 k2 k3 k5:Option b_}{newId:String}
theorem gh(Y:bm.contains (.type "BaseException")=b')(S:A.handled=aC)
  (h:ed M A x (λv Z=>∃e t U,v= .ref e/\Z.heap.get? C=ar (u_ nm q C N bs bm hdct sn sub ab col dd k0 k1 k2 k3 k5 newId)/\Z.heap.get? e=ar {cls:=.ref C,dict:=U,data:=.fields #[.ref t,.none,.none,.none,.bool dr,.none]}/\E (.ref e) Z) E s):
  ed M A (raiseStmt env (ar x) aC) Q E s:=by
 have W:(hF C::bm).contains (.type "BaseException")=true:=by rw[List.contains_cons,Y,Bool.or_true]
 unfold raiseStmt;refine JM (Kb h (λv Z X=>?_) λ_ _ x=>x);obtain⟨e,t,U,rfl,T,he,R⟩:=X;obtain⟨P,g,d,O,os⟩:=Z
 repeat (first|with_reducible refine LB he ?_ |with_reducible refine LB T ?_ |(with_reducible refine wpAny_isSubtype_exc T ?_;rw[W])|wp_step)
 exact wpAny_raiseNew_none S R
end
section
variable {prog:d_}{w:ee}{A:iB}{E:b_->c_->Prop}{s:c_}{env:Env}
variable {nm q:Str}{C N:cq}{bs bm bmB:List b_}{hdct:Bool}{sn:List Str}{sub:List b_}{ab:Bool}{col:Option Bool}{dd:Option cq}{k0 k1 k2 k3 k5:Option b_}{B Bn newId nid initId inN:String}{bmN:List b_}
theorem tJ(j:wh Bn newId inN bmN)(L:bmB.contains (.type Bn)=b')(F:wh B nid initId bmB){mN:Str->Option b_}{x:Str}{y S pos:Pos}{args:List Expr}{fI:cq}{oI:Obj}{Q:Flow->c_->Prop}
  (W:bm.contains (.type "BaseException")=b') (J:A.handled=aC) (P:(lx S (dt args env)).any (·.1)=dr) (k:mN "__init__"=ar (.ref fI)) (I:oI.cls= .type "function")
  (h :ed (e_ prog w) A (i4 (.Name x y) env) (λf U=>f= .ref C/\ed (e_ prog w) A (evalArgs (.ref C) b' (lx S (dt args env)) [])
   (λa Z=>a.kw=[]/\a.pos.length<=sizeLine/\Z.heap.get? C=ar (u_ nm q C N bs bm hdct sn sub ab col dd k0 k1 k2 k3 k5 newId)/\Z.heap.Ns N mN/\N6 Z.heap bmB bm/\Z.heap.get? fI=ar oI/\
    ∀h' e,Nn Z.heap h' e (.ref C) a.pos->ed (e_ prog w) (A.under (.builtin "type.__call__" ⟨.ref C::a.pos,[]⟩)) (call (.ref fI) (.ref e::a.pos)) (λr s'=>r= .none/\
     ∃t K,s'.heap.get? C=ar (u_ nm q C N bs bm hdct sn sub ab col dd k0 k1 k2 k3 k5 newId)/\s'.heap.get? e=ar {cls:=.ref C,dict:=K,data:=.fields #[.ref t,.none,.none,.none,.bool dr,.none]}/\E (.ref e) s') E {Z with heap:=h'}) E U) E s):
  ed (e_ prog w) A (exec (.Raise (ar (.Call (.Name x y) args [] S)) aC pos) env) Q E s:=by
 rw[arm_exec_Raise];first
  |refine JM (Kw (gh (C:=C) (nm:=nm) (q:=q) (N:=N) (bs:=bs) (bm:=bm) (hdct:=hdct) (sn:=sn) (sub:=sub) (ab:=ab) (col:=col) (dd:=dd) (k0:=k0) (k1:=k1) (k2:=k2) (k3:=k3) (k5:=k5) (newId:=newId) W J (JM (Kb (MN (Kb h (λf U X=>?_) λ_ _ x=>x)) (λv O Y=>JM (Kw (JR Y))) λ_ _ x=>x))))
  |(simp only[evalOpt,Option.map];refine JM (Kw (gh (C:=C) (nm:=nm) (q:=q) (N:=N) (bs:=bs) (bm:=bm) (hdct:=hdct) (sn:=sn) (sub:=sub) (ab:=ab) (col:=col) (dd:=dd) (k0:=k0) (k1:=k1) (k2:=k2) (k3:=k3) (k5:=k5) (newId:=newId) W J (JM (Kb (MN (Kb h (λf U X=>?_) λ_ _ x=>x)) (λv O Y=>JM (Kw (JR Y))) λ_ _ x=>x)))))
  |(refine JM (Kw (gh (C:=C) (nm:=nm) (q:=q) (N:=N) (bs:=bs) (bm:=bm) (hdct:=hdct) (sn:=sn) (sub:=sub) (ab:=ab) (col:=col) (dd:=dd) (k0:=k0) (k1:=k1) (k2:=k2) (k3:=k3) (k5:=k5) (newId:=newId) W J ?_));refine JM (Kb (MN (Kb h (λf U X=>?_) λ_ _ x=>x)) (λv O Y=>JM (Kw (JR Y))) λ_ _ x=>x))
 obtain⟨rfl,X⟩:=X;unfold callWith;refine JM (KY (Kb X (λa Z R=>JM (Kw ?_)) λ_ _ x=>x));obtain⟨apos,G⟩:=a;obtain⟨H,hlen,u,l,T,z,R⟩:=R;obtain rfl:G=[]:=H;obtain⟨c,g,d,i,os⟩:=Z;simp only[P];refine JM (wpAny_keeperOf_exc u ?_);refine JM (vy (hrest:=hlen) j L F T u l k z I λh' e hm=>Kb (R h' e hm) (λr s' p=>⟨p.1,JM (KY (wpAny_point (JR ?_)))⟩) λ_ _ x=>x);obtain⟨_,t,K,o,m,n⟩:=p;exact⟨e,t,K,rfl,o,m,n⟩
end
end
end S7
namespace S7
open PySem PySem.Spec PySem.W PyProof.Rows
section
open Builtin Builtin.ObjectAttr
def tK:List b_->Bool
 | .ref _:: .ref _::r=>r==[.type "ValueError",.type "Exception",.type "BaseException",.type "object"]
 |_=>dr
theorem yo(e:tK l=b'):∃a b,l= .ref a:: .ref b::[.type "ValueError",.type "Exception",.type "BaseException",.type "object"]:=by
 unfold tK at e;split at e
 ·next a b r=>exact⟨a,b,by rw[Nk.mp e]⟩
 ·cases e
theorem Ay(Z:b_)(e:tK l=b'):refuseLoop Z "__setattr__" l=a_ ():=by obtain⟨a,b,rfl⟩:=yo e;rw[refuseLoop_ref,refuseLoop_ref];exact PySem.F.store_ValueError.passes Z
structure ExcS(K:OJ)(C:cq):Prop where
 sa:B' K (.ref C) "__setattr__"=ar (ar (.builtin "object.__setattr__"))
 ob:OG K C (.type "object")=ar b'
 cd:∃cd,clsIn K C=ar cd/\cd.hasDict=b'/\tK cd.mro=b'
section
variable {prog:d_}{w:ee}{A:iB}{E:b_->c_->Prop}{s:c_}{K:OJ}{x C:cq}{o:Obj}{vs:Array b_}{mA:Str->Option b_}{name:Str}{v:b_}{R:Oq->c_->Prop}
theorem Az{Q:Fin->c_->Prop}(c:ExcS K C)(X:K.In s.heap)(J:s.heap.get? x=ar o)(k:o.cls= .ref C)(O:o.data= .fields vs)
  (m:(o.dict=aC/\∀n,mA n=aC)\/∃d,o.dict=ar d/\d≠x/\s.heap.Ns1 d mA)
  (l:∀h' tk' dx,h'.Ns1 dx (λy=>if y=name then ar v else mA y)->dx≠x->h'.get? x=ar {o with dict:=ar dx}->(o.dict=ar dx\/(o.dict=aC/\s.heap.get? dx=aC))->
   (∀b o,b≠x->b≠dx->s.heap.get? b=ar o->h'.get? b=ar o)->Q (.done (.ret .none)) {s with heap:=h',toks:=tk'}) (hw:Within mA ns:=by within_ways) (j:ns.length<=sizeLine:=by size_fits):
  ed (e_ prog w) A (storeInOwnDict (.ref x) (.ref C) (.str name tk) name v b) Q E s:=by
 obtain⟨cd,F,G,_⟩:=c.cd;obtain⟨h,g,d,t,os⟩:=s;obtain⟨oc,p,a4,B⟩:=o;dsimp only at J k O m;subst k O;unfold storeInOwnDict;refine JM (JR ?_);show ed _ _ (ownDictForStores (.ref x)>>=_) _ _ _;unfold ownDictForStores instanceDict;refine JM (JM (wpAny_loadPart J (JM ((looks_clsIn X F).here ?_))));rw[G];simp only[r7,h_,if_false];rcases m with⟨hdn,hmA⟩|⟨dx,hdx,hne,hns⟩
 ·have L:p=none:=hdn;subst L;simp only[typeHasDict,r7,Bool.or_self,h_,if_false];have Z:(h.push {cls:=.type "dict",data:=.dict #[]}).get? x=ar ⟨.ref C,aC,.fields vs,B⟩:=JO _ J;have W:x≠h.objs.size:=J7 (JU J);refine JM (wpAny_alloc' ?_);refine JM (wpAny_update' Z ?_);refine JR ?_;have z:((h.push {cls:=.type "dict",data:=.dict #[]}).update x λo=>{cls:=o.cls,dict:=ar h.objs.size,data:=o.data,slots:=o.slots}).get? h.objs.size
    =ar {cls:=.type "dict",data:=.dict #[]}:=
   (Lp _ _ _ _ W.symm).trans (Heap.get?_push_at rfl rfl)
  have q:((h.push {cls:=.type "dict",data:=.dict #[]}).update x λo=>{cls:=o.cls,dict:=ar h.objs.size,data:=o.data,slots:=o.slots}).Ns h.objs.size (λ_=>aC):=
   ⟨_, #[],_,z,rfl,λe he=>absurd he (by simp),λ_=>rfl⟩
  show ed _ _ (storeInDict h.objs.size (.str name tk) name v) _ _ _;unfold storeInDict newKeyGuard;refine JM (JR (JM (wpAny_nsSet1 (Heap.Ns1.of_empty q) λh' Y hs=>?_)));obtain⟨oD,I,H,T,U,S⟩:=Y.count (Nf name v Oi);refine JM (wpAny_lookBehind T (by rw[U];exact pastItsLine_dict (JX S (by rw[Ki,k_,KR];omega))) ?_)
  wp_walk
  refine l h' _ h.objs.size ?_ W.symm ?_ (.inr ⟨rfl,Ku (JQ _)⟩) (λb f r P u=>?_)
  ·obtain⟨o',es,i,e1,e2,e3,eu,a⟩:=Y;exact⟨o',es,i,e1,e2,e3,eu,λy=>by rw[a y];by_cases hy:y=name<;>simp[hy,hmA]⟩
  ·exact(hs.2 x W).trans (Lf _ Z rfl)
  ·exact(hs.2 b P).trans ((Lp _ _ _ _ r).trans (JO _ u))
 ·have N:p=ar dx:=hdx;subst N;refine JR ?_;show ed _ _ (storeInDict dx (.str name tk) name v) _ _ _;unfold storeInDict newKeyGuard;refine JM (JR (JM (wpAny_nsSet1 hns λh' Y hs=>?_)));obtain⟨oD,I,H,T,U,S⟩:=Y.count (Nf name v hw);refine JM (wpAny_lookBehind T (by rw[U];exact pastItsLine_dict (JX S (by rw[Ki];omega))) ?_)
  wp_walk
  exact l h' _ dx Y hne ((hs.2 x hne.symm).trans J) (.inl rfl) (λb f _ P u=>(hs.2 b P).trans u)
theorem my{Q:Unit->c_->Prop}(c:ExcS K C)(X:K.In s.heap)(J:s.heap.get? x=ar o)(N:o.cls= .ref C)(T:o.data= .fields vs)(q:B' K (.ref C) name=ar aC)
  (H:(o.dict=aC/\∀n,mA n=aC)\/∃d,o.dict=ar d/\d≠x/\s.heap.Ns1 d mA)
  (t:∀h' Y Z,h'.Ns1 Z (λy=>if y=name then ar v else mA y)->Z≠x->h'.get? x=ar {o with dict:=ar Z}->(o.dict=ar Z\/(o.dict=aC/\s.heap.get? Z=aC))->
   (∀b o,b≠x->b≠Z->s.heap.get? b=ar o->h'.get? b=ar o)->Q () {s with heap:=h',toks:=Y}) (G:Within mA ns:=by within_ways) (P:ns.length<=sizeLine:=by size_fits):
  ed (e_ prog w) A (setAttr (.ref x) name v) Q E s:=by
 obtain⟨cd,L,B,O⟩:=c.cd;have W:notCls o=true:=by unfold notCls;rw[T]
 have I:∃S,InstAt s.heap x o C S:=by
  rcases H with⟨hdn,_⟩|⟨Z,hdx,_,⟨S,es,ep,e1,_⟩⟩
  ·exact⟨aC,J,N,W,by rw[hdn];trivial⟩
  ·exact⟨ar S,J,N,W,by rw[hdx];exact e1⟩
 obtain⟨S,I⟩:=I;refine set_plain X I c.sa ?_;have U:=PySem.F.store_object;have sub:Looks (e_ prog w) s.heap (Oh (.ref x) (.type "object")) true:=I.type.andThen (looks_mroIn X c.ob);refine codeAny_call_builtin U.slot.plain U.entry (@check_slot (e_ prog w) _ _ {s with toks:=s.toks+1} "object.__setattr__" "object" "__setattr__" (.ref x) [.str name s.toks,v] [] _ U.kind U.split sub (U.args (.ref x) (.str name s.toks) v) ?_);have hm:Looks (e_ prog w) s.heap (mroOf (.ref C)) cd.mro:=(looks_clsIn X L).andThen .now;rw[osa_eq,refuse_eq];refine JM (JM (I.type _ _ _ _ (λ_ _ e=>e) (JM (hm _ _ _ _ (λ_ _ e=>e) ?_))));rw[Ay _ O];refine JR (JM (I.type _ _ _ _ (λ_ _ e=>e) (JM (looks_findIn X q _ _ _ _ (λ_ _ e=>e) (JM (JR ?_))))));exact Az (s:={s with toks:=s.toks+1}) c X J N T H (λh' Y Z a1 a2 u z r=>t h' Y Z a1 a2 u z r) G P
end
end
end S7
namespace S7
open PySem PySem.Spec PyProof.Rows L2 S3
def fu(C a t:cq)(od:Option cq):f'->Prop:=λh=>h.get? a=ar {cls:=.ref C,dict:=od,data:=.fields #[.ref t,.none,.none,.none,.bool dr,.none]}
def gv(dx:cq)(fs:List (Str×V)):f'->Prop:=λh=>∃mA,h.Ns1 dx mA/\(∀f,yY (fs.lookup f) (mA f))/\PySem.Within mA (fs.map (·.1))
theorem yp{Z:f'}(p:fu C a t od h1)(k:∀o,h1.get? a=ar o->Z.get? a=ar o):fu C a t od Z:=k _ p
theorem yq{Z:f'}(p:gv dx fs h1)(k:∀o,h1.get? dx=ar o->Z.get? dx=ar o):gv dx fs Z:=by obtain⟨mA,⟨o,es,Y,e,r⟩,q⟩:=p;exact⟨mA,⟨o,es,Y,k _ e,r⟩,q⟩
theorem AA(p:fu C a t od h):bK P w H h a (.ext (fu C a t od)):=⟨p,⟨_,p⟩,λ_ _ q k=>yp q k⟩
theorem DI(p:gv dx fs h):bK P w H h dx (.ext (gv dx fs)):=⟨p,(let ⟨_,⟨o,_,_,e,_⟩,_⟩:=p;⟨o,e⟩),λ_ _ q k=>yq q k⟩
section
variable {X:Cx}{pins:List (cq×Obj)}{σ:L2.St}{H:Hp}{s:c_}{h':f'}{t':Nat}
theorem Inv.laidG(I:L2.Inv X pins σ H s)(k:∀b u,s.heap.get? b=ar u->h'.get? b=ar u)(W:s.heap.get? a=aC)(Y:bK X.prog X.w (upd H a o) h' a o):L2.Inv X pins σ (upd H a o) {s with heap:=h',toks:=t'}:=by
 have Z:H a=none:=fY.gone I.hok W;have ne:∀b u,s.heap.get? b=ar u->b≠a:=λb u q=>gz q W;refine I.un (t':=t') ⟨λb u q _ _ _=>k b u q,λb u q _ _ _=>⟨u.slots,k b u q⟩,λb u q n _=>by rw[aK (ne b u q)];exact n,λb u q _=>⟨u,k b u q⟩,λb xs q=>by rw[aK (aO q Z)];exact q,λb u xs q=>by rw[aK (aO q Z)];exact q,λb U q=>⟨#[],by rw[aK (aO q Z),q];simp⟩⟩ λb u e=>?_;by_cases hb:b=a
 ·subst hb;rw[aY]at e;cases e;exact Y
 ·rw[aK hb]at e;exact(I.hok b u e).stay (λc v _ q=>k c v q) (λc q=>by rw[aK (aO q Z)];exact q) λc xs q=>by rw[aK (aO q Z)];exact q
theorem Inv.write2(I:L2.Inv X pins σ H s)(R:H a=ar (.ext φ))(Z:(∃ ψ,H b=ar (.ext ψ))\/s.heap.get? b=aC)(k:∀c v,c≠a->c≠b->s.heap.get? c=ar v->h'.get? c=ar v)(T:∃v,h'.get? a=ar v)(S:∃v,h'.get? b=ar v)
  (Q:b≠a) (P:∀H',bK X.prog X.w H' h' a o) (nb:∀H',bK X.prog X.w H' h' b u):L2.Inv X pins σ (upd (upd H b u) a o) {s with heap:=h',toks:=t'}:=by
 have U:∀c v,H c=ar v->(∀ ψ,v≠ .ext ψ)->c≠a/\c≠b:=λc v e n=>by
  refine⟨λz=>?_,λz=>?_⟩
  ·subst z;rw[R]at e;cases e;exact n _ rfl
  ·subst z;rcases Z with⟨ψ,Z⟩|Z
   ·rw[Z]at e;cases e;exact n _ rfl
   ·rw[fY.gone I.hok Z]at e;cases e
 have free:∀c v,s.heap.get? c=ar v->H c=aC->c≠a/\c≠b:=λc v q n=>by
  refine⟨λz=>?_,λz=>?_⟩
  ·subst z;rw[R]at n;cases n
  ·subst z;rcases Z with⟨ψ,Z⟩|Z
   ·rw[Z]at n;cases n
   ·rw[Z]at q;cases q
 have up:∀c v,H c=ar v->(∀ ψ,v≠ .ext ψ)->upd (upd H b u) a o c=ar v:=λc v e n=>by obtain⟨Y,W⟩:=U c v e n;rw[aK Y,aK W];exact e
 refine I.un (t':=t') ⟨λc v q n _ _=>k c v (free c v q n).1 (free c v q n).2 q,λc v q n _ _=>⟨v.slots,k c v (free c v q n).1 (free c v q n).2 q⟩,λc v q n _=>by rw[aK (free c v q n).1,aK (free c v q n).2];exact n,λc v q _=>?_,λc xs q=>up c _ q (by intro _ z;cases z),λc w xs q=>up c _ q (by intro _ z;cases z),λc O q=>⟨#[],by rw[up c _ q (by intro _ z;cases z)];simp⟩⟩ λc v e=>?_
 ·by_cases Y:c=a
  ·subst Y;exact T
  ·by_cases W:c=b
   ·subst W;exact S
   ·exact⟨v,k c v Y W q⟩
 ·by_cases Y:c=a
  ·subst Y;rw[aY]at e;cases e;exact P _
  ·rw[aK Y]at e;by_cases W:c=b
   ·subst W;rw[aY]at e;cases e;exact nb _
   ·rw[aK W]at e;have own:∀d,H d=ar (.own c)->d≠a/\d≠b:=λd q=>U d _ q (by intro _ z;cases z);refine(I.hok c v e).stay (λd w hd q=>?_) (λd q=>up d _ q (by intro _ z;cases z)) λd xs q=>up d _ q (by intro _ z;cases z);rcases hd with rfl|hd
    ·exact k _ w Y W q
    ·exact k d w (own d hd).1 (own d hd).2 q
end
section
variable {X:Cx}{o value:Expr}{ta tv:TE}{f:Str}{pos pos':Pos}
def Hf(K:dn)(ta tv:TE)(f:Str):TS:=λD σ H=>tv σ H λy H1=>ta σ H1 λx H2=>∃p C t,x= .ref p/\ExcS K C/\J_ K (.ref C) f=ar aC/\
  ((H2 p=ar (.ext (fu C p t aC))/\∀dx,H2 dx=aC->dx≠p->D.nx σ (upd (upd H2 dx (.ext (gv dx [(f,y)]))) p (.ext (fu C p t (ar dx)))))\/
   (∃dx fs,H2 p=ar (.ext (fu C p t (ar dx)))/\H2 dx=ar (.ext (gv dx fs))/\dx≠p/\fs.lookup f=aC/\fs.length<=100/\D.nx σ (upd (upd H2 dx (.ext (gv dx (fs++[(f,y)])))) p (.ext (fu C p t (ar dx))))))
theorem mz{α:Type}{g f:Str}{y:α}:∀{fs:List (Str×α)},fs.lookup f=aC->(fs++[(f,y)]).lookup g=if g=f then ar y else fs.lookup g
 |[],_=>by
  show(match g==f with|true=>ar y|false=>aC)=_;by_cases h:g=f
  ·subst h;simp
  ·rw[if_neg h,Mp h];rfl
 | (a,b)::r,h=>by
  rw[Kh]at h;by_cases hf:f=a
  ·subst hf;simp at h
  ·rw[Mp hf]at h;rw[qs,Kh,Kh,mz (fs:=r) h];by_cases hg:g=a
   ·subst hg;have Z:¬ g=f:=λz=>hf z.symm;simp[Z]
   ·rw[Mp hg]
theorem wJ(k:PE X o ta)(m:PE X value tv)(hs:nC value (ar (.Attribute o f pos')) pos.line X.env=a_ dr):PS X (.Assign [.Attribute o f pos'] value pos) (Hf X.K ta tv f):=by
 intro pins s σ H D I h;refine plainObj_wpAny_Assign_Attribute (dq (m pins s σ H _ I h) λu s1 ⟨y,H1,I1,ry,q⟩=>dq (k pins s1 σ H1 _ I1 q) λl s2 ⟨x,H2,I2,rx,p,C,t,ex,c,hf,q2⟩=>?_) hs;subst ex;obtain rfl:l=hF p:=rx;rcases q2 with⟨hp,q⟩|⟨Z,fs,hp,hd,Y,hl,hlen,q⟩
 ·have A:s2.heap.get? p=ar {cls:=.ref C,dict:=aC,data:=.fields #[.ref t,.none,.none,.none,.bool dr,.none]}:=(I2.hok p _ hp).1;refine my (mA:=λ_=>aC) (ns:=[]) c I2.kIn A rfl rfl hf (.inl ⟨rfl,λ_=>rfl⟩) (λh' T Z S Y W U L=>?_) Oi (by simp);rcases U with U|⟨_,hnew⟩
  ·cases U
  have O:fu C p t (ar Z) h':=W;have R:gv Z [(f,y)] h':=⟨_,S,λg=>by
   show yY (match g==f with|true=>ar y|false=>aC) _;by_cases hg:g=f
   ·subst hg;simp;exact ry
   ·rw[Mp hg,if_neg hg];exact trivial,Nf f u Oi⟩
  obtain⟨E,⟨n,es,r,e1,_⟩,_⟩:=id R;have G:=Inv.write2 (t':=T) (a:=p) (b:=Z) (o:=.ext (fu C p t (ar Z))) (u:=.ext (gv Z [(f,y)])) I2 hp (.inr hnew) (λc v N J q=>L c v N J q) ⟨_,W⟩ ⟨_,e1⟩ Y (λ_=>AA O) (λ_=>DI R);exact⟨σ,_,G,q Z (fY.gone I2.hok hnew) Y⟩
 ·have A:s2.heap.get? p=ar {cls:=.ref C,dict:=ar Z,data:=.fields #[.ref t,.none,.none,.none,.bool dr,.none]}:=(I2.hok p _ hp).1;obtain⟨mA,P,Q,hw⟩:=(I2.hok Z _ hd).1;refine my (mA:=mA) (ns:=fs.map (·.1)) c I2.kIn A rfl rfl hf (.inr ⟨Z,rfl,Y,P⟩) (λh' T B S w W U L=>?_) hw (by rw[JN,KR];omega);have F:Z=B:=by
   rcases U with U|⟨U,_⟩
   ·exact Ka U
   ·cases U
  subst F;have O:fu C p t (ar Z) h':=W;have R:gv Z (fs++[(f,y)]) h':=⟨_,S,λg=>by
   rw[mz hl];by_cases hg:g=f
   ·subst hg;simp;exact ry
   ·rw[if_neg hg,if_neg hg];exact Q g,by
   have:=Nf f u hw;intro z j;have:=this z j;simp only[List.map_append,pa,u',List.mem_append,hO,hh,or_false]at this⊢;exact this.symm⟩
  obtain⟨E,⟨n,es,r,e1,_⟩,_⟩:=id R;have G:=Inv.write2 (t':=T) (a:=p) (b:=Z) (o:=.ext (fu C p t (ar Z))) (u:=.ext (gv Z (fs++[(f,y)]))) I2 hp (.inl ⟨_,hd⟩) (λc v N J q=>L c v N J q) ⟨_,W⟩ ⟨_,e1⟩ Y (λ_=>AA O) (λ_=>DI R);exact⟨σ,_,G,q⟩
end
end S7
section
namespace S7
open PySem PySem.Spec PyProof.Rows L2 S3
theorem CO{K:dn}{Z:Str->Option b_}(X:K.In h)(G:h.Ns N Z)(e:pd K N n=ar (ar v)):Z n=ar v:=by
 obtain⟨o,es,U,Y,hd,_,hf⟩:=G;unfold pd at e;split at e
 ·rename_i c d es' n' sl q
  have:=X _ _ q;rw[Y]at this;cases this;cases hd;split at e
  ·rename_i en he
   cases e;rw[<-hf];unfold nsFind findBy;rw[<-Array.find?_toList,he];rfl
  ·split at e<;>cases e
 ·cases e
def jG(K:dn)(C f:cq):Bool:=match K.lookup C with
 |some ⟨.type "type",_,.cls cd,sl⟩=>(match cd.mro,sl.toList with
  | .ref C'::bm,[_,_,_,_,ar (.builtin n),_]=>C'==C && n=="ValueError.__new__" && !cd.hasDel && W.tailIn K Gb bm && W.nsOkIn K cd.ns && pd K cd.ns "__init__"==ar (ar (.ref f)) && cd.hasDict && tK cd.mro
  |_,_=>dr) && (J_ K (.ref C) "__setattr__"==ar (ar (.builtin "object.__setattr__"))) && (match K.lookup f with|some o=>o.cls== .type "function"|none=>dr)
 |_=>dr
theorem qc{K:dn}(X:K.In h)(c:ExcC K C)(q:jG K C f=b'):ExcS K C/\(∃o,K.lookup f=ar o/\o.cls= .type "function")/\∃bm N nm qn bs hdct sn sub ab col dd k0 k1 k2 k3 k5 mN,
  h.get? C=ar (u_ nm qn C N bs bm hdct sn sub ab col dd k0 k1 k2 k3 k5 "ValueError.__new__")/\h.Ns N mN/\mN "__init__"=ar (.ref f)/\N6 h Gb bm:=by
 unfold jG at q;split at q
 case h_2=>cases q
 case h_1 dd cd L ho=>
 simp only[i_,beq_iff_eq]at q;obtain⟨⟨q,R⟩,Y⟩:=q;split at q
 case h_2=>cases q
 case h_1 C' bm k0 k1 k2 k3 n k5 hm hs=>
 simp only[i_,beq_iff_eq,Bool.not_eq_true']at q;obtain⟨⟨⟨⟨⟨⟨⟨J,en⟩,Z⟩,I⟩,U⟩,O⟩,Q⟩,T⟩:=q;subst J en;have S:OH K C'=ar cd:=by unfold OH;rw[ho]
 refine⟨⟨R,c.ob,cd,S,Q,T⟩,?_,?_⟩
 ·split at Y
  ·next o hf=>exact⟨o,hf,Nk.mp Y⟩
  ·cases Y
 rcases cd with⟨nm,bs,mro,ns,qn,hd,sn,sub,ab,col,del⟩;dsimp only at hm Z U O;subst hm Z;obtain rfl:L= #[k0,k1,k2,k3,ar (.builtin "ValueError.__new__"),k5]:=by rcases L with⟨l⟩;simp only at hs;rw[hs]
 have P:h.Ns ns (h.nsMap ns):=.of_isNs (W.isNs_of_in X U);exact⟨bm,ns,nm,qn,bs,hd,sn,sub,ab,col,dd,k0,k1,k2,k3,k5,_,X _ _ ho,P,CO X P O,W.tail_of_in X I⟩
def HP(C:cq):Sp:=λvs H Q _=>∃e t v1 v2,vs=[.ref e,v1,v2]/\H e=ar (.ext (fu C e t aC))/\∀dx,H dx=aC->dx≠e->Q .non (upd (upd H dx (.ext (gv dx [("many",v1),("most",v2)]))) e (.ext (fu C e t (ar dx))))
theorem tL(h:a≠b):upd (upd H a o) b u=upd (upd H b u) a o:=by
 funext c;unfold upd;by_cases h1:c=b
 ·by_cases h2:c=a
  ·exact absurd (h2.symm.trans h1) h
  ·rw[if_pos h1,if_neg h2,if_pos h1]
 ·rw[if_neg h1];by_cases h2:c=a
  ·rw[if_pos h2,if_pos h2]
  ·rw[if_neg h2,if_neg h2,if_neg h1]
theorem CP{P:d_}{w:ee}{K:dn}{S:Str->Option b_}{base:f'}{C f:cq}{J:f_}{X:nf}{o m n u B p G z:Pos}(F:Fun K "__init__" "TooGreat.__init__" X f J)(L:ExcS K C)(c:ExcC K C)
  (r:FnScope ["self","many","most"] ["self","many","most"] (ak X)) (N:∀x∈(["self","many","most"]:List Str),(ak X).names.lookup x=ar .local)
  (y:cO X=[.Assign [.Attribute (.Name "self" o) "many" m] (.Name "many" n) u,.Assign [.Attribute (.Name "self" B) "most" p] (.Name "most" G) z]):
  FnOk P w K S base (lO P w) 1 f J ["self","many","most"] (HP C):=by
 obtain⟨l,k,kV,doc,pm,an,U,ct,v,rfl,I,R⟩:=F.ex;refine Dy I R r (λvs H Q E ⟨_,_,_,_,h,_⟩=>by rw[h];rfl) λA outer s H vs Q E j h=>?_;rw[y];have v0:Du (lC (lO P w) P w K S base ["self","many","most"] "TooGreat.__init__" (ak X) f U A outer s H E).env.scope "self":=.inl (N "self" (by simp));have v1:Du (lC (lO P w) P w K S base ["self","many","most"] "TooGreat.__init__" (ak X) f U A outer s H E).env.scope "many":=.inl (N "many" (by simp));have v2:Du (lC (lO P w) P w K S base ["self","many","most"] "TooGreat.__init__" (ak X) f U A outer s H E).env.scope "most":=.inl (N "most" (by simp));refine⟨_,sv (wJ (pv 0 rfl v0) (pv 1 rfl v1) rfl) (qD (wJ (pv 0 rfl v0) (pv 2 rfl v2) rfl)),?_⟩;obtain⟨e,t,T,O,rfl,he,q⟩:=h;refine⟨T,rfl,.ref e,rfl,e,C,t,rfl,L,c.mf,.inl ⟨he,λZ hd Y=>?_⟩⟩;refine⟨O,rfl,.ref e,rfl,e,C,t,rfl,L,c.ms,.inr ⟨Z,[("many",T)],aY,by rw[aK Y];exact aY,Y,rfl,by simp,?_⟩⟩;have:=q Z hd Y;have e2:upd (upd (upd (upd H Z (.ext (gv Z [("many",T)]))) e (.ext (fu C e t (ar Z)))) Z (.ext (gv Z [("many",T),("most",O)]))) e (.ext (fu C e t (ar Z)))=upd (upd H Z (.ext (gv Z [("many",T),("most",O)]))) e (.ext (fu C e t (ar Z))):=by rw[tL Y.symm,qB,qB]
 show Q .non _;rw[<-e2]at this;exact this
section
variable {X:Cx}{Ek:XK}
theorem Inv.forget{H:Hp}(I:L2.Inv X pins σ (upd (upd H dx (.ext (gv dx fs))) e (.ext φ)) s)(Q:H dx=aC)(S:H e=aC)(T:dx≠e):
  L2.Inv X pins σ (upd H dx (.xd fs)) s:=by
 have Z:∀b u,upd (upd H dx (.ext (gv dx fs))) e (.ext φ) b=ar u->(∀ χ,u≠ .ext χ)->upd H dx (.xd fs) b=ar u:=λb u q n=>by
  by_cases W:b=e
  ·subst W;rw[aY]at q;cases q;exact absurd rfl (n _)
  ·rw[aK W]at q;by_cases Y:b=dx
   ·subst Y;rw[aY]at q;cases q;exact absurd rfl (n _)
   ·rw[aK Y]at q⊢;exact q
 have U:∀b,upd (upd H dx (.ext (gv dx fs))) e (.ext φ) b=aC->upd H dx (.xd fs) b=none:=λb q=>by
  by_cases W:b=e
  ·subst W;rw[aY]at q;cases q
  ·rw[aK W]at q;by_cases Y:b=dx
   ·subst Y;rw[aY]at q;cases q
   ·rw[aK Y]at q⊢;exact q
 refine I.un (t':=s.toks) ⟨λb o q _ _ _=>q,λb o q _ _ _=>⟨o.slots,q⟩,λb o _ n _=>U b n,λb o q _=>⟨o,q⟩,λb xs q=>Z b _ q (by intro _ z;cases z),λb o u q=>Z b _ q (by intro _ z;cases z),λb P q=>⟨#[],by rw[Z b _ q (by intro _ z;cases z)];simp⟩⟩ λb u q=>?_;by_cases Y:b=dx
 ·subst Y;rw[aY]at q;cases q;have R:=I.hok b (.ext (gv b fs)) (by rw[aK T];exact aY);obtain⟨mA,W,Y,_⟩:=R.1;exact⟨mA,W,Y⟩
 ·rw[aK Y]at q;have W:b≠e:=λz=>by rw[z,S]at q;cases q
  exact(I.hok b u (by rw[aK W,aK Y];exact q)).stay (λ_ _ _ z=>z) (λc z=>Z c _ z (by intro _ z;cases z)) λc xs z=>Z c _ z (by intro _ z;cases z)
def AB:List D->M Out
 |[a,b]=>M.raise (.exc "TooGreat" [a,b])
 |_=>M.fail
abbrev mW(ms:aA->M (List D)):cT:=λρ=>do let ds<-ms ρ;AB ds
theorem yr(L:Leaves X Ek)(hc:X.calm=b')(eK:mw X.K=b')(a6:pd X.K g_ "TooGreat"=ar (ar (.ref C)))(b:jG X.K C f=b')
  (F:FnOk X.prog X.w X.K X.mg X.base (lO X.prog X.w) k f fd ["self","many","most"] (HP C)) (hb:Binds X.K fd ["self","many","most"] []) (hr:Room (k+1) X.A)
  (ha:SA X (vo X.K Ek) (e::es) ms) (hg:Gl X "TooGreat":=by rfl)
  (he:dt (e::es) X.env=(dr,i4 e X.env)::dt es X.env:=by rfl) (a:(lx cpos (dt es X.env)).any (·.1)=false:=by rfl):
  SS X (vo X.K Ek) (.Raise (ar (.Call (.Name "TooGreat" np) (e::es) [] cpos)) aC pos) (mW ms):=by
 intro pins s σ H T I h;obtain⟨ι,S,ρ,rep,re,c⟩:=h;obtain⟨R,j⟩:=nS eK (show("TooGreat":Str)∈c9 by decide);have eC:R=C:=by have:=j.ns.symm.trans a6;cases this;rfl
 subst eC;obtain⟨cS,⟨oI,a9,a0⟩,bm,N,nm,qn,bs,hdct,sn,sub,ab,col,dd,k0,k1,k2,k3,k5,mN,hC,hN,hi,tl⟩:=qc I.mod.kin j.ck b;have hm:X.mg "TooGreat"=ar (.ref R):=Li I.mod.kin I.mod.glob j.ns;refine tJ (k5:=k5) (k3:=k3) (k2:=k2) (k1:=k1) (k0:=k0) (nm:=nm) (q:=qn) (C:=R) (N:=N) (bm:=bm) (bs:=bs) (hdct:=hdct) (sn:=sn) (sub:=sub) (ab:=ab) (col:=col) (dd:=dd) (fI:=f) (oI:=oI) Lc (by decide) Lc (mN:=mN) (tl.hasType PySem.F.excBase_ValueError.hasBase) (I.ok.hd hc) (by rw[he];show(dr||(lx cpos (dt es X.env)).any (·.1))=dr;rw[a];rfl) hi a0 (jx I hg hm ⟨rfl,?_⟩ (by decide));have J:=ha cpos pins s σ H _ I ⟨ι,S,ρ,rep,re,ao (ag c) λds Y S1 Q e1 rep1 c1 vs B=>(⟨Y,S1,ds,rep1,B,c1⟩:∃Y S1 ds,Rep X.K Y Q S1/\RelDs X.K Y Q ds vs/\cont X.K (vo X.K Ek) (AB ds) Y S1 Q _)⟩;rw[he]at J⊢;refine Mg (Kb J (λus s2 a8=>?_) λ_ _ z=>z);obtain⟨vs,Q,y,rv,Y,S1,ds,rep1,B,c1⟩:=a8
 match ds,B,c1 with
 |[],B,c1=>exact(ah c1).elim
 |[_],B,c1=>exact(ah c1).elim
 |_::_::_::_,B,c1=>exact(ah c1).elim
 | [da,db],B,c1=>
  obtain⟨p,ws,rfl,ra,r2⟩:=B.cons_inv;obtain⟨o,c0,rfl,rb,r3⟩:=r2.cons_inv;cases r3.nil_inv;have hlen:us.length=2:=rv.length.symm;refine⟨rfl,?_,y.bk _ _ hC,hN.keeps y.bk,tl.keeps y.bk,y.bk _ _ (I.mod.kin _ _ a9),λh' Z hm=>?_⟩
  ·show us.length<=sizeLine;rw[hlen,KR];decide
  ·obtain⟨t,h1,h2,h3⟩:=hm.there;have l:Q Z=none:=fY.gone y.hok hm.new;have i:L2.Inv X pins σ (upd Q Z (.ext (fu R Z t aC))) {s2 with heap:=h'}:=Inv.laidG (t':=s2.toks) y hm.keeps hm.new (AA h1);have a3:HP R [.ref Z,p,o] (upd Q Z (.ext (fu R Z t aC))) (λv H'=>v= .non/\∃U,upd Q Z (.ext (fu R Z t aC)) U=aC/\U≠Z/\H'=upd (upd (upd Q Z (.ext (fu R Z t aC))) U (.ext (gv U [("many",p),("most",o)]))) Z (.ext (fu R Z t (ar U)))) Ek:=
    ⟨Z,t,p,o,rfl,aY,λU hd P=>⟨rfl,U,hd,P,rfl⟩⟩
   have a4:bh [V.ref Z,p,o] (hF Z::us):=.cons rfl rv;refine Nj (L9 (F.run _ X.stack _ _ ⟨hF Z::us,[]⟩ (hF Z::us) _ _ Ek (hr.make R us []) (i.env0.make R us []) ?_ a4 a3) λr s' G=>?_)
   ·have:=hb {s2 with heap:=h'} (hF Z::us) i.kIn (by simp[hlen]);rw[Ky]at this;exact this
   ·cases r with
    |error x=>exact L.pass pins σ _ _ x s' i G
    | ok fl=>
     cases fl with
     |next=>exact iA G
     |brk=>exact iA G
     |cont=>exact iA G
     | ret u=>
      obtain⟨v,H',g,d,ev,U,n,P,rfl⟩:=i.after G;subst ev;have O:Q U=none:=by rw[aK P]at n;exact n
      have e2:upd (upd (upd Q Z (.ext (fu R Z t aC))) U (.ext (gv U [("many",p),("most",o)]))) Z (.ext (fu R Z t (ar U)))=upd (upd Q U (.ext (gv U [("many",p),("most",o)]))) Z (.ext (fu R Z t (ar U))):=by rw[tL P.symm,qB]
      rw[e2]at g;have E:s'.heap.get? Z=ar {cls:=.ref R,dict:=ar U,data:=.fields #[.ref t,.none,.none,.none,.bool dr,.none]}:=(g.hok Z _ aY).1;have I4:=Inv.forget g O l P;refine⟨d,t,ar U,g.bk _ _ hC,E,?_⟩;obtain⟨r',S',e',q'⟩:=c1;cases e';have m:=y.base;rw[L.ex]at m;refine L.new I4 E rfl rfl rfl rfl (by rw[aK (k8 P)];exact l) (Un.gone m (by simp) hm.new) ?_;have hE:Ext Y Q Y (upd Q U (.xd [("many",p),("most",o)])):=ie O;exact q' Y _ hE (kA rep1 O) _ _ ⟨"TooGreat",[da,db],R,rfl,j.ns,rfl,.inr ⟨U,_,rfl,aY,rfl,.cons (ra.later rep1 hE) (.cons (rb.later rep1 hE) .nil)⟩⟩
end
end S7
end
namespace S7
open PySem PySem.Spec PyProof.Rows L2 S3
section
variable {X:Cx}{E:XD}{pins:List (cq×Obj)}{σ:L2.St}{H:Hp}{s:c_}
end
section
variable {X:Cx}{E:XD}{st:nf}{m:TM}{i:Nat}
theorem RelE.all{K:dn}{U Z:List cq}{H T:Hp}{n:Nat}(Y:∀e v,fF n e=b'->RelD K U H e v->RelD K Z T e v):
  ∀{ρ:aA} {σ:L2.St},RelE K U H ρ σ->(∀e,ar e∈ρ->fF n e=b')->RelE K Z T ρ σ
 |[],_,h,_=>by cases h;exact .nil
 |_::ρ,_,.cons h t,c=>.cons (λd' z=>by obtain⟨v,e1,e2⟩:=h _ z;exact⟨v,e1,Y _ v (c d' (by rw[z];exact J9 ..)) e2⟩) (RelE.all Y t λe z=>c e (JZ _ z))
theorem RelE.swap{K:dn}{U Z:List cq}{H T:Hp}{n:Nat}{d u:D}(S:∀v,RelD K U H d v->RelD K Z T u v)(Y:∀e v,fF n e=b'->RelD K U H e v->RelD K Z T e v):
  ∀{ρ:aA} {i:Nat} {σ:L2.St},RelE K U H (ρ.set i (ar d)) σ->(∀e,ar e∈ρ->fF n e=b')->RelE K Z T (ρ.set i (ar u)) σ
 |[],_,_,h,_=>by cases h;exact .nil
 |_::ρ,0,_,.cons h t,c=>.cons (λd' z=>by cases z;obtain⟨v,e1,e2⟩:=h _ rfl;exact⟨v,e1,S v e2⟩) (RelE.all Y t λe z=>c e (JZ _ z))
 |_::ρ,i+1,_,.cons h t,c=>.cons (λd' z=>by obtain⟨v,e1,e2⟩:=h _ z;exact⟨v,e1,Y _ v (c d' (by rw[z];exact J9 ..)) e2⟩) (RelE.swap S Y (ρ:=ρ) (i:=i) t λe z=>c e (JZ _ z))
theorem nY(h:SS X E st (bS i m)):SS X E st (bS i (aR m)):=by
 intro pins s σ H T I O;obtain⟨Y,S,ρ,rep,re,r,F,t,k⟩:=O;have Z:(kf (m ρ)>>=λd=>(a_ (Out.nx (ρ.set i (ar d))):M Out)) S=ar (r,F):=t;have C:∀(c:M D),(c>>=λd=>(a_ (Out.nx (ρ.set i (ar d))):M Out)) S=(match c S with|some (.ok d,S1)=>ar (.ok (Out.nx (ρ.set i (ar d))),S1)|some (.ex x,S1)=>ar (.ex x,S1)|none=>aC):=λc=>by
  show M.bnd c _ S=_;unfold M.bnd;cases c S with
  |none=>rfl
  |some p=>obtain⟨r,S1⟩:=p;cases r<;>rfl
 rw[C]at Z;unfold kf at Z;cases q:m ρ S with
 |none=>rw[q]at Z;cases Z
 | some p=>
  obtain⟨A,L⟩:=p;rw[q]at Z;have J:bS i m ρ S=_:=C (m ρ);rw[q]at J;cases A with
  |ex x=>
   cases Z;exact h pins s σ H T I ⟨Y,S,ρ,rep,re,.ex x,_,J,k⟩
  | ok d=>
   dsimp only at Z;by_cases hl:L.length<=S.length
   ·rw[if_pos hl]at Z;cases Z;exact h pins s σ H T I ⟨Y,S,ρ,rep,re,_,_,J,k⟩
   ·rw [if_neg hl]at Z;by_cases hk:nX S L
    ·rw [if_pos hk]at Z;cases z:jF S.length (B0 L S.length 60) d with
     |none=>rw[z]at Z;cases Z
     | some u=>
      rw[z]at Z;cases Z;refine dq (h pins s σ H {nx:=λU N=>∃P:List cq,∀os,T.nx U (mx P os N),rt:=λ_ _=>False} I ⟨Y,S,ρ,rep,re,_,_,J,λR N x W U G=>?_⟩) λf s' hf=>?_
      ·refine⟨R.drop Y.length,λos=>?_⟩;obtain⟨o,rep2⟩:=tF rep x W hk os;have Q:Rep X.K Y (mx (R.drop Y.length) os N) (L.take S.length):=by rw[<-rep.len];exact rep2
       have O:R.take Y.length=Y:=by obtain⟨more,rfl⟩:=x.ids;simp
       refine k Y _ o Q U ?_;refine RelE.swap (n:=Y.length) (d:=d) (u:=u) (λv B=>?_) (λe v c r=>?_) G λe z=>?_
       ·have:=vv (n:=Y.length) (os:=os) (λk us a=>by rw[rep.len];exact wH W 60 k us a) W.nd B (by rw[rep.len];exact z);rw[O]at this;exact this
       ·have:=RelD.down (n:=Y.length) (os:=os) r c;rw[O]at this;exact this
       ·obtain⟨j,w⟩:=List.getElem?_of_mem z;obtain⟨v,_,r⟩:=re.get w;exact r.cl
      ·cases f with
       |next=>
        obtain⟨U,N,g,P,l⟩:=hf;obtain⟨os,y⟩:=Inv.fz g P;exact⟨U,_,y,l os⟩
       |ret v=>obtain⟨_,_,_,_,_,z⟩:=hf;exact z.elim
       |brk=>obtain⟨_,_,_,z⟩:=hf;exact z.elim
       |cont=>obtain⟨_,_,_,z⟩:=hf;exact z.elim
    ·rw[if_neg hk]at Z;cases Z
end
def Hg:nf->nf
 | .ClassDef _ _ _ (b::_) .. =>b
 |s=>s
structure GrX(P:d_)(w:ee)(K:dn)(mg:Str->Option b_)(base:f'):Prop where
 ex:∃C f fd,pd K g_ "TooGreat"=ar (ar (.ref C))/\jG K C f=b'/\FnOk P w K mg base (lO P w) 1 f fd ["self","many","most"] (HP C)/\Binds K fd ["self","many","most"] []
theorem AC{P:d_}{w:ee}{K:dn}{y:Str->Option b_}{base h:f'}{C f:cq}{R:f_}{U:nf}{H B E N G L J z:Pos}(F:Fun K "__init__" "TooGreat.__init__" U f R)(X:K.In h)(O:mw K=b')(Y:pd K g_ "TooGreat"=ar (ar (.ref C)))(Z:jG K C f=b')
  (I:FnScope ["self","many","most"] ["self","many","most"] (ak U)) (A:∀x∈(["self","many","most"]:List Str),(ak U).names.lookup x=ar .local) (S:Binds K R ["self","many","most"] [])
  (Q:cO U=[.Assign [.Attribute (.Name "self" H) "many" B] (.Name "many" E) N,.Assign [.Attribute (.Name "self" G) "most" L] (.Name "most" J) z]):GrX P w K y base:=by
 obtain⟨v,T⟩:=nS O (show("TooGreat":Str)∈c9 by decide);have:=T.ns.symm.trans Y;cases this;exact⟨C,f,R,Y,Z,CP F (qc X T.ck Z).1 T.ck I A Q,S⟩
section
variable {X:Cx}{Ek:XK}
theorem AD(L:Leaves X Ek)(Q:X.calm=b')(W:mw X.K=b')(Y:GrX X.prog X.w X.K X.mg X.base)(P:Room 2 X.A)
  (O:SA X (vo X.K Ek) (e::es) ms) (J:Gl X "TooGreat":=by rfl)
  (R:dt (e::es) X.env=(dr,i4 e X.env)::dt es X.env:=by rfl) (Z:(lx cpos (dt es X.env)).any (·.1)=false:=by rfl):
  SS X (vo X.K Ek) (.Raise (ar (.Call (.Name "TooGreat" np) (e::es) [] cpos)) aC pos) (mW ms):=by
 obtain⟨C,f,fd,U,S,T,N⟩:=Y.ex;exact yr L Q W U S T N P O J R Z
end
def Jb(K:dn):Bool:=c9.all λn=>match pd K g_ n with
 |some (ar (.ref C))=>(match OH K C with|some cd=>cd.hasDict|none=>b')
 |_=>b'
section
variable {X:Cx}{E:XD}
end
end S7
namespace S3
open PySem PySem.Spec PyProof.Rows L2 S4
mutual
theorem AE:∀d,fF n d=b'->jF n g d=ar d
 | .lst k,h=>by unfold fF at h;unfold jF;rw[if_pos (Kd h)]
 | .tup ds,h=>by unfold fF at h;unfold jF;rw[gC ds h];rfl
 | .ro ds,h=>by unfold fF at h;unfold jF;rw[gC ds h];rfl
 | .fz ds,h=>by unfold fF at h;unfold jF;rw[gC ds h];rfl
 | .fn _ _ _ ds _,h=>by unfold fF at h;unfold jF;rw[gC ds h];rfl
 | .exc _ ds,h=>by unfold fF at h;unfold jF;rw[gC ds h];rfl
 | .non,_=>by unfold jF;rfl
 | .bl _,_=>by unfold jF;rfl
 | .int _,_=>by unfold jF;rfl
 | .str _,_=>by unfold jF;rfl
 | .emp,_=>by unfold jF;rfl
theorem gC:∀ds,cA n ds=b'->iU n g ds=ar ds
 |[],_=>by unfold iU;rfl
 |d::ds,h=>by
  unfold cA at h;rw[KU]at h;unfold iU;rw[AE d h.1,gC ds h.2]
end
mutual
theorem DJ(Z:m<=n):∀d,fF m d=b'->fF n d=b'
 | .lst k,h=>by unfold fF at h⊢;exact JT (J1 (Kd h) Z)
 | .tup ds,h=>by unfold fF at h⊢;exact je Z ds h
 | .ro ds,h=>by unfold fF at h⊢;exact je Z ds h
 | .fz ds,h=>by unfold fF at h⊢;exact je Z ds h
 | .fn _ _ _ ds _,h=>by unfold fF at h⊢;exact je Z ds h
 | .exc _ ds,h=>by unfold fF at h⊢;exact je Z ds h
 | .non,_=>by unfold fF;rfl
 | .bl _,_=>by unfold fF;rfl
 | .int _,_=>by unfold fF;rfl
 | .str _,_=>by unfold fF;rfl
 | .emp,_=>by unfold fF;rfl
theorem je(Z:m<=n):∀ds,cA m ds=b'->cA n ds=b'
 |[],_=>by unfold cA;rfl
 |d::ds,h=>by
  unfold cA at h⊢;rw[KU]at h⊢;exact⟨DJ Z d h.1,je Z ds h.2⟩
end
section
variable {c:M D}{S:aB}{Q:D->aB->Prop}{v:D}
theorem rz:kf (a_ v)=a_ v:=by funext S;show(if S.length<=S.length then _ else _)=_;rw[if_pos (JQ _)];rfl
theorem AF:kf (M.raise x)=M.raise x:=rfl
theorem rC(e:c S=ar (.ok d,S'))(Z:nX S S')(X:S.length<S'.length\/u=d)(W:S.length<=S'.length)(Y:jF S.length (B0 S' S.length 60) d=ar u):kf c S=ar (.ok u,S'.take S.length):=by
 unfold kf;rw[e];dsimp only;by_cases h:S'.length<=S.length
 ·have hd:u=d:=X.resolve_left (by omega);rw[if_pos h,hd,L5 h]
 ·rw[if_neg h,if_pos Z,Y]
theorem vz:nX S (S++G):=λk xs Z e=>.inl (by rw[Kq Z]at e;exact e)
theorem AG(h:runs c S λd Z=>∃G p us,d= .lst p/\Z=S++G/\Z[p]? =ar us/\S.length<=p/\cA S.length us=b'/\Q (.fz us) S):runs (kf c) S Q:=by
 obtain⟨d,Z,e,G,p,us,rfl,rfl,Y,U,W,q⟩:=h;have X:=(JV.mp Y).1;refine⟨.fz us,S,?_,q⟩;have:=rC (u:=.fz us) e vz (.inl (by omega)) (by simp) (by unfold jF;rw[if_neg (by omega)];show(((S++G)[p]?).bind λxs=>iU S.length (B0 (S++G) S.length 59) xs).map D.fz=_;rw[Y,Option.bind_some,gC us W];rfl)
 rw[this];simp
theorem bM{α:Type}{c:M α}{v:α}(h:∀S,runs c S λd Z=>d=v/\Z=S):c=a_ v:=by funext S;obtain⟨d,Z,e,rfl,rfl⟩:=h S;exact e
theorem wK(Y:cA 0 us=b')(h:∀S,runs c S λd Z=>∃G p,d= .lst p/\Z=S++G/\Z[p]? =ar us/\S.length<=p):kf c=a_ (.fz us):=
 bM λS=>AG (x9 (h S) λd Z ⟨G,p,e1,e2,e3,e4⟩=>⟨G,p,us,e1,e2,e3,e4,je (Kk _) us Y,rfl,rfl⟩)
theorem cb(Y:cA 0 us=b')(Z:us.length<=lim):kf (bt us)=a_ (.fz us):=
 wK Y λS=>ya.mpr ⟨Z,[us],S.length,rfl,rfl,by simp,JQ _⟩
end
theorem cn:fG ⟨its,.none⟩=a_ ():=by funext S;unfold fG;rw[if_pos (show Iter.okS ⟨its,.none⟩ S from trivial)];rfl
section
variable {its:List D}{g:lu}{t:aA->M Bool}{m:TM}
theorem tN(R:aA->Prop)(q:D->Bool)(f:D->D):∀(items:List D) (ρ:aA),R ρ->(∀d∈items,∀ ρ,R ρ->∃Z,g d ρ=a_ Z/\R Z/\t Z=a_ (q d)/\(q d=b'->m Z=a_ (f d)))->
  cN ⟨its,.none⟩ g t m items ρ=a_ ((items.filter q).map f)
 |[],ρ,_,_=>by unfold cN;rw[cn];rfl
 |d::ds,ρ,hR,hb=>by
  obtain⟨Z,e1,Y,e2,X⟩:=hb d (J9 ..) ρ hR;have W:=tN R q f ds Z Y λx U=>hb x (JZ _ U);unfold cN;rw[cn,aj,e1,aj,e2,aj,W];cases hq:q d with
  |true=>rw[LX hq,if_pos rfl,X hq,aj];rfl
  |false=>rw[LY (by rw[hq];decide),if_neg (by decide)]
theorem wL(R:aA->Prop)(q:D->Bool)(f:D->D)(X:its.length<=lim)(Y:R ρ)(Z:∀d∈its,∀ ρ,R ρ->∃ ρ1,g d ρ=a_ ρ1/\R ρ1/\t ρ1=a_ (q d)/\(q d=b'->m ρ1=a_ (f d))):
  eX ⟨its,.none⟩ g t m ρ=a_ ((its.filter q).map f):=by
 unfold eX;rw[if_pos X];exact tN R q f its ρ Y Z
theorem wM{bd:BM}(R:aA->Prop)(q:D->Bool)(f:D->List D):∀(items:List D) (ρ:aA),R ρ->(∀d∈items,∀ ρ,R ρ->∃Z,g d ρ=a_ Z/\t Z=a_ (q d)/\(q d=b'->∃Y,R Y/\bd Z=a_ (f d,Y))/\(q d=dr->R Z))->
  ∃ ρ',R ρ'/\cB ⟨its,.none⟩ g t bd items ρ=a_ ((items.filter q).flatMap f,ρ')
 |[],ρ,hR,_=>⟨ρ,hR,by unfold cB;rw[cn];rfl⟩
 | d::ds,ρ,hR,hb=>by
  obtain⟨Z,e1,e2,Q,P⟩:=hb d (J9 ..) ρ hR;have W:=λx O=>hb x (JZ d O);cases hq:q d with
  |true=>
   obtain⟨Y,T,S⟩:=Q hq;obtain⟨ρ',X,U⟩:=wM R q f ds Y T W;refine⟨ρ',X,?_⟩;unfold cB;rw[cn,aj,e1,aj,e2,aj,hq,if_pos rfl,S,aj];show(cB _ g t bd ds Y>>=_)=_;rw[U,aj,LX hq];rfl
  |false=>
   obtain⟨ρ',X,U⟩:=wM R q f ds Z (P hq) W;refine⟨ρ',X,?_⟩;unfold cB;rw[cn,aj,e1,aj,e2,aj,hq,if_neg (by decide),U,LY (by rw[hq];decide)]
end
end S3
namespace S7
open PySem PySem.Spec PyProof.Rows L2 S3
section
variable {X:Cx}{E:XD}{k i jn jy:Nat}{a c':cq}{ql:Str}{ds:List D}{vs:List V}{m:TM}{x n y cx:Str}{p cpos epos np p1 p2 p3 hpos tpos:Pos}
end
section
variable {X:Cx}{x ql:Str}{k k0 i:Nat}{a c':cq}{ps:List Str}{R:D->M D->List D->M D}{R':M D->List D->M D}{p pos:Pos}{e:Expr}{es:List Expr}{ms:S3.aA->M (List D)}{m:TM}{ds:List D}{vs:List V}
end
section
variable {X:Cx}{E:XD}{pos:Pos}
end
section
variable {jc:Nat}{X:Cx}{k:Nat}{f CW:cq}{fd:f_}{ps:List Str}{sp:Sp}{x c:Str}{p pos rp np p2 p3 hpos tpos:Pos}{e:Expr}{es:List Expr}{t:TA}
theorem yt(O:X.stack=X.env::X.outer)(a8:X.env.frame=ar X.env.locals)(F:FnOk X.prog X.w X.K X.mg X.base (lO X.prog X.w) k f fd ps sp)(hr:Room k X.A)(hg:Gl X x)(hm:X.mg x=ar (.ref f))(hk:rA X.K (.ref f)=b')(hb:Binds X.K fd ps [])
  (ha:PA X.nox (e::es) t) (b4:Gl X c) (b0:Mod X.K X.mg X.base->X.mg c=ar (.ref CW)) (d:(x==("__debug__":Str))=false:=by decide) (a5:(c==("__debug__":Str))=false:=by decide)
  (he:dt (e::es) X.env=(dr,i4 e X.env)::dt es X.env:=by rfl) (a9:(lx pos (dt es X.env)).any (·.1)=false:=by rfl):
  PS X (.Try [.Return (ar (.Call (.Name x p) (e::es) [] pos)) rp] [.ExceptHandler (ar (.Name c np)) aC [.Return (ar (.Constant .none jc p2)) p3] hpos] [] [] tpos)
   (λD σ H=>t σ H λvs L=>sp vs L (λv m=>D.rt v m) (λcls od m=>∃C,cls= .ref C/\Ox X.K (.ref C) (.ref CW)=ar b'/\D.rt .non m)):=by
 intro pins s σ H D I h;refine wpAny_Try_except (MW (wpAny_Return_some ?_));refine LR (jx I hg hm ?_ d);refine W.callWith_K (h₀:=X.base) I.ok.mod.kin hk (Kb (ha pos pins s σ H _ (I.wish _) h) (λus s1 b1=>?_) λ_ _ z=>iA z) he a9;obtain⟨vs,L,U,r,q⟩:=b1;have U:=U.unwish;refine⟨U.kIn,?_⟩;have hl:us.length=ps.length:=by rw[<-r.length];exact F.len _ _ _ _ q
 refine Nj (L9 (F.run X.A X.stack s1 L ⟨us,[]⟩ us vs _ _ hr U.env0 (by have:=hb s1 us U.kIn (by rw[Ky];exact hl);rw[Ky]at this;exact this) r q) λr s' Y=>?_);cases r with
 | ok fl=>
  cases fl with
  |ret u=>
   obtain⟨v,m,G,r2,q2⟩:=U.after Y;exact⟨v,σ,m,G,r2,q2⟩
  |next=>exact iA Y
  |brk=>exact iA Y
  |cont=>exact iA Y
 | error ev=>
  obtain⟨e,T,C',od,Z,rfl,os,bare,un,Q,F,ne,nT,le,lT,C,eC,hx,hD⟩:=Y;cases eC;have G:L2.Inv X pins σ Z s':=U.call' (ch:=[]) os un Q bare (λb z=>absurd z (by simp));have a0:∀b∈jU X.stack,Z b=none:=G.stkFree;refine qb (base:=X.base) (outer:=X.outer) (by rw[G.ok.frames,O]) (by rw[<-O];exact G.stack) a8 F λh1 T1 F1 l1 N=>?_;rw[<-O]at N;have i:Z T1=none:=Q.fresh l1;refine gy (s:={s' with heap:=h1}) F1 λP F2 y=>?_;have E:s1.heap.get? T1=none:=Un.gone un (by simp) (Ku l1);have n:fY X.prog X.w Z h1:=fY.fly Q N ne nT a0;have S:fY X.prog X.w Z P:=fY.fly n y ne i (λb z=>absurd z (by simp));have a6:Un (jU X.stack) [] L Z s1.heap h1:=Un.fly un N le lT;have R:∀{h a:f'} {e T:cq},Step [] e T h a->Step (jU X.stack) e T h a:=λst=>⟨λb o q n1 n2 _=>st.keep b o q n1 n2 (by simp),st.slot,st.size⟩;have l:Un (jU X.stack) [] L Z s1.heap P:=Un.fly a6 (R y) le E;have I3:L2.Inv X pins σ Z {s' with heap:=P}:=U.call' (s':={s' with heap:=P}) (ch:=[]) os l S bare (λb z=>absurd z (by simp));refine wpAny_handleBy_cons (codeAny_handlers_test (jx (X:=Cx.hand X (.ref e)) (Inv.hand I3 _) b4 (b0 I.ok.mod) ?_ a5)) (by intro q;cases q);have LT:W.Looks (e_ X.prog X.w) P (typeOf (.ref e)) (.ref C'):=by obtain⟨oe,vs,oT,ts,he,hc,_⟩:=F2;exact hc ▸ (W.Looks.ld he).andThen .now
  refine(W.exm_one (h:=P) I3.kIn LT hx).at ?_;refine codeAny_handlers_suite (gy (s:={s' with heap:=P}) F2 λg F3 B=>?_);have J:fY X.prog X.w Z g:=fY.fly S B ne i (λb z=>absurd z (by simp));have b5:Un (jU X.stack) [] L Z s1.heap g:=Un.fly l (R B) le E;have I4:L2.Inv X pins σ Z {s' with heap:=g}:=U.call' (s':={s' with heap:=g}) (ch:=[]) os b5 J bare (λb z=>absurd z (by simp));have ps:=qD (za (X:=Cx.hand X (.ref e)) (pos:=p3) (y8 (X:=Cx.hand X (.ref e)) (j:=jc) (pos:=p2)));refine Kb (ps pins _ _ _ {nx:=λ_ _=>False,rt:=λv H6=>v= .non/\H6=Z} (Inv.hand I4 _) ⟨rfl,rfl⟩) (λfl s6 Y=>?_) λ_ _ z=>iA z;cases fl with
  |next=>obtain⟨_,_,_,z⟩:=Y;exact iA z
  |ret u=>
   obtain⟨v,a4,H6,I6,r6,e1,e2⟩:=Y;subst e1 e2;exact⟨.non,a4,_,Inv.unhand I.ok I6,r6,hD⟩
  |brk=>obtain⟨_,_,_,z⟩:=Y;exact iA z
  |cont=>obtain⟨_,_,_,z⟩:=Y;exact iA z
end
def Fs(cx:Str)(c:M D):M Out:=λS=>match c S with
 |some (.ok d,S')=>ar (.ok (.ret d),S')
 |some (.ex (.exc n ds),S')=>if n∈c9/\vp n cx=b' then ar (.ok (.ret .non),S')else aC
 |_=>aC
def DK(cx:Str)(F:List D->M D)(ms:S3.aA->M (List D)):cT:=λρ=>do let ds<-ms ρ;Fs cx (F ds)
section
variable {jc:Nat}{X:Cx}{k:Nat}{ps:List Str}{F:List D->M D}{x cx:Str}{p pos rp np p2 p3 hpos tpos:Pos}{e:Expr}{es:List Expr}{ms:S3.aA->M (List D)}
theorem CQ(Y:cx∈c9)(Q:X.stack=X.env::X.outer)(N:X.env.frame=ar X.env.locals)(d:DefX X.prog X.w X.K X.mg X.base k x ps F)(g:Room k X.A)(E:mw X.K=b')(b:SA X.nox bX (e::es) ms)(m:Gl X x:=by rfl)(J:Gl X cx:=by rfl)
  (W:(x==("__debug__":Str))=false:=by decide) (P:(cx==("__debug__":Str))=false:=by decide)
  (i:dt (e::es) X.env=(dr,i4 e X.env)::dt es X.env:=by rfl) (L:(lx pos (dt es X.env)).any (·.1)=false:=by rfl):
  SS X bX (.Try [.Return (ar (.Call (.Name x p) (e::es) [] pos)) rp] [.ExceptHandler (ar (.Name cx np)) aC [.Return (ar (.Constant .none jc p2)) p3] hpos] [] [] tpos) (DK cx F ms):=by
 obtain⟨CW,y⟩:=nS E Y;obtain⟨f,fd,Gf,hm,s,j⟩:=d.ex;refine PS.imp (yt Q N Gf g m hm s j b J (λG=>Li G.kin G.glob y.ns) W P i L) λT σ H h=>?_;obtain⟨t,S,ρ,rep,re,c⟩:=h;refine⟨t,S,ρ,rep,re,ao (ag c) λds O S1 H1 e1 rep1 c1 vs v=>?_⟩;obtain⟨r,S',e,q⟩:=c1;unfold Fs at e;refine⟨O,S1,ds,rep1,v,?_⟩;cases z:F ds S1 with
 |none=>rw[z]at e;cases e
 | some pr=>
  obtain⟨o,S2⟩:=pr;rw[z]at e;cases o with
  |ok d=>
   cases e;exact⟨_,_,z,λZ R I rep2=>q Z R I rep2⟩
  | ex xd=>
   cases xd with
   |exc nm es=>
    dsimp only at e;split at e
    case isFalse=>cases e
    case isTrue hnm=>
    cases e;refine⟨_,_,z,λZ R I rep2 cls od l=>?_⟩;obtain⟨n2,u,C,e2,U,rfl,a⟩:=l;cases e2;obtain⟨C2,B⟩:=nS E hnm.1;have:=B.ns;rw[U]at this;cases this;obtain⟨D2,f1,f2,n⟩:=B.sub cx Y;rw[y.ns]at f1;cases f1;exact⟨C,rfl,by rw[n,hnm.2],q Z R I rep2 _ .non⟩
   |_=>cases e
end
abbrev rD(mi:S3.aA->M Iter)(g:lu)(t:S3.aA->M Bool)(m:TM)(js:List (Option Nat)):TM:=λρ=>do let it<-mi ρ;ja (do let ys<-eX it g t m (gP js ρ);bt ys)
section
variable {X:Cx}{E:XD}{scope:Scope}{Nc:List Str}{js:List (Option Nat)}{elt tg iter:Expr}{ifs:List Expr}{pos:Pos}{mi:S3.aA->M Iter}{g:lu}{t:S3.aA->M Bool}{m:TM}
theorem AH(c:CompScope X scope Nc js)(U:X.calm=b')(T:SI X E tg iter mi)
  (Z:∀C ex s H,SG (aV X scope Nc C ex s H) bX tg g/\EU (aV X scope Nc C ex s H) bX ifs t/\SE (aV X scope Nc C ex s H) bX elt m)
  (hs:∀x,hI iter X.env x=a_ x:=by intro _;rfl):SE X E (.ListComp elt [⟨tg,iter,ifs,0⟩] scope pos) (rD mi g t m js):=
 PE.imp (wm (g:=yU X.K bX g) (tt:=uP X.K bX t) (te:=tM X.K bX m) c U T Z hs) λσ H Q ⟨ι,S,ρ,rep,re,c⟩=>
  ⟨ι,S,ρ,rep,re,ao (ag c) λit Y S1 R e1 rep1 c1 J W=>ai (sM (X:=X) (mi:=λ_=>a_ it) (js:=js) (g:=g) (t:=t) (m:=m) rep1 (re.later rep e1) (jD c1)) .refl rep1 J W⟩
end
end S7
namespace S3
open PySem PySem.Spec PyProof.Rows L2
def yu:D->D->M D
 | .lst k,.int i=>do
  let xs<-getL k
  if -(2 ^ 62)<=i/\i<=1000/\xs.length<=1000 then bt (eb i.toNat xs).flatten else M.fail
 |_,_=>M.fail
section
variable {X:Cx}{E:XD}{a b:Expr}{m n:TM}{pos:Pos}
theorem RelDs.rep{K:dn}{Z:List cq}{H:Hp}{ds:List D}{vs:List V}(r:RelDs K Z H ds vs):∀k:Nat,RelDs K Z H (eb k ds).flatten (eb k vs).flatten
 |0=>.nil
 |k+1=>by rw[KC,KC,K4,K4];exact r.append (RelDs.rep r k)
theorem CS:sk X.K E yu GT:=by
 intro O S H N P v1 v2 Q rep U T c;unfold yu at c;split at c
 ·next k i=>
  obtain⟨p,rfl,W⟩:=U.lst_inv;obtain⟨es,us,_,R,Y,Z⟩:=ba c rep W;split at Z
  ·next hb=>
   have L:=Y.length;refine⟨p,i,us,rfl,T.int_inv,R,by omega,by omega,JX (Nat.mul_le_mul (show us.length<=1000 by omega) (show i.toNat<=1000 by omega)) (show 1000*1000<=sizeLine by decide),(bq Z rep (Y.rep i.toNat)).2⟩
  ·exact(ah Z).elim
 ·exact(ah c).elim
theorem Ft(Z:SE X E a m)(Y:SE X E b n):SE X E (.BinOp a .Mult b pos) (λρ=>do let x<-m ρ;let y<-n ρ;yu x y):=nE EL CS Z Y
end
def qd:List b_->List Int->Bool
 |[],[]=>b'
 | .int i _::r,j::l=>i==j && qd r l
 |_,_=>dr
def Hh(K:dn)(x:Str)(ns:List Int):Bool:=match pd K g_ x with
 | some (ar (.ref a))=>(match K.lookup a with
  |some o=>(match o.cls,o.data with
   | .type T,.seq its _=>T=="tuple" && qd its.toList ns
   |_,_=>dr)
  |none=>dr)
 |_=>dr
structure KTup(K:dn)(mg:Str->Option b_)(x:Str)(ns:List Int):Prop where
 ex:∃a o its n,mg x=ar (.ref a)/\K.lookup a=ar o/\o.cls= .type "tuple"/\o.data= .seq its n/\qd its.toList ns=b'
theorem Hi{K:dn}{h:f'}{Z:Str->Option b_}{x:Str}{ns:List Int}(X:K.In h)(G:h.Ns g_ Z)(c:Hh K x ns=b'):KTup K Z x ns:=by
 unfold Hh at c;split at c
 ·next a hx=>
  split at c
  ·next o ho=>
   split at c
   ·next T its n hc hd=>
    rw[KU,Nk]at c;obtain⟨rfl,c⟩:=c;exact⟨a,o,its,n,Li X G hx,ho,hc,hd,c⟩
   ·cases c
  ·cases c
 ·cases c
theorem nZ{h:f'}:∀{vs:List b_} {ns:List Int},qd vs ns=b'->∃as,ReadsAll h vs (ns.map j2) as
 |[],[],_=>⟨_,.nil⟩
 | .int i t::r,j::l,c=>by
  unfold qd at c;rw[KU,Nk]at c;obtain⟨rfl,c⟩:=c;obtain⟨as,q⟩:=nZ (h:=h) c;exact⟨_,.cons (.int i t) q⟩
 |[],_::_,c=>by cases c
 | .int _ _::_,[],c=>by cases c
 | .none::_,_,c=>by cases c
 | .ellipsis::_,_,c=>by cases c
 | .notImplemented::_,_,c=>by cases c
 | .bool _::_,_,c=>by cases c
 | .float _ _::_,_,c=>by cases c
 | .str _ _::_,_,c=>by cases c
 | .bytes _ _::_,_,c=>by cases c
 | .type _::_,_,c=>by cases c
 | .builtin _::_,_,c=>by cases c
 | .ref _::_,_,c=>by cases c
section
variable {X:Cx}{E:XD}{a:Expr}{m:TM}{x:Str}{ns:List Int}{p pos:Pos}
def Jc(b:cq)(ns:List Int):R2:=λv y H Q=>y= .ref b/\∃p,(ReadsV H v p/\p.canLay0=b'/\p.depth<=60)/\Q (.bl (er p (.tuple (ns.map j2)))) H
theorem Fu{b:cq}{o:Obj}{its:Array b_}{n:Nat}(Z:X.A.units+64<EA)(S:X.K.lookup b=ar o)(O:o.cls= .type "tuple")(J:o.data= .seq its n)(N:qd its.toList ns=b')(hs:L_ (.tuple (ns.map j2))=b'):ib X (i' .Eq) (Jc b ns):=by intro pins s σ H x y v u Q I P L h;obtain⟨rfl,q,⟨U,R,T⟩,h⟩:=h;cases L;obtain⟨as,W⟩:=U.heap I.hok P;obtain⟨bs,Y⟩:=nZ (h:=s.heap) N;exact eq_dataH W (.tuple (I.kIn _ _ S) O J Y) (hU R T) hs Z ⟨.bl _,H,I,rfl,h⟩
theorem qe{S:aB}{f:Nat}:∀ns:List Int,mapP (dO S f) (ns.map D.int)=ar (ns.map j2)
 |[]=>rfl
 |i::r=>by
  have:dO S f (.int i)=ar (.int i):=by cases f<;>rfl
  simp[mapP,this,qe r]
theorem Fv(B:X.A.units+64<EA)(u:SE X E a m)(N:KTup X.K X.mg x ns)(hs:L_ (.tuple (ns.map j2))=true:=by rfl)(F:Gl X x:=by rfl)(C:(x==("__debug__":Str))=false:=by decide)(t:kT .Eq (.Name x p)=false:=by first|exact nh _ (by decide) (by decide)|rfl):
  SB X E (.Compare a [.Eq] [.Name x p] pos) (λρ=>do let z<-(do let x<-m ρ;let y<-(a_ (.tup (ns.map D.int)):M D);fJ x y);iT z):=by
 obtain⟨b,o,its,n,U,J,L,G,P⟩:=N.ex;refine PT.imp (v9 (Fu B J L G P hs) u (v8 F U (v:=.ref b) rfl C) t) λσ H Q q=>?_;obtain⟨W,S,ρ,rep,re,c⟩:=q;have O:cont X.K E (m ρ>>=λx=>fJ x (.tup (ns.map D.int))>>=iT) W S H (λb _ _ w=>Q b w):=by have c:=c;simp only[eg,aj]at c;exact c
 refine⟨W,S,ρ,rep,re,ao (ag O) λd Z S1 I e1 rep1 c1 v R=>⟨rfl,?_⟩⟩;obtain⟨r,s,e,k⟩:=id (ag c1);unfold fJ EX at e;split at e
 ·next p q hp hq=>
  cases e;have Y:q= .tuple (ns.map j2):=by have:(mapP (dO S1 59) (ns.map D.int)).map qq=ar q:=hq;rw[qe]at this;exact(Ka this).symm
  subst Y;have T:=k Z I .refl rep1;exact⟨p,kG rep1 60 d p v hp R,_,rfl,ai T .refl rep1⟩
 ·cases e
end
end S3
namespace W
open PySem PySem.Spec PyProof.Rows L2 S3 S4 S7
def n0:cT:=bB (i8 (tq (mV 0) "int") (CA (tq (mV 0) "bool")))
def bY:List D->M D:=mJ 1 1 n0
def qf:cT:=bB (i8 (tq (mV 0) "tuple") (aN fJ (bI bR (mV 0)) (mK (.int 2))))
def df:List D->M D:=mJ 1 1 qf
def gi:fE:=eM
def gj:TM:=aN pV (mV 0) (mV 1)
def mB:cT:=bB (bI uW (aR (bp (nV (mV 0) (aR (BY (mV 0) (oS (mK (.int 1))) oN))) (du 2 (bc (gN 0) (bc (gN 1) dN))) gi gj [aC,aC])))
def fj:List D->M D:=mJ 1 1 mB
def dQ:fE:=eM
def cK:fE:=eM
def bU:TM:=i9 (ae (mV 0) (ae (mV 1) aw))
def n4:cT:=bB (aR (lR (oR (mV 0)) (gN 0) dQ (rj (aN iw (mV 0) (mK (.int 1))) (mV 2)) (gN 1) cK bU [aC,aC,ar 0]))
def dw:List D->M D:=mJ 1 1 n4
def gk:fE:=eM
def gm:TM:=aN inD (mV 0) (mV 1)
def mC:cT:=bB (bI tG (aR (bp (cw (mV 0)) (gN 0) gk gm [aC,ar 1])))
def gD:List D->M D:=mJ 2 2 mC
def jf:cT:=aE (gx (dj pV (mV 1) (bI bR (mV 0))) (bB (aN bx (mV 0) (mV 1))) cV) (bB (mK (.int 0)))
def dy:List D->M D:=mJ 2 2 jf
def mD:cT:=aE (gx (bV (aN bx (mV 0) (mK (.int 1)))) (aE (bS 2 (aN mH (aN bx (mV 0) (mK (.int 0))) (mV 1))) (aE (nQ (aN iQ (aN bx (mV 0) (mK (.int 0))) (mV 1)) (Fe (mV 0) (mK (.int 0)))) (bB (mV 2)))) cV) (aE (nQ (aN mH (aN iw (aN kD (aN bx (mV 0) (mK (.int 0))) (mK (.int 48271))) (mK (.int 29))) (mK (.int 2147483647))) (Fe (mV 0) (mK (.int 0)))) (aE (bS 3 (aN mH (aN iw (aN iw (aN kD (aN bx (mV 0) (mK (.int 0))) (aN bx (mV 0) (mK (.int 0)))) (aN kD (mK (.int 39373)) (aN bx (mV 0) (mK (.int 0))))) (mK (.int 7))) (mK (.int 2147483629)))) (aE (bS 3 (aN mH (aN iw (aN kD (mV 3) (mV 3)) (aN kD (mK (.int 16807)) (mV 3))) (mK (.int 2147483587)))) (bB (aN mH (aN iQ (mV 3) (mK (.int 8))) (mV 1))))))
def bf:List D->M D:=mJ 4 2 mD
def d4:fE:=eM
def d5:TM:=i9 (ae (mV 1) (ae (mV 0) aw))
def fv:cT:=oU (xZ kJ (mV 1) (aR (bp (rj (aN iw (mV 2) (mK (.int 1))) (mV 0)) (gN 0) d4 d5 [aC,ar 2])))
def kN:cT:=aE (bS 1 (cX aw)) (aE (j8 (oR (mV 0)) (gN 2) fv) (bB (mV 1)))
def bo:List D->M D:=mJ 3 1 kN
def fw:fE:=eM
def fx:TM:=bI cz (aR (bI bH (aR (cX (ae (aN bx (mV 2) (mV 0)) (ae (aN bx (mV 2) (mV 1)) aw))))))
def kO:cT:=bB (i9 (ae (aN bx (mV 0) (mK (.int 0))) (ae (bI cz (aR (bI bH (aR (bp (cw (aN bx (mV 0) (mK (.int 1)))) (du 2 (bc (gN 0) (bc (gN 1) dN))) fw fx [aC,aC,ar 1]))))) aw)))
def dE:List D->M D:=mJ 2 2 kO
def n5:cT:=bB (i8 (aq bY (ae (mV 1) aw)) (rf BU pV (mK (.int 0)) (mV 1) (mV 0)))
def gn:List D->M D:=mJ 2 2 n5
def gR:cT:=gx (uy (eQ (bV (aR (aq bY (ae (mV 0) aw))))) (eQ (j6 BU BU (mK (.int 0)) (mV 0) (mV 1)))) (j9 "NoNumber" (ae (mK (.str "this is no whole number that is taken here")) aw)) cV
def dh:List D->M D:=mR 2 2 gR
def kP:cT:=aE (bS 2 (aq dy (ae (mV 0) (ae (mV 1) aw)))) (aE (gx (dj G0 (mV 2) (aN zN (mK (.int 10)) (mK (.int 18)))) (bB (cX (ae (aN eA (mV 2) (aN zN (mK (.int 10)) (mK (.int 18)))) (ae (mK (.bl b')) aw)))) cV) (bB (cX (ae (aN mH (mV 2) (mK (.int 2147483647))) (ae (mK (.bl dr)) aw)))))
def fM:List D->M D:=mJ 3 2 kP
def b8:cT:=oU (xZ eB (mV 3) (xZ lK (mV 2) (aR (aq bf (ae (mV 0) (ae (bI bR (mV 2)) aw))))))
def dF:cT:=aE (bS 2 (bI pW (mV 1))) (aE (bS 3 (cX aw)) (aE (rk 64 (dj kH (mV 2) (aR (cX aw))) b8) (bB (mV 3))))
def bC:List D->M D:=mJ 4 2 dF
def n6:cT:=aE (gx (eQ (bV (aq df (ae (mV 1) aw)))) (bB (mK (.bl dr))) cV) (aE (nQ (mV 1) (du 2 (bc (gN 2) (bc (gN 3) dN)))) (bB (i8 (aq gn (ae (mV 0) (ae (mV 2) aw))) (i8 (aq gn (ae (mV 0) (ae (mV 3) aw))) (aN pV (mV 2) (mV 3))))))
def kQ:List D->M D:=mJ 4 2 n6
def gS:fE:=dj pV (aR (aq bf (ae (mV 1) (ae (mK (.int 8)) aw)))) (aN bx (aR (cX (ae (mK (.int 2)) (ae (mK (.int 4)) (ae (mK (.int 6)) aw))))) (aN mH (mV 2) (mK (.int 3))))
def gT:TM:=mV 0
def eZ:cT:=oU (xZ eB (mV 4) (bI cz (aR (bI bH (aR (cX (ae (aN bx (mV 5) (mV 6)) (ae (aN bx (mV 5) (aN bx (aR (cX (bb (aN eA (mV 6) (mK (.int 1))) (bb (aN eA (mV 6) (mK (.int 1))) (bb (mK (.int 0)) (bb (aN iQ (mV 6) (mK (.int 2))) aw)))))) (aN eA (mV 3) (mK (.int 3))))) aw))))))))
def dR:fE:=dj fJ (aR (aq bf (ae (mV 1) (ae (mK (.int 12)) aw)))) (mK (.int 0))
def dU:TM:=mV 0
def e9:fE:=dj kH (aN inD (mV 0) (mV 1)) (aN inD (mV 0) (mV 2))
def fb:TM:=mV 0
def iG:cT:=aE (bS 2 (aq maxD (ae (mK (.int 0)) (ae (aN eA (mV 1) (aN bx (aR (cX (bb (mK (.int 0)) (bb (mK (.int 0)) (bb (mK (.int 1)) (bb (mK (.int 0)) (bb (mK (.int 2)) (bb (mK (.int 1)) (bb (mK (.int 3)) (bb (mV 1) aw)))))))))) (aR (aq bf (ae (mV 0) (ae (mK (.int 8)) aw)))))) aw)))) (aE (bS 3 (aR (aq bf (ae (mV 0) (ae (mK (.int 7)) aw))))) (aE (bS 4 (bp (cw (aR (aq bo (ae (mV 2) aw)))) (gN 0) gS gT [aC,ar 0,ar 3])) (aE (bS 5 (aR (aq bC (ae (mV 0) (ae (aR (bI cg (mV 2))) aw))))) (aE (gx (dj pU (mV 3) (mK (.int 2))) (aE (bS 4 (cX aw)) (aE (j8 (rj (mK (.int 1)) (mV 2)) (gN 6) eZ) (aE (gx (iD (dj fJ (mV 3) (mK (.int 4))) (dj pU (mV 2) (mK (.int 2)))) (oU (xZ eB (mV 4) (bI cz (aR (bI bH (aR (cX (ae (aN bx (mV 5) (mK (.int 0))) (ae (aN bx (mV 5) (aN eA (mV 2) (mK (.int 1)))) aw))))))))) cV) (aE (bS 7 (aR (bp (cw (aR (aq bo (ae (mV 2) aw)))) (gN 0) dR dU [aC,ar 0]))) (bS 4 (bp (cw (aR (aq bo (ae (mV 2) aw)))) (gN 0) e9 fb [aC,ar 4,ar 7])))))) cV) (bB (i9 (ae (mV 2) (ae (bI cz (aR (bI bH (mV 4)))) aw))))))))
def gp:List D->M D:=mJ 8 2 iG
def gE:fE:=eM
def gF:TM:=aR (aq kQ (ae (mV 1) (ae (mV 0) aw)))
def n8:cT:=aE (gx (eQ (bV (aR (aq df (ae (mV 0) aw))))) (bB (mK (.bl dr))) cV) (aE (nQ (mV 0) (du 2 (bc (gN 1) (bc (gN 2) dN)))) (aE (gx (uy (eQ (bV (aR (aq bY (ae (mV 1) aw))))) (uy (eQ (j6 BU BU (mK (.int 0)) (mV 1) (mK (.int 14)))) (eQ (bV (tq (mV 2) "tuple"))))) (bB (mK (.bl dr))) cV) (bB (i8 (bI uW (aR (bp (cw (mV 2)) (gN 0) gE gF [aC,ar 1]))) (aR (aq fj (ae (mV 2) aw)))))))
def jg:List D->M D:=mJ 3 1 n8
def oa:cT:=gx (eQ (bV (aR (aq jg (ae (mV 0) aw))))) (j9 "NoWeb" (ae (mK (.str "this is no web")) aw)) cV
def bN:List D->M D:=mR 1 1 oa
def iH:fE:=dj inD (mV 1) (mV 0)
def iI:TM:=mV 0
def iJ:fE:=eM
def iK:TM:=bI bR (aR (bp (cw (mV 1)) (gN 0) iH iI [aC,ar 0]))
def qg:cT:=aE (oU (aR (aq bN (ae (mV 0) aw)))) (aE (nQ (mV 0) (du 2 (bc (gN 1) (bc (gN 2) dN)))) (bB (aR (rq (bp (oR (mV 1)) (gN 0) iJ iK [aC,ar 2])))))
def bD:List D->M D:=mR 3 1 qg
def jh:fE:=eM
def ji:TM:=HM (dj fJ (mV 0) (mV 1)) (mV 2) (mV 0)
def fq:cT:=aE (bS 6 (aq minD (ae (aN bx (mV 3) (mV 4)) (ae (aN bx (mV 3) (mV 5)) aw)))) (aE (bS 7 (aq maxD (ae (aN bx (mV 3) (mV 4)) (ae (aN bx (mV 3) (mV 5)) aw)))) (bS 3 (aR (rq (bp (cw (mV 3)) (gN 0) jh ji [aC,ar 7,ar 6])))))
def gG:fE:=dj fJ (aN bx (mV 1) (mV 0)) (mV 0)
def gH:TM:=mV 0
def jj:fE:=dj fJ (aN bx (mV 1) (mV 0)) (mV 2)
def jk:TM:=mV 0
def jl:fE:=eM
def jm:TM:=bI cz (aR (bp (oR (mV 1)) (gN 0) jj jk [aC,ar 2,ar 0]))
def tO:cT:=aE (oU (aR (aq bN (ae (mV 0) aw)))) (aE (nQ (mV 0) (du 2 (bc (gN 1) (bc (gN 2) dN)))) (aE (bS 3 (aR (bI cg (mV 1)))) (aE (j8 (cw (mV 2)) (du 2 (bc (gN 4) (bc (gN 5) dN))) fq) (aE (DH (bS 8 (aR (bp (oR (mV 1)) (gN 0) gG gH [aC,ar 3])))) (bB (aR (rq (bp (cw (mV 8)) (gN 0) jl jm [aC,ar 1,ar 3]))))))))
def bE:List D->M D:=mR 9 1 tO
def d6:cT:=aE (oU (aR (aq bN (ae (mV 0) aw)))) (gx (dj pU (bI bR (aN bx (mV 0) (mK (.int 1)))) (mK (.int 7))) (mW (ae (bI bR (aN bx (mV 0) (mK (.int 1)))) (ae (mK (.int 7)) aw))) cV)
def de:List D->M D:=mR 1 1 d6
def jP:cT:=gx (dj pU (bI bR (aR (aq bE (ae (mV 0) aw)))) (mK (.int 1))) (j9 "NotJoined" (ae (mK (.str "the web has more than one piece")) aw)) cV
def fc:List D->M D:=mR 1 1 jP
def fN:fE:=bV (aR (aq gD (ae (aN bx (mV 2) (mV 0)) (ae (aN bx (mV 2) (mV 1)) aw))))
def fO:TM:=i9 (ae (mV 0) (ae (mV 1) aw))
def jH:cT:=aE (oU (aR (aq de (ae (mV 0) aw)))) (aE (bS 1 (aN bx (mV 0) (mK (.int 1)))) (aE (bS 2 (bI bR (mV 1))) (bB (i9 (ae (mV 2) (ae (bI cz (aR (rq (bp (cw (aR (aq dw (ae (mV 2) aw)))) (du 2 (bc (gN 0) (bc (gN 1) dN))) fN fO [aC,aC,ar 1])))) aw))))))
def eh:List D->M D:=mR 3 1 jH
def fy:fE:=eM
def fA:TM:=aN iQ (aN kD (mV 0) (aN eA (mV 0) (mK (.int 1)))) (mK (.int 2))
def kR:cT:=bB (bI ye (aR (rD (cw (aR (aq bD (ae (mV 0) aw)))) (gN 0) fy fA [aC])))
def cc:List D->M D:=mR 1 1 kR
def cC:cT:=bS 2 (aR (aq eh (ae (mV 2) aw)))
def fP:cT:=aE (oU (aR (aq bN (ae (mV 0) aw)))) (aE (oU (aR (aq dh (ae (mV 1) (ae (mK (.int 6)) aw))))) (aE (bS 2 (mV 0)) (aE (j8 (oR (mV 1)) (gN 3) cC) (bB (mV 2)))))
def aP:List D->M D:=mR 4 2 fP
def dG:fE:=eM
def dH:TM:=aN eA (aR (aN iw (aN bx (mV 2) (mV 0)) (aN bx (mV 2) (mV 1)))) (mK (.int 2))
def dI:fE:=eM
def dJ:TM:=aN iQ (aN kD (mV 0) (aN eA (mV 0) (mK (.int 1)))) (mK (.int 2))
def fe:cT:=aE (bS 1 (aR (aq bD (ae (mV 0) aw)))) (aE (DH (bS 2 (aR (bp (cw (aN bx (mV 0) (mK (.int 1)))) (du 2 (bc (gN 0) (bc (gN 1) dN))) dG dH [aC,aC,ar 1])))) (bB (aR (cX (bb (aN bx (mV 0) (mK (.int 0))) (bb (bI bR (aN bx (mV 0) (mK (.int 1)))) (bb (aR (aq cc (ae (mV 0) aw))) (bb (bI ye (aR (rq (bp (cw (mV 2)) (gN 0) dI dJ [aC])))) aw))))))))
def bF:List D->M D:=mR 3 1 fe
def hV:fE:=eM
def hX:TM:=aN pU (mV 0) (mK (.int 2))
def vA:cT:=aE (oU (aR (aq fc (ae (mV 0) aw)))) (aE (nQ (mV 0) (du 2 (bc (gN 1) (bc (gN 2) dN)))) (aE (bS 3 (aR (aq bD (ae (mV 0) aw)))) (aE (gx (dj fJ (bI cz (aR (bI bH (mV 3)))) (mK (.tup [.int 1,.int 1,.int 1,.int 3]))) (bB (mK (.tup [.str "stays",.int 3]))) cV) (aE (gx (bV (bI tG (aR (rq (bp (cw (mV 3)) (gN 0) hV hX [aC]))))) (bB (mK (.tup [.str "grows"]))) cV) (aE (gx (iD (bT (mV 2)) (dj fJ (bI bR (mV 2)) (mV 1))) (bB (i9 (ae (mK (.str "stays")) (ae (mV 1) aw)))) cV) (bB (i9 (ae (mK (.str "gone")) (ae (mV 1) aw)))))))))
def fB:List D->M D:=mR 4 1 vA
def kU:cT:=DK "TooGreat" aP (ae (mV 0) (ae (mV 1) aw))
def fQ:List D->M D:=mJ 2 2 kU
def fC:fE:=eM
def fD:TM:=aR (aq fQ (ae (mV 1) (ae (mV 0) aw)))
def fR:cT:=aE (bS 1 (aR (bp (rj (mK (.int 1)) (mK (.int 5))) (gN 0) fC fD [aC,ar 0]))) (aE (gx (dj inD (mK .non) (mV 1)) (bB (mK (.bl b'))) cV) (bB (aN pU (bI bR (aN bx (aN bx (mV 1) (mK (.int (-1)))) (mK (.int 1)))) (bI bR (aN bx (mV 0) (mK (.int 1)))))))
def fS:List D->M D:=mJ 2 1 fR
def fT:cT:=aE (vh 1 2 (ae (aR (aq fB (ae (mV 0) aw))) (ae (aR (aq bF (ae (mV 0) aw))) aw))) (aE (gx (dj pV (bI bR (aN bx (mV 0) (mK (.int 1)))) (mK (.int 8))) (aE (bS 3 (aR (aq eh (ae (mV 0) aw)))) (gx (uy (dj kH (aR (cX (ae (aN bx (mV 3) (mK (.int 0))) (ae (bI bR (aN bx (mV 3) (mK (.int 1)))) (ae (aR (aq cc (ae (mV 3) aw))) aw))))) (aR (BY (mV 2) (oS (mK (.int 1))) oN))) (dj kH (aR (aq aP (ae (mV 0) (ae (mK (.int 1)) aw)))) (mV 3))) (bB (mK (.bl dr))) cV)) cV) (aE (gx (dj fJ (aN bx (mV 1) (mK (.int 0))) (mK (.str "gone"))) (aE (gx (iD (dj pU (aN bx (mV 1) (mK (.int 1))) (mK (.int 0))) (dj fJ (aN bx (aR (aq aP (ae (mV 0) (ae (aN eA (aN bx (mV 1) (mK (.int 1))) (mK (.int 1))) aw)))) (mK (.int 0))) (mK (.int 0)))) (bB (mK (.bl dr))) cV) (bB (aN fJ (aN bx (aR (aq aP (ae (mV 0) (ae (aN bx (mV 1) (mK (.int 1))) aw)))) (mK (.int 0))) (mK (.int 0))))) cV) (aE (gx (dj fJ (aN bx (mV 1) (mK (.int 0))) (mK (.str "stays"))) (aE (bS 4 (aR (aq aP (ae (mV 0) (ae (mK (.int 4)) aw))))) (bB (i8 (aN fJ (aN bx (mV 4) (mK (.int 0))) (aN bx (mV 1) (mK (.int 1)))) (i8 (aN fJ (aR (aq bD (ae (mV 4) aw))) (aR (aN yu (cX (ae (mK (.int 2)) aw)) (aN bx (mV 1) (mK (.int 1)))))) (aN fJ (bI bR (aR (aq bE (ae (mV 4) aw)))) (mK (.int 1))))))) cV) (bB (i8 (aN G0 (aN bx (mV 2) (mK (.int 1))) (aN eA (aN bx (mV 2) (mK (.int 0))) (mK (.int 1)))) (aR (aq fS (ae (mV 0) aw))))))))
def eG:List D->M D:=mJ 5 1 fT
def jo:cT:=aE (bS 2 (aq fM (ae (mV 0) (ae (mV 1) aw)))) (aE (bS 3 (aR (aq gp (ae (mV 2) (ae (mK (.int 6)) aw))))) (aE (gx (iD (dj pV (bI bR (aR (aq bE (ae (mV 3) aw)))) (mK (.int 2))) (eQ (bV (aR (aq eG (ae (mV 3) aw)))))) (bB (mK (.bl dr))) cV) (aE (bS 4 (aR (aq dE (ae (mV 3) (ae (aR (aq bC (ae (mV 2) (ae (aR (bI cg (aN bx (mV 3) (mK (.int 0))))) aw)))) aw))))) (aE (gx (uy (dj kH (aR (aq bF (ae (mV 4) aw))) (aR (aq bF (ae (mV 3) aw)))) (dj kH (bI bR (aR (aq bE (ae (mV 4) aw)))) (bI bR (aR (aq bE (ae (mV 3) aw)))))) (bB (mK (.bl dr))) cV) (gx (iD (dj pV (bI bR (aR (aq bE (ae (mV 3) aw)))) (mK (.int 2))) (dj kH (aR (aq fB (ae (mV 4) aw))) (aR (aq fB (ae (mV 3) aw))))) (bB (mK (.bl dr))) cV)))))
def AI:cT:=aE (j8 (oR (aq maxD (ae (mK (.int 1)) (ae (aq minD (ae (bI bR (mV 0)) (ae (mK (.int 6)) aw))) aw)))) (gN 1) jo) (bB (mK (.bl b')))
def qh:List D->M D:=mJ 5 1 AI
theorem og:2<=lim:=by unfold lim;omega
theorem AJ:yV (ar d::r) 0=a_ d:=rfl
theorem AK:yV (o0::ar d::r) 1=a_ d:=rfl
theorem AL:yV (o0::o1::ar d::r) 2=a_ d:=rfl
theorem AM:yV (o0::o1::o2::ar d::r) 3=a_ d:=rfl
theorem AN:yV (o0::o1::o2::o3::ar d::r) 4=a_ d:=rfl
theorem AO:yV (o0::o1::o2::o3::o4::ar d::r) 5=a_ d:=rfl
theorem AQ:yV (o0::o1::o2::o3::o4::o5::ar d::r) 6=a_ d:=rfl
theorem AR:yV (o0::o1::o2::o3::o4::o5::o6::ar d::r) 7=a_ d:=rfl
theorem AS:yV (o0::o1::o2::o3::o4::o5::o6::o7::ar d::r) 8=a_ d:=rfl
end W
local macro_rules
 | `(tactic|simp! only[$xs,*] $[$l]?)=> `(tactic|simp only[$xs,*,z6,G_,G',S3.bp,S3.j8,pa,u',eb,qs,oo,t_,u0,S3.outD,S3.xO,S3.mV,S3.mK,S3.i8,S3.IW,S3.CA,S3.HM,S3.aw,S3.ae,S3.i9,S3.cX,S3.bb,S3.aq,S3.bI,S3.aN,S3.rf,S3.oN,S3.oS,S3.BY,S3.Fc,S3.tq,S3.Ac,S3.xZ,S3.bV,S3.dj,S3.j6,S3.rh,S3.eQ,S3.iD,S3.uy,S3.eM,S3.oR,S3.rj,S3.cw,S3.Fd,S3.gN,S3.Fe,S3.cV,S3.aE,S3.oU,S3.bB,S3.gx,S3.bS,S3.nQ,S3.vh,S3.rk,S3.du,S3.bc,S3.dN,kS,k_,r7,D_,h_,if_true,if_false,u2,W.AJ,W.AK,W.AL,W.AM,W.AN,W.AO,W.AQ,W.AR,W.AS] $[$l]?)
namespace W
open PySem PySem.Spec PyProof.Rows L2 S3 S4 S7
theorem iL:dO S n (.int i)=ar (.int i):=by cases n<;>rfl
theorem AU:dO S n (.bl b)=ar (.bool b):=by cases n<;>rfl
theorem eq_int{Q:D->aB->Prop}:runs (fJ (.int a) (.int b)) S Q↔Q (.bl (decide (a=b))) S:=by
 unfold fJ;rw[eE iL iL];have:er (.int a) (.int b)=decide (a=b):=by simp only[er];rw[LZ];simp
 rw[this]
theorem mE(l:List Bool):boolsOf (l.map D.bl)=ar l:=by
 induction l with
 |nil=>rfl
 |cons b l ih=>simp[boolsOf,ih]
theorem dW:(S++[xs])[S.length]? =ar xs:=by simp
theorem yw{α:Type}(a:α):ja (a_ a:M α)=a_ a:=rfl
theorem bW{α:Type}(l:List α):l.filter (λ_=>b')=l:=List.filter_eq_self.mpr λ_ _=>rfl
theorem eS{m:cT}{ds:List D}(h:m (ds.map ar++eb (N - n) aC)=a_ o)(Z:outD o=a_ d)(Y:ds.length=n:=by rfl):mJ N n m ds=a_ d:=by unfold mJ mR;rw[if_pos Y];show(ja (m _)>>=outD)=_;rw[h,yw,aj,Z]
theorem vB{m n:TM}(Z:m ρ=a_ x)(Y:n ρ=a_ y):rj m n ρ=jB [x,y]:=by
 have:ae m (ae n aw) ρ=a_ [x,y]:=by unfold ae;rw[Z,aj,Y,aj];rfl
 unfold rj;rw[this,aj]
theorem oh{m:TM}(Z:m ρ=a_ x):oR m ρ=lM [x]:=by
 have:ae m aw ρ=a_ [x]:=by unfold ae;rw[Z,aj];rfl
 unfold oR;rw[this,aj]
theorem Fw(h: -(2 ^ 62)<=i/\i<2 ^ 62/\ -(2 ^ 62)<=j/\j<2 ^ 62):jB [.int i,.int j]=a_ ⟨bg i (j - i).toNat,.none⟩:=by unfold jB;exact if_pos h
theorem AV(h: -(2 ^ 62)<=j/\j<2 ^ 62):lM [.int j]=a_ ⟨bg 0 j.toNat,.none⟩:=by unfold lM;exact if_pos h
theorem bz{f:D->D->M D}{m n:TM}(Z:m ρ=a_ x)(Y:n ρ=a_ y):aN f m n ρ=f x y:=by unfold aN;rw[Z,aj,Y,aj]
theorem AW{bs:List Bool}:tG [.fz (bs.map D.bl)]=a_ (.bl (bs.any id)):=by show(match boolsOf (bs.map D.bl)with|some bs=>(a_ (D.bl (bs.any id)):M D)|none=>M.fail)=_;rw[mE]
theorem dz{f:List D->M D}{m:TM}(h:m ρ=a_ x):bI f m ρ=f [x]:=by
 have:ae m aw ρ=a_ [x]:=by unfold ae;rw[h,aj];rfl
 unfold bI aq;rw[this,aj]
theorem c8{m:TM}(h:m ρ=a_ x):bB m ρ=a_ (.ret x):=by unfold bB;rw[h];rfl
theorem rE(bs:List Bool):cA 0 (bs.map D.bl)=true:=by
 induction bs with
 |nil=>rfl
 |cons x r ih=>rw[Ke];unfold cA;rw[ih];unfold fF;rfl
theorem jq{mi:aA->M Iter}{g:lu}{t:fE}{m:TM}(R:aA->Prop)(q:D->Bool)(f:D->D)(W:mi ρ=a_ ⟨its,.none⟩)(Z:its.length<=lim)(U:R (gP js ρ))(Y:∀d∈its,∀ ρ,R ρ->∃ ρ1,g d ρ=a_ ρ1/\R ρ1/\t ρ1=a_ (q d)/\(q d=b'->m ρ1=a_ (f d)))
  (X:cA 0 ((its.filter q).map f)=b'):aR (bp mi g t m js) ρ=a_ (.fz ((its.filter q).map f)):=by
 have e:bp mi g t m js ρ=bt ((its.filter q).map f):=by unfold bp;rw[W,aj,wL R q f Z U Y,aj]
 unfold aR;rw[e];exact cb X (by rw[JN];exact JX (KD _ _) Z)
section
variable {m n:cT}{ρ ρ':aA}{e e1 e2:TM}{x y d:D}{t:fE}{b:Bool}{o:Out}{N k:Nat}{ds:List D}{F:List D->M D}
theorem aQ(h:m ρ=a_ (.nx ρ')):aE m n ρ=n ρ':=by unfold aE;rw[h];rfl
theorem dX(h:m ρ=a_ (.ret d)):aE m n ρ=a_ (.ret d):=by unfold aE;rw[h];rfl
theorem vC(h:m ρ=M.raise x):aE m n ρ=M.raise x:=by unfold aE;rw[h];rfl
theorem oi(h:e ρ=a_ x):oU e ρ=a_ (.nx ρ):=by unfold oU;rw[h];rfl
theorem AX(h:e ρ=M.raise x):oU e ρ=M.raise x:=by unfold oU;rw[h];rfl
theorem ec(h:e ρ=a_ x):bS i e ρ=a_ (.nx (ρ.set i (ar x))):=by unfold bS;rw[h];rfl
theorem yx(h:e ρ=M.raise x):bS i e ρ=M.raise x:=by unfold bS;rw[h];rfl
theorem cW(h:t ρ=a_ b):gx t m n ρ=if b=b' then m ρ else n ρ:=by unfold gx;rw[h];rfl
theorem bO{f:D->D->M D}(Z:e1 ρ=a_ x)(Y:e2 ρ=a_ y)(h:f x y=a_ (.bl b)):dj f e1 e2 ρ=a_ b:=by unfold dj;rw[Z,aj,Y,aj,h];rfl
theorem bP(h:e ρ=a_ x):aq F (ae e aw) ρ=F [x]:=dz h
theorem iM(h:e ρ=a_ x):aR e ρ=a_ x:=by unfold aR;rw[h];exact rz
theorem Jp(h:e ρ=M.raise x):aR e ρ=M.raise x:=by unfold aR;rw[h];exact AF
theorem iN(h:m (ds.map ar++eb (N - k) aC)=a_ o)(Y:outD o=a_ d)(Z:ds.length=k:=by rfl):mR N k m ds=a_ d:=by unfold mR;rw[if_pos Z,h,aj,Y]
theorem jI(h:m (ds.map ar++eb (N - k) aC)=M.raise x)(Z:ds.length=k:=by rfl):mR N k m ds=M.raise x:=by unfold mR;rw[if_pos Z,h];rfl
end
theorem lS:ja (bt us)=bt us:=by
 funext S;unfold ja bt;by_cases h:us.length<=lim
 ·rw[if_pos h]
 ·rw[if_neg h]
theorem AY{mi:aA->M Iter}{g:lu}{t:fE}{m:TM}(R:aA->Prop)(q:D->Bool)(f:D->D)(W:mi ρ=a_ ⟨its,.none⟩)(Z:its.length<=lim)(U:R (gP js ρ))(Y:∀d∈its,∀ ρ,R ρ->∃ ρ1,g d ρ=a_ ρ1/\R ρ1/\t ρ1=a_ (q d)/\(q d=b'->m ρ1=a_ (f d)))
  (X:cA 0 ((its.filter q).map f)=b'):aR (rq (bp mi g t m js)) ρ=a_ (.fz ((its.filter q).map f)):=by
 have e:rq (bp mi g t m js) ρ=bt ((its.filter q).map f):=by unfold rq bp;rw[W,aj,wL R q f Z U Y,aj,lS]
 unfold aR;rw[e];exact cb X (by rw[JN];exact JX (KD _ _) Z)
theorem call2{F:List D->M D}{e1 e2:TM}(Z:e1 ρ=a_ x)(Y:e2 ρ=a_ y):aq F (ae e1 (ae e2 aw)) ρ=F [x,y]:=by
 have:ae e1 (ae e2 aw) ρ=a_ [x,y]:=by unfold ae;rw[Z,aj,Y,aj];rfl
 unfold aq;rw[this,aj]
theorem kX{e:TM}(h:e ρ=a_ (.bl b)):bV e ρ=a_ b:=by unfold bV;rw[h];rfl
theorem lU{us:List D}(h:us.length<=lim):cz [.fz us]=a_ (.tup us):=by show cy us=_;unfold cy;rw[if_pos h]
section
variable {α β:Type}{c:M α}{f:α->M β}{S S1:aB}{a:α}
theorem aU(h:c S=ar (.ok a,S1)):(c>>=f) S=f a S1:=by show M.bnd c f S=_;unfold M.bnd;rw[h]
end
section
variable {m n:cT}{ρ ρ':aA}{e e1 e2:TM}{x y:D}{S S1 S2:aB}{c:M D}{f:D->List D->M D}{F:List D->M D}
theorem br(h:m ρ S=ar (.ok (.nx ρ'),S1)):aE m n ρ S=n ρ' S1:=aU h
theorem AZ(h:e ρ S=ar (.ok x,S1)):oU e ρ S=ar (.ok (.nx ρ),S1):=aU h
theorem dC(h:e ρ S=ar (.ok x,S1)):bS i e ρ S=ar (.ok (.nx (ρ.set i (ar x))),S1):=aU h
theorem jr(h:e ρ S=ar (.ok x,S1)):bB e ρ S=ar (.ok (.ret x),S1):=aU h
theorem fU{us:List D}(h:us.length<=lim):bt us S=ar (.ok (.lst S.length),S++[us]):=by unfold bt;exact if_pos h
theorem gJ(h:S[p]? =ar us):getL p S=ar (.ok us,S):=by unfold getL;rw[h];rfl
theorem mX{us:List D}(h:us.length<=lim)(Z:p<S.length):lI p us S=ar (.ok .non,S.set p us):=by unfold lI;exact if_pos ⟨h,Z⟩
theorem A0(h:e ρ S=ar (.ok x,S1)):bI F e ρ S=F [x] S1:=by unfold bI aq;rw[aU (a:=[x]) (S1:=S1)];show(e ρ>>=_) S=_;rw[aU h];rfl
theorem Fx(Z:e1 ρ S=ar (.ok x,S1))(Y:e2 ρ S1=ar (.ok y,S2)):i9 (ae e1 (ae e2 aw)) ρ S=ar (.ok (.tup [x,y]),S2):=by
 unfold i9;rw[aU (a:=[x,y]) (S1:=S2)]
 ·unfold cy;rw[if_pos (show[x,y].length<=lim from og)];rfl
 ·show(e1 ρ>>=_) S=_;rw[aU Z];show(((e2 ρ>>=_)>>=_):M (List D)) S1=_;rw[aU (a:=[y]) (S1:=S2)]
  ·rfl
  ·rw[aU Y];rfl
end
theorem mY:fH ⟨its,.none⟩ g b [] ρ=a_ (.nx ρ):=by unfold fH;rw[cn];rfl
theorem vD{g:lu}{b:cT}(h:g d ρ=a_ ρ1)(Z:b ρ1 S=ar (.ok (.nx ρ2),S1)):fH ⟨its,.none⟩ g b (d::ds) ρ S=fH ⟨its,.none⟩ g b ds ρ2 S1:=by rw[fH,cn,aj,h,aj,aU Z]
theorem gU{m:cT}{ds:List D}(h:m (ds.map ar++eb (N - n) aC) S=ar (.ok o,S1))(Z:outD o=a_ d)(Y:ds.length=n:=by rfl):mJ N n m ds S=ar (.ok d,S1):=by
 unfold mJ mR;rw[if_pos Y,aU (a:=o) (S1:=S1),Z]
 ·rfl
 ·show ja (m _) S=_;unfold ja;rw[h]
theorem vE{mi:aA->M Iter}(Z:mi ρ=a_ ⟨its,.none⟩)(h:fH ⟨its,.none⟩ g b its ρ S=ar (.ok o,S1)):j8 mi g b ρ S=ar (.ok o,S1):=by unfold j8;rw[Z,aj];exact h
theorem A1{bs:List Bool}:uW [.fz (bs.map D.bl)]=a_ (.bl (bs.all id)):=by show(match boolsOf (bs.map D.bl)with|some bs=>(a_ (D.bl (bs.all id)):M D)|none=>M.fail)=_;rw[mE]
theorem bw{e:TM}{es:aA->M (List D)}(Y:e ρ=a_ x)(Z:es ρ=a_ ys):ae e es ρ=a_ (x::ys):=by unfold ae;rw[Y,aj,Z];rfl
section
variable {e1 e2:TM}{f:D->D->M D}{x y:D}{S S1 S2:aB}{ρ:aA}{F:List D->M D}
theorem mF(Z:e1 ρ S=ar (.ok x,S1))(Y:e2 ρ S1=ar (.ok y,S2)):aN f e1 e2 ρ S=f x y S2:=by unfold aN;rw[aU Z,aU Y]
theorem dY{es:aA->M (List D)}(Z:e1 ρ S=ar (.ok x,S1))(Y:es ρ S1=ar (.ok ys,S2)):ae e1 es ρ S=ar (.ok (x::ys),S2):=by unfold ae;rw[aU Z,aU Y];rfl
theorem DL(h:S[p]? =ar us)(Z:ke us j=ar x):bx (.lst p) (.int j) S=ar (.ok x,S):=by show(getL p>>=λxs=>match ke xs j with|some d=>(a_ d:M D)|none=>M.fail) S=_;rw[aU (gJ h),Z];rfl
theorem vF{es:aA->M (List D)}(h:es ρ S=ar (.ok ys,S1))(Z:ys.length<=lim):cX es ρ S=ar (.ok (.lst S1.length),S1++[ys]):=by unfold cX;rw[aU h];exact fU Z
end
def rF:D->Bool
 | .int _=>b'
 |_=>dr
abbrev B1(d:D):Prop:=E2 d=b'
def oj:D->Bool
 | .tup [_,_]=>b'
 |_=>dr
def gW(many:Int):D->Bool
 | .int i=>decide (0<=i) && decide (i<many)
 |_=>dr
def iV(many:Int):D->Bool
 | .tup [a,b]=>gW many a && (gW many b && match a,b with| .int i,.int j=>decide (i<j)|_,_=>dr)
 |_=>dr
def Jq(d:D):Prop:=B1 d/\∀ds,d= .tup ds->∀x∈ds,B1 x
theorem jJ(h:gW many d=b'):∃i,d= .int i/\0<=i/\i<many:=by
 cases d with
 |int i=>exact⟨i,rfl,by simpa [gW]using h⟩
 |_=>cases h
def rG:D->D->Bool
 | .tup xs,.tup ys=>match intsOf xs,intsOf ys with
  |some a,ar b=>HT.lexLt a b
  |_,_=>dr
 |_,_=>dr
def rH:List D->Bool
 |a::b::r=>rG a b && rH (b::r)
 |_=>b'
def wN(d:D):Prop:=∃ds ns,d= .tup ds/\intsOf ds=ar ns
theorem wO:∀l:List D,((l.zip (l.drop 1)).map λp=>rG p.1 p.2).all id=rH l
 |[]=>rfl
 |[_]=>rfl
 |a::b::r=>by
  have:=wO (b::r);simp only[y_,M_,B_,pa,NA,id]at this⊢;rw[rH, <-this]
theorem Jd(l:List D):S3.cutD l (ar 1) aC=l.drop 1:=by
 unfold S3.cutD HT.sIx;cases l with
 |nil=>rfl
 |cons a r=>simp
def HQ(d:D):Prop:=B1 d/\∀ds,d= .tup ds->∀x∈ds,B1 x/\∀ts,x= .tup ts->∀t∈ts,Jq t
def kY:D->Bool
 | .tup [.int many,.tup ties]=>decide (0<=many) && (decide (many<=14) && (ties.all (iV many) && rH ties))
 |_=>dr
theorem CT(h:iV many d=b'):∃i j,d= .tup [.int i,.int j]/\0<=i/\i<j/\j<many:=by
 unfold iV at h;split at h
 ·next a b=>
  simp only[i_]at h;obtain⟨Y,X,Z⟩:=h;obtain⟨i,rfl,W,S⟩:=jJ Y;obtain⟨j,rfl,T,U⟩:=jJ X;simp only[decide_eq_true_eq]at Z;exact⟨i,j,rfl,W,Z,U⟩
 ·cases h
theorem yy(h:iV many d=b'):wN d:=by obtain⟨i,j,rfl,_⟩:=CT h;exact⟨_,[i,j],rfl,rfl⟩
section
variable {many:Int}{d:D}{ρ:aA}{e1 e2:TM}{b:Bool}{y:D}
theorem and_eq(Y:e1 ρ=a_ (.bl b))(X:b=b'->e2 ρ=a_ y)(Z:b=dr->y= .bl dr):i8 e1 e2 ρ=a_ y:=by
 unfold i8;rw[Y];cases b with
 |true=>exact X rfl
 |false=>rw[Z rfl];rfl
theorem A2{a b:Int}:fJ (.int a) (.int b)=a_ (.bl (decide (a=b))):=bM λS=>eq_int.mpr ⟨rfl,rfl⟩
theorem rJ(h:B1 d):bY [d]=a_ (.bl (rF d)):=by cases d<;>first|rfl|cases h
theorem rK(h:B1 d):df [d]=a_ (.bl (oj d)):=by
 cases d with
 |tup ds=>
  refine eS (c8 (and_eq (b:=b') rfl (λ_=>(bz (y:=.int 2) (dz (x:=.tup ds) rfl) rfl).trans A2) (λe=>by cases e))) ?_;show a_ (D.bl (decide ((ds.length:Int)=2)))=_
  match ds with
  |[]=>rfl
  |[_]=>rfl
  |[_,_]=>rfl
  |_::_::_::r=>rw[J8 (by simp only[kS];omega)];rfl
 |_=>first|rfl|cases h
theorem wQ(h:B1 d):gn [.int many,d]=a_ (.bl (gW many d)):=by
 cases d with
 |int i=>
  refine eS (c8 (and_eq (b:=b') ((bP rfl).trans (rJ h)) (λ_=>?_) (λe=>by cases e))) rfl;show(if decide (0<=i)=b' then (a_ (D.bl (decide (i<many))):M D)else a_ (.bl dr))=a_ (.bl (decide (0<=i) && decide (i<many)));by_cases h0:0<=i
  ·rw[if_pos (JT h0),JT h0,Mi]
  ·rw[if_neg (by rw[KI];exact h0),J8 h0,LD]
 |_=>first|rfl|cases h
theorem wR(h:oj d=b'):∃a b,d= .tup [a,b]:=by
 unfold oj at h;split at h
 ·exact⟨_,_,rfl⟩
 ·cases h
theorem rL{b:D}:iV many (.tup [a,b])=(gW many a && (gW many b && match a,b with| .int i,.int j=>decide (i<j)|_,_=>dr)):=rfl
theorem Fy(h:Jq d):kQ [.int many,d]=a_ (.bl (iV many d)):=by
 by_cases hp:oj d=b'
 ·obtain⟨a,b,rfl⟩:=wR hp;have W:B1 a:=h.2 _ rfl a (.head _);have X:B1 b:=h.2 _ rfl b (.tail _ (.head _));refine eS (o:=.ret (.bl (iV many (.tup [a,b])))) ?_ rfl;unfold n6;have Z:eQ (bV (aq df (ae (mV 1) aw))) [ar (.int many),ar (.tup [a,b]),aC,aC]=a_ false:=by
   show(bV _ _>>=_)=_;rw[kX ((bP rfl).trans (rK h.1))];rfl
  refine(aQ (ρ':=[ar (.int many),ar (.tup [a,b]),aC,aC]) ((cW Z).trans (if_neg (by decide)))).trans ((aQ (ρ':=[ar (.int many),ar (.tup [a,b]),ar a,ar b]) rfl).trans (c8 ?_));refine and_eq (b:=gW many a) ((call2 rfl rfl).trans (wQ W)) (λk1=>and_eq (b:=gW many b) ((call2 rfl rfl).trans (wQ X)) (λk2=>?_) λk2=>?_) λk1=>?_
  ·obtain⟨i,rfl,_⟩:=jJ k1;obtain⟨j,rfl,_⟩:=jJ k2;rw[rL,k1,k2];rfl
  ·rw[rL,k2,LD,Bool.and_false]
  ·rw[rL,k1,LD]
 ·have Y:oj d=false:=by rw[<-LI];exact hp
  have Z:eQ (bV (aq df (ae (mV 1) aw))) [ar (.int many),ar d,aC,aC]=a_ true:=by show(bV _ _>>=_)=_;rw[kX ((bP rfl).trans (rK h.1)),Y];rfl
  refine(eS (o:=.ret (.bl dr)) (dX ((cW Z).trans (if_pos rfl))) rfl).trans ?_;unfold iV;split
  ·cases hp rfl
  ·rfl
theorem Fz{a b:D}(Y:wN a)(Z:wN b):pV a b=a_ (.bl (rG a b)):=by obtain⟨xs,ns,rfl,e1⟩:=Y;obtain⟨ys,ms,rfl,e2⟩:=Z;simp only[pV,e1,e2,rG]
def Jr:D->D
 | .tup [a,b]=>.bl (rG a b)
 |_=>.non
theorem A3(h:∀t∈ts,wN t)(W:ts.length<=1000):fj [.tup ts]=a_ (.bl (rH ts)):=by
 have em:(((ts.zip (ts.drop 1)).map λp:D×D=>D.tup [p.1,p.2]).filter λ_=>b').map Jr=((ts.zip (ts.drop 1)).map λp=>rG p.1 p.2).map D.bl:=by rw[bW,Kf,Kf];rfl
 have hs:aR (BY (mV 0) (oS (mK (.int 1))) oN) [ar (.tup ts)]=a_ (.tup (ts.drop 1)):=by refine iM (?_ :cy (S3.cutD ts (ar 1) aC)=_);rw[Jd];unfold cy;exact if_pos (by rw[Md];unfold lim;omega)
 have X:nV (mV 0) (aR (BY (mV 0) (oS (mK (.int 1))) oN)) [ar (.tup ts)]=a_ ⟨(ts.zip (ts.drop 1)).map λp:D×D=>D.tup [p.1,p.2],.none⟩:=by unfold nV;rw[bw (x:=.tup ts) rfl (bw hs rfl)];rfl
 have Z:=jq (g:=du 2 (bc (gN 0) (bc (gN 1) dN))) (t:=gi) (m:=gj) (js:=[aC,aC]) (λρ=>∃x y,ρ=[x,y]) (λ_=>b') Jr X (by rw[JN,List.length_zip];unfold lim;omega) ⟨aC,aC,rfl⟩
  (λd hd ρ ⟨x,y,hρ⟩=>by subst hρ;obtain⟨⟨a,b⟩,Y,rfl⟩:=Kl.mp hd;exact⟨_,rfl,⟨_,_,rfl⟩,rfl,λ_=>(bz (x:=a) (y:=b) rfl rfl).trans (Fz (h a (LS Y).1) (h b (List.mem_of_mem_drop (LS Y).2)))⟩) (by rw[em];exact rE _)
 rw[em]at Z;refine eS (c8 ((dz Z).trans A1)) ?_;rw[wO];rfl
theorem FA(h:HQ d)(W:∀m ts,d= .tup [m,.tup ts]->ts.length<=1000):jg [d]=a_ (.bl (kY d)):=by
 by_cases hp:oj d=b'
 ·obtain⟨a,t,rfl⟩:=wR hp;obtain⟨N,_⟩:=h.2 _ rfl a (.head _);obtain⟨O,R⟩:=h.2 _ rfl t (.tail _ (.head _));refine eS (o:=.ret (.bl (kY (.tup [a,t])))) ?_ rfl;unfold n8;have S:eQ (bV (aR (aq df (ae (mV 0) aw)))) [ar (.tup [a,t]),aC,aC]=a_ false:=by
   show(bV _ _>>=_)=_;rw[kX (iM ((bP rfl).trans (rK h.1)))];rfl
  refine(aQ (ρ':=[ar (.tup [a,t]),aC,aC]) ((cW S).trans (if_neg (by decide)))).trans ((aQ (ρ':=[ar (.tup [a,t]),ar a,ar t]) rfl).trans ?_);have hw:eQ (bV (aR (aq bY (ae (mV 1) aw)))) [ar (.tup [a,t]),ar a,ar t]=a_ (!rF a):=by show(bV _ _>>=_)=_;rw[kX (iM ((bP rfl).trans (rJ N)))];rfl
  have X:∀{p q:fE} {b:Bool} {ρ:aA},p ρ=a_ b->uy p q ρ=if b=b' then a_ b' else q ρ:=λ{p q b ρ} e=>by show(p ρ>>=_)=_;rw[e];rfl
  have no:∀{q:fE},uy (eQ (bV (aR (aq bY (ae (mV 1) aw))))) q [ar (.tup [a,t]),ar a,ar t]=a_ b'->aE (gx (uy (eQ (bV (aR (aq bY (ae (mV 1) aw))))) q) (bB (mK (.bl dr))) cV) (bB (i8 (bI uW (aR (bp (cw (mV 2)) (gN 0) gE gF [aC,ar 1]))) (aR (aq fj (ae (mV 2) aw))))) [ar (.tup [a,t]),ar a,ar t]=a_ (.ret (.bl dr)):=λe=>dX ((cW e).trans (if_pos rfl));by_cases ew:rF a=b'
  ·cases a with
   | int many=>
    rw[ew]at hw;have U:eQ (j6 BU BU (mK (.int 0)) (mV 1) (mK (.int 14))) [ar (.tup [.int many,t]),ar (.int many),ar t]=a_ (!(decide (0<=many) && decide (many<=14))):=by
     show(((if decide (0<=many)=b' then (a_ (D.bl (decide (many<=14))):M D)else a_ (.bl dr))>>=iT)>>=_)=_;by_cases h0:0<=many
     ·rw[if_pos (JT h0),JT h0,Mi];rfl
     ·rw[if_neg (by rw[KI];exact h0),J8 h0,LD];rfl
    by_cases hr:(decide (0<=many) && decide (many<=14))=b'
    ·rw [hr]at U;cases t with
     | tup ts=>
      have P:=W _ ts rfl;have L:uy (eQ (bV (aR (aq bY (ae (mV 1) aw))))) (uy (eQ (j6 BU BU (mK (.int 0)) (mV 1) (mK (.int 14)))) (eQ (bV (tq (mV 2) "tuple")))) [ar (.tup [.int many,.tup ts]),ar (.int many),ar (.tup ts)]=a_ false:=by rw[X hw,if_neg (by decide),X U,if_neg (by decide)];rfl
      refine(aQ ((cW L).trans (if_neg (by decide)))).trans (c8 ?_);have em:(ts.filter λ_=>b').map (λd=>D.bl (iV many d))=(ts.map (iV many)).map D.bl:=by rw[bW,Kf];rfl
      have hm:=jq (mi:=cw (mV 2)) (ρ:=[ar (.tup [.int many,.tup ts]),ar (.int many),ar (.tup ts)]) (g:=gN 0) (t:=gE) (m:=gF) (js:=[aC,ar 1]) (its:=ts) (λρ=>∃x,ρ=[x,ar (.int many)]) (λ_=>b') (λd=>.bl (iV many d)) rfl (by unfold lim;omega) ⟨aC,rfl⟩
       (λd hd ρ ⟨x,hρ⟩=>by subst hρ;exact⟨_,rfl,⟨_,rfl⟩,rfl,λ_=>iM ((call2 (x:=.int many) (y:=d) rfl rfl).trans (Fy (R ts rfl d hd)))⟩) (by rw[em];exact rE _)
      rw[em]at hm;have T:(ts.map (iV many)).all id=ts.all (iV many):=by rw[NN];rfl
      have Y:kY (.tup [.int many,.tup ts])=(ts.all (iV many) && rH ts):=by show(decide (0<=many) && (decide (many<=14) && (ts.all (iV many) && rH ts)))=_;rw[<-Bool.and_assoc,hr,Mi]
      rw[Y];refine and_eq (b:=ts.all (iV many)) ((dz hm).trans (A1.trans (by rw[T]))) (λZ=>?_) λZ=>by rw[Z];rfl
      rw[Z,Mi];exact iM ((bP rfl).trans (A3 (λt O=>yy (Kt.mp Z t O)) P))
     |_=>first|exact no (by rw[X hw,if_neg (by decide),X U,if_neg (by decide)];rfl)|cases O
    ·have Y:kY (.tup [.int many,t])=false:=by
      cases t<;>first|rfl|(show(decide (0<=many) && (decide (many<=14) && _))=dr;rw[<-Bool.and_assoc,LI _ |>.mp hr,LD])
     rw[Y];rw[LI _ |>.mp hr]at U;exact no (by rw[X hw,if_neg (by decide),X U];rfl)
   |_=>cases ew
  ·have Y:kY (.tup [a,t])=false:=by cases a<;>first|rfl|exact absurd rfl ew
   rw[Y];exact no (by rw[X hw,LI _ |>.mp ew];rfl)
 ·have Q:oj d=false:=by rw[<-LI];exact hp
  have S:eQ (bV (aR (aq df (ae (mV 0) aw)))) [ar d,aC,aC]=a_ true:=by show(bV _ _>>=_)=_;rw[kX (iM ((bP rfl).trans (rK h.1))),Q];rfl
  refine(eS (o:=.ret (.bl dr)) (dX ((cW S).trans (if_pos rfl))) rfl).trans ?_;unfold kY;split
  ·cases hp rfl
  ·rfl
end
def eT(S:aB)(k:Nat):Prop:=∃st b,S[k]? =ar [.int st,.bl b]/\0<=st/\(b=dr->st<2147483647)
theorem eT.lt{S:aB}{k:Nat}(h:eT S k):k<S.length:=let ⟨_,_,e,_⟩:=h;(JV.mp e).1
theorem DM{t:fE}{m n:cT}{ρ:aA}{b:Bool}{S S1:aB}(h:t ρ S=ar (.ok b,S1)):gx t m n ρ S=if b=b' then m ρ S1 else n ρ S1:=by show(t ρ>>=λc=>if c=b' then m ρ else n ρ) S=_;rw[aU h];split<;>rfl
section
variable {S:aB}{k:Nat}{st x y many:Int}{b:Bool}{r:List (Option D)}{e1 e2:TM}{ρ:aA}
theorem Gc(e:S[k]? =ar [.int st,.bl b]):aN bx (mV 0) (mK (.int 0)) (ar (.lst k)::r) S=ar (.ok (.int st),S):=DL e rfl
theorem lV(Z:e1 ρ S=ar (.ok (.int x),S))(Y:e2 ρ S=ar (.ok (.int y),S))(h:0<y):aN mH e1 e2 ρ S=ar (.ok (.int (x % y)),S):=
 (mF Z Y).trans (Kv (if_pos h:(if 0<y then (a_ (D.int (x % y)):M D)else M.fail)=_) S)
theorem om(Z:e1 ρ S=ar (.ok (.int x),S))(Y:e2 ρ S=ar (.ok (.int y),S))(h:oW x y):aN kD e1 e2 ρ S=ar (.ok (.int (x*y)),S):=
 (mF Z Y).trans (Kv (if_pos h:(if oW x y then (a_ (D.int (x*y)):M D)else M.fail)=_) S)
theorem A4(Z:e1 ρ S=ar (.ok (.int x),S))(Y:e2 ρ S=ar (.ok (.int y),S))(h:uB x y):aN iQ e1 e2 ρ S=ar (.ok (.int (x / y)),S):=
 (mF Z Y).trans (Kv (if_pos h:(if uB x y then (a_ (D.int (x / y)):M D)else M.fail)=_) S)
theorem rM(Z:e1 ρ S=ar (.ok (.int x),S))(Y:e2 ρ S=ar (.ok (.int y),S)):aN iw e1 e2 ρ S=ar (.ok (.int (x+y)),S):=(mF Z Y).trans rfl
theorem Hj(e:S[k]? =ar [.int st,.bl b])(h:e1 (ar (.lst k)::r) S=ar (.ok (.int x),S)):nQ e1 (Fe (mV 0) (mK (.int 0))) (ar (.lst k)::r) S=ar (.ok (.nx (ar (.lst k)::r)),S.set k [.int x,.bl b]):=by
 have Y:i5 (.lst k) (.int 0) (.int x) S=ar (.ok (),S.set k [.int x,.bl b]):=by show(getL k>>=_) S=_;rw[aU (gJ e)];exact aU (mX (us:=[.int x,.bl b]) og (JV.mp e).1)
 have Z:Fe (mV 0) (mK (.int 0)) (.int x) (ar (.lst k)::r) S=ar (.ok (ar (.lst k)::r),S.set k [.int x,.bl b]):=aU Y;show(e1 _>>=_) S=_;rw[aU h];exact aU Z
theorem oq{m n:cT}{d:D}{S1:aB}(h:m ρ S=ar (.ok (.ret d),S1)):aE m n ρ S=ar (.ok (.ret d),S1):=aU h
end
theorem FB{S:aB}{k:Nat}{many:Int}{Q:D->aB->Prop}(hs:eT S k)(Y:0<many)(P:many<1073741824)
  (X:∀j S',0<=j->j<many->S'.length=S.length->(∀i,i≠k->S'[i]? =S[i]?)->eT S' k->Q (.int j) S'):runs (bf [.lst k,.int many]) S Q:=by
 have W:=hs.lt;obtain⟨st,b,e,O,N⟩:=hs;have q:∀x:Int,0<=x % many/\x % many<many:=λx=>⟨Mq _ (by omega),L0 _ Y⟩;have R:bV (aN bx (mV 0) (mK (.int 1))) [ar (.lst k),ar (.int many),aC,aC] S=ar (.ok b,S):=aU (DL (x:=.bl b) e rfl);have Z:∀(ys:List D) i,i≠k->(S.set k ys)[i]? =S[i]? :=λys i L=>KJ (k8 L);cases b with
 |true=>
  refine⟨_,_,gU (o:=.ret (.int (st % many))) (S1:=S.set k [.int (st / many),.bl b']) ?_ rfl,X _ _ (q _).1 (q _).2 (by simp) (Z _) ⟨_,b',KN W,Int.ediv_nonneg O (by omega),λz=>by cases z⟩⟩;exact oq ((DM R).trans ((br (dC (lV (Gc e) rfl Y))).trans ((br (Hj e (A4 (Gc e) rfl ⟨Y,P⟩))).trans (jr rfl))))
 |false=>
  have I:=N rfl;generalize hst:(st*48271+29) % 2147483647=st';have s1:0<=st':=by rw[<-hst];exact Mq _ (by decide)
  have s2:st'<2147483647:=by rw[<-hst];exact L0 _ (by decide)
  have e1:(S.set k [.int st',.bl dr])[k]? =ar [.int st',.bl dr]:=KN W;have T:=Hj (r:=[ar (.int many),aC,aC]) e (lV (rM (om (Gc e) (e2:=mK (.int 48271)) rfl (.inr ⟨by decide,by decide⟩)) (e2:=mK (.int 29)) rfl) (e2:=mK (.int 2147483647)) rfl (by decide));rw[hst]at T;have U:∀r,aN mH (aN iw (aN iw (aN kD (aN bx (mV 0) (mK (.int 0))) (aN bx (mV 0) (mK (.int 0)))) (aN kD (mK (.int 39373)) (aN bx (mV 0) (mK (.int 0))))) (mK (.int 7))) (mK (.int 2147483629)) (ar (.lst k)::r) (S.set k [.int st',.bl dr])=_:=λr=>lV (rM (rM (om (Gc e1) (Gc e1) (.inl ⟨by omega,by omega⟩)) (om rfl (Gc e1) (.inl ⟨by decide,by decide⟩))) rfl) rfl (by decide);generalize hx:(st'*st'+39373*st'+7) % 2147483629=x at U;have K:0<=x:=by rw[<-hx];exact Mq _ (by decide)
  have J:x<2147483629:=by rw[<-hx];exact L0 _ (by decide)
  refine⟨_,_,gU (o:=.ret (.int ((x*x+16807*x) % 2147483587 / 8 % many))) (S1:=S.set k [.int st',.bl dr]) ?_ rfl,X _ _ (q _).1 (q _).2 (by simp) (Z _) ⟨_,dr,e1,s1,λ_=>s2⟩⟩;exact(br (DM R)).trans ((br T).trans ((br (dC (U _))).trans ((br (dC (lV (rM (om rfl rfl (.inl ⟨by omega,by omega⟩)) (om rfl rfl (.inl ⟨by decide,by decide⟩))) rfl (by decide)))).trans (jr (lV (A4 rfl rfl ⟨by decide,by decide⟩) rfl Y)))))
theorem FC{S:aB}{ns:List Int}{k:Nat}:∃i,dy [.ro (ns.map D.int),.int k] S=ar (.ok (.int i),S):=by
 have Z:dj pV (mV 1) (bI bR (mV 0)) [ar (.ro (ns.map D.int)),ar (.int k)]=a_ (decide ((k:Int)<(ns.map D.int).length)):=bO (x:=.int k) (y:=.int (ns.map D.int).length) rfl rfl rfl;by_cases h:k<ns.length
 ·refine⟨ns[k],gU (o:=.ret (.int ns[k])) (oq ((Kv ((cW Z).trans (if_pos (JT (by rw[JN];omega)))) S).trans (jr (x:=.int ns[k]) (S1:=S) ?_))) rfl⟩;have e:ke (ns.map D.int) (k:Int)=ar (.int ns[k]):=by
   unfold ke yT;simp[h]
  show(match ke (ns.map D.int) k with|some d=>(a_ d:M D)|none=>M.fail) S=_;rw[e];rfl
 ·exact⟨0,gU (o:=.ret (.int 0)) (Kv ((aQ ((cW Z).trans (if_neg (by rw[KI,JN];omega)))).trans rfl) S) rfl⟩
theorem CU{S:aB}{ns:List Int}{k:Nat}{Q:D->aB->Prop}(W:∀xs,eT (S++[xs]) S.length->Q (.lst S.length) (S++[xs])):runs (fM [.ro (ns.map D.int),.int k]) S Q:=by
 obtain⟨c,U⟩:=FC (S:=S) (ns:=ns) (k:=k);have Y:bS 2 (aq dy (ae (mV 0) (ae (mV 1) aw))) [ar (.ro (ns.map D.int)),ar (.int k),aC] S=ar (.ok (.nx [ar (.ro (ns.map D.int)),ar (.int k),ar (.int c)]),S):=dC (x:=.int c) (by rw[call2 (x:=.ro (ns.map D.int)) (y:=.int k) rfl rfl];exact U);have X:∀ ρ,aN zN (mK (.int 10)) (mK (.int 18)) ρ=a_ (.int 1000000000000000000):=λρ=>(bz (x:=.int 10) (y:=.int 18) rfl rfl).trans (if_pos (e:=M.fail) (show Ca 10 18 from⟨by decide,by decide,by decide⟩));have Z:dj G0 (mV 2) (aN zN (mK (.int 10)) (mK (.int 18))) [ar (.ro (ns.map D.int)),ar (.int k),ar (.int c)]=a_ (decide (1000000000000000000<=c)):=bO (x:=.int c) rfl (X _) rfl;by_cases h:1000000000000000000<=c
 ·exact⟨_,_,gU (o:=.ret (.lst S.length)) ((br Y).trans (oq ((Kv ((cW Z).trans (if_pos (JT h))) S).trans (jr (vF (ys:=[.int (c - 1000000000000000000),.bl b']) (dY (S1:=S) (Kv ((bz (x:=.int c) rfl (X _)).trans rfl) S) (dY rfl rfl)) og))))) rfl,W _ ⟨_,b',dW,by omega,λz=>by cases z⟩⟩
 ·exact⟨_,_,gU (o:=.ret (.lst S.length)) ((br Y).trans ((br (Kv ((cW Z).trans (if_neg (by rw[KI];exact h))) S)).trans (jr (vF (ys:=[.int (c % 2147483647),.bl dr]) (dY (lV rfl rfl (by decide)) (dY rfl rfl)) og)))) rfl,W _ ⟨_,dr,dW,Mq _ (by decide),λ_=>L0 _ (by decide)⟩⟩
def iO(n a:Nat):List (List Int):=(k7 (a+1) (n - (a+1))).map λb:Nat=>[(a:Int),(b:Int)]
def bu(n:Nat):List (List Int):=(dV n).flatMap (iO n)
theorem pairs_len(Z:n<=14):(bu n).length<=91:=by
 have:∀m,m<15->(bu m).length<=91:=by decide+kernel
 exact this n (by omega)
theorem CV(Z:n<=14):(iO n a).length<=14:=by unfold iO;simp;omega
structure Kp(k:Nat)(S S':aB):Prop where
 len:S.length<=S'.length
 oth:∀i,i<S.length->i≠k->S'[i]? =S[i]?
 st:eT S' k
theorem Kp.trans(a:Kp k S S1)(b:Kp k S1 S2):Kp k S S2:=⟨JX a.len b.len,λi Z Y=>(b.oth i (J1 Z a.len) Y).trans (a.oth i Z Y),b.st⟩
theorem Kp.refl(h:eT S k):Kp k S S:=⟨JQ _,λ_ _ _=>rfl,h⟩
theorem eT.grow(h:eT S k):eT (S++G) k:=by obtain⟨st,b,e,r⟩:=id h;exact⟨st,b,by rw[Kq h.lt];exact e,r⟩
theorem Kp.grow(h:eT S k)(G:aB):Kp k S (S++G):=⟨by simp,λi Z _=>Kq Z,h.grow⟩
theorem CY{Q:D->aB->Prop}(hs:eT S k)(W:0<many)(X:many<1073741824)(U:∀j Z,0<=j->j<many->Z.length=S.length->Kp k S Z->Q (.int j) Z):runs (bf [.lst k,.int many]) S Q:=
 FB hs W X λj Z a b c d e=>U j Z a b c ⟨Lz c.symm,λi _ Y=>d i Y,e⟩
theorem hZ:∀ns:List Int,mapP (dO S n) (ns.map D.int)=ar (ns.map j2)
 |[]=>rfl
 |x::r=>by
  show(match dO S n (D.int x),mapP (dO S n) (r.map D.int)with|some p,ar ps=>ar (p::ps)|_,_=>aC)=_;rw[iL,hZ r];rfl
theorem A5{ns:List Int}(h:S[k]? =ar (ns.map D.int)):dO S (n+1) (.lst k)=ar (.list (ns.map j2)):=by show((S[k]?).bind λxs=>(mapP (dO S n) xs).map n3)=_;rw[h];show(mapP (dO S n) (ns.map D.int)).map n3=_;rw[hZ];rfl
theorem qi{α Z:Type}(f:α->Z):∀(l:List α) (i:Nat),(l.map f).eraseIdx i=(l.eraseIdx i).map f
 |[],_=>rfl
 |_::_,0=>rfl
 |a::l,i+1=>by simp[qi f l i]
def iW(r:List Int):PyData:=.tuple (r.map j2)
theorem jK(r:List Int):dO S (n+1) (tupI r)=ar (iW r):=by show(mapP (dO S n) (r.map D.int)).map qq=_;rw[hZ];rfl
theorem jL:∀rs:List (List Int),mapP (dO S (n+1)) (rs.map tupI)=ar (rs.map iW)
 |[]=>rfl
 |x::r=>by
  show(match dO S (n+1) (tupI x),mapP (dO S (n+1)) (r.map tupI)with|some p,ar ps=>ar (p::ps)|_,_=>aC)=_;rw[jK,jL r];rfl
theorem A6{rs:List (List Int)}(h:S[k]? =ar (rs.map tupI)):dO S (n+2) (.lst k)=ar (.list (rs.map iW)):=by show((S[k]?).bind λxs=>(mapP (dO S (n+1)) xs).map n3)=_;rw[h];show(mapP (dO S (n+1)) (rs.map tupI)).map n3=_;rw[jL];rfl
theorem CZ{rs:List (List Int)}{Q:D->aB->Prop}(h:S[k]? =ar (rs.map tupI))(Z:∀b,Q (.bl b) S):runs (inD (tupI r) (.lst k)) S Q:=by unfold inD;rw[mU (jK r) (A6 h) rfl];exact Z _
theorem Hk{Q:D->aB->Prop}(Z:∀b,Q (.bl b) S):runs (kH (.bl a) (.bl b)) S Q:=by unfold kH;rw[eE AU AU];exact Z _
theorem gq(ns:List Int):intsOf (ns.map D.int)=ar ns:=by
 induction ns with
 |nil=>rfl
 |cons x r ih=>simp[intsOf,ih]
theorem vG(rs:List (List Int)):rowsOf (rs.map tupI)=ar rs:=by
 induction rs with
 |nil=>rfl
 |cons x r ih=>
  show(match intsOf (x.map D.int),rowsOf (r.map tupI)with|some ns,ar nss=>ar (ns::nss)|_,_=>aC)=_;rw[gq,ih]
structure WebOk(many:Int)(ts:List (List Int)):Prop where
 el:∀t∈ts,∃a b:Int,t=[a,b]/\0<=a/\a<b/\b<many
 ris:ts.Pairwise λa b=>HT.lexLt a b=b'
 few:ts.length<=21
theorem tP:∀t∈bu n,∃a b:Int,t=[a,b]/\0<=a/\a<b/\b<n:=by intro t X;unfold bu at X;obtain⟨a,W,Y⟩:=M0.mp X;unfold iO at Y;obtain⟨b,Z,rfl⟩:=Kl.mp Y;rw[Ln]at Z;rw[J2]at W;exact⟨a,b,rfl,by omega,by omega,by omega⟩
theorem qj(Z:n<=7):(bu n).Pairwise (λa b=>HT.lexLt a b=b')/\(bu n).length<=21:=by
 have:∀m,m<8->(bu m).Pairwise (λa b=>HT.lexLt a b=b')/\(bu m).length<=21:=by decide+kernel
 exact this n (by omega)
theorem WebOk.of_sub(Z:n<=7){Y:List (List Int)}(h:Y.Sublist (bu n)):WebOk n Y:=
 ⟨λt X=>tP t (h.subset X),List.Pairwise.sublist h (qj Z).1,JX h.length_le (qj Z).2⟩
theorem yz{Z:List (List Int)}(h:Z.Pairwise λa b=>HT.lexLt a b=b'):dP Z=Z:=
 pY (bL Z) (fL Z) (h.imp λz=>sZ z)
theorem yA:rG (tupI a) (tupI b)=HT.lexLt a b:=by simp only[rG,tupI,gq]
theorem tQ:∀{ts:List (List Int)},ts.Pairwise (λa b=>HT.lexLt a b=b')->rH (ts.map tupI)=b'
 |[],_=>rfl
 |[_],_=>rfl
 |a::b::r,h=>by
  obtain⟨Z,Y⟩:=Kx.mp h;show(rG (tupI a) (tupI b) && rH ((b::r).map tupI))=b';rw[yA,Z b (by simp),tQ Y];rfl
theorem rN(U:0<=many)(Z:many<=14)(w:WebOk many ts):kY (.tup [.int many,.tup (ts.map tupI)])=true:=by
 have:(ts.map tupI).all (iV many)=true:=by rw[NN,Kt];intro t T;obtain⟨a,b,rfl,Y,W,X⟩:=w.el t T;simp[tupI,iV,gW,Y,W,X];omega
 simp only[kY,U,Z,this,tQ w.ris,decide_true,Bool.and_self]
structure Good(d:D):Prop where
 nr:HQ d
 few:∀m ts,d= .tup [m,.tup ts]->ts.length<=18
theorem Hl{xs:List D}{j:Int}(X:0<=j)(Y:j<xs.length):∃d,ke xs j=ar d/\d∈xs:=by
 have Z:j.toNat<xs.length:=by omega
 refine⟨xs[j.toNat],?_,Lr Z⟩;unfold ke yT;simp[X,Y,Z]
section
variable {d:D}
theorem vH(h:HQ d)(Y:∀m ts,d= .tup [m,.tup ts]->ts.length<=1000):bN [d]=if kY d=b' then a_ .non else M.raise (.exc "NoWeb" []):=by
 have Z:eQ (bV (aR (aq jg (ae (mV 0) aw)))) [ar d]=a_ (!kY d):=by show(bV _ _>>=_)=_;rw[kX (b:=kY d) (iM ((bP rfl).trans (FA h Y)))];rfl
 cases hw:kY d with
 |true=>exact(iN ((cW Z).trans (by rw[hw];exact if_neg (by decide))) rfl).trans (if_pos rfl).symm
 |false=>exact(jI ((cW Z).trans (by rw[hw];exact if_pos rfl))).trans (if_neg (by decide)).symm
end
def Js(n:Nat):D->List D
 | .int a=>(iO n a.toNat).map tupI
 |_=>[]
theorem C0(n a:Nat):((bg ((a:Int)+1) ((n:Int) - ((a:Int)+1)).toNat).filter λ_=>b').flatMap (λd=>[D.tup [.int a,d]])=(iO n a).map tupI:=by
 have e:((n:Int) - ((a:Int)+1)).toNat=n - (a+1):=by omega
 rw[e,bW];unfold bg iO;rw[MO,Kf,Kf,List.flatMap_map]
 induction (dV (n - (a+1)))with
 |nil=>rfl
 |cons x l ih=>rw[MP,ih];rfl
theorem C1(n:Nat):((bg 0 n).filter λ_=>b').flatMap (Js n)=(bu n).map tupI:=by rw[bW];unfold bg bu;rw[List.flatMap_map,List.map_flatMap];congr 1;funext a;show(iO n (0+(a:Int)).toNat).map tupI=_;congr 2;omega
theorem dZ(l:List (List Int)):cA 0 (l.map tupI)=true:=by
 have h:∀r:List Int,cA 0 (r.map D.int)=true:=λr=>by
  induction r with
  |nil=>rfl
  |cons x r ih=>rw[Ke];unfold cA;rw[ih];unfold fF;rfl
 induction l with
 |nil=>rfl
 |cons x l ih=>rw[Ke];unfold cA;rw[ih];unfold tupI fF;rw[h];rfl
theorem tR(Z:n<=50):(bu n).length<=2500:=by
  have:∀l:List Nat,(l.flatMap (iO n)).length<=l.length*50:=λl=>by
    induction l with
    |nil=>exact JQ 0
    | cons x l ih => rw[MP,JW,Ki,LP];have:(iO n x).length<=50:=by unfold iO;simp;omega
                     omega
  have:=this (dV n);rw[J4]at this;unfold bu;exact JX this (Nat.mul_le_mul_right 50 Z)
theorem Hm{n a:Nat}(U:n<=50)(T:a<n)(y:Option D):∃ ρ2,(∃x y,ρ2=[x,y,ar (.int n)])/\Fp (rj (aN iw (mV 0) (mK (.int 1))) (mV 2)) (gN 1) cK bU [ar (.int a),y,ar (.int n)]=a_ ((iO n a).map tupI,ρ2):=by
 obtain⟨ρ',⟨Z,rfl⟩,e⟩:=wM (its:=bg ((a:Int)+1) ((n:Int) - ((a:Int)+1)).toNat) (g:=gN 1) (t:=cK) (bd:=yk bU) (λρ=>∃y,ρ=[ar (.int a),y,ar (.int n)]) (λ_=>b') (λd=>[D.tup [.int a,d]]) (bg ((a:Int)+1) ((n:Int) - ((a:Int)+1)).toNat) [ar (.int a),y,ar (.int n)] ⟨y,rfl⟩ λd hd ρ ⟨y,hρ⟩=>by
  subst hρ;refine⟨_,rfl,rfl,λ_=>⟨[ar (.int a),ar d,ar (.int n)],⟨_,rfl⟩,?_⟩,λh=>by cases h⟩;have:bU [ar (.int a),ar d,ar (.int n)]=a_ (.tup [.int a,d]):=by show cy [.int a,d]=_;unfold cy;exact if_pos og
  show(bU [ar (.int a),ar d,ar (.int n)]>>=_)=_;rw[this];rfl
 refine⟨[ar (.int a),Z,ar (.int n)],⟨ar (.int a),Z,rfl⟩,?_⟩;have X: -(2 ^ 62)<=(a:Int)+1/\(a:Int)+1<2 ^ 62/\ -(2 ^ 62)<=(n:Int)/\(n:Int)<2 ^ 62:=by omega
 have Y:(bg ((a:Int)+1) ((n:Int) - ((a:Int)+1)).toNat).length<=3000:=by unfold bg;simp;omega
 rw[C0]at e;have W:rj (aN iw (mV 0) (mK (.int 1))) (mV 2) [ar (.int a),y,ar (.int n)]=a_ ⟨bg ((a:Int)+1) ((n:Int) - ((a:Int)+1)).toNat,.none⟩:=by exact(vB (bz (x:=.int a) (y:=.int 1) rfl rfl) (y:=.int n) rfl).trans (Fw X)
 unfold Fp;rw[W,aj];dsimp only;rw[if_pos Y];exact e
theorem C3{n:Nat}(U:n<=50):kf (dw [.int n])=a_ (.fz ((bu n).map tupI)):=by
 obtain⟨ρ',_,e⟩:=wM (its:=bg 0 n) (g:=gN 0) (t:=dQ) (bd:=Fp (rj (aN iw (mV 0) (mK (.int 1))) (mV 2)) (gN 1) cK bU) (λρ=>∃x y,ρ=[x,y,ar (.int n)]) (λ_=>b') (Js n) (bg 0 n) [aC,aC,ar (.int n)] ⟨aC,aC,rfl⟩ λd hd ρ ⟨x,y,hρ⟩=>by subst hρ;obtain⟨a,S,rfl⟩:=Kl.mp hd;have Y:=J2.mp S;refine⟨_,rfl,rfl,λ_=>?_,λh=>by cases h⟩;obtain⟨X,Z,W⟩:=Hm U Y y;refine⟨X,Z,?_⟩;show Fp _ _ _ _ [ar (.int (0+(a:Int))),y,ar (.int n)]=_;rw[MB,W];rfl
 rw[C1]at e;have P: -(2 ^ 62)<=(n:Int)/\(n:Int)<2 ^ 62:=by omega
 have Q:(bg 0 n).length<=3000:=by unfold bg;simp;omega
 have Z:lR (oR (mV 0)) (gN 0) dQ (rj (aN iw (mV 0) (mK (.int 1))) (mV 2)) (gN 1) cK bU [aC,aC,ar 0] [ar (.int n)]=bt ((bu n).map tupI):=by
  have O:oR (mV 0) [ar (.int n)]=a_ ⟨bg 0 n,.none⟩:=by have:=(oh (m:=mV 0) (ρ:=[ar (.int n)]) (x:=.int n) rfl).trans (AV P);rw[Ko]at this;exact this
  have T:gP [aC,aC,ar 0] [ar (D.int n)]=[aC,aC,ar (.int n)]:=rfl;unfold lR;rw[O,aj];dsimp only;rw[if_pos Q,T,e,aj]
 have W:bB (aR (lR (oR (mV 0)) (gN 0) dQ (rj (aN iw (mV 0) (mK (.int 1))) (mV 2)) (gN 1) cK bU [aC,aC,ar 0])) [ar (.int n)]=a_ (.ret (.fz ((bu n).map tupI))):=by unfold bB aR;rw[Z,cb (dZ _) (by rw[JN];exact JX (tR U) (by unfold lim;omega))];rfl
 have R:dw [.int n]=a_ (.fz ((bu n).map tupI)):=by exact eS W rfl
 rw[R];exact rz
abbrev aD(n:Nat)(E:List (List Int)):D:=.tup [.int n,.tup (E.map tupI)]
theorem vI:HQ (aD n E):=by
 refine⟨rfl,?_⟩;intro ds e x Z;cases e;simp only[hO,hh,or_false]at Z;rcases Z with rfl|rfl
 ·exact⟨rfl,λY e=>by cases e⟩
 ·refine⟨rfl,λY e t X=>?_⟩;cases e;obtain⟨r,_,rfl⟩:=Kl.mp X;refine⟨rfl,λds e x Z=>?_⟩;cases e;obtain⟨i,_,rfl⟩:=Kl.mp Z;exact rfl
theorem rO{n:Nat}{E:List (List Int)}(w:WebOk n E):∀m Z,aD n E= .tup [m,.tup Z]->Z.length<=1000:=by intro m Z e;cases e;have:=w.few;rw[JN];omega
def great(a:Nat):D:=.exc "TooGreat" [.int a,.int 7]
theorem DN{n:Nat}{E:List (List Int)}(W:n<=14)(w:WebOk n E):de [aD n E]=if 7<E.length then M.raise (great E.length)else a_ .non:=by
 have hw:kY (aD n E)=true:=rN (by omega) (by omega) w;have h0:bN [aD n E]=a_ .non:=by rw[vH vI (rO w),if_pos hw]
 have Z:bI bR (aN bx (mV 0) (mK (.int 1))) [ar (aD n E)]=a_ (.int E.length):=by refine(dz (x:=.tup (E.map tupI)) rfl).trans ?_;show a_ (D.int (E.map tupI).length)=_;rw[JN]
 have Y:dj pU (bI bR (aN bx (mV 0) (mK (.int 1)))) (mK (.int 7)) [ar (aD n E)]=a_ (decide (7<(E.length:Int))):=bO Z rfl rfl;have hm:d6 [ar (aD n E)]=if 7<E.length then M.raise (great E.length)else a_ (.nx [ar (aD n E)]):=by
  unfold d6;rw[aQ (oi (iM ((bP rfl).trans h0))),cW Y];by_cases h:7<E.length
  ·rw[if_pos h,if_pos (JT (by omega))];have X:ae (bI bR (aN bx (mV 0) (mK (.int 1)))) (ae (mK (.int 7)) aw) [ar (aD n E)]=a_ [.int E.length,.int 7]:=by
    unfold ae;rw[Z];rfl
   unfold mW;rw[X];rfl
  ·rw[if_neg h,if_neg (by rw[KI];omega)]
 by_cases h:7<E.length
 ·rw[if_pos h]at hm⊢;exact jI hm
 ·rw[if_neg h]at hm⊢;exact iN hm rfl
section
variable {S S':aB}{k:Nat}
theorem rP(Z:Kp k S S'):nX S S':=λi xs Y e=>by
 by_cases h:i=k
 ·subst h;obtain⟨st,b,e2,_⟩:=Z.st;rw[e2]at e;cases e;exact .inr rfl
 ·exact .inl (by rw[<-Z.oth i Y h];exact e)
theorem wU(hs:eT S k)(Y:Kp k S S'):Kp k S (S'.take S.length)/\(S'.take S.length).length=S.length:=by
 have X:(S'.take S.length).length=S.length:=by rw[LG];have:=Y.len;omega
 have W:∀i,i<S.length->(S'.take S.length)[i]? =S'[i]? :=λi Z=>by rw[LW,if_pos Z]
 refine⟨⟨Lz X.symm,λi Z U=>(W i Z).trans (Y.oth i Z U),?_⟩,X⟩;obtain⟨st,b,e,r⟩:=Y.st;exact⟨st,b,(W k hs.lt).trans e,r⟩
theorem DO{c:M D}(hs:eT S k)(h:c S=ar (.ok d,S'))(Z:Kp k S S')(Y:fF 0 d=b'):∃S1,kf c S=ar (.ok d,S1)/\Kp k S S1/\S1.length=S.length:=
 ⟨_,rC h (rP Z) (.inr rfl) Z.len (AE d (DJ (Kk _) d Y)),wU hs Z⟩
theorem A7:fF 0 (aD n E)=true:=by unfold aD fF cA fF cA fF;rw[dZ];rfl
theorem wV(hs:eT S k)(X:0<many)(Y:many<1073741824):∃j S1,kf (bf [.lst k,.int many]) S=ar (.ok (.int j),S1)/\0<=j/\j<many/\Kp k S S1/\S1.length=S.length:=by obtain⟨d,S',e,j,rfl,a,b,Z⟩:=CY (Q:=λd S'=>∃j,d= .int j/\0<=j/\j<many/\Kp k S S') hs X Y λj S' a b _ Z=>⟨j,rfl,a,b,Z⟩;obtain⟨S1,e1,k1⟩:=DO hs e Z rfl;exact⟨j,S1,e1,a,b,k1⟩
end
theorem A8(h:n<=k)(Z:S[k]? =ar us)(Y:cA 0 us=b'):jF n (B0 S n (f+1)) (.lst k)=ar (.fz us):=by unfold jF;rw[if_neg (by omega)];show((S[k]?).bind λxs=>iU n (B0 S n f) xs).map D.fz=_;rw[Z,Option.bind_some,gC us (je (Kk _) us Y)];rfl
theorem Hn{S G:aB}(i:Nat):(S++G)[S.length+i]? =G[i]? :=by rw[Mw (Nat.le_add_right _ _),Nat.add_sub_cancel_left]
section
variable {ρ:aA}{js:List Nat}{ds:List D}{m:TM}{c:M D}{R:M D->List D->M D}{x:D}
end
section
variable {me e:TM}{g:lu}{ρ ρ':aA}{S S1 S2:aB}{d:D}{F:List D->M D}{x y:D}
end
section
variable {S S1 S2:aB}{k p q:Nat}{e1 e2:TM}{ρ:aA}{x y:D}{f:D->List D->M D}{xs:List D}
theorem wW(Y:e1 ρ=a_ x)(Z:F7 x=a_ ())(X:e2 ρ S=ar (.ok y,S1)):xZ f e1 e2 ρ S=f x [y] S1:=by unfold xZ;rw[Y,aj,Z,aj,aU (a:=[y]) (S1:=S1)];rw[aU X];rfl
theorem A9(Z:S[p]? =ar xs)(Y:xs.length<=1000):eB (.lst p) [d] S=ar (.ok .non,S.set p (xs++[d])):=by show(getL p>>=λxs=>lI p (xs++[d])) S=_;rw[aU (gJ Z)];exact mX (by rw[JW];show xs.length+1<=lim;unfold lim;omega) (JV.mp Z).1
theorem pop_at{j:Int}{d:D}(Z:S[p]? =ar xs)(U:xs.length<=1000)(X:0<=j)(Y:j<xs.length)(W:xs[j.toNat]? =ar d):lK (.lst p) [.int j] S=ar (.ok d,S.set p (xs.eraseIdx j.toNat)):=by show(getL p>>=λxs=>if 0<=j/\j<xs.length then (match xs[j.toNat]? with|some y=>(do let _<-lI p (xs.eraseIdx j.toNat);a_ y)|none=>M.fail)else M.fail) S=_;rw[aU (gJ Z),if_pos ⟨X,Y⟩,W];show(lI p (xs.eraseIdx j.toNat)>>=λ_=>a_ d) S=_;rw[aU (mX (by have:=List.length_eraseIdx_le xs j.toNat;unfold lim;omega) (JV.mp Z).1)];rfl
theorem FD{ns:List Int}(X:S[p]? =ar (ns.map D.int)):kH (.lst p) (.fz []) S=ar (.ok (.bl (!ns.isEmpty)),S):=by
 have Y:dO S 60 (.fz [])=ar (.list []):=rfl;obtain⟨d,Z,e,h⟩:=(eE (f:=λp q=> !er p q) (Q:=λd Z=>d= .bl (!ns.isEmpty)/\Z=S) (A5 (n:=59) X) Y).mpr ⟨by
  have:er (.list (ns.map j2)) (.list [])=ns.isEmpty:=by cases ns<;>simp[er,j']
  rw[this],rfl⟩
 obtain⟨rfl,rfl⟩:=h;exact e
end
theorem Kp.set(Z:Kp k S S')(U:S.length<=p)(W:k<S.length):Kp k S (S'.set p xs):=by
 refine⟨by rw[M4];exact Z.len,λi X Y=>?_,?_⟩
 ·rw[KJ (by omega)];exact Z.oth i X Y
 ·obtain⟨st,b,e,r⟩:=Z.st;exact⟨st,b,by rw[KJ (by omega)];exact e,r⟩
theorem vJ{l:List Int}(h:j<l.length):(l[j]::l.eraseIdx j).Perm l:=by
 induction l generalizing j with
 |nil=>cases h
 |cons x l ih=>
  cases j with
  |zero=>exact .refl _
  |succ j=>exact(List.Perm.swap _ _ _).trans ((ih (by simpa using h)).cons _)
theorem Ho{j:Int}(h: -(2 ^ 62)<=j/\j<=lim):cg [.int j]=bt (bg 0 j.toNat):=by unfold cg;exact if_pos h
theorem fV(r:List Int):cA 0 (r.map D.int)=true:=by
 induction r with
 |nil=>rfl
 |cons x r ih=>rw[Ke];unfold cA;rw[ih];unfold fF;rfl
def bZ(n:Nat):List Int:=(dV n).map λi:Nat=>(0:Int)+(i:Int)
inductive Dr(P:D->D->Prop):List D->List D->Prop
 |nil:Dr P [] []
 |skip {d:D} {ds ys:List D}:Dr P ds ys->Dr P (d::ds) ys
 |put {d y:D} {ds ys:List D}:P d y->Dr P ds ys->Dr P (d::ds) (y::ys)
theorem Ba{f:D->D->M D}{e1 e2:TM}(Z:e1 ρ S=ar (.ok x,S1))(Y:e2 ρ S1=ar (.ok y,S2))(h:f x y=a_ (.bl b)):dj f e1 e2 ρ S=ar (.ok b,S2):=by
 have:(e1 ρ>>=λx=>e2 ρ>>=λy=>f x y) S=ar (.ok (.bl b),S2):=by rw[aU Z,aU Y,h];rfl
 exact aU this
theorem FE{ys:List D}(Z:S[p]? =ar xs)(Y:xs.length+ys.length<=1000):kJ (.lst p) [.fz ys] S=ar (.ok .non,S.set p (xs++ys)):=by show(getL p>>=λxs=>lI p (xs++ys)) S=_;rw[aU (gJ Z)];exact mX (by rw[JW];unfold lim;omega) (JV.mp Z).1
theorem FF{l:List (List Int)}(h:l.Nodup):(dP l).Pairwise λa b=>HT.lexLt a b=true:=by
 have Z:=fL l;have Y:(dP l).Nodup:=(List.Perm.nodup_iff (bL _)).mpr h;generalize dP l=s at Z Y
 induction s with
 |nil=>exact .nil
 |cons x r ih=>
  obtain⟨a1,a2⟩:=Kx.mp Z;obtain⟨W,U⟩:=Kz.mp Y;refine Kx.mpr ⟨λy X=>?_,ih a2 U⟩;cases q:HT.lexLt x y with
  |true=>rfl
  |false=>exact absurd (qY q (a1 y X) ▸ X) W
theorem qk(Z:∀r∈nss,r.length=2)(Y:nss.length<64):kL (nss.map tupI)=bt ((dP nss).map tupI):=by
 cases nss with
 |nil=>rfl
 |cons r nss=>
  have W:two (r::nss)=true:=Kt.mpr λx X=>by rw[Z x X];rfl
  show(match rowsOf ((r::nss).map tupI)with|some nss=>tm nss|none=>M.fail)=_;rw[vG];exact if_pos ⟨Y,W⟩
theorem Bb{c:M D}{Z:aB}(h:c S=ar (.ok (.lst Z.length),Z++[us]))(Y:Kp k S Z)(l:Z.length=S.length)(X:cA 0 us=b'):kf c S=ar (.ok (.fz us),Z):=by have:=rC (u:=.fz us) h (rP (Y.trans (Kp.grow Y.st [us]))) (.inl (by rw[JW,l];exact LH _)) (by rw[JW,l];exact LL _) (A8 (f:=59) (by omega) dW X);rw[this, <-l,List.take_left]
theorem yB{Z:List (List Int)}(hs:eT S k)(X:S[p]? =ar (Z.map tupI))(Y:∀r∈Z,r.length=2)(W:Z.length<64):kf (bH [.lst p]) S=ar (.ok (.fz ((dP Z).map tupI)),S):=by refine Bb ?_ (Kp.refl hs) rfl (dZ _);show(getL p>>=λxs=>kL xs) S=_;rw[aU (gJ X),qk Y W];exact fU (by rw[JN,(bL Z).length_eq];unfold lim;omega)
theorem C4{zs:List Int}{a:Int}(Y:0<=a)(h:a<zs.length):bx (tupI zs) (.int a)=a_ (.int (zs.getD a.toNat 0)):=by
 show(match ke (zs.map D.int) a with|some d=>(a_ d:M D)|none=>M.fail)=_;have:ke (zs.map D.int) a=ar (.int (zs.getD a.toNat 0)):=by
  unfold ke yT;rw[JN];have X:¬ (a<0):=by omega
  have Z:a.toNat<zs.length:=by omega
  simp[Y,h,Z]
 rw[this]
theorem WebOk.sort{T:List (List Int)}(h:T.Nodup)(Z:∀t∈T,∃a b:Int,t=[a,b]/\0<=a/\a<b/\b<m)(Y:T.length<=21):WebOk m (dP T):=
 ⟨λt X=>Z t ((bL T).mem_iff.mp X),FF h,by rw[(bL T).length_eq];exact Y⟩
section
variable {n:Nat}{zs:List Int}{E:List (List Int)}
theorem rQ(Z:zs.Perm (bZ n))(X:i<n):0<=zs.getD i 0/\zs.getD i 0<n:=by
 have W:zs.length=n:=by rw[Z.length_eq];unfold bZ;simp
 have:zs.getD i 0∈bZ n:=by rw[<-Z.mem_iff,JS,JP (by omega)];exact Lr _
 unfold bZ at this;obtain⟨j,Y,e⟩:=Kl.mp this;have:=J2.mp Y;omega
theorem C5(Z:zs.Perm (bZ n)):zs.Nodup:=by rw[Z.nodup_iff];unfold bZ;exact List.Pairwise.map _ (λa b h e=>h (by have e2:(0:Int)+(a:Int)=0+(b:Int):=e;omega)) (M1 (n:=n))
theorem ot(Z:zs.Perm (bZ n))(X:i<n)(W:j<n)(h:zs.getD i 0=zs.getD j 0):i=j:=by
 have Y:zs.length=n:=by rw[Z.length_eq];unfold bZ;simp
 rw[JS,JS,JP (by omega),JP (by omega)]at h;exact(List.getElem_inj (C5 Z)).mp h
end
theorem FH{Z:aA->M (List D)}(h:Z ρ S=ar (.ok [d1,d2],S1)):vh i j Z ρ S=ar (.ok (.nx ((ρ.set i (ar d1)).set j (ar d2))),S1):=by unfold vh;rw[aU h];rfl
theorem wX{e1 e2:TM}(hs:eT S k)(Z:e1 ρ=a_ (.lst k))(Y:e2 ρ=a_ (.int m))(X:0<m)(W:m<1000):∃j S1,aR (aq bf (ae e1 (ae e2 aw))) ρ S=ar (.ok (.int j),S1)/\0<=j/\j<m/\Kp k S S1/\S1.length=S.length:=by obtain⟨j,S1,e,r⟩:=wV (many:=m) hs X (by omega);refine⟨j,S1,?_,r⟩;unfold aR;rw[call2 Z Y];exact e
def cL(p:Int)(t:List Int):Bool:=t.any (· ==p)
theorem wY(p:Int):∀t:List Int,((t.map j2).any λy=>er y (.int p))=cL p t
 |[]=>rfl
 |x::r=>by
  rw[Ke,Nh,wY p r];unfold cL;rw[Nh];congr 1
theorem DP:inD (.int p) (tupI t)=a_ (.bl (cL p t)):=bM λS=>by unfold inD;exact(mU iL (jK t) (r:=cL p t) (by show ar (id ((t.map j2).any λy=>er y (.int p)))=_;rw[wY];rfl)).mpr ⟨rfl,rfl⟩
theorem Bc{E:List (List Int)}(h:a<E.length):bx (.tup (E.map tupI)) (.int a)=a_ (tupI (E.getD a [])):=by
 show(match ke (E.map tupI) a with|some d=>(a_ d:M D)|none=>M.fail)=_;have:ke (E.map tupI) (a:Int)=ar (tupI (E.getD a [])):=by
  unfold ke yT;rw[JN];have Z:¬ ((a:Int)<0):=by omega
  have Y:(a:Int)<E.length:=by omega
  simp[Z,Y,h]
 rw[this]
theorem getD_in{E:List (List Int)}(h:a<E.length):E.getD a []∈E:=by rw[JS,JP h];exact Lr h
theorem or_eq{p q:fE}(Y:p ρ=a_ b)(Z:q ρ=a_ c):uy p q ρ=a_ (b||c):=by
 show(p ρ>>=_)=_;rw[Y];cases b with
 |true=>rfl
 |false=>exact Z
theorem jt:∀s t:List Int,j' (s.map j2) (t.map j2)=decide (s=t)
 |[],[]=>by simp[j']
 |[],_::_=>by simp[j']
 |_::_,[]=>by simp[j']
 |x::s,y::t=>by
  rw[Ke,Ke];unfold j';rw[jt s t,LZ];simp[er]
theorem ou{α:Type} [DecidableEq α]:∀{l m:List α},l.Nodup->(∀x∈l,x∈m)->l.length<=m.length
 |[],_,_,_=>Kk _
 |x::l,m,h,hs=>by
  obtain⟨X,W⟩:=Kz.mp h;have Y:=hs x (.head _);have:=ou (l:=l) (m:=m.erase x) W λy Z=>(List.mem_erase_of_ne (λ(e:y=x)=>X (by rw[<-e];exact Z))).mpr (hs y (.tail _ Z));rw[List.length_erase_of_mem Y]at this;have:=List.length_pos_of_mem Y;rw[Ki];omega
theorem wZ{a m:Nat}:bg ((a:Int)+1) ((m:Int) - ((a:Int)+1)).toNat=(k7 (a+1) (m - (a+1))).map λb:Nat=>.int (b:Int):=by
 have e:((m:Int) - ((a:Int)+1)).toNat=m - (a+1):=by omega
 rw[e];unfold bg;rw[MO,Kf];refine K7 λi _=>?_;show D.int ((a:Int)+1+(i:Int))= .int ((a+1+i:Nat):Int);congr 1
theorem Je{n a:Nat}{x:Option D}(Z:n<=14)(Y:a<n):aR (bp (rj (aN iw (mV 2) (mK (.int 1))) (mV 0)) (gN 0) d4 d5 [aC,ar 2]) [ar (.int n),x,ar (.int a)]=a_ (.fz ((iO n a).map tupI)):=by
 have em:(((k7 (a+1) (n - (a+1))).map λb:Nat=>D.int (b:Int)).filter λ_=>b').map (λd=>D.tup [.int a,d])=(iO n a).map tupI:=by unfold iO;rw[bW,Kf,Kf];rfl
 have h:=jq (mi:=rj (aN iw (mV 2) (mK (.int 1))) (mV 0)) (g:=gN 0) (t:=d4) (m:=d5) (js:=[aC,ar 2]) (ρ:=[ar (.int n),x,ar (.int a)]) (its:=(k7 (a+1) (n - (a+1))).map λb:Nat=>D.int (b:Int)) (λρ=>∃y,ρ=[y,ar (.int a)]) (λ_=>b') (λd=>D.tup [.int a,d])
  (by rw[vB (x:=.int ((a:Int)+1)) (y:=.int n) rfl rfl,Fw (by omega),wZ]) (by rw[JN,MD];unfold lim;omega) ⟨aC,rfl⟩
  (λd hd ρ ⟨y,hρ⟩=>by subst hρ;refine⟨_,rfl,⟨_,rfl⟩,rfl,λ_=>?_⟩;show cy [.int a,d]=_;unfold cy;exact if_pos og) (by rw[em];exact dZ _)
 rw[em]at h;exact h
theorem qm{S:aB}{n:Nat}{its:List D}(Z:n<=14):∀(post:List Nat) (acc:List (List Int)) (x:Option D),(∀a∈post,a<n)->acc.length+post.length*14<=300->
  ∃Y,fH ⟨its,.none⟩ (gN 2) fv (post.map λi:Nat=>.int (0+(i:Int))) [ar (.int n),ar (.lst S.length),x] (S++[acc.map tupI])=ar (.ok (.nx [ar (.int n),ar (.lst S.length),Y]),S++[(acc++post.flatMap (iO n)).map tupI])
 |[],acc,x,_,_=>⟨x,by rw[Mz,mY,List.flatMap_nil,Ky];rfl⟩
 |a::post,acc,x,ha,hl=>by
  rw[Ki,LP]at hl;have U:=CV (a:=a) Z;obtain⟨Y,W⟩:=qm (S:=S) (its:=its) Z post (acc++iO n a) (ar (.int a)) (λb X=>ha b (.tail _ X)) (by rw[JW];omega);refine⟨Y,?_⟩;rw[MP, <-Lm, <-W,Ke,MB];refine vD rfl (AZ (x:=.non) ((wW (x:=.lst S.length) rfl rfl (Kv (Je Z (ha a (.head _))) _)).trans ((FE dW (by rw[JN,JN];omega)).trans ?_)));rw[<-M7,List.set_append_right _ _ (JQ _),Nat.sub_self];rfl
theorem Bd{n:Nat}(Z:n<=14):kf (bo [.int n])=a_ (.fz ((bu n).map tupI)):=by
 have T:=pairs_len Z;have Y:((bu n).map tupI).length<=lim:=by rw[JN];unfold lim;omega
 have:bo [.int n]=bt ((bu n).map tupI):=by
  funext S;obtain⟨U,e⟩:=qm (S:=S) (its:=bg 0 n) Z (dV n) [] aC (λa X=>J2.mp X) (by rw[J4];simp;omega);have W:oR (mV 0) [ar (.int n),ar (.lst S.length),aC]=a_ ⟨bg 0 n,.none⟩:=by have:=(oh (m:=mV 0) (ρ:=[ar (.int n),ar (.lst S.length),aC]) (x:=.int n) rfl).trans (AV (by omega));rw[Ko]at this;exact this
  rw[fU Y];exact gU (o:=.ret (.lst S.length)) ((br (dC (fU (S:=S) (us:=[]) (Kk _)))).trans ((br (vE W e)).trans (jr rfl))) rfl
 rw[this];exact cb (dZ _) Y
theorem FI{c:M D}{S Z:aB}{us:List D}{k q:Nat}(hs:eT S k)(h:c S=ar (.ok (.lst q),Z))(Y:Kp k S Z)(X:S.length<=q)(g:Z[q]? =ar us)(W:cA 0 us=b'):∃S1,kf c S=ar (.ok (.fz us),S1)/\Kp k S S1/\S1.length=S.length:=
 ⟨_,rC (u:=.fz us) h (rP Y) (.inl (MA X (JV.mp g).1)) Y.len (A8 (f:=59) X g W),wU hs Y⟩
theorem tS{S:aB}{k p q:Nat}{a1:Option D}(T:k<S.length)(L:S.length<=p)(N:S.length<=q)(X:p≠q):∀(f:Nat) (ls ms:List Int) (S':aB),ls.length<f->ls.length+ms.length<=14->S'[p]? =ar (ls.map D.int)->S'[q]? =ar (ms.map D.int)->Kp k S S'->
  ∃(zs:List Int) (W:aB),i6 (dj kH (mV 2) (aR (cX aw))) b8 f [ar (.lst k),a1,ar (.lst p),ar (.lst q)] S'=ar (.ok (.nx [ar (.lst k),a1,ar (.lst p),ar (.lst q)]),W)/\W[q]? =ar (zs.map D.int)/\zs.Perm (ms++ls)/\Kp k S W
 |0,ls,ms,S',h,_,_,_,_=>by omega
 | f +1,ls,ms,S',hf,hl,g1,g2,kp=>by
  have E:dj kH (mV 2) (aR (cX aw)) [ar (.lst k),a1,ar (.lst p),ar (.lst q)] S'=ar (.ok (!ls.isEmpty),S'):=by have I:aR (cX aw) [ar (.lst k),a1,ar (.lst p),ar (.lst q)]=a_ (.fz []):=cb (us:=[]) rfl (Kk _);show((mV 2 _>>=λx=>aR (cX aw) _>>=λy=>kH x y)>>=iT) S'=_;rw[I];show(kH (.lst p) (.fz [])>>=iT) S'=_;rw[aU (FD g1)];rfl
  rw[i6,aU E];cases ls with
  |nil=>exact⟨ms,S',by rfl,g2,by rw[Ky],kp⟩
  | cons l0 ls0=>
   generalize hL:l0::ls0=ls at*;have Q:(!ls.isEmpty)=true:=by rw[<-hL];rfl
   have O:0<ls.length:=by rw[<-hL];exact Nat.succ_pos _
   rw[if_pos Q];obtain⟨j,S1,B,J,v,Y,w⟩:=wV (S:=S') (k:=k) (many:=ls.length) kp.st (by omega) (by omega);have C:=(JV.mp g1).1;have K:=(JV.mp g2).1;have H:=(Y.oth p C (by omega)).trans g1;have G:=(Y.oth q K (by omega)).trans g2;have P:j.toNat<ls.length:=by omega
   have F:b8 [ar (.lst k),a1,ar (.lst p),ar (.lst q)] S'=ar (.ok (.nx [ar (.lst k),a1,ar (.lst p),ar (.lst q)]),(S1.set p ((ls.eraseIdx j.toNat).map D.int)).set q ((ms++[ls[j.toNat]]).map D.int)):=by
    unfold b8;have hlen:bI bR (mV 2) [ar (.lst k),a1,ar (.lst p),ar (.lst q)] S'=ar (.ok (.int ls.length),S'):=by refine(A0 (x:=.lst p) (S1:=S') rfl).trans ?_;show(getL p>>=λxs=>a_ (D.int xs.length)) S'=_;rw[aU (gJ g1),JN];rfl
    have R:aR (aq bf (ae (mV 0) (ae (bI bR (mV 2)) aw))) [ar (.lst k),a1,ar (.lst p),ar (.lst q)] S'=ar (.ok (.int j),S1):=by have z:aq bf (ae (mV 0) (ae (bI bR (mV 2)) aw)) [ar (.lst k),a1,ar (.lst p),ar (.lst q)] S'=bf [.lst k,.int ls.length] S':=aU (dY (x:=.lst k) rfl (dY hlen rfl));unfold aR;rw[<-B];unfold kf;rw[z]
    have Z:=(wW (f:=lK) (e1:=mV 2) (ρ:=[ar (.lst k),a1,ar (.lst p),ar (.lst q)]) (x:=.lst p) rfl rfl R).trans (pop_at (d:=.int ls[j.toNat]) H (by rw[JN];omega) J (by rw[JN];omega) (by rw[Km,JP P];rfl));rw[qi]at Z;have U:=(wW (f:=eB) (e1:=mV 3) (ρ:=[ar (.lst k),a1,ar (.lst p),ar (.lst q)]) (x:=.lst q) rfl rfl Z).trans (A9 (d:=.int ls[j.toNat]) (xs:=ms.map D.int) (by rw[KJ X];exact G) (by rw[JN];omega));refine AZ (x:=.non) (U.trans ?_);rw[M7];rfl
   rw[aU F];have he:=List.length_eraseIdx_of_lt P;obtain⟨zs,W,e2,g3,A,k2⟩:=tS (a1:=a1) T L N X f (ls.eraseIdx j.toNat) (ms++[ls[j.toNat]]) ((S1.set p ((ls.eraseIdx j.toNat).map D.int)).set q ((ms++[ls[j.toNat]]).map D.int)) (by omega) (by rw[JW];show _+(ms.length+1)<=14;omega)
    (by rw[KJ (k8 X),KN (by omega)]) (by rw[KN (by rw[M4];omega)]) (((kp.trans Y).set L T).set N T)
   refine⟨zs,W,e2,g3,A.trans ?_,k2⟩;rw[Lm];exact(vJ P).append_left ms
theorem tT{S:aB}{k n:Nat}{ρ:aA}{e1 e2:TM}(hs:eT S k)(L:n<=14)(T:e1 ρ=a_ (.lst k))(P:e2 ρ=a_ (.int n)):∃(zs:List Int) (S1:aB),aR (aq bC (ae e1 (ae (aR (bI cg e2)) aw))) ρ S=ar (.ok (.fz (zs.map D.int)),S1)/\zs.Perm (bZ n)/\Kp k S S1/\S1.length=S.length:=by
 have R:bg 0 n=(bZ n).map D.int:=by unfold bg bZ;rw[Kf];rfl
 have hlen:(bZ n).length=n:=by unfold bZ;simp
 have Z:((bZ n).map D.int).length<=lim:=by rw[JN,hlen];unfold lim;omega
 have O:aR (bI cg e2) ρ=a_ (.fz ((bZ n).map D.int)):=by unfold aR;rw[dz P,Ho (j:=n) ⟨by omega,by unfold lim;omega⟩,Ko,R];exact cb (fV _) Z
 obtain⟨zs,W,e,g3,U,k2⟩:=tS (S:=S) (k:=k) (p:=S.length) (q:=S.length+1) (a1:=ar (.fz ((bZ n).map D.int))) hs.lt (JQ _) (LL _) (by omega) 64 (bZ n) [] (S++[(bZ n).map D.int,[]]) (by omega) (by simp;omega) (Hn 0) (Hn 1) (Kp.grow hs _);have Q:bS 3 (cX aw) [ar (.lst k),ar (.fz ((bZ n).map D.int)),ar (.lst S.length),aC] (S++[(bZ n).map D.int])=ar (.ok (.nx [ar (.lst k),ar (.fz ((bZ n).map D.int)),ar (.lst S.length),ar (.lst (S.length+1))]),S++[(bZ n).map D.int,[]]):=by refine(dC (fU (S:=S++[(bZ n).map D.int]) (us:=[]) (Kk _))).trans ?_;rw[Lm,JW];rfl
 have N:bI pW (mV 1) [ar (.lst k),ar (.fz ((bZ n).map D.int)),aC,aC] S=ar (.ok (.lst S.length),S++[(bZ n).map D.int]):=(A0 (F:=pW) (x:=.fz ((bZ n).map D.int)) (S1:=S) rfl).trans (fU Z);have Y:dF [ar (.lst k),ar (.fz ((bZ n).map D.int)),aC,aC] S=ar (.ok (.ret (.lst (S.length+1))),W):=by unfold dF;exact(br (dC N)).trans ((br Q).trans ((br e).trans (jr rfl)))
 have hm:bC [.lst k,.fz ((bZ n).map D.int)] S=ar (.ok (.lst (S.length+1)),W):=gU Y rfl;obtain⟨S1,X,k1⟩:=FI hs hm k2 (LL _) g3 (fV _);refine⟨zs,S1,?_,by rw[oo]at U;exact U,k1⟩;unfold aR;rw[call2 T O];exact X
theorem Dr.sub:∀{L:List (List Int)} {ys:List D},Dr (λd y=>y=d) (L.map tupI) ys->∃rs:List (List Int),ys=rs.map tupI/\rs.Sublist L
 |[],_,.nil=>⟨[],rfl,.slnil⟩
 |t::L,_,.skip h=>by
  obtain⟨rs,e,Z⟩:=Dr.sub h;exact⟨rs,e,Z.cons _⟩
 |t::L,_,.put p h=>by
  obtain⟨rs,e,Z⟩:=Dr.sub h;subst p e;exact⟨t::rs,rfl,Z.cons₂ _⟩
theorem lW{mi:aA->M Iter}{t:fE}{m:TM}{js:List (Option Nat)}{ρ:aA}{L:List (List Int)}{S:aB}{k:Nat}(r:List (Option D))(O:mi ρ=a_ ⟨L.map tupI,.none⟩)(K:L.length<=1000)(P:gP js ρ=aC::r)(hs:eT S k)(N:∀d,m (ar d::r)=a_ d)
  (Q:∀(u:List Int) Y,Kp k S Y->Y.length=S.length->∃b S1,t (ar (tupI u)::r) Y=ar (.ok b,S1)/\Kp k Y S1/\S1.length=Y.length):
  ∃(rs:List (List Int)) (Z:aB),bp mi (gN 0) t m js ρ S=ar (.ok (.lst Z.length),Z++[rs.map tupI])/\rs.Sublist L/\Kp k S Z/\Z.length=S.length:=by
 have key:∀(items:List D) (o:Option D) (Y:aB),(∀d∈items,∃u,d=tupI u)->Kp k S Y->Y.length=S.length->∃ys Z,cN ⟨L.map tupI,.none⟩ (gN 0) t m items (o::r) Y=ar (.ok ys,Z)/\Dr (λd y=>y=d) items ys/\Kp k S Z/\Z.length=S.length:=λitems=>by
  induction items with
  |nil=>exact λo Y _ W l=>⟨[],Y,by unfold cN;rw[cn];rfl,.nil,W,l⟩
  | cons d ds ih=>
   intro o Y hd W l;obtain⟨u,rfl⟩:=hd d (.head _);obtain⟨b,S1,e1,k1,R⟩:=Q u Y W l;obtain⟨ys,Z,e2,X,k2,U⟩:=ih (ar (tupI u)) S1 (λd h=>hd d (.tail _ h)) (W.trans k1) (R.trans l);cases b with
   |false=>
    refine⟨ys,Z,?_,.skip X,k2,U⟩;unfold cN;rw[cn,aj,show gN 0 (tupI u) (o::r)=a_ (ar (tupI u)::r)from rfl,aj,aU e1,if_neg (by decide)];exact e2
   |true=>
    refine⟨tupI u::ys,Z,?_,.put rfl X,k2,U⟩;unfold cN;rw[cn,aj,show gN 0 (tupI u) (o::r)=a_ (ar (tupI u)::r)from rfl,aj,aU e1,if_pos rfl,N,aj,aU e2];rfl
 obtain⟨ys,Z,e,X,k2,U⟩:=key (L.map tupI) aC S (λd hd=>by obtain⟨u,_,rfl⟩:=Kl.mp hd;exact⟨u,rfl⟩) (.refl hs) rfl;obtain⟨rs,rfl,T⟩:=X.sub;refine⟨rs,Z,?_,T,k2,U⟩;have:=T.length_le;unfold bp;rw[O,aj];unfold eX;rw[if_pos (show(L.map tupI).length<=lim by rw[JN];unfold lim;omega),P,aU e];exact fU (by rw[JN];unfold lim;omega)
theorem Be{ds:List D}{i:Int}(Y:0<=i)(Z:i<ds.length):∃d∈ds,bx (.fz ds) (.int i)=a_ d:=by obtain⟨d,e,hd⟩:=Hl Y Z;refine⟨d,hd,?_⟩;show(match ke ds i with|some d=>(a_ d:M D)|none=>M.fail)=_;rw[e]
theorem gX{zs:List Int}{a:Int}(Z:0<=a)(h:a<zs.length):bx (.fz (zs.map D.int)) (.int a)=a_ (.int (zs.getD a.toNat 0)):=C4 Z h
theorem Bg{e1 e2:TM}{ρ:aA}{x y:Int}(Y:e1 ρ=a_ (.int x))(X:e2 ρ=a_ (.int y)):bI cz (aR (bI bH (aR (cX (ae e1 (ae e2 aw)))))) ρ=a_ (tupI (sortI [x,y])):=by
 have W:(sortI [x,y]).length=2:=(sortI_perm [x,y]).length_eq;have Z:((sortI [x,y]).map D.int).length<=lim:=by rw[JN,W];exact og
 have a1:aR (cX (ae e1 (ae e2 aw))) ρ=a_ (.fz [.int x,.int y]):=by show kf (ae _ _ _>>=bt)=_;rw[bw Y (bw X (es:=aw) rfl),aj];exact cb (us:=[.int x,.int y]) rfl og
 refine(dz (x:=.fz ((sortI [x,y]).map D.int)) ?_).trans (lU Z);show kf (bI bH _ _)=_;rw[dz a1];exact cb (fV _) Z
theorem FJ{s:List Int}{rs:List (List Int)}:∃b,inD (tupI s) (.fz (rs.map tupI))=a_ (.bl b):=by
 refine⟨(rs.map iW).any λy=>er y (iW s),bM λS=>?_⟩;unfold inD;have Z:dO S 60 (.fz (rs.map tupI))=ar (.list (rs.map iW)):=by show(mapP (dO S 59) (rs.map tupI)).map n3=_;rw[jL];rfl
 exact(mU (jK s) Z (r:=(rs.map iW).any λy=>er y (iW s)) rfl).mpr ⟨rfl,rfl⟩
theorem lX{ρ:aA}{e:TM}{n:Nat}(Z:n<=14)(h:e ρ=a_ (.int n)):cw (aR (aq bo (ae e aw))) ρ=a_ ⟨(bu n).map tupI,.none⟩:=by
 have:aR (aq bo (ae e aw)) ρ=a_ (.fz ((bu n).map tupI)):=by unfold aR;rw[bP h];exact Bd Z
 unfold cw;rw[this];rfl
section
variable {S:aB}{k n g:Nat}{j:Int}{zs:List Int}{its:List D}
abbrev m8:TM:=aR (cX (bb (mK (.int 0)) (bb (mK (.int 0)) (bb (mK (.int 1)) (bb (mK (.int 0)) (bb (mK (.int 2)) (bb (mK (.int 1)) (bb (mK (.int 3)) (bb (mV 1) aw)))))))))
theorem FK{r:List (Option D)}(hs:eT S k):∃(n:Nat) (S1:aB),aq maxD (ae (mK (.int 0)) (ae (aN eA (mV 1) (aN bx m8 (aR (aq bf (ae (mV 0) (ae (mK (.int 8)) aw)))))) aw)) (ar (.lst k)::ar (.int g)::r) S=ar (.ok (.int n),S1)/\n<=g/\Kp k S S1/\S1.length=S.length:=by
 obtain⟨i,S1,R,Z,W,k1,U⟩:=wX (e1:=mV 0) (e2:=mK (.int 8)) (ρ:=ar (.lst k)::ar (.int g)::r) (m:=8) hs rfl rfl (by decide) (by decide);have Q:m8 (ar (.lst k)::ar (.int g)::r)=a_ (.fz [.int 0,.int 0,.int 1,.int 0,.int 2,.int 1,.int 3,.int g]):=cb (us:=[.int 0,.int 0,.int 1,.int 0,.int 2,.int 1,.int 3,.int g]) rfl (by show 8<=lim;unfold lim;omega);obtain⟨d,hd,T⟩:=Be (ds:=[.int 0,.int 0,.int 1,.int 0,.int 2,.int 1,.int 3,.int g]) Z W;have Y:∃u:Int,d= .int u/\0<=u:=by simp only[hO,hh,or_false]at hd;rcases hd with rfl|rfl|rfl|rfl|rfl|rfl|rfl|rfl<;>exact⟨_,rfl,by omega⟩
 obtain⟨u,rfl,P⟩:=Y;have X:aN eA (mV 1) (aN bx m8 (aR (aq bf (ae (mV 0) (ae (mK (.int 8)) aw))))) (ar (.lst k)::ar (.int g)::r) S=ar (.ok (.int ((g:Int) - u)),S1):=
  (mF (f:=eA) (x:=.int g) (S1:=S) rfl ((mF (Kv Q S) R).trans (Kv T S1))).trans rfl
 refine⟨((g:Int) - u).toNat,S1,?_,by omega,k1,U⟩;refine(aU (dY (x:=.int 0) (S1:=S) rfl (dY X rfl))).trans ?_;show ar (Res.ok (D.int (if (g:Int) - u>0 then (g:Int) - u else 0)),S1)=_;have:(if (g:Int) - u>0 then (g:Int) - u else 0)=(((g:Int) - u).toNat:Int):=by split<;>omega
 rw[this]
abbrev eW(k g n:Nat)(j:Int)(r:List (Option D)):aA:=ar (.lst k)::ar (.int g)::ar (.int n)::ar (.int j)::r
theorem C6{r:List (Option D)}(hs:eT S k)(N:n<=7)(Q:0<=j):∃(rs:List (List Int)) (S2:aB),bp (cw (aR (aq bo (ae (mV 2) aw)))) (gN 0) gS gT [aC,ar 0,ar 3] (eW k g n j r) S=ar (.ok (.lst S2.length),S2++[rs.map tupI])/\rs.Sublist (bu n)/\Kp k S S2/\S2.length=S.length:=
 lW [ar (.lst k),ar (.int j)] (lX (by omega) rfl) (by have:=pairs_len (n:=n) (by omega);omega) rfl hs (λd=>rfl) λu R Y l=>by
  obtain⟨i,S1,X,P,O,k1,W⟩:=wX (e1:=mV 1) (e2:=mK (.int 8)) (ρ:=[ar (tupI u),ar (.lst k),ar (.int j)]) (m:=8) Y.st rfl rfl (by decide) (by decide);have T:aR (cX (ae (mK (.int 2)) (ae (mK (.int 4)) (ae (mK (.int 6)) aw)))) [ar (tupI u),ar (.lst k),ar (.int j)]=a_ (.fz [.int 2,.int 4,.int 6]):=cb (us:=[.int 2,.int 4,.int 6]) rfl (by show 3<=lim;unfold lim;omega);have hm:aN mH (mV 2) (mK (.int 3)) [ar (tupI u),ar (.lst k),ar (.int j)]=a_ (.int (j % 3)):=(bz (x:=.int j) (y:=.int 3) rfl rfl).trans (show mH (.int j) (.int 3)=_ from if_pos (e:=M.fail) (show(0:Int)<3 by decide));obtain⟨d,hd,U⟩:=Be (ds:=[.int 2,.int 4,.int 6]) (i:=j % 3) (by omega) (by show j % 3<3;omega);have Z:∃v:Int,d= .int v:=by simp only[hO,hh,or_false]at hd;rcases hd with rfl|rfl|rfl<;>exact⟨_,rfl⟩
  obtain⟨v,rfl⟩:=Z;exact⟨decide (i<v),S1,Ba (y:=.int v) X (Kv ((bz T hm).trans U) S1) rfl,k1,W⟩
theorem FL{a:Nat}{q:Nat}{x7:Option D}(R:2<j)(T:j<7)(Q:1<=a)(Y:a<n)(P:zs.length=n):∃r:List Int,bI cz (aR (bI bH (aR (cX (ae (aN bx (mV 5) (mV 6)) (ae (aN bx (mV 5) (aN bx (aR (cX (bb (aN eA (mV 6) (mK (.int 1))) (bb (aN eA (mV 6) (mK (.int 1))) (bb (mK (.int 0)) (bb (aN iQ (mV 6) (mK (.int 2))) aw)))))) (aN eA (mV 3) (mK (.int 3))))) aw)))))) (eW k g n j [ar (.lst q),ar (.fz (zs.map D.int)),ar (.int a),x7])=a_ (tupI r):=by
 have U:aR (cX (bb (aN eA (mV 6) (mK (.int 1))) (bb (aN eA (mV 6) (mK (.int 1))) (bb (mK (.int 0)) (bb (aN iQ (mV 6) (mK (.int 2))) aw))))) (eW k g n j [ar (.lst q),ar (.fz (zs.map D.int)),ar (.int a),x7])=a_ (.fz [.int ((a:Int) - 1),.int ((a:Int) - 1),.int 0,.int ((a:Int) / 2)]):=by
  have W:bb (aN eA (mV 6) (mK (.int 1))) (bb (aN eA (mV 6) (mK (.int 1))) (bb (mK (.int 0)) (bb (aN iQ (mV 6) (mK (.int 2))) aw))) (eW k g n j [ar (.lst q),ar (.fz (zs.map D.int)),ar (.int a),x7])=a_ [.int ((a:Int) - 1),.int ((a:Int) - 1),.int 0,.int ((a:Int) / 2)]:=
   bw (x:=.int ((a:Int) - 1)) rfl (bw (x:=.int ((a:Int) - 1)) rfl (bw (x:=.int 0) rfl (bw (x:=.int ((a:Int) / 2)) ((bz (x:=.int a) (y:=.int 2) rfl rfl).trans (show iQ (.int a) (.int 2)=_ from if_pos (e:=M.fail) (show uB a 2 from⟨by decide,by decide⟩))) (es:=aw) rfl)))
  show kf (bb _ _ _>>=bt)=_;rw[W,aj];exact cb (us:=[.int ((a:Int) - 1),.int ((a:Int) - 1),.int 0,.int ((a:Int) / 2)]) rfl (by show 4<=lim;unfold lim;omega)
 obtain⟨d,hd,X⟩:=Be (ds:=[.int ((a:Int) - 1),.int ((a:Int) - 1),.int 0,.int ((a:Int) / 2)]) (i:=j - 3) (by omega) (by show j - 3<4;omega);have Z:∃v:Int,d= .int v/\0<=v/\v<n:=by simp only[hO,hh,or_false]at hd;rcases hd with rfl|rfl|rfl|rfl<;>exact⟨_,rfl,by omega,by omega⟩
 obtain⟨v,rfl,v0,v1⟩:=Z;exact⟨_,Bg ((bz (x:=.fz (zs.map D.int)) (y:=.int a) rfl rfl).trans (gX (by omega) (by omega))) ((bz (x:=.fz (zs.map D.int)) rfl ((bz (y:=.int (j - 3)) U rfl).trans X)).trans (gX v0 (by omega)))⟩
theorem w5{q:Nat}{ρ:aA}{e:TM}{r:List Int}{acc:List (List Int)}(Y:mV 4 ρ=a_ (.lst S.length))(Z:e ρ=a_ (tupI r))(X:acc.length<=500):oU (xZ eB (mV 4) e) ρ (S++[acc.map tupI])=ar (.ok (.nx ρ),S++[(acc++[r]).map tupI]):=by refine AZ (x:=.non) ((wW Y rfl (Kv Z _)).trans ((A9 dW (by rw[JN];omega)).trans ?_));rw[M7,List.set_append_right _ _ (JQ _),Nat.sub_self];rfl
theorem DQ(W:2<j)(X:j<7)(U:zs.length=n):∀(post:List Nat) (acc:List (List Int)) (x6 x7:Option D),(∀a∈post,1<=a/\a<n)->acc.length+post.length<=100->
  ∃(Y:Option D) (Z:List (List Int)),fH ⟨its,.none⟩ (gN 6) eZ (post.map λb:Nat=>.int (b:Int)) (eW k g n j [ar (.lst S.length),ar (.fz (zs.map D.int)),x6,x7]) (S++[acc.map tupI])=ar (.ok (.nx (eW k g n j [ar (.lst S.length),ar (.fz (zs.map D.int)),Y,x7])),S++[Z.map tupI])/\Z.length<=acc.length+post.length
 |[],acc,x6,x7,_,_=>⟨x6,acc,by rw[Mz,mY];rfl,JQ _⟩
 |a::post,acc,x6,x7,ha,hl=>by
  rw[Ki]at hl⊢;obtain⟨Q,P⟩:=ha a (.head _);obtain⟨r,O⟩:=FL (k:=k) (g:=g) (q:=S.length) (x7:=x7) W X Q P U;obtain⟨Y,Z,N,T⟩:=DQ W X U post (acc++[r]) (ar (.int a)) x7 (λb R=>ha b (.tail _ R)) (by rw[JW];show acc.length+1+_<=100;omega);refine⟨Y,Z,?_,by rw[JW]at T;have:[r].length=1:=rfl;omega⟩;rw[<-N,Ke];exact vD rfl (w5 (q:=0) rfl O (by omega))
theorem Hq{r:List (Option D)}(hs:eT S k)(P:n<=7):∃(rs:List (List Int)) (Z:aB),aR (bp (cw (aR (aq bo (ae (mV 2) aw)))) (gN 0) dR dU [aC,ar 0]) (eW k g n j r) S=ar (.ok (.fz (rs.map tupI)),Z)/\Kp k S Z/\Z.length=S.length:=by
 obtain⟨rs,Z,e,_,k2,Y⟩:=lW (t:=dR) (m:=dU) (js:=[aC,ar 0]) (ρ:=eW k g n j r) [ar (.lst k)] (lX (e:=mV 2) (by omega) rfl) (by have:=pairs_len (n:=n) (by omega);omega) rfl hs (λd=>rfl) λu T X l=>by obtain⟨i,S1,W,R,Q,k1,U⟩:=wX (e1:=mV 1) (e2:=mK (.int 12)) (ρ:=[ar (tupI u),ar (.lst k)]) (m:=12) X.st rfl rfl (by decide) (by decide);exact⟨_,S1,Ba (y:=.int 0) W rfl A2,k1,U⟩
 exact⟨rs,Z,Bb e k2 Y (dZ _),k2,Y⟩
theorem C7{q:Nat}{os acc:List (List Int)}{x5 x6:Option D}(hs:eT S k)(L:n<=7)(U:S[q]? =ar (acc.map tupI))(Y:q≠k):∃(rs:List (List Int)) (S2:aB),bp (cw (aR (aq bo (ae (mV 2) aw)))) (gN 0) e9 fb [aC,ar 4,ar 7] (eW k g n j [ar (.lst q),x5,x6,ar (.fz (os.map tupI))]) S=ar (.ok (.lst S2.length),S2++[rs.map tupI])/\rs.Sublist (bu n)/\Kp k S S2/\S2.length=S.length:=
 lW [ar (.lst q),ar (.fz (os.map tupI))] (lX (by omega) rfl) (by have:=pairs_len (n:=n) (by omega);omega) rfl hs (λd=>rfl) λu Z W l=>by have X:=(W.oth q (JV.mp U).1 Y).trans U;obtain⟨_,_,e1,b,rfl,rfl⟩:=CZ (r:=u) (Q:=λd T=>∃b,d= .bl b/\Z=T) X λb=>⟨b,rfl,rfl⟩;obtain⟨c,e2⟩:=FJ (s:=u) (rs:=os);obtain⟨_,_,O,N,rfl,rfl⟩:=Hk (S:=Z) (a:=b) (b:=c) (Q:=λd T=>∃b,d= .bl b/\Z=T) λb=>⟨b,rfl,rfl⟩;refine⟨N,Z,?_,.refl W.st,rfl⟩;have R:aN inD (mV 0) (mV 1) [ar (tupI u),ar (.lst q),ar (.fz (os.map tupI))] Z=ar (.ok (.bl b),Z):=(Kv (bz (x:=tupI u) (y:=.lst q) rfl rfl) Z).trans e1;have P:aN inD (mV 0) (mV 2) [ar (tupI u),ar (.lst q),ar (.fz (os.map tupI))] Z=ar (.ok (.bl c),Z):=Kv ((bz (x:=tupI u) (y:=.fz (os.map tupI)) rfl rfl).trans e2) Z;exact aU ((mF R P).trans O)
theorem DR{m:TM}{ρ:aA}(Z:n<=100)(h:m ρ=a_ (.int n)):rj (mK (.int 1)) m ρ=a_ ⟨(k7 1 (n - 1)).map λb:Nat=>.int (b:Int),.none⟩:=by have:=wZ (a:=0) (m:=n);rw[vB (x:=.int 1) rfl h,Fw (by omega)];rw[show((0:Nat):Int)+1=1 from rfl]at this;rw[this]
theorem Hr{ρ:aA}{q:Nat}{rs:List (List Int)}(hs:eT S k)(Y:n<=7)(X:mV 2 ρ=a_ (.int n))(U:mV 4 ρ=a_ (.lst q))(g:S[q]? =ar (rs.map tupI))(T:rs.Sublist (bu n)):
  bB (i9 (ae (mV 2) (ae (bI cz (aR (bI bH (mV 4)))) aw))) ρ S=ar (.ok (.ret (aD n rs)),S):=by
 have w:WebOk n rs:=WebOk.of_sub Y T;have hf:=w.few;have Z:aR (bI bH (mV 4)) ρ S=ar (.ok (.fz (rs.map tupI)),S):=by unfold aR;rw[dz U];have:=yB hs g (λr W=>by obtain⟨a,b,e,_⟩:=w.el r W;rw[e];rfl) (by omega);rw[yz w.ris]at this;exact this
 refine jr (Fx (Kv X S) ((A0 Z).trans ?_));rw[lU (by rw[JN];unfold lim;omega)];rfl
theorem FM{q:Nat}{acc:List (List Int)}{x6 x7:Option D}(T:n<=7)(R:zs.length=n)(U:acc.length<=100):∃acc2:List (List Int),gx (iD (dj fJ (mV 3) (mK (.int 4))) (dj pU (mV 2) (mK (.int 2)))) (oU (xZ eB (mV 4) (bI cz (aR (bI bH (aR (cX (ae (aN bx (mV 5) (mK (.int 0))) (ae (aN bx (mV 5) (aN eA (mV 2) (mK (.int 1)))) aw))))))))) cV (eW k g n j [ar (.lst S.length),ar (.fz (zs.map D.int)),x6,x7]) (S++[acc.map tupI])=ar (.ok (.nx (eW k g n j [ar (.lst S.length),ar (.fz (zs.map D.int)),x6,x7])),S++[acc2.map tupI]):=by
 have Y:dj fJ (mV 3) (mK (.int 4)) (eW k g n j [ar (.lst S.length),ar (.fz (zs.map D.int)),x6,x7])=a_ (decide (j=4)):=bO (x:=.int j) (y:=.int 4) rfl rfl A2;have X:dj pU (mV 2) (mK (.int 2)) (eW k g n j [ar (.lst S.length),ar (.fz (zs.map D.int)),x6,x7])=a_ (decide (2<(n:Int))):=bO (x:=.int n) (y:=.int 2) rfl rfl rfl;have Z:iD (dj fJ (mV 3) (mK (.int 4))) (dj pU (mV 2) (mK (.int 2))) (eW k g n j [ar (.lst S.length),ar (.fz (zs.map D.int)),x6,x7])=a_ (decide (j=4) && decide (2<(n:Int))):=by
  show(dj fJ _ _ _>>=_)=_;rw[Y,aj];cases decide (j=4)with
  |false=>rfl
  |true=>exact X
 by_cases h:(decide (j=4) && decide (2<(n:Int)))=b'
 ·have W:2<n:=by
   have:=Kd ((KU _ _).mp h).2;omega
  refine⟨_,(Kv ((cW Z).trans (if_pos h)) _).trans (w5 (q:=0) rfl (Bg (x:=zs.getD 0 0) (y:=zs.getD (n - 1) 0) ?_ ?_) (by omega))⟩
  ·exact(bz (x:=.fz (zs.map D.int)) (y:=.int 0) rfl rfl).trans (gX (by decide) (by omega))
  ·refine(bz (x:=.fz (zs.map D.int)) (y:=.int ((n:Int) - 1)) rfl rfl).trans ((gX (by omega) (by omega)).trans ?_);rw[show((n:Int) - 1).toNat=n - 1 by omega]
 ·exact⟨acc,(Kv ((cW Z).trans (if_neg h)) _).trans rfl⟩
theorem FN(hg:g<=7)(hs:eT S k):∃(n:Nat) (E:List (List Int)) (S1:aB),kf (gp [.lst k,.int g]) S=ar (.ok (aD n E),S1)/\n<=g/\WebOk n E/\Kp k S S1/\S1.length=S.length:=by
 obtain⟨n,T1,e1,hn,k1,l1⟩:=FK (g:=g) (r:=[aC,aC,aC,aC,aC,aC]) hs;have Y:n<=7:=by omega
 obtain⟨j,T2,e2,v,i,k2,l2⟩:=wX (e1:=mV 0) (e2:=mK (.int 7)) (ρ:=[ar (.lst k),ar (.int g),ar (.int n),aC,aC,aC,aC,aC]) (m:=7) k1.st rfl rfl (by decide) (by decide);obtain⟨rs,R,e3,sb,k3,l3⟩:=C6 (g:=g) (n:=n) (j:=j) (r:=[aC,aC,aC,aC]) k2.st Y v;have I:=Kp.grow k3.st [rs.map tupI];obtain⟨zs,X,s,pz,k5,l5⟩:=tT (n:=n) (ρ:=eW k g n j [ar (.lst R.length),aC,aC,aC]) (e1:=mV 0) (e2:=mV 2) I.st (by omega) rfl rfl;have A:zs.length=n:=by rw[pz.length_eq];unfold bZ;simp
 have z:k<R.length:=by have:=hs.lt;omega
 have u:X[R.length]? =ar (rs.map tupI):=(k5.oth R.length (by simp) (by omega)).trans dW;have B:=((k1.trans k2).trans k3).trans (I.trans k5);have key:∃(N:Nat) (Z:List (List Int)) (ρ:aA) (T:aB),gx (dj pU (mV 3) (mK (.int 2))) (aE (bS 4 (cX aw)) (aE (j8 (rj (mK (.int 1)) (mV 2)) (gN 6) eZ) (aE (gx (iD (dj fJ (mV 3) (mK (.int 4))) (dj pU (mV 2) (mK (.int 2)))) (oU (xZ eB (mV 4) (bI cz (aR (bI bH (aR (cX (ae (aN bx (mV 5) (mK (.int 0))) (ae (aN bx (mV 5) (aN eA (mV 2) (mK (.int 1)))) aw))))))))) cV) (aE (bS 7 (aR (bp (cw (aR (aq bo (ae (mV 2) aw)))) (gN 0) dR dU [aC,ar 0]))) (bS 4 (bp (cw (aR (aq bo (ae (mV 2) aw)))) (gN 0) e9 fb [aC,ar 4,ar 7])))))) cV (eW k g n j [ar (.lst R.length),ar (.fz (zs.map D.int)),aC,aC]) X=ar (.ok (.nx ρ),T)/\mV 2 ρ=a_ (.int n)/\mV 4 ρ=a_ (.lst N)/\T[N]? =ar (Z.map tupI)/\Z.Sublist (bu n)/\Kp k S T:=by
  have F:dj pU (mV 3) (mK (.int 2)) (eW k g n j [ar (.lst R.length),ar (.fz (zs.map D.int)),aC,aC])=a_ (decide (2<j)):=bO (x:=.int j) (y:=.int 2) rfl rfl rfl;by_cases hj:2<j
  ·have hi:=DR (n:=n) (m:=mV 2) (ρ:=eW k g n j [ar (.lst X.length),ar (.fz (zs.map D.int)),aC,aC]) (by omega) rfl;obtain⟨P,acc,K,H⟩:=DQ (S:=X) (k:=k) (g:=g) (its:=(k7 1 (n - 1)).map λb:Nat=>.int (b:Int)) hj i A (k7 1 (n - 1)) [] aC aC (λa f=>by have:=Ln.mp f;omega) (by rw[MD];simp;omega);rw[MD]at H;obtain⟨U,O⟩:=FM (S:=X) (k:=k) (g:=g) (j:=j) (zs:=zs) (q:=0) (x6:=P) (x7:=aC) Y A (acc:=acc) (by simp at H;omega);have Q:=Kp.grow k5.st [U.map tupI];obtain⟨os,h,l,J,l7⟩:=Hq (g:=g) (n:=n) (j:=j) (r:=[ar (.lst X.length),ar (.fz (zs.map D.int)),P,aC]) Q.st Y;have a5:k<X.length:=by have:=k5.len;simp at this;omega
   have L:h[X.length]? =ar (U.map tupI):=(J.oth X.length (by simp) (by omega)).trans dW;obtain⟨Z,w,e,W,C,l8⟩:=C7 (g:=g) (n:=n) (j:=j) (os:=os) (x5:=ar (.fz (zs.map D.int))) (x6:=P) J.st Y L (by omega);refine⟨w.length,Z,_,_,(Kv ((cW F).trans (if_pos (JT hj))) X).trans ((br (dC (fU (S:=X) (us:=[]) (Kk _)))).trans ((br (vE hi K)).trans ((br O).trans ((br (dC l)).trans (dC e))))),rfl,rfl,dW,W,B.trans ((Q.trans J).trans (C.trans (Kp.grow C.st _)))⟩
  ·exact⟨R.length,rs,_,_,(Kv ((cW F).trans (if_neg (by rw[KI];exact hj))) X).trans rfl,rfl,rfl,u,sb,B⟩
 obtain⟨N,Z,ρ,T,K,t,p,L,W,G⟩:=key;have hm:iG [ar (.lst k),ar (.int g),aC,aC,aC,aC,aC,aC] S=ar (.ok (.ret (aD n Z)),T):=by unfold iG;exact(br (dC e1)).trans ((br (dC e2)).trans ((br (dC e3)).trans ((br (dC s)).trans ((br K).trans (Hr G.st Y t p L W)))))
 obtain⟨S1,O,Q⟩:=DO (c:=gp [.lst k,.int g]) (d:=aD n Z) hs (gU (o:=.ret (aD n Z)) hm rfl) G A7;exact⟨n,Z,S1,O,hn,WebOk.of_sub Y W,Q⟩
def rR(zs:List Int)(t:List Int):List Int:=sortI [zs.getD (t.getD 0 0).toNat 0,zs.getD (t.getD 1 0).toNat 0]
def Jt(zs:List Int):D->D
 | .tup [.int a,.int b]=>tupI (rR zs [a,b])
 |d=>d
theorem Bh{x y:Int}(h:x≠y):∃a b,sortI [x,y]=[a,b]/\a<b/\(a=x/\b=y\/a=y/\b=x):=by
 by_cases c:x<=y
 ·refine⟨x,y,?_,by omega,.inl ⟨rfl,rfl⟩⟩;show insI x [y]=_;unfold insI;exact if_pos c
 ·refine⟨y,x,?_,by omega,.inr ⟨rfl,rfl⟩⟩;show insI x [y]=_;unfold insI;exact if_neg c
structure TiesOk(n:Nat)(E:List (List Int)):Prop where
 el:∀t∈E,∃a b:Int,t=[a,b]/\0<=a/\a<b/\b<n
 nd:E.Nodup
 few:E.length<=21
theorem Bi{E:List (List Int)}(T:zs.Perm (bZ n))(w:TiesOk n E):WebOk n (dP (E.map (rR zs))):=by
 have Q:∀t∈E,∃x y a b:Int,rR zs t=[a,b]/\a<b/\t=[x,y]/\0<=x/\x<y/\y<n/\(a=zs.getD x.toNat 0/\b=zs.getD y.toNat 0\/a=zs.getD y.toNat 0/\b=zs.getD x.toNat 0):=λt Z=>by
  obtain⟨x,y,rfl,x0,P,W⟩:=w.el t Z;obtain⟨a,b,e,G,C⟩:=Bh (x:=zs.getD x.toNat 0) (y:=zs.getD y.toNat 0) λz=>by have:=ot T (i:=x.toNat) (j:=y.toNat) (by omega) (by omega) z;omega
  exact⟨x,y,a,b,e,G,rfl,x0,P,W,C⟩
 have H:=w.nd;refine WebOk.sort (MQ.mpr (LQ (λ{s t} hs Z hne e=>hne ?_) H)) (λt Z=>?_) (by rw[JN];exact w.few)
 ·obtain⟨s,hs,rfl⟩:=Kl.mp Z;obtain⟨x,y,a,b,e1,R,rfl,x0,P,W,c1⟩:=Q s hs;have o:=rQ T (i:=x.toNat) (by omega);have m:=rQ T (i:=y.toNat) (by omega);exact⟨a,b,e1,by omega,R,by omega⟩
 ·obtain⟨x,y,a,b,e1,_,rfl,x0,P,W,c1⟩:=Q s hs;obtain⟨u,v,c,d,e2,_,rfl,N,r,L,F⟩:=Q t Z;rw[e1,e2]at e;have A:=(J3 e).1;have B:=(J3 (J3 e).2).1;have inj:=λ(p q:Int) (p0:0<=p) (pn:p<n) (q0:0<=q) (qn:q<n) z=>ot T (i:=p.toNat) (j:=q.toNat) (by omega) (by omega) z;have J:=inj x u x0 (by omega) N (by omega);have I:=inj y v (by omega) W (by omega) L;have O:=inj x v x0 (by omega) (by omega) L;have K:=inj y u (by omega) W N (by omega);generalize zs.getD x.toNat 0=X at*;generalize zs.getD y.toNat 0=Y at*;generalize zs.getD u.toNat 0=U at*;generalize zs.getD v.toNat 0=V at*;have:x=u/\y=v:=by
   rcases c1 with⟨c11,c12⟩|⟨c11,c12⟩<;>rcases F with⟨c21,c22⟩|⟨c21,c22⟩
   ·have:=J (by omega);have:=I (by omega);omega
   ·have:=O (by omega);have:=K (by omega);omega
   ·have:=O (by omega);have:=K (by omega);omega
   ·have:=J (by omega);have:=I (by omega);omega
  rw[this.1,this.2]
theorem C8{E:List (List Int)}(W:zs.Perm (bZ n))(w:TiesOk n E):dE [aD n E,.fz (zs.map D.int)]=a_ (aD n (dP (E.map (rR zs)))):=by
 have R:zs.length=n:=by rw[W.length_eq];unfold bZ;simp
 have wS:=Bi W w;have hf:=w.few;have em:((E.map tupI).filter λ_=>b').map (Jt zs)=(E.map (rR zs)).map tupI:=by rw[bW,Kf,Kf];refine K7 λt Z=>?_;obtain⟨x,y,rfl,_⟩:=w.el t Z;rfl
 have X:=jq (mi:=cw (aN bx (mV 0) (mK (.int 1)))) (g:=du 2 (bc (gN 0) (bc (gN 1) dN))) (t:=fw) (m:=fx) (js:=[aC,aC,ar 1]) (ρ:=[ar (aD n E),ar (.fz (zs.map D.int))]) (its:=E.map tupI) (λρ=>∃x y,ρ=[x,y,ar (.fz (zs.map D.int))]) (λ_=>b') (Jt zs) rfl (by rw[JN];unfold lim;omega) ⟨aC,aC,rfl⟩
  (λd hd ρ ⟨x,y,hρ⟩=>by subst hρ;obtain⟨t,Z,rfl⟩:=Kl.mp hd;obtain⟨a,b,rfl,U,ab,bn⟩:=w.el t Z;refine⟨[ar (.int a),ar (.int b),ar (.fz (zs.map D.int))],rfl,⟨_,_,rfl⟩,rfl,λ_=>?_⟩;exact Bg ((bz (x:=.fz (zs.map D.int)) (y:=.int a) rfl rfl).trans (gX U (by omega))) ((bz (x:=.fz (zs.map D.int)) (y:=.int b) rfl rfl).trans (gX (by omega) (by omega)))) (by rw[em];exact dZ _)
 rw[em]at X;have Y:((dP (E.map (rR zs))).map tupI).length<=lim:=by rw[JN];have:=wS.few;unfold lim;omega
 refine eS (o:=.ret (aD n (dP (E.map (rR zs))))) (c8 ?_) rfl;show(ae _ _ _>>=cy)=_;rw[bw (x:=.int n) rfl (bw (x:=.tup ((dP (E.map (rR zs))).map tupI)) ((dz (x:=.fz ((dP (E.map (rR zs))).map tupI)) ?_).trans (lU Y)) (es:=aw) rfl),aj]
 ·unfold cy;exact if_pos og
 ·show kf (bI bH _ [ar (aD n E),ar (.fz (zs.map D.int))])=_;rw[dz X];show kf (kL ((E.map (rR zs)).map tupI))=_;rw[qk (λr T=>by
   have:=(bL (E.map (rR zs))).mem_iff.mpr T;obtain⟨a,b,e,_⟩:=wS.el r this;rw[e];rfl) (by rw[JN];omega)]
  exact cb (dZ _) Y
end
def pc{α:Type}(r:α->α->Bool):List α->Nat
 |[]=>0
 |x::xs=>xs.countP (r x)+pc r xs
theorem tU(c:Nat):c+c*(c - 1) / 2=(c+1)*c / 2:=by
 have:(c+1)*c=c*(c - 1)+2*c:=by
  cases c with
  |zero=>rfl
  |succ c=>simp only[u3];rw[NJ (c+1+1),NJ 2, <-Nat.mul_add]
 rw[this,Nat.add_mul_div_left _ _ (by decide)];omega
theorem tV(p:Int):∀E:List (List Int),pc (λs t=>cL p s && cL p t) E=E.countP (cL p)*(E.countP (cL p) - 1) / 2
 |[]=>by simp[pc]
 | x::xs=>by
  unfold pc;rw[tV p xs,KP];by_cases h:cL p x=b'
  ·simp only[h,E_,if_true,u3];have:xs.countP (λt=>cL p t)=xs.countP (cL p):=rfl;rw[this,tU]
  ·have h':cL p x=false:=by simpa using h
   simp[h',List.countP_false]
def sm(m:Nat)(f:Nat->Nat):Nat:=((dV m).map f).sum
theorem mZ(f:Nat->Nat):sm 0 f=0:=rfl
theorem cQ(m:Nat)(f:Nat->Nat):sm (m+1) f=sm m f+f m:=by unfold sm;rw[List.range_succ];simp
theorem rS(m:Nat)(f:Nat->Nat):sm (m+1) f=f 0+sm m (λi=>f (i+1)):=by unfold sm;rw[Lu];simp[Function.comp_def]
theorem ef(f g:Nat->Nat):∀m,sm m (λi=>f i+g i)=sm m f+sm m g
 |0=>rfl
 |m+1=>by rw[cQ,cQ,cQ,ef f g m];omega
theorem cI{f g:Nat->Nat}:∀{m:Nat},(∀i,i<m->f i=g i)->sm m f=sm m g
 |0,_=>rfl
 |m+1,h=>by rw[cQ,cQ,cI λi Z=>h i (LA Z),h m (LH m)]
theorem jM:∀m,sm m (λ_=>0)=0
 |0=>rfl
 |m+1=>by rw[cQ,jM m]
theorem lY(i x:Nat):∀m,sm m (λj=>if j=i then x else 0)=if i<m then x else 0
 |0=>by simp[mZ]
 | m+1=>by
  rw[cQ,lY i x m];by_cases h:i<m
  ·rw[if_pos h,if_neg (by omega),if_pos (by omega)];omega
  ·by_cases h2:m=i
   ·subst h2;simp
   ·rw[if_neg h,if_neg h2,if_neg (by omega)]
theorem oy{α:Type}(q:α->Bool)(d:α):∀E:List α,E.countP q=sm E.length (λi=>if q (E.getD i d)then 1 else 0)
 |[]=>rfl
 |x::xs=>by
  rw[KP,Ki,rS,oy q d xs];simp only[q_,List.getD_cons_succ];omega
theorem qo(n:Nat)(r:List Int->Bool)(g:Nat->List Int->Bool):∀xs:List (List Int),(∀t∈xs,(if r t then 1 else 0)=sm n (λp=>if g p t then 1 else 0))->xs.countP r=sm n (λp=>xs.countP (g p))
 |[],_=>by simp[jM]
 |x::xs,h=>by
  rw[KP,qo n r g xs λt Z=>h t (JZ _ Z),h x J9, <-ef];exact cI λp _=>by rw[KP]
theorem Bj(n:Nat)(r:List Int->List Int->Bool)(g:Nat->List Int->List Int->Bool):∀E:List (List Int),E.Pairwise (λs t=>(if r s t then 1 else 0)=sm n (λp=>if g p s t then 1 else 0))->pc r E=sm n (λp=>pc (g p) E)
 |[],_=>by simp[pc,jM]
 |x::xs,h=>by
  obtain⟨Z,Y⟩:=Kx.mp h;unfold pc;rw[Bj n r g xs Y,qo n (r x) (λp=>g p x) xs Z, <-ef]
def bQ(s t:List Int):Bool:=decide ((distinct (s++t)).length<4)
theorem eH{a b c d:Int}(X:a<b)(W:c<d):bQ [a,b] [c,d]=decide (a=c\/a=d\/b=c\/b=d):=by
 unfold bQ distinct firstMet;have e:(dV ([a,b]++[c,d]).length).map (λi=>([a,b]++[c,d]).getD i 0)=[a,b,c,d]:=rfl;rw[e];have Z:¬ a=b:=by omega
 have Y:¬ c=d:=by omega
 refine Ls.mpr ?_;show(k' (k' (k' (k' [] a) b) c) d).length<4↔_;have s1:k' [] a=[a]:=rfl;have s2:k' [a] b=[a,b]:=by simp[k',Z]
 have s3:k' [a,b] c=if a=c\/b=c then [a,b]else [a,b,c]:=by unfold k';simp
 rw[s1,s2,s3];by_cases h:a=c\/b=c
 ·rw[if_pos h];have:(k' [a,b] d).length<4:=by unfold k';split<;>simp
  exact⟨λ_=>by omega,λ_=>this⟩
 ·rw[if_neg h];have s4:k' [a,b,c] d=if a=d\/b=d then [a,b,c]else [a,b,c,d]:=by unfold k';simp[Y]
  rw[s4];by_cases h3:a=d\/b=d
  ·rw[if_pos h3];exact⟨λ_=>by omega,λ_=>by simp⟩
  ·rw[if_neg h3];exact⟨λz=>by simp at z,λz=>by omega⟩
structure Tied(n:Nat)(E:List (List Int)):Prop where
 el:∀t∈E,∃a b:Int,t=[a,b]/\0<=a/\a<b/\b<n
 nd:E.Nodup
theorem m3{n:Nat}{a:Int}(Z:0<=a)(Y:a<n)(x:Nat):sm n (λp=>if (p:Int)=a then x else 0)=x:=by
 obtain⟨k,rfl⟩:=K2 Z;have:∀p:Nat,((p:Int)=(k:Int))↔p=k:=λp=>by omega
 simp only[this];rw[lY,if_pos (by omega)]
theorem ju{p a b:Int}:cL p [a,b]=decide (p=a\/p=b):=by
 unfold cL;rw[LZ];simp;constructor
 ·rintro(h|h)
  ·exact .inl h.symm
  ·exact .inr h.symm
 ·rintro(h|h)
  ·exact .inl h.symm
  ·exact .inr h.symm
theorem yC{n:Nat}{a b c d:Int}(T:0<=a)(X:a<b)(U:b<n)(R:0<=c)(W:c<d)(Q:d<n)(S:¬ (a=c/\b=d)):
  (if bQ [a,b] [c,d]then 1 else 0)=sm n (λp=>if cL p [a,b] && cL p [c,d]then 1 else 0):=by
 have e:∀p:Nat,(if cL p [a,b] && cL p [c,d]then 1 else 0)=(if (p:Int)=a then (if a=c\/a=d then 1 else 0)else 0)+(if (p:Int)=b then (if b=c\/b=d then 1 else 0)else 0):=λp=>by
  rw[ju,ju];by_cases h1:(p:Int)=a
  ·have Z:¬ (p:Int)=b:=by omega
   rw[if_pos h1,if_neg Z];simp only[h1,true_or,decide_true,E_,decide_eq_true_eq,Nat.add_zero]
  ·rw[if_neg h1];by_cases Z:(p:Int)=b
   ·rw[if_pos Z];simp only[Z,or_true,decide_true,E_,decide_eq_true_eq,z6]
   ·rw[if_neg Z];simp[h1,Z]
 rw[cI λp _=>e p,ef,m3 T (by omega),m3 (by omega) U,eH X W];by_cases p1:a=c\/a=d
 ·have Y:¬ (b=c\/b=d):=by omega
  rw[if_pos p1,if_neg Y,if_pos (by simp;omega)]
 ·rw[if_neg p1];by_cases Y:b=c\/b=d
  ·rw[if_pos Y,if_pos (by simp;omega)]
  ·rw[if_neg Y,if_neg (by simp;omega)]
def aM(E:List (List Int))(p:Nat):Nat:=E.countP (cL p)
def kg(c:Nat):Nat:=c*(c - 1) / 2
theorem jv{n:Nat}{E:List (List Int)}(w:Tied n E):pc bQ E=sm n (λp=>kg (aM E p)):=by
 rw[Bj n bQ (λp s t=>cL p s && cL p t) E ?_]
 ·exact cI λp _=>tV p E
 ·refine LQ (R:=λs t=>s≠t) ?_ w.nd;intro s t hs U Z;obtain⟨a,b,rfl,Y,W,X⟩:=w.el s hs;obtain⟨c,d,rfl,g1,g2,g3⟩:=w.el t U;exact yC Y W X g1 g2 g3 λz=>Z (by rw[z.1,z.2])
def kZ(E:List (List Int))(a:Nat):List (List Int):=((k7 (a+1) (E.length - (a+1))).filter λb=>bQ (E.getD a []) (E.getD b [])).map λb:Nat=>[(a:Int),(b:Int)]
def ay(E:List (List Int)):List (List Int):=(dV E.length).flatMap (kZ E)
theorem drop_eq(E:List (List Int))(k:Nat):E.drop k=(k7 k (E.length - k)).map λb=>E.getD b []:=by
 refine ML λi=>?_;rw[MC,Km];by_cases h:i<E.length - k
 ·rw[List.getElem?_range' h];have:k+i<E.length:=by omega
  simp[Nw,this,List.getElem?_eq_getElem this]
 ·rw[KQ (by omega),KQ (by simp;omega)];rfl
theorem tW(E:List (List Int))(a:Nat):(kZ E a).length=(E.drop (a+1)).countP (bQ (E.getD a [])):=by unfold kZ;rw[JN,drop_eq,M8,Lx];rfl
theorem w6:∀E:List (List Int),sm E.length (λa=>(E.drop (a+1)).countP (bQ (E.getD a [])))=pc bQ E
 |[]=>rfl
 |x::xs=>by
  rw[Ki,rS];simp only[q_,List.getD_cons_succ,y_,M_];rw[w6 xs];rfl
theorem oz(E:List (List Int)):(ay E).length=pc bQ E:=by rw[<-w6 E];unfold ay sm;rw[List.length_flatMap];congr 1;exact K7 λa _=>tW E a
theorem rT{E:List (List Int)}{a:Nat}{t:List Int}(h:t∈kZ E a):∃b:Nat,t=[(a:Int),(b:Int)]/\a<b/\b<E.length/\bQ (E.getD a []) (E.getD b [])=true:=by unfold kZ at h;obtain⟨b,Z,rfl⟩:=Kl.mp h;obtain⟨Y,X⟩:=Ks.mp Z;rw[Ln]at Y;exact⟨b,rfl,by omega,by omega,X⟩
theorem FO(E:List (List Int))(a:Nat):(kZ E a).Nodup:=by unfold kZ;refine List.Pairwise.map (S:=λb c:List Int=>b≠c) _ (R:=λb c:Nat=>b≠c) (λb c h z=>?_) ((List.nodup_range' (step:=1)).sublist List.filter_sublist);have:=(J3 (J3 z).2).1;omega
theorem yD(E:List (List Int)):Tied E.length (ay E):=by
 refine⟨λt W=>?_,?_⟩
 ·obtain⟨a,U,h⟩:=M0.mp W;obtain⟨b,rfl,Y,X,_⟩:=rT h;exact⟨a,b,rfl,by omega,by omega,by omega⟩
 ·unfold ay;unfold List.Nodup;rw[List.pairwise_flatMap];refine⟨λa _=>FO E a,?_⟩;refine List.Pairwise.imp ?_ M1;intro a b Z t Y u X z;obtain⟨c,rfl,_⟩:=rT Y;obtain⟨d,rfl,_⟩:=rT X;have:=(J3 z).1;exact Z (by omega)
theorem yE{E:List (List Int)}{a i:Nat}(W:i<E.length):(kZ E a).countP (cL i)=if a=i then (E.drop (i+1)).countP (bQ (E.getD i []))else if a<i then (if bQ (E.getD a []) (E.getD i [])then 1 else 0)else 0:=by
 by_cases h:a=i
 ·subst h;rw[if_pos rfl, <-tW E a,List.countP_eq_length];intro t X;obtain⟨b,rfl,_⟩:=rT X;rw[ju];simp
 ·rw [if_neg h];unfold kZ;rw[M8];have e:∀b:Nat,(cL (i:Int)∘λb:Nat=>[(a:Int),(b:Int)]) b=decide (b=i):=λb=>by
   show cL (i:Int) [(a:Int),(b:Int)]=_;rw[ju];refine Ls.mpr ⟨λz=>?_,λz=>?_⟩
   ·rcases z with z|z
    ·exact absurd z.symm (by omega)
    ·omega
   ·right;omega
  rw[MR (q:=λb=>decide (b=i)) λb _=>by rw[e b],List.countP_filter];by_cases h2:a<i
  ·rw [if_pos h2];have hm:i∈k7 (a+1) (E.length - (a+1)):=by rw[Ln];omega
   by_cases h3:bQ (E.getD a []) (E.getD i [])=b'
   ·rw[if_pos h3];have:(k7 (a+1) (E.length - (a+1))).countP (λb=>decide (b=i) && bQ (E.getD a []) (E.getD b []))=(k7 (a+1) (E.length - (a+1))).count i:=by
     unfold List.count;refine MR λb _=>?_;constructor
     ·intro z;simp at z;simp[z.1]
     ·intro z;have Y:b=i:=by simpa using z
      rw[Y,h3];simp
    rw[this,List.Nodup.count (List.nodup_range' (step:=1)),if_pos hm]
   ·rw[if_neg h3,Mr];intro b _ z;simp at z;exact h3 (by rw[<-z.1];exact z.2)
  ·rw[if_neg h2,Mr];intro b Z z;rw[Ln]at Z;simp at z;omega
theorem Bk(f:Nat->Nat){m i:Nat}(h:i<m):sm m f=sm m (λj=>if j<i then f j else 0)+f i+sm m (λj=>if i<j then f j else 0):=by
 have e:∀j,f j=((if j<i then f j else 0)+(if j=i then f i else 0))+(if i<j then f j else 0):=λj=>by
  by_cases h1:j<i
  ·simp[h1,Nat.ne_of_lt h1,Nat.lt_asymm h1]
  ·by_cases h2:j=i
   ·subst h2;simp
   ·have Z:i<j:=by omega
    simp[h1,h2,Z]
 have z:=cI (m:=m) λj _=>e j;rw[ef,ef,lY,if_pos h]at z;exact z
theorem vK(q:List Int->Bool)(E:List (List Int))(k:Nat):(E.drop k).countP q=sm E.length (λj=>if k<=j then (if q (E.getD j [])then 1 else 0)else 0):=by
 induction E generalizing k with
 |nil=>simp[mZ]
 | cons x xs ih=>
  rw[Ki,rS];cases k with
  |zero=>
   rw[Nb,KP, <-Nb (l:=xs),ih 0];simp;omega
  |succ k=>
   rw[y_,ih k];simp
theorem Bl{n:Nat}{E:List (List Int)}(w:Tied n E){i:Nat}(Y:i<E.length){u v:Nat}(T:E.getD i []=[(u:Int),(v:Int)]):aM (ay E) i+2=aM E u+aM E v:=by
 have X:∀j,j<E.length->∃c d:Int,E.getD j []=[c,d]/\0<=c/\c<d/\d<n/\(j≠i->¬ (c=u/\d=v)):=λj W=>by
  have hm:E.getD j []∈E:=by rw[JS,JP W];exact Lr W
  obtain⟨c,d,e,R,U,P⟩:=w.el _ hm;refine⟨c,d,e,R,U,P,λO z=>O ?_⟩;have e1:E[j]=E[i]:=by
   have a1:E.getD j []=E[j]:=by simp[Nw,W]
   have a2:E.getD i []=E[i]:=by simp[Nw,Y]
   rw[<-a1, <-a2,e,T,z.1,z.2]
  have K:=ME.mp w.nd;rcases Nat.lt_trichotomy j i with q|q|q
  ·exact absurd e1 (K j i W Y q)
  ·exact q
  ·exact absurd e1.symm (K i j Y W q)
 obtain⟨c,d,e,_,G,_,_⟩:=X i Y;rw[T]at e;have Z:(u:Int)<v:=by have a1:=(J3 e).1;have a2:=(J3 (J3 e).2).1;omega
 have key:sm E.length (λj=>if bQ (E.getD i []) (E.getD j [])then 1 else 0)+1=aM E u+aM E v:=by
  unfold aM;rw[oy (cL (u:Int)) [] E,oy (cL (v:Int)) [] E, <-ef];have e2:∀j,j<E.length->(if cL (u:Int) (E.getD j [])then 1 else 0)+(if cL (v:Int) (E.getD j [])then 1 else 0)=(if bQ (E.getD i []) (E.getD j [])then 1 else 0)+(if j=i then 1 else 0):=λj W=>by
   obtain⟨c,d,L,R,U,P,J⟩:=X j W;by_cases hj2:j=i
   ·subst hj2;rw[T,ju,ju,eH Z Z];simp
   ·rw[L,T,ju,ju,eH Z U,if_neg hj2];have:=J hj2;by_cases p1:(u:Int)=c\/(u:Int)=d
    ·have S:¬ ((v:Int)=c\/(v:Int)=d):=by omega
     rw[if_pos (by simpa using p1),if_neg (by simpa using S),if_pos (by simp;omega)]
    ·by_cases S:(v:Int)=c\/(v:Int)=d
     ·rw[if_neg (by simpa using p1),if_pos (by simpa using S),if_pos (by simp;omega)]
     ·rw[if_neg (by simpa using p1),if_neg (by simpa using S),if_neg (by simp;omega)]
  rw[cI e2,ef,lY,if_pos Y]
 have Q:aM (ay E) i=sm E.length (λa=>if a<i then (if bQ (E.getD a []) (E.getD i [])then 1 else 0)else 0)+(E.drop (i+1)).countP (bQ (E.getD i [])):=by
  unfold aM ay;rw[List.countP_flatMap];have:((dV E.length).map (List.countP (cL (i:Int))∘kZ E)).sum=sm E.length (λa=>(kZ E a).countP (cL i)):=rfl;rw[this,cI λa _=>yE Y];have F:∀a,(if a=i then (E.drop (i+1)).countP (bQ (E.getD i []))else if a<i then (if bQ (E.getD a []) (E.getD i [])then 1 else 0)else 0)=
    (if a<i then (if bQ (E.getD a []) (E.getD i [])then 1 else 0)else 0)+(if a=i then (E.drop (i+1)).countP (bQ (E.getD i []))else 0):=λa=>by
   by_cases h:a=i
   ·subst h;simp
   ·simp[h]
  rw[cI λa _=>F a,ef,lY,if_pos Y]
 have sym:∀a,a<E.length->bQ (E.getD a []) (E.getD i [])=bQ (E.getD i []) (E.getD a []):=λa N=>by obtain⟨c,d,L,R,U,P,J⟩:=X a N;rw[L,T,eH U Z,eH Z U];refine Ls.mpr ?_;omega
 have self:bQ (E.getD i []) (E.getD i [])=true:=by rw[T,eH Z Z];simp
 rw[Bk _ Y,self]at key;rw[Q,vK];have H:sm E.length (λa=>if a<i then (if bQ (E.getD a []) (E.getD i [])then 1 else 0)else 0)=sm E.length (λj=>if j<i then (if bQ (E.getD i []) (E.getD j [])then 1 else 0)else 0):=cI λa N=>by rw[sym a N]
 rw[H];have I:sm E.length (λj=>if i+1<=j then (if bQ (E.getD i []) (E.getD j [])then 1 else 0)else 0)=sm E.length (λj=>if i<j then (if bQ (E.getD i []) (E.getD j [])then 1 else 0)else 0):=rfl;rw[I];simp only[if_true]at key;omega
def Ju(t:List Int):D->D
 | .int p=>.bl (cL p t)
 |d=>d
theorem FP{s t:List Int}(hs:s.length<=1000):gD [tupI s,tupI t]=a_ (.bl (s.any λp=>cL p t)):=by
 have Z:(s.map D.int).length<=lim:=by rw[JN];unfold lim;omega
 have em:((s.map D.int).filter λ_=>b').map (Ju t)=(s.map λp=>cL p t).map D.bl:=by rw[bW,Kf,Kf];rfl
 have h:=jq (mi:=cw (mV 0)) (g:=gN 0) (t:=gk) (m:=gm) (js:=[aC,ar 1]) (ρ:=[ar (tupI s),ar (tupI t)]) (its:=s.map D.int) (λρ=>∃x,ρ=[x,ar (tupI t)]) (λ_=>b') (Ju t) rfl Z ⟨aC,rfl⟩ (λd hd ρ ⟨x,hρ⟩=>by subst hρ;obtain⟨p,_,rfl⟩:=Kl.mp hd;exact⟨_,rfl,⟨_,rfl⟩,rfl,λ_=>(bz (x:=.int p) (y:=tupI t) rfl rfl).trans DP⟩) (by rw[em];exact rE _)
 rw[em]at h;refine eS (c8 ((dz h).trans AW)) ?_;show a_ _=a_ _;rw[M6];rfl
theorem Bm{a b c d:Int}(Z:a<b)(Y:c<d):([a,b].any λp=>cL p [c,d])=bQ [a,b] [c,d]:=by
 rw[eH Z Y,LZ];simp only[Nx,List.any_nil,ju,Bool.or_false,MK,decide_eq_true_eq];constructor
 ·rintro((h|h)|(h|h))<;>simp[h]
 ·rintro(h|h|h|h)<;>simp[h]
def Jf(E:List (List Int)):D->Bool
 | .tup [.int a,.int b]=>bQ (E.getD a.toNat []) (E.getD b.toNat [])
 |_=>dr
theorem lZ(E:List (List Int)):(((bu E.length).map tupI).filter (Jf E)).map id=(ay E).map tupI:=by rw[N1,M9];congr 1;unfold bu ay;rw[List.filter_flatMap];congr 1;funext a;unfold iO kZ;rw[M9];congr 1
theorem DS{n:Nat}{E:List (List Int)}(L:n<=14)(w:WebOk n E)(J:E.length<=7):eh [aD n E]=a_ (aD E.length (ay E)):=by
 have hf:de [aD n E]=a_ .non:=by rw[DN L w,if_neg (by omega)]
 have Y:((bu E.length).map tupI).length<=lim:=by rw[JN];exact JX (tR (by omega)) (by unfold lim;omega)
 have Q:=AY (mi:=cw (aR (aq dw (ae (mV 2) aw)))) (g:=du 2 (bc (gN 0) (bc (gN 1) dN))) (t:=fN) (m:=fO) (js:=[aC,aC,ar 1]) (ρ:=[ar (aD n E),ar (.tup (E.map tupI)),ar (.int E.length)])
  (its:=(bu E.length).map tupI) (λρ=>∃x y,ρ=[x,y,ar (.tup (E.map tupI))]) (Jf E) id
  (by
   have:aR (aq dw (ae (mV 2) aw)) [ar (aD n E),ar (.tup (E.map tupI)),ar (.int E.length)]=a_ (.fz ((bu E.length).map tupI)):=by unfold aR;rw[bP (x:=.int E.length) rfl];exact C3 (by omega)
   unfold cw;rw[this];rfl) Y ⟨aC,aC,rfl⟩
  (λd hd ρ ⟨x,y,hρ⟩=>by
   subst hρ;obtain⟨t,S,rfl⟩:=Kl.mp hd;obtain⟨a,b,rfl,h0,O,K⟩:=tP t S;obtain⟨a,rfl⟩:=K2 h0;obtain⟨b,rfl⟩:=K2 (show 0<=b by omega);have Z:a<E.length:=by omega
   have X:b<E.length:=by omega
   obtain⟨p,q,R,_,T,_⟩:=w.el (E.getD a []) (getD_in Z);obtain⟨r,u,P,_,W,_⟩:=w.el (E.getD b []) (getD_in X);refine⟨[ar (.int a),ar (.int b),ar (.tup (E.map tupI))],rfl,⟨_,_,rfl⟩,?_,λ_=>?_⟩
   ·refine kX (iM ((call2 ((bz (x:=.tup (E.map tupI)) (y:=.int a) rfl rfl).trans (Bc Z)) ((bz (x:=.tup (E.map tupI)) (y:=.int b) rfl rfl).trans (Bc X))).trans ?_));rw[FP (by rw[R];exact(by decide:2<=1000))];show a_ (D.bl _)=a_ (D.bl (bQ (E.getD (a:Int).toNat []) (E.getD (b:Int).toNat [])));rw[Ko,Ko,R,P,Bm T W]
   ·rfl) (by rw[lZ];exact dZ _)
 rw[lZ]at Q;have U:((ay E).map tupI).length<=lim:=by rw[<-lZ,N1];exact JX (KD _ _) Y
 refine iN (o:=.ret (aD E.length (ay E))) ?_ rfl;unfold jH;show aE _ _ [ar (aD n E),aC,aC]=_;rw[aQ (oi (iM ((bP rfl).trans hf))),aQ (ec (x:=.tup (E.map tupI)) rfl)];have hlen:bI bR (mV 1) [ar (aD n E),ar (.tup (E.map tupI)),aC]=a_ (.int E.length):=by refine(dz (x:=.tup (E.map tupI)) rfl).trans ?_;show a_ (D.int (E.map tupI).length)=_;rw[JN]
 show aE _ _ [ar (aD n E),ar (.tup (E.map tupI)),aC]=_;rw[aQ (ec hlen)];refine c8 ?_;have S:=(dz (f:=cz) Q).trans (lU U);have N:ae (mV 2) (ae (bI cz (aR (rq (bp (cw (aR (aq dw (ae (mV 2) aw)))) (du 2 (bc (gN 0) (bc (gN 1) dN))) fN fO [aC,aC,ar 1])))) aw) [ar (aD n E),ar (.tup (E.map tupI)),ar (.int E.length)]=a_ [.int E.length,.tup ((ay E).map tupI)]:=by show(a_ (D.int E.length)>>=λx=>(bI cz _ _>>=λy=>_)>>=_)=_;rw[aj,S];rfl
 show(ae _ _ [ar (aD n E),ar (.tup (E.map tupI)),ar (.int E.length)]>>=cy)=_;rw[N,aj];unfold cy;rw[if_pos (show[D.int E.length,.tup ((ay E).map tupI)].length<=lim from og)]
end W
namespace S3
open PySem PySem.Spec PyProof.Rows L2 PySem.SeqAt
section
variable {X:Cx}{E:XD}{o e:Expr}{es:List Expr}{m:TM}{ms:aA->M (List D)}{pos:Pos}
end
end S3
namespace W
open PySem PySem.Spec PyProof.Rows L2 S3 S4 S7
section
variable {α:Type}{l:List α}{mk f:α->D}{mi:aA->M Iter}{g:lu}{t:fE}{m:TM}{ρ:aA}{js:List (Option Nat)}{its:List D}
theorem Bo(R:aA->Prop)(q:α->Bool):∀(l:List α) (ρ:aA),R ρ->(∀a∈l,∀ ρ,R ρ->∃Z,g (mk a) ρ=a_ Z/\R Z/\t Z=a_ (q a)/\(q a=b'->m Z=a_ (f a)))->cN ⟨its,.none⟩ g t m (l.map mk) ρ=a_ ((l.filter q).map f)
 |[],ρ,_,_=>by unfold cN;rw[cn];rfl
 |a::l,ρ,hR,h=>by
  obtain⟨Z,W,U,X,T⟩:=h a (.head _) ρ hR;have S:=Bo R q l Z U λb Y=>h b (.tail _ Y);rw[Ke];unfold cN;rw[cn,aj,W,aj,X,aj,S];cases hq:q a with
  |true=>rw[LX hq,if_pos rfl,T hq,aj];rfl
  |false=>rw[LY (by rw[hq];decide),if_neg (by decide)]
theorem vL(R:aA->Prop)(q:α->Bool)(Y:mi ρ=a_ ⟨l.map mk,.none⟩)(W:l.length<=lim)(X:R (gP js ρ))(Z:∀a∈l,∀ ρ,R ρ->∃ ρ1,g (mk a) ρ=a_ ρ1/\R ρ1/\t ρ1=a_ (q a)/\(q a=b'->m ρ1=a_ (f a))):
  bp mi g t m js ρ=bt ((l.filter q).map f):=by
 unfold bp;rw[Y,aj];unfold eX;rw[if_pos (by show(l.map mk).length<=lim;rw[JN];exact W)];show(cN _ g t m (l.map mk) _>>=_)=_;rw[Bo R q l _ X Z,aj]
theorem tX(R:aA->Prop)(q:α->Bool)(X:mi ρ=a_ ⟨l.map mk,.none⟩)(Z:l.length<=lim)(W:R (gP js ρ))(Y:∀a∈l,∀ ρ,R ρ->∃ ρ1,g (mk a) ρ=a_ ρ1/\R ρ1/\t ρ1=a_ (q a)/\(q a=b'->m ρ1=a_ (f a)))
  (U:cA 0 ((l.filter q).map f)=b'):aR (bp mi g t m js) ρ=a_ (.fz ((l.filter q).map f)):=by
 unfold aR;rw[vL R q X Z W Y];exact cb U (by rw[JN];exact JX (KD _ _) Z)
theorem tY(R:aA->Prop)(q:α->Bool)(X:mi ρ=a_ ⟨l.map mk,.none⟩)(Z:l.length<=lim)(W:R (gP js ρ))(Y:∀a∈l,∀ ρ,R ρ->∃ ρ1,g (mk a) ρ=a_ ρ1/\R ρ1/\t ρ1=a_ (q a)/\(q a=b'->m ρ1=a_ (f a)))
  (U:cA 0 ((l.filter q).map f)=b'):aR (rq (bp mi g t m js)) ρ=a_ (.fz ((l.filter q).map f)):=by
 unfold aR rq;rw[vL R q X Z W Y,lS];exact cb U (by rw[JN];exact JX (KD _ _) Z)
theorem Hs(R:aA->Prop)(q:α->Bool)(W:mi ρ=a_ ⟨l.map mk,.none⟩)(Z:l.length<=lim)(U:R (gP js ρ))(Y:∀a∈l,∀ ρ,R ρ->∃ ρ1,g (mk a) ρ=a_ ρ1/\R ρ1/\t ρ1=a_ (q a)/\(q a=b'->m ρ1=a_ (f a)))
  (X:cA 0 ((l.filter q).map f)=b'):aR (rD mi g t m js) ρ=a_ (.fz ((l.filter q).map f)):=by
 have h:=vL (js:=js) R q (mi:=λ_=>a_ ⟨l.map mk,.none⟩) (ρ:=ρ) rfl Z U Y;unfold bp at h;rw[aj]at h;unfold aR rD;rw[W,aj,h,lS];exact cb X (by rw[JN];exact JX (KD _ _) Z)
end
theorem things{es:aA->M (List D)}{ρ:aA}{us:List D}(Z:es ρ=a_ us)(Y:cA 0 us=b')(X:us.length<=50):aR (cX es) ρ=a_ (.fz us):=by show kf (es ρ>>=bt)=_;rw[Z,aj];exact cb Y (by unfold lim;omega)
theorem l4{α:Type}(g:α->Int)(l:List α):cA 0 (l.map λa=>D.int (g a))=true:=by have:=fV (l.map g);rw[Kf]at this;exact this
section
variable {n:Nat}{E:List (List Int)}{d e:D}
theorem jN{us:List D}{ρ:aA}{e:TM}(h:e ρ=a_ (.tup us)):bI bR e ρ=a_ (.int us.length):=dz h
theorem vM{us:List D}{ρ:aA}{e:TM}(h:e ρ=a_ (.fz us)):bI bR e ρ=a_ (.int us.length):=dz h
theorem Ht(n:Nat):bg 0 n=(dV n).map λi:Nat=>D.int (i:Int):=by unfold bg;exact K7 λi _=>by rw[MB]
theorem FQ{m:TM}{ρ:aA}{n:Nat}(h:m ρ=a_ (.int n))(Z:n<=1000):oR m ρ=a_ ⟨(dV n).map λi:Nat=>D.int (i:Int),.none⟩:=by rw[oh h,AV ⟨by omega,by omega⟩,Ko,Ht]
theorem w8(Z:n<=14)(w:WebOk n E):bN [aD n E]=a_ .non:=by rw[vH vI (rO w),if_pos (rN (by omega) (by omega) w)]
theorem Bp(Y:n<=14)(w:WebOk n E):bD [aD n E]=a_ (.fz ((dV n).map λp:Nat=>D.int (aM E p))):=by
 have hf:=w.few;have Z:=tY (α:=Nat) (l:=dV n) (mk:=λi:Nat=>D.int (i:Int)) (f:=λp:Nat=>D.int (aM E p)) (mi:=oR (mV 1)) (g:=gN 0) (t:=iJ) (m:=iK) (js:=[aC,ar 2]) (ρ:=[ar (aD n E),ar (.int n),ar (.tup (E.map tupI))]) (λρ=>∃x,ρ=[x,ar (.tup (E.map tupI))]) (λ_=>b') (FQ rfl (by omega)) (by rw[J4];unfold lim;omega) ⟨aC,rfl⟩
  (λp hp ρ ⟨x,hρ⟩=>by
   subst hρ;refine⟨[ar (.int p),ar (.tup (E.map tupI))],rfl,⟨_,rfl⟩,rfl,λ_=>?_⟩;have h:=tX (α:=List Int) (l:=E) (mk:=tupI) (f:=tupI) (mi:=cw (mV 1)) (g:=gN 0) (t:=iH) (m:=iI) (js:=[aC,ar 0]) (ρ:=[ar (.int p),ar (.tup (E.map tupI))]) (λρ=>∃x,ρ=[x,ar (.int p)]) (cL p) rfl (by unfold lim;omega) ⟨aC,rfl⟩
    (λt ht ρ ⟨x,hρ⟩=>by subst hρ;exact⟨[ar (tupI t),ar (.int p)],rfl,⟨_,rfl⟩,bO (x:=.int p) (y:=tupI t) rfl rfl DP,λ_=>rfl⟩) (dZ _)
   refine(vM h).trans ?_;rw[JN];unfold aM;rw[Lx])
  (by rw[bW];exact l4 (λp:Nat=>(aM E p:Int)) _)
 rw[bW]at Z;exact iN (o:=.ret _) ((aQ (oi (iM ((bP rfl).trans (w8 Y w))))).trans ((aQ (ρ':=[ar (aD n E),ar (.int n),ar (.tup (E.map tupI))]) rfl).trans (c8 Z))) rfl
theorem iz:∀l:List Int,HT.lexLt l l=dr
 |[]=>rfl
 |x::l=>by rw[HT.lexLt_cons,if_pos rfl];exact iz l
theorem m5(w:WebOk n E):Tied n E:=⟨w.el,w.ris.imp λh e=>by rw[e,iz]at h;cases h⟩
theorem xa(c:Nat):((c:Int)*((c:Int) - 1)) / 2=((kg c:Nat):Int):=by
 unfold kg;cases c with
 |zero=>rfl
 |succ c=>
  rw[show((c+1:Nat):Int) - 1=(c:Int) by omega,u3]
  norm_cast
theorem FR(m:Nat)(f:Nat->Nat):((dV m).map λi=>((f i:Nat):Int)).sum=((sm m f:Nat):Int):=by
 unfold sm
 induction (dV m)with
 |nil=>rfl
 |cons x l ih=>rw[Ke,Ke,K3,K3,ih];omega
theorem mul_eq{x y:Int}(h:oW x y):kD (.int x) (.int y)=a_ (.int (x*y)):=if_pos h
theorem div_eq{x y:Int}(h:uB x y):iQ (.int x) (.int y)=a_ (.int (x / y)):=if_pos h
theorem xb(X:n<=14)(w:WebOk n E):cc [aD n E]=a_ (.int (ay E).length):=by
 have hf:=w.few;have hd:=iM (e:=aq bD (ae (mV 0) aw)) (ρ:=[ar (aD n E)]) ((bP rfl).trans (Bp X w));have W:cw (aR (aq bD (ae (mV 0) aw))) [ar (aD n E)]=a_ ⟨(dV n).map λp:Nat=>D.int (aM E p),.none⟩:=by unfold cw;rw[hd,aj];rfl
 have e:((dV n).filter λ_=>b').map (λp:Nat=>D.int (kg (aM E p)))=((dV n).map λp=>((kg (aM E p):Nat):Int)).map D.int:=by rw[bW,Kf];rfl
 have Z:=Hs (α:=Nat) (l:=dV n) (mk:=λp:Nat=>D.int (aM E p)) (f:=λp:Nat=>D.int (kg (aM E p))) (g:=gN 0) (t:=fy) (m:=fA) (js:=[aC]) (λρ=>∃x,ρ=[x]) (λ_=>b') W (by rw[J4];unfold lim;omega) ⟨aC,rfl⟩
  (λp hp ρ ⟨x,hρ⟩=>by subst hρ;have U:aM E p<=E.length:=Mc;refine⟨[ar (.int (aM E p))],rfl,⟨_,rfl⟩,rfl,λ_=>?_⟩;have hm:oW (aM E p:Int) ((aM E p:Int) - 1):=.inl ⟨by omega,by omega⟩;have Y:aN kD (mV 0) (aN eA (mV 0) (mK (.int 1))) [ar (.int (aM E p))]=a_ (.int ((aM E p:Int)*((aM E p:Int) - 1))):=(bz (x:=.int (aM E p)) (y:=.int ((aM E p:Int) - 1)) rfl rfl).trans (mul_eq hm);refine(bz Y (y:=.int 2) rfl).trans ((div_eq ⟨by decide,by decide⟩).trans ?_);rw[xa]) (by rw[e];exact fV _)
 rw[e]at Z;refine iN (o:=.ret _) (c8 ((dz Z).trans ?_)) rfl;show(match intsOf _ with|some ns=>(a_ (.int ns.sum):M D)|none=>M.fail)=_;rw[gq];dsimp only;rw[FR,oz,jv (m5 w)]
end
def stp(h t:List Int):List Int:=match t with
 |[a,b]=>if a∈h/\b∉h then h++[b]else if b∈h/\a∉h then h++[a]else h
 |_=>h
def Bq(E:List (List Int))(h:List Int):List Int:=E.foldl stp h
def tZ(E:List (List Int)):Nat->List Int->List Int
 |0,h=>h
 |k+1,h=>tZ E k (Bq E h)
def Br(E:List (List Int))(h:List Int):Prop:=∀a b,[a,b]∈E->(a∈h↔b∈h)
theorem xc(h t:List Int):h.length<=(stp h t).length:=by
 unfold stp;split
 ·split
  ·rw[JW];omega
  ·split
   ·rw[JW];omega
   ·exact JQ _
 ·exact JQ _
theorem rV:∀(E:List (List Int)) (h:List Int),h.length<=(Bq E h).length
 |[],h=>JQ _
 |t::E,h=>JX (xc h t) (rV E (stp h t))
theorem Bs{h:List Int}{a b:Int}(e:(stp h [a,b]).length=h.length):stp h [a,b]=h/\(a∈h↔b∈h):=by
 unfold stp at e⊢;dsimp only at e⊢;by_cases c1:a∈h/\b∉h
 ·rw[if_pos c1,JW]at e;exact absurd e (by show ¬ h.length+1=h.length;omega)
 ·rw[if_neg c1]at e⊢;by_cases c2:b∈h/\a∉h
  ·rw[if_pos c2,JW]at e;exact absurd e (by show ¬ h.length+1=h.length;omega)
  ·rw[if_neg c2];refine⟨rfl,λx=>J6 λy=>c1 ⟨x,y⟩,λx=>J6 λy=>c2 ⟨x,y⟩⟩
theorem Bt{h:List Int}{a b:Int}(c:a∈h↔b∈h):stp h [a,b]=h:=by unfold stp;dsimp only;rw[if_neg (λx=>x.2 (c.mp x.1)),if_neg (λx=>x.2 (c.mpr x.1))]
section
variable {n:Nat}{E:List (List Int)}
theorem t4:∀(T:List (List Int)) (h:List Int),(∀t∈T,∃a b,t=[a,b])->(Bq T h).length=h.length->Br T h
 |[],h,_,_=>λa b z=>by cases z
 |t::T,h,h2,e=>by
  obtain⟨x,y,rfl⟩:=h2 t (.head _);have S:=xc h [x,y];have U:=rV T (stp h [x,y]);have Y:(Bq T (stp h [x,y])).length=h.length:=e;obtain⟨e1,e2⟩:=Bs (h:=h) (a:=x) (b:=y) (by omega);rw[e1]at Y;have X:=t4 T h (λt W=>h2 t (.tail _ W)) Y;intro a b Z;rcases J5.mp Z with z|z
  ·cases z;exact e2
  ·exact X a b z
theorem t5:∀(T:List (List Int)) (h:List Int),(∀t∈T,∃a b,t=[a,b])->Br T h->Bq T h=h
 |[],h,_,_=>rfl
 |t::T,h,h2,c=>by
  obtain⟨x,y,rfl⟩:=h2 t (.head _);show Bq T (stp h [x,y])=h;rw[Bt (c x y (.head _))];exact t5 T h (λt Z=>h2 t (.tail _ Z)) λa b z=>c a b (.tail _ z)
theorem qp(Z:∀t∈E,∃a b,t=[a,b]){h:List Int}(c:Br E h):∀k,tZ E k h=h
 |0=>rfl
 |k+1=>by
  show tZ E k (Bq E h)=h;rw[t5 E h Z c];exact qp Z c k
theorem qr(Z:∀t∈E,∃a b,t=[a,b]):∀(k:Nat) (h:List Int),h.length+k<=(tZ E k h).length\/Br E (tZ E k h)
 |0,h=>.inl (JQ _)
 | k+1,h=>by
  have l:=rV E h;by_cases e:(Bq E h).length=h.length
  ·have c:=t4 E h Z e;right;rw[qp Z c];exact c
  ·rcases qr Z k (Bq E h)with g|g
   ·left;show h.length+(k+1)<=(tZ E k (Bq E h)).length;omega
   ·exact .inr g
theorem xf{P:List Int->Prop}(hs:∀h a b,P h->[a,b]∈E->P (stp h [a,b]))(Z:∀t∈E,∃a b,t=[a,b]):∀(T:List (List Int)) (h:List Int),(∀t∈T,t∈E)->P h->P (Bq T h)
 |[],h,_,p=>p
 |t::T,h,hT,p=>by
  obtain⟨x,y,rfl⟩:=Z t (hT t (.head _));exact xf hs Z T _ (λt Y=>hT t (.tail _ Y)) (hs h x y p (hT _ (.head _)))
theorem oA{P:List Int->Prop}(hs:∀h a b,P h->[a,b]∈E->P (stp h [a,b]))(Z:∀t∈E,∃a b,t=[a,b]):∀(k:Nat) (h:List Int),P h->P (tZ E k h)
 |0,h,p=>p
 |k+1,h,p=>oA hs Z k _ (xf hs Z E h (λt Y=>Y) p)
theorem qu(h:List Int)(a b:Int):stp h [a,b]=h\/∃x y,(x=a/\y=b\/x=b/\y=a)/\x∈h/\y∉h/\stp h [a,b]=h++[y]:=by
 unfold stp;dsimp only;by_cases c1:a∈h/\b∉h
 ·rw[if_pos c1];exact .inr ⟨a,b,.inl ⟨rfl,rfl⟩,c1.1,c1.2,rfl⟩
 ·rw[if_neg c1];by_cases c2:b∈h/\a∉h
  ·rw[if_pos c2];exact .inr ⟨b,a,.inr ⟨rfl,rfl⟩,c2.1,c2.2,rfl⟩
  ·rw[if_neg c2];exact .inl rfl
def vN(h t:List Int):Bool:=t.all λx=>decide (x∈h)
theorem iX{α:Type}{p q:α->Bool}:∀{l:List α},(∀x∈l,p x=b'->q x=b')->(∃x∈l,q x=b'/\p x=dr)->l.countP p<l.countP q
 |[],_,h=>by obtain⟨x,Z,_⟩:=h;cases Z
 | a::l,h1,⟨x,Z,h2,h3⟩=>by
  have hle:l.countP p<=l.countP q:=Ma λy Y=>h1 y (.tail _ Y);rw[KP,KP];rcases J5.mp Z with rfl|Z
  ·rw[h2,h3];show l.countP p+0<l.countP q+1;omega
  ·have X:=iX (λy Y=>h1 y (.tail _ Y)) ⟨x,Z,h2,h3⟩;have:=h1 a (.head _);cases hp:p a with
   |true=>rw[this hp];show l.countP p+1<l.countP q+1;omega
   |false=>show l.countP p+0<_;omega
structure Rch(n:Nat)(E:List (List Int))(h:List Int):Prop where
 nd:h.Nodup
 el:∀x∈h,0<=x/\x<n
 zr:0∈h
 ct:h.length<=E.countP (vN h)+1
 dg:2<=h.length->∀x∈h,∃t∈E,x∈t
theorem Rch.stp(w:WebOk n E){h:List Int}{a b:Int}(r:Rch n E h)(Y:[a,b]∈E):Rch n E (stp h [a,b]):=by
 rcases qu h a b with e|⟨x,y,hxy,hx,hy,e⟩
 ·rw[e];exact r
 ·rw [e];obtain⟨Q,N,e2,R,ab,bn⟩:=w.el _ Y;have O:=(J3 e2).1;have P:=(J3 (J3 e2).2).1;have W:0<=y/\y<n:=by rcases hxy with⟨rfl,rfl⟩|⟨rfl,rfl⟩<;>omega
  have X:y∈[a,b]/\x∈[a,b]:=by rcases hxy with⟨rfl,rfl⟩|⟨rfl,rfl⟩<;>simp
  refine⟨List.nodup_append.mpr ⟨r.nd,MU _ _,λu Z v S e=>hy (by rw[Kg.mp S]at e;exact e ▸ Z)⟩,λu Z=>?_,LC _ r.zr,?_,λ_ u Z=>?_⟩
  ·rcases Ly.mp Z with Z|Z
   ·exact r.el u Z
   ·rw[Kg.mp Z];exact W
  ·have T:E.countP (vN h)<E.countP (vN (h++[y])):=iX (λt _ U=>by
    unfold vN at U⊢;rw[Kt]at U⊢;exact λu Z=>JT (LC _ (Kd (U u Z)))) ⟨[a,b],Y,by
     unfold vN;rw[Kt];intro u Z;refine JT ?_;simp only[hO,hh,or_false]at Z;rw[Ly,Kg];rcases hxy with⟨rfl,rfl⟩|⟨rfl,rfl⟩<;>rcases Z with rfl|rfl<;>first|exact .inl hx|exact .inr rfl,by
     have:¬ vN h [a,b]=true:=λz=>by unfold vN at z;rw[Kt]at z;exact hy (Kd (z y X.1))
     simpa using this⟩
   have:=r.ct;rw[JW];show h.length+1<=_;omega
  ·rcases Ly.mp Z with Z|Z
   ·by_cases h2:2<=h.length
    ·exact r.dg h2 u Z
    ·have:h=[x]:=by
      match h,hx,h2 with
      |[z],hx,_=>rw[Kg.mp hx]
      |[],hx,_=>cases hx
      |_::_::_,_,h2=>exact absurd (by simp) h2
     rw[this]at Z;rw[Kg.mp Z];exact⟨_,Y,X.2⟩
   ·rw[Kg.mp Z];exact⟨_,Y,X.1⟩
abbrev so(n:Nat)(E:List (List Int)):List Int:=tZ E n [0]
theorem rW(w:WebOk n E):∀t∈E,∃a b:Int,t=[a,b]:=λt Z=>by obtain⟨a,b,e,_⟩:=w.el t Z;exact⟨a,b,e⟩
theorem vO(w:WebOk n E)(X:1<=n):Rch n E (so n E):=oA (P:=Rch n E) (λh a b r Z=>r.stp w Z) (rW w) n [0] ⟨MU _ _,λx Y=>by rw[Kg.mp Y];omega,.head _,by show 1<=_;omega,λz=>absurd z (by decide)⟩
theorem oB{l:List Int}(Y:l.Nodup)(X:∀x∈l,0<=x/\x<n):l.length<=n:=by
 have:=ou (m:=(dV n).map λj:Nat=>(j:Int)) Y λx Z=>by obtain⟨h0,W⟩:=X x Z;exact Kl.mpr ⟨x.toNat,J2.mpr (by omega),by omega⟩
 rw[JN,J4]at this;exact this
theorem Bu(w:WebOk n E)(Z:1<=n):Br E (so n E):=by
 rcases qr (rW w) n [0]with g|g
 ·have r:=vO w Z;have:=oB r.nd r.el;have g':1+n<=(so n E).length:=g;omega
 ·exact g
theorem C9(w:WebOk n E)(Y:1<=n)(X:(so n E).length=n){p:Nat}(W:p<n):(p:Int)∈so n E:=by
 have r:=vO w Y;refine J6 λc=>?_;have:=oB (n:=n) (Kz.mpr ⟨c,r.nd⟩) λx Z=>by
  rcases J5.mp Z with rfl|Z
  ·omega
  ·exact r.el x Z
 rw[Ki,X]at this;omega
end
abbrev gI(L:List Int)(a:Int):Int:=L.getD a.toNat 0
def eo(L t:List Int):List Int:=match t with
 |[a,b]=>L.map λx=>if x=(if gI L b>gI L a then gI L b else gI L a)then (if gI L b<gI L a then gI L b else gI L a)else x
 |_=>L
section
variable {n:Nat}{E T:List (List Int)}{L:List Int}
structure Lab(n:Nat)(E T:List (List Int))(L:List Int):Prop where
 len:L.length=n
 rg:∀p:Int,0<=p->p<n->0<=gI L p/\gI L p<n
 idm:∀p:Int,0<=p->p<n->gI L (gI L p)=gI L p
 tie:∀a b,[a,b]∈T->gI L a=gI L b
 cls:∀C:Int->Prop,(∀a b,[a,b]∈E->(C a↔C b))->∀p:Int,0<=p->p<n->(C p↔C (gI L p))
theorem Bv{f:Int->Int}{p:Int}(Z:0<=p)(h:p<L.length):gI (L.map f) p=f (gI L p):=by unfold gI;rw[JS,JS,Km,JP (by omega)];rfl
theorem Lab.step(w:WebOk n E)(l:Lab n E T L){a b:Int}(X:[a,b]∈E)(B:∀t∈T,t∈E):Lab n E ([a,b]::T) (eo L [a,b]):=by
 obtain⟨m,q,e2,S,ab,bn⟩:=w.el _ X;have F:=(J3 e2).1;have G:=(J3 (J3 e2).2).1;subst F G;have u:=l.rg a S (by omega);have o:=l.rg b (by omega) bn;have j:=l.idm a S (by omega);have s:=l.idm b (by omega) bn;obtain⟨g,k,K,N⟩:∃g k,g=(if gI L b>gI L a then gI L b else gI L a)/\k=(if gI L b<gI L a then gI L b else gI L a):=⟨_,_,rfl,rfl⟩;have Y:(g=gI L a/\k=gI L b)\/(g=gI L b/\k=gI L a):=by
  rw[K,N];by_cases c:gI L b>gI L a
  ·rw[if_pos c,if_neg (by omega)];exact .inr ⟨rfl,rfl⟩
  ·rw[if_neg c];by_cases W:gI L b<gI L a
   ·rw[if_pos W];exact .inl ⟨rfl,rfl⟩
   ·rw[if_neg W];exact .inl ⟨rfl,by omega⟩
 have e:eo L [a,b]=L.map λx=>if x=g then k else x:=by rw[K,N];rfl
 have gt:∀p:Int,0<=p->p<n->gI (eo L [a,b]) p=if gI L p=g then k else gI L p:=λp h0 Z=>by rw[e,Bv h0 (by rw[l.len];exact Z)]
 have O:0<=k/\k<n:=by rcases Y with⟨_,rfl⟩|⟨_,rfl⟩<;>assumption
 have y:gI L k=k:=by rcases Y with⟨_,rfl⟩|⟨_,rfl⟩<;>assumption
 have k2:gI (eo L [a,b]) k=k:=by rw[gt k O.1 O.2,y];split<;>rfl
 refine⟨by rw[e,JN];exact l.len,λp h0 Z=>?_,λp h0 Z=>?_,λc d P=>?_,λC U p h0 Z=>?_⟩
 ·rw[gt p h0 Z];split
  ·exact O
  ·exact l.rg p h0 Z
 ·rw[gt p h0 Z];split
  ·exact k2
  ·next hne=>
   have:=l.rg p h0 Z;rw[gt _ this.1 this.2,l.idm p h0 Z,if_neg hne]
 ·rcases J5.mp P with z|z
  ·have Q:=(J3 z).1;have R:=(J3 (J3 z).2).1;subst Q R;rw[gt _ S (by omega),gt _ (by omega) bn];rcases Y with⟨rfl,rfl⟩|⟨rfl,rfl⟩
   ·rw[if_pos rfl];split<;>rfl
   ·rw[if_pos rfl];split<;>rfl
  ·obtain⟨r,d',I,v,cd,A⟩:=w.el _ (B _ z);have Q:=(J3 I).1;have R:=(J3 (J3 I).2).1;subst Q R;rw[gt _ v (by omega),gt _ (by omega) A,l.tie _ _ z]
 ·have c1:=l.cls C U p h0 Z;have W:=l.cls C U a S (by omega);have J:=l.cls C U b (by omega) bn;have H:=U a b X;rw[gt p h0 Z];split
  ·next hp=>
   rw[c1,hp];rcases Y with⟨rfl,rfl⟩|⟨rfl,rfl⟩
   ·exact W.symm.trans (H.trans J)
   ·exact J.symm.trans (H.symm.trans W)
  ·exact c1
abbrev vP(n:Nat):List Int:=(dV n).map λj:Nat=>(j:Int)
theorem Bw:Lab n E [] (vP n):=by
 have g:∀p:Int,0<=p->p<n->gI (vP n) p=p:=λp h0 Z=>by unfold gI vP;rw[JS,Km,K6 (by omega)];show((p.toNat:Nat):Int)=p;omega
 exact⟨by rw[JN,J4],λp h0 Z=>by rw[g p h0 Z];exact⟨h0,Z⟩,λp h0 Z=>by rw[g p h0 Z,g p h0 Z],(λa b z=>by cases z),λC _ p h0 Z=>by rw[g p h0 Z]⟩
theorem xg(w:WebOk n E):∀(R T:List (List Int)) (L:List Int),(∀t∈R,t∈E)->(∀t∈T,t∈E)->Lab n E T L->∃Y,Lab n E Y (R.foldl eo L)/\(∀t∈T,t∈Y)/\∀t∈R,t∈Y
 |[],T,L,_,_,l=>⟨T,l,λt h=>h,λt h=>by cases h⟩
 | t::R,T,L,hR,hT,l=>by
  obtain⟨a,b,rfl⟩:=rW w t (hR t (.head _));obtain⟨Y,X,s1,s2⟩:=xg w R ([a,b]::T) _ (λt Z=>hR t (.tail _ Z)) (λt Z=>by
   rcases J5.mp Z with rfl|Z
   ·exact hR _ (.head _)
   ·exact hT t Z) (l.step w (hR _ (.head _)) hT)
  exact⟨Y,X,λt Z=>s1 t (.tail _ Z),λt Z=>by
   rcases J5.mp Z with rfl|Z
   ·exact s1 _ (.head _)
   ·exact s2 t Z⟩
abbrev aX(n:Nat)(E:List (List Int)):List Int:=E.foldl eo (vP n)
theorem gK(w:WebOk n E):Lab n E E (aX n E):=by obtain⟨Z,l,_,s⟩:=xg w E [] (vP n) (λt h=>h) (λt h=>by cases h) Bw;exact⟨l.len,l.rg,l.idm,λa b h=>l.tie a b (s _ h),l.cls⟩
def heads(n:Nat)(L:List Int):List Nat:=(dV n).filter λp:Nat=>decide (gI L (p:Int)=(p:Int))
theorem yF(w:WebOk n E)(S:1<=n)(h:(so n E).length=n):(heads n (aX n E)).length<=1:=by
 have l:=gK w;have key:∀x∈so n E,gI (aX n E) x=gI (aX n E) 0:=oA (P:=λh=>∀x∈h,gI (aX n E) x=gI (aX n E) 0) (λh a b r X x Z=>by
  rcases qu h a b with e|⟨u,v,huv,hu,hv,e⟩
  ·rw[e]at Z;exact r x Z
  ·rw[e]at Z;rcases Ly.mp Z with Z|Z
   ·exact r x Z
   ·rw[Kg.mp Z];have:=l.tie a b X;rcases huv with⟨rfl,rfl⟩|⟨rfl,rfl⟩
    ·rw[<-this];exact r _ hu
    ·rw[this];exact r _ hu) (rW w) n [0] (λx Z=>by rw[Kg.mp Z])
 have Y:(heads n (aX n E)).Nodup:=List.nodup_range.filter _;have all:∀p∈heads n (aX n E),(p:Int)=gI (aX n E) 0:=λp R=>by obtain⟨U,W⟩:=Ks.mp R;rw[<-Kd W];exact key _ (C9 w S h (J2.mp U))
 match hd:heads n (aX n E),Y,all with
 |[],_,_=>exact Kk _
 |[x],_,_=>exact JQ _
 |x::y::r,Y,all=>
  have Q:=all x (.head _);have O:=all y (.tail _ (.head _));have:x=y:=by omega
  rw[this]at Y;exact absurd (.head _) (Kz.mp Y).1
theorem qv(w:WebOk n E)(W:1<=n)(h:(so n E).length≠n):2<=(heads n (aX n E)).length:=by
 have l:=gK w;have r:=vO w W;have U:=Bu w W;have N:(so n E).length<n:=by have:=oB r.nd r.el;omega
 obtain⟨q,S,Y⟩:∃q:Nat,q<n/\(q:Int)∉so n E:=J6 λc=>by
  have:=ou (l:=vP n) (m:=so n E) (MQ.mpr ((M1 (n:=n)).imp λh e=>h (by omega))) λx R=>by obtain⟨q,S,rfl⟩:=Kl.mp R;exact J6 λz=>c ⟨q,J2.mp S,z⟩
  rw[JN,J4]at this;omega
 have hd:∀p:Int,0<=p->p<n->(gI (aX n E) p).toNat∈heads n (aX n E):=λp h0 Z=>by have J:=l.rg p h0 Z;refine Ks.mpr ⟨J2.mpr (by omega),JT ?_⟩;rw[show(((gI (aX n E) p).toNat:Nat):Int)=gI (aX n E) p by omega];exact l.idm p h0 Z
 have Q:=(l.cls (· ∈so n E) U 0 (by omega) (by omega)).mp r.zr;have K:gI (aX n E) q∉so n E:=λz=>Y ((l.cls (· ∈so n E) U q (by omega) (by omega)).mpr z);have h0:=hd 0 (by omega) (by omega);have Z:=hd q (by omega) (by omega);have O:=l.rg 0 (by omega) (by omega);have P:=l.rg q (by omega) (by omega);have X:(gI (aX n E) 0).toNat≠(gI (aX n E) q).toNat:=λe=>K (by rw[show gI (aX n E) q=gI (aX n E) 0 by omega];exact Q)
 match hl:heads n (aX n E),h0,Z with
 |[],h0,_=>cases h0
 |[x],h0,Z=>exact absurd ((Kg.mp h0).trans (Kg.mp Z).symm) X
 |x::y::r,_,_=>simp
end
theorem xh{n:Nat}:∀E:List (List Int),(∀t∈E,∃a b:Int,t=[a,b]/\0<=a/\a<b/\b<n)->sm n (aM E)=2*E.length
 |[],_=>jM n
 | t::E,h=>by
  obtain⟨a,b,rfl,Z,ab,bn⟩:=h t (.head _);have Y:=xh E λt X=>h t (.tail _ X);have e:∀p,p<n->aM ([a,b]::E) p=aM E p+((if (p:Int)=a then 1 else 0)+(if (p:Int)=b then 1 else 0)):=λp _=>by
   unfold aM;rw[KP,ju];congr 1;by_cases h1:(p:Int)=a
   ·rw[show decide ((p:Int)=a\/(p:Int)=b)=b' from JT (.inl h1),if_pos rfl,if_pos h1,if_neg (by omega)]
   ·by_cases h2:(p:Int)=b
    ·rw[show decide ((p:Int)=a\/(p:Int)=b)=b' from JT (.inr h2),if_pos rfl,if_neg h1,if_pos h2]
    ·rw[show decide ((p:Int)=a\/(p:Int)=b)=dr from J8 λz=>z.elim h1 h2,if_neg (by decide),if_neg h1,if_neg h2]
  rw[cI e,ef (aM E),ef,Y,m3 Z (by omega),m3 (by omega) bn,Ki];omega
def dl(n:Nat)(E:List (List Int)):List Int:=(dV n).map λp=>((aM E p:Nat):Int)
theorem t6{l s:List Int}(h:l.Perm s)(hs:s.Pairwise (· <=·)):sortI l=s:=
 MM (le:=(· <=·)) (λa b _ _ x y=>Int.le_antisymm x y) (fK l) hs ((sortI_perm l).trans h)
def ia(n:Nat)(E:List (List Int)):D:=
 if sortI (dl n E)=[1,1,1,3]then .tup [.str "stays",.int 3]else if (dl n E).any (λx=>decide (x>2))=b' then .tup [.str "grows"]else if E≠[]/\E.length=n then .tup [.str "stays",.int n]else .tup [.str "gone",.int n]
theorem not_eq{t:fE}{b:Bool}{ρ:aA}(h:t ρ=a_ b):eQ t ρ=a_ (!b):=by show(t ρ>>=_)=_;rw[h];rfl
section
variable {n:Nat}{E:List (List Int)}{d e:D}
end
theorem yG{l:List Int}{e:TM}{ρ:aA}(h:e ρ=a_ (.fz (l.map D.int)))(Z:l.length<64):aR (bI bH e) ρ=a_ (.fz ((sortI l).map D.int)):=by
 unfold aR;rw[dz h];have:bH [.fz (l.map D.int)]=bt ((sortI l).map D.int):=by show kL (l.map D.int)=_;unfold kL;rw[gq];exact if_pos Z
 rw[this];exact cb (fV _) (by rw[JN,(sortI_perm l).length_eq];unfold lim;omega)
theorem Da{its ds:List D}{d:D}{g:lu}{b:cT}{ρ Y Z:aA}(h:g d ρ=a_ Y)(X:b Y=a_ (.nx Z)):fH ⟨its,.none⟩ g b (d::ds) ρ=fH ⟨its,.none⟩ g b ds Z:=by rw[fH,cn,aj,h,aj,X];rfl
theorem Bx{n:Nat}{E:List (List Int)}:(dV n).map (λp:Nat=>D.int (aM E p))=(dl n E).map D.int:=by unfold dl;rw[Kf];rfl
theorem Dc{a b:List Int}:fJ (.fz (a.map D.int)) (.fz (b.map D.int))=a_ (.bl (decide (a=b))):=bM λS=>by
 unfold fJ;have h:∀l:List Int,dO S 60 (.fz (l.map D.int))=ar (.list (l.map j2)):=λl=>by show(mapP (dO S 59) (l.map D.int)).map n3=_;rw[hZ];rfl
 refine(eE (h a) (h b)).mpr ⟨?_,rfl⟩;unfold er;rw[jt]
theorem Dd{a b:List Int}:fJ (tupI a) (tupI b)=a_ (.bl (decide (a=b))):=bM λS=>by unfold fJ;refine(eE (jK a) (jK b)).mpr ⟨?_,rfl⟩;unfold iW er;rw[jt]
section
variable {S:aB}{h:List Int}{a:Int}{ρ:aA}{e1 e2:TM}
end
section
variable {n:Nat}{E:List (List Int)}{S:aB}
end
theorem jQ{t:fE}{m:cT}{ρ:aA}(h:t ρ=a_ dr):gx t m cV ρ=a_ (.nx ρ):=(cW h).trans (if_neg (by decide))
theorem nb{e:TM}{ρ:aA}(h:e ρ=a_ (.bl b')):eQ (bV e) ρ=a_ false:=not_eq (kX h)
theorem By{ρ:aA}{s:Str}{e:TM}{d:D}(h:e ρ=a_ d):i9 (ae (mK (.str s)) (ae e aw)) ρ=a_ (.tup [.str s,d]):=by show(ae _ _ _>>=cy)=_;rw[bw (e:=mK (.str s)) (x:=.str s) rfl (bw h (es:=aw) rfl),aj];unfold cy;exact if_pos og
theorem DT{p q:fE}{b c:Bool}{ρ:aA}(Z:p ρ=a_ b)(Y:q ρ=a_ c):uy p q ρ=a_ (b||c):=or_eq Z Y
theorem Bz{k:Int}{i:Int}{ρ:aA}{e:TM}(Z:e ρ=a_ (.int i))(W: -100<=i)(X:i<=100):aR (aN yu (cX (ae (mK (.int k)) aw)) e) ρ=a_ (.fz ((eb i.toNat k).map D.int)):=by
 refine wK (fV _) λS=>?_;have Y:cX (ae (mK (.int k)) aw) ρ S=ar (.ok (.lst S.length),S++[[.int k]]):=vF (ys:=[.int k]) (S1:=S) rfl (by show 1<=lim;unfold lim;omega);have hf:∀m:Nat,(eb m [D.int k]).flatten=(eb m k).map D.int:=λm=>by
  induction m with
  |zero=>rfl
  |succ m ih=>rw[KC,K4,ih,KC,Ke];rfl
 refine⟨.lst (S++[[D.int k]]).length,S++[[.int k]]++[(eb i.toNat k).map D.int],?_,[[.int k],(eb i.toNat k).map D.int],(S++[[D.int k]]).length,rfl,by rw[Lm];rfl,dW,by rw[JW];omega⟩;rw[mF Y (Kv Z _)];show(getL S.length>>=λxs=>if -(2 ^ 62)<=i/\i<=1000/\xs.length<=1000 then bt (eb i.toNat xs).flatten else M.fail) _=_;rw[aU (gJ dW),if_pos ⟨by omega,by omega,by show 1<=1000;decide⟩,hf];exact fU (by rw[JN,List.length_replicate];unfold lim;omega)
section
variable {n:Nat}{E:List (List Int)}
theorem oC:(dl n E).length=n:=by unfold dl;rw[JN,J4]
abbrev eI(n:Nat)(E:List (List Int))(r:List (Option D)):aA:=ar (aD n E)::ar (.int n)::ar (.tup (E.map tupI))::r
theorem FS{L:List Int}{a b:Int}{x6 x7 x8:Option D}(O:L.length<=100)(S:0<=a)(Q:a<L.length)(P:0<=b)(R:b<L.length):∃y6 y7,fq (eI n E [ar (.fz (L.map D.int)),ar (.int a),ar (.int b),x6,x7,x8])=a_ (.nx (eI n E [ar (.fz ((eo L [a,b]).map D.int)),ar (.int a),ar (.int b),y6,y7,x8])):=by
 have Y:∀{y6 y7:Option D},aN bx (mV 3) (mV 4) (eI n E [ar (.fz (L.map D.int)),ar (.int a),ar (.int b),y6,y7,x8])=a_ (.int (gI L a)):=(bz (x:=.fz (L.map D.int)) (y:=.int a) rfl rfl).trans (gX S Q);have W:∀{y6 y7:Option D},aN bx (mV 3) (mV 5) (eI n E [ar (.fz (L.map D.int)),ar (.int a),ar (.int b),y6,y7,x8])=a_ (.int (gI L b)):=(bz (x:=.fz (L.map D.int)) (y:=.int b) rfl rfl).trans (gX P R);have Z:aq minD (ae (aN bx (mV 3) (mV 4)) (ae (aN bx (mV 3) (mV 5)) aw)) (eI n E [ar (.fz (L.map D.int)),ar (.int a),ar (.int b),x6,x7,x8])=a_ (.int (if gI L b<gI L a then gI L b else gI L a)):=(call2 Y W).trans rfl;have X:∀{y6:Option D},aq maxD (ae (aN bx (mV 3) (mV 4)) (ae (aN bx (mV 3) (mV 5)) aw)) (eI n E [ar (.fz (L.map D.int)),ar (.int a),ar (.int b),y6,x7,x8])=a_ (.int (if gI L b>gI L a then gI L b else gI L a)):=(call2 Y W).trans rfl;generalize hk:(if gI L b<gI L a then gI L b else gI L a)=k at Z;generalize hg:(if gI L b>gI L a then gI L b else gI L a)=g at X;have U:=tY (α:=Int) (l:=L) (mk:=D.int) (f:=λx=>D.int (if x=g then k else x)) (mi:=cw (mV 3)) (g:=gN 0) (t:=jh) (m:=ji) (js:=[aC,ar 7,ar 6]) (ρ:=eI n E [ar (.fz (L.map D.int)),ar (.int a),ar (.int b),ar (.int k),ar (.int g),x8]) (λρ=>∃x,ρ=[x,ar (.int g),ar (.int k)]) (λ_=>b') rfl (by unfold lim;omega) ⟨aC,rfl⟩
  (λx hx ρ ⟨y,hρ⟩=>by
   subst hρ;refine⟨[ar (.int x),ar (.int g),ar (.int k)],rfl,⟨_,rfl⟩,rfl,λ_=>?_⟩;have T:dj fJ (mV 0) (mV 1) [ar (.int x),ar (.int g),ar (.int k)]=a_ (decide (x=g)):=bO (x:=.int x) (y:=.int g) rfl rfl A2;show(dj fJ _ _ _>>=_)=_;rw[T,aj];by_cases h:x=g
   ·rw[if_pos (JT h),if_pos h];rfl
   ·rw[if_neg (by rw[KI];exact h),if_neg h];rfl) (by rw[bW];exact l4 (λx:Int=>if x=g then k else x) _)
 rw[bW]at U;refine⟨ar (.int k),ar (.int g),(aQ (ec Z)).trans ((aQ (ec X)).trans ((ec U).trans ?_))⟩;have e:(eo L [a,b]).map D.int=L.map λx=>D.int (if x=g then k else x):=by unfold eo;dsimp only;rw[hk,hg,Kf];rfl
 rw[e];rfl
theorem xi{its:List D}(w:WebOk n E)(O:n<=14):∀(R T:List (List Int)) (L:List Int) (x4 x5 x6 x7 x8:Option D),(∀t∈R,t∈E)->L.length=n->∃Y Z X W,fH ⟨its,.none⟩ (du 2 (bc (gN 4) (bc (gN 5) dN))) fq (R.map tupI) (eI n E [ar (.fz (L.map D.int)),x4,x5,x6,x7,x8])=a_ (.nx (eI n E [ar (.fz ((R.foldl eo L).map D.int)),Y,Z,X,W,x8]))
 |[],T,L,x4,x5,x6,x7,x8,_,_=>⟨x4,x5,x6,x7,mY⟩
 |t::R,T,L,x4,x5,x6,x7,x8,hR,hl=>by
  obtain⟨a,b,rfl,Q,ab,bn⟩:=w.el t (hR t (.head _));obtain⟨S,N,U⟩:=FS (n:=n) (E:=E) (L:=L) (x6:=x6) (x7:=x7) (x8:=x8) (by omega) Q (by omega) (show 0<=b by omega) (by omega);obtain⟨Y,Z,X,W,P⟩:=xi (its:=its) w O R T (eo L [a,b]) (ar (.int a)) (ar (.int b)) S N x8 (λt K=>hR t (.tail _ K)) (by unfold eo;dsimp only;rw[JN];exact hl);exact⟨Y,Z,X,W,(Da rfl U).trans P⟩
def vQ(n:Nat)(L:List Int):List D:=(heads n L).map λh:Nat=>.tup (((dV n).filter λp:Nat=>decide (gI L (p:Int)=(h:Int))).map λp:Nat=>D.int (p:Int))
theorem t7(P:n<=14)(w:WebOk n E):bE [aD n E]=a_ (.fz (vQ n (aX n E))):=by
 have hf:=w.few;have R:aR (bI cg (mV 1)) (eI n E [aC,aC,aC,aC,aC,aC])=a_ (.fz ((vP n).map D.int)):=by unfold aR;rw[dz (x:=.int n) rfl,Ho (j:=n) ⟨by omega,by unfold lim;omega⟩,Ko,Ht,show(dV n).map (λi:Nat=>D.int (i:Int))=(vP n).map D.int by rw[Kf];rfl];exact cb (fV _) (by rw[JN,JN,J4];unfold lim;omega)
 obtain⟨W,Y,U,T,S⟩:=xi (its:=E.map tupI) w P E [] (vP n) aC aC aC aC aC (λt h=>h) (by rw[JN,J4]);have hlen:(aX n E).length=n:=(gK w).len;have L:j8 (cw (mV 2)) (du 2 (bc (gN 4) (bc (gN 5) dN))) fq (eI n E [ar (.fz ((vP n).map D.int)),aC,aC,aC,aC,aC])=a_ (.nx (eI n E [ar (.fz ((aX n E).map D.int)),W,Y,U,T,aC])):=by unfold j8;rw[show cw (mV 2) (eI n E [ar (.fz ((vP n).map D.int)),aC,aC,aC,aC,aC])=a_ ⟨E.map tupI,.none⟩from rfl,aj];exact S
 have N:∀{ρ:aA} {p:Nat} {e1 e2:TM},p<n->e1 ρ=a_ (.fz ((aX n E).map D.int))->e2 ρ=a_ (.int p)->aN bx e1 e2 ρ=a_ (.int (gI (aX n E) (p:Int))):=λ{ρ p e1 e2} Z h1 h2=>(bz h1 h2).trans (gX (by omega) (by omega));have O:=tX (α:=Nat) (l:=dV n) (mk:=λi:Nat=>D.int (i:Int)) (f:=λp:Nat=>D.int (p:Int)) (mi:=oR (mV 1)) (g:=gN 0) (t:=gG) (m:=gH) (js:=[aC,ar 3]) (ρ:=eI n E [ar (.fz ((aX n E).map D.int)),W,Y,U,T,aC]) (λρ=>∃x,ρ=[x,ar (.fz ((aX n E).map D.int))]) (λp:Nat=>decide (gI (aX n E) (p:Int)=(p:Int))) (FQ rfl (by omega)) (by rw[J4];unfold lim;omega) ⟨aC,rfl⟩
  (λp Z ρ ⟨x,hρ⟩=>by subst hρ;exact⟨[ar (.int p),ar (.fz ((aX n E).map D.int))],rfl,⟨_,rfl⟩,bO (N (J2.mp Z) rfl rfl) (y:=.int p) rfl A2,λ_=>rfl⟩) (l4 (λp:Nat=>(p:Int)) _)
 have X:DH (bS 8 (aR (bp (oR (mV 1)) (gN 0) gG gH [aC,ar 3]))) (eI n E [ar (.fz ((aX n E).map D.int)),W,Y,U,T,aC])=a_ (.nx (eI n E [ar (.fz ((aX n E).map D.int)),W,Y,U,T,ar (.fz ((heads n (aX n E)).map λp:Nat=>D.int (p:Int)))])):=by show ja (bS 8 _ _)=_;rw[ec O];rfl
 have Q:cA 0 (vQ n (aX n E))=true:=by
  unfold vQ;generalize heads n (aX n E)=l
  induction l with
  |nil=>rfl
  |cons x l ih=>
   rw[Ke];unfold cA;rw[ih,Bool.and_true];unfold fF;exact l4 (λp:Nat=>(p:Int)) _
 have Z:=tY (α:=Nat) (l:=heads n (aX n E)) (mk:=λi:Nat=>D.int (i:Int)) (f:=λh:Nat=>D.tup (((dV n).filter λp:Nat=>decide (gI (aX n E) (p:Int)=(h:Int))).map λp:Nat=>D.int (p:Int))) (mi:=cw (mV 8)) (g:=gN 0) (t:=jl) (m:=jm) (js:=[aC,ar 1,ar 3]) (ρ:=eI n E [ar (.fz ((aX n E).map D.int)),W,Y,U,T,ar (.fz ((heads n (aX n E)).map λp:Nat=>D.int (p:Int)))]) (λρ=>∃x,ρ=[x,ar (.int n),ar (.fz ((aX n E).map D.int))]) (λ_=>b') rfl (by have:(heads n (aX n E)).length<=n:=JX (KD _ _) (by rw[J4];exact JQ _);unfold lim;omega) ⟨aC,rfl⟩
  (λh O ρ ⟨x,hρ⟩=>by
   subst hρ;refine⟨[ar (.int h),ar (.int n),ar (.fz ((aX n E).map D.int))],rfl,⟨_,rfl⟩,rfl,λ_=>?_⟩;have K:=tX (α:=Nat) (l:=dV n) (mk:=λi:Nat=>D.int (i:Int)) (f:=λp:Nat=>D.int (p:Int)) (mi:=oR (mV 1)) (g:=gN 0) (t:=jj) (m:=jk) (js:=[aC,ar 2,ar 0]) (ρ:=[ar (.int h),ar (.int n),ar (.fz ((aX n E).map D.int))]) (λρ=>∃x,ρ=[x,ar (.fz ((aX n E).map D.int)),ar (.int h)]) (λp:Nat=>decide (gI (aX n E) (p:Int)=(h:Int))) (FQ rfl (by omega)) (by rw[J4];unfold lim;omega) ⟨aC,rfl⟩
    (λp Z ρ ⟨x,hρ⟩=>by subst hρ;exact⟨[ar (.int p),ar (.fz ((aX n E).map D.int)),ar (.int h)],rfl,⟨_,rfl⟩,bO (N (J2.mp Z) rfl rfl) (y:=.int h) rfl A2,λ_=>rfl⟩) (l4 (λp:Nat=>(p:Int)) _)
   refine(dz K).trans (lU ?_);rw[JN];exact JX (KD _ _) (by rw[J4];unfold lim;omega)) (by rw[bW];exact Q)
 rw[bW]at Z;exact iN (o:=.ret (.fz (vQ n (aX n E)))) ((aQ (oi (iM ((bP rfl).trans (w8 P w))))).trans ((aQ (ρ':=eI n E [aC,aC,aC,aC,aC,aC]) rfl).trans ((aQ (ec R)).trans ((aQ L).trans ((aQ X).trans (c8 Z)))))) rfl
end
section
variable {n:Nat}{E:List (List Int)}{d:D}
theorem De(X:n<=14)(w:WebOk n E):fc [aD n E]=if n=0\/(so n E).length=n then a_ .non else M.raise (.exc "NotJoined" []):=by
 have Y:=vM (iM (e:=aq bE (ae (mV 0) aw)) (ρ:=[ar (aD n E)]) ((bP rfl).trans (t7 X w)));have W:(vQ n (aX n E)).length=(heads n (aX n E)).length:=by unfold vQ;rw[JN]
 rw[W]at Y;have Z:dj pU (bI bR (aR (aq bE (ae (mV 0) aw)))) (mK (.int 1)) [ar (aD n E)]=a_ (decide (1<((heads n (aX n E)).length:Int))):=bO Y (y:=.int 1) rfl rfl;by_cases hj:n=0\/(so n E).length=n
 ·rw[if_pos hj];have:(heads n (aX n E)).length<=1:=by
   by_cases h0:n=0
   ·subst h0;exact Kk _
   ·exact yF w (by omega) (hj.resolve_left h0)
  exact iN ((cW Z).trans (if_neg (by rw[KI];omega))) rfl
 ·rw[if_neg hj];have:=qv w (by omega) (λz=>hj (.inr z));exact jI ((cW Z).trans ((if_pos (JT (by omega))).trans rfl))
theorem vR(Y:n<=14)(w:WebOk n E)(W:n=0\/(so n E).length=n):fB [aD n E]=a_ (ia n E):=by
 have hd:=iM (e:=aq bD (ae (mV 0) aw)) (ρ:=eI n E [aC]) ((bP rfl).trans (Bp Y w));rw[Bx]at hd;have Z:=yG (l:=dl n E) (e:=mV 3) (ρ:=eI n E [ar (.fz ((dl n E).map D.int))]) rfl (by rw[oC];omega);have R:bI cz (aR (bI bH (mV 3))) (eI n E [ar (.fz ((dl n E).map D.int))])=a_ (tupI (sortI (dl n E))):=(dz Z).trans (lU (by rw[JN,(sortI_perm _).length_eq,oC];unfold lim;omega));have t1:=bO R (y:=tupI [1,1,1,3]) (e2:=mK (.tup [.int 1,.int 1,.int 1,.int 3])) rfl Dd;have em:((dl n E).filter λ_=>b').map (λx:Int=>D.bl (decide (x>2)))=((dl n E).map λx=>decide (x>2)).map D.bl:=by rw[bW,Kf];rfl
 have X:=tY (α:=Int) (l:=dl n E) (mk:=D.int) (f:=λx:Int=>D.bl (decide (x>2))) (mi:=cw (mV 3)) (g:=gN 0) (t:=hV) (m:=hX) (js:=[aC]) (ρ:=eI n E [ar (.fz ((dl n E).map D.int))]) (λρ=>∃x,ρ=[x]) (λ_=>b') rfl (by rw[oC];unfold lim;omega) ⟨aC,rfl⟩
  (λx hx ρ ⟨y,hρ⟩=>by subst hρ;exact⟨[ar (.int x)],rfl,⟨_,rfl⟩,rfl,λ_=>(bz (x:=.int x) (y:=.int 2) rfl rfl).trans rfl⟩) (by rw[em];exact rE _)
 rw[em]at X;have t2:bV (bI tG (aR (rq (bp (cw (mV 3)) (gN 0) hV hX [aC])))) (eI n E [ar (.fz ((dl n E).map D.int))])=a_ ((dl n E).any λx=>decide (x>2)):=kX ((dz X).trans (AW.trans (by rw[M6];rfl)));have U:bI bR (mV 2) (eI n E [ar (.fz ((dl n E).map D.int))])=a_ (.int E.length):=(jN (us:=E.map tupI) rfl).trans (by rw[JN]);have t3:iD (S3.bT (mV 2)) (dj fJ (bI bR (mV 2)) (mV 1)) (eI n E [ar (.fz ((dl n E).map D.int))])=a_ (decide (E≠[]/\E.length=n)):=by
  show(S3.bT (mV 2) _>>=_)=_;rw[show S3.bT (mV 2) (eI n E [ar (.fz ((dl n E).map D.int))])=a_ (!(E.map tupI).isEmpty)from rfl,aj];have S:dj fJ (bI bR (mV 2)) (mV 1) (eI n E [ar (.fz ((dl n E).map D.int))])=a_ (decide ((E.length:Int)=n)):=bO U (y:=.int n) rfl A2;cases E with
  |nil=>exact(if_neg (by decide)).trans (by rw[J8 (λz=>z.1 rfl)])
  |cons t T=>
   refine(if_pos rfl).trans (S.trans ?_);congr 1;exact Ls.mpr ⟨λz=>⟨by simp,by omega⟩,λz=>by omega⟩
 have hs:vA [ar (aD n E),aC,aC,aC]=aE (gx (dj fJ (bI cz (aR (bI bH (mV 3)))) (mK (.tup [.int 1,.int 1,.int 1,.int 3]))) (bB (mK (.tup [.str "stays",.int 3]))) cV) (aE (gx (bV (bI tG (aR (rq (bp (cw (mV 3)) (gN 0) hV hX [aC]))))) (bB (mK (.tup [.str "grows"]))) cV) (aE (gx (iD (S3.bT (mV 2)) (dj fJ (bI bR (mV 2)) (mV 1))) (bB (i9 (ae (mK (.str "stays")) (ae (mV 1) aw)))) cV) (bB (i9 (ae (mK (.str "gone")) (ae (mV 1) aw)))))) (eI n E [ar (.fz ((dl n E).map D.int))]):=
  (aQ (oi (iM ((bP rfl).trans (by rw[De Y w,if_pos W]))))).trans ((aQ (ρ':=eI n E [aC]) rfl).trans (aQ (ec hd)))
 refine iN (o:=.ret (ia n E)) (hs.trans ?_) rfl;unfold ia;by_cases h1:sortI (dl n E)=[1,1,1,3]
 ·rw[if_pos h1];exact dX ((cW t1).trans ((if_pos (JT h1)).trans rfl))
 ·rw[if_neg h1];refine(aQ (jQ (t1.trans (by rw[J8 h1])))).trans ?_;by_cases h2:(dl n E).any (λx=>decide (x>2))=b'
  ·rw[if_pos h2];exact dX ((cW t2).trans ((if_pos h2).trans rfl))
  ·rw[if_neg h2];refine(aQ ((cW t2).trans (if_neg h2))).trans ?_;by_cases h3:E≠[]/\E.length=n
   ·rw[if_pos h3];exact dX ((cW t3).trans ((if_pos (JT h3)).trans (c8 (By rfl))))
   ·rw[if_neg h3];exact(aQ (jQ (t3.trans (by rw[J8 h3])))).trans (c8 (By rfl))
end
theorem yH{Z t:Int}:dh [.int t,.int Z]=if 0<=t/\t<=Z then a_ .non else M.raise (.exc "NoNumber" []):=by
 unfold dh gR mR;simp! only[nV,rq,DH,CL,CM,wF,aR,j9,bT,aj,rJ (show B1 (.int t)from rfl),rz,iT,rF,BU,nJ];by_cases h1:0<=t
 ·by_cases h2:t<=Z
  ·simp[h1,h2,z6,G_,G',bp,j8,pa,u',eb,qs,oo,t_,u0,outD,xO,mV,mK,i8,IW,CA,HM,aw,ae,i9,cX,bb,aq,bI,aN,rf,oN,oS,BY,Fc,tq,Ac,xZ,bV,dj,j6,rh,eQ,iD,uy,eM,oR,rj,cw,Fd,gN,Fe,cV,aE,oU,bB,gx,bS,nQ,vh,rk,du,bc,dN,kS,k_,r7,D_,h_,if_true,if_false,u2,AJ,AK,AL,AM,AN,AO,AQ,AR,AS,nV,rq,DH,CL,CM,wF,aR,j9,bT,aj,iT]
  ·simp[h1,h2,z6,G_,G',bp,j8,pa,u',eb,qs,oo,t_,u0,outD,xO,mV,mK,i8,IW,CA,HM,aw,ae,i9,cX,bb,aq,bI,aN,rf,oN,oS,BY,Fc,tq,Ac,xZ,bV,dj,j6,rh,eQ,iD,uy,eM,oR,rj,cw,Fd,gN,Fe,cV,aE,oU,bB,gx,bS,nQ,vh,rk,du,bc,dN,kS,k_,r7,D_,h_,if_true,if_false,u2,AJ,AK,AL,AM,AN,AO,AQ,AR,AS,nV,rq,DH,CL,CM,wF,aR,j9,bT,aj,iT];rfl
 ·simp[h1,z6,G_,G',bp,j8,pa,u',eb,qs,oo,t_,u0,outD,xO,mV,mK,i8,IW,CA,HM,aw,ae,i9,cX,bb,aq,bI,aN,rf,oN,oS,BY,Fc,tq,Ac,xZ,bV,dj,j6,rh,eQ,iD,uy,eM,oR,rj,cw,Fd,gN,Fe,cV,aE,oU,bB,gx,bS,nQ,vh,rk,du,bc,dN,kS,k_,r7,D_,h_,if_true,if_false,u2,AJ,AK,AL,AM,AN,AO,AQ,AR,AS,nV,rq,DH,CL,CM,wF,aR,j9,bT,aj,iT];rfl
theorem FT(E:List (List Int)):(bu E.length).filter (Jf E∘tupI)=ay E:=by unfold bu ay;rw[List.filter_flatMap];congr 1;funext a;unfold iO kZ;rw[M9];congr 1
theorem gL{E:List (List Int)}(Z:E.length<=7):WebOk E.length (ay E):=WebOk.of_sub Z (by rw[<-FT];exact List.filter_sublist)
def vS:Nat->Nat->List (List Int)->M D
 |0,n,E=>a_ (aD n E)
 |k+1,n,E=>if 7<E.length then M.raise (great E.length)else vS k E.length (ay E)
theorem qw{its:List D}{w0 t0:Option D}:∀(items:List D) (n:Nat) (E:List (List Int)) (x:Option D),n<=14->WebOk n E->((fH ⟨its,.none⟩ (gN 3) cC items [w0,t0,ar (aD n E),x]>>=λo=>xO o (bB (mV 2)))>>=outD)=vS items.length n E
 |[],n,E,x,hn,w=>by unfold fH;rw[cn];rfl
 | d::ds,n,E,x,hn,w=>by
  unfold fH;rw[cn,aj];show((((cC [w0,t0,ar (aD n E),ar d])>>=_)>>=_)>>=outD)=_;rw[show vS (d::ds).length n E=if 7<E.length then M.raise (great E.length)else vS ds.length E.length (ay E)from rfl];by_cases h:7<E.length
  ·have Z:eh [aD n E]=M.raise (great E.length):=by
    refine jI ?_;unfold jH;exact vC (AX (Jp ((bP rfl).trans (by rw[DN hn w,if_pos h]))))
   rw[show cC [w0,t0,ar (aD n E),ar d]=M.raise (great E.length)from yx (Jp ((bP rfl).trans Z)),if_pos h];rfl
  ·rw[show cC [w0,t0,ar (aD n E),ar d]=a_ (.nx [w0,t0,ar (aD E.length (ay E)),ar d])from ec (iM ((bP rfl).trans (DS hn w (by omega)))),if_neg h,aj];exact qw ds E.length (ay E) (ar d) (by omega) (gL (by omega))
theorem k9{n t:Nat}{E:List (List Int)}(Y:n<=14)(w:WebOk n E)(W:t<=6):aP [aD n E,.int t]=vS t n E:=by
 have hw:kY (aD n E)=true:=rN (by omega) (by omega) w;have h0:bN [aD n E]=a_ .non:=by rw[vH vI (rO w),if_pos hw]
 have Z:dh [.int t,.int 6]=a_ .non:=by rw[yH,if_pos ⟨by omega,by omega⟩]
 have X:oR (mV 1) [ar (aD n E),ar (.int t),ar (aD n E),aC]=a_ ⟨bg 0 t,.none⟩:=by have:=(oh (m:=mV 1) (ρ:=[ar (aD n E),ar (.int t),ar (aD n E),aC]) (x:=.int t) rfl).trans (AV (by omega));rw[Ko]at this;exact this
 unfold aP mR;rw[if_pos (show[aD n E,D.int t].length=2 from rfl)];show(fP [ar (aD n E),ar (.int t),aC,aC]>>=outD)=_;unfold fP;rw[aQ (oi (iM ((bP rfl).trans h0))),aQ (oi (iM ((call2 rfl rfl).trans Z))),aQ (ec (x:=aD n E) rfl)];have:=qw (its:=bg 0 t) (w0:=ar (aD n E)) (t0:=ar (.int t)) (bg 0 t) n E aC Y w;rw[show(bg 0 t).length=t by unfold bg;simp]at this;rw[<-this];show((j8 _ _ _ _>>=_)>>=outD)=_;unfold j8;rw[show([ar (aD n E),ar (D.int t),aC,aC]:aA).set 2 (ar (aD n E))=[ar (aD n E),ar (D.int t),ar (aD n E),aC]from rfl,X];rfl
section
variable {n:Nat}{E:List (List Int)}
def mM(n:Nat)(E:List (List Int)):Prop:=∀C:Int->Prop,(∀a b,[a,b]∈E->(C a↔C b))->∀p q:Int,0<=p->p<n->0<=q->q<n->(C p↔C q)
theorem lb(l:Lab n E E (aX n E)){p:Int}(Y:0<=p)(Z:p<n):(gI (aX n E) p).toNat∈heads n (aX n E):=by have X:=l.rg p Y Z;refine Ks.mpr ⟨J2.mpr (by omega),JT ?_⟩;rw[show(((gI (aX n E) p).toNat:Nat):Int)=gI (aX n E) p by omega];exact l.idm p Y Z
theorem Df(w:WebOk n E)(h:(heads n (aX n E)).length<2):mM n E:=λC S p q Y T W X=>by
 have l:=gK w;rw[l.cls C S p Y T,l.cls C S q W X];have U:=lb l Y T;have Z:=lb l W X;have:=l.rg p Y T;have:=l.rg q W X
 match hl:heads n (aX n E),h,U,Z with
 |[x],_,U,Z=>
  have e1:=Kg.mp U;have e2:=Kg.mp Z;rw[show gI (aX n E) p=gI (aX n E) q by omega]
theorem xj(w:WebOk n E)(h:mM n E):(heads n (aX n E)).length<2:=by
 have l:=gK w;have key:∀p∈heads n (aX n E),∀q∈heads n (aX n E),p=q:=λp S q R=>by obtain⟨T,X⟩:=Ks.mp S;obtain⟨W,U⟩:=Ks.mp R;have T:=J2.mp T;have W:=J2.mp W;have X:=Kd X;have U:=Kd U;have:=(h (λx=>gI (aX n E) x=gI (aX n E) p) (λa b Y=>by rw[l.tie a b Y]) p q (by omega) (by omega) (by omega) (by omega)).mp rfl;omega
 have Z:(heads n (aX n E)).Nodup:=List.nodup_range.filter _
 match hl:heads n (aX n E),Z,key with
 |[],_,_=>exact Nat.zero_lt_succ _
 |[x],_,_=>exact LH _
 |x::y::r,Z,key=>
  have:=key x (.head _) y (.tail _ (.head _));rw[this]at Z;exact absurd (.head _) (Kz.mp Z).1
theorem yI(w:WebOk n E)(Z:1<=n):1<=(heads n (aX n E)).length:=List.length_pos_of_mem (lb (gK w) (p:=0) (by omega) (by omega))
theorem vT{L:List Int}{a b:Int}(U:L.length=n):(heads n L).length<=(heads n (eo L [a,b])).length+1:=by
 have X:(heads n L).Nodup:=List.nodup_range.filter _;refine ou (m:=(if gI L b>gI L a then gI L b else gI L a).toNat::heads n (eo L [a,b])) X λp W=>?_;obtain⟨Y,Z⟩:=Ks.mp W;have Y:=J2.mp Y;have Z:=Kd Z;by_cases e:(p:Int)=(if gI L b>gI L a then gI L b else gI L a)
 ·exact J5.mpr (.inl (by omega))
 ·refine J5.mpr (.inr (Ks.mpr ⟨J2.mpr Y,JT ?_⟩));unfold eo;rw[Bv (by omega) (by omega),Z,if_neg e]
theorem yJ{L:List Int}{a b:Int}:(eo L [a,b]).length=L.length:=by unfold eo;rw[JN]
theorem yK(Z:∀t∈E,∃a b:Int,t=[a,b]):∀L:List Int,L.length=n->(heads n L).length<=(heads n (E.foldl eo L)).length+E.length:=by
 induction E with
 |nil=>intro L _;exact JQ _
 |cons t E ih=>
  intro L Y;obtain⟨a,b,rfl⟩:=Z t (.head _);have U:=vT (a:=a) (b:=b) Y;have W:=ih (λt X=>Z t (.tail _ X)) (eo L [a,b]) (by rw[yJ];exact Y);rw[List.foldl_cons,Ki];omega
theorem yL:(heads n (vP n)).length=n:=by unfold heads;rw[List.filter_eq_self.mpr λp Z=>JT ?_,J4];have:=J2.mp Z;unfold gI;rw[JS,Km,K6 (by omega)];show((_:Nat):Int)=_;omega
theorem qx(w:WebOk n E)(h:mM n E):n<=E.length+1:=by have X:=xj w h;have Z:=yK (n:=n) (λt Y=>by obtain⟨a,b,e,_⟩:=w.el t Y;exact⟨a,b,e⟩) (vP n) (by unfold vP;rw[JN,J4]);rw[yL]at Z;have:(heads n (aX n E)).length=(heads n (E.foldl eo (vP n))).length:=rfl;omega
theorem xk(w:WebOk n E)(h:mM n E)(Y:2<=n){p:Nat}(X:p<n):1<=aM E p:=by
 refine Nat.pos_of_ne_zero λz=>?_;have z:=Mr.mp z;have key:∀a b,[a,b]∈E->(a=(p:Int)↔b=(p:Int)):=λa b Z=>by
  have:=z _ Z;rw[ju]at this;simp only[decide_eq_true_eq,not_or]at this;constructor
  ·intro e;exact absurd e.symm this.1
  ·intro e;exact absurd e.symm this.2
 have q:=h (λx=>x=(p:Int)) key;by_cases e:p=0
 ·have:=(q 0 1 (by omega) (by omega) (by omega) (by omega)).mp (by omega);omega
 ·have:=(q p 0 (by omega) (by omega) (by omega) (by omega)).mp rfl;omega
theorem t8{a b:Nat}(Z:a<b)(X:b<E.length)(Y:bQ (E.getD a []) (E.getD b [])=b'):[(a:Int),(b:Int)]∈ay E:=by unfold ay;refine M0.mpr ⟨a,J2.mpr (by omega),?_⟩;unfold kZ;exact Kl.mpr ⟨b,Ks.mpr ⟨by rw[Ln];omega,Y⟩,rfl⟩
theorem lg(w:WebOk n E){i:Nat}(Z:i<E.length):∃a b:Int,E.getD i []=[a,b]/\0<=a/\a<b/\b<n:=w.el _ (by rw[JS,JP Z];exact Lr Z)
theorem DU{t:List Int}(h:t∈E):∃i,i<E.length/\E.getD i []=t:=by obtain⟨i,Z,e⟩:=List.getElem_of_mem h;exact⟨i,Z,by rw[JS,JP Z];exact e⟩
theorem share(w:WebOk n E){C:Int->Prop}(S:∀a b,[a,b]∈ay E->(C a↔C b)){i j:Nat}(T:i<E.length)(Y:j<E.length){x:Int}(Z:x∈E.getD i [])(W:x∈E.getD j []):C i↔C j:=by
 obtain⟨a,b,e1,_,U,_⟩:=lg w T;obtain⟨c,d,e2,_,X,_⟩:=lg w Y;have hm:bQ (E.getD i []) (E.getD j [])=b'/\bQ (E.getD j []) (E.getD i [])=true:=by rw[e1]at Z⊢;rw[e2]at W⊢;rw[eH U X,eH X U,KI,KI];simp only[hO,hh,or_false]at Z W;omega
 rcases Nat.lt_trichotomy i j with h|h|h
 ·exact S _ _ (t8 h Y hm.1)
 ·rw[h]
 ·exact(S _ _ (t8 h T hm.2)).symm
theorem l6(w:WebOk n E)(h:mM n E):mM E.length (ay E):=λC W p q K G J N=>by
 have key:∀i j:Nat,i<E.length->j<E.length->C i->C j:=λi j S T ci=>by
  obtain⟨a,b,e1,Q,L,I⟩:=lg w S;obtain⟨c,d,e2,P,F,H⟩:=lg w T;have O:=h (λx=>∃k,k<E.length/\x∈E.getD k []/\C k) (λu v U=>by
   obtain⟨m,hm,em⟩:=DU U;constructor
   ·rintro⟨k,Y,X,Z⟩;exact⟨m,hm,by rw[em];exact .tail _ (.head _),(share w W Y hm X (by rw[em];exact .head _)).mp Z⟩
   ·rintro⟨k,Y,X,Z⟩;exact⟨m,hm,by rw[em];exact .head _,(share w W Y hm X (by rw[em];exact .tail _ (.head _))).mp Z⟩) a c Q (by omega) P (by omega)
  obtain⟨k,Y,X,Z⟩:=O.mp ⟨i,S,by rw[e1];exact .head _,ci⟩;exact(share w W Y T X (by rw[e2];exact .head _)).mp Z
 have R:p=((p.toNat:Nat):Int):=by omega
 have eq:q=((q.toNat:Nat):Int):=by omega
 rw[R,eq];exact⟨key _ _ (by omega) (by omega),key _ _ (by omega) (by omega)⟩
theorem xm{f g:Nat->Nat}:∀{m:Nat},(∀i,i<m->f i<=g i)->sm m f<=sm m g
 |0,_=>JQ _
 |m+1,h=>by
  rw[cQ,cQ];have:=xm (m:=m) λi Z=>h i (by omega);have:=h m (by omega);omega
theorem DV{f g:Nat->Nat}{m i:Nat}(h:∀i,i<m->f i<=g i)(X:i<m)(hs:f i<g i):sm m f<sm m g:=by
 induction m with
 |zero=>omega
 | succ m ih=>
  rw[cQ,cQ];have Y:=h m (by omega);by_cases e:i=m
  ·subst e;have:=xm (m:=i) λj Z=>h j (by omega);omega
  ·have:=ih (λj Z=>h j (by omega)) (by omega);omega
theorem lh(c:Nat):∀m,sm m (λ_=>c)=m*c
 |0=>by rw[mZ,Nat.zero_mul]
 |m+1=>by rw[cQ,lh c m,LP]
theorem BA(d:Nat):d<=kg d+1:=by
 unfold kg
 match d with
 |0=>omega
 |1=>omega
 | d+2=>
  have:(d+2)*(d+2 - 1) / 2 ≥ (d+2)*1 / 2+d / 2:=by
   have e:(d+2)*(d+2 - 1)=(d+2)*(d+1):=rfl;rw[e,Nat.mul_succ,N4];have:d*d+2*d+(d+2) ≥ d+2+d:=by omega
   omega
  have e:(d+2)*(d+2 - 1)=(d+2)*(d+1):=rfl;rw[e,Nat.mul_succ,N4];omega
theorem Dg{d:Nat}(h:3<=d):d<=kg d:=by unfold kg;obtain⟨k,rfl⟩:∃k,d=k+3:=⟨d - 3,by omega⟩;have e:(k+3)*(k+3 - 1)=(k+3)*(k+2):=rfl;rw[e,Nat.mul_add,N4];omega
theorem gr(w:WebOk n E):(ay E).length=sm n (λp=>kg (aM E p)):=by rw[oz,jv (m5 w)]
theorem iP(w:WebOk n E):sm n (aM E)=2*E.length:=xh E w.el
theorem lj(m:Nat):sm m (λ_=>1)=m:=by rw[lh,Nat.mul_one]
theorem xn(w:WebOk n E):2*E.length<=(ay E).length+n:=by rw[gr w, <-iP w];have h:=xm (f:=aM E) (g:=λp=>kg (aM E p)+1) (m:=n) λi _=>BA _;rw[ef (λp=>kg (aM E p)) (λ_=>1),lj]at h;exact h
theorem xo(w:WebOk n E){p:Nat}(Y:p<n)(Z:3<=aM E p):2*E.length<(ay E).length+n:=by rw[gr w, <-iP w];have h:=DV (f:=aM E) (g:=λp=>kg (aM E p)+1) (m:=n) (λi _=>BA _) Y (Nat.lt_succ_of_le (Dg Z));rw[ef (λp=>kg (aM E p)) (λ_=>1),lj]at h;exact h
theorem jO(w:WebOk n E){i:Nat}(Y:i<E.length):∃u v:Nat,E.getD i []=[(u:Int),(v:Int)]/\u<v/\v<n/\aM (ay E) i+2=aM E u+aM E v:=by obtain⟨a,b,e,Z,ab,bn⟩:=lg w Y;obtain⟨u,rfl⟩:=K2 Z;obtain⟨v,rfl⟩:=K2 (Int.le_trans Z (Int.le_of_lt ab));exact⟨u,v,e,by omega,by omega,Bl (m5 w) Y e⟩
structure Path(n:Nat)(E:List (List Int)):Prop where
 w:WebOk n E
 c:mM n E
 d:∀p,p<n->aM E p<=2
 m:E.length+1=n
theorem t9(w:WebOk n E)(d:∀p,p<n->aM E p<=2){i:Nat}(Y:i<E.length):aM (ay E) i<=2:=by obtain⟨u,v,_,X,Z,e⟩:=jO w Y;have:=d u (by omega);have:=d v Z;omega
theorem FU{d:Nat}(Y:1<=d)(Z:d<=2):kg d+1=d:=by
 match d,Y,Z with
 |1,_,_=>rfl
 |2,_,_=>rfl
theorem Path.step(h:Path n E)(Y:2<=n)(W:n<=7):Path E.length (ay E):=by have hm:=h.m;refine⟨gL (by omega),l6 h.w h.c,λi X=>t9 h.w h.d X,?_⟩;have e:=cI (f:=λp=>kg (aM E p)+1) (g:=aM E) (m:=n) λp Z=>FU (xk h.w h.c Y Z) (h.d p Z);rw[ef (λp=>kg (aM E p)) (λ_=>1),lj,iP h.w, <-gr h.w]at e;omega
theorem ll{k:Nat}(h:E.length<=7):vS (k+1) n E=vS k E.length (ay E):=if_neg (by omega)
theorem ua:∀(k n:Nat) (E:List (List Int)),Path n E->n<=7->k<n->∃T,vS k n E=a_ (aD (n - k) T)/\Path (n - k) T
 |0,n,E,h,h7,hk=>⟨E,rfl,h⟩
 |k+1,n,E,h,h7,hk=>by
  have hm:=h.m;obtain⟨T,e,Z⟩:=ua k E.length (ay E) (h.step (by omega) h7) (by omega) (by omega);rw[show n - (k+1)=E.length - k by omega];exact⟨T,(ll (by omega)).trans e,Z⟩
theorem ub:∀(n:Nat) (E:List (List Int)),Path n E->n<=7->vS n n E=a_ (aD 0 [])
 |0,E,h,_=>by have:=h.m;omega
 | n+1,E,h,h7=>by
  have hm:=h.m;rw[ll (by omega)]
  match n,hm with
  |0,hm=>
   obtain rfl:E=[]:=List.length_eq_zero_iff.mp (by omega);rfl
  |n+1,hm=>
   have:=ub E.length (ay E) (h.step (by omega) h7) (by omega);rw[show E.length=n+1 by omega]at this⊢;exact this
structure Ring(n:Nat)(E:List (List Int)):Prop where
 w:WebOk n E
 c:mM n E
 d:∀p,p<n->aM E p<=2
 m:E.length=n
 pos:1<=n
theorem Ring.two(h:Ring n E){p:Nat}(Z:p<n):aM E p=2:=by have:=h.d p Z;refine J6 λz=>?_;have:=DV (f:=aM E) (g:=λ_=>2) h.d Z (by omega);rw[iP h.w,lh,h.m]at this;omega
theorem Ring.step(h:Ring n E)(W:n<=7):Ring n (ay E):=by
 have hm:=h.m;have hw:=gL (E:=E) (by omega);have Z:=l6 h.w h.c;have hd:∀i,i<E.length->aM (ay E) i<=2:=λi Y=>t9 h.w h.d Y;have e:=cI (f:=λp=>kg (aM E p)) (g:=λ_=>1) (m:=n) λp X=>by show kg (aM E p)=1;rw[h.two X];rfl
 rw[lj, <-gr h.w]at e;rw[hm]at hw Z hd;exact⟨hw,Z,hd,e,h.pos⟩
theorem oE:∀(k:Nat) (n:Nat) (E:List (List Int)),Ring n E->n<=7->∃T,vS k n E=a_ (aD n T)/\Ring n T
 |0,n,E,h,h7=>⟨E,rfl,h⟩
 |k+1,n,E,h,h7=>by
  have hm:=h.m;obtain⟨T,e,Z⟩:=oE k n (ay E) (h.step h7) h7;refine⟨T,(ll (by omega)).trans ?_,Z⟩;rw[hm];exact e
theorem BB{l m:List Int}(h:l.Perm m):l.sum=m.sum:=by
 induction h with
 |nil=>rfl
 |cons x _ ih=>rw[K3,K3,ih]
 |swap x y l=>rw[K3,K3,K3,K3];omega
 |trans _ _ h1 h2=>exact h1.trans h2
theorem Jv:dl 4 E=[((aM E 0:Nat):Int),((aM E 1:Nat):Int),((aM E 2:Nat):Int),((aM E 3:Nat):Int)]:=rfl
theorem Jw(f:Nat->Nat):sm 4 f=f 0+f 1+f 2+f 3:=by rw[cQ,cQ,cQ,cQ,mZ];omega
theorem yM(w:WebOk n E)(c:mM n E)(h:sortI (dl n E)=[1,1,1,3]):E.length=3/\n=4/\Ring 3 (ay E):=by
 have W:(dl n E).Perm [1,1,1,3]:=by rw[<-h];exact(sortI_perm _).symm
 have P:n=4:=by have:=W.length_eq;unfold dl at this;rw[JN,J4]at this;exact this
 subst P;have hs:=BB W;rw[Jv]at W hs;have Z:∀x∈[((aM E 0:Nat):Int),((aM E 1:Nat):Int),((aM E 2:Nat):Int),((aM E 3:Nat):Int)],x=1\/x=3:=λx Q=>by have:=W.mem_iff.mp Q;simp only[hO,hh,or_false]at this;omega
 have L:=Z _ (.head _);have H:=Z _ (.tail _ (.head _));have J:=Z _ (.tail _ (.tail _ (.head _)));have I:=Z _ (.tail _ (.tail _ (.tail _ (.head _))));simp only[List.sum_cons,List.sum_nil]at hs;have hm:=iP w;rw[Jw]at hm;have T:E.length=3:=by omega
 have S:=gr w;rw[Jw]at S;have R:(ay E).length=3:=by
  rw[S];have Y:aM E 0=1\/aM E 0=3:=by omega
  have a1:aM E 1=1\/aM E 1=3:=by omega
  have a2:aM E 2=1\/aM E 2=3:=by omega
  have X:aM E 3=1\/aM E 3=3:=by omega
  have e1:kg 1=0:=rfl;have G:kg 3=3:=rfl;rcases Y with Y|Y<;>rcases a1 with a1|a1<;>rcases a2 with a2|a2<;>rcases X with X|X<;>rw[Y,a1,a2,X]at hm⊢<;>first|omega|rfl
 have hw:=gL (E:=E) (by omega);have U:=l6 w c;have hd:∀i,i<E.length->aM (ay E) i<=2:=λi O=>by
  obtain⟨u,v,_,N,K,e⟩:=jO w O;have:v=1\/v=2\/v=3:=by omega
  have:u=0\/u=1\/u=2:=by omega
  rcases ‹v=1\/v=2\/v=3› with rfl|rfl|rfl<;>rcases ‹u=0\/u=1\/u=2› with rfl|rfl|rfl<;>omega
 rw[T]at hw U hd;exact⟨T,rfl,hw,U,hd,R,by decide⟩
theorem uc{α:Type}{q:α->Bool}{l:List α}(h:l.countP q=1){s t:α}(hs:s∈l)(U:t∈l)(X:q s=b')(W:q t=b'):s=t:=by
 rw[Lx]at h;have Z:=Ks.mpr ⟨hs,X⟩;have Y:=Ks.mpr ⟨U,W⟩
 match hl:l.filter q,h with
 |[x],_=>
  rw[hl]at Z Y;exact(Kg.mp Z).trans (Kg.mp Y).symm
theorem qy{a b:Int}:cL a [a,b]=true:=by rw[ju];exact JT (.inl rfl)
theorem xp{a b:Int}:cL b [a,b]=true:=by rw[ju];exact JT (.inr rfl)
theorem Hu(w:WebOk n E)(c:mM n E){p:Nat}(G:p<n)(J:3<=aM E p)(I:sortI (dl n E)≠[1,1,1,3]):∃i,i<E.length/\3<=aM (ay E) i:=by
 refine J6 λz=>?_;have Q:∀a b:Nat,[(a:Int),(b:Int)]∈E->aM E a+aM E b<=4:=λa b Z=>by obtain⟨i,L,e⟩:=DU Z;obtain⟨u,v,e2,_,_,hd⟩:=jO w L;rw[e]at e2;have s:=(J3 e2).1;have F:=(J3 (J3 e2).2).1;have:¬ 3<=aM (ay E) i:=λq=>z ⟨i,L,q⟩;rw[show a=u by omega,show b=v by omega];omega
 have nat:∀a b:Int,[a,b]∈E->∃u v:Nat,a=u/\b=v/\u<v/\v<n:=λa b Z=>by obtain⟨A,C,e,h0,W,S⟩:=w.el _ Z;cases e;exact⟨a.toNat,b.toNat,by omega,by omega,by omega,by omega⟩
 obtain⟨t0,X,_⟩:∃t∈E,cL p t=true:=Ms.mp (show 0<E.countP (cL p)from J1 (by decide) J);obtain⟨B,r,rfl,_⟩:=w.el t0 X;have H:2<=n:=by obtain⟨u,v,_,_,W,S⟩:=nat _ _ X;omega
 have pos:∀x,x<n->1<=aM E x:=λx Y=>xk w c H Y;have U:∀x:Nat,([(x:Int),(p:Int)]∈E\/[(p:Int),(x:Int)]∈E)->aM E x=1/\aM E p=3/\x<n/\x≠p:=λx Y=>by
  rcases Y with Y|Y
  ·have:=Q _ _ Y;obtain⟨u,v,e1,e2,W,S⟩:=nat _ _ Y;have:=pos x (by omega);omega
  ·have:=Q _ _ Y;obtain⟨u,v,e1,e2,W,S⟩:=nat _ _ Y;have:=pos x (by omega);omega
 have T:∀(x:Nat) (t:List Int),([(x:Int),(p:Int)]∈E\/[(p:Int),(x:Int)]∈E)->t∈E->cL x t=b'->t=[(x:Int),(p:Int)]\/t=[(p:Int),(x:Int)]:=λx t Y R K=>by
  have W:=(U x Y).1;rcases Y with Y|Y
  ·exact .inl (uc W R Y K qy)
  ·exact .inr (uc W R Y K xp)
 have all:∀x:Nat,x<n->x=p\/[(x:Int),(p:Int)]∈E\/[(p:Int),(x:Int)]∈E:=λx Y=>by
  have:=c (λy=>y=(p:Int)\/∃x:Nat,y=x/\([(x:Int),(p:Int)]∈E\/[(p:Int),(x:Int)]∈E)) (λa b Z=>by
   obtain⟨u,v,rfl,rfl,W,S⟩:=nat _ _ Z;constructor
   ·rintro(e|⟨x,e,Y⟩)
    ·exact .inr ⟨v,rfl,.inr (by rw[e]at Z;exact Z)⟩
    ·have e:u=x:=by omega
     subst e;rcases T u _ Y Z qy with e|e
     ·exact .inl (J3 (J3 e).2).1
     ·have e1:=(J3 e).1;have e2:=(J3 (J3 e).2).1;exact absurd e2 (by omega)
   ·rintro(e|⟨x,e,Y⟩)
    ·exact .inr ⟨u,rfl,.inl (by rw[e]at Z;exact Z)⟩
    ·have e:v=x:=by omega
     subst e;rcases T v _ Y Z xp with e|e
     ·have e1:=(J3 e).1;have e2:=(J3 (J3 e).2).1;exact absurd e1 (by omega)
     ·exact .inl (J3 e).1) p x (by omega) (by omega) (by omega) (by omega)
  rcases this.mp (.inl rfl)with e|⟨y,e,hy⟩
  ·exact .inl (by omega)
  ·have e:x=y:=by omega
   subst e;exact .inr hy
 have N:aM E p=3:=by
  obtain⟨u,v,e1,e2,W,S⟩:=nat _ _ X;by_cases e:u=p
  ·rw[e1,e2,e]at X;exact(U v (.inr X)).2.1
  ·rcases all u (by omega)with q|q
   ·exact absurd q e
   ·exact(U u q).2.1
 have P:∀x,x<n->aM E x=1+(if x=p then 2 else 0):=λx Y=>by
  rcases all x Y with e|e
  ·rw[if_pos e,e,N]
  ·have:=U x e;rw[if_neg this.2.2.2,this.1]
 have hs:=iP w;rw[cI P,ef (λ_=>1),lj,lY,if_pos G]at hs;have hm:E.length=3:=by
  rw[<-N];refine(List.countP_eq_length.mpr λt R=>?_).symm;obtain⟨a,b,rfl,_⟩:=w.el t R;obtain⟨u,v,rfl,rfl,W,S⟩:=nat _ _ R;rcases all u (by omega)with e|e
  ·rw[e];exact qy
  ·rcases T u _ e R qy with q|q
   ·rw[q];exact xp
   ·rw[q];exact qy
 have O:n=4:=by omega
 subst O;refine I (t6 ?_ (by decide));rw[Jv,P 0 (by decide),P 1 (by decide),P 2 (by decide),P 3 (by decide)];have:p=0\/p=1\/p=2\/p=3:=by omega
 rcases this with rfl|rfl|rfl|rfl<;>decide
theorem grows(w:WebOk n E)(c:mM n E){p:Nat}(Y:p<n)(Z:3<=aM E p)(U:sortI (dl n E)≠[1,1,1,3])(S:E.length<=7)(W:(ay E).length<=7)(X:(ay (ay E)).length<=7):E.length<(ay (ay (ay (ay E)))).length:=by obtain⟨i,T,hd⟩:=Hu w c Y Z U;have Q:=qx w c;have a1:=xo w Y Z;have a2:=xo (gL S) T hd;have R:=xn (gL W);have P:=xn (gL X);omega
end
section
variable {n:Nat}{E:List (List Int)}{zs:List Int}
abbrev zi(zs:List Int)(a:Int):Int:=zs.getD a.toNat 0
abbrev cY(zs:List Int)(E:List (List Int)):List (List Int):=dP (E.map (rR zs))
theorem xq(w:WebOk n E):TiesOk n E:=⟨w.el,(m5 w).nd,w.few⟩
theorem m6(Z:zs.Perm (bZ n))(w:WebOk n E):WebOk n (cY zs E):=Bi Z (xq w)
theorem oF(Z:zs.Perm (bZ n)){a b:Int}(W:0<=a)(Y:a<n)(X:0<=b)(U:b<n)(h:zi zs a=zi zs b):a=b:=by have:=ot Z (i:=a.toNat) (j:=b.toNat) (by omega) (by omega) h;omega
theorem ud(Z:zs.Perm (bZ n)){a:Int}(Y:0<=a)(X:a<n):0<=zi zs a/\zi zs a<n:=rQ Z (i:=a.toNat) (by omega)
theorem xr(Y:zs.Perm (bZ n)){a b:Int}(Z:0<=a)(ab:a<b)(X:b<n):rR zs [a,b]=[zi zs a,zi zs b]\/rR zs [a,b]=[zi zs b,zi zs a]:=by
 obtain⟨x,y,e,_,h⟩:=Bh (x:=zi zs a) (y:=zi zs b) λz=>by have:=oF Y Z (by omega) (by omega) X z;omega
 rcases h with⟨rfl,rfl⟩|⟨rfl,rfl⟩
 ·exact .inl e
 ·exact .inr e
theorem FV(Z:zs.Perm (bZ n)){a b p:Int}(W:0<=a)(ab:a<b)(T:b<n)(U:0<=p)(pn:p<n):cL (zi zs p) (rR zs [a,b])=cL p [a,b]:=by
 have Y:zi zs p=zi zs a↔p=a:=⟨oF Z U pn W (by omega),λe=>by rw[e]⟩;have X:zi zs p=zi zs b↔p=b:=⟨oF Z U pn (by omega) T,λe=>by rw[e]⟩;rcases xr Z W ab T with e|e
 ·rw[e,ju,ju,Ls,Y,X]
 ·rw[e,ju,ju,Ls,Y,X];exact Or.comm
theorem rX(Z:zs.Perm (bZ n))(w:WebOk n E){p:Nat}(U:p<n):aM (cY zs E) (zi zs p).toNat=aM E p:=by have W:=ud Z (a:=(p:Int)) (by omega) (by omega);unfold aM;rw[show(((zi zs p).toNat:Nat):Int)=zi zs p by omega,(bL _).countP_eq,M8];refine MR λt X=>?_;obtain⟨a,b,rfl,Y,ab,bn⟩:=w.el t X;show cL (zi zs p) (rR zs [a,b])=b'↔_;rw[FV Z Y ab bn (by omega) (by omega)]
theorem oG(Z:zs.Perm (bZ n)):((dV n).map λp:Nat=>(zi zs p).toNat).Perm (dV n):=by
 have X:zs.length=n:=by rw[Z.length_eq];unfold bZ;simp
 have e:((dV n).map λp:Nat=>(zi zs p).toNat)=zs.map Int.toNat:=by refine List.ext_getElem (by rw[JN,JN,J4,X]) λi W Y=>?_;rw[JN]at Y;rw[Lq,Lq,List.getElem_range];show(zs.getD ((i:Int)).toNat 0).toNat=_;rw[Ko,JS,JP Y];rfl
 rw[e];refine(Z.map _).trans ?_;unfold bZ;rw[Kf,show(Int.toNat∘λi:Nat=>(0:Int)+(i:Int))=id from funext λi=>by show((0:Int)+(i:Int)).toNat=i;omega,N1]
theorem Hv(Z:zs.Perm (bZ n))(f:Nat->Nat):sm n f=sm n (λp=>f (zi zs p).toNat):=by unfold sm;have:=(oG Z).map f;rw[Kf]at this;exact this.sum_nat.symm
theorem Dh(Z:zs.Perm (bZ n))(w:WebOk n E):(ay (cY zs E)).length=(ay E).length:=by rw[gr (m6 Z w),gr w,Hv Z];exact cI λp Y=>by rw[rX Z w Y]
theorem vU:(cY zs E).length=E.length:=by rw[(bL _).length_eq,JN]
theorem Hw(Z:zs.Perm (bZ n))(w:WebOk n E):(dl n (cY zs E)).Perm (dl n E):=by unfold dl;have:=(oG Z).map λp=>((aM (cY zs E) p:Nat):Int);rw[Kf]at this;refine this.symm.trans (.of_eq (K7 λp Y=>?_));show((aM (cY zs E) (zi zs p).toNat:Nat):Int)=_;rw[rX Z w (J2.mp Y)]
def BC(E:List (List Int))(t:List Int):Nat:=kg (aM E (t.getD 0 0).toNat+aM E (t.getD 1 0).toNat - 2)
theorem BD(w:WebOk n E):(ay (ay E)).length=(E.map (BC E)).sum:=by rw[oz,jv (yD E)];unfold sm;congr 1;refine List.ext_getElem (by rw[JN,JN,J4]) λi Y Z=>?_;rw[JN]at Z;rw[Lq,Lq,List.getElem_range];obtain⟨u,v,e,_,_,hd⟩:=jO w Z;rw[JS,JP Z]at e;have e:E[i]=[(u:Int),(v:Int)]:=e;rw[e];unfold BC;show kg _=kg (aM E ((u:Int)).toNat+aM E ((v:Int)).toNat - 2);rw[Ko,Ko, <-hd,u3]
theorem BE(Z:zs.Perm (bZ n))(w:WebOk n E):(ay (ay (cY zs E))).length=(ay (ay E)).length:=by
 rw[BD (m6 Z w),BD w];have h:=((bL (E.map (rR zs))).map (BC (cY zs E))).sum_nat;rw[Kf]at h;refine h.trans (MS List.sum (K7 λt U=>?_));obtain⟨a,b,rfl,W,ab,bn⟩:=w.el t U;have X:=rX Z w (p:=a.toNat) (by omega);have Y:=rX Z w (p:=b.toNat) (by omega);rw[show((a.toNat:Nat):Int)=a by omega]at X;rw[show((b.toNat:Nat):Int)=b by omega]at Y;show BC (cY zs E) (rR zs [a,b])=kg (aM E a.toNat+aM E b.toNat - 2);rcases xr Z W ab bn with e|e
 ·rw[e];show kg (aM (cY zs E) (zi zs a).toNat+aM (cY zs E) (zi zs b).toNat - 2)=_;rw[X,Y]
 ·rw[e];show kg (aM (cY zs E) (zi zs b).toNat+aM (cY zs E) (zi zs a).toNat - 2)=_;rw[X,Y,Nat.add_comm]
theorem BF{l m:List Nat}{R:Nat->Nat->Prop}(X:l.Nodup)(W:∀x∈l,∃y∈m,R x y)(U:∀x∈l,∀x'∈l,∀y,R x y->R x' y->x=x'):l.length<=m.length:=by
 have h:∀x,∃y,x∈l->y∈m/\R x y:=λx=>by
  by_cases Z:x∈l
  ·obtain⟨y,Y,r⟩:=W x Z;exact⟨y,λ_=>⟨Y,r⟩⟩
  ·exact⟨0,λz=>absurd z Z⟩
 have h:=Classical.axiomOfChoice h;obtain⟨f,hf⟩:=h;have:=ou (l:=l.map f) (m:=m) (MQ.mpr (LQ (λ{x y} Z Y hne e=>hne (U x Z y Y (f x) (hf x Z).2 (by rw[e];exact(hf y Y).2))) X)) λy Y=>by obtain⟨x,Z,rfl⟩:=Kl.mp Y;exact(hf x Z).1
 rw[JN]at this;exact this
theorem FW(Y:zs.Perm (bZ n))(w:WebOk n E){a b:Int}(h:[a,b]∈E):([zi zs a,zi zs b]∈cY zs E\/[zi zs b,zi zs a]∈cY zs E):=by
 obtain⟨W,X,e,Z,ab,bn⟩:=w.el _ h;cases e;have hm:rR zs [a,b]∈cY zs E:=(bL _).mem_iff.mpr (Kl.mpr ⟨_,h,rfl⟩);rcases xr Y Z ab bn with e|e
 ·rw[e]at hm;exact .inl hm
 ·rw[e]at hm;exact .inr hm
theorem yN(X:zs.Perm (bZ n))(w:WebOk n E){c d:Int}(h:[c,d]∈cY zs E):∃a b,[a,b]∈E/\0<=a/\a<b/\b<n/\(c=zi zs a/\d=zi zs b\/c=zi zs b/\d=zi zs a):=by
 obtain⟨t,Z,e⟩:=Kl.mp ((bL _).mem_iff.mp h);obtain⟨a,b,rfl,Y,ab,bn⟩:=w.el t Z;refine⟨a,b,Z,Y,ab,bn,?_⟩;rcases xr X Y ab bn with e2|e2
 ·rw[e2]at e;cases e;exact .inl ⟨rfl,rfl⟩
 ·rw[e2]at e;cases e;exact .inr ⟨rfl,rfl⟩
theorem FX(Y:zs.Perm (bZ n)){c:Nat}(X:c<n):∃p:Nat,p<n/\zi zs p=c:=by have:c∈(dV n).map λp:Nat=>(zi zs p).toNat:=(oG Y).mem_iff.mpr (J2.mpr X);obtain⟨p,Z,e⟩:=Kl.mp this;have Z:=J2.mp Z;have:=ud Y (a:=(p:Int)) (by omega) (by omega);exact⟨p,Z,by omega⟩
theorem ue(X:zs.Perm (bZ n))(w:WebOk n E):(heads n (aX n (cY zs E))).length=(heads n (aX n E)).length:=by
 have G:=m6 X w;have l:=gK w;have T:=gK G;have hd:∀{E:List (List Int)} {p:Nat},p∈heads n (aX n E)->p<n/\gI (aX n E) p=p:=λQ=>by obtain⟨L,U⟩:=Ks.mp Q;exact⟨J2.mp L,Kd U⟩
 refine Nat.le_antisymm ?_ ?_
 ·refine BF (R:=λx y=>∃p:Nat,p<n/\zi zs p=x/\gI (aX n E) p=y) (List.nodup_range.filter _) (λx W=>?_) λx W H Y y=>?_
  ·obtain⟨p,Q,e⟩:=FX X (hd W).1;have:=l.rg p (by omega) (by omega);exact⟨_,lb l (p:=(p:Int)) (by omega) (by omega),p,Q,e,by omega⟩
  ·rintro⟨p,Q,e,f⟩ ⟨p',hp',e',N⟩;have key:=l.cls (λu=>0<=u/\u<n->gI (aX n (cY zs E)) (zi zs u)=gI (aX n (cY zs E)) (zi zs p)) (λa b Z=>by
    obtain⟨B,F,e,S,ab,bn⟩:=w.el _ Z;cases e;have:gI (aX n (cY zs E)) (zi zs a)=gI (aX n (cY zs E)) (zi zs b):=by
     rcases FW X w Z with t|t
     ·exact T.tie _ _ t
     ·exact(T.tie _ _ t).symm
    rw[this];exact⟨λh _=>h ⟨S,by omega⟩,λh _=>h ⟨by omega,bn⟩⟩)
   have k1:=(key p (by omega) (by omega)).mp λ_=>rfl;rw[f, <-N]at k1;have k2:=(key p' (by omega) (by omega)).mpr k1 ⟨by omega,by omega⟩;rw[e,e',(hd W).2,(hd Y).2]at k2;omega
 ·refine BF (R:=λx y=>gI (aX n (cY zs E)) (zi zs x)=y) (List.nodup_range.filter _) (λx W=>?_) λx W H Y y=>?_
  ·have L:=(hd W).1;have U:=ud X (a:=(x:Int)) (by omega) (by omega);have:=T.rg _ U.1 U.2;exact⟨_,lb T U.1 U.2,by omega⟩
  ·intro f N;have C:=(hd W).1;have A:=(hd Y).1;have key:=T.cls (λc=>∃u:Int,0<=u/\u<n/\c=zi zs u/\gI (aX n E) u=gI (aX n E) x) (λc d O=>by
    obtain⟨a,b,Z,S,ab,bn,h⟩:=yN X w O;have t:=l.tie a b Z;have ka:∀{v:Int},0<=v->v<n->((∃u:Int,0<=u/\u<n/\zi zs v=zi zs u/\gI (aX n E) u=gI (aX n E) x)↔gI (aX n E) v=gI (aX n E) x):=λv0 I=>⟨λ⟨u,P,un,e,q⟩=>by rw[oF X v0 I P un e];exact q,λq=>⟨_,v0,I,rfl,q⟩⟩;rcases h with⟨rfl,rfl⟩|⟨rfl,rfl⟩
    ·rw[ka S (by omega),ka (by omega) bn,t]
    ·rw[ka S (by omega),ka (by omega) bn,t])
   have K:=ud X (a:=(x:Int)) (by omega) (by omega);have J:=ud X (a:=(H:Int)) (by omega) (by omega);have k1:=(key _ K.1 K.2).mp ⟨x,by omega,by omega,rfl,rfl⟩;rw[f, <-N]at k1;obtain⟨u,P,un,e,q⟩:=(key _ J.1 J.2).mpr k1;have:=oF X (by omega) (by omega) P un e;rw[<-this,(hd W).2,(hd Y).2]at q;omega
end
section
variable {n:Nat}{E:List (List Int)}
def DW(n:Nat)(E:List (List Int)):List Int:=[(n:Int),(E.length:Int),((ay E).length:Int),((ay (ay E)).length:Int)]
def gY(E:List (List Int))(t:List Int):Nat:=aM E (t.getD 0 0).toNat+aM E (t.getD 1 0).toNat - 2
theorem DX{a:Int}(Y:0<=a)(Z:a<n):bx (.fz ((dl n E).map D.int)) (.int a)=a_ (.int ((aM E a.toNat:Nat):Int)):=by rw[gX Y (by rw[oC];exact Z)];unfold dl;rw[JS,Km,K6 (by omega)];rfl
theorem BG(Z:n<=14)(w:WebOk n E):bD [aD n E]=a_ (.fz ((dl n E).map D.int)):=(Bp Z w).trans (by rw[Bx])
theorem Di{a b:Int}(Z:0<=a)(Y:0<=b)(h:[a,b]∈E):1<=aM E a.toNat/\1<=aM E b.toNat:=by
 constructor
 ·refine Ms.mpr ⟨_,h,?_⟩;rw[show((a.toNat:Nat):Int)=a by omega];exact qy
 ·refine Ms.mpr ⟨_,h,?_⟩;rw[show((b.toNat:Nat):Int)=b by omega];exact xp
theorem uf(f:List Int->Nat):∀l:List (List Int),(l.map λt=>((f t:Nat):Int)).sum=(((l.map f).sum:Nat):Int)
 |[]=>rfl
 |t::l=>by rw[Ke,K3,uf f l,Ke,K3];omega
theorem rY(Q:n<=14)(w:WebOk n E):bF [aD n E]=a_ (.fz ((DW n E).map D.int)):=by
 have hf:=w.few;have hd:=iM (e:=aq bD (ae (mV 0) aw)) (ρ:=[ar (aD n E),aC,aC]) ((bP rfl).trans (BG Q w));have P:∀t:List Int,gY E t<=100:=λt=>by have Y:aM E (t.getD 0 0).toNat<=E.length:=Mc;have T:aM E (t.getD 1 0).toNat<=E.length:=Mc;unfold gY;omega
 have e1:(E.filter λ_=>b').map (λt=>D.int ((gY E t:Nat):Int))=E.map λt=>D.int ((gY E t:Nat):Int):=by rw[bW]
 have Y:=tX (α:=List Int) (l:=E) (mk:=tupI) (f:=λt=>D.int ((gY E t:Nat):Int)) (mi:=cw (aN bx (mV 0) (mK (.int 1)))) (g:=du 2 (bc (gN 0) (bc (gN 1) dN))) (t:=dG) (m:=dH) (js:=[aC,aC,ar 1]) (ρ:=[ar (aD n E),ar (.fz ((dl n E).map D.int)),aC]) (λρ=>∃x y,ρ=[x,y,ar (.fz ((dl n E).map D.int))]) (λ_=>b') rfl (by unfold lim;omega) ⟨aC,aC,rfl⟩
  (λt S ρ Z=>by obtain⟨x,y,rfl⟩:=Z;obtain⟨a,b,rfl,R,ab,bn⟩:=w.el t S;refine⟨[ar (.int a),ar (.int b),ar (.fz ((dl n E).map D.int))],rfl,⟨_,_,rfl⟩,rfl,λ_=>?_⟩;have d:=Di R (by omega) S;have s:=iM (e:=aN iw (aN bx (mV 2) (mV 0)) (aN bx (mV 2) (mV 1))) (ρ:=[ar (.int a),ar (.int b),ar (.fz ((dl n E).map D.int))]) ((bz ((bz (x:=.fz ((dl n E).map D.int)) (y:=.int a) rfl rfl).trans (DX R (by omega))) ((bz (x:=.fz ((dl n E).map D.int)) (y:=.int b) rfl rfl).trans (DX (by omega) bn))).trans rfl);refine(bz s (y:=.int 2) rfl).trans ?_;show(a_ (D.int ((aM E a.toNat:Int)+(aM E b.toNat:Int) - 2)):M D)=a_ (D.int ((aM E a.toNat+aM E b.toNat - 2:Nat):Int));rw[show((aM E a.toNat+aM E b.toNat - 2:Nat):Int)=(aM E a.toNat:Int)+(aM E b.toNat:Int) - 2 by omega]) (by rw[e1];exact l4 _ _)
 rw[e1]at Y;have e2:(E.filter λ_=>b').map (λt=>D.int ((kg (gY E t):Nat):Int))=(E.map λt=>((BC E t:Nat):Int)).map D.int:=by rw[bW,Kf];rfl
 have T:=tY (α:=List Int) (l:=E) (mk:=λt=>D.int ((gY E t:Nat):Int)) (f:=λt=>D.int ((kg (gY E t):Nat):Int)) (mi:=cw (mV 2)) (g:=gN 0) (t:=dI) (m:=dJ) (js:=[aC]) (ρ:=[ar (aD n E),ar (.fz ((dl n E).map D.int)),ar (.fz (E.map λt=>D.int ((gY E t:Nat):Int)))]) (λρ=>∃x,ρ=[x]) (λ_=>b') rfl (by unfold lim;omega) ⟨aC,rfl⟩
  (λt S ρ ⟨x,Z⟩=>by subst Z;have O:=P t;refine⟨[ar (.int ((gY E t:Nat):Int))],rfl,⟨_,rfl⟩,rfl,λ_=>?_⟩;have hm:oW ((gY E t:Nat):Int) (((gY E t:Nat):Int) - 1):=.inl ⟨by omega,by omega⟩;have Y:aN kD (mV 0) (aN eA (mV 0) (mK (.int 1))) [ar (.int ((gY E t:Nat):Int))]=a_ (.int (((gY E t:Nat):Int)*(((gY E t:Nat):Int) - 1))):=(bz (x:=.int ((gY E t:Nat):Int)) (y:=.int (((gY E t:Nat):Int) - 1)) rfl rfl).trans (mul_eq hm);refine(bz Y (y:=.int 2) rfl).trans ((div_eq ⟨by decide,by decide⟩).trans ?_);rw[xa]) (by rw[e2];exact fV _)
 rw[e2]at T;have X:bI ye (aR (rq (bp (cw (mV 2)) (gN 0) dI dJ [aC]))) [ar (aD n E),ar (.fz ((dl n E).map D.int)),ar (.fz (E.map λt=>D.int ((gY E t:Nat):Int)))]=a_ (.int ((ay (ay E)).length:Int)):=by refine(dz T).trans ?_;show(match intsOf _ with|some ns=>(a_ (.int ns.sum):M D)|none=>M.fail)=_;rw[gq];dsimp only;rw[uf,BD w]
 have U:=iM (e:=aq cc (ae (mV 0) aw)) (ρ:=[ar (aD n E),ar (.fz ((dl n E).map D.int)),ar (.fz (E.map λt=>D.int ((gY E t:Nat):Int)))]) ((bP rfl).trans (xb Q w));have hle:bI bR (aN bx (mV 0) (mK (.int 1))) [ar (aD n E),ar (.fz ((dl n E).map D.int)),ar (.fz (E.map λt=>D.int ((gY E t:Nat):Int)))]=a_ (.int E.length):=(jN (us:=E.map tupI) rfl).trans (by rw[JN]);have W:DH (bS 2 (aR (bp (cw (aN bx (mV 0) (mK (.int 1)))) (du 2 (bc (gN 0) (bc (gN 1) dN))) dG dH [aC,aC,ar 1]))) [ar (aD n E),ar (.fz ((dl n E).map D.int)),aC]=a_ (.nx [ar (aD n E),ar (.fz ((dl n E).map D.int)),ar (.fz (E.map λt=>D.int ((gY E t:Nat):Int)))]):=by show ja (bS 2 _ _)=_;rw[ec Y];rfl
 refine iN (o:=.ret (.fz ((DW n E).map D.int))) ?_ rfl;show fe [ar (aD n E),aC,aC]=_;unfold fe;refine(aQ (ec hd)).trans ((aQ W).trans (c8 ?_));exact things (us:=(DW n E).map D.int) (bw (x:=.int n) rfl (bw hle (bw U (bw X (es:=aw) rfl)))) rfl (by show 4<=50;decide)
def fW:Nat->Nat->List (List Int)->Option (Nat×List (List Int))
 |0,n,E=>ar (n,E)
 |k+1,n,E=>if 7<E.length then aC else fW k E.length (ay E)
def jw:Option (Nat×List (List Int))->D
 |some (m,T)=>aD m T
 |none=>.non
theorem DY:∀(t n:Nat) (E:List (List Int)),(∃L:Nat,vS t n E=M.raise (great L)/\fW t n E=aC)\/∃m T,vS t n E=a_ (aD m T)/\fW t n E=ar (m,T)
 |0,n,E=>.inr ⟨n,E,rfl,rfl⟩
 |t+1,n,E=>by
  unfold vS fW;by_cases h:7<E.length
  ·rw[if_pos h,if_pos h];exact .inl ⟨_,rfl,rfl⟩
  ·rw[if_neg h,if_neg h];exact DY t E.length (ay E)
theorem Hx{t:Nat}(Y:n<=14)(w:WebOk n E)(Z:t<=6):fQ [aD n E,.int t]=a_ (jw (fW t n E)):=by
 refine eS (o:=.ret (jw (fW t n E))) ?_ rfl;show(Fs "TooGreat" (aP [aD n E,.int t]):M Out)=_;rw[k9 Y w Z];rcases DY t n E with⟨L,e1,e2⟩|⟨m,T,e1,e2⟩
 ·rw[e1,e2];funext S;exact if_pos (e:=aC) (c:=("TooGreat":Str)∈c9/\vp "TooGreat" "TooGreat"=b') ⟨by decide,by decide⟩
 ·rw[e1,e2];rfl
def Gd:Option (Nat×List (List Int))->ly
 |some (m,T)=>.tuple [.int m,.tuple (T.map iW)]
 |none=>.none
theorem xt{S:aB}{f:Nat}:dO S (f+3) (aD n E)=ar (.tuple [.int n,.tuple (E.map iW)]):=by
 show(mapP (dO S (f+2)) [.int n,.tup (E.map tupI)]).map qq=_;have Z:dO S (f+2) (.tup (E.map tupI))=ar (.tuple (E.map iW)):=by show(mapP (dO S (f+1)) (E.map tupI)).map qq=_;rw[jL];rfl
 unfold mapP;rw[iL];unfold mapP;rw[Z];rfl
theorem Hy{S:aB}{f:Nat}:∀o,dO S (f+3) (jw o)=ar (Gd o)
 |some (m,T)=>xt
 |none=>by unfold jw dO;rfl
theorem BH{S:aB}{f:Nat}:∀os:List (Option (Nat×List (List Int))),mapP (dO S (f+3)) (os.map jw)=ar (os.map Gd)
 |[]=>rfl
 |o::os=>by
  show(match dO S (f+3) (jw o),mapP (dO S (f+3)) (os.map jw)with|some p,ar ps=>ar (p::ps)|_,_=>aC)=_;rw[Hy,BH os];rfl
theorem Dj{os:List (Option (Nat×List (List Int)))}:inD .non (.fz (os.map jw))=a_ (.bl (os.any H0)):=bM λS=>by
 have Z:dO S 60 (.fz (os.map jw))=ar (.list (os.map Gd)):=by show(mapP (dO S 59) _).map n3=_;rw[BH];rfl
 have h0:dO S 60 D.non=ar .none:=rfl;refine(mU h0 Z (r:=os.any H0) ?_).mpr ⟨rfl,rfl⟩;show ar (id ((os.map Gd).any λy=>er y .none))=_;rw[M6];show ar (os.any _)=_;congr 2;funext o
 match o with
 |some (m,T)=>simp[Gd,er]
 |none=>simp[Gd,er]
theorem Jg:∀o,fF 0 (jw o)=b'
 |some (m,T)=>A7
 |none=>rfl
theorem DZ:∀os:List (Option (Nat×List (List Int))),cA 0 (os.map jw)=b'
 |[]=>rfl
 |o::os=>by
  rw[Ke];unfold cA;rw[Jg,DZ os];rfl
theorem Dk(O:n<=14)(w:WebOk n E)(c:mM n E){p:Nat}(G:p<n)(P:3<=aM E p)(J:sortI (dl n E)≠[1,1,1,3]):fS [aD n E]=a_ (.bl b'):=by
 have K:=tX (α:=Nat) (l:=[1,2,3,4]) (mk:=λt:Nat=>D.int (t:Int)) (f:=λt=>jw (fW t n E)) (mi:=rj (mK (.int 1)) (mK (.int 5))) (g:=gN 0) (t:=fC) (m:=fD) (js:=[aC,ar 0]) (ρ:=[ar (aD n E),aC]) (λρ=>∃x,ρ=[x,ar (aD n E)]) (λ_=>b') (DR (n:=5) (by decide) rfl) (by show 4<=lim;unfold lim;omega) ⟨aC,rfl⟩
  (λt F ρ W=>by
   obtain⟨x,rfl⟩:=W;have:t<=6:=by simp only[hO,hh,or_false]at F;omega
   exact⟨[ar (.int t),ar (aD n E)],rfl,⟨_,rfl⟩,rfl,λ_=>iM ((call2 rfl rfl).trans (Hx O w this))⟩) (DZ [fW 1 n E,fW 2 n E,fW 3 n E,fW 4 n E])
 have T:dj inD (mK .non) (mV 1) [ar (aD n E),ar (.fz ([fW 1 n E,fW 2 n E,fW 3 n E,fW 4 n E].map jw))]=a_ ([fW 1 n E,fW 2 n E,fW 3 n E,fW 4 n E].any H0):=bO (x:=.non) (y:=.fz ([fW 1 n E,fW 2 n E,fW 3 n E,fW 4 n E].map jw)) rfl rfl Dj;refine eS (o:=.ret (.bl b')) ?_ rfl;show fR [ar (aD n E),aC]=_;unfold fR;refine(aQ (ρ':=[ar (aD n E),ar (.fz ([fW 1 n E,fW 2 n E,fW 3 n E,fW 4 n E].map jw))]) (ec K)).trans ?_;by_cases q:[fW 1 n E,fW 2 n E,fW 3 n E,fW 4 n E].any H0=b'
 ·exact dX ((cW T).trans ((if_pos q).trans rfl))
 ·refine(aQ ((cW T).trans (if_neg q))).trans (c8 ?_);have X:∀o∈[fW 1 n E,fW 2 n E,fW 3 n E,fW 4 n E],o≠none:=λo S e=>q (LJ.mpr ⟨o,S,by rw[e];rfl⟩);have Z:=X (fW 4 n E) (.tail _ (.tail _ (.tail _ (.head _))));have R:E.length<=7:=J6 λz=>Z (if_pos (by omega));have e1:fW 4 n E=fW 3 E.length (ay E):=if_neg (by omega);rw[e1]at Z;have N:(ay E).length<=7:=J6 λz=>Z (if_pos (by omega));have e2:fW 3 E.length (ay E)=fW 2 (ay E).length (ay (ay E)):=if_neg (by omega);rw[e2]at Z;have Q:(ay (ay E)).length<=7:=J6 λz=>Z (if_pos (by omega));have U:fW 2 (ay E).length (ay (ay E))=fW 1 (ay (ay E)).length (ay (ay (ay E))):=if_neg (by omega);rw[U]at Z;have C:(ay (ay (ay E))).length<=7:=J6 λz=>Z (if_pos (by omega));have I:fW 1 (ay (ay E)).length (ay (ay (ay E)))=ar ((ay (ay (ay E))).length,ay (ay (ay (ay E)))):=if_neg (by omega);have H:=grows w c G P J R N Q;rw[e1,e2,U,I];generalize (ay (ay (ay E))).length=m4;generalize ay (ay (ay (ay E)))=E4 at H;have L:bI bR (aN bx (aN bx (mV 1) (mK (.int (-1)))) (mK (.int 1))) [ar (aD n E),ar (.fz ([fW 1 n E,fW 2 n E,fW 3 n E,ar (m4,E4)].map jw))]=a_ (.int E4.length):=(jN (us:=E4.map tupI) rfl).trans (by rw[JN]);have Y:bI bR (aN bx (mV 0) (mK (.int 1))) [ar (aD n E),ar (.fz ([fW 1 n E,fW 2 n E,fW 3 n E,ar (m4,E4)].map jw))]=a_ (.int E.length):=(jN (us:=E.map tupI) rfl).trans (by rw[JN]);refine(bz L Y).trans ?_;show(a_ (D.bl (decide ((E4.length:Int)>(E.length:Int)))):M D)=_;rw[JT (by omega)]
end
theorem Jh(l:List D)(a:Nat):S3.cutD l (ar (a:Int)) aC=l.drop a:=by
 unfold S3.cutD;rw[HT.sIx_none,HT.sIx_nat];by_cases h:a<=l.length
 ·rw[Nat.min_eq_left h,L5 (by rw[Md];exact JQ _)]
 ·rw[Nat.min_eq_right (by omega),K8 (JQ _),K8 (by omega),List.take_nil]
theorem FY{Y:aA->M (List D)}{ρ:aA}{i j:Nat}{X Z:D}(h:Y ρ=a_ [X,Z]):vh i j Y ρ=a_ (.nx ((ρ.set i (ar X)).set j (ar Z))):=by funext S;exact FH (Kv h S)
theorem vV{p q:fE}{ρ:aA}(h:p ρ=a_ dr):iD p q ρ=a_ false:=by show(p ρ>>=_)=_;rw[h];rfl
theorem rZ{p q:fE}{ρ:aA}{c:Bool}(h:p ρ=a_ b')(Z:q ρ=a_ c):iD p q ρ=a_ c:=by show(p ρ>>=_)=_;rw[h,aj];exact Z
theorem vW{t:fE}{m:cT}{ρ:aA}{o:Out}(h:t ρ=a_ b')(Z:m ρ=a_ o):gx t m cV ρ=a_ o:=(cW h).trans ((if_pos rfl).trans Z)
theorem xu{a b:Str}{r:Bool}(W:p_ a=b')(Z:p_ b=b')(h:er (.str a) (.str b)=r):fJ (.str a) (.str b)=a_ (.bl r):=bM λS=>by have Y:dO S 60 (.str a)=ar (.str a):=if_pos W;have X:dO S 60 (.str b)=ar (.str b):=if_pos Z;unfold fJ;exact(eE Y X).mpr ⟨by rw[h],rfl⟩
theorem xv{a b:List Int}:kH (.fz (a.map D.int)) (.fz (b.map D.int))=a_ (.bl (!decide (a=b))):=bM λS=>by
 have Z:∀l:List Int,dO S 60 (.fz (l.map D.int))=ar (.list (l.map j2)):=λl=>by show(mapP (dO S 59) (l.map D.int)).map n3=_;rw[hZ];rfl
 unfold kH;refine(eE (Z a) (Z b)).mpr ⟨?_,rfl⟩;have:er (.list (a.map j2)) (.list (b.map j2))=decide (a=b):=by unfold er;exact jt a b
 rw[this]
theorem qz:∀rs:List (List Int),j' (rs.map iW) (rs.map iW)=b'
 |[]=>by simp[j']
 | r::rs=>by
  have e:er (iW r) (iW r)=true:=by unfold iW er;rw[jt,JT rfl]
  rw[Ke];unfold j';rw[e,qz rs];rfl
theorem FZ{n:Nat}{E:List (List Int)}:kH (aD n E) (aD n E)=a_ (.bl dr):=bM λS=>by have Z:dO S 60 (aD n E)=ar (.tuple [.int n,.tuple (E.map iW)]):=xt;unfold kH;refine(eE Z Z).mpr ⟨?_,rfl⟩;simp[er,j',qz]
section
variable {n:Nat}{E:List (List Int)}
theorem r0(w:WebOk n E)(h:(heads n (aX n E)).length<2):n=0\/(so n E).length=n:=by
 by_cases h0:n=0
 ·exact .inl h0
 ·refine .inr (J6 λz=>?_);have:=qv w (by omega) z;omega
theorem sd(Z:n<=14)(w:WebOk n E){e:TM}{ρ:aA}(Y:e ρ=a_ (aD n E)):bI bR (aR (aq bE (ae e aw))) ρ=a_ (.int ((heads n (aX n E)).length:Int)):=by refine(vM (iM ((bP Y).trans (t7 Z w)))).trans ?_;unfold vQ;rw[JN]
abbrev eL(n:Nat)(E:List (List Int))(told:D)(x3 x4:Option D):aA:=[ar (aD n E),ar told,ar (.fz ((DW n E).map D.int)),x3,x4]
theorem Dl(Q:n<=6)(w:WebOk n E){told:D}:∃x3,gx (dj pV (bI bR (aN bx (mV 0) (mK (.int 1)))) (mK (.int 8))) (aE (bS 3 (aR (aq eh (ae (mV 0) aw)))) (gx (uy (dj kH (aR (cX (ae (aN bx (mV 3) (mK (.int 0))) (ae (bI bR (aN bx (mV 3) (mK (.int 1)))) (ae (aR (aq cc (ae (mV 3) aw))) aw))))) (aR (BY (mV 2) (oS (mK (.int 1))) oN))) (dj kH (aR (aq aP (ae (mV 0) (ae (mK (.int 1)) aw)))) (mV 3))) (bB (mK (.bl dr))) cV)) cV (eL n E told aC aC)=a_ (.nx (eL n E told x3 aC)):=by
 have T:bI bR (aN bx (mV 0) (mK (.int 1))) (eL n E told aC aC)=a_ (.int E.length):=(jN (us:=E.map tupI) rfl).trans (by rw[JN]);have Y:dj pV (bI bR (aN bx (mV 0) (mK (.int 1)))) (mK (.int 8)) (eL n E told aC aC)=a_ (decide ((E.length:Int)<8)):=bO T (y:=.int 8) rfl rfl;by_cases h:E.length<8
 ·refine⟨ar (aD E.length (ay E)),vW (Y.trans (by rw[JT (by omega)])) ?_⟩;have R:=gL (E:=E) (by omega);have Z:bI bR (aN bx (mV 3) (mK (.int 1))) (eL n E told (ar (aD E.length (ay E))) aC)=a_ (.int (ay E).length):=(jN (us:=(ay E).map tupI) rfl).trans (by rw[JN]);have S:=iM (e:=aq cc (ae (mV 3) aw)) (ρ:=eL n E told (ar (aD E.length (ay E))) aC) ((bP rfl).trans (xb (by omega) R));have X:=things (us:=([(E.length:Int),((ay E).length:Int),((ay (ay E)).length:Int)]).map D.int) (bw (e:=aN bx (mV 3) (mK (.int 0))) (x:=.int E.length) rfl (bw Z (bw S (es:=aw) rfl))) rfl (by show 3<=50;decide);have U:aR (BY (mV 2) (oS (mK (.int 1))) oN) (eL n E told (ar (aD E.length (ay E))) aC)=a_ (.fz (([(E.length:Int),((ay E).length:Int),((ay (ay E)).length:Int)]).map D.int)):=by
   have:BY (mV 2) (oS (mK (.int 1))) oN (eL n E told (ar (aD E.length (ay E))) aC)=bt (([(E.length:Int),((ay E).length:Int),((ay (ay E)).length:Int)]).map D.int):=by show bt (S3.cutD ((DW n E).map D.int) (ar ((1:Nat):Int)) aC)=_;rw[Jh];rfl
   unfold aR;rw[this];exact cb rfl (by show 3<=lim;unfold lim;omega)
  have W:=iM (e:=aq aP (ae (mV 0) (ae (mK (.int 1)) aw))) (ρ:=eL n E told (ar (aD E.length (ay E))) aC) ((call2 (x:=aD n E) (y:=.int ((1:Nat):Int)) rfl rfl).trans ((k9 (by omega) w (t:=1) (by decide)).trans (ll (k:=0) (by omega))));exact(aQ (ρ':=eL n E told (ar (aD E.length (ay E))) aC) (ec (iM ((bP rfl).trans (DS (by omega) w (by omega)))))).trans (jQ (DT (b:=dr) (c:=dr) (bO X U (xv.trans (by rw[JT rfl];rfl))) (bO W (y:=aD E.length (ay E)) rfl FZ)))
 ·exact⟨aC,jQ (Y.trans (by rw[J8 (by omega)]))⟩
def BI:cT:=gx (dj fJ (aN bx (mV 1) (mK (.int 0))) (mK (.str "gone"))) (aE (gx (iD (dj pU (aN bx (mV 1) (mK (.int 1))) (mK (.int 0))) (dj fJ (aN bx (aR (aq aP (ae (mV 0) (ae (aN eA (aN bx (mV 1) (mK (.int 1))) (mK (.int 1))) aw)))) (mK (.int 0))) (mK (.int 0)))) (bB (mK (.bl dr))) cV) (bB (aN fJ (aN bx (aR (aq aP (ae (mV 0) (ae (aN bx (mV 1) (mK (.int 1))) aw)))) (mK (.int 0))) (mK (.int 0))))) cV
def BJ:cT:=gx (dj fJ (aN bx (mV 1) (mK (.int 0))) (mK (.str "stays"))) (aE (bS 4 (aR (aq aP (ae (mV 0) (ae (mK (.int 4)) aw))))) (bB (i8 (aN fJ (aN bx (mV 4) (mK (.int 0))) (aN bx (mV 1) (mK (.int 1)))) (i8 (aN fJ (aR (aq bD (ae (mV 4) aw))) (aR (aN yu (cX (ae (mK (.int 2)) aw)) (aN bx (mV 1) (mK (.int 1)))))) (aN fJ (bI bR (aR (aq bE (ae (mV 4) aw)))) (mK (.int 1))))))) cV
theorem oH{s:Str}{ds:List D}{Z:Option D}(Y:bx (.tup (.str s::ds)) (.int 0)=a_ (.str s))(hs:p_ s=b')(h:er (.str s) (.str "gone")=dr):BI (eL n E (.tup (.str s::ds)) Z aC)=a_ (.nx (eL n E (.tup (.str s::ds)) Z aC)):=
 jQ (bO (x:=.str s) (y:=.str "gone") ((bz (x:=.tup (.str s::ds)) (y:=.int 0) rfl rfl).trans Y) rfl (xu hs (by decide+kernel) h))
theorem Dm(P:n<=6)(w:WebOk n E)(Y:n=0\/Path n E){Z:Option D}:BI (eL n E (.tup [.str "gone",.int n]) Z aC)=a_ (.ret (.bl b')):=by
 have U:dj pU (aN bx (mV 1) (mK (.int 1))) (mK (.int 0)) (eL n E (.tup [.str "gone",.int n]) Z aC)=a_ (decide ((n:Int)>0)):=bO (x:=.int n) (y:=.int 0) rfl rfl rfl;have he:vS n n E=a_ (aD 0 []):=by
  rcases Y with rfl|Y
  ·have:E=[]:=List.eq_nil_iff_forall_not_mem.mpr λt Q=>by obtain⟨a,b,_,h0,X,W⟩:=w.el t Q;omega
   rw[this];rfl
  ·exact ub n E Y (by omega)
 have X:=iM (e:=aq aP (ae (mV 0) (ae (aN bx (mV 1) (mK (.int 1))) aw))) (ρ:=eL n E (.tup [.str "gone",.int n]) Z aC) ((call2 (x:=aD n E) (y:=.int n) rfl rfl).trans ((k9 (by omega) w (t:=n) (by omega)).trans he));have W:aN fJ (aN bx (aR (aq aP (ae (mV 0) (ae (aN bx (mV 1) (mK (.int 1))) aw)))) (mK (.int 0))) (mK (.int 0)) (eL n E (.tup [.str "gone",.int n]) Z aC)=a_ (.bl b'):=(bz ((bz X (y:=.int 0) rfl).trans (show _=a_ (D.int 0)from rfl)) (y:=.int 0) rfl).trans A2;have R:iD (dj pU (aN bx (mV 1) (mK (.int 1))) (mK (.int 0))) (dj fJ (aN bx (aR (aq aP (ae (mV 0) (ae (aN eA (aN bx (mV 1) (mK (.int 1))) (mK (.int 1))) aw)))) (mK (.int 0))) (mK (.int 0))) (eL n E (.tup [.str "gone",.int n]) Z aC)=a_ false:=by
  by_cases h0:n=0
  ·exact vV (U.trans (by rw[J8 (by omega)]))
  ·have Y:Path n E:=Y.resolve_left h0;obtain⟨T,e,O⟩:=ua (n - 1) n E Y (by omega) (by omega);rw[show n - (n - 1)=1 by omega]at e;have S:=iM (e:=aq aP (ae (mV 0) (ae (aN eA (aN bx (mV 1) (mK (.int 1))) (mK (.int 1))) aw))) (ρ:=eL n E (.tup [.str "gone",.int n]) Z aC) ((call2 (x:=aD n E) (y:=.int ((n:Int) - 1)) rfl rfl).trans (by rw[show(n:Int) - 1=((n - 1:Nat):Int) by omega];exact(k9 (by omega) w (t:=n - 1) (by omega)).trans e));exact rZ (U.trans (by rw[JT (by omega)])) (bO ((bz S (y:=.int 0) rfl).trans (show _=a_ (D.int ((1:Nat):Int))from rfl)) (y:=.int 0) rfl A2)
 exact vW (bO (x:=.str "gone") (y:=.str "gone") rfl rfl (xu (by decide+kernel) (by decide+kernel) (by simp[er]))) ((aQ (jQ R)).trans (c8 W))
theorem xw{j:Nat}{T:List (List Int)}(O:n<=6)(w:WebOk n E)(P:j<=6)(e:vS 4 n E=a_ (aD j T))(Z:Ring j T){Y:Option D}:BJ (eL n E (.tup [.str "stays",.int j]) Y aC)=a_ (.ret (.bl b')):=by
 have U:=iM (e:=aq aP (ae (mV 0) (ae (mK (.int 4)) aw))) (ρ:=eL n E (.tup [.str "stays",.int j]) Y aC) ((call2 (x:=aD n E) (y:=.int ((4:Nat):Int)) rfl rfl).trans ((k9 (by omega) w (t:=4) (by decide)).trans e));have hd:=iM (e:=aq bD (ae (mV 4) aw)) (ρ:=eL n E (.tup [.str "stays",.int j]) Y (ar (aD j T))) ((bP rfl).trans (BG (by omega) Z.w));have S:=Bz (k:=2) (i:=j) (e:=aN bx (mV 1) (mK (.int 1))) (ρ:=eL n E (.tup [.str "stays",.int j]) Y (ar (aD j T))) rfl (by omega) (by omega);have R:dl j T=eb ((j:Int)).toNat 2:=by refine List.eq_replicate_iff.mpr ⟨by rw[oC,Ko],λb W=>?_⟩;unfold dl at W;obtain⟨p,X,rfl⟩:=Kl.mp W;rw[Z.two (J2.mp X)];rfl
 have X:=sd (by omega) Z.w (e:=mV 4) (ρ:=eL n E (.tup [.str "stays",.int j]) Y (ar (aD j T))) rfl;have Q:(heads j (aX j T)).length=1:=by have:=xj Z.w Z.c;have:=yI Z.w Z.pos;omega
 refine vW (bO (x:=.str "stays") (y:=.str "stays") rfl rfl (xu (by decide+kernel) (by decide+kernel) (by simp[er]))) ((aQ (ρ':=eL n E (.tup [.str "stays",.int j]) Y (ar (aD j T))) (ec U)).trans (c8 ?_));refine and_eq (b:=b') ((bz (x:=.int j) (y:=.int j) rfl rfl).trans (A2.trans (by rw[JT rfl]))) (λ_=>and_eq (b:=b') ((bz hd S).trans (Dc.trans (by rw[JT R]))) (λ_=>(bz X (y:=.int 1) rfl).trans (A2.trans (by rw[Q];rfl))) λz=>by cases z) λz=>by cases z
theorem BK{s:Str}{ds:List D}{Z:Option D}(Y:bx (.tup (.str s::ds)) (.int 0)=a_ (.str s))(hs:p_ s=b')(h:er (.str s) (.str "stays")=dr):BJ (eL n E (.tup (.str s::ds)) Z aC)=a_ (.nx (eL n E (.tup (.str s::ds)) Z aC)):=
 jQ (bO (x:=.str s) (y:=.str "stays") ((bz (x:=.tup (.str s::ds)) (y:=.int 0) rfl rfl).trans Y) rfl (xu hs (by decide+kernel) h))
theorem Dn(X:n<=6)(w:WebOk n E)(h:(heads n (aX n E)).length<2):eG [aD n E]=a_ (.bl b'):=by
 have c:=Df w h;have R:=r0 w h;have hf:=iM (e:=aq fB (ae (mV 0) aw)) (ρ:=[ar (aD n E),aC,aC,aC,aC]) ((bP rfl).trans (vR (by omega) w R));have hs:=iM (e:=aq bF (ae (mV 0) aw)) (ρ:=[ar (aD n E),aC,aC,aC,aC]) ((bP rfl).trans (rY (by omega) w));obtain⟨S,P⟩:=Dl X w (told:=ia n E);have hm:=qx w c;refine eS (o:=.ret (.bl b')) ?_ rfl;show fT [ar (aD n E),aC,aC,aC,aC]=_;unfold fT;refine(aQ (ρ':=eL n E (ia n E) aC aC) (FY (bw hf (bw hs (es:=aw) rfl)))).trans ((aQ P).trans ?_);show aE BI (aE BJ _) (eL n E (ia n E) S aC)=_;have two:=iP w;unfold ia;by_cases h1:sortI (dl n E)=[1,1,1,3]
 ·rw[if_pos h1];obtain⟨a1,a2,Q⟩:=yM w c h1;obtain⟨T,e,W⟩:=oE 3 3 (ay E) Q (by decide);refine(aQ (oH rfl (by decide+kernel) (by simp[er];decide+kernel))).trans (dX (xw (j:=3) X w (by decide) ((ll (by omega)).trans (by rw[a1];exact e)) W))
 ·rw [if_neg h1];by_cases h2:(dl n E).any (λx=>decide (x>2))=b'
  ·rw[if_pos h2];obtain⟨x,U,Z⟩:=LJ.mp h2;unfold dl at U;obtain⟨p,Y,rfl⟩:=Kl.mp U;have Z:=Kd Z;have Y:=J2.mp Y;refine(aQ (oH rfl (by decide+kernel) (by simp[er];decide+kernel))).trans ((aQ (BK rfl (by decide+kernel) (by simp[er];decide+kernel))).trans (c8 ?_));refine and_eq (b:=b') ((bz (x:=.int (E.length:Int)) (y:=.int ((n:Int) - 1)) rfl rfl).trans ?_) (λ_=>iM ((bP rfl).trans (Dk (by omega) w c Y (by omega) h1))) λz=>by cases z
   show(a_ (D.bl (decide ((E.length:Int) ≥ (n:Int) - 1))):M D)=_;rw[JT (by omega)]
  ·rw[if_neg h2];have hd:∀p,p<n->aM E p<=2:=λp Y=>by
    refine J6 λz=>h2 (LJ.mpr ⟨((aM E p:Nat):Int),?_,JT (by omega)⟩);unfold dl;exact Kl.mpr ⟨p,J2.mpr Y,rfl⟩
   by_cases Z:E≠[]/\E.length=n
   ·rw[if_pos Z];have Y:1<=n:=by have:=Mt.mpr Z.1;omega
    obtain⟨T,e,W⟩:=oE 4 n E ⟨w,c,hd,Z.2,Y⟩ (by omega);exact(aQ (oH rfl (by decide+kernel) (by simp[er];decide+kernel))).trans (dX (xw X w X e W))
   ·rw[if_neg Z];refine dX (Dm X w ?_);by_cases h0:n=0
    ·exact .inl h0
    ·refine .inr ⟨w,c,hd,?_⟩;have:=xm (f:=aM E) (g:=λ_=>2) (m:=n) hd;rw[two,lh]at this;have:E.length≠n:=λz=>Z ⟨λq=>h0 (by rw[<-z,q];rfl),z⟩;omega
end
section
variable {n:Nat}{E:List (List Int)}{zs:List Int}
theorem Hz(Z:zs.Perm (bZ n))(w:WebOk n E):DW n (cY zs E)=DW n E:=by unfold DW;rw[vU,Dh Z w,BE Z w]
theorem Do(W:zs.Perm (bZ n))(w:WebOk n E):ia n (cY zs E)=ia n E:=by
 have hd:=Hw W w;have Y:sortI (dl n (cY zs E))=sortI (dl n E):=t6 (hd.trans (sortI_perm _).symm) (fK _);have X:(dl n (cY zs E)).any (λx=>decide (x>2))=(dl n E).any (λx=>decide (x>2)):=by rw[LZ,LJ,LJ];exact⟨λ⟨x,hx,q⟩=>⟨x,hd.mem_iff.mp hx,q⟩,λ⟨x,hx,q⟩=>⟨x,hd.mem_iff.mpr hx,q⟩⟩
 have Z:(cY zs E≠[]/\(cY zs E).length=n)↔(E≠[]/\E.length=n):=by rw[vU, <-Mt, <-Mt,vU]
 unfold ia;rw[Y,X];by_cases q:E≠[]/\E.length=n
 ·rw[if_pos q,if_pos (Z.mpr q)]
 ·rw[if_neg q,if_neg λz=>q (Z.mp z)]
theorem HA{s:Str}(h:p_ s=b'):kH (.tup [.str s]) (.tup [.str s])=a_ (.bl dr):=bM λS=>by
 have Y:dO S 59 (.str s)=ar (.str s):=if_pos h;have Z:dO S 60 (.tup [.str s])=ar (.tuple [.str s]):=by show(mapP (dO S 59) [.str s]).map qq=_;unfold mapP;rw[Y];rfl
 unfold kH;exact(eE Z Z).mpr ⟨by simp[er,j'],rfl⟩
theorem BN{s:Str}{m:Int}(h:p_ s=b'):kH (.tup [.str s,.int m]) (.tup [.str s,.int m])=a_ (.bl dr):=bM λS=>by
 have Y:dO S 59 (.str s)=ar (.str s):=if_pos h;have Z:dO S 60 (.tup [.str s,.int m])=ar (.tuple [.str s,.int m]):=by show(mapP (dO S 59) [.str s,.int m]).map qq=_;unfold mapP;rw[Y];rfl
 unfold kH;exact(eE Z Z).mpr ⟨by simp[er,j'],rfl⟩
theorem Dp:kH (ia n E) (ia n E)=a_ (.bl dr):=by
 unfold ia;split
 ·exact BN (by decide+kernel)
 ·split
  ·exact HA (by decide+kernel)
  ·split
   ·exact BN (by decide+kernel)
   ·exact BN (by decide+kernel)
theorem Ji{a:Int}:kH (.int a) (.int a)=a_ (.bl dr):=bM λS=>by unfold kH;exact(eE iL iL).mpr ⟨by simp[er],rfl⟩
end
theorem HB{c:M D}{S Z:aB}{d:D}(h:c S=ar (.ok d,Z))(Y:Z.length<=S.length):kf c S=ar (.ok d,Z):=by unfold kf;rw[h];dsimp only;rw[if_pos Y]
theorem F4{S:aB}{ns:List Int}{i:Nat}{o2 o3 o4:Option D}:∃x2 x3 x4 S1,jo [ar (.ro (ns.map D.int)),ar (.int i),o2,o3,o4] S=ar (.ok (.nx [ar (.ro (ns.map D.int)),ar (.int i),x2,x3,x4]),S1):=by
 obtain⟨_,_,R,xs,rfl,rfl,hs⟩:=CU (S:=S) (ns:=ns) (k:=i) (Q:=λd I=>∃xs,d= .lst S.length/\I=S++[xs]/\eT (S++[xs]) S.length) λxs h=>⟨xs,rfl,rfl,h⟩;generalize S++[xs]=T0 at R hs;generalize S.length=k at R hs;obtain⟨n,E,W,e1,C,w,k1,F⟩:=FN (g:=6) (by decide) hs;have G:n<=6:=by omega
 obtain⟨zs,X,e2,Z,k2,H⟩:=tT (e1:=mV 2) (e2:=aN bx (mV 3) (mK (.int 0))) (ρ:=[ar (.ro (ns.map D.int)),ar (.int i),ar (.lst k),ar (aD n E),o4]) (n:=n) k1.st (by omega) rfl rfl;have T:=m6 Z w;have Y:∀{x},bI bR (aR (aq bE (ae (mV 3) aw))) [ar (.ro (ns.map D.int)),ar (.int i),ar (.lst k),ar (aD n E),x]=a_ (.int ((heads n (aX n E)).length:Int)):=λ{x}=>sd (by omega) w rfl;have P:bI bR (aR (aq bE (ae (mV 4) aw))) [ar (.ro (ns.map D.int)),ar (.int i),ar (.lst k),ar (aD n E),ar (aD n (cY zs E))]=a_ (.int ((heads n (aX n E)).length:Int)):=(sd (by omega) T rfl).trans (by rw[ue Z w]);have U:∀{x},dj pV (bI bR (aR (aq bE (ae (mV 3) aw)))) (mK (.int 2)) [ar (.ro (ns.map D.int)),ar (.int i),ar (.lst k),ar (aD n E),x]=a_ (decide (((heads n (aX n E)).length:Int)<2)):=λ{x}=>bO Y (y:=.int 2) rfl rfl;have O:iD (dj pV (bI bR (aR (aq bE (ae (mV 3) aw)))) (mK (.int 2))) (eQ (bV (aR (aq eG (ae (mV 3) aw))))) [ar (.ro (ns.map D.int)),ar (.int i),ar (.lst k),ar (aD n E),o4]=a_ false:=by
  by_cases q:(heads n (aX n E)).length<2
  ·exact rZ (U.trans (by rw[JT (by omega)])) (nb (iM ((bP rfl).trans (Dn G w q))))
  ·exact vV (U.trans (by rw[J8 (by omega)]))
 have s3:=iM (e:=aq bF (ae (mV 3) aw)) (ρ:=[ar (.ro (ns.map D.int)),ar (.int i),ar (.lst k),ar (aD n E),ar (aD n (cY zs E))]) ((bP rfl).trans (rY (by omega) w));have s4:=iM (e:=aq bF (ae (mV 4) aw)) (ρ:=[ar (.ro (ns.map D.int)),ar (.int i),ar (.lst k),ar (aD n E),ar (aD n (cY zs E))]) ((bP rfl).trans (rY (by omega) T));rw[Hz Z w]at s4;have K:=DT (b:=dr) (c:=dr) (bO s4 s3 (xv.trans (by rw[JT rfl];rfl))) (bO P Y Ji);have L:iD (dj pV (bI bR (aR (aq bE (ae (mV 3) aw)))) (mK (.int 2))) (dj kH (aR (aq fB (ae (mV 4) aw))) (aR (aq fB (ae (mV 3) aw)))) [ar (.ro (ns.map D.int)),ar (.int i),ar (.lst k),ar (aD n E),ar (aD n (cY zs E))]=a_ false:=by
  by_cases q:(heads n (aX n E)).length<2
  ·have J:=iM (e:=aq fB (ae (mV 3) aw)) (ρ:=[ar (.ro (ns.map D.int)),ar (.int i),ar (.lst k),ar (aD n E),ar (aD n (cY zs E))]) ((bP rfl).trans (vR (by omega) w (r0 w q)));have f4:=iM (e:=aq fB (ae (mV 4) aw)) (ρ:=[ar (.ro (ns.map D.int)),ar (.int i),ar (.lst k),ar (aD n E),ar (aD n (cY zs E))]) ((bP rfl).trans (vR (by omega) T (r0 T (by rw[ue Z w];exact q))));rw[Do Z w]at f4;exact rZ (U.trans (by rw[JT (by omega)])) (bO f4 J Dp)
  ·exact vV (U.trans (by rw[J8 (by omega)]))
 refine⟨ar (.lst k),ar (aD n E),ar (aD n (cY zs E)),X,?_⟩;unfold jo;refine(br (ρ':=[ar (.ro (ns.map D.int)),ar (.int i),ar (.lst k),o3,o4]) (S1:=T0) (dC (x:=.lst k) ?_)).trans ((br (ρ':=[ar (.ro (ns.map D.int)),ar (.int i),ar (.lst k),ar (aD n E),o4]) (S1:=W) (dC (x:=aD n E) ?_)).trans ((Kv (aQ (jQ O)) W).trans ((br (ρ':=[ar (.ro (ns.map D.int)),ar (.int i),ar (.lst k),ar (aD n E),ar (aD n (cY zs E))]) (S1:=X) (dC (x:=aD n (cY zs E)) ?_)).trans ((Kv (aQ (jQ K)) X).trans (Kv (jQ L) X)))))
 ·rw[call2 (x:=.ro (ns.map D.int)) (y:=.int i) rfl rfl];exact R
 ·show kf (aq _ _ _) T0=_;rw[call2 (x:=.lst k) (y:=.int 6) rfl rfl];exact e1
 ·have N:aq dE (ae (mV 3) (ae (aR (aq bC (ae (mV 2) (ae (aR (bI cg (aN bx (mV 3) (mK (.int 0))))) aw)))) aw)) [ar (.ro (ns.map D.int)),ar (.int i),ar (.lst k),ar (aD n E),o4] W=ar (.ok (aD n (cY zs E)),X):=by
   show(ae _ _ _>>=dE) W=_;rw[aU (dY (x:=aD n E) (S1:=W) rfl (dY e2 (es:=aw) rfl)),C8 Z (xq w)];rfl
  exact HB N (Lz H)
theorem ug{its:List D}{ns:List Int}:∀(ts:List Nat) (o1 o2 o3 o4:Option D) (S:aB),∃x1 Z Y X S1,fH ⟨its,.none⟩ (gN 1) jo (ts.map λi:Nat=>.int (0+(i:Int))) [ar (.ro (ns.map D.int)),o1,o2,o3,o4] S=ar (.ok (.nx [ar (.ro (ns.map D.int)),x1,Z,Y,X]),S1)
 |[],o1,o2,o3,o4,S=>⟨o1,o2,o3,o4,S,by rw[Mz,mY];rfl⟩
 |t::ts,o1,o2,o3,o4,S=>by
  obtain⟨Z,Y,X,S1,h⟩:=F4 (S:=S) (ns:=ns) (i:=t) (o2:=o2) (o3:=o3) (o4:=o4);obtain⟨Q,P,R,T,U,W⟩:=ug (its:=its) (ns:=ns) ts (ar (.int t)) Z Y X S1;refine⟨Q,P,R,T,U,?_⟩;rw[Ke,MB];exact(vD rfl h).trans W
theorem HC{S:aB}{ns:List Int}:runs (qh [.ro (ns.map D.int)]) S (λd _=>d= .bl b'):=by
 have hm:aq minD (ae (bI bR (mV 0)) (ae (mK (.int 6)) aw)) [ar (.ro (ns.map D.int)),aC,aC,aC,aC]=a_ (.int (if (6:Int)<(ns.map D.int).length then 6 else (ns.map D.int).length)):=(call2 (x:=.int (ns.map D.int).length) (y:=.int 6) rfl rfl).trans rfl;have Z:aq maxD (ae (mK (.int 1)) (ae (aq minD (ae (bI bR (mV 0)) (ae (mK (.int 6)) aw))) aw)) [ar (.ro (ns.map D.int)),aC,aC,aC,aC]=a_ (.int (if (if (6:Int)<(ns.map D.int).length then (6:Int)else (ns.map D.int).length)>1 then (if (6:Int)<(ns.map D.int).length then 6 else (ns.map D.int).length)else 1)):=(call2 (x:=.int 1) rfl hm).trans rfl;generalize hn:(if (if (6:Int)<(ns.map D.int).length then (6:Int)else (ns.map D.int).length)>1 then (if (6:Int)<(ns.map D.int).length then (6:Int)else (ns.map D.int).length)else 1)=n at Z;have Y:n<=6:=by rw[<-hn];split<;>split<;>omega
 have T:1<=n:=by rw[<-hn];split<;>split<;>omega
 have X:=(oh Z).trans (AV (by omega));obtain⟨U,W,R,Q,S1,hf⟩:=ug (its:=bg 0 n.toNat) (ns:=ns) (dV n.toNat) aC aC aC aC S;refine⟨.bl b',S1,gU (o:=.ret (.bl b')) ?_ rfl,rfl⟩;unfold AI;exact(br (vE X hf)).trans (Kv (c8 (x:=.bl b') rfl) S1)
def top(i:Nat):Stmt:=PySem.Challenge.pw_tiewebs_k83_whole_fates_come.main.body.getD i (.Pass ⟨0,0,0,0⟩)
structure Txt(K:dn)(mg:Str->Option b_):Prop where
 err:mw K=b'
 dk:Jb K=b'
 b_all:mg "all"=aC
 b_any:mg "any"=aC
 b_bool:mg "bool"=aC
 b_int:mg "int"=aC
 b_isinstance:mg "isinstance"=aC
 b_len:mg "len"=aC
 b_list:mg "list"=aC
 b_max:mg "max"=aC
 b_min:mg "min"=aC
 b_range:mg "range"=aC
 b_sorted:mg "sorted"=aC
 b_sum:mg "sum"=aC
 b_tuple:mg "tuple"=aC
 b_zip:mg "zip"=aC
 g_MOST_PLACES:∃t,mg "MOST_PLACES"=ar (.int 14 t)
 g_MOST_TIES:∃t,mg "MOST_TIES"=ar (.int 7 t)
 g_MOST_TIMES:∃t,mg "MOST_TIMES"=ar (.int 6 t)
 t_DEGREES_OF_THREE_IN_A_STAR:KTup K mg "DEGREES_OF_THREE_IN_A_STAR" [1,1,1,3]
theorem kb{N P:List Str}{Z:Scope}(a:Z.kind= .function:=by exact rfl)(b:Z.isCoroutine=false:=by exact rfl)(c:Z.isGenerator=false:=by exact rfl)(d:N.Nodup:=by decide+kernel)(e:N.take P.length=P:=by exact rfl)(f:∀x∈P,Z.names.lookup x=ar .local\/Z.names.lookup x=ar .cell:=by decide+kernel)(g:∀y∈Z.names,y.2≠ .free:=by decide+kernel):FnScope N P Z:=⟨a,b,c,d,e,f,g⟩
theorem uh:FnScope ["thing"] ["thing"] (ak (top 8)):=kb
theorem vX:FnScope ["thing"] ["thing"] (ak (top 9)):=kb
theorem se:FnScope ["things"] ["things"] (ak (top 12)):=kb
theorem ui:FnScope ["many"] ["many"] (ak (top 16)):=kb
theorem sf:FnScope ["one","other"] ["one","other"] (ak (top 22)):=kb
theorem mO:FnScope ["_law_script","_law_k"] ["_law_script","_law_k"] (ak (top 33)):=kb
theorem fX:FnScope ["_law_state_here","_law_many","_law_found","_law_stirred"] ["_law_state_here","_law_many"] (ak (top 35)):=kb
theorem gZ:FnScope ["_law_many","_law_found","_law_a"] ["_law_many"] (ak (top 36)):=kb
theorem pj:FnScope ["_law_web_here","_law_names"] ["_law_web_here","_law_names"] (ak (top 39)):=kb
theorem uj:FnScope ["many","thing"] ["many","thing"] (ak (top 10)):=kb
theorem oJ:FnScope ["thing","most"] ["thing","most"] (ak (top 15)):=kb
theorem jR:FnScope ["_law_script","_law_k","_law_cell"] ["_law_script","_law_k"] (ak (top 34)):=kb
theorem eJ:FnScope ["_law_state_here","_law_things","_law_left","_law_found"] ["_law_state_here","_law_things"] (ak (top 37)):=kb
theorem l9:FnScope ["many","thing","low","high"] ["many","thing"] (ak (top 11)):=kb
theorem cJ:FnScope ["_law_state_here","_law_most","_law_many","_law_way","_law_ties","_law_row","_law_at","_law_odd"] ["_law_state_here","_law_most"] (ak (top 38)):=kb
theorem ma:FnScope ["thing","many","ties"] ["thing"] (ak (top 13)):=kb
theorem uk:FnScope ["thing"] ["thing"] (ak (top 14)):=kb
theorem kc:FnScope ["web","many","ties"] ["web"] (ak (top 17)):=kb
theorem di:FnScope ["web","many","ties","leasts","low","high","kept","gone","heads"] ["web"] (ak (top 18)):=kb
theorem mj:FnScope ["web"] ["web"] (ak (top 23)):=kb
theorem oK:FnScope ["web"] ["web"] (ak (top 19)):=kb
theorem kd:FnScope ["web","ties","many"] ["web"] (ak (top 24)):=kb
theorem pk:FnScope ["web"] ["web"] (ak (top 25)):=kb
theorem ff:FnScope ["web","times","made","turn"] ["web","times"] (ak (top 29)):=kb
theorem gu:FnScope ["web","tied","meeting"] ["web"] (ak (top 30)):=kb
theorem m7:FnScope ["web","many","ties","tied"] ["web"] (ak (top 31)):=kb
theorem pq:FnScope ["_law_web_here","_law_times"] ["_law_web_here","_law_times"] (ak (top 40)):=kb
theorem jS:FnScope ["_law_web_here","_law_some"] ["_law_web_here"] (ak (top 41)):=kb
theorem fg:FnScope ["_law_web_here","_law_told","_law_sizes","_law_later","_law_last"] ["_law_web_here"] (ak (top 42)):=kb
theorem oM:FnScope ["_law_script","_law_k","_law_state_here","_law_web_here","_law_other"] ["_law_script"] (ak (top 43)):=kb
section
variable {P:d_}{w:ee}{K:dn}{mg:Str->Option b_}{base:f'}
theorem um{f:cq}{Y:f_}(F:Fun K "is_whole" "is_whole" (top 8) f Y)(U:mg "is_whole"=ar (.ref f))(T:Txt K mg):DefX P w K mg base 1 "is_whole" ["thing"] bY:=
 cu (m:=n0) F U (F.binds λ_ _ _ _ _ _ us Z=>match us,Z with|[_],_=>rfl) uh rfl λX A outer s H E S=>
  aL (aZ (ik (qU (Ts:="int") T.b_isinstance T.b_int (aa 0)) (jV (ES (qU (Ts:="bool") T.b_isinstance T.b_bool (aa 0))))))
theorem vY{f:cq}{Y:f_}(F:Fun K "is_pair" "is_pair" (top 9) f Y)(S:mg "is_pair"=ar (.ref f))(T:Txt K mg):DefX P w K mg base 1 "is_pair" ["thing"] df:=
 cu (m:=qf) F S (F.binds λ_ _ _ _ _ _ us Z=>match us,Z with|[_],_=>rfl) vX rfl λU A outer s H E X=>
  aL (aZ (ik (qU (Ts:="tuple") T.b_isinstance T.b_tuple (aa 0)) (jV (sS (eR X) (cU T.b_len (aa 0)) au))))
theorem sg{f:cq}{U:f_}(F:Fun K "is_rising" "is_rising" (top 12) f U)(S:mg "is_rising"=ar (.ref f))(T:Txt K mg):DefX P w K mg base 1 "is_rising" ["things"] fj:=
 cu (m:=mB) F S (F.binds λ_ _ _ _ _ _ us X=>match us,X with|[_],_=>rfl) se rfl λY A outer s H E Z=>
  aL (aZ (zY rfl T.b_all (aH (cP (t:=gi) (m:=gj) (gQ (Nc:=["ahead","behind"]) (js:=[aC,aC]) (ak (top 12)) ["things"] (λ_=>rfl) rfl (by decide+kernel)) rfl (CJ T.b_zip (aa 0) (aH (sU (aa 0) (wu au) wt))) (λC ex s2 R=>⟨gO rfl (bA (aS 0 (show(["ahead","behind"]:List Str).Nodup by decide+kernel)) (bA (aS 1 (show(["ahead","behind"]:List Str).Nodup by decide+kernel)) eV)),cZ,DC (DF Z) (aa 0) (aa 1)⟩)))))
theorem uo{f:cq}{X:f_}(F:Fun K "pairs_of" "pairs_of" (top 16) f X)(U:mg "pairs_of"=ar (.ref f))(T:Txt K mg):DefX P w K mg base 1 "pairs_of" ["many"] dw:=
 cu (m:=n4) F U (F.binds λ_ _ _ _ _ _ us Y=>match us,Y with|[_],_=>rfl) ui rfl λZ A outer s H E S=>
  aL (aZ (aH (Ax (t:=dQ) (t2:=cK) (m:=bU) (gQ (Nc:=["low","high","many"]) (js:=[aC,aC,ar 0]) (ak (top 16)) ["many"] (λ_=>rfl) rfl (by decide+kernel)) rfl (eP T.b_range (aa 0)) (λC ex s2 R=>⟨aS 0 (show(["low","high","many"]:List Str).Nodup by decide+kernel),cZ,jC T.b_range (j4 (aa 0) au) (aa 2),aS 1 (show(["low","high","many"]:List Str).Nodup by decide+kernel),cZ,ip (af (aa 0) (af (aa 1) av ax) ax)⟩))))
theorem si{f:cq}{U:f_}(F:Fun K "ties_meet" "ties_meet" (top 22) f U)(S:mg "ties_meet"=ar (.ref f))(T:Txt K mg):DefX P w K mg base 1 "ties_meet" ["one","other"] gD:=
 cu (m:=mC) F S (F.binds λ_ _ _ _ _ _ us X=>match us,X with|[_,_],_=>rfl) sf rfl λY A outer s H E Z=>
  aL (aZ (As rfl T.b_any (aH (cP (t:=gk) (m:=gm) (gQ (Nc:=["place","other"]) (js:=[aC,ar 1]) (ak (top 22)) ["one","other"] (λ_=>rfl) rfl (by decide+kernel)) rfl (d9 (aa 0)) (λC ex s2 R=>⟨aS 0 (show(["place","other"]:List Str).Nodup by decide+kernel),cZ,zT (eR Z) (aa 0) (aa 1)⟩)))))
theorem mP{f:cq}{Y:f_}(F:Fun K "_law_cell_at" "_law_cell_at" (top 33) f Y)(S:mg "_law_cell_at"=ar (.ref f))(T:Txt K mg):DefX P w K mg base 1 "_law_cell_at" ["_law_script","_law_k"] dy:=
 cu (m:=jf) F S (F.binds λ_ _ _ _ _ _ us Z=>match us,Z with|[_,_],_=>rfl) mO rfl λU A outer s H E X=>
  az (dm (sP (DF X) (aa 1) (cU T.b_len (aa 0))) (aL (aZ (aJ (aa 0) (aa 1)))) b9) (aL (aZ au))
theorem sj{f:cq}{Y:f_}(F:Fun K "_law_take" "_law_take" (top 35) f Y)(U:mg "_law_take"=ar (.ref f))(T:Txt K mg):DefX P w K mg base 1 "_law_take" ["_law_state_here","_law_many"] bf:=
 cu (m:=mD) F U (F.binds λ_ _ _ _ _ _ us Z=>match us,Z with|[_,_],_=>rfl) fX rfl λX A outer s H E S=>
  az (dm (gM (aJ (aa 0) au)) (az (bG 2 fX.nd (jZ (aJ (aa 0) au) (aa 1)) (hs:=nW)) (az (jW (kE (aJ (aa 0) au) (aa 1)) (wy (aa 0) au)) (aL (aZ (aa 2))))) b9) (az (jW (jZ (j4 (jY (aJ (aa 0) au) au) au) au) (wy (aa 0) au)) (az (bG 3 fX.nd (jZ (j4 (j4 (jY (aJ (aa 0) au) (aJ (aa 0) au)) (jY au (aJ (aa 0) au))) au) au) (hs:=nW)) (az (bG 3 fX.nd (jZ (j4 (jY (aa 3) (aa 3)) (jY au (aa 3))) au) (hs:=nW)) (aL (aZ (jZ (kE (aa 3) au) (aa 1)))))))
theorem pA{f:cq}{X:f_}(F:Fun K "_law_pairs" "_law_pairs" (top 36) f X)(U:mg "_law_pairs"=ar (.ref f))(T:Txt K mg):DefX P w K mg base 1 "_law_pairs" ["_law_many"] bo:=
 cu (m:=kN) F U (F.binds λ_ _ _ _ _ _ us Y=>match us,Y with|[_],_=>rfl) gZ rfl λZ A outer s H E S=>
  az (bG 1 gZ.nd (d7 av) (hs:=rm)) (az (nI (b:=fv) Mu rfl (eP T.b_range (aa 0)) (aS 2 gZ.nd) (aL (ez (xU (aa 1) (aH (cP (t:=d4) (m:=d5) (gQ (Nc:=["_law_b","_law_a"]) (js:=[aC,ar 2]) (ak (top 36)) ["_law_many","_law_found","_law_a"] (λ_=>rfl) rfl (by decide+kernel)) rfl (jC T.b_range (j4 (aa 2) au) (aa 0)) (λC ex s2 R=>⟨aS 0 (show(["_law_b","_law_a"]:List Str).Nodup by decide+kernel),cZ,ip (af (aa 1) (af (aa 0) av ax) ax)⟩))))))) (aL (aZ (aa 1))))
theorem pB{f:cq}{X:f_}(F:Fun K "_law_named" "_law_named" (top 39) f X)(U:mg "_law_named"=ar (.ref f))(T:Txt K mg):DefX P w K mg base 1 "_law_named" ["_law_web_here","_law_names"] dE:=
 cu (m:=kO) F U (F.binds λ_ _ _ _ _ _ us Y=>match us,Y with|[_,_],_=>rfl) pj rfl λZ A outer s H E S=>
  aL (aZ (ip (af (aJ (aa 0) au) (af (fh T.b_tuple (aH (f7 T.b_sorted (aH (cP (t:=fw) (m:=fx) (gQ (Nc:=["_law_a","_law_b","_law_names"]) (js:=[aC,aC,ar 1]) (ak (top 39)) ["_law_web_here","_law_names"] (λ_=>rfl) rfl (by decide+kernel)) rfl (d9 (aJ (aa 0) au)) (λC ex s2 R=>⟨gO rfl (bA (aS 0 (show(["_law_a","_law_b","_law_names"]:List Str).Nodup by decide+kernel)) (bA (aS 1 (show(["_law_a","_law_b","_law_names"]:List Str).Nodup by decide+kernel)) eV)),cZ,fh T.b_tuple (aH (f7 T.b_sorted (aH (d7 (af (aJ (aa 2) (aa 0)) (af (aJ (aa 2) (aa 1)) av a7) a7)))))⟩)))))) av cG) a7)))
theorem uq{f:cq}{U:f_}(F:Fun K "is_place" "is_place" (top 10) f U)(R:mg "is_place"=ar (.ref f))(T:Txt K mg)(Z:DefX P w K mg base 1 "is_whole" ["thing"] bY):DefX P w K mg base 2 "is_place" ["many","thing"] gn:=
 cu (m:=n5) F R (F.binds λ_ _ _ _ _ _ us X=>match us,X with|[_,_],_=>rfl) uj rfl λS A outer s H E Y=>
  aL (aZ (ik (aI Z (Y.mono (by decide)) (af (aa 1) av ax)) (jV (zQ sy (zl.or (uJ (DF Y))) (eY λ_ _ _ _=>.bl _) uR au (aa 1) (aa 0)))))
theorem oO{f:cq}{X:f_}(F:Fun K "need_number" "need_number" (top 15) f X)(R:mg "need_number"=ar (.ref f))(T:Txt K mg)(Z:DefX P w K mg base 1 "is_whole" ["thing"] bY):DefX P w K mg base 2 "need_number" ["thing","most"] dh:=
 eF (m:=gR) F R (F.binds λ_ _ _ _ _ _ us Y=>match us,Y with|[_,_],_=>rfl) oJ rfl λS A outer s H E U=>
  aL (dm (qS (sJ (il (gM (aH (cm Z (U.mono (by decide)) aW.pass (af (aa 0) av ax))))) (qR (il (sR sy sy (eY λ_ _ _ _=>.bl _) (eY λ_ _ _ _=>.bl _) au (aa 0) (aa 1)))))) (aL (nU aW rfl T.err (by decide) (by decide) (af ig av aF))) b9)
theorem pC{f:cq}{X:f_}(F:Fun K "_law_state" "_law_state" (top 34) f X)(R:mg "_law_state"=ar (.ref f))(T:Txt K mg)(Z:DefX P w K mg base 1 "_law_cell_at" ["_law_script","_law_k"] dy):DefX P w K mg base 2 "_law_state" ["_law_script","_law_k"] fM:=
 cu (m:=kP) F R (F.binds λ_ _ _ _ _ _ us Y=>match us,Y with|[_,_],_=>rfl) jR rfl λS A outer s H E U=>
  az (bG 2 jR.nd (aI Z (U.mono (by decide)) (af (aa 0) (af (aa 1) av ax) ax)) (hs:=cH)) (az (dm (G3 (aa 2) (zO au au)) (aL (aZ (d7 (af (gf (aa 2) (zO au au)) (af gw av aF) gg)))) b9) (aL (aZ (d7 (af (jZ (aa 2) au) (af gw av aF) gg)))))
theorem lp{f:cq}{U:f_}(F:Fun K "_law_mixed_row" "_law_mixed_row" (top 37) f U)(R:mg "_law_mixed_row"=ar (.ref f))(T:Txt K mg)(Z:DefX P w K mg base 1 "_law_take" ["_law_state_here","_law_many"] bf):DefX P w K mg base 2 "_law_mixed_row" ["_law_state_here","_law_things"] bC:=
 cu (m:=dF) F R (F.binds λ_ _ _ _ _ _ us X=>match us,X with|[_,_],_=>rfl) eJ rfl λS A outer s H E Y=>
  az (bG 2 eJ.nd (Cu T.b_list (aa 1)) (hs:=cH)) (az (bG 3 eJ.nd (d7 av) (hs:=rm)) (az (zM (b:=b8) 64 Mu (nL (eR Y) (aa 2) (aH (d7 av))) (aL (ez (lL (aa 3) (z5 (aa 2) (aH (aI Z (Y.mono (by decide)) (af (aa 0) (af (cU T.b_len (aa 2)) av cG) ax)))))))) (aL (aZ (aa 3)))))
theorem yO{f:cq}{S:f_}(F:Fun K "is_tie" "is_tie" (top 11) f S)(Q:mg "is_tie"=ar (.ref f))(T:Txt K mg)(Y:DefX P w K mg base 1 "is_pair" ["thing"] df)(Z:DefX P w K mg base 2 "is_place" ["many","thing"] gn):DefX P w K mg base 3 "is_tie" ["many","thing"] kQ:=
 cu (m:=n6) F Q (F.binds λ_ _ _ _ _ _ us U=>match us,U with|[_,_],_=>rfl) l9 rfl λR A outer s H E X=>
  az (dm (il (gM (aI Y (X.mono (by decide)) (af (aa 1) av ax)))) (aL (aZ gw)) b9) (az (jW (aa 1) (gO rfl (bA (aS 2 l9.nd) (bA (aS 3 l9.nd) eV)))) (aL (aZ (ik (aI Z (X.mono (by decide)) (af (aa 0) (af (aa 2) av ax) ax)) (ik (aI Z (X.mono (by decide)) (af (aa 0) (af (aa 3) av ax) ax)) (jV (DC (DF X) (aa 2) (aa 3))))))))
theorem ur{f:cq}{O:f_}(F:Fun K "_law_web" "_law_web" (top 38) f O)(N:mg "_law_web"=ar (.ref f))(T:Txt K mg)(Z:DefX P w K mg base 1 "_law_take" ["_law_state_here","_law_many"] bf)(Y:DefX P w K mg base 1 "_law_pairs" ["_law_many"] bo)(X:DefX P w K mg base 2 "_law_mixed_row" ["_law_state_here","_law_things"] bC):DefX P w K mg base 3 "_law_web" ["_law_state_here","_law_most"] gp:=
 cu (m:=iG) F N (F.binds λ_ _ _ _ _ _ us Q=>match us,Q with|[_,_],_=>rfl) cJ rfl λR A outer s H E U=>
  az (bG 2 cJ.nd (uU rfl T.b_max (af au (af (gf (aa 1) (aJ (aH (d7 (by (refine b7 au ?_ aF;refine b7 au ?_ aF;refine b7 au ?_ aF;refine b7 au ?_ aF;refine b7 au ?_ aF;refine b7 au ?_ aF;refine b7 au ?_ aF;refine b7 (aa 1) ?_ ax;exact av)))) (aH (aI Z (U.mono (by decide)) (af (aa 0) (af au av aF) ax))))) av gg) aF)) (hs:=cH)) (az (bG 3 cJ.nd (aH (aI Z (U.mono (by decide)) (af (aa 0) (af au av aF) ax))) (hs:=cH)) (az (bG 4 cJ.nd (cP (t:=gS) (m:=gT) (gQ (Nc:=["_law_tie","_law_state_here","_law_way"]) (js:=[aC,ar 0,ar 3]) (ak (top 38)) ["_law_state_here","_law_most","_law_many","_law_way","_law_ties","_law_row","_law_at","_law_odd"] (λ_=>rfl) rfl (by decide+kernel)) rfl (d9 (aH (aI Y (U.mono (by decide)) (af (aa 2) av ax)))) (λC ex s2 S=>⟨aS 0 (show(["_law_tie","_law_state_here","_law_way"]:List Str).Nodup by decide+kernel),iu (sP (DF U) (aH (aI Z (U.mono (by decide)) (af (aa 1) (af au av aF) ax))) (aJ (aH (d7 (af au (af au (af au av aF) aF) aF))) (jZ (aa 2) au))),aa 0⟩))) (az (bG 5 cJ.nd (aH (aI X (U.mono (by decide)) (af (aa 0) (af (aH (iy rfl T.b_list T.b_range (aa 2))) av cG) ax))) (hs:=cH)) (az (dm (sO (aa 3) au) (az (bG 4 cJ.nd (d7 av) (hs:=rm)) (az (nI (b:=eZ) Mu rfl (jC T.b_range au (aa 2)) (aS 6 cJ.nd) (aL (ez (lL (aa 4) (fh T.b_tuple (aH (f7 T.b_sorted (aH (d7 (af (aJ (aa 5) (aa 6)) (af (aJ (aa 5) (aJ (aH (d7 (by (refine b7 (gf (aa 6) au) ?_ gg;refine b7 (gf (aa 6) au) ?_ gg;refine b7 au ?_ aF;refine b7 (kE (aa 6) au) ?_ gg;exact av)))) (gf (aa 3) au))) av a7) a7)))))))))) (az (dm (qS (nH (kI (eR U) (aa 3) au) (kB (sO (aa 2) au)))) (aL (ez (lL (aa 4) (fh T.b_tuple (aH (f7 T.b_sorted (aH (d7 (af (aJ (aa 5) au) (af (aJ (aa 5) (gf (aa 2) au)) av a7) a7))))))))) b9) (az (bG 7 cJ.nd (aH (cP (t:=dR) (m:=dU) (gQ (Nc:=["_law_tie","_law_state_here"]) (js:=[aC,ar 0]) (ak (top 38)) ["_law_state_here","_law_most","_law_many","_law_way","_law_ties","_law_row","_law_at","_law_odd"] (λ_=>rfl) rfl (by decide+kernel)) rfl (d9 (aH (aI Y (U.mono (by decide)) (af (aa 2) av ax)))) (λC ex s2 S=>⟨aS 0 (show(["_law_tie","_law_state_here"]:List Str).Nodup by decide+kernel),iu (kI (eR U) (aH (aI Z (U.mono (by decide)) (af (aa 1) (af au av aF) ax))) au),aa 0⟩)))) (aL (bG 4 cJ.nd (cP (t:=e9) (m:=fb) (gQ (Nc:=["_law_tie","_law_ties","_law_odd"]) (js:=[aC,ar 4,ar 7]) (ak (top 38)) ["_law_state_here","_law_most","_law_many","_law_way","_law_ties","_law_row","_law_at","_law_odd"] (λ_=>rfl) rfl (by decide+kernel)) rfl (d9 (aH (aI Y (U.mono (by decide)) (af (aa 2) av ax)))) (λC ex s2 S=>⟨aS 0 (show(["_law_tie","_law_ties","_law_odd"]:List Str).Nodup by decide+kernel),iu (nL (eR U) (zT (eR U) (aa 0) (aa 1)) (zT (eR U) (aa 0) (aa 2))),aa 0⟩)))))))) b9) (aL (aZ (ip (af (aa 2) (af (fh T.b_tuple (aH (f7 T.b_sorted (aa 4)))) av cG) ax))))))))
theorem yP{f:cq}{O:f_}(F:Fun K "is_web" "is_web" (top 13) f O)(N:mg "is_web"=ar (.ref f))(T:Txt K mg)(Y:DefX P w K mg base 1 "is_whole" ["thing"] bY)(X:DefX P w K mg base 1 "is_pair" ["thing"] df)(U:DefX P w K mg base 3 "is_tie" ["many","thing"] kQ)(Z:DefX P w K mg base 1 "is_rising" ["things"] fj):DefX P w K mg base 4 "is_web" ["thing"] jg:=
 cu (m:=n8) F N (F.binds λ_ _ _ _ _ _ us Q=>match us,Q with|[_],_=>rfl) ma rfl λR A outer s H E S=>
  az (dm (il (gM (aH (aI X (S.mono (by decide)) (af (aa 0) av ax))))) (aL (aZ gw)) b9) (az (jW (aa 0) (gO rfl (bA (aS 1 ma.nd) (bA (aS 2 ma.nd) eV)))) (az (dm (qS (sJ (il (gM (aH (aI Y (S.mono (by decide)) (af (aa 1) av ax))))) (sJ (il (sR sy sy (eY λ_ _ _ _=>.bl _) (eY λ_ _ _ _=>.bl _) au (aa 1) (kM rfl T.g_MOST_PLACES))) (qR (il (gM (qU (Ts:="tuple") T.b_isinstance T.b_tuple (aa 2)))))))) (aL (aZ gw)) b9) (aL (aZ (ik (zY rfl T.b_all (aH (cP (t:=gE) (m:=gF) (gQ (Nc:=["tie","many"]) (js:=[aC,ar 1]) (ak (top 13)) ["thing","many","ties"] (λ_=>rfl) rfl (by decide+kernel)) rfl (d9 (aa 2)) (λC ex s2 L=>⟨aS 0 (show(["tie","many"]:List Str).Nodup by decide+kernel),cZ,aH (aI U (S.mono (by decide)) (af (aa 1) (af (aa 0) av ax) ax))⟩)))) (jV (aH (aI Z (S.mono (by decide)) (af (aa 2) av ax)))))))))
theorem uu{f:cq}{X:f_}(F:Fun K "need_web" "need_web" (top 14) f X)(R:mg "need_web"=ar (.ref f))(T:Txt K mg)(Z:DefX P w K mg base 4 "is_web" ["thing"] jg):DefX P w K mg base 5 "need_web" ["thing"] bN:=
 eF (m:=oa) F R (F.binds λ_ _ _ _ _ _ us Y=>match us,Y with|[_],_=>rfl) uk rfl λS A outer s H E U=>
  aL (dm (il (gM (aH (cm Z (U.mono (by decide)) aW.pass (af (aa 0) av ax))))) (aL (nU aW rfl T.err (by decide) (by decide) (af ig av aF))) b9)
theorem vZ{f:cq}{S:f_}(F:Fun K "degrees" "degrees" (top 17) f S)(R:mg "degrees"=ar (.ref f))(T:Txt K mg)(Z:DefX P w K mg base 5 "need_web" ["thing"] bN):DefX P w K mg base 6 "degrees" ["web"] bD:=
 eF (m:=qg) F R (F.binds λ_ _ _ _ _ _ us U=>match us,U with|[_],_=>rfl) kc rfl λX A outer s H E Y=>
  az (ez (aH (cm Z (Y.mono (by decide)) aW.pass (af (aa 0) av ax)))) (az (jW (aa 0) (gO rfl (bA (aS 1 kc.nd) (bA (aS 2 kc.nd) eV)))) (aL (aZ (aH (jE (cP (t:=iJ) (m:=iK) (gQ (Nc:=["place","ties"]) (js:=[aC,ar 2]) (ak (top 17)) ["web","many","ties"] (λ_=>rfl) rfl (by decide+kernel)) rfl (eP T.b_range (aa 1)) (λC ex s2 Q=>⟨aS 0 (show(["place","ties"]:List Str).Nodup by decide+kernel),cZ,cU T.b_len (aH (cP (t:=iH) (m:=iI) (gQ (Nc:=["tie","place"]) (js:=[aC,ar 0]) _ ["place","ties"] (λ_=>rfl) rfl rfl) rfl (d9 (aa 1)) (λC ex s2 Q=>⟨aS 0 (show(["tie","place"]:List Str).Nodup by decide+kernel),iu (DD (eR Y) (aa 1) (aa 0)),aa 0⟩)))⟩)))))))
theorem yQ{f:cq}{R:f_}(F:Fun K "pieces" "pieces" (top 18) f R)(Q:mg "pieces"=ar (.ref f))(T:Txt K mg)(Z:DefX P w K mg base 5 "need_web" ["thing"] bN):DefX P w K mg base 6 "pieces" ["web"] bE:=
 eF (m:=tO) F Q (F.binds λ_ _ _ _ _ _ us S=>match us,S with|[_],_=>rfl) di rfl λU A outer s H E Y=>
  az (ez (aH (cm Z (Y.mono (by decide)) aW.pass (af (aa 0) av ax)))) (az (jW (aa 0) (gO rfl (bA (aS 1 di.nd) (bA (aS 2 di.nd) eV)))) (az (bG 3 di.nd (aH (iy rfl T.b_list T.b_range (aa 1))) (hs:=cH)) (az (nI (b:=fq) aW.ow rfl (d9 (aa 2)) (gO rfl (bA (aS 4 di.nd) (bA (aS 5 di.nd) eV))) (az (bG 6 di.nd (zV rfl T.b_min (af (aJ (aa 3) (aa 4)) (af (aJ (aa 3) (aa 5)) av a7) a7)) (hs:=cH)) (az (bG 7 di.nd (uU rfl T.b_max (af (aJ (aa 3) (aa 4)) (af (aJ (aa 3) (aa 5)) av a7) a7)) (hs:=cH)) (aL (bG 3 di.nd (aH (jE (cP (t:=jh) (m:=ji) (gQ (Nc:=["least","gone","kept"]) (js:=[aC,ar 7,ar 6]) (ak (top 18)) ["web","many","ties","leasts","low","high","kept","gone","heads"] (λ_=>rfl) rfl (by decide+kernel)) rfl (d9 (aa 3)) (λC ex s2 X=>⟨aS 0 (show(["least","gone","kept"]:List Str).Nodup by decide+kernel),cZ,GW (kI (eR Y) (aa 0) (aa 1)) (aa 2) (aa 0)⟩))))))))) (az (wB (nY (jX 8 (t:=gG) (m:=gH) di.nd (gQ (Nc:=["place","leasts"]) (js:=[aC,ar 3]) (ak (top 18)) ["web","many","ties","leasts","low","high","kept","gone","heads"] (λ_=>rfl) rfl (by decide+kernel)) rfl (eP T.b_range (aa 1)) (λC ex s2 X=>⟨aS 0 (show(["place","leasts"]:List Str).Nodup by decide+kernel),iu (kI (eR Y) (aJ (aa 1) (aa 0)) (aa 0)),aa 0⟩)))) (aL (aZ (aH (jE (cP (t:=jl) (m:=jm) (gQ (Nc:=["head","many","leasts"]) (js:=[aC,ar 1,ar 3]) (ak (top 18)) ["web","many","ties","leasts","low","high","kept","gone","heads"] (λ_=>rfl) rfl (by decide+kernel)) rfl (d9 (aa 8)) (λC ex s2 X=>⟨aS 0 (show(["head","many","leasts"]:List Str).Nodup by decide+kernel),cZ,fh T.b_tuple (aH (cP (t:=jj) (m:=jk) (gQ (Nc:=["place","leasts","head"]) (js:=[aC,ar 2,ar 0]) _ ["head","many","leasts"] (λ_=>rfl) rfl rfl) rfl (eP T.b_range (aa 1)) (λC ex s2 X=>⟨aS 0 (show(["place","leasts","head"]:List Str).Nodup by decide+kernel),iu (kI (eR Y) (aJ (aa 1) (aa 0)) (aa 2)),aa 0⟩)))⟩))))))))))
theorem mm{f:cq}{S:f_}(F:Fun K "need_few_ties" "need_few_ties" (top 23) f S)(Q:mg "need_few_ties"=ar (.ref f))(T:Txt K mg)(X:GrX P w K mg base)(Z:DefX P w K mg base 5 "need_web" ["thing"] bN):DefX P w K mg base 6 "need_few_ties" ["web"] de:=
 eF (m:=d6) F Q (F.binds λ_ _ _ _ _ _ us U=>match us,U with|[_],_=>rfl) mj rfl λR A outer s H E Y=>
  az (ez (aH (cm Z (Y.mono (by decide)) aW.pass (af (aa 0) av ax)))) (aL (dm (sO (cU T.b_len (aJ (aa 0) au)) (kM rfl T.g_MOST_TIES)) (aL (AD aW rfl T.err X (Y.mono (by decide)) (af (cU T.b_len (aJ (aa 0) au)) (af (kM rfl T.g_MOST_TIES) av ax) cG))) b9))
theorem oP{f:cq}{X:f_}(F:Fun K "need_joined" "need_joined" (top 19) f X)(R:mg "need_joined"=ar (.ref f))(T:Txt K mg)(Z:DefX P w K mg base 6 "pieces" ["web"] bE):DefX P w K mg base 7 "need_joined" ["web"] fc:=
 eF (m:=jP) F R (F.binds λ_ _ _ _ _ _ us Y=>match us,Y with|[_],_=>rfl) oK rfl λS A outer s H E U=>
  aL (dm (sO (cU T.b_len (aH (cm Z (U.mono (by decide)) aW.pass (af (aa 0) av ax)))) au) (aL (nU aW rfl T.err (by decide) (by decide) (af ig av aF))) b9)
theorem v5{f:cq}{Q:f_}(F:Fun K "tie_web" "tie_web" (top 24) f Q)(O:mg "tie_web"=ar (.ref f))(T:Txt K mg)(X:DefX P w K mg base 1 "pairs_of" ["many"] dw)(Y:DefX P w K mg base 1 "ties_meet" ["one","other"] gD)(Z:DefX P w K mg base 6 "need_few_ties" ["web"] de):DefX P w K mg base 7 "tie_web" ["web"] eh:=
 eF (m:=jH) F O (F.binds λ_ _ _ _ _ _ us R=>match us,R with|[_],_=>rfl) kd rfl λS A outer s H E U=>
  az (ez (aH (cm Z (U.mono (by decide)) aW.pass (af (aa 0) av ax)))) (az (bG 1 kd.nd (aJ (aa 0) au) (hs:=rn)) (az (bG 2 kd.nd (cU T.b_len (aa 1)) (hs:=cH)) (aL (aZ (ip (af (aa 2) (af (fh T.b_tuple (aH (jE (cP (t:=fN) (m:=fO) (gQ (Nc:=["low","high","ties"]) (js:=[aC,aC,ar 1]) (ak (top 24)) ["web","ties","many"] (λ_=>rfl) rfl (by decide+kernel)) rfl (d9 (aH (aI X (U.mono (by decide)) (af (aa 2) av ax)))) (λC ex s2 N=>⟨gO rfl (bA (aS 0 (show(["low","high","ties"]:List Str).Nodup by decide+kernel)) (bA (aS 1 (show(["low","high","ties"]:List Str).Nodup by decide+kernel)) eV)),iu (gM (aH (aI Y (U.mono (by decide)) (af (aJ (aa 2) (aa 0)) (af (aJ (aa 2) (aa 1)) av a7) a7)))),ip (af (aa 0) (af (aa 1) av ax) ax)⟩))))) av cG) ax))))))
theorem pD{f:cq}{S:f_}(F:Fun K "ties_ahead" "ties_ahead" (top 25) f S)(R:mg "ties_ahead"=ar (.ref f))(T:Txt K mg)(Z:DefX P w K mg base 6 "degrees" ["web"] bD):DefX P w K mg base 7 "ties_ahead" ["web"] cc:=
 eF (m:=kR) F R (F.binds λ_ _ _ _ _ _ us U=>match us,U with|[_],_=>rfl) pk rfl λX A outer s H E Y=>
  aL (aZ (Al rfl T.b_sum (aH (AH (t:=fy) (m:=fA) (gQ (Nc:=["many"]) (js:=[aC]) (ak (top 25)) ["web"] (λ_=>rfl) rfl (by decide+kernel)) rfl (d9 (aH (cm Z (Y.mono (by decide)) aW.pass (af (aa 0) av ax)))) (λC ex s2 Q=>⟨aS 0 (show(["many"]:List Str).Nodup by decide+kernel),cZ,kE (jY (aa 0) (gf (aa 0) au)) au⟩)))))
theorem pE{f:cq}{R:f_}(F:Fun K "made_again" "made_again" (top 29) f R)(O:mg "made_again"=ar (.ref f))(T:Txt K mg)(Y:DefX P w K mg base 5 "need_web" ["thing"] bN)(Z:DefX P w K mg base 2 "need_number" ["thing","most"] dh)(X:DefX P w K mg base 7 "tie_web" ["web"] eh):DefX P w K mg base 8 "made_again" ["web","times"] aP:=
 eF (m:=fP) F O (F.binds λ_ _ _ _ _ _ us S=>match us,S with|[_,_],_=>rfl) ff rfl λQ A outer s H E U=>
  az (ez (aH (cm Y (U.mono (by decide)) aW.pass (af (aa 0) av ax)))) (az (ez (aH (cm Z (U.mono (by decide)) aW.pass (af (aa 1) (af (kM rfl T.g_MOST_TIMES) av ax) ax)))) (az (bG 2 ff.nd (aa 0) (hs:=CK)) (az (nI (b:=cC) aW.ow rfl (eP T.b_range (aa 1)) (aS 3 ff.nd) (aL (bG 2 ff.nd (aH (cm X (U.mono (by decide)) aW.pass (af (aa 2) av ax))) (hs:=cH)))) (aL (aZ (aa 2))))))
theorem oQ{f:cq}{R:f_}(F:Fun K "sizes_ahead" "sizes_ahead" (top 30) f R)(Q:mg "sizes_ahead"=ar (.ref f))(T:Txt K mg)(Y:DefX P w K mg base 6 "degrees" ["web"] bD)(Z:DefX P w K mg base 7 "ties_ahead" ["web"] cc):DefX P w K mg base 8 "sizes_ahead" ["web"] bF:=
 eF (m:=fe) F Q (F.binds λ_ _ _ _ _ _ us S=>match us,S with|[_],_=>rfl) gu rfl λU A outer s H E X=>
  az (bG 1 gu.nd (aH (cm Y (X.mono (by decide)) aW.pass (af (aa 0) av ax))) (hs:=cH)) (az (wB (nY (jX 2 (t:=dG) (m:=dH) gu.nd (gQ (Nc:=["low","high","tied"]) (js:=[aC,aC,ar 1]) (ak (top 30)) ["web","tied","meeting"] (λ_=>rfl) rfl (by decide+kernel)) rfl (d9 (aJ (aa 0) au)) (λC ex s2 O=>⟨gO rfl (bA (aS 0 (show(["low","high","tied"]:List Str).Nodup by decide+kernel)) (bA (aS 1 (show(["low","high","tied"]:List Str).Nodup by decide+kernel)) eV)),cZ,gf (aH (j4 (aJ (aa 2) (aa 0)) (aJ (aa 2) (aa 1)))) au⟩)))) (aL (aZ (aH (d7 (by (refine b7 (aJ (aa 0) au) ?_ a7;refine b7 (cU T.b_len (aJ (aa 0) au)) ?_ cG;refine b7 (aH (cm Z (X.mono (by decide)) aW.pass (af (aa 0) av ax))) ?_ cG;refine b7 (Al rfl T.b_sum (aH (jE (cP (t:=dI) (m:=dJ) (gQ (Nc:=["many"]) (js:=[aC]) (ak (top 30)) ["web","tied","meeting"] (λ_=>rfl) rfl (by decide+kernel)) rfl (d9 (aa 2)) (λC ex s2 O=>⟨aS 0 (show(["many"]:List Str).Nodup by decide+kernel),cZ,kE (jY (aa 0) (gf (aa 0) au)) au⟩))))) ?_ cG;exact av)))))))
theorem Dq{f:cq}{R:f_}(F:Fun K "fate" "fate" (top 31) f R)(Q:mg "fate"=ar (.ref f))(T:Txt K mg)(Y:DefX P w K mg base 6 "degrees" ["web"] bD)(Z:DefX P w K mg base 7 "need_joined" ["web"] fc):DefX P w K mg base 8 "fate" ["web"] fB:=
 eF (m:=vA) F Q (F.binds λ_ _ _ _ _ _ us S=>match us,S with|[_],_=>rfl) m7 rfl λU A outer s H E X=>
  az (ez (aH (cm Z (X.mono (by decide)) aW.pass (af (aa 0) av ax)))) (az (jW (aa 0) (gO rfl (bA (aS 1 m7.nd) (bA (aS 2 m7.nd) eV)))) (az (bG 3 m7.nd (aH (cm Y (X.mono (by decide)) aW.pass (af (aa 0) av ax))) (hs:=cH)) (az (dm (Fv (ns:=[1,1,1,3]) (eR X) (fh T.b_tuple (aH (f7 T.b_sorted (aa 3)))) T.t_DEGREES_OF_THREE_IN_A_STAR) (aL (aZ (Ap 6 rfl))) b9) (az (dm (gM (As rfl T.b_any (aH (jE (cP (t:=hV) (m:=hX) (gQ (Nc:=["number"]) (js:=[aC]) (ak (top 31)) ["web","many","ties","tied"] (λ_=>rfl) rfl (by decide+kernel)) rfl (d9 (aa 3)) (λC ex s2 O=>⟨aS 0 (show(["number"]:List Str).Nodup by decide+kernel),cZ,DB (aa 0) au⟩)))))) (aL (aZ (Ap 6 rfl))) b9) (az (dm (qS (nH (Fl (aa 2)) (kB (kI (eR X) (cU T.b_len (aa 2)) (aa 1))))) (aL (aZ (ip (af ig (af (aa 1) av ax) aF)))) b9) (aL (aZ (ip (af ig (af (aa 1) av ax) aF)))))))))
theorem pF{f:cq}{X:f_}(F:Fun K "_law_again" "_law_again" (top 40) f X)(R:mg "_law_again"=ar (.ref f))(T:Txt K mg)(Z:DefX P w K mg base 8 "made_again" ["web","times"] aP):DefX P w K mg base 9 "_law_again" ["_law_web_here","_law_times"] fQ:=
 cu (m:=kU) F R (F.binds λ_ _ _ _ _ _ us Y=>match us,Y with|[_,_],_=>rfl) pq rfl λS A outer s H E U=>
  aL (CQ (cx:="TooGreat") (by decide) rfl rfl Z (U.mono (by decide)) T.err (af (aa 0) (af (aa 1) av ax) ax))
theorem pG{f:cq}{S:f_}(F:Fun K "_law_grows" "_law_grows" (top 41) f S)(R:mg "_law_grows"=ar (.ref f))(T:Txt K mg)(Z:DefX P w K mg base 9 "_law_again" ["_law_web_here","_law_times"] fQ):DefX P w K mg base 10 "_law_grows" ["_law_web_here"] fS:=
 cu (m:=fR) F R (F.binds λ_ _ _ _ _ _ us U=>match us,U with|[_],_=>rfl) jS rfl λX A outer s H E Y=>
  az (nY (jX 1 (t:=fC) (m:=fD) jS.nd (gQ (Nc:=["_law_times","_law_web_here"]) (js:=[aC,ar 0]) (ak (top 41)) ["_law_web_here","_law_some"] (λ_=>rfl) rfl (by decide+kernel)) rfl (jC T.b_range au au) (λC ex s2 Q=>⟨aS 0 (show(["_law_times","_law_web_here"]:List Str).Nodup by decide+kernel),cZ,aH (aI Z (Y.mono (by decide)) (af (aa 1) (af (aa 0) av ax) ax))⟩))) (az (dm (DD (eR Y) uQ (aa 1)) (aL (aZ gw)) b9) (aL (aZ (DB (cU T.b_len (aJ (aJ (aa 1) vj) au)) (cU T.b_len (aJ (aa 0) au))))))
theorem pH{f:cq}{I:f_}(F:Fun K "_law_right" "_law_right" (top 42) f I)(G:mg "_law_right"=ar (.ref f))(T:Txt K mg)(R:DefX P w K mg base 6 "degrees" ["web"] bD)(O:DefX P w K mg base 6 "pieces" ["web"] bE)(Q:DefX P w K mg base 7 "tie_web" ["web"] eh)(S:DefX P w K mg base 7 "ties_ahead" ["web"] cc)(Z:DefX P w K mg base 8 "made_again" ["web","times"] aP)(Y:DefX P w K mg base 8 "sizes_ahead" ["web"] bF)(N:DefX P w K mg base 8 "fate" ["web"] fB)(U:DefX P w K mg base 10 "_law_grows" ["_law_web_here"] fS):DefX P w K mg base 11 "_law_right" ["_law_web_here"] eG:=
 cu (m:=fT) F G (F.binds λ_ _ _ _ _ _ us J=>match us,J with|[_],_=>rfl) fg rfl λL A outer s H E X=>
  az (ET 1 2 rfl fg.nd (af (aH (aI N (X.mono (by decide)) (af (aa 0) av ax))) (af (aH (aI Y (X.mono (by decide)) (af (aa 0) av ax))) av cG) cG)) (az (dm (sP (DF X) (cU T.b_len (aJ (aa 0) au)) au) (az (bG 3 fg.nd (aH (aI Q (X.mono (by decide)) (af (aa 0) av ax))) (hs:=cH)) (aL (dm (qS (sJ (nL (eR X) (aH (d7 (af (aJ (aa 3) au) (af (cU T.b_len (aJ (aa 3) au)) (af (aH (aI S (X.mono (by decide)) (af (aa 3) av ax))) av cG) cG) a7))) (aH (sU (aa 2) (wu au) wt))) (qR (nL (eR X) (aH (aI Z (X.mono (by decide)) (af (aa 0) (af au av aF) ax))) (aa 3))))) (aL (aZ gw)) b9))) b9) (az (dm (kI (eR X) (aJ (aa 1) au) ig) (az (dm (qS (nH (sO (aJ (aa 1) au) au) (kB (kI (eR X) (aJ (aH (aI Z (X.mono (by decide)) (af (aa 0) (af (gf (aJ (aa 1) au) au) av gg) ax))) au) au)))) (aL (aZ gw)) b9) (aL (aZ (sS (eR X) (aJ (aH (aI Z (X.mono (by decide)) (af (aa 0) (af (aJ (aa 1) au) av a7) ax))) au) au)))) b9) (az (dm (kI (eR X) (aJ (aa 1) au) ig) (az (bG 4 fg.nd (aH (aI Z (X.mono (by decide)) (af (aa 0) (af au av aF) ax))) (hs:=cH)) (aL (aZ (ik (sS (eR X) (aJ (aa 4) au) (aJ (aa 1) au)) (ik (sS (eR X) (aH (aI R (X.mono (by decide)) (af (aa 4) av ax))) (aH (Ft (d7 (af au av aF)) (aJ (aa 1) au)))) (jV (sS (eR X) (cU T.b_len (aH (aI O (X.mono (by decide)) (af (aa 4) av ax)))) au))))))) b9) (aL (aZ (ik (G2 (aJ (aa 2) au) (gf (aJ (aa 2) au) au)) (jV (aH (aI U (X.mono (by decide)) (af (aa 0) av ax))))))))))
end
theorem yR{P:d_}{w:ee}{K:dn}{Q:Str->Option b_}{base:f'}{f c C:cq}{I:f_}(F:Fun K "law" "law" (top 43) f I)(T:Txt K Q)(G:Mod K Q base)(z:BaseL K Q base)(TI:Ag K)(B:pd K g_ "law"=ar (ar (.ref f)))(J:lk K "law"=ar (c,C))(Y:∀base,Mod K Q base->DefX P w K Q base 6 "pieces" ["web"] bE)(Z:∀base,Mod K Q base->DefX P w K Q base 8 "sizes_ahead" ["web"] bF)(L:∀base,Mod K Q base->DefX P w K Q base 8 "fate" ["web"] fB)(U:∀base,Mod K Q base->DefX P w K Q base 2 "_law_state" ["_law_script","_law_k"] fM)(X:∀base,Mod K Q base->DefX P w K Q base 2 "_law_mixed_row" ["_law_state_here","_law_things"] bC)(N:∀base,Mod K Q base->DefX P w K Q base 3 "_law_web" ["_law_state_here","_law_most"] gp)(R:∀base,Mod K Q base->DefX P w K Q base 1 "_law_named" ["_law_web_here","_law_names"] dE)(S:∀base,Mod K Q base->DefX P w K Q base 11 "_law_right" ["_law_web_here"] eG):FnOk P w K Q base (lO P w) 12 f I ["_law_script"] (Ah K qh):=
 Fh (m:=AI) F oM rfl B J λA outer s H E O=>
  az (nI (b:=jo) Mu rfl (eP T.b_range (uU rfl T.b_max (af au (af (zV rfl T.b_min (af (cU T.b_len (aa 0)) (af au av aF) cG)) av cG) aF))) (aS 1 oM.nd) (az (bG 2 oM.nd (aI (U _ G) (O.mono (by decide)) (af (aa 0) (af (aa 1) av ax) ax)) (hs:=cH)) (az (bG 3 oM.nd (aH (aI (N _ G) (O.mono (by decide)) (af (aa 2) (af au av aF) ax))) (hs:=cH)) (az (dm (qS (nH (sP (DF O) (cU T.b_len (aH (aI (Y _ G) (O.mono (by decide)) (af (aa 3) av ax)))) au) (kB (il (gM (aH (aI (S _ G) (O.mono (by decide)) (af (aa 3) av ax)))))))) (aL (aZ gw)) b9) (az (bG 4 oM.nd (aH (aI (R _ G) (O.mono (by decide)) (af (aa 3) (af (aH (aI (X _ G) (O.mono (by decide)) (af (aa 2) (af (aH (iy rfl T.b_list T.b_range (aJ (aa 3) au))) av cG) ax))) av cG) ax))) (hs:=cH)) (az (dm (qS (sJ (nL (eR O) (aH (aI (Z _ G) (O.mono (by decide)) (af (aa 4) av ax))) (aH (aI (Z _ G) (O.mono (by decide)) (af (aa 3) av ax)))) (qR (nL (eR O) (cU T.b_len (aH (aI (Y _ G) (O.mono (by decide)) (af (aa 4) av ax)))) (cU T.b_len (aH (aI (Y _ G) (O.mono (by decide)) (af (aa 3) av ax)))))))) (aL (aZ gw)) b9) (aL (dm (qS (nH (sP (DF O) (cU T.b_len (aH (aI (Y _ G) (O.mono (by decide)) (af (aa 3) av ax)))) au) (kB (nL (eR O) (aH (aI (L _ G) (O.mono (by decide)) (af (aa 4) av ax))) (aH (aI (L _ G) (O.mono (by decide)) (af (aa 3) av ax))))))) (aL (aZ gw)) b9)))))))) (aL (aZ gw))
def D0:Stmt:=Hg (top 5)
theorem Ds:FnScope ["self","many","most"] ["self","many","most"] (ak D0):=kb
abbrev lP:Program:=PySem.Challenge.rw_tiewebs_k83_whole_fates_come.prog
abbrev kW(w:ee):W.Frag:=KH.K0 w.params
theorem fk{K:dn}{f c:cq}{m:b_}(x q:Str)(Z:nf)(l:K.lookup f=ar ⟨.type "function",aC,.func (w7 x q (eU Z) (cO Z) (ak Z) .none .none .none m aC (.ref c) .none), #[]⟩)(h:Nl K (.ref c) q=b')(k:rA K (.ref f)=b'):Fun K x q Z f (w7 x q (eU Z) (cO Z) (ak Z) .none .none .none m aC (.ref c) .none):=EN l h k
abbrev nK(w:ee)(x:Str):Option (Option b_):=pd (kW w) g_ x
abbrev B2:Value:=KH.zs "law_tiewebs_k83_whole_fates_come" 430
abbrev Jj:Value:=KH.zs "tiewebs.again" 399
abbrev HR:Value:=KH.zs "tiewebs.ties" 370
abbrev yX:Value:=KH.zs "tiewebs.webs" 282
theorem lq{w:ee}{Y:Str->Option b_}{h:f'}(X:(kW w).In h)(G:h.Ns g_ Y)(f c:cq)(m:b_)(x:Str)(Z:nf)(a:nK w x=ar (ar (.ref f)):=by kernel_rfl)(l:(kW w).lookup f=ar ⟨.type "function",aC,.func (w7 x x (eU Z) (cO Z) (ak Z) .none .none .none m aC (.ref c) .none), #[]⟩:=by kernel_rfl)(j:Nl (kW w) (.ref c) x=true:=by kernel_rfl)(k:rA (kW w) (.ref f)=true:=by kernel_rfl):Y x=ar (.ref f)/\Fun (kW w) x x Z f (w7 x x (eU Z) (cO Z) (ak Z) .none .none .none m aC (.ref c) .none):=⟨Li X G a,fk x x Z l j k⟩
theorem JK(w:ee)(S:Str->Option b_)(fa:cq)(h:f')(X:(kW w).In h)(G:h.Ns g_ S)(e1:S "law"=ar (.ref fa)):∃fd:f_,(∀(s:c_) (u:b_),EW s fd ⟨[u],[]⟩ [("_law_script",u)])/\∀base:f',Mod (kW w) S base->BaseL (kW w) S base->FnOk lP w (kW w) S base (lO lP w) 12 fa fd ["_law_script"] (Ah (kW w) qh):=by
 obtain⟨a8,F8⟩:=lq X G 89 88 yX "is_whole" (top 8);obtain⟨a9,F9⟩:=lq X G 96 95 yX "is_pair" (top 9);have aG:nK w "TooGreat"=ar (ar (.ref 80)):=by kernel_rfl
 have g:jG (kW w) 80 77=true:=by kernel_rfl
 have FG:=@fk (kW w) 77 76 (KH.zs "tiewebs.errors" 187) "__init__" "TooGreat.__init__" D0 (by kernel_rfl) (by kernel_rfl) (by kernel_rfl);obtain⟨i1,c6⟩:=lq X G 103 102 yX "is_place" (top 10);obtain⟨h5,a0⟩:=lq X G 110 109 yX "is_tie" (top 11);obtain⟨h9,b0⟩:=lq X G 115 114 yX "is_rising" (top 12);obtain⟨b5,b⟩:=lq X G 120 119 yX "is_web" (top 13);obtain⟨i0,a4⟩:=lq X G 127 126 yX "need_web" (top 14);obtain⟨f6,h3⟩:=lq X G 134 133 yX "need_number" (top 15);obtain⟨g5,e2⟩:=lq X G 139 138 yX "pairs_of" (top 16);obtain⟨h1,c7⟩:=lq X G 144 143 yX "degrees" (top 17);obtain⟨d0,b4⟩:=lq X G 149 148 yX "pieces" (top 18);obtain⟨b3,h7⟩:=lq X G 156 155 yX "need_joined" (top 19);obtain⟨e6,d3⟩:=lq X G 161 160 HR "ties_meet" (top 22);obtain⟨e0,b1⟩:=lq X G 168 167 HR "need_few_ties" (top 23);obtain⟨c1,c2⟩:=lq X G 173 172 HR "tie_web" (top 24);obtain⟨c,b2⟩:=lq X G 178 177 HR "ties_ahead" (top 25);obtain⟨f5,d⟩:=lq X G 186 185 Jj "made_again" (top 29);obtain⟨c3,e3⟩:=lq X G 191 190 Jj "sizes_ahead" (top 30);obtain⟨a,f3⟩:=lq X G 196 195 Jj "fate" (top 31);obtain⟨g7,b6⟩:=lq X G 203 202 B2 "_law_cell_at" (top 33);obtain⟨a5,e5⟩:=lq X G 210 209 B2 "_law_state" (top 34);obtain⟨h8,h2⟩:=lq X G 217 216 B2 "_law_take" (top 35);obtain⟨d2,c4⟩:=lq X G 222 221 B2 "_law_pairs" (top 36);obtain⟨c5,d1⟩:=lq X G 229 228 B2 "_law_mixed_row" (top 37);obtain⟨c0,g8⟩:=lq X G 234 233 B2 "_law_web" (top 38);obtain⟨a3,e4⟩:=lq X G 239 238 B2 "_law_named" (top 39);obtain⟨a6,e8⟩:=lq X G 246 245 B2 "_law_again" (top 40);obtain⟨h4,g4⟩:=lq X G 251 250 B2 "_law_grows" (top 41);obtain⟨h6,e7⟩:=lq X G 258 257 B2 "_law_right" (top 42);have i:nK w "law"=ar (ar (.ref 265)):=by kernel_rfl
 have f:=@fk (kW w) 265 264 (KH.zs "law_tiewebs_k83_whole_fates_come" 430) "law" "law" (top 43) (by kernel_rfl) (by kernel_rfl) (by kernel_rfl);obtain⟨⟨ct,Pt⟩,j⟩:=Ll.mp (show(lk (kW w) "law").isSome=b' by kernel_rfl);have e:=e1.symm.trans (Li X G i);cases e;have T:Txt (kW w) S:=⟨by kernel_rfl,by kernel_rfl,Kj X G (by kernel_rfl),Kj X G (by kernel_rfl),Kj X G (by kernel_rfl),Kj X G (by kernel_rfl),Kj X G (by kernel_rfl),Kj X G (by kernel_rfl),Kj X G (by kernel_rfl),Kj X G (by kernel_rfl),Kj X G (by kernel_rfl),Kj X G (by kernel_rfl),Kj X G (by kernel_rfl),Kj X G (by kernel_rfl),Kj X G (by kernel_rfl),Kj X G (by kernel_rfl),⟨284,Li X G (by kernel_rfl)⟩,⟨372,Li X G (by kernel_rfl)⟩,⟨401,Li X G (by kernel_rfl)⟩,Hi X G (by kernel_rfl)⟩;have GR:∀base,GrX lP w (kW w) S base:=λbase=>AC FG X T.err aG g Ds (by decide+kernel) (FG.binds λ_ _ _ _ _ _ us hl=>match us,hl with|[_,_,_],_=>rfl) rfl;refine⟨w7 "law" "law" (eU (top 43)) (cO (top 43)) (ak (top 43)) .none .none .none (KH.zs "law_tiewebs_k83_whole_fates_come" 430) aC (.ref 264) .none,λs v=>.of_eq rfl,λbase GM BL=>?_⟩;have R:=λbase (GB:Mod (kW w) S base)=>um (P:=lP) (w:=w) (base:=base) F8 a8 T;have H:=λbase (GB:Mod (kW w) S base)=>vY (P:=lP) (w:=w) (base:=base) F9 a9 T;have r:=λbase (GB:Mod (kW w) S base)=>sg (P:=lP) (w:=w) (base:=base) b0 h9 T;have o:=λbase (GB:Mod (kW w) S base)=>uo (P:=lP) (w:=w) (base:=base) e2 g5 T;have q:=λbase (GB:Mod (kW w) S base)=>si (P:=lP) (w:=w) (base:=base) d3 e6 T;have I:=λbase (GB:Mod (kW w) S base)=>mP (P:=lP) (w:=w) (base:=base) b6 g7 T;have L:=λbase (GB:Mod (kW w) S base)=>sj (P:=lP) (w:=w) (base:=base) h2 h8 T;have x:=λbase (GB:Mod (kW w) S base)=>pA (P:=lP) (w:=w) (base:=base) c4 d2 T;have A:=λbase (GB:Mod (kW w) S base)=>pB (P:=lP) (w:=w) (base:=base) e4 a3 T;have n:=λbase (GB:Mod (kW w) S base)=>uq (P:=lP) (w:=w) (base:=base) c6 i1 T (R base GB);have C:=λbase (GB:Mod (kW w) S base)=>oO (P:=lP) (w:=w) (base:=base) h3 f6 T (R base GB);have B:=λbase (GB:Mod (kW w) S base)=>pC (P:=lP) (w:=w) (base:=base) e5 a5 T (I base GB);have Z:=λbase (GB:Mod (kW w) S base)=>lp (P:=lP) (w:=w) (base:=base) d1 c5 T (L base GB);have l:=λbase (GB:Mod (kW w) S base)=>yO (P:=lP) (w:=w) (base:=base) a0 h5 T (H base GB) (n base GB);have p:=λbase (GB:Mod (kW w) S base)=>ur (P:=lP) (w:=w) (base:=base) g8 c0 T (L base GB) (x base GB) (Z base GB);have k:=λbase (GB:Mod (kW w) S base)=>yP (P:=lP) (w:=w) (base:=base) b b5 T (R base GB) (H base GB) (l base GB) (r base GB);have Y:=λbase (GB:Mod (kW w) S base)=>uu (P:=lP) (w:=w) (base:=base) a4 i0 T (k base GB);have U:=λbase (GB:Mod (kW w) S base)=>vZ (P:=lP) (w:=w) (base:=base) c7 h1 T (Y base GB);have J:=λbase (GB:Mod (kW w) S base)=>yQ (P:=lP) (w:=w) (base:=base) b4 d0 T (Y base GB);have K:=λbase (GB:Mod (kW w) S base)=>mm (P:=lP) (w:=w) (base:=base) b1 e0 T (GR base) (Y base GB);have F:=λbase (GB:Mod (kW w) S base)=>oP (P:=lP) (w:=w) (base:=base) h7 b3 T (J base GB);have E:=λbase (GB:Mod (kW w) S base)=>v5 (P:=lP) (w:=w) (base:=base) c2 c1 T (o base GB) (q base GB) (K base GB);have N:=λbase (GB:Mod (kW w) S base)=>pD (P:=lP) (w:=w) (base:=base) b2 c T (U base GB);have O:=λbase (GB:Mod (kW w) S base)=>pE (P:=lP) (w:=w) (base:=base) d f5 T (Y base GB) (C base GB) (E base GB);have Q:=λbase (GB:Mod (kW w) S base)=>oQ (P:=lP) (w:=w) (base:=base) e3 c3 T (U base GB) (N base GB);have m:=λbase (GB:Mod (kW w) S base)=>Dq (P:=lP) (w:=w) (base:=base) f3 a T (U base GB) (F base GB);have t:=λbase (GB:Mod (kW w) S base)=>pF (P:=lP) (w:=w) (base:=base) e8 a6 T (O base GB);have z:=λbase (GB:Mod (kW w) S base)=>pG (P:=lP) (w:=w) (base:=base) g4 h4 T (t base GB);have y:=λbase (GB:Mod (kW w) S base)=>pH (P:=lP) (w:=w) (base:=base) e7 h6 T (U base GB) (J base GB) (E base GB) (N base GB) (O base GB) (Q base GB) (m base GB) (z base GB);exact yR f T GM BL (Fg (show DG (kW w)=b' by kernel_rfl)) i j J Q m B Z p A y
end W
section
namespace W
open PySem PySem.Spec PyProof.Rows L2 S3 S4 S7
theorem F5(K:dn)(H:Hp)(a:cq)(ns:List Int)(X:TabsOk K H)(Z:BS K H a (ns.map V.int)):Ah K qh [.ref a] H (λv _=>v= .bl b') λ_ _ _=>False:=by obtain⟨d,Y,e,hd⟩:=HC (S:=[]) (ns:=ns);refine⟨[],[],[.ro (ns.map D.int)],⟨.nil,rfl,(λk a xs h=>by cases h),X⟩,.cons (.ro Z (nO ns)) .nil,?_⟩;refine⟨.ok d,Y,e,λU R _ _=>?_⟩;subst hd;intro v T;cases T;rfl
theorem walk{l:Om}{q:d_}{loose:List Str}{XP:(Str->Option b_)->f'->Prop}{YP:ee->f'->Prop}{d:Oz}{K:M'->dn}(S:l.most=ar 63)(Y:d.params.defaults=[])
  (R:∀(w:ee) (h:f'),YP w h->(K w.params).In h) (T:∀w:ee,Oy (K w.params)=b')
  (Z:∀(w:ee) (h:f'),YP w h->∀y∈cF,∀c Q,lk (K w.params) y=ar (c,Q)->NP h c Q/\h.get? Q=ar (C_ #[]))
  (F:∀(w:ee) (mg:Str->Option b_) (fa:cq) (h:f'),(K w.params).In h->h.Ns g_ mg->mg d.name=ar (.ref fa)->
   ∃fd:f_,(∀(s:c_) (u:b_),EW s fd ⟨[u],[]⟩ [("_law_script",u)])/\∀base:f',Mod (K w.params) mg base->BaseL (K w.params) mg base->FnOk l.prog w (K w.params) mg base (lO l.prog w) 12 fa fd ["_law_script"] (Ah (K w.params) qh)):
  OF q loose XP YP l.row.toRowW d [] (λf vs=>PySem.call f vs):=
 Ak (n:=63) (k:=12) (x:="_law_script") (sp:=λw=>Ah (K w.params) qh) S (by decide) Y ⟨rfl,by decide,by decide⟩ R T Z F λw H a ns _ U X=>F5 (K w.params) H a ns U X
end W
open PySem PySem.W PyProof.Rows
set_option maxRecDepth 100000 in
set_option maxHeartbeats 0 in
theorem PySem.Challenge.cw_tiewebs_k83_whole_fates_come_holds : PySem.Challenge.rw_tiewebs_k83_whole_fates_come.Holds := by
 w_on;o_law
 refine holds_open (q:=KH.vq) (loose:=[]) (Xt:=KH.Xt0) (XP:=XL KH.vq []) (Yf:=Ot (Ni KH.K0 KH.as0 KH.as0_eq KH.ts0)) (Ya:=Ou (Ni KH.K0 KH.as0 KH.as0_eq KH.ts0)) (YP:=Hook.says (Ni KH.K0 KH.as0 KH.as0_eq KH.ts0)) (N:=4150) KH.left0 (Hook.of (Ni KH.K0 KH.as0 KH.as0_eq KH.ts0)) (Hook.keeps (Ni KH.K0 KH.as0 KH.as0_eq KH.ts0)) (fun s e=>xl_of s (Bool.and_eq_true_iff.mp e).1) XL.keeps (by rfl) (by rfl) (by rfl) (fun s e=>recFacts_of (Bool.and_eq_true_iff.mp e).2) (by rfl) (by first|assumption|decide+kernel) (by decide+kernel) ⟨rfl,rfl,rfl,rfl,rfl,by decide+kernel⟩ ?hw ?hc
 case hw=>w_witness2
 refine W.walk (l:=PySem.Challenge.rw_tiewebs_k83_whole_fates_come) rfl rfl (fun w h Y=>PySem.W.km_in_of Y) ?nt (fun w h Y=>S7.IZ (w:=w) ?ck Y) W.JK
 case nt=>intro w;kernel_rfl
 case ck=>kernel_rfl
end
