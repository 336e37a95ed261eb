import PyProof.Rows.All
import Wide.All
import OpenK.AllK
import Wide.FinOn
import PySem.Challenge.RW_tiewebs_k05_whole_tie_webs
import Lean
import PyProof.EqAt
import PyProof.EqKinds
import PyProof.TupleCall
import PyProof.SetScanFacts
import PyProof.EnumMake
import PyProof.Draws
import PyProof.ExcInit
import PyProof.ExcClass3
import PyProof.InstStore
import KE.KUnpack
import PyProof.P3In
set_option Elab.async false
set_option compiler.extract_closed false
set_option linter.all false
set_option maxRecDepth 100000
set_option maxHeartbeats 8000000
noncomputable section
open Option renaming some->ar
open Pure renaming pure->aC
open PySem renaming Value->a_,Addr->b',Shared->c_,starEach->eb,Program->ed,World->ee,wpAny->er,FuncData->eM,model->ff,Heap->f_,mainGlobals->g_,foldedSetIterable->hh,Around->hF,eval->h_,compareOp->ij,cellsFrom->j',importedModules->kr,bootBuiltins->la,behindInMarks->ly,NameKind->mh,PyData->o_,backTo->pb,assignEach->pd,IsPair->p4,Stmt->p7,swapsWith->p8,binaryOp->ri,attributeBase->u5,codeAny->vr,builtinsNs->wh,sliceBounds->wL,excClassObj->w_,rawInt->xy,callerA->x_,ExcBaseFacts->x',letOwnedTupleGo->y4,holding->z_,noteFrame->B_,standAt->F_,cLine->GB,BindsTo->G_,treeTable->J_,IsZip->K_,assign->K',Params->M_,GenState->M',OsState->Nw,PassesOwn->Nz,Arguments->NA,seq_tuple_add->NG,wpAny_attempt->NH,pyNext->NI,IsPart->NJ,again->NK,leaving->NN,concat_meets->NP,getItem->NQ,compTurn->NT,SetTable->NU,lastMarks->NZ,seqIndex?->N1,seqIndex_of->N9,field->N_,wpAny_letGo->Oa,Keyword->Oc,OwnTail->Od,wpAny_Name->Of,pyIter->Og,wpAny_call->Oh,bindL->Oi,bindC->Oj,ZipApart->Om,isInstance->On,Result->Ox,compPost->OC,DefRec->OE,intKind->OH,Model->OI,setItem->OJ,Meets->OQ
open Bool renaming true->b_,false->dV,and_eq_true->i',false_eq_true->kl,or_eq_true->v_,true_and->G',not_true->NF,or_true->NX
open PySem.W renaming Frag->dt,tabIn->nC,kas_place->qq,kas_asc->q_,kas_desc->r_,nsIn->sb,kas_rev->t_,kas_sort->u',openSeen->xi,openGood->xj,keepIn->y2,kitOne->y3,boot_heap->A',fnOf->B',findIn->EA,tabObj->E_,behindTheImports->I_,findIn->J',kmHook->Nq,kas_bin->NB,codeIn->NO,kas_descPart->NS,CodeHd->NW,kas_count->N5,methodObj->N7,instObj->Os,OpenLaw->Ou,kas_tail3->Ov,excIn->Oy,lookIn->OB,noTabs->OD,KasT->OF,OpenLaw->OK,WalkO->OL,mroIn->ON,clsIn->OO,Frag->OR
open List renaming range->d_,not_mem_nil->e_,mem_cons->f',getD_eq_getElem?_getD->i_,lookup_cons->k_,replicate->lk,size_toArray->mu,range'->n_,length_cons->s_,getD_cons_zero->u3,all_cons->vn,length_nil->y_,toArray->A_,zip_cons_cons->D_,drop_zero->D',all_eq_true->Ic,forIn_cons->MX,map_cons->NC,any_cons->ND,length->N8,getD->Ow
open PySem.PyData renaming eqv->gi,eqvAll->l_,int->oo,depthAll->pa,tuple->u0,list->w7
open PySem.Value renaming ref->gj,none->j_,bool->v',int->wk,str->NY,type->Oe
open PySem.NameKind renaming free->hD,cell->pz
open PySem.Builtin.SmallTypes renaming nextOf->hO,ownedTupleIsFree->kT
open PySem.Str renaming ofString->hY
open False renaming elim->kS
open Ne renaming symm->lx
open PyProof.Rows renaming step_dedup->m_,IntsAre->nf,seqObj->u4,AllBare->yn,envOfC->C_,IsTup->Oq,bubble->OG,Call_->OP
open PySem.Builtin.Slice renaming slicePlaces->oD,sliceAdjust->u2
open PySem.Builtin.Tuple renaming tupleExact->pe
open PySem.Obj renaming mapSeq->p_,mapFields->H_
open PySem.Builtin.List renaming listTooLong->u_
open Array renaming mk->y1,length_toList->z3
open ForInStep renaming yield->y'
open PySem.Heap renaming SameBut->z4,MadeExcOf->Nt,IsTuple->NV
open Nat renaming add_sub_cancel->Fn,zero_add->L',not_lt->Ol
open Int renaming toNat_natCast->F0
open True renaming intro->L_
open Or renaming inr->Nr,inl->N4
open Sum renaming inl->Nx,inr->Ny
open PySem.Around renaming under->NL
open PySem.Code renaming isFrame->NM
open PySem.W.KasT renaming ret->NR
open LawfulBEq renaming eq_of_beq->N0
open And renaming intro->N6
open PySem.Shared renaming heap->Ob
open PySem.Within renaming nil->Oo
open PyProof.Rows.IsTup renaming new->Ot
open PySem.W.Hook renaming obs->Oz,val->OA
open ForIn renaming forIn->OM
abbrev JU:=@PySem.wpAny_bind
abbrev JV:=@List.length_map
abbrev JW:=@PySem.Heap.get?_push_of_some
abbrev JX:=@List.getElem?_eq_getElem
abbrev JY:=@Nat.le_refl
abbrev JZ:=@PySem.wpAny_pure
abbrev J0:=@PySem.Heap.lt_size
abbrev J1:=@i_
abbrev J2:=@List.getElem?_eq_some_iff
abbrev J3:=@decide_eq_true
abbrev J4:=@Nat.le_trans
abbrev J5:=@List.length_append
abbrev J6:=@PySem.W.mg_of
abbrev J7:=@List.mem_cons_of_mem
abbrev J8:=@mu
abbrev J9:=@PySem.Heap.get?_push_size
abbrev Ka:=@List.mem_range
abbrev Kb:=@List.mem_map
abbrev Kc:=@List.length_range
abbrev Kd:=@Nat.lt_of_lt_of_le
abbrev Ke:=@List.map_map
abbrev Kf:=@Nat.ne_of_lt
abbrev Kg:=@decide_eq_false
abbrev Kh:=@List.mem_filter
abbrev Ki:=@Ic
abbrev Kj:=@List.mem_cons_self
abbrev Kk:=@decide_eq_true_eq
abbrev Kl:=@Option.some.inj
abbrev Km:=@f'
abbrev Kn:=@i'
abbrev Ko:=@List.mem_append_right
abbrev Kq:=@PySem.wpAny_mono
abbrev Kr:=@NC
abbrev Ks:=@PySem.W.mg_none_of
abbrev Kt:=@k_
abbrev Ku:=@Nat.zero_le
abbrev Kv:=@List.length_filter_le
abbrev Kw:=@of_decide_eq_true
abbrev Kx:=@List.getElem?_append_left
abbrev Ky:=@List.mem_of_getElem?
abbrev Kz:=@congrFun
abbrev KB:=@List.pairwise_cons
abbrev KC:=@PySem.Heap.get?_update_other
abbrev KD:=@s_
abbrev KF:=@List.length_take
abbrev KG:=@List.getElem?_map
abbrev KI:=@List.pairwise_map
abbrev KJ:=@PySem.wpAny_field
abbrev KL:=@List.countP_eq_length_filter
abbrev KN:=@List.Pairwise.imp_of_mem
abbrev KO:=@PySem.wpAny_standAt
abbrev KP:=@PySem.Heap.get?_none_of_le
abbrev KQ:=@List.getElem?_set_ne
abbrev KR:=@List.getElem?_set_self
abbrev KS:=@List.append_nil
abbrev KU:=@PySem.W.kia_one
abbrev KW:=@List.nodup_cons
abbrev KY:=@List.cons.inj
abbrev KZ:=@PySem.wpAny_truthy_bool
abbrev K1:=@PySem.wpAny_newObj_type
abbrev K2:=@List.getElem?_eq_none
abbrev K3:=@PySem.Heap.size_push
abbrev K4:=@Nat.lt_irrefl
abbrev K5:=@PyProof.Rows.callWith_type1
abbrev K6:=@Array.getD_eq_getD_getElem?
abbrev K7:=@List.countP_cons
abbrev K8:=@List.getElem_map
abbrev K9:=@PySem.sizeLine_eq
abbrev La:=@F0
abbrev Lc:=@PyProof.Rows.slot_tuple_getitem
abbrev Ld:=@PySem.wpAny_holding
abbrev Le:=@G'
abbrev Lf:=@List.Pairwise.sublist
abbrev Lg:=@Bool.false_ne_true
abbrev Lh:=@PySem.wpAny_call_entry
abbrev Li:=@Nat.lt_succ_of_lt
abbrev Lj:=@List.filter_sublist
abbrev Lk:=@PySem.F.slot_tuple_iterator_next
abbrev Ll:=@Array.getElem?_eq_some_iff
abbrev Lm:=@PySem.F.excBase_ValueError
abbrev Ln:=@List.getElem_mem
abbrev Lo:=@List.mem_filterMap
abbrev Lp:=@PySem.wpAny_pyIter_tuple
abbrev Lq:=@PySem.Heap.get?_update_self
abbrev Lr:=@Array.getElem?_toList
abbrev Ls:=@Nat.le_of_eq
abbrev Lu:=@PySem.wpAny_setField_rec
abbrev Lv:=@List.mem_singleton
abbrev Lw:=@Bool.false_and
abbrev Lx:=@List.pairwise_iff_getElem
abbrev Ly:=@PySem.wpAny_seqItems
abbrev Lz:=@PySem.wpAny_passesOwn
abbrev LA:=@Option.isSome_iff_exists
abbrev LB:=@PySem.AutoSeq1.wpAny_loadPart'
abbrev LC:=@Bool.eq_iff_iff
abbrev LD:=@List.filter_map
abbrev LF:=@PySem.mem_of_lookup
abbrev LG:=@PySem.Heap.get?_update_ne
abbrev LH:=@List.filter_cons_of_pos
abbrev LI:=@List.filter_cons_of_neg
abbrev LJ:=@List.map_congr_left
abbrev LK:=@Nat.lt_succ_self
abbrev LL:=@List.range_succ_eq_map
abbrev LM:=@PySem.Heap.size_after_update
abbrev LN:=@List.take_of_length_le
abbrev LO:=@PySem.Obj.data_mapFields
abbrev LP:=@List.getElem?_take
abbrev LQ:=@Nat.ne_of_gt
abbrev LR:=@Nat.le_succ
abbrev LS:=@PySem.wpAny_loadPart_at
abbrev LU:=@List.getElem?_append_right
abbrev LV:=@List.perm_ext_iff_of_nodup
abbrev LW:=@List.mem_iff_getElem
abbrev LX:=@List.drop_eq_getElem_cons
abbrev LY:=@List.length_drop
abbrev LZ:=@Nat.succ_le_succ
abbrev L0:=@Bool.not_eq_true
abbrev L3:=@List.ext_getElem
abbrev L4:=@List.filterMap_cons
abbrev L5:=@Nat.le_of_lt
abbrev L6:=@PySem.F.args_tuple_add_2
abbrev L7:=@List.all_map
abbrev L8:=@List.of_mem_zip
abbrev L9:=@PySem.F.entry_tuple_add
abbrev Ma:=@Array.Perm.refl
abbrev Mb:=@beq_false_of_ne
abbrev Mc:=@Int.emod_lt_of_pos
abbrev Md:=@Int.eq_ofNat_of_zero_le
abbrev Me:=@PySem.PassesOwn.never
abbrev Mf:=@PySem.W.cellsFrom_some
abbrev Mg:=@PySem.F.slot_tuple_add
abbrev Mh:=@List.drop_eq_nil_of_le
abbrev Mi:=@Nat.le_of_succ_le
abbrev Mj:=@List.append_assoc
abbrev Ml:=@List.mem_range'_1
abbrev Mm:=@Prod.ext
abbrev Mn:=@List.map_nil
abbrev Mo:=@List.countP_mono_left
abbrev Mp:=@PySem.Obj.isFreed_of_fields
abbrev Mq:=@List.getElem_inj
abbrev Mr:=@PySem.wpAny_isInstance
abbrev Ms:=@PySem.wpAny_pyIter_zip
abbrev Mt:=@List.mem_flatMap
abbrev Mu:=@List.nodup_range
abbrev Mv:=@PySem.Calls.evalArgs_plain
abbrev Mw:=@PySem.wpAny_updateSeq_pair
abbrev Mx:=@congrArg
abbrev My:=@PySem.F.args_tuple_iterator_next_1
abbrev Mz:=@PySem.wpAny_rule
abbrev MA:=@PySem.wpAny_execs_nil
abbrev MB:=@z3
abbrev MC:=@List.getElem?_range
abbrev MD:=@PySem.F.entry_tuple_iterator_next
abbrev ME:=@PySem.F.slot_zip_next
abbrev MF:=@Int.emod_nonneg
abbrev MG:=@List.map_append
abbrev MH:=@List.idxOf_lt_length_of_mem
abbrev MI:=@PySem.Calls.Name_function_global
abbrev MJ:=@PySem.codeAny_mono
abbrev MK:=@PySem.wpAny_Call_Name_kw
abbrev ML:=@Nat.lt_of_le_of_lt
abbrev MM:=@Int.zero_add
abbrev MN:=@List.getElem?_drop
abbrev MO:=@Nat.succ_mul
abbrev MP:=@List.length_range'
abbrev MQ:=@PySem.wpAny_setField
abbrev MR:=@PySem.isSubtype_stop
abbrev MS:=@PySem.wpAny_letOwnedTupleGo_zip
abbrev MT:=@List.getElem?_zip_eq_some
abbrev MU:=@Decidable.byContradiction
abbrev MV:=@PySem.wpAny_pyIter_list
abbrev MW:=@PyProof.Rows.intsAre_of
abbrev MY:=@List.ext_getElem?
abbrev MZ:=@List.Perm.eq_of_pairwise
abbrev M0:=@PySem.wpAny_pyIter_enum
abbrev M1:=@PySem.wpAny_Call_ofName
abbrev M3:=@List.range'_eq_map_range
abbrev M4:=@List.flatMap_cons
abbrev M5:=@Nat.lt_trichotomy
abbrev M6:=@PySem.wpAny_onRaise
abbrev M7:=@ND
abbrev M8:=@List.pairwise_singleton
abbrev M9:=@PySem.wpAny_eqBool_int
abbrev Na:=@PySem.noFill_tuple_add
abbrev Nb:=@Nat.le_of_not_lt
abbrev Nd:=@decide_eq_decide
abbrev Nf:=@List.mem_append
abbrev Ng:=@PySem.wpAny_loadPart'
abbrev Nh:=@PySem.wpAny_typeOf
abbrev Ni:=@List.length_set
abbrev Nj:=@PySem.pushCells_keeps
abbrev Nk:=@Nat.min_le_left
abbrev Nl:=@Nat.sub_self
abbrev Nm:=@List.countP_map
abbrev Nn:=@PySem.Within.cons
abbrev Np:=@List.map_id
abbrev Nu:=@NF
abbrev Nv:=@PySem.call_meets
namespace KH
open PySem PySem.W PySem.Spec PyProof.Rows
def tp(i:Nat):Stmt:=PySem.Challenge.pw_tiewebs_k05_whole_tie_webs.main.body.getD i (.Pass ⟨0,0,0,0⟩)
def iC:p7->p7
 | .ClassDef _ _ _ (b::_) .. =>b
 |s=>s
def dA(s:p7):Arguments:=match s with
 | .FunctionDef _ a _ _ _ _ _ _ _ _=>a
 |_=>{posonlyargs:=[],args:=[],vararg:=none,kwonlyargs:=[],kw_defaults:=[],kwarg:=none,defaults:=[]}
def dB(s:p7):List Stmt:=match s with
 | .FunctionDef _ _ b _ _ _ _ _ _ _=>b
 |_=>[]
def dS(s:p7):Scope:=match s with
 | .FunctionDef _ _ _ _ _ _ sc _ _ _=>sc
 |_=>{kind:=.function,names:=[],isGenerator:=dV,isCoroutine:=dV}
def zs(x:String)(t:Nat):Value:=.str (hY x) t
def ze(P:M_)(x:String)(t:Nat)(v:a_):DictEntry:=⟨PyData.keyHash P (hY x),zs x t,v⟩
def zt(xs:Array a_):Obj:=⟨.type "tuple",none,.seq xs, #[]⟩
def zc(n q:String)(a:Nat)(l ac p5 p6 fl:Int)(r8:a_)(p10:Int)(r11 r13 r14 r15:a_)(p16:Int)(t:Nat):Obj:=⟨.type "code",none,.fields #[zs n a,zs q (a+1),zs "/claim/cut.py" (a+2),.int l 0,.int ac 0,.int p5 0,.int p6 0,.int fl 0,r8,.bool b_,.int p10 0,r11,.none,r13,r14,r15,.int p16 0,.int l 0,zs "/claim/cut.py" t], #[]⟩
def zf(n q:String)(st:p7)(kV dc pm:a_)(an:Option b')(cd ct:a_):Data:=.func (B' (hY n) (hY q) (dA st) (dB st) (dS st) .none kV dc pm an cd ct)
def zg(n q:String)(st:p7):Obj:=⟨.none,none,.func {name:=hY n,qualname:=hY q,params:=dA st,body:=.stmts (dB st),scope:=dS st,globals:=0,closure:=[],defaults:=.none,kwdefaults:=.none}, #[]⟩
def z0:Obj:=⟨.none,none,.fields #[],#[]⟩
def zp:Obj:=⟨.type "builtin_function_or_method",none,.fields #[.builtin "type.__prepare__",.type "type"],#[]⟩
def zu(a:Nat):Obj:=⟨.type "super",none,.fields #[.ref a,.ref a,.ref a],#[]⟩
def zi(a:Nat):Obj:=⟨.type "builtin_function_or_method",none,.fields #[.builtin "object.__init_subclass__",.ref a],#[]⟩
def zr(a b:Nat)(v:a_):Obj:=⟨.type "frame",none,.plain,#[ar (.ref a),ar (.ref 3),ar (.ref b),none,ar v,none,ar (.ref 0)]⟩
def zk(n:String)(a b c:Nat)(l:Int)(r:Nat)(m:Int)(s:Nat)(x y:Int)(t:Nat):Obj:=⟨.type "code",none,.fields #[zs n a,zs n b,zs "/claim/cut.py" c,.int l 0,.int 0 0,.int 0 0,.int 0 0,.int 0 0,.ref r,.bool dV,.int m 0,.ref s,.none,.none,.none,.none,.int x 0,.int y 0,zs "/claim/cut.py" t],#[]⟩
def zE(n:String)(i x a:Nat)(l ac fl:Int)(md:String)(m t:Nat):List Obj:=[zt #[],z0,zg n n (tp i),zc n n a l ac 0 0 fl (.ref x) 181 (.ref (x+1)) .none .none (.ref (x+2)) t (t+1),⟨.type "function",none,zf n n (tp i) .none .none (zs md m) none (.ref (x+3)) .none,#[]⟩]
def zD(n:String)(i x a:Nat)(l ac fl:Int)(v:Array a_)(md:String)(m t:Nat):List Obj:=[zt #[],z0,zt v,zt #[],zg n n (tp i),zc n n a l ac 0 0 fl (.ref x) 181 (.ref (x+1)) (.ref (x+2)) (.ref (x+3)) (.ref (x+4)) t (t+1),⟨.type "function",none,zf n n (tp i) .none .none (zs md m) none (.ref (x+5)) .none,#[]⟩]
def zC(P:M_)(n:String)(a t l:Nat):List Obj:=[zp,⟨(.type "dict"),none,(.dict #[ze P "__module__" (t+5) (zs "tiewebs.errors" 187),ze P "__qualname__" (t+7) (zs n (t+6)),ze P "__firstlineno__" (t+9) (.int l (t+8)),ze P "__static_attributes__" (t+10) (.ref (a+6))] 4),#[]⟩,zt #[],z0,zk n t (t+1) (t+2) l (a+2) 181 (a+3) (t+3) l (t+4),zr (a+4) (a+1) (zs "tiewebs.errors" 187),zt #[],⟨(.type "dict"),none,(.dict #[ze P "__module__" (t+5) (zs "tiewebs.errors" 187),ze P "__firstlineno__" (t+9) (.int l (t+8)),ze P "__static_attributes__" (t+10) (.ref (a+6)),ze P "__doc__" (t+11) .none] 2),#[]⟩,⟨(.type "type"),none,(.cls ⟨(hY n),[(.ref 24)],[(.ref (a+8)),(.ref 24),(.type "ValueError"),(.type "Exception"),(.type "BaseException"),(.type "object")],(a+7),(hY n),b_,[],[],dV,none,dV⟩),#[ar (.ref (a-1)),none,ar (zs n (t-2)),ar (zs n (t+6)),ar (.builtin "ValueError.__new__"),ar (.bool b_)]⟩,zu (a+8),zi (a+8),zt #[(.ref 24)]]
def ml:String:="law_tiewebs_k05_whole_tie_webs"
def L1(P:M_):List Obj:=[boot_o_0 P,boot_o_1 P,boot_o_2 P,⟨(.type "dict"),none,(.dict #[ze P "__name__" 165 (zs ml 520),ze P "__doc__" 166 .none,ze P "__package__" 167 .none,ze P "__loader__" 168 (.builtin "__main__.__loader__#opaque"),ze P "__spec__" 169 .none,ze P "__annotations__" 170 (.ref 6),ze P "__builtins__" 171 (.ref 4),ze P "__file__" 173 (zs "/claim/cut.py" 172),ze P "__cached__" 174 .none,ze P "WebError" 206 (.ref 24),ze P "NoWeb" 222 (.ref 37),ze P "NoPlace" 238 (.ref 49),ze P "NoPlaces" 254 (.ref 61),ze P "TooGreat" 281 (.ref 80),ze P "MOST_PLACES" 285 (.int 14 284),ze P "is_whole" 292 (.ref 89),ze P "is_pair" 299 (.ref 96),ze P "is_place" 307 (.ref 103),ze P "is_tie" 317 (.ref 110),ze P "is_rising" 323 (.ref 115),ze P "is_places" 329 (.ref 120),ze P "is_web" 335 (.ref 125),ze P "need_web" 342 (.ref 132),ze P "need_place" 350 (.ref 139),ze P "need_few_places" 358 (.ref 146),ze P "pairs_of" 364 (.ref 151),ze P "are_tied" 373 (.ref 158),ze P "degrees" 379 (.ref 163),ze P "within" 385 (.ref 168),ze P "MOST_TIES" 389 (.int 7 388),ze P "ties_meet" 395 (.ref 173),ze P "need_few_ties" 402 (.ref 180),ze P "tie_web" 408 (.ref 185),ze P "star_of" 414 (.ref 190),ze P "ties_ahead" 420 (.ref 195),ze P "MOST_CROWDED" 424 (.int 7 423),ze P "LEAST_CROWD" 426 (.int 2 425),ze P "need_crowded" 433 (.ref 202),ze P "joins" 439 (.ref 207),ze P "crowd_holds" 445 (.ref 212),ze P "is_crowd" 453 (.ref 219),ze P "MOST_MAPPED" 457 (.int 7 456),ze P "need_mapped" 465 (.ref 226),ze P "goes_on" 471 (.ref 231),ze P "map_holds" 477 (.ref 236),ze P "first_map_from" 489 (.ref 243),ze P "map_to" 497 (.ref 250),ze P "MOST_AT_A_PLACE" 501 (.int 2 500),ze P "how_many_have" 507 (.ref 255),ze P "are_crowds" 513 (.ref 260),ze P "is_sharing" 519 (.ref 265),ze P "_law_cell_at" 529 (.ref 272),ze P "_law_state" 538 (.ref 279),ze P "_law_take" 548 (.ref 286),ze P "_law_pairs" 554 (.ref 291),ze P "_law_mixed_row" 564 (.ref 298),ze P "_law_web" 570 (.ref 303),ze P "_law_named" 576 (.ref 308),ze P "_law_right" 582 (.ref 313),ze P "law" 594 (.ref 320)] 60),#[]⟩,boot_o_4 P,boot_o_5 P,boot_o_6 P,boot_o_7 P,boot_o_8 P,boot_o_9 P,boot_o_10 P,zt #[],⟨.none,none,(.fields #[(.int 2 0),(.int 0 0),(.ref 20),(.int 4 0),(.int 0 0),(.ref 33),(.int 6 0),(.int 0 0),(.ref 45),(.int 8 0),(.int 0 0),(.ref 57),(.int 10 0),(.int 0 0),(.ref 69),(.int 17 0),(.int 0 0),(.ref 88),(.int 19 0),(.int 0 0),(.ref 95),(.int 21 0),(.int 0 0),(.ref 102),(.int 23 0),(.int 0 0),(.ref 109),(.int 28 0),(.int 0 0),(.ref 114),(.int 30 0),(.int 0 0),(.ref 119),(.int 32 0),(.int 0 0),(.ref 124),(.int 39 0),(.int 0 0),(.ref 131),(.int 42 0),(.int 0 0),(.ref 138),(.int 46 0),(.int 0 0),(.ref 145),(.int 50 0),(.int 0 0),(.ref 150),(.int 52 0),(.int 0 0),(.ref 157),(.int 54 0),(.int 0 0),(.ref 162),(.int 58 0),(.int 0 0),(.ref 167),(.int 67 0),(.int 0 0),(.ref 172),(.int 69 0),(.int 0 0),(.ref 179),(.int 73 0),(.int 0 0),(.ref 184),(.int 78 0),(.int 0 0),(.ref 189),(.int 81 0),(.int 0 0),(.ref 194),(.int 86 0),(.int 0 0),(.ref 201),(.int 88 0),(.int 0 0),(.ref 206),(.int 90 0),(.int 0 0),(.ref 211),(.int 94 0),(.int 0 0),(.ref 218),(.int 99 0),(.int 0 0),(.ref 225),(.int 104 0),(.int 0 0),(.ref 230),(.int 109 0),(.int 0 0),(.ref 235),(.int 117 0),(.int 0 0),(.ref 242),(.int 127 0),(.int 0 0),(.ref 249),(.int 134 0),(.int 0 0),(.ref 254),(.int 136 0),(.int 0 0),(.ref 259),(.int 138 0),(.int 0 0),(.ref 264),(.int 147 0),(.int 0 0),(.ref 271),(.int 151 0),(.int 0 0),(.ref 278),(.int 156 0),(.int 0 0),(.ref 285),(.int 165 0),(.int 0 0),(.ref 290),(.int 170 0),(.int 0 0),(.ref 297),(.int 176 0),(.int 0 0),(.ref 302),(.int 190 0),(.int 0 0),(.ref 307),(.int 192 0),(.int 0 0),(.ref 312),(.int 206 0),(.int 0 0),(.ref 319)]),#[]⟩,⟨(.type "code"),none,(.fields #[(zs "<module>" 182),(zs "<module>" 183),(zs "/claim/cut.py" 184),(.int 1 0),(.int 0 0),(.int 0 0),(.int 0 0),(.int 0 0),(.ref 11),(.bool dV),(.int 181 0),(.ref 12),.none,.none,.none,.none,(.int 185 0),(.int 1 0),(zs "/claim/cut.py" 186)]),#[]⟩,zr 13 3 (zs "__main__" 164),zt #[(.type "ValueError")],zp,⟨(.type "dict"),none,(.dict #[ze P "__module__" 196 (zs "tiewebs.errors" 187),ze P "__qualname__" 198 (zs "WebError" 197),ze P "__firstlineno__" 200 (.int 2 199),ze P "__static_attributes__" 201 (.ref 22)] 4),#[]⟩,zt #[],z0,zk "WebError" 191 192 193 2 18 181 19 194 2 195,zr 20 17 (zs "tiewebs.errors" 187),zt #[],⟨(.type "dict"),none,(.dict #[ze P "__module__" 196 (zs "tiewebs.errors" 187),ze P "__firstlineno__" 200 (.int 2 199),ze P "__static_attributes__" 201 (.ref 22),ze P "__weakref__" 203 (.ref 25),ze P "__doc__" 204 .none] 3),#[]⟩,⟨(.type "type"),none,(.cls ⟨(hY "WebError"),[(.type "ValueError")],[(.ref 24),(.type "ValueError"),(.type "Exception"),(.type "BaseException"),(.type "object")],23,(hY "WebError"),b_,[],[(.ref 37),(.ref 49),(.ref 61),(.ref 80)],dV,none,dV⟩),#[ar (.ref 15),none,ar (zs "WebError" 189),ar (zs "WebError" 197),ar (.builtin "ValueError.__new__"),ar (.bool b_)]⟩,⟨(.type "getset_descriptor"),none,(.fields #[(zs "__weakref__" 202),(.ref 24),(.builtin "ExceptionGroup.__weakref__"),.none]),#[]⟩,zu 24,zi 24,zt #[(.ref 24)]]++zC P "NoWeb" 29 209 4++zC P "NoPlace" 41 225 6++zC P "NoPlaces" 53 241 8++[zp,⟨(.type "dict"),none,(.dict #[ze P "__module__" 262 (zs "tiewebs.errors" 187),ze P "__qualname__" 264 (zs "TooGreat" 263),ze P "__firstlineno__" 266 (.int 10 265),ze P "__init__" 275 (.ref 77),ze P "__static_attributes__" 278 (.ref 78)] 5),#[]⟩,zt #[],⟨.none,none,(.fields #[(.int 12 0),(.int 4 0),(.ref 76)]),#[]⟩,zk "TooGreat" 257 258 259 10 67 181 68 260 10 261,zr 69 66 (zs "tiewebs.errors" 187),zt #[],z0,zt #[(zs "self" 270),(zs "many" 271),(zs "most" 272)],zt #[],zg "__init__" "TooGreat.__init__" (iC (tp 5)),zc "__init__" "TooGreat.__init__" 267 12 3 0 0 3 (.ref 71) 181 (.ref 72) (.ref 73) (.ref 74) (.ref 75) 273 274,⟨.type "function",none,(zf "__init__" "TooGreat.__init__" (iC (tp 5)) .none .none (zs "tiewebs.errors" 187) none (.ref 76) .none),#[]⟩,zt #[(zs "many" 276),(zs "most" 277)],⟨(.type "dict"),none,(.dict #[ze P "__module__" 262 (zs "tiewebs.errors" 187),ze P "__firstlineno__" 266 (.int 10 265),ze P "__init__" 275 (.ref 77),ze P "__static_attributes__" 278 (.ref 78),ze P "__doc__" 279 .none] 2),#[]⟩,⟨(.type "type"),none,(.cls ⟨(hY "TooGreat"),[(.ref 24)],[(.ref 80),(.ref 24),(.type "ValueError"),(.type "Exception"),(.type "BaseException"),(.type "object")],79,(hY "TooGreat"),b_,[],[],dV,none,dV⟩),#[ar (.ref 64),none,ar (zs "TooGreat" 255),ar (zs "TooGreat" 263),ar (.builtin "ValueError.__new__"),ar (.bool b_)]⟩,zu 80,zi 80]++zD "is_whole" 8 83 286 17 1 3 #[zs "thing" 289] "tiewebs.webs" 282 290++zD "is_pair" 9 90 293 19 1 3 #[zs "thing" 296] "tiewebs.webs" 282 297++zD "is_place" 10 97 300 21 2 3 #[zs "many" 303,zs "thing" 304] "tiewebs.webs" 282 305++zD "is_tie" 11 104 308 23 2 3 #[zs "many" 311,zs "thing" 312,zs "low" 313,zs "high" 314] "tiewebs.webs" 282 315++zE "is_rising" 12 111 318 28 1 3 "tiewebs.webs" 282 321++zE "is_places" 13 116 324 30 2 3 "tiewebs.webs" 282 327++zE "is_web" 14 121 330 32 1 3 "tiewebs.webs" 282 333++zD "need_web" 15 126 336 39 1 3 #[zs "thing" 339] "tiewebs.webs" 282 340++zD "need_place" 16 133 343 42 2 3 #[zs "web" 346,zs "place" 347] "tiewebs.webs" 282 348++zD "need_few_places" 17 140 351 46 2 3 #[zs "web" 354,zs "most" 355] "tiewebs.webs" 282 356++zE "pairs_of" 18 147 359 50 1 3 "tiewebs.webs" 282 362++zD "are_tied" 19 152 365 52 3 3 #[zs "web" 368,zs "one" 369,zs "other" 370] "tiewebs.webs" 282 371++zE "degrees" 20 159 374 54 1 3 "tiewebs.webs" 282 377++zE "within" 21 164 380 58 2 3 "tiewebs.webs" 282 383++zE "ties_meet" 24 169 390 67 2 3 "tiewebs.ties" 386 393++zD "need_few_ties" 25 174 396 69 1 3 #[zs "web" 399] "tiewebs.ties" 386 400++zE "tie_web" 26 181 403 73 1 3 "tiewebs.ties" 386 406++zE "star_of" 27 186 409 78 2 3 "tiewebs.ties" 386 412++zE "ties_ahead" 28 191 415 81 1 3 "tiewebs.ties" 386 418++zD "need_crowded" 32 196 427 86 1 3 #[zs "web" 430] "tiewebs.crowds" 421 431++zE "joins" 33 203 434 88 3 3 "tiewebs.crowds" 421 437++zE "crowd_holds" 34 208 440 90 2 3 "tiewebs.crowds" 421 443++zD "is_crowd" 35 213 446 94 2 3 #[zs "web" 449,zs "thing" 450] "tiewebs.crowds" 421 451++zD "need_mapped" 38 220 458 99 2 3 #[zs "one" 461,zs "other" 462] "tiewebs.maps" 454 463++zE "goes_on" 39 227 466 104 4 3 "tiewebs.maps" 454 469++zE "map_holds" 40 232 472 109 3 3 "tiewebs.maps" 454 475++zD "first_map_from" 41 237 478 117 3 3 #[zs "one" 481,zs "other" 482,zs "start" 483,zs "many" 484,zs "place" 485,zs "found" 486] "tiewebs.maps" 454 487++zD "map_to" 42 244 490 127 2 3 #[zs "one" 493,zs "other" 494] "tiewebs.maps" 454 495++zE "how_many_have" 45 251 502 134 2 3 "tiewebs.sharings" 498 505++zE "are_crowds" 46 256 508 136 2 3 "tiewebs.sharings" 498 511++zE "is_sharing" 47 261 514 138 2 3 "tiewebs.sharings" 498 517++zD "_law_cell_at" 49 266 522 147 2 3 #[zs "_law_script" 525,zs "_law_k" 526] ml 520 527++zD "_law_state" 50 273 530 151 2 3 #[zs "_law_script" 533,zs "_law_k" 534,zs "_law_cell" 535] ml 520 536++zD "_law_take" 51 280 539 156 2 3 #[zs "_law_state_here" 542,zs "_law_many" 543,zs "_law_found" 544,zs "_law_stirred" 545] ml 520 546++zE "_law_pairs" 52 287 549 165 1 3 ml 520 552++zD "_law_mixed_row" 53 292 555 170 2 3 #[zs "_law_state_here" 558,zs "_law_things" 559,zs "_law_left" 560,zs "_law_found" 561] ml 520 562++zE "_law_web" 54 299 565 176 2 3 ml 520 568++zE "_law_named" 55 304 571 190 2 3 ml 520 574++zE "_law_right" 56 309 577 192 2 3 ml 520 580++zD "law" 57 314 583 206 1 3 #[zs "_law_script" 586,zs "_law_k" 587,zs "_law_state_here" 588,zs "_law_web_here" 589,zs "_law_other" 590,zs "_law_places" 591] ml 520 592
def Lb(P:M_):List Obj:=[boot_o_0 P,boot_o_1 P,boot_o_2 P,boot_o_3 P,boot_o_4 P,boot_o_5 P,boot_o_6 P,boot_o_7 P,boot_o_8 P,boot_o_9 P,boot_o_10 P,zt #[],z0,⟨(.type "code"),none,(.fields #[(zs "<module>" 182),(zs "<module>" 183),(zs "/claim/cut.py" 184),(.int 1 0),(.int 0 0),(.int 0 0),(.int 0 0),(.int 0 0),(.ref 11),(.bool dV),(.int 181 0),(.ref 12),.none,.none,.none,.none,(.int 185 0),(.int 1 0),(zs "/claim/cut.py" 186)]),#[]⟩,zr 13 3 (zs "__main__" 164)]
def as0:List Addr:=[2,3,15,22,23,24,25,28,35,36,37,40,47,48,49,52,59,60,61,64,71,73,74,76,77,78,79,80,83,85,86,88,89,90,92,93,95,96,97,99,100,102,103,104,106,107,109,110,111,114,115,116,119,120,121,124,125,126,128,129,131,132,133,135,136,138,139,140,142,143,145,146,147,150,151,152,154,155,157,158,159,162,163,164,167,168,169,172,173,174,176,177,179,180,181,184,185,186,189,190,191,194,195,196,198,199,201,202,203,206,207,208,211,212,213,215,216,218,219,220,222,223,225,226,227,230,231,232,235,236,237,239,240,242,243,244,246,247,249,250,251,254,255,256,259,260,261,264,265,266,268,269,271,272,273,275,276,278,279,280,282,283,285,286,287,290,291,292,294,295,297,298,299,302,303,304,307,308,309,312,313,314,316,317,319,320]
def ts0:List Addr:=[310,315]
def vq:Program:={PySem.Challenge.pw_tiewebs_k05_whole_tie_webs with main:={PySem.Challenge.pw_tiewebs_k05_whole_tie_webs.main with body:=[tp 1,tp 2,tp 3,tp 4,tp 5,tp 7,tp 8,tp 9,tp 10,tp 11,tp 12,tp 13,tp 14,tp 15,tp 16,tp 17,tp 18,tp 19,tp 20,tp 21,tp 23,tp 24,tp 25,tp 26,tp 27,tp 28,tp 30,tp 31,tp 32,tp 33,tp 34,tp 35,tp 37,tp 38,tp 39,tp 40,tp 41,tp 42,tp 44,tp 45,tp 46,tp 47,tp 49,tp 50,tp 51,tp 52,tp 53,tp 54,tp 55,tp 56,tp 57]}}
def alt:Bool->List Obj->List Obj
 |_,[]=>[]
 |true,a::r=>a::alt dV r
 |false,_::r=>alt b_ r
def toT:Nat->List Obj->BT
 |0,_=>.nil
 |_+1,[]=>.nil
 |f+1,o::r=>.node o (toT f (alt b_ r)) (toT f (alt dV r))
def pick:Nat->List b'->List Obj->dt
 |i,as,o::os=>match as with
  |a::r=>if Nat.beq i a then (a,o)::pick (i+1) r os else pick (i+1) (a::r) os
  |[]=>[]
 |_,_,[]=>[]
def K0(P:M_):W.Frag:=pick 0 as0 (L1 P)
theorem as0_eq:∀P,as0=(K0 P).map (·.1):=fun _=>by kernel_rfl
abbrev pw:Program:=PySem.Challenge.pw_tiewebs_k05_whole_tie_webs
abbrev Xt0(s:c_):Bool:=xlAt vq [] s && recOk (RowW.records (OpenRow.toRowW (OpenLaw.row PySem.Challenge.rw_tiewebs_k05_whole_tie_webs))) s
def lf:Life:={}
def en:Env:={scope:=pw.main.scope,locals:=mainNs,globals:=mainNs,cells:=[],code:=(.ref 13),frame:=ar 14}
abbrev cE:Code:=.body (I_ pw) en
abbrev Bf:List Frame:=[topFrame ⟨0,0,0,0⟩]
abbrev S0(w:ee)(os:Nw):Shared:=⟨A' w.params,y1 [],boot_drawn,boot_toks,os⟩
abbrev Sb(w:ee)(os:Nw):SharedT:=⟨toT 12 (Lb w.params),15,lf,y1 [],⟨0,0,0,0⟩,187,os⟩
abbrev Sm(w:ee)(os:Nw):SharedT:=⟨toT 12 (L1 w.params),321,lf,y1 [],⟨0,0,0,0⟩,595,os⟩
abbrev Sf(w:ee)(os:Nw):Shared:=⟨⟨y1 (L1 w.params),lf⟩,y1 [],⟨0,0,0,0⟩,595,os⟩
theorem HX:∀w,(fun os=>topGo J_ pw w 11 (ar (.ref 6)) 12 (S0 w os) (topStub pw))=fun os=>ar ((Sb w os).abs,⟨denote J_ cE,cE,⟨0,0,0,0⟩,Bf⟩):=fun w=>by kernel_rfl
theorem D9:∀w,(fun os=>segRun J_ pw w 11 (ar (.ref 6)) 1 1 (Sb w os).abs (blockOf (I_ pw) en cE ⟨0,0,0,0⟩ Bf))=fun os=>ar (.next,(Sb w os).abs,cE,⟨0,0,0,0⟩):=fun w=>by kernel_rfl
theorem Gn:∀w,(fun os=>segRunT J_ pw w 11 (ar (.ref 6)) 1 2317 (Sb w os) (piecesOf (I_ pw) en cE ⟨0,0,0,0⟩ Bf))=fun os=>ar (.next,Sm w os,cE,⟨206,0,217,15⟩):=fun w=>by kernel_rfl
theorem HY:∀w,(fun os=>topRun J_ pw w 11 (ar (.ref 6)) 2 (Sm w os).abs ⟨doneF .next,cE,⟨206,0,217,15⟩,Bf⟩)=fun os=>ar (Sf w os):=fun w=>by kernel_rfl
theorem HZ(w:ee)(os:Nw):topRun J_ pw w 11 (ar (.ref 6)) (12+(1+(2317+2))) (S0 w os) (topStub pw)=ar (Sf w os):=
 go_top (Kz (HX w) os) (piece_block (Kz (D9 w) os) (by
  have:=piece_app (rest:=[]) (segRun_of (Kz (Gn w) os)) (piece_nil (Kz (HY w) os));rw[KS]at this;exact this))
theorem Gp:∀w:ee,((A' w.params).isNs g_ && (y1 []:Array M').size==0,(A' w.params).objs.size,(A' w.params).nsMap g_ "__annotations__")=(b_,11,(ar (.ref 6))):=fun w=>by kernel_rfl
theorem Gq:∀w os,(staticsOk (kr pw.main.body) (A' w.params) (Sf w os).heap && namesBound pw (Sf w os).heap && gensDone (Sf w os) && laidKept (A' w.params) (Sf w os).heap)=true:=fun w os=>by kernel_rfl
theorem Ia:∀w os,(xi vq [] (kr pw.main.body) Xt0 b_ (Sf w os)).1=(xj vq []).1:=fun w os=>by kernel_rfl
theorem Ib:∀w os,(xi vq [] (kr pw.main.body) Xt0 b_ (Sf w os)).2.1=(xj vq []).2.1:=fun w os=>by kernel_rfl
theorem Ie:∀w os,(xi vq [] (kr pw.main.body) Xt0 b_ (Sf w os)).2.2.1=(xj vq []).2.2.1:=fun w os=>by kernel_rfl
theorem Ig:∀w os,(xi vq [] (kr pw.main.body) Xt0 b_ (Sf w os)).2.2.2.1=(xj vq []).2.2.2.1:=fun w os=>by kernel_rfl
theorem Ih:∀w os,(xi vq [] (kr pw.main.body) Xt0 b_ (Sf w os)).2.2.2.2.1=(xj vq []).2.2.2.2.1:=fun w os=>by kernel_rfl
theorem Ii:∀w os,(xi vq [] (kr pw.main.body) Xt0 b_ (Sf w os)).2.2.2.2.2.1=(xj vq []).2.2.2.2.2.1:=fun w os=>by kernel_rfl
theorem Ij:∀w os,(xi vq [] (kr pw.main.body) Xt0 b_ (Sf w os)).2.2.2.2.2.2.1=(xj vq []).2.2.2.2.2.2.1:=fun w os=>by kernel_rfl
theorem Ik:∀w os,(xi vq [] (kr pw.main.body) Xt0 b_ (Sf w os)).2.2.2.2.2.2.2.1=(xj vq []).2.2.2.2.2.2.2.1:=fun w os=>by kernel_rfl
theorem Il:∀w os,(xi vq [] (kr pw.main.body) Xt0 b_ (Sf w os)).2.2.2.2.2.2.2.2=(xj vq []).2.2.2.2.2.2.2.2:=fun w os=>by kernel_rfl
theorem Gr:∀w os,Oz (Nq K0 as0 as0_eq ts0) (Sf w os)=OA (Nq K0 as0 as0_eq ts0) w:=fun w os=>by kernel_rfl
theorem Gs(w:ee)(os:Nw):xi vq [] (kr pw.main.body) Xt0 b_ (Sf w os)=xj vq []:=Mm (Ia w os) (Mm (Ib w os) (Mm (Ie w os) (Mm (Ig w os) (Mm (Ih w os) (Mm (Ii w os) (Mm (Ij w os) (Mm (Ik w os) (Il w os))))))))
theorem left0:LeftO (OpenLaw.row PySem.Challenge.rw_tiewebs_k05_whole_tie_webs).prog vq [] Xt0 (Oz (Nq K0 as0 as0_eq ts0)) (OA (Nq K0 as0 as0_eq ts0)) 4758:=
 LeftO.of_pieces (p:=pw) (H₀:=A') (H₁:=fun P=>⟨y1 (L1 P),lf⟩) (gs₀:=y1 []) (gs₁:=y1 []) (d₀:=boot_drawn) (d₁:=⟨0,0,0,0⟩) (k₀:=boot_toks) (k₁:=595) (M:=12+(1+(2317+2))) (boot_open (p:=pw) (by kernel_rfl) (by decide) (fun s=>by kernel_rfl)) Gp HZ (by decide) fun w=>funext fun os=>Mm (Gq w os) (Mm (Gs w os) (Gr w os))
end KH
section
namespace L2
open PySem PySem.Spec PyProof.Rows
abbrev Key:=Sum Int Str
def DS:Key->a_->Bool
 | .inl k,v=>Value.isInt k v
 | .inr x,v=>Value.isStrOf x v
def Im(w:ee):Key->Int
 | .inl k=>hashInt k
 | .inr x=>hashStr w x
theorem cP:∀{k:Key} {v:a_},DS k v=b_->(∃i t,k=Nx i/\v=wk i t)\/(∃x t,k=Ny x/\v=NY x t)
 | .inl i,v,h=>by
  obtain⟨t,e⟩:=Value.isInt_shape (k:=i) (v:=v) h;exact .inl ⟨i,t,rfl,e⟩
 | .inr x,v,h=>by
  obtain⟨t,e⟩:=Value.isStrOf_shape (x:=x) (v:=v) h;exact .inr ⟨x,t,rfl,e⟩
theorem Ea(a b:Int):decide ((Nx a:Key)=Nx b)=(a==b):=by
 by_cases e:a=b
 ·subst e;simp
 ·have h:¬ (Nx a:Key)=Nx b:=fun q=>e (Sum.inl.inj q);rw[Kg h];exact(beq_eq_false_iff_ne.mpr e).symm
theorem Eb(a b:Str):decide ((Ny a:Key)=Ny b)=decide (a=b):=by
 by_cases e:a=b
 ·subst e;simp
 ·have h:¬ (Ny a:Key)=Ny b:=fun q=>e (Sum.inr.inj q);rw[Kg h,Kg e]
theorem Ec(a:Int)(b:Str):decide ((Nx a:Key)=Ny b)=false:=Kg (fun q=>nomatch q)
theorem Ed(a:Str)(b:Int):decide ((Ny a:Key)=Nx b)=false:=Kg (fun q=>nomatch q)
def xa(prog:ed)(w:ee):PySem.KeyKind prog w Key where
 is:=DS
 hash:=Im w
 inj:=fun v a b ha hb=>by
  rcases cP ha with⟨i,t,rfl,rfl⟩|⟨x,t,rfl,rfl⟩
  ·rcases cP hb with⟨j,u,rfl,e⟩|⟨y,u,rfl,e⟩
   ·injection e with e1 _;rw[e1]
   ·exact nomatch e
  ·rcases cP hb with⟨j,u,rfl,e⟩|⟨y,u,rfl,e⟩
   ·exact nomatch e
   ·injection e with e1 _;rw[e1]
 byValue:=fun k v h=>by
  rcases cP h with⟨i,t,rfl,rfl⟩|⟨x,t,rfl,rfl⟩<;>rfl
 pyHash:=fun hv h=>by
  rcases cP hv with⟨i,t,rfl,rfl⟩|⟨x,t,rfl,rfl⟩
  ·exact wpAny_pyHash_int h
  ·exact wpAny_pyHash_str h
 eqBool:=fun hu hv h=>by
  rcases cP hu with⟨i,t,rfl,rfl⟩|⟨x,t,rfl,rfl⟩
  ·rcases cP hv with⟨j,u,rfl,rfl⟩|⟨y,u,rfl,rfl⟩
   ·rw[Ea]at h;exact M9 h
   ·rw[Ec]at h;exact SeqAt.EqAt.int_str i t y u _ _ _ _ h
  ·rcases cP hv with⟨j,u,rfl,rfl⟩|⟨y,u,rfl,rfl⟩
   ·rw[Ed]at h;exact SeqAt.EqAt.str_int x t j u _ _ _ _ h
   ·rw[Eb]at h;exact wpAny_eqBool_str h
 «strs»:=fun k x t v h=>by
  rcases cP h with⟨i,u,rfl,e⟩|⟨y,u,rfl,e⟩
  ·exact nomatch e
  ·injection e with e1 _;subst e1;cases v<;>rfl
end L2
namespace L2
open PySem PySem.Spec PyProof.Rows
inductive V where
 |non|bl (b:Bool)|int (i:Int)|str (x:Str)|byt (b:Array UInt8)|flt (b:UInt64)|ref (a:b')|ty (n:String)
 deriving DecidableEq
def RelV:V->a_->Prop
 | .non,u=>u=j_
 | .bl b,u=>u=v' b
 | .int i,u=>∃t,u=wk i t
 | .str x,u=>∃t,u=NY x t
 | .byt b,u=>∃t,u=Value.bytes b t
 | .flt b,u=>∃t,u=Value.float b t
 | .ref a,u=>u=gj a
 | .ty n,u=>u=Oe n
abbrev bw:List V->List a_->Prop:=Paired RelV
theorem bw.length{xs:List V}{us:List a_}(r:bw xs us):xs.length=us.length:=Paired.length r
theorem bw.get:∀{xs:List V} {us:List a_} {i:Nat} {x:V},bw xs us->xs[i]? =ar x->∃u,us[i]? =ar u/\RelV x u
 |_,_,_,_,.nil,e=>by simp at e
 |_,_,0,_,.cons r _,e=>by simp at e;subst e;exact⟨_,rfl,r⟩
 |_,_,i+1,x,.cons _ t,e=>by
  obtain⟨u,Y,Z⟩:=bw.get (i:=i) (x:=x) t (by simpa using e)
  exact⟨u,by simpa using Y,Z⟩
theorem bw.set(r:RelV x u):∀{xs:List V} {us:List a_} (i:Nat),bw xs us->bw (xs.set i x) (us.set i u)
 |_,_,_,.nil=>.nil
 |_,_,0,.cons _ t=>.cons r t
 |_,_,i+1,.cons q t=>.cons q (bw.set r i t)
theorem bw.append:∀{xs ys:List V} {us ws:List a_},bw xs us->bw ys ws->bw (xs++ys) (us++ws)
 |_,_,_,_,.nil,s=>s
 |_,_,_,_,.cons r t,s=>.cons r (bw.append t s)
theorem bw.take:∀{xs:List V} {us:List a_} (n:Nat),bw xs us->bw (xs.take n) (us.take n)
 |_,_,0,_=>.nil
 |_,_,_+1,.nil=>.nil
 |_,_,n+1,.cons r t=>.cons r (bw.take n t)
theorem bw.drop:∀{xs:List V} {us:List a_} (n:Nat),bw xs us->bw (xs.drop n) (us.drop n)
 |_,_,0,r=>r
 |_,_,_+1,.nil=>.nil
 |_,_,n+1,.cons _ t=>bw.drop n t
def zV:Option V->Option a_->Prop
 |some v,ar u=>RelV v u
 |none,none=>True
 |_,_=>False
def KV{κ:Type}:List (κ×V)->List (κ×a_)->Prop:=Paired fun(p:κ×V) (q:κ×a_)=>p.1=q.1/\RelV p.2 q.2
def kV:Key->V
 | .inl i=>.int i
 | .inr x=>.str x
inductive HO where
 |lst (xs:List V)
 |tup (xs:List V)
 |dK (kvs:List (Key×V))|dT (kvs:List (List Key×V))
 |set (S:Int->Bool) (n:Nat)
 |ins (C dx:b') (fs:List (Str×V))
 |own (x:b')
 |xd (fs:List (Str×V))
 |met (f x:b')
 |rng (lo hi:Int)
 |frz (o:Obj) (u:HO)
 |tbl (ps:Array a_)
 |ext (φ:f_->Prop)
abbrev Hp:=b'->Option HO
def upd(H:Hp)(a:b')(o:HO):Hp:=fun b=>if b=a then ar o else H b
theorem a7:upd H a o a=ar o:=by unfold upd;rw[if_pos rfl]
theorem aM{H:Hp}(h:b≠a):upd H a o b=H b:=by unfold upd;rw[if_neg h]
theorem rP:upd (upd H a o) a u=upd H a u:=by
 funext b;unfold upd;split<;>rfl
theorem aS{H:Hp}(h:H a=ar o)(h':H b=none):a≠b:=by
 intro e;subst e;rw[h]at h';cases h'
section
variable (P:ed)(w:ee)
def b7(H:Hp)(h:f_)(a:b'):HO->Prop
 | .lst xs=>xs.length<=sizeLine/\∃(its:List a_) (n:Nat),bw xs its/\h.get? a=ar {cls:=.type "list",data:=.seq its.toArray n}
 | .tup xs=>(xs.length<=sizeLine/\∃o,h.get? a=ar o/\o.dict=none)/\∃its:List a_,bw xs its/\Oq h a its.toArray
 | .dK kvs=>kvs.length<=sizeLine/\(a==sysModules)=dV/\∃vs,KV kvs vs/\h.DictOf (xa P w) a vs
 | .dT kvs=>kvs.length<=sizeLine/\(a==sysModules)=dV/\∃xs:List (List Key×b'×a_),
   Paired (fun(p:List Key×V) (q:List Key×b'×a_)=>p.1=q.1/\H q.2.1=ar (.tup (p.1.map kV))/\RelV p.2 q.2.2) kvs xs/\
   ∃o es ep,h.get? a=ar o/\o.ExactDict/\o.data= .dict es ep/\es.toList=xs.map (entryOfKey (tupleKind (xa P w)))/\(xs.map (·.1)).Nodup
 | .set S n=>h.SetOf (OH P w) a S n
 | .ins C dx fs=>H dx=ar (.own a)/\fs.length<=1000/\dx≠a/\h.get? a=ar (Os C dx)/\
   ∃mA,h.Ns1 dx mA/\(∀f,zV (fs.lookup f) (mA f))/\PySem.Within mA (fs.map (·.1))
 | .own _=>∃o,h.get? a=ar o
 | .xd fs=>∃mA,h.Ns1 a mA/\∀f,zV (fs.lookup f) (mA f)
 | .rng lo hi=>∃t u v,h.get? a=ar {cls:=.type "range",data:=.fields #[.int lo t,.int hi u,.int 1 v]}
 | .frz o u=>h.get? a=ar o/\b7 H h a u
 | .tbl ps=>h.get? a=ar {cls:=.none,data:=.fields ps}
 | .met f x=>h.get? a=ar (N7 (.ref f) (.ref x))
 | .ext φ=>φ h/\(∃o,h.get? a=ar o)/\∀h1 h2:f_,φ h1->(∀o,h1.get? a=ar o->h2.get? a=ar o)->φ h2
theorem rQ{h:f_}{xs:List V}{Z:Array a_}(z:xs.length<=sizeLine):xs.length<=sizeLine/\∃o,(h.push {cls:=.type "tuple",data:=.seq Z}).get? h.objs.size=ar o/\o.dict=none:=⟨z,_,J9 _ rfl,rfl⟩
def iY(H:Hp)(h:f_):Prop:=∀a o,H a=ar o->b7 P w H h a o
end
section
variable {P:ed}{w:ee}{H H':Hp}{h h':f_}{a:b'}{o:HO}
theorem b7.lt(x:b7 P w H h a o):a<h.objs.size:=by
 cases o with
 |lst xs=>obtain⟨_,_,_,_,e⟩:=x;exact J0 e
 |tup xs=>obtain⟨_,_,_,p⟩:=x;exact p.lt
 |dK kvs=>obtain⟨_,_,_,_,o,_,_,e,_⟩:=x;exact J0 e
 |dT kvs=>obtain⟨_,_,_,_,o,_,_,e,_⟩:=x;exact J0 e
 |set S n=>obtain⟨o,_,_,_,e,_⟩:=x;exact J0 e
 |ins C dx fs=>obtain⟨_,_,_,e,_⟩:=x;exact J0 e
 |own y=>obtain⟨_,e⟩:=x;exact J0 e
 |xd fs=>obtain⟨_,⟨_,_,_,e,_⟩,_⟩:=x;exact J0 e
 |rng lo hi=>obtain⟨_,_,_,e⟩:=x;exact J0 e
 |frz ob u=>obtain⟨e,_⟩:=x;exact J0 e
 |tbl ps=>exact J0 (show h.get? a=ar _ from x)
 |met f y=>exact J0 (show h.get? a=ar _ from x)
 |ext φ=>obtain⟨_,⟨_,e⟩,_⟩:=x;exact J0 e
theorem Paired.mapP{α Z:Type}{F G:α->Z->Prop}:∀{l₁:List α} {l₂:List Z},Paired F l₁ l₂->(∀a b,F a b->G a b)->Paired G l₁ l₂
 |_,_,.nil,_=>.nil
 |_,_,.cons r t,f=>.cons (f _ _ r) (Paired.mapP t f)
theorem b7.stay(x:b7 P w H h a o)(k:∀b u,(b=a\/H b=ar (.own a))->h.get? b=ar u->h'.get? b=ar u)
  (O:∀b,H b=ar (.own a)->H' b=ar (.own a)) (T:∀b xs,H b=ar (.tup xs)->H' b=ar (.tup xs)):b7 P w H' h' a o:=by
 induction o with
 |lst xs=>obtain⟨z,its,n,r,e⟩:=x;exact⟨z,its,n,r,k _ _ (.inl rfl) e⟩
 |tup xs=>obtain⟨⟨z,Q,R,U⟩,its,r,Z,e,c⟩:=x;exact⟨⟨z,Q,k _ _ (.inl rfl) R,U⟩,its,r,Z,k _ _ (.inl rfl) e,c⟩
 |dK kvs=>obtain⟨z,y,vs,r,Z,es,Y,e,c⟩:=x;exact⟨z,y,vs,r,Z,es,Y,k _ _ (.inl rfl) e,c⟩
 |dT kvs=>
  obtain⟨z,y,xs,r,Z,es,Y,e,c⟩:=x;exact⟨z,y,xs,Paired.mapP r fun p q z=>⟨z.1,T _ _ z.2.1,z.2.2⟩,Z,es,Y,k _ _ (.inl rfl) e,c⟩
 |set S n=>obtain⟨Z,es,Y,t,e,c⟩:=x;exact⟨Z,es,Y,t,k _ _ (.inl rfl) e,c⟩
 |ins C dx fs=>
  obtain⟨d,z,ne,e,mA,⟨X,es,Y,e2,c⟩,r⟩:=x;exact⟨O _ d,z,ne,k _ _ (.inl rfl) e,mA,⟨X,es,Y,k _ _ (.inr d) e2,c⟩,r⟩
 |own y=>obtain⟨Z,e⟩:=x;exact⟨Z,k _ _ (.inl rfl) e⟩
 |xd fs=>obtain⟨mA,⟨X,es,Y,e,c⟩,r⟩:=x;exact⟨mA,⟨X,es,Y,k _ _ (.inl rfl) e,c⟩,r⟩
 |rng lo hi=>obtain⟨t,u,v,e⟩:=x;exact⟨t,u,v,k _ _ (.inl rfl) e⟩
 |frz Z u ih=>obtain⟨e,q⟩:=x;exact⟨k _ _ (.inl rfl) e,ih q⟩
 |tbl ps=>
  have e:h.get? a=ar {cls:=.none,data:=.fields ps}:=x;show h'.get? a=ar {cls:=.none,data:=.fields ps};exact k a _ (.inl rfl) e
 |met f y=>
  have e:h.get? a=ar (N7 (.ref f) (.ref y)):=x;show h'.get? a=ar (N7 (.ref f) (.ref y));exact k a _ (.inl rfl) e
 |ext φ=>obtain⟨p,⟨o,e⟩,st⟩:=x;exact⟨st _ _ p fun o q=>k _ _ (.inl rfl) q,⟨o,k _ _ (.inl rfl) e⟩,st⟩
theorem iY.lt(x:iY P w H h)(e:H a=ar o):a<h.objs.size:=(x a o e).lt
theorem iY.fresh(x:iY P w H h)(e:h.objs.size<=a):H a=none:=by
 cases q:H a with
 |none=>rfl
 |some u=>exact absurd (Kd (x.lt q) e) (K4 _)
theorem iY.kept(x:iY P w H h)(k:∀b u,h.get? b=ar u->h'.get? b=ar u):iY P w H h':=fun a o e=>
 (x a o e).stay (fun b u _ q=>k b u q) (fun _ q=>q) fun _ _ q=>q
theorem iY.laid(x:iY P w H h)(k:∀b u,h.get? b=ar u->h'.get? b=ar u)(X:h.objs.size<=a)(Z:b7 P w (upd H a o) h' a o):iY P w (upd H a o) h':=fun b u e=>by
 have Y:=x.fresh X;by_cases hb:b=a
 ·subst hb;rw[a7]at e;cases e;exact Z
 ·rw[aM hb]at e;exact(x b u e).stay (fun c v _ q=>k c v q) (fun c q=>by rw[aM (aS q Y)];exact q) fun c xs q=>by rw[aM (aS q Y)];exact q
end
def Rd(H:Hp)(a:b')(u:HO):Prop:=H a=ar u\/∃o,H a=ar (.frz o u)
theorem Rd.ok{P:ed}{w:ee}{H:Hp}{h:f_}{a:b'}{u:HO}(r:Rd H a u)(x:iY P w H h):b7 P w H h a u:=by
 rcases r with r|⟨o,r⟩
 ·exact x a u r
 ·obtain⟨_,q⟩:=x a _ r;exact q
def HH:Option HO->Prop
 |some (.lst _)=>True
 |some (.dK _)=>True
 |some (.dT _)=>True
 |some (.set _ _)=>True
 |some (.ins _ _ _)=>True
 |some (.ext _)=>True
 |_=>False
section
variable {P:ed}{w:ee}{H:Hp}{h h':f_}{x e:b'}{o':HO}
theorem iY.write(Q:iY P w H h)(X:HH (H x))(S:e=x\/H e=ar (.own x))(k:∀b u,b≠e->h.get? b=ar u->h'.get? b=ar u)(T:∃u,h'.get? e=ar u)
  (U:b7 P w (upd H x o') h' x o'):iY P w (upd H x o') h':=fun b u q=>by
 have Z:∀c y,H c=ar (.own y)->c≠x:=fun c y r z=>by subst z;rw[r]at X;exact X
 have Y:∀c xs,H c=ar (.tup xs)->c≠x:=fun c xs r z=>by subst z;rw[r]at X;exact X
 by_cases hb:b=x
 ·subst hb;rw[a7]at q;cases q;exact U
 ·rw[aM hb]at q;by_cases hbe:b=e
  ·have R:H b=ar (.own x):=by
    rcases S with z|z
    ·exact absurd (hbe.trans z) hb
    ·rw[hbe];exact z
   rw[q]at R;cases R;obtain⟨v,O⟩:=T;exact⟨v,by rw[hbe];exact O⟩
  ·refine(Q b u q).stay (fun c v W r=>k c v ?_ r) (fun c r=>by rw[aM (Z c b r)];exact r) fun c xs r=>by rw[aM (Y c xs r)];exact r
   rcases W with rfl|W
   ·exact hbe
   ·rintro rfl;rcases S with z|z
    ·exact Z c b W z
    ·rw[W]at z;cases z;exact hb rfl
end
structure Un(fs ex:List b')(H H':Hp)(h h':f_):Prop where
 keep:∀b o,h.get? b=ar o->H b=none->b∉fs->b∉ex->h'.get? b=ar o
 slot:∀b o,h.get? b=ar o->H b=none->b∈fs->b∉ex->∃sl,h'.get? b=ar {o with slots:=sl}
 free:∀b o,h.get? b=ar o->H b=none->b∉ex->H' b=none
 there:∀b o,h.get? b=ar o->b∉ex->∃o',h'.get? b=ar o'
 tups:∀b xs,H b=ar (.tup xs)->H' b=ar (.tup xs)
 frzs:∀b o u,H b=ar (.frz o u)->H' b=ar (.frz o u)
 tbls:∀b ps,H b=ar (.tbl ps)->∃more,H' b=ar (.tbl (ps++more))
section
variable {fs fs' ex ex':List b'}{H H1 H2:Hp}{h h1 h2 h':f_}{a x e:b'}{o:HO}
theorem Un.any(u:Un fs ex H H1 h h1)(q:h.get? b=ar ob)(n:H b=none)(Z:b∉ex):∃sl,h1.get? b=ar {ob with slots:=sl}:=by
 by_cases hb:b∈fs
 ·exact u.slot b ob q n hb Z
 ·exact⟨ob.slots,u.keep b ob q n hb Z⟩
theorem Un.kept(k:∀b u,h.get? b=ar u->h'.get? b=ar u):Un fs ex H H h h':=
 ⟨fun b Z q _ _ _=>k b Z q,fun b Z q _ _ _=>⟨Z.slots,k b Z q⟩,fun _ _ _ n _=>n,fun b Z q _=>⟨Z,k b Z q⟩,fun _ _ q=>q,fun _ _ _ q=>q,fun _ Y q=>⟨#[],by rw[q];simp⟩⟩
theorem Un.refl:Un fs ex H H h h:=Un.kept fun _ _ q=>q
theorem Un.laid(k:∀b u,h.get? b=ar u->h'.get? b=ar u)(Y:h.objs.size<=a)(Z:H a=none):Un fs ex H (upd H a o) h h' where
 keep:=fun b u q _ _ _=>k b u q
 slot:=fun b u q _ _ _=>⟨u.slots,k b u q⟩
 free:=fun b u q n _=>by rw[aM (Kf (Kd (J0 q) Y))];exact n
 there:=fun b u q _=>⟨u,k b u q⟩
 tups:=fun b xs q=>by rw[aM (aS q Z)];exact q
 frzs:=fun b u xs q=>by rw[aM (aS q Z)];exact q
 tbls:=fun b X q=>⟨#[],by rw[aM (aS q Z),q];simp⟩
theorem Un.write(Z:HH (H x))(U:e=x\/H e=ar (.own x))(k:∀b u,b≠e->h.get? b=ar u->h'.get? b=ar u)(Y:∃u,h'.get? e=ar u):Un fs ex H (upd H x o) h h':=by
 have X:∀b,H b=none->b≠x:=fun b n z=>by subst z;rw[n]at Z;exact Z
 have W:∀b,H b=none->b≠e:=fun b n z=>by
  subst z;rcases U with r|r
  ·exact X b n r
  ·rw[n]at r;cases r
 have hm:∀b u,H b=ar u->¬ HH (ar u)->b≠x:=fun b u q nm z=>by subst z;rw[q]at Z;exact nm Z
 refine⟨fun b u q n _ _=>k b u (W b n) q,fun b u q n _ _=>⟨u.slots,k b u (W b n) q⟩,fun b u q n _=>by rw[aM (X b n)];exact n,fun b u q _=>?_,
  fun b xs q=>by rw[aM (hm b _ q fun z=>z)];exact q,fun b u xs q=>by rw[aM (hm b _ q fun z=>z)];exact q,fun b T q=>⟨#[],by rw[aM (hm b _ q fun z=>z),q];simp⟩⟩
 by_cases hbe:b=e
 ·subst hbe;exact Y
 ·exact⟨u,k b u hbe q⟩
end
def HI(h:f_)(H:Hp):List Addr:=(d_ h.objs.size).filter fun a=>(H a).isSome
def kE(h:f_)(H:Hp):Heap:=W.hideAll h (HI h H)
theorem qO(h:f_)(H:Hp):(kE h H).objs.size=h.objs.size:=W.hideAll_size _ _
theorem oU{h:f_}{H:Hp}(e:h.get? b=ar o)(n:H b=none):(kE h H).get? b=ar o:=
 W.hideAll_get _ e fun hm=>by
  have q:(H b).isSome=true:=(Kh.mp hm).2;rw[n]at q;simp at q
theorem xb{H:Hp}(e:(kE h H).get? b=ar o):h.get? b=ar o/\H b=none:=by
 have Z:h.get? b=ar o:=W.of_hideAll (HI h H) e;refine⟨Z,?_⟩;cases q:H b with
 |none=>rfl
 |some x=>
  have hm:b∈HI h H:=Kh.mpr ⟨Ka.mpr (J0 Z),by simp[q]⟩
  have z:(kE h H).get? b=none:=W.hideAll_none (HI h H) hm;rw[z]at e;cases e
def lg(g h:f_)(L:b'):List (b'×Obj):=(d_ h.objs.size).filterMap fun a=>if a=L\/(g.get? a).isSome=b_ then none else (h.get? a).map fun o=>(a,o)
theorem tI{g h:f_}(X:a≠L)(Y:g.get? a=none)(Z:h.get? a=ar o):(a,o)∈lg g h L:=
 Lo.mpr ⟨a,Ka.mpr (J0 Z),by simp[X,Y,Z]⟩
theorem oV(Z:p∈lg g h L):p.1≠L/\g.get? p.1=none/\h.get? p.1=ar p.2:=by
 obtain⟨b,_,e⟩:=Lo.mp Z;split at e
 ·cases e
 ·rename_i hn
  cases q:h.get? b with
  |none=>rw[q]at e;simp at e
  |some u=>
   rw[q]at e;simp only[Option.map_some,Option.some.injEq]at e;subst e;refine⟨fun z=>hn (.inl z),?_,q⟩;show g.get? b=none;cases r:g.get? b with
   |none=>rfl
   |some v=>exact(hn (.inr (by simp[r]))).elim
def rest(g h:f_)(L d:b'):List (b'×Obj):=(lg g h L).filter fun p=>decide (p.1≠d)
theorem oW:News g L h (lg g h L):=fun p Z=>let ⟨a,b,c⟩:=oV Z;⟨c,a,b⟩
end L2
namespace L2
open PySem PySem.Spec PyProof.Rows
structure Mod(K:dt)(mg:Str->Option a_)(base:f_):Prop where
 kin:K.In base
 glob:base.Ns g_ mg
 blt:∃mb,base.Ns wh mb/\∀x:Str,x≠"__name__"->mb x=la x
 nolimit:base.NoLimit
structure Cx where
 prog:ed
 w:ee
 K:dt
 mg:Str->Option a_
 base:f_
 A:hF
 N:List Str
 s₀:c_
 H₀:Hp
 env:Env
 outer:List Env
 stack:List Env
 ex:List b'
 fn:Str->Bool
 calm:Bool
 pn:List (b'×Obj)
 xe:a_->c_->Prop
def nF(l:List Env):List Addr:=l.filterMap (·.frame)
abbrev Cx.fs(X:Cx):List Addr:=nF X.outer
def DT(sc:Scope)(x:Str):Prop:=sc.names.lookup x=ar .local\/sc.names.lookup x=ar .cell\/sc.names.lookup x=ar .free
def Loc(sc:Scope)(x:Str):Prop:=sc.names.lookup x=ar .local\/sc.names.lookup x=ar .cell
def Look(env:Env)(h:f_)(m:Str->Option a_)(x:Str)(u:a_):Prop:=
 (env.kindOf x=ar .local/\m x=ar u)\/((env.kindOf x=ar .cell\/env.kindOf x=ar .free)/\∃c,env.cells.lookup x=ar c/\h.IsCell c (ar u))
structure Cx.Ok(X:Cx):Prop where
 mod:Mod X.K X.mg X.base
 kind:X.env.scope.kind= .function
 glob:X.env.globals=g_
 blt:X.env.builtins=wh
 above:X.s₀.heap.objs.size<=X.env.locals
 inj:∀x y c,X.env.cells.lookup x=ar c->X.env.cells.lookup y=ar c->x=y
 has:∀x,(X.env.kindOf x=ar .cell\/X.env.kindOf x=ar .free)->∃c,X.env.cells.lookup x=ar c
 cab:∀x c,X.fn x=b_->X.env.cells.lookup x=ar c->X.s₀.heap.objs.size<=c
 hd:X.calm=b_->X.A.handled=none
 frames:X.A.frames=ar X.stack
 stk:X.stack=X.outer\/(X.stack=X.env::X.outer/\X.env.frame=ar X.env.locals)
 exf:∀b∈X.ex,b≠X.env.locals/\∀x c,X.env.cells.lookup x=ar c->c≠b
 bs:∀b o,X.base.get? b=ar o->X.s₀.heap.get? b=ar o/\X.H₀ b=none
 bsz:X.base.objs.size<=X.s₀.heap.objs.size
 noex:∀b o,X.base.get? b=ar o->b∉X.ex
 exfs:∀b∈X.ex,b∉X.fs
 funs:X.s₀.heap.FunFrames X.base X.outer
 frf:∀b∈X.fs,X.H₀ b=none
structure Inv(X:Cx)(pins:List (b'×Obj))(σ:List (Option V))(H:Hp)(s:c_):Prop where
 ok:X.Ok
 os:s.os=X.s₀.os
 bare:yn s.gens
 base:Un X.fs X.ex X.H₀ H X.s₀.heap s.heap
 loc:∃m,s.heap.Ns X.env.locals m/\∀(i:Nat) (x:Str) (v:V),X.N[i]? =ar x->σ[i]? =ar (ar v)->DT X.env.scope x->∃u,RelV v u/\Look X.env s.heap m x u
 cell:∀x c,X.env.cells.lookup x=ar c->∃v,s.heap.IsCell c v
 free:H X.env.locals=none
 freeC:∀x c,X.env.cells.lookup x=ar c->H c=none
 pin:∀p∈X.pn++pins,s.heap.get? p.1=ar p.2/\H p.1=none/\p.1≠X.env.locals/\p.1∉X.fs/\∀v,p.2.data≠ .cell v
 hok:iY X.prog X.w H s.heap
 len:σ.length=X.N.length
section
variable {X:Cx}{pins:List (b'×Obj)}{σ:List (Option V)}{H H':Hp}{s:c_}{h':f_}
theorem Cx.Ok.nofr(Y:X.Ok)(e:X.base.get? b=ar o):b∉X.fs:=fun Z=>by
 have:=(Y.funs.mem Z).1;rw[e]at this;cases this
theorem Inv.bs(I:Inv X pins σ H s):∀b o,X.base.get? b=ar o->s.heap.get? b=ar o/\H b=none:=fun b o e=>
 ⟨I.base.keep b o (I.ok.bs b o e).1 (I.ok.bs b o e).2 (I.ok.nofr e) (I.ok.noex b o e),I.base.free b o (I.ok.bs b o e).1 (I.ok.bs b o e).2 (I.ok.noex b o e)⟩
theorem Inv.bk(I:Inv X pins σ H s):∀b o,X.base.get? b=ar o->s.heap.get? b=ar o:=fun b o e=>(I.bs b o e).1
theorem Inv.mod(I:Inv X pins σ H s):Mod X.K X.mg X.base:=I.ok.mod
theorem Inv.kIn(I:Inv X pins σ H s):X.K.In s.heap:=I.ok.mod.kin.keeps I.bk
theorem Inv.fr(I:Inv X pins σ H s):∃m,Fr X.base X.env.locals s.heap m:=
 let ⟨m,hn,_⟩:=I.loc
 ⟨m,hn,I.bk,J4 I.ok.bsz I.ok.above⟩
theorem Inv.lt(I:Inv X pins σ H s):X.env.locals<s.heap.objs.size:=let ⟨_,hn,_⟩:=I.loc;hn.lt
theorem Inv.sz(I:Inv X pins σ H s):X.s₀.heap.objs.size<=s.heap.objs.size:=J4 I.ok.above (L5 I.lt)
theorem Inv.nofs(I:Inv X pins σ H s)(h:s.heap.objs.size<=a):a∉X.fs:=fun Y=>by
 obtain⟨_,o,Z,_⟩:=I.ok.funs.mem Y;exact absurd (Kd (J0 Z) (J4 I.sz h)) (K4 _)
theorem Inv.cne(I:Inv X pins σ H s):∀x c,X.env.cells.lookup x=ar c->c≠X.env.locals:=fun x c e z=>by
 obtain⟨v,o,W,hd⟩:=I.cell x c e;obtain⟨m,⟨U,es,T,Z,Y,_⟩,_⟩:=I.loc;rw[z,Z]at W;cases W;rw[Y]at hd;cases hd
theorem Inv.funs(I:Inv X pins σ H s):s.heap.FunFrames X.base X.outer:=by
 have all:∀(l:List Env),(∀b∈nF l,b∈X.fs)->X.s₀.heap.FunFrames X.base l->s.heap.FunFrames X.base l:=by
  intro l
  induction l with
  |nil=>intro _ _;trivial
  |cons env r ih=>
   intro hs S;obtain⟨T,⟨L,o,hf,U,R,hd⟩,W⟩:=S;have Y:L∈X.fs:=hs L (by unfold nF;rw[L4,hf];exact Kj)
   obtain⟨Q,e⟩:=I.base.slot L o R (I.ok.frf L Y) Y fun z=>I.ok.exfs L z Y;exact⟨T,⟨L,_,hf,U,e,hd⟩,ih (fun b Z=>hs b (by unfold nF;rw[L4,hf];exact J7 _ Z)) W⟩
 exact all X.outer (fun _ Z=>Z) I.ok.funs
theorem Inv.stack(I:Inv X pins σ H s):s.heap.FunFrames X.base X.stack:=by
 rcases I.ok.stk with e|⟨e,hf⟩
 ·rw[e];exact I.funs
 ·rw[e];obtain⟨m,Z,_⟩:=I.loc;refine .cons (by rw[I.ok.kind];decide) hf Z ?_ I.funs
  exact KP (J4 I.ok.bsz I.ok.above)
theorem Inv.stkSub(I:Inv X pins σ H s):∀b∈nF X.stack,b∈X.env.locals::X.fs:=fun b Z=>by
 rcases I.ok.stk with e|⟨e,hf⟩
 ·rw[e]at Z;exact J7 _ Z
 ·rw[e]at Z;unfold nF at Z;rw[L4,hf]at Z;exact Z
theorem Inv.stkFree(I:Inv X pins σ H s):∀b∈nF X.stack,H b=none:=fun b Z=>by
 rcases Km.mp (I.stkSub b Z)with e|Z
 ·rw[e];exact I.free
 ·obtain⟨_,o,Y,_⟩:=I.ok.funs.mem Z;exact I.base.free b o Y (I.ok.frf b Z) fun z=>I.ok.exfs b z Z
theorem Inv.step{g':Array M'}{t':Nat}{d':Drawn}{ch:List b'}(I:Inv X pins σ H s)
  (W:∀b∈ch,(b∈X.ex\/X.s₀.heap.objs.size<=b)/\b≠X.env.locals/\(∀x c,X.env.cells.lookup x=ar c->c≠b)/\∀p∈X.pn++pins,p.1≠b)
  (keep:∀b o,b≠X.env.locals->b∉X.fs->b∉ch->s.heap.get? b=ar o->H b=none->h'.get? b=ar o)
  (S:∀b o,b≠X.env.locals->b∈X.fs->b∉ch->s.heap.get? b=ar o->H b=none->∃F,h'.get? b=ar {o with slots:=F}) (Y:∀b o,b∉ch->s.heap.get? b=ar o->H b=none->H' b=none)
  (R:∀b o,b∉ch->s.heap.get? b=ar o->∃L,h'.get? b=ar L)
  (O:∀b xs,H b=ar (.tup xs)->H' b=ar (.tup xs)) (K:∀b o u,H b=ar (.frz o u)->H' b=ar (.frz o u)) (N:∀b G,H b=ar (.tbl G)->∃more,H' b=ar (.tbl (G++more)))
  (ns:∀m,s.heap.Ns X.env.locals m->h'.Ns X.env.locals m) (C:iY X.prog X.w H' h') (y:yn g'):
  Inv X pins σ H' {s with heap:=h',gens:=g',drawn:=d',toks:=t'}:=by
 have J:∀b o,X.s₀.heap.get? b=ar o->b≠X.env.locals:=fun b o e=>Kf (Kd (J0 e) I.ok.above);have T:∀b o,X.s₀.heap.get? b=ar o->b∉X.ex->b∉ch:=fun b o e Z Q=>by
  rcases (W b Q).1 with z|z
  ·exact Z z
  ·exact absurd (Kd (J0 e) z) (K4 _)
 have cellK:∀x c,X.env.cells.lookup x=ar c->∀v,s.heap.IsCell c v->h'.IsCell c v:=fun x c e v ⟨o,P,hd⟩=>by
  have U:c∉ch:=fun z=>(W c z).2.2.1 x c e rfl;by_cases hc:c∈X.fs
  ·obtain⟨F,q⟩:=S c o (I.cne x c e) hc U P (I.freeC x c e);exact⟨_,q,hd⟩
  ·exact⟨o,keep c o (I.cne x c e) hc U P (I.freeC x c e),hd⟩
 refine⟨I.ok,I.os,y,⟨fun b o e n Q Z=>?_,fun b o e n Q Z=>?_,fun b o e n Z=>?_,fun b o e Z=>?_,fun b xs e=>O b xs (I.base.tups b xs e),fun b o xs e=>K b o xs (I.base.frzs b o xs e),fun b G e=>?_⟩,?_,fun x c e=>?_,?_,fun x c e=>?_,fun p A=>?_,C,I.len⟩
 ·exact keep b o (J b o e) Q (T b o e Z) (I.base.keep b o e n Q Z) (I.base.free b o e n Z)
 ·obtain⟨F,e1⟩:=I.base.slot b o e n Q Z;obtain⟨E,e2⟩:=S b _ (J b o e) Q (T b o e Z) e1 (I.base.free b o e n Z);exact⟨E,e2⟩
 ·obtain⟨L,e1⟩:=I.base.there b o e Z;exact Y b L (T b o e Z) e1 (I.base.free b o e n Z)
 ·obtain⟨L,e1⟩:=I.base.there b o e Z;exact R b L (T b o e Z) e1
 ·obtain⟨f,e1⟩:=I.base.tbls b G e;obtain⟨j,e2⟩:=N b _ e1;exact⟨f++j,by rw[e2,Array.append_assoc]⟩
 ·obtain⟨m,h,g⟩:=I.loc;refine⟨m,ns m h,fun i x v e1 e2 t=>?_⟩;obtain⟨u,r,l⟩:=g i x v e1 e2 t;refine⟨u,r,?_⟩;rcases l with l|⟨k,c,e,z⟩
  ·exact .inl l
  ·exact .inr ⟨k,c,e,cellK x c e _ z⟩
 ·obtain⟨v,z⟩:=I.cell x c e;exact⟨v,cellK x c e v z⟩
 ·obtain⟨m,⟨o,_,_,P,_⟩,_⟩:=I.loc;exact Y _ o (fun z=>(W _ z).2.1 rfl) P I.free
 ·obtain⟨v,o,P,hd⟩:=I.cell x c e;exact Y c o (fun z=>(W c z).2.2.1 x c e rfl) P (I.freeC x c e)
 ·obtain⟨e,n,ne,B,d⟩:=I.pin p A;have U:p.1∉ch:=fun z=>(W p.1 z).2.2.2 p A rfl;exact⟨keep p.1 p.2 ne B U e n,Y p.1 p.2 U e n,ne,B,d⟩
theorem Inv.un{t':Nat}(I:Inv X pins σ H s)(u:Un X.fs [] H H' s.heap h')(W:iY X.prog X.w H' h'):Inv X pins σ H' {s with heap:=h',toks:=t'}:=by
 obtain⟨m,⟨o,es,N,S,r⟩,_⟩:=id I.loc;obtain⟨P,Q⟩:=u.any S I.free (by simp)
 exact I.step (g':=s.gens) (d':=s.drawn) (ch:=[]) (fun _ z=>nomatch z) (fun b o _ Y _ e n=>u.keep b o e n Y (by simp)) (fun b o _ Y _ e n=>u.slot b o e n Y (by simp)) (fun b o _ e n=>u.free b o e n (by simp)) (fun b o _ e=>u.there b o e (by simp)) u.tups u.frzs u.tbls (fun O hm=>by
  obtain⟨L,T,U,Z,R⟩:=hm;rw[S]at Z;cases Z;exact⟨_,T,U,Q,R⟩) W I.bare
theorem Inv.call{g':Array M'}{t':Nat}{d':Drawn}{ch:List b'}(I:Inv X pins σ H s)(u:Un (nF X.stack) ch H H' s.heap h')(U:iY X.prog X.w H' h')(N:yn g')
  (Y:∀b∈ch,(b∈X.ex\/X.s₀.heap.objs.size<=b)/\b≠X.env.locals/\(∀x c,X.env.cells.lookup x=ar c->c≠b)/\∀p∈X.pn++pins,p.1≠b):
  Inv X pins σ H' {s with heap:=h',gens:=g',drawn:=d',toks:=t'}:=by
 obtain⟨m,⟨o,es,J,Q,r⟩,_⟩:=id I.loc;obtain⟨L,S⟩:=u.any Q I.free fun z=>(Y _ z).2.1 rfl;exact I.step (ch:=ch) Y (fun b o S P Z e n=>u.keep b o e n (fun z=>(Km.mp (I.stkSub b z)).elim S P) Z) (fun b o _ _ Z e n=>u.any e n Z) (fun b o Z e n=>u.free b o e n Z) (fun b o Z e=>u.there b o e Z) u.tups u.frzs u.tbls (fun K hm=>by
  obtain⟨G,R,T,W,O⟩:=hm;rw[Q]at W;cases W;exact⟨_,R,T,S,O⟩) U N
theorem Inv.turned{t':Nat}{it:b'}(I:Inv X pins σ H s)(k:∀b o,b≠it->s.heap.get? b=ar o->h'.get? b=ar o)(T:H it=none)(W:it≠X.env.locals)
  (Q:it∈X.ex\/X.s₀.heap.objs.size<=it) (P:∀x c,X.env.cells.lookup x=ar c->c≠it) (R:∀p∈X.pn++pins,p.1≠it):Inv X pins σ H {s with heap:=h',toks:=t'}:=by
 have Y:∀b u,H b=ar u->b≠it:=fun b u e z=>by rw[z,T]at e;cases e
 refine I.step (g':=s.gens) (d':=s.drawn) (ch:=[it]) (fun b U=>?_) (fun b o _ _ Z e _=>k b o (fun z=>Z (by simp[z])) e) (fun b o _ _ Z e _=>⟨o.slots,k b o (fun z=>Z (by simp[z])) e⟩) (fun _ _ _ _ n=>n)
  (fun b o Z e=>⟨o,k b o (fun z=>Z (by simp[z])) e⟩) (fun _ _ e=>e) (fun _ _ _ e=>e) (fun b N e=>⟨#[],by rw[e];simp⟩) (fun m hm=>?_) (fun b u e=>?_) I.bare
 ·have e:b=it:=by simpa using U
  subst e;exact⟨Q,W,P,R⟩
 ·obtain⟨o,es,S,O,r⟩:=hm;exact⟨o,es,S,k _ o (lx W) O,r⟩
 ·refine(I.hok b u e).stay (fun c v Z q=>k c v ?_ q) (fun _ q=>q) fun _ _ q=>q;rcases Z with z|z
  ·rw[z];exact Y b u e
  ·exact Y c _ z
theorem Inv.tok(I:Inv X pins σ H s)(t:Nat):Inv X pins σ H {s with toks:=t}:=I.un (h':=s.heap) (t':=t) Un.refl I.hok
theorem Inv.kept(I:Inv X pins σ H s)(k:∀b u,s.heap.get? b=ar u->h'.get? b=ar u):Inv X pins σ H {s with heap:=h',toks:=t'}:=I.un (Un.kept k) (I.hok.kept k)
theorem Inv.laid(I:Inv X pins σ H s)(k:∀b u,s.heap.get? b=ar u->h'.get? b=ar u)(Z:s.heap.objs.size<=a)(Y:b7 X.prog X.w (upd H a o) h' a o):
  Inv X pins σ (upd H a o) {s with heap:=h',toks:=t'}:=I.un (Un.laid k Z (I.hok.fresh Z)) (I.hok.laid k Z Y)
theorem Inv.write(I:Inv X pins σ H s)(U:HH (H x))(W:e=x\/H e=ar (.own x))(k:∀b u,b≠e->s.heap.get? b=ar u->h'.get? b=ar u)(Z:∃u,h'.get? e=ar u)
  (Y:b7 X.prog X.w (upd H x o) h' x o):Inv X pins σ (upd H x o) {s with heap:=h',toks:=t'}:=I.un (Un.write U W k Z) (I.hok.write U W k Z Y)
theorem Inv.pins_of(I:Inv X pins σ H s)(h:∀p∈pins',s.heap.get? p.1=ar p.2/\H p.1=none/\p.1≠X.env.locals/\p.1∉X.fs/\∀v,p.2.data≠ .cell v):Inv X pins' σ H s:=
 ⟨I.ok,I.os,I.bare,I.base,I.loc,I.cell,I.free,I.freeC,fun p Z=>(Nf.mp Z).elim (fun z=>I.pin p (List.mem_append_left _ z)) (h p),I.hok,I.len⟩
theorem tJ{N:List Str}(Z:N.Nodup){i j:Nat}{x:Str}(a:N[i]? =ar x)(b:N[j]? =ar x):i=j:=by
 obtain⟨Y,e1⟩:=J2.mp a;obtain⟨W,e2⟩:=J2.mp b;exact(Mq Z).mp (e1.trans e2.symm)
theorem qP{M:OI}{A:hF}{E:a_->c_->Prop}{i:Nat}{x:Str}{v:V}{u:a_}{Q:Unit->c_->Prop}(I:Inv X pins σ H s)(hN:X.N.Nodup)(L:X.N[i]? =ar x)(Y:Loc X.env.scope x)(r:RelV v u)
  (h:∀s',Inv X pins (σ.set i (ar v)) H s'->(∃a,z4 a s.heap s'.heap/\(a=X.env.locals\/X.env.cells.lookup x=ar a))->Q () s') (hf:X.fn x=b_\/X.env.scope.names.lookup x=ar .local:=by first|exact .inl rfl|exact .inr rfl|assumption):er M A (storeName X.env x u) Q E s:=by
 obtain⟨m,hn,hl⟩:=id I.loc;have J:(X.env.scope.kind== .class||(X.env.scope.kind== .module && X.env.locals !=X.env.globals))=false:=by rw[I.ok.kind];rfl
 have U:i<σ.length:=by rw[I.len];exact(J2.mp L).1
 have T:=I.cne;have tracked:∀{a:b'} {h':f_},(∃o,s.heap.get? a=ar o/\H a=none)->z4 a s.heap h'->iY X.prog X.w H h':=fun{a h'} ha hs b ob e=>by
  obtain⟨_,_,W⟩:=ha;refine(I.hok b ob e).stay (fun c G Z q=>(hs.2 c ?_).trans q) (fun _ q=>q) fun _ _ q=>q;rintro rfl;rcases Z with rfl|Z
  ·rw[W]at e;cases e
  ·rw[W]at Z;cases Z
 rcases Y with hk|hk
 ·refine wpAny_storeName_local hk hn (fun h' f hs=>?_) J;obtain⟨oL,_,_,a0,_⟩:=id hn;refine h _ ⟨I.ok,I.os,I.bare,⟨fun b o e n R Y=>?_,fun b o e n R Y=>?_,I.base.free,fun b o e Y=>?_,I.base.tups,I.base.frzs,I.base.tbls⟩,⟨_,f,fun j y l e1 e2 e3=>?_⟩,fun y c e=>?_,I.free,I.freeC,fun p hp=>?_,tracked ⟨oL,a0,I.free⟩ hs,by simpa using I.len⟩ ⟨_,hs,.inl rfl⟩
  ·exact(hs.2 b (Kf (Kd (J0 e) I.ok.above))).trans (I.base.keep b o e n R Y)
  ·obtain⟨t,e1⟩:=I.base.slot b o e n R Y;exact⟨t,(hs.2 b (Kf (Kd (J0 e) I.ok.above))).trans e1⟩
  ·obtain⟨o',e1⟩:=I.base.there b o e Y;exact⟨o',(hs.2 b (Kf (Kd (J0 e) I.ok.above))).trans e1⟩
  ·by_cases hj:j=i
   ·subst hj;rw[L]at e1;cases e1;rw[KR U]at e2;cases e2;exact⟨u,r,.inl ⟨hk,by simp⟩⟩
   ·rw[KQ (lx hj)]at e2;obtain⟨C,g,q⟩:=hl j y l e1 e2 e3;refine⟨C,g,?_⟩;rcases q with⟨k,e⟩|⟨k,c,e,z⟩
    ·refine .inl ⟨k,?_⟩;have:y≠x:=fun e=>hj (tJ hN e1 (e ▸ L));simp[this,e]
    ·exact .inr ⟨k,c,e,z.sameBut hs (T y c e)⟩
  ·obtain⟨G,z⟩:=I.cell y c e;exact⟨G,z.sameBut hs (T y c e)⟩
  ·obtain⟨e,n,ne,B,d⟩:=I.pin p hp;exact⟨(hs.2 p.1 ne).trans e,n,ne,B,d⟩
 ·have S:X.fn x=true:=by
   rcases hf with z|z
   ·exact z
   ·rw[z]at hk;cases hk
  obtain⟨c,Z⟩:=I.ok.has x (.inl hk);obtain⟨G,z⟩:=I.cell x c Z;refine wpAny_storeName_cell I.ok.kind hk Z z (fun h' K hs=>?_);obtain⟨oc,P,O⟩:=id z;refine h {s with heap:=h'} ⟨I.ok,I.os,I.bare,⟨fun b o e n R Y=>?_,fun b o e n R Y=>?_,I.base.free,fun b o e Y=>?_,I.base.tups,I.base.frzs,I.base.tbls⟩,⟨m,hn.sameBut hs (lx (T x c Z)),fun j y l e1 e2 e3=>?_⟩,fun y F e=>?_,I.free,I.freeC,fun p hp=>?_,tracked ⟨oc,P,I.freeC x c Z⟩ hs,by simpa using I.len⟩ ⟨c,hs,.inr Z⟩
  ·exact(hs.2 b (Kf (Kd (J0 e) (I.ok.cab x c S Z)))).trans (I.base.keep b o e n R Y)
  ·obtain⟨t,e1⟩:=I.base.slot b o e n R Y;exact⟨t,(hs.2 b (Kf (Kd (J0 e) (I.ok.cab x c S Z)))).trans e1⟩
  ·obtain⟨o',e1⟩:=I.base.there b o e Y;exact⟨o',(hs.2 b (Kf (Kd (J0 e) (I.ok.cab x c S Z)))).trans e1⟩
  ·by_cases hj:j=i
   ·subst hj;rw[L]at e1;cases e1;rw[KR U]at e2;cases e2;exact⟨u,r,.inr ⟨.inl hk,c,Z,K⟩⟩
   ·rw[KQ (lx hj)]at e2;obtain⟨C,g,q⟩:=hl j y l e1 e2 e3;refine⟨C,g,?_⟩;rcases q with q|⟨k,F,e,z'⟩
    ·exact .inl q
    ·refine .inr ⟨k,F,e,z'.sameBut hs ?_⟩;rintro rfl;exact hj (tJ hN e1 (I.ok.inj _ _ _ e Z ▸ L))
  ·by_cases hcc:F=c
   ·subst hcc;exact⟨_,K⟩
   ·obtain⟨w2,z2⟩:=I.cell y F e;exact⟨w2,z2.sameBut hs hcc⟩
  ·obtain⟨e,n,ne,B,d⟩:=I.pin p hp;refine⟨(hs.2 p.1 ?_).trans e,n,ne,B,d⟩;intro q;rw[q,P]at e;have q':oc=p.2:=Kl e;exact d G (by rw[<-q'];exact O)
theorem tK{Q:Unit->c_->Prop}(I:Inv X pins σ H s)(Z:X.N.Nodup)(T:X.N[i]? =ar x)(U:Loc X.env.scope x)(r:RelV v u)
  (h:∀s',Inv X pins (σ.set i (ar v)) H s'->Q () s') (W:X.fn x=b_\/X.env.scope.names.lookup x=ar .local:=by first|exact .inl rfl|exact .inr rfl|assumption):er M A (storeName X.env x u) Q E s:=
 qP I Z T U r (fun s' Y _=>h s' Y) W
theorem Inv.call'{s':c_}(I:Inv X pins σ H s)(U:s'.os=s.os)(u:Un (nF X.stack) ch H H' s.heap s'.heap)(Z:iY X.prog X.w H' s'.heap)(W:yn s'.gens)
  (Y:∀b∈ch,(b∈X.ex\/X.s₀.heap.objs.size<=b)/\b≠X.env.locals/\(∀x c,X.env.cells.lookup x=ar c->c≠b)/\∀p∈X.pn++pins,p.1≠b):Inv X pins σ H' s':=by
 obtain⟨h',g',d',t',T⟩:=s';have e:T=s.os:=U;subst e;exact I.call (g':=g') (t':=t') (d':=d') u Z W Y
end
abbrev XK:=a_->Option b'->Hp->Prop
abbrev St:=List (Option V)
abbrev VK:=V->Hp->Prop
abbrev TE:=St->Hp->VK->Prop
abbrev TT:=St->Hp->(Bool->Hp->Prop)->Prop
abbrev TA:=St->Hp->(List V->Hp->Prop)->Prop
structure Ends where
 nx:St->Hp->Prop
 rt:VK
 bk:St->Hp->Prop:=fun _ _=>False
 ct:St->Hp->Prop:=fun _ _=>False
abbrev TS:=Ends->St->Hp->Prop
def EP(X:Cx)(pins:List (b'×Obj))(σ:St)(Q:VK)(u:a_)(s':c_):Prop:=∃v H',Inv X pins σ H' s'/\RelV v u/\Q v H'
def TP(X:Cx)(pins:List (b'×Obj))(σ:St)(Q:Bool->Hp->Prop)(b:Bool)(s':c_):Prop:=∃H',Inv X pins σ H' s'/\Q b H'
def AP(X:Cx)(pins:List (b'×Obj))(σ:St)(Q:List V->Hp->Prop)(us:List a_)(s':c_):Prop:=∃vs H',Inv X pins σ H' s'/\bw vs us/\Q vs H'
def SP(X:Cx)(pins:List (b'×Obj))(D:Ends)(f:Flow)(s':c_):Prop:=
 match f with
 | .next=>∃ σ' H',Inv X pins σ' H' s'/\D.nx σ' H'
 | .brk=>∃ σ' H',Inv X pins σ' H' s'/\D.bk σ' H'
 | .cont=>∃ σ' H',Inv X pins σ' H' s'/\D.ct σ' H'
 | .ret u=>∃v σ' H',Inv X pins σ' H' s'/\RelV v u/\D.rt v H'
def PE(X:Cx)(e:Expr)(t:TE):Prop:=
 ∀(pins:List (b'×Obj)) (s:c_) (σ:St) (H:Hp) (Q:VK),Inv X pins σ H s->t σ H Q->er (ff X.prog X.w) X.A (h_ e X.env) (EP X pins σ Q) X.xe s
def PT(X:Cx)(e:Expr)(t:TT):Prop:=
 ∀(pins:List (b'×Obj)) (s:c_) (σ:St) (H:Hp) (Q:Bool->Hp->Prop),Inv X pins σ H s->t σ H Q->er (ff X.prog X.w) X.A (isTrue e X.env (h_ e X.env)) (TP X pins σ Q) X.xe s
def PW(X:Cx)(e:Expr)(t:TT):Prop:=
 ∀(whole:Sem a_) (pins:List (b'×Obj)) (s:c_) (σ:St) (H:Hp) (Q:Bool->Hp->Prop),Inv X pins σ H s->t σ H Q->er (ff X.prog X.w) X.A (isTrue e X.env whole) (TP X pins σ Q) X.xe s
theorem PW.pt(h:PW X e t):PT X e t:=h _
def PA(X:Cx)(es:List Expr)(t:TA):Prop:=
 ∀(pos:Pos) (pins:List (b'×Obj)) (s:c_) (σ:St) (H:Hp) (Q:List V->Hp->Prop),Inv X pins σ H s->t σ H Q->er (ff X.prog X.w) X.A (spliced (pb pos (eb es X.env))) (AP X pins σ Q) X.xe s
def PS(X:Cx)(st:p7)(t:TS):Prop:=
 ∀(pins:List (b'×Obj)) (s:c_) (σ:St) (H:Hp) (D:Ends),Inv X pins σ H s->t D σ H->er (ff X.prog X.w) X.A (exec st X.env) (SP X pins D) X.xe s
def qr(X:Cx)(st:List p7)(t:TS):Prop:=
 ∀(pins:List (b'×Obj)) (s:c_) (σ:St) (H:Hp) (D:Ends),Inv X pins σ H s->t D σ H->er (ff X.prog X.w) X.A (execs st X.env) (SP X pins D) X.xe s
theorem dY{α:Type}{t:Sem α}{Q Z:α->c_->Prop}{M:OI}{A:hF}{E:a_->c_->Prop}{s:c_}(h:er M A t Q E s)(Y:∀a s,Q a s->Z a s):er M A t Z E s:=Kq h Y fun _ _ x=>x
end L2
namespace L2
open PySem PySem.Spec PyProof.Rows
section
variable {X:Cx}
def Gu(i:Nat):TE:=fun σ H Q=>∃v,σ[i]? =ar (ar v)/\Q v H
def tC(v:V):TE:=fun _ H Q=>Q v H
theorem zW(W:X.N[i]? =ar x)(T:DT X.env.scope x)(Y:(x==("__debug__":Str))=false:=by decide)(Z:(x==("__classdict__":Str))=false:=by decide):PE X (.Name x pos) (Gu i):=by
 intro pins s σ H Q I h;obtain⟨v,e,h⟩:=h;obtain⟨m,U,S⟩:=I.loc;obtain⟨u,r,l⟩:=S i x v W e T;have fin:EP X pins σ Q u s:=⟨v,H,I,r,h⟩;rcases l with⟨hk,hm⟩|⟨hk,c,hc,hcell⟩
 ·exact Of (wpAny_loadName_local I.ok.kind hk U hm fin) Y
 ·rcases hk with hk|hk
  ·exact Of (wpAny_loadName_cell I.ok.kind hk hc hcell fin) Y
  ·exact Of (wpAny_loadName_free I.ok.kind hk hc hcell fin Z) Y
theorem zX{i j pos}:PE X (.Constant (.int i) j pos) (tC (.int i)):=fun _ _ _ H _ I h=>wpAny_Constant_int ⟨.int i,H,I.tok _,⟨_,rfl⟩,h⟩
theorem Gv{b j pos}:PE X (.Constant (.bool b) j pos) (tC (.bl b)):=fun _ _ _ H _ I h=>Constant_bool ⟨.bl b,H,I,rfl,h⟩
theorem Ee{j pos}:PE X (.Constant .none j pos) (tC .non):=fun _ _ _ H _ I h=>Constant_none ⟨.non,H,I,rfl,h⟩
theorem Ef{x j pos}:PE X (.Constant (.str x) j pos) (tC (.str x)):=fun _ _ _ H _ I h=>Calls.Constant_str ⟨.str x,H,I.tok _,⟨_,rfl⟩,h⟩
def Gl(X:Cx)(x:Str):Prop:=X.env.kindOf x=ar .globalImplicit
theorem oz{Q:a_->c_->Prop}(I:Inv X pins σ H s)(Z:Gl X x)(Y:X.mg x=ar u)(h:Q u s)
  (W:(x==("__debug__":Str))=false:=by decide):er (ff X.prog X.w) X.A (h_ (.Name x pos) X.env) Q E s:=
 MI I.ok.kind Z (Calls.loadGlobal_global (by rw[I.ok.glob];exact I.mod.glob.keeps I.bk) Y h) W
theorem kF{Q:a_->c_->Prop}(I:Inv X pins σ H s)(Z:Gl X x)(T:X.mg x=none)(R:la x=ar u)(h:Q u s)
  (S:x≠"__name__":=by decide) (W:(x==("__debug__":Str))=false:=by decide):er (ff X.prog X.w) X.A (h_ (.Name x pos) X.env) Q E s:=by
 obtain⟨P,Y,U⟩:=I.mod.blt;exact MI I.ok.kind Z (Calls.loadGlobal_builtin (by rw[I.ok.glob];exact I.mod.glob.keeps I.bk) T (by rw[I.ok.blt];exact Y.keeps I.bk) ((U x S).trans R) h) W
theorem Cq(Z:Gl X x)(W:X.mg x=ar u)(r:RelV v u)(Y:(x==("__debug__":Str))=false:=by decide):PE X (.Name x pos) (tC v):=
 fun _ _ _ H _ I h=>oz I Z W ⟨v,H,I,r,h⟩ Y
theorem Cr(Z:Gl X x)(W:X.mg x=none)(T:la x=ar u)(r:RelV v u)(U:x≠"__name__":=by decide)(Y:(x==("__debug__":Str))=false:=by decide):PE X (.Name x pos) (tC v):=
 fun _ _ _ H _ I h=>kF I Z W T ⟨v,H,I,r,h⟩ U Y
variable {a b:Expr}{ta tb:TE}{pos:Pos}
theorem tL(b:Expr)(h:op≠ .In)(Z:op≠ .NotIn):ly op b=false:=by
 have e1:(op==CmpOp.In)=false:=by cases op<;>first|rfl|exact absurd rfl h
 have e2:(op==CmpOp.NotIn)=false:=by cases op<;>first|rfl|exact absurd rfl Z
 cases b<;>simp[ly,e1,e2]
def tB(t:TE):TT:=fun σ H Q=>t σ H fun x H1=>∃c,x= .bl c/\Q c H1
theorem Eg(h:PE X e t)(Z:∀whole,isTrue e X.env whole=(do let v<-whole;F_ e.pos;z_ [v] (truthy v)):=by intro _;rfl):PT X e (tB t):=by
 intro pins s σ H Q I hw;refine isTrue_plain (dY (h pins s σ H _ I hw) fun v s1 ⟨x,H1,I1,r1,q1⟩=>?_) (Z _);obtain⟨d,rfl,q⟩:=q1;cases r1;exact KZ ⟨H1,I1,q⟩
variable {tA tB':TT}{rest:List Expr}
def Io(t u:TT):TT:=fun σ H Q=>t σ H fun c H1=>if c=b_ then u σ H1 Q else Q dV H1
def JG(t u:TT):TT:=fun σ H Q=>t σ H fun c H1=>if c=b_ then Q b_ H1 else u σ H1 Q
def Ip(t:TT):TT:=fun σ H Q=>t σ H fun c H1=>Q (!c) H1
theorem Cs(Z:PT X a tA):PW X (.BoolOp .And [a] pos) tA:=by
 intro Y pins s σ H Q I h;refine isTrue_and (dY (Z pins s σ H Q I h) fun c s1 e=>?_);cases c with
 |true=>exact isTrue_and_nil e
 |false=>exact e
theorem Eh(Z:PT X a tA):PW X (.BoolOp .Or [a] pos) tA:=by
 intro Y pins s σ H Q I h;refine isTrue_or (dY (Z pins s σ H Q I h) fun c s1 e=>?_);cases c with
 |false=>exact isTrue_or_nil e
 |true=>exact e
theorem Ei(Z:PT X a tA)(Y:PW X (.BoolOp .And (b::rest) pos) tB'):PW X (.BoolOp .And (a::b::rest) pos) (Io tA tB'):=by
 intro W pins s σ H Q I h;refine isTrue_and (dY (Z pins s σ H _ I h) fun c s1 ⟨H1,I1,q1⟩=>?_);cases c with
 |true=>exact Y W pins s1 σ H1 Q I1 q1
 |false=>exact⟨H1,I1,q1⟩
theorem Gw(Z:PT X a tA)(Y:PW X (.BoolOp .Or (b::rest) pos) tB'):PW X (.BoolOp .Or (a::b::rest) pos) (JG tA tB'):=by
 intro W pins s σ H Q I h;refine isTrue_or (dY (Z pins s σ H _ I h) fun c s1 ⟨H1,I1,q1⟩=>?_);cases c with
 |true=>exact⟨H1,I1,q1⟩
 |false=>exact Y W pins s1 σ H1 Q I1 q1
theorem Ej(Z:PT X a tA):PT X (.UnaryOp .Not a pos) (Ip tA):=by
 intro pins s σ H Q I h;exact isTrue_not (Z pins s σ H (fun c Y=>Q (!c) Y) I h)
def Gx(ta tb:TE):TE:=fun σ H Q=>ta σ H fun x H1=>∃c,x= .bl c/\if c=b_ then tb σ H1 Q else Q (.bl dV) H1
def Gy(ta:TE):TE:=fun σ H Q=>ta σ H fun x H1=>∃c,x= .bl c/\Q (.bl (!c)) H1
theorem El{op}(h:PE X a t):PE X (.BoolOp op [a] pos) t:=fun pins s σ H Q I hw=>BoolOp_one (h pins s σ H Q I hw)
theorem Em(Y:PE X a ta)(W:PE X (.BoolOp .And (b::rest) pos) tb):PE X (.BoolOp .And (a::b::rest) pos) (Gx ta tb):=by
 intro pins s σ H Q I h;refine BoolOp_and (dY (Y pins s σ H _ I h) fun v s1 ⟨x,H1,I1,r1,Z⟩=>?_);obtain⟨c,rfl,Z⟩:=Z;cases r1;refine KZ ?_;cases c with
 |true=>exact W pins s1 σ H1 Q I1 Z
 |false=>exact⟨.bl dV,H1,I1,rfl,Z⟩
theorem En(Y:PE X a ta):PE X (.UnaryOp .Not a pos) (Gy ta):=by
 intro pins s σ H Q I h;refine UnaryOp_ (dY (Y pins s σ H _ I h) fun v s1 ⟨x,H1,I1,r1,Z⟩=>?_);obtain⟨c,rfl,Z⟩:=Z;cases r1;exact not_of (KZ ⟨.bl (!c),H1,I1,rfl,Z⟩)
end
end L2
namespace L2
open PySem PySem.Spec PyProof.Rows
def jH(K:dt)(H:Hp)(a:b')(xs:List V):Prop:=
 Rd H a (.lst xs)\/
  ∃(o:Obj) (its:Array a_) (n:Nat),K.lookup a=ar o/\o.cls= .type "list"/\o.dict=none/\o.data= .seq its n/\its.size<=sizeLine/\bw xs its.toList
def nG(K:dt)(H:Hp)(a:b')(xs:List V):Prop:=
 Rd H a (.tup xs)\/
  ∃(o:Obj) (its:Array a_) (n:Nat),K.lookup a=ar o/\o.cls= .type "tuple"/\o.data= .seq its n/\its.size<=sizeLine/\bw xs its.toList
def Iq:a_->Option V
 | .none=>ar .non
 | .bool b=>ar (.bl b)
 | .int i _=>ar (.int i)
 | .str x _=>ar (.str x)
 | .bytes b _=>ar (.byt b)
 | .float b _=>ar (.flt b)
 | .ref a=>ar (.ref a)
 | .type n=>ar (.ty n)
 |_=>none
theorem RelV.abs(r:RelV x u):Iq u=ar x:=by
 cases x with
 |non=>cases r;rfl
 |bl _=>cases r;rfl
 |int _=>obtain⟨t,rfl⟩:=r;rfl
 |str _=>obtain⟨t,rfl⟩:=r;rfl
 |byt _=>obtain⟨t,rfl⟩:=r;rfl
 |flt _=>obtain⟨t,rfl⟩:=r;rfl
 |ref _=>cases r;rfl
 |ty _=>cases r;rfl
theorem RelV.inj(r:RelV x u)(q:RelV y u):x=y:=Kl (r.abs.symm.trans q.abs)
theorem bw.inj:∀{xs ys:List V} {us:List a_},bw xs us->bw ys us->xs=ys
 |_,_,_,.nil,.nil=>rfl
 |_,_,_,.cons r t,.cons r' t'=>by rw[r.inj r',bw.inj t t']
section
variable {X:Cx}{pins:List (b'×Obj)}{σ:St}{H:Hp}{s:c_}{a:b'}{xs ys:List V}
theorem jH.of{K:dt}(h:H a=ar (.lst xs)):jH K H a xs:=.inl (.inl h)
theorem nG.of{K:dt}(h:H a=ar (.tup xs)):nG K H a xs:=.inl (.inl h)
theorem Inv.list(I:Inv X pins σ H s)(h:jH X.K H a xs):∃its:List a_,bw xs its/\PlainL s.heap a its.toArray/\xs.length<=sizeLine:=by
 rcases h with h|⟨o,its,n,hk,hc,hd,hs,hz,r⟩
 ·obtain⟨z,its,n,r,e⟩:=h.ok I.hok;exact⟨its,r,⟨_,n,e,rfl,rfl,rfl⟩,z⟩
 ·refine⟨its.toList,r,⟨o,n,I.kIn a o hk,hc,hd,by simpa using hs⟩,?_⟩
  have e:=r.length;simp only[z3]at e;omega
theorem Inv.tuple(I:Inv X pins σ H s)(h:nG X.K H a xs):∃its:List a_,bw xs its/\Oq s.heap a its.toArray/\xs.length<=sizeLine:=by
 rcases h with h|⟨o,its,n,hk,hc,hs,hz,r⟩
 ·obtain⟨z,its,r,p⟩:=h.ok I.hok;exact⟨its,r,p,z.1⟩
 ·refine⟨its.toList,r,⟨o,I.kIn a o hk,hc,n,by simpa using hs⟩,?_⟩
  have e:=r.length;simp only[z3]at e;omega
theorem Inv.list_inj(I:Inv X pins σ H s)(h:jH X.K H a xs)(h':jH X.K H a ys):xs=ys:=by
 obtain⟨its,r,⟨o,n,e,_,_,d⟩,_⟩:=I.list h;obtain⟨its',Y,⟨U,W,Z,_,_,d'⟩,_⟩:=I.list h';rw[e]at Z;cases Z;rw[d]at d';injection d' with d1 _;have:its=its':=by simpa using Mx Array.toList d1
 subst this;exact r.inj Y
theorem Inv.tuple_inj(I:Inv X pins σ H s)(h:nG X.K H a xs)(h':nG X.K H a ys):xs=ys:=by
 obtain⟨its,r,⟨o,e,_,n,d⟩,_⟩:=I.tuple h;obtain⟨its',Y,⟨U,Z,_,W,d'⟩,_⟩:=I.tuple h';rw[e]at Z;cases Z;rw[d]at d';injection d' with d1 _;have:its=its':=by simpa using Mx Array.toList d1
 subst this;exact r.inj Y
end
abbrev Cx.wish(X:Cx)(E:a_->c_->Prop):Cx:={X with xe:=E}
abbrev Cx.nox(X:Cx):Cx:=X.wish fun _ _=>False
theorem Cx.Ok.wish{X:Cx}(Z:X.Ok)(E:a_->c_->Prop):(X.wish E).Ok:=
 ⟨Z.mod,Z.kind,Z.glob,Z.blt,Z.above,Z.inj,Z.has,Z.cab,Z.hd,Z.frames,Z.stk,Z.exf,Z.bs,Z.bsz,Z.noex,Z.exfs,Z.funs,Z.frf⟩
theorem Cx.Ok.unwish{X:Cx}(Z:(X.wish E).Ok):X.Ok:=
 ⟨Z.mod,Z.kind,Z.glob,Z.blt,Z.above,Z.inj,Z.has,Z.cab,Z.hd,Z.frames,Z.stk,Z.exf,Z.bs,Z.bsz,Z.noex,Z.exfs,Z.funs,Z.frf⟩
section
variable {X:Cx}{pins:List (b'×Obj)}{σ:St}{H:Hp}{s:c_}{E:a_->c_->Prop}
theorem Inv.wish(I:Inv X pins σ H s)(E:a_->c_->Prop):Inv (X.wish E) pins σ H s:=⟨I.ok.wish E,I.os,I.bare,I.base,I.loc,I.cell,I.free,I.freeC,I.pin,I.hok,I.len⟩
theorem Inv.unwish(I:Inv (X.wish E) pins σ H s):Inv X pins σ H s:=⟨I.ok.unwish,I.os,I.bare,I.base,I.loc,I.cell,I.free,I.freeC,I.pin,I.hok,I.len⟩
theorem SP.unwish(h:SP (X.wish E) pins D f s'):SP X pins D f s':=by
 cases f with
 |next=>obtain⟨Z,Y,I,q⟩:=h;exact⟨Z,Y,I.unwish,q⟩
 |brk=>obtain⟨Z,Y,I,q⟩:=h;exact⟨Z,Y,I.unwish,q⟩
 |cont=>obtain⟨Z,Y,I,q⟩:=h;exact⟨Z,Y,I.unwish,q⟩
 |ret u=>obtain⟨v,Z,Y,I,r,q⟩:=h;exact⟨v,Z,Y,I.unwish,r,q⟩
theorem qr.nox{Z:List p7}{t:TS}(h:qr X.nox Z t):qr X Z t:=fun pins s σ H D I hw=>
 Kq (h pins s σ H D (I.wish _) hw) (fun _ _ q=>q.unwish) fun _ _ z=>kS z
end
section
variable {X:Cx}{st:p7}{rest:List p7}{t u:TS}{e:Expr}{te:TE}{pos:Pos}
def Gz:TS:=fun D σ H=>D.nx σ H
def Ir(t u:TS):TS:=fun D σ H=>t {D with nx:=u D} σ H
theorem Ct:qr X [] Gz:=fun _ _ σ H _ I h=>MA ⟨σ,H,I,h⟩
theorem tN(W:PS X st t)(T:qr X rest u):qr X (st::rest) (Ir t u):=by
 intro pins s σ H D I h;refine wpAny_execs_cons (dY (W pins s σ H {D with nx:=u D} I h) fun f s1 q=>?_);cases f with
 |next=>
  obtain⟨Z,U,Y,q⟩:=q;exact T pins s1 Z U D Y q
 |ret v=>exact q
 |brk=>exact q
 |cont=>exact q
theorem xc(Z:PS X st t):qr X [st] t:=by
 intro pins s σ H D I h;refine wpAny_execs_cons (dY (Z pins s σ H D I h) fun f s1 q=>?_);cases f with
 |next=>exact MA q
 |ret v=>exact q
 |brk=>exact q
 |cont=>exact q
theorem Inv.quiet(I:Inv X pins σ H s):interactive X.env=false:=by simp[interactive,I.ok.kind]
def GA(te:TE):TS:=fun D σ H=>te σ H fun _ H1=>D.nx σ H1
theorem Cu(Z:PE X e te)(hs:p8 e none pos.line X.env=aC false:=by rfl):PS X (.Expr e pos) (GA te):=by
 intro pins s σ H D I h;exact wpAny_Expr_any (dY (Z pins s σ H _ I h) fun v s1 ⟨x,H1,I1,r1,q1⟩=>⟨σ,H1,I1,q1⟩) I.quiet hs
def Iu(te:TE):TS:=fun D σ H=>te σ H D.rt
theorem Eo(Z:PE X e te):PS X (.Return (ar e) pos) (Iu te):=by
 intro pins s σ H D I h;exact wpAny_Return_some (dY (Z pins s σ H _ I h) fun v s1 ⟨x,H1,I1,r1,q1⟩=>⟨x,σ,H1,I1,r1,q1⟩)
def Iv(c:TT)(t u:TS):TS:=fun D σ H=>c σ H fun b H1=>if b=b_ then t D σ H1 else u D σ H1
theorem GC(W:PT X c tc)(Z:qr X a t)(Y:qr X b u):PS X (.If c a b pos) (Iv tc t u):=by
 intro pins s σ H D I h;refine wpAny_If (dY (W pins s σ H _ I h) fun d s1 ⟨H1,I1,q1⟩=>?_);cases d with
 |true=>exact Z pins s1 σ H1 D I1 q1
 |false=>exact Y pins s1 σ H1 D I1 q1
end
abbrev TG:=V->St->Hp->(St->Hp->Prop)->Prop
abbrev Ep:=List V->St->Hp->(St->Hp->Prop)->Prop
def PG(X:Cx)(target:Expr)(t:TG):Prop:=
 ∀(pins:List (b'×Obj)) (s:c_) (σ:St) (H:Hp) (v:V) (u:a_) (Q:St->Hp->Prop),Inv X pins σ H s->RelV v u->t v σ H Q->
  er (ff X.prog X.w) X.A (K' target X.env u) (fun _ s'=>∃ σ' H',Inv X pins σ' H' s'/\Q σ' H') X.xe s
def Cc(X:Cx)(ts:List Expr)(t:Ep):Prop:=
 ∀(pins:List (b'×Obj)) (s:c_) (σ:St) (H:Hp) (vs:List V) (us:List a_) (Q:St->Hp->Prop),Inv X pins σ H s->bw vs us->t vs σ H Q->
  er (ff X.prog X.w) X.A (assignInOrder ((pd ts X.env).map (·.2)) us) (fun _ s'=>∃ σ' H',Inv X pins σ' H' s'/\Q σ' H') X.xe s
abbrev Er:=V->V->V->Hp->(Hp->Prop)->Prop
def GD(X:Cx)(t:Er):Prop:=
 ∀(pins:List (b'×Obj)) (s:c_) (σ:St) (H:Hp) (o i v:V) (ov iv u:a_) (Q:Hp->Prop),Inv X pins σ H s->RelV o ov->RelV i iv->RelV v u->t o i v H Q->
  er (ff X.prog X.w) X.A (OJ ov iv u) (fun _ s'=>∃H',Inv X pins σ H' s'/\Q H') X.xe s
section
variable {X:Cx}{pos:Pos}
def zY(i:Nat):TG:=fun v σ H Q=>Q (σ.set i (ar v)) H
theorem Cv(Z:X.N.Nodup)(T:X.N[i]? =ar x)(U:Loc X.env.scope x)(W:X.fn x=b_\/X.env.scope.names.lookup x=ar .local:=by first|exact .inl rfl|exact .inr rfl|assumption):PG X (.Name x pos) (zY i):=by
 intro pins s σ H v u Q I r h;exact wpAny_assign_Name (tK I Z T U r (fun s' Y=>⟨_,H,Y,h⟩) W)
def Iw:Ep:=fun vs σ H Q=>vs=[]/\Q σ H
def GE(t:TG)(u:Ep):Ep:=fun vs σ H Q=>∃v r,vs=v::r/\t v σ H fun σ' H'=>u r σ' H' Q
theorem Cw:Cc X [] Iw:=by
 intro pins s σ H vs us Q I r h;obtain⟨e,h⟩:=h;subst e;cases r;exact assignInOrder_nil ⟨σ,H,I,h⟩
theorem zZ(Z:PG X e t)(Y:Cc X es u)
  (hs:(pd (e::es) X.env).map (·.2)=K' e X.env::(pd es X.env).map (·.2):=by rfl):Cc X (e::es) (GE t u):=by
 intro pins s σ H vs us Q I r h;obtain⟨v,W,e1,h⟩:=h;subst e1;cases r with
 |cons r rr=>
  rw[hs];refine assignInOrder_cons (dY (Z pins s σ H _ _ _ I r h) fun _ s1 ⟨σ1,H1,I1,q1⟩=>?_);exact Y pins s1 σ1 H1 _ _ Q I1 rr q1
def Iy(K:dt)(n:Nat)(t:Ep):TG:=fun v σ H Q=>∃a xs,v= .ref a/\nG K H a xs/\xs.length=n/\t xs σ H Q
theorem Es(O:X.calm=b_)(h:Cc X es t)
  (S:(pd es X.env).length=n:=by rfl) (Z:(pd es X.env).findIdx? (·.1)=none:=by rfl):PG X (.Tuple es k pos) (Iy X.K n t):=by
 intro pins s σ H v u Q I r hw;obtain⟨a,xs,e1,P,R,hw⟩:=hw;subst e1;cases r;obtain⟨its,Y,U,N⟩:=I.tuple P;refine assign_Tuple_tuple (I.ok.hd O) U (by simp[S, <-R,Y.length]) Z fun h' W=>?_
 have T:Inv X pins σ H {s with heap:=h'}:=I.kept (t':=s.toks) fun b o e=>W b o (Kf (J0 e)) e;exact h pins _ σ H xs _ Q T (by simpa using Y) hw
def Iz(to ti:TE)(t:Er):TG:=fun v σ H Q=>to σ H fun o H1=>ti σ H1 fun i H2=>t o i v H2 fun H3=>Q σ H3
theorem Et(Y:PE X o to)(W:PE X i ti)(hs:GD X t)
  (Z:∀v,K' (.Subscript o i pos) X.env v=(do
   let ov<-z_ [v] (h_ o X.env);let iv<-z_ [v,ov] (h_ i X.env)
   F_ pos
   z_ [v,ov,iv] (OJ ov iv v)
   release [v,ov,iv] []):=by intro _;rfl):PG X (.Subscript o i pos) (Iz to ti t):=by
 intro pins s σ H v u Q I r h;rw[Z];refine JU (Ld (dY (Y pins s σ H _ I h) fun ov s1 ⟨x,H1,I1,r1,q1⟩=>?_));refine JU (Ld (dY (W pins s1 σ H1 _ I1 q1) fun iv s2 ⟨y,H2,I2,r2,q2⟩=>?_));refine JU (KO (JU (Ld (dY (hs pins s2 σ H2 x y v ov iv u _ I2 r1 r2 r q2) fun _ s3 ⟨H3,I3,q3⟩=>?_))));exact wpAny_release ⟨σ,H3,I3,q3⟩
def Eu(te:TE)(g:TG):TS:=fun D σ H=>te σ H fun x H1=>g x σ H1 D.nx
theorem Ew(W:PE X e te)(Z:PG X tg g)(hs:swapsWithSole [tg] e pos.line X.env=aC false:=by rfl)(U:swappedStores [tg] e X.env=aC none:=by rfl)
  (Y:(pd [tg] X.env).map (·.2)=[K' tg X.env]:=by rfl):PS X (.Assign [tg] e pos) (Eu te g):=by
 intro pins s σ H D I h;refine wpAny_Assign_stores (dY (W pins s σ H _ I h) fun v s1 ⟨x,H1,I1,r1,q1⟩=>?_) hs U;rw[Y];exact dY (Z pins s1 σ H1 x v _ I1 r1 q1) fun _ s2 q=>q
theorem Ex(Z:X.N.Nodup)(S:X.N[i]? =ar x)(W:Loc X.env.scope x)(T:PE X e te)(hs:p8 e (ar (.Name x pos')) pos.line X.env=aC false:=by rfl)(Y:X.fn x=b_\/X.env.scope.names.lookup x=ar .local:=by first|exact .inl rfl|exact .inr rfl|assumption):
  PS X (.Assign [.Name x pos'] e pos) (Eu te (zY i)):=by
 intro pins s σ H D I h;refine wpAny_Assign_Name (dY (T pins s σ H _ I h) fun v s1 ⟨y,H1,I1,r1,q1⟩=>?_) hs;exact tK I1 Z S W r1 (fun s2 U=>⟨_,H1,U,q1⟩) Y
end
section
variable {X:Cx}{pos:Pos}
def Ey(c:TT)(tb:TS):TS:=fun D σ H=>∃W:Nat->St->Hp->Prop,(∃m,W m σ H)/\∀m σ H,W m σ H->
 c σ H fun b H1=>if b=b_ then ∃N:St->Hp->Prop,(∀ σ' H',N σ' H'->∃m',m'<m/\W m' σ' H')/\tb {D with nx:=N,ct:=N,bk:=D.nx} σ H1 else D.nx σ H1
theorem z5{c:Expr}{body:List p7}{K:TT}{tb:TS}(L:Nz (ff X.prog X.w) X.A X.env X.xe)(F:PT X c K)(J:qr X body tb):PS X (.While c body [] pos) (Ey K tb):=by
 intro pins s σ H D I h;obtain⟨W,⟨m0,G⟩,turn⟩:=h;refine wpAny_While (codeAny_whileLoop (fun n s'=>∃ σ' H',Inv X pins σ' H' s'/\W n σ' H') ?_ m0 ⟨σ,H,I,G⟩);rintro n s1 ⟨σ1,H1,I1,w1⟩;refine Lz L (dY (F pins s1 σ1 H1 _ I1 (turn n σ1 H1 w1)) fun b s2 ⟨H2,I2,T⟩=>?_);cases b with
 | true=>
  obtain⟨N,O,T⟩:=T;rw[if_pos rfl];refine Lz L (dY (J pins s2 σ1 H2 _ I2 T) fun f s3 U=>?_);cases f with
  |next=>
   obtain⟨Z,Y,S,P⟩:=U;obtain⟨R,hm,Q⟩:=O Z Y P;exact⟨R,hm,Z,Y,S,Q⟩
  |cont=>
   obtain⟨Z,Y,S,P⟩:=U;obtain⟨R,hm,Q⟩:=O Z Y P;exact⟨R,hm,Z,Y,S,Q⟩
  |brk=>exact U
  |ret v=>exact U
 |false=>
  rw[if_neg Lg];exact MA ⟨σ1,H2,I2,T⟩
end
structure It where
 go:Nat->Hp->Prop
 yld:Nat->Hp->V->Hp->Prop
 stop:Nat->Hp->Prop
def jC(X:Cx)(pins:List (b'×Obj))(H:Hp)(b:b'):Prop:=
 H b=none/\b≠X.env.locals/\b∉X.fs/\(b∈X.ex\/X.s₀.heap.objs.size<=b)/\(∀x c,X.env.cells.lookup x=ar c->c≠b)/\∀p∈X.pn++pins,p.1≠b
theorem Inv.fpOk{Y:Hp}(I:Inv X pins σ H s)(Z:s.heap.objs.size<=b)(U:Y b=none):jC X pins Y b:=by
 refine⟨U,LQ (Kd I.lt Z),I.nofs Z,.inr (J4 I.sz Z),fun x c e z=>?_,fun p W z=>?_⟩
 ·obtain⟨v,q⟩:=I.cell x c e;exact absurd (Kd q.lt (by rw[z];exact Z)) (K4 _)
 ·exact absurd (Kd (J0 (I.pin p W).1) (by rw[z];exact Z)) (K4 _)
structure Turn(P:ed)(w:ee)(K:dt)(tg:Expr)(J:It)(fp:List b')(it:b')(tn:Nat->f_->Prop):Prop where
 mem:it∈fp
 obj:∀i h,tn i h->∀b∈fp,∃o,h.get? b=ar o/\∀v,o.data≠ .cell v
 keep:∀i h h',tn i h->(∀b∈fp,∀o,h.get? b=ar o->h'.get? b=ar o)->tn i h'
 item:∀(X:Cx),X.prog=P->X.w=w->X.K=K->X.calm=b_->∀(i:Nat) (pins:List (b'×Obj)) (s:c_) (σ:St) (H:Hp) (E:a_->c_->Prop),Inv X pins σ H s->(∀b∈fp,jC X pins H b)->tn i s.heap->J.go i H->
  er (ff P w) X.A (NI (.ref it)) (fun r s1=>∃u,r=ar u/\
   er (ff P w) X.A (y4 tg (.ref it) u) (fun _ s2=>∃x H',Inv X pins σ H' s2/\RelV x u/\J.yld i H x H'/\tn (i+1) s2.heap/\∀b∈fp,H' b=none) E s1) E s
 done:∀(X:Cx),X.prog=P->X.w=w->X.K=K->X.calm=b_->∀(i:Nat) (pins:List (b'×Obj)) (s:c_) (σ:St) (H:Hp) (E:a_->c_->Prop),Inv X pins σ H s->(∀b∈fp,jC X pins H b)->tn i s.heap->J.stop i H->
  er (ff P w) X.A (NI (.ref it)) (fun r s1=>r=none/\Inv X pins σ H s1) E s
 self:∀(A:hF) (i:Nat) (s:c_) (Q:a_->c_->Prop) (E:a_->c_->Prop),tn i s.heap->Q (.ref it) s->er (ff P w) A (Og (.ref it)) Q E s
abbrev TI:=St->Hp->(It->Hp->Prop)->Prop
def Jr(X:Cx)(pins:List (b'×Obj))(σ:St)(tg:Expr)(R:It->Hp->Prop)(itv:a_)(s2:c_):Prop:=
 ∃(it:b') (fp:List b') (tn:Nat->f_->Prop) (J:It) (H':Hp),itv= .ref it/\Inv X pins σ H' s2/\Turn X.prog X.w X.K tg J fp it tn/\tn 0 s2.heap/\(∀b∈fp,jC X pins H' b)/\R J H'
def PI(X:Cx)(tg iter:Expr)(wi:TI):Prop:=
 ∀(pins:List (b'×Obj)) (s:c_) (σ:St) (H:Hp) (R:It->Hp->Prop),Inv X pins σ H s->wi σ H R->
  er (ff X.prog X.w) X.A (h_ iter X.env) (fun v s1=>er (ff X.prog X.w) X.A (Og v) (Jr X pins σ tg R) X.xe s1) X.xe s
theorem z6{s:c_}{Q:Unit->c_->Prop}(Y:s.heap.get? it=ar o)(U:o.cls= .type n)(W:o.data= .fields vs)
    (X:["enumerate","zip","dict_itemiterator","dict_reverseitemiterator","odict_iterator","itertools.zip_longest","itertools.pairwise"].contains n=dV) (Z:Q () s):er M A (y4 tg (.ref it) u) Q E s:=by
  unfold y4;cases tg <;>first
    |exact JZ Z
    |(cases u<;>first
        |exact JZ Z
        | (refine JU (wpAny_load Y ?_)
           rw[U,W];show er M A (if (["enumerate","zip","dict_itemiterator","dict_reverseitemiterator","odict_iterator","itertools.zip_longest","itertools.pairwise"].contains n && vs[0]? ==ar (xy _))=b_ then _ else _) Q E s;rw[if_neg (by intro h;rw[X,Lw]at h;cases h)]
           exact JZ Z))
def HJ(K:dt)(a:b'):It:=
 ⟨fun i H=>∃xs x,jH K H a xs/\xs[i]? =ar x,fun i H x H'=>H'=H/\∀xs,jH K H a xs->xs[i]? =ar x,fun i H=>∃xs,jH K H a xs/\xs.length<=i⟩
def IA(K:dt)(a:b'):It:=
 ⟨fun i H=>∃xs x,nG K H a xs/\xs[i]? =ar x,fun i H x H'=>H'=H/\∀xs,nG K H a xs->xs[i]? =ar x,fun i H=>∃xs,nG K H a xs/\xs.length<=i⟩
def GF(lo:Int)(n:Nat):It:=⟨fun i _=>i<n,fun i H x H'=>H'=H/\x= .int (lo+i),fun i _=>n<=i⟩
theorem yr{P:ed}{w:ee}{K:dt}{r:Expr}(a it:b'):Turn P w K r (HJ K a) [it] it (fun i h=>h.IsListIter it a i) where
 mem:=by simp
 obj:=fun i h st b Z=>by
  have e:b=it:=by simpa using Z
  subst e;obtain⟨o,e,c,d⟩:=st;exact⟨o,e,fun v z=>by rw[d]at z;cases z⟩
 keep:=fun i h h' st k=>st.at fun o e=>k it (by simp) o e
 item:=by
  intro X O hw Q J i pins s σ H E I hf st R;subst O hw Q;obtain⟨xs,x,U,T⟩:=R;obtain⟨its,N,p,A⟩:=I.list U;obtain⟨u,t,G⟩:=N.get T;obtain⟨f0,f1,f2,S,f4,L⟩:=hf it (by simp)
  refine wpAny_pyNext_list_item st p.isList (x:=u) (by simpa using t) fun h' Y F=>?_
  have C:Inv X pins σ H {s with heap:=h'}:=I.turned (t':=s.toks) (fun b o Z e=>(F.2 b Z).trans e) f0 f1 S f4 L;obtain⟨o,e,c,d⟩:=id Y;exact⟨u,rfl,z6 (s:={s with heap:=h'}) e c d (by decide) ⟨x,H,C,G,⟨rfl,fun ys y=>by rw[I.list_inj y U];exact T⟩,Y,fun b Z=>(hf b Z).1⟩⟩
 done:=by
  intro X O hw Q J i pins s σ H E I hf st R;subst O hw Q;obtain⟨xs,U,T⟩:=R;obtain⟨its,N,p,A⟩:=I.list U;obtain⟨f0,f1,f2,S,f4,L⟩:=hf it (by simp)
  have q:=N.length;exact wpAny_pyNext_list_end (I.ok.hd J) st p.isList (by simp;omega) fun h' B=>⟨rfl,I.turned (t':=s.toks) (fun b o Z e=>B b o Z e) f0 f1 S f4 L⟩
 self:=fun _ _ _ _ _ st h=>wpAny_pyIter_listiter st h
theorem vt{P:ed}{w:ee}{K:dt}{r:Expr}(a it:b'):Turn P w K r (IA K a) [it] it (fun i h=>h.IsTupleIter it a i) where
 mem:=by simp
 obj:=fun i h st b Z=>by
  have e:b=it:=by simpa using Z
  subst e;obtain⟨o,e,c,d⟩:=st;exact⟨o,e,fun v z=>by rw[d]at z;cases z⟩
 keep:=fun i h h' st k=>st.at fun o e=>k it (by simp) o e
 item:=by
  intro X O hw Q J i pins s σ H E I hf st R;subst O hw Q;obtain⟨xs,x,U,T⟩:=R;obtain⟨its,N,p,A⟩:=I.tuple U;obtain⟨u,t,G⟩:=N.get T;obtain⟨f0,f1,f2,S,f4,L⟩:=hf it (by simp)
  refine wpAny_pyNext_tuple_item st (show s.heap.IsTuple a its.toArray from p) (x:=u) (by simpa using t) fun h' Y F=>?_
  have C:Inv X pins σ H {s with heap:=h'}:=I.turned (t':=s.toks) (fun b o Z e=>(F.2 b Z).trans e) f0 f1 S f4 L;obtain⟨o,e,c,d⟩:=id Y;exact⟨u,rfl,z6 (s:={s with heap:=h'}) e c d (by decide) ⟨x,H,C,G,⟨rfl,fun ys y=>by rw[I.tuple_inj y U];exact T⟩,Y,fun b Z=>(hf b Z).1⟩⟩
 done:=by
  intro X O hw Q J i pins s σ H E I hf st R;subst O hw Q;obtain⟨xs,U,T⟩:=R;obtain⟨its,N,p,A⟩:=I.tuple U;obtain⟨f0,f1,f2,S,f4,L⟩:=hf it (by simp)
  have q:=N.length;exact wpAny_pyNext_tuple_end (I.ok.hd J) st (show s.heap.IsTuple a its.toArray from p) (by simp;omega) fun h' B=>⟨rfl,I.turned (t':=s.toks) (fun b o Z e=>B b o Z e) f0 f1 S f4 L⟩
 self:=fun _ _ _ _ _ st h=>wpAny_pyIter_tupleiter st h
theorem vv{P:ed}{w:ee}{K:dt}{A:Expr}(it:b')(U:Int)(n:Nat):Turn P w K A (GF U n) [it] it (fun i h=>IsRangeIter h it (U+(i:Nat)*1) ((n:Int) - (i:Nat)) 1) where
 mem:=by simp
 obj:=fun i h st b Z=>by
  have e:b=it:=by simpa using Z
  subst e;exact⟨_,st,fun v z=>by
   have G:Data.fields _=Data.cell v:=z;cases G⟩
 keep:=fun i h h' st k=>k it (by simp) _ st
 item:=by
  intro X O hw R Q i pins s σ H E I hf st S;subst O hw R;obtain⟨f0,f1,f2,T,f4,N⟩:=hf it (by simp)
  have W:=Walks.range (prog:=X.prog) (w:=X.w) (I.ok.hd Q) it U 1 n;refine W.item i s _ _ S st fun v h' L B Y C=>?_;obtain⟨t,rfl⟩:=B;have J:Inv X pins σ H {s with heap:=h',toks:=L}:=I.turned (fun b o Z e=>C b o (by simpa using Z) e) f0 f1 T f4 N
  refine⟨_,rfl,z6 (s:={s with heap:=h',toks:=L}) (n:="range_iterator") Y rfl rfl (by decide) ⟨.int (U+i),H,J,⟨t,?_⟩,⟨rfl,rfl⟩,Y,fun b Z=>(hf b Z).1⟩⟩
  rw[Int.mul_one]
 done:=by
  intro X O hw R Q i pins s σ H E I hf st S;subst O hw R;obtain⟨f0,f1,f2,T,f4,N⟩:=hf it (by simp)
  exact wpAny_pyNext_range_end (I.ok.hd Q) st (by have:n<=i:=S;omega) fun h' F=>⟨rfl,I.turned (t':=s.toks) (fun b o Z e=>F b o Z e) f0 f1 T f4 N⟩
 self:=fun _ _ _ _ _ st h=>wpAny_pyIter_rangeiter st h
end L2
namespace L2
open PySem PySem.Spec PyProof.Rows
section
variable {X:Cx}{tg:Expr}
def GG(K:dt)(tl:TE):TI:=fun σ H R=>tl σ H fun x H1=>∃a,x= .ref a/\(∃xs,jH K H1 a xs)/\R (HJ K a) H1
def IB(K:dt)(tl:TE):TI:=fun σ H R=>tl σ H fun x H1=>∃a,x= .ref a/\(∃xs,nG K H1 a xs)/\R (IA K a) H1
theorem lh{l:Expr}{Z:TE}(W:PE X l Z):PI X tg l (GG X.K Z):=by
 intro pins s σ H R I h;refine dY (W pins s σ H _ I h) fun v s1 ⟨x,H1,I1,r1,q1⟩=>?_;obtain⟨a,e,⟨xs,U⟩,q⟩:=q1;subst e;cases r1;obtain⟨its,T,p,S⟩:=I1.list U;refine MV p.isList ?_;refine⟨s1.heap.objs.size,[s1.heap.objs.size],_,_,H1,rfl,I1.kept (t':=s1.toks) fun b o e=>JW _ e,yr a _,⟨_,J9 _ rfl,rfl,rfl⟩,fun b Y=>?_,q⟩;have e:b=s1.heap.objs.size:=by simpa using Y
 subst e;exact I1.fpOk (JY _) (I1.hok.fresh (JY _))
theorem Ez{l:Expr}{Z:TE}(W:PE X l Z):PI X tg l (IB X.K Z):=by
 intro pins s σ H R I h;refine dY (W pins s σ H _ I h) fun v s1 ⟨x,H1,I1,r1,q1⟩=>?_;obtain⟨a,e,⟨xs,U⟩,q⟩:=q1;subst e;cases r1;obtain⟨its,T,p,S⟩:=I1.tuple U;refine Lp (show s1.heap.IsTuple a its.toArray from p) ?_;refine⟨s1.heap.objs.size,[s1.heap.objs.size],_,_,H1,rfl,I1.kept (t':=s1.toks) fun b o e=>JW _ e,vt a _,⟨_,J9 _ rfl,rfl,rfl⟩,fun b Y=>?_,q⟩;have e:b=s1.heap.objs.size:=by simpa using Y
 subst e;exact I1.fpOk (JY _) (I1.hok.fresh (JY _))
theorem tO{W:List (b'×Obj)}{S:St}{H:Hp}{s:c_}{R:It->Hp->Prop}{E:a_->c_->Prop}{Z Y:Int}{t u v:Tok}{T:Nat}(I:Inv X W S H s)(O: -(2 ^ 62)<=Z)(L:Z<2 ^ 62)(P: -(2 ^ 62)<=Y)(N:Y<2 ^ 62)
  (q:R (GF Z (Y - Z).toNat) H):er (ff X.prog X.w) X.A (Og (.ref s.heap.objs.size)) (Jr X W S tg R) E {s with heap:=s.heap.push {cls:=.type "range",data:=.fields #[.int Z t,.int Y u,.int 1 v]},toks:=T}:=by
 refine wpAny_pyIter_range (IsRange.new ..) (small_one O L P N) ?_;have U:Inv X W S H {s with heap:=s.heap.push {cls:=.type "range",data:=.fields #[.int Z t,.int Y u,.int 1 v]},toks:=T}:=I.kept fun b o e=>JW _ e;refine⟨(s.heap.push {cls:=.type "range",data:=.fields #[.int Z t,.int Y u,.int 1 v]}).objs.size,[(s.heap.push {cls:=.type "range",data:=.fields #[.int Z t,.int Y u,.int 1 v]}).objs.size],_,_,H,rfl,
  U.kept (t':=T) fun b o e=>JW _ e,vv _ Z (Y - Z).toNat,?_,fun b Q=>?_,q⟩
 ·have e1:Z+((0:Nat):Int)*1=Z:=by simp
  have e2:(((Y - Z).toNat:Nat):Int) - ((0:Nat):Int)=Builtin.Range.rangeSize Z Y 1:=by rw[rangeSize_one];split<;>omega
  show IsRangeIter _ _ (Z+((0:Nat):Int)*1) ((((Y - Z).toNat:Nat):Int) - ((0:Nat):Int)) 1;rw[e1,e2];exact J9 _ rfl
 ·have e:b=(s.heap.push {cls:=.type "range",data:=.fields #[.int Z t,.int Y u,.int 1 v]}).objs.size:=by simpa using Q
  subst e;exact U.fpOk (JY _) (U.hok.fresh (JY _))
def GH(ta:TA):TI:=fun σ H R=>ta σ H fun vs H1=>∃j:Int,vs=[.int j]/\ -(2 ^ 62)<=j/\j<2 ^ 62/\R (GF 0 j.toNat) H1
def GI(ta:TA):TI:=fun σ H R=>ta σ H fun vs H1=>∃i j:Int,vs=[.int i,.int j]/\(-(2 ^ 62)<=i/\i<2 ^ 62/\ -(2 ^ 62)<=j/\j<2 ^ 62)/\R (GF i (j - i).toNat) H1
theorem yt{a:Expr}{Y:TA}{p pos:Pos}(U:Gl X "range")(W:X.mg "range"=none)(T:PA X [a] Y)(hs:eb [a] X.env=[(dV,h_ a X.env)]:=by rfl):PI X tg (.Call (.Name "range" p) [a] [] pos) (GH Y):=by
 intro pins s σ H R I h;refine OP (kF I U W boot_range (K5 (dY (T pos pins s σ H _ I h) fun us s1 ⟨vs,H1,I1,r1,Z⟩=>?_) hs rfl));obtain⟨j,e,Z,S,q⟩:=Z;subst e;cases r1 with
 |cons r rr=>
  cases rr;obtain⟨t,rfl⟩:=r;exact call_range_1 (tO I1 (by omega) (by omega) Z S (by simpa using q))
theorem yu(T:Gl X "range")(U:X.mg "range"=none)(S:PA X [a,b] ta)(hs:eb [a,b] X.env=[(dV,h_ a X.env),(dV,h_ b X.env)]:=by rfl)(Z:eb [b] X.env=[(dV,h_ b X.env)]:=by rfl):
  PI X tg (.Call (.Name "range" p) [a,b] [] pos) (GI ta):=by
 intro pins s σ H R I h;refine OP (kF I T U boot_range (K5 (dY (S pos pins s σ H _ I h) fun us s1 ⟨vs,H1,I1,r1,Y⟩=>?_) (by rw[hs,Z]) (by rw[Z];rfl)))
 obtain⟨i,j,e,⟨Y,Q,W,P⟩,q⟩:=Y;subst e;cases r1 with
 | cons r rr=>
  cases rr with
  |cons r' rr=>
   cases rr;obtain⟨t,rfl⟩:=r;obtain⟨t',rfl⟩:=r';exact call_range_2 (tO I1 Y Q W P q)
def IC(wi:TI)(g:TG)(tb:TS):TS:=fun D σ H=>wi σ H fun J H1=>∃W:Nat->Nat->St->Hp->Prop,(∃m,W 0 m σ H1)/\∀i m σ H,W i m σ H->
 (J.stop i H/\D.nx σ H)\/(J.go i H/\∃N:St->Hp->Prop,(∀ σ' H',N σ' H'->∃m',m'<m/\W (i+1) m' σ' H')/\∀x H',J.yld i H x H'->g x σ H' fun σ2 H2=>tb {D with nx:=N,ct:=N,bk:=D.nx} σ2 H2)
def mE(fp:List b')(h:f_):List (b'×Obj):=fp.filterMap fun b=>(h.get? b).map fun o=>(b,o)
theorem fM{h:f_}(Z:b∈fp)(e:h.get? b=ar o):(b,o)∈mE fp h:=Lo.mpr ⟨b,Z,by rw[e];rfl⟩
theorem yw(Z:p∈mE fp h):p.1∈fp/\h.get? p.1=ar p.2:=by
 obtain⟨b,W,e⟩:=Lo.mp Z;cases q:h.get? b with
 |none=>rw[q]at e;cases e
 |some o=>
  rw[q]at e;have Y:(b,o)=p:=Kl e;subst Y;exact⟨W,q⟩
theorem Inv.pinned(I:Inv X pins σ H s)(W:∀b∈fp,jC X pins H b)(T:∀b∈fp,∃o,s.heap.get? b=ar o/\∀v,o.data≠ .cell v):Inv X (pins++mE fp s.heap) σ H s:=
 I.pins_of fun p U=>(Nf.mp U).elim (fun z=>I.pin p (Ko _ z)) fun z=>by
  obtain⟨Z,e⟩:=yw z;obtain⟨f0,f1,f2,_⟩:=W p.1 Z;obtain⟨o,Y,d⟩:=T p.1 Z;rw[e]at Y;cases Y;exact⟨e,f0,f1,f2,d⟩
theorem Inv.unpinned(I:Inv X (pins++pl) σ H s):Inv X pins σ H s:=I.pins_of fun p Z=>I.pin p (Ko _ (List.mem_append_left _ Z))
theorem EB{Y:Expr}{body:List p7}{z:TI}{g:TG}{tb:TS}{pos:Pos}(O:Nz (ff X.prog X.w) X.A X.env X.xe)(B:X.calm=b_)(j:PI X tg Y z)(p:PG X tg g)(Q:qr X body tb)
  (hs:∀x,hh Y X.env x=aC x:=by intro _;rfl):PS X (.For tg Y body [] pos) (IC z g tb):=by
 intro pins s σ H D I h;refine wpAny_For (dY (j pins s σ H _ I h) fun v s1 l=>dY l fun q s2 k=>?_) hs;obtain⟨it,L,C,J,c,e,y,T,G,f2,W,⟨m0,w0⟩,turn⟩:=k;subst e;have S:∀{H':Hp},(∀b∈L,H' b=none)->∀b∈L,jC X pins H' b:=fun hn b Q=>⟨hn b Q,(f2 b Q).2⟩;refine codeAny_forLoop_any (fun n s'=>∃i σ' H',Inv X pins σ' H' s'/\C i s'.heap/\(∀b∈L,H' b=none)/\W i n σ' H') ?_ m0 ⟨0,σ,c,y,G,fun b Q=>(f2 b Q).1,w0⟩;rintro n s3 ⟨i,σ3,H3,I3,st3,fr3,w3⟩;rcases turn i n σ3 H3 w3 with⟨stop,qn⟩|⟨go,N,hN,step⟩
 ·refine Lz O (dY (T.done X rfl rfl rfl B i pins s3 σ3 H3 X.xe I3 (S fr3) st3 stop) fun r s4 ⟨hr,I4⟩=>?_);subst hr;exact MA ⟨σ3,H3,I4,qn⟩
 ·refine Lz O (dY (T.item X rfl rfl rfl B i pins s3 σ3 H3 X.xe I3 (S fr3) st3 go) fun r s4 ⟨u,hr,h4⟩=>?_);subst hr;refine Lz O (dY h4 fun _ s5 ⟨x,H5,I5,r5,y5,st5,fr5⟩=>?_);have F:=I5.pinned (S fr5) (T.obj _ _ st5);refine Lz O (dY (p _ s5 σ3 H5 x u _ F r5 (step x H5 y5)) fun _ s6 ⟨σ6,H6,I6,q6⟩=>?_);refine Lz O (dY (Q _ s6 σ6 H6 _ I6 q6) fun f E P=>?_);have NK:∀{Z:St} {R:Hp},Inv X (pins++mE L s5.heap) Z R E->N Z R->∃m,m<n/\∃i σ' H',Inv X pins σ' H' E/\C i E.heap/\(∀b∈L,H' b=none)/\W i m σ' H':=fun{Z R} U K=>by
   obtain⟨a,hm,t⟩:=hN Z R K;refine⟨a,hm,i+1,Z,R,U.unpinned,T.keep _ _ _ st5 fun b Q o e=>(U.pin (b,o) (Ko _ (Ko _ (fM Q e)))).1,fun b Q=>?_,t⟩;obtain⟨o,e,d⟩:=T.obj _ _ st5 b Q;exact(U.pin (b,o) (Ko _ (Ko _ (fM Q e)))).2.1
  cases f with
  |next=>obtain⟨Z,R,U,K⟩:=P;exact NK U K
  |cont=>obtain⟨Z,R,U,K⟩:=P;exact NK U K
  |brk=>obtain⟨Z,R,U,P⟩:=P;exact⟨Z,R,U.unpinned,P⟩
  |ret v=>obtain⟨x7,Z,R,U,r7,P⟩:=P;exact⟨x7,Z,R,U.unpinned,r7,P⟩
end
end L2
namespace L2
open PySem PySem.Spec PyProof.Rows
abbrev R2:=V->V->Hp->VK->Prop
def iZ(X:Cx)(f:a_->a_->Sem a_)(r:R2):Prop:=
 ∀(pins:List (b'×Obj)) (s:c_) (σ:St) (H:Hp) (x y:V) (v u:a_) (Q:VK),Inv X pins σ H s->RelV x v->RelV y u->r x y H Q->
  er (ff X.prog X.w) X.A (f v u) (EP X pins σ Q) X.xe s
def ID(X:Cx)(f:a_->Sem a_)(r:V->Hp->VK->Prop):Prop:=
 ∀(pins:List (b'×Obj)) (s:c_) (σ:St) (H:Hp) (x:V) (v:a_) (Q:VK),Inv X pins σ H s->RelV x v->r x H Q->
  er (ff X.prog X.w) X.A (f v) (EP X pins σ Q) X.xe s
def eE(X:Cx)(f:a_)(r:List V->Hp->VK->Prop):Prop:=
 ∀(pins:List (b'×Obj)) (s:c_) (σ:St) (H:Hp) (xs:List V) (us:List a_) (Q:VK),Inv X pins σ H s->bw xs us->r xs H Q->
  er (ff X.prog X.w) X.A (call f us) (EP X pins σ Q) X.xe s
def GJ(r:R2)(ta tb:TE):TE:=fun σ H Q=>ta σ H fun x H1=>tb σ H1 fun y H2=>r x y H2 Q
def JH(r:V->Hp->VK->Prop)(ta:TE):TE:=fun σ H Q=>ta σ H fun x H1=>r x H1 Q
def rI(C:Int->Int->Prop)(g:Int->Int->V):R2:=fun x y H Q=>∃i j,x= .int i/\y= .int j/\C i j/\Q (g i j) H
def Cd(g:Int->Int->V):R2:=fun x y H Q=>∃i j,x= .int i/\y= .int j/\Q (g i j) H
def rU(g:Int->V):V->Hp->VK->Prop:=fun x H Q=>∃i,x= .int i/\Q (g i) H
section
variable {X:Cx}{a b c:Expr}{ta tb tc:TE}{pos:Pos}
theorem EC(S:PE X a ta)(P:PE X b tb){R:V->V->Hp->Prop}(I:Inv X pins σ H s)
  (h:ta σ H fun x U=>tb σ U fun y Z=>R x y Z) {f:a_->a_->Sem a_}
  (T:∀v u s2 x y Z,Inv X pins σ Z s2->RelV x v->RelV y u->R x y Z->er (ff X.prog X.w) X.A (f v u) Q X.xe s2):
  er (ff X.prog X.w) X.A (h_ a X.env) (fun v W=>er (ff X.prog X.w) X.A (h_ b X.env) (fun u Y=>er (ff X.prog X.w) X.A (f v u) Q X.xe Y) X.xe W) X.xe s:=by
 refine dY (S pins s σ H _ I h) fun v s1 ⟨x,U,I1,r1,q1⟩=>?_;refine dY (P pins s1 σ U _ I1 q1) fun u s2 ⟨y,Z,I2,r2,q2⟩=>?_;exact T v u s2 x y Z I2 r1 r2 q2
theorem GK(T:iZ X (ri op) r)(U:PE X a ta)(Z:PE X b tb):PE X (.BinOp a op b pos) (GJ r ta tb):=by
 intro pins s σ H Q I h;exact wpAny_BinOp (EC U Z I h fun v u s2 x y R Y S W q=>T pins s2 σ R x y v u Q Y S W q)
theorem GL(Y:ID X (unaryOp op) r)(Z:PE X a ta):PE X (.UnaryOp op a pos) (JH r ta):=by
 intro pins s σ H Q I h;exact UnaryOp_ (dY (Z pins s σ H _ I h) fun v s1 ⟨x,H1,I1,r1,q1⟩=>Y pins s1 σ H1 x v Q I1 r1 q1)
theorem HK{f:a_->a_->Sem a_}{C:Int->Int->Prop}{g:Int->Int->Int}
  (Z:∀(i j:Int) (t u:Tok) (s:c_) (Q:a_->c_->Prop) (E:a_->c_->Prop),C i j->Q (.int (g i j) s.toks) {s with toks:=s.toks+1}->er (ff X.prog X.w) X.A (f (.int i t) (.int j u)) Q E s):
  iZ X f (rI C fun i j=>.int (g i j)):=by
 intro pins s σ H x y v u Q I W Y h;obtain⟨i,j,rfl,rfl,U,q⟩:=h;obtain⟨t,rfl⟩:=W;obtain⟨t',rfl⟩:=Y;exact Z i j t t' s _ _ U ⟨.int (g i j),H,I.tok _,⟨_,rfl⟩,q⟩
theorem GN{f:a_->a_->Sem a_}{g:Int->Int->Int}
  (Z:∀(i j:Int) (t u:Tok) (s:c_) (Q:a_->c_->Prop) (E:a_->c_->Prop),Q (.int (g i j) s.toks) {s with toks:=s.toks+1}->er (ff X.prog X.w) X.A (f (.int i t) (.int j u)) Q E s):
  iZ X f (Cd fun i j=>.int (g i j)):=by
 intro pins s σ H x y v u Q I W Y h;obtain⟨i,j,rfl,rfl,q⟩:=h;obtain⟨t,rfl⟩:=W;obtain⟨t',rfl⟩:=Y;exact Z i j t t' s _ _ ⟨.int (g i j),H,I.tok _,⟨_,rfl⟩,q⟩
theorem Cy{f:a_->a_->Sem a_}{g:Int->Int->Bool}
  (Z:∀(i j:Int) (t u:Tok) (s:c_) (Q:a_->c_->Prop) (E:a_->c_->Prop),Q (.bool (g i j)) s->er (ff X.prog X.w) X.A (f (.int i t) (.int j u)) Q E s):
  iZ X f (Cd fun i j=>.bl (g i j)):=by
 intro pins s σ H x y v u Q I W Y h;obtain⟨i,j,rfl,rfl,q⟩:=h;obtain⟨t,rfl⟩:=W;obtain⟨t',rfl⟩:=Y;exact Z i j t t' s _ _ ⟨.bl (g i j),H,I,rfl,q⟩
def vw(i j:Int):Prop:=0<j/\j<1073741824
def Cz(i j:Int):Prop:=0<=j/\j<=1000000/\i.natAbs<2 ^ 64
def rR(i j:Int):Prop:=(-(2 ^ 64)<i/\i<2 ^ 64)\/(-(2 ^ 64)<j/\j<2 ^ 64)
theorem rR.ok{i j:Int}(h:rR i j):IntMulOk i j:=by
 rcases h with⟨h1,h2⟩|⟨h1,h2⟩
 ·exact .of_left (intBits_le_64 h1 h2)
 ·exact .of_right (intBits_le_64 h1 h2)
theorem ED:iZ X (ri .Add) (Cd fun i j=>.int (i+j)):=GN fun _ _ _ _ _ _ _ q=>add_int q
theorem EE:iZ X (ri .Sub) (Cd fun i j=>.int (i - j)):=GN fun _ _ _ _ _ _ _ q=>sub_int q
theorem EF:iZ X (ri .Mult) (rI rR fun i j=>.int (i*j)):=HK fun _ _ _ _ _ _ _ Z q=>mul_int q Z.ok
theorem CA:iZ X (ri .FloorDiv) (rI vw fun i j=>.int (i / j)):=HK fun i j _ _ _ _ _ Z q=>by
 have Y:(0:Int)<j:=Z.1;have W:j<1073741824:=Z.2;exact floordiv_int (by omega) (by rw[Int.fdiv_eq_ediv_of_nonneg i (by omega)];exact q) (.inl (PyProof.noPylong_small (by omega)))
theorem EG:iZ X (ri .Mod) (rI (fun _ j=>0<j) fun i j=>.int (i % j)):=HK fun i j _ _ _ _ _ Z q=>by
 have Y:(0:Int)<j:=Z;exact mod_int' (by omega) (by rw[Int.fmod_eq_emod_of_nonneg i (by omega)];exact q)
theorem EH:iZ X (ri .Pow) (rI Cz fun i j=>.int (i ^ j.toNat)):=HK fun _ _ _ _ _ _ _ Z q=>pow_int_small Z.1 Z.2.1 Z.2.2 q
theorem JI{f:a_->Sem a_}{g:Int->Int}
  (Z:∀(i:Int) (t:Tok) (s:c_) (Q:a_->c_->Prop) (E:a_->c_->Prop),Q (.int (g i) s.toks) {s with toks:=s.toks+1}->er (ff X.prog X.w) X.A (f (.int i t)) Q E s):
  ID X f (rU fun i=>.int (g i)):=by
 intro pins s σ H x v Q I Y h;obtain⟨i,rfl,q⟩:=h;obtain⟨t,rfl⟩:=Y;exact Z i t s _ _ ⟨.int (g i),H,I.tok _,⟨_,rfl⟩,q⟩
theorem EI:ID X (unaryOp .USub) (rU fun i=>.int (-i)):=JI fun _ _ _ _ _ q=>neg_int q
end
section
variable {X:Cx}{a b c:Expr}{ta tb tc:TE}{pos:Pos}
theorem z7{Q:VK}(I:Inv X pins σ H s)(q:Q (.bl k) H)(e:k=k'):EP X pins σ Q (.bool k') s:=by
 subst e;exact⟨.bl k,H,I,rfl,q⟩
theorem z8:iZ X (ij .Lt) (Cd fun i j=>.bl (decide (i<j))):=Cy fun _ _ _ _ _ _ _ q=>lt_int q
theorem xf:iZ X (ij .LtE) (Cd fun i j=>.bl (decide (i<=j))):=Cy fun _ _ _ _ _ _ _ q=>le_int q
theorem GO:iZ X (ij .Gt) (Cd fun i j=>.bl (decide (j<i))):=Cy fun _ _ _ _ _ _ _ q=>gt_int q
theorem GP:iZ X (ij .GtE) (Cd fun i j=>.bl (decide (j<=i))):=Cy fun _ _ _ _ _ _ _ q=>ge_int q
theorem EJ:iZ X (ij .Is) (fun x y H Q=>y= .non/\Q (.bl (decide (x= .non))) H):=by
 intro pins s σ H x y v u Q I Z Y h;obtain⟨rfl,q⟩:=h;cases Y;refine is_none_gen (z7 I q ?_);cases x<;>first
  |(cases Z;rfl)
  |(obtain⟨t,rfl⟩:=Z;rfl)
theorem CB:iZ X (ij .IsNot) (fun x y H Q=>y= .non/\Q (.bl (!decide (x= .non))) H):=by
 intro pins s σ H x y v u Q I Z Y h;obtain⟨rfl,q⟩:=h;cases Y;refine isnot_none_gen (z7 I q ?_);cases x<;>first
  |(cases Z;rfl)
  |(obtain⟨t,rfl⟩:=Z;rfl)
theorem iZ.or{r Z:R2}(h:iZ X f r)(h':iZ X f Z):iZ X f (fun x y H Q=>r x y H Q\/Z x y H Q):=by
 intro pins s σ H x y v u Q I W Y q;rcases q with q|q
 ·exact h pins s σ H x y v u Q I W Y q
 ·exact h' pins s σ H x y v u Q I W Y q
theorem IE(b:Expr)(h:op≠ .In:=by decide)(Z:op≠ .NotIn:=by decide):ly op b=false:=by
 have e1:(op==CmpOp.In)=false:=by cases op<;>first|rfl|exact absurd rfl h
 have e2:(op==CmpOp.NotIn)=false:=by cases op<;>first|rfl|exact absurd rfl Z
 cases b<;>simp[ly,e1,e2]
theorem CC(S:iZ X (ij op) r)(T:PE X a ta)(Z:PE X b tb)(W:ly op b=dV):PE X (.Compare a [op] [b] pos) (GJ r ta tb):=by
 intro pins s σ H Q I h;exact wpAny_Compare1 (EC T Z I h fun v u s2 x y P Y R U q=>S pins s2 σ P x y v u Q Y R U q) W
def DU(t:TE):TT:=fun σ H Q=>t σ H fun x H'=>∃k,x= .bl k/\Q k H'
theorem CD(U:iZ X (ij op) r)(Z:PE X a ta)(Y:PE X b tb)(W:ly op b=dV):PT X (.Compare a [op] [b] pos) (DU (GJ r ta tb)):=by
 intro pins s σ H Q I h;refine wpAny_isTrue_Compare1 (dY (Z pins s σ H _ I h) fun v s1 ⟨x,H1,I1,r1,q1⟩=>dY (Y pins s1 σ H1 _ I1 q1) fun u s2 ⟨y,H2,I2,r2,q2⟩=>
  dY (U pins s2 σ H2 x y v u _ I2 r1 r2 q2) fun c s3 ⟨z,H3,I3,r3,k,e,q3⟩=>?_) W
 subst e;cases r3;exact KZ ⟨H3,I3,q3⟩
def vx(r r':R2)(ta tb tc:TE):TE:=fun σ H Q=>ta σ H fun x H1=>tb σ H1 fun y H2=>r x y H2 fun z H3=>∃k,z= .bl k/\
 (if k=b_ then tc σ H3 fun w' H4=>r' y w' H4 Q else Q (.bl dV) H3)
theorem z9(T:iZ X (ij op) r)(Z:iZ X (ij op') r')(Y:PE X a ta)(W:PE X b tb)(S:PE X c tc)
  (U:NZ [op,op'] [b,c]=false:=by with_unfolding_all rfl):PE X (.Compare a [op,op'] [b,c] pos) (vx r r' ta tb tc):=by
 intro pins s σ H Q I h;refine Compare_chain (dY (Y pins s σ H _ I h) fun v s1 ⟨x,H1,I1,r1,q1⟩=>chain_link (dY (W pins s1 σ H1 _ I1 q1) fun u s2 ⟨y,H2,I2,r2,q2⟩=>
  dY (T pins s2 σ H2 x y v u _ I2 r1 r2 q2) fun d s3 ⟨z,H3,I3,r3,k,e,q3⟩=>?_)) U
 subst e;cases r3;refine KZ ?_;cases k with
 |false=>exact ite_ff ⟨.bl dV,H3,I3,rfl,q3⟩
 |true=>exact ite_tt (chain_last (dY (S pins s3 σ H3 _ I3 q3) fun w' s4 ⟨z',H4,I4,r4,q4⟩=>Z pins s4 σ H4 y z' u w' Q I4 r2 r4 q4))
theorem Aa(T:iZ X (ij op) r)(Z:iZ X (ij op') r')(Y:PE X a ta)(W:PE X b tb)(P:PE X c tc)
  (U:NZ [op,op'] [b,c]=false:=by with_unfolding_all rfl):PT X (.Compare a [op,op'] [b,c] pos) (DU (vx r r' ta tb tc)):=by
 intro pins s σ H Q I h;refine isTrue_chain (dY (Y pins s σ H _ I h) fun v s1 ⟨x,H1,I1,r1,q1⟩=>test_link (dY (W pins s1 σ H1 _ I1 q1) fun u s2 ⟨y,H2,I2,r2,q2⟩=>
  dY (T pins s2 σ H2 x y v u _ I2 r1 r2 q2) fun d s3 ⟨z,H3,I3,r3,k,e,q3⟩=>?_)) U
 subst e;cases r3;refine KZ ?_;cases k with
 |false=>
  obtain⟨O,R,S⟩:=q3;cases R;exact ite_ff ⟨H3,I3,S⟩
 |true=>
  refine ite_tt (test_last (dY (P pins s3 σ H3 _ I3 q3) fun w' s4 ⟨z',H4,I4,r4,q4⟩=>dY (Z pins s4 σ H4 y z' u w' _ I4 r2 r4 q4) fun d' s5 ⟨z2,H5,I5,r5,k2,e2,q5⟩=>?_));subst e2;cases r5;exact KZ ⟨H5,I5,q5⟩
theorem oX:(sizeLine:Nat)<2 ^ 63:=by rw[K9];decide
theorem vals1(r:bw [x] us):∃u,us=[u]/\RelV x u:=by
 cases r with
 |cons r1 r2=>cases r2;exact⟨_,rfl,r1⟩
theorem vals2(r:bw [x,y] us):∃u w',us=[u,w']/\RelV x u/\RelV y w':=by
 cases r with
 |cons r1 r2=>
  cases r2 with
  |cons r3 r4=>cases r4;exact⟨_,_,rfl,r1,r3⟩
theorem yx(Z:X.calm=b_):eE X (.builtin "max") (fun xs H Q=>∃i j,xs=[.int i,.int j]/\Q (.int (if j>i then j else i)) H):=by
 intro pins s σ H xs us Q I r h;obtain⟨i,j,rfl,q⟩:=h;obtain⟨u,Y,rfl,⟨t,rfl⟩,⟨t',rfl⟩⟩:=vals2 r;refine max_two_ints (I.ok.hd Z) fun h' W k=>⟨_,H,I.kept k,?_,q⟩;by_cases hj:j>i
 ·rw[if_pos hj,if_pos hj];exact⟨_,rfl⟩
 ·rw[if_neg hj,if_neg hj];exact⟨_,rfl⟩
theorem yy(Z:X.calm=b_):eE X (.builtin "min") (fun xs H Q=>∃i j,xs=[.int i,.int j]/\Q (.int (if j<i then j else i)) H):=by
 intro pins s σ H xs us Q I r h;obtain⟨i,j,rfl,q⟩:=h;obtain⟨u,Y,rfl,⟨t,rfl⟩,⟨t',rfl⟩⟩:=vals2 r;refine min_two_ints (I.ok.hd Z) fun h' W k=>⟨_,H,I.kept k,?_,q⟩;by_cases hj:j<i
 ·rw[if_pos hj,if_pos hj];exact⟨_,rfl⟩
 ·rw[if_neg hj,if_neg hj];exact⟨_,rfl⟩
end
end L2
namespace L2
open PySem PySem.Spec PyProof.Rows
structure ObjM(h:f_)(x dx C:b')(mA:Str->Option a_):Prop where
 obj:h.get? x=ar (Os C dx)
 ns:h.Ns1 dx mA
 ne:dx≠x
theorem yz{h:f_}{mA:Str->Option a_}(n:h.Ns1 dx mA):∃od,h.get? dx=ar od/\∀name,OB name od=ar (mA name):=by
 obtain⟨o,es,S,U,hd,X,_,hm⟩:=n;refine⟨o,U,fun name=>?_⟩;have e:=hm name;unfold nsFind findBy at e;rw[<-Array.find?_toList]at e;unfold OB;rw[hd];dsimp only;split
 ·rename_i y q
  rw[q]at e;exact Mx ar e
 ·rename_i q
  rw[q]at e;have a:es.toList.any (·.refKey)=false:=by
   rw[List.any_eq_false];intro y T;obtain⟨z,t,Z⟩:=X y (Array.mem_toList_iff.mp T);simp[DictEntry.refKey,Z]
  have Y:¬ es.toList.any (·.refKey)=true:=by rw[a];exact Lg
  rw[if_neg Y];exact Mx ar e
theorem ObjM.look{mA:Str->Option a_}(I:ObjM h x dx C mA):∃od,W.InstAt h x (Os C dx) C (ar od)/\∀name,OB name od=ar (mA name):=
 let ⟨od,ho,hl⟩:=yz I.ns
 ⟨od,⟨I.obj,rfl,rfl,ho⟩,hl⟩
section
variable {prog:ed}{w:ee}{A:hF}{E:a_->c_->Prop}{s:c_}{K:dt}{x dx C f:b'}{mA:Str->Option a_}{name:Str}{v:a_}
end
section
variable {P:ed}{w:ee}{H H':Hp}{h h':f_}{a C dx:b'}{fs fs':List (Str×V)}
theorem CF(Z:iY P w H h)(e:H a=ar (.ins C dx fs)):∃mA,ObjM h a dx C mA/\(∀f,zV (fs.lookup f) (mA f))/\PySem.Within mA (fs.map (·.1))/\fs.length<=1000/\H dx=ar (.own a):=by
 obtain⟨d,z,ne,Y,mA,n,r,q⟩:=(show b7 P w H h a (.ins C dx fs)from Z a _ e);exact⟨mA,⟨Y,n,ne⟩,r,q,z,d⟩
end
structure Cls(K:dt)(C:b'):Prop where
 pg:W.plainGet K C Str.empty=b_
 hd:W.hasDictIn K C=b_
 po:W.plainOver K C=b_
 sa:J' K (.ref C) "__setattr__"=ar (ar (.builtin "object.__setattr__"))
theorem Cls.get{K:dt}{C:b'}(c:Cls K C)(f:Str):W.plainGet K C f=true:=c.pg
structure Con(K:dt)(C:b')(f:Str)(v:V)(u:a_):Prop where
 at_:J' K (.ref C) f=ar (ar u)
 rel:RelV v u
 get:W.specialIn K u "__get__"=ar none
 cp:W.copiedNames.contains f=dV
structure Meth(K:dt)(C:b')(m:Str)(f:b'):Prop where
 at_:J' K (.ref C) m=ar (ar (.ref f))
 fn:W.isFn K (.ref f)=b_
 kp:y2 K (.ref f)=b_
section
variable {X:Cx}{pins:List (b'×Obj)}{σ:St}{H:Hp}{s:c_}{a C dx:b'}{fs:List (Str×V)}{f:Str}{v:V}{A:hF}{E:a_->c_->Prop}
end
section
variable {X:Cx}{o e value:Expr}{f:Str}{pos pos' tpos:Pos}{ta tv:TE}
end
section
variable {X:Cx}{pins:List (b'×Obj)}{σ:St}{H:Hp}{s:c_}{A:hF}{E:a_->c_->Prop}{Q:a_->c_->Prop}{c:a_}{b:Bool}
inductive TyOf(K:dt)(H:Hp):V->a_->Prop where
 |non:TyOf K H .non (.type "NoneType")
 |bl (x:Bool):TyOf K H (.bl x) (.type "bool")
 |int (i:Int):TyOf K H (.int i) (.type "int")
 |str (x:Str):TyOf K H (.str x) (.type "str")
 |flt (x:UInt64):TyOf K H (.flt x) (.type "float")
 |lst {a:b'} {xs:List V} (e:H a=ar (.lst xs)):TyOf K H (.ref a) (.type "list")
 |frz {a:b'} {o:Obj} {xs:List V} (e:H a=ar (.frz o (.lst xs))):TyOf K H (.ref a) (.type "list")
 |tup {a:b'} {xs:List V} (e:H a=ar (.tup xs)):TyOf K H (.ref a) (.type "tuple")
 |dK {a:b'} {kvs:List (Key×V)} (e:H a=ar (.dK kvs)):TyOf K H (.ref a) (.type "dict")
 |dT {a:b'} {kvs:List (List Key×V)} (e:H a=ar (.dT kvs)):TyOf K H (.ref a) (.type "dict")
 | ins {a C dx:b'} {fs:List (Str×V)} (e:H a=ar (.ins C dx fs)) (cl:Cls K C) (ha:J' K (.ref C) "__class__"=ar (ar (.builtin "object.__class__")))
   (hn:W.specialIn K (.builtin "object.__class__") "__get__"=ar (ar (.builtin "getset_descriptor.__get__"))) (htk:W.takesIn K (.builtin "object.__class__")=ar b_)
   (hm:W.mroIn K C (.type "object")=ar b_):TyOf K H (.ref a) (.ref C)
theorem yA(I:Inv X pins σ H s)(Z:RelV x u)(S:TyOf X.K H x t)(e:y3 X.K t c=ar b)(h:∀tk,Q (.bool b) {s with toks:=tk}):
  er (ff X.prog X.w) A (call (.builtin "isinstance") [u,c]) Q E s:=by
 cases S with
 |non=>cases (show u=j_ from Z);exact KU W.kitx_none I.kIn L_ e (fun z=>nomatch z) h
 |bl y=>cases (show u=v' y from Z);exact KU W.kitx_bool I.kIn L_ e (fun z=>nomatch z) h
 |int i=>obtain⟨t,q⟩:=(show ∃t,u=wk i t from Z);cases q;exact KU W.kitx_int I.kIn L_ e (fun z=>nomatch z) h
 |str y=>obtain⟨t,q⟩:=(show ∃t,u=NY y t from Z);cases q;exact KU W.kitx_str I.kIn L_ e (fun z=>nomatch z) h
 |flt y=>obtain⟨t,q⟩:=(show ∃t,u=Value.float y t from Z);cases q;exact KU W.kitx_float I.kIn L_ e (fun z=>nomatch z) h
 | @lst a xs ea=>
  cases (show u=gj a from Z);obtain⟨_,_,n,_,Y⟩:=(show b7 X.prog X.w H s.heap a (.lst xs)from I.hok a _ ea);exact KU W.kitx_list I.kIn ⟨_,Y,rfl⟩ e (fun z=>nomatch z) h
 | @frz a ob xs ea=>
  cases (show u=gj a from Z);obtain⟨_,_,_,n,_,Y⟩:=(show b7 X.prog X.w H s.heap a (.frz ob (.lst xs))from I.hok a _ ea);exact KU W.kitx_list I.kIn ⟨_,Y,rfl⟩ e (fun z=>nomatch z) h
 | @tup a xs ea=>
  cases (show u=gj a from Z);obtain⟨_,_,_,p⟩:=(show b7 X.prog X.w H s.heap a (.tup xs)from I.hok a _ ea);obtain⟨o,Y,U,_⟩:=p;exact KU W.kitx_tuple I.kIn ⟨o,Y,U⟩ e (fun z=>nomatch z) h
 | @dK a kvs ea=>
  cases (show u=gj a from Z);obtain⟨_,_,vs,_,p⟩:=(show b7 X.prog X.w H s.heap a (.dK kvs)from I.hok a _ ea);obtain⟨o,es,T,Y,U,_⟩:=p;exact KU W.kitx_dict I.kIn ⟨o,Y,U.1⟩ e (fun z=>nomatch z) h
 | @dT a kvs ea=>
  cases (show u=gj a from Z);obtain⟨_,_,xs,_,o,es,T,Y,U,_⟩:=(show b7 X.prog X.w H s.heap a (.dT kvs)from I.hok a _ ea);exact KU W.kitx_dict I.kIn ⟨o,Y,U.1⟩ e (fun z=>nomatch z) h
 | @ins a C dx fs ea cl ha hn htk hm=>
  cases (show u=gj a from Z);obtain⟨mA,O,_⟩:=CF I.hok ea;obtain⟨R,J,_⟩:=O.look;exact KU (W.kitx_own (cl.get _) cl.hd ha hn htk hm) I.kIn J e (fun z=>nomatch z) h
end
end L2
namespace L2
open PySem PySem.Spec PyProof.Rows
structure Room(k:Nat)(A:hF):Prop where
 hd:A.handled=none
 dp:A.depth+3*k+5<recursionLimit
 un:A.units+16*k+200<GB
theorem Room.mono(r:Room k A)(h:j<=k):Room j A:=⟨r.hd,by have:=r.dp;omega,by have:=r.un;omega⟩
theorem Room.deeper(r:Room (k+1) A)(env:Env):Room k (A.deeper env):=
 ⟨r.hd,by have:=r.dp;show A.depth+1+3*k+5<_;omega,by have:=r.un;show A.units+3+16*k+200<_;omega⟩
theorem vy{A:hF}:(A.under (.builtin "type.__call__" ⟨.ref C::us,kw⟩)).depth=A.depth+1:=by
 first|rfl|simp[NL,Code.weight,Code.isCreation,Code.isGuard,Code.isCaller,Code.frames,NM,guardIds]
theorem vz{A:hF}:(A.under (.builtin "type.__call__" ⟨.ref C::us,kw⟩)).units=A.units+1:=by
 first|rfl|simp[NL,Code.cUnits,Code.frames,NM]
theorem Room.make(r:Room (k+1) A)(C:b')(us:List a_)(Z:List (Str×a_)):Room k (A.under (.builtin "type.__call__" ⟨.ref C::us,Z⟩)):=
 ⟨r.hd,by have:=r.dp;rw[vy];omega,by have:=r.un;rw[vz];omega⟩
theorem Room.depth(r:Room k A):A.depth<recursionLimit:=by have:=r.dp;omega
def IF:TA:=fun _ H Q=>Q [] H
def GQ(ta:TE)(tr:TA):TA:=fun σ H Q=>ta σ H fun x H1=>tr σ H1 fun xs H2=>Q (x::xs) H2
section
variable {X:Cx}{e:Expr}{es:List Expr}{te:TE}{t:TA}{pos:Pos}
theorem rS:PA X [] IF:=fun _ _ _ _ H Q I h=>Calls.spliced_nil ⟨[],H,I,.nil,h⟩
theorem lj(Y:PE X e te)(Z:PA X es t)(hs:eb (e::es) X.env=(dV,h_ e X.env)::eb es X.env:=by rfl):PA X (e::es) (GQ te t):=by
 intro pos pins s σ H Q I h;rw[hs];show er _ _ (spliced ((dV,h_ e X.env)::pb pos (eb es X.env))) _ _ s;refine Calls.spliced_cons (dY (Y pins s σ H _ I h) fun u s1 ⟨x,H1,I1,r1,q1⟩=>?_);exact dY (Z pos pins s1 σ H1 _ I1 q1) fun us s2 ⟨xs,H2,I2,r2,q2⟩=>⟨x::xs,H2,I2,.cons r1 r2,q2⟩
def IG(t:TA):TE:=fun σ H Q=>t σ H fun xs H1=>xs.length<=sizeLine/\∀p,H1 p=none->Q (.ref p) (upd H1 p (.tup xs))
def IH(t:TA):TE:=fun σ H Q=>t σ H fun xs H1=>xs.length<=sizeLine/\∀p,H1 p=none->Q (.ref p) (upd H1 p (.lst xs))
theorem EK{x1}(h:PA X es t):PE X (.Tuple es x1 pos) (IG t):=by
 intro pins s σ H Q I Z;refine wpAny_Tuple_spliced (dY (h pos pins s σ H _ I Z) fun us s1 ⟨xs,H1,I1,r,z,q⟩=>⟨by rw[<-r.length];exact z,?_⟩)
 have hf:H1 s1.heap.objs.size=none:=I1.hok.fresh (JY _);refine⟨.ref s1.heap.objs.size,upd H1 s1.heap.objs.size (.tup xs),I1.laid (t':=s1.toks) (fun b u e=>JW _ e) (JY _) ?_,rfl,q _ hf⟩;exact⟨rQ z,us,r,⟨_,J9 _ rfl,rfl,_,rfl⟩⟩
theorem EL(h:PA X es t):PE X (.List es pos) (IH t):=by
 intro pins s σ H Q I Z;refine wpAny_List_spliced (dY (h pos pins s σ H _ I Z) fun us s1 ⟨xs,H1,I1,r,z,q⟩=>⟨by rw[<-r.length];exact z,?_⟩)
 have hf:H1 s1.heap.objs.size=none:=I1.hok.fresh (JY _);refine⟨.ref s1.heap.objs.size,upd H1 s1.heap.objs.size (.lst xs),I1.laid (t':=s1.toks) (fun b u e=>JW _ e) (JY _) ?_,rfl,q _ hf⟩;exact⟨z,us,0,r,J9 _ rfl⟩
end
abbrev Sp:=List V->Hp->VK->XK->Prop
abbrev zP:=List Env->Hp->c_->XK->a_->c_->Prop
structure aD(P:ed)(w:ee)(K:dt)(mg:Str->Option a_)(base:f_)(A:hF)(outer:List Env)(s:c_)(H:Hp):Prop where
 frames:A.frames=ar outer
 mod:Mod K mg base
 bs:∀b o,base.get? b=ar o->s.heap.get? b=ar o/\H b=none
 bsz:base.objs.size<=s.heap.objs.size
 funs:s.heap.FunFrames base outer
 frf:∀b∈nF outer,H b=none
 hok:iY P w H s.heap
 bare:yn s.gens
def CE(outer:List Env)(P:ed)(w:ee)(H:Hp)(s:c_)(Q:VK)(u:a_)(s':c_):Prop:=
 ∃v H',s'.os=s.os/\yn s'.gens/\Un (nF outer) [] H H' s.heap s'.heap/\iY P w H' s'.heap/\RelV v u/\Q v H'
def CR(CX:zP)(outer:List Env)(P:ed)(w:ee)(H:Hp)(s:c_)(Q:VK)(E:XK)(r:Ox)(s':c_):Prop:=
 match r with
 | .ok (.ret u)=>CE outer P w H s Q u s'
 | .ok _=>False
 | .error e=>CX outer H s E e s'
structure FnOk(P:ed)(w:ee)(K:dt)(mg:Str->Option a_)(base:f_)(CX:zP)(k:Nat)(f:b')(fd:eM)(ps:List Str)(sp:Sp):Prop where
 len:∀vs H Q E,sp vs H Q E->vs.length=ps.length
 run:∀(A:hF) (outer:List Env) (s:c_) (H:Hp) (args:Args) (us:List a_) (vs:List V) (Q:VK) (E:XK),Room k A->aD P w K mg base A outer s H->G_ s fd args (ps.zip us)->bw vs us->sp vs H Q E->
  vr (ff P w) A (.call (.ref f) args) (CR CX outer P w H s Q E) s
theorem aD.make{P:ed}{w:ee}{K:dt}{Z:Str->Option a_}{base:f_}{A:hF}{outer:List Env}{s:c_}{H:Hp}(e:aD P w K Z base A outer s H)(C:b')(us:List a_)(Y:List (Str×a_)):
  aD P w K Z base (A.under (.builtin "type.__call__" ⟨.ref C::us,Y⟩)) outer s H:=⟨by first|exact e.frames|(simpa [NL,Code.envs,NM,pushEnvs]using e.frames),e.mod,e.bs,e.bsz,e.funs,e.frf,e.hok,e.bare⟩
section
variable {X:Cx}{pins:List (b'×Obj)}{σ:St}{H:Hp}{s s':c_}
theorem Inv.env0(I:Inv X pins σ H s):aD X.prog X.w X.K X.mg X.base X.A X.stack s H:=
 ⟨I.ok.frames,I.ok.mod,I.bs,J4 I.ok.bsz I.sz,I.stack,I.stkFree,I.hok,I.bare⟩
theorem Inv.after(I:Inv X pins σ H s)(h:CE X.stack X.prog X.w H s Q u s'):EP X pins σ Q u s':=by
 obtain⟨v,W,os,bare,un,Z,r,q⟩:=h;obtain⟨U,g,d,t,Y⟩:=s';obtain rfl:Y=s.os:=os;exact⟨v,W,I.call (h':=U) (g':=g) (d':=d) (t':=t) (ch:=[]) un Z bare (fun b z=>absurd z (by simp)),r,q⟩
end
def GS(sp:Sp)(dvs:List V)(E:XK)(t:TA):TE:=fun σ H Q=>t σ H fun vs H1=>sp (vs++dvs) H1 Q E
def Binds(K:dt)(fd:eM)(ps:List Str)(ds:List a_):Prop:=
 ∀(s:c_) (us:List a_),K.In s.heap->(us++ds).length=ps.length->G_ s fd ⟨us,[]⟩ (ps.zip (us++ds))
theorem Binds.all{K:dt}{X:eM}{Z:List Str}(h:∀us:List a_,us.length=Z.length->bindArgs X ⟨us,[]⟩=aC (Z.zip us)):Binds K X Z []:=fun s us _ Y=>by
 rw[KS]at Y⊢;exact .of_eq (h us Y)
def oY(CX:zP)(X:Cx)(E:XK):Prop:=∀(pins:List (b'×Obj)) (σ:St) (H:Hp) (s:c_) (e:a_) (s':c_),Inv X pins σ H s->CX X.stack H s E e s'->X.xe e s'
section
variable {X:Cx}{CX:zP}{k:Nat}{f C:b'}{fd:eM}{ps:List Str}{sp:Sp}{dvs:List V}{ds:List a_}{E:XK}{x m:Str}{p pos apos:Pos}{e o:Expr}{es:List Expr}{ta:TE}{t:TA}
theorem EM(F:FnOk X.prog X.w X.K X.mg X.base CX k f fd ps sp)(W:Room k X.A)(T:Binds X.K fd ps ds)(R:bw dvs ds)(U:oY CX X E)
  (I:Inv X pins σ H s) (r:bw vs us) (h:sp (vs++dvs) H Q E):er (ff X.prog X.w) X.A (call (.ref f) us) (EP X pins σ Q) X.xe s:=by
 have Y:bw (vs++dvs) (us++ds):=r.append R;have S:(us++ds).length=ps.length:=by rw[<-Y.length];exact F.len _ _ _ _ h
 refine Oh (MJ (F.run X.A X.stack s H ⟨us,[]⟩ (us++ds) (vs++dvs) Q E W I.env0 (T s us I.kIn S) Y h) fun r s' Z=>?_);cases r with
 |error e=>exact U pins σ H s e s' I Z
 |ok fl=>
  cases fl with
  |ret u=>exact I.after Z
  |next=>exact kS Z
  |brk=>exact kS Z
  |cont=>exact kS Z
theorem xg(F:FnOk X.prog X.w X.K X.mg X.base CX k f fd ps sp)(U:Room k X.A)(O:Gl X x)(P:X.mg x=ar (.ref f))(N:y2 X.K (.ref f)=b_)(S:Binds X.K fd ps ds)(J:bw dvs ds)(T:oY CX X E)
  (L:PA X (e::es) t) (Y:(x==("__debug__":Str))=false:=by decide) (R:eb (e::es) X.env=(dV,h_ e X.env)::eb es X.env:=by rfl) (Z:(pb pos (eb es X.env)).any (·.1)=false:=by rfl):
  PE X (.Call (.Name x p) (e::es) [] pos) (GS sp dvs E t):=by
 intro pins s σ H Q I h;refine MK (oz I O P ?_ Y);refine W.callWith_K (h₀:=X.base) I.ok.mod.kin N (dY (L pos pins s σ H _ I h) fun us s1 ⟨vs,H1,I1,r,q⟩=>⟨I1.kIn,?_⟩) R Z;exact EM F U S J T I1 r q
structure Mk(K:dt)(C f:b'):Prop where
 makes:W.makesIn K C=b_
 init:J' K (.ref C) "__init__"=ar (ar (.ref f))
 fn:W.isFn K (.ref f)=b_
 kp:y2 K (.ref C)=b_
end
section
variable {X:Cx}{CX:zP}{k:Nat}{f C:b'}{fd:eM}{ps ks:List Str}{sp:Sp}{E:XK}{x m:Str}{p pos apos kpos:Pos}{e o:Expr}{es:List Expr}{kws:List Oc}{te ta:TE}{t tk:TA}{nm:Option Str}
structure KBinds(K:dt)(fd:eM)(ps ks:List Str)(g:List a_->List a_->List a_)(gV:List V->List V->List V):Prop where
 to:∀(s:c_) (us ws:List a_),K.In s.heap->(g us ws).length=ps.length->G_ s fd ⟨us,ks.zip ws⟩ (ps.zip (g us ws))
 rel:∀{vs:List V} {us:List a_} {zs:List V} {ws:List a_},bw vs us->bw zs ws->bw (gV vs zs) (g us ws)
variable {g:List a_->List a_->List a_}{gV:List V->List V->List V}
end
structure FnScope(N P:List Str)(sc:Scope):Prop where
 kind:sc.kind= .function
 co:sc.isCoroutine=dV
 gen:sc.isGenerator=dV
 nd:N.Nodup
 pre:N.take P.length=P
 par:∀x∈P,sc.names.lookup x=ar .local\/sc.names.lookup x=ar .cell
 nofree:∀y∈sc.names,y.2≠ .free
theorem qQ{Z:Str->Option mh}{x:Str}:∀{binds:List (Str×a_)} {m:Str->Option a_},(∀v,(x,v)∉binds)->Oi Z binds m x=m x
 |[],_,_=>rfl
 | (n,v)::r,m,h=>by
  unfold Oi;rw[qQ fun w hw=>h w (J7 _ hw)];split
  ·have:x≠n:=by rintro rfl;exact h v Kj
   simp[this]
  ·rfl
theorem qR{Z:Str->Option mh}{x:Str}:∀{binds:List (Str×a_)} {m:Str->Option a_},(∀v,(x,v)∉binds)->Oj Z binds m x=m x
 |[],_,_=>rfl
 | (n,v)::r,m,h=>by
  unfold Oj;rw[qR fun w hw=>h w (J7 _ hw)];split
  ·rfl
  ·have:x≠n:=by rintro rfl;exact h v Kj
   simp[this]
theorem qS{Z:Str->Option mh}:∀{P:List Str} {vs:List a_} {i:Nat} {m:Str->Option a_},P.Nodup->P[i]? =ar x->vs[i]? =ar v->Z x=ar .local->
  Oi Z (P.zip vs) m x=ar v
 |[],_,_,_,_,h,_,_=>by simp at h
 |_::_,[],_,_,_,_,h,_=>by simp at h
 |p::P,w::vs,0,m,nd,h1,h2,hk=>by
  simp at h1 h2;subst h1;subst h2;show Oi Z ((p,w)::P.zip vs) m p=_;unfold Oi;rw[qQ fun v Y=>(KW.mp nd).1 (L8 Y).1,if_pos hk];simp
 |p::P,w::vs,i+1,m,nd,h1,h2,hk=>by
  show Oi Z ((p,w)::P.zip vs) m x=_;unfold Oi;exact qS (i:=i) (KW.mp nd).2 (by simpa using h1) (by simpa using h2) hk
theorem qT{Z:Str->Option mh}:∀{P:List Str} {vs:List a_} {i:Nat} {m:Str->Option a_},P.Nodup->P[i]? =ar x->vs[i]? =ar v->Z x≠ar .local->
  Oj Z (P.zip vs) m x=ar v
 |[],_,_,_,_,h,_,_=>by simp at h
 |_::_,[],_,_,_,_,h,_=>by simp at h
 |p::P,w::vs,0,m,nd,h1,h2,hk=>by
  simp at h1 h2;subst h1;subst h2;show Oj Z ((p,w)::P.zip vs) m p=_;unfold Oj;rw[qR fun v Y=>(KW.mp nd).1 (L8 Y).1,if_neg hk];simp
 |p::P,w::vs,i+1,m,nd,h1,h2,hk=>by
  show Oj Z ((p,w)::P.zip vs) m x=_;unfold Oj;exact qT (i:=i) (KW.mp nd).2 (by simpa using h1) (by simpa using h2) hk
def start(N:List Str)(vs:List V):St:=vs.map ar++lk (N.length - vs.length) none
def mF(CX:zP)(P:ed)(w:ee)(K:dt)(mg:Str->Option a_)(base:f_)(N:List Str)(qual:Str)(scope:Scope)(f:b')(cd:a_)(A:hF)(outer:List Env)(s:c_)(H:Hp)(E:XK):Cx where
 prog:=P
 w:=w
 K:=K
 mg:=mg
 base:=base
 A:=A.deeper (C_ qual scope s.heap.objs.size f cd)
 N:=N
 s₀:=s
 H₀:=H
 env:=C_ qual scope s.heap.objs.size f cd
 outer:=outer
 stack:=C_ qual scope s.heap.objs.size f cd::outer
 ex:=[]
 calm:=b_
 fn:=fun _=>b_
 pn:=[]
 xe:=fun e s'=>er (ff P w) (A.deeper (C_ qual scope s.heap.objs.size f cd)) (NN (C_ qual scope s.heap.objs.size f cd) e) (fun _ s''=>CX outer H s E e s'') (fun e' s''=>CX outer H s E e' s'') s'
theorem tP{Z:Scope}(h:Z.names.lookup x=ar .cell):∃c,(j' n Z.names []).lookup x=ar c:=by
 have q:=Mf Z.names n [] (.inl h);exact LA.mp q
theorem yB{C:zP}{P:ed}{w:ee}{K:dt}{I:Str->Option a_}{base:f_}{N X:List Str}{qual:Str}{scope:Scope}{f:b'}{L:a_}{A:hF}{outer:List Env}{s G:c_}{H:Hp}{E:XK}{us:List a_}{vs:List V}
  (S:FnScope N X scope) (l:A.handled=none) (Y:aD P w K I base A outer s H) (d:vs.length=X.length) (r:bw vs us)
  (x:InCallC s s.heap.objs.size (Oi (C_ qual scope s.heap.objs.size f L).kindOf (X.zip us) fun _=>none) (j' (s.heap.objs.size+1) scope.names []) (Oj (C_ qual scope s.heap.objs.size f L).kindOf (X.zip us) fun _=>none) G):
  Inv (mF C P w K I base N qual scope f L A outer s H E) [] (start N vs) H G:=by
 have t:X.length<=N.length:=by have:=Mx N8 S.pre;rw[KF]at this;omega
 obtain⟨O,g,rfl,B⟩:=x.done;have T:∀b:b',b∉(mF C P w K I base N qual scope f L A outer s H E).ex:=fun b z=>absurd (show b∈([]:List b')from z) (by simp)
 refine⟨⟨Y.mod,S.kind,rfl,rfl,JY _,fun y z c O Z=>?_,fun y U=>?_,fun y c _ h=>?_,fun _=>l,Around.frames_deeper Y.frames,.inr ⟨rfl,rfl⟩,fun b z=>absurd z (T b),Y.bs,Y.bsz,fun b _ _=>T b,fun b z=>absurd z (T b),Y.funs,Y.frf⟩,
  rfl,Y.bare,Un.kept B,⟨_,x.toInCall.ns,fun i y v O Z j=>?_⟩,fun y c h=>⟨_,x.cell y c h⟩,Y.hok.fresh (JY _),fun y c h=>?_,fun p R=>absurd (show p∈([]:List (b'×Obj))from R) (by simp),Y.hok.kept B,?_⟩
 ·exact name_of_addr x.apart (LF O) (LF Z)
 ·have U:scope.names.lookup y=ar .cell\/scope.names.lookup y=ar .free:=U;rcases U with U|U
  ·exact tP U
  ·exact absurd rfl (S.nofree _ (LF U))
 ·exact L5 (x.above y c (LF h))
 ·have J:i<vs.length:=by
   unfold start at Z;by_cases J:i<vs.length
   ·exact J
   ·rw[LU (by simpa using J)]at Z
    rw[List.getElem?_replicate]at Z;split at Z<;>cases Z
  have m:vs[i]? =ar v:=by
   unfold start at Z;rw[Kx (by simpa using J),KG]at Z
   cases e:vs[i]? with
   |none=>rw[e]at Z;cases Z
   |some a=>rw[e]at Z;cases Z;rfl
  obtain⟨u,F,o⟩:=r.get m;have R:X[i]? =ar y:=by
   rw[<-S.pre,List.getElem?_take_of_lt (by omega)];exact O
  have Q:X.Nodup:=by rw[<-S.pre];exact S.nd.sublist (List.take_sublist _ _)
  refine⟨u,o,?_⟩;rcases S.par y (Ky R)with k|k
  ·exact .inl ⟨k,qS Q R F k⟩
  ·obtain⟨c,e⟩:=tP (n:=s.heap.objs.size+1) k;refine .inr ⟨.inl k,c,e,?_⟩;have q:=x.cell y c e;rw[qT Q R F (by show scope.names.lookup y≠_;rw[k];decide)]at q
   exact q
 ·exact Y.hok.fresh (L5 (x.above y c (LF h)))
 ·unfold start;show _=N.length;rw[J5,JV,List.length_replicate];omega
theorem DV{B:zP}{P:ed}{w:ee}{K:dt}{F:Str->Option a_}{base:f_}{k:Nat}{f:b'}{name qual:Str}{params:NA}{body:List p7}{scope:Scope}{i kV G j Z ct oc:a_}{g od:Option b'}
  {l:Array (Option a_)} {N C:List Str} {sp:Sp} (a:K.lookup f=ar ⟨oc,od,.func (B' name qual params body scope i kV G j g Z ct),l⟩) (p:NO K Z qual=b_) (S:FnScope N C scope)
  (O:∀vs H Q E,sp vs H Q E->vs.length=C.length)
  (U:∀(A:hF) (outer:List Env) (s:c_) (H:Hp) (vs:List V) (Q:VK) (E:XK),Room k (A.deeper (C_ qual scope s.heap.objs.size f Z))->sp vs H Q E->
   ∃t,qr (mF B P w K F base N qual scope f Z A outer s H E) body t/\t {nx:=fun _ X=>Q .non X,rt:=Q} (start N vs) H):
  FnOk P w K F base B (k+1) f (B' name qual params body scope i kV G j g Z ct) C sp:=by
 refine⟨O,fun A outer s H args us vs Q E z R hb r L=>?_⟩;have hl:=O _ _ _ _ L;have h:K.In s.heap:=R.mod.kin.keeps fun b o e=>(R.bs b o e).1;have lim:s.heap.NoLimit:=R.mod.nolimit.keeps fun b o e=>(R.bs b o e).1;have T:∀y∈C.zip us,scope.names.lookup y.1=ar .local\/(scope.names.lookup y.1=ar .cell/\((j' (s.heap.objs.size+1) scope.names []).lookup y.1).isSome=b_):=fun⟨n,v⟩ hy=>by
  rcases S.par n (L8 hy).1 with q|q
  ·exact .inl q
  ·exact .inr ⟨q,Mf _ _ _ (.inl q)⟩
 refine codeAny_call_function z.depth (h _ _ a) rfl S.co S.gen rfl (W.codeRec_of h p) (hb _ _ _ _ ?_);refine wpAny_newFunctionEnv_cells S.kind T fun env he s1 x=>?_;subst he;refine⟨lim.keeps x.toInCall.keep,codeAny_func ?_⟩;obtain⟨t,d,hq⟩:=U A outer s H vs Q E (z.deeper _) L;have I:Inv (mF B P w K F base N qual scope f Z A outer s H E) [] (start N vs) H s1:=yB S z.hd R hl r x;refine Kq (d [] s1 (start N vs) H _ I hq) (fun c s' hs=>?_) fun e s' hs=>hs;have fin:∀{Y:St} {X:Hp} {v:V} {u:a_},Inv (mF B P w K F base N qual scope f Z A outer s H E) [] Y X s'->RelV v u->Q v X->CE outer P w H s Q u s':=
  fun{Y X v u} J m q=>⟨v,X,J.os,J.bare,J.base,J.hok,m,q⟩
 cases c with
 |ret u=>
  obtain⟨v,Y,X,J,m,q⟩:=hs;exact fin J m q
 |next=>
  obtain⟨Y,X,J,q⟩:=hs;exact fin (v:=V.non) (u:=j_) J rfl q
 |brk=>
  obtain⟨_,_,_,q⟩:=hs;exact kS q
 |cont=>
  obtain⟨_,_,_,q⟩:=hs;exact kS q
end L2
namespace L2
open PySem PySem.Spec PyProof.Rows
section
variable {X:Cx}{x:Str}{p pos:Pos}{e:Expr}{es:List Expr}{t:TA}{id T:String}{r:List V->Hp->VK->Prop}
def II(r:List V->Hp->VK->Prop)(t:TA):TE:=fun σ H Q=>t σ H fun vs H1=>r vs H1 Q
theorem tQ(N:eE X (.builtin id) r)(W:Gl X x)(R:X.mg x=none)(O:la x=ar (.builtin id))(U:PA X (e::es) t)(P:x≠"__name__":=by decide)(Y:(x==("__debug__":Str))=false:=by decide)
  (S:eb (e::es) X.env=(dV,h_ e X.env)::eb es X.env:=by rfl) (Z:(pb pos (eb es X.env)).any (·.1)=false:=by rfl):PE X (.Call (.Name x p) (e::es) [] pos) (II r t):=by
 intro pins s σ H Q I h;refine MK (kF I W R O ?_ P Y);exact PyProof.Rows.callWith_builtin1 (dY (U pos pins s σ H _ I h) fun us s1 ⟨vs,H1,I1,r1,q1⟩=>N pins s1 σ H1 vs us Q I1 r1 q1) S Z
theorem mG(N:eE X (.type T) r)(W:Gl X x)(R:X.mg x=none)(O:la x=ar (.type T))(U:PA X (e::es) t)(P:x≠"__name__":=by decide)(Y:(x==("__debug__":Str))=false:=by decide)
  (S:eb (e::es) X.env=(dV,h_ e X.env)::eb es X.env:=by rfl) (Z:(pb pos (eb es X.env)).any (·.1)=false:=by rfl):PE X (.Call (.Name x p) (e::es) [] pos) (II r t):=by
 intro pins s σ H Q I h;refine MK (kF I W R O ?_ P Y);exact K5 (dY (U pos pins s σ H _ I h) fun us s1 ⟨vs,H1,I1,r1,q1⟩=>N pins s1 σ H1 vs us Q I1 r1 q1) S Z
end
end L2
namespace HT
open PySem PyProof.Rows
def lexLt:List Int->List Int->Bool
 |[],[]=>dV
 |[],_::_=>b_
 |_::_,[]=>dV
 |x::xs,y::ys=>if x=y then lexLt xs ys else decide (x<y)
theorem lexLt_cons(x y:Int)(xs ys:List Int):lexLt (x::xs) (y::ys)=if x=y then lexLt xs ys else decide (x<y):=rfl
theorem qs:lexLt [] []=false:=rfl
theorem oZ(y:Int)(ys:List Int):lexLt [] (y::ys)=true:=rfl
theorem o6(x:Int)(xs:List Int):lexLt (x::xs) []=false:=rfl
theorem Ab(A:hF)(s:c_)(a:Int)(t:Tok)(c:Int)(u:Tok):∃e,SeqAt.EqAt A s (.int a t) (.int c u) e/\(e=b_↔a=c):=
 ⟨(a==c),SeqAt.EqAt.int_int a t c u,by simp⟩
theorem Ac(A:hF)(s:c_)(a:Int)(t:Tok)(c:Int)(u:Tok)(prog:ed)(w:ee)(E:a_->c_->Prop)(Q:a_->c_->Prop)(h:Q (.bool (decide (a<c))) s):
  er (ff prog w) A (richCompare .Lt (.int a t) (.int c u)) Q E s:=
 (PyProof.Rows.lt_int h:er (ff prog w) A (ij .Lt (.int a t) (.int c u)) Q E s)
section
open PySem.SeqAt
open PySem.AutoSeq1 (wpAny_loadPart')
open PySem.MeetsSeq PySem.MeetsSeq2 PySem.MeetsSeq3
theorem qt(l b:b')(Y Z:Array a_)(n H:Nat)(dd Q:Option b')(K S:Array (Option a_))(ns T:List Int)(O:nf Y.toList ns)(N:nf Z.toList T):
  OQ (Builtin.«tuple.__lt__» ⟨[.ref l,.ref b],[]⟩)
   (fun _ R s=>s.heap.get? l=ar {cls:=.type "tuple",dict:=dd,data:=.seq Y n,slots:=K}/\s.heap.get? b=ar {cls:=.type "tuple",dict:=Q,data:=.seq Z H,slots:=S}/\
    R (.ok (.ret (.bool (lexLt ns T)))) s):=
 .of_wp fun prog w A R s h=>by
  obtain⟨W,g,d,U,os⟩:=s;obtain⟨I,J,h⟩:=h;have f2:=AutoSeq1.sub_tuple_tuple;have G:Y.size=ns.length:=by rw[<-O.length];simp
  have F:Z.size=T.length:=by rw[<-N.length];simp
  wp_walk using Ng I,Ng J,wpAny_forIn_list _ (fun rest b s'=>b.1=none/\s'=⟨W,g,d,U,os⟩/\∃(vs ws:List a_) (ns' ms':List Int),rest=vs.zip ws/\
   nf vs ns'/\nf ws ms'/\ns'.length+Z.size=ms'.length+Y.size/\R (.ok (.ret (.bool (lexLt ns' ms')))) ⟨W,g,d,U,os⟩) _
  case turn=>
   rintro⟨y,x⟩ rest b s' ⟨hb',rfl,vs,ws,ns',ms',hz,hvi,hwi,hlen,hR⟩;cases hvi with
   |nil=>rw[List.zip_nil_left]at hz;cases hz
   | cons a t hvi'=>
    cases hwi with
    |nil=>rw[List.zip_nil_right]at hz;cases hz
    | cons c u hwi'=>
     rw[D_]at hz;injection hz with hyx hrest;injection hyx with hy hx;subst hy hx;rw[lexLt_cons]at hR;simp only[s_]at hlen;obtain⟨e,he,X⟩:=Ab A.in1 ⟨W,g,d,U,os⟩ a t c u;refine JU (he prog w _ _ ?_);cases e with
     |true=>
      rw[if_pos (X.mp rfl)]at hR
      wp_walk
      exact⟨rfl,rfl,_,_,_,_,hrest,hvi',hwi',by omega,hR⟩
     |false=>
      rw[if_neg (fun q=>absurd (X.mpr q) Lg)]at hR;have P:=Ac A.in1 ⟨W,g,d,U,os⟩ a t c u prog w
      wp_walk using P
      exact⟨_,rfl,by simpa using hR⟩
  case fin=>
   rintro⟨b1,b2⟩ s' ⟨hb',rfl,vs,ws,ns',ms',hz,hvi,hwi,hlen,hR⟩;simp only at hb';subst hb';have L:lexLt ns' ms'=decide (Y.size<Z.size):=by
    cases hvi with
    | nil=>
     cases hwi with
     |nil=>
      simp only[y_]at hlen;rw[qs];exact(Kg (by omega)).symm
     |cons c u hw=>
      simp only[y_,s_]at hlen;rw[oZ];exact(J3 (by omega)).symm
    | cons a t L=>
     cases hwi with
     |nil=>
      simp only[y_,s_]at hlen;rw[o6];exact(Kg (by omega)).symm
     |cons c u hw=>
      rw[D_]at hz;cases hz
   rw[L]at hR
   wp_walk
   exact⟨_,rfl,by simpa [Builtin.Tuple.tupleCompareSizes]using hR⟩
  case h=>
   exact⟨rfl,rfl,Y.toList,Z.toList,ns,T,rfl,O,N,by omega,h⟩
end
section
variable {prog:ed}{w:ee}{A:hF}{E:a_->c_->Prop}{s:c_}
theorem lt_tupInts{Q:a_->c_->Prop}(L:Oq s.heap l items)(R:Oq s.heap b items2)(K:nf items.toList ns)(P:nf items2.toList ms)
  (O:A.units<GB) (h:Q (.bool (lexLt ns ms)) s):er (ff prog w) A (ij .Lt (.ref l) (.ref b)) Q E s:=by
 obtain⟨⟨cls,dd,data,N⟩,T,S,n,hd⟩:=id L;obtain⟨⟨U,W,data2,X⟩,Y,Z,J,hd2⟩:=id R;simp only at S hd Z hd2;subst S hd Z hd2;exact richCompare_meets_room (op:=.Lt) ⟨_,T,rfl⟩ ⟨_,Y,rfl⟩ PySem.F.slot_tuple_lt PySem.F.entry_tuple_lt (PySem.F.args_tuple_lt_2 _ _) (qt l b items items2 n J dd W N X ns ms K P)
  ⟨T,Y,show v' (lexLt ns ms)≠Value.notImplemented/\Q (.bool (lexLt ns ms)) s from⟨(fun x=>nomatch x),h⟩⟩ O
theorem cat_tup{vs Z:List a_}{Q:a_->c_->Prop}(J:Oq s.heap t vs.toArray)(K:Oq s.heap b Z.toArray)(O:vs≠[])
  (I:Z=[]->Q (.ref t) s) (H:Z≠[]->Q (.ref s.heap.objs.size) {s with heap:=s.heap.push {cls:=.type "tuple",data:=.seq (vs++Z).toArray}})
  (S:vs.length+Z.length<=sizeLine):er (ff prog w) A (ri .Add (.ref t) (.ref b)) Q E s:=by
 obtain⟨⟨cls,dd,data,R⟩,T,L,n,hd⟩:=id J;obtain⟨⟨P,U,data2,W⟩,Y,X,N,hd2⟩:=id K;simp only at L hd X hd2;subst L hd X hd2;have e:vs.toArray++Z.toArray=(vs++Z).toArray:=by simp
 by_cases hw:Z=[]
 ·exact NP ⟨_,T,rfl⟩ ⟨_,Y,rfl⟩ Na NG Mg L9 (L6 _ _)
   (tuple_addW1 t b vs.toArray Z.toArray n N dd U R W (by simpa using O) (by simp[hw])) ⟨T,Y,I hw⟩
 ·refine NP ⟨_,T,rfl⟩ ⟨_,Y,rfl⟩ Na NG Mg L9 (L6 _ _)
   (tuple_addW2 t b vs.toArray Z.toArray n N dd U R W (by simpa using O) (by simpa using hw) (by rw[J8,J8];exact S)) ⟨T,Y,?_⟩
  rw[e];exact H hw
def sIx(n d:Nat):Option Int->Nat
 |none=>d
 |some v=>if v<0 then (v+(n:Int)).toNat else min v.toNat n
theorem sIx_none(n d:Nat):sIx n d none=d:=rfl
theorem sIx_nat(n d k:Nat):sIx n d (ar (k:Int))=min k n:=by
 show(if (k:Int)<0 then ((k:Int)+(n:Int)).toNat else min (k:Int).toNat n)=min k n;rw[if_neg (by omega),La]
theorem EN(n d:Nat)(Z:d<=n)(o:Option Int):sIx n d o<=n:=by
 cases o with
 |none=>exact Z
 |some v=>
  show(if v<0 then (v+(n:Int)).toNat else min v.toNat n)<=n;by_cases hv:v<0
  ·rw[if_pos hv];omega
  ·rw[if_neg hv];exact Nat.min_le_right _ _
theorem xh(v:Int)(n d:Nat):(if v<0 then max (v+(n:Int)) 0 else min v (n:Int))=((sIx n d (ar v):Nat):Int):=by
 show(if v<0 then max (v+(n:Int)) 0 else min v (n:Int))=(((if v<0 then (v+(n:Int)).toNat else min v.toNat n):Nat):Int);by_cases hv:v<0
 ·simp only[if_pos hv];omega
 ·simp only[if_neg hv];omega
theorem vA(Z Y:Option Int)(n:Nat):u2 Z Y 1 (n:Int)=(((sIx n 0 Z:Nat):Int),((sIx n n Y:Nat):Int)):=by
 have X:¬ ((1:Int)<0):=by omega
 unfold u2;simp only[X,if_false];refine Mm ?_ ?_
 ·cases Z with
  |none=>rfl
  |some v=>exact xh v n 0
 ·cases Y with
  |none=>rfl
  |some v=>exact xh v n n
theorem vB(i j:Nat):oD (i:Int) (j:Int) 1=j - i:=by
 unfold oD;have Z:(1:Int)>0:=by omega
 simp only[Z,if_true,Int.ediv_one];split<;>omega
theorem o7{Q:Option Int->c_->Prop}(p:NJ v o)(h:Q o s):er (ff prog w) A (Builtin.Slice.slicePartIndex v) Q E s:=by
 cases p with
 |none=>exact slicePart_none h
 |int i t=>exact slicePart_int h
theorem sliceApplied_gen{S:b'}{U T:a_}{Z Y:Option Int}{n:Nat}{Q:Int×Int×Nat->c_->Prop}(hs:s.heap.IsSliceOf S U T .none)(R:NJ U Z)(P:NJ T Y)
  (h:Q (((sIx n 0 Z:Nat):Int),1,sIx n n Y - sIx n 0 Z) s):er (ff prog w) A (Builtin.Slice.sliceApplied (.ref S) (aC (n:Int))) Q E s:=by
 obtain⟨os,X,O,W⟩:=id hs;unfold Builtin.Slice.sliceApplied Builtin.Slice.sliceFields;refine JU (JU (KJ X W (x:=U) rfl (JU (KJ X W (x:=T) rfl (JU (KJ X W (x:=.none) rfl (JZ ?_)))))));refine JU (slicePart_none ?_);show er _ _ (if ((1:Int)==0)=b_ then _ else _) _ _ s;rw[if_neg (by decide)]
 refine JU (o7 R (JU (o7 P (JU (JZ ?_)))));show er _ _ (match u2 Z Y 1 (n:Int)with|(Z,Y)=>aC (Z,(1:Int),oD Z Y 1)) _ _ s
 rw[vA Z Y n];show er _ _ (aC (((sIx n 0 Z:Nat):Int),(1:Int),oD ((sIx n 0 Z:Nat):Int) ((sIx n n Y:Nat):Int) 1)) _ _ s;rw[vB];exact JZ h
theorem Ad(xs:Array a_)(i k:Nat):((d_ k).filterMap fun(m:Nat)=>xs[((i:Int)+(m:Int)*1).toNat]?).toArray=((xs.toList.drop i).take k).toArray:=by
 have e:(fun(m:Nat)=>xs[((i:Int)+(m:Int)*1).toNat]?)=fun m=>xs[i+m]? :=by
  funext m;have:((i:Int)+(m:Int)*1).toNat=i+m:=by omega
  rw[this]
 rw[e];have:=pick_run xs i k;rw[List.filterMap_map]at this;have e2:((fun x=>xs[x]?)∘fun x=>i+x)=fun m=>xs[i+m]? :=rfl;rw[e2]at this;rw[this]
theorem getItem_tuple_cut{t T:b'}{Z:Array a_}{L N:a_}{X W:Option Int}{Q:a_->c_->Prop}(U:Oq s.heap t Z)(hs:s.heap.IsSliceOf T L N .none)(J:NJ L X)(I:NJ N W)
  (G:¬ (sIx Z.size 0 X=0/\sIx Z.size Z.size W=Z.size))
  (h:Q (.ref s.heap.objs.size) {s with heap:=s.heap.push {cls:=.type "tuple",data:=.seq ((Z.toList.drop (sIx Z.size 0 X)).take (sIx Z.size Z.size W - sIx Z.size 0 X)).toArray}})
  (H:Z.size<=sizeLine):er (ff prog w) A (NQ (.ref t) (.ref T)) Q E s:=by
 have Y:sizeOk (.seq ((Z.toList.drop (sIx Z.size 0 X)).take (sIx Z.size Z.size W - sIx Z.size 0 X)).toArray):=by
  show((Z.toList.drop (sIx Z.size 0 X)).take (sIx Z.size Z.size W - sIx Z.size 0 X)).toArray.size<=sizeLine;rw[J8,KF,LY,MB];omega
 have B:sIx Z.size Z.size W<=Z.size:=EN _ _ (JY _) W;obtain⟨os,P,R,K⟩:=id hs;have O:s.TypeIs (.ref T) "slice":=⟨os,P,R⟩;unfold NQ
 try with_reducible refine Ld ?_
 first|refine JU (JZ ?_)|skip
 refine JU (wpAny_sequenceKey U.typeIs (by decide) ?_)
 refine JU (wpAny_callSpecial?_slot (name:=hY "__getitem__") U.typeIs Lc
  (Lh Lc U.typeIs entry_tuple_getitem ?_ (args_tuple_getitem _ _)))
 show er _ _ (Builtin.Tuple.tupleItemsOf (.ref t)>>=_) _ _ s;refine JU (tupleItemsOf_ U ?_);refine JU (Nh O ?_);rw[if_pos (by decide)]
 refine JU (sliceApplied_gen hs J I ?_);have S:¬ ((((sIx Z.size 0 X:Nat):Int)==0 && (1:Int)==1 && (sIx Z.size Z.size W - sIx Z.size 0 X)==Z.size)=b_):=by
  intro q;rw[Kn,Kn]at q;have F:((sIx Z.size 0 X:Nat):Int)=0:=N0 q.1.1;have C:sIx Z.size Z.size W - sIx Z.size 0 X=Z.size:=N0 q.2;exact G ⟨by omega,by omega⟩
 show er _ _ (if (((sIx Z.size 0 X:Nat):Int)==0 && (1:Int)==1 && (sIx Z.size Z.size W - sIx Z.size 0 X)==Z.size)=b_ then _ else _) _ _ s;rw[if_neg S,Ad];first
  |exact JU (m:=pe _) (K1 (JZ ⟨_,rfl,JZ h⟩) Y)
  |exact JU (m:=pe _) (K1 (JU (JZ (JZ ⟨_,rfl,JZ h⟩))) Y)
  |exact JU (JU (m:=pe _) (K1 (JZ (JZ ⟨_,rfl,JZ h⟩)) Y))
  |exact JU (JU (m:=pe _) (K1 (JZ ⟨_,rfl,JZ h⟩) Y))
end
end HT
namespace L2
open PySem PySem.Spec PyProof.Rows
abbrev TO:=St->Hp->(Option Int->Hp->Prop)->Prop
def PO(X:Cx)(e:Option Expr)(t:TO):Prop:=
 ∀(pins:List (b'×Obj)) (s:c_) (σ:St) (H:Hp) (Q:Option Int->Hp->Prop),Inv X pins σ H s->t σ H Q->
  er (ff X.prog X.w) X.A (evalPart e X.env) (fun u s'=>∃o H',Inv X pins σ H' s'/\NJ u o/\Q o H') X.xe s
def CG:TO:=fun _ H Q=>Q none H
def GT(t:TE):TO:=fun σ H Q=>t σ H fun x H1=>∃i,x= .int i/\Q (ar i) H1
theorem MW{ns:List Int}:∀{us:List a_},bw (ns.map V.int) us->nf us ns:=by
 induction ns with
 |nil=>intro us r;rw[Mn]at r;cases r;exact .nil
 | cons n ns ih=>
  intro us r;rw[Kr]at r;cases r with
  |cons r1 r2=>
   obtain⟨t,e⟩:=r1;subst e;exact .cons n t (ih r2)
section
variable {X:Cx}{e:Expr}{te:TE}{lo hi:Option Expr}{tl th:TO}{pos p2:Pos}
theorem CH:PO X none CG:=by
 intro pins s σ H Q I h;rw[evalPart_none];exact JZ ⟨none,H,I,.none,h⟩
theorem CI(h:PE X e te):PO X (ar e) (GT te):=by
 intro pins s σ H Q I hw;rw[evalPart_some];refine dY (h pins s σ H _ I hw) fun u s1 ⟨x,H1,I1,r1,q1⟩=>?_;obtain⟨i,rfl,q⟩:=q1;obtain⟨t,rfl⟩:=r1;exact⟨ar i,H1,I1,.int i t,q⟩
def DW(X:Cx)(r:V->Option Int->Option Int->Hp->VK->Prop):Prop:=
 ∀(pins:List (b'×Obj)) (s:c_) (σ:St) (H:Hp) (x:V) (v vl vu:a_) (lo hi:Option Int) (sl:b') (Q:VK),Inv X pins σ H s->RelV x v->s.heap.IsSliceOf sl vl vu .none->NJ vl lo->NJ vu hi->r x lo hi H Q->
  ∃T id,typeLookup (.type T) "__getitem__"=aC (ar (.builtin id))/\s.TypeIs v T/\er (ff X.prog X.w) X.A (NQ v (.ref sl)) (EP X pins σ Q) X.xe s
theorem DW.or{r W:V->Option Int->Option Int->Hp->VK->Prop}(h:DW X r)(h':DW X W):DW X (fun x lo hi H Q=>r x lo hi H Q\/W x lo hi H Q):=by
 intro pins s σ H x v Z T lo hi Y Q I S hs U pu q;rcases q with q|q
 ·exact h pins s σ H x v Z T lo hi Y Q I S hs U pu q
 ·exact h' pins s σ H x v Z T lo hi Y Q I S hs U pu q
def JJ(r:V->Option Int->Option Int->Hp->VK->Prop)(te:TE)(tl th:TO):TE:=fun σ H Q=>te σ H fun x H1=>tl σ H1 fun l H2=>th σ H2 fun u H3=>r x l u H3 Q
theorem Ae(Z:DW X r)(S:PE X e te)(P:PO X lo tl)(U:PO X hi th):PE X (.Subscript e (.Slice lo hi none p2) pos) (JJ r te tl th):=by
 intro pins s σ H Q I h;refine Subscript_ (dY (S pins s σ H _ I h) fun v s1 ⟨x,H1,I1,r1,q1⟩=>?_);refine wpAny_Slice (dY (P pins s1 σ H1 _ I1 q1) fun vl s2 ⟨l,H2,I2,pl,q2⟩=>dY (U pins s2 σ H2 _ I2 q2) fun vu s3 ⟨u,H3,I3,pu,q3⟩=>?_);rw[evalPart_none];refine JZ ?_;have O:Inv X pins σ H3 {s3 with heap:=s3.heap.push {cls:=.type "slice",data:=.fields #[vl,vu,.none]}}:=I3.kept (t':=s3.toks) fun b N q=>JW _ q;obtain⟨T,id,Y,W,R⟩:=Z pins {s3 with heap:=s3.heap.push {cls:=.type "slice",data:=.fields #[vl,vu,.none]}} σ H3 x v vl vu l u s3.heap.objs.size Q O r1 (Heap.IsSliceOf.new ..) pl pu q3;show er (ff X.prog X.w) X.A (subscriptTail e (.Slice lo hi none p2) v (.ref s3.heap.objs.size)) (EP X pins σ Q) X.xe {s3 with heap:=s3.heap.push {cls:=.type "slice",data:=.fields #[vl,vu,.none]}};exact tail_any (ops:=[.ref s3.heap.objs.size,v]) W Y R (by with_unfolding_all rfl)
def qu(xs:List V)(lo hi:Option Int):List V:=(xs.drop (HT.sIx xs.length 0 lo)).take (HT.sIx xs.length xs.length hi - HT.sIx xs.length 0 lo)
theorem nH(xs:List V)(lo hi:Option Int):(qu xs lo hi).length<=xs.length:=by
 unfold qu;rw[KF,LY];omega
def IJ(K:dt):V->Option Int->Option Int->Hp->VK->Prop:=fun x lo hi H Q=>∃a xs,x= .ref a/\nG K H a xs/\
 ¬ (HT.sIx xs.length 0 lo=0/\HT.sIx xs.length xs.length hi=xs.length)/\∀p,H p=none->Q (.ref p) (upd H p (.tup (qu xs lo hi)))
theorem EO:DW X (IJ X.K):=by
 intro pins s σ H x v R O lo hi P Q I T hs U pu h;obtain⟨a,xs,rfl,W,hw,q⟩:=h;cases T;obtain⟨its,r,Z,Y⟩:=I.tuple W;have hlen:its.toArray.size=xs.length:=by rw[J8];exact r.length.symm
 refine⟨"tuple",_,PyProof.Rows.slot_tuple_getitem.lookup,Z.typeIs,?_⟩;refine HT.getItem_tuple_cut Z hs U pu (by rw[hlen];exact hw) ?_ (by rw[hlen];exact Y)
 rw[hlen];refine⟨.ref s.heap.objs.size,_,I.laid (t':=s.toks) (o:=.tup (qu xs lo hi)) (fun b S q=>JW _ q) (JY _) ?_,rfl,q _ (I.hok.fresh (JY _))⟩;exact⟨rQ (J4 (nH xs lo hi) Y),_,(r.drop (HT.sIx xs.length 0 lo)).take (HT.sIx xs.length xs.length hi - HT.sIx xs.length 0 lo),Ot _ _⟩
def GU(K:dt):R2:=fun x y H Q=>∃a b ns ms,x= .ref a/\y= .ref b/\nG K H a (ns.map V.int)/\nG K H b (ms.map V.int)/\Q (.bl (HT.lexLt ns ms)) H
theorem vC(W:X.A.units<GB):iZ X (ij .Lt) (GU X.K):=by
 intro pins s σ H x y v u Q I N T h;obtain⟨a,b,ns,ms,rfl,rfl,R,Y,q⟩:=h;cases N;cases T;obtain⟨its,U,P,_⟩:=I.tuple R;obtain⟨Z,O,p2,_⟩:=I.tuple Y;have L:nf its.toArray.toList ns:=MW U;have S:nf Z.toArray.toList ms:=MW O;exact HT.lt_tupInts P p2 L S W ⟨.bl (HT.lexLt ns ms),H,I,rfl,q⟩
def GV(K:dt):R2:=fun x y H Q=>∃a b xs ys,x= .ref a/\y= .ref b/\nG K H a xs/\nG K H b ys/\xs≠[]/\xs.length+ys.length<=sizeLine/\
 (ys=[]->Q (.ref a) H)/\(ys≠[]->∀p,H p=none->Q (.ref p) (upd H p (.tup (xs++ys))))
theorem bw.nil_iff(r:bw xs us):us=[]↔xs=[]:=by
 cases r with
 |nil=>simp
 |cons _ _=>simp
theorem CJ:iZ X (ri .Add) (GV X.K):=by
 intro pins s σ H x y v u Q I J P h;obtain⟨a,b,xs,ys,rfl,rfl,O,S,T,U,R,L⟩:=h;cases J;cases P;obtain⟨its,Y,N,_⟩:=I.tuple O;obtain⟨W,Z,p2,_⟩:=I.tuple S;refine HT.cat_tup N p2 (fun z=>T (Y.nil_iff.mp z)) (fun z=>⟨.ref a,H,I,rfl,R (Z.nil_iff.mp z)⟩) (fun z=>?_) (by rw[<-Y.length, <-Z.length];exact U)
 refine⟨.ref s.heap.objs.size,_,I.laid (t':=s.toks) (o:=.tup (xs++ys)) (fun b G q=>JW _ q) (JY _) ?_,rfl,L (fun w=>z (Z.nil_iff.mpr w)) _ (I.hok.fresh (JY _))⟩;exact⟨rQ (by rw[J5];exact U),_,Y.append Z,Ot _ _⟩
end
end L2
namespace L2
open PySem PySem.Spec PyProof.Rows
def zQ(n:Nat)(i:Int):Option Nat:=if 0<=i then (if i<n then ar i.toNat else none)else if -(n:Int)<=i then ar (i+n).toNat else none
def k9{α:Type}(xs:List α)(i:Int):Option α:=(zQ xs.length i).bind fun j=>xs[j]?
theorem xk(h:zQ n i=ar j):N1 i n=ar j/\j<n/\ -(n:Int)<=i/\i<n:=by
 unfold zQ at h;by_cases h0:0<=i
 ·rw[if_pos h0]at h;by_cases h1:i<n
  ·rw[if_pos h1]at h;have e:i.toNat=j:=Kl h;exact⟨by rw[N9 h0 h1,e],by omega,by omega,h1⟩
  ·rw[if_neg h1]at h;cases h
 ·rw[if_neg h0]at h;by_cases h1: -(n:Int)<=i
  ·rw[if_pos h1]at h;have e:(i+n).toNat=j:=Kl h;exact⟨by rw[seqIndex_neg (by omega) h1,e],by omega,h1,by omega⟩
  ·rw[if_neg h1]at h;cases h
theorem rT{α:Type}{xs:List α}{i:Int}{v:α}(h:k9 xs i=ar v):∃j,N1 i xs.length=ar j/\xs[j]? =ar v/\j<xs.length/\ -(xs.length:Int)<=i/\i<xs.length:=by
 unfold k9 at h;cases e:zQ xs.length i with
 |none=>rw[e]at h;cases h
 |some j=>
  rw[e]at h;obtain⟨Y,W,Z,X⟩:=xk e;exact⟨j,Y,h,W,Z,X⟩
def rV(b:Expr):Prop:=∀o i,subscripted b dV o i=operate [o,i] (NQ o i)
def Ce(X:Cx)(r:R2):Prop:=
 ∀(value slice:Expr) (pins:List (b'×Obj)) (s:c_) (σ:St) (H:Hp) (x y:V) (v u:a_) (Q:VK),Inv X pins σ H s->RelV x v->RelV y u->r x y H Q->
  subscripted slice dV v u=operate [v,u] (NQ v u)->er (ff X.prog X.w) X.A (subscriptTail value slice v u) (EP X pins σ Q) X.xe s
def HL(X:Cx)(id:String)(r:V->List V->Hp->VK->Prop):Prop:=
 ∀(pins:List (b'×Obj)) (s:c_) (σ:St) (H:Hp) (x:V) (xs:List V) (v:a_) (us:List a_) (Q:VK),Inv X pins σ H s->RelV x v->bw xs us->r x xs H Q->
  er (ff X.prog X.w) X.A (call (.builtin id) (v::us)) (EP X pins σ Q) X.xe s
section
variable {X:Cx}{a b:Expr}{ta tb:TE}{pos:Pos}
theorem Ce.or{r Z:R2}(h:Ce X r)(h':Ce X Z):Ce X (fun x y H Q=>r x y H Q\/Z x y H Q):=by
 intro value slice pins s σ H x y v u Q I W Y q hs;rcases q with q|q
 ·exact h value slice pins s σ H x y v u Q I W Y q hs
 ·exact h' value slice pins s σ H x y v u Q I W Y q hs
theorem GW(Z:Ce X r)(T:PE X a ta)(Y:PE X b tb)(hs:rV b):PE X (.Subscript a b pos) (GJ r ta tb):=by
 intro pins s σ H Q I h;exact Subscript_ (EC T Y I h fun v u s2 x y R W S U q=>Z a b pins s2 σ R x y v u Q W S U q (hs _ _))
def GX(K:dt):R2:=fun x y H Q=>∃p xs i v,x= .ref p/\y= .int i/\jH K H p xs/\k9 xs i=ar v/\Q v H
def GY(K:dt):R2:=fun x y H Q=>∃p xs i v,x= .ref p/\y= .int i/\nG K H p xs/\k9 xs i=ar v/\Q v H
def GZ:R2:=fun x y H Q=>∃z i c,x= .str z/\y= .int i/\z.length<=sizeLine/\k9 z.cps.toList i=ar c/\Q (.str ⟨#[c]⟩) H
theorem CK:Ce X (GX X.K):=by
 intro value slice pins s σ H x y v u Q I J S h hs;obtain⟨p,xs,i,z,rfl,rfl,O,he,q⟩:=h;cases J;obtain⟨t,rfl⟩:=S;obtain⟨its,r,Y,G⟩:=I.list O;obtain⟨j,Z,P,E,R,N⟩:=rT he;obtain⟨w,T,U⟩:=r.get P;have L:=r.length;have F:=oX;have fin:EP X pins σ Q w s:=⟨z,H,I,U,q⟩;by_cases h0:0<=i
 ·have W:i.toNat=j:=by
   rw[N9 h0 N]at Z;exact Kl Z
  exact item_listR Y.isList h0 (by omega) (by rw[W];simpa using T) fin hs
 ·have W:(i+(its.toArray.size:Int)).toNat=j:=by
   rw[seqIndex_neg (by omega) R]at Z
   rw[J8, <-L];exact Kl Z
  exact subscriptTail_builtinR (x:=w) Y.isList.typeIs slot_list_getitem.lookup
   (wpAny_getItem_list_neg (Q:=fun r s'=>r=w/\EP X pins σ Q r s') Y.isList (by omega) (by rw[J8]<;>omega) (by omega) (by rw[W];simpa using T) ⟨rfl,fin⟩) hs
theorem ER:Ce X (GY X.K):=by
 intro value slice pins s σ H x y v u Q I O W h hs;obtain⟨p,xs,i,z,rfl,rfl,S,he,q⟩:=h;cases O;obtain⟨t,rfl⟩:=W;obtain⟨its,r,Y,L⟩:=I.tuple S;obtain⟨j,U,T,F,N,J⟩:=rT he;obtain⟨w,R,Z⟩:=r.get T;have P:=r.length;have G:=oX;have fin:EP X pins σ Q w s:=⟨z,H,I,Z,q⟩;exact subscriptTail_builtinR (x:=w) Y.typeIs slot_tuple_getitem.lookup
  (getItem_tuple (j:=j) (Q:=fun r s'=>r=w/\EP X pins σ Q r s') Y (by omega) (by omega) (by rw[J8, <-P];exact U) (by simpa using R) ⟨rfl,fin⟩) hs
theorem ES:Ce X GZ:=by
 intro value slice pins s σ H x y v u Q I S Y h hs;obtain⟨z,i,c,rfl,rfl,N,he,q⟩:=h;obtain⟨t,rfl⟩:=S;obtain⟨t',rfl⟩:=Y;obtain⟨j,Z,T,O,U,R⟩:=rT he;have W:z.cps.toList.length=z.length:=by simp[Str.length]
 rw[W]at Z U R;have P:=oX;exact tail_any (typeIs_str s z t) slot_str_getitem.lookup (getItem_str (c:=c) (by
  have e1:decide (i< -(2 ^ 63:Int))=false:=Kg (by omega)
  have e2:decide (i ≥ 2 ^ 63)=false:=Kg (by omega)
  rw[e1,e2,Bool.or_false]) (by rw[Z];simpa using T) ⟨.str ⟨#[c]⟩,H,I.tok _,⟨_,rfl⟩,q⟩) hs
def Js(K:dt):R2:=fun x y H Q=>GX K x y H Q\/GY K x y H Q\/GZ x y H Q
theorem ET:Ce X (Js X.K):=CK.or (ER.or ES)
theorem vD(its:List a_)(n j:Nat)(u:a_):p_ (·.setIfInBounds j u) {cls:=.type "list",data:=.seq its.toArray n}={cls:=.type "list",data:=.seq (its.set j u).toArray n}:=by
 simp[p_]
theorem Inv.lst{Z:List (b'×Obj)}{Y:St}{H:Hp}{s:c_}{p:b'}{xs:List V}(I:Inv X Z Y H s)(h:H p=ar (.lst xs)):
  ∃(its:List a_) (n:Nat),bw xs its/\s.heap.get? p=ar {cls:=.type "list",data:=.seq its.toArray n}/\xs.length<=sizeLine:=by
 obtain⟨z,its,n,r,e⟩:=I.hok p _ h;exact⟨its,n,r,e,z⟩
theorem Inv.lstUpd{H:Hp}{its its':List a_}{f:Obj->Obj}(I:Inv X pins σ H s)(h:H p=ar (.lst xs))
  (U:s.heap.get? p=ar {cls:=.type "list",data:=.seq its.toArray n}) (Z:f {cls:=.type "list",data:=.seq its.toArray n}={cls:=.type "list",data:=.seq its'.toArray n'}) (r:bw ys its') (W:ys.length<=sizeLine) (t:Nat):
  Inv X pins σ (upd H p (.lst ys)) {s with heap:=s.heap.update p f,toks:=t}:=by
 have e:(s.heap.update p f).get? p=ar {cls:=.type "list",data:=.seq its'.toArray n'}:=by
  rw[Lq f U (by rw[Z]<;>rfl),Z]
 refine I.write (x:=p) (e:=p) (by rw[h];trivial) (.inl rfl) (fun b u Y q=>(KC _ _ (lx Y)).trans q) ⟨_,e⟩ ?_
 exact⟨W,its',n',r,e⟩
def DX:V->V->V->Hp->(Hp->Prop)->Prop:=fun o i v H Q=>∃p xs k j,o= .ref p/\i= .int k/\H p=ar (.lst xs)/\zQ xs.length k=ar j/\Q (upd H p (.lst (xs.set j v)))
theorem set_list:GD X DX:=by
 intro pins s σ H o i v B F u Q I J N G h;obtain⟨p,xs,k,j,rfl,rfl,R,K,q⟩:=h;cases J;obtain⟨t,rfl⟩:=N;obtain⟨its,n,r,Y,L⟩:=I.lst R;obtain⟨Z,E,O,S⟩:=xk K;have T:=r.length;have C:=oX;have P:Inv X pins σ (upd H p (.lst (xs.set j v))) {s with heap:=s.heap.update p (p_ (·.setIfInBounds j u))}:=
  I.lstUpd R Y (vD its n j u) (r.set G j) (by rw[Ni];exact L) s.toks
 by_cases h0:0<=k
 ·have U:k.toNat=j:=by
   rw[N9 h0 S]at Z;exact Kl Z
  exact W.ki_setAt Y h0 (by omega) (by rw[J8, <-T];exact S) (by rw[U];exact⟨_,P,q⟩)
 ·have U:(k+(its.toArray.size:Int)).toNat=j:=by
   rw[seqIndex_neg (by omega) O]at Z
   rw[J8, <-T];exact Kl Z
  exact W.ki_setBack Y (by omega) (by rw[J8, <-T];exact O) (by omega) (by rw[U];exact⟨_,P,q⟩)
theorem rW(Z Y:Option Int)(n:Nat):(wL Z Y none n).1=((HT.sIx n 0 Z:Nat):Int)/\(wL Z Y none n).2.1=((HT.sIx n n Y:Nat):Int)/\(wL Z Y none n).2.2=1:=by
 refine⟨?_,?_,rfl⟩
 ·cases Z with
  |none=>simp[wL,HT.sIx]
  |some i=>
   simp only[wL,HT.sIx,Option.getD_none,show(1:Int)>0 by decide,if_true]
   by_cases h:i<0
   ·simp only[h,if_true]<;>omega
   ·simp only[h,if_false]<;>omega
 ·cases Y with
  |none=>simp[wL,HT.sIx]
  |some i=>
   simp only[wL,HT.sIx,Option.getD_none,show(1:Int)>0 by decide,if_true]
   by_cases h:i<0
   ·simp only[h,if_true]<;>omega
   ·simp only[h,if_false]<;>omega
theorem qv(its:List a_)(Z Y:Option Int):slicePick its.toArray Z Y none=((its.drop (HT.sIx its.length 0 Z)).take (HT.sIx its.length its.length Y - HT.sIx its.length 0 Z)).toArray:=by
 obtain⟨T,W,U⟩:=rW Z Y its.toArray.size;unfold slicePick;rw[T,W,U];simp only[sliceRange_one,pick_run,mu]<;>rfl
def IK(K:dt):V->Option Int->Option Int->Hp->VK->Prop:=fun x lo hi H Q=>∃a xs,x= .ref a/\jH K H a xs/\∀p,H p=none->Q (.ref p) (upd H p (.lst (qu xs lo hi)))
theorem CL:DW X (IK X.K):=by
 intro pins s σ H x v P N lo Z O Q I S hs U pu h;obtain⟨a,xs,rfl,W,q⟩:=h;cases S;obtain⟨its,r,Y,T⟩:=I.list W;have hlen:=r.length;refine⟨"list",_,slot_list_getitem.lookup,Y.isList.typeIs,?_⟩;refine wpAny_getItem_list_slice Y.isList hs U pu .none (by simp) ?_ (by rw[J8]<;>omega)
 rw[qv, <-hlen];refine⟨.ref s.heap.objs.size,_,I.laid (t':=s.toks) (o:=.lst (qu xs lo Z)) (fun b R q=>JW _ q) (JY _) ?_,rfl,q _ (I.hok.fresh (JY _))⟩;exact⟨J4 (nH xs lo Z) T,_,0,(r.drop (HT.sIx xs.length 0 lo)).take (HT.sIx xs.length xs.length Z - HT.sIx xs.length 0 lo),J9 _ rfl⟩
theorem rX:eE X (.builtin "len") (fun xs H Q=>∃p ys,xs=[.ref p]/\(jH X.K H p ys\/nG X.K H p ys)/\Q (.int ys.length) H):=by
 intro pins s σ H xs us Q I r h;obtain⟨p,ys,rfl,Z,q⟩:=h;obtain⟨u,rfl,T⟩:=vals1 r;cases T;have S:=oX;rcases Z with Z|Z
 ·obtain⟨its,Y,W,U⟩:=I.list Z;have hlen:=Y.length;exact Calls.call_len_list W.isList (by simp only[mu]<;>omega) ⟨.int ys.length,H,I.tok _,⟨s.toks+1,by rw[J8,hlen]⟩,q⟩
 ·obtain⟨its,Y,W,U⟩:=I.tuple Z;have hlen:=Y.length;exact len_tuple W (by simp only[mu]<;>omega) ⟨.int ys.length,H,I.tok _,⟨s.toks+1,by rw[J8,hlen]⟩,q⟩
theorem eE.or{r Z:List V->Hp->VK->Prop}(h:eE X f r)(h':eE X f Z):eE X f (fun xs H Q=>r xs H Q\/Z xs H Q):=by
 intro pins s σ H xs us Q I rs q;rcases q with q|q
 ·exact h pins s σ H xs us Q I rs q
 ·exact h' pins s σ H xs us Q I rs q
theorem rY:eE X (.type "list") (fun xs H Q=>∃p ys,xs=[.ref p]/\(jH X.K H p ys\/nG X.K H p ys)/\∀l,H l=none->Q (.ref l) (upd H l (.lst ys))):=by
 intro pins s σ H xs us Q I r h;obtain⟨p,ys,rfl,T,q⟩:=h;obtain⟨u,rfl,O⟩:=vals1 r;cases O;have fin:∀(its:List a_),bw ys its->ys.length<=sizeLine->∀(h':f_) (Z:Nat),(∀b o',s.heap.get? b=ar o'->h'.get? b=ar o')->
   h'.get? s.heap.objs.size=ar {cls:=.type "list",dict:=none,data:=.seq its.toArray Z,slots:= #[]}->EP X pins σ Q (.ref s.heap.objs.size) {s with heap:=h'}:=fun its Y U h' Z W e=>
  ⟨.ref s.heap.objs.size,_,I.laid (t':=s.toks) W (JY _) (show b7 X.prog X.w _ h' _ (.lst ys)from⟨U,its,Z,Y,e⟩),rfl,q _ (I.hok.fresh (JY _))⟩
 rcases T with T|T
 ·obtain⟨its,Y,S,U⟩:=I.list T;have hlen:=Y.length;obtain⟨o,R,P,n,hd⟩:=S.isList;exact call_list_seq p (.inl rfl) R P hd (fun h' Z W e=>fin its Y U h' Z W e) (by simp only[mu]<;>omega)
 ·obtain⟨its,Y,S,U⟩:=I.tuple T;have hlen:=Y.length;obtain⟨o,R,P,n,hd⟩:=S;exact call_list_seq p (.inr rfl) R P hd (fun h' Z W e=>fin its Y U h' Z W e) (by simp only[mu]<;>omega)
theorem qw:eE X (.type "tuple") (fun xs H Q=>∃p ys,xs=[.ref p]/\((jH X.K H p ys/\∀l,H l=none->Q (.ref l) (upd H l (.tup ys)))\/(nG X.K H p ys/\Q (.ref p) H))):=by
 intro pins s σ H xs us Q I r h;obtain⟨p,ys,rfl,h⟩:=h;obtain⟨u,rfl,R⟩:=vals1 r;cases R;rcases h with⟨hq,q⟩|⟨hq,q⟩
 ·obtain⟨its,Z,Y,U⟩:=I.list hq;have hlen:=Z.length;refine call_tuple_list Y.isList (fun h' S=>?_) (by simp only[mu]<;>omega)
  have W:Inv X pins σ H {s with heap:=h'}:=I.kept (t':=s.toks) S;have T:Inv X pins σ (upd H h'.objs.size (.tup ys)) {s with heap:=h'.push {cls:=.type "tuple",data:=.seq its.toArray}}:=
   W.laid (t':=s.toks) (fun b o e=>JW _ e) (JY _) (show b7 X.prog X.w _ _ _ (.tup ys)from⟨rQ U,its,Z,Ot _ _⟩)
  exact⟨.ref h'.objs.size,_,T,rfl,q _ (W.hok.fresh (JY _))⟩
 ·obtain⟨its,Z,Y,U⟩:=I.tuple hq;exact call_tuple_same Y ⟨.ref p,H,I,rfl,q⟩
def IL(K:dt)(T:String)(x:V)(H:Hp):Prop:=match x with
 | .str _=>T="str"
 | .int _=>T="int"
 | .ref p=>(T="list"/\∃xs,jH K H p xs)\/(T="tuple"/\∃xs,H p=ar (.tup xs))\/
   (T="dict"/\((∃kvs,H p=ar (.dK kvs))\/∃kvs,H p=ar (.dT kvs)))\/(T="set"/\∃S n,H p=ar (.set S n))
 |_=>False
theorem EU(I:Inv X pins σ H s)(r:RelV x v)(Z:IL X.K T x H):
  s.TypeIs v T/\∀a,v= .ref a->∃ob,s.heap.get? a=ar ob/\ob.dict=none:=by
 cases x with
 |str z=>
  obtain⟨t,rfl⟩:=r;cases (show T="str" from Z);exact⟨typeIs_str s z t,fun _ e=>nomatch e⟩
 |int i=>
  obtain⟨t,rfl⟩:=r;cases (show T="int" from Z);exact⟨typeIs_int s i t,fun _ e=>nomatch e⟩
 | ref p=>
  cases r;rcases Z with⟨rfl,xs,hq⟩|⟨rfl,xs,hk⟩|⟨rfl,hk⟩|⟨rfl,S,n,hk⟩
  ·obtain⟨its,_,Y,_⟩:=I.list hq;refine⟨Y.isList.typeIs,fun a e=>?_⟩;cases e;obtain⟨o,n,e,c,hd,_⟩:=Y;exact⟨o,e,hd⟩
  ·obtain⟨⟨_,o,e,hd⟩,its,_,pt⟩:=(show b7 X.prog X.w H s.heap p (.tup xs)from I.hok p _ hk);refine⟨pt.typeIs,fun a e2=>?_⟩;cases e2;exact⟨o,e,hd⟩
  ·have z:∃o,s.heap.get? p=ar o/\o.ExactDict:=by
    rcases hk with⟨kvs,hk⟩|⟨kvs,hk⟩
    ·obtain⟨_,_,_,_,o,_,_,e,ex,_⟩:=I.hok p _ hk;exact⟨o,e,ex⟩
    ·obtain⟨_,_,_,_,o,_,_,e,ex,_⟩:=I.hok p _ hk;exact⟨o,e,ex⟩
   obtain⟨o,e,ex⟩:=z;refine⟨⟨o,e,ex.1⟩,fun a e2=>?_⟩;cases e2;exact⟨o,e,ex.2.1⟩
  ·obtain⟨o,_,_,_,e,ex,_⟩:=I.hok p _ hk;refine⟨⟨o,e,ex.1⟩,fun a e2=>?_⟩;cases e2;exact⟨o,e,ex.2.1⟩
 |_=>exact kS Z
def JK(K:dt)(T:String)(r:V->List V->Hp->VK->Prop)(to:TE)(t:TA):TE:=fun σ H Q=>to σ H fun x H1=>IL K T x H1/\t σ H1 fun xs H2=>r x xs H2 Q
variable {o e:Expr}{es:List Expr}{to:TE}{t:TA}{name:Str}{apos cpos:Pos}{T id:String}{r:V->List V->Hp->VK->Prop}
theorem DY(O:PlainAttrs T)(S:Slot T name id)(R:typeOf (.builtin id)=aC (.type "method_descriptor"))(N:HL X id r)(F:PE X o to)(J:PA X (e::es) t)
  (W:u5 o name X.env (h_ o X.env)=h_ o X.env:=by rfl)
  (U:((pb cpos (eb (e::es) X.env)).all (fun x=> !x.1) && (backToKw cpos (keywordEach [] X.env)).all (fun x=>x.1.isSome)
   && decide ((e::es).length+([]:List Oc).length+(if ([]:List Oc).isEmpty then 0 else 1)<30))=true:=by rfl)
  (Y:(apos.endLine==cpos.line)=true:=by rfl) (hs:eb (e::es) X.env=(dV,h_ e X.env)::eb es X.env:=by rfl) (Z:(pb cpos (eb es X.env)).any (·.1)=false:=by rfl):
  PE X (.Call (.Attribute o name apos) (e::es) [] cpos) (JK X.K T r to t):=by
 intro pins s σ H Q I h;refine wpAny_Call_method_late W U Y rfl (dY (F pins s σ H _ I h) fun v s1 ⟨x,H1,I1,r1,ty,q1⟩=>?_);obtain⟨L,G⟩:=EU I1 r1 ty;refine⟨T,id,O,S,R,L,G,?_⟩;have P:=J cpos pins s1 σ H1 _ I1 q1;rw[hs]at P⊢;refine Calls.callWith_builtin (by show(dV||(pb cpos (eb es X.env)).any (·.1))=dV;rw[Z]<;>rfl) (Mv ?_)
 exact dY P fun us s2 ⟨vs,H2,I2,r2,q2⟩=>N pins s2 σ H2 x vs v us Q I2 r1 r2 q2
end
end L2
namespace L2
open PySem PySem.Spec PyProof.Rows
def Jt(X:Cx)(id:String)(r:V->List V->Hp->VK->Prop):Prop:=
 ∀(pins:List (b'×Obj)) (s:c_) (σ:St) (H:Hp) (x:V) (xs:List V) (v:a_) (us:List a_) (Q:VK),Inv X pins σ H s->RelV x v->bw xs us->r x xs H Q->
  er (ff X.prog X.w) X.A (call (.builtin id) (v::us)) (EP X pins σ Q) X.xe s
theorem bw.one:∀{x:V} {us:List a_},bw [x] us->∃u,us=[u]/\RelV x u
 |_,_,.cons r .nil=>⟨_,rfl,r⟩
theorem bw.eraseIdx:∀{xs:List V} {us:List a_} (i:Nat),bw xs us->bw (xs.eraseIdx i) (us.eraseIdx i)
 |_,_,_,.nil=>.nil
 |_,_,0,.cons _ t=>t
 |_,_,i+1,.cons r t=>.cons r (bw.eraseIdx i t)
theorem qU{α:Type}:∀(l:List α) (i:Nat),(l.eraseIdx i).length<=l.length
 |[],_=>JY _
 |_::_,0=>LR _
 |_::r,i+1=>LZ (qU r i)
section
variable {X:Cx}{pins:List (b'×Obj)}{σ:St}{H:Hp}{s:c_}{l b:b'}{xs ys zs:List V}
theorem Inv.lset{its its':List a_}{f:Array a_->Array a_}(I:Inv X pins σ H s)(T:H l=ar (.lst xs))
  (e:s.heap.get? l=ar {cls:=.type "list",data:=.seq its.toArray n}) (Z:f its.toArray=its'.toArray) (S:bw ys its') (U:ys.length<=sizeLine):
  Inv X pins σ (upd H l (.lst ys)) {s with heap:=s.heap.update l (p_ f),toks:=t'}:=by
 have q:=PySem.IsL.update e f;rw[Z]at q;refine I.write (x:=l) (e:=l) (by rw[T];exact trivial) (.inl rfl) (fun R u Y W=>(KC s.heap (p_ f) (lx Y)).trans W) ⟨_,q⟩ ?_
 exact⟨U,its',_,S,q⟩
theorem Inv.lnew(I:Inv X pins σ H s)(Z:bw ys its)(Y:ys.length<=sizeLine):
  Inv X pins σ (upd H s.heap.objs.size (.lst ys)) {s with heap:=s.heap.push {cls:=.type "list",data:=.seq its.toArray},toks:=t'}:=
 I.laid (fun _ _ q=>JW _ q) (JY _) ⟨Y,its,0,Z,J9 _ rfl⟩
theorem Inv.fresh(I:Inv X pins σ H s):H s.heap.objs.size=none:=I.hok.fresh (JY _)
theorem Inv.lstM(I:Inv X pins σ H s)(Z:H l=ar (.lst xs)):xs.length<=sizeLine/\∃(its:List a_) (n:Nat),bw xs its/\xs.length=its.length/\s.heap.get? l=ar {cls:=.type "list",data:=.seq its.toArray n}:=by
 obtain⟨z,its,n,r,e⟩:=I.hok l _ Z;exact⟨z,its,n,r,r.length,e⟩
theorem Af(h:n<=sizeLine):u_ n=false:=by
 unfold u_;exact Kg (by omega)
end
section
variable {X:Cx}
def xm:V->List V->Hp->VK->Prop:=fun x vs H Q=>∃l xs y,x= .ref l/\vs=[y]/\H l=ar (.lst xs)/\xs.length<sizeLine/\Q .non (upd H l (.lst (xs++[y])))
theorem mH:Jt X "list.append" xm:=by
 intro pins s σ H x vs v us Q I U W h;obtain⟨l,xs,y,rfl,rfl,Z,S,q⟩:=h;cases U;obtain⟨u,rfl,Y⟩:=W.one;obtain⟨z,its,n,r,T,e⟩:=I.lstM Z;refine Nv F.slot_list_append ⟨_,e,rfl⟩ F.entry_list_append (F.args_list_append_2 _ _) (PySem.list_append l its.toArray n u (by rw[J8];omega)) ⟨e,?_⟩
 refine⟨.non,_,I.lset (its':=its++[u]) Z e (by simp) (r.append (.cons Y .nil)) ?_,rfl,q⟩
 rw[J5,List.length_singleton];omega
def Ag:V->List V->Hp->VK->Prop:=fun x vs H Q=>∃l xs i k y,x= .ref l/\vs=[.int i]/\H l=ar (.lst xs)/\ -(2 ^ 63)<=i/\i<2 ^ 63/\N1 i xs.length=ar k/\xs[k]? =ar y/\Q y (upd H l (.lst (xs.eraseIdx k)))
theorem Ah:Jt X "list.pop" Ag:=by
 intro pins s σ H x vs v us Q I O U h;obtain⟨l,xs,i,k,y,rfl,rfl,Y,S,P,T,N,q⟩:=h;cases O;obtain⟨u,rfl,W⟩:=U.one;obtain⟨t,rfl⟩:=W;obtain⟨z,its,n,r,R,e⟩:=I.lstM Y;obtain⟨w,hw,Z⟩:=r.get N;refine Nv F.slot_list_pop ⟨_,e,rfl⟩ F.entry_list_pop (F.args_list_pop_2 _ _)
  (MeetsSeq.list_pop_at l its.toArray n i t k w (fitsIndex_both S P) (by rw[J8, <-R];exact T) (by rw[<-Lr];exact hw) (by rw[J8];omega)) ⟨e,?_⟩
 refine⟨y,_,I.lset (its':=its.eraseIdx k) Y e ?_ (r.eraseIdx k) ?_,Z,q⟩
 ·show its.toArray.eraseIdxIfInBounds k=(its.eraseIdx k).toArray;rw[List.eraseIdxIfInBounds_toArray]
 ·have:=qU xs k;omega
end
section
variable {prog:ed}{w:ee}{A:hF}{E:a_->c_->Prop}{s:c_}
end
section
variable {X:Cx}
end
end L2
namespace Att
open PySem PySem.W PySem.Calls PyProof.Rows
theorem n6:∀(ns:List Int) (vs:List a_),WellAll P h vs (ns.map WData.int)->nf vs ns:=by
 intro ns
 induction ns with
 |nil=>
  intro vs w;rw[Mn]at w;cases w;exact .nil
 | cons n ns ih=>
  intro vs w;rw[Kr]at w;cases w with
  |cons a b=>
   cases a;exact .cons _ _ (ih _ b)
theorem yC{l:OK}(S:l.most=ar n)
  (Z:l.row.toRowW.claim.pre args=b_) (W:WellAll P h vals args):
  ∃a vs ns,vals=[gj a]/\args=[WData.list (ns.map WData.int)]/\h.get? a=ar {cls:=.type "list",data:=.seq vs.toArray}/\nf vs ns/\ns.length<=n:=by
 have IW:WShape.hasAll [] args [.list .int]=true:=(pre_splitW Z).1;have U:l.pre.holds [] {args:=args}=true:=(pre_splitW Z).2;obtain⟨d,r,rfl,Q,O⟩:=hasAllW_cons IW;obtain rfl:=hasAllW_nil O;obtain⟨xs,rfl,R⟩:=hasW_list Q;obtain⟨ns,rfl⟩:=items_int R;have hlen:ns.length<=n:=by
  unfold OpenLaw.pre at U;have Y:(WTm.not (.lt (.lit (.int (n:Int))) (.len (.arg 0)))).holds [] {args:=[.list (ns.map .int)]}=true:=by
   have Y:=(holds_andW U).1;rw[S]at Y;exact Y
  have X:=condW_of Y (w_not (w_lt w_lit (w_len_list (w_arg rfl))));rw[JV]at X;refine Nb fun q=>?_;have T:(n:Int)<((ns.length:Nat):Int):=by omega
  first
   |(rw[J3 T]at X;exact absurd X (by decide))
   |(simp at X;omega)
 cases W with
 |cons w1 w2=>
  cases w2;cases w1 with
  |list ho hall=>exact⟨_,_,ns,rfl,rfl,ho,n6 ns _ hall,hlen⟩
theorem yD(l:OK)(args:List WData):l.row.toRowW.claim.post args (.bool b_) args=true:=
 postW_of (r:=l.row.toRowW) (X:=(b_==b_))
  (show WShape.has [] (.bool b_) .bool=b_ by first|rfl|decide|simp[WShape.has,WShape.arms,WShape.armsAll])
  (show(WTm.eq .res (.lit (.bool b_))).value [] {args:=args,res:=ar (.bool b_),after:=args}=ar (.bool (b_==b_))from w_eq_bool (w_res rfl) w_lit) rfl
theorem attach_call{l:OK}{YP:ee->f_->Prop}{d:OE}
  (C:l.most=ar n) (R:d.params.defaults=[])
  (T:∀(w:ee) (s₀ Z:c_) (S P:Str->Option a_) (W:b') (o:Obj) (pm cd doc:a_) (a:b') (vs:List a_) (ns:List Int),
   Ground q loose [] XP w s₀ S P Z.heap->YP w Z.heap->
   Z.heap.get? W=ar o->o.data= .func (docDef d.name d.params d.body d.scope pm cd doc)->Z.heap.CodeRec cd d.name->S d.name=ar (.ref W)->
   Z.heap.get? a=ar {cls:=.type "list",data:=.seq vs.toArray}->nf vs ns->ns.length<=n->Z.gens= #[]->
   vr (ff l.prog w) x_ (.call (.ref W) ⟨[.ref a],[]⟩) (fun r s'=>r= .ok (.ret (.bool b_))/\OldK Z.heap s'.heap/\s'.os=Z.os/\yn s'.gens) Z):
  WalkO q loose XP YP l.row.toRowW d [] (fun f vs=>PySem.call f vs):=by
 intro w s₀ Z S P G Y W o pm cd doc y kV F hd O L N J args vals as X K z Q A;obtain rfl:y= .none:=Dflts.none L R;obtain rfl:kV= .none:=Dflts.noKw L;obtain⟨a,vs,ns,rfl,rfl,U,hints,hlen⟩:=yC C X Q;refine enter_call (MJ (T w s₀ Z S P W o pm cd doc a vs ns G Y F (fd_plain hd) O N U hints hlen J) fun r s' E=>?_);obtain⟨rfl,H,B,I⟩:=E;exact⟨.inl ⟨.bool b_,.bool b_,[],rfl,fun _=>rfl,.bool b_,yD l _,fun _=>⟨List.Pairwise.nil,fun _ hm=>(nomatch hm)⟩⟩,H,B,I⟩
section
variable {prog:ed}{w:ee}{A:hF}{E:a_->c_->Prop}{s:c_}{K:OR}
def ledger(h:f_)(L d:b'):List (b'×Obj):=(d_ h.objs.size).filterMap fun a=>if a=L\/a=d then none else (h.get? a).map fun o=>(a,o)
end
end Att
namespace L2
open PySem PySem.Spec PyProof.Rows
theorem j9:∀{vs:List a_} {ns:List Int},nf vs ns->bw (ns.map V.int) vs
 |_,_,.nil=>.nil
 |_,_,.cons n t h=>.cons ⟨t,rfl⟩ (j9 h)
def EV(H:Hp):Prop:=∀b,H b=none\/∃o xs,H b=ar (.frz o (.lst xs))
theorem Ai{K:dt}{E:Str->Option a_}{j:zP}{sp:Sp}{Z:c_}{vs:List a_}
  (l:K.In Z.heap) (J:Z.heap.Ns g_ mg) (X:Z.heap.Ns wh E) (B:∀x:Str,x≠"__name__"->E x=la x) (R:Z.heap.NoLimit) (hg:Z.gens= #[])
  (I:Z.heap.get? a=ar {cls:=.type "list",data:=.seq vs.toArray}) (p:nf vs ns) (f:ns.length<=sizeLine) (hr:Room k x_)
  (F:∀base:f_,K.In base->base.Ns g_ mg->FnOk P w K mg base j k fa fd [x] sp) (T:∀(s:c_) (u:a_),G_ s fd ⟨[u],[]⟩ [(x,u)])
  (C:∀H:Hp,EV H->jH K H a (ns.map V.int)->sp [.ref a] H (fun v _=>v= .bl b_) fun _ _ _=>False)
  (G:∀H e s',j [] H Z (fun _ _ _=>False) e s'->False):
  vr (ff P w) x_ (.call (.ref fa) ⟨[.ref a],[]⟩) (fun r s'=>r= .ok (.ret (.bool b_))/\OldK Z.heap s'.heap/\s'.os=Z.os/\yn s'.gens) Z:=by
 have g:=j9 p;have S:=p.length;have core:∀H:Hp,EV H->jH K H a (ns.map V.int)->iY P w H Z.heap->(∀b,H b≠none->b=a)->(H a≠none->K.lookup a=none)->
   vr (ff P w) x_ (.call (.ref fa) ⟨[.ref a],[]⟩) (fun r s'=>r= .ok (.ret (.bool b_))/\OldK Z.heap s'.heap/\s'.os=Z.os/\yn s'.gens) Z:=by
  intro H i hS L t hK;have Y:∀{b:b'} {o:Obj},Z.heap.get? b=ar o->H b=none->(kE Z.heap H).get? b=ar o:=fun e n=>oU e n;have A:∀{b:b'} {o:Obj} {es:Array DictEntry} {ep:Nat},Z.heap.get? b=ar o->o.data= .dict es ep->H b=none:=fun{b o es ep} e d=>by
   cases q:H b with
   |none=>rfl
   |some u=>
    have y:b=a:=t b (by rw[q];simp)
    subst y;rw[I]at e;cases e;have d':Data.seq vs.toArray _=Data.dict es ep:=d;cases d'
  have U:∀{b:b'} {m:Str->Option a_},Z.heap.Ns b m->(kE Z.heap H).Ns b m:=fun{b m} ⟨o,es,ep,e,d,r⟩=>⟨o,es,ep,Y e (A e d),d,r⟩;have O:K.In (kE Z.heap H):=fun b o e=>Y (l b o e) (by
   cases q:H b with
   |none=>rfl
   |some u=>
    have y:b=a:=t b (by rw[q];simp)
    subst y;rw[hK (by rw[q];simp)]at e;cases e)
  have c:Mod K mg (kE Z.heap H):=⟨O,U J,⟨E,U X,B⟩,let ⟨mc,h1,h2⟩:=R;⟨mc,U h1,h2⟩⟩;have e0:aD P w K mg (kE Z.heap H) x_ [] Z H:=⟨rfl,c,fun b o e=>xb e,Ls (qO _ _),trivial,fun b X=>absurd (show b∈([]:List b')from X) (by simp),L,.of_eq hg⟩
  refine MJ ((F _ O (U J)).run x_ [] Z H ⟨[.ref a],[]⟩ [.ref a] [.ref a] _ _ hr e0 (T Z (.ref a)) (.cons rfl .nil) (C H i hS)) fun r s' h=>?_;cases r with
  |error e=>exact(G H e s' h).elim
  | ok fl=>
   cases fl with
   |next=>exact kS h
   |brk=>exact kS h
   |cont=>exact kS h
   | ret u=>
    obtain⟨v,H',os,bare,un,N,r',q⟩:=h;have q':v= .bl true:=q;subst q';obtain rfl:u=v' true:=r';refine⟨rfl,OldK.of_keep fun b o e=>?_,os,bare⟩;cases q:H b with
    |none=>exact un.keep b o e q (by intro z;exact absurd (show b∈([]:List b')from z) (by simp)) (by simp)
    | some u=>
     rcases i b with z|⟨ob,xs,z⟩
     ·rw[q]at z;cases z
     ·have z2:=un.frzs b ob _ z;obtain⟨e1,_⟩:=L b _ z;obtain⟨e2,_⟩:=N b _ z2;rw[e]at e1;cases e1;exact e2
 cases hk:K.lookup a with
 |some o=>
  have e:=l a o hk;rw[I]at e;cases e;refine core (fun _=>none) (fun _=>.inl rfl) (.inr ⟨_,vs.toArray,_,hk,rfl,rfl,rfl,by rw[J8,S];exact f,by simpa using g⟩) (fun b u z=>by have Q:(none:Option HO)=ar u:=z;cases Q) (fun b z=>absurd rfl z) fun z=>absurd rfl z
 | none=>
  refine core (fun b=>if b=a then ar (.frz {cls:=.type "list",data:=.seq vs.toArray} (.lst (ns.map V.int)))else none) (fun b=>?_) (.inl (.inr ⟨{cls:=.type "list",data:=.seq vs.toArray},if_pos rfl⟩)) (fun b u z=>?_) (fun b z=>?_) fun _=>hk
  ·by_cases X:b=a
   ·exact .inr ⟨_,_,if_pos X⟩
   ·exact .inl (if_neg X)
  ·by_cases X:b=a
   ·have Q:=(if_pos X).symm.trans z;cases Q;subst X;exact⟨I,by rw[JV];exact f,vs,_,g,I⟩
   ·have Q:=(if_neg X).symm.trans z;cases Q
  ·by_cases X:b=a
   ·exact X
   ·exact absurd (if_neg X) z
end L2
namespace L2
open PySem PySem.Spec PyProof.Rows
abbrev JT{K:dt}{h:f_}(_:K.In h):W.Frag:=K
theorem HM{l:Ou}{YP:ee->f_->Prop}{d:OE}{K:M_->dt}{J:ee->zP}{sp:ee->Sp}
  (z:l.most=ar n) (P:n<=sizeLine) (Q:d.params.defaults=[]) (I:Room k x_)
  (E:∀(w:ee) (h:f_),YP w h->(K w.params).In h)
  (F:∀(w:ee) (Z:Str->Option a_) (S:b') (h:f_),(K w.params).In h->h.Ns g_ Z->Z d.name=ar (.ref S)->
   ∃fd:eM,(∀(s:c_) (u:a_),G_ s fd ⟨[u],[]⟩ [(x,u)])/\
    ∀base:f_,(K w.params).In base->base.Ns g_ Z->FnOk l.prog w (K w.params) Z base (J w) k S fd [x] (sp w))
  (O:∀(w:ee) (H:Hp) (a:b') (ns:List Int),ns.length<=n->EV H->jH (K w.params) H a (ns.map V.int)->sp w [.ref a] H (fun v _=>v= .bl b_) fun _ _ _=>False)
  (R:∀(w:ee) (H:Hp) (s:c_) (e:a_) (s':c_),J w [] H s (fun _ _ _=>False) e s'->False):
  OL q loose XP YP l.row.toRowW d [] (fun f vs=>PySem.call f vs):=by
 refine Att.attach_call z Q fun w s₀ X Z m S o pm cd doc a vs ns G Y p hd B N U hints hlen C=>?_;have L:=E w _ Y;obtain⟨fd,A,t⟩:=F w Z S _ L G.T.g N;exact Ai L G.T.g G.T.b G.T.builtins G.T.nolimit C U hints (J4 hlen P) I t A (fun H y r=>O w H a ns hlen y r) fun H e s'=>R w H X e s'
end L2
namespace L2
open PySem PySem.Spec PyProof.Rows
def iB(s:p7):Arguments:=match s with
 | .FunctionDef _ a _ _ _ _ _ _ _ _=>a
 |_=>{posonlyargs:=[],args:=[],vararg:=none,kwonlyargs:=[],kw_defaults:=[],kwarg:=none,defaults:=[]}
def dP(s:p7):List Stmt:=match s with
 | .FunctionDef _ _ b _ _ _ _ _ _ _=>b
 |_=>[]
def ai(s:p7):Scope:=match s with
 | .FunctionDef _ _ _ _ _ _ sc _ _ _=>sc
 |_=>{kind:=.function,names:=[],isGenerator:=dV,isCoroutine:=dV}
abbrev JL:zP:=fun _ _ _ _ _ _=>False
abbrev E0:XK:=fun _ _ _=>False
structure Fun(K:dt)(x qual:Str)(st:p7)(f:b')(fd:eM):Prop where
 ex:∃(oc:a_) (od:Option b') (kV doc pm:a_) (an:Option b') (cdv ct:a_) (osl:Array (Option a_)),
  fd=B' x qual (iB st) (dP st) (ai st) .none kV doc pm an cdv ct/\K.lookup f=ar ⟨oc,od,.func fd,osl⟩/\NO K cdv qual=b_
 kp:y2 K (.ref f)=b_
section
variable {P:ed}{w:ee}{K:dt}{mg:Str->Option a_}{base:f_}
theorem Fun.binds{x qual:Str}{Y:p7}{f:b'}{U:eM}{X:List Str}(F:Fun K x qual Y f U)
  (h:∀(kV doc pm:a_) (an:Option b') (Z ct:a_) (us:List a_),us.length=X.length->bindArgs (B' x qual (iB Y) (dP Y) (ai Y) .none kV doc pm an Z ct) ⟨us,[]⟩=aC (X.zip us)):Binds K U X []:=by
 obtain⟨R,Q,kV,doc,pm,an,Z,ct,S,rfl,O,T⟩:=F.ex;exact .all (h kV doc pm an Z ct)
theorem EW{x qual:Str}{X:p7}{f:b'}{R:a_}{Q T:Option b'}{U:Array (Option a_)}{kV Y S Z ct:a_}(l:K.lookup f=ar ⟨R,Q,.func (B' x qual (iB X) (dP X) (ai X) .none kV Y S T Z ct),U⟩)
  (c:NO K Z qual=b_) (k:y2 K (.ref f)=b_):Fun K x qual X f (B' x qual (iB X) (dP X) (ai X) .none kV Y S T Z ct):=⟨⟨R,Q,kV,Y,S,T,Z,ct,U,rfl,l,c⟩,k⟩
end
section
variable {X:Cx}
theorem pv(i:Nat)(Y:X.N[i]? =ar x:=by rfl)(W:DT X.env.scope x:=by first|exact N4 rfl|exact Nr (N4 rfl)|exact Nr (Nr rfl))(U:(x==("__debug__":Str))=false:=by decide)
  (Z:(x==("__classdict__":Str))=false:=by decide):PE X (.Name x pos) (Gu i):=zW Y W U Z
end
end L2
end
namespace S3
open PySem PySem.W PyProof.Rows
def br{α:Type}(b:Nat->Nat->Bool):OF α->α
 | .ret a=>a
 | .ask i j k=>br b (k (b i j))
theorem gX{α Z:Type}(b:Nat->Nat->Bool)(f:α->OF Z):∀t:OF α,br b (t.bind f)=br b (f (br b t))
 | .ret _=>rfl
 | .ask i j k=>gX b f (k (b i j))
section
variable (r:Nat->Nat)
abbrev ef:Nat->Nat->Bool:=fun i j=>decide (r i<r j)
def ka(p:Array Nat)(k:Nat):Nat:=r (p.getD k 0)
def Aj(p:Array Nat)(n:Nat):Prop:=∀i j,i<=j->j<n->ka r p i<=ka r p j
def IM(p:Array Nat)(n:Nat):Prop:=∀i j,i<=j->j<n->ka r p j<=ka r p i
variable {r}
theorem ll{p q:Array Nat}{i j:Nat}(h:p[i]? =q[j]?):p.getD i 0=q.getD j 0:=by
 rw[K6,K6,h]
theorem rZ{p:Array Nat}{i j:Nat}(Z:j<=p.size)(k:Nat):ka r (t_ p i j) k=if i<=k/\k<j then ka r p (i+j - 1 - k)else ka r p k:=by
 have h:=getElem?_mirror_all (i:=i) Z k;unfold ka t_;by_cases c:i<=k/\k<j
 ·rw[if_pos c]at h⊢;rw[ll h]
 ·rw[if_neg c]at h⊢;rw[ll h]
theorem qV{p:Array Nat}{Z d:Nat}(hs:Z<p.size)(Y:d<=Z)(k:Nat):ka r (OG p Z d) k=if k=Z - d then ka r p Z else if Z - d<k/\k<=Z then ka r p (k - 1)else ka r p k:=by
 have h:=getElem?_bubble hs d Y k;unfold ka;by_cases c:k=Z - d
 ·rw[if_pos c]at h⊢;rw[ll h]
 ·rw[if_neg c]at h⊢;by_cases c2:Z - d<k/\k<=Z
  ·rw[if_pos c2]at h⊢;rw[ll h]
  ·rw[if_neg c2]at h⊢;rw[ll h]
theorem o8:(t_ p i j).size=p.size:=mirror_size _ _ _ _
theorem fy:(t_ p i j).Perm p:=mirror_perm _ _ _ _
theorem r0:∀(f n:Nat),1<=n->Aj r p n->n<=br (ef r) (q_ p f n)/\br (ef r) (q_ p f n)<=n+f/\Aj r p (br (ef r) (q_ p f n))
 |0,n,h1,h=>⟨JY _,JY _,h⟩
 | f +1,n,h1,h=>by
  show n<=br (ef r) (if (ef r) (p.getD n 0) (p.getD (n - 1) 0)=b_ then NR n else q_ p f (n+1))/\br (ef r) (if (ef r) (p.getD n 0) (p.getD (n - 1) 0)=b_ then NR n else q_ p f (n+1))<=n+(f+1)/\Aj r p (br (ef r) (if (ef r) (p.getD n 0) (p.getD (n - 1) 0)=b_ then NR n else q_ p f (n+1)));by_cases c:(ef r) (p.getD n 0) (p.getD (n - 1) 0)=b_
  ·rw[if_pos c];exact⟨JY _,by show n<=n+(f+1);omega,h⟩
  ·rw[if_neg c];have Y:ka r p (n - 1)<=ka r p n:=by
    exact Nb fun z=>c (J3 z)
   obtain⟨a1,a2,X⟩:=r0 f (n+1) (by omega) (fun i j Z W=>by
    by_cases e:j=n
    ·subst e;by_cases e2:i=j
     ·subst e2;exact JY _
     ·exact J4 (h i (j - 1) (by omega) (by omega)) Y
    ·exact h i j Z (by omega))
   exact⟨by omega,by omega,X⟩
structure Down(r:Nat->Nat)(p:Array Nat)(n q:Nat):Prop where
 dsc:IM r p n
 q1:q+1<=n
 eqs:∀k,n - (q+1)<=k->k<n->ka r p k=ka r p (n - 1)
theorem o9{p:Array Nat}(Z:n<=p.size)(h:Down r p n q):∀k,ka r (t_ p (n - (q+1)) n) k=ka r p k:=fun k=>by
 rw[rZ Z];split
 ·next c=>rw[h.eqs k c.1 c.2,h.eqs _ (by omega) (by omega)]
 ·rfl
theorem lp:∀(f:Nat) (p:Array Nat) (n q:Nat),n+f<=p.size->Down r p n q->
  Down r (br (ef r) (r_ f p n q)).1 (br (ef r) (r_ f p n q)).2.1 (br (ef r) (r_ f p n q)).2.2/\(br (ef r) (r_ f p n q)).1.Perm p/\n<=(br (ef r) (r_ f p n q)).2.1/\(br (ef r) (r_ f p n q)).2.1<=n+f
 |0,p,n,q,hs,h=>⟨h,Ma _,JY _,JY _⟩
 | f +1,p,n,q,hs,h=>by
  have e:br (ef r) (r_ (f+1) p n q)=if ka r p n<ka r p (n - 1)then (if q>0 then br (ef r) (r_ f (t_ p (n - (q+1)) n) (n+1) 0)else br (ef r) (r_ f p (n+1) 0))
    else if ka r p (n - 1)<ka r p n then (p,n,q)else br (ef r) (r_ f p (n+1) (q+1)):=by
   show br (ef r) (if (ef r) (p.getD n 0) (p.getD (n - 1) 0)=b_ then _ else _)=_;unfold ka;by_cases c:r (p.getD n 0)<r (p.getD (n - 1) 0)
   ·rw[if_pos (by simpa using c),if_pos c]
    split<;>rfl
   ·rw[if_neg (by simpa using c),if_neg c]
    show br (ef r) (if (ef r) (p.getD (n - 1) 0) (p.getD n 0)=b_ then _ else _)=_;by_cases c2:r (p.getD (n - 1) 0)<r (p.getD n 0)
    ·rw[if_pos (by simpa using c2),if_pos c2];rfl
    ·rw[if_neg (by simpa using c2),if_neg c2]
  have S:=h.q1;have ext:∀{p':Array Nat} {q':Nat},(∀k,ka r p' k=ka r p k)->ka r p n<=ka r p (n - 1)->(q'=0\/(q'=q+1/\ka r p n=ka r p (n - 1)))->Down r p' (n+1) q':=fun{p' q'} hk hle hq=>by
   refine⟨fun i j Z U=>?_,by omega,fun k W T=>?_⟩
   ·rw[hk,hk];by_cases ej:j=n
    ·subst ej;by_cases e2:i=j
     ·subst e2;exact JY _
     ·exact J4 hle (h.dsc i (j - 1) (by omega) (by omega))
    ·exact h.dsc i j Z (by omega)
   ·rw[hk,hk,show n+1 - 1=n by omega]
    rcases hq with rfl|⟨rfl,he⟩
    ·have:k=n:=by omega
     subst this;rfl
    ·by_cases ek:k=n
     ·subst ek;rfl
     ·rw[he];exact h.eqs k (by omega) (by omega)
  rw[e];by_cases c:ka r p n<ka r p (n - 1)
  ·rw[if_pos c];by_cases hq:q>0
   ·rw[if_pos hq];obtain⟨a1,a2,X,Y⟩:=lp f (t_ p (n - (q+1)) n) (n+1) 0 (by rw[o8];omega) (ext (o9 (by omega) h) (by omega) (.inl rfl))
    exact⟨a1,a2.trans fy,by omega,by omega⟩
   ·rw[if_neg hq];obtain⟨a1,a2,X,Y⟩:=lp f p (n+1) 0 (by omega) (ext (fun _=>rfl) (by omega) (.inl rfl))
    exact⟨a1,a2,by omega,by omega⟩
  ·rw[if_neg c];by_cases c2:ka r p (n - 1)<ka r p n
   ·rw[if_pos c2];exact⟨h,Ma _,JY _,by show n<=n+(f+1);omega⟩
   ·rw[if_neg c2];obtain⟨a1,a2,X,Y⟩:=lp f p (n+1) (q+1) (by omega) (ext (fun _=>rfl) (by omega) (.inr ⟨rfl,by omega⟩))
    exact⟨a1,a2,by omega,by omega⟩
structure Got(r:Nat->Nat)(nrem:Nat)(p:Array Nat)(g:Nat×Array Nat):Prop where
 asc:Aj r g.2 g.1
 le:g.1<=nrem
 pos:1<=g.1
 perm:g.2.Perm p
theorem qW{p:Array Nat}(Z:1<=n)(T:n<=nrem)(hs:nrem<=p.size)(h:IM r p n):Got r nrem p (br (ef r) (Ov n nrem p)):=by
 unfold Ov;rw[gX];have Y:Aj r (t_ p 0 n) n:=fun i j X U=>by
  rw[rZ (by omega),rZ (by omega),if_pos ⟨by omega,by omega⟩,if_pos ⟨by omega,by omega⟩]
  exact h _ _ (by omega) (by omega)
 obtain⟨a1,a2,W⟩:=r0 (p:=t_ p 0 n) (nrem - n) n Z Y;exact⟨W,by show br (ef r) (q_ (t_ p 0 n) (nrem - n) n)<=nrem;omega,by show 1<=br (ef r) (q_ (t_ p 0 n) (nrem - n) n);omega,fy⟩
theorem lq{p:Array Nat}(Q:n<nrem)(hs:nrem<=p.size)(h:Down r p (n+1) 0):Got r nrem p (br (ef r) (NS n nrem p)):=by
 unfold NS;rw[gX];obtain⟨a1,a2,S,T⟩:=lp (nrem - (n+1)) p (n+1) 0 (by omega) h
 generalize br (ef r) (r_ (nrem - (n+1)) p (n+1) 0)=d at a1 a2 S T;obtain⟨X,Z,W⟩:=d;dsimp only at a1 a2 S T;have Y:X.size=p.size:=a2.size_eq;by_cases hq:W>0
 ·show Got r nrem p (br (ef r) (if W>0 then _ else _));rw[if_pos hq];have hd:IM r (t_ X (Z - (W+1)) Z) Z:=fun i j U R=>by
   rw[o9 (show Z<=X.size by omega) a1,o9 (show Z<=X.size by omega) a1]
   exact a1.dsc i j U R
  have:=qW (n:=Z) (nrem:=nrem) (by omega) (by omega) (by rw[o8,Y];exact hs) hd
  exact⟨this.asc,this.le,this.pos,(this.perm.trans fy).trans a2⟩
 ·show Got r nrem p (br (ef r) (if W>0 then _ else _));rw[if_neg hq];have:=qW (n:=Z) (nrem:=nrem) (by omega) (by omega) (by rw[Y];exact hs) a1.dsc
  exact⟨this.asc,this.le,this.pos,this.perm.trans a2⟩
theorem yE{p:Array Nat}(O:2<=nrem)(hs:nrem<=p.size):Got r nrem p (br (ef r) (N5 nrem p)):=by
 unfold N5;rw[gX];obtain⟨a1,a2,X⟩:=r0 (r:=r) (p:=p) (nrem - 1) 1 (JY _) (fun i j Y U=>by
  have:i=j:=by omega
  subst this;exact JY _)
 have stop:∀(f n:Nat),1<=n->br (ef r) (q_ p f n)<n+f->ka r p (br (ef r) (q_ p f n))<ka r p (br (ef r) (q_ p f n) - 1):=by
  intro f
  induction f with
  |zero=>intro n _ h;exact absurd h (K4 _)
  | succ f ih=>
   intro n W h;have e:br (ef r) (q_ p (f+1) n)=if ka r p n<ka r p (n - 1)then n else br (ef r) (q_ p f (n+1)):=by
    show br (ef r) (if (ef r) (p.getD n 0) (p.getD (n - 1) 0)=b_ then _ else _)=_;unfold ka;by_cases c:r (p.getD n 0)<r (p.getD (n - 1) 0)
    ·rw[if_pos (J3 c),if_pos c];rfl
    ·rw[if_neg (fun z=>c (Kw z)),if_neg c]
   rw[e]at h⊢;by_cases c:ka r p n<ka r p (n - 1)
   ·rw[if_pos c];exact c
   ·rw[if_neg c]at h⊢;exact ih (n+1) (by omega) (by omega)
 have Z:=stop (nrem - 1) 1 (JY _);generalize br (ef r) (q_ p (nrem - 1) 1)=n at a1 a2 X Z;by_cases hn:n=nrem
 ·show Got r nrem p (br (ef r) (if (n==nrem)=b_ then _ else _));rw[if_pos (by simp[hn])]
  exact⟨X,by show n<=nrem;omega,a1,Ma _⟩
 ·show Got r nrem p (br (ef r) (if (n==nrem)=b_ then _ else _));rw[if_neg (by simp[hn])]
  have Q:=Z (by omega)
  by_cases W:n>1
  ·rw [if_pos W];show Got r nrem p (br (ef r) (if (ef r) (p.getD 0 0) (p.getD (n - 1) 0)=b_ then _ else _));by_cases c:r (p.getD 0 0)<r (p.getD (n - 1) 0)
   ·rw[if_pos (J3 c)];exact⟨X,by show n<=nrem;omega,a1,Ma _⟩
   ·rw [if_neg (fun z=>c (Kw z))];have all:∀k,k<n->ka r p k=ka r p (n - 1):=fun k P=>by
     have S:=X 0 k (by omega) P
     have R:=X k (n - 1) (by omega) (by omega)
     have N:ka r p (n - 1)<=ka r p 0:=Nb c;omega
    have T:∀k,ka r (t_ p 0 n) k=ka r p k:=fun k=>by
     rw[rZ (by omega)]
     split
     ·next h=>rw[all k h.2,all _ (by omega)]
     ·rfl
    have:=lq (r:=r) (n:=n) (nrem:=nrem) (p:=t_ p 0 n) (by omega) (by rw[o8];exact hs) ⟨fun i j Y U=>by
      rw[T,T];by_cases ej:j=n
      ·subst ej;by_cases ei:i=j
       ·subst ei;exact JY _
       ·rw[all i (by omega)];omega
      ·rw[all i (by omega),all j (by omega)];exact JY _,by omega,fun k S R=>by rw[show k=n+1 - 1 by omega]⟩
    exact⟨this.asc,this.le,this.pos,this.perm.trans fy⟩
  ·rw [if_neg W];have e1:n=1:=by omega
   subst e1;exact lq (by omega) hs ⟨fun i j Y U=>by
     by_cases ej:j=1
     ·subst ej;by_cases ei:i=1
      ·subst ei;exact JY _
      ·rw[show i=1 - 1 by omega];omega
     ·rw[show i=j by omega];exact JY _,by omega,fun k S R=>by rw[show k=1+1 - 1 by omega]⟩
theorem mI(Z:Aj r p k):∀(f l m:Nat),m - l<=f->l<=m->m<=k->(∀i,i<l->ka r p i<=ka r p k)->(∀i,m<=i->i<k->ka r p k<=ka r p i)->
  br (ef r) (qq p k f l m)<=k/\(∀i,i<br (ef r) (qq p k f l m)->ka r p i<=ka r p k)/\∀i,br (ef r) (qq p k f l m)<=i->i<k->ka r p k<=ka r p i
 |0,l,m,hf,hl,hm,h1,h2=>by
  have:l=m:=by omega
  subst this;exact⟨by show l<=k;omega,h1,h2⟩
 | f+1,l,m,hf,hl,hm,h1,h2=>by
  by_cases c:l ≥ m
  ·have e:br (ef r) (qq p k (f+1) l m)=l:=by
    show br (ef r) (if l ≥ m then _ else _)=l;rw[if_pos c];rfl
   rw[e];have:l=m:=by omega
   subst this;exact⟨by omega,h1,h2⟩
  ·have e:br (ef r) (qq p k (f+1) l m)=if ka r p k<ka r p ((l+m) / 2)then br (ef r) (qq p k f l ((l+m) / 2))else br (ef r) (qq p k f ((l+m) / 2+1) m):=by
    show br (ef r) (if l ≥ m then _ else _)=_;rw[if_neg c];show br (ef r) (if (ef r) (p.getD k 0) (p.getD ((l+m) / 2) 0)=b_ then _ else _)=_;unfold ka;by_cases d:r (p.getD k 0)<r (p.getD ((l+m) / 2) 0)
    ·rw[if_pos (J3 d),if_pos d]
    ·rw[if_neg (fun z=>d (Kw z)),if_neg d]
   rw[e];by_cases d:ka r p k<ka r p ((l+m) / 2)
   ·rw[if_pos d];exact mI Z f l ((l+m) / 2) (by omega) (by omega) (by omega) h1 fun i Y X=>J4 (L5 d) (Z _ i Y X)
   ·rw[if_neg d];exact mI Z f ((l+m) / 2+1) m (by omega) (by omega) hm (fun i Y=>J4 (Z i ((l+m) / 2) (by omega) (by omega)) (by omega)) h2
theorem xn:∀(f:Nat) (p:Array Nat) (k:Nat),k+f<=p.size->Aj r p k->Aj r (br (ef r) (NB f p k)) (k+f)/\(br (ef r) (NB f p k)).Perm p
 |0,p,k,hs,h=>⟨h,Ma _⟩
 | f +1,p,k,hs,h=>by
  have e:br (ef r) (NB (f+1) p k)=br (ef r) (NB f (OG p k (k - br (ef r) (qq p k k 0 k))) (k+1)):=by
   show br (ef r) ((qq p k k 0 k).bind _)=_;rw[gX]
  rw[e];obtain⟨T,U,X⟩:=mI (r:=r) h k 0 k (by omega) (by omega) (JY _) (fun i W=>absurd W (Nat.not_lt_zero _)) (fun i W S=>absurd S (by omega))
  generalize br (ef r) (qq p k k 0 k)=l at T U X;have Q:Aj r (OG p k (k - l)) (k+1):=fun i j Z O=>by
   rw[qV (by omega) (by omega),qV (by omega) (by omega)]
   have Y:k - (k - l)=l:=by omega
   rw[Y];by_cases ei:i=l
   ·rw[if_pos ei];by_cases ej:j=l
    ·rw[if_pos ej];exact JY _
    ·rw[if_neg ej,if_pos ⟨by omega,by omega⟩];exact X (j - 1) (by omega) (by omega)
   ·rw[if_neg ei];by_cases ci:l<i/\i<=k
    ·rw[if_pos ci,if_neg (by omega),if_pos ⟨by omega,by omega⟩];exact h _ _ (by omega) (by omega)
    ·rw[if_neg ci];by_cases ej:j=l
     ·rw[if_pos ej];exact U i (by omega)
     ·rw[if_neg ej];by_cases cj:l<j/\j<=k
      ·rw[if_pos cj];exact h _ _ (by omega) (by omega)
      ·rw[if_neg cj];exact h _ _ Z (by omega)
  obtain⟨R,P⟩:=xn f (OG p k (k - l)) (k+1) (by rw[bubble_size];omega) Q
  refine⟨?_,P.trans (bubble_perm _ _ _)⟩;rw[show k+(f+1)=k+1+f by omega];exact R
theorem Ak(W:2<=n):Aj r (br (ef r) (u' n)) n/\(br (ef r) (u' n)).Perm (A_ (d_ n)):=by
 unfold u';rw[gX];have G:=yE (r:=r) (nrem:=n) (p:=A_ (d_ n)) W (by simp)
 generalize br (ef r) (N5 n (A_ (d_ n)))=g at G;obtain⟨m,p⟩:=g;have X:p.size=n:=by rw[G.perm.size_eq];simp
 have hle:m<=n:=G.le;have Y:1<=m:=G.pos;show Aj r (br (ef r) (if m<n then NB (n - max m 1) p (max m 1)else NR p)) n/\Array.Perm (br (ef r) (if m<n then NB (n - max m 1) p (max m 1)else NR p)) (A_ (d_ n));by_cases c:m<n
 ·rw[if_pos c];have em:max m 1=m:=by omega
  rw[em];obtain⟨Z,U⟩:=xn (r:=r) (n - m) p m (by omega) G.asc
  refine⟨?_,U.trans G.perm⟩;rw[show m+(n - m)=n by omega]at Z;exact Z
 ·rw[if_neg c];have em:m=n:=by omega
  subst em;exact⟨G.asc,G.perm⟩
end
def vm(n:Nat){α:Type}(R:α->Prop):OF α->Prop
 | .ret a=>R a
 | .ask i j k=>i<n/\j<n/\∀b,vm n R (k b)
theorem i5{n:Nat}{α Y:Type}{R:α->Prop}{Z:Y->Prop}{f:α->OF Y}:∀{t:OF α},vm n R t->(∀a,R a->vm n Z (f a))->vm n Z (t.bind f)
 | .ret a,h,k=>k a h
 | .ask i j g,h,k=>⟨h.1,h.2.1,fun b=>i5 (h.2.2 b) k⟩
theorem Al{n:Nat}{α:Type}{R:α->Prop}{Z:Nat->Nat->(Bool->c_->Prop)->c_->Prop}{b:Nat->Nat->Bool}{s:c_}{Q:α->c_->Prop}(h:∀i j C,i<n->j<n->C (b i j) s->Z i j C s):
  ∀{t:OF α},vm n R t->Q (br b t) s->t.kasWp Z Q s
 | .ret a,_,q=>q
 | .ask i j k,o,q=>h i j _ o.1 o.2.1 (Al h (o.2.2 (b i j)) q)
theorem pf{n:Nat}{α:Type}{R:α->Prop}{b Z:Nat->Nat->Bool}(h:∀i j,i<n->j<n->b i j=Z i j):∀{t:OF α},vm n R t->br b t=br Z t
 | .ret a,_=>rfl
 | .ask i j k,o=>by
  show br b (k (b i j))=br Z (k (Z i j));rw[h i j o.1 o.2.1];exact pf h (o.2.2 _)
def In(n:Nat)(p:Array Nat):Prop:=0<n/\∀x∈p.toList,x<n
theorem In.get(h:In n p)(k:Nat):p.getD k 0<n:=by
 rw[K6];cases e:p[k]? with
 |none=>exact h.1
 |some x=>exact h.2 x (by rw[<-Lr]at e;exact Ky e)
theorem In.perm{q:Array Nat}(h:In n p)(e:q.Perm p):In n q:=⟨h.1,fun x Z=>h.2 x ((Array.Perm.toList e).mem_iff.mp Z)⟩
theorem sd(h:In n p):∀(f m:Nat),vm n (fun _=>True) (q_ p f m)
 |0,m=>trivial
 | f+1,m=>⟨h.get _,h.get _,fun b=>by
   cases b with
   |true=>exact trivial
   |false=>exact sd h f (m+1)⟩
theorem lr:∀(f:Nat) (p:Array Nat) (m q:Nat),In n p->vm n (fun r=>In n r.1) (r_ f p m q)
 |0,p,m,q,h=>h
 | f+1,p,m,q,h=>⟨h.get _,h.get _,fun b=>by
   cases b with
   |true=>
    show vm n _ (if q>0 then _ else _);split
    ·exact lr f _ _ _ (h.perm fy)
    ·exact lr f _ _ _ h
   |false=>
    refine⟨h.get _,h.get _,fun b=>?_⟩;cases b with
    |true=>exact h
    |false=>exact lr f _ _ _ h⟩
theorem qX(h:In n p):vm n (fun r:Nat×Array Nat=>In n r.2) (Ov m nrem p):=
 i5 (sd (h.perm fy) _ _) fun _ _=>h.perm fy
theorem lu(h:In n p):vm n (fun r:Nat×Array Nat=>In n r.2) (NS m nrem p):=
 i5 (lr _ _ _ _ h) fun a Z=>by
  split
  ·exact qX (Z.perm fy)
  ·exact qX Z
theorem yF(h:In n p):vm n (fun r:Nat×Array Nat=>In n r.2) (N5 nrem p):=
 i5 (sd h _ _) fun a _=>by
  split
  ·exact h
  ·split
   ·refine⟨h.get _,h.get _,fun b=>?_⟩;cases b with
    |true=>exact h
    |false=>exact lu (h.perm fy)
   ·exact lu h
theorem mJ(h:In n p):∀(f l m:Nat),vm n (fun _=>True) (qq p k f l m)
 |0,l,m=>trivial
 | f+1,l,m=>by
  show vm n _ (if l ≥ m then _ else _);split
  ·exact trivial
  ·refine⟨h.get _,h.get _,fun b=>?_⟩;cases b with
   |true=>exact mJ h f _ _
   |false=>exact mJ h f _ _
theorem xo:∀(f:Nat) (p:Array Nat) (k:Nat),In n p->vm n (In n) (NB f p k)
 |0,p,k,h=>h
 |f+1,p,k,h=>i5 (mJ h _ _ _) fun l _=>xo f _ _ (h.perm (bubble_perm _ _ _))
theorem tR(Y:0<n):vm n (In n) (u' n):=
 i5 (yF ⟨Y,fun x X=>by simpa using X⟩) fun a Z=>by
  split
  ·exact xo _ _ _ Z
  ·exact Z
theorem tS{α:Type}{p q:α->Bool}:∀{l:List α} {x:α},(∀y∈l,p y=b_->q y=b_)->x∈l->p x=dV->q x=b_->l.countP p<l.countP q
 | y::l,x,h,hx,hp,hq=>by
  have X:l.countP p<=l.countP q:=Mo fun z Z=>h z (J7 _ Z);rw[K7,K7];rcases Km.mp hx with e|hx'
  ·subst e;rw[hp,hq];simp;omega
  ·have W:=tS (fun z Z=>h z (J7 _ Z)) hx' hp hq;have Y:=h y Kj;cases e1:p y with
   |true=>rw[Y e1];simp;omega
   |false=>simp;split<;>omega
theorem CM{b:Nat->Nat->Bool}(O:2<=n)(U:∀i,i<n->b i i=dV)(N:∀i j k,i<n->j<n->k<n->b i j=b_->b j k=b_->b i k=b_)(T:∀i j k,i<n->j<n->k<n->b i k=b_->b i j=b_\/b j k=b_):
  (br b (u' n)).Perm (A_ (d_ n))/\∀i j,i<=j->j<n->b ((br b (u' n)).getD j 0) ((br b (u' n)).getD i 0)=false:=by
 let r:Nat->Nat:=fun i=>(d_ n).countP fun j=>b j i;have R:∀i j,i<n->j<n->b i j=decide (r i<r j):=fun i j X Y=>by
  cases e:b i j with
  |true=>
   refine(J3 ?_).symm;exact tS (x:=i) (fun y S h=>N y i j (Ka.mp S) X Y h e) (Ka.mpr X) (U i X) e
  |false=>
   refine(Kg (Ol.mpr ?_)).symm;refine Mo fun y S h=>?_;rcases T y i j (Ka.mp S) X Y h with z|z
   ·exact z
   ·rw[e]at z;cases z
 have Q:br b (u' n)=br (ef r) (u' n):=pf R (tR (by omega))
 obtain⟨a1,a2⟩:=Ak (r:=r) O;rw[Q];refine⟨a2,fun i j W Y=>?_⟩;have Z:In n (br (ef r) (u' n)):=In.perm ⟨by omega,fun x P=>by simpa using P⟩ a2
 rw[R _ _ (Z.get j) (Z.get i)];exact Kg (Ol.mpr (a1 i j W Y))
end S3
namespace S3
open PySem PySem.Spec PySem.W PyProof.Rows L2
section
variable {prog:ed}{w:ee}{A:hF}{E:a_->c_->Prop}{s:c_}{Q:Bool->c_->Prop}
theorem tT:∀{us ws:List a_} {ns ms:List Int} (i:Nat),nf us ns->nf ws ms->Q (HT.lexLt ns ms) s->
  KatLex prog w A b (decide (us.length<ws.length)) Q (us.zip ws) i s
 |[],[],ns,ms,i,h1,h2,q=>by
  cases h1;cases h2;exact q
 |[],_::_,_,_,_,h1,h2,q=>by
  cases h1;cases h2;exact q
 |_::_,[],_,_,_,h1,h2,q=>by
  cases h1;cases h2;exact q
 | u::us,v::ws,ns,ms,i,h1,h2,q=>by
  cases h1 with
  |cons n t h1=>
  cases h2 with
  | cons k t' h2=>
   rw[HT.lexLt_cons]at q;by_cases e:n=k
   ·rw[if_pos e]at q;refine kat_cons (M9 ?_);have:(n==k)=true:=by simp[e]
    rw[this];refine kat_yes ?_;show KatLex prog w A b (decide (us.length+1<ws.length+1)) Q (us.zip ws) (i+1) s;rw[show decide (us.length+1<ws.length+1)=decide (us.length<ws.length) by simp]
    exact tT (i+1) h1 h2 q
   ·rw[if_neg e]at q;refine kat_cons (M9 ?_);have:(n==k)=false:=by simp[e]
    rw[this];refine kat_no ?_;cases hbi:(b && i==0)with
    |true=>exact oneLt_int q
    |false=>exact kat_one _ _ (lt_int q)
end
structure Tups(h:f_)(vs:List a_)(nss:List (List Int)):Prop where
 len:vs.length=nss.length
 get:∀(i:Nat),i<vs.length->∃a o us n,vs.getD i j_= .ref a/\h.get? a=ar o/\o.cls= .type "tuple"/\o.data= .seq us n/\nf us.toList (nss.getD i [])/\0<us.size
theorem Tups.keep{h':f_}(t:Tups h vs nss)(k:∀i a o,i<vs.length->vs.getD i j_= .ref a->h.get? a=ar o->h'.get? a=ar o):Tups h' vs nss:=
 ⟨t.len,fun i Z=>let ⟨a,o,us,n,e1,e2,r⟩:=t.get i Z;⟨a,o,us,n,e1,k i a o Z e1 e2,r⟩⟩
theorem Tups.ask{s:c_}(t:Tups s.heap vs nss){C:Bool->c_->Prop}(T:i<vs.length)(Y:j<vs.length)
  (q:C (HT.lexLt (nss.getD i []) (nss.getD j [])) s):kas_ask prog w A (tuples' b) vs i j C s:=by
 obtain⟨a,o,us,n,e1,e2,N,U,X,L⟩:=t.get i T;obtain⟨S,P,Z,R,f1,f2,Q,f4,W,O⟩:=t.get j Y;unfold kas_ask;rw[e1,f1];refine kat_lt e2 U f2 f4 ?_;have z:=tT (prog:=prog) (w:=w) (A:=A) (b:=b) 0 X W q;simpa using z
end S3
namespace S3
open PySem PySem.Spec PyProof.Rows L2
abbrev St:=L2.St
def lz(cells:List (Str×b')):List (Str×mh)->List (Str×b')->List (Str×b')
 |[],cs=>cs
 |(n,k)::r,cs=>lz cells r (if k== .free then (n,(cells.lookup n).getD 0)::cs else cs)
theorem lA(scope:Scope)(env:Env)(h:∀y∈scope.names,y.2= .free->∃c,env.cells.lookup y.1=ar c):closureFor scope env=aC (lz env.cells scope.names []):=by
 have go:∀(names:List (Str×mh)) (cs:List (Str×b')),(∀y∈names,y.2= .free->∃c,env.cells.lookup y.1=ar c)->
   (OM names cs (fun(x:Str×mh) (r:List (Str×b'))=>(if (x.2==hD)=b_ then do let a<-cellOf env x.1;aC (y' ((x.1,a)::r))else aC (y' r):Sem (ForInStep (List (Str×b'))))):Sem (List (Str×b')))=aC (lz env.cells names cs):=by
  intro names
  induction names with
  |nil=>intro cs _;rfl
  | cons y r ih=>
   intro cs W;obtain⟨n,k⟩:=y;have X:∀y∈r,y.2= .free->∃c,env.cells.lookup y.1=ar c:=fun y hm=>W y (J7 _ hm);rw[MX];by_cases hk:(k==hD)=b_
   ·have Y:k= .free:=by simpa using hk
    obtain⟨c,U⟩:=W (n,k) Kj Y;have e:cellOf env n=aC c:=by unfold cellOf;rw[U]
    simp only[hk,if_true,e,pure_bind];rw[ih _ X];simp only[lz,hk,if_true,U,Option.getD_some]
   ·have Z:(k==hD)=false:=by simpa using hk
    simp only[Z,kl,if_false,pure_bind];rw[ih _ X];simp only[lz,Z,kl,if_false]
 have:=go scope.names [] h;unfold closureFor;simp only[bind_pure]at*;exact this
theorem xp{cells:List (Str×b')}:∀(names:List (Str×mh)) (cs:List (Str×b')),(∀y∈names,y.2= .free->∃c,cells.lookup y.1=ar c)->(∀p∈cs,cells.lookup p.1=ar p.2)->
  ∀p∈lz cells names cs,cells.lookup p.1=ar p.2
 |[],cs,_,h=>h
 | (n,k)::r,cs,hy,h=>by
  refine xp r _ (fun y hm=>hy y (J7 _ hm)) fun p Z=>?_;by_cases hk:(k==hD)=b_
  ·rw[if_pos hk]at Z;rcases Km.mp Z with rfl|Z
   ·obtain⟨c,X⟩:=hy (n,k) Kj (by simpa using hk)
    show cells.lookup n=ar ((cells.lookup n).getD 0);have Y:cells.lookup n=ar c:=X;rw[Y];rfl
   ·exact h p Z
  ·rw[if_neg hk]at Z;exact h p Z
theorem ph:∀(names:List (Str×mh)) (cs:List (Str×b')),(x,hD)∈names\/x∈cs.map (·.1)->x∈(lz cells names cs).map (·.1)
 |[],cs,h=>by
  rcases h with h|h
  ·cases h
  ·exact h
 | (n,k)::r,cs,h=>by
  refine ph r _ ?_;rcases h with h|h
  ·rcases Km.mp h with e|h
   ·cases e;refine .inr ?_;simp
   ·exact .inl h
  ·refine .inr ?_;by_cases hk:(k==hD)=b_
   ·rw[if_pos hk];exact J7 _ h
   ·rw[if_neg hk];exact h
theorem lookup_mem:∀{l:List (Str×b')},l.lookup x=ar c->(x,c)∈l
 |[],h=>by cases h
 | (n,a)::r,h=>by
  by_cases e:x==n
  ·have Z:x=n:=by simpa using e
   rw[Kt,e]at h;have h':ar a=ar c:=h;cases h';subst Z;exact Kj
  ·have e2:(x==n)=false:=by simpa using e
   rw[Kt,e2]at h;exact J7 _ (lookup_mem h)
theorem mem_lookup:∀{l:List (Str×b')},x∈l.map (·.1)->∃c,l.lookup x=ar c
 |[],h=>by cases h
 | (n,a)::r,h=>by
  by_cases e:x==n
  ·exact⟨a,by rw[Kt,e]⟩
  ·have e2:(x==n)=false:=by simpa using e
   rw[Kt,e2];refine mem_lookup ?_;rcases Km.mp h with z|z
   ·have Z:x=n:=z;subst Z;simp at e
   ·exact z
theorem dj:∀{l:List (Str×mh)},l.lookup x=ar k->(x,k)∈l
 |[],h=>by cases h
 | (n,a)::r,h=>by
  by_cases e:x==n
  ·have Z:x=n:=by simpa using e
   rw[Kt,e]at h;have h':ar a=ar k:=h;cases h';subst Z;exact Kj
  ·have e2:(x==n)=false:=by simpa using e
   rw[Kt,e2]at h;exact J7 _ (dj h)
theorem jd{env:Env}:∀{names:List (Str×mh)} {k:mh},
  (names.map fun(n,k)=>if (k==hD && env.scope.kind== .function && env.kindOf n==ar .cell)then (n,pz)else (n,k)).lookup x=ar k->
   names.lookup x=ar k\/(k= .cell/\names.lookup x=ar .free)
 |[],k,h=>by cases h
 | (n,a)::r,k,h=>by
  by_cases e:x==n
  ·rw[Kr]at h;by_cases c:(a==hD && env.scope.kind== .function && env.kindOf n==ar .cell)=b_
   ·have Y:a= .free:=by
     simp only[i',beq_iff_eq]at c;exact c.1.1
    simp only[c,if_true,k_,e]at h;cases h;refine .inr ⟨rfl,?_⟩;rw[Kt,e,Y]
   ·have Z:(a==hD && env.scope.kind== .function && env.kindOf n==ar .cell)=false:=by simpa using c
    simp only[Z,kl,if_false,k_,e]at h;refine .inl ?_;rw[Kt,e];exact h
  ·have e2:(x==n)=false:=by simpa using e
   rw[Kt,e2];refine jd (env:=env) (names:=r) ?_;rw[Kr]at h;by_cases c:(a==hD && env.scope.kind== .function && env.kindOf n==ar .cell)=b_
   ·simp only[c,if_true,k_,e2]at h;exact h
   ·have Z:(a==hD && env.scope.kind== .function && env.kindOf n==ar .cell)=false:=by simpa using c
    simp only[Z,kl,if_false,k_,e2]at h;exact h
theorem lB{env:Env}:∀{names:List (Str×mh)},names.lookup x=ar .free->
  (names.map fun(n,k)=>if (k==hD && env.scope.kind== .function && env.kindOf n==ar .cell)then (n,pz)else (n,k)).lookup x=ar .cell\/
  (names.map fun(n,k)=>if (k==hD && env.scope.kind== .function && env.kindOf n==ar .cell)then (n,pz)else (n,k)).lookup x=ar .free
 |[],h=>by cases h
 | (n,a)::r,h=>by
  rw[Kr];by_cases e:x==n
  ·rw[Kt,e]at h;have X:ar a=ar NameKind.free:=h;cases X;by_cases c:(hD==hD && env.scope.kind== .function && env.kindOf n==ar .cell)=b_
   ·refine .inl ?_;simp only[c,if_true,k_,e]
   ·have Z:(hD==hD && env.scope.kind== .function && env.kindOf n==ar .cell)=false:=by simpa using c
    refine .inr ?_;simp only[Z,kl,if_false,k_,e]
  ·have e2:(x==n)=false:=by simpa using e
   rw[Kt,e2]at h;have Y:=lB (env:=env) h;by_cases c:(a==hD && env.scope.kind== .function && env.kindOf n==ar .cell)=b_
   ·simp only[c,if_true,k_,e2];exact Y
   ·have Z:(a==hD && env.scope.kind== .function && env.kindOf n==ar .cell)=false:=by simpa using c
    simp only[Z,kl,if_false,k_,e2];exact Y
theorem vE:∀{names:List (Str×mh)} {n:Nat} {acc:List (Str×b')} {p:Str×b'},p∈j' n names acc->p∈acc\/n<=p.2
 |[],n,acc,p,h=>.inl h
 | (x,k)::r,n,acc,p,h=>by
  unfold j' at h;split at h
  ·rcases vE h with h|h
   ·rcases Km.mp h with rfl|h
    ·exact .inr (JY _)
    ·exact .inl h
   ·exact .inr (Mi h)
  ·exact vE h
theorem vF:∀{names:List (Str×mh)} {n:Nat} {acc:List (Str×b')},(∀p∈acc,p.2<n)->(∀x y c,(x,c)∈acc->(y,c)∈acc->x=y)->∀x y c,(x,c)∈j' n names acc->(y,c)∈j' n names acc->x=y
 |[],n,acc,_,hi,x,y,c,h1,h2=>hi x y c h1 h2
 | (z,k)::r,n,acc,hl,hi,x,y,c,h1,h2=>by
  unfold j' at h1 h2;by_cases hk:(k==pz)=b_
  ·rw[if_pos hk]at h1 h2;refine vF (fun p Z=>?_) (fun x y c g1 g2=>?_) x y c h1 h2
   ·rcases Km.mp Z with rfl|Z
    ·exact LK _
    ·exact Li (hl p Z)
   ·rcases Km.mp g1 with g1|g1<;>rcases Km.mp g2 with g2|g2
    ·rw[<-g2]at g1;exact(Prod.mk.inj g1).1
    ·cases g1;exact absurd (hl _ g2) (K4 _)
    ·cases g2;exact absurd (hl _ g1) (K4 _)
    ·exact hi x y c g1 g2
  ·rw[if_neg hk]at h1 h2;exact vF hl hi x y c h1 h2
theorem se:∀{names:List (Str×mh)} {n:Nat} {acc:List (Str×b')},(∀y∈names,y.2= .cell->y.1≠x)->(j' n names acc).lookup x=acc.lookup x
 |[],_,_,_=>rfl
 | (z,k)::r,n,acc,h=>by
  unfold j';split
  ·next hk=>
   rw[se fun y Z=>h y (J7 _ Z),Kt];have:(x==z)=false:=by
    have:=h (z,k) Kj (by simpa using hk)
    simpa using lx this
   rw[this]
  ·exact se fun y Z=>h y (J7 _ Z)
theorem sf:∀{names:List (Str×mh)} {h:f_} {acc:List (Str×b')} {p:Str×b'},p∈j' h.objs.size names acc->p∈acc\/(pushCells h names).IsCell p.2 none
 |[],h,acc,p,q=>.inl q
 | (x,k)::r,h,acc,p,q=>by
  unfold j' at q;unfold pushCells;split at q
  ·next hk=>
   rw[if_pos hk];have Z:p∈j' (h.push {cls:=.type "cell",data:=.cell none}).objs.size r ((x,h.objs.size)::acc):=by rw[K3];exact q
   rcases sf Z with Z|Z
   ·rcases Km.mp Z with rfl|Z
    ·exact .inr ⟨_,Nj _ _ _ _ (J9 _ rfl),rfl⟩
    ·exact .inl Z
   ·exact .inr Z
  ·next hk=>
   rw[if_neg hk];exact sf q
theorem vG:∀(names:List (Str×mh)) (n:Nat) (acc:List (Str×b')),((x,pz)∈names\/∃c,acc.lookup x=ar c/\m<=c)->m<=n->(j' n names acc).lookup x=ar a->m<=a
 | [],n,acc,h,hm,e=>by
  rcases h with h|⟨c,h2,h3⟩
  ·cases h
  ·have Y:acc.lookup x=ar a:=e;rw[h2]at Y;cases Y;exact h3
 | (z,k)::r,n,acc,h,hm,e=>by
  unfold j' at e;by_cases hk:(k==pz)=b_
  ·rw[if_pos hk]at e;refine vG r (n+1) _ ?_ (Nat.le_succ_of_le hm) e;by_cases hz:(x==z)=b_
   ·exact .inr ⟨n,by rw[Kt,hz],hm⟩
   ·have Z:(x==z)=false:=by simpa using hz
    rcases h with h|⟨c,h2,h3⟩
    ·rcases Km.mp h with h|h
     ·cases h;simp at hz
     ·exact .inl h
    ·exact .inr ⟨c,by rw[Kt,Z];exact h2,h3⟩
  ·rw[if_neg hk]at e;refine vG r n acc ?_ hm e;rcases h with h|h
   ·rcases Km.mp h with h|h
    ·cases h;simp at hk
    ·exact .inl h
   ·exact .inr h
theorem qY{s:c_}{scope:Scope}{env:Env}
  (h:∀h1,h1.Ns s.heap.objs.size (fun _=>none)->(∀b o,s.heap.get? b=ar o->h1.get? b=ar o)->(∀p∈j' (s.heap.objs.size+1) scope.names cl,p∈cl\/h1.IsCell p.2 none)->
   Q {scope,locals:=s.heap.objs.size,globals:=env.globals,cells:=j' (s.heap.objs.size+1) scope.names cl,qual:=env.qual,func:=none,code:=env.code,frame:=env.frame,builtins:=env.builtins} {s with heap:=h1}):
  er M A (newFunctionEnv scope env.globals cl [] env.qual none .none (ar env)) Q E s:=by
 simp only[newFunctionEnv,Option.isSome_some,if_true];refine JU (wpAny_alloc (JU (wpAny_layCells _ (fun name kind cells=>by cases hkc:kind==pz<;>simp[hkc]) _ _ _ _ ?_)))
 have e:({s with heap:=s.heap.push {cls:=.type "dict",data:=.dict #[]}}:c_).heap.objs.size=s.heap.objs.size+1:=K3 ..;rw[e];refine JU (m:=OM [] _ _) (JZ (JZ (h _ ((Heap.Ns.new s.heap (.type "dict")).keeps (Nj _ _)) (fun b o q=>Nj _ _ b o (JW _ q)) fun p Z=>?_)));exact sf (h:=s.heap.push {cls:=.type "dict",data:=.dict #[]}) (by rw[e];exact Z)
def aW(X:Cx)(scope:Scope)(Nc:List Str)(C:b')(ex:List b')(s:c_)(H:Hp):Cx:=
 {X with N:=Nc,s₀:=s,H₀:=H,env:=compEnvC scope (j' (C+1) scope.names (lz X.env.cells scope.names [])) C X.env,outer:=X.stack,stack:=X.stack,ex:=ex,fn:=fun x=>scope.names.lookup x==ar .cell,pn:=[],xe:=fun _ _=>False}
structure CompScope(X:Cx)(scope:Scope)(Nc:List Str)(js:List (Option Nat)):Prop where
 kind:scope.kind= .function
 cel:∀y∈scope.names,y.2= .cell->scope.names.lookup y.1=ar .cell
 loc:∀y∈scope.names,y.2= .local->scope.names.lookup y.1=ar .local
 free:∀y∈scope.names,y.2= .free->X.env.kindOf y.1=ar .cell\/X.env.kindOf y.1=ar .free
 len:js.length=Nc.length
 ix:∀(i:Nat) (x:Str) (j:Nat),Nc[i]? =ar x->js[i]? =ar (ar j)->X.N[j]? =ar x/\scope.names.lookup x=ar .free
def mL(js:List (Option Nat))(σ:St):St:=js.map fun o=>o.bind fun j=>(σ[j]?).join
def Cf(X:Cx)(ifs:List Expr)(t:TT):Prop:=
 ∀(pins:List (b'×Obj)) (s:c_) (σ:St) (H:Hp) (Q:Bool->Hp->Prop),Inv X pins σ H s->t σ H Q->
  er (ff X.prog X.w) X.A (OM ifs b_ fun c r=>if r=b_ then do let ok<-isTrue c X.env (h_ c X.env);aC (y' ok)else aC (y' r)) (TP X pins σ Q) X.xe s
theorem CN:Cf X [] (fun _ H Q=>Q b_ H):=fun pins s σ H Q I h=>wpAny_tests_nil ⟨H,I,h⟩
theorem CO(h:PT X c t):Cf X [c] t:=fun pins s σ H Q I hw=>wpAny_tests_one (h pins s σ H Q I hw)
def xq(wi:TI)(js:List (Option Nat))(g:TG)(tt:TT)(te:TE):TE:=fun σ H Q=>wi σ H fun J H1=>∀p,H1 p=none->
 ∃W:Nat->Nat->St->Hp->Prop,(∃m,W 0 m (mL js σ) (upd H1 p (.lst [])))/\∀i m σc Hc,W i m σc Hc->
  (J.stop i Hc/\Q (.ref p) Hc)\/(J.go i Hc/\∃N:St->Hp->Prop,(∀ σ' H',N σ' H'->∃m',m'<m/\W (i+1) m' σ' H')/\∀x H',J.yld i Hc x H'->g x σc H' fun σ2 H2=>tt σ2 H2 fun b H3=>
   if b=b_ then te σ2 H3 fun y H4=>∃xs,H4 p=ar (.lst xs)/\xs.length<sizeLine/\N σ2 (upd H4 p (.lst (xs++[y])))else N σ2 H3)
section
variable {X:Cx}{scope:Scope}{Nc:List Str}{js:List (Option Nat)}{pins:List (b'×Obj)}{σ:St}{H:Hp}{s:c_}
theorem CompScope.has(c:CompScope X scope Nc js)(Y:X.Ok):∀y∈scope.names,y.2= .free->∃a,X.env.cells.lookup y.1=ar a:=fun y Z e=>Y.has y.1 (c.free y Z e)
theorem pj{L:f_}(c:CompScope X scope Nc js)(I:Inv X pins σ H s)(T:∀b∈ex,jC X pins H b)(O:∀b∈ex,b<s.heap.objs.size)
  (R:C=s.heap.objs.size) (hn:L.Ns C (fun _=>none)) (hs:∀b o,s.heap.get? b=ar o->L.get? b=ar o)
  (t:∀p∈j' (C+1) scope.names (lz X.env.cells scope.names []),p∈lz X.env.cells scope.names []\/L.IsCell p.2 none):
  Inv (aW X scope Nc C ex s H) [] (mL js σ) H {s with heap:=L,toks:=tk}:=by
 have Y:=xp (cells:=X.env.cells) scope.names [] (c.has I.ok) (fun _ z=>nomatch z);have P:∀x a,(lz X.env.cells scope.names []).lookup x=ar a->X.env.cells.lookup x=ar a:=fun x a e=>Y _ (lookup_mem e);have E:∀b o,s.heap.get? b=ar o->b≠C:=fun b o e=>by rw[R];exact Kf (J0 e)
 have Q:∀p∈lz X.env.cells scope.names [],p.2<C+1:=fun p A=>by
  obtain⟨v,F,K,_⟩:=I.cell p.1 p.2 (Y p A);rw[R];exact Li (J0 K)
 have Z:∀x a,(j' (C+1) scope.names (lz X.env.cells scope.names [])).lookup x=ar a->X.env.cells.lookup x=ar a\/(C<a/\L.IsCell a none):=fun x a e=>by
  have hm:=lookup_mem e;rcases t _ hm with z|z
  ·exact .inl (Y _ z)
  ·rcases vE hm with y|y
   ·exact .inl (Y _ y)
   ·exact .inr ⟨y,z⟩
 refine⟨⟨I.ok.mod,c.kind,I.ok.glob,I.ok.blt,Ls R.symm,fun x y a e1 e2=>vF Q (fun x y a e1 e2=>I.ok.inj x y a (Y _ e1) (Y _ e2)) x y a (lookup_mem e1) (lookup_mem e2),fun x G=>?_,fun x a z e=>?_,I.ok.hd,I.ok.frames,.inl rfl,fun b W=>⟨?_,fun x a e z=>?_⟩,
  I.bs,J4 I.ok.bsz I.sz,fun b o e W=>?_,fun b W z=>?_,I.stack,I.stkFree⟩,rfl,I.bare,Un.kept hs,⟨_,hn,fun i x v e1 e2 e3=>?_⟩,fun x a e=>?_,?_,fun x a e=>?_,(fun p A=>nomatch A),I.hok.kept hs,?_⟩
 ·-- names that are cells here have one
  have B:scope.names.lookup x=ar .free\/scope.names.lookup x=ar .cell:=by
   rcases G with G|G
   ·rcases jd (env:=X.env) (names:=scope.names) G with z|⟨_,z⟩
    ·exact .inr z
    ·exact .inl z
   ·rcases jd (env:=X.env) (names:=scope.names) G with z|⟨z,_⟩
    ·exact .inl z
    ·cases z
  refine LA.mp (Mf scope.names (C+1) _ ?_);rcases B with z|z
  ·exact .inr (LA.mpr (mem_lookup (ph scope.names [] (.inl (dj z)))))
  ·exact .inl z
 ·-- the block's own cells are new
  have k:scope.names.lookup x=ar .cell:=by
   have:(scope.names.lookup x==ar .cell)=true:=z;simpa using this
  show s.heap.objs.size<=a;rw[<-R];exact Mi (vG (m:=C+1) scope.names (C+1) _ (.inl (dj k)) (JY _) e)
 ·show b≠C;rw[R];exact Kf (O b W)
 ·rcases Z x a e with y|⟨y,_⟩
  ·exact(T b W).2.2.2.2.1 x a y z
  ·rw[z,R]at y;exact K4 _ (Nat.lt_trans y (O b W))
 ·have:b<X.base.objs.size:=J0 e;rcases (T b W).2.2.2.1 with z|z
  ·exact I.ok.noex b o e z
  ·exact absurd (Kd this (J4 I.ok.bsz z)) (K4 _)
 ·rcases Km.mp (I.stkSub b z)with e|e
  ·exact(T b W).2.1 e
  ·exact(T b W).2.2.1 e
 ·-- the names that are read from around
  have w:Nc[i]? =ar x:=e1;have:∃j,js[i]? =ar (ar j)/\σ[j]? =ar (ar v):=by
   unfold mL at e2;rw[KG]at e2;cases q:js[i]? with
   |none=>rw[q]at e2;cases e2
   | some o=>
    rw[q]at e2;cases o with
    |none=>cases e2
    |some j=>
     refine⟨j,rfl,?_⟩;have U:(σ[j]?).join=ar v:=Kl e2;cases r:σ[j]? with
     |none=>rw[r]at U;cases U
     |some z=>rw[r]at U;exact Mx ar U
  obtain⟨j,d,hv⟩:=this;obtain⟨f,S⟩:=c.ix i x j w d;obtain⟨m,l,hl⟩:=I.loc;have J:=c.free (x,.free) (dj S) rfl;have N:DT X.env.scope x:=by
   rcases J with z|z
   ·exact .inr (.inl z)
   ·exact .inr (.inr z)
  obtain⟨u,n,h⟩:=hl j x v f hv N;refine⟨u,n,.inr ⟨?_,?_⟩⟩
  ·rcases lB (env:=X.env) S with z|z
   ·exact .inl z
   ·exact .inr z
  ·rcases h with⟨z,_⟩|⟨_,a,ea,ha⟩
   ·rcases J with y|y
    ·rw[show X.env.kindOf x=ar pz from y]at z;cases z
    ·rw[show X.env.kindOf x=ar hD from y]at z;cases z
   ·obtain⟨b,W⟩:=mem_lookup (ph (cells:=X.env.cells) scope.names [] (.inl (dj S)));have:=P x b W;rw[ea]at this;cases this;obtain⟨F,K,hd⟩:=ha;refine⟨a,?_,F,hs _ _ K,hd⟩;show(j' (C+1) scope.names (lz X.env.cells scope.names [])).lookup x=ar a;rw[se fun y g e z=>by have:=c.cel y g e;rw[z,S]at this;cases this]
    exact W
 ·rcases Z x a e with y|⟨_,y⟩
  ·obtain⟨v,F,K,hd⟩:=I.cell x a y;exact⟨v,F,hs _ _ K,hd⟩
  ·exact⟨_,y⟩
 ·show H C=none;rw[R];exact I.hok.fresh (JY _)
 ·rcases Z x a e with y|⟨y,_⟩
  ·exact I.freeC x a y
  ·exact I.hok.fresh (by rw[<-R];exact L5 y)
 ·show(mL js σ).length=Nc.length;unfold mL;rw[JV];exact c.len
theorem tU(I:Inv X pins σ H s)(Q:C=s.heap.objs.size)(Z:∀b∈ex,jC X pins H b)
  (T:Inv (aW X scope Nc C ex s H) [] σc H' s') (hs:z4 C s'.heap h2):Inv X pins σ H' {s' with heap:=h2}:=by
 have W:∀b o,s.heap.get? b=ar o->b≠C:=fun b o e=>by rw[Q];exact Kf (J0 e)
 have B:=T.base;have u:Un (nF X.stack) ex H H' s.heap h2:={
  keep:=fun b o e n Y U=>(hs.2 b (W b o e)).trans (B.keep b o e n Y U)
  slot:=fun b o e n Y U=>by
   obtain⟨R,q⟩:=B.slot b o e n Y U;exact⟨R,(hs.2 b (W b o e)).trans q⟩
  free:=B.free
  there:=fun b o e U=>by
   obtain⟨P,q⟩:=B.there b o e U;exact⟨P,(hs.2 b (W b o e)).trans q⟩
  tups:=B.tups
  frzs:=B.frzs
  tbls:=B.tbls}
 refine I.call' (s':={s' with heap:=h2}) (ch:=ex) T.os u (fun b o e=>?_) T.bare fun b Y=>⟨(Z b Y).2.2.2.1,(Z b Y).2.1,(Z b Y).2.2.2.2.1,(Z b Y).2.2.2.2.2⟩;have S:∀b o,H' b=ar o->b≠C:=fun b o e z=>by
  have hf:H' C=none:=T.free;rw[z,hf]at e;cases e
 refine(T.hok b o e).stay (fun d v hd q=>?_) (fun _ q=>q) fun _ _ q=>q;refine(hs.2 d ?_).trans q;rcases hd with z|z
 ·subst z;exact S _ _ e
 ·exact S _ _ z
theorem tV{Q:VK}(G:Option (a_->Sem Unit))(Qr:a_->c_->Prop)(c:CompScope X scope Nc js)(hc:X.calm=b_)(hi:PI X tg iter wi)
  (a8:∀C ex s H,Inv X pins σ H s->(∀b∈ex,jC X pins H b)->PG (aW X scope Nc C ex s H) tg g/\Cf (aW X scope Nc C ex s H) ifs tt/\PE (aW X scope Nc C ex s H) elt te)
  (I:Inv X pins σ H s) (h:xq wi js g tt te σ H Q)
  (f:∀p C s' S,Q (.ref p) S->(∀t,z4 C s'.heap t->Inv X pins σ S {s' with heap:=t})->(∃m,s'.heap.Ns C m)->jC X pins S C->
   OC (ff X.prog X.w) X.A X.xe G Qr (.ref p) C (.ok .next) s')
  (hs:∀x,hh iter X.env x=aC x:=by intro _;rfl):
  er (ff X.prog X.w) X.A (comprehension (.ListComp elt [⟨tg,iter,ifs,0⟩] scope pos) scope X.env pos' (newList []) dV (h_ iter X.env) G) Qr X.xe s:=by
 refine wpAny_comprehension_free rfl hs (lA scope X.env (c.has I.ok)) c.kind c.loc (dY (hi pins s σ H _ I h) fun v s1 F=>dY F fun c3 s2 t=>?_);obtain⟨it,Y,a,J,U,e,I2,T,B,f2,hW⟩:=t;subst e;refine K1 (qY fun F K L O=>?_);dsimp only at K L O⊢;obtain⟨W,⟨m0,w0⟩,turn⟩:=hW s2.heap.objs.size (I2.hok.fresh (JY _));have E:Inv X pins σ (upd U s2.heap.objs.size (.lst [])) {s2 with heap:=s2.heap.push {cls:=.type "list",dict:=none,data:=.seq ([]:List a_).toArray}}:=
  I2.laid (t':=s2.toks) (fun _ _ q=>JW _ q) (JY _) ⟨Ku _,[],0,.nil,J9 _ rfl⟩
 generalize hS3:({s2 with heap:=s2.heap.push {cls:=.type "list",dict:=none,data:=.seq ([]:List a_).toArray}}:c_)=s3 at E;have e3:s3.heap=s2.heap.push {cls:=.type "list",dict:=none,data:=.seq ([]:List a_).toArray}:=by rw[<-hS3]
 rw[<-e3]at K L O⊢;generalize hp:s2.heap.objs.size=p at*;have k:∀b∈Y,b<p:=fun b Z=>by
  obtain⟨o,e,_⟩:=T.obj _ _ B b Z;rw[<-hp];exact J0 e
 have b2:∀b∈Y,b≠p:=fun b Z=>Kf (k b Z);have f3:∀b∈Y,jC X pins (upd U p (.lst [])) b:=fun b Z=>⟨by rw[aM (b2 b Z)];exact(f2 b Z).1,(f2 b Z).2⟩
 have l:s3.heap.objs.size=p+1:=by rw[e3,K3,hp]
 have j:∀b∈Y,b<s3.heap.objs.size:=fun b Z=>by rw[l];exact Li (k b Z)
 have P:∀b o,s3.heap.get? b=ar o->F.get? b=ar o:=L;have b1:a 0 F:=T.keep _ _ _ B fun b Z o e=>P b o (by rw[e3];exact JW _ e)
 generalize hC:s3.heap.objs.size=C at*;have b3:F.Ns C (fun _=>none):=by simpa using K
 have start:∀tk,Inv (aW X scope Nc C Y s3 (upd U p (.lst []))) [] (mL js σ) (upd U p (.lst [])) {s3 with heap:=F,toks:=tk}:=fun tk=>pj c E f3 (fun b Z=>by rw[hC];exact j b Z) hC.symm b3 P O
 have ok:=(start 0).ok;have R:∀{S:Hp},(∀b∈Y,S b=none)->∀b∈Y,jC (aW X scope Nc C Y s3 (upd U p (.lst []))) [] S b:=fun hn b Z=>
  ⟨hn b Z,(ok.exf b Z).1,ok.exfs b Z,.inl Z,(ok.exf b Z).2,fun _ z=>nomatch z⟩
 obtain⟨hG,hT,hE⟩:=a8 C Y s3 (upd U p (.lst [])) E f3;have loop:∀s':c_,Inv (aW X scope Nc C Y s3 (upd U p (.lst []))) [] (mL js σ) (upd U p (.lst [])) s'->a 0 s'.heap->
   vr (ff X.prog X.w) X.A (.compLoop (.ListComp elt [⟨tg,iter,ifs,0⟩] scope pos) 0 (.ref it) (.ref p) (aW X scope Nc C Y s3 (upd U p (.lst []))).env) (OC (ff X.prog X.w) X.A X.xe G Qr (.ref p) C) s':=by
  intro s' I' a5;refine codeAny_loop rfl (fun n s'=>∃i σ' S,Inv (aW X scope Nc C Y s3 (upd U p (.lst []))) [] σ' S s'/\a i s'.heap/\(∀b∈Y,S b=none)/\W i n σ' S) ?_ m0 ⟨0,_,_,I',a5,fun b Z=>(f3 b Z).1,w0⟩;rintro n s4 ⟨i,σ4,H4,I4,st4,fr4,w4⟩;show er _ X.A ((NT (.ListComp elt [⟨tg,iter,ifs,0⟩] scope pos) 0 (.ref it) (.ref p) (aW X scope Nc C Y s3 (upd U p (.lst []))).env).onRaise (fun x=>do B_ x (aW X scope Nc C Y s3 (upd U p (.lst []))).env;theTreesLotGoes x)) _ _ s4
  refine wpAny_noted ?_;rw[compTurn_list];refine JU (KO (JU ?_));rcases turn i n σ4 H4 w4 with⟨stop,qn⟩|⟨go,N,hN,step⟩
  ·refine Kq (T.done (aW X scope Nc C Y s3 (upd U p (.lst []))) rfl rfl rfl hc i [] s4 σ4 H4 (fun _ _=>False) I4 (R fr4) st4 stop) (fun r s5 ⟨hr,I5⟩=>?_) fun _ _ z=>z.elim;subst hr;refine JZ (f p C s5 H4 qn (fun t b4=>tU E hC.symm f3 I5 b4) ?_ (E.fpOk (Ls hC) I5.free));obtain⟨m,hm,_⟩:=I5.loc;exact⟨m,hm⟩
  ·refine Kq (T.item (aW X scope Nc C Y s3 (upd U p (.lst []))) rfl rfl rfl hc i [] s4 σ4 H4 (fun _ _=>False) I4 (R fr4) st4 go) (fun r s5 ⟨u,hr,h5⟩=>?_) fun _ _ z=>z.elim;subst hr;refine JU (Kq h5 (fun _ s6 ⟨x,H6,I6,r6,y6,st6,fr6⟩=>?_) fun _ _ z=>z.elim);have a9:=I6.pinned (R fr6) (T.obj _ _ st6);refine JU (Kq (hG _ s6 σ4 H6 x u _ a9 r6 (step x H6 y6)) (fun _ s7 ⟨σ7,H7,I7,q7⟩=>?_) fun _ _ z=>z.elim);refine JU (Kq (hT _ s7 σ7 H7 _ I7 q7) (fun b s8 ⟨H8,I8,q8⟩=>?_) fun _ _ z=>z.elim);have NK:∀{σ9:St} {H9:Hp} {s9:c_},Inv (aW X scope Nc C Y s3 (upd U p (.lst []))) ([]++mE Y s6.heap) σ9 H9 s9->N σ9 H9->
     ∃m,m<n/\∃i σ' S,Inv (aW X scope Nc C Y s3 (upd U p (.lst []))) [] σ' S s9/\a i s9.heap/\(∀b∈Y,S b=none)/\W i m σ' S:=fun{σ9 H9 s9} I9 n9=>by
    obtain⟨m',hm,w9⟩:=hN σ9 H9 n9;refine⟨m',hm,i+1,σ9,H9,I9.unpinned,T.keep _ _ _ st6 fun b Z o e=>(I9.pin (b,o) (Ko _ (Ko _ (fM Z e)))).1,fun b Z=>?_,w9⟩;obtain⟨o,e,d⟩:=T.obj _ _ st6 b Z;exact(I9.pin (b,o) (Ko _ (Ko _ (fM Z e)))).2.1
   cases b with
   |false=>exact JZ ⟨rfl,NK I8 q8⟩
   |true=>
    refine JU (JU (Kq (hE _ s8 σ7 H8 _ I8 q8) (fun y s9 ⟨yv,H9,I9,r9,q9⟩=>?_) fun _ _ z=>z.elim));obtain⟨xs,hx,hl,n9⟩:=q9;refine JU (Kq (mH (X:=aW X scope Nc C Y s3 (upd U p (.lst []))) _ s9 σ7 H9 (.ref p) [yv] (.ref p) [y] (fun _ S=>N σ7 S) I9 rfl (.cons r9 .nil) ⟨p,xs,yv,rfl,rfl,hx,hl,n9⟩) (fun _ s10 ⟨_,H10,I10,_,q10⟩=>?_) fun _ _ z=>z.elim);exact JZ (JZ ⟨rfl,NK I10 q10⟩)
 refine codeAny_compStart_list (loop _ ?_ ?_) (T.self _ 0 _ _ _ ?_ (loop _ ?_ ?_))
 all_goals first
  |exact b1
  |(subst hS3;exact start _)
theorem xr(c:CompScope X scope Nc js)(P:X.calm=b_)(R:PI X tg iter wi)
  (Y:∀C ex s H,PG (aW X scope Nc C ex s H) tg g/\Cf (aW X scope Nc C ex s H) ifs tt/\PE (aW X scope Nc C ex s H) elt te)
  (hs:∀x,hh iter X.env x=aC x:=by intro _;rfl):PE X (.ListComp elt [⟨tg,iter,ifs,0⟩] scope pos) (xq wi js g tt te):=by
 intro pins s σ H Q I h;rw[eval_ListComp];refine tV none _ c P R (fun C ex s H _ _=>Y C ex s H) I h (fun p C s' T q U W _=>?_) hs;obtain⟨m,hm⟩:=W;exact⟨m,hm,fun S Z=>⟨.ref p,T,U S Z,rfl,q⟩⟩
theorem vH{pos:Pos}(L:X.N.Nodup)(W:X.N[i]? =ar x)(R:Loc X.env.scope x)
  (c:CompScope X scope Nc js) (O:X.calm=b_) (P:PI X tg iter wi)
  (U:∀C ex s H,PG (aW X scope Nc C ex s H) tg g/\Cf (aW X scope Nc C ex s H) ifs tt/\PE (aW X scope Nc C ex s H) elt te)
  (T:p8 (.ListComp elt [⟨tg,iter,ifs,0⟩] scope cpos) (ar (.Name x pos')) pos.line X.env=aC true:=by rfl)
  (J:X.fn x=b_\/X.env.scope.names.lookup x=ar .local:=by first|exact .inl rfl|exact .inr rfl|assumption)
  (hs:∀x,hh iter X.env x=aC x:=by intro _;rfl):PS X (.Assign [.Name x pos'] (.ListComp elt [⟨tg,iter,ifs,0⟩] scope cpos) pos) (Eu (xq wi js g tt te) (zY i)):=by
 intro pins s σ H D I h;rw[exec_Assign_Name_used _ _ _ _ T];refine JU (KO (JU ?_));show er _ X.A (do let _<-comprehension (.ListComp elt [⟨tg,iter,ifs,0⟩] scope cpos) scope X.env _ (newList []) dV (h_ iter X.env) (ar (K' (.Name x pos') X.env))) _ _ s
 refine JU (dY (tV (ar (K' (.Name x pos') X.env)) (fun _ s'=>SP X pins D .next s') c O P (fun C ex s H _ _=>U C ex s H) I h (fun p C s' S q E F Z=>?_) hs) fun _ s' q=>JZ (JZ q));obtain⟨m,hm⟩:=F;have K:Inv X pins σ S s':=E s'.heap (.refl ..);refine wpAny_assign_Name (qP K L W R (v:=.ref p) rfl (fun s'' I'' ⟨a,hsb,ha⟩=>?_) J);have Q:C≠a:=by
  rcases ha with z|z
  ·rw[z];exact Z.2.1
  ·exact fun e=>Z.2.2.2.2.1 x a z e.symm
 refine⟨m,hm.sameBut hsb Q,fun B Y=>?_⟩;exact⟨_,S,I''.turned (t':=s''.toks) (it:=C) (fun b o G e=>(Y.2 b G).trans e) Z.1 Z.2.1 Z.2.2.2.1 Z.2.2.2.2.1 Z.2.2.2.2.2,q⟩
end
inductive D where
 |non|bl (b:Bool)|int (i:Int)|str (x:Str)|tup (ds:List D)|lst (k:Nat)|ro (ds:List D)|emp
 |fn (a c:b') (q:Str) (ds:List D) (vs:List V)|exc (x:Str) (ds:List D)
 |fz (ds:List D)
abbrev aE:=List (List D)
inductive Res(α:Type) where
 |ok (a:α)|ex (x:D)
def M(α:Type):=aE->Option (Res α×aE)
namespace M
def ret{α:Type}(a:α):M α:=fun S=>ar (.ok a,S)
def bnd{α β:Type}(m:M α)(f:α->M β):M β:=fun S=>match m S with
 |some (.ok a,S')=>f a S'
 |some (.ex x,S')=>ar (.ex x,S')
 |none=>none
def fail{α:Type}:M α:=fun _=>none
def raise{α:Type}(x:D):M α:=fun S=>ar (.ex x,S)
noncomputable instance:Monad M where
 pure:=ret
 bind:=bnd
end M
def JM(K:dt)(a:b')(xs:List V):Prop:=∃(o:Obj) (its:Array a_) (n:Nat),K.lookup a=ar o/\o.cls= .type "list"/\o.dict=none/\o.data= .seq its n/\its.size<=sizeLine/\bw xs its.toList
def Cg(K:dt)(H:Hp)(a:b')(vs:List V):Prop:=(∃o,H a=ar (.frz o (.lst vs)))\/JM K a vs
theorem Cg.sq{K:dt}{H:Hp}{a:b'}{vs:List V}(h:Cg K H a vs):jH K H a vs:=h.imp (fun⟨o,e⟩=>.inr ⟨o,e⟩) fun z=>z
def G0(C a:b')(od:Option b'):f_->Prop:=fun h=>∃oe vs,h.get? a=ar oe/\oe.cls= .ref C/\oe.dict=od/\oe.data= .fields vs
def CP(qual:Str)(c:b'):f_->Prop:=fun h=>h.CodeRec (.ref c) qual
def cQ:List Str:=["law","_law_within_right","_law_refusals_right","_law_sharings_right","_law_right","_law_lists_right","_law_papers_right","_law_great_right","_law_told_right","_law_desks_right","_law_texts_right"]
def TabsOk(K:dt)(H:Hp):Prop:=∀x∈cQ,∀c P,nC K x=ar (c,P)->∃ps,H P=ar (.tbl ps)/\TriplesOk ps.toList/\
 ∀pos cv,codeAmong pos ps.toList=ar cv->∃c',cv= .ref c'/\H c'=ar (.ext (CP (x++".<locals>.<lambda>") c'))
theorem TabsOk.mono{K:dt}{H Z:Hp}(h:TabsOk K H)(k:∀a o,H a=ar o->(∀vs,o≠ .lst vs)->Z a=ar o):TabsOk K Z:=fun x Y c P e=>
 let ⟨ps,h1,h2,h3⟩:=h x Y c P e
 ⟨ps,k _ _ h1 (by intro _ z;cases z),h2,fun pos X q=>let ⟨c',e1,e2⟩:=h3 pos X q;⟨c',e1,k _ _ e2 (by intro _ z;cases z)⟩⟩
mutual
inductive RelD(K:dt)(ι:List b')(H:Hp):D->V->Prop where
 |non:RelD K ι H .non .non
 |bl (b:Bool):RelD K ι H (.bl b) (.bl b)
 |int (i:Int):RelD K ι H (.int i) (.int i)
 |str (x:Str):RelD K ι H (.str x) (.str x)
 |tup {a:b'} {ds:List D} {vs:List V}:H a=ar (.tup vs)->RelDs K ι H ds vs->RelD K ι H (.tup ds) (.ref a)
 |lst {a:b'} {k:Nat}:ι[k]? =ar a->RelD K ι H (.lst k) (.ref a)
 |ro {a:b'} {ds:List D} {vs:List V}:Cg K H a vs->RelDs K ι H ds vs->RelD K ι H (.ro ds) (.ref a)
 |emp {a:b'}:H a=ar (.dK [])->RelD K ι H .emp (.ref a)
 |fn {a c:b'} {q:Str} {ds:List D} {vs:List V}:H c=ar (.ext (CP q c))->RelDs K ι H ds vs->RelD K ι H (.fn a c q ds vs) (.ref a)
 |exc {a C:b'} {x:Str}:sb K g_ x=ar (ar (.ref C))->H a=ar (.ext (G0 C a none))->RelD K ι H (.exc x []) (.ref a)
 |excF {a C dx:b'} {x:Str} {fs:List (Str×V)} {ds:List D}:sb K g_ x=ar (ar (.ref C))->H a=ar (.ext (G0 C a (ar dx)))->H dx=ar (.xd fs)->fs.map (·.1)=([("many":Str),("most":Str)]:List Str)->RelDs K ι H ds (fs.map (·.2))->RelD K ι H (.exc x ds) (.ref a)
 |fz {a:b'} {o:Obj} {ds:List D} {vs:List V}:H a=ar (.frz o (.lst vs))->RelDs K ι H ds vs->RelD K ι H (.fz ds) (.ref a)
inductive RelDs(K:dt)(ι:List b')(H:Hp):List D->List V->Prop where
 |nil:RelDs K ι H [] []
 |cons {d:D} {v:V} {ds:List D} {vs:List V}:RelD K ι H d v->RelDs K ι H ds vs->RelDs K ι H (d::ds) (v::vs)
end
structure Rep(K:dt)(ι:List b')(H:Hp)(S:aE):Prop where
 nd:ι.Nodup
 len:ι.length=S.length
 get:∀(k:Nat) (a:b') (xs:List D),ι[k]? =ar a->S[k]? =ar xs->∃vs,H a=ar (.lst vs)/\RelDs K ι H xs vs
 tab:TabsOk K H
structure Ext(ι:List b')(H:Hp)(ι':List b')(H':Hp):Prop where
 ids:∃more,ι'=ι++more
 oth:∀a o,H a=ar o->a∉ι->(∀ps,o≠ .tbl ps)->H' a=ar o/\a∉ι'
structure ExtN(ι:List b')(H:Hp)(ι':List b')(H':Hp):Prop where
 ids:∃more,ι'=ι++more
 oth:∀a o,H a=ar o->a∉ι->(∀ps,o≠ .tbl ps)->(∀vs,o≠ .lst vs)->H' a=ar o/\a∉ι'
theorem Ext.n{X Z:List b'}{H Y:Hp}(e:Ext X H Z Y):ExtN X H Z Y:=⟨e.ids,fun a o h n t _=>e.oth a o h n t⟩
theorem Ext.refl{Z:List b'}{H:Hp}:Ext Z H Z H:=⟨⟨[],by simp⟩,fun _ _ h n _=>⟨h,n⟩⟩
theorem Ext.trans{W Y Z:List b'}{H X U:Hp}(a:Ext W H Y X)(b:Ext Y X Z U):Ext W H Z U:=by
 obtain⟨S,e1⟩:=a.ids;obtain⟨T,e2⟩:=b.ids;exact⟨⟨S++T,by rw[e2,e1,Mj]⟩,fun c o h n t=>let ⟨h1,n1⟩:=a.oth c o h n t;b.oth c o h1 n1 t⟩
theorem ExtN.at{Y Z:List b'}{H W:Hp}(e:ExtN Y H Z W){k:Nat}{a:b'}(h:Y[k]? =ar a):Z[k]? =ar a:=by
 obtain⟨m,rfl⟩:=e.ids;have X:k<Y.length:=(J2.mp h).1;rw[Kx X];exact h
section
variable {K:dt}{ι ι':List b'}{H H':Hp}{S:aE}
theorem Rep.isL(r:Rep K ι H S)(h:a∈ι):∃vs,H a=ar (.lst vs):=by
 obtain⟨k,Y,e⟩:=LW.mp h;have Z:k<S.length:=by rw[<-r.len];exact Y
 obtain⟨vs,X,_⟩:=r.get k a (S[k]) (by rw[JX Y,e]) (JX Z)
 exact⟨vs,X⟩
theorem Rep.notIn(r:Rep K ι H S)(h:H a=ar o)(Z:∀vs,o≠ .lst vs):a∉ι:=fun z=>by
 obtain⟨vs,e⟩:=r.isL z;rw[h]at e;exact Z vs (Kl e)
theorem Rep.free(r:Rep K ι H S)(h:H a=none):a∉ι:=fun z=>by
 obtain⟨vs,e⟩:=r.isL z;rw[h]at e;cases e
mutual
theorem RelD.laterN(r:Rep K ι H S)(e:ExtN ι H ι' H'):∀{d:D} {v:V},RelD K ι H d v->RelD K ι' H' d v
 |_,_,.non=>.non
 |_,_,.bl b=>.bl b
 |_,_,.int i=>.int i
 |_,_,.str x=>.str x
 |_,_,.tup h hs=>.tup (e.oth _ _ h (r.notIn h (by intro _ z;cases z)) (by intro _ z;cases z) (by intro _ z;cases z)).1 (RelDs.laterN r e hs)
 |_,_,.lst h=>.lst (e.at h)
 |_,_,.ro h hs=>.ro (h.imp (fun⟨o,h⟩=>⟨o,(e.oth _ _ h (r.notIn h (by intro _ z;cases z)) (by intro _ z;cases z) (by intro _ z;cases z)).1⟩) fun z=>z) (RelDs.laterN r e hs)
 |_,_,.emp h=>.emp (e.oth _ _ h (r.notIn h (by intro _ z;cases z)) (by intro _ z;cases z) (by intro _ z;cases z)).1
 |_,_,.fn h hs=>.fn (e.oth _ _ h (r.notIn h (by intro _ z;cases z)) (by intro _ z;cases z) (by intro _ z;cases z)).1 (RelDs.laterN r e hs)
 |_,_,.exc n h=>.exc n (e.oth _ _ h (r.notIn h (by intro _ z;cases z)) (by intro _ z;cases z) (by intro _ z;cases z)).1
 |_,_,.excF n h h2 hn hs=>.excF n (e.oth _ _ h (r.notIn h (by intro _ z;cases z)) (by intro _ z;cases z) (by intro _ z;cases z)).1 (e.oth _ _ h2 (r.notIn h2 (by intro _ z;cases z)) (by intro _ z;cases z) (by intro _ z;cases z)).1 hn (RelDs.laterN r e hs)
 |_,_,.fz h hs=>.fz (e.oth _ _ h (r.notIn h (by intro _ z;cases z)) (by intro _ z;cases z) (by intro _ z;cases z)).1 (RelDs.laterN r e hs)
theorem RelDs.laterN(r:Rep K ι H S)(e:ExtN ι H ι' H'):∀{ds:List D} {vs:List V},RelDs K ι H ds vs->RelDs K ι' H' ds vs
 |_,_,.nil=>.nil
 |_,_,.cons h hs=>.cons (RelD.laterN r e h) (RelDs.laterN r e hs)
end
theorem RelD.later(r:Rep K ι H S)(e:Ext ι H ι' H'){d:D}{v:V}(h:RelD K ι H d v):RelD K ι' H' d v:=RelD.laterN r e.n h
theorem RelDs.later(r:Rep K ι H S)(e:Ext ι H ι' H'){ds:List D}{vs:List V}(h:RelDs K ι H ds vs):RelDs K ι' H' ds vs:=RelDs.laterN r e.n h
theorem RelDs.length:∀{ds:List D} {vs:List V},RelDs K ι H ds vs->ds.length=vs.length
 |_,_,.nil=>rfl
 |_,_,.cons _ t=>by rw[KD,KD,RelDs.length t]
theorem RelDs.append:∀{ds es:List D} {vs ws:List V},RelDs K ι H ds vs->RelDs K ι H es ws->RelDs K ι H (ds++es) (vs++ws)
 |_,_,_,_,.nil,s=>s
 |_,_,_,_,.cons r t,s=>.cons r (RelDs.append t s)
theorem RelDs.get':∀{ds:List D} {vs:List V} {i:Nat} {d:D},RelDs K ι H ds vs->ds[i]? =ar d->∃v,vs[i]? =ar v/\RelD K ι H d v
 |_,_,_,_,.nil,e=>by simp at e
 |_,_,0,_,.cons r _,e=>by simp at e;subst e;exact⟨_,rfl,r⟩
 |_,_,i+1,v,.cons _ t,e=>by
  obtain⟨u,Y,Z⟩:=RelDs.get' (i:=i) t (by simpa using e)
  exact⟨u,by simpa using Y,Z⟩
theorem RelDs.take:∀{ds:List D} {vs:List V} (n:Nat),RelDs K ι H ds vs->RelDs K ι H (ds.take n) (vs.take n)
 |_,_,0,_=>.nil
 |_,_,_+1,.nil=>.nil
 |_,_,n+1,.cons r t=>.cons r (RelDs.take n t)
theorem RelDs.drop:∀{ds:List D} {vs:List V} (n:Nat),RelDs K ι H ds vs->RelDs K ι H (ds.drop n) (vs.drop n)
 |_,_,0,r=>r
 |_,_,_+1,.nil=>.nil
 |_,_,n+1,.cons _ t=>RelDs.drop n t
theorem RelDs.set(r:RelD K ι H d v):∀{ds:List D} {vs:List V} (i:Nat),RelDs K ι H ds vs->RelDs K ι H (ds.set i d) (vs.set i v)
 |_,_,_,.nil=>.nil
 |_,_,0,.cons _ t=>.cons r t
 |_,_,i+1,.cons q t=>.cons q (RelDs.set r i t)
theorem RelDs.eraseIdx:∀{ds:List D} {vs:List V} (i:Nat),RelDs K ι H ds vs->RelDs K ι H (ds.eraseIdx i) (vs.eraseIdx i)
 |_,_,_,.nil=>.nil
 |_,_,0,.cons _ t=>t
 |_,_,i+1,.cons q t=>.cons q (RelDs.eraseIdx i t)
theorem iD(Z:H p=none):Ext ι H ι (upd H p o):=⟨⟨[],by simp⟩,fun a Y h n _=>⟨by rw[aM (aS h Z)];exact h,n⟩⟩
theorem kb{p:b'}{o:HO}(r:Rep K ι H S)(Z:H p=none):Rep K ι (upd H p o) S:=by
 refine⟨r.nd,r.len,fun k a xs e1 e2=>?_,r.tab.mono fun b o h _=>by rw[aM (aS h Z)];exact h⟩
 obtain⟨vs,Y,X⟩:=r.get k a xs e1 e2;exact⟨vs,by rw[aM (aS Y Z)];exact Y,RelDs.later r (iD Z) X⟩
theorem tW(Z:H p=none):Ext ι H (ι++[p]) (upd H p o):=⟨⟨[p],rfl⟩,fun a Y h n _=>⟨by rw[aM (aS h Z)];exact h,by
 have:a≠p:=aS h Z;simp[n,this]⟩⟩
theorem Am{p:b'}{xs:List D}{vs:List V}(r:Rep K ι H S)(Z:H p=none)(h:RelDs K ι H xs vs):Rep K (ι++[p]) (upd H p (.lst vs)) (S++[xs]):=by
 have X:Ext ι H (ι++[p]) (upd H p (.lst vs)):=tW Z;refine⟨?_,by simp[r.len],fun k a ys e1 e2=>?_,r.tab.mono fun b o h _=>by rw[aM (aS h Z)];exact h⟩
 ·rw[List.nodup_append];refine⟨r.nd,by simp,fun a R b T=>?_⟩
  have:b=p:=by simpa using T
  subst this;rintro rfl;exact r.free Z R
 ·by_cases hk:k<ι.length
  ·rw[Kx hk]at e1;rw[Kx (by rw[<-r.len];exact hk)]at e2
   obtain⟨ws,U,Q⟩:=r.get k a ys e1 e2;exact⟨ws,by rw[aM (aS U Z)];exact U,RelDs.later r X Q⟩
  ·have Y:k<(ι++[p]).length:=(J2.mp e1).1;have:k=ι.length:=by simp at Y;omega
   subst this;simp at e1;rw[r.len]at e2;simp at e2;subst e1 e2;exact⟨vs,a7,RelDs.later r X h⟩
theorem pk:∀{l:List b'} {i j:Nat} {a:b'},l.Nodup->l[i]? =ar a->l[j]? =ar a->i=j
 |[],i,j,a,_,h,_=>by simp at h
 |x::r,0,0,a,_,_,_=>rfl
 |x::r,0,j+1,a,hn,h1,h2=>by
  simp at h1 h2;subst h1;exact absurd (Ky h2) (KW.mp hn).1
 |x::r,i+1,0,a,hn,h1,h2=>by
  simp at h1 h2;subst h2;exact absurd (Ky h1) (KW.mp hn).1
 |x::r,i+1,j+1,a,hn,h1,h2=>by
  simp at h1 h2;rw[pk (KW.mp hn).2 h1 h2]
theorem sg(Z:a∈ι):Ext ι H ι (upd H a o):=⟨⟨[],by simp⟩,fun b Y h n _=>⟨by rw[aM (fun z=>n (by rw[z];exact Z))];exact h,n⟩⟩
theorem sh{a:b'}{k:Nat}{xs:List D}{vs:List V}(r:Rep K ι H S)(Z:ι[k]? =ar a)(h:RelDs K ι H xs vs):Rep K ι (upd H a (.lst vs)) (S.set k xs):=by
 have X:a∈ι:=Ky Z;have Y:Ext ι H ι (upd H a (.lst vs)):=sg X;refine⟨r.nd,by simp[r.len],fun j b ys e1 e2=>?_,r.tab.mono fun b o h n=>by
  obtain⟨ws,hw⟩:=r.isL X;rw[aM (fun z=>by subst z;rw[h]at hw;exact n ws (Kl hw))];exact h⟩
 by_cases hj:j=k
 ·subst hj;rw[Z]at e1;cases e1;have R:j<S.length:=by rw[<-r.len];exact(J2.mp Z).1
  rw[KR R]at e2;cases e2;exact⟨vs,a7,RelDs.later r Y h⟩
 ·rw[KQ (lx hj)]at e2;obtain⟨ws,T,Q⟩:=r.get j b ys e1 e2;have U:b≠a:=by
   rintro rfl;exact hj (pk r.nd e1 Z)
  exact⟨ws,by rw[aM U];exact T,RelDs.later r Y Q⟩
end
abbrev XD:=D->List b'->aE->Hp->Prop
def cont(K:dt)(E:XD){α:Type}(c:M α)(ι:List b')(S:aE)(H:Hp)(Q:α->List b'->aE->Hp->Prop):Prop:=
 ∃r S',c S=ar (r,S')/\∀ ι' H',Ext ι H ι' H'->Rep K ι' H' S'->match r with
  | .ok a=>Q a ι' S' H'
  | .ex x=>E x ι' S' H'
section
variable {K:dt}{E:XD}{ι:List b'}{S:aE}{H:Hp}{α β:Type}
theorem ak{c:M α}{f:α->M β}{Q:β->List b'->aE->Hp->Prop}(h:cont K E (c>>=f) ι S H Q):cont K E c ι S H (fun a Z S1 X=>cont K E (f a) Z S1 X Q):=by
 obtain⟨r,R,e,k⟩:=h;have Y:M.bnd c f S=ar (r,R):=e;unfold M.bnd at Y;cases q:c S with
 |none=>rw[q]at Y;cases Y
 | some p=>
  obtain⟨P,S1⟩:=p;rw[q]at Y;cases P with
  |ok a=>exact⟨.ok a,S1,q,fun Z X U rep1=>⟨r,R,Y,fun T O N rep2=>k T O (U.trans N) rep2⟩⟩
  |ex x=>
   cases Y;exact⟨.ex x,_,q,fun Z X U rep1=>k Z X U rep1⟩
theorem ax{c:M α}{Q T:α->List b'->aE->Hp->Prop}(h:cont K E c ι S H Q)(k:∀a ι' Z H',Ext ι H ι' H'->Rep K ι' H' Z->Q a ι' Z H'->T a ι' Z H'):cont K E c ι S H T:=by
 obtain⟨r,Z,e,q⟩:=h;refine⟨r,Z,e,fun Y U X rep1=>?_⟩;have:=q Y U X rep1;cases r with
 |ok a=>exact k a Y Z U X rep1 this
 |ex x=>exact this
theorem ah{a:α}{Q:α->List b'->aE->Hp->Prop}(h:cont K E (aC a) ι S H Q){Z:List b'}{Y:Hp}(x:Ext ι H Z Y)(r:Rep K Z Y S):Q a Z S Y:=by
 obtain⟨U,X,e,q⟩:=h;cases e;exact q Z Y x r
theorem ao{Q:α->List b'->aE->Hp->Prop}(h:cont K E (M.fail) ι S H Q):False:=by
 obtain⟨Y,Z,e,q⟩:=h;cases e
end
abbrev aD:=List (Option D)
inductive RelE(K:dt)(ι:List b')(H:Hp):aD->St->Prop where
 |nil:RelE K ι H [] []
 |cons {o:Option D} {u:Option V} {ρ:aD} {σ:St}:(∀d,o=ar d->∃v,u=ar v/\RelD K ι H d v)->RelE K ι H ρ σ->RelE K ι H (o::ρ) (u::σ)
section
variable {K:dt}{ι ι':List b'}{S:aE}{H H':Hp}
theorem RelE.later(r:Rep K ι H S)(e:Ext ι H ι' H'):∀{ρ:aD} {σ:St},RelE K ι H ρ σ->RelE K ι' H' ρ σ
 |_,_,.nil=>.nil
 |_,_,.cons h t=>.cons (fun d z=>let ⟨v,e1,e2⟩:=h d z;⟨v,e1,RelD.later r e e2⟩) (RelE.later r e t)
theorem RelE.get:∀{ρ:aD} {σ:St} {i:Nat} {d:D},RelE K ι H ρ σ->ρ[i]? =ar (ar d)->∃v,σ[i]? =ar (ar v)/\RelD K ι H d v
 |_,_,_,_,.nil,e=>by simp at e
 |_,_,0,_,.cons h _,e=>by
  simp at e;obtain⟨v,e1,e2⟩:=h _ e;exact⟨v,by simp[e1],e2⟩
 |_,_,i+1,_,.cons _ t,e=>by
  obtain⟨v,Y,Z⟩:=RelE.get (i:=i) t (by simpa using e)
  exact⟨v,by simpa using Y,Z⟩
theorem RelE.set(r:RelD K ι H d v):∀{ρ:aD} {σ:St} (i:Nat),RelE K ι H ρ σ->RelE K ι H (ρ.set i (ar d)) (σ.set i (ar v))
 |_,_,_,.nil=>.nil
 |_,_,0,.cons _ t=>.cons (fun d' z=>by cases z;exact⟨v,rfl,r⟩) t
 |_,_,i+1,.cons q t=>.cons q (RelE.set r i t)
theorem RelE.start:∀{ds:List D} {vs:List V},RelDs K ι H ds vs->∀n,RelE K ι H (ds.map ar++lk n none) (vs.map ar++lk n none)
 |_,_,.nil,n=>by
  induction n with
  |zero=>exact .nil
  |succ n ih=>exact .cons (fun d z=>by cases z) ih
 |_,_,.cons r t,n=>.cons (fun d z=>by cases z;exact⟨_,rfl,r⟩) (RelE.start t n)
end
abbrev TM:=aD->M D
def lC(K:dt)(Q:VK):D->List b'->aE->Hp->Prop:=fun d ι' _ H'=>∀v,RelD K ι' H' d v->Q v H'
def tM(K:dt)(E:XD)(m:TM):TE:=fun σ H Q=>∃ ι S ρ,Rep K ι H S/\RelE K ι H ρ σ/\cont K E (m ρ) ι S H (lC K Q)
def SE(X:Cx)(E:XD)(e:Expr)(m:TM):Prop:=PE X e (tM X.K E m)
def vI(K:dt)(E:XD)(m:aD->M Bool):TT:=fun σ H Q=>∃ ι S ρ,Rep K ι H S/\RelE K ι H ρ σ/\cont K E (m ρ) ι S H (fun b _ _ H'=>Q b H')
def SB(X:Cx)(E:XD)(e:Expr)(m:aD->M Bool):Prop:=PT X e (vI X.K E m)
def EX(X:Cx)(E:XD)(e:Expr)(m:aD->M Bool):Prop:=PW X e (vI X.K E m)
def IP(K:dt)(E:XD)(m:aD->M (List D)):TA:=fun σ H Q=>∃ ι S ρ,Rep K ι H S/\RelE K ι H ρ σ/\cont K E (m ρ) ι S H (fun ds ι' _ H'=>∀vs,RelDs K ι' H' ds vs->Q vs H')
def SA(X:Cx)(E:XD)(es:List Expr)(m:aD->M (List D)):Prop:=PA X es (IP X.K E m)
inductive Out where
 |nx (ρ:aD)|ret (d:D)|bk (ρ:aD)|ct (ρ:aD)
abbrev cK:=aD->M Out
def EY(K:dt)(T:Ends):Out->List b'->aE->Hp->Prop:=fun o ι' _ H'=>match o with
 | .nx ρ=>∀ σ,RelE K ι' H' ρ σ->T.nx σ H'
 | .ret d=>∀v,RelD K ι' H' d v->T.rt v H'
 | .bk ρ=>∀ σ,RelE K ι' H' ρ σ->T.bk σ H'
 | .ct ρ=>∀ σ,RelE K ι' H' ρ σ->T.ct σ H'
def Ju(K:dt)(E:XD)(m:cK):TS:=fun T σ H=>∃ ι S ρ,Rep K ι H S/\RelE K ι H ρ σ/\cont K E (m ρ) ι S H (EY K T)
def SS(X:Cx)(E:XD)(st:p7)(m:cK):Prop:=PS X st (Ju X.K E m)
def vo(X:Cx)(E:XD)(st:List p7)(m:cK):Prop:=qr X st (Ju X.K E m)
abbrev ky:=D->aD->M aD
def zR(K:dt)(E:XD)(m:ky):TG:=fun v σ H Q=>∃ ι S ρ d,Rep K ι H S/\RelE K ι H ρ σ/\RelD K ι H d v/\cont K E (m d ρ) ι S H (fun ρ' ι' _ H'=>∀ σ',RelE K ι' H' ρ' σ'->Q σ' H')
def SG(X:Cx)(E:XD)(tg:Expr)(m:ky):Prop:=PG X tg (zR X.K E m)
theorem PE.imp{X:Cx}{e:Expr}{t t':TE}(h:PE X e t)(k:∀ σ H Q,t' σ H Q->t σ H Q):PE X e t':=fun pins s σ H Q I hw=>h pins s σ H Q I (k σ H Q hw)
theorem PT.imp{X:Cx}{e:Expr}{t t':TT}(h:PT X e t)(k:∀ σ H Q,t' σ H Q->t σ H Q):PT X e t':=fun pins s σ H Q I hw=>h pins s σ H Q I (k σ H Q hw)
theorem PW.imp{X:Cx}{e:Expr}{t t':TT}(h:PW X e t)(k:∀ σ H Q,t' σ H Q->t σ H Q):PW X e t':=fun Z pins s σ H Q I hw=>h Z pins s σ H Q I (k σ H Q hw)
theorem PA.imp{X:Cx}{e:List Expr}{t t':TA}(h:PA X e t)(k:∀ σ H Q,t' σ H Q->t σ H Q):PA X e t':=fun pos pins s σ H Q I hw=>h pos pins s σ H Q I (k σ H Q hw)
theorem PS.imp{X:Cx}{e:p7}{t t':TS}(h:PS X e t)(k:∀D σ H,t' D σ H->t D σ H):PS X e t':=fun pins s σ H D I hw=>h pins s σ H D I (k D σ H hw)
theorem qr.imp{X:Cx}{e:List p7}{t t':TS}(h:qr X e t)(k:∀D σ H,t' D σ H->t D σ H):qr X e t':=fun pins s σ H D I hw=>h pins s σ H D I (k D σ H hw)
theorem PG.imp{X:Cx}{e:Expr}{t t':TG}(h:PG X e t)(k:∀v σ H Q,t' v σ H Q->t v σ H Q):PG X e t':=fun pins s σ H v u Q I r hw=>h pins s σ H v u Q I r (k v σ H Q hw)
section
variable {X:Cx}{E:XD}{a b e:Expr}{m n:TM}{pos:Pos}
def IQ(ρ:aD)(i:Nat):M D:=match ρ[i]? with
 |some (ar d)=>aC d
 |_=>M.fail
theorem aa(i:Nat)(W:X.N[i]? =ar x:=by rfl)(U:DT X.env.scope x:=by first|exact N4 rfl|exact Nr (N4 rfl)|exact Nr (Nr rfl))(Y:(x==("__debug__":Str))=false:=by decide)
  (Z:(x==("__classdict__":Str))=false:=by decide):SE X E (.Name x pos) (fun ρ=>IQ ρ i):=by
 refine PE.imp (zW W U Y Z) fun σ H Q h=>?_;obtain⟨T,S,ρ,rep,re,c⟩:=h;unfold IQ at c;dsimp only at c;split at c
 ·next d Y=>
  obtain⟨v,e1,e2⟩:=re.get Y;exact⟨v,e1,ah c .refl rep v e2⟩
 ·exact(ao c).elim
theorem jI(h:PE X e (tC v))(Y:∀Z H,RelD X.K Z H d v):SE X E e (fun _=>aC d):=by
 refine PE.imp h fun σ H Q h=>?_;obtain⟨Z,S,ρ,rep,re,c⟩:=h;exact ah c .refl rep v (Y _ _)
theorem aA{j}:SE X E (.Constant (.int i) j pos) (fun _=>aC (.int i)):=jI zX fun _ _=>.int i
theorem dQ{j}:SE X E (.Constant (.bool i) j pos) (fun _=>aC (.bl i)):=jI Gv fun _ _=>.bl i
theorem mM{j}:SE X E (.Constant .none j pos) (fun _=>aC .non):=jI Ee fun _ _=>.non
theorem pq{j}:SE X E (.Constant (.str x) j pos) (fun _=>aC (.str x)):=jI Ef fun _ _=>.str x
theorem CQ(Z:Gl X x)(Y:X.mg x=ar (.int i t))(W:(x==("__debug__":Str))=false:=by decide):SE X E (.Name x pos) (fun _=>aC (.int i)):=
 jI (Cq Z Y (v:=.int i) ⟨t,rfl⟩ W) fun _ _=>.int i
def tH(K:dt)(E:XD)(f:D->D->M D)(r:R2):Prop:=
 ∀ ι S H d1 d2 v1 v2 Q,Rep K ι H S->RelD K ι H d1 v1->RelD K ι H d2 v2->cont K E (f d1 d2) ι S H (lC K Q)->r v1 v2 H Q
theorem CS(P:tH X.K E f r)(h:tM X.K E (fun ρ=>do let x<-m ρ;let y<-n ρ;f x y) σ H Q):GJ r (tM X.K E m) (tM X.K E n) σ H Q:=by
 obtain⟨O,S,ρ,rep,re,c⟩:=h;refine⟨O,S,ρ,rep,re,ax (ak c) fun x Z S1 L e1 rep1 c1 v1 U=>?_⟩;refine⟨Z,S1,ρ,rep1,re.later rep e1,ax (ak c1) fun y Y T N e2 rep2 W v2 R=>?_⟩;exact P Y T N x y v1 v2 Q rep2 (U.later rep1 e2) R W
theorem qZ(h:iZ X (ri op) r)(Z:tH X.K E f r)(Y:SE X E a m)(W:SE X E b n):SE X E (.BinOp a op b pos) (fun ρ=>do let x<-m ρ;let y<-n ρ;f x y):=
 PE.imp (GK h Y W) fun _ _ _ q=>CS Z q
theorem si(h:iZ X (ij op) r)(Y:tH X.K E f r)(W:SE X E a m)(U:SE X E b n)(Z:ly op b=false:=by first|exact tL _ (by decide) (by decide)|rfl):
  SE X E (.Compare a [op] [b] pos) (fun ρ=>do let x<-m ρ;let y<-n ρ;f x y):=
 PE.imp (CC h W U Z) fun _ _ _ q=>CS Y q
theorem G1(h:Ce X r)(W:tH X.K E f r)(Z:SE X E a m)(Y:SE X E b n)(hs:rV b:=by intro _ _;rfl):SE X E (.Subscript a b pos) (fun ρ=>do let x<-m ρ;let y<-n ρ;f x y):=
 PE.imp (GW h Z Y hs) fun _ _ _ q=>CS W q
end
def lim:Nat:=10000000
theorem gg:lim<=sizeLine:=by rw[K9];decide
theorem An:lim<sizeLine:=by rw[K9];decide
section
variable {K:dt}{ι:List b'}{H:Hp}
theorem RelD.bl_inv(h:RelD K ι H (.bl b) v):v= .bl b:=by cases h;rfl
theorem RelD.int_inv(h:RelD K ι H (.int b) v):v= .int b:=by cases h;rfl
theorem RelD.str_inv(h:RelD K ι H (.str b) v):v= .str b:=by cases h;rfl
theorem RelD.non_inv(h:RelD K ι H .non v):v= .non:=by cases h;rfl
theorem RelD.tup_inv(h:RelD K ι H (.tup ds) v):∃a vs,v= .ref a/\H a=ar (.tup vs)/\RelDs K ι H ds vs:=by
 cases h with
 |tup h1 h2=>exact⟨_,_,rfl,h1,h2⟩
theorem RelD.lst_inv(h:RelD K ι H (.lst k) v):∃a,v= .ref a/\ι[k]? =ar a:=by
 cases h with
 |lst h1=>exact⟨_,rfl,h1⟩
theorem RelD.ro_inv(h:RelD K ι H (.ro ds) v):∃a vs,v= .ref a/\Cg K H a vs/\RelDs K ι H ds vs:=by
 cases h with
 |ro h1 h2=>exact⟨_,_,rfl,h1,h2⟩
theorem RelD.fz_inv(h:RelD K ι H (.fz ds) v):∃a o vs,v= .ref a/\H a=ar (.frz o (.lst vs))/\RelDs K ι H ds vs:=by
 cases h with
 |fz h1 h2=>exact⟨_,_,_,rfl,h1,h2⟩
theorem RelDs.nil_inv(h:RelDs K ι H [] vs):vs=[]:=by cases h;rfl
theorem RelDs.cons_inv(h:RelDs K ι H (d::ds) vs):∃v ws,vs=v::ws/\RelD K ι H d v/\RelDs K ι H ds ws:=by
 cases h with
 |cons h1 h2=>exact⟨_,_,rfl,h1,h2⟩
end
def lD:D->M Bool
 | .bl b=>aC b
 |_=>M.fail
def getL(k:Nat):M (List D):=fun S=>(S[k]?).bind fun xs=>ar (.ok xs,S)
def bD(ds:List D):M D:=fun S=>if ds.length<=lim then ar (.ok (.lst S.length),S++[ds])else none
def mO(k:Nat)(ds:List D):M D:=fun S=>if ds.length<=lim/\k<S.length then ar (.ok .non,S.set k ds)else none
def bA(ds:List D):M D:=if ds.length<=lim then aC (.tup ds)else M.fail
section
variable {K:dt}{E:XD}{ι:List b'}{S:aE}{H:Hp}{α:Type}
theorem sj{f:Bool->M α}(Z:Rep K ι H S)(r:RelD K ι H x v)(c:cont K E (lD x>>=f) ι S H Q):∃b,v= .bl b/\x= .bl b/\cont K E (f b) ι S H Q:=by
 cases x with
 |bl b=>exact⟨b,r.bl_inv,rfl,ah (ak c) .refl Z⟩
 |_=>exact(ao (ak c)).elim
theorem px{Q:Bool->List b'->aE->Hp->Prop}(Z:Rep K ι H S)(r:RelD K ι H x v)(c:cont K E (lD x) ι S H Q):∃b,v= .bl b/\x= .bl b/\Q b ι S H:=by
 cases x with
 |bl b=>exact⟨b,r.bl_inv,rfl,ah c .refl Z⟩
 |_=>exact(ao c).elim
theorem yG{Q:D->List b'->aE->Hp->Prop}(c:cont K E (bD ds) ι S H Q)(Z:Rep K ι H S)(r:RelDs K ι H ds vs):
  vs.length<=lim/\∀p,H p=none->Q (.lst S.length) (ι++[p]) (S++[ds]) (upd H p (.lst vs)):=by
 obtain⟨U,X,e,q⟩:=c;unfold bD at e;split at e
 ·next hl=>
  cases e;exact⟨by rw[<-r.length];exact hl,fun p Y=>q _ _ (tW Y) (Am Z Y r)⟩
 ·cases e
theorem Ao(Z:Rep K ι H S):RelD K (ι++[p]) H' (.lst S.length) (.ref p):=.lst (by rw[<-Z.len];simp)
theorem bE{Q:VK}(c:cont K E (bD ds) ι S H (lC K Q))(Z:Rep K ι H S)(r:RelDs K ι H ds vs):vs.length<=lim/\∀p,H p=none->Q (.ref p) (upd H p (.lst vs)):=
 let ⟨h1,h2⟩:=yG c Z r
 ⟨h1,fun p Y=>h2 p Y _ (Ao Z)⟩
theorem gZ{Q:VK}(c:cont K E (bA ds) ι S H (lC K Q))(Z:Rep K ι H S)(r:RelDs K ι H ds vs):vs.length<=lim/\∀p,H p=none->Q (.ref p) (upd H p (.tup vs)):=by
 unfold bA at c;split at c
 ·next hl=>
  refine⟨by rw[<-r.length];exact hl,fun p Y=>?_⟩
  exact ah c (iD Y) (kb Z Y) _ (.tup a7 (r.later Z (iD Y)))
 ·exact(ao c).elim
theorem je{Q:VK}(c:cont K E (bA ds) ι S H (lC K Q))(Z:Rep K ι H S)(h:H a=ar (.tup vs))(r:RelDs K ι H ds vs):Q (.ref a) H:=by
 unfold bA at c;split at c
 ·exact ah c .refl Z _ (.tup h r)
 ·exact(ao c).elim
theorem bp{f:List D->M α}(c:cont K E (getL k>>=f) ι S H Q)(Z:Rep K ι H S)(Y:ι[k]? =ar a):
  ∃ds vs,S[k]? =ar ds/\H a=ar (.lst vs)/\RelDs K ι H ds vs/\cont K E (f ds) ι S H Q:=by
 obtain⟨R,T,e,q⟩:=ak c;unfold getL at e;cases z:S[k]? with
 |none=>rw[z]at e;cases e
 |some ds=>
  rw[z]at e;cases e;obtain⟨vs,X,U⟩:=Z.get k a ds Y z;exact⟨ds,vs,rfl,X,U,q ι H .refl Z⟩
theorem i6{Q:D->List b'->aE->Hp->Prop}(c:cont K E (mO k ds) ι S H Q)(Z:Rep K ι H S)(Y:ι[k]? =ar a)(r:RelDs K ι H ds vs):
  vs.length<=lim/\Q .non ι (S.set k ds) (upd H a (.lst vs)):=by
 obtain⟨U,X,e,q⟩:=c;unfold mO at e;split at e
 ·next hl=>
  cases e;exact⟨by rw[<-r.length];exact hl.1,q _ _ (sg (Ky Y)) (sh Z Y r)⟩
 ·cases e
end
section
variable {X:Cx}{E:XD}{a b e:Expr}{m n:TM}{pos:Pos}{rest es:List Expr}{ms:aD->M (List D)}{t u:aD->M Bool}
theorem kG{op}(h:SE X E a m):SE X E (.BoolOp op [a] pos) m:=El h
theorem iQ(T:SE X E a m)(W:SE X E (.BoolOp .And (b::rest) pos) n):SE X E (.BoolOp .And (a::b::rest) pos) (fun ρ=>do let x<-m ρ;let c<-lD x;if c=b_ then n ρ else aC (.bl dV)):=by
 refine PE.imp (Em T W) fun σ H Q h=>?_;obtain⟨R,S,ρ,rep,re,c⟩:=h;refine⟨R,S,ρ,rep,re,ax (ak c) fun x Z S1 P e1 rep1 c1 v1 U=>?_⟩;obtain⟨k,rfl,rfl,Y⟩:=sj rep1 U c1;refine⟨k,rfl,?_⟩;cases k with
 |true=>exact⟨Z,S1,ρ,rep1,re.later rep e1,Y⟩
 |false=>exact ah Y .refl rep1 _ (.bl dV)
theorem EZ(U:SE X E a m):SE X E (.UnaryOp .Not a pos) (fun ρ=>do let x<-m ρ;let c<-lD x;aC (.bl (!c))):=by
 refine PE.imp (En U) fun σ H Q h=>?_;obtain⟨T,S,ρ,rep,re,c⟩:=h;refine⟨T,S,ρ,rep,re,ax (ak c) fun x W S1 R e1 rep1 c1 v1 Y=>?_⟩;obtain⟨k,rfl,rfl,Z⟩:=sj rep1 Y c1;exact⟨k,rfl,ah Z .refl rep1 _ (.bl _)⟩
theorem G2(h:vI X.K E (fun ρ=>do let x<-m ρ;lD x) σ H Q):tB (tM X.K E m) σ H Q:=by
 obtain⟨U,S,ρ,rep,re,c⟩:=h;refine⟨U,S,ρ,rep,re,ax (ak c) fun x W S1 T e1 rep1 c1 v1 Y=>?_⟩;obtain⟨k,rfl,rfl,Z⟩:=px rep1 Y c1;exact⟨k,rfl,Z⟩
theorem dM(h:SE X E e m)(Z:∀whole,isTrue e X.env whole=(do let v<-whole;F_ e.pos;z_ [v] (truthy v)):=by intro _;rfl):SB X E e (fun ρ=>do let x<-m ρ;lD x):=
 PT.imp (Eg h Z) fun _ _ _ q=>G2 q
theorem jJ(h:iZ X (ij op) r)(O:tH X.K E f r)(R:SE X E a m)(Y:SE X E b n)(U:ly op b=false:=by first|exact tL _ (by decide) (by decide)|rfl):
  SB X E (.Compare a [op] [b] pos) (fun ρ=>do let z<-(do let x<-m ρ;let y<-n ρ;f x y);lD z):=
 PT.imp (CD h R Y U) fun σ H Q q=>by
  obtain⟨N,S,ρ,rep,re,c⟩:=q;refine CS O (Q:=fun x P=>∃k,x= .bl k/\Q k P) ⟨N,S,ρ,rep,re,ax (ak c) fun x T S1 L e1 rep1 c1 v1 W=>?_⟩;obtain⟨k,rfl,rfl,Z⟩:=px rep1 W c1;exact⟨k,rfl,Z⟩
theorem fe(h:SB X E a t):SB X E (.UnaryOp .Not a pos) (fun ρ=>do let c<-t ρ;aC (!c)):=by
 refine PT.imp (Ej h) fun σ H Q q=>?_;obtain⟨Z,S,ρ,rep,re,c⟩:=q;exact⟨Z,S,ρ,rep,re,ax (ak c) fun k Y S1 W e1 rep1 c1=>ah c1 .refl rep1⟩
theorem xt(h:SB X E a t):EX X E (.BoolOp .And [a] pos) t:=Cs h
theorem mP(h:SB X E a t):EX X E (.BoolOp .Or [a] pos) t:=Eh h
theorem Ap(W:SB X E a t)(Y:EX X E (.BoolOp .And (b::rest) pos) u):EX X E (.BoolOp .And (a::b::rest) pos) (fun ρ=>do let c<-t ρ;if c=b_ then u ρ else aC dV):=by
 refine PW.imp (Ei W Y) fun σ H Q q=>?_;obtain⟨U,S,ρ,rep,re,c⟩:=q;refine⟨U,S,ρ,rep,re,ax (ak c) fun k Z S1 T e1 rep1 c1=>?_⟩;cases k with
 |true=>exact⟨Z,S1,ρ,rep1,re.later rep e1,c1⟩
 |false=>exact ah c1 .refl rep1
theorem lE(W:SB X E a t)(Y:EX X E (.BoolOp .Or (b::rest) pos) u):EX X E (.BoolOp .Or (a::b::rest) pos) (fun ρ=>do let c<-t ρ;if c=b_ then aC b_ else u ρ):=by
 refine PW.imp (Gw W Y) fun σ H Q q=>?_;obtain⟨U,S,ρ,rep,re,c⟩:=q;refine⟨U,S,ρ,rep,re,ax (ak c) fun k Z S1 T e1 rep1 c1=>?_⟩;cases k with
 |false=>exact⟨Z,S1,ρ,rep1,re.later rep e1,c1⟩
 |true=>exact ah c1 .refl rep1
theorem tX(h:EX X E e t):SB X E e t:=PW.pt h
theorem aq:SA X E [] (fun _=>aC []):=by
 refine PA.imp rS fun σ H Q q=>?_;obtain⟨Z,S,ρ,rep,re,c⟩:=q;exact ah c .refl rep _ .nil
theorem af(T:SE X E e m)(Y:SA X E es ms)(hs:eb (e::es) X.env=(dV,h_ e X.env)::eb es X.env:=by rfl):SA X E (e::es) (fun ρ=>do let x<-m ρ;let xs<-ms ρ;aC (x::xs)):=by
 refine PA.imp (lj T Y hs) fun σ H Q q=>?_;obtain⟨O,S,ρ,rep,re,c⟩:=q;refine⟨O,S,ρ,rep,re,ax (ak c) fun x Z S1 L e1 rep1 c1 v1 U=>?_⟩;refine⟨Z,S1,ρ,rep1,re.later rep e1,ax (ak c1) fun xs P N K e2 rep2 W vs R=>?_⟩;exact ah W .refl rep2 _ (.cons (U.later rep1 e2) R)
theorem eF{x1}(h:SA X E es ms):SE X E (.Tuple es x1 pos) (fun ρ=>do let ds<-ms ρ;bA ds):=by
 refine PE.imp (EK h) fun σ H Q q=>?_;obtain⟨T,S,ρ,rep,re,c⟩:=q;refine⟨T,S,ρ,rep,re,ax (ak c) fun x Y S1 R e1 rep1 c1 vs Z=>?_⟩;obtain⟨W,U⟩:=gZ c1 rep1 Z;exact⟨J4 W gg,U⟩
theorem fN(h:SA X E es ms):SE X E (.List es pos) (fun ρ=>do let ds<-ms ρ;bD ds):=by
 refine PE.imp (EL h) fun σ H Q q=>?_;obtain⟨T,S,ρ,rep,re,c⟩:=q;refine⟨T,S,ρ,rep,re,ax (ak c) fun x Y S1 R e1 rep1 c1 vs Z=>?_⟩;obtain⟨W,U⟩:=bE c1 rep1 Z;exact⟨J4 W gg,U⟩
def jK(K:dt)(E:XD)(f:List D->M D)(r:List V->Hp->VK->Prop):Prop:=
 ∀ ι S H ds vs Q,Rep K ι H S->RelDs K ι H ds vs->cont K E (f ds) ι S H (lC K Q)->r vs H Q
theorem G3(U:jK X.K E f r)(h:tM X.K E (fun ρ=>do let ds<-ms ρ;f ds) σ H Q):II r (IP X.K E ms) σ H Q:=by
 obtain⟨T,S,ρ,rep,re,c⟩:=h;exact⟨T,S,ρ,rep,re,ax (ak c) fun ds Z S1 Y e1 rep1 c1 vs W=>U Z S1 Y ds vs Q rep1 W c1⟩
theorem g0{x:Str}{W:String}{f:List D->M D}{r:List V->Hp->VK->Prop}{p:Pos}(N:eE X (.builtin W) r)(Q:jK X.K E f r)(U:Gl X x)(R:X.mg x=none)(O:la x=ar (.builtin W))(T:SA X E (e::es) ms)
  (P:x≠"__name__":=by decide) (Y:(x==("__debug__":Str))=false:=by decide) (S:eb (e::es) X.env=(dV,h_ e X.env)::eb es X.env:=by rfl) (Z:(pb pos (eb es X.env)).any (·.1)=false:=by rfl):
  SE X E (.Call (.Name x p) (e::es) [] pos) (fun ρ=>do let ds<-ms ρ;f ds):=
 PE.imp (tQ N U R O T P Y S Z) fun _ _ _ q=>G3 Q q
theorem rf(N:eE X (.type T) r)(Q:jK X.K E f r)(W:Gl X x)(R:X.mg x=none)(O:la x=ar (.type T))(U:SA X E (e::es) ms)
  (P:x≠"__name__":=by decide) (Y:(x==("__debug__":Str))=false:=by decide) (S:eb (e::es) X.env=(dV,h_ e X.env)::eb es X.env:=by rfl) (Z:(pb pos (eb es X.env)).any (·.1)=false:=by rfl):
  SE X E (.Call (.Name x p) (e::es) [] pos) (fun ρ=>do let ds<-ms ρ;f ds):=
 PE.imp (mG N W R O U P Y S Z) fun _ _ _ q=>G3 Q q
abbrev cw:XD:=fun _ _ _ _=>False
def JN(K:dt)(F:List D->M D):Sp:=fun vs H Q _=>∃ ι S ds,Rep K ι H S/\RelDs K ι H ds vs/\cont K cw (F ds) ι S H (lC K Q)
def G4(K:dt)(E:XD)(f:D->List D->M D)(r:V->List V->Hp->VK->Prop):Prop:=
 ∀ ι S H d ds v vs Q,Rep K ι H S->RelD K ι H d v->RelDs K ι H ds vs->cont K E (f d ds) ι S H (lC K Q)->r v vs H Q
end
theorem jf{K:dt}{E:XD}{α:Type}{c:M α}{U Z:List b'}{S:aE}{H X:Hp}{Q:α->List b'->aE->Hp->Prop}(h:cont K E c U S H Q)(e:Ext U H Z X):cont K E c Z S X Q:=by
 obtain⟨r,T,q,k⟩:=h;exact⟨r,T,q,fun Y R P rep2=>k Y R (e.trans P) rep2⟩
section
variable {X:Cx}{E:XD}{st:p7}{sts:List p7}{m n:cK}{e:Expr}{me:TM}{t:aD->M Bool}{pos:Pos}{g:ky}
def E1(o:Out)(n:cK):M Out:=match o with
 | .nx ρ=>n ρ
 | .ret d=>aC (.ret d)
 | .bk ρ=>aC (.bk ρ)
 | .ct ρ=>aC (.ct ρ)
theorem bQ:vo X E [] (fun ρ=>aC (.nx ρ)):=by
 refine qr.imp Ct fun T σ H h=>?_;obtain⟨Z,S,ρ,rep,re,c⟩:=h;exact ah c .refl rep σ re
theorem az(W:SS X E st m)(R:vo X E sts n):vo X E (st::sts) (fun ρ=>do let o<-m ρ;E1 o n):=by
 refine qr.imp (tN W R) fun T σ H h=>?_;obtain⟨Q,S,ρ,rep,re,c⟩:=h;refine⟨Q,S,ρ,rep,re,ax (ak c) fun o Z S1 P e1 rep1 c1=>?_⟩;cases o with
 |nx ρ'=>exact fun U Y=>⟨Z,S1,ρ',rep1,Y,c1⟩
 |ret d=>exact ah c1 .refl rep1
 |bk ρ'=>exact ah c1 .refl rep1
 |ct ρ'=>exact ah c1 .refl rep1
theorem aF(Z:SS X E st m):vo X E [st] m:=by
 refine qr.imp (xc Z) fun T σ H h=>h
theorem cq(Z:SE X E e me)(hs:p8 e none pos.line X.env=aC false:=by rfl):SS X E (.Expr e pos) (fun ρ=>do let _<-me ρ;aC (.nx ρ)):=by
 refine PS.imp (Cu Z hs) fun T σ H h=>?_;obtain⟨W,S,ρ,rep,re,c⟩:=h;refine⟨W,S,ρ,rep,re,ax (ak c) fun d Y S1 U e1 rep1 c1 v r=>?_⟩;exact ah c1 .refl rep1 σ (re.later rep e1)
theorem aU(Z:SE X E e me):SS X E (.Return (ar e) pos) (fun ρ=>do let d<-me ρ;aC (.ret d)):=by
 refine PS.imp (Eo Z) fun T σ H h=>?_;obtain⟨Y,S,ρ,rep,re,c⟩:=h;exact⟨Y,S,ρ,rep,re,ax (ak c) fun d W S1 U e1 rep1 c1=>ah c1 .refl rep1⟩
theorem cR(R:SB X E e t)(W:vo X E a m)(Y:vo X E b n):SS X E (.If e a b pos) (fun ρ=>do let c<-t ρ;if c=b_ then m ρ else n ρ):=by
 refine PS.imp (GC R W Y) fun T σ H h=>?_;obtain⟨U,S,ρ,rep,re,c⟩:=h;refine⟨U,S,ρ,rep,re,ax (ak c) fun k Z S1 Q e1 rep1 c1=>?_⟩;cases k with
 |true=>exact⟨Z,S1,ρ,rep1,re.later rep e1,c1⟩
 |false=>exact⟨Z,S1,ρ,rep1,re.later rep e1,c1⟩
theorem aH(i:Nat)(Z:X.N.Nodup)(U:X.N[i]? =ar x:=by rfl)(W:Loc X.env.scope x:=by first|exact N4 rfl|exact Nr rfl)(Y:X.fn x=b_\/X.env.scope.names.lookup x=ar .local:=by first|exact .inl rfl|exact .inr rfl|assumption):
  SG X E (.Name x pos) (fun d ρ=>aC (ρ.set i (ar d))):=by
 refine PG.imp (Cv Z U W Y) fun v σ H Q h=>?_;obtain⟨T,S,ρ,d,rep,re,r,c⟩:=h;exact ah c .refl rep _ (re.set r i)
def IR(K:dt)(E:XD)(m:List D->aD->M aD):Ep:=fun vs σ H Q=>∃ ι S ρ ds,Rep K ι H S/\RelE K ι H ρ σ/\RelDs K ι H ds vs/\cont K E (m ds ρ) ι S H (fun ρ' ι' _ H'=>∀ σ',RelE K ι' H' ρ' σ'->Q σ' H')
def HN(X:Cx)(E:XD)(ts:List Expr)(m:List D->aD->M aD):Prop:=Cc X ts (IR X.K E m)
theorem Cc.imp{X:Cx}{e:List Expr}{t t':Ep}(h:Cc X e t)(k:∀v σ H Q,t' v σ H Q->t v σ H Q):Cc X e t':=fun pins s σ H v u Q I r hw=>h pins s σ H v u Q I r (k v σ H Q hw)
def cF:List D->aD->M aD:=fun ds ρ=>match ds with
 |[]=>aC ρ
 |_=>M.fail
def aN(g:ky)(gs:List D->aD->M aD):List D->aD->M aD:=fun ds ρ=>match ds with
 |d::r=>do let ρ1<-g d ρ;gs r ρ1
 |_=>M.fail
theorem dC:HN X E [] cF:=by
 refine Cc.imp Cw fun vs σ H Q h=>?_;obtain⟨Z,S,ρ,ds,rep,re,r,c⟩:=h;cases ds with
 |nil=>exact⟨r.nil_inv,ah c .refl rep σ re⟩
 |cons d ds=>exact(ao c).elim
theorem ba(T:SG X E e g)(P:HN X E es gs)(hs:(pd (e::es) X.env).map (·.2)=K' e X.env::(pd es X.env).map (·.2):=by rfl):HN X E (e::es) (aN g gs):=by
 refine Cc.imp (zZ T P hs) fun vs σ H Q h=>?_;obtain⟨O,S,ρ,ds,rep,re,r,c⟩:=h;cases ds with
 |nil=>exact(ao c).elim
 |cons d ds=>
  obtain⟨v,ws,rfl,U,R⟩:=r.cons_inv;refine⟨v,ws,rfl,O,S,ρ,d,rep,re,U,ax (ak c) fun Z Y S1 L e1 rep1 c1 N W=>?_⟩;exact⟨Y,S1,Z,ds,rep1,W,R.later rep e1,c1⟩
def cA(n:Nat)(gs:List D->aD->M aD):ky:=fun d ρ=>match d with
 | .tup ds=>if ds.length=n then gs ds ρ else M.fail
 |_=>M.fail
theorem fg{es:List Expr}{k:Nat}{n:Nat}{Y:List D->aD->M aD}(P:X.calm=b_)(h:HN X E es Y)(U:(pd es X.env).length=n:=by rfl)(Z:(pd es X.env).findIdx? (·.1)=none:=by rfl):
  SG X E (.Tuple es k pos) (cA n Y):=by
 refine PG.imp (Es P h U Z) fun v σ H Q q=>?_;obtain⟨R,S,ρ,d,rep,re,r,c⟩:=q;cases d with
 |tup ds=>
  obtain⟨a,vs,rfl,T,W⟩:=r.tup_inv;dsimp only[cA]at c;split at c
  ·next hl=>exact⟨a,vs,rfl,nG.of T,by rw[<-W.length];exact hl,R,S,ρ,ds,rep,re,W,c⟩
  ·exact(ao c).elim
 |_=>exact(ao c).elim
theorem jL(W:SE X E e me)(U:SG X E tg g)(hs:swapsWithSole [tg] e pos.line X.env=aC false:=by rfl)(O:swappedStores [tg] e X.env=aC none:=by rfl)
  (R:(pd [tg] X.env).map (·.2)=[K' tg X.env]:=by rfl):SS X E (.Assign [tg] e pos) (fun ρ=>do let d<-me ρ;let ρ'<-g d ρ;aC (.nx ρ')):=by
 refine PS.imp (Ew W U hs O R) fun T σ H h=>?_;obtain⟨P,S,ρ,rep,re,c⟩:=h;refine⟨P,S,ρ,rep,re,ax (ak c) fun d Z S1 L e1 rep1 c1 v r=>?_⟩;exact⟨Z,S1,ρ,d,rep1,re.later rep e1,r,ax (ak c1) fun ρ' Q N K e2 rep2 Y=>ah Y .refl rep2⟩
theorem b9(i:Nat)(Z:X.N.Nodup)(U:SE X E e me)(Q:X.N[i]? =ar x:=by rfl)(W:Loc X.env.scope x:=by first|exact N4 rfl|exact Nr rfl)(hs:p8 e (ar (.Name x pos')) pos.line X.env=aC false:=by rfl)
  (Y:X.fn x=b_\/X.env.scope.names.lookup x=ar .local:=by first|exact .inl rfl|exact .inr rfl|assumption):SS X E (.Assign [.Name x pos'] e pos) (fun ρ=>do let d<-me ρ;aC (.nx (ρ.set i (ar d)))):=by
 refine PS.imp (Ex Z Q W U hs Y) fun T σ H h=>?_;obtain⟨P,S,ρ,rep,re,c⟩:=h;refine⟨P,S,ρ,rep,re,ax (ak c) fun d R S1 O e1 rep1 c1 v r=>?_⟩;exact ah c1 .refl rep1 _ ((re.later rep e1).set r i)
def IS(K:dt)(E:XD)(f:D->D->D->M Unit)(r:Er):Prop:=
 ∀ ι S H d1 d2 d3 v1 v2 v3 Q,Rep K ι H S->RelD K ι H d1 v1->RelD K ι H d2 v2->RelD K ι H d3 v3->cont K E (f d1 d2 d3) ι S H (fun _ _ _ H'=>Q H')->r v1 v2 v3 H Q
def jM:D->D->D->M Unit:=fun o i v=>match o,i with
 | .lst k,.int j=>do
  let xs<-getL k
  match zQ xs.length j with
  |some at'=>do let _<-mO k (xs.set at' v);aC ()
  |none=>M.fail
 |_,_=>M.fail
inductive Chk where
 |none|some (k:Nat)|two (k j:Nat) (xs ys:List D)
structure Iter where
 items:List D
 chk:Chk
def Iter.okS(it:Iter)(S:aE):Prop:=match it.chk with
 | .none=>True
 | .some k=>S[k]? = .some it.items
 | .two k j xs ys=>S[k]? = .some xs/\S[j]? = .some ys
open Classical in
def gG(it:Iter):M Unit:=fun S=>if it.okS S then ar (.ok (),S)else none
def iR(K:dt)(it:Iter)(J:It)(ι:List b')(H:Hp):Prop:=
 ∀ ι2 H2 S2,ExtN ι H ι2 H2->Rep K ι2 H2 S2->it.okS S2->∀i,(∀d,it.items[i]? =ar d->J.go i H2/\∀x H3,J.yld i H2 x H3->Ext ι2 H2 ι2 H3/\Rep K ι2 H3 S2/\RelD K ι2 H3 d x)/\(it.items.length<=i->J.stop i H2)
def Gd(K:dt)(E:XD)(mi:aD->M Iter):TI:=fun σ H R=>∃ ι S ρ,Rep K ι H S/\RelE K ι H ρ σ/\cont K E (mi ρ) ι S H (fun it ι' _ H'=>∀J,iR K it J ι' H'->R J H')
def SI(X:Cx)(E:XD)(tg iter:Expr)(mi:aD->M Iter):Prop:=PI X tg iter (Gd X.K E mi)
def gH(it:Iter)(g:ky)(b:cK):List D->aD->M Out
 |[],ρ=>do gG it;aC (.nx ρ)
 |d::ds,ρ=>do
  gG it
  let ρ1<-g d ρ;let o<-b ρ1
  match o with
  | .nx ρ'=>gH it g b ds ρ'
  | .ct ρ'=>gH it g b ds ρ'
  | .bk ρ'=>aC (.nx ρ')
  | .ret r=>aC (.ret r)
theorem i7{K:dt}{Z:List b'}{S:aE}{H:Hp}{α:Type}{it:Iter}{f:Unit->M α}{Q:α->List b'->aE->Hp->Prop}(h:cont K E (gG it>>=f) Z S H Q)(Y:Rep K Z H S):it.okS S/\cont K E (f ()) Z S H Q:=by
 obtain⟨r,U,e,k⟩:=ak h;unfold gG at e;split at e
 ·next ho=>cases e;exact⟨ho,k Z H .refl Y⟩
 ·cases e
theorem sr(hp:Nz (ff X.prog X.w) X.A X.env X.xe)(hc:X.calm=b_)(hi:SI X E tg iter mi)(hg:SG X E tg g)(hb:vo X E body b)
  (hs:∀x,hh iter X.env x=aC x:=by intro _;rfl):SS X E (.For tg iter body [] pos) (fun ρ=>do let it<-mi ρ;gH it g b it.items ρ):=by
 refine PS.imp (EB hp hc hi hg hb hs) fun T σ H h=>?_;obtain⟨ι,S,ρ,rep,re,c⟩:=h;refine⟨ι,S,ρ,rep,re,ax (ak c) fun it W S1 s e1 rep1 c1 J p=>?_⟩;refine⟨fun i n Q U=>∃ ι2 S2 ρ2,n=it.items.length - i/\i<=it.items.length/\Ext W s ι2 U/\Rep X.K ι2 U S2/\RelE X.K ι2 U ρ2 Q/\cont X.K E (gH it g b (it.items.drop i) ρ2) ι2 S2 U (EY X.K T),⟨_,W,S1,ρ,rfl,Ku _,.refl,rep1,re.later rep e1,c1⟩,?_⟩;rintro i n Q U ⟨ι2,S2,ρ2,hn,hi',e2,rep2,re2,c2⟩;by_cases hlt:i<it.items.length
 ·have hd:it.items.drop i=it.items[i]::it.items.drop (i+1):=LX hlt;rw[hd]at c2;have O:cont X.K E (do gG it;let ρ1<-g it.items[i] ρ2;let o<-b ρ1;match o with| .nx ρ'=>gH it g b (it.items.drop (i+1)) ρ'| .ct ρ'=>gH it g b (it.items.drop (i+1)) ρ'| .bk ρ'=>aC (.nx ρ')| .ret r=>aC (.ret r)) ι2 S2 U (EY X.K T):=c2
  obtain⟨ok,q⟩:=i7 O rep2;obtain⟨B,j⟩:=p ι2 U S2 e2.n rep2 ok i;obtain⟨go,yl⟩:=B it.items[i] (JX hlt);refine .inr ⟨go,fun R Y=>∃ ι3 S3 ρ3,Ext W s ι3 Y/\Rep X.K ι3 Y S3/\RelE X.K ι3 Y ρ3 R/\cont X.K E (gH it g b (it.items.drop (i+1)) ρ3) ι3 S3 Y (EY X.K T),?_,fun x H3 hy=>?_⟩
  ·rintro R Y ⟨ι3,S3,ρ3,I,rep3,re3,z⟩;exact⟨_,by omega,ι3,S3,ρ3,rfl,hlt,I,rep3,re3,z⟩
  ·obtain⟨I,rep3,f⟩:=yl x H3 hy;refine⟨ι2,S2,ρ2,it.items[i],rep3,re2.later rep2 I,f,ax (ak (jf q I)) fun v y S4 H4 e4 L z k C=>?_⟩;refine⟨y,S4,v,L,C,ax (ak z) fun o P l H5 a Z F=>?_⟩;have G:Ext W s P H5:=e2.trans (I.trans (e4.trans a));cases o with
   |nx ρ'=>exact fun u N=>⟨P,l,ρ',G,Z,N,F⟩
   |ct ρ'=>exact fun u N=>⟨P,l,ρ',G,Z,N,F⟩
   |bk ρ'=>exact ah F .refl Z
   |ret d=>exact ah F .refl Z
 ·have hd:it.items.drop i=[]:=Mh (by omega)
  rw[hd]at c2;have O:cont X.K E (do gG it;aC (.nx ρ2)) ι2 S2 U (EY X.K T):=c2
  obtain⟨ok,q⟩:=i7 O rep2;exact .inl ⟨(p ι2 U S2 e2.n rep2 ok i).2 (by omega),ah q .refl rep2 Q re2⟩
def jN(t:aD->M Bool)(b:cK):Nat->aD->M Out
 |0,_=>M.fail
 | k+1,ρ=>do
  let c<-t ρ
  if c=b_ then do
   let o<-b ρ
   match o with
   | .nx ρ'=>jN t b k ρ'
   | .ct ρ'=>jN t b k ρ'
   | .bk ρ'=>aC (.nx ρ')
   | .ret r=>aC (.ret r)
  else aC (.nx ρ)
theorem Aq(k:Nat)(C:Nz (ff X.prog X.w) X.A X.env X.xe)(y:SB X E e t)(F:vo X E body b):SS X E (.While e body [] pos) (fun ρ=>jN t b k ρ):=by
 refine PS.imp (z5 C y F) fun T σ H h=>?_;obtain⟨z,S,ρ,rep,re,c⟩:=h;refine⟨fun n R O=>∃ ι2 S2 ρ2,Rep X.K ι2 O S2/\RelE X.K ι2 O ρ2 R/\cont X.K E (jN t b n ρ2) ι2 S2 O (EY X.K T),⟨k,z,S,ρ,rep,re,c⟩,?_⟩;rintro n R O ⟨ι2,S2,ρ2,rep2,re2,c2⟩;cases n with
 |zero=>exact(ao c2).elim
 | succ n=>
  refine⟨ι2,S2,ρ2,rep2,re2,ax (ak c2) fun k L B u I rep3 J=>?_⟩;cases k with
  |false=>exact ah J .refl rep3 R (re2.later rep2 I)
  |true=>
   refine⟨fun W Y=>∃ ι2 S2 ρ2,Rep X.K ι2 Y S2/\RelE X.K ι2 Y ρ2 W/\cont X.K E (jN t b n ρ2) ι2 S2 Y (EY X.K T),fun W Y h=>⟨n,LK _,h⟩,?_⟩;refine⟨L,B,ρ2,rep3,re2.later rep2 I,ax (ak J) fun o Q G x v Z P=>?_⟩;cases o with
   |nx ρ'=>exact fun N U=>⟨Q,G,ρ',Z,U,P⟩
   |ct ρ'=>exact fun N U=>⟨Q,G,ρ',Z,U,P⟩
   |bk ρ'=>exact ah P .refl Z
   |ret d=>exact ah P .refl Z
end
def dg(H:Hp)(p:b'):Hp:=fun a=>if a=p then none else H a
theorem hide_ne{H:Hp}(h:a≠p):dg H p a=H a:=if_neg h
theorem kc:dg H p p=none:=if_pos rfl
theorem cD{H:Hp}(h:dg H p a=ar o):a≠p/\H a=ar o:=by
 by_cases e:a=p
 ·rw[e,kc]at h;cases h
 ·rw[hide_ne e]at h;exact⟨e,h⟩
theorem tY{H:Hp}(h:H p=ar o):upd (dg H p) p o=H:=by
 funext a;by_cases e:a=p
 ·rw[e,a7,h]
 ·rw[aM e,hide_ne e]
theorem dZ:dg (upd H p o) p=dg H p:=by
 funext a;by_cases e:a=p
 ·rw[e,kc,kc]
 ·rw[hide_ne e,hide_ne e,aM e]
theorem g6{H:Hp}(h:H p=none):dg H p=H:=by
 funext a;by_cases e:a=p
 ·rw[e,kc,h]
 ·rw[hide_ne e]
section
variable {K:dt}{ι ι':List b'}{H H':Hp}{S:aE}{p:b'}
mutual
theorem RelD.hide(Z:H p=ar (.lst ws)):∀{d:D} {v:V},RelD K ι H d v->RelD K ι (dg H p) d v
 |_,_,.non=>.non
 |_,_,.bl b=>.bl b
 |_,_,.int i=>.int i
 |_,_,.str x=>.str x
 |_,_,.tup h hs=>.tup (by rw[hide_ne (fun z=>by rw[z,Z]at h;cases h)];exact h) (RelDs.hide Z hs)
 |_,_,.lst h=>.lst h
 |_,_,.ro h hs=>.ro (h.imp (fun⟨o,h⟩=>⟨o,by rw[hide_ne (fun z=>by rw[z,Z]at h;cases h)];exact h⟩) fun z=>z) (RelDs.hide Z hs)
 |_,_,.emp h=>.emp (by rw[hide_ne (fun z=>by rw[z,Z]at h;cases h)];exact h)
 |_,_,.fn h hs=>.fn (by rw[hide_ne (fun z=>by rw[z,Z]at h;cases h)];exact h) (RelDs.hide Z hs)
 |_,_,.exc n h=>.exc n (by rw[hide_ne (fun z=>by rw[z,Z]at h;cases h)];exact h)
 |_,_,.excF n h h2 hn hs=>.excF n (by rw[hide_ne (fun z=>by rw[z,Z]at h;cases h)];exact h) (by rw[hide_ne (fun z=>by rw[z,Z]at h2;cases h2)];exact h2) hn (RelDs.hide Z hs)
 |_,_,.fz h hs=>.fz (by rw[hide_ne (fun z=>by rw[z,Z]at h;cases h)];exact h) (RelDs.hide Z hs)
theorem RelDs.hide(Z:H p=ar (.lst ws)):∀{ds:List D} {vs:List V},RelDs K ι H ds vs->RelDs K ι (dg H p) ds vs
 |_,_,.nil=>.nil
 |_,_,.cons h hs=>.cons (RelD.hide Z h) (RelDs.hide Z hs)
end
mutual
theorem RelD.unhide:∀{d:D} {v:V},RelD K ι (dg H p) d v->RelD K ι H d v
 |_,_,.non=>.non
 |_,_,.bl b=>.bl b
 |_,_,.int i=>.int i
 |_,_,.str x=>.str x
 |_,_,.tup h hs=>.tup (cD h).2 (RelDs.unhide hs)
 |_,_,.lst h=>.lst h
 |_,_,.ro h hs=>.ro (h.imp (fun⟨o,h⟩=>⟨o,(cD h).2⟩) fun z=>z) (RelDs.unhide hs)
 |_,_,.emp h=>.emp (cD h).2
 |_,_,.fn h hs=>.fn (cD h).2 (RelDs.unhide hs)
 |_,_,.exc n h=>.exc n (cD h).2
 |_,_,.excF n h h2 hn hs=>.excF n (cD h).2 (cD h2).2 hn (RelDs.unhide hs)
 |_,_,.fz h hs=>.fz (cD h).2 (RelDs.unhide hs)
theorem RelDs.unhide:∀{ds:List D} {vs:List V},RelDs K ι (dg H p) ds vs->RelDs K ι H ds vs
 |_,_,.nil=>.nil
 |_,_,.cons h hs=>.cons (RelD.unhide h) (RelDs.unhide hs)
end
theorem RelE.hide(Z:H p=ar (.lst ws)):∀{ρ:aD} {σ:St},RelE K ι H ρ σ->RelE K ι (dg H p) ρ σ
 |_,_,.nil=>.nil
 |_,_,.cons h t=>.cons (fun d z=>let ⟨v,e1,e2⟩:=h d z;⟨v,e1,e2.hide Z⟩) (RelE.hide Z t)
theorem RelE.unhide:∀{ρ:aD} {σ:St},RelE K ι (dg H p) ρ σ->RelE K ι H ρ σ
 |_,_,.nil=>.nil
 |_,_,.cons h t=>.cons (fun d z=>let ⟨v,e1,e2⟩:=h d z;⟨v,e1,e2.unhide⟩) (RelE.unhide t)
theorem Rep.hide(Z:H p=ar (.lst ws))(Y:p∉ι)(r:Rep K ι H S):Rep K ι (dg H p) S:=
 ⟨r.nd,r.len,fun k a xs e1 e2=>let ⟨vs,h1,h2⟩:=r.get k a xs e1 e2;⟨vs,by rw[hide_ne (fun z=>Y (by rw[<-z];exact Ky e1))];exact h1,h2.hide Z⟩,r.tab.mono fun b o h n=>by rw[hide_ne (fun z=>by subst z;rw[h]at Z;exact n ws (Kl Z))];exact h⟩
theorem Rep.unhide(r:Rep K ι (dg H p) S):Rep K ι H S:=
 ⟨r.nd,r.len,fun k a xs e1 e2=>let ⟨vs,h1,h2⟩:=r.get k a xs e1 e2;⟨vs,(cD h1).2,h2.unhide⟩,r.tab.mono fun b o h _=>(cD h).2⟩
theorem Ext.hide(e:Ext ι H ι' H'):Ext ι (dg H p) ι' (dg H' p):=
 ⟨e.ids,fun a o h n t=>by
  obtain⟨Y,U⟩:=cD h;obtain⟨Z,X⟩:=e.oth a o U n t;exact⟨by rw[hide_ne Y];exact Z,X⟩⟩
theorem Ext.unhide(e:Ext ι H ι' (dg H' p)):Ext ι H ι' H':=
 ⟨e.ids,fun a o h n t=>by
  obtain⟨Z,Y⟩:=e.oth a o h n t;exact⟨(cD Z).2,Y⟩⟩
theorem fO{E:XD}{α:Type}{c:M α}{Y:List V}{Q:α->List b'->aE->Hp->Prop}(h:cont K cw c ι S (dg H p) Q)(R:H p=ar (.lst Y))(T:p∉ι):
  cont K E c ι S H (fun a ι' Z H'=>H' p=ar (.lst Y)/\p∉ι'/\Q a ι' Z (dg H' p)):=by
 obtain⟨r,Z,e,k⟩:=h;refine⟨r,Z,e,fun ι' H' x rep=>?_⟩;obtain⟨X,U⟩:=x.oth p _ R T (by intro _ z;cases z)
 have:=k ι' (dg H' p) x.hide (rep.hide X U);cases r with
 |ok a=>exact⟨X,U,this⟩
 |ex y=>exact this.elim
end
def gh(js:List (Option Nat))(ρ:aD):aD:=js.map fun o=>o.bind fun j=>(ρ[j]?).join
theorem RelE.blk{K:dt}{U:List b'}{H:Hp}{ρ:aD}{Y:St}(X:RelE K U H ρ Y):∀js:List (Option Nat),RelE K U H (gh js ρ) (mL js Y)
 |[]=>.nil
 |none::js=>.cons (fun d z=>by cases z) (RelE.blk X js)
 | some j::js=>.cons (fun d z=>by
   have Z:(ρ[j]?).join=ar d:=z;have:ρ[j]? =ar (ar d):=by
    cases q:ρ[j]? with
    |none=>rw[q]at Z;cases Z
    |some o=>rw[q]at Z;exact Mx ar Z
   obtain⟨v,e1,e2⟩:=X.get this;refine⟨v,?_,e2⟩;show(Y[j]?).join=ar v;rw[e1];rfl) (RelE.blk X js)
def cC(it:Iter)(g:ky)(t:aD->M Bool)(m:TM):List D->aD->M (List D)
 |[],ρ=>do gG it;aC []
 | d::ds,ρ=>do
  gG it
  let ρ1<-g d ρ;let b<-t ρ1
  if b=b_ then do
   let y<-m ρ1;let ys<-cC it g t m ds ρ1
   aC (y::ys)
  else cC it g t m ds ρ1
def fA(it:Iter)(g:ky)(t:aD->M Bool)(m:TM)(ρ:aD):M (List D):=if it.items.length<=lim then cC it g t m it.items ρ else M.fail
def E2(X:Cx)(E:XD)(ifs:List Expr)(t:aD->M Bool):Prop:=Cf X ifs (vI X.K E t)
theorem bR:E2 X E [] (fun _=>aC b_):=fun pins s σ H Q I h=>CN pins s σ H Q I (by
 obtain⟨Z,S,ρ,rep,re,c⟩:=h;exact ah c .refl rep)
theorem fB(h:SB X E c t):E2 X E [c] t:=CO h
section
variable {X:Cx}{scope:Scope}{Nc:List Str}{js:List (Option Nat)}{elt tg iter:Expr}{ifs:List Expr}{pos:Pos}{mi:aD->M Iter}{g:ky}{t:aD->M Bool}{m:TM}
theorem fu{α Z Y:Type}(c:M α)(f:α->M Z)(h:Z->M Y):((c>>=f)>>=h)=(c>>=fun a=>f a>>=h):=by
 funext S;show M.bnd (M.bnd c f) h S=M.bnd c (fun a=>M.bnd (f a) h) S;unfold M.bnd;cases c S with
 |none=>rfl
 |some r=>
  obtain⟨r,W⟩:=r;cases r<;>rfl
theorem aj{α Z:Type}(a:α)(f:α->M Z):(aC a>>=f)=f a:=rfl
theorem xu{α Z:Type}{c:Prop} [Decidable c](x y:M α)(f:α->M Z):((if c then x else y)>>=f)=if c then x>>=f else y>>=f:=by split<;>rfl
abbrev G5(js:List (Option Nat))(g:TG)(tt:TT)(te:TE)(σ:St)(Q:VK):It->Hp->Prop:=fun J H1=>∀p,H1 p=none->
 ∃W:Nat->Nat->St->Hp->Prop,(∃m,W 0 m (mL js σ) (upd H1 p (.lst [])))/\∀i m σc Hc,W i m σc Hc->
  (J.stop i Hc/\Q (.ref p) Hc)\/(J.go i Hc/\∃N:St->Hp->Prop,(∀ σ' H',N σ' H'->∃m',m'<m/\W (i+1) m' σ' H')/\∀x H',J.yld i Hc x H'->g x σc H' fun σ2 H2=>tt σ2 H2 fun b H3=>
   if b=b_ then te σ2 H3 fun y H4=>∃xs,H4 p=ar (.lst xs)/\xs.length<sizeLine/\N σ2 (upd H4 p (.lst (xs++[y])))else N σ2 H3)
theorem tZ{Q:VK}{d:St}{H:Hp}{u:List b'}{S:aE}{ρ:aD}(f:Rep X.K u H S)(re:RelE X.K u H ρ d)(c:cont X.K cw (do let it<-mi ρ;let ys<-fA it g t m (gh js ρ);bD ys) u S H (lC X.K Q)):
  cont X.K cw (mi ρ) u S H (fun it Y _ T=>∀J,iR X.K it J Y T->G5 js (zR X.K cw g) (vI X.K cw t) (tM X.K cw m) d Q J T):=by
 refine ax (ak c) fun it Y S1 T e1 rep1 c1 J a p A=>?_;have j:it.items.length<=lim/\cont X.K cw (cC it g t m it.items (gh js ρ)>>=fun ys=>bD ys) Y S1 T (lC X.K Q):=by
  have U:cont X.K cw ((if it.items.length<=lim then cC it g t m it.items (gh js ρ)else M.fail)>>=fun ys=>bD ys) Y S1 T (lC X.K Q):=c1;by_cases h:it.items.length<=lim
  ·rw[if_pos h]at U;exact⟨h,U⟩
  ·rw[if_neg h]at U;exact(ao (ak U)).elim
 obtain⟨hlen,c1⟩:=j;have q:RelE X.K Y T (gh js ρ) (mL js d):=(re.later f e1).blk js;refine⟨fun i n v W=>∃ ι2 S2 ρ2 xs vs,n=it.items.length - i/\i<=it.items.length/\Ext Y T ι2 (dg W p)/\Rep X.K ι2 (dg W p) S2/\RelE X.K ι2 (dg W p) ρ2 v/\W p=ar (.lst vs)/\p∉ι2/\RelDs X.K ι2 (dg W p) xs vs/\xs.length<=i/\
  cont X.K cw (cC it g t m (it.items.drop i) ρ2>>=fun ys=>bD (xs++ys)) ι2 S2 (dg W p) (lC X.K Q),⟨_,Y,S1,gh js ρ,[],[],rfl,Ku _,?_,?_,?_,a7,rep1.free A,.nil,Ku _,?_⟩,?_⟩
 ·rw[dZ,g6 A];exact .refl
 ·rw[dZ,g6 A];exact rep1
 ·rw[dZ,g6 A];exact q
 ·rw[dZ,g6 A];exact c1
 rintro i n v W ⟨ι2,S2,ρ2,xs,vs,hn,hi',e2,rep2,re2,hpc,hpn,rx,hlim,c2⟩;by_cases hlt:i<it.items.length
 ·have hd:it.items.drop i=it.items[i]::it.items.drop (i+1):=LX hlt;rw[hd]at c2;have O:cont X.K cw (gG it>>=fun _=>g it.items[i] ρ2>>=fun Z=>t Z>>=fun b=>if b=b_ then m Z>>=fun y=>cC it g t m (it.items.drop (i+1)) Z>>=fun ys=>bD (xs++y::ys)else cC it g t m (it.items.drop (i+1)) Z>>=fun ys=>bD (xs++ys)) ι2 S2 (dg W p) (lC X.K Q):=by
   have:(cC it g t m (it.items[i]::it.items.drop (i+1)) ρ2>>=fun ys=>bD (xs++ys))=(gG it>>=fun _=>g it.items[i] ρ2>>=fun Z=>t Z>>=fun b=>if b=b_ then m Z>>=fun y=>cC it g t m (it.items.drop (i+1)) Z>>=fun ys=>bD (xs++y::ys)else cC it g t m (it.items.drop (i+1)) Z>>=fun ys=>bD (xs++ys)):=by
    show((gG it>>=fun _=>g it.items[i] ρ2>>=fun Z=>t Z>>=fun b=>if b=b_ then m Z>>=fun y=>cC it g t m (it.items.drop (i+1)) Z>>=fun ys=>aC (y::ys)else cC it g t m (it.items.drop (i+1)) Z)>>=fun ys=>bD (xs++ys))=_;simp only[fu,xu,aj]
   rw[<-this];exact c2
  obtain⟨ok,s⟩:=i7 O rep2;obtain⟨k,a3⟩:=a ι2 W S2 e2.unhide.n rep2.unhide ok i;obtain⟨go,yl⟩:=k it.items[i] (JX hlt);refine .inr ⟨go,fun B P=>∃ ι3 S3 ρ3 xs3 vs3,Ext Y T ι3 (dg P p)/\Rep X.K ι3 (dg P p) S3/\RelE X.K ι3 (dg P p) ρ3 B/\P p=ar (.lst vs3)/\p∉ι3/\RelDs X.K ι3 (dg P p) xs3 vs3/\xs3.length<=i+1/\
   cont X.K cw (cC it g t m (it.items.drop (i+1)) ρ3>>=fun ys=>bD (xs3++ys)) ι3 S3 (dg P p) (lC X.K Q),?_,fun x H3 hy=>?_⟩
  ·rintro B P ⟨ι3,S3,ρ3,xs3,vs3,h1,h2,h3,h4,h5,h6,h7,h8⟩;exact⟨_,by omega,ι3,S3,ρ3,xs3,vs3,rfl,hlt,h1,h2,h3,h4,h5,h6,h7,h8⟩
  ·obtain⟨l,rep3,rd⟩:=yl x H3 hy;obtain⟨o,_⟩:=l.oth p _ hpc hpn (by intro _ z;cases z)
   have F:Ext ι2 (dg W p) ι2 (dg H3 p):=l.hide;have c4:=ak (jf s F);refine⟨ι2,S2,ρ2,it.items[i],rep3,re2.unhide.later rep2.unhide l,rd,ax (fO (E:=cw) c4 o hpn) fun ρ4 ι4 S4 H4 e4 rep4 ⟨hp4,hn4,c5⟩ σ4 re4=>?_⟩;have r:Rep X.K ι4 (dg H4 p) S4:=rep4.hide hp4 hn4;have e:Ext ι2 (dg W p) ι4 (dg H4 p):=F.trans e4.hide;refine⟨ι4,S4,ρ4,rep4,re4,ax (fO (E:=cw) (ak c5) hp4 hn4) fun b ι5 S5 H5 e5 rep5 ⟨hp5,hn5,c6⟩=>?_⟩;have R:Rep X.K ι5 (dg H5 p) S5:=rep5.hide hp5 hn5;have L:Ext ι2 (dg W p) ι5 (dg H5 p):=e.trans e5.hide;have N:RelE X.K ι5 H5 ρ4 σ4:=re4.later rep4 e5;cases b with
   |false=>
    have G:cont X.K cw (cC it g t m (it.items.drop (i+1)) ρ4>>=fun ys=>bD (xs++ys)) ι5 S5 (dg H5 p) (lC X.K Q):=c6;exact⟨ι5,S5,ρ4,xs,vs,e2.trans L,R,N.hide hp5,hp5,hn5,rx.later rep2 L,by omega,G⟩
   |true=>
    have G:cont X.K cw (m ρ4>>=fun y=>cC it g t m (it.items.drop (i+1)) ρ4>>=fun ys=>bD (xs++y::ys)) ι5 S5 (dg H5 p) (lC X.K Q):=c6;refine⟨ι5,S5,ρ4,rep5,N,ax (fO (E:=cw) (ak G) hp5 hn5) fun y ι6 S6 H6 e6 rep6 ⟨hp6,hn6,c7⟩ yv ry=>?_⟩;have C:Ext ι2 (dg W p) ι6 (dg H6 p):=L.trans e6.hide;have I:Rep X.K ι6 (dg H6 p) S6:=rep6.hide hp6 hn6;have w:=rx.later rep2 C;have hl:vs.length<sizeLine:=by rw[<-w.length];exact ML (by omega) An
    refine⟨vs,hp6,hl,ι6,S6,ρ4,xs++[y],vs++[yv],?_⟩;rw[dZ];refine⟨e2.trans C,I,(N.later rep5 e6).hide hp6,a7,hn6,w.append (.cons (ry.hide hp6) .nil),by simp;omega,by simpa using c7⟩
 ·have hd:it.items.drop i=[]:=Mh (by omega)
  rw[hd]at c2;have O:cont X.K cw (gG it>>=fun _=>bD (xs++[])) ι2 S2 (dg W p) (lC X.K Q):=by
   have:(cC it g t m [] ρ2>>=fun ys=>bD (xs++ys))=(gG it>>=fun _=>bD (xs++[])):=by
    show((gG it>>=fun _=>aC [])>>=fun ys=>bD (xs++ys))=_;simp only[fu,aj]
   rw[<-this];exact c2
  obtain⟨ok,s⟩:=i7 O rep2;rw[KS]at s;refine .inl ⟨(a ι2 W S2 e2.unhide.n rep2.unhide ok i).2 (by omega),?_⟩
  have:=(bE s rep2 rx).2 p kc;rw[tY hpc]at this;exact this
theorem t4(h:tM X.K cw (fun ρ=>do let it<-mi ρ;let ys<-fA it g t m (gh js ρ);bD ys) σ H Q):
  xq (Gd X.K cw mi) js (zR X.K cw g) (vI X.K cw t) (tM X.K cw m) σ H Q:=
 let ⟨ι,S,ρ,rep,re,c⟩:=h
 ⟨ι,S,ρ,rep,re,tZ rep re c⟩
theorem bt(c:CompScope X scope Nc js)(W:X.calm=b_)(Y:SI X cw tg iter mi)
  (Z:∀C ex s H,SG (aW X scope Nc C ex s H) cw tg g/\E2 (aW X scope Nc C ex s H) cw ifs t/\SE (aW X scope Nc C ex s H) cw elt m)
  (hs:∀x,hh iter X.env x=aC x:=by intro _;rfl):SE X cw (.ListComp elt [⟨tg,iter,ifs,0⟩] scope pos) (fun ρ=>do let it<-mi ρ;let ys<-fA it g t m (gh js ρ);bD ys):=
 PE.imp (xr (g:=zR X.K cw g) (tt:=vI X.K cw t) (te:=tM X.K cw m) c W Y Z hs) fun _ _ _ q=>t4 q
theorem pA(i:Nat)(U:X.N.Nodup)(c:CompScope X scope Nc js)(J:X.calm=b_)(O:SI X cw tg iter mi)
  (Z:∀C ex s H,SG (aW X scope Nc C ex s H) cw tg g/\E2 (aW X scope Nc C ex s H) cw ifs t/\SE (aW X scope Nc C ex s H) cw elt m)
  (W:X.N[i]? =ar x:=by rfl) (Q:Loc X.env.scope x:=by first|exact N4 rfl|exact Nr rfl)
  (Y:p8 (.ListComp elt [⟨tg,iter,ifs,0⟩] scope cpos) (ar (.Name x pos')) pos.line X.env=aC true:=by rfl)
  (R:X.fn x=b_\/X.env.scope.names.lookup x=ar .local:=by first|exact .inl rfl|exact .inr rfl|assumption)
  (hs:∀x,hh iter X.env x=aC x:=by intro _;rfl):SS X cw (.Assign [.Name x pos'] (.ListComp elt [⟨tg,iter,ifs,0⟩] scope cpos) pos)
   (fun ρ=>do let d<-(do let it<-mi ρ;let ys<-fA it g t m (gh js ρ);bD ys);aC (.nx (ρ.set i (ar d)))):=by
 refine PS.imp (vH (g:=zR X.K cw g) (tt:=vI X.K cw t) (te:=tM X.K cw m) U W Q c J O Z Y R hs) fun T σ H h=>?_;obtain⟨L,S,ρ,rep,re,c⟩:=h;refine t4 ⟨L,S,ρ,rep,re,ax (ak c) fun d P S1 I e1 rep1 c1 v r=>?_⟩;exact ah c1 .refl rep1 _ ((re.later rep e1).set r i)
end
section
variable {P:ed}{w:ee}{K:dt}{mg:Str->Option a_}{base:f_}
def outD:Out->M D
 | .nx _=>aC .non
 | .ret d=>aC d
 |_=>M.fail
def nI(N n:Nat)(m:cK):List D->M D:=fun ds=>if ds.length=n then do let o<-m (ds.map ar++lk (N - n) none);outD o else M.fail
end
def qx(f:Int->Int->M D):D->D->M D
 | .int i,.int j=>f i j
 |_,_=>M.fail
theorem jg{K:dt}{E:XD}{g:Int->Int->V}{f:Int->Int->D}(U:∀Z H i j,RelD K Z H (f i j) (g i j)):tH K E (qx fun i j=>aC (f i j)) (Cd g):=by
 intro Z S H d1 X v1 v2 Q rep Y T c;cases d1<;>cases X<;>first
  |exact(ao c).elim
  |exact⟨_,_,Y.int_inv,T.int_inv,ah c .refl rep _ (U _ _ _ _)⟩
theorem lF{K:dt}{E:XD}{C:Int->Int->Prop} [∀i j,Decidable (C i j)]{g:Int->Int->V}{f:Int->Int->D}(T:∀Y H i j,RelD K Y H (f i j) (g i j)):tH K E (qx fun i j=>if C i j then aC (f i j)else M.fail) (rI C g):=by
 intro Y S H d1 U v1 v2 Q rep X R c;cases d1<;>cases U<;>first
  |exact(ao c).elim
  | (next i j=>
    have Z:cont K E (if C i j then aC (f i j)else M.fail) Y S H (lC K Q):=c;by_cases h:C i j
    ·rw[if_pos h]at Z;exact⟨_,_,X.int_inv,R.int_inv,h,ah Z .refl rep _ (T _ _ _ _)⟩
    ·rw[if_neg h]at Z;exact(ao Z).elim)
def iz:D->D->M D:=qx fun i j=>aC (.int (i - j))
instance:∀i j,Decidable (rR i j):=fun i j=>inferInstanceAs (Decidable (_\/_))
instance:∀i j,Decidable (vw i j):=fun i j=>inferInstanceAs (Decidable (_/\_))
instance:∀i j,Decidable (Cz i j):=fun i j=>inferInstanceAs (Decidable (_/\_))
def n8:D->D->M D:=qx fun i j=>if rR i j then aC (.int (i*j))else M.fail
def jO:D->D->M D:=qx fun i j=>if vw i j then aC (.int (i / j))else M.fail
def oa:D->D->M D:=qx fun i j=>if 0<j then aC (.int (i % j))else M.fail
def Ar:D->D->M D:=qx fun i j=>if Cz i j then aC (.int (i ^ j.toNat))else M.fail
def iS:D->D->M D
 | .int i,.int j=>aC (.int (i+j))
 | .tup xs,.tup ys=>bA (xs++ys)
 | .lst a,.lst b=>do let xs<-getL a;let ys<-getL b;bD (xs++ys)
 | .lst a,.fz ys=>do let xs<-getL a;bD (xs++ys)
 | .fz xs,.lst b=>do let ys<-getL b;bD (xs++ys)
 | .fz xs,.fz ys=>bD (xs++ys)
 |_,_=>M.fail
def CT:D->D->M D:=qx fun i j=>aC (.bl (decide (i<=j)))
def vp:D->D->M D:=qx fun i j=>aC (.bl (decide (j<i)))
def IT:D->D->M D:=qx fun i j=>aC (.bl (decide (j<=i)))
section
variable {X:Cx}{E:XD}{a b e c:Expr}{m n l:TM}{pos:Pos}
theorem jP(Z:SE X E a m)(Y:SE X E b n):SE X E (.BinOp a .Sub b pos) (fun ρ=>do let x<-m ρ;let y<-n ρ;iz x y):=qZ EE (jg fun _ _ _ _=>.int _) Z Y
theorem mQ(Z:SE X E a m)(Y:SE X E b n):SE X E (.BinOp a .Mult b pos) (fun ρ=>do let x<-m ρ;let y<-n ρ;n8 x y):=qZ EF (lF fun _ _ _ _=>.int _) Z Y
theorem oA(Z:SE X E a m)(Y:SE X E b n):SE X E (.BinOp a .FloorDiv b pos) (fun ρ=>do let x<-m ρ;let y<-n ρ;jO x y):=qZ CA (lF fun _ _ _ _=>.int _) Z Y
theorem kH(Z:SE X E a m)(Y:SE X E b n):SE X E (.BinOp a .Mod b pos) (fun ρ=>do let x<-m ρ;let y<-n ρ;oa x y):=qZ EG (lF (C:=fun _ j=>0<j) fun _ _ _ _=>.int _) Z Y
theorem As(Z:SE X E a m)(Y:SE X E b n):SE X E (.BinOp a .Pow b pos) (fun ρ=>do let x<-m ρ;let y<-n ρ;Ar x y):=qZ EH (lF fun _ _ _ _=>.int _) Z Y
theorem Au:iZ X (ri .Add) (fun x y H Q=>∃a b ys,x= .ref a/\y= .ref b/\nG X.K H a []/\nG X.K H b ys/\Q (.ref b) H):=by
 intro pins s σ H x y v u Q I B L h;obtain⟨a,b,ys,rfl,rfl,C,G,q⟩:=h;cases B;cases L;obtain⟨its,O,J,_⟩:=I.tuple C;obtain⟨W,z,F,_⟩:=I.tuple G;cases O;obtain⟨⟨cls,dd,data,N⟩,S,R,n,hd⟩:=id J;obtain⟨⟨P,T,data2,U⟩,Y,Z,A,hd2⟩:=id F;simp only at R hd Z hd2;subst R hd Z hd2;exact NP ⟨_,S,rfl⟩ ⟨_,Y,rfl⟩ Na NG Mg L9 (L6 _ _)
  (tuple_addW0 a b #[] W.toArray n A dd T N U (by simp)) ⟨S,Y,⟨.ref b,H,I,rfl,q⟩⟩
theorem Inv.lstR{X:Cx}{Z:List (b'×Obj)}{Y:L2.St}{H:Hp}{s:c_}{l:b'}{xs:List V}(I:L2.Inv X Z Y H s)(W:Rd H l (.lst xs)):xs.length<=sizeLine/\∃(its:List a_) (n:Nat),bw xs its/\xs.length=its.length/\s.heap.get? l=ar {cls:=.type "list",data:=.seq its.toArray n}:=by
 obtain⟨z,its,n,r,e⟩:=W.ok I.hok;exact⟨z,its,n,r,r.length,e⟩
def G6:R2:=fun x y H Q=>∃l b xs zs,x= .ref l/\y= .ref b/\Rd H l (.lst xs)/\Rd H b (.lst zs)/\xs.length+zs.length<=sizeLine/\∀p,H p=none->Q (.ref p) (upd H p (.lst (xs++zs)))
theorem CU:iZ X (ri .Add) G6:=by
 intro pins s σ H x y v u Q I R U h;obtain⟨l,b,xs,zs,rfl,rfl,W,S,K,q⟩:=h;cases R;cases U;obtain⟨z,its,n,r,L,e⟩:=Inv.lstR I W;obtain⟨N,Z,J,T,Y,e2⟩:=Inv.lstR I S;refine PySem.P.add_list e e2 ?_ (by rw[J8,J8];omega)
 have O:its.toArray++Z.toArray=(its++Z).toArray:=by simp
 rw[O];exact⟨.ref _,_,I.lnew (t':=s.toks) (r.append T) (by rw[J5];omega),rfl,q _ I.fresh⟩
theorem jQ(C:SE X E a m)(F:SE X E b n):SE X E (.BinOp a .Add b pos) (fun ρ=>do let x<-m ρ;let y<-n ρ;iS x y):=by
 refine qZ (ED.or (CJ.or (Au.or CU))) ?_ C F;intro B S H d1 G v1 v2 Q rep P O c;cases d1<;>cases G<;>first
  |exact(ao c).elim
  |exact .inl ⟨_,_,P.int_inv,O.int_inv,ah c .refl rep _ (.int _)⟩
  | (next xs ys=>
    obtain⟨p,vs,rfl,W,N⟩:=P.tup_inv;obtain⟨q,ws,rfl,U,L⟩:=O.tup_inv;obtain⟨Y,T⟩:=gZ c rep (N.append L);rw[J5]at Y;cases vs with
    |nil=>
     refine .inr (.inr (.inl ⟨p,q,ws,rfl,rfl,.of W,.of U,?_⟩));exact je c rep U (N.append L)
    |cons v vs=>
     refine .inr (.inl ⟨p,q,v::vs,ws,rfl,rfl,.of W,.of U,by simp,J4 Y gg,fun z=>?_,fun _=>T⟩)
     subst z;have:=N.append L;rw[KS]at this;exact je c rep W this)
  | (next j k=>
    obtain⟨p,rfl,W⟩:=P.lst_inv;obtain⟨q,rfl,U⟩:=O.lst_inv;obtain⟨ds,vs,_,J,R,c1⟩:=bp c rep W;obtain⟨es,ws,_,hw,Z,K⟩:=bp c1 rep U;obtain⟨Y,T⟩:=bE K rep (R.append Z);rw[J5]at Y;exact .inr (.inr (.inr ⟨p,q,vs,ws,rfl,rfl,.inl J,.inl hw,J4 Y gg,T⟩)))
  | (next j ys=>
    obtain⟨p,rfl,W⟩:=P.lst_inv;obtain⟨q,o2,ws,rfl,U,Z⟩:=O.fz_inv;obtain⟨ds,vs,_,J,R,c1⟩:=bp c rep W;obtain⟨Y,T⟩:=bE c1 rep (R.append Z);rw[J5]at Y;exact .inr (.inr (.inr ⟨p,q,vs,ws,rfl,rfl,.inl J,.inr ⟨o2,U⟩,J4 Y gg,T⟩)))
  | (next xs k=>
    obtain⟨p,I,vs,rfl,W,R⟩:=P.fz_inv;obtain⟨q,rfl,U⟩:=O.lst_inv;obtain⟨es,ws,_,hw,Z,K⟩:=bp c rep U;obtain⟨Y,T⟩:=bE K rep (R.append Z);rw[J5]at Y;exact .inr (.inr (.inr ⟨p,q,vs,ws,rfl,rfl,.inr ⟨I,W⟩,.inl hw,J4 Y gg,T⟩)))
  | (next xs ys=>
    obtain⟨p,I,vs,rfl,W,R⟩:=P.fz_inv;obtain⟨q,o2,ws,rfl,U,Z⟩:=O.fz_inv;obtain⟨Y,T⟩:=bE c rep (R.append Z);rw[J5]at Y;exact .inr (.inr (.inr ⟨p,q,vs,ws,rfl,rfl,.inr ⟨I,W⟩,.inr ⟨o2,U⟩,J4 Y gg,T⟩)))
theorem G7(Z:SE X E a m)(Y:SE X E b n):SE X E (.Compare a [.LtE] [b] pos) (fun ρ=>do let x<-m ρ;let y<-n ρ;CT x y):=si xf (jg fun _ _ _ _=>.bl _) Z Y
theorem rg(Z:SE X E a m)(Y:SE X E b n):SB X E (.Compare a [.Gt] [b] pos) (fun ρ=>do let z<-(do let x<-m ρ;let y<-n ρ;vp x y);lD z):=jJ GO (jg fun _ _ _ _=>.bl _) Z Y
theorem G8(Z:SE X E a m)(Y:SE X E b n):SB X E (.Compare a [.GtE] [b] pos) (fun ρ=>do let z<-(do let x<-m ρ;let y<-n ρ;IT x y);lD z):=jJ GP (jg fun _ _ _ _=>.bl _) Z Y
def intsOf:List D->Option (List Int)
 |[]=>ar []
 | .int i::r=>(intsOf r).map (i::·)
 |_=>none
theorem fh{K:dt}{U:List b'}{H:Hp}:∀{ds:List D} {vs:List V} {ns:List Int},RelDs K U H ds vs->intsOf ds=ar ns->vs=ns.map V.int
 |[],vs,ns,h,e=>by cases e;rw[h.nil_inv];rfl
 | .int i::ds,vs,ns,h,e=>by
  obtain⟨v,ws,rfl,Y,Z⟩:=h.cons_inv;cases q:intsOf ds with
  |none=>simp[intsOf,q]at e
  |some ks=>
   simp[intsOf,q]at e;subst e;rw[Y.int_inv,fh Z q];rfl
 | .non::_,_,_,_,e=>by cases e
 | .bl _::_,_,_,_,e=>by cases e
 | .str _::_,_,_,_,e=>by cases e
 | .tup _::_,_,_,_,e=>by cases e
 | .lst _::_,_,_,_,e=>by cases e
 | .ro _::_,_,_,_,e=>by cases e
 | .fz _::_,_,_,_,e=>by cases e
 | .emp::_,_,_,_,e=>by cases e
def vJ:D->D->M D
 | .int i,.int j=>aC (.bl (decide (i<j)))
 | .tup xs,.tup ys=>match intsOf xs,intsOf ys with
  |some ns,ar ms=>aC (.bl (HT.lexLt ns ms))
  |_,_=>M.fail
 |_,_=>M.fail
theorem vK:tH X.K E vJ (fun x y H Q=>Cd (fun i j=>.bl (decide (i<j))) x y H Q\/GU X.K x y H Q):=by
 intro O S H d1 W v1 v2 Q rep Z Y c;cases d1<;>cases W<;>first
  |exact(ao c).elim
  |exact .inl ⟨_,_,Z.int_inv,Y.int_inv,ah c .refl rep _ (.bl _)⟩
  | (next xs ys=>
    obtain⟨p,vs,rfl,T,U⟩:=Z.tup_inv;obtain⟨q,ws,rfl,R,P⟩:=Y.tup_inv;dsimp only[vJ]at c;split at c
    ·next ns ms e1 e2=>
     refine .inr ⟨p,q,ns,ms,rfl,rfl,.of (by rw[<-fh U e1];exact T),.of (by rw[<-fh P e2];exact R),ah c .refl rep _ (.bl _)⟩
    ·exact(ao c).elim)
theorem DZ(Y:X.A.units<GB)(Z:SE X E a m)(W:SE X E b n):SE X E (.Compare a [.Lt] [b] pos) (fun ρ=>do let x<-m ρ;let y<-n ρ;vJ x y):=si (z8.or (vC Y)) vK Z W
theorem Av(Y:X.A.units<GB)(Z:SE X E a m)(W:SE X E b n):SB X E (.Compare a [.Lt] [b] pos) (fun ρ=>do let z<-(do let x<-m ρ;let y<-n ρ;vJ x y);lD z):=jJ (z8.or (vC Y)) vK Z W
theorem t5(u:tH X.K E f r)(I:tH X.K E g r')
  (h:tM X.K E (fun ρ=>do let x<-m ρ;let y<-n ρ;let z<-f x y;let k<-lD z;if k=b_ then do let w<-l ρ;g y w else aC (.bl dV)) σ H Q):vx r r' (tM X.K E m) (tM X.K E n) (tM X.K E l) σ H Q:=by
 obtain⟨C,S,ρ,rep,re,c⟩:=h;refine⟨C,S,ρ,rep,re,ax (ak c) fun x Y S1 i e1 rep1 c1 v1 L=>?_⟩;refine⟨Y,S1,ρ,rep1,re.later rep e1,ax (ak c1) fun y U J A e2 rep2 v v2 R=>?_⟩;refine u U J A x y v1 v2 _ rep2 (L.later rep1 e2) R (ax (ak v) fun z T q j P rep3 p o G=>?_);obtain⟨k,rfl,rfl,O⟩:=sj rep3 G p;refine⟨k,rfl,?_⟩;cases k with
 |true=>
  exact⟨T,q,ρ,rep3,((re.later rep e1).later rep1 e2).later rep2 P,ax (ak O) fun w W B N s Z t v4 F=>I W B N y w v2 v4 Q Z ((R.later rep2 P).later rep3 s) F t⟩
 |false=>exact ah O .refl rep3 _ (.bl dV)
theorem Aw(h:iZ X (ij op) r)(h':iZ X (ij op') r')(Y:tH X.K E f r)(Z:tH X.K E g r')(W:SE X E a m)(U:SE X E b n)(S:SE X E c l)
  (T:NZ [op,op'] [b,c]=false:=by with_unfolding_all rfl):
  SE X E (.Compare a [op,op'] [b,c] pos) (fun ρ=>do let x<-m ρ;let y<-n ρ;let z<-f x y;let k<-lD z;if k=b_ then do let w<-l ρ;g y w else aC (.bl dV)):=
 PE.imp (z9 h h' W U S T) fun _ _ _ q=>t5 Y Z q
theorem Ax(h:iZ X (ij op) r)(h':iZ X (ij op') r')(Y:tH X.K E f r)(P:tH X.K E g r')(O:SE X E a m)(W:SE X E b n)(J:SE X E c l)
  (T:NZ [op,op'] [b,c]=false:=by with_unfolding_all rfl):
  SB X E (.Compare a [op,op'] [b,c] pos) (fun ρ=>do let v<-(do let x<-m ρ;let y<-n ρ;let z<-f x y;let k<-lD z;if k=b_ then do let w<-l ρ;g y w else aC (.bl dV));lD v):=
 PT.imp (Aa h h' O W J T) fun σ H Q q=>by
  obtain⟨L,S,ρ,rep,re,c⟩:=q;refine t5 Y P (Q:=fun x N=>∃k,x= .bl k/\Q k N) ⟨L,S,ρ,rep,re,ax (ak c) fun x R S1 I e1 rep1 c1 v1 U=>?_⟩;obtain⟨k,rfl,rfl,Z⟩:=px rep1 U c1;exact⟨k,rfl,Z⟩
def cn:D->D->M D
 | .lst k,.int i=>do
  let xs<-getL k
  match k9 xs i with
  |some d=>aC d
  |none=>M.fail
 | .tup xs,.int i=>match k9 xs i with
  |some d=>aC d
  |none=>M.fail
 | .ro xs,.int i=>match k9 xs i with
  |some d=>aC d
  |none=>M.fail
 | .fz xs,.int i=>match k9 xs i with
  |some d=>aC d
  |none=>M.fail
 |_,_=>M.fail
theorem oB{K:dt}{Z:List b'}{H:Hp}{ds:List D}{vs:List V}{i:Int}{d:D}(h:RelDs K Z H ds vs)(e:k9 ds i=ar d):∃v,k9 vs i=ar v/\RelD K Z H d v:=by
 unfold k9 at e⊢;rw[h.length]at e;cases q:zQ vs.length i with
 |none=>rw[q]at e;cases e
 |some j=>
  rw[q]at e;exact h.get' e
theorem E3:tH X.K E cn (Js X.K):=by
 intro P S H d1 T v1 v2 Q rep W U c;cases d1<;>cases T<;>first
  |exact(ao c).elim
  | (next k i=>
    obtain⟨p,rfl,Y⟩:=W.lst_inv;obtain⟨ds,vs,_,R,Z,c1⟩:=bp c rep Y;cases q:k9 ds i with
    |none=>rw[q]at c1;exact(ao c1).elim
    |some d=>
     rw[q]at c1;obtain⟨v,e1,e2⟩:=oB Z q;exact .inl ⟨p,vs,i,v,rfl,U.int_inv,.of R,e1,ah c1 .refl rep _ e2⟩)
  | (next ds i=>
    obtain⟨p,vs,rfl,Y,Z⟩:=W.tup_inv;dsimp only[cn]at c;cases q:k9 ds i with
    |none=>rw[q]at c;exact(ao c).elim
    |some d=>
     rw[q]at c;obtain⟨v,e1,e2⟩:=oB Z q;exact .inr (.inl ⟨p,vs,i,v,rfl,U.int_inv,.of Y,e1,ah c .refl rep _ e2⟩))
  | (next ds i=>
    obtain⟨p,vs,rfl,Y,Z⟩:=W.ro_inv;dsimp only[cn]at c;cases q:k9 ds i with
    |none=>rw[q]at c;exact(ao c).elim
    |some d=>
     rw[q]at c;obtain⟨v,e1,e2⟩:=oB Z q;exact .inl ⟨p,vs,i,v,rfl,U.int_inv,Y.sq,e1,ah c .refl rep _ e2⟩)
  | (next ds i=>
    obtain⟨p,o,vs,rfl,Y,Z⟩:=W.fz_inv;dsimp only[cn]at c;cases q:k9 ds i with
    |none=>rw[q]at c;exact(ao c).elim
    |some d=>
     rw[q]at c;obtain⟨v,e1,e2⟩:=oB Z q;exact .inl ⟨p,vs,i,v,rfl,U.int_inv,.inl (.inr ⟨o,Y⟩),e1,ah c .refl rep _ e2⟩)
theorem aO(Z:SE X E a m)(Y:SE X E b n)(hs:rV b:=by intro _ _;rfl):SE X E (.Subscript a b pos) (fun ρ=>do let x<-m ρ;let y<-n ρ;cn x y):=G1 ET E3 Z Y hs
end
mutual
inductive ReadsV(H:Hp):V->o_->Prop where
 |non:ReadsV H .non .none
 |bl (b:Bool):ReadsV H (.bl b) (.bool b)
 |int (i:Int):ReadsV H (.int i) (.int i)
 |str (x:Str):ReadsV H (.str x) (.str x)
 |lst {a:b'} {vs:List V} {ps:List o_}:Rd H a (.lst vs)->ReadsVs H vs ps->ReadsV H (.ref a) (.list ps)
 |tup {a:b'} {vs:List V} {ps:List o_}:H a=ar (.tup vs)->ReadsVs H vs ps->ReadsV H (.ref a) (.tuple ps)
inductive ReadsVs(H:Hp):List V->List o_->Prop where
 |nil:ReadsVs H [] []
 |cons {v:V} {p:o_} {vs:List V} {ps:List o_}:ReadsV H v p->ReadsVs H vs ps->ReadsVs H (v::vs) (p::ps)
end
mutual
theorem ReadsV.heap(Z:iY P w H h):∀{v:V} {p:o_},ReadsV H v p->∀{u:a_},RelV v u->∃as,Reads h u p as
 |_,_,.non,u,r=>by cases (show u=j_ from r);exact⟨_,.none⟩
 |_,_,.bl b,u,r=>by cases (show u=v' b from r);exact⟨_,.bool b⟩
 |_,_,.int i,u,r=>by obtain⟨t,rfl⟩:=(show ∃t,u=wk i t from r);exact⟨_,.int i t⟩
 |_,_,.str x,u,r=>by obtain⟨t,rfl⟩:=(show ∃t,u=NY x t from r);exact⟨_,.str x t⟩
 |_,_,@ReadsV.lst _ a vs ps h1 h2,u,r=>by
  cases (show u=gj a from r);obtain⟨_,its,n,Y,e⟩:=(show b7 P w H h a (.lst vs)from h1.ok Z);obtain⟨as,q⟩:=ReadsVs.heap Z h2 Y;exact⟨_,.list e rfl rfl (by simpa using q)⟩
 |_,_,@ReadsV.tup _ a vs ps h1 h2,u,r=>by
  cases (show u=gj a from r);obtain⟨_,its,Y,o,e,c,n,d⟩:=(show b7 P w H h a (.tup vs)from Z a _ h1);obtain⟨as,q⟩:=ReadsVs.heap Z h2 Y;exact⟨_,.tuple e c d (by simpa using q)⟩
theorem ReadsVs.heap(Z:iY P w H h):∀{vs:List V} {ps:List o_},ReadsVs H vs ps->∀{us:List a_},bw vs us->∃as,ReadsAll h us ps as
 |_,_,.nil,us,r=>by cases r;exact⟨_,.nil⟩
 | _,_,.cons h1 h2,us,r=>by
  cases r with
  |cons r1 r2=>
   obtain⟨as,q⟩:=ReadsV.heap Z h1 r1;obtain⟨bs,Y⟩:=ReadsVs.heap Z h2 r2;exact⟨_,.cons q Y⟩
end
def mapP(f:D->Option o_):List D->Option (List o_)
 |[]=>ar []
 |d::ds=>match f d,mapP f ds with
  |some p,ar ps=>ar (p::ps)
  |_,_=>none
def gI(S:aE):Nat->D->Option o_
 |_,.non=>ar .none
 |_,.bl b=>ar (.bool b)
 |_,.int i=>ar (.int i)
 |_,.str x=>if PyData.strOk x=b_ then ar (.str x)else none
 |n+1,.tup ds=>(mapP (gI S n) ds).map .tuple
 |n+1,.lst k=>(S[k]?).bind fun xs=>(mapP (gI S n) xs).map .list
 |n+1,.fz ds=>(mapP (gI S n) ds).map .list
 |_,_=>none
section
variable {K:dt}{ι:List b'}{S:aE}{H:Hp}
theorem lG{f:D->Option o_}(Z:∀d p v,f d=ar p->RelD K ι H d v->ReadsV H v p/\p.canLay0=b_/\p.depth<=n):
  ∀{ds:List D} {ps:List o_} {vs:List V},mapP f ds=ar ps->RelDs K ι H ds vs->ReadsVs H vs ps/\PyData.canLayAll0 ps=b_/\pa ps<=n
 |[],ps,vs,e,r=>by
  cases e;rw[r.nil_inv];exact⟨.nil,rfl,Ku _⟩
 | d ::ds,ps,vs,e,r=>by
  obtain⟨v,ws,rfl,T,U⟩:=r.cons_inv;unfold mapP at e;cases q:f d with
  |none=>rw[q]at e;cases e
  | some p=>
   rw[q]at e;cases q2:mapP f ds with
   |none=>rw[q2]at e;cases e
   | some ps'=>
    rw[q2]at e;cases e;obtain⟨X,R,Y⟩:=Z d p v q T;obtain⟨k1,k2,k3⟩:=lG Z q2 U;refine⟨.cons X k1,?_,?_⟩
    ·show(PyData.canLay0 p && PyData.canLayAll0 ps')=b_;rw[R,k2];rfl
    ·show max p.depth (pa ps')<=n;exact Nat.max_le.mpr ⟨Y,k3⟩
theorem kd(X:Rep K ι H S):∀(n:Nat) (d:D) (p:o_) (v:V),gI S n d=ar p->RelD K ι H d v->ReadsV H v p/\p.canLay0=b_/\p.depth<=n:=by
 intro n
 induction n with
 | zero=>
  intro d p v e r;cases d with
  |non=>cases e;rw[r.non_inv];exact⟨.non,rfl,JY _⟩
  |bl b=>cases e;rw[r.bl_inv];exact⟨.bl b,rfl,JY _⟩
  |int i=>cases e;rw[r.int_inv];exact⟨.int i,rfl,JY _⟩
  |str x=>
   unfold gI at e;split at e
   ·next hs=>cases e;rw[r.str_inv];exact⟨.str x,hs,JY _⟩
   ·cases e
  |_=>cases e
 | succ n ih=>
  intro d p v e r;cases d with
  |non=>cases e;rw[r.non_inv];exact⟨.non,rfl,Ku _⟩
  |bl b=>cases e;rw[r.bl_inv];exact⟨.bl b,rfl,Ku _⟩
  |int i=>cases e;rw[r.int_inv];exact⟨.int i,rfl,Ku _⟩
  |str x=>
   unfold gI at e;split at e
   ·next hs=>cases e;rw[r.str_inv];exact⟨.str x,hs,Ku _⟩
   ·cases e
  | tup ds=>
   obtain⟨a,vs,rfl,Z,Y⟩:=r.tup_inv;unfold gI at e;cases q:mapP (gI S n) ds with
   |none=>rw[q]at e;cases e
   |some ps=>
    rw[q]at e;cases e;obtain⟨k1,k2,k3⟩:=lG ih q Y;exact⟨.tup Z k1,k2,LZ k3⟩
  | lst k=>
   obtain⟨a,rfl,Z⟩:=r.lst_inv;unfold gI at e;cases z:S[k]? with
   |none=>rw[z]at e;cases e
   | some xs=>
    rw[z]at e;obtain⟨vs,U,Y⟩:=X.get k a xs Z z;cases q:mapP (gI S n) xs with
    |none=>simp[q]at e
    |some ps=>
     simp[q]at e;subst e;obtain⟨k1,k2,k3⟩:=lG ih q Y;exact⟨.lst (.inl U) k1,k2,LZ k3⟩
  |ro ds=>cases e
  | fz ds=>
   obtain⟨a,o,vs,rfl,Z,Y⟩:=r.fz_inv;unfold gI at e;cases q:mapP (gI S n) ds with
   |none=>rw[q]at e;cases e
   |some ps=>
    rw[q]at e;cases e;obtain⟨k1,k2,k3⟩:=lG ih q Y;exact⟨.lst (.inr ⟨o,Z⟩) k1,k2,LZ k3⟩
  |emp=>cases e
  |fn a c q ds vs=>cases e
  |exc x ds=>cases e
end
def Ge(f:o_->o_->Bool):D->D->M D:=fun a b S=>match gI S 60 a,gI S 60 b with
 |some p,ar q=>ar (.ok (.bl (f p q)),S)
 |_,_=>none
def oC:D->D->M D:=Ge gi
def lb:D->D->M D:=Ge fun p q=> !gi p q
def IU(f:Bool->Bool):o_->o_->Option Bool
 |d,.list xs=>ar (f (xs.any fun y=>gi y d))
 |d,.tuple xs=>ar (f (xs.any fun y=>gi y d))
 |_,_=>none
def G9(f:Bool->Bool):D->D->M D:=fun a b S=>match gI S 60 a,gI S 60 b with
 |some p,ar q=>match IU f p q with
  |some r=>ar (.ok (.bl r),S)
  |none=>none
 |_,_=>none
def inD:D->D->M D:=G9 id
section
variable {X:Cx}{E:XD}{a b e:Expr}{m n:TM}{pos:Pos}
def E4(f:o_->o_->Bool):R2:=fun x y H Q=>∃p q,(ReadsV H x p/\p.canLay0=b_/\p.depth<=60)/\(ReadsV H y q/\q.canLay0=b_/\q.depth<=60)/\Q (.bl (f p q)) H
theorem ke{p:o_}(h:p.canLay0=b_)(Z:p.depth<=60):SeqAt.shaped p=true:=by
 unfold SeqAt.shaped;rw[h,Le];exact J3 (by omega)
theorem Ay(U:X.A.units+64<GB):iZ X (ij .Eq) (E4 gi):=by
 intro pins s σ H x y v u Q I L R h;obtain⟨p,q,⟨O,T,W⟩,⟨S,N,Y⟩,h⟩:=h;obtain⟨as,Z⟩:=O.heap I.hok L;obtain⟨bs,P⟩:=S.heap I.hok R;exact eq_dataH Z P (ke T W) (ke N Y) U ⟨.bl _,H,I,rfl,h⟩
theorem E5(U:X.A.units+64<GB):iZ X (ij .NotEq) (E4 fun p q=> !gi p q):=by
 intro pins s σ H x y v u Q I L R h;obtain⟨p,q,⟨O,T,W⟩,⟨S,N,Y⟩,h⟩:=h;obtain⟨as,Z⟩:=O.heap I.hok L;obtain⟨bs,P⟩:=S.heap I.hok R;exact ne_dataH Z P (ke T W) (ke N Y) U ⟨.bl _,H,I,rfl,h⟩
theorem su:tH X.K E (Ge f) (E4 f):=by
 intro U S H d1 Y v1 v2 Q rep Z W c;obtain⟨r,T,e,k⟩:=c;unfold Ge at e;split at e
 ·next p q hp hq=>
  cases e;exact⟨p,q,kd rep 60 d1 p v1 hp Z,kd rep 60 Y q v2 hq W,k U H .refl rep _ (.bl _)⟩
 ·cases e
theorem xv(Y:X.A.units+64<GB)(Z:SE X E a m)(W:SE X E b n):SE X E (.Compare a [.Eq] [b] pos) (fun ρ=>do let x<-m ρ;let y<-n ρ;oC x y):=si (Ay Y) su Z W
theorem Az(Y:X.A.units+64<GB)(Z:SE X E a m)(W:SE X E b n):SB X E (.Compare a [.Eq] [b] pos) (fun ρ=>do let z<-(do let x<-m ρ;let y<-n ρ;oC x y);lD z):=jJ (Ay Y) su Z W
theorem lH(Y:X.A.units+64<GB)(Z:SE X E a m)(W:SE X E b n):SB X E (.Compare a [.NotEq] [b] pos) (fun ρ=>do let z<-(do let x<-m ρ;let y<-n ρ;lb x y);lD z):=jJ (E5 Y) su Z W
def Ha(f:Bool->Bool):R2:=fun x y H Q=>∃p q r,(ReadsV H x p/\p.canLay0=b_/\p.depth<=60)/\(ReadsV H y q/\q.canLay0=b_/\q.depth<=60)/\IU f p q=ar r/\Q (.bl r) H
theorem xw:tH X.K E (G9 f) (Ha f):=by
 intro U S H d1 Y v1 v2 Q rep Z W c;obtain⟨r,T,e,k⟩:=c;unfold G9 at e;split at e
 ·next p q hp hq=>
  split at e
  ·next r hr=>
   cases e;exact⟨p,q,r,kd rep 60 d1 p v1 hp Z,kd rep 60 Y q v2 hq W,hr,k U H .refl rep _ (.bl _)⟩
  ·cases e
 ·cases e
theorem vL(h:(w7 xs).depth<=60):pa xs<=60:=Mi h
theorem nJ(h:(u0 xs).depth<=60):pa xs<=60:=Mi h
theorem AA(K:X.A.units+64<GB):iZ X (ij .In) (Ha id):=by
 intro pins s σ H x y v u Q I N P h;obtain⟨p,q,r,⟨O,U,L⟩,⟨R,S,W⟩,Z,h⟩:=h;obtain⟨as,Y⟩:=O.heap I.hok N;obtain⟨bs,T⟩:=R.heap I.hok P;cases q with
 |list xs=>
  cases Z;exact SeqAt.in_list_reads T Y S U (by have:=vL W;have:min (pa xs) p.depth<=60:=J4 (Nk _ _) this;omega) ⟨.bl _,H,I,rfl,h⟩
 |tuple xs=>
  cases Z;exact SeqAt.in_tuple_reads T Y S U (by have:=nJ W;have:min (pa xs) p.depth<=60:=J4 (Nk _ _) this;omega) ⟨.bl _,H,I,rfl,h⟩
 |_=>cases Z
theorem t6(W:X.A.units+64<GB)(Y:SE X E a m)(U:SE X E b n)(Z:ly .In b=false:=by rfl):SE X E (.Compare a [.In] [b] pos) (fun ρ=>do let x<-m ρ;let y<-n ρ;inD x y):=si (AA W) xw Y U Z
theorem t7(W:X.A.units+64<GB)(Y:SE X E a m)(U:SE X E b n)(Z:ly .In b=false:=by rfl):SB X E (.Compare a [.In] [b] pos) (fun ρ=>do let z<-(do let x<-m ρ;let y<-n ρ;inD x y);lD z):=jJ (AA W) xw Y U Z
end
section
variable {X:Cx}{E:XD}{a b e c:Expr}{m n l:TM}{pos p2:Pos}{es:List Expr}{ms:aD->M (List D)}
def yH(f:Bool->Bool):D->D->M D
 | .bl i,.bl j=>aC (.bl (f (i==j)))
 |d,.non=>match d with
  | .non=>aC (.bl (f b_))
  |_=>aC (.bl (f dV))
 |_,_=>M.fail
theorem Hb:iZ X (ij .Is) (fun x y H Q=>∃i j,x= .bl i/\y= .bl j/\Q (.bl (i==j)) H):=by
 intro pins s σ H x y v u Q I Y Z h;obtain⟨i,j,rfl,rfl,q⟩:=h;cases Y;cases Z;exact is_bool ⟨.bl _,H,I,rfl,q⟩
theorem AB:iZ X (ij .IsNot) (fun x y H Q=>∃i j,x= .bl i/\y= .bl j/\Q (.bl (!(i==j))) H):=by
 intro pins s σ H x y v u Q I Y Z h;obtain⟨i,j,rfl,rfl,q⟩:=h;cases Y;cases Z;exact isnot_bool ⟨.bl _,H,I,rfl,q⟩
theorem AC{f:Bool->Bool}:tH X.K E (yH f) (fun x y H Q=>(∃i j,x= .bl i/\y= .bl j/\Q (.bl (f (i==j))) H)\/(y= .non/\Q (.bl (f (decide (x= .non)))) H)):=by
 intro U S H d1 W v1 v2 Q rep Z Y c;cases W with
 |non=>
  refine .inr ⟨Y.non_inv,?_⟩;cases d1 with
  |non=>rw[Z.non_inv];exact ah c .refl rep _ (.bl _)
  |bl i=>rw[Z.bl_inv];exact ah c .refl rep _ (.bl _)
  |int i=>rw[Z.int_inv];exact ah c .refl rep _ (.bl _)
  |str i=>rw[Z.str_inv];exact ah c .refl rep _ (.bl _)
  |tup ds=>obtain⟨p,vs,rfl,_,_⟩:=Z.tup_inv;exact ah c .refl rep _ (.bl _)
  |lst k=>obtain⟨p,rfl,_⟩:=Z.lst_inv;exact ah c .refl rep _ (.bl _)
  |ro ds=>obtain⟨p,vs,rfl,_,_⟩:=Z.ro_inv;exact ah c .refl rep _ (.bl _)
  |fz ds=>obtain⟨p,_,vs,rfl,_,_⟩:=Z.fz_inv;exact ah c .refl rep _ (.bl _)
  |emp=>cases Z;exact ah c .refl rep _ (.bl _)
  |fn a c q ds vs=>cases Z;exact ah c .refl rep _ (.bl _)
  |exc x ds=>cases Z<;>exact ah c .refl rep _ (.bl _)
 |bl j=>
  cases d1 with
  |bl i=>exact .inl ⟨i,j,Z.bl_inv,Y.bl_inv,ah c .refl rep _ (.bl _)⟩
  |_=>exact(ao c).elim
 |_=>cases d1<;>exact(ao c).elim
theorem Hd(Z:SE X E a m)(Y:SE X E b n):SB X E (.Compare a [.Is] [b] pos) (fun ρ=>do let z<-(do let x<-m ρ;let y<-n ρ;yH id x y);lD z):=jJ (Hb.or EJ) (AC (f:=id)) Z Y
theorem jR(Z:SE X E a m)(Y:SE X E b n):SB X E (.Compare a [.IsNot] [b] pos) (fun ρ=>do let z<-(do let x<-m ρ;let y<-n ρ;yH (!·) x y);lD z):=jJ (AB.or CB) (AC (f:=(!·))) Z Y
def Jv:D->M Int
 | .int i=>aC i
 |_=>M.fail
def JO(K:dt)(E:XD)(m:aD->M (Option Int)):TO:=fun σ H Q=>∃ ι S ρ,Rep K ι H S/\RelE K ι H ρ σ/\cont K E (m ρ) ι S H (fun o _ _ H'=>Q o H')
def SO(X:Cx)(E:XD)(o:Option Expr)(m:aD->M (Option Int)):Prop:=PO X o (JO X.K E m)
theorem PO.imp{X:Cx}{e:Option Expr}{t t':TO}(h:PO X e t)(k:∀ σ H Q,t' σ H Q->t σ H Q):PO X e t':=fun pins s σ H Q I hw=>h pins s σ H Q I (k σ H Q hw)
theorem oE:SO X E none (fun _=>aC none):=by
 refine PO.imp CH fun σ H Q h=>?_;obtain⟨Z,S,ρ,rep,re,c⟩:=h;exact ah c .refl rep
theorem oF(h:SE X E e m):SO X E (ar e) (fun ρ=>do let x<-m ρ;let i<-Jv x;aC (ar i)):=by
 refine PO.imp (CI h) fun σ H Q h=>?_;obtain⟨Y,S,ρ,rep,re,c⟩:=h;refine⟨Y,S,ρ,rep,re,ax (ak c) fun x Z S1 W e1 rep1 c1 v r=>?_⟩;cases x with
 |int i=>exact⟨i,r.int_inv,ah (ah (ak c1) .refl rep1) .refl rep1⟩
 |_=>exact(ao (ak c1)).elim
def cutD(xs:List D)(lo hi:Option Int):List D:=(xs.drop (HT.sIx xs.length 0 lo)).take (HT.sIx xs.length xs.length hi - HT.sIx xs.length 0 lo)
theorem oG{K:dt}{U:List b'}{H:Hp}{ds:List D}{vs:List V}(Z Y:Option Int)(h:RelDs K U H ds vs):RelDs K U H (cutD ds Z Y) (qu vs Z Y):=by
 unfold cutD qu;rw[h.length];exact(h.drop _).take _
def sv:D->Option Int->Option Int->M D
 | .tup xs,lo,hi=>bA (cutD xs lo hi)
 | .lst k,lo,hi=>do let xs<-getL k;bD (cutD xs lo hi)
 | .fz xs,lo,hi=>bD (cutD xs lo hi)
 |_,_,_=>M.fail
theorem CV:DW X (fun x lo T H Q=>∃a xs,x= .ref a/\nG X.K H a xs/\(HT.sIx xs.length 0 lo=0/\HT.sIx xs.length xs.length T=xs.length)/\Q (.ref a) H):=by
 intro pins s σ H x v G J lo T R Q I N hs O pu h;obtain⟨a,xs,rfl,S,hw,q⟩:=h;cases N;obtain⟨its,r,Z,L⟩:=I.tuple S;have hlen:its.toArray.size=xs.length:=by rw[J8];exact r.length.symm
 refine⟨"tuple",_,PyProof.Rows.slot_tuple_getitem.lookup,Z.typeIs,?_⟩;have fin:EP X pins σ Q (.ref a) s:=⟨.ref a,H,I,rfl,q⟩;obtain⟨os,W,Y,P⟩:=id hs;have U:s.TypeIs (.ref R) "slice":=⟨os,W,Y⟩;unfold NQ
 try with_reducible refine Ld ?_
 first|refine JU (JZ ?_)|skip
 refine JU (wpAny_sequenceKey Z.typeIs (by decide) ?_)
 refine JU (wpAny_callSpecial?_slot (name:=hY "__getitem__") Z.typeIs Lc
  (Lh Lc Z.typeIs entry_tuple_getitem ?_ (args_tuple_getitem _ _)))
 show er _ _ (Builtin.Tuple.tupleItemsOf (.ref a)>>=_) _ _ s;refine JU (tupleItemsOf_ Z (JU (Nh U ?_)));rw[if_pos (by decide)]
 refine JU (HT.sliceApplied_gen hs O pu ?_);rw[hlen,hw.1,hw.2];show er _ _ (if ((((0:Nat):Int))==0 && (1:Int)==1 && (xs.length - 0)==xs.length)=b_ then _ else _) _ _ s;rw[if_pos (by simp)]
 unfold Builtin.Tuple.tupleIsExact;refine JU (JU (Nh Z.typeIs (JZ ?_)));rw[if_pos (by decide)]
 first
  |exact JU (Mz (JZ ⟨_,rfl,JZ fin⟩))
  |exact JU (Mz (JU (JZ (JZ ⟨_,rfl,JZ fin⟩))))
theorem vM{xs:List V}{Z Y:Option Int}(h:HT.sIx xs.length 0 Z=0/\HT.sIx xs.length xs.length Y=xs.length):qu xs Z Y=xs:=by
 unfold qu;rw[h.1,h.2,D',Nat.sub_zero,List.take_length]
theorem lI{L O:Option Expr}{ml N:aD->M (Option Int)}(K:SE X E e m)(z:SO X E L ml)(G:SO X E O N):
  SE X E (.Subscript e (.Slice L O none p2) pos) (fun ρ=>do let x<-m ρ;let i<-ml ρ;let j<-N ρ;sv x i j):=by
 refine PE.imp (Ae (EO.or (CV.or CL)) K z G) fun σ H Q h=>?_;obtain⟨F,S,ρ,rep,re,c⟩:=h;refine⟨F,S,ρ,rep,re,ax (ak c) fun x W S1 t e1 rep1 c1 v r=>?_⟩;refine⟨W,S1,ρ,rep1,re.later rep e1,ax (ak c1) fun i R J w e2 rep2 B=>?_⟩;refine⟨R,J,ρ,rep2,(re.later rep e1).later rep1 e2,ax (ak B) fun j y s u I rep3 Y=>?_⟩;have U:=(r.later rep1 e2).later rep2 I;cases x with
 | tup ds=>
  obtain⟨p,vs,rfl,Z,P⟩:=U.tup_inv;by_cases hw:HT.sIx vs.length 0 i=0/\HT.sIx vs.length vs.length j=vs.length
  ·refine .inr (.inl ⟨p,vs,rfl,.of Z,hw,je Y rep3 Z ?_⟩);have:=oG i j P;rw[vM hw]at this;exact this
  ·exact .inl ⟨p,vs,rfl,.of Z,hw,(gZ Y rep3 (oG i j P)).2⟩
 |lst k=>
  obtain⟨p,rfl,Z⟩:=U.lst_inv;obtain⟨ds,vs,_,A,T,C⟩:=bp Y rep3 Z;exact .inr (.inr ⟨p,vs,rfl,.of A,(bE C rep3 (oG i j T)).2⟩)
 |fz ds=>
  obtain⟨p,o,vs,rfl,Z,T⟩:=U.fz_inv;exact .inr (.inr ⟨p,vs,rfl,.inl (.inr ⟨o,Z⟩),(bE Y rep3 (oG i j T)).2⟩)
 |_=>exact(ao Y).elim
end
section
variable {X:Cx}{E:XD}{a b e c o:Expr}{m n l:TM}{pos p2:Pos}{es:List Expr}{ms:aD->M (List D)}
def cX:List D->M D
 |[.lst k]=>do let xs<-getL k;aC (.int xs.length)
 |[.tup ds]=>aC (.int ds.length)
 |[.ro ds]=>aC (.int ds.length)
 |[.fz ds]=>aC (.int ds.length)
 |_=>M.fail
theorem yI:jK X.K E cX (fun xs H Q=>∃p ys,xs=[.ref p]/\(jH X.K H p ys\/nG X.K H p ys)/\Q (.int ys.length) H):=by
 intro P S H ds vs Q rep r c
 match ds,r,c with
 |[.lst k],r,c=>
  obtain⟨v,ws,rfl,Z,U⟩:=r.cons_inv;cases U.nil_inv;obtain⟨p,rfl,W⟩:=Z.lst_inv;obtain⟨es,us,_,T,Y,R⟩:=bp c rep W;refine⟨p,us,rfl,.inl (.of T),?_⟩;have:=ah R .refl rep _ (.int _);rw[Y.length]at this;exact this
 |[.tup es],r,c=>
  obtain⟨v,ws,rfl,Z,U⟩:=r.cons_inv;cases U.nil_inv;obtain⟨p,us,rfl,W,Y⟩:=Z.tup_inv;refine⟨p,us,rfl,.inr (.of W),?_⟩;have:=ah c .refl rep _ (.int _);rw[Y.length]at this;exact this
 |[.ro es],r,c=>
  obtain⟨v,ws,rfl,Z,U⟩:=r.cons_inv;cases U.nil_inv;obtain⟨p,us,rfl,W,Y⟩:=Z.ro_inv;refine⟨p,us,rfl,.inl W.sq,?_⟩;have:=ah c .refl rep _ (.int _);rw[Y.length]at this;exact this
 |[.fz es],r,c=>
  obtain⟨v,ws,rfl,Z,U⟩:=r.cons_inv;cases U.nil_inv;obtain⟨p,o,us,rfl,W,Y⟩:=Z.fz_inv;refine⟨p,us,rfl,.inl (.inl (.inr ⟨o,W⟩)),?_⟩;have:=ah c .refl rep _ (.int _);rw[Y.length]at this;exact this
 |[],r,c=>exact(ao c).elim
 |[.non],r,c=>exact(ao c).elim
 |[.bl _],r,c=>exact(ao c).elim
 |[.int _],r,c=>exact(ao c).elim
 |[.str _],r,c=>exact(ao c).elim
 |[.emp],r,c=>exact(ao c).elim
 |d::d2::r',r,c=>cases d<;>exact(ao c).elim
theorem d4(Y:X.mg "len"=none)(W:SE X E e m)(Z:Gl X "len":=by rfl)(hs:eb [e] X.env=[(dV,h_ e X.env)]:=by rfl):SE X E (.Call (.Name "len" p) [e] [] pos) (fun ρ=>do let ds<-(do let x<-m ρ;let xs<-aC [];aC (x::xs));cX ds):=
 g0 rX yI Z Y PySem.boot_len (af W aq hs) (by decide) (by decide) hs rfl
def xx(f:Int->Int->Int):List D->M D
 |[.int i,.int j]=>aC (.int (f i j))
 |_=>M.fail
theorem pB{f:Int->Int->Int}:jK X.K E (xx f) (fun xs H Q=>∃i j,xs=[.int i,.int j]/\Q (.int (f i j)) H):=by
 intro P S H ds vs Q rep r c;unfold xx at c;split at c
 ·next i j=>
  obtain⟨v,ws,rfl,Z,T⟩:=r.cons_inv;obtain⟨R,Y,rfl,W,U⟩:=T.cons_inv;cases U.nil_inv;rw[Z.int_inv,W.int_inv];exact⟨i,j,rfl,ah c .refl rep _ (.int _)⟩
 ·exact(ao c).elim
def maxD:List D->M D:=xx fun i j=>if j>i then j else i
def minD:List D->M D:=xx fun i j=>if j<i then j else i
theorem vN(T:X.calm=b_)(W:X.mg "max"=none)(U:SA X E [a,b] ms)(Y:Gl X "max":=by rfl)(hs:eb [a,b] X.env=[(dV,h_ a X.env),(dV,h_ b X.env)]:=by rfl)(Z:eb [b] X.env=[(dV,h_ b X.env)]:=by rfl):
  SE X E (.Call (.Name "max" p) [a,b] [] pos) (fun ρ=>do let ds<-ms ρ;maxD ds):=
 g0 (yx T) pB Y W (by decide+kernel) U (by decide) (by decide) (by rw[hs,Z]) (by rw[Z];rfl)
theorem AD(T:X.calm=b_)(W:X.mg "min"=none)(U:SA X E [a,b] ms)(Y:Gl X "min":=by rfl)(hs:eb [a,b] X.env=[(dV,h_ a X.env),(dV,h_ b X.env)]:=by rfl)(Z:eb [b] X.env=[(dV,h_ b X.env)]:=by rfl):
  SE X E (.Call (.Name "min" p) [a,b] [] pos) (fun ρ=>do let ds<-ms ρ;minD ds):=
 g0 (yy T) pB Y W (by decide+kernel) U (by decide) (by decide) (by rw[hs,Z]) (by rw[Z];rfl)
def rh:List D->M D
 |[.lst k]=>do let xs<-getL k;bD xs
 |[.tup ds]=>bD ds
 |[.ro ds]=>bD ds
 |[.fz ds]=>bD ds
 |_=>M.fail
def cb:List D->M D
 |[.lst k]=>do let xs<-getL k;bA xs
 |[.tup ds]=>bA ds
 |[.fz ds]=>bA ds
 |_=>M.fail
theorem vO:jK X.K E rh (fun xs H Q=>∃p ys,xs=[.ref p]/\(jH X.K H p ys\/nG X.K H p ys)/\∀l,H l=none->Q (.ref l) (upd H l (.lst ys))):=by
 intro P S H ds vs Q rep r c;unfold rh at c;split at c
 ·next k=>
  obtain⟨v,ws,rfl,Z,U⟩:=r.cons_inv;cases U.nil_inv;obtain⟨p,rfl,W⟩:=Z.lst_inv;obtain⟨es,us,_,T,Y,R⟩:=bp c rep W;exact⟨p,us,rfl,.inl (.of T),(bE R rep Y).2⟩
 ·next es=>
  obtain⟨v,ws,rfl,Z,U⟩:=r.cons_inv;cases U.nil_inv;obtain⟨p,us,rfl,W,Y⟩:=Z.tup_inv;exact⟨p,us,rfl,.inr (.of W),(bE c rep Y).2⟩
 ·next es=>
  obtain⟨v,ws,rfl,Z,U⟩:=r.cons_inv;cases U.nil_inv;obtain⟨p,us,rfl,W,Y⟩:=Z.ro_inv;exact⟨p,us,rfl,.inl W.sq,(bE c rep Y).2⟩
 ·next es=>
  obtain⟨v,ws,rfl,Z,U⟩:=r.cons_inv;cases U.nil_inv;obtain⟨p,o,us,rfl,W,Y⟩:=Z.fz_inv;exact⟨p,us,rfl,.inl (.inl (.inr ⟨o,W⟩)),(bE c rep Y).2⟩
 ·exact(ao c).elim
theorem t8:jK X.K E cb (fun xs H Q=>∃p ys,xs=[.ref p]/\((jH X.K H p ys/\∀l,H l=none->Q (.ref l) (upd H l (.tup ys)))\/(nG X.K H p ys/\Q (.ref p) H))):=by
 intro P S H ds vs Q rep r c;unfold cb at c;split at c
 ·next k=>
  obtain⟨v,ws,rfl,Y,U⟩:=r.cons_inv;cases U.nil_inv;obtain⟨p,rfl,Z⟩:=Y.lst_inv;obtain⟨es,us,_,T,W,R⟩:=bp c rep Z;exact⟨p,us,rfl,.inl ⟨.of T,(gZ R rep W).2⟩⟩
 ·next es=>
  obtain⟨v,ws,rfl,Y,U⟩:=r.cons_inv;cases U.nil_inv;obtain⟨p,us,rfl,Z,W⟩:=Y.tup_inv;exact⟨p,us,rfl,.inr ⟨.of Z,je c rep Z W⟩⟩
 ·next es=>
  obtain⟨v,ws,rfl,Y,U⟩:=r.cons_inv;cases U.nil_inv;obtain⟨p,o,us,rfl,Z,W⟩:=Y.fz_inv;exact⟨p,us,rfl,.inl ⟨.inl (.inr ⟨o,Z⟩),(gZ c rep W).2⟩⟩
 ·exact(ao c).elim
theorem CY(Y:X.mg "list"=none)(W:SE X E e m)(Z:Gl X "list":=by rfl)(hs:eb [e] X.env=[(dV,h_ e X.env)]:=by rfl):SE X E (.Call (.Name "list" p) [e] [] pos) (fun ρ=>do let ds<-(do let x<-m ρ;let xs<-aC [];aC (x::xs));rh ds):=
 rf rY vO Z Y (by decide+kernel) (af W aq hs) (by decide) (by decide) hs rfl
theorem eJ(Y:X.mg "tuple"=none)(W:SE X E e m)(Z:Gl X "tuple":=by rfl)(hs:eb [e] X.env=[(dV,h_ e X.env)]:=by rfl):SE X E (.Call (.Name "tuple" p) [e] [] pos) (fun ρ=>do let ds<-(do let x<-m ρ;let xs<-aC [];aC (x::xs));cb ds):=
 rf qw t8 Z Y (by decide+kernel) (af W aq hs) (by decide) (by decide) hs rfl
def D0(H:Hp):V->Option String
 | .non=>ar "NoneType"
 | .bl _=>ar "bool"
 | .int _=>ar "int"
 | .str _=>ar "str"
 | .ref a=>match H a with
  |some (.lst _)=>ar "list"
  |some (.frz _ (.lst _))=>ar "list"
  |some (.tup _)=>ar "tuple"
  |some (.dK _)=>ar "dict"
  |_=>none
 |_=>none
theorem E6{K:dt}{H:Hp}{v:V}{T:String}(h:D0 H v=ar T):TyOf K H v (.type T):=by
 cases v with
 |non=>cases h;exact .non
 |bl b=>cases h;exact .bl b
 |int i=>cases h;exact .int i
 |str x=>cases h;exact .str x
 |ref a=>
  simp only[D0]at h;split at h
  ·next q=>cases h;exact .lst q
  ·next q=>cases h;exact .frz q
  ·next q=>cases h;exact .tup q
  ·next q=>cases h;exact .dK q
  ·cases h
 |_=>cases h
def Ci:D->String
 | .non=>"NoneType"
 | .bl _=>"bool"
 | .int _=>"int"
 | .str _=>"str"
 | .tup _=>"tuple"
 | .lst _=>"list"
 | .ro _=>"list"
 | .fz _=>"list"
 | .emp=>"dict"
 | .fn _ _ _ _ _=>"NoneType"
 | .exc _ _=>"NoneType"
def vP:D->Bool
 | .ro _=>dV
 | .fn _ _ _ _ _=>dV
 | .exc _ _=>dV
 |_=>b_
theorem E7{K:dt}{U:List b'}{S:aE}{H:Hp}{d:D}{v:V}(Y:Rep K U H S)(r:RelD K U H d v)(Z:vP d=b_):D0 H v=ar (Ci d):=by
 cases r with
 |non=>rfl
 |bl=>rfl
 |int=>rfl
 |str=>rfl
 |tup h _=>simp[D0,h,Ci]
 |lst h=>
  obtain⟨vs,e⟩:=Y.isL (Ky h);simp[D0,e,Ci]
 |ro h _=>cases Z
 |fz h _=>simp[D0,h,Ci]
 |emp h=>simp[D0,h,Ci]
 |fn=>cases Z
 |exc=>cases Z
 |excF=>cases Z
def CZ(f:String->Bool):D->M D
 | .ro _=>M.fail
 | .fn _ _ _ _ _=>M.fail
 | .exc _ _=>M.fail
 |d=>aC (.bl (f (Ci d)))
theorem AE{K:dt}{E:XD}{Z:List b'}{S:aE}{H:Hp}{f:String->Bool}{d:D}{Q:D->List b'->aE->Hp->Prop}(c:cont K E (CZ f d) Z S H Q):vP d=b_/\cont K E (aC (.bl (f (Ci d)))) Z S H Q:=by
 cases d with
 |ro ds=>exact(ao c).elim
 |fn a c' q ds vs=>exact(ao c).elim
 |exc x ds=>exact(ao c).elim
 |_=>exact⟨rfl,c⟩
def AF(t T:String):Bool:=t==T||(t=="bool" && T=="int")
theorem C0(K:dt)(t:String)(Y:t∈["NoneType","bool","int","str","tuple","list","dict"])(T:String)(Z:T∈["bool","int","str","tuple","list"]):y3 K (.type t) (.type T)=ar (AF t T):=by
 simp only[f',e_,or_false]at Y Z;rcases Y with rfl|rfl|rfl|rfl|rfl|rfl|rfl<;>rcases Z with rfl|rfl|rfl|rfl|rfl<;>rfl
theorem C1(d:D):Ci d∈["NoneType","bool","int","str","tuple","list","dict"]:=by cases d<;>simp[Ci]
theorem AG:eE X (.builtin "isinstance") (fun xs H Q=>∃x t T,xs=[x,.ty T]/\D0 H x=ar t/\t∈["NoneType","bool","int","str","tuple","list","dict"]/\T∈["bool","int","str","tuple","list"]/\Q (.bl (AF t T)) H):=by
 intro pins s σ H xs us Q I r h;obtain⟨x,t,T,rfl,R,P,U,q⟩:=h;obtain⟨u,Y,rfl,W,Z⟩:=vals2 r;cases (show Y=Oe T from Z);exact yA I W (E6 R) (C0 X.K t P T U) fun S=>⟨.bl _,H,I.tok S,rfl,q⟩
theorem kI{p q:Pos}{T:Str}{Ts:String}(O:X.mg "isinstance"=none)(U:X.mg T=none)(P:SE X E e m)(L:la T=ar (.type Ts):=by decide+kernel)(Y:Ts∈["bool","int","str","tuple","list"]:=by decide)(J:Gl X "isinstance":=by rfl)(W:Gl X T:=by rfl)
  (N:T≠"__name__":=by decide) (R:(T==("__debug__":Str))=false:=by decide)
  (hs:eb [e,.Name T q] X.env=[(dV,h_ e X.env),(dV,h_ (.Name T q) X.env)]:=by rfl) (Z:eb [.Name T q] X.env=[(dV,h_ (.Name T q) X.env)]:=by rfl):
  SE X E (.Call (.Name "isinstance" p) [e,.Name T q] [] pos) (fun ρ=>do let x<-m ρ;CZ (fun t=>AF t Ts) x):=by
 refine PE.imp (tQ AG J O (by decide+kernel) (lj P (lj (Cr W U L (v:=.ty Ts) rfl N R) rS Z) (by rw[hs,Z])) (by decide) (by decide) (by rw[hs,Z]) (by rw[Z];rfl)) fun σ H Q h=>?_
 obtain⟨I,S,ρ,rep,re,c⟩:=h;refine⟨I,S,ρ,rep,re,ax (ak c) fun x K S1 G e1 rep1 c1 v r=>?_⟩;obtain⟨R,c1⟩:=AE c1;exact⟨v,Ci x,Ts,rfl,E7 rep1 r R,C1 x,Y,ah c1 .refl rep1 _ (.bl _)⟩
end
section
variable {X:Cx}{E:XD}{a b e c o tg:Expr}{m n l:TM}{pos p2:Pos}{es:List Expr}{ms:aD->M (List D)}
theorem range_all{bs:List Bool}:(d_ bs.length).all (fun i=>bs.getD i dV)=bs.all id:=by
 induction bs with
 |nil=>rfl
 |cons b bs ih=>
  rw[KD,LL,vn,L7];simp only[u3,vn,id];congr 1
theorem yJ(G:X.calm=b_):eE X (.builtin "all") (fun xs H Q=>∃(p:b') (bs:List Bool),xs=[.ref p]/\jH X.K H p (bs.map V.bl)/\Q (.bl (bs.all id)) H):=by
 intro pins s σ H xs us Q I r h;obtain⟨p,bs,rfl,L,q⟩:=h;obtain⟨u,rfl,C⟩:=vals1 r;cases (show u=gj p from C);obtain⟨its,R,O,z⟩:=I.list L;have T:=O.isList;refine call_all_walk (MV T ?_);have W:p<s.heap.objs.size:=by obtain⟨o,J,_⟩:=T;exact J0 J
 have hlen:=R.length;refine⟨s.heap.objs.size,_,_,_,_,_,fun i=>bs.getD i dV,rfl,Walks.list (A:=X.A.in1) (by show X.A.handled=none;exact I.ok.hd G) s.heap.objs.size p (Kf W) its.toArray,⟨⟨_,J9 _ rfl,rfl,rfl⟩,T.push _⟩,?_,fun h' x N=>?_⟩
 ·intro i v s' B E' F U;have Z:its[i]? =ar v:=by simpa using F
  have y:i<its.length:=(J2.mp Z).1;have Y:i<bs.length:=by rw[JV]at hlen;omega
  have:(bs.map V.bl)[i]? =ar (.bl bs[i]):=by rw[KG,JX Y];rfl
  obtain⟨u,S,P⟩:=R.get this;rw[Z]at S;cases S;cases (show v=v' bs[i]from P);have:bs.getD i dV=bs[i]:=by simp[Ow,Y]
  dsimp only at U;rw[this]at U;exact KZ U
 ·have e1:its.toArray.size=bs.length:=by rw[J8, <-hlen,JV]
  rw[e1,range_all];refine⟨.bl _,H,I.kept (fun b o e=>N b o ?_ (JW _ e)),rfl,q⟩;have:b≠s.heap.objs.size:=Kf (J0 e);simpa using this
def boolsOf:List D->Option (List Bool)
 |[]=>ar []
 | .bl i::r=>(boolsOf r).map (i::·)
 |_=>none
theorem fZ{K:dt}{U:List b'}{H:Hp}:∀{ds:List D} {vs:List V} {ns:List Bool},RelDs K U H ds vs->boolsOf ds=ar ns->vs=ns.map V.bl
 |[],vs,ns,h,e=>by cases e;rw[h.nil_inv];rfl
 | .bl i::ds,vs,ns,h,e=>by
  obtain⟨v,ws,rfl,Y,Z⟩:=h.cons_inv;cases q:boolsOf ds with
  |none=>simp[boolsOf,q]at e
  |some ks=>
   simp[boolsOf,q]at e;subst e;rw[Y.bl_inv,fZ Z q];rfl
 | .non::_,_,_,_,e=>by cases e
 | .int _::_,_,_,_,e=>by cases e
 | .str _::_,_,_,_,e=>by cases e
 | .tup _::_,_,_,_,e=>by cases e
 | .lst _::_,_,_,_,e=>by cases e
 | .ro _::_,_,_,_,e=>by cases e
 | .fz _::_,_,_,_,e=>by cases e
 | .emp::_,_,_,_,e=>by cases e
def iT:List D->M D
 |[.lst k]=>do
  let xs<-getL k
  match boolsOf xs with
  |some bs=>aC (.bl (bs.all id))
  |none=>M.fail
 |[.fz xs]=>match boolsOf xs with
  |some bs=>aC (.bl (bs.all id))
  |none=>M.fail
 |_=>M.fail
theorem yK:jK X.K E iT (fun xs H Q=>∃(p:b') (bs:List Bool),xs=[.ref p]/\jH X.K H p (bs.map V.bl)/\Q (.bl (bs.all id)) H):=by
 intro P S H ds vs Q rep r c;unfold iT at c;split at c
 ·next k=>
  obtain⟨v,ws,rfl,Y,T⟩:=r.cons_inv;cases T.nil_inv;obtain⟨p,rfl,U⟩:=Y.lst_inv;obtain⟨es,us,_,R,W,Z⟩:=bp c rep U;cases q:boolsOf es with
  |none=>rw[q]at Z;exact(ao Z).elim
  |some bs=>
   rw[q]at Z;refine⟨p,bs,rfl,.of ?_,ah Z .refl rep _ (.bl _)⟩;rw[<-fZ W q];exact R
 ·next es=>
  obtain⟨v,ws,rfl,Y,T⟩:=r.cons_inv;cases T.nil_inv;obtain⟨p,o,us,rfl,U,W⟩:=Y.fz_inv;cases q:boolsOf es with
  |none=>rw[q]at c;exact(ao c).elim
  |some bs=>
   rw[q]at c;refine⟨p,bs,rfl,.inl (.inr ⟨o,?_⟩),ah c .refl rep _ (.bl _)⟩;rw[<-fZ W q];exact U
 ·exact(ao c).elim
theorem gk(U:X.calm=b_)(Y:X.mg "all"=none)(W:SE X E e m)(Z:Gl X "all":=by rfl)(hs:eb [e] X.env=[(dV,h_ e X.env)]:=by rfl):SE X E (.Call (.Name "all" p) [e] [] pos) (fun ρ=>do let ds<-(do let x<-m ρ;let xs<-aC [];aC (x::xs));iT ds):=
 g0 (yJ U) yK Z Y (by decide+kernel) (af W aq hs) (by decide) (by decide) hs rfl
def fC:D->List D->M D
 | .lst k,[d]=>do let xs<-getL k;mO k (xs++[d])
 |_,_=>M.fail
def lJ:D->List D->M D
 | .lst k,[.lst j]=>do let xs<-getL k;let ys<-getL j;mO k (xs++ys)
 | .lst k,[.fz ys]=>do let xs<-getL k;mO k (xs++ys)
 |_,_=>M.fail
def mR:D->List D->M D
 | .lst k,[.int i]=>do
  let xs<-getL k
  if 0<=i/\i<xs.length then
   match xs[i.toNat]? with
   |some y=>do let _<-mO k (xs.eraseIdx i.toNat);aC y
   |none=>M.fail
  else M.fail
 |_,_=>M.fail
theorem AH{K:dt}{H:Hp}{p:b'}{xs:List V}(h:H p=ar (.lst xs)):IL K "list" (.ref p) H:=.inl ⟨rfl,xs,.of h⟩
def Gf:D->M Unit
 | .lst _=>aC ()
 |_=>M.fail
theorem sx{name:Str}{O:String}{f:D->List D->M D}{r:V->List V->Hp->VK->Prop}{Y:Pos}(R:Slot "list" name O)(N:typeOf (.builtin O)=aC (.type "method_descriptor"))(u:HL X O r)
  (w:G4 X.K E f r) (B:SE X E o m) (s:SA X E (e::es) ms)
  (U:u5 o name X.env (h_ o X.env)=h_ o X.env:=by rfl)
  (T:((pb pos (eb (e::es) X.env)).all (fun x=> !x.1) && (backToKw pos (keywordEach [] X.env)).all (fun x=>x.1.isSome)
   && decide ((e::es).length+([]:List Oc).length+(if ([]:List Oc).isEmpty then 0 else 1)<30))=true:=by rfl)
  (W:(Y.endLine==pos.line)=true:=by rfl) (hs:eb (e::es) X.env=(dV,h_ e X.env)::eb es X.env:=by rfl) (Z:(pb pos (eb es X.env)).any (·.1)=false:=by rfl):
  SE X E (.Call (.Attribute o name Y) (e::es) [] pos) (fun ρ=>do let x<-m ρ;Gf x;let ds<-ms ρ;f x ds):=by
 refine PE.imp (DY PySem.F.plainAttrs_list R N u B s U T W hs Z) fun σ H Q h=>?_;obtain⟨A,S,ρ,rep,re,c⟩:=h;refine⟨A,S,ρ,rep,re,ax (ak c) fun x P S1 j e1 rep1 c1 v J=>?_⟩;cases x with
 |lst k=>
  obtain⟨p,rfl,G⟩:=J.lst_inv;obtain⟨vs,t⟩:=rep1.isL (Ky G);have y:=ah (ak c1) .refl rep1;exact⟨AH t,P,S1,ρ,rep1,re.later rep e1,ax (ak y) fun ds L I z e2 rep2 q vs C=>w L I z (.lst k) ds (.ref p) vs Q rep2 (J.later rep1 e2) C q⟩
 |_=>exact(ao (ak c1)).elim
theorem vQ:G4 X.K E fC xm:=by
 intro N S H d ds v vs Q rep r rs c;unfold fC at c;split at c
 ·next k d=>
  obtain⟨p,rfl,Z⟩:=r.lst_inv;obtain⟨w,ws,rfl,W,R⟩:=rs.cons_inv;cases R.nil_inv;obtain⟨es,us,_,U,T,O⟩:=bp c rep Z;obtain⟨Y,P⟩:=i6 O rep Z (T.append (.cons W .nil));rw[J5]at Y;exact⟨p,us,w,rfl,rfl,U,Kd (by simp at Y;omega) gg,P _ .non⟩
 ·exact(ao c).elim
def t9:V->List V->Hp->VK->Prop:=fun x vs H Q=>∃l b xs zs,x= .ref l/\vs=[.ref b]/\H l=ar (.lst xs)/\Rd H b (.lst zs)/\xs.length+zs.length<=sizeLine/\Q .non (upd H l (.lst (xs++zs)))
theorem vR:HL X "list.extend" t9:=by
 intro pins s σ H x vs v us Q I N P h;obtain⟨l,b,xs,zs,rfl,rfl,U,O,K,q⟩:=h;cases N;obtain⟨u,rfl,T⟩:=P.one;cases T;obtain⟨z,its,n,r,J,e⟩:=I.lstM U;obtain⟨G,Z,L,S,R,e2⟩:=Inv.lstR I O;have W:its.toArray.size+Z.toArray.size<=sizeLine:=by rw[J8,J8];omega
 have Y:¬ (!its.toArray.isEmpty && u_ (its.toArray.size+Z.toArray.size))=true:=by
  rw[Af W,Bool.and_false];exact Lg
 refine Nv F.slot_list_extend ⟨_,e,rfl⟩ F.entry_list_extend (F.args_list_extend_2 _ _)
  (AutoSeq1.list_extend_list_list_0 l its.toArray n b Z.toArray L Y (by rw[J8];omega) (by omega)) ⟨e,e2,?_⟩
 refine⟨.non,_,I.lset (its':=its++Z) U e (by simp) (r.append S) ?_,rfl,q⟩
 rw[J5];omega
theorem vS:G4 X.K E lJ t9:=by
 intro G S H d ds v vs Q rep r rs c;unfold lJ at c;split at c
 ·next k j=>
  obtain⟨p,rfl,Z⟩:=r.lst_inv;obtain⟨w,ws,rfl,W,P⟩:=rs.cons_inv;cases P.nil_inv;obtain⟨q,rfl,O⟩:=W.lst_inv;obtain⟨es,us,_,U,T,L⟩:=bp c rep Z;obtain⟨fs,ys,_,I,R,J⟩:=bp L rep O;obtain⟨Y,N⟩:=i6 J rep Z (T.append R);rw[J5]at Y;exact⟨p,q,us,ys,rfl,rfl,U,.inl I,J4 Y gg,N _ .non⟩
 ·next k fs=>
  obtain⟨p,rfl,Z⟩:=r.lst_inv;obtain⟨w,ws,rfl,W,P⟩:=rs.cons_inv;cases P.nil_inv;obtain⟨q,o,ys,rfl,O,R⟩:=W.fz_inv;obtain⟨es,us,_,U,T,L⟩:=bp c rep Z;obtain⟨Y,N⟩:=i6 L rep Z (T.append R);rw[J5]at Y;exact⟨p,q,us,ys,rfl,rfl,U,.inr ⟨o,O⟩,J4 Y gg,N _ .non⟩
 ·exact(ao c).elim
theorem yL:G4 X.K E mR Ag:=by
 intro N S H d ds v vs Q rep r rs c;unfold mR at c;split at c
 ·next k i=>
  obtain⟨p,rfl,W⟩:=r.lst_inv;obtain⟨w,ws,rfl,I,F⟩:=rs.cons_inv;cases F.nil_inv;rw[I.int_inv];obtain⟨es,us,C,G,T,Z⟩:=bp c rep W;split at Z
  ·next hb=>
   cases q:es[i.toNat]? with
   |none=>rw[q]at Z;exact(ao Z).elim
   | some y=>
    rw[q]at Z;obtain⟨J,R,U⟩:=T.get' q;have hlen:=T.length;have L:Ext N H N (upd H p (.lst (us.eraseIdx i.toNat))):=sg (Ky W);have Y:=RelDs.eraseIdx i.toNat T;have O:=i6 (ak Z) rep W Y;have P:us.length<=lim+1:=by
     have:=O.1;rw[List.length_eraseIdx]at this;split at this<;>omega
    refine⟨p,us,i,i.toNat,J,rfl,rfl,G,by omega,by unfold lim at P;omega,?_,R,?_⟩
    ·unfold N1;simp only[show ¬ i<0 by omega,if_false]
     first|(rw[if_pos (by omega)])|(rw[if_pos (by simp;omega)])|(simp;omega)
    ·exact ah O.2 .refl (sh rep W Y) _ (U.later rep L)
  ·exact(ao Z).elim
 ·exact(ao c).elim
theorem mS{Z:Pos}(U:SE X E o m)(T:SE X E e n)
  (W:u5 o "append" X.env (h_ o X.env)=h_ o X.env:=by rfl)
  (Y:(Z.endLine==pos.line)=true:=by rfl) (hs:eb [e] X.env=[(dV,h_ e X.env)]:=by rfl):
  SE X E (.Call (.Attribute o "append" Z) [e] [] pos) (fun ρ=>do let x<-m ρ;Gf x;let ds<-(do let y<-n ρ;let ys<-aC [];aC (y::ys));fC x ds):=
 sx PySem.F.slot_list_append PySem.F.type_list_append mH vQ U (af T aq hs) W (by rw[hs];rfl) Y hs rfl
theorem yM{Z:Pos}(U:SE X E o m)(T:SE X E e n)
  (W:u5 o "extend" X.env (h_ o X.env)=h_ o X.env:=by rfl)
  (Y:(Z.endLine==pos.line)=true:=by rfl) (hs:eb [e] X.env=[(dV,h_ e X.env)]:=by rfl):
  SE X E (.Call (.Attribute o "extend" Z) [e] [] pos) (fun ρ=>do let x<-m ρ;Gf x;let ds<-(do let y<-n ρ;let ys<-aC [];aC (y::ys));lJ x ds):=
 sx PySem.F.slot_list_extend PySem.F.type_list_extend vR vS U (af T aq hs) W (by rw[hs];rfl) Y hs rfl
theorem AI{Z:Pos}(U:SE X E o m)(T:SE X E e n)
  (W:u5 o "pop" X.env (h_ o X.env)=h_ o X.env:=by rfl)
  (Y:(Z.endLine==pos.line)=true:=by rfl) (hs:eb [e] X.env=[(dV,h_ e X.env)]:=by rfl):
  SE X E (.Call (.Attribute o "pop" Z) [e] [] pos) (fun ρ=>do let x<-m ρ;Gf x;let ds<-(do let y<-n ρ;let ys<-aC [];aC (y::ys));mR x ds):=
 sx PySem.F.slot_list_pop PySem.F.type_list_pop Ah yL U (af T aq hs) W (by rw[hs];rfl) Y hs rfl
theorem yN:IS X.K E jM DX:=by
 intro G S H d1 L I v1 v2 N Q rep T P U c;unfold jM at c;split at c
 ·next k j=>
  obtain⟨p,rfl,W⟩:=T.lst_inv;obtain⟨es,us,_,R,Y,Z⟩:=bp c rep W;cases q:zQ es.length j with
  |none=>rw[q]at Z;exact(ao Z).elim
  |some at'=>
   rw[q]at Z;obtain⟨J,O⟩:=i6 (ak Z) rep W (RelDs.set U at' Y);refine⟨p,us,j,at',rfl,P.int_inv,R,by rw[<-Y.length];exact q,?_⟩
   exact ah O .refl (sh rep W (RelDs.set U at' Y))
 ·exact(ao c).elim
theorem xA(O:SE X E o m)(N:SE X E i n)(I:∀v,K' (.Subscript o i pos) X.env v=(do
   let ov<-z_ [v] (h_ o X.env);let iv<-z_ [v,ov] (h_ i X.env)
   F_ pos
   z_ [v,ov,iv] (OJ ov iv v)
   release [v,ov,iv] []):=by intro _;rfl):SG X E (.Subscript o i pos) (fun d ρ=>do let x<-m ρ;let y<-n ρ;jM x y d;aC ρ):=by
 refine PG.imp (Et O N set_list I) fun v σ H Q h=>?_;obtain⟨L,S,ρ,d,rep,re,r,c⟩:=h;refine⟨L,S,ρ,rep,re,ax (ak c) fun x Z S1 B e1 rep1 c1 v1 U=>?_⟩;refine⟨Z,S1,ρ,rep1,re.later rep e1,ax (ak c1) fun y W T K e2 rep2 J v2 R=>?_⟩;have Y:=(re.later rep e1).later rep1 e2;refine yN (E:=E) W T K x y d v1 v2 v _ rep2 (U.later rep1 e2) R ((r.later rep e1).later rep1 e2) (ax (ak J) fun _ G A C P rep3 F=>?_);exact ah F .refl rep3 σ (Y.later rep2 P)
def bC(lo:Int)(n:Nat):List D:=(d_ n).map fun i=>.int (lo+(i:Nat))
def mT:List D->M Iter
 |[.int j]=>if -(2 ^ 62)<=j/\j<2 ^ 62 then aC ⟨bC 0 j.toNat,.none⟩else M.fail
 |_=>M.fail
def kf:List D->M Iter
 |[.int i,.int j]=>if -(2 ^ 62)<=i/\i<2 ^ 62/\ -(2 ^ 62)<=j/\j<2 ^ 62 then aC ⟨bC i (j - i).toNat,.none⟩else M.fail
 |_=>M.fail
theorem lK{K:dt}{Y:Int}{n:Nat}{S:List b'}{H:Hp}:iR K ⟨bC Y n,.none⟩ (GF Y n) S H:=by
 intro T O Q e rep ok i;refine⟨fun d hd=>?_,fun h=>?_⟩
 ·have Z:((d_ n)[i]?).map (fun i:Nat=>D.int (Y+(i:Nat)))=ar d:=by
   have:(bC Y n)[i]? =ar d:=hd;unfold bC at this;rw[KG]at this;exact this
  have U:i<n:=by
   by_cases h:i<n
   ·exact h
   ·rw[K2 (by simp;omega)]at Z;cases Z
  rw[MC U]at Z;cases Z;exact⟨U,fun x P R=>by obtain⟨rfl,rfl⟩:=R;exact⟨.refl,rep,.int _⟩⟩
 ·have h':(bC Y n).length<=i:=h;unfold bC at h';rw[JV,Kc]at h';exact h'
theorem eg(Y:X.mg "range"=none)(T:SE X E a m)(U:Gl X "range":=by rfl)(hs:eb [a] X.env=[(dV,h_ a X.env)]:=by rfl):
  SI X E tg (.Call (.Name "range" p) [a] [] pos) (fun ρ=>do let ds<-(do let x<-m ρ;let xs<-aC [];aC (x::xs));mT ds):=by
 intro pins s σ H R I h;refine yt U Y (af T aq hs) hs pins s σ H R I ?_;obtain⟨P,S,ρ,rep,re,c⟩:=h;refine⟨P,S,ρ,rep,re,ax (ak c) fun ds W S1 O e1 rep1 c1 vs r=>?_⟩;unfold mT at c1;split at c1
 ·next j=>
  obtain⟨w,ws,rfl,Z,Q⟩:=r.cons_inv;cases Q.nil_inv;split at c1
  ·next hb=>rw[Z.int_inv];exact⟨j,rfl,hb.1,hb.2,ah c1 .refl rep1 _ lK⟩
  ·exact(ao c1).elim
 ·exact(ao c1).elim
theorem mU(U:X.mg "range"=none)(N:SE X E a m)(Y:SE X E b n)(P:Gl X "range":=by rfl)(hs:eb [a,b] X.env=[(dV,h_ a X.env),(dV,h_ b X.env)]:=by rfl)(Z:eb [b] X.env=[(dV,h_ b X.env)]:=by rfl):
  SI X E tg (.Call (.Name "range" p) [a,b] [] pos) (fun ρ=>do let ds<-(do let x<-m ρ;let xs<-(do let y<-n ρ;let ys<-aC [];aC (y::ys));aC (x::xs));kf ds):=by
 intro pins s σ H R I h;refine yu P U (af N (af Y aq Z) (by rw[hs,Z])) hs Z pins s σ H R I ?_
 obtain⟨J,S,ρ,rep,re,c⟩:=h;refine⟨J,S,ρ,rep,re,ax (ak c) fun ds Q S1 F e1 rep1 c1 vs r=>?_⟩;unfold kf at c1;split at c1
 ·next i j=>
  obtain⟨w,ws,rfl,W,K⟩:=r.cons_inv;obtain⟨G,T,rfl,O,L⟩:=K.cons_inv;cases L.nil_inv;split at c1
  ·next Y=>rw[W.int_inv,O.int_inv];exact⟨i,j,rfl,Y,ah c1 .refl rep1 _ lK⟩
  ·exact(ao c1).elim
 ·exact(ao c1).elim
def He:D->M Iter
 | .lst k=>do let xs<-getL k;aC ⟨xs,.some k⟩
 | .tup ds=>aC ⟨ds,.none⟩
 | .ro ds=>aC ⟨ds,.none⟩
 | .fz ds=>aC ⟨ds,.none⟩
 |_=>M.fail
theorem ua{K:dt}{k:Nat}{a:b'}{xs:List D}{S:List b'}{H:Hp}(R:S[k]? =ar a):iR K ⟨xs,.some k⟩ (HJ K a) S H:=by
 intro Q L O e rep ok i;obtain⟨vs,Z,U⟩:=rep.get k a xs (e.at R) ok;refine⟨fun d hd=>?_,fun h=>⟨vs,.of Z,by rw[<-U.length];exact h⟩⟩
 obtain⟨v,T,P⟩:=U.get' hd;refine⟨⟨vs,v,.of Z,T⟩,fun x N Y=>?_⟩;obtain⟨rfl,Y⟩:=Y;have:=Y vs (.of Z);rw[T]at this;cases this;exact⟨.refl,rep,P⟩
theorem vT{K:dt}{a:b'}{ds:List D}{vs:List V}{U:List b'}{S:aE}{H:Hp}(Y:Rep K U H S)(Q:H a=ar (.tup vs))(r:RelDs K U H ds vs):iR K ⟨ds,.none⟩ (IA K a) U H:=by
 intro O I L e rep2 ok i;have Z:=(e.oth a _ Q (Y.notIn Q (by intro _ z;cases z)) (by intro _ z;cases z) (by intro _ z;cases z)).1
 have P:=r.laterN Y e;refine⟨fun d hd=>?_,fun h=>⟨vs,.of Z,by rw[<-r.length];exact h⟩⟩
 obtain⟨v,R,N⟩:=P.get' hd;refine⟨⟨vs,v,.of Z,R⟩,fun x J T=>?_⟩;obtain⟨rfl,T⟩:=T;have:=T vs (.of Z);rw[R]at this;cases this;exact⟨.refl,rep2,N⟩
theorem rj{K:dt}{a:b'}{ds:List D}{vs:List V}{U:List b'}{S:aE}{H:Hp}(Z:Rep K U H S)(P:Cg K H a vs)(r:RelDs K U H ds vs):iR K ⟨ds,.none⟩ (HJ K a) U H:=by
 intro N Q J e rep2 ok i;have Y:Cg K Q a vs:=P.imp (fun⟨o,h⟩=>⟨o,(e.oth a _ h (Z.notIn h (by intro _ z;cases z)) (by intro _ z;cases z) (by intro _ z;cases z)).1⟩) fun z=>z
 have O:=r.laterN Z e;have sq:jH K Q a vs:=Y.sq;refine⟨fun d hd=>?_,fun h=>⟨vs,sq,by rw[<-r.length];exact h⟩⟩
 obtain⟨v,R,L⟩:=O.get' hd;refine⟨⟨vs,v,sq,R⟩,fun x I T=>?_⟩;obtain⟨rfl,T⟩:=T;have:=T vs sq;rw[R]at this;cases this;exact⟨.refl,rep2,L⟩
theorem cL(T:SE X E e m):SI X E tg e (fun ρ=>do let x<-m ρ;He x):=by
 intro pins s σ H R I h;obtain⟨O,S,ρ,rep,re,c⟩:=h;obtain⟨r,P,Q,k⟩:=id (ak c);cases r with
 |ex x=>
  refine lh T pins s σ H R I ⟨O,S,ρ,rep,re,.ex x,P,Q,k⟩
 | ok d=>
  cases d with
  |tup ds=>
   refine Ez T pins s σ H R I ⟨O,S,ρ,rep,re,.ok (.tup ds),P,Q,fun Z W e1 rep1 v U=>?_⟩;obtain⟨p,vs,rfl,Y,N⟩:=U.tup_inv;exact⟨p,rfl,⟨vs,.of Y⟩,ah (k Z W e1 rep1) .refl rep1 _ (vT rep1 Y N)⟩
  |lst j=>
   refine lh T pins s σ H R I ⟨O,S,ρ,rep,re,.ok (.lst j),P,Q,fun Z W e1 rep1 v U=>?_⟩;obtain⟨p,rfl,Y⟩:=U.lst_inv;obtain⟨es,us,_,K,J,L⟩:=bp (k Z W e1 rep1) rep1 Y;exact⟨p,rfl,⟨us,.of K⟩,ah L .refl rep1 _ (ua Y)⟩
  |ro ds=>
   refine lh T pins s σ H R I ⟨O,S,ρ,rep,re,.ok (.ro ds),P,Q,fun Z W e1 rep1 v U=>?_⟩;obtain⟨p,vs,rfl,Y,N⟩:=U.ro_inv;exact⟨p,rfl,⟨vs,Y.sq⟩,ah (k Z W e1 rep1) .refl rep1 _ (rj rep1 Y N)⟩
  |fz ds=>
   refine lh T pins s σ H R I ⟨O,S,ρ,rep,re,.ok (.fz ds),P,Q,fun Z W e1 rep1 v U=>?_⟩;obtain⟨p,o,vs,rfl,Y,N⟩:=U.fz_inv;exact⟨p,rfl,⟨vs,.inl (.inr ⟨o,Y⟩)⟩,ah (k Z W e1 rep1) .refl rep1 _ (rj rep1 (.inl ⟨o,Y⟩) N)⟩
  |_=>exact lh T pins s σ H R I ⟨O,S,ρ,rep,re,.ok _,P,Q,fun Z W e1 rep1 v U=>(ao (k Z W e1 rep1)).elim⟩
theorem ub:eE X (.type "range") (fun xs H Q=>∃j,xs=[.int j]/\∀p,H p=none->Q (.ref p) (upd H p (.rng 0 j))):=by
 intro pins s σ H xs us Q I r h;obtain⟨j,rfl,q⟩:=h;obtain⟨u,rfl,Z⟩:=vals1 r;obtain⟨t,rfl⟩:=(show ∃t,u=wk j t from Z);refine call_range_1 ⟨.ref s.heap.objs.size,_,I.laid (o:=.rng 0 j) (fun b o e=>JW _ e) (JY _) ⟨_,_,_,J9 _ rfl⟩,rfl,q _ (I.hok.fresh (JY _))⟩
theorem qy(K:X.calm=b_):eE X (.type "list") (fun xs H Q=>∃(p:b') (j:Int),xs=[.ref p]/\H p=ar (.rng 0 j)/\ -(2 ^ 62)<=j/\j<=lim/\∀l,H l=none->Q (.ref l) (upd H l (.lst ((d_ j.toNat).map fun i:Nat=>V.int (i:Nat))))):=by
 intro pins s σ H xs us Q I r h;obtain⟨p,j,rfl,P,S,O,q⟩:=h;obtain⟨u,rfl,F⟩:=vals1 r;cases (show u=gj p from F);obtain⟨t,u,v,T⟩:=(show b7 X.prog X.w H s.heap p (.rng 0 j)from I.hok p _ P);have U:Builtin.Range.rangeSize 0 j 1=(j.toNat:Int):=by rw[rangeSize_one];split<;>omega
 have Z:j.toNat<=lim:=by omega
 refine call_list_range (I.ok.hd K) T (small_one (by omega) (by omega) S (by unfold lim at O;omega)) U (by unfold lim at Z;omega) fun h' G acc J R N hit=>?_
 refine⟨.ref s.heap.objs.size,_,I.laid (t':=G) R (JY _) (o:=.lst ((d_ j.toNat).map fun i:Nat=>V.int (i:Nat))) ?_,rfl,q _ (I.hok.fresh (JY _))⟩;refine⟨by rw[JV,Kc];exact J4 Z gg,acc.toList,J,?_,by simpa using N⟩
 obtain⟨hs,L⟩:=hit;have gen:∀(l:List a_) (f:Nat->Int),(∀i v,l[i]? =ar v->∃t,v=wk (f i) t)->bw ((d_ l.length).map fun i:Nat=>V.int (f i)) l:=by
  intro l
  induction l with
  |nil=>intro f _;exact .nil
  |cons x l ih=>
   intro f hf;rw[KD,LL,Kr,Ke];obtain⟨t,Y⟩:=hf 0 x rfl;refine .cons ⟨t,Y⟩ ?_;exact ih (fun i=>f (i+1)) fun i v W=>hf (i+1) v (by simpa using W)
 have:=gen acc.toList (fun i=>(i:Int)) fun i v W=>by
  obtain⟨t,Y⟩:=L i v (by simpa using W)
  exact⟨t,by rw[Y];congr 1;omega⟩
 rw[MB,hs]at this;exact this
def cY:List D->M D
 |[.int j]=>if -(2 ^ 62)<=j/\j<=lim then bD (bC 0 j.toNat)else M.fail
 |_=>M.fail
theorem pC{K:dt}{Z:List b'}{H:Hp}:∀(l:List Nat),RelDs K Z H (l.map fun i:Nat=>D.int (0+(i:Nat))) (l.map fun i:Nat=>V.int (i:Nat))
 |[]=>.nil
 |x::l=>.cons (by show RelD K Z H (D.int (0+(x:Int))) (V.int (x:Int));rw[MM];exact .int _) (pC l)
theorem lL(I:X.calm=b_)(P:X.mg "list"=none)(Y:X.mg "range"=none)(L:SE X E a m)(N:Gl X "list":=by rfl)(W:Gl X "range":=by rfl)(hs:eb [a] X.env=[(dV,h_ a X.env)]:=by rfl)
  (Z:eb [.Call (.Name "range" q) [a] [] pos2] X.env=[(dV,h_ (.Call (.Name "range" q) [a] [] pos2) X.env)]:=by rfl):
  SE X E (.Call (.Name "list" p) [.Call (.Name "range" q) [a] [] pos2] [] pos) (fun ρ=>do let ds<-(do let x<-m ρ;let xs<-aC [];aC (x::xs));cY ds):=by
 refine PE.imp (mG (qy I) N P (by decide+kernel) (lj (mG ub W Y (by decide+kernel) (af L aq hs) (by decide) (by decide) hs rfl) rS Z) (by decide) (by decide) Z rfl) fun σ H Q h=>?_
 obtain⟨J,S,ρ,rep,re,c⟩:=h;refine⟨J,S,ρ,rep,re,ax (ak c) fun ds O S1 G e1 rep1 c1 vs r=>?_⟩;unfold cY at c1;split at c1
 ·next j=>
  obtain⟨w,ws,rfl,R,K⟩:=r.cons_inv;cases K.nil_inv;split at c1
  ·next hb=>
   rw[R.int_inv];refine⟨j,rfl,fun p U=>?_⟩;have rep2:=kb (o:=.rng 0 j) rep1 U;refine⟨p,j,rfl,a7,hb.1,hb.2,?_⟩;have T:=jf c1 (iD (o:=.rng 0 j) U);exact(bE T rep2 (pC (d_ j.toNat))).2
  ·exact(ao c1).elim
 ·exact(ao c1).elim
end
section
variable {X:Cx}{E:XD}{a b c d e:Expr}{m n l k:TM}{pos p2:Pos}
end
section
variable {X:Cx}{E:XD}{e:Expr}{m:TM}{te:TE}{pos p1 p2 p3:Pos}{j:Nat}
end
def insI(x:Int):List Int->List Int
 |[]=>[x]
 |y::r=>if x<=y then x::y::r else y::insI x r
def sortI:List Int->List Int
 |[]=>[]
 |x::r=>insI x (sortI r)
theorem insI_perm(x:Int):∀l,(insI x l).Perm (x::l)
 |[]=>.refl _
 |y::r=>by
  unfold insI;split
  ·exact .refl _
  ·exact(List.Perm.cons y (insI_perm x r)).trans (List.Perm.swap x y r)
theorem sortI_perm:∀l,(sortI l).Perm l
 |[]=>.refl _
 |x::r=>(insI_perm x _).trans (List.Perm.cons x (sortI_perm r))
theorem nL(x:Int):∀{l:List Int},l.Pairwise (· <=·)->(insI x l).Pairwise (· <=·)
 |[],_=>by simp[insI]
 | y::r,h=>by
  obtain⟨Y,X⟩:=KB.mp h;unfold insI;split
  ·next c=>
   refine KB.mpr ⟨fun z Z=>?_,h⟩;rcases Km.mp Z with rfl|Z
   ·exact c
   ·exact Int.le_trans c (Y z Z)
  ·next c=>
   refine KB.mpr ⟨fun z Z=>?_,nL x X⟩;rcases Km.mp ((insI_perm x r).mem_iff.mp Z)with rfl|Z
   ·omega
   ·exact Y z Z
theorem gJ:∀l,(sortI l).Pairwise (· <=·)
 |[]=>.nil
 |x::r=>nL x (gJ r)
section
variable {X:Cx}{E:XD}{e:Expr}{m:TM}{pos:Pos}
theorem sy:eE X (.builtin "sorted") (fun xs H Q=>∃(p:b') (ns:List Int),xs=[.ref p]/\jH X.K H p (ns.map V.int)/\ns.length<64/\∀l,H l=none->Q (.ref l) (upd H l (.lst ((sortI ns).map V.int)))):=by
 intro pins s σ H xs us Q I r h;obtain⟨p,ns,rfl,R,U,q⟩:=h;obtain⟨u,rfl,O⟩:=vals1 r;cases (show u=gj p from O);obtain⟨its,Y,S,L⟩:=I.list R;have T:nf its ns:=MW Y;have hlen:=Y.length;rw[JV]at hlen;refine sorted_ints S.isList T (by omega) fun out Z a1 a2 P=>?_
 have en:Z=sortI ns:=W.lks_uniq (a2.trans (sortI_perm ns).symm) P (gJ ns);subst en;obtain⟨c,N⟩:=sortedAll_at s.heap its out;have hf:H (s.heap.objs.size+1)=none:=I.hok.fresh (LR _);refine⟨.ref (s.heap.objs.size+1),_,I.laid (t':=s.toks) (o:=.lst ((sortI ns).map V.int)) (fun b o e=>sortedAll_old e) (LR _) ⟨?_,out.toList,c,j9 a1,N⟩,rfl,q _ hf⟩;rw[JV,(sortI_perm ns).length_eq,K9];omega
theorem pD{K:dt}{Z:List b'}{H:Hp}:∀ns:List Int,RelDs K Z H (ns.map D.int) (ns.map V.int)
 |[]=>.nil
 |n::r=>.cons (.int n) (pD r)
end
end S3
namespace S3
open PySem PySem.Spec PySem.W PyProof.Rows L2
theorem pE{h:f_}:∀{vs:List a_},(∀v∈vs,∃a o us n i t,v= .ref a/\h.get? a=ar o/\o.cls= .type "tuple"/\o.data= .seq us n/\us[0]? =ar (wk i t))->
  ∃fs,KatTups h vs fs/\fs.length=vs.length/\∀f∈fs,∃i t,f=wk i t
 |[],_=>⟨[],.nil,rfl,fun _ z=>nomatch z⟩
 |v::vs,hv=>by
  obtain⟨a,o,us,n,i,t,rfl,e1,e2,X,Y⟩:=hv v Kj;obtain⟨fs,k1,k2,k3⟩:=pE fun Z h'=>hv Z (J7 _ h');refine⟨_::fs,.cons e1 e2 X Y k1,by simp[k2],fun f hf=>?_⟩
  rcases Km.mp hf with rfl|hf
  ·exact⟨i,t,rfl⟩
  ·exact k3 f hf
theorem fU:∀ns:List Int,HT.lexLt ns ns=dV
 |[]=>rfl
 |n::r=>by rw[HT.lexLt_cons,if_pos rfl];exact fU r
theorem vU:∀{a b c:List Int},HT.lexLt a b=b_->HT.lexLt b c=b_->HT.lexLt a c=b_
 |[],[],c,h,_=>by cases h
 |[],_::_,[],_,h=>by cases h
 |[],_::_,_::_,_,_=>rfl
 |_::_,[],c,h,_=>by cases h
 |_::_,_::_,[],_,h=>by cases h
 | x::a,y::b,z::c,h1,h2=>by
  rw[HT.lexLt_cons]at h1 h2⊢;split at h1
  ·next e=>
   subst e;split at h2
   ·next e2=>subst e2;rw[if_pos rfl];exact vU h1 h2
   ·next e2=>rw[if_neg e2];exact h2
  ·next e=>
   have Z:x<y:=Kw h1;split at h2
   ·next e2=>subst e2;rw[if_neg e];exact h1
   ·next e2=>
    have Y:y<z:=Kw h2;rw[if_neg (by omega)];exact J3 (by omega)
theorem sA:∀{a b c:List Int},HT.lexLt a c=b_->HT.lexLt a b=b_\/HT.lexLt b c=b_
 |a,b,[],h=>by cases a<;>cases h
 |[],[],_::_,_=>.inr rfl
 |[],_::_,_::_,_=>.inl rfl
 |_::_,[],_::_,_=>.inr rfl
 | x ::a,y::b,z::c,h=>by
  rw[HT.lexLt_cons]at h;rw[HT.lexLt_cons,HT.lexLt_cons];split at h
  ·next e=>
   subst e;by_cases e2:x=y
   ·subst e2;rw[if_pos rfl,if_pos rfl];exact sA h
   ·rw[if_neg e2,if_neg (lx e2)];rcases Int.lt_or_gt_of_ne e2 with l|l
    ·exact .inl (J3 l)
    ·exact .inr (J3 l)
  ·next e=>
   have h':x<z:=Kw h;by_cases e2:x=y
   ·subst e2;rw[if_neg e];exact .inr (J3 h')
   ·rw[if_neg e2];by_cases l:x<y
    ·exact .inl (J3 l)
    ·refine .inr ?_;rw[if_neg (by omega)];exact J3 (by omega)
theorem AJ(x:b7 P w H h a o):∃Z,h.get? a=ar Z:=by
 cases o with
 |lst xs=>obtain⟨_,_,_,_,e⟩:=x;exact⟨_,e⟩
 |tup xs=>obtain⟨_,_,_,Z,e,_⟩:=x;exact⟨_,e⟩
 |dK kvs=>obtain⟨_,_,_,_,o,_,_,e,_⟩:=x;exact⟨_,e⟩
 |dT kvs=>obtain⟨_,_,_,_,o,_,_,e,_⟩:=x;exact⟨_,e⟩
 |set S n=>obtain⟨o,_,_,_,e,_⟩:=x;exact⟨_,e⟩
 |ins C dx fs=>obtain⟨_,_,_,e,_⟩:=x;exact⟨_,e⟩
 |own y=>exact x
 |xd fs=>obtain⟨_,⟨_,_,_,e,_⟩,_⟩:=x;exact⟨_,e⟩
 |rng lo hi=>obtain⟨_,_,_,e⟩:=x;exact⟨_,e⟩
 |frz Z u=>exact⟨_,x.1⟩
 |tbl ps=>exact⟨_,show h.get? a=ar _ from x⟩
 |met f y=>exact⟨_,show h.get? a=ar _ from x⟩
 |ext φ=>exact x.2.1
section
variable {X:Cx}{pins:List (b'×Obj)}{σ:L2.St}{H:Hp}{s:c_}
theorem vV{us:List a_}(I:L2.Inv X pins σ H s)(N:Fr X.base X.env.locals s.heap m)(F:Fr X.base X.env.locals h2 m)
  (U:∀b o,b≠X.env.locals->s.heap.get? b=ar o->h2.get? b=ar o) (R:s.heap.get? d=none) (E:h2.get? d=ar {cls:=.type "list",data:=.seq us.toArray n}) (J:bw ys us) (O:ys.length<=sizeLine):
  L2.Inv X pins σ (upd H d (.lst ys)) {s with heap:=h2}:=by
 have Y:H d=none:=by
  cases e:H d with
  |none=>rfl
  |some o=>obtain⟨Q,q⟩:=AJ (I.hok d o e);rw[R]at q;cases q
 have W:∀b o,H b=ar o->b≠X.env.locals:=fun b o e z=>by rw[z,I.free]at e;cases e
 have old:∀b o,s.heap.get? b=ar o->b≠d:=fun b o e z=>by rw[z,R]at e;cases e
 refine I.step (g':=s.gens) (d':=s.drawn) (t':=s.toks) (ch:=[]) (fun _ z=>nomatch z) (fun b o Z _ _ e _=>U b o Z e) (fun b o Z _ _ e _=>⟨o.slots,U b o Z e⟩)
  (fun b o _ e n=>by rw[aM (old b o e)];exact n) (fun b o _ e=>?_) (fun b xs e=>by rw[aM (aS e Y)];exact e) (fun b Q u e=>by rw[aM (aS e Y)];exact e)
  (fun b A e=>⟨#[],by rw[aM (aS e Y),e];simp⟩) (fun K hm=>?_) (fun b u e=>?_) I.bare
 ·by_cases Z:b=X.env.locals
  ·obtain⟨G,_,_,C,_⟩:=F.ns;exact⟨G,by rw[Z];exact C⟩
  ·exact⟨o,U b o Z e⟩
 ·have:K=m:=by
   obtain⟨y,es,B,e1,d1,_,g1⟩:=hm;obtain⟨o2,P,L,e2,S,_,g2⟩:=N.ns;rw[e1]at e2;cases e2;rw[d1]at S;cases S;funext x;rw[<-g1 x, <-g2 x]
  rw[this];exact F.ns
 ·by_cases Z:b=d
  ·subst Z;rw[a7]at e;cases e;exact⟨O,us,n,J,E⟩
  ·rw[aM Z]at e;refine(I.hok b u e).stay (fun c v T z=>U c v ?_ z) (fun c z=>by rw[aM (aS z Y)];exact z) fun c xs z=>by rw[aM (aS z Y)];exact z
   rcases T with rfl|T
   ·exact W _ _ e
   ·exact W _ _ T
end
section
variable {X:Cx}
end
end S3
namespace S4
open PySem PySem.SetTable
def tb(m:Nat):SetTable:=⟨m, #[], #[],0,b_,0,b_⟩
def AK(m:Nat)(h:Int):Nat->Probe
 |0=>(tb m).probeStart h
 |k+1=>(tb m).advance (AK m h k)
def run(m i:Nat):Nat:=runEnd m i - i
def JP(m:Nat):Prop:=m=7\/m=31
def JQ(xs:Array Nat):Prop:=∀(i j a b:Nat),i<j->xs[i]? =ar a->xs[j]? =ar b->a<b
abbrev Ent:=Int×a_
def At(pl:Array Nat)(es:Array Ent)(j:Nat)(e:Ent):Prop:=∃i:Nat,pl[i]? =ar j/\es[i]? =ar e
structure TPre(t:NU)(es:Array Ent):Prop where
 msk:JP t.mask
 dum:t.dummies= #[]
 siz:t.place.size=es.size
 ris:JQ t.place
 inb:∀(i a:Nat),t.place[i]? =ar a->a<=t.mask
 way:∀(j:Nat) (e:Ent),At t.place es j e->∃k,(AK t.mask e.1 k).j=j/\∀m,m<k->∃e',At t.place es (AK t.mask e.1 m).j e'
structure TOk(t:NU)(es:Array Ent):Prop extends TPre t es where
 few:es.size*5<t.mask*3
abbrev HP:=Array (Option Nat)
def IV(o:HP)(j:Nat):Prop:=∃k,o[j]? =ar (ar k)
structure Laid(m:Nat)(hs:List Int)(o:HP):Prop where
 siz:o.size=m+1
 way:∀(j k:Nat),o[j]? =ar (ar k)->∃x,hs[k]? =ar x/\∃n,(AK m x n).j=j/\∀i,i<n->IV o (AK m x i).j
def Hf(m:Nat)(f:Nat->Option Nat):List (Nat×Nat):=(d_ (m+1)).filterMap fun j=>(f j).map fun k=>(j,k)
def fo(o:HP)(j:Nat):Option Nat:=o.getD j none
structure LaidN(m:Nat)(hs:List Int)(o:HP):Prop extends Laid m hs o where
 all:((Hf m (fo o)).map (·.2)).Perm (d_ hs.length)
end S4
namespace S4
open PySem PySem.Spec PyProof.Rows
section
variable {prog:ed}{w:ee}{A:hF}{E:a_->c_->Prop}{s:c_}
theorem items_int(h:ItemsAre (OH prog w) ks vs):∀v∈vs,∃n t,v=wk n t:=by
 induction h with
 |nil=>intro v Z;cases Z
 | cons h1 _ ih=>
  intro v Z;rcases Km.mp Z with rfl|Z
  ·obtain⟨t,e⟩:=Value.isInt_shape h1;exact⟨_,t,e⟩
  ·exact ih v Z
abbrev KA:=List Int×b'
def IW(prog:ed)(w:ee)(k:List Int):Int:=tupleKeyHash (OH prog w) k
def ent(prog:ed)(w:ee)(p:KA):Ent:=(IW prog w p.1,.ref p.2)
structure SetAt(prog:ed)(w:ee)(h:f_)(a:b')(o:Obj)(es:Array Ent)(ep:Nat)(t:NU)(L:List KA):Prop where
 get:h.get? a=ar o
 ex:o.ExactSet
 dat:o.data= .set es ep t
 ok:TOk t es
 pln:t.plain=b_
 led:t.led= !(w.params.followText "set-order")
 ents:es.toList=L.map (ent prog w)
 nd:(L.map (·.1)).Nodup
end
section
variable {prog:ed}{w:ee}{A:hF}{E:a_->c_->Prop}{s:c_}
end
structure Folded(kv L:List KA):Prop where
 nd:(L.map (·.1)).Nodup
 mem:∀k,k∈L.map (·.1)↔k∈kv.map (·.1)
 sub:∀p∈L,p∈kv
 len:L.length<=kv.length
section
variable {prog:ed}{w:ee}{A:hF}{R:Ox->c_->Prop}{I:b'}{fp wr:List b'}{G:Array M'->Array M'->Prop}{n:Nat}{P:Nat->a_->Prop}{St:Nat->c_->Prop}
end
section
variable {prog:ed}{w:ee}{A:hF}{E:a_->c_->Prop}{s:c_}
end
section
variable {prog:ed}{w:ee}{A:hF}{E:a_->c_->Prop}{s:c_}
def E8(w:ee)(t:NU)(i:Nat):Nat:=if w.params.followText "set-order"=b_ then 0 else match i with
 |0=>0
 |i+1=>t.place.getD i 0+1
structure IterAt(w:ee)(h:f_)(I a:b')(t:NU)(sz ep i:Nat):Prop where
 ex:∃o,h.get? I=ar o/\o.cls= .type "set_iterator"/\o.data= .fields #[.int (E8 w t i) 0,.int i 0,.ref a,.int sz 0,.int ep 0]
end
section
variable {prog:ed}{w:ee}{A:hF}{E:a_->c_->Prop}{s:c_}
end
end S4
namespace S4
open PySem PySem.Spec PySem.W PyProof.Rows L2 S3
section
variable {prog:ed}{w:ee}{A:hF}{E:a_->c_->Prop}{s:c_}
theorem vW{vs:List a_}{P:PySem.Fin->c_->Prop}(W:s.heap.get? a=ar (u4 "list" vs.toArray n))(Q:vs.length<2)
  (h:∀h' c,h'.get? a=ar (u4 "list" vs.toArray c)->(∀b o,b≠a->s.heap.get? b=ar o->h'.get? b=ar o)->P (.done (.ret .none)) {s with heap:=h'}):
  er (ff prog w) A (Builtin.«list.sort» ⟨[.ref a],[]⟩) P E s:=by
 have O:a<s.heap.objs.size:=J0 W;obtain⟨e1,Y⟩:∃e1,(s.heap.update a (p_ fun _=>(#[]:Array a_))).get? a=ar (u4 "list" #[] e1):=⟨_,get?_update_seq W fun _=> #[]⟩;have Z:(((s.heap.update a (p_ fun _=>(#[]:Array a_))).push (u4 "tuple" vs.toArray 0)).push (u4 "list" #[] 0)).get? a=ar (u4 "list" #[] e1):=JW _ (JW _ Y);rw[list_sort_plain];refine JU (listItems_at W rfl ?_);refine JU (listUpdate_at W rfl ?_ (by rw[J8,K9];omega) (Ku _))
 refine JU (seqEpoch_at Y rfl ?_);refine JU (wpAny_newTuple ?_ (by show vs.length<=_;rw[K9];omega))
 refine JU (wpAny_newList ?_ (Ku _));refine Ld ?_;show er (ff prog w) A _ P E {s with heap:=((s.heap.update a (p_ fun _=>(#[]:Array a_))).push (u4 "tuple" vs.toArray 0)).push (u4 "list" #[] 0)};dsimp only;have X:vs.toArray.size<2:=by rw[J8];omega
 rw[if_pos X,if_pos X];refine JU (JZ ?_);rw[StateT.run_pure];refine JU (JZ ?_);dsimp only;refine JU (seqEpoch_at Z rfl ?_);have R:(arrOf (SortSt.mk' general' (vs.toArray.zip vs.toArray) #[] 7 none)).map (·.2)=vs.toArray:=by
  show(vs.toArray.zip vs.toArray).map (·.2)=vs.toArray;rw[Array.map_snd_zip (JY _)]
 rw[R];refine JU (listUpdate_at Z rfl ?_ (Ku _) (by rw[J8,K9];omega))
 obtain⟨T,U⟩:∃T,((((s.heap.update a (p_ fun _=>(#[]:Array a_))).push (u4 "tuple" vs.toArray 0)).push (u4 "list" #[] 0)).update a (p_ fun _=>vs.toArray)).get? a=ar (u4 "list" vs.toArray T):=⟨_,get?_update_seq Z fun _=>vs.toArray⟩;simp only[bne_self_eq_false,kl,if_false];refine JZ (h _ T U fun b o S e=>?_);rw[LG _ _ _ _ S];refine JW _ (JW _ ?_);rw[LG _ _ _ _ S];exact e
end
section
variable {X:Cx}
structure TRow(H:Hp)(vs:List V)(nss:List (List Int)):Prop where
 len:vs.length=nss.length
 at':∀i,i<vs.length->∃a,vs[i]? =ar (.ref a)/\H a=ar (.tup ((nss.getD i []).map V.int))
 ne:∀i,i<vs.length->0<(nss.getD i []).length
def jS(nss:List (List Int))(q:List Nat):Prop:=q.Perm (d_ nss.length)/\∀i j,i<=j->j<nss.length->HT.lexLt (nss.getD (q.getD j 0) []) (nss.getD (q.getD i 0) [])=dV
theorem og{H:Hp}{Q:VK}(I:L2.Inv X pins σ H s)(Pv:List a_->Prop)
  (hc:∀(R:List a_->c_->Prop) (E':a_->c_->Prop),(∀vs Y N,Pv vs->(∀b o,s.heap.get? b=ar o->Y.get? b=ar o)->R vs {s with heap:=Y,toks:=N})->er (ff X.prog X.w) X.A.in1 (collect arg) R E' s)
  (B:∀us,Pv us->∃(vs:List V) (Z:List (List Int)),bw vs us/\TRow H vs Z/\vs.length<64/\∀q,jS Z q->∀l,H l=none->Q (.ref l) (upd H l (.lst (q.map fun i=>vs.getD i .non)))):
  er (ff X.prog X.w) X.A (call (.builtin "sorted") [arg]) (EP X pins σ Q) X.xe s:=by
 refine Calls.call_function_entry kind_sorted plain_sorted entry_sorted (args_sorted1 _) ?_;unfold Builtin.«sorted»;refine JU (m:=checkCount "sorted" 1 1 _) (JZ ?_);refine JU (hc _ _ fun its Y N hP keep=>?_);obtain⟨vs,Z,rv,T0,d3,q⟩:=B its hP;have a8:=rv.length;have K:L2.Inv X pins σ H {s with heap:=Y,toks:=N}:=I.kept keep;obtain⟨m,F⟩:=K.fr;refine JU (wpAny_newList ?_ (by rw[K9];omega))
 have O:(Y.push (u4 "list" its.toArray 0)).get? Y.objs.size=ar (u4 "list" its.toArray 0):=J9 _ rfl;have up:∀b o,Y.get? b=ar o->(Y.push (u4 "list" its.toArray 0)).get? b=ar o:=fun b o e=>JW _ e;have nd:Y.get? Y.objs.size=none:=KP (JY _);have hL:X.env.locals<Y.objs.size:=F.ns.lt;have hH:H Y.objs.size=none:=K.hok.fresh (JY _);have at':∀i,i<its.length->∃a,its[i]? =ar (.ref a)/\its.getD i j_= .ref a/\H a=ar (.tup ((Z.getD i []).map V.int)):=fun i U=>by
  obtain⟨a,e1,e2⟩:=T0.at' i (by omega)
  obtain⟨u,hu,ru⟩:=rv.get e1;cases (show u=gj a from ru);exact⟨a,hu,by rw[J1,hu];rfl,e2⟩
 have b5:∀l:List Nat,(∀x∈l,x<its.length)->bw (l.map fun i=>vs.getD i .non) (l.map fun i=>its.getD i j_):=by
  intro l
  induction l with
  |nil=>intro _;exact .nil
  |cons x l ih=>
   intro hx;refine .cons ?_ (ih fun y hy=>hx y (J7 _ hy));have r:x<vs.length:=by have:=hx x Kj;omega
   obtain⟨u,hu,ru⟩:=rv.get (JX r);show L2.RelV (vs.getD x .non) (its.getD x j_);rw[J1,J1,hu,JX r];exact ru
 show er _ _ _ _ _ {s with heap:=Y.push (u4 "list" its.toArray 0),toks:=N};refine JU (Ld (Lh slot_list_sort ⟨_,O,rfl⟩ entry_list_sort ?body (args_list_sort _)))
 case body=>
  by_cases J:its.length<2
  ·refine vW (s:={s with heap:=Y.push (u4 "list" its.toArray 0),toks:=N}) O J fun h' c g1 g2=>?_;refine⟨_,rfl,JZ ⟨_,rfl,?_⟩⟩;have I2:L2.Inv X pins σ (upd H Y.objs.size (.lst vs)) {s with heap:=h',toks:=N}:=K.laid (fun b o e=>g2 b o (Kf (J0 e)) (up b o e)) (JY _) ⟨by rw[K9];omega,its,c,rv,g1⟩
   refine⟨.ref Y.objs.size,_,I2,rfl,?_⟩;have:=q (d_ Z.length) ⟨.refl _,fun i j d hj=>?_⟩ _ hH
   ·have e:(d_ Z.length).map (fun i=>vs.getD i .non)=vs:=by
     refine MY fun i=>?_;rw[KG, <-T0.len];by_cases U:i<vs.length
     ·rw[MC U,JX U];simp[i_,U]
     ·rw[K2 (by simpa using U),K2 (by omega)];rfl
    rw[e]at this;exact this
   ·have:i=j:=by have:=T0.len;omega
    subst this;exact fU _
  ·have c2:=T0.ne;refine kat_list_sort (s:={s with heap:=Y.push (u4 "list" its.toArray 0),toks:=N}) (F.kept up) (News.grown (oW (g:=X.base) (h:=Y) (L:=X.env.locals)) up) O (LQ hL) (KP (J4 F.above (L5 hL)))
    (fun p hp=>Kf (J0 (oW p hp).1)) (by omega) (by omega) fun e1 h' F' N'=>?_
   have S:∀J:f_,Fr X.base X.env.locals J m->News X.base X.env.locals J (lg X.base Y X.env.locals)->∀b o,b≠X.env.locals->Y.get? b=ar o->J.get? b=ar o:=fun J F2 N2 b o hb e=>by
    cases z:X.base.get? b with
    |some o'=>
     have:=K.bk b o' z;rw[show Y.get? b=ar o' from this]at e;cases e;exact F2.keep b _ z
    |none=>exact(N2 (b,o) (tI hb z e)).1
   have kp:=S h' F' fun z P=>N' z (J7 _ P);have T:Tups Y its Z:=⟨by have:=T0.len;omega,fun i U=>by
    obtain⟨a,_,e1,e2⟩:=at' i U;obtain⟨_,ws,f,o,ho,c3,n,hd⟩:=(show b7 X.prog X.w H Y a (.tup ((Z.getD i []).map V.int))from K.hok a _ e2);refine⟨a,o,ws.toArray,n,e1,ho,c3,hd,by simpa using MW f,?_⟩
    rw[J8, <-f.length,JV];exact c2 i (by omega)⟩
   have T':Tups h' its Z:=T.keep fun i a o U ea ho=>by
    obtain⟨a',_,e1,e2⟩:=at' i U;rw[ea]at e1;cases e1;refine kp a o (fun z=>?_) ho;rw[z,K.free]at e2;cases e2
   obtain⟨fs,k1,k2,k3⟩:=pE (h:=h') (vs:=its) fun v B=>by
    obtain⟨i,U,ei⟩:=LW.mp B;obtain⟨a,o,us,n,f1,f2,f3,f4,f5,f6⟩:=T'.get i U;have ev:v= .ref a:=by
     rw[J1,JX U,ei]at f1;exact f1
    generalize Z.getD i []=ns at f5;cases hus:us.toList with
    |nil=>
     have:us.size=0:=by rw[<-MB,hus];rfl
     omega
    |cons x r'=>
     rw[hus]at f5;cases f5 with
     |cons n' t' _=>exact⟨a,o,us,n,n',t',ev,f2,f3,f4,by rw[<-Lr,hus];rfl⟩
   refine kat_kind k1 (by omega) (T:=.type "int") (fun v B=>by obtain⟨i,t,rfl⟩:=k3 v B;exact Looks.of_pure rfl) rfl ?_
   refine Al (n:=its.length) (R:=In its.length) (b:=fun i j=>HT.lexLt (Z.getD i []) (Z.getD j [])) (fun i j C U hj hC=>T'.ask U hj hC) (tR (by omega)) ?_
   obtain⟨s1,s2⟩:=CM (n:=its.length) (b:=fun i j=>HT.lexLt (Z.getD i []) (Z.getD j [])) (by omega) (fun i _=>fU _) (fun i j k _ _ _=>vU) (fun i j k _ _ _=>sA)
   generalize br (fun i j=>HT.lexLt (Z.getD i []) (Z.getD j [])) (u' its.length)=pp at s1 s2;have W:pp.toList.Perm (d_ its.length):=by simpa using Array.Perm.toList s1
   refine KasFin.intro F' N' (.head fun z P=>Kf (J0 (oW z P).1)) fun a6 c' E G=>?_;have c1:=S a6 E fun z P=>G z (J7 _ P);obtain⟨g1,g2,g3⟩:=G _ Kj;have b1:∀x∈pp.toList,x<its.length:=fun x hx=>Ka.mp (W.mem_iff.mp hx);have b2:(pp.toList.map fun i=>vs.getD i .non).length<=sizeLine:=by
    rw[JV,W.length_eq,Kc,K9];omega
   have I2:=vV K F E c1 nd g1 (b5 pp.toList b1) b2;refine⟨_,rfl,JZ ⟨_,rfl,.ref Y.objs.size,_,I2,rfl,q pp.toList ⟨by rw[<-T0.len,a8];exact W,fun i j d hj=>?_⟩ _ hH⟩⟩
   have:=s2 i j d (by have:=T0.len;omega)
   rw[K6,K6]at this;rw[J1 (l:=pp.toList),J1 (l:=pp.toList),Lr,Lr];exact this
end
end S4
namespace S3
open PySem PySem.Spec PySem.W PyProof.Rows L2 S4
def tupI(ns:List Int):D:=.tup (ns.map D.int)
def rowsOf:List D->Option (List (List Int))
 |[]=>ar []
 | .tup ds::r=>match intsOf ds,rowsOf r with
  |some ns,ar nss=>ar (ns::nss)
  |_,_=>none
 |_=>none
theorem sC:∀{a b:List Int},HT.lexLt a b=dV->HT.lexLt b a=dV->a=b
 |[],[],_,_=>rfl
 |[],_::_,h,_=>by cases h
 |_::_,[],_,h=>by cases h
 | x::a,y::b,h1,h2=>by
  rw[HT.lexLt_cons]at h1 h2;by_cases e:x=y
  ·subst e;rw[if_pos rfl]at h1 h2;rw[sC h1 h2]
  ·rw[if_neg e]at h1;rw[if_neg (lx e)]at h2;have:=of_decide_eq_false h1;have:=of_decide_eq_false h2;omega
abbrev Cj(a b:List Int):Prop:=HT.lexLt b a=dV
def vX(x:List Int):List (List Int)->List (List Int)
 |[]=>[x]
 |y::r=>if HT.lexLt y x=b_ then y::vX x r else x::y::r
def cI:List (List Int)->List (List Int)
 |[]=>[]
 |x::r=>vX x (cI r)
theorem mW(x:List Int):∀l,(vX x l).Perm (x::l)
 |[]=>.refl _
 |y::r=>by
  unfold vX;split
  ·exact((mW x r).cons y).trans (.swap _ _ _)
  ·exact .refl _
theorem bS:∀l,(cI l).Perm l
 |[]=>.refl _
 |x::r=>(mW x _).trans ((bS r).cons x)
theorem yO(Y:Cj a b)(Z:Cj b c):Cj a c:=by
 cases q:HT.lexLt c a with
 |false=>exact q
 |true=>
  rcases sA (b:=b) q with z|z
  ·rw[show HT.lexLt c b=dV from Z]at z;cases z
  ·rw[show HT.lexLt b a=dV from Y]at z;cases z
theorem lM(h:HT.lexLt a b=b_):HT.lexLt b a=false:=by
 cases q:HT.lexLt b a with
 |false=>rfl
 |true=>
  have:=vU h q;rw[fU]at this;cases this
theorem nM(x:List Int):∀{l:List (List Int)},l.Pairwise Cj->(vX x l).Pairwise Cj
 |[],_=>by simp[vX]
 | y::r,h=>by
  obtain⟨Y,W⟩:=KB.mp h;unfold vX;split
  ·next c=>
   refine KB.mpr ⟨fun z Z=>?_,nM x W⟩;rcases Km.mp ((mW x r).mem_iff.mp Z)with rfl|Z
   ·exact lM c
   ·exact Y z Z
  ·next c=>
   have X:Cj x y:=Bool.eq_false_iff.mpr c;refine KB.mpr ⟨fun z Z=>?_,h⟩;rcases Km.mp Z with rfl|Z
   ·exact X
   ·exact yO X (Y z Z)
theorem gK:∀l,(cI l).Pairwise Cj
 |[]=>.nil
 |x::r=>nM x (gK r)
theorem mX{l:List (List Int)}(h:l.Perm l')(Z:l.Pairwise Cj)(Y:l'.Pairwise Cj):l=l':=
 MZ (le:=Cj) (fun a b _ _ x y=>sC y x) Z Y h
theorem vY(h:jS nss q):q.map (fun i=>nss.getD i [])=cI nss:=by
 have hlen:q.length=nss.length:=by simpa using h.1.length_eq
 have e:(d_ nss.length).map (fun i=>nss.getD i [])=nss:=by
  refine MY fun i=>?_;rw[KG];by_cases Z:i<nss.length
  ·rw[MC Z,JX Z];simp[i_,Z]
  ·rw[K2 (by simpa using Z),K2 (by omega)];rfl
 have W:(q.map (fun i=>nss.getD i [])).Perm nss:=by
  have:=h.1.map (fun i=>nss.getD i []);rw[e]at this;exact this
 refine mX (W.trans (bS nss).symm) ?_ (gK _);rw[Lx];intro i j Z X Y;rw[JV]at Z X;rw[K8,K8];have:=h.2 i j (L5 Y) (by omega)
 rw[J1 (l:=q),J1 (l:=q),JX Z,JX X]at this;exact this
theorem _root_.S4.Folded.perm{Z:List KA}(f:Folded kv L)(h:Z.Perm L):Folded kv Z:=
 ⟨(List.Perm.nodup_iff (h.map (fun p:KA=>p.1))).mpr f.nd,fun k=>by rw[(h.map (fun p:KA=>p.1)).mem_iff];exact f.mem k,fun p Y=>f.sub p (h.mem_iff.mp Y),by rw[h.length_eq];exact f.len⟩
section
variable {K:dt}{ι:List b'}{H:Hp}
theorem uc:∀{ds:List D} {vs:List V} {nss:List (List Int)},RelDs K ι H ds vs->rowsOf ds=ar nss->vs.length=nss.length/\∀i,i<vs.length->∃a,vs[i]? =ar (.ref a)/\H a=ar (.tup ((nss.getD i []).map V.int))
 |[],vs,nss,h,e=>by
  cases e;rw[h.nil_inv];exact⟨rfl,fun i Z=>absurd Z (Nat.not_lt_zero _)⟩
 | .tup ds::r,vs,nss,h,e=>by
  obtain⟨v,ws,rfl,T,U⟩:=h.cons_inv;unfold rowsOf at e;cases q:intsOf ds with
  |none=>rw[q]at e;cases e
  | some ns=>
   rw[q]at e;cases q2:rowsOf r with
   |none=>rw[q2]at e;cases e
   | some nss'=>
    rw[q2]at e;cases e;obtain⟨X,S⟩:=uc U q2;obtain⟨a,us,rfl,g1,g2⟩:=T.tup_inv;refine⟨by simp[X],fun i Z=>?_⟩
    cases i with
    |zero=>
     refine⟨a,rfl,?_⟩;rw[fh g2 q]at g1;simpa using g1
    |succ i=>
     obtain⟨Y,e1,e2⟩:=S i (by simpa using Z)
     exact⟨Y,by simpa using e1,by simpa using e2⟩
 | .non::_,_,_,_,e=>by cases e
 | .bl _::_,_,_,_,e=>by cases e
 | .int _::_,_,_,_,e=>by cases e
 | .str _::_,_,_,_,e=>by cases e
 | .lst _::_,_,_,_,e=>by cases e
 | .ro _::_,_,_,_,e=>by cases e
 | .fz _::_,_,_,_,e=>by cases e
 | .emp::_,_,_,_,e=>by cases e
theorem rk:∀ns:List Int,RelDs K ι H (ns.map D.int) (ns.map V.int)
 |[]=>.nil
 |n::r=>.cons (.int n) (rk r)
theorem ud{vs:List V}{Z:List (List Int)}(h:∀i,i<vs.length->∃a,vs[i]? =ar (.ref a)/\H a=ar (.tup ((Z.getD i []).map V.int))):
  ∀q:List Nat,(∀i∈q,i<vs.length)->RelDs K ι H ((q.map fun i=>Z.getD i []).map tupI) (q.map fun i=>vs.getD i .non)
 |[],_=>.nil
 |i::q,hq=>by
  obtain⟨a,e1,e2⟩:=h i (hq i Kj);refine .cons ?_ (ud h q fun j Y=>hq j (J7 _ Y));show RelD K ι H (tupI (Z.getD i [])) (vs.getD i .non);have X:vs.getD i .non= .ref a:=by rw[J1,e1];rfl
  rw[X];exact .tup e2 (rk _)
end
section
variable {X:Cx}{E:XD}{e:Expr}{m:TM}{pos:Pos}
theorem qz:eE X (.builtin "sorted") (fun xs H Q=>∃(p:b') (vs:List V) (Z:List (List Int)),xs=[.ref p]/\jH X.K H p vs/\TRow H vs Z/\vs.length<64/\
  ∀q,jS Z q->∀l,H l=none->Q (.ref l) (upd H l (.lst (q.map fun i=>vs.getD i .non)))):=by
 intro pins s σ H xs us Q I r h;obtain⟨p,vs,Z,rfl,L,T,W,q⟩:=h;obtain⟨u,rfl,J⟩:=vals1 r;cases (show u=gj p from J);obtain⟨its,U,N,G⟩:=I.list L;have O:=U.length;refine og I (fun us=>us=its) (fun R E' S=>?_) fun us P=>⟨vs,Z,by rw[P];exact U,T,W,q⟩
 refine collect_list N.isList (S its _ _ rfl fun b o e=>?_) (by rw[K9];omega)
 have Y:b<s.heap.objs.size:=J0 e;rw[LG _ _ _ _ (Kf Y)];exact JW _ e
def two(nss:List (List Int)):Bool:=nss.all fun ns=>ns.length !=0
def pF(nss:List (List Int)):M D:=if nss.length<64/\two nss=b_ then bD ((cI nss).map tupI)else M.fail
def lN(xs:List D):M D:=match intsOf xs with
 |some ns=>if ns.length<64 then bD ((sortI ns).map D.int)else M.fail
 |none=>match rowsOf xs with
  |some nss=>pF nss
  |none=>M.fail
def bJ:List D->M D
 |[.lst k]=>do
  let xs<-getL k
  lN xs
 |[.fz xs]=>lN xs
 |_=>M.fail
theorem C2{H:Hp}{vs:List V}{Z:List (List Int)}(h:vs.length=Z.length/\∀i,i<vs.length->∃a,vs[i]? =ar (.ref a)/\H a=ar (.tup ((Z.getD i []).map V.int)))(W:two Z=b_):TRow H vs Z:=
 ⟨h.1,h.2,fun i U=>by
  have Y:i<Z.length:=by rw[<-h.1];exact U
  have:=Ki.mp W Z[i] (Ln Y);rw[J1,JX Y];exact Nat.pos_of_ne_zero fun z=>by rw[show(ar Z[i]).getD []=Z[i]from rfl]at z;rw[z]at this;cases this⟩
theorem sD:jK X.K E bJ (fun xs H Q=>(∃(p:b') (ns:List Int),xs=[.ref p]/\jH X.K H p (ns.map V.int)/\ns.length<64/\∀l,H l=none->Q (.ref l) (upd H l (.lst ((sortI ns).map V.int))))\/
  ∃(p:b') (vs:List V) (nss:List (List Int)),xs=[.ref p]/\jH X.K H p vs/\TRow H vs nss/\vs.length<64/\∀q,jS nss q->∀l,H l=none->Q (.ref l) (upd H l (.lst (q.map fun i=>vs.getD i .non)))):=by
 intro U S H ds vs Q rep r c;have fin:∀{es:List D} {us:List V} {p:b'},RelDs X.K U H es us->Rd H p (.lst us)->cont X.K E (lN es) U S H (lC X.K Q)->vs=[.ref p]->
   (∃(p:b') (ns:List Int),vs=[.ref p]/\jH X.K H p (ns.map V.int)/\ns.length<64/\∀l,H l=none->Q (.ref l) (upd H l (.lst ((sortI ns).map V.int))))\/
  ∃(p:b') (ws:List V) (nss:List (List Int)),vs=[.ref p]/\jH X.K H p ws/\TRow H ws nss/\ws.length<64/\∀q,jS nss q->∀l,H l=none->Q (.ref l) (upd H l (.lst (q.map fun i=>ws.getD i .non))):=by
  intro es us p W R Z T;unfold lN at Z;cases q:intsOf es with
  | some ns=>
   rw[q]at Z;have Y:cont X.K E (if ns.length<64 then bD ((sortI ns).map D.int)else M.fail) U S H (lC X.K Q):=Z;by_cases h:ns.length<64
   ·rw[if_pos h]at Y;exact .inl ⟨p,ns,T,.inl (by rw[<-fh W q];exact R),h,(bE Y rep (pD _)).2⟩
   ·rw[if_neg h]at Y;exact(ao Y).elim
  | none=>
   rw[q]at Z;cases q2:rowsOf es with
   |none=>rw[q2]at Z;exact(ao Z).elim
   | some nss=>
    rw[q2]at Z;have Y:cont X.K E (if nss.length<64/\two nss=b_ then bD ((cI nss).map tupI)else M.fail) U S H (lC X.K Q):=Z;by_cases h:nss.length<64/\two nss=b_
    ·rw[if_pos h]at Y;obtain⟨g1,g2⟩:=uc W q2;refine .inr ⟨p,us,nss,T,.inl R,C2 ⟨g1,g2⟩ h.2,by omega,fun L I l C=>?_⟩
     have J:∀i∈L,i<us.length:=fun i F=>by rw[g1];exact Ka.mp (I.1.mem_iff.mp F)
     have G:RelDs X.K U H ((cI nss).map tupI) (L.map fun i=>us.getD i .non):=by
      rw[<-vY I];exact ud g2 L J
     exact(bE Y rep G).2 l C
    ·rw[if_neg h]at Y;exact(ao Y).elim
 unfold bJ at c;split at c
 ·next k=>
  obtain⟨v,ws,rfl,P,N⟩:=r.cons_inv;cases N.nil_inv;obtain⟨p,rfl,O⟩:=P.lst_inv;obtain⟨es,us,_,R,W,Z⟩:=bp c rep O;exact fin W (.inl R) Z rfl
 ·next es=>
  obtain⟨v,ws,rfl,P,N⟩:=r.cons_inv;cases N.nil_inv;obtain⟨p,o,us,rfl,O,W⟩:=P.fz_inv;exact fin W (.inr ⟨o,O⟩) c rfl
 ·exact(ao c).elim
theorem fv(Y:X.mg "sorted"=none)(W:SE X E e m)(Z:Gl X "sorted":=by rfl)(hs:eb [e] X.env=[(dV,h_ e X.env)]:=by rfl):SE X E (.Call (.Name "sorted" p) [e] [] pos) (fun ρ=>do let ds<-(do let x<-m ρ;let xs<-aC [];aC (x::xs));bJ ds):=
 g0 (eE.or sy qz) sD Z Y (by decide+kernel) (af W aq hs) (by decide) (by decide) hs rfl
end
end S3
namespace S4
open PySem PySem.Spec PyProof.Rows L2 S3
section
variable {prog:ed}{w:ee}{A:hF}{E:a_->c_->Prop}{s:c_}
theorem jh{Q:a_->c_->Prop}(Z:s.heap.IsTupleIter it t i)(T:s.heap.IsTuple t items)(U:items[i]? =ar x)
  (S:∀h',h'.IsTupleIter it t (i+1)->z4 it s.heap h'->Q x {s with heap:=h'}):er (ff prog w) A (hO (.ref it)) Q E s:=by
 obtain⟨o,Y,R,hd⟩:=id Z;obtain⟨ol,X,_,nl,W⟩:=T;unfold hO;refine JU (wpAny_callSpecial?_slot (name:=hY "__next__") Z.typeIs Lk
  (Lh Lk Z.typeIs MD ?_ (My _)))
 show er _ _ (N_ (.ref it) 0>>=_) _ _ s;refine JU (KJ Y hd (x:=.ref t) rfl ?_);show er _ _ (if (gj t==j_)=b_ then _ else _) _ _ s;rw[if_neg (show ¬ ((gj t==j_)=b_)from Lg)];show er _ _ (N_ (.ref it) 1>>=_) _ _ s;refine JU (KJ Y hd (x:=.int i 0) rfl ?_);show er _ _ (seqItems? (.ref t)>>=_) _ _ s;refine JU (Ly X W ?_);simp only[F0,U];refine JU (MQ Y hd (by simp) (JZ ⟨x,rfl,JZ (S _ ?_ (Heap.SameBut.update ..))⟩))
 exact⟨_,Lq _ Y (Mp (LO hd _)),(Obj.cls_mapFields ..).trans R,by
  rw[LO hd];simp[xy]⟩
theorem kg(U:A.handled=none)(Z:s.heap.IsTupleIter it t i)(S:s.heap.IsTuple t items)(T:items[i]? =none)
  (R:∀h' e,Heap.ExtBut it s.heap h'->(∃o,h'.get? e=ar o/\o.cls= .type "StopIteration")->E (.ref e) {s with heap:=h'}):er (ff prog w) A (hO (.ref it)) Q E s:=by
 obtain⟨o,X,P,hd⟩:=id Z;obtain⟨ol,Y,_,nl,W⟩:=S;unfold hO;refine JU (wpAny_callSpecial?_slot (name:=hY "__next__") Z.typeIs Lk
  (Lh Lk Z.typeIs MD ?_ (My _)))
 show er _ _ (N_ (.ref it) 0>>=_) _ _ s;refine JU (KJ X hd (x:=.ref t) rfl ?_);show er _ _ (if (gj t==j_)=b_ then _ else _) _ _ s;rw[if_neg (show ¬ ((gj t==j_)=b_)from Lg)];show er _ _ (N_ (.ref it) 1>>=_) _ _ s;refine JU (KJ X hd (x:=.int i 0) rfl ?_);show er _ _ (seqItems? (.ref t)>>=_) _ _ s;refine JU (Ly Y W ?_);simp only[F0,T];refine JU (Mz (JU (MQ X hd (by simp) ?_)))
 show er _ _ (newExc (.type "StopIteration") []>>=_) _ _ _;refine JU ?_;simp only[newExc,newTuple];refine JU (K1 ?_ (by size_fits))
 refine JU (m:=firstArgMember _ _) (wpAny_of_eq (a:=j_) (by first|rfl|(simp only[firstArgMember];rfl)) ?_)
 refine K1 ?_ (by size_fits)
 simp only[raiseNew];refine JU (wpAny_handled ?_);first|rw[show A.in1.handled=none from U]|rw[U]
 refine JU (JZ (wpAny_throw ?_));exact R _ _ (((Heap.SameBut.update ..).extBut.push _).push _) ⟨_,J9 _ rfl,rfl⟩
theorem yP{z TI TO J N n v:b'}{k:Nat}{xs ys:Array a_}{x y a b:a_}{Q:Option a_->c_->Prop}(D:Om z TI TO J N n v)
  (B:K_ s.heap z TI TO .none) (f:p4 s.heap TI (.ref J) (.ref N)) (a3:p4 s.heap TO a b)
  (h1:s.heap.IsTupleIter J n k) (h2:s.heap.IsTupleIter N v k) (a0:s.heap.IsTuple n xs) (i:s.heap.IsTuple v ys) (hx:xs[k]? =ar x) (hy:ys[k]? =ar y)
  (hQ:∀h',K_ h' z TI TO (xy s.heap.objs.size)->p4 h' TO x y->h'.IsTupleIter J n (k+1)->h'.IsTupleIter N v (k+1)->p4 h' s.heap.objs.size x y->h'.objs.size=s.heap.objs.size+1->
   (∀c o,c≠z->c≠TO->c≠J->c≠N->s.heap.get? c=ar o->h'.get? c=ar o)->Q (ar (.ref s.heap.objs.size)) {s with heap:=h'}):er (ff prog w) A (NI (.ref z)) Q E s:=by
 have hT:s.TypeIs (.ref z) "zip":=⟨_,B,rfl⟩;unfold NI;refine JU (NH (wpAny_callSpecial?_slot (name:=hY "__next__") hT ME (Lh ME hT F.entry_zip_next ?_ (F.args_zip_next_1 _))));show er _ _ (N_ (.ref z) 2>>=_) _ _ _;refine JU (KJ B rfl (x:=.bool dV) rfl ?_);show er _ _ (N_ (.ref z) 3>>=_) _ _ _;refine JU (KJ B rfl (x:=.ref TI) rfl ?_);refine JU (Ly f rfl ?_);show er _ _ (kT (.ref z)>>=_) _ _ _;refine JU ?_;unfold kT;refine JU (KJ B rfl (x:=.none) rfl (JZ ?_));simp only[if_true];refine JU (Mz ?_);refine JU (KJ B rfl (x:=.ref TO) rfl ?_);refine JU (Lu B (by simp) fun g1 G Z=>?_)
 replace G:K_ g1 z TI TO .ellipsis:=G;refine JU ?_;simp only[List.zipIdx_cons,List.zipIdx_nil,MX,List.forIn_nil];refine JU (JU (M6 ?_));show er _ _ (hO (.ref J)>>=_) _ _ _;refine JU (jh (s:={s with heap:=g1}) (h1.at fun o e=>Z.extBut _ _ D.i1z e) (a0.extBut Z.extBut D.l1z) hx fun g2 h W=>JZ ?_);have K:p4 g2 TO a b:=W.extBut _ _ D.TOi1 (Z.extBut _ _ D.TOz a3);refine JU (Ly K rfl ?_);refine JU (Mw K fun g3 S U=>?_);replace S:p4 g3 TO x b:=S;refine JU (Oa (JZ ?_));refine JU (JU (M6 ?_));show er _ _ (hO (.ref N)>>=_) _ _ _;refine JU (jh (s:={s with heap:=g3}) (((h2.at fun o e=>Z.extBut _ _ D.i2z e).at fun o e=>W.extBut _ _ D.i12.symm e).at fun o e=>U.extBut _ _ D.TOi2.symm e)
  (((i.extBut Z.extBut D.l2z).extBut W.extBut D.l2i1).extBut U.extBut D.l2TO) hy fun g4 a4 R=>JZ ?_)
 have L:p4 g4 TO x b:=R.extBut _ _ D.TOi2 S;refine JU (Ly L rfl ?_);refine JU (Mw L fun Y X T=>?_);replace X:p4 Y TO x y:=X;refine JU (Oa (JZ (JZ ?_)));refine JU (Ly X rfl ?_);refine JU (wpAny_newTuple ?_);have p:Y.objs.size=s.heap.objs.size:=by rw[T.1,R.1,U.1,W.1,Z.1]
 have t:K_ Y z TI TO .ellipsis:=T.extBut _ _ D.TOz.symm (R.extBut _ _ D.i2z.symm (U.extBut _ _ D.TOz.symm (W.extBut _ _ D.i1z.symm G)));have a5:∀c o,c≠z->c≠TO->c≠J->c≠N->s.heap.get? c=ar o->Y.get? c=ar o:=fun c o c1 m c3 j e=>
  T.extBut _ _ m (R.extBut _ _ j (U.extBut _ _ m (W.extBut _ _ c3 (Z.extBut _ _ c1 e))))
 have d:Y.IsTupleIter J n (k+1):=((h.at fun o e=>U.extBut _ _ D.TOi1.symm e).at fun o e=>R.extBut _ _ D.i12 e).at fun o e=>T.extBut _ _ D.TOi1.symm e;have l:Y.IsTupleIter N v (k+1):=a4.at fun o e=>T.extBut _ _ D.TOi2.symm e;have O:z<Y.objs.size:=J0 t;show er _ _ (Builtin.SmallTypes.ownedTupleHandOut (.ref z) (.ref Y.objs.size)>>=_) _ _ _;refine JU ?_;unfold Builtin.SmallTypes.ownedTupleHandOut;have g:K_ (Y.push {cls:=.type "tuple",data:=.seq #[x,y]}) z TI TO .ellipsis:=JW _ t;refine JU (Lu g (by simp) fun g7 H C=>?_)
 replace H:K_ g7 z TI TO (xy Y.objs.size):=H;refine Lu H (by simp) fun q P I=>?_
 replace P:K_ q z TI TO (xy Y.objs.size):=P;have up:∀c o,c≠z->Y.get? c=ar o->q.get? c=ar o:=fun c o c1 e=>I.extBut _ _ c1 (C.extBut _ _ c1 (JW _ e));have u:p4 q Y.objs.size x y:=I.extBut _ _ (LQ O) (C.extBut _ _ (LQ O) (J9 _ rfl));have r:q.objs.size=Y.objs.size+1:=by rw[I.1,C.1,K3]
 rw[p]at P u r;refine JZ ⟨_,rfl,?_⟩;refine JZ ?_;show Q (ar (.ref Y.objs.size)) _;rw[p];exact hQ q P (up _ _ D.TOz X) (d.at fun o e=>up _ o D.i1z e) (l.at fun o e=>up _ o D.i2z e) u r fun c o c1 m c3 j e=>up c o c1 (a5 c o c1 m c3 j e)
theorem AL{z TI TO K L r t:b'}{k:Nat}{xs ys:Array a_}{a b:a_}{Q:Option a_->c_->Prop}(j:A.handled=none)(D:Om z TI TO K L r t)
  (N:K_ s.heap z TI TO .none) (m:p4 s.heap TI (.ref K) (.ref L)) (u:p4 s.heap TO a b)
  (l:s.heap.IsTupleIter K r k) (d:s.heap.IsTupleIter L t k) (I:s.heap.IsTuple r xs) (n:s.heap.IsTuple t ys) (B:xs[k]? =none\/ys[k]? =none)
  (q:∀h',(∀c o,c≠z->c≠TO->c≠K->c≠L->s.heap.get? c=ar o->h'.get? c=ar o)->Q none {s with heap:=h'}):er (ff prog w) A (NI (.ref z)) Q E s:=by
 have i:s.TypeIs (.ref z) "zip":=⟨_,N,rfl⟩;unfold NI;refine JU (NH (wpAny_callSpecial?_slot (name:=hY "__next__") i ME (Lh ME i F.entry_zip_next ?_ (F.args_zip_next_1 _))));have stop:∀(g:f_) (e:b'),(∃o,g.get? e=ar o/\o.cls= .type "StopIteration")->(∀c o,c≠z->c≠TO->c≠K->c≠L->s.heap.get? c=ar o->g.get? c=ar o)->∀R:a_->c_->Prop,
   (∀v s',er (ff prog w) A (do if<-On v (.type "StopIteration")then aC none else throw v) Q E s'->R v s')->R (.ref e) {s with heap:=g}:=fun g e ⟨o,ho,hc⟩ hk R hR=>hR _ _ (by
  refine JU (Mr (T:="StopIteration") (b:=b_) ⟨o,ho,hc⟩ MR ?_);exact JZ (q _ hk))
 show er _ _ (N_ (.ref z) 2>>=_) _ _ _;refine JU (KJ N rfl (x:=.bool dV) rfl ?_);show er _ _ (N_ (.ref z) 3>>=_) _ _ _;refine JU (KJ N rfl (x:=.ref TI) rfl ?_);refine JU (Ly m rfl ?_);show er _ _ (kT (.ref z)>>=_) _ _ _;refine JU ?_;unfold kT;refine JU (KJ N rfl (x:=.none) rfl (JZ ?_));simp only[if_true];refine JU (Mz ?_);refine JU (KJ N rfl (x:=.ref TO) rfl ?_);refine JU (Lu N (by simp) fun g1 S Z=>?_)
 replace S:K_ g1 z TI TO .ellipsis:=S;refine JU ?_;simp only[List.zipIdx_cons,List.zipIdx_nil,MX,List.forIn_nil];refine JU (JU (M6 ?_));show er _ _ (hO (.ref K)>>=_) _ _ _;cases hx:xs[k]? with
 |none=>
  refine JU (kg (s:={s with heap:=g1}) j (l.at fun o e=>Z.extBut _ _ D.i1z e) (I.extBut Z.extBut D.l1z) hx fun g2 e Y he=>?_);obtain⟨y,W,U⟩:=he;have J:K_ g2 z TI TO .ellipsis:=Y _ _ D.i1z.symm S;have O:e≠z:=fun x=>by subst x;rw[J]at W;cases W;simp at U
  refine Lu J (by simp) fun g3 _ X=>?_
  refine JU (Mr (T:="StopIteration") (b:=b_) ⟨y,X.extBut _ _ O W,U⟩ MR ?_);exact JZ (q _ fun c o c1 _ p _ x=>X.extBut _ _ c1 (Y _ _ p (Z.extBut _ _ c1 x)))
 | some x=>
  have hy:ys[k]? =none:=by rcases B with h|h;rw[hx]at h;cases h;exact h
  refine JU (jh (s:={s with heap:=g1}) (l.at fun o e=>Z.extBut _ _ D.i1z e) (I.extBut Z.extBut D.l1z) hx fun g2 a5 Y=>JZ ?_);have P:p4 g2 TO a b:=Y.extBut _ _ D.TOi1 (Z.extBut _ _ D.TOz u);refine JU (Ly P rfl ?_);refine JU (Mw P fun g3 f X=>?_);refine JU (Oa (JZ ?_));refine JU (JU (M6 ?_));show er _ _ (hO (.ref L)>>=_) _ _ _;refine JU (kg (s:={s with heap:=g3}) j (((d.at fun o e=>Z.extBut _ _ D.i2z e).at fun o e=>Y.extBut _ _ D.i12.symm e).at fun o e=>X.extBut _ _ D.TOi2.symm e)
   (((n.extBut Z.extBut D.l2z).extBut Y.extBut D.l2i1).extBut X.extBut D.l2TO) hy fun g4 e C he=>?_)
  obtain⟨y,W,U⟩:=he;have H:K_ g4 z TI TO .ellipsis:=C _ _ D.i2z.symm (X.extBut _ _ D.TOz.symm (Y.extBut _ _ D.i1z.symm S));have O:e≠z:=fun x=>by subst x;rw[H]at W;cases W;simp at U
  refine Lu H (by simp) fun g5 _ G=>?_
  refine JU (Mr (T:="StopIteration") (b:=b_) ⟨y,G.extBut _ _ O W,U⟩ MR ?_);exact JZ (q _ fun c o c1 c2 p c4 x=>G.extBut _ _ c1 (C _ _ c4 (X.extBut _ _ c2 (Y.extBut _ _ p (Z.extBut _ _ c1 x)))))
end
def Ck(l:b'):Obj:={cls:=.type "tuple_iterator",data:=.fields #[.ref l,.int 0 0]}
def E9(h:f_)(l1:b'):Heap:=h.push (Ck l1)
def Fb(h:f_)(l1 l2:b'):Heap:=(E9 h l1).push (Ck l2)
def Fc(h:f_)(l1 l2:b'):Heap:=(Fb h l1 l2).push {cls:=.type "tuple",data:=.seq #[.ref h.objs.size,.ref (E9 h l1).objs.size]}
def Gg(h:f_)(l1 l2:b'):Heap:=(Fc h l1 l2).push {cls:=.type "tuple",data:=.seq #[.none,.none]}
def Fd(h:f_)(l1 l2:b'):Heap:=(Gg h l1 l2).push {cls:=.type "zip",data:=.fields #[.none,.bool dV,.bool dV,.ref (Fb h l1 l2).objs.size,.ref (Fc h l1 l2).objs.size]}
theorem Fe(Z Y:b')(xs ys:Array a_):
  OQ (Builtin.«zip.__new__» ⟨[.type "zip",.ref Z,.ref Y],[]⟩) (fun _ R s=>s.heap.IsTuple Z xs/\s.heap.IsTuple Y ys/\R (.ok (.ret (.ref (Gg s.heap Z Y).objs.size))) {s with heap:=Fd s.heap Z Y}):=
 .of_wp fun prog w A R s h=>by
  obtain⟨P,g,d,S,os⟩:=s;obtain⟨U,W,h⟩:=h;have Q:=sub_zip;have T:NV (Ob ⟨P,g,d,S,os⟩) Z xs:=U;have X:NV (Ob ⟨P.push {cls:=.type "tuple_iterator",data:=.fields #[.ref Z,.int 0 0]},g,d,S,os⟩) Y ys:=let ⟨o,e,r⟩:=W;⟨o,JW _ e,r⟩
  wp_walk using Lp T,Lp X
  exact⟨_,rfl,h⟩
section
variable {prog:ed}{w:ee}{A:hF}{E:a_->c_->Prop}{s:c_}
theorem yQ{Q:a_->c_->Prop}(W:s.heap.IsTuple l1 xs)(X:s.heap.IsTuple l2 ys)
  (h:∀h',K_ h' (s.heap.objs.size+4) (s.heap.objs.size+2) (s.heap.objs.size+3) .none->p4 h' (s.heap.objs.size+2) (.ref s.heap.objs.size) (.ref (s.heap.objs.size+1))->
   p4 h' (s.heap.objs.size+3) .none .none->h'.IsTupleIter s.heap.objs.size l1 0->h'.IsTupleIter (s.heap.objs.size+1) l2 0->(∀c o,s.heap.get? c=ar o->h'.get? c=ar o)->Q (.ref (s.heap.objs.size+4)) {s with heap:=h'}):
  er (ff prog w) A (call (.type "zip") [.ref l1,.ref l2]) Q E s:=by
 refine callType_new F.called_zip (by decide) (F.typeCall_zip_2 _ _) (F.newCall_zip_2 _ _) (fun obj=>F.args_object_init_3 obj _ _) F.entry_zip_new (Fe l1 l2 xs ys) ⟨W,X,?_⟩
 have T:(E9 s.heap l1).objs.size=s.heap.objs.size+1:=K3 ..;have P:(Fb s.heap l1 l2).objs.size=s.heap.objs.size+2:=(K3 ..).trans (by rw[T])
 have S:(Fc s.heap l1 l2).objs.size=s.heap.objs.size+3:=(K3 ..).trans (by rw[P])
 have L:(Gg s.heap l1 l2).objs.size=s.heap.objs.size+4:=(K3 ..).trans (by rw[S])
 have Z:∀{c o},(Gg s.heap l1 l2).get? c=ar o->(Fd s.heap l1 l2).get? c=ar o:=fun e=>JW _ e;have Y:∀{c o},(Fc s.heap l1 l2).get? c=ar o->(Gg s.heap l1 l2).get? c=ar o:=fun e=>JW _ e;have U:∀{c o},(Fb s.heap l1 l2).get? c=ar o->(Fc s.heap l1 l2).get? c=ar o:=fun e=>JW _ e;have O:∀{c o},(E9 s.heap l1).get? c=ar o->(Fb s.heap l1 l2).get? c=ar o:=fun e=>JW _ e;have K:∀{c o},s.heap.get? c=ar o->(E9 s.heap l1).get? c=ar o:=fun e=>JW _ e;have R:(Fd s.heap l1 l2).get? (Gg s.heap l1 l2).objs.size=ar {cls:=.type "zip",data:=.fields #[.none,.bool dV,.bool dV,.ref (Fb s.heap l1 l2).objs.size,.ref (Fc s.heap l1 l2).objs.size]}:=J9 _ rfl;have N:(Fd s.heap l1 l2).get? (Fc s.heap l1 l2).objs.size=ar {cls:=.type "tuple",data:=.seq #[.none,.none]}:=Z (J9 _ rfl);have g3:(Fd s.heap l1 l2).get? (Fb s.heap l1 l2).objs.size=ar {cls:=.type "tuple",data:=.seq #[.ref s.heap.objs.size,.ref (E9 s.heap l1).objs.size]}:=Z (Y (J9 _ rfl));have g2:(Fd s.heap l1 l2).get? (E9 s.heap l1).objs.size=ar (Ck l2):=Z (Y (U (J9 _ rfl)));have g1:(Fd s.heap l1 l2).get? s.heap.objs.size=ar (Ck l1):=Z (Y (U (O (J9 _ rfl))));show _/\_;rw[P,S,L]at R;rw[T,P]at g3;rw[S]at N;rw[T]at g2;rw[L];exact⟨⟨_,R,rfl⟩,h _ R g3 N ⟨_,g1,rfl,rfl⟩ ⟨_,g2,rfl,rfl⟩ fun c o x=>Z (Y (U (O (K x))))⟩
end
def zS(va vb:List V):It:=⟨fun i _=>i<va.length/\i<vb.length,fun i H x H'=>∃p a b,H p=none/\va[i]? =ar a/\vb[i]? =ar b/\x= .ref p/\H'=upd H p (.tup [a,b]),fun i _=>va.length<=i\/vb.length<=i⟩
section
variable {X:Cx}{pins:List (b'×Obj)}{σ:L2.St}{H:Hp}{s:c_}
theorem sE{h':f_}{t':Nat}{ch:List b'}(I:L2.Inv X pins σ H s)(W:∀b∈ch,jC X pins H b)(k:∀b o,b∉ch->s.heap.get? b=ar o->h'.get? b=ar o):L2.Inv X pins σ H {s with heap:=h',toks:=t'}:=by
 have Y:∀b u,H b=ar u->b∉ch:=fun b u e z=>by rw[(W b z).1]at e;cases e
 refine I.step (g':=s.gens) (d':=s.drawn) (ch:=ch) (fun b U=>?_) (fun b o _ _ Z e _=>k b o Z e) (fun b o _ _ Z e _=>⟨o.slots,k b o Z e⟩) (fun _ _ _ _ n=>n)
  (fun b o Z e=>⟨o,k b o Z e⟩) (fun _ _ e=>e) (fun _ _ _ e=>e) (fun b P e=>⟨#[],by rw[e];simp⟩) (fun m hm=>?_) (fun b u e=>?_) I.bare
 ·obtain⟨f0,f1,f2,S,f4,R⟩:=W b U;exact⟨S,f1,f4,R⟩
 ·obtain⟨o,es,T,Q,r⟩:=hm;exact⟨o,es,T,k _ o (fun z=>(W _ z).2.1 rfl) Q,r⟩
 ·refine(I.hok b u e).stay (fun c v Z q=>k c v ?_ q) (fun _ q=>q) fun _ _ q=>q;rcases Z with z|z
  ·rw[z];exact Y b u e
  ·exact Y c _ z
theorem sF{h':f_}{t':Nat}{ch:List b'}{a:b'}{o:HO}(I:L2.Inv X pins σ H s)(S:∀b∈ch,jC X pins H b)(k:∀b o,b∉ch->s.heap.get? b=ar o->h'.get? b=ar o)(R:s.heap.objs.size<=a)(T:b7 X.prog X.w (upd H a o) h' a o):
  L2.Inv X pins σ (upd H a o) {s with heap:=h',toks:=t'}:=by
 have Y:H a=none:=I.hok.fresh R;have W:∀b u,H b=ar u->b∉ch:=fun b u e z=>by rw[(S b z).1]at e;cases e
 have ne:∀b o,s.heap.get? b=ar o->b≠a:=fun b o e=>Kf (Kd (J0 e) R);refine I.step (g':=s.gens) (d':=s.drawn) (ch:=ch) (fun b U=>?_) (fun b o _ _ Z e _=>k b o Z e) (fun b o _ _ Z e _=>⟨o.slots,k b o Z e⟩) (fun b o _ e n=>by rw[aM (ne b o e)];exact n)
  (fun b o Z e=>⟨o,k b o Z e⟩) (fun b xs e=>by rw[aM (aS e Y)];exact e) (fun b _ _ e=>by rw[aM (aS e Y)];exact e) (fun b L e=>⟨#[],by rw[aM (aS e Y),e];simp⟩) (fun m hm=>?_) (fun b u e=>?_) I.bare
 ·obtain⟨f0,f1,f2,P,f4,N⟩:=S b U;exact⟨P,f1,f4,N⟩
 ·obtain⟨o,es,Q,O,r⟩:=hm;exact⟨o,es,Q,k _ o (fun z=>(S _ z).2.1 rfl) O,r⟩
 ·by_cases U:b=a
  ·subst U;rw[a7]at e;cases e;exact T
  ·rw[aM U]at e;refine(I.hok b u e).stay (fun c v Z q=>k c v ?_ q) (fun c q=>by rw[aM (aS q Y)];exact q) fun c xs q=>by rw[aM (aS q Y)];exact q
   rcases Z with z|z
   ·rw[z];exact W b u e
   ·exact W c _ z
end
theorem AM{P:ed}{w:ee}{K:dt}{B:List Expr}{x1}{tp:Pos}{z TI TO L Q l1 j:b'}(D:Om z TI TO L Q l1 j){F J:List V}(H0:Hp->Prop)(A:∀H,H0 H↔(H l1=ar (.tup F)/\H j=ar (.tup J))):
  Turn P w K (.Tuple B x1 tp) ⟨fun i H=>(zS F J).go i H/\H0 H,(zS F J).yld,fun i H=>(zS F J).stop i H/\H0 H⟩ [z,TI,TO,L,Q] z
   (fun i h=>K_ h z TI TO .none/\p4 h TI (.ref L) (.ref Q)/\(∃a b,p4 h TO a b)/\h.IsTupleIter L l1 i/\h.IsTupleIter Q j i) where
 mem:=by simp
 obj:=fun i h st b Y=>by
  obtain⟨R,Z,⟨a,c,U⟩,⟨o1,e1,c1,d1⟩,⟨o2,e2,c2,d2⟩⟩:=st;simp only[f',e_,or_false]at Y;rcases Y with rfl|rfl|rfl|rfl|rfl
  ·exact⟨_,R,fun v z=>by cases z⟩
  ·exact⟨_,Z,fun v z=>by cases z⟩
  ·exact⟨_,U,fun v z=>by cases z⟩
  ·exact⟨_,e1,fun v z=>by rw[d1]at z;cases z⟩
  ·exact⟨_,e2,fun v z=>by rw[d2]at z;cases z⟩
 keep:=fun i h h' st k=>by
  obtain⟨R,Z,⟨a,c,U⟩,C,G⟩:=st;exact⟨k z (by simp) _ R,k TI (by simp) _ Z,⟨a,c,k TO (by simp) _ U⟩,C.at fun o e=>k L (by simp) o e,G.at fun o e=>k Q (by simp) o e⟩
 item:=by
  intro X hP hw hK hc i pins s σ H E I hf st hg;subst hP hw hK;obtain⟨R,Z,⟨a,c,U⟩,C,G⟩:=st;obtain⟨⟨ga,gb⟩,hH⟩:=hg;obtain⟨d,hB⟩:=(A H).mp hH;obtain⟨t,O,p1,_⟩:=I.tuple (.of d);obtain⟨u,N,p2,_⟩:=I.tuple (.of hB);obtain⟨l,c4,c6⟩:=O.get (JX ga);obtain⟨n,a9,m⟩:=N.get (JX gb);refine yP D R Z U C G p1 p2 (x:=l) (y:=n) (by simpa using c4) (by simpa using a9) fun h' a1 a2 a3 a4 a5 a6 p=>?_
  have f:H s.heap.objs.size=none:=I.hok.fresh (JY _);have lt:∀{c o},s.heap.get? c=ar o->s.heap.objs.size≠c:=fun e=>LQ (J0 e);refine⟨_,rfl,MS a1 fun S c5 T=>?_⟩;have q:p4 S TI (.ref L) (.ref Q):=T.extBut _ _ D.TIz (p _ _ D.TIz D.TITO D.TIi1 D.TIi2 Z);have kk:∀b o,b∉[z,TI,TO,L,Q]->s.heap.get? b=ar o->S.get? b=ar o:=fun b o Y e=>by
   simp only[f',e_,or_false,not_or]at Y;exact T.extBut _ _ Y.1 (p b o Y.1 Y.2.2.1 Y.2.2.2.1 Y.2.2.2.2 e)
  have r:p4 S s.heap.objs.size l n:=T.extBut _ _ (lt R) a5;have I2:L2.Inv X pins σ (upd H s.heap.objs.size (.tup [F[i],J[i]])) {s with heap:=S,toks:=s.toks}:=sF (o:=.tup [F[i],J[i]]) I hf kk (JY _) ⟨⟨by show 2<=sizeLine;decide,_,r,rfl⟩,[l,n],.cons c6 (.cons m .nil),_,r,rfl,_,rfl⟩
  refine⟨.ref s.heap.objs.size,_,I2,rfl,
   ⟨_,_,_,f,JX ga,JX gb,rfl,rfl⟩,⟨c5,q,⟨_,_,T.extBut _ _ D.TOz a2⟩,a3.at fun o e=>T.extBut _ _ D.i1z e,a4.at fun o e=>T.extBut _ _ D.i2z e⟩,fun b Y=>?_⟩
  obtain⟨ob,ho,_⟩:∃ob,s.heap.get? b=ar ob/\True:=by
   simp only[f',e_,or_false]at Y;rcases Y with rfl|rfl|rfl|rfl|rfl
   ·exact⟨_,R,trivial⟩
   ·exact⟨_,Z,trivial⟩
   ·exact⟨_,U,trivial⟩
   ·obtain⟨o,e,_⟩:=C;exact⟨_,e,trivial⟩
   ·obtain⟨o,e,_⟩:=G;exact⟨_,e,trivial⟩
  rw[aM (Kf (J0 ho))];exact(hf b Y).1
 done:=by
  intro X hP hw hK hc i pins s σ H E I hf st hg;subst hP hw hK;obtain⟨R,Z,⟨a,c,U⟩,C,G⟩:=st;obtain⟨gs,hH⟩:=hg;obtain⟨d,hB⟩:=(A H).mp hH;obtain⟨t,O,p1,_⟩:=I.tuple (.of d);obtain⟨u,N,p2,_⟩:=I.tuple (.of hB);have e8:=O.length;have e6:=N.length;refine AL (I.ok.hd hc) D R Z U C G p1 p2 (gs.imp (fun g=>by simp;omega) fun g=>by simp;omega) fun h' p=>⟨rfl,sE (t':=s.toks) I hf fun b o Y e=>?_⟩
  simp only[f',e_,or_false,not_or]at Y;exact p b o Y.1 Y.2.2.1 Y.2.2.2.1 Y.2.2.2.2 e
 self:=fun _ _ _ _ _ st h=>Ms st.1 h
theorem zip_get{xs ys:List D}{i:Nat}{d:D}(h:((xs.zip ys).map fun p=>D.tup [p.1,p.2])[i]? =ar d):∃x y,xs[i]? =ar x/\ys[i]? =ar y/\d= .tup [x,y]:=by
 rw[KG]at h;cases q:(xs.zip ys)[i]? with
 |none=>rw[q]at h;cases h
 |some p=>
  rw[q]at h;cases h;obtain⟨Y,Z⟩:=MT.mp q;exact⟨p.1,p.2,Y,Z,rfl⟩
theorem vZ{K:dt}{O:List b'}{H:Hp}{S:aE}{a b:b'}{Y X:List V}{xs ys:List D}(Z:Rep K O H S)(F:H a=ar (.tup Y))(C:H b=ar (.tup X))(u:RelDs K O H xs Y)(A:RelDs K O H ys X):
  iR K ⟨(xs.zip ys).map fun p=>.tup [p.1,p.2],.none⟩ ⟨fun i H=>(zS Y X).go i H/\(H a=ar (.tup Y)/\H b=ar (.tup X)),(zS Y X).yld,fun i H=>(zS Y X).stop i H/\(H a=ar (.tup Y)/\H b=ar (.tup X))⟩ O H:=by
 intro P N t e rep2 ok i;have T:N a=ar (.tup Y):=(e.oth a _ F (Z.notIn F (by intro _ z;cases z)) (by intro _ z;cases z) (by intro _ z;cases z)).1
 have R:N b=ar (.tup X):=(e.oth b _ C (Z.notIn C (by intro _ z;cases z)) (by intro _ z;cases z) (by intro _ z;cases z)).1
 have Q:=u.laterN Z e;have U:=A.laterN Z e;have s:=Q.length;have r:=U.length;refine⟨fun d hd=>?_,fun hlen=>?_⟩
 ·obtain⟨x,y,G,E,rfl⟩:=zip_get hd;have n:=(J2.mp G).1;have q:=(J2.mp E).1;refine⟨⟨⟨by omega,by omega⟩,T,R⟩,?_⟩
  rintro v H3 ⟨p,J,I,hp,g1,g2,rfl,rfl⟩;obtain⟨v1,e1,B⟩:=Q.get' G;obtain⟨v2,e2,w⟩:=U.get' E;obtain rfl:v1=J:=Kl (e1.symm.trans g1);obtain rfl:v2=I:=Kl (e2.symm.trans g2);have L:Ext P N P (upd N p (.tup [v1,v2])):=iD hp;exact⟨L,kb rep2 hp,.tup a7 (.cons (B.later rep2 L) (.cons (w.later rep2 L) .nil))⟩
 ·have o:min xs.length ys.length<=i:=by simpa using hlen
  refine⟨?_,T,R⟩;rcases Nat.le_total xs.length ys.length with z|z
  ·exact .inl (by omega)
  ·exact .inr (by omega)
end S4
namespace S3
open PySem PySem.Spec PyProof.Rows L2 S4
abbrev mV(i:Nat):TM:=fun ρ=>IQ ρ i
abbrev mK(d:D):TM:=fun _=>aC d
abbrev mY(m n:TM):TM:=fun ρ=>do let x<-m ρ;let c<-lD x;if c=b_ then n ρ else aC (.bl dV)
abbrev IX(m:TM):TM:=fun ρ=>do let x<-m ρ;let c<-lD x;aC (.bl (!c))
abbrev zT:=aD->M (List D)
abbrev av:zT:=fun _=>aC []
abbrev ae(m:TM)(ms:zT):zT:=fun ρ=>do let x<-m ρ;let xs<-ms ρ;aC (x::xs)
abbrev fD(ms:zT):TM:=fun ρ=>do let ds<-ms ρ;bA ds
abbrev eL(ms:zT):TM:=fun ρ=>do let ds<-ms ρ;bD ds
abbrev au(F:List D->M D)(ms:zT):TM:=fun ρ=>do let ds<-ms ρ;F ds
abbrev bY(F:List D->M D)(m:TM):TM:=au F (ae m av)
abbrev aZ(f:D->D->M D)(m n:TM):TM:=fun ρ=>do let x<-m ρ;let y<-n ρ;f x y
abbrev Ff(f g:D->D->M D)(m n l:TM):TM:=fun ρ=>do let x<-m ρ;let y<-n ρ;let z<-f x y;let k<-lD z;if k=b_ then do let w<-l ρ;g y w else aC (.bl dV)
abbrev IY:=aD->M (Option Int)
abbrev oN:IY:=fun _=>aC none
abbrev oS(m:TM):IY:=fun ρ=>do let x<-m ρ;let i<-Jv x;aC (ar i)
abbrev zU(m:TM)(lo hi:IY):TM:=fun ρ=>do let x<-m ρ;let i<-lo ρ;let j<-hi ρ;sv x i j
abbrev oh(m:TM)(T:String):TM:=fun ρ=>do let x<-m ρ;CZ (fun t=>AF t T) x
abbrev Cm(f:D->List D->M D)(m n:TM):TM:=fun ρ=>do let x<-m ρ;Gf x;let ds<-(do let y<-n ρ;let ys<-aC [];aC (y::ys));f x ds
abbrev aV(mi:aD->M Iter)(g:ky)(t:aD->M Bool)(m:TM)(js:List (Option Nat)):TM:=fun ρ=>do let it<-mi ρ;let ys<-fA it g t m (gh js ρ);bD ys
abbrev fE:=aD->M Bool
abbrev bV(m:TM):fE:=fun ρ=>do let x<-m ρ;lD x
abbrev ec(f:D->D->M D)(m n:TM):fE:=fun ρ=>do let z<-(do let x<-m ρ;let y<-n ρ;f x y);lD z
abbrev v5(f g:D->D->M D)(m n l:TM):fE:=fun ρ=>do let v<-(do let x<-m ρ;let y<-n ρ;let z<-f x y;let k<-lD z;if k=b_ then do let w<-l ρ;g y w else aC (.bl dV));lD v
abbrev cZ(t:fE):fE:=fun ρ=>do let c<-t ρ;aC (!c)
abbrev AN(t u:fE):fE:=fun ρ=>do let c<-t ρ;if c=b_ then u ρ else aC dV
abbrev qp(t u:fE):fE:=fun ρ=>do let c<-t ρ;if c=b_ then aC b_ else u ρ
abbrev d5:fE:=fun _=>aC b_
abbrev oj(m:TM):aD->M Iter:=fun ρ=>do let ds<-ae m av ρ;mT ds
abbrev xB(m n:TM):aD->M Iter:=fun ρ=>do let ds<-ae m (ae n av) ρ;kf ds
abbrev bK(m:TM):aD->M Iter:=fun ρ=>do let x<-m ρ;He x
abbrev gN(i:Nat):ky:=fun d ρ=>aC (ρ.set i (ar d))
abbrev HQ(m n:TM):ky:=fun d ρ=>do let x<-m ρ;let y<-n ρ;jM x y d;aC ρ
abbrev dX:cK:=fun ρ=>aC (.nx ρ)
abbrev aI(m n:cK):cK:=fun ρ=>do let o<-m ρ;E1 o n
abbrev kJ(me:TM):cK:=fun ρ=>do let _<-me ρ;aC (.nx ρ)
abbrev bG(me:TM):cK:=fun ρ=>do let d<-me ρ;aC (.ret d)
abbrev jz(t:fE)(m n:cK):cK:=fun ρ=>do let c<-t ρ;if c=b_ then m ρ else n ρ
abbrev dh(i:Nat)(me:TM):cK:=fun ρ=>do let d<-me ρ;aC (.nx (ρ.set i (ar d)))
abbrev pG(me:TM)(g:ky):cK:=fun ρ=>do let d<-me ρ;let ρ'<-g d ρ;aC (.nx ρ')
abbrev v7(i j:Nat)(ms:zT):cK:=fun ρ=>do let ds<-ms ρ;match ds with|[d1,d2]=>aC (.nx ((ρ.set i (ar d1)).set j (ar d2)))|_=>M.fail
abbrev sG(mi:aD->M Iter)(g:ky)(b:cK):cK:=fun ρ=>do let it<-mi ρ;gH it g b it.items ρ
abbrev Fg(k:Nat)(t:fE)(b:cK):cK:=fun ρ=>jN t b k ρ
structure DefIs(P:ed)(w:ee)(K:dt)(mg:Str->Option a_)(base:f_)(k:Nat)(x:Str)(ps:List Str)(F:List D->M D):Prop where
 ex:∃f fd,FnOk P w K mg base JL k f fd ps (JN K F)/\mg x=ar (.ref f)/\y2 K (.ref f)=b_/\Binds K fd ps []
section
variable {X:Cx}{E:XD}{e:Expr}{es:List Expr}{pos:Pos}{ms:zT}
theorem aP{c j p}:eb (.Constant c j p::es) env=(dV,h_ (.Constant c j p) env)::eb es env:=rfl
theorem lO{l k p}:eb (.Tuple l k p::es) env=(dV,h_ (.Tuple l k p) env)::eb es env:=rfl
theorem ag{x p}:eb (.Name x p::es) env=(dV,h_ (.Name x p) env)::eb es env:=rfl
theorem bT{f l k p}:eb (.Call f l k p::es) env=(dV,h_ (.Call f l k p) env)::eb es env:=rfl
theorem g9{a o b p}:eb (.BinOp a o b p::es) env=(dV,h_ (.BinOp a o b p) env)::eb es env:=rfl
theorem aX{a b p}:eb (.Subscript a b p::es) env=(dV,h_ (.Subscript a b p) env)::eb es env:=rfl
theorem v8{a b p}:eb (.UnaryOp a b p::es) env=(dV,h_ (.UnaryOp a b p) env)::eb es env:=rfl
theorem AO{j p}:SE X E (.UnaryOp .USub (.Constant (.int i) j p) pos) (mK (.int (-i))):=by
 refine PE.imp (GL EI zX) fun σ H Q h=>?_;obtain⟨Z,S,ρ,rep,re,c⟩:=h;exact⟨i,rfl,ah c .refl rep _ (.int _)⟩
theorem f7(Z:Gl X x)(Y:∃t,X.mg x=ar (.int i t))(W:(x==("__debug__":Str))=false:=by decide):SE X E (.Name x pos) (mK (.int i)):=
 let ⟨_,h⟩:=Y
 CQ Z h W
def Hg(fs:Scope)(N:List Str)(scope:Scope)(Nc:List Str)(js:List (Option Nat)):Bool:=
 (scope.kind== .function) && scope.names.all (fun y=>y.2 != .cell||scope.names.lookup y.1==ar .cell) && scope.names.all (fun y=>y.2 != .local||scope.names.lookup y.1==ar .local) &&
  scope.names.all (fun y=>y.2 != .free||(fs.names.lookup y.1==ar .cell||fs.names.lookup y.1==ar .free)) && (js.length==Nc.length) &&
  (Nc.zip js).all (fun p=>match p.2 with|none=>b_|some j=>N[j]? ==ar p.1 && scope.names.lookup p.1==ar .free)
theorem eG(fs:Scope)(N:List Str)(U:∀x,X.env.kindOf x=fs.names.lookup x)(Y:X.N=N)(h:Hg fs N scope Nc js=b_):CompScope X scope Nc js:=by
 unfold Hg at h;simp only[i',Ic,beq_iff_eq,bne_iff_ne,v_]at h;obtain⟨⟨⟨⟨⟨S,P⟩,T⟩,R⟩,O⟩,W⟩:=h;refine⟨S,fun y Z e=>(P y Z).resolve_left fun z=>z e,fun y Z e=>(T y Z).resolve_left fun z=>z e,fun y Z e=>?_,O,fun i x j e1 e2=>?_⟩
 ·rw[U];exact(R y Z).resolve_left fun z=>z e
 ·have Q:(Nc.zip js)[i]? =ar (x,ar j):=MT.mpr ⟨e1,e2⟩;have:=W _ (Ky Q);simp only[i',beq_iff_eq]at this;rw[Y];exact this
theorem fL(Z:Room k A):A.units+64<cLine:=by have:=Z.un;omega
theorem Gh(Z:Room k A):A.units<cLine:=by have:=Z.un;omega
end
section
variable {P:ed}{w:ee}{K:dt}{mg:Str->Option a_}{base:f_}
end
def runs{α:Type}(c:M α)(S:aE)(Q:α->aE->Prop):Prop:=∃a S',c S=ar (.ok a,S')/\Q a S'
section
variable {α β:Type}{c:M α}{f:α->M β}{S:aE}{Q Q':α->aE->Prop}{R:β->aE->Prop}
theorem sH(h:c S=ar (.ok a,S1)):runs c S Q↔Q a S1:=by
 constructor
 ·rintro⟨a',S',e,q⟩;rw[h]at e;cases e;exact q
 ·exact fun q=>⟨a,S1,h,q⟩
theorem C3(h:c S=none):runs c S Q↔False:=by
 constructor
 ·rintro⟨a',S',e,q⟩;rw[h]at e;cases e
 ·exact fun q=>q.elim
theorem yR(h:runs c S Q)(k:∀a S',Q a S'->Q' a S'):runs c S Q':=let ⟨a,S',e,q⟩:=h;⟨a,S',e,k a S' q⟩
end
section
variable {S:aE}{Q:D->aE->Prop}
theorem yS:runs (bD ds) S Q↔ds.length<=lim/\Q (.lst S.length) (S++[ds]):=by
 by_cases h:ds.length<=lim
 ·rw[sH (by unfold bD;rw[if_pos h])];simp[h]
 ·rw[C3 (by unfold bD;rw[if_neg h])];simp[h]
theorem ji{f:o_->o_->Bool}(Y:gI S 60 a=ar p)(Z:gI S 60 b=ar q):runs (Ge f a b) S Q↔Q (.bl (f p q)) S:=by
 rw[sH (by unfold Ge;rw[Y,Z])]
theorem oH(X:gI S 60 a=ar p)(Z:gI S 60 b=ar q)(Y:IU f p q=ar r):runs (G9 f a b) S Q↔Q (.bl r) S:=by
 rw[sH (by unfold G9;rw[X,Z];simp only[Y];rfl)]
end
end S3
namespace S7
open PySem PySem.Spec PySem.W PyProof.Rows
section
variable {prog:ed}{w:ee}{A:hF}{E:a_->c_->Prop}{s:c_}{K:OR}{x C:b'}{ox:Obj}{od:Option Obj}{name:Str}
structure ExcC(K:OR)(C:b'):Prop where
 ga:EA K (.ref C) "__getattribute__"=ar (ar (.builtin "BaseException.__getattribute__"))
 gt:EA K (.ref C) "__getattr__"=ar none
 be:ON K C (.type "BaseException")=ar b_
 ob:ON K C (.type "object")=ar b_
 cl:EA K (.ref C) "__class__"=ar (ar (.builtin "object.__class__"))
 gs:specialIn K (.builtin "object.__class__") "__get__"=ar (ar (.builtin "getset_descriptor.__get__"))
 tk:takesIn K (.builtin "object.__class__")=ar b_
 cd:(clsIn K C).isSome=b_
 mf:EA K (.ref C) "many"=ar none
 ms:EA K (.ref C) "most"=ar none
def AQ(K:OR)(C:b'):Bool:=(EA K (.ref C) "__getattribute__"==ar (ar (.builtin "BaseException.__getattribute__"))) && (EA K (.ref C) "__getattr__"==ar none) && (ON K C (.type "BaseException")==ar b_) &&
 (ON K C (.type "object")==ar b_) && (EA K (.ref C) "__class__"==ar (ar (.builtin "object.__class__"))) && (specialIn K (.builtin "object.__class__") "__get__"==ar (ar (.builtin "getset_descriptor.__get__"))) &&
 (takesIn K (.builtin "object.__class__")==ar b_) && (clsIn K C).isSome && (EA K (.ref C) "many"==ar none) && (EA K (.ref C) "most"==ar none)
theorem ExcC.of(h:AQ K C=b_):ExcC K C:=by
 unfold AQ at h;simp only[i',beq_iff_eq]at h;obtain⟨⟨⟨⟨⟨⟨⟨⟨⟨W,R⟩,X⟩,S⟩,P⟩,T⟩,Q⟩,Y⟩,U⟩,Z⟩:=h;exact⟨W,R,X,S,P,T,Q,Y,U,Z⟩
end
end S7
namespace S7
open PySem PySem.Spec PyProof.Rows L2 S3
def Cn(e T C:b')(od:Option b')(fl:a_)(h:f_):Prop:=
 ∃oe vs oT ts,h.get? e=ar oe/\oe.cls= .ref C/\oe.dict=od/\oe.data= .fields vs/\vs[1]? =ar (.ref T)/\T≠e/\h.get? T=ar oT/\oT.data= .fields ts/\ts[3]? =ar fl
structure Step(fs:List b')(e T:b')(h h':f_):Prop where
 keep:∀b o,h.get? b=ar o->b≠e->b≠T->b∉fs->h'.get? b=ar o
 slot:∀b o,h.get? b=ar o->b≠e->b≠T->∃sl,h'.get? b=ar {o with slots:=sl}
 size:h.objs.size<=h'.objs.size
section
variable {M:OI}{A:hF}{E:a_->c_->Prop}{s:c_}{base:f_}{env:Env}{outer:List Env}{L e T C:b'}{od:Option b'}{fl:a_}{Q:Unit->c_->Prop}
theorem pH(o:Obj)(f:Array a_->Array a_):(H_ f o).dict=o.dict:=by
 obtain⟨c,d,Z,Y⟩:=o;cases Z<;>rfl
theorem entry(H:A.frames=ar (env::outer))(F:s.heap.FunFrames base (env::outer))(B:env.frame=ar L)
  (G:s.heap.get? e=ar oe) (v:oe.cls= .ref C) (y:oe.dict=od) (I:oe.data= .fields vs) (P:1<vs.size)
  (h:∀h' T',Cn e T' C od (xy L) h'->s.heap.objs.size<=T'->Step (nF (env::outer)) e e s.heap h'->Q () {s with heap:=h'}):
  er M A (do let a<-frameOf env;let N<-entryPlaceOf L hadNext;let b<-EntryCells.newEntry head a .none (xy L) .none N;setField (.ref e) 1 b) Q E s:=by
 have S:e∉nF (env::outer):=fun hm=>by obtain⟨_,o,q,J⟩:=F.mem hm;rw[G]at q;cases q;exact J vs I
 refine JU (wpAny_frameOf_fun H F B fun Y Z=>JU (wpAny_entryPlaceOf fun N W=>?_));unfold EntryCells.newEntry newFields;refine JU (K1 (?_ :er _ _ _ _ _ _) (W.sizeOk5 _ _ _ _ _));have R:Y.get? e=ar oe:=(Z.2.1 e S).trans G;have X:=JW (h:=Y) {cls:=.type "traceback",dict:=none,data:=.fields ([head,.ref L,.none,xy L,.none]++(if N.isEmpty then lk 6 j_ else N)).toArray} R;have O:Y.objs.size≠e:=LQ (J0 R);have U:=LO I (·.setIfInBounds 1 (gj Y.objs.size));refine MQ X I P (h _ Y.objs.size ⟨_,_,_,_,Lq _ X (Mp U),?_,?_,U,by simp[P],O,(KC _ _ (lx O)).trans (J9 Y rfl),rfl,?_⟩ (Ls Z.1.symm) ⟨fun b o q K _ w=>?_,fun b o q K _=>?_,?_⟩)
 ·rw[Obj.cls_mapFields];exact v
 ·rw[pH];exact y
 ·first|(simp;done)|(rcases W with rfl|⟨_,_,_,_,_,_,_,rfl⟩<;>simp)
 ·rw[KC _ _ (lx K)];exact JW _ ((Z.2.1 b w).trans q)
 ·obtain⟨z,x⟩:=Z.2.2 b o q;exact⟨z,by rw[KC _ _ (lx K)];exact JW _ x⟩
 ·rw[LM,K3,Z.1];exact LR _
theorem v9(Z:A.frames=ar (env::outer))(S:s.heap.FunFrames base (env::outer))(Y:env.frame=ar L)
  (U:s.heap.get? e=ar oe) (P:oe.cls= .ref C) (R:oe.dict=od) (W:oe.data= .fields vs) (X:vs[1]? =ar .none)
  (h:∀h' T',Cn e T' C od (xy L) h'->s.heap.objs.size<=T'->Step (nF (env::outer)) e e s.heap h'->Q () {s with heap:=h'}):er M A (B_ (.ref e) env) Q E s:=by
 unfold B_;simp only[Y];refine JU (KJ U W X ?_);rw[if_neg (by decide)]
 exact entry Z S Y U P R W (Ll.mp X).1 h
theorem yT(O:A.frames=ar (env::outer))(w:s.heap.FunFrames base (env::outer))(J:env.frame=ar L)(F:Cn e T C od .none s.heap)
  (h:∀h' X,Cn e X C od (xy L) h'->s.heap.objs.size<=X->Step (nF (env::outer)) e T s.heap h'->Q () {s with heap:=h'}):er M A (B_ (.ref e) env) Q E s:=by
 obtain⟨u,vs,t,I,he,y,B,hd,K,S,R,Z,H⟩:=F;have U:3<I.size:=(Ll.mp H).1;unfold B_;simp only[J];refine JU (KJ he hd K ?_);rw[if_pos (show(gj T !=j_)=b_ from by simp)]
 refine JU (KJ R Z H ?_);rw[if_neg (show ¬ ((j_==xy L)=b_)from by simp[xy])]
 refine JU (MQ R Z U ?_);have other:∀b,b≠T->(s.heap.update T (H_ (·.setIfInBounds 3 j_))).get? b=s.heap.get? b:=fun b x=>KC _ _ (lx x);have P:(s.heap.update T (H_ (·.setIfInBounds 3 j_))).FunFrames base (env::outer):=w.of_keeps fun b o q W=>⟨o,(other b fun z=>by rw[z,R]at q;cases q;exact W I Z).trans q,rfl⟩
 refine entry (s:={s with heap:=s.heap.update T (H_ (·.setIfInBounds 3 j_))}) O P J ((other e (lx S)).trans he) y B hd (Ll.mp K).1 fun h' X G l st=>h h' X G ?_ ⟨fun b o q Y N v=>st.keep b o ((other b N).trans q) Y Y v,fun b o q Y N=>st.slot b o ((other b N).trans q) Y Y,?_⟩
 ·have:=l;rwa [LM]at this
 ·have:=st.size;rwa [LM]at this
theorem nN(F:Cn e T C od fl s.heap)(h:∀h',Cn e T C od .none h'->Step [] e T s.heap h'->Q () {s with heap:=h'}):er M A (setFlight (.ref e) none) Q E s:=by
 obtain⟨P,vs,I,O,he,J,K,hd,S,X,U,Z,N⟩:=F;have Y:3<O.size:=(Ll.mp N).1;refine wpAny_setFlight_none he hd S U Z Y (h _ ⟨P,vs,_,_,(KC _ _ X).trans he,J,K,hd,S,X,Lq _ U (Mp (LO Z _)),LO Z _,by simp[Y]⟩
  ⟨fun b o q R W _=>(KC _ _ (lx W)).trans q,fun b o q R W=>⟨o.slots,(KC _ _ (lx W)).trans q⟩,?_⟩)
 rw[LM];exact JY _
theorem ue(U:A.frames=ar (env::outer))(K:s.heap.FunFrames base (env::outer))(S:env.frame=ar L)
  (O:s.heap.get? e=ar oe) (z:oe.cls= .ref C) (I:oe.dict=od) (J:oe.data= .fields vs) (N:vs[1]? =ar .none)
  (h:∀h' X,Cn e X C od .none h'->s.heap.objs.size<=X->Step (nF (env::outer)) e e s.heap h'->Q () {s with heap:=h'}):er M A (NN env (.ref e)) Q E s:=by
 unfold NN;refine JU (v9 U K S O z I J N fun h' X F l st=>nN (s:={s with heap:=h'}) F fun W R Y=>h W X R l ⟨fun b o q Z H B=>?_,fun b o q Z H=>?_,J4 st.size Y.size⟩)
 ·exact Y.keep b o (st.keep b o q Z Z B) Z (Kf (Kd (J0 q) l)) (by simp)
 ·obtain⟨P,G⟩:=st.slot b o q Z Z;exact⟨P,Y.keep b _ G Z (Kf (Kd (J0 q) l)) (by simp)⟩
theorem wa(U:A.frames=ar (env::outer))(N:s.heap.FunFrames base (env::outer))(R:env.frame=ar L)(F:Cn e T C od .none s.heap)
  (h:∀h' X,Cn e X C od .none h'->s.heap.objs.size<=X->Step (nF (env::outer)) e T s.heap h'->Q () {s with heap:=h'}):er M A (NN env (.ref e)) Q E s:=by
 unfold NN;refine JU (yT U N R F fun h' X F l st=>nN (s:={s with heap:=h'}) F fun W P Z=>h W X P l ⟨fun b o q Y S J=>?_,fun b o q Y S=>?_,J4 st.size Z.size⟩)
 ·exact Z.keep b o (st.keep b o q Y S J) Y (Kf (Kd (J0 q) l)) (by simp)
 ·obtain⟨O,K⟩:=st.slot b o q Y S;exact⟨O,Z.keep b _ K Y (Kf (Kd (J0 q) l)) (by simp)⟩
end
def nO(P:ed)(w:ee):zP:=fun outer H s E x s'=>
 ∃(e T C:b') (od:Option b') (H':Hp),x= .ref e/\s'.os=s.os/\yn s'.gens/\Un (nF outer) [] H H' s.heap s'.heap/\iY P w H' s'.heap/\Cn e T C od .none s'.heap/\
  H' e=none/\H' T=none/\s.heap.get? e=none/\s.heap.get? T=none/\E (.ref C) od H'
theorem yU{X:Cx}:oY (nO X.prog X.w) X E0:=fun _ _ _ _ _ _ _ ⟨_,_,_,_,_,_,_,_,_,_,_,_,_,_,_,h⟩=>h.elim
theorem iE{h:f_}(q:h.get? b=ar o)(n:h.get? e=none):b≠e:=fun z=>by rw[z,n]at q;cases q
theorem Un.fly(u:Un fs [] H H' h h1)(R:Step fs e T h1 h2)(W:h.get? e=none)(X:h.get? T=none):Un fs [] H H' h h2 where
 keep:=fun b o q n hf Z=>R.keep b o (u.keep b o q n hf Z) (iE q W) (iE q X) hf
 slot:=fun b o q n hf Z=>by
  obtain⟨Q,U⟩:=u.slot b o q n hf Z;obtain⟨Y,S⟩:=R.slot b _ U (iE q W) (iE q X);exact⟨Y,S⟩
 free:=u.free
 there:=fun b o q Z=>by
  obtain⟨P,U⟩:=u.there b o q Z;obtain⟨Y,S⟩:=R.slot b _ U (iE q W) (iE q X);exact⟨_,S⟩
 tups:=u.tups
 frzs:=u.frzs
 tbls:=u.tbls
theorem iY.fly{H:Hp}(W:iY P w H h1)(S:Step fs e T h1 h2)(U:H e=none)(X:H T=none)(Y:∀b∈fs,H b=none):iY P w H h2:=fun a o q=>by
 have k:∀b u,H b≠none->h1.get? b=ar u->h2.get? b=ar u:=fun b u n q=>S.keep b u q (fun z=>n (by rw[z];exact U)) (fun z=>n (by rw[z];exact X)) fun z=>n (Y b z)
 refine(W a o q).stay (fun b u Z=>k b u ?_) (fun _ z=>z) fun _ _ z=>z;rcases Z with rfl|Z
 ·rw[q];simp
 ·rw[Z];simp
section
theorem AR(l:List Env)(x:b')(env:Env)(h:env.frame=ar x):nF (env::l)=x::nF l:=by
 unfold nF;rw[L4,h]
theorem b7.there(x:b7 P w H h a o):∃Z,h.get? a=ar Z:=by
 cases o with
 |lst xs=>obtain⟨_,_,_,_,e⟩:=x;exact⟨_,e⟩
 |tup xs=>obtain⟨_,_,_,Z,e,_⟩:=x;exact⟨_,e⟩
 |dK kvs=>obtain⟨_,_,_,_,o,_,_,e,_⟩:=x;exact⟨_,e⟩
 |dT kvs=>obtain⟨_,_,_,_,o,_,_,e,_⟩:=x;exact⟨_,e⟩
 |set S n=>obtain⟨o,_,_,_,e,_⟩:=x;exact⟨_,e⟩
 |ins C dx fs=>obtain⟨_,_,_,e,_⟩:=x;exact⟨_,e⟩
 |own y=>exact x
 |xd fs=>obtain⟨_,⟨_,_,_,e,_⟩,_⟩:=x;exact⟨_,e⟩
 |rng lo hi=>obtain⟨_,_,_,e⟩:=x;exact⟨_,e⟩
 |frz Z u=>obtain⟨e,_⟩:=x;exact⟨_,e⟩
 |tbl ps=>exact⟨_,(show h.get? a=ar _ from x)⟩
 |met f y=>exact⟨_,(show h.get? a=ar _ from x)⟩
 |ext φ=>exact x.2.1
theorem iY.gone{H:Hp}(x:iY P w H h)(e:h.get? a=none):H a=none:=by
 cases q:H a with
 |none=>rfl
 |some o=>
  obtain⟨Z,e2⟩:=b7.there (x a o q);rw[e]at e2;cases e2
theorem Un.gone(u:Un fs ex H H' h h')(Z:a∉ex)(e:h'.get? a=none):h.get? a=none:=by
 cases q:h.get? a with
 |none=>rfl
 |some o=>
  obtain⟨Y,e2⟩:=u.there a o q Z;rw[e]at e2;cases e2
end
section
variable {X:Cx}{pins:List (b'×Obj)}{σ:L2.St}{H H':Hp}{s:c_}{x:a_}
end
structure LamOk(P:ed)(w:ee)(K:dt)(mg:Str->Option a_)(base:f_)(k:Nat)(f:b')(sp:Hp->VK->XK->Prop):Prop where
 fn:∃o fd,base.get? f=ar o/\o.data= .func fd
 run:∀(A:hF) (outer:List Env) (s:c_) (H:Hp) (Q:VK) (E:XK),Room k A->aD P w K mg base A outer s H->sp H Q E->vr (ff P w) A (.call (.ref f) ⟨[],[]⟩) (CR (nO P w) outer P w H s Q E) s
section
variable {X:Cx}{k i jn jy:Nat}{f CW:b'}{sp:Hp->VK->XK->Prop}{x c n y:Str}{p cpos epos np p1 p2 p3 hpos tpos:Pos}
end
structure BaseL(K:dt)(mg:Str->Option a_)(base:f_):Prop where
 bm:∃bm ob,mg "__builtins__"=ar (.ref bm)/\bm≠wh/\base.get? bm=ar ob/\ob.cls= .type "module"/\ob.dict=ar wh/\ob.data= .plain
 cd:∀x∈cQ,∀c P,nC K x=ar (c,P)->NW base c P
def AS(K:dt):Prop:=∀x∈cQ,∀y∈cQ,∀c d P,nC K x=ar (c,P)->nC K y=ar (d,P)->x=y
section
variable {X:Cx}{pins:List (b'×Obj)}{σ:L2.St}{H:Hp}{s:c_}{x ql:Str}{c P:b'}{params:NA}{body:Expr}{scope:Scope}{pos:Pos}{clos:List (Str×b')}{Q:a_->c_->Prop}{E:a_->c_->Prop}{A:hF}
end
def IZ(K:dt)(ι:List b')(H:Hp)(x:D)(cls:a_)(od:Option b'):Prop:=
 ∃n ds C,x= .exc n ds/\sb K g_ n=ar (ar (.ref C))/\cls= .ref C/\
  ((od=none/\ds=[])\/∃dx fs,od=ar dx/\H dx=ar (.xd fs)/\fs.map (·.1)=([("many":Str),("most":Str)]:List Str)/\RelDs K ι H ds (fs.map (·.2)))
def wb(K:dt)(Ek:XK):XD:=fun x ι _ H=>∀cls od,IZ K ι H x cls od->Ek cls od H
def AU(K:dt)(F:List D->M D):Sp:=fun vs H Q Ek=>∃ ι S ds,Rep K ι H S/\RelDs K ι H ds vs/\cont K (wb K Ek) (F ds) ι S H (lC K Q)
theorem AV{K:dt}{E E':XD}{α:Type}{c:M α}{X:List b'}{S:aE}{H:Hp}{Q:α->List b'->aE->Hp->Prop}(h:cont K E c X S H Q)(k:∀x ι' Z H',E x ι' Z H'->E' x ι' Z H'):cont K E' c X S H Q:=by
 obtain⟨r,Z,e,q⟩:=h;refine⟨r,Z,e,fun Y T U rep1=>?_⟩;have:=q Y T U rep1;cases r with
 |ok a=>exact this
 |ex x=>exact k x _ _ _ this
def kK{α:Type}(c:M α):M α:=fun S=>match c S with
 |some (.ok a,S')=>ar (.ok a,S')
 |_=>none
theorem kh{K:dt}{E:XD}{α:Type}{c:M α}{Z:List b'}{S:aE}{H:Hp}{Q:α->List b'->aE->Hp->Prop}(h:cont K E (kK c) Z S H Q):cont K cw c Z S H Q:=by
 obtain⟨r,X,e,q⟩:=h;unfold kK at e;cases z:c S with
 |none=>rw[z]at e;cases e
 |some p=>
  obtain⟨Y,S1⟩:=p;rw[z]at e;cases Y with
  |ok a=>cases e;exact⟨_,_,z,q⟩
  |ex x=>cases e
section
variable {X:Cx}{E:XD}
theorem iF{m:TM}(h:SE X cw e m):SE X E e (fun ρ=>kK (m ρ)):=PE.imp h fun _ _ _ ⟨ι,S,ρ,rep,re,c⟩=>⟨ι,S,ρ,rep,re,kh c⟩
theorem C4{Z:p7}{m:cK}(h:SS X cw Z m):SS X E Z (fun ρ=>kK (m ρ)):=PS.imp h fun _ _ _ ⟨ι,S,ρ,rep,re,c⟩=>⟨ι,S,ρ,rep,re,kh c⟩
theorem uf{Z:List p7}{m:cK}(h:vo X cw Z m):vo X E Z (fun ρ=>kK (m ρ)):=qr.imp h fun _ _ _ ⟨ι,S,ρ,rep,re,c⟩=>⟨ι,S,ρ,rep,re,kh c⟩
theorem xC{Z:List p7}{m:cK}(h:vo X.nox cw Z m):vo X cw Z m:=qr.nox h
end
structure Leaves(X:Cx)(Ek:XK):Prop where
 st:X.stack=X.env::X.outer
 fm:X.env.frame=ar X.env.locals
 ex:X.ex=[]
 xe:∀e s',er (ff X.prog X.w) X.A (NN X.env e) (fun _ s''=>nO X.prog X.w X.outer X.H₀ X.s₀ Ek e s'') (fun e' s''=>nO X.prog X.w X.outer X.H₀ X.s₀ Ek e' s'') s'->X.xe e s'
 ow:Nz (ff X.prog X.w) X.A X.env X.xe
section
variable {X:Cx}{Ek:XK}
theorem Leaves.pass(L:Leaves X Ek):oY (nO X.prog X.w) X Ek:=by
 rintro pins σ H s x s' I ⟨e,T,C,od,H',rfl,os,bare,un,hok,F,ne,nT,le,lT,hE⟩;have W:L2.Inv X pins σ H' s':=I.call' (ch:=[]) os un hok bare (fun b z=>absurd z (by simp))
 refine L.xe _ _ (wa (base:=X.base) (outer:=X.outer) (by rw[W.ok.frames,L.st]) (by rw[<-L.st];exact W.stack) L.fm F fun h' P Q l st=>?_)
 rw[<-L.st]at st;have Z:iY X.prog X.w H' h':=iY.fly hok st ne nT W.stkFree;have S:Un (nF X.stack) [] H H' s.heap h':=Un.fly un st le lT;have U:L2.Inv X pins σ H' {s' with heap:=h'}:=I.call' (s':={s' with heap:=h'}) (ch:=[]) os S Z bare (fun b z=>absurd z (by simp))
 have R:=U.base;have h0:=I.base;have Y:=W.base;rw[L.ex]at R h0 Y;exact⟨e,P,C,od,H',rfl,U.os,U.bare,R,U.hok,Q,ne,hok.fresh l,Un.gone h0 (by simp) le,Un.gone Y (by simp) (KP l),hE⟩
theorem Leaves.new{H:Hp}(L:Leaves X Ek)
  (I:L2.Inv X pins σ H s') (K:s'.heap.get? e=ar oe) (E:oe.cls= .ref C) (F:oe.dict=od) (B:oe.data= .fields vs) (G:vs[1]? =ar .none) (Q:H e=none) (hs:X.s₀.heap.get? e=none) (N:Ek (.ref C) od H):X.xe (.ref e) s':=by
 refine L.xe _ _ (ue (base:=X.base) (outer:=X.outer) (by rw[I.ok.frames,L.st]) (by rw[<-L.st];exact I.stack) L.fm K E F B G fun h' O J l st=>?_)
 have P:∀b∈nF (X.env::X.outer),H b=none:=by rw[<-L.st];exact I.stkFree
 have U:iY X.prog X.w H h':=iY.fly I.hok st Q Q P;have Z:=I.base;rw[L.ex]at Z;have T:∀b o,X.s₀.heap.get? b=ar o->b∉nF X.outer->b∉nF (X.env::X.outer):=fun b o q n z=>by
  rw[AR X.outer X.env.locals _ L.fm]at z;rcases Km.mp z with z|z
  ·exact absurd (J0 q) (by rw[z];exact Ol.mpr I.ok.above)
  ·exact n z
 have ne:∀b o,X.s₀.heap.get? b=ar o->b≠e:=fun b o q=>iE q hs;refine⟨e,O,C,od,H,rfl,I.os,I.bare,⟨fun b o q n hf Y=>?_,fun b o q n hf Y=>?_,Z.free,fun b o q Y=>?_,Z.tups,Z.frzs,Z.tbls⟩,U,J,Q,I.hok.fresh l,hs,Un.gone Z (by simp) (KP l),N⟩
 ·exact st.keep b o (Z.keep b o q n hf Y) (ne b o q) (ne b o q) (T b o q hf)
 ·obtain⟨A,S⟩:=Z.slot b o q n hf Y;obtain⟨W,R⟩:=st.slot b _ S (ne b o q) (ne b o q);exact⟨W,R⟩
 ·obtain⟨y,S⟩:=Z.there b o q Y;obtain⟨W,R⟩:=st.slot b _ S (ne b o q) (ne b o q);exact⟨_,R⟩
theorem aK{P:ed}{w:ee}{K:dt}{Z:Str->Option a_}{base:f_}{N:List Str}{qual:Str}{scope:Scope}{f:b'}{Y:a_}{A:hF}{outer:List Env}{s₀:c_}{H₀:Hp}:
  Leaves (mF (nO P w) P w K Z base N qual scope f Y A outer s₀ H₀ Ek) Ek:=⟨rfl,rfl,rfl,fun _ _ h=>h,PassesOwn.leaving⟩
end
structure DefX(P:ed)(w:ee)(K:dt)(mg:Str->Option a_)(base:f_)(k:Nat)(x:Str)(ps:List Str)(F:List D->M D):Prop where
 ex:∃f fd,FnOk P w K mg base (nO P w) k f fd ps (AU K F)/\mg x=ar (.ref f)/\y2 K (.ref f)=b_/\Binds K fd ps []
section
variable {P:ed}{w:ee}{K:dt}{mg:Str->Option a_}{base:f_}
theorem Fh{x qual:Str}{U:p7}{f:b'}{C:eM}{N X:List Str}{k:Nat}{m:cK}(F:Fun K x qual U f C)(z:FnScope N X (ai U))
  (R:∀(Z:a_) (A:hF) (outer:List Env) (s:c_) (H:Hp) (Y:XK),Room k (A.deeper (C_ qual (ai U) s.heap.objs.size f Z))->NO K Z qual=b_->(∃I G O kV doc pm an ct,K.lookup f=ar ⟨I,G,.func (B' x qual (iB U) (dP U) (ai U) .none kV doc pm an Z ct),O⟩)->
   vo (mF (nO P w) P w K mg base N qual (ai U) f Z A outer s H Y) (wb K Y) (dP U) m):FnOk P w K mg base (nO P w) (k+1) f C X (AU K (nI N.length X.length m)):=by
 have key:∀{vs:List V} {H:Hp} {Q:VK} {Y:XK},AU K (nI N.length X.length m) vs H Q Y->vs.length=X.length/\∃T S ds,Rep K T H S/\RelDs K T H ds vs/\cont K (wb K Y) (do let o<-m (ds.map ar++lk (N.length - X.length) none);outD o) T S H (lC K Q):=by
  rintro vs H Q Y ⟨T,S,ds,rep,r,c⟩;unfold nI at c;by_cases J:ds.length=X.length
  ·rw[if_pos J]at c;exact⟨by rw[<-r.length];exact J,T,S,ds,rep,r,c⟩
  ·rw[if_neg J]at c;exact(ao c).elim
 obtain⟨I,G,kV,doc,pm,an,Z,ct,O,rfl,E,L⟩:=F.ex;refine DV E L z (fun vs H Q Y h=>(key h).1) fun A outer s H vs Q Y B h=>⟨_,R Z A outer s H Y B L ⟨I,G,O,kV,doc,pm,an,ct,E⟩,?_⟩;obtain⟨J,T,S,ds,rep,r,c⟩:=key h;refine⟨T,S,_,rep,?_,ax (ak c) fun o y S1 u e1 rep1 c1=>?_⟩
 ·have:=RelE.start r (N.length - X.length);unfold L2.start;rw[J];exact this
 ·cases o with
  |nx ρ=>exact fun v _=>ah c1 .refl rep1 _ .non
  |ret d=>exact ah c1 .refl rep1
  |bk ρ=>exact(ao c1).elim
  |ct ρ=>exact(ao c1).elim
end
section
variable {X:Cx}{Ek:XK}{e:Expr}{es:List Expr}{pos:Pos}{ms:aD->M (List D)}
theorem bj(d:DefX X.prog X.w X.K X.mg X.base k x ps F)(U:Room k X.A)(T:oY (nO X.prog X.w) X Ek)(J:SA X (wb X.K Ek) (e::es) ms)(N:Gl X x:=by rfl)
  (W:(x==("__debug__":Str))=false:=by decide) (O:eb (e::es) X.env=(dV,h_ e X.env)::eb es X.env:=by rfl) (Z:(pb pos (eb es X.env)).any (·.1)=false:=by rfl):
  SE X (wb X.K Ek) (.Call (.Name x p) (e::es) [] pos) (au F ms):=by
 obtain⟨f,fd,G,hm,L,R⟩:=d.ex;refine PE.imp (xg G U N hm L R (.nil) (E:=Ek) T J W O Z) fun σ H Q h=>?_;obtain⟨C,S,ρ,rep,re,c⟩:=h;refine⟨C,S,ρ,rep,re,ax (ak c) fun ds Y S1 I e1 rep1 c1 vs P=>?_⟩;show AU X.K F (vs++[]) I Q Ek;rw[KS];exact⟨Y,S1,ds,rep1,P,c1⟩
theorem aB(d:DefX X.prog X.w X.K X.mg X.base k x ps F)(U:Room k X.A)(L:SA X cw (e::es) ms)(O:Gl X x:=by rfl)
  (W:(x==("__debug__":Str))=false:=by decide) (P:eb (e::es) X.env=(dV,h_ e X.env)::eb es X.env:=by rfl) (Z:(pb pos (eb es X.env)).any (·.1)=false:=by rfl):
  SE X cw (.Call (.Name x p) (e::es) [] pos) (au F ms):=by
 obtain⟨f,fd,G,hm,N,T⟩:=d.ex;refine PE.imp (xg G U O hm N T (.nil) (E:=E0) yU L W P Z) fun σ H Q h=>?_;obtain⟨I,S,ρ,rep,re,c⟩:=h;refine⟨I,S,ρ,rep,re,ax (ak c) fun ds Y S1 J e1 rep1 c1 vs R=>?_⟩;show AU X.K F (vs++[]) J Q E0;rw[KS];exact⟨Y,S1,ds,rep1,R,AV c1 fun _ _ _ _ z=>z.elim⟩
end
def f9:List Str:=["WebError","NoWeb","NoPlace","NoPlaces","TooGreat"]
def C5(n y:Str):Bool:=n==y||y=="WebError"
abbrev Gi:List Value:=[.type "ValueError",.type "Exception",.type "BaseException",.type "object"]
def AW(K:dt)(n:Str):Bool:=match sb K g_ n with
 | some (ar (.ref C))=>AQ K C && (n=="TooGreat"||Oy K C Gi "ValueError.__new__") && (y3 K (.ref C) (.type "ValueError")==ar b_) && (y3 K (.type "NoneType") (.ref C)==ar dV) &&
  f9.all (fun y=>match sb K g_ y with
   |some (ar (.ref D))=>y3 K (.ref C) (.ref D)==ar (C5 n y) && W.exmOne K (.ref C) (.ref D)==ar (C5 n y)
   |_=>dV)
 |_=>dV
def pI(K:dt):Bool:=f9.all (AW K) && y3 K (.type "NoneType") (.type "ValueError")==ar dV
structure ErrAt(K:dt)(n:Str)(C:b'):Prop where
 ns:sb K g_ n=ar (ar (.ref C))
 ck:ExcC K C
 pl:n="TooGreat"\/Oy K C Gi "ValueError.__new__"=b_
 ve:y3 K (.ref C) (.type "ValueError")=ar b_
 nn:y3 K (.type "NoneType") (.ref C)=ar dV
 sub:∀y∈f9,∃D,sb K g_ y=ar (ar (.ref D))/\y3 K (.ref C) (.ref D)=ar (C5 n y)/\W.exmOne K (.ref C) (.ref D)=ar (C5 n y)
theorem wc{K:dt}(h:pI K=b_){n:Str}(U:n∈f9):∃C,ErrAt K n C:=by
 unfold pI at h;rw[Kn]at h;have Z:=Ki.mp h.1 n U;unfold AW at Z;split at Z
 ·next C e=>
  simp only[i',v_,beq_iff_eq,Ic]at Z;obtain⟨⟨⟨⟨a1,a2⟩,X⟩,Y⟩,T⟩:=Z;refine⟨C,e,.of a1,a2,X,Y,fun y S=>?_⟩;have:=T y S;split at this
  ·next D eD=>
   simp only[i',beq_iff_eq]at this;exact⟨D,eD,this.1,this.2⟩
  ·cases this
 ·cases Z
theorem C6{K:dt}(X:K.In h)(q:Oy K C Gi "ValueError.__new__"=b_):∃bm N nm qn bs hdct sn sub ab col dd k0 k1 k2 k3 k5 mN,
  h.get? C=ar (w_ nm qn C N bs bm hdct sn sub ab col dd k0 k1 k2 k3 k5 "ValueError.__new__")/\h.Ns N mN/\mN "__init__"=none/\Od h Gi bm:=by
 unfold Oy at q;split at q
 case h_2=>cases q
 case h_1 dd cd T ho=>
 split at q
 case h_2=>cases q
 case h_1 C' bm k0 k1 k2 k3 n k5 hm hs=>
 simp only[i',beq_iff_eq,Bool.not_eq_true']at q;obtain⟨⟨⟨⟨⟨R,en⟩,Z⟩,S⟩,Y⟩,U⟩:=q;subst R en;rcases cd with⟨nm,bs,mro,ns,qn,hd,sn,sub,ab,col,del⟩;dsimp only at hm Z Y U;subst hm Z;obtain rfl:T= #[k0,k1,k2,k3,ar (.builtin "ValueError.__new__"),k5]:=by rcases T with⟨l⟩;simp only at hs;rw[hs]
 exact⟨bm,ns,nm,qn,bs,hd,sn,sub,ab,col,dd,k0,k1,k2,k3,k5,_,X _ _ ho,.of_isNs (W.isNs_of_in X Y),W.nsMap_none_of_in X Y U,W.tail_of_in X S⟩
section
variable {X:Cx}{Ek:XK}{E:XD}
theorem pJ(L:Leaves X Ek)(r:X.calm=b_)(o:pI X.K=b_)(k:x∈f9)(J:x≠"TooGreat")(b:SA X (wb X.K Ek) (e::es) ms)(i:Gl X x:=by rfl)
  (G:(x==("__debug__":Str))=false:=by decide) (A:eb (e::es) X.env=(dV,h_ e X.env)::eb es X.env:=by rfl) (R:(pb cpos (eb es X.env)).any (·.1)=false:=by rfl):
  SS X (wb X.K Ek) (.Raise (ar (.Call (.Name x np) (e::es) [] cpos)) none pos) (fun ρ=>do let ds<-ms ρ;if ds.length<=lim then M.raise (.exc x [])else M.fail):=by
 intro pins s σ H T I h;obtain⟨u,S,ρ,rep,re,c⟩:=h;obtain⟨C,B⟩:=wc o k;have f:=B.pl.resolve_left J;have hm:X.mg x=ar (.ref C):=J6 I.mod.kin I.mod.glob B.ns;obtain⟨bm,N,nm,m,bs,hdct,sn,sub,ab,col,dd,k0,k1,k2,k3,k5,mN,d,p,O,w⟩:=C6 I.mod.kin f;refine wpAny_Raise_call_subU (k5:=k5) (k3:=k3) (k2:=k2) (k1:=k1) (k0:=k0) (nm:=nm) (q:=m) (C:=C) (N:=N) (bm:=bm) (bs:=bs) (hdct:=hdct) (sn:=sn) (sub:=sub) (ab:=ab) (col:=col) (dd:=dd) Lm (by decide) Lm (mN:=mN) (w.hasType PySem.F.excBase_ValueError.hasBase) (I.ok.hd r) (by rw[A];show(dV||(pb cpos (eb es X.env)).any (·.1))=dV;rw[R];rfl) O (oz I i hm ⟨rfl,?_⟩ G)
 have Y:=b cpos pins s σ H _ I ⟨u,S,ρ,rep,re,ax (ak c) fun ds Z S1 U e1 rep1 c1 vs Q=>(⟨Z,S1,ds,rep1,Q,c1⟩:∃Z S1 ds,Rep X.K Z U S1/\RelDs X.K Z U ds vs/\cont X.K (wb X.K Ek) (if ds.length<=lim then M.raise (.exc x [])else M.fail) Z S1 U _)⟩;rw[A]at Y⊢;refine Mv (Kq Y (fun us s2 P=>?_) fun _ _ z=>z);obtain⟨vs,U,W,n,Z,S1,ds,rep1,Q,c1⟩:=P;by_cases hl:ds.length<=lim
 ·rw[if_pos hl]at c1;refine⟨rfl,?_,W.bk _ _ d,p.keeps W.bk,w.keeps W.bk,fun h' ea hm=>?_⟩
  ·show us.length<=sizeLine;rw[<-n.length, <-Q.length];exact J4 hl gg
  ·obtain⟨t,g,h2,h3⟩:=hm.there;have v:L2.Inv X pins σ U {s2 with heap:=h'}:=W.kept (t':=s2.toks) hm.keeps;have y:=W.base;rw[L.ex]at y;obtain⟨a,S',l,j⟩:=c1;cases l;refine L.new v g rfl rfl rfl rfl (iY.gone W.hok hm.new) (Un.gone y (by simp) hm.new) (j Z U .refl rep1 _ _ ⟨x,[],C,rfl,B.ns,rfl,.inl ⟨rfl,rfl⟩⟩)
 ·rw[if_neg hl]at c1;exact(ao c1).elim
end
section
variable {P:ed}{w:ee}{K:dt}{mg:Str->Option a_}{base:f_}{N:List Str}{ql:Str}{scope:Scope}{f c':b'}{cl:List (Str×b')}{params:NA}{body:Expr}{pm ctv:a_}
structure Caps(base:f_)(scope:Scope)(cl:List (Str×b'))(N:List Str)(vs:List V):Prop where
 kind:scope.kind= .function
 nocell:∀y∈scope.names,y.2≠ .cell
 co:scope.isCoroutine=dV
 gen:scope.isGenerator=dV
 inj:∀x y c,cl.lookup x=ar c->cl.lookup y=ar c->x=y
 has:∀x,scope.names.lookup x=ar .free->∃c,cl.lookup x=ar c
 cell:∀x c,cl.lookup x=ar c->∃v,base.IsCell c v
 len:vs.length=N.length
 val:∀(i:Nat) (x:Str) (v:V),N[i]? =ar x->vs[i]? =ar v->scope.names.lookup x=ar .free/\∃c u,cl.lookup x=ar c/\RelV v u/\base.IsCell c (ar u)
def JR(K:dt)(c':b')(ql:Str)(ds:List D)(vs:List V)(m:TM):Hp->VK->XK->Prop:=fun H Q Ek=>
 ∃ ι S,Rep K ι H S/\H c'=ar (.ext (CP ql c'))/\RelDs K ι H ds vs/\cont K (wb K Ek) (m (ds.map ar)) ι S H (lC K Q)
end
section
variable {X:Cx}{E:XD}{k i jn jy:Nat}{a c':b'}{ql:Str}{ds:List D}{vs:List V}{m:TM}{x n y:Str}{p cpos epos np p1 p2 p3 hpos tpos:Pos}
end
structure LamScope(X:Cx)(scope:Scope)(N3:List Str)(js:List Nat):Prop where
 kind:scope.kind= .function
 nocell:∀y∈scope.names,y.2≠ .cell
 co:scope.isCoroutine=dV
 gen:scope.isGenerator=dV
 free:∀y∈scope.names,y.2= .free->X.env.kindOf y.1=ar .cell\/X.env.kindOf y.1=ar .free
 len:js.length=N3.length
 ix:∀(i:Nat) (x:Str) (j:Nat),N3[i]? =ar x->js[i]? =ar j->X.N[j]? =ar x/\scope.names.lookup x=ar .free
def Hh(K:dt)(R:D->M D->List D->M D)(a c':b')(ql:Str)(ds:List D)(vs:List V)(m:TM):Sp:=fun us H Q _=>
 ∃ ι S rest es,us= .ref a::rest/\Rep K ι H S/\H c'=ar (.ext (CP ql c'))/\RelDs K ι H ds vs/\RelDs K ι H es rest/\cont K cw (R (.fn a c' ql ds vs) (m (ds.map ar)) es) ι S H (lC K Q)
structure RefX(P:ed)(w:ee)(K:dt)(mg:Str->Option a_)(k k0:Nat)(x:Str)(ps:List Str)(R:D->M D->List D->M D):Prop where
 ex:∃fr fd,mg x=ar (.ref fr)/\y2 K (.ref fr)=b_/\Binds K fd ps []/\∀base,Mod K mg base->∀a c' ql ds vs m,LamOk P w K mg base k0 a (JR K c' ql ds vs m)->FnOk P w K mg base (nO P w) k fr fd ps (Hh K R a c' ql ds vs m)
section
variable {X:Cx}{pins:List (b'×Obj)}{σ:L2.St}{H:Hp}{s:c_}
end
section
variable {X:Cx}{x xl ql:Str}{k k0:Nat}{ps N3:List Str}{js:List Nat}{R:D->M D->List D->M D}{R':M D->List D->M D}{params:NA}{body:Expr}{scope:Scope}{lpos p pos:Pos}{es:List Expr}{ms:aD->M (List D)}{m:TM}{c P:b'}
end
def jT(K:dt):List Addr:=cQ.filterMap fun y=>(nC K y).map (·.2)
theorem yV{K:dt}{y:Str}{c P:b'}(Z:y∈cQ)(e:nC K y=ar (c,P)):P∈jT K:=Lo.mpr ⟨y,Z,by rw[e];rfl⟩
theorem ug{K:dt}{P:b'}(h:P∈jT K):∃y c,y∈cQ/\nC K y=ar (c,P):=by
 obtain⟨y,Z,e⟩:=Lo.mp h;cases q:nC K y with
 |none=>rw[q]at e;cases e
 |some p=>rw[q]at e;cases e;exact⟨y,p.1,Z,q⟩
theorem C7{K:dt}{j:Str->Option a_}{sp:Sp}{Z:c_}{vs:List a_}
  (KX:K.In Z.heap) (nt:OD K=b_) (a5:Z.heap.Ns g_ mg) (hb:Z.heap.Ns wh j) (a6:∀x:Str,x≠"__name__"->j x=la x) (B:Z.heap.NoLimit) (hg:Z.gens= #[])
  (g:∃bm J,mg "__builtins__"=ar (.ref bm)/\bm≠wh/\Z.heap.get? bm=ar J/\J.cls= .type "module"/\J.dict=ar wh/\J.data= .plain)
  (U:∀y∈cQ,∀c Q,nC K y=ar (c,Q)->NW Z.heap c Q/\Z.heap.get? Q=ar (E_ #[]))
  (G:Z.heap.get? a=ar {cls:=.type "list",data:=.seq vs.toArray}) (hi:nf vs ns) (hl:ns.length<=sizeLine) (hr:Room k x_)
  (F:∀base:f_,Mod K mg base->BaseL K mg base->FnOk P w K mg base (nO P w) k fa fd [x] sp) (N:∀(s:c_) (u:a_),G_ s fd ⟨[u],[]⟩ [(x,u)])
  (i:∀H:Hp,TabsOk K H->Cg K H a (ns.map V.int)->sp [.ref a] H (fun v _=>v= .bl b_) fun _ _ _=>False):
  vr (ff P w) x_ (.call (.ref fa) ⟨[.ref a],[]⟩) (fun r s'=>r= .ok (.ret (.bool b_))/\OldK Z.heap s'.heap/\s'.os=Z.os/\yn s'.gens) Z:=by
 have rv:=j9 hi;have X:∀Q∈jT K,Z.heap.get? Q=ar (E_ #[]):=fun Q hQ=>let ⟨y,c,R,e⟩:=ug hQ;(U y R c Q e).2;have aT:a∉jT K:=fun z=>by
  have:=X a z;rw[G]at this;cases this
 let H:Hp:=fun b=>if b∈jT K then ar (.tbl #[])else if b=a/\K.lookup a=none then ar (.frz {cls:=.type "list",data:=.seq vs.toArray} (.lst (ns.map V.int)))else none;have hT:∀b∈jT K,H b=ar (.tbl #[]):=fun b z=>if_pos z;have I:∀b,b∉jT K->H b=if b=a/\K.lookup a=none then ar (.frz {cls:=.type "list",data:=.seq vs.toArray} (.lst (ns.map V.int)))else none:=fun b z=>if_neg z;have free:∀{b:b'} {o:Obj},Z.heap.get? b=ar o->o≠E_ #[]->(o.cls≠ .type "list"\/K.lookup b=ar o)->H b=none:=fun{b o} e p T=>by
  have z:b∉jT K:=fun z=>by
   have:=X b z;rw[e]at this;exact p (Kl this)
  rw[I b z,if_neg];rintro⟨rfl,kn⟩;rcases T with T|T
  ·rw[G]at e;cases e;exact T rfl
  ·rw[kn]at T;cases T
 have O:∀{b:b'} {o:Obj},K.lookup b=ar o->o≠E_ #[]:=fun{b o} e z=>by
  have l:=Ki.mp nt (b,o) (W.mem_of_lookupK e);subst z;exact absurd (show dV=b_ from l) Lg
 have E:iY P w H Z.heap:=fun b u e=>by
  by_cases z:b∈jT K
  ·rw[hT b z]at e;cases e;exact X b z
  ·rw[I b z]at e;by_cases q:b=a/\K.lookup a=none
   ·rw[if_pos q]at e;cases e;obtain⟨rfl,_⟩:=q;exact⟨G,by rw[JV];exact hl,vs,_,rv,G⟩
   ·rw[if_neg q]at e;cases e
 have Y:∀{b:b'} {o:Obj},Z.heap.get? b=ar o->o≠E_ #[]->(o.cls≠ .type "list"\/K.lookup b=ar o)->(kE Z.heap H).get? b=ar o:=fun e p T=>oU e (free e p T);have L:∀{b:b'} {m:Str->Option a_},Z.heap.Ns b m->(kE Z.heap H).Ns b m:=fun{b m} ⟨o,es,ep,e,d,r⟩=>by
  have z:H b=none:=by
   by_cases zt:b∈jT K
   ·have:=X b zt;rw[e]at this;cases this;cases d
   ·rw[I b zt,if_neg];rintro⟨rfl,_⟩;rw[G]at e;cases e;cases d
  exact⟨o,es,ep,oU e z,d,r⟩
 have a0:K.In (kE Z.heap H):=fun b o e=>Y (KX b o e) (O e) (.inr e);have hM:Mod K mg (kE Z.heap H):=⟨a0,L a5,⟨j,L hb,a6⟩,let ⟨mc,h1,l⟩:=B;⟨mc,L h1,l⟩⟩;have hB:BaseL K mg (kE Z.heap H):=by
  refine⟨?_,fun y R c Q e=>?_⟩
  ·obtain⟨bm,J,b1,b2,b3,t,b5,b6⟩:=g;exact⟨bm,J,b1,b2,Y b3 (fun z=>by rw[z]at t;cases t) (.inl (by rw[t];decide)),t,b5,b6⟩
  ·obtain⟨o,v2,file,tf,flags,tg,n,text,tt,e1,A,r⟩:=(U y R c Q e).1;exact⟨o,v2,file,tf,flags,tg,n,text,tt,Y e1 (fun z=>by rw[z]at A;cases A) (.inl (by rw[A];decide)),A,r⟩
 have e0:L2.aD P w K mg (kE Z.heap H) x_ [] Z H:=⟨rfl,hM,fun b o e=>xb e,Ls (qO _ _),trivial,fun b hb=>absurd (show b∈([]:List b')from hb) (by simp),E,.of_eq hg⟩
 have f:TabsOk K H:=fun y R c Q e=>⟨#[],hT Q (yV R e),trivial,fun pos cv q=>by cases q⟩
 have C:Cg K H a (ns.map V.int):=by
  cases hk:K.lookup a with
  |some o=>
   have e:=KX a o hk;rw[G]at e;cases e;exact .inr ⟨_,vs.toArray,_,hk,rfl,rfl,rfl,by rw[J8,hi.length];exact hl,by simpa using rv⟩
  |none=>exact .inl ⟨_,by rw[I a aT,if_pos ⟨rfl,hk⟩]⟩
 refine MJ ((F _ hM hB).run x_ [] Z H ⟨[.ref a],[]⟩ [.ref a] [.ref a] _ _ hr e0 (N Z (.ref a)) (.cons rfl .nil) (i H f C)) fun r s' h=>?_;cases r with
 |error e=>obtain⟨_,_,_,_,_,_,_,_,_,_,_,_,_,_,_,z⟩:=h;exact kS z
 | ok fl=>
  cases fl with
  |next=>exact kS h
  |brk=>exact kS h
  |cont=>exact kS h
  | ret u=>
   obtain⟨v,H',os,bare,un,S,r',q⟩:=h;have q':v= .bl true:=q;subst q';obtain rfl:u=v' true:=r';refine⟨rfl,⟨fun b o e=>?_,fun b o e=>un.there b o e (by simp)⟩,os,bare⟩
   by_cases zt:b∈jT K
   ·obtain⟨y,c,R,et⟩:=ug zt;obtain⟨hc,hP⟩:=U y R c b et;obtain⟨more,em⟩:=un.tbls b _ (hT b zt);have o2:s'.heap.get? b=ar {cls:=.none,data:=.fields (#[]++more)}:=S b _ em;rw[hP]at e;cases e;exact .inr (.inl ⟨(hc.tab hP).isCodeTable,rfl, #[],more,rfl,o2⟩)
   ·by_cases qa:b=a/\K.lookup a=none
    ·have z1:H b=ar (.frz {cls:=.type "list",data:=.seq vs.toArray} (.lst (ns.map V.int))):=by rw[I b zt,if_pos qa]
     obtain⟨e2,_⟩:=S b _ (un.frzs b _ _ z1);obtain⟨e1,_⟩:=E b _ z1;rw[e]at e1;cases e1;exact .inl e2
    ·exact .inl (un.keep b o e (by rw[I b zt,if_neg qa]) (by intro z;exact absurd (show b∈([]:List b')from z) (by simp)) (by simp))
theorem AX{l:Ou}{YP:ee->f_->Prop}{d:OE}{K:M_->dt}{sp:ee->Sp}
  (r:l.most=ar n) (P:n<=sizeLine) (R:d.params.defaults=[]) (I:Room k x_)
  (E:∀(w:ee) (h:f_),YP w h->(K w.params).In h) (t:∀w:ee,OD (K w.params)=b_)
  (X:∀(w:ee) (h:f_),YP w h->∀y∈cQ,∀c Q,nC (K w.params) y=ar (c,Q)->NW h c Q/\h.get? Q=ar (E_ #[]))
  (F:∀(w:ee) (Z:Str->Option a_) (S:b') (h:f_),(K w.params).In h->h.Ns g_ Z->Z d.name=ar (.ref S)->
   ∃fd:eM,(∀(s:c_) (u:a_),G_ s fd ⟨[u],[]⟩ [(x,u)])/\
    ∀base:f_,Mod (K w.params) Z base->BaseL (K w.params) Z base->FnOk l.prog w (K w.params) Z base (nO l.prog w) k S fd [x] (sp w))
  (O:∀(w:ee) (H:Hp) (a:b') (ns:List Int),ns.length<=n->TabsOk (K w.params) H->Cg (K w.params) H a (ns.map V.int)->sp w [.ref a] H (fun v _=>v= .bl b_) fun _ _ _=>False):
  OL q loose XP YP l.row.toRowW d [] (fun f vs=>PySem.call f vs):=by
 refine Att.attach_call r R fun w s₀ J Z mb S o pm cd doc a vs ns G Y i hd A N U hints hlen C=>?_;have L:=E w _ Y;obtain⟨fd,z,m⟩:=F w Z S _ L G.T.g N;refine C7 L (t w) G.T.g G.T.b G.T.builtins G.T.nolimit C G.T.bmain (fun y B c Q e=>X w _ Y y B c Q e) U hints (J4 hlen P) I m z fun H p j=>O w H a ns hlen p j
def Hi(K:dt)(ts:List b'):Bool:=cQ.all fun y=>match nC K y with
 |some (c,Q)=>W.codeHdIn K c Q && ts.contains Q
 |none=>b_
theorem I0{K:M_->dt}{e:∀P,as=(K P).map (·.1)}{w:ee}(Z:Hi (K w.params) ts=b_)(Y:(W.kmHook K as e ts).says w h):
  ∀y∈cQ,∀c Q,nC (K w.params) y=ar (c,Q)->NW h c Q/\h.get? Q=ar (E_ #[]):=fun y U c Q X=>by
 have:=Ki.mp Z y U;rw[X]at this;simp only[i']at this;exact⟨W.codeHd_of_K (W.km_in_of Y) this.1,W.km_tabs_of Y Q (List.contains_iff_mem.mp this.2)⟩
def D1(K:dt):Bool:=cQ.all fun x=>cQ.all fun y=>match nC K x,nC K y with
 |some (_,P),ar (_,Q)=>P !=Q||x==y
 |_,_=>b_
theorem Fi{K:dt}(h:D1 K=b_):AS K:=fun x Z y Y c d P e1 e2=>by
 have:=Ki.mp (Ki.mp h x Z) y Y;rw[e1,e2]at this;simpa using this
def kz(N n:Nat)(m:cK):List D->M D:=nI N n (fun ρ=>kK (m ρ))
section
variable {P:ed}{w:ee}{K:dt}{mg:Str->Option a_}{base:f_}
theorem bN{x qual:Str}{X:p7}{f:b'}{T:eM}{N U:List Str}{k:Nat}{m:cK}{S:List D->M D}(F:Fun K x qual X f T)(L:mg x=ar (.ref f))(O:Binds K T U [])(J:FnScope N U (ai X))(I:S=kz N.length U.length m)
  (Y:∀(Z:a_) (A:hF) (outer:List Env) (s:c_) (H:Hp) (E:XK),Room k (A.deeper (C_ qual (ai X) s.heap.objs.size f Z))->
   vo (mF (nO P w) P w K mg base N qual (ai X) f Z A outer s H E).nox cw (dP X) m):DefX P w K mg base (k+1) x U S:=
 ⟨f,T,by rw[I];exact Fh F J fun Z A outer s H Q R _ _=>uf (xC (Y Z A outer s H Q R)),L,F.kp,O⟩
theorem dD{x qual:Str}{X:p7}{f:b'}{T:eM}{N U:List Str}{k:Nat}{m:cK}{S:List D->M D}(F:Fun K x qual X f T)(L:mg x=ar (.ref f))(O:Binds K T U [])(J:FnScope N U (ai X))(I:S=nI N.length U.length m)
  (Y:∀(Z:a_) (A:hF) (outer:List Env) (s:c_) (H:Hp) (E:XK),Room k (A.deeper (C_ qual (ai X) s.heap.objs.size f Z))->
   vo (mF (nO P w) P w K mg base N qual (ai X) f Z A outer s H E) (wb K E) (dP X) m):DefX P w K mg base (k+1) x U S:=
 ⟨f,T,by rw[I];exact Fh F J fun Z A outer s H Q R _ _=>Y Z A outer s H Q R,L,F.kp,O⟩
theorem C8{x y qual:Str}{f c Q:b'}{S:a_}{O:Option b'}{U:Array (Option a_)}{kV X L Y ct J:a_}{I:Option b'}{T:NA}{bd:List p7}{H:Scope}(R:sb K g_ x=ar (ar (.ref f)))
  (N:K.lookup f=ar ⟨S,O,.func (B' y qual T bd H J kV X L I Y ct),U⟩) (Z:nC K x=ar (c,Q)):Y= .ref c:=by
 unfold nC at Z;rw[R]at Z;dsimp only at Z;rw[N]at Z;dsimp only at Z;cases Y with
 | ref c2=>
  dsimp only at Z;split at Z
  ·split at Z
   ·cases Z;rfl
   ·cases Z
  ·cases Z
 |_=>cases Z
theorem Fj{x qual:Str}{Y:p7}{f:b'}{R:eM}{N U:List Str}{k:Nat}{m:cK}{S:List D->M D}{c B:b'}(F:Fun K x qual Y f R)(G:FnScope N U (ai Y))(C:S=kz N.length U.length m)(J:sb K g_ x=ar (ar (.ref f)))(I:nC K x=ar (c,B))
  (Z:∀(A:hF) (outer:List Env) (s:c_) (H:Hp) (E:XK),Room k (A.deeper (C_ qual (ai Y) s.heap.objs.size f (.ref c)))->
   vo (mF (nO P w) P w K mg base N qual (ai Y) f (.ref c) A outer s H E).nox cw (dP Y) m):FnOk P w K mg base (nO P w) (k+1) f R U (AU K S):=by
 rw[C];refine Fh F G fun T A outer s H O Q _ X=>?_;obtain⟨v,u,z,kV,doc,pm,an,ct,y⟩:=X;have L:T= .ref c:=C8 J y I;subst L;exact uf (xC (Z A outer s H O Q))
end
end S7
section
namespace S4
open PySem PySem.Spec PyProof.Rows
section
variable {prog:ed}{w:ee}{A:hF}{E:a_->c_->Prop}{s:c_}
end
end S4
namespace S3
open PySem PySem.Spec PyProof.Rows L2 S4
section
variable {X:Cx}{E:XD}{e:Expr}{m:TM}{pos:Pos}
theorem wd:∀{vs:List a_} {ns:List Int},nf vs ns->∃xs:Array (Int×Tok),vs.toArray=intItems xs/\preSum (numAt xs) xs.size=ns.sum:=by
 intro vs ns h;obtain⟨xs,Z⟩:=h.allInts.items;refine⟨xs,Z,?_⟩;have:=h.numsOf;have e2:numsOf (intItems xs).toList=ns:=by rw[<-Z];exact this
 rw[nums_intItems]at e2;rw[preSum_eq,LN (by simp)]
 rw[<-e2]
theorem yW(P:X.calm=b_):eE X (.builtin "sum") (fun xs H Q=>∃(p:b') (ns:List Int),xs=[.ref p]/\jH X.K H p (ns.map V.int)/\Q (.int ns.sum) H):=by
 intro pins s σ H xs us Q I r h;obtain⟨p,ns,rfl,S,q⟩:=h;obtain⟨u,rfl,R⟩:=vals1 r;cases (show u=gj p from R);obtain⟨its,Y,T,O⟩:=I.list S;obtain⟨xs,e1,e2⟩:=wd (MW Y);have Z:=T.isList;rw[e1]at Z;refine sum_intListG (I.ok.hd P) Z fun h' W t' U=>⟨.int ns.sum,H,I.kept (t':=W) U,⟨t',?_⟩,q⟩;rw[e2]
def C9:List D->M D
 |[.lst k]=>do
  let xs<-getL k
  match intsOf xs with
  |some ns=>aC (.int ns.sum)
  |none=>M.fail
 |[.fz xs]=>match intsOf xs with
  |some ns=>aC (.int ns.sum)
  |none=>M.fail
 |_=>M.fail
theorem yX:jK X.K E C9 (fun xs H Q=>∃(p:b') (ns:List Int),xs=[.ref p]/\jH X.K H p (ns.map V.int)/\Q (.int ns.sum) H):=by
 intro P S H ds vs Q rep r c;unfold C9 at c;split at c
 ·next k=>
  obtain⟨v,ws,rfl,Y,T⟩:=r.cons_inv;cases T.nil_inv;obtain⟨p,rfl,U⟩:=Y.lst_inv;obtain⟨es,us,_,R,W,Z⟩:=bp c rep U;cases q:intsOf es with
  |none=>rw[q]at Z;exact(ao Z).elim
  |some ns=>
   rw[q]at Z;refine⟨p,ns,rfl,.of ?_,ah Z .refl rep _ (.int _)⟩;rw[<-fh W q];exact R
 ·next es=>
  obtain⟨v,ws,rfl,Y,T⟩:=r.cons_inv;cases T.nil_inv;obtain⟨p,o,us,rfl,U,W⟩:=Y.fz_inv;cases q:intsOf es with
  |none=>rw[q]at c;exact(ao c).elim
  |some ns=>
   rw[q]at c;refine⟨p,ns,rfl,.inl (.inr ⟨o,?_⟩),ah c .refl rep _ (.int _)⟩;rw[<-fh W q];exact U
 ·exact(ao c).elim
theorem Fk(U:X.calm=b_)(Y:X.mg "sum"=none)(W:SE X E e m)(Z:Gl X "sum":=by rfl)(hs:eb [e] X.env=[(dV,h_ e X.env)]:=by rfl):SE X E (.Call (.Name "sum" p) [e] [] pos) (bY C9 m):=
 g0 (yW U) yX Z Y (by decide+kernel) (af W aq hs) (by decide) (by decide) hs rfl
def distinct(ns:List Int):List Int:=firstMet (fun i=>ns.getD i 0) ns.length
end
end S3
end
namespace S4
open PySem PySem.Spec PyProof.Rows L2 S3
def Da(l1 l2:b'):It:=⟨fun i H=>∃va vb,Rd H l1 (.lst va)/\Rd H l2 (.lst vb)/\i<va.length/\i<vb.length,
 fun i H x H'=>∃va vb p u v,Rd H l1 (.lst va)/\Rd H l2 (.lst vb)/\H p=none/\va[i]? =ar u/\vb[i]? =ar v/\x= .ref p/\H'=upd H p (.tup [u,v]),fun i H=>∃va vb,Rd H l1 (.lst va)/\Rd H l2 (.lst vb)/\(va.length<=i\/vb.length<=i)⟩
theorem yY{P:ed}{w:ee}{K:dt}{F:List Expr}{x1}{tp:Pos}{z TI TO L Q l1 f:b'}(D:Om z TI TO L Q l1 f):
  Turn P w K (.Tuple F x1 tp) (Da l1 f) [z,TI,TO,L,Q] z
   (fun i h=>K_ h z TI TO .none/\p4 h TI (.ref L) (.ref Q)/\(∃a b,p4 h TO a b)/\h.IsListIter L l1 i/\h.IsListIter Q f i) where
 mem:=by simp
 obj:=fun i h st b Y=>by
  obtain⟨R,Z,⟨a,c,U⟩,⟨o1,e1,c1,d1⟩,⟨o2,e2,c2,d2⟩⟩:=st;simp only[f',e_,or_false]at Y;rcases Y with rfl|rfl|rfl|rfl|rfl
  ·exact⟨_,R,fun v z=>by cases z⟩
  ·exact⟨_,Z,fun v z=>by cases z⟩
  ·exact⟨_,U,fun v z=>by cases z⟩
  ·exact⟨_,e1,fun v z=>by rw[d1]at z;cases z⟩
  ·exact⟨_,e2,fun v z=>by rw[d2]at z;cases z⟩
 keep:=fun i h h' st k=>by
  obtain⟨R,Z,⟨a,c,U⟩,G,J⟩:=st;exact⟨k z (by simp) _ R,k TI (by simp) _ Z,⟨a,c,k TO (by simp) _ U⟩,G.at fun o e=>k L (by simp) o e,J.at fun o e=>k Q (by simp) o e⟩
 item:=by
  intro X hP hw hK hc i pins s σ H E I hf st hg;subst hP hw hK;obtain⟨R,Z,⟨a,c,U⟩,G,J⟩:=st;obtain⟨n,t,r,p,ga,gb⟩:=hg;obtain⟨B,O,p1,_⟩:=I.list (.inl r);obtain⟨C,N,p2,_⟩:=I.list (.inl p);obtain⟨j,b5,c3⟩:=O.get (JX ga);obtain⟨m,a8,l⟩:=N.get (JX gb);refine wpAny_pyNext_zip_item D R Z U G J p1.isList p2.isList (x:=j) (y:=m) (by simpa using b5) (by simpa using a8) fun h' a1 a2 a3 a4 a5 a6 q=>?_
  have d:H s.heap.objs.size=none:=I.hok.fresh (JY _);have lt:∀{c o},s.heap.get? c=ar o->s.heap.objs.size≠c:=fun e=>LQ (J0 e);refine⟨_,rfl,MS a1 fun S b6 T=>?_⟩;have u:p4 S TI (.ref L) (.ref Q):=T.extBut _ _ D.TIz (q _ _ D.TIz D.TITO D.TIi1 D.TIi2 Z);have kk:∀b o,b∉[z,TI,TO,L,Q]->s.heap.get? b=ar o->S.get? b=ar o:=fun b o Y e=>by
   simp only[f',e_,or_false,not_or]at Y;exact T.extBut _ _ Y.1 (q b o Y.1 Y.2.2.1 Y.2.2.2.1 Y.2.2.2.2 e)
  have A:p4 S s.heap.objs.size j m:=T.extBut _ _ (lt R) a5;have I2:L2.Inv X pins σ (upd H s.heap.objs.size (.tup [n[i],t[i]])) {s with heap:=S,toks:=s.toks}:=sF (o:=.tup [n[i],t[i]]) I hf kk (JY _) ⟨⟨by show 2<=sizeLine;decide,_,A,rfl⟩,[j,m],.cons c3 (.cons l .nil),_,A,rfl,_,rfl⟩
  refine⟨.ref s.heap.objs.size,_,I2,rfl,
   ⟨n,t,_,_,_,r,p,d,JX ga,JX gb,rfl,rfl⟩,⟨b6,u,⟨_,_,T.extBut _ _ D.TOz a2⟩,a3.at fun o e=>T.extBut _ _ D.i1z e,a4.at fun o e=>T.extBut _ _ D.i2z e⟩,fun b Y=>?_⟩
  obtain⟨ob,ho,_⟩:∃ob,s.heap.get? b=ar ob/\True:=by
   simp only[f',e_,or_false]at Y;rcases Y with rfl|rfl|rfl|rfl|rfl
   ·exact⟨_,R,trivial⟩
   ·exact⟨_,Z,trivial⟩
   ·exact⟨_,U,trivial⟩
   ·obtain⟨o,e,_⟩:=G;exact⟨_,e,trivial⟩
   ·obtain⟨o,e,_⟩:=J;exact⟨_,e,trivial⟩
  rw[aM (Kf (J0 ho))];exact(hf b Y).1
 done:=by
  intro X hP hw hK hc i pins s σ H E I hf st hg;subst hP hw hK;obtain⟨R,Z,⟨a,c,U⟩,G,J⟩:=st;obtain⟨n,t,r,p,gs⟩:=hg;obtain⟨B,O,p1,_⟩:=I.list (.inl r);obtain⟨C,N,p2,_⟩:=I.list (.inl p);have e5:=O.length;have e3:=N.length;refine wpAny_pyNext_zip_end (I.ok.hd hc) D R Z U G J p1.isList p2.isList (gs.imp (fun g=>by simp;omega) fun g=>by simp;omega) fun h' q=>⟨rfl,sE (t':=s.toks) I hf fun b o Y e=>?_⟩
  simp only[f',e_,or_false,not_or]at Y;exact q b o Y.1 Y.2.2.1 Y.2.2.2.1 Y.2.2.2.2 e
 self:=fun _ _ _ _ _ st h=>Ms st.1 h
theorem Dc{X:Cx}{P:List Expr}{x1}{tp p pos:Pos}{es:List Expr}{e:Expr}{z:TA}(x:Gl X "zip")(w:X.mg "zip"=none)(v:PA X (e::es) z)
  (y:eb (e::es) X.env=(dV,h_ e X.env)::eb es X.env:=by rfl) (G:(pb pos (eb es X.env)).any (·.1)=false:=by rfl):
  PI X (.Tuple P x1 tp) (.Call (.Name "zip" p) (e::es) [] pos) (fun σ H R=>z σ H fun xs Z=>(∃a b va vb,xs=[.ref a,.ref b]/\Rd Z a (.lst va)/\Rd Z b (.lst vb)/\R (Da a b) Z)\/
   (∃a b va vb,xs=[.ref a,.ref b]/\Z a=ar (.tup va)/\Z b=ar (.tup vb)/\
   R ⟨fun i H=>(zS va vb).go i H/\(H a=ar (.tup va)/\H b=ar (.tup vb)),(zS va vb).yld,fun i H=>(zS va vb).stop i H/\(H a=ar (.tup va)/\H b=ar (.tup vb))⟩ Z)):=by
 intro pins s σ H R I h;refine OP (kF I x w (show la "zip"=ar (.type "zip") by decide+kernel) (K5 (dY (v pos pins s σ H _ I h) fun us s1 ⟨vs,Z,I1,r1,q1⟩=>?_) y G) (by decide) (by decide))
 have fresh:∀c∈[s1.heap.objs.size+4,s1.heap.objs.size+2,s1.heap.objs.size+3,s1.heap.objs.size,s1.heap.objs.size+1],s1.heap.objs.size<=c:=fun c U=>by
  simp only[f',e_,or_false]at U;omega
 rcases q1 with⟨a,b,va,vb,rfl,hA,hB,q⟩|⟨a,b,va,vb,rfl,hA,hB,q⟩
 ·obtain⟨u,F,rfl,E,Q⟩:=vals2 r1;cases (show u=gj a from E);cases (show F=gj b from Q);obtain⟨K,C,O,_⟩:=I1.list (.inl hA);obtain⟨L,B,J,_⟩:=I1.list (.inl hB);have a1:a<s1.heap.objs.size:=by obtain⟨_,e,_⟩:=O.isList;exact J0 e
  have a2:b<s1.heap.objs.size:=by obtain⟨_,e,_⟩:=J.isList;exact J0 e
  refine call_zip_2 O.isList J.isList fun h' N S W Y T _ A=>Ms N ?_;exact⟨s1.heap.objs.size+4,_,_,_,Z,rfl,I1.kept (t':=s1.toks) A,yY (zipApart_new a1 a2),⟨N,S,⟨_,_,W⟩,Y,T⟩,fun c U=>I1.fpOk (fresh c U) (I1.hok.fresh (fresh c U)),q⟩
 ·obtain⟨u,F,rfl,E,Q⟩:=vals2 r1;cases (show u=gj a from E);cases (show F=gj b from Q);obtain⟨K,C,O,_⟩:=I1.tuple (.of hA);obtain⟨L,B,J,_⟩:=I1.tuple (.of hB);have a1:a<s1.heap.objs.size:=by obtain⟨_,e,_⟩:=O;exact J0 e
  have a2:b<s1.heap.objs.size:=by obtain⟨_,e,_⟩:=J;exact J0 e
  refine yQ O J fun h' N S W Y T A=>Ms N ?_;exact⟨s1.heap.objs.size+4,_,_,_,Z,rfl,I1.kept (t':=s1.toks) A,AM (zipApart_new a1 a2) (fun H=>H a=ar (.tup va)/\H b=ar (.tup vb)) (fun _=>.rfl),⟨N,S,⟨_,_,W⟩,Y,T⟩,fun c U=>I1.fpOk (fresh c U) (I1.hok.fresh (fresh c U)),q⟩
theorem Rd.lst_inj(h:Rd H a (.lst xs))(h':Rd H a (.lst ys)):xs=ys:=by
 rcases h with h|⟨o,h⟩<;>rcases h' with h'|⟨o',h'⟩<;>(rw[h]at h';cases h'<;>rfl)
def zL:D->M (List D×Option (Nat×List D))
 | .lst k=>do let xs<-getL k;aC (xs,ar (k,xs))
 | .fz xs=>aC (xs,none)
 |_=>M.fail
def Fl:Option (Nat×List D)->Option (Nat×List D)->Chk
 |some (k,xs),ar (j,ys)=>.two k j xs ys
 |some (k,xs),none=>.two k k xs xs
 |none,ar (j,ys)=>.two j j ys ys
 |none,none=>.none
def uh:List D->M Iter
 |[.tup xs,.tup ys]=>aC ⟨(xs.zip ys).map fun p=>.tup [p.1,p.2],.none⟩
 |[a,b]=>do let x<-zL a;let y<-zL b;aC ⟨(x.1.zip y.1).map fun p=>.tup [p.1,p.2],Fl x.2 y.2⟩
 |_=>M.fail
structure ZOk(K:dt)(x:List D×Option (Nat×List D))(a:b')(ι:List b')(H:Hp):Prop where
 ok:∀ ι2 H2 S2,ExtN ι H ι2 H2->Rep K ι2 H2 S2->(∀k xs,x.2=ar (k,xs)->S2[k]? =ar xs)->∃va,Rd H2 a (.lst va)/\RelDs K ι2 H2 x.1 va
theorem AY{K:dt}{E:XD}{X:List b'}{S:aE}{H:Hp}{d:D}{v:V}{α:Type}{f:List D×Option (Nat×List D)->M α}{Q:α->List b'->aE->Hp->Prop}(Z:Rep K X H S)(r:RelD K X H d v)(c:cont K E (zL d>>=f) X S H Q):
  ∃a x U,v= .ref a/\Rd H a (.lst U)/\ZOk K x a X H/\cont K E (f x) X S H Q:=by
 cases d with
 | lst k=>
  obtain⟨a,rfl,Y⟩:=r.lst_inv;have I:cont K E (getL k>>=fun xs=>aC (xs,ar (k,xs))>>=f) X S H Q:=by
   rw[<-fu];exact c
  obtain⟨xs,vs,F,G,P,R⟩:=bp I Z Y;rw[aj]at R;refine⟨a,(xs,ar (k,xs)),vs,rfl,.inl G,⟨fun T J O e rep2 ok=>?_⟩,R⟩;obtain⟨U,L,N⟩:=rep2.get k a xs (e.at Y) (ok k xs rfl);exact⟨U,.inl L,N⟩
 |fz xs=>
  obtain⟨a,o,vs,rfl,Y,P⟩:=r.fz_inv;refine⟨a,(xs,none),vs,rfl,.inr ⟨o,Y⟩,⟨fun T J O e rep2 ok=>?_⟩,ah (ak c) .refl Z⟩;exact⟨vs,.inr ⟨o,(e.oth _ _ Y (Z.notIn Y (by intro _ z;cases z)) (by intro _ z;cases z) (by intro _ z;cases z)).1⟩,P.laterN Z e⟩
 |_=>exact(ao (ak c)).elim
theorem Dd(h:Iter.okS ⟨items,Fl x y⟩ S):(∀k xs,x=ar (k,xs)->S[k]? =ar xs)/\∀k xs,y=ar (k,xs)->S[k]? =ar xs:=by
 match x,y,h with
 |some (k,xs),ar (j,ys),h=>exact⟨fun _ _ e=>(by cases e;exact h.1),fun _ _ e=>(by cases e;exact h.2)⟩
 |some (k,xs),none,h=>exact⟨fun _ _ e=>(by cases e;exact h.1),fun _ _ e=>(by cases e)⟩
 |none,ar (j,ys),h=>exact⟨fun _ _ e=>(by cases e),fun _ _ e=>(by cases e;exact h.1)⟩
 |none,none,h=>exact⟨fun _ _ e=>(by cases e),fun _ _ e=>(by cases e)⟩
theorem ui{K:dt}{P:List b'}{H:Hp}{a b:b'}{x y:List D×Option (Nat×List D)}(F:ZOk K x a P H)(A:ZOk K y b P H):
  iR K ⟨(x.1.zip y.1).map fun p=>.tup [p.1,p.2],Fl x.2 y.2⟩ (Da a b) P H:=by
 intro Z S L e rep2 ok i;obtain⟨O,R⟩:=Dd ok;obtain⟨N,Y,T⟩:=F.ok Z S L e rep2 O;obtain⟨I,X,U⟩:=A.ok Z S L e rep2 R;have t:=T.length;have s:=U.length;refine⟨fun d hd=>?_,fun hlen=>?_⟩
 ·obtain⟨w,o,J,G,rfl⟩:=zip_get hd;have n:=(J2.mp J).1;have r:=(J2.mp G).1;refine⟨⟨N,I,Y,X,by omega,by omega⟩,?_⟩
  rintro v H3 ⟨va',vb',p,u,C,gA,gB,hp,g1,g2,rfl,rfl⟩;cases Rd.lst_inj Y gA;cases Rd.lst_inj X gB;obtain⟨v1,e1,E⟩:=T.get' J;obtain⟨v2,e2,B⟩:=U.get' G;obtain rfl:v1=u:=Kl (e1.symm.trans g1);obtain rfl:v2=C:=Kl (e2.symm.trans g2);have Q:Ext Z S Z (upd S p (.tup [v1,v2])):=iD hp;exact⟨Q,kb rep2 hp,.tup a7 (.cons (E.later rep2 Q) (.cons (B.later rep2 Q) .nil))⟩
 ·have q:min x.1.length y.1.length<=i:=by simpa using hlen
  refine⟨N,I,Y,X,?_⟩;rcases Nat.le_total x.1.length y.1.length with z|z
  ·exact .inl (by omega)
  ·exact .inr (by omega)
theorem De{X:Cx}{x1}(l:X.mg "zip"=none)(k:SE X E a m)(q:SE X E b n)(w:Gl X "zip":=by rfl)
  (hs:eb [a,b] X.env=[(dV,h_ a X.env),(dV,h_ b X.env)]:=by rfl) (W:eb [b] X.env=[(dV,h_ b X.env)]:=by rfl):
  SI X E (.Tuple elts x1 tp) (.Call (.Name "zip" p) [a,b] [] pos) (fun ρ=>do let ds<-(do let x<-m ρ;let xs<-(do let y<-n ρ;let ys<-aC [];aC (y::ys));aC (x::xs));uh ds):=by
 intro pins s σ H R I h;have N:PI X (.Tuple elts x1 tp) (.Call (.Name "zip" p) [a,b] [] pos) (fun σ H R=>IP X.K E (ae m (ae n av)) σ H fun xs U=>(∃a b Z Y,xs=[.ref a,.ref b]/\Rd U a (.lst Z)/\Rd U b (.lst Y)/\R (Da a b) U)\/
   (∃a b Z Y,xs=[.ref a,.ref b]/\U a=ar (.tup Z)/\U b=ar (.tup Y)/\
   R ⟨fun i H=>(zS Z Y).go i H/\(H a=ar (.tup Z)/\H b=ar (.tup Y)),(zS Z Y).yld,fun i H=>(zS Z Y).stop i H/\(H a=ar (.tup Z)/\H b=ar (.tup Y))⟩ U)):=
  Dc w l (af k (af q aq (by rw[W];rfl)) (by rw[hs,W])) (by rw[hs,W]) (by rw[W];rfl)
 refine N pins s σ H R I ?_;obtain⟨v,S,ρ,rep,re,c⟩:=h;refine⟨v,S,ρ,rep,re,ax (ak c) fun ds A S1 U e1 rep1 c1 vs r=>?_⟩;unfold uh at c1;split at c1
 ·next xs ys=>
  obtain⟨v1,ws,rfl,O,G⟩:=r.cons_inv;obtain⟨v2,F,rfl,L,J⟩:=G.cons_inv;cases J.nil_inv;obtain⟨P,Z,rfl,T,j⟩:=O.tup_inv;obtain⟨C,Y,rfl,Q,z⟩:=L.tup_inv;exact .inr ⟨P,C,Z,Y,rfl,T,Q,ah c1 .refl rep1 _ (vZ rep1 T Q j z)⟩
 ·next a b _=>
  obtain⟨v1,ws,rfl,O,G⟩:=r.cons_inv;obtain⟨v2,F,rfl,L,J⟩:=G.cons_inv;cases J.nil_inv;obtain⟨P,x,Z,rfl,T,B,t⟩:=AY rep1 O c1;obtain⟨C,y,Y,rfl,Q,u,o⟩:=AY rep1 L t;exact .inl ⟨P,C,Z,Y,rfl,T,Q,ah o .refl rep1 _ (ui B u)⟩
 ·exact(ao c1).elim
abbrev AZ(m n:TM):aD->M Iter:=fun ρ=>do let ds<-ae m (ae n av) ρ;uh ds
end S4
namespace S3
open PySem PySem.Spec PyProof.Rows L2 S4
def mZ(f:Expr->Option D):List Expr->Option (List D)
 |[]=>ar []
 |e::es=>match f e,mZ f es with
  |some d,ar ds=>ar (d::ds)
  |_,_=>none
def litE:Nat->Expr->Option D
 |_,.Constant .none _ _=>ar .non
 |_,.Constant (.bool b) _ _=>ar (.bl b)
 |_,.Constant (.int i) _ _=>ar (.int i)
 |_,.Constant (.str x) _ _=>ar (.str x)
 |_,.UnaryOp .USub (.Constant (.int i) _ _) _=>ar (.int (-i))
 |n+1,.Tuple es _ _=>match mZ (litE n) es with
  |some ds=>if ds.length<=100 then ar (.tup ds)else none
  |none=>none
 |_,_=>none
section
variable {X:Cx}{E:XD}
theorem SE.mono{m Z:TM}(h:SE X E e m)(k:∀ ρ S r,Z ρ S=ar r->m ρ S=ar r):SE X E e Z:=PE.imp h fun σ H Q q=>by
 obtain⟨W,S,ρ,rep,re,r,Y,e,c⟩:=q;exact⟨W,S,ρ,rep,re,r,Y,k ρ S _ e,c⟩
theorem A0(h:litE n e=ar d)(es:List Expr)(env:Env):eb (e::es) env=(dV,h_ e env)::eb es env:=by
 cases e with
 |Constant c j p=>exact aP
 |UnaryOp o a p=>exact v8
 |Tuple l k p=>exact lO
 |_=>cases n<;>cases h
theorem xD(Z:∀e d,litE n e=ar d->SE X E e (mK d)):∀{es:List Expr} {ds:List D},mZ (litE n) es=ar ds->SA X E es (fun _=>aC ds)
 |[],ds,h=>by cases h;exact aq
 | e::es,ds,h=>by
  unfold mZ at h;cases q:litE n e with
  |none=>rw[q]at h;cases h
  | some d=>
   rw[q]at h;cases q2:mZ (litE n) es with
   |none=>rw[q2]at h;cases h
   |some ds'=>
    rw[q2]at h;cases h;exact af (Z e d q) (xD Z q2) (A0 q _ _)
theorem Fm:∀(n:Nat) (e:Expr) (d:D),litE n e=ar d->SE X E e (mK d):=by
 intro n
 induction n with
 |zero=>
  intro e d h;unfold litE at h;split at h
  ·cases h;exact mM
  ·cases h;exact dQ
  ·cases h;exact aA
  ·cases h;exact pq
  ·cases h;exact AO
  ·next h'=>exact absurd h' (by omega)
  ·cases h
 | succ n ih=>
  intro e d h;unfold litE at h;split at h
  ·cases h;exact mM
  ·cases h;exact dQ
  ·cases h;exact aA
  ·cases h;exact pq
  ·cases h;exact AO
  ·next m es k p hm=>
   cases hm;cases q:mZ (litE n) es with
   |none=>rw[q]at h;cases h
   | some ds=>
    rw[q]at h;simp only at h;split at h
    ·next hl=>
     cases h;refine(eF (xD ih q)).mono fun ρ S r Z=>?_;have e:(do let ds'<-(aC ds:M (List D));bA ds')=(aC (.tup ds):M D):=by
      show bA ds=_;unfold bA;rw[if_pos (by unfold lim;omega)]
     rw[e];exact Z
    ·cases h
  ·cases h
theorem Fo(n:Nat)(h:litE n e=ar d):SE X E e (mK d):=Fm n e d h
end
def aR(m:TM)(ms:zT):zT:=ae m ms
section
variable {X:Cx}{E:XD}
theorem bL(Z:SE X E e m)(Y:SA X E es ms)(hs:eb (e::es) X.env=(dV,h_ e X.env)::eb es X.env):SA X E (e::es) (aR m ms):=af Z Y hs
theorem sI{l p t n}:p8 (.List l p) t n env=aC false:=rfl
theorem A1{l k p t n}:p8 (.Tuple l k p) t n env=aC false:=rfl
theorem pK{a o b p t n}:p8 (.BinOp a o b p) t n env=aC false:=rfl
theorem dR{f l k p t n}:p8 (.Call f l k p) t n env=aC false:=rfl
theorem jj{a b p t n}:p8 (.Subscript a b p) t n env=aC false:=rfl
end
end S3
namespace S7
open PySem PySem.Spec PyProof.Rows L2 S3
abbrev uj(m:TM):TM:=fun ρ=>kK (m ρ)
abbrev Ja(m:cK):cK:=fun ρ=>kK (m ρ)
abbrev sJ(x:Str)(ms:aD->M (List D)):cK:=fun ρ=>do let ds<-ms ρ;if ds.length<=lim then M.raise (.exc x [])else M.fail
end S7
namespace S3
open PySem PySem.Spec PyProof.Rows L2
mutual
def gD(n:Nat):D->Bool
 | .lst k=>decide (k<n)
 | .tup ds=>cT n ds
 | .ro ds=>cT n ds
 | .fz ds=>cT n ds
 | .fn _ _ _ ds _=>cT n ds
 | .exc _ ds=>cT n ds
 | .non=>b_
 | .bl _=>b_
 | .int _=>b_
 | .str _=>b_
 | .emp=>b_
def cT(n:Nat):List D->Bool
 |[]=>b_
 |d::ds=>gD n d && cT n ds
end
mutual
def ki(n:Nat)(g:Nat->Option (List D)):D->Option D
 | .lst k=>if k<n then ar (.lst k)else (g k).map .fz
 | .tup ds=>(jD n g ds).map .tup
 | .ro ds=>(jD n g ds).map .ro
 | .fz ds=>(jD n g ds).map .fz
 | .fn a c q ds vs=>(jD n g ds).map fun es=>.fn a c q es vs
 | .exc x ds=>(jD n g ds).map fun es=>.exc x es
 | .non=>ar .non
 | .bl b=>ar (.bl b)
 | .int i=>ar (.int i)
 | .str x=>ar (.str x)
 | .emp=>ar .emp
def jD(n:Nat)(g:Nat->Option (List D)):List D->Option (List D)
 |[]=>ar []
 |d::ds=>match ki n g d,jD n g ds with
  |some u,ar us=>ar (u::us)
  |_,_=>none
end
def Co(S:aE)(n:Nat):Nat->Nat->Option (List D)
 |0,_=>none
 |f+1,k=>(S[k]?).bind fun xs=>jD n (Co S n f) xs
def pL(S S':aE):Prop:=∀k xs,k<S.length->S'[k]? =ar xs->S[k]? =ar xs\/cT S.length xs=b_
open Classical in
def jE(m:M D):M D:=fun S=>match m S with
 | some (.ok d,S')=>if S'.length<=S.length then ar (.ok d,S')else
   if pL S S' then (match ki S.length (Co S' S.length 60) d with
    |some u=>ar (.ok u,S'.take S.length)
    |none=>none)else none
 |r=>r
abbrev aL(m:TM):TM:=fun ρ=>jE (m ρ)
section
variable {K:dt}{ι ι':List b'}{H H':Hp}{S S':aE}
mutual
theorem RelD.cl:∀{d:D} {v:V},RelD K ι H d v->gD ι.length d=b_
 |_,_,.non=>rfl
 |_,_,.bl b=>rfl
 |_,_,.int i=>rfl
 |_,_,.str x=>rfl
 |_,_,.tup h hs=>by unfold gD;exact RelDs.cl hs
 |_,_,.lst h=>by unfold gD;exact J3 (J2.mp h).1
 |_,_,.ro h hs=>by unfold gD;exact RelDs.cl hs
 |_,_,.emp h=>rfl
 |_,_,.fn h hs=>by unfold gD;exact RelDs.cl hs
 |_,_,.exc n h=>rfl
 |_,_,.excF n h h2 hn hs=>by unfold gD;exact RelDs.cl hs
 |_,_,.fz h hs=>by unfold gD;exact RelDs.cl hs
theorem RelDs.cl:∀{ds:List D} {vs:List V},RelDs K ι H ds vs->cT ι.length ds=b_
 |_,_,.nil=>rfl
 |_,_,.cons h hs=>by unfold cT;rw[RelD.cl h,RelDs.cl hs];rfl
end
def nP(P:List b')(os:b'->Obj)(H:Hp):Hp:=fun b=>match H b with
 |some (.lst vs)=>if b∈P then ar (.frz (os b) (.lst vs))else ar (.lst vs)
 |x=>x
theorem A2{P:List b'}{os:b'->Obj}{b:b'}(h:H b=none):nP P os H b=none:=by unfold nP;rw[h]
theorem bZ{P:List b'}{os:b'->Obj}{b:b'}{o:HO}(h:H b=ar o)(Z:∀vs,o≠ .lst vs):nP P os H b=ar o:=by
 unfold nP;rw[h];cases o with
 |lst vs=>exact absurd rfl (Z vs)
 |_=>rfl
theorem xE{P:List b'}{os:b'->Obj}{b:b'}(h:b∉P):nP P os H b=H b:=by
 unfold nP;split
 ·next q=>rw[if_neg h,q]
 ·rfl
theorem Fp{os:b'->Obj}(h:b∈P)(e:H b=ar (.lst vs)):nP P os H b=ar (.frz (os b) (.lst vs)):=by
 unfold nP;rw[e];exact if_pos h
theorem uk(Y:ι.Nodup)(h:ι[k]? =ar a):a∈ι.drop n↔n<=k:=by
 constructor
 ·intro hm;obtain⟨j,Z⟩:=List.mem_iff_getElem?.mp hm;rw[MN]at Z;have:=pk Y h Z;omega
 ·intro X;refine List.mem_iff_getElem?.mpr ⟨k - n,?_⟩;rw[MN,show n+(k - n)=k by omega];exact h
mutual
theorem RelD.down{n:Nat}{os:b'->Obj}:∀{d:D} {v:V},RelD K ι H d v->gD n d=b_->RelD K (ι.take n) (nP (ι.drop n) os H) d v
 |_,_,.non,_=>.non
 |_,_,.bl b,_=>.bl b
 |_,_,.int i,_=>.int i
 |_,_,.str x,_=>.str x
 |_,_,.tup h hs,c=>.tup (bZ h (by intro _ z;cases z)) (RelDs.down hs (by unfold gD at c;exact c))
 |_,_,.lst h,c=>.lst (by unfold gD at c;rw[LP,if_pos (Kw c)];exact h)
 |_,_,.ro h hs,c=>.ro (h.imp (fun⟨o,h⟩=>⟨o,bZ h (by intro _ z;cases z)⟩) fun z=>z) (RelDs.down hs (by unfold gD at c;exact c))
 |_,_,.emp h,_=>.emp (bZ h (by intro _ z;cases z))
 |_,_,.fn h hs,c=>.fn (bZ h (by intro _ z;cases z)) (RelDs.down hs (by unfold gD at c;exact c))
 |_,_,.exc n h,_=>.exc n (bZ h (by intro _ z;cases z))
 |_,_,.excF n h h2 hn hs,c=>.excF n (bZ h (by intro _ z;cases z)) (bZ h2 (by intro _ z;cases z)) hn (RelDs.down hs (by unfold gD at c;exact c))
 |_,_,.fz h hs,c=>.fz (bZ h (by intro _ z;cases z)) (RelDs.down hs (by unfold gD at c;exact c))
theorem RelDs.down{n:Nat}{os:b'->Obj}:∀{ds:List D} {vs:List V},RelDs K ι H ds vs->cT n ds=b_->RelDs K (ι.take n) (nP (ι.drop n) os H) ds vs
 |_,_,.nil,_=>.nil
 |_,_,.cons h hs,c=>by
  unfold cT at c;rw[Kn]at c;exact .cons (RelD.down h c.1) (RelDs.down hs c.2)
end
theorem jk{α Z:Type}{f:α->Z}{o:Option α}{b:Z}(h:o.map f=ar b):∃a,o=ar a/\f a=b:=by
 cases o with
 |none=>cases h
 |some a=>exact⟨a,rfl,Kl h⟩
theorem A3(h:jD n g (d::ds)=ar us):∃u us',us=u::us'/\ki n g d=ar u/\jD n g ds=ar us':=by
 unfold jD at h;split at h
 ·next u us' e1 e2=>cases h;exact⟨u,us',rfl,e1,e2⟩
 ·cases h
mutual
theorem we{n:Nat}{os:b'->Obj}{g:Nat->Option (List D)}(Z:∀k us a,n<=k->g k=ar us->ι[k]? =ar a->∃vs,H a=ar (.lst vs)/\RelDs K (ι.take n) (nP (ι.drop n) os H) us vs)(Y:ι.Nodup):
  ∀{d:D} {v:V},RelD K ι H d v->∀{u:D},ki n g d=ar u->RelD K (ι.take n) (nP (ι.drop n) os H) u v
 |_,_,.non,u,e=>by unfold ki at e;cases e;exact .non
 |_,_,.bl b,u,e=>by unfold ki at e;cases e;exact .bl b
 |_,_,.int i,u,e=>by unfold ki at e;cases e;exact .int i
 |_,_,.str x,u,e=>by unfold ki at e;cases e;exact .str x
 |_,_,.tup h hs,u,e=>by
  unfold ki at e;obtain⟨es,e1,rfl⟩:=jk e;exact .tup (bZ h (by intro _ z;cases z)) (jl Z Y hs e1)
 | _,_,@RelD.lst _ _ _ a k h,u,e=>by
  unfold ki at e;by_cases hk:k<n
  ·rw[if_pos hk]at e;cases e;exact .lst (by rw[LP,if_pos hk];exact h)
  ·rw[if_neg hk]at e;obtain⟨us,e1,rfl⟩:=jk e;obtain⟨vs,U,X⟩:=Z k us a (by omega) e1 h
   exact .fz (Fp ((uk Y h).mpr (by omega)) U) X
 |_,_,.ro h hs,u,e=>by
  unfold ki at e;obtain⟨es,e1,rfl⟩:=jk e;exact .ro (h.imp (fun⟨o,h⟩=>⟨o,bZ h (by intro _ z;cases z)⟩) fun z=>z) (jl Z Y hs e1)
 |_,_,.emp h,u,e=>by unfold ki at e;cases e;exact .emp (bZ h (by intro _ z;cases z))
 |_,_,.fn h hs,u,e=>by
  unfold ki at e;obtain⟨es,e1,rfl⟩:=jk e;exact .fn (bZ h (by intro _ z;cases z)) (jl Z Y hs e1)
 |_,_,.exc x h,u,e=>by
  unfold ki at e;obtain⟨es,e1,rfl⟩:=jk e;unfold jD at e1;cases e1;exact .exc x (bZ h (by intro _ z;cases z))
 |_,_,.excF x h X hn hs,u,e=>by
  unfold ki at e;obtain⟨es,e1,rfl⟩:=jk e;exact .excF x (bZ h (by intro _ z;cases z)) (bZ X (by intro _ z;cases z)) hn (jl Z Y hs e1)
 |_,_,.fz h hs,u,e=>by
  unfold ki at e;obtain⟨es,e1,rfl⟩:=jk e;exact .fz (bZ h (by intro _ z;cases z)) (jl Z Y hs e1)
theorem jl{n:Nat}{os:b'->Obj}{g:Nat->Option (List D)}(Z:∀k us a,n<=k->g k=ar us->ι[k]? =ar a->∃vs,H a=ar (.lst vs)/\RelDs K (ι.take n) (nP (ι.drop n) os H) us vs)(Y:ι.Nodup):
  ∀{ds:List D} {vs:List V},RelDs K ι H ds vs->∀{us:List D},jD n g ds=ar us->RelDs K (ι.take n) (nP (ι.drop n) os H) us vs
 |_,_,.nil,us,e=>by unfold jD at e;cases e;exact .nil
 |_,_,.cons h hs,us,e=>by
  obtain⟨u,X,rfl,e1,e2⟩:=A3 e;exact .cons (we Z Y h e1) (jl Z Y hs e2)
end
theorem xF(Z:Rep K ι H S){n:Nat}{os:b'->Obj}:∀f k us a,n<=k->Co S n f k=ar us->ι[k]? =ar a->∃vs,H a=ar (.lst vs)/\RelDs K (ι.take n) (nP (ι.drop n) os H) us vs:=by
 intro f
 induction f with
 |zero=>intro k us a _ e;cases e
 | succ f ih=>
  intro k us a T e X;unfold Co at e;cases z:S[k]? with
  |none=>rw[z]at e;cases e
  |some xs=>
   rw[z]at e;obtain⟨vs,Y,U⟩:=Z.get k a xs X z;exact⟨vs,Y,jl (ih) Z.nd U e⟩
theorem um(Y:Rep K ι H S)(x:Ext ι H ι' H')(Z:Rep K ι' H' S')(O:pL S S')(os:b'->Obj):
  Ext ι H ι (nP (ι'.drop ι.length) os H')/\Rep K ι (nP (ι'.drop ι.length) os H') (S'.take ι.length):=by
 obtain⟨more,rfl⟩:=id x.ids;have Q:(ι++more).take ι.length=ι:=by simp
 refine⟨⟨⟨[],by simp⟩,fun a o h n t=>?_⟩,⟨Y.nd,?_,fun k a xs e1 e2=>?_,Z.tab.mono fun a o h n=>bZ h n⟩⟩
 ·obtain⟨T,R⟩:=x.oth a o h n t;rw[xE (fun z=>R (List.mem_of_mem_drop z))];exact⟨T,n⟩
 ·have:=Z.len;rw[KF, <-this,J5];omega
 ·have U:k<ι.length:=(J2.mp e1).1;rw[LP,if_pos U]at e2;have X:(ι++more)[k]? =ar a:=by rw[Kx U];exact e1
  obtain⟨vs,T,R⟩:=Z.get k a xs X e2;refine⟨vs,?_,?_⟩
  ·rw[xE (fun z=>by have:=(uk Z.nd X).mp z;omega)];exact T
  ·have N:cT ι.length xs=true:=by
    rcases O k xs (by rw[<-Y.len];exact U) e2 with z|z
    ·obtain⟨_,_,P⟩:=Y.get k a xs e1 z;exact P.cl
    ·rw[Y.len];exact z
   have:=RelDs.down (n:=ι.length) (os:=os) R N;rw[Q]at this;exact this
end
section
variable {X:Cx}{E:XD}{e:Expr}{m:TM}{pins:List (b'×Obj)}{σ:L2.St}{H:Hp}{s:c_}
theorem Inv.fz(I:L2.Inv X pins σ H s)(P:List b'):∃os,L2.Inv X pins σ (nP P os H) s:=by
 refine⟨fun a=>(s.heap.get? a).getD {cls:=.none,data:=.fields #[]},?_⟩;have Z:Un X.fs [] H (nP P (fun a=>(s.heap.get? a).getD {cls:=.none,data:=.fields #[]}) H) s.heap s.heap:=
  ⟨fun b o q _ _ _=>q,fun b o q _ _ _=>⟨o.slots,q⟩,fun b o _ n _=>A2 n,fun b o q _=>⟨o,q⟩,fun b xs q=>bZ q (by intro _ z;cases z),fun b o u q=>bZ q (by intro _ z;cases z),fun b Y q=>⟨#[],by rw[bZ q (by intro _ z;cases z)];simp⟩⟩
 refine I.un (t':=s.toks) Z fun b o q=>?_;have st:∀u,H b=ar u->b7 X.prog X.w (nP P (fun a=>(s.heap.get? a).getD {cls:=.none,data:=.fields #[]}) H) s.heap b u:=fun u Z=>
  (I.hok b u Z).stay (fun _ _ _ z=>z) (fun c z=>bZ z (by intro _ z;cases z)) fun c xs z=>bZ z (by intro _ z;cases z)
 unfold nP at q;split at q
 ·next vs hb=>
  split at q
  ·cases q;obtain⟨z,its,n,r,e⟩:=(show b7 X.prog X.w H s.heap b (.lst vs)from I.hok b _ hb);exact⟨by dsimp only;rw[e];rfl,z,its,n,r,e⟩
  ·cases q;exact st _ hb
 ·exact st _ q
theorem ay(h:SE X E e m):SE X E e (aL m):=by
 intro pins s σ H Q I N;obtain⟨Y,S,ρ,rep,re,r,J,G,k⟩:=N;have Z:jE (m ρ) S=ar (r,J):=G;unfold jE at Z;cases q:m ρ S with
 |none=>rw[q]at Z;cases Z
 | some p=>
  obtain⟨C,R⟩:=p;rw[q]at Z;cases C with
  |ex x=>
   cases Z;exact h pins s σ H Q I ⟨Y,S,ρ,rep,re,.ex x,_,q,k⟩
  | ok d=>
   dsimp only at Z;by_cases hl:R.length<=S.length
   ·rw[if_pos hl]at Z;cases Z;exact h pins s σ H Q I ⟨Y,S,ρ,rep,re,.ok d,_,q,k⟩
   ·rw [if_neg hl]at Z;by_cases hk:pL S R
    ·rw [if_pos hk]at Z;cases z:ki S.length (Co R S.length 60) d with
     |none=>rw[z]at Z;cases Z
     | some u=>
      rw[z]at Z;cases Z;refine dY (h pins s σ H (fun v O=>∃P:List b',∀os,Q v (nP P os O)) I ⟨Y,S,ρ,rep,re,.ok d,R,q,fun U O x W v L=>?_⟩) fun uv s' ⟨v,O,I',L,P,hq⟩=>?_
      ·refine⟨U.drop Y.length,fun os=>?_⟩;obtain⟨B,rep2⟩:=um rep x W hk os;have T:Rep X.K Y (nP (U.drop Y.length) os O) (R.take S.length):=by rw[<-rep.len];exact rep2
       have N:U.take Y.length=Y:=by obtain⟨more,rfl⟩:=x.ids;simp
       have rel:RelD X.K Y (nP (U.drop Y.length) os O) u v:=by
        have:=we (n:=Y.length) (os:=os) (fun k us a=>by rw[rep.len];exact xF W 60 k us a) W.nd L (by rw[rep.len];exact z)
        rw[N]at this;exact this
       exact k Y _ B T v rel
      ·obtain⟨os,F⟩:=Inv.fz I' P;exact⟨v,_,F,L,hq os⟩
    ·rw[if_neg hk]at Z;cases Z
end
end S3
namespace S4
open PySem PySem.Spec PyProof.Rows L2 S3
theorem Fq{A:hF}(P:A.handled=none)(W:t≠it)(Z:Array a_):
  Draws prog w A it [it,t] Z.size (fun i v=>Z[i]? =ar v) (fun i h=>h.IsTupleIter it t i/\h.IsTuple t Z) where
 live:=fun _ _ st=>let ⟨⟨o,ho,_⟩,_⟩:=st;⟨o,ho⟩
 frame:=fun _ _ _ st U=>⟨st.1.at fun o e=>U it (by simp) o e,let ⟨o,e,r⟩:=st.2;⟨o,U t (by simp) o e,r⟩⟩
 item:=fun i s Q E T st R=>jh st.1 st.2 (x:=Z[i]) (by simp[T]) fun h' X Y=>R _ h' s.toks (by simp[T]) ⟨X,let ⟨o,e,r⟩:=st.2;⟨o,Y.extBut _ _ W e,r⟩⟩ Y
 done:=fun s Q E st S=>kg P st.1 st.2 (by simp) S
theorem Fs{A:hF}(P:A.handled=none)(W:t≠it)(Z:Array a_):
  Draws prog w A it [it,t] Z.size (fun i v=>Z[i]? =ar v) (fun i h=>h.IsListIter it t i/\h.IsList t Z) where
 live:=fun _ _ st=>let ⟨⟨o,ho,_⟩,_⟩:=st;⟨o,ho⟩
 frame:=fun _ _ _ st U=>⟨st.1.at fun o e=>U it (by simp) o e,let ⟨o,e,r⟩:=st.2;⟨o,U t (by simp) o e,r⟩⟩
 item:=fun i s Q E T st R=>wpAny_nextOf_list_item st.1 st.2 (x:=Z[i]) (by simp[T]) fun h' X Y=>R _ h' s.toks (by simp[T]) ⟨X,let ⟨o,e,r⟩:=st.2;⟨o,Y.extBut _ _ W e,r⟩⟩ Y
 done:=fun s Q E st S=>wpAny_nextOf_list_end P st.1 st.2 (by simp) S
def HR(rd:Hp->List V->Prop):It:=⟨fun i H=>∃va,rd H va/\i<va.length,fun i H x H'=>∃va p v,rd H va/\H p=none/\va[i]? =ar v/\x= .ref p/\H'=upd H p (.tup [.int i,v]),fun i H=>∃va,rd H va/\va.length<=i⟩
theorem rl{P:ed}{w:ee}{K:dt}{N:List Expr}{x1}{tp:Pos}{e it t:b'}(S:e≠it)(r:t≠e)(c3:t≠it){rd:Hp->List V->Prop}{sti:Nat->f_->Prop}{sq:Array a_->f_->Prop}
  (so:∀i h,sti i h->∃o,h.get? it=ar o/\∀v,o.data≠ .cell v) (sk:∀i h h',sti i h->(∀o,h.get? it=ar o->h'.get? it=ar o)->sti i h')
  (J:∀(X:Cx) pins s σ H U,X.prog=P->X.w=w->X.K=K->L2.Inv X pins σ H s->rd H U->∃its:List a_,bw U its/\sq its.toArray s.heap)
  (dr:∀(A:hF) (items:Array a_),A.handled=none->Draws P w A it [it,t] items.size (fun i v=>items[i]? =ar v) (fun i h=>sti i h/\sq items h))
  (dn:∀(A:hF) (items:Array a_) (i:Nat) (s:c_) (Q:a_->c_->Prop) (E:a_->c_->Prop),A.handled=none->sti i s.heap->sq items s.heap->items[i]? =none->
   (∀h' e,Heap.ExtBut it s.heap h'->(∃o,h'.get? e=ar o/\o.cls= .type "StopIteration")->E (.ref e) {s with heap:=h'})->er (ff P w) A (hO (.ref it)) Q E s):
  Turn P w K (.Tuple N x1 tp) (HR rd) [e,it] e (fun i h=>(∃old,IsEnum h e it i old)/\sti i h) where
 mem:=by simp
 obj:=fun i h st b Z=>by
  obtain⟨⟨old,he⟩,hs⟩:=st;simp only[f',e_,or_false]at Z;rcases Z with rfl|rfl
  ·exact⟨_,he,fun v z=>by cases z⟩
  ·exact so i h hs
 keep:=fun i h h' st k=>by
  obtain⟨⟨old,he⟩,hs⟩:=st;exact⟨⟨old,k e (by simp) _ he⟩,sk i h h' hs fun o q=>k it (by simp) o q⟩
 item:=by
  intro X hP hw f m i pins s σ H E I hf st j;subst hP hw f;obtain⟨⟨old,he⟩,hs⟩:=st;obtain⟨U,C,ga⟩:=j;obtain⟨its,B,g⟩:=J X pins s σ H U rfl rfl rfl I C;have hl:=B.length;obtain⟨u1,a4,a6⟩:=B.get (JX ga);have D:=dr X.A.in1 its.toArray (by show X.A.handled=none;exact I.ok.hd m)
  refine wpAny_pyNext_enum_itemD D he ⟨hs,g⟩ (by rw[J8];omega) S (by simp[S,lx r]) fun x h' y hx a n u hz hk=>?_
  have R:x=u1:=by
   have:its[i]? =ar x:=by simpa using hx
   rw[a4]at this;exact(Kl this).symm
  subst R;have p:H s.heap.objs.size=none:=I.hok.fresh (JY _);have lt:∀{c o},s.heap.get? c=ar o->s.heap.objs.size≠c:=fun e=>LQ (J0 e);obtain⟨oi,a3,_⟩:=so i _ hs;refine⟨_,rfl,wpAny_letOwnedTupleGo_enum a fun O G Y=>?_⟩;have kk:∀b o,b∉[e,it]->s.heap.get? b=ar o->O.get? b=ar o:=fun b o Z q=>by
   simp only[f',e_,or_false,not_or]at Z;exact Y.extBut _ _ Z.1 (hk b o Z.1 Z.2 q)
  have L:O.get? s.heap.objs.size=ar {cls:=.type "tuple",data:=.seq #[.int i y,x]}:=Y.extBut _ _ (lt he) u;have I2:L2.Inv X pins σ (upd H s.heap.objs.size (.tup [.int i,U[i]])) {s with heap:=O,toks:=y+1}:=sF (o:=.tup [.int i,U[i]]) I hf kk (JY _) ⟨⟨by show 2<=sizeLine;decide,_,L,rfl⟩,[.int i y,x],.cons ⟨y,rfl⟩ (.cons a6 .nil),_,L,rfl,_,rfl⟩
  refine⟨.ref s.heap.objs.size,_,I2,rfl,⟨U,_,_,C,p,JX ga,rfl,rfl⟩,⟨⟨_,G⟩,sk _ _ _ n.1 fun o q=>(Y.2 it (lx S)).trans q⟩,fun b Z=>?_⟩;obtain⟨ob,d,_⟩:∃ob,s.heap.get? b=ar ob/\True:=by
   simp only[f',e_,or_false]at Z;rcases Z with rfl|rfl
   ·exact⟨_,he,trivial⟩
   ·exact⟨_,a3,trivial⟩
  rw[aM (Kf (J0 d))];exact(hf b Z).1
 done:=by
  intro X hP hw f m i pins s σ H E I hf st j;subst hP hw f;obtain⟨⟨old,he⟩,hs⟩:=st;obtain⟨U,C,ga⟩:=j;obtain⟨its,B,g⟩:=J X pins s σ H U rfl rfl rfl I C;have hl:=B.length;have u:s.TypeIs (.ref e) "enumerate":=⟨_,he,rfl⟩;unfold NI;refine JU (NH (wpAny_callSpecial?_slot (name:=hY "__next__") u F.slot_enumerate_next
   (Lh F.slot_enumerate_next u F.entry_enumerate_next ?_ (F.args_enumerate_next_1 _))))
  show er _ _ (N_ (.ref e) 2>>=_) _ _ _;refine JU (KJ he rfl (x:=.ref it) rfl ?_);refine JU (dn X.A.in1 its.toArray i s _ _ (by show X.A.handled=none;exact I.ok.hd m) hs g (by simp;omega) fun h' x l R=>?_)
  obtain⟨o,d,a5⟩:=R;refine JU (Mr (T:="StopIteration") (b:=b_) ⟨o,d,a5⟩ MR ?_);exact JZ ⟨rfl,sE (t':=s.toks) I hf fun b o Z q=>l b o (fun z=>Z (by simp[z])) q⟩
 self:=fun _ _ _ _ _ st h=>by
  obtain⟨⟨old,he⟩,_⟩:=st;exact M0 he h
theorem uo(l:b')(Z:Array a_):
  OQ (Builtin.«enumerate.__new__» ⟨[.type "enumerate",.ref l],[]⟩) (fun _ R s=>s.heap.IsTuple l Z/\
   R (.ok (.ret (.ref (s.heap.push (Ck l)).objs.size)))
    {s with heap:=(s.heap.push (Ck l)).push {cls:=.type "enumerate",data:=.fields #[.none,.bool dV,.ref s.heap.objs.size,xy 0,.none,.none]}}):=
 .of_wp fun prog w A R s h=>by
  obtain⟨P,g,d,Q,os⟩:=s;obtain⟨U,h⟩:=h;have T:=sub_enumerate;have X:NV (Ob ⟨P,g,d,Q,os⟩) l Z:=U;obtain⟨⟨c,O,S,N⟩,Y,W,n,hd⟩:=U;replace W:c= .type "tuple":=W;replace hd:S= .seq Z n:=hd;subst W hd
  wp_walk using LB Y
  refine wpAny_stack_any fun st=>JZ ?_;split
  ·rename_i c _ _ _ _ _
   cases (c==Oe "enumerate")
   ·wp_walk using LB Y,Lp X
    exact⟨_,rfl,h⟩
   ·wp_walk using LB Y,Lp X
    exact⟨_,rfl,h⟩
  ·wp_walk using LB Y,Lp X
   exact⟨_,rfl,h⟩
section
variable {prog:ed}{w:ee}{A:hF}{E:a_->c_->Prop}{s:c_}
theorem wg{Q:a_->c_->Prop}(Y:s.heap.IsTuple l items)
  (h:∀h',IsEnum h' (s.heap.objs.size+1) s.heap.objs.size 0 .none->h'.IsTupleIter s.heap.objs.size l 0->(∀b o,s.heap.get? b=ar o->h'.get? b=ar o)->Q (.ref (s.heap.objs.size+1)) {s with heap:=h'}):
  er (ff prog w) A (call (.type "enumerate") [.ref l]) Q E s:=by
 refine callType_new F.called_enumerate (by decide) (F.typeCall_enumerate_1 _) (F.newCall_enumerate_1 _) (fun obj=>F.args_object_init_2 obj _) F.entry_enumerate_new (uo l items) ⟨Y,?_⟩
 have Z:(s.heap.push (Ck l)).objs.size=s.heap.objs.size+1:=K3 ..;have g2:=J9 (s.heap.push (Ck l)) (o:={cls:=.type "enumerate",data:=.fields #[.none,.bool dV,.ref s.heap.objs.size,xy 0,.none,.none]}) rfl;have g1:((s.heap.push (Ck l)).push {cls:=.type "enumerate",data:=.fields #[.none,.bool dV,.ref s.heap.objs.size,xy 0,.none,.none]}).get? s.heap.objs.size=ar (Ck l):=JW _ (J9 _ rfl);show _/\_;rw[Z]at g2⊢;exact⟨⟨_,g2,rfl⟩,h _ g2 ⟨_,g1,rfl,rfl⟩ fun b o q=>JW _ (JW _ q)⟩
end
theorem Df{X:Cx}{S:List Expr}{x1}{tp p pos:Pos}{e:Expr}{x:TA}(w:Gl X "enumerate")(r:X.mg "enumerate"=none)(n:PA X [e] x)(hs:eb [e] X.env=[(dV,h_ e X.env)]:=by rfl):
  PI X (.Tuple S x1 tp) (.Call (.Name "enumerate" p) [e] [] pos) (fun σ H R=>x σ H fun xs U=>(∃a Z,xs=[.ref a]/\U a=ar (.tup Z)/\R (HR fun H G=>H a=ar (.tup G)) U)\/
   (∃a Z,xs=[.ref a]/\Rd U a (.lst Z)/\R (HR fun H G=>Rd H a (.lst G)) U)):=by
 intro pins s σ H R I h;refine OP (kF I w r (show la "enumerate"=ar (.type "enumerate") by decide+kernel) (K5 (dY (n pos pins s σ H _ I h) fun us s1 ⟨vs,U,I1,r1,q1⟩=>?_) hs (by rfl)) (by decide) (by decide))
 have fresh:∀c∈[s1.heap.objs.size+1,s1.heap.objs.size],s1.heap.objs.size<=c:=fun c W=>by
  simp only[f',e_,or_false]at W;omega
 rcases q1 with⟨a,Z,rfl,hA,q⟩|⟨a,Z,rfl,hA,q⟩
 ·obtain⟨u,rfl,L⟩:=vals1 r1;cases (show u=gj a from L);obtain⟨O,K,P,_⟩:=I1.tuple (.of hA);have a1:a<s1.heap.objs.size:=by obtain⟨_,e,_⟩:=P;exact J0 e
  refine wg P fun h' T C y=>M0 T ?_;refine⟨s1.heap.objs.size+1,_,_,_,U,rfl,I1.kept (t':=s1.toks) y,rl (e:=s1.heap.objs.size+1) (it:=s1.heap.objs.size) (t:=a) (Nat.succ_ne_self _) (Kf (Li a1)) (Kf a1) (sti:=fun i h=>h.IsTupleIter s1.heap.objs.size a i) (sq:=fun its h=>h.IsTuple a its)
   (fun i h ⟨o,e,c,d⟩=>⟨o,e,fun v z=>by rw[d]at z;cases z⟩) (fun i h h' st k=>st.at k) (fun X pins s σ H Z _ _ _ I N=>let ⟨its,rv,p,_⟩:=I.tuple (.of N);⟨its,rv,p⟩)
   (fun A items Y=>Fq Y (Kf a1) items) (fun A items i s Q E Y J F B k=>kg Y J F B k),⟨⟨_,T⟩,C⟩,fun c W=>I1.fpOk (fresh c W) (I1.hok.fresh (fresh c W)),q⟩
 ·obtain⟨u,rfl,L⟩:=vals1 r1;cases (show u=gj a from L);obtain⟨O,K,P,_⟩:=I1.list (.inl hA);have a1:a<s1.heap.objs.size:=by obtain⟨_,e,_⟩:=P.isList;exact J0 e
  refine call_enumerate_list P.isList fun h' T C m y=>M0 T ?_;refine⟨s1.heap.objs.size+1,_,_,_,U,rfl,I1.kept (t':=s1.toks) y,rl (e:=s1.heap.objs.size+1) (it:=s1.heap.objs.size) (t:=a) (Nat.succ_ne_self _) (Kf (Li a1)) (Kf a1) (sti:=fun i h=>h.IsListIter s1.heap.objs.size a i) (sq:=fun its h=>h.IsList a its)
   (fun i h ⟨o,e,c,d⟩=>⟨o,e,fun v z=>by rw[d]at z;cases z⟩) (fun i h h' st k=>st.at k) (fun X pins s σ H Z _ _ _ I N=>let ⟨its,rv,p,_⟩:=I.list (.inl N);⟨its,rv,p.isList⟩)
   (fun A items Y=>Fs Y (Kf a1) items) (fun A items i s Q E Y J F B k=>wpAny_nextOf_list_end Y J F B k),⟨⟨_,T⟩,C⟩,fun c W=>I1.fpOk (fresh c W) (I1.hok.fresh (fresh c W)),q⟩
def jA(xs:List D):List D:=xs.zipIdx.map fun p=>.tup [.int p.2,p.1]
def D2:D->M Iter
 | .tup xs=>aC ⟨jA xs,.none⟩
 | .fz xs=>aC ⟨jA xs,.none⟩
 |_=>M.fail
theorem A4{xs:List D}{i:Nat}{d:D}(h:(jA xs)[i]? =ar d):∃x,xs[i]? =ar x/\d= .tup [.int i,x]:=by
 unfold jA at h;rw[KG]at h;cases q:xs.zipIdx[i]? with
 |none=>rw[q]at h;cases h
 |some p=>
  rw[q]at h;cases h;rw[List.getElem?_zipIdx]at q;cases z:xs[i]? with
  |none=>rw[z]at q;cases q
  |some x=>rw[z]at q;cases q;exact⟨x,rfl,by simp⟩
theorem nQ{K:dt}{L:List b'}{H:Hp}{xs:List D}{T:Hp->List V->Prop}(R:∀H Y vb,T H Y->T H vb->Y=vb)
  (U:∀Z X S,ExtN L H Z X->Rep K Z X S->∃Y,T X Y/\RelDs K Z X xs Y):iR K ⟨jA xs,.none⟩ (HR T) L H:=by
 intro Z X S e rep2 ok i;obtain⟨Y,Q,O⟩:=U Z X S e rep2;have I:=O.length;refine⟨fun d hd=>?_,fun hlen=>⟨Y,Q,by unfold jA at hlen;simp at hlen;omega⟩⟩
 obtain⟨x,N,rfl⟩:=A4 hd;have G:=(J2.mp N).1;refine⟨⟨Y,Q,by omega⟩,?_⟩
 rintro v H3 ⟨va',p,v1,gA,hp,g1,rfl,rfl⟩;cases R _ _ _ Q gA;obtain⟨v2,e2,J⟩:=O.get' N;obtain rfl:v2=v1:=Kl (e2.symm.trans g1);have P:Ext Z X Z (upd X p (.tup [.int i,v2])):=iD hp;exact⟨P,kb rep2 hp,.tup a7 (.cons (.int _) (.cons (J.later rep2 P) .nil))⟩
theorem sL{X:Cx}{E:XD}{Y:List Expr}{x1}{tp p pos:Pos}{a:Expr}{m:TM}(J:X.mg "enumerate"=none)(G:SE X E a m)(O:Gl X "enumerate":=by rfl)(hs:eb [a] X.env=[(dV,h_ a X.env)]:=by rfl):
  SI X E (.Tuple Y x1 tp) (.Call (.Name "enumerate" p) [a] [] pos) (fun ρ=>do let x<-m ρ;D2 x):=by
 intro pins s σ H R I h;refine Df O J (lj G rS hs) hs pins s σ H R I ?_;obtain⟨L,S,ρ,rep,re,c⟩:=h;refine⟨L,S,ρ,rep,re,ax (ak c) fun d Q S1 F e1 rep1 c1 v r=>?_⟩;show(∃a T,[v]=[V.ref a]/\_)\/_;cases d with
 |tup xs=>
  obtain⟨a,vs,rfl,Z,W⟩:=r.tup_inv;refine .inl ⟨a,vs,rfl,Z,ah c1 .refl rep1 _ (nQ (fun H T N e1 e2=>by rw[e1]at e2;cases e2;rfl) fun U K P e rep2=>?_)⟩
  exact⟨vs,(e.oth _ _ Z (rep1.notIn Z (by intro _ z;cases z)) (by intro _ z;cases z) (by intro _ z;cases z)).1,W.laterN rep1 e⟩
 |fz xs=>
  obtain⟨a,o,vs,rfl,Z,W⟩:=r.fz_inv;refine .inr ⟨a,vs,rfl,.inr ⟨o,Z⟩,ah c1 .refl rep1 _ (nQ (fun H T N e1 e2=>Rd.lst_inj e1 e2) fun U K P e rep2=>?_)⟩;exact⟨vs,.inr ⟨o,(e.oth _ _ Z (rep1.notIn Z (by intro _ z;cases z)) (by intro _ z;cases z) (by intro _ z;cases z)).1⟩,W.laterN rep1 e⟩
 |_=>exact(ao c1).elim
abbrev rm(m:TM):aD->M Iter:=fun ρ=>do let x<-m ρ;D2 x
end S4
namespace S3
open PySem PySem.Spec PyProof.Rows L2
section
variable {X:Cx}{E:XD}{a b e c o tg:Expr}{m n l:TM}{pos p2:Pos}{es:List Expr}{ms:aD->M (List D)}
theorem range_any{bs:List Bool}:(d_ bs.length).any (fun i=>bs.getD i dV)=bs.any id:=by
 induction bs with
 |nil=>rfl
 |cons b bs ih=>
  rw[KD,LL,M7,List.any_map];simp only[u3,ND,id];congr 1
theorem yZ(G:X.calm=b_):eE X (.builtin "any") (fun xs H Q=>∃(p:b') (bs:List Bool),xs=[.ref p]/\jH X.K H p (bs.map V.bl)/\Q (.bl (bs.any id)) H):=by
 intro pins s σ H xs us Q I r h;obtain⟨p,bs,rfl,L,q⟩:=h;obtain⟨u,rfl,C⟩:=vals1 r;cases (show u=gj p from C);obtain⟨its,R,O,z⟩:=I.list L;have T:=O.isList;refine call_any_walk (MV T ?_);have W:p<s.heap.objs.size:=by obtain⟨o,J,_⟩:=T;exact J0 J
 have hlen:=R.length;refine⟨s.heap.objs.size,_,_,_,_,_,fun i=>bs.getD i dV,rfl,Walks.list (A:=X.A.in1) (by show X.A.handled=none;exact I.ok.hd G) s.heap.objs.size p (Kf W) its.toArray,⟨⟨_,J9 _ rfl,rfl,rfl⟩,T.push _⟩,?_,fun h' x N=>?_⟩
 ·intro i v s' B E' F U;have Z:its[i]? =ar v:=by simpa using F
  have y:i<its.length:=(J2.mp Z).1;have Y:i<bs.length:=by rw[JV]at hlen;omega
  have:(bs.map V.bl)[i]? =ar (.bl bs[i]):=by rw[KG,JX Y];rfl
  obtain⟨u,S,P⟩:=R.get this;rw[Z]at S;cases S;cases (show v=v' bs[i]from P);have:bs.getD i dV=bs[i]:=by simp[Ow,Y]
  dsimp only at U;rw[this]at U;exact KZ U
 ·have e1:its.toArray.size=bs.length:=by rw[J8, <-hlen,JV]
  rw[e1,range_any];refine⟨.bl _,H,I.kept (fun b o e=>N b o ?_ (JW _ e)),rfl,q⟩;have:b≠s.heap.objs.size:=Kf (J0 e);simpa using this
def A5:List D->M D
 |[.lst k]=>do
  let xs<-getL k
  match boolsOf xs with
  |some bs=>aC (.bl (bs.any id))
  |none=>M.fail
 |[.fz xs]=>match boolsOf xs with
  |some bs=>aC (.bl (bs.any id))
  |none=>M.fail
 |_=>M.fail
theorem y0:jK X.K E A5 (fun xs H Q=>∃(p:b') (bs:List Bool),xs=[.ref p]/\jH X.K H p (bs.map V.bl)/\Q (.bl (bs.any id)) H):=by
 intro P S H ds vs Q rep r c;unfold A5 at c;split at c
 ·next k=>
  obtain⟨v,ws,rfl,Y,T⟩:=r.cons_inv;cases T.nil_inv;obtain⟨p,rfl,U⟩:=Y.lst_inv;obtain⟨es,us,_,R,W,Z⟩:=bp c rep U;cases q:boolsOf es with
  |none=>rw[q]at Z;exact(ao Z).elim
  |some bs=>
   rw[q]at Z;refine⟨p,bs,rfl,.of ?_,ah Z .refl rep _ (.bl _)⟩;rw[<-fZ W q];exact R
 ·next es=>
  obtain⟨v,ws,rfl,Y,T⟩:=r.cons_inv;cases T.nil_inv;obtain⟨p,o,us,rfl,U,W⟩:=Y.fz_inv;cases q:boolsOf es with
  |none=>rw[q]at c;exact(ao c).elim
  |some bs=>
   rw[q]at c;refine⟨p,bs,rfl,.inl (.inr ⟨o,?_⟩),ah c .refl rep _ (.bl _)⟩;rw[<-fZ W q];exact U
 ·exact(ao c).elim
theorem Ft(U:X.calm=b_)(Y:X.mg "any"=none)(W:SE X E e m)(Z:Gl X "any":=by rfl)(hs:eb [e] X.env=[(dV,h_ e X.env)]:=by rfl):SE X E (.Call (.Name "any" p) [e] [] pos) (bY A5 m):=
 g0 (yZ U) y0 Z Y (by decide+kernel) (af W aq hs) (by decide) (by decide) hs rfl
end
end S3
section
namespace S3
open PySem PySem.Spec PyProof.Rows L2
section
variable {prog:ed}{w:ee}{A:hF}{R:Ox->c_->Prop}{s:c_}
theorem wj
  (Y:vr (ff prog w) A (.compLoop (.ListComp elt [c1,⟨target,iter,ifs,0⟩] scope pos) 1 it acc env) R s)
  (h:er (ff prog w) A (Og it) (fun Z s'=>vr (ff prog w) A (.compLoop (.ListComp elt [c1,⟨target,iter,ifs,0⟩] scope pos) 1 Z acc env) R s')
   (notedBy (ff prog w) A env fun x s'=>R (.error x) s') s):
  vr (ff prog w) A (.compStart (.ListComp elt [c1,⟨target,iter,ifs,0⟩] scope pos) 1 it acc env) R s:=by
 refine codeAny_of_tree ?_;show er _ _ ((compStart (.ListComp elt [c1,⟨target,iter,ifs,0⟩] scope pos) 1 it acc env).onRaise (fun x=>do B_ x env;F_ theWindowsPlace)) _ _ s
 refine wpAny_notedAt ?_;unfold compStart;show er _ _ (ask>>=_) _ _ s;refine JU (wpAny_askSetting (wpAny_ite ?_));split
 ·first
   |exact JU (JZ (JZ (N6 rfl Y)))
   |exact JZ (N6 rfl Y)
 ·first
   |exact JU (Mz (JU (KO (JU (Kq h (fun Z s' h'=>JZ (N6 rfl h')) fun _ _ x=>x)))))
   |(refine JU (Mz ?_);show er _ _ (F_ iter.pos>>=_) _ _ s;exact JU (KO (JU (Kq h (fun Z s' h'=>JZ (N6 rfl h')) fun _ _ x=>x))))
end
abbrev Fu:=St->Hp->(St->Hp->Prop)->Prop
def xG(J:It)(g:TG)(tt:TT)(tb:Fu)(fin:St->Hp->Prop):St->Hp->Prop:=fun σ H=>∃W:Nat->Nat->St->Hp->Prop,(∃m,W 0 m σ H)/\∀i m σc Hc,W i m σc Hc->
  (J.stop i Hc/\fin σc Hc)\/(J.go i Hc/\∃N:St->Hp->Prop,(∀ σ' H',N σ' H'->∃m',m'<m/\W (i+1) m' σ' H')/\∀x H',J.yld i Hc x H'->g x σc H' fun σ2 H2=>tt σ2 H2 fun b H3=>if b=b_ then tb σ2 H3 N else N σ2 H3)
def Jb(X:Cx)(bd:Sem Unit)(tb:Fu):Prop:=∀(pins:List (b'×Obj)) (s:c_) (σ:St) (H:Hp) (N:St->Hp->Prop),Inv X pins σ H s->tb σ H N->∀E,(∀v s',X.xe v s'->E v s')->er (ff X.prog X.w) X.A bd (fun _ s'=>∃ σ' H',Inv X pins σ' H' s'/\N σ' H') E s
def wm(e:Expr)(d:Nat)(ipos:Pos)(tg:Expr)(ifs:List Expr)(it acc:a_)(env:Env)(bd:Sem Unit):Sem Fin:=do
 F_ ipos
 match<-NI it with
 |none=>aC (.done .next)
 | some v=>
  y4 tg it v
  K' tg env v
  let mut ok:=b_
  for c in ifs do
   if ok then ok<-isTrue c env (h_ c env)
  if ok then bd
  NK (.compLoop e d it acc env)
theorem Hj(U S Y T Z:Expr)(W X:List Expr)(scope:Scope)(pos:Pos)(it acc:a_)(env:Env):
  NT (.ListComp U [⟨S,Y,W,0⟩,⟨T,Z,X,0⟩] scope pos) 0 it acc env=wm (.ListComp U [⟨S,Y,W,0⟩,⟨T,Z,X,0⟩] scope pos) 0 Y.pos S W it acc env
  (do let x<-h_ Z env;F_ Z.pos;let x<-hh Z env x;let _<-runOwn (.compStart (.ListComp U [⟨S,Y,W,0⟩,⟨T,Z,X,0⟩] scope pos) 1 (<-z_ [x] (Og x)) acc env) env):=by
 unfold NT wm;simp;rfl
section
variable {X:Cx}{pins:List (b'×Obj)}{σ:St}{H:Hp}{s:c_}
theorem uq{O:Nat->f_->Prop}{P:St->Hp->Prop}{R:Ox->c_->Prop}
  (U:∀v s',X.xe v s'->False) (G:X.calm=b_) (T:Turn X.prog X.w X.K tg J fp it O) (t:PG X tg g) (F:Cf X ifs tt) (q:Jb X bd tb)
  (S:NT (.ListComp elt gens scope pos) d (.ref it) acc X.env=wm (.ListComp elt gens scope pos) d ipos tg ifs (.ref it) acc X.env bd)
  (I:Inv X pins σ H s) (p:O 0 s.heap) (f:∀b∈fp,jC X pins H b) (h:xG J g tt tb P σ H) (Q:∀s' σ' H',Inv X pins σ' H' s'->P σ' H'->R (.ok .next) s'):
  vr (ff X.prog X.w) X.A (.compLoop (.ListComp elt gens scope pos) d (.ref it) acc X.env) R s:=by
 obtain⟨W,⟨m0,B⟩,turn⟩:=h;have Z:∀{H':Hp},(∀b∈fp,H' b=none)->∀b∈fp,jC X pins H' b:=fun y b Y=>⟨y b Y,(f b Y).2⟩;refine codeAny_loop rfl (fun n s'=>∃i σ' H',Inv X pins σ' H' s'/\O i s'.heap/\(∀b∈fp,H' b=none)/\W i n σ' H') ?_ m0 ⟨0,_,_,I,p,fun b Y=>(f b Y).1,B⟩;rintro n s4 ⟨i,σ4,H4,I4,st4,fr4,w4⟩;show er _ X.A ((NT (.ListComp elt gens scope pos) d (.ref it) acc X.env).onRaise (fun x=>do B_ x X.env;theTreesLotGoes x)) _ _ s4
 refine wpAny_noted ?_;rw[S];refine JU (KO (JU ?_));rcases turn i n σ4 H4 w4 with⟨stop,qn⟩|⟨go,N,hN,step⟩
 ·refine Kq (T.done X rfl rfl rfl G i pins s4 σ4 H4 (fun _ _=>False) I4 (Z fr4) st4 stop) (fun r s5 ⟨hr,I5⟩=>?_) fun _ _ z=>z.elim;subst hr;exact JZ (Q s5 σ4 H4 I5 qn)
 ·refine Kq (T.item X rfl rfl rfl G i pins s4 σ4 H4 (fun _ _=>False) I4 (Z fr4) st4 go) (fun r s5 ⟨u,hr,h5⟩=>?_) fun _ _ z=>z.elim;subst hr;refine JU (Kq h5 (fun _ s6 ⟨x,H6,I6,r6,y6,st6,fr6⟩=>?_) fun _ _ z=>z.elim);have L:=I6.pinned (Z fr6) (T.obj _ _ st6);refine JU (Kq (t _ s6 σ4 H6 x u _ L r6 (step x H6 y6)) (fun _ s7 ⟨σ7,H7,I7,q7⟩=>?_) fun _ _ z=>(U _ _ z).elim);refine JU (Kq (F _ s7 σ7 H7 _ I7 q7) (fun b s8 ⟨H8,I8,q8⟩=>?_) fun _ _ z=>(U _ _ z).elim);have NK:∀{σ9:St} {H9:Hp} {s9:c_},Inv X (pins++mE fp s6.heap) σ9 H9 s9->N σ9 H9->
    ∃m,m<n/\∃i σ' H',Inv X pins σ' H' s9/\O i s9.heap/\(∀b∈fp,H' b=none)/\W i m σ' H':=fun{σ9 H9 s9} I9 n9=>by
   obtain⟨C,hm,E⟩:=hN σ9 H9 n9;refine⟨C,hm,i+1,σ9,H9,I9.unpinned,T.keep _ _ _ st6 fun b Y o e=>(I9.pin (b,o) (Ko _ (Ko _ (fM Y e)))).1,fun b Y=>?_,E⟩;obtain⟨o,e,d⟩:=T.obj _ _ st6 b Y;exact(I9.pin (b,o) (Ko _ (Ko _ (fM Y e)))).2.1
  cases b with
  |false=>exact JZ ⟨rfl,NK I8 q8⟩
  |true=>exact JU (Kq (q _ s8 σ7 H8 N I8 q8 (fun _ _=>False) fun _ _ z=>(U _ _ z).elim) (fun _ s9 ⟨σ9,H9,I9,q9⟩=>JZ ⟨rfl,NK I9 q9⟩) fun _ _ z=>z.elim)
def y7(p:b')(te:TE):Fu:=fun σ H N=>te σ H fun y H4=>∃xs,H4 p=ar (.lst xs)/\xs.length<sizeLine/\N σ (upd H4 p (.lst (xs++[y])))
theorem Dg(T:PE X elt te):Jb X (do let _<-call (.builtin "list.append") [.ref p, <-h_ elt X.env]) (y7 p te):=by
 intro pins s σ H N I h E Y;refine JU (Kq (T _ s σ H _ I h) (fun y s9 ⟨yv,H9,I9,r9,q9⟩=>?_) Y);obtain⟨xs,Z,W,U⟩:=q9;refine JU (Kq (mH (X:=X) _ s9 σ H9 (.ref p) [yv] (.ref p) [y] (fun _ S=>N σ S) I9 rfl (.cons r9 .nil) ⟨p,xs,yv,rfl,rfl,Z,W,U⟩) (fun _ s10 ⟨_,H10,I10,_,q10⟩=>?_) Y);exact JZ ⟨σ,H10,I10,q10⟩
def HS(wi:TI)(g:TG)(tt:TT)(tb:Fu):Fu:=fun σ H N=>wi σ H fun J H1=>xG J g tt tb N σ H1
theorem Fv(U:∀v s',X.xe v s'->False)(F:X.calm=b_)(G:PI X tg iter wi)(y:PG X tg g)(B:Cf X ifs tt)(Q:PE X elt te)
  (hs:∀x,hh iter X.env x=aC x):
  Jb X (do let x<-h_ iter X.env;F_ iter.pos;let x<-hh iter X.env x;let _<-runOwn (.compStart (.ListComp elt [c1,⟨tg,iter,ifs,0⟩] scope pos) 1 (<-z_ [x] (Og x)) (.ref p) X.env) X.env) (HS wi g tt (y7 p te)):=by
 intro pins s σ H N I h E S;refine JU (Kq (G pins s σ H _ I h) (fun v s1 L=>?_) S);refine JU (KO (JU (wpAny_of_eq (hs v) (JU (Ld (Kq L (fun P s2 K=>?_) S))))));obtain⟨it,q,u,J,t,e,R,T,Y,f2,O⟩:=K;subst e;have loop:vr (ff X.prog X.w) X.A (.compLoop (.ListComp elt [c1,⟨tg,iter,ifs,0⟩] scope pos) 1 (.ref it) (.ref p) X.env) (fun r s'=>match r with| .ok f=>er (ff X.prog X.w) X.A (aC ()) (fun _ s'=>∃Z W,Inv X pins Z W s'/\N Z W) E s'| .error e=>cameBackBy (ff X.prog X.w) X.A X.env E e s') s2:=
  uq (ipos:=iter.pos) U F T y B (Dg Q) (by rfl) R Y f2 O fun s' Z W C z=>JZ ⟨Z,W,C,z⟩
 exact JU (wpAny_runOwn (wj loop (T.self _ 0 _ _ _ Y loop)))
end
end S3
namespace S3
open PySem PySem.Spec PyProof.Rows L2
def A6(wi:TI)(js:List (Option Nat))(g:TG)(tt:TT)(tb:b'->Fu):TE:=fun σ H Q=>wi σ H fun J H1=>∀p,H1 p=none->xG J g tt (tb p) (fun _ H'=>Q (.ref p) H') (mL js σ) (upd H1 p (.lst []))
section
variable {X:Cx}{scope:Scope}{Nc:List Str}{js:List (Option Nat)}{pins:List (b'×Obj)}{σ:St}{H:Hp}{s:c_}
theorem A7(c:CompScope X scope Nc js)(hc:X.calm=b_)(hi:PI X tg iter wi)
  (j:∀C ex s H,PG (aW X scope Nc C ex s H) tg g/\Cf (aW X scope Nc C ex s H) ifs tt/\PI (aW X scope Nc C ex s H) tg2 iter2 wi2/\PG (aW X scope Nc C ex s H) tg2 g2/\Cf (aW X scope Nc C ex s H) ifs2 tt2/\PE (aW X scope Nc C ex s H) elt te)
  (hs:∀x,hh iter X.env x=aC x:=by intro _;rfl) (i:∀env x,hh iter2 env x=aC x:=by intro _ _;rfl):
  PE X (.ListComp elt [⟨tg,iter,ifs,0⟩,⟨tg2,iter2,ifs2,0⟩] scope pos) (A6 wi js g tt fun p=>HS wi2 g2 tt2 (y7 p te)):=by
 intro pins s σ H Q I h;rw[eval_ListComp];refine wpAny_comprehension_free rfl hs (lA scope X.env (c.has I.ok)) c.kind c.loc (dY (hi pins s σ H _ I h) fun v s1 O=>dY O fun b1 s2 h2=>?_);obtain⟨it,U,tn,J,W,e,I2,T,N,f2,y⟩:=h2;subst e;refine K1 (qY fun O P R S=>?_);dsimp only at P R S⊢;have y:=y s2.heap.objs.size (I2.hok.fresh (JY _));have E:Inv X pins σ (upd W s2.heap.objs.size (.lst [])) {s2 with heap:=s2.heap.push {cls:=.type "list",dict:=none,data:=.seq ([]:List a_).toArray}}:=
  I2.laid (t':=s2.toks) (fun _ _ q=>JW _ q) (JY _) ⟨Ku _,[],0,.nil,J9 _ rfl⟩
 generalize hS3:({s2 with heap:=s2.heap.push {cls:=.type "list",dict:=none,data:=.seq ([]:List a_).toArray}}:c_)=s3 at E;have t:s3.heap=s2.heap.push {cls:=.type "list",dict:=none,data:=.seq ([]:List a_).toArray}:=by rw[<-hS3]
 rw[<-t]at P R S⊢;generalize hp:s2.heap.objs.size=p at*;have F:∀b∈U,b<p:=fun b Z=>by
  obtain⟨o,e,_⟩:=T.obj _ _ N b Z;rw[<-hp];exact J0 e
 have l:∀b∈U,b≠p:=fun b Z=>Kf (F b Z);have B:∀b∈U,jC X pins (upd W p (.lst [])) b:=fun b Z=>⟨by rw[aM (l b Z)];exact(f2 b Z).1,(f2 b Z).2⟩
 have G:s3.heap.objs.size=p+1:=by rw[t,K3,hp]
 have L:∀b∈U,b<s3.heap.objs.size:=fun b Z=>by rw[G];exact Li (F b Z)
 have Y:∀b o,s3.heap.get? b=ar o->O.get? b=ar o:=R;have n:tn 0 O:=T.keep _ _ _ N fun b Z o e=>Y b o (by rw[t];exact JW _ e)
 generalize hC:s3.heap.objs.size=C at*;have k:O.Ns C (fun _=>none):=by simpa using P
 have start:∀tk,Inv (aW X scope Nc C U s3 (upd W p (.lst []))) [] (mL js σ) (upd W p (.lst [])) {s3 with heap:=O,toks:=tk}:=fun tk=>pj c E B (fun b Z=>by rw[hC];exact L b Z) hC.symm k Y S
 have ok:=(start 0).ok;have K:∀b∈U,jC (aW X scope Nc C U s3 (upd W p (.lst []))) [] (upd W p (.lst [])) b:=fun b Z=>
  ⟨(B b Z).1,(ok.exf b Z).1,ok.exfs b Z,.inl Z,(ok.exf b Z).2,fun _ z=>nomatch z⟩
 obtain⟨hG,hT,f,u,d,hE⟩:=j C U s3 (upd W p (.lst []));have loop:∀s':c_,Inv (aW X scope Nc C U s3 (upd W p (.lst []))) [] (mL js σ) (upd W p (.lst [])) s'->tn 0 s'.heap->
   vr (ff X.prog X.w) X.A (.compLoop (.ListComp elt [⟨tg,iter,ifs,0⟩,⟨tg2,iter2,ifs2,0⟩] scope pos) 0 (.ref it) (.ref p) (aW X scope Nc C U s3 (upd W p (.lst []))).env) (OC (ff X.prog X.w) X.A X.xe none (EP X pins σ Q) (.ref p) C) s':=by
  intro s' I' r;refine uq (X:=aW X scope Nc C U s3 (upd W p (.lst []))) (ipos:=iter.pos) (fun _ _ z=>z) hc T hG hT (Fv (c1:=⟨tg,iter,ifs,0⟩) (scope:=scope) (pos:=pos) (fun _ _ z=>z) hc f u d hE (i _)) (Hj ..) I' r K y fun s5 c2 H5 I5 q5=>?_;obtain⟨m,hm,_⟩:=I5.loc;exact⟨m,hm,fun h2 a=>⟨.ref p,H5,tU E hC.symm B I5 a,rfl,q5⟩⟩
 refine codeAny_compStart_list (loop _ ?_ ?_) (T.self _ 0 _ _ _ ?_ (loop _ ?_ ?_))
 all_goals first
  |exact n
  |(subst hS3;exact start _)
end
end S3
end
namespace S3
open PySem PySem.Spec PyProof.Rows L2
abbrev BM:=aD->M (List D×aD)
def cB(it:Iter)(g:ky)(t:aD->M Bool)(bd:BM):List D->aD->M (List D×aD)
 |[],ρ=>do gG it;aC ([],ρ)
 | d::ds,ρ=>do
  gG it
  let ρ1<-g d ρ;let b<-t ρ1
  if b=b_ then do
   let x<-bd ρ1;let y<-cB it g t bd ds x.2
   aC (x.1++y.1,y.2)
  else cB it g t bd ds ρ1
def y8(m:TM):BM:=fun ρ=>do let y<-m ρ;aC ([y],ρ)
def Fw(mi:aD->M Iter)(g:ky)(t:aD->M Bool)(m:TM):BM:=fun ρ=>do let it<-mi ρ;if it.items.length<=3000 then cB it g t (y8 m) it.items ρ else M.fail
abbrev m3(mi:aD->M Iter)(g:ky)(t:aD->M Bool)(mi2:aD->M Iter)(g2:ky)(t2:aD->M Bool)(m:TM)(js:List (Option Nat)):TM:=fun ρ=>do
 let it<-mi ρ;let x<-(if it.items.length<=3000 then cB it g t (Fw mi2 g2 t2 m) it.items (gh js ρ)else M.fail)
 bD x.1
section
variable {K:dt}{p:b'}{Q:D->List b'->aE->Hp->Prop}
structure MkL(K:dt)(p:b')(ι:List b')(S:aE)(ρ:aD)(σ:St)(H:Hp)(xs:List D):Prop where
 rep:Rep K ι (dg H p) S
 re:RelE K ι (dg H p) ρ σ
 lst:∃vs,H p=ar (.lst vs)/\RelDs K ι (dg H p) xs vs
 out:p∉ι
abbrev KM:=List D->aD->M D
def A8(K:dt)(p:b')(Q:D->List b'->aE->Hp->Prop)(B:Nat)(bd:BM)(tb:Fu):Prop:=
 ∀ ι S ρ σ H xs (k:KM) (N:St->Hp->Prop) (n:Nat),MkL K p ι S ρ σ H xs->xs.length<=n->n+B<=lim->cont K cw (bd ρ>>=fun x=>k (xs++x.1) x.2) ι S (dg H p) Q->
  (∀ ι' S' ρ' σ' H' xs',MkL K p ι' S' ρ' σ' H' xs'->xs'.length<=n+B->Ext ι (dg H p) ι' (dg H' p)->cont K cw (k xs' ρ') ι' S' (dg H' p) Q->N σ' H')->tb σ H N
theorem Fx:A8 K p Q 1 (y8 m) (y7 p (tM K cw m)):=by
 intro X S ρ σ H xs k N n mk J L c T;obtain⟨vs,P,O⟩:=mk.lst;have R:cont K cw (m ρ>>=fun y=>k (xs++[y]) ρ) X S (dg H p) Q:=by
  have:(y8 m ρ>>=fun x=>k (xs++x.1) x.2)=(m ρ>>=fun y=>k (xs++[y]) ρ):=by
   show((m ρ>>=fun y=>aC ([y],ρ))>>=_)=_;rw[fu];rfl
  rw[<-this];exact c
 refine⟨X,S,ρ,mk.rep.unhide,mk.re.unhide,ax (fO (E:=cw) (ak R) P mk.out) fun y ι6 S6 H6 e6 rep6 ⟨hp6,hn6,c7⟩ yv ry=>?_⟩;have Y:Ext X (dg H p) ι6 (dg H6 p):=e6.hide;have Z:=O.later mk.rep Y;have U:vs.length<sizeLine:=by rw[<-Z.length];exact ML (by omega) An
 refine⟨vs,hp6,U,T ι6 S6 ρ σ _ (xs++[y]) ⟨?_,?_,⟨vs++[yv],a7,?_⟩,hn6⟩ (by simp;omega) ?_ ?_⟩
 ·rw[dZ];exact rep6.hide hp6 hn6
 ·rw[dZ];exact(mk.re.unhide.later mk.rep.unhide e6).hide hp6
 ·rw[dZ];exact Z.append (.cons (ry.hide hp6) .nil)
 ·rw[dZ];exact Y
 ·rw[dZ];exact c7
theorem ur{k:KM}{C:St->Hp->Prop}(d:iR K it J ι1 H1)(hB:A8 K p Q B bd tb)
  (mk:MkL K p ι S ρ σ H xs) (e1:∀ ι2 Y,Ext ι (dg H p) ι2 (dg Y p)->ExtN ι1 H1 ι2 Y) (hl:xs.length<=n) (hn:n+it.items.length*B<=lim) (c:cont K cw (cB it g t bd it.items ρ>>=fun x=>k (xs++x.1) x.2) ι S (dg H p) Q)
  (hf:∀ ι' S' ρ' X U xs',MkL K p ι' S' ρ' X U xs'->xs'.length<=n+it.items.length*B->Ext ι (dg H p) ι' (dg U p)->cont K cw (k xs' ρ') ι' S' (dg U p) Q->C X U):
  xG J (zR K cw g) (vI K cw t) tb C σ H:=by
 refine⟨fun i m O Y=>∃ ι2 S2 ρ2 xs2,m=it.items.length - i/\i<=it.items.length/\MkL K p ι2 S2 ρ2 O Y xs2/\xs2.length<=n+i*B/\Ext ι (dg H p) ι2 (dg Y p)/\
  cont K cw (cB it g t bd (it.items.drop i) ρ2>>=fun x=>k (xs2++x.1) x.2) ι2 S2 (dg Y p) Q,⟨_,ι,S,ρ,xs,rfl,Ku _,mk,by omega,.refl,c⟩,?_⟩
 rintro i m O Y ⟨ι2,S2,ρ2,xs2,hm,hi',mk2,hl2,e2,c2⟩;by_cases hlt:i<it.items.length
 ·have hd:it.items.drop i=it.items[i]::it.items.drop (i+1):=LX hlt;rw[hd]at c2;have P:cont K cw (gG it>>=fun _=>g it.items[i] ρ2>>=fun Z=>t Z>>=fun b=>if b=b_ then bd Z>>=fun x=>(cB it g t bd (it.items.drop (i+1)) x.2>>=fun y=>k (xs2++x.1++y.1) y.2)else cB it g t bd (it.items.drop (i+1)) Z>>=fun x=>k (xs2++x.1) x.2) ι2 S2 (dg Y p) Q:=by
   have:(cB it g t bd (it.items[i]::it.items.drop (i+1)) ρ2>>=fun x=>k (xs2++x.1) x.2)=(gG it>>=fun _=>g it.items[i] ρ2>>=fun Z=>t Z>>=fun b=>if b=b_ then bd Z>>=fun x=>(cB it g t bd (it.items.drop (i+1)) x.2>>=fun y=>k (xs2++x.1++y.1) y.2)else cB it g t bd (it.items.drop (i+1)) Z>>=fun x=>k (xs2++x.1) x.2):=by
    show((gG it>>=fun _=>g it.items[i] ρ2>>=fun Z=>t Z>>=fun b=>if b=b_ then bd Z>>=fun x=>cB it g t bd (it.items.drop (i+1)) x.2>>=fun y=>aC (x.1++y.1,y.2)else cB it g t bd (it.items.drop (i+1)) Z)>>=fun x=>k (xs2++x.1) x.2)=_;simp only[fu,xu,aj,List.append_assoc]
   rw[<-this];exact c2
  obtain⟨ok,A⟩:=i7 P mk2.rep;obtain⟨o,a3⟩:=d ι2 Y S2 (e1 _ _ e2) mk2.rep.unhide ok i;obtain⟨go,yl⟩:=o it.items[i] (JX hlt);have L:n+i*B+B<=lim:=by
   have:(i+1)*B<=it.items.length*B:=Nat.mul_le_mul_right _ hlt;rw[MO]at this;omega
  refine .inr ⟨go,fun X U=>∃ ι3 S3 ρ3 xs3,MkL K p ι3 S3 ρ3 X U xs3/\xs3.length<=n+(i+1)*B/\Ext ι (dg H p) ι3 (dg U p)/\cont K cw (cB it g t bd (it.items.drop (i+1)) ρ3>>=fun x=>k (xs3++x.1) x.2) ι3 S3 (dg U p) Q,?_,fun x a hy=>?_⟩
  ·rintro X U ⟨ι3,S3,ρ3,xs3,h1,h2,h3,h4⟩;exact⟨_,by omega,ι3,S3,ρ3,xs3,rfl,hlt,h1,h2,h3,h4⟩
  ·obtain⟨q,rep3,rd⟩:=yl x a hy;obtain⟨vs,w,rx⟩:=mk2.lst;have F:=mk2.out;obtain⟨r,_⟩:=q.oth p _ w F (by intro _ z;cases z)
   have G:Ext ι2 (dg Y p) ι2 (dg a p):=q.hide;have c4:=ak (jf A G);refine⟨ι2,S2,ρ2,it.items[i],rep3,mk2.re.unhide.later mk2.rep.unhide q,rd,ax (fO (E:=cw) c4 r F) fun ρ4 ι4 S4 H4 e4 rep4 ⟨hp4,hn4,c5⟩ σ4 re4=>?_⟩;have u:Rep K ι4 (dg H4 p) S4:=rep4.hide hp4 hn4;have f:Ext ι2 (dg Y p) ι4 (dg H4 p):=G.trans e4.hide;refine⟨ι4,S4,ρ4,rep4,re4,ax (fO (E:=cw) (ak c5) hp4 hn4) fun b ι5 S5 H5 e5 rep5 ⟨hp5,hn5,c6⟩=>?_⟩;have T:Rep K ι5 (dg H5 p) S5:=rep5.hide hp5 hn5;have N:Ext ι2 (dg Y p) ι5 (dg H5 p):=f.trans e5.hide;have h:RelE K ι5 H5 ρ4 σ4:=re4.later rep4 e5;have I:MkL K p ι5 S5 ρ4 σ4 H5 xs2:=⟨T,h.hide hp5,⟨vs,hp5,rx.later mk2.rep N⟩,hn5⟩;cases b with
   |false=>
    have R:cont K cw (cB it g t bd (it.items.drop (i+1)) ρ4>>=fun x=>k (xs2++x.1) x.2) ι5 S5 (dg H5 p) Q:=c6;exact⟨ι5,S5,ρ4,xs2,I,by rw[MO];omega,e2.trans N,R⟩
   |true=>
    have R:cont K cw (bd ρ4>>=fun x=>(fun ys ρ'=>cB it g t bd (it.items.drop (i+1)) ρ'>>=fun y=>k (ys++y.1) y.2) (xs2++x.1) x.2) ι5 S5 (dg H5 p) Q:=c6;refine hB ι5 S5 ρ4 σ4 H5 xs2 (fun ys ρ'=>cB it g t bd (it.items.drop (i+1)) ρ'>>=fun y=>k (ys++y.1) y.2) _ (n+i*B) I hl2 L R fun v S6 e b2 H6 j s b5 e6 c7=>?_;exact⟨v,S6,e,j,s,by rw[MO];omega,e2.trans (N.trans e6),c7⟩
 ·have hd:it.items.drop i=[]:=Mh (by omega)
  rw[hd]at c2;have P:cont K cw (gG it>>=fun _=>k (xs2++[]) ρ2) ι2 S2 (dg Y p) Q:=by
   have:(cB it g t bd [] ρ2>>=fun x=>k (xs2++x.1) x.2)=(gG it>>=fun _=>k (xs2++[]) ρ2):=by
    show((gG it>>=fun _=>aC ([],ρ2))>>=fun x=>k (xs2++x.1) x.2)=_;simp only[fu,aj]
   rw[<-this];exact c2
  obtain⟨ok,A⟩:=i7 P mk2.rep;rw[KS]at A;have l:i=it.items.length:=by omega
  refine .inl ⟨(d ι2 Y S2 (e1 _ _ e2) mk2.rep.unhide ok i).2 (by omega),?_⟩
  exact hf ι2 S2 ρ2 O Y xs2 mk2 (by rw[<-l];exact hl2) e2 A
theorem Ext.unhideP{H:Hp}(e:Ext ι (dg H p) ι' (dg H' p))(X:H p=ar (.lst ws)):ExtN ι H ι' H':=
 ⟨e.ids,fun a o h n t l=>by
  have Z:a≠p:=fun z=>by subst z;rw[X]at h;exact l ws (Kl h).symm
  obtain⟨Y,U⟩:=e.oth a o (by rw[hide_ne Z];exact h) n t
  exact⟨(cD Y).2,U⟩⟩
theorem Hk:A8 K p Q 3000 (Fw mi g t m) (HS (Gd K cw mi) (zR K cw g) (vI K cw t) (y7 p (tM K cw m))):=by
 intro U S ρ σ H xs k N n mk F w c O;obtain⟨vs,B,y⟩:=mk.lst;have L:cont K cw (mi ρ>>=fun it=>(if it.items.length<=3000 then cB it g t (y8 m) it.items ρ else M.fail)>>=fun x=>k (xs++x.1) x.2) U S (dg H p) Q:=by
  have:(Fw mi g t m ρ>>=fun x=>k (xs++x.1) x.2)=(mi ρ>>=fun it=>(if it.items.length<=3000 then cB it g t (y8 m) it.items ρ else M.fail)>>=fun x=>k (xs++x.1) x.2):=by
   show((mi ρ>>=fun it=>_)>>=_)=_;rw[fu]
  rw[<-this];exact c
 refine⟨U,S,ρ,mk.rep.unhide,mk.re.unhide,ax (fO (E:=cw) (ak L) B mk.out) fun it ι1 S1 H1 e1 rep1 ⟨hp1,hn1,c1⟩ J hJ=>?_⟩;have Z:Ext U (dg H p) ι1 (dg H1 p):=e1.hide;have X:MkL K p ι1 S1 ρ σ H1 xs:=⟨rep1.hide hp1 hn1,(mk.re.unhide.later mk.rep.unhide e1).hide hp1,⟨vs,hp1,y.later mk.rep Z⟩,hn1⟩;by_cases h:it.items.length<=3000
 ·rw[if_pos h]at c1;exact ur (k:=k) hJ Fx X (fun A v e=>e.unhideP hp1) F (by omega) c1 fun T I ρ' R C Y mk' G z P=>O T I ρ' R C Y mk' (by omega) (Z.trans z) P
 ·rw[if_neg h]at c1;exact(ao (ak c1)).elim
section
variable {X:Cx}{scope:Scope}{Nc:List Str}{js:List (Option Nat)}{elt tg iter tg2 iter2:Expr}{ifs ifs2:List Expr}{pos:Pos}{mi mi2:aD->M Iter}{g g2:ky}{t t2:aD->M Bool}{m:TM}
theorem y9{R:St}{H:Hp}{Q:VK}(h:tM X.K cw (m3 mi g t mi2 g2 t2 m js) R H Q):
  A6 (Gd X.K cw mi) js (zR X.K cw g) (vI X.K cw t) (fun p=>HS (Gd X.K cw mi2) (zR X.K cw g2) (vI X.K cw t2) (y7 p (tM X.K cw m))) R H Q:=by
 obtain⟨I,S,ρ,rep,re,c⟩:=h;refine⟨I,S,ρ,rep,re,ax (ak c) fun it P S1 T e1 rep1 c1 J O p U=>?_⟩;by_cases hl:it.items.length<=3000
 ·rw[if_pos hl]at c1;have Z:dg (upd T p (.lst [])) p=T:=by rw[dZ,g6 U]
  refine ur (K:=X.K) (p:=p) (Q:=lC X.K Q) (n:=0) (xs:=[]) (k:=fun xs _=>bD xs) (S:=S1) (ρ:=gh js ρ) O Hk ⟨by rw[Z];exact rep1,by rw[Z];exact(re.later rep e1).blk js,⟨[],a7,by rw[Z];exact .nil⟩,rep1.free U⟩
   (fun C A e=>by rw[Z]at e;exact e.unhide.n) (Ku _) (by unfold lim;omega) (by rw[Z];exact c1) fun E z ρ' L y G mk' N x F=>?_
  obtain⟨vs,Y,B⟩:=mk'.lst;have:=(bE F mk'.rep B).2 p kc;rw[tY Y]at this;exact this
 ·rw[if_neg hl]at c1;exact(ao (ak c1)).elim
theorem A9(c:CompScope X scope Nc js)(T:X.calm=b_)(U:SI X cw tg iter mi)
  (Y:∀C ex s H,SG (aW X scope Nc C ex s H) cw tg g/\E2 (aW X scope Nc C ex s H) cw ifs t/\SI (aW X scope Nc C ex s H) cw tg2 iter2 mi2/\SG (aW X scope Nc C ex s H) cw tg2 g2/\E2 (aW X scope Nc C ex s H) cw ifs2 t2/\SE (aW X scope Nc C ex s H) cw elt m)
  (hs:∀x,hh iter X.env x=aC x:=by intro _;rfl) (Z:∀env x,hh iter2 env x=aC x:=by intro _ _;rfl):
  SE X cw (.ListComp elt [⟨tg,iter,ifs,0⟩,⟨tg2,iter2,ifs2,0⟩] scope pos) (m3 mi g t mi2 g2 t2 m js):=
 PE.imp (A7 (wi2:=Gd X.K cw mi2) (g:=zR X.K cw g) (tt:=vI X.K cw t) (g2:=zR X.K cw g2) (tt2:=vI X.K cw t2) (te:=tM X.K cw m) c T U Y hs Z) fun _ _ _ q=>y9 q
end
end
end S3
namespace S7
open PySem PySem.Spec PyProof.Rows L2 S3
section
open Sem (wp)
section
variable {prog:ed}{w:ee}{A:hF}{E:a_->c_->Prop}{h:f_}{g:Array M'}{d:Drawn}{t:Nat}{os:Nw}
variable {nm q:Str}{C N:b'}{bs bm bmB:List a_}{hdct:Bool}{sn:List Str}{sub:List a_}{ab:Bool}{col:Option Bool}{dd:Option b'}{k0 k1 k2 k3 k5:Option a_}{B Bn newId nid initId inN:String}{bmN:List a_}
theorem om(K:x' Bn newId inN bmN)(S:bmB.contains (.type Bn)=b_)(F:x' B nid initId bmB)(T:Od h bmB bm){mN:Str->Option a_}{rest:List a_}{fI:b'}{oI:Obj}{Q:Fin->c_->Prop}
  (U:h.get? C=ar (w_ nm q C N bs bm hdct sn sub ab col dd k0 k1 k2 k3 k5 newId)) (H:h.Ns N mN) (y:mN "__init__"=ar (.ref fI)) (P:h.get? fI=ar oI) (O:oI.cls= .type "function")
  (z:∀h' e,Nt h h' e (.ref C) rest->
   er (ff prog w) A (call (.ref fI) (.ref e::rest)) (fun r s'=>r= .none/\Q (.done (.ret (.ref e))) s') E ⟨h',g,d,t,os⟩) (hrest:rest.length<=sizeLine:=by size_fits):
  er (ff prog w) A (Builtin.«type.__call__» ⟨.ref C::rest,[]⟩) Q E ⟨h,g,d,t,os⟩:=by
 repeat (first|with_reducible refine LS U ?_ |with_reducible refine wpAny_madeBy_exc U ?_ |wp_step)
 refine codeAny_call_builtin_code (Code.quiet_builtin _ K.quiet) (wpAny_check_new_subU K S T U ?_);refine codeAny_exc_new_subU K S F T U ?_ hrest;show er _ _ _ _ _ _;have Z:=JW {cls:=.ref C,data:=.fields #[.ref h.objs.size,.none,.none,.none,.bool dV,.none]}
  (JW {cls:=.type "tuple",data:=.seq rest.toArray} U)
 have Y:=JW {cls:=.ref C,data:=.fields #[.ref h.objs.size,.none,.none,.none,.bool dV,.none]}
  (JW {cls:=.type "tuple",data:=.seq rest.toArray} P)
 have W:((h.push {cls:=.type "tuple",data:=.seq rest.toArray}).push {cls:=.ref C,data:=.fields #[.ref h.objs.size,.none,.none,.none,.bool dV,.none]}).Ns N mN:=
  let ⟨o,es,ep,e,r⟩:=H;⟨o,es,ep,JW _ (JW _ e),r⟩
 have X:((h.push {cls:=.type "tuple",data:=.seq rest.toArray}).push
   {cls:=.ref C,data:=.fields #[.ref h.objs.size,.none,.none,.none,.bool dV,.none]}).get? (h.objs.size+1)=ar
   {cls:=.ref C,data:=.fields #[.ref h.objs.size,.none,.none,.none,.bool dV,.none]}:=by heap_get
 have L:(gj C::bm).contains (.ref C)=true:=by simp
 have R:=T.keeps (h':=(h.push {cls:=.type "tuple",data:=.seq rest.toArray}).push {cls:=.ref C,data:=.fields #[.ref h.objs.size,.none,.none,.none,.bool dV,.none]})
  fun b o e=>JW _ (JW _ e)
 unfold On
 repeat (first|with_reducible refine LS X ?_ |(with_reducible refine wpAny_isSubtype_exc Z ?_;rw[L])|wp_step)
 show er _ _ (typeLookup (.ref C) _) _ _ _;refine wpAny_typeLookup_tail Z W R F.mroIs F.init.lookup ?_;rw[y];refine Ld (JU ?_);unfold bindSpecial;refine JU (Nh (T:="function") ⟨_,Y,O⟩ ?_);rw[if_pos (by decide)]
 refine JZ (JU (Kq (z _ (h.objs.size+1) ⟨fun b o I=>JW _ (JW _ I),KP (LR _),h.objs.size,X,KP (JY _),?_⟩) (fun r s' J=>?_) fun _ _ x=>x))
 ·exact JW _ (Heap.get?_push_at rfl rfl)
 ·obtain⟨rfl,G⟩:=J
  wp_walk
  exact G
theorem wo(P:x' Bn newId inN bmN)(W:bmB.contains (.type Bn)=b_)(F:x' B nid initId bmB)(T:Od h bmB bm){mN:Str->Option a_}{rest:List a_}{fI:b'}{oI:Obj}{Q:a_->c_->Prop}
  (Z:h.get? C=ar (w_ nm q C N bs bm hdct sn sub ab col dd k0 k1 k2 k3 k5 newId)) (U:h.Ns N mN) (R:mN "__init__"=ar (.ref fI)) (Y:h.get? fI=ar oI) (X:oI.cls= .type "function")
  (S:∀h' e,Nt h h' e (.ref C) rest->
   er (ff prog w) (A.under (.builtin "type.__call__" ⟨.ref C::rest,[]⟩)) (call (.ref fI) (.ref e::rest)) (fun r s'=>r= .none/\Q (.ref e) s') E ⟨h',g,d,t,os⟩) (hrest:rest.length<=sizeLine:=by size_fits):
  er (ff prog w) A (call (.ref C) rest) Q E ⟨h,g,d,t,os⟩:=by
 have f1:=tc_lookup;have f2:=tc_bind (.ref C);have O:(⟨h,g,d,t,os⟩:c_).TypeIs (.ref C) "type":=⟨_,Z,rfl⟩;refine Oh (codeAny_of_tree ?_);show er _ _ (callAny (.ref C) _) _ _ _
 repeat (any_goals (first|assumption|with_reducible refine LS Z ?_ |wp_step))
 refine⟨rfl,?_⟩;refine codeAny_call_builtin_at (Code.quiet_builtin _ (by decide+kernel)) entry_typeCall (wpAny_check_type_call_sub Z (om (hrest:=hrest) P W F T Z U R Y X fun h' e hm=>?_))
 exact S h' e hm
end
section
variable {M:OI}{A:hF}{E:a_->c_->Prop}{env:Env}
variable {nm q:Str}{C N:b'}{bs bm:List a_}{hdct:Bool}{sn:List Str}{sub:List a_}{ab:Bool}{col:Option Bool}{dd:Option b'}{k0 k1 k2 k3 k5:Option a_}{newId:String}
theorem hU(Y:bm.contains (.type "BaseException")=b_)(R:A.handled=none)
  (h:er M A x (fun v Z=>∃e t T,v= .ref e/\Z.heap.get? C=ar (w_ nm q C N bs bm hdct sn sub ab col dd k0 k1 k2 k3 k5 newId)/\Z.heap.get? e=ar {cls:=.ref C,dict:=T,data:=.fields #[.ref t,.none,.none,.none,.bool dV,.none]}/\E (.ref e) Z) E s):
  er M A (raiseStmt env (ar x) none) Q E s:=by
 have W:(gj C::bm).contains (.type "BaseException")=true:=by rw[List.contains_cons,Y,NX]
 unfold raiseStmt;refine JU (Kq h (fun v Z X=>?_) fun _ _ x=>x);obtain⟨e,t,T,rfl,U,he,S⟩:=X;obtain⟨O,g,d,P,os⟩:=Z
 repeat (first|with_reducible refine LS he ?_ |with_reducible refine LS U ?_ |(with_reducible refine wpAny_isSubtype_exc U ?_;rw[W])|wp_step)
 exact wpAny_raiseNew_none R S
end
section
variable {prog:ed}{w:ee}{A:hF}{E:a_->c_->Prop}{s:c_}{env:Env}
variable {nm q:Str}{C N:b'}{bs bm bmB:List a_}{hdct:Bool}{sn:List Str}{sub:List a_}{ab:Bool}{col:Option Bool}{dd:Option b'}{k0 k1 k2 k3 k5:Option a_}{B Bn newId nid initId inN:String}{bmN:List a_}
theorem uu(j:x' Bn newId inN bmN)(z:bmB.contains (.type Bn)=b_)(F:x' B nid initId bmB){mN:Str->Option a_}{x:Str}{p R pos:Pos}{args:List Expr}{fI:b'}{oI:Obj}{Q:Flow->c_->Prop}
  (W:bm.contains (.type "BaseException")=b_) (K:A.handled=none) (P:(pb R (eb args env)).any (·.1)=dV) (m:mN "__init__"=ar (.ref fI)) (H:oI.cls= .type "function")
  (h :er (ff prog w) A (h_ (.Name x p) env) (fun f U=>f= .ref C/\er (ff prog w) A (evalArgs (.ref C) b_ (pb R (eb args env)) [])
   (fun a Z=>a.kw=[]/\a.pos.length<=sizeLine/\Z.heap.get? C=ar (w_ nm q C N bs bm hdct sn sub ab col dd k0 k1 k2 k3 k5 newId)/\Z.heap.Ns N mN/\Od Z.heap bmB bm/\Z.heap.get? fI=ar oI/\
    ∀h' e,Nt Z.heap h' e (.ref C) a.pos->er (ff prog w) (A.under (.builtin "type.__call__" ⟨.ref C::a.pos,[]⟩)) (call (.ref fI) (.ref e::a.pos)) (fun r s'=>r= .none/\
     ∃t G,s'.heap.get? C=ar (w_ nm q C N bs bm hdct sn sub ab col dd k0 k1 k2 k3 k5 newId)/\s'.heap.get? e=ar {cls:=.ref C,dict:=G,data:=.fields #[.ref t,.none,.none,.none,.bool dV,.none]}/\E (.ref e) s') E {Z with heap:=h'}) E U) E s):
  er (ff prog w) A (exec (.Raise (ar (.Call (.Name x p) args [] R)) none pos) env) Q E s:=by
 rw[arm_exec_Raise];first
  |refine JU (KO (hU (C:=C) (nm:=nm) (q:=q) (N:=N) (bs:=bs) (bm:=bm) (hdct:=hdct) (sn:=sn) (sub:=sub) (ab:=ab) (col:=col) (dd:=dd) (k0:=k0) (k1:=k1) (k2:=k2) (k3:=k3) (k5:=k5) (newId:=newId) W K (JU (Kq (M1 (Kq h (fun f U Y=>?_) fun _ _ x=>x)) (fun v O X=>JU (KO (JZ X))) fun _ _ x=>x))))
  |(simp only[evalOpt,Option.map];refine JU (KO (hU (C:=C) (nm:=nm) (q:=q) (N:=N) (bs:=bs) (bm:=bm) (hdct:=hdct) (sn:=sn) (sub:=sub) (ab:=ab) (col:=col) (dd:=dd) (k0:=k0) (k1:=k1) (k2:=k2) (k3:=k3) (k5:=k5) (newId:=newId) W K (JU (Kq (M1 (Kq h (fun f U Y=>?_) fun _ _ x=>x)) (fun v O X=>JU (KO (JZ X))) fun _ _ x=>x)))))
  |(refine JU (KO (hU (C:=C) (nm:=nm) (q:=q) (N:=N) (bs:=bs) (bm:=bm) (hdct:=hdct) (sn:=sn) (sub:=sub) (ab:=ab) (col:=col) (dd:=dd) (k0:=k0) (k1:=k1) (k2:=k2) (k3:=k3) (k5:=k5) (newId:=newId) W K ?_));refine JU (Kq (M1 (Kq h (fun f U Y=>?_) fun _ _ x=>x)) (fun v O X=>JU (KO (JZ X))) fun _ _ x=>x))
 obtain⟨rfl,Y⟩:=Y;unfold callWith;refine JU (Ld (Kq Y (fun a Z S=>JU (KO ?_)) fun _ _ x=>x));obtain⟨apos,J⟩:=a;obtain⟨L,hlen,u,l,T,I,S⟩:=S;obtain rfl:J=[]:=L;obtain⟨i,g,d,c,os⟩:=Z;simp only[P];refine JU (wpAny_keeperOf_exc u ?_);refine JU (wo (hrest:=hlen) j z F T u l m I H fun h' e hm=>Kq (S h' e hm) (fun r s' y=>⟨y.1,JU (Ld (wpAny_point (JZ ?_)))⟩) fun _ _ x=>x);obtain⟨_,t,G,o,n,k⟩:=y;exact⟨e,t,G,rfl,o,n,k⟩
end
end
end S7
namespace S7
open PySem PySem.Spec PySem.W PyProof.Rows
section
open Builtin Builtin.ObjectAttr
def uw:List a_->Bool
 | .ref _:: .ref _::r=>r==[.type "ValueError",.type "Exception",.type "BaseException",.type "object"]
 |_=>dV
theorem za(e:uw l=b_):∃a b,l= .ref a:: .ref b::[.type "ValueError",.type "Exception",.type "BaseException",.type "object"]:=by
 unfold uw at e;split at e
 ·next a b r=>exact⟨a,b,by rw[beq_iff_eq.mp e]⟩
 ·cases e
theorem Ba(Z:a_)(e:uw l=b_):refuseLoop Z "__setattr__" l=aC ():=by
 obtain⟨a,b,rfl⟩:=za e;rw[refuseLoop_ref,refuseLoop_ref];exact PySem.F.store_ValueError.passes Z
structure ExcS(K:OR)(C:b'):Prop where
 sa:EA K (.ref C) "__setattr__"=ar (ar (.builtin "object.__setattr__"))
 ob:ON K C (.type "object")=ar b_
 cd:∃cd,clsIn K C=ar cd/\cd.hasDict=b_/\uw cd.mro=b_
section
variable {prog:ed}{w:ee}{A:hF}{E:a_->c_->Prop}{s:c_}{K:OR}{x C:b'}{o:Obj}{vs:Array a_}{mA:Str->Option a_}{name:Str}{v:a_}{R:Ox->c_->Prop}
theorem Bb{Q:Fin->c_->Prop}(c:ExcS K C)(X:K.In s.heap)(O:s.heap.get? x=ar o)(m:o.cls= .ref C)(J:o.data= .fields vs)
  (l:(o.dict=none/\∀n,mA n=none)\/∃d,o.dict=ar d/\d≠x/\s.heap.Ns1 d mA)
  (p:∀h' tk' dx,h'.Ns1 dx (fun y=>if y=name then ar v else mA y)->dx≠x->h'.get? x=ar {o with dict:=ar dx}->(o.dict=ar dx\/(o.dict=none/\s.heap.get? dx=none))->
   (∀b o,b≠x->b≠dx->s.heap.get? b=ar o->h'.get? b=ar o)->Q (.done (.ret .none)) {s with heap:=h',toks:=tk'}) (hw:Within mA ns:=by within_ways) (a5:ns.length<=sizeLine:=by size_fits):
  er (ff prog w) A (storeInOwnDict (.ref x) (.ref C) (.str name tk) name v b) Q E s:=by
 obtain⟨cd,G,r,_⟩:=c.cd;obtain⟨h,g,d,t,os⟩:=s;obtain⟨oc,k,a0,u⟩:=o;dsimp only at O m J l;subst m J;unfold storeInOwnDict;refine JU (JZ ?_);show er _ _ (ownDictForStores (.ref x)>>=_) _ _ _;unfold ownDictForStores instanceDict;refine JU (JU (wpAny_loadPart O (JU ((looks_clsIn X G).here ?_))));rw[r];simp only[NF,kl,if_false];rcases l with⟨hdn,hmA⟩|⟨dx,hdx,hne,hns⟩
 ·have N:k=none:=hdn;subst N;simp only[typeHasDict,NF,Bool.or_self,kl,if_false];have Y:(h.push {cls:=.type "dict",data:=.dict #[]}).get? x=ar ⟨.ref C,none,.fields vs,u⟩:=JW _ O;have T:x≠h.objs.size:=Kf (J0 O);refine JU (wpAny_alloc' ?_);refine JU (wpAny_update' Y ?_);refine JZ ?_;have z:((h.push {cls:=.type "dict",data:=.dict #[]}).update x fun o=>{cls:=o.cls,dict:=ar h.objs.size,data:=o.data,slots:=o.slots}).get? h.objs.size
    =ar {cls:=.type "dict",data:=.dict #[]}:=
   (LG _ _ _ _ T.symm).trans (Heap.get?_push_at rfl rfl)
  have H:((h.push {cls:=.type "dict",data:=.dict #[]}).update x fun o=>{cls:=o.cls,dict:=ar h.objs.size,data:=o.data,slots:=o.slots}).Ns h.objs.size (fun _=>none):=
   ⟨_, #[],_,z,rfl,fun e he=>absurd he (by simp),fun _=>rfl⟩
  show er _ _ (storeInDict h.objs.size (.str name tk) name v) _ _ _;unfold storeInDict newKeyGuard;refine JU (JZ (JU (wpAny_nsSet1 (Heap.Ns1.of_empty H) fun h' Z hs=>?_)));obtain⟨a,I,F,W,S,P⟩:=Z.count (Nn name v Oo);refine JU (wpAny_lookBehind W (by rw[S];exact pastItsLine_dict (J4 P (by rw[KD,y_,K9];omega))) ?_)
  wp_walk
  refine p h' _ h.objs.size ?_ T.symm ?_ (.inr ⟨rfl,KP (JY _)⟩) (fun b j q U B=>?_)
  ·obtain⟨o',es,i,e1,e2,f,eu,e4⟩:=Z;exact⟨o',es,i,e1,e2,f,eu,fun y=>by rw[e4 y];by_cases hy:y=name<;>simp[hy,hmA]⟩
  ·exact(hs.2 x T).trans (Lq _ Y rfl)
  ·exact(hs.2 b U).trans ((LG _ _ _ _ q).trans (JW _ B))
 ·have L:k=ar dx:=hdx;subst L;refine JZ ?_;show er _ _ (storeInDict dx (.str name tk) name v) _ _ _;unfold storeInDict newKeyGuard;refine JU (JZ (JU (wpAny_nsSet1 hns fun h' Z hs=>?_)));obtain⟨a,I,F,W,S,P⟩:=Z.count (Nn name v hw);refine JU (wpAny_lookBehind W (by rw[S];exact pastItsLine_dict (J4 P (by rw[KD];omega))) ?_)
  wp_walk
  exact p h' _ dx Z hne ((hs.2 x hne.symm).trans O) (.inl rfl) (fun b j _ U B=>(hs.2 b U).trans B)
theorem nR{Q:Unit->c_->Prop}(c:ExcS K C)(X:K.In s.heap)(O:s.heap.get? x=ar o)(J:o.cls= .ref C)(W:o.data= .fields vs)(G:EA K (.ref C) name=ar none)
  (H:(o.dict=none/\∀n,mA n=none)\/∃d,o.dict=ar d/\d≠x/\s.heap.Ns1 d mA)
  (q:∀h' Y Z,h'.Ns1 Z (fun y=>if y=name then ar v else mA y)->Z≠x->h'.get? x=ar {o with dict:=ar Z}->(o.dict=ar Z\/(o.dict=none/\s.heap.get? Z=none))->
   (∀b o,b≠x->b≠Z->s.heap.get? b=ar o->h'.get? b=ar o)->Q () {s with heap:=h',toks:=Y}) (z:Within mA ns:=by within_ways) (N:ns.length<=sizeLine:=by size_fits):
  er (ff prog w) A (setAttr (.ref x) name v) Q E s:=by
 obtain⟨cd,P,t,L⟩:=c.cd;have T:notCls o=true:=by unfold notCls;rw[W]
 have I:∃S,InstAt s.heap x o C S:=by
  rcases H with⟨hdn,_⟩|⟨Z,hdx,_,⟨S,es,ep,e1,_⟩⟩
  ·exact⟨none,O,J,T,by rw[hdn];trivial⟩
  ·exact⟨ar S,O,J,T,by rw[hdx];exact e1⟩
 obtain⟨S,I⟩:=I;refine set_plain X I c.sa ?_;have U:=PySem.F.store_object;have sub:Looks (ff prog w) s.heap (On (.ref x) (.type "object")) true:=I.type.andThen (looks_mroIn X c.ob);refine codeAny_call_builtin U.slot.plain U.entry (@check_slot (ff prog w) _ _ {s with toks:=s.toks+1} "object.__setattr__" "object" "__setattr__" (.ref x) [.str name s.toks,v] [] _ U.kind U.split sub (U.args (.ref x) (.str name s.toks) v) ?_);have hm:Looks (ff prog w) s.heap (mroOf (.ref C)) cd.mro:=(looks_clsIn X P).andThen .now;rw[osa_eq,refuse_eq];refine JU (JU (I.type _ _ _ _ (fun _ _ e=>e) (JU (hm _ _ _ _ (fun _ _ e=>e) ?_))));rw[Ba _ L];refine JZ (JU (I.type _ _ _ _ (fun _ _ e=>e) (JU (looks_findIn X G _ _ _ _ (fun _ _ e=>e) (JU (JZ ?_))))));exact Bb (s:={s with toks:=s.toks+1}) c X O J W H (fun h' Y Z a1 a2 r B u=>q h' Y Z a1 a2 r B u) z N
end
end
end S7
namespace S7
open PySem PySem.Spec PyProof.Rows L2 S3
def gm(C a t:b')(od:Option b'):f_->Prop:=fun h=>h.get? a=ar {cls:=.ref C,dict:=od,data:=.fields #[.ref t,.none,.none,.none,.bool dV,.none]}
def iA(dx:b')(fs:List (Str×V)):f_->Prop:=fun h=>∃mA,h.Ns1 dx mA/\(∀f,zV (fs.lookup f) (mA f))/\PySem.Within mA (fs.map (·.1))
theorem zb{Z:f_}(p:gm C a t od h1)(k:∀o,h1.get? a=ar o->Z.get? a=ar o):gm C a t od Z:=k _ p
theorem zd{Z:f_}(p:iA dx fs h1)(k:∀o,h1.get? dx=ar o->Z.get? dx=ar o):iA dx fs Z:=by
 obtain⟨mA,⟨o,es,Y,e,r⟩,q⟩:=p;exact⟨mA,⟨o,es,Y,k _ e,r⟩,q⟩
theorem Bc(p:gm C a t od h):b7 P w H h a (.ext (gm C a t od)):=⟨p,⟨_,p⟩,fun _ _ q k=>zb q k⟩
theorem D3(p:iA dx fs h):b7 P w H h dx (.ext (iA dx fs)):=⟨p,(let ⟨_,⟨o,_,_,e,_⟩,_⟩:=p;⟨o,e⟩),fun _ _ q k=>zd q k⟩
section
variable {X:Cx}{pins:List (b'×Obj)}{σ:L2.St}{H:Hp}{s:c_}{h':f_}{t':Nat}
theorem Inv.laidG(I:L2.Inv X pins σ H s)(k:∀b u,s.heap.get? b=ar u->h'.get? b=ar u)(W:s.heap.get? a=none)(Y:b7 X.prog X.w (upd H a o) h' a o):L2.Inv X pins σ (upd H a o) {s with heap:=h',toks:=t'}:=by
 have Z:H a=none:=iY.gone I.hok W;have ne:∀b u,s.heap.get? b=ar u->b≠a:=fun b u q=>iE q W;refine I.un (t':=t') ⟨fun b u q _ _ _=>k b u q,fun b u q _ _ _=>⟨u.slots,k b u q⟩,fun b u q n _=>by rw[aM (ne b u q)];exact n,fun b u q _=>⟨u,k b u q⟩,fun b xs q=>by rw[aM (aS q Z)];exact q,fun b u xs q=>by rw[aM (aS q Z)];exact q,fun b U q=>⟨#[],by rw[aM (aS q Z),q];simp⟩⟩ fun b u e=>?_
 by_cases hb:b=a
 ·subst hb;rw[a7]at e;cases e;exact Y
 ·rw[aM hb]at e;exact(I.hok b u e).stay (fun c v _ q=>k c v q) (fun c q=>by rw[aM (aS q Z)];exact q) fun c xs q=>by rw[aM (aS q Z)];exact q
theorem Inv.write2(I:L2.Inv X pins σ H s)(R:H a=ar (.ext φ))(Z:(∃ ψ,H b=ar (.ext ψ))\/s.heap.get? b=none)(k:∀c v,c≠a->c≠b->s.heap.get? c=ar v->h'.get? c=ar v)(T:∃v,h'.get? a=ar v)(S:∃v,h'.get? b=ar v)
  (P:b≠a) (Q:∀H',b7 X.prog X.w H' h' a o) (O:∀H',b7 X.prog X.w H' h' b u):L2.Inv X pins σ (upd (upd H b u) a o) {s with heap:=h',toks:=t'}:=by
 have U:∀c v,H c=ar v->(∀ ψ,v≠ .ext ψ)->c≠a/\c≠b:=fun c v e n=>by
  refine⟨fun z=>?_,fun z=>?_⟩
  ·subst z;rw[R]at e;cases e;exact n _ rfl
  ·subst z;rcases Z with⟨ψ,Z⟩|Z
   ·rw[Z]at e;cases e;exact n _ rfl
   ·rw[iY.gone I.hok Z]at e;cases e
 have free:∀c v,s.heap.get? c=ar v->H c=none->c≠a/\c≠b:=fun c v q n=>by
  refine⟨fun z=>?_,fun z=>?_⟩
  ·subst z;rw[R]at n;cases n
  ·subst z;rcases Z with⟨ψ,Z⟩|Z
   ·rw[Z]at n;cases n
   ·rw[Z]at q;cases q
 have up:∀c v,H c=ar v->(∀ ψ,v≠ .ext ψ)->upd (upd H b u) a o c=ar v:=fun c v e n=>by
  obtain⟨Y,W⟩:=U c v e n;rw[aM Y,aM W];exact e
 refine I.un (t':=t') ⟨fun c v q n _ _=>k c v (free c v q n).1 (free c v q n).2 q,fun c v q n _ _=>⟨v.slots,k c v (free c v q n).1 (free c v q n).2 q⟩,fun c v q n _=>by rw[aM (free c v q n).1,aM (free c v q n).2];exact n,fun c v q _=>?_,fun c xs q=>up c _ q (by intro _ z;cases z),fun c w xs q=>up c _ q (by intro _ z;cases z),fun c N q=>⟨#[],by rw[up c _ q (by intro _ z;cases z)];simp⟩⟩ fun c v e=>?_
 ·by_cases Y:c=a
  ·subst Y;exact T
  ·by_cases W:c=b
   ·subst W;exact S
   ·exact⟨v,k c v Y W q⟩
 ·by_cases Y:c=a
  ·subst Y;rw[a7]at e;cases e;exact Q _
  ·rw[aM Y]at e;by_cases W:c=b
   ·subst W;rw[a7]at e;cases e;exact O _
   ·rw[aM W]at e;have own:∀d,H d=ar (.own c)->d≠a/\d≠b:=fun d q=>U d _ q (by intro _ z;cases z)
    refine(I.hok c v e).stay (fun d w hd q=>?_) (fun d q=>up d _ q (by intro _ z;cases z)) fun d xs q=>up d _ q (by intro _ z;cases z)
    rcases hd with rfl|hd
    ·exact k _ w Y W q
    ·exact k d w (own d hd).1 (own d hd).2 q
end
section
variable {X:Cx}{o value:Expr}{ta tv:TE}{f:Str}{pos pos':Pos}
def Hl(K:dt)(ta tv:TE)(f:Str):TS:=fun D σ H=>tv σ H fun y H1=>ta σ H1 fun x H2=>∃p C t,x= .ref p/\ExcS K C/\J' K (.ref C) f=ar none/\
  ((H2 p=ar (.ext (gm C p t none))/\∀dx,H2 dx=none->dx≠p->D.nx σ (upd (upd H2 dx (.ext (iA dx [(f,y)]))) p (.ext (gm C p t (ar dx)))))\/
   (∃dx fs,H2 p=ar (.ext (gm C p t (ar dx)))/\H2 dx=ar (.ext (iA dx fs))/\dx≠p/\fs.lookup f=none/\fs.length<=100/\D.nx σ (upd (upd H2 dx (.ext (iA dx (fs++[(f,y)])))) p (.ext (gm C p t (ar dx))))))
theorem nS{α:Type}{g f:Str}{y:α}:∀{fs:List (Str×α)},fs.lookup f=none->(fs++[(f,y)]).lookup g=if g=f then ar y else fs.lookup g
 |[],_=>by
  show(match g==f with|true=>ar y|false=>none)=_
  by_cases h:g=f
  ·subst h;simp
  ·rw[if_neg h,Mb h];rfl
 | (a,b)::r,h=>by
  rw[Kt]at h;by_cases hf:f=a
  ·subst hf;simp at h
  ·rw[Mb hf]at h;rw[List.cons_append,Kt,Kt,nS (fs:=r) h];by_cases hg:g=a
   ·subst hg;have Z:¬ g=f:=fun z=>hf z.symm;simp[Z]
   ·rw[Mb hg]
theorem xH(l:PE X o ta)(m:PE X value tv)(hs:p8 value (ar (.Attribute o f pos')) pos.line X.env=aC dV):PS X (.Assign [.Attribute o f pos'] value pos) (Hl X.K ta tv f):=by
 intro pins s σ H D I h;refine plainObj_wpAny_Assign_Attribute (dY (m pins s σ H _ I h) fun u s1 ⟨y,H1,I1,ry,q⟩=>dY (l pins s1 σ H1 _ I1 q) fun k s2 ⟨x,H2,I2,rx,p,C,t,ex,c,hf,q2⟩=>?_) hs;subst ex;obtain rfl:k=gj p:=rx;rcases q2 with⟨hp,q⟩|⟨Z,fs,hp,hd,Y,hl,hlen,q⟩
 ·have N:s2.heap.get? p=ar {cls:=.ref C,dict:=none,data:=.fields #[.ref t,.none,.none,.none,.bool dV,.none]}:=(I2.hok p _ hp).1;refine nR (mA:=fun _=>none) (ns:=[]) c I2.kIn N rfl rfl hf (.inl ⟨rfl,fun _=>rfl⟩) (fun h' S Z T Y W U E=>?_) Oo (by simp)
  rcases U with U|⟨_,hnew⟩
  ·cases U
  have J:gm C p t (ar Z) h':=W;have P:iA Z [(f,y)] h':=⟨_,T,fun g=>by
   show zV (match g==f with|true=>ar y|false=>none) _
   by_cases hg:g=f
   ·subst hg;simp;exact ry
   ·rw[Mb hg,if_neg hg];exact trivial,Nn f u Oo⟩
  obtain⟨B,⟨j,es,r,e1,_⟩,_⟩:=id P;have O:=Inv.write2 (t':=S) (a:=p) (b:=Z) (o:=.ext (gm C p t (ar Z))) (u:=.ext (iA Z [(f,y)])) I2 hp (.inr hnew) (fun c v L G q=>E c v L G q) ⟨_,W⟩ ⟨_,e1⟩ Y (fun _=>Bc J) (fun _=>D3 P);exact⟨σ,_,O,q Z (iY.gone I2.hok hnew) Y⟩
 ·have N:s2.heap.get? p=ar {cls:=.ref C,dict:=ar Z,data:=.fields #[.ref t,.none,.none,.none,.bool dV,.none]}:=(I2.hok p _ hp).1;obtain⟨mA,R,Q,hw⟩:=(I2.hok Z _ hd).1;refine nR (mA:=mA) (ns:=fs.map (·.1)) c I2.kIn N rfl rfl hf (.inr ⟨Z,rfl,Y,R⟩) (fun h' S F T w W U E=>?_) hw (by rw[JV,K9];omega)
  have A:Z=F:=by
   rcases U with U|⟨U,_⟩
   ·exact Kl U
   ·cases U
  subst A;have J:gm C p t (ar Z) h':=W;have P:iA Z (fs++[(f,y)]) h':=⟨_,T,fun g=>by
   rw[nS hl];by_cases hg:g=f
   ·subst hg;simp;exact ry
   ·rw[if_neg hg,if_neg hg];exact Q g,by
   have:=Nn f u hw;intro z n;have:=this z n;simp only[List.map_append,NC,List.map_nil,List.mem_append,f',e_,or_false]at this⊢;exact this.symm⟩
  obtain⟨B,⟨j,es,r,e1,_⟩,_⟩:=id P;have O:=Inv.write2 (t':=S) (a:=p) (b:=Z) (o:=.ext (gm C p t (ar Z))) (u:=.ext (iA Z (fs++[(f,y)]))) I2 hp (.inl ⟨_,hd⟩) (fun c v L G q=>E c v L G q) ⟨_,W⟩ ⟨_,e1⟩ Y (fun _=>Bc J) (fun _=>D3 P);exact⟨σ,_,O,q⟩
end
end S7
section
namespace S7
open PySem PySem.Spec PyProof.Rows L2 S3
theorem Dh{K:dt}{Z:Str->Option a_}(X:K.In h)(G:h.Ns N Z)(e:sb K N n=ar (ar v)):Z n=ar v:=by
 obtain⟨o,es,U,Y,hd,_,hf⟩:=G;unfold sb at e;split at e
 ·rename_i c d es' n' sl q
  have:=X _ _ q;rw[Y]at this;cases this;cases hd;split at e
  ·rename_i en he
   cases e;rw[<-hf];unfold nsFind findBy;rw[<-Array.find?_toList,he];rfl
  ·split at e<;>cases e
 ·cases e
def kj(K:dt)(C f:b'):Bool:=match K.lookup C with
 |some ⟨.type "type",_,.cls cd,sl⟩=>(match cd.mro,sl.toList with
  | .ref C'::bm,[_,_,_,_,ar (.builtin n),_]=>C'==C && n=="ValueError.__new__" && !cd.hasDel && W.tailIn K Gi bm && W.nsOkIn K cd.ns && sb K cd.ns "__init__"==ar (ar (.ref f)) && cd.hasDict && uw cd.mro
  |_,_=>dV) && (J' K (.ref C) "__setattr__"==ar (ar (.builtin "object.__setattr__"))) && (match K.lookup f with|some o=>o.cls== .type "function"|none=>dV)
 |_=>dV
theorem rn{K:dt}(X:K.In h)(c:ExcC K C)(q:kj K C f=b_):ExcS K C/\(∃o,K.lookup f=ar o/\o.cls= .type "function")/\∃bm N nm qn bs hdct sn sub ab col dd k0 k1 k2 k3 k5 mN,
  h.get? C=ar (w_ nm qn C N bs bm hdct sn sub ab col dd k0 k1 k2 k3 k5 "ValueError.__new__")/\h.Ns N mN/\mN "__init__"=ar (.ref f)/\Od h Gi bm:=by
 unfold kj at q;split at q
 case h_2=>cases q
 case h_1 dd cd O ho=>
 simp only[i',beq_iff_eq]at q;obtain⟨⟨q,S⟩,Y⟩:=q;split at q
 case h_2=>cases q
 case h_1 C' bm k0 k1 k2 k3 n k5 hm hs=>
 simp only[i',beq_iff_eq,Bool.not_eq_true']at q;obtain⟨⟨⟨⟨⟨⟨⟨I,en⟩,Z⟩,J⟩,U⟩,L⟩,Q⟩,R⟩:=q;subst I en;have T:OO K C'=ar cd:=by unfold OO;rw[ho]
 refine⟨⟨S,c.ob,cd,T,Q,R⟩,?_,?_⟩
 ·split at Y
  ·next o hf=>exact⟨o,hf,beq_iff_eq.mp Y⟩
  ·cases Y
 rcases cd with⟨nm,bs,mro,ns,qn,hd,sn,sub,ab,col,del⟩;dsimp only at hm Z U L;subst hm Z;obtain rfl:O= #[k0,k1,k2,k3,ar (.builtin "ValueError.__new__"),k5]:=by rcases O with⟨l⟩;simp only at hs;rw[hs]
 have P:h.Ns ns (h.nsMap ns):=.of_isNs (W.isNs_of_in X U);exact⟨bm,ns,nm,qn,bs,hd,sn,sub,ab,col,dd,k0,k1,k2,k3,k5,_,X _ _ ho,P,Dh X P L,W.tail_of_in X J⟩
def HU(C:b'):Sp:=fun vs H Q _=>∃e t v1 v2,vs=[.ref e,v1,v2]/\H e=ar (.ext (gm C e t none))/\∀dx,H dx=none->dx≠e->Q .non (upd (upd H dx (.ext (iA dx [("many",v1),("most",v2)]))) e (.ext (gm C e t (ar dx))))
theorem ux(h:a≠b):upd (upd H a o) b u=upd (upd H b u) a o:=by
 funext c;unfold upd;by_cases h1:c=b
 ·by_cases h2:c=a
  ·exact absurd (h2.symm.trans h1) h
  ·rw[if_pos h1,if_neg h2,if_pos h1]
 ·rw[if_neg h1];by_cases h2:c=a
  ·rw[if_pos h2,if_pos h2]
  ·rw[if_neg h2,if_neg h2,if_neg h1]
theorem Di{P:ed}{w:ee}{K:dt}{S:Str->Option a_}{base:f_}{C f:b'}{J:eM}{U:p7}{B p y o n u r G:Pos}(F:Fun K "__init__" "TooGreat.__init__" U f J)(L:ExcS K C)(c:ExcC K C)
  (I:FnScope ["self","many","most"] ["self","many","most"] (ai U)) (O:∀x∈(["self","many","most"]:List Str),(ai U).names.lookup x=ar .local)
  (v:dP U=[.Assign [.Attribute (.Name "self" B) "many" p] (.Name "many" y) o,.Assign [.Attribute (.Name "self" n) "most" u] (.Name "most" r) G]):
  FnOk P w K S base (nO P w) 1 f J ["self","many","most"] (HU C):=by
 obtain⟨k,j,kV,doc,pm,an,X,ct,m,rfl,z,R⟩:=F.ex;refine DV z R I (fun vs H Q E ⟨_,_,_,_,h,_⟩=>by rw[h];rfl) fun A outer s H vs Q E l h=>?_
 rw[v];have v0:DT (mF (nO P w) P w K S base ["self","many","most"] "TooGreat.__init__" (ai U) f X A outer s H E).env.scope "self":=.inl (O "self" (by simp))
 have v1:DT (mF (nO P w) P w K S base ["self","many","most"] "TooGreat.__init__" (ai U) f X A outer s H E).env.scope "many":=.inl (O "many" (by simp))
 have v2:DT (mF (nO P w) P w K S base ["self","many","most"] "TooGreat.__init__" (ai U) f X A outer s H E).env.scope "most":=.inl (O "most" (by simp))
 refine⟨_,tN (xH (pv 0 rfl v0) (pv 1 rfl v1) rfl) (xc (xH (pv 0 rfl v0) (pv 2 rfl v2) rfl)),?_⟩;obtain⟨e,t,T,N,rfl,he,q⟩:=h;refine⟨T,rfl,.ref e,rfl,e,C,t,rfl,L,c.mf,.inl ⟨he,fun Z hd Y=>?_⟩⟩;refine⟨N,rfl,.ref e,rfl,e,C,t,rfl,L,c.ms,.inr ⟨Z,[("many",T)],a7,by rw[aM Y];exact a7,Y,rfl,by simp,?_⟩⟩
 have:=q Z hd Y;have e2:upd (upd (upd (upd H Z (.ext (iA Z [("many",T)]))) e (.ext (gm C e t (ar Z)))) Z (.ext (iA Z [("many",T),("most",N)]))) e (.ext (gm C e t (ar Z)))=upd (upd H Z (.ext (iA Z [("many",T),("most",N)]))) e (.ext (gm C e t (ar Z))):=by
  rw[ux Y.symm,rP,rP]
 show Q .non _;rw[<-e2]at this;exact this
end S7
namespace S7
open PySem PySem.Spec PyProof.Rows L2 S3
section
variable {X:Cx}{Ek:XK}
theorem Inv.forget{H:Hp}(I:L2.Inv X pins σ (upd (upd H dx (.ext (iA dx fs))) e (.ext φ)) s)(Q:H dx=none)(S:H e=none)(U:dx≠e):
  L2.Inv X pins σ (upd H dx (.xd fs)) s:=by
 have Z:∀b u,upd (upd H dx (.ext (iA dx fs))) e (.ext φ) b=ar u->(∀ χ,u≠ .ext χ)->upd H dx (.xd fs) b=ar u:=fun b u q n=>by
  by_cases W:b=e
  ·subst W;rw[a7]at q;cases q;exact absurd rfl (n _)
  ·rw[aM W]at q;by_cases Y:b=dx
   ·subst Y;rw[a7]at q;cases q;exact absurd rfl (n _)
   ·rw[aM Y]at q⊢;exact q
 have T:∀b,upd (upd H dx (.ext (iA dx fs))) e (.ext φ) b=none->upd H dx (.xd fs) b=none:=fun b q=>by
  by_cases W:b=e
  ·subst W;rw[a7]at q;cases q
  ·rw[aM W]at q;by_cases Y:b=dx
   ·subst Y;rw[a7]at q;cases q
   ·rw[aM Y]at q⊢;exact q
 refine I.un (t':=s.toks) ⟨fun b o q _ _ _=>q,fun b o q _ _ _=>⟨o.slots,q⟩,fun b o _ n _=>T b n,fun b o q _=>⟨o,q⟩,fun b xs q=>Z b _ q (by intro _ z;cases z),fun b o u q=>Z b _ q (by intro _ z;cases z),fun b P q=>⟨#[],by rw[Z b _ q (by intro _ z;cases z)];simp⟩⟩ fun b u q=>?_
 by_cases Y:b=dx
 ·subst Y;rw[a7]at q;cases q;have R:=I.hok b (.ext (iA b fs)) (by rw[aM U];exact a7)
  obtain⟨mA,W,Y,_⟩:=R.1;exact⟨mA,W,Y⟩
 ·rw[aM Y]at q;have W:b≠e:=fun z=>by rw[z,S]at q;cases q
  exact(I.hok b u (by rw[aM W,aM Y];exact q)).stay (fun _ _ _ z=>z) (fun c z=>Z c _ z (by intro _ z;cases z)) fun c xs z=>Z c _ z (by intro _ z;cases z)
def Bd:List D->M Out
 |[a,b]=>M.raise (.exc "TooGreat" [a,b])
 |_=>M.fail
abbrev lQ(ms:aD->M (List D)):cK:=fun ρ=>do let ds<-ms ρ;Bd ds
theorem zh(L:Leaves X Ek)(hc:X.calm=b_)(eK:pI X.K=b_)(a9:sb X.K g_ "TooGreat"=ar (ar (.ref C)))(a4:kj X.K C f=b_)
  (F:FnOk X.prog X.w X.K X.mg X.base (nO X.prog X.w) k f fd ["self","many","most"] (HU C)) (hb:Binds X.K fd ["self","many","most"] []) (hr:Room (k+1) X.A)
  (ha:SA X (wb X.K Ek) (e::es) ms) (hg:Gl X "TooGreat":=by rfl)
  (he:eb (e::es) X.env=(dV,h_ e X.env)::eb es X.env:=by rfl) (d:(pb cpos (eb es X.env)).any (·.1)=false:=by rfl):
  SS X (wb X.K Ek) (.Raise (ar (.Call (.Name "TooGreat" np) (e::es) [] cpos)) none pos) (lQ ms):=by
 intro pins s σ H T I h;obtain⟨ι,S,ρ,rep,re,c⟩:=h;obtain⟨R,g⟩:=wc eK (show("TooGreat":Str)∈f9 by decide)
 have eC:R=C:=by
  have:=g.ns.symm.trans a9;cases this;rfl
 subst eC;obtain⟨cS,⟨oI,a8,a5⟩,bm,N,nm,qn,bs,hdct,sn,sub,ab,col,dd,k0,k1,k2,k3,k5,mN,hC,hN,hi,tl⟩:=rn I.mod.kin g.ck a4;have hm:X.mg "TooGreat"=ar (.ref R):=J6 I.mod.kin I.mod.glob g.ns;refine uu (k5:=k5) (k3:=k3) (k2:=k2) (k1:=k1) (k0:=k0) (nm:=nm) (q:=qn) (C:=R) (N:=N) (bm:=bm) (bs:=bs) (hdct:=hdct) (sn:=sn) (sub:=sub) (ab:=ab) (col:=col) (dd:=dd) (fI:=f) (oI:=oI) Lm (by decide) Lm (mN:=mN) (tl.hasType PySem.F.excBase_ValueError.hasBase) (I.ok.hd hc) (by rw[he];show(dV||(pb cpos (eb es X.env)).any (·.1))=dV;rw[d];rfl) hi a5 (oz I hg hm ⟨rfl,?_⟩ (by decide))
 have G:=ha cpos pins s σ H _ I ⟨ι,S,ρ,rep,re,ax (ak c) fun ds U S1 Q e1 rep1 c1 vs E=>(⟨U,S1,ds,rep1,E,c1⟩:∃U S1 ds,Rep X.K U Q S1/\RelDs X.K U Q ds vs/\cont X.K (wb X.K Ek) (Bd ds) U S1 Q _)⟩;rw[he]at G⊢;refine Mv (Kq G (fun us s2 a=>?_) fun _ _ z=>z);obtain⟨vs,Q,o,rv,U,S1,ds,rep1,E,c1⟩:=a
 match ds,E,c1 with
 |[],E,c1=>exact(ao c1).elim
 |[_],E,c1=>exact(ao c1).elim
 |_::_::_::_,E,c1=>exact(ao c1).elim
 | [da,db],E,c1=>
  obtain⟨p,ws,rfl,ra,r2⟩:=E.cons_inv;obtain⟨y,c3,rfl,rb,r3⟩:=r2.cons_inv;cases r3.nil_inv;have hlen:us.length=2:=rv.length.symm;refine⟨rfl,?_,o.bk _ _ hC,hN.keeps o.bk,tl.keeps o.bk,o.bk _ _ (I.mod.kin _ _ a8),fun h' Z hm=>?_⟩
  ·show us.length<=sizeLine;rw[hlen,K9];decide
  ·obtain⟨t,h1,h2,h3⟩:=hm.there;have l:Q Z=none:=iY.gone o.hok hm.new;have i:L2.Inv X pins σ (upd Q Z (.ext (gm R Z t none))) {s2 with heap:=h'}:=Inv.laidG (t':=s2.toks) o hm.keeps hm.new (Bc h1);have a3:HU R [.ref Z,p,y] (upd Q Z (.ext (gm R Z t none))) (fun v H'=>v= .non/\∃Y,upd Q Z (.ext (gm R Z t none)) Y=none/\Y≠Z/\H'=upd (upd (upd Q Z (.ext (gm R Z t none))) Y (.ext (iA Y [("many",p),("most",y)]))) Z (.ext (gm R Z t (ar Y)))) Ek:=
    ⟨Z,t,p,y,rfl,a7,fun Y hd P=>⟨rfl,Y,hd,P,rfl⟩⟩
   have a6:bw [V.ref Z,p,y] (gj Z::us):=.cons rfl rv;refine Oh (MJ (F.run _ X.stack _ _ ⟨gj Z::us,[]⟩ (gj Z::us) _ _ Ek (hr.make R us []) (i.env0.make R us []) ?_ a6 a3) fun r s' O=>?_)
   ·have:=hb {s2 with heap:=h'} (gj Z::us) i.kIn (by simp[hlen])
    rw[KS]at this;exact this
   ·cases r with
    |error x=>exact L.pass pins σ _ _ x s' i O
    | ok fl=>
     cases fl with
     |next=>exact kS O
     |brk=>exact kS O
     |cont=>exact kS O
     | ret u=>
      obtain⟨v,H',j,a0,ev,Y,m,P,rfl⟩:=i.after O;subst ev;have J:Q Y=none:=by rw[aM P]at m;exact m
      have e2:upd (upd (upd Q Z (.ext (gm R Z t none))) Y (.ext (iA Y [("many",p),("most",y)]))) Z (.ext (gm R Z t (ar Y)))=upd (upd Q Y (.ext (iA Y [("many",p),("most",y)]))) Z (.ext (gm R Z t (ar Y))):=by
       rw[ux P.symm,rP]
      rw[e2]at j;have B:s'.heap.get? Z=ar {cls:=.ref R,dict:=ar Y,data:=.fields #[.ref t,.none,.none,.none,.bool dV,.none]}:=(j.hok Z _ a7).1;have I4:=Inv.forget j J l P;refine⟨a0,t,ar Y,j.bk _ _ hC,B,?_⟩;obtain⟨r',S',e',q'⟩:=c1;cases e';have n:=o.base;rw[L.ex]at n;refine L.new I4 B rfl rfl rfl rfl (by rw[aM (lx P)];exact l) (Un.gone n (by simp) hm.new) ?_
      have b:Ext U Q U (upd Q Y (.xd [("many",p),("most",y)])):=iD J;exact q' U _ b (kb rep1 J) _ _ ⟨"TooGreat",[da,db],R,rfl,g.ns,rfl,.inr ⟨Y,_,rfl,a7,rfl,.cons (ra.later rep1 b) (.cons (rb.later rep1 b) .nil)⟩⟩
end
end S7
end
namespace S7
open PySem PySem.Spec PyProof.Rows L2 S3
section
variable {X:Cx}{E:XD}{pins:List (b'×Obj)}{σ:L2.St}{H:Hp}{s:c_}
end
section
variable {X:Cx}{E:XD}{st:p7}{m:TM}{i:Nat}
theorem RelE.all{K:dt}{U Z:List b'}{H T:Hp}{n:Nat}(Y:∀e v,gD n e=b_->RelD K U H e v->RelD K Z T e v):
  ∀{ρ:aD} {σ:L2.St},RelE K U H ρ σ->(∀e,ar e∈ρ->gD n e=b_)->RelE K Z T ρ σ
 |[],_,h,_=>by cases h;exact .nil
 |_::ρ,_,.cons h t,c=>.cons (fun d' z=>by obtain⟨v,e1,e2⟩:=h _ z;exact⟨v,e1,Y _ v (c d' (by rw[z];exact Kj ..)) e2⟩) (RelE.all Y t fun e z=>c e (J7 _ z))
theorem RelE.swap{K:dt}{U Z:List b'}{H T:Hp}{n:Nat}{d u:D}(S:∀v,RelD K U H d v->RelD K Z T u v)(Y:∀e v,gD n e=b_->RelD K U H e v->RelD K Z T e v):
  ∀{ρ:aD} {i:Nat} {σ:L2.St},RelE K U H (ρ.set i (ar d)) σ->(∀e,ar e∈ρ->gD n e=b_)->RelE K Z T (ρ.set i (ar u)) σ
 |[],_,_,h,_=>by cases h;exact .nil
 |_::ρ,0,_,.cons h t,c=>.cons (fun d' z=>by cases z;obtain⟨v,e1,e2⟩:=h _ rfl;exact⟨v,e1,S v e2⟩) (RelE.all Y t fun e z=>c e (J7 _ z))
 |_::ρ,i+1,_,.cons h t,c=>.cons (fun d' z=>by obtain⟨v,e1,e2⟩:=h _ z;exact⟨v,e1,Y _ v (c d' (by rw[z];exact Kj ..)) e2⟩) (RelE.swap S Y (ρ:=ρ) (i:=i) t fun e z=>c e (J7 _ z))
theorem uy(h:SS X E st (dh i m)):SS X E st (dh i (aL m)):=by
 intro pins s σ H T I O;obtain⟨Y,S,ρ,rep,re,r,F,B,k⟩:=O;have Z:(jE (m ρ)>>=fun d=>(aC (Out.nx (ρ.set i (ar d))):M Out)) S=ar (r,F):=B;have C:∀(c:M D),(c>>=fun d=>(aC (Out.nx (ρ.set i (ar d))):M Out)) S=(match c S with|some (.ok d,S1)=>ar (.ok (Out.nx (ρ.set i (ar d))),S1)|some (.ex x,S1)=>ar (.ex x,S1)|none=>none):=fun c=>by
  show M.bnd c _ S=_;unfold M.bnd;cases c S with
  |none=>rfl
  |some p=>obtain⟨r,S1⟩:=p;cases r<;>rfl
 rw[C]at Z;unfold jE at Z;cases q:m ρ S with
 |none=>rw[q]at Z;cases Z
 | some p=>
  obtain⟨y,N⟩:=p;rw[q]at Z;have J:dh i m ρ S=_:=C (m ρ);rw[q]at J;cases y with
  |ex x=>
   cases Z;exact h pins s σ H T I ⟨Y,S,ρ,rep,re,.ex x,_,J,k⟩
  | ok d=>
   dsimp only at Z;by_cases hl:N.length<=S.length
   ·rw[if_pos hl]at Z;cases Z;exact h pins s σ H T I ⟨Y,S,ρ,rep,re,_,_,J,k⟩
   ·rw [if_neg hl]at Z;by_cases hk:pL S N
    ·rw [if_pos hk]at Z;cases z:ki S.length (Co N S.length 60) d with
     |none=>rw[z]at Z;cases Z
     | some u=>
      rw[z]at Z;cases Z;refine dY (h pins s σ H {nx:=fun W L=>∃P:List b',∀os,T.nx W (nP P os L),rt:=fun _ _=>False} I ⟨Y,S,ρ,rep,re,_,_,J,fun Q L x U W G=>?_⟩) fun f s' hf=>?_
      ·refine⟨Q.drop Y.length,fun os=>?_⟩;obtain⟨g,rep2⟩:=um rep x U hk os;have R:Rep X.K Y (nP (Q.drop Y.length) os L) (N.take S.length):=by rw[<-rep.len];exact rep2
       have O:Q.take Y.length=Y:=by obtain⟨more,rfl⟩:=x.ids;simp
       refine k Y _ g R W ?_;refine RelE.swap (n:=Y.length) (d:=d) (u:=u) (fun v l=>?_) (fun e v c r=>?_) G fun e z=>?_
       ·have:=we (n:=Y.length) (os:=os) (fun k us a=>by rw[rep.len];exact xF U 60 k us a) U.nd l (by rw[rep.len];exact z)
        rw[O]at this;exact this
       ·have:=RelD.down (n:=Y.length) (os:=os) r c;rw[O]at this;exact this
       ·obtain⟨j,o⟩:=List.getElem?_of_mem z;obtain⟨v,_,r⟩:=re.get o;exact r.cl
      ·cases f with
       |next=>
        obtain⟨W,L,t,P,w⟩:=hf;obtain⟨os,A⟩:=Inv.fz t P;exact⟨W,_,A,w os⟩
       |ret v=>obtain⟨_,_,_,_,_,z⟩:=hf;exact z.elim
       |brk=>obtain⟨_,_,_,z⟩:=hf;exact z.elim
       |cont=>obtain⟨_,_,_,z⟩:=hf;exact z.elim
    ·rw[if_neg hk]at Z;cases Z
end
def Hm:p7->p7
 | .ClassDef _ _ _ (b::_) .. =>b
 |s=>s
structure GrX(P:ed)(w:ee)(K:dt)(mg:Str->Option a_)(base:f_):Prop where
 ex:∃C f fd,sb K g_ "TooGreat"=ar (ar (.ref C))/\kj K C f=b_/\FnOk P w K mg base (nO P w) 1 f fd ["self","many","most"] (HU C)/\Binds K fd ["self","many","most"] []
theorem Be{P:ed}{w:ee}{K:dt}{Q:Str->Option a_}{base h:f_}{C f:b'}{T:eM}{U:p7}{A G O E B L y H:Pos}(F:Fun K "__init__" "TooGreat.__init__" U f T)(X:K.In h)(J:pI K=b_)(Z:sb K g_ "TooGreat"=ar (ar (.ref C)))(Y:kj K C f=b_)
  (I:FnScope ["self","many","most"] ["self","many","most"] (ai U)) (z:∀x∈(["self","many","most"]:List Str),(ai U).names.lookup x=ar .local) (S:Binds K T ["self","many","most"] [])
  (N:dP U=[.Assign [.Attribute (.Name "self" A) "many" G] (.Name "many" O) E,.Assign [.Attribute (.Name "self" B) "most" L] (.Name "most" y) H]):GrX P w K Q base:=by
 obtain⟨v,R⟩:=wc J (show("TooGreat":Str)∈f9 by decide)
 have:=R.ns.symm.trans Z;cases this;exact⟨C,f,T,Z,Y,Di F (rn X R.ck Y).1 R.ck I z N,S⟩
section
variable {X:Cx}{Ek:XK}
theorem uz(L:Leaves X Ek)(J:X.calm=b_)(P:pI X.K=b_)(Q:GrX X.prog X.w X.K X.mg X.base)(W:Room 2 X.A)
  (S:SA X (wb X.K Ek) (e::es) ms) (Y:Gl X "TooGreat":=by rfl)
  (O:eb (e::es) X.env=(dV,h_ e X.env)::eb es X.env:=by rfl) (Z:(pb cpos (eb es X.env)).any (·.1)=false:=by rfl):
  SS X (wb X.K Ek) (.Raise (ar (.Call (.Name "TooGreat" np) (e::es) [] cpos)) none pos) (lQ ms):=by
 obtain⟨C,f,fd,T,N,U,R⟩:=Q.ex;exact zh L J P T N U R W S Y O Z
end
theorem DefX.none{P:ed}{w:ee}{K:dt}{Y:Str->Option a_}{base:f_}{k:Nat}{x qual:Str}{S:p7}{f:b'}{Z:eM}{X:List Str}(F:Fun K x qual S f Z)(T:Y x=ar (.ref f))(U:Binds K Z X []):DefX P w K Y base k x X (fun _=>M.fail):=
 ⟨f,Z,⟨fun vs H Q E ⟨_,_,_,_,_,h⟩=>(ao h).elim,fun A outer s H args us vs Q E _ _ _ _ ⟨_,_,_,_,_,h⟩=>(ao h).elim⟩,T,F.kp,U⟩
def Jc(K:dt):Bool:=f9.all fun n=>match sb K g_ n with
 |some (ar (.ref C))=>(match OO K C with|some cd=>cd.hasDict|none=>b_)
 |_=>b_
section
variable {X:Cx}{E:XD}
end
end S7
namespace S3
open PySem PySem.Spec PyProof.Rows L2 S4
mutual
theorem Bg:∀d,gD n d=b_->ki n g d=ar d
 | .lst k,h=>by unfold gD at h;unfold ki;rw[if_pos (Kw h)]
 | .tup ds,h=>by unfold gD at h;unfold ki;rw[iG ds h];rfl
 | .ro ds,h=>by unfold gD at h;unfold ki;rw[iG ds h];rfl
 | .fz ds,h=>by unfold gD at h;unfold ki;rw[iG ds h];rfl
 | .fn _ _ _ ds _,h=>by unfold gD at h;unfold ki;rw[iG ds h];rfl
 | .exc _ ds,h=>by unfold gD at h;unfold ki;rw[iG ds h];rfl
 | .non,_=>by unfold ki;rfl
 | .bl _,_=>by unfold ki;rfl
 | .int _,_=>by unfold ki;rfl
 | .str _,_=>by unfold ki;rfl
 | .emp,_=>by unfold ki;rfl
theorem iG:∀ds,cT n ds=b_->jD n g ds=ar ds
 |[],_=>by unfold jD;rfl
 |d::ds,h=>by
  unfold cT at h;rw[Kn]at h;unfold jD;rw[Bg d h.1,iG ds h.2]
end
mutual
theorem D4(Z:m<=n):∀d,gD m d=b_->gD n d=b_
 | .lst k,h=>by unfold gD at h⊢;exact J3 (Kd (Kw h) Z)
 | .tup ds,h=>by unfold gD at h⊢;exact jU Z ds h
 | .ro ds,h=>by unfold gD at h⊢;exact jU Z ds h
 | .fz ds,h=>by unfold gD at h⊢;exact jU Z ds h
 | .fn _ _ _ ds _,h=>by unfold gD at h⊢;exact jU Z ds h
 | .exc _ ds,h=>by unfold gD at h⊢;exact jU Z ds h
 | .non,_=>by unfold gD;rfl
 | .bl _,_=>by unfold gD;rfl
 | .int _,_=>by unfold gD;rfl
 | .str _,_=>by unfold gD;rfl
 | .emp,_=>by unfold gD;rfl
theorem jU(Z:m<=n):∀ds,cT m ds=b_->cT n ds=b_
 |[],_=>by unfold cT;rfl
 |d::ds,h=>by
  unfold cT at h⊢;rw[Kn]at h⊢;exact⟨D4 Z d h.1,jU Z ds h.2⟩
end
section
variable {c:M D}{S:aE}{Q:D->aE->Prop}{v:D}
theorem sM:jE (aC v)=aC v:=by
 funext S;show(if S.length<=S.length then _ else _)=_;rw[if_pos (JY _)];rfl
theorem Bh:jE (M.raise x)=M.raise x:=rfl
theorem pM(e:c S=ar (.ok d,S'))(Z:pL S S')(Y:S.length<S'.length\/u=d)(W:S.length<=S'.length)(X:ki S.length (Co S' S.length 60) d=ar u):jE c S=ar (.ok u,S'.take S.length):=by
 unfold jE;rw[e];dsimp only;by_cases h:S'.length<=S.length
 ·have hd:u=d:=Y.resolve_left (by omega)
  rw[if_pos h,hd,LN h]
 ·rw[if_neg h,if_pos Z,X]
theorem wq:pL S (S++G):=fun k xs Z e=>.inl (by rw[Kx Z]at e;exact e)
theorem Bi(h:runs c S fun d Z=>∃G p us,d= .lst p/\Z=S++G/\Z[p]? =ar us/\S.length<=p/\cT S.length us=b_/\Q (.fz us) S):runs (jE c) S Q:=by
 obtain⟨d,Z,e,G,p,us,rfl,rfl,Y,U,W,q⟩:=h;have X:=(J2.mp Y).1;refine⟨.fz us,S,?_,q⟩;have:=pM (u:=.fz us) e wq (.inl (by omega)) (by simp) (by
  unfold ki;rw[if_neg (by omega)]
  show(((S++G)[p]?).bind fun xs=>jD S.length (Co (S++G) S.length 59) xs).map D.fz=_;rw[Y,Option.bind_some,iG us W];rfl)
 rw[this];simp
theorem dE{α:Type}{c:M α}{v:α}(h:∀S,runs c S fun d Z=>d=v/\Z=S):c=aC v:=by
 funext S;obtain⟨d,Z,e,rfl,rfl⟩:=h S;exact e
theorem Dj(Y:cT 0 us=b_)(h:∀S,runs c S fun d Z=>∃G p,d= .lst p/\Z=S++G/\Z[p]? =ar us/\S.length<=p):jE c=aC (.fz us):=
 dE fun S=>Bi (yR (h S) fun d Z ⟨G,p,e1,e2,e3,e4⟩=>⟨G,p,us,e1,e2,e3,e4,jU (Ku _) us Y,rfl,rfl⟩)
theorem cu(Z:cT 0 us=b_)(Y:us.length<=lim):jE (bD us)=aC (.fz us):=
 Dj Z fun S=>yS.mpr ⟨Y,[us],S.length,rfl,rfl,by simp,JY _⟩
end
theorem cm:gG ⟨its,.none⟩=aC ():=by
 funext S;unfold gG;rw[if_pos (show Iter.okS ⟨its,.none⟩ S from trivial)];rfl
section
variable {its:List D}{g:ky}{t:aD->M Bool}{m:TM}
theorem uA(R:aD->Prop)(q:D->Bool)(f:D->D):∀(items:List D) (ρ:aD),R ρ->(∀d∈items,∀ ρ,R ρ->∃Z,g d ρ=aC Z/\R Z/\t Z=aC (q d)/\(q d=b_->m Z=aC (f d)))->
  cC ⟨its,.none⟩ g t m items ρ=aC ((items.filter q).map f)
 |[],ρ,_,_=>by unfold cC;rw[cm];rfl
 |d::ds,ρ,hR,hb=>by
  obtain⟨Z,e1,Y,e2,W⟩:=hb d (Kj ..) ρ hR;have U:=uA R q f ds Z Y fun x X=>hb x (J7 _ X);unfold cC;rw[cm,aj,e1,aj,e2,aj,U];cases hq:q d with
  |true=>rw[LH hq,if_pos rfl,W hq,aj];rfl
  |false=>rw[LI (by rw[hq];decide),if_neg (by decide)]
theorem xI(R:aD->Prop)(q:D->Bool)(f:D->D)(X:its.length<=lim)(Z:R ρ)(Y:∀d∈its,∀ ρ,R ρ->∃ ρ1,g d ρ=aC ρ1/\R ρ1/\t ρ1=aC (q d)/\(q d=b_->m ρ1=aC (f d))):
  fA ⟨its,.none⟩ g t m ρ=aC ((its.filter q).map f):=by
 unfold fA;rw[if_pos X];exact uA R q f its ρ Z Y
theorem xJ{bd:BM}(R:aD->Prop)(q:D->Bool)(f:D->List D):∀(items:List D) (ρ:aD),R ρ->(∀d∈items,∀ ρ,R ρ->∃Z,g d ρ=aC Z/\t Z=aC (q d)/\(q d=b_->∃Y,R Y/\bd Z=aC (f d,Y))/\(q d=dV->R Z))->
  ∃ ρ',R ρ'/\cB ⟨its,.none⟩ g t bd items ρ=aC ((items.filter q).flatMap f,ρ')
 |[],ρ,hR,_=>⟨ρ,hR,by unfold cB;rw[cm];rfl⟩
 | d::ds,ρ,hR,hb=>by
  obtain⟨Z,e1,e2,O,P⟩:=hb d (Kj ..) ρ hR;have W:=fun x S=>hb x (J7 d S);cases hq:q d with
  |true=>
   obtain⟨Y,U,Q⟩:=O hq;obtain⟨ρ',X,T⟩:=xJ R q f ds Y U W;refine⟨ρ',X,?_⟩;unfold cB;rw[cm,aj,e1,aj,e2,aj,hq,if_pos rfl,Q,aj];show(cB _ g t bd ds Y>>=_)=_;rw[T,aj,LH hq];rfl
  |false=>
   obtain⟨ρ',X,T⟩:=xJ R q f ds Z (P hq) W;refine⟨ρ',X,?_⟩;unfold cB;rw[cm,aj,e1,aj,e2,aj,hq,if_neg (by decide),T,LI (by rw[hq];decide)]
end
end S3
namespace S7
open PySem PySem.Spec PyProof.Rows L2 S3
section
variable {X:Cx}{E:XD}{k i jn jy:Nat}{a c':b'}{ql:Str}{ds:List D}{vs:List V}{m:TM}{x n y cx:Str}{p cpos epos np p1 p2 p3 hpos tpos:Pos}
end
section
variable {X:Cx}{x ql:Str}{k k0 i:Nat}{a c':b'}{ps:List Str}{R:D->M D->List D->M D}{R':M D->List D->M D}{p pos:Pos}{e:Expr}{es:List Expr}{ms:S3.aD->M (List D)}{m:TM}{ds:List D}{vs:List V}
end
section
variable {X:Cx}{E:XD}{pos:Pos}
end
end S7
namespace S3
open PySem PySem.Spec PyProof.Rows L2 PySem.SeqAt
theorem pN{M:OI}{A:hF}{E:a_->c_->Prop}{s:c_}{X:Type}{b:Nat}(f:Nat->X->Sem (ForInStep X))(I:Nat->X->c_->Prop)(Q:X->c_->Prop)
  (Y:∀i c s,i<b->I i c s->er M A (f i c) (fun r s'=>match r with| .yield c'=>I (i+1) c' s'| .done c'=>Q c' s') E s)
  (U:∀c s,I b c s->Q c s) (c:X) (h:I 0 c s):er M A (OM [:b] c f) Q E s:=by
 rw[Std.Legacy.Range.forIn_eq_forIn_range'];have W:([:b]:Std.Legacy.Range).size=b:=by simp[Std.Legacy.Range.size]
 show er M A (OM (n_ 0 ([:b]:Std.Legacy.Range).size 1) c f) Q E s;rw[W];refine wpAny_forIn_list f (fun l c s=>∃i,i<=b/\l=n_ i (b - i) 1/\I i c s) Q ?_ ?_ _ c ⟨0,Ku _,rfl,h⟩
 ·rintro x rest c s ⟨i,hib,hl,hI⟩;have Z:i<b:=by
   rcases Nat.lt_or_ge i b with h'|h'
   ·exact h'
   ·rw[show b - i=0 by omega]at hl;simp at hl
  obtain⟨n,T⟩:∃n,b - i=n+1:=⟨b - i - 1,by omega⟩
  rw[T,List.range'_succ]at hl;obtain⟨rfl,rfl⟩:=KY hl;refine Kq (Y x c s Z hI) (fun r s' h'=>?_) fun _ _ h'=>h';cases r with
  |done c'=>exact h'
  |yield c'=>exact⟨x+1,Z,by congr 1;omega,h'⟩
 ·rintro c s ⟨i,hib,hl,hI⟩;have:b - i=0:=by
   have:=Mx N8 hl;simpa using this.symm
  have:i=b:=by omega
  subst this;exact U c s hI
theorem qA(l:b')(Z:Array a_)(n:Nat)(dd:Option b')(T:Array (Option a_))(x:a_)(e:a_->Bool)(j:Nat)(O:j<Z.size)(X:e Z[j]=b_)(W:∀m (hm:m<Z.size),m<j->e Z[m]=dV):
  OQ (Builtin.«tuple.index» ⟨[.ref l,x],[]⟩)
   (fun A R s=>s.heap.get? l=ar {cls:=.type "tuple",dict:=dd,data:=.seq Z n,slots:=T}/\(∀y,y∈Z->EqAt A.in1 s y x (e y))/\R (.ok (.ret (.int j s.toks))) {s with toks:=s.toks+1}):=
 .of_wp fun prog w A R s h=>by
  obtain⟨P,g,d,S,os⟩:=s;obtain⟨Q,he,h⟩:=h;have U:min Z.size Z.size=Z.size:=Nat.min_self _
  wp_walk using Ng Q,pN _ (fun i b s'=>i<=j/\b.1=none/\s'=⟨P,g,d,S,os⟩) _
  next=>
   rintro i b s' hi ⟨hij,hb,rfl⟩;have Y:i<Z.size:=by omega
   rw[Array.getElem?_eq_getElem Y];refine JU (he _ (Array.getElem_mem Y) prog w _ _ ?_);by_cases hc:i=j
   ·subst hc;rw[X]
    wp_walk
    exact⟨_,rfl,h⟩
   ·rw[W i Y (by omega)]
    wp_walk
    exact⟨by omega,rfl,rfl⟩
  next=>
   rintro b s' ⟨hij, -, -⟩;omega
  next=>
   exact⟨Ku _,rfl,rfl⟩
section
variable {X:Cx}{E:XD}{o e:Expr}{es:List Expr}{m:TM}{ms:aD->M (List D)}{pos:Pos}
def kL:D->List D->M D:=fun t ds S=>match ds with
 | [x]=>match gI S 60 t,gI S 60 x with
  |some (.tuple xs),ar p=>match xs.findIdx? fun y=>gi y p with
   |some j=>ar (.ok (.int j),S)
   |none=>none
  |_,_=>none
 |_=>none
def Bj:V->List V->Hp->VK->Prop:=fun x vs H Q=>∃y p xs j,vs=[y]/\(ReadsV H x (.tuple xs)/\(u0 xs).canLay0=b_/\(u0 xs).depth<=60)/\(ReadsV H y p/\p.canLay0=b_/\p.depth<=60)/\xs.findIdx? (fun z=>gi z p)=ar j/\Q (.int j) H
theorem Bk(w:X.A.units+64<GB):HL X "tuple.index" Bj:=by
 intro pins s σ H x vs v us Q I B G h;obtain⟨y,p,xs,j,rfl,⟨L,T,J⟩,⟨O,K,z⟩,U,q⟩:=h;obtain⟨u,rfl,R⟩:=G.one;obtain⟨as,S⟩:=L.heap I.hok B;obtain⟨bs,N⟩:=O.heap I.hok R;cases S with
 | @tuple a ob its n _ _ h1 h2 h3 h4=>
  obtain⟨cls,dd,data,P⟩:=ob;simp only at h2 h3;subst h2 h3;have Z:=readsAll_map xs _ _ T h4;rw[<-Z,List.findIdx?_map]at U;obtain⟨Y,hit,W⟩:=List.findIdx?_eq_some_iff_getElem.mp U;have hd:=nJ J;have hm:min (pa xs) p.depth<=60:=J4 (Nk _ _) hd;refine Nv F.slot_tuple_index ⟨_,h1,rfl⟩ F.entry_tuple_index (F.args_tuple_index_2 _ _)
   (qA a its n dd P u (fun y=>gi (readOf s.heap y) p) j (by simpa using Y) (by simpa using hit) (fun m hm C=>by simpa using W m C)) ⟨h1,items_eqAt h4 N T K (by omega),?_⟩
  exact⟨.int j,H,I.tok _,⟨_,rfl⟩,q⟩
theorem zj:G4 X.K E kL Bj:=by
 intro W S H d ds v vs Q rep r rs c;obtain⟨U,T,e,k⟩:=c;unfold kL at e;split at e
 ·next x=>
  obtain⟨w,ws,rfl,Z,Y⟩:=rs.cons_inv;cases Y.nil_inv;split at e
  ·next xs p hp hq=>
   split at e
   ·next j hj=>
    cases e;exact⟨w,p,xs,j,rfl,kd rep 60 d _ v hp r,kd rep 60 x p w hq Z,hj,k W H .refl rep _ (.int _)⟩
   ·cases e
  ·cases e
 ·cases e
def Jw:D->M Unit
 | .tup _=>aC ()
 |_=>M.fail
abbrev Bl(f:D->List D->M D)(m n:TM):TM:=fun ρ=>do let x<-m ρ;Jw x;let ds<-(do let y<-n ρ;let ys<-aC [];aC (y::ys));f x ds
theorem uB{n:TM}{Z:Pos}(O:X.A.units+64<GB)(I:SE X E o m)(K:SE X E e n)
  (W:u5 o "index" X.env (h_ o X.env)=h_ o X.env:=by rfl)
  (Y:(Z.endLine==pos.line)=true:=by rfl) (hs:eb [e] X.env=[(dV,h_ e X.env)]:=by rfl):
  SE X E (.Call (.Attribute o "index" Z) [e] [] pos) (Bl kL m n):=by
 refine PE.imp (DY PySem.F.plainAttrs_tuple PySem.F.slot_tuple_index PySem.F.type_tuple_index (Bk O) I (af K aq hs) W (by rw[hs];rfl) Y hs rfl) fun σ H Q h=>?_
 obtain⟨G,S,ρ,rep,re,c⟩:=h;refine⟨G,S,ρ,rep,re,ax (ak c) fun x U S1 B e1 rep1 c1 v N=>?_⟩;cases x with
 |tup us=>
  have R:=ah (ak c1) .refl rep1;cases N with
  |tup hv hs=>exact⟨.inr (.inl ⟨rfl,_,hv⟩),U,S1,ρ,rep1,re.later rep e1,ax (ak R) fun ds T L C e2 rep2 P vs J=>zj T L C _ ds _ vs Q rep2 ((RelD.tup hv hs).later rep1 e2) J P⟩
 |_=>exact(ao (ak c1)).elim
end
end S3
namespace S7
open PySem PySem.Spec PyProof.Rows L2 S3 S4
theorem Dk{i j:Nat}{Z:zT}:pG (fD Z) (cA 2 (aN (gN i) (aN (gN j) cF)))=v7 i j Z:=by
 funext ρ;unfold pG fD v7;rw[fu];refine Mx _ ?_;funext ds
 match ds with
 |[]=>rfl
 |[d]=>rfl
 |[d,e]=>rfl
 |d::e::f::r=>
  funext S;show(bA _>>=_) S=_;unfold bA;split<;>rfl
theorem Dl{X:Cx}{E:XD}{Z:p7}{i j:Nat}{Y:zT}(h:SS X E Z (pG (fD Y) (cA 2 (aN (gN i) (aN (gN j) cF))))):SS X E Z (v7 i j Y):=Dk ▸ h
end S7
namespace S7
open PySem PySem.Spec PyProof.Rows L2 S3
abbrev sN(mi:S3.aD->M Iter)(g:ky)(t:S3.aD->M Bool)(m:TM)(js:List (Option Nat)):TM:=fun ρ=>do let it<-mi ρ;kK (do let ys<-fA it g t m (gh js ρ);bD ys)
section
variable {X:Cx}{E:XD}{scope:Scope}{Nc:List Str}{js:List (Option Nat)}{elt tg iter:Expr}{ifs:List Expr}{pos:Pos}{mi:S3.aD->M Iter}{g:ky}{t:S3.aD->M Bool}{m:TM}
theorem Bm(c:CompScope X scope Nc js)(T:X.calm=b_)(W:SI X E tg iter mi)
  (Z:∀C ex s H,SG (aW X scope Nc C ex s H) cw tg g/\E2 (aW X scope Nc C ex s H) cw ifs t/\SE (aW X scope Nc C ex s H) cw elt m)
  (hs:∀x,hh iter X.env x=aC x:=by intro _;rfl):SE X E (.ListComp elt [⟨tg,iter,ifs,0⟩] scope pos) (sN mi g t m js):=
 PE.imp (xr (g:=zR X.K cw g) (tt:=vI X.K cw t) (te:=tM X.K cw m) c T W Z hs) fun σ H Q ⟨ι,S,ρ,rep,re,c⟩=>
  ⟨ι,S,ρ,rep,re,ax (ak c) fun it U S1 R e1 rep1 c1 J Y=>ah (tZ (X:=X) (mi:=fun _=>aC it) (js:=js) (g:=g) (t:=t) (m:=m) rep1 (re.later rep e1) (kh c1)) .refl rep1 J Y⟩
end
end S7
namespace W
open PySem PySem.Spec PyProof.Rows L2 S3 S4 S7
def pO:cK:=bG (mY (oh (mV 0) "int") (IX (oh (mV 0) "bool")))
def cG:List D->M D:=kz 1 1 pO
def rp:cK:=bG (mY (oh (mV 0) "tuple") (aZ oC (bY cX (mV 0)) (mK (.int 2))))
def dm:List D->M D:=kz 1 1 rp
def hV:fE:=d5
def hX:TM:=aZ vJ (mV 0) (mV 1)
def nU:cK:=bG (bY iT (aL (aV (AZ (mV 0) (aL (zU (mV 0) (oS (mK (.int 1))) (oN)))) (cA 2 (aN (gN 0) (aN (gN 1) (cF)))) hV hX [none,none])))
def bM:List D->M D:=kz 1 1 nU
def eN:fE:=d5
def c0:fE:=d5
def cg:TM:=fD (ae (mV 0) (ae (mV 1) (av)))
def pP:cK:=bG (aL (m3 (oj (mV 0)) (gN 0) eN (xB (aZ iS (mV 0) (mK (.int 1))) (mV 2)) (gN 1) c0 cg [none,none,ar 0]))
def dF:List D->M D:=kz 1 1 pP
def pQ:cK:=bG (aZ inD (fD (ae (au minD (ae (mV 1) (ae (mV 2) (av)))) (ae (au maxD (ae (mV 1) (ae (mV 2) (av)))) (av)))) (aZ cn (mV 0) (mK (.int 1))))
def c8:List D->M D:=kz 3 3 pQ
def hZ:fE:=d5
def ia:TM:=aZ inD (mV 0) (mV 1)
def nV:cK:=bG (bY A5 (aL (aV (bK (mV 0)) (gN 0) hZ ia [none,ar 1])))
def gc:List D->M D:=kz 2 2 nV
def fi:fE:=d5
def fj:TM:=aZ inD (mV 0) (mV 1)
def fq:fE:=bV (bY iT (aL (aV (bK (mV 1)) (gN 0) fi fj [none,ar 0])))
def ft:TM:=mV 0
def jB:cK:=bG (bY cX (aL (aV (bK (mV 0)) (gN 0) fq ft [none,ar 1])))
def cM:List D->M D:=kz 2 2 jB
def jV:cK:=aI (jz (ec vJ (mV 1) (bY cX (mV 0))) (bG (aZ cn (mV 0) (mV 1))) (dX)) (bG (mK (.int 0)))
def dq:List D->M D:=kz 2 2 jV
def nW:cK:=aI (jz (bV (aZ cn (mV 0) (mK (.int 1)))) (aI (dh 2 (aZ oa (aZ cn (mV 0) (mK (.int 0))) (mV 1))) (aI (pG (aZ jO (aZ cn (mV 0) (mK (.int 0))) (mV 1)) (HQ (mV 0) (mK (.int 0)))) (bG (mV 2)))) (dX)) (aI (pG (aZ oa (aZ iS (aZ n8 (aZ cn (mV 0) (mK (.int 0))) (mK (.int 48271))) (mK (.int 29))) (mK (.int 2147483647))) (HQ (mV 0) (mK (.int 0)))) (aI (dh 3 (aZ oa (aZ iS (aZ iS (aZ n8 (aZ cn (mV 0) (mK (.int 0))) (aZ cn (mV 0) (mK (.int 0)))) (aZ n8 (mK (.int 39373)) (aZ cn (mV 0) (mK (.int 0))))) (mK (.int 7))) (mK (.int 2147483629)))) (aI (dh 3 (aZ oa (aZ iS (aZ n8 (mV 3) (mV 3)) (aZ n8 (mK (.int 16807)) (mV 3))) (mK (.int 2147483587)))) (bG (aZ oa (aZ jO (mV 3) (mK (.int 8))) (mV 1))))))
def aY:List D->M D:=kz 4 2 nW
def eR:fE:=d5
def eS:TM:=fD (ae (mV 1) (ae (mV 0) (av)))
def gn:cK:=kJ (Cm lJ (mV 1) (aL (aV (xB (aZ iS (mV 2) (mK (.int 1))) (mV 0)) (gN 0) eR eS [none,ar 2])))
def lR:cK:=aI (dh 1 (eL (av))) (aI (sG (oj (mV 0)) (gN 2) gn) (bG (mV 1)))
def bh:List D->M D:=kz 3 1 lR
def gp:fE:=d5
def gq:TM:=bY cb (aL (bY bJ (aL (eL (ae (aZ cn (mV 2) (mV 0)) (ae (aZ cn (mV 2) (mV 1)) (av)))))))
def lS:cK:=bG (fD (ae (aZ cn (mV 0) (mK (.int 0))) (ae (bY cb (aL (bY bJ (aL (aV (bK (aZ cn (mV 0) (mK (.int 1)))) (cA 2 (aN (gN 0) (aN (gN 1) (cF)))) gp gq [none,none,ar 1]))))) (av))))
def cU:List D->M D:=kz 2 2 lS
def pR:cK:=bG (mY (au cG (ae (mV 1) (av))) (Ff CT vJ (mK (.int 0)) (mV 1) (mV 0)))
def bU:List D->M D:=kz 2 2 pR
def kM:fE:=d5
def kN:TM:=aL (au c8 (ae (mV 1) (ae (mV 0) (ae (mV 2) (av)))))
def xK:cK:=bG (bY iT (aL (aV (bK (mV 1)) (gN 0) kM kN [none,ar 0,ar 2])))
def lU:List D->M D:=kz 3 3 xK
def jm:fE:=d5
def jo:TM:=aZ oC (aL (au c8 (ae (mV 1) (ae (mV 0) (ae (mV 2) (av)))))) (aL (au c8 (ae (mV 3) (ae (aZ cn (mV 4) (mV 0)) (ae (mV 5) (av))))))
def m4:cK:=aI (dh 4 (bY cX (mV 2))) (aI (jz (ec inD (mV 3) (mV 2)) (bG (mK (.bl dV))) (dX)) (bG (bY iT (aL (aV (oj (mV 4)) (gN 0) jm jo [none,ar 0,ar 4,ar 1,ar 2,ar 3])))))
def cN:List D->M D:=kz 5 4 m4
def lV:cK:=aI (dh 2 (au dq (ae (mV 0) (ae (mV 1) (av))))) (aI (jz (ec IT (mV 2) (aZ Ar (mK (.int 10)) (mK (.int 18)))) (bG (eL (ae (aZ iz (mV 2) (aZ Ar (mK (.int 10)) (mK (.int 18)))) (ae (mK (.bl b_)) (av))))) (dX)) (bG (eL (ae (aZ oa (mV 2) (mK (.int 2147483647))) (ae (mK (.bl dV)) (av))))))
def fF:List D->M D:=kz 3 2 lV
def cy:cK:=kJ (Cm fC (mV 3) (Cm mR (mV 2) (aL (au aY (ae (mV 0) (ae (bY cX (mV 2)) (av)))))))
def eh:cK:=aI (dh 2 (bY rh (mV 1))) (aI (dh 3 (eL (av))) (aI (Fg 64 (ec lb (mV 2) (aL (eL (av)))) cy) (bG (mV 3))))
def bq:List D->M D:=kz 4 2 eh
def pS:cK:=aI (jz (cZ (bV (au dm (ae (mV 1) (av))))) (bG (mK (.bl dV))) (dX)) (aI (pG (mV 1) (cA 2 (aN (gN 2) (aN (gN 3) (cF))))) (bG (mY (au bU (ae (mV 0) (ae (mV 2) (av)))) (mY (au bU (ae (mV 0) (ae (mV 3) (av)))) (aZ vJ (mV 2) (mV 3))))))
def jW:List D->M D:=kz 4 2 pS
def ib:fE:=d5
def ic:TM:=aL (au bU (ae (mV 1) (ae (mV 0) (av))))
def nX:cK:=bG (mY (oh (mV 1) "tuple") (mY (bY iT (aL (aV (bK (mV 1)) (gN 0) ib ic [none,ar 0]))) (aL (au bM (ae (mV 1) (av))))))
def cV:List D->M D:=kz 2 2 nX
def iU:fE:=ec vJ (aL (au aY (ae (mV 1) (ae (mK (.int 8)) (av))))) (aZ cn (aL (eL (ae (mK (.int 2)) (ae (mK (.int 4)) (ae (mK (.int 6)) (av)))))) (aZ oa (mV 2) (mK (.int 3))))
def iV:TM:=mV 0
def fV:cK:=kJ (Cm fC (mV 4) (bY cb (aL (bY bJ (aL (eL (ae (aZ cn (mV 5) (mV 6)) (ae (aZ cn (mV 5) (aZ cn (aL (eL (aR (aZ iz (mV 6) (mK (.int 1))) (aR (aZ iz (mV 6) (mK (.int 1))) (aR (mK (.int 0)) (aR (aZ jO (mV 6) (mK (.int 2))) (av))))))) (aZ iz (mV 3) (mK (.int 3))))) (av)))))))))
def eO:fE:=ec oC (aL (au aY (ae (mV 1) (ae (mK (.int 12)) (av))))) (mK (.int 0))
def eP:TM:=mV 0
def fW:fE:=ec lb (aZ inD (mV 0) (mV 1)) (aZ inD (mV 0) (mV 2))
def fX:TM:=mV 0
def jq:cK:=aI (dh 2 (au maxD (ae (mK (.int 0)) (ae (aZ iz (mV 1) (aZ cn (aL (eL (aR (mK (.int 0)) (aR (mK (.int 0)) (aR (mK (.int 1)) (aR (mK (.int 0)) (aR (mK (.int 2)) (aR (mK (.int 1)) (aR (mK (.int 3)) (aR (mV 1) (av))))))))))) (aL (au aY (ae (mV 0) (ae (mK (.int 8)) (av))))))) (av))))) (aI (dh 3 (aL (au aY (ae (mV 0) (ae (mK (.int 7)) (av)))))) (aI (dh 4 (aV (bK (aL (au bh (ae (mV 2) (av))))) (gN 0) iU iV [none,ar 0,ar 3])) (aI (dh 5 (aL (au bq (ae (mV 0) (ae (aL (bY cY (mV 2))) (av)))))) (aI (jz (ec vp (mV 3) (mK (.int 2))) (aI (dh 4 (eL (av))) (aI (sG (xB (mK (.int 1)) (mV 2)) (gN 6) fV) (aI (jz (AN (ec oC (mV 3) (mK (.int 4))) (ec vp (mV 2) (mK (.int 2)))) (kJ (Cm fC (mV 4) (bY cb (aL (bY bJ (aL (eL (ae (aZ cn (mV 5) (mK (.int 0))) (ae (aZ cn (mV 5) (aZ iz (mV 2) (mK (.int 1)))) (av)))))))))) (dX)) (aI (dh 7 (aL (aV (bK (aL (au bh (ae (mV 2) (av))))) (gN 0) eO eP [none,ar 0]))) (dh 4 (aV (bK (aL (au bh (ae (mV 2) (av))))) (gN 0) fW fX [none,ar 4,ar 7])))))) (dX)) (bG (fD (ae (mV 2) (ae (bY cb (aL (bY bJ (mV 4)))) (av)))))))))
def fP:List D->M D:=kz 8 2 jq
def iH:fE:=d5
def iI:TM:=aL (au jW (ae (mV 1) (ae (mV 0) (av))))
def pT:cK:=aI (jz (cZ (bV (aL (au dm (ae (mV 0) (av)))))) (bG (mK (.bl dV))) (dX)) (aI (pG (mV 0) (cA 2 (aN (gN 1) (aN (gN 2) (cF))))) (aI (jz (qp (cZ (bV (aL (au cG (ae (mV 1) (av)))))) (qp (cZ (v5 CT CT (mK (.int 0)) (mV 1) (mK (.int 14)))) (cZ (bV (oh (mV 2) "tuple"))))) (bG (mK (.bl dV))) (dX)) (bG (mY (bY iT (aL (aV (bK (mV 2)) (gN 0) iH iI [none,ar 1]))) (aL (au bM (ae (mV 2) (av))))))))
def d6:List D->M D:=kz 3 1 pT
def fQ:fE:=d5
def fR:TM:=aL (au lU (ae (mV 2) (ae (aL (zU (mV 3) (oN) (oS (mV 0)))) (ae (mV 1) (av)))))
def kA:cK:=aI (jz (qp (cZ (bV (aL (au cV (ae (aZ cn (mV 0) (mK (.int 0))) (ae (mV 1) (av))))))) (ec vJ (bY cX (mV 1)) (mK (.int 2)))) (bG (mK (.bl dV))) (dX)) (bG (bY iT (aL (aV (rm (mV 1)) (cA 2 (aN (gN 0) (aN (gN 1) (cF)))) fQ fR [none,none,ar 0,ar 1]))))
def c9:List D->M D:=kz 2 2 kA
def pU:cK:=jz (cZ (bV (aL (au d6 (ae (mV 0) (av)))))) (sJ "NoWeb" (ae (mK (.str "this is no web")) (av))) (dX)
def bc:List D->M D:=nI 1 1 pU
def gr:fE:=d5
def gu:TM:=aL (au c9 (ae (mV 1) (ae (mV 0) (av))))
def lW:cK:=bG (mY (oh (mV 1) "list") (mY (bY iT (aL (aV (bK (mV 1)) (gN 0) gr gu [none,ar 0]))) (aL (au bM (ae (mV 1) (av))))))
def eo:List D->M D:=kz 2 2 lW
def lX:cK:=aI (kJ (aL (au bc (ae (mV 0) (av))))) (jz (cZ (bV (aL (au bU (ae (aZ cn (mV 0) (mK (.int 0))) (ae (mV 1) (av))))))) (sJ "NoPlace" (ae (mK (.str "this is no place of the web")) (av))) (dX))
def ey:List D->M D:=nI 2 2 lX
def iJ:cK:=aI (kJ (aL (au bc (ae (mV 0) (av))))) (jz (ec vp (aZ cn (mV 0) (mK (.int 0))) (mV 1)) (lQ (ae (aZ cn (mV 0) (mK (.int 0))) (ae (mV 1) (av)))) (dX))
def bu:List D->M D:=nI 2 2 iJ
def gL:fE:=ec inD (mV 1) (mV 0)
def gM:TM:=mV 0
def gO:fE:=d5
def gP:TM:=bY cX (aL (aV (bK (mV 1)) (gN 0) gL gM [none,ar 0]))
def rq:cK:=aI (kJ (aL (au bc (ae (mV 0) (av))))) (aI (pG (mV 0) (cA 2 (aN (gN 1) (aN (gN 2) (cF))))) (bG (aL (uj (aV (oj (mV 1)) (gN 0) gO gP [none,ar 2])))))
def bx:List D->M D:=nI 3 1 rq
def iK:fE:=AN (ec inD (mV 0) (mV 2)) (ec inD (mV 1) (mV 2))
def iL:TM:=fD (ae (mV 0) (ae (mV 1) (av)))
def iM:fE:=d5
def iN:TM:=fD (ae (Bl kL (mV 2) (mV 0)) (ae (Bl kL (mV 2) (mV 1)) (av)))
def uC:cK:=aI (kJ (aL (au bc (ae (mV 0) (av))))) (aI (pG (mV 0) (cA 2 (aN (gN 2) (aN (gN 3) (cF))))) (aI (jz (cZ (bV (aL (au cV (ae (mV 2) (ae (mV 1) (av))))))) (sJ "NoPlaces" (ae (mK (.str "this is no rising tuple of places of the web")) (av))) (dX)) (aI (Ja (dh 4 (aL (aV (bK (mV 3)) (cA 2 (aN (gN 0) (aN (gN 1) (cF)))) iK iL [none,none,ar 1])))) (bG (fD (ae (bY cX (mV 1)) (ae (bY cb (aL (uj (aV (bK (mV 4)) (cA 2 (aN (gN 0) (aN (gN 1) (cF)))) iM iN [none,none,ar 1])))) (av))))))))
def ie:List D->M D:=nI 5 2 uC
def eT:cK:=aI (kJ (aL (au bc (ae (mV 0) (av))))) (jz (ec vp (bY cX (aZ cn (mV 0) (mK (.int 1)))) (mK (.int 7))) (lQ (ae (bY cX (aZ cn (mV 0) (mK (.int 1)))) (ae (mK (.int 7)) (av)))) (dX))
def cO:List D->M D:=nI 1 1 eT
def gQ:fE:=bV (aL (au gc (ae (aZ cn (mV 2) (mV 0)) (ae (aZ cn (mV 2) (mV 1)) (av)))))
def gR:TM:=fD (ae (mV 0) (ae (mV 1) (av)))
def m5:cK:=aI (kJ (aL (au cO (ae (mV 0) (av))))) (aI (dh 1 (aZ cn (mV 0) (mK (.int 1)))) (aI (dh 2 (bY cX (mV 1))) (bG (fD (ae (mV 2) (ae (bY cb (aL (uj (aV (bK (aL (au dF (ae (mV 2) (av))))) (cA 2 (aN (gN 0) (aN (gN 1) (cF)))) gQ gR [none,none,ar 1])))) (av)))))))
def bz:List D->M D:=nI 3 1 m5
def jr:fE:=ec inD (mV 2) (mV 1)
def jt:TM:=mV 0
def rz:cK:=aI (kJ (aL (au ey (ae (mV 0) (ae (mV 1) (av)))))) (bG (bY cb (aL (uj (aV (rm (aZ cn (mV 0) (mK (.int 1)))) (cA 2 (aN (gN 0) (aN (gN 1) (cF)))) jr jt [none,none,ar 1])))))
def i8:List D->M D:=nI 2 2 rz
def gv:fE:=d5
def gw:TM:=aZ jO (aZ n8 (mV 0) (aZ iz (mV 0) (mK (.int 1)))) (mK (.int 2))
def lY:cK:=bG (bY C9 (aL (sN (bK (aL (au bx (ae (mV 0) (av))))) (gN 0) gv gw [none])))
def ez:List D->M D:=nI 1 1 lY
def jX:cK:=kJ (aL (au bu (ae (mV 0) (ae (mK (.int 7)) (av)))))
def cH:List D->M D:=nI 1 1 jX
def kB:cK:=aI (kJ (aL (au bc (ae (mV 0) (av))))) (aI (kJ (aL (au bc (ae (mV 1) (av))))) (aI (kJ (aL (au bu (ae (mV 0) (ae (mK (.int 7)) (av)))))) (kJ (aL (au bu (ae (mV 1) (ae (mK (.int 7)) (av))))))))
def bP:List D->M D:=nI 2 2 kB
def pV:cK:=aI (kJ (aL (au cH (ae (mV 0) (av))))) (bG (aL (au c9 (ae (mV 0) (ae (mV 1) (av))))))
def ig:List D->M D:=nI 2 2 pV
def fG:fE:=d5
def fH:TM:=aL (au bU (ae (mV 1) (ae (mV 0) (av))))
def ik:fE:=d5
def il:TM:=aL (au cN (aR (mV 2) (aR (mV 3) (aR (aL (zU (mV 4) (oN) (oS (mV 0)))) (aR (mV 1) (av))))))
def nY:cK:=aI (kJ (aL (au bP (ae (mV 0) (ae (mV 1) (av)))))) (aI (dh 3 (aZ cn (mV 0) (mK (.int 0)))) (aI (jz (qp (ec lb (aZ cn (mV 1) (mK (.int 0))) (mV 3)) (qp (cZ (bV (oh (mV 2) "tuple"))) (ec lb (bY cX (mV 2)) (mV 3)))) (bG (mK (.bl dV))) (dX)) (aI (jz (cZ (bV (bY iT (aL (uj (aV (bK (mV 2)) (gN 0) fG fH [none,ar 3])))))) (bG (mK (.bl dV))) (dX)) (bG (bY iT (aL (uj (aV (rm (mV 2)) (cA 2 (aN (gN 0) (aN (gN 1) (cF)))) ik il [none,none,ar 0,ar 1,ar 2]))))))))
def d7:List D->M D:=nI 4 3 nY
def gx:fE:=d5
def gy:TM:=aZ oC (aL (au cM (ae (mV 1) (ae (mV 0) (av))))) (mK (.int 1))
def gz:fE:=d5
def gC:TM:=aZ CT (aL (au cM (ae (mV 1) (ae (fD (ae (mV 0) (av))) (av))))) (mK (.int 2))
def lZ:cK:=aI (kJ (aL (au cH (ae (mV 0) (av))))) (aI (jz (cZ (bV (aL (au eo (ae (mV 0) (ae (mV 1) (av))))))) (bG (mK (.bl dV))) (dX)) (aI (pG (mV 0) (cA 2 (aN (gN 2) (aN (gN 3) (cF))))) (aI (jz (cZ (bV (bY iT (aL (uj (aV (bK (mV 3)) (gN 0) gx gy [none,ar 1])))))) (bG (mK (.bl dV))) (dX)) (bG (bY iT (aL (uj (aV (oj (mV 2)) (gN 0) gz gC [none,ar 1]))))))))
def eA:List D->M D:=nI 4 2 lZ
def dH:fE:=d5
def dI:TM:=aZ iz (aL (aZ iS (aZ cn (mV 2) (mV 0)) (aZ cn (mV 2) (mV 1)))) (mK (.int 2))
def eU:fE:=d5
def eV:TM:=aL (au i8 (ae (mV 1) (ae (mV 0) (av))))
def eX:fE:=ec vp (bY cX (mV 0)) (mK (.int 1))
def eY:TM:=mV 0
def eZ:fE:=ec (yH (!·)) (aL (au ig (ae (mV 1) (ae (mV 0) (av))))) (mK (.bl b_))
def fb:TM:=mV 0
def fc:fE:=ec vp (aL (au aY (ae (mV 1) (ae (mK (.int 3)) (av))))) (mK (.int 0))
def eB:TM:=mV 0
def du:fE:=d5
def dv:TM:=aZ cn (aZ cn (mV 1) (mK (.int 1))) (mV 0)
def gS:cK:=aI (v7 2 3 (ae (aL (au bz (ae (mV 1) (av)))) (ae (aL (au bx (ae (mV 1) (av)))) (av)))) (aI (jz (qp (ec (yH (!·)) (aL (au d6 (ae (mV 2) (av)))) (mK (.bl b_))) (qp (ec lb (aZ cn (mV 2) (mK (.int 0))) (bY cX (aZ cn (mV 1) (mK (.int 1))))) (ec lb (bY cX (aZ cn (mV 2) (mK (.int 1)))) (aL (au ez (ae (mV 1) (av))))))) (bG (mK (.bl dV))) (dX)) (aI (jz (ec lb (aL (au bx (ae (mV 2) (av)))) (aL (aV (bK (aZ cn (mV 1) (mK (.int 1)))) (cA 2 (aN (gN 0) (aN (gN 1) (cF)))) dH dI [none,none,ar 3]))) (bG (mK (.bl dV))) (dX)) (aI (dh 4 (aL (aV (oj (aZ cn (mV 1) (mK (.int 0)))) (gN 0) eU eV [none,ar 1]))) (aI (dh 4 (aL (bY bJ (aL (aV (bK (mV 4)) (gN 0) eX eY [none]))))) (aI (jz (ec lb (aL (aV (bK (mV 4)) (gN 0) eZ fb [none,ar 2])) (aL (eL (av)))) (bG (mK (.bl dV))) (dX)) (aI (jz (ec (yH (!·)) (aL (au eA (ae (mV 2) (ae (mV 4) (av))))) (mK (.bl b_))) (bG (mK (.bl dV))) (dX)) (aI (dh 5 (bY cb (aL (aV (oj (aZ cn (mV 2) (mK (.int 0)))) (gN 0) fc eB [none,ar 0])))) (bG (aZ oC (aL (au ie (ae (mV 2) (ae (mV 5) (av))))) (aL (au bz (ae (fD (ae (aZ cn (mV 1) (mK (.int 0))) (ae (bY cb (aL (aV (bK (mV 5)) (gN 0) du dv [none,ar 1]))) (av)))) (av)))))))))))))
def bW:List D->M D:=kz 6 2 gS
def di(F:List D->M D):cK:=jz (bV (aL (au cN (aR (mV 0) (aR (mV 1) (aR (mV 2) (aR (mV 4) (av)))))))) (aI (dh 5 (aL (au F (ae (mV 0) (ae (mV 1) (ae (aL (aZ iS (mV 2) (fD (ae (mV 4) (av))))) (av))))))) (jz (ec (yH (!·)) (mV 5) (mK .non)) (bG (mV 5)) (dX))) (dX)
def dw(F:List D->M D):cK:=aI (dh 3 (aZ cn (mV 0) (mK (.int 0)))) (aI (jz (ec oC (bY cX (mV 2)) (mV 3)) (bG (mV 2)) (dX)) (aI (sG (oj (mV 3)) (gN 4) (di F)) (bG (mK .non))))
def bF:Nat->List D->M D
 |0=>fun _=>M.fail
 |n+1=>kz 6 3 (dw (bF n))
def dy:List D->M D:=bF 8
def uD:cK:=aI (kJ (aL (au bP (ae (mV 0) (ae (mV 1) (av)))))) (aI (jz (ec lb (aL (bY bJ (aL (au bx (ae (mV 0) (av)))))) (aL (bY bJ (aL (au bx (ae (mV 1) (av))))))) (bG (mK .non)) (dX)) (bG (aL (au dy (ae (mV 0) (ae (mV 1) (ae (mK (.tup [])) (av))))))))
def ip:List D->M D:=nI 2 2 uD
def jY:cK:=aI (dh 2 (au fF (ae (mV 0) (ae (mV 1) (av))))) (aI (dh 3 (aL (au fP (ae (mV 2) (ae (mK (.int 6)) (av)))))) (aI (dh 3 (fD (ae (aZ cn (mV 3) (mK (.int 0))) (ae (aL (zU (aZ cn (mV 3) (mK (.int 1))) (oN) (oS (mK (.int 7))))) (av))))) (aI (dh 4 (aL (au cU (ae (mV 3) (ae (aL (au bq (ae (mV 2) (ae (aL (bY cY (aZ cn (mV 3) (mK (.int 0))))) (av))))) (av)))))) (aI (jz (qp (cZ (bV (aL (au bW (ae (mV 2) (ae (mV 3) (av))))))) (cZ (bV (aL (au bW (ae (mV 2) (ae (mV 4) (av)))))))) (bG (mK (.bl dV))) (dX)) (aI (dh 5 (aL (au ip (ae (aL (au bz (ae (mV 3) (av)))) (ae (aL (au bz (ae (mV 4) (av)))) (av)))))) (jz (qp (ec (yH id) (mV 5) (mK .non)) (ec (yH (!·)) (aL (au d7 (ae (aL (au bz (ae (mV 3) (av)))) (ae (aL (au bz (ae (mV 4) (av)))) (ae (mV 5) (av)))))) (mK (.bl b_)))) (bG (mK (.bl dV))) (dX)))))))
def Bo:cK:=aI (sG (oj (au maxD (ae (mK (.int 1)) (ae (au minD (ae (bY cX (mV 0)) (ae (mK (.int 6)) (av)))) (av))))) (gN 1) jY) (bG (mK (.bl b_)))
def rA:List D->M D:=kz 6 1 Bo
theorem m6:2<=lim:=by unfold lim;omega
theorem iO:gI S n (.int i)=ar (.int i):=by cases n<;>rfl
theorem sO:gI S n (.bl b)=ar (.bool b):=by cases n<;>rfl
theorem eq_int{Q:D->aE->Prop}:runs (oC (.int a) (.int b)) S Q↔Q (.bl (decide (a=b))) S:=by
 unfold oC;rw[ji iO iO];have:gi (.int a) (.int b)=decide (a=b):=by
  simp only[gi];rw[LC];simp
 rw[this]
theorem nZ(l:List Bool):boolsOf (l.map D.bl)=ar l:=by
 induction l with
 |nil=>rfl
 |cons b l ih=>simp[boolsOf,ih]
theorem fJ:(S++[xs])[S.length]? =ar xs:=by simp
theorem Hn{Q:D->aE->Prop}:runs (oC (.bl a) (.bl b)) S Q↔Q (.bl (a==b)) S:=by
 unfold oC;rw[ji sO sO];have:gi (.bool a) (.bool b)=(a==b):=by cases a<;>cases b<;>simp[gi]
 rw[this]
theorem zl{α:Type}(a:α):kK (aC a:M α)=aC a:=rfl
theorem bg{α:Type}(l:List α):l.filter (fun _=>b_)=l:=List.filter_eq_self.mpr fun _ _=>rfl
theorem de{m:cK}{ds:List D}(h:m (ds.map ar++lk (N - n) none)=aC o)(Z:outD o=aC d)(Y:ds.length=n:=by rfl):kz N n m ds=aC d:=by
 unfold kz nI;rw[if_pos Y];show(kK (m _)>>=outD)=_;rw[h,zl,aj,Z]
theorem wt{m n:TM}(Y:m ρ=aC x)(Z:n ρ=aC y):xB m n ρ=kf [x,y]:=by
 have:ae m (ae n av) ρ=aC [x,y]:=by unfold ae;rw[Y,aj,Z,aj];rfl
 unfold xB;rw[this,aj]
theorem sP{m:TM}(Z:m ρ=aC x):oj m ρ=mT [x]:=by
 have:ae m av ρ=aC [x]:=by unfold ae;rw[Z,aj];rfl
 unfold oj;rw[this,aj]
theorem Fy(h: -(2 ^ 62)<=i/\i<2 ^ 62/\ -(2 ^ 62)<=j/\j<2 ^ 62):kf [.int i,.int j]=aC ⟨bC i (j - i).toNat,.none⟩:=by unfold kf;exact if_pos h
theorem Dm(h: -(2 ^ 62)<=j/\j<2 ^ 62):mT [.int j]=aC ⟨bC 0 j.toNat,.none⟩:=by unfold mT;exact if_pos h
theorem cf{f:D->D->M D}{m n:TM}(Y:m ρ=aC x)(Z:n ρ=aC y):aZ f m n ρ=f x y:=by unfold aZ;rw[Y,aj,Z,aj]
theorem Fz{bs:List Bool}:A5 [.fz (bs.map D.bl)]=aC (.bl (bs.any id)):=by
 show(match boolsOf (bs.map D.bl)with|some bs=>(aC (D.bl (bs.any id)):M D)|none=>M.fail)=_
 rw[nZ]
theorem cJ{f:List D->M D}{m:TM}(h:m ρ=aC x):bY f m ρ=f [x]:=by
 have:ae m av ρ=aC [x]:=by unfold ae;rw[h,aj];rfl
 unfold bY au;rw[this,aj]
theorem cc{m:TM}(h:m ρ=aC x):bG m ρ=aC (.ret x):=by unfold bG;rw[h];rfl
theorem kO(bs:List Bool):cT 0 (bs.map D.bl)=true:=by
 induction bs with
 |nil=>rfl
 |cons x r ih=>rw[Kr];unfold cT;rw[ih];unfold gD;rfl
theorem iq{mi:aD->M Iter}{g:ky}{t:fE}{m:TM}(R:aD->Prop)(q:D->Bool)(f:D->D)(W:mi ρ=aC ⟨its,.none⟩)(Z:its.length<=lim)(Y:R (gh js ρ))(X:∀d∈its,∀ ρ,R ρ->∃ ρ1,g d ρ=aC ρ1/\R ρ1/\t ρ1=aC (q d)/\(q d=b_->m ρ1=aC (f d)))
  (U:cT 0 ((its.filter q).map f)=b_):aL (aV mi g t m js) ρ=aC (.fz ((its.filter q).map f)):=by
 have e:aV mi g t m js ρ=bD ((its.filter q).map f):=by
  unfold aV;rw[W,aj,xI R q f Z Y X,aj]
 unfold aL;rw[e];exact cu U (by rw[JV];exact J4 (Kv _ _) Z)
section
variable {m n:cK}{ρ ρ':aD}{e e1 e2:TM}{x y d:D}{t:fE}{b:Bool}{o:Out}{N k:Nat}{ds:List D}{F:List D->M D}
theorem aJ(h:m ρ=aC (.nx ρ')):aI m n ρ=n ρ':=by unfold aI;rw[h];rfl
theorem eQ(h:m ρ=aC (.ret d)):aI m n ρ=aC (.ret d):=by unfold aI;rw[h];rfl
theorem wu(h:m ρ=M.raise x):aI m n ρ=M.raise x:=by unfold aI;rw[h];rfl
theorem fw(h:e ρ=aC x):kJ e ρ=aC (.nx ρ):=by unfold kJ;rw[h];rfl
theorem uE(h:e ρ=M.raise x):kJ e ρ=M.raise x:=by unfold kJ;rw[h];rfl
theorem fS(h:e ρ=aC x):dh i e ρ=aC (.nx (ρ.set i (ar x))):=by unfold dh;rw[h];rfl
theorem bH(h:t ρ=aC b):jz t m n ρ=if b=b_ then m ρ else n ρ:=by unfold jz;rw[h];rfl
theorem bO{f:D->D->M D}(Y:e1 ρ=aC x)(Z:e2 ρ=aC y)(h:f x y=aC (.bl b)):ec f e1 e2 ρ=aC b:=by
 unfold ec;rw[Y,aj,Z,aj,h];rfl
theorem b8(h:e ρ=aC x):au F (ae e av) ρ=F [x]:=cJ h
theorem d8(h:e ρ=aC x):aL e ρ=aC x:=by unfold aL;rw[h];exact sM
theorem Jx(h:e ρ=M.raise x):aL e ρ=M.raise x:=by unfold aL;rw[h];exact Bh
theorem df(h:m (ds.map ar++lk (N - k) none)=aC o)(Y:outD o=aC d)(Z:ds.length=k:=by rfl):nI N k m ds=aC d:=by
 unfold nI;rw[if_pos Z,h,aj,Y]
theorem gY(h:m (ds.map ar++lk (N - k) none)=M.raise x)(Z:ds.length=k:=by rfl):nI N k m ds=M.raise x:=by
 unfold nI;rw[if_pos Z,h];rfl
end
theorem m7:kK (bD us)=bD us:=by
 funext S;unfold kK bD;by_cases h:us.length<=lim
 ·rw[if_pos h]
 ·rw[if_neg h]
theorem l6{mi:aD->M Iter}{g:ky}{t:fE}{m:TM}(R:aD->Prop)(q:D->Bool)(f:D->D)(W:mi ρ=aC ⟨its,.none⟩)(Z:its.length<=lim)(Y:R (gh js ρ))(X:∀d∈its,∀ ρ,R ρ->∃ ρ1,g d ρ=aC ρ1/\R ρ1/\t ρ1=aC (q d)/\(q d=b_->m ρ1=aC (f d)))
  (U:cT 0 ((its.filter q).map f)=b_):aL (uj (aV mi g t m js)) ρ=aC (.fz ((its.filter q).map f)):=by
 have e:uj (aV mi g t m js) ρ=bD ((its.filter q).map f):=by
  unfold uj aV;rw[W,aj,xI R q f Z Y X,aj,m7]
 unfold aL;rw[e];exact cu U (by rw[JV];exact J4 (Kv _ _) Z)
theorem call2{F:List D->M D}{e1 e2:TM}(Y:e1 ρ=aC x)(Z:e2 ρ=aC y):au F (ae e1 (ae e2 av)) ρ=F [x,y]:=by
 have:ae e1 (ae e2 av) ρ=aC [x,y]:=by unfold ae;rw[Y,aj,Z,aj];rfl
 unfold au;rw[this,aj]
theorem gE{e:TM}(h:e ρ=aC (.bl b)):bV e ρ=aC b:=by unfold bV;rw[h];rfl
theorem jZ{us:List D}(h:us.length<=lim):cb [.fz us]=aC (.tup us):=by
 show bA us=_;unfold bA;rw[if_pos h]
section
variable {α β:Type}{c:M α}{f:α->M β}{S S1:aE}{a:α}
theorem aQ(h:c S=ar (.ok a,S1)):(c>>=f) S=f a S1:=by
 show M.bnd c f S=_;unfold M.bnd;rw[h]
end
section
variable {m n:cK}{ρ ρ':aD}{e e1 e2:TM}{x y:D}{S S1 S2:aE}{c:M D}{f:D->List D->M D}{F:List D->M D}
theorem bo(h:m ρ S=ar (.ok (.nx ρ'),S1)):aI m n ρ S=n ρ' S1:=aQ h
theorem Bp(h:e ρ S=ar (.ok x,S1)):kJ e ρ S=ar (.ok (.nx ρ),S1):=aQ h
theorem dN(h:e ρ S=ar (.ok x,S1)):dh i e ρ S=ar (.ok (.nx (ρ.set i (ar x))),S1):=aQ h
theorem j4(h:e ρ S=ar (.ok x,S1)):bG e ρ S=ar (.ok (.ret x),S1):=aQ h
theorem gT{us:List D}(h:us.length<=lim):bD us S=ar (.ok (.lst S.length),S++[us]):=by unfold bD;exact if_pos h
theorem ju(h:S[p]? =ar us):getL p S=ar (.ok us,S):=by unfold getL;rw[h];rfl
theorem oJ{us:List D}(h:us.length<=lim)(Z:p<S.length):mO p us S=ar (.ok .non,S.set p us):=by unfold mO;exact if_pos ⟨h,Z⟩
theorem Bq(h:e ρ S=ar (.ok x,S1)):bY F e ρ S=F [x] S1:=by
 unfold bY au;rw[aQ (a:=[x]) (S1:=S1)];show(e ρ>>=_) S=_;rw[aQ h];rfl
theorem FA(Y:e1 ρ S=ar (.ok x,S1))(Z:e2 ρ S1=ar (.ok y,S2)):fD (ae e1 (ae e2 av)) ρ S=ar (.ok (.tup [x,y]),S2):=by
 unfold fD;rw[aQ (a:=[x,y]) (S1:=S2)]
 ·unfold bA;rw[if_pos (show[x,y].length<=lim from m6)];rfl
 ·show(e1 ρ>>=_) S=_;rw[aQ Y];show(((e2 ρ>>=_)>>=_):M (List D)) S1=_;rw[aQ (a:=[y]) (S1:=S2)]
  ·rfl
  ·rw[aQ Z];rfl
end
theorem oK:gH ⟨its,.none⟩ g b [] ρ=aC (.nx ρ):=by
 unfold gH;rw[cm];rfl
theorem wx{g:ky}{b:cK}(h:g d ρ=aC ρ1)(Z:b ρ1 S=ar (.ok (.nx ρ2),S1)):gH ⟨its,.none⟩ g b (d::ds) ρ S=gH ⟨its,.none⟩ g b ds ρ2 S1:=by
 rw[gH,cm,aj,h,aj,aQ Z]
theorem ir{m:cK}{ds:List D}(h:m (ds.map ar++lk (N - n) none) S=ar (.ok o,S1))(Z:outD o=aC d)(Y:ds.length=n:=by rfl):kz N n m ds S=ar (.ok d,S1):=by
 unfold kz nI;rw[if_pos Y,aQ (a:=o) (S1:=S1),Z]
 ·rfl
 ·show kK (m _) S=_;unfold kK;rw[h]
theorem wy{mi:aD->M Iter}(Z:mi ρ=aC ⟨its,.none⟩)(h:gH ⟨its,.none⟩ g b its ρ S=ar (.ok o,S1)):sG mi g b ρ S=ar (.ok o,S1):=by
 unfold sG;rw[Z,aj];exact h
theorem m9{bs:List Bool}:iT [.fz (bs.map D.bl)]=aC (.bl (bs.all id)):=by
 show(match boolsOf (bs.map D.bl)with|some bs=>(aC (D.bl (bs.all id)):M D)|none=>M.fail)=_
 rw[nZ]
theorem bb{e:TM}{es:aD->M (List D)}(Z:e ρ=aC x)(Y:es ρ=aC ys):ae e es ρ=aC (x::ys):=by
 unfold ae;rw[Z,aj,Y];rfl
section
variable {e1 e2:TM}{f:D->D->M D}{x y:D}{S S1 S2:aE}{ρ:aD}{F:List D->M D}
theorem pW(Y:e1 ρ S=ar (.ok x,S1))(Z:e2 ρ S1=ar (.ok y,S2)):aZ f e1 e2 ρ S=f x y S2:=by
 unfold aZ;rw[aQ Y,aQ Z]
theorem d9{es:aD->M (List D)}(Z:e1 ρ S=ar (.ok x,S1))(Y:es ρ S1=ar (.ok ys,S2)):ae e1 es ρ S=ar (.ok (x::ys),S2):=by
 unfold ae;rw[aQ Z,aQ Y];rfl
theorem D5(h:S[p]? =ar us)(Z:k9 us j=ar x):cn (.lst p) (.int j) S=ar (.ok x,S):=by
 show(getL p>>=fun xs=>match k9 xs j with|some d=>(aC d:M D)|none=>M.fail) S=_
 rw[aQ (ju h),Z];rfl
theorem Br{es:aD->M (List D)}(h:es ρ S=ar (.ok ys,S1))(Z:ys.length<=lim):eL es ρ S=ar (.ok (.lst S1.length),S1++[ys]):=by
 unfold eL;rw[aQ h];exact gT Z
end
def wz:D->Bool
 | .int _=>b_
 |_=>dV
abbrev Cp(d:D):Prop:=vP d=b_
def pX:D->Bool
 | .tup [_,_]=>b_
 |_=>dV
def cz(many:Int):D->Bool
 | .int i=>decide (0<=i) && decide (i<many)
 |_=>dV
def jF(many:Int):D->Bool
 | .tup [a,b]=>cz many a && (cz many b && match a,b with| .int i,.int j=>decide (i<j)|_,_=>dV)
 |_=>dV
def Jy(d:D):Prop:=Cp d/\∀ds,d= .tup ds->∀x∈ds,Cp x
theorem i9(h:cz many d=b_):∃i,d= .int i/\0<=i/\i<many:=by
 cases d with
 |int i=>exact⟨i,rfl,by simpa [cz]using h⟩
 |_=>cases h
def sQ:D->D->Bool
 | .tup xs,.tup ys=>match intsOf xs,intsOf ys with
  |some a,ar b=>HT.lexLt a b
  |_,_=>dV
 |_,_=>dV
def sR:List D->Bool
 |a::b::r=>sQ a b && sR (b::r)
 |_=>b_
def xM(d:D):Prop:=∃ds ns,d= .tup ds/\intsOf ds=ar ns
theorem xN:∀l:List D,((l.zip (l.drop 1)).map fun p=>sQ p.1 p.2).all id=sR l
 |[]=>rfl
 |[_]=>rfl
 |a::b::r=>by
  have:=xN (b::r);simp only[List.drop_succ_cons,D',D_,NC,vn,id]at this⊢;rw[sR, <-this]
theorem FB(l:List D):S3.cutD l (ar 1) none=l.drop 1:=by
 unfold S3.cutD HT.sIx;cases l with
 |nil=>rfl
 |cons a r=>simp
def Ho(d:D):Prop:=Cp d/\∀ds,d= .tup ds->∀x∈ds,Cp x/\∀ts,x= .tup ts->∀t∈ts,Jy t
def l9:D->Bool
 | .tup [.int many,.tup ties]=>decide (0<=many) && (decide (many<=14) && (ties.all (jF many) && sR ties))
 |_=>dV
theorem Dn(h:jF many d=b_):∃i j,d= .tup [.int i,.int j]/\0<=i/\i<j/\j<many:=by
 unfold jF at h;split at h
 ·next a b=>
  simp only[i']at h;obtain⟨Y,W,Z⟩:=h;obtain⟨i,rfl,U,S⟩:=i9 Y;obtain⟨j,rfl,T,X⟩:=i9 W;simp only[decide_eq_true_eq]at Z;exact⟨i,j,rfl,U,Z,X⟩
 ·cases h
theorem zm(h:jF many d=b_):xM d:=by
 obtain⟨i,j,rfl,_⟩:=Dn h;exact⟨_,[i,j],rfl,rfl⟩
section
variable {many:Int}{d:D}{ρ:aD}{e1 e2:TM}{b:Bool}{y:D}
theorem and_eq(X:e1 ρ=aC (.bl b))(Z:b=b_->e2 ρ=aC y)(Y:b=dV->y= .bl dV):mY e1 e2 ρ=aC y:=by
 unfold mY;rw[X];cases b with
 |true=>exact Z rfl
 |false=>rw[Y rfl];rfl
theorem Hq{a b:Int}:oC (.int a) (.int b)=aC (.bl (decide (a=b))):=dE fun S=>eq_int.mpr ⟨rfl,rfl⟩
theorem xO(h:Cp d):cG [d]=aC (.bl (wz d)):=by
 cases d<;>first|rfl|cases h
theorem sS(h:Cp d):dm [d]=aC (.bl (pX d)):=by
 cases d with
 |tup ds=>
  refine de (cc (and_eq (b:=b_) rfl (fun _=>(cf (y:=.int 2) (cJ (x:=.tup ds) rfl) rfl).trans Hq) (fun e=>by cases e))) ?_
  show aC (D.bl (decide ((ds.length:Int)=2)))=_
  match ds with
  |[]=>rfl
  |[_]=>rfl
  |[_,_]=>rfl
  |_::_::_::r=>rw[Kg (by simp only[s_];omega)];rfl
 |_=>first|rfl|cases h
theorem ma(h:Cp d):bU [.int many,d]=aC (.bl (cz many d)):=by
 cases d with
 |int i=>
  refine de (cc (and_eq (b:=b_) ((b8 rfl).trans (xO h)) (fun _=>?_) (fun e=>by cases e))) rfl
  show(if decide (0<=i)=b_ then (aC (D.bl (decide (i<many))):M D)else aC (.bl dV))=aC (.bl (decide (0<=i) && decide (i<many)));by_cases h0:0<=i
  ·rw[if_pos (J3 h0),J3 h0,Le]
  ·rw[if_neg (by rw[Kk];exact h0),Kg h0,Lw]
 |_=>first|rfl|cases h
theorem xP(h:pX d=b_):∃a b,d= .tup [a,b]:=by
 unfold pX at h;split at h
 ·exact⟨_,_,rfl⟩
 ·cases h
theorem sT{b:D}:jF many (.tup [a,b])=(cz many a && (cz many b && match a,b with| .int i,.int j=>decide (i<j)|_,_=>dV)):=rfl
theorem FC(h:Jy d):jW [.int many,d]=aC (.bl (jF many d)):=by
 by_cases hp:pX d=b_
 ·obtain⟨a,b,rfl⟩:=xP hp;have X:Cp a:=h.2 _ rfl a (.head _);have W:Cp b:=h.2 _ rfl b (.tail _ (.head _));refine de (o:=.ret (.bl (jF many (.tup [a,b])))) ?_ rfl;unfold pS;have Y:cZ (bV (au dm (ae (mV 1) av))) [ar (.int many),ar (.tup [a,b]),none,none]=aC false:=by
   show(bV _ _>>=_)=_;rw[gE ((b8 rfl).trans (sS h.1))];rfl
  refine(aJ (ρ':=[ar (.int many),ar (.tup [a,b]),none,none]) ((bH Y).trans (if_neg (by decide)))).trans ((aJ (ρ':=[ar (.int many),ar (.tup [a,b]),ar a,ar b]) rfl).trans (cc ?_))
  refine and_eq (b:=cz many a) ((call2 rfl rfl).trans (ma X)) (fun k1=>and_eq (b:=cz many b) ((call2 rfl rfl).trans (ma W)) (fun k2=>?_) fun k2=>?_) fun k1=>?_
  ·obtain⟨i,rfl,_⟩:=i9 k1;obtain⟨j,rfl,_⟩:=i9 k2;rw[sT,k1,k2];rfl
  ·rw[sT,k2,Lw,Bool.and_false]
  ·rw[sT,k1,Lw]
 ·have Z:pX d=false:=by rw[<-L0];exact hp
  have Y:cZ (bV (au dm (ae (mV 1) av))) [ar (.int many),ar d,none,none]=aC true:=by
   show(bV _ _>>=_)=_;rw[gE ((b8 rfl).trans (sS h.1)),Z];rfl
  refine(de (o:=.ret (.bl dV)) (eQ ((bH Y).trans (if_pos rfl))) rfl).trans ?_;unfold jF;split
  ·cases hp rfl
  ·rfl
theorem FD{a b:D}(Z:xM a)(Y:xM b):vJ a b=aC (.bl (sQ a b)):=by
 obtain⟨xs,ns,rfl,e1⟩:=Z;obtain⟨ys,ms,rfl,e2⟩:=Y;simp only[vJ,e1,e2,sQ]
def Jz:D->D
 | .tup [a,b]=>.bl (sQ a b)
 |_=>.non
theorem Bs(h:∀t∈ts,xM t)(W:ts.length<=1000):bM [.tup ts]=aC (.bl (sR ts)):=by
 have em:(((ts.zip (ts.drop 1)).map fun p:D×D=>D.tup [p.1,p.2]).filter fun _=>b_).map Jz=((ts.zip (ts.drop 1)).map fun p=>sQ p.1 p.2).map D.bl:=by
  rw[bg,Ke,Ke];rfl
 have hs:aL (zU (mV 0) (oS (mK (.int 1))) oN) [ar (.tup ts)]=aC (.tup (ts.drop 1)):=by
  refine d8 (?_ :bA (S3.cutD ts (ar 1) none)=_);rw[FB];unfold bA;exact if_pos (by rw[LY];unfold lim;omega)
 have X:AZ (mV 0) (aL (zU (mV 0) (oS (mK (.int 1))) oN)) [ar (.tup ts)]=aC ⟨(ts.zip (ts.drop 1)).map fun p:D×D=>D.tup [p.1,p.2],.none⟩:=by
  unfold AZ;rw[bb (x:=.tup ts) rfl (bb hs rfl)];rfl
 have Y:=iq (g:=cA 2 (aN (gN 0) (aN (gN 1) cF))) (t:=hV) (m:=hX) (js:=[none,none]) (fun ρ=>∃x y,ρ=[x,y]) (fun _=>b_) Jz X (by rw[JV,List.length_zip];unfold lim;omega) ⟨none,none,rfl⟩
  (fun d hd ρ ⟨x,y,hρ⟩=>by
   subst hρ;obtain⟨⟨a,b⟩,Z,rfl⟩:=Kb.mp hd;exact⟨_,rfl,⟨_,_,rfl⟩,rfl,fun _=>(cf (x:=a) (y:=b) rfl rfl).trans (FD (h a (L8 Z).1) (h b (List.mem_of_mem_drop (L8 Z).2)))⟩) (by rw[em];exact kO _)
 rw[em]at Y;refine de (cc ((cJ Y).trans m9)) ?_;rw[xN];rfl
theorem Bt(h:Ho d)(W:∀m ts,d= .tup [m,.tup ts]->ts.length<=1000):d6 [d]=aC (.bl (l9 d)):=by
 by_cases hp:pX d=b_
 ·obtain⟨a,t,rfl⟩:=xP hp;obtain⟨N,_⟩:=h.2 _ rfl a (.head _);obtain⟨S,Q⟩:=h.2 _ rfl t (.tail _ (.head _));refine de (o:=.ret (.bl (l9 (.tup [a,t])))) ?_ rfl;unfold pT;have O:cZ (bV (aL (au dm (ae (mV 0) av)))) [ar (.tup [a,t]),none,none]=aC false:=by
   show(bV _ _>>=_)=_;rw[gE (d8 ((b8 rfl).trans (sS h.1)))];rfl
  refine(aJ (ρ':=[ar (.tup [a,t]),none,none]) ((bH O).trans (if_neg (by decide)))).trans ((aJ (ρ':=[ar (.tup [a,t]),ar a,ar t]) rfl).trans ?_)
  have hw:cZ (bV (aL (au cG (ae (mV 1) av)))) [ar (.tup [a,t]),ar a,ar t]=aC (!wz a):=by
   show(bV _ _>>=_)=_;rw[gE (d8 ((b8 rfl).trans (xO N)))];rfl
  have X:∀{p q:fE} {b:Bool} {ρ:aD},p ρ=aC b->qp p q ρ=if b=b_ then aC b_ else q ρ:=fun{p q b ρ} e=>by
   show(p ρ>>=_)=_;rw[e];rfl
  have no:∀{q:fE},qp (cZ (bV (aL (au cG (ae (mV 1) av))))) q [ar (.tup [a,t]),ar a,ar t]=aC b_->aI (jz (qp (cZ (bV (aL (au cG (ae (mV 1) av))))) q) (bG (mK (.bl dV))) dX) (bG (mY (bY iT (aL (aV (bK (mV 2)) (gN 0) iH iI [none,ar 1]))) (aL (au bM (ae (mV 2) av))))) [ar (.tup [a,t]),ar a,ar t]=aC (.ret (.bl dV)):=fun e=>eQ ((bH e).trans (if_pos rfl));by_cases ew:wz a=b_
  ·cases a with
   | int many=>
    rw[ew]at hw;have T:cZ (v5 CT CT (mK (.int 0)) (mV 1) (mK (.int 14))) [ar (.tup [.int many,t]),ar (.int many),ar t]=aC (!(decide (0<=many) && decide (many<=14))):=by
     show(((if decide (0<=many)=b_ then (aC (D.bl (decide (many<=14))):M D)else aC (.bl dV))>>=lD)>>=_)=_;by_cases h0:0<=many
     ·rw[if_pos (J3 h0),J3 h0,Le];rfl
     ·rw[if_neg (by rw[Kk];exact h0),Kg h0,Lw];rfl
    by_cases hr:(decide (0<=many) && decide (many<=14))=b_
    ·rw [hr]at T;cases t with
     | tup ts=>
      have R:=W _ ts rfl;have L:qp (cZ (bV (aL (au cG (ae (mV 1) av))))) (qp (cZ (v5 CT CT (mK (.int 0)) (mV 1) (mK (.int 14)))) (cZ (bV (oh (mV 2) "tuple")))) [ar (.tup [.int many,.tup ts]),ar (.int many),ar (.tup ts)]=aC false:=by
       rw[X hw,if_neg (by decide),X T,if_neg (by decide)];rfl
      refine(aJ ((bH L).trans (if_neg (by decide)))).trans (cc ?_)
      have em:(ts.filter fun _=>b_).map (fun d=>D.bl (jF many d))=(ts.map (jF many)).map D.bl:=by rw[bg,Ke];rfl
      have hm:=iq (mi:=bK (mV 2)) (ρ:=[ar (.tup [.int many,.tup ts]),ar (.int many),ar (.tup ts)]) (g:=gN 0) (t:=iH) (m:=iI) (js:=[none,ar 1]) (its:=ts) (fun ρ=>∃x,ρ=[x,ar (.int many)]) (fun _=>b_) (fun d=>.bl (jF many d)) rfl (by unfold lim;omega) ⟨none,rfl⟩
       (fun d hd ρ ⟨x,hρ⟩=>by
        subst hρ;exact⟨_,rfl,⟨_,rfl⟩,rfl,fun _=>d8 ((call2 (x:=.int many) (y:=d) rfl rfl).trans (FC (Q ts rfl d hd)))⟩) (by rw[em];exact kO _)
      rw[em]at hm;have U:(ts.map (jF many)).all id=ts.all (jF many):=by rw[L7];rfl
      have Y:l9 (.tup [.int many,.tup ts])=(ts.all (jF many) && sR ts):=by
       show(decide (0<=many) && (decide (many<=14) && (ts.all (jF many) && sR ts)))=_;rw[<-Bool.and_assoc,hr,Le]
      rw[Y];refine and_eq (b:=ts.all (jF many)) ((cJ hm).trans (m9.trans (by rw[U]))) (fun Z=>?_) fun Z=>by rw[Z];rfl
      rw[Z,Le];exact d8 ((b8 rfl).trans (Bs (fun t S=>zm (Ki.mp Z t S)) R))
     |_=>first|exact no (by rw[X hw,if_neg (by decide),X T,if_neg (by decide)];rfl)|cases S
    ·have Y:l9 (.tup [.int many,t])=false:=by
      cases t<;>first|rfl|(show(decide (0<=many) && (decide (many<=14) && _))=dV;rw[<-Bool.and_assoc,L0 _ |>.mp hr,Lw])
     rw[Y];rw[L0 _ |>.mp hr]at T;exact no (by rw[X hw,if_neg (by decide),X T];rfl)
   |_=>cases ew
  ·have Y:l9 (.tup [a,t])=false:=by cases a<;>first|rfl|exact absurd rfl ew
   rw[Y];exact no (by rw[X hw,L0 _ |>.mp ew];rfl)
 ·have P:pX d=false:=by rw[<-L0];exact hp
  have O:cZ (bV (aL (au dm (ae (mV 0) av)))) [ar d,none,none]=aC true:=by
   show(bV _ _>>=_)=_;rw[gE (d8 ((b8 rfl).trans (sS h.1))),P];rfl
  refine(de (o:=.ret (.bl dV)) (eQ ((bH O).trans (if_pos rfl))) rfl).trans ?_;unfold l9;split
  ·cases hp rfl
  ·rfl
end
def eH(S:aE)(k:Nat):Prop:=∃st b,S[k]? =ar [.int st,.bl b]/\0<=st/\(b=dV->st<2147483647)
theorem eH.lt{S:aE}{k:Nat}(h:eH S k):k<S.length:=let ⟨_,_,e,_⟩:=h;(J2.mp e).1
theorem Bu{t:fE}{m n:cK}{ρ:aD}{b:Bool}{S S1:aE}(h:t ρ S=ar (.ok b,S1)):jz t m n ρ S=if b=b_ then m ρ S1 else n ρ S1:=by
 show(t ρ>>=fun c=>if c=b_ then m ρ else n ρ) S=_;rw[aQ h];split<;>rfl
section
variable {S:aE}{k:Nat}{st x y many:Int}{b:Bool}{r:List (Option D)}{e1 e2:TM}{ρ:aD}
theorem Gj(e:S[k]? =ar [.int st,.bl b]):aZ cn (mV 0) (mK (.int 0)) (ar (.lst k)::r) S=ar (.ok (.int st),S):=D5 e rfl
theorem nc(Y:e1 ρ S=ar (.ok (.int x),S))(Z:e2 ρ S=ar (.ok (.int y),S))(h:0<y):aZ oa e1 e2 ρ S=ar (.ok (.int (x % y)),S):=
 (pW Y Z).trans (Kz (if_pos h:(if 0<y then (aC (D.int (x % y)):M D)else M.fail)=_) S)
theorem pY(Y:e1 ρ S=ar (.ok (.int x),S))(Z:e2 ρ S=ar (.ok (.int y),S))(h:rR x y):aZ n8 e1 e2 ρ S=ar (.ok (.int (x*y)),S):=
 (pW Y Z).trans (Kz (if_pos h:(if rR x y then (aC (D.int (x*y)):M D)else M.fail)=_) S)
theorem Bv(Y:e1 ρ S=ar (.ok (.int x),S))(Z:e2 ρ S=ar (.ok (.int y),S))(h:vw x y):aZ jO e1 e2 ρ S=ar (.ok (.int (x / y)),S):=
 (pW Y Z).trans (Kz (if_pos h:(if vw x y then (aC (D.int (x / y)):M D)else M.fail)=_) S)
theorem sU(Y:e1 ρ S=ar (.ok (.int x),S))(Z:e2 ρ S=ar (.ok (.int y),S)):aZ iS e1 e2 ρ S=ar (.ok (.int (x+y)),S):=(pW Y Z).trans rfl
theorem Hr(e:S[k]? =ar [.int st,.bl b])(h:e1 (ar (.lst k)::r) S=ar (.ok (.int x),S)):pG e1 (HQ (mV 0) (mK (.int 0))) (ar (.lst k)::r) S=ar (.ok (.nx (ar (.lst k)::r)),S.set k [.int x,.bl b]):=by
 have Y:jM (.lst k) (.int 0) (.int x) S=ar (.ok (),S.set k [.int x,.bl b]):=by
  show(getL k>>=_) S=_;rw[aQ (ju e)];exact aQ (oJ (us:=[.int x,.bl b]) m6 (J2.mp e).1)
 have Z:HQ (mV 0) (mK (.int 0)) (.int x) (ar (.lst k)::r) S=ar (.ok (ar (.lst k)::r),S.set k [.int x,.bl b]):=aQ Y;show(e1 _>>=_) S=_;rw[aQ h];exact aQ Z
theorem pZ{m n:cK}{d:D}{S1:aE}(h:m ρ S=ar (.ok (.ret d),S1)):aI m n ρ S=ar (.ok (.ret d),S1):=aQ h
end
theorem FE{S:aE}{k:Nat}{many:Int}{Q:D->aE->Prop}(hs:eH S k)(Y:0<many)(P:many<1073741824)
  (X:∀j S',0<=j->j<many->S'.length=S.length->(∀i,i≠k->S'[i]? =S[i]?)->eH S' k->Q (.int j) S'):runs (aY [.lst k,.int many]) S Q:=by
 have R:=hs.lt;obtain⟨st,b,e,O,L⟩:=hs;have q:∀x:Int,0<=x % many/\x % many<many:=fun x=>⟨MF _ (by omega),Mc _ Y⟩
 have U:bV (aZ cn (mV 0) (mK (.int 1))) [ar (.lst k),ar (.int many),none,none] S=ar (.ok b,S):=aQ (D5 (x:=.bl b) e rfl);have Z:∀(ys:List D) i,i≠k->(S.set k ys)[i]? =S[i]? :=fun ys i N=>KQ (lx N);cases b with
 |true=>
  refine⟨_,_,ir (o:=.ret (.int (st % many))) (S1:=S.set k [.int (st / many),.bl b_]) ?_ rfl,X _ _ (q _).1 (q _).2 (by simp) (Z _) ⟨_,b_,KR R,Int.ediv_nonneg O (by omega),fun z=>by cases z⟩⟩
  exact pZ ((Bu U).trans ((bo (dN (nc (Gj e) rfl Y))).trans ((bo (Hr e (Bv (Gj e) rfl ⟨Y,P⟩))).trans (j4 rfl))))
 |false=>
  have J:=L rfl;generalize hst:(st*48271+29) % 2147483647=st';have s1:0<=st':=by rw[<-hst];exact MF _ (by decide)
  have s2:st'<2147483647:=by rw[<-hst];exact Mc _ (by decide)
  have e1:(S.set k [.int st',.bl dV])[k]? =ar [.int st',.bl dV]:=KR R;have W:=Hr (r:=[ar (.int many),none,none]) e (nc (sU (pY (Gj e) (e2:=mK (.int 48271)) rfl (.inr ⟨by decide,by decide⟩)) (e2:=mK (.int 29)) rfl) (e2:=mK (.int 2147483647)) rfl (by decide))
  rw[hst]at W;have T:∀r,aZ oa (aZ iS (aZ iS (aZ n8 (aZ cn (mV 0) (mK (.int 0))) (aZ cn (mV 0) (mK (.int 0)))) (aZ n8 (mK (.int 39373)) (aZ cn (mV 0) (mK (.int 0))))) (mK (.int 7))) (mK (.int 2147483629)) (ar (.lst k)::r) (S.set k [.int st',.bl dV])=_:=fun r=>nc (sU (sU (pY (Gj e1) (Gj e1) (.inl ⟨by omega,by omega⟩)) (pY rfl (Gj e1) (.inl ⟨by decide,by decide⟩))) rfl) rfl (by decide)
  generalize hx:(st'*st'+39373*st'+7) % 2147483629=x at T;have K:0<=x:=by rw[<-hx];exact MF _ (by decide)
  have I:x<2147483629:=by rw[<-hx];exact Mc _ (by decide)
  refine⟨_,_,ir (o:=.ret (.int ((x*x+16807*x) % 2147483587 / 8 % many))) (S1:=S.set k [.int st',.bl dV]) ?_ rfl,X _ _ (q _).1 (q _).2 (by simp) (Z _) ⟨_,dV,e1,s1,fun _=>s2⟩⟩
  exact(bo (Bu U)).trans ((bo W).trans ((bo (dN (T _))).trans ((bo (dN (nc (sU (pY rfl rfl (.inl ⟨by omega,by omega⟩)) (pY rfl rfl (.inl ⟨by decide,by decide⟩))) rfl (by decide)))).trans (j4 (nc (Bv rfl rfl ⟨by decide,by decide⟩) rfl Y)))))
theorem FF{S:aE}{ns:List Int}{k:Nat}:∃i,dq [.ro (ns.map D.int),.int k] S=ar (.ok (.int i),S):=by
 have Z:ec vJ (mV 1) (bY cX (mV 0)) [ar (.ro (ns.map D.int)),ar (.int k)]=aC (decide ((k:Int)<(ns.map D.int).length)):=bO (x:=.int k) (y:=.int (ns.map D.int).length) rfl rfl rfl;by_cases h:k<ns.length
 ·refine⟨ns[k],ir (o:=.ret (.int ns[k])) (pZ ((Kz ((bH Z).trans (if_pos (J3 (by rw[JV];omega)))) S).trans (j4 (x:=.int ns[k]) (S1:=S) ?_))) rfl⟩
  have e:k9 (ns.map D.int) (k:Int)=ar (.int ns[k]):=by
   unfold k9 zQ;simp[h]
  show(match k9 (ns.map D.int) k with|some d=>(aC d:M D)|none=>M.fail) S=_
  rw[e];rfl
 ·exact⟨0,ir (o:=.ret (.int 0)) (Kz ((aJ ((bH Z).trans (if_neg (by rw[Kk,JV];omega)))).trans rfl) S) rfl⟩
theorem Do{S:aE}{ns:List Int}{k:Nat}{Q:D->aE->Prop}(X:∀xs,eH (S++[xs]) S.length->Q (.lst S.length) (S++[xs])):runs (fF [.ro (ns.map D.int),.int k]) S Q:=by
 obtain⟨c,U⟩:=FF (S:=S) (ns:=ns) (k:=k);have Z:dh 2 (au dq (ae (mV 0) (ae (mV 1) av))) [ar (.ro (ns.map D.int)),ar (.int k),none] S=ar (.ok (.nx [ar (.ro (ns.map D.int)),ar (.int k),ar (.int c)]),S):=dN (x:=.int c) (by rw[call2 (x:=.ro (ns.map D.int)) (y:=.int k) rfl rfl];exact U)
 have W:∀ ρ,aZ Ar (mK (.int 10)) (mK (.int 18)) ρ=aC (.int 1000000000000000000):=fun ρ=>(cf (x:=.int 10) (y:=.int 18) rfl rfl).trans (if_pos (e:=M.fail) (show Cz 10 18 from⟨by decide,by decide,by decide⟩))
 have Y:ec IT (mV 2) (aZ Ar (mK (.int 10)) (mK (.int 18))) [ar (.ro (ns.map D.int)),ar (.int k),ar (.int c)]=aC (decide (1000000000000000000<=c)):=bO (x:=.int c) rfl (W _) rfl;by_cases h:1000000000000000000<=c
 ·exact⟨_,_,ir (o:=.ret (.lst S.length)) ((bo Z).trans (pZ ((Kz ((bH Y).trans (if_pos (J3 h))) S).trans (j4 (Br (ys:=[.int (c - 1000000000000000000),.bl b_]) (d9 (S1:=S) (Kz ((cf (x:=.int c) rfl (W _)).trans rfl) S) (d9 rfl rfl)) m6))))) rfl,X _ ⟨_,b_,fJ,by omega,fun z=>by cases z⟩⟩
 ·exact⟨_,_,ir (o:=.ret (.lst S.length)) ((bo Z).trans ((bo (Kz ((bH Y).trans (if_neg (by rw[Kk];exact h))) S)).trans (j4 (Br (ys:=[.int (c % 2147483647),.bl dV]) (d9 (nc rfl rfl (by decide)) (d9 rfl rfl)) m6)))) rfl,X _ ⟨_,dV,fJ,MF _ (by decide),fun _=>Mc _ (by decide)⟩⟩
def jG(n a:Nat):List (List Int):=(n_ (a+1) (n - (a+1))).map fun b:Nat=>[(a:Int),(b:Int)]
def bI(n:Nat):List (List Int):=(d_ n).flatMap (jG n)
theorem pairs_len(Z:n<=14):(bI n).length<=91:=by
 have:∀m,m<15->(bI m).length<=91:=by decide+kernel
 exact this n (by omega)
theorem Dp(Z:n<=14):(jG n a).length<=14:=by unfold jG;simp;omega
structure Kp(k:Nat)(S S':aE):Prop where
 len:S.length<=S'.length
 oth:∀i,i<S.length->i≠k->S'[i]? =S[i]?
 st:eH S' k
theorem Kp.trans(a:Kp k S S1)(b:Kp k S1 S2):Kp k S S2:=⟨J4 a.len b.len,fun i Y Z=>(b.oth i (Kd Y a.len) Z).trans (a.oth i Y Z),b.st⟩
theorem Kp.refl(h:eH S k):Kp k S S:=⟨JY _,fun _ _ _=>rfl,h⟩
theorem eH.grow(h:eH S k):eH (S++G) k:=by
 obtain⟨st,b,e,r⟩:=id h;exact⟨st,b,by rw[Kx h.lt];exact e,r⟩
theorem Kp.grow(h:eH S k)(G:aE):Kp k S (S++G):=⟨by simp,fun i Z _=>Kx Z,h.grow⟩
theorem Dq{Q:D->aE->Prop}(hs:eH S k)(Y:0<many)(W:many<1073741824)(U:∀j Z,0<=j->j<many->Z.length=S.length->Kp k S Z->Q (.int j) Z):runs (aY [.lst k,.int many]) S Q:=
 FE hs Y W fun j Z a b c d e=>U j Z a b c ⟨Ls c.symm,fun i _ X=>d i X,e⟩
theorem km:∀ns:List Int,mapP (gI S n) (ns.map D.int)=ar (ns.map oo)
 |[]=>rfl
 |x::r=>by
  show(match gI S n (D.int x),mapP (gI S n) (r.map D.int)with|some p,ar ps=>ar (p::ps)|_,_=>none)=_
  rw[iO,km r];rfl
theorem Bw{ns:List Int}(h:S[k]? =ar (ns.map D.int)):gI S (n+1) (.lst k)=ar (.list (ns.map oo)):=by
 show((S[k]?).bind fun xs=>(mapP (gI S n) xs).map w7)=_;rw[h];show(mapP (gI S n) (ns.map D.int)).map w7=_;rw[km];rfl
theorem rB{α Z:Type}(f:α->Z):∀(l:List α) (i:Nat),(l.map f).eraseIdx i=(l.eraseIdx i).map f
 |[],_=>rfl
 |_::_,0=>rfl
 |a::l,i+1=>by simp[rB f l i]
def gU(r:List Int):PyData:=.tuple (r.map oo)
theorem ko(r:List Int):gI S (n+1) (tupI r)=ar (gU r):=by
 show(mapP (gI S n) (r.map D.int)).map u0=_;rw[km];rfl
theorem ja:∀rs:List (List Int),mapP (gI S (n+1)) (rs.map tupI)=ar (rs.map gU)
 |[]=>rfl
 |x::r=>by
  show(match gI S (n+1) (tupI x),mapP (gI S (n+1)) (r.map tupI)with|some p,ar ps=>ar (p::ps)|_,_=>none)=_
  rw[ko,ja r];rfl
theorem Bx{rs:List (List Int)}(h:S[k]? =ar (rs.map tupI)):gI S (n+2) (.lst k)=ar (.list (rs.map gU)):=by
 show((S[k]?).bind fun xs=>(mapP (gI S (n+1)) xs).map w7)=_;rw[h];show(mapP (gI S (n+1)) (rs.map tupI)).map w7=_;rw[ja];rfl
theorem Ds{rs:List (List Int)}{Q:D->aE->Prop}(h:S[k]? =ar (rs.map tupI))(Z:∀b,Q (.bl b) S):runs (inD (tupI r) (.lst k)) S Q:=by
 unfold inD;rw[oH (ko r) (Bx h) rfl];exact Z _
theorem Hs{Q:D->aE->Prop}(Z:∀b,Q (.bl b) S):runs (lb (.bl a) (.bl b)) S Q:=by
 unfold lb;rw[ji sO sO];exact Z _
theorem dG(ns:List Int):intsOf (ns.map D.int)=ar ns:=by
 induction ns with
 |nil=>rfl
 |cons x r ih=>simp[intsOf,ih]
theorem p9(rs:List (List Int)):rowsOf (rs.map tupI)=ar rs:=by
 induction rs with
 |nil=>rfl
 |cons x r ih=>
  show(match intsOf (x.map D.int),rowsOf (r.map tupI)with|some ns,ar nss=>ar (ns::nss)|_,_=>none)=_
  rw[dG,ih]
structure WebOk(many:Int)(ts:List (List Int)):Prop where
 el:∀t∈ts,∃a b:Int,t=[a,b]/\0<=a/\a<b/\b<many
 ris:ts.Pairwise fun a b=>HT.lexLt a b=b_
 few:ts.length<=21
theorem uF:∀t∈bI n,∃a b:Int,t=[a,b]/\0<=a/\a<b/\b<n:=by
 intro t Y;unfold bI at Y;obtain⟨a,W,X⟩:=Mt.mp Y;unfold jG at X;obtain⟨b,Z,rfl⟩:=Kb.mp X;rw[Ml]at Z;rw[Ka]at W;exact⟨a,b,rfl,by omega,by omega,by omega⟩
theorem rC(Z:n<=7):(bI n).Pairwise (fun a b=>HT.lexLt a b=b_)/\(bI n).length<=21:=by
 have:∀m,m<8->(bI m).Pairwise (fun a b=>HT.lexLt a b=b_)/\(bI m).length<=21:=by decide+kernel
 exact this n (by omega)
theorem WebOk.of_sub(Y:n<=7){Z:List (List Int)}(h:Z.Sublist (bI n)):WebOk n Z:=
 ⟨fun t X=>uF t (h.subset X),Lf h (rC Y).1,J4 h.length_le (rC Y).2⟩
theorem zo{Z:List (List Int)}(h:Z.Pairwise fun a b=>HT.lexLt a b=b_):cI Z=Z:=
 mX (bS Z) (gK Z) (h.imp fun z=>lM z)
theorem zq:sQ (tupI a) (tupI b)=HT.lexLt a b:=by
 simp only[sQ,tupI,dG]
theorem uG:∀{ts:List (List Int)},ts.Pairwise (fun a b=>HT.lexLt a b=b_)->sR (ts.map tupI)=b_
 |[],_=>rfl
 |[_],_=>rfl
 |a::b::r,h=>by
  obtain⟨Y,Z⟩:=KB.mp h;show(sQ (tupI a) (tupI b) && sR ((b::r).map tupI))=b_;rw[zq,Y b (by simp),uG Z];rfl
theorem sV(Y:0<=many)(Z:many<=14)(w:WebOk many ts):l9 (.tup [.int many,.tup (ts.map tupI)])=true:=by
 have:(ts.map tupI).all (jF many)=true:=by
  rw[L7,Ki];intro t U;obtain⟨a,b,rfl,W,T,X⟩:=w.el t U;simp[tupI,jF,cz,W,T,X];omega
 simp only[l9,Y,Z,this,uG w.ris,decide_true,Bool.and_self]
structure Good(d:D):Prop where
 nr:Ho d
 few:∀m ts,d= .tup [m,.tup ts]->ts.length<=18
theorem Ht{xs:List D}{j:Int}(Y:0<=j)(X:j<xs.length):∃d,k9 xs j=ar d/\d∈xs:=by
 have Z:j.toNat<xs.length:=by omega
 refine⟨xs[j.toNat],?_,Ln Z⟩;unfold k9 zQ;simp[Y,X,Z]
section
variable {d:D}
theorem Hu(h:Ho d)(Z:∀m ts,d= .tup [m,.tup ts]->ts.length<=1000):jE (d6 [d])=aC (.bl (l9 d)):=by rw[Bt h Z];exact sM
theorem By(h:Ho d)(Y:∀m ts,d= .tup [m,.tup ts]->ts.length<=1000):bc [d]=if l9 d=b_ then aC .non else M.raise (.exc "NoWeb" []):=by
 have Z:cZ (bV (aL (au d6 (ae (mV 0) av)))) [ar d]=aC (!l9 d):=by
  show(bV _ _>>=_)=_;rw[gE (b:=l9 d) (d8 ((b8 rfl).trans (Bt h Y)))];rfl
 cases hw:l9 d with
 |true=>exact(df ((bH Z).trans (by rw[hw];exact if_neg (by decide))) rfl).trans (if_pos rfl).symm
 |false=>exact(gY ((bH Z).trans (by rw[hw];exact if_pos rfl))).trans (if_neg (by decide)).symm
end
def JA(n:Nat):D->List D
 | .int a=>(jG n a.toNat).map tupI
 |_=>[]
theorem Dt(n a:Nat):((bC ((a:Int)+1) ((n:Int) - ((a:Int)+1)).toNat).filter fun _=>b_).flatMap (fun d=>[D.tup [.int a,d]])=(jG n a).map tupI:=by
 have e:((n:Int) - ((a:Int)+1)).toNat=n - (a+1):=by omega
 rw[e,bg];unfold bC jG;rw[M3,Ke,Ke,List.flatMap_map]
 induction (d_ (n - (a+1)))with
 |nil=>rfl
 |cons x l ih=>rw[M4,ih];rfl
theorem Du(n:Nat):((bC 0 n).filter fun _=>b_).flatMap (JA n)=(bI n).map tupI:=by
 rw[bg];unfold bC bI;rw[List.flatMap_map,List.map_flatMap];congr 1;funext a;show(jG n (0+(a:Int)).toNat).map tupI=_;congr 2;omega
theorem bX(l:List (List Int)):cT 0 (l.map tupI)=true:=by
 have h:∀r:List Int,cT 0 (r.map D.int)=true:=fun r=>by
  induction r with
  |nil=>rfl
  |cons x r ih=>rw[Kr];unfold cT;rw[ih];unfold gD;rfl
 induction l with
 |nil=>rfl
 |cons x l ih=>rw[Kr];unfold cT;rw[ih];unfold tupI gD;rw[h];rfl
theorem uH(Z:n<=50):(bI n).length<=2500:=by
  have:∀l:List Nat,(l.flatMap (jG n)).length<=l.length*50:=fun l=>by
    induction l with
    |nil=>exact JY 0
    | cons x l ih => rw[M4,J5,KD,MO];have:(jG n x).length<=50:=by unfold jG;simp;omega
                     omega
  have:=this (d_ n);rw[Kc]at this;unfold bI;exact J4 this (Nat.mul_le_mul_right 50 Z)
theorem Hv{n a:Nat}(T:n<=50)(U:a<n)(y:Option D):∃ ρ2,(∃x y,ρ2=[x,y,ar (.int n)])/\Fw (xB (aZ iS (mV 0) (mK (.int 1))) (mV 2)) (gN 1) c0 cg [ar (.int a),y,ar (.int n)]=aC ((jG n a).map tupI,ρ2):=by
 obtain⟨ρ',⟨Z,rfl⟩,e⟩:=xJ (its:=bC ((a:Int)+1) ((n:Int) - ((a:Int)+1)).toNat) (g:=gN 1) (t:=c0) (bd:=y8 cg) (fun ρ=>∃y,ρ=[ar (.int a),y,ar (.int n)]) (fun _=>b_) (fun d=>[D.tup [.int a,d]]) (bC ((a:Int)+1) ((n:Int) - ((a:Int)+1)).toNat) [ar (.int a),y,ar (.int n)] ⟨y,rfl⟩ fun d hd ρ ⟨y,hρ⟩=>by
  subst hρ;refine⟨_,rfl,rfl,fun _=>⟨[ar (.int a),ar d,ar (.int n)],⟨_,rfl⟩,?_⟩,fun h=>by cases h⟩
  have:cg [ar (.int a),ar d,ar (.int n)]=aC (.tup [.int a,d]):=by
   show bA [.int a,d]=_;unfold bA;exact if_pos m6
  show(cg [ar (.int a),ar d,ar (.int n)]>>=_)=_;rw[this];rfl
 refine⟨[ar (.int a),Z,ar (.int n)],⟨ar (.int a),Z,rfl⟩,?_⟩;have W: -(2 ^ 62)<=(a:Int)+1/\(a:Int)+1<2 ^ 62/\ -(2 ^ 62)<=(n:Int)/\(n:Int)<2 ^ 62:=by omega
 have Y:(bC ((a:Int)+1) ((n:Int) - ((a:Int)+1)).toNat).length<=3000:=by unfold bC;simp;omega
 rw[Dt]at e;have X:xB (aZ iS (mV 0) (mK (.int 1))) (mV 2) [ar (.int a),y,ar (.int n)]=aC ⟨bC ((a:Int)+1) ((n:Int) - ((a:Int)+1)).toNat,.none⟩:=by
  exact(wt (cf (x:=.int a) (y:=.int 1) rfl rfl) (y:=.int n) rfl).trans (Fy W)
 unfold Fw;rw[X,aj];dsimp only;rw[if_pos Y];exact e
theorem Dv{n:Nat}(U:n<=50):jE (dF [.int n])=aC (.fz ((bI n).map tupI)):=by
 obtain⟨ρ',_,e⟩:=xJ (its:=bC 0 n) (g:=gN 0) (t:=eN) (bd:=Fw (xB (aZ iS (mV 0) (mK (.int 1))) (mV 2)) (gN 1) c0 cg) (fun ρ=>∃x y,ρ=[x,y,ar (.int n)]) (fun _=>b_) (JA n) (bC 0 n) [none,none,ar (.int n)] ⟨none,none,rfl⟩ fun d hd ρ ⟨x,y,hρ⟩=>by
  subst hρ;obtain⟨a,R,rfl⟩:=Kb.mp hd;have Y:=Ka.mp R;refine⟨_,rfl,rfl,fun _=>?_,fun h=>by cases h⟩
  obtain⟨Z,X,W⟩:=Hv U Y y;refine⟨Z,X,?_⟩;show Fw _ _ _ _ [ar (.int (0+(a:Int))),y,ar (.int n)]=_;rw[MM,W];rfl
 rw[Du]at e;have O: -(2 ^ 62)<=(n:Int)/\(n:Int)<2 ^ 62:=by omega
 have Q:(bC 0 n).length<=3000:=by unfold bC;simp;omega
 have X:m3 (oj (mV 0)) (gN 0) eN (xB (aZ iS (mV 0) (mK (.int 1))) (mV 2)) (gN 1) c0 cg [none,none,ar 0] [ar (.int n)]=bD ((bI n).map tupI):=by
  have P:oj (mV 0) [ar (.int n)]=aC ⟨bC 0 n,.none⟩:=by
   have:=(sP (m:=mV 0) (ρ:=[ar (.int n)]) (x:=.int n) rfl).trans (Dm O);rw[La]at this;exact this
  have T:gh [none,none,ar 0] [ar (D.int n)]=[none,none,ar (.int n)]:=rfl;unfold m3;rw[P,aj];dsimp only;rw[if_pos Q,T,e,aj]
 have W:bG (aL (m3 (oj (mV 0)) (gN 0) eN (xB (aZ iS (mV 0) (mK (.int 1))) (mV 2)) (gN 1) c0 cg [none,none,ar 0])) [ar (.int n)]=aC (.ret (.fz ((bI n).map tupI))):=by
  unfold bG aL;rw[X,cu (bX _) (by rw[JV];exact J4 (uH U) (by unfold lim;omega))]
  rfl
 have S:dF [.int n]=aC (.fz ((bI n).map tupI)):=by
  exact de W rfl
 rw[S];exact sM
abbrev aw(n:Nat)(E:List (List Int)):D:=.tup [.int n,.tup (E.map tupI)]
theorem wA:Ho (aw n E):=by
 refine⟨rfl,?_⟩;intro ds e x Z;cases e;simp only[f',e_,or_false]at Z;rcases Z with rfl|rfl
 ·exact⟨rfl,fun Y e=>by cases e⟩
 ·refine⟨rfl,fun Y e t X=>?_⟩;cases e;obtain⟨r,_,rfl⟩:=Kb.mp X;refine⟨rfl,fun ds e x Z=>?_⟩;cases e;obtain⟨i,_,rfl⟩:=Kb.mp Z;exact rfl
theorem sW{n:Nat}{E:List (List Int)}(w:WebOk n E):∀m Z,aw n E= .tup [m,.tup Z]->Z.length<=1000:=by
 intro m Z e;cases e;have:=w.few;rw[JV];omega
def great(a:Nat):D:=.exc "TooGreat" [.int a,.int 7]
theorem Hw{n:Nat}{E:List (List Int)}(W:n<=14)(w:WebOk n E):cO [aw n E]=if 7<E.length then M.raise (great E.length)else aC .non:=by
 have hw:l9 (aw n E)=true:=sV (by omega) (by omega) w
 have h0:bc [aw n E]=aC .non:=by rw[By wA (sW w),if_pos hw]
 have Z:bY cX (aZ cn (mV 0) (mK (.int 1))) [ar (aw n E)]=aC (.int E.length):=by
  refine(cJ (x:=.tup (E.map tupI)) rfl).trans ?_;show aC (D.int (E.map tupI).length)=_;rw[JV]
 have Y:ec vp (bY cX (aZ cn (mV 0) (mK (.int 1)))) (mK (.int 7)) [ar (aw n E)]=aC (decide (7<(E.length:Int))):=bO Z rfl rfl;have hm:eT [ar (aw n E)]=if 7<E.length then M.raise (great E.length)else aC (.nx [ar (aw n E)]):=by
  unfold eT;rw[aJ (fw (d8 ((b8 rfl).trans h0))),bH Y];by_cases h:7<E.length
  ·rw[if_pos h,if_pos (J3 (by omega))]
   have X:ae (bY cX (aZ cn (mV 0) (mK (.int 1)))) (ae (mK (.int 7)) av) [ar (aw n E)]=aC [.int E.length,.int 7]:=by
    unfold ae;rw[Z];rfl
   unfold lQ;rw[X];rfl
  ·rw[if_neg h,if_neg (by rw[Kk];omega)]
 by_cases h:7<E.length
 ·rw[if_pos h]at hm⊢;exact gY hm
 ·rw[if_neg h]at hm⊢;exact df hm rfl
section
variable {S S':aE}{k:Nat}
theorem oM(Z:Kp k S S'):pL S S':=fun i xs Y e=>by
 by_cases h:i=k
 ·subst h;obtain⟨st,b,e2,_⟩:=Z.st;rw[e2]at e;cases e;exact .inr rfl
 ·exact .inl (by rw[<-Z.oth i Y h];exact e)
theorem xQ(hs:eH S k)(Y:Kp k S S'):Kp k S (S'.take S.length)/\(S'.take S.length).length=S.length:=by
 have W:(S'.take S.length).length=S.length:=by rw[KF];have:=Y.len;omega
 have X:∀i,i<S.length->(S'.take S.length)[i]? =S'[i]? :=fun i Z=>by rw[LP,if_pos Z]
 refine⟨⟨Ls W.symm,fun i Z U=>(X i Z).trans (Y.oth i Z U),?_⟩,W⟩;obtain⟨st,b,e,r⟩:=Y.st;exact⟨st,b,(X k hs.lt).trans e,r⟩
theorem D6{c:M D}(hs:eH S k)(h:c S=ar (.ok d,S'))(Z:Kp k S S')(Y:gD 0 d=b_):∃S1,jE c S=ar (.ok d,S1)/\Kp k S S1/\S1.length=S.length:=
 ⟨_,pM h (oM Z) (.inr rfl) Z.len (Bg d (D4 (Ku _) d Y)),xQ hs Z⟩
theorem FH:gD 0 (aw n E)=true:=by
 unfold aw gD cT gD cT gD;rw[bX];rfl
theorem xR(hs:eH S k)(Y:0<many)(X:many<1073741824):∃j S1,jE (aY [.lst k,.int many]) S=ar (.ok (.int j),S1)/\0<=j/\j<many/\Kp k S S1/\S1.length=S.length:=by
 obtain⟨d,S',e,j,rfl,a,b,Z⟩:=Dq (Q:=fun d S'=>∃j,d= .int j/\0<=j/\j<many/\Kp k S S') hs Y X fun j S' a b _ Z=>⟨j,rfl,a,b,Z⟩;obtain⟨S1,e1,k1⟩:=D6 hs e Z rfl;exact⟨j,S1,e1,a,b,k1⟩
end
theorem wB(h:n<=k)(Z:S[k]? =ar us)(Y:cT 0 us=b_):ki n (Co S n (f+1)) (.lst k)=ar (.fz us):=by
 unfold ki;rw[if_neg (by omega)]
 show((S[k]?).bind fun xs=>jD n (Co S n f) xs).map D.fz=_;rw[Z,Option.bind_some,iG us (jU (Ku _) us Y)];rfl
theorem Hx{S G:aE}(i:Nat):(S++G)[S.length+i]? =G[i]? :=by rw[LU (Nat.le_add_right _ _),Nat.add_sub_cancel_left]
theorem WebOk.sub{T:List (List Int)}(w:WebOk n E)(h:T.Sublist E):WebOk n T:=⟨fun t Z=>w.el t (h.subset Z),w.ris.sublist h,J4 h.length_le w.few⟩
section
variable {ρ:aD}{js:List Nat}{ds:List D}{m:TM}{c:M D}{R:M D->List D->M D}{x:D}
end
section
variable {me e:TM}{g:ky}{ρ ρ':aD}{S S1 S2:aE}{d:D}{F:List D->M D}{x y:D}
end
section
variable {S S1 S2:aE}{k p q:Nat}{e1 e2:TM}{ρ:aD}{x y:D}{f:D->List D->M D}{xs:List D}
theorem xS(Y:e1 ρ=aC x)(Z:Gf x=aC ())(X:e2 ρ S=ar (.ok y,S1)):Cm f e1 e2 ρ S=f x [y] S1:=by
 unfold Cm;rw[Y,aj,Z,aj,aQ (a:=[y]) (S1:=S1)];rw[aQ X];rfl
theorem Bz(Z:S[p]? =ar xs)(Y:xs.length<=1000):fC (.lst p) [d] S=ar (.ok .non,S.set p (xs++[d])):=by
 show(getL p>>=fun xs=>mO p (xs++[d])) S=_;rw[aQ (ju Z)];exact oJ (by rw[J5];show xs.length+1<=lim;unfold lim;omega) (J2.mp Z).1
theorem pop_at{j:Int}{d:D}(Z:S[p]? =ar xs)(U:xs.length<=1000)(Y:0<=j)(X:j<xs.length)(W:xs[j.toNat]? =ar d):mR (.lst p) [.int j] S=ar (.ok d,S.set p (xs.eraseIdx j.toNat)):=by
 show(getL p>>=fun xs=>if 0<=j/\j<xs.length then (match xs[j.toNat]? with|some y=>(do let _<-mO p (xs.eraseIdx j.toNat);aC y)|none=>M.fail)else M.fail) S=_
 rw[aQ (ju Z),if_pos ⟨Y,X⟩,W];show(mO p (xs.eraseIdx j.toNat)>>=fun _=>aC d) S=_;rw[aQ (oJ (by have:=List.length_eraseIdx_le xs j.toNat;unfold lim;omega) (J2.mp Z).1)];rfl
theorem FI{ns:List Int}(Y:S[p]? =ar (ns.map D.int)):lb (.lst p) (.fz []) S=ar (.ok (.bl (!ns.isEmpty)),S):=by
 have X:gI S 60 (.fz [])=ar (.list []):=rfl;obtain⟨d,Z,e,h⟩:=(ji (f:=fun p q=> !gi p q) (Q:=fun d Z=>d= .bl (!ns.isEmpty)/\Z=S) (Bw (n:=59) Y) X).mpr ⟨by
  have:gi (.list (ns.map oo)) (.list [])=ns.isEmpty:=by cases ns<;>simp[gi,l_]
  rw[this],rfl⟩
 obtain⟨rfl,rfl⟩:=h;exact e
end
theorem Kp.set(Y:Kp k S S')(U:S.length<=p)(W:k<S.length):Kp k S (S'.set p xs):=by
 refine⟨by rw[Ni];exact Y.len,fun i X Z=>?_,?_⟩
 ·rw[KQ (by omega)];exact Y.oth i X Z
 ·obtain⟨st,b,e,r⟩:=Y.st;exact⟨st,b,by rw[KQ (by omega)];exact e,r⟩
theorem wC{l:List Int}(h:j<l.length):(l[j]::l.eraseIdx j).Perm l:=by
 induction l generalizing j with
 |nil=>cases h
 |cons x l ih=>
  cases j with
  |zero=>exact .refl _
  |succ j=>exact(List.Perm.swap _ _ _).trans ((ih (by simpa using h)).cons _)
theorem Jd{j:Int}(h: -(2 ^ 62)<=j/\j<=lim):cY [.int j]=bD (bC 0 j.toNat):=by unfold cY;exact if_pos h
theorem jv(r:List Int):cT 0 (r.map D.int)=true:=by
 induction r with
 |nil=>rfl
 |cons x r ih=>rw[Kr];unfold cT;rw[ih];unfold gD;rfl
def eI(n:Nat):List Int:=(d_ n).map fun i:Nat=>(0:Int)+(i:Int)
inductive Dr(P:D->D->Prop):List D->List D->Prop
 |nil:Dr P [] []
 |skip {d:D} {ds ys:List D}:Dr P ds ys->Dr P (d::ds) ys
 |put {d y:D} {ds ys:List D}:P d y->Dr P ds ys->Dr P (d::ds) (y::ys)
theorem Dr.len:∀{ds ys:List D},Dr P ds ys->ys.length<=ds.length
 |_,_,.nil=>JY _
 |_,_,.skip h=>Nat.le_succ_of_le h.len
 |_,_,.put _ h=>LZ h.len
theorem Dr.cl{P:D->D->Prop}(Z:∀d y,P d y->gD 0 y=b_):∀{ds ys:List D},Dr P ds ys->cT 0 ys=b_
 |_,_,.nil=>rfl
 |_,_,.skip h=>h.cl Z
 |_,_,.put p h=>by unfold cT;rw[Z _ _ p,h.cl Z];rfl
theorem kP{g:ky}{t:aD->M Bool}{m:TM}(R:aD->Prop)(P:D->D->Prop):∀(items:List D) (ρ:aD) (S:aE),R ρ->eH S k->
  (∀d∈items,∀ ρ S,R ρ->eH S k->∃Z b S1,g d ρ=aC Z/\R Z/\t Z S=ar (.ok b,S1)/\Kp k S S1/\S1.length=S.length/\(b=b_->∃y Y,m Z S1=ar (.ok y,Y)/\P d y/\Kp k S1 Y/\Y.length=S1.length))->
  ∃ys Y,cC ⟨its,.none⟩ g t m items ρ S=ar (.ok ys,Y)/\Dr P items ys/\Kp k S Y/\Y.length=S.length
 |[],ρ,S,_,hs,_=>⟨[],S,by unfold cC;rw[cm];rfl,.nil,.refl hs,rfl⟩
 | d::ds,ρ,S,hR,hs,hb=>by
  obtain⟨Z,b,S1,e1,X,e2,k1,N,J⟩:=hb d (Kj ..) ρ S hR hs;cases b with
  |false=>
   obtain⟨ys,Y,O,Q,k2,T⟩:=kP (its:=its) R P ds Z S1 X k1.st fun x W=>hb x (J7 _ W);refine⟨ys,Y,?_,.skip Q,k1.trans k2,T.trans N⟩;unfold cC;rw[cm,aj,e1,aj,aQ e2,if_neg (by decide)]
   exact O
  |true=>
   obtain⟨y,Y,I,K,k2,T⟩:=J rfl;obtain⟨ys,U,O,Q,k3,L⟩:=kP (its:=its) R P ds Z Y X k2.st fun x W=>hb x (J7 _ W);refine⟨y::ys,U,?_,.put K Q,(k1.trans k2).trans k3,L.trans (T.trans N)⟩;unfold cC;rw[cm,aj,e1,aj,aQ e2,if_pos rfl,aQ I,aQ O];rfl
theorem zv{mi:aD->M Iter}{g:ky}{t:fE}{m:TM}(R:aD->Prop)(P:D->D->Prop)(Q:mi ρ=aC ⟨its,.none⟩)(N:its.length<=1000)(W:R (gh js ρ))(hs:eH S k)(U:∀d y,P d y->gD 0 y=b_)
  (T:∀d∈its,∀ ρ S,R ρ->eH S k->∃ ρ1 b S1,g d ρ=aC ρ1/\R ρ1/\t ρ1 S=ar (.ok b,S1)/\Kp k S S1/\S1.length=S.length/\(b=b_->∃y Z,m ρ1 S1=ar (.ok y,Z)/\P d y/\Kp k S1 Z/\Z.length=S1.length)):
  ∃ys Z,aL (aV mi g t m js) ρ S=ar (.ok (.fz ys),Z)/\Dr P its ys/\Kp k S Z/\Z.length=S.length:=by
 obtain⟨ys,Z,e,X,k2,Y⟩:=kP (its:=its) (g:=g) (t:=t) (m:=m) (k:=k) R P its (gh js ρ) S W hs T;have hlen:=X.len;refine⟨ys,Z,?_,X,k2,Y⟩;have O:aV mi g t m js ρ S=ar (.ok (.lst Z.length),Z++[ys]):=by
  unfold aV;rw[Q,aj];unfold fA;rw[if_pos (show its.length<=lim by unfold lim;omega),aQ e]
  exact gT (by unfold lim;omega)
 have:=pM (u:=.fz ys) O (oM (k2.trans (Kp.grow k2.st [ys]))) (.inl (by rw[J5,Y];exact LK _)) (by rw[J5,Y];exact LR _) (wB (f:=59) (by omega) fJ (X.cl U))
 unfold aL;rw[this, <-Y,List.take_left]
theorem wD{f:D->D->M D}{e1 e2:TM}(Y:e1 ρ S=ar (.ok x,S1))(Z:e2 ρ S1=ar (.ok y,S2))(h:f x y=aC (.bl b)):ec f e1 e2 ρ S=ar (.ok b,S2):=by
 have:(e1 ρ>>=fun x=>e2 ρ>>=fun y=>f x y) S=ar (.ok (.bl b),S2):=by rw[aQ Y,aQ Z,h];rfl
 exact aQ this
theorem FJ{ys:List D}(Z:S[p]? =ar xs)(Y:xs.length+ys.length<=1000):lJ (.lst p) [.fz ys] S=ar (.ok .non,S.set p (xs++ys)):=by
 show(getL p>>=fun xs=>mO p (xs++ys)) S=_;rw[aQ (ju Z)];exact oJ (by rw[J5];unfold lim;omega) (J2.mp Z).1
theorem BA{l:List (List Int)}(h:l.Nodup):(cI l).Pairwise fun a b=>HT.lexLt a b=true:=by
 have Z:=gK l;have Y:(cI l).Nodup:=(List.Perm.nodup_iff (bS _)).mpr h;generalize cI l=s at Z Y
 induction s with
 |nil=>exact .nil
 |cons x r ih=>
  obtain⟨a1,a2⟩:=KB.mp Z;obtain⟨W,U⟩:=KW.mp Y;refine KB.mpr ⟨fun y X=>?_,ih a2 U⟩;cases q:HT.lexLt x y with
  |true=>rfl
  |false=>exact absurd (sC q (a1 y X) ▸ X) W
theorem rD(Z:∀r∈nss,r.length=2)(X:nss.length<64):lN (nss.map tupI)=bD ((cI nss).map tupI):=by
 cases nss with
 |nil=>rfl
 |cons r nss=>
  have W:two (r::nss)=true:=Ki.mpr fun x Y=>by rw[Z x Y];rfl
  show(match rowsOf ((r::nss).map tupI)with|some nss=>pF nss|none=>M.fail)=_
  rw[p9];exact if_pos ⟨X,W⟩
theorem BB{c:M D}{Z:aE}(h:c S=ar (.ok (.lst Z.length),Z++[us]))(Y:Kp k S Z)(l:Z.length=S.length)(X:cT 0 us=b_):jE c S=ar (.ok (.fz us),Z):=by
 have:=pM (u:=.fz us) h (oM (Y.trans (Kp.grow Y.st [us]))) (.inl (by rw[J5,l];exact LK _)) (by rw[J5,l];exact LR _) (wB (f:=59) (by omega) fJ X)
 rw[this, <-l,List.take_left]
theorem zw{Z:List (List Int)}(hs:eH S k)(Y:S[p]? =ar (Z.map tupI))(X:∀r∈Z,r.length=2)(W:Z.length<64):jE (bJ [.lst p]) S=ar (.ok (.fz ((cI Z).map tupI)),S):=by
 refine BB ?_ (Kp.refl hs) rfl (bX _);show(getL p>>=fun xs=>lN xs) S=_;rw[aQ (ju Y),rD X W];exact gT (by rw[JV,(bS Z).length_eq];unfold lim;omega)
theorem xT{zs:List Int}{a:Int}(Z:0<=a)(h:a<zs.length):cn (tupI zs) (.int a)=aC (.int (zs.getD a.toNat 0)):=by
 show(match k9 (zs.map D.int) a with|some d=>(aC d:M D)|none=>M.fail)=_
 have:k9 (zs.map D.int) a=ar (.int (zs.getD a.toNat 0)):=by
  unfold k9 zQ;rw[JV];have X:¬ (a<0):=by omega
  have Y:a.toNat<zs.length:=by omega
  simp[Z,h,Y]
 rw[this]
theorem WebOk.sort{T:List (List Int)}(h:T.Nodup)(Z:∀t∈T,∃a b:Int,t=[a,b]/\0<=a/\a<b/\b<m)(Y:T.length<=21):WebOk m (cI T):=
 ⟨fun t X=>Z t ((bS T).mem_iff.mp X),BA h,by rw[(bS T).length_eq];exact Y⟩
section
variable {n:Nat}{zs:List Int}{E:List (List Int)}
theorem xU(Z:zs.Perm (eI n))(X:i<n):0<=zs.getD i 0/\zs.getD i 0<n:=by
 have W:zs.length=n:=by rw[Z.length_eq];unfold eI;simp
 have:zs.getD i 0∈eI n:=by
  rw[<-Z.mem_iff,J1,JX (by omega)]
  exact Ln _
 unfold eI at this;obtain⟨j,Y,e⟩:=Kb.mp this;have:=Ka.mp Y;omega
theorem Dw(Z:zs.Perm (eI n)):zs.Nodup:=by
 rw[Z.nodup_iff];unfold eI;exact List.Pairwise.map _ (fun a b h e=>h (by have e2:(0:Int)+(a:Int)=0+(b:Int):=e;omega)) (Mu (n:=n))
theorem qb(Z:zs.Perm (eI n))(W:i<n)(Y:j<n)(h:zs.getD i 0=zs.getD j 0):i=j:=by
 have X:zs.length=n:=by rw[Z.length_eq];unfold eI;simp
 rw[J1,J1,JX (by omega),JX (by omega)]at h
 exact(Mq (Dw Z)).mp h
end
theorem FK{Z:aD->M (List D)}(h:Z ρ S=ar (.ok [d1,d2],S1)):v7 i j Z ρ S=ar (.ok (.nx ((ρ.set i (ar d1)).set j (ar d2))),S1):=by
 unfold v7;rw[aQ h];rfl
theorem uI{e1 e2:TM}(hs:eH S k)(Y:e1 ρ=aC (.lst k))(X:e2 ρ=aC (.int m))(Z:0<m)(W:m<1000):∃j S1,aL (au aY (ae e1 (ae e2 av))) ρ S=ar (.ok (.int j),S1)/\0<=j/\j<m/\Kp k S S1/\S1.length=S.length:=by
 obtain⟨j,S1,e,r⟩:=xR (many:=m) hs Z (by omega)
 refine⟨j,S1,?_,r⟩;unfold aL;rw[call2 Y X];exact e
theorem Hy(l:List D)(m:Nat):S3.cutD l none (ar (m:Int))=l.take m:=by
 unfold S3.cutD;rw[HT.sIx_none,HT.sIx_nat,D',Nat.sub_zero];by_cases h:m<=l.length
 ·rw[Nat.min_eq_left h]
 ·rw[Nat.min_eq_right (by omega),LN (JY _),LN (by omega)]
def bf(p:Int)(t:List Int):Bool:=t.any (· ==p)
theorem xV(p:Int):∀t:List Int,((t.map oo).any fun y=>gi y (.int p))=bf p t
 |[]=>rfl
 |x::r=>by
  rw[Kr,M7,xV p r];unfold bf;rw[M7];congr 1
theorem n0:inD (.int p) (tupI t)=aC (.bl (bf p t)):=dE fun S=>by
 unfold inD;exact(oH (iO) (ko t) (r:=bf p t) (by show ar (id ((t.map oo).any fun y=>gi y (.int p)))=_;rw[xV];rfl)).mpr ⟨rfl,rfl⟩
theorem wF{E:List (List Int)}(h:a<E.length):cn (.tup (E.map tupI)) (.int a)=aC (tupI (E.getD a [])):=by
 show(match k9 (E.map tupI) a with|some d=>(aC d:M D)|none=>M.fail)=_
 have:k9 (E.map tupI) (a:Int)=ar (tupI (E.getD a [])):=by
  unfold k9 zQ;rw[JV];have Y:¬ ((a:Int)<0):=by omega
  have Z:(a:Int)<E.length:=by omega
  simp[Y,Z,h]
 rw[this]
theorem getD_in{E:List (List Int)}(h:a<E.length):E.getD a []∈E:=by
 rw[J1,JX h];exact Ln h
theorem qc{F:List D->M D}{e1 e2 Z:TM}(W:e1 ρ=aC x)(Y:e2 ρ=aC y)(X:Z ρ=aC z):au F (ae e1 (ae e2 (ae Z av))) ρ=F [x,y,z]:=by
 unfold au;rw[bb W (bb Y (bb X rfl)),aj]
theorem mj:∀s t:List Int,l_ (s.map oo) (t.map oo)=decide (s=t)
 |[],[]=>by simp[l_]
 |[],_::_=>by simp[l_]
 |_::_,[]=>by simp[l_]
 |x::s,y::t=>by
  rw[Kr,Kr];unfold l_;rw[mj s t,LC];simp[gi]
theorem sX{α:Type} [DecidableEq α]:∀{l m:List α},l.Nodup->(∀x∈l,x∈m)->l.length<=m.length
 |[],_,_,_=>Ku _
 |x::l,m,h,hs=>by
  obtain⟨W,X⟩:=KW.mp h;have Z:=hs x (.head _);have:=sX (l:=l) (m:=m.erase x) X fun y Y=>(List.mem_erase_of_ne (fun(e:y=x)=>W (by rw[<-e];exact Y))).mpr (hs y (.tail _ Y))
  rw[List.length_erase_of_mem Z]at this;have:=List.length_pos_of_mem Z;rw[KD];omega
theorem xW{a m:Nat}:bC ((a:Int)+1) ((m:Int) - ((a:Int)+1)).toNat=(n_ (a+1) (m - (a+1))).map fun b:Nat=>.int (b:Int):=by
 have e:((m:Int) - ((a:Int)+1)).toNat=m - (a+1):=by omega
 rw[e];unfold bC;rw[M3,Ke];refine LJ fun i _=>?_;show D.int ((a:Int)+1+(i:Int))= .int ((a+1+i:Nat):Int);congr 1
theorem Dx(E:List (List Int)):jA (E.map tupI)=(d_ E.length).map fun i:Nat=>.tup [.int (i:Int),tupI (E.getD i [])]:=by
 unfold jA;refine L3 (by simp) fun i X Z=>?_
 have Y:i<E.length:=by simpa using Z
 simp[i_,Y]
theorem Je{n a:Nat}{x:Option D}(Y:n<=14)(Z:a<n):aL (aV (xB (aZ iS (mV 2) (mK (.int 1))) (mV 0)) (gN 0) eR eS [none,ar 2]) [ar (.int n),x,ar (.int a)]=aC (.fz ((jG n a).map tupI)):=by
 have em:(((n_ (a+1) (n - (a+1))).map fun b:Nat=>D.int (b:Int)).filter fun _=>b_).map (fun d=>D.tup [.int a,d])=(jG n a).map tupI:=by
  unfold jG;rw[bg,Ke,Ke];rfl
 have h:=iq (mi:=xB (aZ iS (mV 2) (mK (.int 1))) (mV 0)) (g:=gN 0) (t:=eR) (m:=eS) (js:=[none,ar 2]) (ρ:=[ar (.int n),x,ar (.int a)]) (its:=(n_ (a+1) (n - (a+1))).map fun b:Nat=>D.int (b:Int)) (fun ρ=>∃y,ρ=[y,ar (.int a)]) (fun _=>b_) (fun d=>D.tup [.int a,d])
  (by rw[wt (x:=.int ((a:Int)+1)) (y:=.int n) rfl rfl,Fy (by omega),xW]) (by rw[JV,MP];unfold lim;omega) ⟨none,rfl⟩
  (fun d hd ρ ⟨y,hρ⟩=>by
   subst hρ;refine⟨_,rfl,⟨_,rfl⟩,rfl,fun _=>?_⟩;show bA [.int a,d]=_;unfold bA;exact if_pos m6) (by rw[em];exact bX _)
 rw[em]at h;exact h
theorem rE{S:aE}{n:Nat}{its:List D}(Y:n<=14):∀(post:List Nat) (acc:List (List Int)) (x:Option D),(∀a∈post,a<n)->acc.length+post.length*14<=300->
  ∃Z,gH ⟨its,.none⟩ (gN 2) gn (post.map fun i:Nat=>.int (0+(i:Int))) [ar (.int n),ar (.lst S.length),x] (S++[acc.map tupI])=ar (.ok (.nx [ar (.int n),ar (.lst S.length),Z]),S++[(acc++post.flatMap (jG n)).map tupI])
 |[],acc,x,_,_=>⟨x,by rw[Mn,oK,List.flatMap_nil,KS];rfl⟩
 |a::post,acc,x,ha,hl=>by
  rw[KD,MO]at hl;have U:=Dp (a:=a) Y;obtain⟨Z,W⟩:=rE (S:=S) (its:=its) Y post (acc++jG n a) (ar (.int a)) (fun b X=>ha b (.tail _ X)) (by rw[J5];omega)
  refine⟨Z,?_⟩;rw[M4, <-Mj, <-W,Kr,MM];refine wx rfl (Bp (x:=.non) ((xS (x:=.lst S.length) rfl rfl (Kz (Je Y (ha a (.head _))) _)).trans ((FJ fJ (by rw[JV,JV];omega)).trans ?_)))
  rw[<-MG,List.set_append_right _ _ (JY _),Nl];rfl
theorem BC{n:Nat}(Y:n<=14):jE (bh [.int n])=aC (.fz ((bI n).map tupI)):=by
 have T:=pairs_len Y;have Z:((bI n).map tupI).length<=lim:=by rw[JV];unfold lim;omega
 have:bh [.int n]=bD ((bI n).map tupI):=by
  funext S;obtain⟨U,e⟩:=rE (S:=S) (its:=bC 0 n) Y (d_ n) [] none (fun a X=>Ka.mp X) (by rw[Kc];simp;omega)
  have W:oj (mV 0) [ar (.int n),ar (.lst S.length),none]=aC ⟨bC 0 n,.none⟩:=by
   have:=(sP (m:=mV 0) (ρ:=[ar (.int n),ar (.lst S.length),none]) (x:=.int n) rfl).trans (Dm (by omega))
   rw[La]at this;exact this
  rw[gT Z];exact ir (o:=.ret (.lst S.length)) ((bo (dN (gT (S:=S) (us:=[]) (Ku _)))).trans ((bo (wy W e)).trans (j4 rfl))) rfl
 rw[this];exact cu (bX _) Z
theorem FL{c:M D}{S Y:aE}{us:List D}{k q:Nat}(hs:eH S k)(h:c S=ar (.ok (.lst q),Y))(Z:Kp k S Y)(X:S.length<=q)(g:Y[q]? =ar us)(W:cT 0 us=b_):∃S1,jE c S=ar (.ok (.fz us),S1)/\Kp k S S1/\S1.length=S.length:=
 ⟨_,pM (u:=.fz us) h (oM Z) (.inl (ML X (J2.mp g).1)) Z.len (wB (f:=59) X g W),xQ hs Z⟩
theorem uJ{S:aE}{k p q:Nat}{a1:Option D}(P:k<S.length)(N:S.length<=p)(L:S.length<=q)(X:p≠q):∀(f:Nat) (ls ms:List Int) (S':aE),ls.length<f->ls.length+ms.length<=14->S'[p]? =ar (ls.map D.int)->S'[q]? =ar (ms.map D.int)->Kp k S S'->
  ∃(zs:List Int) (U:aE),jN (ec lb (mV 2) (aL (eL av))) cy f [ar (.lst k),a1,ar (.lst p),ar (.lst q)] S'=ar (.ok (.nx [ar (.lst k),a1,ar (.lst p),ar (.lst q)]),U)/\U[q]? =ar (zs.map D.int)/\zs.Perm (ms++ls)/\Kp k S U
 |0,ls,ms,S',h,_,_,_,_=>by omega
 | f +1,ls,ms,S',hf,hl,g1,g2,kp=>by
  have K:ec lb (mV 2) (aL (eL av)) [ar (.lst k),a1,ar (.lst p),ar (.lst q)] S'=ar (.ok (!ls.isEmpty),S'):=by
   have G:aL (eL av) [ar (.lst k),a1,ar (.lst p),ar (.lst q)]=aC (.fz []):=cu (us:=[]) rfl (Ku _);show((mV 2 _>>=fun x=>aL (eL av) _>>=fun y=>lb x y)>>=lD) S'=_;rw[G];show(lb (.lst p) (.fz [])>>=lD) S'=_;rw[aQ (FI g1)];rfl
  rw[jN,aQ K];cases ls with
  |nil=>exact⟨ms,S',by rfl,g2,by rw[KS],kp⟩
  | cons l0 ls0=>
   generalize hL:l0::ls0=ls at*;have T:(!ls.isEmpty)=true:=by rw[<-hL];rfl
   have O:0<ls.length:=by rw[<-hL];exact Nat.succ_pos _
   rw[if_pos T];obtain⟨j,S1,H,B,w,Y,v⟩:=xR (S:=S') (k:=k) (many:=ls.length) kp.st (by omega) (by omega)
   have I:=(J2.mp g1).1;have A:=(J2.mp g2).1;have E:=(Y.oth p I (by omega)).trans g1
   have z:=(Y.oth q A (by omega)).trans g2
   have Q:j.toNat<ls.length:=by omega
   have C:cy [ar (.lst k),a1,ar (.lst p),ar (.lst q)] S'=ar (.ok (.nx [ar (.lst k),a1,ar (.lst p),ar (.lst q)]),(S1.set p ((ls.eraseIdx j.toNat).map D.int)).set q ((ms++[ls[j.toNat]]).map D.int)):=by
    unfold cy;have hlen:bY cX (mV 2) [ar (.lst k),a1,ar (.lst p),ar (.lst q)] S'=ar (.ok (.int ls.length),S'):=by
     refine(Bq (x:=.lst p) (S1:=S') rfl).trans ?_;show(getL p>>=fun xs=>aC (D.int xs.length)) S'=_;rw[aQ (ju g1),JV];rfl
    have R:aL (au aY (ae (mV 0) (ae (bY cX (mV 2)) av))) [ar (.lst k),a1,ar (.lst p),ar (.lst q)] S'=ar (.ok (.int j),S1):=by
     have F:au aY (ae (mV 0) (ae (bY cX (mV 2)) av)) [ar (.lst k),a1,ar (.lst p),ar (.lst q)] S'=aY [.lst k,.int ls.length] S':=aQ (d9 (x:=.lst k) rfl (d9 hlen rfl));unfold aL;rw[<-H];unfold jE;rw[F]
    have Z:=(xS (f:=mR) (e1:=mV 2) (ρ:=[ar (.lst k),a1,ar (.lst p),ar (.lst q)]) (x:=.lst p) rfl rfl R).trans (pop_at (d:=.int ls[j.toNat]) E (by rw[JV];omega) B (by rw[JV];omega) (by rw[KG,JX Q];rfl))
    rw[rB]at Z;have W:=(xS (f:=fC) (e1:=mV 3) (ρ:=[ar (.lst k),a1,ar (.lst p),ar (.lst q)]) (x:=.lst q) rfl rfl Z).trans (Bz (d:=.int ls[j.toNat]) (xs:=ms.map D.int) (by rw[KQ X];exact z) (by rw[JV];omega))
    refine Bp (x:=.non) (W.trans ?_);rw[MG];rfl
   rw[aQ C];have he:=List.length_eraseIdx_of_lt Q;obtain⟨zs,U,e2,g3,J,k2⟩:=uJ (a1:=a1) P N L X f (ls.eraseIdx j.toNat) (ms++[ls[j.toNat]]) ((S1.set p ((ls.eraseIdx j.toNat).map D.int)).set q ((ms++[ls[j.toNat]]).map D.int)) (by omega) (by rw[J5];show _+(ms.length+1)<=14;omega)
    (by rw[KQ (lx X),KR (by omega)]) (by rw[KR (by rw[Ni];omega)]) (((kp.trans Y).set N P).set L P)
   refine⟨zs,U,e2,g3,J.trans ?_,k2⟩;rw[Mj];exact(wC Q).append_left ms
theorem uK{S:aE}{k n:Nat}{ρ:aD}{e1 e2:TM}(hs:eH S k)(L:n<=14)(Q:e1 ρ=aC (.lst k))(N:e2 ρ=aC (.int n)):∃(zs:List Int) (S1:aE),aL (au bq (ae e1 (ae (aL (bY cY e2)) av))) ρ S=ar (.ok (.fz (zs.map D.int)),S1)/\zs.Perm (eI n)/\Kp k S S1/\S1.length=S.length:=by
 have T:bC 0 n=(eI n).map D.int:=by unfold bC eI;rw[Ke];rfl
 have hlen:(eI n).length=n:=by unfold eI;simp
 have Z:((eI n).map D.int).length<=lim:=by rw[JV,hlen];unfold lim;omega
 have P:aL (bY cY e2) ρ=aC (.fz ((eI n).map D.int)):=by
  unfold aL;rw[cJ N,Jd (j:=n) ⟨by omega,by unfold lim;omega⟩,La,T]
  exact cu (jv _) Z
 obtain⟨zs,W,e,g3,U,k2⟩:=uJ (S:=S) (k:=k) (p:=S.length) (q:=S.length+1) (a1:=ar (.fz ((eI n).map D.int))) hs.lt (JY _) (LR _) (by omega) 64 (eI n) [] (S++[(eI n).map D.int,[]]) (by omega) (by simp;omega) (Hx 0) (Hx 1) (Kp.grow hs _)
 have R:dh 3 (eL av) [ar (.lst k),ar (.fz ((eI n).map D.int)),ar (.lst S.length),none] (S++[(eI n).map D.int])=ar (.ok (.nx [ar (.lst k),ar (.fz ((eI n).map D.int)),ar (.lst S.length),ar (.lst (S.length+1))]),S++[(eI n).map D.int,[]]):=by
  refine(dN (gT (S:=S++[(eI n).map D.int]) (us:=[]) (Ku _))).trans ?_;rw[Mj,J5];rfl
 have O:bY rh (mV 1) [ar (.lst k),ar (.fz ((eI n).map D.int)),none,none] S=ar (.ok (.lst S.length),S++[(eI n).map D.int]):=(Bq (F:=rh) (x:=.fz ((eI n).map D.int)) (S1:=S) rfl).trans (gT Z);have Y:eh [ar (.lst k),ar (.fz ((eI n).map D.int)),none,none] S=ar (.ok (.ret (.lst (S.length+1))),W):=by
  unfold eh;exact(bo (dN O)).trans ((bo R).trans ((bo e).trans (j4 rfl)))
 have hm:bq [.lst k,.fz ((eI n).map D.int)] S=ar (.ok (.lst (S.length+1)),W):=ir Y rfl;obtain⟨S1,X,k1⟩:=FL hs hm k2 (LR _) g3 (jv _);refine⟨zs,S1,?_,by rw[List.nil_append]at U;exact U,k1⟩
 unfold aL;rw[call2 Q P];exact X
theorem Dr.sub:∀{L:List (List Int)} {ys:List D},Dr (fun d y=>y=d) (L.map tupI) ys->∃rs:List (List Int),ys=rs.map tupI/\rs.Sublist L
 |[],_,.nil=>⟨[],rfl,.slnil⟩
 |t::L,_,.skip h=>by
  obtain⟨rs,e,Z⟩:=Dr.sub h;exact⟨rs,e,Z.cons _⟩
 |t::L,_,.put p h=>by
  obtain⟨rs,e,Z⟩:=Dr.sub h;subst p e;exact⟨t::rs,rfl,Z.cons₂ _⟩
theorem ng{mi:aD->M Iter}{t:fE}{m:TM}{js:List (Option Nat)}{ρ:aD}{L:List (List Int)}{S:aE}{k:Nat}(r:List (Option D))(P:mi ρ=aC ⟨L.map tupI,.none⟩)(K:L.length<=1000)(O:gh js ρ=none::r)(hs:eH S k)(N:∀d,m (ar d::r)=aC d)
  (R:∀(u:List Int) Y,Kp k S Y->Y.length=S.length->∃b S1,t (ar (tupI u)::r) Y=ar (.ok b,S1)/\Kp k Y S1/\S1.length=Y.length):
  ∃(rs:List (List Int)) (Z:aE),aV mi (gN 0) t m js ρ S=ar (.ok (.lst Z.length),Z++[rs.map tupI])/\rs.Sublist L/\Kp k S Z/\Z.length=S.length:=by
 have key:∀(items:List D) (o:Option D) (Y:aE),(∀d∈items,∃u,d=tupI u)->Kp k S Y->Y.length=S.length->∃ys Z,cC ⟨L.map tupI,.none⟩ (gN 0) t m items (o::r) Y=ar (.ok ys,Z)/\Dr (fun d y=>y=d) items ys/\Kp k S Z/\Z.length=S.length:=fun items=>by
  induction items with
  |nil=>exact fun o Y _ W l=>⟨[],Y,by unfold cC;rw[cm];rfl,.nil,W,l⟩
  | cons d ds ih=>
   intro o Y hd W l;obtain⟨u,rfl⟩:=hd d (.head _);obtain⟨b,S1,e1,k1,Q⟩:=R u Y W l;obtain⟨ys,Z,e2,U,k2,X⟩:=ih (ar (tupI u)) S1 (fun d h=>hd d (.tail _ h)) (W.trans k1) (Q.trans l);cases b with
   |false=>
    refine⟨ys,Z,?_,.skip U,k2,X⟩;unfold cC;rw[cm,aj,show gN 0 (tupI u) (o::r)=aC (ar (tupI u)::r)from rfl,aj,aQ e1,if_neg (by decide)]
    exact e2
   |true=>
    refine⟨tupI u::ys,Z,?_,.put rfl U,k2,X⟩;unfold cC;rw[cm,aj,show gN 0 (tupI u) (o::r)=aC (ar (tupI u)::r)from rfl,aj,aQ e1,if_pos rfl,N,aj,aQ e2];rfl
 obtain⟨ys,Z,e,U,k2,X⟩:=key (L.map tupI) none S (fun d hd=>by obtain⟨u,_,rfl⟩:=Kb.mp hd;exact⟨u,rfl⟩) (.refl hs) rfl
 obtain⟨rs,rfl,T⟩:=U.sub;refine⟨rs,Z,?_,T,k2,X⟩;have:=T.length_le;unfold aV;rw[P,aj];unfold fA;rw[if_pos (show(L.map tupI).length<=lim by rw[JV];unfold lim;omega),O,aQ e]
 exact gT (by rw[JV];unfold lim;omega)
theorem BD{ds:List D}{i:Int}(Z:0<=i)(Y:i<ds.length):∃d∈ds,cn (.fz ds) (.int i)=aC d:=by
 obtain⟨d,e,hd⟩:=Ht Z Y;refine⟨d,hd,?_⟩;show(match k9 ds i with|some d=>(aC d:M D)|none=>M.fail)=_
 rw[e]
theorem j5{zs:List Int}{a:Int}(Z:0<=a)(h:a<zs.length):cn (.fz (zs.map D.int)) (.int a)=aC (.int (zs.getD a.toNat 0)):=xT Z h
theorem BE{e1 e2:TM}{ρ:aD}{x y:Int}(Y:e1 ρ=aC (.int x))(W:e2 ρ=aC (.int y)):bY cb (aL (bY bJ (aL (eL (ae e1 (ae e2 av)))))) ρ=aC (tupI (sortI [x,y])):=by
 have X:(sortI [x,y]).length=2:=(sortI_perm [x,y]).length_eq;have Z:((sortI [x,y]).map D.int).length<=lim:=by rw[JV,X];exact m6
 have a1:aL (eL (ae e1 (ae e2 av))) ρ=aC (.fz [.int x,.int y]):=by
  show jE (ae _ _ _>>=bD)=_;rw[bb Y (bb W (es:=av) rfl),aj];exact cu (us:=[.int x,.int y]) rfl m6
 refine(cJ (x:=.fz ((sortI [x,y]).map D.int)) ?_).trans (jZ Z);show jE (bY bJ _ _)=_;rw[cJ a1];exact cu (jv _) Z
theorem FM{s:List Int}{rs:List (List Int)}:∃b,inD (tupI s) (.fz (rs.map tupI))=aC (.bl b):=by
 refine⟨(rs.map gU).any fun y=>gi y (gU s),dE fun S=>?_⟩;unfold inD;have Z:gI S 60 (.fz (rs.map tupI))=ar (.list (rs.map gU)):=by
  show(mapP (gI S 59) (rs.map tupI)).map w7=_;rw[ja];rfl
 exact(oH (ko s) Z (r:=(rs.map gU).any fun y=>gi y (gU s)) rfl).mpr ⟨rfl,rfl⟩
theorem nh{ρ:aD}{e:TM}{n:Nat}(Z:n<=14)(h:e ρ=aC (.int n)):bK (aL (au bh (ae e av))) ρ=aC ⟨(bI n).map tupI,.none⟩:=by
 have:aL (au bh (ae e av)) ρ=aC (.fz ((bI n).map tupI)):=by
  unfold aL;rw[b8 h];exact BC Z
 unfold bK;rw[this];rfl
section
variable {S:aE}{k n g:Nat}{j:Int}{zs:List Int}{its:List D}
abbrev m8:TM:=aL (eL (aR (mK (.int 0)) (aR (mK (.int 0)) (aR (mK (.int 1)) (aR (mK (.int 0)) (aR (mK (.int 2)) (aR (mK (.int 1)) (aR (mK (.int 3)) (aR (mV 1) (av))))))))))
theorem FN{r:List (Option D)}(hs:eH S k):∃(n:Nat) (S1:aE),au maxD (ae (mK (.int 0)) (ae (aZ iz (mV 1) (aZ cn m8 (aL (au aY (ae (mV 0) (ae (mK (.int 8)) av)))))) av)) (ar (.lst k)::ar (.int g)::r) S=ar (.ok (.int n),S1)/\n<=g/\Kp k S S1/\S1.length=S.length:=by
 obtain⟨i,S1,R,W,T,k1,Z⟩:=uI (e1:=mV 0) (e2:=mK (.int 8)) (ρ:=ar (.lst k)::ar (.int g)::r) (m:=8) hs rfl rfl (by decide) (by decide)
 have Q:m8 (ar (.lst k)::ar (.int g)::r)=aC (.fz [.int 0,.int 0,.int 1,.int 0,.int 2,.int 1,.int 3,.int g]):=cu (us:=[.int 0,.int 0,.int 1,.int 0,.int 2,.int 1,.int 3,.int g]) rfl (by show 8<=lim;unfold lim;omega)
 obtain⟨d,hd,Y⟩:=BD (ds:=[.int 0,.int 0,.int 1,.int 0,.int 2,.int 1,.int 3,.int g]) W T;have X:∃u:Int,d= .int u/\0<=u:=by
  simp only[f',e_,or_false]at hd;rcases hd with rfl|rfl|rfl|rfl|rfl|rfl|rfl|rfl<;>exact⟨_,rfl,by omega⟩
 obtain⟨u,rfl,P⟩:=X;have U:aZ iz (mV 1) (aZ cn m8 (aL (au aY (ae (mV 0) (ae (mK (.int 8)) av))))) (ar (.lst k)::ar (.int g)::r) S=ar (.ok (.int ((g:Int) - u)),S1):=
  (pW (f:=iz) (x:=.int g) (S1:=S) rfl ((pW (Kz Q S) R).trans (Kz Y S1))).trans rfl
 refine⟨((g:Int) - u).toNat,S1,?_,by omega,k1,Z⟩
 refine(aQ (d9 (x:=.int 0) (S1:=S) rfl (d9 U rfl))).trans ?_;show ar (Res.ok (D.int (if (g:Int) - u>0 then (g:Int) - u else 0)),S1)=_;have:(if (g:Int) - u>0 then (g:Int) - u else 0)=(((g:Int) - u).toNat:Int):=by split<;>omega
 rw[this]
abbrev eW(k g n:Nat)(j:Int)(r:List (Option D)):aD:=ar (.lst k)::ar (.int g)::ar (.int n)::ar (.int j)::r
theorem Dy{r:List (Option D)}(hs:eH S k)(Q:n<=7)(R:0<=j):∃(rs:List (List Int)) (S2:aE),aV (bK (aL (au bh (ae (mV 2) (av))))) (gN 0) iU iV [none,ar 0,ar 3] (eW k g n j r) S=ar (.ok (.lst S2.length),S2++[rs.map tupI])/\rs.Sublist (bI n)/\Kp k S S2/\S2.length=S.length:=
 ng [ar (.lst k),ar (.int j)] (nh (by omega) rfl) (by have:=pairs_len (n:=n) (by omega);omega) rfl hs (fun d=>rfl) fun u P U l=>by
  obtain⟨i,S1,T,O,N,k1,W⟩:=uI (e1:=mV 1) (e2:=mK (.int 8)) (ρ:=[ar (tupI u),ar (.lst k),ar (.int j)]) (m:=8) U.st rfl rfl (by decide) (by decide)
  have X:aL (eL (ae (mK (.int 2)) (ae (mK (.int 4)) (ae (mK (.int 6)) (av))))) [ar (tupI u),ar (.lst k),ar (.int j)]=aC (.fz [.int 2,.int 4,.int 6]):=cu (us:=[.int 2,.int 4,.int 6]) rfl (by show 3<=lim;unfold lim;omega)
  have hm:aZ oa (mV 2) (mK (.int 3)) [ar (tupI u),ar (.lst k),ar (.int j)]=aC (.int (j % 3)):=(cf (x:=.int j) (y:=.int 3) rfl rfl).trans (show oa (.int j) (.int 3)=_ from if_pos (e:=M.fail) (show(0:Int)<3 by decide))
  obtain⟨d,hd,Z⟩:=BD (ds:=[.int 2,.int 4,.int 6]) (i:=j % 3) (by omega) (by show j % 3<3;omega)
  have Y:∃v:Int,d= .int v:=by
   simp only[f',e_,or_false]at hd;rcases hd with rfl|rfl|rfl<;>exact⟨_,rfl⟩
  obtain⟨v,rfl⟩:=Y;exact⟨decide (i<v),S1,wD (y:=.int v) T (Kz ((cf X hm).trans Z) S1) rfl,k1,W⟩
theorem FO{a:Nat}{q:Nat}{x7:Option D}(T:2<j)(P:j<7)(R:1<=a)(W:a<n)(Q:zs.length=n):∃r:List Int,bY cb (aL (bY bJ (aL (eL (ae (aZ cn (mV 5) (mV 6)) (ae (aZ cn (mV 5) (aZ cn (aL (eL (aR (aZ iz (mV 6) (mK (.int 1))) (aR (aZ iz (mV 6) (mK (.int 1))) (aR (mK (.int 0)) (aR (aZ jO (mV 6) (mK (.int 2))) (av))))))) (aZ iz (mV 3) (mK (.int 3))))) (av))))))) (eW k g n j [ar (.lst q),ar (.fz (zs.map D.int)),ar (.int a),x7])=aC (tupI r):=by
 have U:aL (eL (aR (aZ iz (mV 6) (mK (.int 1))) (aR (aZ iz (mV 6) (mK (.int 1))) (aR (mK (.int 0)) (aR (aZ jO (mV 6) (mK (.int 2))) (av)))))) (eW k g n j [ar (.lst q),ar (.fz (zs.map D.int)),ar (.int a),x7])=aC (.fz [.int ((a:Int) - 1),.int ((a:Int) - 1),.int 0,.int ((a:Int) / 2)]):=by
  have Y:aR (aZ iz (mV 6) (mK (.int 1))) (aR (aZ iz (mV 6) (mK (.int 1))) (aR (mK (.int 0)) (aR (aZ jO (mV 6) (mK (.int 2))) av))) (eW k g n j [ar (.lst q),ar (.fz (zs.map D.int)),ar (.int a),x7])=aC [.int ((a:Int) - 1),.int ((a:Int) - 1),.int 0,.int ((a:Int) / 2)]:=
   bb (x:=.int ((a:Int) - 1)) rfl (bb (x:=.int ((a:Int) - 1)) rfl (bb (x:=.int 0) rfl (bb (x:=.int ((a:Int) / 2)) ((cf (x:=.int a) (y:=.int 2) rfl rfl).trans (show jO (.int a) (.int 2)=_ from if_pos (e:=M.fail) (show vw a 2 from⟨by decide,by decide⟩))) (es:=av) rfl)))
  show jE (aR _ _ _>>=bD)=_;rw[Y,aj];exact cu (us:=[.int ((a:Int) - 1),.int ((a:Int) - 1),.int 0,.int ((a:Int) / 2)]) rfl (by show 4<=lim;unfold lim;omega)
 obtain⟨d,hd,Z⟩:=BD (ds:=[.int ((a:Int) - 1),.int ((a:Int) - 1),.int 0,.int ((a:Int) / 2)]) (i:=j - 3) (by omega) (by show j - 3<4;omega)
 have X:∃v:Int,d= .int v/\0<=v/\v<n:=by
  simp only[f',e_,or_false]at hd;rcases hd with rfl|rfl|rfl|rfl<;>exact⟨_,rfl,by omega,by omega⟩
 obtain⟨v,rfl,v0,v1⟩:=X;exact⟨_,BE ((cf (x:=.fz (zs.map D.int)) (y:=.int a) rfl rfl).trans (j5 (by omega) (by omega))) ((cf (x:=.fz (zs.map D.int)) rfl ((cf (y:=.int (j - 3)) U rfl).trans Z)).trans (j5 v0 (by omega)))⟩
theorem xX{q:Nat}{ρ:aD}{e:TM}{r:List Int}{acc:List (List Int)}(Z:mV 4 ρ=aC (.lst S.length))(Y:e ρ=aC (tupI r))(X:acc.length<=500):kJ (Cm fC (mV 4) e) ρ (S++[acc.map tupI])=ar (.ok (.nx ρ),S++[(acc++[r]).map tupI]):=by
 refine Bp (x:=.non) ((xS Z rfl (Kz Y _)).trans ((Bz fJ (by rw[JV];omega)).trans ?_))
 rw[MG,List.set_append_right _ _ (JY _),Nl];rfl
theorem D7(X:2<j)(U:j<7)(W:zs.length=n):∀(post:List Nat) (acc:List (List Int)) (x6 x7:Option D),(∀a∈post,1<=a/\a<n)->acc.length+post.length<=100->
  ∃(Y:Option D) (Z:List (List Int)),gH ⟨its,.none⟩ (gN 6) fV (post.map fun b:Nat=>.int (b:Int)) (eW k g n j [ar (.lst S.length),ar (.fz (zs.map D.int)),x6,x7]) (S++[acc.map tupI])=ar (.ok (.nx (eW k g n j [ar (.lst S.length),ar (.fz (zs.map D.int)),Y,x7])),S++[Z.map tupI])/\Z.length<=acc.length+post.length
 |[],acc,x6,x7,_,_=>⟨x6,acc,by rw[Mn,oK];rfl,JY _⟩
 |a::post,acc,x6,x7,ha,hl=>by
  rw[KD]at hl⊢;obtain⟨R,P⟩:=ha a (.head _);obtain⟨r,T⟩:=FO (k:=k) (g:=g) (q:=S.length) (x7:=x7) X U R P W;obtain⟨Y,Z,N,O⟩:=D7 X U W post (acc++[r]) (ar (.int a)) x7 (fun b Q=>ha b (.tail _ Q)) (by rw[J5];show acc.length+1+_<=100;omega)
  refine⟨Y,Z,?_,by rw[J5]at O;have:[r].length=1:=rfl;omega⟩
  rw[<-N,Kr];exact wx rfl (xX (q:=0) rfl T (by omega))
theorem Hz{r:List (Option D)}(hs:eH S k)(T:n<=7):∃(rs:List (List Int)) (Z:aE),aL (aV (bK (aL (au bh (ae (mV 2) (av))))) (gN 0) eO eP [none,ar 0]) (eW k g n j r) S=ar (.ok (.fz (rs.map tupI)),Z)/\Kp k S Z/\Z.length=S.length:=by
 obtain⟨rs,Z,e,_,k2,Y⟩:=ng (t:=eO) (m:=eP) (js:=[none,ar 0]) (ρ:=eW k g n j r) [ar (.lst k)] (nh (e:=mV 2) (by omega) rfl) (by have:=pairs_len (n:=n) (by omega);omega) rfl hs (fun d=>rfl) fun u R W l=>by
  obtain⟨i,S1,U,Q,P,k1,X⟩:=uI (e1:=mV 1) (e2:=mK (.int 12)) (ρ:=[ar (tupI u),ar (.lst k)]) (m:=12) W.st rfl rfl (by decide) (by decide)
  exact⟨_,S1,wD (y:=.int 0) U rfl Hq,k1,X⟩
 exact⟨rs,Z,BB e k2 Y (bX _),k2,Y⟩
theorem Dz{q:Nat}{os acc:List (List Int)}{x5 x6:Option D}(hs:eH S k)(L:n<=7)(U:S[q]? =ar (acc.map tupI))(Y:q≠k):∃(rs:List (List Int)) (S2:aE),aV (bK (aL (au bh (ae (mV 2) (av))))) (gN 0) fW fX [none,ar 4,ar 7] (eW k g n j [ar (.lst q),x5,x6,ar (.fz (os.map tupI))]) S=ar (.ok (.lst S2.length),S2++[rs.map tupI])/\rs.Sublist (bI n)/\Kp k S S2/\S2.length=S.length:=
 ng [ar (.lst q),ar (.fz (os.map tupI))] (nh (by omega) rfl) (by have:=pairs_len (n:=n) (by omega);omega) rfl hs (fun d=>rfl) fun u Z W l=>by
  have X:=(W.oth q (J2.mp U).1 Y).trans U;obtain⟨_,_,e1,b,rfl,rfl⟩:=Ds (r:=u) (Q:=fun d T=>∃b,d= .bl b/\Z=T) X fun b=>⟨b,rfl,rfl⟩;obtain⟨c,e2⟩:=FM (s:=u) (rs:=os);obtain⟨_,_,O,R,rfl,rfl⟩:=Hs (S:=Z) (a:=b) (b:=c) (Q:=fun d T=>∃b,d= .bl b/\Z=T) fun b=>⟨b,rfl,rfl⟩;refine⟨R,Z,?_,.refl W.st,rfl⟩;have P:aZ inD (mV 0) (mV 1) [ar (tupI u),ar (.lst q),ar (.fz (os.map tupI))] Z=ar (.ok (.bl b),Z):=(Kz (cf (x:=tupI u) (y:=.lst q) rfl rfl) Z).trans e1;have N:aZ inD (mV 0) (mV 2) [ar (tupI u),ar (.lst q),ar (.fz (os.map tupI))] Z=ar (.ok (.bl c),Z):=Kz ((cf (x:=tupI u) (y:=.fz (os.map tupI)) rfl rfl).trans e2) Z;exact aQ ((pW P N).trans O)
end
section
variable {S:aE}{k n g:Nat}{j:Int}{zs:List Int}{its:List D}
theorem HA{m:TM}{ρ:aD}(Z:n<=100)(h:m ρ=aC (.int n)):xB (mK (.int 1)) m ρ=aC ⟨(n_ 1 (n - 1)).map fun b:Nat=>.int (b:Int),.none⟩:=by
 have:=xW (a:=0) (m:=n);rw[wt (x:=.int 1) rfl h,Fy (by omega)]
 rw[show((0:Nat):Int)+1=1 from rfl]at this;rw[this]
theorem HB{ρ:aD}{q:Nat}{rs:List (List Int)}(hs:eH S k)(T:n<=7)(U:mV 2 ρ=aC (.int n))(X:mV 4 ρ=aC (.lst q))(g:S[q]? =ar (rs.map tupI))(W:rs.Sublist (bI n)):
  bG (fD (ae (mV 2) (ae (bY cb (aL (bY bJ (mV 4)))) (av)))) ρ S=ar (.ok (.ret (aw n rs)),S):=by
 have w:WebOk n rs:=WebOk.of_sub T W;have hf:=w.few;have Y:aL (bY bJ (mV 4)) ρ S=ar (.ok (.fz (rs.map tupI)),S):=by
  unfold aL;rw[cJ X];have:=zw hs g (fun r Z=>by obtain⟨a,b,e,_⟩:=w.el r Z;rw[e];rfl) (by omega)
  rw[zo w.ris]at this;exact this
 refine j4 (FA (Kz U S) ((Bq Y).trans ?_));rw[jZ (by rw[JV];unfold lim;omega)];rfl
theorem FP{q:Nat}{acc:List (List Int)}{x6 x7:Option D}(U:n<=7)(R:zs.length=n)(T:acc.length<=100):∃acc2:List (List Int),jz (AN (ec oC (mV 3) (mK (.int 4))) (ec vp (mV 2) (mK (.int 2)))) (kJ (Cm fC (mV 4) (bY cb (aL (bY bJ (aL (eL (ae (aZ cn (mV 5) (mK (.int 0))) (ae (aZ cn (mV 5) (aZ iz (mV 2) (mK (.int 1)))) (av)))))))))) (dX) (eW k g n j [ar (.lst S.length),ar (.fz (zs.map D.int)),x6,x7]) (S++[acc.map tupI])=ar (.ok (.nx (eW k g n j [ar (.lst S.length),ar (.fz (zs.map D.int)),x6,x7])),S++[acc2.map tupI]):=by
 have X:ec oC (mV 3) (mK (.int 4)) (eW k g n j [ar (.lst S.length),ar (.fz (zs.map D.int)),x6,x7])=aC (decide (j=4)):=bO (x:=.int j) (y:=.int 4) rfl rfl Hq;have W:ec vp (mV 2) (mK (.int 2)) (eW k g n j [ar (.lst S.length),ar (.fz (zs.map D.int)),x6,x7])=aC (decide (2<(n:Int))):=bO (x:=.int n) (y:=.int 2) rfl rfl rfl;have Z:AN (ec oC (mV 3) (mK (.int 4))) (ec vp (mV 2) (mK (.int 2))) (eW k g n j [ar (.lst S.length),ar (.fz (zs.map D.int)),x6,x7])=aC (decide (j=4) && decide (2<(n:Int))):=by
  show(ec oC _ _ _>>=_)=_;rw[X,aj];cases decide (j=4)with
  |false=>rfl
  |true=>exact W
 by_cases h:(decide (j=4) && decide (2<(n:Int)))=b_
 ·have Y:2<n:=by
   have:=Kw ((Kn _ _).mp h).2;omega
  refine⟨_,(Kz ((bH Z).trans (if_pos h)) _).trans (xX (q:=0) rfl (BE (x:=zs.getD 0 0) (y:=zs.getD (n - 1) 0) ?_ ?_) (by omega))⟩
  ·exact(cf (x:=.fz (zs.map D.int)) (y:=.int 0) rfl rfl).trans (j5 (by decide) (by omega))
  ·refine(cf (x:=.fz (zs.map D.int)) (y:=.int ((n:Int) - 1)) rfl rfl).trans ((j5 (by omega) (by omega)).trans ?_)
   rw[show((n:Int) - 1).toNat=n - 1 by omega]
 ·exact⟨acc,(Kz ((bH Z).trans (if_neg h)) _).trans rfl⟩
theorem FQ(hg:g<=7)(hs:eH S k):∃(n:Nat) (E:List (List Int)) (S1:aE),jE (fP [.lst k,.int g]) S=ar (.ok (aw n E),S1)/\n<=g/\WebOk n E/\Kp k S S1/\S1.length=S.length:=by
 obtain⟨n,T1,e1,f,k1,l1⟩:=FN (g:=g) (r:=[none,none,none,none,none,none]) hs;have Y:n<=7:=by omega
 obtain⟨j,T2,e2,j0,h,k2,l2⟩:=uI (e1:=mV 0) (e2:=mK (.int 7)) (ρ:=[ar (.lst k),ar (.int g),ar (.int n),none,none,none,none,none]) (m:=7) k1.st rfl rfl (by decide) (by decide)
 obtain⟨rs,R,u,z,k3,l3⟩:=Dy (g:=g) (n:=n) (j:=j) (r:=[none,none,none,none]) k2.st Y j0;have C:=Kp.grow k3.st [rs.map tupI];obtain⟨zs,X,e4,w,k5,l5⟩:=uK (n:=n) (ρ:=eW k g n j [ar (.lst R.length),none,none,none]) (e1:=mV 0) (e2:=mV 2) C.st (by omega) rfl rfl
 have H:zs.length=n:=by rw[w.length_eq];unfold eI;simp
 have i:k<R.length:=by have:=hs.lt;omega
 have g4:X[R.length]? =ar (rs.map tupI):=(k5.oth R.length (by simp) (by omega)).trans fJ
 have B:=((k1.trans k2).trans k3).trans (C.trans k5);have key:∃(x4:Nat) (Z:List (List Int)) (ρ:aD) (T:aE),jz (ec vp (mV 3) (mK (.int 2))) (aI (dh 4 (eL (av))) (aI (sG (xB (mK (.int 1)) (mV 2)) (gN 6) fV) (aI (jz (AN (ec oC (mV 3) (mK (.int 4))) (ec vp (mV 2) (mK (.int 2)))) (kJ (Cm fC (mV 4) (bY cb (aL (bY bJ (aL (eL (ae (aZ cn (mV 5) (mK (.int 0))) (ae (aZ cn (mV 5) (aZ iz (mV 2) (mK (.int 1)))) (av)))))))))) (dX)) (aI (dh 7 (aL (aV (bK (aL (au bh (ae (mV 2) (av))))) (gN 0) eO eP [none,ar 0]))) (dh 4 (aV (bK (aL (au bh (ae (mV 2) (av))))) (gN 0) fW fX [none,ar 4,ar 7])))))) (dX) (eW k g n j [ar (.lst R.length),ar (.fz (zs.map D.int)),none,none]) X=ar (.ok (.nx ρ),T)/\mV 2 ρ=aC (.int n)/\mV 4 ρ=aC (.lst x4)/\T[x4]? =ar (Z.map tupI)/\Z.Sublist (bI n)/\Kp k S T:=by
  have G:ec vp (mV 3) (mK (.int 2)) (eW k g n j [ar (.lst R.length),ar (.fz (zs.map D.int)),none,none])=aC (decide (2<j)):=bO (x:=.int j) (y:=.int 2) rfl rfl rfl;by_cases hj:2<j
  ·have s:=HA (n:=n) (m:=mV 2) (ρ:=eW k g n j [ar (.lst X.length),ar (.fz (zs.map D.int)),none,none]) (by omega) rfl
   obtain⟨L,acc,P,F⟩:=D7 (S:=X) (k:=k) (g:=g) (its:=(n_ 1 (n - 1)).map fun b:Nat=>.int (b:Int)) hj h H (n_ 1 (n - 1)) [] none none (fun a ha=>by have:=Ml.mp ha;omega) (by rw[MP];simp;omega)
   rw[MP]at F;obtain⟨U,N⟩:=FP (S:=X) (k:=k) (g:=g) (j:=j) (zs:=zs) (q:=0) (x6:=L) (x7:=none) Y H (acc:=acc) (by simp at F;omega)
   have Q:=Kp.grow k5.st [U.map tupI];obtain⟨os,l,A,K,l7⟩:=Hz (g:=g) (n:=n) (j:=j) (r:=[ar (.lst X.length),ar (.fz (zs.map D.int)),L,none]) Q.st Y;have a6:k<X.length:=by have:=k5.len;simp at this;omega
   have O:l[X.length]? =ar (U.map tupI):=(K.oth X.length (by simp) (by omega)).trans fJ
   obtain⟨Z,e,p,W,J,l8⟩:=Dz (g:=g) (n:=n) (j:=j) (os:=os) (x5:=ar (.fz (zs.map D.int))) (x6:=L) K.st Y O (by omega)
   refine⟨e.length,Z,_,_,(Kz ((bH G).trans (if_pos (J3 hj))) X).trans ((bo (dN (gT (S:=X) (us:=[]) (Ku _)))).trans ((bo (wy s P)).trans ((bo N).trans ((bo (dN A)).trans (dN p))))),rfl,rfl,fJ,W,B.trans ((Q.trans K).trans (J.trans (Kp.grow J.st _)))⟩
  ·exact⟨R.length,rs,_,_,(Kz ((bH G).trans (if_neg (by rw[Kk];exact hj))) X).trans rfl,rfl,rfl,g4,z,B⟩
 obtain⟨x4,Z,ρ,T,P,t,v,O,W,I⟩:=key;have hm:jq [ar (.lst k),ar (.int g),none,none,none,none,none,none] S=ar (.ok (.ret (aw n Z)),T):=by
  unfold jq;exact(bo (dN e1)).trans ((bo (dN e2)).trans ((bo (dN u)).trans ((bo (dN e4)).trans ((bo P).trans (HB I.st Y t v O W)))))
 obtain⟨S1,N,Q⟩:=D6 (c:=fP [.lst k,.int g]) (d:=aw n Z) hs (ir (o:=.ret (aw n Z)) hm rfl) I FH;exact⟨n,Z,S1,N,f,WebOk.of_sub Y W,Q⟩
def j6(zs:List Int)(t:List Int):List Int:=sortI [zs.getD (t.getD 0 0).toNat 0,zs.getD (t.getD 1 0).toNat 0]
def JB(zs:List Int):D->D
 | .tup [.int a,.int b]=>tupI (j6 zs [a,b])
 |d=>d
theorem FR{x y:Int}(h:x≠y):∃a b,sortI [x,y]=[a,b]/\a<b/\(a=x/\b=y\/a=y/\b=x):=by
 by_cases c:x<=y
 ·refine⟨x,y,?_,by omega,.inl ⟨rfl,rfl⟩⟩
  show insI x [y]=_;unfold insI;exact if_pos c
 ·refine⟨y,x,?_,by omega,.inr ⟨rfl,rfl⟩⟩
  show insI x [y]=_;unfold insI;exact if_neg c
structure TiesOk(n:Nat)(E:List (List Int)):Prop where
 el:∀t∈E,∃a b:Int,t=[a,b]/\0<=a/\a<b/\b<n
 nd:E.Nodup
 few:E.length<=21
theorem wG{E:List (List Int)}(T:zs.Perm (eI n))(w:TiesOk n E):WebOk n (cI (E.map (j6 zs))):=by
 have R:∀t∈E,∃x y a b:Int,j6 zs t=[a,b]/\a<b/\t=[x,y]/\0<=x/\x<y/\y<n/\(a=zs.getD x.toNat 0/\b=zs.getD y.toNat 0\/a=zs.getD y.toNat 0/\b=zs.getD x.toNat 0):=fun t Z=>by
  obtain⟨x,y,rfl,x0,Q,W⟩:=w.el t Z;obtain⟨a,b,e,H,G⟩:=FR (x:=zs.getD x.toNat 0) (y:=zs.getD y.toNat 0) fun z=>by have:=qb T (i:=x.toNat) (j:=y.toNat) (by omega) (by omega) z;omega
  exact⟨x,y,a,b,e,H,rfl,x0,Q,W,G⟩
 have C:=w.nd;refine WebOk.sort (KI.mpr (KN (fun{s t} hs Z hne e=>hne ?_) C)) (fun t Z=>?_) (by rw[JV];exact w.few)
 ·obtain⟨s,hs,rfl⟩:=Kb.mp Z;obtain⟨x,y,a,b,e1,P,rfl,x0,Q,W,c1⟩:=R s hs;have r:=xU T (i:=x.toNat) (by omega)
  have m:=xU T (i:=y.toNat) (by omega)
  exact⟨a,b,e1,by omega,P,by omega⟩
 ·obtain⟨x,y,a,b,e1,_,rfl,x0,Q,W,c1⟩:=R s hs;obtain⟨u,v,c,d,e2,_,rfl,N,B,O,F⟩:=R t Z;rw[e1,e2]at e;have o:=(KY e).1;have A:=(KY (KY e).2).1;have inj:=fun(p q:Int) (p0:0<=p) (pn:p<n) (q0:0<=q) (qn:q<n) z=>qb T (i:=p.toNat) (j:=q.toNat) (by omega) (by omega) z
  have I:=inj x u x0 (by omega) N (by omega)
  have L:=inj y v (by omega) W (by omega) O
  have K:=inj x v x0 (by omega) (by omega) O
  have J:=inj y u (by omega) W N (by omega)
  generalize zs.getD x.toNat 0=X at*;generalize zs.getD y.toNat 0=Y at*;generalize zs.getD u.toNat 0=U at*;generalize zs.getD v.toNat 0=V at*;have:x=u/\y=v:=by
   rcases c1 with⟨c11,c12⟩|⟨c11,c12⟩<;>rcases F with⟨c21,c22⟩|⟨c21,c22⟩
   ·have:=I (by omega);have:=L (by omega);omega
   ·have:=K (by omega);have:=J (by omega);omega
   ·have:=K (by omega);have:=J (by omega);omega
   ·have:=I (by omega);have:=L (by omega);omega
  rw[this.1,this.2]
theorem DA{E:List (List Int)}(X:zs.Perm (eI n))(w:TiesOk n E):cU [aw n E,.fz (zs.map D.int)]=aC (aw n (cI (E.map (j6 zs)))):=by
 have R:zs.length=n:=by rw[X.length_eq];unfold eI;simp
 have wS:=wG X w;have hf:=w.few;have em:((E.map tupI).filter fun _=>b_).map (JB zs)=(E.map (j6 zs)).map tupI:=by
  rw[bg,Ke,Ke];refine LJ fun t Z=>?_;obtain⟨x,y,rfl,_⟩:=w.el t Z;rfl
 have W:=iq (mi:=bK (aZ cn (mV 0) (mK (.int 1)))) (g:=cA 2 (aN (gN 0) (aN (gN 1) cF))) (t:=gp) (m:=gq) (js:=[none,none,ar 1]) (ρ:=[ar (aw n E),ar (.fz (zs.map D.int))]) (its:=E.map tupI) (fun ρ=>∃x y,ρ=[x,y,ar (.fz (zs.map D.int))]) (fun _=>b_) (JB zs) rfl (by rw[JV];unfold lim;omega) ⟨none,none,rfl⟩
  (fun d hd ρ ⟨x,y,hρ⟩=>by
   subst hρ;obtain⟨t,Z,rfl⟩:=Kb.mp hd;obtain⟨a,b,rfl,T,ab,bn⟩:=w.el t Z;refine⟨[ar (.int a),ar (.int b),ar (.fz (zs.map D.int))],rfl,⟨_,_,rfl⟩,rfl,fun _=>?_⟩;exact BE ((cf (x:=.fz (zs.map D.int)) (y:=.int a) rfl rfl).trans (j5 T (by omega))) ((cf (x:=.fz (zs.map D.int)) (y:=.int b) rfl rfl).trans (j5 (by omega) (by omega)))) (by rw[em];exact bX _)
 rw[em]at W;have Y:((cI (E.map (j6 zs))).map tupI).length<=lim:=by rw[JV];have:=wS.few;unfold lim;omega
 refine de (o:=.ret (aw n (cI (E.map (j6 zs))))) (cc ?_) rfl;show(ae _ _ _>>=bA)=_;rw[bb (x:=.int n) rfl (bb (x:=.tup ((cI (E.map (j6 zs))).map tupI)) ((cJ (x:=.fz ((cI (E.map (j6 zs))).map tupI)) ?_).trans (jZ Y)) (es:=av) rfl),aj]
 ·unfold bA;exact if_pos m6
 ·show jE (bY bJ _ [ar (aw n E),ar (.fz (zs.map D.int))])=_;rw[cJ W];show jE (lN ((E.map (j6 zs)).map tupI))=_;rw[rD (fun r U=>by
   have:=(bS (E.map (j6 zs))).mem_iff.mpr U;obtain⟨a,b,e,_⟩:=wS.el r this;rw[e];rfl) (by rw[JV];omega)]
  exact cu (bX _) Y
end
def pc{α:Type}(r:α->α->Bool):List α->Nat
 |[]=>0
 |x::xs=>xs.countP (r x)+pc r xs
theorem uL(c:Nat):c+c*(c - 1) / 2=(c+1)*c / 2:=by
 have:(c+1)*c=c*(c - 1)+2*c:=by
  cases c with
  |zero=>rfl
  |succ c=>simp only[Fn];rw[Nat.mul_comm (c+1+1),Nat.mul_comm 2, <-Nat.mul_add]
 rw[this,Nat.add_mul_div_left _ _ (by decide)];omega
theorem uM(p:Int):∀E:List (List Int),pc (fun s t=>bf p s && bf p t) E=E.countP (bf p)*(E.countP (bf p) - 1) / 2
 |[]=>by simp[pc]
 | x::xs=>by
  unfold pc;rw[uM p xs,K7];by_cases h:bf p x=b_
  ·simp only[h,G',if_true,Fn];have:xs.countP (fun t=>bf p t)=xs.countP (bf p):=rfl;rw[this,uL]
  ·have h':bf p x=false:=by simpa using h
   simp[h',List.countP_false]
def sm(m:Nat)(f:Nat->Nat):Nat:=((d_ m).map f).sum
theorem DB(f:Nat->Nat):sm 0 f=0:=rfl
theorem jw(m:Nat)(f:Nat->Nat):sm (m+1) f=sm m f+f m:=by unfold sm;rw[List.range_succ];simp
theorem DC(m:Nat)(f:Nat->Nat):sm (m+1) f=f 0+sm m (fun i=>f (i+1)):=by
 unfold sm;rw[LL];simp[Function.comp_def]
theorem sY(f g:Nat->Nat):∀m,sm m (fun i=>f i+g i)=sm m f+sm m g
 |0=>rfl
 |m+1=>by rw[jw,jw,jw,sY f g m];omega
theorem mn{f g:Nat->Nat}:∀{m:Nat},(∀i,i<m->f i=g i)->sm m f=sm m g
 |0,_=>rfl
 |m+1,h=>by rw[jw,jw,mn fun i Z=>h i (Li Z),h m (LK m)]
theorem ni:∀m,sm m (fun _=>0)=0
 |0=>rfl
 |m+1=>by rw[jw,ni m]
theorem BF(i x:Nat):∀m,sm m (fun j=>if j=i then x else 0)=if i<m then x else 0
 |0=>by simp[DB]
 | m+1=>by
  rw[jw,BF i x m];by_cases h:i<m
  ·rw[if_pos h,if_neg (by omega),if_pos (by omega)];omega
  ·by_cases h2:m=i
   ·subst h2;simp
   ·rw[if_neg h,if_neg h2,if_neg (by omega)]
theorem rF(n:Nat)(r:List Int->Bool)(g:Nat->List Int->Bool):∀xs:List (List Int),(∀t∈xs,(if r t then 1 else 0)=sm n (fun p=>if g p t then 1 else 0))->xs.countP r=sm n (fun p=>xs.countP (g p))
 |[],_=>by simp[ni]
 |x::xs,h=>by
  rw[K7,rF n r g xs fun t Z=>h t (J7 _ Z),h x Kj, <-sY];exact mn fun p _=>by rw[K7]
theorem BG(n:Nat)(r:List Int->List Int->Bool)(g:Nat->List Int->List Int->Bool):∀E:List (List Int),E.Pairwise (fun s t=>(if r s t then 1 else 0)=sm n (fun p=>if g p s t then 1 else 0))->pc r E=sm n (fun p=>pc (g p) E)
 |[],_=>by simp[pc,ni]
 |x::xs,h=>by
  obtain⟨Z,Y⟩:=KB.mp h;unfold pc;rw[BG n r g xs Y,rF n (r x) (fun p=>g p x) xs Z, <-sY]
def gF(s t:List Int):Bool:=decide ((distinct (s++t)).length<4)
theorem qd{a b c d:Int}(X:a<b)(W:c<d):gF [a,b] [c,d]=decide (a=c\/a=d\/b=c\/b=d):=by
 unfold gF distinct firstMet;have e:(d_ ([a,b]++[c,d]).length).map (fun i=>([a,b]++[c,d]).getD i 0)=[a,b,c,d]:=rfl;rw[e];have Y:¬ a=b:=by omega
 have Z:¬ c=d:=by omega
 refine Nd.mpr ?_;show(m_ (m_ (m_ (m_ [] a) b) c) d).length<4↔_;have s1:m_ [] a=[a]:=rfl;have s2:m_ [a] b=[a,b]:=by simp[m_,Y]
 have s3:m_ [a,b] c=if a=c\/b=c then [a,b]else [a,b,c]:=by unfold m_;simp
 rw[s1,s2,s3];by_cases h:a=c\/b=c
 ·rw[if_pos h];have:(m_ [a,b] d).length<4:=by unfold m_;split<;>simp
  exact⟨fun _=>by omega,fun _=>this⟩
 ·rw[if_neg h];have s4:m_ [a,b,c] d=if a=d\/b=d then [a,b,c]else [a,b,c,d]:=by unfold m_;simp[Z]
  rw[s4];by_cases h3:a=d\/b=d
  ·rw[if_pos h3];exact⟨fun _=>by omega,fun _=>by simp⟩
  ·rw[if_neg h3];exact⟨fun z=>by simp at z,fun z=>by omega⟩
structure Tied(n:Nat)(E:List (List Int)):Prop where
 el:∀t∈E,∃a b:Int,t=[a,b]/\0<=a/\a<b/\b<n
 nd:E.Nodup
theorem xY{n:Nat}{a:Int}(Z:0<=a)(Y:a<n)(x:Nat):sm n (fun p=>if (p:Int)=a then x else 0)=x:=by
 obtain⟨k,rfl⟩:=Md Z;have:∀p:Nat,((p:Int)=(k:Int))↔p=k:=fun p=>by omega
 simp only[this];rw[BF,if_pos (by omega)]
theorem FS{p a b:Int}:bf p [a,b]=decide (p=a\/p=b):=by
 unfold bf;rw[LC];simp;constructor
 ·rintro(h|h)
  ·exact .inl h.symm
  ·exact .inr h.symm
 ·rintro(h|h)
  ·exact .inl h.symm
  ·exact .inr h.symm
theorem zx{n:Nat}{a b c d:Int}(U:0<=a)(W:a<b)(T:b<n)(Q:0<=c)(X:c<d)(R:d<n)(S:¬ (a=c/\b=d)):
  (if gF [a,b] [c,d]then 1 else 0)=sm n (fun p=>if bf p [a,b] && bf p [c,d]then 1 else 0):=by
 have e:∀p:Nat,(if bf p [a,b] && bf p [c,d]then 1 else 0)=(if (p:Int)=a then (if a=c\/a=d then 1 else 0)else 0)+(if (p:Int)=b then (if b=c\/b=d then 1 else 0)else 0):=fun p=>by
  rw[FS,FS];by_cases h1:(p:Int)=a
  ·have Z:¬ (p:Int)=b:=by omega
   rw[if_pos h1,if_neg Z];simp only[h1,true_or,decide_true,G',decide_eq_true_eq,Nat.add_zero]
  ·rw[if_neg h1];by_cases Z:(p:Int)=b
   ·rw[if_pos Z];simp only[Z,or_true,decide_true,G',decide_eq_true_eq,L']
   ·rw[if_neg Z];simp[h1,Z]
 rw[mn fun p _=>e p,sY,xY U (by omega),xY (by omega) T,qd W X]
 by_cases p1:a=c\/a=d
 ·have Y:¬ (b=c\/b=d):=by omega
  rw[if_pos p1,if_neg Y,if_pos (by simp;omega)]
 ·rw[if_neg p1];by_cases Y:b=c\/b=d
  ·rw[if_pos Y,if_pos (by simp;omega)]
  ·rw[if_neg Y,if_neg (by simp;omega)]
def jx(E:List (List Int))(p:Nat):Nat:=E.countP (bf p)
def Gk(c:Nat):Nat:=c*(c - 1) / 2
theorem uN{n:Nat}{E:List (List Int)}(w:Tied n E):pc gF E=sm n (fun p=>Gk (jx E p)):=by
 rw[BG n gF (fun p s t=>bf p s && bf p t) E ?_]
 ·exact mn fun p _=>uM p E
 ·refine KN (R:=fun s t=>s≠t) ?_ w.nd;intro s t hs Y Z;obtain⟨a,b,rfl,W,U,X⟩:=w.el s hs;obtain⟨c,d,rfl,g1,g2,g3⟩:=w.el t Y;exact zx W U X g1 g2 g3 fun z=>Z (by rw[z.1,z.2])
def BH(E:List (List Int))(a:Nat):List (List Int):=((n_ (a+1) (E.length - (a+1))).filter fun b=>gF (E.getD a []) (E.getD b [])).map fun b:Nat=>[(a:Int),(b:Int)]
def bB(E:List (List Int)):List (List Int):=(d_ E.length).flatMap (BH E)
theorem drop_eq(E:List (List Int))(k:Nat):E.drop k=(n_ k (E.length - k)).map fun b=>E.getD b []:=by
 refine MY fun i=>?_;rw[MN,KG];by_cases h:i<E.length - k
 ·rw[List.getElem?_range' h];have:k+i<E.length:=by omega
  simp[Ow,this,List.getElem?_eq_getElem this]
 ·rw[K2 (by omega),K2 (by simp;omega)];rfl
theorem BI(E:List (List Int))(a:Nat):(BH E a).length=(E.drop (a+1)).countP (gF (E.getD a [])):=by
 unfold BH;rw[JV,drop_eq,Nm,KL];rfl
theorem xZ:∀E:List (List Int),sm E.length (fun a=>(E.drop (a+1)).countP (gF (E.getD a [])))=pc gF E
 |[]=>rfl
 |x::xs=>by
  rw[KD,DC];simp only[u3,List.getD_cons_succ,List.drop_succ_cons,D'];rw[xZ xs];rfl
theorem BJ(E:List (List Int)):(bB E).length=pc gF E:=by
 rw[<-xZ E];unfold bB sm;rw[List.length_flatMap];congr 1;exact LJ fun a _=>BI E a
theorem x8(s:List Int):∀rs:List (List Int),((rs.map gU).any fun y=>gi y (gU s))=decide (s∈rs)
 |[]=>by simp
 | r::rs=>by
  rw[Kr,M7,x8 s rs];have:gi (gU r) (gU s)=decide (r=s):=by
   unfold gU gi;exact mj r s
  rw[this,LC];simp only[v_,decide_eq_true_eq,f'];exact or_congr ⟨Eq.symm,Eq.symm⟩ Iff.rfl
theorem DD{s:List Int}{rs:List (List Int)}:inD (tupI s) (.tup (rs.map tupI))=aC (.bl (decide (s∈rs))):=dE fun S=>by
 unfold inD;have Z:gI S 60 (.tup (rs.map tupI))=ar (.tuple (rs.map gU)):=by
  show(mapP (gI S 59) (rs.map tupI)).map u0=_;rw[ja];rfl
 exact(oH (ko s) Z (r:=decide (s∈rs)) (by show ar (id ((rs.map gU).any fun y=>gi y (gU s)))=_;rw[x8];rfl)).mpr ⟨rfl,rfl⟩
theorem Jf{a b:Bool}:oC (.bl a) (.bl b)=aC (.bl (a==b)):=dE fun S=>Hn.mpr ⟨rfl,rfl⟩
def tB(E:List (List Int))(a b:Int):Bool:=decide ([if b<a then b else a,if b>a then b else a]∈E)
section
variable {n n':Nat}{E E':List (List Int)}
theorem mm{ρ:aD}{e1 e2:TM}{a b:Int}(Y:e1 ρ=aC (.int a))(Z:e2 ρ=aC (.int b)):fD (ae (au minD (ae e1 (ae e2 av))) (ae (au maxD (ae e1 (ae e2 av))) av)) ρ=aC (tupI [if b<a then b else a,if b>a then b else a]):=by
 show(ae _ _ _>>=bA)=_;rw[bb ((call2 (F:=minD) Y Z).trans rfl) (bb ((call2 (F:=maxD) Y Z).trans rfl) (es:=av) rfl),aj];unfold bA;exact if_pos m6
theorem wH{a b:Int}:c8 [aw n E,.int a,.int b]=aC (.bl (tB E a b)):=
 de (o:=.ret (.bl (tB E a b))) (cc ((cf (y:=.tup (E.map tupI)) (mm (a:=a) (b:=b) rfl rfl) rfl).trans DD)) rfl
def HC(E E':List (List Int))(r:List Int)(p:Int)(i:Nat):Bool:=tB E (i:Int) (r.length:Int)==tB E' (r.getD i 0) p
def sZ(E E':List (List Int))(r:List Int)(p:Int):Bool:= !bf p r && (d_ r.length).all (HC E E' r p)
def lC(E E':List (List Int))(r:List Int)(p:Int):D->D
 | .int i=>.bl (HC E E' r p i.toNat)
 |d=>d
theorem Jg(n:Nat):bC 0 n=(d_ n).map fun i:Nat=>D.int (i:Int):=by
 unfold bC;exact LJ fun i _=>by rw[MM]
theorem wI{m:TM}{ρ:aD}{n:Nat}(h:m ρ=aC (.int n))(Z:n<=1000):oj m ρ=aC ⟨(d_ n).map fun i:Nat=>D.int (i:Int),.none⟩:=by
 have:=(sP h).trans (Dm (by omega))
 rw[La,Jg]at this;exact this
theorem BK{r:List Int}{p:Int}(S:r.length<=100):cN [aw n E,aw n' E',tupI r,.int p]=aC (.bl (sZ E E' r p)):=by
 have hlen:∀x,bY cX (mV 2) [ar (aw n E),ar (aw n' E'),ar (tupI r),ar (.int p),x]=aC (.int r.length):=fun x=>by
  refine(cJ (x:=tupI r) rfl).trans ?_;show aC (D.int (r.map D.int).length)=_;rw[JV]
 have Z:ec inD (mV 3) (mV 2) [ar (aw n E),ar (aw n' E'),ar (tupI r),ar (.int p),ar (.int r.length)]=aC (bf p r):=bO (x:=.int p) (y:=tupI r) rfl rfl n0;refine de (o:=.ret (.bl (sZ E E' r p))) ?_ rfl;unfold m4 sZ;refine(aJ (fS (hlen _))).trans ?_;cases hp:bf p r with
 |true=>exact eQ ((bH Z).trans ((if_pos hp).trans rfl))
 | false=>
  refine(aJ (ρ':=[ar (aw n E),ar (aw n' E'),ar (tupI r),ar (.int p),ar (.int r.length)]) ((bH Z).trans (if_neg (by rw[hp];decide)))).trans (cc ?_)
  have em:(((d_ r.length).map fun i:Nat=>D.int (i:Int)).filter fun _=>b_).map (lC E E' r p)=((d_ r.length).map (HC E E' r p)).map D.bl:=by
   rw[bg,Ke,Ke];rfl
  have X:=iq (mi:=oj (mV 4)) (g:=gN 0) (t:=jm) (m:=jo) (js:=[none,ar 0,ar 4,ar 1,ar 2,ar 3]) (ρ:=[ar (aw n E),ar (aw n' E'),ar (tupI r),ar (.int p),ar (.int r.length)]) (its:=(d_ r.length).map fun i:Nat=>D.int (i:Int))
   (fun ρ=>∃x,ρ=[x,ar (aw n E),ar (.int r.length),ar (aw n' E'),ar (tupI r),ar (.int p)]) (fun _=>b_) (lC E E' r p) (wI rfl (by omega)) (by rw[JV,Kc];unfold lim;omega) ⟨none,rfl⟩
   (fun d hd ρ ⟨x,hρ⟩=>by
    subst hρ;obtain⟨i,Y,rfl⟩:=Kb.mp hd;have Y:=Ka.mp Y;refine⟨[ar (.int i),ar (aw n E),ar (.int r.length),ar (aw n' E'),ar (tupI r),ar (.int p)],rfl,⟨_,rfl⟩,rfl,fun _=>?_⟩;have U:=d8 (e:=au c8 (ae (mV 1) (ae (mV 0) (ae (mV 2) av)))) (ρ:=[ar (.int i),ar (aw n E),ar (.int r.length),ar (aw n' E'),ar (tupI r),ar (.int p)]) ((qc (x:=aw n E) (y:=.int i) (z:=.int r.length) rfl rfl rfl).trans wH);have T:aZ cn (mV 4) (mV 0) [ar (.int i),ar (aw n E),ar (.int r.length),ar (aw n' E'),ar (tupI r),ar (.int p)]=aC (.int (r.getD i 0)):=by
     refine(cf (x:=tupI r) (y:=.int i) rfl rfl).trans ((xT (by omega) (by omega)).trans ?_)
     rw[La]
    have W:=d8 (e:=au c8 (ae (mV 3) (ae (aZ cn (mV 4) (mV 0)) (ae (mV 5) av)))) ((qc (x:=aw n' E') (z:=.int p) rfl T rfl).trans wH);exact(cf U W).trans Jf) (by rw[em];exact kO _)
  rw[em]at X;refine(cJ X).trans (m9.trans ?_);rw[L7];rfl
end
theorem DE{its ds:List D}{d v:D}{g:ky}{b:cK}{ρ Z:aD}(h:g d ρ=aC Z)(Y:b Z=aC (.ret v)):gH ⟨its,.none⟩ g b (d::ds) ρ=aC (.ret v):=by
 rw[gH,cm,aj,h,aj,Y];rfl
theorem x9{its ds:List D}{d:D}{g:ky}{b:cK}{ρ Z Y:aD}(h:g d ρ=aC Z)(X:b Z=aC (.nx Y)):gH ⟨its,.none⟩ g b (d::ds) ρ=gH ⟨its,.none⟩ g b ds Y:=by
 rw[gH,cm,aj,h,aj,X];rfl
def ext(n:Nat)(E E':List (List Int))(r:List Int):List (List Int):=((d_ n).filter fun p:Nat=>sZ E E' r p).map fun p:Nat=>r++[(p:Int)]
def nj(n:Nat)(E E':List (List Int)):Nat->List (List Int)->List (List Int)
 |0,rs=>rs
 |k+1,rs=>nj n E E' k (rs.flatMap (ext n E E'))
def zy:Option (List Int)->D
 |some r=>tupI r
 |none=>.non
section
variable {n:Nat}{E E':List (List Int)}
theorem ya:∀(k:Nat) (a b:List (List Int)),nj n E E' k (a++b)=nj n E E' k a++nj n E E' k b
 |0,_,_=>rfl
 |k+1,a,b=>by
  unfold nj;rw[List.flatMap_append,ya k]
theorem yb:∀k:Nat,nj n E E' k []=[]
 |0=>rfl
 |k+1=>yb k
theorem DF{r:List Int}{p:Int}{ρ:aD}{e1 e2:TM}(Z:e1 ρ=aC (tupI r))(X:e2 ρ=aC (.int p))(W:r.length<=100):aL (aZ iS e1 (fD (ae e2 av))) ρ=aC (tupI (r++[p])):=by
 have Y:fD (ae e2 av) ρ=aC (tupI [p]):=by
  show(ae _ _ _>>=bA)=_;rw[bb X (es:=av) rfl,aj];unfold bA;exact if_pos (show 1<=lim by unfold lim;omega)
 refine d8 ((cf Z Y).trans ?_);show bA (r.map D.int++[p].map D.int)=_;unfold bA;rw[<-MG,if_pos (by rw[JV,J5];show r.length+1<=lim;unfold lim;omega)];rfl
theorem yc{Z:Nat}:∀(f:Nat) (r:List Int),r.length<=n->n<=7->n+1<=f+r.length->bF f [aw n E,aw Z E',tupI r]=aC (zy (nj n E E' (n - r.length) [r]).head?)
 |0,r,W,_,Y=>by omega
 | f + 1,r,hr,hn,hf=>by
  have hlen:bY cX (mV 2) [ar (aw n E),ar (aw Z E'),ar (tupI r),ar (.int n),none,none]=aC (.int r.length):=by
   refine(cJ (x:=tupI r) rfl).trans ?_;show aC (D.int (r.map D.int).length)=_;rw[JV]
  have S:ec oC (bY cX (mV 2)) (mV 3) [ar (aw n E),ar (aw Z E'),ar (tupI r),ar (.int n),none,none]=aC (decide ((r.length:Int)=n)):=bO hlen (y:=.int n) rfl Hq;by_cases hl:r.length=n
  ·refine de (o:=.ret (tupI r)) ?_ ?_
   ·exact(aJ (fS (x:=.int n) rfl)).trans (eQ ((bH S).trans ((if_pos (J3 (by omega))).trans rfl)))
   ·rw[hl,Nl];rfl
  ·obtain⟨k,Q⟩:∃k,n - r.length=k+1:=⟨n - r.length - 1,by omega⟩
   have key:∀(post:List Nat) (x4 x5:Option D),∃o,gH ⟨(d_ n).map fun i:Nat=>D.int (i:Int),.none⟩ (gN 4) (di (bF f)) (post.map fun i:Nat=>D.int (i:Int)) [ar (aw n E),ar (aw Z E'),ar (tupI r),ar (.int n),x4,x5]=aC o/\(match (nj n E E' k ((post.filter fun p:Nat=>sZ E E' r p).map fun p:Nat=>r++[(p:Int)])).head? with|some z=>o= .ret (tupI z)|none=>∃ ρ,o= .nx ρ):=fun post=>by
    induction post with
    |nil=>exact fun x4 x5=>⟨_,oK,by rw[List.filter_nil,Mn,yb];exact⟨_,rfl⟩⟩
    | cons p post ih=>
     intro x4 x5;have U:bV (aL (au cN (aR (mV 0) (aR (mV 1) (aR (mV 2) (aR (mV 4) av)))))) [ar (aw n E),ar (aw Z E'),ar (tupI r),ar (.int n),ar (.int p),x5]=aC (sZ E E' r p):=by
      refine gE (d8 ?_);show(aR _ _ _>>=cN)=_;rw[show aR (mV 0) (aR (mV 1) (aR (mV 2) (aR (mV 4) av))) [ar (aw n E),ar (aw Z E'),ar (tupI r),ar (.int n),ar (.int p),x5]=aC [aw n E,aw Z E',tupI r,.int p]from rfl,aj];exact BK (by omega)
     by_cases hp:sZ E E' r p=b_
     ·have X:aL (au (bF f) (ae (mV 0) (ae (mV 1) (ae (aL (aZ iS (mV 2) (fD (ae (mV 4) av)))) av)))) [ar (aw n E),ar (aw Z E'),ar (tupI r),ar (.int n),ar (.int p),x5]=aC (zy (nj n E E' k [r++[(p:Int)]]).head?):=by
       refine d8 ((qc (x:=aw n E) (y:=aw Z E') rfl rfl (DF rfl rfl (by omega))).trans ((yc f (r++[(p:Int)]) (by rw[J5];show r.length+1<=n;omega) hn (by rw[J5];show n+1<=f+(r.length+1);omega)).trans ?_))
       rw[J5,show n - (r.length+[(p:Int)].length)=k by show n - (r.length+1)=k;omega]
      have R:((p::post).filter fun p:Nat=>sZ E E' r p).map (fun p:Nat=>r++[(p:Int)])=[r++[(p:Int)]]++(post.filter fun p:Nat=>sZ E E' r p).map fun p:Nat=>r++[(p:Int)]:=by
       rw[LH (p:=fun p:Nat=>sZ E E' r p) hp,Kr];rfl
      rw[R,ya];cases hz:(nj n E E' k [r++[(p:Int)]]).head? with
      | some z=>
       refine⟨.ret (tupI z),DE rfl ((bH U).trans ((if_pos hp).trans ((aJ (fS X)).trans ?_))),?_⟩
       ·rw[hz];exact(bH (bO (x:=tupI z) (y:=.non) (b:=b_) rfl rfl rfl)).trans (if_pos rfl)
       ·cases hq:nj n E E' k [r++[(p:Int)]]with
        |nil=>rw[hq]at hz;cases hz
        |cons a l=>rw[hq]at hz;cases hz;rfl
      | none=>
       obtain⟨o,W,Y⟩:=ih (ar (.int p)) (ar .non);refine⟨o,?_,?_⟩
       ·refine(x9 rfl ((bH U).trans ((if_pos hp).trans ((aJ (fS X)).trans ?_)))).trans W;rw[hz];exact(bH (bO (x:=.non) (y:=.non) (b:=dV) rfl rfl rfl)).trans (if_neg (by decide))
       ·cases hq:nj n E E' k [r++[(p:Int)]]with
        |nil=>exact Y
        |cons a l=>rw[hq]at hz;cases hz
     ·obtain⟨o,W,Y⟩:=ih (ar (.int p)) x5;rw[LI (p:=fun p:Nat=>sZ E E' r p) hp];exact⟨o,(x9 rfl ((bH U).trans ((if_neg hp).trans rfl))).trans W,Y⟩
   obtain⟨o,W,Y⟩:=key (d_ n) none none;have T:nj n E E' (n - r.length) [r]=nj n E E' k (((d_ n).filter fun p:Nat=>sZ E E' r p).map fun p:Nat=>r++[(p:Int)]):=by
    rw[Q];show nj n E E' k (ext n E E' r++[])=_;rw[KS];rfl
   rw[T];have hm:∀{o':Out},(gH ⟨(d_ n).map fun i:Nat=>D.int (i:Int),.none⟩ (gN 4) (di (bF f)) ((d_ n).map fun i:Nat=>D.int (i:Int)) [ar (aw n E),ar (aw Z E'),ar (tupI r),ar (.int n),none,none]>>=fun o=>E1 o (bG (mK .non)))=aC o'->dw (bF f) [ar (aw n E),ar (aw Z E'),ar (tupI r),none,none,none]=aC o':=fun{o'} h=>by
    unfold dw;refine(aJ (fS (x:=.int n) rfl)).trans ((aJ ((bH S).trans (if_neg (by rw[Kk];omega)))).trans ?_)
    rw[<-h];show(sG _ _ _ _>>=_)=_;unfold sG;rw[show oj (mV 3) [ar (aw n E),ar (aw Z E'),ar (tupI r),ar (.int n),none,none]=_ from wI rfl (by omega),aj]
   cases hz:(nj n E E' k (((d_ n).filter fun p:Nat=>sZ E E' r p).map fun p:Nat=>r++[(p:Int)])).head? with
   |some z=>
    rw[hz]at Y;subst Y;exact de (o:=.ret (tupI z)) (hm (by rw[W];rfl)) rfl
   |none=>
    rw[hz]at Y;obtain⟨ρ,rfl⟩:=Y;exact de (o:=.ret .non) (hm (by rw[W];rfl)) rfl
end
section
variable {n:Nat}{E E':List (List Int)}{a b i:Int}
theorem DG{n:Nat}{E E':List (List Int)}{r s:List Int}(h:s∈ext n E E' r):s.length=r.length+1:=by
 unfold ext at h;obtain⟨p,_,rfl⟩:=Kb.mp h;rw[J5];rfl
theorem DH{a b:Int}:lb (.int a) (.int b)=aC (.bl (!decide (a=b))):=dE fun S=>by
 unfold lb;refine(ji iO iO).mpr ⟨?_,rfl⟩;simp[gi];rfl
theorem b0{p:Int}{t:List Int}:bf p t=b_↔p∈t:=by
 unfold bf;rw[List.any_eq_true];exact⟨fun⟨x,hx,e⟩=>by rw[<-N0 e];exact hx,fun h=>⟨p,h,beq_self_eq_true p⟩⟩
theorem mq:tB E a b=tB E b a:=by
 have e1:(if b<a then b else a)=(if a<b then a else b):=by split<;>split<;>omega
 have e2:(if b>a then b else a)=(if a>b then a else b):=by split<;>split<;>omega
 unfold tB;rw[e1,e2]
theorem oO(w:WebOk n E):tB E a a=false:=by
 unfold tB;rw[if_neg (Int.lt_irrefl a)];refine Kg fun h=>?_;obtain⟨x,y,e,_,X,_⟩:=w.el _ h;have Z:=(KY e).1;have Y:=(KY (KY e).2).1;omega
theorem uO(h:a<b):tB E a b=decide ([a,b]∈E):=by
 unfold tB;rw[if_neg (by omega),if_pos h]
def rG(E:List (List Int))(i:Int):Nat:=(E.filter (bf i)).length
theorem qe(w:WebOk n E)(O:0<=i)(N:i<n):rG E i=((d_ n).filter fun j:Nat=>tB E i j).length:=by
 have S:E.Nodup:=w.ris.imp fun{a b} h e=>by subst e;rw[fU]at h;cases h
 have p:((E.filter (bf i)).map fun t=>t.getD 0 0+t.getD 1 0 - i).Perm (((d_ n).filter fun j:Nat=>tB E i j).map fun j:Nat=>(j:Int)):=by
  refine(LV ?_ ?_).mpr fun x=>?_
  ·refine KI.mpr (KN (fun{s t} hs W hne e=>hne ?_) (Lf Lj S));obtain⟨s1,s2⟩:=Kh.mp hs;obtain⟨t1,t2⟩:=Kh.mp W;obtain⟨x,y,rfl,_,K,_⟩:=w.el s s1;obtain⟨u,v,rfl,_,X,_⟩:=w.el t t1;have T:=b0.mp s2;have Y:=b0.mp t2;simp only[f',e_,or_false]at T Y;have L:x+y - i=u+v - i:=e;have:x=u/\y=v:=by omega
   rw[this.1,this.2]
  ·exact KI.mpr ((Lf Lj (Mu (n:=n))).imp fun h e=>h (by omega))
  ·constructor
   ·intro h;obtain⟨t,W,rfl⟩:=Kb.mp h;obtain⟨t1,t2⟩:=Kh.mp W;obtain⟨u,v,rfl,P,X,Q⟩:=w.el t t1;have Y:=b0.mp t2;simp only[f',e_,or_false]at Y;show u+v - i∈_;rcases Y with rfl|rfl
    ·refine Kb.mpr ⟨v.toNat,Kh.mpr ⟨Ka.mpr (by omega),?_⟩,by omega⟩
     rw[show((v.toNat:Nat):Int)=v by omega,uO X]
     exact J3 t1
    ·refine Kb.mpr ⟨u.toNat,Kh.mpr ⟨Ka.mpr (by omega),?_⟩,by omega⟩
     rw[show((u.toNat:Nat):Int)=u by omega,mq,uO X]
     exact J3 t1
   ·intro h;obtain⟨j,U,rfl⟩:=Kb.mp h;obtain⟨R,Z⟩:=Kh.mp U;rcases Int.lt_trichotomy i j with c|c|c
    ·rw[uO c]at Z;exact Kb.mpr ⟨[i,(j:Int)],Kh.mpr ⟨Kw Z,b0.mpr (.head _)⟩,by show i+(j:Int) - i=j;omega⟩
    ·rw[<-c,oO w]at Z;cases Z
    ·rw[mq,uO c]at Z;exact Kb.mpr ⟨[(j:Int),i],Kh.mpr ⟨Kw Z,b0.mpr (.tail _ (.head _))⟩,by show(j:Int)+i - i=j;omega⟩
 have:=p.length_eq;rw[JV,JV]at this;exact this
structure Part(n:Nat)(E E':List (List Int))(r:List Int):Prop where
 nd:r.Nodup
 el:∀x∈r,0<=x/\x<n
 ok:∀j,j<r.length->∀i,i<j->tB E (i:Int) (j:Int)=tB E' (r.getD i 0) (r.getD j 0)
theorem Part.nil:Part n E E' []:=⟨.nil,(fun x h=>by cases h),fun j h=>by cases h⟩
theorem nk{r s:List Int}{j:Nat}(h:j<r.length):(r++s).getD j 0=r.getD j 0:=by
 rw[J1,J1,Kx h]
theorem getD_last{r:List Int}{p:Int}:(r++[p]).getD r.length 0=p:=by
 rw[J1,LU (JY _),Nl];rfl
theorem Part.ext{r s:List Int}(h:Part n E E' r)(hs:s∈ext n E E' r):Part n E E' s:=by
 unfold W.ext at hs;obtain⟨p,Y,rfl⟩:=Kb.mp hs;obtain⟨Y,U⟩:=Kh.mp Y;have Y:=Ka.mp Y;unfold sZ at U;rw[Kn,Ki]at U;obtain⟨g1,g2⟩:=U;have g1:(p:Int)∉r:=fun z=>by rw[b0.mpr z]at g1;cases g1
 refine⟨List.nodup_append.mpr ⟨h.nd,M8 _ _,fun a R b S e=>?_⟩,fun x Z=>?_,fun j X i T=>?_⟩
 ·rw[Lv.mp S]at e;exact g1 (e ▸ R)
 ·rcases Nf.mp Z with Z|Z
  ·exact h.el x Z
  ·rw[Lv.mp Z];exact⟨by omega,by omega⟩
 ·rw[J5]at X;have X:j<r.length+1:=X;by_cases c:j<r.length
  ·rw[nk c,nk (by omega)]
   exact h.ok j c i T
  ·have:j=r.length:=by omega
   subst this;rw[getD_last,nk T];have:=g2 i (Ka.mpr T);unfold HC at this;exact N0 this
theorem qf:∀(k b:Nat) (rs:List (List Int)),(∀r∈rs,Part n E E' r/\r.length=b)->∀z∈nj n E E' k rs,Part n E E' z/\z.length=b+k
 |0,b,rs,h,z,hz=>h z hz
 | k+1,b,rs,h,z,hz=>by
  have:=qf k (b+1) (rs.flatMap (W.ext n E E')) (fun s hs=>by
   obtain⟨r,Y,Z⟩:=Mt.mp hs;obtain⟨p,l⟩:=h r Y;exact⟨p.ext Z,by rw[DG Z,l]⟩) z hz
  rw[show b+(k+1)=b+1+k by omega]
  exact this
abbrev HV(n:Nat):List Int:=(d_ n).map fun j:Nat=>(j:Int)
theorem Part.perm{z:List Int}(h:Part n E E' z)(W:z.length=n):z.Perm (HV n):=by
 refine(LV h.nd (KI.mpr ((Mu (n:=n)).imp fun h e=>h (by omega)))).mpr fun x=>⟨fun Z=>?_,fun Z=>?_⟩
 ·obtain⟨h0,X⟩:=h.el x Z;exact Kb.mpr ⟨x.toNat,Ka.mpr (by omega),by omega⟩
 ·exact Classical.byContradiction fun c=>by
   have:(x::z).Nodup:=KW.mpr ⟨c,h.nd⟩;have:=sX (m:=HV n) this fun y Y=>by
    rcases Km.mp Y with rfl|Y
    ·exact Z
    ·obtain⟨h0,X⟩:=h.el y Y;exact Kb.mpr ⟨y.toNat,Ka.mpr (by omega),by omega⟩
   rw[KD,W,JV,Kc]at this;omega
theorem getD_map{z:List Int}:z=(d_ z.length).map fun j=>z.getD j 0:=by
 refine L3 (by simp) fun i Z Y=>?_
 simp[i_,Z]
theorem DI{z:List Int}(w:WebOk n E)(Z:WebOk n E')(h:Part n E E' z)(X:z.length=n){i:Nat}(S:i<n):rG E' (z.getD i 0)=rG E (i:Int):=by
 have U:z.getD i 0∈z:=by
  rw[J1,JX (by omega)]
  exact Ln _
 obtain⟨z0,W⟩:=h.el _ U;rw[qe Z z0 W,qe w (by omega) (by omega)]
 have e1:((d_ n).filter fun j:Nat=>tB E' (z.getD i 0) j).length=((HV n).filter fun x=>tB E' (z.getD i 0) x).length:=by
  rw[LD,JV];rfl
 have e2:=((h.perm X).filter fun x=>tB E' (z.getD i 0) x).length_eq;have T:∀c,(z.filter fun x=>tB E' c x).length=((d_ n).filter fun j=>tB E' c (z.getD j 0)).length:=fun c=>by
  conv=>lhs;rw[getD_map (z:=z),X]
  rw[LD,JV];rfl
 rw[e1, <-e2,T];congr 1;refine List.filter_congr fun j Y=>?_;have Y:=Ka.mp Y;show tB E' (z.getD i 0) (z.getD j 0)=tB E i j;rcases M5 i j with c|c|c
 ·exact(h.ok j (by omega) i c).symm
 ·rw[c,oO w,oO Z]
 ·rw[mq,mq (E:=E)];exact(h.ok i (by omega) j c).symm
def fx(n:Nat)(E:List (List Int)):List Int:=(d_ n).map fun i:Nat=>(rG E (i:Int):Int)
theorem wJ{l Z:List Int}(h:l.Perm Z):sortI l=sortI Z:=
 MZ (le:=(· <=·)) (fun a b _ _ x y=>Int.le_antisymm x y) (gJ l) (gJ Z) (((sortI_perm l).trans h).trans (sortI_perm Z).symm)
theorem BN{z:List Int}(w:WebOk n E)(X:WebOk n E')(W:z∈nj n E E' n [[]]):sortI (fx n E)=sortI (fx n E'):=by
 obtain⟨h,Z⟩:=qf n 0 [[]] (fun r Y=>by rw[Lv.mp Y];exact⟨.nil,rfl⟩) z W
 rw[L']at Z;refine wJ ?_;have e:fx n E=z.map fun x=>(rG E' x:Int):=by
  conv=>rhs;rw[getD_map (z:=z),Z]
  rw[Ke];unfold fx;refine LJ fun i U=>?_;show(rG E (i:Int):Int)=rG E' (z.getD i 0);rw[DI w X h Z (Ka.mp U)]
 have T:fx n E'=(HV n).map fun x=>(rG E' x:Int):=by
  unfold fx;rw[Ke];rfl
 rw[e,T];exact(h.perm Z).map _
end
section
variable {n n':Nat}{E E':List (List Int)}{d e:D}
theorem iP(Z:n<=14)(w:WebOk n E):bc [aw n E]=aC .non:=by
 rw[By wA (sW w),if_pos (sV (by omega) (by omega) w)]
theorem qg(Y:n<=14)(w:WebOk n E):bu [aw n E,.int 7]=if 7<n then M.raise (great n)else aC .non:=by
 have Z:ec vp (aZ cn (mV 0) (mK (.int 0))) (mV 1) [ar (aw n E),ar (.int 7)]=aC (decide (7<(n:Int))):=bO (x:=.int n) (y:=.int 7) rfl rfl rfl;by_cases h:7<n
 ·rw[if_pos h];exact gY ((aJ (fw (d8 ((b8 rfl).trans (iP Y w))))).trans ((bH Z).trans ((if_pos (J3 (by omega))).trans rfl)))
 ·rw[if_neg h];exact df ((aJ (fw (d8 ((b8 rfl).trans (iP Y w))))).trans ((bH Z).trans (if_neg (by rw[Kk];omega)))) rfl
theorem mapped(T:n<=14)(w:WebOk n E)(Y:n'<=14)(U:WebOk n' E'):bP [aw n E,aw n' E']=if 7<n then M.raise (great n)else if 7<n' then M.raise (great n')else aC .non:=by
 have W:∀{m:cK},aI (kJ (aL (au bc (ae (mV 0) av)))) (aI (kJ (aL (au bc (ae (mV 1) av)))) m) [ar (aw n E),ar (aw n' E')]=m [ar (aw n E),ar (aw n' E')]:=fun{m}=>(aJ (fw (d8 ((b8 rfl).trans (iP T w))))).trans (aJ (fw (d8 ((b8 rfl).trans (iP Y U)))));have Z:=qg T w;have X:=qg Y U;by_cases h:7<n
 ·rw[if_pos h]at Z⊢;exact gY (W.trans (wu (uE (Jx ((call2 rfl rfl).trans Z)))))
 ·rw[if_neg h]at Z⊢;by_cases h':7<n'
  ·rw[if_pos h']at X⊢;exact gY (W.trans ((aJ (fw (d8 ((call2 rfl rfl).trans Z)))).trans (uE (Jx ((call2 rfl rfl).trans X)))))
  ·rw[if_neg h']at X⊢;exact df (W.trans ((aJ (fw (d8 ((call2 rfl rfl).trans Z)))).trans (fw (d8 ((call2 rfl rfl).trans X))))) rfl
def qI(i:Int):D->Bool
 | .tup ds=>match intsOf ds with
  |some ns=>bf i ns
  |none=>dV
 |_=>dV
theorem BO{i:Int}{t:List Int}:qI i (tupI t)=bf i t:=by
 show(match intsOf (t.map D.int)with|some ns=>bf i ns|none=>dV)=_
 rw[dG]
def JC(E:List (List Int)):D->D
 | .int i=>.int (rG E i)
 |d=>d
theorem yd(Y:n<=14)(w:WebOk n E):bx [aw n E]=aC (.fz ((fx n E).map D.int)):=by
 have hf:=w.few;have em:(((d_ n).map fun i:Nat=>D.int (i:Int)).filter fun _=>b_).map (JC E)=(fx n E).map D.int:=by
  unfold fx;rw[bg,Ke,Ke];rfl
 have Z:=l6 (mi:=oj (mV 1)) (g:=gN 0) (t:=gO) (m:=gP) (js:=[none,ar 2]) (ρ:=[ar (aw n E),ar (.int n),ar (.tup (E.map tupI))]) (its:=(d_ n).map fun i:Nat=>D.int (i:Int)) (fun ρ=>∃x,ρ=[x,ar (.tup (E.map tupI))]) (fun _=>b_) (JC E) (wI rfl (by omega)) (by rw[JV,Kc];unfold lim;omega) ⟨none,rfl⟩
  (fun d hd ρ ⟨x,hρ⟩=>by
   subst hρ;obtain⟨i,_,rfl⟩:=Kb.mp hd;refine⟨[ar (.int i),ar (.tup (E.map tupI))],rfl,⟨_,rfl⟩,rfl,fun _=>?_⟩;have e2:((E.map tupI).filter (qI i)).map id=(E.filter (bf i)).map tupI:=by
    rw[Np,LD];congr 1;exact List.filter_congr fun t _=>BO
   have h:=iq (mi:=bK (mV 1)) (g:=gN 0) (t:=gL) (m:=gM) (js:=[none,ar 0]) (ρ:=[ar (.int i),ar (.tup (E.map tupI))]) (its:=E.map tupI) (fun ρ=>∃x,ρ=[x,ar (.int i)]) (qI i) id rfl (by rw[JV];unfold lim;omega) ⟨none,rfl⟩
    (fun d hd ρ ⟨x,hρ⟩=>by
     subst hρ;obtain⟨t,_,rfl⟩:=Kb.mp hd;refine⟨[ar (tupI t),ar (.int i)],rfl,⟨_,rfl⟩,?_,fun _=>rfl⟩;rw[BO];exact bO (x:=.int i) (y:=tupI t) rfl rfl n0) (by rw[e2];exact bX _)
   rw[e2]at h;refine(cJ h).trans ?_;show aC (D.int ((E.filter (bf i)).map tupI).length)=_;rw[JV];rfl) (by rw[em];exact jv _)
 rw[em]at Z;exact df (o:=.ret (.fz ((fx n E).map D.int))) ((aJ (fw (d8 ((b8 rfl).trans (iP Y w))))).trans ((aJ (ρ':=[ar (aw n E),ar (.int n),ar (.tup (E.map tupI))]) rfl).trans (cc Z))) rfl
theorem rH{l:List Int}{e:TM}{ρ:aD}(h:e ρ=aC (.fz (l.map D.int)))(Z:l.length<64):aL (bY bJ e) ρ=aC (.fz ((sortI l).map D.int)):=by
 unfold aL;rw[cJ h];have:bJ [.fz (l.map D.int)]=bD ((sortI l).map D.int):=by
  show(match intsOf (l.map D.int)with|some ns=>if ns.length<64 then bD ((sortI ns).map D.int)else M.fail|none=>_)=_
  rw[dG];exact if_pos Z
 rw[this];exact cu (jv _) (by rw[JV,(sortI_perm l).length_eq];unfold lim;omega)
theorem td{a b:List Int}:lb (.fz (a.map D.int)) (.fz (b.map D.int))=aC (.bl (!decide (a=b))):=dE fun S=>by
 have Z:∀l:List Int,gI S 60 (.fz (l.map D.int))=ar (.list (l.map oo)):=fun l=>by
  show(mapP (gI S 59) (l.map D.int)).map w7=_;rw[km];rfl
 unfold lb;refine(ji (Z a) (Z b)).mpr ⟨?_,rfl⟩;have:gi (.list (a.map oo)) (.list (b.map oo))=decide (a=b):=by
  unfold gi;exact mj a b
 rw[this]
theorem BP(S:n<=7)(w:WebOk n E)(R:n'<=7)(Y:WebOk n' E'):ip [aw n E,aw n' E']=aC (if n=n' then zy (nj n E E' n [[]]).head? else .non):=by
 have hm:bP [aw n E,aw n' E']=aC .non:=by rw[mapped (by omega) w (by omega) Y,if_neg (by omega),if_neg (by omega)]
 have dl:∀(m:Nat) F,(fx m F).length=m:=fun m F=>by unfold fx;rw[JV,Kc]
 have W:=rH (d8 (e:=au bx (ae (mV 0) av)) (ρ:=[ar (aw n E),ar (aw n' E')]) ((b8 rfl).trans (yd (by omega) w))) (by rw[dl];omega)
 have T:=rH (d8 (e:=au bx (ae (mV 1) av)) (ρ:=[ar (aw n E),ar (aw n' E')]) ((b8 rfl).trans (yd (by omega) Y))) (by rw[dl];omega)
 have X:ec lb (aL (bY bJ (aL (au bx (ae (mV 0) av))))) (aL (bY bJ (aL (au bx (ae (mV 1) av))))) [ar (aw n E),ar (aw n' E')]=aC (!decide (sortI (fx n E)=sortI (fx n' E'))):=bO W T td;by_cases h:sortI (fx n E)=sortI (fx n' E')
 ·have Z:n=n':=by
   have:=Mx N8 h;rw[(sortI_perm _).length_eq,(sortI_perm _).length_eq,dl,dl]at this;exact this
  subst Z;rw[if_pos rfl];have hf:dy [aw n E,aw n E',tupI []]=aC (zy (nj n E E' n [[]]).head?):=yc 8 [] (Ku _) S (by show n+1<=8;omega)
  exact df (o:=.ret (zy (nj n E E' n [[]]).head?)) ((aJ (fw (d8 ((call2 rfl rfl).trans hm)))).trans ((aJ ((bH X).trans (if_neg (by rw[h];simp)))).trans (cc (d8 ((qc (x:=aw n E) (y:=aw n E') (z:=tupI []) rfl rfl rfl).trans hf))))) rfl
 ·have U:(if n=n' then zy (nj n E E' n [[]]).head? else D.non)= .non:=by
   by_cases Z:n=n'
   ·subst Z;rw[if_pos rfl];cases hq:nj n E E' n [[]]with
    |nil=>rfl
    |cons z l=>exact(h (BN w Y (z:=z) (by rw[hq];exact .head _))).elim
   ·rw[if_neg Z]
  rw[U];exact df (o:=.ret .non) ((aJ (fw (d8 ((call2 rfl rfl).trans hm)))).trans (eQ ((bH X).trans ((if_pos (by simp[h])).trans rfl)))) rfl
end
def JD:D->Bool
 | .int _=>b_
 | .bl _=>b_
 | .non=>b_
 | .str s=>PyData.strOk s
 | .tup ds=>(intsOf ds).isSome
 |_=>dV
def isTup:D->Bool
 | .tup _=>b_
 |_=>dV
inductive Th:D->Prop
 |tup {ds:List D}:ds.length<=50->(∀x∈ds,JD x=b_)->Th (.tup ds)
 |oth {d:D}:vP d=b_->isTup d=dV->Th d
theorem HD{x:D}(h:JD x=b_):vP x=true:=by cases x<;>first|rfl|cases h
theorem FT{d:D}(h:vP d=b_):CZ (fun t=>AF t "tuple") d=aC (.bl (isTup d)):=by cases d<;>first|rfl|cases h
theorem mr{p q:fE}{b c:Bool}{ρ:aD}(Y:p ρ=aC b)(Z:b=dV->q ρ=aC c):qp p q ρ=aC (b||c):=by
 show(p ρ>>=_)=_;rw[Y];cases b with
 |true=>rfl
 |false=>exact Z rfl
theorem not_eq{t:fE}{b:Bool}{ρ:aD}(h:t ρ=aC b):cZ t ρ=aC (!b):=by
 show(t ρ>>=_)=_;rw[h];rfl
def Gm(E E':List (List Int))(z:List Int):Bool:=(d_ z.length).all fun j=>sZ E E' (z.take j) (z.getD j 0)
def FU(n n':Nat)(E E':List (List Int)):D->Bool
 | .tup ds=>decide (n'=n) && (decide (ds.length=n) && (ds.all (cz n) && match intsOf ds with
  |some z=>Gm E E' z
  |none=>dV))
 |_=>dV
theorem kC{n:Nat}:∀{ds:List D},ds.all (cz n)=b_->∃z:List Int,ds=z.map D.int/\∀x∈z,0<=x/\x<n
 |[],_=>⟨[],rfl,fun x h=>by cases h⟩
 |d::ds,h=>by
  rw[vn,Kn]at h;obtain⟨i,rfl,h0,Y⟩:=i9 h.1;obtain⟨z,rfl,X⟩:=kC h.2;exact⟨i::z,rfl,fun x Z=>by rcases Km.mp Z with rfl|Z;exact⟨h0,Y⟩;exact X x Z⟩
theorem kq(z:List Int):jA (z.map D.int)=(d_ z.length).map fun i:Nat=>.tup [.int (i:Int),.int (z.getD i 0)]:=by
 unfold jA;refine L3 (by simp) fun i X Z=>?_
 have Y:i<z.length:=by simpa using Z
 simp[i_,Y]
def JE(E E':List (List Int))(z:List Int):D->D
 | .tup [.int i,.int x]=>.bl (sZ E E' (z.take i.toNat) x)
 |d=>d
section
variable {n n':Nat}{E E':List (List Int)}
theorem ye{z:List Int}{i:Nat}{ρ:aD}{e1 e2:TM}(Z:e1 ρ=aC (tupI z))(Y:e2 ρ=aC (.int i))(W:z.length<=100):aL (zU e1 oN (oS e2)) ρ=aC (tupI (z.take i)):=by
 refine d8 ?_;show(e1 ρ>>=fun x=>oN ρ>>=fun lo=>oS e2 ρ>>=fun X=>sv x lo X)=_;rw[Z,aj,show oN ρ=aC none from rfl,aj,show oS e2 ρ=aC (ar (i:Int)) by unfold oS;rw[Y];rfl,aj]
 show bA (S3.cutD (z.map D.int) none (ar (i:Int)))=_;rw[Hy, <-List.map_take];unfold bA;rw[if_pos (by rw[JV,KF];unfold lim;omega)];rfl
theorem DJ{d:D}(I:n<=7)(w:WebOk n E)(N:n'<=7)(O:WebOk n' E')(h:Th d):d7 [aw n E,aw n' E',d]=aC (.bl (FU n n' E E' d)):=by
 have hm:bP [aw n E,aw n' E']=aC .non:=by rw[mapped (by omega) w (by omega) O,if_neg (by omega),if_neg (by omega)]
 have T:vP d=true:=by cases h with|tup=>rfl|oth h _=>exact h
 have S:ec lb (aZ cn (mV 1) (mK (.int 0))) (mV 3) [ar (aw n E),ar (aw n' E'),ar d,ar (.int n)]=aC (!decide ((n':Int)=n)):=bO (x:=.int n') (y:=.int n) rfl rfl DH;have R:cZ (bV (oh (mV 2) "tuple")) [ar (aw n E),ar (aw n' E'),ar d,ar (.int n)]=aC (!isTup d):=not_eq (gE (FT T));have st:∀{m:cK} {o:Out},m [ar (aw n E),ar (aw n' E'),ar d,ar (.int n)]=aC o->aI (kJ (aL (au bP (ae (mV 0) (ae (mV 1) av))))) (aI (dh 3 (aZ cn (mV 0) (mK (.int 0)))) m) [ar (aw n E),ar (aw n' E'),ar d,none]=aC o:=fun h=>((aJ (fw (d8 ((call2 rfl rfl).trans hm)))).trans (aJ (fS (x:=.int n) rfl))).trans h;by_cases hnn:n'=n
 ·subst hnn;cases h with
  |oth _ ht=>
   have Y:=mr (q:=qp (cZ (bV (oh (mV 2) "tuple"))) (ec lb (bY cX (mV 2)) (mV 3))) (c:=b_) S fun _=>(mr (c:=b_) R fun z=>by rw[ht]at z;cases z).trans (by rw[ht];rfl)
   refine df (o:=.ret (.bl dV)) (st (eQ ((bH Y).trans ((if_pos (NX _)).trans rfl)))) ?_;show aC (D.bl dV)=aC (D.bl _);congr 2;cases d<;>first|rfl|cases ht
  | tup hl hel=>
   rename_i ds
   have hlen:bY cX (mV 2) [ar (aw n' E),ar (aw n' E'),ar (.tup ds),ar (.int n')]=aC (.int ds.length):=cJ (x:=.tup ds) rfl;have Y:=mr (q:=qp (cZ (bV (oh (mV 2) "tuple"))) (ec lb (bY cX (mV 2)) (mV 3))) (c:= !decide ((ds.length:Int)=n')) S fun _=>mr R fun _=>bO hlen (y:=.int n') rfl DH;have L:(!decide ((n':Int)=n')|| !decide ((ds.length:Int)=n'))= !decide (ds.length=n'):=by
    rw[J3 rfl,Nu,Bool.false_or];congr 1;exact Nd.mpr (by omega)
   rw[L]at Y;have J:FU n' n' E E' (.tup ds)=(decide (ds.length=n') && (ds.all (cz n') && match intsOf ds with|some z=>Gm E E' z|none=>dV)):=by
    show(decide (n'=n') && _)=_;rw[J3 rfl,Le]
   rw[J];by_cases hln:ds.length=n'
   ·rw [J3 hln,Nu]at Y;rw[J3 hln,Le];have em:(ds.filter fun _=>b_).map (fun d=>D.bl (cz n' d))=(ds.map (cz n')).map D.bl:=by rw[bg,Ke];rfl
    have P:=l6 (mi:=bK (mV 2)) (g:=gN 0) (t:=fG) (m:=fH) (js:=[none,ar 3]) (ρ:=[ar (aw n' E),ar (aw n' E'),ar (.tup ds),ar (.int n')]) (its:=ds) (fun ρ=>∃x,ρ=[x,ar (.int n')]) (fun _=>b_) (fun d=>D.bl (cz n' d)) rfl (by unfold lim;omega) ⟨none,rfl⟩
     (fun d hd ρ ⟨x,hρ⟩=>by
      subst hρ;exact⟨[ar d,ar (.int n')],rfl,⟨_,rfl⟩,rfl,fun _=>d8 ((call2 (x:=.int n') (y:=d) rfl rfl).trans (ma (HD (hel d hd))))⟩) (by rw[em];exact kO _)
    rw[em]at P;have Z:cZ (bV (bY iT (aL (uj (aV (bK (mV 2)) (gN 0) fG fH [none,ar 3]))))) [ar (aw n' E),ar (aw n' E'),ar (.tup ds),ar (.int n')]=aC (!ds.all (cz n')):=not_eq (gE ((cJ P).trans (m9.trans (by rw[L7];rfl))))
    have s1:=(bH (m:=bG (mK (.bl dV))) (n:=dX) Y).trans (if_neg (by decide))
    by_cases X:ds.all (cz n')=b_
    ·rw[X,Nu]at Z;rw[X,Le];obtain⟨z,rfl,H⟩:=kC X;rw[dG];rw[JV]at hl hln;have U:((jA (z.map D.int)).filter fun _=>b_).map (JE E E' z)=((d_ z.length).map fun j=>sZ E E' (z.take j) (z.getD j 0)).map D.bl:=by
      rw[kq,bg,Ke,Ke];rfl
     have W:=l6 (mi:=rm (mV 2)) (g:=cA 2 (aN (gN 0) (aN (gN 1) cF))) (t:=ik) (m:=il) (js:=[none,none,ar 0,ar 1,ar 2]) (ρ:=[ar (aw n' E),ar (aw n' E'),ar (tupI z),ar (.int n')]) (its:=jA (z.map D.int)) (fun ρ=>∃x y,ρ=[x,y,ar (aw n' E),ar (aw n' E'),ar (tupI z)]) (fun _=>b_) (JE E E' z) rfl (by rw[kq,JV,Kc];unfold lim;omega) ⟨none,none,rfl⟩
      (fun d hd ρ ⟨x,y,hρ⟩=>by
       subst hρ;rw[kq]at hd;obtain⟨i,Q,rfl⟩:=Kb.mp hd;have Q:=Ka.mp Q;refine⟨[ar (.int i),ar (.int (z.getD i 0)),ar (aw n' E),ar (aw n' E'),ar (tupI z)],rfl,⟨_,_,rfl⟩,rfl,fun _=>d8 ?_⟩;have K:aR (mV 2) (aR (mV 3) (aR (aL (zU (mV 4) oN (oS (mV 0)))) (aR (mV 1) av))) [ar (.int i),ar (.int (z.getD i 0)),ar (aw n' E),ar (aw n' E'),ar (tupI z)]=aC [aw n' E,aw n' E',tupI (z.take i),.int (z.getD i 0)]:=bb (x:=aw n' E) rfl (bb (x:=aw n' E') rfl (bb (ye (z:=z) (i:=i) rfl rfl (by omega)) (bb (x:=.int (z.getD i 0)) rfl (es:=av) rfl)))
       show(aR _ _ _>>=cN)=_;rw[K,aj];exact BK (by rw[KF];omega)) (by rw[U];exact kO _)
     rw[U]at W;refine df (o:=.ret (.bl (Gm E E' z))) (st ((aJ s1).trans ((aJ ((bH Z).trans (if_neg (by decide)))).trans (cc ((cJ W).trans (m9.trans ?_)))))) rfl
     rw[L7];rfl
    ·have X:ds.all (cz n')=false:=by simpa using X
     rw[X,Bool.not_false]at Z;rw[X,Lw];exact df (o:=.ret (.bl dV)) (st ((aJ s1).trans (eQ ((bH Z).trans ((if_pos rfl).trans rfl))))) rfl
   ·rw[Kg hln,Bool.not_false]at Y;rw[Kg hln,Lw];exact df (o:=.ret (.bl dV)) (st (eQ ((bH Y).trans ((if_pos rfl).trans rfl)))) rfl
 ·have G:((n':Int)=n)=False:=eq_false (by omega)
  have Y:=mr (q:=qp (cZ (bV (oh (mV 2) "tuple"))) (ec lb (bY cX (mV 2)) (mV 3))) (c:=b_) S fun z=>by
   rw[Kg (by omega)]at z;cases z
  refine df (o:=.ret (.bl dV)) (st (eQ ((bH Y).trans ((if_pos (NX _)).trans rfl)))) ?_;show aC (D.bl dV)=aC (D.bl _);congr 2;cases d<;>first|rfl|(show dV=(decide (n'=n) && _);rw[Kg hnn];rfl)
end
def JF(t:List Int):D->D
 | .int p=>.bl (bf p t)
 |d=>d
theorem FV{s t:List Int}(hs:s.length<=1000):gc [tupI s,tupI t]=aC (.bl (s.any fun p=>bf p t)):=by
 have Z:(s.map D.int).length<=lim:=by rw[JV];unfold lim;omega
 have em:((s.map D.int).filter fun _=>b_).map (JF t)=(s.map fun p=>bf p t).map D.bl:=by
  rw[bg,Ke,Ke];rfl
 have h:=iq (mi:=bK (mV 0)) (g:=gN 0) (t:=hZ) (m:=ia) (js:=[none,ar 1]) (ρ:=[ar (tupI s),ar (tupI t)]) (its:=s.map D.int) (fun ρ=>∃x,ρ=[x,ar (tupI t)]) (fun _=>b_) (JF t) rfl Z ⟨none,rfl⟩ (fun d hd ρ ⟨x,hρ⟩=>by
  subst hρ;obtain⟨p,_,rfl⟩:=Kb.mp hd;exact⟨_,rfl,⟨_,rfl⟩,rfl,fun _=>(cf (x:=.int p) (y:=tupI t) rfl rfl).trans n0⟩) (by rw[em];exact kO _)
 rw[em]at h;refine de (cc ((cJ h).trans Fz)) ?_;show aC _=aC _;rw[List.any_map];rfl
theorem BQ{a b c d:Int}(Y:a<b)(Z:c<d):([a,b].any fun p=>bf p [c,d])=gF [a,b] [c,d]:=by
 rw[qd Y Z,LC];simp only[ND,List.any_nil,FS,Bool.or_false,v_,decide_eq_true_eq];constructor
 ·rintro((h|h)|(h|h))<;>simp[h]
 ·rintro(h|h|h|h)<;>simp[h]
def Jh(E:List (List Int)):D->Bool
 | .tup [.int a,.int b]=>gF (E.getD a.toNat []) (E.getD b.toNat [])
 |_=>dV
theorem ku(E:List (List Int)):(((bI E.length).map tupI).filter (Jh E)).map id=(bB E).map tupI:=by
 rw[Np,LD];congr 1;unfold bI bB;rw[List.filter_flatMap];congr 1;funext a;unfold jG BH;rw[LD];congr 1
theorem yf{n:Nat}{E:List (List Int)}(P:n<=14)(w:WebOk n E)(J:E.length<=7):bz [aw n E]=aC (aw E.length (bB E)):=by
 have hf:cO [aw n E]=aC .non:=by rw[Hw P w,if_neg (by omega)]
 have Z:((bI E.length).map tupI).length<=lim:=by rw[JV];exact J4 (uH (by omega)) (by unfold lim;omega)
 have Q:=l6 (mi:=bK (aL (au dF (ae (mV 2) av)))) (g:=cA 2 (aN (gN 0) (aN (gN 1) cF))) (t:=gQ) (m:=gR) (js:=[none,none,ar 1]) (ρ:=[ar (aw n E),ar (.tup (E.map tupI)),ar (.int E.length)])
  (its:=(bI E.length).map tupI) (fun ρ=>∃x y,ρ=[x,y,ar (.tup (E.map tupI))]) (Jh E) id
  (by
   have:aL (au dF (ae (mV 2) av)) [ar (aw n E),ar (.tup (E.map tupI)),ar (.int E.length)]=aC (.fz ((bI E.length).map tupI)):=by
    unfold aL;rw[b8 (x:=.int E.length) rfl];exact Dv (by omega)
   unfold bK;rw[this];rfl) Z ⟨none,none,rfl⟩
  (fun d hd ρ ⟨x,y,hρ⟩=>by
   subst hρ;obtain⟨t,W,rfl⟩:=Kb.mp hd;obtain⟨a,b,rfl,h0,O,K⟩:=uF t W;obtain⟨a,rfl⟩:=Md h0;obtain⟨b,rfl⟩:=Md (show 0<=b by omega)
   have Y:a<E.length:=by omega
   have X:b<E.length:=by omega
   obtain⟨p,q,R,_,T,_⟩:=w.el (E.getD a []) (getD_in Y);obtain⟨r,u,N,_,S,_⟩:=w.el (E.getD b []) (getD_in X);refine⟨[ar (.int a),ar (.int b),ar (.tup (E.map tupI))],rfl,⟨_,_,rfl⟩,?_,fun _=>?_⟩
   ·refine gE (d8 ((call2 ((cf (x:=.tup (E.map tupI)) (y:=.int a) rfl rfl).trans (wF Y)) ((cf (x:=.tup (E.map tupI)) (y:=.int b) rfl rfl).trans (wF X))).trans ?_));rw[FV (by rw[R];exact(by decide:2<=1000))]
    show aC (D.bl _)=aC (D.bl (gF (E.getD (a:Int).toNat []) (E.getD (b:Int).toNat [])));rw[La,La,R,N,BQ T S]
   ·rfl) (by rw[ku];exact bX _)
 rw[ku]at Q;have U:((bB E).map tupI).length<=lim:=by
  rw[<-ku,Np];exact J4 (Kv _ _) Z
 refine df (o:=.ret (aw E.length (bB E))) ?_ rfl;unfold m5;show aI _ _ [ar (aw n E),none,none]=_;rw[aJ (fw (d8 ((b8 rfl).trans hf))),aJ (fS (x:=.tup (E.map tupI)) rfl)];have hlen:bY cX (mV 1) [ar (aw n E),ar (.tup (E.map tupI)),none]=aC (.int E.length):=by
  refine(cJ (x:=.tup (E.map tupI)) rfl).trans ?_;show aC (D.int (E.map tupI).length)=_;rw[JV]
 show aI _ _ [ar (aw n E),ar (.tup (E.map tupI)),none]=_;rw[aJ (fS hlen)];refine cc ?_;have W:=(cJ (f:=cb) Q).trans (jZ U);have L:ae (mV 2) (ae (bY cb (aL (uj (aV (bK (aL (au dF (ae (mV 2) av)))) (cA 2 (aN (gN 0) (aN (gN 1) cF))) gQ gR [none,none,ar 1])))) av) [ar (aw n E),ar (.tup (E.map tupI)),ar (.int E.length)]=aC [.int E.length,.tup ((bB E).map tupI)]:=by
  show(aC (D.int E.length)>>=fun x=>(bY cb _ _>>=fun y=>_)>>=_)=_;rw[aj,W];rfl
 show(ae _ _ [ar (aw n E),ar (.tup (E.map tupI)),ar (.int E.length)]>>=bA)=_;rw[L,aj];unfold bA;rw[if_pos (show[D.int E.length,.tup ((bB E).map tupI)].length<=lim from m6)]
section
variable {α:Type}{l:List α}{mk f:α->D}{mi:aD->M Iter}{g:ky}{t:fE}{m:TM}{ρ:aD}{js:List (Option Nat)}{its:List D}
theorem BR(R:aD->Prop)(q:α->Bool):∀(l:List α) (ρ:aD),R ρ->(∀a∈l,∀ ρ,R ρ->∃Z,g (mk a) ρ=aC Z/\R Z/\t Z=aC (q a)/\(q a=b_->m Z=aC (f a)))->cC ⟨its,.none⟩ g t m (l.map mk) ρ=aC ((l.filter q).map f)
 |[],ρ,_,_=>by unfold cC;rw[cm];rfl
 |a::l,ρ,hR,h=>by
  obtain⟨Z,X,T,Y,U⟩:=h a (.head _) ρ hR;have S:=BR R q l Z T fun b W=>h b (.tail _ W);rw[Kr];unfold cC;rw[cm,aj,X,aj,Y,aj,S];cases hq:q a with
  |true=>rw[LH hq,if_pos rfl,U hq,aj];rfl
  |false=>rw[LI (by rw[hq];decide),if_neg (by decide)]
theorem wK(R:aD->Prop)(q:α->Bool)(Y:mi ρ=aC ⟨l.map mk,.none⟩)(W:l.length<=lim)(Z:R (gh js ρ))(X:∀a∈l,∀ ρ,R ρ->∃ ρ1,g (mk a) ρ=aC ρ1/\R ρ1/\t ρ1=aC (q a)/\(q a=b_->m ρ1=aC (f a))):
  aV mi g t m js ρ=bD ((l.filter q).map f):=by
 unfold aV;rw[Y,aj];unfold fA;rw[if_pos (by show(l.map mk).length<=lim;rw[JV];exact W)]
 show(cC _ g t m (l.map mk) _>>=_)=_;rw[BR R q l _ Z X,aj]
theorem mv(R:aD->Prop)(q:α->Bool)(X:mi ρ=aC ⟨l.map mk,.none⟩)(Z:l.length<=lim)(Y:R (gh js ρ))(W:∀a∈l,∀ ρ,R ρ->∃ ρ1,g (mk a) ρ=aC ρ1/\R ρ1/\t ρ1=aC (q a)/\(q a=b_->m ρ1=aC (f a)))
  (U:cT 0 ((l.filter q).map f)=b_):aL (aV mi g t m js) ρ=aC (.fz ((l.filter q).map f)):=by
 unfold aL;rw[wK R q X Z Y W];exact cu U (by rw[JV];exact J4 (Kv _ _) Z)
theorem yg(R:aD->Prop)(q:α->Bool)(X:mi ρ=aC ⟨l.map mk,.none⟩)(Z:l.length<=lim)(Y:R (gh js ρ))(W:∀a∈l,∀ ρ,R ρ->∃ ρ1,g (mk a) ρ=aC ρ1/\R ρ1/\t ρ1=aC (q a)/\(q a=b_->m ρ1=aC (f a)))
  (U:cT 0 ((l.filter q).map f)=b_):aL (uj (aV mi g t m js)) ρ=aC (.fz ((l.filter q).map f)):=by
 unfold aL uj;rw[wK R q X Z Y W,m7];exact cu U (by rw[JV];exact J4 (Kv _ _) Z)
theorem HE(R:aD->Prop)(q:α->Bool)(W:mi ρ=aC ⟨l.map mk,.none⟩)(Z:l.length<=lim)(Y:R (gh js ρ))(X:∀a∈l,∀ ρ,R ρ->∃ ρ1,g (mk a) ρ=aC ρ1/\R ρ1/\t ρ1=aC (q a)/\(q a=b_->m ρ1=aC (f a)))
  (U:cT 0 ((l.filter q).map f)=b_):aL (sN mi g t m js) ρ=aC (.fz ((l.filter q).map f)):=by
 have h:=wK (js:=js) R q (mi:=fun _=>aC ⟨l.map mk,.none⟩) (ρ:=ρ) rfl Z Y X;unfold aV at h;rw[aj]at h;unfold aL sN;rw[W,aj,h,m7];exact cu U (by rw[JV];exact J4 (Kv _ _) Z)
end
theorem things{es:aD->M (List D)}{ρ:aD}{us:List D}(Z:es ρ=aC us)(Y:cT 0 us=b_)(X:us.length<=50):aL (eL es) ρ=aC (.fz us):=by
 show jE (es ρ>>=bD)=_;rw[Z,aj];exact cu Y (by unfold lim;omega)
theorem BS{f:D->List D->M D}{e1 e2:TM}{ρ:aD}{xs:List D}{y:D}(Z:e1 ρ=aC (.tup xs))(Y:e2 ρ=aC y):Bl f e1 e2 ρ=f (.tup xs) [y]:=by
 unfold Bl;rw[Z,aj,show Jw (.tup xs)=aC ()from rfl,aj,Y,aj,aj,aj]
theorem wM{α:Type}(g:α->Int)(l:List α):cT 0 (l.map fun a=>D.int (g a))=true:=by
 have:=jv (l.map g);rw[Ke]at this;exact this
section
variable {n:Nat}{E:List (List Int)}{d e:D}
theorem mw{us:List D}{ρ:aD}{e:TM}(h:e ρ=aC (.tup us)):bY cX e ρ=aC (.int us.length):=cJ h
theorem BU{us:List D}{ρ:aD}{e:TM}(h:e ρ=aC (.fz us)):bY cX e ρ=aC (.int us.length):=cJ h
theorem FW(Y:n<=14)(w:WebOk n E):bx [aw n E]=aC (.fz ((d_ n).map fun p:Nat=>D.int (jx E p))):=by
 have hf:=w.few;have Z:=yg (α:=Nat) (l:=d_ n) (mk:=fun i:Nat=>D.int (i:Int)) (f:=fun p:Nat=>D.int (jx E p)) (mi:=oj (mV 1)) (g:=gN 0) (t:=gO) (m:=gP) (js:=[none,ar 2]) (ρ:=[ar (aw n E),ar (.int n),ar (.tup (E.map tupI))]) (fun ρ=>∃x,ρ=[x,ar (.tup (E.map tupI))]) (fun _=>b_) (wI rfl (by omega)) (by rw[Kc];unfold lim;omega) ⟨none,rfl⟩
  (fun p hp ρ ⟨x,hρ⟩=>by
   subst hρ;refine⟨[ar (.int p),ar (.tup (E.map tupI))],rfl,⟨_,rfl⟩,rfl,fun _=>?_⟩;have h:=mv (α:=List Int) (l:=E) (mk:=tupI) (f:=tupI) (mi:=bK (mV 1)) (g:=gN 0) (t:=gL) (m:=gM) (js:=[none,ar 0]) (ρ:=[ar (.int p),ar (.tup (E.map tupI))]) (fun ρ=>∃x,ρ=[x,ar (.int p)]) (bf p) rfl (by unfold lim;omega) ⟨none,rfl⟩
    (fun t ht ρ ⟨x,hρ⟩=>by
     subst hρ;exact⟨[ar (tupI t),ar (.int p)],rfl,⟨_,rfl⟩,bO (x:=.int p) (y:=tupI t) rfl rfl n0,fun _=>rfl⟩) (bX _)
   refine(BU h).trans ?_;rw[JV];unfold jx;rw[KL])
  (by rw[bg];exact wM (fun p:Nat=>(jx E p:Int)) _)
 rw[bg]at Z;exact df (o:=.ret _) ((aJ (fw (d8 ((b8 rfl).trans (iP Y w))))).trans ((aJ (ρ':=[ar (aw n E),ar (.int n),ar (.tup (E.map tupI))]) rfl).trans (cc Z))) rfl
theorem fU:∀l:List Int,HT.lexLt l l=dV
 |[]=>rfl
 |x::l=>by rw[HT.lexLt_cons,if_pos rfl];exact fU l
theorem DK(w:WebOk n E):Tied n E:=⟨w.el,w.ris.imp fun h e=>by rw[e,fU]at h;cases h⟩
theorem DL(c:Nat):((c:Int)*((c:Int) - 1)) / 2=((Gk c:Nat):Int):=by
 unfold Gk;cases c with
 |zero=>rfl
 |succ c=>
  rw[show((c+1:Nat):Int) - 1=(c:Int) by omega,Fn]
  norm_cast
theorem FX(m:Nat)(f:Nat->Nat):((d_ m).map fun i=>((f i:Nat):Int)).sum=((sm m f:Nat):Int):=by
 unfold sm
 induction (d_ m)with
 |nil=>rfl
 |cons x l ih=>rw[Kr,Kr,List.sum_cons,List.sum_cons,ih];omega
theorem mul_eq{x y:Int}(h:rR x y):n8 (.int x) (.int y)=aC (.int (x*y)):=if_pos h
theorem div_eq{x y:Int}(h:vw x y):jO (.int x) (.int y)=aC (.int (x / y)):=if_pos h
theorem DM(W:n<=14)(w:WebOk n E):ez [aw n E]=aC (.int (bB E).length):=by
 have hf:=w.few;have hd:=d8 (e:=au bx (ae (mV 0) av)) (ρ:=[ar (aw n E)]) ((b8 rfl).trans (FW W w));have X:bK (aL (au bx (ae (mV 0) av))) [ar (aw n E)]=aC ⟨(d_ n).map fun p:Nat=>D.int (jx E p),.none⟩:=by
  unfold bK;rw[hd,aj];rfl
 have e:((d_ n).filter fun _=>b_).map (fun p:Nat=>D.int (Gk (jx E p)))=((d_ n).map fun p=>((Gk (jx E p):Nat):Int)).map D.int:=by rw[bg,Ke];rfl
 have Z:=HE (α:=Nat) (l:=d_ n) (mk:=fun p:Nat=>D.int (jx E p)) (f:=fun p:Nat=>D.int (Gk (jx E p))) (g:=gN 0) (t:=gv) (m:=gw) (js:=[none]) (fun ρ=>∃x,ρ=[x]) (fun _=>b_) X (by rw[Kc];unfold lim;omega) ⟨none,rfl⟩
  (fun p hp ρ ⟨x,hρ⟩=>by
   subst hρ;have U:jx E p<=E.length:=List.countP_le_length;refine⟨[ar (.int (jx E p))],rfl,⟨_,rfl⟩,rfl,fun _=>?_⟩;have hm:rR (jx E p:Int) ((jx E p:Int) - 1):=.inl ⟨by omega,by omega⟩
   have Y:aZ n8 (mV 0) (aZ iz (mV 0) (mK (.int 1))) [ar (.int (jx E p))]=aC (.int ((jx E p:Int)*((jx E p:Int) - 1))):=(cf (x:=.int (jx E p)) (y:=.int ((jx E p:Int) - 1)) rfl rfl).trans (mul_eq hm);refine(cf Y (y:=.int 2) rfl).trans ((div_eq ⟨by decide,by decide⟩).trans ?_)
   rw[DL]) (by rw[e];exact jv _)
 rw[e]at Z;refine df (o:=.ret _) (cc ((cJ Z).trans ?_)) rfl;show(match intsOf _ with|some ns=>(aC (.int ns.sum):M D)|none=>M.fail)=_
 rw[dG];dsimp only;rw[FX,BJ,uN (DK w)]
end
def dU(E:List (List Int))(p:Int):List Int:=((d_ E.length).filter fun i=>bf p (E.getD i [])).map fun i:Nat=>(i:Int)
section
variable {n:Nat}{E:List (List Int)}{d:D}
theorem BV(X:n<=14)(w:WebOk n E)(h:Cp d):ey [aw n E,d]=if cz n d=b_ then aC .non else M.raise (.exc "NoPlace" []):=by
 have Y:=not_eq (gE (d8 (e:=au bU (ae (aZ cn (mV 0) (mK (.int 0))) (ae (mV 1) av))) (ρ:=[ar (aw n E),ar d]) ((call2 (x:=.int n) (y:=d) rfl rfl).trans (ma h))));have Z:=aJ (n:=jz (cZ (bV (aL (au bU (ae (aZ cn (mV 0) (mK (.int 0))) (ae (mV 1) av)))))) (sJ "NoPlace" (ae (mK (.str "this is no place of the web")) av)) dX) (fw (d8 (e:=au bc (ae (mV 0) av)) (ρ:=[ar (aw n E),ar d]) ((b8 rfl).trans (iP X w))));by_cases hp:cz n d=b_
 ·rw[if_pos hp];exact df (Z.trans ((bH Y).trans (if_neg (by rw[hp];decide)))) rfl
 ·rw[if_neg hp];exact gY (Z.trans ((bH Y).trans ((if_pos (by simpa using hp)).trans rfl)))
theorem DN(p:Int):(dU E p).length<=E.length:=by
 unfold dU;rw[JV];exact J4 (Kv _ _) (by rw[Kc];exact JY _)
theorem FY{p:Nat}(Z:n<=14)(w:WebOk n E)(X:p<n):i8 [aw n E,.int p]=aC (tupI (dU E p)):=by
 have hf:=w.few;have h0:ey [aw n E,.int p]=aC .non:=by
  rw[BV Z w rfl,if_pos];show(decide (0<=(p:Int)) && decide ((p:Int)<n))=b_;rw[J3 (by omega),J3 (by omega)];rfl
 have Y:=yg (α:=Nat) (l:=d_ E.length) (mk:=fun i:Nat=>D.tup [.int (i:Int),tupI (E.getD i [])]) (f:=fun i:Nat=>D.int (i:Int)) (mi:=rm (aZ cn (mV 0) (mK (.int 1)))) (g:=cA 2 (aN (gN 0) (aN (gN 1) cF))) (t:=jr) (m:=jt) (js:=[none,none,ar 1]) (ρ:=[ar (aw n E),ar (.int p)])
  (fun ρ=>∃x y,ρ=[x,y,ar (.int p)]) (fun i=>bf p (E.getD i [])) (by rw[<-Dx];rfl) (by rw[Kc];unfold lim;omega) ⟨none,none,rfl⟩
  (fun i hi ρ ⟨x,y,hρ⟩=>by
   subst hρ;exact⟨[ar (.int i),ar (tupI (E.getD i [])),ar (.int p)],rfl,⟨_,_,rfl⟩,bO (x:=.int p) (y:=tupI (E.getD i [])) rfl rfl n0,fun _=>rfl⟩)
  (wM (fun i:Nat=>(i:Int)) _)
 refine df (o:=.ret (tupI (dU E p))) ((aJ (fw (d8 ((call2 rfl rfl).trans h0)))).trans (cc ((cJ Y).trans ((jZ ?_).trans ?_)))) rfl
 ·rw[JV];exact J4 (Kv _ _) (by rw[Kc];unfold lim;omega)
 ·unfold dU tupI;rw[Ke];rfl
end
section
variable {n:Nat}{E:List (List Int)}
theorem iu{t:List Int}:t∈bB E↔∃i j:Nat,t=[(i:Int),(j:Int)]/\i<j/\j<E.length/\gF (E.getD i []) (E.getD j [])=true:=by
 unfold bB BH;rw[Mt];constructor
 ·rintro⟨i,hi,h⟩;obtain⟨j,W,rfl⟩:=Kb.mp h;obtain⟨X,Z⟩:=Kh.mp W;obtain⟨Y,U⟩:=Ml.mp X;exact⟨i,j,rfl,by omega,by omega,Z⟩
 ·rintro⟨i,j,rfl,X,Z,Y⟩;exact⟨i,Ka.mpr (by omega),Kb.mpr ⟨j,Kh.mpr ⟨Ml.mpr (by omega),Y⟩,rfl⟩⟩
theorem FZ(E:List (List Int)):(bI E.length).filter (Jh E∘tupI)=bB E:=by
 have:=ku E;rw[Np,LD]at this;exact List.map_inj_right (f:=tupI) (fun a b h=>by
  unfold tupI at h;exact List.map_inj_right (fun x y z=>by cases z;rfl) |>.mp (D.tup.inj h)) |>.mp this
theorem fY(Z:E.length<=7):WebOk E.length (bB E):=WebOk.of_sub Z (by rw[<-FZ];exact Lj)
theorem dz{p a b:Int}:bf p [a,b]=b_↔p=a\/p=b:=by
 rw[b0,Km,Lv]
theorem mx{s t:List Int}(w:WebOk n E)(hs:s∈E)(Y:t∈E):gF s t=b_↔∃p:Int,bf p s=b_/\bf p t=true:=by
 obtain⟨a,b,rfl,_,Z,_⟩:=w.el s hs;obtain⟨c,d,rfl,_,X,_⟩:=w.el t Y;rw[qd Z X,Kk];constructor
 ·rintro(h|h|h|h)
  ·exact⟨a,dz.mpr (.inl rfl),dz.mpr (.inl h)⟩
  ·exact⟨a,dz.mpr (.inl rfl),dz.mpr (.inr h)⟩
  ·exact⟨b,dz.mpr (.inr rfl),dz.mpr (.inl h)⟩
  ·exact⟨b,dz.mpr (.inr rfl),dz.mpr (.inr h)⟩
 ·rintro⟨p,h3,h4⟩;rcases dz.mp h3 with e|e<;>rcases dz.mp h4 with f|f
  ·exact .inl (e ▸ f)
  ·exact .inr (.inl (e ▸ f))
  ·exact .inr (.inr (.inl (e ▸ f)))
  ·exact .inr (.inr (.inr (e ▸ f)))
theorem nq{s t:List Int}{p q:Int}(w:WebOk n E)(hs:s∈E)(U:t∈E)(T:p≠q)(Y:bf p s=b_)(W:bf q s=b_)(Z:bf p t=b_)(X:bf q t=b_):s=t:=by
 obtain⟨a,b,rfl,_,g1,_⟩:=w.el s hs;obtain⟨c,d,rfl,_,g2,_⟩:=w.el t U;have Y:=dz.mp Y;have W:=dz.mp W;have Z:=dz.mp Z;have X:=dz.mp X;have:a=c/\b=d:=by omega
 rw[this.1,this.2]
theorem wN(w:WebOk n E):E.Nodup:=w.ris.imp fun{a b} h e=>by subst e;rw[fU]at h;cases h
theorem getD_inj{i j:Nat}(w:WebOk n E)(Y:i<E.length)(Z:j<E.length)(h:E.getD i []=E.getD j []):i=j:=by
 rw[J1,J1,JX Y,JX Z]at h;exact(Mq (wN w)).mp h
theorem yh{α:Type}(q:List α->Bool)(l:List (List α)):l.countP q=(d_ l.length).countP fun i=>q (l.getD i []):=by
 have:l=(d_ l.length).map fun i=>l.getD i []:=by
  refine L3 (by simp) fun i Z Y=>?_
  simp[i_,Z]
 conv=>lhs;rw[this,Nm]
 rfl
theorem F1{α:Type}{P Q T I:α->Bool}:∀{l:List α},(∀j∈l,(P j).toNat+(Q j).toNat=(T j).toNat+2*(I j).toNat)->l.countP P+l.countP Q=l.countP T+2*l.countP I
 |[],_=>rfl
 |x::l,h=>by
  have X:=F1 (l:=l) fun j Z=>h j (.tail _ Z);have Y:=h x (.head _);rw[K7,K7,K7,K7];have e:∀b:Bool,(if b=b_ then 1 else 0)=b.toNat:=fun b=>by cases b<;>rfl
  rw[e,e,e,e];omega
theorem oP{m i:Nat}(h:i<m):(d_ m).countP (fun j=>decide (j=i))=1:=by
 have:∀m,(d_ m).countP (fun j=>decide (j=i))=if i<m then 1 else 0:=fun m=>by
  induction m with
  |zero=>rfl
  | succ m ih=>
   rw[List.range_succ,List.countP_append,ih,List.countP_singleton];by_cases c:m=i
   ·subst c;rw[if_neg (K4 _),if_pos (J3 rfl),if_pos (LK _)]
   ·rw[show(if decide (m=i)=b_ then 1 else 0)=0 from if_neg (by rw[Kk];exact c)]
    by_cases c2:i<m
    ·rw[if_pos c2,if_pos (by omega)]
    ·rw[if_neg c2,if_neg (by omega)]
 rw[this,if_pos h]
theorem oQ{i j:Nat}(w:WebOk n E)(Y:i<E.length)(Z:j<E.length)(X:i≠j):tB (bB E) (i:Int) (j:Int)=b_↔∃p:Int,bf p (E.getD i [])=b_/\bf p (E.getD j [])=true:=by
 rw[<-mx w (getD_in Y) (getD_in Z)];have key:∀{a b:Nat},a<b->b<E.length->(tB (bB E) (a:Int) (b:Int)=b_↔gF (E.getD a []) (E.getD b [])=b_):=fun{a b} h1 h2=>by
  rw[uO (by omega),Kk,iu]
  constructor
  ·rintro⟨x,y,e,_,_,h⟩;have e1:=(KY e).1;have e2:=(KY (KY e).2).1;have:a=x:=by omega
   have:b=y:=by omega
   subst_vars;exact h
  ·exact fun h=>⟨a,b,rfl,h1,h2,h⟩
 rcases Nat.lt_or_gt_of_ne X with c|c
 ·exact key c Z
 ·rw[mq,key c Y,mx w (getD_in Z) (getD_in Y),mx w (getD_in Y) (getD_in Z)];exact⟨fun⟨p,x,y⟩=>⟨p,y,x⟩,fun⟨p,x,y⟩=>⟨p,y,x⟩⟩
theorem BW{i:Nat}{a b:Int}(w:WebOk n E)(P:E.length<=7)(X:i<E.length)(Z:E.getD i []=[a,b]):E.countP (bf a)+E.countP (bf b)=rG (bB E) (i:Int)+2:=by
 have hw:=fY (E:=E) P;obtain⟨U,S,W,_,Q,_⟩:=w.el _ (getD_in X);have e1:a=U:=(KY (Z.symm.trans W)).1;have e2:b=S:=(KY (KY (Z.symm.trans W)).2).1;subst e1 e2;rw[qe hw (by omega) (by omega), <-KL,yh,yh (bf b)]
 rw[F1 (T:=fun j:Nat=>tB (bB E) (i:Int) (j:Int)) (I:=fun j=>decide (j=i)) (fun j Y=>?_),oP X];have Y:=Ka.mp Y;by_cases c:j=i
 ·subst c;rw[Z,dz.mpr (.inl rfl),dz.mpr (.inr rfl),oO hw,J3 rfl];rfl
 ·rw[Kg c];have R:=oQ w X Y (lx c);have no:¬ (bf a (E.getD j [])=b_/\bf b (E.getD j [])=b_):=fun⟨x,y⟩=>c (getD_inj w Y X (nq w (getD_in Y) (getD_in X) (by omega) x y (by rw[Z];exact dz.mpr (.inl rfl)) (by rw[Z];exact dz.mpr (.inr rfl))))
  have O:tB (bB E) (i:Int) (j:Int)=b_↔(bf a (E.getD j [])=b_\/bf b (E.getD j [])=b_):=by
   rw[R,Z];constructor
   ·rintro⟨p,h1,h2⟩;rcases dz.mp h1 with rfl|rfl
    ·exact .inl h2
    ·exact .inr h2
   ·rintro(h|h)
    ·exact⟨a,dz.mpr (.inl rfl),h⟩
    ·exact⟨b,dz.mpr (.inr rfl),h⟩
  cases q1:bf a (E.getD j [])<;>cases q2:bf b (E.getD j [])<;>cases q3:tB (bB E) (i:Int) (j:Int)<;>simp_all
end
section
variable {n:Nat}{E:List (List Int)}
theorem gd{p x:Int}:x∈dU E p↔∃i:Nat,x=(i:Int)/\i<E.length/\bf p (E.getD i [])=true:=by
 unfold dU;constructor
 ·intro h;obtain⟨i,Y,rfl⟩:=Kb.mp h;obtain⟨Z,X⟩:=Kh.mp Y;exact⟨i,rfl,Ka.mp Z,X⟩
 ·rintro⟨i,rfl,Y,Z⟩;exact Kb.mpr ⟨i,Kh.mpr ⟨Ka.mpr Y,Z⟩,rfl⟩
theorem j8{p:Int}{i:Nat}(Z:i<E.length):bf (i:Int) (dU E p)=bf p (E.getD i []):=by
 rw[LC,b0,gd];exact⟨fun⟨j,e,_,h⟩=>by rw[show i=j by omega];exact h,fun h=>⟨i,rfl,Z,h⟩⟩
theorem uP(p:Int):(dU E p).Pairwise (· <·):=by
 unfold dU;exact KI.mpr ((Lf Lj List.pairwise_lt_range).imp fun h=>by omega)
def fT(n:Nat)(E:List (List Int)):List (List Int):=(d_ n).map fun p:Nat=>dU E p
def dO(n:Nat)(E:List (List Int)):List (List Int):=cI ((fT n E).filter fun s=>decide (1<s.length))
def my(T:List (List Int))(so:List Int):Nat:=(T.filter fun c=>so.all fun x=>bf x c).length
theorem rJ{s:List Int}(h:s∈dO n E):∃p:Nat,p<n/\s=dU E p/\1<s.length:=by
 unfold dO fT at h;obtain⟨X,Y⟩:=Kh.mp ((bS _).mem_iff.mp h);obtain⟨p,Z,rfl⟩:=Kb.mp X;exact⟨p,Ka.mp Z,rfl,Kw Y⟩
theorem rK:(dO n E).length<=n:=by
 unfold dO fT;rw[(bS _).length_eq];exact J4 (Kv _ _) (by rw[JV,Kc];exact JY _)
structure CrowdOk(m:Nat)(L:List (List Int))(s:List Int):Prop where
 ris:s.Pairwise (· <·)
 el:∀x∈s,0<=x/\x<m
 two:1<s.length
 tied:∀x∈s,∀y∈s,x<y->tB L x y=b_
theorem n4{s:List Int}(w:WebOk n E)(h:s∈dO n E):CrowdOk E.length (bB E) s:=by
 obtain⟨p,Q,rfl,S⟩:=rJ h;refine⟨uP _,fun x Z=>?_,S,fun x Z y R X=>?_⟩
 ·obtain⟨i,rfl,Y,_⟩:=gd.mp Z;exact⟨by omega,by omega⟩
 ·obtain⟨i,rfl,Y,U⟩:=gd.mp Z;obtain⟨j,rfl,W,T⟩:=gd.mp R;exact(oQ w Y W (by omega)).mpr ⟨_,U,T⟩
theorem BX{p:Int}{i j:Nat}(W:i≠j)(T:i<E.length)(X:j<E.length)(Y:bf p (E.getD i [])=b_)(U:bf p (E.getD j [])=b_):1<(dU E p).length:=
 sX (l:=[(i:Int),(j:Int)]) (KW.mpr ⟨by rw[Lv];omega,M8 _ _⟩) fun x Z=>by
  simp only[f',e_,or_false]at Z;rcases Z with rfl|rfl
  ·exact gd.mpr ⟨i,rfl,T,Y⟩
  ·exact gd.mpr ⟨j,rfl,X,U⟩
theorem BY{p q:Int}(w:WebOk n E)(T:1<(dU E p).length)(h:dU E p=dU E q):p=q:=by
 have U:=uP (E:=E) p;obtain⟨x,y,r,e⟩:∃x y r,dU E p=x::y::r:=by
  generalize dU E p=s at T
  match s,T with
  |[],h=>cases h
  |[_],h=>exact absurd h (K4 _)
  |x::y::r,_=>exact⟨x,y,r,rfl⟩
 rw[e]at U;have O:x<y:=(KB.mp U).1 y (.head _);have Z:x∈dU E p:=by rw[e];exact .head _
 have W:y∈dU E p:=by rw[e];exact .tail _ (.head _)
 obtain⟨i,rfl,X,R⟩:=gd.mp Z;obtain⟨j,rfl,Y,Q⟩:=gd.mp W;rw[h]at Z W;have P:bf q (E.getD i [])=true:=by rw[<-j8 X];exact b0.mpr Z
 have S:bf q (E.getD j [])=true:=by rw[<-j8 Y];exact b0.mpr W
 exact MU fun c=>by
  have:=getD_inj w X Y (nq w (getD_in X) (getD_in Y) c R P Q S);omega
theorem zz(w:WebOk n E):(dO n E).Pairwise fun a b=>HT.lexLt a b=true:=by
 refine BA ?_;unfold fT;rw[LD];refine KI.mpr (KN (fun{a b} ha hb hne e=>hne ?_) (Lf Lj Mu));have:=BY w (Kw (Kh.mp ha).2) e;omega
theorem yi(Z:List Int):my (dO n E) Z=(d_ n).countP fun p:Nat=>(Z.all fun x=>bf x (dU E p)) && decide (1<(dU E p).length):=by
 unfold my dO fT;rw[<-KL,(bS _).countP_eq,List.countP_filter,Nm];rfl
theorem nu(w:WebOk n E){i:Nat}{p:Int}(Y:i<E.length)(h:bf p (E.getD i [])=b_):0<=p/\p<n:=by
 obtain⟨a,b,e,h0,X,Z⟩:=w.el _ (getD_in Y);rw[e]at h;rcases dz.mp h with rfl|rfl
 ·exact⟨h0,by omega⟩
 ·exact⟨by omega,Z⟩
theorem BZ{t:List Int}(w:WebOk n E)(U:t∈bB E):my (dO n E) t=1:=by
 obtain⟨i,j,rfl,T,Y,hm⟩:=iu.mp U;have Z:i<E.length:=by omega
 obtain⟨p,X,W⟩:=(mx w (getD_in Z) (getD_in Y)).mp hm;have S:=nu w Z X;rw[yi,List.countP_congr (q:=fun q:Nat=>decide (q=p.toNat)),oP (by omega)]
 intro q R;simp only[vn,List.all_nil,Bool.and_true];rw[j8 Z,j8 Y,Kn,Kn,Kk,Kk];constructor
 ·rintro⟨⟨h3,h4⟩,_⟩;refine MU fun c=>?_;have:=getD_inj w Z Y (nq (p:=(q:Int)) (q:=p) w (getD_in Z) (getD_in Y) (by omega) h3 X h4 W)
  omega
 ·rintro rfl;rw[show((p.toNat:Nat):Int)=p by omega]
  exact⟨⟨X,W⟩,BX (by omega) Z Y X W⟩
theorem wO{i:Nat}(w:WebOk n E)(Z:i<E.length):my (dO n E) [(i:Int)]<=2:=by
 obtain⟨a,b,e,h0,Y,X⟩:=w.el _ (getD_in Z);rw[yi];refine J4 (Mo (q:=fun q:Nat=>decide (q=a.toNat)||decide (q=b.toNat)) fun q _ h=>?_) ?_
 ·simp only[vn,List.all_nil,Bool.and_true]at h;rw[j8 Z,e,Kn,dz]at h;rw[v_,Kk,Kk];omega
 ·have:=F1 (l:=d_ n) (P:=fun q=>decide (q=a.toNat)) (Q:=fun q=>decide (q=b.toNat)) (T:=fun q:Nat=>decide (q=a.toNat)||decide (q=b.toNat)) (I:=fun _=>dV) fun q _=>by
   by_cases c:q=a.toNat
   ·rw[J3 c,Kg (show ¬ q=b.toNat by omega)];rfl
   ·rw[Kg c];cases decide (q=b.toNat)<;>rfl
  rw[oP (by omega),oP (by omega)]at this
  have z:(d_ n).countP (fun _=>dV)=0:=List.countP_eq_zero.mpr fun _ _ h=>by cases h
  omega
end
theorem getD_at{z:List Int}{a:Nat}(h:a<z.length):z.getD a 0=z[a]:=by rw[J1,JX h];rfl
theorem iw{z:List Int}{a:Nat}(h:a<z.length):z.getD a 0∈z:=by rw[getD_at h];exact Ln h
theorem gf{E:List (List Int)}{a:Nat}(h:a<E.length):E.getD a []=E[a]:=by rw[J1,JX h];rfl
section
variable {z:List Int}
theorem DO(Z:z.Pairwise (· <·)):z.Nodup:=Z.imp fun h e=>by omega
theorem mz{x:Int}(h:x∈z):z.idxOf x<z.length/\z.getD (z.idxOf x) 0=x:=by
 have Z:=MH h;exact⟨Z,by rw[getD_at Z];exact List.getElem_idxOf Z⟩
theorem qh(X:z.Pairwise (· <·)){a b:Nat}(Z:a<b)(Y:b<z.length):z.getD a 0<z.getD b 0:=by
 rw[getD_at Y,getD_at (by omega)]
 exact Lx.mp X a b (by omega) Y Z
theorem wQ(U:z.Pairwise (· <·)){x y:Int}(X:x∈z)(T:y∈z)(h:x<y):z.idxOf x<z.idxOf y:=by
 obtain⟨W,Y⟩:=mz X;obtain⟨S,Z⟩:=mz T;rcases M5 (z.idxOf x) (z.idxOf y)with c|c|c
 ·exact c
 ·rw[c,Z]at Y;omega
 ·have:=qh U c W;rw[Y,Z]at this;omega
theorem B0(Z:z.Pairwise (· <·)){a:Nat}(h:a<z.length):z.idxOf (z.getD a 0)=a:=by
 have hm:=iw h;obtain⟨Y,X⟩:=mz hm;rcases M5 (z.idxOf (z.getD a 0)) a with c|c|c
 ·have:=qh Z c h;omega
 ·exact c
 ·have:=qh Z c Y;omega
end
theorem F3{a b c d:Int}:HT.lexLt [a,b] [c,d]=b_↔a<c\/(a=c/\b<d):=by
 rw[HT.lexLt_cons];by_cases e:a=c
 ·rw[if_pos e,HT.lexLt_cons];by_cases f:b=d
  ·rw[if_pos f];exact⟨(fun h=>by cases h),fun h=>by omega⟩
  ·rw[if_neg f,Kk];exact⟨fun h=>.inr ⟨e,h⟩,fun h=>by omega⟩
 ·rw[if_neg e,Kk];exact⟨fun h=>.inl h,fun h=>by omega⟩
def nv(E:List (List Int))(z:List Int):List (List Int):=z.map fun x=>E.getD x.toNat []
def zA(z t:List Int):Bool:=bf (t.getD 0 0) z && bf (t.getD 1 0) z
def HW(z t:List Int):List Int:=[((z.idxOf (t.getD 0 0):Nat):Int),((z.idxOf (t.getD 1 0):Nat):Int)]
def n5(L:List (List Int))(z:List Int):List (List Int):=(L.filter (zA z)).map (HW z)
section
variable {n:Nat}{E:List (List Int)}{z:List Int}
theorem oR{a:Nat}(h:a<z.length):(nv E z).getD a []=E.getD (z.getD a 0).toNat []:=by
 unfold nv;rw[gf (by rw[JV];exact h),K8,getD_at h]
theorem sub_len:(nv E z).length=z.length:=by unfold nv;rw[JV]
theorem F4(X:z.Pairwise (· <·))(Y:∀x∈z,0<=x/\x<E.length):z.length<=E.length:=by
 have:=sX (DO X) (m:=(d_ E.length).map fun i:Nat=>(i:Int)) fun x Z=>Kb.mpr ⟨x.toNat,Ka.mpr (by have:=Y x Z;omega),by have:=Y x Z;omega⟩
 rw[JV,Kc]at this;exact this
theorem F5(w:WebOk n E)(X:z.Pairwise (· <·))(Z:∀x∈z,0<=x/\x<E.length):WebOk n (nv E z):=by
 refine⟨fun t W=>?_,?_,?_⟩
 ·obtain⟨x,Y,rfl⟩:=Kb.mp W;exact w.el _ (getD_in (by have:=Z x Y;omega))
 ·unfold nv;refine KI.mpr (KN (fun{x y} Y hy h=>?_) X);have U:=Z x Y;have T:=Z y hy;rw[gf (by omega),gf (by omega)]
  exact Lx.mp w.ris _ _ (by omega) (by omega) (by omega)
 ·rw[sub_len];exact J4 (F4 X Z) w.few
theorem uQ(w:WebOk n E)(P:E.length<=7)(Y:z.Pairwise (· <·))(T:∀x∈z,0<=x/\x<E.length):n5 (bB E) z=bB (nv E z):=by
 have K:=F4 Y T;have S:(n5 (bB E) z).Pairwise fun a b=>HT.lexLt a b=true:=by
  unfold n5;refine KI.mpr (KN (fun{s t} hs ht h=>?_) ((fY P).ris.sublist Lj));obtain⟨s1,s2⟩:=Kh.mp hs;obtain⟨t1,t2⟩:=Kh.mp ht;obtain⟨i,j,rfl,L,N,_⟩:=iu.mp s1;obtain⟨k,l,rfl,H,K,_⟩:=iu.mp t1;unfold zA at s2 t2;rw[Kn]at s2 t2;have a1:=b0.mp s2.1;have a2:=b0.mp s2.2;have W:=b0.mp t2.1;have X:=b0.mp t2.2;unfold HW;rcases F3.mp h with c|c
  ·have:=wQ Y a1 W c;exact F3.mpr (.inl (by omega))
  ·have:=wQ Y a2 X c.2;exact F3.mpr (.inr ⟨by show((z.idxOf (i:Int):Nat):Int)=((z.idxOf (k:Int):Nat):Int);rw[c.1],by omega⟩)
 have R:=(fY (E:=nv E z) (by rw[sub_len];omega)).ris
 have Q:∀{l:List (List Int)},l.Pairwise (fun a b=>HT.lexLt a b=b_)->l.Nodup:=fun h=>h.imp fun{a b} h e=>by subst e;rw[fU]at h;cases h
 refine mX ((LV (Q S) (Q R)).mpr fun t=>?_) (S.imp fun h=>lM h) (R.imp fun h=>lM h);unfold n5;rw[Kb,iu];constructor
 ·rintro⟨s,hs,rfl⟩;obtain⟨s1,s2⟩:=Kh.mp hs;obtain⟨i,j,rfl,L,N,Z⟩:=iu.mp s1;unfold zA at s2;rw[Kn]at s2;have a1:(i:Int)∈z:=b0.mp s2.1;have a2:(j:Int)∈z:=b0.mp s2.2;have W:=mz a1;have X:=mz a2;refine⟨z.idxOf (i:Int),z.idxOf (j:Int),rfl,wQ Y a1 a2 (show(i:Int)<(j:Int) by omega),by rw[sub_len];exact X.1,?_⟩
  rw[oR W.1,oR X.1];have e1:z.getD (z.idxOf (i:Int)) 0=(i:Int):=W.2;have e2:z.getD (z.idxOf (j:Int)) 0=(j:Int):=X.2;rw[e1,e2];exact Z
 ·rintro⟨a,b,rfl,hab,hb,Z⟩;rw[sub_len]at hb;have U:a<z.length:=by omega
  rw[oR U,oR hb]at Z;have I:=T _ (iw U);have J:=T _ (iw hb);have lt:=qh Y hab hb;have c1:(((z.getD a 0).toNat:Nat):Int)=z.getD a 0:=by omega
  have O:(((z.getD b 0).toNat:Nat):Int)=z.getD b 0:=by omega
  refine⟨[z.getD a 0,z.getD b 0],Kh.mpr ⟨iu.mpr ⟨(z.getD a 0).toNat,(z.getD b 0).toNat,by rw[c1,O],by omega,by omega,Z⟩,?_⟩,?_⟩
  ·unfold zA;rw[Kn];exact⟨b0.mpr (iw U),b0.mpr (iw hb)⟩
  ·show[((z.idxOf (z.getD a 0):Nat):Int),((z.idxOf (z.getD b 0):Nat):Int)]=_;rw[B0 Y U,B0 Y hb]
end
section
variable {n:Nat}{E E':List (List Int)}{z:List Int}
theorem zB{i j:Nat}(h:i<j):(z.take j).getD i 0=z.getD i 0:=by
 rw[J1,J1,LP,if_pos h]
theorem yj{j:Nat}(h:Part n E E' z)(Y:j<z.length):sZ E E' (z.take j) (z.getD j 0)=true:=by
 unfold sZ;have X:(z.take j).length=j:=by rw[KF];omega
 rw[Kn,X,Ki];constructor
 ·cases q:bf (z.getD j 0) (z.take j)with
  |false=>rfl
  |true=>
   obtain⟨i,Z,e⟩:=LW.mp (b0.mp q);rw[List.getElem_take,getD_at Y]at e;have:=(Mq h.nd).mp e;omega
 ·intro i Z;have Z:=Ka.mp Z;unfold HC;rw[X,zB Z,h.ok j Y i Z];exact beq_self_eq_true _
theorem B1(h:Part n E E' z):Gm E E' z=true:=Ki.mpr fun j Z=>yj h (Ka.mp Z)
theorem B2{b:Nat}(h:Part n E E' z)(Z:b<z.length):z.take (b+1)∈ext n E E' (z.take b):=by
 have he:=h.el _ (iw Z);have c:(((z.getD b 0).toNat:Nat):Int)=z.getD b 0:=by omega
 unfold ext;refine Kb.mpr ⟨(z.getD b 0).toNat,Kh.mpr ⟨Ka.mpr (by omega),by rw[c];exact yj h Z⟩,?_⟩
 rw[c,List.take_succ,getD_at Z,JX Z];rfl
theorem uR(h:Part n E E' z):∀(k b:Nat) (rs:List (List Int)),z.take b∈rs->b+k<=z.length->z.take (b+k)∈nj n E E' k rs
 |0,b,rs,hr,_=>hr
 |k+1,b,rs,hr,hb=>by
  have:=uR h k (b+1) (rs.flatMap (ext n E E')) (Mt.mpr ⟨_,hr,B2 h (by omega)⟩) (by omega)
  rw[show b+(k+1)=b+1+k by omega]
  exact this
theorem B3(h:Part n E E' z)(Z:z.length=n):z∈nj n E E' n [[]]:=by
 have:=uR h n 0 [[]] (by rw[List.take_zero];exact .head _) (by omega)
 rw[L', <-Z,List.take_length]at this;rw[<-Z];exact this
theorem zF(h:Part n E E' z)(Y:z.length=n):∃r,(nj n E E' n [[]]).head? =ar r/\FU n n E E' (tupI r)=true:=by
 cases q:nj n E E' n [[]]with
 |nil=>have:=B3 h Y;rw[q]at this;cases this
 |cons r rs=>
  refine⟨r,rfl,?_⟩;obtain⟨P,l⟩:=qf (n:=n) (E:=E) (E':=E') n 0 [[]] (fun s hs=>by rw[Lv.mp hs];exact⟨Part.nil,rfl⟩) r (by rw[q];exact .head _)
  rw[L']at l;show(decide (n=n) && (decide ((r.map D.int).length=n) && ((r.map D.int).all (cz n) && match intsOf (r.map D.int)with|some z=>Gm E E' z|none=>dV)))=b_
  rw[dG,JV,J3 rfl,J3 l,Le,Le,Kn];refine⟨Ki.mpr fun d hd=>?_,B1 P⟩;obtain⟨x,Z,rfl⟩:=Kb.mp hd;have:=P.el x Z;show(decide (0<=x) && decide (x<n))=b_;rw[J3 this.1,J3 this.2];rfl
end
section
variable {n:Nat}{E:List (List Int)}{zs:List Int}
theorem tj(w:WebOk n E):TiesOk n E:=⟨w.el,wN w,w.few⟩
theorem tm{t:List Int}{q:Int}(w:WebOk n E)(Z:t∈E):bf q (j6 zs t)=b_↔∃p,bf p t=b_/\q=zs.getD p.toNat 0:=by
 obtain⟨a,b,rfl,_⟩:=w.el t Z;unfold j6;rw[b0,(sortI_perm _).mem_iff];simp only[u3,List.getD_cons_succ,f',e_,or_false];constructor
 ·rintro(h|h)
  ·exact⟨a,dz.mpr (.inl rfl),h⟩
  ·exact⟨b,dz.mpr (.inr rfl),h⟩
 ·rintro⟨p,h1,h2⟩;rcases dz.mp h1 with rfl|rfl
  ·exact .inl h2
  ·exact .inr h2
def wR(E E':List (List Int))(zs:List Int):List Int:=E.map fun t=>((E'.idxOf (j6 zs t):Nat):Int)
theorem F6(I:zs.Perm (eI n))(w:WebOk n E):Part E.length (bB E) (bB (cI (E.map (j6 zs)))) (wR E (cI (E.map (j6 zs))) zs):=by
 have Q:=wG I (tj w);have S:=bS (E.map (j6 zs));have A:(cI (E.map (j6 zs))).length=E.length:=by rw[S.length_eq,JV]
 have F:(E.map (j6 zs)).Nodup:=S.nodup_iff.mp (wN Q);generalize cI (E.map (j6 zs))=E' at Q S A;have L:∀t∈E,j6 zs t∈E':=fun t U=>S.mem_iff.mpr (Kb.mpr ⟨t,U,rfl⟩);have Y:∀t∈E,E'.idxOf (j6 zs t)<E'.length/\E'.getD (E'.idxOf (j6 zs t)) []=j6 zs t:=fun t U=>by
  have T:=MH (L t U);exact⟨T,by rw[gf T];exact List.getElem_idxOf T⟩
 have H:∀i,i<E.length->(wR E E' zs).getD i 0=((E'.idxOf (j6 zs (E.getD i [])):Nat):Int):=fun i R=>by
  unfold wR;rw[getD_at (by rw[JV];exact R),K8,gf R]
 refine⟨?_,fun x C=>?_,fun j X i R=>?_⟩
 ·unfold wR;refine KI.mpr (KN (fun{s t} hs U W e=>W ?_) (KI.mp F));have e:E'.idxOf (j6 zs s)=E'.idxOf (j6 zs t):=by omega
  rw[<-(Y s hs).2, <-(Y t U).2,e]
 ·obtain⟨t,U,rfl⟩:=Kb.mp C;have:=(Y t U).1;exact⟨by omega,by omega⟩
 ·have X:j<E.length:=by
   unfold wR at X;rw[JV]at X;exact X
  have Z:i<E.length:=by omega
  have J:=getD_in (E:=E) Z;have K:=getD_in (E:=E) X;have O:=Y _ J;have N:=Y _ K;have W:E'.idxOf (j6 zs (E.getD i []))≠E'.idxOf (j6 zs (E.getD j [])):=fun e=>by
   have e:j6 zs (E.getD i [])=j6 zs (E.getD j []):=by rw[<-O.2, <-N.2,e]
   rw[gf Z,gf X]at e;have:=Lx.mp F i j (by rw[JV];exact Z) (by rw[JV];exact X) R
   rw[K8,K8]at this;exact this e
  rw[H i Z,H j X,LC,oQ w Z X (by omega),oQ Q O.1 N.1 W,O.2,N.2]
  constructor
  ·rintro⟨p,T,h2⟩;exact⟨zs.getD p.toNat 0,(tm w J).mpr ⟨p,T,rfl⟩,(tm w K).mpr ⟨p,h2,rfl⟩⟩
  ·rintro⟨q,T,h2⟩;obtain⟨P,a1,B⟩:=(tm w J).mp T;obtain⟨G,a2,z⟩:=(tm w K).mp h2;have c1:=nu w Z a1;have y:=nu w X a2;have:=qb I (i:=P.toNat) (j:=G.toNat) (by omega) (by omega) (B.symm.trans z)
   have e:P=G:=by omega
   subst e;exact⟨P,a1,a2⟩
theorem DP{E':List (List Int)}:(wR E E' zs).length=E.length:=by unfold wR;rw[JV]
end
section
variable {α:Type}{l:List α}{mk:α->D}{mi:aD->M Iter}{g:ky}{t:fE}{m:TM}{ρ:aD}{js:List (Option Nat)}
theorem uS{e:TM}{f:α->Bool}(h:e ρ=aC (.fz (l.map fun a=>D.bl (f a)))):bY iT e ρ=aC (.bl (l.all f)):=by
 have e1:(l.map fun a=>D.bl (f a))=(l.map f).map D.bl:=by rw[Ke];rfl
 rw[e1]at h;refine(cJ h).trans (m9.trans ?_);rw[L7];rfl
theorem B4(f:α->Bool)(l:List α):cT 0 (l.map fun a=>D.bl (f a))=true:=by
 have:=kO (l.map f);rw[Ke]at this;exact this
theorem jb(f:α->Bool)(R:aD->Prop)(N:mi ρ=aC ⟨l.map mk,.none⟩)(S:l.length<=lim)(X:R (gh js ρ))(T:∀a∈l,∀ ρ,R ρ->∃Z,g (mk a) ρ=aC Z/\R Z/\t Z=aC b_/\m Z=aC (.bl (f a))):
  bY iT (aL (aV mi g t m js)) ρ=aC (.bl (l.all f)):=by
 have h:=mv (f:=fun a=>D.bl (f a)) R (fun _=>b_) N S X (fun a P ρ Y=>by
  obtain⟨Z,U,O,W,Q⟩:=T a P ρ Y;exact⟨Z,U,O,W,fun _=>Q⟩) (by rw[bg];exact B4 f l)
 rw[bg]at h;exact uS h
theorem rL(f:α->Bool)(R:aD->Prop)(N:mi ρ=aC ⟨l.map mk,.none⟩)(S:l.length<=lim)(X:R (gh js ρ))(T:∀a∈l,∀ ρ,R ρ->∃Z,g (mk a) ρ=aC Z/\R Z/\t Z=aC b_/\m Z=aC (.bl (f a))):
  bY iT (aL (uj (aV mi g t m js))) ρ=aC (.bl (l.all f)):=by
 have h:=yg (f:=fun a=>D.bl (f a)) R (fun _=>b_) N S X (fun a P ρ Y=>by
  obtain⟨Z,U,O,W,Q⟩:=T a P ρ Y;exact⟨Z,U,O,W,fun _=>Q⟩) (by rw[bg];exact B4 f l)
 rw[bg]at h;exact uS h
theorem yk{d d1:D}(Z:α->α->Bool)(hs:aL (zU (mV 0) (oS (mK (.int 1))) oN) [ar d]=aC d1)(W:uh [d,d1]=aC ⟨(l.zip (l.drop 1)).map fun p=>D.tup [mk p.1,mk p.2],.none⟩)(Y:∀a b,vJ (mk a) (mk b)=aC (.bl (Z a b)))(U:l.length<=1000):
  bM [d]=aC (.bl ((l.zip (l.drop 1)).all fun p=>Z p.1 p.2)):=by
 refine de (o:=.ret (.bl ((l.zip (l.drop 1)).all fun p=>Z p.1 p.2))) (cc (jb (α:=α×α) (l:=l.zip (l.drop 1)) (mk:=fun p=>D.tup [mk p.1,mk p.2]) (fun p=>Z p.1 p.2) (fun ρ=>∃x y,ρ=[x,y]) ?_ ?_ ⟨none,none,rfl⟩ fun p T ρ X=>?_)) rfl
 ·show(ae (mV 0) (ae (aL (zU (mV 0) (oS (mK (.int 1))) oN)) av) [ar d]>>=uh)=_;rw[bb (x:=d) rfl (bb hs (es:=av) rfl),aj];exact W
 ·rw[List.length_zip];unfold lim;omega
 ·obtain⟨x,y,rfl⟩:=X;exact⟨[ar (mk p.1),ar (mk p.2)],rfl,⟨_,_,rfl⟩,rfl,(cf (x:=mk p.1) (y:=mk p.2) rfl rfl).trans (Y _ _)⟩
theorem wU{R:α->α->Prop}:∀{l:List α},l.Pairwise R->∀p∈l.zip (l.drop 1),R p.1 p.2
 |[],_,p,hp=>by cases hp
 |[_],_,p,hp=>by cases hp
 |a::b::r,h,p,hp=>by
  obtain⟨Z,Y⟩:=KB.mp h;rcases Km.mp (show p∈(a,b)::(b::r).zip r from hp)with rfl|hp
  ·exact Z b (.head _)
  ·exact wU Y p hp
end
section
variable {n:Nat}{E:List (List Int)}{z:List Int}{T:List (List Int)}
theorem B5(X:z.Pairwise (· <·))(Y:z.length<=1000):bM [tupI z]=aC (.bl b_):=by
 have h:=yk (l:=z) (mk:=D.int) (d:=tupI z) (d1:=tupI (z.drop 1)) (fun a b=>decide (a<b)) (by
  refine d8 (?_ :bA (S3.cutD (z.map D.int) (ar 1) none)=_);rw[FB, <-List.map_drop];unfold bA;exact if_pos (by rw[JV,LY];unfold lim;omega)) (by
  show(aC (⟨((z.map D.int).zip ((z.drop 1).map D.int)).map (fun p=>D.tup [p.1,p.2]),.none⟩:Iter):M Iter)=_;rw[List.zip_map,Ke];rfl) (fun a b=>rfl) Y
 rw[h,Ki.mpr fun p Z=>J3 (wU X p Z)]
theorem zG(Y:T.Pairwise fun a b=>HT.lexLt a b=b_)(X:T.length<=1000):bM [.fz (T.map tupI)]=aC (.bl b_):=by
 have h:=yk (l:=T) (mk:=tupI) (d:=.fz (T.map tupI)) (d1:=.fz ((T.drop 1).map tupI)) (fun a b=>HT.lexLt a b) (by
  show jE (bD (S3.cutD (T.map tupI) (ar 1) none))=_;rw[FB, <-List.map_drop];exact cu (bX _) (by rw[JV,LY];unfold lim;omega)) (by
  show(aC (⟨((T.map tupI).zip ((T.drop 1).map tupI)).map (fun p=>D.tup [p.1,p.2]),.none⟩:Iter):M Iter)=_;rw[List.zip_map,Ke];rfl) (fun a b=>by
  show(match intsOf (a.map D.int),intsOf (b.map D.int)with|some ns,ar ms=>(aC (.bl (HT.lexLt ns ms)):M D)|_,_=>M.fail)=_
  rw[dG,dG]) X
 rw[h,Ki.mpr fun p Z=>wU Y p Z]
theorem rM{m:Nat}(W:z.Pairwise (· <·))(U:∀x∈z,0<=x/\x<m)(X:z.length<=1000):cV [.int m,tupI z]=aC (.bl b_):=by
 refine de (o:=.ret (.bl b_)) (cc (and_eq (b:=b_) rfl (fun _=>and_eq (b:=b_) ?_ (fun _=>d8 ((b8 rfl).trans (B5 W X))) (fun h=>by cases h)) (fun h=>by cases h))) rfl
 have h:=jb (l:=z) (mk:=D.int) (mi:=bK (mV 1)) (g:=gN 0) (t:=ib) (m:=ic) (js:=[none,ar 0]) (ρ:=[ar (.int m),ar (tupI z)]) (fun x=>cz m (.int x)) (fun ρ=>∃x,ρ=[x,ar (.int m)]) rfl (by unfold lim;omega) ⟨none,rfl⟩ fun x Y ρ Z=>by
  obtain⟨y,rfl⟩:=Z;exact⟨[ar (.int x),ar (.int m)],rfl,⟨_,rfl⟩,rfl,d8 ((call2 rfl rfl).trans (ma rfl))⟩
 refine h.trans ?_;rw[Ki.mpr fun x Y=>?_];have:=U x Y;show(decide (0<=x) && decide (x<m))=b_;rw[J3 this.1,J3 this.2];rfl
theorem DQ{x:Int}(X:z.length<=1000)(h:∀y∈z,tB E y x=b_):lU [aw n E,tupI z,.int x]=aC (.bl b_):=by
 have Y:=jb (l:=z) (mk:=D.int) (mi:=bK (mV 1)) (g:=gN 0) (t:=kM) (m:=kN) (js:=[none,ar 0,ar 2]) (ρ:=[ar (aw n E),ar (tupI z),ar (.int x)]) (fun y=>tB E y x) (fun ρ=>∃y,ρ=[y,ar (aw n E),ar (.int x)]) rfl (by unfold lim;omega) ⟨none,rfl⟩ fun y W ρ Z=>by
  obtain⟨u,rfl⟩:=Z;exact⟨[ar (.int y),ar (aw n E),ar (.int x)],rfl,⟨_,rfl⟩,rfl,d8 ((qc rfl rfl rfl).trans wH)⟩
 refine de (o:=.ret (.bl b_)) (cc (Y.trans ?_)) rfl;rw[Ki.mpr h]
theorem ym(W:z.length<=100)(h:CrowdOk n E z):c9 [aw n E,tupI z]=aC (.bl b_):=by
 have X:cZ (bV (aL (au cV (ae (aZ cn (mV 0) (mK (.int 0))) (ae (mV 1) av))))) [ar (aw n E),ar (tupI z)]=aC false:=not_eq (gE (d8 ((call2 (x:=.int n) (y:=tupI z) rfl rfl).trans (rM h.ris h.el (by omega)))))
 have S:ec vJ (bY cX (mV 1)) (mK (.int 2)) [ar (aw n E),ar (tupI z)]=aC false:=by
  refine bO (x:=.int z.length) (y:=.int 2) ((mw (us:=z.map D.int) rfl).trans (by rw[JV])) rfl ?_
  show aC (D.bl (decide ((z.length:Int)<2)))=_;rw[Kg (by have:=h.two;omega)]
 have Q:=jb (α:=Nat) (l:=d_ z.length) (mk:=fun i:Nat=>.tup [.int (i:Int),.int (z.getD i 0)]) (mi:=rm (mV 1)) (g:=cA 2 (aN (gN 0) (aN (gN 1) cF))) (t:=fQ) (m:=fR) (js:=[none,none,ar 0,ar 1]) (ρ:=[ar (aw n E),ar (tupI z)]) (fun _=>b_) (fun ρ=>∃x y,ρ=[x,y,ar (aw n E),ar (tupI z)]) (by rw[<-kq];rfl) (by rw[Kc];unfold lim;omega) ⟨none,none,rfl⟩ fun i Z ρ Y=>by
  obtain⟨x,y,rfl⟩:=Y;have Z:=Ka.mp Z;refine⟨[ar (.int i),ar (.int (z.getD i 0)),ar (aw n E),ar (tupI z)],rfl,⟨_,_,rfl⟩,rfl,d8 ((qc rfl (ye (z:=z) (i:=i) rfl rfl W) rfl).trans (DQ (by rw[KF];omega) fun y R=>?_))⟩
  obtain⟨j,U,rfl⟩:=LW.mp R;rw[List.getElem_take];rw[KF]at U;refine h.tied _ (Ln _) _ (iw Z) ?_;have:=qh h.ris (a:=j) (b:=i) (by omega) Z
  rw[getD_at (by omega)]at this
  exact this
 refine de (o:=.ret (.bl b_)) ((aJ ((bH (mr X fun _=>S)).trans (if_neg (by decide)))).trans (cc (Q.trans ?_))) rfl
 rw[Ki.mpr fun _ _=>rfl]
theorem yo(Z:n<=7)(w:WebOk n E):cH [aw n E]=aC .non:=by
 have:bu [aw n E,.int 7]=aC .non:=by rw[qg (by omega) w,if_neg (by omega)]
 exact df (fw (d8 ((call2 rfl rfl).trans this))) rfl
theorem wV(Y:n<=7)(w:WebOk n E)(Z:z.length<=100)(h:CrowdOk n E z):ig [aw n E,tupI z]=aC (.bl b_):=
 df (o:=.ret (.bl b_)) ((aJ (fw (d8 ((b8 rfl).trans (yo Y w))))).trans (cc (d8 ((call2 rfl rfl).trans (ym Z h))))) rfl
theorem B6{s:List Int}(X:T.length<=1000)(hs:s.length<=1000):cM [.fz (T.map tupI),tupI s]=aC (.int (my T s)):=by
 have Y:=mv (l:=T) (mk:=tupI) (f:=tupI) (mi:=bK (mV 0)) (g:=gN 0) (t:=fq) (m:=ft) (js:=[none,ar 1]) (ρ:=[ar (.fz (T.map tupI)),ar (tupI s)]) (fun ρ=>∃x,ρ=[x,ar (tupI s)]) (fun c=>s.all fun x=>bf x c) rfl (by unfold lim;omega) ⟨none,rfl⟩ (fun c Y ρ Z=>by
  obtain⟨y,rfl⟩:=Z;refine⟨[ar (tupI c),ar (tupI s)],rfl,⟨_,rfl⟩,gE ?_,fun _=>rfl⟩;exact jb (l:=s) (mk:=D.int) (mi:=bK (mV 1)) (g:=gN 0) (t:=fi) (m:=fj) (js:=[none,ar 0]) (ρ:=[ar (tupI c),ar (tupI s)]) (fun x=>bf x c) (fun ρ=>∃x,ρ=[x,ar (tupI c)]) rfl (by unfold lim;omega) ⟨none,rfl⟩ fun x W ρ Z=>by
   obtain⟨y,rfl⟩:=Z;exact⟨[ar (.int x),ar (tupI c)],rfl,⟨_,rfl⟩,rfl,(cf (x:=.int x) (y:=tupI c) rfl rfl).trans n0⟩) (bX _)
 refine de (o:=.ret (.int (my T s))) (cc ((BU Y).trans ?_)) rfl;rw[JV];rfl
theorem HF(X:T.length<=1000)(Y:T.Pairwise fun a b=>HT.lexLt a b=b_)(W:∀s∈T,s.length<=100)(h:∀s∈T,CrowdOk n E s):eo [aw n E,.fz (T.map tupI)]=aC (.bl b_):=by
 refine de (o:=.ret (.bl b_)) (cc (and_eq (b:=b_) rfl (fun _=>and_eq (b:=b_) ?_ (fun _=>d8 ((b8 rfl).trans (zG Y X))) (fun h=>by cases h)) (fun h=>by cases h))) rfl
 have U:=jb (l:=T) (mk:=tupI) (mi:=bK (mV 1)) (g:=gN 0) (t:=gr) (m:=gu) (js:=[none,ar 0]) (ρ:=[ar (aw n E),ar (.fz (T.map tupI))]) (fun _=>b_) (fun ρ=>∃x,ρ=[x,ar (aw n E)]) rfl (by unfold lim;omega) ⟨none,rfl⟩ fun s hs ρ Z=>by
  obtain⟨y,rfl⟩:=Z;exact⟨[ar (tupI s),ar (aw n E)],rfl,⟨_,rfl⟩,rfl,d8 ((call2 rfl rfl).trans (ym (W s hs) (h s hs)))⟩
 refine U.trans ?_;rw[Ki.mpr fun _ _=>rfl]
theorem zH(R:n<=7)(w:WebOk n E)(X:T.length<=1000)(W:T.Pairwise fun a b=>HT.lexLt a b=b_)(P:∀s∈T,s.length<=100)(h:∀s∈T,CrowdOk n E s)(Q:∀t∈E,my T t=1)(O:∀i,i<n->my T [(i:Int)]<=2):eA [aw n E,.fz (T.map tupI)]=aC (.bl b_):=by
 have hf:=w.few;have c1:=rL (l:=E) (mk:=tupI) (mi:=bK (mV 3)) (g:=gN 0) (t:=gx) (m:=gy) (js:=[none,ar 1]) (ρ:=[ar (aw n E),ar (.fz (T.map tupI)),ar (.int n),ar (.tup (E.map tupI))]) (fun _=>b_) (fun ρ=>∃x,ρ=[x,ar (.fz (T.map tupI))]) rfl (by unfold lim;omega) ⟨none,rfl⟩ fun t Y ρ Z=>by
  obtain⟨y,rfl⟩:=Z;refine⟨[ar (tupI t),ar (.fz (T.map tupI))],rfl,⟨_,rfl⟩,rfl,(cf (d8 ((call2 rfl rfl).trans (B6 X (by obtain⟨a,b,rfl,_⟩:=w.el t Y;show 2<=1000;decide)))) (y:=.int 1) rfl).trans ?_⟩
  rw[Q t Y,Hq];rfl
 have U:=rL (α:=Nat) (l:=d_ n) (mk:=fun i:Nat=>D.int (i:Int)) (mi:=oj (mV 2)) (g:=gN 0) (t:=gz) (m:=gC) (js:=[none,ar 1]) (ρ:=[ar (aw n E),ar (.fz (T.map tupI)),ar (.int n),ar (.tup (E.map tupI))]) (fun _=>b_) (fun ρ=>∃x,ρ=[x,ar (.fz (T.map tupI))]) (wI rfl (by omega)) (by rw[Kc];unfold lim;omega) ⟨none,rfl⟩ fun i N ρ Z=>by
  obtain⟨y,rfl⟩:=Z;have Y:fD (ae (mV 0) av) [ar (.int i),ar (.fz (T.map tupI))]=aC (tupI [(i:Int)]):=by
   show(ae _ _ _>>=bA)=_;rw[bb (x:=.int i) rfl (es:=av) rfl,aj];unfold bA;exact if_pos (by show 1<=lim;unfold lim;omega)
  refine⟨[ar (.int i),ar (.fz (T.map tupI))],rfl,⟨_,rfl⟩,rfl,(cf (d8 ((call2 rfl Y).trans (B6 X (by show 1<=1000;decide)))) (y:=.int 2) rfl).trans ?_⟩
  show aC (D.bl (decide ((my T [(i:Int)]:Int)<=2)))=_;rw[J3 (by have:=O i (Ka.mp N);omega)]
 have S:cZ (bV (aL (au eo (ae (mV 0) (ae (mV 1) av))))) [ar (aw n E),ar (.fz (T.map tupI)),none,none]=aC false:=not_eq (gE (d8 ((call2 rfl rfl).trans (HF X W P h))));have L:=not_eq (gE (c1.trans (by rw[Ki.mpr fun _ _=>rfl])))
 refine df (o:=.ret (.bl b_)) ((aJ (fw (d8 ((b8 rfl).trans (yo R w))))).trans ((aJ ((bH S).trans (if_neg (by decide)))).trans ((aJ (ρ':=[ar (aw n E),ar (.fz (T.map tupI)),ar (.int n),ar (.tup (E.map tupI))]) rfl).trans ((aJ ((bH L).trans (if_neg (by decide)))).trans (cc (U.trans ?_)))))) rfl
 rw[Ki.mpr fun _ _=>rfl]
end
theorem uT(x:Int):∀z:List Int,x∈z->(z.map oo).findIdx? (fun y=>gi y (.int x))=ar (z.idxOf x)
 |[],h=>by cases h
 | r::rs,h=>by
  have e:gi (.int r) (.int x)=decide (r=x):=by
   simp only[gi];rfl
  rw[Kr,List.findIdx?_cons,e,List.idxOf_cons];by_cases hr:r=x
  ·rw[if_pos (J3 hr),beq_iff_eq.mpr hr];rfl
  ·rw[if_neg (by rw[Kk];exact hr),Mb hr,uT x rs ((Km.mp h).resolve_left fun z=>hr z.symm)];rfl
theorem rN{x:Int}{z:List Int}(h:x∈z):kL (tupI z) [.int x]=aC (.int (z.idxOf x)):=by
 funext S;unfold kL;dsimp only;rw[ko,iO];unfold gU;dsimp only;rw[uT x z h];rfl
section
variable {n:Nat}{E:List (List Int)}{z:List Int}
theorem yp{e1 e2:TM}{ρ:aD}{x y:Int}(Y:e1 ρ=aC (.int x))(Z:e2 ρ=aC (.int y)):fD (ae e1 (ae e2 av)) ρ=aC (tupI [x,y]):=by
 show(ae _ _ _>>=bA)=_;rw[bb Y (bb Z (es:=av) rfl),aj];unfold bA;exact if_pos m6
theorem F7{e1 e2:TM}{ρ:aD}{m:Nat}{T:List (List Int)}(Y:e1 ρ=aC (.int m))(Z:e2 ρ=aC (.tup (T.map tupI))):fD (ae e1 (ae e2 av)) ρ=aC (aw m T):=by
 show(ae _ _ _>>=bA)=_;rw[bb Y (bb Z (es:=av) rfl),aj];unfold bA;exact if_pos m6
theorem B7(S:n<=14)(w:WebOk n E)(Q:z.Pairwise (· <·))(T:∀x∈z,0<=x/\x<n)(O:z.length<=100):ie [aw n E,tupI z]=aC (aw z.length (n5 E z)):=by
 have hf:=w.few;have R:cZ (bV (aL (au cV (ae (mV 2) (ae (mV 1) av))))) [ar (aw n E),ar (tupI z),ar (.int n),ar (.tup (E.map tupI)),none]=aC false:=not_eq (gE (d8 ((call2 rfl rfl).trans (rM Q T (by omega)))))
 have c1:=mv (l:=E) (mk:=tupI) (f:=tupI) (mi:=bK (mV 3)) (g:=cA 2 (aN (gN 0) (aN (gN 1) cF))) (t:=iK) (m:=iL) (js:=[none,none,ar 1]) (ρ:=[ar (aw n E),ar (tupI z),ar (.int n),ar (.tup (E.map tupI)),none]) (fun ρ=>∃x y,ρ=[x,y,ar (tupI z)]) (zA z) rfl (by unfold lim;omega) ⟨none,none,rfl⟩ (fun t Y ρ Z=>by
  obtain⟨x,y,rfl⟩:=Z;obtain⟨a,b,rfl,_⟩:=w.el t Y;refine⟨[ar (.int a),ar (.int b),ar (tupI z)],rfl,⟨_,_,rfl⟩,?_,fun _=>yp rfl rfl⟩;show(ec inD (mV 0) (mV 2) _>>=_)=_;rw[bO (x:=.int a) (y:=tupI z) rfl rfl n0,aj];unfold zA;cases q:bf a z with
  |true=>
   rw[if_pos rfl];show _=aC (bf a z && bf b z);rw[q,Le];exact bO (x:=.int b) (y:=tupI z) rfl rfl n0
  |false=>
   rw[if_neg (by decide)]
   show _=aC (bf a z && bf b z);rw[q];rfl) (bX _)
 have s1:Ja (dh 4 (aL (aV (bK (mV 3)) (cA 2 (aN (gN 0) (aN (gN 1) (cF)))) iK iL [none,none,ar 1]))) [ar (aw n E),ar (tupI z),ar (.int n),ar (.tup (E.map tupI)),none]=aC (.nx [ar (aw n E),ar (tupI z),ar (.int n),ar (.tup (E.map tupI)),ar (.fz ((E.filter (zA z)).map tupI))]):=by
  unfold Ja;rw[fS c1];rfl
 have X:=yg (l:=E.filter (zA z)) (mk:=tupI) (f:=fun t=>tupI (HW z t)) (mi:=bK (mV 4)) (g:=cA 2 (aN (gN 0) (aN (gN 1) cF))) (t:=iM) (m:=iN) (js:=[none,none,ar 1]) (ρ:=[ar (aw n E),ar (tupI z),ar (.int n),ar (.tup (E.map tupI)),ar (.fz ((E.filter (zA z)).map tupI))]) (fun ρ=>∃x y,ρ=[x,y,ar (tupI z)]) (fun _=>b_) rfl (J4 (Kv _ _) (by unfold lim;omega)) ⟨none,none,rfl⟩ (fun t Y ρ Z=>by
  obtain⟨x,y,rfl⟩:=Z;obtain⟨t1,t2⟩:=Kh.mp Y;obtain⟨a,b,rfl,_⟩:=w.el t t1;unfold zA at t2;rw[Kn]at t2;have P:a∈z:=b0.mp t2.1;have W:b∈z:=b0.mp t2.2;exact⟨[ar (.int a),ar (.int b),ar (tupI z)],rfl,⟨_,_,rfl⟩,rfl,fun _=>yp ((BS (xs:=z.map D.int) (y:=.int a) rfl rfl).trans (rN P)) ((BS (xs:=z.map D.int) (y:=.int b) rfl rfl).trans (rN W))⟩) (by
  rw[bg];have:=bX ((E.filter (zA z)).map (HW z));rw[Ke]at this;exact this)
 rw[bg]at X;have U:(E.filter (zA z)).length<=21:=J4 (Kv _ _) hf;have e2:bY cb (aL (uj (aV (bK (mV 4)) (cA 2 (aN (gN 0) (aN (gN 1) (cF)))) iM iN [none,none,ar 1]))) [ar (aw n E),ar (tupI z),ar (.int n),ar (.tup (E.map tupI)),ar (.fz ((E.filter (zA z)).map tupI))]=aC (.tup ((n5 E z).map tupI)):=by
  refine(cJ X).trans ((jZ (by rw[JV];unfold lim;omega)).trans ?_)
  unfold n5;rw[Ke];rfl
 exact df (o:=.ret (aw z.length (n5 E z))) ((aJ (fw (d8 ((b8 rfl).trans (iP S w))))).trans ((aJ (ρ':=[ar (aw n E),ar (tupI z),ar (.int n),ar (.tup (E.map tupI)),none]) rfl).trans ((aJ ((bH R).trans (if_neg (by decide)))).trans ((aJ s1).trans (cc (F7 ((mw (us:=z.map D.int) rfl).trans (by rw[JV])) e2)))))) rfl
end
theorem rO:∀rs:List (List Int),l_ (rs.map gU) (rs.map gU)=b_
 |[]=>by simp[l_]
 | r::rs=>by
  have e:gi (gU r) (gU r)=true:=by
   unfold gU gi;rw[mj,J3 rfl]
  rw[Kr];unfold l_;rw[e,rO rs];rfl
theorem Ga{n:Nat}{E:List (List Int)}:oC (aw n E) (aw n E)=aC (.bl b_):=dE fun S=>by
 have Z:gI S 60 (aw n E)=ar (.tuple [.int n,.tuple (E.map gU)]):=by
  show(mapP (gI S 59) [.int n,.tup (E.map tupI)]).map u0=_;have Y:gI S 59 (.tup (E.map tupI))=ar (.tuple (E.map gU)):=by
   show(mapP (gI S 58) (E.map tupI)).map u0=_;rw[ja];rfl
  unfold mapP;rw[iO];unfold mapP;rw[Y];rfl
 unfold oC;refine(ji Z Z).mpr ⟨?_,rfl⟩;simp[gi,l_,rO]
theorem B8{Z:List (List Int)}(h:∀r∈Z,0<r.length)(X:Z.length<64):lN (Z.map tupI)=bD ((cI Z).map tupI):=by
 cases Z with
 |nil=>rfl
 | cons r Z=>
  have W:two (r::Z)=true:=Ki.mpr fun x Y=>by
   have:=h x Y;rw[bne_iff_ne];omega
  show(match rowsOf ((r::Z).map tupI)with|some Z=>pF Z|none=>M.fail)=_
  rw[p9];exact if_pos ⟨X,W⟩
theorem Dr.subI:∀{L:List Int} {ys:List D},Dr (fun d y=>y=d) (L.map D.int) ys->∃z:List Int,ys=z.map D.int/\z.Sublist L
 |[],_,h=>by cases h;exact⟨[],rfl,.slnil⟩
 | x::L,ys,h=>by
  cases h with
  |skip h=>
   obtain⟨z,rfl,s⟩:=Dr.subI h;exact⟨z,rfl,s.cons _⟩
  |put p h=>
   obtain⟨z,rfl,s⟩:=Dr.subI h;exact⟨x::z,by rw[p];rfl,s.cons₂ _⟩
theorem uU{t:fE}{m:cK}{ρ:aD}(h:t ρ=aC dV):jz t m dX ρ=aC (.nx ρ):=(bH h).trans (if_neg (by decide))
theorem yq{n:Nat}{E:List (List Int)}{a:Int}(Z:0<=a)(h:a<n):(fx n E).getD a.toNat 0=(rG E a:Int):=by
 unfold fx;rw[getD_at (by rw[JV,Kc];omega),K8,List.getElem_range]
 rw[show((a.toNat:Nat):Int)=a by omega]
section
variable {S:aE}{k n:Nat}{E:List (List Int)}{x0 x4 x5:Option D}
def jc(k n:Nat)(E:List (List Int))(r:List (Option D)):aD:=ar (.lst k)::ar (aw n E)::ar (aw E.length (bB E))::ar (.fz ((fx n E).map D.int))::r
theorem Ji(X:n<=14)(w:WebOk n E)(W:E.length<=7):qp (ec (yH (!·)) (aL (au d6 (ae (mV 2) (av)))) (mK (.bl b_))) (qp (ec lb (aZ cn (mV 2) (mK (.int 0))) (bY cX (aZ cn (mV 1) (mK (.int 1))))) (ec lb (bY cX (aZ cn (mV 2) (mK (.int 1)))) (aL (au ez (ae (mV 1) (av)))))) (jc k n E [x4,x5])=aC false:=by
 have Z:=fY (E:=E) W;have a1:aL (au d6 (ae (mV 2) av)) (jc k n E [x4,x5])=aC (.bl b_):=by
  unfold aL;rw[b8 (x:=aw E.length (bB E)) rfl,Hu wA (sW Z),sV (by omega) (by omega) Z]
 have a2:bY cX (aZ cn (mV 1) (mK (.int 1))) (jc k n E [x4,x5])=aC (.int E.length):=(mw (us:=E.map tupI) rfl).trans (by rw[JV])
 have Y:bY cX (aZ cn (mV 2) (mK (.int 1))) (jc k n E [x4,x5])=aC (.int (bB E).length):=(mw (us:=(bB E).map tupI) rfl).trans (by rw[JV])
 refine mr (b:=dV) (bO a1 (y:=.bl b_) rfl rfl) fun _=>mr (b:=dV) (bO (x:=.int E.length) rfl a2 (DH.trans (by rw[J3 rfl];rfl))) fun _=>bO Y (d8 ((b8 rfl).trans (DM X w))) (DH.trans (by rw[J3 rfl];rfl))
theorem Jj(L:n<=14)(w:WebOk n E)(T:E.length<=7):ec lb (aL (au bx (ae (mV 2) (av)))) (aL (aV (bK (aZ cn (mV 1) (mK (.int 1)))) (cA 2 (aN (gN 0) (aN (gN 1) (cF)))) dH dI [none,none,ar 3])) (jc k n E [x4,x5])=aC false:=by
 have O:=fY (E:=E) T;have hf:=w.few;have ld:(fx n E).length=n:=by unfold fx;rw[JV,Kc]
 have U:=mv (l:=E) (mk:=tupI) (f:=fun t=>D.int ((rG E (t.getD 0 0):Int)+(rG E (t.getD 1 0):Int) - 2)) (mi:=bK (aZ cn (mV 1) (mK (.int 1)))) (g:=cA 2 (aN (gN 0) (aN (gN 1) cF))) (t:=dH) (m:=dI) (js:=[none,none,ar 3]) (ρ:=jc k n E [x4,x5]) (fun ρ=>∃x y,ρ=[x,y,ar (.fz ((fx n E).map D.int))]) (fun _=>b_) rfl (by unfold lim;omega) ⟨none,none,rfl⟩ (fun t R ρ W=>by
  obtain⟨x,y,rfl⟩:=W;obtain⟨a,b,rfl,h0,P,Y⟩:=w.el t R;have N:aZ cn (mV 2) (mV 0) [ar (.int a),ar (.int b),ar (.fz ((fx n E).map D.int))]=aC (.int (rG E a)):=(cf (x:=.fz ((fx n E).map D.int)) (y:=.int a) rfl rfl).trans ((j5 h0 (by omega)).trans (by rw[yq h0 (by omega)]))
  have Q:aZ cn (mV 2) (mV 1) [ar (.int a),ar (.int b),ar (.fz ((fx n E).map D.int))]=aC (.int (rG E b)):=(cf (x:=.fz ((fx n E).map D.int)) (y:=.int b) rfl rfl).trans ((j5 (by omega) (by omega)).trans (by rw[yq (by omega) Y]))
  exact⟨[ar (.int a),ar (.int b),ar (.fz ((fx n E).map D.int))],rfl,⟨_,_,rfl⟩,rfl,fun _=>(cf (d8 ((cf N Q).trans rfl)) (y:=.int 2) rfl).trans rfl⟩) (by rw[bg];exact wM (fun t:List Int=>(rG E (t.getD 0 0):Int)+(rG E (t.getD 1 0):Int) - 2) E)
 rw[bg]at U;have hd:fx E.length (bB E)=E.map fun t=>(rG E (t.getD 0 0):Int)+(rG E (t.getD 1 0):Int) - 2:=by
  unfold fx;refine L3 (by simp) fun i P Y=>?_
  have X:i<E.length:=by simpa using Y
  rw[K8,K8,List.getElem_range, <-gf X];obtain⟨a,b,e,_⟩:=w.el _ (getD_in X);have:=BW w T X e;rw[e];unfold rG at this⊢;rw[KL,KL]at this;show _=(((E.filter (bf a)).length:Int)+((E.filter (bf b)).length:Int) - 2);omega
 have Z:aL (aV (bK (aZ cn (mV 1) (mK (.int 1)))) (cA 2 (aN (gN 0) (aN (gN 1) (cF)))) dH dI [none,none,ar 3]) (jc k n E [x4,x5])=aC (.fz ((fx E.length (bB E)).map D.int)):=by
  rw[U,hd,Ke];rfl
 exact bO (d8 ((b8 rfl).trans (yd (by omega) O))) Z (td.trans (by rw[J3 rfl];rfl))
theorem Jk(W:n<=14)(w:WebOk n E):aL (aV (oj (aZ cn (mV 1) (mK (.int 0)))) (gN 0) eU eV [none,ar 1]) (jc k n E [x4,x5])=aC (.fz ((fT n E).map tupI)):=by
 have Y:=mv (α:=Nat) (l:=d_ n) (mk:=fun i:Nat=>D.int (i:Int)) (f:=fun p:Nat=>tupI (dU E p)) (mi:=oj (aZ cn (mV 1) (mK (.int 0)))) (g:=gN 0) (t:=eU) (m:=eV) (js:=[none,ar 1]) (ρ:=jc k n E [x4,x5]) (fun ρ=>∃x,ρ=[x,ar (aw n E)]) (fun _=>b_) (wI rfl (by omega)) (by rw[Kc];unfold lim;omega) ⟨none,rfl⟩ (fun p X ρ Z=>by
  obtain⟨x,rfl⟩:=Z;exact⟨[ar (.int p),ar (aw n E)],rfl,⟨_,rfl⟩,rfl,fun _=>d8 ((call2 rfl rfl).trans (FY W w (Ka.mp X)))⟩) (by
  rw[bg];have:=bX ((d_ n).map fun p:Nat=>dU E p);rw[Ke]at this;exact this)
 rw[bg]at Y;refine Y.trans ?_;unfold fT;rw[Ke];rfl
theorem Jl(U:n<=14):aL (bY bJ (aL (aV (bK (mV 4)) (gN 0) eX eY [none]))) (jc k n E [ar (.fz ((fT n E).map tupI)),x5])=aC (.fz ((dO n E).map tupI)):=by
 have ls:(fT n E).length=n:=by unfold fT;rw[JV,Kc]
 have X:=mv (l:=fT n E) (mk:=tupI) (f:=tupI) (mi:=bK (mV 4)) (g:=gN 0) (t:=eX) (m:=eY) (js:=[none]) (ρ:=jc k n E [ar (.fz ((fT n E).map tupI)),x5]) (fun ρ=>∃x,ρ=[x]) (fun s=>decide (1<s.length)) rfl (by unfold lim;omega) ⟨none,rfl⟩ (fun s hs ρ Z=>by
  obtain⟨x,rfl⟩:=Z;refine⟨[ar (tupI s)],rfl,⟨_,rfl⟩,bO (x:=.int s.length) (y:=.int 1) ((mw (us:=s.map D.int) rfl).trans (by rw[JV])) rfl ?_,fun _=>rfl⟩
  show aC (D.bl (decide (1<(s.length:Int))))=_;rw[show decide (1<(s.length:Int))=decide (1<s.length)from Nd.mpr (by omega)]) (bX _)
 have W:((fT n E).filter fun s=>decide (1<s.length)).length<=n:=by
  exact J4 (Kv _ _) (Ls ls)
 unfold aL;rw[cJ X];show jE (lN _)=_;rw[B8 (fun r Y=>by have:=Kw (Kh.mp Y).2;omega) (by omega)]
 exact cu (bX _) (by rw[JV,(bS _).length_eq];unfold lim;omega)
theorem uV(Z:E.length<=7){s:List Int}(h:s∈dO n E):s.length<=7:=by
 obtain⟨p,_,rfl,_⟩:=rJ h;exact J4 (DN _) Z
theorem Jm(R:n<=14)(w:WebOk n E)(Z:E.length<=7):ec lb (aL (aV (bK (mV 4)) (gN 0) eZ fb [none,ar 2])) (aL (eL (av))) (jc k n E [ar (.fz ((dO n E).map tupI)),x5])=aC false:=by
 have U:=fY (E:=E) Z;have T:=rK (n:=n) (E:=E);have X:(dO n E).filter (fun _=>dV)=[]:=List.filter_eq_nil_iff.mpr fun _ _ h=>by cases h
 have W:=mv (l:=dO n E) (mk:=tupI) (f:=tupI) (mi:=bK (mV 4)) (g:=gN 0) (t:=eZ) (m:=fb) (js:=[none,ar 2]) (ρ:=jc k n E [ar (.fz ((dO n E).map tupI)),x5]) (fun ρ=>∃x,ρ=[x,ar (aw E.length (bB E))]) (fun _=>dV) rfl (by unfold lim;omega) ⟨none,rfl⟩ (fun s hs ρ Y=>by
  obtain⟨x,rfl⟩:=Y;exact⟨[ar (tupI s),ar (aw E.length (bB E))],rfl,⟨_,rfl⟩,bO (x:=.bl b_) (y:=.bl b_) (d8 ((call2 rfl rfl).trans (wV Z U (by have:=uV Z hs;omega) (n4 w hs)))) rfl rfl,fun z=>by cases z⟩) (by rw[X];rfl)
 rw[X]at W;exact bO (x:=.fz (([]:List Int).map D.int)) W (y:=.fz (([]:List Int).map D.int)) (cu (us:=[]) rfl (Ku _)) (td.trans rfl)
theorem Jn(W:n<=14)(w:WebOk n E)(Z:E.length<=7):ec (yH (!·)) (aL (au eA (ae (mV 2) (ae (mV 4) (av))))) (mK (.bl b_)) (jc k n E [ar (.fz ((dO n E).map tupI)),x5])=aC false:=
 bO (x:=.bl b_) (y:=.bl b_) (d8 ((call2 rfl rfl).trans (zH Z (fY Z) (by have:=rK (n:=n) (E:=E);omega) (zz w) (fun s hs=>by have:=uV Z hs;omega) (fun s hs=>n4 w hs) (fun t Y=>BZ w Y) fun i X=>wO w X))) rfl rfl
theorem Jo(hs:eH S k)(J:E.length<=7):∃(z:List Int) (S1:aE),bY cb (aL (aV (oj (aZ cn (mV 2) (mK (.int 0)))) (gN 0) fc eB [none,ar 0])) (jc k n E [x4,x5]) S=ar (.ok (tupI z),S1)/\z.Pairwise (· <·)/\(∀x∈z,0<=x/\x<E.length)/\Kp k S S1/\S1.length=S.length:=by
 obtain⟨ys,S1,e1,Q,k1,R⟩:=zv (its:=(d_ E.length).map fun i:Nat=>D.int (i:Int)) (mi:=oj (aZ cn (mV 2) (mK (.int 0)))) (g:=gN 0) (t:=fc) (m:=eB) (js:=[none,ar 0]) (ρ:=jc k n E [x4,x5]) (S:=S) (k:=k) (fun ρ=>∃x,ρ=[x,ar (.lst k)]) (fun d y=>y=d/\∃i,d= .int i) (wI rfl (by omega)) (by rw[JV,Kc];omega) ⟨none,rfl⟩ hs (fun d y ⟨h,i,e⟩=>by rw[h,e];rfl) (fun d hd ρ S X hs=>by
  obtain⟨x,rfl⟩:=X;obtain⟨i,_,rfl⟩:=Kb.mp hd;obtain⟨j,W,P,I,K,k2,T⟩:=uI (e1:=mV 1) (e2:=mK (.int 3)) (ρ:=[ar (.int i),ar (.lst k)]) (m:=3) hs rfl rfl (by decide) (by decide)
  exact⟨[ar (.int i),ar (.lst k)],decide (0<j),W,rfl,⟨_,rfl⟩,wD (f:=vp) P (y:=.int 0) rfl rfl,k2,T,fun _=>⟨.int i,W,rfl,⟨rfl,i,rfl⟩,.refl k2.st,rfl⟩⟩)
 have Y:Dr (fun d y=>y=d) (((d_ E.length).map fun i:Nat=>(i:Int)).map D.int) ys:=by
  have O:∀{ds ys:List D},Dr (fun d y=>y=d/\∃i,d= .int i) ds ys->Dr (fun d y=>y=d) ds ys:=fun h=>by
   induction h with
   |nil=>exact .nil
   |skip _ ih=>exact .skip ih
   |put p _ ih=>exact .put p.1 ih
  rw[Ke];exact O Q
 obtain⟨z,rfl,Z⟩:=Y.subI;have L:z.length<=7:=by
  have:=Z.length_le;rw[JV,Kc]at this;omega
 refine⟨z,S1,?_,Lf Z (KI.mpr (List.pairwise_lt_range.imp fun h=>by omega)),fun x U=>?_,k1,R⟩
 ·show(ae _ _ _>>=cb) S=_;rw[aQ (d9 e1 (es:=av) rfl)];exact Kz (jZ (by rw[JV];unfold lim;omega)) S1
 ·obtain⟨i,N,rfl⟩:=Kb.mp (Z.subset U);exact⟨by omega,by have:=Ka.mp N;omega⟩
theorem Jp{z:List Int}(Q:n<=14)(w:WebOk n E)(W:E.length<=7)(Y:z.Pairwise (· <·))(Z:∀x∈z,0<=x/\x<E.length):aZ oC (aL (au ie (ae (mV 2) (ae (mV 5) (av))))) (aL (au bz (ae (fD (ae (aZ cn (mV 1) (mK (.int 0))) (ae (bY cb (aL (aV (bK (mV 5)) (gN 0) du dv [none,ar 1]))) (av)))) (av)))) (jc k n E [x4,ar (tupI z)])=aC (.bl b_):=by
 have N:=F4 Y Z;have U:=mv (l:=z) (mk:=D.int) (f:=fun x=>tupI (E.getD x.toNat [])) (mi:=bK (mV 5)) (g:=gN 0) (t:=du) (m:=dv) (js:=[none,ar 1]) (ρ:=jc k n E [x4,ar (tupI z)]) (fun ρ=>∃x,ρ=[x,ar (aw n E)]) (fun _=>b_) rfl (by unfold lim;omega) ⟨none,rfl⟩ (fun x T ρ X=>by
  obtain⟨y,rfl⟩:=X;have h:=Z x T;refine⟨[ar (.int x),ar (aw n E)],rfl,⟨_,rfl⟩,rfl,fun _=>?_⟩;have:=wF (E:=E) (a:=x.toNat) (by omega)
  rw[show((x.toNat:Nat):Int)=x by omega]at this
  exact(cf (x:=.tup (E.map tupI)) (y:=.int x) rfl rfl).trans this) (by
  rw[bg];have:=bX (z.map fun x=>E.getD x.toNat []);rw[Ke]at this;exact this)
 rw[bg]at U;have R:bY cb (aL (aV (bK (mV 5)) (gN 0) du dv [none,ar 1])) (jc k n E [x4,ar (tupI z)])=aC (.tup ((nv E z).map tupI)):=by
  refine(cJ U).trans ((jZ (by rw[JV];unfold lim;omega)).trans ?_)
  unfold nv;rw[Ke];rfl
 have P:ie [aw E.length (bB E),tupI z]=aC (aw z.length (bB (nv E z))):=by
  rw[B7 (by omega) (fY W) Y Z (by omega),uQ w W Y Z]
 have O:bz [aw n (nv E z)]=aC (aw z.length (bB (nv E z))):=by
  rw[yf Q (F5 w Y Z) (by rw[sub_len];omega),sub_len]
 exact(cf (d8 ((call2 rfl rfl).trans P)) (d8 ((b8 (F7 (m:=n) rfl R)).trans O))).trans Ga
theorem uW(hs:eH S k)(Z:n<=14)(w:WebOk n E)(Y:E.length<=7):∃S1,jE (bW [.lst k,aw n E]) S=ar (.ok (.bl b_),S1)/\Kp k S S1/\S1.length=S.length:=by
 obtain⟨z,S1,W,U,hm,k1,X⟩:=Jo (n:=n) (x4:=ar (.fz ((dO n E).map tupI))) (x5:=none) hs Y;have e1:v7 2 3 (ae (aL (au bz (ae (mV 1) (av)))) (ae (aL (au bx (ae (mV 1) (av)))) (av))) [ar (.lst k),ar (aw n E),none,none,none,none] S=ar (.ok (.nx (jc k n E [none,none])),S):=
  FK (Kz (bb (d8 ((b8 rfl).trans (yf Z w Y))) (bb (d8 ((b8 rfl).trans (yd Z w))) (es:=av) rfl)) S)
 have hf:bW [.lst k,aw n E] S=ar (.ok (.bl b_),S1):=by
  refine ir (o:=.ret (.bl b_)) ?_ rfl;show gS [ar (.lst k),ar (aw n E),none,none,none,none] S=_;unfold gS;exact(bo e1).trans ((Kz (aJ (uU (Ji Z w Y))) S).trans ((Kz (aJ (uU (Jj Z w Y))) S).trans ((Kz (aJ (fS (Jk Z w))) S).trans ((Kz (aJ (fS (Jl Z))) S).trans ((Kz (aJ (uU (Jm Z w Y))) S).trans ((Kz (aJ (uU (Jn Z w Y))) S).trans ((bo (dN W)).trans (Kz (cc (Jp Z w Y U hm)) S1))))))))
 refine⟨S1,?_,k1,X⟩;unfold jE;rw[hf];dsimp only;rw[if_pos (Ls X)]
end
section
variable {S:aE}{k n:Nat}{E:List (List Int)}
theorem B9{e:TM}{ρ:aD}{S S1:aE}{b:Bool}(h:e ρ S=ar (.ok (.bl b),S1)):cZ (bV e) ρ S=ar (.ok (!b),S1):=by
 show(bV e ρ>>=_) S=_;rw[aQ (a:=b) (S1:=S1) (by show(e ρ>>=_) S=_;rw[aQ h];rfl)];rfl
theorem Jq{e:TM}{ρ:aD}(h:e ρ=aC (.tup (E.map tupI)))(Y:E.length<=100):aL (zU e oN (oS (mK (.int 7)))) ρ=aC (.tup ((E.take 7).map tupI)):=by
 refine d8 ?_;show(e ρ>>=fun x=>oN ρ>>=fun lo=>oS (mK (.int 7)) ρ>>=fun Z=>sv x lo Z)=_;rw[h,aj,show oN ρ=aC none from rfl,aj,show oS (mK (.int 7)) ρ=aC (ar ((7:Nat):Int))from rfl,aj];show bA (S3.cutD (E.map tupI) none (ar ((7:Nat):Int)))=_;rw[Hy, <-List.map_take];unfold bA;rw[if_pos (by rw[JV,KF];unfold lim;omega)]
end
theorem Gb{S:aE}{ns:List Int}{i:Nat}{o2 o3 o4 o5:Option D}:∃x2 x3 x4 x5 S1,jY [ar (.ro (ns.map D.int)),ar (.int i),o2,o3,o4,o5] S=ar (.ok (.nx [ar (.ro (ns.map D.int)),ar (.int i),x2,x3,x4,x5]),S1):=by
 obtain⟨_,_,N,xs,rfl,rfl,hs⟩:=Do (S:=S) (ns:=ns) (k:=i) (Q:=fun d v=>∃xs,d= .lst S.length/\v=S++[xs]/\eH (S++[xs]) S.length) fun xs h=>⟨xs,rfl,rfl,h⟩;generalize S++[xs]=T0 at N hs;generalize S.length=k at N hs;obtain⟨n,E0,T,e1,a,I,k1,j⟩:=FQ (g:=6) (by decide) hs
 have w:WebOk n (E0.take 7):=I.sub (List.take_sublist _ _);have Z:(E0.take 7).length<=7:=by rw[KF];omega
 have hf:=I.few;have e2:fD (ae (aZ cn (mV 3) (mK (.int 0))) (ae (aL (zU (aZ cn (mV 3) (mK (.int 1))) (oN) (oS (mK (.int 7))))) av)) [ar (.ro (ns.map D.int)),ar (.int i),ar (.lst k),ar (aw n E0),o4,o5]=aC (aw n (E0.take 7)):=F7 rfl (Jq rfl (by omega))
 generalize E0.take 7=E at w Z e2;obtain⟨zs,U,s,L,k2,A⟩:=uK (n:=n) (ρ:=[ar (.ro (ns.map D.int)),ar (.int i),ar (.lst k),ar (aw n E),o4,o5]) (e1:=mV 2) (e2:=aZ cn (mV 3) (mK (.int 0))) k1.st (by omega) rfl rfl
 have O:=wG L (tj w);have W:(cI (E.map (j6 zs))).length=E.length:=by rw[(bS _).length_eq,JV]
 have P:=F6 L w;have H:aL (au cU (ae (mV 3) (ae (aL (au bq (ae (mV 2) (ae (aL (bY cY (aZ cn (mV 3) (mK (.int 0))))) (av))))) (av)))) [ar (.ro (ns.map D.int)),ar (.int i),ar (.lst k),ar (aw n E),o4,o5] T=ar (.ok (aw n (cI (E.map (j6 zs)))),U):=by
  have u:au cU (ae (mV 3) (ae (aL (au bq (ae (mV 2) (ae (aL (bY cY (aZ cn (mV 3) (mK (.int 0))))) (av))))) (av))) [ar (.ro (ns.map D.int)),ar (.int i),ar (.lst k),ar (aw n E),o4,o5] T=ar (.ok (aw n (cI (E.map (j6 zs)))),U):=by
   show(ae _ _ _>>=cU) T=_;rw[aQ (d9 (x:=aw n E) rfl (d9 s (es:=av) rfl)),DA L (tj w)];rfl
  show jE (au _ _ _) T=_;unfold jE;rw[u];dsimp only;rw[if_pos (Ls A)]
 generalize cI (E.map (j6 zs))=E' at O W P H;obtain⟨K,B,k3,e⟩:=uW k2.st (by omega) w Z
 obtain⟨R,o,c,f⟩:=uW k3.st (by omega) O (by omega)
 obtain⟨r,G,Y⟩:=zF P DP;have J:=fY Z;have X:=fY (E:=E') (by omega)
 rw[W]at X;have t1:bz [aw n E]=aC (aw E.length (bB E)):=yf (by omega) w Z
 have t2:bz [aw n E']=aC (aw E.length (bB E')):=by rw[yf (by omega) O (by omega),W]
 have hm:ip [aw E.length (bB E),aw E.length (bB E')]=aC (tupI r):=by
  rw[BP Z J Z X,if_pos rfl,G];rfl
 have l:r.length=E.length:=by
  have h:(decide (E.length=E.length) && (decide ((r.map D.int).length=E.length) && ((r.map D.int).all (cz E.length) && match intsOf (r.map D.int)with|some z=>Gm (bB E) (bB E') z|none=>dV)))=true:=Y
  rw[Kn,Kn,Kk,Kk,JV]at h;exact h.2.1
 have q:d7 [aw E.length (bB E),aw E.length (bB E'),tupI r]=aC (.bl b_):=by
  have t:Th (tupI r):=.tup (by rw[JV];omega) fun x F=>by obtain⟨i,_,rfl⟩:=Kb.mp F;rfl
  rw[DJ Z J Z X t,Y]
 have C:qp (cZ (bV (aL (au bW (ae (mV 2) (ae (mV 3) (av))))))) (cZ (bV (aL (au bW (ae (mV 2) (ae (mV 4) (av))))))) [ar (.ro (ns.map D.int)),ar (.int i),ar (.lst k),ar (aw n E),ar (aw n E'),o5] U=ar (.ok dV,R):=by
  have a1:cZ (bV (aL (au bW (ae (mV 2) (ae (mV 3) (av)))))) [ar (.ro (ns.map D.int)),ar (.int i),ar (.lst k),ar (aw n E),ar (aw n E'),o5] U=ar (.ok dV,K):=B9 (b:=b_) (by
   show jE (au _ _ _) U=_;rw[call2 (x:=.lst k) (y:=aw n E) rfl rfl];exact B)
  have a2:cZ (bV (aL (au bW (ae (mV 2) (ae (mV 4) (av)))))) [ar (.ro (ns.map D.int)),ar (.int i),ar (.lst k),ar (aw n E),ar (aw n E'),o5] K=ar (.ok dV,R):=B9 (b:=b_) (by
   show jE (au _ _ _) K=_;rw[call2 (x:=.lst k) (y:=aw n E') rfl rfl];exact o)
  show(cZ _ _>>=_) U=_;rw[aQ a1,if_neg (by decide)]
  exact a2
 have m:aL (au ip (ae (aL (au bz (ae (mV 3) (av)))) (ae (aL (au bz (ae (mV 4) (av)))) (av)))) [ar (.ro (ns.map D.int)),ar (.int i),ar (.lst k),ar (aw n E),ar (aw n E'),o5]=aC (tupI r):=d8 ((call2 (d8 ((b8 rfl).trans t1)) (d8 ((b8 rfl).trans t2))).trans hm);have p:qp (ec (yH id) (mV 5) (mK .non)) (ec (yH (!·)) (aL (au d7 (ae (aL (au bz (ae (mV 3) (av)))) (ae (aL (au bz (ae (mV 4) (av)))) (ae (mV 5) (av)))))) (mK (.bl b_))) [ar (.ro (ns.map D.int)),ar (.int i),ar (.lst k),ar (aw n E),ar (aw n E'),ar (tupI r)]=aC false:=
  mr (b:=dV) (bO (x:=tupI r) (y:=.non) rfl rfl rfl) fun _=>bO (x:=.bl b_) (y:=.bl b_) (d8 ((qc (d8 ((b8 rfl).trans t1)) (d8 ((b8 rfl).trans t2)) rfl).trans q)) rfl rfl
 refine⟨ar (.lst k),ar (aw n E),ar (aw n E'),ar (tupI r),R,?_⟩;unfold jY;refine(bo (ρ':=[ar (.ro (ns.map D.int)),ar (.int i),ar (.lst k),o3,o4,o5]) (S1:=T0) (dN (x:=.lst k) ?_)).trans ((bo (ρ':=[ar (.ro (ns.map D.int)),ar (.int i),ar (.lst k),ar (aw n E0),o4,o5]) (S1:=T) (dN (x:=aw n E0) ?_)).trans ((Kz (aJ (fS e2)) T).trans ((bo (ρ':=[ar (.ro (ns.map D.int)),ar (.int i),ar (.lst k),ar (aw n E),ar (aw n E'),o5]) (dN H)).trans ((bo ((Bu C).trans (if_neg (by decide)))).trans ((Kz (aJ (fS m)) R).trans (Kz (uU p) R))))))
 ·rw[call2 (x:=.ro (ns.map D.int)) (y:=.int i) rfl rfl];exact N
 ·show jE (au _ _ _) T0=_;rw[call2 (x:=.lst k) (y:=.int 6) rfl rfl];exact e1
theorem uX{its:List D}{ns:List Int}:∀(ts:List Nat) (o1 o2 o3 o4 o5:Option D) (S:aE),∃x1 Y Z x4 x5 S1,gH ⟨its,.none⟩ (gN 1) jY (ts.map fun i:Nat=>.int (0+(i:Int))) [ar (.ro (ns.map D.int)),o1,o2,o3,o4,o5] S=ar (.ok (.nx [ar (.ro (ns.map D.int)),x1,Y,Z,x4,x5]),S1)
 |[],o1,o2,o3,o4,o5,S=>⟨o1,o2,o3,o4,o5,S,by rw[Mn,oK];rfl⟩
 |t::ts,o1,o2,o3,o4,o5,S=>by
  obtain⟨Y,Z,x4,x5,S1,h⟩:=Gb (S:=S) (ns:=ns) (i:=t) (o2:=o2) (o3:=o3) (o4:=o4) (o5:=o5);obtain⟨X,U,R,W,P,Q,T⟩:=uX (its:=its) (ns:=ns) ts (ar (.int t)) Y Z x4 x5 S1;refine⟨X,U,R,W,P,Q,?_⟩;rw[Kr,MM];exact(wx rfl h).trans T
theorem HG{S:aE}{ns:List Int}:runs (rA [.ro (ns.map D.int)]) S (fun d _=>d= .bl b_):=by
 have hm:au minD (ae (bY cX (mV 0)) (ae (mK (.int 6)) av)) [ar (.ro (ns.map D.int)),none,none,none,none,none]=aC (.int (if (6:Int)<(ns.map D.int).length then 6 else (ns.map D.int).length)):=(call2 (x:=.int (ns.map D.int).length) (y:=.int 6) rfl rfl).trans rfl;have Z:au maxD (ae (mK (.int 1)) (ae (au minD (ae (bY cX (mV 0)) (ae (mK (.int 6)) av))) av)) [ar (.ro (ns.map D.int)),none,none,none,none,none]=aC (.int (if (if (6:Int)<(ns.map D.int).length then (6:Int)else (ns.map D.int).length)>1 then (if (6:Int)<(ns.map D.int).length then 6 else (ns.map D.int).length)else 1)):=(call2 (x:=.int 1) rfl hm).trans rfl;generalize hn:(if (if (6:Int)<(ns.map D.int).length then (6:Int)else (ns.map D.int).length)>1 then (if (6:Int)<(ns.map D.int).length then (6:Int)else (ns.map D.int).length)else 1)=n at Z;have X:n<=6:=by rw[<-hn];split<;>split<;>omega
 have W:1<=n:=by rw[<-hn];split<;>split<;>omega
 have Y:=(sP Z).trans (Dm (by omega))
 obtain⟨U,R,T,x4,x5,S1,hf⟩:=uX (its:=bC 0 n.toNat) (ns:=ns) (d_ n.toNat) none none none none none S;refine⟨.bl b_,S1,ir (o:=.ret (.bl b_)) ?_ rfl,rfl⟩;unfold Bo;exact(bo (wy Y hf)).trans (Kz (cc (x:=.bl b_) rfl) S1)
def top(i:Nat):Stmt:=PySem.Challenge.pw_tiewebs_k05_whole_tie_webs.main.body.getD i (.Pass ⟨0,0,0,0⟩)
structure Txt(K:dt)(mg:Str->Option a_):Prop where
 err:pI K=b_
 dk:Jc K=b_
 b_all:mg "all"=none
 b_any:mg "any"=none
 b_bool:mg "bool"=none
 b_enumerate:mg "enumerate"=none
 b_int:mg "int"=none
 b_isinstance:mg "isinstance"=none
 b_len:mg "len"=none
 b_list:mg "list"=none
 b_max:mg "max"=none
 b_min:mg "min"=none
 b_range:mg "range"=none
 b_sorted:mg "sorted"=none
 b_sum:mg "sum"=none
 b_tuple:mg "tuple"=none
 b_zip:mg "zip"=none
 g_LEAST_CROWD:∃t,mg "LEAST_CROWD"=ar (.int 2 t)
 g_MOST_AT_A_PLACE:∃t,mg "MOST_AT_A_PLACE"=ar (.int 2 t)
 g_MOST_CROWDED:∃t,mg "MOST_CROWDED"=ar (.int 7 t)
 g_MOST_MAPPED:∃t,mg "MOST_MAPPED"=ar (.int 7 t)
 g_MOST_PLACES:∃t,mg "MOST_PLACES"=ar (.int 14 t)
 g_MOST_TIES:∃t,mg "MOST_TIES"=ar (.int 7 t)
theorem uY:FnScope ["thing"] ["thing"] (ai (top 8)):=⟨rfl,rfl,rfl,by decide+kernel,rfl,by decide+kernel,by decide+kernel⟩
theorem wW:FnScope ["thing"] ["thing"] (ai (top 9)):=⟨rfl,rfl,rfl,by decide+kernel,rfl,by decide+kernel,by decide+kernel⟩
theorem tq:FnScope ["things"] ["things"] (ai (top 12)):=⟨rfl,rfl,rfl,by decide+kernel,rfl,by decide+kernel,by decide+kernel⟩
theorem uZ:FnScope ["many"] ["many"] (ai (top 18)):=⟨rfl,rfl,rfl,by decide+kernel,rfl,by decide+kernel,by decide+kernel⟩
theorem u6:FnScope ["web","one","other"] ["web","one","other"] (ai (top 19)):=⟨rfl,rfl,rfl,by decide+kernel,rfl,by decide+kernel,by decide+kernel⟩
theorem tu:FnScope ["one","other"] ["one","other"] (ai (top 24)):=⟨rfl,rfl,rfl,by decide+kernel,rfl,by decide+kernel,by decide+kernel⟩
theorem ny:FnScope ["crowds","some"] ["crowds","some"] (ai (top 45)):=⟨rfl,rfl,rfl,by decide+kernel,rfl,by decide+kernel,by decide+kernel⟩
theorem oq:FnScope ["_law_script","_law_k"] ["_law_script","_law_k"] (ai (top 49)):=⟨rfl,rfl,rfl,by decide+kernel,rfl,by decide+kernel,by decide+kernel⟩
theorem gW:FnScope ["_law_state_here","_law_many","_law_found","_law_stirred"] ["_law_state_here","_law_many"] (ai (top 51)):=⟨rfl,rfl,rfl,by decide+kernel,rfl,by decide+kernel,by decide+kernel⟩
theorem iW:FnScope ["_law_many","_law_found","_law_a"] ["_law_many"] (ai (top 52)):=⟨rfl,rfl,rfl,by decide+kernel,rfl,by decide+kernel,by decide+kernel⟩
theorem qB:FnScope ["_law_web_here","_law_names"] ["_law_web_here","_law_names"] (ai (top 55)):=⟨rfl,rfl,rfl,by decide+kernel,rfl,by decide+kernel,by decide+kernel⟩
theorem u7:FnScope ["many","thing"] ["many","thing"] (ai (top 10)):=⟨rfl,rfl,rfl,by decide+kernel,rfl,by decide+kernel,by decide+kernel⟩
theorem Ca:FnScope ["web","some","place"] ["web","some","place"] (ai (top 33)):=⟨rfl,rfl,rfl,by decide+kernel,rfl,by decide+kernel,by decide+kernel⟩
theorem qi:FnScope ["one","other","start","place","at"] ["one","other","start","place"] (ai (top 39)):=⟨rfl,rfl,rfl,by decide+kernel,rfl,by decide+kernel,by decide+kernel⟩
theorem kD:FnScope ["_law_script","_law_k","_law_cell"] ["_law_script","_law_k"] (ai (top 50)):=⟨rfl,rfl,rfl,by decide+kernel,rfl,by decide+kernel,by decide+kernel⟩
theorem fK:FnScope ["_law_state_here","_law_things","_law_left","_law_found"] ["_law_state_here","_law_things"] (ai (top 53)):=⟨rfl,rfl,rfl,by decide+kernel,rfl,by decide+kernel,by decide+kernel⟩
theorem nz:FnScope ["many","thing","low","high"] ["many","thing"] (ai (top 11)):=⟨rfl,rfl,rfl,by decide+kernel,rfl,by decide+kernel,by decide+kernel⟩
theorem tw:FnScope ["many","thing"] ["many","thing"] (ai (top 13)):=⟨rfl,rfl,rfl,by decide+kernel,rfl,by decide+kernel,by decide+kernel⟩
theorem cW:FnScope ["_law_state_here","_law_most","_law_many","_law_way","_law_ties","_law_row","_law_at","_law_odd"] ["_law_state_here","_law_most"] (ai (top 54)):=⟨rfl,rfl,rfl,by decide+kernel,rfl,by decide+kernel,by decide+kernel⟩
theorem nA:FnScope ["thing","many","ties"] ["thing"] (ai (top 14)):=⟨rfl,rfl,rfl,by decide+kernel,rfl,by decide+kernel,by decide+kernel⟩
theorem qj:FnScope ["web","thing"] ["web","thing"] (ai (top 34)):=⟨rfl,rfl,rfl,by decide+kernel,rfl,by decide+kernel,by decide+kernel⟩
theorem u9:FnScope ["thing"] ["thing"] (ai (top 15)):=⟨rfl,rfl,rfl,by decide+kernel,rfl,by decide+kernel,by decide+kernel⟩
theorem qC:FnScope ["web","thing"] ["web","thing"] (ai (top 46)):=⟨rfl,rfl,rfl,by decide+kernel,rfl,by decide+kernel,by decide+kernel⟩
theorem qD:FnScope ["web","place"] ["web","place"] (ai (top 16)):=⟨rfl,rfl,rfl,by decide+kernel,rfl,by decide+kernel,by decide+kernel⟩
theorem kQ:FnScope ["web","most"] ["web","most"] (ai (top 17)):=⟨rfl,rfl,rfl,by decide+kernel,rfl,by decide+kernel,by decide+kernel⟩
theorem kR:FnScope ["web","many","ties"] ["web"] (ai (top 20)):=⟨rfl,rfl,rfl,by decide+kernel,rfl,by decide+kernel,by decide+kernel⟩
theorem kx:FnScope ["web","some","many","ties","kept"] ["web","some"] (ai (top 21)):=⟨rfl,rfl,rfl,by decide+kernel,rfl,by decide+kernel,by decide+kernel⟩
theorem nB:FnScope ["web"] ["web"] (ai (top 25)):=⟨rfl,rfl,rfl,by decide+kernel,rfl,by decide+kernel,by decide+kernel⟩
theorem kU:FnScope ["web","ties","many"] ["web"] (ai (top 26)):=⟨rfl,rfl,rfl,by decide+kernel,rfl,by decide+kernel,by decide+kernel⟩
theorem wX:FnScope ["web","place"] ["web","place"] (ai (top 27)):=⟨rfl,rfl,rfl,by decide+kernel,rfl,by decide+kernel,by decide+kernel⟩
theorem qE:FnScope ["web"] ["web"] (ai (top 28)):=⟨rfl,rfl,rfl,by decide+kernel,rfl,by decide+kernel,by decide+kernel⟩
theorem ot:FnScope ["web"] ["web"] (ai (top 32)):=⟨rfl,rfl,rfl,by decide+kernel,rfl,by decide+kernel,by decide+kernel⟩
theorem qk:FnScope ["one","other"] ["one","other"] (ai (top 38)):=⟨rfl,rfl,rfl,by decide+kernel,rfl,by decide+kernel,by decide+kernel⟩
theorem vc:FnScope ["web","thing"] ["web","thing"] (ai (top 35)):=⟨rfl,rfl,rfl,by decide+kernel,rfl,by decide+kernel,by decide+kernel⟩
theorem mB:FnScope ["one","other","thing","many"] ["one","other","thing"] (ai (top 40)):=⟨rfl,rfl,rfl,by decide+kernel,rfl,by decide+kernel,by decide+kernel⟩
theorem iX:FnScope ["web","thing","many","ties"] ["web","thing"] (ai (top 47)):=⟨rfl,rfl,rfl,by decide+kernel,rfl,by decide+kernel,by decide+kernel⟩
theorem dJ:FnScope ["_law_state_here","_law_web_here","_law_later","_law_counts","_law_stars","_law_some"] ["_law_state_here","_law_web_here"] (ai (top 56)):=⟨rfl,rfl,rfl,by decide+kernel,rfl,by decide+kernel,by decide+kernel⟩
theorem dW:FnScope ["one","other","start","many","place","found"] ["one","other","start"] (ai (top 41)):=⟨rfl,rfl,rfl,by decide+kernel,rfl,by decide+kernel,by decide+kernel⟩
theorem zI:FnScope ["one","other"] ["one","other"] (ai (top 42)):=⟨rfl,rfl,rfl,by decide+kernel,rfl,by decide+kernel,by decide+kernel⟩
theorem kX:FnScope ["_law_script","_law_k","_law_state_here","_law_web_here","_law_other","_law_places"] ["_law_script"] (ai (top 57)):=⟨rfl,rfl,rfl,by decide+kernel,rfl,by decide+kernel,by decide+kernel⟩
section
variable {P:ed}{w:ee}{K:dt}{mg:Str->Option a_}{base:f_}
theorem vd{f:b'}{Y:eM}(F:Fun K "is_whole" "is_whole" (top 8) f Y)(U:mg "is_whole"=ar (.ref f))(T:Txt K mg):DefX P w K mg base 1 "is_whole" ["thing"] cG:=
 bN (m:=pO) F U (F.binds fun _ _ _ _ _ _ us Z=>match us,Z with|[_],_=>rfl) uY rfl fun X A outer s H E S=>
  aF (aU (iQ (kI (Ts:="int") T.b_isinstance T.b_int (aa 0)) (kG (EZ (kI (Ts:="bool") T.b_isinstance T.b_bool (aa 0))))))
end
section
variable {P:ed}{w:ee}{K:dt}{mg:Str->Option a_}{base:f_}
theorem wY{f:b'}{X:eM}(F:Fun K "is_pair" "is_pair" (top 9) f X)(S:mg "is_pair"=ar (.ref f))(T:Txt K mg):DefX P w K mg base 1 "is_pair" ["thing"] dm:=
 bN (m:=rp) F S (F.binds fun _ _ _ _ _ _ us Y=>match us,Y with|[_],_=>rfl) wW rfl fun U A outer s H E Z=>
  aF (aU (iQ (kI (Ts:="tuple") T.b_isinstance T.b_tuple (aa 0)) (kG (xv (fL Z) (d4 T.b_len (aa 0)) (aA)))))
end
section
variable {P:ed}{w:ee}{K:dt}{mg:Str->Option a_}{base:f_}
theorem tx{f:b'}{U:eM}(F:Fun K "is_rising" "is_rising" (top 12) f U)(Y:mg "is_rising"=ar (.ref f))(T:Txt K mg):DefX P w K mg base 1 "is_rising" ["things"] bM:=
 bN (m:=nU) F Y (F.binds fun _ _ _ _ _ _ us X=>match us,X with|[_],_=>rfl) tq rfl fun S A outer s H E Z=>
  aF (aU (gk rfl T.b_all (ay (bt (t:=hV) (m:=hX) (eG (Nc:=["ahead","behind"]) (js:=[none,none]) (ai (top 12)) ["things"] (fun _=>rfl) rfl (by decide+kernel)) rfl (De T.b_zip (aa 0) (ay (lI (aa 0) (oF (aA)) (oE)))) (fun C ex s2 R=>⟨fg rfl (ba (aH 0 (show(["ahead","behind"]:List Str).Nodup by decide+kernel)) (ba (aH 1 (show(["ahead","behind"]:List Str).Nodup by decide+kernel)) (dC))),bR,DZ (Gh Z) (aa 0) (aa 1)⟩)))))
end
section
variable {P:ed}{w:ee}{K:dt}{mg:Str->Option a_}{base:f_}
theorem vf{f:b'}{X:eM}(F:Fun K "pairs_of" "pairs_of" (top 18) f X)(Z:mg "pairs_of"=ar (.ref f))(T:Txt K mg):DefX P w K mg base 1 "pairs_of" ["many"] dF:=
 bN (m:=pP) F Z (F.binds fun _ _ _ _ _ _ us Y=>match us,Y with|[_],_=>rfl) uZ rfl fun U A outer s H E S=>
  aF (aU (ay (A9 (t:=eN) (t2:=c0) (m:=cg) (eG (Nc:=["low","high","many"]) (js:=[none,none,ar 0]) (ai (top 18)) ["many"] (fun _=>rfl) rfl (by decide+kernel)) rfl (eg T.b_range (aa 0)) (fun C ex s2 R=>⟨aH 0 (show(["low","high","many"]:List Str).Nodup by decide+kernel),bR,mU T.b_range (jQ (aa 0) (aA)) (aa 2),aH 1 (show(["low","high","many"]:List Str).Nodup by decide+kernel),bR,eF (af (aa 0) (af (aa 1) (aq) ag) ag)⟩))))
end
section
variable {P:ed}{w:ee}{K:dt}{mg:Str->Option a_}{base:f_}
theorem vg{f:b'}{X:eM}(F:Fun K "are_tied" "are_tied" (top 19) f X)(S:mg "are_tied"=ar (.ref f))(T:Txt K mg):DefX P w K mg base 1 "are_tied" ["web","one","other"] c8:=
 bN (m:=pQ) F S (F.binds fun _ _ _ _ _ _ us Y=>match us,Y with|[_,_,_],_=>rfl) u6 rfl fun U A outer s H E Z=>
  aF (aU (t6 (fL Z) (eF (af (AD rfl T.b_min (af (aa 1) (af (aa 2) (aq) ag) ag)) (af (vN rfl T.b_max (af (aa 1) (af (aa 2) (aq) ag) ag)) (aq) bT) bT)) (aO (aa 0) (aA))))
end
section
variable {P:ed}{w:ee}{K:dt}{mg:Str->Option a_}{base:f_}
theorem tD{f:b'}{U:eM}(F:Fun K "ties_meet" "ties_meet" (top 24) f U)(Y:mg "ties_meet"=ar (.ref f))(T:Txt K mg):DefX P w K mg base 1 "ties_meet" ["one","other"] gc:=
 bN (m:=nV) F Y (F.binds fun _ _ _ _ _ _ us X=>match us,X with|[_,_],_=>rfl) tu rfl fun S A outer s H E Z=>
  aF (aU (Ft rfl T.b_any (ay (bt (t:=hZ) (m:=ia) (eG (Nc:=["place","other"]) (js:=[none,ar 1]) (ai (top 24)) ["one","other"] (fun _=>rfl) rfl (by decide+kernel)) rfl (cL (aa 0)) (fun C ex s2 R=>⟨aH 0 (show(["place","other"]:List Str).Nodup by decide+kernel),bR,t6 (fL Z) (aa 0) (aa 1)⟩)))))
end
section
variable {P:ed}{w:ee}{K:dt}{mg:Str->Option a_}{base:f_}
theorem nD{f:b'}{U:eM}(F:Fun K "how_many_have" "how_many_have" (top 45) f U)(Y:mg "how_many_have"=ar (.ref f))(T:Txt K mg):DefX P w K mg base 1 "how_many_have" ["crowds","some"] cM:=
 bN (m:=jB) F Y (F.binds fun _ _ _ _ _ _ us X=>match us,X with|[_,_],_=>rfl) ny rfl fun S A outer s H E Z=>
  aF (aU (d4 T.b_len (ay (bt (t:=fq) (m:=ft) (eG (Nc:=["crowd","some"]) (js:=[none,ar 1]) (ai (top 45)) ["crowds","some"] (fun _=>rfl) rfl (by decide+kernel)) rfl (cL (aa 0)) (fun C ex s2 R=>⟨aH 0 (show(["crowd","some"]:List Str).Nodup by decide+kernel),fB (dM (gk rfl T.b_all (ay (bt (t:=fi) (m:=fj) (eG (Nc:=["place","crowd"]) (js:=[none,ar 0]) _ ["crowd","some"] (fun _=>rfl) rfl rfl) rfl (cL (aa 1)) (fun C ex s2 R=>⟨aH 0 (show(["place","crowd"]:List Str).Nodup by decide+kernel),bR,t6 (fL Z) (aa 0) (aa 1)⟩))))),aa 0⟩)))))
end
section
variable {P:ed}{w:ee}{K:dt}{mg:Str->Option a_}{base:f_}
theorem ou{f:b'}{X:eM}(F:Fun K "_law_cell_at" "_law_cell_at" (top 49) f X)(S:mg "_law_cell_at"=ar (.ref f))(T:Txt K mg):DefX P w K mg base 1 "_law_cell_at" ["_law_script","_law_k"] dq:=
 bN (m:=jV) F S (F.binds fun _ _ _ _ _ _ us Y=>match us,Y with|[_,_],_=>rfl) oq rfl fun U A outer s H E Z=>
  az (cR (Av (Gh Z) (aa 1) (d4 T.b_len (aa 0))) (aF (aU (aO (aa 0) (aa 1)))) (bQ)) (aF (aU (aA)))
end
section
variable {P:ed}{w:ee}{K:dt}{mg:Str->Option a_}{base:f_}
theorem tE{f:b'}{Y:eM}(F:Fun K "_law_take" "_law_take" (top 51) f Y)(U:mg "_law_take"=ar (.ref f))(T:Txt K mg):DefX P w K mg base 1 "_law_take" ["_law_state_here","_law_many"] aY:=
 bN (m:=nW) F U (F.binds fun _ _ _ _ _ _ us Z=>match us,Z with|[_,_],_=>rfl) gW rfl fun X A outer s H E S=>
  az (cR (dM (aO (aa 0) (aA))) (az (b9 2 gW.nd (kH (aO (aa 0) (aA)) (aa 1)) (hs:=pK)) (az (jL (oA (aO (aa 0) (aA)) (aa 1)) (xA (aa 0) (aA))) (aF (aU (aa 2))))) (bQ)) (az (jL (kH (jQ (mQ (aO (aa 0) (aA)) (aA)) (aA)) (aA)) (xA (aa 0) (aA))) (az (b9 3 gW.nd (kH (jQ (jQ (mQ (aO (aa 0) (aA)) (aO (aa 0) (aA))) (mQ (aA) (aO (aa 0) (aA)))) (aA)) (aA)) (hs:=pK)) (az (b9 3 gW.nd (kH (jQ (mQ (aa 3) (aa 3)) (mQ (aA) (aa 3))) (aA)) (hs:=pK)) (aF (aU (kH (oA (aa 3) (aA)) (aa 1)))))))
end
section
variable {P:ed}{w:ee}{K:dt}{mg:Str->Option a_}{base:f_}
theorem qF{f:b'}{X:eM}(F:Fun K "_law_pairs" "_law_pairs" (top 52) f X)(Z:mg "_law_pairs"=ar (.ref f))(T:Txt K mg):DefX P w K mg base 1 "_law_pairs" ["_law_many"] bh:=
 bN (m:=lR) F Z (F.binds fun _ _ _ _ _ _ us Y=>match us,Y with|[_],_=>rfl) iW rfl fun U A outer s H E S=>
  az (b9 1 iW.nd (fN (aq)) (hs:=sI)) (az (sr (b:=gn) Me rfl (eg T.b_range (aa 0)) (aH 2 iW.nd) (aF (cq (yM (aa 1) (ay (bt (t:=eR) (m:=eS) (eG (Nc:=["_law_b","_law_a"]) (js:=[none,ar 2]) (ai (top 52)) ["_law_many","_law_found","_law_a"] (fun _=>rfl) rfl (by decide+kernel)) rfl (mU T.b_range (jQ (aa 2) (aA)) (aa 0)) (fun C ex s2 R=>⟨aH 0 (show(["_law_b","_law_a"]:List Str).Nodup by decide+kernel),bR,eF (af (aa 1) (af (aa 0) (aq) ag) ag)⟩))))))) (aF (aU (aa 1))))
end
section
variable {P:ed}{w:ee}{K:dt}{mg:Str->Option a_}{base:f_}
theorem qG{f:b'}{X:eM}(F:Fun K "_law_named" "_law_named" (top 55) f X)(Z:mg "_law_named"=ar (.ref f))(T:Txt K mg):DefX P w K mg base 1 "_law_named" ["_law_web_here","_law_names"] cU:=
 bN (m:=lS) F Z (F.binds fun _ _ _ _ _ _ us Y=>match us,Y with|[_,_],_=>rfl) qB rfl fun U A outer s H E S=>
  aF (aU (eF (af (aO (aa 0) (aA)) (af (eJ T.b_tuple (ay (fv T.b_sorted (ay (bt (t:=gp) (m:=gq) (eG (Nc:=["_law_a","_law_b","_law_names"]) (js:=[none,none,ar 1]) (ai (top 55)) ["_law_web_here","_law_names"] (fun _=>rfl) rfl (by decide+kernel)) rfl (cL (aO (aa 0) (aA))) (fun C ex s2 R=>⟨fg rfl (ba (aH 0 (show(["_law_a","_law_b","_law_names"]:List Str).Nodup by decide+kernel)) (ba (aH 1 (show(["_law_a","_law_b","_law_names"]:List Str).Nodup by decide+kernel)) (dC))),bR,eJ T.b_tuple (ay (fv T.b_sorted (ay (fN (af (aO (aa 2) (aa 0)) (af (aO (aa 2) (aa 1)) (aq) aX) aX)))))⟩)))))) (aq) bT) aX)))
end
section
variable {P:ed}{w:ee}{K:dt}{mg:Str->Option a_}{base:f_}
theorem vh{f:b'}{U:eM}(F:Fun K "is_place" "is_place" (top 10) f U)(R:mg "is_place"=ar (.ref f))(T:Txt K mg)(Z:DefX P w K mg base 1 "is_whole" ["thing"] cG):DefX P w K mg base 2 "is_place" ["many","thing"] bU:=
 bN (m:=pR) F R (F.binds fun _ _ _ _ _ _ us X=>match us,X with|[_,_],_=>rfl) u7 rfl fun S A outer s H E Y=>
  aF (aU (iQ (aB Z (Y.mono (by decide)) (af (aa 1) (aq) ag)) (kG (Aw xf (z8.or (vC (Gh Y))) (jg fun _ _ _ _=>.bl _) vK (aA) (aa 1) (aa 0)))))
end
section
variable {P:ed}{w:ee}{K:dt}{mg:Str->Option a_}{base:f_}
theorem Cb{f:b'}{S:eM}(F:Fun K "joins" "joins" (top 33) f S)(X:mg "joins"=ar (.ref f))(T:Txt K mg)(Z:DefX P w K mg base 1 "are_tied" ["web","one","other"] c8):DefX P w K mg base 2 "joins" ["web","some","place"] lU:=
 bN (m:=xK) F X (F.binds fun _ _ _ _ _ _ us U=>match us,U with|[_,_,_],_=>rfl) Ca rfl fun R A outer s H E Y=>
  aF (aU (gk rfl T.b_all (ay (bt (t:=kM) (m:=kN) (eG (Nc:=["other","web","place"]) (js:=[none,ar 0,ar 2]) (ai (top 33)) ["web","some","place"] (fun _=>rfl) rfl (by decide+kernel)) rfl (cL (aa 1)) (fun C ex s2 Q=>⟨aH 0 (show(["other","web","place"]:List Str).Nodup by decide+kernel),bR,ay (aB Z (Y.mono (by decide)) (af (aa 1) (af (aa 0) (af (aa 2) (aq) ag) ag) ag))⟩)))))
end
section
variable {P:ed}{w:ee}{K:dt}{mg:Str->Option a_}{base:f_}
theorem wZ{f:b'}{S:eM}(F:Fun K "goes_on" "goes_on" (top 39) f S)(X:mg "goes_on"=ar (.ref f))(T:Txt K mg)(Z:DefX P w K mg base 1 "are_tied" ["web","one","other"] c8):DefX P w K mg base 2 "goes_on" ["one","other","start","place"] cN:=
 bN (m:=m4) F X (F.binds fun _ _ _ _ _ _ us U=>match us,U with|[_,_,_,_],_=>rfl) qi rfl fun R A outer s H E Y=>
  az (b9 4 qi.nd (d4 T.b_len (aa 2)) (hs:=dR)) (az (cR (t7 (fL Y) (aa 3) (aa 2)) (aF (aU (dQ))) (bQ)) (aF (aU (gk rfl T.b_all (ay (bt (t:=jm) (m:=jo) (eG (Nc:=["ahead","one","at","other","start","place"]) (js:=[none,ar 0,ar 4,ar 1,ar 2,ar 3]) (ai (top 39)) ["one","other","start","place","at"] (fun _=>rfl) rfl (by decide+kernel)) rfl (eg T.b_range (aa 4)) (fun C ex s2 Q=>⟨aH 0 (show(["ahead","one","at","other","start","place"]:List Str).Nodup by decide+kernel),bR,xv (fL Y) (ay (aB Z (Y.mono (by decide)) (af (aa 1) (af (aa 0) (af (aa 2) (aq) ag) ag) ag))) (ay (aB Z (Y.mono (by decide)) (af (aa 3) (af (aO (aa 4) (aa 0)) (af (aa 5) (aq) ag) aX) ag)))⟩)))))))
end
section
variable {P:ed}{w:ee}{K:dt}{mg:Str->Option a_}{base:f_}
theorem qH{f:b'}{U:eM}(F:Fun K "_law_state" "_law_state" (top 50) f U)(R:mg "_law_state"=ar (.ref f))(T:Txt K mg)(Z:DefX P w K mg base 1 "_law_cell_at" ["_law_script","_law_k"] dq):DefX P w K mg base 2 "_law_state" ["_law_script","_law_k"] fF:=
 bN (m:=lV) F R (F.binds fun _ _ _ _ _ _ us X=>match us,X with|[_,_],_=>rfl) kD rfl fun S A outer s H E Y=>
  az (b9 2 kD.nd (aB Z (Y.mono (by decide)) (af (aa 0) (af (aa 1) (aq) ag) ag)) (hs:=dR)) (az (cR (G8 (aa 2) (As (aA) (aA))) (aF (aU (fN (af (jP (aa 2) (As (aA) (aA))) (af (dQ) (aq) aP) g9)))) (bQ)) (aF (aU (fN (af (kH (aa 2) (aA)) (af (dQ) (aq) aP) g9)))))
end
section
variable {P:ed}{w:ee}{K:dt}{mg:Str->Option a_}{base:f_}
theorem mC{f:b'}{U:eM}(F:Fun K "_law_mixed_row" "_law_mixed_row" (top 53) f U)(R:mg "_law_mixed_row"=ar (.ref f))(T:Txt K mg)(Z:DefX P w K mg base 1 "_law_take" ["_law_state_here","_law_many"] aY):DefX P w K mg base 2 "_law_mixed_row" ["_law_state_here","_law_things"] bq:=
 bN (m:=eh) F R (F.binds fun _ _ _ _ _ _ us X=>match us,X with|[_,_],_=>rfl) fK rfl fun S A outer s H E Y=>
  az (b9 2 fK.nd (CY T.b_list (aa 1)) (hs:=dR)) (az (b9 3 fK.nd (fN (aq)) (hs:=sI)) (az (Aq (b:=cy) 64 Me (lH (fL Y) (aa 2) (ay (fN (aq)))) (aF (cq (mS (aa 3) (AI (aa 2) (ay (aB Z (Y.mono (by decide)) (af (aa 0) (af (d4 T.b_len (aa 2)) (aq) bT) ag)))))))) (aF (aU (aa 3)))))
end
section
variable {P:ed}{w:ee}{K:dt}{mg:Str->Option a_}{base:f_}
theorem zJ{f:b'}{S:eM}(F:Fun K "is_tie" "is_tie" (top 11) f S)(Q:mg "is_tie"=ar (.ref f))(T:Txt K mg)(Y:DefX P w K mg base 1 "is_pair" ["thing"] dm)(Z:DefX P w K mg base 2 "is_place" ["many","thing"] bU):DefX P w K mg base 3 "is_tie" ["many","thing"] jW:=
 bN (m:=pS) F Q (F.binds fun _ _ _ _ _ _ us U=>match us,U with|[_,_],_=>rfl) nz rfl fun R A outer s H E X=>
  az (cR (fe (dM (aB Y (X.mono (by decide)) (af (aa 1) (aq) ag)))) (aF (aU (dQ))) (bQ)) (az (jL (aa 1) (fg rfl (ba (aH 2 nz.nd) (ba (aH 3 nz.nd) (dC))))) (aF (aU (iQ (aB Z (X.mono (by decide)) (af (aa 0) (af (aa 2) (aq) ag) ag)) (iQ (aB Z (X.mono (by decide)) (af (aa 0) (af (aa 3) (aq) ag) ag)) (kG (DZ (Gh X) (aa 2) (aa 3))))))))
end
section
variable {P:ed}{w:ee}{K:dt}{mg:Str->Option a_}{base:f_}
theorem tF{f:b'}{R:eM}(F:Fun K "is_places" "is_places" (top 13) f R)(U:mg "is_places"=ar (.ref f))(T:Txt K mg)(Y:DefX P w K mg base 2 "is_place" ["many","thing"] bU)(Z:DefX P w K mg base 1 "is_rising" ["things"] bM):DefX P w K mg base 3 "is_places" ["many","thing"] cV:=
 bN (m:=nX) F U (F.binds fun _ _ _ _ _ _ us S=>match us,S with|[_,_],_=>rfl) tw rfl fun Q A outer s H E X=>
  aF (aU (iQ (kI (Ts:="tuple") T.b_isinstance T.b_tuple (aa 1)) (iQ (gk rfl T.b_all (ay (bt (t:=ib) (m:=ic) (eG (Nc:=["place","many"]) (js:=[none,ar 0]) (ai (top 13)) ["many","thing"] (fun _=>rfl) rfl (by decide+kernel)) rfl (cL (aa 1)) (fun C ex s2 O=>⟨aH 0 (show(["place","many"]:List Str).Nodup by decide+kernel),bR,ay (aB Y (X.mono (by decide)) (af (aa 1) (af (aa 0) (aq) ag) ag))⟩)))) (kG (ay (aB Z (X.mono (by decide)) (af (aa 1) (aq) ag)))))))
end
section
variable {P:ed}{w:ee}{K:dt}{mg:Str->Option a_}{base:f_}
theorem vi{f:b'}{O:eM}(F:Fun K "_law_web" "_law_web" (top 54) f O)(R:mg "_law_web"=ar (.ref f))(T:Txt K mg)(Z:DefX P w K mg base 1 "_law_take" ["_law_state_here","_law_many"] aY)(Y:DefX P w K mg base 1 "_law_pairs" ["_law_many"] bh)(X:DefX P w K mg base 2 "_law_mixed_row" ["_law_state_here","_law_things"] bq):DefX P w K mg base 3 "_law_web" ["_law_state_here","_law_most"] fP:=
 bN (m:=jq) F R (F.binds fun _ _ _ _ _ _ us Q=>match us,Q with|[_,_],_=>rfl) cW rfl fun N A outer s H E U=>
  az (b9 2 cW.nd (vN rfl T.b_max (af (aA) (af (jP (aa 1) (aO (ay (fN (by (refine bL (aA) ?_ aP;refine bL (aA) ?_ aP;refine bL (aA) ?_ aP;refine bL (aA) ?_ aP;refine bL (aA) ?_ aP;refine bL (aA) ?_ aP;refine bL (aA) ?_ aP;refine bL (aa 1) ?_ ag;exact aq)))) (ay (aB Z (U.mono (by decide)) (af (aa 0) (af (aA) (aq) aP) ag))))) (aq) g9) aP)) (hs:=dR)) (az (b9 3 cW.nd (ay (aB Z (U.mono (by decide)) (af (aa 0) (af (aA) (aq) aP) ag))) (hs:=dR)) (az (b9 4 cW.nd (bt (t:=iU) (m:=iV) (eG (Nc:=["_law_tie","_law_state_here","_law_way"]) (js:=[none,ar 0,ar 3]) (ai (top 54)) ["_law_state_here","_law_most","_law_many","_law_way","_law_ties","_law_row","_law_at","_law_odd"] (fun _=>rfl) rfl (by decide+kernel)) rfl (cL (ay (aB Y (U.mono (by decide)) (af (aa 2) (aq) ag)))) (fun C ex s2 S=>⟨aH 0 (show(["_law_tie","_law_state_here","_law_way"]:List Str).Nodup by decide+kernel),fB (Av (Gh U) (ay (aB Z (U.mono (by decide)) (af (aa 1) (af (aA) (aq) aP) ag))) (aO (ay (fN (af (aA) (af (aA) (af (aA) (aq) aP) aP) aP))) (kH (aa 2) (aA)))),aa 0⟩))) (az (b9 5 cW.nd (ay (aB X (U.mono (by decide)) (af (aa 0) (af (ay (lL rfl T.b_list T.b_range (aa 2))) (aq) bT) ag))) (hs:=dR)) (az (cR (rg (aa 3) (aA)) (az (b9 4 cW.nd (fN (aq)) (hs:=sI)) (az (sr (b:=fV) Me rfl (mU T.b_range (aA) (aa 2)) (aH 6 cW.nd) (aF (cq (mS (aa 4) (eJ T.b_tuple (ay (fv T.b_sorted (ay (fN (af (aO (aa 5) (aa 6)) (af (aO (aa 5) (aO (ay (fN (by (refine bL (jP (aa 6) (aA)) ?_ g9;refine bL (jP (aa 6) (aA)) ?_ g9;refine bL (aA) ?_ aP;refine bL (oA (aa 6) (aA)) ?_ g9;exact aq)))) (jP (aa 3) (aA)))) (aq) aX) aX)))))))))) (az (cR (tX (Ap (Az (fL U) (aa 3) (aA)) (xt (rg (aa 2) (aA))))) (aF (cq (mS (aa 4) (eJ T.b_tuple (ay (fv T.b_sorted (ay (fN (af (aO (aa 5) (aA)) (af (aO (aa 5) (jP (aa 2) (aA))) (aq) aX) aX))))))))) (bQ)) (az (b9 7 cW.nd (ay (bt (t:=eO) (m:=eP) (eG (Nc:=["_law_tie","_law_state_here"]) (js:=[none,ar 0]) (ai (top 54)) ["_law_state_here","_law_most","_law_many","_law_way","_law_ties","_law_row","_law_at","_law_odd"] (fun _=>rfl) rfl (by decide+kernel)) rfl (cL (ay (aB Y (U.mono (by decide)) (af (aa 2) (aq) ag)))) (fun C ex s2 S=>⟨aH 0 (show(["_law_tie","_law_state_here"]:List Str).Nodup by decide+kernel),fB (Az (fL U) (ay (aB Z (U.mono (by decide)) (af (aa 1) (af (aA) (aq) aP) ag))) (aA)),aa 0⟩)))) (aF (b9 4 cW.nd (bt (t:=fW) (m:=fX) (eG (Nc:=["_law_tie","_law_ties","_law_odd"]) (js:=[none,ar 4,ar 7]) (ai (top 54)) ["_law_state_here","_law_most","_law_many","_law_way","_law_ties","_law_row","_law_at","_law_odd"] (fun _=>rfl) rfl (by decide+kernel)) rfl (cL (ay (aB Y (U.mono (by decide)) (af (aa 2) (aq) ag)))) (fun C ex s2 S=>⟨aH 0 (show(["_law_tie","_law_ties","_law_odd"]:List Str).Nodup by decide+kernel),fB (lH (fL U) (t6 (fL U) (aa 0) (aa 1)) (t6 (fL U) (aa 0) (aa 2))),aa 0⟩)))))))) (bQ)) (aF (aU (eF (af (aa 2) (af (eJ T.b_tuple (ay (fv T.b_sorted (aa 4)))) (aq) bT) ag))))))))
end
section
variable {P:ed}{w:ee}{K:dt}{mg:Str->Option a_}{base:f_}
theorem zK{f:b'}{O:eM}(F:Fun K "is_web" "is_web" (top 14) f O)(R:mg "is_web"=ar (.ref f))(T:Txt K mg)(Y:DefX P w K mg base 1 "is_whole" ["thing"] cG)(X:DefX P w K mg base 1 "is_pair" ["thing"] dm)(U:DefX P w K mg base 3 "is_tie" ["many","thing"] jW)(Z:DefX P w K mg base 1 "is_rising" ["things"] bM):DefX P w K mg base 4 "is_web" ["thing"] d6:=
 bN (m:=pT) F R (F.binds fun _ _ _ _ _ _ us Q=>match us,Q with|[_],_=>rfl) nA rfl fun N A outer s H E S=>
  az (cR (fe (dM (ay (aB X (S.mono (by decide)) (af (aa 0) (aq) ag))))) (aF (aU (dQ))) (bQ)) (az (jL (aa 0) (fg rfl (ba (aH 1 nA.nd) (ba (aH 2 nA.nd) (dC))))) (az (cR (tX (lE (fe (dM (ay (aB Y (S.mono (by decide)) (af (aa 1) (aq) ag))))) (lE (fe (Ax xf xf (jg fun _ _ _ _=>.bl _) (jg fun _ _ _ _=>.bl _) (aA) (aa 1) (f7 rfl T.g_MOST_PLACES))) (mP (fe (dM (kI (Ts:="tuple") T.b_isinstance T.b_tuple (aa 2)))))))) (aF (aU (dQ))) (bQ)) (aF (aU (iQ (gk rfl T.b_all (ay (bt (t:=iH) (m:=iI) (eG (Nc:=["tie","many"]) (js:=[none,ar 1]) (ai (top 14)) ["thing","many","ties"] (fun _=>rfl) rfl (by decide+kernel)) rfl (cL (aa 2)) (fun C ex s2 L=>⟨aH 0 (show(["tie","many"]:List Str).Nodup by decide+kernel),bR,ay (aB U (S.mono (by decide)) (af (aa 1) (af (aa 0) (aq) ag) ag))⟩)))) (kG (ay (aB Z (S.mono (by decide)) (af (aa 2) (aq) ag)))))))))
end
section
variable {P:ed}{w:ee}{K:dt}{mg:Str->Option a_}{base:f_}
theorem qm{f:b'}{R:eM}(F:Fun K "crowd_holds" "crowd_holds" (top 34) f R)(U:mg "crowd_holds"=ar (.ref f))(T:Txt K mg)(Z:DefX P w K mg base 3 "is_places" ["many","thing"] cV)(Y:DefX P w K mg base 2 "joins" ["web","some","place"] lU):DefX P w K mg base 4 "crowd_holds" ["web","thing"] c9:=
 bN (m:=kA) F U (F.binds fun _ _ _ _ _ _ us S=>match us,S with|[_,_],_=>rfl) qj rfl fun Q A outer s H E X=>
  az (cR (tX (lE (fe (dM (ay (aB Z (X.mono (by decide)) (af (aO (aa 0) (aA)) (af (aa 1) (aq) ag) aX))))) (mP (Av (Gh X) (d4 T.b_len (aa 1)) (f7 rfl T.g_LEAST_CROWD))))) (aF (aU (dQ))) (bQ)) (aF (aU (gk rfl T.b_all (ay (bt (t:=fQ) (m:=fR) (eG (Nc:=["at","place","web","thing"]) (js:=[none,none,ar 0,ar 1]) (ai (top 34)) ["web","thing"] (fun _=>rfl) rfl (by decide+kernel)) rfl (sL T.b_enumerate (aa 1)) (fun C ex s2 O=>⟨fg rfl (ba (aH 0 (show(["at","place","web","thing"]:List Str).Nodup by decide+kernel)) (ba (aH 1 (show(["at","place","web","thing"]:List Str).Nodup by decide+kernel)) (dC))),bR,ay (aB Y (X.mono (by decide)) (af (aa 2) (af (ay (lI (aa 3) (oE) (oF (aa 0)))) (af (aa 1) (aq) ag) aX) ag))⟩))))))
end
section
variable {P:ed}{w:ee}{K:dt}{mg:Str->Option a_}{base:f_}
theorem vj{f:b'}{U:eM}(F:Fun K "need_web" "need_web" (top 15) f U)(R:mg "need_web"=ar (.ref f))(T:Txt K mg)(Z:DefX P w K mg base 4 "is_web" ["thing"] d6):DefX P w K mg base 5 "need_web" ["thing"] bc:=
 dD (m:=pU) F R (F.binds fun _ _ _ _ _ _ us X=>match us,X with|[_],_=>rfl) u9 rfl fun S A outer s H E Y=>
  aF (cR (fe (dM (ay (bj Z (Y.mono (by decide)) aK.pass (af (aa 0) (aq) ag))))) (aF (pJ aK rfl T.err (by decide) (by decide) (af (pq) (aq) aP))) (bQ))
end
section
variable {P:ed}{w:ee}{K:dt}{mg:Str->Option a_}{base:f_}
theorem qJ{f:b'}{R:eM}(F:Fun K "are_crowds" "are_crowds" (top 46) f R)(U:mg "are_crowds"=ar (.ref f))(T:Txt K mg)(Y:DefX P w K mg base 1 "is_rising" ["things"] bM)(Z:DefX P w K mg base 4 "crowd_holds" ["web","thing"] c9):DefX P w K mg base 5 "are_crowds" ["web","thing"] eo:=
 bN (m:=lW) F U (F.binds fun _ _ _ _ _ _ us S=>match us,S with|[_,_],_=>rfl) qC rfl fun Q A outer s H E X=>
  aF (aU (iQ (kI (Ts:="list") T.b_isinstance T.b_list (aa 1)) (iQ (gk rfl T.b_all (ay (bt (t:=gr) (m:=gu) (eG (Nc:=["crowd","web"]) (js:=[none,ar 0]) (ai (top 46)) ["web","thing"] (fun _=>rfl) rfl (by decide+kernel)) rfl (cL (aa 1)) (fun C ex s2 O=>⟨aH 0 (show(["crowd","web"]:List Str).Nodup by decide+kernel),bR,ay (aB Z (X.mono (by decide)) (af (aa 1) (af (aa 0) (aq) ag) ag))⟩)))) (kG (ay (aB Y (X.mono (by decide)) (af (aa 1) (aq) ag)))))))
end
section
variable {P:ed}{w:ee}{K:dt}{mg:Str->Option a_}{base:f_}
theorem qK{f:b'}{S:eM}(F:Fun K "need_place" "need_place" (top 16) f S)(Q:mg "need_place"=ar (.ref f))(T:Txt K mg)(Y:DefX P w K mg base 2 "is_place" ["many","thing"] bU)(Z:DefX P w K mg base 5 "need_web" ["thing"] bc):DefX P w K mg base 6 "need_place" ["web","place"] ey:=
 dD (m:=lX) F Q (F.binds fun _ _ _ _ _ _ us U=>match us,U with|[_,_],_=>rfl) qD rfl fun R A outer s H E X=>
  az (cq (ay (bj Z (X.mono (by decide)) aK.pass (af (aa 0) (aq) ag)))) (aF (cR (fe (dM (ay (bj Y (X.mono (by decide)) aK.pass (af (aO (aa 0) (aA)) (af (aa 1) (aq) ag) aX))))) (aF (pJ aK rfl T.err (by decide) (by decide) (af (pq) (aq) aP))) (bQ)))
end
section
variable {P:ed}{w:ee}{K:dt}{mg:Str->Option a_}{base:f_}
theorem kY{f:b'}{U:eM}(F:Fun K "need_few_places" "need_few_places" (top 17) f U)(Q:mg "need_few_places"=ar (.ref f))(T:Txt K mg)(R:GrX P w K mg base)(Z:DefX P w K mg base 5 "need_web" ["thing"] bc):DefX P w K mg base 6 "need_few_places" ["web","most"] bu:=
 dD (m:=iJ) F Q (F.binds fun _ _ _ _ _ _ us X=>match us,X with|[_,_],_=>rfl) kQ rfl fun S A outer s H E Y=>
  az (cq (ay (bj Z (Y.mono (by decide)) aK.pass (af (aa 0) (aq) ag)))) (aF (cR (rg (aO (aa 0) (aA)) (aa 1)) (aF (uz aK rfl T.err R (Y.mono (by decide)) (af (aO (aa 0) (aA)) (af (aa 1) (aq) ag) aX))) (bQ)))
end
section
variable {P:ed}{w:ee}{K:dt}{mg:Str->Option a_}{base:f_}
theorem w5{f:b'}{S:eM}(F:Fun K "degrees" "degrees" (top 20) f S)(X:mg "degrees"=ar (.ref f))(T:Txt K mg)(Z:DefX P w K mg base 5 "need_web" ["thing"] bc):DefX P w K mg base 6 "degrees" ["web"] bx:=
 dD (m:=rq) F X (F.binds fun _ _ _ _ _ _ us U=>match us,U with|[_],_=>rfl) kR rfl fun R A outer s H E Y=>
  az (cq (ay (bj Z (Y.mono (by decide)) aK.pass (af (aa 0) (aq) ag)))) (az (jL (aa 0) (fg rfl (ba (aH 1 kR.nd) (ba (aH 2 kR.nd) (dC))))) (aF (aU (ay (iF (bt (t:=gO) (m:=gP) (eG (Nc:=["place","ties"]) (js:=[none,ar 2]) (ai (top 20)) ["web","many","ties"] (fun _=>rfl) rfl (by decide+kernel)) rfl (eg T.b_range (aa 1)) (fun C ex s2 Q=>⟨aH 0 (show(["place","ties"]:List Str).Nodup by decide+kernel),bR,d4 T.b_len (ay (bt (t:=gL) (m:=gM) (eG (Nc:=["tie","place"]) (js:=[none,ar 0]) _ ["place","ties"] (fun _=>rfl) rfl rfl) rfl (cL (aa 1)) (fun C ex s2 Q=>⟨aH 0 (show(["tie","place"]:List Str).Nodup by decide+kernel),fB (t7 (fL Y) (aa 1) (aa 0)),aa 0⟩)))⟩)))))))
end
section
variable {P:ed}{w:ee}{K:dt}{mg:Str->Option a_}{base:f_}
theorem zM{f:b'}{R:eM}(F:Fun K "within" "within" (top 21) f R)(U:mg "within"=ar (.ref f))(T:Txt K mg)(Z:DefX P w K mg base 3 "is_places" ["many","thing"] cV)(Y:DefX P w K mg base 5 "need_web" ["thing"] bc):DefX P w K mg base 6 "within" ["web","some"] ie:=
 dD (m:=uC) F U (F.binds fun _ _ _ _ _ _ us S=>match us,S with|[_,_],_=>rfl) kx rfl fun Q A outer s H E X=>
  az (cq (ay (bj Y (X.mono (by decide)) aK.pass (af (aa 0) (aq) ag)))) (az (jL (aa 0) (fg rfl (ba (aH 2 kx.nd) (ba (aH 3 kx.nd) (dC))))) (az (cR (fe (dM (ay (bj Z (X.mono (by decide)) aK.pass (af (aa 2) (af (aa 1) (aq) ag) ag))))) (aF (pJ aK rfl T.err (by decide) (by decide) (af (pq) (aq) aP))) (bQ)) (az (C4 (uy (pA 4 (t:=iK) (m:=iL) kx.nd (eG (Nc:=["low","high","some"]) (js:=[none,none,ar 1]) (ai (top 21)) ["web","some","many","ties","kept"] (fun _=>rfl) rfl (by decide+kernel)) rfl (cL (aa 3)) (fun C ex s2 O=>⟨fg rfl (ba (aH 0 (show(["low","high","some"]:List Str).Nodup by decide+kernel)) (ba (aH 1 (show(["low","high","some"]:List Str).Nodup by decide+kernel)) (dC))),fB (tX (Ap (t7 (fL X) (aa 0) (aa 2)) (xt (t7 (fL X) (aa 1) (aa 2))))),eF (af (aa 0) (af (aa 1) (aq) ag) ag)⟩)))) (aF (aU (eF (af (d4 T.b_len (aa 1)) (af (eJ T.b_tuple (ay (iF (bt (t:=iM) (m:=iN) (eG (Nc:=["low","high","some"]) (js:=[none,none,ar 1]) (ai (top 21)) ["web","some","many","ties","kept"] (fun _=>rfl) rfl (by decide+kernel)) rfl (cL (aa 4)) (fun C ex s2 O=>⟨fg rfl (ba (aH 0 (show(["low","high","some"]:List Str).Nodup by decide+kernel)) (ba (aH 1 (show(["low","high","some"]:List Str).Nodup by decide+kernel)) (dC))),bR,eF (af (uB (fL X) (aa 2) (aa 0)) (af (uB (fL X) (aa 2) (aa 1)) (aq) bT) bT)⟩))))) (aq) bT) bT)))))))
end
section
variable {P:ed}{w:ee}{K:dt}{mg:Str->Option a_}{base:f_}
theorem nE{f:b'}{U:eM}(F:Fun K "need_few_ties" "need_few_ties" (top 25) f U)(Q:mg "need_few_ties"=ar (.ref f))(T:Txt K mg)(R:GrX P w K mg base)(Z:DefX P w K mg base 5 "need_web" ["thing"] bc):DefX P w K mg base 6 "need_few_ties" ["web"] cO:=
 dD (m:=eT) F Q (F.binds fun _ _ _ _ _ _ us X=>match us,X with|[_],_=>rfl) nB rfl fun S A outer s H E Y=>
  az (cq (ay (bj Z (Y.mono (by decide)) aK.pass (af (aa 0) (aq) ag)))) (aF (cR (rg (d4 T.b_len (aO (aa 0) (aA))) (f7 rfl T.g_MOST_TIES)) (aF (uz aK rfl T.err R (Y.mono (by decide)) (af (d4 T.b_len (aO (aa 0) (aA))) (af (f7 rfl T.g_MOST_TIES) (aq) ag) bT))) (bQ)))
end
section
variable {P:ed}{w:ee}{K:dt}{mg:Str->Option a_}{base:f_}
theorem w6{f:b'}{Q:eM}(F:Fun K "tie_web" "tie_web" (top 26) f Q)(S:mg "tie_web"=ar (.ref f))(T:Txt K mg)(X:DefX P w K mg base 1 "pairs_of" ["many"] dF)(Y:DefX P w K mg base 1 "ties_meet" ["one","other"] gc)(Z:DefX P w K mg base 6 "need_few_ties" ["web"] cO):DefX P w K mg base 7 "tie_web" ["web"] bz:=
 dD (m:=m5) F S (F.binds fun _ _ _ _ _ _ us R=>match us,R with|[_],_=>rfl) kU rfl fun O A outer s H E U=>
  az (cq (ay (bj Z (U.mono (by decide)) aK.pass (af (aa 0) (aq) ag)))) (az (b9 1 kU.nd (aO (aa 0) (aA)) (hs:=jj)) (az (b9 2 kU.nd (d4 T.b_len (aa 1)) (hs:=dR)) (aF (aU (eF (af (aa 2) (af (eJ T.b_tuple (ay (iF (bt (t:=gQ) (m:=gR) (eG (Nc:=["low","high","ties"]) (js:=[none,none,ar 1]) (ai (top 26)) ["web","ties","many"] (fun _=>rfl) rfl (by decide+kernel)) rfl (cL (ay (aB X (U.mono (by decide)) (af (aa 2) (aq) ag)))) (fun C ex s2 N=>⟨fg rfl (ba (aH 0 (show(["low","high","ties"]:List Str).Nodup by decide+kernel)) (ba (aH 1 (show(["low","high","ties"]:List Str).Nodup by decide+kernel)) (dC))),fB (dM (ay (aB Y (U.mono (by decide)) (af (aO (aa 2) (aa 0)) (af (aO (aa 2) (aa 1)) (aq) aX) aX)))),eF (af (aa 0) (af (aa 1) (aq) ag) ag)⟩))))) (aq) bT) ag))))))
end
section
variable {P:ed}{w:ee}{K:dt}{mg:Str->Option a_}{base:f_}
theorem w8{f:b'}{S:eM}(F:Fun K "star_of" "star_of" (top 27) f S)(X:mg "star_of"=ar (.ref f))(T:Txt K mg)(Z:DefX P w K mg base 6 "need_place" ["web","place"] ey):DefX P w K mg base 7 "star_of" ["web","place"] i8:=
 dD (m:=rz) F X (F.binds fun _ _ _ _ _ _ us U=>match us,U with|[_,_],_=>rfl) wX rfl fun R A outer s H E Y=>
  az (cq (ay (bj Z (Y.mono (by decide)) aK.pass (af (aa 0) (af (aa 1) (aq) ag) ag)))) (aF (aU (eJ T.b_tuple (ay (iF (bt (t:=jr) (m:=jt) (eG (Nc:=["number","tie","place"]) (js:=[none,none,ar 1]) (ai (top 27)) ["web","place"] (fun _=>rfl) rfl (by decide+kernel)) rfl (sL T.b_enumerate (aO (aa 0) (aA))) (fun C ex s2 Q=>⟨fg rfl (ba (aH 0 (show(["number","tie","place"]:List Str).Nodup by decide+kernel)) (ba (aH 1 (show(["number","tie","place"]:List Str).Nodup by decide+kernel)) (dC))),fB (t7 (fL Y) (aa 2) (aa 1)),aa 0⟩)))))))
end
section
variable {P:ed}{w:ee}{K:dt}{mg:Str->Option a_}{base:f_}
theorem qL{f:b'}{S:eM}(F:Fun K "ties_ahead" "ties_ahead" (top 28) f S)(X:mg "ties_ahead"=ar (.ref f))(T:Txt K mg)(Z:DefX P w K mg base 6 "degrees" ["web"] bx):DefX P w K mg base 7 "ties_ahead" ["web"] ez:=
 dD (m:=lY) F X (F.binds fun _ _ _ _ _ _ us U=>match us,U with|[_],_=>rfl) qE rfl fun R A outer s H E Y=>
  aF (aU (Fk rfl T.b_sum (ay (Bm (t:=gv) (m:=gw) (eG (Nc:=["many"]) (js:=[none]) (ai (top 28)) ["web"] (fun _=>rfl) rfl (by decide+kernel)) rfl (cL (ay (bj Z (Y.mono (by decide)) aK.pass (af (aa 0) (aq) ag)))) (fun C ex s2 Q=>⟨aH 0 (show(["many"]:List Str).Nodup by decide+kernel),bR,oA (mQ (aa 0) (jP (aa 0) (aA))) (aA)⟩)))))
end
section
variable {P:ed}{w:ee}{K:dt}{mg:Str->Option a_}{base:f_}
theorem oy{f:b'}{U:eM}(F:Fun K "need_crowded" "need_crowded" (top 32) f U)(R:mg "need_crowded"=ar (.ref f))(T:Txt K mg)(Z:DefX P w K mg base 6 "need_few_places" ["web","most"] bu):DefX P w K mg base 7 "need_crowded" ["web"] cH:=
 dD (m:=jX) F R (F.binds fun _ _ _ _ _ _ us X=>match us,X with|[_],_=>rfl) ot rfl fun S A outer s H E Y=>
  aF (cq (ay (bj Z (Y.mono (by decide)) aK.pass (af (aa 0) (af (f7 rfl T.g_MOST_CROWDED) (aq) ag) ag))))
end
section
variable {P:ed}{w:ee}{K:dt}{mg:Str->Option a_}{base:f_}
theorem qo{f:b'}{S:eM}(F:Fun K "need_mapped" "need_mapped" (top 38) f S)(Q:mg "need_mapped"=ar (.ref f))(T:Txt K mg)(Y:DefX P w K mg base 5 "need_web" ["thing"] bc)(Z:DefX P w K mg base 6 "need_few_places" ["web","most"] bu):DefX P w K mg base 7 "need_mapped" ["one","other"] bP:=
 dD (m:=kB) F Q (F.binds fun _ _ _ _ _ _ us U=>match us,U with|[_,_],_=>rfl) qk rfl fun R A outer s H E X=>
  az (cq (ay (bj Y (X.mono (by decide)) aK.pass (af (aa 0) (aq) ag)))) (az (cq (ay (bj Y (X.mono (by decide)) aK.pass (af (aa 1) (aq) ag)))) (az (cq (ay (bj Z (X.mono (by decide)) aK.pass (af (aa 0) (af (f7 rfl T.g_MOST_MAPPED) (aq) ag) ag)))) (aF (cq (ay (bj Z (X.mono (by decide)) aK.pass (af (aa 1) (af (f7 rfl T.g_MOST_MAPPED) (aq) ag) ag)))))))
end
section
variable {P:ed}{w:ee}{K:dt}{mg:Str->Option a_}{base:f_}
theorem vk{f:b'}{S:eM}(F:Fun K "is_crowd" "is_crowd" (top 35) f S)(Q:mg "is_crowd"=ar (.ref f))(T:Txt K mg)(Z:DefX P w K mg base 7 "need_crowded" ["web"] cH)(Y:DefX P w K mg base 4 "crowd_holds" ["web","thing"] c9):DefX P w K mg base 8 "is_crowd" ["web","thing"] ig:=
 dD (m:=pV) F Q (F.binds fun _ _ _ _ _ _ us U=>match us,U with|[_,_],_=>rfl) vc rfl fun R A outer s H E X=>
  az (cq (ay (bj Z (X.mono (by decide)) aK.pass (af (aa 0) (aq) ag)))) (aF (aU (ay (bj Y (X.mono (by decide)) aK.pass (af (aa 0) (af (aa 1) (aq) ag) ag)))))
end
section
variable {P:ed}{w:ee}{K:dt}{mg:Str->Option a_}{base:f_}
theorem tG{f:b'}{Q:eM}(F:Fun K "map_holds" "map_holds" (top 40) f Q)(S:mg "map_holds"=ar (.ref f))(T:Txt K mg)(Y:DefX P w K mg base 2 "is_place" ["many","thing"] bU)(Z:DefX P w K mg base 7 "need_mapped" ["one","other"] bP)(X:DefX P w K mg base 2 "goes_on" ["one","other","start","place"] cN):DefX P w K mg base 8 "map_holds" ["one","other","thing"] d7:=
 dD (m:=nY) F S (F.binds fun _ _ _ _ _ _ us R=>match us,R with|[_,_,_],_=>rfl) mB rfl fun O A outer s H E U=>
  az (cq (ay (bj Z (U.mono (by decide)) aK.pass (af (aa 0) (af (aa 1) (aq) ag) ag)))) (az (b9 3 mB.nd (aO (aa 0) (aA)) (hs:=jj)) (az (cR (tX (lE (lH (fL U) (aO (aa 1) (aA)) (aa 3)) (lE (fe (dM (kI (Ts:="tuple") T.b_isinstance T.b_tuple (aa 2)))) (mP (lH (fL U) (d4 T.b_len (aa 2)) (aa 3)))))) (aF (aU (dQ))) (bQ)) (az (cR (fe (dM (gk rfl T.b_all (ay (iF (bt (t:=fG) (m:=fH) (eG (Nc:=["place","many"]) (js:=[none,ar 3]) (ai (top 40)) ["one","other","thing","many"] (fun _=>rfl) rfl (by decide+kernel)) rfl (cL (aa 2)) (fun C ex s2 N=>⟨aH 0 (show(["place","many"]:List Str).Nodup by decide+kernel),bR,ay (aB Y (U.mono (by decide)) (af (aa 1) (af (aa 0) (aq) ag) ag))⟩))))))) (aF (aU (dQ))) (bQ)) (aF (aU (gk rfl T.b_all (ay (iF (bt (t:=ik) (m:=il) (eG (Nc:=["at","place","one","other","thing"]) (js:=[none,none,ar 0,ar 1,ar 2]) (ai (top 40)) ["one","other","thing","many"] (fun _=>rfl) rfl (by decide+kernel)) rfl (sL T.b_enumerate (aa 2)) (fun C ex s2 N=>⟨fg rfl (ba (aH 0 (show(["at","place","one","other","thing"]:List Str).Nodup by decide+kernel)) (ba (aH 1 (show(["at","place","one","other","thing"]:List Str).Nodup by decide+kernel)) (dC))),bR,ay (aB X (U.mono (by decide)) (by (refine bL (aa 2) ?_ ag;refine bL (aa 3) ?_ ag;refine bL (ay (lI (aa 4) (oE) (oF (aa 0)))) ?_ aX;refine bL (aa 1) ?_ ag;exact aq)))⟩))))))))))
end
section
variable {P:ed}{w:ee}{K:dt}{mg:Str->Option a_}{base:f_}
theorem qM{f:b'}{Q:eM}(F:Fun K "is_sharing" "is_sharing" (top 47) f Q)(S:mg "is_sharing"=ar (.ref f))(T:Txt K mg)(Y:DefX P w K mg base 7 "need_crowded" ["web"] cH)(Z:DefX P w K mg base 1 "how_many_have" ["crowds","some"] cM)(X:DefX P w K mg base 5 "are_crowds" ["web","thing"] eo):DefX P w K mg base 8 "is_sharing" ["web","thing"] eA:=
 dD (m:=lZ) F S (F.binds fun _ _ _ _ _ _ us R=>match us,R with|[_,_],_=>rfl) iX rfl fun O A outer s H E U=>
  az (cq (ay (bj Y (U.mono (by decide)) aK.pass (af (aa 0) (aq) ag)))) (az (cR (fe (dM (ay (bj X (U.mono (by decide)) aK.pass (af (aa 0) (af (aa 1) (aq) ag) ag))))) (aF (aU (dQ))) (bQ)) (az (jL (aa 0) (fg rfl (ba (aH 2 iX.nd) (ba (aH 3 iX.nd) (dC))))) (az (cR (fe (dM (gk rfl T.b_all (ay (iF (bt (t:=gx) (m:=gy) (eG (Nc:=["tie","thing"]) (js:=[none,ar 1]) (ai (top 47)) ["web","thing","many","ties"] (fun _=>rfl) rfl (by decide+kernel)) rfl (cL (aa 3)) (fun C ex s2 N=>⟨aH 0 (show(["tie","thing"]:List Str).Nodup by decide+kernel),bR,xv (fL U) (ay (aB Z (U.mono (by decide)) (af (aa 1) (af (aa 0) (aq) ag) ag))) (aA)⟩))))))) (aF (aU (dQ))) (bQ)) (aF (aU (gk rfl T.b_all (ay (iF (bt (t:=gz) (m:=gC) (eG (Nc:=["place","thing"]) (js:=[none,ar 1]) (ai (top 47)) ["web","thing","many","ties"] (fun _=>rfl) rfl (by decide+kernel)) rfl (eg T.b_range (aa 2)) (fun C ex s2 N=>⟨aH 0 (show(["place","thing"]:List Str).Nodup by decide+kernel),bR,G7 (ay (aB Z (U.mono (by decide)) (af (aa 1) (af (eF (af (aa 0) (aq) ag)) (aq) lO) ag))) (f7 rfl T.g_MOST_AT_A_PLACE)⟩))))))))))
end
section
variable {P:ed}{w:ee}{K:dt}{mg:Str->Option a_}{base:f_}
theorem qN{f:b'}{B:eM}(F:Fun K "_law_right" "_law_right" (top 56) f B)(I:mg "_law_right"=ar (.ref f))(T:Txt K mg)(L:DefX P w K mg base 4 "is_web" ["thing"] d6)(Y:DefX P w K mg base 6 "degrees" ["web"] bx)(N:DefX P w K mg base 6 "within" ["web","some"] ie)(Z:DefX P w K mg base 7 "tie_web" ["web"] bz)(O:DefX P w K mg base 7 "star_of" ["web","place"] i8)(U:DefX P w K mg base 7 "ties_ahead" ["web"] ez)(R:DefX P w K mg base 8 "is_crowd" ["web","thing"] ig)(X:DefX P w K mg base 8 "is_sharing" ["web","thing"] eA)(S:DefX P w K mg base 1 "_law_take" ["_law_state_here","_law_many"] aY):DefX P w K mg base 9 "_law_right" ["_law_state_here","_law_web_here"] bW:=
 bN (m:=gS) F I (F.binds fun _ _ _ _ _ _ us G=>match us,G with|[_,_],_=>rfl) dJ rfl fun z A outer s H E Q=>
  az (Dl (jL (eF (af (ay (aB Z (Q.mono (by decide)) (af (aa 1) (aq) ag))) (af (ay (aB Y (Q.mono (by decide)) (af (aa 1) (aq) ag))) (aq) bT) bT)) (fg rfl (ba (aH 2 dJ.nd) (ba (aH 3 dJ.nd) (dC)))))) (az (cR (tX (lE (jR (ay (aB L (Q.mono (by decide)) (af (aa 2) (aq) ag))) (dQ)) (lE (lH (fL Q) (aO (aa 2) (aA)) (d4 T.b_len (aO (aa 1) (aA)))) (mP (lH (fL Q) (d4 T.b_len (aO (aa 2) (aA))) (ay (aB U (Q.mono (by decide)) (af (aa 1) (aq) ag)))))))) (aF (aU (dQ))) (bQ)) (az (cR (lH (fL Q) (ay (aB Y (Q.mono (by decide)) (af (aa 2) (aq) ag))) (ay (bt (t:=dH) (m:=dI) (eG (Nc:=["_law_a","_law_b","_law_counts"]) (js:=[none,none,ar 3]) (ai (top 56)) ["_law_state_here","_law_web_here","_law_later","_law_counts","_law_stars","_law_some"] (fun _=>rfl) rfl (by decide+kernel)) rfl (cL (aO (aa 1) (aA))) (fun C ex s2 J=>⟨fg rfl (ba (aH 0 (show(["_law_a","_law_b","_law_counts"]:List Str).Nodup by decide+kernel)) (ba (aH 1 (show(["_law_a","_law_b","_law_counts"]:List Str).Nodup by decide+kernel)) (dC))),bR,jP (ay (jQ (aO (aa 2) (aa 0)) (aO (aa 2) (aa 1)))) (aA)⟩)))) (aF (aU (dQ))) (bQ)) (az (uy (pA 4 (t:=eU) (m:=eV) dJ.nd (eG (Nc:=["_law_place","_law_web_here"]) (js:=[none,ar 1]) (ai (top 56)) ["_law_state_here","_law_web_here","_law_later","_law_counts","_law_stars","_law_some"] (fun _=>rfl) rfl (by decide+kernel)) rfl (eg T.b_range (aO (aa 1) (aA))) (fun C ex s2 J=>⟨aH 0 (show(["_law_place","_law_web_here"]:List Str).Nodup by decide+kernel),bR,ay (aB O (Q.mono (by decide)) (af (aa 1) (af (aa 0) (aq) ag) ag))⟩))) (az (b9 4 dJ.nd (ay (fv T.b_sorted (ay (bt (t:=eX) (m:=eY) (eG (Nc:=["_law_star"]) (js:=[none]) (ai (top 56)) ["_law_state_here","_law_web_here","_law_later","_law_counts","_law_stars","_law_some"] (fun _=>rfl) rfl (by decide+kernel)) rfl (cL (aa 4)) (fun C ex s2 J=>⟨aH 0 (show(["_law_star"]:List Str).Nodup by decide+kernel),fB (rg (d4 T.b_len (aa 0)) (aA)),aa 0⟩))))) (hs:=dR)) (az (cR (lH (fL Q) (ay (bt (t:=eZ) (m:=fb) (eG (Nc:=["_law_star","_law_later"]) (js:=[none,ar 2]) (ai (top 56)) ["_law_state_here","_law_web_here","_law_later","_law_counts","_law_stars","_law_some"] (fun _=>rfl) rfl (by decide+kernel)) rfl (cL (aa 4)) (fun C ex s2 J=>⟨aH 0 (show(["_law_star","_law_later"]:List Str).Nodup by decide+kernel),fB (jR (ay (aB R (Q.mono (by decide)) (af (aa 1) (af (aa 0) (aq) ag) ag))) (dQ)),aa 0⟩))) (ay (fN (aq)))) (aF (aU (dQ))) (bQ)) (az (cR (jR (ay (aB X (Q.mono (by decide)) (af (aa 2) (af (aa 4) (aq) ag) ag))) (dQ)) (aF (aU (dQ))) (bQ)) (az (b9 5 dJ.nd (eJ T.b_tuple (ay (bt (t:=fc) (m:=eB) (eG (Nc:=["_law_number","_law_state_here"]) (js:=[none,ar 0]) (ai (top 56)) ["_law_state_here","_law_web_here","_law_later","_law_counts","_law_stars","_law_some"] (fun _=>rfl) rfl (by decide+kernel)) rfl (eg T.b_range (aO (aa 2) (aA))) (fun C ex s2 J=>⟨aH 0 (show(["_law_number","_law_state_here"]:List Str).Nodup by decide+kernel),fB (rg (ay (aB S (Q.mono (by decide)) (af (aa 1) (af (aA) (aq) aP) ag))) (aA)),aa 0⟩)))) (hs:=dR)) (aF (aU (xv (fL Q) (ay (aB N (Q.mono (by decide)) (af (aa 2) (af (aa 5) (aq) ag) ag))) (ay (aB Z (Q.mono (by decide)) (af (eF (af (aO (aa 1) (aA)) (af (eJ T.b_tuple (ay (bt (t:=du) (m:=dv) (eG (Nc:=["_law_number","_law_web_here"]) (js:=[none,ar 1]) (ai (top 56)) ["_law_state_here","_law_web_here","_law_later","_law_counts","_law_stars","_law_some"] (fun _=>rfl) rfl (by decide+kernel)) rfl (cL (aa 5)) (fun C ex s2 J=>⟨aH 0 (show(["_law_number","_law_web_here"]:List Str).Nodup by decide+kernel),bR,aO (aO (aa 1) (aA)) (aa 0)⟩)))) (aq) bT) aX)) (aq) lO)))))))))))))
end
section
variable {P:ed}{w:ee}{K:dt}{mg:Str->Option a_}{base:f_}
theorem kZ{j:Nat}{X:List D->M D}{f:b'}{R:eM}(F:Fun K "first_map_from" "first_map_from" (top 41) f R)(S:mg "first_map_from"=ar (.ref f))(T:Txt K mg)(Z:DefX P w K mg base 2 "goes_on" ["one","other","start","place"] cN)(Y:DefX P w K mg base (3+j) "first_map_from" ["one","other","start"] X):DefX P w K mg base (3+j+1) "first_map_from" ["one","other","start"] (kz 6 3 (dw X)):=
 bN (m:=dw X) F S (F.binds fun _ _ _ _ _ _ us Q=>match us,Q with|[_,_,_],_=>rfl) dW rfl fun O A outer s H E U=>
  az (b9 3 dW.nd (aO (aa 0) (aA)) (hs:=jj)) (az (cR (Az (fL U) (d4 T.b_len (aa 2)) (aa 3)) (aF (aU (aa 2))) (bQ)) (az (sr (b:=di X) Me rfl (eg T.b_range (aa 3)) (aH 4 dW.nd) (aF (cR (dM (ay (aB Z (U.mono (by omega)) (by (refine bL (aa 0) ?_ ag;refine bL (aa 1) ?_ ag;refine bL (aa 2) ?_ ag;refine bL (aa 4) ?_ ag;exact aq))))) (az (b9 5 dW.nd (ay (aB Y (U.mono (JY _)) (af (aa 0) (af (aa 1) (af (ay (jQ (aa 2) (eF (af (aa 4) (aq) ag)))) (aq) g9) ag) ag))) (hs:=dR)) (aF (cR (jR (aa 5) (mM)) (aF (aU (aa 5))) (bQ)))) (bQ)))) (aF (aU (mM)))))
theorem iy{f:b'}{U:eM}(F:Fun K "first_map_from" "first_map_from" (top 41) f U)(Y:mg "first_map_from"=ar (.ref f))(T:Txt K mg)(Z:DefX P w K mg base 2 "goes_on" ["one","other","start","place"] cN):∀n,DefX P w K mg base (3+n) "first_map_from" ["one","other","start"] (bF n)
 |0=>DefX.none F Y (F.binds fun _ _ _ _ _ _ us X=>match us,X with|[_,_,_],_=>rfl)
 |n+1=>kZ F Y T Z (iy F Y T Z n)
theorem mD{f:b'}{X:eM}(F:Fun K "first_map_from" "first_map_from" (top 41) f X)(Y:mg "first_map_from"=ar (.ref f))(T:Txt K mg)(Z:DefX P w K mg base 2 "goes_on" ["one","other","start","place"] cN):DefX P w K mg base 11 "first_map_from" ["one","other","start"] dy:=iy F Y T Z 8
end
section
variable {P:ed}{w:ee}{K:dt}{mg:Str->Option a_}{base:f_}
theorem zN{f:b'}{R:eM}(F:Fun K "map_to" "map_to" (top 42) f R)(O:mg "map_to"=ar (.ref f))(T:Txt K mg)(Y:DefX P w K mg base 6 "degrees" ["web"] bx)(X:DefX P w K mg base 7 "need_mapped" ["one","other"] bP)(Z:DefX P w K mg base 11 "first_map_from" ["one","other","start"] dy):DefX P w K mg base 12 "map_to" ["one","other"] ip:=
 dD (m:=uD) F O (F.binds fun _ _ _ _ _ _ us S=>match us,S with|[_,_],_=>rfl) zI rfl fun Q A outer s H E U=>
  az (cq (ay (bj X (U.mono (by decide)) aK.pass (af (aa 0) (af (aa 1) (aq) ag) ag)))) (az (cR (lH (fL U) (ay (fv T.b_sorted (ay (bj Y (U.mono (by decide)) aK.pass (af (aa 0) (aq) ag))))) (ay (fv T.b_sorted (ay (bj Y (U.mono (by decide)) aK.pass (af (aa 1) (aq) ag)))))) (aF (aU (mM))) (bQ)) (aF (aU (ay (bj Z (U.mono (by decide)) aK.pass (af (aa 0) (af (aa 1) (af (Fo 6 rfl) (aq) lO) ag) ag))))))
end
theorem zO{P:ed}{w:ee}{K:dt}{R:Str->Option a_}{base:f_}{f c B:b'}{I:eM}(F:Fun K "law" "law" (top 57) f I)(T:Txt K R)(G:Mod K R base)(z:BaseL K R base)(TI:AS K)(C:sb K g_ "law"=ar (ar (.ref f)))(J:nC K "law"=ar (c,B))(Z:∀base,Mod K R base->DefX P w K R base 7 "tie_web" ["web"] bz)(Q:∀base,Mod K R base->DefX P w K R base 8 "map_holds" ["one","other","thing"] d7)(N:∀base,Mod K R base->DefX P w K R base 12 "map_to" ["one","other"] ip)(U:∀base,Mod K R base->DefX P w K R base 2 "_law_state" ["_law_script","_law_k"] fF)(X:∀base,Mod K R base->DefX P w K R base 2 "_law_mixed_row" ["_law_state_here","_law_things"] bq)(O:∀base,Mod K R base->DefX P w K R base 3 "_law_web" ["_law_state_here","_law_most"] fP)(S:∀base,Mod K R base->DefX P w K R base 1 "_law_named" ["_law_web_here","_law_names"] cU)(Y:∀base,Mod K R base->DefX P w K R base 9 "_law_right" ["_law_state_here","_law_web_here"] bW):FnOk P w K R base (nO P w) 13 f I ["_law_script"] (AU K rA):=
 Fj (m:=Bo) F kX rfl C J fun A outer s H E L=>
  az (sr (b:=jY) Me rfl (eg T.b_range (vN rfl T.b_max (af (aA) (af (AD rfl T.b_min (af (d4 T.b_len (aa 0)) (af (aA) (aq) aP) bT)) (aq) bT) aP))) (aH 1 kX.nd) (az (b9 2 kX.nd (aB (U _ G) (L.mono (by decide)) (af (aa 0) (af (aa 1) (aq) ag) ag)) (hs:=dR)) (az (b9 3 kX.nd (ay (aB (O _ G) (L.mono (by decide)) (af (aa 2) (af (aA) (aq) aP) ag))) (hs:=dR)) (az (b9 3 kX.nd (eF (af (aO (aa 3) (aA)) (af (ay (lI (aO (aa 3) (aA)) (oE) (oF (aA)))) (aq) aX) aX)) (hs:=A1)) (az (b9 4 kX.nd (ay (aB (S _ G) (L.mono (by decide)) (af (aa 3) (af (ay (aB (X _ G) (L.mono (by decide)) (af (aa 2) (af (ay (lL rfl T.b_list T.b_range (aO (aa 3) (aA)))) (aq) bT) ag))) (aq) bT) ag))) (hs:=dR)) (az (cR (tX (lE (fe (dM (ay (aB (Y _ G) (L.mono (by decide)) (af (aa 2) (af (aa 3) (aq) ag) ag))))) (mP (fe (dM (ay (aB (Y _ G) (L.mono (by decide)) (af (aa 2) (af (aa 4) (aq) ag) ag)))))))) (aF (aU (dQ))) (bQ)) (az (b9 5 kX.nd (ay (aB (N _ G) (L.mono (by decide)) (af (ay (aB (Z _ G) (L.mono (by decide)) (af (aa 3) (aq) ag))) (af (ay (aB (Z _ G) (L.mono (by decide)) (af (aa 4) (aq) ag))) (aq) bT) bT))) (hs:=dR)) (aF (cR (tX (lE (Hd (aa 5) (mM)) (mP (jR (ay (aB (Q _ G) (L.mono (by decide)) (af (ay (aB (Z _ G) (L.mono (by decide)) (af (aa 3) (aq) ag))) (af (ay (aB (Z _ G) (L.mono (by decide)) (af (aa 4) (aq) ag))) (af (aa 5) (aq) ag) bT) bT))) (dQ))))) (aF (aU (dQ))) (bQ)))))))))) (aF (aU (dQ)))
def D8:Stmt:=Hm (top 5)
theorem DR:FnScope ["self","many","most"] ["self","many","most"] (ai D8):=⟨rfl,rfl,rfl,by decide+kernel,rfl,by decide+kernel,by decide+kernel⟩
abbrev lP:Program:=PySem.Challenge.rw_tiewebs_k05_whole_tie_webs.prog
abbrev kW(w:ee):W.Frag:=KH.K0 w.params
theorem fk{K:dt}{f c:b'}{m:a_}(x q:Str)(Z:p7)(l:K.lookup f=ar ⟨.type "function",none,.func (B' x q (iB Z) (dP Z) (ai Z) .none .none .none m none (.ref c) .none), #[]⟩)(h:NO K (.ref c) q=b_)(k:y2 K (.ref f)=b_):Fun K x q Z f (B' x q (iB Z) (dP Z) (ai Z) .none .none .none m none (.ref c) .none):=EW l h k
abbrev nK(w:ee)(x:Str):Option (Option a_):=sb (kW w) g_ x
theorem JS(w:ee)(Y:Str->Option a_)(fa:b')(h:f_)(X:(kW w).In h)(G:h.Ns g_ Y)(h9:Y "law"=ar (.ref fa)):∃fd:eM,(∀(s:c_) (u:a_),G_ s fd ⟨[u],[]⟩ [("_law_script",u)])/\∀base:f_,Mod (kW w) Y base->BaseL (kW w) Y base->FnOk lP w (kW w) Y base (nO lP w) 13 fa fd ["_law_script"] (AU (kW w) rA):=by
 have a8:nK w "is_whole"=ar (ar (.ref 89)):=by kernel_rfl
 have F8:=@fk (kW w) 89 88 (KH.zs "tiewebs.webs" 282) "is_whole" "is_whole" (top 8) (by kernel_rfl) (by kernel_rfl) (by kernel_rfl)
 have a9:nK w "is_pair"=ar (ar (.ref 96)):=by kernel_rfl
 have F9:=@fk (kW w) 96 95 (KH.zs "tiewebs.webs" 282) "is_pair" "is_pair" (top 9) (by kernel_rfl) (by kernel_rfl) (by kernel_rfl)
 have aG:nK w "TooGreat"=ar (ar (.ref 80)):=by kernel_rfl
 have a6:kj (kW w) 80 77=true:=by kernel_rfl
 have FG:=@fk (kW w) 77 76 (KH.zs "tiewebs.errors" 187) "__init__" "TooGreat.__init__" D8 (by kernel_rfl) (by kernel_rfl) (by kernel_rfl)
 have i0:nK w "is_place"=ar (ar (.ref 103)):=by kernel_rfl
 have n1:=@fk (kW w) 103 102 (KH.zs "tiewebs.webs" 282) "is_place" "is_place" (top 10) (by kernel_rfl) (by kernel_rfl) (by kernel_rfl)
 have g4:nK w "is_tie"=ar (ar (.ref 110)):=by kernel_rfl
 have i2:=@fk (kW w) 110 109 (KH.zs "tiewebs.webs" 282) "is_tie" "is_tie" (top 11) (by kernel_rfl) (by kernel_rfl) (by kernel_rfl)
 have e2:nK w "is_rising"=ar (ar (.ref 115)):=by kernel_rfl
 have b5:=@fk (kW w) 115 114 (KH.zs "tiewebs.webs" 282) "is_rising" "is_rising" (top 12) (by kernel_rfl) (by kernel_rfl) (by kernel_rfl)
 have h4:nK w "is_places"=ar (ar (.ref 120)):=by kernel_rfl
 have f3:=@fk (kW w) 120 119 (KH.zs "tiewebs.webs" 282) "is_places" "is_places" (top 13) (by kernel_rfl) (by kernel_rfl) (by kernel_rfl)
 have c3:nK w "is_web"=ar (ar (.ref 125)):=by kernel_rfl
 have k3:=@fk (kW w) 125 124 (KH.zs "tiewebs.webs" 282) "is_web" "is_web" (top 14) (by kernel_rfl) (by kernel_rfl) (by kernel_rfl)
 have f6:nK w "need_web"=ar (ar (.ref 132)):=by kernel_rfl
 have j7:=@fk (kW w) 132 131 (KH.zs "tiewebs.webs" 282) "need_web" "need_web" (top 15) (by kernel_rfl) (by kernel_rfl) (by kernel_rfl)
 have d2:nK w "need_place"=ar (ar (.ref 139)):=by kernel_rfl
 have l7:=@fk (kW w) 139 138 (KH.zs "tiewebs.webs" 282) "need_place" "need_place" (top 16) (by kernel_rfl) (by kernel_rfl) (by kernel_rfl)
 have j2:nK w "need_few_places"=ar (ar (.ref 146)):=by kernel_rfl
 have j0:=@fk (kW w) 146 145 (KH.zs "tiewebs.webs" 282) "need_few_places" "need_few_places" (top 17) (by kernel_rfl) (by kernel_rfl) (by kernel_rfl)
 have h6:nK w "pairs_of"=ar (ar (.ref 151)):=by kernel_rfl
 have e8:=@fk (kW w) 151 150 (KH.zs "tiewebs.webs" 282) "pairs_of" "pairs_of" (top 18) (by kernel_rfl) (by kernel_rfl) (by kernel_rfl)
 have h8:nK w "are_tied"=ar (ar (.ref 158)):=by kernel_rfl
 have h2:=@fk (kW w) 158 157 (KH.zs "tiewebs.webs" 282) "are_tied" "are_tied" (top 19) (by kernel_rfl) (by kernel_rfl) (by kernel_rfl)
 have e4:nK w "degrees"=ar (ar (.ref 163)):=by kernel_rfl
 have b6:=@fk (kW w) 163 162 (KH.zs "tiewebs.webs" 282) "degrees" "degrees" (top 20) (by kernel_rfl) (by kernel_rfl) (by kernel_rfl)
 have e5:nK w "within"=ar (ar (.ref 168)):=by kernel_rfl
 have k1:=@fk (kW w) 168 167 (KH.zs "tiewebs.webs" 282) "within" "within" (top 21) (by kernel_rfl) (by kernel_rfl) (by kernel_rfl)
 have b2:nK w "ties_meet"=ar (ar (.ref 173)):=by kernel_rfl
 have h3:=@fk (kW w) 173 172 (KH.zs "tiewebs.ties" 386) "ties_meet" "ties_meet" (top 24) (by kernel_rfl) (by kernel_rfl) (by kernel_rfl)
 have e1:nK w "need_few_ties"=ar (ar (.ref 180)):=by kernel_rfl
 have k6:=@fk (kW w) 180 179 (KH.zs "tiewebs.ties" 386) "need_few_ties" "need_few_ties" (top 25) (by kernel_rfl) (by kernel_rfl) (by kernel_rfl)
 have e0:nK w "tie_web"=ar (ar (.ref 185)):=by kernel_rfl
 have k8:=@fk (kW w) 185 184 (KH.zs "tiewebs.ties" 386) "tie_web" "tie_web" (top 26) (by kernel_rfl) (by kernel_rfl) (by kernel_rfl)
 have h5:nK w "star_of"=ar (ar (.ref 190)):=by kernel_rfl
 have k7:=@fk (kW w) 190 189 (KH.zs "tiewebs.ties" 386) "star_of" "star_of" (top 27) (by kernel_rfl) (by kernel_rfl) (by kernel_rfl)
 have l8:nK w "ties_ahead"=ar (ar (.ref 195)):=by kernel_rfl
 have l4:=@fk (kW w) 195 194 (KH.zs "tiewebs.ties" 386) "ties_ahead" "ties_ahead" (top 28) (by kernel_rfl) (by kernel_rfl) (by kernel_rfl)
 have k5:nK w "need_crowded"=ar (ar (.ref 202)):=by kernel_rfl
 have c4:=@fk (kW w) 202 201 (KH.zs "tiewebs.crowds" 421) "need_crowded" "need_crowded" (top 32) (by kernel_rfl) (by kernel_rfl) (by kernel_rfl)
 have b3:nK w "joins"=ar (ar (.ref 207)):=by kernel_rfl
 have e6:=@fk (kW w) 207 206 (KH.zs "tiewebs.crowds" 421) "joins" "joins" (top 33) (by kernel_rfl) (by kernel_rfl) (by kernel_rfl)
 have l2:nK w "crowd_holds"=ar (ar (.ref 212)):=by kernel_rfl
 have n2:=@fk (kW w) 212 211 (KH.zs "tiewebs.crowds" 421) "crowd_holds" "crowd_holds" (top 34) (by kernel_rfl) (by kernel_rfl) (by kernel_rfl)
 have k4:nK w "is_crowd"=ar (ar (.ref 219)):=by kernel_rfl
 have h7:=@fk (kW w) 219 218 (KH.zs "tiewebs.crowds" 421) "is_crowd" "is_crowd" (top 35) (by kernel_rfl) (by kernel_rfl) (by kernel_rfl)
 have c1:nK w "need_mapped"=ar (ar (.ref 226)):=by kernel_rfl
 have f5:=@fk (kW w) 226 225 (KH.zs "tiewebs.maps" 454) "need_mapped" "need_mapped" (top 38) (by kernel_rfl) (by kernel_rfl) (by kernel_rfl)
 have l0:nK w "goes_on"=ar (ar (.ref 231)):=by kernel_rfl
 have g5:=@fk (kW w) 231 230 (KH.zs "tiewebs.maps" 454) "goes_on" "goes_on" (top 39) (by kernel_rfl) (by kernel_rfl) (by kernel_rfl)
 have n3:nK w "map_holds"=ar (ar (.ref 236)):=by kernel_rfl
 have n7:=@fk (kW w) 236 235 (KH.zs "tiewebs.maps" 454) "map_holds" "map_holds" (top 40) (by kernel_rfl) (by kernel_rfl) (by kernel_rfl)
 have m1:nK w "first_map_from"=ar (ar (.ref 243)):=by kernel_rfl
 have m2:=@fk (kW w) 243 242 (KH.zs "tiewebs.maps" 454) "first_map_from" "first_map_from" (top 41) (by kernel_rfl) (by kernel_rfl) (by kernel_rfl)
 have c5:nK w "map_to"=ar (ar (.ref 250)):=by kernel_rfl
 have b1:=@fk (kW w) 250 249 (KH.zs "tiewebs.maps" 454) "map_to" "map_to" (top 42) (by kernel_rfl) (by kernel_rfl) (by kernel_rfl)
 have l3:nK w "how_many_have"=ar (ar (.ref 255)):=by kernel_rfl
 have i3:=@fk (kW w) 255 254 (KH.zs "tiewebs.sharings" 498) "how_many_have" "how_many_have" (top 45) (by kernel_rfl) (by kernel_rfl) (by kernel_rfl)
 have g7:nK w "are_crowds"=ar (ar (.ref 260)):=by kernel_rfl
 have i4:=@fk (kW w) 260 259 (KH.zs "tiewebs.sharings" 498) "are_crowds" "are_crowds" (top 46) (by kernel_rfl) (by kernel_rfl) (by kernel_rfl)
 have j1:nK w "is_sharing"=ar (ar (.ref 265)):=by kernel_rfl
 have d0:=@fk (kW w) 265 264 (KH.zs "tiewebs.sharings" 498) "is_sharing" "is_sharing" (top 47) (by kernel_rfl) (by kernel_rfl) (by kernel_rfl)
 have i1:nK w "_law_cell_at"=ar (ar (.ref 272)):=by kernel_rfl
 have d3:=@fk (kW w) 272 271 (KH.zs "law_tiewebs_k05_whole_tie_webs" 520) "_law_cell_at" "_law_cell_at" (top 49) (by kernel_rfl) (by kernel_rfl) (by kernel_rfl)
 have l5:nK w "_law_state"=ar (ar (.ref 279)):=by kernel_rfl
 have j3:=@fk (kW w) 279 278 (KH.zs "law_tiewebs_k05_whole_tie_webs" 520) "_law_state" "_law_state" (top 50) (by kernel_rfl) (by kernel_rfl) (by kernel_rfl)
 have h1:nK w "_law_take"=ar (ar (.ref 286)):=by kernel_rfl
 have c2:=@fk (kW w) 286 285 (KH.zs "law_tiewebs_k05_whole_tie_webs" 520) "_law_take" "_law_take" (top 51) (by kernel_rfl) (by kernel_rfl) (by kernel_rfl)
 have g8:nK w "_law_pairs"=ar (ar (.ref 291)):=by kernel_rfl
 have k2:=@fk (kW w) 291 290 (KH.zs "law_tiewebs_k05_whole_tie_webs" 520) "_law_pairs" "_law_pairs" (top 52) (by kernel_rfl) (by kernel_rfl) (by kernel_rfl)
 have d1:nK w "_law_mixed_row"=ar (ar (.ref 298)):=by kernel_rfl
 have c7:=@fk (kW w) 298 297 (KH.zs "law_tiewebs_k05_whole_tie_webs" 520) "_law_mixed_row" "_law_mixed_row" (top 53) (by kernel_rfl) (by kernel_rfl) (by kernel_rfl)
 have b4:nK w "_law_web"=ar (ar (.ref 303)):=by kernel_rfl
 have e9:=@fk (kW w) 303 302 (KH.zs "law_tiewebs_k05_whole_tie_webs" 520) "_law_web" "_law_web" (top 54) (by kernel_rfl) (by kernel_rfl) (by kernel_rfl)
 have c6:nK w "_law_named"=ar (ar (.ref 308)):=by kernel_rfl
 have e7:=@fk (kW w) 308 307 (KH.zs "law_tiewebs_k05_whole_tie_webs" 520) "_law_named" "_law_named" (top 55) (by kernel_rfl) (by kernel_rfl) (by kernel_rfl)
 have k0:nK w "_law_right"=ar (ar (.ref 313)):=by kernel_rfl
 have e3:=@fk (kW w) 313 312 (KH.zs "law_tiewebs_k05_whole_tie_webs" 520) "_law_right" "_law_right" (top 56) (by kernel_rfl) (by kernel_rfl) (by kernel_rfl)
 have a5:nK w "law"=ar (ar (.ref 320)):=by kernel_rfl
 have l1:=@fk (kW w) 320 319 (KH.zs "law_tiewebs_k05_whole_tie_webs" 520) "law" "law" (top 57) (by kernel_rfl) (by kernel_rfl) (by kernel_rfl)
 obtain⟨⟨ct,Pt⟩,a4⟩:=LA.mp (show(nC (kW w) "law").isSome=b_ by kernel_rfl)
 have e:=h9.symm.trans (J6 X G a5);cases e;have T:Txt (kW w) Y:=⟨by kernel_rfl,by kernel_rfl,Ks X G (by kernel_rfl),Ks X G (by kernel_rfl),Ks X G (by kernel_rfl),Ks X G (by kernel_rfl),Ks X G (by kernel_rfl),Ks X G (by kernel_rfl),Ks X G (by kernel_rfl),Ks X G (by kernel_rfl),Ks X G (by kernel_rfl),Ks X G (by kernel_rfl),Ks X G (by kernel_rfl),Ks X G (by kernel_rfl),Ks X G (by kernel_rfl),Ks X G (by kernel_rfl),Ks X G (by kernel_rfl),⟨425,J6 X G (by kernel_rfl)⟩,⟨500,J6 X G (by kernel_rfl)⟩,⟨423,J6 X G (by kernel_rfl)⟩,⟨456,J6 X G (by kernel_rfl)⟩,⟨284,J6 X G (by kernel_rfl)⟩,⟨388,J6 X G (by kernel_rfl)⟩⟩
 have GR:∀base,GrX lP w (kW w) Y base:=fun base=>Be FG X T.err aG a6 DR (by decide+kernel) (FG.binds fun _ _ _ _ _ _ us hl=>match us,hl with|[_,_,_],_=>rfl) rfl
 refine⟨B' "law" "law" (iB (top 57)) (dP (top 57)) (ai (top 57)) .none .none .none (KH.zs "law_tiewebs_k05_whole_tie_webs" 520) none (.ref 319) .none,fun s v=>.of_eq rfl,fun base GM BL=>?_⟩;have C:∀base,Mod (kW w) Y base->DefX lP w (kW w) Y base 1 "is_whole" ["thing"] cG:=fun base Z=>vd F8 (J6 X G a8) T;have y:∀base,Mod (kW w) Y base->DefX lP w (kW w) Y base 1 "is_pair" ["thing"] dm:=fun base Z=>wY F9 (J6 X G a9) T;have P:∀base,Mod (kW w) Y base->DefX lP w (kW w) Y base 1 "is_rising" ["things"] bM:=fun base Z=>tx b5 (J6 X G e2) T;have g:∀base,Mod (kW w) Y base->DefX lP w (kW w) Y base 1 "pairs_of" ["many"] dF:=fun base Z=>vf e8 (J6 X G h6) T;have B:∀base,Mod (kW w) Y base->DefX lP w (kW w) Y base 1 "are_tied" ["web","one","other"] c8:=fun base Z=>vg h2 (J6 X G h8) T;have j:∀base,Mod (kW w) Y base->DefX lP w (kW w) Y base 1 "ties_meet" ["one","other"] gc:=fun base Z=>tD h3 (J6 X G b2) T;have F:∀base,Mod (kW w) Y base->DefX lP w (kW w) Y base 1 "how_many_have" ["crowds","some"] cM:=fun base Z=>nD i3 (J6 X G l3) T;have A:∀base,Mod (kW w) Y base->DefX lP w (kW w) Y base 1 "_law_cell_at" ["_law_script","_law_k"] dq:=fun base Z=>ou d3 (J6 X G i1) T;have O:∀base,Mod (kW w) Y base->DefX lP w (kW w) Y base 1 "_law_take" ["_law_state_here","_law_many"] aY:=fun base Z=>tE c2 (J6 X G h1) T;have q:∀base,Mod (kW w) Y base->DefX lP w (kW w) Y base 1 "_law_pairs" ["_law_many"] bh:=fun base Z=>qF k2 (J6 X G g8) T;have l:∀base,Mod (kW w) Y base->DefX lP w (kW w) Y base 1 "_law_named" ["_law_web_here","_law_names"] cU:=fun base Z=>qG e7 (J6 X G c6) T;have Q:∀base,Mod (kW w) Y base->DefX lP w (kW w) Y base 2 "is_place" ["many","thing"] bU:=fun base Z=>vh n1 (J6 X G i0) T (C base Z);have a3:∀base,Mod (kW w) Y base->DefX lP w (kW w) Y base 2 "joins" ["web","some","place"] lU:=fun base Z=>Cb e6 (J6 X G b3) T (B base Z);have z:∀base,Mod (kW w) Y base->DefX lP w (kW w) Y base 2 "goes_on" ["one","other","start","place"] cN:=fun base Z=>wZ g5 (J6 X G l0) T (B base Z);have m:∀base,Mod (kW w) Y base->DefX lP w (kW w) Y base 2 "_law_state" ["_law_script","_law_k"] fF:=fun base Z=>qH j3 (J6 X G l5) T (A base Z);have R:∀base,Mod (kW w) Y base->DefX lP w (kW w) Y base 2 "_law_mixed_row" ["_law_state_here","_law_things"] bq:=fun base Z=>mC c7 (J6 X G d1) T (O base Z);have b:∀base,Mod (kW w) Y base->DefX lP w (kW w) Y base 3 "is_tie" ["many","thing"] jW:=fun base Z=>zJ i2 (J6 X G g4) T (y base Z) (Q base Z);have H:∀base,Mod (kW w) Y base->DefX lP w (kW w) Y base 3 "is_places" ["many","thing"] cV:=fun base Z=>tF f3 (J6 X G h4) T (Q base Z) (P base Z);have f:∀base,Mod (kW w) Y base->DefX lP w (kW w) Y base 3 "_law_web" ["_law_state_here","_law_most"] fP:=fun base Z=>vi e9 (J6 X G b4) T (O base Z) (q base Z) (R base Z);have k:∀base,Mod (kW w) Y base->DefX lP w (kW w) Y base 4 "is_web" ["thing"] d6:=fun base Z=>zK k3 (J6 X G c3) T (C base Z) (y base Z) (b base Z) (P base Z);have K:∀base,Mod (kW w) Y base->DefX lP w (kW w) Y base 4 "crowd_holds" ["web","thing"] c9:=fun base Z=>qm n2 (J6 X G l2) T (H base Z) (a3 base Z);have U:∀base,Mod (kW w) Y base->DefX lP w (kW w) Y base 5 "need_web" ["thing"] bc:=fun base Z=>vj j7 (J6 X G f6) T (k base Z);have p:∀base,Mod (kW w) Y base->DefX lP w (kW w) Y base 5 "are_crowds" ["web","thing"] eo:=fun base Z=>qJ i4 (J6 X G g7) T (P base Z) (K base Z);have n:∀base,Mod (kW w) Y base->DefX lP w (kW w) Y base 6 "need_place" ["web","place"] ey:=fun base Z=>qK l7 (J6 X G d2) T (Q base Z) (U base Z);have S:∀base,Mod (kW w) Y base->DefX lP w (kW w) Y base 6 "need_few_places" ["web","most"] bu:=fun base Z=>kY j0 (J6 X G j2) T (GR base) (U base Z);have J:∀base,Mod (kW w) Y base->DefX lP w (kW w) Y base 6 "degrees" ["web"] bx:=fun base Z=>w5 b6 (J6 X G e4) T (U base Z);have a0:∀base,Mod (kW w) Y base->DefX lP w (kW w) Y base 6 "within" ["web","some"] ie:=fun base Z=>zM k1 (J6 X G e5) T (H base Z) (U base Z);have E:∀base,Mod (kW w) Y base->DefX lP w (kW w) Y base 6 "need_few_ties" ["web"] cO:=fun base Z=>nE k6 (J6 X G e1) T (GR base) (U base Z);have x:∀base,Mod (kW w) Y base->DefX lP w (kW w) Y base 7 "tie_web" ["web"] bz:=fun base Z=>w6 k8 (J6 X G e0) T (g base Z) (j base Z) (E base Z);have c:∀base,Mod (kW w) Y base->DefX lP w (kW w) Y base 7 "star_of" ["web","place"] i8:=fun base Z=>w8 k7 (J6 X G h5) T (n base Z);have r:∀base,Mod (kW w) Y base->DefX lP w (kW w) Y base 7 "ties_ahead" ["web"] ez:=fun base Z=>qL l4 (J6 X G l8) T (J base Z);have N:∀base,Mod (kW w) Y base->DefX lP w (kW w) Y base 7 "need_crowded" ["web"] cH:=fun base Z=>oy c4 (J6 X G k5) T (S base Z);have L:∀base,Mod (kW w) Y base->DefX lP w (kW w) Y base 7 "need_mapped" ["one","other"] bP:=fun base Z=>qo f5 (J6 X G c1) T (U base Z) (S base Z);have d:∀base,Mod (kW w) Y base->DefX lP w (kW w) Y base 8 "is_crowd" ["web","thing"] ig:=fun base Z=>vk h7 (J6 X G k4) T (N base Z) (K base Z);have i:∀base,Mod (kW w) Y base->DefX lP w (kW w) Y base 8 "map_holds" ["one","other","thing"] d7:=fun base Z=>tG n7 (J6 X G n3) T (Q base Z) (L base Z) (z base Z);have o:∀base,Mod (kW w) Y base->DefX lP w (kW w) Y base 8 "is_sharing" ["web","thing"] eA:=fun base Z=>qM d0 (J6 X G j1) T (N base Z) (F base Z) (p base Z);have t:∀base,Mod (kW w) Y base->DefX lP w (kW w) Y base 9 "_law_right" ["_law_state_here","_law_web_here"] bW:=fun base Z=>qN e3 (J6 X G k0) T (k base Z) (J base Z) (a0 base Z) (x base Z) (c base Z) (r base Z) (d base Z) (o base Z) (O base Z);have I:∀base,Mod (kW w) Y base->DefX lP w (kW w) Y base 11 "first_map_from" ["one","other","start"] dy:=fun base Z=>mD m2 (J6 X G m1) T (z base Z);have a:∀base,Mod (kW w) Y base->DefX lP w (kW w) Y base 12 "map_to" ["one","other"] ip:=fun base Z=>zN b1 (J6 X G c5) T (J base Z) (L base Z) (I base Z);exact zO l1 T GM BL (Fi (show D1 (kW w)=b_ by kernel_rfl)) a5 a4 x i a m R f l t
end W
section
namespace W
open PySem PySem.Spec PyProof.Rows L2 S3 S4 S7
theorem Gc(K:dt)(H:Hp)(a:b')(ns:List Int)(Y:TabsOk K H)(Z:Cg K H a (ns.map V.int)):AU K rA [.ref a] H (fun v _=>v= .bl b_) fun _ _ _=>False:=by
 obtain⟨d,T,e,hd⟩:=HG (S:=[]) (ns:=ns);refine⟨[],[],[.ro (ns.map D.int)],⟨.nil,rfl,(fun k a xs h=>by cases h),Y⟩,.cons (.ro Z (pD ns)) .nil,?_⟩
 refine⟨.ok d,T,e,fun X R _ _=>?_⟩;subst hd;intro v U;cases U;rfl
theorem walk{l:Ou}{q:ed}{loose:List Str}{XP:(Str->Option a_)->f_->Prop}{YP:ee->f_->Prop}{d:OE}{K:M_->dt}(U:l.most=ar 63)(Y:d.params.defaults=[])
  (S:∀(w:ee) (h:f_),YP w h->(K w.params).In h) (X:∀w:ee,OD (K w.params)=b_)
  (Z:∀(w:ee) (h:f_),YP w h->∀y∈cQ,∀c Q,nC (K w.params) y=ar (c,Q)->NW h c Q/\h.get? Q=ar (E_ #[]))
  (F:∀(w:ee) (mg:Str->Option a_) (fa:b') (h:f_),(K w.params).In h->h.Ns g_ mg->mg d.name=ar (.ref fa)->
   ∃fd:eM,(∀(s:c_) (u:a_),G_ s fd ⟨[u],[]⟩ [("_law_script",u)])/\∀base:f_,Mod (K w.params) mg base->BaseL (K w.params) mg base->FnOk l.prog w (K w.params) mg base (nO l.prog w) 13 fa fd ["_law_script"] (AU (K w.params) rA)):
  OL q loose XP YP l.row.toRowW d [] (fun f vs=>PySem.call f vs):=
 AX (n:=63) (k:=13) (x:="_law_script") (sp:=fun w=>AU (K w.params) rA) U (by decide) Y ⟨rfl,by decide,by decide⟩ S X Z F fun w H a ns _ T R=>Gc (K w.params) H a ns T R
end W
open PySem PySem.W PyProof.Rows
set_option maxRecDepth 100000 in
set_option maxHeartbeats 0 in
theorem PySem.Challenge.cw_tiewebs_k05_whole_tie_webs_holds : PySem.Challenge.rw_tiewebs_k05_whole_tie_webs.Holds := by
 w_on;o_law
 refine holds_open (q:=KH.vq) (loose:=[]) (Xt:=KH.Xt0) (XP:=XL KH.vq []) (Yf:=Oz (Nq KH.K0 KH.as0 KH.as0_eq KH.ts0)) (Ya:=OA (Nq KH.K0 KH.as0 KH.as0_eq KH.ts0)) (YP:=Hook.says (Nq KH.K0 KH.as0 KH.as0_eq KH.ts0)) (N:=4758) KH.left0 (Hook.of (Nq KH.K0 KH.as0 KH.as0_eq KH.ts0)) (Hook.keeps (Nq KH.K0 KH.as0 KH.as0_eq KH.ts0)) (fun s e=>xl_of s (Bool.and_eq_true_iff.mp e).1) XL.keeps (by rfl) (by rfl) (by rfl) (fun s e=>recFacts_of (Bool.and_eq_true_iff.mp e).2) (by rfl) (by first|assumption|decide+kernel) (by decide+kernel) ⟨rfl,rfl,rfl,rfl,rfl,by decide+kernel⟩ ?hw ?hc
 case hw=>w_witness2
 refine W.walk (l:=PySem.Challenge.rw_tiewebs_k05_whole_tie_webs) rfl rfl (fun w h Y=>PySem.W.km_in_of Y) ?nt (fun w h Y=>S7.I0 (w:=w) ?ck Y) W.JS
 case nt=>intro w;kernel_rfl
 case ck=>kernel_rfl
end
