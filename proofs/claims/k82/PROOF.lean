import PyProof.Rows.All
import Wide.All
import OpenK.AllK
import Wide.FinOn
import PySem.Challenge.RW_tiewebs_k82_fates_told
import Lean
import PyProof.EqAt
import PyProof.EqKinds
import PyProof.TupleCall
import PyProof.SetScanFacts
import PyProof.EnumMake
import PyProof.Draws
import PyProof.ExcInit
import PyProof.ExcClass3
import PyProof.InstStore
import KE.KUnpack
import PyProof.P3In
set_option Elab.async false
set_option compiler.extract_closed false
set_option linter.all false
set_option maxRecDepth 100000
set_option maxHeartbeats 8000000
noncomputable section
open Option renaming some->ar
open Pure renaming pure->aC
open PySem renaming Value->a_,Addr->cq,Shared->c_,starEach->dt,Program->eb,wpAny->ed,World->ee,mainGlobals->er,model->eK,FuncData->fb,Heap->fc,eval->gd,Around->g_,compareOp->hO,cellsFrom->h_,importedModules->iB,behindInMarks->i1,bootBuiltins->i4,NameKind->j2,swapsWith->j3,foldedSetIterable->j7,attributeBase->j',rawInt->kS,PyData->k6,assignEach->k8,IsPair->ly,Stmt->mu,binaryOp->m1,backTo->n_,builtinsNs->p_,sliceBounds->qq,callerA->rn,holding->s_,cLine->vn,BindsTo->w_,treeTable->x',codeAmong->y2,IsZip->y3,codeAny->y4,letOwnedTupleGo->z4,Params->A1,GenState->A2,assign->A',OsState->B',PassesOwn->D',leaving->EA,Arguments->EW,noteFrame->E2,wpAny_standAt->F0,seq_tuple_add->F_,sysModules->G2,IsPart->G3,standAt->G4,concat_meets->Ic,getItem->I_,wpAny_typeOf->J_,SetTable->K',lastMarks->Lp,seqIndex?->Lr,seqIndex_of->Ly,wpAny_letGo->Lz,Keyword->LA,wpAny_Name->LB,pyNext->LC,bindArgs->LD,bindL->LF,bindC->LG,typeIs_int->LH,closureFor->LJ,field->LM,ZipApart->LN,TriplesOk->LW,onTheHeap->LY,truthy->LZ,Model->L8,again->L9,Result->Mc,DefRec->Md,intKind->Mg,setItem->Mh,getAttr->Mi
open Bool renaming true->b_,false->dr,and_eq_true->hY,false_eq_true->iA,not_eq_true'->rB,or_eq_true->z_
open PySem.W renaming Frag->dn,tabIn->j1,kitOne->l4,kas_place->m_,nsIn->nC,kas_asc->n3,kas_desc->oo,kas_rev->pa,kas_sort->p4,openSeen->ra,openGood->rb,tabObj->rA,kla_obj->r_,InstAt->u2,keepIn->u3,findIn->u_,boot_heap->v_,fnOf->wd,behindTheImports->x_,findIn->y1,kmHook->A3,CodeHd->B_,kas_bin->E1,lookIn->G_,codeIn->H_,kas_descPart->K_,kas_count->Lv,methodObj->Lw,kitAny->LL,instObj->LQ,OpenLaw->LU,kas_tail3->LV,mroIn->LX,findObj->L3,excIn->L4,clsIn->L5,exmOne->L_,kla_fn->L',notCls->Ma,noTabs->Mb,KasT->Me,OpenLaw->Mj,WalkO->Ml,clsIn->Mm,Frag->Mn
open List renaming replicate->dV,range->d_,not_mem_nil->f_,mem_cons->gg,size_toArray->i0,lookup_cons->i_,range'->k7,getD_eq_getElem?_getD->n7,length_cons->o_,all_eq_true->r7,toArray->vr,length_nil->z6,forIn_cons->z7,map_cons->E_,all_cons->GB,length->Lx,foldl->LI
open PySem.Value renaming ref->e_,none->hh,bool->l_,int->m2,builtin->t_,type->wh,str->yn,float->A_
open PySem.PyData renaming eqv->f',int->h9,depthAll->j_,eqvAll->kr,list->q_,strOk->y_,tuple->z3
open PySem.NameKind renaming free->gc,cell->lx
open False renaming elim->g8
open PySem.Builtin.SmallTypes renaming nextOf->hF,ownedTupleIsFree->i2
open PySem.Str renaming ofString->hI
open Ne renaming symm->i'
open PyProof.Rows renaming IntsAre->kT,seqObj->pz,AllBare->sh,envOfC->u4,IsTup->LP,bubble->Mf
open PySem.Builtin.Slice renaming slicePlaces->k4,sliceAdjust->pb
open True renaming intro->k_
open PySem.Builtin.Tuple renaming tupleExact->k'
open PySem.Builtin.List renaming listTooLong->la
open PySem.Obj renaming mapSeq->mh,mapFields->xy
open PySem.Heap renaming SameBut->ri
open Array renaming mk->u0,length_toList->u'
open ForInStep renaming yield->u5
open Int renaming toNat_natCast->w7
open PySem.SeqAt renaming shaped->y'
open Sum renaming inl->C_,inr->D_
open PySem.W.KasT renaming ret->J'
open Nat renaming sub_self->Lo
open Or renaming inr->LK,inl->L0
open LawfulBEq renaming eq_of_beq->LR
open PyProof.Rows.IsTup renaming new->LS
open PySem.W.Hook renaming obs->L6,val->L7
abbrev HK:=@PySem.wpAny_bind
abbrev HL:=@List.length_map
abbrev HM:=@PySem.Heap.get?_push_of_some
abbrev HN:=@Nat.le_refl
abbrev HP:=@List.length_append
abbrev HQ:=@List.getElem?_eq_some_iff
abbrev HR:=@List.getElem?_eq_getElem
abbrev HS:=@PySem.Heap.lt_size
abbrev HU:=@decide_eq_true
abbrev HV:=@PySem.wpAny_pure
abbrev HW:=@i0
abbrev HX:=@Nat.le_trans
abbrev HY:=@List.mem_cons_of_mem
abbrev HZ:=@Nat.lt_of_lt_of_le
abbrev Ia:=@PySem.Heap.get?_push_size
abbrev Ib:=@n7
abbrev Ie:=@List.length_range
abbrev Ig:=@gg
abbrev Ih:=@Nat.ne_of_lt
abbrev Ii:=@PySem.W.mg_of
abbrev Ij:=@decide_eq_false
abbrev Ik:=@List.cons.inj
abbrev Il:=@Option.some.inj
abbrev Im:=@List.mem_cons_self
abbrev Io:=@List.mem_singleton
abbrev Ip:=@decide_eq_true_eq
abbrev Iq:=@List.mem_append_right
abbrev Ir:=@r7
abbrev Iu:=@E_
abbrev Iv:=@Nat.zero_le
abbrev Iw:=@congrFun
abbrev Iy:=@List.append_assoc
abbrev Iz:=@PySem.W.mg_none_of
abbrev IA:=@List.mem_range
abbrev IB:=@List.replicate_succ
abbrev IC:=@List.mem_of_getElem?
abbrev ID:=@of_decide_eq_true
abbrev IE:=@hY
abbrev IF:=@List.getElem?_set_self
abbrev IG:=@i_
abbrev IH:=@o_
abbrev II:=@List.getElem?_append_left
abbrev IJ:=@PySem.Heap.get?_update_other
abbrev IK:=@List.map_map
abbrev IL:=@List.getElem?_map
abbrev IM:=@PySem.W.kia_one
abbrev IP:=@PySem.wpAny_truthy_bool
abbrev IQ:=@List.getElem?_set_ne
abbrev IR:=@PySem.wpAny_field
abbrev IS:=@List.mem_map
abbrev IT:=@Bool.false_ne_true
abbrev IU:=@List.pairwise_cons
abbrev IV:=@List.nodup_cons
abbrev IW:=@Option.isSome_iff_exists
abbrev IX:=@List.append_nil
abbrev IY:=@Array.getD_eq_getD_getElem?
abbrev IZ:=@PySem.W.kia_tup
abbrev I0:=@PySem.wpAny_mono
abbrev Ja:=@PyProof.Rows.slot_tuple_getitem
abbrev Jb:=@PySem.wpAny_newObj_type
abbrev Jc:=@Classical.byContradiction
abbrev Jd:=@List.getElem?_eq_none
abbrev Je:=@List.length_filter_le
abbrev Jf:=@PySem.Heap.get?_none_of_le
abbrev Jg:=@Nat.lt_irrefl
abbrev Jh:=@PySem.wpAny_holding
abbrev Ji:=@PySem.Heap.size_push
abbrev Jj:=@List.flatten_cons
abbrev Jk:=@List.mem_append
abbrev Jl:=@PyProof.Rows.callWith_type1
abbrev Jm:=@PySem.sizeLine_eq
abbrev Jn:=@PySem.F.slot_tuple_iterator_next
abbrev Jo:=@Array.getElem?_eq_some_iff
abbrev Jp:=@PySem.wpAny_call_entry
abbrev Jq:=@List.mem_filterMap
abbrev Jr:=@Array.getElem?_toList
abbrev Js:=@PySem.wpAny_setField_rec
abbrev Jt:=@PySem.wpAny_seqItems
abbrev Ju:=@PySem.wpAny_passesOwn
abbrev Jv:=@List.map_append
abbrev Jw:=@w7
abbrev Jx:=@PySem.PassesOwn.never
abbrev Jy:=@Nat.le_of_lt
abbrev Jz:=@PySem.mem_of_lookup
abbrev JA:=@List.pairwise_singleton
abbrev JB:=@Option.bind_some
abbrev JC:=@PySem.Heap.size_after_update
abbrev JD:=@PySem.wpAny_Call_Name_kw
abbrev JE:=@PySem.Obj.data_mapFields
abbrev JF:=@List.length_range'
abbrev JG:=@PySem.wpAny_execs_nil
abbrev JH:=@PySem.Heap.get?_update_self
abbrev JI:=@Nat.le_of_eq
abbrev JJ:=@List.set_append_right
abbrev JK:=@List.mem_append_left
abbrev JL:=@Bool.false_and
abbrev JM:=@List.getElem?_zip_eq_some
abbrev JN:=@List.length_take
abbrev JO:=@List.countP_cons
abbrev JP:=@Bool.not_eq_true
abbrev JQ:=@List.filterMap_cons
abbrev JR:=@List.getElem?_range
abbrev JS:=@Nat.ne_of_gt
abbrev JT:=@PySem.F.args_tuple_add_2
abbrev JU:=@List.of_mem_zip
abbrev JV:=@PySem.F.entry_tuple_add
abbrev JW:=@List.length_set
abbrev JX:=@Array.Perm.refl
abbrev JY:=@List.getElem?_take
abbrev JZ:=@List.filter_cons_of_pos
abbrev J0:=@List.filter_cons_of_neg
abbrev J1:=@Bool.eq_iff_iff
abbrev J2:=@Int.emod_lt_of_pos
abbrev J3:=@List.mem_replicate
abbrev J4:=@PySem.W.cellsFrom_some
abbrev J5:=@PySem.F.slot_tuple_add
abbrev J6:=@List.range_succ_eq_map
abbrev J7:=@PySem.W.kitx_list
abbrev J8:=@PySem.W.kitx_dict
abbrev J9:=@Nat.le_succ
abbrev Ka:=@Nat.le_of_succ_le
abbrev Kb:=@Nat.lt_succ_of_lt
abbrev Kc:=@List.mem_range'_1
abbrev Kd:=@List.pairwise_map
abbrev Ke:=@Prod.ext
abbrev Kf:=@PySem.codeAny_mono
abbrev Kg:=@List.length_replicate
abbrev Kh:=@List.map_nil
abbrev Ki:=@List.countP_mono_left
abbrev Kj:=@Int.zero_add
abbrev Kk:=@PySem.Obj.isFreed_of_fields
abbrev Kl:=@List.length_drop
abbrev Km:=@Nat.succ_le_succ
abbrev Kn:=@Nat.lt_succ_self
abbrev Ko:=@PySem.wpAny_pyIter_zip
abbrev Kq:=@List.any_eq_true
abbrev Kr:=@PySem.wpAny_updateSeq_pair
abbrev Ks:=@List.mem_of_mem_drop
abbrev Kt:=@congrArg
abbrev Ku:=@Bool.true_and
abbrev Kv:=@PySem.F.args_tuple_iterator_next_1
abbrev Kw:=@List.countP_eq_length_filter
abbrev Kx:=@List.mem_filter
abbrev Ky:=@u'
abbrev Kz:=@Nat.min_le_left
abbrev KB:=@PySem.Heap.get?_update_ne
abbrev KC:=@PySem.F.entry_tuple_iterator_next
abbrev KD:=@PySem.F.slot_zip_next
abbrev KF:=@Int.emod_nonneg
abbrev KG:=@List.map_congr_left
abbrev KI:=@PySem.Calls.Name_function_global
abbrev KJ:=@List.getElem?_append_right
abbrev KL:=@PySem.F.excBase_ValueError
abbrev KM:=@PySem.wpAny_pyIter_tuple
abbrev KN:=@List.zip_cons_cons
abbrev KO:=@List.drop_eq_getElem_cons
abbrev KP:=@PySem.wpAny_setField
abbrev KQ:=@PySem.wpAny_letOwnedTupleGo_zip
abbrev KR:=@PySem.wpAny_pyIter_list
abbrev KS:=@PySem.W.kitx_none
abbrev KU:=@List.nodup_append
abbrev KW:=@List.Perm.eq_of_pairwise
abbrev KY:=@PySem.wpAny_attempt
abbrev KZ:=@PySem.wpAny_onRaise
abbrev K1:=@List.sum_cons
abbrev K2:=@List.pairwise_replicate
abbrev K3:=@decide_eq_false_iff_not
abbrev K4:=@PySem.wpAny_eqBool_int
abbrev K5:=@PySem.wpAny_execs_cons
abbrev K6:=@PySem.noFill_tuple_add
abbrev K7:=@Nat.le_of_not_lt
abbrev K8:=@List.getElem_mem
abbrev K9:=@PySem.wpAny_isInstance
abbrev La:=@beq_self_eq_true
abbrev Lc:=@Nat.le_add_right
abbrev Ld:=@List.nodup_range
abbrev Le:=@decide_eq_decide
abbrev Lf:=@List.nil_append
abbrev Lg:=@PySem.pushCells_keeps
abbrev Lh:=@List.all_map
abbrev Li:=@PySem.wpAny_call
abbrev Lj:=@PyProof.Rows.intsAre_of
abbrev Lk:=@PySem.call_meets
abbrev Ll:=@PySem.wpAny_rule
abbrev Lm:=@Bool.and_false
abbrev Ln:=@PySem.isSubtype_stop
abbrev Lq:=@List.any_cons
abbrev Ls:=@Nat.not_lt
abbrev Lu:=@beq_iff_eq
namespace KH
open PySem PySem.W PySem.Spec PyProof.Rows
def tp(i:Nat):Stmt:=PySem.Challenge.pw_tiewebs_k82_fates_told.main.body.getD i (.Pass ⟨0,0,0,0⟩)
def iC:mu->mu
 | .ClassDef _ _ _ (b::_) .. =>b
 |s=>s
def dA(s:mu):Arguments:=match s with
 | .FunctionDef _ a _ _ _ _ _ _ _ _=>a
 |_=>{posonlyargs:=[],args:=[],vararg:=none,kwonlyargs:=[],kw_defaults:=[],kwarg:=none,defaults:=[]}
def dB(s:mu):List Stmt:=match s with
 | .FunctionDef _ _ b _ _ _ _ _ _ _=>b
 |_=>[]
def dS(s:mu):Scope:=match s with
 | .FunctionDef _ _ _ _ _ _ sc _ _ _=>sc
 |_=>{kind:=.function,names:=[],isGenerator:=dr,isCoroutine:=dr}
def zs(x:String)(t:Nat):Value:=.str (hI x) t
def ze(P:A1)(x:String)(t:Nat)(v:a_):DictEntry:=⟨PyData.keyHash P (hI x),zs x t,v⟩
def zt(xs:Array a_):Obj:=⟨.type "tuple",none,.seq xs, #[]⟩
def zc(n q:String)(a:Nat)(l ac p5 p6 fl:Int)(r8:a_)(p10:Int)(r11 r13 r14 r15:a_)(p16:Int)(t:Nat):Obj:=⟨.type "code",none,.fields #[zs n a,zs q (a+1),zs "/claim/cut.py" (a+2),.int l 0,.int ac 0,.int p5 0,.int p6 0,.int fl 0,r8,.bool b_,.int p10 0,r11,.none,r13,r14,r15,.int p16 0,.int l 0,zs "/claim/cut.py" t], #[]⟩
def zf(n q:String)(st:mu)(kV dc pm:a_)(an:Option cq)(cd ct:a_):Data:=.func (wd (hI n) (hI q) (dA st) (dB st) (dS st) .none kV dc pm an cd ct)
def zg(n q:String)(st:mu):Obj:=⟨.none,none,.func {name:=hI n,qualname:=hI q,params:=dA st,body:=.stmts (dB st),scope:=dS st,globals:=0,closure:=[],defaults:=.none,kwdefaults:=.none}, #[]⟩
def z0:Obj:=⟨.none,none,.fields #[],#[]⟩
def zp:Obj:=⟨.type "builtin_function_or_method",none,.fields #[.builtin "type.__prepare__",.type "type"],#[]⟩
def zu(a:Nat):Obj:=⟨.type "super",none,.fields #[.ref a,.ref a,.ref a],#[]⟩
def zi(a:Nat):Obj:=⟨.type "builtin_function_or_method",none,.fields #[.builtin "object.__init_subclass__",.ref a],#[]⟩
def zr(a b:Nat)(v:a_):Obj:=⟨.type "frame",none,.plain,#[ar (.ref a),ar (.ref 3),ar (.ref b),none,ar v,none,ar (.ref 0)]⟩
def zk(n:String)(a b c:Nat)(l:Int)(r:Nat)(m:Int)(s:Nat)(x y:Int)(t:Nat):Obj:=⟨.type "code",none,.fields #[zs n a,zs n b,zs "/claim/cut.py" c,.int l 0,.int 0 0,.int 0 0,.int 0 0,.int 0 0,.ref r,.bool dr,.int m 0,.ref s,.none,.none,.none,.none,.int x 0,.int y 0,zs "/claim/cut.py" t],#[]⟩
def zE(n:String)(i x a:Nat)(l ac fl:Int)(md:String)(m t:Nat):List Obj:=[zt #[],z0,zg n n (tp i),zc n n a l ac 0 0 fl (.ref x) 181 (.ref (x+1)) .none .none (.ref (x+2)) t (t+1),⟨.type "function",none,zf n n (tp i) .none .none (zs md m) none (.ref (x+3)) .none,#[]⟩]
def zD(n:String)(i x a:Nat)(l ac fl:Int)(v:Array a_)(md:String)(m t:Nat):List Obj:=[zt #[],z0,zt v,zt #[],zg n n (tp i),zc n n a l ac 0 0 fl (.ref x) 181 (.ref (x+1)) (.ref (x+2)) (.ref (x+3)) (.ref (x+4)) t (t+1),⟨.type "function",none,zf n n (tp i) .none .none (zs md m) none (.ref (x+5)) .none,#[]⟩]
def zC(P:A1)(n:String)(a t l:Nat):List Obj:=[zp,⟨(.type "dict"),none,(.dict #[ze P "__module__" (t+5) (zs "tiewebs.errors" 187),ze P "__qualname__" (t+7) (zs n (t+6)),ze P "__firstlineno__" (t+9) (.int l (t+8)),ze P "__static_attributes__" (t+10) (.ref (a+6))] 4),#[]⟩,zt #[],z0,zk n t (t+1) (t+2) l (a+2) 181 (a+3) (t+3) l (t+4),zr (a+4) (a+1) (zs "tiewebs.errors" 187),zt #[],⟨(.type "dict"),none,(.dict #[ze P "__module__" (t+5) (zs "tiewebs.errors" 187),ze P "__firstlineno__" (t+9) (.int l (t+8)),ze P "__static_attributes__" (t+10) (.ref (a+6)),ze P "__doc__" (t+11) .none] 2),#[]⟩,⟨(.type "type"),none,(.cls ⟨(hI n),[(.ref 24)],[(.ref (a+8)),(.ref 24),(.type "ValueError"),(.type "Exception"),(.type "BaseException"),(.type "object")],(a+7),(hI n),b_,[],[],dr,none,dr⟩),#[ar (.ref (a-1)),none,ar (zs n (t-2)),ar (zs n (t+6)),ar (.builtin "ValueError.__new__"),ar (.bool b_)]⟩,zu (a+8),zi (a+8),zt #[(.ref 24)]]
def ml:String:="law_tiewebs_k82_fates_told"
def L1(P:A1):List Obj:=[boot_o_0 P,boot_o_1 P,boot_o_2 P,⟨(.type "dict"),none,(.dict #[ze P "__name__" 165 (zs ml 513),ze P "__doc__" 166 .none,ze P "__package__" 167 .none,ze P "__loader__" 168 (.builtin "__main__.__loader__#opaque"),ze P "__spec__" 169 .none,ze P "__annotations__" 170 (.ref 6),ze P "__builtins__" 171 (.ref 4),ze P "__file__" 173 (zs "/claim/cut.py" 172),ze P "__cached__" 174 .none,ze P "WebError" 206 (.ref 24),ze P "NoWeb" 222 (.ref 37),ze P "NoPlace" 238 (.ref 49),ze P "NoPlaces" 254 (.ref 61),ze P "NoMap" 270 (.ref 73),ze P "NoSharing" 286 (.ref 85),ze P "NoRoot" 302 (.ref 97),ze P "NoNumber" 318 (.ref 109),ze P "NotJoined" 334 (.ref 121),ze P "NoTie" 350 (.ref 133),ze P "NoText" 366 (.ref 145),ze P "NoLine" 382 (.ref 157),ze P "NoDeed" 398 (.ref 169),ze P "TooGreat" 425 (.ref 188),ze P "MOST_PLACES" 429 (.int 14 428),ze P "is_whole" 436 (.ref 197),ze P "is_pair" 443 (.ref 204),ze P "is_place" 451 (.ref 211),ze P "is_tie" 461 (.ref 218),ze P "is_rising" 467 (.ref 223),ze P "is_web" 473 (.ref 228),ze P "need_web" 480 (.ref 235),ze P "degrees" 486 (.ref 240),ze P "pieces" 492 (.ref 245),ze P "need_joined" 499 (.ref 252),ze P "DEGREES_OF_THREE_IN_A_STAR" 506 (.ref 253),ze P "fate" 512 (.ref 258),ze P "_law_cell_at" 522 (.ref 265),ze P "_law_state" 531 (.ref 272),ze P "_law_take" 541 (.ref 279),ze P "_law_pairs" 547 (.ref 284),ze P "_law_mixed_row" 557 (.ref 291),ze P "_law_web" 563 (.ref 296),ze P "_law_named" 569 (.ref 301),ze P "_law_bad_web" 577 (.ref 308),ze P "_law_same" 583 (.ref 313),ze P "_law_refused" 589 (.ref 318),ze P "_law_kind" 595 (.ref 323),ze P "_law_joined" 606 (.ref 330),ze P "_law_due" 612 (.ref 335),ze P "law" 623 (.ref 342)] 50),#[]⟩,boot_o_4 P,boot_o_5 P,boot_o_6 P,boot_o_7 P,boot_o_8 P,boot_o_9 P,boot_o_10 P,zt #[],⟨.none,none,(.fields #[(.int 2 0),(.int 0 0),(.ref 20),(.int 4 0),(.int 0 0),(.ref 33),(.int 6 0),(.int 0 0),(.ref 45),(.int 8 0),(.int 0 0),(.ref 57),(.int 10 0),(.int 0 0),(.ref 69),(.int 12 0),(.int 0 0),(.ref 81),(.int 14 0),(.int 0 0),(.ref 93),(.int 16 0),(.int 0 0),(.ref 105),(.int 18 0),(.int 0 0),(.ref 117),(.int 20 0),(.int 0 0),(.ref 129),(.int 22 0),(.int 0 0),(.ref 141),(.int 24 0),(.int 0 0),(.ref 153),(.int 26 0),(.int 0 0),(.ref 165),(.int 28 0),(.int 0 0),(.ref 177),(.int 35 0),(.int 0 0),(.ref 196),(.int 37 0),(.int 0 0),(.ref 203),(.int 39 0),(.int 0 0),(.ref 210),(.int 41 0),(.int 0 0),(.ref 217),(.int 46 0),(.int 0 0),(.ref 222),(.int 48 0),(.int 0 0),(.ref 227),(.int 55 0),(.int 0 0),(.ref 234),(.int 58 0),(.int 0 0),(.ref 239),(.int 62 0),(.int 0 0),(.ref 244),(.int 72 0),(.int 0 0),(.ref 251),(.int 77 0),(.int 0 0),(.ref 257),(.int 89 0),(.int 0 0),(.ref 264),(.int 93 0),(.int 0 0),(.ref 271),(.int 98 0),(.int 0 0),(.ref 278),(.int 107 0),(.int 0 0),(.ref 283),(.int 112 0),(.int 0 0),(.ref 290),(.int 118 0),(.int 0 0),(.ref 295),(.int 132 0),(.int 0 0),(.ref 300),(.int 134 0),(.int 0 0),(.ref 307),(.int 139 0),(.int 0 0),(.ref 312),(.int 147 0),(.int 0 0),(.ref 317),(.int 162 0),(.int 0 0),(.ref 322),(.int 176 0),(.int 0 0),(.ref 329),(.int 185 0),(.int 0 0),(.ref 334),(.int 194 0),(.int 0 0),(.ref 341)]),#[]⟩,⟨(.type "code"),none,(.fields #[(zs "<module>" 182),(zs "<module>" 183),(zs "/claim/cut.py" 184),(.int 1 0),(.int 0 0),(.int 0 0),(.int 0 0),(.int 0 0),(.ref 11),(.bool dr),(.int 181 0),(.ref 12),.none,.none,.none,.none,(.int 185 0),(.int 1 0),(zs "/claim/cut.py" 186)]),#[]⟩,zr 13 3 (zs "__main__" 164),zt #[(.type "ValueError")],zp,⟨(.type "dict"),none,(.dict #[ze P "__module__" 196 (zs "tiewebs.errors" 187),ze P "__qualname__" 198 (zs "WebError" 197),ze P "__firstlineno__" 200 (.int 2 199),ze P "__static_attributes__" 201 (.ref 22)] 4),#[]⟩,zt #[],z0,zk "WebError" 191 192 193 2 18 181 19 194 2 195,zr 20 17 (zs "tiewebs.errors" 187),zt #[],⟨(.type "dict"),none,(.dict #[ze P "__module__" 196 (zs "tiewebs.errors" 187),ze P "__firstlineno__" 200 (.int 2 199),ze P "__static_attributes__" 201 (.ref 22),ze P "__weakref__" 203 (.ref 25),ze P "__doc__" 204 .none] 3),#[]⟩,⟨(.type "type"),none,(.cls ⟨(hI "WebError"),[(.type "ValueError")],[(.ref 24),(.type "ValueError"),(.type "Exception"),(.type "BaseException"),(.type "object")],23,(hI "WebError"),b_,[],[(.ref 37),(.ref 49),(.ref 61),(.ref 73),(.ref 85),(.ref 97),(.ref 109),(.ref 121),(.ref 133),(.ref 145),(.ref 157),(.ref 169),(.ref 188)],dr,none,dr⟩),#[ar (.ref 15),none,ar (zs "WebError" 189),ar (zs "WebError" 197),ar (.builtin "ValueError.__new__"),ar (.bool b_)]⟩,⟨(.type "getset_descriptor"),none,(.fields #[(zs "__weakref__" 202),(.ref 24),(.builtin "ExceptionGroup.__weakref__"),.none]),#[]⟩,zu 24,zi 24,zt #[(.ref 24)]]++zC P "NoWeb" 29 209 4++zC P "NoPlace" 41 225 6++zC P "NoPlaces" 53 241 8++zC P "NoMap" 65 257 10++zC P "NoSharing" 77 273 12++zC P "NoRoot" 89 289 14++zC P "NoNumber" 101 305 16++zC P "NotJoined" 113 321 18++zC P "NoTie" 125 337 20++zC P "NoText" 137 353 22++zC P "NoLine" 149 369 24++zC P "NoDeed" 161 385 26++[zp,⟨(.type "dict"),none,(.dict #[ze P "__module__" 406 (zs "tiewebs.errors" 187),ze P "__qualname__" 408 (zs "TooGreat" 407),ze P "__firstlineno__" 410 (.int 28 409),ze P "__init__" 419 (.ref 185),ze P "__static_attributes__" 422 (.ref 186)] 5),#[]⟩,zt #[],⟨.none,none,(.fields #[(.int 30 0),(.int 4 0),(.ref 184)]),#[]⟩,zk "TooGreat" 401 402 403 28 175 181 176 404 28 405,zr 177 174 (zs "tiewebs.errors" 187),zt #[],z0,zt #[(zs "self" 414),(zs "many" 415),(zs "most" 416)],zt #[],zg "__init__" "TooGreat.__init__" (iC (tp 14)),zc "__init__" "TooGreat.__init__" 411 30 3 0 0 3 (.ref 179) 181 (.ref 180) (.ref 181) (.ref 182) (.ref 183) 417 418,⟨.type "function",none,(zf "__init__" "TooGreat.__init__" (iC (tp 14)) .none .none (zs "tiewebs.errors" 187) none (.ref 184) .none),#[]⟩,zt #[(zs "many" 420),(zs "most" 421)],⟨(.type "dict"),none,(.dict #[ze P "__module__" 406 (zs "tiewebs.errors" 187),ze P "__firstlineno__" 410 (.int 28 409),ze P "__init__" 419 (.ref 185),ze P "__static_attributes__" 422 (.ref 186),ze P "__doc__" 423 .none] 2),#[]⟩,⟨(.type "type"),none,(.cls ⟨(hI "TooGreat"),[(.ref 24)],[(.ref 188),(.ref 24),(.type "ValueError"),(.type "Exception"),(.type "BaseException"),(.type "object")],187,(hI "TooGreat"),b_,[],[],dr,none,dr⟩),#[ar (.ref 172),none,ar (zs "TooGreat" 399),ar (zs "TooGreat" 407),ar (.builtin "ValueError.__new__"),ar (.bool b_)]⟩,zu 188,zi 188]++zD "is_whole" 17 191 430 35 1 3 #[zs "thing" 433] "tiewebs.webs" 426 434++zD "is_pair" 18 198 437 37 1 3 #[zs "thing" 440] "tiewebs.webs" 426 441++zD "is_place" 19 205 444 39 2 3 #[zs "many" 447,zs "thing" 448] "tiewebs.webs" 426 449++zD "is_tie" 20 212 452 41 2 3 #[zs "many" 455,zs "thing" 456,zs "low" 457,zs "high" 458] "tiewebs.webs" 426 459++zE "is_rising" 21 219 462 46 1 3 "tiewebs.webs" 426 465++zE "is_web" 22 224 468 48 1 3 "tiewebs.webs" 426 471++zD "need_web" 23 229 474 55 1 3 #[zs "thing" 477] "tiewebs.webs" 426 478++zE "degrees" 24 236 481 58 1 3 "tiewebs.webs" 426 484++zE "pieces" 25 241 487 62 1 3 "tiewebs.webs" 426 490++zD "need_joined" 26 246 493 72 1 3 #[zs "web" 496] "tiewebs.webs" 426 497++[zt #[(.int 1 502),(.int 1 503),(.int 1 504),(.int 3 505)]]++zE "fate" 29 254 507 77 1 3 "tiewebs.again" 500 510++zD "_law_cell_at" 31 259 515 89 2 3 #[zs "_law_script" 518,zs "_law_k" 519] ml 513 520++zD "_law_state" 32 266 523 93 2 3 #[zs "_law_script" 526,zs "_law_k" 527,zs "_law_cell" 528] ml 513 529++zD "_law_take" 33 273 532 98 2 3 #[zs "_law_state_here" 535,zs "_law_many" 536,zs "_law_found" 537,zs "_law_stirred" 538] ml 513 539++zE "_law_pairs" 34 280 542 107 1 3 ml 513 545++zD "_law_mixed_row" 35 285 548 112 2 3 #[zs "_law_state_here" 551,zs "_law_things" 552,zs "_law_left" 553,zs "_law_found" 554] ml 513 555++zE "_law_web" 36 292 558 118 2 3 ml 513 561++zE "_law_named" 37 297 564 132 2 3 ml 513 567++zD "_law_bad_web" 38 302 570 134 1 3 #[zs "_law_state_here" 573,zs "_law_some" 574] ml 513 575++zE "_law_same" 39 309 578 139 2 3 ml 513 581++zE "_law_refused" 40 314 584 147 1 3 ml 513 587++zE "_law_kind" 41 319 590 162 1 3 ml 513 593++zD "_law_joined" 42 324 596 176 1 3 #[zs "_law_web_here" 599,zs "_law_here" 600,zs "_law_turn" 601,zs "_law_one" 602,zs "_law_other" 603] ml 513 604++zE "_law_due" 43 331 607 185 1 3 ml 513 610++[zt #[],z0,zt #[(zs "_law_script" 616),(zs "_law_k" 617),(zs "_law_state_here" 618)],zt #[(zs "_law_bad" 619),(zs "_law_web_here" 620)],zg "law" "law" (tp 44),zc "law" "law" 613 194 1 0 0 3 (.ref 336) 181 (.ref 337) (.ref 338) (.ref 339) (.ref 340) 621 622,⟨.type "function",none,(zf "law" "law" (tp 44) .none .none (zs ml 513) none (.ref 341) .none),#[]⟩]
def Lb(P:A1):List Obj:=[boot_o_0 P,boot_o_1 P,boot_o_2 P,boot_o_3 P,boot_o_4 P,boot_o_5 P,boot_o_6 P,boot_o_7 P,boot_o_8 P,boot_o_9 P,boot_o_10 P,zt #[],z0,⟨(.type "code"),none,(.fields #[(zs "<module>" 182),(zs "<module>" 183),(zs "/claim/cut.py" 184),(.int 1 0),(.int 0 0),(.int 0 0),(.int 0 0),(.int 0 0),(.ref 11),(.bool dr),(.int 181 0),(.ref 12),.none,.none,.none,.none,(.int 185 0),(.int 1 0),(zs "/claim/cut.py" 186)]),#[]⟩,zr 13 3 (zs "__main__" 164)]
def as0:List Addr:=[2,3,15,22,23,24,25,28,35,36,37,40,47,48,49,52,59,60,61,64,71,72,73,76,83,84,85,88,95,96,97,100,107,108,109,112,119,120,121,124,131,132,133,136,143,144,145,148,155,156,157,160,167,168,169,172,179,181,182,184,185,186,187,188,191,193,194,196,197,198,200,201,203,204,205,207,208,210,211,212,214,215,217,218,219,222,223,224,227,228,229,231,232,234,235,236,239,240,241,244,245,246,248,249,251,252,253,254,257,258,259,261,262,264,265,266,268,269,271,272,273,275,276,278,279,280,283,284,285,287,288,290,291,292,295,296,297,300,301,302,304,305,307,308,309,312,313,314,317,318,319,322,323,324,326,327,329,330,331,334,335,336,338,339,341,342]
def ts0:List Addr:=[337]
def vq:Program:={PySem.Challenge.pw_tiewebs_k82_fates_told with main:={PySem.Challenge.pw_tiewebs_k82_fates_told.main with body:=[tp 1,tp 2,tp 3,tp 4,tp 5,tp 6,tp 7,tp 8,tp 9,tp 10,tp 11,tp 12,tp 13,tp 14,tp 16,tp 17,tp 18,tp 19,tp 20,tp 21,tp 22,tp 23,tp 24,tp 25,tp 26,tp 28,tp 29,tp 31,tp 32,tp 33,tp 34,tp 35,tp 36,tp 37,tp 38,tp 39,tp 40,tp 41,tp 42,tp 43,tp 44]}}
def alt:Bool->List Obj->List Obj
 |_,[]=>[]
 |true,a::r=>a::alt dr r
 |false,_::r=>alt b_ r
def toT:Nat->List Obj->BT
 |0,_=>.nil
 |_+1,[]=>.nil
 |f+1,o::r=>.node o (toT f (alt b_ r)) (toT f (alt dr r))
def pick:Nat->List cq->List Obj->dn
 |i,as,o::os=>match as with
  |a::r=>if Nat.beq i a then (a,o)::pick (i+1) r os else pick (i+1) (a::r) os
  |[]=>[]
 |_,_,[]=>[]
def K0(P:A1):W.Frag:=pick 0 as0 (L1 P)
theorem as0_eq:∀P,as0=(K0 P).map (·.1):=fun _=>by kernel_rfl
abbrev pw:Program:=PySem.Challenge.pw_tiewebs_k82_fates_told
abbrev Xt0(s:c_):Bool:=xlAt vq [] s && recOk (RowW.records (OpenRow.toRowW (OpenLaw.row PySem.Challenge.rw_tiewebs_k82_fates_told))) s
def lf:Life:={}
def en:Env:={scope:=pw.main.scope,locals:=mainNs,globals:=mainNs,cells:=[],code:=(.ref 13),frame:=ar 14}
abbrev cE:Code:=.body (x_ pw) en
abbrev Bf:List Frame:=[topFrame ⟨0,0,0,0⟩]
abbrev S0(w:ee)(os:B'):Shared:=⟨v_ w.params,u0 [],boot_drawn,boot_toks,os⟩
abbrev Sb(w:ee)(os:B'):SharedT:=⟨toT 12 (Lb w.params),15,lf,u0 [],⟨0,0,0,0⟩,187,os⟩
abbrev Sm(w:ee)(os:B'):SharedT:=⟨toT 12 (L1 w.params),343,lf,u0 [],⟨0,0,0,0⟩,624,os⟩
abbrev Sf(w:ee)(os:B'):Shared:=⟨⟨u0 (L1 w.params),lf⟩,u0 [],⟨0,0,0,0⟩,624,os⟩
theorem F9:∀w,(fun os=>topGo x' pw w 11 (ar (.ref 6)) 12 (S0 w os) (topStub pw))=fun os=>ar ((Sb w os).abs,⟨denote x' cE,cE,⟨0,0,0,0⟩,Bf⟩):=fun w=>by kernel_rfl
theorem Ci:∀w,(fun os=>segRun x' pw w 11 (ar (.ref 6)) 1 1 (Sb w os).abs (blockOf (x_ pw) en cE ⟨0,0,0,0⟩ Bf))=fun os=>ar (.next,(Sb w os).abs,cE,⟨0,0,0,0⟩):=fun w=>by kernel_rfl
theorem Eh:∀w,(fun os=>segRunT x' pw w 11 (ar (.ref 6)) 1 3760 (Sb w os) (piecesOf (x_ pw) en cE ⟨0,0,0,0⟩ Bf))=fun os=>ar (.next,Sm w os,cE,⟨194,0,206,72⟩):=fun w=>by kernel_rfl
theorem Ga:∀w,(fun os=>topRun x' pw w 11 (ar (.ref 6)) 2 (Sm w os).abs ⟨doneF .next,cE,⟨194,0,206,72⟩,Bf⟩)=fun os=>ar (Sf w os):=fun w=>by kernel_rfl
theorem Gb(w:ee)(os:B'):topRun x' pw w 11 (ar (.ref 6)) (12+(1+(3760+2))) (S0 w os) (topStub pw)=ar (Sf w os):=
 go_top (Iw (F9 w) os) (piece_block (Iw (Ci w) os) (by
  have:=piece_app (rest:=[]) (segRun_of (Iw (Eh w) os)) (piece_nil (Iw (Ga w) os));rw[IX]at this;exact this))
theorem Ei:∀w:ee,((v_ w.params).isNs er && (u0 []:Array A2).size==0,(v_ w.params).objs.size,(v_ w.params).nsMap er "__annotations__")=(b_,11,(ar (.ref 6))):=fun w=>by kernel_rfl
theorem Ej:∀w os,(staticsOk (iB pw.main.body) (v_ w.params) (Sf w os).heap && namesBound pw (Sf w os).heap && gensDone (Sf w os) && laidKept (v_ w.params) (Sf w os).heap)=true:=fun w os=>by kernel_rfl
theorem Gc:∀w os,(ra vq [] (iB pw.main.body) Xt0 b_ (Sf w os)).1=(rb vq []).1:=fun w os=>by kernel_rfl
theorem Gd:∀w os,(ra vq [] (iB pw.main.body) Xt0 b_ (Sf w os)).2.1=(rb vq []).2.1:=fun w os=>by kernel_rfl
theorem Ge:∀w os,(ra vq [] (iB pw.main.body) Xt0 b_ (Sf w os)).2.2.1=(rb vq []).2.2.1:=fun w os=>by kernel_rfl
theorem Gf:∀w os,(ra vq [] (iB pw.main.body) Xt0 b_ (Sf w os)).2.2.2.1=(rb vq []).2.2.2.1:=fun w os=>by kernel_rfl
theorem Gg:∀w os,(ra vq [] (iB pw.main.body) Xt0 b_ (Sf w os)).2.2.2.2.1=(rb vq []).2.2.2.2.1:=fun w os=>by kernel_rfl
theorem Gh:∀w os,(ra vq [] (iB pw.main.body) Xt0 b_ (Sf w os)).2.2.2.2.2.1=(rb vq []).2.2.2.2.2.1:=fun w os=>by kernel_rfl
theorem Gi:∀w os,(ra vq [] (iB pw.main.body) Xt0 b_ (Sf w os)).2.2.2.2.2.2.1=(rb vq []).2.2.2.2.2.2.1:=fun w os=>by kernel_rfl
theorem Gj:∀w os,(ra vq [] (iB pw.main.body) Xt0 b_ (Sf w os)).2.2.2.2.2.2.2.1=(rb vq []).2.2.2.2.2.2.2.1:=fun w os=>by kernel_rfl
theorem Gk:∀w os,(ra vq [] (iB pw.main.body) Xt0 b_ (Sf w os)).2.2.2.2.2.2.2.2=(rb vq []).2.2.2.2.2.2.2.2:=fun w os=>by kernel_rfl
theorem El:∀w os,L6 (A3 K0 as0 as0_eq ts0) (Sf w os)=L7 (A3 K0 as0 as0_eq ts0) w:=fun w os=>by kernel_rfl
theorem Em(w:ee)(os:B'):ra vq [] (iB pw.main.body) Xt0 b_ (Sf w os)=rb vq []:=Ke (Gc w os) (Ke (Gd w os) (Ke (Ge w os) (Ke (Gf w os) (Ke (Gg w os) (Ke (Gh w os) (Ke (Gi w os) (Ke (Gj w os) (Gk w os))))))))
theorem left0:LeftO (OpenLaw.row PySem.Challenge.rw_tiewebs_k82_fates_told).prog vq [] Xt0 (L6 (A3 K0 as0 as0_eq ts0)) (L7 (A3 K0 as0 as0_eq ts0)) 7644:=
 LeftO.of_pieces (p:=pw) (H₀:=v_) (H₁:=fun P=>⟨u0 (L1 P),lf⟩) (gs₀:=u0 []) (gs₁:=u0 []) (d₀:=boot_drawn) (d₁:=⟨0,0,0,0⟩) (k₀:=boot_toks) (k₁:=624) (M:=12+(1+(3760+2))) (boot_open (p:=pw) (by kernel_rfl) (by decide) (fun s=>by kernel_rfl)) Ei Gb (by decide) fun w=>funext fun os=>Ke (Ej w os) (Ke (Em w os) (El w os))
end KH
section
namespace L2
open PySem PySem.Spec PyProof.Rows
abbrev Key:=Sum Int Str
def BP:Key->a_->Bool
 | .inl k,v=>Value.isInt k v
 | .inr x,v=>Value.isStrOf x v
def Gm(w:ee):Key->Int
 | .inl k=>hashInt k
 | .inr x=>hashStr w x
theorem cF:∀{k:Key} {v:a_},BP k v=b_->(∃i t,k=C_ i/\v=m2 i t)\/(∃x t,k=D_ x/\v=yn x t)
 | .inl i,v,h=>by
  obtain⟨t,e⟩:=Value.isInt_shape (k:=i) (v:=v) h;exact .inl ⟨i,t,rfl,e⟩
 | .inr x,v,h=>by
  obtain⟨t,e⟩:=Value.isStrOf_shape (x:=x) (v:=v) h;exact .inr ⟨x,t,rfl,e⟩
theorem Cj(a b:Int):decide ((C_ a:Key)=C_ b)=(a==b):=by
 by_cases e:a=b
 ·subst e;simp
 ·have h:¬ (C_ a:Key)=C_ b:=fun q=>e (Sum.inl.inj q);rw[Ij h];exact(beq_eq_false_iff_ne.mpr e).symm
theorem Ck(a b:Str):decide ((D_ a:Key)=D_ b)=decide (a=b):=by
 by_cases e:a=b
 ·subst e;simp
 ·have h:¬ (D_ a:Key)=D_ b:=fun q=>e (Sum.inr.inj q);rw[Ij h,Ij e]
theorem Cm(a:Int)(b:Str):decide ((C_ a:Key)=D_ b)=false:=Ij (fun q=>nomatch q)
theorem Cn(a:Str)(b:Int):decide ((D_ a:Key)=C_ b)=false:=Ij (fun q=>nomatch q)
def pT(prog:eb)(w:ee):PySem.KeyKind prog w Key where
 is:=BP
 hash:=Gm w
 inj:=fun v a b ha hb=>by
  rcases cF ha with⟨i,t,rfl,rfl⟩|⟨x,t,rfl,rfl⟩
  ·rcases cF hb with⟨j,u,rfl,e⟩|⟨y,u,rfl,e⟩
   ·injection e with e1 _;rw[e1]
   ·exact nomatch e
  ·rcases cF hb with⟨j,u,rfl,e⟩|⟨y,u,rfl,e⟩
   ·exact nomatch e
   ·injection e with e1 _;rw[e1]
 byValue:=fun k v h=>by
  rcases cF h with⟨i,t,rfl,rfl⟩|⟨x,t,rfl,rfl⟩<;>rfl
 pyHash:=fun hv h=>by
  rcases cF hv with⟨i,t,rfl,rfl⟩|⟨x,t,rfl,rfl⟩
  ·exact wpAny_pyHash_int h
  ·exact wpAny_pyHash_str h
 eqBool:=fun hu hv h=>by
  rcases cF hu with⟨i,t,rfl,rfl⟩|⟨x,t,rfl,rfl⟩
  ·rcases cF hv with⟨j,u,rfl,rfl⟩|⟨y,u,rfl,rfl⟩
   ·rw[Cj]at h;exact K4 h
   ·rw[Cm]at h;exact SeqAt.EqAt.int_str i t y u _ _ _ _ h
  ·rcases cF hv with⟨j,u,rfl,rfl⟩|⟨y,u,rfl,rfl⟩
   ·rw[Cn]at h;exact SeqAt.EqAt.str_int x t j u _ _ _ _ h
   ·rw[Ck]at h;exact wpAny_eqBool_str h
 «strs»:=fun k x t v h=>by
  rcases cF h with⟨i,u,rfl,e⟩|⟨y,u,rfl,e⟩
  ·exact nomatch e
  ·injection e with e1 _;subst e1;cases v<;>rfl
end L2
namespace L2
open PySem PySem.Spec PyProof.Rows
inductive V where
 |non|bl (b:Bool)|int (i:Int)|str (x:Str)|byt (b:Array UInt8)|flt (b:UInt64)|ref (a:cq)|ty (n:String)
 deriving DecidableEq
def RelV:V->a_->Prop
 | .non,u=>u=hh
 | .bl b,u=>u=l_ b
 | .int i,u=>∃t,u=m2 i t
 | .str x,u=>∃t,u=yn x t
 | .byt b,u=>∃t,u=Value.bytes b t
 | .flt b,u=>∃t,u=A_ b t
 | .ref a,u=>u=e_ a
 | .ty n,u=>u=wh n
abbrev bb:List V->List a_->Prop:=Paired RelV
theorem bb.length{xs:List V}{us:List a_}(r:bb xs us):xs.length=us.length:=Paired.length r
theorem bb.get:∀{xs:List V} {us:List a_} {i:Nat} {x:V},bb xs us->xs[i]? =ar x->∃u,us[i]? =ar u/\RelV x u
 |_,_,_,_,.nil,e=>by simp at e
 |_,_,0,_,.cons r _,e=>by simp at e;subst e;exact⟨_,rfl,r⟩
 |_,_,i+1,x,.cons _ t,e=>by
  obtain⟨u,Y,Z⟩:=bb.get (i:=i) (x:=x) t (by simpa using e)
  exact⟨u,by simpa using Y,Z⟩
theorem bb.set(r:RelV x u):∀{xs:List V} {us:List a_} (i:Nat),bb xs us->bb (xs.set i x) (us.set i u)
 |_,_,_,.nil=>.nil
 |_,_,0,.cons _ t=>.cons r t
 |_,_,i+1,.cons q t=>.cons q (bb.set r i t)
theorem bb.append:∀{xs ys:List V} {us ws:List a_},bb xs us->bb ys ws->bb (xs++ys) (us++ws)
 |_,_,_,_,.nil,s=>s
 |_,_,_,_,.cons r t,s=>.cons r (bb.append t s)
theorem bb.take:∀{xs:List V} {us:List a_} (n:Nat),bb xs us->bb (xs.take n) (us.take n)
 |_,_,0,_=>.nil
 |_,_,_+1,.nil=>.nil
 |_,_,n+1,.cons r t=>.cons r (bb.take n t)
theorem bb.drop:∀{xs:List V} {us:List a_} (n:Nat),bb xs us->bb (xs.drop n) (us.drop n)
 |_,_,0,r=>r
 |_,_,_+1,.nil=>.nil
 |_,_,n+1,.cons _ t=>bb.drop n t
def rq:Option V->Option a_->Prop
 |some v,ar u=>RelV v u
 |none,none=>True
 |_,_=>False
def KV{κ:Type}:List (κ×V)->List (κ×a_)->Prop:=Paired fun(p:κ×V) (q:κ×a_)=>p.1=q.1/\RelV p.2 q.2
def kV:Key->V
 | .inl i=>.int i
 | .inr x=>.str x
inductive HO where
 |lst (xs:List V)
 |tup (xs:List V)
 |dK (kvs:List (Key×V))|dT (kvs:List (List Key×V))
 |set (S:Int->Bool) (n:Nat)
 |ins (C dx:cq) (fs:List (Str×V))
 |own (x:cq)
 |xd (fs:List (Str×V))
 |met (f x:cq)
 |rng (lo hi:Int)
 |frz (o:Obj) (u:HO)
 |tbl (ps:Array a_)
 |ext (φ:fc->Prop)
abbrev Hp:=cq->Option HO
def upd(H:Hp)(a:cq)(o:HO):Hp:=fun b=>if b=a then ar o else H b
theorem bg:upd H a o a=ar o:=by unfold upd;rw[if_pos rfl]
theorem aJ{H:Hp}(h:b≠a):upd H a o b=H b:=by unfold upd;rw[if_neg h]
theorem aM{H:Hp}(h:H a=ar o)(h':H b=none):a≠b:=by
 intro e;subst e;rw[h]at h';cases h'
section
variable (P:eb)(w:ee)
def bx(H:Hp)(h:fc)(a:cq):HO->Prop
 | .lst xs=>xs.length<=sizeLine/\∃(its:List a_) (n:Nat),bb xs its/\h.get? a=ar {cls:=.type "list",data:=.seq its.toArray n}
 | .tup xs=>(xs.length<=sizeLine/\∃o,h.get? a=ar o/\o.dict=none)/\∃its:List a_,bb xs its/\LP h a its.toArray
 | .dK kvs=>kvs.length<=sizeLine/\(a==G2)=dr/\∃vs,KV kvs vs/\h.DictOf (pT P w) a vs
 | .dT kvs=>kvs.length<=sizeLine/\(a==G2)=dr/\∃xs:List (List Key×cq×a_),
   Paired (fun(p:List Key×V) (q:List Key×cq×a_)=>p.1=q.1/\H q.2.1=ar (.tup (p.1.map kV))/\RelV p.2 q.2.2) kvs xs/\
   ∃o es ep,h.get? a=ar o/\o.ExactDict/\o.data= .dict es ep/\es.toList=xs.map (entryOfKey (tupleKind (pT P w)))/\(xs.map (·.1)).Nodup
 | .set S n=>h.SetOf (Mg P w) a S n
 | .ins C dx fs=>H dx=ar (.own a)/\fs.length<=1000/\dx≠a/\h.get? a=ar (LQ C dx)/\
   ∃mA,h.Ns1 dx mA/\(∀f,rq (fs.lookup f) (mA f))/\PySem.Within mA (fs.map (·.1))
 | .own _=>∃o,h.get? a=ar o
 | .xd fs=>∃mA,h.Ns1 a mA/\∀f,rq (fs.lookup f) (mA f)
 | .rng lo hi=>∃t u v,h.get? a=ar {cls:=.type "range",data:=.fields #[.int lo t,.int hi u,.int 1 v]}
 | .frz o u=>h.get? a=ar o/\bx H h a u
 | .tbl ps=>h.get? a=ar {cls:=.none,data:=.fields ps}
 | .met f x=>h.get? a=ar (Lw (.ref f) (.ref x))
 | .ext φ=>φ h/\(∃o,h.get? a=ar o)/\∀h1 h2:fc,φ h1->(∀o,h1.get? a=ar o->h2.get? a=ar o)->φ h2
theorem pU{h:fc}{xs:List V}{Z:Array a_}(z:xs.length<=sizeLine):xs.length<=sizeLine/\∃o,(h.push {cls:=.type "tuple",data:=.seq Z}).get? h.objs.size=ar o/\o.dict=none:=⟨z,_,Ia _ rfl,rfl⟩
def fK(H:Hp)(h:fc):Prop:=∀a o,H a=ar o->bx P w H h a o
end
section
variable {P:eb}{w:ee}{H H':Hp}{h h':fc}{a:cq}{o:HO}
theorem bx.lt(x:bx P w H h a o):a<h.objs.size:=by
 cases o with
 |lst xs=>obtain⟨_,_,_,_,e⟩:=x;exact HS e
 |tup xs=>obtain⟨_,_,_,p⟩:=x;exact p.lt
 |dK kvs=>obtain⟨_,_,_,_,o,_,_,e,_⟩:=x;exact HS e
 |dT kvs=>obtain⟨_,_,_,_,o,_,_,e,_⟩:=x;exact HS e
 |set S n=>obtain⟨o,_,_,_,e,_⟩:=x;exact HS e
 |ins C dx fs=>obtain⟨_,_,_,e,_⟩:=x;exact HS e
 |own y=>obtain⟨_,e⟩:=x;exact HS e
 |xd fs=>obtain⟨_,⟨_,_,_,e,_⟩,_⟩:=x;exact HS e
 |rng lo hi=>obtain⟨_,_,_,e⟩:=x;exact HS e
 |frz ob u=>obtain⟨e,_⟩:=x;exact HS e
 |tbl ps=>exact HS (show h.get? a=ar _ from x)
 |met f y=>exact HS (show h.get? a=ar _ from x)
 |ext φ=>obtain⟨_,⟨_,e⟩,_⟩:=x;exact HS e
theorem Paired.mapP{α Z:Type}{F G:α->Z->Prop}:∀{l₁:List α} {l₂:List Z},Paired F l₁ l₂->(∀a b,F a b->G a b)->Paired G l₁ l₂
 |_,_,.nil,_=>.nil
 |_,_,.cons r t,f=>.cons (f _ _ r) (Paired.mapP t f)
theorem bx.stay(x:bx P w H h a o)(k:∀b u,(b=a\/H b=ar (.own a))->h.get? b=ar u->h'.get? b=ar u)
  (U:∀b,H b=ar (.own a)->H' b=ar (.own a)) (R:∀b xs,H b=ar (.tup xs)->H' b=ar (.tup xs)):bx P w H' h' a o:=by
 induction o with
 |lst xs=>obtain⟨z,its,n,r,e⟩:=x;exact⟨z,its,n,r,k _ _ (.inl rfl) e⟩
 |tup xs=>obtain⟨⟨z,O,Q,T⟩,its,r,Z,e,c⟩:=x;exact⟨⟨z,O,k _ _ (.inl rfl) Q,T⟩,its,r,Z,k _ _ (.inl rfl) e,c⟩
 |dK kvs=>obtain⟨z,y,vs,r,Z,es,Y,e,c⟩:=x;exact⟨z,y,vs,r,Z,es,Y,k _ _ (.inl rfl) e,c⟩
 |dT kvs=>
  obtain⟨z,y,xs,r,Z,es,Y,e,c⟩:=x;exact⟨z,y,xs,Paired.mapP r fun p q z=>⟨z.1,R _ _ z.2.1,z.2.2⟩,Z,es,Y,k _ _ (.inl rfl) e,c⟩
 |set S n=>obtain⟨Z,es,Y,t,e,c⟩:=x;exact⟨Z,es,Y,t,k _ _ (.inl rfl) e,c⟩
 |ins C dx fs=>
  obtain⟨d,z,ne,e,X,⟨od,es,Y,e2,c⟩,r⟩:=x;exact⟨U _ d,z,ne,k _ _ (.inl rfl) e,X,⟨od,es,Y,k _ _ (.inr d) e2,c⟩,r⟩
 |own y=>obtain⟨Z,e⟩:=x;exact⟨Z,k _ _ (.inl rfl) e⟩
 |xd fs=>obtain⟨X,⟨od,es,Y,e,c⟩,r⟩:=x;exact⟨X,⟨od,es,Y,k _ _ (.inl rfl) e,c⟩,r⟩
 |rng lo hi=>obtain⟨t,u,v,e⟩:=x;exact⟨t,u,v,k _ _ (.inl rfl) e⟩
 |frz Z u ih=>obtain⟨e,q⟩:=x;exact⟨k _ _ (.inl rfl) e,ih q⟩
 |tbl ps=>
  have e:h.get? a=ar {cls:=.none,data:=.fields ps}:=x;show h'.get? a=ar {cls:=.none,data:=.fields ps};exact k a _ (.inl rfl) e
 |met f y=>
  have e:h.get? a=ar (Lw (.ref f) (.ref y)):=x;show h'.get? a=ar (Lw (.ref f) (.ref y));exact k a _ (.inl rfl) e
 |ext φ=>obtain⟨p,⟨o,e⟩,st⟩:=x;exact⟨st _ _ p fun o q=>k _ _ (.inl rfl) q,⟨o,k _ _ (.inl rfl) e⟩,st⟩
theorem fK.lt(x:fK P w H h)(e:H a=ar o):a<h.objs.size:=(x a o e).lt
theorem fK.fresh(x:fK P w H h)(e:h.objs.size<=a):H a=none:=by
 cases q:H a with
 |none=>rfl
 |some u=>exact absurd (HZ (x.lt q) e) (Jg _)
theorem fK.kept(x:fK P w H h)(k:∀b u,h.get? b=ar u->h'.get? b=ar u):fK P w H h':=fun a o e=>
 (x a o e).stay (fun b u _ q=>k b u q) (fun _ q=>q) fun _ _ q=>q
theorem fK.laid(x:fK P w H h)(k:∀b u,h.get? b=ar u->h'.get? b=ar u)(X:h.objs.size<=a)(Z:bx P w (upd H a o) h' a o):fK P w (upd H a o) h':=fun b u e=>by
 have Y:=x.fresh X;by_cases hb:b=a
 ·subst hb;rw[bg]at e;cases e;exact Z
 ·rw[aJ hb]at e;exact(x b u e).stay (fun c v _ q=>k c v q) (fun c q=>by rw[aJ (aM q Y)];exact q) fun c xs q=>by rw[aJ (aM q Y)];exact q
end
def Rd(H:Hp)(a:cq)(u:HO):Prop:=H a=ar u\/∃o,H a=ar (.frz o u)
theorem Rd.ok{P:eb}{w:ee}{H:Hp}{h:fc}{a:cq}{u:HO}(r:Rd H a u)(x:fK P w H h):bx P w H h a u:=by
 rcases r with r|⟨o,r⟩
 ·exact x a u r
 ·obtain⟨_,q⟩:=x a _ r;exact q
def FT:Option HO->Prop
 |some (.lst _)=>True
 |some (.dK _)=>True
 |some (.dT _)=>True
 |some (.set _ _)=>True
 |some (.ins _ _ _)=>True
 |some (.ext _)=>True
 |_=>False
section
variable {P:eb}{w:ee}{H:Hp}{h h':fc}{x e:cq}{o':HO}
theorem fK.write(O:fK P w H h)(X:FT (H x))(R:e=x\/H e=ar (.own x))(k:∀b u,b≠e->h.get? b=ar u->h'.get? b=ar u)(U:∃u,h'.get? e=ar u)
  (T:bx P w (upd H x o') h' x o'):fK P w (upd H x o') h':=fun b u q=>by
 have Z:∀c y,H c=ar (.own y)->c≠x:=fun c y r z=>by subst z;rw[r]at X;exact X
 have Y:∀c xs,H c=ar (.tup xs)->c≠x:=fun c xs r z=>by subst z;rw[r]at X;exact X
 by_cases hb:b=x
 ·subst hb;rw[bg]at q;cases q;exact T
 ·rw[aJ hb]at q;by_cases hbe:b=e
  ·have S:H b=ar (.own x):=by
    rcases R with z|z
    ·exact absurd (hbe.trans z) hb
    ·rw[hbe];exact z
   rw[q]at S;cases S;obtain⟨v,Q⟩:=U;exact⟨v,by rw[hbe];exact Q⟩
  ·refine(O b u q).stay (fun c v W r=>k c v ?_ r) (fun c r=>by rw[aJ (Z c b r)];exact r) fun c xs r=>by rw[aJ (Y c xs r)];exact r
   rcases W with rfl|W
   ·exact hbe
   ·rintro rfl;rcases R with z|z
    ·exact Z c b W z
    ·rw[W]at z;cases z;exact hb rfl
end
structure Un(fs ex:List cq)(H H':Hp)(h h':fc):Prop where
 keep:∀b o,h.get? b=ar o->H b=none->b∉fs->b∉ex->h'.get? b=ar o
 slot:∀b o,h.get? b=ar o->H b=none->b∈fs->b∉ex->∃sl,h'.get? b=ar {o with slots:=sl}
 free:∀b o,h.get? b=ar o->H b=none->b∉ex->H' b=none
 there:∀b o,h.get? b=ar o->b∉ex->∃o',h'.get? b=ar o'
 tups:∀b xs,H b=ar (.tup xs)->H' b=ar (.tup xs)
 frzs:∀b o u,H b=ar (.frz o u)->H' b=ar (.frz o u)
 tbls:∀b ps,H b=ar (.tbl ps)->∃more,H' b=ar (.tbl (ps++more))
section
variable {fs fs' ex ex':List cq}{H H1 H2:Hp}{h h1 h2 h':fc}{a x e:cq}{o:HO}
theorem Un.any(u:Un fs ex H H1 h h1)(q:h.get? b=ar ob)(n:H b=none)(Z:b∉ex):∃sl,h1.get? b=ar {ob with slots:=sl}:=by
 by_cases hb:b∈fs
 ·exact u.slot b ob q n hb Z
 ·exact⟨ob.slots,u.keep b ob q n hb Z⟩
theorem Un.kept(k:∀b u,h.get? b=ar u->h'.get? b=ar u):Un fs ex H H h h':=
 ⟨fun b Z q _ _ _=>k b Z q,fun b Z q _ _ _=>⟨Z.slots,k b Z q⟩,fun _ _ _ n _=>n,fun b Z q _=>⟨Z,k b Z q⟩,fun _ _ q=>q,fun _ _ _ q=>q,fun _ Y q=>⟨#[],by rw[q];simp⟩⟩
theorem Un.refl:Un fs ex H H h h:=Un.kept fun _ _ q=>q
theorem Un.laid(k:∀b u,h.get? b=ar u->h'.get? b=ar u)(Y:h.objs.size<=a)(Z:H a=none):Un fs ex H (upd H a o) h h' where
 keep:=fun b u q _ _ _=>k b u q
 slot:=fun b u q _ _ _=>⟨u.slots,k b u q⟩
 free:=fun b u q n _=>by rw[aJ (Ih (HZ (HS q) Y))];exact n
 there:=fun b u q _=>⟨u,k b u q⟩
 tups:=fun b xs q=>by rw[aJ (aM q Z)];exact q
 frzs:=fun b u xs q=>by rw[aJ (aM q Z)];exact q
 tbls:=fun b X q=>⟨#[],by rw[aJ (aM q Z),q];simp⟩
theorem Un.write(Z:FT (H x))(U:e=x\/H e=ar (.own x))(k:∀b u,b≠e->h.get? b=ar u->h'.get? b=ar u)(Y:∃u,h'.get? e=ar u):Un fs ex H (upd H x o) h h':=by
 have X:∀b,H b=none->b≠x:=fun b n z=>by subst z;rw[n]at Z;exact Z
 have W:∀b,H b=none->b≠e:=fun b n z=>by
  subst z;rcases U with r|r
  ·exact X b n r
  ·rw[n]at r;cases r
 have hm:∀b u,H b=ar u->¬ FT (ar u)->b≠x:=fun b u q nm z=>by subst z;rw[q]at Z;exact nm Z
 refine⟨fun b u q n _ _=>k b u (W b n) q,fun b u q n _ _=>⟨u.slots,k b u (W b n) q⟩,fun b u q n _=>by rw[aJ (X b n)];exact n,fun b u q _=>?_,
  fun b xs q=>by rw[aJ (hm b _ q fun z=>z)];exact q,fun b u xs q=>by rw[aJ (hm b _ q fun z=>z)];exact q,fun b T q=>⟨#[],by rw[aJ (hm b _ q fun z=>z),q];simp⟩⟩
 by_cases hbe:b=e
 ·subst hbe;exact Y
 ·exact⟨u,k b u hbe q⟩
end
def FU(h:fc)(H:Hp):List Addr:=(d_ h.objs.size).filter fun a=>(H a).isSome
def jB(h:fc)(H:Hp):Heap:=W.hideAll h (FU h H)
theorem kY(h:fc)(H:Hp):(jB h H).objs.size=h.objs.size:=W.hideAll_size _ _
theorem j5{h:fc}{H:Hp}(e:h.get? b=ar o)(n:H b=none):(jB h H).get? b=ar o:=
 W.hideAll_get _ e fun hm=>by
  have q:(H b).isSome=true:=(Kx.mp hm).2;rw[n]at q;simp at q
theorem pV{H:Hp}(e:(jB h H).get? b=ar o):h.get? b=ar o/\H b=none:=by
 have Z:h.get? b=ar o:=W.of_hideAll (FU h H) e;refine⟨Z,?_⟩;cases q:H b with
 |none=>rfl
 |some x=>
  have hm:b∈FU h H:=Kx.mpr ⟨IA.mpr (HS Z),by simp[q]⟩
  have z:(jB h H).get? b=none:=W.hideAll_none (FU h H) hm;rw[z]at e;cases e
def j6(g h:fc)(L:cq):List (cq×Obj):=(d_ h.objs.size).filterMap fun a=>if a=L\/(g.get? a).isSome=b_ then none else (h.get? a).map fun o=>(a,o)
theorem rz{g h:fc}(X:a≠L)(Y:g.get? a=none)(Z:h.get? a=ar o):(a,o)∈j6 g h L:=
 Jq.mpr ⟨a,IA.mpr (HS Z),by simp[X,Y,Z]⟩
theorem mO(Z:p∈j6 g h L):p.1≠L/\g.get? p.1=none/\h.get? p.1=ar p.2:=by
 obtain⟨b,_,e⟩:=Jq.mp Z;split at e
 ·cases e
 ·rename_i hn
  cases q:h.get? b with
  |none=>rw[q]at e;simp at e
  |some u=>
   rw[q]at e;simp only[Option.map_some,Option.some.injEq]at e;subst e;refine⟨fun z=>hn (.inl z),?_,q⟩;show g.get? b=none;cases r:g.get? b with
   |none=>rfl
   |some v=>exact(hn (.inr (by simp[r]))).elim
def rest(g h:fc)(L d:cq):List (cq×Obj):=(j6 g h L).filter fun p=>decide (p.1≠d)
theorem mP:News g L h (j6 g h L):=fun p Z=>let ⟨a,b,c⟩:=mO Z;⟨c,a,b⟩
end L2
namespace L2
open PySem PySem.Spec PyProof.Rows
structure Mod(K:dn)(mg:Str->Option a_)(base:fc):Prop where
 kin:K.In base
 glob:base.Ns er mg
 blt:∃mb,base.Ns p_ mb/\∀x:Str,x≠"__name__"->mb x=i4 x
 nolimit:base.NoLimit
structure Cx where
 prog:eb
 w:ee
 K:dn
 mg:Str->Option a_
 base:fc
 A:g_
 N:List Str
 s₀:c_
 H₀:Hp
 env:Env
 outer:List Env
 stack:List Env
 ex:List cq
 fn:Str->Bool
 calm:Bool
 pn:List (cq×Obj)
 xe:a_->c_->Prop
def iR(l:List Env):List Addr:=l.filterMap (·.frame)
abbrev Cx.fs(X:Cx):List Addr:=iR X.outer
def BQ(sc:Scope)(x:Str):Prop:=sc.names.lookup x=ar .local\/sc.names.lookup x=ar .cell\/sc.names.lookup x=ar .free
def Loc(sc:Scope)(x:Str):Prop:=sc.names.lookup x=ar .local\/sc.names.lookup x=ar .cell
def Look(env:Env)(h:fc)(m:Str->Option a_)(x:Str)(u:a_):Prop:=
 (env.kindOf x=ar .local/\m x=ar u)\/((env.kindOf x=ar .cell\/env.kindOf x=ar .free)/\∃c,env.cells.lookup x=ar c/\h.IsCell c (ar u))
structure Cx.Ok(X:Cx):Prop where
 mod:Mod X.K X.mg X.base
 kind:X.env.scope.kind= .function
 glob:X.env.globals=er
 blt:X.env.builtins=p_
 above:X.s₀.heap.objs.size<=X.env.locals
 inj:∀x y c,X.env.cells.lookup x=ar c->X.env.cells.lookup y=ar c->x=y
 has:∀x,(X.env.kindOf x=ar .cell\/X.env.kindOf x=ar .free)->∃c,X.env.cells.lookup x=ar c
 cab:∀x c,X.fn x=b_->X.env.cells.lookup x=ar c->X.s₀.heap.objs.size<=c
 hd:X.calm=b_->X.A.handled=none
 frames:X.A.frames=ar X.stack
 stk:X.stack=X.outer\/(X.stack=X.env::X.outer/\X.env.frame=ar X.env.locals)
 exf:∀b∈X.ex,b≠X.env.locals/\∀x c,X.env.cells.lookup x=ar c->c≠b
 bs:∀b o,X.base.get? b=ar o->X.s₀.heap.get? b=ar o/\X.H₀ b=none
 bsz:X.base.objs.size<=X.s₀.heap.objs.size
 noex:∀b o,X.base.get? b=ar o->b∉X.ex
 exfs:∀b∈X.ex,b∉X.fs
 funs:X.s₀.heap.FunFrames X.base X.outer
 frf:∀b∈X.fs,X.H₀ b=none
structure Inv(X:Cx)(pins:List (cq×Obj))(σ:List (Option V))(H:Hp)(s:c_):Prop where
 ok:X.Ok
 os:s.os=X.s₀.os
 bare:sh s.gens
 base:Un X.fs X.ex X.H₀ H X.s₀.heap s.heap
 loc:∃m,s.heap.Ns X.env.locals m/\∀(i:Nat) (x:Str) (v:V),X.N[i]? =ar x->σ[i]? =ar (ar v)->BQ X.env.scope x->∃u,RelV v u/\Look X.env s.heap m x u
 cell:∀x c,X.env.cells.lookup x=ar c->∃v,s.heap.IsCell c v
 free:H X.env.locals=none
 freeC:∀x c,X.env.cells.lookup x=ar c->H c=none
 pin:∀p∈X.pn++pins,s.heap.get? p.1=ar p.2/\H p.1=none/\p.1≠X.env.locals/\p.1∉X.fs/\∀v,p.2.data≠ .cell v
 hok:fK X.prog X.w H s.heap
 len:σ.length=X.N.length
section
variable {X:Cx}{pins:List (cq×Obj)}{σ:List (Option V)}{H H':Hp}{s:c_}{h':fc}
theorem Cx.Ok.nofr(Y:X.Ok)(e:X.base.get? b=ar o):b∉X.fs:=fun Z=>by
 have:=(Y.funs.mem Z).1;rw[e]at this;cases this
theorem Inv.bs(I:Inv X pins σ H s):∀b o,X.base.get? b=ar o->s.heap.get? b=ar o/\H b=none:=fun b o e=>
 ⟨I.base.keep b o (I.ok.bs b o e).1 (I.ok.bs b o e).2 (I.ok.nofr e) (I.ok.noex b o e),I.base.free b o (I.ok.bs b o e).1 (I.ok.bs b o e).2 (I.ok.noex b o e)⟩
theorem Inv.bk(I:Inv X pins σ H s):∀b o,X.base.get? b=ar o->s.heap.get? b=ar o:=fun b o e=>(I.bs b o e).1
theorem Inv.mod(I:Inv X pins σ H s):Mod X.K X.mg X.base:=I.ok.mod
theorem Inv.kIn(I:Inv X pins σ H s):X.K.In s.heap:=I.ok.mod.kin.keeps I.bk
theorem Inv.fr(I:Inv X pins σ H s):∃m,Fr X.base X.env.locals s.heap m:=
 let ⟨m,hn,_⟩:=I.loc
 ⟨m,hn,I.bk,HX I.ok.bsz I.ok.above⟩
theorem Inv.lt(I:Inv X pins σ H s):X.env.locals<s.heap.objs.size:=let ⟨_,hn,_⟩:=I.loc;hn.lt
theorem Inv.sz(I:Inv X pins σ H s):X.s₀.heap.objs.size<=s.heap.objs.size:=HX I.ok.above (Jy I.lt)
theorem Inv.nofs(I:Inv X pins σ H s)(h:s.heap.objs.size<=a):a∉X.fs:=fun Z=>by
 obtain⟨_,o,Y,_⟩:=I.ok.funs.mem Z;exact absurd (HZ (HS Y) (HX I.sz h)) (Jg _)
theorem Inv.cne(I:Inv X pins σ H s):∀x c,X.env.cells.lookup x=ar c->c≠X.env.locals:=fun x c e z=>by
 obtain⟨v,o,W,hd⟩:=I.cell x c e;obtain⟨m,⟨U,es,T,Y,Z,_⟩,_⟩:=I.loc;rw[z,Y]at W;cases W;rw[Z]at hd;cases hd
theorem Inv.funs(I:Inv X pins σ H s):s.heap.FunFrames X.base X.outer:=by
 have all:∀(l:List Env),(∀b∈iR l,b∈X.fs)->X.s₀.heap.FunFrames X.base l->s.heap.FunFrames X.base l:=by
  intro l
  induction l with
  |nil=>intro _ _;trivial
  |cons env r ih=>
   intro hs T;obtain⟨W,⟨L,o,hf,S,U,hd⟩,R⟩:=T;have Z:L∈X.fs:=hs L (by unfold iR;rw[JQ,hf];exact Im)
   obtain⟨Q,e⟩:=I.base.slot L o U (I.ok.frf L Z) Z fun z=>I.ok.exfs L z Z;exact⟨W,⟨L,_,hf,S,e,hd⟩,ih (fun b Y=>hs b (by unfold iR;rw[JQ,hf];exact HY _ Y)) R⟩
 exact all X.outer (fun _ Y=>Y) I.ok.funs
theorem Inv.stack(I:Inv X pins σ H s):s.heap.FunFrames X.base X.stack:=by
 rcases I.ok.stk with e|⟨e,hf⟩
 ·rw[e];exact I.funs
 ·rw[e];obtain⟨m,Z,_⟩:=I.loc;refine .cons (by rw[I.ok.kind];decide) hf Z ?_ I.funs
  exact Jf (HX I.ok.bsz I.ok.above)
theorem Inv.stkSub(I:Inv X pins σ H s):∀b∈iR X.stack,b∈X.env.locals::X.fs:=fun b Z=>by
 rcases I.ok.stk with e|⟨e,hf⟩
 ·rw[e]at Z;exact HY _ Z
 ·rw[e]at Z;unfold iR at Z;rw[JQ,hf]at Z;exact Z
theorem Inv.stkFree(I:Inv X pins σ H s):∀b∈iR X.stack,H b=none:=fun b Z=>by
 rcases Ig.mp (I.stkSub b Z)with e|Z
 ·rw[e];exact I.free
 ·obtain⟨_,o,Y,_⟩:=I.ok.funs.mem Z;exact I.base.free b o Y (I.ok.frf b Z) fun z=>I.ok.exfs b z Z
theorem Inv.step{g':Array A2}{t':Nat}{d':Drawn}{ch:List cq}(I:Inv X pins σ H s)
  (U:∀b∈ch,(b∈X.ex\/X.s₀.heap.objs.size<=b)/\b≠X.env.locals/\(∀x c,X.env.cells.lookup x=ar c->c≠b)/\∀p∈X.pn++pins,p.1≠b)
  (keep:∀b o,b≠X.env.locals->b∉X.fs->b∉ch->s.heap.get? b=ar o->H b=none->h'.get? b=ar o)
  (S:∀b o,b≠X.env.locals->b∈X.fs->b∉ch->s.heap.get? b=ar o->H b=none->∃E,h'.get? b=ar {o with slots:=E}) (Y:∀b o,b∉ch->s.heap.get? b=ar o->H b=none->H' b=none)
  (Q:∀b o,b∉ch->s.heap.get? b=ar o->∃K,h'.get? b=ar K)
  (L:∀b xs,H b=ar (.tup xs)->H' b=ar (.tup xs)) (O:∀b o u,H b=ar (.frz o u)->H' b=ar (.frz o u)) (N:∀b G,H b=ar (.tbl G)->∃more,H' b=ar (.tbl (G++more)))
  (ns:∀m,s.heap.Ns X.env.locals m->h'.Ns X.env.locals m) (C:fK X.prog X.w H' h') (h:sh g'):
  Inv X pins σ H' {s with heap:=h',gens:=g',drawn:=d',toks:=t'}:=by
 have J:∀b o,X.s₀.heap.get? b=ar o->b≠X.env.locals:=fun b o e=>Ih (HZ (HS e) I.ok.above);have T:∀b o,X.s₀.heap.get? b=ar o->b∉X.ex->b∉ch:=fun b o e Z R=>by
  rcases (U b R).1 with z|z
  ·exact Z z
  ·exact absurd (HZ (HS e) z) (Jg _)
 have cellK:∀x c,X.env.cells.lookup x=ar c->∀v,s.heap.IsCell c v->h'.IsCell c v:=fun x c e v ⟨o,P,hd⟩=>by
  have W:c∉ch:=fun z=>(U c z).2.2.1 x c e rfl;by_cases hc:c∈X.fs
  ·obtain⟨E,q⟩:=S c o (I.cne x c e) hc W P (I.freeC x c e);exact⟨_,q,hd⟩
  ·exact⟨o,keep c o (I.cne x c e) hc W P (I.freeC x c e),hd⟩
 refine⟨I.ok,I.os,h,⟨fun b o e n R Z=>?_,fun b o e n R Z=>?_,fun b o e n Z=>?_,fun b o e Z=>?_,fun b xs e=>L b xs (I.base.tups b xs e),fun b o xs e=>O b o xs (I.base.frzs b o xs e),fun b G e=>?_⟩,?_,fun x c e=>?_,?_,fun x c e=>?_,fun p B=>?_,C,I.len⟩
 ·exact keep b o (J b o e) R (T b o e Z) (I.base.keep b o e n R Z) (I.base.free b o e n Z)
 ·obtain⟨E,e1⟩:=I.base.slot b o e n R Z;obtain⟨F,e2⟩:=S b _ (J b o e) R (T b o e Z) e1 (I.base.free b o e n Z);exact⟨F,e2⟩
 ·obtain⟨K,e1⟩:=I.base.there b o e Z;exact Y b K (T b o e Z) e1 (I.base.free b o e n Z)
 ·obtain⟨K,e1⟩:=I.base.there b o e Z;exact Q b K (T b o e Z) e1
 ·obtain⟨g,e1⟩:=I.base.tbls b G e;obtain⟨t,e2⟩:=N b _ e1;exact⟨g++t,by rw[e2,Array.append_assoc]⟩
 ·obtain⟨m,j,y⟩:=I.loc;refine⟨m,ns m j,fun i x v e1 e2 f=>?_⟩;obtain⟨u,r,l⟩:=y i x v e1 e2 f;refine⟨u,r,?_⟩;rcases l with l|⟨k,c,e,z⟩
  ·exact .inl l
  ·exact .inr ⟨k,c,e,cellK x c e _ z⟩
 ·obtain⟨v,z⟩:=I.cell x c e;exact⟨v,cellK x c e v z⟩
 ·obtain⟨m,⟨o,_,_,P,_⟩,_⟩:=I.loc;exact Y _ o (fun z=>(U _ z).2.1 rfl) P I.free
 ·obtain⟨v,o,P,hd⟩:=I.cell x c e;exact Y c o (fun z=>(U c z).2.2.1 x c e rfl) P (I.freeC x c e)
 ·obtain⟨e,n,ne,A,d⟩:=I.pin p B;have W:p.1∉ch:=fun z=>(U p.1 z).2.2.2 p B rfl;exact⟨keep p.1 p.2 ne A W e n,Y p.1 p.2 W e n,ne,A,d⟩
theorem Inv.un{t':Nat}(I:Inv X pins σ H s)(u:Un X.fs [] H H' s.heap h')(T:fK X.prog X.w H' h'):Inv X pins σ H' {s with heap:=h',toks:=t'}:=by
 obtain⟨m,⟨o,es,L,S,r⟩,_⟩:=id I.loc;obtain⟨P,Q⟩:=u.any S I.free (by simp)
 exact I.step (g':=s.gens) (d':=s.drawn) (ch:=[]) (fun _ z=>nomatch z) (fun b o _ W _ e n=>u.keep b o e n W (by simp)) (fun b o _ W _ e n=>u.slot b o e n W (by simp)) (fun b o _ e n=>u.free b o e n (by simp)) (fun b o _ e=>u.there b o e (by simp)) u.tups u.frzs u.tbls (fun O hm=>by
  obtain⟨N,Y,U,Z,R⟩:=hm;rw[S]at Z;cases Z;exact⟨_,Y,U,Q,R⟩) T I.bare
theorem Inv.call{g':Array A2}{t':Nat}{d':Drawn}{ch:List cq}(I:Inv X pins σ H s)(u:Un (iR X.stack) ch H H' s.heap h')(R:fK X.prog X.w H' h')(O:sh g')
  (W:∀b∈ch,(b∈X.ex\/X.s₀.heap.objs.size<=b)/\b≠X.env.locals/\(∀x c,X.env.cells.lookup x=ar c->c≠b)/\∀p∈X.pn++pins,p.1≠b):
  Inv X pins σ H' {s with heap:=h',gens:=g',drawn:=d',toks:=t'}:=by
 obtain⟨m,⟨o,es,G,Q,r⟩,_⟩:=id I.loc;obtain⟨L,U⟩:=u.any Q I.free fun z=>(W _ z).2.1 rfl;exact I.step (ch:=ch) W (fun b o U N Z e n=>u.keep b o e n (fun z=>(Ig.mp (I.stkSub b z)).elim U N) Z) (fun b o _ _ Z e n=>u.any e n Z) (fun b o Z e n=>u.free b o e n Z) (fun b o Z e=>u.there b o e Z) u.tups u.frzs u.tbls (fun K hm=>by
  obtain⟨J,T,S,Y,P⟩:=hm;rw[Q]at Y;cases Y;exact⟨_,T,S,U,P⟩) R O
theorem Inv.turned{t':Nat}{it:cq}(I:Inv X pins σ H s)(k:∀b o,b≠it->s.heap.get? b=ar o->h'.get? b=ar o)(S:H it=none)(W:it≠X.env.locals)
  (R:it∈X.ex\/X.s₀.heap.objs.size<=it) (T:∀x c,X.env.cells.lookup x=ar c->c≠it) (P:∀p∈X.pn++pins,p.1≠it):Inv X pins σ H {s with heap:=h',toks:=t'}:=by
 have Y:∀b u,H b=ar u->b≠it:=fun b u e z=>by rw[z,S]at e;cases e
 refine I.step (g':=s.gens) (d':=s.drawn) (ch:=[it]) (fun b Q=>?_) (fun b o _ _ Z e _=>k b o (fun z=>Z (by simp[z])) e) (fun b o _ _ Z e _=>⟨o.slots,k b o (fun z=>Z (by simp[z])) e⟩) (fun _ _ _ _ n=>n)
  (fun b o Z e=>⟨o,k b o (fun z=>Z (by simp[z])) e⟩) (fun _ _ e=>e) (fun _ _ _ e=>e) (fun b N e=>⟨#[],by rw[e];simp⟩) (fun m hm=>?_) (fun b u e=>?_) I.bare
 ·have e:b=it:=by simpa using Q
  subst e;exact⟨R,W,T,P⟩
 ·obtain⟨o,es,O,U,r⟩:=hm;exact⟨o,es,O,k _ o (i' W) U,r⟩
 ·refine(I.hok b u e).stay (fun c v Z q=>k c v ?_ q) (fun _ q=>q) fun _ _ q=>q;rcases Z with z|z
  ·rw[z];exact Y b u e
  ·exact Y c _ z
theorem Inv.tok(I:Inv X pins σ H s)(t:Nat):Inv X pins σ H {s with toks:=t}:=I.un (h':=s.heap) (t':=t) Un.refl I.hok
theorem Inv.kept(I:Inv X pins σ H s)(k:∀b u,s.heap.get? b=ar u->h'.get? b=ar u):Inv X pins σ H {s with heap:=h',toks:=t'}:=I.un (Un.kept k) (I.hok.kept k)
theorem Inv.laid(I:Inv X pins σ H s)(k:∀b u,s.heap.get? b=ar u->h'.get? b=ar u)(Y:s.heap.objs.size<=a)(Z:bx X.prog X.w (upd H a o) h' a o):
  Inv X pins σ (upd H a o) {s with heap:=h',toks:=t'}:=I.un (Un.laid k Y (I.hok.fresh Y)) (I.hok.laid k Y Z)
theorem Inv.write(I:Inv X pins σ H s)(U:FT (H x))(W:e=x\/H e=ar (.own x))(k:∀b u,b≠e->s.heap.get? b=ar u->h'.get? b=ar u)(Z:∃u,h'.get? e=ar u)
  (Y:bx X.prog X.w (upd H x o) h' x o):Inv X pins σ (upd H x o) {s with heap:=h',toks:=t'}:=I.un (Un.write U W k Z) (I.hok.write U W k Z Y)
theorem Inv.pins_of(I:Inv X pins σ H s)(h:∀p∈pins',s.heap.get? p.1=ar p.2/\H p.1=none/\p.1≠X.env.locals/\p.1∉X.fs/\∀v,p.2.data≠ .cell v):Inv X pins' σ H s:=
 ⟨I.ok,I.os,I.bare,I.base,I.loc,I.cell,I.free,I.freeC,fun p Z=>(Jk.mp Z).elim (fun z=>I.pin p (JK _ z)) (h p),I.hok,I.len⟩
theorem mQ{N:List Str}(Z:N.Nodup){i j:Nat}{x:Str}(a:N[i]? =ar x)(b:N[j]? =ar x):i=j:=by
 obtain⟨Y,e1⟩:=HQ.mp a;obtain⟨W,e2⟩:=HQ.mp b;exact(List.getElem_inj Z).mp (e1.trans e2.symm)
theorem oW{M:L8}{A:g_}{E:a_->c_->Prop}{i:Nat}{x:Str}{v:V}{u:a_}{Q:Unit->c_->Prop}(I:Inv X pins σ H s)(hN:X.N.Nodup)(J:X.N[i]? =ar x)(Y:Loc X.env.scope x)(r:RelV v u)
  (h:∀s',Inv X pins (σ.set i (ar v)) H s'->(∃a,ri a s.heap s'.heap/\(a=X.env.locals\/X.env.cells.lookup x=ar a))->Q () s') (hf:X.fn x=b_\/X.env.scope.names.lookup x=ar .local:=by first|exact .inl rfl|exact .inr rfl|assumption):ed M A (storeName X.env x u) Q E s:=by
 obtain⟨m,B,hl⟩:=id I.loc;have O:(X.env.scope.kind== .class||(X.env.scope.kind== .module && X.env.locals !=X.env.globals))=false:=by rw[I.ok.kind];rfl
 have U:i<σ.length:=by rw[I.len];exact(HQ.mp J).1
 have R:=I.cne;have tracked:∀{a:cq} {h':fc},(∃o,s.heap.get? a=ar o/\H a=none)->ri a s.heap h'->fK X.prog X.w H h':=fun{a h'} ha hs b ob e=>by
  obtain⟨_,_,W⟩:=ha;refine(I.hok b ob e).stay (fun c G Z q=>(hs.2 c ?_).trans q) (fun _ q=>q) fun _ _ q=>q;rintro rfl;rcases Z with rfl|Z
  ·rw[W]at e;cases e
  ·rw[W]at Z;cases Z
 rcases Y with hk|hk
 ·refine wpAny_storeName_local hk B (fun h' a4 hs=>?_) O;obtain⟨oL,_,_,C,_⟩:=id B;refine h _ ⟨I.ok,I.os,I.bare,⟨fun b o e n S Y=>?_,fun b o e n S Y=>?_,I.base.free,fun b o e Y=>?_,I.base.tups,I.base.frzs,I.base.tbls⟩,⟨_,a4,fun j y v' e1 e2 e3=>?_⟩,fun y c e=>?_,I.free,I.freeC,fun p l=>?_,tracked ⟨oL,C,I.free⟩ hs,by simpa using I.len⟩ ⟨_,hs,.inl rfl⟩
  ·exact(hs.2 b (Ih (HZ (HS e) I.ok.above))).trans (I.base.keep b o e n S Y)
  ·obtain⟨sl,e1⟩:=I.base.slot b o e n S Y;exact⟨sl,(hs.2 b (Ih (HZ (HS e) I.ok.above))).trans e1⟩
  ·obtain⟨g,e1⟩:=I.base.there b o e Y;exact⟨g,(hs.2 b (Ih (HZ (HS e) I.ok.above))).trans e1⟩
  ·by_cases hj:j=i
   ·subst hj;rw[J]at e1;cases e1;rw[IF U]at e2;cases e2;exact⟨u,r,.inl ⟨hk,by simp⟩⟩
   ·rw[IQ (i' hj)]at e2;obtain⟨f,t,q⟩:=hl j y v' e1 e2 e3;refine⟨f,t,?_⟩;rcases q with⟨k,e⟩|⟨k,c,e,z⟩
    ·refine .inl ⟨k,?_⟩;have:y≠x:=fun e=>hj (mQ hN e1 (e ▸ J));simp[this,e]
    ·exact .inr ⟨k,c,e,z.sameBut hs (R y c e)⟩
  ·obtain⟨G,z⟩:=I.cell y c e;exact⟨G,z.sameBut hs (R y c e)⟩
  ·obtain⟨e,n,ne,nf,d⟩:=I.pin p l;exact⟨(hs.2 p.1 ne).trans e,n,ne,nf,d⟩
 ·have T:X.fn x=true:=by
   rcases hf with z|z
   ·exact z
   ·rw[z]at hk;cases hk
  obtain⟨c,Z⟩:=I.ok.has x (.inl hk);obtain⟨G,z⟩:=I.cell x c Z;refine wpAny_storeName_cell I.ok.kind hk Z z (fun h' L hs=>?_);obtain⟨oc,K,P⟩:=id z;refine h {s with heap:=h'} ⟨I.ok,I.os,I.bare,⟨fun b o e n S Y=>?_,fun b o e n S Y=>?_,I.base.free,fun b o e Y=>?_,I.base.tups,I.base.frzs,I.base.tbls⟩,⟨m,B.sameBut hs (i' (R x c Z)),fun j y v' e1 e2 e3=>?_⟩,fun y F e=>?_,I.free,I.freeC,fun p l=>?_,tracked ⟨oc,K,I.freeC x c Z⟩ hs,by simpa using I.len⟩ ⟨c,hs,.inr Z⟩
  ·exact(hs.2 b (Ih (HZ (HS e) (I.ok.cab x c T Z)))).trans (I.base.keep b o e n S Y)
  ·obtain⟨sl,e1⟩:=I.base.slot b o e n S Y;exact⟨sl,(hs.2 b (Ih (HZ (HS e) (I.ok.cab x c T Z)))).trans e1⟩
  ·obtain⟨g,e1⟩:=I.base.there b o e Y;exact⟨g,(hs.2 b (Ih (HZ (HS e) (I.ok.cab x c T Z)))).trans e1⟩
  ·by_cases hj:j=i
   ·subst hj;rw[J]at e1;cases e1;rw[IF U]at e2;cases e2;exact⟨u,r,.inr ⟨.inl hk,c,Z,L⟩⟩
   ·rw[IQ (i' hj)]at e2;obtain⟨f,t,q⟩:=hl j y v' e1 e2 e3;refine⟨f,t,?_⟩;rcases q with q|⟨k,F,e,z'⟩
    ·exact .inl q
    ·refine .inr ⟨k,F,e,z'.sameBut hs ?_⟩;rintro rfl;exact hj (mQ hN e1 (I.ok.inj _ _ _ e Z ▸ J))
  ·by_cases hcc:F=c
   ·subst hcc;exact⟨_,L⟩
   ·obtain⟨w2,z2⟩:=I.cell y F e;exact⟨w2,z2.sameBut hs hcc⟩
  ·obtain⟨e,n,ne,nf,d⟩:=I.pin p l;refine⟨(hs.2 p.1 ?_).trans e,n,ne,nf,d⟩;intro q;rw[q,K]at e;have q':oc=p.2:=Il e;exact d G (by rw[<-q'];exact P)
theorem mR{Q:Unit->c_->Prop}(I:Inv X pins σ H s)(U:X.N.Nodup)(W:X.N[i]? =ar x)(T:Loc X.env.scope x)(r:RelV v u)
  (h:∀s',Inv X pins (σ.set i (ar v)) H s'->Q () s') (Z:X.fn x=b_\/X.env.scope.names.lookup x=ar .local:=by first|exact .inl rfl|exact .inr rfl|assumption):ed M A (storeName X.env x u) Q E s:=
 oW I U W T r (fun s' Y _=>h s' Y) Z
theorem Inv.call'{s':c_}(I:Inv X pins σ H s)(U:s'.os=s.os)(u:Un (iR X.stack) ch H H' s.heap s'.heap)(Z:fK X.prog X.w H' s'.heap)(T:sh s'.gens)
  (Y:∀b∈ch,(b∈X.ex\/X.s₀.heap.objs.size<=b)/\b≠X.env.locals/\(∀x c,X.env.cells.lookup x=ar c->c≠b)/\∀p∈X.pn++pins,p.1≠b):Inv X pins σ H' s':=by
 obtain⟨h',g',d',t',W⟩:=s';have e:W=s.os:=U;subst e;exact I.call (g':=g') (t':=t') (d':=d') u Z T Y
end
abbrev XK:=a_->Option cq->Hp->Prop
abbrev St:=List (Option V)
abbrev VK:=V->Hp->Prop
abbrev TE:=St->Hp->VK->Prop
abbrev TT:=St->Hp->(Bool->Hp->Prop)->Prop
abbrev TA:=St->Hp->(List V->Hp->Prop)->Prop
structure Ends where
 nx:St->Hp->Prop
 rt:VK
 bk:St->Hp->Prop:=fun _ _=>False
 ct:St->Hp->Prop:=fun _ _=>False
abbrev TS:=Ends->St->Hp->Prop
def EP(X:Cx)(pins:List (cq×Obj))(σ:St)(Q:VK)(u:a_)(s':c_):Prop:=∃v H',Inv X pins σ H' s'/\RelV v u/\Q v H'
def TP(X:Cx)(pins:List (cq×Obj))(σ:St)(Q:Bool->Hp->Prop)(b:Bool)(s':c_):Prop:=∃H',Inv X pins σ H' s'/\Q b H'
def AP(X:Cx)(pins:List (cq×Obj))(σ:St)(Q:List V->Hp->Prop)(us:List a_)(s':c_):Prop:=∃vs H',Inv X pins σ H' s'/\bb vs us/\Q vs H'
def SP(X:Cx)(pins:List (cq×Obj))(D:Ends)(f:Flow)(s':c_):Prop:=
 match f with
 | .next=>∃ σ' H',Inv X pins σ' H' s'/\D.nx σ' H'
 | .brk=>∃ σ' H',Inv X pins σ' H' s'/\D.bk σ' H'
 | .cont=>∃ σ' H',Inv X pins σ' H' s'/\D.ct σ' H'
 | .ret u=>∃v σ' H',Inv X pins σ' H' s'/\RelV v u/\D.rt v H'
def PE(X:Cx)(e:Expr)(t:TE):Prop:=
 ∀(pins:List (cq×Obj)) (s:c_) (σ:St) (H:Hp) (Q:VK),Inv X pins σ H s->t σ H Q->ed (eK X.prog X.w) X.A (gd e X.env) (EP X pins σ Q) X.xe s
def PT(X:Cx)(e:Expr)(t:TT):Prop:=
 ∀(pins:List (cq×Obj)) (s:c_) (σ:St) (H:Hp) (Q:Bool->Hp->Prop),Inv X pins σ H s->t σ H Q->ed (eK X.prog X.w) X.A (isTrue e X.env (gd e X.env)) (TP X pins σ Q) X.xe s
def PW(X:Cx)(e:Expr)(t:TT):Prop:=
 ∀(whole:Sem a_) (pins:List (cq×Obj)) (s:c_) (σ:St) (H:Hp) (Q:Bool->Hp->Prop),Inv X pins σ H s->t σ H Q->ed (eK X.prog X.w) X.A (isTrue e X.env whole) (TP X pins σ Q) X.xe s
theorem PW.pt(h:PW X e t):PT X e t:=h _
def PA(X:Cx)(es:List Expr)(t:TA):Prop:=
 ∀(pos:Pos) (pins:List (cq×Obj)) (s:c_) (σ:St) (H:Hp) (Q:List V->Hp->Prop),Inv X pins σ H s->t σ H Q->ed (eK X.prog X.w) X.A (spliced (n_ pos (dt es X.env))) (AP X pins σ Q) X.xe s
def PS(X:Cx)(st:mu)(t:TS):Prop:=
 ∀(pins:List (cq×Obj)) (s:c_) (σ:St) (H:Hp) (D:Ends),Inv X pins σ H s->t D σ H->ed (eK X.prog X.w) X.A (exec st X.env) (SP X pins D) X.xe s
def oz(X:Cx)(st:List mu)(t:TS):Prop:=
 ∀(pins:List (cq×Obj)) (s:c_) (σ:St) (H:Hp) (D:Ends),Inv X pins σ H s->t D σ H->ed (eK X.prog X.w) X.A (execs st X.env) (SP X pins D) X.xe s
theorem di{α:Type}{t:Sem α}{Q Z:α->c_->Prop}{M:L8}{A:g_}{E:a_->c_->Prop}{s:c_}(h:ed M A t Q E s)(Y:∀a s,Q a s->Z a s):ed M A t Z E s:=I0 h Y fun _ _ x=>x
end L2
namespace L2
open PySem PySem.Spec PyProof.Rows
section
variable {X:Cx}
def Gn(i:Nat):TE:=fun σ H Q=>∃v,σ[i]? =ar (ar v)/\Q v H
def tC(v:V):TE:=fun _ H Q=>Q v H
theorem tI(U:X.N[i]? =ar x)(W:BQ X.env.scope x)(Z:(x==("__debug__":Str))=false:=by decide)(Y:(x==("__classdict__":Str))=false:=by decide):PE X (.Name x pos) (Gn i):=by
 intro pins s σ H Q I h;obtain⟨v,e,h⟩:=h;obtain⟨m,S,T⟩:=I.loc;obtain⟨u,r,l⟩:=T i x v U e W;have fin:EP X pins σ Q u s:=⟨v,H,I,r,h⟩;rcases l with⟨hk,hm⟩|⟨hk,c,hc,hcell⟩
 ·exact LB (wpAny_loadName_local I.ok.kind hk S hm fin) Z
 ·rcases hk with hk|hk
  ·exact LB (wpAny_loadName_cell I.ok.kind hk hc hcell fin) Z
  ·exact LB (wpAny_loadName_free I.ok.kind hk hc hcell fin Y) Z
theorem xq{i j pos}:PE X (.Constant (.int i) j pos) (tC (.int i)):=fun _ _ _ H _ I h=>wpAny_Constant_int ⟨.int i,H,I.tok _,⟨_,rfl⟩,h⟩
theorem En{b j pos}:PE X (.Constant (.bool b) j pos) (tC (.bl b)):=fun _ _ _ H _ I h=>Constant_bool ⟨.bl b,H,I,rfl,h⟩
theorem Co{j pos}:PE X (.Constant .none j pos) (tC .non):=fun _ _ _ H _ I h=>Constant_none ⟨.non,H,I,rfl,h⟩
theorem Cp{x j pos}:PE X (.Constant (.str x) j pos) (tC (.str x)):=fun _ _ _ H _ I h=>Calls.Constant_str ⟨.str x,H,I.tok _,⟨_,rfl⟩,h⟩
def Gl(X:Cx)(x:Str):Prop:=X.env.kindOf x=ar .globalImplicit
theorem j8{Q:a_->c_->Prop}(I:Inv X pins σ H s)(Y:Gl X x)(W:X.mg x=ar u)(h:Q u s)
  (Z:(x==("__debug__":Str))=false:=by decide):ed (eK X.prog X.w) X.A (gd (.Name x pos) X.env) Q E s:=
 KI I.ok.kind Y (Calls.loadGlobal_global (by rw[I.ok.glob];exact I.mod.glob.keeps I.bk) W h) Z
theorem kZ{Q:a_->c_->Prop}(I:Inv X pins σ H s)(R:Gl X x)(W:X.mg x=none)(Y:i4 x=ar u)(h:Q u s)
  (S:x≠"__name__":=by decide) (T:(x==("__debug__":Str))=false:=by decide):ed (eK X.prog X.w) X.A (gd (.Name x pos) X.env) Q E s:=by
 obtain⟨P,Z,U⟩:=I.mod.blt;exact KI I.ok.kind R (Calls.loadGlobal_builtin (by rw[I.ok.glob];exact I.mod.glob.keeps I.bk) W (by rw[I.ok.blt];exact Z.keeps I.bk) ((U x S).trans Y) h) T
theorem pW(W:Gl X x)(Z:X.mg x=ar u)(r:RelV v u)(Y:(x==("__debug__":Str))=false:=by decide):PE X (.Name x pos) (tC v):=
 fun _ _ _ H _ I h=>j8 I W Z ⟨v,H,I,r,h⟩ Y
theorem mC(T:Gl X x)(Y:X.mg x=none)(Z:i4 x=ar u)(r:RelV v u)(U:x≠"__name__":=by decide)(W:(x==("__debug__":Str))=false:=by decide):PE X (.Name x pos) (tC v):=
 fun _ _ _ H _ I h=>kZ I T Y Z ⟨v,H,I,r,h⟩ U W
variable {a b:Expr}{ta tb:TE}{pos:Pos}
theorem mS(b:Expr)(h:op≠ .In)(Z:op≠ .NotIn):i1 op b=false:=by
 have e1:(op==CmpOp.In)=false:=by cases op<;>first|rfl|exact absurd rfl h
 have e2:(op==CmpOp.NotIn)=false:=by cases op<;>first|rfl|exact absurd rfl Z
 cases b<;>simp[i1,e1,e2]
def tB(t:TE):TT:=fun σ H Q=>t σ H fun x H1=>∃c,x= .bl c/\Q c H1
theorem Cq(h:PE X e t)(Z:∀whole,isTrue e X.env whole=(do let v<-whole;G4 e.pos;s_ [v] (LZ v)):=by intro _;rfl):PT X e (tB t):=by
 intro pins s σ H Q I hw;refine isTrue_plain (di (h pins s σ H _ I hw) fun v s1 ⟨x,H1,I1,r1,q1⟩=>?_) (Z _);obtain⟨d,rfl,q⟩:=q1;cases r1;exact IP ⟨H1,I1,q⟩
variable {tA tB':TT}{rest:List Expr}
def Gp(t u:TT):TT:=fun σ H Q=>t σ H fun c H1=>if c=b_ then u σ H1 Q else Q dr H1
def Hs(t u:TT):TT:=fun σ H Q=>t σ H fun c H1=>if c=b_ then Q b_ H1 else u σ H1 Q
def Gq(t:TT):TT:=fun σ H Q=>t σ H fun c H1=>Q (!c) H1
theorem Ak(Z:PT X a tA):PW X (.BoolOp .And [a] pos) tA:=by
 intro Y pins s σ H Q I h;refine isTrue_and (di (Z pins s σ H Q I h) fun c s1 e=>?_);cases c with
 |true=>exact isTrue_and_nil e
 |false=>exact e
theorem Cr(Z:PT X a tA):PW X (.BoolOp .Or [a] pos) tA:=by
 intro Y pins s σ H Q I h;refine isTrue_or (di (Z pins s σ H Q I h) fun c s1 e=>?_);cases c with
 |false=>exact isTrue_or_nil e
 |true=>exact e
theorem Cs(W:PT X a tA)(Y:PW X (.BoolOp .And (b::rest) pos) tB'):PW X (.BoolOp .And (a::b::rest) pos) (Gp tA tB'):=by
 intro Z pins s σ H Q I h;refine isTrue_and (di (W pins s σ H _ I h) fun c s1 ⟨H1,I1,q1⟩=>?_);cases c with
 |true=>exact Y Z pins s1 σ H1 Q I1 q1
 |false=>exact⟨H1,I1,q1⟩
theorem Eo(W:PT X a tA)(Y:PW X (.BoolOp .Or (b::rest) pos) tB'):PW X (.BoolOp .Or (a::b::rest) pos) (Hs tA tB'):=by
 intro Z pins s σ H Q I h;refine isTrue_or (di (W pins s σ H _ I h) fun c s1 ⟨H1,I1,q1⟩=>?_);cases c with
 |true=>exact⟨H1,I1,q1⟩
 |false=>exact Y Z pins s1 σ H1 Q I1 q1
theorem Ct(Z:PT X a tA):PT X (.UnaryOp .Not a pos) (Gq tA):=by
 intro pins s σ H Q I h;exact isTrue_not (Z pins s σ H (fun c Y=>Q (!c) Y) I h)
def Ep(ta tb:TE):TE:=fun σ H Q=>ta σ H fun x H1=>∃c,x= .bl c/\if c=b_ then tb σ H1 Q else Q (.bl dr) H1
def Gr(ta tb:TE):TE:=fun σ H Q=>ta σ H fun x H1=>∃c,x= .bl c/\if c=b_ then Q (.bl b_) H1 else tb σ H1 Q
def Er(ta:TE):TE:=fun σ H Q=>ta σ H fun x H1=>∃c,x= .bl c/\Q (.bl (!c)) H1
theorem Cu{op}(h:PE X a t):PE X (.BoolOp op [a] pos) t:=fun pins s σ H Q I hw=>BoolOp_one (h pins s σ H Q I hw)
theorem Cv(W:PE X a ta)(Y:PE X (.BoolOp .And (b::rest) pos) tb):PE X (.BoolOp .And (a::b::rest) pos) (Ep ta tb):=by
 intro pins s σ H Q I h;refine BoolOp_and (di (W pins s σ H _ I h) fun v s1 ⟨x,H1,I1,r1,Z⟩=>?_);obtain⟨c,rfl,Z⟩:=Z;cases r1;refine IP ?_;cases c with
 |true=>exact Y pins s1 σ H1 Q I1 Z
 |false=>exact⟨.bl dr,H1,I1,rfl,Z⟩
theorem Es(W:PE X a ta)(Y:PE X (.BoolOp .Or (b::rest) pos) tb):PE X (.BoolOp .Or (a::b::rest) pos) (Gr ta tb):=by
 intro pins s σ H Q I h;refine BoolOp_or (di (W pins s σ H _ I h) fun v s1 ⟨x,H1,I1,r1,Z⟩=>?_);obtain⟨c,rfl,Z⟩:=Z;cases r1;refine IP ?_;cases c with
 |false=>exact Y pins s1 σ H1 Q I1 Z
 |true=>exact⟨.bl b_,H1,I1,rfl,Z⟩
theorem Cw(Y:PE X a ta):PE X (.UnaryOp .Not a pos) (Er ta):=by
 intro pins s σ H Q I h;refine UnaryOp_ (di (Y pins s σ H _ I h) fun v s1 ⟨x,H1,I1,r1,Z⟩=>?_);obtain⟨c,rfl,Z⟩:=Z;cases r1;exact not_of (IP ⟨.bl (!c),H1,I1,rfl,Z⟩)
def Ht(t:TT)(ta tb:TE):TE:=fun σ H Q=>t σ H fun c H1=>if c=b_ then ta σ H1 Q else tb σ H1 Q
theorem xr(W:PT X c tA)(Y:PE X a ta)(Z:PE X b tb):PE X (.IfExp c a b pos) (Ht tA ta tb):=by
 intro pins s σ H Q I h;refine wpAny_IfExp (di (W pins s σ H _ I h) fun d s1 ⟨H1,I1,q1⟩=>?_);cases d with
 |true=>exact Y pins s1 σ H1 Q I1 q1
 |false=>exact Z pins s1 σ H1 Q I1 q1
end
end L2
namespace L2
open PySem PySem.Spec PyProof.Rows
def iS(K:dn)(H:Hp)(a:cq)(xs:List V):Prop:=
 Rd H a (.lst xs)\/
  ∃(o:Obj) (its:Array a_) (n:Nat),K.lookup a=ar o/\o.cls= .type "list"/\o.dict=none/\o.data= .seq its n/\its.size<=sizeLine/\bb xs its.toList
def kQ(K:dn)(H:Hp)(a:cq)(xs:List V):Prop:=
 Rd H a (.tup xs)\/
  ∃(o:Obj) (its:Array a_) (n:Nat),K.lookup a=ar o/\o.cls= .type "tuple"/\o.data= .seq its n/\its.size<=sizeLine/\bb xs its.toList
def Gs:a_->Option V
 | .none=>ar .non
 | .bool b=>ar (.bl b)
 | .int i _=>ar (.int i)
 | .str x _=>ar (.str x)
 | .bytes b _=>ar (.byt b)
 | .float b _=>ar (.flt b)
 | .ref a=>ar (.ref a)
 | .type n=>ar (.ty n)
 |_=>none
theorem RelV.abs(r:RelV x u):Gs u=ar x:=by
 cases x with
 |non=>cases r;rfl
 |bl _=>cases r;rfl
 |int _=>obtain⟨t,rfl⟩:=r;rfl
 |str _=>obtain⟨t,rfl⟩:=r;rfl
 |byt _=>obtain⟨t,rfl⟩:=r;rfl
 |flt _=>obtain⟨t,rfl⟩:=r;rfl
 |ref _=>cases r;rfl
 |ty _=>cases r;rfl
theorem RelV.inj(r:RelV x u)(q:RelV y u):x=y:=Il (r.abs.symm.trans q.abs)
theorem bb.inj:∀{xs ys:List V} {us:List a_},bb xs us->bb ys us->xs=ys
 |_,_,_,.nil,.nil=>rfl
 |_,_,_,.cons r t,.cons r' t'=>by rw[r.inj r',bb.inj t t']
section
variable {X:Cx}{pins:List (cq×Obj)}{σ:St}{H:Hp}{s:c_}{a:cq}{xs ys:List V}
theorem iS.of{K:dn}(h:H a=ar (.lst xs)):iS K H a xs:=.inl (.inl h)
theorem kQ.of{K:dn}(h:H a=ar (.tup xs)):kQ K H a xs:=.inl (.inl h)
theorem Inv.list(I:Inv X pins σ H s)(h:iS X.K H a xs):∃its:List a_,bb xs its/\PlainL s.heap a its.toArray/\xs.length<=sizeLine:=by
 rcases h with h|⟨o,its,n,hk,hc,hd,hs,hz,r⟩
 ·obtain⟨z,its,n,r,e⟩:=h.ok I.hok;exact⟨its,r,⟨_,n,e,rfl,rfl,rfl⟩,z⟩
 ·refine⟨its.toList,r,⟨o,n,I.kIn a o hk,hc,hd,by simpa using hs⟩,?_⟩
  have e:=r.length;simp only[u']at e;omega
theorem Inv.tuple(I:Inv X pins σ H s)(h:kQ X.K H a xs):∃its:List a_,bb xs its/\LP s.heap a its.toArray/\xs.length<=sizeLine:=by
 rcases h with h|⟨o,its,n,hk,hc,hs,hz,r⟩
 ·obtain⟨z,its,r,p⟩:=h.ok I.hok;exact⟨its,r,p,z.1⟩
 ·refine⟨its.toList,r,⟨o,I.kIn a o hk,hc,n,by simpa using hs⟩,?_⟩
  have e:=r.length;simp only[u']at e;omega
theorem Inv.list_inj(I:Inv X pins σ H s)(h:iS X.K H a xs)(h':iS X.K H a ys):xs=ys:=by
 obtain⟨its,r,⟨o,n,e,_,_,d⟩,_⟩:=I.list h;obtain⟨its',Y,⟨U,W,Z,_,_,d'⟩,_⟩:=I.list h';rw[e]at Z;cases Z;rw[d]at d';injection d' with d1 _;have:its=its':=by simpa using Kt Array.toList d1
 subst this;exact r.inj Y
theorem Inv.tuple_inj(I:Inv X pins σ H s)(h:kQ X.K H a xs)(h':kQ X.K H a ys):xs=ys:=by
 obtain⟨its,r,⟨o,e,_,n,d⟩,_⟩:=I.tuple h;obtain⟨its',Y,⟨W,Z,_,U,d'⟩,_⟩:=I.tuple h';rw[e]at Z;cases Z;rw[d]at d';injection d' with d1 _;have:its=its':=by simpa using Kt Array.toList d1
 subst this;exact r.inj Y
end
abbrev Cx.wish(X:Cx)(E:a_->c_->Prop):Cx:={X with xe:=E}
abbrev Cx.nox(X:Cx):Cx:=X.wish fun _ _=>False
theorem Cx.Ok.wish{X:Cx}(Z:X.Ok)(E:a_->c_->Prop):(X.wish E).Ok:=
 ⟨Z.mod,Z.kind,Z.glob,Z.blt,Z.above,Z.inj,Z.has,Z.cab,Z.hd,Z.frames,Z.stk,Z.exf,Z.bs,Z.bsz,Z.noex,Z.exfs,Z.funs,Z.frf⟩
theorem Cx.Ok.unwish{X:Cx}(Z:(X.wish E).Ok):X.Ok:=
 ⟨Z.mod,Z.kind,Z.glob,Z.blt,Z.above,Z.inj,Z.has,Z.cab,Z.hd,Z.frames,Z.stk,Z.exf,Z.bs,Z.bsz,Z.noex,Z.exfs,Z.funs,Z.frf⟩
section
variable {X:Cx}{pins:List (cq×Obj)}{σ:St}{H:Hp}{s:c_}{E:a_->c_->Prop}
theorem Inv.wish(I:Inv X pins σ H s)(E:a_->c_->Prop):Inv (X.wish E) pins σ H s:=⟨I.ok.wish E,I.os,I.bare,I.base,I.loc,I.cell,I.free,I.freeC,I.pin,I.hok,I.len⟩
theorem Inv.unwish(I:Inv (X.wish E) pins σ H s):Inv X pins σ H s:=⟨I.ok.unwish,I.os,I.bare,I.base,I.loc,I.cell,I.free,I.freeC,I.pin,I.hok,I.len⟩
theorem SP.unwish(h:SP (X.wish E) pins D f s'):SP X pins D f s':=by
 cases f with
 |next=>obtain⟨Z,Y,I,q⟩:=h;exact⟨Z,Y,I.unwish,q⟩
 |brk=>obtain⟨Z,Y,I,q⟩:=h;exact⟨Z,Y,I.unwish,q⟩
 |cont=>obtain⟨Z,Y,I,q⟩:=h;exact⟨Z,Y,I.unwish,q⟩
 |ret u=>obtain⟨v,Z,Y,I,r,q⟩:=h;exact⟨v,Z,Y,I.unwish,r,q⟩
theorem oz.nox{Z:List mu}{t:TS}(h:oz X.nox Z t):oz X Z t:=fun pins s σ H D I hw=>
 I0 (h pins s σ H D (I.wish _) hw) (fun _ _ q=>q.unwish) fun _ _ z=>g8 z
end
section
variable {X:Cx}{st:mu}{rest:List mu}{t u:TS}{e:Expr}{te:TE}{pos:Pos}
def Et:TS:=fun D σ H=>D.nx σ H
def Gu(t u:TS):TS:=fun D σ H=>t {D with nx:=u D} σ H
theorem Al:oz X [] Et:=fun _ _ σ H _ I h=>JG ⟨σ,H,I,h⟩
theorem xt(Y:PS X st t)(T:oz X rest u):oz X (st::rest) (Gu t u):=by
 intro pins s σ H D I h;refine K5 (di (Y pins s σ H {D with nx:=u D} I h) fun f s1 q=>?_);cases f with
 |next=>
  obtain⟨Z,U,W,q⟩:=q;exact T pins s1 Z U D W q
 |ret v=>exact q
 |brk=>exact q
 |cont=>exact q
theorem uM(Z:PS X st t):oz X [st] t:=by
 intro pins s σ H D I h;refine K5 (di (Z pins s σ H D I h) fun f s1 q=>?_);cases f with
 |next=>exact JG q
 |ret v=>exact q
 |brk=>exact q
 |cont=>exact q
theorem Inv.quiet(I:Inv X pins σ H s):interactive X.env=false:=by simp[interactive,I.ok.kind]
def Eu(te:TE):TS:=fun D σ H=>te σ H fun _ H1=>D.nx σ H1
theorem Am(Z:PE X e te)(hs:j3 e none pos.line X.env=aC false:=by rfl):PS X (.Expr e pos) (Eu te):=by
 intro pins s σ H D I h;exact wpAny_Expr_any (di (Z pins s σ H _ I h) fun v s1 ⟨x,H1,I1,r1,q1⟩=>⟨σ,H1,I1,q1⟩) I.quiet hs
def Gv(te:TE):TS:=fun D σ H=>te σ H D.rt
theorem Cy(Z:PE X e te):PS X (.Return (ar e) pos) (Gv te):=by
 intro pins s σ H D I h;exact wpAny_Return_some (di (Z pins s σ H _ I h) fun v s1 ⟨x,H1,I1,r1,q1⟩=>⟨x,σ,H1,I1,r1,q1⟩)
def Gw(c:TT)(t u:TS):TS:=fun D σ H=>c σ H fun b H1=>if b=b_ then t D σ H1 else u D σ H1
theorem Ew(W:PT X c tc)(Y:oz X a t)(Z:oz X b u):PS X (.If c a b pos) (Gw tc t u):=by
 intro pins s σ H D I h;refine wpAny_If (di (W pins s σ H _ I h) fun d s1 ⟨H1,I1,q1⟩=>?_);cases d with
 |true=>exact Y pins s1 σ H1 D I1 q1
 |false=>exact Z pins s1 σ H1 D I1 q1
end
abbrev TG:=V->St->Hp->(St->Hp->Prop)->Prop
abbrev Cz:=List V->St->Hp->(St->Hp->Prop)->Prop
def PG(X:Cx)(target:Expr)(t:TG):Prop:=
 ∀(pins:List (cq×Obj)) (s:c_) (σ:St) (H:Hp) (v:V) (u:a_) (Q:St->Hp->Prop),Inv X pins σ H s->RelV v u->t v σ H Q->
  ed (eK X.prog X.w) X.A (A' target X.env u) (fun _ s'=>∃ σ' H',Inv X pins σ' H' s'/\Q σ' H') X.xe s
def Ae(X:Cx)(ts:List Expr)(t:Cz):Prop:=
 ∀(pins:List (cq×Obj)) (s:c_) (σ:St) (H:Hp) (vs:List V) (us:List a_) (Q:St->Hp->Prop),Inv X pins σ H s->bb vs us->t vs σ H Q->
  ed (eK X.prog X.w) X.A (assignInOrder ((k8 ts X.env).map (·.2)) us) (fun _ s'=>∃ σ' H',Inv X pins σ' H' s'/\Q σ' H') X.xe s
abbrev CA:=V->V->V->Hp->(Hp->Prop)->Prop
def Ey(X:Cx)(t:CA):Prop:=
 ∀(pins:List (cq×Obj)) (s:c_) (σ:St) (H:Hp) (o i v:V) (ov iv u:a_) (Q:Hp->Prop),Inv X pins σ H s->RelV o ov->RelV i iv->RelV v u->t o i v H Q->
  ed (eK X.prog X.w) X.A (Mh ov iv u) (fun _ s'=>∃H',Inv X pins σ H' s'/\Q H') X.xe s
section
variable {X:Cx}{pos:Pos}
def xu(i:Nat):TG:=fun v σ H Q=>Q (σ.set i (ar v)) H
theorem An(U:X.N.Nodup)(W:X.N[i]? =ar x)(T:Loc X.env.scope x)(Z:X.fn x=b_\/X.env.scope.names.lookup x=ar .local:=by first|exact .inl rfl|exact .inr rfl|assumption):PG X (.Name x pos) (xu i):=by
 intro pins s σ H v u Q I r h;exact wpAny_assign_Name (mR I U W T r (fun s' Y=>⟨_,H,Y,h⟩) Z)
def Gx:Cz:=fun vs σ H Q=>vs=[]/\Q σ H
def Ez(t:TG)(u:Cz):Cz:=fun vs σ H Q=>∃v r,vs=v::r/\t v σ H fun σ' H'=>u r σ' H' Q
theorem Ao:Ae X [] Gx:=by
 intro pins s σ H vs us Q I r h;obtain⟨e,h⟩:=h;subst e;cases r;exact assignInOrder_nil ⟨σ,H,I,h⟩
theorem xv(Y:PG X e t)(Z:Ae X es u)
  (hs:(k8 (e::es) X.env).map (·.2)=A' e X.env::(k8 es X.env).map (·.2):=by rfl):Ae X (e::es) (Ez t u):=by
 intro pins s σ H vs us Q I r h;obtain⟨v,W,e1,h⟩:=h;subst e1;cases r with
 |cons r rr=>
  rw[hs];refine assignInOrder_cons (di (Y pins s σ H _ _ _ I r h) fun _ s1 ⟨σ1,H1,I1,q1⟩=>?_);exact Z pins s1 σ1 H1 _ _ Q I1 rr q1
def Gy(K:dn)(n:Nat)(t:Cz):TG:=fun v σ H Q=>∃a xs,v= .ref a/\kQ K H a xs/\xs.length=n/\t xs σ H Q
theorem CB(P:X.calm=b_)(h:Ae X es t)
  (S:(k8 es X.env).length=n:=by rfl) (Z:(k8 es X.env).findIdx? (·.1)=none:=by rfl):PG X (.Tuple es k pos) (Gy X.K n t):=by
 intro pins s σ H v u Q I r hw;obtain⟨a,xs,e1,W,T,hw⟩:=hw;subst e1;cases r;obtain⟨its,Y,R,N⟩:=I.tuple W;refine assign_Tuple_tuple (I.ok.hd P) R (by simp[S, <-T,Y.length]) Z fun h' U=>?_
 have O:Inv X pins σ H {s with heap:=h'}:=I.kept (t':=s.toks) fun b o e=>U b o (Ih (HS e)) e;exact h pins _ σ H xs _ Q O (by simpa using Y) hw
def Gz(to ti:TE)(t:CA):TG:=fun v σ H Q=>to σ H fun o H1=>ti σ H1 fun i H2=>t o i v H2 fun H3=>Q σ H3
theorem CC(W:PE X o to)(Y:PE X i ti)(hs:Ey X t)
  (Z:∀v,A' (.Subscript o i pos) X.env v=(do
   let ov<-s_ [v] (gd o X.env);let iv<-s_ [v,ov] (gd i X.env)
   G4 pos
   s_ [v,ov,iv] (Mh ov iv v)
   release [v,ov,iv] []):=by intro _;rfl):PG X (.Subscript o i pos) (Gz to ti t):=by
 intro pins s σ H v u Q I r h;rw[Z];refine HK (Jh (di (W pins s σ H _ I h) fun ov s1 ⟨x,H1,I1,r1,q1⟩=>?_));refine HK (Jh (di (Y pins s1 σ H1 _ I1 q1) fun iv s2 ⟨y,H2,I2,r2,q2⟩=>?_));refine HK (F0 (HK (Jh (di (hs pins s2 σ H2 x y v ov iv u _ I2 r1 r2 r q2) fun _ s3 ⟨H3,I3,q3⟩=>?_))));exact wpAny_release ⟨σ,H3,I3,q3⟩
def CD(te:TE)(g:TG):TS:=fun D σ H=>te σ H fun x H1=>g x σ H1 D.nx
theorem CF(Y:PE X e te)(U:PG X tg g)(hs:swapsWithSole [tg] e pos.line X.env=aC false:=by rfl)(W:swappedStores [tg] e X.env=aC none:=by rfl)
  (Z:(k8 [tg] X.env).map (·.2)=[A' tg X.env]:=by rfl):PS X (.Assign [tg] e pos) (CD te g):=by
 intro pins s σ H D I h;refine wpAny_Assign_stores (di (Y pins s σ H _ I h) fun v s1 ⟨x,H1,I1,r1,q1⟩=>?_) hs W;rw[Z];exact di (U pins s1 σ H1 x v _ I1 r1 q1) fun _ s2 q=>q
theorem xw(U:X.N.Nodup)(W:X.N[i]? =ar x)(T:Loc X.env.scope x)(Y:PE X e te)(hs:j3 e (ar (.Name x pos')) pos.line X.env=aC false:=by rfl)(Z:X.fn x=b_\/X.env.scope.names.lookup x=ar .local:=by first|exact .inl rfl|exact .inr rfl|assumption):
  PS X (.Assign [.Name x pos'] e pos) (CD te (xu i)):=by
 intro pins s σ H D I h;refine wpAny_Assign_Name (di (Y pins s σ H _ I h) fun v s1 ⟨y,H1,I1,r1,q1⟩=>?_) hs;exact mR I1 U W T r1 (fun s2 S=>⟨_,H1,S,q1⟩) Z
end
section
variable {X:Cx}{pos:Pos}
def CG(c:TT)(tb:TS):TS:=fun D σ H=>∃W:Nat->St->Hp->Prop,(∃m,W m σ H)/\∀m σ H,W m σ H->
 c σ H fun b H1=>if b=b_ then ∃N:St->Hp->Prop,(∀ σ' H',N σ' H'->∃m',m'<m/\W m' σ' H')/\tb {D with nx:=N,ct:=N,bk:=D.nx} σ H1 else D.nx σ H1
theorem xx{c:Expr}{body:List mu}{K:TT}{tb:TS}(L:D' (eK X.prog X.w) X.A X.env X.xe)(G:PT X c K)(J:oz X body tb):PS X (.While c body [] pos) (CG K tb):=by
 intro pins s σ H D I h;obtain⟨W,⟨m0,w0⟩,turn⟩:=h;refine wpAny_While (codeAny_whileLoop (fun n s'=>∃ σ' H',Inv X pins σ' H' s'/\W n σ' H') ?_ m0 ⟨σ,H,I,w0⟩);rintro n s1 ⟨σ1,H1,I1,w1⟩;refine Ju L (di (G pins s1 σ1 H1 _ I1 (turn n σ1 H1 w1)) fun b s2 ⟨H2,I2,T⟩=>?_);cases b with
 | true=>
  obtain⟨N,O,T⟩:=T;rw[if_pos rfl];refine Ju L (di (J pins s2 σ1 H2 _ I2 T) fun f s3 U=>?_);cases f with
  |next=>
   obtain⟨Z,Y,S,P⟩:=U;obtain⟨Q,hm,R⟩:=O Z Y P;exact⟨Q,hm,Z,Y,S,R⟩
  |cont=>
   obtain⟨Z,Y,S,P⟩:=U;obtain⟨Q,hm,R⟩:=O Z Y P;exact⟨Q,hm,Z,Y,S,R⟩
  |brk=>exact U
  |ret v=>exact U
 |false=>
  rw[if_neg IT];exact JG ⟨σ1,H2,I2,T⟩
end
structure It where
 go:Nat->Hp->Prop
 yld:Nat->Hp->V->Hp->Prop
 stop:Nat->Hp->Prop
def j9(X:Cx)(pins:List (cq×Obj))(H:Hp)(b:cq):Prop:=
 H b=none/\b≠X.env.locals/\b∉X.fs/\(b∈X.ex\/X.s₀.heap.objs.size<=b)/\(∀x c,X.env.cells.lookup x=ar c->c≠b)/\∀p∈X.pn++pins,p.1≠b
theorem Inv.fpOk{Y:Hp}(I:Inv X pins σ H s)(Z:s.heap.objs.size<=b)(W:Y b=none):j9 X pins Y b:=by
 refine⟨W,JS (HZ I.lt Z),I.nofs Z,.inr (HX I.sz Z),fun x c e z=>?_,fun p U z=>?_⟩
 ·obtain⟨v,q⟩:=I.cell x c e;exact absurd (HZ q.lt (by rw[z];exact Z)) (Jg _)
 ·exact absurd (HZ (HS (I.pin p U).1) (by rw[z];exact Z)) (Jg _)
structure Turn(P:eb)(w:ee)(K:dn)(tg:Expr)(J:It)(fp:List cq)(it:cq)(tn:Nat->fc->Prop):Prop where
 mem:it∈fp
 obj:∀i h,tn i h->∀b∈fp,∃o,h.get? b=ar o/\∀v,o.data≠ .cell v
 keep:∀i h h',tn i h->(∀b∈fp,∀o,h.get? b=ar o->h'.get? b=ar o)->tn i h'
 item:∀(X:Cx),X.prog=P->X.w=w->X.K=K->X.calm=b_->∀(i:Nat) (pins:List (cq×Obj)) (s:c_) (σ:St) (H:Hp) (E:a_->c_->Prop),Inv X pins σ H s->(∀b∈fp,j9 X pins H b)->tn i s.heap->J.go i H->
  ed (eK P w) X.A (LC (.ref it)) (fun r s1=>∃u,r=ar u/\
   ed (eK P w) X.A (z4 tg (.ref it) u) (fun _ s2=>∃x H',Inv X pins σ H' s2/\RelV x u/\J.yld i H x H'/\tn (i+1) s2.heap/\∀b∈fp,H' b=none) E s1) E s
 done:∀(X:Cx),X.prog=P->X.w=w->X.K=K->X.calm=b_->∀(i:Nat) (pins:List (cq×Obj)) (s:c_) (σ:St) (H:Hp) (E:a_->c_->Prop),Inv X pins σ H s->(∀b∈fp,j9 X pins H b)->tn i s.heap->J.stop i H->
  ed (eK P w) X.A (LC (.ref it)) (fun r s1=>r=none/\Inv X pins σ H s1) E s
 self:∀(A:g_) (i:Nat) (s:c_) (Q:a_->c_->Prop) (E:a_->c_->Prop),tn i s.heap->Q (.ref it) s->ed (eK P w) A (pyIter (.ref it)) Q E s
abbrev TI:=St->Hp->(It->Hp->Prop)->Prop
def Hb(X:Cx)(pins:List (cq×Obj))(σ:St)(tg:Expr)(R:It->Hp->Prop)(itv:a_)(s2:c_):Prop:=
 ∃(it:cq) (fp:List cq) (tn:Nat->fc->Prop) (J:It) (H':Hp),itv= .ref it/\Inv X pins σ H' s2/\Turn X.prog X.w X.K tg J fp it tn/\tn 0 s2.heap/\(∀b∈fp,j9 X pins H' b)/\R J H'
def PI(X:Cx)(tg iter:Expr)(wi:TI):Prop:=
 ∀(pins:List (cq×Obj)) (s:c_) (σ:St) (H:Hp) (R:It->Hp->Prop),Inv X pins σ H s->wi σ H R->
  ed (eK X.prog X.w) X.A (gd iter X.env) (fun v s1=>ed (eK X.prog X.w) X.A (pyIter v) (Hb X pins σ tg R) X.xe s1) X.xe s
theorem xA{s:c_}{Q:Unit->c_->Prop}(U:s.heap.get? it=ar o)(Y:o.cls= .type n)(X:o.data= .fields vs)
    (W:["enumerate","zip","dict_itemiterator","dict_reverseitemiterator","odict_iterator","itertools.zip_longest","itertools.pairwise"].contains n=dr) (Z:Q () s):ed M A (z4 tg (.ref it) u) Q E s:=by
  unfold z4;cases tg <;>first
    |exact HV Z
    |(cases u<;>first
        |exact HV Z
        | (refine HK (wpAny_load U ?_)
           rw[Y,X];show ed M A (if (["enumerate","zip","dict_itemiterator","dict_reverseitemiterator","odict_iterator","itertools.zip_longest","itertools.pairwise"].contains n && vs[0]? ==ar (kS _))=b_ then _ else _) Q E s;rw[if_neg (by intro h;rw[W,JL]at h;cases h)]
           exact HV Z))
def FV(K:dn)(a:cq):It:=
 ⟨fun i H=>∃xs x,iS K H a xs/\xs[i]? =ar x,fun i H x H'=>H'=H/\∀xs,iS K H a xs->xs[i]? =ar x,fun i H=>∃xs,iS K H a xs/\xs.length<=i⟩
def GA(K:dn)(a:cq):It:=
 ⟨fun i H=>∃xs x,kQ K H a xs/\xs[i]? =ar x,fun i H x H'=>H'=H/\∀xs,kQ K H a xs->xs[i]? =ar x,fun i H=>∃xs,kQ K H a xs/\xs.length<=i⟩
def EB(lo:Int)(n:Nat):It:=⟨fun i _=>i<n,fun i H x H'=>H'=H/\x= .int (lo+i),fun i _=>n<=i⟩
theorem vY{P:eb}{w:ee}{K:dn}{F:Expr}(a it:cq):Turn P w K F (FV K a) [it] it (fun i h=>h.IsListIter it a i) where
 mem:=by simp
 obj:=fun i h st b Z=>by
  have e:b=it:=by simpa using Z
  subst e;obtain⟨o,e,c,d⟩:=st;exact⟨o,e,fun v z=>by rw[d]at z;cases z⟩
 keep:=fun i h h' st k=>st.at fun o e=>k it (by simp) o e
 item:=by
  intro X O hw R J i pins s σ H E I hf st Q;subst O hw R;obtain⟨xs,x,U,T⟩:=Q;obtain⟨its,N,p,A⟩:=I.list U;obtain⟨u,t,B⟩:=N.get T;obtain⟨f0,f1,f2,L,f4,S⟩:=hf it (by simp)
  refine wpAny_pyNext_list_item st p.isList (x:=u) (by simpa using t) fun h' Y r=>?_
  have C:Inv X pins σ H {s with heap:=h'}:=I.turned (t':=s.toks) (fun b o Z e=>(r.2 b Z).trans e) f0 f1 L f4 S;obtain⟨o,e,c,d⟩:=id Y;exact⟨u,rfl,xA (s:={s with heap:=h'}) e c d (by decide) ⟨x,H,C,B,⟨rfl,fun ys G=>by rw[I.list_inj G U];exact T⟩,Y,fun b Z=>(hf b Z).1⟩⟩
 done:=by
  intro X O hw R J i pins s σ H E I hf st Q;subst O hw R;obtain⟨xs,U,T⟩:=Q;obtain⟨its,N,p,A⟩:=I.list U;obtain⟨f0,f1,f2,L,f4,S⟩:=hf it (by simp)
  have q:=N.length;exact wpAny_pyNext_list_end (I.ok.hd J) st p.isList (by simp;omega) fun h' y=>⟨rfl,I.turned (t':=s.toks) (fun b o Z e=>y b o Z e) f0 f1 L f4 S⟩
 self:=fun _ _ _ _ _ st h=>wpAny_pyIter_listiter st h
theorem tJ{P:eb}{w:ee}{K:dn}{F:Expr}(a it:cq):Turn P w K F (GA K a) [it] it (fun i h=>h.IsTupleIter it a i) where
 mem:=by simp
 obj:=fun i h st b Z=>by
  have e:b=it:=by simpa using Z
  subst e;obtain⟨o,e,c,d⟩:=st;exact⟨o,e,fun v z=>by rw[d]at z;cases z⟩
 keep:=fun i h h' st k=>st.at fun o e=>k it (by simp) o e
 item:=by
  intro X O hw R J i pins s σ H E I hf st Q;subst O hw R;obtain⟨xs,x,U,T⟩:=Q;obtain⟨its,N,p,A⟩:=I.tuple U;obtain⟨u,t,B⟩:=N.get T;obtain⟨f0,f1,f2,L,f4,S⟩:=hf it (by simp)
  refine wpAny_pyNext_tuple_item st (show s.heap.IsTuple a its.toArray from p) (x:=u) (by simpa using t) fun h' Y r=>?_
  have C:Inv X pins σ H {s with heap:=h'}:=I.turned (t':=s.toks) (fun b o Z e=>(r.2 b Z).trans e) f0 f1 L f4 S;obtain⟨o,e,c,d⟩:=id Y;exact⟨u,rfl,xA (s:={s with heap:=h'}) e c d (by decide) ⟨x,H,C,B,⟨rfl,fun ys G=>by rw[I.tuple_inj G U];exact T⟩,Y,fun b Z=>(hf b Z).1⟩⟩
 done:=by
  intro X O hw R J i pins s σ H E I hf st Q;subst O hw R;obtain⟨xs,U,T⟩:=Q;obtain⟨its,N,p,A⟩:=I.tuple U;obtain⟨f0,f1,f2,L,f4,S⟩:=hf it (by simp)
  have q:=N.length;exact wpAny_pyNext_tuple_end (I.ok.hd J) st (show s.heap.IsTuple a its.toArray from p) (by simp;omega) fun h' y=>⟨rfl,I.turned (t':=s.toks) (fun b o Z e=>y b o Z e) f0 f1 L f4 S⟩
 self:=fun _ _ _ _ _ st h=>wpAny_pyIter_tupleiter st h
theorem tK{P:eb}{w:ee}{K:dn}{G:Expr}(it:cq)(U:Int)(n:Nat):Turn P w K G (EB U n) [it] it (fun i h=>IsRangeIter h it (U+(i:Nat)*1) ((n:Int) - (i:Nat)) 1) where
 mem:=by simp
 obj:=fun i h st b Z=>by
  have e:b=it:=by simpa using Z
  subst e;exact⟨_,st,fun v z=>by
   have A:Data.fields _=Data.cell v:=z;cases A⟩
 keep:=fun i h h' st k=>k it (by simp) _ st
 item:=by
  intro X Q hw S N i pins s σ H E I hf st R;subst Q hw S;obtain⟨f0,f1,f2,O,f4,T⟩:=hf it (by simp)
  have W:=Walks.range (prog:=X.prog) (w:=X.w) (I.ok.hd N) it U 1 n;refine W.item i s _ _ R st fun v h' L J Y C=>?_;obtain⟨t,rfl⟩:=J;have F:Inv X pins σ H {s with heap:=h',toks:=L}:=I.turned (fun b o Z e=>C b o (by simpa using Z) e) f0 f1 O f4 T
  refine⟨_,rfl,xA (s:={s with heap:=h',toks:=L}) (n:="range_iterator") Y rfl rfl (by decide) ⟨.int (U+i),H,F,⟨t,?_⟩,⟨rfl,rfl⟩,Y,fun b Z=>(hf b Z).1⟩⟩
  rw[Int.mul_one]
 done:=by
  intro X Q hw S N i pins s σ H E I hf st R;subst Q hw S;obtain⟨f0,f1,f2,O,f4,T⟩:=hf it (by simp)
  exact wpAny_pyNext_range_end (I.ok.hd N) st (by have:n<=i:=R;omega) fun h' B=>⟨rfl,I.turned (t':=s.toks) (fun b o Z e=>B b o Z e) f0 f1 O f4 T⟩
 self:=fun _ _ _ _ _ st h=>wpAny_pyIter_rangeiter st h
end L2
namespace L2
open PySem PySem.Spec PyProof.Rows
section
variable {X:Cx}{tg:Expr}
def EC(K:dn)(tl:TE):TI:=fun σ H R=>tl σ H fun x H1=>∃a,x= .ref a/\(∃xs,iS K H1 a xs)/\R (FV K a) H1
def GC(K:dn)(tl:TE):TI:=fun σ H R=>tl σ H fun x H1=>∃a,x= .ref a/\(∃xs,kQ K H1 a xs)/\R (GA K a) H1
theorem kb{l:Expr}{Z:TE}(W:PE X l Z):PI X tg l (EC X.K Z):=by
 intro pins s σ H R I h;refine di (W pins s σ H _ I h) fun v s1 ⟨x,H1,I1,r1,q1⟩=>?_;obtain⟨a,e,⟨xs,Y⟩,q⟩:=q1;subst e;cases r1;obtain⟨its,S,p,T⟩:=I1.list Y;refine KR p.isList ?_;refine⟨s1.heap.objs.size,[s1.heap.objs.size],_,_,H1,rfl,I1.kept (t':=s1.toks) fun b o e=>HM _ e,vY a _,⟨_,Ia _ rfl,rfl,rfl⟩,fun b U=>?_,q⟩;have e:b=s1.heap.objs.size:=by simpa using U
 subst e;exact I1.fpOk (HN _) (I1.hok.fresh (HN _))
theorem CH{l:Expr}{Z:TE}(W:PE X l Z):PI X tg l (GC X.K Z):=by
 intro pins s σ H R I h;refine di (W pins s σ H _ I h) fun v s1 ⟨x,H1,I1,r1,q1⟩=>?_;obtain⟨a,e,⟨xs,Y⟩,q⟩:=q1;subst e;cases r1;obtain⟨its,S,p,T⟩:=I1.tuple Y;refine KM (show s1.heap.IsTuple a its.toArray from p) ?_;refine⟨s1.heap.objs.size,[s1.heap.objs.size],_,_,H1,rfl,I1.kept (t':=s1.toks) fun b o e=>HM _ e,tJ a _,⟨_,Ia _ rfl,rfl,rfl⟩,fun b U=>?_,q⟩;have e:b=s1.heap.objs.size:=by simpa using U
 subst e;exact I1.fpOk (HN _) (I1.hok.fresh (HN _))
theorem rC{W:List (cq×Obj)}{U:St}{H:Hp}{s:c_}{R:It->Hp->Prop}{E:a_->c_->Prop}{Z Y:Int}{t u v:Tok}{S:Nat}(I:Inv X W U H s)(P: -(2 ^ 62)<=Z)(Q:Z<2 ^ 62)(N: -(2 ^ 62)<=Y)(L:Y<2 ^ 62)
  (q:R (EB Z (Y - Z).toNat) H):ed (eK X.prog X.w) X.A (pyIter (.ref s.heap.objs.size)) (Hb X W U tg R) E {s with heap:=s.heap.push {cls:=.type "range",data:=.fields #[.int Z t,.int Y u,.int 1 v]},toks:=S}:=by
 refine wpAny_pyIter_range (IsRange.new ..) (small_one P Q N L) ?_;have T:Inv X W U H {s with heap:=s.heap.push {cls:=.type "range",data:=.fields #[.int Z t,.int Y u,.int 1 v]},toks:=S}:=I.kept fun b o e=>HM _ e;refine⟨(s.heap.push {cls:=.type "range",data:=.fields #[.int Z t,.int Y u,.int 1 v]}).objs.size,[(s.heap.push {cls:=.type "range",data:=.fields #[.int Z t,.int Y u,.int 1 v]}).objs.size],_,_,H,rfl,
  T.kept (t':=S) fun b o e=>HM _ e,tK _ Z (Y - Z).toNat,?_,fun b O=>?_,q⟩
 ·have e1:Z+((0:Nat):Int)*1=Z:=by simp
  have e2:(((Y - Z).toNat:Nat):Int) - ((0:Nat):Int)=Builtin.Range.rangeSize Z Y 1:=by rw[rangeSize_one];split<;>omega
  show IsRangeIter _ _ (Z+((0:Nat):Int)*1) ((((Y - Z).toNat:Nat):Int) - ((0:Nat):Int)) 1;rw[e1,e2];exact Ia _ rfl
 ·have e:b=(s.heap.push {cls:=.type "range",data:=.fields #[.int Z t,.int Y u,.int 1 v]}).objs.size:=by simpa using O
  subst e;exact T.fpOk (HN _) (T.hok.fresh (HN _))
def ED(ta:TA):TI:=fun σ H R=>ta σ H fun vs H1=>∃j:Int,vs=[.int j]/\ -(2 ^ 62)<=j/\j<2 ^ 62/\R (EB 0 j.toNat) H1
def EE(ta:TA):TI:=fun σ H R=>ta σ H fun vs H1=>∃i j:Int,vs=[.int i,.int j]/\(-(2 ^ 62)<=i/\i<2 ^ 62/\ -(2 ^ 62)<=j/\j<2 ^ 62)/\R (EB i (j - i).toNat) H1
theorem vZ{a:Expr}{Y:TA}{p pos:Pos}(S:Gl X "range")(U:X.mg "range"=none)(W:PA X [a] Y)(hs:dt [a] X.env=[(dr,gd a X.env)]:=by rfl):PI X tg (.Call (.Name "range" p) [a] [] pos) (ED Y):=by
 intro pins s σ H R I h;refine Call_ (kZ I S U boot_range (Jl (di (W pos pins s σ H _ I h) fun us s1 ⟨vs,H1,I1,r1,Z⟩=>?_) hs rfl));obtain⟨j,e,Z,T,q⟩:=Z;subst e;cases r1 with
 |cons r rr=>
  cases rr;obtain⟨t,rfl⟩:=r;exact call_range_1 (rC I1 (by omega) (by omega) Z T (by simpa using q))
theorem v5(P:Gl X "range")(U:X.mg "range"=none)(W:PA X [a,b] ta)(hs:dt [a,b] X.env=[(dr,gd a X.env),(dr,gd b X.env)]:=by rfl)(Z:dt [b] X.env=[(dr,gd b X.env)]:=by rfl):
  PI X tg (.Call (.Name "range" p) [a,b] [] pos) (EE ta):=by
 intro pins s σ H R I h;refine Call_ (kZ I P U boot_range (Jl (di (W pos pins s σ H _ I h) fun us s1 ⟨vs,H1,I1,r1,Y⟩=>?_) (by rw[hs,Z]) (by rw[Z];rfl)))
 obtain⟨i,j,e,⟨Y,S,T,Q⟩,q⟩:=Y;subst e;cases r1 with
 | cons r rr=>
  cases rr with
  |cons r' rr=>
   cases rr;obtain⟨t,rfl⟩:=r;obtain⟨t',rfl⟩:=r';exact call_range_2 (rC I1 Y S T Q q)
def GD(wi:TI)(g:TG)(tb:TS):TS:=fun D σ H=>wi σ H fun J H1=>∃W:Nat->Nat->St->Hp->Prop,(∃m,W 0 m σ H1)/\∀i m σ H,W i m σ H->
 (J.stop i H/\D.nx σ H)\/(J.go i H/\∃N:St->Hp->Prop,(∀ σ' H',N σ' H'->∃m',m'<m/\W (i+1) m' σ' H')/\∀x H',J.yld i H x H'->g x σ H' fun σ2 H2=>tb {D with nx:=N,ct:=N,bk:=D.nx} σ2 H2)
def mT(fp:List cq)(h:fc):List (cq×Obj):=fp.filterMap fun b=>(h.get? b).map fun o=>(b,o)
theorem hZ{h:fc}(Z:b∈fp)(e:h.get? b=ar o):(b,o)∈mT fp h:=Jq.mpr ⟨b,Z,by rw[e];rfl⟩
theorem v7(W:p∈mT fp h):p.1∈fp/\h.get? p.1=ar p.2:=by
 obtain⟨b,Y,e⟩:=Jq.mp W;cases q:h.get? b with
 |none=>rw[q]at e;cases e
 |some o=>
  rw[q]at e;have Z:(b,o)=p:=Il e;subst Z;exact⟨Y,q⟩
theorem Inv.pinned(I:Inv X pins σ H s)(W:∀b∈fp,j9 X pins H b)(U:∀b∈fp,∃o,s.heap.get? b=ar o/\∀v,o.data≠ .cell v):Inv X (pins++mT fp s.heap) σ H s:=
 I.pins_of fun p T=>(Jk.mp T).elim (fun z=>I.pin p (Iq _ z)) fun z=>by
  obtain⟨Z,e⟩:=v7 z;obtain⟨f0,f1,f2,_⟩:=W p.1 Z;obtain⟨o,Y,d⟩:=U p.1 Z;rw[e]at Y;cases Y;exact⟨e,f0,f1,f2,d⟩
theorem Inv.unpinned(I:Inv X (pins++pl) σ H s):Inv X pins σ H s:=I.pins_of fun p Z=>I.pin p (Iq _ (JK _ Z))
theorem CI{Q:Expr}{body:List mu}{B:TI}{g:TG}{tb:TS}{pos:Pos}(O:D' (eK X.prog X.w) X.A X.env X.xe)(z:X.calm=b_)(hi:PI X tg Q B)(k:PG X tg g)(U:oz X body tb)
  (hs:∀x,j7 Q X.env x=aC x:=by intro _;rfl):PS X (.For tg Q body [] pos) (GD B g tb):=by
 intro pins s σ H D I h;refine wpAny_For (di (hi pins s σ H _ I h) fun v s1 p=>di p fun y s2 c=>?_) hs;obtain⟨it,L,C,J,H2,e,q,T,G,f2,W,⟨m0,w0⟩,turn⟩:=c;subst e;have S:∀{H':Hp},(∀b∈L,H' b=none)->∀b∈L,j9 X pins H' b:=fun t b U=>⟨t b U,(f2 b U).2⟩;refine codeAny_forLoop_any (fun n s'=>∃i σ' H',Inv X pins σ' H' s'/\C i s'.heap/\(∀b∈L,H' b=none)/\W i n σ' H') ?_ m0 ⟨0,σ,H2,q,G,fun b U=>(f2 b U).1,w0⟩;rintro n s3 ⟨i,σ3,H3,I3,st3,fr3,w3⟩;rcases turn i n σ3 H3 w3 with⟨stop,qn⟩|⟨go,N,hN,step⟩
 ·refine Ju O (di (T.done X rfl rfl rfl z i pins s3 σ3 H3 X.xe I3 (S fr3) st3 stop) fun r s4 ⟨hr,I4⟩=>?_);subst hr;exact JG ⟨σ3,H3,I4,qn⟩
 ·refine Ju O (di (T.item X rfl rfl rfl z i pins s3 σ3 H3 X.xe I3 (S fr3) st3 go) fun r s4 ⟨u,hr,h4⟩=>?_);subst hr;refine Ju O (di h4 fun _ s5 ⟨x,H5,I5,r5,y5,st5,fr5⟩=>?_);have F:=I5.pinned (S fr5) (T.obj _ _ st5);refine Ju O (di (k _ s5 σ3 H5 x u _ F r5 (step x H5 y5)) fun _ s6 ⟨σ6,H6,I6,q6⟩=>?_);refine Ju O (di (U _ s6 σ6 H6 _ I6 q6) fun f E P=>?_);have L9:∀{Z:St} {Y:Hp},Inv X (pins++mT L s5.heap) Z Y E->N Z Y->∃m,m<n/\∃i σ' H',Inv X pins σ' H' E/\C i E.heap/\(∀b∈L,H' b=none)/\W i m σ' H':=fun{Z Y} R K=>by
   obtain⟨a,hm,l⟩:=hN Z Y K;refine⟨a,hm,i+1,Z,Y,R.unpinned,T.keep _ _ _ st5 fun b U o e=>(R.pin (b,o) (Iq _ (Iq _ (hZ U e)))).1,fun b U=>?_,l⟩;obtain⟨o,e,d⟩:=T.obj _ _ st5 b U;exact(R.pin (b,o) (Iq _ (Iq _ (hZ U e)))).2.1
  cases f with
  |next=>obtain⟨Z,Y,R,K⟩:=P;exact L9 R K
  |cont=>obtain⟨Z,Y,R,K⟩:=P;exact L9 R K
  |brk=>obtain⟨Z,Y,R,P⟩:=P;exact⟨Z,Y,R.unpinned,P⟩
  |ret v=>obtain⟨x7,Z,Y,R,j,P⟩:=P;exact⟨x7,Z,Y,R.unpinned,j,P⟩
end
end L2
namespace L2
open PySem PySem.Spec PyProof.Rows
abbrev R2:=V->V->Hp->VK->Prop
def gT(X:Cx)(f:a_->a_->Sem a_)(r:R2):Prop:=
 ∀(pins:List (cq×Obj)) (s:c_) (σ:St) (H:Hp) (x y:V) (v u:a_) (Q:VK),Inv X pins σ H s->RelV x v->RelV y u->r x y H Q->
  ed (eK X.prog X.w) X.A (f v u) (EP X pins σ Q) X.xe s
def GE(X:Cx)(f:a_->Sem a_)(r:V->Hp->VK->Prop):Prop:=
 ∀(pins:List (cq×Obj)) (s:c_) (σ:St) (H:Hp) (x:V) (v:a_) (Q:VK),Inv X pins σ H s->RelV x v->r x H Q->
  ed (eK X.prog X.w) X.A (f v) (EP X pins σ Q) X.xe s
def dj(X:Cx)(f:a_)(r:List V->Hp->VK->Prop):Prop:=
 ∀(pins:List (cq×Obj)) (s:c_) (σ:St) (H:Hp) (xs:List V) (us:List a_) (Q:VK),Inv X pins σ H s->bb xs us->r xs H Q->
  ed (eK X.prog X.w) X.A (call f us) (EP X pins σ Q) X.xe s
def GF(X:Cx)(r:V->Hp->(Bool->Hp->Prop)->Prop):Prop:=
 ∀(pins:List (cq×Obj)) (s:c_) (σ:St) (H:Hp) (x:V) (v:a_) (Q:Bool->Hp->Prop),Inv X pins σ H s->RelV x v->r x H Q->
  ed (eK X.prog X.w) X.A (LZ v) (TP X pins σ Q) X.xe s
def EF(r:R2)(ta tb:TE):TE:=fun σ H Q=>ta σ H fun x H1=>tb σ H1 fun y H2=>r x y H2 Q
def Hu(r:V->Hp->VK->Prop)(ta:TE):TE:=fun σ H Q=>ta σ H fun x H1=>r x H1 Q
def rI(C:Int->Int->Prop)(g:Int->Int->V):R2:=fun x y H Q=>∃i j,x= .int i/\y= .int j/\C i j/\Q (g i j) H
def Af(g:Int->Int->V):R2:=fun x y H Q=>∃i j,x= .int i/\y= .int j/\Q (g i j) H
def rU(g:Int->V):V->Hp->VK->Prop:=fun x H Q=>∃i,x= .int i/\Q (g i) H
section
variable {X:Cx}{a b c:Expr}{ta tb tc:TE}{pos:Pos}
theorem CJ(P:PE X a ta)(S:PE X b tb){R:V->V->Hp->Prop}(I:Inv X pins σ H s)
  (h:ta σ H fun x U=>tb σ U fun y Z=>R x y Z) {f:a_->a_->Sem a_}
  (T:∀v u s2 x y Z,Inv X pins σ Z s2->RelV x v->RelV y u->R x y Z->ed (eK X.prog X.w) X.A (f v u) Q X.xe s2):
  ed (eK X.prog X.w) X.A (gd a X.env) (fun v Y=>ed (eK X.prog X.w) X.A (gd b X.env) (fun u W=>ed (eK X.prog X.w) X.A (f v u) Q X.xe W) X.xe Y) X.xe s:=by
 refine di (P pins s σ H _ I h) fun v s1 ⟨x,U,I1,r1,q1⟩=>?_;refine di (S pins s1 σ U _ I1 q1) fun u s2 ⟨y,Z,I2,r2,q2⟩=>?_;exact T v u s2 x y Z I2 r1 r2 q2
theorem EG(Y:gT X (m1 op) r)(Z:PE X a ta)(S:PE X b tb):PE X (.BinOp a op b pos) (EF r ta tb):=by
 intro pins s σ H Q I h;exact wpAny_BinOp (CJ Z S I h fun v u s2 x y R T U W q=>Y pins s2 σ R x y v u Q T U W q)
theorem EH(Y:GE X (unaryOp op) r)(Z:PE X a ta):PE X (.UnaryOp op a pos) (Hu r ta):=by
 intro pins s σ H Q I h;exact UnaryOp_ (di (Z pins s σ H _ I h) fun v s1 ⟨x,H1,I1,r1,q1⟩=>Y pins s1 σ H1 x v Q I1 r1 q1)
theorem FW{f:a_->a_->Sem a_}{C:Int->Int->Prop}{g:Int->Int->Int}
  (Z:∀(i j:Int) (t u:Tok) (s:c_) (Q:a_->c_->Prop) (E:a_->c_->Prop),C i j->Q (.int (g i j) s.toks) {s with toks:=s.toks+1}->ed (eK X.prog X.w) X.A (f (.int i t) (.int j u)) Q E s):
  gT X f (rI C fun i j=>.int (g i j)):=by
 intro pins s σ H x y v u Q I W Y h;obtain⟨i,j,rfl,rfl,U,q⟩:=h;obtain⟨t,rfl⟩:=W;obtain⟨t',rfl⟩:=Y;exact Z i j t t' s _ _ U ⟨.int (g i j),H,I.tok _,⟨_,rfl⟩,q⟩
theorem EI{f:a_->a_->Sem a_}{g:Int->Int->Int}
  (Z:∀(i j:Int) (t u:Tok) (s:c_) (Q:a_->c_->Prop) (E:a_->c_->Prop),Q (.int (g i j) s.toks) {s with toks:=s.toks+1}->ed (eK X.prog X.w) X.A (f (.int i t) (.int j u)) Q E s):
  gT X f (Af fun i j=>.int (g i j)):=by
 intro pins s σ H x y v u Q I W Y h;obtain⟨i,j,rfl,rfl,q⟩:=h;obtain⟨t,rfl⟩:=W;obtain⟨t',rfl⟩:=Y;exact Z i j t t' s _ _ ⟨.int (g i j),H,I.tok _,⟨_,rfl⟩,q⟩
theorem Ap{f:a_->a_->Sem a_}{g:Int->Int->Bool}
  (Z:∀(i j:Int) (t u:Tok) (s:c_) (Q:a_->c_->Prop) (E:a_->c_->Prop),Q (.bool (g i j)) s->ed (eK X.prog X.w) X.A (f (.int i t) (.int j u)) Q E s):
  gT X f (Af fun i j=>.bl (g i j)):=by
 intro pins s σ H x y v u Q I W Y h;obtain⟨i,j,rfl,rfl,q⟩:=h;obtain⟨t,rfl⟩:=W;obtain⟨t',rfl⟩:=Y;exact Z i j t t' s _ _ ⟨.bl (g i j),H,I,rfl,q⟩
def v8(i j:Int):Prop:=0<j/\j<1073741824
def Aq(i j:Int):Prop:=0<=j/\j<=1000000/\i.natAbs<2 ^ 64
def tL(i j:Int):Prop:=(-(2 ^ 64)<i/\i<2 ^ 64)\/(-(2 ^ 64)<j/\j<2 ^ 64)
theorem tL.ok{i j:Int}(h:tL i j):IntMulOk i j:=by
 rcases h with⟨h1,h2⟩|⟨h1,h2⟩
 ·exact .of_left (intBits_le_64 h1 h2)
 ·exact .of_right (intBits_le_64 h1 h2)
theorem CK:gT X (m1 .Add) (Af fun i j=>.int (i+j)):=EI fun _ _ _ _ _ _ _ q=>add_int q
theorem CL:gT X (m1 .Sub) (Af fun i j=>.int (i - j)):=EI fun _ _ _ _ _ _ _ q=>sub_int q
theorem CM:gT X (m1 .Mult) (rI tL fun i j=>.int (i*j)):=FW fun _ _ _ _ _ _ _ Z q=>mul_int q Z.ok
theorem Ar:gT X (m1 .FloorDiv) (rI v8 fun i j=>.int (i / j)):=FW fun i j _ _ _ _ _ Z q=>by
 have Y:(0:Int)<j:=Z.1;have W:j<1073741824:=Z.2;exact floordiv_int (by omega) (by rw[Int.fdiv_eq_ediv_of_nonneg i (by omega)];exact q) (.inl (PyProof.noPylong_small (by omega)))
theorem CN:gT X (m1 .Mod) (rI (fun _ j=>0<j) fun i j=>.int (i % j)):=FW fun i j _ _ _ _ _ Z q=>by
 have Y:(0:Int)<j:=Z;exact mod_int' (by omega) (by rw[Int.fmod_eq_emod_of_nonneg i (by omega)];exact q)
theorem CO:gT X (m1 .Pow) (rI Aq fun i j=>.int (i ^ j.toNat)):=FW fun _ _ _ _ _ _ _ Z q=>pow_int_small Z.1 Z.2.1 Z.2.2 q
theorem Hv{f:a_->Sem a_}{g:Int->Int}
  (Z:∀(i:Int) (t:Tok) (s:c_) (Q:a_->c_->Prop) (E:a_->c_->Prop),Q (.int (g i) s.toks) {s with toks:=s.toks+1}->ed (eK X.prog X.w) X.A (f (.int i t)) Q E s):
  GE X f (rU fun i=>.int (g i)):=by
 intro pins s σ H x v Q I Y h;obtain⟨i,rfl,q⟩:=h;obtain⟨t,rfl⟩:=Y;exact Z i t s _ _ ⟨.int (g i),H,I.tok _,⟨_,rfl⟩,q⟩
theorem CP:GE X (unaryOp .USub) (rU fun i=>.int (-i)):=Hv fun _ _ _ _ _ q=>neg_int q
end
section
variable {X:Cx}{a b c:Expr}{ta tb tc:TE}{pos:Pos}
theorem xB:gT X (hO .Lt) (Af fun i j=>.bl (decide (i<j))):=Ap fun _ _ _ _ _ _ _ q=>lt_int q
theorem xC:gT X (hO .LtE) (Af fun i j=>.bl (decide (i<=j))):=Ap fun _ _ _ _ _ _ _ q=>le_int q
theorem BR:gT X (hO .Gt) (Af fun i j=>.bl (decide (j<i))):=Ap fun _ _ _ _ _ _ _ q=>gt_int q
theorem EJ:gT X (hO .GtE) (Af fun i j=>.bl (decide (j<=i))):=Ap fun _ _ _ _ _ _ _ q=>ge_int q
theorem gT.or{r Z:R2}(h:gT X f r)(h':gT X f Z):gT X f (fun x y H Q=>r x y H Q\/Z x y H Q):=by
 intro pins s σ H x y v u Q I W Y q;rcases q with q|q
 ·exact h pins s σ H x y v u Q I W Y q
 ·exact h' pins s σ H x y v u Q I W Y q
theorem GG(b:Expr)(h:op≠ .In:=by decide)(Z:op≠ .NotIn:=by decide):i1 op b=false:=by
 have e1:(op==CmpOp.In)=false:=by cases op<;>first|rfl|exact absurd rfl h
 have e2:(op==CmpOp.NotIn)=false:=by cases op<;>first|rfl|exact absurd rfl Z
 cases b<;>simp[i1,e1,e2]
theorem As(Y:gT X (hO op) r)(Z:PE X a ta)(R:PE X b tb)(W:i1 op b=dr):PE X (.Compare a [op] [b] pos) (EF r ta tb):=by
 intro pins s σ H Q I h;exact wpAny_Compare1 (CJ Z R I h fun v u s2 x y P S T U q=>Y pins s2 σ P x y v u Q S T U q) W
def BS(t:TE):TT:=fun σ H Q=>t σ H fun x H'=>∃k,x= .bl k/\Q k H'
theorem uN(W:gT X (hO op) r)(Y:PE X a ta)(Z:PE X b tb)(U:i1 op b=dr):PT X (.Compare a [op] [b] pos) (BS (EF r ta tb)):=by
 intro pins s σ H Q I h;refine wpAny_isTrue_Compare1 (di (Y pins s σ H _ I h) fun v s1 ⟨x,H1,I1,r1,q1⟩=>di (Z pins s1 σ H1 _ I1 q1) fun u s2 ⟨y,H2,I2,r2,q2⟩=>
  di (W pins s2 σ H2 x y v u _ I2 r1 r2 q2) fun c s3 ⟨z,H3,I3,r3,k,e,q3⟩=>?_) U
 subst e;cases r3;exact IP ⟨H3,I3,q3⟩
def tN(r r':R2)(ta tb tc:TE):TE:=fun σ H Q=>ta σ H fun x H1=>tb σ H1 fun y H2=>r x y H2 fun z H3=>∃k,z= .bl k/\
 (if k=b_ then tc σ H3 fun w' H4=>r' y w' H4 Q else Q (.bl dr) H3)
theorem xD(U:gT X (hO op) r)(Z:gT X (hO op') r')(W:PE X a ta)(Y:PE X b tb)(S:PE X c tc)
  (T:Lp [op,op'] [b,c]=false:=by with_unfolding_all rfl):PE X (.Compare a [op,op'] [b,c] pos) (tN r r' ta tb tc):=by
 intro pins s σ H Q I h;refine Compare_chain (di (W pins s σ H _ I h) fun v s1 ⟨x,H1,I1,r1,q1⟩=>chain_link (di (Y pins s1 σ H1 _ I1 q1) fun u s2 ⟨y,H2,I2,r2,q2⟩=>
  di (U pins s2 σ H2 x y v u _ I2 r1 r2 q2) fun d s3 ⟨z,H3,I3,r3,k,e,q3⟩=>?_)) T
 subst e;cases r3;refine IP ?_;cases k with
 |false=>exact ite_ff ⟨.bl dr,H3,I3,rfl,q3⟩
 |true=>exact ite_tt (chain_last (di (S pins s3 σ H3 _ I3 q3) fun w' s4 ⟨z',H4,I4,r4,q4⟩=>Z pins s4 σ H4 y z' u w' Q I4 r2 r4 q4))
theorem xE(U:gT X (hO op) r)(Z:gT X (hO op') r')(W:PE X a ta)(Y:PE X b tb)(S:PE X c tc)
  (T:Lp [op,op'] [b,c]=false:=by with_unfolding_all rfl):PT X (.Compare a [op,op'] [b,c] pos) (BS (tN r r' ta tb tc)):=by
 intro pins s σ H Q I h;refine isTrue_chain (di (W pins s σ H _ I h) fun v s1 ⟨x,H1,I1,r1,q1⟩=>test_link (di (Y pins s1 σ H1 _ I1 q1) fun u s2 ⟨y,H2,I2,r2,q2⟩=>
  di (U pins s2 σ H2 x y v u _ I2 r1 r2 q2) fun d s3 ⟨z,H3,I3,r3,k,e,q3⟩=>?_)) T
 subst e;cases r3;refine IP ?_;cases k with
 |false=>
  obtain⟨O,R,P⟩:=q3;cases R;exact ite_ff ⟨H3,I3,P⟩
 |true=>
  refine ite_tt (test_last (di (S pins s3 σ H3 _ I3 q3) fun w' s4 ⟨z',H4,I4,r4,q4⟩=>di (Z pins s4 σ H4 y z' u w' _ I4 r2 r4 q4) fun d' s5 ⟨z2,H5,I5,r5,k2,e2,q5⟩=>?_));subst e2;cases r5;exact IP ⟨H5,I5,q5⟩
def EK(K:dn)(x:V)(H:Hp)(k:Bool):Prop:=
 match x with
 | .non=>k=dr
 | .bl b=>k=b
 | .int i=>k=(i !=0)
 | .str y=>y.length<=sizeLine/\k=((y.length:Int) !=0)
 | .byt y=>y.size<=sizeLine/\k=((y.size:Int) !=0)
 | .ref p=>(∃xs,iS K H p xs/\k= !xs.isEmpty)\/(∃xs,kQ K H p xs/\k= !xs.isEmpty)\/∃kvs,H p=ar (.dK kvs)/\k= !kvs.isEmpty
 |_=>False
theorem tO{Y:Type}{Z:List (Y×V)}{vs:List (Y×a_)}(r:KV Z vs):(!vs.isEmpty)= !Z.isEmpty:=by
 cases r<;>rfl
theorem mU(r:bb xs its):(!its.toArray.isEmpty)= !xs.isEmpty:=by
 cases r<;>simp
theorem k9:(sizeLine:Nat)<2 ^ 63:=by rw[Jm];decide
theorem CQ:GF X (fun x H Q=>∃k,EK X.K x H k/\Q k H):=by
 intro pins s σ H x v Q I U h;obtain⟨k,e,q⟩:=h;have N:=k9;have hs:sizeLine=16777216:=Jm;cases x with
 |non=>
  cases U;have Z:k=false:=e;subst Z;exact truthy_none ⟨H,I,q⟩
 |bl b=>
  cases U;have Z:k=b:=e;subst Z;exact IP ⟨H,I,q⟩
 |int i=>
  obtain⟨t,rfl⟩:=U;have Z:k=(i !=0):=e;subst Z;exact PySem.P.truthy_int ⟨H,I,q⟩
 |str y=>
  obtain⟨t,rfl⟩:=U;obtain⟨R,Z⟩:y.length<=sizeLine/\k=((y.length:Int) !=0):=e;subst Z;exact PySem.P.truthy_str (by omega) ⟨H,I.tok _,q⟩
 |byt y=>
  obtain⟨t,rfl⟩:=U;obtain⟨R,Z⟩:y.size<=sizeLine/\k=((y.size:Int) !=0):=e;subst Z;exact W.truthy_bytes (by omega) ⟨H,I.tok _,q⟩
 | ref p=>
  cases U;have Z:(∃xs,iS X.K H p xs/\k= !xs.isEmpty)\/(∃xs,kQ X.K H p xs/\k= !xs.isEmpty)\/∃Y,H p=ar (.dK Y)/\k= !Y.isEmpty:=e;rcases Z with⟨xs,hx,Z⟩|⟨xs,hx,Z⟩|⟨Y,hx,Z⟩
  ·subst Z;obtain⟨its,r,T,S⟩:=I.list hx;have hlen:=r.length;exact wpAny_truthy_list T.isList (by simp only[i0];omega) ⟨H,I.tok _,by rw[mU r];exact q⟩
  ·subst Z;obtain⟨its,r,T,S⟩:=I.tuple hx;have hlen:=r.length;exact truthy_tuple T (by simp only[i0];omega) ⟨H,I.tok _,by rw[mU r];exact q⟩
  ·subst Z;obtain⟨S,O,vs,r,m⟩:Y.length<=sizeLine/\(p==G2)=dr/\∃vs,KV Y vs/\s.heap.DictOf (pT X.prog X.w) p vs:=I.hok p _ hx;have hlen:Y.length=vs.length:=Paired.length r;exact wpAny_truthy_dict O m (by omega) ⟨H,I.tok _,by rw[tO r];exact q⟩
 |_=>exact(show False from e).elim
theorem xF(W:PE X a ta)(Y:∀whole,isTrue a X.env whole=(do let v<-whole;G4 a.pos;s_ [v] (LZ v))):
  PT X a (fun σ H Q=>ta σ H fun x Z=>∃k,EK X.K x Z k/\Q k Z):=by
 intro pins s σ H Q I h;exact isTrue_plain (di (W pins s σ H _ I h) fun v s1 ⟨x,H1,I1,r1,q1⟩=>CQ pins s1 σ H1 x v Q I1 r1 q1) (Y _)
theorem vals1(r:bb [x] us):∃u,us=[u]/\RelV x u:=by
 cases r with
 |cons r1 r2=>cases r2;exact⟨_,rfl,r1⟩
theorem vals2(r:bb [x,y] us):∃u w',us=[u,w']/\RelV x u/\RelV y w':=by
 cases r with
 |cons r1 r2=>
  cases r2 with
  |cons r3 r4=>cases r4;exact⟨_,_,rfl,r1,r3⟩
theorem v9(Z:X.calm=b_):dj X (.builtin "max") (fun xs H Q=>∃i j,xs=[.int i,.int j]/\Q (.int (if j>i then j else i)) H):=by
 intro pins s σ H xs us Q I r h;obtain⟨i,j,rfl,q⟩:=h;obtain⟨u,Y,rfl,⟨t,rfl⟩,⟨t',rfl⟩⟩:=vals2 r;refine max_two_ints (I.ok.hd Z) fun h' W k=>⟨_,H,I.kept k,?_,q⟩;by_cases hj:j>i
 ·rw[if_pos hj,if_pos hj];exact⟨_,rfl⟩
 ·rw[if_neg hj,if_neg hj];exact⟨_,rfl⟩
theorem wa(Z:X.calm=b_):dj X (.builtin "min") (fun xs H Q=>∃i j,xs=[.int i,.int j]/\Q (.int (if j<i then j else i)) H):=by
 intro pins s σ H xs us Q I r h;obtain⟨i,j,rfl,q⟩:=h;obtain⟨u,Y,rfl,⟨t,rfl⟩,⟨t',rfl⟩⟩:=vals2 r;refine min_two_ints (I.ok.hd Z) fun h' W k=>⟨_,H,I.kept k,?_,q⟩;by_cases hj:j<i
 ·rw[if_pos hj,if_pos hj];exact⟨_,rfl⟩
 ·rw[if_neg hj,if_neg hj];exact⟨_,rfl⟩
end
end L2
namespace L2
open PySem PySem.Spec PyProof.Rows
structure ObjM(h:fc)(x dx C:cq)(mA:Str->Option a_):Prop where
 obj:h.get? x=ar (LQ C dx)
 ns:h.Ns1 dx mA
 ne:dx≠x
theorem wb{h:fc}{Y:Str->Option a_}(n:h.Ns1 dx Y):∃od,h.get? dx=ar od/\∀name,G_ name od=ar (Y name):=by
 obtain⟨o,es,R,U,hd,T,_,hm⟩:=n;refine⟨o,U,fun name=>?_⟩;have e:=hm name;unfold nsFind findBy at e;rw[<-Array.find?_toList]at e;unfold G_;rw[hd];dsimp only;split
 ·rename_i y q
  rw[q]at e;exact Kt ar e
 ·rename_i q
  rw[q]at e;have a:es.toList.any (·.refKey)=false:=by
   rw[List.any_eq_false];intro y X;obtain⟨z,t,Z⟩:=T y (Array.mem_toList_iff.mp X);simp[DictEntry.refKey,Z]
  have S:¬ es.toList.any (·.refKey)=true:=by rw[a];exact IT
  rw[if_neg S];exact Kt ar e
theorem ObjM.look{Z:Str->Option a_}(I:ObjM h x dx C Z):∃od,u2 h x (LQ C dx) C (ar od)/\∀name,G_ name od=ar (Z name):=
 let ⟨od,ho,hl⟩:=wb I.ns
 ⟨od,⟨I.obj,rfl,rfl,ho⟩,hl⟩
section
variable {prog:eb}{w:ee}{A:g_}{E:a_->c_->Prop}{s:c_}{K:dn}{x dx C f:cq}{mA:Str->Option a_}{name:Str}{v:a_}
end
theorem rq.some_of(r:rq (ar v) o):∃u,o=ar u/\RelV v u:=by
 cases o with
 |none=>exact(show False from r).elim
 |some u=>exact⟨u,rfl,r⟩
theorem wc(r:RelV v u):W.handedIn u=true:=by
 cases v with
 |non=>cases (show u=hh from r);rfl
 |bl b=>cases (show u=l_ b from r);rfl
 |int i=>obtain⟨t,e⟩:=(show ∃t,u=m2 i t from r);cases e;rfl
 |str x=>obtain⟨t,e⟩:=(show ∃t,u=yn x t from r);cases e;rfl
 |byt b=>obtain⟨t,e⟩:=(show ∃t,u=Value.bytes b t from r);cases e;rfl
 |flt b=>obtain⟨t,e⟩:=(show ∃t,u=A_ b t from r);cases e;rfl
 |ref a=>cases (show u=e_ a from r);rfl
 |ty n=>cases (show u=wh n from r);rfl
section
variable {P:eb}{w:ee}{H H':Hp}{h h':fc}{a C dx:cq}{fs fs':List (Str×V)}
theorem Au(Y:fK P w H h)(e:H a=ar (.ins C dx fs)):∃Z,ObjM h a dx C Z/\(∀f,rq (fs.lookup f) (Z f))/\PySem.Within Z (fs.map (·.1))/\fs.length<=1000/\H dx=ar (.own a):=by
 obtain⟨d,z,ne,X,Z,n,r,q⟩:=(show bx P w H h a (.ins C dx fs)from Y a _ e);exact⟨Z,⟨X,n,ne⟩,r,q,z,d⟩
end
structure Cls(K:dn)(C:cq):Prop where
 pg:W.plainGet K C Str.empty=b_
 hd:W.hasDictIn K C=b_
 po:W.plainOver K C=b_
 sa:y1 K (.ref C) "__setattr__"=ar (ar (.builtin "object.__setattr__"))
theorem Cls.get{K:dn}{C:cq}(c:Cls K C)(f:Str):W.plainGet K C f=true:=c.pg
structure Con(K:dn)(C:cq)(f:Str)(v:V)(u:a_):Prop where
 at_:y1 K (.ref C) f=ar (ar u)
 rel:RelV v u
 get:W.specialIn K u "__get__"=ar none
 cp:W.copiedNames.contains f=dr
structure Meth(K:dn)(C:cq)(m:Str)(f:cq):Prop where
 at_:y1 K (.ref C) m=ar (ar (.ref f))
 fn:W.isFn K (.ref f)=b_
 kp:u3 K (.ref f)=b_
section
variable {X:Cx}{pins:List (cq×Obj)}{σ:St}{H:Hp}{s:c_}{a C dx:cq}{fs:List (Str×V)}{f:Str}{v:V}{A:g_}{E:a_->c_->Prop}
theorem Av(Y:j' e f env (gd e env)=gd e env)
  (h:ed (eK prog w) A (gd e env) (fun o Z=>ed (eK prog w) A (Mi o f b_) Q E Z) E s):ed (eK prog w) A (gd (.Attribute e f pos) env) Q E s:=
 Attribute_any_ h (by rw[arm_eval_Attribute,Y])
end
section
variable {X:Cx}{o e value:Expr}{f:Str}{pos pos' tpos:Pos}{ta tv:TE}
end
section
variable {X:Cx}{pins:List (cq×Obj)}{σ:St}{H:Hp}{s:c_}{A:g_}{E:a_->c_->Prop}{Q:a_->c_->Prop}{c:a_}{b:Bool}
inductive TyOf(K:dn)(H:Hp):V->a_->Prop where
 |non:TyOf K H .non (.type "NoneType")
 |bl (x:Bool):TyOf K H (.bl x) (.type "bool")
 |int (i:Int):TyOf K H (.int i) (.type "int")
 |str (x:Str):TyOf K H (.str x) (.type "str")
 |flt (x:UInt64):TyOf K H (.flt x) (.type "float")
 |lst {a:cq} {xs:List V} (e:H a=ar (.lst xs)):TyOf K H (.ref a) (.type "list")
 |frz {a:cq} {o:Obj} {xs:List V} (e:H a=ar (.frz o (.lst xs))):TyOf K H (.ref a) (.type "list")
 |tup {a:cq} {xs:List V} (e:H a=ar (.tup xs)):TyOf K H (.ref a) (.type "tuple")
 |dK {a:cq} {kvs:List (Key×V)} (e:H a=ar (.dK kvs)):TyOf K H (.ref a) (.type "dict")
 |dT {a:cq} {kvs:List (List Key×V)} (e:H a=ar (.dT kvs)):TyOf K H (.ref a) (.type "dict")
 | ins {a C dx:cq} {fs:List (Str×V)} (e:H a=ar (.ins C dx fs)) (cl:Cls K C) (ha:y1 K (.ref C) "__class__"=ar (ar (.builtin "object.__class__")))
   (hn:W.specialIn K (.builtin "object.__class__") "__get__"=ar (ar (.builtin "getset_descriptor.__get__"))) (htk:W.takesIn K (.builtin "object.__class__")=ar b_)
   (hm:W.mroIn K C (.type "object")=ar b_):TyOf K H (.ref a) (.ref C)
theorem we(I:Inv X pins σ H s)(Z:RelV x u)(T:TyOf X.K H x t)(e:l4 X.K t c=ar b)(h:∀tk,Q (.bool b) {s with toks:=tk}):
  ed (eK X.prog X.w) A (call (.builtin "isinstance") [u,c]) Q E s:=by
 cases T with
 |non=>cases (show u=hh from Z);exact IM KS I.kIn k_ e (fun z=>nomatch z) h
 |bl y=>cases (show u=l_ y from Z);exact IM W.kitx_bool I.kIn k_ e (fun z=>nomatch z) h
 |int i=>obtain⟨t,q⟩:=(show ∃t,u=m2 i t from Z);cases q;exact IM W.kitx_int I.kIn k_ e (fun z=>nomatch z) h
 |str y=>obtain⟨t,q⟩:=(show ∃t,u=yn y t from Z);cases q;exact IM W.kitx_str I.kIn k_ e (fun z=>nomatch z) h
 |flt y=>obtain⟨t,q⟩:=(show ∃t,u=A_ y t from Z);cases q;exact IM W.kitx_float I.kIn k_ e (fun z=>nomatch z) h
 | @lst a xs ea=>
  cases (show u=e_ a from Z);obtain⟨_,_,n,_,Y⟩:=(show bx X.prog X.w H s.heap a (.lst xs)from I.hok a _ ea);exact IM J7 I.kIn ⟨_,Y,rfl⟩ e (fun z=>nomatch z) h
 | @frz a ob xs ea=>
  cases (show u=e_ a from Z);obtain⟨_,_,_,n,_,Y⟩:=(show bx X.prog X.w H s.heap a (.frz ob (.lst xs))from I.hok a _ ea);exact IM J7 I.kIn ⟨_,Y,rfl⟩ e (fun z=>nomatch z) h
 | @tup a xs ea=>
  cases (show u=e_ a from Z);obtain⟨_,_,_,p⟩:=(show bx X.prog X.w H s.heap a (.tup xs)from I.hok a _ ea);obtain⟨o,Y,U,_⟩:=p;exact IM W.kitx_tuple I.kIn ⟨o,Y,U⟩ e (fun z=>nomatch z) h
 | @dK a kvs ea=>
  cases (show u=e_ a from Z);obtain⟨_,_,vs,_,p⟩:=(show bx X.prog X.w H s.heap a (.dK kvs)from I.hok a _ ea);obtain⟨o,es,S,Y,U,_⟩:=p;exact IM J8 I.kIn ⟨o,Y,U.1⟩ e (fun z=>nomatch z) h
 | @dT a kvs ea=>
  cases (show u=e_ a from Z);obtain⟨_,_,xs,_,o,es,S,Y,U,_⟩:=(show bx X.prog X.w H s.heap a (.dT kvs)from I.hok a _ ea);exact IM J8 I.kIn ⟨o,Y,U.1⟩ e (fun z=>nomatch z) h
 | @ins a C dx fs ea cl ha hn htk hm=>
  cases (show u=e_ a from Z);obtain⟨R,O,_⟩:=Au I.hok ea;obtain⟨od,J,_⟩:=O.look;exact IM (W.kitx_own (cl.get _) cl.hd ha hn htk hm) I.kIn J e (fun z=>nomatch z) h
end
end L2
namespace L2
open PySem PySem.Spec PyProof.Rows
structure Room(k:Nat)(A:g_):Prop where
 hd:A.handled=none
 dp:A.depth+3*k+5<recursionLimit
 un:A.units+16*k+200<vn
theorem Room.mono(r:Room k A)(h:j<=k):Room j A:=⟨r.hd,by have:=r.dp;omega,by have:=r.un;omega⟩
theorem Room.deeper(r:Room (k+1) A)(env:Env):Room k (A.deeper env):=
 ⟨r.hd,by have:=r.dp;show A.depth+1+3*k+5<_;omega,by have:=r.un;show A.units+3+16*k+200<_;omega⟩
theorem Room.depth(r:Room k A):A.depth<recursionLimit:=by have:=r.dp;omega
def GH:TA:=fun _ H Q=>Q [] H
def EL(ta:TE)(tr:TA):TA:=fun σ H Q=>ta σ H fun x H1=>tr σ H1 fun xs H2=>Q (x::xs) H2
section
variable {X:Cx}{e:Expr}{es:List Expr}{te:TE}{t:TA}{pos:Pos}
theorem lb:PA X [] GH:=fun _ _ _ _ H Q I h=>Calls.spliced_nil ⟨[],H,I,.nil,h⟩
theorem eS(Y:PE X e te)(Z:PA X es t)(hs:dt (e::es) X.env=(dr,gd e X.env)::dt es X.env:=by rfl):PA X (e::es) (EL te t):=by
 intro pos pins s σ H Q I h;rw[hs];show ed _ _ (spliced ((dr,gd e X.env)::n_ pos (dt es X.env))) _ _ s;refine Calls.spliced_cons (di (Y pins s σ H _ I h) fun u s1 ⟨x,H1,I1,r1,q1⟩=>?_);exact di (Z pos pins s1 σ H1 _ I1 q1) fun us s2 ⟨xs,H2,I2,r2,q2⟩=>⟨x::xs,H2,I2,.cons r1 r2,q2⟩
def GI(t:TA):TE:=fun σ H Q=>t σ H fun xs H1=>xs.length<=sizeLine/\∀p,H1 p=none->Q (.ref p) (upd H1 p (.tup xs))
def GJ(t:TA):TE:=fun σ H Q=>t σ H fun xs H1=>xs.length<=sizeLine/\∀p,H1 p=none->Q (.ref p) (upd H1 p (.lst xs))
theorem xG{x1}(h:PA X es t):PE X (.Tuple es x1 pos) (GI t):=by
 intro pins s σ H Q I Z;refine wpAny_Tuple_spliced (di (h pos pins s σ H _ I Z) fun us s1 ⟨xs,H1,I1,r,z,q⟩=>⟨by rw[<-r.length];exact z,?_⟩)
 have hf:H1 s1.heap.objs.size=none:=I1.hok.fresh (HN _);refine⟨.ref s1.heap.objs.size,upd H1 s1.heap.objs.size (.tup xs),I1.laid (t':=s1.toks) (fun b u e=>HM _ e) (HN _) ?_,rfl,q _ hf⟩;exact⟨pU z,us,r,⟨_,Ia _ rfl,rfl,_,rfl⟩⟩
theorem CS(h:PA X es t):PE X (.List es pos) (GJ t):=by
 intro pins s σ H Q I Z;refine wpAny_List_spliced (di (h pos pins s σ H _ I Z) fun us s1 ⟨xs,H1,I1,r,z,q⟩=>⟨by rw[<-r.length];exact z,?_⟩)
 have hf:H1 s1.heap.objs.size=none:=I1.hok.fresh (HN _);refine⟨.ref s1.heap.objs.size,upd H1 s1.heap.objs.size (.lst xs),I1.laid (t':=s1.toks) (fun b u e=>HM _ e) (HN _) ?_,rfl,q _ hf⟩;exact⟨z,us,0,r,Ia _ rfl⟩
end
abbrev Sp:=List V->Hp->VK->XK->Prop
abbrev xk:=List Env->Hp->c_->XK->a_->c_->Prop
structure aB(P:eb)(w:ee)(K:dn)(mg:Str->Option a_)(base:fc)(A:g_)(outer:List Env)(s:c_)(H:Hp):Prop where
 frames:A.frames=ar outer
 mod:Mod K mg base
 bs:∀b o,base.get? b=ar o->s.heap.get? b=ar o/\H b=none
 bsz:base.objs.size<=s.heap.objs.size
 funs:s.heap.FunFrames base outer
 frf:∀b∈iR outer,H b=none
 hok:fK P w H s.heap
 bare:sh s.gens
def CE(outer:List Env)(P:eb)(w:ee)(H:Hp)(s:c_)(Q:VK)(u:a_)(s':c_):Prop:=
 ∃v H',s'.os=s.os/\sh s'.gens/\Un (iR outer) [] H H' s.heap s'.heap/\fK P w H' s'.heap/\RelV v u/\Q v H'
def CR(CX:xk)(outer:List Env)(P:eb)(w:ee)(H:Hp)(s:c_)(Q:VK)(E:XK)(r:Mc)(s':c_):Prop:=
 match r with
 | .ok (.ret u)=>CE outer P w H s Q u s'
 | .ok _=>False
 | .error e=>CX outer H s E e s'
structure FnOk(P:eb)(w:ee)(K:dn)(mg:Str->Option a_)(base:fc)(CX:xk)(k:Nat)(f:cq)(fd:fb)(ps:List Str)(sp:Sp):Prop where
 len:∀vs H Q E,sp vs H Q E->vs.length=ps.length
 run:∀(A:g_) (outer:List Env) (s:c_) (H:Hp) (args:Args) (us:List a_) (vs:List V) (Q:VK) (E:XK),Room k A->aB P w K mg base A outer s H->w_ s fd args (ps.zip us)->bb vs us->sp vs H Q E->
  y4 (eK P w) A (.call (.ref f) args) (CR CX outer P w H s Q E) s
section
variable {X:Cx}{pins:List (cq×Obj)}{σ:St}{H:Hp}{s s':c_}
theorem Inv.env0(I:Inv X pins σ H s):aB X.prog X.w X.K X.mg X.base X.A X.stack s H:=
 ⟨I.ok.frames,I.ok.mod,I.bs,HX I.ok.bsz I.sz,I.stack,I.stkFree,I.hok,I.bare⟩
theorem Inv.after(I:Inv X pins σ H s)(h:CE X.stack X.prog X.w H s Q u s'):EP X pins σ Q u s':=by
 obtain⟨v,W,os,bare,un,Y,r,q⟩:=h;obtain⟨U,g,d,t,Z⟩:=s';obtain rfl:Z=s.os:=os;exact⟨v,W,I.call (h':=U) (g':=g) (d':=d) (t':=t) (ch:=[]) un Y bare (fun b z=>absurd z (by simp)),r,q⟩
end
def EM(sp:Sp)(dvs:List V)(E:XK)(t:TA):TE:=fun σ H Q=>t σ H fun vs H1=>sp (vs++dvs) H1 Q E
def Binds(K:dn)(fd:fb)(ps:List Str)(ds:List a_):Prop:=
 ∀(s:c_) (us:List a_),K.In s.heap->(us++ds).length=ps.length->w_ s fd ⟨us,[]⟩ (ps.zip (us++ds))
theorem Binds.all{K:dn}{Y:fb}{Z:List Str}(h:∀us:List a_,us.length=Z.length->LD Y ⟨us,[]⟩=aC (Z.zip us)):Binds K Y Z []:=fun s us _ X=>by
 rw[IX]at X⊢;exact .of_eq (h us X)
def mW(CX:xk)(X:Cx)(E:XK):Prop:=∀(pins:List (cq×Obj)) (σ:St) (H:Hp) (s:c_) (e:a_) (s':c_),Inv X pins σ H s->CX X.stack H s E e s'->X.xe e s'
section
variable {X:Cx}{CX:xk}{k:Nat}{f C:cq}{fd:fb}{ps:List Str}{sp:Sp}{dvs:List V}{ds:List a_}{E:XK}{x m:Str}{p pos apos:Pos}{e o:Expr}{es:List Expr}{ta:TE}{t:TA}
theorem CT(F:FnOk X.prog X.w X.K X.mg X.base CX k f fd ps sp)(W:Room k X.A)(U:Binds X.K fd ps ds)(R:bb dvs ds)(T:mW CX X E)
  (I:Inv X pins σ H s) (r:bb vs us) (h:sp (vs++dvs) H Q E):ed (eK X.prog X.w) X.A (call (.ref f) us) (EP X pins σ Q) X.xe s:=by
 have Y:bb (vs++dvs) (us++ds):=r.append R;have S:(us++ds).length=ps.length:=by rw[<-Y.length];exact F.len _ _ _ _ h
 refine Li (Kf (F.run X.A X.stack s H ⟨us,[]⟩ (us++ds) (vs++dvs) Q E W I.env0 (U s us I.kIn S) Y h) fun r s' Z=>?_);cases r with
 |error e=>exact T pins σ H s e s' I Z
 |ok fl=>
  cases fl with
  |ret u=>exact I.after Z
  |next=>exact g8 Z
  |brk=>exact g8 Z
  |cont=>exact g8 Z
theorem uO(F:FnOk X.prog X.w X.K X.mg X.base CX k f fd ps sp)(N:Room k X.A)(J:Gl X x)(R:X.mg x=ar (.ref f))(T:u3 X.K (.ref f)=b_)(L:Binds X.K fd ps ds)(P:bb dvs ds)(S:mW CX X E)
  (U:PA X (e::es) t) (Y:(x==("__debug__":Str))=false:=by decide) (O:dt (e::es) X.env=(dr,gd e X.env)::dt es X.env:=by rfl) (Z:(n_ pos (dt es X.env)).any (·.1)=false:=by rfl):
  PE X (.Call (.Name x p) (e::es) [] pos) (EM sp dvs E t):=by
 intro pins s σ H Q I h;refine JD (j8 I J R ?_ Y);refine W.callWith_K (h₀:=X.base) I.ok.mod.kin T (di (U pos pins s σ H _ I h) fun us s1 ⟨vs,H1,I1,r,q⟩=>⟨I1.kIn,?_⟩) O Z;exact CT F N L P S I1 r q
structure Mk(K:dn)(C f:cq):Prop where
 makes:W.makesIn K C=b_
 init:y1 K (.ref C) "__init__"=ar (ar (.ref f))
 fn:W.isFn K (.ref f)=b_
 kp:u3 K (.ref C)=b_
end
section
variable {X:Cx}{CX:xk}{k:Nat}{f C:cq}{fd:fb}{ps ks:List Str}{sp:Sp}{E:XK}{x m:Str}{p pos apos kpos:Pos}{e o:Expr}{es:List Expr}{kws:List LA}{te ta:TE}{t tk:TA}{nm:Option Str}
structure KBinds(K:dn)(fd:fb)(ps ks:List Str)(g:List a_->List a_->List a_)(gV:List V->List V->List V):Prop where
 to:∀(s:c_) (us ws:List a_),K.In s.heap->(g us ws).length=ps.length->w_ s fd ⟨us,ks.zip ws⟩ (ps.zip (g us ws))
 rel:∀{vs:List V} {us:List a_} {zs:List V} {ws:List a_},bb vs us->bb zs ws->bb (gV vs zs) (g us ws)
variable {g:List a_->List a_->List a_}{gV:List V->List V->List V}
end
structure FnScope(N P:List Str)(sc:Scope):Prop where
 kind:sc.kind= .function
 co:sc.isCoroutine=dr
 gen:sc.isGenerator=dr
 nd:N.Nodup
 pre:N.take P.length=P
 par:∀x∈P,sc.names.lookup x=ar .local\/sc.names.lookup x=ar .cell
 nofree:∀y∈sc.names,y.2≠ .free
theorem oX{Z:Str->Option j2}{x:Str}:∀{binds:List (Str×a_)} {m:Str->Option a_},(∀v,(x,v)∉binds)->LF Z binds m x=m x
 |[],_,_=>rfl
 | (n,v)::r,m,h=>by
  unfold LF;rw[oX fun w hw=>h w (HY _ hw)];split
  ·have:x≠n:=by rintro rfl;exact h v Im
   simp[this]
  ·rfl
theorem oY{Z:Str->Option j2}{x:Str}:∀{binds:List (Str×a_)} {m:Str->Option a_},(∀v,(x,v)∉binds)->LG Z binds m x=m x
 |[],_,_=>rfl
 | (n,v)::r,m,h=>by
  unfold LG;rw[oY fun w hw=>h w (HY _ hw)];split
  ·rfl
  ·have:x≠n:=by rintro rfl;exact h v Im
   simp[this]
theorem oZ{Z:Str->Option j2}:∀{P:List Str} {vs:List a_} {i:Nat} {m:Str->Option a_},P.Nodup->P[i]? =ar x->vs[i]? =ar v->Z x=ar .local->
  LF Z (P.zip vs) m x=ar v
 |[],_,_,_,_,h,_,_=>by simp at h
 |_::_,[],_,_,_,_,h,_=>by simp at h
 |p::P,w::vs,0,m,nd,h1,h2,hk=>by
  simp at h1 h2;subst h1;subst h2;show LF Z ((p,w)::P.zip vs) m p=_;unfold LF;rw[oX fun v Y=>(IV.mp nd).1 (JU Y).1,if_pos hk];simp
 |p::P,w::vs,i+1,m,nd,h1,h2,hk=>by
  show LF Z ((p,w)::P.zip vs) m x=_;unfold LF;exact oZ (i:=i) (IV.mp nd).2 (by simpa using h1) (by simpa using h2) hk
theorem o5{Z:Str->Option j2}:∀{P:List Str} {vs:List a_} {i:Nat} {m:Str->Option a_},P.Nodup->P[i]? =ar x->vs[i]? =ar v->Z x≠ar .local->
  LG Z (P.zip vs) m x=ar v
 |[],_,_,_,_,h,_,_=>by simp at h
 |_::_,[],_,_,_,_,h,_=>by simp at h
 |p::P,w::vs,0,m,nd,h1,h2,hk=>by
  simp at h1 h2;subst h1;subst h2;show LG Z ((p,w)::P.zip vs) m p=_;unfold LG;rw[oY fun v Y=>(IV.mp nd).1 (JU Y).1,if_neg hk];simp
 |p::P,w::vs,i+1,m,nd,h1,h2,hk=>by
  show LG Z ((p,w)::P.zip vs) m x=_;unfold LG;exact o5 (i:=i) (IV.mp nd).2 (by simpa using h1) (by simpa using h2) hk
def start(N:List Str)(vs:List V):St:=vs.map ar++dV (N.length - vs.length) none
def jL(CX:xk)(P:eb)(w:ee)(K:dn)(mg:Str->Option a_)(base:fc)(N:List Str)(qual:Str)(scope:Scope)(f:cq)(cd:a_)(A:g_)(outer:List Env)(s:c_)(H:Hp)(E:XK):Cx where
 prog:=P
 w:=w
 K:=K
 mg:=mg
 base:=base
 A:=A.deeper (u4 qual scope s.heap.objs.size f cd)
 N:=N
 s₀:=s
 H₀:=H
 env:=u4 qual scope s.heap.objs.size f cd
 outer:=outer
 stack:=u4 qual scope s.heap.objs.size f cd::outer
 ex:=[]
 calm:=b_
 fn:=fun _=>b_
 pn:=[]
 xe:=fun e s'=>ed (eK P w) (A.deeper (u4 qual scope s.heap.objs.size f cd)) (EA (u4 qual scope s.heap.objs.size f cd) e) (fun _ s''=>CX outer H s E e s'') (fun e' s''=>CX outer H s E e' s'') s'
theorem rD{Z:Scope}(h:Z.names.lookup x=ar .cell):∃c,(h_ n Z.names []).lookup x=ar c:=by
 have q:=J4 Z.names n [] (.inl h);exact IW.mp q
theorem wg{C:xk}{P:eb}{w:ee}{K:dn}{I:Str->Option a_}{base:fc}{N X:List Str}{qual:Str}{scope:Scope}{f:cq}{O:a_}{A:g_}{outer:List Env}{s G:c_}{H:Hp}{E:XK}{us:List a_}{vs:List V}
  (S:FnScope N X scope) (t:A.handled=none) (Y:aB P w K I base A outer s H) (j:vs.length=X.length) (r:bb vs us)
  (x:InCallC s s.heap.objs.size (LF (u4 qual scope s.heap.objs.size f O).kindOf (X.zip us) fun _=>none) (h_ (s.heap.objs.size+1) scope.names []) (LG (u4 qual scope s.heap.objs.size f O).kindOf (X.zip us) fun _=>none) G):
  Inv (jL C P w K I base N qual scope f O A outer s H E) [] (start N vs) H G:=by
 have m:X.length<=N.length:=by have:=Kt Lx S.pre;rw[JN]at this;omega
 obtain⟨L,d,rfl,F⟩:=x.done;have U:∀b:cq,b∉(jL C P w K I base N qual scope f O A outer s H E).ex:=fun b z=>absurd (show b∈([]:List cq)from z) (by simp)
 refine⟨⟨Y.mod,S.kind,rfl,rfl,HN _,fun y z c L Z=>?_,fun y T=>?_,fun y c _ h=>?_,fun _=>t,Around.frames_deeper Y.frames,.inr ⟨rfl,rfl⟩,fun b z=>absurd z (U b),Y.bs,Y.bsz,fun b _ _=>U b,fun b z=>absurd z (U b),Y.funs,Y.frf⟩,
  rfl,Y.bare,Un.kept F,⟨_,x.toInCall.ns,fun i y v L Z g=>?_⟩,fun y c h=>⟨_,x.cell y c h⟩,Y.hok.fresh (HN _),fun y c h=>?_,fun p R=>absurd (show p∈([]:List (cq×Obj))from R) (by simp),Y.hok.kept F,?_⟩
 ·exact name_of_addr x.apart (Jz L) (Jz Z)
 ·have T:scope.names.lookup y=ar .cell\/scope.names.lookup y=ar .free:=T;rcases T with T|T
  ·exact rD T
  ·exact absurd rfl (S.nofree _ (Jz T))
 ·exact Jy (x.above y c (Jz h))
 ·have J:i<vs.length:=by
   unfold start at Z;by_cases J:i<vs.length
   ·exact J
   ·rw[KJ (by simpa using J)]at Z
    rw[List.getElem?_replicate]at Z;split at Z<;>cases Z
  have o:vs[i]? =ar v:=by
   unfold start at Z;rw[II (by simpa using J),IL]at Z
   cases e:vs[i]? with
   |none=>rw[e]at Z;cases Z
   |some a=>rw[e]at Z;cases Z;rfl
  obtain⟨u,B,l⟩:=r.get o;have R:X[i]? =ar y:=by
   rw[<-S.pre,List.getElem?_take_of_lt (by omega)];exact L
  have Q:X.Nodup:=by rw[<-S.pre];exact S.nd.sublist (List.take_sublist _ _)
  refine⟨u,l,?_⟩;rcases S.par y (IC R)with k|k
  ·exact .inl ⟨k,oZ Q R B k⟩
  ·obtain⟨c,e⟩:=rD (n:=s.heap.objs.size+1) k;refine .inr ⟨.inl k,c,e,?_⟩;have q:=x.cell y c e;rw[o5 Q R B (by show scope.names.lookup y≠_;rw[k];decide)]at q
   exact q
 ·exact Y.hok.fresh (Jy (x.above y c (Jz h)))
 ·unfold start;show _=N.length;rw[HP,HL,Kg];omega
theorem BU{B:xk}{P:eb}{w:ee}{K:dn}{C:Str->Option a_}{base:fc}{k:Nat}{f:cq}{name qual:Str}{params:EW}{body:List mu}{scope:Scope}{g kV R h Z ct oc:a_}{j od:Option cq}
  {z:Array (Option a_)} {N F:List Str} {sp:Sp} (lk:K.lookup f=ar ⟨oc,od,.func (wd name qual params body scope g kV R h j Z ct),z⟩) (p:H_ K Z qual=b_) (S:FnScope N F scope)
  (O:∀vs H Q E,sp vs H Q E->vs.length=F.length)
  (U:∀(A:g_) (outer:List Env) (s:c_) (H:Hp) (vs:List V) (Q:VK) (E:XK),Room k (A.deeper (u4 qual scope s.heap.objs.size f Z))->sp vs H Q E->
   ∃t,oz (jL B P w K C base N qual scope f Z A outer s H E) body t/\t {nx:=fun _ X=>Q .non X,rt:=Q} (start N vs) H):
  FnOk P w K C base B (k+1) f (wd name qual params body scope g kV R h j Z ct) F sp:=by
 refine⟨O,fun A outer s H args us vs Q E l L c r G=>?_⟩;have d:=O _ _ _ _ G;have i:K.In s.heap:=L.mod.kin.keeps fun b o e=>(L.bs b o e).1;have lim:s.heap.NoLimit:=L.mod.nolimit.keeps fun b o e=>(L.bs b o e).1;have T:∀y∈F.zip us,scope.names.lookup y.1=ar .local\/(scope.names.lookup y.1=ar .cell/\((h_ (s.heap.objs.size+1) scope.names []).lookup y.1).isSome=b_):=fun⟨n,v⟩ hy=>by
  rcases S.par n (JU hy).1 with q|q
  ·exact .inl q
  ·exact .inr ⟨q,J4 _ _ _ (.inl q)⟩
 refine codeAny_call_function l.depth (i _ _ lk) rfl S.co S.gen rfl (W.codeRec_of i p) (c _ _ _ _ ?_);refine wpAny_newFunctionEnv_cells S.kind T fun env he s1 x=>?_;subst he;refine⟨lim.keeps x.toInCall.keep,codeAny_func ?_⟩;obtain⟨t,a,hq⟩:=U A outer s H vs Q E (l.deeper _) G;have I:Inv (jL B P w K C base N qual scope f Z A outer s H E) [] (start N vs) H s1:=wg S l.hd L d r x;refine I0 (a [] s1 (start N vs) H _ I hq) (fun fl s' hs=>?_) fun e s' hs=>hs;have fin:∀{Y:St} {X:Hp} {v:V} {u:a_},Inv (jL B P w K C base N qual scope f Z A outer s H E) [] Y X s'->RelV v u->Q v X->CE outer P w H s Q u s':=
  fun{Y X v u} J m q=>⟨v,X,J.os,J.bare,J.base,J.hok,m,q⟩
 cases fl with
 |ret u=>
  obtain⟨v,Y,X,J,m,q⟩:=hs;exact fin J m q
 |next=>
  obtain⟨Y,X,J,q⟩:=hs;exact fin (v:=V.non) (u:=hh) J rfl q
 |brk=>
  obtain⟨_,_,_,q⟩:=hs;exact g8 q
 |cont=>
  obtain⟨_,_,_,q⟩:=hs;exact g8 q
end L2
namespace L2
open PySem PySem.Spec PyProof.Rows
section
variable {X:Cx}{x:Str}{p pos:Pos}{e:Expr}{es:List Expr}{t:TA}{id T:String}{r:List V->Hp->VK->Prop}
def GK(r:List V->Hp->VK->Prop)(t:TA):TE:=fun σ H Q=>t σ H fun vs H1=>r vs H1 Q
theorem kc(P:dj X (.builtin id) r)(N:Gl X x)(R:X.mg x=none)(S:i4 x=ar (.builtin id))(U:PA X (e::es) t)(O:x≠"__name__":=by decide)(Z:(x==("__debug__":Str))=false:=by decide)
  (W:dt (e::es) X.env=(dr,gd e X.env)::dt es X.env:=by rfl) (Y:(n_ pos (dt es X.env)).any (·.1)=false:=by rfl):PE X (.Call (.Name x p) (e::es) [] pos) (GK r t):=by
 intro pins s σ H Q I h;refine JD (kZ I N R S ?_ O Z);exact PyProof.Rows.callWith_builtin1 (di (U pos pins s σ H _ I h) fun us s1 ⟨vs,H1,I1,r1,q1⟩=>P pins s1 σ H1 vs us Q I1 r1 q1) W Y
theorem lg(P:dj X (.type T) r)(N:Gl X x)(R:X.mg x=none)(S:i4 x=ar (.type T))(U:PA X (e::es) t)(O:x≠"__name__":=by decide)(Z:(x==("__debug__":Str))=false:=by decide)
  (W:dt (e::es) X.env=(dr,gd e X.env)::dt es X.env:=by rfl) (Y:(n_ pos (dt es X.env)).any (·.1)=false:=by rfl):PE X (.Call (.Name x p) (e::es) [] pos) (GK r t):=by
 intro pins s σ H Q I h;refine JD (kZ I N R S ?_ O Z);exact Jl (di (U pos pins s σ H _ I h) fun us s1 ⟨vs,H1,I1,r1,q1⟩=>P pins s1 σ H1 vs us Q I1 r1 q1) W Y
end
end L2
namespace HT
open PySem PyProof.Rows
def lexLt:List Int->List Int->Bool
 |[],[]=>dr
 |[],_::_=>b_
 |_::_,[]=>dr
 |x::xs,y::ys=>if x=y then lexLt xs ys else decide (x<y)
theorem lexLt_cons(x y:Int)(xs ys:List Int):lexLt (x::xs) (y::ys)=if x=y then lexLt xs ys else decide (x<y):=rfl
theorem oA:lexLt [] []=false:=rfl
theorem mX(y:Int)(ys:List Int):lexLt [] (y::ys)=true:=rfl
theorem mY(x:Int)(xs:List Int):lexLt (x::xs) []=false:=rfl
theorem xH(A:g_)(s:c_)(a:Int)(t:Tok)(c:Int)(u:Tok):∃e,SeqAt.EqAt A s (.int a t) (.int c u) e/\(e=b_↔a=c):=
 ⟨(a==c),SeqAt.EqAt.int_int a t c u,by simp⟩
theorem xI(A:g_)(s:c_)(a:Int)(t:Tok)(c:Int)(u:Tok)(prog:eb)(w:ee)(E:a_->c_->Prop)(Q:a_->c_->Prop)(h:Q (.bool (decide (a<c))) s):
  ed (eK prog w) A (richCompare .Lt (.int a t) (.int c u)) Q E s:=
 (PyProof.Rows.lt_int h:ed (eK prog w) A (hO .Lt (.int a t) (.int c u)) Q E s)
section
open PySem.SeqAt
open PySem.AutoSeq1 (wpAny_loadPart')
open PySem.MeetsSeq PySem.MeetsSeq2 PySem.MeetsSeq3
theorem oB(l b:cq)(Y Z:Array a_)(n H:Nat)(dd Q:Option cq)(I S:Array (Option a_))(ns U:List Int)(L:kT Y.toList ns)(O:kT Z.toList U):
  Meets (Builtin.«tuple.__lt__» ⟨[.ref l,.ref b],[]⟩)
   (fun _ R s=>s.heap.get? l=ar {cls:=.type "tuple",dict:=dd,data:=.seq Y n,slots:=I}/\s.heap.get? b=ar {cls:=.type "tuple",dict:=Q,data:=.seq Z H,slots:=S}/\
    R (.ok (.ret (.bool (lexLt ns U)))) s):=
 .of_wp fun prog w A R s h=>by
  obtain⟨W,g,d,T,os⟩:=s;obtain⟨K,J,h⟩:=h;have f2:=AutoSeq1.sub_tuple_tuple;have F:Y.size=ns.length:=by rw[<-L.length];simp
  have G:Z.size=U.length:=by rw[<-O.length];simp
  wp_walk using wpAny_loadPart' K,wpAny_loadPart' J,wpAny_forIn_list _ (fun rest b s'=>b.1=none/\s'=⟨W,g,d,T,os⟩/\∃(vs ws:List a_) (ns' ms':List Int),rest=vs.zip ws/\
   kT vs ns'/\kT ws ms'/\ns'.length+Z.size=ms'.length+Y.size/\R (.ok (.ret (.bool (lexLt ns' ms')))) ⟨W,g,d,T,os⟩) _
  case turn=>
   rintro⟨y,x⟩ rest b s' ⟨hb',rfl,vs,ws,ns',ms',hz,hvi,hwi,hlen,hR⟩;cases hvi with
   |nil=>rw[List.zip_nil_left]at hz;cases hz
   | cons a t hvi'=>
    cases hwi with
    |nil=>rw[List.zip_nil_right]at hz;cases hz
    | cons c u hwi'=>
     rw[KN]at hz;injection hz with hyx hrest;injection hyx with hy hx;subst hy hx;rw[lexLt_cons]at hR;simp only[o_]at hlen;obtain⟨e,he,X⟩:=xH A.in1 ⟨W,g,d,T,os⟩ a t c u;refine HK (he prog w _ _ ?_);cases e with
     |true=>
      rw[if_pos (X.mp rfl)]at hR
      wp_walk
      exact⟨rfl,rfl,_,_,_,_,hrest,hvi',hwi',by omega,hR⟩
     |false=>
      rw[if_neg (fun q=>absurd (X.mpr q) IT)]at hR;have P:=xI A.in1 ⟨W,g,d,T,os⟩ a t c u prog w
      wp_walk using P
      exact⟨_,rfl,by simpa using hR⟩
  case fin=>
   rintro⟨b1,b2⟩ s' ⟨hb',rfl,vs,ws,ns',ms',hz,hvi,hwi,hlen,hR⟩;simp only at hb';subst hb';have N:lexLt ns' ms'=decide (Y.size<Z.size):=by
    cases hvi with
    | nil=>
     cases hwi with
     |nil=>
      simp only[z6]at hlen;rw[oA];exact(Ij (by omega)).symm
     |cons c u hw=>
      simp only[z6,o_]at hlen;rw[mX];exact(HU (by omega)).symm
    | cons a t N=>
     cases hwi with
     |nil=>
      simp only[z6,o_]at hlen;rw[mY];exact(Ij (by omega)).symm
     |cons c u hw=>
      rw[KN]at hz;cases hz
   rw[N]at hR
   wp_walk
   exact⟨_,rfl,by simpa [Builtin.Tuple.tupleCompareSizes]using hR⟩
  case h=>
   exact⟨rfl,rfl,Y.toList,Z.toList,ns,U,rfl,L,O,by omega,h⟩
end
section
variable {prog:eb}{w:ee}{A:g_}{E:a_->c_->Prop}{s:c_}
theorem lt_tupInts{Q:a_->c_->Prop}(P:LP s.heap l items)(L:LP s.heap b items2)(N:kT items.toList ns)(R:kT items2.toList ms)
  (K:A.units<vn) (h:Q (.bool (lexLt ns ms)) s):ed (eK prog w) A (hO .Lt (.ref l) (.ref b)) Q E s:=by
 obtain⟨⟨cls,dd,data,O⟩,U,T,n,hd⟩:=id P;obtain⟨⟨S,W,data2,X⟩,Z,Y,J,hd2⟩:=id L;simp only at T hd Y hd2;subst T hd Y hd2;exact richCompare_meets_room (op:=.Lt) ⟨_,U,rfl⟩ ⟨_,Z,rfl⟩ PySem.F.slot_tuple_lt PySem.F.entry_tuple_lt (PySem.F.args_tuple_lt_2 _ _) (oB l b items items2 n J dd W O X ns ms N R)
  ⟨U,Z,show l_ (lexLt ns ms)≠Value.notImplemented/\Q (.bool (lexLt ns ms)) s from⟨(fun x=>nomatch x),h⟩⟩ K
theorem cat_tup{vs Z:List a_}{Q:a_->c_->Prop}(H:LP s.heap t vs.toArray)(I:LP s.heap b Z.toArray)(R:vs≠[])
  (J:Z=[]->Q (.ref t) s) (K:Z≠[]->Q (.ref s.heap.objs.size) {s with heap:=s.heap.push {cls:=.type "tuple",data:=.seq (vs++Z).toArray}})
  (S:vs.length+Z.length<=sizeLine):ed (eK prog w) A (m1 .Add (.ref t) (.ref b)) Q E s:=by
 obtain⟨⟨cls,dd,data,P⟩,T,O,n,hd⟩:=id H;obtain⟨⟨N,W,data2,X⟩,Y,U,L,hd2⟩:=id I;simp only at O hd U hd2;subst O hd U hd2;have e:vs.toArray++Z.toArray=(vs++Z).toArray:=by simp
 by_cases hw:Z=[]
 ·exact Ic ⟨_,T,rfl⟩ ⟨_,Y,rfl⟩ K6 F_ J5 JV (JT _ _)
   (tuple_addW1 t b vs.toArray Z.toArray n L dd W P X (by simpa using R) (by simp[hw])) ⟨T,Y,J hw⟩
 ·refine Ic ⟨_,T,rfl⟩ ⟨_,Y,rfl⟩ K6 F_ J5 JV (JT _ _)
   (tuple_addW2 t b vs.toArray Z.toArray n L dd W P X (by simpa using R) (by simpa using hw) (by rw[HW,HW];exact S)) ⟨T,Y,?_⟩
  rw[e];exact K hw
def sIx(n d:Nat):Option Int->Nat
 |none=>d
 |some v=>if v<0 then (v+(n:Int)).toNat else min v.toNat n
theorem CU(n d:Nat)(Z:d<=n)(o:Option Int):sIx n d o<=n:=by
 cases o with
 |none=>exact Z
 |some v=>
  show(if v<0 then (v+(n:Int)).toNat else min v.toNat n)<=n;by_cases hv:v<0
  ·rw[if_pos hv];omega
  ·rw[if_neg hv];exact Nat.min_le_right _ _
theorem uP(v:Int)(n d:Nat):(if v<0 then max (v+(n:Int)) 0 else min v (n:Int))=((sIx n d (ar v):Nat):Int):=by
 show(if v<0 then max (v+(n:Int)) 0 else min v (n:Int))=(((if v<0 then (v+(n:Int)).toNat else min v.toNat n):Nat):Int);by_cases hv:v<0
 ·simp only[if_pos hv];omega
 ·simp only[if_neg hv];omega
theorem tP(Y Z:Option Int)(n:Nat):pb Y Z 1 (n:Int)=(((sIx n 0 Y:Nat):Int),((sIx n n Z:Nat):Int)):=by
 have X:¬ ((1:Int)<0):=by omega
 unfold pb;simp only[X,if_false];refine Ke ?_ ?_
 ·cases Y with
  |none=>rfl
  |some v=>exact uP v n 0
 ·cases Z with
  |none=>rfl
  |some v=>exact uP v n n
theorem tQ(i j:Nat):k4 (i:Int) (j:Int) 1=j - i:=by
 unfold k4;have Z:(1:Int)>0:=by omega
 simp only[Z,if_true,Int.ediv_one];split<;>omega
theorem mZ{Q:Option Int->c_->Prop}(p:G3 v o)(h:Q o s):ed (eK prog w) A (Builtin.Slice.slicePartIndex v) Q E s:=by
 cases p with
 |none=>exact slicePart_none h
 |int i t=>exact slicePart_int h
theorem sliceApplied_gen{S:cq}{U T:a_}{Z Y:Option Int}{n:Nat}{Q:Int×Int×Nat->c_->Prop}(hs:s.heap.IsSliceOf S U T .none)(R:G3 U Z)(P:G3 T Y)
  (h:Q (((sIx n 0 Z:Nat):Int),1,sIx n n Y - sIx n 0 Z) s):ed (eK prog w) A (Builtin.Slice.sliceApplied (.ref S) (aC (n:Int))) Q E s:=by
 obtain⟨os,W,O,X⟩:=id hs;unfold Builtin.Slice.sliceApplied Builtin.Slice.sliceFields;refine HK (HK (IR W X (x:=U) rfl (HK (IR W X (x:=T) rfl (HK (IR W X (x:=.none) rfl (HV ?_)))))));refine HK (slicePart_none ?_);show ed _ _ (if ((1:Int)==0)=b_ then _ else _) _ _ s;rw[if_neg (by decide)]
 refine HK (mZ R (HK (mZ P (HK (HV ?_)))));show ed _ _ (match pb Z Y 1 (n:Int)with|(Z,Y)=>aC (Z,(1:Int),k4 Z Y 1)) _ _ s
 rw[tP Z Y n];show ed _ _ (aC (((sIx n 0 Z:Nat):Int),(1:Int),k4 ((sIx n 0 Z:Nat):Int) ((sIx n n Y:Nat):Int) 1)) _ _ s;rw[tQ];exact HV h
theorem xJ(xs:Array a_)(i k:Nat):((d_ k).filterMap fun(m:Nat)=>xs[((i:Int)+(m:Int)*1).toNat]?).toArray=((xs.toList.drop i).take k).toArray:=by
 have e:(fun(m:Nat)=>xs[((i:Int)+(m:Int)*1).toNat]?)=fun m=>xs[i+m]? :=by
  funext m;have:((i:Int)+(m:Int)*1).toNat=i+m:=by omega
  rw[this]
 rw[e];have:=pick_run xs i k;rw[List.filterMap_map]at this;have e2:((fun x=>xs[x]?)∘fun x=>i+x)=fun m=>xs[i+m]? :=rfl;rw[e2]at this;rw[this]
theorem getItem_tuple_cut{t P:cq}{Z:Array a_}{L N:a_}{X W:Option Int}{Q:a_->c_->Prop}(U:LP s.heap t Z)(hs:s.heap.IsSliceOf P L N .none)(I:G3 L X)(K:G3 N W)
  (J:¬ (sIx Z.size 0 X=0/\sIx Z.size Z.size W=Z.size))
  (h:Q (.ref s.heap.objs.size) {s with heap:=s.heap.push {cls:=.type "tuple",data:=.seq ((Z.toList.drop (sIx Z.size 0 X)).take (sIx Z.size Z.size W - sIx Z.size 0 X)).toArray}})
  (G:Z.size<=sizeLine):ed (eK prog w) A (I_ (.ref t) (.ref P)) Q E s:=by
 have Y:sizeOk (.seq ((Z.toList.drop (sIx Z.size 0 X)).take (sIx Z.size Z.size W - sIx Z.size 0 X)).toArray):=by
  show((Z.toList.drop (sIx Z.size 0 X)).take (sIx Z.size Z.size W - sIx Z.size 0 X)).toArray.size<=sizeLine;rw[HW,JN,Kl,Ky];omega
 have F:sIx Z.size Z.size W<=Z.size:=CU _ _ (HN _) W;obtain⟨os,R,T,H⟩:=id hs;have O:s.TypeIs (.ref P) "slice":=⟨os,R,T⟩;unfold I_
 try with_reducible refine Jh ?_
 first|refine HK (HV ?_)|skip
 refine HK (wpAny_sequenceKey U.typeIs (by decide) ?_)
 refine HK (wpAny_callSpecial?_slot (name:=hI "__getitem__") U.typeIs Ja
  (Jp Ja U.typeIs entry_tuple_getitem ?_ (args_tuple_getitem _ _)))
 show ed _ _ (Builtin.Tuple.tupleItemsOf (.ref t)>>=_) _ _ s;refine HK (tupleItemsOf_ U ?_);refine HK (J_ O ?_);rw[if_pos (by decide)]
 refine HK (sliceApplied_gen hs I K ?_);have S:¬ ((((sIx Z.size 0 X:Nat):Int)==0 && (1:Int)==1 && (sIx Z.size Z.size W - sIx Z.size 0 X)==Z.size)=b_):=by
  intro q;rw[IE,IE]at q;have B:((sIx Z.size 0 X:Nat):Int)=0:=LR q.1.1;have C:sIx Z.size Z.size W - sIx Z.size 0 X=Z.size:=LR q.2;exact J ⟨by omega,by omega⟩
 show ed _ _ (if (((sIx Z.size 0 X:Nat):Int)==0 && (1:Int)==1 && (sIx Z.size Z.size W - sIx Z.size 0 X)==Z.size)=b_ then _ else _) _ _ s;rw[if_neg S,xJ];first
  |exact HK (m:=k' _) (Jb (HV ⟨_,rfl,HV h⟩) Y)
  |exact HK (m:=k' _) (Jb (HK (HV (HV ⟨_,rfl,HV h⟩))) Y)
  |exact HK (HK (m:=k' _) (Jb (HV (HV ⟨_,rfl,HV h⟩)) Y))
  |exact HK (HK (m:=k' _) (Jb (HV ⟨_,rfl,HV h⟩) Y))
end
end HT
namespace L2
open PySem PySem.Spec PyProof.Rows
abbrev TO:=St->Hp->(Option Int->Hp->Prop)->Prop
def PO(X:Cx)(e:Option Expr)(t:TO):Prop:=
 ∀(pins:List (cq×Obj)) (s:c_) (σ:St) (H:Hp) (Q:Option Int->Hp->Prop),Inv X pins σ H s->t σ H Q->
  ed (eK X.prog X.w) X.A (evalPart e X.env) (fun u s'=>∃o H',Inv X pins σ H' s'/\G3 u o/\Q o H') X.xe s
def Aw:TO:=fun _ H Q=>Q none H
def EN(t:TE):TO:=fun σ H Q=>t σ H fun x H1=>∃i,x= .int i/\Q (ar i) H1
theorem Lj{ns:List Int}:∀{us:List a_},bb (ns.map V.int) us->kT us ns:=by
 induction ns with
 |nil=>intro us r;rw[Kh]at r;cases r;exact .nil
 | cons n ns ih=>
  intro us r;rw[Iu]at r;cases r with
  |cons r1 r2=>
   obtain⟨t,e⟩:=r1;subst e;exact .cons n t (ih r2)
section
variable {X:Cx}{e:Expr}{te:TE}{lo hi:Option Expr}{tl th:TO}{pos p2:Pos}
theorem Ax:PO X none Aw:=by
 intro pins s σ H Q I h;rw[evalPart_none];exact HV ⟨none,H,I,.none,h⟩
theorem Ay(h:PE X e te):PO X (ar e) (EN te):=by
 intro pins s σ H Q I hw;rw[evalPart_some];refine di (h pins s σ H _ I hw) fun u s1 ⟨x,H1,I1,r1,q1⟩=>?_;obtain⟨i,rfl,q⟩:=q1;obtain⟨t,rfl⟩:=r1;exact⟨ar i,H1,I1,.int i t,q⟩
def BV(X:Cx)(r:V->Option Int->Option Int->Hp->VK->Prop):Prop:=
 ∀(pins:List (cq×Obj)) (s:c_) (σ:St) (H:Hp) (x:V) (v vl vu:a_) (lo hi:Option Int) (sl:cq) (Q:VK),Inv X pins σ H s->RelV x v->s.heap.IsSliceOf sl vl vu .none->G3 vl lo->G3 vu hi->r x lo hi H Q->
  ∃T id,typeLookup (.type T) "__getitem__"=aC (ar (.builtin id))/\s.TypeIs v T/\ed (eK X.prog X.w) X.A (I_ v (.ref sl)) (EP X pins σ Q) X.xe s
theorem BV.or{r Z:V->Option Int->Option Int->Hp->VK->Prop}(h:BV X r)(h':BV X Z):BV X (fun x lo hi H Q=>r x lo hi H Q\/Z x lo hi H Q):=by
 intro pins s σ H x v S T lo hi Y Q I W hs U pu q;rcases q with q|q
 ·exact h pins s σ H x v S T lo hi Y Q I W hs U pu q
 ·exact h' pins s σ H x v S T lo hi Y Q I W hs U pu q
def Hw(r:V->Option Int->Option Int->Hp->VK->Prop)(te:TE)(tl th:TO):TE:=fun σ H Q=>te σ H fun x H1=>tl σ H1 fun l H2=>th σ H2 fun u H3=>r x l u H3 Q
theorem xK(S:BV X r)(W:PE X e te)(Z:PO X lo tl)(R:PO X hi th):PE X (.Subscript e (.Slice lo hi none p2) pos) (Hw r te tl th):=by
 intro pins s σ H Q I h;refine Subscript_ (di (W pins s σ H _ I h) fun v s1 ⟨x,H1,I1,r1,q1⟩=>?_);refine wpAny_Slice (di (Z pins s1 σ H1 _ I1 q1) fun vl s2 ⟨l,H2,I2,pl,q2⟩=>di (R pins s2 σ H2 _ I2 q2) fun vu s3 ⟨u,H3,I3,pu,q3⟩=>?_);rw[evalPart_none];refine HV ?_;have Y:Inv X pins σ H3 {s3 with heap:=s3.heap.push {cls:=.type "slice",data:=.fields #[vl,vu,.none]}}:=I3.kept (t':=s3.toks) fun b N q=>HM _ q;obtain⟨T,id,U,P,O⟩:=S pins {s3 with heap:=s3.heap.push {cls:=.type "slice",data:=.fields #[vl,vu,.none]}} σ H3 x v vl vu l u s3.heap.objs.size Q Y r1 (Heap.IsSliceOf.new ..) pl pu q3;show ed (eK X.prog X.w) X.A (subscriptTail e (.Slice lo hi none p2) v (.ref s3.heap.objs.size)) (EP X pins σ Q) X.xe {s3 with heap:=s3.heap.push {cls:=.type "slice",data:=.fields #[vl,vu,.none]}};exact tail_any (ops:=[.ref s3.heap.objs.size,v]) P U O (by with_unfolding_all rfl)
def oC(xs:List V)(lo hi:Option Int):List V:=(xs.drop (HT.sIx xs.length 0 lo)).take (HT.sIx xs.length xs.length hi - HT.sIx xs.length 0 lo)
theorem lO(xs:List V)(lo hi:Option Int):(oC xs lo hi).length<=xs.length:=by
 unfold oC;rw[JN,Kl];omega
def GL(K:dn):V->Option Int->Option Int->Hp->VK->Prop:=fun x lo hi H Q=>∃a xs,x= .ref a/\kQ K H a xs/\
 ¬ (HT.sIx xs.length 0 lo=0/\HT.sIx xs.length xs.length hi=xs.length)/\∀p,H p=none->Q (.ref p) (upd H p (.tup (oC xs lo hi)))
theorem CV:BV X (GL X.K):=by
 intro pins s σ H x v O P lo hi R Q I U hs T pu h;obtain⟨a,xs,rfl,W,hw,q⟩:=h;cases U;obtain⟨its,r,Y,Z⟩:=I.tuple W;have hlen:its.toArray.size=xs.length:=by rw[HW];exact r.length.symm
 refine⟨"tuple",_,PyProof.Rows.slot_tuple_getitem.lookup,Y.typeIs,?_⟩;refine HT.getItem_tuple_cut Y hs T pu (by rw[hlen];exact hw) ?_ (by rw[hlen];exact Z)
 rw[hlen];refine⟨.ref s.heap.objs.size,_,I.laid (t':=s.toks) (o:=.tup (oC xs lo hi)) (fun b S q=>HM _ q) (HN _) ?_,rfl,q _ (I.hok.fresh (HN _))⟩;exact⟨pU (HX (lO xs lo hi) Z),_,(r.drop (HT.sIx xs.length 0 lo)).take (HT.sIx xs.length xs.length hi - HT.sIx xs.length 0 lo),LS _ _⟩
def EO(K:dn):R2:=fun x y H Q=>∃a b ns ms,x= .ref a/\y= .ref b/\kQ K H a (ns.map V.int)/\kQ K H b (ms.map V.int)/\Q (.bl (HT.lexLt ns ms)) H
theorem tR(R:X.A.units<vn):gT X (hO .Lt) (EO X.K):=by
 intro pins s σ H x y v u Q I W T h;obtain⟨a,b,ns,ms,rfl,rfl,Y,P,q⟩:=h;cases W;cases T;obtain⟨its,N,U,_⟩:=I.tuple Y;obtain⟨Z,O,p2,_⟩:=I.tuple P;have S:kT its.toArray.toList ns:=Lj N;have L:kT Z.toArray.toList ms:=Lj O;exact HT.lt_tupInts U p2 S L R ⟨.bl (HT.lexLt ns ms),H,I,rfl,q⟩
def ER(K:dn):R2:=fun x y H Q=>∃a b xs ys,x= .ref a/\y= .ref b/\kQ K H a xs/\kQ K H b ys/\xs≠[]/\xs.length+ys.length<=sizeLine/\
 (ys=[]->Q (.ref a) H)/\(ys≠[]->∀p,H p=none->Q (.ref p) (upd H p (.tup (xs++ys))))
theorem bb.nil_iff(r:bb xs us):us=[]↔xs=[]:=by
 cases r with
 |nil=>simp
 |cons _ _=>simp
theorem Az:gT X (m1 .Add) (ER X.K):=by
 intro pins s σ H x y v u Q I R N h;obtain⟨a,b,xs,ys,rfl,rfl,T,J,S,W,O,L⟩:=h;cases R;cases N;obtain⟨its,Y,P,_⟩:=I.tuple T;obtain⟨U,Z,p2,_⟩:=I.tuple J;refine HT.cat_tup P p2 (fun z=>S (Y.nil_iff.mp z)) (fun z=>⟨.ref a,H,I,rfl,O (Z.nil_iff.mp z)⟩) (fun z=>?_) (by rw[<-Y.length, <-Z.length];exact W)
 refine⟨.ref s.heap.objs.size,_,I.laid (t':=s.toks) (o:=.tup (xs++ys)) (fun b G q=>HM _ q) (HN _) ?_,rfl,L (fun w=>z (Z.nil_iff.mpr w)) _ (I.hok.fresh (HN _))⟩;exact⟨pU (by rw[HP];exact W),_,Y.append Z,LS _ _⟩
end
end L2
namespace L2
open PySem PySem.Spec PyProof.Rows
def xm(n:Nat)(i:Int):Option Nat:=if 0<=i then (if i<n then ar i.toNat else none)else if -(n:Int)<=i then ar (i+n).toNat else none
def jM{α:Type}(xs:List α)(i:Int):Option α:=(xm xs.length i).bind fun j=>xs[j]?
theorem uQ(h:xm n i=ar j):Lr i n=ar j/\j<n/\ -(n:Int)<=i/\i<n:=by
 unfold xm at h;by_cases h0:0<=i
 ·rw[if_pos h0]at h;by_cases h1:i<n
  ·rw[if_pos h1]at h;have e:i.toNat=j:=Il h;exact⟨by rw[Ly h0 h1,e],by omega,by omega,h1⟩
  ·rw[if_neg h1]at h;cases h
 ·rw[if_neg h0]at h;by_cases h1: -(n:Int)<=i
  ·rw[if_pos h1]at h;have e:(i+n).toNat=j:=Il h;exact⟨by rw[seqIndex_neg (by omega) h1,e],by omega,h1,by omega⟩
  ·rw[if_neg h1]at h;cases h
theorem pX{α:Type}{xs:List α}{i:Int}{v:α}(h:jM xs i=ar v):∃j,Lr i xs.length=ar j/\xs[j]? =ar v/\j<xs.length/\ -(xs.length:Int)<=i/\i<xs.length:=by
 unfold jM at h;cases e:xm xs.length i with
 |none=>rw[e]at h;cases h
 |some j=>
  rw[e]at h;obtain⟨Z,X,Y,W⟩:=uQ e;exact⟨j,Z,h,X,Y,W⟩
def pY(b:Expr):Prop:=∀o i,subscripted b dr o i=operate [o,i] (I_ o i)
def Ag(X:Cx)(r:R2):Prop:=
 ∀(value slice:Expr) (pins:List (cq×Obj)) (s:c_) (σ:St) (H:Hp) (x y:V) (v u:a_) (Q:VK),Inv X pins σ H s->RelV x v->RelV y u->r x y H Q->
  subscripted slice dr v u=operate [v,u] (I_ v u)->ed (eK X.prog X.w) X.A (subscriptTail value slice v u) (EP X pins σ Q) X.xe s
def GN(X:Cx)(id:String)(r:V->List V->Hp->VK->Prop):Prop:=
 ∀(pins:List (cq×Obj)) (s:c_) (σ:St) (H:Hp) (x:V) (xs:List V) (v:a_) (us:List a_) (Q:VK),Inv X pins σ H s->RelV x v->bb xs us->r x xs H Q->
  ed (eK X.prog X.w) X.A (call (.builtin id) (v::us)) (EP X pins σ Q) X.xe s
section
variable {X:Cx}{a b:Expr}{ta tb:TE}{pos:Pos}
theorem Ag.or{r Z:R2}(h:Ag X r)(h':Ag X Z):Ag X (fun x y H Q=>r x y H Q\/Z x y H Q):=by
 intro value slice pins s σ H x y v u Q I W Y q hs;rcases q with q|q
 ·exact h value slice pins s σ H x y v u Q I W Y q hs
 ·exact h' value slice pins s σ H x y v u Q I W Y q hs
theorem ES(T:Ag X r)(Z:PE X a ta)(S:PE X b tb)(hs:pY b):PE X (.Subscript a b pos) (EF r ta tb):=by
 intro pins s σ H Q I h;exact Subscript_ (CJ Z S I h fun v u s2 x y R U W Y q=>T a b pins s2 σ R x y v u Q U W Y q (hs _ _))
def ET(K:dn):R2:=fun x y H Q=>∃p xs i v,x= .ref p/\y= .int i/\iS K H p xs/\jM xs i=ar v/\Q v H
def EU(K:dn):R2:=fun x y H Q=>∃p xs i v,x= .ref p/\y= .int i/\kQ K H p xs/\jM xs i=ar v/\Q v H
def EV:R2:=fun x y H Q=>∃z i c,x= .str z/\y= .int i/\z.length<=sizeLine/\jM z.cps.toList i=ar c/\Q (.str ⟨#[c]⟩) H
theorem AA:Ag X (ET X.K):=by
 intro value slice pins s σ H x y v u Q I O P h hs;obtain⟨p,xs,i,z,rfl,rfl,L,he,q⟩:=h;cases O;obtain⟨t,rfl⟩:=P;obtain⟨its,r,U,E⟩:=I.list L;obtain⟨j,Z,J,F,N,S⟩:=pX he;obtain⟨w,T,W⟩:=r.get J;have R:=r.length;have G:=k9;have fin:EP X pins σ Q w s:=⟨z,H,I,W,q⟩;by_cases h0:0<=i
 ·have Y:i.toNat=j:=by
   rw[Ly h0 S]at Z;exact Il Z
  exact item_listR U.isList h0 (by omega) (by rw[Y];simpa using T) fin hs
 ·have Y:(i+(its.toArray.size:Int)).toNat=j:=by
   rw[seqIndex_neg (by omega) N]at Z
   rw[HW, <-R];exact Il Z
  exact subscriptTail_builtinR (x:=w) U.isList.typeIs slot_list_getitem.lookup
   (wpAny_getItem_list_neg (Q:=fun r s'=>r=w/\EP X pins σ Q r s') U.isList (by omega) (by rw[HW]<;>omega) (by omega) (by rw[Y];simpa using T) ⟨rfl,fin⟩) hs
theorem CY:Ag X (EU X.K):=by
 intro value slice pins s σ H x y v u Q I S U h hs;obtain⟨p,xs,i,z,rfl,rfl,R,he,q⟩:=h;cases S;obtain⟨t,rfl⟩:=U;obtain⟨its,r,Y,F⟩:=I.tuple R;obtain⟨j,T,O,J,G,N⟩:=pX he;obtain⟨w,P,Z⟩:=r.get O;have W:=r.length;have L:=k9;have fin:EP X pins σ Q w s:=⟨z,H,I,Z,q⟩;exact subscriptTail_builtinR (x:=w) Y.typeIs slot_tuple_getitem.lookup
  (getItem_tuple (j:=j) (Q:=fun r s'=>r=w/\EP X pins σ Q r s') Y (by omega) (by omega) (by rw[HW, <-W];exact T) (by simpa using P) ⟨rfl,fin⟩) hs
theorem CZ:Ag X EV:=by
 intro value slice pins s σ H x y v u Q I S T h hs;obtain⟨z,i,c,rfl,rfl,P,he,q⟩:=h;obtain⟨t,rfl⟩:=S;obtain⟨t',rfl⟩:=T;obtain⟨j,Z,W,N,R,Y⟩:=pX he;have U:z.cps.toList.length=z.length:=by simp[Str.length]
 rw[U]at Z R Y;have O:=k9;exact tail_any (typeIs_str s z t) slot_str_getitem.lookup (getItem_str (c:=c) (by
  have e1:decide (i< -(2 ^ 63:Int))=false:=Ij (by omega)
  have e2:decide (i ≥ 2 ^ 63)=false:=Ij (by omega)
  rw[e1,e2,Bool.or_false]) (by rw[Z];simpa using W) ⟨.str ⟨#[c]⟩,H,I.tok _,⟨_,rfl⟩,q⟩) hs
def Hd(K:dn):R2:=fun x y H Q=>ET K x y H Q\/EU K x y H Q\/EV x y H Q
theorem C0:Ag X (Hd X.K):=AA.or (CY.or CZ)
theorem tS(its:List a_)(n j:Nat)(u:a_):mh (·.setIfInBounds j u) {cls:=.type "list",data:=.seq its.toArray n}={cls:=.type "list",data:=.seq (its.set j u).toArray n}:=by
 simp[mh]
theorem Inv.lst{Z:List (cq×Obj)}{Y:St}{H:Hp}{s:c_}{p:cq}{xs:List V}(I:Inv X Z Y H s)(h:H p=ar (.lst xs)):
  ∃(its:List a_) (n:Nat),bb xs its/\s.heap.get? p=ar {cls:=.type "list",data:=.seq its.toArray n}/\xs.length<=sizeLine:=by
 obtain⟨z,its,n,r,e⟩:=I.hok p _ h;exact⟨its,n,r,e,z⟩
theorem Inv.lstUpd{H:Hp}{its its':List a_}{f:Obj->Obj}(I:Inv X pins σ H s)(h:H p=ar (.lst xs))
  (W:s.heap.get? p=ar {cls:=.type "list",data:=.seq its.toArray n}) (Z:f {cls:=.type "list",data:=.seq its.toArray n}={cls:=.type "list",data:=.seq its'.toArray n'}) (r:bb ys its') (U:ys.length<=sizeLine) (t:Nat):
  Inv X pins σ (upd H p (.lst ys)) {s with heap:=s.heap.update p f,toks:=t}:=by
 have e:(s.heap.update p f).get? p=ar {cls:=.type "list",data:=.seq its'.toArray n'}:=by
  rw[JH f W (by rw[Z]<;>rfl),Z]
 refine I.write (x:=p) (e:=p) (by rw[h];trivial) (.inl rfl) (fun b u Y q=>(IJ _ _ (i' Y)).trans q) ⟨_,e⟩ ?_
 exact⟨U,its',n',r,e⟩
def BW:V->V->V->Hp->(Hp->Prop)->Prop:=fun o i v H Q=>∃p xs k j,o= .ref p/\i= .int k/\H p=ar (.lst xs)/\xm xs.length k=ar j/\Q (upd H p (.lst (xs.set j v)))
theorem set_list:Ey X BW:=by
 intro pins s σ H o i v F C u Q I L J G h;obtain⟨p,xs,k,j,rfl,rfl,R,N,q⟩:=h;cases L;obtain⟨t,rfl⟩:=J;obtain⟨its,n,r,T,K⟩:=I.lst R;obtain⟨Z,B,P,O⟩:=uQ N;have Y:=r.length;have E:=k9;have S:Inv X pins σ (upd H p (.lst (xs.set j v))) {s with heap:=s.heap.update p (mh (·.setIfInBounds j u))}:=
  I.lstUpd R T (tS its n j u) (r.set G j) (by rw[JW];exact K) s.toks
 by_cases h0:0<=k
 ·have U:k.toNat=j:=by
   rw[Ly h0 O]at Z;exact Il Z
  exact W.ki_setAt T h0 (by omega) (by rw[HW, <-Y];exact O) (by rw[U];exact⟨_,S,q⟩)
 ·have U:(k+(its.toArray.size:Int)).toNat=j:=by
   rw[seqIndex_neg (by omega) P]at Z
   rw[HW, <-Y];exact Il Z
  exact W.ki_setBack T (by omega) (by rw[HW, <-Y];exact P) (by omega) (by rw[U];exact⟨_,S,q⟩)
theorem pZ(Y Z:Option Int)(n:Nat):(qq Y Z none n).1=((HT.sIx n 0 Y:Nat):Int)/\(qq Y Z none n).2.1=((HT.sIx n n Z:Nat):Int)/\(qq Y Z none n).2.2=1:=by
 refine⟨?_,?_,rfl⟩
 ·cases Y with
  |none=>simp[qq,HT.sIx]
  |some i=>
   simp only[qq,HT.sIx,Option.getD_none,show(1:Int)>0 by decide,if_true]
   by_cases h:i<0
   ·simp only[h,if_true]<;>omega
   ·simp only[h,if_false]<;>omega
 ·cases Z with
  |none=>simp[qq,HT.sIx]
  |some i=>
   simp only[qq,HT.sIx,Option.getD_none,show(1:Int)>0 by decide,if_true]
   by_cases h:i<0
   ·simp only[h,if_true]<;>omega
   ·simp only[h,if_false]<;>omega
theorem oD(its:List a_)(Z Y:Option Int):slicePick its.toArray Z Y none=((its.drop (HT.sIx its.length 0 Z)).take (HT.sIx its.length its.length Y - HT.sIx its.length 0 Z)).toArray:=by
 obtain⟨U,W,T⟩:=pZ Z Y its.toArray.size;unfold slicePick;rw[U,W,T];simp only[sliceRange_one,pick_run,i0]<;>rfl
def GO(K:dn):V->Option Int->Option Int->Hp->VK->Prop:=fun x lo hi H Q=>∃a xs,x= .ref a/\iS K H a xs/\∀p,H p=none->Q (.ref p) (upd H p (.lst (oC xs lo hi)))
theorem AB:BV X (GO X.K):=by
 intro pins s σ H x v N O lo Z P Q I T hs S pu h;obtain⟨a,xs,rfl,W,q⟩:=h;cases T;obtain⟨its,r,Y,U⟩:=I.list W;have hlen:=r.length;refine⟨"list",_,slot_list_getitem.lookup,Y.isList.typeIs,?_⟩;refine wpAny_getItem_list_slice Y.isList hs S pu .none (by simp) ?_ (by rw[HW]<;>omega)
 rw[oD, <-hlen];refine⟨.ref s.heap.objs.size,_,I.laid (t':=s.toks) (o:=.lst (oC xs lo Z)) (fun b R q=>HM _ q) (HN _) ?_,rfl,q _ (I.hok.fresh (HN _))⟩;exact⟨HX (lO xs lo Z) U,_,0,(r.drop (HT.sIx xs.length 0 lo)).take (HT.sIx xs.length xs.length Z - HT.sIx xs.length 0 lo),Ia _ rfl⟩
theorem p7:dj X (.builtin "len") (fun xs H Q=>∃p ys,xs=[.ref p]/\(iS X.K H p ys\/kQ X.K H p ys)/\Q (.int ys.length) H):=by
 intro pins s σ H xs us Q I r h;obtain⟨p,ys,rfl,Z,q⟩:=h;obtain⟨u,rfl,T⟩:=vals1 r;cases T;have S:=k9;rcases Z with Z|Z
 ·obtain⟨its,Y,W,U⟩:=I.list Z;have hlen:=Y.length;exact Calls.call_len_list W.isList (by simp only[i0]<;>omega) ⟨.int ys.length,H,I.tok _,⟨s.toks+1,by rw[HW,hlen]⟩,q⟩
 ·obtain⟨its,Y,W,U⟩:=I.tuple Z;have hlen:=Y.length;exact len_tuple W (by simp only[i0]<;>omega) ⟨.int ys.length,H,I.tok _,⟨s.toks+1,by rw[HW,hlen]⟩,q⟩
theorem dj.or{r Z:List V->Hp->VK->Prop}(h:dj X f r)(h':dj X f Z):dj X f (fun xs H Q=>r xs H Q\/Z xs H Q):=by
 intro pins s σ H xs us Q I rs q;rcases q with q|q
 ·exact h pins s σ H xs us Q I rs q
 ·exact h' pins s σ H xs us Q I rs q
theorem p8:dj X (.type "list") (fun xs H Q=>∃p ys,xs=[.ref p]/\(iS X.K H p ys\/kQ X.K H p ys)/\∀l,H l=none->Q (.ref l) (upd H l (.lst ys))):=by
 intro pins s σ H xs us Q I r h;obtain⟨p,ys,rfl,W,q⟩:=h;obtain⟨u,rfl,O⟩:=vals1 r;cases O;have fin:∀(its:List a_),bb ys its->ys.length<=sizeLine->∀(h':fc) (Z:Nat),(∀b o',s.heap.get? b=ar o'->h'.get? b=ar o')->
   h'.get? s.heap.objs.size=ar {cls:=.type "list",dict:=none,data:=.seq its.toArray Z,slots:= #[]}->EP X pins σ Q (.ref s.heap.objs.size) {s with heap:=h'}:=fun its Y U h' Z T e=>
  ⟨.ref s.heap.objs.size,_,I.laid (t':=s.toks) T (HN _) (show bx X.prog X.w _ h' _ (.lst ys)from⟨U,its,Z,Y,e⟩),rfl,q _ (I.hok.fresh (HN _))⟩
 rcases W with W|W
 ·obtain⟨its,Y,R,U⟩:=I.list W;have hlen:=Y.length;obtain⟨o,S,P,n,hd⟩:=R.isList;exact call_list_seq p (.inl rfl) S P hd (fun h' Z T e=>fin its Y U h' Z T e) (by simp only[i0]<;>omega)
 ·obtain⟨its,Y,R,U⟩:=I.tuple W;have hlen:=Y.length;obtain⟨o,S,P,n,hd⟩:=R;exact call_list_seq p (.inr rfl) S P hd (fun h' Z T e=>fin its Y U h' Z T e) (by simp only[i0]<;>omega)
theorem oE:dj X (.type "tuple") (fun xs H Q=>∃p ys,xs=[.ref p]/\((iS X.K H p ys/\∀l,H l=none->Q (.ref l) (upd H l (.tup ys)))\/(kQ X.K H p ys/\Q (.ref p) H))):=by
 intro pins s σ H xs us Q I r h;obtain⟨p,ys,rfl,h⟩:=h;obtain⟨u,rfl,S⟩:=vals1 r;cases S;rcases h with⟨hq,q⟩|⟨hq,q⟩
 ·obtain⟨its,Z,Y,W⟩:=I.list hq;have hlen:=Z.length;refine call_tuple_list Y.isList (fun h' R=>?_) (by simp only[i0]<;>omega)
  have U:Inv X pins σ H {s with heap:=h'}:=I.kept (t':=s.toks) R;have T:Inv X pins σ (upd H h'.objs.size (.tup ys)) {s with heap:=h'.push {cls:=.type "tuple",data:=.seq its.toArray}}:=
   U.laid (t':=s.toks) (fun b o e=>HM _ e) (HN _) (show bx X.prog X.w _ _ _ (.tup ys)from⟨pU W,its,Z,LS _ _⟩)
  exact⟨.ref h'.objs.size,_,T,rfl,q _ (U.hok.fresh (HN _))⟩
 ·obtain⟨its,Z,Y,W⟩:=I.tuple hq;exact call_tuple_same Y ⟨.ref p,H,I,rfl,q⟩
def GP(K:dn)(T:String)(x:V)(H:Hp):Prop:=match x with
 | .str _=>T="str"
 | .int _=>T="int"
 | .ref p=>(T="list"/\∃xs,iS K H p xs)\/(T="tuple"/\∃xs,H p=ar (.tup xs))\/
   (T="dict"/\((∃kvs,H p=ar (.dK kvs))\/∃kvs,H p=ar (.dT kvs)))\/(T="set"/\∃S n,H p=ar (.set S n))
 |_=>False
theorem C1(I:Inv X pins σ H s)(r:RelV x v)(Z:GP X.K T x H):
  s.TypeIs v T/\∀a,v= .ref a->∃ob,s.heap.get? a=ar ob/\ob.dict=none:=by
 cases x with
 |str z=>
  obtain⟨t,rfl⟩:=r;cases (show T="str" from Z);exact⟨typeIs_str s z t,fun _ e=>nomatch e⟩
 |int i=>
  obtain⟨t,rfl⟩:=r;cases (show T="int" from Z);exact⟨LH s i t,fun _ e=>nomatch e⟩
 | ref p=>
  cases r;rcases Z with⟨rfl,xs,hq⟩|⟨rfl,xs,hk⟩|⟨rfl,hk⟩|⟨rfl,S,n,hk⟩
  ·obtain⟨its,_,Y,_⟩:=I.list hq;refine⟨Y.isList.typeIs,fun a e=>?_⟩;cases e;obtain⟨o,n,e,c,hd,_⟩:=Y;exact⟨o,e,hd⟩
  ·obtain⟨⟨_,o,e,hd⟩,its,_,pt⟩:=(show bx X.prog X.w H s.heap p (.tup xs)from I.hok p _ hk);refine⟨pt.typeIs,fun a e2=>?_⟩;cases e2;exact⟨o,e,hd⟩
  ·have z:∃o,s.heap.get? p=ar o/\o.ExactDict:=by
    rcases hk with⟨kvs,hk⟩|⟨kvs,hk⟩
    ·obtain⟨_,_,_,_,o,_,_,e,ex,_⟩:=I.hok p _ hk;exact⟨o,e,ex⟩
    ·obtain⟨_,_,_,_,o,_,_,e,ex,_⟩:=I.hok p _ hk;exact⟨o,e,ex⟩
   obtain⟨o,e,ex⟩:=z;refine⟨⟨o,e,ex.1⟩,fun a e2=>?_⟩;cases e2;exact⟨o,e,ex.2.1⟩
  ·obtain⟨o,_,_,_,e,ex,_⟩:=I.hok p _ hk;refine⟨⟨o,e,ex.1⟩,fun a e2=>?_⟩;cases e2;exact⟨o,e,ex.2.1⟩
 |_=>exact g8 Z
def Hx(K:dn)(T:String)(r:V->List V->Hp->VK->Prop)(to:TE)(t:TA):TE:=fun σ H Q=>to σ H fun x H1=>GP K T x H1/\t σ H1 fun xs H2=>r x xs H2 Q
variable {o e:Expr}{es:List Expr}{to:TE}{t:TA}{name:Str}{apos cpos:Pos}{T id:String}{r:V->List V->Hp->VK->Prop}
theorem EX(F:PlainAttrs T)(U:Slot T name id)(R:typeOf (.builtin id)=aC (.type "method_descriptor"))(L:GN X id r)(N:PE X o to)(O:PA X (e::es) t)
  (Y:j' o name X.env (gd o X.env)=gd o X.env:=by rfl)
  (S:((n_ cpos (dt (e::es) X.env)).all (fun x=> !x.1) && (backToKw cpos (keywordEach [] X.env)).all (fun x=>x.1.isSome)
   && decide ((e::es).length+([]:List LA).length+(if ([]:List LA).isEmpty then 0 else 1)<30))=true:=by rfl)
  (W:(apos.endLine==cpos.line)=true:=by rfl) (hs:dt (e::es) X.env=(dr,gd e X.env)::dt es X.env:=by rfl) (Z:(n_ cpos (dt es X.env)).any (·.1)=false:=by rfl):
  PE X (.Call (.Attribute o name apos) (e::es) [] cpos) (Hx X.K T r to t):=by
 intro pins s σ H Q I h;refine wpAny_Call_method_late Y S W rfl (di (N pins s σ H _ I h) fun v s1 ⟨x,H1,I1,r1,ty,q1⟩=>?_);obtain⟨G,J⟩:=C1 I1 r1 ty;refine⟨T,id,F,U,R,G,J,?_⟩;have P:=O cpos pins s1 σ H1 _ I1 q1;rw[hs]at P⊢;refine Calls.callWith_builtin (by show(dr||(n_ cpos (dt es X.env)).any (·.1))=dr;rw[Z]<;>rfl) (Calls.evalArgs_plain ?_)
 exact di P fun us s2 ⟨vs,H2,I2,r2,q2⟩=>L pins s2 σ H2 x vs v us Q I2 r1 r2 q2
end
end L2
namespace L2
open PySem PySem.Spec PyProof.Rows
def He(X:Cx)(id:String)(r:V->List V->Hp->VK->Prop):Prop:=
 ∀(pins:List (cq×Obj)) (s:c_) (σ:St) (H:Hp) (x:V) (xs:List V) (v:a_) (us:List a_) (Q:VK),Inv X pins σ H s->RelV x v->bb xs us->r x xs H Q->
  ed (eK X.prog X.w) X.A (call (.builtin id) (v::us)) (EP X pins σ Q) X.xe s
theorem bb.one:∀{x:V} {us:List a_},bb [x] us->∃u,us=[u]/\RelV x u
 |_,_,.cons r .nil=>⟨_,rfl,r⟩
theorem bb.eraseIdx:∀{xs:List V} {us:List a_} (i:Nat),bb xs us->bb (xs.eraseIdx i) (us.eraseIdx i)
 |_,_,_,.nil=>.nil
 |_,_,0,.cons _ t=>t
 |_,_,i+1,.cons r t=>.cons r (bb.eraseIdx i t)
theorem bb.rep{xs:List V}{us:List a_}(h:bb xs us):∀k:Nat,bb (dV k xs).flatten (dV k us).flatten
 |0=>.nil
 |k+1=>by
  rw[IB,IB,Jj,Jj];exact bb.append h (bb.rep h k)
theorem o6{α:Type}:∀(l:List α) (i:Nat),(l.eraseIdx i).length<=l.length
 |[],_=>HN _
 |_::_,0=>J9 _
 |_::r,i+1=>Km (o6 r i)
theorem foldl_rep(its:List a_):∀(k:Nat) (acc:List a_),
  LI (fun x1 x2=>x1++x2) acc.toArray (dV k its.toArray)=(acc++(dV k its).flatten).toArray
 |0,acc=>by simp
 | k+1,acc=>by
  have e:acc.toArray++its.toArray=(acc++its).toArray:=by simp
  have e2:(acc++its)++(dV k its).flatten=acc++(dV (k+1) its).flatten:=by
   rw[IB,Jj,Iy]
  rw[<-e2, <-foldl_rep its k (acc++its), <-e,IB,List.foldl_cons]
section
variable {X:Cx}{pins:List (cq×Obj)}{σ:St}{H:Hp}{s:c_}{l b:cq}{xs ys zs:List V}
theorem Inv.lset{its its':List a_}{f:Array a_->Array a_}(I:Inv X pins σ H s)(S:H l=ar (.lst xs))
  (e:s.heap.get? l=ar {cls:=.type "list",data:=.seq its.toArray n}) (Z:f its.toArray=its'.toArray) (U:bb ys its') (T:ys.length<=sizeLine):
  Inv X pins σ (upd H l (.lst ys)) {s with heap:=s.heap.update l (mh f),toks:=t'}:=by
 have q:=PySem.IsL.update e f;rw[Z]at q;refine I.write (x:=l) (e:=l) (by rw[S];exact trivial) (.inl rfl) (fun R u W Y=>(IJ s.heap (mh f) (i' W)).trans Y) ⟨_,q⟩ ?_
 exact⟨T,its',_,U,q⟩
theorem Inv.lnew(I:Inv X pins σ H s)(Z:bb ys its)(Y:ys.length<=sizeLine):
  Inv X pins σ (upd H s.heap.objs.size (.lst ys)) {s with heap:=s.heap.push {cls:=.type "list",data:=.seq its.toArray},toks:=t'}:=
 I.laid (fun _ _ q=>HM _ q) (HN _) ⟨Y,its,0,Z,Ia _ rfl⟩
theorem Inv.fresh(I:Inv X pins σ H s):H s.heap.objs.size=none:=I.hok.fresh (HN _)
theorem Inv.lstM(I:Inv X pins σ H s)(Z:H l=ar (.lst xs)):xs.length<=sizeLine/\∃(its:List a_) (n:Nat),bb xs its/\xs.length=its.length/\s.heap.get? l=ar {cls:=.type "list",data:=.seq its.toArray n}:=by
 obtain⟨z,its,n,r,e⟩:=I.hok l _ Z;exact⟨z,its,n,r,r.length,e⟩
theorem rE(h:n<=sizeLine):la n=false:=by
 unfold la;exact Ij (by omega)
end
section
variable {X:Cx}
def uR:V->List V->Hp->VK->Prop:=fun x vs H Q=>∃l xs y,x= .ref l/\vs=[y]/\H l=ar (.lst xs)/\xs.length<sizeLine/\Q .non (upd H l (.lst (xs++[y])))
theorem o7:He X "list.append" uR:=by
 intro pins s σ H x vs v us Q I U W h;obtain⟨l,xs,y,rfl,rfl,Z,T,q⟩:=h;cases U;obtain⟨u,rfl,Y⟩:=W.one;obtain⟨z,its,n,r,S,e⟩:=I.lstM Z;refine Lk F.slot_list_append ⟨_,e,rfl⟩ F.entry_list_append (F.args_list_append_2 _ _) (PySem.list_append l its.toArray n u (by rw[HW];omega)) ⟨e,?_⟩
 refine⟨.non,_,I.lset (its':=its++[u]) Z e (by simp) (r.append (.cons Y .nil)) ?_,rfl,q⟩
 rw[HP,List.length_singleton];omega
def xM:V->List V->Hp->VK->Prop:=fun x vs H Q=>∃l xs i k y,x= .ref l/\vs=[.int i]/\H l=ar (.lst xs)/\ -(2 ^ 63)<=i/\i<2 ^ 63/\Lr i xs.length=ar k/\xs[k]? =ar y/\Q y (upd H l (.lst (xs.eraseIdx k)))
theorem xN:He X "list.pop" xM:=by
 intro pins s σ H x vs v us Q I N P h;obtain⟨l,xs,i,k,y,rfl,rfl,Y,O,S,U,W,q⟩:=h;cases N;obtain⟨u,rfl,T⟩:=P.one;obtain⟨t,rfl⟩:=T;obtain⟨z,its,n,r,R,e⟩:=I.lstM Y;obtain⟨w,hw,Z⟩:=r.get W;refine Lk F.slot_list_pop ⟨_,e,rfl⟩ F.entry_list_pop (F.args_list_pop_2 _ _)
  (MeetsSeq.list_pop_at l its.toArray n i t k w (fitsIndex_both O S) (by rw[HW, <-R];exact U) (by rw[<-Jr];exact hw) (by rw[HW];omega)) ⟨e,?_⟩
 refine⟨y,_,I.lset (its':=its.eraseIdx k) Y e ?_ (r.eraseIdx k) ?_,Z,q⟩
 ·show its.toArray.eraseIdxIfInBounds k=(its.eraseIdx k).toArray;rw[List.eraseIdxIfInBounds_toArray]
 ·have:=o6 xs k;omega
def EY:R2:=fun x y H Q=>∃l k xs,x= .ref l/\y= .int k/\H l=ar (.lst xs)/\ -(2 ^ 63)<=k/\k<2 ^ 63/\xs.length*k.toNat<=sizeLine/\
 ∀p,H p=none->Q (.ref p) (upd H p (.lst (dV k.toNat xs).flatten))
theorem len_rep{α:Type}(xs:List α)(k:Nat):(dV k xs).flatten.length=k*xs.length:=by
 induction k with
 |zero=>simp
 |succ k ih=>rw[IB,Jj,HP,ih,Nat.succ_mul,Nat.add_comm]
theorem C3:gT X (m1 .Mult) EY:=by
 intro pins s σ H x y v u Q I N L h;obtain⟨l,k,xs,rfl,rfl,O,K,J,R,q⟩:=h;cases N;obtain⟨t,rfl⟩:=L;obtain⟨z,its,n,r,P,e⟩:=I.lstM O;have hlen:its.toArray.size*k.toNat<=sizeLine:=by rw[HW, <-P];exact R
 have S:¬ its.toArray.size*k.toNat>(2 ^ 63 - 1) / 8:=by
  have:(sizeLine:Nat)<=(2 ^ 63 - 1) / 8:=by decide
  omega
 have W:¬ (!Builtin.List.listFitsIndex k)=true:=by
  rw[fitsIndex_both K J];exact IT
 have Z:¬ la (its.toArray.size*k.toNat)=true:=by
  rw[rE hlen];exact IT
 have Y:LI (fun x1 x2=>x1++x2) #[] (dV (if its.toArray.isEmpty=b_ then 0 else k.toNat) its.toArray)=(dV k.toNat its).flatten.toArray:=by
  have f0:∀m:Nat,LI (fun x1 x2=>x1++x2) #[] (dV m its.toArray)=(dV m its).flatten.toArray:=fun m=>by
   have:=foldl_rep its m [];rw[Lf]at this;exact this
  rw[f0];cases its with
  |nil=>simp
  |cons a r'=>rw[if_neg (by simp)]
 refine wpAny_binaryOp_repeat_ref (T:="list") (U:="int") (by decide) ⟨_,e,rfl⟩ (fun s'=>LH s' k t) noFill_list_mul F.fills_int_mul F.slot_int_rmul repeat_list F.slot_int_index.lookup
  (Lk F.slot_int_rmul (LH s k t) F.entry_int_rmul (F.args_int_rmul_2 _ _) (int___rmul___int_list k t l its.toArray n)
   ⟨e,rfl,⟨_,e,rfl⟩,Lk F.slot_list_mul ⟨_,e,rfl⟩ F.entry_list_mul (F.args_list_mul_2 _ _) (AutoListH.list___mul___list_int_3 l its.toArray n k t W S Z) ⟨e,?_⟩⟩)
 rw[Y];exact⟨.ref _,_,I.lnew (t':=s.toks) (r.rep k.toNat) (by rw[len_rep,Nat.mul_comm];exact R),rfl,q _ I.fresh⟩
end
section
variable {prog:eb}{w:ee}{A:g_}{E:a_->c_->Prop}{s:c_}
end
section
variable {X:Cx}
end
end L2
namespace Att
open PySem PySem.W PySem.Calls PyProof.Rows
theorem mq:∀(ns:List Int) (vs:List a_),WellAll P h vs (ns.map WData.int)->kT vs ns:=by
 intro ns
 induction ns with
 |nil=>
  intro vs w;rw[Kh]at w;cases w;exact .nil
 | cons n ns ih=>
  intro vs w;rw[Iu]at w;cases w with
  |cons a b=>
   cases a;exact .cons _ _ (ih _ b)
theorem wj{l:Mj}(R:l.most=ar n)
  (Z:l.row.toRowW.claim.pre args=b_) (W:WellAll P h vals args):
  ∃a vs ns,vals=[e_ a]/\args=[WData.list (ns.map WData.int)]/\h.get? a=ar {cls:=.type "list",data:=.seq vs.toArray}/\kT vs ns/\ns.length<=n:=by
 have GX:WShape.hasAll [] args [.list .int]=true:=(pre_splitW Z).1;have U:l.pre.holds [] {args:=args}=true:=(pre_splitW Z).2;obtain⟨d,r,rfl,Q,T⟩:=hasAllW_cons GX;obtain rfl:=hasAllW_nil T;obtain⟨xs,rfl,O⟩:=hasW_list Q;obtain⟨ns,rfl⟩:=items_int O;have hlen:ns.length<=n:=by
  unfold OpenLaw.pre at U;have X:(WTm.not (.lt (.lit (.int (n:Int))) (.len (.arg 0)))).holds [] {args:=[.list (ns.map .int)]}=true:=by
   have X:=(holds_andW U).1;rw[R]at X;exact X
  have Y:=condW_of X (w_not (w_lt w_lit (w_len_list (w_arg rfl))));rw[HL]at Y;refine K7 fun q=>?_;have S:(n:Int)<((ns.length:Nat):Int):=by omega
  first
   |(rw[HU S]at Y;exact absurd Y (by decide))
   |(simp at Y;omega)
 cases W with
 |cons w1 w2=>
  cases w2;cases w1 with
  |list ho hall=>exact⟨_,_,ns,rfl,rfl,ho,mq ns _ hall,hlen⟩
theorem wk(l:Mj)(args:List WData):l.row.toRowW.claim.post args (.bool b_) args=true:=
 postW_of (r:=l.row.toRowW) (X:=(b_==b_))
  (show WShape.has [] (.bool b_) .bool=b_ by first|rfl|decide|simp[WShape.has,WShape.arms,WShape.armsAll])
  (show(WTm.eq .res (.lit (.bool b_))).value [] {args:=args,res:=ar (.bool b_),after:=args}=ar (.bool (b_==b_))from w_eq_bool (w_res rfl) w_lit) rfl
theorem attach_call{l:Mj}{YP:ee->fc->Prop}{d:Md}
  (I:l.most=ar n) (P:d.params.defaults=[])
  (U:∀(w:ee) (s₀ Z:c_) (S O:Str->Option a_) (X:cq) (o:Obj) (pm cd doc:a_) (a:cq) (vs:List a_) (ns:List Int),
   Ground q loose [] XP w s₀ S O Z.heap->YP w Z.heap->
   Z.heap.get? X=ar o->o.data= .func (docDef d.name d.params d.body d.scope pm cd doc)->Z.heap.CodeRec cd d.name->S d.name=ar (.ref X)->
   Z.heap.get? a=ar {cls:=.type "list",data:=.seq vs.toArray}->kT vs ns->ns.length<=n->Z.gens= #[]->
   y4 (eK l.prog w) rn (.call (.ref X) ⟨[.ref a],[]⟩) (fun r s'=>r= .ok (.ret (.bool b_))/\OldK Z.heap s'.heap/\s'.os=Z.os/\sh s'.gens) Z):
  WalkO q loose XP YP l.row.toRowW d [] (fun f vs=>PySem.call f vs):=by
 intro w s₀ Z S O G Y X o pm cd doc z kV B hd Q L R F args vals as T K y N J;obtain rfl:z= .none:=Dflts.none L P;obtain rfl:kV= .none:=Dflts.noKw L;obtain⟨a,vs,ns,rfl,rfl,W,hints,hlen⟩:=wj I T N;refine enter_call (Kf (U w s₀ Z S O X o pm cd doc a vs ns G Y B (fd_plain hd) Q R W hints hlen F) fun r s' C=>?_);obtain⟨rfl,A,H,E⟩:=C;exact⟨.inl ⟨.bool b_,.bool b_,[],rfl,fun _=>rfl,.bool b_,wk l _,fun _=>⟨List.Pairwise.nil,fun _ hm=>(nomatch hm)⟩⟩,A,H,E⟩
section
variable {prog:eb}{w:ee}{A:g_}{E:a_->c_->Prop}{s:c_}{K:Mn}
def ledger(h:fc)(L d:cq):List (cq×Obj):=(d_ h.objs.size).filterMap fun a=>if a=L\/a=d then none else (h.get? a).map fun o=>(a,o)
end
end Att
namespace L2
open PySem PySem.Spec PyProof.Rows
theorem jr:∀{vs:List a_} {ns:List Int},kT vs ns->bb (ns.map V.int) vs
 |_,_,.nil=>.nil
 |_,_,.cons n t h=>.cons ⟨t,rfl⟩ (jr h)
def C4(H:Hp):Prop:=∀b,H b=none\/∃o xs,H b=ar (.frz o (.lst xs))
theorem xO{K:dn}{A:Str->Option a_}{j:xk}{sp:Sp}{Z:c_}{vs:List a_}
  (l:K.In Z.heap) (J:Z.heap.Ns er mg) (X:Z.heap.Ns p_ A) (y:∀x:Str,x≠"__name__"->A x=i4 x) (Q:Z.heap.NoLimit) (hg:Z.gens= #[])
  (I:Z.heap.get? a=ar {cls:=.type "list",data:=.seq vs.toArray}) (f:kT vs ns) (t:ns.length<=sizeLine) (hr:Room k rn)
  (F:∀base:fc,K.In base->base.Ns er mg->FnOk P w K mg base j k fa fd [x] sp) (T:∀(s:c_) (u:a_),w_ s fd ⟨[u],[]⟩ [(x,u)])
  (E:∀H:Hp,C4 H->iS K H a (ns.map V.int)->sp [.ref a] H (fun v _=>v= .bl b_) fun _ _ _=>False)
  (C:∀H e s',j [] H Z (fun _ _ _=>False) e s'->False):
  y4 (eK P w) rn (.call (.ref fa) ⟨[.ref a],[]⟩) (fun r s'=>r= .ok (.ret (.bool b_))/\OldK Z.heap s'.heap/\s'.os=Z.os/\sh s'.gens) Z:=by
 have i:=jr f;have S:=f.length;have core:∀H:Hp,C4 H->iS K H a (ns.map V.int)->fK P w H Z.heap->(∀b,H b≠none->b=a)->(H a≠none->K.lookup a=none)->
   y4 (eK P w) rn (.call (.ref fa) ⟨[.ref a],[]⟩) (fun r s'=>r= .ok (.ret (.bool b_))/\OldK Z.heap s'.heap/\s'.os=Z.os/\sh s'.gens) Z:=by
  intro H p hS L g hK;have Y:∀{b:cq} {o:Obj},Z.heap.get? b=ar o->H b=none->(jB Z.heap H).get? b=ar o:=fun e n=>j5 e n;have G:∀{b:cq} {o:Obj} {es:Array DictEntry} {ep:Nat},Z.heap.get? b=ar o->o.data= .dict es ep->H b=none:=fun{b o es ep} e d=>by
   cases q:H b with
   |none=>rfl
   |some u=>
    have B:b=a:=g b (by rw[q];simp)
    subst B;rw[I]at e;cases e;have d':Data.seq vs.toArray _=Data.dict es ep:=d;cases d'
  have U:∀{b:cq} {m:Str->Option a_},Z.heap.Ns b m->(jB Z.heap H).Ns b m:=fun{b m} ⟨o,es,ep,e,d,r⟩=>⟨o,es,ep,Y e (G e d),d,r⟩;have R:K.In (jB Z.heap H):=fun b o e=>Y (l b o e) (by
   cases q:H b with
   |none=>rfl
   |some u=>
    have B:b=a:=g b (by rw[q];simp)
    subst B;rw[hK (by rw[q];simp)]at e;cases e)
  have c:Mod K mg (jB Z.heap H):=⟨R,U J,⟨A,U X,y⟩,let ⟨mc,h1,h2⟩:=Q;⟨mc,U h1,h2⟩⟩;have e0:aB P w K mg (jB Z.heap H) rn [] Z H:=⟨rfl,c,fun b o e=>pV e,JI (kY _ _),trivial,fun b X=>absurd (show b∈([]:List cq)from X) (by simp),L,.of_eq hg⟩
  refine Kf ((F _ R (U J)).run rn [] Z H ⟨[.ref a],[]⟩ [.ref a] [.ref a] _ _ hr e0 (T Z (.ref a)) (.cons rfl .nil) (E H p hS)) fun r s' h=>?_;cases r with
  |error e=>exact(C H e s' h).elim
  | ok fl=>
   cases fl with
   |next=>exact g8 h
   |brk=>exact g8 h
   |cont=>exact g8 h
   | ret u=>
    obtain⟨v,H',os,bare,un,O,r',q⟩:=h;have q':v= .bl true:=q;subst q';obtain rfl:u=l_ true:=r';refine⟨rfl,OldK.of_keep fun b o e=>?_,os,bare⟩;cases q:H b with
    |none=>exact un.keep b o e q (by intro z;exact absurd (show b∈([]:List cq)from z) (by simp)) (by simp)
    | some u=>
     rcases p b with z|⟨ob,xs,z⟩
     ·rw[q]at z;cases z
     ·have z2:=un.frzs b ob _ z;obtain⟨e1,_⟩:=L b _ z;obtain⟨e2,_⟩:=O b _ z2;rw[e]at e1;cases e1;exact e2
 cases hk:K.lookup a with
 |some o=>
  have e:=l a o hk;rw[I]at e;cases e;refine core (fun _=>none) (fun _=>.inl rfl) (.inr ⟨_,vs.toArray,_,hk,rfl,rfl,rfl,by rw[HW,S];exact t,by simpa using i⟩) (fun b u z=>by have N:(none:Option HO)=ar u:=z;cases N) (fun b z=>absurd rfl z) fun z=>absurd rfl z
 | none=>
  refine core (fun b=>if b=a then ar (.frz {cls:=.type "list",data:=.seq vs.toArray} (.lst (ns.map V.int)))else none) (fun b=>?_) (.inl (.inr ⟨{cls:=.type "list",data:=.seq vs.toArray},if_pos rfl⟩)) (fun b u z=>?_) (fun b z=>?_) fun _=>hk
  ·by_cases X:b=a
   ·exact .inr ⟨_,_,if_pos X⟩
   ·exact .inl (if_neg X)
  ·by_cases X:b=a
   ·have N:=(if_pos X).symm.trans z;cases N;subst X;exact⟨I,by rw[HL];exact t,vs,_,i,I⟩
   ·have N:=(if_neg X).symm.trans z;cases N
  ·by_cases X:b=a
   ·exact X
   ·exact absurd (if_neg X) z
end L2
namespace L2
open PySem PySem.Spec PyProof.Rows
abbrev HJ{K:dn}{h:fc}(_:K.In h):W.Frag:=K
theorem FX{l:LU}{YP:ee->fc->Prop}{d:Md}{K:A1->dn}{J:ee->xk}{sp:ee->Sp}
  (I:l.most=ar n) (N:n<=sizeLine) (O:d.params.defaults=[]) (r:Room k rn)
  (z:∀(w:ee) (h:fc),YP w h->(K w.params).In h)
  (F:∀(w:ee) (Z:Str->Option a_) (S:cq) (h:fc),(K w.params).In h->h.Ns er Z->Z d.name=ar (.ref S)->
   ∃fd:fb,(∀(s:c_) (u:a_),w_ s fd ⟨[u],[]⟩ [(x,u)])/\
    ∀base:fc,(K w.params).In base->base.Ns er Z->FnOk l.prog w (K w.params) Z base (J w) k S fd [x] (sp w))
  (Q:∀(w:ee) (H:Hp) (a:cq) (ns:List Int),ns.length<=n->C4 H->iS (K w.params) H a (ns.map V.int)->sp w [.ref a] H (fun v _=>v= .bl b_) fun _ _ _=>False)
  (P:∀(w:ee) (H:Hp) (s:c_) (e:a_) (s':c_),J w [] H s (fun _ _ _=>False) e s'->False):
  Ml q loose XP YP l.row.toRowW d [] (fun f vs=>PySem.call f vs):=by
 refine Att.attach_call I O fun w s₀ U Z m S o pm cd doc a vs ns G Y p hd B R X hints hlen A=>?_;have L:=z w _ Y;obtain⟨fd,C,y⟩:=F w Z S _ L G.T.g R;exact xO L G.T.g G.T.b G.T.builtins G.T.nolimit A X hints (HX hlen N) r y C (fun H E t=>Q w H a ns hlen E t) fun H e s'=>P w H U e s'
end L2
namespace L2
open PySem PySem.Spec PyProof.Rows
def gi(s:mu):Arguments:=match s with
 | .FunctionDef _ a _ _ _ _ _ _ _ _=>a
 |_=>{posonlyargs:=[],args:=[],vararg:=none,kwonlyargs:=[],kw_defaults:=[],kwarg:=none,defaults:=[]}
def dH(s:mu):List Stmt:=match s with
 | .FunctionDef _ _ b _ _ _ _ _ _ _=>b
 |_=>[]
def aw(s:mu):Scope:=match s with
 | .FunctionDef _ _ _ _ _ _ sc _ _ _=>sc
 |_=>{kind:=.function,names:=[],isGenerator:=dr,isCoroutine:=dr}
abbrev Hy:xk:=fun _ _ _ _ _ _=>False
abbrev E0:XK:=fun _ _ _=>False
structure Fun(K:dn)(x qual:Str)(st:mu)(f:cq)(fd:fb):Prop where
 ex:∃(oc:a_) (od:Option cq) (kV doc pm:a_) (an:Option cq) (cdv ct:a_) (osl:Array (Option a_)),
  fd=wd x qual (gi st) (dH st) (aw st) .none kV doc pm an cdv ct/\K.lookup f=ar ⟨oc,od,.func fd,osl⟩/\H_ K cdv qual=b_
 kp:u3 K (.ref f)=b_
section
variable {P:eb}{w:ee}{K:dn}{mg:Str->Option a_}{base:fc}
theorem Fun.binds{x qual:Str}{Y:mu}{f:cq}{U:fb}{X:List Str}(F:Fun K x qual Y f U)
  (h:∀(kV doc pm:a_) (an:Option cq) (Z ct:a_) (us:List a_),us.length=X.length->LD (wd x qual (gi Y) (dH Y) (aw Y) .none kV doc pm an Z ct) ⟨us,[]⟩=aC (X.zip us)):Binds K U X []:=by
 obtain⟨Q,od,kV,doc,pm,an,Z,ct,T,rfl,R,S⟩:=F.ex;exact .all (h kV doc pm an Z ct)
theorem C5{x qual:Str}{X:mu}{f:cq}{R:a_}{od S:Option cq}{U:Array (Option a_)}{kV Y T Z ct:a_}(l:K.lookup f=ar ⟨R,od,.func (wd x qual (gi X) (dH X) (aw X) .none kV Y T S Z ct),U⟩)
  (c:H_ K Z qual=b_) (k:u3 K (.ref f)=b_):Fun K x qual X f (wd x qual (gi X) (dH X) (aw X) .none kV Y T S Z ct):=⟨⟨R,od,kV,Y,T,S,Z,ct,U,rfl,l,c⟩,k⟩
end
section
variable {X:Cx}
end
end L2
end
namespace S3
open PySem PySem.W PyProof.Rows
def bh{α:Type}(b:Nat->Nat->Bool):Me α->α
 | .ret a=>a
 | .ask i j k=>bh b (k (b i j))
theorem fQ{α Z:Type}(b:Nat->Nat->Bool)(f:α->Me Z):∀t:Me α,bh b (t.bind f)=bh b (f (bh b t))
 | .ret _=>rfl
 | .ask i j k=>fQ b f (k (b i j))
section
variable (r:Nat->Nat)
abbrev dI:Nat->Nat->Bool:=fun i j=>decide (r i<r j)
def ka(p:Array Nat)(k:Nat):Nat:=r (p.getD k 0)
def xP(p:Array Nat)(n:Nat):Prop:=∀i j,i<=j->j<n->ka r p i<=ka r p j
def GQ(p:Array Nat)(n:Nat):Prop:=∀i j,i<=j->j<n->ka r p j<=ka r p i
variable {r}
theorem kd{p q:Array Nat}{i j:Nat}(h:p[i]? =q[j]?):p.getD i 0=q.getD j 0:=by
 rw[IY,IY,h]
theorem p9{p:Array Nat}{i j:Nat}(Z:j<=p.size)(k:Nat):ka r (pa p i j) k=if i<=k/\k<j then ka r p (i+j - 1 - k)else ka r p k:=by
 have h:=getElem?_mirror_all (i:=i) Z k;unfold ka pa;by_cases c:i<=k/\k<j
 ·rw[if_pos c]at h⊢;rw[kd h]
 ·rw[if_neg c]at h⊢;rw[kd h]
theorem o8{p:Array Nat}{Z d:Nat}(hs:Z<p.size)(Y:d<=Z)(k:Nat):ka r (Mf p Z d) k=if k=Z - d then ka r p Z else if Z - d<k/\k<=Z then ka r p (k - 1)else ka r p k:=by
 have h:=getElem?_bubble hs d Y k;unfold ka;by_cases c:k=Z - d
 ·rw[if_pos c]at h⊢;rw[kd h]
 ·rw[if_neg c]at h⊢;by_cases c2:Z - d<k/\k<=Z
  ·rw[if_pos c2]at h⊢;rw[kd h]
  ·rw[if_neg c2]at h⊢;rw[kd h]
theorem m3:(pa p i j).size=p.size:=mirror_size _ _ _ _
theorem eu:(pa p i j).Perm p:=mirror_perm _ _ _ _
theorem qb:∀(f n:Nat),1<=n->xP r p n->n<=bh (dI r) (n3 p f n)/\bh (dI r) (n3 p f n)<=n+f/\xP r p (bh (dI r) (n3 p f n))
 |0,n,h1,h=>⟨HN _,HN _,h⟩
 | f +1,n,h1,h=>by
  show n<=bh (dI r) (if (dI r) (p.getD n 0) (p.getD (n - 1) 0)=b_ then J' n else n3 p f (n+1))/\bh (dI r) (if (dI r) (p.getD n 0) (p.getD (n - 1) 0)=b_ then J' n else n3 p f (n+1))<=n+(f+1)/\xP r p (bh (dI r) (if (dI r) (p.getD n 0) (p.getD (n - 1) 0)=b_ then J' n else n3 p f (n+1)));by_cases c:(dI r) (p.getD n 0) (p.getD (n - 1) 0)=b_
  ·rw[if_pos c];exact⟨HN _,by show n<=n+(f+1);omega,h⟩
  ·rw[if_neg c];have Y:ka r p (n - 1)<=ka r p n:=by
    exact K7 fun z=>c (HU z)
   obtain⟨a1,a2,X⟩:=qb f (n+1) (by omega) (fun i j Z W=>by
    by_cases e:j=n
    ·subst e;by_cases e2:i=j
     ·subst e2;exact HN _
     ·exact HX (h i (j - 1) (by omega) (by omega)) Y
    ·exact h i j Z (by omega))
   exact⟨by omega,by omega,X⟩
structure Down(r:Nat->Nat)(p:Array Nat)(n q:Nat):Prop where
 dsc:GQ r p n
 q1:q+1<=n
 eqs:∀k,n - (q+1)<=k->k<n->ka r p k=ka r p (n - 1)
theorem m4{p:Array Nat}(Z:n<=p.size)(h:Down r p n q):∀k,ka r (pa p (n - (q+1)) n) k=ka r p k:=fun k=>by
 rw[p9 Z];split
 ·next c=>rw[h.eqs k c.1 c.2,h.eqs _ (by omega) (by omega)]
 ·rfl
theorem ke:∀(f:Nat) (p:Array Nat) (n q:Nat),n+f<=p.size->Down r p n q->
  Down r (bh (dI r) (oo f p n q)).1 (bh (dI r) (oo f p n q)).2.1 (bh (dI r) (oo f p n q)).2.2/\(bh (dI r) (oo f p n q)).1.Perm p/\n<=(bh (dI r) (oo f p n q)).2.1/\(bh (dI r) (oo f p n q)).2.1<=n+f
 |0,p,n,q,hs,h=>⟨h,JX _,HN _,HN _⟩
 | f +1,p,n,q,hs,h=>by
  have e:bh (dI r) (oo (f+1) p n q)=if ka r p n<ka r p (n - 1)then (if q>0 then bh (dI r) (oo f (pa p (n - (q+1)) n) (n+1) 0)else bh (dI r) (oo f p (n+1) 0))
    else if ka r p (n - 1)<ka r p n then (p,n,q)else bh (dI r) (oo f p (n+1) (q+1)):=by
   show bh (dI r) (if (dI r) (p.getD n 0) (p.getD (n - 1) 0)=b_ then _ else _)=_;unfold ka;by_cases c:r (p.getD n 0)<r (p.getD (n - 1) 0)
   ·rw[if_pos (by simpa using c),if_pos c]
    split<;>rfl
   ·rw[if_neg (by simpa using c),if_neg c]
    show bh (dI r) (if (dI r) (p.getD (n - 1) 0) (p.getD n 0)=b_ then _ else _)=_;by_cases c2:r (p.getD (n - 1) 0)<r (p.getD n 0)
    ·rw[if_pos (by simpa using c2),if_pos c2];rfl
    ·rw[if_neg (by simpa using c2),if_neg c2]
  have S:=h.q1;have ext:∀{p':Array Nat} {q':Nat},(∀k,ka r p' k=ka r p k)->ka r p n<=ka r p (n - 1)->(q'=0\/(q'=q+1/\ka r p n=ka r p (n - 1)))->Down r p' (n+1) q':=fun{p' q'} hk hle hq=>by
   refine⟨fun i j Z W=>?_,by omega,fun k U T=>?_⟩
   ·rw[hk,hk];by_cases ej:j=n
    ·subst ej;by_cases e2:i=j
     ·subst e2;exact HN _
     ·exact HX hle (h.dsc i (j - 1) (by omega) (by omega))
    ·exact h.dsc i j Z (by omega)
   ·rw[hk,hk,show n+1 - 1=n by omega]
    rcases hq with rfl|⟨rfl,he⟩
    ·have:k=n:=by omega
     subst this;rfl
    ·by_cases ek:k=n
     ·subst ek;rfl
     ·rw[he];exact h.eqs k (by omega) (by omega)
  rw[e];by_cases c:ka r p n<ka r p (n - 1)
  ·rw[if_pos c];by_cases hq:q>0
   ·rw[if_pos hq];obtain⟨a1,a2,Y,X⟩:=ke f (pa p (n - (q+1)) n) (n+1) 0 (by rw[m3];omega) (ext (m4 (by omega) h) (by omega) (.inl rfl))
    exact⟨a1,a2.trans eu,by omega,by omega⟩
   ·rw[if_neg hq];obtain⟨a1,a2,Y,X⟩:=ke f p (n+1) 0 (by omega) (ext (fun _=>rfl) (by omega) (.inl rfl))
    exact⟨a1,a2,by omega,by omega⟩
  ·rw[if_neg c];by_cases c2:ka r p (n - 1)<ka r p n
   ·rw[if_pos c2];exact⟨h,JX _,HN _,by show n<=n+(f+1);omega⟩
   ·rw[if_neg c2];obtain⟨a1,a2,Y,X⟩:=ke f p (n+1) (q+1) (by omega) (ext (fun _=>rfl) (by omega) (.inr ⟨rfl,by omega⟩))
    exact⟨a1,a2,by omega,by omega⟩
structure Got(r:Nat->Nat)(nrem:Nat)(p:Array Nat)(g:Nat×Array Nat):Prop where
 asc:xP r g.2 g.1
 le:g.1<=nrem
 pos:1<=g.1
 perm:g.2.Perm p
theorem o9{p:Array Nat}(Z:1<=n)(T:n<=nrem)(hs:nrem<=p.size)(h:GQ r p n):Got r nrem p (bh (dI r) (LV n nrem p)):=by
 unfold LV;rw[fQ];have Y:xP r (pa p 0 n) n:=fun i j X U=>by
  rw[p9 (by omega),p9 (by omega),if_pos ⟨by omega,by omega⟩,if_pos ⟨by omega,by omega⟩]
  exact h _ _ (by omega) (by omega)
 obtain⟨a1,a2,W⟩:=qb (p:=pa p 0 n) (nrem - n) n Z Y;exact⟨W,by show bh (dI r) (n3 (pa p 0 n) (nrem - n) n)<=nrem;omega,by show 1<=bh (dI r) (n3 (pa p 0 n) (nrem - n) n);omega,eu⟩
theorem kf{p:Array Nat}(Q:n<nrem)(hs:nrem<=p.size)(h:Down r p (n+1) 0):Got r nrem p (bh (dI r) (K_ n nrem p)):=by
 unfold K_;rw[fQ];obtain⟨a1,a2,T,S⟩:=ke (nrem - (n+1)) p (n+1) 0 (by omega) h
 generalize bh (dI r) (oo (nrem - (n+1)) p (n+1) 0)=d at a1 a2 T S;obtain⟨X,Z,W⟩:=d;dsimp only at a1 a2 T S;have Y:X.size=p.size:=a2.size_eq;by_cases hq:W>0
 ·show Got r nrem p (bh (dI r) (if W>0 then _ else _));rw[if_pos hq];have hd:GQ r (pa X (Z - (W+1)) Z) Z:=fun i j U R=>by
   rw[m4 (show Z<=X.size by omega) a1,m4 (show Z<=X.size by omega) a1]
   exact a1.dsc i j U R
  have:=o9 (n:=Z) (nrem:=nrem) (by omega) (by omega) (by rw[m3,Y];exact hs) hd
  exact⟨this.asc,this.le,this.pos,(this.perm.trans eu).trans a2⟩
 ·show Got r nrem p (bh (dI r) (if W>0 then _ else _));rw[if_neg hq];have:=o9 (n:=Z) (nrem:=nrem) (by omega) (by omega) (by rw[Y];exact hs) a1.dsc
  exact⟨this.asc,this.le,this.pos,this.perm.trans a2⟩
theorem wm{p:Array Nat}(N:2<=nrem)(hs:nrem<=p.size):Got r nrem p (bh (dI r) (Lv nrem p)):=by
 unfold Lv;rw[fQ];obtain⟨a1,a2,X⟩:=qb (r:=r) (p:=p) (nrem - 1) 1 (HN _) (fun i j Y U=>by
  have:i=j:=by omega
  subst this;exact HN _)
 have stop:∀(f n:Nat),1<=n->bh (dI r) (n3 p f n)<n+f->ka r p (bh (dI r) (n3 p f n))<ka r p (bh (dI r) (n3 p f n) - 1):=by
  intro f
  induction f with
  |zero=>intro n _ h;exact absurd h (Jg _)
  | succ f ih=>
   intro n W h;have e:bh (dI r) (n3 p (f+1) n)=if ka r p n<ka r p (n - 1)then n else bh (dI r) (n3 p f (n+1)):=by
    show bh (dI r) (if (dI r) (p.getD n 0) (p.getD (n - 1) 0)=b_ then _ else _)=_;unfold ka;by_cases c:r (p.getD n 0)<r (p.getD (n - 1) 0)
    ·rw[if_pos (HU c),if_pos c];rfl
    ·rw[if_neg (fun z=>c (ID z)),if_neg c]
   rw[e]at h⊢;by_cases c:ka r p n<ka r p (n - 1)
   ·rw[if_pos c];exact c
   ·rw[if_neg c]at h⊢;exact ih (n+1) (by omega) (by omega)
 have Z:=stop (nrem - 1) 1 (HN _);generalize bh (dI r) (n3 p (nrem - 1) 1)=n at a1 a2 X Z;by_cases hn:n=nrem
 ·show Got r nrem p (bh (dI r) (if (n==nrem)=b_ then _ else _));rw[if_pos (by simp[hn])]
  exact⟨X,by show n<=nrem;omega,a1,JX _⟩
 ·show Got r nrem p (bh (dI r) (if (n==nrem)=b_ then _ else _));rw[if_neg (by simp[hn])]
  have P:=Z (by omega)
  by_cases W:n>1
  ·rw [if_pos W];show Got r nrem p (bh (dI r) (if (dI r) (p.getD 0 0) (p.getD (n - 1) 0)=b_ then _ else _));by_cases c:r (p.getD 0 0)<r (p.getD (n - 1) 0)
   ·rw[if_pos (HU c)];exact⟨X,by show n<=nrem;omega,a1,JX _⟩
   ·rw [if_neg (fun z=>c (ID z))];have all:∀k,k<n->ka r p k=ka r p (n - 1):=fun k Q=>by
     have T:=X 0 k (by omega) Q
     have R:=X k (n - 1) (by omega) (by omega)
     have O:ka r p (n - 1)<=ka r p 0:=K7 c;omega
    have S:∀k,ka r (pa p 0 n) k=ka r p k:=fun k=>by
     rw[p9 (by omega)]
     split
     ·next h=>rw[all k h.2,all _ (by omega)]
     ·rfl
    have:=kf (r:=r) (n:=n) (nrem:=nrem) (p:=pa p 0 n) (by omega) (by rw[m3];exact hs) ⟨fun i j Y U=>by
      rw[S,S];by_cases ej:j=n
      ·subst ej;by_cases ei:i=j
       ·subst ei;exact HN _
       ·rw[all i (by omega)];omega
      ·rw[all i (by omega),all j (by omega)];exact HN _,by omega,fun k T R=>by rw[show k=n+1 - 1 by omega]⟩
    exact⟨this.asc,this.le,this.pos,this.perm.trans eu⟩
  ·rw [if_neg W];have e1:n=1:=by omega
   subst e1;exact kf (by omega) hs ⟨fun i j Y U=>by
     by_cases ej:j=1
     ·subst ej;by_cases ei:i=1
      ·subst ei;exact HN _
      ·rw[show i=1 - 1 by omega];omega
     ·rw[show i=j by omega];exact HN _,by omega,fun k T R=>by rw[show k=1+1 - 1 by omega]⟩
theorem lh(Z:xP r p k):∀(f l m:Nat),m - l<=f->l<=m->m<=k->(∀i,i<l->ka r p i<=ka r p k)->(∀i,m<=i->i<k->ka r p k<=ka r p i)->
  bh (dI r) (m_ p k f l m)<=k/\(∀i,i<bh (dI r) (m_ p k f l m)->ka r p i<=ka r p k)/\∀i,bh (dI r) (m_ p k f l m)<=i->i<k->ka r p k<=ka r p i
 |0,l,m,hf,hl,hm,h1,h2=>by
  have:l=m:=by omega
  subst this;exact⟨by show l<=k;omega,h1,h2⟩
 | f+1,l,m,hf,hl,hm,h1,h2=>by
  by_cases c:l ≥ m
  ·have e:bh (dI r) (m_ p k (f+1) l m)=l:=by
    show bh (dI r) (if l ≥ m then _ else _)=l;rw[if_pos c];rfl
   rw[e];have:l=m:=by omega
   subst this;exact⟨by omega,h1,h2⟩
  ·have e:bh (dI r) (m_ p k (f+1) l m)=if ka r p k<ka r p ((l+m) / 2)then bh (dI r) (m_ p k f l ((l+m) / 2))else bh (dI r) (m_ p k f ((l+m) / 2+1) m):=by
    show bh (dI r) (if l ≥ m then _ else _)=_;rw[if_neg c];show bh (dI r) (if (dI r) (p.getD k 0) (p.getD ((l+m) / 2) 0)=b_ then _ else _)=_;unfold ka;by_cases d:r (p.getD k 0)<r (p.getD ((l+m) / 2) 0)
    ·rw[if_pos (HU d),if_pos d]
    ·rw[if_neg (fun z=>d (ID z)),if_neg d]
   rw[e];by_cases d:ka r p k<ka r p ((l+m) / 2)
   ·rw[if_pos d];exact lh Z f l ((l+m) / 2) (by omega) (by omega) (by omega) h1 fun i Y X=>HX (Jy d) (Z _ i Y X)
   ·rw[if_neg d];exact lh Z f ((l+m) / 2+1) m (by omega) (by omega) hm (fun i Y=>HX (Z i ((l+m) / 2) (by omega) (by omega)) (by omega)) h2
theorem uS:∀(f:Nat) (p:Array Nat) (k:Nat),k+f<=p.size->xP r p k->xP r (bh (dI r) (E1 f p k)) (k+f)/\(bh (dI r) (E1 f p k)).Perm p
 |0,p,k,hs,h=>⟨h,JX _⟩
 | f +1,p,k,hs,h=>by
  have e:bh (dI r) (E1 (f+1) p k)=bh (dI r) (E1 f (Mf p k (k - bh (dI r) (m_ p k k 0 k))) (k+1)):=by
   show bh (dI r) ((m_ p k k 0 k).bind _)=_;rw[fQ]
  rw[e];obtain⟨R,X,U⟩:=lh (r:=r) h k 0 k (by omega) (by omega) (HN _) (fun i W=>absurd W (Nat.not_lt_zero _)) (fun i W Q=>absurd Q (by omega))
  generalize bh (dI r) (m_ p k k 0 k)=l at R X U;have S:xP r (Mf p k (k - l)) (k+1):=fun i j Y O=>by
   rw[o8 (by omega) (by omega),o8 (by omega) (by omega)]
   have Z:k - (k - l)=l:=by omega
   rw[Z];by_cases ei:i=l
   ·rw[if_pos ei];by_cases ej:j=l
    ·rw[if_pos ej];exact HN _
    ·rw[if_neg ej,if_pos ⟨by omega,by omega⟩];exact U (j - 1) (by omega) (by omega)
   ·rw[if_neg ei];by_cases ci:l<i/\i<=k
    ·rw[if_pos ci,if_neg (by omega),if_pos ⟨by omega,by omega⟩];exact h _ _ (by omega) (by omega)
    ·rw[if_neg ci];by_cases ej:j=l
     ·rw[if_pos ej];exact X i (by omega)
     ·rw[if_neg ej];by_cases cj:l<j/\j<=k
      ·rw[if_pos cj];exact h _ _ (by omega) (by omega)
      ·rw[if_neg cj];exact h _ _ Y (by omega)
  obtain⟨P,T⟩:=uS f (Mf p k (k - l)) (k+1) (by rw[bubble_size];omega) S
  refine⟨?_,T.trans (bubble_perm _ _ _)⟩;rw[show k+(f+1)=k+1+f by omega];exact P
theorem xQ(W:2<=n):xP r (bh (dI r) (p4 n)) n/\(bh (dI r) (p4 n)).Perm (vr (d_ n)):=by
 unfold p4;rw[fQ];have G:=wm (r:=r) (nrem:=n) (p:=vr (d_ n)) W (by simp)
 generalize bh (dI r) (Lv n (vr (d_ n)))=g at G;obtain⟨m,p⟩:=g;have U:p.size=n:=by rw[G.perm.size_eq];simp
 have hle:m<=n:=G.le;have Z:1<=m:=G.pos;show xP r (bh (dI r) (if m<n then E1 (n - max m 1) p (max m 1)else J' p)) n/\Array.Perm (bh (dI r) (if m<n then E1 (n - max m 1) p (max m 1)else J' p)) (vr (d_ n));by_cases c:m<n
 ·rw[if_pos c];have em:max m 1=m:=by omega
  rw[em];obtain⟨Y,X⟩:=uS (r:=r) (n - m) p m (by omega) G.asc
  refine⟨?_,X.trans G.perm⟩;rw[show m+(n - m)=n by omega]at Y;exact Y
 ·rw[if_neg c];have em:m=n:=by omega
  subst em;exact⟨G.asc,G.perm⟩
end
def tG(n:Nat){α:Type}(R:α->Prop):Me α->Prop
 | .ret a=>R a
 | .ask i j k=>i<n/\j<n/\∀b,tG n R (k b)
theorem gU{n:Nat}{α Z:Type}{R:α->Prop}{Y:Z->Prop}{f:α->Me Z}:∀{t:Me α},tG n R t->(∀a,R a->tG n Y (f a))->tG n Y (t.bind f)
 | .ret a,h,k=>k a h
 | .ask i j g,h,k=>⟨h.1,h.2.1,fun b=>gU (h.2.2 b) k⟩
theorem xR{n:Nat}{α:Type}{R:α->Prop}{Z:Nat->Nat->(Bool->c_->Prop)->c_->Prop}{b:Nat->Nat->Bool}{s:c_}{Q:α->c_->Prop}(h:∀i j C,i<n->j<n->C (b i j) s->Z i j C s):
  ∀{t:Me α},tG n R t->Q (bh b t) s->t.kasWp Z Q s
 | .ret a,_,q=>q
 | .ask i j k,o,q=>h i j _ o.1 o.2.1 (xR h (o.2.2 (b i j)) q)
theorem m5{n:Nat}{α:Type}{R:α->Prop}{b Z:Nat->Nat->Bool}(h:∀i j,i<n->j<n->b i j=Z i j):∀{t:Me α},tG n R t->bh b t=bh Z t
 | .ret a,_=>rfl
 | .ask i j k,o=>by
  show bh b (k (b i j))=bh Z (k (Z i j));rw[h i j o.1 o.2.1];exact m5 h (o.2.2 _)
def In(n:Nat)(p:Array Nat):Prop:=0<n/\∀x∈p.toList,x<n
theorem In.get(h:In n p)(k:Nat):p.getD k 0<n:=by
 rw[IY];cases e:p[k]? with
 |none=>exact h.1
 |some x=>exact h.2 x (by rw[<-Jr]at e;exact IC e)
theorem In.perm{q:Array Nat}(h:In n p)(e:q.Perm p):In n q:=⟨h.1,fun x Z=>h.2 x ((Array.Perm.toList e).mem_iff.mp Z)⟩
theorem qc(h:In n p):∀(f m:Nat),tG n (fun _=>True) (n3 p f m)
 |0,m=>trivial
 | f+1,m=>⟨h.get _,h.get _,fun b=>by
   cases b with
   |true=>exact trivial
   |false=>exact qc h f (m+1)⟩
theorem kg:∀(f:Nat) (p:Array Nat) (m q:Nat),In n p->tG n (fun r=>In n r.1) (oo f p m q)
 |0,p,m,q,h=>h
 | f+1,p,m,q,h=>⟨h.get _,h.get _,fun b=>by
   cases b with
   |true=>
    show tG n _ (if q>0 then _ else _);split
    ·exact kg f _ _ _ (h.perm eu)
    ·exact kg f _ _ _ h
   |false=>
    refine⟨h.get _,h.get _,fun b=>?_⟩;cases b with
    |true=>exact h
    |false=>exact kg f _ _ _ h⟩
theorem pd(h:In n p):tG n (fun r:Nat×Array Nat=>In n r.2) (LV m nrem p):=
 gU (qc (h.perm eu) _ _) fun _ _=>h.perm eu
theorem kh(h:In n p):tG n (fun r:Nat×Array Nat=>In n r.2) (K_ m nrem p):=
 gU (kg _ _ _ _ h) fun a Z=>by
  split
  ·exact pd (Z.perm eu)
  ·exact pd Z
theorem wo(h:In n p):tG n (fun r:Nat×Array Nat=>In n r.2) (Lv nrem p):=
 gU (qc h _ _) fun a _=>by
  split
  ·exact h
  ·split
   ·refine⟨h.get _,h.get _,fun b=>?_⟩;cases b with
    |true=>exact h
    |false=>exact kh (h.perm eu)
   ·exact kh h
theorem lj(h:In n p):∀(f l m:Nat),tG n (fun _=>True) (m_ p k f l m)
 |0,l,m=>trivial
 | f+1,l,m=>by
  show tG n _ (if l ≥ m then _ else _);split
  ·exact trivial
  ·refine⟨h.get _,h.get _,fun b=>?_⟩;cases b with
   |true=>exact lj h f _ _
   |false=>exact lj h f _ _
theorem uT:∀(f:Nat) (p:Array Nat) (k:Nat),In n p->tG n (In n) (E1 f p k)
 |0,p,k,h=>h
 |f+1,p,k,h=>gU (lj h _ _ _) fun l _=>uT f _ _ (h.perm (bubble_perm _ _ _))
theorem rF(Y:0<n):tG n (In n) (p4 n):=
 gU (wo ⟨Y,fun x X=>by simpa using X⟩) fun a Z=>by
  split
  ·exact uT _ _ _ Z
  ·exact Z
theorem iT{α:Type}{p q:α->Bool}:∀{l:List α} {x:α},(∀y∈l,p y=b_->q y=b_)->x∈l->p x=dr->q x=b_->l.countP p<l.countP q
 | y::l,x,h,hx,hp,hq=>by
  have W:l.countP p<=l.countP q:=Ki fun z Z=>h z (HY _ Z);rw[JO,JO];rcases Ig.mp hx with e|hx'
  ·subst e;rw[hp,hq];simp;omega
  ·have X:=iT (fun z Z=>h z (HY _ Z)) hx' hp hq;have Y:=h y Im;cases e1:p y with
   |true=>rw[Y e1];simp;omega
   |false=>simp;split<;>omega
theorem AC{b:Nat->Nat->Bool}(O:2<=n)(S:∀i,i<n->b i i=dr)(N:∀i j k,i<n->j<n->k<n->b i j=b_->b j k=b_->b i k=b_)(T:∀i j k,i<n->j<n->k<n->b i k=b_->b i j=b_\/b j k=b_):
  (bh b (p4 n)).Perm (vr (d_ n))/\∀i j,i<=j->j<n->b ((bh b (p4 n)).getD j 0) ((bh b (p4 n)).getD i 0)=false:=by
 let r:Nat->Nat:=fun i=>(d_ n).countP fun j=>b j i;have R:∀i j,i<n->j<n->b i j=decide (r i<r j):=fun i j X Y=>by
  cases e:b i j with
  |true=>
   refine(HU ?_).symm;exact iT (x:=i) (fun y W h=>N y i j (IA.mp W) X Y h e) (IA.mpr X) (S i X) e
  |false=>
   refine(Ij (Ls.mpr ?_)).symm;refine Ki fun y W h=>?_;rcases T y i j (IA.mp W) X Y h with z|z
   ·exact z
   ·rw[e]at z;cases z
 have Q:bh b (p4 n)=bh (dI r) (p4 n):=m5 R (rF (by omega))
 obtain⟨a1,a2⟩:=xQ (r:=r) O;rw[Q];refine⟨a2,fun i j U Y=>?_⟩;have Z:In n (bh (dI r) (p4 n)):=In.perm ⟨by omega,fun x P=>by simpa using P⟩ a2
 rw[R _ _ (Z.get j) (Z.get i)];exact Ij (Ls.mpr (a1 i j U Y))
end S3
namespace S3
open PySem PySem.Spec PySem.W PyProof.Rows L2
section
variable {prog:eb}{w:ee}{A:g_}{E:a_->c_->Prop}{s:c_}{Q:Bool->c_->Prop}
theorem rG:∀{us ws:List a_} {ns ms:List Int} (i:Nat),(b=b_\/0<i\/True)->kT us ns->kT ws ms->Q (HT.lexLt ns ms) s->
  KatLex prog w A b (decide (us.length<ws.length)) Q (us.zip ws) i s\/us.length≠ws.length
 |[],[],ns,ms,i,_,h1,h2,q=>by
  cases h1;cases h2;exact .inl q
 |[],_::_,_,_,_,_,_,_,_=>.inr (by simp)
 |_::_,[],_,_,_,_,_,_,_=>.inr (by simp)
 | u ::us,v::ws,ns,ms,i,hb,h1,h2,q=>by
  cases h1 with
  |cons n t h1=>
  cases h2 with
  | cons k t' h2=>
   rw[HT.lexLt_cons]at q;by_cases e:n=k
   ·rw[if_pos e]at q;rcases rG (b:=b) (i+1) (.inr (.inr trivial)) h1 h2 q with z|z
    ·refine .inl (kat_cons (K4 ?_));have:(n==k)=true:=by simp[e]
     rw[this];refine kat_yes ?_;show KatLex prog w A b (decide (us.length+1<ws.length+1)) Q (us.zip ws) (i+1) s;rw[show decide (us.length+1<ws.length+1)=decide (us.length<ws.length) by simp]
     exact z
    ·exact .inr (by simpa using z)
   ·rw[if_neg e]at q;refine .inl (kat_cons (K4 ?_));have:(n==k)=false:=by simp[e]
    rw[this];refine kat_no ?_;cases hbi:(b && i==0)with
    |true=>exact oneLt_int q
    |false=>exact kat_one _ _ (lt_int q)
end
structure Tups(h:fc)(vs:List a_)(nss:List (List Int))(c:Nat):Prop where
 len:vs.length=nss.length
 get:∀(i:Nat),i<vs.length->∃a o us n,vs.getD i hh= .ref a/\h.get? a=ar o/\o.cls= .type "tuple"/\o.data= .seq us n/\kT us.toList (nss.getD i [])/\us.size=c+1
theorem Tups.keep{h':fc}(t:Tups h vs nss c)(k:∀i a o,i<vs.length->vs.getD i hh= .ref a->h.get? a=ar o->h'.get? a=ar o):Tups h' vs nss c:=
 ⟨t.len,fun i Z=>let ⟨a,o,us,n,e1,e2,r⟩:=t.get i Z;⟨a,o,us,n,e1,k i a o Z e1 e2,r⟩⟩
theorem Tups.ask{s:c_}(t:Tups s.heap vs nss c){C:Bool->c_->Prop}(S:i<vs.length)(Y:j<vs.length)
  (q:C (HT.lexLt (nss.getD i []) (nss.getD j [])) s):kas_ask prog w A (tuples' b) vs i j C s:=by
 obtain⟨a,o,us,n,e1,e2,L,W,T,Q⟩:=t.get i S;obtain⟨O,P,Z,K,f1,f2,N,f4,U,R⟩:=t.get j Y;unfold kas_ask;rw[e1,f1];refine kat_lt e2 W f2 f4 ?_;have X:us.toList.length=Z.toList.length:=by simp[Q,R]
 rcases rG (prog:=prog) (w:=w) (A:=A) (b:=b) 0 (.inr (.inr trivial)) T U q with z|z
 ·simpa using z
 ·exact absurd X z
end S3
namespace S3
open PySem PySem.Spec PyProof.Rows L2
abbrev St:=L2.St
def iU(cells:List (Str×cq)):List (Str×j2)->List (Str×cq)->List (Str×cq)
 |[],cs=>cs
 |(n,k)::r,cs=>iU cells r (if k== .free then (n,(cells.lookup n).getD 0)::cs else cs)
theorem ki(scope:Scope)(env:Env)(h:∀y∈scope.names,y.2= .free->∃c,env.cells.lookup y.1=ar c):LJ scope env=aC (iU env.cells scope.names []):=by
 have go:∀(names:List (Str×j2)) (cs:List (Str×cq)),(∀y∈names,y.2= .free->∃c,env.cells.lookup y.1=ar c)->
   (forIn names cs (fun(x:Str×j2) (r:List (Str×cq))=>(if (x.2==gc)=b_ then do let a<-cellOf env x.1;aC (u5 ((x.1,a)::r))else aC (u5 r):Sem (ForInStep (List (Str×cq))))):Sem (List (Str×cq)))=aC (iU env.cells names cs):=by
  intro names
  induction names with
  |nil=>intro cs _;rfl
  | cons y r ih=>
   intro cs W;obtain⟨n,k⟩:=y;have X:∀y∈r,y.2= .free->∃c,env.cells.lookup y.1=ar c:=fun y hm=>W y (HY _ hm);rw[z7];by_cases hk:(k==gc)=b_
   ·have Y:k= .free:=by simpa using hk
    obtain⟨c,U⟩:=W (n,k) Im Y;have e:cellOf env n=aC c:=by unfold cellOf;rw[U]
    simp only[hk,if_true,e,pure_bind];rw[ih _ X];simp only[iU,hk,if_true,U,Option.getD_some]
   ·have Z:(k==gc)=false:=by simpa using hk
    simp only[Z,iA,if_false,pure_bind];rw[ih _ X];simp only[iU,Z,iA,if_false]
 have:=go scope.names [] h;unfold LJ;simp only[bind_pure]at*;exact this
theorem qd{cells:List (Str×cq)}:∀(names:List (Str×j2)) (cs:List (Str×cq)),(∀y∈names,y.2= .free->∃c,cells.lookup y.1=ar c)->(∀p∈cs,cells.lookup p.1=ar p.2)->
  ∀p∈iU cells names cs,cells.lookup p.1=ar p.2
 |[],cs,_,h=>h
 | (n,k)::r,cs,hy,h=>by
  refine qd r _ (fun y hm=>hy y (HY _ hm)) fun p Z=>?_;by_cases hk:(k==gc)=b_
  ·rw[if_pos hk]at Z;rcases Ig.mp Z with rfl|Z
   ·obtain⟨c,X⟩:=hy (n,k) Im (by simpa using hk)
    show cells.lookup n=ar ((cells.lookup n).getD 0);have Y:cells.lookup n=ar c:=X;rw[Y];rfl
   ·exact h p Z
  ·rw[if_neg hk]at Z;exact h p Z
theorem iV:∀(names:List (Str×j2)) (cs:List (Str×cq)),(x,gc)∈names\/x∈cs.map (·.1)->x∈(iU cells names cs).map (·.1)
 |[],cs,h=>by
  rcases h with h|h
  ·cases h
  ·exact h
 | (n,k)::r,cs,h=>by
  refine iV r _ ?_;rcases h with h|h
  ·rcases Ig.mp h with e|h
   ·cases e;refine .inr ?_;simp
   ·exact .inl h
  ·refine .inr ?_;by_cases hk:(k==gc)=b_
   ·rw[if_pos hk];exact HY _ h
   ·rw[if_neg hk];exact h
theorem lookup_mem:∀{l:List (Str×cq)},l.lookup x=ar c->(x,c)∈l
 |[],h=>by cases h
 | (n,a)::r,h=>by
  by_cases e:x==n
  ·have Z:x=n:=by simpa using e
   rw[IG,e]at h;have h':ar a=ar c:=h;cases h';subst Z;exact Im
  ·have e2:(x==n)=false:=by simpa using e
   rw[IG,e2]at h;exact HY _ (lookup_mem h)
theorem mem_lookup:∀{l:List (Str×cq)},x∈l.map (·.1)->∃c,l.lookup x=ar c
 |[],h=>by cases h
 | (n,a)::r,h=>by
  by_cases e:x==n
  ·exact⟨a,by rw[IG,e]⟩
  ·have e2:(x==n)=false:=by simpa using e
   rw[IG,e2];refine mem_lookup ?_;rcases Ig.mp h with z|z
   ·have Z:x=n:=z;subst Z;simp at e
   ·exact z
theorem bt:∀{l:List (Str×j2)},l.lookup x=ar k->(x,k)∈l
 |[],h=>by cases h
 | (n,a)::r,h=>by
  by_cases e:x==n
  ·have Z:x=n:=by simpa using e
   rw[IG,e]at h;have h':ar a=ar k:=h;cases h';subst Z;exact Im
  ·have e2:(x==n)=false:=by simpa using e
   rw[IG,e2]at h;exact HY _ (bt h)
theorem ia{env:Env}:∀{names:List (Str×j2)} {k:j2},
  (names.map fun(n,k)=>if (k==gc && env.scope.kind== .function && env.kindOf n==ar .cell)then (n,lx)else (n,k)).lookup x=ar k->
   names.lookup x=ar k\/(k= .cell/\names.lookup x=ar .free)
 |[],k,h=>by cases h
 | (n,a)::r,k,h=>by
  by_cases e:x==n
  ·rw[Iu]at h;by_cases c:(a==gc && env.scope.kind== .function && env.kindOf n==ar .cell)=b_
   ·have Y:a= .free:=by
     simp only[hY,beq_iff_eq]at c;exact c.1.1
    simp only[c,if_true,i_,e]at h;cases h;refine .inr ⟨rfl,?_⟩;rw[IG,e,Y]
   ·have Z:(a==gc && env.scope.kind== .function && env.kindOf n==ar .cell)=false:=by simpa using c
    simp only[Z,iA,if_false,i_,e]at h;refine .inl ?_;rw[IG,e];exact h
  ·have e2:(x==n)=false:=by simpa using e
   rw[IG,e2];refine ia (env:=env) (names:=r) ?_;rw[Iu]at h;by_cases c:(a==gc && env.scope.kind== .function && env.kindOf n==ar .cell)=b_
   ·simp only[c,if_true,i_,e2]at h;exact h
   ·have Z:(a==gc && env.scope.kind== .function && env.kindOf n==ar .cell)=false:=by simpa using c
    simp only[Z,iA,if_false,i_,e2]at h;exact h
theorem kj{env:Env}:∀{names:List (Str×j2)},names.lookup x=ar .free->
  (names.map fun(n,k)=>if (k==gc && env.scope.kind== .function && env.kindOf n==ar .cell)then (n,lx)else (n,k)).lookup x=ar .cell\/
  (names.map fun(n,k)=>if (k==gc && env.scope.kind== .function && env.kindOf n==ar .cell)then (n,lx)else (n,k)).lookup x=ar .free
 |[],h=>by cases h
 | (n,a)::r,h=>by
  rw[Iu];by_cases e:x==n
  ·rw[IG,e]at h;have X:ar a=ar NameKind.free:=h;cases X;by_cases c:(gc==gc && env.scope.kind== .function && env.kindOf n==ar .cell)=b_
   ·refine .inl ?_;simp only[c,if_true,i_,e]
   ·have Z:(gc==gc && env.scope.kind== .function && env.kindOf n==ar .cell)=false:=by simpa using c
    refine .inr ?_;simp only[Z,iA,if_false,i_,e]
  ·have e2:(x==n)=false:=by simpa using e
   rw[IG,e2]at h;have Y:=kj (env:=env) h;by_cases c:(a==gc && env.scope.kind== .function && env.kindOf n==ar .cell)=b_
   ·simp only[c,if_true,i_,e2];exact Y
   ·have Z:(a==gc && env.scope.kind== .function && env.kindOf n==ar .cell)=false:=by simpa using c
    simp only[Z,iA,if_false,i_,e2];exact Y
theorem tT:∀{names:List (Str×j2)} {n:Nat} {acc:List (Str×cq)} {p:Str×cq},p∈h_ n names acc->p∈acc\/n<=p.2
 |[],n,acc,p,h=>.inl h
 | (x,k)::r,n,acc,p,h=>by
  unfold h_ at h;split at h
  ·rcases tT h with h|h
   ·rcases Ig.mp h with rfl|h
    ·exact .inr (HN _)
    ·exact .inl h
   ·exact .inr (Ka h)
  ·exact tT h
theorem tU:∀{names:List (Str×j2)} {n:Nat} {acc:List (Str×cq)},(∀p∈acc,p.2<n)->(∀x y c,(x,c)∈acc->(y,c)∈acc->x=y)->∀x y c,(x,c)∈h_ n names acc->(y,c)∈h_ n names acc->x=y
 |[],n,acc,_,hi,x,y,c,h1,h2=>hi x y c h1 h2
 | (z,k)::r,n,acc,hl,hi,x,y,c,h1,h2=>by
  unfold h_ at h1 h2;by_cases hk:(k==lx)=b_
  ·rw[if_pos hk]at h1 h2;refine tU (fun p Z=>?_) (fun x y c g1 g2=>?_) x y c h1 h2
   ·rcases Ig.mp Z with rfl|Z
    ·exact Kn _
    ·exact Kb (hl p Z)
   ·rcases Ig.mp g1 with g1|g1<;>rcases Ig.mp g2 with g2|g2
    ·rw[<-g2]at g1;exact(Prod.mk.inj g1).1
    ·cases g1;exact absurd (hl _ g2) (Jg _)
    ·cases g2;exact absurd (hl _ g1) (Jg _)
    ·exact hi x y c g1 g2
  ·rw[if_neg hk]at h1 h2;exact tU hl hi x y c h1 h2
theorem qe:∀{names:List (Str×j2)} {n:Nat} {acc:List (Str×cq)},(∀y∈names,y.2= .cell->y.1≠x)->(h_ n names acc).lookup x=acc.lookup x
 |[],_,_,_=>rfl
 | (z,k)::r,n,acc,h=>by
  unfold h_;split
  ·next hk=>
   rw[qe fun y Z=>h y (HY _ Z),IG];have:(x==z)=false:=by
    have:=h (z,k) Im (by simpa using hk)
    simpa using i' this
   rw[this]
  ·exact qe fun y Z=>h y (HY _ Z)
theorem qf:∀{names:List (Str×j2)} {h:fc} {acc:List (Str×cq)} {p:Str×cq},p∈h_ h.objs.size names acc->p∈acc\/(pushCells h names).IsCell p.2 none
 |[],h,acc,p,q=>.inl q
 | (x,k)::r,h,acc,p,q=>by
  unfold h_ at q;unfold pushCells;split at q
  ·next hk=>
   rw[if_pos hk];have Z:p∈h_ (h.push {cls:=.type "cell",data:=.cell none}).objs.size r ((x,h.objs.size)::acc):=by rw[Ji];exact q
   rcases qf Z with Z|Z
   ·rcases Ig.mp Z with rfl|Z
    ·exact .inr ⟨_,Lg _ _ _ _ (Ia _ rfl),rfl⟩
    ·exact .inl Z
   ·exact .inr Z
  ·next hk=>
   rw[if_neg hk];exact qf q
theorem tV:∀(names:List (Str×j2)) (n:Nat) (acc:List (Str×cq)),((x,lx)∈names\/∃c,acc.lookup x=ar c/\m<=c)->m<=n->(h_ n names acc).lookup x=ar a->m<=a
 | [],n,acc,h,hm,e=>by
  rcases h with h|⟨c,h2,h3⟩
  ·cases h
  ·have Y:acc.lookup x=ar a:=e;rw[h2]at Y;cases Y;exact h3
 | (z,k)::r,n,acc,h,hm,e=>by
  unfold h_ at e;by_cases hk:(k==lx)=b_
  ·rw[if_pos hk]at e;refine tV r (n+1) _ ?_ (Nat.le_succ_of_le hm) e;by_cases hz:(x==z)=b_
   ·exact .inr ⟨n,by rw[IG,hz],hm⟩
   ·have Z:(x==z)=false:=by simpa using hz
    rcases h with h|⟨c,h2,h3⟩
    ·rcases Ig.mp h with h|h
     ·cases h;simp at hz
     ·exact .inl h
    ·exact .inr ⟨c,by rw[IG,Z];exact h2,h3⟩
  ·rw[if_neg hk]at e;refine tV r n acc ?_ hm e;rcases h with h|h
   ·rcases Ig.mp h with h|h
    ·cases h;simp at hk
    ·exact .inl h
   ·exact .inr h
theorem wq{s:c_}{scope:Scope}{env:Env}
  (h:∀h1,h1.Ns s.heap.objs.size (fun _=>none)->(∀b o,s.heap.get? b=ar o->h1.get? b=ar o)->(∀p∈h_ (s.heap.objs.size+1) scope.names cl,p∈cl\/h1.IsCell p.2 none)->
   Q {scope,locals:=s.heap.objs.size,globals:=env.globals,cells:=h_ (s.heap.objs.size+1) scope.names cl,qual:=env.qual,func:=none,code:=env.code,frame:=env.frame,builtins:=env.builtins} {s with heap:=h1}):
  ed M A (newFunctionEnv scope env.globals cl [] env.qual none .none (ar env)) Q E s:=by
 simp only[newFunctionEnv,Option.isSome_some,if_true];refine HK (wpAny_alloc (HK (wpAny_layCells _ (fun name kind cells=>by cases hkc:kind==lx<;>simp[hkc]) _ _ _ _ ?_)))
 have e:({s with heap:=s.heap.push {cls:=.type "dict",data:=.dict #[]}}:c_).heap.objs.size=s.heap.objs.size+1:=Ji ..;rw[e];refine HK (m:=forIn [] _ _) (HV (HV (h _ ((Heap.Ns.new s.heap (.type "dict")).keeps (Lg _ _)) (fun b o q=>Lg _ _ b o (HM _ q)) fun p Z=>?_)));exact qf (h:=s.heap.push {cls:=.type "dict",data:=.dict #[]}) (by rw[e];exact Z)
def bH(X:Cx)(scope:Scope)(Nc:List Str)(C:cq)(ex:List cq)(s:c_)(H:Hp):Cx:=
 {X with N:=Nc,s₀:=s,H₀:=H,env:=compEnvC scope (h_ (C+1) scope.names (iU X.env.cells scope.names [])) C X.env,outer:=X.stack,stack:=X.stack,ex:=ex,fn:=fun x=>scope.names.lookup x==ar .cell,pn:=[],xe:=fun _ _=>False}
structure CompScope(X:Cx)(scope:Scope)(Nc:List Str)(js:List (Option Nat)):Prop where
 kind:scope.kind= .function
 cel:∀y∈scope.names,y.2= .cell->scope.names.lookup y.1=ar .cell
 loc:∀y∈scope.names,y.2= .local->scope.names.lookup y.1=ar .local
 free:∀y∈scope.names,y.2= .free->X.env.kindOf y.1=ar .cell\/X.env.kindOf y.1=ar .free
 len:js.length=Nc.length
 ix:∀(i:Nat) (x:Str) (j:Nat),Nc[i]? =ar x->js[i]? =ar (ar j)->X.N[j]? =ar x/\scope.names.lookup x=ar .free
def oF(js:List (Option Nat))(σ:St):St:=js.map fun o=>o.bind fun j=>(σ[j]?).join
def Eb(X:Cx)(ifs:List Expr)(t:TT):Prop:=
 ∀(pins:List (cq×Obj)) (s:c_) (σ:St) (H:Hp) (Q:Bool->Hp->Prop),Inv X pins σ H s->t σ H Q->
  ed (eK X.prog X.w) X.A (forIn ifs b_ fun c r=>if r=b_ then do let ok<-isTrue c X.env (gd c X.env);aC (u5 ok)else aC (u5 r)) (TP X pins σ Q) X.xe s
theorem AD:Eb X [] (fun _ H Q=>Q b_ H):=fun pins s σ H Q I h=>wpAny_tests_nil ⟨H,I,h⟩
theorem AE(h:PT X c t):Eb X [c] t:=fun pins s σ H Q I hw=>wpAny_tests_one (h pins s σ H Q I hw)
def uU(wi:TI)(js:List (Option Nat))(g:TG)(tt:TT)(te:TE):TE:=fun σ H Q=>wi σ H fun J H1=>∀p,H1 p=none->
 ∃W:Nat->Nat->St->Hp->Prop,(∃m,W 0 m (oF js σ) (upd H1 p (.lst [])))/\∀i m σc Hc,W i m σc Hc->
  (J.stop i Hc/\Q (.ref p) Hc)\/(J.go i Hc/\∃N:St->Hp->Prop,(∀ σ' H',N σ' H'->∃m',m'<m/\W (i+1) m' σ' H')/\∀x H',J.yld i Hc x H'->g x σc H' fun σ2 H2=>tt σ2 H2 fun b H3=>
   if b=b_ then te σ2 H3 fun y H4=>∃xs,H4 p=ar (.lst xs)/\xs.length<sizeLine/\N σ2 (upd H4 p (.lst (xs++[y])))else N σ2 H3)
section
variable {X:Cx}{scope:Scope}{Nc:List Str}{js:List (Option Nat)}{pins:List (cq×Obj)}{σ:St}{H:Hp}{s:c_}
theorem CompScope.has(c:CompScope X scope Nc js)(Z:X.Ok):∀y∈scope.names,y.2= .free->∃a,X.env.cells.lookup y.1=ar a:=fun y Y e=>Z.has y.1 (c.free y Y e)
theorem tW{O:fc}(c:CompScope X scope Nc js)(I:Inv X pins σ H s)(T:∀b∈ex,j9 X pins H b)(G:∀b∈ex,b<s.heap.objs.size)
  (R:C=s.heap.objs.size) (f:O.Ns C (fun _=>none)) (hs:∀b o,s.heap.get? b=ar o->O.get? b=ar o)
  (E:∀p∈h_ (C+1) scope.names (iU X.env.cells scope.names []),p∈iU X.env.cells scope.names []\/O.IsCell p.2 none):
  Inv (bH X scope Nc C ex s H) [] (oF js σ) H {s with heap:=O,toks:=tk}:=by
 have Y:=qd (cells:=X.env.cells) scope.names [] (c.has I.ok) (fun _ z=>nomatch z);have Q:∀x a,(iU X.env.cells scope.names []).lookup x=ar a->X.env.cells.lookup x=ar a:=fun x a e=>Y _ (lookup_mem e);have t:∀b o,s.heap.get? b=ar o->b≠C:=fun b o e=>by rw[R];exact Ih (HS e)
 have P:∀p∈iU X.env.cells scope.names [],p.2<C+1:=fun p A=>by
  obtain⟨v,F,N,_⟩:=I.cell p.1 p.2 (Y p A);rw[R];exact Kb (HS N)
 have Z:∀x a,(h_ (C+1) scope.names (iU X.env.cells scope.names [])).lookup x=ar a->X.env.cells.lookup x=ar a\/(C<a/\O.IsCell a none):=fun x a e=>by
  have hm:=lookup_mem e;rcases E _ hm with z|z
  ·exact .inl (Y _ z)
  ·rcases tT hm with y|y
   ·exact .inl (Y _ y)
   ·exact .inr ⟨y,z⟩
 refine⟨⟨I.ok.mod,c.kind,I.ok.glob,I.ok.blt,JI R.symm,fun x y a e1 e2=>tU P (fun x y a e1 e2=>I.ok.inj x y a (Y _ e1) (Y _ e2)) x y a (lookup_mem e1) (lookup_mem e2),fun x L=>?_,fun x a z e=>?_,I.ok.hd,I.ok.frames,.inl rfl,fun b W=>⟨?_,fun x a e z=>?_⟩,
  I.bs,HX I.ok.bsz I.sz,fun b o e W=>?_,fun b W z=>?_,I.stack,I.stkFree⟩,rfl,I.bare,Un.kept hs,⟨_,f,fun i x v e1 e2 e3=>?_⟩,fun x a e=>?_,?_,fun x a e=>?_,(fun p A=>nomatch A),I.hok.kept hs,?_⟩
 ·-- names that are cells here have one
  have B:scope.names.lookup x=ar .free\/scope.names.lookup x=ar .cell:=by
   rcases L with L|L
   ·rcases ia (env:=X.env) (names:=scope.names) L with z|⟨_,z⟩
    ·exact .inr z
    ·exact .inl z
   ·rcases ia (env:=X.env) (names:=scope.names) L with z|⟨z,_⟩
    ·exact .inl z
    ·cases z
  refine IW.mp (J4 scope.names (C+1) _ ?_);rcases B with z|z
  ·exact .inr (IW.mpr (mem_lookup (iV scope.names [] (.inl (bt z)))))
  ·exact .inl z
 ·-- the block's own cells are new
  have z':scope.names.lookup x=ar .cell:=by
   have:(scope.names.lookup x==ar .cell)=true:=z;simpa using this
  show s.heap.objs.size<=a;rw[<-R];exact Ka (tV (m:=C+1) scope.names (C+1) _ (.inl (bt z')) (HN _) e)
 ·show b≠C;rw[R];exact Ih (G b W)
 ·rcases Z x a e with y|⟨y,_⟩
  ·exact(T b W).2.2.2.2.1 x a y z
  ·rw[z,R]at y;exact Jg _ (Nat.lt_trans y (G b W))
 ·have:b<X.base.objs.size:=HS e;rcases (T b W).2.2.2.1 with z|z
  ·exact I.ok.noex b o e z
  ·exact absurd (HZ this (HX I.ok.bsz z)) (Jg _)
 ·rcases Ig.mp (I.stkSub b z)with e|e
  ·exact(T b W).2.1 e
  ·exact(T b W).2.2.1 e
 ·-- the names that are read from around
  have w:Nc[i]? =ar x:=e1;have:∃j,js[i]? =ar (ar j)/\σ[j]? =ar (ar v):=by
   unfold oF at e2;rw[IL]at e2;cases q:js[i]? with
   |none=>rw[q]at e2;cases e2
   | some o=>
    rw[q]at e2;cases o with
    |none=>cases e2
    |some j=>
     refine⟨j,rfl,?_⟩;have U:(σ[j]?).join=ar v:=Il e2;cases r:σ[j]? with
     |none=>rw[r]at U;cases U
     |some z=>rw[r]at U;exact Kt ar U
  obtain⟨j,n,k⟩:=this;obtain⟨h,S⟩:=c.ix i x j w n;obtain⟨m,a0,g⟩:=I.loc;have J:=c.free (x,.free) (bt S) rfl;have K:BQ X.env.scope x:=by
   rcases J with z|z
   ·exact .inr (.inl z)
   ·exact .inr (.inr z)
  obtain⟨u,d,lk⟩:=g j x v h k K;refine⟨u,d,.inr ⟨?_,?_⟩⟩
  ·rcases kj (env:=X.env) S with z|z
   ·exact .inl z
   ·exact .inr z
  ·rcases lk with⟨z,_⟩|⟨_,a,ea,ha⟩
   ·rcases J with y|y
    ·rw[show X.env.kindOf x=ar lx from y]at z;cases z
    ·rw[show X.env.kindOf x=ar gc from y]at z;cases z
   ·obtain⟨b,W⟩:=mem_lookup (iV (cells:=X.env.cells) scope.names [] (.inl (bt S)));have:=Q x b W;rw[ea]at this;cases this;obtain⟨F,N,hd⟩:=ha;refine⟨a,?_,F,hs _ _ N,hd⟩;show(h_ (C+1) scope.names (iU X.env.cells scope.names [])).lookup x=ar a;rw[qe fun y l e z=>by have:=c.cel y l e;rw[z,S]at this;cases this]
    exact W
 ·rcases Z x a e with y|⟨_,y⟩
  ·obtain⟨v,F,N,hd⟩:=I.cell x a y;exact⟨v,F,hs _ _ N,hd⟩
  ·exact⟨_,y⟩
 ·show H C=none;rw[R];exact I.hok.fresh (HN _)
 ·rcases Z x a e with y|⟨y,_⟩
  ·exact I.freeC x a y
  ·exact I.hok.fresh (by rw[<-R];exact Jy y)
 ·show(oF js σ).length=Nc.length;unfold oF;rw[HL];exact c.len
theorem xS(I:Inv X pins σ H s)(R:C=s.heap.objs.size)(Z:∀b∈ex,j9 X pins H b)
  (T:Inv (bH X scope Nc C ex s H) [] σc H' s') (hs:ri C s'.heap h2):Inv X pins σ H' {s' with heap:=h2}:=by
 have W:∀b o,s.heap.get? b=ar o->b≠C:=fun b o e=>by rw[R];exact Ih (HS e)
 have B:=T.base;have u:Un (iR X.stack) ex H H' s.heap h2:={
  keep:=fun b o e n Y U=>(hs.2 b (W b o e)).trans (B.keep b o e n Y U)
  slot:=fun b o e n Y U=>by
   obtain⟨Q,q⟩:=B.slot b o e n Y U;exact⟨Q,(hs.2 b (W b o e)).trans q⟩
  free:=B.free
  there:=fun b o e U=>by
   obtain⟨P,q⟩:=B.there b o e U;exact⟨P,(hs.2 b (W b o e)).trans q⟩
  tups:=B.tups
  frzs:=B.frzs
  tbls:=B.tbls}
 refine I.call' (s':={s' with heap:=h2}) (ch:=ex) T.os u (fun b o e=>?_) T.bare fun b Y=>⟨(Z b Y).2.2.2.1,(Z b Y).2.1,(Z b Y).2.2.2.2.1,(Z b Y).2.2.2.2.2⟩;have S:∀b o,H' b=ar o->b≠C:=fun b o e z=>by
  have hf:H' C=none:=T.free;rw[z,hf]at e;cases e
 refine(T.hok b o e).stay (fun d v hd q=>?_) (fun _ q=>q) fun _ _ q=>q;refine(hs.2 d ?_).trans q;rcases hd with z|z
 ·subst z;exact S _ _ e
 ·exact S _ _ z
theorem rH{Q:VK}(G:Option (a_->Sem Unit))(Qr:a_->c_->Prop)(c:CompScope X scope Nc js)(hc:X.calm=b_)(hi:PI X tg iter wi)
  (a6:∀C ex s H,Inv X pins σ H s->(∀b∈ex,j9 X pins H b)->PG (bH X scope Nc C ex s H) tg g/\Eb (bH X scope Nc C ex s H) ifs tt/\PE (bH X scope Nc C ex s H) elt te)
  (I:Inv X pins σ H s) (h:uU wi js g tt te σ H Q)
  (B:∀p C s' S,Q (.ref p) S->(∀t,ri C s'.heap t->Inv X pins σ S {s' with heap:=t})->(∃m,s'.heap.Ns C m)->j9 X pins S C->
   compPost (eK X.prog X.w) X.A X.xe G Qr (.ref p) C (.ok .next) s')
  (hs:∀x,j7 iter X.env x=aC x:=by intro _;rfl):
  ed (eK X.prog X.w) X.A (comprehension (.ListComp elt [⟨tg,iter,ifs,0⟩] scope pos) scope X.env pos' (newList []) dr (gd iter X.env) G) Qr X.xe s:=by
 refine wpAny_comprehension_free rfl hs (ki scope X.env (c.has I.ok)) c.kind c.loc (di (hi pins s σ H _ I h) fun v s1 F=>di F fun d2 s2 t=>?_);obtain⟨it,Y,tn,J,U,e,I2,T,j,f2,hW⟩:=t;subst e;refine Jb (wq fun F P R O=>?_);dsimp only at P R O⊢;obtain⟨W,⟨m0,w0⟩,turn⟩:=hW s2.heap.objs.size (I2.hok.fresh (HN _));have k:Inv X pins σ (upd U s2.heap.objs.size (.lst [])) {s2 with heap:=s2.heap.push {cls:=.type "list",dict:=none,data:=.seq ([]:List a_).toArray}}:=
  I2.laid (t':=s2.toks) (fun _ _ q=>HM _ q) (HN _) ⟨Iv _,[],0,.nil,Ia _ rfl⟩
 generalize hS3:({s2 with heap:=s2.heap.push {cls:=.type "list",dict:=none,data:=.seq ([]:List a_).toArray}}:c_)=s3 at k;have e3:s3.heap=s2.heap.push {cls:=.type "list",dict:=none,data:=.seq ([]:List a_).toArray}:=by rw[<-hS3]
 rw[<-e3]at P R O⊢;generalize hp:s2.heap.objs.size=p at*;have E:∀b∈Y,b<p:=fun b Z=>by
  obtain⟨o,e,_⟩:=T.obj _ _ j b Z;rw[<-hp];exact HS e
 have b2:∀b∈Y,b≠p:=fun b Z=>Ih (E b Z);have a:∀b∈Y,j9 X pins (upd U p (.lst [])) b:=fun b Z=>⟨by rw[aJ (b2 b Z)];exact(f2 b Z).1,(f2 b Z).2⟩
 have f:s3.heap.objs.size=p+1:=by rw[e3,Ji,hp]
 have l:∀b∈Y,b<s3.heap.objs.size:=fun b Z=>by rw[f];exact Kb (E b Z)
 have K:∀b o,s3.heap.get? b=ar o->F.get? b=ar o:=R;have b0:tn 0 F:=T.keep _ _ _ j fun b Z o e=>K b o (by rw[e3];exact HM _ e)
 generalize hC:s3.heap.objs.size=C at*;have b5:F.Ns C (fun _=>none):=by simpa using P
 have start:∀tk,Inv (bH X scope Nc C Y s3 (upd U p (.lst []))) [] (oF js σ) (upd U p (.lst [])) {s3 with heap:=F,toks:=tk}:=fun tk=>tW c k a (fun b Z=>by rw[hC];exact l b Z) hC.symm b5 K O
 have ok:=(start 0).ok;have L:∀{S:Hp},(∀b∈Y,S b=none)->∀b∈Y,j9 (bH X scope Nc C Y s3 (upd U p (.lst []))) [] S b:=fun hn b Z=>
  ⟨hn b Z,(ok.exf b Z).1,ok.exfs b Z,.inl Z,(ok.exf b Z).2,fun _ z=>nomatch z⟩
 obtain⟨hG,hT,hE⟩:=a6 C Y s3 (upd U p (.lst [])) k a;have loop:∀s':c_,Inv (bH X scope Nc C Y s3 (upd U p (.lst []))) [] (oF js σ) (upd U p (.lst [])) s'->tn 0 s'.heap->
   y4 (eK X.prog X.w) X.A (.compLoop (.ListComp elt [⟨tg,iter,ifs,0⟩] scope pos) 0 (.ref it) (.ref p) (bH X scope Nc C Y s3 (upd U p (.lst []))).env) (compPost (eK X.prog X.w) X.A X.xe G Qr (.ref p) C) s':=by
  intro s' I' a3;refine codeAny_loop rfl (fun n s'=>∃i σ' S,Inv (bH X scope Nc C Y s3 (upd U p (.lst []))) [] σ' S s'/\tn i s'.heap/\(∀b∈Y,S b=none)/\W i n σ' S) ?_ m0 ⟨0,_,_,I',a3,fun b Z=>(a b Z).1,w0⟩;rintro n s4 ⟨i,σ4,H4,I4,st4,fr4,w4⟩;show ed _ X.A ((compTurn (.ListComp elt [⟨tg,iter,ifs,0⟩] scope pos) 0 (.ref it) (.ref p) (bH X scope Nc C Y s3 (upd U p (.lst []))).env).onRaise (fun x=>do E2 x (bH X scope Nc C Y s3 (upd U p (.lst []))).env;theTreesLotGoes x)) _ _ s4
  refine wpAny_noted ?_;rw[compTurn_list];refine HK (F0 (HK ?_));rcases turn i n σ4 H4 w4 with⟨stop,qn⟩|⟨go,N,hN,step⟩
  ·refine I0 (T.done (bH X scope Nc C Y s3 (upd U p (.lst []))) rfl rfl rfl hc i [] s4 σ4 H4 (fun _ _=>False) I4 (L fr4) st4 stop) (fun r s5 ⟨hr,I5⟩=>?_) fun _ _ z=>z.elim;subst hr;refine HV (B p C s5 H4 qn (fun t a4=>xS k hC.symm a I5 a4) ?_ (k.fpOk (JI hC) I5.free));obtain⟨m,hm,_⟩:=I5.loc;exact⟨m,hm⟩
  ·refine I0 (T.item (bH X scope Nc C Y s3 (upd U p (.lst []))) rfl rfl rfl hc i [] s4 σ4 H4 (fun _ _=>False) I4 (L fr4) st4 go) (fun r s5 ⟨u,hr,h5⟩=>?_) fun _ _ z=>z.elim;subst hr;refine HK (I0 h5 (fun _ s6 ⟨x,H6,I6,r6,y6,st6,fr6⟩=>?_) fun _ _ z=>z.elim);have b1:=I6.pinned (L fr6) (T.obj _ _ st6);refine HK (I0 (hG _ s6 σ4 H6 x u _ b1 r6 (step x H6 y6)) (fun _ s7 ⟨σ7,H7,I7,q7⟩=>?_) fun _ _ z=>z.elim);refine HK (I0 (hT _ s7 σ7 H7 _ I7 q7) (fun b s8 ⟨H8,I8,q8⟩=>?_) fun _ _ z=>z.elim);have L9:∀{σ9:St} {H9:Hp} {s9:c_},Inv (bH X scope Nc C Y s3 (upd U p (.lst []))) ([]++mT Y s6.heap) σ9 H9 s9->N σ9 H9->
     ∃m,m<n/\∃i σ' S,Inv (bH X scope Nc C Y s3 (upd U p (.lst []))) [] σ' S s9/\tn i s9.heap/\(∀b∈Y,S b=none)/\W i m σ' S:=fun{σ9 H9 s9} I9 n9=>by
    obtain⟨m',hm,w9⟩:=hN σ9 H9 n9;refine⟨m',hm,i+1,σ9,H9,I9.unpinned,T.keep _ _ _ st6 fun b Z o e=>(I9.pin (b,o) (Iq _ (Iq _ (hZ Z e)))).1,fun b Z=>?_,w9⟩;obtain⟨o,e,d⟩:=T.obj _ _ st6 b Z;exact(I9.pin (b,o) (Iq _ (Iq _ (hZ Z e)))).2.1
   cases b with
   |false=>exact HV ⟨rfl,L9 I8 q8⟩
   |true=>
    refine HK (HK (I0 (hE _ s8 σ7 H8 _ I8 q8) (fun y s9 ⟨yv,H9,I9,r9,q9⟩=>?_) fun _ _ z=>z.elim));obtain⟨xs,hx,hl,n9⟩:=q9;refine HK (I0 (o7 (X:=bH X scope Nc C Y s3 (upd U p (.lst []))) _ s9 σ7 H9 (.ref p) [yv] (.ref p) [y] (fun _ S=>N σ7 S) I9 rfl (.cons r9 .nil) ⟨p,xs,yv,rfl,rfl,hx,hl,n9⟩) (fun _ s10 ⟨_,H10,I10,_,q10⟩=>?_) fun _ _ z=>z.elim);exact HV (HV ⟨rfl,L9 I10 q10⟩)
 refine codeAny_compStart_list (loop _ ?_ ?_) (T.self _ 0 _ _ _ ?_ (loop _ ?_ ?_))
 all_goals first
  |exact b0
  |(subst hS3;exact start _)
theorem AF(c:CompScope X scope Nc js)(P:X.calm=b_)(S:PI X tg iter wi)
  (Z:∀C ex s H,PG (bH X scope Nc C ex s H) tg g/\Eb (bH X scope Nc C ex s H) ifs tt/\PE (bH X scope Nc C ex s H) elt te)
  (hs:∀x,j7 iter X.env x=aC x:=by intro _;rfl):PE X (.ListComp elt [⟨tg,iter,ifs,0⟩] scope pos) (uU wi js g tt te):=by
 intro pins s σ H Q I h;rw[eval_ListComp];refine rH none _ c P S (fun C ex s H _ _=>Z C ex s H) I h (fun p C s' W q R T _=>?_) hs;obtain⟨m,hm⟩:=T;exact⟨m,hm,fun U Y=>⟨.ref p,W,R U Y,rfl,q⟩⟩
theorem tX{pos:Pos}(Q:X.N.Nodup)(W:X.N[i]? =ar x)(P:Loc X.env.scope x)
  (c:CompScope X scope Nc js) (E:X.calm=b_) (F:PI X tg iter wi)
  (U:∀C ex s H,PG (bH X scope Nc C ex s H) tg g/\Eb (bH X scope Nc C ex s H) ifs tt/\PE (bH X scope Nc C ex s H) elt te)
  (T:j3 (.ListComp elt [⟨tg,iter,ifs,0⟩] scope cpos) (ar (.Name x pos')) pos.line X.env=aC true:=by rfl)
  (J:X.fn x=b_\/X.env.scope.names.lookup x=ar .local:=by first|exact .inl rfl|exact .inr rfl|assumption)
  (hs:∀x,j7 iter X.env x=aC x:=by intro _;rfl):PS X (.Assign [.Name x pos'] (.ListComp elt [⟨tg,iter,ifs,0⟩] scope cpos) pos) (CD (uU wi js g tt te) (xu i)):=by
 intro pins s σ H D I h;rw[exec_Assign_Name_used _ _ _ _ T];refine HK (F0 (HK ?_));show ed _ X.A (do let _<-comprehension (.ListComp elt [⟨tg,iter,ifs,0⟩] scope cpos) scope X.env _ (newList []) dr (gd iter X.env) (ar (A' (.Name x pos') X.env))) _ _ s
 refine HK (di (rH (ar (A' (.Name x pos') X.env)) (fun _ s'=>SP X pins D .next s') c E F (fun C ex s H _ _=>U C ex s H) I h (fun p C s' S q G O Z=>?_) hs) fun _ s' q=>HV (HV q));obtain⟨m,hm⟩:=O;have R:Inv X pins σ S s':=G s'.heap (.refl ..);refine wpAny_assign_Name (oW R Q W P (v:=.ref p) rfl (fun s'' I'' ⟨a,hsb,ha⟩=>?_) J);have L:C≠a:=by
  rcases ha with z|z
  ·rw[z];exact Z.2.1
  ·exact fun e=>Z.2.2.2.2.1 x a z e.symm
 refine⟨m,hm.sameBut hsb L,fun B Y=>?_⟩;exact⟨_,S,I''.turned (t':=s''.toks) (it:=C) (fun b o K e=>(Y.2 b K).trans e) Z.1 Z.2.1 Z.2.2.2.1 Z.2.2.2.2.1 Z.2.2.2.2.2,q⟩
end
inductive D where
 |non|bl (b:Bool)|int (i:Int)|str (x:Str)|tup (ds:List D)|lst (k:Nat)|ro (ds:List D)|emp
 |fn (a c:cq) (q:Str) (ds:List D) (vs:List V)|exc (x:Str) (ds:List D)
 |fz (ds:List D)
abbrev ay:=List (List D)
inductive Res(α:Type) where
 |ok (a:α)|ex (x:D)
def M(α:Type):=ay->Option (Res α×ay)
namespace M
def ret{α:Type}(a:α):M α:=fun S=>ar (.ok a,S)
def bnd{α β:Type}(m:M α)(f:α->M β):M β:=fun S=>match m S with
 |some (.ok a,S')=>f a S'
 |some (.ex x,S')=>ar (.ex x,S')
 |none=>none
def fail{α:Type}:M α:=fun _=>none
def raise{α:Type}(x:D):M α:=fun S=>ar (.ex x,S)
noncomputable instance:Monad M where
 pure:=ret
 bind:=bnd
end M
def Hz(K:dn)(a:cq)(xs:List V):Prop:=∃(o:Obj) (its:Array a_) (n:Nat),K.lookup a=ar o/\o.cls= .type "list"/\o.dict=none/\o.data= .seq its n/\its.size<=sizeLine/\bb xs its.toList
def Ah(K:dn)(H:Hp)(a:cq)(vs:List V):Prop:=(∃o,H a=ar (.frz o (.lst vs)))\/Hz K a vs
theorem Ah.sq{K:dn}{H:Hp}{a:cq}{vs:List V}(h:Ah K H a vs):iS K H a vs:=h.imp (fun⟨o,e⟩=>.inr ⟨o,e⟩) fun z=>z
def mr(C a:cq)(od:Option cq):fc->Prop:=fun h=>∃oe vs,h.get? a=ar oe/\oe.cls= .ref C/\oe.dict=od/\oe.data= .fields vs
def oG(qual:Str)(c:cq):fc->Prop:=fun h=>h.CodeRec (.ref c) qual
def bX:List Str:=["law","_law_within_right","_law_refusals_right","_law_sharings_right","_law_right","_law_lists_right","_law_papers_right","_law_great_right","_law_told_right","_law_desks_right","_law_texts_right"]
def TabsOk(K:dn)(H:Hp):Prop:=∀x∈bX,∀c P,j1 K x=ar (c,P)->∃ps,H P=ar (.tbl ps)/\LW ps.toList/\
 ∀pos cv,y2 pos ps.toList=ar cv->∃c',cv= .ref c'/\H c'=ar (.ext (oG (x++".<locals>.<lambda>") c'))
theorem TabsOk.mono{K:dn}{H Z:Hp}(h:TabsOk K H)(k:∀a o,H a=ar o->(∀vs,o≠ .lst vs)->Z a=ar o):TabsOk K Z:=fun x Y c P e=>
 let ⟨ps,h1,h2,h3⟩:=h x Y c P e
 ⟨ps,k _ _ h1 (by intro _ z;cases z),h2,fun pos cv q=>let ⟨c',e1,e2⟩:=h3 pos cv q;⟨c',e1,k _ _ e2 (by intro _ z;cases z)⟩⟩
mutual
inductive RelD(K:dn)(ι:List cq)(H:Hp):D->V->Prop where
 |non:RelD K ι H .non .non
 |bl (b:Bool):RelD K ι H (.bl b) (.bl b)
 |int (i:Int):RelD K ι H (.int i) (.int i)
 |str (x:Str):RelD K ι H (.str x) (.str x)
 |tup {a:cq} {ds:List D} {vs:List V}:H a=ar (.tup vs)->RelDs K ι H ds vs->RelD K ι H (.tup ds) (.ref a)
 |lst {a:cq} {k:Nat}:ι[k]? =ar a->RelD K ι H (.lst k) (.ref a)
 |ro {a:cq} {ds:List D} {vs:List V}:Ah K H a vs->RelDs K ι H ds vs->RelD K ι H (.ro ds) (.ref a)
 |emp {a:cq}:H a=ar (.dK [])->RelD K ι H .emp (.ref a)
 |fn {a c:cq} {q:Str} {ds:List D} {vs:List V}:H c=ar (.ext (oG q c))->RelDs K ι H ds vs->RelD K ι H (.fn a c q ds vs) (.ref a)
 |exc {a C:cq} {x:Str}:nC K er x=ar (ar (.ref C))->H a=ar (.ext (mr C a none))->RelD K ι H (.exc x []) (.ref a)
 |excF {a C dx:cq} {x:Str} {fs:List (Str×V)} {ds:List D}:nC K er x=ar (ar (.ref C))->H a=ar (.ext (mr C a (ar dx)))->H dx=ar (.xd fs)->fs.map (·.1)=([("many":Str),("most":Str)]:List Str)->RelDs K ι H ds (fs.map (·.2))->RelD K ι H (.exc x ds) (.ref a)
 |fz {a:cq} {o:Obj} {ds:List D} {vs:List V}:H a=ar (.frz o (.lst vs))->RelDs K ι H ds vs->RelD K ι H (.fz ds) (.ref a)
inductive RelDs(K:dn)(ι:List cq)(H:Hp):List D->List V->Prop where
 |nil:RelDs K ι H [] []
 |cons {d:D} {v:V} {ds:List D} {vs:List V}:RelD K ι H d v->RelDs K ι H ds vs->RelDs K ι H (d::ds) (v::vs)
end
structure Rep(K:dn)(ι:List cq)(H:Hp)(S:ay):Prop where
 nd:ι.Nodup
 len:ι.length=S.length
 get:∀(k:Nat) (a:cq) (xs:List D),ι[k]? =ar a->S[k]? =ar xs->∃vs,H a=ar (.lst vs)/\RelDs K ι H xs vs
 tab:TabsOk K H
structure Ext(ι:List cq)(H:Hp)(ι':List cq)(H':Hp):Prop where
 ids:∃more,ι'=ι++more
 oth:∀a o,H a=ar o->a∉ι->(∀ps,o≠ .tbl ps)->H' a=ar o/\a∉ι'
structure ExtN(ι:List cq)(H:Hp)(ι':List cq)(H':Hp):Prop where
 ids:∃more,ι'=ι++more
 oth:∀a o,H a=ar o->a∉ι->(∀ps,o≠ .tbl ps)->(∀vs,o≠ .lst vs)->H' a=ar o/\a∉ι'
theorem Ext.n{X Z:List cq}{H Y:Hp}(e:Ext X H Z Y):ExtN X H Z Y:=⟨e.ids,fun a o h n t _=>e.oth a o h n t⟩
theorem Ext.refl{Z:List cq}{H:Hp}:Ext Z H Z H:=⟨⟨[],by simp⟩,fun _ _ h n _=>⟨h,n⟩⟩
theorem Ext.trans{W Y Z:List cq}{H U X:Hp}(a:Ext W H Y U)(b:Ext Y U Z X):Ext W H Z X:=by
 obtain⟨T,e1⟩:=a.ids;obtain⟨S,e2⟩:=b.ids;exact⟨⟨T++S,by rw[e2,e1,Iy]⟩,fun c o h n t=>let ⟨h1,n1⟩:=a.oth c o h n t;b.oth c o h1 n1 t⟩
theorem ExtN.at{Y Z:List cq}{H X:Hp}(e:ExtN Y H Z X){k:Nat}{a:cq}(h:Y[k]? =ar a):Z[k]? =ar a:=by
 obtain⟨m,rfl⟩:=e.ids;have W:k<Y.length:=(HQ.mp h).1;rw[II W];exact h
section
variable {K:dn}{ι ι':List cq}{H H':Hp}{S:ay}
theorem Rep.isL(r:Rep K ι H S)(h:a∈ι):∃vs,H a=ar (.lst vs):=by
 obtain⟨k,Y,e⟩:=List.mem_iff_getElem.mp h;have Z:k<S.length:=by rw[<-r.len];exact Y
 obtain⟨vs,X,_⟩:=r.get k a (S[k]) (by rw[HR Y,e]) (HR Z)
 exact⟨vs,X⟩
theorem Rep.notIn(r:Rep K ι H S)(h:H a=ar o)(Z:∀vs,o≠ .lst vs):a∉ι:=fun z=>by
 obtain⟨vs,e⟩:=r.isL z;rw[h]at e;exact Z vs (Il e)
theorem Rep.free(r:Rep K ι H S)(h:H a=none):a∉ι:=fun z=>by
 obtain⟨vs,e⟩:=r.isL z;rw[h]at e;cases e
mutual
theorem RelD.laterN(r:Rep K ι H S)(e:ExtN ι H ι' H'):∀{d:D} {v:V},RelD K ι H d v->RelD K ι' H' d v
 |_,_,.non=>.non
 |_,_,.bl b=>.bl b
 |_,_,.int i=>.int i
 |_,_,.str x=>.str x
 |_,_,.tup h hs=>.tup (e.oth _ _ h (r.notIn h (by intro _ z;cases z)) (by intro _ z;cases z) (by intro _ z;cases z)).1 (RelDs.laterN r e hs)
 |_,_,.lst h=>.lst (e.at h)
 |_,_,.ro h hs=>.ro (h.imp (fun⟨o,h⟩=>⟨o,(e.oth _ _ h (r.notIn h (by intro _ z;cases z)) (by intro _ z;cases z) (by intro _ z;cases z)).1⟩) fun z=>z) (RelDs.laterN r e hs)
 |_,_,.emp h=>.emp (e.oth _ _ h (r.notIn h (by intro _ z;cases z)) (by intro _ z;cases z) (by intro _ z;cases z)).1
 |_,_,.fn h hs=>.fn (e.oth _ _ h (r.notIn h (by intro _ z;cases z)) (by intro _ z;cases z) (by intro _ z;cases z)).1 (RelDs.laterN r e hs)
 |_,_,.exc n h=>.exc n (e.oth _ _ h (r.notIn h (by intro _ z;cases z)) (by intro _ z;cases z) (by intro _ z;cases z)).1
 |_,_,.excF n h h2 hn hs=>.excF n (e.oth _ _ h (r.notIn h (by intro _ z;cases z)) (by intro _ z;cases z) (by intro _ z;cases z)).1 (e.oth _ _ h2 (r.notIn h2 (by intro _ z;cases z)) (by intro _ z;cases z) (by intro _ z;cases z)).1 hn (RelDs.laterN r e hs)
 |_,_,.fz h hs=>.fz (e.oth _ _ h (r.notIn h (by intro _ z;cases z)) (by intro _ z;cases z) (by intro _ z;cases z)).1 (RelDs.laterN r e hs)
theorem RelDs.laterN(r:Rep K ι H S)(e:ExtN ι H ι' H'):∀{ds:List D} {vs:List V},RelDs K ι H ds vs->RelDs K ι' H' ds vs
 |_,_,.nil=>.nil
 |_,_,.cons h hs=>.cons (RelD.laterN r e h) (RelDs.laterN r e hs)
end
theorem RelD.later(r:Rep K ι H S)(e:Ext ι H ι' H'){d:D}{v:V}(h:RelD K ι H d v):RelD K ι' H' d v:=RelD.laterN r e.n h
theorem RelDs.later(r:Rep K ι H S)(e:Ext ι H ι' H'){ds:List D}{vs:List V}(h:RelDs K ι H ds vs):RelDs K ι' H' ds vs:=RelDs.laterN r e.n h
theorem RelDs.length:∀{ds:List D} {vs:List V},RelDs K ι H ds vs->ds.length=vs.length
 |_,_,.nil=>rfl
 |_,_,.cons _ t=>by rw[IH,IH,RelDs.length t]
theorem RelDs.append:∀{ds es:List D} {vs ws:List V},RelDs K ι H ds vs->RelDs K ι H es ws->RelDs K ι H (ds++es) (vs++ws)
 |_,_,_,_,.nil,s=>s
 |_,_,_,_,.cons r t,s=>.cons r (RelDs.append t s)
theorem RelDs.get':∀{ds:List D} {vs:List V} {i:Nat} {d:D},RelDs K ι H ds vs->ds[i]? =ar d->∃v,vs[i]? =ar v/\RelD K ι H d v
 |_,_,_,_,.nil,e=>by simp at e
 |_,_,0,_,.cons r _,e=>by simp at e;subst e;exact⟨_,rfl,r⟩
 |_,_,i+1,v,.cons _ t,e=>by
  obtain⟨u,Y,Z⟩:=RelDs.get' (i:=i) t (by simpa using e)
  exact⟨u,by simpa using Y,Z⟩
theorem RelDs.take:∀{ds:List D} {vs:List V} (n:Nat),RelDs K ι H ds vs->RelDs K ι H (ds.take n) (vs.take n)
 |_,_,0,_=>.nil
 |_,_,_+1,.nil=>.nil
 |_,_,n+1,.cons r t=>.cons r (RelDs.take n t)
theorem RelDs.drop:∀{ds:List D} {vs:List V} (n:Nat),RelDs K ι H ds vs->RelDs K ι H (ds.drop n) (vs.drop n)
 |_,_,0,r=>r
 |_,_,_+1,.nil=>.nil
 |_,_,n+1,.cons _ t=>RelDs.drop n t
theorem RelDs.set(r:RelD K ι H d v):∀{ds:List D} {vs:List V} (i:Nat),RelDs K ι H ds vs->RelDs K ι H (ds.set i d) (vs.set i v)
 |_,_,_,.nil=>.nil
 |_,_,0,.cons _ t=>.cons r t
 |_,_,i+1,.cons q t=>.cons q (RelDs.set r i t)
theorem RelDs.eraseIdx:∀{ds:List D} {vs:List V} (i:Nat),RelDs K ι H ds vs->RelDs K ι H (ds.eraseIdx i) (vs.eraseIdx i)
 |_,_,_,.nil=>.nil
 |_,_,0,.cons _ t=>t
 |_,_,i+1,.cons q t=>.cons q (RelDs.eraseIdx i t)
theorem fL(Z:H p=none):Ext ι H ι (upd H p o):=⟨⟨[],by simp⟩,fun a Y h n _=>⟨by rw[aJ (aM h Z)];exact h,n⟩⟩
theorem ib{p:cq}{o:HO}(r:Rep K ι H S)(Z:H p=none):Rep K ι (upd H p o) S:=by
 refine⟨r.nd,r.len,fun k a xs e1 e2=>?_,r.tab.mono fun b o h _=>by rw[aJ (aM h Z)];exact h⟩
 obtain⟨vs,Y,X⟩:=r.get k a xs e1 e2;exact⟨vs,by rw[aJ (aM Y Z)];exact Y,RelDs.later r (fL Z) X⟩
theorem rJ(Z:H p=none):Ext ι H (ι++[p]) (upd H p o):=⟨⟨[p],rfl⟩,fun a Y h n _=>⟨by rw[aJ (aM h Z)];exact h,by
 have:a≠p:=aM h Z;simp[n,this]⟩⟩
theorem xT{p:cq}{xs:List D}{vs:List V}(r:Rep K ι H S)(Z:H p=none)(h:RelDs K ι H xs vs):Rep K (ι++[p]) (upd H p (.lst vs)) (S++[xs]):=by
 have U:Ext ι H (ι++[p]) (upd H p (.lst vs)):=rJ Z;refine⟨?_,by simp[r.len],fun k a ys e1 e2=>?_,r.tab.mono fun b o h _=>by rw[aJ (aM h Z)];exact h⟩
 ·rw[KU];refine⟨r.nd,by simp,fun a T b Q=>?_⟩
  have:b=p:=by simpa using Q
  subst this;rintro rfl;exact r.free Z T
 ·by_cases hk:k<ι.length
  ·rw[II hk]at e1;rw[II (by rw[<-r.len];exact hk)]at e2
   obtain⟨ws,X,R⟩:=r.get k a ys e1 e2;exact⟨ws,by rw[aJ (aM X Z)];exact X,RelDs.later r U R⟩
  ·have Y:k<(ι++[p]).length:=(HQ.mp e1).1;have:k=ι.length:=by simp at Y;omega
   subst this;simp at e1;rw[r.len]at e2;simp at e2;subst e1 e2;exact⟨vs,bg,RelDs.later r U h⟩
theorem m6:∀{l:List cq} {i j:Nat} {a:cq},l.Nodup->l[i]? =ar a->l[j]? =ar a->i=j
 |[],i,j,a,_,h,_=>by simp at h
 |x::r,0,0,a,_,_,_=>rfl
 |x::r,0,j+1,a,hn,h1,h2=>by
  simp at h1 h2;subst h1;exact absurd (IC h2) (IV.mp hn).1
 |x::r,i+1,0,a,hn,h1,h2=>by
  simp at h1 h2;subst h2;exact absurd (IC h1) (IV.mp hn).1
 |x::r,i+1,j+1,a,hn,h1,h2=>by
  simp at h1 h2;rw[m6 (IV.mp hn).2 h1 h2]
theorem qg(Z:a∈ι):Ext ι H ι (upd H a o):=⟨⟨[],by simp⟩,fun b Y h n _=>⟨by rw[aJ (fun z=>n (by rw[z];exact Z))];exact h,n⟩⟩
theorem qh{a:cq}{k:Nat}{xs:List D}{vs:List V}(r:Rep K ι H S)(Z:ι[k]? =ar a)(h:RelDs K ι H xs vs):Rep K ι (upd H a (.lst vs)) (S.set k xs):=by
 have Y:a∈ι:=IC Z;have X:Ext ι H ι (upd H a (.lst vs)):=qg Y;refine⟨r.nd,by simp[r.len],fun j b ys e1 e2=>?_,r.tab.mono fun b o h n=>by
  obtain⟨ws,hw⟩:=r.isL Y;rw[aJ (fun z=>by subst z;rw[h]at hw;exact n ws (Il hw))];exact h⟩
 by_cases hj:j=k
 ·subst hj;rw[Z]at e1;cases e1;have T:j<S.length:=by rw[<-r.len];exact(HQ.mp Z).1
  rw[IF T]at e2;cases e2;exact⟨vs,bg,RelDs.later r X h⟩
 ·rw[IQ (i' hj)]at e2;obtain⟨ws,R,U⟩:=r.get j b ys e1 e2;have Q:b≠a:=by
   rintro rfl;exact hj (m6 r.nd e1 Z)
  exact⟨ws,by rw[aJ Q];exact R,RelDs.later r X U⟩
end
abbrev XD:=D->List cq->ay->Hp->Prop
def cont(K:dn)(E:XD){α:Type}(c:M α)(ι:List cq)(S:ay)(H:Hp)(Q:α->List cq->ay->Hp->Prop):Prop:=
 ∃r S',c S=ar (r,S')/\∀ ι' H',Ext ι H ι' H'->Rep K ι' H' S'->match r with
  | .ok a=>Q a ι' S' H'
  | .ex x=>E x ι' S' H'
section
variable {K:dn}{E:XD}{ι:List cq}{S:ay}{H:Hp}{α β:Type}
theorem ai{c:M α}{f:α->M β}{Q:β->List cq->ay->Hp->Prop}(h:cont K E (c>>=f) ι S H Q):cont K E c ι S H (fun a Z S1 X=>cont K E (f a) Z S1 X Q):=by
 obtain⟨r,T,e,k⟩:=h;have Y:M.bnd c f S=ar (r,T):=e;unfold M.bnd at Y;cases q:c S with
 |none=>rw[q]at Y;cases Y
 | some p=>
  obtain⟨P,S1⟩:=p;rw[q]at Y;cases P with
  |ok a=>exact⟨.ok a,S1,q,fun Z X x1 rep1=>⟨r,T,Y,fun U R x2 rep2=>k U R (x1.trans x2) rep2⟩⟩
  |ex x=>
   cases Y;exact⟨.ex x,_,q,fun Z X x1 rep1=>k Z X x1 rep1⟩
theorem av{c:M α}{Q U:α->List cq->ay->Hp->Prop}(h:cont K E c ι S H Q)(k:∀a ι' Z H',Ext ι H ι' H'->Rep K ι' H' Z->Q a ι' Z H'->U a ι' Z H'):cont K E c ι S H U:=by
 obtain⟨r,Z,e,q⟩:=h;refine⟨r,Z,e,fun Y X x1 rep1=>?_⟩;have:=q Y X x1 rep1;cases r with
 |ok a=>exact k a Y Z X x1 rep1 this
 |ex x=>exact this
theorem ag{a:α}{Q:α->List cq->ay->Hp->Prop}(h:cont K E (aC a) ι S H Q){Z:List cq}{Y:Hp}(x:Ext ι H Z Y)(r:Rep K Z Y S):Q a Z S Y:=by
 obtain⟨X,U,e,q⟩:=h;cases e;exact q Z Y x r
theorem ah{Q:α->List cq->ay->Hp->Prop}(h:cont K E (M.fail) ι S H Q):False:=by
 obtain⟨Z,Y,e,q⟩:=h;cases e
end
abbrev aB:=List (Option D)
inductive RelE(K:dn)(ι:List cq)(H:Hp):aB->St->Prop where
 |nil:RelE K ι H [] []
 |cons {o:Option D} {u:Option V} {ρ:aB} {σ:St}:(∀d,o=ar d->∃v,u=ar v/\RelD K ι H d v)->RelE K ι H ρ σ->RelE K ι H (o::ρ) (u::σ)
section
variable {K:dn}{ι ι':List cq}{S:ay}{H H':Hp}
theorem RelE.later(r:Rep K ι H S)(e:Ext ι H ι' H'):∀{ρ:aB} {σ:St},RelE K ι H ρ σ->RelE K ι' H' ρ σ
 |_,_,.nil=>.nil
 |_,_,.cons h t=>.cons (fun d z=>let ⟨v,e1,e2⟩:=h d z;⟨v,e1,RelD.later r e e2⟩) (RelE.later r e t)
theorem RelE.get:∀{ρ:aB} {σ:St} {i:Nat} {d:D},RelE K ι H ρ σ->ρ[i]? =ar (ar d)->∃v,σ[i]? =ar (ar v)/\RelD K ι H d v
 |_,_,_,_,.nil,e=>by simp at e
 |_,_,0,_,.cons h _,e=>by
  simp at e;obtain⟨v,e1,e2⟩:=h _ e;exact⟨v,by simp[e1],e2⟩
 |_,_,i+1,_,.cons _ t,e=>by
  obtain⟨v,Y,Z⟩:=RelE.get (i:=i) t (by simpa using e)
  exact⟨v,by simpa using Y,Z⟩
theorem RelE.set(r:RelD K ι H d v):∀{ρ:aB} {σ:St} (i:Nat),RelE K ι H ρ σ->RelE K ι H (ρ.set i (ar d)) (σ.set i (ar v))
 |_,_,_,.nil=>.nil
 |_,_,0,.cons _ t=>.cons (fun d' z=>by cases z;exact⟨v,rfl,r⟩) t
 |_,_,i+1,.cons q t=>.cons q (RelE.set r i t)
theorem RelE.start:∀{ds:List D} {vs:List V},RelDs K ι H ds vs->∀n,RelE K ι H (ds.map ar++dV n none) (vs.map ar++dV n none)
 |_,_,.nil,n=>by
  induction n with
  |zero=>exact .nil
  |succ n ih=>exact .cons (fun d z=>by cases z) ih
 |_,_,.cons r t,n=>.cons (fun d z=>by cases z;exact⟨_,rfl,r⟩) (RelE.start t n)
end
abbrev TM:=aB->M D
def kR(K:dn)(Q:VK):D->List cq->ay->Hp->Prop:=fun d ι' _ H'=>∀v,RelD K ι' H' d v->Q v H'
def tM(K:dn)(E:XD)(m:TM):TE:=fun σ H Q=>∃ ι S ρ,Rep K ι H S/\RelE K ι H ρ σ/\cont K E (m ρ) ι S H (kR K Q)
def SE(X:Cx)(E:XD)(e:Expr)(m:TM):Prop:=PE X e (tM X.K E m)
def BX(K:dn)(E:XD)(m:aB->M Bool):TT:=fun σ H Q=>∃ ι S ρ,Rep K ι H S/\RelE K ι H ρ σ/\cont K E (m ρ) ι S H (fun b _ _ H'=>Q b H')
def SB(X:Cx)(E:XD)(e:Expr)(m:aB->M Bool):Prop:=PT X e (BX X.K E m)
def C6(X:Cx)(E:XD)(e:Expr)(m:aB->M Bool):Prop:=PW X e (BX X.K E m)
def GR(K:dn)(E:XD)(m:aB->M (List D)):TA:=fun σ H Q=>∃ ι S ρ,Rep K ι H S/\RelE K ι H ρ σ/\cont K E (m ρ) ι S H (fun ds ι' _ H'=>∀vs,RelDs K ι' H' ds vs->Q vs H')
def SA(X:Cx)(E:XD)(es:List Expr)(m:aB->M (List D)):Prop:=PA X es (GR X.K E m)
inductive Out where
 |nx (ρ:aB)|ret (d:D)|bk (ρ:aB)|ct (ρ:aB)
abbrev cM:=aB->M Out
def C7(K:dn)(T:Ends):Out->List cq->ay->Hp->Prop:=fun o ι' _ H'=>match o with
 | .nx ρ=>∀ σ,RelE K ι' H' ρ σ->T.nx σ H'
 | .ret d=>∀v,RelD K ι' H' d v->T.rt v H'
 | .bk ρ=>∀ σ,RelE K ι' H' ρ σ->T.bk σ H'
 | .ct ρ=>∀ σ,RelE K ι' H' ρ σ->T.ct σ H'
def Hf(K:dn)(E:XD)(m:cM):TS:=fun T σ H=>∃ ι S ρ,Rep K ι H S/\RelE K ι H ρ σ/\cont K E (m ρ) ι S H (C7 K T)
def SS(X:Cx)(E:XD)(st:mu)(m:cM):Prop:=PS X st (Hf X.K E m)
def rK(X:Cx)(E:XD)(st:List mu)(m:cM):Prop:=oz X st (Hf X.K E m)
abbrev m7:=D->aB->M aB
def EZ(K:dn)(E:XD)(m:m7):TG:=fun v σ H Q=>∃ ι S ρ d,Rep K ι H S/\RelE K ι H ρ σ/\RelD K ι H d v/\cont K E (m d ρ) ι S H (fun ρ' ι' _ H'=>∀ σ',RelE K ι' H' ρ' σ'->Q σ' H')
def SG(X:Cx)(E:XD)(tg:Expr)(m:m7):Prop:=PG X tg (EZ X.K E m)
theorem PE.imp{X:Cx}{e:Expr}{t t':TE}(h:PE X e t)(k:∀ σ H Q,t' σ H Q->t σ H Q):PE X e t':=fun pins s σ H Q I hw=>h pins s σ H Q I (k σ H Q hw)
theorem PT.imp{X:Cx}{e:Expr}{t t':TT}(h:PT X e t)(k:∀ σ H Q,t' σ H Q->t σ H Q):PT X e t':=fun pins s σ H Q I hw=>h pins s σ H Q I (k σ H Q hw)
theorem PW.imp{X:Cx}{e:Expr}{t t':TT}(h:PW X e t)(k:∀ σ H Q,t' σ H Q->t σ H Q):PW X e t':=fun Z pins s σ H Q I hw=>h Z pins s σ H Q I (k σ H Q hw)
theorem PA.imp{X:Cx}{e:List Expr}{t t':TA}(h:PA X e t)(k:∀ σ H Q,t' σ H Q->t σ H Q):PA X e t':=fun pos pins s σ H Q I hw=>h pos pins s σ H Q I (k σ H Q hw)
theorem PS.imp{X:Cx}{e:mu}{t t':TS}(h:PS X e t)(k:∀D σ H,t' D σ H->t D σ H):PS X e t':=fun pins s σ H D I hw=>h pins s σ H D I (k D σ H hw)
theorem oz.imp{X:Cx}{e:List mu}{t t':TS}(h:oz X e t)(k:∀D σ H,t' D σ H->t D σ H):oz X e t':=fun pins s σ H D I hw=>h pins s σ H D I (k D σ H hw)
theorem PG.imp{X:Cx}{e:Expr}{t t':TG}(h:PG X e t)(k:∀v σ H Q,t' v σ H Q->t v σ H Q):PG X e t':=fun pins s σ H v u Q I r hw=>h pins s σ H v u Q I r (k v σ H Q hw)
section
variable {X:Cx}{E:XD}{a b e:Expr}{m n:TM}{pos:Pos}
def BY(ρ:aB)(i:Nat):M D:=match ρ[i]? with
 |some (ar d)=>aC d
 |_=>M.fail
theorem ae(i:Nat)(U:X.N[i]? =ar x:=by rfl)(W:BQ X.env.scope x:=by first|exact L0 rfl|exact LK (L0 rfl)|exact LK (LK rfl))(Y:(x==("__debug__":Str))=false:=by decide)
  (Z:(x==("__classdict__":Str))=false:=by decide):SE X E (.Name x pos) (fun ρ=>BY ρ i):=by
 refine PE.imp (tI U W Y Z) fun σ H Q h=>?_;obtain⟨T,S,ρ,rep,re,c⟩:=h;unfold BY at c;dsimp only at c;split at c
 ·next d Y=>
  obtain⟨v,e1,e2⟩:=re.get Y;exact⟨v,e1,ag c .refl rep v e2⟩
 ·exact(ah c).elim
theorem iW(h:PE X e (tC v))(Y:∀Z H,RelD X.K Z H d v):SE X E e (fun _=>aC d):=by
 refine PE.imp h fun σ H Q h=>?_;obtain⟨Z,S,ρ,rep,re,c⟩:=h;exact ag c .refl rep v (Y _ _)
theorem aq{j}:SE X E (.Constant (.int i) j pos) (fun _=>aC (.int i)):=iW xq fun _ _=>.int i
theorem iK{j}:SE X E (.Constant (.bool i) j pos) (fun _=>aC (.bl i)):=iW En fun _ _=>.bl i
theorem m9{j}:SE X E (.Constant .none j pos) (fun _=>aC .non):=iW Co fun _ _=>.non
theorem ic{j}:SE X E (.Constant (.str x) j pos) (fun _=>aC (.str x)):=iW Cp fun _ _=>.str x
theorem AG(W:Gl X x)(Z:X.mg x=ar (.int i t))(Y:(x==("__debug__":Str))=false:=by decide):SE X E (.Name x pos) (fun _=>aC (.int i)):=
 iW (pW W Z (v:=.int i) ⟨t,rfl⟩ Y) fun _ _=>.int i
def rp(K:dn)(E:XD)(f:D->D->M D)(r:R2):Prop:=
 ∀ ι S H d1 d2 v1 v2 Q,Rep K ι H S->RelD K ι H d1 v1->RelD K ι H d2 v2->cont K E (f d1 d2) ι S H (kR K Q)->r v1 v2 H Q
theorem AH(T:rp X.K E f r)(h:tM X.K E (fun ρ=>do let x<-m ρ;let y<-n ρ;f x y) σ H Q):EF r (tM X.K E m) (tM X.K E n) σ H Q:=by
 obtain⟨U,S,ρ,rep,re,c⟩:=h;refine⟨U,S,ρ,rep,re,av (ai c) fun x Z S1 L e1 rep1 R v1 N=>?_⟩;refine⟨Z,S1,ρ,rep1,re.later rep e1,av (ai R) fun y Y S2 O e2 rep2 W v2 P=>?_⟩;exact T Y S2 O x y v1 v2 Q rep2 (N.later rep1 e2) P W
theorem ng(h:gT X (m1 op) r)(W:rp X.K E f r)(Y:SE X E a m)(Z:SE X E b n):SE X E (.BinOp a op b pos) (fun ρ=>do let x<-m ρ;let y<-n ρ;f x y):=
 PE.imp (EG h Y Z) fun _ _ _ q=>AH W q
theorem qi(h:gT X (hO op) r)(W:rp X.K E f r)(Y:SE X E a m)(Z:SE X E b n)(U:i1 op b=false:=by first|exact mS _ (by decide) (by decide)|rfl):
  SE X E (.Compare a [op] [b] pos) (fun ρ=>do let x<-m ρ;let y<-n ρ;f x y):=
 PE.imp (As h Y Z U) fun _ _ _ q=>AH W q
theorem E3(h:Ag X r)(W:rp X.K E f r)(Y:SE X E a m)(Z:SE X E b n)(hs:pY b:=by intro _ _;rfl):SE X E (.Subscript a b pos) (fun ρ=>do let x<-m ρ;let y<-n ρ;f x y):=
 PE.imp (ES h Y Z hs) fun _ _ _ q=>AH W q
end
def lim:Nat:=10000000
theorem fy:lim<=sizeLine:=by rw[Jm];decide
theorem C8:lim<sizeLine:=by rw[Jm];decide
section
variable {K:dn}{ι:List cq}{H:Hp}
theorem RelD.bl_inv(h:RelD K ι H (.bl b) v):v= .bl b:=by cases h;rfl
theorem RelD.int_inv(h:RelD K ι H (.int b) v):v= .int b:=by cases h;rfl
theorem RelD.str_inv(h:RelD K ι H (.str b) v):v= .str b:=by cases h;rfl
theorem RelD.non_inv(h:RelD K ι H .non v):v= .non:=by cases h;rfl
theorem RelD.tup_inv(h:RelD K ι H (.tup ds) v):∃a vs,v= .ref a/\H a=ar (.tup vs)/\RelDs K ι H ds vs:=by
 cases h with
 |tup h1 h2=>exact⟨_,_,rfl,h1,h2⟩
theorem RelD.lst_inv(h:RelD K ι H (.lst k) v):∃a,v= .ref a/\ι[k]? =ar a:=by
 cases h with
 |lst h1=>exact⟨_,rfl,h1⟩
theorem RelD.ro_inv(h:RelD K ι H (.ro ds) v):∃a vs,v= .ref a/\Ah K H a vs/\RelDs K ι H ds vs:=by
 cases h with
 |ro h1 h2=>exact⟨_,_,rfl,h1,h2⟩
theorem RelD.fz_inv(h:RelD K ι H (.fz ds) v):∃a o vs,v= .ref a/\H a=ar (.frz o (.lst vs))/\RelDs K ι H ds vs:=by
 cases h with
 |fz h1 h2=>exact⟨_,_,_,rfl,h1,h2⟩
theorem RelDs.nil_inv(h:RelDs K ι H [] vs):vs=[]:=by cases h;rfl
theorem RelDs.cons_inv(h:RelDs K ι H (d::ds) vs):∃v ws,vs=v::ws/\RelD K ι H d v/\RelDs K ι H ds ws:=by
 cases h with
 |cons h1 h2=>exact⟨_,_,rfl,h1,h2⟩
end
def ie:D->M Bool
 | .bl b=>aC b
 |_=>M.fail
def getL(k:Nat):M (List D):=fun S=>(S[k]?).bind fun xs=>ar (.ok xs,S)
def bq(ds:List D):M D:=fun S=>if ds.length<=lim then ar (.ok (.lst S.length),S++[ds])else none
def jN(k:Nat)(ds:List D):M D:=fun S=>if ds.length<=lim/\k<S.length then ar (.ok .non,S.set k ds)else none
def bY(ds:List D):M D:=if ds.length<=lim then aC (.tup ds)else M.fail
section
variable {K:dn}{E:XD}{ι:List cq}{S:ay}{H:Hp}{α:Type}
theorem mD{f:Bool->M α}(Z:Rep K ι H S)(r:RelD K ι H x v)(c:cont K E (ie x>>=f) ι S H Q):∃b,v= .bl b/\x= .bl b/\cont K E (f b) ι S H Q:=by
 cases x with
 |bl b=>exact⟨b,r.bl_inv,rfl,ag (ai c) .refl Z⟩
 |_=>exact(ah (ai c)).elim
theorem nh{Q:Bool->List cq->ay->Hp->Prop}(Z:Rep K ι H S)(r:RelD K ι H x v)(c:cont K E (ie x) ι S H Q):∃b,v= .bl b/\x= .bl b/\Q b ι S H:=by
 cases x with
 |bl b=>exact⟨b,r.bl_inv,rfl,ag c .refl Z⟩
 |_=>exact(ah c).elim
theorem wt{Q:D->List cq->ay->Hp->Prop}(c:cont K E (bq ds) ι S H Q)(Z:Rep K ι H S)(r:RelDs K ι H ds vs):
  vs.length<=lim/\∀p,H p=none->Q (.lst S.length) (ι++[p]) (S++[ds]) (upd H p (.lst vs)):=by
 obtain⟨X,U,e,q⟩:=c;unfold bq at e;split at e
 ·next hl=>
  cases e;exact⟨by rw[<-r.length];exact hl,fun p Y=>q _ _ (rJ Y) (xT Z Y r)⟩
 ·cases e
theorem xU(Z:Rep K ι H S):RelD K (ι++[p]) H' (.lst S.length) (.ref p):=.lst (by rw[<-Z.len];simp)
theorem bu{Q:VK}(c:cont K E (bq ds) ι S H (kR K Q))(Z:Rep K ι H S)(r:RelDs K ι H ds vs):vs.length<=lim/\∀p,H p=none->Q (.ref p) (upd H p (.lst vs)):=
 let ⟨h1,h2⟩:=wt c Z r
 ⟨h1,fun p Y=>h2 p Y _ (xU Z)⟩
theorem fU{Q:VK}(c:cont K E (bY ds) ι S H (kR K Q))(Z:Rep K ι H S)(r:RelDs K ι H ds vs):vs.length<=lim/\∀p,H p=none->Q (.ref p) (upd H p (.tup vs)):=by
 unfold bY at c;split at c
 ·next hl=>
  refine⟨by rw[<-r.length];exact hl,fun p Y=>?_⟩
  exact ag c (fL Y) (ib Z Y) _ (.tup bg (r.later Z (fL Y)))
 ·exact(ah c).elim
theorem ig{Q:VK}(c:cont K E (bY ds) ι S H (kR K Q))(Z:Rep K ι H S)(h:H a=ar (.tup vs))(r:RelDs K ι H ds vs):Q (.ref a) H:=by
 unfold bY at c;split at c
 ·exact ag c .refl Z _ (.tup h r)
 ·exact(ah c).elim
theorem a8{f:List D->M α}(c:cont K E (getL k>>=f) ι S H Q)(Z:Rep K ι H S)(X:ι[k]? =ar a):
  ∃ds vs,S[k]? =ar ds/\H a=ar (.lst vs)/\RelDs K ι H ds vs/\cont K E (f ds) ι S H Q:=by
 obtain⟨T,R,e,q⟩:=ai c;unfold getL at e;cases z:S[k]? with
 |none=>rw[z]at e;cases e
 |some ds=>
  rw[z]at e;cases e;obtain⟨vs,Y,U⟩:=Z.get k a ds X z;exact⟨ds,vs,rfl,Y,U,q ι H .refl Z⟩
theorem gW{Q:D->List cq->ay->Hp->Prop}(c:cont K E (jN k ds) ι S H Q)(Z:Rep K ι H S)(Y:ι[k]? =ar a)(r:RelDs K ι H ds vs):
  vs.length<=lim/\Q .non ι (S.set k ds) (upd H a (.lst vs)):=by
 obtain⟨X,U,e,q⟩:=c;unfold jN at e;split at e
 ·next hl=>
  cases e;exact⟨by rw[<-r.length];exact hl.1,q _ _ (qg (IC Y)) (qh Z Y r)⟩
 ·cases e
end
section
variable {X:Cx}{E:XD}{a b e:Expr}{m n:TM}{pos:Pos}{rest es:List Expr}{ms:aB->M (List D)}{t u:aB->M Bool}
theorem iX{op}(h:SE X E a m):SE X E (.BoolOp op [a] pos) m:=Cu h
theorem iY(W:SE X E a m)(R:SE X E (.BoolOp .And (b::rest) pos) n):SE X E (.BoolOp .And (a::b::rest) pos) (fun ρ=>do let x<-m ρ;let c<-ie x;if c=b_ then n ρ else aC (.bl dr)):=by
 refine PE.imp (Cv W R) fun σ H Q h=>?_;obtain⟨U,S,ρ,rep,re,c⟩:=h;refine⟨U,S,ρ,rep,re,av (ai c) fun x Z S1 O e1 rep1 T v1 P=>?_⟩;obtain⟨k,rfl,rfl,Y⟩:=mD rep1 P T;refine⟨k,rfl,?_⟩;cases k with
 |true=>exact⟨Z,S1,ρ,rep1,re.later rep e1,Y⟩
 |false=>exact ag Y .refl rep1 _ (.bl dr)
theorem E4(W:SE X E a m)(R:SE X E (.BoolOp .Or (b::rest) pos) n):SE X E (.BoolOp .Or (a::b::rest) pos) (fun ρ=>do let x<-m ρ;let c<-ie x;if c=b_ then aC (.bl b_)else n ρ):=by
 refine PE.imp (Es W R) fun σ H Q h=>?_;obtain⟨U,S,ρ,rep,re,c⟩:=h;refine⟨U,S,ρ,rep,re,av (ai c) fun x Z S1 O e1 rep1 T v1 P=>?_⟩;obtain⟨k,rfl,rfl,Y⟩:=mD rep1 P T;refine⟨k,rfl,?_⟩;cases k with
 |false=>exact⟨Z,S1,ρ,rep1,re.later rep e1,Y⟩
 |true=>exact ag Y .refl rep1 _ (.bl b_)
theorem C9(Y:SE X E a m):SE X E (.UnaryOp .Not a pos) (fun ρ=>do let x<-m ρ;let c<-ie x;aC (.bl (!c))):=by
 refine PE.imp (Cw Y) fun σ H Q h=>?_;obtain⟨W,S,ρ,rep,re,c⟩:=h;refine⟨W,S,ρ,rep,re,av (ai c) fun x U S1 P e1 rep1 T v1 R=>?_⟩;obtain⟨k,rfl,rfl,Z⟩:=mD rep1 R T;exact⟨k,rfl,ag Z .refl rep1 _ (.bl _)⟩
theorem xV(R:SB X E c t)(W:SE X E a m)(T:SE X E b n):SE X E (.IfExp c a b pos) (fun ρ=>do let k<-t ρ;if k=b_ then m ρ else n ρ):=by
 refine PE.imp (xr R W T) fun σ H Q h=>?_;obtain⟨U,S,ρ,rep,re,c⟩:=h;refine⟨U,S,ρ,rep,re,av (ai c) fun k Z S1 P e1 rep1 Y=>?_⟩;cases k with
 |true=>exact⟨Z,S1,ρ,rep1,re.later rep e1,Y⟩
 |false=>exact⟨Z,S1,ρ,rep1,re.later rep e1,Y⟩
theorem E5(h:BX X.K E (fun ρ=>do let x<-m ρ;ie x) σ H Q):tB (tM X.K E m) σ H Q:=by
 obtain⟨Y,S,ρ,rep,re,c⟩:=h;refine⟨Y,S,ρ,rep,re,av (ai c) fun x W S1 R e1 rep1 U v1 T=>?_⟩;obtain⟨k,rfl,rfl,Z⟩:=nh rep1 T U;exact⟨k,rfl,Z⟩
theorem fA(h:SE X E e m)(Z:∀whole,isTrue e X.env whole=(do let v<-whole;G4 e.pos;s_ [v] (LZ v)):=by intro _;rfl):SB X E e (fun ρ=>do let x<-m ρ;ie x):=
 PT.imp (Cq h Z) fun _ _ _ q=>E5 q
theorem jO(h:gT X (hO op) r)(T:rp X.K E f r)(Y:SE X E a m)(N:SE X E b n)(O:i1 op b=false:=by first|exact mS _ (by decide) (by decide)|rfl):
  SB X E (.Compare a [op] [b] pos) (fun ρ=>do let z<-(do let x<-m ρ;let y<-n ρ;f x y);ie z):=
 PT.imp (uN h Y N O) fun σ H Q q=>by
  obtain⟨U,S,ρ,rep,re,c⟩:=q;refine AH T (Q:=fun x W=>∃k,x= .bl k/\Q k W) ⟨U,S,ρ,rep,re,av (ai c) fun x R S1 J e1 rep1 P v1 L=>?_⟩;obtain⟨k,rfl,rfl,Z⟩:=nh rep1 L P;exact⟨k,rfl,Z⟩
theorem iZ(h:SB X E a t):SB X E (.UnaryOp .Not a pos) (fun ρ=>do let c<-t ρ;aC (!c)):=by
 refine PT.imp (Ct h) fun σ H Q q=>?_;obtain⟨Z,S,ρ,rep,re,c⟩:=q;exact⟨Z,S,ρ,rep,re,av (ai c) fun k Y S1 U e1 rep1 W=>ag W .refl rep1⟩
theorem jt(h:SB X E a t):C6 X E (.BoolOp .And [a] pos) t:=Ak h
theorem tY(h:SB X E a t):C6 X E (.BoolOp .Or [a] pos) t:=Cr h
theorem ll(W:SB X E a t)(T:C6 X E (.BoolOp .And (b::rest) pos) u):C6 X E (.BoolOp .And (a::b::rest) pos) (fun ρ=>do let c<-t ρ;if c=b_ then u ρ else aC dr):=by
 refine PW.imp (Cs W T) fun σ H Q q=>?_;obtain⟨U,S,ρ,rep,re,c⟩:=q;refine⟨U,S,ρ,rep,re,av (ai c) fun k Z S1 R e1 rep1 Y=>?_⟩;cases k with
 |true=>exact⟨Z,S1,ρ,rep1,re.later rep e1,Y⟩
 |false=>exact ag Y .refl rep1
theorem rL(W:SB X E a t)(T:C6 X E (.BoolOp .Or (b::rest) pos) u):C6 X E (.BoolOp .Or (a::b::rest) pos) (fun ρ=>do let c<-t ρ;if c=b_ then aC b_ else u ρ):=by
 refine PW.imp (Eo W T) fun σ H Q q=>?_;obtain⟨U,S,ρ,rep,re,c⟩:=q;refine⟨U,S,ρ,rep,re,av (ai c) fun k Z S1 R e1 rep1 Y=>?_⟩;cases k with
 |false=>exact⟨Z,S1,ρ,rep1,re.later rep e1,Y⟩
 |true=>exact ag Y .refl rep1
theorem qj(h:C6 X E e t):SB X E e t:=PW.pt h
theorem au:SA X E [] (fun _=>aC []):=by
 refine PA.imp lb fun σ H Q q=>?_;obtain⟨Z,S,ρ,rep,re,c⟩:=q;exact ag c .refl rep _ .nil
theorem af(W:SE X E e m)(P:SA X E es ms)(hs:dt (e::es) X.env=(dr,gd e X.env)::dt es X.env:=by rfl):SA X E (e::es) (fun ρ=>do let x<-m ρ;let xs<-ms ρ;aC (x::xs)):=by
 refine PA.imp (eS W P hs) fun σ H Q q=>?_;obtain⟨U,S,ρ,rep,re,c⟩:=q;refine⟨U,S,ρ,rep,re,av (ai c) fun x Z S1 K e1 rep1 T v1 N=>?_⟩;refine⟨Z,S1,ρ,rep1,re.later rep e1,av (ai T) fun xs R S2 L e2 rep2 Y vs O=>?_⟩;exact ag Y .refl rep2 _ (.cons (N.later rep1 e2) O)
theorem dQ{x1}(h:SA X E es ms):SE X E (.Tuple es x1 pos) (fun ρ=>do let ds<-ms ρ;bY ds):=by
 refine PE.imp (xG h) fun σ H Q q=>?_;obtain⟨Z,S,ρ,rep,re,c⟩:=q;refine⟨Z,S,ρ,rep,re,av (ai c) fun x Y S1 P e1 rep1 W vs R=>?_⟩;obtain⟨T,U⟩:=fU W rep1 R;exact⟨HX T fy,U⟩
theorem bf(h:SA X E es ms):SE X E (.List es pos) (fun ρ=>do let ds<-ms ρ;bq ds):=by
 refine PE.imp (CS h) fun σ H Q q=>?_;obtain⟨Z,S,ρ,rep,re,c⟩:=q;refine⟨Z,S,ρ,rep,re,av (ai c) fun x Y S1 P e1 rep1 W vs R=>?_⟩;obtain⟨T,U⟩:=bu W rep1 R;exact⟨HX T fy,U⟩
def jE(K:dn)(E:XD)(f:List D->M D)(r:List V->Hp->VK->Prop):Prop:=
 ∀ ι S H ds vs Q,Rep K ι H S->RelDs K ι H ds vs->cont K E (f ds) ι S H (kR K Q)->r vs H Q
theorem E6(W:jE X.K E f r)(h:tM X.K E (fun ρ=>do let ds<-ms ρ;f ds) σ H Q):GK r (GR X.K E ms) σ H Q:=by
 obtain⟨Y,S,ρ,rep,re,c⟩:=h;exact⟨Y,S,ρ,rep,re,av (ai c) fun ds Z S1 U e1 rep1 T vs R=>W Z S1 U ds vs Q rep1 R T⟩
theorem gX{x:Str}{W:String}{f:List D->M D}{r:List V->Hp->VK->Prop}{p:Pos}(P:dj X (.builtin W) r)(S:jE X.K E f r)(N:Gl X x)(Q:X.mg x=none)(R:i4 x=ar (.builtin W))(T:SA X E (e::es) ms)
  (O:x≠"__name__":=by decide) (Z:(x==("__debug__":Str))=false:=by decide) (U:dt (e::es) X.env=(dr,gd e X.env)::dt es X.env:=by rfl) (Y:(n_ pos (dt es X.env)).any (·.1)=false:=by rfl):
  SE X E (.Call (.Name x p) (e::es) [] pos) (fun ρ=>do let ds<-ms ρ;f ds):=
 PE.imp (kc P N Q R T O Z U Y) fun _ _ _ q=>E6 S q
theorem pe(P:dj X (.type T) r)(S:jE X.K E f r)(N:Gl X x)(Q:X.mg x=none)(R:i4 x=ar (.type T))(U:SA X E (e::es) ms)
  (O:x≠"__name__":=by decide) (Z:(x==("__debug__":Str))=false:=by decide) (W:dt (e::es) X.env=(dr,gd e X.env)::dt es X.env:=by rfl) (Y:(n_ pos (dt es X.env)).any (·.1)=false:=by rfl):
  SE X E (.Call (.Name x p) (e::es) [] pos) (fun ρ=>do let ds<-ms ρ;f ds):=
 PE.imp (lg P N Q R U O Z W Y) fun _ _ _ q=>E6 S q
abbrev ey:XD:=fun _ _ _ _=>False
def HA(K:dn)(F:List D->M D):Sp:=fun vs H Q _=>∃ ι S ds,Rep K ι H S/\RelDs K ι H ds vs/\cont K ey (F ds) ι S H (kR K Q)
def FY(K:dn)(E:XD)(f:D->List D->M D)(r:V->List V->Hp->VK->Prop):Prop:=
 ∀ ι S H d ds v vs Q,Rep K ι H S->RelD K ι H d v->RelDs K ι H ds vs->cont K E (f d ds) ι S H (kR K Q)->r v vs H Q
end
theorem ij{K:dn}{E:XD}{α:Type}{c:M α}{U Z:List cq}{S:ay}{H X:Hp}{Q:α->List cq->ay->Hp->Prop}(h:cont K E c U S H Q)(e:Ext U H Z X):cont K E c Z S X Q:=by
 obtain⟨r,T,q,k⟩:=h;exact⟨r,T,q,fun Y R x2 rep2=>k Y R (e.trans x2) rep2⟩
section
variable {X:Cx}{E:XD}{st:mu}{sts:List mu}{m n:cM}{e:Expr}{me:TM}{t:aB->M Bool}{pos:Pos}{g:m7}
def xW(o:Out)(n:cM):M Out:=match o with
 | .nx ρ=>n ρ
 | .ret d=>aC (.ret d)
 | .bk ρ=>aC (.bk ρ)
 | .ct ρ=>aC (.ct ρ)
theorem bJ:rK X E [] (fun ρ=>aC (.nx ρ)):=by
 refine oz.imp Al fun T σ H h=>?_;obtain⟨Z,S,ρ,rep,re,c⟩:=h;exact ag c .refl rep σ re
theorem ax(Q:SS X E st m)(R:rK X E sts n):rK X E (st::sts) (fun ρ=>do let o<-m ρ;xW o n):=by
 refine oz.imp (xt Q R) fun T σ H h=>?_;obtain⟨U,S,ρ,rep,re,c⟩:=h;refine⟨U,S,ρ,rep,re,av (ai c) fun o Y S1 O e1 rep1 Z=>?_⟩;cases o with
 |nx ρ'=>exact fun P W=>⟨Y,S1,ρ',rep1,W,Z⟩
 |ret d=>exact ag Z .refl rep1
 |bk ρ'=>exact ag Z .refl rep1
 |ct ρ'=>exact ag Z .refl rep1
theorem aI(Z:SS X E st m):rK X E [st] m:=by
 refine oz.imp (uM Z) fun T σ H h=>h
theorem eT(U:SE X E e me)(hs:j3 e none pos.line X.env=aC false:=by rfl):SS X E (.Expr e pos) (fun ρ=>do let _<-me ρ;aC (.nx ρ)):=by
 refine PS.imp (Am U hs) fun T σ H h=>?_;obtain⟨Z,S,ρ,rep,re,c⟩:=h;refine⟨Z,S,ρ,rep,re,av (ai c) fun d Y S1 R e1 rep1 W v r=>?_⟩;exact ag W .refl rep1 σ (re.later rep e1)
theorem aX(Z:SE X E e me):SS X E (.Return (ar e) pos) (fun ρ=>do let d<-me ρ;aC (.ret d)):=by
 refine PS.imp (Cy Z) fun T σ H h=>?_;obtain⟨Y,S,ρ,rep,re,c⟩:=h;exact⟨Y,S,ρ,rep,re,av (ai c) fun d W S1 R e1 rep1 U=>ag U .refl rep1⟩
theorem cB(Q:SB X E e t)(W:rK X E a m)(R:rK X E b n):SS X E (.If e a b pos) (fun ρ=>do let c<-t ρ;if c=b_ then m ρ else n ρ):=by
 refine PS.imp (Ew Q W R) fun T σ H h=>?_;obtain⟨U,S,ρ,rep,re,c⟩:=h;refine⟨U,S,ρ,rep,re,av (ai c) fun k Z S1 P e1 rep1 Y=>?_⟩;cases k with
 |true=>exact⟨Z,S1,ρ,rep1,re.later rep e1,Y⟩
 |false=>exact⟨Z,S1,ρ,rep1,re.later rep e1,Y⟩
theorem aO(i:Nat)(W:X.N.Nodup)(Y:X.N[i]? =ar x:=by rfl)(U:Loc X.env.scope x:=by first|exact L0 rfl|exact LK rfl)(Z:X.fn x=b_\/X.env.scope.names.lookup x=ar .local:=by first|exact .inl rfl|exact .inr rfl|assumption):
  SG X E (.Name x pos) (fun d ρ=>aC (ρ.set i (ar d))):=by
 refine PG.imp (An W Y U Z) fun v σ H Q h=>?_;obtain⟨T,S,ρ,d,rep,re,r,c⟩:=h;exact ag c .refl rep _ (re.set r i)
def GS(K:dn)(E:XD)(m:List D->aB->M aB):Cz:=fun vs σ H Q=>∃ ι S ρ ds,Rep K ι H S/\RelE K ι H ρ σ/\RelDs K ι H ds vs/\cont K E (m ds ρ) ι S H (fun ρ' ι' _ H'=>∀ σ',RelE K ι' H' ρ' σ'->Q σ' H')
def FZ(X:Cx)(E:XD)(ts:List Expr)(m:List D->aB->M aB):Prop:=Ae X ts (GS X.K E m)
theorem Ae.imp{X:Cx}{e:List Expr}{t t':Cz}(h:Ae X e t)(k:∀v σ H Q,t' v σ H Q->t v σ H Q):Ae X e t':=fun pins s σ H v u Q I r hw=>h pins s σ H v u Q I r (k v σ H Q hw)
def ff:List D->aB->M aB:=fun ds ρ=>match ds with
 |[]=>aC ρ
 |_=>M.fail
def bw(g:m7)(gs:List D->aB->M aB):List D->aB->M aB:=fun ds ρ=>match ds with
 |d::r=>do let ρ1<-g d ρ;gs r ρ1
 |_=>M.fail
theorem eU:FZ X E [] ff:=by
 refine Ae.imp Ao fun vs σ H Q h=>?_;obtain⟨Z,S,ρ,ds,rep,re,r,c⟩:=h;cases ds with
 |nil=>exact⟨r.nil_inv,ag c .refl rep σ re⟩
 |cons d ds=>exact(ah c).elim
theorem bC(O:SG X E e g)(R:FZ X E es gs)(hs:(k8 (e::es) X.env).map (·.2)=A' e X.env::(k8 es X.env).map (·.2):=by rfl):FZ X E (e::es) (bw g gs):=by
 refine Ae.imp (xv O R hs) fun vs σ H Q h=>?_;obtain⟨U,S,ρ,ds,rep,re,r,c⟩:=h;cases ds with
 |nil=>exact(ah c).elim
 |cons d ds=>
  obtain⟨v,ws,rfl,L,N⟩:=r.cons_inv;refine⟨v,ws,rfl,U,S,ρ,d,rep,re,L,av (ai c) fun W Z S1 K e1 rep1 T P Y=>?_⟩;exact⟨Z,S1,W,ds,rep1,Y,N.later rep e1,T⟩
def eL(n:Nat)(gs:List D->aB->M aB):m7:=fun d ρ=>match d with
 | .tup ds=>if ds.length=n then gs ds ρ else M.fail
 |_=>M.fail
theorem gC{es:List Expr}{k:Nat}{n:Nat}{Y:List D->aB->M aB}(P:X.calm=b_)(h:FZ X E es Y)(T:(k8 es X.env).length=n:=by rfl)(Z:(k8 es X.env).findIdx? (·.1)=none:=by rfl):
  SG X E (.Tuple es k pos) (eL n Y):=by
 refine PG.imp (CB P h T Z) fun v σ H Q q=>?_;obtain⟨U,S,ρ,d,rep,re,r,c⟩:=q;cases d with
 |tup ds=>
  obtain⟨a,vs,rfl,R,W⟩:=r.tup_inv;dsimp only[eL]at c;split at c
  ·next hl=>exact⟨a,vs,rfl,kQ.of R,by rw[<-W.length];exact hl,U,S,ρ,ds,rep,re,W,c⟩
  ·exact(ah c).elim
 |_=>exact(ah c).elim
theorem jP(P:SE X E e me)(N:SG X E tg g)(hs:swapsWithSole [tg] e pos.line X.env=aC false:=by rfl)(R:swappedStores [tg] e X.env=aC none:=by rfl)
  (Q:(k8 [tg] X.env).map (·.2)=[A' tg X.env]:=by rfl):SS X E (.Assign [tg] e pos) (fun ρ=>do let d<-me ρ;let ρ'<-g d ρ;aC (.nx ρ')):=by
 refine PS.imp (CF P N hs R Q) fun T σ H h=>?_;obtain⟨W,S,ρ,rep,re,c⟩:=h;refine⟨W,S,ρ,rep,re,av (ai c) fun d Z S1 K e1 rep1 U v r=>?_⟩;exact⟨Z,S1,ρ,d,rep1,re.later rep e1,r,av (ai U) fun ρ' O S2 L e2 rep2 Y=>ag Y .refl rep2⟩
theorem br(i:Nat)(W:X.N.Nodup)(P:SE X E e me)(O:X.N[i]? =ar x:=by rfl)(U:Loc X.env.scope x:=by first|exact L0 rfl|exact LK rfl)(hs:j3 e (ar (.Name x pos')) pos.line X.env=aC false:=by rfl)
  (Q:X.fn x=b_\/X.env.scope.names.lookup x=ar .local:=by first|exact .inl rfl|exact .inr rfl|assumption):SS X E (.Assign [.Name x pos'] e pos) (fun ρ=>do let d<-me ρ;aC (.nx (ρ.set i (ar d)))):=by
 refine PS.imp (xw W O U P hs Q) fun T σ H h=>?_;obtain⟨Z,S,ρ,rep,re,c⟩:=h;refine⟨Z,S,ρ,rep,re,av (ai c) fun d Y S1 L e1 rep1 R v r=>?_⟩;exact ag R .refl rep1 _ ((re.later rep e1).set r i)
def GT(K:dn)(E:XD)(f:D->D->D->M Unit)(r:CA):Prop:=
 ∀ ι S H d1 d2 d3 v1 v2 v3 Q,Rep K ι H S->RelD K ι H d1 v1->RelD K ι H d2 v2->RelD K ι H d3 v3->cont K E (f d1 d2 d3) ι S H (fun _ _ _ H'=>Q H')->r v1 v2 v3 H Q
def i5:D->D->D->M Unit:=fun o i v=>match o,i with
 | .lst k,.int j=>do
  let xs<-getL k
  match xm xs.length j with
  |some at'=>do let _<-jN k (xs.set at' v);aC ()
  |none=>M.fail
 |_,_=>M.fail
inductive Chk where
 |none|some (k:Nat)|two (k j:Nat) (xs ys:List D)
structure Iter where
 items:List D
 chk:Chk
def Iter.okS(it:Iter)(S:ay):Prop:=match it.chk with
 | .none=>True
 | .some k=>S[k]? = .some it.items
 | .two k j xs ys=>S[k]? = .some xs/\S[j]? = .some ys
open Classical in
def jC(it:Iter):M Unit:=fun S=>if it.okS S then ar (.ok (),S)else none
def i6(K:dn)(it:Iter)(J:It)(ι:List cq)(H:Hp):Prop:=
 ∀ ι2 H2 S2,ExtN ι H ι2 H2->Rep K ι2 H2 S2->it.okS S2->∀i,(∀d,it.items[i]? =ar d->J.go i H2/\∀x H3,J.yld i H2 x H3->Ext ι2 H2 ι2 H3/\Rep K ι2 H3 S2/\RelD K ι2 H3 d x)/\(it.items.length<=i->J.stop i H2)
def Hg(K:dn)(E:XD)(mi:aB->M Iter):TI:=fun σ H R=>∃ ι S ρ,Rep K ι H S/\RelE K ι H ρ σ/\cont K E (mi ρ) ι S H (fun it ι' _ H'=>∀J,i6 K it J ι' H'->R J H')
def SI(X:Cx)(E:XD)(tg iter:Expr)(mi:aB->M Iter):Prop:=PI X tg iter (Hg X.K E mi)
def fg(it:Iter)(g:m7)(b:cM):List D->aB->M Out
 |[],ρ=>do jC it;aC (.nx ρ)
 |d::ds,ρ=>do
  jC it
  let ρ1<-g d ρ;let o<-b ρ1
  match o with
  | .nx ρ'=>fg it g b ds ρ'
  | .ct ρ'=>fg it g b ds ρ'
  | .bk ρ'=>aC (.nx ρ')
  | .ret r=>aC (.ret r)
theorem kl{K:dn}{Z:List cq}{S:ay}{H:Hp}{α:Type}{it:Iter}{f:Unit->M α}{Q:α->List cq->ay->Hp->Prop}(h:cont K E (jC it>>=f) Z S H Q)(Y:Rep K Z H S):it.okS S/\cont K E (f ()) Z S H Q:=by
 obtain⟨r,U,e,k⟩:=ai h;unfold jC at e;split at e
 ·next ho=>cases e;exact⟨ho,k Z H .refl Y⟩
 ·cases e
theorem jQ(a:D' (eK X.prog X.w) X.A X.env X.xe)(hc:X.calm=b_)(hi:SI X E tg iter mi)(hg:SG X E tg g)(hb:rK X E body b)
  (hs:∀x,j7 iter X.env x=aC x:=by intro _;rfl):SS X E (.For tg iter body [] pos) (fun ρ=>do let it<-mi ρ;fg it g b it.items ρ):=by
 refine PS.imp (CI a hc hi hg hb hs) fun T σ H h=>?_;obtain⟨f,S,ρ,rep,re,c⟩:=h;refine⟨f,S,ρ,rep,re,av (ai c) fun it U S1 B e1 rep1 c1 J l=>?_⟩;refine⟨fun i n P W=>∃ ι2 S2 ρ2,n=it.items.length - i/\i<=it.items.length/\Ext U B ι2 W/\Rep X.K ι2 W S2/\RelE X.K ι2 W ρ2 P/\cont X.K E (fg it g b (it.items.drop i) ρ2) ι2 S2 W (C7 X.K T),⟨_,U,S1,ρ,rfl,Iv _,.refl,rep1,re.later rep e1,c1⟩,?_⟩;rintro i n P W ⟨ι2,S2,ρ2,hn,hi',e2,rep2,re2,c2⟩;by_cases hlt:i<it.items.length
 ·have hd:it.items.drop i=it.items[i]::it.items.drop (i+1):=KO hlt;rw[hd]at c2;have Q:cont X.K E (do jC it;let ρ1<-g it.items[i] ρ2;let o<-b ρ1;match o with| .nx ρ'=>fg it g b (it.items.drop (i+1)) ρ'| .ct ρ'=>fg it g b (it.items.drop (i+1)) ρ'| .bk ρ'=>aC (.nx ρ')| .ret r=>aC (.ret r)) ι2 S2 W (C7 X.K T):=c2
  obtain⟨ok,v⟩:=kl Q rep2;obtain⟨q,b3⟩:=l ι2 W S2 e2.n rep2 ok i;obtain⟨go,yl⟩:=q it.items[i] (HR hlt);refine .inr ⟨go,fun R Y=>∃ ι3 S3 ρ3,Ext U B ι3 Y/\Rep X.K ι3 Y S3/\RelE X.K ι3 Y ρ3 R/\cont X.K E (fg it g b (it.items.drop (i+1)) ρ3) ι3 S3 Y (C7 X.K T),?_,fun x k j=>?_⟩
  ·rintro R Y ⟨ι3,S3,ρ3,G,rep3,re3,u⟩;exact⟨_,by omega,ι3,S3,ρ3,rfl,hlt,G,rep3,re3,u⟩
  ·obtain⟨G,rep3,rd⟩:=yl x k j;refine⟨ι2,S2,ρ2,it.items[i],rep3,re2.later rep2 G,rd,av (ai (ij v G)) fun s C S4 H4 e4 I u b0 z=>?_⟩;refine⟨C,S4,s,I,z,av (ai u) fun o N p H5 e5 Z F=>?_⟩;have L:Ext U B N H5:=e2.trans (G.trans (e4.trans e5));cases o with
   |nx ρ'=>exact fun y O=>⟨N,p,ρ',L,Z,O,F⟩
   |ct ρ'=>exact fun y O=>⟨N,p,ρ',L,Z,O,F⟩
   |bk ρ'=>exact ag F .refl Z
   |ret d=>exact ag F .refl Z
 ·have hd:it.items.drop i=[]:=List.drop_eq_nil_of_le (by omega)
  rw[hd]at c2;have Q:cont X.K E (do jC it;aC (.nx ρ2)) ι2 S2 W (C7 X.K T):=c2
  obtain⟨ok,v⟩:=kl Q rep2;exact .inl ⟨(l ι2 W S2 e2.n rep2 ok i).2 (by omega),ag v .refl rep2 P re2⟩
def i7(t:aB->M Bool)(b:cM):Nat->aB->M Out
 |0,_=>M.fail
 | k+1,ρ=>do
  let c<-t ρ
  if c=b_ then do
   let o<-b ρ
   match o with
   | .nx ρ'=>i7 t b k ρ'
   | .ct ρ'=>i7 t b k ρ'
   | .bk ρ'=>aC (.nx ρ')
   | .ret r=>aC (.ret r)
  else aC (.nx ρ)
theorem xX(k:Nat)(C:D' (eK X.prog X.w) X.A X.env X.xe)(y:SB X E e t)(B:rK X E body b):SS X E (.While e body [] pos) (fun ρ=>i7 t b k ρ):=by
 refine PS.imp (xx C y B) fun T σ H h=>?_;obtain⟨F,S,ρ,rep,re,c⟩:=h;refine⟨fun n U P=>∃ ι2 S2 ρ2,Rep X.K ι2 P S2/\RelE X.K ι2 P ρ2 U/\cont X.K E (i7 t b n ρ2) ι2 S2 P (C7 X.K T),⟨k,F,S,ρ,rep,re,c⟩,?_⟩;rintro n U P ⟨ι2,S2,ρ2,rep2,re2,c2⟩;cases n with
 |zero=>exact(ah c2).elim
 | succ n=>
  refine⟨ι2,S2,ρ2,rep2,re2,av (ai c2) fun k L z x G rep3 I=>?_⟩;cases k with
  |false=>exact ag I .refl rep3 U (re2.later rep2 G)
  |true=>
   refine⟨fun W Y=>∃ ι2 S2 ρ2,Rep X.K ι2 Y S2/\RelE X.K ι2 Y ρ2 W/\cont X.K E (i7 t b n ρ2) ι2 S2 Y (C7 X.K T),fun W Y h=>⟨n,Kn _,h⟩,?_⟩;refine⟨L,z,ρ2,rep3,re2.later rep2 G,av (ai I) fun o Q J u v Z O=>?_⟩;cases o with
   |nx ρ'=>exact fun N R=>⟨Q,J,ρ',Z,R,O⟩
   |ct ρ'=>exact fun N R=>⟨Q,J,ρ',Z,R,O⟩
   |bk ρ'=>exact ag O .refl Z
   |ret d=>exact ag O .refl Z
end
def fM(H:Hp)(p:cq):Hp:=fun a=>if a=p then none else H a
theorem hide_ne{H:Hp}(h:a≠p):fM H p a=H a:=if_neg h
theorem km:fM H p p=none:=if_pos rfl
theorem cD{H:Hp}(h:fM H p a=ar o):a≠p/\H a=ar o:=by
 by_cases e:a=p
 ·rw[e,km]at h;cases h
 ·rw[hide_ne e]at h;exact⟨e,h⟩
theorem xY{H:Hp}(h:H p=ar o):upd (fM H p) p o=H:=by
 funext a;by_cases e:a=p
 ·rw[e,bg,h]
 ·rw[aJ e,hide_ne e]
theorem i8:fM (upd H p o) p=fM H p:=by
 funext a;by_cases e:a=p
 ·rw[e,km,km]
 ·rw[hide_ne e,hide_ne e,aJ e]
theorem ik{H:Hp}(h:H p=none):fM H p=H:=by
 funext a;by_cases e:a=p
 ·rw[e,km,h]
 ·rw[hide_ne e]
section
variable {K:dn}{ι ι':List cq}{H H':Hp}{S:ay}{p:cq}
mutual
theorem RelD.hide(Z:H p=ar (.lst ws)):∀{d:D} {v:V},RelD K ι H d v->RelD K ι (fM H p) d v
 |_,_,.non=>.non
 |_,_,.bl b=>.bl b
 |_,_,.int i=>.int i
 |_,_,.str x=>.str x
 |_,_,.tup h hs=>.tup (by rw[hide_ne (fun z=>by rw[z,Z]at h;cases h)];exact h) (RelDs.hide Z hs)
 |_,_,.lst h=>.lst h
 |_,_,.ro h hs=>.ro (h.imp (fun⟨o,h⟩=>⟨o,by rw[hide_ne (fun z=>by rw[z,Z]at h;cases h)];exact h⟩) fun z=>z) (RelDs.hide Z hs)
 |_,_,.emp h=>.emp (by rw[hide_ne (fun z=>by rw[z,Z]at h;cases h)];exact h)
 |_,_,.fn h hs=>.fn (by rw[hide_ne (fun z=>by rw[z,Z]at h;cases h)];exact h) (RelDs.hide Z hs)
 |_,_,.exc n h=>.exc n (by rw[hide_ne (fun z=>by rw[z,Z]at h;cases h)];exact h)
 |_,_,.excF n h h2 hn hs=>.excF n (by rw[hide_ne (fun z=>by rw[z,Z]at h;cases h)];exact h) (by rw[hide_ne (fun z=>by rw[z,Z]at h2;cases h2)];exact h2) hn (RelDs.hide Z hs)
 |_,_,.fz h hs=>.fz (by rw[hide_ne (fun z=>by rw[z,Z]at h;cases h)];exact h) (RelDs.hide Z hs)
theorem RelDs.hide(Z:H p=ar (.lst ws)):∀{ds:List D} {vs:List V},RelDs K ι H ds vs->RelDs K ι (fM H p) ds vs
 |_,_,.nil=>.nil
 |_,_,.cons h hs=>.cons (RelD.hide Z h) (RelDs.hide Z hs)
end
mutual
theorem RelD.unhide:∀{d:D} {v:V},RelD K ι (fM H p) d v->RelD K ι H d v
 |_,_,.non=>.non
 |_,_,.bl b=>.bl b
 |_,_,.int i=>.int i
 |_,_,.str x=>.str x
 |_,_,.tup h hs=>.tup (cD h).2 (RelDs.unhide hs)
 |_,_,.lst h=>.lst h
 |_,_,.ro h hs=>.ro (h.imp (fun⟨o,h⟩=>⟨o,(cD h).2⟩) fun z=>z) (RelDs.unhide hs)
 |_,_,.emp h=>.emp (cD h).2
 |_,_,.fn h hs=>.fn (cD h).2 (RelDs.unhide hs)
 |_,_,.exc n h=>.exc n (cD h).2
 |_,_,.excF n h h2 hn hs=>.excF n (cD h).2 (cD h2).2 hn (RelDs.unhide hs)
 |_,_,.fz h hs=>.fz (cD h).2 (RelDs.unhide hs)
theorem RelDs.unhide:∀{ds:List D} {vs:List V},RelDs K ι (fM H p) ds vs->RelDs K ι H ds vs
 |_,_,.nil=>.nil
 |_,_,.cons h hs=>.cons (RelD.unhide h) (RelDs.unhide hs)
end
theorem RelE.hide(Z:H p=ar (.lst ws)):∀{ρ:aB} {σ:St},RelE K ι H ρ σ->RelE K ι (fM H p) ρ σ
 |_,_,.nil=>.nil
 |_,_,.cons h t=>.cons (fun d z=>let ⟨v,e1,e2⟩:=h d z;⟨v,e1,e2.hide Z⟩) (RelE.hide Z t)
theorem RelE.unhide:∀{ρ:aB} {σ:St},RelE K ι (fM H p) ρ σ->RelE K ι H ρ σ
 |_,_,.nil=>.nil
 |_,_,.cons h t=>.cons (fun d z=>let ⟨v,e1,e2⟩:=h d z;⟨v,e1,e2.unhide⟩) (RelE.unhide t)
theorem Rep.hide(Z:H p=ar (.lst ws))(Y:p∉ι)(r:Rep K ι H S):Rep K ι (fM H p) S:=
 ⟨r.nd,r.len,fun k a xs e1 e2=>let ⟨vs,h1,h2⟩:=r.get k a xs e1 e2;⟨vs,by rw[hide_ne (fun z=>Y (by rw[<-z];exact IC e1))];exact h1,h2.hide Z⟩,r.tab.mono fun b o h n=>by rw[hide_ne (fun z=>by subst z;rw[h]at Z;exact n ws (Il Z))];exact h⟩
theorem Rep.unhide(r:Rep K ι (fM H p) S):Rep K ι H S:=
 ⟨r.nd,r.len,fun k a xs e1 e2=>let ⟨vs,h1,h2⟩:=r.get k a xs e1 e2;⟨vs,(cD h1).2,h2.unhide⟩,r.tab.mono fun b o h _=>(cD h).2⟩
theorem Ext.hide(e:Ext ι H ι' H'):Ext ι (fM H p) ι' (fM H' p):=
 ⟨e.ids,fun a o h n t=>by
  obtain⟨Z,X⟩:=cD h;obtain⟨Y,U⟩:=e.oth a o X n t;exact⟨by rw[hide_ne Z];exact Y,U⟩⟩
theorem Ext.unhide(e:Ext ι H ι' (fM H' p)):Ext ι H ι' H':=
 ⟨e.ids,fun a o h n t=>by
  obtain⟨Z,Y⟩:=e.oth a o h n t;exact⟨(cD Z).2,Y⟩⟩
theorem lp{E:XD}{α:Type}{c:M α}{U:List V}{Q:α->List cq->ay->Hp->Prop}(h:cont K ey c ι S (fM H p) Q)(R:H p=ar (.lst U))(T:p∉ι):
  cont K E c ι S H (fun a ι' Z H'=>H' p=ar (.lst U)/\p∉ι'/\Q a ι' Z (fM H' p)):=by
 obtain⟨r,Z,e,k⟩:=h;refine⟨r,Z,e,fun ι' H' x rep=>?_⟩;obtain⟨X,Y⟩:=x.oth p _ R T (by intro _ z;cases z)
 have:=k ι' (fM H' p) x.hide (rep.hide X Y);cases r with
 |ok a=>exact⟨X,Y,this⟩
 |ex y=>exact this.elim
end
def jD(js:List (Option Nat))(ρ:aB):aB:=js.map fun o=>o.bind fun j=>(ρ[j]?).join
theorem RelE.blk{K:dn}{U:List cq}{H:Hp}{ρ:aB}{X:St}(Y:RelE K U H ρ X):∀js:List (Option Nat),RelE K U H (jD js ρ) (oF js X)
 |[]=>.nil
 |none::js=>.cons (fun d z=>by cases z) (RelE.blk Y js)
 | some j::js=>.cons (fun d z=>by
   have Z:(ρ[j]?).join=ar d:=z;have:ρ[j]? =ar (ar d):=by
    cases q:ρ[j]? with
    |none=>rw[q]at Z;cases Z
    |some o=>rw[q]at Z;exact Kt ar Z
   obtain⟨v,e1,e2⟩:=Y.get this;refine⟨v,?_,e2⟩;show(X[j]?).join=ar v;rw[e1];rfl) (RelE.blk Y js)
def cm(it:Iter)(g:m7)(t:aB->M Bool)(m:TM):List D->aB->M (List D)
 |[],ρ=>do jC it;aC []
 | d::ds,ρ=>do
  jC it
  let ρ1<-g d ρ;let b<-t ρ1
  if b=b_ then do
   let y<-m ρ1;let ys<-cm it g t m ds ρ1
   aC (y::ys)
  else cm it g t m ds ρ1
def eV(it:Iter)(g:m7)(t:aB->M Bool)(m:TM)(ρ:aB):M (List D):=if it.items.length<=lim then cm it g t m it.items ρ else M.fail
def F4(X:Cx)(E:XD)(ifs:List Expr)(t:aB->M Bool):Prop:=Eb X ifs (BX X.K E t)
theorem d5:F4 X E [] (fun _=>aC b_):=fun pins s σ H Q I h=>AD pins s σ H Q I (by
 obtain⟨Z,S,ρ,rep,re,c⟩:=h;exact ag c .refl rep)
theorem gj(h:SB X E c t):F4 X E [c] t:=AE h
section
variable {X:Cx}{scope:Scope}{Nc:List Str}{js:List (Option Nat)}{elt tg iter:Expr}{ifs:List Expr}{pos:Pos}{mi:aB->M Iter}{g:m7}{t:aB->M Bool}{m:TM}
theorem eM{α Z Y:Type}(c:M α)(f:α->M Z)(h:Z->M Y):((c>>=f)>>=h)=(c>>=fun a=>f a>>=h):=by
 funext S;show M.bnd (M.bnd c f) h S=M.bnd c (fun a=>M.bnd (f a) h) S;unfold M.bnd;cases c S with
 |none=>rfl
 |some r=>
  obtain⟨r,W⟩:=r;cases r<;>rfl
theorem ao{α Z:Type}(a:α)(f:α->M Z):(aC a>>=f)=f a:=rfl
theorem AI{α Z:Type}{c:Prop} [Decidable c](x y:M α)(f:α->M Z):((if c then x else y)>>=f)=if c then x>>=f else y>>=f:=by split<;>rfl
abbrev E7(js:List (Option Nat))(g:TG)(tt:TT)(te:TE)(σ:St)(Q:VK):It->Hp->Prop:=fun J H1=>∀p,H1 p=none->
 ∃W:Nat->Nat->St->Hp->Prop,(∃m,W 0 m (oF js σ) (upd H1 p (.lst [])))/\∀i m σc Hc,W i m σc Hc->
  (J.stop i Hc/\Q (.ref p) Hc)\/(J.go i Hc/\∃N:St->Hp->Prop,(∀ σ' H',N σ' H'->∃m',m'<m/\W (i+1) m' σ' H')/\∀x H',J.yld i Hc x H'->g x σc H' fun σ2 H2=>tt σ2 H2 fun b H3=>
   if b=b_ then te σ2 H3 fun y H4=>∃xs,H4 p=ar (.lst xs)/\xs.length<sizeLine/\N σ2 (upd H4 p (.lst (xs++[y])))else N σ2 H3)
theorem xZ{Q:VK}{k:St}{H:Hp}{u:List cq}{S:ay}{ρ:aB}(a:Rep X.K u H S)(re:RelE X.K u H ρ k)(c:cont X.K ey (do let it<-mi ρ;let ys<-eV it g t m (jD js ρ);bq ys) u S H (kR X.K Q)):
  cont X.K ey (mi ρ) u S H (fun it Y _ T=>∀J,i6 X.K it J Y T->E7 js (EZ X.K ey g) (BX X.K ey t) (tM X.K ey m) k Q J T):=by
 refine av (ai c) fun it Y S1 T e1 rep1 l J hJ p C=>?_;have d:it.items.length<=lim/\cont X.K ey (cm it g t m it.items (jD js ρ)>>=fun ys=>bq ys) Y S1 T (kR X.K Q):=by
  have U:cont X.K ey ((if it.items.length<=lim then cm it g t m it.items (jD js ρ)else M.fail)>>=fun ys=>bq ys) Y S1 T (kR X.K Q):=l;by_cases h:it.items.length<=lim
  ·rw[if_pos h]at U;exact⟨h,U⟩
  ·rw[if_neg h]at U;exact(ah (ai U)).elim
 obtain⟨hlen,l⟩:=d;have r:RelE X.K Y T (jD js ρ) (oF js k):=(re.later a e1).blk js;refine⟨fun i n A W=>∃ ι2 S2 ρ2 xs vs,n=it.items.length - i/\i<=it.items.length/\Ext Y T ι2 (fM W p)/\Rep X.K ι2 (fM W p) S2/\RelE X.K ι2 (fM W p) ρ2 A/\W p=ar (.lst vs)/\p∉ι2/\RelDs X.K ι2 (fM W p) xs vs/\xs.length<=i/\
  cont X.K ey (cm it g t m (it.items.drop i) ρ2>>=fun ys=>bq (xs++ys)) ι2 S2 (fM W p) (kR X.K Q),⟨_,Y,S1,jD js ρ,[],[],rfl,Iv _,?_,?_,?_,bg,rep1.free C,.nil,Iv _,?_⟩,?_⟩
 ·rw[i8,ik C];exact .refl
 ·rw[i8,ik C];exact rep1
 ·rw[i8,ik C];exact r
 ·rw[i8,ik C];exact l
 rintro i n A W ⟨ι2,S2,ρ2,xs,vs,hn,hi',e2,rep2,re2,hpc,hpn,rx,hlim,c2⟩;by_cases hlt:i<it.items.length
 ·have hd:it.items.drop i=it.items[i]::it.items.drop (i+1):=KO hlt;rw[hd]at c2;have N:cont X.K ey (jC it>>=fun _=>g it.items[i] ρ2>>=fun Z=>t Z>>=fun b=>if b=b_ then m Z>>=fun y=>cm it g t m (it.items.drop (i+1)) Z>>=fun ys=>bq (xs++y::ys)else cm it g t m (it.items.drop (i+1)) Z>>=fun ys=>bq (xs++ys)) ι2 S2 (fM W p) (kR X.K Q):=by
   have:(cm it g t m (it.items[i]::it.items.drop (i+1)) ρ2>>=fun ys=>bq (xs++ys))=(jC it>>=fun _=>g it.items[i] ρ2>>=fun Z=>t Z>>=fun b=>if b=b_ then m Z>>=fun y=>cm it g t m (it.items.drop (i+1)) Z>>=fun ys=>bq (xs++y::ys)else cm it g t m (it.items.drop (i+1)) Z>>=fun ys=>bq (xs++ys)):=by
    show((jC it>>=fun _=>g it.items[i] ρ2>>=fun Z=>t Z>>=fun b=>if b=b_ then m Z>>=fun y=>cm it g t m (it.items.drop (i+1)) Z>>=fun ys=>aC (y::ys)else cm it g t m (it.items.drop (i+1)) Z)>>=fun ys=>bq (xs++ys))=_;simp only[eM,AI,ao]
   rw[<-this];exact c2
  obtain⟨ok,s⟩:=kl N rep2;obtain⟨f,b1⟩:=hJ ι2 W S2 e2.unhide.n rep2.unhide ok i;obtain⟨go,yl⟩:=f it.items[i] (HR hlt);refine .inr ⟨go,fun B I=>∃ ι3 S3 ρ3 xs3 vs3,Ext Y T ι3 (fM I p)/\Rep X.K ι3 (fM I p) S3/\RelE X.K ι3 (fM I p) ρ3 B/\I p=ar (.lst vs3)/\p∉ι3/\RelDs X.K ι3 (fM I p) xs3 vs3/\xs3.length<=i+1/\
   cont X.K ey (cm it g t m (it.items.drop (i+1)) ρ3>>=fun ys=>bq (xs3++ys)) ι3 S3 (fM I p) (kR X.K Q),?_,fun x H3 hy=>?_⟩
  ·rintro B I ⟨ι3,S3,ρ3,xs3,vs3,h1,h2,h3,h4,h5,h6,h7,h8⟩;exact⟨_,by omega,ι3,S3,ρ3,xs3,vs3,rfl,hlt,h1,h2,h3,h4,h5,h6,h7,h8⟩
  ·obtain⟨e,rep3,rd⟩:=yl x H3 hy;obtain⟨o,_⟩:=e.oth p _ hpc hpn (by intro _ z;cases z)
   have F:Ext ι2 (fM W p) ι2 (fM H3 p):=e.hide;have c4:=ai (ij s F);refine⟨ι2,S2,ρ2,it.items[i],rep3,re2.unhide.later rep2.unhide e,rd,av (lp (E:=ey) c4 o hpn) fun ρ4 ι4 S4 H4 e4 rep4 ⟨hp4,hn4,c5⟩ σ4 re4=>?_⟩;have q:Rep X.K ι4 (fM H4 p) S4:=rep4.hide hp4 hn4;have j:Ext ι2 (fM W p) ι4 (fM H4 p):=F.trans e4.hide;refine⟨ι4,S4,ρ4,rep4,re4,av (lp (E:=ey) (ai c5) hp4 hn4) fun b ι5 S5 H5 e5 rep5 ⟨hp5,hn5,c6⟩=>?_⟩;have G:Rep X.K ι5 (fM H5 p) S5:=rep5.hide hp5 hn5;have R:Ext ι2 (fM W p) ι5 (fM H5 p):=j.trans e5.hide;have L:RelE X.K ι5 H5 ρ4 σ4:=re4.later rep4 e5;cases b with
   |false=>
    have O:cont X.K ey (cm it g t m (it.items.drop (i+1)) ρ4>>=fun ys=>bq (xs++ys)) ι5 S5 (fM H5 p) (kR X.K Q):=c6;exact⟨ι5,S5,ρ4,xs,vs,e2.trans R,G,L.hide hp5,hp5,hn5,rx.later rep2 R,by omega,O⟩
   |true=>
    have O:cont X.K ey (m ρ4>>=fun y=>cm it g t m (it.items.drop (i+1)) ρ4>>=fun ys=>bq (xs++y::ys)) ι5 S5 (fM H5 p) (kR X.K Q):=c6;refine⟨ι5,S5,ρ4,rep5,L,av (lp (E:=ey) (ai O) hp5 hn5) fun y ι6 S6 H6 e6 rep6 ⟨hp6,hn6,c7⟩ yv ry=>?_⟩;have w:Ext ι2 (fM W p) ι6 (fM H6 p):=R.trans e6.hide;have P:Rep X.K ι6 (fM H6 p) S6:=rep6.hide hp6 hn6;have v:=rx.later rep2 w;have hl:vs.length<sizeLine:=by rw[<-v.length];exact Nat.lt_of_le_of_lt (by omega) C8
    refine⟨vs,hp6,hl,ι6,S6,ρ4,xs++[y],vs++[yv],?_⟩;rw[i8];refine⟨e2.trans w,P,(L.later rep5 e6).hide hp6,bg,hn6,v.append (.cons (ry.hide hp6) .nil),by simp;omega,by simpa using c7⟩
 ·have hd:it.items.drop i=[]:=List.drop_eq_nil_of_le (by omega)
  rw[hd]at c2;have N:cont X.K ey (jC it>>=fun _=>bq (xs++[])) ι2 S2 (fM W p) (kR X.K Q):=by
   have:(cm it g t m [] ρ2>>=fun ys=>bq (xs++ys))=(jC it>>=fun _=>bq (xs++[])):=by
    show((jC it>>=fun _=>aC [])>>=fun ys=>bq (xs++ys))=_;simp only[eM,ao]
   rw[<-this];exact c2
  obtain⟨ok,s⟩:=kl N rep2;rw[IX]at s;refine .inl ⟨(hJ ι2 W S2 e2.unhide.n rep2.unhide ok i).2 (by omega),?_⟩
  have:=(bu s rep2 rx).2 p km;rw[xY hpc]at this;exact this
theorem rM(h:tM X.K ey (fun ρ=>do let it<-mi ρ;let ys<-eV it g t m (jD js ρ);bq ys) σ H Q):
  uU (Hg X.K ey mi) js (EZ X.K ey g) (BX X.K ey t) (tM X.K ey m) σ H Q:=
 let ⟨ι,S,ρ,rep,re,c⟩:=h
 ⟨ι,S,ρ,rep,re,xZ rep re c⟩
theorem cL(c:CompScope X scope Nc js)(W:X.calm=b_)(Y:SI X ey tg iter mi)
  (Z:∀C ex s H,SG (bH X scope Nc C ex s H) ey tg g/\F4 (bH X scope Nc C ex s H) ey ifs t/\SE (bH X scope Nc C ex s H) ey elt m)
  (hs:∀x,j7 iter X.env x=aC x:=by intro _;rfl):SE X ey (.ListComp elt [⟨tg,iter,ifs,0⟩] scope pos) (fun ρ=>do let it<-mi ρ;let ys<-eV it g t m (jD js ρ);bq ys):=
 PE.imp (AF (g:=EZ X.K ey g) (tt:=BX X.K ey t) (te:=tM X.K ey m) c W Y Z hs) fun _ _ _ q=>rM q
theorem il(i:Nat)(Q:X.N.Nodup)(c:CompScope X scope Nc js)(I:X.calm=b_)(J:SI X ey tg iter mi)
  (Z:∀C ex s H,SG (bH X scope Nc C ex s H) ey tg g/\F4 (bH X scope Nc C ex s H) ey ifs t/\SE (bH X scope Nc C ex s H) ey elt m)
  (Y:X.N[i]? =ar x:=by rfl) (P:Loc X.env.scope x:=by first|exact L0 rfl|exact LK rfl)
  (W:j3 (.ListComp elt [⟨tg,iter,ifs,0⟩] scope cpos) (ar (.Name x pos')) pos.line X.env=aC true:=by rfl)
  (L:X.fn x=b_\/X.env.scope.names.lookup x=ar .local:=by first|exact .inl rfl|exact .inr rfl|assumption)
  (hs:∀x,j7 iter X.env x=aC x:=by intro _;rfl):SS X ey (.Assign [.Name x pos'] (.ListComp elt [⟨tg,iter,ifs,0⟩] scope cpos) pos)
   (fun ρ=>do let d<-(do let it<-mi ρ;let ys<-eV it g t m (jD js ρ);bq ys);aC (.nx (ρ.set i (ar d)))):=by
 refine PS.imp (tX (g:=EZ X.K ey g) (tt:=BX X.K ey t) (te:=tM X.K ey m) Q Y P c I J Z W L hs) fun T σ H h=>?_;obtain⟨U,S,ρ,rep,re,c⟩:=h;refine rM ⟨U,S,ρ,rep,re,av (ai c) fun d R S1 G e1 rep1 O v r=>?_⟩;exact ag O .refl rep1 _ ((re.later rep e1).set r i)
end
section
variable {P:eb}{w:ee}{K:dn}{mg:Str->Option a_}{base:fc}
def outD:Out->M D
 | .nx _=>aC .non
 | .ret d=>aC d
 |_=>M.fail
def ou(N n:Nat)(m:cM):List D->M D:=fun ds=>if ds.length=n then do let o<-m (ds.map ar++dV (N - n) none);outD o else M.fail
end
def oH(f:Int->Int->M D):D->D->M D
 | .int i,.int j=>f i j
 |_,_=>M.fail
theorem ip{K:dn}{E:XD}{g:Int->Int->V}{f:Int->Int->D}(R:∀Z H i j,RelD K Z H (f i j) (g i j)):rp K E (oH fun i j=>aC (f i j)) (Af g):=by
 intro Z S H Y T v1 v2 Q rep U X c;cases Y<;>cases T<;>first
  |exact(ah c).elim
  |exact⟨_,_,U.int_inv,X.int_inv,ag c .refl rep _ (R _ _ _ _)⟩
theorem ko{K:dn}{E:XD}{C:Int->Int->Prop} [∀i j,Decidable (C i j)]{g:Int->Int->V}{f:Int->Int->D}(P:∀Y H i j,RelD K Y H (f i j) (g i j)):rp K E (oH fun i j=>if C i j then aC (f i j)else M.fail) (rI C g):=by
 intro Y S H X R v1 v2 Q rep T U c;cases X<;>cases R<;>first
  |exact(ah c).elim
  | (next i j=>
    have Z:cont K E (if C i j then aC (f i j)else M.fail) Y S H (kR K Q):=c;by_cases h:C i j
    ·rw[if_pos h]at Z;exact⟨_,_,T.int_inv,U.int_inv,h,ag Z .refl rep _ (P _ _ _ _)⟩
    ·rw[if_neg h]at Z;exact(ah Z).elim)
def dm:D->D->M D:=oH fun i j=>aC (.int (i - j))
instance:∀i j,Decidable (tL i j):=fun i j=>inferInstanceAs (Decidable (_\/_))
instance:∀i j,Decidable (v8 i j):=fun i j=>inferInstanceAs (Decidable (_/\_))
instance:∀i j,Decidable (Aq i j):=fun i j=>inferInstanceAs (Decidable (_/\_))
def qk:D->D->M D:=oH fun i j=>if tL i j then aC (.int (i*j))else M.fail
def kq:D->D->M D:=oH fun i j=>if v8 i j then aC (.int (i / j))else M.fail
def mv:D->D->M D:=oH fun i j=>if 0<j then aC (.int (i % j))else M.fail
def x9:D->D->M D:=oH fun i j=>if Aq i j then aC (.int (i ^ j.toNat))else M.fail
def cY:D->D->M D
 | .int i,.int j=>aC (.int (i+j))
 | .tup xs,.tup ys=>bY (xs++ys)
 | .lst a,.lst b=>do let xs<-getL a;let ys<-getL b;bq (xs++ys)
 | .lst a,.fz ys=>do let xs<-getL a;bq (xs++ys)
 | .fz xs,.lst b=>do let ys<-getL b;bq (xs++ys)
 | .fz xs,.fz ys=>bq (xs++ys)
 |_,_=>M.fail
def Da:D->D->M D:=oH fun i j=>aC (.bl (decide (i<=j)))
def pj:D->D->M D:=oH fun i j=>aC (.bl (decide (j<i)))
def GU:D->D->M D:=oH fun i j=>aC (.bl (decide (j<=i)))
section
variable {X:Cx}{E:XD}{a b e c:Expr}{m n l:TM}{pos:Pos}
theorem gD(Y:SE X E a m)(Z:SE X E b n):SE X E (.BinOp a .Sub b pos) (fun ρ=>do let x<-m ρ;let y<-n ρ;dm x y):=ng CL (ip fun _ _ _ _=>.int _) Y Z
theorem ni(Y:SE X E a m)(Z:SE X E b n):SE X E (.BinOp a .Mult b pos) (fun ρ=>do let x<-m ρ;let y<-n ρ;qk x y):=ng CM (ko fun _ _ _ _=>.int _) Y Z
theorem qm(Y:SE X E a m)(Z:SE X E b n):SE X E (.BinOp a .FloorDiv b pos) (fun ρ=>do let x<-m ρ;let y<-n ρ;kq x y):=ng Ar (ko fun _ _ _ _=>.int _) Y Z
theorem jR(Y:SE X E a m)(Z:SE X E b n):SE X E (.BinOp a .Mod b pos) (fun ρ=>do let x<-m ρ;let y<-n ρ;mv x y):=ng CN (ko (C:=fun _ j=>0<j) fun _ _ _ _=>.int _) Y Z
theorem ya(Y:SE X E a m)(Z:SE X E b n):SE X E (.BinOp a .Pow b pos) (fun ρ=>do let x<-m ρ;let y<-n ρ;x9 x y):=ng CO (ko fun _ _ _ _=>.int _) Y Z
theorem yb:gT X (m1 .Add) (fun x y H Q=>∃a b ys,x= .ref a/\y= .ref b/\kQ X.K H a []/\kQ X.K H b ys/\Q (.ref b) H):=by
 intro pins s σ H x y v u Q I J N h;obtain⟨a,b,ys,rfl,rfl,C,G,q⟩:=h;cases J;cases N;obtain⟨its,F,O,_⟩:=I.tuple C;obtain⟨W,z,L,_⟩:=I.tuple G;cases F;obtain⟨⟨cls,dd,data,B⟩,R,P,n,hd⟩:=id O;obtain⟨⟨S,T,data2,U⟩,Z,Y,A,hd2⟩:=id L;simp only at P hd Y hd2;subst P hd Y hd2;exact Ic ⟨_,R,rfl⟩ ⟨_,Z,rfl⟩ K6 F_ J5 JV (JT _ _)
  (tuple_addW0 a b #[] W.toArray n A dd T B U (by simp)) ⟨R,Z,⟨.ref b,H,I,rfl,q⟩⟩
theorem Inv.lstR{X:Cx}{Z:List (cq×Obj)}{W:L2.St}{H:Hp}{s:c_}{l:cq}{xs:List V}(I:L2.Inv X Z W H s)(Y:Rd H l (.lst xs)):xs.length<=sizeLine/\∃(its:List a_) (n:Nat),bb xs its/\xs.length=its.length/\s.heap.get? l=ar {cls:=.type "list",data:=.seq its.toArray n}:=by
 obtain⟨z,its,n,r,e⟩:=Y.ok I.hok;exact⟨z,its,n,r,r.length,e⟩
def E8:R2:=fun x y H Q=>∃l b xs zs,x= .ref l/\y= .ref b/\Rd H l (.lst xs)/\Rd H b (.lst zs)/\xs.length+zs.length<=sizeLine/\∀p,H p=none->Q (.ref p) (upd H p (.lst (xs++zs)))
theorem AJ:gT X (m1 .Add) E8:=by
 intro pins s σ H x y v u Q I S T h;obtain⟨l,b,xs,zs,rfl,rfl,U,Y,L,q⟩:=h;cases S;cases T;obtain⟨z,its,n,r,K,e⟩:=Inv.lstR I U;obtain⟨J,Z,N,R,W,e2⟩:=Inv.lstR I Y;refine PySem.P.add_list e e2 ?_ (by rw[HW,HW];omega)
 have O:its.toArray++Z.toArray=(its++Z).toArray:=by simp
 rw[O];exact⟨.ref _,_,I.lnew (t':=s.toks) (r.append R) (by rw[HP];omega),rfl,q _ I.fresh⟩
theorem dR(B:SE X E a m)(C:SE X E b n):SE X E (.BinOp a .Add b pos) (fun ρ=>do let x<-m ρ;let y<-n ρ;cY x y):=by
 refine ng (CK.or (Az.or (yb.or AJ))) ?_ B C;intro w S H F A v1 v2 Q rep O P c;cases F<;>cases A<;>first
  |exact(ah c).elim
  |exact .inl ⟨_,_,O.int_inv,P.int_inv,ag c .refl rep _ (.int _)⟩
  | (next xs ys=>
    obtain⟨p,vs,rfl,W,G⟩:=O.tup_inv;obtain⟨q,ws,rfl,U,L⟩:=P.tup_inv;obtain⟨Y,T⟩:=fU c rep (G.append L);rw[HP]at Y;cases vs with
    |nil=>
     refine .inr (.inr (.inl ⟨p,q,ws,rfl,rfl,.of W,.of U,?_⟩));exact ig c rep U (G.append L)
    |cons v vs=>
     refine .inr (.inl ⟨p,q,v::vs,ws,rfl,rfl,.of W,.of U,by simp,HX Y fy,fun z=>?_,fun _=>T⟩)
     subst z;have:=G.append L;rw[IX]at this;exact ig c rep W this)
  | (next j k=>
    obtain⟨p,rfl,W⟩:=O.lst_inv;obtain⟨q,rfl,U⟩:=P.lst_inv;obtain⟨ds,vs,_,N,R,I⟩:=a8 c rep W;obtain⟨es,ws,_,hw,Z,K⟩:=a8 I rep U;obtain⟨Y,T⟩:=bu K rep (R.append Z);rw[HP]at Y;exact .inr (.inr (.inr ⟨p,q,vs,ws,rfl,rfl,.inl N,.inl hw,HX Y fy,T⟩)))
  | (next j ys=>
    obtain⟨p,rfl,W⟩:=O.lst_inv;obtain⟨q,o2,ws,rfl,U,Z⟩:=P.fz_inv;obtain⟨ds,vs,_,N,R,I⟩:=a8 c rep W;obtain⟨Y,T⟩:=bu I rep (R.append Z);rw[HP]at Y;exact .inr (.inr (.inr ⟨p,q,vs,ws,rfl,rfl,.inl N,.inr ⟨o2,U⟩,HX Y fy,T⟩)))
  | (next xs k=>
    obtain⟨p,J,vs,rfl,W,R⟩:=O.fz_inv;obtain⟨q,rfl,U⟩:=P.lst_inv;obtain⟨es,ws,_,hw,Z,K⟩:=a8 c rep U;obtain⟨Y,T⟩:=bu K rep (R.append Z);rw[HP]at Y;exact .inr (.inr (.inr ⟨p,q,vs,ws,rfl,rfl,.inr ⟨J,W⟩,.inl hw,HX Y fy,T⟩)))
  | (next xs ys=>
    obtain⟨p,J,vs,rfl,W,R⟩:=O.fz_inv;obtain⟨q,o2,ws,rfl,U,Z⟩:=P.fz_inv;obtain⟨Y,T⟩:=bu c rep (R.append Z);rw[HP]at Y;exact .inr (.inr (.inr ⟨p,q,vs,ws,rfl,rfl,.inr ⟨J,W⟩,.inr ⟨o2,U⟩,HX Y fy,T⟩)))
theorem E9(Y:SE X E a m)(Z:SE X E b n):SE X E (.Compare a [.Gt] [b] pos) (fun ρ=>do let x<-m ρ;let y<-n ρ;pj x y):=qi BR (ip fun _ _ _ _=>.bl _) Y Z
theorem rN(Y:SE X E a m)(Z:SE X E b n):SB X E (.Compare a [.Gt] [b] pos) (fun ρ=>do let z<-(do let x<-m ρ;let y<-n ρ;pj x y);ie z):=jO BR (ip fun _ _ _ _=>.bl _) Y Z
theorem Fb(Y:SE X E a m)(Z:SE X E b n):SB X E (.Compare a [.GtE] [b] pos) (fun ρ=>do let z<-(do let x<-m ρ;let y<-n ρ;GU x y);ie z):=jO EJ (ip fun _ _ _ _=>.bl _) Y Z
def intsOf:List D->Option (List Int)
 |[]=>ar []
 | .int i::r=>(intsOf r).map (i::·)
 |_=>none
theorem fV{K:dn}{Y:List cq}{H:Hp}:∀{ds:List D} {vs:List V} {ns:List Int},RelDs K Y H ds vs->intsOf ds=ar ns->vs=ns.map V.int
 |[],vs,ns,h,e=>by cases e;rw[h.nil_inv];rfl
 | .int i::ds,vs,ns,h,e=>by
  obtain⟨v,ws,rfl,U,Z⟩:=h.cons_inv;cases q:intsOf ds with
  |none=>simp[intsOf,q]at e
  |some ks=>
   simp[intsOf,q]at e;subst e;rw[U.int_inv,fV Z q];rfl
 | .non::_,_,_,_,e=>by cases e
 | .bl _::_,_,_,_,e=>by cases e
 | .str _::_,_,_,_,e=>by cases e
 | .tup _::_,_,_,_,e=>by cases e
 | .lst _::_,_,_,_,e=>by cases e
 | .ro _::_,_,_,_,e=>by cases e
 | .fz _::_,_,_,_,e=>by cases e
 | .emp::_,_,_,_,e=>by cases e
def xn:D->D->M D
 | .int i,.int j=>aC (.bl (decide (i<j)))
 | .tup xs,.tup ys=>match intsOf xs,intsOf ys with
  |some ns,ar ms=>aC (.bl (HT.lexLt ns ms))
  |_,_=>M.fail
 |_,_=>M.fail
theorem tZ:rp X.K E xn (fun x y H Q=>Af (fun i j=>.bl (decide (i<j))) x y H Q\/EO X.K x y H Q):=by
 intro N S H T O v1 v2 Q rep Y Z c;cases T<;>cases O<;>first
  |exact(ah c).elim
  |exact .inl ⟨_,_,Y.int_inv,Z.int_inv,ag c .refl rep _ (.bl _)⟩
  | (next xs ys=>
    obtain⟨p,vs,rfl,R,U⟩:=Y.tup_inv;obtain⟨q,ws,rfl,W,P⟩:=Z.tup_inv;dsimp only[xn]at c;split at c
    ·next ns ms e1 e2=>
     refine .inr ⟨p,q,ns,ms,rfl,rfl,.of (by rw[<-fV U e1];exact R),.of (by rw[<-fV P e2];exact W),ag c .refl rep _ (.bl _)⟩
    ·exact(ah c).elim)
theorem BZ(W:X.A.units<vn)(Y:SE X E a m)(Z:SE X E b n):SE X E (.Compare a [.Lt] [b] pos) (fun ρ=>do let x<-m ρ;let y<-n ρ;xn x y):=qi (xB.or (tR W)) tZ Y Z
theorem B0(W:X.A.units<vn)(Y:SE X E a m)(Z:SE X E b n):SB X E (.Compare a [.Lt] [b] pos) (fun ρ=>do let z<-(do let x<-m ρ;let y<-n ρ;xn x y);ie z):=jO (xB.or (tR W)) tZ Y Z
theorem rO(t:rp X.K E f r)(F:rp X.K E g r')
  (h:tM X.K E (fun ρ=>do let x<-m ρ;let y<-n ρ;let z<-f x y;let k<-ie z;if k=b_ then do let w<-l ρ;g y w else aC (.bl dr)) σ H Q):tN r r' (tM X.K E m) (tM X.K E n) (tM X.K E l) σ H Q:=by
 obtain⟨N,S,ρ,rep,re,c⟩:=h;refine⟨N,S,ρ,rep,re,av (ai c) fun x U S1 j e1 rep1 A v1 J=>?_⟩;refine⟨U,S1,ρ,rep1,re.later rep e1,av (ai A) fun y Y S2 s e2 rep2 B v2 R=>?_⟩;refine t Y S2 s x y v1 v2 _ rep2 (J.later rep1 e2) R (av (ai B) fun z T q o O rep3 u i C=>?_);obtain⟨k,rfl,rfl,P⟩:=mD rep3 C u;refine⟨k,rfl,?_⟩;cases k with
 |true=>
  exact⟨T,q,ρ,rep3,((re.later rep e1).later rep1 e2).later rep2 O,av (ai P) fun w W L p v Z I v4 G=>F W L p y w v2 v4 Q Z ((R.later rep2 O).later rep3 v) G I⟩
 |false=>exact ag P .refl rep3 _ (.bl dr)
theorem yc(h:gT X (hO op) r)(h':gT X (hO op') r')(Z:rp X.K E f r)(S:rp X.K E g r')(Y:SE X E a m)(W:SE X E b n)(T:SE X E c l)
  (U:Lp [op,op'] [b,c]=false:=by with_unfolding_all rfl):
  SE X E (.Compare a [op,op'] [b,c] pos) (fun ρ=>do let x<-m ρ;let y<-n ρ;let z<-f x y;let k<-ie z;if k=b_ then do let w<-l ρ;g y w else aC (.bl dr)):=
 PE.imp (xD h h' Y W T U) fun _ _ _ q=>rO Z S q
theorem yd(h:gT X (hO op) r)(h':gT X (hO op') r')(O:rp X.K E f r)(I:rp X.K E g r')(Y:SE X E a m)(N:SE X E b n)(J:SE X E c l)
  (P:Lp [op,op'] [b,c]=false:=by with_unfolding_all rfl):
  SB X E (.Compare a [op,op'] [b,c] pos) (fun ρ=>do let v<-(do let x<-m ρ;let y<-n ρ;let z<-f x y;let k<-ie z;if k=b_ then do let w<-l ρ;g y w else aC (.bl dr));ie v):=
 PT.imp (xE h h' Y N J P) fun σ H Q q=>by
  obtain⟨U,S,ρ,rep,re,c⟩:=q;refine rO O I (Q:=fun x W=>∃k,x= .bl k/\Q k W) ⟨U,S,ρ,rep,re,av (ai c) fun x T S1 G e1 rep1 R v1 L=>?_⟩;obtain⟨k,rfl,rfl,Z⟩:=nh rep1 L R;exact⟨k,rfl,Z⟩
def cK:D->D->M D
 | .lst k,.int i=>do
  let xs<-getL k
  match jM xs i with
  |some d=>aC d
  |none=>M.fail
 | .tup xs,.int i=>match jM xs i with
  |some d=>aC d
  |none=>M.fail
 | .ro xs,.int i=>match jM xs i with
  |some d=>aC d
  |none=>M.fail
 | .fz xs,.int i=>match jM xs i with
  |some d=>aC d
  |none=>M.fail
 |_,_=>M.fail
theorem mE{K:dn}{Z:List cq}{H:Hp}{ds:List D}{vs:List V}{i:Int}{d:D}(h:RelDs K Z H ds vs)(e:jM ds i=ar d):∃v,jM vs i=ar v/\RelD K Z H d v:=by
 unfold jM at e⊢;rw[h.length]at e;cases q:xm vs.length i with
 |none=>rw[q]at e;cases e
 |some j=>
  rw[q]at e;exact h.get' e
theorem Dc:rp X.K E cK (Hd X.K):=by
 intro N S H P O v1 v2 Q rep T U c;cases P<;>cases O<;>first
  |exact(ah c).elim
  | (next k i=>
    obtain⟨p,rfl,Y⟩:=T.lst_inv;obtain⟨ds,vs,_,R,Z,W⟩:=a8 c rep Y;cases q:jM ds i with
    |none=>rw[q]at W;exact(ah W).elim
    |some d=>
     rw[q]at W;obtain⟨v,e1,e2⟩:=mE Z q;exact .inl ⟨p,vs,i,v,rfl,U.int_inv,.of R,e1,ag W .refl rep _ e2⟩)
  | (next ds i=>
    obtain⟨p,vs,rfl,Y,Z⟩:=T.tup_inv;dsimp only[cK]at c;cases q:jM ds i with
    |none=>rw[q]at c;exact(ah c).elim
    |some d=>
     rw[q]at c;obtain⟨v,e1,e2⟩:=mE Z q;exact .inr (.inl ⟨p,vs,i,v,rfl,U.int_inv,.of Y,e1,ag c .refl rep _ e2⟩))
  | (next ds i=>
    obtain⟨p,vs,rfl,Y,Z⟩:=T.ro_inv;dsimp only[cK]at c;cases q:jM ds i with
    |none=>rw[q]at c;exact(ah c).elim
    |some d=>
     rw[q]at c;obtain⟨v,e1,e2⟩:=mE Z q;exact .inl ⟨p,vs,i,v,rfl,U.int_inv,Y.sq,e1,ag c .refl rep _ e2⟩)
  | (next ds i=>
    obtain⟨p,o,vs,rfl,Y,Z⟩:=T.fz_inv;dsimp only[cK]at c;cases q:jM ds i with
    |none=>rw[q]at c;exact(ah c).elim
    |some d=>
     rw[q]at c;obtain⟨v,e1,e2⟩:=mE Z q;exact .inl ⟨p,vs,i,v,rfl,U.int_inv,.inl (.inr ⟨o,Y⟩),e1,ag c .refl rep _ e2⟩)
theorem aR(Y:SE X E a m)(Z:SE X E b n)(hs:pY b:=by intro _ _;rfl):SE X E (.Subscript a b pos) (fun ρ=>do let x<-m ρ;let y<-n ρ;cK x y):=E3 C0 Dc Y Z hs
end
mutual
inductive ReadsV(H:Hp):V->k6->Prop where
 |non:ReadsV H .non .none
 |bl (b:Bool):ReadsV H (.bl b) (.bool b)
 |int (i:Int):ReadsV H (.int i) (.int i)
 |str (x:Str):ReadsV H (.str x) (.str x)
 |lst {a:cq} {vs:List V} {ps:List k6}:Rd H a (.lst vs)->ReadsVs H vs ps->ReadsV H (.ref a) (.list ps)
 |tup {a:cq} {vs:List V} {ps:List k6}:H a=ar (.tup vs)->ReadsVs H vs ps->ReadsV H (.ref a) (.tuple ps)
inductive ReadsVs(H:Hp):List V->List k6->Prop where
 |nil:ReadsVs H [] []
 |cons {v:V} {p:k6} {vs:List V} {ps:List k6}:ReadsV H v p->ReadsVs H vs ps->ReadsVs H (v::vs) (p::ps)
end
mutual
theorem ReadsV.heap(Z:fK P w H h):∀{v:V} {p:k6},ReadsV H v p->∀{u:a_},RelV v u->∃as,Reads h u p as
 |_,_,.non,u,r=>by cases (show u=hh from r);exact⟨_,.none⟩
 |_,_,.bl b,u,r=>by cases (show u=l_ b from r);exact⟨_,.bool b⟩
 |_,_,.int i,u,r=>by obtain⟨t,rfl⟩:=(show ∃t,u=m2 i t from r);exact⟨_,.int i t⟩
 |_,_,.str x,u,r=>by obtain⟨t,rfl⟩:=(show ∃t,u=yn x t from r);exact⟨_,.str x t⟩
 |_,_,@ReadsV.lst _ a vs ps h1 h2,u,r=>by
  cases (show u=e_ a from r);obtain⟨_,its,n,Y,e⟩:=(show bx P w H h a (.lst vs)from h1.ok Z);obtain⟨as,q⟩:=ReadsVs.heap Z h2 Y;exact⟨_,.list e rfl rfl (by simpa using q)⟩
 |_,_,@ReadsV.tup _ a vs ps h1 h2,u,r=>by
  cases (show u=e_ a from r);obtain⟨_,its,Y,o,e,c,n,d⟩:=(show bx P w H h a (.tup vs)from Z a _ h1);obtain⟨as,q⟩:=ReadsVs.heap Z h2 Y;exact⟨_,.tuple e c d (by simpa using q)⟩
theorem ReadsVs.heap(Z:fK P w H h):∀{vs:List V} {ps:List k6},ReadsVs H vs ps->∀{us:List a_},bb vs us->∃as,ReadsAll h us ps as
 |_,_,.nil,us,r=>by cases r;exact⟨_,.nil⟩
 | _,_,.cons h1 h2,us,r=>by
  cases r with
  |cons r1 r2=>
   obtain⟨as,q⟩:=ReadsV.heap Z h1 r1;obtain⟨bs,Y⟩:=ReadsVs.heap Z h2 r2;exact⟨_,.cons q Y⟩
end
def mapP(f:D->Option k6):List D->Option (List k6)
 |[]=>ar []
 |d::ds=>match f d,mapP f ds with
  |some p,ar ps=>ar (p::ps)
  |_,_=>none
def fB(S:ay):Nat->D->Option k6
 |_,.non=>ar .none
 |_,.bl b=>ar (.bool b)
 |_,.int i=>ar (.int i)
 |_,.str x=>if y_ x=b_ then ar (.str x)else none
 |n+1,.tup ds=>(mapP (fB S n) ds).map .tuple
 |n+1,.lst k=>(S[k]?).bind fun xs=>(mapP (fB S n) xs).map .list
 |n+1,.fz ds=>(mapP (fB S n) ds).map .list
 |_,_=>none
section
variable {K:dn}{ι:List cq}{S:ay}{H:Hp}
theorem ku{f:D->Option k6}(Z:∀d p v,f d=ar p->RelD K ι H d v->ReadsV H v p/\p.canLay0=b_/\p.depth<=n):
  ∀{ds:List D} {ps:List k6} {vs:List V},mapP f ds=ar ps->RelDs K ι H ds vs->ReadsVs H vs ps/\PyData.canLayAll0 ps=b_/\j_ ps<=n
 |[],ps,vs,e,r=>by
  cases e;rw[r.nil_inv];exact⟨.nil,rfl,Iv _⟩
 | d ::ds,ps,vs,e,r=>by
  obtain⟨v,ws,rfl,T,X⟩:=r.cons_inv;unfold mapP at e;cases q:f d with
  |none=>rw[q]at e;cases e
  | some p=>
   rw[q]at e;cases q2:mapP f ds with
   |none=>rw[q2]at e;cases e
   | some ps'=>
    rw[q2]at e;cases e;obtain⟨Y,R,U⟩:=Z d p v q T;obtain⟨k1,k2,k3⟩:=ku Z q2 X;refine⟨.cons Y k1,?_,?_⟩
    ·show(PyData.canLay0 p && PyData.canLayAll0 ps')=b_;rw[R,k2];rfl
    ·show max p.depth (j_ ps')<=n;exact Nat.max_le.mpr ⟨U,k3⟩
theorem kx(X:Rep K ι H S):∀(n:Nat) (d:D) (p:k6) (v:V),fB S n d=ar p->RelD K ι H d v->ReadsV H v p/\p.canLay0=b_/\p.depth<=n:=by
 intro n
 induction n with
 | zero=>
  intro d p v e r;cases d with
  |non=>cases e;rw[r.non_inv];exact⟨.non,rfl,HN _⟩
  |bl b=>cases e;rw[r.bl_inv];exact⟨.bl b,rfl,HN _⟩
  |int i=>cases e;rw[r.int_inv];exact⟨.int i,rfl,HN _⟩
  |str x=>
   unfold fB at e;split at e
   ·next hs=>cases e;rw[r.str_inv];exact⟨.str x,hs,HN _⟩
   ·cases e
  |_=>cases e
 | succ n ih=>
  intro d p v e r;cases d with
  |non=>cases e;rw[r.non_inv];exact⟨.non,rfl,Iv _⟩
  |bl b=>cases e;rw[r.bl_inv];exact⟨.bl b,rfl,Iv _⟩
  |int i=>cases e;rw[r.int_inv];exact⟨.int i,rfl,Iv _⟩
  |str x=>
   unfold fB at e;split at e
   ·next hs=>cases e;rw[r.str_inv];exact⟨.str x,hs,Iv _⟩
   ·cases e
  | tup ds=>
   obtain⟨a,vs,rfl,Y,Z⟩:=r.tup_inv;unfold fB at e;cases q:mapP (fB S n) ds with
   |none=>rw[q]at e;cases e
   |some ps=>
    rw[q]at e;cases e;obtain⟨k1,k2,k3⟩:=ku ih q Z;exact⟨.tup Y k1,k2,Km k3⟩
  | lst k=>
   obtain⟨a,rfl,Y⟩:=r.lst_inv;unfold fB at e;cases z:S[k]? with
   |none=>rw[z]at e;cases e
   | some xs=>
    rw[z]at e;obtain⟨vs,U,Z⟩:=X.get k a xs Y z;cases q:mapP (fB S n) xs with
    |none=>simp[q]at e
    |some ps=>
     simp[q]at e;subst e;obtain⟨k1,k2,k3⟩:=ku ih q Z;exact⟨.lst (.inl U) k1,k2,Km k3⟩
  |ro ds=>cases e
  | fz ds=>
   obtain⟨a,o,vs,rfl,Y,Z⟩:=r.fz_inv;unfold fB at e;cases q:mapP (fB S n) ds with
   |none=>rw[q]at e;cases e
   |some ps=>
    rw[q]at e;cases e;obtain⟨k1,k2,k3⟩:=ku ih q Z;exact⟨.lst (.inr ⟨o,Y⟩) k1,k2,Km k3⟩
  |emp=>cases e
  |fn a c q ds vs=>cases e
  |exc x ds=>cases e
end
def Dd(f:k6->k6->Bool):D->D->M D:=fun a b S=>match fB S 60 a,fB S 60 b with
 |some p,ar q=>ar (.ok (.bl (f p q)),S)
 |_,_=>none
def cN:D->D->M D:=Dd f'
def lq:D->D->M D:=Dd fun p q=> !f' p q
def GV(f:Bool->Bool):k6->k6->Option Bool
 |d,.list xs=>ar (f (xs.any fun y=>f' y d))
 |d,.tuple xs=>ar (f (xs.any fun y=>f' y d))
 |_,_=>none
def Ec(f:Bool->Bool):D->D->M D:=fun a b S=>match fB S 60 a,fB S 60 b with
 |some p,ar q=>match GV f p q with
  |some r=>ar (.ok (.bl r),S)
  |none=>none
 |_,_=>none
def inD:D->D->M D:=Ec id
def qo:D->D->M D:=Ec (!·)
section
variable {X:Cx}{E:XD}{a b e:Expr}{m n:TM}{pos:Pos}
def De(f:k6->k6->Bool):R2:=fun x y H Q=>∃p q,(ReadsV H x p/\p.canLay0=b_/\p.depth<=60)/\(ReadsV H y q/\q.canLay0=b_/\q.depth<=60)/\Q (.bl (f p q)) H
theorem gY{p:k6}(h:p.canLay0=b_)(Z:p.depth<=60):y' p=true:=by
 unfold y';rw[h,Ku];exact HU (by omega)
theorem ye(O:X.A.units+64<vn):gT X (hO .Eq) (De f'):=by
 intro pins s σ H x y v u Q I P T h;obtain⟨p,q,⟨Y,S,L⟩,⟨W,R,U⟩,h⟩:=h;obtain⟨as,Z⟩:=Y.heap I.hok P;obtain⟨bs,N⟩:=W.heap I.hok T;exact eq_dataH Z N (gY S L) (gY R U) O ⟨.bl _,H,I,rfl,h⟩
theorem Df(O:X.A.units+64<vn):gT X (hO .NotEq) (De fun p q=> !f' p q):=by
 intro pins s σ H x y v u Q I P T h;obtain⟨p,q,⟨Y,S,L⟩,⟨W,R,U⟩,h⟩:=h;obtain⟨as,Z⟩:=Y.heap I.hok P;obtain⟨bs,N⟩:=W.heap I.hok T;exact ne_dataH Z N (gY S L) (gY R U) O ⟨.bl _,H,I,rfl,h⟩
theorem qp:rp X.K E (Dd f) (De f):=by
 intro Z S H Y T v1 v2 Q rep U W c;obtain⟨r,R,e,k⟩:=c;unfold Dd at e;split at e
 ·next p q hp hq=>
  cases e;exact⟨p,q,kx rep 60 Y p v1 hp U,kx rep 60 T q v2 hq W,k Z H .refl rep _ (.bl _)⟩
 ·cases e
theorem nj(W:X.A.units+64<vn)(Y:SE X E a m)(Z:SE X E b n):SE X E (.Compare a [.Eq] [b] pos) (fun ρ=>do let x<-m ρ;let y<-n ρ;cN x y):=qi (ye W) qp Y Z
theorem fh(W:X.A.units+64<vn)(Y:SE X E a m)(Z:SE X E b n):SB X E (.Compare a [.Eq] [b] pos) (fun ρ=>do let z<-(do let x<-m ρ;let y<-n ρ;cN x y);ie z):=jO (ye W) qp Y Z
theorem nk(W:X.A.units+64<vn)(Y:SE X E a m)(Z:SE X E b n):SB X E (.Compare a [.NotEq] [b] pos) (fun ρ=>do let z<-(do let x<-m ρ;let y<-n ρ;lq x y);ie z):=jO (Df W) qp Y Z
def Dg(f:Bool->Bool):R2:=fun x y H Q=>∃p q r,(ReadsV H x p/\p.canLay0=b_/\p.depth<=60)/\(ReadsV H y q/\q.canLay0=b_/\q.depth<=60)/\GV f p q=ar r/\Q (.bl r) H
theorem qr:rp X.K E (Ec f) (Dg f):=by
 intro Z S H Y T v1 v2 Q rep U W c;obtain⟨r,R,e,k⟩:=c;unfold Ec at e;split at e
 ·next p q hp hq=>
  split at e
  ·next r hr=>
   cases e;exact⟨p,q,r,kx rep 60 Y p v1 hp U,kx rep 60 T q v2 hq W,hr,k Z H .refl rep _ (.bl _)⟩
  ·cases e
 ·cases e
theorem nq(h:(q_ xs).depth<=60):j_ xs<=60:=Ka h
theorem lQ(h:(z3 xs).depth<=60):j_ xs<=60:=Ka h
theorem yf(L:X.A.units+64<vn):gT X (hO .In) (Dg id):=by
 intro pins s σ H x y v u Q I R N h;obtain⟨p,q,r,⟨P,U,K⟩,⟨O,T,W⟩,Z,h⟩:=h;obtain⟨as,Y⟩:=P.heap I.hok R;obtain⟨bs,S⟩:=O.heap I.hok N;cases q with
 |list xs=>
  cases Z;exact SeqAt.in_list_reads S Y T U (by have:=nq W;have:min (j_ xs) p.depth<=60:=HX (Kz _ _) this;omega) ⟨.bl _,H,I,rfl,h⟩
 |tuple xs=>
  cases Z;exact SeqAt.in_tuple_reads S Y T U (by have:=lQ W;have:min (j_ xs) p.depth<=60:=HX (Kz _ _) this;omega) ⟨.bl _,H,I,rfl,h⟩
 |_=>cases Z
theorem wu(L:X.A.units+64<vn):gT X (hO .NotIn) (Dg (!·)):=by
 intro pins s σ H x y v u Q I R N h;obtain⟨p,q,r,⟨P,U,K⟩,⟨O,T,W⟩,Z,h⟩:=h;obtain⟨as,Y⟩:=P.heap I.hok R;obtain⟨bs,S⟩:=O.heap I.hok N;cases q with
 |list xs=>
  cases Z;exact SeqAt.notIn_list_reads S Y T U (by have:=nq W;have:min (j_ xs) p.depth<=60:=HX (Kz _ _) this;omega) ⟨.bl _,H,I,rfl,h⟩
 |tuple xs=>
  cases Z;exact SeqAt.notIn_tuple_reads S Y T U (by have:=lQ W;have:min (j_ xs) p.depth<=60:=HX (Kz _ _) this;omega) ⟨.bl _,H,I,rfl,h⟩
 |_=>cases Z
theorem B1(W:X.A.units+64<vn)(Y:SE X E a m)(Z:SE X E b n)(U:i1 .In b=false:=by rfl):SE X E (.Compare a [.In] [b] pos) (fun ρ=>do let x<-m ρ;let y<-n ρ;inD x y):=qi (yf W) qr Y Z U
theorem uV(W:X.A.units+64<vn)(Y:SE X E a m)(Z:SE X E b n)(U:i1 .In b=false:=by rfl):SB X E (.Compare a [.In] [b] pos) (fun ρ=>do let z<-(do let x<-m ρ;let y<-n ρ;inD x y);ie z):=jO (yf W) qr Y Z U
theorem rP(W:X.A.units+64<vn)(Y:SE X E a m)(Z:SE X E b n)(U:i1 .NotIn b=false:=by rfl):SB X E (.Compare a [.NotIn] [b] pos) (fun ρ=>do let z<-(do let x<-m ρ;let y<-n ρ;qo x y);ie z):=jO (wu W) qr Y Z U
end
section
variable {X:Cx}{E:XD}{a b e c:Expr}{m n l:TM}{pos p2:Pos}{es:List Expr}{ms:aB->M (List D)}
def Hh:D->M Int
 | .int i=>aC i
 |_=>M.fail
def HB(K:dn)(E:XD)(m:aB->M (Option Int)):TO:=fun σ H Q=>∃ ι S ρ,Rep K ι H S/\RelE K ι H ρ σ/\cont K E (m ρ) ι S H (fun o _ _ H'=>Q o H')
def SO(X:Cx)(E:XD)(o:Option Expr)(m:aB->M (Option Int)):Prop:=PO X o (HB X.K E m)
theorem PO.imp{X:Cx}{e:Option Expr}{t t':TO}(h:PO X e t)(k:∀ σ H Q,t' σ H Q->t σ H Q):PO X e t':=fun pins s σ H Q I hw=>h pins s σ H Q I (k σ H Q hw)
theorem uW:SO X E none (fun _=>aC none):=by
 refine PO.imp Ax fun σ H Q h=>?_;obtain⟨Z,S,ρ,rep,re,c⟩:=h;exact ag c .refl rep
theorem uX(h:SE X E e m):SO X E (ar e) (fun ρ=>do let x<-m ρ;let i<-Hh x;aC (ar i)):=by
 refine PO.imp (Ay h) fun σ H Q h=>?_;obtain⟨Y,S,ρ,rep,re,c⟩:=h;refine⟨Y,S,ρ,rep,re,av (ai c) fun x W S1 U e1 rep1 Z v r=>?_⟩;cases x with
 |int i=>exact⟨i,r.int_inv,ag (ag (ai Z) .refl rep1) .refl rep1⟩
 |_=>exact(ah (ai Z)).elim
def cutD(xs:List D)(lo hi:Option Int):List D:=(xs.drop (HT.sIx xs.length 0 lo)).take (HT.sIx xs.length xs.length hi - HT.sIx xs.length 0 lo)
theorem mF{K:dn}{U:List cq}{H:Hp}{ds:List D}{vs:List V}(Y Z:Option Int)(h:RelDs K U H ds vs):RelDs K U H (cutD ds Y Z) (oC vs Y Z):=by
 unfold cutD oC;rw[h.length];exact(h.drop _).take _
def yg:D->Option Int->Option Int->M D
 | .tup xs,lo,hi=>bY (cutD xs lo hi)
 | .lst k,lo,hi=>do let xs<-getL k;bq (cutD xs lo hi)
 | .fz xs,lo,hi=>bq (cutD xs lo hi)
 |_,_,_=>M.fail
theorem AK:BV X (fun x lo T H Q=>∃a xs,x= .ref a/\kQ X.K H a xs/\(HT.sIx xs.length 0 lo=0/\HT.sIx xs.length xs.length T=xs.length)/\Q (.ref a) H):=by
 intro pins s σ H x v G J lo T P Q I R hs O pu h;obtain⟨a,xs,rfl,S,hw,q⟩:=h;cases R;obtain⟨its,r,Z,L⟩:=I.tuple S;have hlen:its.toArray.size=xs.length:=by rw[HW];exact r.length.symm
 refine⟨"tuple",_,PyProof.Rows.slot_tuple_getitem.lookup,Z.typeIs,?_⟩;have fin:EP X pins σ Q (.ref a) s:=⟨.ref a,H,I,rfl,q⟩;obtain⟨os,W,Y,N⟩:=id hs;have U:s.TypeIs (.ref P) "slice":=⟨os,W,Y⟩;unfold I_
 try with_reducible refine Jh ?_
 first|refine HK (HV ?_)|skip
 refine HK (wpAny_sequenceKey Z.typeIs (by decide) ?_)
 refine HK (wpAny_callSpecial?_slot (name:=hI "__getitem__") Z.typeIs Ja
  (Jp Ja Z.typeIs entry_tuple_getitem ?_ (args_tuple_getitem _ _)))
 show ed _ _ (Builtin.Tuple.tupleItemsOf (.ref a)>>=_) _ _ s;refine HK (tupleItemsOf_ Z (HK (J_ U ?_)));rw[if_pos (by decide)]
 refine HK (HT.sliceApplied_gen hs O pu ?_);rw[hlen,hw.1,hw.2];show ed _ _ (if ((((0:Nat):Int))==0 && (1:Int)==1 && (xs.length - 0)==xs.length)=b_ then _ else _) _ _ s;rw[if_pos (by simp)]
 unfold Builtin.Tuple.tupleIsExact;refine HK (HK (J_ Z.typeIs (HV ?_)));rw[if_pos (by decide)]
 first
  |exact HK (Ll (HV ⟨_,rfl,HV fin⟩))
  |exact HK (Ll (HK (HV (HV ⟨_,rfl,HV fin⟩))))
theorem t4{xs:List V}{Y Z:Option Int}(h:HT.sIx xs.length 0 Y=0/\HT.sIx xs.length xs.length Z=xs.length):oC xs Y Z=xs:=by
 unfold oC;rw[h.1,h.2,List.drop_zero,Nat.sub_zero,List.take_length]
theorem rQ{O L:Option Expr}{ml P:aB->M (Option Int)}(A:SE X E e m)(I:SO X E O ml)(G:SO X E L P):
  SE X E (.Subscript e (.Slice O L none p2) pos) (fun ρ=>do let x<-m ρ;let i<-ml ρ;let j<-P ρ;yg x i j):=by
 refine PE.imp (xK (CV.or (AK.or AB)) A I G) fun σ H Q h=>?_;obtain⟨K,S,ρ,rep,re,c⟩:=h;refine⟨K,S,ρ,rep,re,av (ai c) fun x T S1 u e1 rep1 C v r=>?_⟩;refine⟨T,S1,ρ,rep1,re.later rep e1,av (ai C) fun i W S2 t e2 rep2 F=>?_⟩;refine⟨W,S2,ρ,rep2,(re.later rep e1).later rep1 e2,av (ai F) fun j z s w y rep3 Y=>?_⟩;have U:=(r.later rep1 e2).later rep2 y;cases x with
 | tup ds=>
  obtain⟨p,vs,rfl,Z,N⟩:=U.tup_inv;by_cases hw:HT.sIx vs.length 0 i=0/\HT.sIx vs.length vs.length j=vs.length
  ·refine .inr (.inl ⟨p,vs,rfl,.of Z,hw,ig Y rep3 Z ?_⟩);have:=mF i j N;rw[t4 hw]at this;exact this
  ·exact .inl ⟨p,vs,rfl,.of Z,hw,(fU Y rep3 (mF i j N)).2⟩
 |lst k=>
  obtain⟨p,rfl,Z⟩:=U.lst_inv;obtain⟨ds,vs,_,J,R,B⟩:=a8 Y rep3 Z;exact .inr (.inr ⟨p,vs,rfl,.of J,(bu B rep3 (mF i j R)).2⟩)
 |fz ds=>
  obtain⟨p,o,vs,rfl,Z,R⟩:=U.fz_inv;exact .inr (.inr ⟨p,vs,rfl,.inl (.inr ⟨o,Z⟩),(bu Y rep3 (mF i j R)).2⟩)
 |_=>exact(ah Y).elim
end
section
variable {X:Cx}{E:XD}{a b e c o:Expr}{m n l:TM}{pos p2:Pos}{es:List Expr}{ms:aB->M (List D)}
def eg:List D->M D
 |[.lst k]=>do let xs<-getL k;aC (.int xs.length)
 |[.tup ds]=>aC (.int ds.length)
 |[.ro ds]=>aC (.int ds.length)
 |[.fz ds]=>aC (.int ds.length)
 |_=>M.fail
theorem wx:jE X.K E eg (fun xs H Q=>∃p ys,xs=[.ref p]/\(iS X.K H p ys\/kQ X.K H p ys)/\Q (.int ys.length) H):=by
 intro P S H ds vs Q rep r c
 match ds,r,c with
 |[.lst k],r,c=>
  obtain⟨v,ws,rfl,U,W⟩:=r.cons_inv;cases W.nil_inv;obtain⟨p,rfl,Y⟩:=U.lst_inv;obtain⟨es,us,_,T,Z,R⟩:=a8 c rep Y;refine⟨p,us,rfl,.inl (.of T),?_⟩;have:=ag R .refl rep _ (.int _);rw[Z.length]at this;exact this
 |[.tup es],r,c=>
  obtain⟨v,ws,rfl,U,W⟩:=r.cons_inv;cases W.nil_inv;obtain⟨p,us,rfl,Y,Z⟩:=U.tup_inv;refine⟨p,us,rfl,.inr (.of Y),?_⟩;have:=ag c .refl rep _ (.int _);rw[Z.length]at this;exact this
 |[.ro es],r,c=>
  obtain⟨v,ws,rfl,U,W⟩:=r.cons_inv;cases W.nil_inv;obtain⟨p,us,rfl,Y,Z⟩:=U.ro_inv;refine⟨p,us,rfl,.inl Y.sq,?_⟩;have:=ag c .refl rep _ (.int _);rw[Z.length]at this;exact this
 |[.fz es],r,c=>
  obtain⟨v,ws,rfl,U,W⟩:=r.cons_inv;cases W.nil_inv;obtain⟨p,o,us,rfl,Y,Z⟩:=U.fz_inv;refine⟨p,us,rfl,.inl (.inl (.inr ⟨o,Y⟩)),?_⟩;have:=ag c .refl rep _ (.int _);rw[Z.length]at this;exact this
 |[],r,c=>exact(ah c).elim
 |[.non],r,c=>exact(ah c).elim
 |[.bl _],r,c=>exact(ah c).elim
 |[.int _],r,c=>exact(ah c).elim
 |[.str _],r,c=>exact(ah c).elim
 |[.emp],r,c=>exact(ah c).elim
 |d::d2::r',r,c=>cases d<;>exact(ah c).elim
theorem fW(W:X.mg "len"=none)(Z:SE X E e m)(Y:Gl X "len":=by rfl)(hs:dt [e] X.env=[(dr,gd e X.env)]:=by rfl):SE X E (.Call (.Name "len" p) [e] [] pos) (fun ρ=>do let ds<-(do let x<-m ρ;let xs<-aC [];aC (x::xs));eg ds):=
 gX p7 wx Y W PySem.boot_len (af Z au hs) (by decide) (by decide) hs rfl
def uY(f:Int->Int->Int):List D->M D
 |[.int i,.int j]=>aC (.int (f i j))
 |_=>M.fail
theorem nu{f:Int->Int->Int}:jE X.K E (uY f) (fun xs H Q=>∃i j,xs=[.int i,.int j]/\Q (.int (f i j)) H):=by
 intro R S H ds vs Q rep r c;unfold uY at c;split at c
 ·next i j=>
  obtain⟨v,ws,rfl,U,Z⟩:=r.cons_inv;obtain⟨P,Y,rfl,T,W⟩:=Z.cons_inv;cases W.nil_inv;rw[U.int_inv,T.int_inv];exact⟨i,j,rfl,ag c .refl rep _ (.int _)⟩
 ·exact(ah c).elim
def maxD:List D->M D:=uY fun i j=>if j>i then j else i
def minD:List D->M D:=uY fun i j=>if j<i then j else i
theorem t5(Y:X.calm=b_)(T:X.mg "max"=none)(W:SA X E [a,b] ms)(U:Gl X "max":=by rfl)(hs:dt [a,b] X.env=[(dr,gd a X.env),(dr,gd b X.env)]:=by rfl)(Z:dt [b] X.env=[(dr,gd b X.env)]:=by rfl):
  SE X E (.Call (.Name "max" p) [a,b] [] pos) (fun ρ=>do let ds<-ms ρ;maxD ds):=
 gX (v9 Y) nu U T (by decide+kernel) W (by decide) (by decide) (by rw[hs,Z]) (by rw[Z];rfl)
theorem yh(Y:X.calm=b_)(T:X.mg "min"=none)(W:SA X E [a,b] ms)(U:Gl X "min":=by rfl)(hs:dt [a,b] X.env=[(dr,gd a X.env),(dr,gd b X.env)]:=by rfl)(Z:dt [b] X.env=[(dr,gd b X.env)]:=by rfl):
  SE X E (.Call (.Name "min" p) [a,b] [] pos) (fun ρ=>do let ds<-ms ρ;minD ds):=
 gX (wa Y) nu U T (by decide+kernel) W (by decide) (by decide) (by rw[hs,Z]) (by rw[Z];rfl)
def pk:List D->M D
 |[.lst k]=>do let xs<-getL k;bq xs
 |[.tup ds]=>bq ds
 |[.ro ds]=>bq ds
 |[.fz ds]=>bq ds
 |_=>M.fail
def b9:List D->M D
 |[.lst k]=>do let xs<-getL k;bY xs
 |[.tup ds]=>bY ds
 |[.fz ds]=>bY ds
 |_=>M.fail
theorem t6:jE X.K E pk (fun xs H Q=>∃p ys,xs=[.ref p]/\(iS X.K H p ys\/kQ X.K H p ys)/\∀l,H l=none->Q (.ref l) (upd H l (.lst ys))):=by
 intro P S H ds vs Q rep r c;unfold pk at c;split at c
 ·next k=>
  obtain⟨v,ws,rfl,U,W⟩:=r.cons_inv;cases W.nil_inv;obtain⟨p,rfl,Y⟩:=U.lst_inv;obtain⟨es,us,_,T,Z,R⟩:=a8 c rep Y;exact⟨p,us,rfl,.inl (.of T),(bu R rep Z).2⟩
 ·next es=>
  obtain⟨v,ws,rfl,U,W⟩:=r.cons_inv;cases W.nil_inv;obtain⟨p,us,rfl,Y,Z⟩:=U.tup_inv;exact⟨p,us,rfl,.inr (.of Y),(bu c rep Z).2⟩
 ·next es=>
  obtain⟨v,ws,rfl,U,W⟩:=r.cons_inv;cases W.nil_inv;obtain⟨p,us,rfl,Y,Z⟩:=U.ro_inv;exact⟨p,us,rfl,.inl Y.sq,(bu c rep Z).2⟩
 ·next es=>
  obtain⟨v,ws,rfl,U,W⟩:=r.cons_inv;cases W.nil_inv;obtain⟨p,o,us,rfl,Y,Z⟩:=U.fz_inv;exact⟨p,us,rfl,.inl (.inl (.inr ⟨o,Y⟩)),(bu c rep Z).2⟩
 ·exact(ah c).elim
theorem rR:jE X.K E b9 (fun xs H Q=>∃p ys,xs=[.ref p]/\((iS X.K H p ys/\∀l,H l=none->Q (.ref l) (upd H l (.tup ys)))\/(kQ X.K H p ys/\Q (.ref p) H))):=by
 intro P S H ds vs Q rep r c;unfold b9 at c;split at c
 ·next k=>
  obtain⟨v,ws,rfl,U,W⟩:=r.cons_inv;cases W.nil_inv;obtain⟨p,rfl,Z⟩:=U.lst_inv;obtain⟨es,us,_,T,Y,R⟩:=a8 c rep Z;exact⟨p,us,rfl,.inl ⟨.of T,(fU R rep Y).2⟩⟩
 ·next es=>
  obtain⟨v,ws,rfl,U,W⟩:=r.cons_inv;cases W.nil_inv;obtain⟨p,us,rfl,Z,Y⟩:=U.tup_inv;exact⟨p,us,rfl,.inr ⟨.of Z,ig c rep Z Y⟩⟩
 ·next es=>
  obtain⟨v,ws,rfl,U,W⟩:=r.cons_inv;cases W.nil_inv;obtain⟨p,o,us,rfl,Z,Y⟩:=U.fz_inv;exact⟨p,us,rfl,.inl ⟨.inl (.inr ⟨o,Z⟩),(fU c rep Y).2⟩⟩
 ·exact(ah c).elim
theorem AL(W:X.mg "list"=none)(Z:SE X E e m)(Y:Gl X "list":=by rfl)(hs:dt [e] X.env=[(dr,gd e X.env)]:=by rfl):SE X E (.Call (.Name "list" p) [e] [] pos) (fun ρ=>do let ds<-(do let x<-m ρ;let xs<-aC [];aC (x::xs));pk ds):=
 pe p8 t6 Y W (by decide+kernel) (af Z au hs) (by decide) (by decide) hs rfl
theorem fi(W:X.mg "tuple"=none)(Z:SE X E e m)(Y:Gl X "tuple":=by rfl)(hs:dt [e] X.env=[(dr,gd e X.env)]:=by rfl):SE X E (.Call (.Name "tuple" p) [e] [] pos) (fun ρ=>do let ds<-(do let x<-m ρ;let xs<-aC [];aC (x::xs));b9 ds):=
 pe oE rR Y W (by decide+kernel) (af Z au hs) (by decide) (by decide) hs rfl
def AM(H:Hp):V->Option String
 | .non=>ar "NoneType"
 | .bl _=>ar "bool"
 | .int _=>ar "int"
 | .str _=>ar "str"
 | .ref a=>match H a with
  |some (.lst _)=>ar "list"
  |some (.frz _ (.lst _))=>ar "list"
  |some (.tup _)=>ar "tuple"
  |some (.dK _)=>ar "dict"
  |_=>none
 |_=>none
theorem yi{K:dn}{H:Hp}{v:V}{T:String}(h:AM H v=ar T):TyOf K H v (.type T):=by
 cases v with
 |non=>cases h;exact .non
 |bl b=>cases h;exact .bl b
 |int i=>cases h;exact .int i
 |str x=>cases h;exact .str x
 |ref a=>
  simp only[AM]at h;split at h
  ·next q=>cases h;exact .lst q
  ·next q=>cases h;exact .frz q
  ·next q=>cases h;exact .tup q
  ·next q=>cases h;exact .dK q
  ·cases h
 |_=>cases h
def yj:D->String
 | .non=>"NoneType"
 | .bl _=>"bool"
 | .int _=>"int"
 | .str _=>"str"
 | .tup _=>"tuple"
 | .lst _=>"list"
 | .ro _=>"list"
 | .fz _=>"list"
 | .emp=>"dict"
 | .fn _ _ _ _ _=>"NoneType"
 | .exc _ _=>"NoneType"
def Dh:D->Bool
 | .ro _=>dr
 | .fn _ _ _ _ _=>dr
 | .exc _ _=>dr
 |_=>b_
theorem yk{K:dn}{U:List cq}{S:ay}{H:Hp}{d:D}{v:V}(Y:Rep K U H S)(r:RelD K U H d v)(Z:Dh d=b_):AM H v=ar (yj d):=by
 cases r with
 |non=>rfl
 |bl=>rfl
 |int=>rfl
 |str=>rfl
 |tup h _=>simp[AM,h,yj]
 |lst h=>
  obtain⟨vs,e⟩:=Y.isL (IC h);simp[AM,e,yj]
 |ro h _=>cases Z
 |fz h _=>simp[AM,h,yj]
 |emp h=>simp[AM,h,yj]
 |fn=>cases Z
 |exc=>cases Z
 |excF=>cases Z
def ym(f:String->Bool):D->M D
 | .ro _=>M.fail
 | .fn _ _ _ _ _=>M.fail
 | .exc _ _=>M.fail
 |d=>aC (.bl (f (yj d)))
theorem rS{K:dn}{E:XD}{Z:List cq}{S:ay}{H:Hp}{f:String->Bool}{d:D}{Q:D->List cq->ay->Hp->Prop}(c:cont K E (ym f d) Z S H Q):Dh d=b_/\cont K E (aC (.bl (f (yj d)))) Z S H Q:=by
 cases d with
 |ro ds=>exact(ah c).elim
 |fn a c' q ds vs=>exact(ah c).elim
 |exc x ds=>exact(ah c).elim
 |_=>exact⟨rfl,c⟩
def gZ(t T:String):Bool:=t==T||(t=="bool" && T=="int")
theorem qt(K:dn)(t:String)(Y:t∈["NoneType","bool","int","str","tuple","list","dict"])(T:String)(Z:T∈["bool","int","str","tuple","list"]):l4 K (.type t) (.type T)=ar (gZ t T):=by
 simp only[gg,f_,or_false]at Y Z;rcases Y with rfl|rfl|rfl|rfl|rfl|rfl|rfl<;>rcases Z with rfl|rfl|rfl|rfl|rfl<;>rfl
theorem uZ(d:D):yj d∈["NoneType","bool","int","str","tuple","list","dict"]:=by cases d<;>simp[yj]
theorem yo:dj X (.builtin "isinstance") (fun xs H Q=>∃x t T,xs=[x,.ty T]/\AM H x=ar t/\t∈["NoneType","bool","int","str","tuple","list","dict"]/\T∈["bool","int","str","tuple","list"]/\Q (.bl (gZ t T)) H):=by
 intro pins s σ H xs us Q I r h;obtain⟨x,t,T,rfl,S,W,R,q⟩:=h;obtain⟨u,U,rfl,Y,Z⟩:=vals2 r;cases (show U=wh T from Z);exact we I Y (yi S) (qt X.K t W T R) fun P=>⟨.bl _,H,I.tok P,rfl,q⟩
theorem gE{p q:Pos}{T:Str}{Ts:String}(K:X.mg "isinstance"=none)(Y:X.mg T=none)(I:SE X E e m)(N:i4 T=ar (.type Ts):=by decide+kernel)(P:Ts∈["bool","int","str","tuple","list"]:=by decide)(G:Gl X "isinstance":=by rfl)(R:Gl X T:=by rfl)
  (J:T≠"__name__":=by decide) (U:(T==("__debug__":Str))=false:=by decide)
  (hs:dt [e,.Name T q] X.env=[(dr,gd e X.env),(dr,gd (.Name T q) X.env)]:=by rfl) (Z:dt [.Name T q] X.env=[(dr,gd (.Name T q) X.env)]:=by rfl):
  SE X E (.Call (.Name "isinstance" p) [e,.Name T q] [] pos) (fun ρ=>do let x<-m ρ;ym (fun t=>gZ t Ts) x):=by
 refine PE.imp (kc yo G K (by decide+kernel) (eS I (eS (mC R Y N (v:=.ty Ts) rfl J U) lb Z) (by rw[hs,Z])) (by decide) (by decide) (by rw[hs,Z]) (by rw[Z];rfl)) fun σ H Q h=>?_
 obtain⟨O,S,ρ,rep,re,c⟩:=h;refine⟨O,S,ρ,rep,re,av (ai c) fun x L S1 F e1 rep1 W v r=>?_⟩;obtain⟨U,W⟩:=rS W;exact⟨v,yj x,Ts,rfl,yk rep1 r U,uZ x,P,ag W .refl rep1 _ (.bl _)⟩
theorem wy:dj X (.builtin "isinstance") (fun xs H Q=>∃x t p T U,xs=[x,.ref p]/\H p=ar (.tup [.ty T,.ty U])/\AM H x=ar t/\t∈["NoneType","bool","int","str","tuple","list","dict"]/\T∈["bool","int","str","tuple","list"]/\U∈["bool","int","str","tuple","list"]/\
  Q (.bl (gZ t T||gZ t U)) H):=by
 intro pins s σ H xs us Q I r h;obtain⟨x,t,p,T,U,rfl,J,Z,R,F,C,q⟩:=h;obtain⟨u,G,rfl,S,P⟩:=vals2 r;cases (show G=e_ p from P);obtain⟨_,its,A,⟨cls,dd,data,g⟩,Y,N,n,hd⟩:=(show bx X.prog X.w H s.heap p (.tup [.ty T,.ty U])from I.hok p _ J);simp only at N hd;subst N hd;obtain⟨k,L,rfl,v,B⟩:=vals2 A;cases (show k=wh T from v);cases (show L=wh U from B);have e:LL X.K (.type t) [.type T,.type U]=ar (gZ t T||gZ t U):=by
  unfold LL LL LL;rw[qt X.K t R T F,qt X.K t R U C];cases gZ t T<;>cases gZ t U<;>rfl
 have fin:∀O,EP X pins σ Q (.bool (gZ t T||gZ t U)) {s with toks:=O}:=fun O=>⟨.bl _,H,I.tok O,rfl,q⟩;have ty:=yi (K:=X.K) Z;generalize hT:wh t=tv at ty e;cases ty with
 |non=>cases (show u=hh from S);exact IZ KS I.kIn k_ Y e (fun z=>nomatch z) fin
 |bl y=>cases (show u=l_ y from S);exact IZ W.kitx_bool I.kIn k_ Y e (fun z=>nomatch z) fin
 |int i=>obtain⟨t,q⟩:=(show ∃t,u=m2 i t from S);cases q;exact IZ W.kitx_int I.kIn k_ Y e (fun z=>nomatch z) fin
 |str y=>obtain⟨t,q⟩:=(show ∃t,u=yn y t from S);cases q;exact IZ W.kitx_str I.kIn k_ Y e (fun z=>nomatch z) fin
 |flt y=>obtain⟨t,q⟩:=(show ∃t,u=A_ y t from S);cases q;exact IZ W.kitx_float I.kIn k_ Y e (fun z=>nomatch z) fin
 | @lst a xs ea=>
  cases (show u=e_ a from S);obtain⟨_,_,n,_,Z⟩:=(show bx X.prog X.w H s.heap a (.lst xs)from I.hok a _ ea);exact IZ J7 I.kIn ⟨_,Z,rfl⟩ Y e (fun z=>nomatch z) fin
 | @frz a ob xs ea=>
  cases (show u=e_ a from S);obtain⟨_,_,_,n,_,Z⟩:=(show bx X.prog X.w H s.heap a (.frz ob (.lst xs))from I.hok a _ ea);exact IZ J7 I.kIn ⟨_,Z,rfl⟩ Y e (fun z=>nomatch z) fin
 | @tup a xs ea=>
  cases (show u=e_ a from S);obtain⟨_,_,_,o,Z,R,_⟩:=(show bx X.prog X.w H s.heap a (.tup xs)from I.hok a _ ea);exact IZ W.kitx_tuple I.kIn ⟨o,Z,R⟩ Y e (fun z=>nomatch z) fin
 | @dK a kvs ea=>
  cases (show u=e_ a from S);obtain⟨_,_,vs,_,o,es,j,Z,R,_⟩:=(show bx X.prog X.w H s.heap a (.dK kvs)from I.hok a _ ea);exact IZ J8 I.kIn ⟨o,Z,R.1⟩ Y e (fun z=>nomatch z) fin
 | @dT a kvs ea=>
  cases (show u=e_ a from S);obtain⟨_,_,xs,_,o,es,j,Z,R,_⟩:=(show bx X.prog X.w H s.heap a (.dT kvs)from I.hok a _ ea);exact IZ J8 I.kIn ⟨o,Z,R.1⟩ Y e (fun z=>nomatch z) fin
 |ins=>cases hT
theorem AN{p q W Y:Pos}{x1}{T U:Str}{Ts Us:String}(u:X.mg "isinstance"=none)(G:X.mg T=none)(K:X.mg U=none)(j:SE X E e m)(w:i4 T=ar (.type Ts):=by decide+kernel)(L:i4 U=ar (.type Us):=by decide+kernel)
  (C:Ts∈["bool","int","str","tuple","list"]:=by decide) (I:Us∈["bool","int","str","tuple","list"]:=by decide) (k:Gl X "isinstance":=by rfl) (N:Gl X T:=by rfl) (J:Gl X U:=by rfl)
  (s:T≠"__name__":=by decide) (P:(T==("__debug__":Str))=false:=by decide) (B:U≠"__name__":=by decide) (O:(U==("__debug__":Str))=false:=by decide)
  (hs:dt [e,.Tuple [.Name T q,.Name U W] x1 Y] X.env=[(dr,gd e X.env),(dr,gd (.Tuple [.Name T q,.Name U W] x1 Y) X.env)]:=by rfl) (Z:dt [.Tuple [.Name T q,.Name U W] x1 Y] X.env=[(dr,gd (.Tuple [.Name T q,.Name U W] x1 Y) X.env)]:=by rfl):
  SE X E (.Call (.Name "isinstance" p) [e,.Tuple [.Name T q,.Name U W] x1 Y] [] pos) (fun ρ=>do let x<-m ρ;ym (fun t=>gZ t Ts||gZ t Us) x):=by
 refine PE.imp (kc wy k u (by decide+kernel) (eS j (eS (xG (eS (mC N G w (v:=.ty Ts) rfl s P) (eS (mC J K L (v:=.ty Us) rfl B O) lb rfl) rfl)) lb Z) (by rw[hs,Z])) (by decide) (by decide) (by rw[hs,Z]) (by rw[Z];rfl)) fun σ H Q h=>?_
 obtain⟨y,S,ρ,rep,re,c⟩:=h;refine⟨y,S,ρ,rep,re,av (ai c) fun x R S1 z e1 rep1 F v r=>?_⟩;obtain⟨P,F⟩:=rS F;refine⟨by show 2<=sizeLine;decide,fun p A=>?_⟩
 have rep2:=ib (o:=.tup [.ty Ts,.ty Us]) rep1 A;have e2:Ext R z R (upd z p (.tup [.ty Ts,.ty Us])):=fL A;exact⟨v,yj x,p,Ts,Us,rfl,bg,yk rep2 (r.later rep1 e2) P,uZ x,C,I,ag F e2 rep2 _ (.bl _)⟩
end
section
variable {X:Cx}{E:XD}{a b e c o tg:Expr}{m n l:TM}{pos p2:Pos}{es:List Expr}{ms:aB->M (List D)}
theorem range_all{bs:List Bool}:(d_ bs.length).all (fun i=>bs.getD i dr)=bs.all id:=by
 induction bs with
 |nil=>rfl
 |cons b bs ih=>
  rw[IH,J6,GB,Lh];simp only[List.getD_cons_zero,GB,id];congr 1
theorem wz(F:X.calm=b_):dj X (.builtin "all") (fun xs H Q=>∃(p:cq) (bs:List Bool),xs=[.ref p]/\iS X.K H p (bs.map V.bl)/\Q (.bl (bs.all id)) H):=by
 intro pins s σ H xs us Q I r h;obtain⟨p,bs,rfl,P,q⟩:=h;obtain⟨u,rfl,O⟩:=vals1 r;cases (show u=e_ p from O);obtain⟨its,S,G,B⟩:=I.list P;have U:=G.isList;refine call_all_walk (KR U ?_);have T:p<s.heap.objs.size:=by obtain⟨o,N,_⟩:=U;exact HS N
 have hlen:=S.length;refine⟨s.heap.objs.size,_,_,_,_,_,fun i=>bs.getD i dr,rfl,Walks.list (A:=X.A.in1) (by show X.A.handled=none;exact I.ok.hd F) s.heap.objs.size p (Ih T) its.toArray,⟨⟨_,Ia _ rfl,rfl,rfl⟩,U.push _⟩,?_,fun h' w C=>?_⟩
 ·intro i v s' y z J W;have Z:its[i]? =ar v:=by simpa using J
  have x:i<its.length:=(HQ.mp Z).1;have Y:i<bs.length:=by rw[HL]at hlen;omega
  have:(bs.map V.bl)[i]? =ar (.bl bs[i]):=by rw[IL,HR Y];rfl
  obtain⟨u,R,L⟩:=S.get this;rw[Z]at R;cases R;cases (show v=l_ bs[i]from L);have:bs.getD i dr=bs[i]:=by simp[List.getD,Y]
  dsimp only at W;rw[this]at W;exact IP W
 ·have e1:its.toArray.size=bs.length:=by rw[HW, <-hlen,HL]
  rw[e1,range_all];refine⟨.bl _,H,I.kept (fun b o e=>C b o ?_ (HM _ e)),rfl,q⟩;have:b≠s.heap.objs.size:=Ih (HS e);simpa using this
def boolsOf:List D->Option (List Bool)
 |[]=>ar []
 | .bl i::r=>(boolsOf r).map (i::·)
 |_=>none
theorem fj{K:dn}{Y:List cq}{H:Hp}:∀{ds:List D} {vs:List V} {ns:List Bool},RelDs K Y H ds vs->boolsOf ds=ar ns->vs=ns.map V.bl
 |[],vs,ns,h,e=>by cases e;rw[h.nil_inv];rfl
 | .bl i::ds,vs,ns,h,e=>by
  obtain⟨v,ws,rfl,U,Z⟩:=h.cons_inv;cases q:boolsOf ds with
  |none=>simp[boolsOf,q]at e
  |some ks=>
   simp[boolsOf,q]at e;subst e;rw[U.bl_inv,fj Z q];rfl
 | .non::_,_,_,_,e=>by cases e
 | .int _::_,_,_,_,e=>by cases e
 | .str _::_,_,_,_,e=>by cases e
 | .tup _::_,_,_,_,e=>by cases e
 | .lst _::_,_,_,_,e=>by cases e
 | .ro _::_,_,_,_,e=>by cases e
 | .fz _::_,_,_,_,e=>by cases e
 | .emp::_,_,_,_,e=>by cases e
def rT:List D->M D
 |[.lst k]=>do
  let xs<-getL k
  match boolsOf xs with
  |some bs=>aC (.bl (bs.all id))
  |none=>M.fail
 |[.fz xs]=>match boolsOf xs with
  |some bs=>aC (.bl (bs.all id))
  |none=>M.fail
 |_=>M.fail
theorem wA:jE X.K E rT (fun xs H Q=>∃(p:cq) (bs:List Bool),xs=[.ref p]/\iS X.K H p (bs.map V.bl)/\Q (.bl (bs.all id)) H):=by
 intro P S H ds vs Q rep r c;unfold rT at c;split at c
 ·next k=>
  obtain⟨v,ws,rfl,T,U⟩:=r.cons_inv;cases U.nil_inv;obtain⟨p,rfl,W⟩:=T.lst_inv;obtain⟨es,us,_,R,Y,Z⟩:=a8 c rep W;cases q:boolsOf es with
  |none=>rw[q]at Z;exact(ah Z).elim
  |some bs=>
   rw[q]at Z;refine⟨p,bs,rfl,.of ?_,ag Z .refl rep _ (.bl _)⟩;rw[<-fj Y q];exact R
 ·next es=>
  obtain⟨v,ws,rfl,T,U⟩:=r.cons_inv;cases U.nil_inv;obtain⟨p,o,us,rfl,W,Y⟩:=T.fz_inv;cases q:boolsOf es with
  |none=>rw[q]at c;exact(ah c).elim
  |some bs=>
   rw[q]at c;refine⟨p,bs,rfl,.inl (.inr ⟨o,?_⟩),ag c .refl rep _ (.bl _)⟩;rw[<-fj Y q];exact W
 ·exact(ah c).elim
theorem t7(Z:X.calm=b_)(U:X.mg "all"=none)(Y:SE X E e m)(W:Gl X "all":=by rfl)(hs:dt [e] X.env=[(dr,gd e X.env)]:=by rfl):SE X E (.Call (.Name "all" p) [e] [] pos) (fun ρ=>do let ds<-(do let x<-m ρ;let xs<-aC [];aC (x::xs));rT ds):=
 gX (wz Z) wA W U (by decide+kernel) (af Y au hs) (by decide) (by decide) hs rfl
def cb:D->List D->M D
 | .lst k,[d]=>do let xs<-getL k;jN k (xs++[d])
 |_,_=>M.fail
def ky:D->List D->M D
 | .lst k,[.lst j]=>do let xs<-getL k;let ys<-getL j;jN k (xs++ys)
 | .lst k,[.fz ys]=>do let xs<-getL k;jN k (xs++ys)
 |_,_=>M.fail
def lr:D->List D->M D
 | .lst k,[.int i]=>do
  let xs<-getL k
  if 0<=i/\i<xs.length then
   match xs[i.toNat]? with
   |some y=>do let _<-jN k (xs.eraseIdx i.toNat);aC y
   |none=>M.fail
  else M.fail
 |_,_=>M.fail
theorem yp{K:dn}{H:Hp}{p:cq}{xs:List V}(h:H p=ar (.lst xs)):GP K "list" (.ref p) H:=.inl ⟨rfl,xs,.of h⟩
def Di:D->M Unit
 | .lst _=>aC ()
 |_=>M.fail
theorem qu{name:Str}{L:String}{f:D->List D->M D}{r:V->List V->Hp->VK->Prop}{Y:Pos}(T:Slot "list" name L)(O:typeOf (.builtin L)=aC (.type "method_descriptor"))(B:GN X L r)
  (s:FY X.K E f r) (u:SE X E o m) (w:SA X E (e::es) ms)
  (W:j' o name X.env (gd o X.env)=gd o X.env:=by rfl)
  (R:((n_ pos (dt (e::es) X.env)).all (fun x=> !x.1) && (backToKw pos (keywordEach [] X.env)).all (fun x=>x.1.isSome)
   && decide ((e::es).length+([]:List LA).length+(if ([]:List LA).isEmpty then 0 else 1)<30))=true:=by rfl)
  (U:(Y.endLine==pos.line)=true:=by rfl) (hs:dt (e::es) X.env=(dr,gd e X.env)::dt es X.env:=by rfl) (Z:(n_ pos (dt es X.env)).any (·.1)=false:=by rfl):
  SE X E (.Call (.Attribute o name Y) (e::es) [] pos) (fun ρ=>do let x<-m ρ;Di x;let ds<-ms ρ;f x ds):=by
 refine PE.imp (EX PySem.F.plainAttrs_list T O B u w W R U hs Z) fun σ H Q h=>?_;obtain⟨G,S,ρ,rep,re,c⟩:=h;refine⟨G,S,ρ,rep,re,av (ai c) fun x N S1 j e1 rep1 I v J=>?_⟩;cases x with
 |lst k=>
  obtain⟨p,rfl,A⟩:=J.lst_inv;obtain⟨vs,C⟩:=rep1.isL (IC A);have y:=ag (ai I) .refl rep1;exact⟨yp C,N,S1,ρ,rep1,re.later rep e1,av (ai y) fun ds P S2 q e2 rep2 t vs z=>s P S2 q (.lst k) ds (.ref p) vs Q rep2 (J.later rep1 e2) z t⟩
 |_=>exact(ah (ai I)).elim
theorem t8:FY X.K E cb uR:=by
 intro N S H d ds v vs Q rep r rs c;unfold cb at c;split at c
 ·next k d=>
  obtain⟨p,rfl,Y⟩:=r.lst_inv;obtain⟨w,ws,rfl,O,P⟩:=rs.cons_inv;cases P.nil_inv;obtain⟨es,us,_,U,T,R⟩:=a8 c rep Y;obtain⟨Z,W⟩:=gW R rep Y (T.append (.cons O .nil));rw[HP]at Z;exact⟨p,us,w,rfl,rfl,U,HZ (by simp at Z;omega) fy,W _ .non⟩
 ·exact(ah c).elim
def rV:V->List V->Hp->VK->Prop:=fun x vs H Q=>∃l b xs zs,x= .ref l/\vs=[.ref b]/\H l=ar (.lst xs)/\Rd H b (.lst zs)/\xs.length+zs.length<=sizeLine/\Q .non (upd H l (.lst (xs++zs)))
theorem t9:GN X "list.extend" rV:=by
 intro pins s σ H x vs v us Q I T N h;obtain⟨l,b,xs,zs,rfl,rfl,U,R,G,q⟩:=h;cases T;obtain⟨u,rfl,P⟩:=N.one;cases P;obtain⟨z,its,n,r,K,e⟩:=I.lstM U;obtain⟨J,Z,L,S,O,e2⟩:=Inv.lstR I R;have W:its.toArray.size+Z.toArray.size<=sizeLine:=by rw[HW,HW];omega
 have Y:¬ (!its.toArray.isEmpty && la (its.toArray.size+Z.toArray.size))=true:=by
  rw[rE W,Lm];exact IT
 refine Lk F.slot_list_extend ⟨_,e,rfl⟩ F.entry_list_extend (F.args_list_extend_2 _ _)
  (AutoSeq1.list_extend_list_list_0 l its.toArray n b Z.toArray L Y (by rw[HW];omega) (by omega)) ⟨e,e2,?_⟩
 refine⟨.non,_,I.lset (its':=its++Z) U e (by simp) (r.append S) ?_,rfl,q⟩
 rw[HP];omega
theorem ua:FY X.K E ky rV:=by
 intro F S H d ds v vs Q rep r rs c;unfold ky at c;split at c
 ·next k j=>
  obtain⟨p,rfl,Y⟩:=r.lst_inv;obtain⟨w,ws,rfl,L,N⟩:=rs.cons_inv;cases N.nil_inv;obtain⟨q,rfl,T⟩:=L.lst_inv;obtain⟨es,us,_,U,R,O⟩:=a8 c rep Y;obtain⟨I,ys,_,J,P,G⟩:=a8 O rep T;obtain⟨Z,W⟩:=gW G rep Y (R.append P);rw[HP]at Z;exact⟨p,q,us,ys,rfl,rfl,U,.inl J,HX Z fy,W _ .non⟩
 ·next k I=>
  obtain⟨p,rfl,Y⟩:=r.lst_inv;obtain⟨w,ws,rfl,L,N⟩:=rs.cons_inv;cases N.nil_inv;obtain⟨q,o,ys,rfl,T,P⟩:=L.fz_inv;obtain⟨es,us,_,U,R,O⟩:=a8 c rep Y;obtain⟨Z,W⟩:=gW O rep Y (R.append P);rw[HP]at Z;exact⟨p,q,us,ys,rfl,rfl,U,.inr ⟨o,T⟩,HX Z fy,W _ .non⟩
 ·exact(ah c).elim
theorem wB:FY X.K E lr xM:=by
 intro O S H d ds v vs Q rep r rs c;unfold lr at c;split at c
 ·next k i=>
  obtain⟨p,rfl,W⟩:=r.lst_inv;obtain⟨w,ws,rfl,F,I⟩:=rs.cons_inv;cases I.nil_inv;rw[F.int_inv];obtain⟨es,us,J,L,U,Z⟩:=a8 c rep W;split at Z
  ·next hb=>
   cases q:es[i.toNat]? with
   |none=>rw[q]at Z;exact(ah Z).elim
   | some y=>
    rw[q]at Z;obtain⟨G,P,R⟩:=U.get' q;have hlen:=U.length;have C:Ext O H O (upd H p (.lst (us.eraseIdx i.toNat))):=qg (IC W);have Y:=RelDs.eraseIdx i.toNat U;have N:=gW (ai Z) rep W Y;have T:us.length<=lim+1:=by
     have:=N.1;rw[List.length_eraseIdx]at this;split at this<;>omega
    refine⟨p,us,i,i.toNat,G,rfl,rfl,L,by omega,by unfold lim at T;omega,?_,P,?_⟩
    ·unfold Lr;simp only[show ¬ i<0 by omega,if_false]
     first|(rw[if_pos (by omega)])|(rw[if_pos (by simp;omega)])|(simp;omega)
    ·exact ag N.2 .refl (qh rep W Y) _ (R.later rep C)
  ·exact(ah Z).elim
 ·exact(ah c).elim
theorem fR{Z:Pos}(T:SE X E o m)(U:SE X E e n)
  (W:j' o "append" X.env (gd o X.env)=gd o X.env:=by rfl)
  (Y:(Z.endLine==pos.line)=true:=by rfl) (hs:dt [e] X.env=[(dr,gd e X.env)]:=by rfl):
  SE X E (.Call (.Attribute o "append" Z) [e] [] pos) (fun ρ=>do let x<-m ρ;Di x;let ds<-(do let y<-n ρ;let ys<-aC [];aC (y::ys));cb x ds):=
 qu PySem.F.slot_list_append PySem.F.type_list_append o7 t8 T (af U au hs) W (by rw[hs];rfl) Y hs rfl
theorem wC{Z:Pos}(T:SE X E o m)(U:SE X E e n)
  (W:j' o "extend" X.env (gd o X.env)=gd o X.env:=by rfl)
  (Y:(Z.endLine==pos.line)=true:=by rfl) (hs:dt [e] X.env=[(dr,gd e X.env)]:=by rfl):
  SE X E (.Call (.Attribute o "extend" Z) [e] [] pos) (fun ρ=>do let x<-m ρ;Di x;let ds<-(do let y<-n ρ;let ys<-aC [];aC (y::ys));ky x ds):=
 qu PySem.F.slot_list_extend PySem.F.type_list_extend t9 ua T (af U au hs) W (by rw[hs];rfl) Y hs rfl
theorem yq{Z:Pos}(T:SE X E o m)(U:SE X E e n)
  (W:j' o "pop" X.env (gd o X.env)=gd o X.env:=by rfl)
  (Y:(Z.endLine==pos.line)=true:=by rfl) (hs:dt [e] X.env=[(dr,gd e X.env)]:=by rfl):
  SE X E (.Call (.Attribute o "pop" Z) [e] [] pos) (fun ρ=>do let x<-m ρ;Di x;let ds<-(do let y<-n ρ;let ys<-aC [];aC (y::ys));lr x ds):=
 qu PySem.F.slot_list_pop PySem.F.type_list_pop xN wB T (af U au hs) W (by rw[hs];rfl) Y hs rfl
theorem wD:GT X.K E i5 BW:=by
 intro L S H I F N v1 v2 G Q rep O P U c;unfold i5 at c;split at c
 ·next k j=>
  obtain⟨p,rfl,W⟩:=O.lst_inv;obtain⟨es,us,_,R,Y,Z⟩:=a8 c rep W;cases q:xm es.length j with
  |none=>rw[q]at Z;exact(ah Z).elim
  |some at'=>
   rw[q]at Z;obtain⟨J,T⟩:=gW (ai Z) rep W (RelDs.set U at' Y);refine⟨p,us,j,at',rfl,P.int_inv,R,by rw[<-Y.length];exact q,?_⟩
   exact ag T .refl (qh rep W (RelDs.set U at' Y))
 ·exact(ah c).elim
theorem u6(N:SE X E o m)(J:SE X E i n)(O:∀v,A' (.Subscript o i pos) X.env v=(do
   let ov<-s_ [v] (gd o X.env);let iv<-s_ [v,ov] (gd i X.env)
   G4 pos
   s_ [v,ov,iv] (Mh ov iv v)
   release [v,ov,iv] []):=by intro _;rfl):SG X E (.Subscript o i pos) (fun d ρ=>do let x<-m ρ;let y<-n ρ;i5 x y d;aC ρ):=by
 refine PG.imp (CC N J set_list O) fun v σ H Q h=>?_;obtain⟨U,S,ρ,d,rep,re,r,c⟩:=h;refine⟨U,S,ρ,rep,re,av (ai c) fun x W S1 B e1 rep1 L v1 R=>?_⟩;refine⟨W,S1,ρ,rep1,re.later rep e1,av (ai L) fun y Z S2 I e2 rep2 P v2 T=>?_⟩;have Y:=(re.later rep e1).later rep1 e2;refine wD (E:=E) Z S2 I x y d v1 v2 v _ rep2 (R.later rep1 e2) T ((r.later rep e1).later rep1 e2) (av (ai P) fun _ G A C F rep3 K=>?_);exact ag K .refl rep3 σ (Y.later rep2 F)
def a9(lo:Int)(n:Nat):List D:=(d_ n).map fun i=>.int (lo+(i:Nat))
def lu:List D->M Iter
 |[.int j]=>if -(2 ^ 62)<=j/\j<2 ^ 62 then aC ⟨a9 0 j.toNat,.none⟩else M.fail
 |_=>M.fail
def ju:List D->M Iter
 |[.int i,.int j]=>if -(2 ^ 62)<=i/\i<2 ^ 62/\ -(2 ^ 62)<=j/\j<2 ^ 62 then aC ⟨a9 i (j - i).toNat,.none⟩else M.fail
 |_=>M.fail
theorem kz{K:dn}{Y:Int}{n:Nat}{S:List cq}{H:Hp}:i6 K ⟨a9 Y n,.none⟩ (EB Y n) S H:=by
 intro R P S2 e rep ok i;refine⟨fun d hd=>?_,fun h=>?_⟩
 ·have Z:((d_ n)[i]?).map (fun i:Nat=>D.int (Y+(i:Nat)))=ar d:=by
   have:(a9 Y n)[i]? =ar d:=hd;unfold a9 at this;rw[IL]at this;exact this
  have U:i<n:=by
   by_cases h:i<n
   ·exact h
   ·rw[Jd (by simp;omega)]at Z;cases Z
  rw[JR U]at Z;cases Z;exact⟨U,fun x Q T=>by obtain⟨rfl,rfl⟩:=T;exact⟨.refl,rep,.int _⟩⟩
 ·have h':(a9 Y n).length<=i:=h;unfold a9 at h';rw[HL,Ie]at h';exact h'
theorem dJ(T:X.mg "range"=none)(Y:SE X E a m)(O:Gl X "range":=by rfl)(hs:dt [a] X.env=[(dr,gd a X.env)]:=by rfl):
  SI X E tg (.Call (.Name "range" p) [a] [] pos) (fun ρ=>do let ds<-(do let x<-m ρ;let xs<-aC [];aC (x::xs));lu ds):=by
 intro pins s σ H R I h;refine vZ O T (af Y au hs) hs pins s σ H R I ?_;obtain⟨W,S,ρ,rep,re,c⟩:=h;refine⟨W,S,ρ,rep,re,av (ai c) fun ds U S1 N e1 rep1 Z vs r=>?_⟩;unfold lu at Z;split at Z
 ·next j=>
  obtain⟨w,ws,rfl,P,Q⟩:=r.cons_inv;cases Q.nil_inv;split at Z
  ·next hb=>rw[P.int_inv];exact⟨j,rfl,hb.1,hb.2,ag Z .refl rep1 _ kz⟩
  ·exact(ah Z).elim
 ·exact(ah Z).elim
theorem lz(P:X.mg "range"=none)(U:SE X E a m)(W:SE X E b n)(J:Gl X "range":=by rfl)(hs:dt [a,b] X.env=[(dr,gd a X.env),(dr,gd b X.env)]:=by rfl)(Z:dt [b] X.env=[(dr,gd b X.env)]:=by rfl):
  SI X E tg (.Call (.Name "range" p) [a,b] [] pos) (fun ρ=>do let ds<-(do let x<-m ρ;let xs<-(do let y<-n ρ;let ys<-aC [];aC (y::ys));aC (x::xs));ju ds):=by
 intro pins s σ H R I h;refine v5 J P (af U (af W au Z) (by rw[hs,Z])) hs Z pins s σ H R I ?_
 obtain⟨T,S,ρ,rep,re,c⟩:=h;refine⟨T,S,ρ,rep,re,av (ai c) fun ds Q S1 C e1 rep1 Y vs r=>?_⟩;unfold ju at Y;split at Y
 ·next i j=>
  obtain⟨w,ws,rfl,K,O⟩:=r.cons_inv;obtain⟨F,N,rfl,G,L⟩:=O.cons_inv;cases L.nil_inv;split at Y
  ·next W=>rw[K.int_inv,G.int_inv];exact⟨i,j,rfl,W,ag Y .refl rep1 _ kz⟩
  ·exact(ah Y).elim
 ·exact(ah Y).elim
def Fc:D->M Iter
 | .lst k=>do let xs<-getL k;aC ⟨xs,.some k⟩
 | .tup ds=>aC ⟨ds,.none⟩
 | .ro ds=>aC ⟨ds,.none⟩
 | .fz ds=>aC ⟨ds,.none⟩
 |_=>M.fail
theorem rW{K:dn}{k:Nat}{a:cq}{xs:List D}{U:List cq}{H:Hp}(R:U[k]? =ar a):i6 K ⟨xs,.some k⟩ (FV K a) U H:=by
 intro P N S2 e rep ok i;obtain⟨vs,Y,T⟩:=rep.get k a xs (e.at R) ok;refine⟨fun d hd=>?_,fun h=>⟨vs,.of Y,by rw[<-T.length];exact h⟩⟩
 obtain⟨v,S,Q⟩:=T.get' hd;refine⟨⟨vs,v,.of Y,S⟩,fun x O Z=>?_⟩;obtain⟨rfl,Z⟩:=Z;have:=Z vs (.of Y);rw[S]at this;cases this;exact⟨.refl,rep,Q⟩
theorem ub{K:dn}{a:cq}{ds:List D}{vs:List V}{T:List cq}{S:ay}{H:Hp}(Y:Rep K T H S)(R:H a=ar (.tup vs))(r:RelDs K T H ds vs):i6 K ⟨ds,.none⟩ (GA K a) T H:=by
 intro O J S2 e rep2 ok i;have Z:=(e.oth a _ R (Y.notIn R (by intro _ z;cases z)) (by intro _ z;cases z) (by intro _ z;cases z)).1
 have N:=r.laterN Y e;refine⟨fun d hd=>?_,fun h=>⟨vs,.of Z,by rw[<-r.length];exact h⟩⟩
 obtain⟨v,Q,P⟩:=N.get' hd;refine⟨⟨vs,v,.of Z,Q⟩,fun x L U=>?_⟩;obtain⟨rfl,U⟩:=U;have:=U vs (.of Z);rw[Q]at this;cases this;exact⟨.refl,rep2,P⟩
theorem pq{K:dn}{a:cq}{ds:List D}{vs:List V}{U:List cq}{S:ay}{H:Hp}(Z:Rep K U H S)(O:Ah K H a vs)(r:RelDs K U H ds vs):i6 K ⟨ds,.none⟩ (FV K a) U H:=by
 intro L P S2 e rep2 ok i;have T:Ah K P a vs:=O.imp (fun⟨o,h⟩=>⟨o,(e.oth a _ h (Z.notIn h (by intro _ z;cases z)) (by intro _ z;cases z) (by intro _ z;cases z)).1⟩) fun z=>z
 have J:=r.laterN Z e;have R:iS K P a vs:=T.sq;refine⟨fun d hd=>?_,fun h=>⟨vs,R,by rw[<-r.length];exact h⟩⟩
 obtain⟨v,Q,N⟩:=J.get' hd;refine⟨⟨vs,v,R,Q⟩,fun x I Y=>?_⟩;obtain⟨rfl,Y⟩:=Y;have:=Y vs R;rw[Q]at this;cases this;exact⟨.refl,rep2,N⟩
theorem eN(O:SE X E e m):SI X E tg e (fun ρ=>do let x<-m ρ;Fc x):=by
 intro pins s σ H R I h;obtain⟨Q,S,ρ,rep,re,c⟩:=h;obtain⟨r,P,T,k⟩:=id (ai c);cases r with
 |ex x=>
  refine kb O pins s σ H R I ⟨Q,S,ρ,rep,re,.ex x,P,T,k⟩
 | ok d=>
  cases d with
  |tup ds=>
   refine CH O pins s σ H R I ⟨Q,S,ρ,rep,re,.ok (.tup ds),P,T,fun Z W e1 rep1 v U=>?_⟩;obtain⟨p,vs,rfl,Y,N⟩:=U.tup_inv;exact⟨p,rfl,⟨vs,.of Y⟩,ag (k Z W e1 rep1) .refl rep1 _ (ub rep1 Y N)⟩
  |lst j=>
   refine kb O pins s σ H R I ⟨Q,S,ρ,rep,re,.ok (.lst j),P,T,fun Z W e1 rep1 v U=>?_⟩;obtain⟨p,rfl,Y⟩:=U.lst_inv;obtain⟨es,us,_,L,J,K⟩:=a8 (k Z W e1 rep1) rep1 Y;exact⟨p,rfl,⟨us,.of L⟩,ag K .refl rep1 _ (rW Y)⟩
  |ro ds=>
   refine kb O pins s σ H R I ⟨Q,S,ρ,rep,re,.ok (.ro ds),P,T,fun Z W e1 rep1 v U=>?_⟩;obtain⟨p,vs,rfl,Y,N⟩:=U.ro_inv;exact⟨p,rfl,⟨vs,Y.sq⟩,ag (k Z W e1 rep1) .refl rep1 _ (pq rep1 Y N)⟩
  |fz ds=>
   refine kb O pins s σ H R I ⟨Q,S,ρ,rep,re,.ok (.fz ds),P,T,fun Z W e1 rep1 v U=>?_⟩;obtain⟨p,o,vs,rfl,Y,N⟩:=U.fz_inv;exact⟨p,rfl,⟨vs,.inl (.inr ⟨o,Y⟩)⟩,ag (k Z W e1 rep1) .refl rep1 _ (pq rep1 (.inl ⟨o,Y⟩) N)⟩
  |_=>exact kb O pins s σ H R I ⟨Q,S,ρ,rep,re,.ok _,P,T,fun Z W e1 rep1 v U=>(ah (k Z W e1 rep1)).elim⟩
theorem rX:dj X (.type "range") (fun xs H Q=>∃j,xs=[.int j]/\∀p,H p=none->Q (.ref p) (upd H p (.rng 0 j))):=by
 intro pins s σ H xs us Q I r h;obtain⟨j,rfl,q⟩:=h;obtain⟨u,rfl,Z⟩:=vals1 r;obtain⟨t,rfl⟩:=(show ∃t,u=m2 j t from Z);refine call_range_1 ⟨.ref s.heap.objs.size,_,I.laid (o:=.rng 0 j) (fun b o e=>HM _ e) (HN _) ⟨_,_,_,Ia _ rfl⟩,rfl,q _ (I.hok.fresh (HN _))⟩
theorem oI(F:X.calm=b_):dj X (.type "list") (fun xs H Q=>∃(p:cq) (j:Int),xs=[.ref p]/\H p=ar (.rng 0 j)/\ -(2 ^ 62)<=j/\j<=lim/\∀l,H l=none->Q (.ref l) (upd H l (.lst ((d_ j.toNat).map fun i:Nat=>V.int (i:Nat))))):=by
 intro pins s σ H xs us Q I r h;obtain⟨p,j,rfl,S,P,L,q⟩:=h;obtain⟨u,rfl,R⟩:=vals1 r;cases (show u=e_ p from R);obtain⟨t,u,v,K⟩:=(show bx X.prog X.w H s.heap p (.rng 0 j)from I.hok p _ S);have U:Builtin.Range.rangeSize 0 j 1=(j.toNat:Int):=by rw[rangeSize_one];split<;>omega
 have Z:j.toNat<=lim:=by omega
 refine call_list_range (I.ok.hd F) K (small_one (by omega) (by omega) P (by unfold lim at L;omega)) U (by unfold lim at Z;omega) fun h' G acc N T O hit=>?_
 refine⟨.ref s.heap.objs.size,_,I.laid (t':=G) T (HN _) (o:=.lst ((d_ j.toNat).map fun i:Nat=>V.int (i:Nat))) ?_,rfl,q _ (I.hok.fresh (HN _))⟩;refine⟨by rw[HL,Ie];exact HX Z fy,acc.toList,N,?_,by simpa using O⟩
 obtain⟨hs,J⟩:=hit;have gen:∀(l:List a_) (f:Nat->Int),(∀i v,l[i]? =ar v->∃t,v=m2 (f i) t)->bb ((d_ l.length).map fun i:Nat=>V.int (f i)) l:=by
  intro l
  induction l with
  |nil=>intro f _;exact .nil
  |cons x l ih=>
   intro f hf;rw[IH,J6,Iu,IK];obtain⟨t,W⟩:=hf 0 x rfl;refine .cons ⟨t,W⟩ ?_;exact ih (fun i=>f (i+1)) fun i v Y=>hf (i+1) v (by simpa using Y)
 have:=gen acc.toList (fun i=>(i:Int)) fun i v Y=>by
  obtain⟨t,W⟩:=J i v (by simpa using Y)
  exact⟨t,by rw[W];congr 1;omega⟩
 rw[Ky,hs]at this;exact this
def bM:List D->M D
 |[.int j]=>if -(2 ^ 62)<=j/\j<=lim then bq (a9 0 j.toNat)else M.fail
 |_=>M.fail
theorem nv{K:dn}{Z:List cq}{H:Hp}:∀(l:List Nat),RelDs K Z H (l.map fun i:Nat=>D.int (0+(i:Nat))) (l.map fun i:Nat=>V.int (i:Nat))
 |[]=>.nil
 |x::l=>.cons (by show RelD K Z H (D.int (0+(x:Int))) (V.int (x:Int));rw[Kj];exact .int _) (nv l)
theorem iq(I:X.calm=b_)(L:X.mg "list"=none)(U:X.mg "range"=none)(P:SE X E a m)(G:Gl X "list":=by rfl)(W:Gl X "range":=by rfl)(hs:dt [a] X.env=[(dr,gd a X.env)]:=by rfl)
  (Y:dt [.Call (.Name "range" q) [a] [] pos2] X.env=[(dr,gd (.Call (.Name "range" q) [a] [] pos2) X.env)]:=by rfl):
  SE X E (.Call (.Name "list" p) [.Call (.Name "range" q) [a] [] pos2] [] pos) (fun ρ=>do let ds<-(do let x<-m ρ;let xs<-aC [];aC (x::xs));bM ds):=by
 refine PE.imp (lg (oI I) G L (by decide+kernel) (eS (lg rX W U (by decide+kernel) (af P au hs) (by decide) (by decide) hs rfl) lb Y) (by decide) (by decide) Y rfl) fun σ H Q h=>?_
 obtain⟨O,S,ρ,rep,re,c⟩:=h;refine⟨O,S,ρ,rep,re,av (ai c) fun ds N S1 F e1 rep1 Z vs r=>?_⟩;unfold bM at Z;split at Z
 ·next j=>
  obtain⟨w,ws,rfl,J,K⟩:=r.cons_inv;cases K.nil_inv;split at Z
  ·next hb=>
   rw[J.int_inv];refine⟨j,rfl,fun p T=>?_⟩;have rep2:=ib (o:=.rng 0 j) rep1 T;refine⟨p,j,rfl,bg,hb.1,hb.2,?_⟩;have R:=ij Z (fL (o:=.rng 0 j) T);exact(bu R rep2 (nv (d_ j.toNat))).2
  ·exact(ah Z).elim
 ·exact(ah Z).elim
end
section
variable {X:Cx}{E:XD}{a b c d e:Expr}{m n l k:TM}{pos p2:Pos}
theorem Dj:SE X E (.Dict [] [] pos) (fun _=>aC .emp):=by
 intro pins s σ H Q I h;obtain⟨W,S,ρ,rep,re,Y⟩:=h;have big:G2<s.heap.objs.size:=Nat.lt_trans (by decide) (I.mod.glob.keeps I.bk).lt
 have hf:H s.heap.objs.size=none:=I.hok.fresh (HN _);have Z:bx X.prog X.w (upd H s.heap.objs.size (.dK [])) (s.heap.push {cls:=.type "dict",data:=.dict #[]}) s.heap.objs.size (.dK []):=⟨Iv _,beq_eq_false_iff_ne.mpr (i' (Ih big)),[],.nil,Heap.DictOf.new s.heap⟩;refine wpAny_Dict_empty ⟨.ref s.heap.objs.size,upd H s.heap.objs.size (.dK []),I.laid (t':=s.toks) (fun _ _ q=>HM _ q) (HN _) Z,rfl,?_⟩;exact ag Y (fL hf) (ib rep hf) _ (.emp bg)
end
section
variable {X:Cx}{E:XD}{e:Expr}{m:TM}{te:TE}{pos p1 p2 p3:Pos}{j:Nat}
end
def insI(x:Int):List Int->List Int
 |[]=>[x]
 |y::r=>if x<=y then x::y::r else y::insI x r
def sortI:List Int->List Int
 |[]=>[]
 |x::r=>insI x (sortI r)
theorem insI_perm(x:Int):∀l,(insI x l).Perm (x::l)
 |[]=>.refl _
 |y::r=>by
  unfold insI;split
  ·exact .refl _
  ·exact(List.Perm.cons y (insI_perm x r)).trans (List.Perm.swap x y r)
theorem sortI_perm:∀l,(sortI l).Perm l
 |[]=>.refl _
 |x::r=>(insI_perm x _).trans (List.Perm.cons x (sortI_perm r))
theorem lR(x:Int):∀{l:List Int},l.Pairwise (· <=·)->(insI x l).Pairwise (· <=·)
 |[],_=>by simp[insI]
 | y::r,h=>by
  obtain⟨Y,X⟩:=IU.mp h;unfold insI;split
  ·next c=>
   refine IU.mpr ⟨fun z Z=>?_,h⟩;rcases Ig.mp Z with rfl|Z
   ·exact c
   ·exact Int.le_trans c (Y z Z)
  ·next c=>
   refine IU.mpr ⟨fun z Z=>?_,lR x X⟩;rcases Ig.mp ((insI_perm x r).mem_iff.mp Z)with rfl|Z
   ·omega
   ·exact Y z Z
theorem ir:∀l,(sortI l).Pairwise (· <=·)
 |[]=>.nil
 |x::r=>lR x (ir r)
section
variable {X:Cx}{E:XD}{e:Expr}{m:TM}{pos:Pos}
theorem qv:dj X (.builtin "sorted") (fun xs H Q=>∃(p:cq) (ns:List Int),xs=[.ref p]/\iS X.K H p (ns.map V.int)/\ns.length<64/\∀l,H l=none->Q (.ref l) (upd H l (.lst ((sortI ns).map V.int)))):=by
 intro pins s σ H xs us Q I r h;obtain⟨p,ns,rfl,T,U,q⟩:=h;obtain⟨u,rfl,S⟩:=vals1 r;cases (show u=e_ p from S);obtain⟨its,Y,R,L⟩:=I.list T;have P:kT its ns:=Lj Y;have hlen:=Y.length;rw[HL]at hlen;refine sorted_ints R.isList P (by omega) fun out Z a1 a2 O=>?_
 have en:Z=sortI ns:=W.lks_uniq (a2.trans (sortI_perm ns).symm) O (ir ns);subst en;obtain⟨c,N⟩:=sortedAll_at s.heap its out;have hf:H (s.heap.objs.size+1)=none:=I.hok.fresh (J9 _);refine⟨.ref (s.heap.objs.size+1),_,I.laid (t':=s.toks) (o:=.lst ((sortI ns).map V.int)) (fun b o e=>sortedAll_old e) (J9 _) ⟨?_,out.toList,c,jr a1,N⟩,rfl,q _ hf⟩;rw[HL,(sortI_perm ns).length_eq,Jm];omega
theorem ny{K:dn}{Z:List cq}{H:Hp}:∀ns:List Int,RelDs K Z H (ns.map D.int) (ns.map V.int)
 |[]=>.nil
 |n::r=>.cons (.int n) (ny r)
end
end S3
namespace S3
open PySem PySem.Spec PySem.W PyProof.Rows L2
theorem nz{h:fc}:∀{vs:List a_},(∀v∈vs,∃a o us n i t,v= .ref a/\h.get? a=ar o/\o.cls= .type "tuple"/\o.data= .seq us n/\us[0]? =ar (m2 i t))->
  ∃Z,KatTups h vs Z/\Z.length=vs.length/\∀f∈Z,∃i t,f=m2 i t
 |[],_=>⟨[],.nil,rfl,fun _ z=>nomatch z⟩
 |v::vs,hv=>by
  obtain⟨a,o,us,n,i,t,rfl,e1,e2,W,Y⟩:=hv v Im;obtain⟨Z,k1,k2,k3⟩:=nz fun X h'=>hv X (HY _ h');refine⟨_::Z,.cons e1 e2 W Y k1,by simp[k2],fun f hf=>?_⟩
  rcases Ig.mp hf with rfl|hf
  ·exact⟨i,t,rfl⟩
  ·exact k3 f hf
theorem mG:∀ns:List Int,HT.lexLt ns ns=dr
 |[]=>rfl
 |n::r=>by rw[HT.lexLt_cons,if_pos rfl];exact mG r
theorem uc:∀{a b c:List Int},HT.lexLt a b=b_->HT.lexLt b c=b_->HT.lexLt a c=b_
 |[],[],c,h,_=>by cases h
 |[],_::_,[],_,h=>by cases h
 |[],_::_,_::_,_,_=>rfl
 |_::_,[],c,h,_=>by cases h
 |_::_,_::_,[],_,h=>by cases h
 | x::a,y::b,z::c,h1,h2=>by
  rw[HT.lexLt_cons]at h1 h2⊢;split at h1
  ·next e=>
   subst e;split at h2
   ·next e2=>subst e2;rw[if_pos rfl];exact uc h1 h2
   ·next e2=>rw[if_neg e2];exact h2
  ·next e=>
   have Z:x<y:=ID h1;split at h2
   ·next e2=>subst e2;rw[if_neg e];exact h1
   ·next e2=>
    have Y:y<z:=ID h2;rw[if_neg (by omega)];exact HU (by omega)
theorem qw:∀{a b c:List Int},HT.lexLt a c=b_->HT.lexLt a b=b_\/HT.lexLt b c=b_
 |a,b,[],h=>by cases a<;>cases h
 |[],[],_::_,_=>.inr rfl
 |[],_::_,_::_,_=>.inl rfl
 |_::_,[],_::_,_=>.inr rfl
 | x ::a,y::b,z::c,h=>by
  rw[HT.lexLt_cons]at h;rw[HT.lexLt_cons,HT.lexLt_cons];split at h
  ·next e=>
   subst e;by_cases e2:x=y
   ·subst e2;rw[if_pos rfl,if_pos rfl];exact qw h
   ·rw[if_neg e2,if_neg (i' e2)];rcases Int.lt_or_gt_of_ne e2 with l|l
    ·exact .inl (HU l)
    ·exact .inr (HU l)
  ·next e=>
   have h':x<z:=ID h;by_cases e2:x=y
   ·subst e2;rw[if_neg e];exact .inr (HU h')
   ·rw[if_neg e2];by_cases l:x<y
    ·exact .inl (HU l)
    ·refine .inr ?_;rw[if_neg (by omega)];exact HU (by omega)
theorem yr(x:bx P w H h a o):∃Z,h.get? a=ar Z:=by
 cases o with
 |lst xs=>obtain⟨_,_,_,_,e⟩:=x;exact⟨_,e⟩
 |tup xs=>obtain⟨_,_,_,Z,e,_⟩:=x;exact⟨_,e⟩
 |dK kvs=>obtain⟨_,_,_,_,o,_,_,e,_⟩:=x;exact⟨_,e⟩
 |dT kvs=>obtain⟨_,_,_,_,o,_,_,e,_⟩:=x;exact⟨_,e⟩
 |set S n=>obtain⟨o,_,_,_,e,_⟩:=x;exact⟨_,e⟩
 |ins C dx fs=>obtain⟨_,_,_,e,_⟩:=x;exact⟨_,e⟩
 |own y=>exact x
 |xd fs=>obtain⟨_,⟨_,_,_,e,_⟩,_⟩:=x;exact⟨_,e⟩
 |rng lo hi=>obtain⟨_,_,_,e⟩:=x;exact⟨_,e⟩
 |frz Z u=>exact⟨_,x.1⟩
 |tbl ps=>exact⟨_,show h.get? a=ar _ from x⟩
 |met f y=>exact⟨_,show h.get? a=ar _ from x⟩
 |ext φ=>exact x.2.1
section
variable {X:Cx}{pins:List (cq×Obj)}{σ:L2.St}{H:Hp}{s:c_}
theorem ud{us:List a_}(I:L2.Inv X pins σ H s)(N:Fr X.base X.env.locals s.heap m)(F:Fr X.base X.env.locals h2 m)
  (U:∀b o,b≠X.env.locals->s.heap.get? b=ar o->h2.get? b=ar o) (S:s.heap.get? d=none) (P:h2.get? d=ar {cls:=.type "list",data:=.seq us.toArray n}) (C:bb ys us) (J:ys.length<=sizeLine):
  L2.Inv X pins σ (upd H d (.lst ys)) {s with heap:=h2}:=by
 have Y:H d=none:=by
  cases e:H d with
  |none=>rfl
  |some o=>obtain⟨Q,q⟩:=yr (I.hok d o e);rw[S]at q;cases q
 have W:∀b o,H b=ar o->b≠X.env.locals:=fun b o e z=>by rw[z,I.free]at e;cases e
 have old:∀b o,s.heap.get? b=ar o->b≠d:=fun b o e z=>by rw[z,S]at e;cases e
 refine I.step (g':=s.gens) (d':=s.drawn) (t':=s.toks) (ch:=[]) (fun _ z=>nomatch z) (fun b o Z _ _ e _=>U b o Z e) (fun b o Z _ _ e _=>⟨o.slots,U b o Z e⟩)
  (fun b o _ e n=>by rw[aJ (old b o e)];exact n) (fun b o _ e=>?_) (fun b xs e=>by rw[aJ (aM e Y)];exact e) (fun b Q u e=>by rw[aJ (aM e Y)];exact e)
  (fun b A e=>⟨#[],by rw[aJ (aM e Y),e];simp⟩) (fun B hm=>?_) (fun b u e=>?_) I.bare
 ·by_cases Z:b=X.env.locals
  ·obtain⟨L,_,_,G,_⟩:=F.ns;exact⟨L,by rw[Z];exact G⟩
  ·exact⟨o,U b o Z e⟩
 ·have:B=m:=by
   obtain⟨y,es,w,e1,O,_,g1⟩:=hm;obtain⟨o2,E,K,e2,R,_,g2⟩:=N.ns;rw[e1]at e2;cases e2;rw[O]at R;cases R;funext x;rw[<-g1 x, <-g2 x]
  rw[this];exact F.ns
 ·by_cases Z:b=d
  ·subst Z;rw[bg]at e;cases e;exact⟨J,us,n,C,P⟩
  ·rw[aJ Z]at e;refine(I.hok b u e).stay (fun c v T z=>U c v ?_ z) (fun c z=>by rw[aJ (aM z Y)];exact z) fun c xs z=>by rw[aJ (aM z Y)];exact z
   rcases T with rfl|T
   ·exact W _ _ e
   ·exact W _ _ T
end
section
variable {X:Cx}
end
end S3
namespace S4
open PySem PySem.SetTable
def tb(m:Nat):SetTable:=⟨m, #[], #[],0,b_,0,b_⟩
def yt(m:Nat)(h:Int):Nat->Probe
 |0=>(tb m).probeStart h
 |k+1=>(tb m).advance (yt m h k)
def run(m i:Nat):Nat:=runEnd m i - i
def HC(m:Nat):Prop:=m=7\/m=31
def HD(xs:Array Nat):Prop:=∀(i j a b:Nat),i<j->xs[i]? =ar a->xs[j]? =ar b->a<b
abbrev Ent:=Int×a_
def At(pl:Array Nat)(es:Array Ent)(j:Nat)(e:Ent):Prop:=∃i:Nat,pl[i]? =ar j/\es[i]? =ar e
structure TPre(t:K')(es:Array Ent):Prop where
 msk:HC t.mask
 dum:t.dummies= #[]
 siz:t.place.size=es.size
 ris:HD t.place
 inb:∀(i a:Nat),t.place[i]? =ar a->a<=t.mask
 way:∀(j:Nat) (e:Ent),At t.place es j e->∃k,(yt t.mask e.1 k).j=j/\∀m,m<k->∃e',At t.place es (yt t.mask e.1 m).j e'
structure TOk(t:K')(es:Array Ent):Prop extends TPre t es where
 few:es.size*5<t.mask*3
abbrev F5:=Array (Option Nat)
def GW(o:F5)(j:Nat):Prop:=∃k,o[j]? =ar (ar k)
structure Laid(m:Nat)(hs:List Int)(o:F5):Prop where
 siz:o.size=m+1
 way:∀(j k:Nat),o[j]? =ar (ar k)->∃x,hs[k]? =ar x/\∃n,(yt m x n).j=j/\∀i,i<n->GW o (yt m x i).j
def Fd(m:Nat)(f:Nat->Option Nat):List (Nat×Nat):=(d_ (m+1)).filterMap fun j=>(f j).map fun k=>(j,k)
def fo(o:F5)(j:Nat):Option Nat:=o.getD j none
structure LaidN(m:Nat)(hs:List Int)(o:F5):Prop extends Laid m hs o where
 all:((Fd m (fo o)).map (·.2)).Perm (d_ hs.length)
end S4
namespace S4
open PySem PySem.Spec PyProof.Rows
section
variable {prog:eb}{w:ee}{A:g_}{E:a_->c_->Prop}{s:c_}
theorem items_int(h:ItemsAre (Mg prog w) ks vs):∀v∈vs,∃n t,v=m2 n t:=by
 induction h with
 |nil=>intro v Z;cases Z
 | cons h1 _ ih=>
  intro v Z;rcases Ig.mp Z with rfl|Z
  ·obtain⟨t,e⟩:=Value.isInt_shape h1;exact⟨_,t,e⟩
  ·exact ih v Z
abbrev KA:=List Int×cq
def GX(prog:eb)(w:ee)(k:List Int):Int:=tupleKeyHash (Mg prog w) k
def ent(prog:eb)(w:ee)(p:KA):Ent:=(GX prog w p.1,.ref p.2)
structure SetAt(prog:eb)(w:ee)(h:fc)(a:cq)(o:Obj)(es:Array Ent)(ep:Nat)(t:K')(L:List KA):Prop where
 get:h.get? a=ar o
 ex:o.ExactSet
 dat:o.data= .set es ep t
 ok:TOk t es
 pln:t.plain=b_
 led:t.led= !(w.params.followText "set-order")
 ents:es.toList=L.map (ent prog w)
 nd:(L.map (·.1)).Nodup
end
section
variable {prog:eb}{w:ee}{A:g_}{E:a_->c_->Prop}{s:c_}
end
structure Folded(kv L:List KA):Prop where
 nd:(L.map (·.1)).Nodup
 mem:∀k,k∈L.map (·.1)↔k∈kv.map (·.1)
 sub:∀p∈L,p∈kv
 len:L.length<=kv.length
section
variable {prog:eb}{w:ee}{A:g_}{R:Mc->c_->Prop}{I:cq}{fp wr:List cq}{G:Array A2->Array A2->Prop}{n:Nat}{P:Nat->a_->Prop}{St:Nat->c_->Prop}
end
section
variable {prog:eb}{w:ee}{A:g_}{E:a_->c_->Prop}{s:c_}
end
section
variable {prog:eb}{w:ee}{A:g_}{E:a_->c_->Prop}{s:c_}
def Dk(w:ee)(t:K')(i:Nat):Nat:=if w.params.followText "set-order"=b_ then 0 else match i with
 |0=>0
 |i+1=>t.place.getD i 0+1
structure IterAt(w:ee)(h:fc)(I a:cq)(t:K')(sz ep i:Nat):Prop where
 ex:∃o,h.get? I=ar o/\o.cls= .type "set_iterator"/\o.data= .fields #[.int (Dk w t i) 0,.int i 0,.ref a,.int sz 0,.int ep 0]
end
section
variable {prog:eb}{w:ee}{A:g_}{E:a_->c_->Prop}{s:c_}
end
end S4
namespace S4
open PySem PySem.Spec PySem.W PyProof.Rows L2 S3
section
variable {prog:eb}{w:ee}{A:g_}{E:a_->c_->Prop}{s:c_}
theorem ue{vs:List a_}{P:PySem.Fin->c_->Prop}(W:s.heap.get? a=ar (pz "list" vs.toArray n))(O:vs.length<2)
  (h:∀h' c,h'.get? a=ar (pz "list" vs.toArray c)->(∀b o,b≠a->s.heap.get? b=ar o->h'.get? b=ar o)->P (.done (.ret .none)) {s with heap:=h'}):
  ed (eK prog w) A (Builtin.«list.sort» ⟨[.ref a],[]⟩) P E s:=by
 have Q:a<s.heap.objs.size:=HS W;obtain⟨e1,Y⟩:∃e1,(s.heap.update a (mh fun _=>(#[]:Array a_))).get? a=ar (pz "list" #[] e1):=⟨_,get?_update_seq W fun _=> #[]⟩;have Z:(((s.heap.update a (mh fun _=>(#[]:Array a_))).push (pz "tuple" vs.toArray 0)).push (pz "list" #[] 0)).get? a=ar (pz "list" #[] e1):=HM _ (HM _ Y);rw[list_sort_plain];refine HK (listItems_at W rfl ?_);refine HK (listUpdate_at W rfl ?_ (by rw[HW,Jm];omega) (Iv _))
 refine HK (seqEpoch_at Y rfl ?_);refine HK (wpAny_newTuple ?_ (by show vs.length<=_;rw[Jm];omega))
 refine HK (wpAny_newList ?_ (Iv _));refine Jh ?_;show ed (eK prog w) A _ P E {s with heap:=((s.heap.update a (mh fun _=>(#[]:Array a_))).push (pz "tuple" vs.toArray 0)).push (pz "list" #[] 0)};dsimp only;have X:vs.toArray.size<2:=by rw[HW];omega
 rw[if_pos X,if_pos X];refine HK (HV ?_);rw[StateT.run_pure];refine HK (HV ?_);dsimp only;refine HK (seqEpoch_at Z rfl ?_);have R:(arrOf (SortSt.mk' general' (vs.toArray.zip vs.toArray) #[] 7 none)).map (·.2)=vs.toArray:=by
  show(vs.toArray.zip vs.toArray).map (·.2)=vs.toArray;rw[Array.map_snd_zip (HN _)]
 rw[R];refine HK (listUpdate_at Z rfl ?_ (Iv _) (by rw[HW,Jm];omega))
 obtain⟨U,T⟩:∃U,((((s.heap.update a (mh fun _=>(#[]:Array a_))).push (pz "tuple" vs.toArray 0)).push (pz "list" #[] 0)).update a (mh fun _=>vs.toArray)).get? a=ar (pz "list" vs.toArray U):=⟨_,get?_update_seq Z fun _=>vs.toArray⟩;simp only[bne_self_eq_false,iA,if_false];refine HV (h _ U T fun b o S e=>?_);rw[KB _ _ _ _ S];refine HM _ (HM _ ?_);rw[KB _ _ _ _ S];exact e
end
section
variable {X:Cx}
structure TRow(H:Hp)(vs:List V)(nss:List (List Int)):Prop where
 len:vs.length=nss.length
 at':∀i,i<vs.length->∃a,vs[i]? =ar (.ref a)/\H a=ar (.tup ((nss.getD i []).map V.int))
 same:∃c,∀i,i<vs.length->(nss.getD i []).length=c+1
def i9(nss:List (List Int))(q:List Nat):Prop:=q.Perm (d_ nss.length)/\∀i j,i<=j->j<nss.length->HT.lexLt (nss.getD (q.getD j 0) []) (nss.getD (q.getD i 0) [])=dr
theorem mw{H:Hp}{Q:VK}(I:L2.Inv X pins σ H s)(Pv:List a_->Prop)
  (hc:∀(R:List a_->c_->Prop) (E':a_->c_->Prop),(∀vs Y K,Pv vs->(∀b o,s.heap.get? b=ar o->Y.get? b=ar o)->R vs {s with heap:=Y,toks:=K})->ed (eK X.prog X.w) X.A.in1 (collect arg) R E' s)
  (f:∀us,Pv us->∃(vs:List V) (Z:List (List Int)),bb vs us/\TRow H vs Z/\vs.length<64/\∀q,i9 Z q->∀l,H l=none->Q (.ref l) (upd H l (.lst (q.map fun i=>vs.getD i .non)))):
  ed (eK X.prog X.w) X.A (call (.builtin "sorted") [arg]) (EP X pins σ Q) X.xe s:=by
 refine Calls.call_function_entry kind_sorted plain_sorted entry_sorted (args_sorted1 _) ?_;unfold Builtin.«sorted»;refine HK (m:=checkCount "sorted" 1 1 _) (HV ?_);refine HK (hc _ _ fun its Y K hP keep=>?_);obtain⟨vs,Z,rv,T0,e4,q⟩:=f its hP;have a6:=rv.length;have O:L2.Inv X pins σ H {s with heap:=Y,toks:=K}:=I.kept keep;obtain⟨m,F⟩:=O.fr;refine HK (wpAny_newList ?_ (by rw[Jm];omega))
 have N:(Y.push (pz "list" its.toArray 0)).get? Y.objs.size=ar (pz "list" its.toArray 0):=Ia _ rfl;have up:∀b o,Y.get? b=ar o->(Y.push (pz "list" its.toArray 0)).get? b=ar o:=fun b o e=>HM _ e;have nd:Y.get? Y.objs.size=none:=Jf (HN _);have hL:X.env.locals<Y.objs.size:=F.ns.lt;have hH:H Y.objs.size=none:=O.hok.fresh (HN _);have at':∀i,i<its.length->∃a,its[i]? =ar (.ref a)/\its.getD i hh= .ref a/\H a=ar (.tup ((Z.getD i []).map V.int)):=fun i U=>by
  obtain⟨a,e1,e2⟩:=T0.at' i (by omega)
  obtain⟨u,hu,ru⟩:=rv.get e1;cases (show u=e_ a from ru);exact⟨a,hu,by rw[Ib,hu];rfl,e2⟩
 have b4:∀l:List Nat,(∀x∈l,x<its.length)->bb (l.map fun i=>vs.getD i .non) (l.map fun i=>its.getD i hh):=by
  intro l
  induction l with
  |nil=>intro _;exact .nil
  |cons x l ih=>
   intro hx;refine .cons ?_ (ih fun y hy=>hx y (HY _ hy));have E:x<vs.length:=by have:=hx x Im;omega
   obtain⟨u,hu,ru⟩:=rv.get (HR E);show L2.RelV (vs.getD x .non) (its.getD x hh);rw[Ib,Ib,hu,HR E];exact ru
 show ed _ _ _ _ _ {s with heap:=Y.push (pz "list" its.toArray 0),toks:=K};refine HK (Jh (Jp slot_list_sort ⟨_,N,rfl⟩ entry_list_sort ?body (args_list_sort _)))
 case body=>
  by_cases J:its.length<2
  ·refine ue (s:={s with heap:=Y.push (pz "list" its.toArray 0),toks:=K}) N J fun h' c g1 g2=>?_;refine⟨_,rfl,HV ⟨_,rfl,?_⟩⟩;have I2:L2.Inv X pins σ (upd H Y.objs.size (.lst vs)) {s with heap:=h',toks:=K}:=O.laid (fun b o e=>g2 b o (Ih (HS e)) (up b o e)) (HN _) ⟨by rw[Jm];omega,its,c,rv,g1⟩
   refine⟨.ref Y.objs.size,_,I2,rfl,?_⟩;have:=q (d_ Z.length) ⟨.refl _,fun i j B hj=>?_⟩ _ hH
   ·have e:(d_ Z.length).map (fun i=>vs.getD i .non)=vs:=by
     refine List.ext_getElem? fun i=>?_;rw[IL, <-T0.len];by_cases U:i<vs.length
     ·rw[JR U,HR U];simp[n7,U]
     ·rw[Jd (by simpa using U),Jd (by omega)];rfl
    rw[e]at this;exact this
   ·have:i=j:=by have:=T0.len;omega
    subst this;exact mG _
  ·obtain⟨c,a5⟩:=T0.same;refine kat_list_sort (s:={s with heap:=Y.push (pz "list" its.toArray 0),toks:=K}) (F.kept up) (News.grown (mP (g:=X.base) (h:=Y) (L:=X.env.locals)) up) N (JS hL) (Jf (HX F.above (Jy hL)))
    (fun p hp=>Ih (HS (mP p hp).1)) (by omega) (by omega) fun e1 h' F' N'=>?_
   have P:∀J:fc,Fr X.base X.env.locals J m->News X.base X.env.locals J (j6 X.base Y X.env.locals)->∀b o,b≠X.env.locals->Y.get? b=ar o->J.get? b=ar o:=fun J F2 N2 b o hb e=>by
    cases z:X.base.get? b with
    |some o'=>
     have:=O.bk b o' z;rw[show Y.get? b=ar o' from this]at e;cases e;exact F2.keep b _ z
    |none=>exact(N2 (b,o) (rz hb z e)).1
   have kp:=P h' F' fun z S=>N' z (HY _ S);have T:Tups Y its Z c:=⟨by have:=T0.len;omega,fun i U=>by
    obtain⟨a,_,e1,e2⟩:=at' i U;obtain⟨_,ws,G,o,ho,b1,n,hd⟩:=(show bx X.prog X.w H Y a (.tup ((Z.getD i []).map V.int))from O.hok a _ e2);refine⟨a,o,ws.toArray,n,e1,ho,b1,hd,by simpa using Lj G,?_⟩
    rw[HW, <-G.length,HL,a5 i (by omega)]⟩
   have T':Tups h' its Z c:=T.keep fun i a o U ea ho=>by
    obtain⟨a',_,e1,e2⟩:=at' i U;rw[ea]at e1;cases e1;refine kp a o (fun z=>?_) ho;rw[z,O.free]at e2;cases e2
   obtain⟨fs,k1,k2,k3⟩:=nz (h:=h') (vs:=its) fun v f=>by
    obtain⟨i,U,ei⟩:=List.mem_iff_getElem.mp f;obtain⟨a,o,us,n,f1,f2,f3,f4,f5,f6⟩:=T'.get i U;have ev:v= .ref a:=by
     rw[Ib,HR U,ei]at f1;exact f1
    generalize Z.getD i []=ns at f5;cases hus:us.toList with
    |nil=>
     have:us.size=0:=by rw[<-Ky,hus];rfl
     omega
    |cons x r'=>
     rw[hus]at f5;cases f5 with
     |cons n' t' _=>exact⟨a,o,us,n,n',t',ev,f2,f3,f4,by rw[<-Jr,hus];rfl⟩
   refine kat_kind k1 (by omega) (T:=.type "int") (fun v f=>by obtain⟨i,t,rfl⟩:=k3 v f;exact Looks.of_pure rfl) rfl ?_
   refine xR (n:=its.length) (R:=In its.length) (b:=fun i j=>HT.lexLt (Z.getD i []) (Z.getD j [])) (fun i j C U hj hC=>T'.ask U hj hC) (rF (by omega)) ?_
   obtain⟨s1,s2⟩:=AC (n:=its.length) (b:=fun i j=>HT.lexLt (Z.getD i []) (Z.getD j [])) (by omega) (fun i _=>mG _) (fun i j k _ _ _=>uc) (fun i j k _ _ _=>qw)
   generalize bh (fun i j=>HT.lexLt (Z.getD i []) (Z.getD j [])) (p4 its.length)=pp at s1 s2;have W:pp.toList.Perm (d_ its.length):=by simpa using Array.Perm.toList s1
   refine KasFin.intro F' N' (.head fun z S=>Ih (HS (mP z S).1)) fun b0 c' r d=>?_;have c3:=P b0 r fun z S=>d z (HY _ S);obtain⟨g1,g2,g3⟩:=d _ Im;have b5:∀x∈pp.toList,x<its.length:=fun x hx=>IA.mp (W.mem_iff.mp hx);have b6:(pp.toList.map fun i=>vs.getD i .non).length<=sizeLine:=by
    rw[HL,W.length_eq,Ie,Jm];omega
   have I2:=ud O F r c3 nd g1 (b4 pp.toList b5) b6;refine⟨_,rfl,HV ⟨_,rfl,.ref Y.objs.size,_,I2,rfl,q pp.toList ⟨by rw[<-T0.len,a6];exact W,fun i j B hj=>?_⟩ _ hH⟩⟩
   have:=s2 i j B (by have:=T0.len;omega)
   rw[IY,IY]at this;rw[Ib (l:=pp.toList),Ib (l:=pp.toList),Jr,Jr];exact this
end
end S4
namespace S3
open PySem PySem.Spec PySem.W PyProof.Rows L2 S4
def tupI(ns:List Int):D:=.tup (ns.map D.int)
def rowsOf:List D->Option (List (List Int))
 |[]=>ar []
 | .tup ds::r=>match intsOf ds,rowsOf r with
  |some ns,ar nss=>ar (ns::nss)
  |_,_=>none
 |_=>none
theorem qx:∀{a b:List Int},HT.lexLt a b=dr->HT.lexLt b a=dr->a=b
 |[],[],_,_=>rfl
 |[],_::_,h,_=>by cases h
 |_::_,[],_,h=>by cases h
 | x::a,y::b,h1,h2=>by
  rw[HT.lexLt_cons]at h1 h2;by_cases e:x=y
  ·subst e;rw[if_pos rfl]at h1 h2;rw[qx h1 h2]
  ·rw[if_neg e]at h1;rw[if_neg (i' e)]at h2;have:=of_decide_eq_false h1;have:=of_decide_eq_false h2;omega
abbrev Ai(a b:List Int):Prop:=HT.lexLt b a=dr
def uf(x:List Int):List (List Int)->List (List Int)
 |[]=>[x]
 |y::r=>if HT.lexLt y x=b_ then y::uf x r else x::y::r
def cX:List (List Int)->List (List Int)
 |[]=>[]
 |x::r=>uf x (cX r)
theorem lA(x:List Int):∀l,(uf x l).Perm (x::l)
 |[]=>.refl _
 |y::r=>by
  unfold uf;split
  ·exact((lA x r).cons y).trans (.swap _ _ _)
  ·exact .refl _
theorem dq:∀l,(cX l).Perm l
 |[]=>.refl _
 |x::r=>(lA x _).trans ((dq r).cons x)
theorem wF(Y:Ai a b)(Z:Ai b c):Ai a c:=by
 cases q:HT.lexLt c a with
 |false=>exact q
 |true=>
  rcases qw (b:=b) q with z|z
  ·rw[show HT.lexLt c b=dr from Z]at z;cases z
  ·rw[show HT.lexLt b a=dr from Y]at z;cases z
theorem rY(h:HT.lexLt a b=b_):HT.lexLt b a=false:=by
 cases q:HT.lexLt b a with
 |false=>rfl
 |true=>
  have:=uc h q;rw[mG]at this;cases this
theorem lS(x:List Int):∀{l:List (List Int)},l.Pairwise Ai->(uf x l).Pairwise Ai
 |[],_=>by simp[uf]
 | y::r,h=>by
  obtain⟨Y,W⟩:=IU.mp h;unfold uf;split
  ·next c=>
   refine IU.mpr ⟨fun z Z=>?_,lS x W⟩;rcases Ig.mp ((lA x r).mem_iff.mp Z)with rfl|Z
   ·exact rY c
   ·exact Y z Z
  ·next c=>
   have X:Ai x y:=Bool.eq_false_iff.mpr c;refine IU.mpr ⟨fun z Z=>?_,h⟩;rcases Ig.mp Z with rfl|Z
   ·exact X
   ·exact wF X (Y z Z)
theorem fN:∀l,(cX l).Pairwise Ai
 |[]=>.nil
 |x::r=>lS x (fN r)
theorem pv{l:List (List Int)}(h:l.Perm l')(Z:l.Pairwise Ai)(Y:l'.Pairwise Ai):l=l':=
 KW (le:=Ai) (fun a b _ _ x y=>qx y x) Z Y h
theorem ug(h:i9 nss q):q.map (fun i=>nss.getD i [])=cX nss:=by
 have hlen:q.length=nss.length:=by simpa using h.1.length_eq
 have e:(d_ nss.length).map (fun i=>nss.getD i [])=nss:=by
  refine List.ext_getElem? fun i=>?_;rw[IL];by_cases Z:i<nss.length
  ·rw[JR Z,HR Z];simp[n7,Z]
  ·rw[Jd (by simpa using Z),Jd (by omega)];rfl
 have W:(q.map (fun i=>nss.getD i [])).Perm nss:=by
  have:=h.1.map (fun i=>nss.getD i []);rw[e]at this;exact this
 refine pv (W.trans (dq nss).symm) ?_ (fN _);rw[List.pairwise_iff_getElem];intro i j Z X Y;rw[HL]at Z X;rw[List.getElem_map,List.getElem_map];have:=h.2 i j (Jy Y) (by omega)
 rw[Ib (l:=q),Ib (l:=q),HR Z,HR X]at this;exact this
theorem _root_.S4.Folded.perm{Z:List KA}(f:Folded kv L)(h:Z.Perm L):Folded kv Z:=
 ⟨(List.Perm.nodup_iff (h.map (fun p:KA=>p.1))).mpr f.nd,fun k=>by rw[(h.map (fun p:KA=>p.1)).mem_iff];exact f.mem k,fun p Y=>f.sub p (h.mem_iff.mp Y),by rw[h.length_eq];exact f.len⟩
section
variable {K:dn}{ι:List cq}{H:Hp}
theorem rZ:∀{ds:List D} {vs:List V} {nss:List (List Int)},RelDs K ι H ds vs->rowsOf ds=ar nss->vs.length=nss.length/\∀i,i<vs.length->∃a,vs[i]? =ar (.ref a)/\H a=ar (.tup ((nss.getD i []).map V.int))
 |[],vs,nss,h,e=>by
  cases e;rw[h.nil_inv];exact⟨rfl,fun i Z=>absurd Z (Nat.not_lt_zero _)⟩
 | .tup ds::r,vs,nss,h,e=>by
  obtain⟨v,ws,rfl,U,X⟩:=h.cons_inv;unfold rowsOf at e;cases q:intsOf ds with
  |none=>rw[q]at e;cases e
  | some ns=>
   rw[q]at e;cases q2:rowsOf r with
   |none=>rw[q2]at e;cases e
   | some nss'=>
    rw[q2]at e;cases e;obtain⟨Y,T⟩:=rZ X q2;obtain⟨a,us,rfl,g1,g2⟩:=U.tup_inv;refine⟨by simp[Y],fun i Z=>?_⟩
    cases i with
    |zero=>
     refine⟨a,rfl,?_⟩;rw[fV g2 q]at g1;simpa using g1
    |succ i=>
     obtain⟨S,e1,e2⟩:=T i (by simpa using Z)
     exact⟨S,by simpa using e1,by simpa using e2⟩
 | .non::_,_,_,_,e=>by cases e
 | .bl _::_,_,_,_,e=>by cases e
 | .int _::_,_,_,_,e=>by cases e
 | .str _::_,_,_,_,e=>by cases e
 | .lst _::_,_,_,_,e=>by cases e
 | .ro _::_,_,_,_,e=>by cases e
 | .fz _::_,_,_,_,e=>by cases e
 | .emp::_,_,_,_,e=>by cases e
theorem px:∀ns:List Int,RelDs K ι H (ns.map D.int) (ns.map V.int)
 |[]=>.nil
 |n::r=>.cons (.int n) (px r)
theorem r0{vs:List V}{Z:List (List Int)}(h:∀i,i<vs.length->∃a,vs[i]? =ar (.ref a)/\H a=ar (.tup ((Z.getD i []).map V.int))):
  ∀q:List Nat,(∀i∈q,i<vs.length)->RelDs K ι H ((q.map fun i=>Z.getD i []).map tupI) (q.map fun i=>vs.getD i .non)
 |[],_=>.nil
 |i::q,hq=>by
  obtain⟨a,e1,e2⟩:=h i (hq i Im);refine .cons ?_ (r0 h q fun j Y=>hq j (HY _ Y));show RelD K ι H (tupI (Z.getD i [])) (vs.getD i .non);have X:vs.getD i .non= .ref a:=by rw[Ib,e1];rfl
  rw[X];exact .tup e2 (px _)
end
section
variable {X:Cx}{E:XD}{e:Expr}{m:TM}{pos:Pos}
theorem oJ:dj X (.builtin "sorted") (fun xs H Q=>∃(p:cq) (vs:List V) (Z:List (List Int)),xs=[.ref p]/\iS X.K H p vs/\TRow H vs Z/\vs.length<64/\
  ∀q,i9 Z q->∀l,H l=none->Q (.ref l) (upd H l (.lst (q.map fun i=>vs.getD i .non)))):=by
 intro pins s σ H xs us Q I r h;obtain⟨p,vs,Z,rfl,P,T,Y,q⟩:=h;obtain⟨u,rfl,O⟩:=vals1 r;cases (show u=e_ p from O);obtain⟨its,U,N,G⟩:=I.list P;have L:=U.length;refine mw I (fun us=>us=its) (fun R F S=>?_) fun us J=>⟨vs,Z,by rw[J];exact U,T,Y,q⟩
 refine collect_list N.isList (S its _ _ rfl fun b o e=>?_) (by rw[Jm];omega)
 have W:b<s.heap.objs.size:=HS e;rw[KB _ _ _ _ (Ih W)];exact HM _ e
def two(nss:List (List Int)):Bool:=nss.all fun ns=>ns.length==2
def sd(nss:List (List Int)):M D:=if nss.length<64/\two nss=b_ then bq ((cX nss).map tupI)else M.fail
def kA(xs:List D):M D:=match intsOf xs with
 |some ns=>if ns.length<64 then bq ((sortI ns).map D.int)else M.fail
 |none=>match rowsOf xs with
  |some nss=>sd nss
  |none=>M.fail
def bF:List D->M D
 |[.lst k]=>do
  let xs<-getL k
  kA xs
 |[.fz xs]=>kA xs
 |_=>M.fail
theorem AO{H:Hp}{vs:List V}{Z:List (List Int)}(h:vs.length=Z.length/\∀i,i<vs.length->∃a,vs[i]? =ar (.ref a)/\H a=ar (.tup ((Z.getD i []).map V.int)))(W:two Z=b_):TRow H vs Z:=
 ⟨h.1,h.2,1,fun i U=>by
  have Y:i<Z.length:=by rw[<-h.1];exact U
  have:=Ir.mp W Z[i] (K8 Y);rw[Ib,HR Y];simpa using this⟩
theorem qy:jE X.K E bF (fun xs H Q=>(∃(p:cq) (ns:List Int),xs=[.ref p]/\iS X.K H p (ns.map V.int)/\ns.length<64/\∀l,H l=none->Q (.ref l) (upd H l (.lst ((sortI ns).map V.int))))\/
  ∃(p:cq) (vs:List V) (nss:List (List Int)),xs=[.ref p]/\iS X.K H p vs/\TRow H vs nss/\vs.length<64/\∀q,i9 nss q->∀l,H l=none->Q (.ref l) (upd H l (.lst (q.map fun i=>vs.getD i .non)))):=by
 intro U S H ds vs Q rep r c;have fin:∀{es:List D} {us:List V} {p:cq},RelDs X.K U H es us->Rd H p (.lst us)->cont X.K E (kA es) U S H (kR X.K Q)->vs=[.ref p]->
   (∃(p:cq) (ns:List Int),vs=[.ref p]/\iS X.K H p (ns.map V.int)/\ns.length<64/\∀l,H l=none->Q (.ref l) (upd H l (.lst ((sortI ns).map V.int))))\/
  ∃(p:cq) (ws:List V) (nss:List (List Int)),vs=[.ref p]/\iS X.K H p ws/\TRow H ws nss/\ws.length<64/\∀q,i9 nss q->∀l,H l=none->Q (.ref l) (upd H l (.lst (q.map fun i=>ws.getD i .non))):=by
  intro es us p W R Z T;unfold kA at Z;cases q:intsOf es with
  | some ns=>
   rw[q]at Z;have Y:cont X.K E (if ns.length<64 then bq ((sortI ns).map D.int)else M.fail) U S H (kR X.K Q):=Z;by_cases h:ns.length<64
   ·rw[if_pos h]at Y;exact .inl ⟨p,ns,T,.inl (by rw[<-fV W q];exact R),h,(bu Y rep (ny _)).2⟩
   ·rw[if_neg h]at Y;exact(ah Y).elim
  | none=>
   rw[q]at Z;cases q2:rowsOf es with
   |none=>rw[q2]at Z;exact(ah Z).elim
   | some nss=>
    rw[q2]at Z;have Y:cont X.K E (if nss.length<64/\two nss=b_ then bq ((cX nss).map tupI)else M.fail) U S H (kR X.K Q):=Z;by_cases h:nss.length<64/\two nss=b_
    ·rw[if_pos h]at Y;obtain⟨g1,g2⟩:=rZ W q2;refine .inr ⟨p,us,nss,T,.inl R,AO ⟨g1,g2⟩ h.2,by omega,fun L I l G=>?_⟩
     have J:∀i∈L,i<us.length:=fun i C=>by rw[g1];exact IA.mp (I.1.mem_iff.mp C)
     have F:RelDs X.K U H ((cX nss).map tupI) (L.map fun i=>us.getD i .non):=by
      rw[<-ug I];exact r0 g2 L J
     exact(bu Y rep F).2 l G
    ·rw[if_neg h]at Y;exact(ah Y).elim
 unfold bF at c;split at c
 ·next k=>
  obtain⟨v,ws,rfl,N,O⟩:=r.cons_inv;cases O.nil_inv;obtain⟨p,rfl,P⟩:=N.lst_inv;obtain⟨es,us,_,R,W,Z⟩:=a8 c rep P;exact fin W (.inl R) Z rfl
 ·next es=>
  obtain⟨v,ws,rfl,N,O⟩:=r.cons_inv;cases O.nil_inv;obtain⟨p,o,us,rfl,P,W⟩:=N.fz_inv;exact fin W (.inr ⟨o,P⟩) c rfl
 ·exact(ah c).elim
theorem eO(W:X.mg "sorted"=none)(Z:SE X E e m)(Y:Gl X "sorted":=by rfl)(hs:dt [e] X.env=[(dr,gd e X.env)]:=by rfl):SE X E (.Call (.Name "sorted" p) [e] [] pos) (fun ρ=>do let ds<-(do let x<-m ρ;let xs<-aC [];aC (x::xs));bF ds):=
 gX (dj.or qv oJ) qy Y W (by decide+kernel) (af Z au hs) (by decide) (by decide) hs rfl
end
end S3
namespace S4
open PySem PySem.Spec PyProof.Rows L2 S3
section
variable {prog:eb}{w:ee}{A:g_}{E:a_->c_->Prop}{s:c_}
theorem jS{Q:a_->c_->Prop}(Z:s.heap.IsTupleIter it t i)(U:s.heap.IsTuple t items)(T:items[i]? =ar x)
  (S:∀h',h'.IsTupleIter it t (i+1)->ri it s.heap h'->Q x {s with heap:=h'}):ed (eK prog w) A (hF (.ref it)) Q E s:=by
 obtain⟨o,Y,R,hd⟩:=id Z;obtain⟨ol,W,_,nl,X⟩:=U;unfold hF;refine HK (wpAny_callSpecial?_slot (name:=hI "__next__") Z.typeIs Jn
  (Jp Jn Z.typeIs KC ?_ (Kv _)))
 show ed _ _ (LM (.ref it) 0>>=_) _ _ s;refine HK (IR Y hd (x:=.ref t) rfl ?_);show ed _ _ (if (e_ t==hh)=b_ then _ else _) _ _ s;rw[if_neg (show ¬ ((e_ t==hh)=b_)from IT)];show ed _ _ (LM (.ref it) 1>>=_) _ _ s;refine HK (IR Y hd (x:=.int i 0) rfl ?_);show ed _ _ (seqItems? (.ref t)>>=_) _ _ s;refine HK (Jt W X ?_);simp only[w7,T];refine HK (KP Y hd (by simp) (HV ⟨x,rfl,HV (S _ ?_ (Heap.SameBut.update ..))⟩))
 exact⟨_,JH _ Y (Kk (JE hd _)),(Obj.cls_mapFields ..).trans R,by
  rw[JE hd];simp[kS]⟩
theorem pA(U:A.handled=none)(Z:s.heap.IsTupleIter it t i)(T:s.heap.IsTuple t items)(S:items[i]? =none)
  (R:∀h' e,Heap.ExtBut it s.heap h'->(∃o,h'.get? e=ar o/\o.cls= .type "StopIteration")->E (.ref e) {s with heap:=h'}):ed (eK prog w) A (hF (.ref it)) Q E s:=by
 obtain⟨o,Y,P,hd⟩:=id Z;obtain⟨ol,W,_,nl,X⟩:=T;unfold hF;refine HK (wpAny_callSpecial?_slot (name:=hI "__next__") Z.typeIs Jn
  (Jp Jn Z.typeIs KC ?_ (Kv _)))
 show ed _ _ (LM (.ref it) 0>>=_) _ _ s;refine HK (IR Y hd (x:=.ref t) rfl ?_);show ed _ _ (if (e_ t==hh)=b_ then _ else _) _ _ s;rw[if_neg (show ¬ ((e_ t==hh)=b_)from IT)];show ed _ _ (LM (.ref it) 1>>=_) _ _ s;refine HK (IR Y hd (x:=.int i 0) rfl ?_);show ed _ _ (seqItems? (.ref t)>>=_) _ _ s;refine HK (Jt W X ?_);simp only[w7,S];refine HK (Ll (HK (KP Y hd (by simp) ?_)))
 show ed _ _ (newExc (.type "StopIteration") []>>=_) _ _ _;refine HK ?_;simp only[newExc,newTuple];refine HK (Jb ?_ (by size_fits))
 refine HK (m:=firstArgMember _ _) (wpAny_of_eq (a:=hh) (by first|rfl|(simp only[firstArgMember];rfl)) ?_)
 refine Jb ?_ (by size_fits)
 simp only[raiseNew];refine HK (wpAny_handled ?_);first|rw[show A.in1.handled=none from U]|rw[U]
 refine HK (HV (wpAny_throw ?_));exact R _ _ (((Heap.SameBut.update ..).extBut.push _).push _) ⟨_,Ia _ rfl,rfl⟩
theorem wG{z TI TO O L m p:cq}{k:Nat}{xs ys:Array a_}{x y a b:a_}{Q:Option a_->c_->Prop}(D:LN z TI TO O L m p)
  (v:y3 s.heap z TI TO .none) (a0:ly s.heap TI (.ref O) (.ref L)) (f:ly s.heap TO a b)
  (h1:s.heap.IsTupleIter O m k) (h2:s.heap.IsTupleIter L p k) (a3:s.heap.IsTuple m xs) (a5:s.heap.IsTuple p ys) (hx:xs[k]? =ar x) (hy:ys[k]? =ar y)
  (hQ:∀h',y3 h' z TI TO (kS s.heap.objs.size)->ly h' TO x y->h'.IsTupleIter O m (k+1)->h'.IsTupleIter L p (k+1)->ly h' s.heap.objs.size x y->h'.objs.size=s.heap.objs.size+1->
   (∀c o,c≠z->c≠TO->c≠O->c≠L->s.heap.get? c=ar o->h'.get? c=ar o)->Q (ar (.ref s.heap.objs.size)) {s with heap:=h'}):ed (eK prog w) A (LC (.ref z)) Q E s:=by
 have hT:s.TypeIs (.ref z) "zip":=⟨_,v,rfl⟩;unfold LC;refine HK (KY (wpAny_callSpecial?_slot (name:=hI "__next__") hT KD (Jp KD hT F.entry_zip_next ?_ (F.args_zip_next_1 _))));show ed _ _ (LM (.ref z) 2>>=_) _ _ _;refine HK (IR v rfl (x:=.bool dr) rfl ?_);show ed _ _ (LM (.ref z) 3>>=_) _ _ _;refine HK (IR v rfl (x:=.ref TI) rfl ?_);refine HK (Jt a0 rfl ?_);show ed _ _ (i2 (.ref z)>>=_) _ _ _;refine HK ?_;unfold i2;refine HK (IR v rfl (x:=.none) rfl (HV ?_));simp only[if_true];refine HK (Ll ?_);refine HK (IR v rfl (x:=.ref TO) rfl ?_);refine HK (Js v (by simp) fun g1 G Z=>?_)
 replace G:y3 g1 z TI TO .ellipsis:=G;refine HK ?_;simp only[List.zipIdx_cons,List.zipIdx_nil,z7,List.forIn_nil];refine HK (HK (KZ ?_));show ed _ _ (hF (.ref O)>>=_) _ _ _;refine HK (jS (s:={s with heap:=g1}) (h1.at fun o e=>Z.extBut _ _ D.i1z e) (a3.extBut Z.extBut D.l1z) hx fun g2 j U=>HV ?_);have K:ly g2 TO a b:=U.extBut _ _ D.TOi1 (Z.extBut _ _ D.TOz f);refine HK (Jt K rfl ?_);refine HK (Kr K fun g3 S W=>?_);replace S:ly g3 TO x b:=S;refine HK (Lz (HV ?_));refine HK (HK (KZ ?_));show ed _ _ (hF (.ref L)>>=_) _ _ _;refine HK (jS (s:={s with heap:=g3}) (((h2.at fun o e=>Z.extBut _ _ D.i2z e).at fun o e=>U.extBut _ _ D.i12.symm e).at fun o e=>W.extBut _ _ D.TOi2.symm e)
  (((a5.extBut Z.extBut D.l2z).extBut U.extBut D.l2i1).extBut W.extBut D.l2TO) hy fun g4 d T=>HV ?_)
 have N:ly g4 TO x b:=T.extBut _ _ D.TOi2 S;refine HK (Jt N rfl ?_);refine HK (Kr N fun Y X R=>?_);replace X:ly Y TO x y:=X;refine HK (Lz (HV (HV ?_)));refine HK (Jt X rfl ?_);refine HK (wpAny_newTuple ?_);have t:Y.objs.size=s.heap.objs.size:=by rw[R.1,T.1,W.1,U.1,Z.1]
 have u:y3 Y z TI TO .ellipsis:=R.extBut _ _ D.TOz.symm (T.extBut _ _ D.i2z.symm (W.extBut _ _ D.TOz.symm (U.extBut _ _ D.i1z.symm G)));have h:∀c o,c≠z->c≠TO->c≠O->c≠L->s.heap.get? c=ar o->Y.get? c=ar o:=fun c o B l g c4 e=>
  R.extBut _ _ l (T.extBut _ _ c4 (W.extBut _ _ l (U.extBut _ _ g (Z.extBut _ _ B e))))
 have i:Y.IsTupleIter O m (k+1):=((j.at fun o e=>W.extBut _ _ D.TOi1.symm e).at fun o e=>T.extBut _ _ D.i12 e).at fun o e=>R.extBut _ _ D.TOi1.symm e;have a4:Y.IsTupleIter L p (k+1):=d.at fun o e=>R.extBut _ _ D.TOi2.symm e;have J:z<Y.objs.size:=HS u;show ed _ _ (Builtin.SmallTypes.ownedTupleHandOut (.ref z) (.ref Y.objs.size)>>=_) _ _ _;refine HK ?_;unfold Builtin.SmallTypes.ownedTupleHandOut;have a6:y3 (Y.push {cls:=.type "tuple",data:=.seq #[x,y]}) z TI TO .ellipsis:=HM _ u;refine HK (Js a6 (by simp) fun g7 H I=>?_)
 replace H:y3 g7 z TI TO (kS Y.objs.size):=H;refine Js H (by simp) fun n P C=>?_
 replace P:y3 n z TI TO (kS Y.objs.size):=P;have up:∀c o,c≠z->Y.get? c=ar o->n.get? c=ar o:=fun c o B e=>C.extBut _ _ B (I.extBut _ _ B (HM _ e));have r:ly n Y.objs.size x y:=C.extBut _ _ (JS J) (I.extBut _ _ (JS J) (Ia _ rfl));have q:n.objs.size=Y.objs.size+1:=by rw[C.1,I.1,Ji]
 rw[t]at P r q;refine HV ⟨_,rfl,?_⟩;refine HV ?_;show Q (ar (.ref Y.objs.size)) _;rw[t];exact hQ n P (up _ _ D.TOz X) (i.at fun o e=>up _ o D.i1z e) (a4.at fun o e=>up _ o D.i2z e) r q fun c o B l g c4 e=>up c o B (h c o B l g c4 e)
theorem yu{z TI TO L K n r:cq}{k:Nat}{xs ys:Array a_}{a b:a_}{Q:Option a_->c_->Prop}(i:A.handled=none)(D:LN z TI TO L K n r)
  (N:y3 s.heap z TI TO .none) (u:ly s.heap TI (.ref L) (.ref K)) (l:ly s.heap TO a b)
  (f:s.heap.IsTupleIter L n k) (h2:s.heap.IsTupleIter K r k) (H:s.heap.IsTuple n xs) (p:s.heap.IsTuple r ys) (J:xs[k]? =none\/ys[k]? =none)
  (t:∀h',(∀c o,c≠z->c≠TO->c≠L->c≠K->s.heap.get? c=ar o->h'.get? c=ar o)->Q none {s with heap:=h'}):ed (eK prog w) A (LC (.ref z)) Q E s:=by
 have d:s.TypeIs (.ref z) "zip":=⟨_,N,rfl⟩;unfold LC;refine HK (KY (wpAny_callSpecial?_slot (name:=hI "__next__") d KD (Jp KD d F.entry_zip_next ?_ (F.args_zip_next_1 _))));have stop:∀(g:fc) (e:cq),(∃o,g.get? e=ar o/\o.cls= .type "StopIteration")->(∀c o,c≠z->c≠TO->c≠L->c≠K->s.heap.get? c=ar o->g.get? c=ar o)->∀R:a_->c_->Prop,
   (∀v s',ed (eK prog w) A (do if<-isInstance v (.type "StopIteration")then aC none else throw v) Q E s'->R v s')->R (.ref e) {s with heap:=g}:=fun g e ⟨o,ho,hc⟩ hk R hR=>hR _ _ (by
  refine HK (K9 (T:="StopIteration") (b:=b_) ⟨o,ho,hc⟩ Ln ?_);exact HV (t _ hk))
 show ed _ _ (LM (.ref z) 2>>=_) _ _ _;refine HK (IR N rfl (x:=.bool dr) rfl ?_);show ed _ _ (LM (.ref z) 3>>=_) _ _ _;refine HK (IR N rfl (x:=.ref TI) rfl ?_);refine HK (Jt u rfl ?_);show ed _ _ (i2 (.ref z)>>=_) _ _ _;refine HK ?_;unfold i2;refine HK (IR N rfl (x:=.none) rfl (HV ?_));simp only[if_true];refine HK (Ll ?_);refine HK (IR N rfl (x:=.ref TO) rfl ?_);refine HK (Js N (by simp) fun g1 S Z=>?_)
 replace S:y3 g1 z TI TO .ellipsis:=S;refine HK ?_;simp only[List.zipIdx_cons,List.zipIdx_nil,z7,List.forIn_nil];refine HK (HK (KZ ?_));show ed _ _ (hF (.ref L)>>=_) _ _ _;cases hx:xs[k]? with
 |none=>
  refine HK (pA (s:={s with heap:=g1}) i (f.at fun o e=>Z.extBut _ _ D.i1z e) (H.extBut Z.extBut D.l1z) hx fun g2 e Y he=>?_);obtain⟨m,X,U⟩:=he;have G:y3 g2 z TI TO .ellipsis:=Y _ _ D.i1z.symm S;have O:e≠z:=fun x=>by subst x;rw[G]at X;cases X;simp at U
  refine Js G (by simp) fun g3 _ W=>?_
  refine HK (K9 (T:="StopIteration") (b:=b_) ⟨m,W.extBut _ _ O X,U⟩ Ln ?_);exact HV (t _ fun c o y _ q _ x=>W.extBut _ _ y (Y _ _ q (Z.extBut _ _ y x)))
 | some x=>
  have hy:ys[k]? =none:=by rcases J with h|h;rw[hx]at h;cases h;exact h
  refine HK (jS (s:={s with heap:=g1}) (f.at fun o e=>Z.extBut _ _ D.i1z e) (H.extBut Z.extBut D.l1z) hx fun g2 a0 Y=>HV ?_);have P:ly g2 TO a b:=Y.extBut _ _ D.TOi1 (Z.extBut _ _ D.TOz l);refine HK (Jt P rfl ?_);refine HK (Kr P fun g3 j W=>?_);refine HK (Lz (HV ?_));refine HK (HK (KZ ?_));show ed _ _ (hF (.ref K)>>=_) _ _ _;refine HK (pA (s:={s with heap:=g3}) i (((h2.at fun o e=>Z.extBut _ _ D.i2z e).at fun o e=>Y.extBut _ _ D.i12.symm e).at fun o e=>W.extBut _ _ D.TOi2.symm e)
   (((p.extBut Z.extBut D.l2z).extBut Y.extBut D.l2i1).extBut W.extBut D.l2TO) hy fun g4 e B he=>?_)
  obtain⟨m,X,U⟩:=he;have I:y3 g4 z TI TO .ellipsis:=B _ _ D.i2z.symm (W.extBut _ _ D.TOz.symm (Y.extBut _ _ D.i1z.symm S));have O:e≠z:=fun x=>by subst x;rw[I]at X;cases X;simp at U
  refine Js I (by simp) fun g5 _ C=>?_
  refine HK (K9 (T:="StopIteration") (b:=b_) ⟨m,C.extBut _ _ O X,U⟩ Ln ?_);exact HV (t _ fun c o y c2 q c4 x=>C.extBut _ _ y (B _ _ c4 (W.extBut _ _ c2 (Y.extBut _ _ q (Z.extBut _ _ y x)))))
end
def F6(l:cq):Obj:={cls:=.type "tuple_iterator",data:=.fields #[.ref l,.int 0 0]}
def Dl(h:fc)(l1:cq):Heap:=h.push (F6 l1)
def Dm(h:fc)(l1 l2:cq):Heap:=(Dl h l1).push (F6 l2)
def Dn(h:fc)(l1 l2:cq):Heap:=(Dm h l1 l2).push {cls:=.type "tuple",data:=.seq #[.ref h.objs.size,.ref (Dl h l1).objs.size]}
def Ed(h:fc)(l1 l2:cq):Heap:=(Dn h l1 l2).push {cls:=.type "tuple",data:=.seq #[.none,.none]}
def Do(h:fc)(l1 l2:cq):Heap:=(Ed h l1 l2).push {cls:=.type "zip",data:=.fields #[.none,.bool dr,.bool dr,.ref (Dm h l1 l2).objs.size,.ref (Dn h l1 l2).objs.size]}
theorem Dp(Z Y:cq)(xs ys:Array a_):
  Meets (Builtin.«zip.__new__» ⟨[.type "zip",.ref Z,.ref Y],[]⟩) (fun _ R s=>s.heap.IsTuple Z xs/\s.heap.IsTuple Y ys/\R (.ok (.ret (.ref (Ed s.heap Z Y).objs.size))) {s with heap:=Do s.heap Z Y}):=
 .of_wp fun prog w A R s h=>by
  obtain⟨Q,g,d,P,os⟩:=s;obtain⟨U,X,h⟩:=h;have S:=sub_zip;have T:Heap.IsTuple (Shared.heap ⟨Q,g,d,P,os⟩) Z xs:=U;have W:Heap.IsTuple (Shared.heap ⟨Q.push {cls:=.type "tuple_iterator",data:=.fields #[.ref Z,.int 0 0]},g,d,P,os⟩) Y ys:=let ⟨o,e,r⟩:=X;⟨o,HM _ e,r⟩
  wp_walk using KM T,KM W
  exact⟨_,rfl,h⟩
section
variable {prog:eb}{w:ee}{A:g_}{E:a_->c_->Prop}{s:c_}
theorem wH{Q:a_->c_->Prop}(R:s.heap.IsTuple l1 xs)(S:s.heap.IsTuple l2 ys)
  (h:∀h',y3 h' (s.heap.objs.size+4) (s.heap.objs.size+2) (s.heap.objs.size+3) .none->ly h' (s.heap.objs.size+2) (.ref s.heap.objs.size) (.ref (s.heap.objs.size+1))->
   ly h' (s.heap.objs.size+3) .none .none->h'.IsTupleIter s.heap.objs.size l1 0->h'.IsTupleIter (s.heap.objs.size+1) l2 0->(∀c o,s.heap.get? c=ar o->h'.get? c=ar o)->Q (.ref (s.heap.objs.size+4)) {s with heap:=h'}):
  ed (eK prog w) A (call (.type "zip") [.ref l1,.ref l2]) Q E s:=by
 refine callType_new F.called_zip (by decide) (F.typeCall_zip_2 _ _) (F.newCall_zip_2 _ _) (fun obj=>F.args_object_init_3 obj _ _) F.entry_zip_new (Dp l1 l2 xs ys) ⟨R,S,?_⟩
 have P:(Dl s.heap l1).objs.size=s.heap.objs.size+1:=Ji ..;have T:(Dm s.heap l1 l2).objs.size=s.heap.objs.size+2:=(Ji ..).trans (by rw[P])
 have W:(Dn s.heap l1 l2).objs.size=s.heap.objs.size+3:=(Ji ..).trans (by rw[T])
 have N:(Ed s.heap l1 l2).objs.size=s.heap.objs.size+4:=(Ji ..).trans (by rw[W])
 have Z:∀{c o},(Ed s.heap l1 l2).get? c=ar o->(Do s.heap l1 l2).get? c=ar o:=fun e=>HM _ e;have Y:∀{c o},(Dn s.heap l1 l2).get? c=ar o->(Ed s.heap l1 l2).get? c=ar o:=fun e=>HM _ e;have U:∀{c o},(Dm s.heap l1 l2).get? c=ar o->(Dn s.heap l1 l2).get? c=ar o:=fun e=>HM _ e;have L:∀{c o},(Dl s.heap l1).get? c=ar o->(Dm s.heap l1 l2).get? c=ar o:=fun e=>HM _ e;have K:∀{c o},s.heap.get? c=ar o->(Dl s.heap l1).get? c=ar o:=fun e=>HM _ e;have X:(Do s.heap l1 l2).get? (Ed s.heap l1 l2).objs.size=ar {cls:=.type "zip",data:=.fields #[.none,.bool dr,.bool dr,.ref (Dm s.heap l1 l2).objs.size,.ref (Dn s.heap l1 l2).objs.size]}:=Ia _ rfl;have O:(Do s.heap l1 l2).get? (Dn s.heap l1 l2).objs.size=ar {cls:=.type "tuple",data:=.seq #[.none,.none]}:=Z (Ia _ rfl);have g3:(Do s.heap l1 l2).get? (Dm s.heap l1 l2).objs.size=ar {cls:=.type "tuple",data:=.seq #[.ref s.heap.objs.size,.ref (Dl s.heap l1).objs.size]}:=Z (Y (Ia _ rfl));have g2:(Do s.heap l1 l2).get? (Dl s.heap l1).objs.size=ar (F6 l2):=Z (Y (U (Ia _ rfl)));have g1:(Do s.heap l1 l2).get? s.heap.objs.size=ar (F6 l1):=Z (Y (U (L (Ia _ rfl))));show _/\_;rw[T,W,N]at X;rw[P,T]at g3;rw[W]at O;rw[P]at g2;rw[N];exact⟨⟨_,X,rfl⟩,h _ X g3 O ⟨_,g1,rfl,rfl⟩ ⟨_,g2,rfl,rfl⟩ fun c o x=>Z (Y (U (L (K x))))⟩
end
def xo(va vb:List V):It:=⟨fun i _=>i<va.length/\i<vb.length,fun i H x H'=>∃p a b,H p=none/\va[i]? =ar a/\vb[i]? =ar b/\x= .ref p/\H'=upd H p (.tup [a,b]),fun i _=>va.length<=i\/vb.length<=i⟩
section
variable {X:Cx}{pins:List (cq×Obj)}{σ:L2.St}{H:Hp}{s:c_}
theorem u7{h':fc}{t':Nat}{ch:List cq}(I:L2.Inv X pins σ H s)(W:∀b∈ch,j9 X pins H b)(k:∀b o,b∉ch->s.heap.get? b=ar o->h'.get? b=ar o):L2.Inv X pins σ H {s with heap:=h',toks:=t'}:=by
 have Y:∀b u,H b=ar u->b∉ch:=fun b u e z=>by rw[(W b z).1]at e;cases e
 refine I.step (g':=s.gens) (d':=s.drawn) (ch:=ch) (fun b R=>?_) (fun b o _ _ Z e _=>k b o Z e) (fun b o _ _ Z e _=>⟨o.slots,k b o Z e⟩) (fun _ _ _ _ n=>n)
  (fun b o Z e=>⟨o,k b o Z e⟩) (fun _ _ e=>e) (fun _ _ _ e=>e) (fun b P e=>⟨#[],by rw[e];simp⟩) (fun m hm=>?_) (fun b u e=>?_) I.bare
 ·obtain⟨f0,f1,f2,S,f4,T⟩:=W b R;exact⟨S,f1,f4,T⟩
 ·obtain⟨o,es,Q,U,r⟩:=hm;exact⟨o,es,Q,k _ o (fun z=>(W _ z).2.1 rfl) U,r⟩
 ·refine(I.hok b u e).stay (fun c v Z q=>k c v ?_ q) (fun _ q=>q) fun _ _ q=>q;rcases Z with z|z
  ·rw[z];exact Y b u e
  ·exact Y c _ z
theorem u9{h':fc}{t':Nat}{ch:List cq}{a:cq}{o:HO}(I:L2.Inv X pins σ H s)(S:∀b∈ch,j9 X pins H b)(k:∀b o,b∉ch->s.heap.get? b=ar o->h'.get? b=ar o)(R:s.heap.objs.size<=a)(T:bx X.prog X.w (upd H a o) h' a o):
  L2.Inv X pins σ (upd H a o) {s with heap:=h',toks:=t'}:=by
 have W:H a=none:=I.hok.fresh R;have Y:∀b u,H b=ar u->b∉ch:=fun b u e z=>by rw[(S b z).1]at e;cases e
 have ne:∀b o,s.heap.get? b=ar o->b≠a:=fun b o e=>Ih (HZ (HS e) R);refine I.step (g':=s.gens) (d':=s.drawn) (ch:=ch) (fun b U=>?_) (fun b o _ _ Z e _=>k b o Z e) (fun b o _ _ Z e _=>⟨o.slots,k b o Z e⟩) (fun b o _ e n=>by rw[aJ (ne b o e)];exact n)
  (fun b o Z e=>⟨o,k b o Z e⟩) (fun b xs e=>by rw[aJ (aM e W)];exact e) (fun b _ _ e=>by rw[aJ (aM e W)];exact e) (fun b L e=>⟨#[],by rw[aJ (aM e W),e];simp⟩) (fun m hm=>?_) (fun b u e=>?_) I.bare
 ·obtain⟨f0,f1,f2,O,f4,Q⟩:=S b U;exact⟨O,f1,f4,Q⟩
 ·obtain⟨o,es,N,P,r⟩:=hm;exact⟨o,es,N,k _ o (fun z=>(S _ z).2.1 rfl) P,r⟩
 ·by_cases U:b=a
  ·subst U;rw[bg]at e;cases e;exact T
  ·rw[aJ U]at e;refine(I.hok b u e).stay (fun c v Z q=>k c v ?_ q) (fun c q=>by rw[aJ (aM q W)];exact q) fun c xs q=>by rw[aJ (aM q W)];exact q
   rcases Z with z|z
   ·rw[z];exact Y b u e
   ·exact Y c _ z
end
theorem yw{P:eb}{w:ee}{K:dn}{u:List Expr}{x1}{tp:Pos}{z TI TO O N l1 l2:cq}(D:LN z TI TO O N l1 l2){F J:List V}(H0:Hp->Prop)(q:∀H,H0 H↔(H l1=ar (.tup F)/\H l2=ar (.tup J))):
  Turn P w K (.Tuple u x1 tp) ⟨fun i H=>(xo F J).go i H/\H0 H,(xo F J).yld,fun i H=>(xo F J).stop i H/\H0 H⟩ [z,TI,TO,O,N] z
   (fun i h=>y3 h z TI TO .none/\ly h TI (.ref O) (.ref N)/\(∃a b,ly h TO a b)/\h.IsTupleIter O l1 i/\h.IsTupleIter N l2 i) where
 mem:=by simp
 obj:=fun i h st b Z=>by
  obtain⟨R,Y,⟨a,c,U⟩,⟨o1,e1,c1,d1⟩,⟨o2,e2,c2,d2⟩⟩:=st;simp only[gg,f_,or_false]at Z;rcases Z with rfl|rfl|rfl|rfl|rfl
  ·exact⟨_,R,fun v z=>by cases z⟩
  ·exact⟨_,Y,fun v z=>by cases z⟩
  ·exact⟨_,U,fun v z=>by cases z⟩
  ·exact⟨_,e1,fun v z=>by rw[d1]at z;cases z⟩
  ·exact⟨_,e2,fun v z=>by rw[d2]at z;cases z⟩
 keep:=fun i h h' st k=>by
  obtain⟨R,Y,⟨a,c,U⟩,C,G⟩:=st;exact⟨k z (by simp) _ R,k TI (by simp) _ Y,⟨a,c,k TO (by simp) _ U⟩,C.at fun o e=>k O (by simp) o e,G.at fun o e=>k N (by simp) o e⟩
 item:=by
  intro X hP hw m hc i pins s σ H E I hf st d;subst hP hw m;obtain⟨R,Y,⟨a,c,U⟩,C,G⟩:=st;obtain⟨⟨ga,gb⟩,hH⟩:=d;obtain⟨hA,hB⟩:=(q H).mp hH;obtain⟨r,L,l,_⟩:=I.tuple (.of hA);obtain⟨t,Q,p2,_⟩:=I.tuple (.of hB);obtain⟨u1,a0,j⟩:=L.get (HR ga);obtain⟨f,c4,n⟩:=Q.get (HR gb);refine wG D R Y U C G l p2 (x:=u1) (y:=f) (by simpa using a0) (by simpa using c4) fun h' a1 a2 a3 a4 a5 a6 p=>?_
  have b2:H s.heap.objs.size=none:=I.hok.fresh (HN _);have lt:∀{c o},s.heap.get? c=ar o->s.heap.objs.size≠c:=fun e=>JS (HS e);refine⟨_,rfl,KQ a1 fun S c0 T=>?_⟩;have B:ly S TI (.ref O) (.ref N):=T.extBut _ _ D.TIz (p _ _ D.TIz D.TITO D.TIi1 D.TIi2 Y);have kk:∀b o,b∉[z,TI,TO,O,N]->s.heap.get? b=ar o->S.get? b=ar o:=fun b o Z e=>by
   simp only[gg,f_,or_false,not_or]at Z;exact T.extBut _ _ Z.1 (p b o Z.1 Z.2.2.1 Z.2.2.2.1 Z.2.2.2.2 e)
  have A:ly S s.heap.objs.size u1 f:=T.extBut _ _ (lt R) a5;have I2:L2.Inv X pins σ (upd H s.heap.objs.size (.tup [F[i],J[i]])) {s with heap:=S,toks:=s.toks}:=u9 (o:=.tup [F[i],J[i]]) I hf kk (HN _) ⟨⟨by show 2<=sizeLine;decide,_,A,rfl⟩,[u1,f],.cons j (.cons n .nil),_,A,rfl,_,rfl⟩
  refine⟨.ref s.heap.objs.size,_,I2,rfl,
   ⟨_,_,_,b2,HR ga,HR gb,rfl,rfl⟩,⟨c0,B,⟨_,_,T.extBut _ _ D.TOz a2⟩,a3.at fun o e=>T.extBut _ _ D.i1z e,a4.at fun o e=>T.extBut _ _ D.i2z e⟩,fun b Z=>?_⟩
  obtain⟨ob,ho,_⟩:∃ob,s.heap.get? b=ar ob/\True:=by
   simp only[gg,f_,or_false]at Z;rcases Z with rfl|rfl|rfl|rfl|rfl
   ·exact⟨_,R,trivial⟩
   ·exact⟨_,Y,trivial⟩
   ·exact⟨_,U,trivial⟩
   ·obtain⟨o,e,_⟩:=C;exact⟨_,e,trivial⟩
   ·obtain⟨o,e,_⟩:=G;exact⟨_,e,trivial⟩
  rw[aJ (Ih (HS ho))];exact(hf b Z).1
 done:=by
  intro X hP hw m hc i pins s σ H E I hf st d;subst hP hw m;obtain⟨R,Y,⟨a,c,U⟩,C,G⟩:=st;obtain⟨gs,hH⟩:=d;obtain⟨hA,hB⟩:=(q H).mp hH;obtain⟨r,L,l,_⟩:=I.tuple (.of hA);obtain⟨t,Q,p2,_⟩:=I.tuple (.of hB);have e8:=L.length;have f5:=Q.length;refine yu (I.ok.hd hc) D R Y U C G l p2 (gs.imp (fun g=>by simp;omega) fun g=>by simp;omega) fun h' p=>⟨rfl,u7 (t':=s.toks) I hf fun b o Z e=>?_⟩
  simp only[gg,f_,or_false,not_or]at Z;exact p b o Z.1 Z.2.2.1 Z.2.2.2.1 Z.2.2.2.2 e
 self:=fun _ _ _ _ _ st h=>Ko st.1 h
theorem zip_get{xs ys:List D}{i:Nat}{d:D}(h:((xs.zip ys).map fun p=>D.tup [p.1,p.2])[i]? =ar d):∃x y,xs[i]? =ar x/\ys[i]? =ar y/\d= .tup [x,y]:=by
 rw[IL]at h;cases q:(xs.zip ys)[i]? with
 |none=>rw[q]at h;cases h
 |some p=>
  rw[q]at h;cases h;obtain⟨Y,Z⟩:=JM.mp q;exact⟨p.1,p.2,Y,Z,rfl⟩
theorem uh{K:dn}{O:List cq}{H:Hp}{S:ay}{a b:cq}{Y X:List V}{xs ys:List D}(Z:Rep K O H S)(C:H a=ar (.tup Y))(F:H b=ar (.tup X))(B:RelDs K O H xs Y)(A:RelDs K O H ys X):
  i6 K ⟨(xs.zip ys).map fun p=>.tup [p.1,p.2],.none⟩ ⟨fun i H=>(xo Y X).go i H/\(H a=ar (.tup Y)/\H b=ar (.tup X)),(xo Y X).yld,fun i H=>(xo Y X).stop i H/\(H a=ar (.tup Y)/\H b=ar (.tup X))⟩ O H:=by
 intro T N S2 e rep2 ok i;have U:N a=ar (.tup Y):=(e.oth a _ C (Z.notIn C (by intro _ z;cases z)) (by intro _ z;cases z) (by intro _ z;cases z)).1
 have R:N b=ar (.tup X):=(e.oth b _ F (Z.notIn F (by intro _ z;cases z)) (by intro _ z;cases z) (by intro _ z;cases z)).1
 have Q:=B.laterN Z e;have P:=A.laterN Z e;have t:=Q.length;have r:=P.length;refine⟨fun d hd=>?_,fun hlen=>?_⟩
 ·obtain⟨x,y,G,E,rfl⟩:=zip_get hd;have q:=(HQ.mp G).1;have o:=(HQ.mp E).1;refine⟨⟨⟨by omega,by omega⟩,U,R⟩,?_⟩
  rintro v H3 ⟨p,L,J,hp,g1,g2,rfl,rfl⟩;obtain⟨v1,e1,u⟩:=Q.get' G;obtain⟨v2,e2,w⟩:=P.get' E;obtain rfl:v1=L:=Il (e1.symm.trans g1);obtain rfl:v2=J:=Il (e2.symm.trans g2);have I:Ext T N T (upd N p (.tup [v1,v2])):=fL hp;exact⟨I,ib rep2 hp,.tup bg (.cons (u.later rep2 I) (.cons (w.later rep2 I) .nil))⟩
 ·have s:min xs.length ys.length<=i:=by simpa using hlen
  refine⟨?_,U,R⟩;rcases Nat.le_total xs.length ys.length with z|z
  ·exact .inl (by omega)
  ·exact .inr (by omega)
end S4
namespace S3
open PySem PySem.Spec PyProof.Rows L2 S4
abbrev mV(i:Nat):TM:=fun ρ=>BY ρ i
abbrev mK(d:D):TM:=fun _=>aC d
abbrev nA(m n:TM):TM:=fun ρ=>do let x<-m ρ;let c<-ie x;if c=b_ then n ρ else aC (.bl dr)
abbrev HE(m n:TM):TM:=fun ρ=>do let x<-m ρ;let c<-ie x;if c=b_ then aC (.bl b_)else n ρ
abbrev GY(m:TM):TM:=fun ρ=>do let x<-m ρ;let c<-ie x;aC (.bl (!c))
abbrev Dq(t:aB->M Bool)(m n:TM):TM:=fun ρ=>do let k<-t ρ;if k=b_ then m ρ else n ρ
abbrev AQ:=aB->M (List D)
abbrev ak:AQ:=fun _=>aC []
abbrev aa(m:TM)(ms:AQ):AQ:=fun ρ=>do let x<-m ρ;let xs<-ms ρ;aC (x::xs)
abbrev dU(ms:AQ):TM:=fun ρ=>do let ds<-ms ρ;bY ds
abbrev aS(ms:AQ):TM:=fun ρ=>do let ds<-ms ρ;bq ds
abbrev az(F:List D->M D)(ms:AQ):TM:=fun ρ=>do let ds<-ms ρ;F ds
abbrev cC(F:List D->M D)(m:TM):TM:=az F (aa m ak)
abbrev aQ(f:D->D->M D)(m n:TM):TM:=fun ρ=>do let x<-m ρ;let y<-n ρ;f x y
abbrev Ds(f g:D->D->M D)(m n l:TM):TM:=fun ρ=>do let x<-m ρ;let y<-n ρ;let z<-f x y;let k<-ie z;if k=b_ then do let w<-l ρ;g y w else aC (.bl dr)
abbrev GZ:=aB->M (Option Int)
abbrev oN:GZ:=fun _=>aC none
abbrev oS(m:TM):GZ:=fun ρ=>do let x<-m ρ;let i<-Hh x;aC (ar i)
abbrev Ee(m:TM)(lo hi:GZ):TM:=fun ρ=>do let x<-m ρ;let i<-lo ρ;let j<-hi ρ;yg x i j
abbrev g0(m:TM)(T:String):TM:=fun ρ=>do let x<-m ρ;ym (fun t=>gZ t T) x
abbrev B2(m:TM)(T U:String):TM:=fun ρ=>do let x<-m ρ;ym (fun t=>gZ t T||gZ t U) x
abbrev qz(f:D->List D->M D)(m n:TM):TM:=fun ρ=>do let x<-m ρ;Di x;let ds<-(do let y<-n ρ;let ys<-aC [];aC (y::ys));f x ds
abbrev bj(mi:aB->M Iter)(g:m7)(t:aB->M Bool)(m:TM)(js:List (Option Nat)):TM:=fun ρ=>do let it<-mi ρ;let ys<-eV it g t m (jD js ρ);bq ys
abbrev gh:=aB->M Bool
abbrev bV(m:TM):gh:=fun ρ=>do let x<-m ρ;ie x
abbrev cz(f:D->D->M D)(m n:TM):gh:=fun ρ=>do let z<-(do let x<-m ρ;let y<-n ρ;f x y);ie z
abbrev ui(f g:D->D->M D)(m n l:TM):gh:=fun ρ=>do let v<-(do let x<-m ρ;let y<-n ρ;let z<-f x y;let k<-ie z;if k=b_ then do let w<-l ρ;g y w else aC (.bl dr));ie v
abbrev fq(t:gh):gh:=fun ρ=>do let c<-t ρ;aC (!c)
abbrev jT(t u:gh):gh:=fun ρ=>do let c<-t ρ;if c=b_ then u ρ else aC dr
abbrev uj(t u:gh):gh:=fun ρ=>do let c<-t ρ;if c=b_ then aC b_ else u ρ
abbrev iL:gh:=fun _=>aC b_
abbrev kU(m:TM):aB->M Iter:=fun ρ=>do let ds<-aa m ak ρ;lu ds
abbrev yx(m n:TM):aB->M Iter:=fun ρ=>do let ds<-aa m (aa n ak) ρ;ju ds
abbrev dM(m:TM):aB->M Iter:=fun ρ=>do let x<-m ρ;Fc x
abbrev gN(i:Nat):m7:=fun d ρ=>aC (ρ.set i (ar d))
abbrev F7(m n:TM):m7:=fun d ρ=>do let x<-m ρ;let y<-n ρ;i5 x y d;aC ρ
abbrev cn:cM:=fun ρ=>aC (.nx ρ)
abbrev aA(m n:cM):cM:=fun ρ=>do let o<-m ρ;xW o n
abbrev oy(me:TM):cM:=fun ρ=>do let _<-me ρ;aC (.nx ρ)
abbrev bD(me:TM):cM:=fun ρ=>do let d<-me ρ;aC (.ret d)
abbrev fx(t:gh)(m n:cM):cM:=fun ρ=>do let c<-t ρ;if c=b_ then m ρ else n ρ
abbrev bo(i:Nat)(me:TM):cM:=fun ρ=>do let d<-me ρ;aC (.nx (ρ.set i (ar d)))
abbrev se(me:TM)(g:m7):cM:=fun ρ=>do let d<-me ρ;let ρ'<-g d ρ;aC (.nx ρ')
abbrev kB(mi:aB->M Iter)(g:m7)(b:cM):cM:=fun ρ=>do let it<-mi ρ;fg it g b it.items ρ
abbrev Dt(k:Nat)(t:gh)(b:cM):cM:=fun ρ=>i7 t b k ρ
structure DefIs(P:eb)(w:ee)(K:dn)(mg:Str->Option a_)(base:fc)(k:Nat)(x:Str)(ps:List Str)(F:List D->M D):Prop where
 ex:∃f fd,FnOk P w K mg base Hy k f fd ps (HA K F)/\mg x=ar (.ref f)/\u3 K (.ref f)=b_/\Binds K fd ps []
section
variable {X:Cx}{E:XD}{e:Expr}{es:List Expr}{pos:Pos}{ms:AQ}
theorem aj{c j p}:dt (.Constant c j p::es) env=(dr,gd (.Constant c j p) env)::dt es env:=rfl
theorem aU{l k p}:dt (.Tuple l k p::es) env=(dr,gd (.Tuple l k p) env)::dt es env:=rfl
theorem qA{l p}:dt (.List l p::es) env=(dr,gd (.List l p) env)::dt es env:=rfl
theorem aF{x p}:dt (.Name x p::es) env=(dr,gd (.Name x p) env)::dt es env:=rfl
theorem bz{f l k p}:dt (.Call f l k p::es) env=(dr,gd (.Call f l k p) env)::dt es env:=rfl
theorem ez{a o b p}:dt (.BinOp a o b p::es) env=(dr,gd (.BinOp a o b p) env)::dt es env:=rfl
theorem bp{a b p}:dt (.Subscript a b p::es) env=(dr,gd (.Subscript a b p) env)::dt es env:=rfl
theorem AR{a b p}:dt (.Dict a b p::es) env=(dr,gd (.Dict a b p) env)::dt es env:=rfl
theorem uk{a b p}:dt (.UnaryOp a b p::es) env=(dr,gd (.UnaryOp a b p) env)::dt es env:=rfl
theorem yy{j p}:SE X E (.UnaryOp .USub (.Constant (.int i) j p) pos) (mK (.int (-i))):=by
 refine PE.imp (EH CP xq) fun σ H Q h=>?_;obtain⟨Z,S,ρ,rep,re,c⟩:=h;exact⟨i,rfl,ag c .refl rep _ (.int _)⟩
theorem yz(Z:Gl X x)(W:∃t,X.mg x=ar (.int i t))(Y:(x==("__debug__":Str))=false:=by decide):SE X E (.Name x pos) (mK (.int i)):=
 let ⟨_,h⟩:=W
 AG Z h Y
def Fe(fs:Scope)(N:List Str)(scope:Scope)(Nc:List Str)(js:List (Option Nat)):Bool:=
 (scope.kind== .function) && scope.names.all (fun y=>y.2 != .cell||scope.names.lookup y.1==ar .cell) && scope.names.all (fun y=>y.2 != .local||scope.names.lookup y.1==ar .local) &&
  scope.names.all (fun y=>y.2 != .free||(fs.names.lookup y.1==ar .cell||fs.names.lookup y.1==ar .free)) && (js.length==Nc.length) &&
  (Nc.zip js).all (fun p=>match p.2 with|none=>b_|some j=>N[j]? ==ar p.1 && scope.names.lookup p.1==ar .free)
theorem g6(Y:Scope)(N:List Str)(P:∀x,X.env.kindOf x=Y.names.lookup x)(S:X.N=N)(h:Fe Y N scope Nc js=b_):CompScope X scope Nc js:=by
 unfold Fe at h;simp only[hY,r7,beq_iff_eq,bne_iff_ne,z_]at h;obtain⟨⟨⟨⟨⟨Q,R⟩,O⟩,L⟩,W⟩,U⟩:=h;refine⟨Q,fun y Z e=>(R y Z).resolve_left fun z=>z e,fun y Z e=>(O y Z).resolve_left fun z=>z e,fun y Z e=>?_,W,fun i x j e1 e2=>?_⟩
 ·rw[P];exact(L y Z).resolve_left fun z=>z e
 ·have T:(Nc.zip js)[i]? =ar (x,ar j):=JM.mpr ⟨e1,e2⟩;have:=U _ (IC T);simp only[hY,beq_iff_eq]at this;rw[S];exact this
theorem cW(Z:Room k A):A.units+64<cLine:=by have:=Z.un;omega
theorem Ff(Z:Room k A):A.units<cLine:=by have:=Z.un;omega
end
section
variable {P:eb}{w:ee}{K:dn}{mg:Str->Option a_}{base:fc}
end
def runs{α:Type}(c:M α)(S:ay)(Q:α->ay->Prop):Prop:=∃a S',c S=ar (.ok a,S')/\Q a S'
section
variable {α β:Type}{c:M α}{f:α->M β}{S:ay}{Q Q':α->ay->Prop}{R:β->ay->Prop}
theorem qB(h:c S=ar (.ok a,S1)):runs c S Q↔Q a S1:=by
 constructor
 ·rintro⟨a',S',e,q⟩;rw[h]at e;cases e;exact q
 ·exact fun q=>⟨a,S1,h,q⟩
theorem AS(h:c S=none):runs c S Q↔False:=by
 constructor
 ·rintro⟨a',S',e,q⟩;rw[h]at e;cases e
 ·exact fun q=>q.elim
theorem pB(h:runs c S Q)(k:∀a S',Q a S'->Q' a S'):runs c S Q':=let ⟨a,S',e,q⟩:=h;⟨a,S',e,k a S' q⟩
end
section
variable {S:ay}{Q:D->ay->Prop}
theorem wI:runs (bq ds) S Q↔ds.length<=lim/\Q (.lst S.length) (S++[ds]):=by
 by_cases h:ds.length<=lim
 ·rw[qB (by unfold bq;rw[if_pos h])];simp[h]
 ·rw[AS (by unfold bq;rw[if_neg h])];simp[h]
theorem d6{f:k6->k6->Bool}(Y:fB S 60 a=ar p)(Z:fB S 60 b=ar q):runs (Dd f a b) S Q↔Q (.bl (f p q)) S:=by
 rw[qB (by unfold Dd;rw[Y,Z])]
theorem kC(Y:fB S 60 a=ar p)(Z:fB S 60 b=ar q)(X:GV f p q=ar r):runs (Ec f a b) S Q↔Q (.bl r) S:=by
 rw[qB (by unfold Ec;rw[Y,Z];simp only[X];rfl)]
end
end S3
namespace S7
open PySem PySem.Spec PySem.W PyProof.Rows
section
variable {prog:eb}{w:ee}{A:g_}{E:a_->c_->Prop}{s:c_}{K:Mn}{x C:cq}{ox:Obj}{od:Option Obj}{name:Str}
theorem vd:Slot "BaseException" "__getattribute__" "BaseException.__getattribute__":=
 .of (owner:="BaseException") (n:="__getattribute__") (by rw[typeLookup_type,builtinLookup_eq_fast];kernel_rfl) (by decide+kernel) (by decide+kernel) (by decide+kernel)
  (by first|exact .inl (by decide+kernel)|exact .inr (by decide+kernel)) (by rw[isSubtype_type];kernel_rfl)
theorem yA{M:L8}{Z:a_}{Q:Unit->c_->Prop}(X:K.In s.heap)(I:u2 s.heap x ox C od)(S:LX K C (.type "BaseException")=ar b_)(h:Q () s):
  ed M A (checkBuiltinCall "BaseException.__getattribute__" ⟨[.ref x,Z],[]⟩) Q E s:=by
 have T:builtinKind "BaseException.__getattribute__"=ar .slot:=by decide+kernel
 have Y:splitId "BaseException.__getattribute__"=ar ("BaseException","__getattribute__"):=by decide+kernel
 have U:=I.type (M:=M);have L1:=looks_mroIn (M:=M) X S;have O:=F.args_bexc_ga (.ref x) Z;obtain⟨R,g,d,t,os⟩:=s;have P:Looks M R (isInstance (.ref x) (.type "BaseException")) true:=U.andThen L1;simp only[checkBuiltinCall,T,Y];refine HK (P.at ?_)
 repeat (first|wp_step)
 exact h
theorem yB{Y Z:Bool}{O:Tok}{Q:a_->c_->Prop}(X:K.In s.heap)(I:u2 s.heap x ox C od)(P:u_ K (.ref C) "__getattribute__"=ar (ar (.builtin "BaseException.__getattribute__")))
  (T:u_ K (.ref C) "__getattr__"=ar none) (L:LX K C (.type "BaseException")=ar b_)
  (h:ed (eK prog w) A.in1 (Builtin.«object.__getattribute__» ⟨[.ref x,.str name O],[]⟩)
   (fun fin s'=>match fin with| .done (.ret v)=>ed (eK prog w) A (handedOut v) Q E s'|_=>False) (fun _ _=>False) s):
  ed (eK prog w) A (getAttrBy (.ref x) (.str name O) Y Z) Q E s:=by
 obtain⟨J,g,d,t,os⟩:=s;have N:=I.type (M:=eK prog w);have L1:=looks_findIn (M:=eK prog w) X P;have L2:=looks_findIn (M:=eK prog w) X T;have R:(Z && LY (t_ "BaseException.__getattribute__"))=false:=by cases Z<;>rfl
 have U:(t_ "BaseException.__getattribute__"==t_ "object.__getattribute__")=false:=by decide+kernel
 have S:(LY (e_ C) && t_ "BaseException.__getattribute__"==t_ "object.__getattribute__")=false:=by rw[U,Lm]
 unfold getAttrBy;refine Jh (HK (N.at (HK (L1.at ?_))));dsimp only;rw[S];simp only[iA,if_false];unfold getAttrByItsOwn hookBefore;rw[if_pos (show LY (e_ C)=b_ from rfl)];refine HK (L2.at ?_);unfold callGetattribute;rw[R];simp only[iA,if_false];refine HK (KY (Jh ?_));unfold boundAndCalled;rw[vd.bind];refine HK (HV ?_);refine Li (codeAny_call_builtin vd.plain F.entry_bexc_ga (yA X I L (I0 h (fun fin s' z=>?_) fun _ _ z=>z.elim)));rcases fin with(_|_|_|_)|_<;>first|exact z|exact z.elim
theorem nB{g a:a_}{U:Tok}{P:a_->c_->Prop}(X:K.In s.heap)(I:u2 s.heap x ox C od)(Y:L3 K C od name=ar (.bind g a))
  (h:ed (eK prog w) A (call g [a,.ref x,.ref C]) P E s):
  ed (eK prog w) A (Builtin.«object.__getattribute__» ⟨[.ref x,.str name U],[]⟩) (fun fin s'=>match fin with| .done (.ret v)=>P v s'|_=>False) E s:=by
 obtain⟨S,T,d,t,os⟩:=s;have Z:=I.type (M:=eK prog w);have L1:=looks_find (M:=eK prog w) X I Y;refine HK (HV (HK (HV (HK (Z.at (HK (L1.at ?_)))))));show ed _ _ (s_ [a] (call g [a,.ref x,.ref C])>>=ret) _ _ _;exact HK (Jh (I0 h (fun v s' z=>HV z) fun _ _ z=>z))
theorem oK{v:a_}{U:Tok}{P:a_->c_->Prop}(X:K.In s.heap)(I:u2 s.heap x ox C od)(Y:L3 K C od name=ar (.value v))(h:P v s):
  ed (eK prog w) A (Builtin.«object.__getattribute__» ⟨[.ref x,.str name U],[]⟩) (fun fin s'=>match fin with| .done (.ret v)=>P v s'|_=>False) E s:=by
 obtain⟨S,T,d,t,os⟩:=s;have Z:=I.type (M:=eK prog w);have L1:=looks_find (M:=eK prog w) X I Y;refine HK (HV (HK (HV (HK (Z.at (HK (L1.at ?_)))))));exact HV h
structure ExcC(K:Mn)(C:cq):Prop where
 ga:u_ K (.ref C) "__getattribute__"=ar (ar (.builtin "BaseException.__getattribute__"))
 gt:u_ K (.ref C) "__getattr__"=ar none
 be:LX K C (.type "BaseException")=ar b_
 ob:LX K C (.type "object")=ar b_
 cl:u_ K (.ref C) "__class__"=ar (ar (.builtin "object.__class__"))
 gs:specialIn K (.builtin "object.__class__") "__get__"=ar (ar (.builtin "getset_descriptor.__get__"))
 tk:takesIn K (.builtin "object.__class__")=ar b_
 cd:(Mm K C).isSome=b_
 mf:u_ K (.ref C) "many"=ar none
 ms:u_ K (.ref C) "most"=ar none
def yC(K:Mn)(C:cq):Bool:=(u_ K (.ref C) "__getattribute__"==ar (ar (.builtin "BaseException.__getattribute__"))) && (u_ K (.ref C) "__getattr__"==ar none) && (LX K C (.type "BaseException")==ar b_) &&
 (LX K C (.type "object")==ar b_) && (u_ K (.ref C) "__class__"==ar (ar (.builtin "object.__class__"))) && (specialIn K (.builtin "object.__class__") "__get__"==ar (ar (.builtin "getset_descriptor.__get__"))) &&
 (takesIn K (.builtin "object.__class__")==ar b_) && (Mm K C).isSome && (u_ K (.ref C) "many"==ar none) && (u_ K (.ref C) "most"==ar none)
theorem ExcC.of(h:yC K C=b_):ExcC K C:=by
 unfold yC at h;simp only[hY,beq_iff_eq]at h;obtain⟨⟨⟨⟨⟨⟨⟨⟨⟨X,R⟩,T⟩,P⟩,Y⟩,U⟩,S⟩,W⟩,Q⟩,Z⟩:=h;exact⟨X,R,T,P,Y,U,S,W,Q,Z⟩
theorem wJ{Q:Option a_->c_->Prop}(c:ExcC K C)(X:K.In s.heap)(I:u2 s.heap x ox C od)(h:Q (ar (.ref C)) {s with toks:=s.toks+1}):ed (eK prog w) A (getAttr? (.ref x) "__class__") Q E s:=by
 have hf:L3 K C od "__class__"=ar (.bind (.builtin "getset_descriptor.__get__") (.builtin "object.__class__")):=by
  obtain⟨cd,Z⟩:=IW.mp c.cd;unfold L3;rw[Z,JB,c.cl,JB];simp[c.gs,c.tk]
 unfold getAttr? getAttrBy?;refine HK (wpAny_mkText (HK (KY (yB (s:={s with toks:=s.toks+1}) X I c.ga c.gt c.be ?_))));refine nB (s:={s with toks:=s.toks+1}) X I hf ?_;exact Li (class_get (s:={s with toks:=s.toks+1}) (ox:=ox) (od:=od) X I c.ob (handed_on rfl (HV h)))
theorem yD(c:ExcC K C):KitX K (.ref x) (.ref C) (fun h=>∃ox od,u2 h x ox C od) where
 ty:=fun _ _ _ ⟨_,_,I⟩=>I.type
 it:=fun _ _ X _=>by
  have Z:=c.cd;unfold Mm at Z;split at Z
  ·rename_i c' d' cd' sl' ho
   intro U S T s' k q;unfold isType loadHead;exact HK (wpAny_loadPart (k _ _ (X _ _ ho)) (HV q))
  ·cases Z
 ne:=fun h tp dd its n R X Y=>by
  have Z:=c.cd;refine Bool.eq_false_iff.mpr fun q=>?_;have e:C=tp:=Value.ref.inj (Lu.mp q);subst e;unfold Mm at Z;split at Z
  ·rename_i c' d' cd' sl' ho
   have z:=(X _ _ ho).symm.trans Y;cases z
  ·cases Z
 ca:=fun X ⟨_,_,I⟩ k=>wJ c X I k
end
end S7
namespace S7
open PySem PySem.Spec PyProof.Rows L2 S3
def yE(e T C:cq)(od:Option cq)(fl:a_)(h:fc):Prop:=
 ∃oe vs oT ts,h.get? e=ar oe/\oe.cls= .ref C/\oe.dict=od/\oe.data= .fields vs/\vs[1]? =ar (.ref T)/\T≠e/\h.get? T=ar oT/\oT.data= .fields ts/\ts[3]? =ar fl
structure Step(fs:List cq)(e T:cq)(h h':fc):Prop where
 keep:∀b o,h.get? b=ar o->b≠e->b≠T->b∉fs->h'.get? b=ar o
 slot:∀b o,h.get? b=ar o->b≠e->b≠T->∃sl,h'.get? b=ar {o with slots:=sl}
 size:h.objs.size<=h'.objs.size
section
variable {M:L8}{A:g_}{E:a_->c_->Prop}{s:c_}{base:fc}{env:Env}{outer:List Env}{L e T C:cq}{od:Option cq}{fl:a_}{Q:Unit->c_->Prop}
theorem nD(o:Obj)(f:Array a_->Array a_):(xy f o).dict=o.dict:=by
 obtain⟨c,d,Z,Y⟩:=o;cases Z<;>rfl
theorem entry(H:A.frames=ar (env::outer))(G:s.heap.FunFrames base (env::outer))(y:env.frame=ar L)
  (F:s.heap.get? e=ar oe) (w:oe.cls= .ref C) (B:oe.dict=od) (K:oe.data= .fields vs) (P:1<vs.size)
  (h:∀h' T',yE e T' C od (kS L) h'->s.heap.objs.size<=T'->Step (iR (env::outer)) e e s.heap h'->Q () {s with heap:=h'}):
  ed M A (do let a<-frameOf env;let N<-entryPlaceOf L hadNext;let b<-EntryCells.newEntry head a .none (kS L) .none N;setField (.ref e) 1 b) Q E s:=by
 have U:e∉iR (env::outer):=fun hm=>by obtain⟨_,o,q,J⟩:=G.mem hm;rw[F]at q;cases q;exact J vs K
 refine HK (wpAny_frameOf_fun H G y fun Y Z=>HK (wpAny_entryPlaceOf fun N W=>?_));unfold EntryCells.newEntry newFields;refine HK (Jb (?_ :ed _ _ _ _ _ _) (W.sizeOk5 _ _ _ _ _));have X:Y.get? e=ar oe:=(Z.2.1 e U).trans F;have S:=HM (h:=Y) {cls:=.type "traceback",dict:=none,data:=.fields ([head,.ref L,.none,kS L,.none]++(if N.isEmpty then dV 6 hh else N)).toArray} X;have O:Y.objs.size≠e:=JS (HS X);have R:=JE K (·.setIfInBounds 1 (e_ Y.objs.size));refine KP S K P (h _ Y.objs.size ⟨_,_,_,_,JH _ S (Kk R),?_,?_,R,by simp[P],O,(IJ _ _ (i' O)).trans (Ia Y rfl),rfl,?_⟩ (JI Z.1.symm) ⟨fun b o q I _ v=>?_,fun b o q I _=>?_,?_⟩)
 ·rw[Obj.cls_mapFields];exact w
 ·rw[nD];exact B
 ·first|(simp;done)|(rcases W with rfl|⟨_,_,_,_,_,_,_,rfl⟩<;>simp)
 ·rw[IJ _ _ (i' I)];exact HM _ ((Z.2.1 b v).trans q)
 ·obtain⟨z,x⟩:=Z.2.2 b o q;exact⟨z,by rw[IJ _ _ (i' I)];exact HM _ x⟩
 ·rw[JC,Ji,Z.1];exact J9 _
theorem um(Z:A.frames=ar (env::outer))(R:s.heap.FunFrames base (env::outer))(Y:env.frame=ar L)
  (X:s.heap.get? e=ar oe) (P:oe.cls= .ref C) (S:oe.dict=od) (U:oe.data= .fields vs) (W:vs[1]? =ar .none)
  (h:∀h' T',yE e T' C od (kS L) h'->s.heap.objs.size<=T'->Step (iR (env::outer)) e e s.heap h'->Q () {s with heap:=h'}):ed M A (E2 (.ref e) env) Q E s:=by
 unfold E2;simp only[Y];refine HK (IR X U W ?_);rw[if_neg (by decide)]
 exact entry Z R Y X P S U (Jo.mp W).1 h
theorem pC(O:A.frames=ar (env::outer))(G:s.heap.FunFrames base (env::outer))(H:env.frame=ar L)(F:yE e T C od .none s.heap)
  (h:∀h' X,yE e X C od (kS L) h'->s.heap.objs.size<=X->Step (iR (env::outer)) e T s.heap h'->Q () {s with heap:=h'}):ed M A (E2 (.ref e) env) Q E s:=by
 obtain⟨t,vs,u,I,he,v,x,hd,K,S,P,Z,J⟩:=F;have W:3<I.size:=(Jo.mp J).1;unfold E2;simp only[H];refine HK (IR he hd K ?_);rw[if_pos (show(e_ T !=hh)=b_ from by simp)]
 refine HK (IR P Z J ?_);rw[if_neg (show ¬ ((hh==kS L)=b_)from by simp[kS])]
 refine HK (KP P Z W ?_);have other:∀b,b≠T->(s.heap.update T (xy (·.setIfInBounds 3 hh))).get? b=s.heap.get? b:=fun b B=>IJ _ _ (i' B);have R:(s.heap.update T (xy (·.setIfInBounds 3 hh))).FunFrames base (env::outer):=G.of_keeps fun b o q U=>⟨o,(other b fun z=>by rw[z,P]at q;cases q;exact U I Z).trans q,rfl⟩
 refine entry (s:={s with heap:=s.heap.update T (xy (·.setIfInBounds 3 hh))}) O R H ((other e (i' S)).trans he) v x hd (Jo.mp K).1 fun h' X w l st=>h h' X w ?_ ⟨fun b o q Y N y=>st.keep b o ((other b N).trans q) Y Y y,fun b o q Y N=>st.slot b o ((other b N).trans q) Y Y,?_⟩
 ·have:=l;rwa [JC]at this
 ·have:=st.size;rwa [JC]at this
theorem gk(F:yE e T C od fl s.heap)(h:∀h',yE e T C od .none h'->Step [] e T s.heap h'->Q () {s with heap:=h'}):ed M A (setFlight (.ref e) none) Q E s:=by
 obtain⟨N,vs,I,J,he,K,R,hd,U,X,S,Z,P⟩:=F;have Y:3<J.size:=(Jo.mp P).1;refine wpAny_setFlight_none he hd U S Z Y (h _ ⟨N,vs,_,_,(IJ _ _ X).trans he,K,R,hd,U,X,JH _ S (Kk (JE Z _)),JE Z _,by simp[Y]⟩
  ⟨fun b o q O W _=>(IJ _ _ (i' W)).trans q,fun b o q O W=>⟨o.slots,(IJ _ _ (i' W)).trans q⟩,?_⟩)
 rw[JC];exact HN _
theorem sf(U:A.frames=ar (env::outer))(P:s.heap.FunFrames base (env::outer))(K:env.frame=ar L)
  (J:s.heap.get? e=ar oe) (G:oe.cls= .ref C) (R:oe.dict=od) (O:oe.data= .fields vs) (I:vs[1]? =ar .none)
  (h:∀h' X,yE e X C od .none h'->s.heap.objs.size<=X->Step (iR (env::outer)) e e s.heap h'->Q () {s with heap:=h'}):ed M A (EA env (.ref e)) Q E s:=by
 unfold EA;refine HK (um U P K J G R O I fun h' X F l st=>gk (s:={s with heap:=h'}) F fun W S Z=>h W X S l ⟨fun b o q Y z B=>?_,fun b o q Y z=>?_,HX st.size Z.size⟩)
 ·exact Z.keep b o (st.keep b o q Y Y B) Y (Ih (HZ (HS q) l)) (by simp)
 ·obtain⟨N,H⟩:=st.slot b o q Y Y;exact⟨N,Z.keep b _ H Y (Ih (HZ (HS q) l)) (by simp)⟩
theorem uo(U:A.frames=ar (env::outer))(P:s.heap.FunFrames base (env::outer))(N:env.frame=ar L)(F:yE e T C od .none s.heap)
  (h:∀h' X,yE e X C od .none h'->s.heap.objs.size<=X->Step (iR (env::outer)) e T s.heap h'->Q () {s with heap:=h'}):ed M A (EA env (.ref e)) Q E s:=by
 unfold EA;refine HK (pC U P N F fun h' X F l st=>gk (s:={s with heap:=h'}) F fun W R Z=>h W X R l ⟨fun b o q Y S J=>?_,fun b o q Y S=>?_,HX st.size Z.size⟩)
 ·exact Z.keep b o (st.keep b o q Y S J) Y (Ih (HZ (HS q) l)) (by simp)
 ·obtain⟨O,K⟩:=st.slot b o q Y S;exact⟨O,Z.keep b _ K Y (Ih (HZ (HS q) l)) (by simp)⟩
end
def kX(P:eb)(w:ee):xk:=fun outer H s E x s'=>
 ∃(e T C:cq) (od:Option cq) (H':Hp),x= .ref e/\s'.os=s.os/\sh s'.gens/\Un (iR outer) [] H H' s.heap s'.heap/\fK P w H' s'.heap/\yE e T C od .none s'.heap/\
  H' e=none/\H' T=none/\s.heap.get? e=none/\s.heap.get? T=none/\E (.ref C) od H'
theorem wK{X:Cx}:mW (kX X.prog X.w) X E0:=fun _ _ _ _ _ _ _ ⟨_,_,_,_,_,_,_,_,_,_,_,_,_,_,_,h⟩=>h.elim
theorem gm{h:fc}(q:h.get? b=ar o)(n:h.get? e=none):b≠e:=fun z=>by rw[z,n]at q;cases q
theorem Un.fly(u:Un fs [] H H' h h1)(S:Step fs e T h1 h2)(W:h.get? e=none)(U:h.get? T=none):Un fs [] H H' h h2 where
 keep:=fun b o q n hf Y=>S.keep b o (u.keep b o q n hf Y) (gm q W) (gm q U) hf
 slot:=fun b o q n hf Y=>by
  obtain⟨P,X⟩:=u.slot b o q n hf Y;obtain⟨Z,R⟩:=S.slot b _ X (gm q W) (gm q U);exact⟨Z,R⟩
 free:=u.free
 there:=fun b o q Y=>by
  obtain⟨Q,X⟩:=u.there b o q Y;obtain⟨Z,R⟩:=S.slot b _ X (gm q W) (gm q U);exact⟨_,R⟩
 tups:=u.tups
 frzs:=u.frzs
 tbls:=u.tbls
theorem fK.fly{H:Hp}(S:fK P w H h1)(W:Step fs e T h1 h2)(X:H e=none)(U:H T=none)(Y:∀b∈fs,H b=none):fK P w H h2:=fun a o q=>by
 have k:∀b u,H b≠none->h1.get? b=ar u->h2.get? b=ar u:=fun b u n q=>W.keep b u q (fun z=>n (by rw[z];exact X)) (fun z=>n (by rw[z];exact U)) fun z=>n (Y b z)
 refine(S a o q).stay (fun b u Z=>k b u ?_) (fun _ z=>z) fun _ _ z=>z;rcases Z with rfl|Z
 ·rw[q];simp
 ·rw[Z];simp
section
theorem sg(l:List Env)(x:cq)(env:Env)(h:env.frame=ar x):iR (env::l)=x::iR l:=by
 unfold iR;rw[JQ,h]
theorem bx.there(x:bx P w H h a o):∃Z,h.get? a=ar Z:=by
 cases o with
 |lst xs=>obtain⟨_,_,_,_,e⟩:=x;exact⟨_,e⟩
 |tup xs=>obtain⟨_,_,_,Z,e,_⟩:=x;exact⟨_,e⟩
 |dK kvs=>obtain⟨_,_,_,_,o,_,_,e,_⟩:=x;exact⟨_,e⟩
 |dT kvs=>obtain⟨_,_,_,_,o,_,_,e,_⟩:=x;exact⟨_,e⟩
 |set S n=>obtain⟨o,_,_,_,e,_⟩:=x;exact⟨_,e⟩
 |ins C dx fs=>obtain⟨_,_,_,e,_⟩:=x;exact⟨_,e⟩
 |own y=>exact x
 |xd fs=>obtain⟨_,⟨_,_,_,e,_⟩,_⟩:=x;exact⟨_,e⟩
 |rng lo hi=>obtain⟨_,_,_,e⟩:=x;exact⟨_,e⟩
 |frz Z u=>obtain⟨e,_⟩:=x;exact⟨_,e⟩
 |tbl ps=>exact⟨_,(show h.get? a=ar _ from x)⟩
 |met f y=>exact⟨_,(show h.get? a=ar _ from x)⟩
 |ext φ=>exact x.2.1
theorem fK.gone{H:Hp}(x:fK P w H h)(e:h.get? a=none):H a=none:=by
 cases q:H a with
 |none=>rfl
 |some o=>
  obtain⟨Z,e2⟩:=bx.there (x a o q);rw[e]at e2;cases e2
theorem Un.gone(u:Un fs ex H H' h h')(Z:a∉ex)(e:h'.get? a=none):h.get? a=none:=by
 cases q:h.get? a with
 |none=>rfl
 |some o=>
  obtain⟨Y,e2⟩:=u.there a o q Z;rw[e]at e2;cases e2
end
abbrev Cx.hand(X:Cx)(e:a_):Cx:={X with A:=X.A.mark (ar e),calm:=dr,xe:=fun _ _=>False}
section
variable {X:Cx}{pins:List (cq×Obj)}{σ:L2.St}{H H':Hp}{s:c_}{x:a_}
theorem Inv.hand(I:Inv X pins σ H s)(e:a_):Inv (Cx.hand X e) pins σ H s:=
 ⟨⟨I.ok.mod,I.ok.kind,I.ok.glob,I.ok.blt,I.ok.above,I.ok.inj,I.ok.has,I.ok.cab,(fun z=>Bool.noConfusion z),I.ok.frames,I.ok.stk,I.ok.exf,I.ok.bs,I.ok.bsz,I.ok.noex,I.ok.exfs,I.ok.funs,I.ok.frf⟩,
  I.os,I.bare,I.base,I.loc,I.cell,I.free,I.freeC,I.pin,I.hok,I.len⟩
theorem Inv.unhand(Z:X.Ok)(I:Inv (Cx.hand X x) pins σ H s):Inv X pins σ H s:=⟨Z,I.os,I.bare,I.base,I.loc,I.cell,I.free,I.freeC,I.pin,I.hok,I.len⟩
theorem Inv.local{Z:L2.St}(I:Inv X pins σ H s)(hs:ri X.env.locals s.heap h')(R:h'.Ns X.env.locals m')(U:Z.length=X.N.length)
  (S:∀(i:Nat) (y:Str) (v:V),X.N[i]? =ar y->Z[i]? =ar (ar v)->BQ X.env.scope y->∃u,RelV v u/\Look X.env h' m' y u):Inv X pins Z H {s with heap:=h',toks:=t'}:=by
 have ne:∀b o,X.s₀.heap.get? b=ar o->b≠X.env.locals:=fun b o e=>Ih (HZ (HS e) I.ok.above);refine⟨I.ok,I.os,I.bare,⟨fun b o e n T W=>(hs.2 b (ne b o e)).trans (I.base.keep b o e n T W),fun b o e n T W=>?_,I.base.free,fun b o e W=>?_,I.base.tups,I.base.frzs,I.base.tbls⟩,⟨m',R,S⟩,fun y c e=>?_,I.free,I.freeC,fun p P=>?_,fun a o e=>?_,U⟩
 ·obtain⟨Q,e1⟩:=I.base.slot b o e n T W;exact⟨Q,(hs.2 b (ne b o e)).trans e1⟩
 ·obtain⟨O,e1⟩:=I.base.there b o e W;exact⟨O,(hs.2 b (ne b o e)).trans e1⟩
 ·obtain⟨v,z⟩:=I.cell y c e;exact⟨v,z.sameBut hs (I.cne y c e)⟩
 ·obtain⟨e,n,nl,r⟩:=I.pin p P;exact⟨(hs.2 p.1 nl).trans e,n,nl,r⟩
 ·refine(I.hok a o e).stay (fun c L Y q=>(hs.2 c ?_).trans q) (fun _ q=>q) fun _ _ q=>q;rintro rfl;rcases Y with Y|Y
  ·subst Y;rw[I.free]at e;cases e
  ·rw[I.free]at Y;cases Y
theorem AU{M:L8}{A:g_}{E:a_->c_->Prop}{i:Nat}{y:Str}{pos:Pos}{Q:Unit->c_->Prop}(I:Inv X pins σ H s)(U:X.N.Nodup)(P:X.N[i]? =ar y)(W:X.env.scope.names.lookup y=ar .local)
  (h:∀s',Inv X pins (σ.set i none) H s'->Q () s'):ed M A (do bindName X.env y .none;unbindBehindTheSuite X.env y pos) Q E s:=by
 obtain⟨m,S,T⟩:=id I.loc;refine wpAny_nameGoes_keeps W S (by rw[I.ok.kind];rfl) fun h' v Z hs=>h _ (Inv.local I hs Z (by rw[JW];exact I.len) fun j z R e1 e2 O=>?_)
 have Y:j≠i:=by
  rintro rfl;by_cases hlt:j<σ.length
  ·rw[IF hlt]at e2;cases e2
  ·rw[Jd (by rw[JW];omega)]at e2;cases e2
 rw[IQ (i' Y)]at e2;obtain⟨u,r,q⟩:=T j z R e1 e2 O;refine⟨u,r,?_⟩;rcases q with⟨k,e⟩|⟨k,c,e,q⟩
 ·refine .inl ⟨k,?_⟩;have:z≠y:=fun e=>Y (mQ U e1 (e ▸ P));simp[this,e]
 ·exact .inr ⟨k,c,e,q.sameBut hs (I.cne z c e)⟩
end
theorem Un.track{Z:Hp}(u:Un fs [] H Z h h')(X:Z e=none)(W:h.get? e=none):Un fs [] H (upd Z e o) h h' where
 keep:=u.keep
 slot:=u.slot
 free:=fun b Y q n T=>by rw[aJ (gm q W)];exact u.free b Y q n T
 there:=u.there
 tups:=fun b xs q=>by have:=u.tups b xs q;rw[aJ (aM this X)];exact this
 frzs:=fun b Y x q=>by have:=u.frzs b Y x q;rw[aJ (aM this X)];exact this
 tbls:=fun b U q=>by
  obtain⟨more,this⟩:=u.tbls b U q;exact⟨more,by rw[aJ (aM this X)];exact this⟩
theorem fK.track{H:Hp}(X:fK P w H h)(Y:H e=none)(Z:bx P w (upd H e o) h e o):fK P w (upd H e o) h:=fun b u q=>by
 by_cases hb:b=e
 ·subst hb;rw[bg]at q;cases q;exact Z
 ·rw[aJ hb]at q;exact(X b u q).stay (fun c v _ q=>q) (fun c q=>by rw[aJ (aM q Y)];exact q) fun c xs q=>by rw[aJ (aM q Y)];exact q
theorem AV(F:yE e T C od fl h):bx P w H h e (.ext (mr C e od)):=by
 obtain⟨Z,vs,W,U,he,X,Y,hd,_⟩:=F;refine⟨⟨Z,vs,he,X,Y,hd⟩,⟨Z,he⟩,?_⟩;rintro h1 h2 ⟨Z,vs,he,r⟩ k;exact⟨Z,vs,k _ he,r⟩
structure LamOk(P:eb)(w:ee)(K:dn)(mg:Str->Option a_)(base:fc)(k:Nat)(f:cq)(sp:Hp->VK->XK->Prop):Prop where
 fn:∃o fd,base.get? f=ar o/\o.data= .func fd
 run:∀(A:g_) (outer:List Env) (s:c_) (H:Hp) (Q:VK) (E:XK),Room k A->aB P w K mg base A outer s H->sp H Q E->y4 (eK P w) A (.call (.ref f) ⟨[],[]⟩) (CR (kX P w) outer P w H s Q E) s
section
variable {X:Cx}{k i jn jy:Nat}{f CW:cq}{sp:Hp->VK->XK->Prop}{x c n y:Str}{p cpos epos np p1 p2 p3 hpos tpos:Pos}
theorem wL(E:X.stack=X.env::X.outer)(d1:X.env.frame=ar X.env.locals)(L:LamOk X.prog X.w X.K X.mg X.base k f sp)(hr:Room k X.A)(hN:X.N.Nodup)(hi:X.N[i]? =ar x)(hv:BQ X.env.scope x)
  (S:X.N[jn]? =ar n) (b5:X.N[jy]? =ar y) (R:X.env.scope.names.lookup n=ar .local) (a3:X.env.scope.names.lookup y=ar .local) (hg:Gl X c) (hm:X.mg c=ar (.ref CW))
  (hd:(x==("__debug__":Str))=false:=by decide) (c7:(x==("__classdict__":Str))=false:=by decide) (b6:(c==("__debug__":Str))=false:=by decide) (d0:(n==("__debug__":Str))=false:=by decide) (j:(n==("__classdict__":Str))=false:=by decide)
  (c2:j3 (.Call (.Name x p) [] [] cpos) none epos.line X.env=aC false:=by rfl) (m:j3 (.Name n p2) (ar (.Name y p1)) p3.line X.env=aC false:=by rfl):
  PS X (.Try [.Expr (.Call (.Name x p) [] [] cpos) epos] [.ExceptHandler (ar (.Name c np)) (ar n) [.Assign [.Name y p1] (.Name n p2) p3] hpos] [] [] tpos)
   (fun D σ H=>σ[i]? =ar (ar (.ref f))/\sp H (fun _ Y=>D.nx σ Y) (fun cls od Y=>∃C,cls= .ref C/\L_ X.K (.ref C) (.ref CW)=ar b_/\∀e,Y e=none->D.nx (((σ.set jn (ar (.ref e))).set jy (ar (.ref e))).set jn none) (upd Y e (.ext (mr C e od))))):=by
 intro pins s σ H D I ⟨hσ,hsp⟩;refine wpAny_Try_except (K5 (wpAny_Expr_any ?_ I.quiet c2));refine JD (I0 (tI (X:=X.nox) hi hv hd c7 pins s σ H (fun v Y=>v= .ref f/\Y=H) (I.wish _) ⟨_,hσ,rfl,rfl⟩) (fun u s1 b4=>?_) fun _ _ z=>g8 z);obtain⟨v,Y,Q,r1,ev,eH⟩:=b4;subst ev eH;obtain rfl:u=e_ f:=r1;have Q:=Q.unwish;obtain⟨o,fd,ho,a0⟩:=L.fn;refine callWith_meth0 a0 (Q.bk f o ho) (Li (Kf (L.run X.A X.stack s1 Y _ _ hr Q.env0 hsp) fun r s' U=>?_));cases r with
 | ok fl=>
  cases fl with
  |ret u=>
   obtain⟨v,H2,I2,_,q⟩:=Q.after U;exact JG (JG ⟨σ,H2,I2,q⟩)
  |next=>exact g8 U
  |brk=>exact g8 U
  |cont=>exact g8 U
 | error ev=>
  obtain⟨e,T,C',od,Z,rfl,os,bare,un,B,F,ne,nT,le,lT,C,eC,hx,hD⟩:=U;cases eC;have I2:L2.Inv X pins σ Z s':=Q.call' (ch:=[]) os un B bare (fun b z=>absurd z (by simp))
  have c1:∀b∈iR X.stack,Z b=none:=I2.stkFree;refine pC (base:=X.base) (outer:=X.outer) (by rw[I2.ok.frames,E]) (by rw[<-E];exact I2.stack) d1 F fun h1 T1 F1 l1 G=>?_
  rw[<-E]at G;have b1:Z T1=none:=B.fresh l1;refine gk (s:={s' with heap:=h1}) F1 fun J F2 a5=>?_;have g:s1.heap.get? T1=none:=Un.gone un (by simp) (Jf l1)
  have l:fK X.prog X.w Z h1:=fK.fly B G ne nT c1;have P:fK X.prog X.w Z J:=fK.fly l a5 ne b1 (fun b z=>absurd z (by simp))
  have c4:Un (iR X.stack) [] Y Z s1.heap h1:=Un.fly un G le lT;have O:∀{h a:fc} {e T:cq},Step [] e T h a->Step (iR X.stack) e T h a:=fun st=>⟨fun b o q n1 n2 _=>st.keep b o q n1 n2 (by simp),st.slot,st.size⟩
  have d:Un (iR X.stack) [] Y Z s1.heap J:=Un.fly c4 (O a5) le g;have I3:L2.Inv X pins σ Z {s' with heap:=J}:=Q.call' (s':={s' with heap:=J}) (ch:=[]) os d P bare (fun b z=>absurd z (by simp))
  refine wpAny_handleBy_cons (codeAny_handlers_test (j8 (X:=Cx.hand X (.ref e)) (Inv.hand I3 _) hg hm ?_ b6)) (by intro q;cases q)
  have LT:W.Looks (eK X.prog X.w) J (typeOf (.ref e)) (.ref C'):=by
   obtain⟨oe,vs,oT,ts,he,hc,_⟩:=F2;exact hc ▸ (W.Looks.ld he).andThen .now
  refine(W.exm_one (h:=J) I3.kIn LT hx).at ?_;refine codeAny_handlers_suite_as (gk (s:={s' with heap:=J}) F2 fun h3 F3 t=>?_);have a4:fK X.prog X.w Z h3:=fK.fly P t ne b1 (fun b z=>absurd z (by simp))
  have b3:Un (iR X.stack) [] Y Z s1.heap h3:=Un.fly d (O t) le g;have I4:L2.Inv X pins σ (upd Z e (.ext (mr C' e od))) {s' with heap:=h3}:=
   Q.call' (s':={s' with heap:=h3}) (ch:=[]) os (Un.track b3 ne le) (fK.track a4 ne (AV F3)) bare (fun b z=>absurd z (by simp))
  refine mR (X:=X) I4 hN S (.inl R) (v:=.ref e) rfl (fun s5 I5=>?_) (.inr R);have hl:jn<σ.length:=by rw[I.len];exact(HQ.mp S).1
  have ps:=uM (xw (X:=Cx.hand X (.ref e)) (pos:=p3) (pos':=p1) hN b5 (.inl a3) (tI (X:=Cx.hand X (.ref e)) (pos:=p2) S (.inl R) d0 j) m (.inr a3));refine I0 (ps pins s5 _ _ {nx:=fun a6 H6=>a6=(σ.set jn (ar (.ref e))).set jy (ar (.ref e))/\H6=upd Z e (.ext (mr C' e od)),rt:=fun _ _=>False} (Inv.hand I5 _) ⟨.ref e,by rw[IF hl],rfl,rfl⟩) (fun fl s6 U=>?_) fun _ _ z=>g8 z
  cases fl with
  |next=>
   obtain⟨a6,H6,I6,e1,e2⟩:=U;subst e1 e2;exact AU (Inv.unhand I.ok I6) hN S R fun s7 I7=>⟨_,_,I7,hD e ne⟩
  |ret u=>obtain⟨_,_,_,_,_,z⟩:=U;exact g8 z
  |brk=>obtain⟨_,_,_,z⟩:=U;exact g8 z
  |cont=>obtain⟨_,_,_,z⟩:=U;exact g8 z
end
structure BaseL(K:dn)(mg:Str->Option a_)(base:fc):Prop where
 bm:∃bm ob,mg "__builtins__"=ar (.ref bm)/\bm≠p_/\base.get? bm=ar ob/\ob.cls= .type "module"/\ob.dict=ar p_/\ob.data= .plain
 cd:∀x∈bX,∀c P,j1 K x=ar (c,P)->B_ base c P
def qC(K:dn):Prop:=∀x∈bX,∀y∈bX,∀c d P,j1 K x=ar (c,P)->j1 K y=ar (d,P)->x=y
theorem uq(l:List a_)(h:LW l)(e:y2 pos (l++[kS a,kS b,c])=ar v):y2 pos l=ar v\/v=c:=by
 fun_induction LW l with
 |case1=>
  have Z:(if a==(pos.line:Int) && b==(pos.col:Int)then ar c else none)=ar v:=e;split at Z
  ·exact .inr (Il Z).symm
  ·cases Z
 |case2 a' t b' u x rest ih=>
  simp only[List.cons_append,y2]at e⊢;split at e
  ·next hq=>rw[if_pos hq];exact .inl e
  ·next hq=>rw[if_neg hq];exact ih h e
 |case3 l h1 h2=>exact h.elim
section
variable {X:Cx}{pins:List (cq×Obj)}{σ:L2.St}{H:Hp}{s:c_}{x ql:Str}{c P:cq}{params:EW}{body:Expr}{scope:Scope}{pos:Pos}{clos:List (Str×cq)}{Q:a_->c_->Prop}{E:a_->c_->Prop}{A:g_}
theorem Du(hx:x∈bX)(ht:j1 X.K x=ar (c,P))(J:X.env.code= .ref c)(hq:X.env.qual++"<lambda>"=ql)(g:ql=x++".<locals>.<lambda>")(B:BaseL X.K X.mg X.base)(TI:qC X.K)(a5:LJ scope X.env=aC clos)
  (a4:defaultsOf params X.env=([],[])) (I:L2.Inv X pins σ H s) (T:TabsOk X.K H)
  (h:∀f Z Y pm H1 s1,L2.Inv X pins σ H1 s1->s.heap.objs.size<=f->s1.heap.get? f=ar (r_ "<lambda>" ql params body scope clos pm Z Y)->H1 f=none->H1 Z=ar (.ext (oG ql Z))->
   (∀a o,H a=ar o->(∀G,o≠ .tbl G)->H1 a=ar o)->(∀a,H a=none->H1 a≠none->s.heap.objs.size<=a)->TabsOk X.K H1->Q (.ref f) s1):
  ed (eK X.prog X.w) A (gd (.Lambda params body scope pos) X.env) Q E s:=by
 refine W.kla_eval a4 ?_;rw[hq];obtain⟨G,O,hT,hA⟩:=T x hx c P ht;have C:B_ s.heap c P:=(B.cd x hx c P ht).keeps I.bk;have oP:s.heap.get? P=ar (rA G):=I.hok P _ O;have hg:s.heap.Ns er X.mg:=I.mod.glob.keeps I.bk;have U:∀b,H b=none->b≠P:=fun b n z=>by rw[z,O]at n;cases n
 have gP:er≠P:=by
  obtain⟨o,es,ep,e,_⟩:=I.mod.glob;exact U _ (I.bs _ _ e).2
 have hb:s.heap.BuiltinsAt X.mg P:=by
  obtain⟨bm,ob,b1,b2,b3,b4,b5,b6⟩:=B.bm;refine⟨bm,ob,b1,b2,fun z=>?_,U _ (I.bs _ _ b3).2,I.bk _ _ b3,b4,b5,b6⟩;obtain⟨o,es,ep,e,hd,_⟩:=I.mod.glob;rw[z,e]at b3;cases b3;rw[hd]at b6;cases b6
 cases hn:y2 pos G.toList with
 |some cv=>
  obtain⟨Z,rfl,l⟩:=hA pos cv hn;rw[<-g]at l;refine W.kla_makeFunctionHit a5 I.ok.glob hg J C oP hT hn hb fun Y h' tk hk i=>?_;have S:∀b o,s.heap.get? b=ar o->(h'.push {cls:=.type "function",data:=.func (L' "<lambda>" ql params body scope clos ((X.mg "__name__").getD .none) (.ref Z) Y)}).get? b=ar o:=fun b o e=>HM _ (hk b o e);exact h _ Z Y _ H _ (I.kept (t':=tk) S) i (Ia _ rfl) (I.hok.fresh i) l (fun a o e _=>e) (fun a n z=>absurd n z) T
 | none=>
  refine W.kla_makeFunction a5 I.ok.glob hg J C oP hT hn gP hb fun Z Y h' tk hX N v m c4=>?_;have nc:H Z=none:=I.hok.fresh N;have cP:P≠Z:=fun z=>by rw[<-z,O]at nc;cases nc
  have S:∀b o,b≠P->s.heap.get? b=ar o->(h'.push (r_ "<lambda>" ql params body scope clos ((X.mg "__name__").getD .none) Z Y)).get? b=ar o:=fun b o n e=>HM _ (hX b o n e);have a3:(h'.push (r_ "<lambda>" ql params body scope clos ((X.mg "__name__").getD .none) Z Y)).get? P=ar (rA (G++ #[kS pos.line,kS pos.col,.ref Z])):=HM _ c4;have old:∀a o,H a=ar o->a≠P->upd (upd H P (.tbl (G++ #[kS pos.line,kS pos.col,.ref Z]))) Z (.ext (oG ql Z)) a=ar o:=fun a o e n=>by rw[aJ (aM e nc),aJ n];exact e
  have a0:∀b o,s.heap.get? b=ar o->b≠Z:=fun b o e=>Ih (HZ (HS e) N);have un:Un X.fs [] H (upd (upd H P (.tbl (G++ #[kS pos.line,kS pos.col,.ref Z]))) Z (.ext (oG ql Z))) s.heap (h'.push (r_ "<lambda>" ql params body scope clos ((X.mg "__name__").getD .none) Z Y)):=
   ⟨fun b o e n _ _=>S b o (U b n) e,fun b o e n _ _=>⟨o.slots,S b o (U b n) e⟩,fun b o e n _=>by rw[aJ (a0 b o e),aJ (U b n)];exact n,fun b o e _=>(by
    by_cases z:b=P
    ·subst z;exact⟨_,a3⟩
    ·exact⟨o,S b o z e⟩),fun b xs e=>old b _ e (fun z=>by rw[z,O]at e;cases e),fun b o u e=>old b _ e (fun z=>by rw[z,O]at e;cases e),fun b qs e=>(by
    by_cases z:b=P
    ·subst z;rw[O]at e;cases e;exact⟨_,by rw[aJ cP,bg]⟩
    ·exact⟨#[],by rw[old b _ e z];simp⟩)⟩
  have L:oG ql Z (h'.push (r_ "<lambda>" ql params body scope clos ((X.mg "__name__").getD .none) Z Y)):=by
   obtain⟨F,j,vs,t,e1,e2,r⟩:=m;exact⟨F,j,vs,t,e1,HM _ e2,r⟩
  have d0:fK X.prog X.w (upd (upd H P (.tbl (G++ #[kS pos.line,kS pos.col,.ref Z]))) Z (.ext (oG ql Z))) (h'.push (r_ "<lambda>" ql params body scope clos ((X.mg "__name__").getD .none) Z Y)):=by
   intro a o e;by_cases za:a=Z
   ·subst za;rw[bg]at e;cases e;refine⟨L,?_,?_⟩
    ·obtain⟨F,j,vs,t,e1,e2,_⟩:=L;cases e1;exact⟨j,e2⟩
    ·rintro h1 h2 ⟨F,j,vs,t,e1,e2,r⟩ k;cases e1;exact⟨a,j,vs,t,rfl,k _ e2,r⟩
   ·rw[aJ za]at e;by_cases zP:a=P
    ·subst zP;rw[bg]at e;cases e;exact a3
    ·rw[aJ zP]at e;refine(I.hok a o e).stay (fun b u R q=>S b u ?_ q) (fun b q=>old b _ q (fun z=>by rw[z,O]at q;cases q)) fun b xs q=>old b _ q (fun z=>by rw[z,O]at q;cases q)
     rintro rfl;rcases R with R|R
     ·exact zP R.symm
     ·rw[O]at R;cases R
  refine h _ Z Y _ _ _ (I.un (t':=tk) un d0) (HX N (Jy v)) (Ia _ rfl) ?_ bg (fun a o e n=>old a o e (fun z=>by rw[z,O]at e;cases e;exact n _ rfl)) (fun a n z=>?_) fun y hy d P' e=>?_
  ·have:H h'.objs.size=none:=I.hok.fresh (HX N (Jy v));rw[aJ (i' (Ih v)),aJ (U _ this)];exact this
  ·by_cases za:a=Z
   ·rw[za];exact N
   ·rw[aJ za,aJ (U a n)]at z;exact absurd n z
  ·by_cases zP:P'=P
   ·subst zP;obtain rfl:y=x:=TI y hy x hx d c P' e ht;refine⟨_,by rw[aJ cP,bg],?_,fun p cv q=>?_⟩
    ·have:=TriplesOk_snoc pos.line pos.col (.ref Z) G.toList hT;simpa using this
    ·have q':y2 p (G.toList++[kS pos.line,kS pos.col,.ref Z])=ar cv:=by simpa using q
     rcases uq _ hT q' with q2|q2
     ·obtain⟨F,e1,e2⟩:=hA p cv q2;exact⟨F,e1,old _ _ e2 (fun z=>by rw[z,O]at e2;cases e2)⟩
     ·exact⟨Z,q2,by rw[<-g];exact bg⟩
   ·obtain⟨qs,g1,g2,g3⟩:=T y hy d P' e;exact⟨qs,old _ _ g1 zP,g2,fun p cv q=>let ⟨F,e1,e2⟩:=g3 p cv q;⟨F,e1,old _ _ e2 (fun z=>by rw[z,O]at e2;cases e2)⟩⟩
end
def G0(K:dn)(ι:List cq)(H:Hp)(x:D)(cls:a_)(od:Option cq):Prop:=
 ∃n ds C,x= .exc n ds/\nC K er n=ar (ar (.ref C))/\cls= .ref C/\
  ((od=none/\ds=[])\/∃dx fs,od=ar dx/\H dx=ar (.xd fs)/\fs.map (·.1)=([("many":Str),("most":Str)]:List Str)/\RelDs K ι H ds (fs.map (·.2)))
def xp(K:dn)(Ek:XK):XD:=fun x ι _ H=>∀cls od,G0 K ι H x cls od->Ek cls od H
def yF(K:dn)(F:List D->M D):Sp:=fun vs H Q Ek=>∃ ι S ds,Rep K ι H S/\RelDs K ι H ds vs/\cont K (xp K Ek) (F ds) ι S H (kR K Q)
theorem yG{K:dn}{E U:XD}{α:Type}{c:M α}{X:List cq}{S:ay}{H:Hp}{Q:α->List cq->ay->Hp->Prop}(h:cont K E c X S H Q)(k:∀x ι' Z H',E x ι' Z H'->U x ι' Z H'):cont K U c X S H Q:=by
 obtain⟨r,Z,e,q⟩:=h;refine⟨r,Z,e,fun Y T x1 rep1=>?_⟩;have:=q Y T x1 rep1;cases r with
 |ok a=>exact this
 |ex x=>exact k x _ _ _ this
def jU{α:Type}(c:M α):M α:=fun S=>match c S with
 |some (.ok a,S')=>ar (.ok a,S')
 |_=>none
theorem lB{K:dn}{E:XD}{α:Type}{c:M α}{Z:List cq}{S:ay}{H:Hp}{Q:α->List cq->ay->Hp->Prop}(h:cont K E (jU c) Z S H Q):cont K ey c Z S H Q:=by
 obtain⟨r,X,e,q⟩:=h;unfold jU at e;cases z:c S with
 |none=>rw[z]at e;cases e
 |some p=>
  obtain⟨Y,S1⟩:=p;rw[z]at e;cases Y with
  |ok a=>cases e;exact⟨_,_,z,q⟩
  |ex x=>cases e
section
variable {X:Cx}{E:XD}
theorem mH{m:TM}(h:SE X ey e m):SE X E e (fun ρ=>jU (m ρ)):=PE.imp h fun _ _ _ ⟨ι,S,ρ,rep,re,c⟩=>⟨ι,S,ρ,rep,re,lB c⟩
theorem AW{Z:mu}{m:cM}(h:SS X ey Z m):SS X E Z (fun ρ=>jU (m ρ)):=PS.imp h fun _ _ _ ⟨ι,S,ρ,rep,re,c⟩=>⟨ι,S,ρ,rep,re,lB c⟩
theorem si{Z:List mu}{m:cM}(h:rK X ey Z m):rK X E Z (fun ρ=>jU (m ρ)):=oz.imp h fun _ _ _ ⟨ι,S,ρ,rep,re,c⟩=>⟨ι,S,ρ,rep,re,lB c⟩
theorem qD{Z:List mu}{m:cM}(h:rK X.nox ey Z m):rK X ey Z m:=oz.nox h
end
structure Leaves(X:Cx)(Ek:XK):Prop where
 st:X.stack=X.env::X.outer
 fm:X.env.frame=ar X.env.locals
 ex:X.ex=[]
 xe:∀e s',ed (eK X.prog X.w) X.A (EA X.env e) (fun _ s''=>kX X.prog X.w X.outer X.H₀ X.s₀ Ek e s'') (fun e' s''=>kX X.prog X.w X.outer X.H₀ X.s₀ Ek e' s'') s'->X.xe e s'
 ow:D' (eK X.prog X.w) X.A X.env X.xe
section
variable {X:Cx}{Ek:XK}
theorem Leaves.pass(L:Leaves X Ek):mW (kX X.prog X.w) X Ek:=by
 rintro pins σ H s x s' I ⟨e,T,C,od,H',rfl,os,bare,un,hok,F,ne,nT,le,lT,hE⟩;have W:L2.Inv X pins σ H' s':=I.call' (ch:=[]) os un hok bare (fun b z=>absurd z (by simp))
 refine L.xe _ _ (uo (base:=X.base) (outer:=X.outer) (by rw[W.ok.frames,L.st]) (by rw[<-L.st];exact W.stack) L.fm F fun h' P Q l st=>?_)
 rw[<-L.st]at st;have Y:fK X.prog X.w H' h':=fK.fly hok st ne nT W.stkFree;have S:Un (iR X.stack) [] H H' s.heap h':=Un.fly un st le lT;have U:L2.Inv X pins σ H' {s' with heap:=h'}:=I.call' (s':={s' with heap:=h'}) (ch:=[]) os S Y bare (fun b z=>absurd z (by simp))
 have R:=U.base;have h0:=I.base;have Z:=W.base;rw[L.ex]at R h0 Z;exact⟨e,P,C,od,H',rfl,U.os,U.bare,R,U.hok,Q,ne,hok.fresh l,Un.gone h0 (by simp) le,Un.gone Z (by simp) (Jf l),hE⟩
theorem Leaves.new{H:Hp}(L:Leaves X Ek)
  (I:L2.Inv X pins σ H s') (G:s'.heap.get? e=ar oe) (B:oe.cls= .ref C) (J:oe.dict=od) (O:oe.data= .fields vs) (K:vs[1]? =ar .none) (S:H e=none) (hs:X.s₀.heap.get? e=none) (E:Ek (.ref C) od H):X.xe (.ref e) s':=by
 refine L.xe _ _ (sf (base:=X.base) (outer:=X.outer) (by rw[I.ok.frames,L.st]) (by rw[<-L.st];exact I.stack) L.fm G B J O K fun h' N F l st=>?_)
 have P:∀b∈iR (X.env::X.outer),H b=none:=by rw[<-L.st];exact I.stkFree
 have U:fK X.prog X.w H h':=fK.fly I.hok st S S P;have Z:=I.base;rw[L.ex]at Z;have T:∀b o,X.s₀.heap.get? b=ar o->b∉iR X.outer->b∉iR (X.env::X.outer):=fun b o q n z=>by
  rw[sg X.outer X.env.locals _ L.fm]at z;rcases Ig.mp z with z|z
  ·exact absurd (HS q) (by rw[z];exact Ls.mpr I.ok.above)
  ·exact n z
 have ne:∀b o,X.s₀.heap.get? b=ar o->b≠e:=fun b o q=>gm q hs;refine⟨e,N,C,od,H,rfl,I.os,I.bare,⟨fun b o q n hf Y=>?_,fun b o q n hf Y=>?_,Z.free,fun b o q Y=>?_,Z.tups,Z.frzs,Z.tbls⟩,U,F,S,I.hok.fresh l,hs,Un.gone Z (by simp) (Jf l),E⟩
 ·exact st.keep b o (Z.keep b o q n hf Y) (ne b o q) (ne b o q) (T b o q hf)
 ·obtain⟨y,Q⟩:=Z.slot b o q n hf Y;obtain⟨W,R⟩:=st.slot b _ Q (ne b o q) (ne b o q);exact⟨W,R⟩
 ·obtain⟨A,Q⟩:=Z.there b o q Y;obtain⟨W,R⟩:=st.slot b _ Q (ne b o q) (ne b o q);exact⟨_,R⟩
theorem cG{P:eb}{w:ee}{K:dn}{Z:Str->Option a_}{base:fc}{N:List Str}{qual:Str}{scope:Scope}{f:cq}{Y:a_}{A:g_}{outer:List Env}{s₀:c_}{H₀:Hp}:
  Leaves (jL (kX P w) P w K Z base N qual scope f Y A outer s₀ H₀ Ek) Ek:=⟨rfl,rfl,rfl,fun _ _ h=>h,PassesOwn.leaving⟩
end
structure DefX(P:eb)(w:ee)(K:dn)(mg:Str->Option a_)(base:fc)(k:Nat)(x:Str)(ps:List Str)(F:List D->M D):Prop where
 ex:∃f fd,FnOk P w K mg base (kX P w) k f fd ps (yF K F)/\mg x=ar (.ref f)/\u3 K (.ref f)=b_/\Binds K fd ps []
section
variable {P:eb}{w:ee}{K:dn}{mg:Str->Option a_}{base:fc}
theorem Dv{x qual:Str}{U:mu}{f:cq}{E:fb}{N X:List Str}{k:Nat}{m:cM}(F:Fun K x qual U f E)(z:FnScope N X (aw U))
  (O:∀(Z:a_) (A:g_) (outer:List Env) (s:c_) (H:Hp) (Y:XK),Room k (A.deeper (u4 qual (aw U) s.heap.objs.size f Z))->H_ K Z qual=b_->(∃G od R kV doc pm an ct,K.lookup f=ar ⟨G,od,.func (wd x qual (gi U) (dH U) (aw U) .none kV doc pm an Z ct),R⟩)->
   rK (jL (kX P w) P w K mg base N qual (aw U) f Z A outer s H Y) (xp K Y) (dH U) m):FnOk P w K mg base (kX P w) (k+1) f E X (yF K (ou N.length X.length m)):=by
 have key:∀{vs:List V} {H:Hp} {Q:VK} {Y:XK},yF K (ou N.length X.length m) vs H Q Y->vs.length=X.length/\∃T S ds,Rep K T H S/\RelDs K T H ds vs/\cont K (xp K Y) (do let o<-m (ds.map ar++dV (N.length - X.length) none);outD o) T S H (kR K Q):=by
  rintro vs H Q Y ⟨T,S,ds,rep,r,c⟩;unfold ou at c;by_cases L:ds.length=X.length
  ·rw[if_pos L]at c;exact⟨by rw[<-r.length];exact L,T,S,ds,rep,r,c⟩
  ·rw[if_neg L]at c;exact(ah c).elim
 obtain⟨G,od,kV,doc,pm,an,Z,ct,R,rfl,C,J⟩:=F.ex;refine BU C J z (fun vs H Q Y h=>(key h).1) fun A outer s H vs Q Y v h=>⟨_,O Z A outer s H Y v J ⟨G,od,R,kV,doc,pm,an,ct,C⟩,?_⟩;obtain⟨L,T,S,ds,rep,r,c⟩:=key h;refine⟨T,S,_,rep,?_,av (ai c) fun o y S1 u e1 rep1 I=>?_⟩
 ·have:=RelE.start r (N.length - X.length);unfold L2.start;rw[L];exact this
 ·cases o with
  |nx ρ=>exact fun B _=>ag I .refl rep1 _ .non
  |ret d=>exact ag I .refl rep1
  |bk ρ=>exact(ah I).elim
  |ct ρ=>exact(ah I).elim
end
section
variable {X:Cx}{Ek:XK}{e:Expr}{es:List Expr}{pos:Pos}{ms:aB->M (List D)}
theorem ft(d:DefX X.prog X.w X.K X.mg X.base k x ps F)(L:Room k X.A)(P:mW (kX X.prog X.w) X Ek)(U:SA X (xp X.K Ek) (e::es) ms)(B:Gl X x:=by rfl)
  (W:(x==("__debug__":Str))=false:=by decide) (N:dt (e::es) X.env=(dr,gd e X.env)::dt es X.env:=by rfl) (Y:(n_ pos (dt es X.env)).any (·.1)=false:=by rfl):
  SE X (xp X.K Ek) (.Call (.Name x p) (e::es) [] pos) (az F ms):=by
 obtain⟨f,fd,G,hm,R,J⟩:=d.ex;refine PE.imp (uO G L B hm R J (.nil) (E:=Ek) P U W N Y) fun σ H Q h=>?_;obtain⟨T,S,ρ,rep,re,c⟩:=h;refine⟨T,S,ρ,rep,re,av (ai c) fun ds Z S1 I e1 rep1 O vs C=>?_⟩;show yF X.K F (vs++[]) I Q Ek;rw[IX];exact⟨Z,S1,ds,rep1,C,O⟩
theorem aN(d:DefX X.prog X.w X.K X.mg X.base k x ps F)(N:Room k X.A)(U:SA X ey (e::es) ms)(C:Gl X x:=by rfl)
  (W:(x==("__debug__":Str))=false:=by decide) (O:dt (e::es) X.env=(dr,gd e X.env)::dt es X.env:=by rfl) (Y:(n_ pos (dt es X.env)).any (·.1)=false:=by rfl):
  SE X ey (.Call (.Name x p) (e::es) [] pos) (az F ms):=by
 obtain⟨f,fd,G,hm,R,L⟩:=d.ex;refine PE.imp (uO G N C hm R L (.nil) (E:=E0) wK U W O Y) fun σ H Q h=>?_;obtain⟨T,S,ρ,rep,re,c⟩:=h;refine⟨T,S,ρ,rep,re,av (ai c) fun ds Z S1 J e1 rep1 P vs I=>?_⟩;show yF X.K F (vs++[]) J Q E0;rw[IX];exact⟨Z,S1,ds,rep1,I,yG P fun _ _ _ _ z=>z.elim⟩
end
def aV:List Str:=["WebError","NoWeb","NoPlace","NoPlaces","NoMap","NoSharing","NoRoot","NoNumber","NotJoined","NoTie","NoText","NoLine","NoDeed","TooGreat"]
def cu(n y:Str):Bool:=n==y||y=="WebError"
abbrev Fg:List Value:=[.type "ValueError",.type "Exception",.type "BaseException",.type "object"]
def yH(K:dn)(n:Str):Bool:=match nC K er n with
 | some (ar (.ref C))=>yC K C && (n=="TooGreat"||L4 K C Fg "ValueError.__new__") && (l4 K (.ref C) (.type "ValueError")==ar b_) && (l4 K (.type "NoneType") (.ref C)==ar dr) &&
  aV.all (fun y=>match nC K er y with
   |some (ar (.ref D))=>l4 K (.ref C) (.ref D)==ar (cu n y) && L_ K (.ref C) (.ref D)==ar (cu n y)
   |_=>dr)
 |_=>dr
def gn(K:dn):Bool:=aV.all (yH K) && l4 K (.type "NoneType") (.type "ValueError")==ar dr
structure ErrAt(K:dn)(n:Str)(C:cq):Prop where
 ns:nC K er n=ar (ar (.ref C))
 ck:ExcC K C
 pl:n="TooGreat"\/L4 K C Fg "ValueError.__new__"=b_
 ve:l4 K (.ref C) (.type "ValueError")=ar b_
 nn:l4 K (.type "NoneType") (.ref C)=ar dr
 sub:∀y∈aV,∃D,nC K er y=ar (ar (.ref D))/\l4 K (.ref C) (.ref D)=ar (cu n y)/\L_ K (.ref C) (.ref D)=ar (cu n y)
theorem lC{K:dn}(h:gn K=b_){n:Str}(S:n∈aV):∃C,ErrAt K n C:=by
 unfold gn at h;rw[IE]at h;have Z:=Ir.mp h.1 n S;unfold yH at Z;split at Z
 ·next C e=>
  simp only[hY,z_,beq_iff_eq,r7]at Z;obtain⟨⟨⟨⟨a1,a2⟩,U⟩,T⟩,X⟩:=Z;refine⟨C,e,.of a1,a2,U,T,fun y Y=>?_⟩;have:=X y Y;split at this
  ·next D eD=>
   simp only[hY,beq_iff_eq]at this;exact⟨D,eD,this.1,this.2⟩
  ·cases this
 ·cases Z
theorem Dw{K:dn}(h:gn K=b_):l4 K (.type "NoneType") (.type "ValueError")=ar false:=by
 unfold gn at h;rw[IE,Lu]at h;exact h.2
theorem AX{K:dn}(X:K.In h)(q:L4 K C Fg "ValueError.__new__"=b_):∃bm N nm qn bs hdct sn sub ab col dd k0 k1 k2 k3 k5 mN,
  h.get? C=ar (excClassObj nm qn C N bs bm hdct sn sub ab col dd k0 k1 k2 k3 k5 "ValueError.__new__")/\h.Ns N mN/\mN "__init__"=none/\OwnTail h Fg bm:=by
 unfold L4 at q;split at q
 case h_2=>cases q
 case h_1 dd cd T ho=>
 split at q
 case h_2=>cases q
 case h_1 C' bm k0 k1 k2 k3 n k5 hm hs=>
 simp only[hY,beq_iff_eq,rB]at q;obtain⟨⟨⟨⟨⟨R,en⟩,Z⟩,S⟩,Y⟩,U⟩:=q;subst R en;rcases cd with⟨nm,bs,mro,ns,qn,hd,sn,sub,ab,col,del⟩;dsimp only at hm Z Y U;subst hm Z;obtain rfl:T= #[k0,k1,k2,k3,ar (.builtin "ValueError.__new__"),k5]:=by rcases T with⟨l⟩;simp only at hs;rw[hs]
 exact⟨bm,ns,nm,qn,bs,hd,sn,sub,ab,col,dd,k0,k1,k2,k3,k5,_,X _ _ ho,.of_isNs (W.isNs_of_in X Y),W.nsMap_none_of_in X Y U,W.tail_of_in X S⟩
section
variable {X:Cx}{Ek:XK}{E:XD}
theorem sj(L:Leaves X Ek)(a:X.calm=b_)(k:gn X.K=b_)(p:x∈aV)(A:x≠"TooGreat")(n:SA X (xp X.K Ek) (e::es) ms)(o:Gl X x:=by rfl)
  (B:(x==("__debug__":Str))=false:=by decide) (v:dt (e::es) X.env=(dr,gd e X.env)::dt es X.env:=by rfl) (G:(n_ cpos (dt es X.env)).any (·.1)=false:=by rfl):
  SS X (xp X.K Ek) (.Raise (ar (.Call (.Name x np) (e::es) [] cpos)) none pos) (fun ρ=>do let ds<-ms ρ;if ds.length<=lim then M.raise (.exc x [])else M.fail):=by
 intro pins s σ H T I h;obtain⟨u,S,ρ,rep,re,c⟩:=h;obtain⟨C,J⟩:=lC k p;have d:=J.pl.resolve_left A;have hm:X.mg x=ar (.ref C):=Ii I.mod.kin I.mod.glob J.ns;obtain⟨bm,N,nm,j,bs,hdct,sn,sub,ab,col,dd,k0,k1,k2,k3,k5,mN,r,i,O,w⟩:=AX I.mod.kin d;refine wpAny_Raise_call_subU (k5:=k5) (k3:=k3) (k2:=k2) (k1:=k1) (k0:=k0) (nm:=nm) (q:=j) (C:=C) (N:=N) (bm:=bm) (bs:=bs) (hdct:=hdct) (sn:=sn) (sub:=sub) (ab:=ab) (col:=col) (dd:=dd) KL (by decide) KL (mN:=mN) (w.hasType PySem.F.excBase_ValueError.hasBase) (I.ok.hd a) (by rw[v];show(dr||(n_ cpos (dt es X.env)).any (·.1))=dr;rw[G];rfl) O (j8 I o hm ⟨rfl,?_⟩ B)
 have Y:=n cpos pins s σ H _ I ⟨u,S,ρ,rep,re,av (ai c) fun ds Z S1 W e1 rep1 R vs Q=>(⟨Z,S1,ds,rep1,Q,R⟩:∃Z S1 ds,Rep X.K Z W S1/\RelDs X.K Z W ds vs/\cont X.K (xp X.K Ek) (if ds.length<=lim then M.raise (.exc x [])else M.fail) Z S1 W _)⟩;rw[v]at Y⊢;refine Calls.evalArgs_plain (I0 Y (fun us s2 P=>?_) fun _ _ z=>z);obtain⟨vs,W,U,b,Z,S1,ds,rep1,Q,R⟩:=P;by_cases hl:ds.length<=lim
 ·rw[if_pos hl]at R;refine⟨rfl,?_,U.bk _ _ r,i.keeps U.bk,w.keeps U.bk,fun h' ea hm=>?_⟩
  ·show us.length<=sizeLine;rw[<-b.length, <-Q.length];exact HX hl fy
  ·obtain⟨t,f,h2,h3⟩:=hm.there;have g:L2.Inv X pins σ W {s2 with heap:=h'}:=U.kept (t':=s2.toks) hm.keeps;have y:=U.base;rw[L.ex]at y;obtain⟨r',S',m,l⟩:=R;cases m;refine L.new g f rfl rfl rfl rfl (fK.gone U.hok hm.new) (Un.gone y (by simp) hm.new) (l Z W .refl rep1 _ _ ⟨x,[],C,rfl,J.ns,rfl,.inl ⟨rfl,rfl⟩⟩)
 ·rw[if_neg hl]at R;exact(ah R).elim
def sk(f:Str->Bool):D->M D
 | .exc n _=>if n∈aV then aC (.bl (f n))else M.fail
 | .non=>aC (.bl dr)
 |_=>M.fail
theorem wM(x:mr C a od h)(R:od=none\/∃dx fs,od=ar dx/\bx P w H h dx (.xd fs)):∃ox odo,u2 h a ox C odo:=by
 obtain⟨Y,vs,e,T,U,hf⟩:=x;have Z:Ma Y=true:=by unfold Ma;rw[hf]
 rcases R with rfl|⟨dx,fs,rfl,h2⟩
 ·exact⟨Y,none,e,T,Z,by rw[U];trivial⟩
 ·obtain⟨S,e2⟩:=bx.there h2;exact⟨Y,ar S,e,T,Z,by rw[U];exact e2⟩
theorem AY{Q:a_->c_->Prop}(I:L2.Inv X pins σ H s)(r:RelD X.K ι H (.exc n ds) v)(U:RelV v u)
  (T:gn X.K=b_) (S:n∈aV) (Y:∀C,ErrAt X.K n C->l4 X.K (.ref C) cv=ar b) (h:∀tk,Q (.bool b) {s with toks:=tk}):ed (eK X.prog X.w) A (call (.builtin "isinstance") [u,cv]) Q Ex s:=by
 obtain⟨C,Z⟩:=lC T S;have fin:∀{a C2:cq} {od:Option cq},nC X.K er n=ar (ar (.ref C2))->v= .ref a->mr C2 a od s.heap->(od=none\/∃dx fs,od=ar dx/\bx X.prog X.w H s.heap dx (.xd fs))->ed (eK X.prog X.w) A (call (.builtin "isinstance") [u,cv]) Q Ex s:=by
  rintro a C2 od e1 rfl ph hd;rw[Z.ns]at e1;cases e1;obtain rfl:u=e_ a:=U;exact IM (yD Z.ck) I.kIn (wM ph hd) (Y C Z) (fun z=>nomatch z) h
 cases r with
 |exc e1 e2=>exact fin e1 rfl (I.hok _ _ e2).1 (.inl rfl)
 |excF e1 e2 e3 e4 e5=>exact fin e1 rfl (I.hok _ _ e2).1 (.inr ⟨_,_,rfl,I.hok _ _ e3⟩)
theorem yI{Q:a_->c_->Prop}(I:L2.Inv X pins σ H s)(Z:l4 X.K (.type "NoneType") cv=ar dr)(h:∀tk,Q (.bool dr) {s with toks:=tk}):
  ed (eK X.prog X.w) A (call (.builtin "isinstance") [.none,cv]) Q Ex s:=IM KS I.kIn k_ Z (fun z=>nomatch z) h
theorem vf{q:Pos}{f:Str->Bool}(o:gn X.K=b_)(F:X.mg "isinstance"=none)(t:SE X E e m)(L:PE X ec (tC vc))(P:∀u,RelV vc u->u=cv)(A:l4 X.K (.type "NoneType") cv=ar dr)
  (w:∀n∈aV,∀C,ErrAt X.K n C->l4 X.K (.ref C) cv=ar (f n)) (z:Gl X "isinstance":=by rfl)
  (hs:dt [e,ec] X.env=[(dr,gd e X.env),(dr,gd ec X.env)]:=by rfl) (Z:dt [ec] X.env=[(dr,gd ec X.env)]:=by rfl):
  SE X E (.Call (.Name "isinstance" p) [e,ec] [] pos) (fun ρ=>do let x<-m ρ;sk f x):=by
 have Y:dj X (.builtin "isinstance") (fun xs H Q=>∃x T d,xs=[x,vc]/\RelD X.K T H d x/\((d= .non/\Q (.bl dr) H)\/∃n ds,d= .exc n ds/\n∈aV/\Q (.bl (f n)) H)):=by
  intro pins s σ H xs us Q I r h;obtain⟨x,T,d,rfl,G,y⟩:=h;obtain⟨u,l,rfl,J,R⟩:=vals2 r;cases P _ R;rcases y with⟨rfl,q⟩|⟨n,ds,rfl,hn',q⟩
  ·cases G.non_inv;cases (show u=hh from J);exact yI I A fun N=>⟨.bl _,H,I.tok N,rfl,q⟩
  ·exact AY I G J o hn' (fun C B=>w n hn' C B) fun N=>⟨.bl _,H,I.tok N,rfl,q⟩
 refine PE.imp (kc Y z F (by decide+kernel) (eS t (eS L lb Z) (by rw[hs,Z])) (by decide) (by decide) (by rw[hs,Z]) (by rw[Z];rfl)) fun σ H Q h=>?_
 obtain⟨T,S,ρ,rep,re,c⟩:=h;refine⟨T,S,ρ,rep,re,av (ai c) fun x O S1 k e1 rep1 U v r=>?_⟩;refine⟨v,O,x,rfl,r,?_⟩;cases x with
 |non=>exact .inl ⟨rfl,ag U .refl rep1 _ (.bl _)⟩
 | exc n ds=>
  dsimp only[sk]at U;by_cases hn':n∈aV
  ·rw[if_pos hn']at U;exact .inr ⟨n,ds,rfl,hn',ag U .refl rep1 _ (.bl _)⟩
  ·rw[if_neg hn']at U;exact(ah U).elim
 |_=>exact(ah U).elim
theorem dN{m:TM}{e:Expr}{y:Str}{p q pos:Pos}(S:gn X.K=b_)(T:y∈aV)(G:Mod X.K X.mg X.base)(R:X.mg "isinstance"=none)(P:SE X E e m)(O:Gl X "isinstance":=by rfl)(Y:Gl X y:=by rfl)(Q:(y==("__debug__":Str))=false:=by decide)
  (hs:dt [e,.Name y q] X.env=[(dr,gd e X.env),(dr,gd (.Name y q) X.env)]:=by rfl) (W:dt [.Name y q] X.env=[(dr,gd (.Name y q) X.env)]:=by rfl):
  SE X E (.Call (.Name "isinstance" p) [e,.Name y q] [] pos) (fun ρ=>do let x<-m ρ;sk (fun n=>cu n y) x):=by
 obtain⟨C,Z⟩:=lC S T;refine vf (q:=q) (vc:=.ref C) (cv:=.ref C) S R P (pW Y (Ii G.kin G.glob Z.ns) rfl Q) (fun u z=>z) Z.nn (fun n N J U=>?_) O hs W;obtain⟨L,e1,e2,_⟩:=U.sub y T;rw[Z.ns]at e1;cases e1;exact e2
theorem AZ(T:gn X.K=b_)(R:X.mg "isinstance"=none)(Z:X.mg "ValueError"=none)(S:SE X E e m)(Q:Gl X "isinstance":=by rfl)(Y:Gl X "ValueError":=by rfl)
  (hs:dt [e,.Name "ValueError" q] X.env=[(dr,gd e X.env),(dr,gd (.Name "ValueError" q) X.env)]:=by rfl) (U:dt [.Name "ValueError" q] X.env=[(dr,gd (.Name "ValueError" q) X.env)]:=by rfl):
  SE X E (.Call (.Name "isinstance" p) [e,.Name "ValueError" q] [] pos) (fun ρ=>do let x<-m ρ;sk (fun _=>b_) x):=
 vf (q:=q) (vc:=.ty "ValueError") (cv:=.type "ValueError") T R S (mC Y Z (by decide+kernel) rfl) (fun u z=>z) (Dw T) (fun n O P W=>W.ve) Q hs U
end
abbrev ja(ql:Str)(scope:Scope)(f c':cq)(cl:List (Str×cq))(s:c_):Env:=W.envX ql scope s.heap.objs.size f (.ref c') cl
def so(P:eb)(w:ee)(K:dn)(mg:Str->Option a_)(base:fc)(N:List Str)(ql:Str)(scope:Scope)(f c':cq)(cl:List (Str×cq))(A:g_)(outer:List Env)(s:c_)(H:Hp)(Ek:XK):Cx where
 prog:=P
 w:=w
 K:=K
 mg:=mg
 base:=base
 A:=A.deeper (ja ql scope f c' cl s)
 N:=N
 s₀:=s
 H₀:=H
 env:=ja ql scope f c' cl s
 outer:=outer
 stack:=ja ql scope f c' cl s::outer
 ex:=[]
 calm:=b_
 fn:=fun _=>dr
 pn:=[]
 xe:=fun e s'=>ed (eK P w) (A.deeper (ja ql scope f c' cl s)) (EA (ja ql scope f c' cl s) e) (fun _ s''=>kX P w outer H s Ek e s'') (fun e' s''=>kX P w outer H s Ek e' s'') s'
section
variable {P:eb}{w:ee}{K:dn}{mg:Str->Option a_}{base:fc}{N:List Str}{ql:Str}{scope:Scope}{f c':cq}{cl:List (Str×cq)}{params:EW}{body:Expr}{pm ctv:a_}
theorem nE:Leaves (so P w K mg base N ql scope f c' cl A outer s H Ek) Ek:=⟨rfl,rfl,rfl,fun _ _ h=>h,PassesOwn.leaving⟩
structure Caps(base:fc)(scope:Scope)(cl:List (Str×cq))(N:List Str)(vs:List V):Prop where
 kind:scope.kind= .function
 nocell:∀y∈scope.names,y.2≠ .cell
 co:scope.isCoroutine=dr
 gen:scope.isGenerator=dr
 inj:∀x y c,cl.lookup x=ar c->cl.lookup y=ar c->x=y
 has:∀x,scope.names.lookup x=ar .free->∃c,cl.lookup x=ar c
 cell:∀x c,cl.lookup x=ar c->∃v,base.IsCell c v
 len:vs.length=N.length
 val:∀(i:Nat) (x:Str) (v:V),N[i]? =ar x->vs[i]? =ar v->scope.names.lookup x=ar .free/\∃c u,cl.lookup x=ar c/\RelV v u/\base.IsCell c (ar u)
def Fh(K:dn)(c':cq)(ql:Str)(ds:List D)(vs:List V)(m:TM):Hp->VK->XK->Prop:=fun H Q Ek=>
 ∃ ι S,Rep K ι H S/\H c'=ar (.ext (oG ql c'))/\RelDs K ι H ds vs/\cont K (xp K Ek) (m (ds.map ar)) ι S H (kR K Q)
theorem fO{h h':fc}(x:h.IsCell c v)(k:∀b o,h.get? b=ar o->h'.get? b=ar o):h'.IsCell c v:=let ⟨o,e,r⟩:=x;⟨o,k _ _ e,r⟩
theorem sr:∀{ds:List D} {vs:List V},RelDs K ι H ds vs->RelE K ι H (ds.map ar) (vs.map ar)
 |_,_,.nil=>.nil
 |_,_,.cons r t=>.cons (fun d z=>by cases z;exact⟨_,rfl,r⟩) (sr t)
theorem Dx(ho:base.get? f=ar (r_ "<lambda>" ql params body scope cl pm c' ctv))(Y:Caps base scope cl N vs)
  (U:LD (L' "<lambda>" ql params body scope cl pm (.ref c') ctv) ⟨[],[]⟩=aC [])
  (T:∀(A:g_) (outer:List Env) (s:c_) (H:Hp) (L:XK),Room k (A.deeper (ja ql scope f c' cl s))->SE (so P w K mg base N ql scope f c' cl A outer s H L) (xp K L) body m):
  LamOk P w K mg base (k+1) f (Fh K c' ql ds vs m):=by
 refine⟨⟨_,_,ho,rfl⟩,fun A outer s H Q L g Z t=>?_⟩;obtain⟨ι,S,rep,j,rd,c⟩:=t;have bk:∀b o,base.get? b=ar o->s.heap.get? b=ar o:=fun b o e=>(Z.bs b o e).1;have C:s.heap.CodeRec (.ref c') ql:=(Z.hok _ _ j).1;refine W.kla_callFunE g.depth (bk _ _ ho) rfl Y.co Y.gen rfl C ?_;rw[U];refine HV (wpAny_newFunctionEnv Y.nocell (fun y hy=>absurd hy (by simp)) (fun h1 d E=>?_) Y.kind)
 have G:∀b o,s.heap.get? b=ar o->h1.get? b=ar o:=fun b o e=>(E.2 b (Ih (HS e))).trans (HM _ e);refine⟨(Z.mod.nolimit.keeps bk).keeps G,?_⟩;show y4 _ _ (.expr body (ja ql scope f c' cl s)) _ _;refine W.kla_codeExpr ?_;have X:∀b:cq,b∉([]:List cq):=fun b z=>by cases z
 have n:∀x,scope.names.lookup x≠ar .cell:=fun x e=>Y.nocell _ (bt e) rfl;have I:L2.Inv (so P w K mg base N ql scope f c' cl A outer s H L) [] (vs.map ar) H {s with heap:=h1,toks:=s.toks+0}:=
  ⟨⟨Z.mod,Y.kind,rfl,rfl,HN _,Y.inj,(fun x R=>by
    rcases R with R|R
    ·exact absurd R (n x)
    ·exact Y.has x R),(fun _ _ z=>Bool.noConfusion z),fun _=>g.hd,Around.frames_deeper Z.frames,.inr ⟨rfl,rfl⟩,fun b z=>absurd z (X b),Z.bs,Z.bsz,fun b _ _=>X b,fun b z=>absurd z (X b),Z.funs,Z.frf⟩,
   rfl,Z.bare,Un.kept G,⟨_,d,fun i x v B F h3=>(by
    have h:vs[i]? =ar v:=by
     rw[IL]at F;cases q:vs[i]? with
     |none=>rw[q]at F;cases F
     |some a=>rw[q]at F;cases F;rfl
    obtain⟨hf,O,u,e1,e2,e3⟩:=Y.val i x v B h;exact⟨u,e2,.inr ⟨.inr hf,O,e1,fO (fO e3 bk) G⟩⟩)⟩,
   (fun x O e=>let ⟨v,z⟩:=Y.cell x O e;⟨v,fO (fO z bk) G⟩),Z.hok.fresh (HN _),(fun x O e=>let ⟨v,o,z,_⟩:=Y.cell x O e;(Z.bs _ _ z).2),
   (fun p hp=>absurd hp (by simp[so])),Z.hok.kept G,by rw[HL];exact Y.len⟩
 refine I0 (T A outer s H L (g.deeper _) [] _ (vs.map ar) H Q I ⟨ι,S,ds.map ar,rep,sr rd,c⟩) (fun u s' l=>?_) fun e s' l=>l;obtain⟨v,H',J,r,q⟩:=l;exact⟨v,H',J.os,J.bare,J.base,J.hok,r,q⟩
end
theorem RelE.unset{K:dn}{Z:List cq}{H:Hp}:∀{ρ:S3.aB} {σ:L2.St} (i:Nat),RelE K Z H ρ σ->RelE K Z H (ρ.set i none) (σ.set i none)
 |_,_,_,.nil=>.nil
 |_,_,0,.cons _ t=>.cons (fun d' z=>by cases z) t
 |_,_,i+1,.cons q t=>.cons q (RelE.unset i t)
def yJ(jn jy:Nat)(c:M D)(ρ:S3.aB):M Out:=fun S=>match c S with
 |some (.ok _,S')=>ar (.ok (.nx ρ),S')
 |some (.ex (.exc n ds),S')=>if n∈aV then ar (.ok (.nx (((ρ.set jn (ar (.exc n ds))).set jy (ar (.exc n ds))).set jn none)),S')else none
 |_=>none
open Classical in
def su(i jn jy:Nat)(f:D)(c:M D):cM:=fun ρ=>if ρ[i]? =ar (ar f)then yJ jn jy c ρ else M.fail
section
variable {X:Cx}{E:XD}{k i jn jy:Nat}{a c':cq}{ql:Str}{ds:List D}{vs:List V}{m:TM}{x n y:Str}{p cpos epos np p1 p2 p3 hpos tpos:Pos}
theorem Dy(s:X.stack=X.env::X.outer)(u:X.env.frame=ar X.env.locals)(L:LamOk X.prog X.w X.K X.mg X.base k a (Fh X.K c' ql ds vs m))(hr:Room k X.A)(hN:X.N.Nodup)(c:gn X.K=b_)(G:Mod X.K X.mg X.base)(hi:X.N[i]? =ar x)(hv:BQ X.env.scope x)
  (O:X.N[jn]? =ar n) (F:X.N[jy]? =ar y) (J:X.env.scope.names.lookup n=ar .local) (o:X.env.scope.names.lookup y=ar .local) (hg:Gl X "WebError")
  (hd:(x==("__debug__":Str))=false:=by decide) (I:(x==("__classdict__":Str))=false:=by decide) (B:(n==("__debug__":Str))=false:=by decide) (P:(n==("__classdict__":Str))=false:=by decide)
  (l:j3 (.Call (.Name x p) [] [] cpos) none epos.line X.env=aC false:=by rfl) (U:j3 (.Name n p2) (ar (.Name y p1)) p3.line X.env=aC false:=by rfl):
  SS X E (.Try [.Expr (.Call (.Name x p) [] [] cpos) epos] [.ExceptHandler (ar (.Name "WebError" np)) (ar n) [.Assign [.Name y p1] (.Name n p2) p3] hpos] [] [] tpos) (su i jn jy (.fn a c' ql ds vs) (m (ds.map ar))):=by
 obtain⟨CW,g⟩:=lC c (show("WebError":Str)∈aV from .head _);refine PS.imp (wL s u L hr hN hi hv O F J o hg (Ii G.kin G.glob g.ns) hd I (by decide) B P l U) fun T σ H h=>?_
 obtain⟨b,S,ρ,rep,re,r,S',e,q⟩:=h;have e:su i jn jy (.fn a c' ql ds vs) (m (ds.map ar)) ρ S=ar (r,S'):=e;unfold su at e;by_cases hρ:ρ[i]? =ar (ar (.fn a c' ql ds vs))
 case neg=>rw[if_neg hρ]at e;cases e
 rw[if_pos hρ]at e;unfold yJ at e;obtain⟨v,e1,rv⟩:=re.get hρ;cases rv with
 | fn hc' rds=>
  refine⟨e1,b,S,rep,hc',rds,?_⟩;cases z:m (ds.map ar) S with
  |none=>rw[z]at e;cases e
  | some pr=>
   obtain⟨r1,S1⟩:=pr;rw[z]at e;cases r1 with
   |ok d=>
    cases e;exact⟨_,_,z,fun Z R x1 rep1 v' _=>q Z R x1 rep1 σ (re.later rep x1)⟩
   | ex xd=>
    cases xd with
    | exc nm es=>
     dsimp only at e;split at e
     case isFalse=>cases e
     case isTrue hnm=>
     cases e;refine⟨_,_,z,fun Z R x1 rep1 cls od rx=>?_⟩;obtain⟨n2,b3,C,e2,W,rfl,t⟩:=rx;cases e2;obtain⟨C2,j⟩:=lC c hnm;have:=j.ns;rw[W]at this;cases this;obtain⟨D2,f1,f2,f3⟩:=j.sub "WebError" (.head _);rw[g.ns]at f1;cases f1;refine⟨C,rfl,by rw[f3];simp[cu],fun Q Y=>?_⟩
     have xe:Ext Z R Z (upd R Q (.ext (mr C Q od))):=fL Y;have f:RelD X.K Z (upd R Q (.ext (mr C Q od))) (.exc nm es) (.ref Q):=by
      rcases t with⟨rfl,rfl⟩|⟨dx,fs,rfl,g1,g2,g3⟩
      ·exact .exc W bg
      ·exact .excF W bg (by rw[aJ (aM g1 Y)];exact g1) g2 (g3.later rep1 xe)
     exact q Z _ (x1.trans xe) (ib rep1 Y) _ (RelE.unset jn ((((re.later rep x1).later rep1 xe).set f jn).set f jy))
    |_=>cases e
end
def ur:List Nat->S3.aB->Option (List D)
 |[],_=>ar []
 |j::r,ρ=>match ρ[j]? with
  |some (ar d)=>(ur r ρ).map (d::·)
  |_=>none
theorem vg{K:dn}{Z:List cq}{H:Hp}{ρ:S3.aB}{Y:L2.St}(X:RelE K Z H ρ Y):∀{js:List Nat} {ds:List D},ur js ρ=ar ds->∃vs,RelDs K Z H ds vs/\vs.length=js.length/\∀(i j:Nat) (v:V),js[i]? =ar j->vs[i]? =ar v->Y[j]? =ar (ar v)
 |[],ds,e=>by
  cases e;exact⟨[],.nil,rfl,fun i j v h=>by simp at h⟩
 | j ::r,ds,e=>by
  unfold ur at e;cases q:ρ[j]? with
  |none=>rw[q]at e;cases e
  | some o=>
   cases o with
   |none=>rw[q]at e;cases e
   | some d=>
    rw[q]at e;cases q2:ur r ρ with
    |none=>rw[q2]at e;cases e
    |some es=>
     rw[q2]at e;cases e;obtain⟨v,S,U⟩:=X.get q;obtain⟨vs,g1,g2,g3⟩:=vg X q2;refine⟨v::vs,.cons U g1,by simp[g2],fun i R T e1 e2=>?_⟩
     cases i with
     |zero=>simp at e1 e2;subst e1 e2;exact S
     |succ i=>exact g3 i R T (by simpa using e1) (by simpa using e2)
structure LamScope(X:Cx)(scope:Scope)(N3:List Str)(js:List Nat):Prop where
 kind:scope.kind= .function
 nocell:∀y∈scope.names,y.2≠ .cell
 co:scope.isCoroutine=dr
 gen:scope.isGenerator=dr
 free:∀y∈scope.names,y.2= .free->X.env.kindOf y.1=ar .cell\/X.env.kindOf y.1=ar .free
 len:js.length=N3.length
 ix:∀(i:Nat) (x:Str) (j:Nat),N3[i]? =ar x->js[i]? =ar j->X.N[j]? =ar x/\scope.names.lookup x=ar .free
def Fi(fs:Scope)(N:List Str)(scope:Scope)(N3:List Str)(js:List Nat):Bool:=
 (scope.kind== .function) && scope.names.all (fun y=>y.2 != .cell) && !scope.isCoroutine && !scope.isGenerator &&
  scope.names.all (fun y=>y.2 != .free||(fs.names.lookup y.1==ar .cell||fs.names.lookup y.1==ar .free)) && (js.length==N3.length) &&
  (N3.zip js).all (fun p=>N[p.2]? ==ar p.1 && scope.names.lookup p.1==ar .free)
theorem Fj{X:Cx}(Z:Scope)(N:List Str)(P:∀x,X.env.kindOf x=Z.names.lookup x)(S:X.N=N)(h:Fi Z N scope N3 js=b_):LamScope X scope N3 js:=by
 unfold Fi at h;simp only[hY,r7,beq_iff_eq,bne_iff_ne,z_,rB]at h;obtain⟨⟨⟨⟨⟨⟨Q,R⟩,O⟩,K⟩,Y⟩,W⟩,L⟩:=h;refine⟨Q,R,O,K,fun y U e=>?_,W,fun i x j e1 e2=>?_⟩
 ·rw[P];exact(Y y U).resolve_left fun z=>z e
 ·have T:(N3.zip js)[i]? =ar (x,j):=JM.mpr ⟨e1,e2⟩;have:=L _ (IC T);rw[S];exact this
def yK(K:dn)(R:D->M D->List D->M D)(a c':cq)(ql:Str)(ds:List D)(vs:List V)(m:TM):Sp:=fun us H Q _=>
 ∃ ι S rest es,us= .ref a::rest/\Rep K ι H S/\H c'=ar (.ext (oG ql c'))/\RelDs K ι H ds vs/\RelDs K ι H es rest/\cont K ey (R (.fn a c' ql ds vs) (m (ds.map ar)) es) ι S H (kR K Q)
structure RefX(P:eb)(w:ee)(K:dn)(mg:Str->Option a_)(k k0:Nat)(x:Str)(ps:List Str)(R:D->M D->List D->M D):Prop where
 ex:∃fr fd,mg x=ar (.ref fr)/\u3 K (.ref fr)=b_/\Binds K fd ps []/\∀base,Mod K mg base->∀a c' ql ds vs m,LamOk P w K mg base k0 a (Fh K c' ql ds vs m)->FnOk P w K mg base (kX P w) k fr fd ps (yK K R a c' ql ds vs m)
abbrev sv(js:List Nat)(ms:aB->M (List D))(m:TM)(R:M D->List D->M D):TM:=fun ρ=>match ur js ρ with
 |some ds=>(do let es<-ms ρ;R (m (ds.map ar)) es)
 |none=>M.fail
theorem jF{h Z:fc}:∀{l:List Env},h.FunFrames base l->(∀b∈iR l,Z.get? b=none)->h.FunFrames Z l
 |[],_,_=>trivial
 |env::rest,⟨hk,⟨L,o,hf,_,ho,hd⟩,hr⟩,hn=>by
  rw[sg rest L env hf]at hn;exact⟨hk,⟨L,o,hf,hn L (.head _),ho,hd⟩,jF hr fun b Y=>hn b (.tail _ Y)⟩
abbrev jb(X:Cx)(H:Hp)(h:fc):Heap:=W.hideAll (jB h H) (iR X.stack)
theorem jV{X:Cx}{H:Hp}{h:fc}(e:h.get? b=ar o)(n:H b=none)(Z:b∉iR X.stack):(jb X H h).get? b=ar o:=W.hideAll_get _ (j5 e n) Z
section
variable {X:Cx}{pins:List (cq×Obj)}{σ:L2.St}{H:Hp}{s:c_}
theorem kD(I:L2.Inv X pins σ H s):∀b o,X.base.get? b=ar o->(jb X H s.heap).get? b=ar o:=fun b o e=>by
 obtain⟨Y,Z⟩:=I.bs b o e;refine jV Y Z fun z=>?_;have:=(I.stack.mem z).1;rw[e]at this;cases this
theorem gF(I:L2.Inv X pins σ H s):Mod X.K X.mg (jb X H s.heap):=
 ⟨I.mod.kin.keeps (kD I),I.mod.glob.keeps (kD I),let ⟨mb,h1,h2⟩:=I.mod.blt;⟨mb,h1.keeps (kD I),h2⟩,I.mod.nolimit.keeps (kD I)⟩
theorem A0(I:L2.Inv X pins σ H s):L2.aB X.prog X.w X.K X.mg (jb X H s.heap) X.A X.stack s H:=
 ⟨I.ok.frames,gF I,fun b o e=>pV (W.of_hideAll _ e),by rw[W.hideAll_size,kY];exact HN _,jF I.stack fun b Z=>W.hideAll_none _ Z,I.stkFree,I.hok,I.bare⟩
theorem vh(I:L2.Inv X pins σ H s)(Z:∀x,X.fn x=b_)(e:X.env.cells.lookup x=ar c)(h:s.heap.IsCell c v):(jb X H s.heap).IsCell c v:=by
 obtain⟨o,Y,W⟩:=h;refine⟨o,jV Y (I.freeC x c e) fun z=>?_,W⟩;rcases Ig.mp (I.stkSub c z)with z|z
 ·exact I.cne x c e z
 ·obtain⟨_,U,q,_⟩:=I.ok.funs.mem z;exact absurd (HS q) (Ls.mpr (I.ok.cab x c (Z x) e))
end
section
variable {X:Cx}{x xl ql:Str}{k k0:Nat}{ps N3:List Str}{js:List Nat}{R:D->M D->List D->M D}{R':M D->List D->M D}{params:EW}{body:Expr}{scope:Scope}{lpos p pos:Pos}{es:List Expr}{ms:aB->M (List D)}{m:TM}{c P:cq}
theorem yL(d:RefX X.prog X.w X.K X.mg k (k0+1) x ps R)(hR:∀f c es,R f c es=R' c es)(hr:Room k X.A)(b6:∀x,X.fn x=b_)(d0:xl∈bX)(ht:j1 X.K xl=ar (c,P))(a4:X.env.code= .ref c)(hq:X.env.qual++"<lambda>"=ql)(e3:ql=xl++".<locals>.<lambda>")
  (B:BaseL X.K X.mg X.base) (TI:qC X.K) (c1:defaultsOf params X.env=([],[])) (g:LamScope X scope N3 js) (ha:SA X ey es ms)
  (a0:∀(T:cq) (cl:List (Str×cq)) (pm C:a_),LD (L' "<lambda>" ql params body scope cl pm (.ref T) C) ⟨[],[]⟩=aC [])
  (b0:∀(base:fc),Mod X.K X.mg base->∀(f T:cq) (cl:List (Str×cq)) (A:g_) (outer:List Env) (s:c_) (H:Hp) (Ek:XK),Room k0 (A.deeper (ja ql scope f T cl s))->SE (so X.prog X.w X.K X.mg base N3 ql scope f T cl A outer s H Ek) (xp X.K Ek) body m)
  (hg:Gl X x:=by rfl) (e8:(x==("__debug__":Str))=false:=by decide)
  (he:dt (.Lambda params body scope lpos::es) X.env=(dr,gd (.Lambda params body scope lpos) X.env)::dt es X.env:=by rfl) (e6:(n_ pos (dt es X.env)).any (·.1)=false:=by rfl):
  SE X ey (.Call (.Name x p) (.Lambda params body scope lpos::es) [] pos) (sv js ms m R'):=by
 intro pins s σ H Q I h;obtain⟨ι,S,ρ,rep,re,l⟩:=h;obtain⟨fr,fd,hm,hk,hb,F⟩:=d.ex;have l:cont X.K ey (sv js ms m R' ρ) ι S H (kR X.K Q):=l;unfold sv at l;cases hcap:ur js ρ with
 |none=>rw[hcap]at l;exact(ah l).elim
 |some ds=>
 rw[hcap]at l;dsimp only at l;obtain⟨vs,d2,c0,e0⟩:=vg re hcap;have b:∀y∈scope.names,y.2= .free->∃a,X.env.cells.lookup y.1=ar a:=fun y hy e=>I.ok.has y.1 (g.free y hy e);refine JD (j8 I hg hm ?_ e8);refine W.callWith_K (h₀:=X.base) I.ok.mod.kin hk (spliced_more (Du d0 ht a4 hq e3 B TI (ki scope X.env b) c1 I rep.tab fun f T C pm H1 s1 I1 b5 c5 e7 b4 J g7 hT=>?_) he) he e6;have x1:Ext ι H ι H1:=⟨⟨[],by simp⟩,fun a o e n t=>⟨J a o e t,n⟩⟩
 have rep1:Rep X.K ι H1 S:=⟨rep.nd,rep.len,fun kk a xs e1 e2=>let ⟨ws,g1,g2⟩:=rep.get kk a xs e1 e2;⟨ws,J _ _ g1 (by intro _ z;cases z),g2.later rep x1⟩,hT⟩
 have e5:L2.Inv X ((f,r_ "<lambda>" ql params body scope (iU X.env.cells scope.names []) pm T C)::pins) σ H1 s1:=I1.pins_of fun q Z=>by
  rcases Ig.mp Z with rfl|Z
  ·exact⟨c5,e7,i' (Ih (HZ I.lt b5)),I.nofs b5,fun v z=>by cases z⟩
  ·exact I1.pin q (Iq _ Z)
 refine di (ha pos _ s1 σ H1 (fun L N=>∃U S2 O,Ext ι H1 U N/\Rep X.K U N S2/\RelDs X.K U N O L/\cont X.K ey (R' (m (ds.map ar)) O) U S2 N (kR X.K Q)) e5 ⟨ι,S,ρ,rep1,re.later rep x1,av (ai (ij l x1)) fun O U S2 N e2 rep2 c2 L r2=>⟨U,S2,O,e2,rep2,r2,c2⟩⟩) fun us s2 d1=>?_;obtain⟨L,N,a3,rv,U,S2,O,x2,rep2,r2,c2⟩:=d1;have E:L2.Inv X pins σ N s2:=a3.pins_of fun q Z=>a3.pin q (Iq _ (.tail _ Z));refine⟨E.kIn,?_⟩;show ed _ _ (call (.ref fr) (.ref f::us)) _ _ _;obtain⟨po,pn,pl,pf,_⟩:=a3.pin (f,_) (Iq _ (.head _));have d3:N T=ar (.ext (oG ql T)):=(x2.oth T _ b4 (rep1.notIn b4 (by intro _ z;cases z)) (by intro _ z;cases z)).1
 have nf:f∉iR X.stack:=fun z=>by
  rcases Ig.mp (E.stkSub f z)with z|z
  ·exact pl z
  ·exact pf z
 have f5:=qd (cells:=X.env.cells) scope.names [] b (fun _ z=>nomatch z);have Y:∀y a,(iU X.env.cells scope.names []).lookup y=ar a->X.env.cells.lookup y=ar a:=fun y a e=>f5 _ (lookup_mem e);have cp:Caps (jb X N s2.heap) scope (iU X.env.cells scope.names []) N3 vs:=by
  refine⟨g.kind,g.nocell,g.co,g.gen,fun y z a e1 e2=>I.ok.inj y z a (Y y a e1) (Y z a e2),fun y e=>mem_lookup (iV scope.names [] (.inl (bt e))),fun y a e=>?_,by rw[c0];exact g.len,fun i y v e1 e2=>?_⟩
  ·obtain⟨v,z⟩:=E.cell y a (Y y a e);exact⟨v,vh E b6 (Y y a e) z⟩
  ·have f3:i<js.length:=by rw[<-c0];exact(HQ.mp e2).1
   obtain⟨j,hj⟩:∃j,js[i]? =ar j:=⟨_,HR f3⟩;obtain⟨g1,g2⟩:=g.ix i y j e1 hj;have hv:=e0 i j v hj e2;have c3:=g.free (y,.free) (bt g2) rfl;have b3:BQ X.env.scope y:=by
    rcases c3 with z|z
    ·exact .inr (.inl z)
    ·exact .inr (.inr z)
   obtain⟨mm,i3,hl⟩:=E.loc;obtain⟨u,ru,lk⟩:=hl j y v g1 hv b3;refine⟨g2,?_⟩;rcases lk with⟨z,_⟩|⟨_,a,ea,hca⟩
   ·have z':X.env.kindOf y=ar .local:=z;rcases c3 with w'|w'
    ·have w2:X.env.kindOf y=ar .cell:=w';rw[z']at w2;cases w2
    ·have w2:X.env.kindOf y=ar .free:=w';rw[z']at w2;cases w2
   ·obtain⟨a2,b1⟩:=mem_lookup (iV (cells:=X.env.cells) scope.names [] (.inl (bt g2)));have:=Y y a2 b1;rw[ea]at this;cases this;exact⟨a,u,b1,ru,vh E b6 ea hca⟩
 have LO:LamOk X.prog X.w X.K X.mg (jb X N s2.heap) (k0+1) f (Fh X.K T ql ds vs m):=Dx (jV po pn nf) cp (a0 T _ pm C) fun A outer s H Ek c6=>b0 _ (gF E) f T _ A outer s H Ek c6;have G:=F (jb X N s2.heap) (gF E) f T ql ds vs m LO;have sp:yK X.K R f T ql ds vs m (.ref f::L) N Q E0:=⟨U,S2,L,O,rfl,rep2,d3,(d2.later rep x1).later rep1 x2,r2,by rw[hR];exact c2⟩
 have hlen:(e_ f::us).length=ps.length:=by
  have:=G.len _ _ _ _ sp;rw[<-this,IH,IH,rv.length]
 refine Li (Kf (G.run X.A X.stack s2 N ⟨.ref f::us,[]⟩ (.ref f::us) (.ref f::L) Q E0 hr (A0 E) (by have:=hb s2 (.ref f::us) E.kIn (by rw[IX];exact hlen);rw[IX]at this;exact this) (.cons rfl rv) sp) fun r s' Z=>?_)
 cases r with
 |error e=>obtain⟨_,_,_,_,_,_,_,_,_,_,_,_,_,_,_,z⟩:=Z;exact g8 z
 |ok fl=>
  cases fl with
  |ret u=>exact E.after Z
  |next=>exact g8 Z
  |brk=>exact g8 Z
  |cont=>exact g8 Z
end
def jc(K:dn):List Addr:=bX.filterMap fun y=>(j1 K y).map (·.2)
theorem wN{K:dn}{y:Str}{c P:cq}(Z:y∈bX)(e:j1 K y=ar (c,P)):P∈jc K:=Jq.mpr ⟨y,Z,by rw[e];rfl⟩
theorem sx{K:dn}{P:cq}(h:P∈jc K):∃y c,y∈bX/\j1 K y=ar (c,P):=by
 obtain⟨y,Z,e⟩:=Jq.mp h;cases q:j1 K y with
 |none=>rw[q]at e;cases e
 |some p=>rw[q]at e;cases e;exact⟨y,p.1,Z,q⟩
theorem A4{K:dn}{mb:Str->Option a_}{sp:Sp}{Z:c_}{vs:List a_}
  (KX:K.In Z.heap) (nt:Mb K=b_) (a6:Z.heap.Ns er mg) (p:Z.heap.Ns p_ mb) (a3:∀x:Str,x≠"__name__"->mb x=i4 x) (E:Z.heap.NoLimit) (hg:Z.gens= #[])
  (a4:∃bm J,mg "__builtins__"=ar (.ref bm)/\bm≠p_/\Z.heap.get? bm=ar J/\J.cls= .type "module"/\J.dict=ar p_/\J.data= .plain)
  (U:∀y∈bX,∀c Q,j1 K y=ar (c,Q)->B_ Z.heap c Q/\Z.heap.get? Q=ar (rA #[]))
  (I:Z.heap.get? a=ar {cls:=.type "list",data:=.seq vs.toArray}) (hi:kT vs ns) (hl:ns.length<=sizeLine) (hr:Room k rn)
  (F:∀base:fc,Mod K mg base->BaseL K mg base->FnOk P w K mg base (kX P w) k fa fd [x] sp) (N:∀(s:c_) (u:a_),w_ s fd ⟨[u],[]⟩ [(x,u)])
  (f:∀H:Hp,TabsOk K H->Ah K H a (ns.map V.int)->sp [.ref a] H (fun v _=>v= .bl b_) fun _ _ _=>False):
  y4 (eK P w) rn (.call (.ref fa) ⟨[.ref a],[]⟩) (fun r s'=>r= .ok (.ret (.bool b_))/\OldK Z.heap s'.heap/\s'.os=Z.os/\sh s'.gens) Z:=by
 have rv:=jr hi;have X:∀Q∈jc K,Z.heap.get? Q=ar (rA #[]):=fun Q hQ=>let ⟨y,c,R,e⟩:=sx hQ;(U y R c Q e).2;have aT:a∉jc K:=fun z=>by
  have:=X a z;rw[I]at this;cases this
 let H:Hp:=fun b=>if b∈jc K then ar (.tbl #[])else if b=a/\K.lookup a=none then ar (.frz {cls:=.type "list",data:=.seq vs.toArray} (.lst (ns.map V.int)))else none;have i:∀b∈jc K,H b=ar (.tbl #[]):=fun b z=>if_pos z;have G:∀b,b∉jc K->H b=if b=a/\K.lookup a=none then ar (.frz {cls:=.type "list",data:=.seq vs.toArray} (.lst (ns.map V.int)))else none:=fun b z=>if_neg z;have free:∀{b:cq} {o:Obj},Z.heap.get? b=ar o->o≠rA #[]->(o.cls≠ .type "list"\/K.lookup b=ar o)->H b=none:=fun{b o} e n1 S=>by
  have z:b∉jc K:=fun z=>by
   have:=X b z;rw[e]at this;exact n1 (Il this)
  rw[G b z,if_neg];rintro⟨rfl,kn⟩;rcases S with S|S
  ·rw[I]at e;cases e;exact S rfl
  ·rw[kn]at S;cases S
 have O:∀{b:cq} {o:Obj},K.lookup b=ar o->o≠rA #[]:=fun{b o} e z=>by
  have j:=Ir.mp nt (b,o) (W.mem_of_lookupK e);subst z;exact absurd (show dr=b_ from j) IT
 have B:fK P w H Z.heap:=fun b u e=>by
  by_cases z:b∈jc K
  ·rw[i b z]at e;cases e;exact X b z
  ·rw[G b z]at e;by_cases q:b=a/\K.lookup a=none
   ·rw[if_pos q]at e;cases e;obtain⟨rfl,_⟩:=q;exact⟨I,by rw[HL];exact hl,vs,_,rv,I⟩
   ·rw[if_neg q]at e;cases e
 have Y:∀{b:cq} {o:Obj},Z.heap.get? b=ar o->o≠rA #[]->(o.cls≠ .type "list"\/K.lookup b=ar o)->(jB Z.heap H).get? b=ar o:=fun e n1 S=>j5 e (free e n1 S);have L:∀{b:cq} {m:Str->Option a_},Z.heap.Ns b m->(jB Z.heap H).Ns b m:=fun{b m} ⟨o,es,ep,e,d,r⟩=>by
  have z:H b=none:=by
   by_cases zt:b∈jc K
   ·have:=X b zt;rw[e]at this;cases this;cases d
   ·rw[G b zt,if_neg];rintro⟨rfl,_⟩;rw[I]at e;cases e;cases d
  exact⟨o,es,ep,j5 e z,d,r⟩
 have n:K.In (jB Z.heap H):=fun b o e=>Y (KX b o e) (O e) (.inr e);have hM:Mod K mg (jB Z.heap H):=⟨n,L a6,⟨mb,L p,a3⟩,let ⟨mc,h1,j⟩:=E;⟨mc,L h1,j⟩⟩;have hB:BaseL K mg (jB Z.heap H):=by
  refine⟨?_,fun y R c Q e=>?_⟩
  ·obtain⟨bm,J,b1,b2,b3,t,b5,b6⟩:=a4;exact⟨bm,J,b1,b2,Y b3 (fun z=>by rw[z]at t;cases t) (.inl (by rw[t];decide)),t,b5,b6⟩
  ·obtain⟨o,v2,file,tf,flags,tg,l,text,tt,e1,A,r⟩:=(U y R c Q e).1;exact⟨o,v2,file,tf,flags,tg,l,text,tt,Y e1 (fun z=>by rw[z]at A;cases A) (.inl (by rw[A];decide)),A,r⟩
 have e0:L2.aB P w K mg (jB Z.heap H) rn [] Z H:=⟨rfl,hM,fun b o e=>pV e,JI (kY _ _),trivial,fun b p=>absurd (show b∈([]:List cq)from p) (by simp),B,.of_eq hg⟩
 have g:TabsOk K H:=fun y R c Q e=>⟨#[],i Q (wN R e),trivial,fun pos cv q=>by cases q⟩
 have C:Ah K H a (ns.map V.int):=by
  cases hk:K.lookup a with
  |some o=>
   have e:=KX a o hk;rw[I]at e;cases e;exact .inr ⟨_,vs.toArray,_,hk,rfl,rfl,rfl,by rw[HW,hi.length];exact hl,by simpa using rv⟩
  |none=>exact .inl ⟨_,by rw[G a aT,if_pos ⟨rfl,hk⟩]⟩
 refine Kf ((F _ hM hB).run rn [] Z H ⟨[.ref a],[]⟩ [.ref a] [.ref a] _ _ hr e0 (N Z (.ref a)) (.cons rfl .nil) (f H g C)) fun r s' h=>?_;cases r with
 |error e=>obtain⟨_,_,_,_,_,_,_,_,_,_,_,_,_,_,_,z⟩:=h;exact g8 z
 | ok fl=>
  cases fl with
  |next=>exact g8 h
  |brk=>exact g8 h
  |cont=>exact g8 h
  | ret u=>
   obtain⟨v,H',os,bare,un,T,r',q⟩:=h;have q':v= .bl true:=q;subst q';obtain rfl:u=l_ true:=r';refine⟨rfl,⟨fun b o e=>?_,fun b o e=>un.there b o e (by simp)⟩,os,bare⟩
   by_cases zt:b∈jc K
   ·obtain⟨y,c,R,et⟩:=sx zt;obtain⟨hc,hP⟩:=U y R c b et;obtain⟨more,em⟩:=un.tbls b _ (i b zt);have o2:s'.heap.get? b=ar {cls:=.none,data:=.fields (#[]++more)}:=T b _ em;rw[hP]at e;cases e;exact .inr (.inl ⟨(hc.tab hP).isCodeTable,rfl, #[],more,rfl,o2⟩)
   ·by_cases qa:b=a/\K.lookup a=none
    ·have z1:H b=ar (.frz {cls:=.type "list",data:=.seq vs.toArray} (.lst (ns.map V.int))):=by rw[G b zt,if_pos qa]
     obtain⟨e2,_⟩:=T b _ (un.frzs b _ _ z1);obtain⟨e1,_⟩:=B b _ z1;rw[e]at e1;cases e1;exact .inl e2
    ·exact .inl (un.keep b o e (by rw[G b zt,if_neg qa]) (by intro z;exact absurd (show b∈([]:List cq)from z) (by simp)) (by simp))
theorem yM{l:LU}{YP:ee->fc->Prop}{d:Md}{K:A1->dn}{sp:ee->Sp}
  (E:l.most=ar n) (N:n<=sizeLine) (O:d.params.defaults=[]) (j:Room k rn)
  (t:∀(w:ee) (h:fc),YP w h->(K w.params).In h) (p:∀w:ee,Mb (K w.params)=b_)
  (U:∀(w:ee) (h:fc),YP w h->∀y∈bX,∀c Q,j1 (K w.params) y=ar (c,Q)->B_ h c Q/\h.get? Q=ar (rA #[]))
  (F:∀(w:ee) (Z:Str->Option a_) (S:cq) (h:fc),(K w.params).In h->h.Ns er Z->Z d.name=ar (.ref S)->
   ∃fd:fb,(∀(s:c_) (u:a_),w_ s fd ⟨[u],[]⟩ [(x,u)])/\
    ∀base:fc,Mod (K w.params) Z base->BaseL (K w.params) Z base->FnOk l.prog w (K w.params) Z base (kX l.prog w) k S fd [x] (sp w))
  (P:∀(w:ee) (H:Hp) (a:cq) (ns:List Int),ns.length<=n->TabsOk (K w.params) H->Ah (K w.params) H a (ns.map V.int)->sp w [.ref a] H (fun v _=>v= .bl b_) fun _ _ _=>False):
  Ml q loose XP YP l.row.toRowW d [] (fun f vs=>PySem.call f vs):=by
 refine Att.attach_call E O fun w s₀ J Z mb S o pm cd doc a vs ns G Y i hd A R X hints hlen z=>?_;have L:=t w _ Y;obtain⟨fd,B,r⟩:=F w Z S _ L G.T.g R;refine A4 L (p w) G.T.g G.T.b G.T.builtins G.T.nolimit z G.T.bmain (fun y I c Q e=>U w _ Y y I c Q e) X hints (HX hlen N) j r B fun H C m=>P w H a ns hlen C m
def Fk(K:dn)(ts:List cq):Bool:=bX.all fun y=>match j1 K y with
 |some (c,Q)=>W.codeHdIn K c Q && ts.contains Q
 |none=>b_
theorem G1{K:A1->dn}{e:∀P,as=(K P).map (·.1)}{w:ee}(X:Fk (K w.params) ts=b_)(Y:(W.kmHook K as e ts).says w h):
  ∀y∈bX,∀c Q,j1 (K w.params) y=ar (c,Q)->B_ h c Q/\h.get? Q=ar (rA #[]):=fun y U c Q Z=>by
 have:=Ir.mp X y U;rw[Z]at this;simp only[hY]at this;exact⟨W.codeHd_of_K (W.km_in_of Y) this.1,W.km_tabs_of Y Q (List.contains_iff_mem.mp this.2)⟩
def B3(K:dn):Bool:=bX.all fun x=>bX.all fun y=>match j1 K x,j1 K y with
 |some (_,P),ar (_,Q)=>P !=Q||x==y
 |_,_=>b_
theorem Dz{K:dn}(h:B3 K=b_):qC K:=fun x Y y Z c d P e1 e2=>by
 have:=Ir.mp (Ir.mp h x Y) y Z;rw[e1,e2]at this;simpa using this
def lU(N n:Nat)(m:cM):List D->M D:=ou N n (fun ρ=>jU (m ρ))
section
variable {P:eb}{w:ee}{K:dn}{mg:Str->Option a_}{base:fc}
theorem cA{x qual:Str}{X:mu}{f:cq}{T:fb}{N U:List Str}{k:Nat}{m:cM}{S:List D->M D}(F:Fun K x qual X f T)(Q:mg x=ar (.ref f))(O:Binds K T U [])(I:FnScope N U (aw X))(R:S=lU N.length U.length m)
  (Y:∀(Z:a_) (A:g_) (outer:List Env) (s:c_) (H:Hp) (E:XK),Room k (A.deeper (u4 qual (aw X) s.heap.objs.size f Z))->
   rK (jL (kX P w) P w K mg base N qual (aw X) f Z A outer s H E).nox ey (dH X) m):DefX P w K mg base (k+1) x U S:=
 ⟨f,T,by rw[R];exact Dv F I fun Z A outer s H L J _ _=>si (qD (Y Z A outer s H L J)),Q,F.kp,O⟩
theorem kE{x qual:Str}{X:mu}{f:cq}{T:fb}{N U:List Str}{k:Nat}{m:cM}{S:List D->M D}(F:Fun K x qual X f T)(Q:mg x=ar (.ref f))(O:Binds K T U [])(I:FnScope N U (aw X))(R:S=ou N.length U.length m)
  (Y:∀(Z:a_) (A:g_) (outer:List Env) (s:c_) (H:Hp) (E:XK),Room k (A.deeper (u4 qual (aw X) s.heap.objs.size f Z))->
   rK (jL (kX P w) P w K mg base N qual (aw X) f Z A outer s H E) (xp K E) (dH X) m):DefX P w K mg base (k+1) x U S:=
 ⟨f,T,by rw[R];exact Dv F I fun Z A outer s H L J _ _=>Y Z A outer s H L J,Q,F.kp,O⟩
theorem A5{x y qual:Str}{f c S:cq}{L:a_}{od:Option cq}{X:Array (Option a_)}{kV U T Y ct O:a_}{J:Option cq}{H:EW}{I:List mu}{Q:Scope}(R:nC K er x=ar (ar (.ref f)))
  (N:K.lookup f=ar ⟨L,od,.func (wd y qual H I Q O kV U T J Y ct),X⟩) (Z:j1 K x=ar (c,S)):Y= .ref c:=by
 unfold j1 at Z;rw[R]at Z;dsimp only at Z;rw[N]at Z;dsimp only at Z;cases Y with
 | ref c2=>
  dsimp only at Z;split at Z
  ·split at Z
   ·cases Z;rfl
   ·cases Z
  ·cases Z
 |_=>cases Z
theorem DA{x qual:Str}{Y:mu}{f:cq}{S:fb}{N X:List Str}{k:Nat}{m:cM}{R:List D->M D}{c Q:cq}(F:Fun K x qual Y f S)(y:FnScope N X (aw Y))(O:R=lU N.length X.length m)(L:nC K er x=ar (ar (.ref f)))(B:j1 K x=ar (c,Q))
  (Z:∀(A:g_) (outer:List Env) (s:c_) (H:Hp) (E:XK),Room k (A.deeper (u4 qual (aw Y) s.heap.objs.size f (.ref c)))->
   rK (jL (kX P w) P w K mg base N qual (aw Y) f (.ref c) A outer s H E).nox ey (dH Y) m):FnOk P w K mg base (kX P w) (k+1) f S X (yF K R):=by
 rw[O];refine Dv F y fun T A outer s H G C _ U=>?_;obtain⟨v,od,J,kV,doc,pm,an,ct,I⟩:=U;have z:T= .ref c:=A5 L I B;subst z;exact si (qD (Z A outer s H G C))
theorem DB{x qual:Str}{B:mu}{f:cq}{v:fb}{N Z:List Str}{k k0:Nat}{m:D->M D->cM}{R:D->M D->List D->M D}(F:Fun K x qual B f v)(q:mg x=ar (.ref f))(n:Binds K v Z [])(j:FnScope N Z (aw B))(t:R=fun J c es=>ou N.length Z.length (m J c) (J::es))
  (T:∀(base:fc),Mod K mg base->∀(a U:cq) (ql:Str) (ds:List D) (vs:List V) (O:TM),LamOk P w K mg base k0 a (Fh K U ql ds vs O)->∀(Y:a_) (A:g_) (outer:List Env) (s:c_) (H:Hp) (E:XK),Room k (A.deeper (u4 qual (aw B) s.heap.objs.size f Y))->
   rK (jL (kX P w) P w K mg base N qual (aw B) f Y A outer s H E).nox ey (dH B) (m (.fn a U ql ds vs) (O (ds.map ar)))):RefX P w K mg (k+1) k0 x Z R:=by
 refine⟨f,v,q,F.kp,n,fun base G a U ql ds vs O L=>?_⟩;rw[t];obtain⟨oc,od,kV,doc,pm,an,Y,ct,p,rfl,g,y⟩:=F.ex;have key:∀{us:List V} {H:Hp} {Q:VK} {C:XK},yK K (fun J c es=>ou N.length Z.length (m J c) (J::es)) a U ql ds vs O us H Q C->us.length=Z.length/\∃X S es,Rep K X H S/\RelDs K X H es us/\cont K ey (do let o<-m (.fn a U ql ds vs) (O (ds.map ar)) (es.map ar++dV (N.length - Z.length) none);outD o) X S H (kR K Q):=by
  rintro us H Q C ⟨X,S,rest,es,rfl,rep,hc',rds,res,c⟩;have u:RelDs K X H (.fn a U ql ds vs::es) (.ref a::rest):=.cons (.fn hc' rds) res;unfold ou at c;dsimp only at c;by_cases I:(D.fn a U ql ds vs::es).length=Z.length
  ·rw[if_pos I]at c;exact⟨by rw[<-u.length];exact I,X,S,_,rep,u,c⟩
  ·rw[if_neg I]at c;exact(ah c).elim
 refine BU g y j (fun us H Q C h=>(key h).1) fun A outer s H us Q C e h=>⟨_,qD (T base G a U ql ds vs O L Y A outer s H C e),?_⟩;obtain⟨I,X,S,es,rep,r,c⟩:=key h;refine⟨X,S,_,rep,?_,av (ai c) fun o i S1 b e1 rep1 z=>?_⟩
 ·have:=RelE.start r (N.length - Z.length);unfold L2.start;rw[I];exact this
 ·cases o with
  |nx ρ=>exact fun l _=>ag z .refl rep1 _ .non
  |ret d=>exact ag z .refl rep1
  |bk ρ=>exact(ah z).elim
  |ct ρ=>exact(ah z).elim
end
end S7
section
namespace S4
open PySem PySem.Spec PyProof.Rows
section
variable {prog:eb}{w:ee}{A:g_}{E:a_->c_->Prop}{s:c_}
end
end S4
namespace S3
open PySem PySem.Spec PyProof.Rows L2 S4
section
variable {X:Cx}{E:XD}{e:Expr}{m:TM}{pos:Pos}
end
end S3
end
namespace S4
open PySem PySem.Spec PyProof.Rows L2 S3
def A6(l1 l2:cq):It:=⟨fun i H=>∃va vb,Rd H l1 (.lst va)/\Rd H l2 (.lst vb)/\i<va.length/\i<vb.length,
 fun i H x H'=>∃va vb p u v,Rd H l1 (.lst va)/\Rd H l2 (.lst vb)/\H p=none/\va[i]? =ar u/\vb[i]? =ar v/\x= .ref p/\H'=upd H p (.tup [u,v]),fun i H=>∃va vb,Rd H l1 (.lst va)/\Rd H l2 (.lst vb)/\(va.length<=i\/vb.length<=i)⟩
theorem wO{P:eb}{w:ee}{K:dn}{B:List Expr}{x1}{tp:Pos}{z TI TO O N l1 l2:cq}(D:LN z TI TO O N l1 l2):
  Turn P w K (.Tuple B x1 tp) (A6 l1 l2) [z,TI,TO,O,N] z
   (fun i h=>y3 h z TI TO .none/\ly h TI (.ref O) (.ref N)/\(∃a b,ly h TO a b)/\h.IsListIter O l1 i/\h.IsListIter N l2 i) where
 mem:=by simp
 obj:=fun i h st b Z=>by
  obtain⟨R,Y,⟨a,c,U⟩,⟨o1,e1,c1,d1⟩,⟨o2,e2,c2,d2⟩⟩:=st;simp only[gg,f_,or_false]at Z;rcases Z with rfl|rfl|rfl|rfl|rfl
  ·exact⟨_,R,fun v z=>by cases z⟩
  ·exact⟨_,Y,fun v z=>by cases z⟩
  ·exact⟨_,U,fun v z=>by cases z⟩
  ·exact⟨_,e1,fun v z=>by rw[d1]at z;cases z⟩
  ·exact⟨_,e2,fun v z=>by rw[d2]at z;cases z⟩
 keep:=fun i h h' st k=>by
  obtain⟨R,Y,⟨a,c,U⟩,G,J⟩:=st;exact⟨k z (by simp) _ R,k TI (by simp) _ Y,⟨a,c,k TO (by simp) _ U⟩,G.at fun o e=>k O (by simp) o e,J.at fun o e=>k N (by simp) o e⟩
 item:=by
  intro X hP hw l hc i pins s σ H E I hf st hg;subst hP hw l;obtain⟨R,Y,⟨a,c,U⟩,G,J⟩:=st;obtain⟨p,t,q,n,ga,gb⟩:=hg;obtain⟨u,L,j,_⟩:=I.list (.inl q);obtain⟨A,Q,p2,_⟩:=I.list (.inl n);obtain⟨u1,b0,f⟩:=L.get (HR ga);obtain⟨d,b6,m⟩:=Q.get (HR gb);refine wpAny_pyNext_zip_item D R Y U G J j.isList p2.isList (x:=u1) (y:=d) (by simpa using b0) (by simpa using b6) fun h' a1 a2 a3 a4 a5 a6 r=>?_
  have b1:H s.heap.objs.size=none:=I.hok.fresh (HN _);have lt:∀{c o},s.heap.get? c=ar o->s.heap.objs.size≠c:=fun e=>JS (HS e);refine⟨_,rfl,KQ a1 fun S b4 T=>?_⟩;have F:ly S TI (.ref O) (.ref N):=T.extBut _ _ D.TIz (r _ _ D.TIz D.TITO D.TIi1 D.TIi2 Y);have kk:∀b o,b∉[z,TI,TO,O,N]->s.heap.get? b=ar o->S.get? b=ar o:=fun b o Z e=>by
   simp only[gg,f_,or_false,not_or]at Z;exact T.extBut _ _ Z.1 (r b o Z.1 Z.2.2.1 Z.2.2.2.1 Z.2.2.2.2 e)
  have C:ly S s.heap.objs.size u1 d:=T.extBut _ _ (lt R) a5;have I2:L2.Inv X pins σ (upd H s.heap.objs.size (.tup [p[i],t[i]])) {s with heap:=S,toks:=s.toks}:=u9 (o:=.tup [p[i],t[i]]) I hf kk (HN _) ⟨⟨by show 2<=sizeLine;decide,_,C,rfl⟩,[u1,d],.cons f (.cons m .nil),_,C,rfl,_,rfl⟩
  refine⟨.ref s.heap.objs.size,_,I2,rfl,
   ⟨p,t,_,_,_,q,n,b1,HR ga,HR gb,rfl,rfl⟩,⟨b4,F,⟨_,_,T.extBut _ _ D.TOz a2⟩,a3.at fun o e=>T.extBut _ _ D.i1z e,a4.at fun o e=>T.extBut _ _ D.i2z e⟩,fun b Z=>?_⟩
  obtain⟨ob,ho,_⟩:∃ob,s.heap.get? b=ar ob/\True:=by
   simp only[gg,f_,or_false]at Z;rcases Z with rfl|rfl|rfl|rfl|rfl
   ·exact⟨_,R,trivial⟩
   ·exact⟨_,Y,trivial⟩
   ·exact⟨_,U,trivial⟩
   ·obtain⟨o,e,_⟩:=G;exact⟨_,e,trivial⟩
   ·obtain⟨o,e,_⟩:=J;exact⟨_,e,trivial⟩
  rw[aJ (Ih (HS ho))];exact(hf b Z).1
 done:=by
  intro X hP hw l hc i pins s σ H E I hf st hg;subst hP hw l;obtain⟨R,Y,⟨a,c,U⟩,G,J⟩:=st;obtain⟨p,t,q,n,gs⟩:=hg;obtain⟨u,L,j,_⟩:=I.list (.inl q);obtain⟨A,Q,p2,_⟩:=I.list (.inl n);have e5:=L.length;have e7:=Q.length;refine wpAny_pyNext_zip_end (I.ok.hd hc) D R Y U G J j.isList p2.isList (gs.imp (fun g=>by simp;omega) fun g=>by simp;omega) fun h' r=>⟨rfl,u7 (t':=s.toks) I hf fun b o Z e=>?_⟩
  simp only[gg,f_,or_false,not_or]at Z;exact r b o Z.1 Z.2.2.1 Z.2.2.2.1 Z.2.2.2.2 e
 self:=fun _ _ _ _ _ st h=>Ko st.1 h
theorem A7{X:Cx}{L:List Expr}{x1}{tp p pos:Pos}{es:List Expr}{e:Expr}{z:TA}(x:Gl X "zip")(y:X.mg "zip"=none)(w:PA X (e::es) z)
  (v:dt (e::es) X.env=(dr,gd e X.env)::dt es X.env:=by rfl) (C:(n_ pos (dt es X.env)).any (·.1)=false:=by rfl):
  PI X (.Tuple L x1 tp) (.Call (.Name "zip" p) (e::es) [] pos) (fun σ H R=>z σ H fun xs Z=>(∃a b va vb,xs=[.ref a,.ref b]/\Rd Z a (.lst va)/\Rd Z b (.lst vb)/\R (A6 a b) Z)\/
   (∃a b va vb,xs=[.ref a,.ref b]/\Z a=ar (.tup va)/\Z b=ar (.tup vb)/\
   R ⟨fun i H=>(xo va vb).go i H/\(H a=ar (.tup va)/\H b=ar (.tup vb)),(xo va vb).yld,fun i H=>(xo va vb).stop i H/\(H a=ar (.tup va)/\H b=ar (.tup vb))⟩ Z)):=by
 intro pins s σ H R I h;refine Call_ (kZ I x y (show i4 "zip"=ar (.type "zip") by decide+kernel) (Jl (di (w pos pins s σ H _ I h) fun us s1 ⟨vs,Z,I1,r1,q1⟩=>?_) v C) (by decide) (by decide))
 have fresh:∀c∈[s1.heap.objs.size+4,s1.heap.objs.size+2,s1.heap.objs.size+3,s1.heap.objs.size,s1.heap.objs.size+1],s1.heap.objs.size<=c:=fun c S=>by
  simp only[gg,f_,or_false]at S;omega
 rcases q1 with⟨a,b,va,vb,rfl,hA,hB,q⟩|⟨a,b,va,vb,rfl,hA,hB,q⟩
 ·obtain⟨u,G,rfl,E,W⟩:=vals2 r1;cases (show u=e_ a from E);cases (show G=e_ b from W);obtain⟨N,A,P,_⟩:=I1.list (.inl hA);obtain⟨J,B,O,_⟩:=I1.list (.inl hB);have a1:a<s1.heap.objs.size:=by obtain⟨_,e,_⟩:=P.isList;exact HS e
  have a2:b<s1.heap.objs.size:=by obtain⟨_,e,_⟩:=O.isList;exact HS e
  refine call_zip_2 P.isList O.isList fun h' K Y Q U T _ F=>Ko K ?_;exact⟨s1.heap.objs.size+4,_,_,_,Z,rfl,I1.kept (t':=s1.toks) F,wO (zipApart_new a1 a2),⟨K,Y,⟨_,_,Q⟩,U,T⟩,fun c S=>I1.fpOk (fresh c S) (I1.hok.fresh (fresh c S)),q⟩
 ·obtain⟨u,G,rfl,E,W⟩:=vals2 r1;cases (show u=e_ a from E);cases (show G=e_ b from W);obtain⟨N,A,P,_⟩:=I1.tuple (.of hA);obtain⟨J,B,O,_⟩:=I1.tuple (.of hB);have a1:a<s1.heap.objs.size:=by obtain⟨_,e,_⟩:=P;exact HS e
  have a2:b<s1.heap.objs.size:=by obtain⟨_,e,_⟩:=O;exact HS e
  refine wH P O fun h' K Y Q U T F=>Ko K ?_;exact⟨s1.heap.objs.size+4,_,_,_,Z,rfl,I1.kept (t':=s1.toks) F,yw (zipApart_new a1 a2) (fun H=>H a=ar (.tup va)/\H b=ar (.tup vb)) (fun _=>.rfl),⟨K,Y,⟨_,_,Q⟩,U,T⟩,fun c S=>I1.fpOk (fresh c S) (I1.hok.fresh (fresh c S)),q⟩
theorem Rd.lst_inj(h:Rd H a (.lst xs))(h':Rd H a (.lst ys)):xs=ys:=by
 rcases h with h|⟨o,h⟩<;>rcases h' with h'|⟨o',h'⟩<;>(rw[h]at h';cases h'<;>rfl)
def zL:D->M (List D×Option (Nat×List D))
 | .lst k=>do let xs<-getL k;aC (xs,ar (k,xs))
 | .fz xs=>aC (xs,none)
 |_=>M.fail
def DC:Option (Nat×List D)->Option (Nat×List D)->Chk
 |some (k,xs),ar (j,ys)=>.two k j xs ys
 |some (k,xs),none=>.two k k xs xs
 |none,ar (j,ys)=>.two j j ys ys
 |none,none=>.none
def yN:List D->M Iter
 |[.tup xs,.tup ys]=>aC ⟨(xs.zip ys).map fun p=>.tup [p.1,p.2],.none⟩
 |[a,b]=>do let x<-zL a;let y<-zL b;aC ⟨(x.1.zip y.1).map fun p=>.tup [p.1,p.2],DC x.2 y.2⟩
 |_=>M.fail
structure ZOk(K:dn)(x:List D×Option (Nat×List D))(a:cq)(ι:List cq)(H:Hp):Prop where
 ok:∀ ι2 H2 S2,ExtN ι H ι2 H2->Rep K ι2 H2 S2->(∀k xs,x.2=ar (k,xs)->S2[k]? =ar xs)->∃va,Rd H2 a (.lst va)/\RelDs K ι2 H2 x.1 va
theorem yO{K:dn}{E:XD}{Y:List cq}{S:ay}{H:Hp}{d:D}{v:V}{α:Type}{f:List D×Option (Nat×List D)->M α}{Q:α->List cq->ay->Hp->Prop}(Z:Rep K Y H S)(r:RelD K Y H d v)(c:cont K E (zL d>>=f) Y S H Q):
  ∃a x U,v= .ref a/\Rd H a (.lst U)/\ZOk K x a Y H/\cont K E (f x) Y S H Q:=by
 cases d with
 | lst k=>
  obtain⟨a,rfl,X⟩:=r.lst_inv;have L:cont K E (getL k>>=fun xs=>aC (xs,ar (k,xs))>>=f) Y S H Q:=by
   rw[<-eM];exact c
  obtain⟨xs,vs,G,O,P,R⟩:=a8 L Z X;rw[ao]at R;refine⟨a,(xs,ar (k,xs)),vs,rfl,.inl O,⟨fun T I S2 e rep2 ok=>?_⟩,R⟩;obtain⟨U,J,N⟩:=rep2.get k a xs (e.at X) (ok k xs rfl);exact⟨U,.inl J,N⟩
 |fz xs=>
  obtain⟨a,o,vs,rfl,X,P⟩:=r.fz_inv;refine⟨a,(xs,none),vs,rfl,.inr ⟨o,X⟩,⟨fun T I S2 e rep2 ok=>?_⟩,ag (ai c) .refl Z⟩;exact⟨vs,.inr ⟨o,(e.oth _ _ X (Z.notIn X (by intro _ z;cases z)) (by intro _ z;cases z) (by intro _ z;cases z)).1⟩,P.laterN Z e⟩
 |_=>exact(ah (ai c)).elim
theorem A8(h:Iter.okS ⟨items,DC x y⟩ S):(∀k xs,x=ar (k,xs)->S[k]? =ar xs)/\∀k xs,y=ar (k,xs)->S[k]? =ar xs:=by
 match x,y,h with
 |some (k,xs),ar (j,ys),h=>exact⟨fun _ _ e=>(by cases e;exact h.1),fun _ _ e=>(by cases e;exact h.2)⟩
 |some (k,xs),none,h=>exact⟨fun _ _ e=>(by cases e;exact h.1),fun _ _ e=>(by cases e)⟩
 |none,ar (j,ys),h=>exact⟨fun _ _ e=>(by cases e),fun _ _ e=>(by cases e;exact h.1)⟩
 |none,none,h=>exact⟨fun _ _ e=>(by cases e),fun _ _ e=>(by cases e)⟩
theorem sy{K:dn}{R:List cq}{H:Hp}{a b:cq}{x y:List D×Option (Nat×List D)}(F:ZOk K x a R H)(G:ZOk K y b R H):
  i6 K ⟨(x.1.zip y.1).map fun p=>.tup [p.1,p.2],DC x.2 y.2⟩ (A6 a b) R H:=by
 intro Z S S2 e rep2 ok i;obtain⟨Q,P⟩:=A8 ok;obtain⟨N,Y,U⟩:=F.ok Z S S2 e rep2 Q;obtain⟨L,X,T⟩:=G.ok Z S S2 e rep2 P;have A:=U.length;have s:=T.length;refine⟨fun d hd=>?_,fun hlen=>?_⟩
 ·obtain⟨o,t,J,I,rfl⟩:=zip_get hd;have r:=(HQ.mp J).1;have q:=(HQ.mp I).1;refine⟨⟨N,L,Y,X,by omega,by omega⟩,?_⟩
  rintro v H3 ⟨va',vb',p,u,B,gA,gB,hp,g1,g2,rfl,rfl⟩;cases Rd.lst_inj Y gA;cases Rd.lst_inj X gB;obtain⟨v1,e1,C⟩:=U.get' J;obtain⟨v2,e2,E⟩:=T.get' I;obtain rfl:v1=u:=Il (e1.symm.trans g1);obtain rfl:v2=B:=Il (e2.symm.trans g2);have O:Ext Z S Z (upd S p (.tup [v1,v2])):=fL hp;exact⟨O,ib rep2 hp,.tup bg (.cons (C.later rep2 O) (.cons (E.later rep2 O) .nil))⟩
 ·have w:min x.1.length y.1.length<=i:=by simpa using hlen
  refine⟨N,L,Y,X,?_⟩;rcases Nat.le_total x.1.length y.1.length with z|z
  ·exact .inl (by omega)
  ·exact .inr (by omega)
theorem vi{X:Cx}{x1}(v:X.mg "zip"=none)(k:SE X E a m)(q:SE X E b n)(o:Gl X "zip":=by rfl)
  (hs:dt [a,b] X.env=[(dr,gd a X.env),(dr,gd b X.env)]:=by rfl) (W:dt [b] X.env=[(dr,gd b X.env)]:=by rfl):
  SI X E (.Tuple elts x1 tp) (.Call (.Name "zip" p) [a,b] [] pos) (fun ρ=>do let ds<-(do let x<-m ρ;let xs<-(do let y<-n ρ;let ys<-aC [];aC (y::ys));aC (x::xs));yN ds):=by
 intro pins s σ H R I h;have F:PI X (.Tuple elts x1 tp) (.Call (.Name "zip" p) [a,b] [] pos) (fun σ H R=>GR X.K E (aa m (aa n ak)) σ H fun xs U=>(∃a b Z Y,xs=[.ref a,.ref b]/\Rd U a (.lst Z)/\Rd U b (.lst Y)/\R (A6 a b) U)\/
   (∃a b Z Y,xs=[.ref a,.ref b]/\U a=ar (.tup Z)/\U b=ar (.tup Y)/\
   R ⟨fun i H=>(xo Z Y).go i H/\(H a=ar (.tup Z)/\H b=ar (.tup Y)),(xo Z Y).yld,fun i H=>(xo Z Y).stop i H/\(H a=ar (.tup Z)/\H b=ar (.tup Y))⟩ U)):=
  A7 o v (af k (af q au (by rw[W];rfl)) (by rw[hs,W])) (by rw[hs,W]) (by rw[W];rfl)
 refine F pins s σ H R I ?_;obtain⟨z,S,ρ,rep,re,c⟩:=h;refine⟨z,S,ρ,rep,re,av (ai c) fun ds j S1 U e1 rep1 T vs r=>?_⟩;unfold yN at T;split at T
 ·next xs ys=>
  obtain⟨v1,ws,rfl,J,N⟩:=r.cons_inv;obtain⟨v2,C,rfl,G,L⟩:=N.cons_inv;cases L.nil_inv;obtain⟨B,Z,rfl,P,u⟩:=J.tup_inv;obtain⟨O,Y,rfl,Q,t⟩:=G.tup_inv;exact .inr ⟨B,O,Z,Y,rfl,P,Q,ag T .refl rep1 _ (uh rep1 P Q u t)⟩
 ·next a b _=>
  obtain⟨v1,ws,rfl,J,N⟩:=r.cons_inv;obtain⟨v2,C,rfl,G,L⟩:=N.cons_inv;cases L.nil_inv;obtain⟨B,x,Z,rfl,P,w,l⟩:=yO rep1 J T;obtain⟨O,y,Y,rfl,Q,A,g⟩:=yO rep1 G l;exact .inl ⟨B,O,Z,Y,rfl,P,Q,ag g .refl rep1 _ (sy w A)⟩
 ·exact(ah T).elim
abbrev sA(m n:TM):aB->M Iter:=fun ρ=>do let ds<-aa m (aa n ak) ρ;yN ds
end S4
namespace S3
open PySem PySem.Spec PyProof.Rows L2 S4
def lD(f:Expr->Option D):List Expr->Option (List D)
 |[]=>ar []
 |e::es=>match f e,lD f es with
  |some d,ar ds=>ar (d::ds)
  |_,_=>none
def litE:Nat->Expr->Option D
 |_,.Constant .none _ _=>ar .non
 |_,.Constant (.bool b) _ _=>ar (.bl b)
 |_,.Constant (.int i) _ _=>ar (.int i)
 |_,.Constant (.str x) _ _=>ar (.str x)
 |_,.UnaryOp .USub (.Constant (.int i) _ _) _=>ar (.int (-i))
 |n+1,.Tuple es _ _=>match lD (litE n) es with
  |some ds=>if ds.length<=100 then ar (.tup ds)else none
  |none=>none
 |_,_=>none
section
variable {X:Cx}{E:XD}
theorem SE.mono{m Z:TM}(h:SE X E e m)(k:∀ ρ S r,Z ρ S=ar r->m ρ S=ar r):SE X E e Z:=PE.imp h fun σ H Q q=>by
 obtain⟨Y,S,ρ,rep,re,r,W,e,c⟩:=q;exact⟨Y,S,ρ,rep,re,r,W,k ρ S _ e,c⟩
theorem yP(h:litE n e=ar d)(es:List Expr)(env:Env):dt (e::es) env=(dr,gd e env)::dt es env:=by
 cases e with
 |Constant c j p=>exact aj
 |UnaryOp o a p=>exact uk
 |Tuple l k p=>exact aU
 |_=>cases n<;>cases h
theorem vj(Z:∀e d,litE n e=ar d->SE X E e (mK d)):∀{es:List Expr} {ds:List D},lD (litE n) es=ar ds->SA X E es (fun _=>aC ds)
 |[],ds,h=>by cases h;exact au
 | e::es,ds,h=>by
  unfold lD at h;cases q:litE n e with
  |none=>rw[q]at h;cases h
  | some d=>
   rw[q]at h;cases q2:lD (litE n) es with
   |none=>rw[q2]at h;cases h
   |some ds'=>
    rw[q2]at h;cases h;exact af (Z e d q) (vj Z q2) (yP q _ _)
theorem DD:∀(n:Nat) (e:Expr) (d:D),litE n e=ar d->SE X E e (mK d):=by
 intro n
 induction n with
 |zero=>
  intro e d h;unfold litE at h;split at h
  ·cases h;exact m9
  ·cases h;exact iK
  ·cases h;exact aq
  ·cases h;exact ic
  ·cases h;exact yy
  ·next h'=>exact absurd h' (by omega)
  ·cases h
 | succ n ih=>
  intro e d h;unfold litE at h;split at h
  ·cases h;exact m9
  ·cases h;exact iK
  ·cases h;exact aq
  ·cases h;exact ic
  ·cases h;exact yy
  ·next m es k p hm=>
   cases hm;cases q:lD (litE n) es with
   |none=>rw[q]at h;cases h
   | some ds=>
    rw[q]at h;simp only at h;split at h
    ·next hl=>
     cases h;refine(dQ (vj ih q)).mono fun ρ S r Z=>?_;have e:(do let ds'<-(aC ds:M (List D));bY ds')=(aC (.tup ds):M D):=by
      show bY ds=_;unfold bY;rw[if_pos (by unfold lim;omega)]
     rw[e];exact Z
    ·cases h
  ·cases h
theorem bK(n:Nat)(h:litE n e=ar d):SE X E e (mK d):=DD n e d h
end
def aE(m:TM)(ms:AQ):AQ:=aa m ms
section
variable {X:Cx}{E:XD}
theorem aK(Y:SE X E e m)(Z:SA X E es ms)(hs:dt (e::es) X.env=(dr,gd e X.env)::dt es X.env):SA X E (e::es) (aE m ms):=af Y Z hs
theorem jv{l p t n}:j3 (.List l p) t n env=aC false:=rfl
theorem du{a o b p t n}:j3 (.BinOp a o b p) t n env=aC false:=rfl
theorem cZ{f l k p t n}:j3 (.Call f l k p) t n env=aC false:=rfl
theorem sC{a b p t n}:j3 (.Constant a b p) t n env=aC false:=rfl
end
end S3
namespace S7
open PySem PySem.Spec PyProof.Rows L2 S3
theorem kF{a b p}:dt (.Attribute a b p::es) env=(dr,gd (.Attribute a b p) env)::dt es env:=rfl
abbrev B4(m:TM):TM:=fun ρ=>jU (m ρ)
abbrev Hi(m:cM):cM:=fun ρ=>jU (m ρ)
abbrev Fl:TM:=fun _=>M.fail
abbrev cO(m:TM)(y:Str):TM:=fun ρ=>do let x<-m ρ;sk (fun n=>cu n y) x
abbrev yQ(m:TM):TM:=fun ρ=>do let x<-m ρ;sk (fun _=>b_) x
abbrev yR(x:Str)(ms:aB->M (List D)):cM:=fun ρ=>do let ds<-ms ρ;if ds.length<=lim then M.raise (.exc x [])else M.fail
end S7
namespace S3
open PySem PySem.Spec PyProof.Rows L2
mutual
def eP(n:Nat):D->Bool
 | .lst k=>decide (k<n)
 | .tup ds=>cw n ds
 | .ro ds=>cw n ds
 | .fz ds=>cw n ds
 | .fn _ _ _ ds _=>cw n ds
 | .exc _ ds=>cw n ds
 | .non=>b_
 | .bl _=>b_
 | .int _=>b_
 | .str _=>b_
 | .emp=>b_
def cw(n:Nat):List D->Bool
 |[]=>b_
 |d::ds=>eP n d && cw n ds
end
mutual
def gG(n:Nat)(g:Nat->Option (List D)):D->Option D
 | .lst k=>if k<n then ar (.lst k)else (g k).map .fz
 | .tup ds=>(fu n g ds).map .tup
 | .ro ds=>(fu n g ds).map .ro
 | .fz ds=>(fu n g ds).map .fz
 | .fn a c q ds vs=>(fu n g ds).map fun es=>.fn a c q es vs
 | .exc x ds=>(fu n g ds).map fun es=>.exc x es
 | .non=>ar .non
 | .bl b=>ar (.bl b)
 | .int i=>ar (.int i)
 | .str x=>ar (.str x)
 | .emp=>ar .emp
def fu(n:Nat)(g:Nat->Option (List D)):List D->Option (List D)
 |[]=>ar []
 |d::ds=>match gG n g d,fu n g ds with
  |some u,ar us=>ar (u::us)
  |_,_=>none
end
def tH(S:ay)(n:Nat):Nat->Nat->Option (List D)
 |0,_=>none
 |f+1,k=>(S[k]?).bind fun xs=>fu n (tH S n f) xs
def lV(S S':ay):Prop:=∀k xs,k<S.length->S'[k]? =ar xs->S[k]? =ar xs\/cw S.length xs=b_
open Classical in
def fJ(m:M D):M D:=fun S=>match m S with
 | some (.ok d,S')=>if S'.length<=S.length then ar (.ok d,S')else
   if lV S S' then (match gG S.length (tH S' S.length 60) d with
    |some u=>ar (.ok u,S'.take S.length)
    |none=>none)else none
 |r=>r
abbrev aL(m:TM):TM:=fun ρ=>fJ (m ρ)
section
variable {K:dn}{ι ι':List cq}{H H':Hp}{S S':ay}
mutual
theorem RelD.cl:∀{d:D} {v:V},RelD K ι H d v->eP ι.length d=b_
 |_,_,.non=>rfl
 |_,_,.bl b=>rfl
 |_,_,.int i=>rfl
 |_,_,.str x=>rfl
 |_,_,.tup h hs=>by unfold eP;exact RelDs.cl hs
 |_,_,.lst h=>by unfold eP;exact HU (HQ.mp h).1
 |_,_,.ro h hs=>by unfold eP;exact RelDs.cl hs
 |_,_,.emp h=>rfl
 |_,_,.fn h hs=>by unfold eP;exact RelDs.cl hs
 |_,_,.exc n h=>rfl
 |_,_,.excF n h h2 hn hs=>by unfold eP;exact RelDs.cl hs
 |_,_,.fz h hs=>by unfold eP;exact RelDs.cl hs
theorem RelDs.cl:∀{ds:List D} {vs:List V},RelDs K ι H ds vs->cw ι.length ds=b_
 |_,_,.nil=>rfl
 |_,_,.cons h hs=>by unfold cw;rw[RelD.cl h,RelDs.cl hs];rfl
end
def lW(P:List cq)(os:cq->Obj)(H:Hp):Hp:=fun b=>match H b with
 |some (.lst vs)=>if b∈P then ar (.frz (os b) (.lst vs))else ar (.lst vs)
 |x=>x
theorem yS{P:List cq}{os:cq->Obj}{b:cq}(h:H b=none):lW P os H b=none:=by unfold lW;rw[h]
theorem bL{P:List cq}{os:cq->Obj}{b:cq}{o:HO}(h:H b=ar o)(Z:∀vs,o≠ .lst vs):lW P os H b=ar o:=by
 unfold lW;rw[h];cases o with
 |lst vs=>exact absurd rfl (Z vs)
 |_=>rfl
theorem vk{P:List cq}{os:cq->Obj}{b:cq}(h:b∉P):lW P os H b=H b:=by
 unfold lW;split
 ·next q=>rw[if_neg h,q]
 ·rfl
theorem DE{os:cq->Obj}(h:b∈P)(e:H b=ar (.lst vs)):lW P os H b=ar (.frz (os b) (.lst vs)):=by
 unfold lW;rw[e];exact if_pos h
theorem sD(Y:ι.Nodup)(h:ι[k]? =ar a):a∈ι.drop n↔n<=k:=by
 constructor
 ·intro hm;obtain⟨j,Z⟩:=List.mem_iff_getElem?.mp hm;rw[List.getElem?_drop]at Z;have:=m6 Y h Z;omega
 ·intro X;refine List.mem_iff_getElem?.mpr ⟨k - n,?_⟩;rw[List.getElem?_drop,show n+(k - n)=k by omega];exact h
mutual
theorem RelD.down{n:Nat}{os:cq->Obj}:∀{d:D} {v:V},RelD K ι H d v->eP n d=b_->RelD K (ι.take n) (lW (ι.drop n) os H) d v
 |_,_,.non,_=>.non
 |_,_,.bl b,_=>.bl b
 |_,_,.int i,_=>.int i
 |_,_,.str x,_=>.str x
 |_,_,.tup h hs,c=>.tup (bL h (by intro _ z;cases z)) (RelDs.down hs (by unfold eP at c;exact c))
 |_,_,.lst h,c=>.lst (by unfold eP at c;rw[JY,if_pos (ID c)];exact h)
 |_,_,.ro h hs,c=>.ro (h.imp (fun⟨o,h⟩=>⟨o,bL h (by intro _ z;cases z)⟩) fun z=>z) (RelDs.down hs (by unfold eP at c;exact c))
 |_,_,.emp h,_=>.emp (bL h (by intro _ z;cases z))
 |_,_,.fn h hs,c=>.fn (bL h (by intro _ z;cases z)) (RelDs.down hs (by unfold eP at c;exact c))
 |_,_,.exc n h,_=>.exc n (bL h (by intro _ z;cases z))
 |_,_,.excF n h h2 hn hs,c=>.excF n (bL h (by intro _ z;cases z)) (bL h2 (by intro _ z;cases z)) hn (RelDs.down hs (by unfold eP at c;exact c))
 |_,_,.fz h hs,c=>.fz (bL h (by intro _ z;cases z)) (RelDs.down hs (by unfold eP at c;exact c))
theorem RelDs.down{n:Nat}{os:cq->Obj}:∀{ds:List D} {vs:List V},RelDs K ι H ds vs->cw n ds=b_->RelDs K (ι.take n) (lW (ι.drop n) os H) ds vs
 |_,_,.nil,_=>.nil
 |_,_,.cons h hs,c=>by
  unfold cw at c;rw[IE]at c;exact .cons (RelD.down h c.1) (RelDs.down hs c.2)
end
theorem iu{α Z:Type}{f:α->Z}{o:Option α}{b:Z}(h:o.map f=ar b):∃a,o=ar a/\f a=b:=by
 cases o with
 |none=>cases h
 |some a=>exact⟨a,rfl,Il h⟩
theorem yT(h:fu n g (d::ds)=ar us):∃u us',us=u::us'/\gG n g d=ar u/\fu n g ds=ar us':=by
 unfold fu at h;split at h
 ·next u us' e1 e2=>cases h;exact⟨u,us',rfl,e1,e2⟩
 ·cases h
mutual
theorem uu{n:Nat}{os:cq->Obj}{g:Nat->Option (List D)}(Y:∀k us a,n<=k->g k=ar us->ι[k]? =ar a->∃vs,H a=ar (.lst vs)/\RelDs K (ι.take n) (lW (ι.drop n) os H) us vs)(Z:ι.Nodup):
  ∀{d:D} {v:V},RelD K ι H d v->∀{u:D},gG n g d=ar u->RelD K (ι.take n) (lW (ι.drop n) os H) u v
 |_,_,.non,u,e=>by unfold gG at e;cases e;exact .non
 |_,_,.bl b,u,e=>by unfold gG at e;cases e;exact .bl b
 |_,_,.int i,u,e=>by unfold gG at e;cases e;exact .int i
 |_,_,.str x,u,e=>by unfold gG at e;cases e;exact .str x
 |_,_,.tup h hs,u,e=>by
  unfold gG at e;obtain⟨es,e1,rfl⟩:=iu e;exact .tup (bL h (by intro _ z;cases z)) (iw Y Z hs e1)
 | _,_,@RelD.lst _ _ _ a k h,u,e=>by
  unfold gG at e;by_cases hk:k<n
  ·rw[if_pos hk]at e;cases e;exact .lst (by rw[JY,if_pos hk];exact h)
  ·rw[if_neg hk]at e;obtain⟨us,e1,rfl⟩:=iu e;obtain⟨vs,U,X⟩:=Y k us a (by omega) e1 h
   exact .fz (DE ((sD Z h).mpr (by omega)) U) X
 |_,_,.ro h hs,u,e=>by
  unfold gG at e;obtain⟨es,e1,rfl⟩:=iu e;exact .ro (h.imp (fun⟨o,h⟩=>⟨o,bL h (by intro _ z;cases z)⟩) fun z=>z) (iw Y Z hs e1)
 |_,_,.emp h,u,e=>by unfold gG at e;cases e;exact .emp (bL h (by intro _ z;cases z))
 |_,_,.fn h hs,u,e=>by
  unfold gG at e;obtain⟨es,e1,rfl⟩:=iu e;exact .fn (bL h (by intro _ z;cases z)) (iw Y Z hs e1)
 |_,_,.exc x h,u,e=>by
  unfold gG at e;obtain⟨es,e1,rfl⟩:=iu e;unfold fu at e1;cases e1;exact .exc x (bL h (by intro _ z;cases z))
 |_,_,.excF x h X hn hs,u,e=>by
  unfold gG at e;obtain⟨es,e1,rfl⟩:=iu e;exact .excF x (bL h (by intro _ z;cases z)) (bL X (by intro _ z;cases z)) hn (iw Y Z hs e1)
 |_,_,.fz h hs,u,e=>by
  unfold gG at e;obtain⟨es,e1,rfl⟩:=iu e;exact .fz (bL h (by intro _ z;cases z)) (iw Y Z hs e1)
theorem iw{n:Nat}{os:cq->Obj}{g:Nat->Option (List D)}(Y:∀k us a,n<=k->g k=ar us->ι[k]? =ar a->∃vs,H a=ar (.lst vs)/\RelDs K (ι.take n) (lW (ι.drop n) os H) us vs)(Z:ι.Nodup):
  ∀{ds:List D} {vs:List V},RelDs K ι H ds vs->∀{us:List D},fu n g ds=ar us->RelDs K (ι.take n) (lW (ι.drop n) os H) us vs
 |_,_,.nil,us,e=>by unfold fu at e;cases e;exact .nil
 |_,_,.cons h hs,us,e=>by
  obtain⟨u,X,rfl,e1,e2⟩:=yT e;exact .cons (uu Y Z h e1) (iw Y Z hs e2)
end
theorem vm(Z:Rep K ι H S){n:Nat}{os:cq->Obj}:∀f k us a,n<=k->tH S n f k=ar us->ι[k]? =ar a->∃vs,H a=ar (.lst vs)/\RelDs K (ι.take n) (lW (ι.drop n) os H) us vs:=by
 intro f
 induction f with
 |zero=>intro k us a _ e;cases e
 | succ f ih=>
  intro k us a T e X;unfold tH at e;cases z:S[k]? with
  |none=>rw[z]at e;cases e
  |some xs=>
   rw[z]at e;obtain⟨vs,Y,U⟩:=Z.get k a xs X z;exact⟨vs,Y,iw (ih) Z.nd U e⟩
theorem sE(Y:Rep K ι H S)(x:Ext ι H ι' H')(Z:Rep K ι' H' S')(N:lV S S')(os:cq->Obj):
  Ext ι H ι (lW (ι'.drop ι.length) os H')/\Rep K ι (lW (ι'.drop ι.length) os H') (S'.take ι.length):=by
 obtain⟨more,rfl⟩:=id x.ids;have P:(ι++more).take ι.length=ι:=by simp
 refine⟨⟨⟨[],by simp⟩,fun a o h n t=>?_⟩,⟨Y.nd,?_,fun k a xs e1 e2=>?_,Z.tab.mono fun a o h n=>bL h n⟩⟩
 ·obtain⟨R,T⟩:=x.oth a o h n t;rw[vk (fun z=>T (Ks z))];exact⟨R,n⟩
 ·have:=Z.len;rw[JN, <-this,HP];omega
 ·have U:k<ι.length:=(HQ.mp e1).1;rw[JY,if_pos U]at e2;have X:(ι++more)[k]? =ar a:=by rw[II U];exact e1
  obtain⟨vs,R,T⟩:=Z.get k a xs X e2;refine⟨vs,?_,?_⟩
  ·rw[vk (fun z=>by have:=(sD Z.nd X).mp z;omega)];exact R
  ·have O:cw ι.length xs=true:=by
    rcases N k xs (by rw[<-Y.len];exact U) e2 with z|z
    ·obtain⟨_,_,Q⟩:=Y.get k a xs e1 z;exact Q.cl
    ·rw[Y.len];exact z
   have:=RelDs.down (n:=ι.length) (os:=os) T O;rw[P]at this;exact this
end
section
variable {X:Cx}{E:XD}{e:Expr}{m:TM}{pins:List (cq×Obj)}{σ:L2.St}{H:Hp}{s:c_}
theorem Inv.fz(I:L2.Inv X pins σ H s)(P:List cq):∃os,L2.Inv X pins σ (lW P os H) s:=by
 refine⟨fun a=>(s.heap.get? a).getD {cls:=.none,data:=.fields #[]},?_⟩;have Z:Un X.fs [] H (lW P (fun a=>(s.heap.get? a).getD {cls:=.none,data:=.fields #[]}) H) s.heap s.heap:=
  ⟨fun b o q _ _ _=>q,fun b o q _ _ _=>⟨o.slots,q⟩,fun b o _ n _=>yS n,fun b o q _=>⟨o,q⟩,fun b xs q=>bL q (by intro _ z;cases z),fun b o u q=>bL q (by intro _ z;cases z),fun b Y q=>⟨#[],by rw[bL q (by intro _ z;cases z)];simp⟩⟩
 refine I.un (t':=s.toks) Z fun b o q=>?_;have st:∀u,H b=ar u->bx X.prog X.w (lW P (fun a=>(s.heap.get? a).getD {cls:=.none,data:=.fields #[]}) H) s.heap b u:=fun u Z=>
  (I.hok b u Z).stay (fun _ _ _ z=>z) (fun c z=>bL z (by intro _ z;cases z)) fun c xs z=>bL z (by intro _ z;cases z)
 unfold lW at q;split at q
 ·next vs hb=>
  split at q
  ·cases q;obtain⟨z,its,n,r,e⟩:=(show bx X.prog X.w H s.heap b (.lst vs)from I.hok b _ hb);exact⟨by dsimp only;rw[e];rfl,z,its,n,r,e⟩
  ·cases q;exact st _ hb
 ·exact st _ q
theorem aG(h:SE X E e m):SE X E e (aL m):=by
 intro pins s σ H Q I J;obtain⟨Y,S,ρ,rep,re,r,N,F,k⟩:=J;have Z:fJ (m ρ) S=ar (r,N):=F;unfold fJ at Z;cases q:m ρ S with
 |none=>rw[q]at Z;cases Z
 | some p=>
  obtain⟨C,O⟩:=p;rw[q]at Z;cases C with
  |ex x=>
   cases Z;exact h pins s σ H Q I ⟨Y,S,ρ,rep,re,.ex x,_,q,k⟩
  | ok d=>
   dsimp only at Z;by_cases hl:O.length<=S.length
   ·rw[if_pos hl]at Z;cases Z;exact h pins s σ H Q I ⟨Y,S,ρ,rep,re,.ok d,_,q,k⟩
   ·rw [if_neg hl]at Z;by_cases hk:lV S O
    ·rw [if_pos hk]at Z;cases z:gG S.length (tH O S.length 60) d with
     |none=>rw[z]at Z;cases Z
     | some u=>
      rw[z]at Z;cases Z;refine di (h pins s σ H (fun v R=>∃P:List cq,∀os,Q v (lW P os R)) I ⟨Y,S,ρ,rep,re,.ok d,O,q,fun U R x W v L=>?_⟩) fun uv s' ⟨v,R,I',L,P,hq⟩=>?_
      ·refine⟨U.drop Y.length,fun os=>?_⟩;obtain⟨x2,rep2⟩:=sE rep x W hk os;have T:Rep X.K Y (lW (U.drop Y.length) os R) (O.take S.length):=by rw[<-rep.len];exact rep2
       have J:U.take Y.length=Y:=by obtain⟨more,rfl⟩:=x.ids;simp
       have rel:RelD X.K Y (lW (U.drop Y.length) os R) u v:=by
        have:=uu (n:=Y.length) (os:=os) (fun k us a=>by rw[rep.len];exact vm W 60 k us a) W.nd L (by rw[rep.len];exact z)
        rw[J]at this;exact this
       exact k Y _ x2 T v rel
      ·obtain⟨os,G⟩:=Inv.fz I' P;exact⟨v,_,G,L,hq os⟩
    ·rw[if_neg hk]at Z;cases Z
end
end S3
namespace S4
open PySem PySem.Spec PyProof.Rows L2 S3
section
variable {prog:eb}{w:ee}{A:g_}{E:a_->c_->Prop}{s:c_}
end
end S4
namespace S3
open PySem PySem.Spec PyProof.Rows L2
section
variable {X:Cx}{E:XD}{a b e c o tg:Expr}{m n l:TM}{pos p2:Pos}{es:List Expr}{ms:aB->M (List D)}
theorem range_any{bs:List Bool}:(d_ bs.length).any (fun i=>bs.getD i dr)=bs.any id:=by
 induction bs with
 |nil=>rfl
 |cons b bs ih=>
  rw[IH,J6,Lq,List.any_map];simp only[List.getD_cons_zero,List.any_cons,id];congr 1
theorem wQ(F:X.calm=b_):dj X (.builtin "any") (fun xs H Q=>∃(p:cq) (bs:List Bool),xs=[.ref p]/\iS X.K H p (bs.map V.bl)/\Q (.bl (bs.any id)) H):=by
 intro pins s σ H xs us Q I r h;obtain⟨p,bs,rfl,P,q⟩:=h;obtain⟨u,rfl,O⟩:=vals1 r;cases (show u=e_ p from O);obtain⟨its,S,G,B⟩:=I.list P;have U:=G.isList;refine call_any_walk (KR U ?_);have T:p<s.heap.objs.size:=by obtain⟨o,N,_⟩:=U;exact HS N
 have hlen:=S.length;refine⟨s.heap.objs.size,_,_,_,_,_,fun i=>bs.getD i dr,rfl,Walks.list (A:=X.A.in1) (by show X.A.handled=none;exact I.ok.hd F) s.heap.objs.size p (Ih T) its.toArray,⟨⟨_,Ia _ rfl,rfl,rfl⟩,U.push _⟩,?_,fun h' w C=>?_⟩
 ·intro i v s' y z J W;have Z:its[i]? =ar v:=by simpa using J
  have x:i<its.length:=(HQ.mp Z).1;have Y:i<bs.length:=by rw[HL]at hlen;omega
  have:(bs.map V.bl)[i]? =ar (.bl bs[i]):=by rw[IL,HR Y];rfl
  obtain⟨u,R,L⟩:=S.get this;rw[Z]at R;cases R;cases (show v=l_ bs[i]from L);have:bs.getD i dr=bs[i]:=by simp[List.getD,Y]
  dsimp only at W;rw[this]at W;exact IP W
 ·have e1:its.toArray.size=bs.length:=by rw[HW, <-hlen,HL]
  rw[e1,range_any];refine⟨.bl _,H,I.kept (fun b o e=>C b o ?_ (HM _ e)),rfl,q⟩;have:b≠s.heap.objs.size:=Ih (HS e);simpa using this
def uw:List D->M D
 |[.lst k]=>do
  let xs<-getL k
  match boolsOf xs with
  |some bs=>aC (.bl (bs.any id))
  |none=>M.fail
 |[.fz xs]=>match boolsOf xs with
  |some bs=>aC (.bl (bs.any id))
  |none=>M.fail
 |_=>M.fail
theorem wR:jE X.K E uw (fun xs H Q=>∃(p:cq) (bs:List Bool),xs=[.ref p]/\iS X.K H p (bs.map V.bl)/\Q (.bl (bs.any id)) H):=by
 intro P S H ds vs Q rep r c;unfold uw at c;split at c
 ·next k=>
  obtain⟨v,ws,rfl,T,U⟩:=r.cons_inv;cases U.nil_inv;obtain⟨p,rfl,W⟩:=T.lst_inv;obtain⟨es,us,_,R,Y,Z⟩:=a8 c rep W;cases q:boolsOf es with
  |none=>rw[q]at Z;exact(ah Z).elim
  |some bs=>
   rw[q]at Z;refine⟨p,bs,rfl,.of ?_,ag Z .refl rep _ (.bl _)⟩;rw[<-fj Y q];exact R
 ·next es=>
  obtain⟨v,ws,rfl,T,U⟩:=r.cons_inv;cases U.nil_inv;obtain⟨p,o,us,rfl,W,Y⟩:=T.fz_inv;cases q:boolsOf es with
  |none=>rw[q]at c;exact(ah c).elim
  |some bs=>
   rw[q]at c;refine⟨p,bs,rfl,.inl (.inr ⟨o,?_⟩),ag c .refl rep _ (.bl _)⟩;rw[<-fj Y q];exact W
 ·exact(ah c).elim
theorem DF(Z:X.calm=b_)(U:X.mg "any"=none)(Y:SE X E e m)(W:Gl X "any":=by rfl)(hs:dt [e] X.env=[(dr,gd e X.env)]:=by rfl):SE X E (.Call (.Name "any" p) [e] [] pos) (cC uw m):=
 gX (wQ Z) wR W U (by decide+kernel) (af Y au hs) (by decide) (by decide) hs rfl
def G5:D->M Bool
 | .bl b=>aC b
 | .non=>aC dr
 | .int i=>aC (i !=0)
 | .tup xs=>aC (!xs.isEmpty)
 | .fz xs=>aC (!xs.isEmpty)
 | .lst k=>do let xs<-getL k;aC (!xs.isEmpty)
 |_=>M.fail
abbrev bT(m:TM):aB->M Bool:=fun ρ=>do let x<-m ρ;G5 x
theorem jd{K:dn}{Z:List cq}{H:Hp}{ds:List D}{vs:List V}(r:RelDs K Z H ds vs):(!ds.isEmpty)= !vs.isEmpty:=by cases r<;>rfl
theorem DG(h:SE X E e m)(N:∀whole,isTrue e X.env whole=(do let v<-whole;G4 e.pos;s_ [v] (LZ v)):=by intro _;rfl):SB X E e (bT m):=by
 refine PT.imp (xF h N) fun σ H Q q=>?_;obtain⟨T,S,ρ,rep,re,c⟩:=q;refine⟨T,S,ρ,rep,re,av (ai c) fun x P S1 L e1 rep1 Z v r=>?_⟩;cases x with
 |bl b=>rw[r.bl_inv];exact⟨b,rfl,ag Z .refl rep1⟩
 |non=>rw[r.non_inv];exact⟨dr,rfl,ag Z .refl rep1⟩
 |int i=>rw[r.int_inv];exact⟨_,rfl,ag Z .refl rep1⟩
 |tup xs=>
  obtain⟨a,vs,rfl,Y,W⟩:=r.tup_inv;exact⟨_,.inr (.inl ⟨vs,.of Y,(jd W)⟩),ag Z .refl rep1⟩
 |fz xs=>
  obtain⟨a,o,vs,rfl,Y,W⟩:=r.fz_inv;exact⟨_,.inl ⟨vs,.inl (.inr ⟨o,Y⟩),(jd W)⟩,ag Z .refl rep1⟩
 |lst k=>
  obtain⟨a,rfl,Y⟩:=r.lst_inv;obtain⟨xs,vs,_,R,O,U⟩:=a8 Z rep1 Y;exact⟨_,.inl ⟨vs,.of R,(jd O)⟩,ag U .refl rep1⟩
 |_=>exact(ah Z).elim
end
end S3
section
namespace S3
open PySem PySem.Spec PyProof.Rows L2
section
variable {prog:eb}{w:ee}{A:g_}{R:Mc->c_->Prop}{s:c_}
end
section
variable {X:Cx}{pins:List (cq×Obj)}{σ:St}{H:Hp}{s:c_}
end
end S3
namespace S3
open PySem PySem.Spec PyProof.Rows L2
section
variable {X:Cx}{scope:Scope}{Nc:List Str}{js:List (Option Nat)}{pins:List (cq×Obj)}{σ:St}{H:Hp}{s:c_}
end
end S3
end
namespace S3
open PySem PySem.Spec PyProof.Rows L2
section
variable {K:dn}{p:cq}{Q:D->List cq->ay->Hp->Prop}
structure MkL(K:dn)(p:cq)(ι:List cq)(S:ay)(ρ:aB)(σ:St)(H:Hp)(xs:List D):Prop where
 rep:Rep K ι (fM H p) S
 re:RelE K ι (fM H p) ρ σ
 lst:∃vs,H p=ar (.lst vs)/\RelDs K ι (fM H p) xs vs
 out:p∉ι
section
variable {X:Cx}{scope:Scope}{Nc:List Str}{js:List (Option Nat)}{elt tg iter tg2 iter2:Expr}{ifs ifs2:List Expr}{pos:Pos}{mi mi2:aB->M Iter}{g g2:m7}{t t2:aB->M Bool}{m:TM}
end
end
end S3
namespace S7
open PySem PySem.Spec PyProof.Rows L2 S3
section
open Sem (wp)
section
variable {prog:eb}{w:ee}{A:g_}{E:a_->c_->Prop}{h:fc}{g:Array A2}{d:Drawn}{t:Nat}{os:B'}
variable {nm q:Str}{C N:cq}{bs bm bmB:List a_}{hdct:Bool}{sn:List Str}{sub:List a_}{ab:Bool}{col:Option Bool}{dd:Option cq}{k0 k1 k2 k3 k5:Option a_}{B Bn newId nid initId inN:String}{bmN:List a_}
end
section
variable {M:L8}{A:g_}{E:a_->c_->Prop}{env:Env}
variable {nm q:Str}{C N:cq}{bs bm:List a_}{hdct:Bool}{sn:List Str}{sub:List a_}{ab:Bool}{col:Option Bool}{dd:Option cq}{k0 k1 k2 k3 k5:Option a_}{newId:String}
end
section
variable {prog:eb}{w:ee}{A:g_}{E:a_->c_->Prop}{s:c_}{env:Env}
variable {nm q:Str}{C N:cq}{bs bm bmB:List a_}{hdct:Bool}{sn:List Str}{sub:List a_}{ab:Bool}{col:Option Bool}{dd:Option cq}{k0 k1 k2 k3 k5:Option a_}{B Bn newId nid initId inN:String}{bmN:List a_}
end
end
end S7
namespace S7
open PySem PySem.Spec PySem.W PyProof.Rows
section
open Builtin Builtin.ObjectAttr
def B5:List a_->Bool
 | .ref _:: .ref _::r=>r==[.type "ValueError",.type "Exception",.type "BaseException",.type "object"]
 |_=>dr
structure ExcS(K:Mn)(C:cq):Prop where
 sa:u_ K (.ref C) "__setattr__"=ar (ar (.builtin "object.__setattr__"))
 ob:LX K C (.type "object")=ar b_
 cd:∃cd,Mm K C=ar cd/\cd.hasDict=b_/\B5 cd.mro=b_
section
variable {prog:eb}{w:ee}{A:g_}{E:a_->c_->Prop}{s:c_}{K:Mn}{x C:cq}{o:Obj}{vs:Array a_}{mA:Str->Option a_}{name:Str}{v:a_}{R:Mc->c_->Prop}
end
end
end S7
namespace S7
open PySem PySem.Spec PyProof.Rows L2 S3
def Fm(C a t:cq)(od:Option cq):fc->Prop:=fun h=>h.get? a=ar {cls:=.ref C,dict:=od,data:=.fields #[.ref t,.none,.none,.none,.bool dr,.none]}
def G6(dx:cq)(fs:List (Str×V)):fc->Prop:=fun h=>∃mA,h.Ns1 dx mA/\(∀f,rq (fs.lookup f) (mA f))/\PySem.Within mA (fs.map (·.1))
section
variable {X:Cx}{pins:List (cq×Obj)}{σ:L2.St}{H:Hp}{s:c_}{h':fc}{t':Nat}
end
section
variable {X:Cx}{o value:Expr}{ta tv:TE}{f:Str}{pos pos':Pos}
end
end S7
section
namespace S7
open PySem PySem.Spec PyProof.Rows L2 S3
def A9(K:dn)(C f:cq):Bool:=match K.lookup C with
 |some ⟨.type "type",_,.cls cd,sl⟩=>(match cd.mro,sl.toList with
  | .ref C'::bm,[_,_,_,_,ar (.builtin n),_]=>C'==C && n=="ValueError.__new__" && !cd.hasDel && W.tailIn K Fg bm && W.nsOkIn K cd.ns && nC K cd.ns "__init__"==ar (ar (.ref f)) && cd.hasDict && B5 cd.mro
  |_,_=>dr) && (y1 K (.ref C) "__setattr__"==ar (ar (.builtin "object.__setattr__"))) && (match K.lookup f with|some o=>o.cls== .type "function"|none=>dr)
 |_=>dr
def HF(C:cq):Sp:=fun vs H Q _=>∃e t v1 v2,vs=[.ref e,v1,v2]/\H e=ar (.ext (Fm C e t none))/\∀dx,H dx=none->dx≠e->Q .non (upd (upd H dx (.ext (G6 dx [("many",v1),("most",v2)]))) e (.ext (Fm C e t (ar dx))))
end S7
namespace S7
open PySem PySem.Spec PyProof.Rows L2 S3
section
variable {X:Cx}{Ek:XK}
end
end S7
end
namespace S7
open PySem PySem.Spec PyProof.Rows L2 S3
theorem yU{h:fc}{Y:Str->Option a_}(n:h.Ns1 dx Y)(e:h.get? dx=ar od)(X:Y f=ar v):G_ f od=ar (ar v):=by
 obtain⟨o,es,U,e1,hd,_,_,hf⟩:=n;rw[e]at e1;cases e1;unfold G_;rw[hd];have:=hf f;rw[X]at this;unfold nsFind findBy at this;rw[<-Array.find?_toList]at this;cases q:es.toList.find? (·.key.isStr f)with
 |none=>rw[q]at this;cases this
 |some en=>
  rw[q]at this;have Z:en.val=v:=Il this;rw[<-Z];dsimp only;rw[q]
section
variable {X:Cx}{E:XD}{pins:List (cq×Obj)}{σ:L2.St}{H:Hp}{s:c_}
theorem sF{a C Y:cq}{T:List (Str×V)}{f:Str}{v:V}{b:Bool}{Q:a_->c_->Prop}{A:g_}{E:a_->c_->Prop}(c:ExcC X.K C)(R:∀cd,L5 X.K C=ar cd->cd.hasDict=b_)(P:y1 X.K (.ref C) f=ar none)(I:L2.Inv X pins σ H s)(B:H a=ar (.ext (mr C a (ar Y))))(G:H Y=ar (.xd T))(L:T.lookup f=ar v)
  (F:W.copiedNames.contains f=dr) (h:∀u s',L2.Inv X pins σ H s'->RelV v u->Q u s'):ed (eK X.prog X.w) A (Mi (.ref a) f b) Q E s:=by
 obtain⟨⟨t,vs,he,r,z,S⟩,_⟩:=I.hok a _ B;obtain⟨U,N,y⟩:=(show ∃U,s.heap.Ns1 Y U/\∀f,rq (T.lookup f) (U f)from I.hok Y _ G);obtain⟨od,es,q,e1,_⟩:=id N;obtain⟨u,x,O⟩:=rq.some_of (v:=v) (o:=U f) (by rw[<-L];exact y f)
 have J:u2 s.heap a t C (ar od):=⟨he,r,by unfold Ma;rw[S],by rw[z];exact e1⟩
 obtain⟨cd,Z⟩:=IW.mp c.cd;have hf:W.findObj X.K C (ar od) f=ar (.value u):=by
  unfold W.findObj;rw[Z,JB,P,JB];simp only[Option.bind_some];unfold W.ownOf;rw[R cd Z,if_pos rfl];dsimp only;rw[yU N e1 x];rfl
 unfold Mi;refine HK (wpAny_mkText ?_);refine yB (s:={s with toks:=s.toks+1}) I.kIn J c.ga c.gt c.be ?_;refine oK (s:={s with toks:=s.toks+1}) I.kIn J hf ?_;exact W.handed_on (wc O) (h u _ (I.tok _) O)
def B6(second:Bool):D->M D
 | .exc n [a,b]=>if n∈aV then aC (if second then b else a)else M.fail
 |_=>M.fail
abbrev lX(second:Bool)(m:TM):TM:=fun ρ=>do let x<-m ρ;B6 second x
theorem vo{e:Expr}{m:TM}{pos:Pos}{Z:Bool}{f:Str}(o:gn X.K=b_)(P:∀n∈aV,∀C,nC X.K er n=ar (ar (.ref C))->∀cd,L5 X.K C=ar cd->cd.hasDict=b_)(x:SE X E e m)(N:f=if Z then "most" else "many")(G:j' e f X.env (gd e X.env)=gd e X.env:=by rfl):
  SE X E (.Attribute e f pos) (lX Z m):=by
 intro pins s σ H Q I h;refine Av G (di (x pins s σ H (fun v Y=>∃T d,RelD X.K T Y d v/\∃n a b va vb C dx p,d= .exc n [a,b]/\n∈aV/\v= .ref p/\nC X.K er n=ar (ar (.ref C))/\Y p=ar (.ext (mr C p (ar dx)))/\Y dx=ar (.xd [("many",va),("most",vb)])/\Q (if Z then vb else va) Y) I ?_) fun u s1 ⟨v,Y,I1,rv,T,d,rd,n,a,b,va,vb,C,dx,p,hd,hn,hp,hns,g1,g2,q⟩=>?_)
 ·obtain⟨T,S,ρ,rep,re,c⟩:=h;refine⟨T,S,ρ,rep,re,av (ai c) fun d O S1 Y e1 rep1 U v r=>⟨O,d,r,?_⟩⟩;unfold B6 at U;split at U
  ·next n a b=>
   split at U
   ·next hn=>
    cases r with
    | excF hns h1 h2 h3 h4=>
     rename_i p C dx fs
     match fs,h3,h4,h2 with
     |[(f1,va),(f2,vb)],h3,h4,h2=>
      have e1:f1="many":=(Ik h3).1;have e2:f2="most":=(Ik (Ik h3).2).1;subst e1 e2;obtain⟨_,_,t,J,F⟩:=h4.cons_inv;obtain⟨A,w⟩:=Ik t;subst A w;obtain⟨_,_,l,B,_⟩:=F.cons_inv;obtain⟨y,_⟩:=Ik l;subst y;refine⟨n,a,b,va,vb,C,dx,p,rfl,hn,rfl,hns,h1,h2,?_⟩;have:=ag U .refl rep1;cases Z with
      |true=>exact this _ B
      |false=>exact this _ J
     |[],h3,_,_=>cases h3
     |[_],h3,_,_=>have:=Kt Lx h3;simp at this
     |_::_::_::_,h3,_,_=>have:=Kt Lx h3;simp at this
   ·exact(ah U).elim
  ·exact(ah U).elim
 ·subst hp;obtain rfl:u=e_ p:=rv;obtain⟨j,R⟩:=lC o hn;have:=R.ns.symm.trans hns;cases this;refine sF (f:=f) (v:=if Z then vb else va) R.ck (P n hn C hns) (by rw[N];cases Z<;>first|exact R.ck.mf|exact R.ck.ms) I1 g1 g2 (by rw[N];cases Z<;>rfl) (by rw[N];cases Z<;>decide) fun k s' L z=>⟨_,Y,L,z,q⟩
end
section
variable {X:Cx}{E:XD}{st:mu}{m:TM}{i:Nat}
theorem RelE.all{K:dn}{T Z:List cq}{H Y:Hp}{n:Nat}(U:∀e v,eP n e=b_->RelD K T H e v->RelD K Z Y e v):
  ∀{ρ:aB} {σ:L2.St},RelE K T H ρ σ->(∀e,ar e∈ρ->eP n e=b_)->RelE K Z Y ρ σ
 |[],_,h,_=>by cases h;exact .nil
 |_::ρ,_,.cons h t,c=>.cons (fun d' z=>by obtain⟨v,e1,e2⟩:=h _ z;exact⟨v,e1,U _ v (c d' (by rw[z];exact Im ..)) e2⟩) (RelE.all U t fun e z=>c e (HY _ z))
theorem RelE.swap{K:dn}{U Z:List cq}{H Y:Hp}{n:Nat}{d u:D}(S:∀v,RelD K U H d v->RelD K Z Y u v)(T:∀e v,eP n e=b_->RelD K U H e v->RelD K Z Y e v):
  ∀{ρ:aB} {i:Nat} {σ:L2.St},RelE K U H (ρ.set i (ar d)) σ->(∀e,ar e∈ρ->eP n e=b_)->RelE K Z Y (ρ.set i (ar u)) σ
 |[],_,_,h,_=>by cases h;exact .nil
 |_::ρ,0,_,.cons h t,c=>.cons (fun d' z=>by cases z;obtain⟨v,e1,e2⟩:=h _ rfl;exact⟨v,e1,S v e2⟩) (RelE.all T t fun e z=>c e (HY _ z))
 |_::ρ,i+1,_,.cons h t,c=>.cons (fun d' z=>by obtain⟨v,e1,e2⟩:=h _ z;exact⟨v,e1,T _ v (c d' (by rw[z];exact Im ..)) e2⟩) (RelE.swap S T (ρ:=ρ) (i:=i) t fun e z=>c e (HY _ z))
theorem kG(h:SS X E st (bo i m)):SS X E st (bo i (aL m)):=by
 intro pins s σ H T I L;obtain⟨Y,S,ρ,rep,re,r,G,l,k⟩:=L;have Z:(fJ (m ρ)>>=fun d=>(aC (Out.nx (ρ.set i (ar d))):M Out)) S=ar (r,G):=l;have C:∀(c:M D),(c>>=fun d=>(aC (Out.nx (ρ.set i (ar d))):M Out)) S=(match c S with|some (.ok d,S1)=>ar (.ok (Out.nx (ρ.set i (ar d))),S1)|some (.ex x,S1)=>ar (.ex x,S1)|none=>none):=fun c=>by
  show M.bnd c _ S=_;unfold M.bnd;cases c S with
  |none=>rfl
  |some p=>obtain⟨r,S1⟩:=p;cases r<;>rfl
 rw[C]at Z;unfold fJ at Z;cases q:m ρ S with
 |none=>rw[q]at Z;cases Z
 | some p=>
  obtain⟨w,O⟩:=p;rw[q]at Z;have N:bo i m ρ S=_:=C (m ρ);rw[q]at N;cases w with
  |ex x=>
   cases Z;exact h pins s σ H T I ⟨Y,S,ρ,rep,re,.ex x,_,N,k⟩
  | ok d=>
   dsimp only at Z;by_cases hl:O.length<=S.length
   ·rw[if_pos hl]at Z;cases Z;exact h pins s σ H T I ⟨Y,S,ρ,rep,re,_,_,N,k⟩
   ·rw [if_neg hl]at Z;by_cases hk:lV S O
    ·rw [if_pos hk]at Z;cases z:gG S.length (tH O S.length 60) d with
     |none=>rw[z]at Z;cases Z
     | some u=>
      rw[z]at Z;cases Z;refine di (h pins s σ H {nx:=fun W J=>∃P:List cq,∀os,T.nx W (lW P os J),rt:=fun _ _=>False} I ⟨Y,S,ρ,rep,re,_,_,N,fun Q J x U W F=>?_⟩) fun f s' hf=>?_
      ·refine⟨Q.drop Y.length,fun os=>?_⟩;obtain⟨x2,rep2⟩:=sE rep x U hk os;have R:Rep X.K Y (lW (Q.drop Y.length) os J) (O.take S.length):=by rw[<-rep.len];exact rep2
       have L:Q.take Y.length=Y:=by obtain⟨more,rfl⟩:=x.ids;simp
       refine k Y _ x2 R W ?_;refine RelE.swap (n:=Y.length) (d:=d) (u:=u) (fun v o=>?_) (fun e v c r=>?_) F fun e z=>?_
       ·have:=uu (n:=Y.length) (os:=os) (fun k us a=>by rw[rep.len];exact vm U 60 k us a) U.nd o (by rw[rep.len];exact z)
        rw[L]at this;exact this
       ·have:=RelD.down (n:=Y.length) (os:=os) r c;rw[L]at this;exact this
       ·obtain⟨j,B⟩:=List.getElem?_of_mem z;obtain⟨v,_,r⟩:=re.get B;exact r.cl
      ·cases f with
       |next=>
        obtain⟨W,J,A,P,t⟩:=hf;obtain⟨os,y⟩:=Inv.fz A P;exact⟨W,_,y,t os⟩
       |ret v=>obtain⟨_,_,_,_,_,z⟩:=hf;exact z.elim
       |brk=>obtain⟨_,_,_,z⟩:=hf;exact z.elim
       |cont=>obtain⟨_,_,_,z⟩:=hf;exact z.elim
    ·rw[if_neg hk]at Z;cases Z
end
structure GrX(P:eb)(w:ee)(K:dn)(mg:Str->Option a_)(base:fc):Prop where
 ex:∃C f fd,nC K er "TooGreat"=ar (ar (.ref C))/\A9 K C f=b_/\FnOk P w K mg base (kX P w) 1 f fd ["self","many","most"] (HF C)/\Binds K fd ["self","many","most"] []
section
variable {X:Cx}{Ek:XK}
end
theorem DefX.none{P:eb}{w:ee}{K:dn}{Y:Str->Option a_}{base:fc}{k:Nat}{x qual:Str}{U:mu}{f:cq}{Z:fb}{X:List Str}(F:Fun K x qual U f Z)(S:Y x=ar (.ref f))(T:Binds K Z X []):DefX P w K Y base k x X (fun _=>M.fail):=
 ⟨f,Z,⟨fun vs H Q E ⟨_,_,_,_,_,h⟩=>(ah h).elim,fun A outer s H args us vs Q E _ _ _ _ ⟨_,_,_,_,_,h⟩=>(ah h).elim⟩,S,F.kp,T⟩
def Ba(K:dn):Bool:=aV.all fun n=>match nC K er n with
 |some (ar (.ref C))=>(match L5 K C with|some cd=>cd.hasDict|none=>b_)
 |_=>b_
theorem B7{K:dn}(h:Ba K=b_):∀n∈aV,∀C,nC K er n=ar (ar (.ref C))->∀cd,L5 K C=ar cd->cd.hasDict=true:=by
 intro n X C Y cd Z;have:=Ir.mp h n X;rw[Y]at this;dsimp only at this;rw[Z]at this;exact this
section
variable {X:Cx}{E:XD}
theorem Bb(U:gn X.K=b_)(W:Ba X.K=b_)(Y:SE X E e m)(Z:j' e "many" X.env (gd e X.env)=gd e X.env:=by rfl):SE X E (.Attribute e "many" pos) (lX dr m):=vo U (B7 W) Y rfl Z
theorem Bc(U:gn X.K=b_)(W:Ba X.K=b_)(Y:SE X E e m)(Z:j' e "most" X.env (gd e X.env)=gd e X.env:=by rfl):SE X E (.Attribute e "most" pos) (lX b_ m):=vo U (B7 W) Y rfl Z
end
end S7
namespace S3
open PySem PySem.Spec PyProof.Rows L2 S4
mutual
theorem qE:∀d,eP n d=b_->gG n g d=ar d
 | .lst k,h=>by unfold eP at h;unfold gG;rw[if_pos (ID h)]
 | .tup ds,h=>by unfold eP at h;unfold gG;rw[gp ds h];rfl
 | .ro ds,h=>by unfold eP at h;unfold gG;rw[gp ds h];rfl
 | .fz ds,h=>by unfold eP at h;unfold gG;rw[gp ds h];rfl
 | .fn _ _ _ ds _,h=>by unfold eP at h;unfold gG;rw[gp ds h];rfl
 | .exc _ ds,h=>by unfold eP at h;unfold gG;rw[gp ds h];rfl
 | .non,_=>by unfold gG;rfl
 | .bl _,_=>by unfold gG;rfl
 | .int _,_=>by unfold gG;rfl
 | .str _,_=>by unfold gG;rfl
 | .emp,_=>by unfold gG;rfl
theorem gp:∀ds,cw n ds=b_->fu n g ds=ar ds
 |[],_=>by unfold fu;rfl
 |d::ds,h=>by
  unfold cw at h;rw[IE]at h;unfold fu;rw[qE d h.1,gp ds h.2]
end
mutual
theorem vp(Z:m<=n):∀d,eP m d=b_->eP n d=b_
 | .lst k,h=>by unfold eP at h⊢;exact HU (HZ (ID h) Z)
 | .tup ds,h=>by unfold eP at h⊢;exact iy Z ds h
 | .ro ds,h=>by unfold eP at h⊢;exact iy Z ds h
 | .fz ds,h=>by unfold eP at h⊢;exact iy Z ds h
 | .fn _ _ _ ds _,h=>by unfold eP at h⊢;exact iy Z ds h
 | .exc _ ds,h=>by unfold eP at h⊢;exact iy Z ds h
 | .non,_=>by unfold eP;rfl
 | .bl _,_=>by unfold eP;rfl
 | .int _,_=>by unfold eP;rfl
 | .str _,_=>by unfold eP;rfl
 | .emp,_=>by unfold eP;rfl
theorem iy(Z:m<=n):∀ds,cw m ds=b_->cw n ds=b_
 |[],_=>by unfold cw;rfl
 |d::ds,h=>by
  unfold cw at h⊢;rw[IE]at h⊢;exact⟨vp Z d h.1,iy Z ds h.2⟩
end
section
variable {c:M D}{S:ay}{Q:D->ay->Prop}{v:D}
theorem Bd:fJ (aC v)=aC v:=by
 funext S;show(if S.length<=S.length then _ else _)=_;rw[if_pos (HN _)];rfl
theorem yV:fJ (M.raise x)=M.raise x:=rfl
theorem lE(e:c S=ar (.ok d,S'))(X:lV S S')(Z:S.length<S'.length\/u=d)(W:S.length<=S'.length)(Y:gG S.length (tH S' S.length 60) d=ar u):fJ c S=ar (.ok u,S'.take S.length):=by
 unfold fJ;rw[e];dsimp only;by_cases h:S'.length<=S.length
 ·have hd:u=d:=Z.resolve_left (by omega)
  rw[if_pos h,hd,List.take_of_length_le h]
 ·rw[if_neg h,if_pos X,Y]
theorem Be(h:runs c S fun d Z=>lV S Z/\S.length<=Z.length/\eP S.length d=b_/\Q d (Z.take S.length)):runs (fJ c) S Q:=by
 obtain⟨d,Z,e,Y,X,hd,q⟩:=h;exact⟨d,_,lE e Y (.inr rfl) X (qE d hd),q⟩
theorem nF:lV S (S++G):=fun k xs Z e=>.inl (by rw[II Z]at e;exact e)
theorem yW(h:runs c S fun d Z=>(∃G,Z=S++G)/\eP S.length d=b_/\Q d S):runs (fJ c) S Q:=by
 obtain⟨d,Z,e,⟨G,rfl⟩,hd,q⟩:=h;exact Be ⟨d,_,e,nF,by simp,hd,by simpa using q⟩
theorem sG(h:runs c S fun d Z=>∃G p us,d= .lst p/\Z=S++G/\Z[p]? =ar us/\S.length<=p/\cw S.length us=b_/\Q (.fz us) S):runs (fJ c) S Q:=by
 obtain⟨d,Z,e,G,p,us,rfl,rfl,Y,U,X,q⟩:=h;have W:=(HQ.mp Y).1;refine⟨.fz us,S,?_,q⟩;have:=lE (u:=.fz us) e nF (.inl (by omega)) (by simp) (by
  unfold gG;rw[if_neg (by omega)]
  show(((S++G)[p]?).bind fun xs=>fu S.length (tH (S++G) S.length 59) xs).map D.fz=_;rw[Y,JB,gp us X];rfl)
 rw[this];simp
theorem bB{α:Type}{c:M α}{v:α}(h:∀S,runs c S fun d Z=>d=v/\Z=S):c=aC v:=by
 funext S;obtain⟨d,Z,e,rfl,rfl⟩:=h S;exact e
theorem B8(Y:eP 0 v=b_)(h:∀S,runs c S fun d Z=>d=v/\∃G,Z=S++G):fJ c=aC v:=
 bB fun S=>yW (pB (h S) fun d Z ⟨e,g⟩=>⟨g,by rw[e];exact vp (Iv _) v Y,e,rfl⟩)
theorem vt(Y:cw 0 us=b_)(h:∀S,runs c S fun d Z=>∃G p,d= .lst p/\Z=S++G/\Z[p]? =ar us/\S.length<=p):fJ c=aC (.fz us):=
 bB fun S=>sG (pB (h S) fun d Z ⟨G,p,e1,e2,e3,e4⟩=>⟨G,p,us,e1,e2,e3,e4,iy (Iv _) us Y,rfl,rfl⟩)
theorem bG(Y:cw 0 us=b_)(Z:us.length<=lim):fJ (bq us)=aC (.fz us):=
 vt Y fun S=>wI.mpr ⟨Z,[us],S.length,rfl,rfl,by simp,HN _⟩
end
theorem c9:jC ⟨its,.none⟩=aC ():=by
 funext S;unfold jC;rw[if_pos (show Iter.okS ⟨its,.none⟩ S from trivial)];rfl
section
variable {its:List D}{g:m7}{t:aB->M Bool}{m:TM}
theorem sH(R:aB->Prop)(q:D->Bool)(f:D->D):∀(items:List D) (ρ:aB),R ρ->(∀d∈items,∀ ρ,R ρ->∃Z,g d ρ=aC Z/\R Z/\t Z=aC (q d)/\(q d=b_->m Z=aC (f d)))->
  cm ⟨its,.none⟩ g t m items ρ=aC ((items.filter q).map f)
 |[],ρ,_,_=>by unfold cm;rw[c9];rfl
 |d::ds,ρ,hR,hb=>by
  obtain⟨Z,e1,Y,e2,W⟩:=hb d (Im ..) ρ hR;have X:=sH R q f ds Z Y fun x U=>hb x (HY _ U);unfold cm;rw[c9,ao,e1,ao,e2,ao,X];cases hq:q d with
  |true=>rw[JZ hq,if_pos rfl,W hq,ao];rfl
  |false=>rw[J0 (by rw[hq];decide),if_neg (by decide)]
theorem Bg(R:aB->Prop)(q:D->Bool)(f:D->D)(Z:its.length<=lim)(Y:R ρ)(X:∀d∈its,∀ ρ,R ρ->∃ ρ1,g d ρ=aC ρ1/\R ρ1/\t ρ1=aC (q d)/\(q d=b_->m ρ1=aC (f d))):
  eV ⟨its,.none⟩ g t m ρ=aC ((its.filter q).map f):=by
 unfold eV;rw[if_pos Z];exact sH R q f its ρ Y X
end
end S3
namespace S7
open PySem PySem.Spec PyProof.Rows L2 S3
section
variable {X:Cx}{E:XD}{k i jn jy:Nat}{a c':cq}{ql:Str}{ds:List D}{vs:List V}{m:TM}{x n y cx:Str}{p cpos epos np p1 p2 p3 hpos tpos:Pos}
end
section
variable {X:Cx}{x ql:Str}{k k0 i:Nat}{a c':cq}{ps:List Str}{R:D->M D->List D->M D}{R':M D->List D->M D}{p pos:Pos}{e:Expr}{es:List Expr}{ms:S3.aB->M (List D)}{m:TM}{ds:List D}{vs:List V}
end
section
variable {X:Cx}{E:XD}{pos:Pos}
end
end S7
namespace S3
open PySem PySem.Spec PyProof.Rows L2
def qF:D->D->M D
 | .lst k,.int i=>do
  let xs<-getL k
  if -(2 ^ 62)<=i/\i<=1000/\xs.length<=1000 then bq (dV i.toNat xs).flatten else M.fail
 |_,_=>M.fail
section
variable {X:Cx}{E:XD}{a b:Expr}{m n:TM}{pos:Pos}
theorem RelDs.rep{K:dn}{Z:List cq}{H:Hp}{ds:List D}{vs:List V}(r:RelDs K Z H ds vs):∀k:Nat,RelDs K Z H (dV k ds).flatten (dV k vs).flatten
 |0=>.nil
 |k+1=>by rw[IB,IB,Jj,Jj];exact r.append (RelDs.rep r k)
theorem Bh:rp X.K E qF EY:=by
 intro P S H N L v1 v2 Q rep R T c;unfold qF at c;split at c
 ·next k i=>
  obtain⟨p,rfl,U⟩:=R.lst_inv;obtain⟨es,us,_,W,Y,Z⟩:=a8 c rep U;split at Z
  ·next hb=>
   have O:=Y.length;refine⟨p,i,us,rfl,T.int_inv,W,by omega,by omega,HX (Nat.mul_le_mul (show us.length<=1000 by omega) (show i.toNat<=1000 by omega)) (show 1000*1000<=sizeLine by decide),(bu Z rep (Y.rep i.toNat)).2⟩
  ·exact(ah Z).elim
 ·exact(ah c).elim
theorem yX(Y:SE X E a m)(Z:SE X E b n):SE X E (.BinOp a .Mult b pos) (fun ρ=>do let x<-m ρ;let y<-n ρ;qF x y):=ng C3 Bh Y Z
end
def pD:List a_->List Int->Bool
 |[],[]=>b_
 | .int i _::r,j::l=>i==j && pD r l
 |_,_=>dr
def Fn(K:dn)(x:Str)(ns:List Int):Bool:=match nC K er x with
 | some (ar (.ref a))=>(match K.lookup a with
  |some o=>(match o.cls,o.data with
   | .type T,.seq its _=>T=="tuple" && pD its.toList ns
   |_,_=>dr)
  |none=>dr)
 |_=>dr
structure KTup(K:dn)(mg:Str->Option a_)(x:Str)(ns:List Int):Prop where
 ex:∃a o its n,mg x=ar (.ref a)/\K.lookup a=ar o/\o.cls= .type "tuple"/\o.data= .seq its n/\pD its.toList ns=b_
theorem Fo{K:dn}{h:fc}{Z:Str->Option a_}{x:Str}{ns:List Int}(X:K.In h)(G:h.Ns er Z)(c:Fn K x ns=b_):KTup K Z x ns:=by
 unfold Fn at c;split at c
 ·next a hx=>
  split at c
  ·next o ho=>
   split at c
   ·next T its n hc hd=>
    rw[IE,Lu]at c;obtain⟨rfl,c⟩:=c;exact⟨a,o,its,n,Ii X G hx,ho,hc,hd,c⟩
   ·cases c
  ·cases c
 ·cases c
theorem nG{h:fc}:∀{vs:List a_} {ns:List Int},pD vs ns=b_->∃as,ReadsAll h vs (ns.map h9) as
 |[],[],_=>⟨_,.nil⟩
 | .int i t::r,j::l,c=>by
  unfold pD at c;rw[IE,Lu]at c;obtain⟨rfl,c⟩:=c;obtain⟨as,q⟩:=nG (h:=h) c;exact⟨_,.cons (.int i t) q⟩
 |[],_::_,c=>by cases c
 | .int _ _::_,[],c=>by cases c
 | .none::_,_,c=>by cases c
 | .ellipsis::_,_,c=>by cases c
 | .notImplemented::_,_,c=>by cases c
 | .bool _::_,_,c=>by cases c
 | .float _ _::_,_,c=>by cases c
 | .str _ _::_,_,c=>by cases c
 | .bytes _ _::_,_,c=>by cases c
 | .type _::_,_,c=>by cases c
 | .builtin _::_,_,c=>by cases c
 | .ref _::_,_,c=>by cases c
section
variable {X:Cx}{E:XD}{a:Expr}{m:TM}{x:Str}{ns:List Int}{p pos:Pos}
def G7(b:cq)(ns:List Int):R2:=fun v y H Q=>y= .ref b/\∃p,(ReadsV H v p/\p.canLay0=b_/\p.depth<=60)/\Q (.bl (f' p (.tuple (ns.map h9)))) H
theorem DH{b:cq}{o:Obj}{its:Array a_}{n:Nat}(P:X.A.units+64<vn)(Z:X.K.lookup b=ar o)(J:o.cls= .type "tuple")(U:o.data= .seq its n)(O:pD its.toList ns=b_)(hs:y' (.tuple (ns.map h9))=b_):gT X (hO .Eq) (G7 b ns):=by
 intro pins s σ H x y v u Q I R T h;obtain⟨rfl,q,⟨W,S,N⟩,h⟩:=h;cases T;obtain⟨as,Y⟩:=W.heap I.hok R;obtain⟨bs,L⟩:=nG (h:=s.heap) O;exact eq_dataH Y (.tuple (I.kIn _ _ Z) J U L) (gY S N) hs P ⟨.bl _,H,I,rfl,h⟩
theorem pE{S:ay}{f:Nat}:∀ns:List Int,mapP (fB S f) (ns.map D.int)=ar (ns.map h9)
 |[]=>rfl
 |i::r=>by
  have:fB S f (.int i)=ar (.int i):=by cases f<;>rfl
  simp[mapP,this,pE r]
theorem DI(s:X.A.units+64<vn)(F:SE X E a m)(B:KTup X.K X.mg x ns)(hs:y' (.tuple (ns.map h9))=true:=by rfl)(J:Gl X x:=by rfl)(R:(x==("__debug__":Str))=false:=by decide)(T:i1 .Eq (.Name x p)=false:=by first|exact mS _ (by decide) (by decide)|rfl):
  SB X E (.Compare a [.Eq] [.Name x p] pos) (fun ρ=>do let z<-(do let x<-m ρ;let y<-(aC (.tup (ns.map D.int)):M D);cN x y);ie z):=by
 obtain⟨b,o,its,n,P,t,O,I,U⟩:=B.ex;refine PT.imp (uN (DH s t O I U hs) F (pW J P (v:=.ref b) rfl R) T) fun σ H Q q=>?_;obtain⟨W,S,ρ,rep,re,c⟩:=q;have w:cont X.K E (m ρ>>=fun x=>cN x (.tup (ns.map D.int))>>=ie) W S H (fun b _ _ C=>Q b C):=by
  have c:=c;simp only[eM,ao]at c;exact c
 refine⟨W,S,ρ,rep,re,av (ai w) fun d Z S1 N e1 rep1 u v L=>⟨rfl,?_⟩⟩;obtain⟨r,l,e,k⟩:=id (ai u);unfold cN Dd at e;split at e
 ·next p q hp hq=>
  cases e;have Y:q= .tuple (ns.map h9):=by
   have:(mapP (fB S1 59) (ns.map D.int)).map z3=ar q:=hq;rw[pE]at this;exact(Il this).symm
  subst Y;have G:=k Z N .refl rep1;exact⟨p,kx rep1 60 d p v hp L,_,rfl,ag G .refl rep1⟩
 ·cases e
end
end S3
namespace W
open PySem PySem.Spec PyProof.Rows L2 S3 S4 S7
def nH:cM:=bD (nA (g0 (mV 0) "int") (GY (g0 (mV 0) "bool")))
def cy:List D->M D:=lU 1 1 nH
def pF:cM:=bD (nA (g0 (mV 0) "tuple") (aQ cN (cC eg (mV 0)) (mK (.int 2))))
def cQ:List D->M D:=lU 1 1 pF
def fX:gh:=iL
def fY:TM:=aQ xn (mV 0) (mV 1)
def lY:cM:=bD (cC rT (aL (bj (sA (mV 0) (aL (Ee (mV 0) (oS (mK (.int 1))) (oN)))) (eL 2 (bw (gN 0) (bw (gN 1) (ff)))) fX fY [none,none])))
def eo:List D->M D:=lU 1 1 lY
def je:cM:=aA (fx (cz xn (mV 1) (cC eg (mV 0))) (bD (aQ cK (mV 0) (mV 1))) (cn)) (bD (mK (.int 0)))
def cR:List D->M D:=lU 2 2 je
def lZ:cM:=aA (fx (bV (aQ cK (mV 0) (mK (.int 1)))) (aA (bo 2 (aQ mv (aQ cK (mV 0) (mK (.int 0))) (mV 1))) (aA (se (aQ kq (aQ cK (mV 0) (mK (.int 0))) (mV 1)) (F7 (mV 0) (mK (.int 0)))) (bD (mV 2)))) (cn)) (aA (se (aQ mv (aQ cY (aQ qk (aQ cK (mV 0) (mK (.int 0))) (mK (.int 48271))) (mK (.int 29))) (mK (.int 2147483647))) (F7 (mV 0) (mK (.int 0)))) (aA (bo 3 (aQ mv (aQ cY (aQ cY (aQ qk (aQ cK (mV 0) (mK (.int 0))) (aQ cK (mV 0) (mK (.int 0)))) (aQ qk (mK (.int 39373)) (aQ cK (mV 0) (mK (.int 0))))) (mK (.int 7))) (mK (.int 2147483629)))) (aA (bo 3 (aQ mv (aQ cY (aQ qk (mV 3) (mV 3)) (aQ qk (mK (.int 16807)) (mV 3))) (mK (.int 2147483587)))) (bD (aQ mv (aQ kq (mV 3) (mK (.int 8))) (mV 1))))))
def aD:List D->M D:=lU 4 2 lZ
def d7:gh:=iL
def d8:TM:=dU (aa (mV 1) (aa (mV 0) (ak)))
def fC:cM:=oy (qz ky (mV 1) (aL (bj (yx (aQ cY (mV 2) (mK (.int 1))) (mV 0)) (gN 0) d7 d8 [none,ar 2])))
def kH:cM:=aA (bo 1 (aS (ak))) (aA (kB (kU (mV 0)) (gN 2) fC) (bD (mV 1)))
def ba:List D->M D:=lU 3 1 kH
def fD:gh:=iL
def fE:TM:=cC b9 (aL (cC bF (aL (aS (aa (aQ cK (mV 2) (mV 0)) (aa (aQ cK (mV 2) (mV 1)) (ak)))))))
def kI:cM:=bD (dU (aa (aQ cK (mV 0) (mK (.int 0))) (aa (cC b9 (aL (cC bF (aL (bj (dM (aQ cK (mV 0) (mK (.int 1)))) (eL 2 (bw (gN 0) (bw (gN 1) (ff)))) fD fE [none,none,ar 1]))))) (ak))))
def cf:List D->M D:=lU 2 2 kI
def cS:cM:=fx (jT (cz inD (mV 3) (mV 1)) (cz qo (mV 4) (mV 1))) (oy (qz cb (mV 1) (mV 4))) (fx (jT (cz inD (mV 4) (mV 1)) (cz qo (mV 3) (mV 1))) (oy (qz cb (mV 1) (mV 3))) (cn))
def cT:cM:=kB (dM (aQ cK (mV 0) (mK (.int 1)))) (eL 2 (bw (gN 3) (bw (gN 4) (ff)))) cS
def jG:cM:=aA (bo 1 (aS (aa (mK (.int 0)) (ak)))) (aA (kB (kU (aQ cK (mV 0) (mK (.int 0)))) (gN 2) cT) (bD (HE (aQ cN (aQ cK (mV 0) (mK (.int 0))) (mK (.int 0))) (aQ cN (cC eg (mV 1)) (aQ cK (mV 0) (mK (.int 0)))))))
def da:List D->M D:=lU 5 1 jG
def gH:gh:=cz inD (mV 1) (mV 0)
def gJ:TM:=mV 0
def eX:gh:=iL
def eY:TM:=cC eg (aL (bj (dM (aQ cK (mV 1) (mK (.int 1)))) (gN 0) gH gJ [none,ar 0]))
def nI:cM:=aA (bo 1 (aL (cC bF (aL (bj (kU (aQ cK (mV 0) (mK (.int 0)))) (gN 0) eX eY [none,ar 0]))))) (aA (fx (cz cN (mV 1) (aL (aS (aE (mK (.int 1)) (aE (mK (.int 1)) (aE (mK (.int 1)) (aE (mK (.int 3)) (ak)))))))) (bD (mK (.tup [.str "stays",.int 3]))) (cn)) (aA (fx (uj (cz cN (mV 1) (aL (aS (ak)))) (uj (cz cN (mV 1) (aL (aS (aa (mK (.int 0)) (ak))))) (cz cN (mV 1) (aL (aQ cY (aL (aS (aa (mK (.int 1)) (aa (mK (.int 1)) (ak))))) (aL (aQ qF (aS (aa (mK (.int 2)) (ak))) (aQ dm (aQ cK (mV 0) (mK (.int 0))) (mK (.int 2)))))))))) (bD (dU (aa (mK (.str "gone")) (aa (aQ cK (mV 0) (mK (.int 0))) (ak))))) (cn)) (aA (fx (cz cN (mV 1) (aL (aQ qF (aS (aa (mK (.int 2)) (ak))) (aQ cK (mV 0) (mK (.int 0)))))) (bD (dU (aa (mK (.str "stays")) (aa (aQ cK (mV 0) (mK (.int 0))) (ak))))) (cn)) (bD (mK (.tup [.str "grows"]))))))
def fZ:List D->M D:=lU 2 1 nI
def nJ:cM:=bD (nA (az cy (aa (mV 1) (ak))) (Ds Da xn (mK (.int 0)) (mV 1) (mV 0)))
def eQ:List D->M D:=lU 2 2 nJ
def kJ:cM:=aA (bo 2 (az cR (aa (mV 0) (aa (mV 1) (ak))))) (aA (fx (cz GU (mV 2) (aQ x9 (mK (.int 10)) (mK (.int 18)))) (bD (aS (aa (aQ dm (mV 2) (aQ x9 (mK (.int 10)) (mK (.int 18)))) (aa (mK (.bl b_)) (ak))))) (cn)) (bD (aS (aa (aQ mv (mV 2) (mK (.int 2147483647))) (aa (mK (.bl dr)) (ak))))))
def eA:List D->M D:=lU 3 2 kJ
def bZ:cM:=oy (qz cb (mV 3) (qz lr (mV 2) (aL (az aD (aa (mV 0) (aa (cC eg (mV 2)) (ak)))))))
def dO:cM:=aA (bo 2 (cC pk (mV 1))) (aA (bo 3 (aS (ak))) (aA (Dt 64 (cz lq (mV 2) (aL (aS (ak)))) bZ) (bD (mV 3))))
def aZ:List D->M D:=lU 4 2 dO
def eB:cM:=aA (bo 1 (aS (aE (mK .non) (aE (mK (.int 0)) (aE (mK (.tup [])) (aE (mK (.tup [.int 15,.tup []])) (aE (mK (.tup [.int (-1),.tup []])) (aE (mK (.tup [.bl b_,.tup []])) (aE (dU (aa (mK (.int 2)) (aa (aS (ak)) (ak)))) (aE (aS (aa (mK (.int 2)) (aa (mK (.tup [])) (ak)))) (aE (mK (.tup [.int 2,.tup [.tup [.int 1,.int 0]]])) (aE (mK (.tup [.int 2,.tup [.tup [.int 0,.int 0]]])) (aE (mK .emp) (aE (mK (.str "2:")) (ak))))))))))))))) (aA (bo 1 (aQ cY (mV 1) (aS (aE (mK (.tup [.int 2,.tup [.tup [.int 0,.int 1],.tup [.int 0,.int 1]]])) (aE (mK (.tup [.int 3,.tup [.tup [.int 0,.int 2],.tup [.int 0,.int 1]]])) (aE (mK (.tup [.int 2,.tup [.tup [.int 0,.int 2]]])) (aE (mK (.tup [.int 2,.tup [.tup [.int 0,.bl b_]]])) (aE (mK (.tup [.int 2,.tup [.tup [.int 0,.int 1,.int 1]]])) (ak))))))))) (aA (bo 1 (aQ cY (mV 1) (aS (aE (mK (.tup [.int 2,.tup [.int 0,.int 1]])) (aE (mK (.tup [.int 2,.non])) (aE (mK (.tup [.int 2,.tup [],.tup []])) (aE (mK (.tup [.int 2])) (aE (dU (aa (mK (.int 2)) (aa (dU (aa (aS (aa (mK (.int 0)) (aa (mK (.int 1)) (ak)))) (ak))) (ak)))) (aE (mK (.tup [.int 2,.tup [.non]])) (aE (mK (.tup [.str "2",.tup []])) (aE (mK (.tup [.int 0,.tup [.tup [.int 0,.int 1]]])) (ak)))))))))))) (bD (aQ cK (mV 1) (az aD (aa (mV 0) (aa (mK (.int 25)) (ak))))))))
def dv:List D->M D:=lU 2 1 eB
def nL:cM:=aA (fx (fq (bV (az cQ (aa (mV 1) (ak))))) (bD (mK (.bl dr))) (cn)) (aA (se (mV 1) (eL 2 (bw (gN 2) (bw (gN 3) (ff))))) (bD (nA (az eQ (aa (mV 0) (aa (mV 2) (ak)))) (nA (az eQ (aa (mV 0) (aa (mV 3) (ak)))) (aQ xn (mV 2) (mV 3))))))
def jf:List D->M D:=lU 4 2 nL
def gK:gh:=cz xn (aL (az aD (aa (mV 1) (aa (mK (.int 8)) (ak))))) (aQ cK (aL (aS (aa (mK (.int 2)) (aa (mK (.int 4)) (aa (mK (.int 6)) (ak)))))) (aQ mv (mV 2) (mK (.int 3))))
def gL:TM:=mV 0
def eZ:cM:=oy (qz cb (mV 4) (cC b9 (aL (cC bF (aL (aS (aa (aQ cK (mV 5) (mV 6)) (aa (aQ cK (mV 5) (aQ cK (aL (aS (aE (aQ dm (mV 6) (mK (.int 1))) (aE (aQ dm (mV 6) (mK (.int 1))) (aE (mK (.int 0)) (aE (aQ kq (mV 6) (mK (.int 2))) (ak))))))) (aQ dm (mV 3) (mK (.int 3))))) (ak)))))))))
def dW:gh:=cz cN (aL (az aD (aa (mV 1) (aa (mK (.int 12)) (ak))))) (mK (.int 0))
def dX:TM:=mV 0
def e9:gh:=cz lq (aQ inD (mV 0) (mV 1)) (aQ inD (mV 0) (mV 2))
def fe:TM:=mV 0
def iz:cM:=aA (bo 2 (az maxD (aa (mK (.int 0)) (aa (aQ dm (mV 1) (aQ cK (aL (aS (aE (mK (.int 0)) (aE (mK (.int 0)) (aE (mK (.int 1)) (aE (mK (.int 0)) (aE (mK (.int 2)) (aE (mK (.int 1)) (aE (mK (.int 3)) (aE (mV 1) (ak))))))))))) (aL (az aD (aa (mV 0) (aa (mK (.int 8)) (ak))))))) (ak))))) (aA (bo 3 (aL (az aD (aa (mV 0) (aa (mK (.int 7)) (ak)))))) (aA (bo 4 (bj (dM (aL (az ba (aa (mV 2) (ak))))) (gN 0) gK gL [none,ar 0,ar 3])) (aA (bo 5 (aL (az aZ (aa (mV 0) (aa (aL (cC bM (mV 2))) (ak)))))) (aA (fx (cz pj (mV 3) (mK (.int 2))) (aA (bo 4 (aS (ak))) (aA (kB (yx (mK (.int 1)) (mV 2)) (gN 6) eZ) (aA (fx (jT (cz cN (mV 3) (mK (.int 4))) (cz pj (mV 2) (mK (.int 2)))) (oy (qz cb (mV 4) (cC b9 (aL (cC bF (aL (aS (aa (aQ cK (mV 5) (mK (.int 0))) (aa (aQ cK (mV 5) (aQ dm (mV 2) (mK (.int 1)))) (ak)))))))))) (cn)) (aA (bo 7 (aL (bj (dM (aL (az ba (aa (mV 2) (ak))))) (gN 0) dW dX [none,ar 0]))) (bo 4 (bj (dM (aL (az ba (aa (mV 2) (ak))))) (gN 0) e9 fe [none,ar 4,ar 7])))))) (cn)) (bD (dU (aa (mV 2) (aa (cC b9 (aL (cC bF (mV 4)))) (ak)))))))))
def dw:List D->M D:=lU 8 2 iz
def gq:gh:=iL
def gr:TM:=aL (az jf (aa (mV 1) (aa (mV 0) (ak))))
def nM:cM:=aA (fx (fq (bV (aL (az cQ (aa (mV 0) (ak)))))) (bD (mK (.bl dr))) (cn)) (aA (se (mV 0) (eL 2 (bw (gN 1) (bw (gN 2) (ff))))) (aA (fx (uj (fq (bV (aL (az cy (aa (mV 1) (ak)))))) (uj (fq (ui Da Da (mK (.int 0)) (mV 1) (mK (.int 14)))) (fq (bV (g0 (mV 2) "tuple"))))) (bD (mK (.bl dr))) (cn)) (bD (nA (cC rT (aL (bj (dM (mV 2)) (gN 0) gq gr [none,ar 1]))) (aL (az eo (aa (mV 2) (ak))))))))
def g9:List D->M D:=lU 3 1 nM
def dy:gh:=iL
def dz:TM:=dU (aa (mV 0) (aa (aQ cY (mV 0) (mK (.int 1))) (ak)))
def dC:gh:=iL
def dD:TM:=dU (aa (mK (.int 0)) (aa (mV 0) (ak)))
def gu:cM:=aA (bo 1 (aL (az aD (aa (mV 0) (aa (mK (.int 15)) (ak)))))) (aA (bo 2 (aL (az aD (aa (mV 0) (aa (mK (.int 5)) (ak)))))) (aA (fx (cz cN (mV 2) (mK (.int 3))) (bo 1 (aQ cY (mK (.int 1)) (aL (az aD (aa (mV 0) (aa (mK (.int 7)) (ak))))))) (cn)) (aA (bo 3 (aL (bj (kU (aQ dm (mV 1) (mK (.int 1)))) (gN 0) dy dz [none]))) (aA (fx (jT (cz cN (mV 2) (mK (.int 1))) (cz pj (mV 1) (mK (.int 2)))) (bo 3 (aL (aQ cY (mV 3) (aL (aS (aa (dU (aa (mK (.int 0)) (aa (aQ dm (mV 1) (mK (.int 1))) (ak)))) (ak))))))) (cn)) (aA (fx (jT (cz cN (mV 2) (mK (.int 2))) (cz pj (mV 1) (mK (.int 3)))) (bo 3 (aL (aQ cY (aL (Ee (mV 3) (oS (mK (.int 1))) (oN))) (aL (aS (aa (aQ cK (aL (aS (aa (mK (.tup [.int 0,.int 2])) (aa (dU (aa (mK (.int 0)) (aa (aQ dm (mV 1) (mK (.int 1))) (ak)))) (ak))))) (aL (az aD (aa (mV 0) (aa (mK (.int 2)) (ak)))))) (ak))))))) (cn)) (aA (fx (cz cN (mV 2) (mK (.int 3))) (bo 3 (aL (bj (yx (mK (.int 1)) (mV 1)) (gN 0) dC dD [none]))) (cn)) (aA (bo 4 (aL (az cf (aa (dU (aa (mV 1) (aa (cC b9 (mV 3)) (ak)))) (aa (aL (az aZ (aa (mV 0) (aa (aL (cC bM (mV 1))) (ak))))) (ak)))))) (bD (Dq (cz cN (mV 2) (mK (.int 4))) (aL (az dw (aa (mV 0) (aa (mK (.int 6)) (ak))))) (mV 4))))))))))
def bO:List D->M D:=lU 5 1 gu
def nN:cM:=fx (fq (bV (aL (az g9 (aa (mV 0) (ak)))))) (yR "NoWeb" (aa (mK (.str "this is no web")) (ak))) (cn)
def c8:List D->M D:=ou 1 1 nN
def iD:gh:=cz inD (mV 1) (mV 0)
def iE:TM:=mV 0
def iF:gh:=iL
def iG:TM:=cC eg (aL (bj (dM (mV 1)) (gN 0) iD iE [none,ar 0]))
def pG:cM:=aA (oy (aL (az c8 (aa (mV 0) (ak))))) (aA (se (mV 0) (eL 2 (bw (gN 1) (bw (gN 2) (ff))))) (bD (aL (B4 (bj (kU (mV 1)) (gN 0) iF iG [none,ar 2])))))
def fS:List D->M D:=ou 3 1 pG
def jg:gh:=iL
def jh:TM:=Dq (cz cN (mV 0) (mV 1)) (mV 2) (mV 0)
def fw:cM:=aA (bo 6 (az minD (aa (aQ cK (mV 3) (mV 4)) (aa (aQ cK (mV 3) (mV 5)) (ak))))) (aA (bo 7 (az maxD (aa (aQ cK (mV 3) (mV 4)) (aa (aQ cK (mV 3) (mV 5)) (ak))))) (bo 3 (aL (B4 (bj (dM (mV 3)) (gN 0) jg jh [none,ar 7,ar 6])))))
def gv:gh:=cz cN (aQ cK (mV 1) (mV 0)) (mV 0)
def gw:TM:=mV 0
def ji:gh:=cz cN (aQ cK (mV 1) (mV 0)) (mV 2)
def jj:TM:=mV 0
def jk:gh:=iL
def jl:TM:=cC b9 (aL (bj (kU (mV 1)) (gN 0) ji jj [none,ar 2,ar 0]))
def sI:cM:=aA (oy (aL (az c8 (aa (mV 0) (ak))))) (aA (se (mV 0) (eL 2 (bw (gN 1) (bw (gN 2) (ff))))) (aA (bo 3 (aL (cC bM (mV 1)))) (aA (kB (dM (mV 2)) (eL 2 (bw (gN 4) (bw (gN 5) (ff)))) fw) (aA (Hi (bo 8 (aL (bj (kU (mV 1)) (gN 0) gv gw [none,ar 3])))) (bD (aL (B4 (bj (dM (mV 8)) (gN 0) jk jl [none,ar 1,ar 3]))))))))
def dY:List D->M D:=ou 9 1 sI
def jH:cM:=fx (cz pj (cC eg (aL (az dY (aa (mV 0) (ak))))) (mK (.int 1))) (yR "NotJoined" (aa (mK (.str "the web has more than one piece")) (ak))) (cn)
def de:List D->M D:=ou 1 1 jH
def f7(F:List D->M D):gh:=iL
def f9(F:List D->M D):TM:=aL (az F (aa (mV 0) (aa (mV 1) (ak))))
def cH(F:List D->M D):cM:=aA (fx (bV (B2 (mV 1) "tuple" "list")) (aA (fx (uj (cz lq (g0 (mV 0) "tuple") (g0 (mV 1) "tuple")) (cz lq (g0 (mV 0) "list") (g0 (mV 1) "list"))) (bD (mK (.bl dr))) (cn)) (aA (fx (cz lq (cC eg (mV 0)) (cC eg (mV 1))) (bD (mK (.bl dr))) (cn)) (bD (cC rT (aL (bj (sA (mV 0) (mV 1)) (eL 2 (bw (gN 0) (bw (gN 1) (ff)))) (f7 F) (f9 F) [none,none])))))) (cn)) (bD (nA (aQ cN (mV 0) (mV 1)) (aQ cN (g0 (mV 0) "bool") (g0 (mV 1) "bool"))))
def bN:Nat->List D->M D
 |0=>fun _=>M.fail
 |n+1=>lU 2 2 (cH (bN n))
def dE:List D->M D:=bN 6
def hU:gh:=iL
def hV:TM:=aQ pj (mV 0) (mK (.int 2))
def ux:cM:=aA (oy (aL (az de (aa (mV 0) (ak))))) (aA (se (mV 0) (eL 2 (bw (gN 1) (bw (gN 2) (ff))))) (aA (bo 3 (aL (az fS (aa (mV 0) (ak))))) (aA (fx (cz cN (cC b9 (aL (cC bF (mV 3)))) (mK (.tup [.int 1,.int 1,.int 1,.int 3]))) (bD (mK (.tup [.str "stays",.int 3]))) (cn)) (aA (fx (bV (cC uw (aL (B4 (bj (dM (mV 3)) (gN 0) hU hV [none]))))) (bD (mK (.tup [.str "grows"]))) (cn)) (aA (fx (jT (bT (mV 2)) (cz cN (cC eg (mV 2)) (mV 1))) (bD (dU (aa (mK (.str "stays")) (aa (mV 1) (ak))))) (cn)) (bD (dU (aa (mK (.str "gone")) (aa (mV 1) (ak))))))))))
def fF:List D->M D:=ou 4 1 ux
def bR:gh:=bV (aQ cK (mV 1) (mV 0))
def bS:TM:=mV 0
def eE(fv:D)(cc:M D):cM:=aA (bo 1 (mK .non)) (aA (su 0 2 1 fv cc) (aA (bo 3 (aS (aa (cO (mV 1) "NoWeb") (aa (cO (mV 1) "NoPlace") (aa (cO (mV 1) "NoPlaces") (ak)))))) (aA (bo 3 (aQ cY (mV 3) (aL (aS (aa (cO (mV 1) "NoMap") (aa (cO (mV 1) "NoSharing") (aa (cO (mV 1) "NoRoot") (ak)))))))) (aA (bo 3 (aQ cY (mV 3) (aL (aS (aa (cO (mV 1) "NoNumber") (aa (cO (mV 1) "NotJoined") (aa (cO (mV 1) "NoTie") (ak)))))))) (aA (bo 3 (aQ cY (mV 3) (aL (aS (aa (cO (mV 1) "NoText") (aa (cO (mV 1) "NoLine") (aa (cO (mV 1) "NoDeed") (ak)))))))) (aA (oy (qz cb (mV 3) (cO (mV 1) "TooGreat"))) (aA (fx (fq (bV (yQ (mV 1)))) (bD (mK .non)) (cn)) (aA (bo 4 (aL (bj (kU (mK (.int 13))) (gN 0) bR bS [none,ar 3]))) (bD (Dq (cz cN (mV 4) (aL (aS (aa (mK (.int 12)) (ak))))) (aL (aQ cY (mV 4) (aL (aS (aa (lX dr (mV 1)) (aa (lX b_ (mV 1)) (ak))))))) (mV 4)))))))))))
def bA:D->M D->List D->M D:=fun fv cc es=>ou 5 1 (eE fv cc) (fv::es)
def bc:M D->List D->M D:=bA (.fn 0 0 "" [] [])
def nO:TM:=aL (az fF (aa (mV 0) (ak)))
def jm:cM:=fx (bV (aL (az da (aa (mV 3) (ak))))) (fx (fq (bV (aL (az dE (aa (aL (az fF (aa (mV 3) (ak)))) (aa (aL (az fZ (aa (mV 3) (ak)))) (ak))))))) (bD (mK (.bl dr))) (cn)) (fx (cz lq (aL (sv [3] (ak) nO bc)) (aL (aS (aa (mK (.int 7)) (ak))))) (bD (mK (.bl dr))) (cn))
def nP:TM:=aL (az fF (aa (mV 0) (ak)))
def jo:cM:=aA (bo 2 (az eA (aa (mV 0) (aa (mV 1) (ak))))) (aA (kB (dM (aL (aS (aa (aL (az bO (aa (mV 2) (ak)))) (aa (aL (az bO (aa (mV 2) (ak)))) (ak)))))) (gN 3) jm) (aA (bo 4 (aL (az dv (aa (mV 2) (ak))))) (fx (cz lq (aL (sv [4] (ak) nP bc)) (aL (aS (aa (mK (.int 0)) (ak))))) (bD (mK (.bl dr))) (cn))))
def yY:cM:=aA (kB (kU (az maxD (aa (mK (.int 1)) (aa (az minD (aa (cC eg (mV 0)) (aa (mK (.int 10)) (ak)))) (ak))))) (gN 1) jo) (bD (nA (aQ cN (aL (az fF (aa (mK (.tup [.int 0,.tup []])) (ak)))) (mK (.tup [.str "gone",.int 0]))) (aQ cN (aL (az fF (aa (mK (.tup [.int 1,.tup []])) (ak)))) (mK (.tup [.str "gone",.int 1])))))
def pH:List D->M D:=lU 5 1 yY
theorem kK:2<=lim:=by unfold lim;omega
theorem Fp:3<=lim:=by unfold lim;omega
theorem Fq:BY (ar d::r) 0=aC d:=rfl
theorem Fs:BY (o0::ar d::r) 1=aC d:=rfl
theorem Ft:BY (o0::o1::ar d::r) 2=aC d:=rfl
theorem Fu:BY (o0::o1::o2::ar d::r) 3=aC d:=rfl
theorem Fv:BY (o0::o1::o2::o3::ar d::r) 4=aC d:=rfl
theorem gx:fB S n (.int i)=ar (.int i):=by cases n<;>rfl
theorem lF:fB S n (.bl b)=ar (.bool b):=by cases n<;>rfl
theorem eq_int{Q:D->ay->Prop}:runs (cN (.int a) (.int b)) S Q↔Q (.bl (decide (a=b))) S:=by
 unfold cN;rw[d6 gx gx];have:f' (.int a) (.int b)=decide (a=b):=by
  simp only[f'];rw[J1];simp
 rw[this]
theorem l6(l:List Bool):boolsOf (l.map D.bl)=ar l:=by
 induction l with
 |nil=>rfl
 |cons b l ih=>simp[boolsOf,ih]
theorem bP:(S++[xs])[S.length]? =ar xs:=by simp
theorem Fw{Q:D->ay->Prop}:runs (cN (.bl a) (.bl b)) S Q↔Q (.bl (a==b)) S:=by
 unfold cN;rw[d6 lF lF];have:f' (.bool a) (.bool b)=(a==b):=by cases a<;>cases b<;>simp[f']
 rw[this]
theorem wU{α:Type}(a:α):jU (aC a:M α)=aC a:=rfl
theorem Bi{α Z:Type}{c:Prop} [Decidable c]{a b:M α}{f:α->M Z}:((if c then a else b)>>=f)=if c then a>>=f else b>>=f:=by split<;>rfl
theorem b7{α:Type}(l:List α):l.filter (fun _=>b_)=l:=List.filter_eq_self.mpr fun _ _=>rfl
theorem fG{m:cM}{ds:List D}(h:m (ds.map ar++dV (N - n) none)=aC o)(Y:outD o=aC d)(Z:ds.length=n:=by rfl):lU N n m ds=aC d:=by
 unfold lU ou;rw[if_pos Z];show(jU (m _)>>=outD)=_;rw[h,wU,ao,Y]
theorem yZ{m n:TM}(Y:m ρ=aC x)(Z:n ρ=aC y):yx m n ρ=ju [x,y]:=by
 have:aa m (aa n ak) ρ=aC [x,y]:=by unfold aa;rw[Y,ao,Z,ao];rfl
 unfold yx;rw[this,ao]
theorem nQ{m:TM}(Z:m ρ=aC x):kU m ρ=lu [x]:=by
 have:aa m ak ρ=aC [x]:=by unfold aa;rw[Z,ao];rfl
 unfold kU;rw[this,ao]
theorem Fx(h: -(2 ^ 62)<=i/\i<2 ^ 62/\ -(2 ^ 62)<=j/\j<2 ^ 62):ju [.int i,.int j]=aC ⟨a9 i (j - i).toNat,.none⟩:=by unfold ju;exact if_pos h
theorem y0(h: -(2 ^ 62)<=j/\j<2 ^ 62):lu [.int j]=aC ⟨a9 0 j.toNat,.none⟩:=by unfold lu;exact if_pos h
theorem b8{f:D->D->M D}{m n:TM}(Y:m ρ=aC x)(Z:n ρ=aC y):aQ f m n ρ=f x y:=by unfold aQ;rw[Y,ao,Z,ao]
theorem DJ{bs:List Bool}:uw [.fz (bs.map D.bl)]=aC (.bl (bs.any id)):=by
 show(match boolsOf (bs.map D.bl)with|some bs=>(aC (D.bl (bs.any id)):M D)|none=>M.fail)=_
 rw[l6]
theorem eF{f:List D->M D}{m:TM}(h:m ρ=aC x):cC f m ρ=f [x]:=by
 have:aa m ak ρ=aC [x]:=by unfold aa;rw[h,ao];rfl
 unfold cC az;rw[this,ao]
theorem dF{m:TM}(h:m ρ=aC x):bD m ρ=aC (.ret x):=by unfold bD;rw[h];rfl
theorem qG(bs:List Bool):cw 0 (bs.map D.bl)=true:=by
 induction bs with
 |nil=>rfl
 |cons x r ih=>rw[Iu];unfold cw;rw[ih];unfold eP;rfl
theorem jq{mi:aB->M Iter}{g:m7}{t:gh}{m:TM}(R:aB->Prop)(q:D->Bool)(f:D->D)(X:mi ρ=aC ⟨its,.none⟩)(Z:its.length<=lim)(Y:R (jD js ρ))(W:∀d∈its,∀ ρ,R ρ->∃ ρ1,g d ρ=aC ρ1/\R ρ1/\t ρ1=aC (q d)/\(q d=b_->m ρ1=aC (f d)))
  (U:cw 0 ((its.filter q).map f)=b_):aL (bj mi g t m js) ρ=aC (.fz ((its.filter q).map f)):=by
 have e:bj mi g t m js ρ=bq ((its.filter q).map f):=by
  unfold bj;rw[X,ao,Bg R q f Z Y W,ao]
 unfold aL;rw[e];exact bG U (by rw[HL];exact HX (Je _ _) Z)
section
variable {m n:cM}{ρ ρ':aB}{e e1 e2:TM}{x y d:D}{t:gh}{b:Bool}{o:Out}{N k:Nat}{ds:List D}{F:List D->M D}
theorem aW(h:m ρ=aC (.nx ρ')):aA m n ρ=n ρ':=by unfold aA;rw[h];rfl
theorem dZ(h:m ρ=aC (.ret d)):aA m n ρ=aC (.ret d):=by unfold aA;rw[h];rfl
theorem jW(h:m ρ=M.raise x):aA m n ρ=M.raise x:=by unfold aA;rw[h];rfl
theorem y8(h:e ρ=aC x):oy e ρ=aC (.nx ρ):=by unfold oy;rw[h];rfl
theorem nR(h:e ρ=M.raise x):oy e ρ=M.raise x:=by unfold oy;rw[h];rfl
theorem gM(h:e ρ=aC x):bo i e ρ=aC (.nx (ρ.set i (ar x))):=by unfold bo;rw[h];rfl
theorem bE(h:t ρ=aC b):fx t m n ρ=if b=b_ then m ρ else n ρ:=by unfold fx;rw[h];rfl
theorem bQ{f:D->D->M D}(Y:e1 ρ=aC x)(Z:e2 ρ=aC y)(h:f x y=aC (.bl b)):cz f e1 e2 ρ=aC b:=by
 unfold cz;rw[Y,ao,Z,ao,h];rfl
theorem cU(h:e ρ=aC x):az F (aa e ak) ρ=F [x]:=eF h
theorem sJ(h:e ρ=aC x):aL e ρ=aC x:=by unfold aL;rw[h];exact Bd
theorem Ef(h:e ρ=M.raise x):aL e ρ=M.raise x:=by unfold aL;rw[h];exact yV
theorem nS(h:m (ds.map ar++dV (N - k) none)=aC o)(Z:outD o=aC d)(Y:ds.length=k:=by rfl):ou N k m ds=aC d:=by
 unfold ou;rw[if_pos Y,h,ao,Z]
theorem fT(h:m (ds.map ar++dV (N - k) none)=M.raise x)(Z:ds.length=k:=by rfl):ou N k m ds=M.raise x:=by
 unfold ou;rw[if_pos Z,h];rfl
end
theorem wV:jU (bq us)=bq us:=by
 funext S;unfold jU bq;by_cases h:us.length<=lim
 ·rw[if_pos h]
 ·rw[if_neg h]
theorem call2{F:List D->M D}{e1 e2:TM}(Y:e1 ρ=aC x)(Z:e2 ρ=aC y):az F (aa e1 (aa e2 ak)) ρ=F [x,y]:=by
 have:aa e1 (aa e2 ak) ρ=aC [x,y]:=by unfold aa;rw[Y,ao,Z,ao];rfl
 unfold az;rw[this,ao]
theorem iM{e:TM}(h:e ρ=aC (.bl b)):bV e ρ=aC b:=by unfold bV;rw[h];rfl
theorem lG{us:List D}(h:us.length<=lim):b9 [.fz us]=aC (.tup us):=by
 show bY us=_;unfold bY;rw[if_pos h]
section
variable {α β:Type}{c:M α}{f:α->M β}{S S1:ay}{a:α}
theorem aH(h:c S=ar (.ok a,S1)):(c>>=f) S=f a S1:=by
 show M.bnd c f S=_;unfold M.bnd;rw[h]
end
section
variable {m n:cM}{ρ ρ':aB}{e e1 e2:TM}{x y:D}{S S1 S2:ay}{c:M D}{f:D->List D->M D}{F:List D->M D}
theorem aP(h:m ρ S=ar (.ok (.nx ρ'),S1)):aA m n ρ S=n ρ' S1:=aH h
theorem sL(h:e ρ S=ar (.ok x,S1)):oy e ρ S=ar (.ok (.nx ρ),S1):=aH h
theorem bU(h:e ρ S=ar (.ok x,S1)):bo i e ρ S=ar (.ok (.nx (ρ.set i (ar x))),S1):=aH h
theorem fH(h:e ρ S=ar (.ok x,S1)):bD e ρ S=ar (.ok (.ret x),S1):=aH h
theorem d9{us:List D}(h:us.length<=lim):bq us S=ar (.ok (.lst S.length),S++[us]):=by unfold bq;exact if_pos h
theorem dP(h:S[p]? =ar us):getL p S=ar (.ok us,S):=by unfold getL;rw[h];rfl
theorem jw{us:List D}(h:us.length<=lim)(Z:p<S.length):jN p us S=ar (.ok .non,S.set p us):=by unfold jN;exact if_pos ⟨h,Z⟩
theorem Fy(X:e1 ρ=aC x)(Y:Di x=aC ())(Z:e2 ρ=c):qz f e1 e2 ρ=c>>=fun y=>f x [y]:=by
 unfold qz;rw[X,ao,Y,ao,Z,eM];rfl
theorem vv(h:e ρ S=ar (.ok x,S1)):cC F e ρ S=F [x] S1:=by
 unfold cC az;rw[aH (a:=[x]) (S1:=S1)];show(e ρ>>=_) S=_;rw[aH h];rfl
theorem DK(Y:e1 ρ S=ar (.ok x,S1))(Z:e2 ρ S1=ar (.ok y,S2)):dU (aa e1 (aa e2 ak)) ρ S=ar (.ok (.tup [x,y]),S2):=by
 unfold dU;rw[aH (a:=[x,y]) (S1:=S2)]
 ·unfold bY;rw[if_pos (show[x,y].length<=lim from kK)];rfl
 ·show(e1 ρ>>=_) S=_;rw[aH Y];show(((e2 ρ>>=_)>>=_):M (List D)) S1=_;rw[aH (a:=[y]) (S1:=S2)]
  ·rfl
  ·rw[aH Z];rfl
end
theorem gy:fg ⟨its,.none⟩ g b [] ρ=aC (.nx ρ):=by
 unfold fg;rw[c9];rfl
theorem jX{g:m7}{b:cM}(h:g d ρ=aC ρ1)(Z:b ρ1 S=ar (.ok (.nx ρ2),S1)):fg ⟨its,.none⟩ g b (d::ds) ρ S=fg ⟨its,.none⟩ g b ds ρ2 S1:=by
 rw[fg,c9,ao,h,ao,aH Z]
theorem eR{m:cM}{ds:List D}(h:m (ds.map ar++dV (N - n) none) S=ar (.ok o,S1))(Y:outD o=aC d)(Z:ds.length=n:=by rfl):lU N n m ds S=ar (.ok d,S1):=by
 unfold lU ou;rw[if_pos Z,aH (a:=o) (S1:=S1),Y]
 ·rfl
 ·show jU (m _) S=_;unfold jU;rw[h]
theorem nU{mi:aB->M Iter}(Z:mi ρ=aC ⟨its,.none⟩)(h:fg ⟨its,.none⟩ g b its ρ S=ar (.ok o,S1)):kB mi g b ρ S=ar (.ok o,S1):=by
 unfold kB;rw[Z,ao];exact h
theorem HG:cN (.int i) (.int i)=aC (.bl b_):=bB fun S=>eq_int.mpr ⟨by rw[HU rfl],rfl⟩
theorem Hj:cN (.bl b) (.bl b)=aC (.bl b_):=bB fun S=>Fw.mpr ⟨by rw[La],rfl⟩
theorem Hk:lq (.bl b) (.bl b)=aC (.bl dr):=bB fun S=>by
 unfold lq;refine(d6 lF lF).mpr ⟨?_,rfl⟩;cases b<;>rfl
theorem HH:lq (.int i) (.int i)=aC (.bl dr):=bB fun S=>by
 unfold lq;refine(d6 gx gx).mpr ⟨?_,rfl⟩;simp[f']
theorem uy{bs:List Bool}:rT [.fz (bs.map D.bl)]=aC (.bl (bs.all id)):=by
 show(match boolsOf (bs.map D.bl)with|some bs=>(aC (D.bl (bs.all id)):M D)|none=>M.fail)=_
 rw[l6]
theorem sM:∀{xs:List D},d∈(xs.zip xs).map (fun p:D×D=>D.tup [p.1,p.2])->∃x∈xs,d= .tup [x,x]
 | x::r,h=>by
  rw[KN,Iu,Ig]at h;rcases h with rfl|h
  ·exact⟨x,.head _,rfl⟩
  ·obtain⟨y,Z,e⟩:=sM h;exact⟨y,.tail _ Z,e⟩
theorem a7{e:TM}{es:aB->M (List D)}(Y:e ρ=aC x)(Z:es ρ=aC ys):aa e es ρ=aC (x::ys):=by
 unfold aa;rw[Y,ao,Z];rfl
theorem sN{g:m7}{t:aB->M Bool}{m:TM}(R:aB->Prop)(q:D->Bool):∀(items:List D) (ρ:aB),R ρ->(∀d∈items,∀ ρ,R ρ->∃Z,g d ρ=aC Z/\R Z/\t Z S=ar (.ok (q d),S)/\m Z=aC d)->
  cm ⟨its,.none⟩ g t m items ρ S=ar (.ok (items.filter q),S)
 |[],ρ,_,_=>by unfold cm;rw[c9];rfl
 |d::ds,ρ,hR,hb=>by
  obtain⟨Z,e1,Y,e2,W⟩:=hb d (Im ..) ρ hR;have X:=sN (its:=its) R q ds Z Y fun x U=>hb x (HY _ U);unfold cm;rw[c9,ao,e1,ao,aH e2];cases hq:q d with
  |true=>rw[JZ hq,if_pos rfl,W,ao,aH X];rfl
  |false=>rw[J0 (by rw[hq];decide),if_neg (by decide),X]
section
variable {e1 e2:TM}{f:D->D->M D}{x y:D}{S S1 S2:ay}{ρ:aB}{F:List D->M D}
theorem gf(Y:e1 ρ S=ar (.ok x,S1))(Z:e2 ρ S1=ar (.ok y,S2)):aQ f e1 e2 ρ S=f x y S2:=by
 unfold aQ;rw[aH Y,aH Z]
theorem cV{es:aB->M (List D)}(Y:e1 ρ S=ar (.ok x,S1))(Z:es ρ S1=ar (.ok ys,S2)):aa e1 es ρ S=ar (.ok (x::ys),S2):=by
 unfold aa;rw[aH Y,aH Z];rfl
theorem y9(h:S[p]? =ar us)(Z:jM us j=ar x):cK (.lst p) (.int j) S=ar (.ok x,S):=by
 show(getL p>>=fun xs=>match jM xs j with|some d=>(aC d:M D)|none=>M.fail) S=_
 rw[aH (dP h),Z];rfl
theorem iH{es:aB->M (List D)}(h:es ρ S=ar (.ok ys,S1))(Z:ys.length<=lim):aS es ρ S=ar (.ok (.lst S1.length),S1++[ys]):=by
 unfold aS;rw[aH h];exact d9 Z
theorem vw(X:S[a]? =ar xs)(Z:S[b]? =ar ys)(Y:(xs++ys).length<=lim):cY (.lst a) (.lst b) S=ar (.ok (.lst S.length),S++[xs++ys]):=by
 show(getL a>>=fun xs=>getL b>>=fun ys=>bq (xs++ys)) S=_;rw[aH (dP X),aH (dP Z)];exact d9 Y
end
def uz:D->Bool
 | .int _=>b_
 |_=>dr
abbrev Aj(d:D):Prop:=Dh d=b_
def nV:D->Bool
 | .tup [_,_]=>b_
 |_=>dr
def gO(many:Int):D->Bool
 | .int i=>decide (0<=i) && decide (i<many)
 |_=>dr
def iP(many:Int):D->Bool
 | .tup [a,b]=>gO many a && (gO many b && match a,b with| .int i,.int j=>decide (i<j)|_,_=>dr)
 |_=>dr
def G8(d:D):Prop:=Aj d/\∀ds,d= .tup ds->∀x∈ds,Aj x
theorem jx(h:gO many d=b_):∃i,d= .int i/\0<=i/\i<many:=by
 cases d with
 |int i=>exact⟨i,rfl,by simpa [gO]using h⟩
 |_=>cases h
def qH:D->D->Bool
 | .tup xs,.tup ys=>match intsOf xs,intsOf ys with
  |some a,ar b=>HT.lexLt a b
  |_,_=>dr
 |_,_=>dr
def qI:List D->Bool
 |a::b::r=>qH a b && qI (b::r)
 |_=>b_
def vx(d:D):Prop:=∃ds ns,d= .tup ds/\intsOf ds=ar ns
theorem vy:∀l:List D,((l.zip (l.drop 1)).map fun p=>qH p.1 p.2).all id=qI l
 |[]=>rfl
 |[_]=>rfl
 |a::b::r=>by
  have:=vy (b::r);simp only[List.drop_succ_cons,List.drop_zero,List.zip_cons_cons,E_,GB,id]at this⊢;rw[qI, <-this]
theorem Fz(l:List D):S3.cutD l (ar 1) none=l.drop 1:=by
 unfold S3.cutD HT.sIx;cases l with
 |nil=>rfl
 |cons a r=>simp
def F8(d:D):Prop:=Aj d/\∀ds,d= .tup ds->∀x∈ds,Aj x/\∀ts,x= .tup ts->∀t∈ts,G8 t
def gQ:D->Bool
 | .tup [.int many,.tup ties]=>decide (0<=many) && (decide (many<=14) && (ties.all (iP many) && qI ties))
 |_=>dr
theorem Bj(h:iP many d=b_):∃i j,d= .tup [.int i,.int j]/\0<=i/\i<j/\j<many:=by
 unfold iP at h;split at h
 ·next a b=>
  simp only[hY]at h;obtain⟨Y,X,Z⟩:=h;obtain⟨i,rfl,U,T⟩:=jx Y;obtain⟨j,rfl,S,W⟩:=jx X;simp only[decide_eq_true_eq]at Z;exact⟨i,j,rfl,U,Z,W⟩
 ·cases h
theorem wW(h:iP many d=b_):vx d:=by
 obtain⟨i,j,rfl,_⟩:=Bj h;exact⟨_,[i,j],rfl,rfl⟩
section
variable {many:Int}{d:D}{ρ:aB}{e1 e2:TM}{b:Bool}{y:D}
theorem and_eq(Y:e1 ρ=aC (.bl b))(Z:b=b_->e2 ρ=aC y)(X:b=dr->y= .bl dr):nA e1 e2 ρ=aC y:=by
 unfold nA;rw[Y];cases b with
 |true=>exact Z rfl
 |false=>rw[X rfl];rfl
theorem zb{a b:Int}:cN (.int a) (.int b)=aC (.bl (decide (a=b))):=bB fun S=>eq_int.mpr ⟨rfl,rfl⟩
theorem vz(h:Aj d):cy [d]=aC (.bl (uz d)):=by
 cases d<;>first|rfl|cases h
theorem qJ(h:Aj d):cQ [d]=aC (.bl (nV d)):=by
 cases d with
 |tup ds=>
  refine fG (dF (and_eq (b:=b_) rfl (fun _=>(b8 (y:=.int 2) (eF (x:=.tup ds) rfl) rfl).trans zb) (fun e=>by cases e))) ?_
  show aC (D.bl (decide ((ds.length:Int)=2)))=_
  match ds with
  |[]=>rfl
  |[_]=>rfl
  |[_,_]=>rfl
  |_::_::_::r=>rw[Ij (by simp only[o_];omega)];rfl
 |_=>first|rfl|cases h
theorem vA(h:Aj d):eQ [.int many,d]=aC (.bl (gO many d)):=by
 cases d with
 |int i=>
  refine fG (dF (and_eq (b:=b_) ((cU rfl).trans (vz h)) (fun _=>?_) (fun e=>by cases e))) rfl
  show(if decide (0<=i)=b_ then (aC (D.bl (decide (i<many))):M D)else aC (.bl dr))=aC (.bl (decide (0<=i) && decide (i<many)));by_cases h0:0<=i
  ·rw[if_pos (HU h0),HU h0,Ku]
  ·rw[if_neg (by rw[Ip];exact h0),Ij h0,JL]
 |_=>first|rfl|cases h
theorem vB(h:nV d=b_):∃a b,d= .tup [a,b]:=by
 unfold nV at h;split at h
 ·exact⟨_,_,rfl⟩
 ·cases h
theorem qK{b:D}:iP many (.tup [a,b])=(gO many a && (gO many b && match a,b with| .int i,.int j=>decide (i<j)|_,_=>dr)):=rfl
theorem DL(h:G8 d):jf [.int many,d]=aC (.bl (iP many d)):=by
 by_cases hp:nV d=b_
 ·obtain⟨a,b,rfl⟩:=vB hp;have W:Aj a:=h.2 _ rfl a (.head _);have X:Aj b:=h.2 _ rfl b (.tail _ (.head _));refine fG (o:=.ret (.bl (iP many (.tup [a,b])))) ?_ rfl;unfold nL;have Z:fq (bV (az cQ (aa (mV 1) ak))) [ar (.int many),ar (.tup [a,b]),none,none]=aC false:=by
   show(bV _ _>>=_)=_;rw[iM ((cU rfl).trans (qJ h.1))];rfl
  refine(aW (ρ':=[ar (.int many),ar (.tup [a,b]),none,none]) ((bE Z).trans (if_neg (by decide)))).trans ((aW (ρ':=[ar (.int many),ar (.tup [a,b]),ar a,ar b]) rfl).trans (dF ?_))
  refine and_eq (b:=gO many a) ((call2 rfl rfl).trans (vA W)) (fun k1=>and_eq (b:=gO many b) ((call2 rfl rfl).trans (vA X)) (fun k2=>?_) fun k2=>?_) fun k1=>?_
  ·obtain⟨i,rfl,_⟩:=jx k1;obtain⟨j,rfl,_⟩:=jx k2;rw[qK,k1,k2];rfl
  ·rw[qK,k2,JL,Lm]
  ·rw[qK,k1,JL]
 ·have Y:nV d=false:=by rw[<-JP];exact hp
  have Z:fq (bV (az cQ (aa (mV 1) ak))) [ar (.int many),ar d,none,none]=aC true:=by
   show(bV _ _>>=_)=_;rw[iM ((cU rfl).trans (qJ h.1)),Y];rfl
  refine(fG (o:=.ret (.bl dr)) (dZ ((bE Z).trans (if_pos rfl))) rfl).trans ?_;unfold iP;split
  ·cases hp rfl
  ·rfl
theorem DM{a b:D}(Y:vx a)(Z:vx b):xn a b=aC (.bl (qH a b)):=by
 obtain⟨xs,ns,rfl,e1⟩:=Y;obtain⟨ys,ms,rfl,e2⟩:=Z;simp only[xn,e1,e2,qH]
def Hl:D->D
 | .tup [a,b]=>.bl (qH a b)
 |_=>.non
theorem zd(h:∀t∈ts,vx t)(W:ts.length<=1000):eo [.tup ts]=aC (.bl (qI ts)):=by
 have em:(((ts.zip (ts.drop 1)).map fun p:D×D=>D.tup [p.1,p.2]).filter fun _=>b_).map Hl=((ts.zip (ts.drop 1)).map fun p=>qH p.1 p.2).map D.bl:=by
  rw[b7,IK,IK];rfl
 have hs:aL (Ee (mV 0) (oS (mK (.int 1))) oN) [ar (.tup ts)]=aC (.tup (ts.drop 1)):=by
  refine sJ (?_ :bY (S3.cutD ts (ar 1) none)=_);rw[Fz];unfold bY;exact if_pos (by rw[Kl];unfold lim;omega)
 have X:sA (mV 0) (aL (Ee (mV 0) (oS (mK (.int 1))) oN)) [ar (.tup ts)]=aC ⟨(ts.zip (ts.drop 1)).map fun p:D×D=>D.tup [p.1,p.2],.none⟩:=by
  unfold sA;rw[a7 (x:=.tup ts) rfl (a7 hs rfl)];rfl
 have Z:=jq (g:=eL 2 (bw (gN 0) (bw (gN 1) ff))) (t:=fX) (m:=fY) (js:=[none,none]) (fun ρ=>∃x y,ρ=[x,y]) (fun _=>b_) Hl X (by rw[HL,List.length_zip];unfold lim;omega) ⟨none,none,rfl⟩
  (fun d hd ρ ⟨x,y,hρ⟩=>by
   subst hρ;obtain⟨⟨a,b⟩,Y,rfl⟩:=IS.mp hd;exact⟨_,rfl,⟨_,_,rfl⟩,rfl,fun _=>(b8 (x:=a) (y:=b) rfl rfl).trans (DM (h a (JU Y).1) (h b (Ks (JU Y).2)))⟩) (by rw[em];exact qG _)
 rw[em]at Z;refine fG (dF ((eF Z).trans uy)) ?_;rw[vy];rfl
theorem DN(h:F8 d)(W:∀m ts,d= .tup [m,.tup ts]->ts.length<=1000):g9 [d]=aC (.bl (gQ d)):=by
 by_cases hp:nV d=b_
 ·obtain⟨a,t,rfl⟩:=vB hp;obtain⟨L,_⟩:=h.2 _ rfl a (.head _);obtain⟨O,R⟩:=h.2 _ rfl t (.tail _ (.head _));refine fG (o:=.ret (.bl (gQ (.tup [a,t])))) ?_ rfl;unfold nM;have Q:fq (bV (aL (az cQ (aa (mV 0) ak)))) [ar (.tup [a,t]),none,none]=aC false:=by
   show(bV _ _>>=_)=_;rw[iM (sJ ((cU rfl).trans (qJ h.1)))];rfl
  refine(aW (ρ':=[ar (.tup [a,t]),none,none]) ((bE Q).trans (if_neg (by decide)))).trans ((aW (ρ':=[ar (.tup [a,t]),ar a,ar t]) rfl).trans ?_)
  have hw:fq (bV (aL (az cy (aa (mV 1) ak)))) [ar (.tup [a,t]),ar a,ar t]=aC (!uz a):=by
   show(bV _ _>>=_)=_;rw[iM (sJ ((cU rfl).trans (vz L)))];rfl
  have X:∀{p q:gh} {b:Bool} {ρ:aB},p ρ=aC b->uj p q ρ=if b=b_ then aC b_ else q ρ:=fun{p q b ρ} e=>by
   show(p ρ>>=_)=_;rw[e];rfl
  have no:∀{q:gh},uj (fq (bV (aL (az cy (aa (mV 1) ak))))) q [ar (.tup [a,t]),ar a,ar t]=aC b_->aA (fx (uj (fq (bV (aL (az cy (aa (mV 1) ak))))) q) (bD (mK (.bl dr))) cn) (bD (nA (cC rT (aL (bj (dM (mV 2)) (gN 0) gq gr [none,ar 1]))) (aL (az eo (aa (mV 2) ak))))) [ar (.tup [a,t]),ar a,ar t]=aC (.ret (.bl dr)):=fun e=>dZ ((bE e).trans (if_pos rfl));by_cases ew:uz a=b_
  ·cases a with
   | int many=>
    rw[ew]at hw;have T:fq (ui Da Da (mK (.int 0)) (mV 1) (mK (.int 14))) [ar (.tup [.int many,t]),ar (.int many),ar t]=aC (!(decide (0<=many) && decide (many<=14))):=by
     show(((if decide (0<=many)=b_ then (aC (D.bl (decide (many<=14))):M D)else aC (.bl dr))>>=ie)>>=_)=_;by_cases h0:0<=many
     ·rw[if_pos (HU h0),HU h0,Ku];rfl
     ·rw[if_neg (by rw[Ip];exact h0),Ij h0,JL];rfl
    by_cases hr:(decide (0<=many) && decide (many<=14))=b_
    ·rw [hr]at T;cases t with
     | tup ts=>
      have S:=W _ ts rfl;have N:uj (fq (bV (aL (az cy (aa (mV 1) ak))))) (uj (fq (ui Da Da (mK (.int 0)) (mV 1) (mK (.int 14)))) (fq (bV (g0 (mV 2) "tuple")))) [ar (.tup [.int many,.tup ts]),ar (.int many),ar (.tup ts)]=aC false:=by
       rw[X hw,if_neg (by decide),X T,if_neg (by decide)];rfl
      refine(aW ((bE N).trans (if_neg (by decide)))).trans (dF ?_)
      have em:(ts.filter fun _=>b_).map (fun d=>D.bl (iP many d))=(ts.map (iP many)).map D.bl:=by rw[b7,IK];rfl
      have hm:=jq (mi:=dM (mV 2)) (ρ:=[ar (.tup [.int many,.tup ts]),ar (.int many),ar (.tup ts)]) (g:=gN 0) (t:=gq) (m:=gr) (js:=[none,ar 1]) (its:=ts) (fun ρ=>∃x,ρ=[x,ar (.int many)]) (fun _=>b_) (fun d=>.bl (iP many d)) rfl (by unfold lim;omega) ⟨none,rfl⟩
       (fun d hd ρ ⟨x,hρ⟩=>by
        subst hρ;exact⟨_,rfl,⟨_,rfl⟩,rfl,fun _=>sJ ((call2 (x:=.int many) (y:=d) rfl rfl).trans (DL (R ts rfl d hd)))⟩) (by rw[em];exact qG _)
      rw[em]at hm;have U:(ts.map (iP many)).all id=ts.all (iP many):=by rw[Lh];rfl
      have Y:gQ (.tup [.int many,.tup ts])=(ts.all (iP many) && qI ts):=by
       show(decide (0<=many) && (decide (many<=14) && (ts.all (iP many) && qI ts)))=_;rw[<-Bool.and_assoc,hr,Ku]
      rw[Y];refine and_eq (b:=ts.all (iP many)) ((eF hm).trans (uy.trans (by rw[U]))) (fun Z=>?_) fun Z=>by rw[Z];rfl
      rw[Z,Ku];exact sJ ((cU rfl).trans (zd (fun t O=>wW (Ir.mp Z t O)) S))
     |_=>first|exact no (by rw[X hw,if_neg (by decide),X T,if_neg (by decide)];rfl)|cases O
    ·have Y:gQ (.tup [.int many,t])=false:=by
      cases t<;>first|rfl|(show(decide (0<=many) && (decide (many<=14) && _))=dr;rw[<-Bool.and_assoc,JP _ |>.mp hr,JL])
     rw[Y];rw[JP _ |>.mp hr]at T;exact no (by rw[X hw,if_neg (by decide),X T];rfl)
   |_=>cases ew
  ·have Y:gQ (.tup [a,t])=false:=by cases a<;>first|rfl|exact absurd rfl ew
   rw[Y];exact no (by rw[X hw,JP _ |>.mp ew];rfl)
 ·have P:nV d=false:=by rw[<-JP];exact hp
  have Q:fq (bV (aL (az cQ (aa (mV 0) ak)))) [ar d,none,none]=aC true:=by
   show(bV _ _>>=_)=_;rw[iM (sJ ((cU rfl).trans (qJ h.1))),P];rfl
  refine(fG (o:=.ret (.bl dr)) (dZ ((bE Q).trans (if_pos rfl))) rfl).trans ?_;unfold gQ;split
  ·cases hp rfl
  ·rfl
end
def eh(S:ay)(k:Nat):Prop:=∃st b,S[k]? =ar [.int st,.bl b]/\0<=st/\(b=dr->st<2147483647)
theorem eh.lt{S:ay}{k:Nat}(h:eh S k):k<S.length:=let ⟨_,_,e,_⟩:=h;(HQ.mp e).1
theorem vC{t:gh}{m n:cM}{ρ:aB}{b:Bool}{S S1:ay}(h:t ρ S=ar (.ok b,S1)):fx t m n ρ S=if b=b_ then m ρ S1 else n ρ S1:=by
 show(t ρ>>=fun c=>if c=b_ then m ρ else n ρ) S=_;rw[aH h];split<;>rfl
section
variable {S:ay}{k:Nat}{st x y many:Int}{b:Bool}{r:List (Option D)}{e1 e2:TM}{ρ:aB}
theorem Eg(e:S[k]? =ar [.int st,.bl b]):aQ cK (mV 0) (mK (.int 0)) (ar (.lst k)::r) S=ar (.ok (.int st),S):=y9 e rfl
theorem gF(Y:e1 ρ S=ar (.ok (.int x),S))(Z:e2 ρ S=ar (.ok (.int y),S))(h:0<y):aQ mv e1 e2 ρ S=ar (.ok (.int (x % y)),S):=
 (gf Y Z).trans (Iw (if_pos h:(if 0<y then (aC (D.int (x % y)):M D)else M.fail)=_) S)
theorem nW(Y:e1 ρ S=ar (.ok (.int x),S))(Z:e2 ρ S=ar (.ok (.int y),S))(h:tL x y):aQ qk e1 e2 ρ S=ar (.ok (.int (x*y)),S):=
 (gf Y Z).trans (Iw (if_pos h:(if tL x y then (aC (D.int (x*y)):M D)else M.fail)=_) S)
theorem zh(Y:e1 ρ S=ar (.ok (.int x),S))(Z:e2 ρ S=ar (.ok (.int y),S))(h:v8 x y):aQ kq e1 e2 ρ S=ar (.ok (.int (x / y)),S):=
 (gf Y Z).trans (Iw (if_pos h:(if v8 x y then (aC (D.int (x / y)):M D)else M.fail)=_) S)
theorem qL(Y:e1 ρ S=ar (.ok (.int x),S))(Z:e2 ρ S=ar (.ok (.int y),S)):aQ cY e1 e2 ρ S=ar (.ok (.int (x+y)),S):=(gf Y Z).trans rfl
theorem FA(e:S[k]? =ar [.int st,.bl b])(h:e1 (ar (.lst k)::r) S=ar (.ok (.int x),S)):se e1 (F7 (mV 0) (mK (.int 0))) (ar (.lst k)::r) S=ar (.ok (.nx (ar (.lst k)::r)),S.set k [.int x,.bl b]):=by
 have Y:i5 (.lst k) (.int 0) (.int x) S=ar (.ok (),S.set k [.int x,.bl b]):=by
  show(getL k>>=_) S=_;rw[aH (dP e)];exact aH (jw (us:=[.int x,.bl b]) kK (HQ.mp e).1)
 have Z:F7 (mV 0) (mK (.int 0)) (.int x) (ar (.lst k)::r) S=ar (.ok (ar (.lst k)::r),S.set k [.int x,.bl b]):=aH Y;show(e1 _>>=_) S=_;rw[aH h];exact aH Z
theorem nX{m n:cM}{d:D}{S1:ay}(h:m ρ S=ar (.ok (.ret d),S1)):aA m n ρ S=ar (.ok (.ret d),S1):=aH h
end
theorem DO{S:ay}{k:Nat}{many:Int}{Q:D->ay->Prop}(hs:eh S k)(Y:0<many)(N:many<1073741824)
  (X:∀j S',0<=j->j<many->S'.length=S.length->(∀i,i≠k->S'[i]? =S[i]?)->eh S' k->Q (.int j) S'):runs (aD [.lst k,.int many]) S Q:=by
 have T:=hs.lt;obtain⟨st,b,e,P,O⟩:=hs;have q:∀x:Int,0<=x % many/\x % many<many:=fun x=>⟨KF _ (by omega),J2 _ Y⟩
 have W:bV (aQ cK (mV 0) (mK (.int 1))) [ar (.lst k),ar (.int many),none,none] S=ar (.ok b,S):=aH (y9 (x:=.bl b) e rfl);have Z:∀(ys:List D) i,i≠k->(S.set k ys)[i]? =S[i]? :=fun ys i L=>IQ (i' L);cases b with
 |true=>
  refine⟨_,_,eR (o:=.ret (.int (st % many))) (S1:=S.set k [.int (st / many),.bl b_]) ?_ rfl,X _ _ (q _).1 (q _).2 (by simp) (Z _) ⟨_,b_,IF T,Int.ediv_nonneg P (by omega),fun z=>by cases z⟩⟩
  exact nX ((vC W).trans ((aP (bU (gF (Eg e) rfl Y))).trans ((aP (FA e (zh (Eg e) rfl ⟨Y,N⟩))).trans (fH rfl))))
 |false=>
  have K:=O rfl;generalize hst:(st*48271+29) % 2147483647=st';have s1:0<=st':=by rw[<-hst];exact KF _ (by decide)
  have s2:st'<2147483647:=by rw[<-hst];exact J2 _ (by decide)
  have e1:(S.set k [.int st',.bl dr])[k]? =ar [.int st',.bl dr]:=IF T;have R:=FA (r:=[ar (.int many),none,none]) e (gF (qL (nW (Eg e) (e2:=mK (.int 48271)) rfl (.inr ⟨by decide,by decide⟩)) (e2:=mK (.int 29)) rfl) (e2:=mK (.int 2147483647)) rfl (by decide))
  rw[hst]at R;have U:∀r,aQ mv (aQ cY (aQ cY (aQ qk (aQ cK (mV 0) (mK (.int 0))) (aQ cK (mV 0) (mK (.int 0)))) (aQ qk (mK (.int 39373)) (aQ cK (mV 0) (mK (.int 0))))) (mK (.int 7))) (mK (.int 2147483629)) (ar (.lst k)::r) (S.set k [.int st',.bl dr])=_:=fun r=>gF (qL (qL (nW (Eg e1) (Eg e1) (.inl ⟨by omega,by omega⟩)) (nW rfl (Eg e1) (.inl ⟨by decide,by decide⟩))) rfl) rfl (by decide)
  generalize hx:(st'*st'+39373*st'+7) % 2147483629=x at U;have x1:0<=x:=by rw[<-hx];exact KF _ (by decide)
  have x2:x<2147483629:=by rw[<-hx];exact J2 _ (by decide)
  refine⟨_,_,eR (o:=.ret (.int ((x*x+16807*x) % 2147483587 / 8 % many))) (S1:=S.set k [.int st',.bl dr]) ?_ rfl,X _ _ (q _).1 (q _).2 (by simp) (Z _) ⟨_,dr,e1,s1,fun _=>s2⟩⟩
  exact(aP (vC W)).trans ((aP R).trans ((aP (bU (U _))).trans ((aP (bU (gF (qL (nW rfl rfl (.inl ⟨by omega,by omega⟩)) (nW rfl rfl (.inl ⟨by decide,by decide⟩))) rfl (by decide)))).trans (fH (gF (zh rfl rfl ⟨by decide,by decide⟩) rfl Y)))))
theorem DP{S:ay}{ns:List Int}{k:Nat}:∃i,cR [.ro (ns.map D.int),.int k] S=ar (.ok (.int i),S):=by
 have Z:cz xn (mV 1) (cC eg (mV 0)) [ar (.ro (ns.map D.int)),ar (.int k)]=aC (decide ((k:Int)<(ns.map D.int).length)):=bQ (x:=.int k) (y:=.int (ns.map D.int).length) rfl rfl rfl;by_cases h:k<ns.length
 ·refine⟨ns[k],eR (o:=.ret (.int ns[k])) (nX ((Iw ((bE Z).trans (if_pos (HU (by rw[HL];omega)))) S).trans (fH (x:=.int ns[k]) (S1:=S) ?_))) rfl⟩
  have e:jM (ns.map D.int) (k:Int)=ar (.int ns[k]):=by
   unfold jM xm;simp[h]
  show(match jM (ns.map D.int) k with|some d=>(aC d:M D)|none=>M.fail) S=_
  rw[e];rfl
 ·exact⟨0,eR (o:=.ret (.int 0)) (Iw ((aW ((bE Z).trans (if_neg (by rw[Ip,HL];omega)))).trans rfl) S) rfl⟩
theorem Bk{S:ay}{ns:List Int}{k:Nat}{Q:D->ay->Prop}(X:∀xs,eh (S++[xs]) S.length->Q (.lst S.length) (S++[xs])):runs (eA [.ro (ns.map D.int),.int k]) S Q:=by
 obtain⟨c,U⟩:=DP (S:=S) (ns:=ns) (k:=k);have Z:bo 2 (az cR (aa (mV 0) (aa (mV 1) ak))) [ar (.ro (ns.map D.int)),ar (.int k),none] S=ar (.ok (.nx [ar (.ro (ns.map D.int)),ar (.int k),ar (.int c)]),S):=bU (x:=.int c) (by rw[call2 (x:=.ro (ns.map D.int)) (y:=.int k) rfl rfl];exact U)
 have W:∀ ρ,aQ x9 (mK (.int 10)) (mK (.int 18)) ρ=aC (.int 1000000000000000000):=fun ρ=>(b8 (x:=.int 10) (y:=.int 18) rfl rfl).trans (if_pos (e:=M.fail) (show Aq 10 18 from⟨by decide,by decide,by decide⟩))
 have Y:cz GU (mV 2) (aQ x9 (mK (.int 10)) (mK (.int 18))) [ar (.ro (ns.map D.int)),ar (.int k),ar (.int c)]=aC (decide (1000000000000000000<=c)):=bQ (x:=.int c) rfl (W _) rfl;by_cases h:1000000000000000000<=c
 ·exact⟨_,_,eR (o:=.ret (.lst S.length)) ((aP Z).trans (nX ((Iw ((bE Y).trans (if_pos (HU h))) S).trans (fH (iH (ys:=[.int (c - 1000000000000000000),.bl b_]) (cV (S1:=S) (Iw ((b8 (x:=.int c) rfl (W _)).trans rfl) S) (cV rfl rfl)) kK))))) rfl,X _ ⟨_,b_,bP,by omega,fun z=>by cases z⟩⟩
 ·exact⟨_,_,eR (o:=.ret (.lst S.length)) ((aP Z).trans ((aP (Iw ((bE Y).trans (if_neg (by rw[Ip];exact h))) S)).trans (fH (iH (ys:=[.int (c % 2147483647),.bl dr]) (cV (gF rfl rfl (by decide)) (cV rfl rfl)) kK)))) rfl,X _ ⟨_,dr,bP,KF _ (by decide),fun _=>J2 _ (by decide)⟩⟩
def qM(n a:Nat):List (List Int):=(k7 (a+1) (n - (a+1))).map fun b:Nat=>[(a:Int),(b:Int)]
def dh(n:Nat):List (List Int):=(d_ n).flatMap (qM n)
theorem pairs_len(Z:n<=14):(dh n).length<=91:=by
 have:∀m,m<15->(dh m).length<=91:=by decide+kernel
 exact this n (by omega)
theorem Bl(Z:n<=14):(qM n a).length<=14:=by unfold qM;simp;omega
structure Kp(k:Nat)(S S':ay):Prop where
 len:S.length<=S'.length
 oth:∀i,i<S.length->i≠k->S'[i]? =S[i]?
 st:eh S' k
theorem Kp.trans(a:Kp k S S1)(b:Kp k S1 S2):Kp k S S2:=⟨HX a.len b.len,fun i Z Y=>(b.oth i (HZ Z a.len) Y).trans (a.oth i Z Y),b.st⟩
theorem Kp.refl(h:eh S k):Kp k S S:=⟨HN _,fun _ _ _=>rfl,h⟩
theorem eh.grow(h:eh S k):eh (S++G) k:=by
 obtain⟨st,b,e,r⟩:=id h;exact⟨st,b,by rw[II h.lt];exact e,r⟩
theorem Kp.grow(h:eh S k)(G:ay):Kp k S (S++G):=⟨by simp,fun i Z _=>II Z,h.grow⟩
theorem vD{Q:D->ay->Prop}(hs:eh S k)(U:0<many)(Y:many<1073741824)(W:∀j Z,0<=j->j<many->Z.length=S.length->Kp k S Z->Q (.int j) Z):runs (aD [.lst k,.int many]) S Q:=
 DO hs U Y fun j Z a b c d e=>W j Z a b c ⟨JI c.symm,fun i _ X=>d i X,e⟩
theorem jz:∀ns:List Int,mapP (fB S n) (ns.map D.int)=ar (ns.map h9)
 |[]=>rfl
 |x::r=>by
  show(match fB S n (D.int x),mapP (fB S n) (r.map D.int)with|some p,ar ps=>ar (p::ps)|_,_=>none)=_
  rw[gx,jz r];rfl
theorem nY{ns:List Int}(h:S[k]? =ar (ns.map D.int)):fB S (n+1) (.lst k)=ar (.list (ns.map h9)):=by
 show((S[k]?).bind fun xs=>(mapP (fB S n) xs).map q_)=_;rw[h];show(mapP (fB S n) (ns.map D.int)).map q_=_;rw[jz];rfl
theorem pI{α Z:Type}(f:α->Z):∀(l:List α) (i:Nat),(l.map f).eraseIdx i=(l.eraseIdx i).map f
 |[],_=>rfl
 |_::_,0=>rfl
 |a::l,i+1=>by simp[pI f l i]
def qN(r:List Int):PyData:=.tuple (r.map h9)
theorem jA(r:List Int):fB S (n+1) (tupI r)=ar (qN r):=by
 show(mapP (fB S n) (r.map D.int)).map z3=_;rw[jz];rfl
theorem lH:∀rs:List (List Int),mapP (fB S (n+1)) (rs.map tupI)=ar (rs.map qN)
 |[]=>rfl
 |x::r=>by
  show(match fB S (n+1) (tupI x),mapP (fB S (n+1)) (r.map tupI)with|some p,ar ps=>ar (p::ps)|_,_=>none)=_
  rw[jA,lH r];rfl
theorem zj{rs:List (List Int)}(h:S[k]? =ar (rs.map tupI)):fB S (n+2) (.lst k)=ar (.list (rs.map qN)):=by
 show((S[k]?).bind fun xs=>(mapP (fB S (n+1)) xs).map q_)=_;rw[h];show(mapP (fB S (n+1)) (rs.map tupI)).map q_=_;rw[lH];rfl
theorem Bm{rs:List (List Int)}{Q:D->ay->Prop}(h:S[k]? =ar (rs.map tupI))(Z:∀b,Q (.bl b) S):runs (inD (tupI r) (.lst k)) S Q:=by
 unfold inD;rw[kC (jA r) (zj h) rfl];exact Z _
theorem FB{Q:D->ay->Prop}(Z:∀b,Q (.bl b) S):runs (lq (.bl a) (.bl b)) S Q:=by
 unfold lq;rw[d6 lF lF];exact Z _
theorem jY(ns:List Int):intsOf (ns.map D.int)=ar ns:=by
 induction ns with
 |nil=>rfl
 |cons x r ih=>simp[intsOf,ih]
theorem uA(rs:List (List Int)):rowsOf (rs.map tupI)=ar rs:=by
 induction rs with
 |nil=>rfl
 |cons x r ih=>
  show(match intsOf (x.map D.int),rowsOf (r.map tupI)with|some ns,ar nss=>ar (ns::nss)|_,_=>none)=_
  rw[jY,ih]
structure WebOk(many:Int)(ts:List (List Int)):Prop where
 el:∀t∈ts,∃a b:Int,t=[a,b]/\0<=a/\a<b/\b<many
 ris:ts.Pairwise fun a b=>HT.lexLt a b=b_
 few:ts.length<=21
theorem zl:∀t∈dh n,∃a b:Int,t=[a,b]/\0<=a/\a<b/\b<n:=by
 intro t X;unfold dh at X;obtain⟨a,W,Y⟩:=List.mem_flatMap.mp X;unfold qM at Y;obtain⟨b,Z,rfl⟩:=IS.mp Y;rw[Kc]at Z;rw[IA]at W;exact⟨a,b,rfl,by omega,by omega,by omega⟩
theorem pJ(Z:n<=7):(dh n).Pairwise (fun a b=>HT.lexLt a b=b_)/\(dh n).length<=21:=by
 have:∀m,m<8->(dh m).Pairwise (fun a b=>HT.lexLt a b=b_)/\(dh m).length<=21:=by decide+kernel
 exact this n (by omega)
theorem WebOk.of_sub(Y:n<=7){Z:List (List Int)}(h:Z.Sublist (dh n)):WebOk n Z:=
 ⟨fun t X=>zl t (h.subset X),List.Pairwise.sublist h (pJ Y).1,HX h.length_le (pJ Y).2⟩
theorem wX{Z:List (List Int)}(h:Z.Pairwise fun a b=>HT.lexLt a b=b_):cX Z=Z:=
 pv (dq Z) (fN Z) (h.imp fun z=>rY z)
theorem wY:qH (tupI a) (tupI b)=HT.lexLt a b:=by
 simp only[qH,tupI,jY]
theorem sO:∀{ts:List (List Int)},ts.Pairwise (fun a b=>HT.lexLt a b=b_)->qI (ts.map tupI)=b_
 |[],_=>rfl
 |[_],_=>rfl
 |a::b::r,h=>by
  obtain⟨Y,Z⟩:=IU.mp h;show(qH (tupI a) (tupI b) && qI ((b::r).map tupI))=b_;rw[wY,Y b (by simp),sO Z];rfl
theorem Bo(T:0<=many)(Z:many<=14)(w:WebOk many ts):gQ (.tup [.int many,.tup (ts.map tupI)])=true:=by
 have:(ts.map tupI).all (iP many)=true:=by
  rw[Lh,Ir];intro t W;obtain⟨a,b,rfl,Y,U,X⟩:=w.el t W;simp[tupI,iP,gO,Y,U,X];omega
 simp only[gQ,T,Z,this,sO w.ris,decide_true,Bool.and_self]
def FC:Nat->D->Bool
 |_,.ro _=>dr
 |_,.fn _ _ _ _ _=>dr
 |_,.exc _ _=>dr
 |n+1,.tup ds=>ds.all (FC n)
 |_,_=>b_
theorem vE(h:FC n d=b_):Aj d:=by
 cases d<;>first|rfl|(cases n<;>cases h)
theorem FD(h:FC (n+1) d=b_):G8 d:=⟨vE h,fun ds e x Z=>by
 subst e;exact vE (Ir.mp h x Z)⟩
def FE:D->Bool
 | .tup ds=>ds.all fun x=>match x with
  | .tup ts=>decide (ts.length<=18)
  |_=>b_
 |_=>b_
structure Good(d:D):Prop where
 nr:F8 d
 few:∀m ts,d= .tup [m,.tup ts]->ts.length<=18
theorem Bp(h:FC 3 d=b_)(T:FE d=b_):Good d:=⟨⟨vE h,fun ds e x U=>by
  subst e;have Z:=Ir.mp h x U;refine⟨vE Z,fun Y X t W=>?_⟩;subst X;exact FD (Ir.mp Z t W)⟩,fun m Y e=>by
  subst e;have:=Ir.mp T (.tup Y) (by simp)
  simpa using this⟩
def zm(d:D):Bool:=FC 3 d && FE d
theorem kL(h:zm d=b_):Good d:=by
 unfold zm at h;rw[IE]at h;exact Bp h.1 h.2
theorem B9{xs:List D}{j:Int}(X:0<=j)(Y:j<xs.length):∃d,jM xs j=ar d/\d∈xs:=by
 have Z:j.toNat<xs.length:=by omega
 refine⟨xs[j.toNat],?_,K8 Z⟩;unfold jM xm;simp[X,Y,Z]
section
variable {d:D}
theorem zo(h:F8 d)(Y:∀m ts,d= .tup [m,.tup ts]->ts.length<=1000):c8 [d]=if gQ d=b_ then aC .non else M.raise (.exc "NoWeb" []):=by
 have Z:fq (bV (aL (az g9 (aa (mV 0) ak)))) [ar d]=aC (!gQ d):=by
  show(bV _ _>>=_)=_;rw[iM (b:=gQ d) (sJ ((cU rfl).trans (DN h Y)))];rfl
 cases hw:gQ d with
 |true=>exact(nS ((bE Z).trans (by rw[hw];exact if_neg (by decide))) rfl).trans (if_pos rfl).symm
 |false=>exact(fT ((bE Z).trans (by rw[hw];exact if_pos rfl))).trans (if_neg (by decide)).symm
end
theorem cI(l:List (List Int)):cw 0 (l.map tupI)=true:=by
 have h:∀r:List Int,cw 0 (r.map D.int)=true:=fun r=>by
  induction r with
  |nil=>rfl
  |cons x r ih=>rw[Iu];unfold cw;rw[ih];unfold eP;rfl
 induction l with
 |nil=>rfl
 |cons x l ih=>rw[Iu];unfold cw;rw[ih];unfold tupI eP;rw[h];rfl
abbrev aY(n:Nat)(E:List (List Int)):D:=.tup [.int n,.tup (E.map tupI)]
theorem DQ:F8 (aY n E):=by
 refine⟨rfl,?_⟩;intro ds e x Z;cases e;simp only[gg,f_,or_false]at Z;rcases Z with rfl|rfl
 ·exact⟨rfl,fun X e=>by cases e⟩
 ·refine⟨rfl,fun X e t Y=>?_⟩;cases e;obtain⟨r,_,rfl⟩:=IS.mp Y;refine⟨rfl,fun ds e x Z=>?_⟩;cases e;obtain⟨i,_,rfl⟩:=IS.mp Z;exact rfl
theorem Bq{n:Nat}{E:List (List Int)}(w:WebOk n E):∀m Z,aY n E= .tup [m,.tup Z]->Z.length<=1000:=by
 intro m Z e;cases e;have:=w.few;rw[HL];omega
theorem same_int:bN (k+1) [.int i,.int i]=aC (.bl b_):=by
 refine fG (o:=.ret (.bl b_)) ?_ rfl;show cH _ [ar (.int i),ar (.int i)]=_;unfold cH;rw[aW (ρ':=[ar (.int i),ar (.int i)]) ((bE (b:=dr) (iM rfl)).trans (if_neg (by decide)))]
 refine dF ?_;show(aQ cN (mV 0) (mV 1) _>>=_)=_;rw[b8 (x:=.int i) (y:=.int i) rfl rfl,HG,ao];rw[show ie (D.bl b_)=aC b_ from rfl,ao,if_pos rfl,b8 (x:=.bl dr) (y:=.bl dr) rfl rfl,Hj]
theorem sP{xs:List D}(Q:xs.length<=1000)(h:∀x∈xs,bN k [x,x]=aC (.bl b_)):bN (k+1) [.tup xs,.tup xs]=aC (.bl b_):=by
 have em:((((xs.zip xs).map fun p:D×D=>D.tup [p.1,p.2]).filter fun _=>b_).map fun _=>D.bl b_)=(xs.map fun _=>b_).map D.bl:=by
  rw[b7,IK,IK];refine List.ext_getElem (by simp) fun i P R=>by simp
 have X:=jq (mi:=sA (mV 0) (mV 1)) (g:=eL 2 (bw (gN 0) (bw (gN 1) ff))) (t:=f7 (bN k)) (m:=f9 (bN k)) (js:=[none,none]) (ρ:=[ar (.tup xs),ar (.tup xs)])
  (its:=(xs.zip xs).map fun p:D×D=>D.tup [p.1,p.2]) (fun ρ=>∃x y,ρ=[x,y]) (fun _=>b_) (fun _=>.bl b_) rfl (by rw[HL,List.length_zip];unfold lim;omega) ⟨none,none,rfl⟩
  (fun d hd ρ ⟨x,y,hρ⟩=>by
   subst hρ;obtain⟨z,S,rfl⟩:=sM hd;exact⟨_,rfl,⟨_,_,rfl⟩,rfl,fun _=>sJ ((call2 rfl rfl).trans (h z S))⟩) (by rw[em];exact qG _)
 rw[em]at X;have Z:(xs.map fun _=>b_).all id=true:=by rw[Lh];exact Ir.mpr fun _ _=>rfl
 have hlen:∀j,j<2->cC eg (mV j) [ar (.tup xs),ar (.tup xs)]=aC (.int xs.length):=fun j W=>by
  match j,W with
  |0,_=>rfl
  |1,_=>rfl
 refine fG (o:=.ret (.bl b_)) ?_ rfl;show cH _ [ar (.tup xs),ar (.tup xs)]=_;unfold cH;refine dZ ?_;refine(bE (b:=b_) (iM rfl)).trans ?_;rw[if_pos rfl];have O:∀T,aQ lq (g0 (mV 0) T) (g0 (mV 1) T) [ar (.tup xs),ar (.tup xs)]=aC (.bl dr):=fun T=>(b8 (x:=.bl (gZ "tuple" T)) (y:=.bl (gZ "tuple" T)) rfl rfl).trans Hk;have Y:∀T,cz lq (g0 (mV 0) T) (g0 (mV 1) T) [ar (.tup xs),ar (.tup xs)]=aC false:=fun T=>bQ (x:=.bl (gZ "tuple" T)) (y:=.bl (gZ "tuple" T)) rfl rfl Hk;have U:uj (cz lq (g0 (mV 0) "tuple") (g0 (mV 1) "tuple")) (cz lq (g0 (mV 0) "list") (g0 (mV 1) "list")) [ar (.tup xs),ar (.tup xs)]=aC false:=by
  show(cz lq _ _ _>>=_)=_;rw[Y "tuple",ao];exact Y "list"
 rw[aW ((bE U).trans (if_neg (by decide))),aW ((bE (bQ (hlen 0 (by decide)) (hlen 1 (by decide)) HH)).trans (if_neg (by decide)))]
 refine dF ((eF X).trans (uy.trans ?_));rw[Z]
def nZ(c:M D)(k:D->M D):M D:=fun S=>match c S with
 |some (.ok _,S')=>k .non S'
 |some (.ex (.exc n ds),S')=>if n∈aV then k (.exc n ds) S' else none
 |_=>none
theorem zq{g:Str->Bool}(Z:n∈aV):sk g (.exc n ds)=aC (.bl (g n)):=if_pos Z
def uB(bs:List Bool):D->Bool
 | .int k=>bs.getD k.toNat dr
 |_=>dr
section
variable {S S':ay}{k:Nat}
theorem mI(Z:Kp k S S'):lV S S':=fun i xs Y e=>by
 by_cases h:i=k
 ·subst h;obtain⟨st,b,e2,_⟩:=Z.st;rw[e2]at e;cases e;exact .inr rfl
 ·exact .inl (by rw[<-Z.oth i Y h];exact e)
theorem qO(hs:eh S k)(Y:Kp k S S'):Kp k S (S'.take S.length)/\(S'.take S.length).length=S.length:=by
 have X:(S'.take S.length).length=S.length:=by rw[JN];have:=Y.len;omega
 have W:∀i,i<S.length->(S'.take S.length)[i]? =S'[i]? :=fun i Z=>by rw[JY,if_pos Z]
 refine⟨⟨JI X.symm,fun i Z U=>(W i Z).trans (Y.oth i Z U),?_⟩,X⟩;obtain⟨st,b,e,r⟩:=Y.st;exact⟨st,b,(W k hs.lt).trans e,r⟩
theorem zv{c:M D}(hs:eh S k)(h:c S=ar (.ok d,S'))(Z:Kp k S S')(Y:eP 0 d=b_):∃S1,fJ c S=ar (.ok d,S1)/\Kp k S S1/\S1.length=S.length:=
 ⟨_,lE h (mI Z) (.inr rfl) Z.len (qE d (vp (Iv _) d Y)),qO hs Z⟩
theorem qP:eP 0 (aY n E)=true:=by
 unfold aY eP cw eP cw eP;rw[cI];rfl
theorem vF(hs:eh S k)(X:0<many)(Y:many<1073741824):∃j S1,fJ (aD [.lst k,.int many]) S=ar (.ok (.int j),S1)/\0<=j/\j<many/\Kp k S S1/\S1.length=S.length:=by
 obtain⟨d,S',e,j,rfl,a,b,Z⟩:=vD (Q:=fun d S'=>∃j,d= .int j/\0<=j/\j<many/\Kp k S S') hs X Y fun j S' a b _ Z=>⟨j,rfl,a,b,Z⟩;obtain⟨S1,e1,k1⟩:=zv hs e Z rfl;exact⟨j,S1,e1,a,b,k1⟩
end
theorem n0(h:n<=k)(Z:S[k]? =ar us)(Y:cw 0 us=b_):gG n (tH S n (f+1)) (.lst k)=ar (.fz us):=by
 unfold gG;rw[if_neg (by omega)]
 show((S[k]?).bind fun xs=>fu n (tH S n f) xs).map D.fz=_;rw[Z,JB,gp us (iy (Iv _) us Y)];rfl
theorem oM{S G:ay}(i:Nat):(S++G)[S.length+i]? =G[i]? :=by rw[KJ (Lc _ _),Nat.add_sub_cancel_left]
theorem FF(h:∀S,fB S 60 (.fz us)=ar p)(Z:f' p p=b_):lq (.fz us) (.fz us)=aC (.bl dr):=bB fun S=>by
 unfold lq;exact(d6 (h S) (h S)).mpr ⟨by rw[Z];rfl,rfl⟩
theorem FG:lq (.fz [.int i]) (.fz [.int i])=aC (.bl dr):=FF (p:=.list [.int i]) (fun S=>rfl) (by simp[f',kr])
theorem uC:aL (aS (aa (mK (.int i)) ak)) ρ=aC (.fz [.int i]):=bG (us:=[.int i]) rfl (by show 1<=lim;unfold lim;omega)
section
variable {ρ:aB}{js:List Nat}{ds:List D}{m:TM}{c:M D}{R:M D->List D->M D}{x:D}
theorem zw(Z:ur js ρ=ar ds)(X:m (ds.map ar)=c)(Y:fJ (R c [])=aC x):aL (sv js ak m R) ρ=aC x:=by
 have:sv js ak m R ρ=R c []:=by
  unfold sv;rw[Z];show(ak ρ>>=fun es=>R (m (ds.map ar)) es)=_;rw[X];rfl
 unfold aL;rw[this,Y]
end
section
variable {me e:TM}{g:m7}{ρ ρ':aB}{S S1 S2:ay}{d:D}{F:List D->M D}{x y:D}
end
section
variable {S S1 S2:ay}{k p q:Nat}{e1 e2:TM}{ρ:aB}{x y:D}{f:D->List D->M D}{xs:List D}
theorem sQ(X:e1 ρ=aC x)(Y:Di x=aC ())(Z:e2 ρ S=ar (.ok y,S1)):qz f e1 e2 ρ S=f x [y] S1:=by
 unfold qz;rw[X,ao,Y,ao,aH (a:=[y]) (S1:=S1)];rw[aH Z];rfl
theorem zx(Z:S[p]? =ar xs)(Y:xs.length<=1000):cb (.lst p) [d] S=ar (.ok .non,S.set p (xs++[d])):=by
 show(getL p>>=fun xs=>jN p (xs++[d])) S=_;rw[aH (dP Z)];exact jw (by rw[HP];show xs.length+1<=lim;unfold lim;omega) (HQ.mp Z).1
theorem pop_at{j:Int}{d:D}(Z:S[p]? =ar xs)(U:xs.length<=1000)(W:0<=j)(Y:j<xs.length)(X:xs[j.toNat]? =ar d):lr (.lst p) [.int j] S=ar (.ok d,S.set p (xs.eraseIdx j.toNat)):=by
 show(getL p>>=fun xs=>if 0<=j/\j<xs.length then (match xs[j.toNat]? with|some y=>(do let _<-jN p (xs.eraseIdx j.toNat);aC y)|none=>M.fail)else M.fail) S=_
 rw[aH (dP Z),if_pos ⟨W,Y⟩,X];show(jN p (xs.eraseIdx j.toNat)>>=fun _=>aC d) S=_;rw[aH (jw (by have:=List.length_eraseIdx_le xs j.toNat;unfold lim;omega) (HQ.mp Z).1)];rfl
theorem DR{ns:List Int}(X:S[p]? =ar (ns.map D.int)):lq (.lst p) (.fz []) S=ar (.ok (.bl (!ns.isEmpty)),S):=by
 have Y:fB S 60 (.fz [])=ar (.list []):=rfl;obtain⟨d,Z,e,h⟩:=(d6 (f:=fun p q=> !f' p q) (Q:=fun d Z=>d= .bl (!ns.isEmpty)/\Z=S) (nY (n:=59) X) Y).mpr ⟨by
  have:f' (.list (ns.map h9)) (.list [])=ns.isEmpty:=by cases ns<;>simp[f',kr]
  rw[this],rfl⟩
 obtain⟨rfl,rfl⟩:=h;exact e
end
theorem Kp.set(Y:Kp k S S')(U:S.length<=p)(W:k<S.length):Kp k S (S'.set p xs):=by
 refine⟨by rw[JW];exact Y.len,fun i X Z=>?_,?_⟩
 ·rw[IQ (by omega)];exact Y.oth i X Z
 ·obtain⟨st,b,e,r⟩:=Y.st;exact⟨st,b,by rw[IQ (by omega)];exact e,r⟩
theorem uD{l:List Int}(h:j<l.length):(l[j]::l.eraseIdx j).Perm l:=by
 induction l generalizing j with
 |nil=>cases h
 |cons x l ih=>
  cases j with
  |zero=>exact .refl _
  |succ j=>exact(List.Perm.swap _ _ _).trans ((ih (by simpa using h)).cons _)
theorem FH{j:Int}(h: -(2 ^ 62)<=j/\j<=lim):bM [.int j]=bq (a9 0 j.toNat):=by unfold bM;exact if_pos h
theorem gz(r:List Int):cw 0 (r.map D.int)=true:=by
 induction r with
 |nil=>rfl
 |cons x r ih=>rw[Iu];unfold cw;rw[ih];unfold eP;rfl
def d4(n:Nat):List Int:=(d_ n).map fun i:Nat=>(0:Int)+(i:Int)
inductive Dr(P:D->D->Prop):List D->List D->Prop
 |nil:Dr P [] []
 |skip {d:D} {ds ys:List D}:Dr P ds ys->Dr P (d::ds) ys
 |put {d y:D} {ds ys:List D}:P d y->Dr P ds ys->Dr P (d::ds) (y::ys)
theorem zy{f:D->D->M D}{e1 e2:TM}(Y:e1 ρ S=ar (.ok x,S1))(Z:e2 ρ S1=ar (.ok y,S2))(h:f x y=aC (.bl b)):cz f e1 e2 ρ S=ar (.ok b,S2):=by
 have:(e1 ρ>>=fun x=>e2 ρ>>=fun y=>f x y) S=ar (.ok (.bl b),S2):=by rw[aH Y,aH Z,h];rfl
 exact aH this
theorem DS{ys:List D}(Z:S[p]? =ar xs)(Y:xs.length+ys.length<=1000):ky (.lst p) [.fz ys] S=ar (.ok .non,S.set p (xs++ys)):=by
 show(getL p>>=fun xs=>jN p (xs++ys)) S=_;rw[aH (dP Z)];exact jw (by rw[HP];unfold lim;omega) (HQ.mp Z).1
theorem DT{l:List (List Int)}(h:l.Nodup):(cX l).Pairwise fun a b=>HT.lexLt a b=true:=by
 have Z:=fN l;have X:(cX l).Nodup:=(List.Perm.nodup_iff (dq _)).mpr h;generalize cX l=s at Z X
 induction s with
 |nil=>exact .nil
 |cons x r ih=>
  obtain⟨a1,a2⟩:=IU.mp Z;obtain⟨U,W⟩:=IV.mp X;refine IU.mpr ⟨fun y Y=>?_,ih a2 W⟩;cases q:HT.lexLt x y with
  |true=>rfl
  |false=>exact absurd (qx q (a1 y Y) ▸ Y) U
theorem pK(Z:∀r∈nss,r.length=2)(Y:nss.length<64):kA (nss.map tupI)=bq ((cX nss).map tupI):=by
 cases nss with
 |nil=>rfl
 |cons r nss=>
  have X:two (r::nss)=true:=Ir.mpr fun x W=>by rw[Z x W];rfl
  show(match rowsOf ((r::nss).map tupI)with|some nss=>sd nss|none=>M.fail)=_
  rw[uA];exact if_pos ⟨Y,X⟩
theorem n4{c:M D}{S2:ay}(h:c S=ar (.ok (.lst S2.length),S2++[us]))(Z:Kp k S S2)(l:S2.length=S.length)(Y:cw 0 us=b_):fJ c S=ar (.ok (.fz us),S2):=by
 have:=lE (u:=.fz us) h (mI (Z.trans (Kp.grow Z.st [us]))) (.inl (by rw[HP,l];exact Kn _)) (by rw[HP,l];exact J9 _) (n0 (f:=59) (by omega) bP Y)
 rw[this, <-l,List.take_left]
theorem wZ{Z:List (List Int)}(hs:eh S k)(W:S[p]? =ar (Z.map tupI))(Y:∀r∈Z,r.length=2)(X:Z.length<64):fJ (bF [.lst p]) S=ar (.ok (.fz ((cX Z).map tupI)),S):=by
 refine n4 ?_ (Kp.refl hs) rfl (cI _);show(getL p>>=fun xs=>kA xs) S=_;rw[aH (dP W),pK Y X];exact d9 (by rw[HL,(dq Z).length_eq];unfold lim;omega)
theorem Br{zs:List Int}{a:Int}(Y:0<=a)(h:a<zs.length):cK (tupI zs) (.int a)=aC (.int (zs.getD a.toNat 0)):=by
 show(match jM (zs.map D.int) a with|some d=>(aC d:M D)|none=>M.fail)=_
 have:jM (zs.map D.int) a=ar (.int (zs.getD a.toNat 0)):=by
  unfold jM xm;rw[HL];have X:¬ (a<0):=by omega
  have Z:a.toNat<zs.length:=by omega
  simp[Y,h,Z]
 rw[this]
theorem WebOk.sort{T:List (List Int)}(h:T.Nodup)(Y:∀t∈T,∃a b:Int,t=[a,b]/\0<=a/\a<b/\b<m)(Z:T.length<=21):WebOk m (cX T):=
 ⟨fun t X=>Y t ((dq T).mem_iff.mp X),DT h,by rw[(dq T).length_eq];exact Z⟩
section
variable {n:Nat}{zs:List Int}{E:List (List Int)}
theorem vG(Z:zs.Perm (d4 n))(W:i<n):0<=zs.getD i 0/\zs.getD i 0<n:=by
 have X:zs.length=n:=by rw[Z.length_eq];unfold d4;simp
 have:zs.getD i 0∈d4 n:=by
  rw[<-Z.mem_iff,Ib,HR (by omega)]
  exact K8 _
 unfold d4 at this;obtain⟨j,Y,e⟩:=IS.mp this;have:=IA.mp Y;omega
theorem Bs(Z:zs.Perm (d4 n)):zs.Nodup:=by
 rw[Z.nodup_iff];unfold d4;exact List.Pairwise.map _ (fun a b h e=>h (by have e2:(0:Int)+(a:Int)=0+(b:Int):=e;omega)) (Ld (n:=n))
theorem sR(Z:zs.Perm (d4 n))(X:i<n)(Y:j<n)(h:zs.getD i 0=zs.getD j 0):i=j:=by
 have W:zs.length=n:=by rw[Z.length_eq];unfold d4;simp
 rw[Ib,Ib,HR (by omega),HR (by omega)]at h
 exact(List.getElem_inj (Bs Z)).mp h
end
theorem l9{e1 e2:TM}(hs:eh S k)(Z:e1 ρ=aC (.lst k))(Y:e2 ρ=aC (.int m))(X:0<m)(W:m<1000):∃j S1,aL (az aD (aa e1 (aa e2 ak))) ρ S=ar (.ok (.int j),S1)/\0<=j/\j<m/\Kp k S S1/\S1.length=S.length:=by
 obtain⟨j,S1,e,r⟩:=vF (many:=m) hs X (by omega)
 refine⟨j,S1,?_,r⟩;unfold aL;rw[call2 Z Y];exact e
theorem Bt{mi:aB->M Iter}(Z:mi ρ S=ar (.ok ⟨its,.none⟩,S1))(h:fg ⟨its,.none⟩ g b its ρ S1=ar (.ok o,S2)):kB mi g b ρ S=ar (.ok o,S2):=by
 unfold kB;rw[aH Z];exact h
def kM(p:Int)(t:List Int):Bool:=t.any (· ==p)
theorem mJ(p:Int):∀t:List Int,((t.map h9).any fun y=>f' y (.int p))=kM p t
 |[]=>rfl
 |x::r=>by
  rw[Iu,Lq,mJ p r];unfold kM;rw[Lq];congr 1
theorem Ca:inD (.int p) (tupI t)=aC (.bl (kM p t)):=bB fun S=>by
 unfold inD;exact(kC (gx) (jA t) (r:=kM p t) (by show ar (id ((t.map h9).any fun y=>f' y (.int p)))=_;rw[mJ];rfl)).mpr ⟨rfl,rfl⟩
theorem or_eq{p q:gh}(Z:p ρ=aC b)(Y:q ρ=aC c):uj p q ρ=aC (b||c):=by
 show(p ρ>>=_)=_;rw[Z];cases b with
 |true=>rfl
 |false=>exact Y
theorem n5:∀s t:List Int,kr (s.map h9) (t.map h9)=decide (s=t)
 |[],[]=>by simp[kr]
 |[],_::_=>by simp[kr]
 |_::_,[]=>by simp[kr]
 |x::s,y::t=>by
  rw[Iu,Iu];unfold kr;rw[n5 s t,J1];simp[f']
theorem uE{α:Type} [DecidableEq α]:∀{l m:List α},l.Nodup->(∀x∈l,x∈m)->l.length<=m.length
 |[],_,_,_=>Iv _
 |x::l,m,h,hs=>by
  obtain⟨W,X⟩:=IV.mp h;have Y:=hs x (.head _);have:=uE (l:=l) (m:=m.erase x) X fun y Z=>(List.mem_erase_of_ne (fun(e:y=x)=>W (by rw[<-e];exact Z))).mpr (hs y (.tail _ Z))
  rw[List.length_erase_of_mem Y]at this;have:=List.length_pos_of_mem Y;rw[IH];omega
theorem vH{a m:Nat}:a9 ((a:Int)+1) ((m:Int) - ((a:Int)+1)).toNat=(k7 (a+1) (m - (a+1))).map fun b:Nat=>.int (b:Int):=by
 have e:((m:Int) - ((a:Int)+1)).toNat=m - (a+1):=by omega
 rw[e];unfold a9;rw[List.range'_eq_map_range,IK];refine KG fun i _=>?_;show D.int ((a:Int)+1+(i:Int))= .int ((a+1+i:Nat):Int);congr 1
theorem G9{n a:Nat}{x:Option D}(Y:n<=14)(Z:a<n):aL (bj (yx (aQ cY (mV 2) (mK (.int 1))) (mV 0)) (gN 0) d7 d8 [none,ar 2]) [ar (.int n),x,ar (.int a)]=aC (.fz ((qM n a).map tupI)):=by
 have em:(((k7 (a+1) (n - (a+1))).map fun b:Nat=>D.int (b:Int)).filter fun _=>b_).map (fun d=>D.tup [.int a,d])=(qM n a).map tupI:=by
  unfold qM;rw[b7,IK,IK];rfl
 have h:=jq (mi:=yx (aQ cY (mV 2) (mK (.int 1))) (mV 0)) (g:=gN 0) (t:=d7) (m:=d8) (js:=[none,ar 2]) (ρ:=[ar (.int n),x,ar (.int a)]) (its:=(k7 (a+1) (n - (a+1))).map fun b:Nat=>D.int (b:Int)) (fun ρ=>∃y,ρ=[y,ar (.int a)]) (fun _=>b_) (fun d=>D.tup [.int a,d])
  (by rw[yZ (x:=.int ((a:Int)+1)) (y:=.int n) rfl rfl,Fx (by omega),vH]) (by rw[HL,JF];unfold lim;omega) ⟨none,rfl⟩
  (fun d hd ρ ⟨y,hρ⟩=>by
   subst hρ;refine⟨_,rfl,⟨_,rfl⟩,rfl,fun _=>?_⟩;show bY [.int a,d]=_;unfold bY;exact if_pos kK) (by rw[em];exact cI _)
 rw[em]at h;exact h
theorem pL{S:ay}{n:Nat}{its:List D}(Z:n<=14):∀(post:List Nat) (acc:List (List Int)) (x:Option D),(∀a∈post,a<n)->acc.length+post.length*14<=300->
  ∃Y,fg ⟨its,.none⟩ (gN 2) fC (post.map fun i:Nat=>.int (0+(i:Int))) [ar (.int n),ar (.lst S.length),x] (S++[acc.map tupI])=ar (.ok (.nx [ar (.int n),ar (.lst S.length),Y]),S++[(acc++post.flatMap (qM n)).map tupI])
 |[],acc,x,_,_=>⟨x,by rw[Kh,gy,List.flatMap_nil,IX];rfl⟩
 |a::post,acc,x,ha,hl=>by
  rw[IH,Nat.succ_mul]at hl;have U:=Bl (a:=a) Z;obtain⟨Y,W⟩:=pL (S:=S) (its:=its) Z post (acc++qM n a) (ar (.int a)) (fun b X=>ha b (.tail _ X)) (by rw[HP];omega)
  refine⟨Y,?_⟩;rw[List.flatMap_cons, <-Iy, <-W,Iu,Kj];refine jX rfl (sL (x:=.non) ((sQ (x:=.lst S.length) rfl rfl (Iw (G9 Z (ha a (.head _))) _)).trans ((DS bP (by rw[HL,HL];omega)).trans ?_)))
  rw[<-Jv,JJ _ _ (HN _),Lo];rfl
theorem zz{n:Nat}(Y:n<=14):fJ (ba [.int n])=aC (.fz ((dh n).map tupI)):=by
 have T:=pairs_len Y;have Z:((dh n).map tupI).length<=lim:=by rw[HL];unfold lim;omega
 have:ba [.int n]=bq ((dh n).map tupI):=by
  funext S;obtain⟨U,e⟩:=pL (S:=S) (its:=a9 0 n) Y (d_ n) [] none (fun a W=>IA.mp W) (by rw[Ie];simp;omega)
  have X:kU (mV 0) [ar (.int n),ar (.lst S.length),none]=aC ⟨a9 0 n,.none⟩:=by
   have:=(nQ (m:=mV 0) (ρ:=[ar (.int n),ar (.lst S.length),none]) (x:=.int n) rfl).trans (y0 (by omega))
   rw[Jw]at this;exact this
  rw[d9 Z];exact eR (o:=.ret (.lst S.length)) ((aP (bU (d9 (S:=S) (us:=[]) (Iv _)))).trans ((aP (nU X e)).trans (fH rfl))) rfl
 rw[this];exact bG (cI _) Z
theorem DU{c:M D}{S S2:ay}{us:List D}{k q:Nat}(hs:eh S k)(h:c S=ar (.ok (.lst q),S2))(Z:Kp k S S2)(Y:S.length<=q)(g:S2[q]? =ar us)(X:cw 0 us=b_):∃S1,fJ c S=ar (.ok (.fz us),S1)/\Kp k S S1/\S1.length=S.length:=
 ⟨_,lE (u:=.fz us) h (mI Z) (.inl (Nat.lt_of_le_of_lt Y (HQ.mp g).1)) Z.len (n0 (f:=59) Y g X),qO hs Z⟩
theorem sS{S:ay}{k p q:Nat}{a1:Option D}(R:k<S.length)(P:S.length<=p)(O:S.length<=q)(X:p≠q):∀(f:Nat) (ls ms:List Int) (S':ay),ls.length<f->ls.length+ms.length<=14->S'[p]? =ar (ls.map D.int)->S'[q]? =ar (ms.map D.int)->Kp k S S'->
  ∃(zs:List Int) (S2:ay),i7 (cz lq (mV 2) (aL (aS ak))) bZ f [ar (.lst k),a1,ar (.lst p),ar (.lst q)] S'=ar (.ok (.nx [ar (.lst k),a1,ar (.lst p),ar (.lst q)]),S2)/\S2[q]? =ar (zs.map D.int)/\zs.Perm (ms++ls)/\Kp k S S2
 |0,ls,ms,S',h,_,_,_,_=>by omega
 | f +1,ls,ms,S',hf,hl,g1,g2,kp=>by
  have I:cz lq (mV 2) (aL (aS ak)) [ar (.lst k),a1,ar (.lst p),ar (.lst q)] S'=ar (.ok (!ls.isEmpty),S'):=by
   have F:aL (aS ak) [ar (.lst k),a1,ar (.lst p),ar (.lst q)]=aC (.fz []):=bG (us:=[]) rfl (Iv _);show((mV 2 _>>=fun x=>aL (aS ak) _>>=fun y=>lq x y)>>=ie) S'=_;rw[F];show(lq (.lst p) (.fz [])>>=ie) S'=_;rw[aH (DR g1)];rfl
  rw[i7,aH I];cases ls with
  |nil=>exact⟨ms,S',by rfl,g2,by rw[IX],kp⟩
  | cons l0 ls0=>
   generalize hL:l0::ls0=ls at*;have Q:(!ls.isEmpty)=true:=by rw[<-hL];rfl
   have N:0<ls.length:=by rw[<-hL];exact Nat.succ_pos _
   rw[if_pos Q];obtain⟨j,S1,J,B,A,Y,z⟩:=vF (S:=S') (k:=k) (many:=ls.length) kp.st (by omega) (by omega)
   have E:=(HQ.mp g1).1;have ql:=(HQ.mp g2).1;have H:=(Y.oth p E (by omega)).trans g1
   have L:=(Y.oth q ql (by omega)).trans g2
   have U:j.toNat<ls.length:=by omega
   have K:bZ [ar (.lst k),a1,ar (.lst p),ar (.lst q)] S'=ar (.ok (.nx [ar (.lst k),a1,ar (.lst p),ar (.lst q)]),(S1.set p ((ls.eraseIdx j.toNat).map D.int)).set q ((ms++[ls[j.toNat]]).map D.int)):=by
    unfold bZ;have hlen:cC eg (mV 2) [ar (.lst k),a1,ar (.lst p),ar (.lst q)] S'=ar (.ok (.int ls.length),S'):=by
     refine(vv (x:=.lst p) (S1:=S') rfl).trans ?_;show(getL p>>=fun xs=>aC (D.int xs.length)) S'=_;rw[aH (dP g1),HL];rfl
    have T:aL (az aD (aa (mV 0) (aa (cC eg (mV 2)) ak))) [ar (.lst k),a1,ar (.lst p),ar (.lst q)] S'=ar (.ok (.int j),S1):=by
     have C:az aD (aa (mV 0) (aa (cC eg (mV 2)) ak)) [ar (.lst k),a1,ar (.lst p),ar (.lst q)] S'=aD [.lst k,.int ls.length] S':=aH (cV (x:=.lst k) rfl (cV hlen rfl));unfold aL;rw[<-J];unfold fJ;rw[C]
    have Z:=(sQ (f:=lr) (e1:=mV 2) (ρ:=[ar (.lst k),a1,ar (.lst p),ar (.lst q)]) (x:=.lst p) rfl rfl T).trans (pop_at (d:=.int ls[j.toNat]) H (by rw[HL];omega) B (by rw[HL];omega) (by rw[IL,HR U];rfl))
    rw[pI]at Z;have W:=(sQ (f:=cb) (e1:=mV 3) (ρ:=[ar (.lst k),a1,ar (.lst p),ar (.lst q)]) (x:=.lst q) rfl rfl Z).trans (zx (d:=.int ls[j.toNat]) (xs:=ms.map D.int) (by rw[IQ X];exact L) (by rw[HL];omega))
    refine sL (x:=.non) (W.trans ?_);rw[Jv];rfl
   rw[aH K];have he:=List.length_eraseIdx_of_lt U;obtain⟨zs,S2,e2,g3,G,k2⟩:=sS (a1:=a1) R P O X f (ls.eraseIdx j.toNat) (ms++[ls[j.toNat]]) ((S1.set p ((ls.eraseIdx j.toNat).map D.int)).set q ((ms++[ls[j.toNat]]).map D.int)) (by omega) (by rw[HP];show _+(ms.length+1)<=14;omega)
    (by rw[IQ (i' X),IF (by omega)]) (by rw[IF (by rw[JW];omega)]) (((kp.trans Y).set P R).set O R)
   refine⟨zs,S2,e2,g3,G.trans ?_,k2⟩;rw[Iy];exact(uD U).append_left ms
theorem sT{S:ay}{k n:Nat}{ρ:aB}{e1 e2:TM}(hs:eh S k)(N:n<=14)(R:e1 ρ=aC (.lst k))(U:e2 ρ=aC (.int n)):∃(zs:List Int) (S1:ay),aL (az aZ (aa e1 (aa (aL (cC bM e2)) ak))) ρ S=ar (.ok (.fz (zs.map D.int)),S1)/\zs.Perm (d4 n)/\Kp k S S1/\S1.length=S.length:=by
 have Q:a9 0 n=(d4 n).map D.int:=by unfold a9 d4;rw[IK];rfl
 have hlen:(d4 n).length=n:=by unfold d4;simp
 have Z:((d4 n).map D.int).length<=lim:=by rw[HL,hlen];unfold lim;omega
 have T:aL (cC bM e2) ρ=aC (.fz ((d4 n).map D.int)):=by
  unfold aL;rw[eF U,FH (j:=n) ⟨by omega,by unfold lim;omega⟩,Jw,Q]
  exact bG (gz _) Z
 obtain⟨zs,S2,e,g3,W,k2⟩:=sS (S:=S) (k:=k) (p:=S.length) (q:=S.length+1) (a1:=ar (.fz ((d4 n).map D.int))) hs.lt (HN _) (J9 _) (by omega) 64 (d4 n) [] (S++[(d4 n).map D.int,[]]) (by omega) (by simp;omega) (oM 0) (oM 1) (Kp.grow hs _)
 have P:bo 3 (aS ak) [ar (.lst k),ar (.fz ((d4 n).map D.int)),ar (.lst S.length),none] (S++[(d4 n).map D.int])=ar (.ok (.nx [ar (.lst k),ar (.fz ((d4 n).map D.int)),ar (.lst S.length),ar (.lst (S.length+1))]),S++[(d4 n).map D.int,[]]):=by
  refine(bU (d9 (S:=S++[(d4 n).map D.int]) (us:=[]) (Iv _))).trans ?_;rw[Iy,HP];rfl
 have O:cC pk (mV 1) [ar (.lst k),ar (.fz ((d4 n).map D.int)),none,none] S=ar (.ok (.lst S.length),S++[(d4 n).map D.int]):=(vv (F:=pk) (x:=.fz ((d4 n).map D.int)) (S1:=S) rfl).trans (d9 Z);have X:dO [ar (.lst k),ar (.fz ((d4 n).map D.int)),none,none] S=ar (.ok (.ret (.lst (S.length+1))),S2):=by
  unfold dO;exact(aP (bU O)).trans ((aP P).trans ((aP e).trans (fH rfl)))
 have hm:aZ [.lst k,.fz ((d4 n).map D.int)] S=ar (.ok (.lst (S.length+1)),S2):=eR X rfl;obtain⟨S1,Y,k1⟩:=DU hs hm k2 (J9 _) g3 (gz _);refine⟨zs,S1,?_,by rw[Lf]at W;exact W,k1⟩
 unfold aL;rw[call2 R T];exact Y
theorem Dr.sub:∀{L:List (List Int)} {ys:List D},Dr (fun d y=>y=d) (L.map tupI) ys->∃rs:List (List Int),ys=rs.map tupI/\rs.Sublist L
 |[],_,.nil=>⟨[],rfl,.slnil⟩
 |t::L,_,.skip h=>by
  obtain⟨rs,e,Z⟩:=Dr.sub h;exact⟨rs,e,Z.cons _⟩
 |t::L,_,.put p h=>by
  obtain⟨rs,e,Z⟩:=Dr.sub h;subst p e;exact⟨t::rs,rfl,Z.cons₂ _⟩
theorem lI{mi:aB->M Iter}{t:gh}{m:TM}{js:List (Option Nat)}{ρ:aB}{L:List (List Int)}{S:ay}{k:Nat}(r:List (Option D))(P:mi ρ=aC ⟨L.map tupI,.none⟩)(N:L.length<=1000)(R:jD js ρ=none::r)(hs:eh S k)(T:∀d,m (ar d::r)=aC d)
  (Q:∀(u:List Int) Z,Kp k S Z->Z.length=S.length->∃b S1,t (ar (tupI u)::r) Z=ar (.ok b,S1)/\Kp k Z S1/\S1.length=Z.length):
  ∃(rs:List (List Int)) (S2:ay),bj mi (gN 0) t m js ρ S=ar (.ok (.lst S2.length),S2++[rs.map tupI])/\rs.Sublist L/\Kp k S S2/\S2.length=S.length:=by
 have key:∀(items:List D) (o:Option D) (Z:ay),(∀d∈items,∃u,d=tupI u)->Kp k S Z->Z.length=S.length->∃ys S2,cm ⟨L.map tupI,.none⟩ (gN 0) t m items (o::r) Z=ar (.ok ys,S2)/\Dr (fun d y=>y=d) items ys/\Kp k S S2/\S2.length=S.length:=fun items=>by
  induction items with
  |nil=>exact fun o Z _ W l=>⟨[],Z,by unfold cm;rw[c9];rfl,.nil,W,l⟩
  | cons d ds ih=>
   intro o Z hd W l;obtain⟨u,rfl⟩:=hd d (.head _);obtain⟨b,S1,e1,k1,O⟩:=Q u Z W l;obtain⟨ys,S2,e2,Y,k2,X⟩:=ih (ar (tupI u)) S1 (fun d h=>hd d (.tail _ h)) (W.trans k1) (O.trans l);cases b with
   |false=>
    refine⟨ys,S2,?_,.skip Y,k2,X⟩;unfold cm;rw[c9,ao,show gN 0 (tupI u) (o::r)=aC (ar (tupI u)::r)from rfl,ao,aH e1,if_neg (by decide)]
    exact e2
   |true=>
    refine⟨tupI u::ys,S2,?_,.put rfl Y,k2,X⟩;unfold cm;rw[c9,ao,show gN 0 (tupI u) (o::r)=aC (ar (tupI u)::r)from rfl,ao,aH e1,if_pos rfl,T,ao,aH e2];rfl
 obtain⟨ys,S2,e,Y,k2,X⟩:=key (L.map tupI) none S (fun d hd=>by obtain⟨u,_,rfl⟩:=IS.mp hd;exact⟨u,rfl⟩) (.refl hs) rfl
 obtain⟨rs,rfl,U⟩:=Y.sub;refine⟨rs,S2,?_,U,k2,X⟩;have:=U.length_le;unfold bj;rw[P,ao];unfold eV;rw[if_pos (show(L.map tupI).length<=lim by rw[HL];unfold lim;omega),R,aH e]
 exact d9 (by rw[HL];unfold lim;omega)
theorem zA{ds:List D}{i:Int}(Y:0<=i)(Z:i<ds.length):∃d∈ds,cK (.fz ds) (.int i)=aC d:=by
 obtain⟨d,e,hd⟩:=B9 Y Z;refine⟨d,hd,?_⟩;show(match jM ds i with|some d=>(aC d:M D)|none=>M.fail)=_
 rw[e]
theorem iI{zs:List Int}{a:Int}(Z:0<=a)(h:a<zs.length):cK (.fz (zs.map D.int)) (.int a)=aC (.int (zs.getD a.toNat 0)):=Br Z h
theorem zB{e1 e2:TM}{ρ:aB}{x y:Int}(W:e1 ρ=aC (.int x))(Y:e2 ρ=aC (.int y)):cC b9 (aL (cC bF (aL (aS (aa e1 (aa e2 ak)))))) ρ=aC (tupI (sortI [x,y])):=by
 have X:(sortI [x,y]).length=2:=(sortI_perm [x,y]).length_eq;have Z:((sortI [x,y]).map D.int).length<=lim:=by rw[HL,X];exact kK
 have a1:aL (aS (aa e1 (aa e2 ak))) ρ=aC (.fz [.int x,.int y]):=by
  show fJ (aa _ _ _>>=bq)=_;rw[a7 W (a7 Y (es:=ak) rfl),ao];exact bG (us:=[.int x,.int y]) rfl kK
 refine(eF (x:=.fz ((sortI [x,y]).map D.int)) ?_).trans (lG Z);show fJ (cC bF _ _)=_;rw[eF a1];exact bG (gz _) Z
theorem DV{s:List Int}{rs:List (List Int)}:∃b,inD (tupI s) (.fz (rs.map tupI))=aC (.bl b):=by
 refine⟨(rs.map qN).any fun y=>f' y (qN s),bB fun S=>?_⟩;unfold inD;have Z:fB S 60 (.fz (rs.map tupI))=ar (.list (rs.map qN)):=by
  show(mapP (fB S 59) (rs.map tupI)).map q_=_;rw[lH];rfl
 exact(kC (jA s) Z (r:=(rs.map qN).any fun y=>f' y (qN s)) rfl).mpr ⟨rfl,rfl⟩
theorem lJ{ρ:aB}{e:TM}{n:Nat}(Z:n<=14)(h:e ρ=aC (.int n)):dM (aL (az ba (aa e ak))) ρ=aC ⟨(dh n).map tupI,.none⟩:=by
 have:aL (az ba (aa e ak)) ρ=aC (.fz ((dh n).map tupI)):=by
  unfold aL;rw[cU h];exact zz Z
 unfold dM;rw[this];rfl
section
variable {S:ay}{k n g:Nat}{j:Int}{zs:List Int}{its:List D}
abbrev m8:TM:=aL (aS (aE (mK (.int 0)) (aE (mK (.int 0)) (aE (mK (.int 1)) (aE (mK (.int 0)) (aE (mK (.int 2)) (aE (mK (.int 1)) (aE (mK (.int 3)) (aE (mV 1) (ak))))))))))
theorem DW{r:List (Option D)}(hs:eh S k):∃(n:Nat) (S1:ay),az maxD (aa (mK (.int 0)) (aa (aQ dm (mV 1) (aQ cK m8 (aL (az aD (aa (mV 0) (aa (mK (.int 8)) ak)))))) ak)) (ar (.lst k)::ar (.int g)::r) S=ar (.ok (.int n),S1)/\n<=g/\Kp k S S1/\S1.length=S.length:=by
 obtain⟨i,S1,T,X,Q,k1,W⟩:=l9 (e1:=mV 0) (e2:=mK (.int 8)) (ρ:=ar (.lst k)::ar (.int g)::r) (m:=8) hs rfl rfl (by decide) (by decide)
 have R:m8 (ar (.lst k)::ar (.int g)::r)=aC (.fz [.int 0,.int 0,.int 1,.int 0,.int 2,.int 1,.int 3,.int g]):=bG (us:=[.int 0,.int 0,.int 1,.int 0,.int 2,.int 1,.int 3,.int g]) rfl (by show 8<=lim;unfold lim;omega)
 obtain⟨d,hd,Z⟩:=zA (ds:=[.int 0,.int 0,.int 1,.int 0,.int 2,.int 1,.int 3,.int g]) X Q;have Y:∃u:Int,d= .int u/\0<=u:=by
  simp only[gg,f_,or_false]at hd;rcases hd with rfl|rfl|rfl|rfl|rfl|rfl|rfl|rfl<;>exact⟨_,rfl,by omega⟩
 obtain⟨u,rfl,P⟩:=Y;have U:aQ dm (mV 1) (aQ cK m8 (aL (az aD (aa (mV 0) (aa (mK (.int 8)) ak))))) (ar (.lst k)::ar (.int g)::r) S=ar (.ok (.int ((g:Int) - u)),S1):=
  (gf (f:=dm) (x:=.int g) (S1:=S) rfl ((gf (Iw R S) T).trans (Iw Z S1))).trans rfl
 refine⟨((g:Int) - u).toNat,S1,?_,by omega,k1,W⟩
 refine(aH (cV (x:=.int 0) (S1:=S) rfl (cV U rfl))).trans ?_;show ar (Res.ok (D.int (if (g:Int) - u>0 then (g:Int) - u else 0)),S1)=_;have:(if (g:Int) - u>0 then (g:Int) - u else 0)=(((g:Int) - u).toNat:Int):=by split<;>omega
 rw[this]
abbrev eW(k g n:Nat)(j:Int)(r:List (Option D)):aB:=ar (.lst k)::ar (.int g)::ar (.int n)::ar (.int j)::r
theorem Bu{r:List (Option D)}(hs:eh S k)(Q:n<=7)(N:0<=j):∃(rs:List (List Int)) (S2:ay),bj (dM (aL (az ba (aa (mV 2) (ak))))) (gN 0) gK gL [none,ar 0,ar 3] (eW k g n j r) S=ar (.ok (.lst S2.length),S2++[rs.map tupI])/\rs.Sublist (dh n)/\Kp k S S2/\S2.length=S.length:=
 lI [ar (.lst k),ar (.int j)] (lJ (by omega) rfl) (by have:=pairs_len (n:=n) (by omega);omega) rfl hs (fun d=>rfl) fun u P Y l=>by
  obtain⟨i,S1,T,R,O,k1,U⟩:=l9 (e1:=mV 1) (e2:=mK (.int 8)) (ρ:=[ar (tupI u),ar (.lst k),ar (.int j)]) (m:=8) Y.st rfl rfl (by decide) (by decide)
  have X:aL (aS (aa (mK (.int 2)) (aa (mK (.int 4)) (aa (mK (.int 6)) (ak))))) [ar (tupI u),ar (.lst k),ar (.int j)]=aC (.fz [.int 2,.int 4,.int 6]):=bG (us:=[.int 2,.int 4,.int 6]) rfl (by show 3<=lim;unfold lim;omega)
  have hm:aQ mv (mV 2) (mK (.int 3)) [ar (tupI u),ar (.lst k),ar (.int j)]=aC (.int (j % 3)):=(b8 (x:=.int j) (y:=.int 3) rfl rfl).trans (show mv (.int j) (.int 3)=_ from if_pos (e:=M.fail) (show(0:Int)<3 by decide))
  obtain⟨d,hd,Z⟩:=zA (ds:=[.int 2,.int 4,.int 6]) (i:=j % 3) (by omega) (by show j % 3<3;omega)
  have W:∃v:Int,d= .int v:=by
   simp only[gg,f_,or_false]at hd;rcases hd with rfl|rfl|rfl<;>exact⟨_,rfl⟩
  obtain⟨v,rfl⟩:=W;exact⟨decide (i<v),S1,zy (y:=.int v) T (Iw ((b8 X hm).trans Z) S1) rfl,k1,U⟩
theorem DX{a:Nat}{q:Nat}{x7:Option D}(R:2<j)(T:j<7)(Q:1<=a)(W:a<n)(P:zs.length=n):∃r:List Int,cC b9 (aL (cC bF (aL (aS (aa (aQ cK (mV 5) (mV 6)) (aa (aQ cK (mV 5) (aQ cK (aL (aS (aE (aQ dm (mV 6) (mK (.int 1))) (aE (aQ dm (mV 6) (mK (.int 1))) (aE (mK (.int 0)) (aE (aQ kq (mV 6) (mK (.int 2))) (ak))))))) (aQ dm (mV 3) (mK (.int 3))))) (ak))))))) (eW k g n j [ar (.lst q),ar (.fz (zs.map D.int)),ar (.int a),x7])=aC (tupI r):=by
 have U:aL (aS (aE (aQ dm (mV 6) (mK (.int 1))) (aE (aQ dm (mV 6) (mK (.int 1))) (aE (mK (.int 0)) (aE (aQ kq (mV 6) (mK (.int 2))) (ak)))))) (eW k g n j [ar (.lst q),ar (.fz (zs.map D.int)),ar (.int a),x7])=aC (.fz [.int ((a:Int) - 1),.int ((a:Int) - 1),.int 0,.int ((a:Int) / 2)]):=by
  have X:aE (aQ dm (mV 6) (mK (.int 1))) (aE (aQ dm (mV 6) (mK (.int 1))) (aE (mK (.int 0)) (aE (aQ kq (mV 6) (mK (.int 2))) ak))) (eW k g n j [ar (.lst q),ar (.fz (zs.map D.int)),ar (.int a),x7])=aC [.int ((a:Int) - 1),.int ((a:Int) - 1),.int 0,.int ((a:Int) / 2)]:=
   a7 (x:=.int ((a:Int) - 1)) rfl (a7 (x:=.int ((a:Int) - 1)) rfl (a7 (x:=.int 0) rfl (a7 (x:=.int ((a:Int) / 2)) ((b8 (x:=.int a) (y:=.int 2) rfl rfl).trans (show kq (.int a) (.int 2)=_ from if_pos (e:=M.fail) (show v8 a 2 from⟨by decide,by decide⟩))) (es:=ak) rfl)))
  show fJ (aE _ _ _>>=bq)=_;rw[X,ao];exact bG (us:=[.int ((a:Int) - 1),.int ((a:Int) - 1),.int 0,.int ((a:Int) / 2)]) rfl (by show 4<=lim;unfold lim;omega)
 obtain⟨d,hd,Z⟩:=zA (ds:=[.int ((a:Int) - 1),.int ((a:Int) - 1),.int 0,.int ((a:Int) / 2)]) (i:=j - 3) (by omega) (by show j - 3<4;omega)
 have Y:∃v:Int,d= .int v/\0<=v/\v<n:=by
  simp only[gg,f_,or_false]at hd;rcases hd with rfl|rfl|rfl|rfl<;>exact⟨_,rfl,by omega,by omega⟩
 obtain⟨v,rfl,v0,v1⟩:=Y;exact⟨_,zB ((b8 (x:=.fz (zs.map D.int)) (y:=.int a) rfl rfl).trans (iI (by omega) (by omega))) ((b8 (x:=.fz (zs.map D.int)) rfl ((b8 (y:=.int (j - 3)) U rfl).trans Z)).trans (iI v0 (by omega)))⟩
theorem vI{q:Nat}{ρ:aB}{e:TM}{r:List Int}{acc:List (List Int)}(Y:mV 4 ρ=aC (.lst S.length))(Z:e ρ=aC (tupI r))(X:acc.length<=500):oy (qz cb (mV 4) e) ρ (S++[acc.map tupI])=ar (.ok (.nx ρ),S++[(acc++[r]).map tupI]):=by
 refine sL (x:=.non) ((sQ Y rfl (Iw Z _)).trans ((zx bP (by rw[HL];omega)).trans ?_))
 rw[Jv,JJ _ _ (HN _),Lo];rfl
theorem Cb(W:2<j)(X:j<7)(U:zs.length=n):∀(post:List Nat) (acc:List (List Int)) (x6 x7:Option D),(∀a∈post,1<=a/\a<n)->acc.length+post.length<=100->
  ∃(Y:Option D) (Z:List (List Int)),fg ⟨its,.none⟩ (gN 6) eZ (post.map fun b:Nat=>.int (b:Int)) (eW k g n j [ar (.lst S.length),ar (.fz (zs.map D.int)),x6,x7]) (S++[acc.map tupI])=ar (.ok (.nx (eW k g n j [ar (.lst S.length),ar (.fz (zs.map D.int)),Y,x7])),S++[Z.map tupI])/\Z.length<=acc.length+post.length
 |[],acc,x6,x7,_,_=>⟨x6,acc,by rw[Kh,gy];rfl,HN _⟩
 |a::post,acc,x6,x7,ha,hl=>by
  rw[IH]at hl⊢;obtain⟨T,O⟩:=ha a (.head _);obtain⟨r,R⟩:=DX (k:=k) (g:=g) (q:=S.length) (x7:=x7) W X T O U;obtain⟨Y,Z,P,N⟩:=Cb W X U post (acc++[r]) (ar (.int a)) x7 (fun b Q=>ha b (.tail _ Q)) (by rw[HP];show acc.length+1+_<=100;omega)
  refine⟨Y,Z,?_,by rw[HP]at N;have:[r].length=1:=rfl;omega⟩
  rw[<-P,Iu];exact jX rfl (vI (q:=0) rfl R (by omega))
theorem FI{r:List (Option D)}(hs:eh S k)(T:n<=7):∃(rs:List (List Int)) (S2:ay),aL (bj (dM (aL (az ba (aa (mV 2) (ak))))) (gN 0) dW dX [none,ar 0]) (eW k g n j r) S=ar (.ok (.fz (rs.map tupI)),S2)/\Kp k S S2/\S2.length=S.length:=by
 obtain⟨rs,S2,e,_,k2,Z⟩:=lI (t:=dW) (m:=dX) (js:=[none,ar 0]) (ρ:=eW k g n j r) [ar (.lst k)] (lJ (e:=mV 2) (by omega) rfl) (by have:=pairs_len (n:=n) (by omega);omega) rfl hs (fun d=>rfl) fun u R Y l=>by
  obtain⟨i,S1,W,U,Q,k1,X⟩:=l9 (e1:=mV 1) (e2:=mK (.int 12)) (ρ:=[ar (tupI u),ar (.lst k)]) (m:=12) Y.st rfl rfl (by decide) (by decide)
  exact⟨_,S1,zy (y:=.int 0) W rfl zb,k1,X⟩
 exact⟨rs,S2,n4 e k2 Z (cI _),k2,Z⟩
theorem Bv{q:Nat}{os acc:List (List Int)}{x5 x6:Option D}(hs:eh S k)(L:n<=7)(W:S[q]? =ar (acc.map tupI))(X:q≠k):∃(rs:List (List Int)) (S2:ay),bj (dM (aL (az ba (aa (mV 2) (ak))))) (gN 0) e9 fe [none,ar 4,ar 7] (eW k g n j [ar (.lst q),x5,x6,ar (.fz (os.map tupI))]) S=ar (.ok (.lst S2.length),S2++[rs.map tupI])/\rs.Sublist (dh n)/\Kp k S S2/\S2.length=S.length:=
 lI [ar (.lst q),ar (.fz (os.map tupI))] (lJ (by omega) rfl) (by have:=pairs_len (n:=n) (by omega);omega) rfl hs (fun d=>rfl) fun u Z U l=>by
  have Y:=(U.oth q (HQ.mp W).1 X).trans W;obtain⟨_,_,e1,b,rfl,rfl⟩:=Bm (r:=u) (Q:=fun d T=>∃b,d= .bl b/\Z=T) Y fun b=>⟨b,rfl,rfl⟩;obtain⟨c,e2⟩:=DV (s:=u) (rs:=os);obtain⟨_,_,N,O,rfl,rfl⟩:=FB (S:=Z) (a:=b) (b:=c) (Q:=fun d T=>∃b,d= .bl b/\Z=T) fun b=>⟨b,rfl,rfl⟩;refine⟨O,Z,?_,.refl U.st,rfl⟩;have P:aQ inD (mV 0) (mV 1) [ar (tupI u),ar (.lst q),ar (.fz (os.map tupI))] Z=ar (.ok (.bl b),Z):=(Iw (b8 (x:=tupI u) (y:=.lst q) rfl rfl) Z).trans e1;have R:aQ inD (mV 0) (mV 2) [ar (tupI u),ar (.lst q),ar (.fz (os.map tupI))] Z=ar (.ok (.bl c),Z):=Iw ((b8 (x:=tupI u) (y:=.fz (os.map tupI)) rfl rfl).trans e2) Z;exact aH ((gf P R).trans N)
end
section
variable {S:ay}{k n g:Nat}{j:Int}{zs:List Int}{its:List D}
theorem Cc{m:TM}{ρ:aB}(Z:n<=100)(h:m ρ=aC (.int n)):yx (mK (.int 1)) m ρ=aC ⟨(k7 1 (n - 1)).map fun b:Nat=>.int (b:Int),.none⟩:=by
 have:=vH (a:=0) (m:=n);rw[yZ (x:=.int 1) rfl h,Fx (by omega)]
 rw[show((0:Nat):Int)+1=1 from rfl]at this;rw[this]
theorem FJ{ρ:aB}{q:Nat}{rs:List (List Int)}(hs:eh S k)(U:n<=7)(W:mV 2 ρ=aC (.int n))(T:mV 4 ρ=aC (.lst q))(g:S[q]? =ar (rs.map tupI))(X:rs.Sublist (dh n)):
  bD (dU (aa (mV 2) (aa (cC b9 (aL (cC bF (mV 4)))) (ak)))) ρ S=ar (.ok (.ret (aY n rs)),S):=by
 have w:WebOk n rs:=WebOk.of_sub U X;have hf:=w.few;have Y:aL (cC bF (mV 4)) ρ S=ar (.ok (.fz (rs.map tupI)),S):=by
  unfold aL;rw[eF T];have:=wZ hs g (fun r Z=>by obtain⟨a,b,e,_⟩:=w.el r Z;rw[e];rfl) (by omega)
  rw[wX w.ris]at this;exact this
 refine fH (DK (Iw W S) ((vv Y).trans ?_));rw[lG (by rw[HL];unfold lim;omega)];rfl
theorem DY{q:Nat}{acc:List (List Int)}{x6 x7:Option D}(R:n<=7)(T:zs.length=n)(U:acc.length<=100):∃acc2:List (List Int),fx (jT (cz cN (mV 3) (mK (.int 4))) (cz pj (mV 2) (mK (.int 2)))) (oy (qz cb (mV 4) (cC b9 (aL (cC bF (aL (aS (aa (aQ cK (mV 5) (mK (.int 0))) (aa (aQ cK (mV 5) (aQ dm (mV 2) (mK (.int 1)))) (ak)))))))))) (cn) (eW k g n j [ar (.lst S.length),ar (.fz (zs.map D.int)),x6,x7]) (S++[acc.map tupI])=ar (.ok (.nx (eW k g n j [ar (.lst S.length),ar (.fz (zs.map D.int)),x6,x7])),S++[acc2.map tupI]):=by
 have X:cz cN (mV 3) (mK (.int 4)) (eW k g n j [ar (.lst S.length),ar (.fz (zs.map D.int)),x6,x7])=aC (decide (j=4)):=bQ (x:=.int j) (y:=.int 4) rfl rfl zb;have Y:cz pj (mV 2) (mK (.int 2)) (eW k g n j [ar (.lst S.length),ar (.fz (zs.map D.int)),x6,x7])=aC (decide (2<(n:Int))):=bQ (x:=.int n) (y:=.int 2) rfl rfl rfl;have Z:jT (cz cN (mV 3) (mK (.int 4))) (cz pj (mV 2) (mK (.int 2))) (eW k g n j [ar (.lst S.length),ar (.fz (zs.map D.int)),x6,x7])=aC (decide (j=4) && decide (2<(n:Int))):=by
  show(cz cN _ _ _>>=_)=_;rw[X,ao];cases decide (j=4)with
  |false=>rfl
  |true=>exact Y
 by_cases h:(decide (j=4) && decide (2<(n:Int)))=b_
 ·have W:2<n:=by
   have:=ID ((IE _ _).mp h).2;omega
  refine⟨_,(Iw ((bE Z).trans (if_pos h)) _).trans (vI (q:=0) rfl (zB (x:=zs.getD 0 0) (y:=zs.getD (n - 1) 0) ?_ ?_) (by omega))⟩
  ·exact(b8 (x:=.fz (zs.map D.int)) (y:=.int 0) rfl rfl).trans (iI (by decide) (by omega))
  ·refine(b8 (x:=.fz (zs.map D.int)) (y:=.int ((n:Int) - 1)) rfl rfl).trans ((iI (by omega) (by omega)).trans ?_)
   rw[show((n:Int) - 1).toNat=n - 1 by omega]
 ·exact⟨acc,(Iw ((bE Z).trans (if_neg h)) _).trans rfl⟩
theorem DZ(hg:g<=7)(hs:eh S k):∃(n:Nat) (E:List (List Int)) (S1:ay),fJ (dw [.lst k,.int g]) S=ar (.ok (aY n E),S1)/\n<=g/\WebOk n E/\Kp k S S1/\S1.length=S.length:=by
 obtain⟨n,T1,e1,w,k1,l1⟩:=DW (g:=g) (r:=[none,none,none,none,none,none]) hs;have Y:n<=7:=by omega
 obtain⟨j,T2,e2,j0,e,k2,l2⟩:=l9 (e1:=mV 0) (e2:=mK (.int 7)) (ρ:=[ar (.lst k),ar (.int g),ar (.int n),none,none,none,none,none]) (m:=7) k1.st rfl rfl (by decide) (by decide)
 obtain⟨rs,R,e3,sb,k3,l3⟩:=Bu (g:=g) (n:=n) (j:=j) (r:=[none,none,none,none]) k2.st Y j0;have I:=Kp.grow k3.st [rs.map tupI];obtain⟨zs,X,l,p,k5,l5⟩:=sT (n:=n) (ρ:=eW k g n j [ar (.lst R.length),none,none,none]) (e1:=mV 0) (e2:=mV 2) I.st (by omega) rfl rfl
 have F:zs.length=n:=by rw[p.length_eq];unfold d4;simp
 have a0:k<R.length:=by have:=hs.lt;omega
 have z:X[R.length]? =ar (rs.map tupI):=(k5.oth R.length (by simp) (by omega)).trans bP
 have G:=((k1.trans k2).trans k3).trans (I.trans k5);have key:∃(x4:Nat) (Z:List (List Int)) (ρ:aB) (T:ay),fx (cz pj (mV 3) (mK (.int 2))) (aA (bo 4 (aS (ak))) (aA (kB (yx (mK (.int 1)) (mV 2)) (gN 6) eZ) (aA (fx (jT (cz cN (mV 3) (mK (.int 4))) (cz pj (mV 2) (mK (.int 2)))) (oy (qz cb (mV 4) (cC b9 (aL (cC bF (aL (aS (aa (aQ cK (mV 5) (mK (.int 0))) (aa (aQ cK (mV 5) (aQ dm (mV 2) (mK (.int 1)))) (ak)))))))))) (cn)) (aA (bo 7 (aL (bj (dM (aL (az ba (aa (mV 2) (ak))))) (gN 0) dW dX [none,ar 0]))) (bo 4 (bj (dM (aL (az ba (aa (mV 2) (ak))))) (gN 0) e9 fe [none,ar 4,ar 7])))))) (cn) (eW k g n j [ar (.lst R.length),ar (.fz (zs.map D.int)),none,none]) X=ar (.ok (.nx ρ),T)/\mV 2 ρ=aC (.int n)/\mV 4 ρ=aC (.lst x4)/\T[x4]? =ar (Z.map tupI)/\Z.Sublist (dh n)/\Kp k S T:=by
  have J:cz pj (mV 3) (mK (.int 2)) (eW k g n j [ar (.lst R.length),ar (.fz (zs.map D.int)),none,none])=aC (decide (2<j)):=bQ (x:=.int j) (y:=.int 2) rfl rfl rfl;by_cases hj:2<j
  ·have hi:=Cc (n:=n) (m:=mV 2) (ρ:=eW k g n j [ar (.lst X.length),ar (.fz (zs.map D.int)),none,none]) (by omega) rfl
   obtain⟨N,acc,L,B⟩:=Cb (S:=X) (k:=k) (g:=g) (its:=(k7 1 (n - 1)).map fun b:Nat=>.int (b:Int)) hj e F (k7 1 (n - 1)) [] none none (fun a s=>by have:=Kc.mp s;omega) (by rw[JF];simp;omega)
   rw[JF]at B;obtain⟨U,K⟩:=DY (S:=X) (k:=k) (g:=g) (j:=j) (zs:=zs) (q:=0) (x6:=N) (x7:=none) Y F (acc:=acc) (by simp at B;omega)
   have Q:=Kp.grow k5.st [U.map tupI];obtain⟨os,u,f,P,l7⟩:=FI (g:=g) (n:=n) (j:=j) (r:=[ar (.lst X.length),ar (.fz (zs.map D.int)),N,none]) Q.st Y;have h:k<X.length:=by have:=k5.len;simp at this;omega
   have O:u[X.length]? =ar (U.map tupI):=(P.oth X.length (by simp) (by omega)).trans bP
   obtain⟨Z,v,A,W,H,l8⟩:=Bv (g:=g) (n:=n) (j:=j) (os:=os) (x5:=ar (.fz (zs.map D.int))) (x6:=N) P.st Y O (by omega)
   refine⟨v.length,Z,_,_,(Iw ((bE J).trans (if_pos (HU hj))) X).trans ((aP (bU (d9 (S:=X) (us:=[]) (Iv _)))).trans ((aP (nU hi L)).trans ((aP K).trans ((aP (bU f)).trans (bU A))))),rfl,rfl,bP,W,G.trans ((Q.trans P).trans (H.trans (Kp.grow H.st _)))⟩
  ·exact⟨R.length,rs,_,_,(Iw ((bE J).trans (if_neg (by rw[Ip];exact hj))) X).trans rfl,rfl,rfl,z,sb,G⟩
 obtain⟨x4,Z,ρ,T,L,i,t,O,W,C⟩:=key;have hm:iz [ar (.lst k),ar (.int g),none,none,none,none,none,none] S=ar (.ok (.ret (aY n Z)),T):=by
  unfold iz;exact(aP (bU e1)).trans ((aP (bU e2)).trans ((aP (bU e3)).trans ((aP (bU l)).trans ((aP L).trans (FJ C.st Y i t O W)))))
 obtain⟨S1,K,Q⟩:=zv (c:=dw [.lst k,.int g]) (d:=aY n Z) hs (eR (o:=.ret (aY n Z)) hm rfl) C qP;exact⟨n,Z,S1,K,w,WebOk.of_sub Y W,Q⟩
def sU(zs:List Int)(t:List Int):List Int:=sortI [zs.getD (t.getD 0 0).toNat 0,zs.getD (t.getD 1 0).toNat 0]
def Hm(zs:List Int):D->D
 | .tup [.int a,.int b]=>tupI (sU zs [a,b])
 |d=>d
theorem D0{x y:Int}(h:x≠y):∃a b,sortI [x,y]=[a,b]/\a<b/\(a=x/\b=y\/a=y/\b=x):=by
 by_cases c:x<=y
 ·refine⟨x,y,?_,by omega,.inl ⟨rfl,rfl⟩⟩
  show insI x [y]=_;unfold insI;exact if_pos c
 ·refine⟨y,x,?_,by omega,.inr ⟨rfl,rfl⟩⟩
  show insI x [y]=_;unfold insI;exact if_neg c
structure TiesOk(n:Nat)(E:List (List Int)):Prop where
 el:∀t∈E,∃a b:Int,t=[a,b]/\0<=a/\a<b/\b<n
 nd:E.Nodup
 few:E.length<=21
theorem zF{E:List (List Int)}(T:zs.Perm (d4 n))(w:TiesOk n E):WebOk n (cX (E.map (sU zs))):=by
 have P:∀t∈E,∃x y a b:Int,sU zs t=[a,b]/\a<b/\t=[x,y]/\0<=x/\x<y/\y<n/\(a=zs.getD x.toNat 0/\b=zs.getD y.toNat 0\/a=zs.getD y.toNat 0/\b=zs.getD x.toNat 0):=fun t Z=>by
  obtain⟨x,y,rfl,x0,Q,W⟩:=w.el t Z;obtain⟨a,b,e,F,B⟩:=D0 (x:=zs.getD x.toNat 0) (y:=zs.getD y.toNat 0) fun z=>by have:=sR T (i:=x.toNat) (j:=y.toNat) (by omega) (by omega) z;omega
  exact⟨x,y,a,b,e,F,rfl,x0,Q,W,B⟩
 have G:=w.nd;refine WebOk.sort (Kd.mpr (List.Pairwise.imp_of_mem (fun{s t} hs Z hne e=>hne ?_) G)) (fun t Z=>?_) (by rw[HL];exact w.few)
 ·obtain⟨s,hs,rfl⟩:=IS.mp Z;obtain⟨x,y,a,b,e1,R,rfl,x0,Q,W,K⟩:=P s hs;have r:=vG T (i:=x.toNat) (by omega)
  have o:=vG T (i:=y.toNat) (by omega)
  exact⟨a,b,e1,by omega,R,by omega⟩
 ·obtain⟨x,y,a,b,e1,_,rfl,x0,Q,W,K⟩:=P s hs;obtain⟨u,v,c,d,e2,_,rfl,I,A,N,C⟩:=P t Z;rw[e1,e2]at e;have l:=(Ik e).1;have m:=(Ik (Ik e).2).1;have inj:=fun(p q:Int) (p0:0<=p) (pn:p<n) (q0:0<=q) (qn:q<n) z=>sR T (i:=p.toNat) (j:=q.toNat) (by omega) (by omega) z
  have J:=inj x u x0 (by omega) I (by omega)
  have H:=inj y v (by omega) W (by omega) N
  have L:=inj x v x0 (by omega) (by omega) N
  have O:=inj y u (by omega) W I (by omega)
  generalize zs.getD x.toNat 0=X at*;generalize zs.getD y.toNat 0=Y at*;generalize zs.getD u.toNat 0=U at*;generalize zs.getD v.toNat 0=V at*;have:x=u/\y=v:=by
   rcases K with⟨c11,c12⟩|⟨c11,c12⟩<;>rcases C with⟨c21,c22⟩|⟨c21,c22⟩
   ·have:=J (by omega);have:=H (by omega);omega
   ·have:=L (by omega);have:=O (by omega);omega
   ·have:=L (by omega);have:=O (by omega);omega
   ·have:=J (by omega);have:=H (by omega);omega
  rw[this.1,this.2]
theorem Bw{E:List (List Int)}(Y:zs.Perm (d4 n))(w:TiesOk n E):cf [aY n E,.fz (zs.map D.int)]=aC (aY n (cX (E.map (sU zs)))):=by
 have R:zs.length=n:=by rw[Y.length_eq];unfold d4;simp
 have wS:=zF Y w;have hf:=w.few;have em:((E.map tupI).filter fun _=>b_).map (Hm zs)=(E.map (sU zs)).map tupI:=by
  rw[b7,IK,IK];refine KG fun t Z=>?_;obtain⟨x,y,rfl,_⟩:=w.el t Z;rfl
 have W:=jq (mi:=dM (aQ cK (mV 0) (mK (.int 1)))) (g:=eL 2 (bw (gN 0) (bw (gN 1) ff))) (t:=fD) (m:=fE) (js:=[none,none,ar 1]) (ρ:=[ar (aY n E),ar (.fz (zs.map D.int))]) (its:=E.map tupI) (fun ρ=>∃x y,ρ=[x,y,ar (.fz (zs.map D.int))]) (fun _=>b_) (Hm zs) rfl (by rw[HL];unfold lim;omega) ⟨none,none,rfl⟩
  (fun d hd ρ ⟨x,y,hρ⟩=>by
   subst hρ;obtain⟨t,Z,rfl⟩:=IS.mp hd;obtain⟨a,b,rfl,T,ab,bn⟩:=w.el t Z;refine⟨[ar (.int a),ar (.int b),ar (.fz (zs.map D.int))],rfl,⟨_,_,rfl⟩,rfl,fun _=>?_⟩;exact zB ((b8 (x:=.fz (zs.map D.int)) (y:=.int a) rfl rfl).trans (iI T (by omega))) ((b8 (x:=.fz (zs.map D.int)) (y:=.int b) rfl rfl).trans (iI (by omega) (by omega)))) (by rw[em];exact cI _)
 rw[em]at W;have X:((cX (E.map (sU zs))).map tupI).length<=lim:=by rw[HL];have:=wS.few;unfold lim;omega
 refine fG (o:=.ret (aY n (cX (E.map (sU zs))))) (dF ?_) rfl;show(aa _ _ _>>=bY)=_;rw[a7 (x:=.int n) rfl (a7 (x:=.tup ((cX (E.map (sU zs))).map tupI)) ((eF (x:=.fz ((cX (E.map (sU zs))).map tupI)) ?_).trans (lG X)) (es:=ak) rfl),ao]
 ·unfold bY;exact if_pos kK
 ·show fJ (cC bF _ [ar (aY n E),ar (.fz (zs.map D.int))])=_;rw[eF W];show fJ (kA ((E.map (sU zs)).map tupI))=_;rw[pK (fun r U=>by
   have:=(dq (E.map (sU zs))).mem_iff.mpr U;obtain⟨a,b,e,_⟩:=wS.el r this;rw[e];rfl) (by rw[HL];omega)]
  exact bG (cI _) X
end
def sm(m:Nat)(f:Nat->Nat):Nat:=((d_ m).map f).sum
theorem Bx(f:Nat->Nat):sm 0 f=0:=rfl
theorem iJ(m:Nat)(f:Nat->Nat):sm (m+1) f=sm m f+f m:=by unfold sm;rw[List.range_succ];simp
theorem uF(f g:Nat->Nat):∀m,sm m (fun i=>f i+g i)=sm m f+sm m g
 |0=>rfl
 |m+1=>by rw[iJ,iJ,iJ,uF f g m];omega
theorem sV{f g:Nat->Nat}:∀{m:Nat},(∀i,i<m->f i=g i)->sm m f=sm m g
 |0,_=>rfl
 |m+1,h=>by rw[iJ,iJ,sV fun i Z=>h i (Kb Z),h m (Kn m)]
theorem pM:∀m,sm m (fun _=>0)=0
 |0=>rfl
 |m+1=>by rw[iJ,pM m]
theorem zG(i x:Nat):∀m,sm m (fun j=>if j=i then x else 0)=if i<m then x else 0
 |0=>by simp[Bx]
 | m+1=>by
  rw[iJ,zG i x m];by_cases h:i<m
  ·rw[if_pos h,if_neg (by omega),if_pos (by omega)];omega
  ·by_cases h2:m=i
   ·subst h2;simp
   ·rw[if_neg h,if_neg h2,if_neg (by omega)]
structure Tied(n:Nat)(E:List (List Int)):Prop where
 el:∀t∈E,∃a b:Int,t=[a,b]/\0<=a/\a<b/\b<n
 nd:E.Nodup
theorem vJ{n:Nat}{a:Int}(Z:0<=a)(Y:a<n)(x:Nat):sm n (fun p=>if (p:Int)=a then x else 0)=x:=by
 obtain⟨k,rfl⟩:=Int.eq_ofNat_of_zero_le Z;have:∀p:Nat,((p:Int)=(k:Int))↔p=k:=fun p=>by omega
 simp only[this];rw[zG,if_pos (by omega)]
theorem Ha{p a b:Int}:kM p [a,b]=decide (p=a\/p=b):=by
 unfold kM;rw[J1];simp;constructor
 ·rintro(h|h)
  ·exact .inl h.symm
  ·exact .inr h.symm
 ·rintro(h|h)
  ·exact .inl h.symm
  ·exact .inr h.symm
def jZ(E:List (List Int))(p:Nat):Nat:=E.countP (kM p)
def stp(h t:List Int):List Int:=match t with
 |[a,b]=>if a∈h/\b∉h then h++[b]else if b∈h/\a∉h then h++[a]else h
 |_=>h
def vK(E:List (List Int))(h:List Int):List Int:=E.foldl stp h
def qQ(E:List (List Int)):Nat->List Int->List Int
 |0,h=>h
 |k+1,h=>qQ E k (vK E h)
def zH(E:List (List Int))(h:List Int):Prop:=∀a b,[a,b]∈E->(a∈h↔b∈h)
theorem vL(h t:List Int):h.length<=(stp h t).length:=by
 unfold stp;split
 ·split
  ·rw[HP];omega
  ·split
   ·rw[HP];omega
   ·exact HN _
 ·exact HN _
theorem qR:∀(E:List (List Int)) (h:List Int),h.length<=(vK E h).length
 |[],h=>HN _
 |t::E,h=>HX (vL h t) (qR E (stp h t))
theorem zI{h:List Int}{a b:Int}(e:(stp h [a,b]).length=h.length):stp h [a,b]=h/\(a∈h↔b∈h):=by
 unfold stp at e⊢;dsimp only at e⊢;by_cases c1:a∈h/\b∉h
 ·rw[if_pos c1,HP]at e;exact absurd e (by show ¬ h.length+1=h.length;omega)
 ·rw[if_neg c1]at e⊢;by_cases c2:b∈h/\a∉h
  ·rw[if_pos c2,HP]at e;exact absurd e (by show ¬ h.length+1=h.length;omega)
  ·rw[if_neg c2];refine⟨rfl,fun x=>Jc fun y=>c1 ⟨x,y⟩,fun x=>Jc fun y=>c2 ⟨x,y⟩⟩
theorem zJ{h:List Int}{a b:Int}(c:a∈h↔b∈h):stp h [a,b]=h:=by
 unfold stp;dsimp only;rw[if_neg (fun x=>x.2 (c.mp x.1)),if_neg (fun x=>x.2 (c.mpr x.1))]
section
variable {n:Nat}{E:List (List Int)}
theorem sW:∀(T:List (List Int)) (h:List Int),(∀t∈T,∃a b,t=[a,b])->(vK T h).length=h.length->zH T h
 |[],h,_,_=>fun a b z=>by cases z
 |t::T,h,h2,e=>by
  obtain⟨x,y,rfl⟩:=h2 t (.head _);have U:=vL h [x,y];have S:=qR T (stp h [x,y]);have Y:(vK T (stp h [x,y])).length=h.length:=e;obtain⟨e1,e2⟩:=zI (h:=h) (a:=x) (b:=y) (by omega)
  rw[e1]at Y;have X:=sW T h (fun t W=>h2 t (.tail _ W)) Y;intro a b Z;rcases Ig.mp Z with z|z
  ·cases z;exact e2
  ·exact X a b z
theorem sX:∀(T:List (List Int)) (h:List Int),(∀t∈T,∃a b,t=[a,b])->zH T h->vK T h=h
 |[],h,_,_=>rfl
 |t::T,h,h2,c=>by
  obtain⟨x,y,rfl⟩:=h2 t (.head _);show vK T (stp h [x,y])=h;rw[zJ (c x y (.head _))];exact sX T h (fun t Z=>h2 t (.tail _ Z)) fun a b z=>c a b (.tail _ z)
theorem pN(Z:∀t∈E,∃a b,t=[a,b]){h:List Int}(c:zH E h):∀k,qQ E k h=h
 |0=>rfl
 |k+1=>by
  show qQ E k (vK E h)=h;rw[sX E h Z c];exact pN Z c k
theorem pO(Z:∀t∈E,∃a b,t=[a,b]):∀(k:Nat) (h:List Int),h.length+k<=(qQ E k h).length\/zH E (qQ E k h)
 |0,h=>.inl (HN _)
 | k+1,h=>by
  have l:=qR E h;by_cases e:(vK E h).length=h.length
  ·have c:=sW E h Z e;right;rw[pN Z c];exact c
  ·rcases pO Z k (vK E h)with g|g
   ·left;show h.length+(k+1)<=(qQ E k (vK E h)).length;omega
   ·exact .inr g
theorem qS{P:List Int->Prop}(hs:∀h a b,P h->[a,b]∈E->P (stp h [a,b]))(Z:∀t∈E,∃a b,t=[a,b]):∀(T:List (List Int)) (h:List Int),(∀t∈T,t∈E)->P h->P (vK T h)
 |[],h,_,p=>p
 |t::T,h,hT,p=>by
  obtain⟨x,y,rfl⟩:=Z t (hT t (.head _));exact qS hs Z T _ (fun t Y=>hT t (.tail _ Y)) (hs h x y p (hT _ (.head _)))
theorem n6{P:List Int->Prop}(hs:∀h a b,P h->[a,b]∈E->P (stp h [a,b]))(Z:∀t∈E,∃a b,t=[a,b]):∀(k:Nat) (h:List Int),P h->P (qQ E k h)
 |0,h,p=>p
 |k+1,h,p=>n6 hs Z k _ (qS hs Z E h (fun t Y=>Y) p)
theorem pP(h:List Int)(a b:Int):stp h [a,b]=h\/∃x y,(x=a/\y=b\/x=b/\y=a)/\x∈h/\y∉h/\stp h [a,b]=h++[y]:=by
 unfold stp;dsimp only;by_cases c1:a∈h/\b∉h
 ·rw[if_pos c1];exact .inr ⟨a,b,.inl ⟨rfl,rfl⟩,c1.1,c1.2,rfl⟩
 ·rw[if_neg c1];by_cases c2:b∈h/\a∉h
  ·rw[if_pos c2];exact .inr ⟨b,a,.inr ⟨rfl,rfl⟩,c2.1,c2.2,rfl⟩
  ·rw[if_neg c2];exact .inl rfl
def sY(h t:List Int):Bool:=t.all fun x=>decide (x∈h)
theorem iT{α:Type}{p q:α->Bool}:∀{l:List α},(∀x∈l,p x=b_->q x=b_)->(∃x∈l,q x=b_/\p x=dr)->l.countP p<l.countP q
 |[],_,h=>by obtain⟨x,Z,_⟩:=h;cases Z
 | a::l,h1,⟨x,Z,h2,h3⟩=>by
  have hle:l.countP p<=l.countP q:=Ki fun y Y=>h1 y (.tail _ Y);rw[JO,JO];rcases Ig.mp Z with rfl|Z
  ·rw[h2,h3];show l.countP p+0<l.countP q+1;omega
  ·have X:=iT (fun y Y=>h1 y (.tail _ Y)) ⟨x,Z,h2,h3⟩;have:=h1 a (.head _);cases hp:p a with
   |true=>rw[this hp];show l.countP p+1<l.countP q+1;omega
   |false=>show l.countP p+0<_;omega
structure Rch(n:Nat)(E:List (List Int))(h:List Int):Prop where
 nd:h.Nodup
 el:∀x∈h,0<=x/\x<n
 zr:0∈h
 ct:h.length<=E.countP (sY h)+1
 dg:2<=h.length->∀x∈h,∃t∈E,x∈t
theorem Rch.stp(w:WebOk n E){h:List Int}{a b:Int}(r:Rch n E h)(Y:[a,b]∈E):Rch n E (stp h [a,b]):=by
 rcases pP h a b with e|⟨x,y,hxy,hx,hy,e⟩
 ·rw[e];exact r
 ·rw [e];obtain⟨Q,P,e2,O,ab,bn⟩:=w.el _ Y;have N:=(Ik e2).1;have R:=(Ik (Ik e2).2).1;have W:0<=y/\y<n:=by rcases hxy with⟨rfl,rfl⟩|⟨rfl,rfl⟩<;>omega
  have X:y∈[a,b]/\x∈[a,b]:=by rcases hxy with⟨rfl,rfl⟩|⟨rfl,rfl⟩<;>simp
  refine⟨KU.mpr ⟨r.nd,JA _ _,fun u Z v T e=>hy (by rw[Io.mp T]at e;exact e ▸ Z)⟩,fun u Z=>?_,JK _ r.zr,?_,fun _ u Z=>?_⟩
  ·rcases Jk.mp Z with Z|Z
   ·exact r.el u Z
   ·rw[Io.mp Z];exact W
  ·have S:E.countP (sY h)<E.countP (sY (h++[y])):=iT (fun t _ U=>by
    unfold sY at U⊢;rw[Ir]at U⊢;exact fun u Z=>HU (JK _ (ID (U u Z)))) ⟨[a,b],Y,by
     unfold sY;rw[Ir];intro u Z;refine HU ?_;simp only[gg,f_,or_false]at Z;rw[Jk,Io];rcases hxy with⟨rfl,rfl⟩|⟨rfl,rfl⟩<;>rcases Z with rfl|rfl<;>first|exact .inl hx|exact .inr rfl,by
     have:¬ sY h [a,b]=true:=fun z=>by
      unfold sY at z;rw[Ir]at z;exact hy (ID (z y X.1))
     simpa using this⟩
   have:=r.ct;rw[HP];show h.length+1<=_;omega
  ·rcases Jk.mp Z with Z|Z
   ·by_cases h2:2<=h.length
    ·exact r.dg h2 u Z
    ·have:h=[x]:=by
      match h,hx,h2 with
      |[z],hx,_=>rw[Io.mp hx]
      |[],hx,_=>cases hx
      |_::_::_,_,h2=>exact absurd (by simp) h2
     rw[this]at Z;rw[Io.mp Z];exact⟨_,Y,X.2⟩
   ·rw[Io.mp Z];exact⟨_,Y,X.1⟩
abbrev iQ(n:Nat)(E:List (List Int)):List Int:=qQ E n [0]
theorem lK(w:WebOk n E):∀t∈E,∃a b:Int,t=[a,b]:=fun t Z=>by obtain⟨a,b,e,_⟩:=w.el t Z;exact⟨a,b,e⟩
theorem qT(w:WebOk n E)(X:1<=n):Rch n E (iQ n E):=n6 (P:=Rch n E) (fun h a b r Z=>r.stp w Z) (lK w) n [0] ⟨JA _ _,fun x Y=>by rw[Io.mp Y];omega,.head _,by show 1<=_;omega,fun z=>absurd z (by decide)⟩
theorem kN{l:List Int}(Y:l.Nodup)(Z:∀x∈l,0<=x/\x<n):l.length<=n:=by
 have:=uE (m:=(d_ n).map fun j:Nat=>(j:Int)) Y fun x X=>by
  obtain⟨h0,W⟩:=Z x X;exact IS.mpr ⟨x.toNat,IA.mpr (by omega),by omega⟩
 rw[HL,Ie]at this;exact this
theorem zK(w:WebOk n E)(Z:1<=n):zH E (iQ n E):=by
 rcases pO (lK w) n [0]with g|g
 ·have r:=qT w Z;have:=kN r.nd r.el;have g':1+n<=(iQ n E).length:=g;omega
 ·exact g
theorem vM(w:WebOk n E)(X:1<=n)(Y:(iQ n E).length=n){p:Nat}(W:p<n):(p:Int)∈iQ n E:=by
 have r:=qT w X;refine Jc fun c=>?_;have:=kN (n:=n) (IV.mpr ⟨c,r.nd⟩) fun x Z=>by
  rcases Ig.mp Z with rfl|Z
  ·omega
  ·exact r.el x Z
 rw[IH,Y]at this;omega
end
abbrev gI(L:List Int)(a:Int):Int:=L.getD a.toNat 0
def iN(L t:List Int):List Int:=match t with
 |[a,b]=>L.map fun x=>if x=(if gI L b>gI L a then gI L b else gI L a)then (if gI L b<gI L a then gI L b else gI L a)else x
 |_=>L
section
variable {n:Nat}{E T:List (List Int)}{L:List Int}
structure Lab(n:Nat)(E T:List (List Int))(L:List Int):Prop where
 len:L.length=n
 rg:∀p:Int,0<=p->p<n->0<=gI L p/\gI L p<n
 idm:∀p:Int,0<=p->p<n->gI L (gI L p)=gI L p
 tie:∀a b,[a,b]∈T->gI L a=gI L b
 cls:∀C:Int->Prop,(∀a b,[a,b]∈E->(C a↔C b))->∀p:Int,0<=p->p<n->(C p↔C (gI L p))
theorem D1{f:Int->Int}{p:Int}(Z:0<=p)(h:p<L.length):gI (L.map f) p=f (gI L p):=by
 unfold gI;rw[Ib,Ib,IL,HR (by omega)];rfl
theorem Lab.step(w:WebOk n E)(l:Lab n E T L){a b:Int}(W:[a,b]∈E)(u:∀t∈T,t∈E):Lab n E ([a,b]::T) (iN L [a,b]):=by
 obtain⟨h,f,e2,R,ab,bn⟩:=w.el _ W;have r:=(Ik e2).1;have y:=(Ik (Ik e2).2).1;subst r y;have q:=l.rg a R (by omega)
 have j:=l.rg b (by omega) bn
 have m:=l.idm a R (by omega)
 have o:=l.idm b (by omega) bn
 obtain⟨g,k,J,I⟩:∃g k,g=(if gI L b>gI L a then gI L b else gI L a)/\k=(if gI L b<gI L a then gI L b else gI L a):=⟨_,_,rfl,rfl⟩;have X:(g=gI L a/\k=gI L b)\/(g=gI L b/\k=gI L a):=by
  rw[J,I];by_cases c:gI L b>gI L a
  ·rw[if_pos c,if_neg (by omega)];exact .inr ⟨rfl,rfl⟩
  ·rw[if_neg c];by_cases U:gI L b<gI L a
   ·rw[if_pos U];exact .inl ⟨rfl,rfl⟩
   ·rw[if_neg U];exact .inl ⟨rfl,by omega⟩
 have e:iN L [a,b]=L.map fun x=>if x=g then k else x:=by rw[J,I];rfl
 have gt:∀p:Int,0<=p->p<n->gI (iN L [a,b]) p=if gI L p=g then k else gI L p:=fun p h0 Z=>by
  rw[e,D1 h0 (by rw[l.len];exact Z)]
 have O:0<=k/\k<n:=by rcases X with⟨_,rfl⟩|⟨_,rfl⟩<;>assumption
 have v:gI L k=k:=by rcases X with⟨_,rfl⟩|⟨_,rfl⟩<;>assumption
 have k2:gI (iN L [a,b]) k=k:=by
  rw[gt k O.1 O.2,v];split<;>rfl
 refine⟨by rw[e,HL];exact l.len,fun p h0 Z=>?_,fun p h0 Z=>?_,fun c d P=>?_,fun C S p h0 Z=>?_⟩
 ·rw[gt p h0 Z];split
  ·exact O
  ·exact l.rg p h0 Z
 ·rw[gt p h0 Z];split
  ·exact k2
  ·next hne=>
   have:=l.rg p h0 Z;rw[gt _ this.1 this.2,l.idm p h0 Z,if_neg hne]
 ·rcases Ig.mp P with z|z
  ·have K:=(Ik z).1;have Q:=(Ik (Ik z).2).1;subst K Q;rw[gt _ R (by omega),gt _ (by omega) bn]
   rcases X with⟨rfl,rfl⟩|⟨rfl,rfl⟩
   ·rw[if_pos rfl];split<;>rfl
   ·rw[if_pos rfl];split<;>rfl
  ·obtain⟨i,d',B,A,cd,s⟩:=w.el _ (u _ z);have K:=(Ik B).1;have Q:=(Ik (Ik B).2).1;subst K Q;rw[gt _ A (by omega),gt _ (by omega) s,l.tie _ _ z]
 ·have H:=l.cls C S p h0 Z;have U:=l.cls C S a R (by omega)
  have G:=l.cls C S b (by omega) bn
  have F:=S a b W;rw[gt p h0 Z];split
  ·next hp=>
   rw[H,hp];rcases X with⟨rfl,rfl⟩|⟨rfl,rfl⟩
   ·exact U.symm.trans (F.trans G)
   ·exact G.symm.trans (F.symm.trans U)
  ·exact H
abbrev zM(n:Nat):List Int:=(d_ n).map fun j:Nat=>(j:Int)
theorem zN:Lab n E [] (zM n):=by
 have g:∀p:Int,0<=p->p<n->gI (zM n) p=p:=fun p h0 Z=>by
  unfold gI zM;rw[Ib,IL,JR (by omega)]
  show((p.toNat:Nat):Int)=p;omega
 exact⟨by rw[HL,Ie],fun p h0 Z=>by rw[g p h0 Z];exact⟨h0,Z⟩,fun p h0 Z=>by rw[g p h0 Z,g p h0 Z],(fun a b z=>by cases z),fun C _ p h0 Z=>by rw[g p h0 Z]⟩
theorem vN(w:WebOk n E):∀(R T:List (List Int)) (L:List Int),(∀t∈R,t∈E)->(∀t∈T,t∈E)->Lab n E T L->∃Y,Lab n E Y (R.foldl iN L)/\(∀t∈T,t∈Y)/\∀t∈R,t∈Y
 |[],T,L,_,_,l=>⟨T,l,fun t h=>h,fun t h=>by cases h⟩
 | t::R,T,L,hR,hT,l=>by
  obtain⟨a,b,rfl⟩:=lK w t (hR t (.head _));obtain⟨Y,X,s1,s2⟩:=vN w R ([a,b]::T) _ (fun t Z=>hR t (.tail _ Z)) (fun t Z=>by
   rcases Ig.mp Z with rfl|Z
   ·exact hR _ (.head _)
   ·exact hT t Z) (l.step w (hR _ (.head _)) hT)
  exact⟨Y,X,fun t Z=>s1 t (.tail _ Z),fun t Z=>by
   rcases Ig.mp Z with rfl|Z
   ·exact s1 _ (.head _)
   ·exact s2 t Z⟩
abbrev bW(n:Nat)(E:List (List Int)):List Int:=E.foldl iN (zM n)
theorem qU(w:WebOk n E):Lab n E E (bW n E):=by
 obtain⟨Z,l,_,s⟩:=vN w E [] (zM n) (fun t h=>h) (fun t h=>by cases h) zN
 exact⟨l.len,l.rg,l.idm,fun a b h=>l.tie a b (s _ h),l.cls⟩
def heads(n:Nat)(L:List Int):List Nat:=(d_ n).filter fun p:Nat=>decide (gI L (p:Int)=(p:Int))
theorem w5(w:WebOk n E)(S:1<=n)(h:(iQ n E).length=n):(heads n (bW n E)).length<=1:=by
 have l:=qU w;have key:∀x∈iQ n E,gI (bW n E) x=gI (bW n E) 0:=n6 (P:=fun h=>∀x∈h,gI (bW n E) x=gI (bW n E) 0) (fun h a b r X x Z=>by
  rcases pP h a b with e|⟨u,v,huv,hu,hv,e⟩
  ·rw[e]at Z;exact r x Z
  ·rw[e]at Z;rcases Jk.mp Z with Z|Z
   ·exact r x Z
   ·rw[Io.mp Z];have:=l.tie a b X;rcases huv with⟨rfl,rfl⟩|⟨rfl,rfl⟩
    ·rw[<-this];exact r _ hu
    ·rw[this];exact r _ hu) (lK w) n [0] (fun x Z=>by rw[Io.mp Z])
 have Y:(heads n (bW n E)).Nodup:=List.nodup_range.filter _;have all:∀p∈heads n (bW n E),(p:Int)=gI (bW n E) 0:=fun p R=>by
  obtain⟨W,U⟩:=Kx.mp R;rw[<-ID U];exact key _ (vM w S h (IA.mp W))
 match hd:heads n (bW n E),Y,all with
 |[],_,_=>exact Iv _
 |[x],_,_=>exact HN _
 |x::y::r,Y,all=>
  have O:=all x (.head _);have Q:=all y (.tail _ (.head _));have:x=y:=by omega
  rw[this]at Y;exact absurd (.head _) (IV.mp Y).1
theorem w6(w:WebOk n E)(U:1<=n)(h:(iQ n E).length≠n):2<=(heads n (bW n E)).length:=by
 have l:=qU w;have r:=qT w U;have S:=zK w U;have N:(iQ n E).length<n:=by have:=kN r.nd r.el;omega
 obtain⟨q,W,Y⟩:∃q:Nat,q<n/\(q:Int)∉iQ n E:=Jc fun c=>by
  have:=uE (l:=zM n) (m:=iQ n E) (Kd.mpr ((Ld (n:=n)).imp fun h e=>h (by omega))) fun x P=>by
   obtain⟨q,W,rfl⟩:=IS.mp P;exact Jc fun z=>c ⟨q,IA.mp W,z⟩
  rw[HL,Ie]at this;omega
 have hd:∀p:Int,0<=p->p<n->(gI (bW n E) p).toNat∈heads n (bW n E):=fun p h0 Z=>by
  have J:=l.rg p h0 Z;refine Kx.mpr ⟨IA.mpr (by omega),HU ?_⟩
  rw[show(((gI (bW n E) p).toNat:Nat):Int)=gI (bW n E) p by omega]
  exact l.idm p h0 Z
 have K:=(l.cls (· ∈iQ n E) S 0 (by omega) (by omega)).mp r.zr
 have O:gI (bW n E) q∉iQ n E:=fun z=>Y ((l.cls (· ∈iQ n E) S q (by omega) (by omega)).mpr z)
 have h0:=hd 0 (by omega) (by omega)
 have Z:=hd q (by omega) (by omega)
 have R:=l.rg 0 (by omega) (by omega)
 have Q:=l.rg q (by omega) (by omega)
 have X:(gI (bW n E) 0).toNat≠(gI (bW n E) q).toNat:=fun e=>O (by rw[show gI (bW n E) q=gI (bW n E) 0 by omega];exact K)
 match hl:heads n (bW n E),h0,Z with
 |[],h0,_=>cases h0
 |[x],h0,Z=>exact absurd ((Io.mp h0).trans (Io.mp Z).symm) X
 |x::y::r,_,_=>simp
end
theorem D3(m:Nat)(f:Nat->Nat):((d_ m).map fun i=>((f i:Nat):Int)).sum=((sm m f:Nat):Int):=by
 unfold sm
 induction (d_ m)with
 |nil=>rfl
 |cons x l ih=>rw[Iu,Iu,K1,K1,ih];omega
theorem vO{n:Nat}:∀E:List (List Int),(∀t∈E,∃a b:Int,t=[a,b]/\0<=a/\a<b/\b<n)->sm n (jZ E)=2*E.length
 |[],_=>pM n
 | t::E,h=>by
  obtain⟨a,b,rfl,Y,ab,bn⟩:=h t (.head _);have Z:=vO E fun t X=>h t (.tail _ X);have e:∀p,p<n->jZ ([a,b]::E) p=jZ E p+((if (p:Int)=a then 1 else 0)+(if (p:Int)=b then 1 else 0)):=fun p _=>by
   unfold jZ;rw[JO,Ha];congr 1;by_cases h1:(p:Int)=a
   ·rw[show decide ((p:Int)=a\/(p:Int)=b)=b_ from HU (.inl h1),if_pos rfl,if_pos h1,if_neg (by omega)]
   ·by_cases h2:(p:Int)=b
    ·rw[show decide ((p:Int)=a\/(p:Int)=b)=b_ from HU (.inr h2),if_pos rfl,if_neg h1,if_pos h2]
    ·rw[show decide ((p:Int)=a\/(p:Int)=b)=dr from Ij fun z=>z.elim h1 h2,if_neg (by decide),if_neg h1,if_neg h2]
  rw[sV e,uF (jZ E),uF,Z,vJ Y (by omega),vJ (by omega) bn,IH]
  omega
def dl(n:Nat)(E:List (List Int)):List Int:=(d_ n).map fun p=>((jZ E p:Nat):Int)
theorem zO{l s:List Int}(h:l.Perm s)(hs:s.Pairwise (· <=·)):sortI l=s:=
 KW (le:=(· <=·)) (fun a b _ _ x y=>Int.le_antisymm x y) (ir l) hs ((sortI_perm l).trans h)
theorem zQ:∀l:List Int,(∀x∈l,x=1\/x=2)->∃c d:Nat,l.Perm (dV c 1++dV d 2)/\c+d=l.length/\l.sum=(c:Int)+2*d
 |[],_=>⟨0,0,.refl _,rfl,rfl⟩
 |x::l,h=>by
  obtain⟨c,d,Z,X,hs⟩:=zQ l fun y Y=>h y (.tail _ Y);rcases h x (.head _)with rfl|rfl
  ·exact⟨c+1,d,by rw[IB];exact Z.cons 1,by rw[IH];omega,by rw[K1,hs];omega⟩
  ·exact⟨c,d+1,by rw[IB];exact(Z.cons 2).trans List.perm_middle.symm,by rw[IH];omega,by rw[K1,hs];omega⟩
theorem w8(c d:Nat):(dV c (1:Int)++dV d 2).Pairwise (· <=·):=by
 rw[List.pairwise_append];refine⟨K2.mpr (.inr (by decide)),K2.mpr (.inr (by decide)),fun a Y b Z=>?_⟩
 rw[(J3.mp Y).2,(J3.mp Z).2];decide
def jI(n:Nat)(E:List (List Int)):D:=
 if sortI (dl n E)=[1,1,1,3]then .tup [.str "stays",.int 3]else if (dl n E).any (fun x=>decide (x>2))=b_ then .tup [.str "grows"]else if E≠[]/\E.length=n then .tup [.str "stays",.int n]else .tup [.str "gone",.int n]
def xa(n:Nat)(E:List (List Int)):D:=
 if sortI (dl n E)=[1,1,1,3]then .tup [.str "stays",.int 3]else if sortI (dl n E)=[]\/sortI (dl n E)=[0]\/sortI (dl n E)=[1,1]++dV (n - 2) 2 then .tup [.str "gone",.int n]else if sortI (dl n E)=dV n 2 then .tup [.str "stays",.int n]else .tup [.str "grows"]
theorem zR{n:Nat}{E:List (List Int)}(w:WebOk n E)(O:n=0\/(iQ n E).length=n):jI n E=xa n E:=by
 unfold jI xa;by_cases h4:sortI (dl n E)=[1,1,1,3]
 ·rw[if_pos h4,if_pos h4]
 rw[if_neg h4,if_neg h4];have hlen:(dl n E).length=n:=by unfold dl;rw[HL,Ie]
 have I:(sortI (dl n E)).length=n:=by rw[(sortI_perm _).length_eq,hlen]
 by_cases hg:(dl n E).any (fun x=>decide (x>2))=b_
 ·rw[if_pos hg];obtain⟨x,Y,W⟩:=Kq.mp hg;have W:=ID W;have X:x∈sortI (dl n E):=(sortI_perm _).mem_iff.mpr Y;have no:∀l:List Int,(∀y∈l,y<=2)->sortI (dl n E)≠l:=fun l L e=>by
   rw[e]at X;have:=L x X;omega
  rw[if_neg,if_neg (no _ fun y Z=>by rw[(J3.mp Z).2];decide)]
  rintro(e|e|e)
  ·exact no _ (fun y Z=>by cases Z) e
  ·exact no _ (fun y Z=>by rw[Io.mp Z];decide) e
  ·refine no _ (fun y Z=>?_) e;rcases Jk.mp Z with Z|Z
   ·simp only[gg,f_,or_false,or_self]at Z;omega
   ·rw[(J3.mp Z).2];decide
 ·rw [if_neg hg];have Q:∀x∈dl n E,x<=2:=fun x Y=>by
   by_cases c:x>2
   ·exact absurd (Kq.mpr ⟨x,Y,HU c⟩) hg
   ·omega
  by_cases hn:n<2
  ·have H:E=[]:=by
    match E,w with
    |[],_=>rfl
    |t::_,w=>
     obtain⟨a,b,_,C,ab,bn⟩:=w.el t (.head _);omega
   subst H;rw[if_neg (fun z=>z.1 rfl),if_pos]
   match n,hn with
   |0,_=>exact .inl rfl
   |1,_=>exact .inr (.inl rfl)
  ·have N:(iQ n E).length=n:=O.resolve_left (by omega)
   have r:=qT w (by omega)
   have G:n<=E.length+1:=by
    have:=r.ct;have W:E.countP (sY (iQ n E))<=E.length:=List.countP_le_length;omega
   have ge1:∀x∈dl n E,1<=x:=fun x Y=>by
    obtain⟨p,U,rfl⟩:=IS.mp Y;obtain⟨t,J,S⟩:=r.dg (by omega) (p:Int) (vM w (by omega) N (IA.mp U))
    have:0<E.countP (kM p):=List.countP_pos_iff.mpr ⟨t,J,by unfold kM;exact Kq.mpr ⟨_,S,La _⟩⟩
    unfold jZ;omega
   obtain⟨c,d,U,K,hs⟩:=zQ (dl n E) fun x Y=>by
    have F:=ge1 x Y;have W:=Q x Y;omega
   have P:(dl n E).sum=2*(E.length:Int):=by
    unfold dl;rw[D3,vO E w.el];omega
   have T:=zO U (w8 c d);rw[T];by_cases hEn:E.length=n
   ·have R:c=0:=by omega
    have hd:d=n:=by omega
    subst R hd;rw[if_pos ⟨fun z=>by rw[z]at hEn;simp at hEn;omega,hEn⟩,if_neg,if_pos (by rw[List.replicate_zero];rfl)]
    rw[List.replicate_zero,Lf];obtain⟨m,rfl⟩:∃m,d=m+2:=⟨d - 2,by omega⟩
    rw[IB,IB];rintro(z|z|z)
    ·cases z
    ·cases z
    ·have:=(Ik z).1;omega
   ·have R:c=2:=by omega
    have hd:d=n - 2:=by omega
    subst R hd;rw[if_neg (fun z=>hEn z.2),if_pos (.inr (.inr rfl))]
def ma:cM:=bD (Dq (cz cN (mV 4) (aL (aS (aa (mK (.int 12)) (ak))))) (aL (aQ cY (mV 4) (aL (aS (aa (lX dr (mV 1)) (aa (lX b_ (mV 1)) (ak))))))) (mV 4))
def m_find:cM:=aA (fx (fq (bV (yQ (mV 1)))) (bD (mK .non)) (cn)) (aA (bo 4 (aL (bj (kU (mK (.int 13))) (gN 0) bR bS [none,ar 3]))) ma)
def gR:cM:=aA (bo 3 (aS (aa (cO (mV 1) "NoWeb") (aa (cO (mV 1) "NoPlace") (aa (cO (mV 1) "NoPlaces") (ak)))))) (aA (bo 3 (aQ cY (mV 3) (aL (aS (aa (cO (mV 1) "NoMap") (aa (cO (mV 1) "NoSharing") (aa (cO (mV 1) "NoRoot") (ak)))))))) (aA (bo 3 (aQ cY (mV 3) (aL (aS (aa (cO (mV 1) "NoNumber") (aa (cO (mV 1) "NotJoined") (aa (cO (mV 1) "NoTie") (ak)))))))) (aA (bo 3 (aQ cY (mV 3) (aL (aS (aa (cO (mV 1) "NoText") (aa (cO (mV 1) "NoLine") (aa (cO (mV 1) "NoDeed") (ak)))))))) (aA (oy (qz cb (mV 3) (cO (mV 1) "TooGreat"))) m_find))))
theorem zS(f:D)(c:M D):eE f c=aA (bo 1 (mK .non)) (aA (su 0 2 1 f c) gR):=rfl
theorem xb(f g x:D):(gR [ar f,ar x,none,none,none]>>=outD)=(gR [ar g,ar x,none,none,none]>>=outD):=by
 unfold gR m_find ma;simp only[aA,bo,oy,fx,bD,cn,mV,mK,aS,aQ,qz,cO,yQ,Dq,fq,bV,cz,aa,ak,az,cC,bj,aL,lX,kU,Fl,xW,eM,ao,Bi,Fq,Fs,Ft,Fu,Fv,List.set_cons_succ,List.set_cons_zero,outD,jD,E_,List.map_nil,Option.bind,List.getElem?_cons_succ,List.getElem?_cons_zero,Option.join]
theorem zT(f:D)(c:M D):bA f c []=nZ c (fun x=>gR [ar f,ar x,none,none,none]>>=outD):=by
 funext S;unfold bA ou;rw[if_pos (show[f].length=1 from rfl)];show((eE f c [ar f,none,none,none,none])>>=outD) S=_;rw[zS,aW (ρ':=[ar f,ar .non,none,none,none]) rfl];have Z:su 0 2 1 f c [ar f,ar .non,none,none,none]=yJ 2 1 c [ar f,ar .non,none,none,none]:=by
  unfold su;exact if_pos rfl
 show((su 0 2 1 f c [ar f,ar .non,none,none,none]>>=fun o=>xW o gR)>>=outD) S=_;rw[Z,eM];show M.bnd (yJ 2 1 c [ar f,ar .non,none,none,none]) _ S=_;unfold M.bnd yJ nZ;cases h:c S with
 |none=>rfl
 | some p=>
  obtain⟨r,S1⟩:=p;cases r with
  |ok a=>rfl
  | ex x=>
   cases x with
   |exc n ds=>
    dsimp only;by_cases hn:n∈aV
    ·rw[if_pos hn,if_pos hn];rfl
    ·rw[if_neg hn,if_neg hn]
   |_=>rfl
theorem ef:∀f c es,bA f c es=bc c es:=by
 intro f c es;unfold bc;cases es with
 |nil=>
  rw[zT,zT];congr 1;funext x;exact xb _ _ x
 |cons e es=>
  unfold bA ou;rw[if_neg (by simp),if_neg (by simp)]
section
variable {f:D}{n:Str}{ds:List D}{S G:ay}{p:Nat}{xs:List D}{z:Option D}
theorem mL(Z:n∈aV)(a:Str):cO (mV 1) a [ar f,ar (.exc n ds),none,z,none]=aC (.bl (cu n a)):=zq (ds:=ds) (g:=fun n=>cu n a) Z
theorem three(Z:n∈aV)(a b c:Str):aa (cO (mV 1) a) (aa (cO (mV 1) b) (aa (cO (mV 1) c) ak)) [ar f,ar (.exc n ds),none,z,none]=aC [.bl (cu n a),.bl (cu n b),.bl (cu n c)]:=
 a7 (mL Z a) (a7 (mL Z b) (a7 (mL Z c) rfl))
theorem n8(X:n∈aV)(a b c:Str)(W:(S++G)[p]? =ar xs)(U:xs.length<=100):∃p' G',bo 3 (aQ cY (mV 3) (aL (aS (aa (cO (mV 1) a) (aa (cO (mV 1) b) (aa (cO (mV 1) c) ak)))))) [ar f,ar (.exc n ds),none,ar (.lst p),none] (S++G)=ar (.ok (.nx [ar f,ar (.exc n ds),none,ar (.lst p'),none]),S++G')/\(S++G')[p']? =ar (xs++[.bl (cu n a),.bl (cu n b),.bl (cu n c)])/\S.length<=p':=by
 refine⟨(S++G).length,G++[xs++[.bl (cu n a),.bl (cu n b),.bl (cu n c)]],?_,by rw[<-Iy];exact bP,by rw[HP];omega⟩
 have Z:aL (aS (aa (cO (mV 1) a) (aa (cO (mV 1) b) (aa (cO (mV 1) c) ak)))) [ar f,ar (.exc n ds),none,ar (.lst p),none]=aC (.fz [.bl (cu n a),.bl (cu n b),.bl (cu n c)]):=by
  show fJ (aa _ _ _>>=bq)=_;rw[three X a b c,ao];exact bG rfl Fp
 have Y:=b8 (f:=cY) (m:=mV 3) (ρ:=[ar f,ar (.exc n ds),none,ar (.lst p),none]) (x:=.lst p) rfl Z;show((aQ cY _ _ _)>>=fun x=>aC (Out.nx _)) _=_;rw[Y,aH (a:=.lst (S++G).length) (S1:=S++(G++[xs++[.bl (cu n a),.bl (cu n b),.bl (cu n c)]]))]
 ·rfl
 ·show(getL p>>=fun xs=>bq (xs++_)) _=_;rw[aH (a:=xs) (S1:=S++G) (by unfold getL;rw[W];rfl)]
  unfold bq;rw[if_pos (by rw[HP];show xs.length+3<=lim;unfold lim;omega),Iy]
end
theorem find_eq{f:D}{n:Str}{ds:List D}{S:ay}{p:Nat}{bs:List Bool}(Z:n∈aV)(T:S[p]? =ar (bs.map D.bl))(K:bs.length=13):
  m_find [ar f,ar (.exc n ds),none,ar (.lst p),none] S=ma [ar f,ar (.exc n ds),none,ar (.lst p),ar (.fz ((a9 0 13).filter (uB bs)))] S:=by
 have Y:fx (fq (bV (yQ (mV 1)))) (bD (mK .non)) cn [ar f,ar (.exc n ds),none,ar (.lst p),none]=aC (.nx [ar f,ar (.exc n ds),none,ar (.lst p),none]):=by
  have:fq (bV (yQ (mV 1))) [ar f,ar (.exc n ds),none,ar (.lst p),none]=aC false:=by
   show((sk (fun _=>b_) (.exc n ds)>>=ie)>>=_)=_;rw[zq Z];rfl
  exact(bE this).trans (if_neg (by decide))
 unfold m_find;rw[aW Y];have N:kU (mK (.int 13)) [ar f,ar (.exc n ds),none,ar (.lst p),none]=aC ⟨a9 0 13,.none⟩:=(nQ (x:=.int 13) rfl).trans (y0 (by omega))
 have L:cm ⟨a9 0 13,.none⟩ (gN 0) bR bS (a9 0 13) [none,ar (.lst p)] S=ar (.ok ((a9 0 13).filter (uB bs)),S):=by
  refine sN (fun ρ=>∃x,ρ=[x,ar (.lst p)]) (uB bs) _ _ ⟨none,rfl⟩ fun d hd ρ ⟨x,hρ⟩=>?_;subst hρ;obtain⟨k,U,rfl⟩:=IS.mp hd;have U:k<13:=IA.mp U;refine⟨_,rfl,⟨_,rfl⟩,?_,rfl⟩;have e:jM (bs.map D.bl) (0+(k:Int))=ar (.bl (bs.getD k dr)):=by
   rw[Kj];unfold jM xm;rw[HL];have Y:¬ ((k:Int)<0):=by omega
   have O:(k:Int)<bs.length:=by omega
   have R:k<bs.length:=by omega
   simp[Y,O,R]
  show((getL p>>=fun xs=>match jM xs (0+(k:Int))with|some d=>(aC d:M D)|none=>M.fail)>>=ie) S=_
  rw[aH (a:=D.bl (bs.getD k dr)) (S1:=S)]
  ·show ar (Res.ok (bs.getD k dr),S)=ar (.ok (bs.getD (0+(k:Int)).toNat dr),S);rw[Kj,Jw]
  ·rw[aH (a:=bs.map D.bl) (S1:=S) (by unfold getL;rw[T];rfl),e];rfl
 have hm:bj (kU (mK (.int 13))) (gN 0) bR bS [none,ar 3] [ar f,ar (.exc n ds),none,ar (.lst p),none] S=bq ((a9 0 13).filter (uB bs)) S:=by
  unfold bj;rw[N,ao];unfold eV;rw[if_pos (by show(a9 0 13).length<=lim;unfold a9 lim;rw[HL,Ie];omega)]
  exact aH L
 have P:fJ (bj (kU (mK (.int 13))) (gN 0) bR bS [none,ar 3] [ar f,ar (.exc n ds),none,ar (.lst p),none]) S=ar (.ok (.fz ((a9 0 13).filter (uB bs))),S):=by
  have X:cw 0 ((a9 0 13).filter (uB bs))=true:=by
   have:∀l:List Nat,cw 0 ((l.map fun i:Nat=>D.int (0+(i:Int))).filter (uB bs))=true:=fun l=>by
    induction l with
    |nil=>rfl
    |cons x l ih=>
     rw[Iu,List.filter_cons];split
     ·unfold cw;rw[ih];unfold eP;rfl
     ·exact ih
   exact this _
  have Z:bq ((a9 0 13).filter (uB bs)) S=ar (.ok (.lst S.length),S++[(a9 0 13).filter (uB bs)]):=by
   unfold bq;exact if_pos (HX (Je _ _) (by unfold a9 lim;rw[HL,Ie];omega))
  obtain⟨d,W,e,rfl,rfl⟩:=sG (Q:=fun d W=>d= .fz ((a9 0 13).filter (uB bs))/\W=S) ⟨_,_,hm.trans Z,[(a9 0 13).filter (uB bs)],S.length,_,rfl,rfl,bP,HN _,iy (Iv _) _ X,rfl,rfl⟩;exact e
 show(bo 4 _ _>>=fun o=>xW o ma) S=_;rw[aH (a:=.nx [ar f,ar (.exc n ds),none,ar (.lst p),ar (.fz ((a9 0 13).filter (uB bs)))]) (S1:=S)]
 ·rfl
 ·show(fJ _>>=_) S=_;rw[aH P];rfl
def marks(n:Str):List Bool:=[cu n "NoWeb",cu n "NoPlace",cu n "NoPlaces",cu n "NoMap",cu n "NoSharing",cu n "NoRoot",cu n "NoNumber",cu n "NotJoined",cu n "NoTie",cu n "NoText",cu n "NoLine",cu n "NoDeed",cu n "TooGreat"]
theorem zU{f:D}{n:Str}{ds:List D}{us:List D}{v:D}(Y:n∈aV)(U:(a9 0 13).filter (uB (marks n))=us)(W:∀p,ma [ar f,ar (.exc n ds),none,ar (.lst p),ar (.fz us)]=aC (.ret v))(S:ay):
  runs (gR [ar f,ar (.exc n ds),none,none,none]>>=outD) S fun d L=>d=v/\∃G,L=S++G:=by
 have K:bo 3 (aS (aa (cO (mV 1) "NoWeb") (aa (cO (mV 1) "NoPlace") (aa (cO (mV 1) "NoPlaces") ak)))) [ar f,ar (.exc n ds),none,none,none] S=ar (.ok (.nx [ar f,ar (.exc n ds),none,ar (.lst S.length),none]),S++[[.bl (cu n "NoWeb"),.bl (cu n "NoPlace"),.bl (cu n "NoPlaces")]]):=by
  show((aa _ _ _>>=bq)>>=fun x=>aC (Out.nx _)) S=_;rw[three Y,ao,aH (d9 (us:=[.bl (cu n "NoWeb"),.bl (cu n "NoPlace"),.bl (cu n "NoPlaces")]) Fp)];rfl
 obtain⟨I,H,e2,g2,F⟩:=n8 (f:=f) (ds:=ds) (S:=S) Y "NoMap" "NoSharing" "NoRoot" (bP (S:=S) (xs:=[.bl (cu n "NoWeb"),.bl (cu n "NoPlace"),.bl (cu n "NoPlaces")])) (by decide:3<=100)
 obtain⟨E,B,J,g3,C⟩:=n8 (f:=f) (ds:=ds) (S:=S) Y "NoNumber" "NotJoined" "NoTie" g2 (by decide:6<=100)
 obtain⟨Z,X,N,R,O⟩:=n8 (f:=f) (ds:=ds) (S:=S) Y "NoText" "NoLine" "NoDeed" g3 (by decide:9<=100)
 have Q:=(HQ.mp R).1;have P:oy (qz cb (mV 3) (cO (mV 1) "TooGreat")) [ar f,ar (.exc n ds),none,ar (.lst Z),none] (S++X)=ar (.ok (.nx [ar f,ar (.exc n ds),none,ar (.lst Z),none]),(S++X).set Z ((marks n).map D.bl)):=by
  have hm:=Fy (f:=cb) (e1:=mV 3) (ρ:=[ar f,ar (.exc n ds),none,ar (.lst Z),none]) (x:=.lst Z) rfl rfl (mL (f:=f) (ds:=ds) (z:=ar (.lst Z)) Y "TooGreat");refine sL (x:=.non) ((Iw hm _).trans ?_);rw[ao];show(getL Z>>=fun xs=>jN Z (xs++[.bl (cu n "TooGreat")])) _=_;rw[aH (dP R)];exact jw (by show 13<=lim;unfold lim;omega) Q
 have T:=find_eq (f:=f) (ds:=ds) (S:=(S++X).set Z ((marks n).map D.bl)) (p:=Z) (bs:=marks n) Y (IF Q) rfl;rw[U,W]at T;refine⟨v,(S++X).set Z ((marks n).map D.bl),?_,rfl,X.set (Z - S.length) ((marks n).map D.bl),JJ _ _ O⟩;rw[aH (a:=Out.ret v) (S1:=(S++X).set Z ((marks n).map D.bl))]
 ·rfl
 ·unfold gR;exact(aP K).trans ((aP e2).trans ((aP J).trans ((aP N).trans ((aP P).trans T))))
theorem By{n:Str}{ds us:List D}{v:D}(X:n∈aV)(Y:(a9 0 13).filter (uB (marks n))=us)(Z:∀f p,ma [ar f,ar (.exc n ds),none,ar (.lst p),ar (.fz us)]=aC (.ret v))(S:ay):
  runs (bc (M.raise (.exc n ds)) []) S fun d W=>d=v/\∃G,W=S++G:=by
 unfold bc;rw[zT];have:nZ (M.raise (.exc n ds)) (fun x=>gR [ar (.fn 0 0 "" [] []),ar x,none,none,none]>>=outD)=(gR [ar (.fn 0 0 "" [] []),ar (.exc n ds),none,none,none]>>=outD):=by
  funext S;show(if n∈aV then _ else none)=_;rw[if_pos X]
 rw[this];exact zU X Y (Z _) S
theorem pQ{n:Str}{ds us:List D}{v:D}(W:n∈aV)(Y:(a9 0 13).filter (uB (marks n))=us)(Z:∀f p,ma [ar f,ar (.exc n ds),none,ar (.lst p),ar (.fz us)]=aC (.ret v))(X:eP 0 v=b_):
  fJ (bc (M.raise (.exc n ds)) [])=aC v:=B8 X (By W Y Z)
theorem eq_12{f x:D}{p:Nat}{k:Int}:cz cN (mV 4) (aL (aS (aa (mK (.int 12)) ak))) [ar f,ar x,none,ar (.lst p),ar (.fz [.int k])]=aC (decide (k=12)):=by
 have Z:aL (aS (aa (mK (.int 12)) ak)) [ar f,ar x,none,ar (.lst p),ar (.fz [.int k])]=aC (.fz [.int 12]):=bG (us:=[.int 12]) rfl (by show 1<=lim;unfold lim;omega)
 refine bQ (x:=.fz [.int k]) rfl Z (bB fun S=>?_);unfold cN;refine(d6 (p:=.list [.int k]) (q:=.list [.int 12]) rfl rfl).mpr ⟨?_,rfl⟩;have:f' (.list [.int k]) (.list [.int 12])=decide (k=12):=by
  rw[J1];simp[f',kr]
 rw[this]
theorem Cd{f x:D}{p:Nat}{k:Int}(h:k≠12):ma [ar f,ar x,none,ar (.lst p),ar (.fz [.int k])]=aC (.ret (.fz [.int k])):=by
 refine dF ?_;show(cz cN _ _ _>>=_)=_;rw[eq_12,ao,if_neg (by rw[Ip];exact h)]
 rfl
theorem Bz:fJ (bc (M.raise (.exc "NoWeb" [])) [])=aC (.fz [.int 0]):=pQ (by decide) (by rfl) (fun f p=>Cd (by decide)) rfl
def oa(a b:Nat):List D:=[.non,.int 0,.tup [],.tup [.int 15,.tup []],.tup [.int (-1),.tup []],.tup [.bl b_,.tup []],.tup [.int 2,.lst a],.lst b,.tup [.int 2,.tup [.tup [.int 1,.int 0]]],.tup [.int 2,.tup [.tup [.int 0,.int 0]]],.emp,.str "2:"]
def og:List D:=[.tup [.int 2,.tup [.tup [.int 0,.int 1],.tup [.int 0,.int 1]]],.tup [.int 3,.tup [.tup [.int 0,.int 2],.tup [.int 0,.int 1]]],.tup [.int 2,.tup [.tup [.int 0,.int 2]]],.tup [.int 2,.tup [.tup [.int 0,.bl b_]]],.tup [.int 2,.tup [.tup [.int 0,.int 1,.int 1]]]]
def qV(c:Nat):List D:=[.tup [.int 2,.tup [.int 0,.int 1]],.tup [.int 2,.non],.tup [.int 2,.tup [],.tup []],.tup [.int 2],.tup [.int 2,.tup [.lst c]],.tup [.int 2,.tup [.non]],.tup [.str "2",.tup []],.tup [.int 0,.tup [.tup [.int 0,.int 1]]]]
theorem D4{n a b c:Nat}{S:ay}(Y:n<=a)(N:n<=b)(I:n<=c)(U:S[a]? =ar [])(H:S[b]? =ar [.int 2,.tup []])(Z:S[c]? =ar [.int 0,.int 1]):∀d∈oa a b++og++qV c,∃u,gG n (tH S n 60) d=ar u/\Good u/\gQ u=false:=by
 have T:=n0 (f:=59) Y U rfl;have X:=n0 (f:=59) N H rfl;have L:=n0 (f:=59) I Z rfl;have Q:∀d,eP 0 d=b_->zm d=b_->gQ d=dr->∃u,gG n (tH S n 60) d=ar u/\Good u/\gQ u=false:=fun d O W J=>⟨d,qE d (vp (Iv _) d O),kL W,J⟩;have R:∃u,gG n (tH S n 60) (.tup [.int 2,.lst a])=ar u/\Good u/\gQ u=false:=⟨.tup [.int 2,.fz []],by unfold gG fu fu fu;rw[T];rfl,kL rfl,rfl⟩
 have P:∃u,gG n (tH S n 60) (.lst b)=ar u/\Good u/\gQ u=false:=⟨_,X,kL rfl,rfl⟩;have K:∃u,gG n (tH S n 60) (.tup [.int 2,.tup [.lst c]])=ar u/\Good u/\gQ u=false:=⟨.tup [.int 2,.tup [.fz [.int 0,.int 1]]],by
  have:gG n (tH S n 60) (.tup [.lst c])=ar (.tup [.fz [.int 0,.int 1]]):=by unfold gG fu fu;rw[L];rfl
  unfold gG fu fu fu;rw[this];rfl,kL rfl,rfl⟩
 intro d hd;simp only[oa,og,qV,List.mem_append,gg,f_,or_false]at hd;rcases hd with((rfl|rfl|rfl|rfl|rfl|rfl|rfl|rfl|rfl|rfl|rfl|rfl)|(rfl|rfl|rfl|rfl|rfl))|(rfl|rfl|rfl|rfl|rfl|rfl|rfl|rfl)<;>first|exact R|exact P|exact K|exact Q _ rfl rfl rfl
def bT(S:ay):ay:=[[],[.int 2,.tup []],oa S.length (S.length+1),og,oa S.length (S.length+1)++og,[.int 0,.int 1],qV (S.length+5),oa S.length (S.length+1)++og++qV (S.length+5)]
theorem BA{S Z:ay}{k:Nat}{j:Int}{d:D}(W:aD [.lst k,.int 25] (S++bT S)=ar (.ok (.int j),Z))(Y:Z[S.length+7]? =ar (oa S.length (S.length+1)++og++qV (S.length+5)))(X:jM (oa S.length (S.length+1)++og++qV (S.length+5)) j=ar d):
  eB [ar (.lst k),none] S=ar (.ok (.ret d),Z):=by
 unfold eB;refine(aP (ρ':=[ar (.lst k),ar (.lst (S.length+2))]) (S1:=S++(bT S).take 3) (bU (x:=.lst (S.length+2)) ?_)).trans ((aP (ρ':=[ar (.lst k),ar (.lst (S.length+4))]) (S1:=S++(bT S).take 5) (bU (x:=.lst (S.length+4)) ?_)).trans ((aP (ρ':=[ar (.lst k),ar (.lst (S.length+7))]) (S1:=S++bT S) (bU (x:=.lst (S.length+7)) ?_)).trans (fH ?_)))
 ·refine(iH (ys:=oa S.length (S++[[]]).length) (S1:=S++[[]]++[[.int 2,.tup []]]) rfl (by show 12<=lim;unfold lim;omega)).trans ?_
  rw[show(S++([[]]:ay)).length=S.length+1 from HP,Iy,HP,Iy];rfl
 ·refine(gf (x:=.lst (S.length+2)) rfl (iH (ys:=og) (S1:=S++(bT S).take 3) rfl (by show 5<=lim;unfold lim;omega))).trans ?_
  rw[Iy,HP];refine(vw (xs:=oa S.length (S.length+1)) (ys:=og) (oM 2) (oM 3) (by show 17<=lim;unfold lim;omega)).trans ?_
  rw[Iy,HP];rfl
 ·refine(gf (x:=.lst (S.length+4)) rfl (iH (ys:=qV (S++(bT S).take 5).length) (S1:=S++(bT S).take 5++[[.int 0,.int 1]]) rfl (by show 8<=lim;unfold lim;omega))).trans ?_
  rw[show(S++(bT S).take 5).length=S.length+5 from HP,Iy,Iy,HP];refine(vw (xs:=oa S.length (S.length+1)++og) (ys:=qV (S.length+5)) (oM 4) (oM 6) (by show 25<=lim;unfold lim;omega)).trans ?_
  rw[HP];exact Kt (fun x=>ar (Res.ok (D.lst (S.length+7)),x)) (Iy _ _ _)
 ·refine(gf (x:=.lst (S.length+7)) (y:=.int j) (S2:=Z) rfl ?_).trans (y9 Y X);exact W
theorem D5{S:ay}{k:Nat}(hs:eh S k):∃d S1,fJ (dv [.lst k]) S=ar (.ok d,S1)/\Good d/\gQ d=dr/\Kp k S S1/\S1.length=S.length:=by
 obtain⟨_,Y,R,j,rfl,O,U,Z⟩:=vD (Q:=fun d Y=>∃j,d= .int j/\0<=j/\j<25/\Kp k (S++bT S) Y) hs.grow (many:=25) (by decide) (by decide) fun j Y a b _ X=>⟨j,rfl,a,b,X⟩
 have N:=hs.lt;have gt:∀i us,(S++bT S)[S.length+i]? =ar us->Y[S.length+i]? =ar us:=fun i us h=>(Z.oth (S.length+i) (HQ.mp h).1 (by omega)).trans h
 obtain⟨d,W,hd⟩:=B9 (xs:=oa S.length (S.length+1)++og++qV (S.length+5)) O U;have X:Kp k S Y:=(Kp.grow hs _).trans Z;obtain⟨u,T,P,hw⟩:=D4 (n:=S.length) (a:=S.length) (b:=S.length+1) (c:=S.length+5) (S:=Y) (HN _) (Lc _ _) (Lc _ _) (gt 0 _ (oM 0)) (gt 1 _ (oM 1)) (gt 5 _ (oM 5)) d hd;refine⟨u,_,lE (eR (BA R (gt 7 _ (oM 7)) W) rfl) (mI X) (.inl ?_) X.len T,P,hw,qO hs X⟩;have:=Z.len;rw[HP,show(bT S).length=8 from rfl]at this;omega
end W
namespace S3
open PySem PySem.Spec PyProof.Rows L2 PySem.SeqAt
section
variable {X:Cx}{E:XD}{o e:Expr}{es:List Expr}{m:TM}{ms:aB->M (List D)}{pos:Pos}
end
end S3
namespace S7
open PySem PySem.Spec PyProof.Rows L2 S3
section
variable {X:Cx}{E:XD}{scope:Scope}{Nc:List Str}{js:List (Option Nat)}{elt tg iter:Expr}{ifs:List Expr}{pos:Pos}{mi:S3.aB->M Iter}{g:m7}{t:S3.aB->M Bool}{m:TM}
end
end S7
namespace W
open PySem PySem.Spec PyProof.Rows L2 S3 S4 S7
section
variable {α:Type}{l:List α}{mk f:α->D}{mi:aB->M Iter}{g:m7}{t:gh}{m:TM}{ρ:aB}{js:List (Option Nat)}{its:List D}
theorem zV(R:aB->Prop)(q:α->Bool):∀(l:List α) (ρ:aB),R ρ->(∀a∈l,∀ ρ,R ρ->∃Z,g (mk a) ρ=aC Z/\R Z/\t Z=aC (q a)/\(q a=b_->m Z=aC (f a)))->cm ⟨its,.none⟩ g t m (l.map mk) ρ=aC ((l.filter q).map f)
 |[],ρ,_,_=>by unfold cm;rw[c9];rfl
 |a::l,ρ,hR,h=>by
  obtain⟨Z,Y,T,U,S⟩:=h a (.head _) ρ hR;have W:=zV R q l Z T fun b X=>h b (.tail _ X);rw[Iu];unfold cm;rw[c9,ao,Y,ao,U,ao,W];cases hq:q a with
  |true=>rw[JZ hq,if_pos rfl,S hq,ao];rfl
  |false=>rw[J0 (by rw[hq];decide),if_neg (by decide)]
theorem zW(R:aB->Prop)(q:α->Bool)(X:mi ρ=aC ⟨l.map mk,.none⟩)(Z:l.length<=lim)(Y:R (jD js ρ))(W:∀a∈l,∀ ρ,R ρ->∃ ρ1,g (mk a) ρ=aC ρ1/\R ρ1/\t ρ1=aC (q a)/\(q a=b_->m ρ1=aC (f a))):
  bj mi g t m js ρ=bq ((l.filter q).map f):=by
 unfold bj;rw[X,ao];unfold eV;rw[if_pos (by show(l.map mk).length<=lim;rw[HL];exact Z)]
 show(cm _ g t m (l.map mk) _>>=_)=_;rw[zV R q l _ Y W,ao]
theorem oh(R:aB->Prop)(q:α->Bool)(W:mi ρ=aC ⟨l.map mk,.none⟩)(Z:l.length<=lim)(Y:R (jD js ρ))(U:∀a∈l,∀ ρ,R ρ->∃ ρ1,g (mk a) ρ=aC ρ1/\R ρ1/\t ρ1=aC (q a)/\(q a=b_->m ρ1=aC (f a)))
  (X:cw 0 ((l.filter q).map f)=b_):aL (bj mi g t m js) ρ=aC (.fz ((l.filter q).map f)):=by
 unfold aL;rw[zW R q W Z Y U];exact bG X (by rw[HL];exact HX (Je _ _) Z)
theorem vP(R:aB->Prop)(q:α->Bool)(W:mi ρ=aC ⟨l.map mk,.none⟩)(Z:l.length<=lim)(Y:R (jD js ρ))(U:∀a∈l,∀ ρ,R ρ->∃ ρ1,g (mk a) ρ=aC ρ1/\R ρ1/\t ρ1=aC (q a)/\(q a=b_->m ρ1=aC (f a)))
  (X:cw 0 ((l.filter q).map f)=b_):aL (B4 (bj mi g t m js)) ρ=aC (.fz ((l.filter q).map f)):=by
 unfold aL B4;rw[zW R q W Z Y U,wV];exact bG X (by rw[HL];exact HX (Je _ _) Z)
end
theorem zX{S:ay}{xs:List D}{d:D}(Z:xs.length<=1000):cb (.lst S.length) [d] (S++[xs])=ar (.ok .non,S++[xs++[d]]):=by
 show(getL S.length>>=fun xs=>jN S.length (xs++[d])) (S++[xs])=_;rw[aH (dP (bP (S:=S) (xs:=xs))),jw (by rw[HP];show xs.length+1<=lim;unfold lim;omega) (by simp)]
 rw[JJ _ _ (HN _),Lo];rfl
theorem things{es:aB->M (List D)}{ρ:aB}{us:List D}(Y:es ρ=aC us)(Z:cw 0 us=b_)(X:us.length<=50):aL (aS es) ρ=aC (.fz us):=by
 show fJ (es ρ>>=bq)=_;rw[Y,ao];exact bG Z (by unfold lim;omega)
theorem D6(n:Nat):a9 0 n=(d_ n).map fun i:Nat=>D.int (i:Int):=by
 unfold a9;exact KG fun i _=>by rw[Kj]
theorem zY{m:TM}{ρ:aB}{n:Nat}(h:m ρ=aC (.int n))(Z:n<=1000):kU m ρ=aC ⟨(d_ n).map fun i:Nat=>D.int (i:Int),.none⟩:=by
 rw[nQ h,y0 ⟨by omega,by omega⟩,Jw,D6]
theorem not_eq{t:gh}{b:Bool}{ρ:aB}(h:t ρ=aC b):fq t ρ=aC (!b):=by
 show(t ρ>>=_)=_;rw[h];rfl
theorem lL{α:Type}(g:α->Int)(l:List α):cw 0 (l.map fun a=>D.int (g a))=true:=by
 have:=gz (l.map g);rw[IK]at this;exact this
section
variable {n:Nat}{E:List (List Int)}{d e:D}
theorem vQ(Z:n<=14)(w:WebOk n E):c8 [aY n E]=aC .non:=by
 rw[zo DQ (Bq w),if_pos (Bo (by omega) (by omega) w)]
theorem zZ(g:Good d)(Z:gQ d=dr):c8 [d]=M.raise (.exc "NoWeb" []):=by
 rw[zo g.nr (fun m Y z=>HX (g.few m Y z) (by decide)),if_neg (by rw[Z];decide)]
theorem BB{us:List D}{ρ:aB}{e:TM}(h:e ρ=aC (.tup us)):cC eg e ρ=aC (.int us.length):=eF h
theorem uG{us:List D}{ρ:aB}{e:TM}(h:e ρ=aC (.fz us)):cC eg e ρ=aC (.int us.length):=eF h
theorem FK(Y:n<=14)(w:WebOk n E):fS [aY n E]=aC (.fz ((d_ n).map fun p:Nat=>D.int (jZ E p))):=by
 have hf:=w.few;have Z:=vP (α:=Nat) (l:=d_ n) (mk:=fun i:Nat=>D.int (i:Int)) (f:=fun p:Nat=>D.int (jZ E p)) (mi:=kU (mV 1)) (g:=gN 0) (t:=iF) (m:=iG) (js:=[none,ar 2]) (ρ:=[ar (aY n E),ar (.int n),ar (.tup (E.map tupI))]) (fun ρ=>∃x,ρ=[x,ar (.tup (E.map tupI))]) (fun _=>b_) (zY rfl (by omega)) (by rw[Ie];unfold lim;omega) ⟨none,rfl⟩
  (fun p hp ρ ⟨x,hρ⟩=>by
   subst hρ;refine⟨[ar (.int p),ar (.tup (E.map tupI))],rfl,⟨_,rfl⟩,rfl,fun _=>?_⟩;have h:=oh (α:=List Int) (l:=E) (mk:=tupI) (f:=tupI) (mi:=dM (mV 1)) (g:=gN 0) (t:=iD) (m:=iE) (js:=[none,ar 0]) (ρ:=[ar (.int p),ar (.tup (E.map tupI))]) (fun ρ=>∃x,ρ=[x,ar (.int p)]) (kM p) rfl (by unfold lim;omega) ⟨none,rfl⟩
    (fun t ht ρ ⟨x,hρ⟩=>by
     subst hρ;exact⟨[ar (tupI t),ar (.int p)],rfl,⟨_,rfl⟩,bQ (x:=.int p) (y:=tupI t) rfl rfl Ca,fun _=>rfl⟩) (cI _)
   refine(uG h).trans ?_;rw[HL];unfold jZ;rw[Kw])
  (by rw[b7];exact lL (fun p:Nat=>(jZ E p:Int)) _)
 rw[b7]at Z;exact nS (o:=.ret _) ((aW (y8 (sJ ((cU rfl).trans (vQ Y w))))).trans ((aW (ρ':=[ar (aY n E),ar (.int n),ar (.tup (E.map tupI))]) rfl).trans (dF Z))) rfl
end
theorem BC{k:Nat}{x:D}{b:Bool}(X:B2 (mV 1) "tuple" "list" [ar x,ar x]=aC (.bl dr))(Y:cN x x=aC (.bl b_))(Z:∀i,i<2->g0 (mV i) "bool" [ar x,ar x]=aC (.bl b)):bN (k+1) [x,x]=aC (.bl b_):=by
 refine fG (o:=.ret (.bl b_)) ?_ rfl;show cH _ [ar x,ar x]=_;unfold cH;refine(aW ((bE (b:=dr) (iM X)).trans (if_neg (by decide)))).trans (dF ?_)
 show(aQ cN (mV 0) (mV 1) _>>=_)=_;rw[b8 (x:=x) (y:=x) rfl rfl,Y,ao];rw[show ie (D.bl b_)=aC b_ from rfl,ao,if_pos rfl,b8 (Z 0 (by decide)) (Z 1 (by decide)),Hj]
theorem pR{l:List Int}{e:TM}{ρ:aB}(h:e ρ=aC (.fz (l.map D.int)))(Z:l.length<64):aL (cC bF e) ρ=aC (.fz ((sortI l).map D.int)):=by
 unfold aL;rw[eF h];have:bF [.fz (l.map D.int)]=bq ((sortI l).map D.int):=by
  show kA (l.map D.int)=_;unfold kA;rw[jY];exact if_pos Z
 rw[this];exact bG (gz _) (by rw[HL,(sortI_perm l).length_eq];unfold lim;omega)
theorem BD{its ds:List D}{d:D}{g:m7}{b:cM}{ρ Z Y:aB}(h:g d ρ=aC Z)(X:b Z=aC (.nx Y)):fg ⟨its,.none⟩ g b (d::ds) ρ=fg ⟨its,.none⟩ g b ds Y:=by
 rw[fg,c9,ao,h,ao,X];rfl
theorem z5{n:Nat}{E:List (List Int)}:(d_ n).map (fun p:Nat=>D.int (jZ E p))=(dl n E).map D.int:=by
 unfold dl;rw[IK];rfl
theorem kO{a b:List Int}:cN (.fz (a.map D.int)) (.fz (b.map D.int))=aC (.bl (decide (a=b))):=bB fun S=>by
 unfold cN;have h:∀l:List Int,fB S 60 (.fz (l.map D.int))=ar (.list (l.map h9)):=fun l=>by
  show(mapP (fB S 59) (l.map D.int)).map q_=_;rw[jz];rfl
 refine(d6 (h a) (h b)).mpr ⟨?_,rfl⟩;unfold f';rw[n5]
theorem BE{a b:List Int}:cN (tupI a) (tupI b)=aC (.bl (decide (a=b))):=bB fun S=>by
 unfold cN;refine(d6 (jA a) (jA b)).mpr ⟨?_,rfl⟩;unfold qN f';rw[n5]
section
variable {S:ay}{h:List Int}{a:Int}{ρ:aB}{e1 e2:TM}
theorem BF{p:Int}{t:List Int}:kM p t=b_↔p∈t:=by
 unfold kM;rw[Kq];exact⟨fun⟨x,hx,e⟩=>by rw[<-LR e];exact hx,fun h=>⟨p,h,La p⟩⟩
theorem vR:kM a h=decide (a∈h):=by rw[J1,BF,Ip]
theorem vS:inD (.int a) (.lst S.length) (S++[h.map D.int])=ar (.ok (.bl (decide (a∈h))),S++[h.map D.int]):=by
 have Y:fB (S++[h.map D.int]) 60 (.lst S.length)=ar (.list (h.map h9)):=nY bP;obtain⟨_,_,e,rfl,rfl⟩:=(kC (f:=id) (Q:=fun d Z=>d= .bl (decide (a∈h))/\Z=S++[h.map D.int]) gx Y (r:=decide (a∈h)) (by show ar (id ((h.map h9).any fun y=>f' y (.int a)))=_;rw[mJ,vR];rfl)).mpr ⟨rfl,rfl⟩
 exact e
theorem oi:qo (.int a) (.lst S.length) (S++[h.map D.int])=ar (.ok (.bl (!decide (a∈h))),S++[h.map D.int]):=by
 have Y:fB (S++[h.map D.int]) 60 (.lst S.length)=ar (.list (h.map h9)):=nY bP;obtain⟨_,_,e,rfl,rfl⟩:=(kC (f:=(!·)) (Q:=fun d Z=>d= .bl (!decide (a∈h))/\Z=S++[h.map D.int]) gx Y (r:= !decide (a∈h)) (by show ar (!((h.map h9).any fun y=>f' y (.int a)))=_;rw[mJ,vR])).mpr ⟨rfl,rfl⟩
 exact e
theorem BG{f:D->D->M D}{x y:D}{b:Bool}{S1:ay}(Z:e1 ρ=aC x)(Y:e2 ρ=aC y)(h:f x y S1=ar (.ok (.bl b),S1)):cz f e1 e2 ρ S1=ar (.ok b,S1):=by
 show((aQ f e1 e2 ρ)>>=ie) S1=_;rw[b8 Z Y,aH h];rfl
theorem z8{p q:gh}{b c:Bool}{S1:ay}(Y:p ρ S1=ar (.ok b,S1))(Z:q ρ S1=ar (.ok c,S1)):jT p q ρ S1=ar (.ok (b && c),S1):=by
 show(p ρ>>=_) S1=_;rw[aH Y];cases b with
 |true=>exact Z
 |false=>rfl
theorem BH{w0 x2:Option D}{b:Int}(Y:h.length<=1000):cS [w0,ar (.lst S.length),x2,ar (.int a),ar (.int b)] (S++[h.map D.int])=ar (.ok (.nx [w0,ar (.lst S.length),x2,ar (.int a),ar (.int b)]),S++[(stp h [a,b]).map D.int]):=by
 have Z:∀{c:Int} {e:TM},e [w0,ar (.lst S.length),x2,ar (.int a),ar (.int b)]=aC (.int c)->oy (qz cb (mV 1) e) [w0,ar (.lst S.length),x2,ar (.int a),ar (.int b)] (S++[h.map D.int])=ar (.ok (.nx [w0,ar (.lst S.length),x2,ar (.int a),ar (.int b)]),S++[(h++[c]).map D.int]):=fun{c e} he=>by
  refine sL (x:=.non) ((sQ (x:=.lst S.length) rfl rfl (Iw he _)).trans ((zX (by rw[HL];exact Y)).trans ?_))
  rw[Jv];rfl
 unfold cS;refine(vC (z8 (BG (x:=.int a) (y:=.lst S.length) rfl rfl vS) (BG (x:=.int b) (y:=.lst S.length) rfl rfl oi))).trans ?_;unfold stp;dsimp only;by_cases c1:a∈h/\b∉h
 ·rw[if_pos (by rw[HU c1.1,Ij c1.2];rfl),if_pos c1]
  exact Z rfl
 ·rw[if_neg (by rw[IE,rB,Ip,K3];exact c1),if_neg c1]
  refine(vC (z8 (BG (x:=.int b) (y:=.lst S.length) rfl rfl vS) (BG (x:=.int a) (y:=.lst S.length) rfl rfl oi))).trans ?_;by_cases c2:b∈h/\a∉h
  ·rw[if_pos (by rw[HU c2.1,Ij c2.2];rfl),if_pos c2]
   exact Z rfl
  ·rw[if_neg (by rw[IE,rB,Ip,K3];exact c2),if_neg c2];rfl
end
section
variable {n:Nat}{E:List (List Int)}{S:ay}
theorem vT{its:List D}{w0 x2:Option D}(w:WebOk n E):∀(T:List (List Int)) (h:List Int) (x3 x4:Option D),(∀t∈T,t∈E)->Rch n E h->n<=14->∃Z Y,fg ⟨its,.none⟩ (eL 2 (bw (gN 3) (bw (gN 4) ff))) cS (T.map tupI) [w0,ar (.lst S.length),x2,x3,x4] (S++[h.map D.int])=ar (.ok (.nx [w0,ar (.lst S.length),x2,Z,Y]),S++[(vK T h).map D.int])
 |[],h,x3,x4,_,_,_=>⟨x3,x4,by rw[Kh,gy];rfl⟩
 |t::T,h,x3,x4,hT,r,hn=>by
  obtain⟨a,b,rfl⟩:=lK w t (hT t (.head _));obtain⟨Z,Y,X⟩:=vT (its:=its) w T (stp h [a,b]) (ar (.int a)) (ar (.int b)) (fun t W=>hT t (.tail _ W)) (r.stp w (hT _ (.head _))) hn;have:=kN r.nd r.el;exact⟨Z,Y,(jX rfl (BH (by omega))).trans X⟩
theorem sZ{its:List D}(w:WebOk n E)(R:n<=14):∀(ts:List D) (h:List Int) (x2 x3 x4:Option D),Rch n E h->∃X Z W,fg ⟨its,.none⟩ (gN 2) cT ts [ar (aY n E),ar (.lst S.length),x2,x3,x4] (S++[h.map D.int])=ar (.ok (.nx [ar (aY n E),ar (.lst S.length),X,Z,W]),S++[(qQ E ts.length h).map D.int])
 |[],h,x2,x3,x4,_=>⟨x2,x3,x4,by rw[gy];rfl⟩
 |d::ts,h,x2,x3,x4,r=>by
  obtain⟨T,Q,N⟩:=vT (S:=S) (its:=E.map tupI) (w0:=ar (aY n E)) (x2:=ar d) w E h x3 x4 (fun t U=>U) r R;have O:cT [ar (aY n E),ar (.lst S.length),ar d,x3,x4] (S++[h.map D.int])=ar (.ok (.nx [ar (aY n E),ar (.lst S.length),ar d,T,Q]),S++[(vK E h).map D.int]):=nU (its:=E.map tupI) rfl N;obtain⟨X,Z,W,L⟩:=sZ (its:=its) w R ts (vK E h) (ar d) T Q (qS (P:=Rch n E) (fun h a b r Y=>r.stp w Y) (lK w) E h (fun t U=>U) r);exact⟨X,Z,W,(jX rfl O).trans L⟩
theorem z9(U:n<=14)(w:WebOk n E):fJ (da [aY n E])=aC (.bl (decide (n=0)||decide ((iQ n E).length=n))):=by
 refine B8 rfl fun S=>?_;have Q:kU (aQ cK (mV 0) (mK (.int 0))) [ar (aY n E),ar (.lst S.length),none,none,none]=aC ⟨(d_ n).map fun i:Nat=>D.int (i:Int),.none⟩:=zY rfl (by omega)
 obtain⟨X,Z,Y,hf⟩:∃X Z Y,fg ⟨(d_ n).map fun i:Nat=>D.int (i:Int),.none⟩ (gN 2) cT ((d_ n).map fun i:Nat=>D.int (i:Int)) [ar (aY n E),ar (.lst S.length),none,none,none] (S++[[(0:Int)].map D.int])=ar (.ok (.nx [ar (aY n E),ar (.lst S.length),X,Z,Y]),S++[(iQ n E).map D.int]):=by
  by_cases h0:n=0
  ·subst h0;exact⟨none,none,none,by rw[show(d_ 0).map (fun i:Nat=>D.int (i:Int))=[]from rfl,gy];rfl⟩
  ·have:=sZ (S:=S) (its:=(d_ n).map fun i:Nat=>D.int (i:Int)) w U ((d_ n).map fun i:Nat=>D.int (i:Int)) [0] none none none ⟨JA _ _,fun x W=>by rw[Io.mp W];omega,.head _,by show 1<=_;omega,fun z=>absurd z (by decide)⟩
   rw[HL,Ie]at this;exact this
 refine⟨_,S++[(iQ n E).map D.int],eR (o:=.ret (.bl (decide (n=0)||decide ((iQ n E).length=n)))) ?_ rfl,rfl,_,rfl⟩;refine(aP (bU (iH (ys:=[.int 0]) (S1:=S) rfl (by show 1<=lim;unfold lim;omega)))).trans ((aP (nU Q hf)).trans (fH ?_))
 have T:aQ cN (aQ cK (mV 0) (mK (.int 0))) (mK (.int 0)) [ar (aY n E),ar (.lst S.length),X,Z,Y]=aC (.bl (decide (n=0))):=by
  refine(b8 (x:=.int n) (y:=.int 0) rfl rfl).trans (zb.trans ?_);congr 2;exact Le.mpr (by omega)
 have hlen:cC eg (mV 1) [ar (aY n E),ar (.lst S.length),X,Z,Y] (S++[(iQ n E).map D.int])=ar (.ok (.int (iQ n E).length),S++[(iQ n E).map D.int]):=by
  refine(vv (x:=.lst S.length) rfl).trans ?_;show(getL S.length>>=fun xs=>aC (D.int xs.length)) _=_;rw[aH (dP bP),HL];rfl
 have R:aQ cN (cC eg (mV 1)) (aQ cK (mV 0) (mK (.int 0))) [ar (aY n E),ar (.lst S.length),X,Z,Y] (S++[(iQ n E).map D.int])=ar (.ok (.bl (decide ((iQ n E).length=n))),S++[(iQ n E).map D.int]):=by
  refine(gf hlen (y:=.int n) rfl).trans ((Iw zb _).trans ?_);rw[show decide (((iQ n E).length:Int)=n)=decide ((iQ n E).length=n)from Le.mpr (by omega)];rfl
 show(aQ cN _ _ _>>=_) _=_;rw[T,ao,show ie (.bl (decide (n=0)))=aC (decide (n=0))from rfl,ao];cases hd:decide (n=0)with
 |true=>rfl
 |false=>exact R
end
theorem mj{t:gh}{m:cM}{ρ:aB}(h:t ρ=aC dr):fx t m cn ρ=aC (.nx ρ):=(bE h).trans (if_neg (by decide))
theorem nb{e:TM}{ρ:aB}(h:e ρ=aC (.bl b_)):fq (bV e) ρ=aC false:=not_eq (iM h)
theorem qW{ρ:aB}{s:Str}{e:TM}{d:D}(h:e ρ=aC d):dU (aa (mK (.str s)) (aa e ak)) ρ=aC (.tup [.str s,d]):=by
 show(aa _ _ _>>=bY)=_;rw[a7 (e:=mK (.str s)) (x:=.str s) rfl (a7 h (es:=ak) rfl),ao];unfold bY;exact if_pos kK
theorem Ce{p q:gh}{b c:Bool}{ρ:aB}(Y:p ρ=aC b)(Z:q ρ=aC c):uj p q ρ=aC (b||c):=or_eq Y Z
theorem td{k:Int}{i:Int}{ρ:aB}{e:TM}(Y:e ρ=aC (.int i))(W: -100<=i)(X:i<=100):aL (aQ qF (aS (aa (mK (.int k)) ak)) e) ρ=aC (.fz ((dV i.toNat k).map D.int)):=by
 refine vt (gz _) fun S=>?_;have Z:aS (aa (mK (.int k)) ak) ρ S=ar (.ok (.lst S.length),S++[[.int k]]):=iH (ys:=[.int k]) (S1:=S) rfl (by show 1<=lim;unfold lim;omega)
 have hf:∀m:Nat,(dV m [D.int k]).flatten=(dV m k).map D.int:=fun m=>by
  induction m with
  |zero=>rfl
  |succ m ih=>rw[IB,Jj,ih,IB,Iu];rfl
 refine⟨.lst (S++[[D.int k]]).length,S++[[.int k]]++[(dV i.toNat k).map D.int],?_,[[.int k],(dV i.toNat k).map D.int],(S++[[D.int k]]).length,rfl,by rw[Iy];rfl,bP,by rw[HP];omega⟩
 rw[gf Z (Iw Y _)];show(getL S.length>>=fun xs=>if -(2 ^ 62)<=i/\i<=1000/\xs.length<=1000 then bq (dV i.toNat xs).flatten else M.fail) _=_;rw[aH (dP bP),if_pos ⟨by omega,by omega,by show 1<=1000;decide⟩,hf]
 exact d9 (by rw[HL,Kg];unfold lim;omega)
section
variable {n:Nat}{E:List (List Int)}
theorem qX:(dl n E).length=n:=by unfold dl;rw[HL,Ie]
theorem uH{x1:Option D}(Y:n<=14)(w:WebOk n E):aL (cC bF (aL (bj (kU (aQ cK (mV 0) (mK (.int 0)))) (gN 0) eX eY [none,ar 0]))) [ar (aY n E),x1]=aC (.fz ((sortI (dl n E)).map D.int)):=by
 have hf:=w.few;have Z:=oh (α:=Nat) (l:=d_ n) (mk:=fun i:Nat=>D.int (i:Int)) (f:=fun p:Nat=>D.int (jZ E p)) (mi:=kU (aQ cK (mV 0) (mK (.int 0)))) (g:=gN 0) (t:=eX) (m:=eY) (js:=[none,ar 0]) (ρ:=[ar (aY n E),x1]) (fun ρ=>∃x,ρ=[x,ar (aY n E)]) (fun _=>b_) (zY rfl (by omega)) (by rw[Ie];unfold lim;omega) ⟨none,rfl⟩
  (fun p hp ρ ⟨x,hρ⟩=>by
   subst hρ;refine⟨[ar (.int p),ar (aY n E)],rfl,⟨_,rfl⟩,rfl,fun _=>?_⟩;have h:=oh (α:=List Int) (l:=E) (mk:=tupI) (f:=tupI) (mi:=dM (aQ cK (mV 1) (mK (.int 1)))) (g:=gN 0) (t:=gH) (m:=gJ) (js:=[none,ar 0]) (ρ:=[ar (.int p),ar (aY n E)]) (fun ρ=>∃x,ρ=[x,ar (.int p)]) (kM p) rfl (by unfold lim;omega) ⟨none,rfl⟩
    (fun t ht ρ ⟨x,hρ⟩=>by
     subst hρ;exact⟨[ar (tupI t),ar (.int p)],rfl,⟨_,rfl⟩,bQ (x:=.int p) (y:=tupI t) rfl rfl Ca,fun _=>rfl⟩) (cI _)
   refine(uG h).trans ?_;rw[HL];unfold jZ;rw[Kw])
  (by rw[b7];exact lL (fun p:Nat=>(jZ E p:Int)) _)
 rw[b7,z5]at Z;exact pR Z (by rw[qX];omega)
theorem FL(P:n<=14)(w:WebOk n E):fZ [aY n E]=aC (xa n E):=by
 have Z:mV 1 [ar (aY n E),ar (.fz ((sortI (dl n E)).map D.int))]=aC (.fz ((sortI (dl n E)).map D.int)):=rfl;have Y:aQ cK (mV 0) (mK (.int 0)) [ar (aY n E),ar (.fz ((sortI (dl n E)).map D.int))]=aC (.int n):=rfl;have Q:aL (aS (aE (mK (.int 1)) (aE (mK (.int 1)) (aE (mK (.int 1)) (aE (mK (.int 3)) (ak)))))) [ar (aY n E),ar (.fz ((sortI (dl n E)).map D.int))]=aC (.fz (([1,1,1,3]:List Int).map D.int)):=bG (us:=[.int 1,.int 1,.int 1,.int 3]) rfl (by show 4<=lim;unfold lim;omega)
 have S:aL (aS ak) [ar (aY n E),ar (.fz ((sortI (dl n E)).map D.int))]=aC (.fz (([]:List Int).map D.int)):=bG (us:=[]) rfl (Iv _);have T:aL (aS (aa (mK (.int 0)) ak)) [ar (aY n E),ar (.fz ((sortI (dl n E)).map D.int))]=aC (.fz (([0]:List Int).map D.int)):=uC;have O:aL (aS (aa (mK (.int 1)) (aa (mK (.int 1)) ak))) [ar (aY n E),ar (.fz ((sortI (dl n E)).map D.int))]=aC (.fz (([1,1]:List Int).map D.int)):=bG (us:=[.int 1,.int 1]) rfl kK;have W:=td (k:=2) (i:=(n:Int) - 2) (e:=aQ dm (aQ cK (mV 0) (mK (.int 0))) (mK (.int 2))) (ρ:=[ar (aY n E),ar (.fz ((sortI (dl n E)).map D.int))]) ((b8 Y (y:=.int 2) rfl).trans rfl) (by omega) (by omega)
 have X:=td (k:=2) (i:=(n:Int)) (e:=aQ cK (mV 0) (mK (.int 0))) (ρ:=[ar (aY n E),ar (.fz ((sortI (dl n E)).map D.int))]) Y (by omega) (by omega)
 rw[show((n:Int) - 2).toNat=n - 2 by omega]at W
 rw[Jw]at X;have R:aL (aQ cY (aL (aS (aa (mK (.int 1)) (aa (mK (.int 1)) ak)))) (aL (aQ qF (aS (aa (mK (.int 2)) ak)) (aQ dm (aQ cK (mV 0) (mK (.int 0))) (mK (.int 2)))))) [ar (aY n E),ar (.fz ((sortI (dl n E)).map D.int))]=aC (.fz (([1,1]++dV (n - 2) 2:List Int).map D.int)):=by
  show fJ (aQ cY _ _ _)=_;rw[b8 O W];show fJ (bq _)=_;rw[<-Jv];exact bG (gz _) (by rw[HL,HP,Kg];show 2+(n - 2)<=lim;unfold lim;omega)
 have t1:=bQ Z Q kO;have U:=Ce (bQ Z S kO) (Ce (bQ Z T kO) (bQ Z R kO));have t3:=bQ Z X kO;have hs:=aW (n:=aA (fx (cz cN (mV 1) (aL (aS (aE (mK (.int 1)) (aE (mK (.int 1)) (aE (mK (.int 1)) (aE (mK (.int 3)) (ak)))))))) (bD (mK (.tup [.str "stays",.int 3]))) (cn)) (aA (fx (uj (cz cN (mV 1) (aL (aS (ak)))) (uj (cz cN (mV 1) (aL (aS (aa (mK (.int 0)) (ak))))) (cz cN (mV 1) (aL (aQ cY (aL (aS (aa (mK (.int 1)) (aa (mK (.int 1)) (ak))))) (aL (aQ qF (aS (aa (mK (.int 2)) (ak))) (aQ dm (aQ cK (mV 0) (mK (.int 0))) (mK (.int 2)))))))))) (bD (dU (aa (mK (.str "gone")) (aa (aQ cK (mV 0) (mK (.int 0))) (ak))))) (cn)) (aA (fx (cz cN (mV 1) (aL (aQ qF (aS (aa (mK (.int 2)) (ak))) (aQ cK (mV 0) (mK (.int 0)))))) (bD (dU (aa (mK (.str "stays")) (aa (aQ cK (mV 0) (mK (.int 0))) (ak))))) (cn)) (bD (mK (.tup [.str "grows"])))))) (gM (i:=1) (uH (x1:=none) P w));refine fG (o:=.ret (xa n E)) (hs.trans ?_) rfl;unfold xa;by_cases h1:sortI (dl n E)=[1,1,1,3]
 ·rw[if_pos h1];exact dZ ((bE t1).trans ((if_pos (HU h1)).trans rfl))
 ·rw[if_neg h1];refine(aW (mj (t1.trans (by rw[Ij h1])))).trans ?_
  by_cases h2:sortI (dl n E)=[]\/sortI (dl n E)=[0]\/sortI (dl n E)=[1,1]++dV (n - 2) 2
  ·rw[if_pos h2];exact dZ ((bE U).trans ((if_pos (by simpa using h2)).trans (dF (qW Y))))
  ·rw[if_neg h2];refine(aW ((bE U).trans (if_neg (by simpa using h2)))).trans ?_
   by_cases h3:sortI (dl n E)=dV n 2
   ·rw[if_pos h3];exact dZ ((bE t3).trans ((if_pos (HU h3)).trans (dF (qW Y))))
   ·rw[if_neg h3];exact(aW (mj (t3.trans (by rw[Ij h3])))).trans rfl
abbrev eG(n:Nat)(E:List (List Int))(r:List (Option D)):aB:=ar (aY n E)::ar (.int n)::ar (.tup (E.map tupI))::r
theorem D7{L:List Int}{a b:Int}{x6 x7 x8:Option D}(O:L.length<=100)(Q:0<=a)(T:a<L.length)(S:0<=b)(P:b<L.length):∃y6 y7,fw (eG n E [ar (.fz (L.map D.int)),ar (.int a),ar (.int b),x6,x7,x8])=aC (.nx (eG n E [ar (.fz ((iN L [a,b]).map D.int)),ar (.int a),ar (.int b),y6,y7,x8])):=by
 have Y:∀{y6 y7:Option D},aQ cK (mV 3) (mV 4) (eG n E [ar (.fz (L.map D.int)),ar (.int a),ar (.int b),y6,y7,x8])=aC (.int (gI L a)):=(b8 (x:=.fz (L.map D.int)) (y:=.int a) rfl rfl).trans (iI Q T);have U:∀{y6 y7:Option D},aQ cK (mV 3) (mV 5) (eG n E [ar (.fz (L.map D.int)),ar (.int a),ar (.int b),y6,y7,x8])=aC (.int (gI L b)):=(b8 (x:=.fz (L.map D.int)) (y:=.int b) rfl rfl).trans (iI S P);have X:az minD (aa (aQ cK (mV 3) (mV 4)) (aa (aQ cK (mV 3) (mV 5)) ak)) (eG n E [ar (.fz (L.map D.int)),ar (.int a),ar (.int b),x6,x7,x8])=aC (.int (if gI L b<gI L a then gI L b else gI L a)):=(call2 Y U).trans rfl;have Z:∀{y6:Option D},az maxD (aa (aQ cK (mV 3) (mV 4)) (aa (aQ cK (mV 3) (mV 5)) ak)) (eG n E [ar (.fz (L.map D.int)),ar (.int a),ar (.int b),y6,x7,x8])=aC (.int (if gI L b>gI L a then gI L b else gI L a)):=(call2 Y U).trans rfl;generalize hk:(if gI L b<gI L a then gI L b else gI L a)=k at X;generalize hg:(if gI L b>gI L a then gI L b else gI L a)=g at Z;have W:=vP (α:=Int) (l:=L) (mk:=D.int) (f:=fun x=>D.int (if x=g then k else x)) (mi:=dM (mV 3)) (g:=gN 0) (t:=jg) (m:=jh) (js:=[none,ar 7,ar 6]) (ρ:=eG n E [ar (.fz (L.map D.int)),ar (.int a),ar (.int b),ar (.int k),ar (.int g),x8]) (fun ρ=>∃x,ρ=[x,ar (.int g),ar (.int k)]) (fun _=>b_) rfl (by unfold lim;omega) ⟨none,rfl⟩
  (fun x hx ρ ⟨y,hρ⟩=>by
   subst hρ;refine⟨[ar (.int x),ar (.int g),ar (.int k)],rfl,⟨_,rfl⟩,rfl,fun _=>?_⟩;have R:cz cN (mV 0) (mV 1) [ar (.int x),ar (.int g),ar (.int k)]=aC (decide (x=g)):=bQ (x:=.int x) (y:=.int g) rfl rfl zb;show(cz cN _ _ _>>=_)=_;rw[R,ao];by_cases h:x=g
   ·rw[if_pos (HU h),if_pos h];rfl
   ·rw[if_neg (by rw[Ip];exact h),if_neg h];rfl) (by rw[b7];exact lL (fun x:Int=>if x=g then k else x) _)
 rw[b7]at W;refine⟨ar (.int k),ar (.int g),(aW (gM X)).trans ((aW (gM Z)).trans ((gM W).trans ?_))⟩;have e:(iN L [a,b]).map D.int=L.map fun x=>D.int (if x=g then k else x):=by
  unfold iN;dsimp only;rw[hk,hg,IK];rfl
 rw[e];rfl
theorem vU{its:List D}(w:WebOk n E)(S:n<=14):∀(R T:List (List Int)) (L:List Int) (x4 x5 x6 x7 x8:Option D),(∀t∈R,t∈E)->L.length=n->∃X Y Z W,fg ⟨its,.none⟩ (eL 2 (bw (gN 4) (bw (gN 5) ff))) fw (R.map tupI) (eG n E [ar (.fz (L.map D.int)),x4,x5,x6,x7,x8])=aC (.nx (eG n E [ar (.fz ((R.foldl iN L).map D.int)),X,Y,Z,W,x8]))
 |[],T,L,x4,x5,x6,x7,x8,_,_=>⟨x4,x5,x6,x7,gy⟩
 |t::R,T,L,x4,x5,x6,x7,x8,hR,hl=>by
  obtain⟨a,b,rfl,O,ab,bn⟩:=w.el t (hR t (.head _));obtain⟨N,U,Q⟩:=D7 (n:=n) (E:=E) (L:=L) (x6:=x6) (x7:=x7) (x8:=x8) (by omega) O (by omega) (show 0<=b by omega) (by omega)
  obtain⟨X,Y,Z,W,P⟩:=vU (its:=its) w S R T (iN L [a,b]) (ar (.int a)) (ar (.int b)) N U x8 (fun t K=>hR t (.tail _ K)) (by unfold iN;dsimp only;rw[HL];exact hl)
  exact⟨X,Y,Z,W,(BD rfl Q).trans P⟩
def xc(n:Nat)(L:List Int):List D:=(heads n L).map fun h:Nat=>.tup (((d_ n).filter fun p:Nat=>decide (gI L (p:Int)=(h:Int))).map fun p:Nat=>D.int (p:Int))
theorem Aa(P:n<=14)(w:WebOk n E):dY [aY n E]=aC (.fz (xc n (bW n E))):=by
 have hf:=w.few;have R:aL (cC bM (mV 1)) (eG n E [none,none,none,none,none,none])=aC (.fz ((zM n).map D.int)):=by
  unfold aL;rw[eF (x:=.int n) rfl,FH (j:=n) ⟨by omega,by unfold lim;omega⟩,Jw,D6,show(d_ n).map (fun i:Nat=>D.int (i:Int))=(zM n).map D.int by rw[IK];rfl]
  exact bG (gz _) (by rw[HL,HL,Ie];unfold lim;omega)
 obtain⟨U,W,Y,S,X⟩:=vU (its:=E.map tupI) w P E [] (zM n) none none none none none (fun t h=>h) (by rw[HL,Ie])
 have hlen:(bW n E).length=n:=(qU w).len;have L:kB (dM (mV 2)) (eL 2 (bw (gN 4) (bw (gN 5) ff))) fw (eG n E [ar (.fz ((zM n).map D.int)),none,none,none,none,none])=aC (.nx (eG n E [ar (.fz ((bW n E).map D.int)),U,W,Y,S,none])):=by
  unfold kB;rw[show dM (mV 2) (eG n E [ar (.fz ((zM n).map D.int)),none,none,none,none,none])=aC ⟨E.map tupI,.none⟩from rfl,ao];exact X
 have N:∀{ρ:aB} {p:Nat} {e1 e2:TM},p<n->e1 ρ=aC (.fz ((bW n E).map D.int))->e2 ρ=aC (.int p)->aQ cK e1 e2 ρ=aC (.int (gI (bW n E) (p:Int))):=fun{ρ p e1 e2} Z h1 h2=>(b8 h1 h2).trans (iI (by omega) (by omega))
 have O:=oh (α:=Nat) (l:=d_ n) (mk:=fun i:Nat=>D.int (i:Int)) (f:=fun p:Nat=>D.int (p:Int)) (mi:=kU (mV 1)) (g:=gN 0) (t:=gv) (m:=gw) (js:=[none,ar 3]) (ρ:=eG n E [ar (.fz ((bW n E).map D.int)),U,W,Y,S,none]) (fun ρ=>∃x,ρ=[x,ar (.fz ((bW n E).map D.int))]) (fun p:Nat=>decide (gI (bW n E) (p:Int)=(p:Int))) (zY rfl (by omega)) (by rw[Ie];unfold lim;omega) ⟨none,rfl⟩
  (fun p Z ρ ⟨x,hρ⟩=>by
   subst hρ;exact⟨[ar (.int p),ar (.fz ((bW n E).map D.int))],rfl,⟨_,rfl⟩,bQ (N (IA.mp Z) rfl rfl) (y:=.int p) rfl zb,fun _=>rfl⟩) (lL (fun p:Nat=>(p:Int)) _)
 have T:Hi (bo 8 (aL (bj (kU (mV 1)) (gN 0) gv gw [none,ar 3]))) (eG n E [ar (.fz ((bW n E).map D.int)),U,W,Y,S,none])=aC (.nx (eG n E [ar (.fz ((bW n E).map D.int)),U,W,Y,S,ar (.fz ((heads n (bW n E)).map fun p:Nat=>D.int (p:Int)))])):=by
  show jU (bo 8 _ _)=_;rw[gM O];rfl
 have Q:cw 0 (xc n (bW n E))=true:=by
  unfold xc;generalize heads n (bW n E)=l
  induction l with
  |nil=>rfl
  |cons x l ih=>
   rw[Iu];unfold cw;rw[ih,Bool.and_true];unfold eP;exact lL (fun p:Nat=>(p:Int)) _
 have Z:=vP (α:=Nat) (l:=heads n (bW n E)) (mk:=fun i:Nat=>D.int (i:Int)) (f:=fun h:Nat=>D.tup (((d_ n).filter fun p:Nat=>decide (gI (bW n E) (p:Int)=(h:Int))).map fun p:Nat=>D.int (p:Int))) (mi:=dM (mV 8)) (g:=gN 0) (t:=jk) (m:=jl) (js:=[none,ar 1,ar 3]) (ρ:=eG n E [ar (.fz ((bW n E).map D.int)),U,W,Y,S,ar (.fz ((heads n (bW n E)).map fun p:Nat=>D.int (p:Int)))]) (fun ρ=>∃x,ρ=[x,ar (.int n),ar (.fz ((bW n E).map D.int))]) (fun _=>b_) rfl (by
   have:(heads n (bW n E)).length<=n:=HX (Je _ _) (by rw[Ie];exact HN _)
   unfold lim;omega) ⟨none,rfl⟩
  (fun h O ρ ⟨x,hρ⟩=>by
   subst hρ;refine⟨[ar (.int h),ar (.int n),ar (.fz ((bW n E).map D.int))],rfl,⟨_,rfl⟩,rfl,fun _=>?_⟩;have K:=oh (α:=Nat) (l:=d_ n) (mk:=fun i:Nat=>D.int (i:Int)) (f:=fun p:Nat=>D.int (p:Int)) (mi:=kU (mV 1)) (g:=gN 0) (t:=ji) (m:=jj) (js:=[none,ar 2,ar 0]) (ρ:=[ar (.int h),ar (.int n),ar (.fz ((bW n E).map D.int))]) (fun ρ=>∃x,ρ=[x,ar (.fz ((bW n E).map D.int)),ar (.int h)]) (fun p:Nat=>decide (gI (bW n E) (p:Int)=(h:Int))) (zY rfl (by omega)) (by rw[Ie];unfold lim;omega) ⟨none,rfl⟩
    (fun p Z ρ ⟨x,hρ⟩=>by
     subst hρ;exact⟨[ar (.int p),ar (.fz ((bW n E).map D.int)),ar (.int h)],rfl,⟨_,rfl⟩,bQ (N (IA.mp Z) rfl rfl) (y:=.int h) rfl zb,fun _=>rfl⟩) (lL (fun p:Nat=>(p:Int)) _)
   refine(eF K).trans (lG ?_);rw[HL];exact HX (Je _ _) (by rw[Ie];unfold lim;omega)) (by rw[b7];exact Q)
 rw[b7]at Z;exact nS (o:=.ret (.fz (xc n (bW n E)))) ((aW (y8 (sJ ((cU rfl).trans (vQ P w))))).trans ((aW (ρ':=eG n E [none,none,none,none,none,none]) rfl).trans ((aW (gM R)).trans ((aW L).trans ((aW T).trans (dF Z)))))) rfl
end
section
variable {n:Nat}{E:List (List Int)}{d:D}
theorem vV(W:n<=14)(w:WebOk n E):de [aY n E]=if n=0\/(iQ n E).length=n then aC .non else M.raise (.exc "NotJoined" []):=by
 have Y:=uG (sJ (e:=az dY (aa (mV 0) ak)) (ρ:=[ar (aY n E)]) ((cU rfl).trans (Aa W w)));have X:(xc n (bW n E)).length=(heads n (bW n E)).length:=by unfold xc;rw[HL]
 rw[X]at Y;have Z:cz pj (cC eg (aL (az dY (aa (mV 0) ak)))) (mK (.int 1)) [ar (aY n E)]=aC (decide (1<((heads n (bW n E)).length:Int))):=bQ Y (y:=.int 1) rfl rfl;by_cases hj:n=0\/(iQ n E).length=n
 ·rw[if_pos hj];have:(heads n (bW n E)).length<=1:=by
   by_cases h0:n=0
   ·subst h0;exact Iv _
   ·exact w5 w (by omega) (hj.resolve_left h0)
  exact nS ((bE Z).trans (if_neg (by rw[Ip];omega))) rfl
 ·rw[if_neg hj];have:=w6 w (by omega) (fun z=>hj (.inr z))
  exact fT ((bE Z).trans ((if_pos (HU (by omega))).trans rfl))
theorem Ab(Y:n<=14)(w:WebOk n E)(U:n=0\/(iQ n E).length=n):fF [aY n E]=aC (jI n E):=by
 have hd:=sJ (e:=az fS (aa (mV 0) ak)) (ρ:=eG n E [none]) ((cU rfl).trans (FK Y w));rw[z5]at hd;have Z:=pR (l:=dl n E) (e:=mV 3) (ρ:=eG n E [ar (.fz ((dl n E).map D.int))]) rfl (by rw[qX];omega)
 have Q:cC b9 (aL (cC bF (mV 3))) (eG n E [ar (.fz ((dl n E).map D.int))])=aC (tupI (sortI (dl n E))):=(eF Z).trans (lG (by rw[HL,(sortI_perm _).length_eq,qX];unfold lim;omega))
 have t1:=bQ Q (y:=tupI [1,1,1,3]) (e2:=mK (.tup [.int 1,.int 1,.int 1,.int 3])) rfl BE;have em:((dl n E).filter fun _=>b_).map (fun x:Int=>D.bl (decide (x>2)))=((dl n E).map fun x=>decide (x>2)).map D.bl:=by rw[b7,IK];rfl
 have X:=vP (α:=Int) (l:=dl n E) (mk:=D.int) (f:=fun x:Int=>D.bl (decide (x>2))) (mi:=dM (mV 3)) (g:=gN 0) (t:=hU) (m:=hV) (js:=[none]) (ρ:=eG n E [ar (.fz ((dl n E).map D.int))]) (fun ρ=>∃x,ρ=[x]) (fun _=>b_) rfl (by rw[qX];unfold lim;omega) ⟨none,rfl⟩
  (fun x hx ρ ⟨y,hρ⟩=>by
   subst hρ;exact⟨[ar (.int x)],rfl,⟨_,rfl⟩,rfl,fun _=>(b8 (x:=.int x) (y:=.int 2) rfl rfl).trans rfl⟩) (by rw[em];exact qG _)
 rw[em]at X;have W:bV (cC uw (aL (B4 (bj (dM (mV 3)) (gN 0) hU hV [none])))) (eG n E [ar (.fz ((dl n E).map D.int))])=aC ((dl n E).any fun x=>decide (x>2)):=iM ((eF X).trans (DJ.trans (by rw[List.any_map];rfl)))
 have R:cC eg (mV 2) (eG n E [ar (.fz ((dl n E).map D.int))])=aC (.int E.length):=(BB (us:=E.map tupI) rfl).trans (by rw[HL])
 have t3:jT (S3.bT (mV 2)) (cz cN (cC eg (mV 2)) (mV 1)) (eG n E [ar (.fz ((dl n E).map D.int))])=aC (decide (E≠[]/\E.length=n)):=by
  show(S3.bT (mV 2) _>>=_)=_;rw[show S3.bT (mV 2) (eG n E [ar (.fz ((dl n E).map D.int))])=aC (!(E.map tupI).isEmpty)from rfl,ao];have S:cz cN (cC eg (mV 2)) (mV 1) (eG n E [ar (.fz ((dl n E).map D.int))])=aC (decide ((E.length:Int)=n)):=bQ R (y:=.int n) rfl zb;cases E with
  |nil=>exact(if_neg (by decide)).trans (by rw[Ij (fun z=>z.1 rfl)])
  |cons t T=>
   refine(if_pos rfl).trans (S.trans ?_);congr 1;exact Le.mpr ⟨fun z=>⟨by simp,by omega⟩,fun z=>by omega⟩
 have hs:ux [ar (aY n E),none,none,none]=aA (fx (cz cN (cC b9 (aL (cC bF (mV 3)))) (mK (.tup [.int 1,.int 1,.int 1,.int 3]))) (bD (mK (.tup [.str "stays",.int 3]))) (cn)) (aA (fx (bV (cC uw (aL (B4 (bj (dM (mV 3)) (gN 0) hU hV [none]))))) (bD (mK (.tup [.str "grows"]))) (cn)) (aA (fx (jT (S3.bT (mV 2)) (cz cN (cC eg (mV 2)) (mV 1))) (bD (dU (aa (mK (.str "stays")) (aa (mV 1) (ak))))) (cn)) (bD (dU (aa (mK (.str "gone")) (aa (mV 1) (ak))))))) (eG n E [ar (.fz ((dl n E).map D.int))]):=
  (aW (y8 (sJ ((cU rfl).trans (by rw[vV Y w,if_pos U]))))).trans ((aW (ρ':=eG n E [none]) rfl).trans (aW (gM hd)))
 refine nS (o:=.ret (jI n E)) (hs.trans ?_) rfl;unfold jI;by_cases h1:sortI (dl n E)=[1,1,1,3]
 ·rw[if_pos h1];exact dZ ((bE t1).trans ((if_pos (HU h1)).trans rfl))
 ·rw[if_neg h1];refine(aW (mj (t1.trans (by rw[Ij h1])))).trans ?_
  by_cases h2:(dl n E).any (fun x=>decide (x>2))=b_
  ·rw[if_pos h2];exact dZ ((bE W).trans ((if_pos h2).trans rfl))
  ·rw[if_neg h2];refine(aW ((bE W).trans (if_neg h2))).trans ?_;by_cases h3:E≠[]/\E.length=n
   ·rw[if_pos h3];exact dZ ((bE t3).trans ((if_pos (HU h3)).trans (dF (qW rfl))))
   ·rw[if_neg h3];exact(aW (mj (t3.trans (by rw[Ij h3])))).trans (dF (qW rfl))
theorem Ac(Z:n<=14)(w:WebOk n E)(Y:¬ (n=0\/(iQ n E).length=n)):fF [aY n E]=M.raise (.exc "NotJoined" []):=
 fT (jW (nR (Ef ((cU rfl).trans (by rw[vV Z w,if_neg Y])))))
theorem Ad(g:Good d)(X:gQ d=dr):fF [d]=M.raise (.exc "NoWeb" []):=by
 have Y:dY [d]=M.raise (.exc "NoWeb" []):=fT (jW (nR (Ef ((cU rfl).trans (zZ g X)))));have Z:de [d]=M.raise (.exc "NoWeb" []):=by
  refine fT ?_;show(cz pj _ _ [ar d]>>=_)=_;have:cz pj (cC eg (aL (az dY (aa (mV 0) ak)))) (mK (.int 1)) [ar d]=M.raise (.exc "NoWeb" []):=by
   show((((((aL (az dY (aa (mV 0) ak)) [ar d])>>=fun x=>aC []>>=fun xs=>aC (x::xs))>>=eg)>>=fun x=>_)>>=ie))=_;rw[Ef ((cU (x:=d) rfl).trans Y)];rfl
  rw[this];rfl
 exact fT (jW (nR (Ef ((cU rfl).trans Z))))
theorem eq_str{s:Str}(h:y_ s=b_):cN (.str s) (.str s)=aC (.bl b_):=bB fun S=>by
 have Z:fB S 60 (.str s)=ar (.str s):=if_pos h;unfold cN;refine(d6 Z Z).mpr ⟨by simp[f'],rfl⟩
theorem same_str{k:Nat}{s:Str}(h:y_ s=b_):bN (k+1) [.str s,.str s]=aC (.bl b_):=BC (b:=dr) rfl (eq_str h) fun i Z=>by
 match i,Z with
 |0,_=>rfl
 |1,_=>rfl
theorem xf:dE [jI n E,jI n E]=aC (.bl b_):=by
 have Y:∀{s:Str} {i:Int},y_ s=b_->dE [.tup [.str s,.int i],.tup [.str s,.int i]]=aC (.bl b_):=fun{s i} hs=>sP (k:=5) (by show 2<=1000;decide) fun x Z=>by
  simp only[gg,f_,or_false]at Z;rcases Z with rfl|rfl
  ·exact same_str hs
  ·exact same_int
 unfold jI;split
 ·exact Y (by decide+kernel)
 ·split
  ·exact sP (k:=5) (by show 1<=1000;decide) fun x Z=>by rw[Io.mp Z];exact same_str (by decide+kernel)
  ·split
   ·exact Y (by decide+kernel)
   ·exact Y (by decide+kernel)
end
def eI(n:Nat):List (List Int):=(d_ (n - 1)).map fun i:Nat=>[(i:Int),(i:Int)+1]
def pS(n:Nat):List (List Int):=(k7 1 (n - 1)).map fun i:Nat=>[(0:Int),(i:Int)]
theorem uI{n:Nat}(X:n<=14):TiesOk n (eI n):=by
 refine⟨fun t Y=>?_,Kd.mpr ((Ld (n:=n - 1)).imp fun h e=>h (by have:=(Ik e).1;omega)),by unfold eI;rw[HL,Ie];omega⟩
 obtain⟨i,Z,rfl⟩:=IS.mp Y;have:=IA.mp Z;exact⟨i,(i:Int)+1,rfl,by omega,by omega,by omega⟩
theorem TiesOk.snoc{n:Nat}{T:List (List Int)}{b:Int}(w:TiesOk n T)(R:T.length<=20)(S:0<b)(X:b<n)(Y:[0,b]∉T):TiesOk n (T++[[0,b]]):=by
 refine⟨fun t Z=>?_,KU.mpr ⟨w.nd,JA _ _,fun a W c U e=>Y (by rw[Io.mp U]at e;exact e ▸ W)⟩,by rw[HP];show T.length+1<=21;omega⟩
 rcases Jk.mp Z with Z|Z
 ·exact w.el t Z
 ·rw[Io.mp Z];exact⟨0,b,rfl,by omega,S,X⟩
theorem vW{n:Nat}(Z:n<=14)(X:2<n):TiesOk n (eI n++[[0,(n:Int) - 1]]):=by
 refine(uI Z).snoc (by unfold eI;rw[HL,Ie];omega) (by omega) (by omega) fun h=>?_
 obtain⟨i,Y,e⟩:=IS.mp h;have e1:=(Ik e).1;have e2:=(Ik (Ik e).2).1;omega
theorem qY{n:Nat}{b:Int}(U:n<=14)(X:0<b)(Y:b<n):TiesOk n ((eI n).drop 1++[[0,b]]):=by
 have w:=uI U;have T:TiesOk n ((eI n).drop 1):=⟨fun t W=>w.el t (Ks W),w.nd.sublist (List.drop_sublist _ _),HX (List.drop_sublist _ _).length_le w.few⟩;refine T.snoc (by rw[Kl];unfold eI;rw[HL,Ie];omega) X Y fun h=>?_
 unfold eI at h;rw[<-List.map_drop]at h;obtain⟨i,Z,e⟩:=IS.mp h;have e1:=(Ik e).1;have:i=0:=by omega
 subst this;rw[List.range_eq_range',List.drop_range']at Z;have:=Kc.mp Z;omega
theorem BI{n:Nat}(X:n<=14):TiesOk n (pS n):=by
 refine⟨fun t Y=>?_,Kd.mpr ((List.nodup_range' (s:=1) (n:=n - 1) (step:=1)).imp fun h e=>h (by have:=(Ik (Ik e).2).1;omega)),by unfold pS;rw[HL,JF];omega⟩
 obtain⟨i,Z,rfl⟩:=IS.mp Y;have:=Kc.mp Z;exact⟨0,i,rfl,by omega,by omega,by omega⟩
theorem FM{p q:gh}{b c:Bool}{ρ:aB}(Y:p ρ=aC b)(Z:q ρ=aC c):jT p q ρ=aC (b && c):=by
 show(p ρ>>=_)=_;rw[Y,ao];cases b with
 |true=>exact Z
 |false=>rfl
section
variable {S:ay}{k n:Nat}{v:Int}{x4:Option D}
abbrev fI(k n:Nat)(v:Int)(r:List (Option D)):aB:=ar (.lst k)::ar (.int n)::ar (.int v)::r
theorem qZ{c:Int}{r:List (Option D)}:cz cN (mV 2) (mK (.int c)) (fI k n v r)=aC (decide (v=c)):=bQ (x:=.int v) (y:=.int c) rfl rfl zb
theorem more{c:Int}{r:List (Option D)}:cz pj (mV 1) (mK (.int c)) (fI k n v r)=aC (decide (c<(n:Int))):=bQ (x:=.int n) (y:=.int c) rfl rfl rfl
theorem D8{Y:Option D}(W:n<=14):aL (bj (kU (aQ dm (mV 1) (mK (.int 1)))) (gN 0) dy dz [none]) (fI k n v [Y,x4])=aC (.fz ((eI n).map tupI)):=by
 have Z:kU (aQ dm (mV 1) (mK (.int 1))) (fI k n v [Y,x4])=aC ⟨(d_ (n - 1)).map fun i:Nat=>D.int (i:Int),.none⟩:=by
  rw[nQ (x:=.int ((n:Int) - 1)) ((b8 (x:=.int n) (y:=.int 1) rfl rfl).trans rfl),y0 (by omega),show((n:Int) - 1).toNat=n - 1 by omega,D6]
 have e:((d_ (n - 1)).filter fun _=>b_).map (fun i:Nat=>tupI [(i:Int),(i:Int)+1])=(eI n).map tupI:=by
  unfold eI;rw[b7,IK];rfl
 have X:=oh (α:=Nat) (l:=d_ (n - 1)) (f:=fun i:Nat=>tupI [(i:Int),(i:Int)+1]) (g:=gN 0) (t:=dy) (m:=dz) (js:=[none]) (fun ρ=>∃x,ρ=[x]) (fun _=>b_) Z (by rw[Ie];unfold lim;omega) ⟨none,rfl⟩
  (fun i Z ρ ⟨x,hρ⟩=>by
   subst hρ;refine⟨[ar (.int i)],rfl,⟨_,rfl⟩,rfl,fun _=>?_⟩;show(aa _ _ _>>=bY)=_;rw[a7 (e:=mV 0) (x:=.int i) rfl (a7 (e:=aQ cY (mV 0) (mK (.int 1))) (x:=.int ((i:Int)+1)) rfl (es:=ak) rfl),ao];unfold bY;exact if_pos kK) (by rw[e];exact cI _)
 rw[e]at X;exact X
theorem BJ{Y:Option D}(W:n<=14):aL (bj (yx (mK (.int 1)) (mV 1)) (gN 0) dC dD [none]) (fI k n v [Y,x4])=aC (.fz ((pS n).map tupI)):=by
 have Z:=Cc (n:=n) (m:=mV 1) (ρ:=fI k n v [Y,x4]) (by omega) rfl
 have e:((k7 1 (n - 1)).filter fun _=>b_).map (fun i:Nat=>tupI [(0:Int),(i:Int)])=(pS n).map tupI:=by
  unfold pS;rw[b7,IK];rfl
 have X:=oh (α:=Nat) (l:=k7 1 (n - 1)) (f:=fun i:Nat=>tupI [(0:Int),(i:Int)]) (g:=gN 0) (t:=dC) (m:=dD) (js:=[none]) (fun ρ=>∃x,ρ=[x]) (fun _=>b_) Z (by rw[JF];unfold lim;omega) ⟨none,rfl⟩
  (fun i Z ρ ⟨x,hρ⟩=>by
   subst hρ;refine⟨[ar (.int i)],rfl,⟨_,rfl⟩,rfl,fun _=>?_⟩;show(aa _ _ _>>=bY)=_;rw[a7 (e:=mK (.int 0)) (x:=.int 0) rfl (a7 (e:=mV 0) (x:=.int i) rfl (es:=ak) rfl),ao];unfold bY;exact if_pos kK) (by rw[e];exact cI _)
 rw[e]at X;exact X
theorem last_eq{r:List (Option D)}:dU (aa (mK (.int 0)) (aa (aQ dm (mV 1) (mK (.int 1))) ak)) (fI k n v r)=aC (tupI [0,(n:Int) - 1]):=by
 show(aa _ _ _>>=bY)=_;rw[a7 (e:=mK (.int 0)) (x:=.int 0) rfl (a7 (e:=aQ dm (mV 1) (mK (.int 1))) (x:=.int ((n:Int) - 1)) rfl (es:=ak) rfl),ao];unfold bY;exact if_pos kK
def Hn:cM:=fx (jT (cz cN (mV 2) (mK (.int 1))) (cz pj (mV 1) (mK (.int 2)))) (bo 3 (aL (aQ cY (mV 3) (aL (aS (aa (dU (aa (mK (.int 0)) (aa (aQ dm (mV 1) (mK (.int 1))) (ak)))) (ak))))))) (cn)
def Ho:cM:=fx (jT (cz cN (mV 2) (mK (.int 2))) (cz pj (mV 1) (mK (.int 3)))) (bo 3 (aL (aQ cY (aL (Ee (mV 3) (oS (mK (.int 1))) (oN))) (aL (aS (aa (aQ cK (aL (aS (aa (mK (.tup [.int 0,.int 2])) (aa (dU (aa (mK (.int 0)) (aa (aQ dm (mV 1) (mK (.int 1))) (ak)))) (ak))))) (aL (az aD (aa (mV 0) (aa (mK (.int 2)) (ak)))))) (ak))))))) (cn)
def Hq:cM:=fx (cz cN (mV 2) (mK (.int 3))) (bo 3 (aL (bj (yx (mK (.int 1)) (mV 1)) (gN 0) dC dD [none]))) (cn)
def Hr:cM:=aA (bo 4 (aL (az cf (aa (dU (aa (mV 1) (aa (cC b9 (mV 3)) (ak)))) (aa (aL (az aZ (aa (mV 0) (aa (aL (cC bM (mV 1))) (ak))))) (ak)))))) (bD (Dq (cz cN (mV 2) (mK (.int 4))) (aL (az dw (aa (mV 0) (aa (mK (.int 6)) (ak))))) (mV 4)))
theorem BK:gu=aA (bo 1 (aL (az aD (aa (mV 0) (aa (mK (.int 15)) (ak)))))) (aA (bo 2 (aL (az aD (aa (mV 0) (aa (mK (.int 5)) (ak)))))) (aA (fx (cz cN (mV 2) (mK (.int 3))) (bo 1 (aQ cY (mK (.int 1)) (aL (az aD (aa (mV 0) (aa (mK (.int 7)) (ak))))))) (cn)) (aA (bo 3 (aL (bj (kU (aQ dm (mV 1) (mK (.int 1)))) (gN 0) dy dz [none]))) (aA Hn (aA Ho (aA Hq Hr)))))):=rfl
theorem FN{T:List (List Int)}(X:T=eI n)(Z:n<=14):∃T',Hn (fI k n v [ar (.fz (T.map tupI)),x4])=aC (.nx (fI k n v [ar (.fz (T'.map tupI)),x4]))/\TiesOk n T'/\(v≠1->T'=eI n):=by
 subst X;have Y:=FM (qZ (k:=k) (n:=n) (v:=v) (c:=1) (r:=[ar (.fz ((eI n).map tupI)),x4])) (more (c:=2));by_cases h:v=1/\2<n
 ·refine⟨eI n++[[0,(n:Int) - 1]],(bE Y).trans ((if_pos (by rw[HU h.1,HU (by omega)];rfl)).trans (gM ?_)),vW Z h.2,fun z=>absurd h.1 z⟩
  show fJ (aQ cY _ _ _)=_;rw[b8 (x:=.fz ((eI n).map tupI)) rfl (things (us:=[tupI [0,(n:Int) - 1]]) (a7 last_eq (es:=ak) rfl) rfl (by show 1<=50;decide))]
  show fJ (bq _)=_;rw[show((eI n).map tupI++[tupI [0,(n:Int) - 1]])=(eI n++[[0,(n:Int) - 1]]).map tupI by rw[Jv];rfl]
  exact bG (cI _) (by rw[HL];have:=(vW Z h.2).few;unfold lim;omega)
 ·exact⟨eI n,(bE Y).trans (if_neg (by rw[IE,Ip,Ip];exact fun z=>h ⟨z.1,by omega⟩)),uI Z,fun _=>rfl⟩
theorem FO{T:List (List Int)}(hs:eh S k)(w:TiesOk n T)(Y:v=2->T=eI n)(Z:n<=14):∃T' S1,Ho (fI k n v [ar (.fz (T.map tupI)),x4]) S=ar (.ok (.nx (fI k n v [ar (.fz (T'.map tupI)),x4])),S1)/\TiesOk n T'/\Kp k S S1/\S1.length=S.length:=by
 have R:=FM (qZ (k:=k) (n:=n) (v:=v) (c:=2) (r:=[ar (.fz (T.map tupI)),x4])) (more (c:=3));by_cases h:v=2/\3<n
 ·have Y:=Y h.1;subst Y;obtain⟨j,S1,N,K,L,k1,W⟩:=l9 (e1:=mV 0) (e2:=mK (.int 2)) (ρ:=fI k n v [ar (.fz ((eI n).map tupI)),x4]) (m:=2) hs rfl rfl (by decide) (by decide)
  obtain⟨b,X,bn,Q⟩:∃b:Int,0<b/\b<n/\cK (.fz [tupI [0,2],tupI [0,(n:Int) - 1]]) (.int j)=aC (tupI [0,b]):=by
   have:j=0\/j=1:=by omega
   rcases this with rfl|rfl
   ·exact⟨2,by decide,by omega,rfl⟩
   ·exact⟨(n:Int) - 1,by omega,by omega,rfl⟩
  have U:aL (Ee (mV 3) (oS (mK (.int 1))) oN) (fI k n v [ar (.fz ((eI n).map tupI)),x4])=aC (.fz (((eI n).drop 1).map tupI)):=by
   show fJ (bq (S3.cutD ((eI n).map tupI) (ar 1) none))=_;rw[Fz, <-List.map_drop];exact bG (cI _) (by rw[HL];have:=(qY (b:=b) Z X bn).few;rw[HP]at this;unfold lim;omega)
  have P:aL (aS (aa (mK (.tup [.int 0,.int 2])) (aa (dU (aa (mK (.int 0)) (aa (aQ dm (mV 1) (mK (.int 1))) (ak)))) (ak)))) (fI k n v [ar (.fz ((eI n).map tupI)),x4])=aC (.fz [tupI [0,2],tupI [0,(n:Int) - 1]]):=things (a7 (e:=mK (.tup [.int 0,.int 2])) (x:=tupI [0,2]) rfl (a7 last_eq (es:=ak) rfl)) rfl (by show 2<=50;decide)
  have O:aL (aS (aa (aQ cK (aL (aS (aa (mK (.tup [.int 0,.int 2])) (aa (dU (aa (mK (.int 0)) (aa (aQ dm (mV 1) (mK (.int 1))) (ak)))) (ak))))) (aL (az aD (aa (mV 0) (aa (mK (.int 2)) (ak)))))) (ak))) (fI k n v [ar (.fz ((eI n).map tupI)),x4]) S=ar (.ok (.fz [tupI [0,b]]),S1):=by
   refine n4 (iH (S1:=S1) (ys:=[tupI [0,b]]) (cV ((gf (Iw P S) N).trans (Iw Q S1)) rfl) (by show 1<=lim;unfold lim;omega)) k1 W rfl
  refine⟨(eI n).drop 1++[[0,b]],S1,(Iw ((bE R).trans (if_pos (by rw[HU h.1,HU (by omega)];rfl))) S).trans (bU ?_),qY Z X bn,k1,W⟩
  refine n4 ((gf (Iw U S) O).trans ?_) k1 W (cI _);show bq _ S1=_;rw[show(((eI n).drop 1).map tupI++[tupI [0,b]])=((eI n).drop 1++[[0,b]]).map tupI by rw[Jv];rfl]
  exact d9 (by rw[HL];have:=(qY (b:=b) Z X bn).few;unfold lim;omega)
 ·exact⟨T,S,Iw ((bE R).trans (if_neg (by rw[IE,Ip,Ip];exact fun z=>h ⟨z.1,by omega⟩))) S,w,.refl hs,rfl⟩
theorem FP{T:List (List Int)}(w:TiesOk n T)(Z:n<=14):∃T',Hq (fI k n v [ar (.fz (T.map tupI)),x4])=aC (.nx (fI k n v [ar (.fz (T'.map tupI)),x4]))/\TiesOk n T':=by
 have Y:=qZ (k:=k) (n:=n) (v:=v) (c:=3) (r:=[ar (.fz (T.map tupI)),x4]);by_cases h:v=3
 ·exact⟨pS n,(bE Y).trans ((if_pos (HU h)).trans (gM (BJ Z))),BI Z⟩
 ·exact⟨T,mj (Y.trans (by rw[Ij h])),w⟩
theorem FQ{c:M D}{S Z:ay}{d:D}(h:c S=ar (.ok d,Z))(Y:Z.length<=S.length):fJ c S=ar (.ok d,Z):=by
 unfold fJ;rw[h];dsimp only;rw[if_pos Y]
theorem FR{T:List (List Int)}(hs:eh S k)(w:TiesOk n T)(U:n<=14):∃(m:Nat) (E:List (List Int)) (S1:ay),Hr (fI k n v [ar (.fz (T.map tupI)),x4]) S=ar (.ok (.ret (aY m E)),S1)/\m<=14/\WebOk m E/\Kp k S S1/\S1.length=S.length:=by
 have hf:=w.few;obtain⟨zs,S1,e1,W,k1,X⟩:=sT (n:=n) (ρ:=fI k n v [ar (.fz (T.map tupI)),x4]) (e1:=mV 0) (e2:=mV 1) hs U rfl rfl;have wE:=zF W w;have O:dU (aa (mV 1) (aa (cC b9 (mV 3)) ak)) (fI k n v [ar (.fz (T.map tupI)),x4])=aC (aY n T):=by
  show(aa _ _ _>>=bY)=_;rw[a7 (e:=mV 1) (x:=.int n) rfl (a7 (e:=cC b9 (mV 3)) (x:=.tup (T.map tupI)) ((eF (x:=.fz (T.map tupI)) rfl).trans (lG (by rw[HL];unfold lim;omega))) (es:=ak) rfl),ao]
  unfold bY;exact if_pos kK
 have Q:aL (az cf (aa (dU (aa (mV 1) (aa (cC b9 (mV 3)) (ak)))) (aa (aL (az aZ (aa (mV 0) (aa (aL (cC bM (mV 1))) (ak))))) (ak)))) (fI k n v [ar (.fz (T.map tupI)),x4]) S=ar (.ok (aY n (cX (T.map (sU zs)))),S1):=by
  have P:az cf (aa (dU (aa (mV 1) (aa (cC b9 (mV 3)) (ak)))) (aa (aL (az aZ (aa (mV 0) (aa (aL (cC bM (mV 1))) (ak))))) (ak))) (fI k n v [ar (.fz (T.map tupI)),x4]) S=ar (.ok (aY n (cX (T.map (sU zs)))),S1):=by
   show(aa _ _ _>>=cf) S=_;rw[aH (cV (Iw O S) (cV e1 rfl)),Bw W w];rfl
  exact FQ P (JI X)
 have Z:=aP (n:=bD (Dq (cz cN (mV 2) (mK (.int 4))) (aL (az dw (aa (mV 0) (aa (mK (.int 6)) (ak))))) (mV 4))) (bU (i:=4) Q);have R:=qZ (k:=k) (n:=n) (v:=v) (c:=4) (r:=[ar (.fz (T.map tupI)),ar (aY n (cX (T.map (sU zs))))]);by_cases h:v=4
 ·obtain⟨m,E,S2,e2,hm,Y,k2,N⟩:=DZ (g:=6) (by decide) k1.st
  refine⟨m,E,S2,Z.trans (fH ?_),by omega,Y,k1.trans k2,N.trans X⟩
  show(cz cN (mV 2) (mK (.int 4)) (fI k n v [ar (.fz (T.map tupI)),ar (aY n (cX (T.map (sU zs))))])>>=_) S1=_;rw[R,ao,if_pos (HU h)];show fJ (az _ _ _) S1=_;rw[call2 (x:=.lst k) (y:=.int 6) rfl rfl];exact e2
 ·refine⟨n,cX (T.map (sU zs)),S1,Z.trans (fH ?_),U,wE,k1,X⟩;show(cz cN (mV 2) (mK (.int 4)) (fI k n v [ar (.fz (T.map tupI)),ar (aY n (cX (T.map (sU zs))))])>>=_) S1=_;rw[R,ao,if_neg (by rw[Ip];exact h)];rfl
theorem vX(hs:eh S k):∃(m:Nat) (E:List (List Int)) (S1:ay),fJ (bO [.lst k]) S=ar (.ok (aY m E),S1)/\m<=14/\WebOk m E/\Kp k S S1/\S1.length=S.length:=by
 obtain⟨i,r,e1,w,u,k1,g⟩:=l9 (e1:=mV 0) (e2:=mK (.int 15)) (ρ:=[ar (.lst k),none,none,none,none]) (m:=15) hs rfl rfl (by decide) (by decide)
 obtain⟨v,X,e2,v0,v1,k2,p⟩:=l9 (e1:=mV 0) (e2:=mK (.int 5)) (ρ:=[ar (.lst k),ar (.int i),none,none,none]) (m:=5) k1.st rfl rfl (by decide) (by decide)
 obtain⟨n,Y,U,Z,k3,Q⟩:∃(n:Nat) (Y:ay),fx (cz cN (mV 2) (mK (.int 3))) (bo 1 (aQ cY (mK (.int 1)) (aL (az aD (aa (mV 0) (aa (mK (.int 7)) (ak))))))) (cn) [ar (.lst k),ar (.int i),ar (.int v),none,none] X=ar (.ok (.nx (fI k n v [none,none])),Y)/\n<=14/\Kp k X Y/\Y.length=X.length:=by
  have T:cz cN (mV 2) (mK (.int 3)) [ar (.lst k),ar (.int i),ar (.int v),none,none]=aC (decide (v=3)):=bQ (x:=.int v) (y:=.int 3) rfl rfl zb;by_cases h:v=3
  ·obtain⟨j,Y,U,f,B,k3,Q⟩:=l9 (e1:=mV 0) (e2:=mK (.int 7)) (ρ:=[ar (.lst k),ar (.int i),ar (.int v),none,none]) (m:=7) k2.st rfl rfl (by decide) (by decide)
   obtain⟨n,Z⟩:∃n:Nat,1+j=(n:Int):=⟨(1+j).toNat,by omega⟩
   refine⟨n,Y,(Iw ((bE T).trans (if_pos (HU h))) X).trans (bU ((gf (x:=.int 1) (S1:=X) rfl U).trans ?_)),by omega,k3,Q⟩
   show ar (Res.ok (D.int (1+j)),Y)=_;rw[Z]
  ·obtain⟨n,Z⟩:∃n:Nat,i=(n:Int):=⟨i.toNat,by omega⟩
   subst Z;exact⟨n,X,Iw ((bE T).trans (if_neg (by rw[Ip];exact h))) X,by omega,.refl k2.st,rfl⟩
 obtain⟨t,G,J,g1⟩:=FN (k:=k) (n:=n) (v:=v) (x4:=none) rfl Z;obtain⟨s,K,N,P,R,q⟩:=FO (k:=k) (n:=n) (v:=v) (x4:=none) k3.st J (fun z=>g1 (by omega)) Z
 obtain⟨l,I,O⟩:=FP (k:=k) (n:=n) (v:=v) (x4:=none) P Z;obtain⟨m,E,L,F,hm,wE,k5,A⟩:=FR (v:=v) (x4:=none) R.st O Z;have W:gu [ar (.lst k),none,none,none,none] S=ar (.ok (.ret (aY m E)),L):=by
  rw[BK];exact(aP (bU e1)).trans ((aP (bU e2)).trans ((aP U).trans ((Iw (aW (gM (D8 Z))) Y).trans ((Iw (aW G) Y).trans ((aP N).trans ((Iw (aW I) K).trans F))))))
 obtain⟨S1,C,H⟩:=zv (c:=bO [.lst k]) hs (eR (o:=.ret (aY m E)) W rfl) ((((k1.trans k2).trans k3).trans R).trans k5) qP;exact⟨m,E,S1,C,hm,wE,H⟩
end
theorem BM:fJ (bc (M.raise (.exc "NotJoined" [])) [])=aC (.fz [.int 7]):=pQ (by decide) (by rfl) (fun f p=>Cd (by decide)) rfl
section
variable {n:Nat}{E:List (List Int)}{a0 a1 a2 a4:Option D}
theorem Cf(Z:n<=14)(w:WebOk n E):jm [a0,a1,a2,ar (aY n E),a4]=aC (.nx [a0,a1,a2,ar (aY n E),a4]):=by
 have Y:bV (aL (az da (aa (mV 3) ak))) [a0,a1,a2,ar (aY n E),a4]=aC (decide (n=0)||decide ((iQ n E).length=n)):=by
  refine iM ?_;unfold aL;rw[cU (x:=aY n E) rfl];exact z9 Z w
 unfold jm;refine(bE Y).trans ?_;by_cases h:n=0\/(iQ n E).length=n
 ·rw[if_pos (by simpa using h)]
  have hs:dE [jI n E,xa n E]=aC (.bl b_):=by
   rw[<-zR w h];exact xf
  exact mj (nb (sJ ((call2 (sJ ((cU rfl).trans (Ab Z w h))) (sJ ((cU rfl).trans (FL Z w)))).trans hs)))
 ·rw[if_neg (by simpa using h)]
  have X:=zw (js:=[3]) (ρ:=[a0,a1,a2,ar (aY n E),a4]) (ds:=[aY n E]) (m:=nO) (R:=bc) rfl (Ef ((cU rfl).trans (Ac Z w h))) BM;exact mj (bQ X uC FG)
end
theorem D9{S:ay}{ns:List Int}{i:Nat}{o2 o3 o4:Option D}:∃x2 x3 x4 S1,jo [ar (.ro (ns.map D.int)),ar (.int i),o2,o3,o4] S=ar (.ok (.nx [ar (.ro (ns.map D.int)),ar (.int i),x2,x3,x4]),S1):=by
 obtain⟨_,_,T,xs,rfl,rfl,hs⟩:=Bk (S:=S) (ns:=ns) (k:=i) (Q:=fun d I=>∃xs,d= .lst S.length/\I=S++[xs]/\eh (S++[xs]) S.length) fun xs h=>⟨xs,rfl,rfl,h⟩;generalize S++[xs]=T0 at T hs;generalize S.length=k at T hs;obtain⟨U,W,N,e1,E,w,k1,z⟩:=vX hs;obtain⟨X,Z,Y,e2,K,L,k2,F⟩:=vX k1.st;have H:aL (aS (aa (aL (az bO (aa (mV 2) (ak)))) (aa (aL (az bO (aa (mV 2) (ak)))) (ak)))) [ar (.ro (ns.map D.int)),ar (.int i),ar (.lst k),o3,o4] T0=ar (.ok (.fz [aY U W,aY X Z]),Y):=by
  refine n4 (iH (S1:=Y) (ys:=[aY U W,aY X Z]) (cV (S1:=N) ?_ (cV (S1:=Y) ?_ rfl)) (by show 2<=lim;unfold lim;omega)) (k1.trans k2) (F.trans z) ?_
  ·show fJ (az _ _ _) T0=_;rw[cU (x:=.lst k) rfl];exact e1
  ·show fJ (az _ _ _) N=_;rw[cU (x:=.lst k) rfl];exact e2
  ·unfold cw cw cw;rw[qP,qP];rfl
 have C:fg ⟨[aY U W,aY X Z],.none⟩ (gN 3) jm [aY U W,aY X Z] [ar (.ro (ns.map D.int)),ar (.int i),ar (.lst k),o3,o4] Y=ar (.ok (.nx [ar (.ro (ns.map D.int)),ar (.int i),ar (.lst k),ar (aY X Z),o4]),Y):=by
  rw[jX rfl (Iw (Cf E w) Y),jX rfl (Iw (Cf K L) Y),gy];rfl
 obtain⟨d,P,B,G,J,v,_⟩:=D5 k2.st;have A:=zw (js:=[4]) (ρ:=[ar (.ro (ns.map D.int)),ar (.int i),ar (.lst k),ar (aY X Z),ar d]) (ds:=[d]) (m:=nP) (R:=bc) rfl (Ef ((cU rfl).trans (Ad G J))) Bz;have O:dM (aL (aS (aa (aL (az bO (aa (mV 2) (ak)))) (aa (aL (az bO (aa (mV 2) (ak)))) (ak))))) [ar (.ro (ns.map D.int)),ar (.int i),ar (.lst k),o3,o4] T0=ar (.ok ⟨[aY U W,aY X Z],.none⟩,Y):=by
  unfold dM;rw[aH H];rfl
 refine⟨ar (.lst k),ar (aY X Z),ar d,P,?_⟩;unfold jo;refine(aP (ρ':=[ar (.ro (ns.map D.int)),ar (.int i),ar (.lst k),o3,o4]) (S1:=T0) (bU (x:=.lst k) ?_)).trans ((aP (Bt O C)).trans ((aP (ρ':=[ar (.ro (ns.map D.int)),ar (.int i),ar (.lst k),ar (aY X Z),ar d]) (S1:=P) (bU (x:=d) ?_)).trans ?_))
 ·rw[call2 (x:=.ro (ns.map D.int)) (y:=.int i) rfl rfl];exact T
 ·show fJ (az _ _ _) Y=_;rw[cU (x:=.lst k) rfl];exact B
 ·exact Iw (mj (bQ A uC FG)) P
theorem tj{its:List D}{ns:List Int}:∀(ts:List Nat) (o1 o2 o3 o4:Option D) (S:ay),∃x1 x2 Z x4 S1,fg ⟨its,.none⟩ (gN 1) jo (ts.map fun i:Nat=>.int (0+(i:Int))) [ar (.ro (ns.map D.int)),o1,o2,o3,o4] S=ar (.ok (.nx [ar (.ro (ns.map D.int)),x1,x2,Z,x4]),S1)
 |[],o1,o2,o3,o4,S=>⟨o1,o2,o3,o4,S,by rw[Kh,gy];rfl⟩
 |t::ts,o1,o2,o3,o4,S=>by
  obtain⟨x2,Z,x4,S1,h⟩:=D9 (S:=S) (ns:=ns) (i:=t) (o2:=o2) (o3:=o3) (o4:=o4);obtain⟨T,U,Y,X,S2,W⟩:=tj (its:=its) (ns:=ns) ts (ar (.int t)) x2 Z x4 S1;refine⟨T,U,Y,X,S2,?_⟩;rw[Iu,Kj];exact(jX rfl h).trans W
theorem BN{m:Int}:cN (.tup [.str "gone",.int m]) (.tup [.str "gone",.int m])=aC (.bl b_):=bB fun S=>by
 have Y:fB S 59 (.str "gone")=ar (.str "gone"):=if_pos (by decide+kernel)
 have Z:fB S 60 (.tup [.str "gone",.int m])=ar (.tuple [.str "gone",.int m]):=by
  show(mapP (fB S 59) [.str "gone",.int m]).map z3=_;unfold mapP;rw[Y];rfl
 unfold cN;exact(d6 Z Z).mpr ⟨by simp[f',kr],rfl⟩
theorem Cg{m:Nat}(Z:m<=1){ρ:aB}:aQ cN (aL (az fF (aa (mK (.tup [.int m,.tup []])) ak))) (mK (.tup [.str "gone",.int m])) ρ=aC (.bl b_):=by
 have w:WebOk m ([]:List (List Int)):=⟨(fun t X=>by cases X),.nil,Iv _⟩
 have Y:m=0\/(iQ m ([]:List (List Int))).length=m:=by
  match m,Z with
  |0,_=>exact .inl rfl
  |1,_=>exact .inr rfl
 have W:jI m []= .tup [.str "gone",.int m]:=by
  match m,Z with
  |0,_=>rfl
  |1,_=>rfl
 exact(b8 (sJ ((cU (x:=aY m []) rfl).trans ((Ab (by omega) w Y).trans (by rw[W])))) rfl).trans BN
theorem FS{S:ay}{ns:List Int}:runs (pH [.ro (ns.map D.int)]) S (fun d _=>d= .bl b_):=by
 have hm:az minD (aa (cC eg (mV 0)) (aa (mK (.int 10)) ak)) [ar (.ro (ns.map D.int)),none,none,none,none]=aC (.int (if (10:Int)<(ns.map D.int).length then 10 else (ns.map D.int).length)):=(call2 (x:=.int (ns.map D.int).length) (y:=.int 10) rfl rfl).trans rfl;have Z:az maxD (aa (mK (.int 1)) (aa (az minD (aa (cC eg (mV 0)) (aa (mK (.int 10)) ak))) ak)) [ar (.ro (ns.map D.int)),none,none,none,none]=aC (.int (if (if (10:Int)<(ns.map D.int).length then (10:Int)else (ns.map D.int).length)>1 then (if (10:Int)<(ns.map D.int).length then 10 else (ns.map D.int).length)else 1)):=(call2 (x:=.int 1) rfl hm).trans rfl;generalize hn:(if (if (10:Int)<(ns.map D.int).length then (10:Int)else (ns.map D.int).length)>1 then (if (10:Int)<(ns.map D.int).length then (10:Int)else (ns.map D.int).length)else 1)=n at Z;have X:n<=10:=by rw[<-hn];split<;>split<;>omega
 have U:1<=n:=by rw[<-hn];split<;>split<;>omega
 have Y:=(nQ Z).trans (y0 (by omega))
 obtain⟨x1,x2,W,x4,S1,hf⟩:=tj (its:=a9 0 n.toNat) (ns:=ns) (d_ n.toNat) none none none none S;refine⟨.bl b_,S1,eR (o:=.ret (.bl b_)) ?_ rfl,rfl⟩;unfold yY;exact(aP (nU Y hf)).trans (Iw (dF (and_eq (b:=b_) (y:=.bl b_) (Cg (m:=0) (by decide)) (fun _=>Cg (m:=1) (by decide)) (fun z=>by cases z))) S1)
def top(i:Nat):Stmt:=PySem.Challenge.pw_tiewebs_k82_fates_told.main.body.getD i (.Pass ⟨0,0,0,0⟩)
structure Txt(K:dn)(mg:Str->Option a_):Prop where
 err:gn K=b_
 dk:Ba K=b_
 b_ValueError:mg "ValueError"=none
 b_all:mg "all"=none
 b_any:mg "any"=none
 b_bool:mg "bool"=none
 b_int:mg "int"=none
 b_isinstance:mg "isinstance"=none
 b_len:mg "len"=none
 b_list:mg "list"=none
 b_max:mg "max"=none
 b_min:mg "min"=none
 b_range:mg "range"=none
 b_sorted:mg "sorted"=none
 b_tuple:mg "tuple"=none
 b_zip:mg "zip"=none
 g_MOST_PLACES:∃t,mg "MOST_PLACES"=ar (.int 14 t)
 t_DEGREES_OF_THREE_IN_A_STAR:KTup K mg "DEGREES_OF_THREE_IN_A_STAR" [1,1,1,3]
theorem tm:FnScope ["thing"] ["thing"] (aw (top 17)):=⟨rfl,rfl,rfl,by decide+kernel,rfl,by decide+kernel,by decide+kernel⟩
theorem uJ:FnScope ["thing"] ["thing"] (aw (top 18)):=⟨rfl,rfl,rfl,by decide+kernel,rfl,by decide+kernel,by decide+kernel⟩
theorem rf:FnScope ["things"] ["things"] (aw (top 21)):=⟨rfl,rfl,rfl,by decide+kernel,rfl,by decide+kernel,by decide+kernel⟩
theorem mx:FnScope ["_law_script","_law_k"] ["_law_script","_law_k"] (aw (top 31)):=⟨rfl,rfl,rfl,by decide+kernel,rfl,by decide+kernel,by decide+kernel⟩
theorem fP:FnScope ["_law_state_here","_law_many","_law_found","_law_stirred"] ["_law_state_here","_law_many"] (aw (top 33)):=⟨rfl,rfl,rfl,by decide+kernel,rfl,by decide+kernel,by decide+kernel⟩
theorem gS:FnScope ["_law_many","_law_found","_law_a"] ["_law_many"] (aw (top 34)):=⟨rfl,rfl,rfl,by decide+kernel,rfl,by decide+kernel,by decide+kernel⟩
theorem oO:FnScope ["_law_web_here","_law_names"] ["_law_web_here","_law_names"] (aw (top 37)):=⟨rfl,rfl,rfl,by decide+kernel,rfl,by decide+kernel,by decide+kernel⟩
theorem dG:FnScope ["_law_web_here","_law_here","_law_turn","_law_one","_law_other"] ["_law_web_here"] (aw (top 42)):=⟨rfl,rfl,rfl,by decide+kernel,rfl,by decide+kernel,by decide+kernel⟩
theorem mn:FnScope ["_law_web_here","_law_counts"] ["_law_web_here"] (aw (top 43)):=⟨rfl,rfl,rfl,by decide+kernel,rfl,by decide+kernel,by decide+kernel⟩
theorem tq:FnScope ["many","thing"] ["many","thing"] (aw (top 19)):=⟨rfl,rfl,rfl,by decide+kernel,rfl,by decide+kernel,by decide+kernel⟩
theorem jJ:FnScope ["_law_script","_law_k","_law_cell"] ["_law_script","_law_k"] (aw (top 32)):=⟨rfl,rfl,rfl,by decide+kernel,rfl,by decide+kernel,by decide+kernel⟩
theorem eJ:FnScope ["_law_state_here","_law_things","_law_left","_law_found"] ["_law_state_here","_law_things"] (aw (top 35)):=⟨rfl,rfl,rfl,by decide+kernel,rfl,by decide+kernel,by decide+kernel⟩
theorem iO:FnScope ["_law_state_here","_law_some"] ["_law_state_here"] (aw (top 38)):=⟨rfl,rfl,rfl,by decide+kernel,rfl,by decide+kernel,by decide+kernel⟩
theorem lM:FnScope ["many","thing","low","high"] ["many","thing"] (aw (top 20)):=⟨rfl,rfl,rfl,by decide+kernel,rfl,by decide+kernel,by decide+kernel⟩
theorem cJ:FnScope ["_law_state_here","_law_most","_law_many","_law_way","_law_ties","_law_row","_law_at","_law_odd"] ["_law_state_here","_law_most"] (aw (top 36)):=⟨rfl,rfl,rfl,by decide+kernel,rfl,by decide+kernel,by decide+kernel⟩
theorem lN:FnScope ["thing","many","ties"] ["thing"] (aw (top 22)):=⟨rfl,rfl,rfl,by decide+kernel,rfl,by decide+kernel,by decide+kernel⟩
theorem cg:FnScope ["_law_state_here","_law_many","_law_way","_law_ties","_law_web_here"] ["_law_state_here"] (aw (top 41)):=⟨rfl,rfl,rfl,by decide+kernel,rfl,by decide+kernel,by decide+kernel⟩
theorem tu:FnScope ["thing"] ["thing"] (aw (top 23)):=⟨rfl,rfl,rfl,by decide+kernel,rfl,by decide+kernel,by decide+kernel⟩
theorem j4:FnScope ["web","many","ties"] ["web"] (aw (top 24)):=⟨rfl,rfl,rfl,by decide+kernel,rfl,by decide+kernel,by decide+kernel⟩
theorem df:FnScope ["web","many","ties","leasts","low","high","kept","gone","heads"] ["web"] (aw (top 25)):=⟨rfl,rfl,rfl,by decide+kernel,rfl,by decide+kernel,by decide+kernel⟩
theorem oj:FnScope ["web"] ["web"] (aw (top 26)):=⟨rfl,rfl,rfl,by decide+kernel,rfl,by decide+kernel,by decide+kernel⟩
theorem rh:FnScope ["_law_found","_law_due_here"] ["_law_found","_law_due_here"] (aw (top 39)):=⟨rfl,rfl,rfl,by decide+kernel,rfl,by decide+kernel,by decide+kernel⟩
theorem mM:FnScope ["web","many","ties","tied"] ["web"] (aw (top 29)):=⟨rfl,rfl,rfl,by decide+kernel,rfl,by decide+kernel,by decide+kernel⟩
theorem bI:FnScope ["_law_call","_law_error","e","_law_marks","_law_found"] ["_law_call"] (aw (top 40)):=⟨rfl,rfl,rfl,by decide+kernel,rfl,by decide+kernel,by decide+kernel⟩
theorem om:FnScope ["_law_script","_law_k","_law_state_here","_law_web_here","_law_bad"] ["_law_script"] (aw (top 44)):=⟨rfl,rfl,rfl,by decide+kernel,rfl,by decide+kernel,by decide+kernel⟩
section
variable {P:eb}{w:ee}{K:dn}{mg:Str->Option a_}{base:fc}
theorem tw{f:cq}{X:fb}(F:Fun K "is_whole" "is_whole" (top 17) f X)(Y:mg "is_whole"=ar (.ref f))(T:Txt K mg):DefX P w K mg base 1 "is_whole" ["thing"] cy:=
 cA (m:=nH) F Y (F.binds fun _ _ _ _ _ _ us U=>match us,U with|[_],_=>rfl) tm rfl fun Z A outer s H E S=>
  aI (aX (iY (gE (Ts:="int") T.b_isinstance T.b_int (ae 0)) (iX (C9 (gE (Ts:="bool") T.b_isinstance T.b_bool (ae 0))))))
end
section
variable {P:eb}{w:ee}{K:dn}{mg:Str->Option a_}{base:fc}
theorem uK{f:cq}{U:fb}(F:Fun K "is_pair" "is_pair" (top 18) f U)(X:mg "is_pair"=ar (.ref f))(T:Txt K mg):DefX P w K mg base 1 "is_pair" ["thing"] cQ:=
 cA (m:=pF) F X (F.binds fun _ _ _ _ _ _ us S=>match us,S with|[_],_=>rfl) uJ rfl fun Z A outer s H E Y=>
  aI (aX (iY (gE (Ts:="tuple") T.b_isinstance T.b_tuple (ae 0)) (iX (nj (cW Y) (fW T.b_len (ae 0)) (aq)))))
end
section
variable {P:eb}{w:ee}{K:dn}{mg:Str->Option a_}{base:fc}
theorem rj{f:cq}{Y:fb}(F:Fun K "is_rising" "is_rising" (top 21) f Y)(Z:mg "is_rising"=ar (.ref f))(T:Txt K mg):DefX P w K mg base 1 "is_rising" ["things"] eo:=
 cA (m:=lY) F Z (F.binds fun _ _ _ _ _ _ us X=>match us,X with|[_],_=>rfl) rf rfl fun U A outer s H E S=>
  aI (aX (t7 rfl T.b_all (aG (cL (t:=fX) (m:=fY) (g6 (Nc:=["ahead","behind"]) (js:=[none,none]) (aw (top 21)) ["things"] (fun _=>rfl) rfl (by decide+kernel)) rfl (vi T.b_zip (ae 0) (aG (rQ (ae 0) (uX (aq)) (uW)))) (fun C ex s2 R=>⟨gC rfl (bC (aO 0 (show(["ahead","behind"]:List Str).Nodup by decide+kernel)) (bC (aO 1 (show(["ahead","behind"]:List Str).Nodup by decide+kernel)) (eU))),d5,BZ (Ff S) (ae 0) (ae 1)⟩)))))
end
section
variable {P:eb}{w:ee}{K:dn}{mg:Str->Option a_}{base:fc}
theorem my{f:cq}{U:fb}(F:Fun K "_law_cell_at" "_law_cell_at" (top 31) f U)(X:mg "_law_cell_at"=ar (.ref f))(T:Txt K mg):DefX P w K mg base 1 "_law_cell_at" ["_law_script","_law_k"] cR:=
 cA (m:=je) F X (F.binds fun _ _ _ _ _ _ us S=>match us,S with|[_,_],_=>rfl) mx rfl fun Z A outer s H E Y=>
  ax (cB (B0 (Ff Y) (ae 1) (fW T.b_len (ae 0))) (aI (aX (aR (ae 0) (ae 1)))) (bJ)) (aI (aX (aq)))
end
section
variable {P:eb}{w:ee}{K:dn}{mg:Str->Option a_}{base:fc}
theorem rk{f:cq}{X:fb}(F:Fun K "_law_take" "_law_take" (top 33) f X)(Y:mg "_law_take"=ar (.ref f))(T:Txt K mg):DefX P w K mg base 1 "_law_take" ["_law_state_here","_law_many"] aD:=
 cA (m:=lZ) F Y (F.binds fun _ _ _ _ _ _ us U=>match us,U with|[_,_],_=>rfl) fP rfl fun Z A outer s H E S=>
  ax (cB (fA (aR (ae 0) (aq))) (ax (br 2 fP.nd (jR (aR (ae 0) (aq)) (ae 1)) (hs:=du)) (ax (jP (qm (aR (ae 0) (aq)) (ae 1)) (u6 (ae 0) (aq))) (aI (aX (ae 2))))) (bJ)) (ax (jP (jR (dR (ni (aR (ae 0) (aq)) (aq)) (aq)) (aq)) (u6 (ae 0) (aq))) (ax (br 3 fP.nd (jR (dR (dR (ni (aR (ae 0) (aq)) (aR (ae 0) (aq))) (ni (aq) (aR (ae 0) (aq)))) (aq)) (aq)) (hs:=du)) (ax (br 3 fP.nd (jR (dR (ni (ae 3) (ae 3)) (ni (aq) (ae 3))) (aq)) (hs:=du)) (aI (aX (jR (qm (ae 3) (aq)) (ae 1)))))))
end
section
variable {P:eb}{w:ee}{K:dn}{mg:Str->Option a_}{base:fc}
theorem oQ{f:cq}{Y:fb}(F:Fun K "_law_pairs" "_law_pairs" (top 34) f Y)(Z:mg "_law_pairs"=ar (.ref f))(T:Txt K mg):DefX P w K mg base 1 "_law_pairs" ["_law_many"] ba:=
 cA (m:=kH) F Z (F.binds fun _ _ _ _ _ _ us X=>match us,X with|[_],_=>rfl) gS rfl fun U A outer s H E S=>
  ax (br 1 gS.nd (bf (au)) (hs:=jv)) (ax (jQ (b:=fC) Jx rfl (dJ T.b_range (ae 0)) (aO 2 gS.nd) (aI (eT (wC (ae 1) (aG (cL (t:=d7) (m:=d8) (g6 (Nc:=["_law_b","_law_a"]) (js:=[none,ar 2]) (aw (top 34)) ["_law_many","_law_found","_law_a"] (fun _=>rfl) rfl (by decide+kernel)) rfl (lz T.b_range (dR (ae 2) (aq)) (ae 0)) (fun C ex s2 R=>⟨aO 0 (show(["_law_b","_law_a"]:List Str).Nodup by decide+kernel),d5,dQ (af (ae 1) (af (ae 0) (au) aF) aF)⟩))))))) (aI (aX (ae 1))))
end
section
variable {P:eb}{w:ee}{K:dn}{mg:Str->Option a_}{base:fc}
theorem oR{f:cq}{Y:fb}(F:Fun K "_law_named" "_law_named" (top 37) f Y)(Z:mg "_law_named"=ar (.ref f))(T:Txt K mg):DefX P w K mg base 1 "_law_named" ["_law_web_here","_law_names"] cf:=
 cA (m:=kI) F Z (F.binds fun _ _ _ _ _ _ us X=>match us,X with|[_,_],_=>rfl) oO rfl fun U A outer s H E S=>
  aI (aX (dQ (af (aR (ae 0) (aq)) (af (fi T.b_tuple (aG (eO T.b_sorted (aG (cL (t:=fD) (m:=fE) (g6 (Nc:=["_law_a","_law_b","_law_names"]) (js:=[none,none,ar 1]) (aw (top 37)) ["_law_web_here","_law_names"] (fun _=>rfl) rfl (by decide+kernel)) rfl (eN (aR (ae 0) (aq))) (fun C ex s2 R=>⟨gC rfl (bC (aO 0 (show(["_law_a","_law_b","_law_names"]:List Str).Nodup by decide+kernel)) (bC (aO 1 (show(["_law_a","_law_b","_law_names"]:List Str).Nodup by decide+kernel)) (eU))),d5,fi T.b_tuple (aG (eO T.b_sorted (aG (bf (af (aR (ae 2) (ae 0)) (af (aR (ae 2) (ae 1)) (au) bp) bp)))))⟩)))))) (au) bz) bp)))
end
section
variable {P:eb}{w:ee}{K:dn}{mg:Str->Option a_}{base:fc}
theorem oq{f:cq}{U:fb}(F:Fun K "_law_joined" "_law_joined" (top 42) f U)(X:mg "_law_joined"=ar (.ref f))(T:Txt K mg):DefX P w K mg base 1 "_law_joined" ["_law_web_here"] da:=
 cA (m:=jG) F X (F.binds fun _ _ _ _ _ _ us S=>match us,S with|[_],_=>rfl) dG rfl fun Y A outer s H E Z=>
  ax (br 1 dG.nd (bf (af (aq) (au) aj)) (hs:=jv)) (ax (jQ (b:=cT) Jx rfl (dJ T.b_range (aR (ae 0) (aq))) (aO 2 dG.nd) (aI (jQ (b:=cS) Jx rfl (eN (aR (ae 0) (aq))) (gC rfl (bC (aO 3 dG.nd) (bC (aO 4 dG.nd) (eU)))) (aI (cB (qj (ll (uV (cW Z) (ae 3) (ae 1)) (jt (rP (cW Z) (ae 4) (ae 1))))) (aI (eT (fR (ae 1) (ae 4)))) (aI (cB (qj (ll (uV (cW Z) (ae 4) (ae 1)) (jt (rP (cW Z) (ae 3) (ae 1))))) (aI (eT (fR (ae 1) (ae 3)))) (bJ)))))))) (aI (aX (E4 (nj (cW Z) (aR (ae 0) (aq)) (aq)) (iX (nj (cW Z) (fW T.b_len (ae 1)) (aR (ae 0) (aq))))))))
end
section
variable {P:eb}{w:ee}{K:dn}{mg:Str->Option a_}{base:fc}
theorem tx{f:cq}{X:fb}(F:Fun K "_law_due" "_law_due" (top 43) f X)(Y:mg "_law_due"=ar (.ref f))(T:Txt K mg):DefX P w K mg base 1 "_law_due" ["_law_web_here"] fZ:=
 cA (m:=nI) F Y (F.binds fun _ _ _ _ _ _ us U=>match us,U with|[_],_=>rfl) mn rfl fun S A outer s H E Z=>
  ax (br 1 mn.nd (aG (eO T.b_sorted (aG (cL (t:=eX) (m:=eY) (g6 (Nc:=["_law_place","_law_web_here"]) (js:=[none,ar 0]) (aw (top 43)) ["_law_web_here","_law_counts"] (fun _=>rfl) rfl (by decide+kernel)) rfl (dJ T.b_range (aR (ae 0) (aq))) (fun C ex s2 R=>⟨aO 0 (show(["_law_place","_law_web_here"]:List Str).Nodup by decide+kernel),d5,fW T.b_len (aG (cL (t:=gH) (m:=gJ) (g6 (Nc:=["_law_tie","_law_place"]) (js:=[none,ar 0]) _ ["_law_place","_law_web_here"] (fun _=>rfl) rfl rfl) rfl (eN (aR (ae 1) (aq))) (fun C ex s2 R=>⟨aO 0 (show(["_law_tie","_law_place"]:List Str).Nodup by decide+kernel),gj (uV (cW Z) (ae 1) (ae 0)),ae 0⟩)))⟩))))) (hs:=cZ)) (ax (cB (fh (cW Z) (ae 1) (aG (bf (by (refine aK (aq) ?_ aj;refine aK (aq) ?_ aj;refine aK (aq) ?_ aj;refine aK (aq) ?_ aj;exact au))))) (aI (aX (bK 6 rfl))) (bJ)) (ax (cB (qj (rL (fh (cW Z) (ae 1) (aG (bf (au)))) (rL (fh (cW Z) (ae 1) (aG (bf (af (aq) (au) aj)))) (tY (fh (cW Z) (ae 1) (aG (dR (aG (bf (af (aq) (af (aq) (au) aj) aj))) (aG (yX (bf (af (aq) (au) aj)) (gD (aR (ae 0) (aq)) (aq))))))))))) (aI (aX (dQ (af (ic) (af (aR (ae 0) (aq)) (au) bp) aj)))) (bJ)) (ax (cB (fh (cW Z) (ae 1) (aG (yX (bf (af (aq) (au) aj)) (aR (ae 0) (aq))))) (aI (aX (dQ (af (ic) (af (aR (ae 0) (aq)) (au) bp) aj)))) (bJ)) (aI (aX (bK 6 rfl))))))
end
section
variable {P:eb}{w:ee}{K:dn}{mg:Str->Option a_}{base:fc}
theorem tD{f:cq}{S:fb}(F:Fun K "is_place" "is_place" (top 19) f S)(U:mg "is_place"=ar (.ref f))(T:Txt K mg)(Z:DefX P w K mg base 1 "is_whole" ["thing"] cy):DefX P w K mg base 2 "is_place" ["many","thing"] eQ:=
 cA (m:=nJ) F U (F.binds fun _ _ _ _ _ _ us R=>match us,R with|[_,_],_=>rfl) tq rfl fun X A outer s H E Y=>
  aI (aX (iY (aN Z (Y.mono (by decide)) (af (ae 1) (au) aF)) (iX (yc xC (xB.or (tR (Ff Y))) (ip fun _ _ _ _=>.bl _) tZ (aq) (ae 1) (ae 0)))))
end
section
variable {P:eb}{w:ee}{K:dn}{mg:Str->Option a_}{base:fc}
theorem oU{f:cq}{S:fb}(F:Fun K "_law_state" "_law_state" (top 32) f S)(U:mg "_law_state"=ar (.ref f))(T:Txt K mg)(Z:DefX P w K mg base 1 "_law_cell_at" ["_law_script","_law_k"] cR):DefX P w K mg base 2 "_law_state" ["_law_script","_law_k"] eA:=
 cA (m:=kJ) F U (F.binds fun _ _ _ _ _ _ us R=>match us,R with|[_,_],_=>rfl) jJ rfl fun Y A outer s H E X=>
  ax (br 2 jJ.nd (aN Z (X.mono (by decide)) (af (ae 0) (af (ae 1) (au) aF) aF)) (hs:=cZ)) (ax (cB (Fb (ae 2) (ya (aq) (aq))) (aI (aX (bf (af (gD (ae 2) (ya (aq) (aq))) (af (iK) (au) aj) ez)))) (bJ)) (aI (aX (bf (af (jR (ae 2) (aq)) (af (iK) (au) aj) ez)))))
end
section
variable {P:eb}{w:ee}{K:dn}{mg:Str->Option a_}{base:fc}
theorem kP{f:cq}{S:fb}(F:Fun K "_law_mixed_row" "_law_mixed_row" (top 35) f S)(U:mg "_law_mixed_row"=ar (.ref f))(T:Txt K mg)(Z:DefX P w K mg base 1 "_law_take" ["_law_state_here","_law_many"] aD):DefX P w K mg base 2 "_law_mixed_row" ["_law_state_here","_law_things"] aZ:=
 cA (m:=dO) F U (F.binds fun _ _ _ _ _ _ us R=>match us,R with|[_,_],_=>rfl) eJ rfl fun X A outer s H E Y=>
  ax (br 2 eJ.nd (AL T.b_list (ae 1)) (hs:=cZ)) (ax (br 3 eJ.nd (bf (au)) (hs:=jv)) (ax (xX (b:=bZ) 64 Jx (nk (cW Y) (ae 2) (aG (bf (au)))) (aI (eT (fR (ae 3) (yq (ae 2) (aG (aN Z (Y.mono (by decide)) (af (ae 0) (af (fW T.b_len (ae 2)) (au) bz) aF)))))))) (aI (aX (ae 3)))))
end
section
variable {P:eb}{w:ee}{K:dn}{mg:Str->Option a_}{base:fc}
theorem mz{f:cq}{R:fb}(F:Fun K "_law_bad_web" "_law_bad_web" (top 38) f R)(S:mg "_law_bad_web"=ar (.ref f))(T:Txt K mg)(Z:DefX P w K mg base 1 "_law_take" ["_law_state_here","_law_many"] aD):DefX P w K mg base 2 "_law_bad_web" ["_law_state_here"] dv:=by
 refine cA (m:=eB) F S (F.binds fun _ _ _ _ _ _ us Q=>match us,Q with|[_],_=>rfl) iO rfl fun Y A outer s H E O=>?_
 have key:∀e pos pos' X,SE (jL (kX P w) P w K mg base ["_law_state_here","_law_some"] "_law_bad_web" (aw (top 38)) f Y A outer s H E).nox ey e X->j3 e (ar (.Name "_law_some" pos')) pos.line (jL (kX P w) P w K mg base ["_law_state_here","_law_some"] "_law_bad_web" (aw (top 38)) f Y A outer s H E).nox.env=aC dr->SS (jL (kX P w) P w K mg base ["_law_state_here","_law_some"] "_law_bad_web" (aw (top 38)) f Y A outer s H E).nox ey (.Assign [.Name "_law_some" pos'] e pos) (bo 1 X):=fun e pos pos' X h hs=>br 1 iO.nd h (hs:=hs);have U:∀pos,SE (jL (kX P w) P w K mg base ["_law_state_here","_law_some"] "_law_bad_web" (aw (top 38)) f Y A outer s H E).nox ey (.Name "_law_some" pos) (mV 1):=fun pos=>ae 1;refine ax ?_ ?_
 ·with_reducible refine key _ _ _ _ ?_ jv
  with_reducible refine bf ?_
  with_reducible refine aK (m9) ?_ aj
  with_reducible refine aK (aq) ?_ aj
  with_reducible refine aK (bK 6 ?_) ?_ aU
  case refine_1=>rfl
  with_reducible refine aK (bK 6 ?_) ?_ aU
  case refine_1=>rfl
  with_reducible refine aK (bK 6 ?_) ?_ aU
  case refine_1=>rfl
  with_reducible refine aK (bK 6 ?_) ?_ aU
  case refine_1=>rfl
  with_reducible refine aK ?_ ?_ aU
  case refine_1=>exact(dQ (af (aq) (af (bf (au)) (au) qA) aj))
  with_reducible refine aK ?_ ?_ qA
  case refine_1=>exact(bf (af (aq) (af (bK 6 rfl) (au) aU) aj))
  with_reducible refine aK (bK 6 ?_) ?_ aU
  case refine_1=>rfl
  with_reducible refine aK (bK 6 ?_) ?_ aU
  case refine_1=>rfl
  with_reducible refine aK (Dj) ?_ AR
  with_reducible refine aK (ic) ?_ aj
  exact au
 refine ax ?_ ?_
 ·with_reducible refine key _ _ _ _ ?_ du
  with_reducible refine dR (U _) ?_
  with_reducible refine bf ?_
  with_reducible refine aK (bK 6 ?_) ?_ aU
  case refine_1=>rfl
  with_reducible refine aK (bK 6 ?_) ?_ aU
  case refine_1=>rfl
  with_reducible refine aK (bK 6 ?_) ?_ aU
  case refine_1=>rfl
  with_reducible refine aK (bK 6 ?_) ?_ aU
  case refine_1=>rfl
  with_reducible refine aK (bK 6 ?_) ?_ aU
  case refine_1=>rfl
  exact au
 refine ax ?_ ?_
 ·with_reducible refine key _ _ _ _ ?_ du
  with_reducible refine dR (U _) ?_
  with_reducible refine bf ?_
  with_reducible refine aK (bK 6 ?_) ?_ aU
  case refine_1=>rfl
  with_reducible refine aK (bK 6 ?_) ?_ aU
  case refine_1=>rfl
  with_reducible refine aK (bK 6 ?_) ?_ aU
  case refine_1=>rfl
  with_reducible refine aK (bK 6 ?_) ?_ aU
  case refine_1=>rfl
  with_reducible refine aK ?_ ?_ aU
  case refine_1=>exact(dQ (af (aq) (af (dQ (af (bf (af (aq) (af (aq) (au) aj) aj)) (au) qA)) (au) aU) aj))
  with_reducible refine aK (bK 6 ?_) ?_ aU
  case refine_1=>rfl
  with_reducible refine aK (bK 6 ?_) ?_ aU
  case refine_1=>rfl
  with_reducible refine aK (bK 6 ?_) ?_ aU
  case refine_1=>rfl
  exact au
 exact(aI (aX (aR (ae 1) (aN Z (O.mono (by decide)) (af (ae 0) (af (aq) (au) aj) aF)))))
end
section
variable {P:eb}{w:ee}{K:dn}{mg:Str->Option a_}{base:fc}
theorem xg{f:cq}{R:fb}(F:Fun K "is_tie" "is_tie" (top 20) f R)(S:mg "is_tie"=ar (.ref f))(T:Txt K mg)(Y:DefX P w K mg base 1 "is_pair" ["thing"] cQ)(Z:DefX P w K mg base 2 "is_place" ["many","thing"] eQ):DefX P w K mg base 3 "is_tie" ["many","thing"] jf:=
 cA (m:=nL) F S (F.binds fun _ _ _ _ _ _ us Q=>match us,Q with|[_,_],_=>rfl) lM rfl fun U A outer s H E X=>
  ax (cB (iZ (fA (aN Y (X.mono (by decide)) (af (ae 1) (au) aF)))) (aI (aX (iK))) (bJ)) (ax (jP (ae 1) (gC rfl (bC (aO 2 lM.nd) (bC (aO 3 lM.nd) (eU))))) (aI (aX (iY (aN Z (X.mono (by decide)) (af (ae 0) (af (ae 2) (au) aF) aF)) (iY (aN Z (X.mono (by decide)) (af (ae 0) (af (ae 3) (au) aF) aF)) (iX (BZ (Ff X) (ae 2) (ae 3))))))))
end
section
variable {P:eb}{w:ee}{K:dn}{mg:Str->Option a_}{base:fc}
theorem tE{f:cq}{Q:fb}(F:Fun K "_law_web" "_law_web" (top 36) f Q)(R:mg "_law_web"=ar (.ref f))(T:Txt K mg)(Z:DefX P w K mg base 1 "_law_take" ["_law_state_here","_law_many"] aD)(Y:DefX P w K mg base 1 "_law_pairs" ["_law_many"] ba)(X:DefX P w K mg base 2 "_law_mixed_row" ["_law_state_here","_law_things"] aZ):DefX P w K mg base 3 "_law_web" ["_law_state_here","_law_most"] dw:=
 cA (m:=iz) F R (F.binds fun _ _ _ _ _ _ us O=>match us,O with|[_,_],_=>rfl) cJ rfl fun N A outer s H E U=>
  ax (br 2 cJ.nd (t5 rfl T.b_max (af (aq) (af (gD (ae 1) (aR (aG (bf (by (refine aK (aq) ?_ aj;refine aK (aq) ?_ aj;refine aK (aq) ?_ aj;refine aK (aq) ?_ aj;refine aK (aq) ?_ aj;refine aK (aq) ?_ aj;refine aK (aq) ?_ aj;refine aK (ae 1) ?_ aF;exact au)))) (aG (aN Z (U.mono (by decide)) (af (ae 0) (af (aq) (au) aj) aF))))) (au) ez) aj)) (hs:=cZ)) (ax (br 3 cJ.nd (aG (aN Z (U.mono (by decide)) (af (ae 0) (af (aq) (au) aj) aF))) (hs:=cZ)) (ax (br 4 cJ.nd (cL (t:=gK) (m:=gL) (g6 (Nc:=["_law_tie","_law_state_here","_law_way"]) (js:=[none,ar 0,ar 3]) (aw (top 36)) ["_law_state_here","_law_most","_law_many","_law_way","_law_ties","_law_row","_law_at","_law_odd"] (fun _=>rfl) rfl (by decide+kernel)) rfl (eN (aG (aN Y (U.mono (by decide)) (af (ae 2) (au) aF)))) (fun C ex s2 S=>⟨aO 0 (show(["_law_tie","_law_state_here","_law_way"]:List Str).Nodup by decide+kernel),gj (B0 (Ff U) (aG (aN Z (U.mono (by decide)) (af (ae 1) (af (aq) (au) aj) aF))) (aR (aG (bf (af (aq) (af (aq) (af (aq) (au) aj) aj) aj))) (jR (ae 2) (aq)))),ae 0⟩))) (ax (br 5 cJ.nd (aG (aN X (U.mono (by decide)) (af (ae 0) (af (aG (iq rfl T.b_list T.b_range (ae 2))) (au) bz) aF))) (hs:=cZ)) (ax (cB (rN (ae 3) (aq)) (ax (br 4 cJ.nd (bf (au)) (hs:=jv)) (ax (jQ (b:=eZ) Jx rfl (lz T.b_range (aq) (ae 2)) (aO 6 cJ.nd) (aI (eT (fR (ae 4) (fi T.b_tuple (aG (eO T.b_sorted (aG (bf (af (aR (ae 5) (ae 6)) (af (aR (ae 5) (aR (aG (bf (by (refine aK (gD (ae 6) (aq)) ?_ ez;refine aK (gD (ae 6) (aq)) ?_ ez;refine aK (aq) ?_ aj;refine aK (qm (ae 6) (aq)) ?_ ez;exact au)))) (gD (ae 3) (aq)))) (au) bp) bp)))))))))) (ax (cB (qj (ll (fh (cW U) (ae 3) (aq)) (jt (rN (ae 2) (aq))))) (aI (eT (fR (ae 4) (fi T.b_tuple (aG (eO T.b_sorted (aG (bf (af (aR (ae 5) (aq)) (af (aR (ae 5) (gD (ae 2) (aq))) (au) bp) bp))))))))) (bJ)) (ax (br 7 cJ.nd (aG (cL (t:=dW) (m:=dX) (g6 (Nc:=["_law_tie","_law_state_here"]) (js:=[none,ar 0]) (aw (top 36)) ["_law_state_here","_law_most","_law_many","_law_way","_law_ties","_law_row","_law_at","_law_odd"] (fun _=>rfl) rfl (by decide+kernel)) rfl (eN (aG (aN Y (U.mono (by decide)) (af (ae 2) (au) aF)))) (fun C ex s2 S=>⟨aO 0 (show(["_law_tie","_law_state_here"]:List Str).Nodup by decide+kernel),gj (fh (cW U) (aG (aN Z (U.mono (by decide)) (af (ae 1) (af (aq) (au) aj) aF))) (aq)),ae 0⟩)))) (aI (br 4 cJ.nd (cL (t:=e9) (m:=fe) (g6 (Nc:=["_law_tie","_law_ties","_law_odd"]) (js:=[none,ar 4,ar 7]) (aw (top 36)) ["_law_state_here","_law_most","_law_many","_law_way","_law_ties","_law_row","_law_at","_law_odd"] (fun _=>rfl) rfl (by decide+kernel)) rfl (eN (aG (aN Y (U.mono (by decide)) (af (ae 2) (au) aF)))) (fun C ex s2 S=>⟨aO 0 (show(["_law_tie","_law_ties","_law_odd"]:List Str).Nodup by decide+kernel),gj (nk (cW U) (B1 (cW U) (ae 0) (ae 1)) (B1 (cW U) (ae 0) (ae 2))),ae 0⟩)))))))) (bJ)) (aI (aX (dQ (af (ae 2) (af (fi T.b_tuple (aG (eO T.b_sorted (ae 4)))) (au) bz) aF))))))))
end
section
variable {P:eb}{w:ee}{K:dn}{mg:Str->Option a_}{base:fc}
theorem xh{f:cq}{Q:fb}(F:Fun K "is_web" "is_web" (top 22) f Q)(R:mg "is_web"=ar (.ref f))(T:Txt K mg)(Y:DefX P w K mg base 1 "is_whole" ["thing"] cy)(X:DefX P w K mg base 1 "is_pair" ["thing"] cQ)(U:DefX P w K mg base 3 "is_tie" ["many","thing"] jf)(Z:DefX P w K mg base 1 "is_rising" ["things"] eo):DefX P w K mg base 4 "is_web" ["thing"] g9:=
 cA (m:=nM) F R (F.binds fun _ _ _ _ _ _ us O=>match us,O with|[_],_=>rfl) lN rfl fun N A outer s H E S=>
  ax (cB (iZ (fA (aG (aN X (S.mono (by decide)) (af (ae 0) (au) aF))))) (aI (aX (iK))) (bJ)) (ax (jP (ae 0) (gC rfl (bC (aO 1 lN.nd) (bC (aO 2 lN.nd) (eU))))) (ax (cB (qj (rL (iZ (fA (aG (aN Y (S.mono (by decide)) (af (ae 1) (au) aF))))) (rL (iZ (yd xC xC (ip fun _ _ _ _=>.bl _) (ip fun _ _ _ _=>.bl _) (aq) (ae 1) (yz rfl T.g_MOST_PLACES))) (tY (iZ (fA (gE (Ts:="tuple") T.b_isinstance T.b_tuple (ae 2)))))))) (aI (aX (iK))) (bJ)) (aI (aX (iY (t7 rfl T.b_all (aG (cL (t:=gq) (m:=gr) (g6 (Nc:=["tie","many"]) (js:=[none,ar 1]) (aw (top 22)) ["thing","many","ties"] (fun _=>rfl) rfl (by decide+kernel)) rfl (eN (ae 2)) (fun C ex s2 L=>⟨aO 0 (show(["tie","many"]:List Str).Nodup by decide+kernel),d5,aG (aN U (S.mono (by decide)) (af (ae 1) (af (ae 0) (au) aF) aF))⟩)))) (iX (aG (aN Z (S.mono (by decide)) (af (ae 2) (au) aF)))))))))
end
section
variable {P:eb}{w:ee}{K:dn}{mg:Str->Option a_}{base:fc}
theorem rl{f:cq}{Q:fb}(F:Fun K "_law_kind" "_law_kind" (top 41) f Q)(R:mg "_law_kind"=ar (.ref f))(T:Txt K mg)(Z:DefX P w K mg base 1 "_law_take" ["_law_state_here","_law_many"] aD)(Y:DefX P w K mg base 2 "_law_mixed_row" ["_law_state_here","_law_things"] aZ)(U:DefX P w K mg base 3 "_law_web" ["_law_state_here","_law_most"] dw)(X:DefX P w K mg base 1 "_law_named" ["_law_web_here","_law_names"] cf):DefX P w K mg base 4 "_law_kind" ["_law_state_here"] bO:=
 cA (m:=gu) F R (F.binds fun _ _ _ _ _ _ us O=>match us,O with|[_],_=>rfl) cg rfl fun N A outer s H E S=>
  ax (br 1 cg.nd (aG (aN Z (S.mono (by decide)) (af (ae 0) (af (aq) (au) aj) aF))) (hs:=cZ)) (ax (br 2 cg.nd (aG (aN Z (S.mono (by decide)) (af (ae 0) (af (aq) (au) aj) aF))) (hs:=cZ)) (ax (cB (fh (cW S) (ae 2) (aq)) (aI (br 1 cg.nd (dR (aq) (aG (aN Z (S.mono (by decide)) (af (ae 0) (af (aq) (au) aj) aF)))) (hs:=du))) (bJ)) (ax (kG (il 3 (t:=dy) (m:=dz) cg.nd (g6 (Nc:=["_law_at"]) (js:=[none]) (aw (top 41)) ["_law_state_here","_law_many","_law_way","_law_ties","_law_web_here"] (fun _=>rfl) rfl (by decide+kernel)) rfl (dJ T.b_range (gD (ae 1) (aq))) (fun C ex s2 L=>⟨aO 0 (show(["_law_at"]:List Str).Nodup by decide+kernel),d5,dQ (af (ae 0) (af (dR (ae 0) (aq)) (au) ez) aF)⟩))) (ax (cB (qj (ll (fh (cW S) (ae 2) (aq)) (jt (rN (ae 1) (aq))))) (aI (br 3 cg.nd (aG (dR (ae 3) (aG (bf (af (dQ (af (aq) (af (gD (ae 1) (aq)) (au) ez) aj)) (au) aU))))) (hs:=du))) (bJ)) (ax (cB (qj (ll (fh (cW S) (ae 2) (aq)) (jt (rN (ae 1) (aq))))) (aI (br 3 cg.nd (aG (dR (aG (rQ (ae 3) (uX (aq)) (uW))) (aG (bf (af (aR (aG (bf (af (bK 6 rfl) (af (dQ (af (aq) (af (gD (ae 1) (aq)) (au) ez) aj)) (au) aU) aU))) (aG (aN Z (S.mono (by decide)) (af (ae 0) (af (aq) (au) aj) aF)))) (au) bp))))) (hs:=du))) (bJ)) (ax (cB (fh (cW S) (ae 2) (aq)) (aI (kG (il 3 (t:=dC) (m:=dD) cg.nd (g6 (Nc:=["_law_at"]) (js:=[none]) (aw (top 41)) ["_law_state_here","_law_many","_law_way","_law_ties","_law_web_here"] (fun _=>rfl) rfl (by decide+kernel)) rfl (lz T.b_range (aq) (ae 1)) (fun C ex s2 L=>⟨aO 0 (show(["_law_at"]:List Str).Nodup by decide+kernel),d5,dQ (af (aq) (af (ae 0) (au) aF) aj)⟩)))) (bJ)) (ax (br 4 cg.nd (aG (aN X (S.mono (by decide)) (af (dQ (af (ae 1) (af (fi T.b_tuple (ae 3)) (au) bz) aF)) (af (aG (aN Y (S.mono (by decide)) (af (ae 0) (af (aG (iq rfl T.b_list T.b_range (ae 1))) (au) bz) aF))) (au) bz) aU))) (hs:=cZ)) (aI (aX (xV (fh (cW S) (ae 2) (aq)) (aG (aN U (S.mono (by decide)) (af (ae 0) (af (aq) (au) aj) aF))) (ae 4)))))))))))
end
section
variable {P:eb}{w:ee}{K:dn}{mg:Str->Option a_}{base:fc}
theorem tF{f:cq}{S:fb}(F:Fun K "need_web" "need_web" (top 23) f S)(U:mg "need_web"=ar (.ref f))(T:Txt K mg)(Z:DefX P w K mg base 4 "is_web" ["thing"] g9):DefX P w K mg base 5 "need_web" ["thing"] c8:=
 kE (m:=nN) F U (F.binds fun _ _ _ _ _ _ us R=>match us,R with|[_],_=>rfl) tu rfl fun Y A outer s H E X=>
  aI (cB (iZ (fA (aG (ft Z (X.mono (by decide)) cG.pass (af (ae 0) (au) aF))))) (aI (sj cG rfl T.err (by decide) (by decide) (af (ic) (au) aj))) (bJ))
end
section
variable {P:eb}{w:ee}{K:dn}{mg:Str->Option a_}{base:fc}
theorem uL{f:cq}{U:fb}(F:Fun K "degrees" "degrees" (top 24) f U)(X:mg "degrees"=ar (.ref f))(T:Txt K mg)(Z:DefX P w K mg base 5 "need_web" ["thing"] c8):DefX P w K mg base 6 "degrees" ["web"] fS:=
 kE (m:=pG) F X (F.binds fun _ _ _ _ _ _ us S=>match us,S with|[_],_=>rfl) j4 rfl fun R A outer s H E Y=>
  ax (eT (aG (ft Z (Y.mono (by decide)) cG.pass (af (ae 0) (au) aF)))) (ax (jP (ae 0) (gC rfl (bC (aO 1 j4.nd) (bC (aO 2 j4.nd) (eU))))) (aI (aX (aG (mH (cL (t:=iF) (m:=iG) (g6 (Nc:=["place","ties"]) (js:=[none,ar 2]) (aw (top 24)) ["web","many","ties"] (fun _=>rfl) rfl (by decide+kernel)) rfl (dJ T.b_range (ae 1)) (fun C ex s2 Q=>⟨aO 0 (show(["place","ties"]:List Str).Nodup by decide+kernel),d5,fW T.b_len (aG (cL (t:=iD) (m:=iE) (g6 (Nc:=["tie","place"]) (js:=[none,ar 0]) _ ["place","ties"] (fun _=>rfl) rfl rfl) rfl (eN (ae 1)) (fun C ex s2 Q=>⟨aO 0 (show(["tie","place"]:List Str).Nodup by decide+kernel),gj (uV (cW Y) (ae 1) (ae 0)),ae 0⟩)))⟩)))))))
end
section
variable {P:eb}{w:ee}{K:dn}{mg:Str->Option a_}{base:fc}
theorem xi{f:cq}{S:fb}(F:Fun K "pieces" "pieces" (top 25) f S)(U:mg "pieces"=ar (.ref f))(T:Txt K mg)(Z:DefX P w K mg base 5 "need_web" ["thing"] c8):DefX P w K mg base 6 "pieces" ["web"] dY:=
 kE (m:=sI) F U (F.binds fun _ _ _ _ _ _ us R=>match us,R with|[_],_=>rfl) df rfl fun Q A outer s H E Y=>
  ax (eT (aG (ft Z (Y.mono (by decide)) cG.pass (af (ae 0) (au) aF)))) (ax (jP (ae 0) (gC rfl (bC (aO 1 df.nd) (bC (aO 2 df.nd) (eU))))) (ax (br 3 df.nd (aG (iq rfl T.b_list T.b_range (ae 1))) (hs:=cZ)) (ax (jQ (b:=fw) cG.ow rfl (eN (ae 2)) (gC rfl (bC (aO 4 df.nd) (bC (aO 5 df.nd) (eU)))) (ax (br 6 df.nd (yh rfl T.b_min (af (aR (ae 3) (ae 4)) (af (aR (ae 3) (ae 5)) (au) bp) bp)) (hs:=cZ)) (ax (br 7 df.nd (t5 rfl T.b_max (af (aR (ae 3) (ae 4)) (af (aR (ae 3) (ae 5)) (au) bp) bp)) (hs:=cZ)) (aI (br 3 df.nd (aG (mH (cL (t:=jg) (m:=jh) (g6 (Nc:=["least","gone","kept"]) (js:=[none,ar 7,ar 6]) (aw (top 25)) ["web","many","ties","leasts","low","high","kept","gone","heads"] (fun _=>rfl) rfl (by decide+kernel)) rfl (eN (ae 3)) (fun C ex s2 X=>⟨aO 0 (show(["least","gone","kept"]:List Str).Nodup by decide+kernel),d5,xV (fh (cW Y) (ae 0) (ae 1)) (ae 2) (ae 0)⟩))))))))) (ax (AW (kG (il 8 (t:=gv) (m:=gw) df.nd (g6 (Nc:=["place","leasts"]) (js:=[none,ar 3]) (aw (top 25)) ["web","many","ties","leasts","low","high","kept","gone","heads"] (fun _=>rfl) rfl (by decide+kernel)) rfl (dJ T.b_range (ae 1)) (fun C ex s2 X=>⟨aO 0 (show(["place","leasts"]:List Str).Nodup by decide+kernel),gj (fh (cW Y) (aR (ae 1) (ae 0)) (ae 0)),ae 0⟩)))) (aI (aX (aG (mH (cL (t:=jk) (m:=jl) (g6 (Nc:=["head","many","leasts"]) (js:=[none,ar 1,ar 3]) (aw (top 25)) ["web","many","ties","leasts","low","high","kept","gone","heads"] (fun _=>rfl) rfl (by decide+kernel)) rfl (eN (ae 8)) (fun C ex s2 X=>⟨aO 0 (show(["head","many","leasts"]:List Str).Nodup by decide+kernel),d5,fi T.b_tuple (aG (cL (t:=ji) (m:=jj) (g6 (Nc:=["place","leasts","head"]) (js:=[none,ar 2,ar 0]) _ ["head","many","leasts"] (fun _=>rfl) rfl rfl) rfl (dJ T.b_range (ae 1)) (fun C ex s2 X=>⟨aO 0 (show(["place","leasts","head"]:List Str).Nodup by decide+kernel),gj (fh (cW Y) (aR (ae 1) (ae 0)) (ae 2)),ae 0⟩)))⟩))))))))))
end
section
variable {P:eb}{w:ee}{K:dn}{mg:Str->Option a_}{base:fc}
theorem ot{f:cq}{S:fb}(F:Fun K "need_joined" "need_joined" (top 26) f S)(U:mg "need_joined"=ar (.ref f))(T:Txt K mg)(Z:DefX P w K mg base 6 "pieces" ["web"] dY):DefX P w K mg base 7 "need_joined" ["web"] de:=
 kE (m:=jH) F U (F.binds fun _ _ _ _ _ _ us R=>match us,R with|[_],_=>rfl) oj rfl fun Y A outer s H E X=>
  aI (cB (rN (fW T.b_len (aG (ft Z (X.mono (by decide)) cG.pass (af (ae 0) (au) aF)))) (aq)) (aI (sj cG rfl T.err (by decide) (by decide) (af (ic) (au) aj))) (bJ))
end
section
variable {P:eb}{w:ee}{K:dn}{mg:Str->Option a_}{base:fc}
theorem oV{j:Nat}{X:List D->M D}{f:cq}{S:fb}(F:Fun K "_law_same" "_law_same" (top 39) f S)(U:mg "_law_same"=ar (.ref f))(T:Txt K mg)(Z:DefX P w K mg base (1+j) "_law_same" ["_law_found","_law_due_here"] X):DefX P w K mg base (1+j+1) "_law_same" ["_law_found","_law_due_here"] (lU 2 2 (cH X)):=
 cA (m:=cH X) F U (F.binds fun _ _ _ _ _ _ us R=>match us,R with|[_,_],_=>rfl) rh rfl fun Q A outer s H E Y=>
  ax (cB (fA (AN (Ts:="tuple") (Us:="list") T.b_isinstance T.b_tuple T.b_list (ae 1))) (ax (cB (qj (rL (nk (cW Y) (gE (Ts:="tuple") T.b_isinstance T.b_tuple (ae 0)) (gE (Ts:="tuple") T.b_isinstance T.b_tuple (ae 1))) (tY (nk (cW Y) (gE (Ts:="list") T.b_isinstance T.b_list (ae 0)) (gE (Ts:="list") T.b_isinstance T.b_list (ae 1)))))) (aI (aX (iK))) (bJ)) (ax (cB (nk (cW Y) (fW T.b_len (ae 0)) (fW T.b_len (ae 1))) (aI (aX (iK))) (bJ)) (aI (aX (t7 rfl T.b_all (aG (cL (t:=f7 X) (m:=f9 X) (g6 (Nc:=["_law_one","_law_other"]) (js:=[none,none]) (aw (top 39)) ["_law_found","_law_due_here"] (fun _=>rfl) rfl (by decide+kernel)) rfl (vi T.b_zip (ae 0) (ae 1)) (fun C ex s2 O=>⟨gC rfl (bC (aO 0 (show(["_law_one","_law_other"]:List Str).Nodup by decide+kernel)) (bC (aO 1 (show(["_law_one","_law_other"]:List Str).Nodup by decide+kernel)) (eU))),d5,aG (aN Z (Y.mono (HN _)) (af (ae 0) (af (ae 1) (au) aF) aF))⟩)))))))) (bJ)) (aI (aX (iY (nj (cW Y) (ae 0) (ae 1)) (iX (nj (cW Y) (gE (Ts:="bool") T.b_isinstance T.b_bool (ae 0)) (gE (Ts:="bool") T.b_isinstance T.b_bool (ae 1)))))))
theorem jK{f:cq}{Y:fb}(F:Fun K "_law_same" "_law_same" (top 39) f Y)(Z:mg "_law_same"=ar (.ref f))(T:Txt K mg):∀n,DefX P w K mg base (1+n) "_law_same" ["_law_found","_law_due_here"] (bN n)
 |0=>DefX.none F Z (F.binds fun _ _ _ _ _ _ us X=>match us,X with|[_,_],_=>rfl)
 |n+1=>oV F Z T (jK F Z T n)
theorem rm{f:cq}{Z:fb}(F:Fun K "_law_same" "_law_same" (top 39) f Z)(Y:mg "_law_same"=ar (.ref f))(T:Txt K mg):DefX P w K mg base 7 "_law_same" ["_law_found","_law_due_here"] dE:=jK F Y T 6
end
section
variable {P:eb}{w:ee}{K:dn}{mg:Str->Option a_}{base:fc}
theorem BO{f:cq}{S:fb}(F:Fun K "fate" "fate" (top 29) f S)(U:mg "fate"=ar (.ref f))(T:Txt K mg)(Y:DefX P w K mg base 6 "degrees" ["web"] fS)(Z:DefX P w K mg base 7 "need_joined" ["web"] de):DefX P w K mg base 8 "fate" ["web"] fF:=
 kE (m:=ux) F U (F.binds fun _ _ _ _ _ _ us R=>match us,R with|[_],_=>rfl) mM rfl fun Q A outer s H E X=>
  ax (eT (aG (ft Z (X.mono (by decide)) cG.pass (af (ae 0) (au) aF)))) (ax (jP (ae 0) (gC rfl (bC (aO 1 mM.nd) (bC (aO 2 mM.nd) (eU))))) (ax (br 3 mM.nd (aG (ft Y (X.mono (by decide)) cG.pass (af (ae 0) (au) aF))) (hs:=cZ)) (ax (cB (DI (ns:=[1,1,1,3]) (cW X) (fi T.b_tuple (aG (eO T.b_sorted (ae 3)))) T.t_DEGREES_OF_THREE_IN_A_STAR) (aI (aX (bK 6 rfl))) (bJ)) (ax (cB (fA (DF rfl T.b_any (aG (mH (cL (t:=hU) (m:=hV) (g6 (Nc:=["number"]) (js:=[none]) (aw (top 29)) ["web","many","ties","tied"] (fun _=>rfl) rfl (by decide+kernel)) rfl (eN (ae 3)) (fun C ex s2 O=>⟨aO 0 (show(["number"]:List Str).Nodup by decide+kernel),d5,E9 (ae 0) (aq)⟩)))))) (aI (aX (bK 6 rfl))) (bJ)) (ax (cB (qj (ll (DG (ae 2)) (jt (fh (cW X) (fW T.b_len (ae 2)) (ae 1))))) (aI (aX (dQ (af (ic) (af (ae 1) (au) aF) aj)))) (bJ)) (aI (aX (dQ (af (ic) (af (ae 1) (au) aF) aj)))))))))
end
section
variable {P:eb}{w:ee}{K:dn}{mg:Str->Option a_}{base:fc}
theorem mB{f:cq}{X:fb}(F:Fun K "_law_refused" "_law_refused" (top 40) f X)(Y:mg "_law_refused"=ar (.ref f))(T:Txt K mg):RefX P w K mg 10 9 "_law_refused" ["_law_call"] bA:=
 DB (m:=eE) F Y (F.binds fun _ _ _ _ _ _ us U=>match us,U with|[_],_=>rfl) bI rfl fun base G a Q ql ds vs R L S A outer s H E Z=>
  ax (br 1 bI.nd (m9) (hs:=sC)) (ax (Dy rfl rfl L (Z.mono (by decide)) bI.nd T.err G rfl (.inl rfl) rfl rfl rfl rfl rfl) (ax (br 3 bI.nd (bf (af (dN T.err (by decide) G T.b_isinstance (ae 1)) (af (dN T.err (by decide) G T.b_isinstance (ae 1)) (af (dN T.err (by decide) G T.b_isinstance (ae 1)) (au) bz) bz) bz)) (hs:=jv)) (ax (br 3 bI.nd (dR (ae 3) (aG (bf (af (dN T.err (by decide) G T.b_isinstance (ae 1)) (af (dN T.err (by decide) G T.b_isinstance (ae 1)) (af (dN T.err (by decide) G T.b_isinstance (ae 1)) (au) bz) bz) bz)))) (hs:=du)) (ax (br 3 bI.nd (dR (ae 3) (aG (bf (af (dN T.err (by decide) G T.b_isinstance (ae 1)) (af (dN T.err (by decide) G T.b_isinstance (ae 1)) (af (dN T.err (by decide) G T.b_isinstance (ae 1)) (au) bz) bz) bz)))) (hs:=du)) (ax (br 3 bI.nd (dR (ae 3) (aG (bf (af (dN T.err (by decide) G T.b_isinstance (ae 1)) (af (dN T.err (by decide) G T.b_isinstance (ae 1)) (af (dN T.err (by decide) G T.b_isinstance (ae 1)) (au) bz) bz) bz)))) (hs:=du)) (ax (eT (fR (ae 3) (dN T.err (by decide) G T.b_isinstance (ae 1)))) (ax (cB (iZ (fA (AZ T.err T.b_isinstance T.b_ValueError (ae 1)))) (aI (aX (m9))) (bJ)) (ax (kG (il 4 (t:=bR) (m:=bS) bI.nd (g6 (Nc:=["_law_k","_law_marks"]) (js:=[none,ar 3]) (aw (top 40)) ["_law_call","_law_error","e","_law_marks","_law_found"] (fun _=>rfl) rfl (by decide+kernel)) rfl (dJ T.b_range (aq)) (fun C ex s2 O=>⟨aO 0 (show(["_law_k","_law_marks"]:List Str).Nodup by decide+kernel),gj (fA (aR (ae 1) (ae 0))),ae 0⟩))) (aI (aX (xV (fh (cW Z) (ae 4) (aG (bf (af (aq) (au) aj)))) (aG (dR (ae 4) (aG (bf (af (Bb T.err T.dk (ae 1)) (af (Bc T.err T.dk (ae 1)) (au) kF) kF))))) (ae 4))))))))))))
end
theorem xj{P:eb}{w:ee}{K:dn}{O:Str->Option a_}{base:fc}{f c q:cq}{u:fb}(F:Fun K "law" "law" (top 44) f u)(T:Txt K O)(G:Mod K O base)(v:BaseL K O base)(TI:qC K)(t:nC K er "law"=ar (ar (.ref f)))(J:j1 K "law"=ar (c,q))(Y:∀base,Mod K O base->DefX P w K O base 8 "fate" ["web"] fF)(R:∀base,Mod K O base->DefX P w K O base 2 "_law_state" ["_law_script","_law_k"] eA)(U:∀base,Mod K O base->DefX P w K O base 2 "_law_bad_web" ["_law_state_here"] dv)(Q:∀base,Mod K O base->DefX P w K O base 7 "_law_same" ["_law_found","_law_due_here"] dE)(Z:RefX P w K O 10 9 "_law_refused" ["_law_call"] bA)(ef:∀f c es,bA f c es=bc c es)(X:∀base,Mod K O base->DefX P w K O base 4 "_law_kind" ["_law_state_here"] bO)(S:∀base,Mod K O base->DefX P w K O base 1 "_law_joined" ["_law_web_here"] da)(N:∀base,Mod K O base->DefX P w K O base 1 "_law_due" ["_law_web_here"] fZ):FnOk P w K O base (kX P w) 11 f u ["_law_script"] (yF K pH):=
 DA (m:=yY) F om rfl t J fun A outer s H E L=>
  ax (jQ (b:=jo) Jx rfl (dJ T.b_range (t5 rfl T.b_max (af (aq) (af (yh rfl T.b_min (af (fW T.b_len (ae 0)) (af (aq) (au) aj) bz)) (au) bz) aj))) (aO 1 om.nd) (ax (br 2 om.nd (aN (R _ G) (L.mono (by decide)) (af (ae 0) (af (ae 1) (au) aF) aF)) (hs:=cZ)) (ax (jQ (b:=jm) Jx rfl (eN (aG (bf (af (aG (aN (X _ G) (L.mono (by decide)) (af (ae 2) (au) aF))) (af (aG (aN (X _ G) (L.mono (by decide)) (af (ae 2) (au) aF))) (au) bz) bz)))) (aO 3 om.nd) (aI (cB (fA (aG (aN (S _ G) (L.mono (by decide)) (af (ae 3) (au) aF)))) (aI (cB (iZ (fA (aG (aN (Q _ G) (L.mono (by decide)) (af (aG (aN (Y _ G) (L.mono (by decide)) (af (ae 3) (au) aF))) (af (aG (aN (N _ G) (L.mono (by decide)) (af (ae 3) (au) aF))) (au) bz) bz))))) (aI (aX (iK))) (bJ))) (aI (cB (nk (cW L) (aG (yL (ql:="law.<locals>.<lambda>") (m:=nO) (xl:="law") Z ef (L.mono (by decide)) (fun _=>rfl) (by decide) J rfl rfl rfl v TI rfl (Fj (N3:=["_law_web_here"]) (js:=[3]) (aw (top 44)) ["_law_script","_law_k","_law_state_here","_law_web_here","_law_bad"] (fun _=>rfl) rfl (by decide+kernel)) (au) (fun _ _ _ _=>rfl) (fun C y f2 r x o I s2 p z B=>aG (ft (Y _ y) (B.mono (by decide)) nE.pass (af (ae 0) (au) aF))))) (aG (bf (af (aq) (au) aj)))) (aI (aX (iK))) (bJ)))))) (ax (br 4 om.nd (aG (aN (U _ G) (L.mono (by decide)) (af (ae 2) (au) aF))) (hs:=cZ)) (aI (cB (nk (cW L) (aG (yL (ql:="law.<locals>.<lambda>") (m:=nP) (xl:="law") Z ef (L.mono (by decide)) (fun _=>rfl) (by decide) J rfl rfl rfl v TI rfl (Fj (N3:=["_law_bad"]) (js:=[4]) (aw (top 44)) ["_law_script","_law_k","_law_state_here","_law_web_here","_law_bad"] (fun _=>rfl) rfl (by decide+kernel)) (au) (fun _ _ _ _=>rfl) (fun C y f2 r x o I s2 p z B=>aG (ft (Y _ y) (B.mono (by decide)) nE.pass (af (ae 0) (au) aF))))) (aG (bf (af (aq) (au) aj)))) (aI (aX (iK))) (bJ))))))) (aI (aX (iY (nj (cW L) (aG (aN (Y _ G) (L.mono (by decide)) (af (bK 6 rfl) (au) aU))) (bK 6 rfl)) (iX (nj (cW L) (aG (aN (Y _ G) (L.mono (by decide)) (af (bK 6 rfl) (au) aU))) (bK 6 rfl))))))
abbrev lP:Program:=PySem.Challenge.rw_tiewebs_k82_fates_told.prog
abbrev kW(w:ee):W.Frag:=KH.K0 w.params
theorem fk{K:dn}{f c:cq}{m:a_}(x q:Str)(Z:mu)(l:K.lookup f=ar ⟨.type "function",none,.func (wd x q (gi Z) (dH Z) (aw Z) .none .none .none m none (.ref c) .none), #[]⟩)(h:H_ K (.ref c) q=b_)(k:u3 K (.ref f)=b_):Fun K x q Z f (wd x q (gi Z) (dH Z) (aw Z) .none .none .none m none (.ref c) .none):=C5 l h k
abbrev nK(w:ee)(x:Str):Option (Option a_):=nC (kW w) er x
theorem HI(w:ee)(Z:Str->Option a_)(fa:cq)(h:fc)(X:(kW w).In h)(G:h.Ns er Z)(c7:Z "law"=ar (.ref fa)):∃fd:fb,(∀(s:c_) (u:a_),w_ s fd ⟨[u],[]⟩ [("_law_script",u)])/\∀base:fc,Mod (kW w) Z base->BaseL (kW w) Z base->FnOk lP w (kW w) Z base (kX lP w) 11 fa fd ["_law_script"] (yF (kW w) pH):=by
 have j:nK w "is_whole"=ar (ar (.ref 197)):=by kernel_rfl
 have a:=@fk (kW w) 197 196 (KH.zs "tiewebs.webs" 426) "is_whole" "is_whole" (top 17) (by kernel_rfl) (by kernel_rfl) (by kernel_rfl)
 have b1:nK w "is_pair"=ar (ar (.ref 204)):=by kernel_rfl
 have i:=@fk (kW w) 204 203 (KH.zs "tiewebs.webs" 426) "is_pair" "is_pair" (top 18) (by kernel_rfl) (by kernel_rfl) (by kernel_rfl)
 have c5:nK w "is_place"=ar (ar (.ref 211)):=by kernel_rfl
 have e6:=@fk (kW w) 211 210 (KH.zs "tiewebs.webs" 426) "is_place" "is_place" (top 19) (by kernel_rfl) (by kernel_rfl) (by kernel_rfl)
 have g:nK w "is_tie"=ar (ar (.ref 218)):=by kernel_rfl
 have d0:=@fk (kW w) 218 217 (KH.zs "tiewebs.webs" 426) "is_tie" "is_tie" (top 20) (by kernel_rfl) (by kernel_rfl) (by kernel_rfl)
 have c6:nK w "is_rising"=ar (ar (.ref 223)):=by kernel_rfl
 have b0:=@fk (kW w) 223 222 (KH.zs "tiewebs.webs" 426) "is_rising" "is_rising" (top 21) (by kernel_rfl) (by kernel_rfl) (by kernel_rfl)
 have f3:nK w "is_web"=ar (ar (.ref 228)):=by kernel_rfl
 have c3:=@fk (kW w) 228 227 (KH.zs "tiewebs.webs" 426) "is_web" "is_web" (top 22) (by kernel_rfl) (by kernel_rfl) (by kernel_rfl)
 have b2:nK w "need_web"=ar (ar (.ref 235)):=by kernel_rfl
 have g5:=@fk (kW w) 235 234 (KH.zs "tiewebs.webs" 426) "need_web" "need_web" (top 23) (by kernel_rfl) (by kernel_rfl) (by kernel_rfl)
 have b:nK w "degrees"=ar (ar (.ref 240)):=by kernel_rfl
 have e1:=@fk (kW w) 240 239 (KH.zs "tiewebs.webs" 426) "degrees" "degrees" (top 24) (by kernel_rfl) (by kernel_rfl) (by kernel_rfl)
 have f:nK w "pieces"=ar (ar (.ref 245)):=by kernel_rfl
 have c4:=@fk (kW w) 245 244 (KH.zs "tiewebs.webs" 426) "pieces" "pieces" (top 25) (by kernel_rfl) (by kernel_rfl) (by kernel_rfl)
 have c1:nK w "need_joined"=ar (ar (.ref 252)):=by kernel_rfl
 have d:=@fk (kW w) 252 251 (KH.zs "tiewebs.webs" 426) "need_joined" "need_joined" (top 26) (by kernel_rfl) (by kernel_rfl) (by kernel_rfl)
 have e0:nK w "fate"=ar (ar (.ref 258)):=by kernel_rfl
 have e3:=@fk (kW w) 258 257 (KH.zs "tiewebs.again" 500) "fate" "fate" (top 29) (by kernel_rfl) (by kernel_rfl) (by kernel_rfl)
 have e2:nK w "_law_cell_at"=ar (ar (.ref 265)):=by kernel_rfl
 have m:=@fk (kW w) 265 264 (KH.zs "law_tiewebs_k82_fates_told" 513) "_law_cell_at" "_law_cell_at" (top 31) (by kernel_rfl) (by kernel_rfl) (by kernel_rfl)
 have a3:nK w "_law_state"=ar (ar (.ref 272)):=by kernel_rfl
 have a6:=@fk (kW w) 272 271 (KH.zs "law_tiewebs_k82_fates_told" 513) "_law_state" "_law_state" (top 32) (by kernel_rfl) (by kernel_rfl) (by kernel_rfl)
 have f6:nK w "_law_take"=ar (ar (.ref 279)):=by kernel_rfl
 have l:=@fk (kW w) 279 278 (KH.zs "law_tiewebs_k82_fates_told" 513) "_law_take" "_law_take" (top 33) (by kernel_rfl) (by kernel_rfl) (by kernel_rfl)
 have c:nK w "_law_pairs"=ar (ar (.ref 284)):=by kernel_rfl
 have c2:=@fk (kW w) 284 283 (KH.zs "law_tiewebs_k82_fates_told" 513) "_law_pairs" "_law_pairs" (top 34) (by kernel_rfl) (by kernel_rfl) (by kernel_rfl)
 have e7:nK w "_law_mixed_row"=ar (ar (.ref 291)):=by kernel_rfl
 have a0:=@fk (kW w) 291 290 (KH.zs "law_tiewebs_k82_fates_told" 513) "_law_mixed_row" "_law_mixed_row" (top 35) (by kernel_rfl) (by kernel_rfl) (by kernel_rfl)
 have g7:nK w "_law_web"=ar (ar (.ref 296)):=by kernel_rfl
 have e5:=@fk (kW w) 296 295 (KH.zs "law_tiewebs_k82_fates_told" 513) "_law_web" "_law_web" (top 36) (by kernel_rfl) (by kernel_rfl) (by kernel_rfl)
 have e4:nK w "_law_named"=ar (ar (.ref 301)):=by kernel_rfl
 have k:=@fk (kW w) 301 300 (KH.zs "law_tiewebs_k82_fates_told" 513) "_law_named" "_law_named" (top 37) (by kernel_rfl) (by kernel_rfl) (by kernel_rfl)
 have d2:nK w "_law_bad_web"=ar (ar (.ref 308)):=by kernel_rfl
 have f5:=@fk (kW w) 308 307 (KH.zs "law_tiewebs_k82_fates_told" 513) "_law_bad_web" "_law_bad_web" (top 38) (by kernel_rfl) (by kernel_rfl) (by kernel_rfl)
 have b6:nK w "_law_same"=ar (ar (.ref 313)):=by kernel_rfl
 have b5:=@fk (kW w) 313 312 (KH.zs "law_tiewebs_k82_fates_told" 513) "_law_same" "_law_same" (top 39) (by kernel_rfl) (by kernel_rfl) (by kernel_rfl)
 have e8:nK w "_law_refused"=ar (ar (.ref 318)):=by kernel_rfl
 have g4:=@fk (kW w) 318 317 (KH.zs "law_tiewebs_k82_fates_told" 513) "_law_refused" "_law_refused" (top 40) (by kernel_rfl) (by kernel_rfl) (by kernel_rfl)
 have b3:nK w "_law_kind"=ar (ar (.ref 323)):=by kernel_rfl
 have d3:=@fk (kW w) 323 322 (KH.zs "law_tiewebs_k82_fates_told" 513) "_law_kind" "_law_kind" (top 41) (by kernel_rfl) (by kernel_rfl) (by kernel_rfl)
 have d1:nK w "_law_joined"=ar (ar (.ref 330)):=by kernel_rfl
 have a5:=@fk (kW w) 330 329 (KH.zs "law_tiewebs_k82_fates_told" 513) "_law_joined" "_law_joined" (top 42) (by kernel_rfl) (by kernel_rfl) (by kernel_rfl)
 have c0:nK w "_law_due"=ar (ar (.ref 335)):=by kernel_rfl
 have a4:=@fk (kW w) 335 334 (KH.zs "law_tiewebs_k82_fates_told" 513) "_law_due" "_law_due" (top 43) (by kernel_rfl) (by kernel_rfl) (by kernel_rfl)
 have n:nK w "law"=ar (ar (.ref 342)):=by kernel_rfl
 have b4:=@fk (kW w) 342 341 (KH.zs "law_tiewebs_k82_fates_told" 513) "law" "law" (top 44) (by kernel_rfl) (by kernel_rfl) (by kernel_rfl)
 obtain⟨⟨ct,Pt⟩,o⟩:=IW.mp (show(j1 (kW w) "law").isSome=b_ by kernel_rfl)
 have e:=c7.symm.trans (Ii X G n);cases e;have T:Txt (kW w) Z:=⟨by kernel_rfl,by kernel_rfl,Iz X G (by kernel_rfl),Iz X G (by kernel_rfl),Iz X G (by kernel_rfl),Iz X G (by kernel_rfl),Iz X G (by kernel_rfl),Iz X G (by kernel_rfl),Iz X G (by kernel_rfl),Iz X G (by kernel_rfl),Iz X G (by kernel_rfl),Iz X G (by kernel_rfl),Iz X G (by kernel_rfl),Iz X G (by kernel_rfl),Iz X G (by kernel_rfl),Iz X G (by kernel_rfl),⟨428,Ii X G (by kernel_rfl)⟩,Fo X G (by kernel_rfl)⟩
 refine⟨wd "law" "law" (gi (top 44)) (dH (top 44)) (aw (top 44)) .none .none .none (KH.zs "law_tiewebs_k82_fates_told" 513) none (.ref 341) .none,fun s v=>.of_eq rfl,fun base GM BL=>?_⟩;have Q:∀base,Mod (kW w) Z base->DefX lP w (kW w) Z base 1 "is_whole" ["thing"] cy:=fun base U=>tw a (Ii X G j) T;have K:∀base,Mod (kW w) Z base->DefX lP w (kW w) Z base 1 "is_pair" ["thing"] cQ:=fun base U=>uK i (Ii X G b1) T;have B:∀base,Mod (kW w) Z base->DefX lP w (kW w) Z base 1 "is_rising" ["things"] eo:=fun base U=>rj b0 (Ii X G c6) T;have N:∀base,Mod (kW w) Z base->DefX lP w (kW w) Z base 1 "_law_cell_at" ["_law_script","_law_k"] cR:=fun base U=>my m (Ii X G e2) T;have Y:∀base,Mod (kW w) Z base->DefX lP w (kW w) Z base 1 "_law_take" ["_law_state_here","_law_many"] aD:=fun base U=>rk l (Ii X G f6) T;have I:∀base,Mod (kW w) Z base->DefX lP w (kW w) Z base 1 "_law_pairs" ["_law_many"] ba:=fun base U=>oQ c2 (Ii X G c) T;have H:∀base,Mod (kW w) Z base->DefX lP w (kW w) Z base 1 "_law_named" ["_law_web_here","_law_names"] cf:=fun base U=>oR k (Ii X G e4) T;have L:∀base,Mod (kW w) Z base->DefX lP w (kW w) Z base 1 "_law_joined" ["_law_web_here"] da:=fun base U=>oq a5 (Ii X G d1) T;have y:∀base,Mod (kW w) Z base->DefX lP w (kW w) Z base 1 "_law_due" ["_law_web_here"] fZ:=fun base U=>tx a4 (Ii X G c0) T;have A:∀base,Mod (kW w) Z base->DefX lP w (kW w) Z base 2 "is_place" ["many","thing"] eQ:=fun base U=>tD e6 (Ii X G c5) T (Q base U);have F:∀base,Mod (kW w) Z base->DefX lP w (kW w) Z base 2 "_law_state" ["_law_script","_law_k"] eA:=fun base U=>oU a6 (Ii X G a3) T (N base U);have S:∀base,Mod (kW w) Z base->DefX lP w (kW w) Z base 2 "_law_mixed_row" ["_law_state_here","_law_things"] aZ:=fun base U=>kP a0 (Ii X G e7) T (Y base U);have P:∀base,Mod (kW w) Z base->DefX lP w (kW w) Z base 2 "_law_bad_web" ["_law_state_here"] dv:=fun base U=>mz f5 (Ii X G d2) T (Y base U);have r:∀base,Mod (kW w) Z base->DefX lP w (kW w) Z base 3 "is_tie" ["many","thing"] jf:=fun base U=>xg d0 (Ii X G g) T (K base U) (A base U);have z:∀base,Mod (kW w) Z base->DefX lP w (kW w) Z base 3 "_law_web" ["_law_state_here","_law_most"] dw:=fun base U=>tE e5 (Ii X G g7) T (Y base U) (I base U) (S base U);have t:∀base,Mod (kW w) Z base->DefX lP w (kW w) Z base 4 "is_web" ["thing"] g9:=fun base U=>xh c3 (Ii X G f3) T (Q base U) (K base U) (r base U) (B base U);have E:∀base,Mod (kW w) Z base->DefX lP w (kW w) Z base 4 "_law_kind" ["_law_state_here"] bO:=fun base U=>rl d3 (Ii X G b3) T (Y base U) (S base U) (z base U) (H base U);have R:∀base,Mod (kW w) Z base->DefX lP w (kW w) Z base 5 "need_web" ["thing"] c8:=fun base U=>tF g5 (Ii X G b2) T (t base U);have x:∀base,Mod (kW w) Z base->DefX lP w (kW w) Z base 6 "degrees" ["web"] fS:=fun base U=>uL e1 (Ii X G b) T (R base U);have q:∀base,Mod (kW w) Z base->DefX lP w (kW w) Z base 6 "pieces" ["web"] dY:=fun base U=>xi c4 (Ii X G f) T (R base U);have J:∀base,Mod (kW w) Z base->DefX lP w (kW w) Z base 7 "need_joined" ["web"] de:=fun base U=>ot d (Ii X G c1) T (q base U);have C:∀base,Mod (kW w) Z base->DefX lP w (kW w) Z base 7 "_law_same" ["_law_found","_law_due_here"] dE:=fun base U=>rm b5 (Ii X G b6) T;have p:∀base,Mod (kW w) Z base->DefX lP w (kW w) Z base 8 "fate" ["web"] fF:=fun base U=>BO e3 (Ii X G e0) T (x base U) (J base U);have O:RefX lP w (kW w) Z 10 9 "_law_refused" ["_law_call"] bA:=mB g4 (Ii X G e8) T;exact xj b4 T GM BL (Dz (show B3 (kW w)=b_ by kernel_rfl)) n o p F P C O ef E L y
end W
section
namespace W
open PySem PySem.Spec PyProof.Rows L2 S3 S4 S7
theorem Ea(K:dn)(H:Hp)(a:cq)(ns:List Int)(T:TabsOk K H)(Z:Ah K H a (ns.map V.int)):yF K pH [.ref a] H (fun v _=>v= .bl b_) fun _ _ _=>False:=by
 obtain⟨d,X,e,hd⟩:=FS (S:=[]) (ns:=ns);refine⟨[],[],[.ro (ns.map D.int)],⟨.nil,rfl,(fun k a xs h=>by cases h),T⟩,.cons (.ro Z (ny ns)) .nil,?_⟩
 refine⟨.ok d,X,e,fun U R _ _=>?_⟩;subst hd;intro v Y;cases Y;rfl
theorem walk{l:LU}{q:eb}{loose:List Str}{XP:(Str->Option a_)->fc->Prop}{YP:ee->fc->Prop}{d:Md}{K:A1->dn}(U:l.most=ar 63)(Y:d.params.defaults=[])
  (X:∀(w:ee) (h:fc),YP w h->(K w.params).In h) (T:∀w:ee,Mb (K w.params)=b_)
  (Z:∀(w:ee) (h:fc),YP w h->∀y∈bX,∀c Q,j1 (K w.params) y=ar (c,Q)->B_ h c Q/\h.get? Q=ar (rA #[]))
  (F:∀(w:ee) (mg:Str->Option a_) (fa:cq) (h:fc),(K w.params).In h->h.Ns er mg->mg d.name=ar (.ref fa)->
   ∃fd:fb,(∀(s:c_) (u:a_),w_ s fd ⟨[u],[]⟩ [("_law_script",u)])/\∀base:fc,Mod (K w.params) mg base->BaseL (K w.params) mg base->FnOk l.prog w (K w.params) mg base (kX l.prog w) 11 fa fd ["_law_script"] (yF (K w.params) pH)):
  Ml q loose XP YP l.row.toRowW d [] (fun f vs=>PySem.call f vs):=
 yM (n:=63) (k:=11) (x:="_law_script") (sp:=fun w=>yF (K w.params) pH) U (by decide) Y ⟨rfl,by decide,by decide⟩ X T Z F fun w H a ns _ S R=>Ea (K w.params) H a ns S R
end W
open PySem PySem.W PyProof.Rows
set_option maxRecDepth 100000 in
set_option maxHeartbeats 0 in
theorem PySem.Challenge.cw_tiewebs_k82_fates_told_holds : PySem.Challenge.rw_tiewebs_k82_fates_told.Holds := by
 w_on;o_law
 refine holds_open (q:=KH.vq) (loose:=[]) (Xt:=KH.Xt0) (XP:=XL KH.vq []) (Yf:=L6 (A3 KH.K0 KH.as0 KH.as0_eq KH.ts0)) (Ya:=L7 (A3 KH.K0 KH.as0 KH.as0_eq KH.ts0)) (YP:=Hook.says (A3 KH.K0 KH.as0 KH.as0_eq KH.ts0)) (N:=7644) KH.left0 (Hook.of (A3 KH.K0 KH.as0 KH.as0_eq KH.ts0)) (Hook.keeps (A3 KH.K0 KH.as0 KH.as0_eq KH.ts0)) (fun s e=>xl_of s (Bool.and_eq_true_iff.mp e).1) XL.keeps (by rfl) (by rfl) (by rfl) (fun s e=>recFacts_of (Bool.and_eq_true_iff.mp e).2) (by rfl) (by first|assumption|decide+kernel) (by decide+kernel) ⟨rfl,rfl,rfl,rfl,rfl,by decide+kernel⟩ ?hw ?hc
 case hw=>w_witness2
 refine W.walk (l:=PySem.Challenge.rw_tiewebs_k82_fates_told) rfl rfl (fun w h Y=>PySem.W.km_in_of Y) ?nt (fun w h Y=>S7.G1 (w:=w) ?ck Y) W.HI
 case nt=>intro w;kernel_rfl
 case ck=>kernel_rfl
end
