import PyProof.Rows.All
import Wide.All
import OpenK.AllK
import Wide.FinOn
import PySem.Challenge.RW_tiewebs_k90_texts_of_webs
import Lean
import PyProof.EqAt
import PyProof.EqKinds
import PyProof.TupleCall
import PyProof.SetScanFacts
import PyProof.EnumMake
import PyProof.Draws
import PyProof.ExcInit
import PyProof.ExcClass3
import PyProof.InstStore
import KE.KUnpack
import PyProof.P3In
import PyProof.StrWalks
import PyProof.MeetsStr2
import PyProof.StrBlockL
import PyProof.StrLawsJoin
import PyProof.FString
import KE.KIntText
import PyProof.StrLawsTight
set_option Elab.async false
set_option compiler.extract_closed false
set_option linter.all false
set_option maxRecDepth 100000
set_option maxHeartbeats 8000000
noncomputable section
open Option renaming some->ar,map_some->z4,bind_some->H_
open PySem renaming Value->aC,Shared->b_,Addr->c_,starEach->d_,wpAny->eb,Program->ee,World->ey,model->eK,Heap->fc,mainGlobals->fg,FuncData->f_,eval->f',Around->gd,compareOp->h9,cellsFrom->ip,importedModules->i0,attributeBase->i1,IsTupleKey->i_,bootBuiltins->j3,SetTable->kr,swapsWith->kT,behindInMarks->k6,rawInt->k8,NameKind->k_,intKind->la,foldedSetIterable->lb,PyData->l_,assignEach->mh,IsPair->m2,Stmt->n_,binaryOp->oo,backTo->p_,builtinsNs->u0,sliceBounds->u2,callerA->u_,cLine->v_,holding->B',codeAny->C_,pyNext->EA,firstArgMember->F0,BindsTo->G2,ofAClassStatement->G3,Params->G4,treeTable->I_,codeAmong->J',checkBuiltinCall->K_,IsZip->K',letOwnedTupleGo->L0,GenState->M5,assign->M8,OsState->Nd,PassesOwn->Nh,leaving->Ni,Arguments->Nj,noteFrame->Nm,wpAny_standAt->Np,seq_tuple_add->Nq,IsPart->Nv,concat_meets->Ny,getItem->Nz,evalEach->NF,lastMarks->NH,seqIndex?->NI,isSubtype->NK,pickOrder->NL,Model->NN,seqIndex_of->NO,hashByValue->NP,wpAny_of_eq->NQ,wpAny_letGo->NR,Keyword->NS,sysModules->NT,wpAny_Name->NU,pyIter->NV,again->NW,bindArgs->NX,bindL->NY,bindC->NZ,closureFor->N0,setsByText->N8,field->N9,ZipApart->N_,TriplesOk->Of,seqItems?->Og,onTheHeap->Oi,standAt->Oj,CmpOp->Ou,entryFor->Oy,slotArgs->Oz,Result->OE,typeOf->OF,DefRec->OG,argsOk->OJ,newExc->OK,setItem->OL,getAttr->OM,newList->OQ,collect->OR
open Pure renaming pure->a_
open Bool renaming true->dr,false->dt,false_eq_true->er,and_eq_true->h_,not_true->y1,or_eq_true->MN,and_false->MT,and_self->Nt
open PySem.W renaming Frag->dV,tabIn->k7,kitOne->n3,kas_place->pb,kas_asc->pz,kas_desc->q_,nsIn->ra,kas_rev->rb,kas_sort->sb,openSeen->u3,openGood->u4,keepIn->u5,tabObj->vr,fnOf->w_,kla_obj->x_,InstAt->y_,findIn->A',boot_heap->D',behindTheImports->Ic,findIn->J_,kmHook->M6,codeIn->M_,CodeHd->Nb,kas_bin->Nl,lookIn->Nx,kas_descPart->NB,kas_count->NJ,methodObj->NM,kitAny->N4,instObj->Ob,OpenLaw->Od,kas_tail3->Oe,mroIn->Oh,findObj->On,excIn->Oo,clsIn->Oq,exmOne->OA,kla_fn->OB,notCls->OC,noTabs->OD,KasT->OH,OpenLaw->ON,WalkO->OO,clsIn->OS,Frag->OT
open PySem.Value renaming ref->eg,none->gg,str->kS,int->ly,bool->p4,type->t_,builtin->y3,float->M7
open PySem.SetTable renaming insertAt->eo,below->s_,fresh->E2,turns->E_,below->Na,runEnd->N5,advance->Om,bits->Ov,turns->Ow
open List renaming range->e_,not_mem_nil->fb,mem_cons->gc,replicate->j1,lookup_cons->j',size_toArray->k',getD_eq_getElem?_getD->l4,length_cons->m_,range'->n7,all_eq_true->wh,length->y',length_nil->A2,toArray->D_,forIn_cons->L_,drop_zero->M',map_cons->Nn,all_cons->Nr
open PySem.NameKind renaming free->g6,cell->m1
open PySem.Builtin.Str renaming occurrences->g8,strSub->j_,strKind->r7
open False renaming elim->g_
open PySem.Str renaming ofString->hI,empty->nC
open PySem.PyData renaming eqv->hO,depthAll->o_,list->z3,eqvAll->H0,int->Nw,strOk->NC
open PySem.Builtin.SmallTypes renaming nextOf->hY,ownedTupleIsFree->j2
open Ne renaming symm->i2
open PySem.Obj renaming mapSeq->k4,mapFields->y2,putSet->LI
open PyProof.Rows renaming IntsAre->lx,seqObj->rn,AllBare->x',envOfC->z_,IsTup->Oa,bubble->OI
open PySem.Builtin.Slice renaming slicePlaces->l6,sliceAdjust->ri
open True renaming intro->mu
open PySem.Builtin.Tuple renaming tupleExact->mv
open PySem.Heap renaming SameBut->oi
open Array renaming replicate->pa,mk->y4,length_toList->B_,getD->N7
open PySem.Builtin.List renaming listTooLong->r_
open ForInStep renaming yield->A_
open ToString renaming toString->EW
open List.Perm renaming cons->E1
open Int renaming toNat_natCast->F_
open PySem.SetTable.layClean renaming free->G_
open Sum renaming inl->Nf,inr->Ng
open PyProof.Rows.IsTup renaming new->Nk
open PySem.Shared renaming TypeIs->Nu
open PySem.W.KasT renaming ret->NA
open PySem.pickOrder renaming go->ND
open Nat renaming succ_mul->NG
open Or renaming inr->N1,inl->Ol
open PySem.SetTable.below renaming go->N6
open LawfulBEq renaming eq_of_beq->Oc
open PySem.W.Hook renaming obs->Os,val->Ot
open PySem.SetTable.probe renaming go->Ox
open ForIn renaming forIn->OP
abbrev Ju:=@PySem.wpAny_bind
abbrev Jv:=@PySem.Heap.get?_push_of_some
abbrev Jw:=@Nat.le_refl
abbrev Jx:=@PySem.wpAny_pure
abbrev Jy:=@List.length_map
abbrev Jz:=@List.getElem?_eq_some_iff
abbrev JA:=@List.length_append
abbrev JB:=@List.getElem?_eq_getElem
abbrev JC:=@PySem.Heap.lt_size
abbrev JD:=@PySem.Heap.get?_push_size
abbrev JE:=@Array.getElem?_eq_getElem
abbrev JF:=@List.mem_cons_of_mem
abbrev JG:=@Nat.le_trans
abbrev JH:=@k'
abbrev JI:=@Nat.lt_of_lt_of_le
abbrev JJ:=@l4
abbrev JK:=@Nat.ne_of_lt
abbrev JL:=@List.mem_cons_self
abbrev JM:=@decide_eq_true
abbrev JN:=@gc
abbrev JO:=@Array.getElem?_eq_some_iff
abbrev JP:=@List.getElem?_map
abbrev JQ:=@Nn
abbrev JR:=@m_
abbrev JS:=@Nat.zero_le
abbrev JT:=@List.append_assoc
abbrev JU:=@wh
abbrev JV:=@List.mem_of_getElem?
abbrev JW:=@Option.some.inj
abbrev JX:=@List.mem_append_right
abbrev JY:=@Array.getElem?_toList
abbrev JZ:=@List.getElem?_append_left
abbrev J0:=@List.mem_range
abbrev J1:=@decide_eq_false
abbrev J2:=@List.map_map
abbrev J3:=@PySem.W.mg_none_of
abbrev J4:=@Array.getD_eq_getD_getElem?
abbrev J5:=@List.getElem?_set_self
abbrev J6:=@PySem.Heap.get?_update_other
abbrev J7:=@j'
abbrev J8:=@List.mem_map
abbrev J9:=@List.filterMap_cons
abbrev Ka:=@PySem.wpAny_newObj_type
abbrev Kb:=@congrFun
abbrev Kc:=@PySem.sizeLine_eq
abbrev Kd:=@PySem.W.kia_one
abbrev Ke:=@decide_eq_true_eq
abbrev Kf:=@List.getElem?_set_ne
abbrev Kg:=@PySem.wpAny_holding
abbrev Kh:=@PySem.wpAny_field
abbrev Ki:=@PySem.Heap.get?_update_self
abbrev Kj:=@List.getElem?_eq_none
abbrev Kk:=@PySem.wpAny_call_entry
abbrev Kl:=@of_decide_eq_true
abbrev Km:=@List.pairwise_cons
abbrev Kn:=@List.append_nil
abbrev Ko:=@List.nodup_cons
abbrev Kq:=@h_
abbrev Kr:=@Option.isSome_iff_exists
abbrev Ks:=@List.length_range
abbrev Kt:=@F_
abbrev Ku:=@PySem.Heap.size_push
abbrev Kv:=@PySem.W.kia_tup
abbrev Kw:=@Array.getElem?_eq_none
abbrev Kx:=@PySem.wpAny_mono
abbrev Ky:=@PySem.wpAny_truthy_bool
abbrev Kz:=@PyProof.Rows.slot_tuple_getitem
abbrev KB:=@PySem.wpAny_setState_of
abbrev KC:=@PySem.Heap.SameBut.update
abbrev KD:=@PySem.wpAny_seqItems
abbrev KF:=@List.mem_filterMap
abbrev KG:=@congrArg
abbrev KI:=@Bool.false_ne_true
abbrev KJ:=@PySem.Obj.data_mapFields
abbrev KL:=@List.getElem_mem
abbrev KM:=@PySem.Heap.get?_none_of_le
abbrev KN:=@Nat.lt_irrefl
abbrev KO:=@Nat.lt_succ_of_lt
abbrev KP:=@PyProof.Rows.callWith_type1
abbrev KQ:=@List.map_append
abbrev KR:=@PySem.F.slot_tuple_iterator_next
abbrev KS:=@Nat.le_of_lt
abbrev KU:=@Nat.ne_of_gt
abbrev KW:=@Int.emod_lt_of_pos
abbrev KY:=@List.getElem?_toArray
abbrev KZ:=@PySem.wpAny_setField_rec
abbrev K1:=@List.cons.inj
abbrev K2:=@PySem.Around.under_plainId
abbrev K3:=@List.mem_append
abbrev K4:=@PySem.wpAny_passesOwn
abbrev K5:=@PySem.mem_of_lookup
abbrev K6:=@B_
abbrev K7:=@PySem.W.mg_of
abbrev K8:=@Nat.le_add_right
abbrev K9:=@H_
abbrev La:=@List.cons_ne_nil
abbrev Lc:=@PySem.wpAny_setField
abbrev Ld:=@PySem.Heap.size_after_update
abbrev Le:=@PySem.wpAny_Call_Name_kw
abbrev Lf:=@PySem.wpAny_execs_nil
abbrev Lg:=@PySem.codeAny_mono
abbrev Lh:=@Int.emod_nonneg
abbrev Li:=@List.mem_iff_getElem?
abbrev Lj:=@PySem.codeAny_builtin
abbrev Lk:=@PySem.Obj.isFreed_of_fields
abbrev Ll:=@List.length_filter_le
abbrev Lm:=@PySem.PassesOwn.never
abbrev Ln:=@List.getElem?_append_right
abbrev Lo:=@List.mem_append_left
abbrev Lp:=@Bool.false_and
abbrev Lq:=@List.getElem?_zip_eq_some
abbrev Lr:=@List.length_take
abbrev Ls:=@PySem.wpAny_askSetting
abbrev Lu:=@PySem.wpAny_isInstance
abbrev Lv:=@Bool.not_eq_true
abbrev Lw:=@List.getElem?_range
abbrev Lx:=@List.Perm.nodup_iff
abbrev Ly:=@PySem.F.args_tuple_add_2
abbrev Lz:=@Nat.le_of_eq
abbrev LA:=@PySem.wpAny_pyIter_tuple
abbrev LB:=@List.of_mem_zip
abbrev LC:=@PySem.F.entry_tuple_add
abbrev LD:=@List.length_set
abbrev LF:=@Array.Perm.refl
abbrev LG:=@PyProof.Rows.F.plain_set_update_loop
abbrev LH:=@PySem.wpAny_attempt
abbrev LJ:=@List.getElem?_take
abbrev LK:=@List.filter_cons_of_pos
abbrev LL:=@List.filter_cons_of_neg
abbrev LM:=@PySem.W.cellsFrom_some
abbrev LN:=@PySem.F.slot_tuple_add
abbrev LP:=@PySem.W.kitx_list
abbrev LQ:=@PySem.W.kitx_dict
abbrev LR:=@Nat.le_succ
abbrev LS:=@PySem.call_meets
abbrev LU:=@Nat.le_of_succ_le
abbrev LV:=@Nat.lt_trichotomy
abbrev LW:=@List.ext_getElem?
abbrev LX:=@Prod.ext
abbrev LY:=@PySem.isSubtype_type
abbrev LZ:=@PySem.wpAny_typeOf
abbrev L3:=@List.map_nil
abbrev L4:=@List.length_singleton
abbrev L5:=@Nat.lt_trans
abbrev L6:=@PySem.builtinLookup_eq_fast
abbrev L7:=@PySem.StrLaws.glued_eq_join
abbrev L8:=@List.set_append_right
abbrev L9:=@PySem.wpAny_forIn_list
abbrev Ma:=@List.length_drop
abbrev Mb:=@Nat.succ_le_succ
abbrev Mc:=@Nat.lt_succ_self
abbrev Md:=@PySem.wpAny_pyIter_zip
abbrev Me:=@PySem.F.slot_str_split
abbrev Mf:=@Array.mem_toList_iff
abbrev Mg:=@PySem.wpAny_updateSeq_pair
abbrev Mh:=@Bool.true_and
abbrev Mi:=@PySem.F.args_tuple_iterator_next_1
abbrev Mj:=@PySem.typeIs_str
abbrev Ml:=@PySem.wpAny_setEntries_of
abbrev Mm:=@PySem.Heap.get?_update_ne
abbrev Mn:=@PySem.F.entry_tuple_iterator_next
abbrev Mo:=@PySem.F.slot_zip_next
abbrev Mp:=@Bool.eq_iff_iff
abbrev Mq:=@PySem.Calls.Name_function_global
abbrev Mr:=@List.length_eraseIdx_of_lt
abbrev Ms:=@PySem.F.excBase_ValueError
abbrev Mt:=@List.zip_cons_cons
abbrev Mu:=@Nat.lt_of_le_of_lt
abbrev Mv:=@List.all_map
abbrev Mw:=@Int.zero_add
abbrev Mx:=@List.getElem?_drop
abbrev My:=@PySem.F.args_str_split_2
abbrev Mz:=@List.length_range'
abbrev MA:=@List.drop_eq_getElem_cons
abbrev MB:=@MT
abbrev MC:=@Classical.byContradiction
abbrev MD:=@List.pairwise_iff_getElem
abbrev ME:=@PySem.isSubtype_stop
abbrev MF:=@PySem.wpAny_letOwnedTupleGo_zip
abbrev MG:=@PySem.wpAny_pyIter_list
abbrev MH:=@PySem.W.kitx_none
abbrev MI:=@PySem.wpAny_call
abbrev MJ:=@List.getElem?_take_of_lt
abbrev MK:=@PyProof.Rows.intsAre_of
abbrev ML:=@PySem.wpAny_rule
abbrev MM:=@Nat.mod_lt
abbrev MO:=@Bool.eq_false_iff
abbrev MP:=@List.mem_range'_1
abbrev MQ:=@Array.getElem?_replicate
abbrev MR:=@PySem.Obj.cls_mapFields
abbrev MS:=@PySem.F.entry_str_split
abbrev MU:=@PySem.plainId_quiet
abbrev MV:=@PySem.wpAny_onRaise
abbrev MW:=@decide_eq_false_iff_not
abbrev MX:=@PySem.wpAny_eqBool_int
abbrev MY:=@PySem.wpAny_execs_cons
abbrev MZ:=@PySem.noFill_tuple_add
abbrev M0:=@Nat.le_of_not_lt
abbrev M1:=@Nat.not_lt_zero
abbrev M3:=@PySem.pushCells_keeps
abbrev M4:=@PySem.typeLookup_type
abbrev M9:=@Nat.not_lt
namespace KH
open PySem PySem.W PySem.Spec PyProof.Rows
def tp(i:Nat):Stmt:=PySem.Challenge.pw_tiewebs_k90_texts_of_webs.main.body.getD i (.Pass ⟨0,0,0,0⟩)
def iC:n_->n_
 | .ClassDef _ _ _ (b::_) .. =>b
 |s=>s
def dA(s:n_):Arguments:=match s with
 | .FunctionDef _ a _ _ _ _ _ _ _ _=>a
 |_=>{posonlyargs:=[],args:=[],vararg:=none,kwonlyargs:=[],kw_defaults:=[],kwarg:=none,defaults:=[]}
def dB(s:n_):List Stmt:=match s with
 | .FunctionDef _ _ b _ _ _ _ _ _ _=>b
 |_=>[]
def dS(s:n_):Scope:=match s with
 | .FunctionDef _ _ _ _ _ _ sc _ _ _=>sc
 |_=>{kind:=.function,names:=[],isGenerator:=dt,isCoroutine:=dt}
def zs(x:String)(t:Nat):Value:=.str (hI x) t
def ze(P:G4)(x:String)(t:Nat)(v:aC):DictEntry:=⟨PyData.keyHash P (hI x),zs x t,v⟩
def zt(xs:Array aC):Obj:=⟨.type "tuple",none,.seq xs, #[]⟩
def zc(n q:String)(a:Nat)(l ac p5 p6 fl:Int)(r8:aC)(p10:Int)(r11 r13 r14 r15:aC)(p16:Int)(t:Nat):Obj:=⟨.type "code",none,.fields #[zs n a,zs q (a+1),zs "/claim/cut.py" (a+2),.int l 0,.int ac 0,.int p5 0,.int p6 0,.int fl 0,r8,.bool dr,.int p10 0,r11,.none,r13,r14,r15,.int p16 0,.int l 0,zs "/claim/cut.py" t], #[]⟩
def zf(n q:String)(st:n_)(kV dc pm:aC)(an:Option c_)(cd ct:aC):Data:=.func (w_ (hI n) (hI q) (dA st) (dB st) (dS st) .none kV dc pm an cd ct)
def zg(n q:String)(st:n_):Obj:=⟨.none,none,.func {name:=hI n,qualname:=hI q,params:=dA st,body:=.stmts (dB st),scope:=dS st,globals:=0,closure:=[],defaults:=.none,kwdefaults:=.none}, #[]⟩
def z0:Obj:=⟨.none,none,.fields #[],#[]⟩
def zp:Obj:=⟨.type "builtin_function_or_method",none,.fields #[.builtin "type.__prepare__",.type "type"],#[]⟩
def zu(a:Nat):Obj:=⟨.type "super",none,.fields #[.ref a,.ref a,.ref a],#[]⟩
def zi(a:Nat):Obj:=⟨.type "builtin_function_or_method",none,.fields #[.builtin "object.__init_subclass__",.ref a],#[]⟩
def zr(a b:Nat)(v:aC):Obj:=⟨.type "frame",none,.plain,#[ar (.ref a),ar (.ref 3),ar (.ref b),none,ar v,none,ar (.ref 0)]⟩
def zk(n:String)(a b c:Nat)(l:Int)(r:Nat)(m:Int)(s:Nat)(x y:Int)(t:Nat):Obj:=⟨.type "code",none,.fields #[zs n a,zs n b,zs "/claim/cut.py" c,.int l 0,.int 0 0,.int 0 0,.int 0 0,.int 0 0,.ref r,.bool dt,.int m 0,.ref s,.none,.none,.none,.none,.int x 0,.int y 0,zs "/claim/cut.py" t],#[]⟩
def zE(n:String)(i x a:Nat)(l ac fl:Int)(md:String)(m t:Nat):List Obj:=[zt #[],z0,zg n n (tp i),zc n n a l ac 0 0 fl (.ref x) 181 (.ref (x+1)) .none .none (.ref (x+2)) t (t+1),⟨.type "function",none,zf n n (tp i) .none .none (zs md m) none (.ref (x+3)) .none,#[]⟩]
def zD(n:String)(i x a:Nat)(l ac fl:Int)(v:Array aC)(md:String)(m t:Nat):List Obj:=[zt #[],z0,zt v,zt #[],zg n n (tp i),zc n n a l ac 0 0 fl (.ref x) 181 (.ref (x+1)) (.ref (x+2)) (.ref (x+3)) (.ref (x+4)) t (t+1),⟨.type "function",none,zf n n (tp i) .none .none (zs md m) none (.ref (x+5)) .none,#[]⟩]
def zC(P:G4)(n:String)(a t l:Nat):List Obj:=[zp,⟨(.type "dict"),none,(.dict #[ze P "__module__" (t+5) (zs "tiewebs.errors" 187),ze P "__qualname__" (t+7) (zs n (t+6)),ze P "__firstlineno__" (t+9) (.int l (t+8)),ze P "__static_attributes__" (t+10) (.ref (a+6))] 4),#[]⟩,zt #[],z0,zk n t (t+1) (t+2) l (a+2) 181 (a+3) (t+3) l (t+4),zr (a+4) (a+1) (zs "tiewebs.errors" 187),zt #[],⟨(.type "dict"),none,(.dict #[ze P "__module__" (t+5) (zs "tiewebs.errors" 187),ze P "__firstlineno__" (t+9) (.int l (t+8)),ze P "__static_attributes__" (t+10) (.ref (a+6)),ze P "__doc__" (t+11) .none] 2),#[]⟩,⟨(.type "type"),none,(.cls ⟨(hI n),[(.ref 24)],[(.ref (a+8)),(.ref 24),(.type "ValueError"),(.type "Exception"),(.type "BaseException"),(.type "object")],(a+7),(hI n),dr,[],[],dt,none,dt⟩),#[ar (.ref (a-1)),none,ar (zs n (t-2)),ar (zs n (t+6)),ar (.builtin "ValueError.__new__"),ar (.bool dr)]⟩,zu (a+8),zi (a+8),zt #[(.ref 24)]]
def ml:String:="law_tiewebs_k90_texts_of_webs"
def L1(P:G4):List Obj:=[boot_o_0 P,boot_o_1 P,boot_o_2 P,⟨(.type "dict"),none,(.dict #[ze P "__name__" 165 (zs ml 515),ze P "__doc__" 166 .none,ze P "__package__" 167 .none,ze P "__loader__" 168 (.builtin "__main__.__loader__#opaque"),ze P "__spec__" 169 .none,ze P "__annotations__" 170 (.ref 6),ze P "__builtins__" 171 (.ref 4),ze P "__file__" 173 (zs "/claim/cut.py" 172),ze P "__cached__" 174 .none,ze P "WebError" 206 (.ref 24),ze P "NoWeb" 222 (.ref 37),ze P "NoPlace" 238 (.ref 49),ze P "NoPlaces" 254 (.ref 61),ze P "NoMap" 270 (.ref 73),ze P "NoSharing" 286 (.ref 85),ze P "NoRoot" 302 (.ref 97),ze P "NoNumber" 318 (.ref 109),ze P "NotJoined" 334 (.ref 121),ze P "NoTie" 350 (.ref 133),ze P "NoText" 366 (.ref 145),ze P "NoLine" 382 (.ref 157),ze P "NoDeed" 398 (.ref 169),ze P "TooGreat" 425 (.ref 188),ze P "MOST_PLACES" 429 (.int 14 428),ze P "is_whole" 436 (.ref 197),ze P "is_pair" 443 (.ref 204),ze P "is_place" 451 (.ref 211),ze P "is_tie" 461 (.ref 218),ze P "is_rising" 467 (.ref 223),ze P "is_web" 473 (.ref 228),ze P "need_web" 480 (.ref 235),ze P "FIGURES" 484 (zs "0123456789" 483),ze P "MOST_FIGURES" 486 (.int 2 485),ze P "read_number" 492 (.ref 240),ze P "read_tie" 502 (.ref 247),ze P "web_text" 508 (.ref 252),ze P "read_web" 514 (.ref 257),ze P "_law_cell_at" 524 (.ref 264),ze P "_law_state" 533 (.ref 271),ze P "_law_take" 543 (.ref 278),ze P "_law_pairs" 549 (.ref 283),ze P "_law_mixed_row" 559 (.ref 290),ze P "_law_web" 565 (.ref 295),ze P "_law_great_web" 577 (.ref 302),ze P "_law_bad_web" 585 (.ref 309),ze P "_law_same" 591 (.ref 314),ze P "_law_refused" 597 (.ref 319),ze P "law" 603 (.ref 324)] 48),#[]⟩,boot_o_4 P,boot_o_5 P,boot_o_6 P,boot_o_7 P,boot_o_8 P,boot_o_9 P,boot_o_10 P,zt #[],⟨.none,none,(.fields #[(.int 2 0),(.int 0 0),(.ref 20),(.int 4 0),(.int 0 0),(.ref 33),(.int 6 0),(.int 0 0),(.ref 45),(.int 8 0),(.int 0 0),(.ref 57),(.int 10 0),(.int 0 0),(.ref 69),(.int 12 0),(.int 0 0),(.ref 81),(.int 14 0),(.int 0 0),(.ref 93),(.int 16 0),(.int 0 0),(.ref 105),(.int 18 0),(.int 0 0),(.ref 117),(.int 20 0),(.int 0 0),(.ref 129),(.int 22 0),(.int 0 0),(.ref 141),(.int 24 0),(.int 0 0),(.ref 153),(.int 26 0),(.int 0 0),(.ref 165),(.int 28 0),(.int 0 0),(.ref 177),(.int 35 0),(.int 0 0),(.ref 196),(.int 37 0),(.int 0 0),(.ref 203),(.int 39 0),(.int 0 0),(.ref 210),(.int 41 0),(.int 0 0),(.ref 217),(.int 46 0),(.int 0 0),(.ref 222),(.int 48 0),(.int 0 0),(.ref 227),(.int 55 0),(.int 0 0),(.ref 234),(.int 61 0),(.int 0 0),(.ref 239),(.int 67 0),(.int 0 0),(.ref 246),(.int 70 0),(.int 0 0),(.ref 251),(.int 74 0),(.int 0 0),(.ref 256),(.int 83 0),(.int 0 0),(.ref 263),(.int 87 0),(.int 0 0),(.ref 270),(.int 92 0),(.int 0 0),(.ref 277),(.int 101 0),(.int 0 0),(.ref 282),(.int 106 0),(.int 0 0),(.ref 289),(.int 112 0),(.int 0 0),(.ref 294),(.int 126 0),(.int 0 0),(.ref 301),(.int 134 0),(.int 0 0),(.ref 308),(.int 139 0),(.int 0 0),(.ref 313),(.int 147 0),(.int 0 0),(.ref 318),(.int 162 0),(.int 0 0),(.ref 323)]),#[]⟩,⟨(.type "code"),none,(.fields #[(zs "<module>" 182),(zs "<module>" 183),(zs "/claim/cut.py" 184),(.int 1 0),(.int 0 0),(.int 0 0),(.int 0 0),(.int 0 0),(.ref 11),(.bool dt),(.int 181 0),(.ref 12),.none,.none,.none,.none,(.int 185 0),(.int 1 0),(zs "/claim/cut.py" 186)]),#[]⟩,zr 13 3 (zs "__main__" 164),zt #[(.type "ValueError")],zp,⟨(.type "dict"),none,(.dict #[ze P "__module__" 196 (zs "tiewebs.errors" 187),ze P "__qualname__" 198 (zs "WebError" 197),ze P "__firstlineno__" 200 (.int 2 199),ze P "__static_attributes__" 201 (.ref 22)] 4),#[]⟩,zt #[],z0,zk "WebError" 191 192 193 2 18 181 19 194 2 195,zr 20 17 (zs "tiewebs.errors" 187),zt #[],⟨(.type "dict"),none,(.dict #[ze P "__module__" 196 (zs "tiewebs.errors" 187),ze P "__firstlineno__" 200 (.int 2 199),ze P "__static_attributes__" 201 (.ref 22),ze P "__weakref__" 203 (.ref 25),ze P "__doc__" 204 .none] 3),#[]⟩,⟨(.type "type"),none,(.cls ⟨(hI "WebError"),[(.type "ValueError")],[(.ref 24),(.type "ValueError"),(.type "Exception"),(.type "BaseException"),(.type "object")],23,(hI "WebError"),dr,[],[(.ref 37),(.ref 49),(.ref 61),(.ref 73),(.ref 85),(.ref 97),(.ref 109),(.ref 121),(.ref 133),(.ref 145),(.ref 157),(.ref 169),(.ref 188)],dt,none,dt⟩),#[ar (.ref 15),none,ar (zs "WebError" 189),ar (zs "WebError" 197),ar (.builtin "ValueError.__new__"),ar (.bool dr)]⟩,⟨(.type "getset_descriptor"),none,(.fields #[(zs "__weakref__" 202),(.ref 24),(.builtin "ExceptionGroup.__weakref__"),.none]),#[]⟩,zu 24,zi 24,zt #[(.ref 24)]]++zC P "NoWeb" 29 209 4++zC P "NoPlace" 41 225 6++zC P "NoPlaces" 53 241 8++zC P "NoMap" 65 257 10++zC P "NoSharing" 77 273 12++zC P "NoRoot" 89 289 14++zC P "NoNumber" 101 305 16++zC P "NotJoined" 113 321 18++zC P "NoTie" 125 337 20++zC P "NoText" 137 353 22++zC P "NoLine" 149 369 24++zC P "NoDeed" 161 385 26++[zp,⟨(.type "dict"),none,(.dict #[ze P "__module__" 406 (zs "tiewebs.errors" 187),ze P "__qualname__" 408 (zs "TooGreat" 407),ze P "__firstlineno__" 410 (.int 28 409),ze P "__init__" 419 (.ref 185),ze P "__static_attributes__" 422 (.ref 186)] 5),#[]⟩,zt #[],⟨.none,none,(.fields #[(.int 30 0),(.int 4 0),(.ref 184)]),#[]⟩,zk "TooGreat" 401 402 403 28 175 181 176 404 28 405,zr 177 174 (zs "tiewebs.errors" 187),zt #[],z0,zt #[(zs "self" 414),(zs "many" 415),(zs "most" 416)],zt #[],zg "__init__" "TooGreat.__init__" (iC (tp 14)),zc "__init__" "TooGreat.__init__" 411 30 3 0 0 3 (.ref 179) 181 (.ref 180) (.ref 181) (.ref 182) (.ref 183) 417 418,⟨.type "function",none,(zf "__init__" "TooGreat.__init__" (iC (tp 14)) .none .none (zs "tiewebs.errors" 187) none (.ref 184) .none),#[]⟩,zt #[(zs "many" 420),(zs "most" 421)],⟨(.type "dict"),none,(.dict #[ze P "__module__" 406 (zs "tiewebs.errors" 187),ze P "__firstlineno__" 410 (.int 28 409),ze P "__init__" 419 (.ref 185),ze P "__static_attributes__" 422 (.ref 186),ze P "__doc__" 423 .none] 2),#[]⟩,⟨(.type "type"),none,(.cls ⟨(hI "TooGreat"),[(.ref 24)],[(.ref 188),(.ref 24),(.type "ValueError"),(.type "Exception"),(.type "BaseException"),(.type "object")],187,(hI "TooGreat"),dr,[],[],dt,none,dt⟩),#[ar (.ref 172),none,ar (zs "TooGreat" 399),ar (zs "TooGreat" 407),ar (.builtin "ValueError.__new__"),ar (.bool dr)]⟩,zu 188,zi 188]++zD "is_whole" 17 191 430 35 1 3 #[zs "thing" 433] "tiewebs.webs" 426 434++zD "is_pair" 18 198 437 37 1 3 #[zs "thing" 440] "tiewebs.webs" 426 441++zD "is_place" 19 205 444 39 2 3 #[zs "many" 447,zs "thing" 448] "tiewebs.webs" 426 449++zD "is_tie" 20 212 452 41 2 3 #[zs "many" 455,zs "thing" 456,zs "low" 457,zs "high" 458] "tiewebs.webs" 426 459++zE "is_rising" 21 219 462 46 1 3 "tiewebs.webs" 426 465++zE "is_web" 22 224 468 48 1 3 "tiewebs.webs" 426 471++zD "need_web" 23 229 474 55 1 3 #[zs "thing" 477] "tiewebs.webs" 426 478++zE "read_number" 27 236 487 61 1 3 "tiewebs.texts" 481 490++zD "read_tie" 28 241 493 67 1 3 #[zs "word" 496,zs "low" 497,zs "sign" 498,zs "high" 499] "tiewebs.texts" 481 500++zE "web_text" 29 248 503 70 1 3 "tiewebs.texts" 481 506++zE "read_web" 30 253 509 74 1 3 "tiewebs.texts" 481 512++zD "_law_cell_at" 32 258 517 83 2 3 #[zs "_law_script" 520,zs "_law_k" 521] ml 515 522++zD "_law_state" 33 265 525 87 2 3 #[zs "_law_script" 528,zs "_law_k" 529,zs "_law_cell" 530] ml 515 531++zD "_law_take" 34 272 534 92 2 3 #[zs "_law_state_here" 537,zs "_law_many" 538,zs "_law_found" 539,zs "_law_stirred" 540] ml 515 541++zE "_law_pairs" 35 279 544 101 1 3 ml 515 547++zD "_law_mixed_row" 36 284 550 106 2 3 #[zs "_law_state_here" 553,zs "_law_things" 554,zs "_law_left" 555,zs "_law_found" 556] ml 515 557++zE "_law_web" 37 291 560 112 2 3 ml 515 563++zD "_law_great_web" 38 296 566 126 1 3 #[zs "_law_state_here" 569,zs "_law_many" 570,zs "_law_ties" 571,zs "_law_turn" 572,zs "_law_one" 573,zs "_law_other" 574] ml 515 575++zD "_law_bad_web" 39 303 578 134 1 3 #[zs "_law_state_here" 581,zs "_law_some" 582] ml 515 583++zE "_law_same" 40 310 586 139 2 3 ml 515 589++zE "_law_refused" 41 315 592 147 1 3 ml 515 595++zE "law" 42 320 598 162 1 3 ml 515 601
def Lb(P:G4):List Obj:=[boot_o_0 P,boot_o_1 P,boot_o_2 P,boot_o_3 P,boot_o_4 P,boot_o_5 P,boot_o_6 P,boot_o_7 P,boot_o_8 P,boot_o_9 P,boot_o_10 P,zt #[],z0,⟨(.type "code"),none,(.fields #[(zs "<module>" 182),(zs "<module>" 183),(zs "/claim/cut.py" 184),(.int 1 0),(.int 0 0),(.int 0 0),(.int 0 0),(.int 0 0),(.ref 11),(.bool dt),(.int 181 0),(.ref 12),.none,.none,.none,.none,(.int 185 0),(.int 1 0),(zs "/claim/cut.py" 186)]),#[]⟩,zr 13 3 (zs "__main__" 164)]
def as0:List Addr:=[2,3,15,22,23,24,25,28,35,36,37,40,47,48,49,52,59,60,61,64,71,72,73,76,83,84,85,88,95,96,97,100,107,108,109,112,119,120,121,124,131,132,133,136,143,144,145,148,155,156,157,160,167,168,169,172,179,181,182,184,185,186,187,188,191,193,194,196,197,198,200,201,203,204,205,207,208,210,211,212,214,215,217,218,219,222,223,224,227,228,229,231,232,234,235,236,239,240,241,243,244,246,247,248,251,252,253,256,257,258,260,261,263,264,265,267,268,270,271,272,274,275,277,278,279,282,283,284,286,287,289,290,291,294,295,296,298,299,301,302,303,305,306,308,309,310,313,314,315,318,319,320,323,324]
def ts0:List Addr:=[321]
def vq:Program:={PySem.Challenge.pw_tiewebs_k90_texts_of_webs with main:={PySem.Challenge.pw_tiewebs_k90_texts_of_webs.main with body:=[tp 1,tp 2,tp 3,tp 4,tp 5,tp 6,tp 7,tp 8,tp 9,tp 10,tp 11,tp 12,tp 13,tp 14,tp 16,tp 17,tp 18,tp 19,tp 20,tp 21,tp 22,tp 23,tp 25,tp 26,tp 27,tp 28,tp 29,tp 30,tp 32,tp 33,tp 34,tp 35,tp 36,tp 37,tp 38,tp 39,tp 40,tp 41,tp 42]}}
def alt:Bool->List Obj->List Obj
 |_,[]=>[]
 |true,a::r=>a::alt dt r
 |false,_::r=>alt dr r
def toT:Nat->List Obj->BT
 |0,_=>.nil
 |_+1,[]=>.nil
 |f+1,o::r=>.node o (toT f (alt dr r)) (toT f (alt dt r))
def pick:Nat->List c_->List Obj->dV
 |i,as,o::os=>match as with
  |a::r=>if Nat.beq i a then (a,o)::pick (i+1) r os else pick (i+1) (a::r) os
  |[]=>[]
 |_,_,[]=>[]
def K0(P:G4):W.Frag:=pick 0 as0 (L1 P)
theorem as0_eq:∀P,as0=(K0 P).map (·.1):=λ_=>by kernel_rfl
abbrev pw:Program:=PySem.Challenge.pw_tiewebs_k90_texts_of_webs
abbrev Xt0(s:b_):Bool:=xlAt vq [] s && recOk (RowW.records (OpenRow.toRowW (OpenLaw.row PySem.Challenge.rw_tiewebs_k90_texts_of_webs))) s
def lf:Life:={}
def en:Env:={scope:=pw.main.scope,locals:=mainNs,globals:=mainNs,cells:=[],code:=(.ref 13),frame:=ar 14}
abbrev cE:Code:=.body (Ic pw) en
abbrev Bf:List Frame:=[topFrame ⟨0,0,0,0⟩]
abbrev S0(w:ey)(os:Nd):Shared:=⟨D' w.params,y4 [],boot_drawn,boot_toks,os⟩
abbrev Sb(w:ey)(os:Nd):SharedT:=⟨toT 12 (Lb w.params),15,lf,y4 [],⟨0,0,0,0⟩,187,os⟩
abbrev Sm(w:ey)(os:Nd):SharedT:=⟨toT 12 (L1 w.params),325,lf,y4 [],⟨0,0,0,0⟩,604,os⟩
abbrev Sf(w:ey)(os:Nd):Shared:=⟨⟨y4 (L1 w.params),lf⟩,y4 [],⟨0,0,0,0⟩,604,os⟩
theorem Hz:∀w,(λos=>topGo I_ pw w 11 (ar (.ref 6)) 12 (S0 w os) (topStub pw))=λos=>ar ((Sb w os).abs,⟨denote I_ cE,cE,⟨0,0,0,0⟩,Bf⟩):=λw=>by kernel_rfl
theorem Dw:∀w,(λos=>segRun I_ pw w 11 (ar (.ref 6)) 1 1 (Sb w os).abs (blockOf (Ic pw) en cE ⟨0,0,0,0⟩ Bf))=λos=>ar (.next,(Sb w os).abs,cE,⟨0,0,0,0⟩):=λw=>by kernel_rfl
theorem FI:∀w,(λos=>segRunT I_ pw w 11 (ar (.ref 6)) 1 3683 (Sb w os) (piecesOf (Ic pw) en cE ⟨0,0,0,0⟩ Bf))=λos=>ar (.next,Sm w os,cE,⟨162,0,172,36⟩):=λw=>by kernel_rfl
theorem HA:∀w,(λos=>topRun I_ pw w 11 (ar (.ref 6)) 2 (Sm w os).abs ⟨doneF .next,cE,⟨162,0,172,36⟩,Bf⟩)=λos=>ar (Sf w os):=λw=>by kernel_rfl
theorem HB(w:ey)(os:Nd):topRun I_ pw w 11 (ar (.ref 6)) (12+(1+(3683+2))) (S0 w os) (topStub pw)=ar (Sf w os):=
 go_top (Kb (Hz w) os) (piece_block (Kb (Dw w) os) (by have:=piece_app (rest:=[]) (segRun_of (Kb (FI w) os)) (piece_nil (Kb (HA w) os));rw[Kn]at this;exact this))
theorem FJ:∀w:ey,((D' w.params).isNs fg && (y4 []:Array M5).size==0,(D' w.params).objs.size,(D' w.params).nsMap fg "__annotations__")=(dr,11,(ar (.ref 6))):=λw=>by kernel_rfl
theorem FK:∀w os,(staticsOk (i0 pw.main.body) (D' w.params) (Sf w os).heap && namesBound pw (Sf w os).heap && gensDone (Sf w os) && laidKept (D' w.params) (Sf w os).heap)=true:=λw os=>by kernel_rfl
theorem HC:∀w os,(u3 vq [] (i0 pw.main.body) Xt0 dr (Sf w os)).1=(u4 vq []).1:=λw os=>by kernel_rfl
theorem HD:∀w os,(u3 vq [] (i0 pw.main.body) Xt0 dr (Sf w os)).2.1=(u4 vq []).2.1:=λw os=>by kernel_rfl
theorem HE:∀w os,(u3 vq [] (i0 pw.main.body) Xt0 dr (Sf w os)).2.2.1=(u4 vq []).2.2.1:=λw os=>by kernel_rfl
theorem HF:∀w os,(u3 vq [] (i0 pw.main.body) Xt0 dr (Sf w os)).2.2.2.1=(u4 vq []).2.2.2.1:=λw os=>by kernel_rfl
theorem HG:∀w os,(u3 vq [] (i0 pw.main.body) Xt0 dr (Sf w os)).2.2.2.2.1=(u4 vq []).2.2.2.2.1:=λw os=>by kernel_rfl
theorem HH:∀w os,(u3 vq [] (i0 pw.main.body) Xt0 dr (Sf w os)).2.2.2.2.2.1=(u4 vq []).2.2.2.2.2.1:=λw os=>by kernel_rfl
theorem HI:∀w os,(u3 vq [] (i0 pw.main.body) Xt0 dr (Sf w os)).2.2.2.2.2.2.1=(u4 vq []).2.2.2.2.2.2.1:=λw os=>by kernel_rfl
theorem HJ:∀w os,(u3 vq [] (i0 pw.main.body) Xt0 dr (Sf w os)).2.2.2.2.2.2.2.1=(u4 vq []).2.2.2.2.2.2.2.1:=λw os=>by kernel_rfl
theorem HK:∀w os,(u3 vq [] (i0 pw.main.body) Xt0 dr (Sf w os)).2.2.2.2.2.2.2.2=(u4 vq []).2.2.2.2.2.2.2.2:=λw os=>by kernel_rfl
theorem FL:∀w os,Os (M6 K0 as0 as0_eq ts0) (Sf w os)=Ot (M6 K0 as0 as0_eq ts0) w:=λw os=>by kernel_rfl
theorem FM(w:ey)(os:Nd):u3 vq [] (i0 pw.main.body) Xt0 dr (Sf w os)=u4 vq []:=LX (HC w os) (LX (HD w os) (LX (HE w os) (LX (HF w os) (LX (HG w os) (LX (HH w os) (LX (HI w os) (LX (HJ w os) (HK w os))))))))
theorem left0:LeftO (OpenLaw.row PySem.Challenge.rw_tiewebs_k90_texts_of_webs).prog vq [] Xt0 (Os (M6 K0 as0 as0_eq ts0)) (Ot (M6 K0 as0 as0_eq ts0)) 7490:=
 LeftO.of_pieces (p:=pw) (H₀:=D') (H₁:=λP=>⟨y4 (L1 P),lf⟩) (gs₀:=y4 []) (gs₁:=y4 []) (d₀:=boot_drawn) (d₁:=⟨0,0,0,0⟩) (k₀:=boot_toks) (k₁:=604) (M:=12+(1+(3683+2))) (boot_open (p:=pw) (by kernel_rfl) (by decide) (λs=>by kernel_rfl)) FJ HB (by decide) λw=>funext λos=>LX (FK w os) (LX (FM w os) (FL w os))
end KH
section
namespace L2
open PySem PySem.Spec PyProof.Rows
abbrev Key:=Sum Int Str
def CU:Key->aC->Bool
 | .inl k,v=>Value.isInt k v
 | .inr x,v=>Value.isStrOf x v
def HL(w:ey):Key->Int
 | .inl k=>hashInt k
 | .inr x=>hashStr w x
theorem bX:∀{k:Key} {v:aC},CU k v=dr->(∃i t,k=Nf i/\v=ly i t)\/(∃x t,k=Ng x/\v=kS x t)
 | .inl i,v,h=>by
  obtain⟨t,e⟩:=Value.isInt_shape (k:=i) (v:=v) h;exact .inl ⟨i,t,rfl,e⟩
 | .inr x,v,h=>by
  obtain⟨t,e⟩:=Value.isStrOf_shape (x:=x) (v:=v) h;exact .inr ⟨x,t,rfl,e⟩
theorem Dx(a b:Int):decide ((Nf a:Key)=Nf b)=(a==b):=by
 by_cases e:a=b
 ·subst e;simp
 ·have h:¬ (Nf a:Key)=Nf b:=λq=>e (Sum.inl.inj q);rw[J1 h];exact(beq_eq_false_iff_ne.mpr e).symm
theorem Dy(a b:Str):decide ((Ng a:Key)=Ng b)=decide (a=b):=by
 by_cases e:a=b
 ·subst e;simp
 ·have h:¬ (Ng a:Key)=Ng b:=λq=>e (Sum.inr.inj q);rw[J1 h,J1 e]
theorem Dz(a:Int)(b:Str):decide ((Nf a:Key)=Ng b)=false:=J1 (λq=>nomatch q)
theorem DA(a:Str)(b:Int):decide ((Ng a:Key)=Nf b)=false:=J1 (λq=>nomatch q)
def vf(prog:ee)(w:ey):PySem.KeyKind prog w Key where
 is:=CU
 hash:=HL w
 inj:=λv a b ha hb=>by
  rcases bX ha with⟨i,t,rfl,rfl⟩|⟨x,t,rfl,rfl⟩
  ·rcases bX hb with⟨j,u,rfl,e⟩|⟨y,u,rfl,e⟩
   ·injection e with e1 _;rw[e1]
   ·exact nomatch e
  ·rcases bX hb with⟨j,u,rfl,e⟩|⟨y,u,rfl,e⟩
   ·exact nomatch e
   ·injection e with e1 _;rw[e1]
 byValue:=λk v h=>by rcases bX h with⟨i,t,rfl,rfl⟩|⟨x,t,rfl,rfl⟩<;>rfl
 pyHash:=λhv h=>by
  rcases bX hv with⟨i,t,rfl,rfl⟩|⟨x,t,rfl,rfl⟩
  ·exact wpAny_pyHash_int h
  ·exact wpAny_pyHash_str h
 eqBool:=λhu hv h=>by
  rcases bX hu with⟨i,t,rfl,rfl⟩|⟨x,t,rfl,rfl⟩
  ·rcases bX hv with⟨j,u,rfl,rfl⟩|⟨y,u,rfl,rfl⟩
   ·rw[Dx]at h;exact MX h
   ·rw[Dz]at h;exact SeqAt.EqAt.int_str i t y u _ _ _ _ h
  ·rcases bX hv with⟨j,u,rfl,rfl⟩|⟨y,u,rfl,rfl⟩
   ·rw[DA]at h;exact SeqAt.EqAt.str_int x t j u _ _ _ _ h
   ·rw[Dy]at h;exact wpAny_eqBool_str h
 «strs»:=λk x t v h=>by
  rcases bX h with⟨i,u,rfl,e⟩|⟨y,u,rfl,e⟩
  ·exact nomatch e
  ·injection e with e1 _;subst e1;cases v<;>rfl
inductive V where
 |non|bl (b:Bool)|int (i:Int)|str (x:Str)|byt (b:Array UInt8)|flt (b:UInt64)|ref (a:c_)|ty (n:String)
 deriving DecidableEq
def RelV:V->aC->Prop
 | .non,u=>u=gg
 | .bl b,u=>u=p4 b
 | .int i,u=>∃t,u=ly i t
 | .str x,u=>∃t,u=kS x t
 | .byt b,u=>∃t,u=Value.bytes b t
 | .flt b,u=>∃t,u=M7 b t
 | .ref a,u=>u=eg a
 | .ty n,u=>u=t_ n
abbrev aX:List V->List aC->Prop:=Paired RelV
theorem aX.length{xs:List V}{us:List aC}(r:aX xs us):xs.length=us.length:=Paired.length r
theorem aX.get:∀{xs:List V} {us:List aC} {i:Nat} {x:V},aX xs us->xs[i]? =ar x->∃u,us[i]? =ar u/\RelV x u
 |_,_,_,_,.nil,e=>by simp at e
 |_,_,0,_,.cons r _,e=>by simp at e;subst e;exact⟨_,rfl,r⟩
 |_,_,i+1,x,.cons _ t,e=>by
  obtain⟨u,Z,Y⟩:=aX.get (i:=i) (x:=x) t (by simpa using e);exact⟨u,by simpa using Z,Y⟩
theorem aX.set{x:V}{u:aC}(r:RelV x u):∀{xs:List V} {us:List aC} (i:Nat),aX xs us->aX (xs.set i x) (us.set i u)
 |_,_,_,.nil=>.nil
 |_,_,0,.cons _ t=>.cons r t
 |_,_,i+1,.cons q t=>.cons q (aX.set r i t)
theorem aX.append:∀{xs ys:List V} {us ws:List aC},aX xs us->aX ys ws->aX (xs++ys) (us++ws)
 |_,_,_,_,.nil,s=>s
 |_,_,_,_,.cons r t,s=>.cons r (aX.append t s)
theorem aX.take:∀{xs:List V} {us:List aC} (n:Nat),aX xs us->aX (xs.take n) (us.take n)
 |_,_,0,_=>.nil
 |_,_,_+1,.nil=>.nil
 |_,_,n+1,.cons r t=>.cons r (aX.take n t)
theorem aX.drop:∀{xs:List V} {us:List aC} (n:Nat),aX xs us->aX (xs.drop n) (us.drop n)
 |_,_,0,r=>r
 |_,_,_+1,.nil=>.nil
 |_,_,n+1,.cons _ t=>aX.drop n t
def rK:Option V->Option aC->Prop
 |some v,ar u=>RelV v u
 |none,none=>True
 |_,_=>False
def KV{κ:Type}:List (κ×V)->List (κ×aC)->Prop:=Paired λ(p:κ×V) (q:κ×aC)=>p.1=q.1/\RelV p.2 q.2
def kV:Key->V
 | .inl i=>.int i
 | .inr x=>.str x
inductive HO where
 |lst (xs:List V)
 |tup (xs:List V)
 |dK (kvs:List (Key×V))|dT (kvs:List (List Key×V))
 |set (S:Int->Bool) (n:Nat)
 |ins (C dx:c_) (fs:List (Str×V))
 |own (x:c_)
 |xd (fs:List (Str×V))
 |met (f x:c_)
 |rng (lo hi:Int)
 |frz (o:Obj) (u:HO)
 |tbl (ps:Array aC)
 |ext (φ:fc->Prop)
abbrev Hp:=c_->Option HO
def upd(H:Hp)(a:c_)(o:HO):Hp:=λb=>if b=a then ar o else H b
theorem aU{H:Hp}{a:c_}{o:HO}:upd H a o a=ar o:=by unfold upd;rw[if_pos rfl]
theorem aG{H:Hp}{a b:c_}{o:HO}(h:b≠a):upd H a o b=H b:=by unfold upd;rw[if_neg h]
theorem aI{H:Hp}{a b:c_}{o:HO}(h:H a=ar o)(h':H b=none):a≠b:=by intro e;subst e;rw[h]at h';cases h'
section
variable (P:ee)(w:ey)
def aW(H:Hp)(h:fc)(a:c_):HO->Prop
 | .lst xs=>xs.length<=sizeLine/\∃(its:List aC) (n:Nat),aX xs its/\h.get? a=ar {cls:=.type "list",data:=.seq its.toArray n}
 | .tup xs=>(xs.length<=sizeLine/\∃o,h.get? a=ar o/\o.dict=none)/\∃its:List aC,aX xs its/\Oa h a its.toArray
 | .dK kvs=>kvs.length<=sizeLine/\(a==NT)=dt/\∃vs,KV kvs vs/\h.DictOf (vf P w) a vs
 | .dT kvs=>kvs.length<=sizeLine/\(a==NT)=dt/\∃xs:List (List Key×c_×aC),
   Paired (λ(p:List Key×V) (q:List Key×c_×aC)=>p.1=q.1/\H q.2.1=ar (.tup (p.1.map kV))/\RelV p.2 q.2.2) kvs xs/\
   ∃o es ep,h.get? a=ar o/\o.ExactDict/\o.data= .dict es ep/\es.toList=xs.map (entryOfKey (tupleKind (vf P w)))/\(xs.map (·.1)).Nodup
 | .set S n=>h.SetOf (la P w) a S n
 | .ins C dx fs=>H dx=ar (.own a)/\fs.length<=1000/\dx≠a/\h.get? a=ar (Ob C dx)/\
   ∃mA,h.Ns1 dx mA/\(∀f,rK (fs.lookup f) (mA f))/\PySem.Within mA (fs.map (·.1))
 | .own _=>∃o,h.get? a=ar o
 | .xd fs=>∃mA,h.Ns1 a mA/\∀f,rK (fs.lookup f) (mA f)
 | .rng lo hi=>∃t u v,h.get? a=ar {cls:=.type "range",data:=.fields #[.int lo t,.int hi u,.int 1 v]}
 | .frz o u=>h.get? a=ar o/\aW H h a u
 | .tbl ps=>h.get? a=ar {cls:=.none,data:=.fields ps}
 | .met f x=>h.get? a=ar (NM (.ref f) (.ref x))
 | .ext φ=>φ h/\(∃o,h.get? a=ar o)/\∀h1 h2:fc,φ h1->(∀o,h1.get? a=ar o->h2.get? a=ar o)->φ h2
theorem kA{h:fc}{xs:List V}{Z:Array aC}(z:xs.length<=sizeLine):xs.length<=sizeLine/\∃o,(h.push {cls:=.type "tuple",data:=.seq Z}).get? h.objs.size=ar o/\o.dict=none:=⟨z,_,JD _ rfl,rfl⟩
def e9(H:Hp)(h:fc):Prop:=∀a o,H a=ar o->aW P w H h a o
end
section
variable {P:ee}{w:ey}{H H':Hp}{h h':fc}{a:c_}{o:HO}
theorem aW.lt(x:aW P w H h a o):a<h.objs.size:=by
 cases o with
 |lst xs=>obtain⟨_,_,_,_,e⟩:=x;exact JC e
 |tup xs=>obtain⟨_,_,_,p⟩:=x;exact p.lt
 |dK kvs=>obtain⟨_,_,_,_,o,_,_,e,_⟩:=x;exact JC e
 |dT kvs=>obtain⟨_,_,_,_,o,_,_,e,_⟩:=x;exact JC e
 |set S n=>obtain⟨o,_,_,_,e,_⟩:=x;exact JC e
 |ins C dx fs=>obtain⟨_,_,_,e,_⟩:=x;exact JC e
 |own y=>obtain⟨_,e⟩:=x;exact JC e
 |xd fs=>obtain⟨_,⟨_,_,_,e,_⟩,_⟩:=x;exact JC e
 |rng lo hi=>obtain⟨_,_,_,e⟩:=x;exact JC e
 |frz ob u=>obtain⟨e,_⟩:=x;exact JC e
 |tbl ps=>exact JC (show h.get? a=ar _ from x)
 |met f y=>exact JC (show h.get? a=ar _ from x)
 |ext φ=>obtain⟨_,⟨_,e⟩,_⟩:=x;exact JC e
theorem Paired.mapP{Y Z:Type}{F G:Y->Z->Prop}:∀{l₁:List Y} {l₂:List Z},Paired F l₁ l₂->(∀a b,F a b->G a b)->Paired G l₁ l₂
 |_,_,.nil,_=>.nil
 |_,_,.cons r t,f=>.cons (f _ _ r) (Paired.mapP t f)
theorem aW.stay(x:aW P w H h a o)(k:∀b u,(b=a\/H b=ar (.own a))->h.get? b=ar u->h'.get? b=ar u)
  (U:∀b,H b=ar (.own a)->H' b=ar (.own a)) (R:∀b xs,H b=ar (.tup xs)->H' b=ar (.tup xs)):aW P w H' h' a o:=by
 induction o with
 |lst xs=>obtain⟨z,its,n,r,e⟩:=x;exact⟨z,its,n,r,k _ _ (.inl rfl) e⟩
 |tup xs=>obtain⟨⟨z,X,Q,T⟩,its,r,Z,e,c⟩:=x;exact⟨⟨z,X,k _ _ (.inl rfl) Q,T⟩,its,r,Z,k _ _ (.inl rfl) e,c⟩
 |dK kvs=>obtain⟨z,y,vs,r,Z,es,ep,e,c⟩:=x;exact⟨z,y,vs,r,Z,es,ep,k _ _ (.inl rfl) e,c⟩
 |dT kvs=>
  obtain⟨z,y,xs,r,Z,es,ep,e,c⟩:=x;exact⟨z,y,xs,Paired.mapP r λp q z=>⟨z.1,R _ _ z.2.1,z.2.2⟩,Z,es,ep,k _ _ (.inl rfl) e,c⟩
 |set S n=>obtain⟨Z,es,ep,t,e,c⟩:=x;exact⟨Z,es,ep,t,k _ _ (.inl rfl) e,c⟩
 |ins C dx fs=>
  obtain⟨d,z,ne,e,Y,⟨od,es,ep,e2,c⟩,r⟩:=x;exact⟨U _ d,z,ne,k _ _ (.inl rfl) e,Y,⟨od,es,ep,k _ _ (.inr d) e2,c⟩,r⟩
 |own y=>obtain⟨Z,e⟩:=x;exact⟨Z,k _ _ (.inl rfl) e⟩
 |xd fs=>obtain⟨Y,⟨od,es,ep,e,c⟩,r⟩:=x;exact⟨Y,⟨od,es,ep,k _ _ (.inl rfl) e,c⟩,r⟩
 |rng lo hi=>obtain⟨t,u,v,e⟩:=x;exact⟨t,u,v,k _ _ (.inl rfl) e⟩
 |frz Z u ih=>obtain⟨e,q⟩:=x;exact⟨k _ _ (.inl rfl) e,ih q⟩
 |tbl ps=>
  have e:h.get? a=ar {cls:=.none,data:=.fields ps}:=x;show h'.get? a=ar {cls:=.none,data:=.fields ps};exact k a _ (.inl rfl) e
 |met f y=>
  have e:h.get? a=ar (NM (.ref f) (.ref y)):=x;show h'.get? a=ar (NM (.ref f) (.ref y));exact k a _ (.inl rfl) e
 |ext φ=>obtain⟨p,⟨o,e⟩,st⟩:=x;exact⟨st _ _ p λo q=>k _ _ (.inl rfl) q,⟨o,k _ _ (.inl rfl) e⟩,st⟩
theorem e9.lt(x:e9 P w H h)(e:H a=ar o):a<h.objs.size:=(x a o e).lt
theorem e9.fresh(x:e9 P w H h)(e:h.objs.size<=a):H a=none:=by
 cases q:H a with
 |none=>rfl
 |some u=>exact absurd (JI (x.lt q) e) (KN _)
theorem e9.kept(x:e9 P w H h)(k:∀b u,h.get? b=ar u->h'.get? b=ar u):e9 P w H h':=λa o e=>
 (x a o e).stay (λb u _ q=>k b u q) (λ_ q=>q) λ_ _ q=>q
theorem e9.laid(x:e9 P w H h)(k:∀b u,h.get? b=ar u->h'.get? b=ar u)(X:h.objs.size<=a)(Z:aW P w (upd H a o) h' a o):e9 P w (upd H a o) h':=λb u e=>by
 have Y:=x.fresh X;by_cases hb:b=a
 ·subst hb;rw[aU]at e;cases e;exact Z
 ·rw[aG hb]at e;exact(x b u e).stay (λc v _ q=>k c v q) (λc q=>by rw[aG (aI q Y)];exact q) λc xs q=>by rw[aG (aI q Y)];exact q
end
def Rd(H:Hp)(a:c_)(u:HO):Prop:=H a=ar u\/∃o,H a=ar (.frz o u)
theorem Rd.ok{P:ee}{w:ey}{H:Hp}{h:fc}{a:c_}{u:HO}(r:Rd H a u)(x:e9 P w H h):aW P w H h a u:=by
 rcases r with r|⟨o,r⟩
 ·exact x a u r
 ·obtain⟨_,q⟩:=x a _ r;exact q
def Hl:Option HO->Prop
 |some (.lst _)=>True
 |some (.dK _)=>True
 |some (.dT _)=>True
 |some (.set _ _)=>True
 |some (.ins _ _ _)=>True
 |some (.ext _)=>True
 |_=>False
section
variable {P:ee}{w:ey}{H:Hp}{h h':fc}{x e:c_}{o':HO}
theorem e9.write(O:e9 P w H h)(X:Hl (H x))(S:e=x\/H e=ar (.own x))(k:∀b u,b≠e->h.get? b=ar u->h'.get? b=ar u)(T:∃u,h'.get? e=ar u)
  (U:aW P w (upd H x o') h' x o'):e9 P w (upd H x o') h':=λb u q=>by
 have Z:∀c y,H c=ar (.own y)->c≠x:=λc y r z=>by subst z;rw[r]at X;exact X
 have Y:∀c xs,H c=ar (.tup xs)->c≠x:=λc xs r z=>by subst z;rw[r]at X;exact X
 by_cases hb:b=x
 ·subst hb;rw[aU]at q;cases q;exact U
 ·rw[aG hb]at q;by_cases hbe:b=e
  ·have R:H b=ar (.own x):=by
    rcases S with z|z
    ·exact absurd (hbe.trans z) hb
    ·rw[hbe];exact z
   rw[q]at R;cases R;obtain⟨v,Q⟩:=T;exact⟨v,by rw[hbe];exact Q⟩
  ·refine(O b u q).stay (λc v W r=>k c v ?_ r) (λc r=>by rw[aG (Z c b r)];exact r) λc xs r=>by rw[aG (Y c xs r)];exact r
   rcases W with rfl|W
   ·exact hbe
   ·rintro rfl;rcases S with z|z
    ·exact Z c b W z
    ·rw[W]at z;cases z;exact hb rfl
end
structure Un(fs ex:List c_)(H H':Hp)(h h':fc):Prop where
 keep:∀b o,h.get? b=ar o->H b=none->b∉fs->b∉ex->h'.get? b=ar o
 slot:∀b o,h.get? b=ar o->H b=none->b∈fs->b∉ex->∃sl,h'.get? b=ar {o with slots:=sl}
 free:∀b o,h.get? b=ar o->H b=none->b∉ex->H' b=none
 there:∀b o,h.get? b=ar o->b∉ex->∃o',h'.get? b=ar o'
 tups:∀b xs,H b=ar (.tup xs)->H' b=ar (.tup xs)
 frzs:∀b o u,H b=ar (.frz o u)->H' b=ar (.frz o u)
 tbls:∀b ps,H b=ar (.tbl ps)->∃more,H' b=ar (.tbl (ps++more))
section
variable {fs fs' ex ex':List c_}{H H1 H2:Hp}{h h1 h2 h':fc}{a x e:c_}{o:HO}
theorem Un.any(u:Un fs ex H H1 h h1){b:c_}{Z:Obj}(q:h.get? b=ar Z)(n:H b=none)(Y:b∉ex):∃sl,h1.get? b=ar {Z with slots:=sl}:=by
 by_cases hb:b∈fs
 ·exact u.slot b Z q n hb Y
 ·exact⟨Z.slots,u.keep b Z q n hb Y⟩
theorem Un.kept(k:∀b u,h.get? b=ar u->h'.get? b=ar u):Un fs ex H H h h':=
 ⟨λb Z q _ _ _=>k b Z q,λb Z q _ _ _=>⟨Z.slots,k b Z q⟩,λ_ _ _ n _=>n,λb Z q _=>⟨Z,k b Z q⟩,λ_ _ q=>q,λ_ _ _ q=>q,λ_ Y q=>⟨#[],by rw[q];simp⟩⟩
theorem Un.refl:Un fs ex H H h h:=Un.kept λ_ _ q=>q
theorem Un.laid(k:∀b u,h.get? b=ar u->h'.get? b=ar u)(Y:h.objs.size<=a)(Z:H a=none):Un fs ex H (upd H a o) h h' where
 keep:=λb u q _ _ _=>k b u q
 slot:=λb u q _ _ _=>⟨u.slots,k b u q⟩
 free:=λb u q n _=>by rw[aG (JK (JI (JC q) Y))];exact n
 there:=λb u q _=>⟨u,k b u q⟩
 tups:=λb xs q=>by rw[aG (aI q Z)];exact q
 frzs:=λb u xs q=>by rw[aG (aI q Z)];exact q
 tbls:=λb X q=>⟨#[],by rw[aG (aI q Z),q];simp⟩
theorem Un.write(Z:Hl (H x))(U:e=x\/H e=ar (.own x))(k:∀b u,b≠e->h.get? b=ar u->h'.get? b=ar u)(Y:∃u,h'.get? e=ar u):Un fs ex H (upd H x o) h h':=by
 have X:∀b,H b=none->b≠x:=λb n z=>by subst z;rw[n]at Z;exact Z
 have W:∀b,H b=none->b≠e:=λb n z=>by
  subst z;rcases U with r|r
  ·exact X b n r
  ·rw[n]at r;cases r
 have hm:∀b u,H b=ar u->¬ Hl (ar u)->b≠x:=λb u q nm z=>by subst z;rw[q]at Z;exact nm Z
 refine⟨λb u q n _ _=>k b u (W b n) q,λb u q n _ _=>⟨u.slots,k b u (W b n) q⟩,λb u q n _=>by rw[aG (X b n)];exact n,λb u q _=>?_,
  λb xs q=>by rw[aG (hm b _ q λz=>z)];exact q,λb u xs q=>by rw[aG (hm b _ q λz=>z)];exact q,λb T q=>⟨#[],by rw[aG (hm b _ q λz=>z),q];simp⟩⟩
 by_cases hbe:b=e
 ·subst hbe;exact Y
 ·exact⟨u,k b u hbe q⟩
end
def Hm(h:fc)(H:Hp):List Addr:=(e_ h.objs.size).filter λa=>(H a).isSome
def i6(h:fc)(H:Hp):Heap:=W.hideAll h (Hm h H)
theorem kB(h:fc)(H:Hp):(i6 h H).objs.size=h.objs.size:=W.hideAll_size _ _
theorem jD{h:fc}{H:Hp}{b:c_}{o:Obj}(e:h.get? b=ar o)(n:H b=none):(i6 h H).get? b=ar o:=
 W.hideAll_get _ e λhm=>by have q:(H b).isSome=true:=(List.mem_filter.mp hm).2;rw[n]at q;simp at q
theorem p8{h:fc}{H:Hp}{b:c_}{o:Obj}(e:(i6 h H).get? b=ar o):h.get? b=ar o/\H b=none:=by
 have Z:h.get? b=ar o:=W.of_hideAll (Hm h H) e;refine⟨Z,?_⟩;cases q:H b with
 |none=>rfl
 |some x=>
  have hm:b∈Hm h H:=List.mem_filter.mpr ⟨J0.mpr (JC Z),by simp[q]⟩;have z:(i6 h H).get? b=none:=W.hideAll_none (Hm h H) hm;rw[z]at e;cases e
def jE(g h:fc)(L:c_):List (c_×Obj):=(e_ h.objs.size).filterMap λa=>if a=L\/(g.get? a).isSome=dr then none else (h.get? a).map λo=>(a,o)
theorem rL{g h:fc}{L a:c_}{o:Obj}(Y:a≠L)(X:g.get? a=none)(Z:h.get? a=ar o):(a,o)∈jE g h L:=
 KF.mpr ⟨a,J0.mpr (JC Z),by simp[Y,X,Z]⟩
theorem mC{g h:fc}{L:c_}{p:c_×Obj}(Z:p∈jE g h L):p.1≠L/\g.get? p.1=none/\h.get? p.1=ar p.2:=by
 obtain⟨b,_,e⟩:=KF.mp Z;split at e
 ·cases e
 ·rename_i hn
  cases q:h.get? b with
  |none=>rw[q]at e;simp at e
  |some u=>
   rw[q]at e;simp only[z4,Option.some.injEq]at e;subst e;refine⟨λz=>hn (.inl z),?_,q⟩;show g.get? b=none;cases r:g.get? b with
   |none=>rfl
   |some v=>exact(hn (.inr (by simp[r]))).elim
def rest(g h:fc)(L d:c_):List (c_×Obj):=(jE g h L).filter λp=>decide (p.1≠d)
theorem mD{g h:fc}{L:c_}:News g L h (jE g h L):=λp Z=>let ⟨a,b,c⟩:=mC Z;⟨c,a,b⟩
structure Mod(K:dV)(mg:Str->Option aC)(base:fc):Prop where
 kin:K.In base
 glob:base.Ns fg mg
 blt:∃mb,base.Ns u0 mb/\∀x:Str,x≠"__name__"->mb x=j3 x
 nolimit:base.NoLimit
structure Cx where
 prog:ee
 w:ey
 K:dV
 mg:Str->Option aC
 base:fc
 A:gd
 N:List Str
 s₀:b_
 H₀:Hp
 env:Env
 outer:List Env
 stack:List Env
 ex:List c_
 fn:Str->Bool
 calm:Bool
 pn:List (c_×Obj)
 xe:aC->b_->Prop
def iq(l:List Env):List Addr:=l.filterMap (·.frame)
abbrev Cx.fs(X:Cx):List Addr:=iq X.outer
def CV(sc:Scope)(x:Str):Prop:=sc.names.lookup x=ar .local\/sc.names.lookup x=ar .cell\/sc.names.lookup x=ar .free
def Loc(sc:Scope)(x:Str):Prop:=sc.names.lookup x=ar .local\/sc.names.lookup x=ar .cell
def Look(env:Env)(h:fc)(m:Str->Option aC)(x:Str)(u:aC):Prop:=
 (env.kindOf x=ar .local/\m x=ar u)\/((env.kindOf x=ar .cell\/env.kindOf x=ar .free)/\∃c,env.cells.lookup x=ar c/\h.IsCell c (ar u))
structure Cx.Ok(X:Cx):Prop where
 mod:Mod X.K X.mg X.base
 kind:X.env.scope.kind= .function
 glob:X.env.globals=fg
 blt:X.env.builtins=u0
 above:X.s₀.heap.objs.size<=X.env.locals
 inj:∀x y c,X.env.cells.lookup x=ar c->X.env.cells.lookup y=ar c->x=y
 has:∀x,(X.env.kindOf x=ar .cell\/X.env.kindOf x=ar .free)->∃c,X.env.cells.lookup x=ar c
 cab:∀x c,X.fn x=dr->X.env.cells.lookup x=ar c->X.s₀.heap.objs.size<=c
 hd:X.calm=dr->X.A.handled=none
 frames:X.A.frames=ar X.stack
 stk:X.stack=X.outer\/(X.stack=X.env::X.outer/\X.env.frame=ar X.env.locals)
 exf:∀b∈X.ex,b≠X.env.locals/\∀x c,X.env.cells.lookup x=ar c->c≠b
 bs:∀b o,X.base.get? b=ar o->X.s₀.heap.get? b=ar o/\X.H₀ b=none
 bsz:X.base.objs.size<=X.s₀.heap.objs.size
 noex:∀b o,X.base.get? b=ar o->b∉X.ex
 exfs:∀b∈X.ex,b∉X.fs
 funs:X.s₀.heap.FunFrames X.base X.outer
 frf:∀b∈X.fs,X.H₀ b=none
structure Inv(X:Cx)(pins:List (c_×Obj))(σ:List (Option V))(H:Hp)(s:b_):Prop where
 ok:X.Ok
 os:s.os=X.s₀.os
 bare:x' s.gens
 base:Un X.fs X.ex X.H₀ H X.s₀.heap s.heap
 loc:∃m,s.heap.Ns X.env.locals m/\∀(i:Nat) (x:Str) (v:V),X.N[i]? =ar x->σ[i]? =ar (ar v)->CV X.env.scope x->∃u,RelV v u/\Look X.env s.heap m x u
 cell:∀x c,X.env.cells.lookup x=ar c->∃v,s.heap.IsCell c v
 free:H X.env.locals=none
 freeC:∀x c,X.env.cells.lookup x=ar c->H c=none
 pin:∀p∈X.pn++pins,s.heap.get? p.1=ar p.2/\H p.1=none/\p.1≠X.env.locals/\p.1∉X.fs/\∀v,p.2.data≠ .cell v
 hok:e9 X.prog X.w H s.heap
 len:σ.length=X.N.length
section
variable {X:Cx}{pins:List (c_×Obj)}{σ:List (Option V)}{H H':Hp}{s:b_}{h':fc}
theorem Cx.Ok.nofr(Y:X.Ok){b:c_}{o:Obj}(e:X.base.get? b=ar o):b∉X.fs:=λZ=>by have:=(Y.funs.mem Z).1;rw[e]at this;cases this
theorem Inv.bs(I:Inv X pins σ H s):∀b o,X.base.get? b=ar o->s.heap.get? b=ar o/\H b=none:=λb o e=>
 ⟨I.base.keep b o (I.ok.bs b o e).1 (I.ok.bs b o e).2 (I.ok.nofr e) (I.ok.noex b o e),I.base.free b o (I.ok.bs b o e).1 (I.ok.bs b o e).2 (I.ok.noex b o e)⟩
theorem Inv.bk(I:Inv X pins σ H s):∀b o,X.base.get? b=ar o->s.heap.get? b=ar o:=λb o e=>(I.bs b o e).1
theorem Inv.mod(I:Inv X pins σ H s):Mod X.K X.mg X.base:=I.ok.mod
theorem Inv.kIn(I:Inv X pins σ H s):X.K.In s.heap:=I.ok.mod.kin.keeps I.bk
theorem Inv.fr(I:Inv X pins σ H s):∃m,Fr X.base X.env.locals s.heap m:=
 let ⟨m,hn,_⟩:=I.loc
 ⟨m,hn,I.bk,JG I.ok.bsz I.ok.above⟩
theorem Inv.lt(I:Inv X pins σ H s):X.env.locals<s.heap.objs.size:=let ⟨_,hn,_⟩:=I.loc;hn.lt
theorem Inv.sz(I:Inv X pins σ H s):X.s₀.heap.objs.size<=s.heap.objs.size:=JG I.ok.above (KS I.lt)
theorem Inv.nofs(I:Inv X pins σ H s){a:c_}(h:s.heap.objs.size<=a):a∉X.fs:=λZ=>by obtain⟨_,o,Y,_⟩:=I.ok.funs.mem Z;exact absurd (JI (JC Y) (JG I.sz h)) (KN _)
theorem Inv.cne(I:Inv X pins σ H s):∀x c,X.env.cells.lookup x=ar c->c≠X.env.locals:=λx c e z=>by obtain⟨v,o,W,hd⟩:=I.cell x c e;obtain⟨m,⟨U,es,ep,Y,Z,_⟩,_⟩:=I.loc;rw[z,Y]at W;cases W;rw[Z]at hd;cases hd
theorem Inv.funs(I:Inv X pins σ H s):s.heap.FunFrames X.base X.outer:=by
 have all:∀(l:List Env),(∀b∈iq l,b∈X.fs)->X.s₀.heap.FunFrames X.base l->s.heap.FunFrames X.base l:=by
  intro l
  induction l with
  |nil=>intro _ _;trivial
  |cons env r ih=>
   intro hs U;obtain⟨S,⟨L,o,hf,W,T,hd⟩,R⟩:=U;have Z:L∈X.fs:=hs L (by unfold iq;rw[J9,hf];exact JL);obtain⟨Q,e⟩:=I.base.slot L o T (I.ok.frf L Z) Z λz=>I.ok.exfs L z Z;exact⟨S,⟨L,_,hf,W,e,hd⟩,ih (λb Y=>hs b (by unfold iq;rw[J9,hf];exact JF _ Y)) R⟩
 exact all X.outer (λ_ Y=>Y) I.ok.funs
theorem Inv.stack(I:Inv X pins σ H s):s.heap.FunFrames X.base X.stack:=by
 rcases I.ok.stk with e|⟨e,hf⟩
 ·rw[e];exact I.funs
 ·rw[e];obtain⟨m,Z,_⟩:=I.loc;refine .cons (by rw[I.ok.kind];decide) hf Z ?_ I.funs;exact KM (JG I.ok.bsz I.ok.above)
theorem Inv.stkSub(I:Inv X pins σ H s):∀b∈iq X.stack,b∈X.env.locals::X.fs:=λb Z=>by
 rcases I.ok.stk with e|⟨e,hf⟩
 ·rw[e]at Z;exact JF _ Z
 ·rw[e]at Z;unfold iq at Z;rw[J9,hf]at Z;exact Z
theorem Inv.stkFree(I:Inv X pins σ H s):∀b∈iq X.stack,H b=none:=λb Z=>by
 rcases JN.mp (I.stkSub b Z)with e|Z
 ·rw[e];exact I.free
 ·obtain⟨_,o,Y,_⟩:=I.ok.funs.mem Z;exact I.base.free b o Y (I.ok.frf b Z) λz=>I.ok.exfs b z Z
theorem Inv.step{g':Array M5}{t':Nat}{d':Drawn}{ch:List c_}(I:Inv X pins σ H s)
  (U:∀b∈ch,(b∈X.ex\/X.s₀.heap.objs.size<=b)/\b≠X.env.locals/\(∀x c,X.env.cells.lookup x=ar c->c≠b)/\∀p∈X.pn++pins,p.1≠b)
  (keep:∀b o,b≠X.env.locals->b∉X.fs->b∉ch->s.heap.get? b=ar o->H b=none->h'.get? b=ar o)
  (S:∀b o,b≠X.env.locals->b∈X.fs->b∉ch->s.heap.get? b=ar o->H b=none->∃C,h'.get? b=ar {o with slots:=C}) (Y:∀b o,b∉ch->s.heap.get? b=ar o->H b=none->H' b=none)
  (R:∀b o,b∉ch->s.heap.get? b=ar o->∃N,h'.get? b=ar N)
  (L:∀b xs,H b=ar (.tup xs)->H' b=ar (.tup xs)) (O:∀b o u,H b=ar (.frz o u)->H' b=ar (.frz o u)) (K:∀b G,H b=ar (.tbl G)->∃more,H' b=ar (.tbl (G++more)))
  (ns:∀m,s.heap.Ns X.env.locals m->h'.Ns X.env.locals m) (F:e9 X.prog X.w H' h') (f:x' g'):
  Inv X pins σ H' {s with heap:=h',gens:=g',drawn:=d',toks:=t'}:=by
 have J:∀b o,X.s₀.heap.get? b=ar o->b≠X.env.locals:=λb o e=>JK (JI (JC e) I.ok.above);have T:∀b o,X.s₀.heap.get? b=ar o->b∉X.ex->b∉ch:=λb o e Z Q=>by
  rcases (U b Q).1 with z|z
  ·exact Z z
  ·exact absurd (JI (JC e) z) (KN _)
 have cellK:∀x c,X.env.cells.lookup x=ar c->∀v,s.heap.IsCell c v->h'.IsCell c v:=λx c e v ⟨o,P,hd⟩=>by
  have W:c∉ch:=λz=>(U c z).2.2.1 x c e rfl;by_cases hc:c∈X.fs
  ·obtain⟨C,q⟩:=S c o (I.cne x c e) hc W P (I.freeC x c e);exact⟨_,q,hd⟩
  ·exact⟨o,keep c o (I.cne x c e) hc W P (I.freeC x c e),hd⟩
 refine⟨I.ok,I.os,f,⟨λb o e n Q Z=>?_,λb o e n Q Z=>?_,λb o e n Z=>?_,λb o e Z=>?_,λb xs e=>L b xs (I.base.tups b xs e),λb o xs e=>O b o xs (I.base.frzs b o xs e),λb G e=>?_⟩,?_,λx c e=>?_,?_,λx c e=>?_,λp A=>?_,F,I.len⟩
 ·exact keep b o (J b o e) Q (T b o e Z) (I.base.keep b o e n Q Z) (I.base.free b o e n Z)
 ·obtain⟨C,e1⟩:=I.base.slot b o e n Q Z;obtain⟨E,e2⟩:=S b _ (J b o e) Q (T b o e Z) e1 (I.base.free b o e n Z);exact⟨E,e2⟩
 ·obtain⟨N,e1⟩:=I.base.there b o e Z;exact Y b N (T b o e Z) e1 (I.base.free b o e n Z)
 ·obtain⟨N,e1⟩:=I.base.there b o e Z;exact R b N (T b o e Z) e1
 ·obtain⟨h,e1⟩:=I.base.tbls b G e;obtain⟨t,e2⟩:=K b _ e1;exact⟨h++t,by rw[e2,Array.append_assoc]⟩
 ·obtain⟨m,g,j⟩:=I.loc;refine⟨m,ns m g,λi x v e1 e2 y=>?_⟩;obtain⟨u,r,l⟩:=j i x v e1 e2 y;refine⟨u,r,?_⟩;rcases l with l|⟨k,c,e,z⟩
  ·exact .inl l
  ·exact .inr ⟨k,c,e,cellK x c e _ z⟩
 ·obtain⟨v,z⟩:=I.cell x c e;exact⟨v,cellK x c e v z⟩
 ·obtain⟨m,⟨o,_,_,P,_⟩,_⟩:=I.loc;exact Y _ o (λz=>(U _ z).2.1 rfl) P I.free
 ·obtain⟨v,o,P,hd⟩:=I.cell x c e;exact Y c o (λz=>(U c z).2.2.1 x c e rfl) P (I.freeC x c e)
 ·obtain⟨e,n,ne,B,d⟩:=I.pin p A;have W:p.1∉ch:=λz=>(U p.1 z).2.2.2 p A rfl;exact⟨keep p.1 p.2 ne B W e n,Y p.1 p.2 W e n,ne,B,d⟩
theorem Inv.un{t':Nat}(I:Inv X pins σ H s)(u:Un X.fs [] H H' s.heap h')(U:e9 X.prog X.w H' h'):Inv X pins σ H' {s with heap:=h',toks:=t'}:=by
 obtain⟨m,⟨o,es,ep,T,r⟩,_⟩:=id I.loc;obtain⟨Q,S⟩:=u.any T I.free (by simp);exact I.step (g':=s.gens) (d':=s.drawn) (ch:=[]) (λ_ z=>nomatch z) (λb o _ W _ e n=>u.keep b o e n W (by simp)) (λb o _ W _ e n=>u.slot b o e n W (by simp)) (λb o _ e n=>u.free b o e n (by simp)) (λb o _ e=>u.there b o e (by simp)) u.tups u.frzs u.tbls (λP hm=>by obtain⟨O,es',Y,Z,R⟩:=hm;rw[T]at Z;cases Z;exact⟨_,es',Y,S,R⟩) U I.bare
theorem Inv.call{g':Array M5}{t':Nat}{d':Drawn}{ch:List c_}(I:Inv X pins σ H s)(u:Un (iq X.stack) ch H H' s.heap h')(S:e9 X.prog X.w H' h')(Q:x' g')
  (Y:∀b∈ch,(b∈X.ex\/X.s₀.heap.objs.size<=b)/\b≠X.env.locals/\(∀x c,X.env.cells.lookup x=ar c->c≠b)/\∀p∈X.pn++pins,p.1≠b):
  Inv X pins σ H' {s with heap:=h',gens:=g',drawn:=d',toks:=t'}:=by
 obtain⟨m,⟨o,es,ep,R,r⟩,_⟩:=id I.loc;obtain⟨N,T⟩:=u.any R I.free λz=>(Y _ z).2.1 rfl;exact I.step (ch:=ch) Y (λb o T P Z e n=>u.keep b o e n (λz=>(JN.mp (I.stkSub b z)).elim T P) Z) (λb o _ _ Z e n=>u.any e n Z) (λb o Z e n=>u.free b o e n Z) (λb o Z e=>u.there b o e Z) u.tups u.frzs u.tbls (λL hm=>by obtain⟨K,es',U,W,O⟩:=hm;rw[R]at W;cases W;exact⟨_,es',U,T,O⟩) S Q
theorem Inv.turned{t':Nat}{it:c_}(I:Inv X pins σ H s)(k:∀b o,b≠it->s.heap.get? b=ar o->h'.get? b=ar o)(U:H it=none)(W:it≠X.env.locals)
  (Q:it∈X.ex\/X.s₀.heap.objs.size<=it) (S:∀x c,X.env.cells.lookup x=ar c->c≠it) (T:∀p∈X.pn++pins,p.1≠it):Inv X pins σ H {s with heap:=h',toks:=t'}:=by
 have Y:∀b u,H b=ar u->b≠it:=λb u e z=>by rw[z,U]at e;cases e
 refine I.step (g':=s.gens) (d':=s.drawn) (ch:=[it]) (λb P=>?_) (λb o _ _ Z e _=>k b o (λz=>Z (by simp[z])) e) (λb o _ _ Z e _=>⟨o.slots,k b o (λz=>Z (by simp[z])) e⟩) (λ_ _ _ _ n=>n)
  (λb o Z e=>⟨o,k b o (λz=>Z (by simp[z])) e⟩) (λ_ _ e=>e) (λ_ _ _ e=>e) (λb O e=>⟨#[],by rw[e];simp⟩) (λm hm=>?_) (λb u e=>?_) I.bare
 ·have e:b=it:=by simpa using P
  subst e;exact⟨Q,W,S,T⟩
 ·obtain⟨o,es,ep,R,r⟩:=hm;exact⟨o,es,ep,k _ o (i2 W) R,r⟩
 ·refine(I.hok b u e).stay (λc v Z q=>k c v ?_ q) (λ_ q=>q) λ_ _ q=>q;rcases Z with z|z
  ·rw[z];exact Y b u e
  ·exact Y c _ z
theorem Inv.tok(I:Inv X pins σ H s)(t:Nat):Inv X pins σ H {s with toks:=t}:=I.un (h':=s.heap) (t':=t) Un.refl I.hok
theorem Inv.kept{t':Nat}(I:Inv X pins σ H s)(k:∀b u,s.heap.get? b=ar u->h'.get? b=ar u):Inv X pins σ H {s with heap:=h',toks:=t'}:=I.un (Un.kept k) (I.hok.kept k)
theorem Inv.laid{a:c_}{o:HO}{t':Nat}(I:Inv X pins σ H s)(k:∀b u,s.heap.get? b=ar u->h'.get? b=ar u)(Y:s.heap.objs.size<=a)(Z:aW X.prog X.w (upd H a o) h' a o):
  Inv X pins σ (upd H a o) {s with heap:=h',toks:=t'}:=I.un (Un.laid k Y (I.hok.fresh Y)) (I.hok.laid k Y Z)
theorem Inv.write{x e:c_}{o:HO}{t':Nat}(I:Inv X pins σ H s)(W:Hl (H x))(U:e=x\/H e=ar (.own x))(k:∀b u,b≠e->s.heap.get? b=ar u->h'.get? b=ar u)(Z:∃u,h'.get? e=ar u)
  (Y:aW X.prog X.w (upd H x o) h' x o):Inv X pins σ (upd H x o) {s with heap:=h',toks:=t'}:=I.un (Un.write W U k Z) (I.hok.write W U k Z Y)
theorem Inv.pins_of{Z:List (c_×Obj)}(I:Inv X pins σ H s)(h:∀p∈Z,s.heap.get? p.1=ar p.2/\H p.1=none/\p.1≠X.env.locals/\p.1∉X.fs/\∀v,p.2.data≠ .cell v):Inv X Z σ H s:=
 ⟨I.ok,I.os,I.bare,I.base,I.loc,I.cell,I.free,I.freeC,λp Y=>(K3.mp Y).elim (λz=>I.pin p (Lo _ z)) (h p),I.hok,I.len⟩
theorem mE{N:List Str}(Z:N.Nodup){i j:Nat}{x:Str}(a:N[i]? =ar x)(b:N[j]? =ar x):i=j:=by obtain⟨Y,e1⟩:=Jz.mp a;obtain⟨W,e2⟩:=Jz.mp b;exact(List.getElem_inj Z).mp (e1.trans e2.symm)
theorem oX{M:NN}{A:gd}{E:aC->b_->Prop}{i:Nat}{x:Str}{v:V}{u:aC}{Q:Unit->b_->Prop}(I:Inv X pins σ H s)(hN:X.N.Nodup)(J:X.N[i]? =ar x)(Y:Loc X.env.scope x)(r:RelV v u)
  (h:∀s',Inv X pins (σ.set i (ar v)) H s'->(∃a,oi a s.heap s'.heap/\(a=X.env.locals\/X.env.cells.lookup x=ar a))->Q () s') (hf:X.fn x=dr\/X.env.scope.names.lookup x=ar .local:=by first|exact .inl rfl|exact .inr rfl|assumption):eb M A (storeName X.env x u) Q E s:=by
 obtain⟨m,hn,hl⟩:=id I.loc;have P:(X.env.scope.kind== .class||(X.env.scope.kind== .module && X.env.locals !=X.env.globals))=false:=by rw[I.ok.kind];rfl
 have U:i<σ.length:=by rw[I.len];exact(Jz.mp J).1
 have T:=I.cne;have tracked:∀{a:c_} {h':fc},(∃o,s.heap.get? a=ar o/\H a=none)->oi a s.heap h'->e9 X.prog X.w H h':=λ{a h'} ha hs b ob e=>by
  obtain⟨_,_,W⟩:=ha;refine(I.hok b ob e).stay (λc G Z q=>(hs.2 c ?_).trans q) (λ_ q=>q) λ_ _ q=>q;rintro rfl;rcases Z with rfl|Z
  ·rw[W]at e;cases e
  ·rw[W]at Z;cases Z
 rcases Y with hk|hk
 ·refine wpAny_storeName_local hk hn (λh' a5 hs=>?_) P;obtain⟨oL,_,_,B,_⟩:=id hn;refine h _ ⟨I.ok,I.os,I.bare,⟨λb o e n R Y=>?_,λb o e n R Y=>?_,I.base.free,λb o e Y=>?_,I.base.tups,I.base.frzs,I.base.tbls⟩,⟨_,a5,λj y C e1 e2 t=>?_⟩,λy c e=>?_,I.free,I.freeC,λp f=>?_,tracked ⟨oL,B,I.free⟩ hs,by simpa using I.len⟩ ⟨_,hs,.inl rfl⟩
  ·exact(hs.2 b (JK (JI (JC e) I.ok.above))).trans (I.base.keep b o e n R Y)
  ·obtain⟨sl,e1⟩:=I.base.slot b o e n R Y;exact⟨sl,(hs.2 b (JK (JI (JC e) I.ok.above))).trans e1⟩
  ·obtain⟨g,e1⟩:=I.base.there b o e Y;exact⟨g,(hs.2 b (JK (JI (JC e) I.ok.above))).trans e1⟩
  ·by_cases hj:j=i
   ·subst hj;rw[J]at e1;cases e1;rw[J5 U]at e2;cases e2;exact⟨u,r,.inl ⟨hk,by simp⟩⟩
   ·rw[Kf (i2 hj)]at e2;obtain⟨u',r',q⟩:=hl j y C e1 e2 t;refine⟨u',r',?_⟩;rcases q with⟨k,e⟩|⟨k,c,e,z⟩
    ·refine .inl ⟨k,?_⟩;have:y≠x:=λe=>hj (mE hN e1 (e ▸ J));simp[this,e]
    ·exact .inr ⟨k,c,e,z.sameBut hs (T y c e)⟩
  ·obtain⟨G,z⟩:=I.cell y c e;exact⟨G,z.sameBut hs (T y c e)⟩
  ·obtain⟨e,n,ne,l,d⟩:=I.pin p f;exact⟨(hs.2 p.1 ne).trans e,n,ne,l,d⟩
 ·have S:X.fn x=true:=by
   rcases hf with z|z
   ·exact z
   ·rw[z]at hk;cases hk
  obtain⟨c,Z⟩:=I.ok.has x (.inl hk);obtain⟨G,z⟩:=I.cell x c Z;refine wpAny_storeName_cell I.ok.kind hk Z z (λh' O hs=>?_);obtain⟨oc,L,K⟩:=id z;refine h {s with heap:=h'} ⟨I.ok,I.os,I.bare,⟨λb o e n R Y=>?_,λb o e n R Y=>?_,I.base.free,λb o e Y=>?_,I.base.tups,I.base.frzs,I.base.tbls⟩,⟨m,hn.sameBut hs (i2 (T x c Z)),λj y C e1 e2 t=>?_⟩,λy F e=>?_,I.free,I.freeC,λp f=>?_,tracked ⟨oc,L,I.freeC x c Z⟩ hs,by simpa using I.len⟩ ⟨c,hs,.inr Z⟩
  ·exact(hs.2 b (JK (JI (JC e) (I.ok.cab x c S Z)))).trans (I.base.keep b o e n R Y)
  ·obtain⟨sl,e1⟩:=I.base.slot b o e n R Y;exact⟨sl,(hs.2 b (JK (JI (JC e) (I.ok.cab x c S Z)))).trans e1⟩
  ·obtain⟨g,e1⟩:=I.base.there b o e Y;exact⟨g,(hs.2 b (JK (JI (JC e) (I.ok.cab x c S Z)))).trans e1⟩
  ·by_cases hj:j=i
   ·subst hj;rw[J]at e1;cases e1;rw[J5 U]at e2;cases e2;exact⟨u,r,.inr ⟨.inl hk,c,Z,O⟩⟩
   ·rw[Kf (i2 hj)]at e2;obtain⟨u',r',q⟩:=hl j y C e1 e2 t;refine⟨u',r',?_⟩;rcases q with q|⟨k,F,e,z'⟩
    ·exact .inl q
    ·refine .inr ⟨k,F,e,z'.sameBut hs ?_⟩;rintro rfl;exact hj (mE hN e1 (I.ok.inj _ _ _ e Z ▸ J))
  ·by_cases hcc:F=c
   ·subst hcc;exact⟨_,O⟩
   ·obtain⟨w2,z2⟩:=I.cell y F e;exact⟨w2,z2.sameBut hs hcc⟩
  ·obtain⟨e,n,ne,l,d⟩:=I.pin p f;refine⟨(hs.2 p.1 ?_).trans e,n,ne,l,d⟩;intro q;rw[q,L]at e;have q':oc=p.2:=JW e;exact d G (by rw[<-q'];exact K)
theorem mF{M:NN}{A:gd}{E:aC->b_->Prop}{i:Nat}{x:Str}{v:V}{u:aC}{Q:Unit->b_->Prop}(I:Inv X pins σ H s)(W:X.N.Nodup)(U:X.N[i]? =ar x)(Y:Loc X.env.scope x)(r:RelV v u)
  (h:∀s',Inv X pins (σ.set i (ar v)) H s'->Q () s') (T:X.fn x=dr\/X.env.scope.names.lookup x=ar .local:=by first|exact .inl rfl|exact .inr rfl|assumption):eb M A (storeName X.env x u) Q E s:=
 oX I W U Y r (λs' Z _=>h s' Z) T
theorem Inv.call'{s':b_}{ch:List c_}(I:Inv X pins σ H s)(T:s'.os=s.os)(u:Un (iq X.stack) ch H H' s.heap s'.heap)(Z:e9 X.prog X.w H' s'.heap)(U:x' s'.gens)
  (Y:∀b∈ch,(b∈X.ex\/X.s₀.heap.objs.size<=b)/\b≠X.env.locals/\(∀x c,X.env.cells.lookup x=ar c->c≠b)/\∀p∈X.pn++pins,p.1≠b):Inv X pins σ H' s':=by
 obtain⟨h',g',d',t',W⟩:=s';have e:W=s.os:=T;subst e;exact I.call (g':=g') (t':=t') (d':=d') u Z U Y
end
abbrev XK:=aC->Option c_->Hp->Prop
abbrev St:=List (Option V)
abbrev VK:=V->Hp->Prop
abbrev TE:=St->Hp->VK->Prop
abbrev TT:=St->Hp->(Bool->Hp->Prop)->Prop
abbrev TA:=St->Hp->(List V->Hp->Prop)->Prop
structure Ends where
 nx:St->Hp->Prop
 rt:VK
 bk:St->Hp->Prop:=λ_ _=>False
 ct:St->Hp->Prop:=λ_ _=>False
abbrev TS:=Ends->St->Hp->Prop
def EP(X:Cx)(pins:List (c_×Obj))(σ:St)(Q:VK)(u:aC)(s':b_):Prop:=∃v H',Inv X pins σ H' s'/\RelV v u/\Q v H'
def TP(X:Cx)(pins:List (c_×Obj))(σ:St)(Q:Bool->Hp->Prop)(b:Bool)(s':b_):Prop:=∃H',Inv X pins σ H' s'/\Q b H'
def AP(X:Cx)(pins:List (c_×Obj))(σ:St)(Q:List V->Hp->Prop)(us:List aC)(s':b_):Prop:=∃vs H',Inv X pins σ H' s'/\aX vs us/\Q vs H'
def SP(X:Cx)(pins:List (c_×Obj))(D:Ends)(f:Flow)(s':b_):Prop:=
 match f with
 | .next=>∃ σ' H',Inv X pins σ' H' s'/\D.nx σ' H'
 | .brk=>∃ σ' H',Inv X pins σ' H' s'/\D.bk σ' H'
 | .cont=>∃ σ' H',Inv X pins σ' H' s'/\D.ct σ' H'
 | .ret u=>∃v σ' H',Inv X pins σ' H' s'/\RelV v u/\D.rt v H'
def PE(X:Cx)(e:Expr)(t:TE):Prop:=
 ∀(pins:List (c_×Obj)) (s:b_) (σ:St) (H:Hp) (Q:VK),Inv X pins σ H s->t σ H Q->eb (eK X.prog X.w) X.A (f' e X.env) (EP X pins σ Q) X.xe s
def PT(X:Cx)(e:Expr)(t:TT):Prop:=
 ∀(pins:List (c_×Obj)) (s:b_) (σ:St) (H:Hp) (Q:Bool->Hp->Prop),Inv X pins σ H s->t σ H Q->eb (eK X.prog X.w) X.A (isTrue e X.env (f' e X.env)) (TP X pins σ Q) X.xe s
def PW(X:Cx)(e:Expr)(t:TT):Prop:=
 ∀(whole:Sem aC) (pins:List (c_×Obj)) (s:b_) (σ:St) (H:Hp) (Q:Bool->Hp->Prop),Inv X pins σ H s->t σ H Q->eb (eK X.prog X.w) X.A (isTrue e X.env whole) (TP X pins σ Q) X.xe s
theorem PW.pt{X:Cx}{e:Expr}{t:TT}(h:PW X e t):PT X e t:=h _
def PA(X:Cx)(es:List Expr)(t:TA):Prop:=
 ∀(pos:Pos) (pins:List (c_×Obj)) (s:b_) (σ:St) (H:Hp) (Q:List V->Hp->Prop),Inv X pins σ H s->t σ H Q->eb (eK X.prog X.w) X.A (spliced (p_ pos (d_ es X.env))) (AP X pins σ Q) X.xe s
def PS(X:Cx)(st:n_)(t:TS):Prop:=
 ∀(pins:List (c_×Obj)) (s:b_) (σ:St) (H:Hp) (D:Ends),Inv X pins σ H s->t D σ H->eb (eK X.prog X.w) X.A (exec st X.env) (SP X pins D) X.xe s
def ot(X:Cx)(st:List n_)(t:TS):Prop:=
 ∀(pins:List (c_×Obj)) (s:b_) (σ:St) (H:Hp) (D:Ends),Inv X pins σ H s->t D σ H->eb (eK X.prog X.w) X.A (execs st X.env) (SP X pins D) X.xe s
theorem cO{Y:Type}{t:Sem Y}{Q Z:Y->b_->Prop}{M:NN}{A:gd}{E:aC->b_->Prop}{s:b_}(h:eb M A t Q E s)(X:∀a s,Q a s->Z a s):eb M A t Z E s:=Kx h X λ_ _ x=>x
section
variable {X:Cx}
def HM(i:Nat):TE:=λσ H Q=>∃v,σ[i]? =ar (ar v)/\Q v H
def tC(v:V):TE:=λ_ H Q=>Q v H
theorem tO{i:Nat}{x:Str}{pos:Pos}(T:X.N[i]? =ar x)(U:CV X.env.scope x)(Y:(x==("__debug__":Str))=false:=by decide)(Z:(x==("__classdict__":Str))=false:=by decide):PE X (.Name x pos) (HM i):=by
 intro pins s σ H Q I h;obtain⟨v,e,h⟩:=h;obtain⟨m,W,S⟩:=I.loc;obtain⟨u,r,l⟩:=S i x v T e U;have fin:EP X pins σ Q u s:=⟨v,H,I,r,h⟩;rcases l with⟨hk,hm⟩|⟨hk,c,hc,hcell⟩
 ·exact NU (wpAny_loadName_local I.ok.kind hk W hm fin) Y
 ·rcases hk with hk|hk
  ·exact NU (wpAny_loadName_cell I.ok.kind hk hc hcell fin) Y
  ·exact NU (wpAny_loadName_free I.ok.kind hk hc hcell fin Z) Y
theorem yh{i j pos}:PE X (.Constant (.int i) j pos) (tC (.int i)):=λ_ _ _ H _ I h=>wpAny_Constant_int ⟨.int i,H,I.tok _,⟨_,rfl⟩,h⟩
theorem FN{b j pos}:PE X (.Constant (.bool b) j pos) (tC (.bl b)):=λ_ _ _ H _ I h=>Constant_bool ⟨.bl b,H,I,rfl,h⟩
theorem DB{j pos}:PE X (.Constant .none j pos) (tC .non):=λ_ _ _ H _ I h=>Constant_none ⟨.non,H,I,rfl,h⟩
theorem DC{x j pos}:PE X (.Constant (.str x) j pos) (tC (.str x)):=λ_ _ _ H _ I h=>Calls.Constant_str ⟨.str x,H,I.tok _,⟨_,rfl⟩,h⟩
def Gl(X:Cx)(x:Str):Prop:=X.env.kindOf x=ar .globalImplicit
theorem jF{E:aC->b_->Prop}{Z:List (c_×Obj)}{s:b_}{W:St}{H:Hp}{x:Str}{u:aC}{pos:Pos}{Q:aC->b_->Prop}(I:Inv X Z W H s)(T:Gl X x)(U:X.mg x=ar u)(h:Q u s)
  (Y:(x==("__debug__":Str))=false:=by decide):eb (eK X.prog X.w) X.A (f' (.Name x pos) X.env) Q E s:=
 Mq I.ok.kind T (Calls.loadGlobal_global (by rw[I.ok.glob];exact I.mod.glob.keeps I.bk) U h) Y
theorem kC{E:aC->b_->Prop}{Z:List (c_×Obj)}{s:b_}{O:St}{H:Hp}{x:Str}{u:aC}{pos:Pos}{Q:aC->b_->Prop}(I:Inv X Z O H s)(R:Gl X x)(S:X.mg x=none)(U:j3 x=ar u)(h:Q u s)
  (Y:x≠"__name__":=by decide) (W:(x==("__debug__":Str))=false:=by decide):eb (eK X.prog X.w) X.A (f' (.Name x pos) X.env) Q E s:=by
 obtain⟨N,P,T⟩:=I.mod.blt;exact Mq I.ok.kind R (Calls.loadGlobal_builtin (by rw[I.ok.glob];exact I.mod.glob.keeps I.bk) S (by rw[I.ok.blt];exact P.keeps I.bk) ((T x Y).trans U) h) W
theorem p9{x:Str}{v:V}{u:aC}{pos:Pos}(W:Gl X x)(Y:X.mg x=ar u)(r:RelV v u)(Z:(x==("__debug__":Str))=false:=by decide):PE X (.Name x pos) (tC v):=
 λ_ _ _ H _ I h=>jF I W Y ⟨v,H,I,r,h⟩ Z
theorem lY{x:Str}{v:V}{u:aC}{pos:Pos}(T:Gl X x)(U:X.mg x=none)(W:j3 x=ar u)(r:RelV v u)(Z:x≠"__name__":=by decide)(Y:(x==("__debug__":Str))=false:=by decide):PE X (.Name x pos) (tC v):=
 λ_ _ _ H _ I h=>kC I T U W ⟨v,H,I,r,h⟩ Z Y
variable {a b:Expr}{ta tb:TE}{pos:Pos}
theorem rM(b:Expr){op:Ou}(h:op≠ .In)(Z:op≠ .NotIn):k6 op b=false:=by
 have e1:(op==CmpOp.In)=false:=by cases op<;>first|rfl|exact absurd rfl h
 have e2:(op==CmpOp.NotIn)=false:=by cases op<;>first|rfl|exact absurd rfl Z
 cases b<;>simp[k6,e1,e2]
def tB(t:TE):TT:=λσ H Q=>t σ H λx H1=>∃c,x= .bl c/\Q c H1
theorem DD{e:Expr}{t:TE}(h:PE X e t)(Z:∀whole,isTrue e X.env whole=(do let v<-whole;Oj e.pos;B' [v] (truthy v)):=by intro _;rfl):PT X e (tB t):=by intro pins s σ H Q I hw;refine isTrue_plain (cO (h pins s σ H _ I hw) λv s1 ⟨x,H1,I1,r1,q1⟩=>?_) (Z _);obtain⟨d,rfl,q⟩:=q1;cases r1;exact Ky ⟨H1,I1,q⟩
variable {tA tB':TT}{rest:List Expr}
def HN(t u:TT):TT:=λσ H Q=>t σ H λc H1=>if c=dr then u σ H1 Q else Q dt H1
def Jb(t u:TT):TT:=λσ H Q=>t σ H λc H1=>if c=dr then Q dr H1 else u σ H1 Q
def HP(t:TT):TT:=λσ H Q=>t σ H λc H1=>Q (!c) H1
theorem Bm(Z:PT X a tA):PW X (.BoolOp .And [a] pos) tA:=by
 intro Y pins s σ H Q I h;refine isTrue_and (cO (Z pins s σ H Q I h) λc s1 e=>?_);cases c with
 |true=>exact isTrue_and_nil e
 |false=>exact e
theorem DE(Z:PT X a tA):PW X (.BoolOp .Or [a] pos) tA:=by
 intro Y pins s σ H Q I h;refine isTrue_or (cO (Z pins s σ H Q I h) λc s1 e=>?_);cases c with
 |false=>exact isTrue_or_nil e
 |true=>exact e
theorem DF(W:PT X a tA)(Z:PW X (.BoolOp .And (b::rest) pos) tB'):PW X (.BoolOp .And (a::b::rest) pos) (HN tA tB'):=by
 intro Y pins s σ H Q I h;refine isTrue_and (cO (W pins s σ H _ I h) λc s1 ⟨H1,I1,q1⟩=>?_);cases c with
 |true=>exact Z Y pins s1 σ H1 Q I1 q1
 |false=>exact⟨H1,I1,q1⟩
theorem FO(W:PT X a tA)(Z:PW X (.BoolOp .Or (b::rest) pos) tB'):PW X (.BoolOp .Or (a::b::rest) pos) (Jb tA tB'):=by
 intro Y pins s σ H Q I h;refine isTrue_or (cO (W pins s σ H _ I h) λc s1 ⟨H1,I1,q1⟩=>?_);cases c with
 |true=>exact⟨H1,I1,q1⟩
 |false=>exact Z Y pins s1 σ H1 Q I1 q1
theorem DG(Y:PT X a tA):PT X (.UnaryOp .Not a pos) (HP tA):=by intro pins s σ H Q I h;exact isTrue_not (Y pins s σ H (λc Z=>Q (!c) Z) I h)
def FP(ta tb:TE):TE:=λσ H Q=>ta σ H λx H1=>∃c,x= .bl c/\if c=dr then tb σ H1 Q else Q (.bl dt) H1
def FQ(ta:TE):TE:=λσ H Q=>ta σ H λx H1=>∃c,x= .bl c/\Q (.bl (!c)) H1
theorem DH{op}{t:TE}(h:PE X a t):PE X (.BoolOp op [a] pos) t:=λpins s σ H Q I hw=>BoolOp_one (h pins s σ H Q I hw)
theorem DI(W:PE X a ta)(Y:PE X (.BoolOp .And (b::rest) pos) tb):PE X (.BoolOp .And (a::b::rest) pos) (FP ta tb):=by
 intro pins s σ H Q I h;refine BoolOp_and (cO (W pins s σ H _ I h) λv s1 ⟨x,H1,I1,r1,Z⟩=>?_);obtain⟨c,rfl,Z⟩:=Z;cases r1;refine Ky ?_;cases c with
 |true=>exact Y pins s1 σ H1 Q I1 Z
 |false=>exact⟨.bl dt,H1,I1,rfl,Z⟩
theorem DJ(Y:PE X a ta):PE X (.UnaryOp .Not a pos) (FQ ta):=by intro pins s σ H Q I h;refine UnaryOp_ (cO (Y pins s σ H _ I h) λv s1 ⟨x,H1,I1,r1,Z⟩=>?_);obtain⟨c,rfl,Z⟩:=Z;cases r1;exact not_of (Ky ⟨.bl (!c),H1,I1,rfl,Z⟩)
def Jc(t:TT)(ta tb:TE):TE:=λσ H Q=>t σ H λc H1=>if c=dr then ta σ H1 Q else tb σ H1 Q
theorem yi{c:Expr}(Y:PT X c tA)(W:PE X a ta)(Z:PE X b tb):PE X (.IfExp c a b pos) (Jc tA ta tb):=by
 intro pins s σ H Q I h;refine wpAny_IfExp (cO (Y pins s σ H _ I h) λd s1 ⟨H1,I1,q1⟩=>?_);cases d with
 |true=>exact W pins s1 σ H1 Q I1 q1
 |false=>exact Z pins s1 σ H1 Q I1 q1
end
def ir(K:dV)(H:Hp)(a:c_)(xs:List V):Prop:=
 Rd H a (.lst xs)\/
  ∃(o:Obj) (its:Array aC) (n:Nat),K.lookup a=ar o/\o.cls= .type "list"/\o.dict=none/\o.data= .seq its n/\its.size<=sizeLine/\aX xs its.toList
def jG(K:dV)(H:Hp)(a:c_)(xs:List V):Prop:=
 Rd H a (.tup xs)\/
  ∃(o:Obj) (its:Array aC) (n:Nat),K.lookup a=ar o/\o.cls= .type "tuple"/\o.data= .seq its n/\its.size<=sizeLine/\aX xs its.toList
def HQ:aC->Option V
 | .none=>ar .non
 | .bool b=>ar (.bl b)
 | .int i _=>ar (.int i)
 | .str x _=>ar (.str x)
 | .bytes b _=>ar (.byt b)
 | .float b _=>ar (.flt b)
 | .ref a=>ar (.ref a)
 | .type n=>ar (.ty n)
 |_=>none
theorem RelV.abs{x:V}{u:aC}(r:RelV x u):HQ u=ar x:=by
 cases x with
 |non=>cases r;rfl
 |bl _=>cases r;rfl
 |int _=>obtain⟨t,rfl⟩:=r;rfl
 |str _=>obtain⟨t,rfl⟩:=r;rfl
 |byt _=>obtain⟨t,rfl⟩:=r;rfl
 |flt _=>obtain⟨t,rfl⟩:=r;rfl
 |ref _=>cases r;rfl
 |ty _=>cases r;rfl
theorem RelV.inj{x y:V}{u:aC}(r:RelV x u)(q:RelV y u):x=y:=JW (r.abs.symm.trans q.abs)
theorem aX.inj:∀{xs ys:List V} {us:List aC},aX xs us->aX ys us->xs=ys
 |_,_,_,.nil,.nil=>rfl
 |_,_,_,.cons r t,.cons r' t'=>by rw[r.inj r',aX.inj t t']
section
variable {X:Cx}{pins:List (c_×Obj)}{σ:St}{H:Hp}{s:b_}{a:c_}{xs ys:List V}
theorem ir.of{K:dV}(h:H a=ar (.lst xs)):ir K H a xs:=.inl (.inl h)
theorem jG.of{K:dV}(h:H a=ar (.tup xs)):jG K H a xs:=.inl (.inl h)
theorem Inv.list(I:Inv X pins σ H s)(h:ir X.K H a xs):∃its:List aC,aX xs its/\PlainL s.heap a its.toArray/\xs.length<=sizeLine:=by
 rcases h with h|⟨o,its,n,hk,hc,hd,hs,hz,r⟩
 ·obtain⟨z,its,n,r,e⟩:=h.ok I.hok;exact⟨its,r,⟨_,n,e,rfl,rfl,rfl⟩,z⟩
 ·refine⟨its.toList,r,⟨o,n,I.kIn a o hk,hc,hd,by simpa using hs⟩,?_⟩;have e:=r.length;simp only[B_]at e;omega
theorem Inv.tuple(I:Inv X pins σ H s)(h:jG X.K H a xs):∃its:List aC,aX xs its/\Oa s.heap a its.toArray/\xs.length<=sizeLine:=by
 rcases h with h|⟨o,its,n,hk,hc,hs,hz,r⟩
 ·obtain⟨z,its,r,p⟩:=h.ok I.hok;exact⟨its,r,p,z.1⟩
 ·refine⟨its.toList,r,⟨o,I.kIn a o hk,hc,n,by simpa using hs⟩,?_⟩;have e:=r.length;simp only[B_]at e;omega
theorem Inv.list_inj(I:Inv X pins σ H s)(h:ir X.K H a xs)(h':ir X.K H a ys):xs=ys:=by
 obtain⟨its,r,⟨o,n,e,_,_,d⟩,_⟩:=I.list h;obtain⟨its',Y,⟨W,U,Z,_,_,d'⟩,_⟩:=I.list h';rw[e]at Z;cases Z;rw[d]at d';injection d' with d1 _;have:its=its':=by simpa using KG Array.toList d1
 subst this;exact r.inj Y
theorem Inv.tuple_inj(I:Inv X pins σ H s)(h:jG X.K H a xs)(h':jG X.K H a ys):xs=ys:=by
 obtain⟨its,r,⟨o,e,_,n,d⟩,_⟩:=I.tuple h;obtain⟨its',Y,⟨W,Z,_,U,d'⟩,_⟩:=I.tuple h';rw[e]at Z;cases Z;rw[d]at d';injection d' with d1 _;have:its=its':=by simpa using KG Array.toList d1
 subst this;exact r.inj Y
end
abbrev Cx.wish(X:Cx)(E:aC->b_->Prop):Cx:={X with xe:=E}
abbrev Cx.nox(X:Cx):Cx:=X.wish λ_ _=>False
theorem Cx.Ok.wish{X:Cx}(Z:X.Ok)(E:aC->b_->Prop):(X.wish E).Ok:=
 ⟨Z.mod,Z.kind,Z.glob,Z.blt,Z.above,Z.inj,Z.has,Z.cab,Z.hd,Z.frames,Z.stk,Z.exf,Z.bs,Z.bsz,Z.noex,Z.exfs,Z.funs,Z.frf⟩
theorem Cx.Ok.unwish{X:Cx}{E:aC->b_->Prop}(Z:(X.wish E).Ok):X.Ok:=
 ⟨Z.mod,Z.kind,Z.glob,Z.blt,Z.above,Z.inj,Z.has,Z.cab,Z.hd,Z.frames,Z.stk,Z.exf,Z.bs,Z.bsz,Z.noex,Z.exfs,Z.funs,Z.frf⟩
section
variable {X:Cx}{pins:List (c_×Obj)}{σ:St}{H:Hp}{s:b_}{E:aC->b_->Prop}
theorem Inv.wish(I:Inv X pins σ H s)(E:aC->b_->Prop):Inv (X.wish E) pins σ H s:=⟨I.ok.wish E,I.os,I.bare,I.base,I.loc,I.cell,I.free,I.freeC,I.pin,I.hok,I.len⟩
theorem Inv.unwish(I:Inv (X.wish E) pins σ H s):Inv X pins σ H s:=⟨I.ok.unwish,I.os,I.bare,I.base,I.loc,I.cell,I.free,I.freeC,I.pin,I.hok,I.len⟩
theorem SP.unwish{D:Ends}{f:Flow}{s':b_}(h:SP (X.wish E) pins D f s'):SP X pins D f s':=by
 cases f with
 |next=>obtain⟨Z,Y,I,q⟩:=h;exact⟨Z,Y,I.unwish,q⟩
 |brk=>obtain⟨Z,Y,I,q⟩:=h;exact⟨Z,Y,I.unwish,q⟩
 |cont=>obtain⟨Z,Y,I,q⟩:=h;exact⟨Z,Y,I.unwish,q⟩
 |ret u=>obtain⟨v,Z,Y,I,r,q⟩:=h;exact⟨v,Z,Y,I.unwish,r,q⟩
theorem ot.nox{st:List n_}{t:TS}(h:ot X.nox st t):ot X st t:=λpins s σ H D I hw=>
 Kx (h pins s σ H D (I.wish _) hw) (λ_ _ q=>q.unwish) λ_ _ z=>g_ z
end
section
variable {X:Cx}{st:n_}{rest:List n_}{t u:TS}{e:Expr}{te:TE}{pos:Pos}
def FR:TS:=λD σ H=>D.nx σ H
def HR(t u:TS):TS:=λD σ H=>t {D with nx:=u D} σ H
theorem Bo:ot X [] FR:=λ_ _ σ H _ I h=>Lf ⟨σ,H,I,h⟩
theorem yj(W:PS X st t)(T:ot X rest u):ot X (st::rest) (HR t u):=by
 intro pins s σ H D I h;refine MY (cO (W pins s σ H {D with nx:=u D} I h) λf s1 q=>?_);cases f with
 |next=>
  obtain⟨Z,U,Y,q⟩:=q;exact T pins s1 Z U D Y q
 |ret v=>exact q
 |brk=>exact q
 |cont=>exact q
theorem vg(Z:PS X st t):ot X [st] t:=by
 intro pins s σ H D I h;refine MY (cO (Z pins s σ H D I h) λf s1 q=>?_);cases f with
 |next=>exact Lf q
 |ret v=>exact q
 |brk=>exact q
 |cont=>exact q
theorem Inv.quiet{Z:List (c_×Obj)}{Y:St}{H:Hp}{s:b_}(I:Inv X Z Y H s):interactive X.env=false:=by simp[interactive,I.ok.kind]
def FS(te:TE):TS:=λD σ H=>te σ H λ_ H1=>D.nx σ H1
theorem Bp(Z:PE X e te)(hs:kT e none pos.line X.env=a_ false:=by rfl):PS X (.Expr e pos) (FS te):=by intro pins s σ H D I h;exact wpAny_Expr_any (cO (Z pins s σ H _ I h) λv s1 ⟨x,H1,I1,r1,q1⟩=>⟨σ,H1,I1,q1⟩) I.quiet hs
def HS(te:TE):TS:=λD σ H=>te σ H D.rt
theorem DK(Z:PE X e te):PS X (.Return (ar e) pos) (HS te):=by intro pins s σ H D I h;exact wpAny_Return_some (cO (Z pins s σ H _ I h) λv s1 ⟨x,H1,I1,r1,q1⟩=>⟨x,σ,H1,I1,r1,q1⟩)
def HU(c:TT)(t u:TS):TS:=λD σ H=>c σ H λb H1=>if b=dr then t D σ H1 else u D σ H1
theorem FT{c:Expr}{a b:List n_}{Z:TT}(W:PT X c Z)(U:ot X a t)(Y:ot X b u):PS X (.If c a b pos) (HU Z t u):=by
 intro pins s σ H D I h;refine wpAny_If (cO (W pins s σ H _ I h) λd s1 ⟨H1,I1,q1⟩=>?_);cases d with
 |true=>exact U pins s1 σ H1 D I1 q1
 |false=>exact Y pins s1 σ H1 D I1 q1
end
abbrev TG:=V->St->Hp->(St->Hp->Prop)->Prop
abbrev Bq:=List V->St->Hp->(St->Hp->Prop)->Prop
def PG(X:Cx)(target:Expr)(t:TG):Prop:=
 ∀(pins:List (c_×Obj)) (s:b_) (σ:St) (H:Hp) (v:V) (u:aC) (Q:St->Hp->Prop),Inv X pins σ H s->RelV v u->t v σ H Q->
  eb (eK X.prog X.w) X.A (M8 target X.env u) (λ_ s'=>∃ σ' H',Inv X pins σ' H' s'/\Q σ' H') X.xe s
def Be(X:Cx)(ts:List Expr)(t:Bq):Prop:=
 ∀(pins:List (c_×Obj)) (s:b_) (σ:St) (H:Hp) (vs:List V) (us:List aC) (Q:St->Hp->Prop),Inv X pins σ H s->aX vs us->t vs σ H Q->
  eb (eK X.prog X.w) X.A (assignInOrder ((mh ts X.env).map (·.2)) us) (λ_ s'=>∃ σ' H',Inv X pins σ' H' s'/\Q σ' H') X.xe s
abbrev Br:=V->V->V->Hp->(Hp->Prop)->Prop
def FU(X:Cx)(t:Br):Prop:=
 ∀(pins:List (c_×Obj)) (s:b_) (σ:St) (H:Hp) (o i v:V) (ov iv u:aC) (Q:Hp->Prop),Inv X pins σ H s->RelV o ov->RelV i iv->RelV v u->t o i v H Q->
  eb (eK X.prog X.w) X.A (OL ov iv u) (λ_ s'=>∃H',Inv X pins σ H' s'/\Q H') X.xe s
section
variable {X:Cx}{pos:Pos}
def yk(i:Nat):TG:=λv σ H Q=>Q (σ.set i (ar v)) H
theorem Bs{i:Nat}{x:Str}(W:X.N.Nodup)(T:X.N[i]? =ar x)(Y:Loc X.env.scope x)(U:X.fn x=dr\/X.env.scope.names.lookup x=ar .local:=by first|exact .inl rfl|exact .inr rfl|assumption):PG X (.Name x pos) (yk i):=by intro pins s σ H v u Q I r h;exact wpAny_assign_Name (mF I W T Y r (λs' Z=>⟨_,H,Z,h⟩) U)
def HV:Bq:=λvs σ H Q=>vs=[]/\Q σ H
def FV(t:TG)(u:Bq):Bq:=λvs σ H Q=>∃v r,vs=v::r/\t v σ H λσ' H'=>u r σ' H' Q
theorem Bt:Be X [] HV:=by intro pins s σ H vs us Q I r h;obtain⟨e,h⟩:=h;subst e;cases r;exact assignInOrder_nil ⟨σ,H,I,h⟩
theorem ym{e:Expr}{es:List Expr}{t:TG}{u:Bq}(Y:PG X e t)(Z:Be X es u)
  (hs:(mh (e::es) X.env).map (·.2)=M8 e X.env::(mh es X.env).map (·.2):=by rfl):Be X (e::es) (FV t u):=by
 intro pins s σ H vs us Q I r h;obtain⟨v,W,e1,h⟩:=h;subst e1;cases r with
 |cons r rr=>
  rw[hs];refine assignInOrder_cons (cO (Y pins s σ H _ _ _ I r h) λ_ s1 ⟨σ1,H1,I1,q1⟩=>?_);exact Z pins s1 σ1 H1 _ _ Q I1 rr q1
def HW(K:dV)(n:Nat)(t:Bq):TG:=λv σ H Q=>∃a xs,v= .ref a/\jG K H a xs/\xs.length=n/\t xs σ H Q
theorem DL{es:List Expr}{k:Nat}{t:Bq}{n:Nat}(P:X.calm=dr)(h:Be X es t)
  (W:(mh es X.env).length=n:=by rfl) (Z:(mh es X.env).findIdx? (·.1)=none:=by rfl):PG X (.Tuple es k pos) (HW X.K n t):=by
 intro pins s σ H v u Q I r hw;obtain⟨a,xs,e1,R,S,hw⟩:=hw;subst e1;cases r;obtain⟨its,Y,O,N⟩:=I.tuple R;refine assign_Tuple_tuple (I.ok.hd P) O (by simp[W, <-S,Y.length]) Z λh' U=>?_;have T:Inv X pins σ H {s with heap:=h'}:=I.kept (t':=s.toks) λb o e=>U b o (JK (JC e)) e;exact h pins _ σ H xs _ Q T (by simpa using Y) hw
def HX(to ti:TE)(t:Br):TG:=λv σ H Q=>to σ H λo H1=>ti σ H1 λi H2=>t o i v H2 λH3=>Q σ H3
theorem DM{o i:Expr}{Y Z:TE}{t:Br}(W:PE X o Y)(U:PE X i Z)(hs:FU X t)
  (T:∀v,M8 (.Subscript o i pos) X.env v=(do
   let ov<-B' [v] (f' o X.env);let iv<-B' [v,ov] (f' i X.env)
   Oj pos
   B' [v,ov,iv] (OL ov iv v)
   release [v,ov,iv] []):=by intro _;rfl):PG X (.Subscript o i pos) (HX Y Z t):=by
 intro pins s σ H v u Q I r h;rw[T];refine Ju (Kg (cO (W pins s σ H _ I h) λov s1 ⟨x,H1,I1,r1,q1⟩=>?_));refine Ju (Kg (cO (U pins s1 σ H1 _ I1 q1) λiv s2 ⟨y,H2,I2,r2,q2⟩=>?_));refine Ju (Np (Ju (Kg (cO (hs pins s2 σ H2 x y v ov iv u _ I2 r1 r2 r q2) λ_ s3 ⟨H3,I3,q3⟩=>?_))));exact wpAny_release ⟨σ,H3,I3,q3⟩
def DN(te:TE)(g:TG):TS:=λD σ H=>te σ H λx H1=>g x σ H1 D.nx
theorem DO{Z e:Expr}{te:TE}{g:TG}(Y:PE X e te)(U:PG X Z g)(hs:swapsWithSole [Z] e pos.line X.env=a_ false:=by rfl)(W:swappedStores [Z] e X.env=a_ none:=by rfl)
  (T:(mh [Z] X.env).map (·.2)=[M8 Z X.env]:=by rfl):PS X (.Assign [Z] e pos) (DN te g):=by
 intro pins s σ H D I h;refine wpAny_Assign_stores (cO (Y pins s σ H _ I h) λv s1 ⟨x,H1,I1,r1,q1⟩=>?_) hs W;rw[T];exact cO (U pins s1 σ H1 x v _ I1 r1 q1) λ_ s2 q=>q
theorem yn{i:Nat}{x:Str}{e:Expr}{te:TE}{pos':Pos}(U:X.N.Nodup)(S:X.N[i]? =ar x)(W:Loc X.env.scope x)(Y:PE X e te)(hs:kT e (ar (.Name x pos')) pos.line X.env=a_ false:=by rfl)(T:X.fn x=dr\/X.env.scope.names.lookup x=ar .local:=by first|exact .inl rfl|exact .inr rfl|assumption):
  PS X (.Assign [.Name x pos'] e pos) (DN te (yk i)):=by
 intro pins s σ H D I h;refine wpAny_Assign_Name (cO (Y pins s σ H _ I h) λv s1 ⟨y,H1,I1,r1,q1⟩=>?_) hs;exact mF I1 U S W r1 (λs2 Z=>⟨_,H1,Z,q1⟩) T
def DP(c:TT)(tb:TS):TS:=λD σ H=>∃W:Nat->St->Hp->Prop,(∃m,W m σ H)/\∀m σ H,W m σ H->
 c σ H λb H1=>if b=dr then ∃N:St->Hp->Prop,(∀ σ' H',N σ' H'->∃m',m'<m/\W m' σ' H')/\tb {D with nx:=N,ct:=N,bk:=D.nx} σ H1 else D.nx σ H1
theorem yo{c:Expr}{body:List n_}{O:TT}{tb:TS}(K:Nh (eK X.prog X.w) X.A X.env X.xe)(F:PT X c O)(G:ot X body tb):PS X (.While c body [] pos) (DP O tb):=by
 intro pins s σ H D I h;obtain⟨W,⟨m0,J⟩,turn⟩:=h;refine wpAny_While (codeAny_whileLoop (λn s'=>∃ σ' H',Inv X pins σ' H' s'/\W n σ' H') ?_ m0 ⟨σ,H,I,J⟩);rintro n s1 ⟨σ1,H1,I1,w1⟩;refine K4 K (cO (F pins s1 σ1 H1 _ I1 (turn n σ1 H1 w1)) λb s2 ⟨H2,I2,T⟩=>?_);cases b with
 | true=>
  obtain⟨N,L,T⟩:=T;rw[if_pos rfl];refine K4 K (cO (G pins s2 σ1 H2 _ I2 T) λf s3 U=>?_);cases f with
  |next=>
   obtain⟨Z,Y,P,R⟩:=U;obtain⟨S,hm,Q⟩:=L Z Y R;exact⟨S,hm,Z,Y,P,Q⟩
  |cont=>
   obtain⟨Z,Y,P,R⟩:=U;obtain⟨S,hm,Q⟩:=L Z Y R;exact⟨S,hm,Z,Y,P,Q⟩
  |brk=>exact U
  |ret v=>exact U
 |false=>
  rw[if_neg KI];exact Lf ⟨σ1,H2,I2,T⟩
end
structure It where
 go:Nat->Hp->Prop
 yld:Nat->Hp->V->Hp->Prop
 stop:Nat->Hp->Prop
def jH(X:Cx)(pins:List (c_×Obj))(H:Hp)(b:c_):Prop:=
 H b=none/\b≠X.env.locals/\b∉X.fs/\(b∈X.ex\/X.s₀.heap.objs.size<=b)/\(∀x c,X.env.cells.lookup x=ar c->c≠b)/\∀p∈X.pn++pins,p.1≠b
theorem Inv.fpOk{X:Cx}{Z:List (c_×Obj)}{S:St}{H W:Hp}{s:b_}{b:c_}(I:Inv X Z S H s)(Y:s.heap.objs.size<=b)(U:W b=none):jH X Z W b:=by
 refine⟨U,KU (JI I.lt Y),I.nofs Y,.inr (JG I.sz Y),λx c e z=>?_,λp T z=>?_⟩
 ·obtain⟨v,q⟩:=I.cell x c e;exact absurd (JI q.lt (by rw[z];exact Y)) (KN _)
 ·exact absurd (JI (JC (I.pin p T).1) (by rw[z];exact Y)) (KN _)
structure Turn(P:ee)(w:ey)(K:dV)(tg:Expr)(J:It)(fp:List c_)(it:c_)(tn:Nat->fc->Prop):Prop where
 mem:it∈fp
 obj:∀i h,tn i h->∀b∈fp,∃o,h.get? b=ar o/\∀v,o.data≠ .cell v
 keep:∀i h h',tn i h->(∀b∈fp,∀o,h.get? b=ar o->h'.get? b=ar o)->tn i h'
 item:∀(X:Cx),X.prog=P->X.w=w->X.K=K->X.calm=dr->∀(i:Nat) (pins:List (c_×Obj)) (s:b_) (σ:St) (H:Hp) (E:aC->b_->Prop),Inv X pins σ H s->(∀b∈fp,jH X pins H b)->tn i s.heap->J.go i H->
  eb (eK P w) X.A (EA (.ref it)) (λr s1=>∃u,r=ar u/\
   eb (eK P w) X.A (L0 tg (.ref it) u) (λ_ s2=>∃x H',Inv X pins σ H' s2/\RelV x u/\J.yld i H x H'/\tn (i+1) s2.heap/\∀b∈fp,H' b=none) E s1) E s
 done:∀(X:Cx),X.prog=P->X.w=w->X.K=K->X.calm=dr->∀(i:Nat) (pins:List (c_×Obj)) (s:b_) (σ:St) (H:Hp) (E:aC->b_->Prop),Inv X pins σ H s->(∀b∈fp,jH X pins H b)->tn i s.heap->J.stop i H->
  eb (eK P w) X.A (EA (.ref it)) (λr s1=>r=none/\Inv X pins σ H s1) E s
 self:∀(A:gd) (i:Nat) (s:b_) (Q:aC->b_->Prop) (E:aC->b_->Prop),tn i s.heap->Q (.ref it) s->eb (eK P w) A (NV (.ref it)) Q E s
abbrev TI:=St->Hp->(It->Hp->Prop)->Prop
def IR(X:Cx)(pins:List (c_×Obj))(σ:St)(tg:Expr)(R:It->Hp->Prop)(itv:aC)(s2:b_):Prop:=
 ∃(it:c_) (fp:List c_) (tn:Nat->fc->Prop) (J:It) (H':Hp),itv= .ref it/\Inv X pins σ H' s2/\Turn X.prog X.w X.K tg J fp it tn/\tn 0 s2.heap/\(∀b∈fp,jH X pins H' b)/\R J H'
def PI(X:Cx)(tg iter:Expr)(wi:TI):Prop:=
 ∀(pins:List (c_×Obj)) (s:b_) (σ:St) (H:Hp) (R:It->Hp->Prop),Inv X pins σ H s->wi σ H R->
  eb (eK X.prog X.w) X.A (f' iter X.env) (λv s1=>eb (eK X.prog X.w) X.A (NV v) (IR X pins σ tg R) X.xe s1) X.xe s
theorem vh{M:NN}{A:gd}{E:aC->b_->Prop}{s:b_}{Y:Expr}{it:c_}{u:aC}{o:Obj}{n:String}{vs:Array aC}{Q:Unit->b_->Prop}(U:s.heap.get? it=ar o)(T:o.cls= .type n)(W:o.data= .fields vs)
    (X:["enumerate","zip","dict_itemiterator","dict_reverseitemiterator","odict_iterator","itertools.zip_longest","itertools.pairwise"].contains n=dt) (Z:Q () s):eb M A (L0 Y (.ref it) u) Q E s:=by
  unfold L0;cases Y <;>first
    |exact Jx Z
    |(cases u<;>first
        |exact Jx Z
        | (refine Ju (wpAny_load U ?_)
           rw[T,W];show eb M A (if (["enumerate","zip","dict_itemiterator","dict_reverseitemiterator","odict_iterator","itertools.zip_longest","itertools.pairwise"].contains n && vs[0]? ==ar (k8 _))=dr then _ else _) Q E s;rw[if_neg (by intro h;rw[X,Lp]at h;cases h)];exact Jx Z))
def Hn(K:dV)(a:c_):It:=
 ⟨λi H=>∃xs x,ir K H a xs/\xs[i]? =ar x,λi H x H'=>H'=H/\∀xs,ir K H a xs->xs[i]? =ar x,λi H=>∃xs,ir K H a xs/\xs.length<=i⟩
def HY(K:dV)(a:c_):It:=
 ⟨λi H=>∃xs x,jG K H a xs/\xs[i]? =ar x,λi H x H'=>H'=H/\∀xs,jG K H a xs->xs[i]? =ar x,λi H=>∃xs,jG K H a xs/\xs.length<=i⟩
def FW(lo:Int)(n:Nat):It:=⟨λi _=>i<n,λi H x H'=>H'=H/\x= .int (lo+i),λi _=>n<=i⟩
theorem wI{P:ee}{w:ey}{K:dV}{A:Expr}(a it:c_):Turn P w K A (Hn K a) [it] it (λi h=>h.IsListIter it a i) where
 mem:=by simp
 obj:=λi h st b Z=>by
  have e:b=it:=by simpa using Z
  subst e;obtain⟨o,e,c,d⟩:=st;exact⟨o,e,λv z=>by rw[d]at z;cases z⟩
 keep:=λi h h' st k=>st.at λo e=>k it (by simp) o e
 item:=by intro X S hw T J i pins s σ H E I hf st N;subst S hw T;obtain⟨xs,x,U,O⟩:=N;obtain⟨its,L,p,C⟩:=I.list U;obtain⟨u,B,r⟩:=L.get O;obtain⟨f0,f1,f2,Q,f4,R⟩:=hf it (by simp);refine wpAny_pyNext_list_item st p.isList (x:=u) (by simpa using B) λh' Y y=>?_;have G:Inv X pins σ H {s with heap:=h'}:=I.turned (t':=s.toks) (λb o Z e=>(y.2 b Z).trans e) f0 f1 Q f4 R;obtain⟨o,e,c,d⟩:=id Y;exact⟨u,rfl,vh (s:={s with heap:=h'}) e c d (by decide) ⟨x,H,G,r,⟨rfl,λys t=>by rw[I.list_inj t U];exact O⟩,Y,λb Z=>(hf b Z).1⟩⟩
 done:=by intro X S hw T J i pins s σ H E I hf st N;subst S hw T;obtain⟨xs,U,O⟩:=N;obtain⟨its,L,p,C⟩:=I.list U;obtain⟨f0,f1,f2,Q,f4,R⟩:=hf it (by simp);have q:=L.length;exact wpAny_pyNext_list_end (I.ok.hd J) st p.isList (by simp;omega) λh' F=>⟨rfl,I.turned (t':=s.toks) (λb o Z e=>F b o Z e) f0 f1 Q f4 R⟩
 self:=λ_ _ _ _ _ st h=>wpAny_pyIter_listiter st h
theorem tP{P:ee}{w:ey}{K:dV}{A:Expr}(a it:c_):Turn P w K A (HY K a) [it] it (λi h=>h.IsTupleIter it a i) where
 mem:=by simp
 obj:=λi h st b Z=>by
  have e:b=it:=by simpa using Z
  subst e;obtain⟨o,e,c,d⟩:=st;exact⟨o,e,λv z=>by rw[d]at z;cases z⟩
 keep:=λi h h' st k=>st.at λo e=>k it (by simp) o e
 item:=by intro X S hw T J i pins s σ H E I hf st N;subst S hw T;obtain⟨xs,x,U,O⟩:=N;obtain⟨its,L,p,C⟩:=I.tuple U;obtain⟨u,B,r⟩:=L.get O;obtain⟨f0,f1,f2,Q,f4,R⟩:=hf it (by simp);refine wpAny_pyNext_tuple_item st (show s.heap.IsTuple a its.toArray from p) (x:=u) (by simpa using B) λh' Y y=>?_;have G:Inv X pins σ H {s with heap:=h'}:=I.turned (t':=s.toks) (λb o Z e=>(y.2 b Z).trans e) f0 f1 Q f4 R;obtain⟨o,e,c,d⟩:=id Y;exact⟨u,rfl,vh (s:={s with heap:=h'}) e c d (by decide) ⟨x,H,G,r,⟨rfl,λys t=>by rw[I.tuple_inj t U];exact O⟩,Y,λb Z=>(hf b Z).1⟩⟩
 done:=by intro X S hw T J i pins s σ H E I hf st N;subst S hw T;obtain⟨xs,U,O⟩:=N;obtain⟨its,L,p,C⟩:=I.tuple U;obtain⟨f0,f1,f2,Q,f4,R⟩:=hf it (by simp);have q:=L.length;exact wpAny_pyNext_tuple_end (I.ok.hd J) st (show s.heap.IsTuple a its.toArray from p) (by simp;omega) λh' F=>⟨rfl,I.turned (t':=s.toks) (λb o Z e=>F b o Z e) f0 f1 Q f4 R⟩
 self:=λ_ _ _ _ _ st h=>wpAny_pyIter_tupleiter st h
theorem tQ{P:ee}{w:ey}{K:dV}{A:Expr}(it:c_)(U:Int)(n:Nat):Turn P w K A (FW U n) [it] it (λi h=>IsRangeIter h it (U+(i:Nat)*1) ((n:Int) - (i:Nat)) 1) where
 mem:=by simp
 obj:=λi h st b Z=>by
  have e:b=it:=by simpa using Z
  subst e;exact⟨_,st,λv z=>by have B:Data.fields _=Data.cell v:=z;cases B⟩
 keep:=λi h h' st k=>k it (by simp) _ st
 item:=by intro X R hw T S i pins s σ H E I hf st N;subst R hw T;obtain⟨f0,f1,f2,O,f4,Q⟩:=hf it (by simp);have W:=Walks.range (prog:=X.prog) (w:=X.w) (I.ok.hd S) it U 1 n;refine W.item i s _ _ N st λv h' L G Y J=>?_;obtain⟨t,rfl⟩:=G;have F:Inv X pins σ H {s with heap:=h',toks:=L}:=I.turned (λb o Z e=>J b o (by simpa using Z) e) f0 f1 O f4 Q;refine⟨_,rfl,vh (s:={s with heap:=h',toks:=L}) (n:="range_iterator") Y rfl rfl (by decide) ⟨.int (U+i),H,F,⟨t,?_⟩,⟨rfl,rfl⟩,Y,λb Z=>(hf b Z).1⟩⟩;rw[Int.mul_one]
 done:=by intro X R hw T S i pins s σ H E I hf st N;subst R hw T;obtain⟨f0,f1,f2,O,f4,Q⟩:=hf it (by simp);exact wpAny_pyNext_range_end (I.ok.hd S) st (by have:n<=i:=N;omega) λh' C=>⟨rfl,I.turned (t':=s.toks) (λb o Z e=>C b o Z e) f0 f1 O f4 Q⟩
 self:=λ_ _ _ _ _ st h=>wpAny_pyIter_rangeiter st h
section
variable {X:Cx}{tg:Expr}
def FX(K:dV)(tl:TE):TI:=λσ H R=>tl σ H λx H1=>∃a,x= .ref a/\(∃xs,ir K H1 a xs)/\R (Hn K a) H1
def HZ(K:dV)(tl:TE):TI:=λσ H R=>tl σ H λx H1=>∃a,x= .ref a/\(∃xs,jG K H1 a xs)/\R (HY K a) H1
theorem jI{l:Expr}{tl:TE}(Z:PE X l tl):PI X tg l (FX X.K tl):=by
 intro pins s σ H R I h;refine cO (Z pins s σ H _ I h) λv s1 ⟨x,H1,I1,r1,q1⟩=>?_;obtain⟨a,e,⟨xs,Y⟩,q⟩:=q1;subst e;cases r1;obtain⟨its,T,p,U⟩:=I1.list Y;refine MG p.isList ?_;refine⟨s1.heap.objs.size,[s1.heap.objs.size],_,_,H1,rfl,I1.kept (t':=s1.toks) λb o e=>Jv _ e,wI a _,⟨_,JD _ rfl,rfl,rfl⟩,λb W=>?_,q⟩;have e:b=s1.heap.objs.size:=by simpa using W
 subst e;exact I1.fpOk (Jw _) (I1.hok.fresh (Jw _))
theorem DQ{l:Expr}{tl:TE}(Z:PE X l tl):PI X tg l (HZ X.K tl):=by
 intro pins s σ H R I h;refine cO (Z pins s σ H _ I h) λv s1 ⟨x,H1,I1,r1,q1⟩=>?_;obtain⟨a,e,⟨xs,Y⟩,q⟩:=q1;subst e;cases r1;obtain⟨its,T,p,U⟩:=I1.tuple Y;refine LA (show s1.heap.IsTuple a its.toArray from p) ?_;refine⟨s1.heap.objs.size,[s1.heap.objs.size],_,_,H1,rfl,I1.kept (t':=s1.toks) λb o e=>Jv _ e,tP a _,⟨_,JD _ rfl,rfl,rfl⟩,λb W=>?_,q⟩;have e:b=s1.heap.objs.size:=by simpa using W
 subst e;exact I1.fpOk (Jw _) (I1.hok.fresh (Jw _))
theorem rN{W:List (c_×Obj)}{S:St}{H:Hp}{s:b_}{R:It->Hp->Prop}{E:aC->b_->Prop}{Z Y:Int}{t u v:Tok}{T:Nat}(I:Inv X W S H s)(N: -(2 ^ 62)<=Z)(P:Z<2 ^ 62)(Q: -(2 ^ 62)<=Y)(O:Y<2 ^ 62)
  (q:R (FW Z (Y - Z).toNat) H):eb (eK X.prog X.w) X.A (NV (.ref s.heap.objs.size)) (IR X W S tg R) E {s with heap:=s.heap.push {cls:=.type "range",data:=.fields #[.int Z t,.int Y u,.int 1 v]},toks:=T}:=by
 refine wpAny_pyIter_range (IsRange.new ..) (small_one N P Q O) ?_;have U:Inv X W S H {s with heap:=s.heap.push {cls:=.type "range",data:=.fields #[.int Z t,.int Y u,.int 1 v]},toks:=T}:=I.kept λb o e=>Jv _ e;refine⟨(s.heap.push {cls:=.type "range",data:=.fields #[.int Z t,.int Y u,.int 1 v]}).objs.size,[(s.heap.push {cls:=.type "range",data:=.fields #[.int Z t,.int Y u,.int 1 v]}).objs.size],_,_,H,rfl,
  U.kept (t':=T) λb o e=>Jv _ e,tQ _ Z (Y - Z).toNat,?_,λb L=>?_,q⟩
 ·have e1:Z+((0:Nat):Int)*1=Z:=by simp
  have e2:(((Y - Z).toNat:Nat):Int) - ((0:Nat):Int)=Builtin.Range.rangeSize Z Y 1:=by rw[rangeSize_one];split<;>omega
  show IsRangeIter _ _ (Z+((0:Nat):Int)*1) ((((Y - Z).toNat:Nat):Int) - ((0:Nat):Int)) 1;rw[e1,e2];exact JD _ rfl
 ·have e:b=(s.heap.push {cls:=.type "range",data:=.fields #[.int Z t,.int Y u,.int 1 v]}).objs.size:=by simpa using L
  subst e;exact U.fpOk (Jw _) (U.hok.fresh (Jw _))
def FY(ta:TA):TI:=λσ H R=>ta σ H λvs H1=>∃j:Int,vs=[.int j]/\ -(2 ^ 62)<=j/\j<2 ^ 62/\R (FW 0 j.toNat) H1
def FZ(ta:TA):TI:=λσ H R=>ta σ H λvs H1=>∃i j:Int,vs=[.int i,.int j]/\(-(2 ^ 62)<=i/\i<2 ^ 62/\ -(2 ^ 62)<=j/\j<2 ^ 62)/\R (FW i (j - i).toNat) H1
theorem wJ{a:Expr}{Y:TA}{p pos:Pos}(U:Gl X "range")(T:X.mg "range"=none)(S:PA X [a] Y)(hs:d_ [a] X.env=[(dt,f' a X.env)]:=by rfl):PI X tg (.Call (.Name "range" p) [a] [] pos) (FY Y):=by
 intro pins s σ H R I h;refine Call_ (kC I U T boot_range (KP (cO (S pos pins s σ H _ I h) λus s1 ⟨vs,H1,I1,r1,Z⟩=>?_) hs rfl));obtain⟨j,e,Z,W,q⟩:=Z;subst e;cases r1 with
 |cons r rr=>
  cases rr;obtain⟨t,rfl⟩:=r;exact call_range_1 (rN I1 (by omega) (by omega) Z W (by simpa using q))
theorem wK{a b:Expr}{W:TA}{p pos:Pos}(S:Gl X "range")(P:X.mg "range"=none)(O:PA X [a,b] W)(hs:d_ [a,b] X.env=[(dt,f' a X.env),(dt,f' b X.env)]:=by rfl)(Z:d_ [b] X.env=[(dt,f' b X.env)]:=by rfl):
  PI X tg (.Call (.Name "range" p) [a,b] [] pos) (FZ W):=by
 intro pins s σ H R I h;refine Call_ (kC I S P boot_range (KP (cO (O pos pins s σ H _ I h) λus s1 ⟨vs,H1,I1,r1,Y⟩=>?_) (by rw[hs,Z]) (by rw[Z];rfl)));obtain⟨i,j,e,⟨Y,T,U,Q⟩,q⟩:=Y;subst e;cases r1 with
 | cons r rr=>
  cases rr with
  |cons r' rr=>
   cases rr;obtain⟨t,rfl⟩:=r;obtain⟨t',rfl⟩:=r';exact call_range_2 (rN I1 Y T U Q q)
def Ia(wi:TI)(g:TG)(tb:TS):TS:=λD σ H=>wi σ H λJ H1=>∃W:Nat->Nat->St->Hp->Prop,(∃m,W 0 m σ H1)/\∀i m σ H,W i m σ H->
 (J.stop i H/\D.nx σ H)\/(J.go i H/\∃N:St->Hp->Prop,(∀ σ' H',N σ' H'->∃m',m'<m/\W (i+1) m' σ' H')/\∀x H',J.yld i H x H'->g x σ H' λσ2 H2=>tb {D with nx:=N,ct:=N,bk:=D.nx} σ2 H2)
def mG(fp:List c_)(h:fc):List (c_×Obj):=fp.filterMap λb=>(h.get? b).map λo=>(b,o)
theorem gQ{Z:List c_}{h:fc}{b:c_}{o:Obj}(Y:b∈Z)(e:h.get? b=ar o):(b,o)∈mG Z h:=KF.mpr ⟨b,Y,by rw[e];rfl⟩
theorem wL{Z:List c_}{h:fc}{p:c_×Obj}(U:p∈mG Z h):p.1∈Z/\h.get? p.1=ar p.2:=by
 obtain⟨b,Y,e⟩:=KF.mp U;cases q:h.get? b with
 |none=>rw[q]at e;cases e
 |some o=>
  rw[q]at e;have W:(b,o)=p:=JW e;subst W;exact⟨Y,q⟩
theorem Inv.pinned{Z:List (c_×Obj)}{U:St}{H:Hp}{s:b_}{Y:List c_}(I:Inv X Z U H s)(S:∀b∈Y,jH X Z H b)(R:∀b∈Y,∃o,s.heap.get? b=ar o/\∀v,o.data≠ .cell v):Inv X (Z++mG Y s.heap) U H s:=
 I.pins_of λp Q=>(K3.mp Q).elim (λz=>I.pin p (JX _ z)) λz=>by obtain⟨W,e⟩:=wL z;obtain⟨f0,f1,f2,_⟩:=S p.1 W;obtain⟨o,T,d⟩:=R p.1 W;rw[e]at T;cases T;exact⟨e,f0,f1,f2,d⟩
theorem Inv.unpinned{Z W:List (c_×Obj)}{Y:St}{H:Hp}{s:b_}(I:Inv X (Z++W) Y H s):Inv X Z Y H s:=I.pins_of λp U=>I.pin p (JX _ (Lo _ U))
theorem DR{S:Expr}{body:List n_}{z:TI}{g:TG}{tb:TS}{pos:Pos}(L:Nh (eK X.prog X.w) X.A X.env X.xe)(B:X.calm=dr)(hi:PI X tg S z)(a:PG X tg g)(R:ot X body tb)
  (hs:∀x,lb S X.env x=a_ x:=by intro _;rfl):PS X (.For tg S body [] pos) (Ia z g tb):=by
 intro pins s σ H D I h;refine wpAny_For (cO (hi pins s σ H _ I h) λv s1 h1=>cO h1 λl s2 t=>?_) hs;obtain⟨it,K,C,J,k,e,j,T,F,f2,W,⟨m0,q⟩,turn⟩:=t;subst e;have Y:∀{H':Hp},(∀b∈K,H' b=none)->∀b∈K,jH X pins H' b:=λc b R=>⟨c b R,(f2 b R).2⟩;refine codeAny_forLoop_any (λn s'=>∃i σ' H',Inv X pins σ' H' s'/\C i s'.heap/\(∀b∈K,H' b=none)/\W i n σ' H') ?_ m0 ⟨0,σ,k,j,F,λb R=>(f2 b R).1,q⟩;rintro n s3 ⟨i,σ3,H3,I3,st3,fr3,w3⟩;rcases turn i n σ3 H3 w3 with⟨stop,qn⟩|⟨go,N,hN,step⟩
 ·refine K4 L (cO (T.done X rfl rfl rfl B i pins s3 σ3 H3 X.xe I3 (Y fr3) st3 stop) λr s4 ⟨hr,I4⟩=>?_);subst hr;exact Lf ⟨σ3,H3,I4,qn⟩
 ·refine K4 L (cO (T.item X rfl rfl rfl B i pins s3 σ3 H3 X.xe I3 (Y fr3) st3 go) λr s4 ⟨u,hr,h4⟩=>?_);subst hr;refine K4 L (cO h4 λ_ s5 ⟨x,H5,I5,r5,y5,st5,fr5⟩=>?_);have G:=I5.pinned (Y fr5) (T.obj _ _ st5);refine K4 L (cO (a _ s5 σ3 H5 x u _ G r5 (step x H5 y5)) λ_ s6 ⟨σ6,H6,I6,q6⟩=>?_);refine K4 L (cO (R _ s6 σ6 H6 _ I6 q6) λf E P=>?_);have NW:∀{Z:St} {Q:Hp},Inv X (pins++mG K s5.heap) Z Q E->N Z Q->∃m,m<n/\∃i σ' H',Inv X pins σ' H' E/\C i E.heap/\(∀b∈K,H' b=none)/\W i m σ' H':=λ{Z Q} U O=>by
   obtain⟨y,hm,w7⟩:=hN Z Q O;refine⟨y,hm,i+1,Z,Q,U.unpinned,T.keep _ _ _ st5 λb R o e=>(U.pin (b,o) (JX _ (JX _ (gQ R e)))).1,λb R=>?_,w7⟩;obtain⟨o,e,d⟩:=T.obj _ _ st5 b R;exact(U.pin (b,o) (JX _ (JX _ (gQ R e)))).2.1
  cases f with
  |next=>obtain⟨Z,Q,U,O⟩:=P;exact NW U O
  |cont=>obtain⟨Z,Q,U,O⟩:=P;exact NW U O
  |brk=>obtain⟨Z,Q,U,P⟩:=P;exact⟨Z,Q,U.unpinned,P⟩
  |ret v=>obtain⟨x7,Z,Q,U,p,P⟩:=P;exact⟨x7,Z,Q,U.unpinned,p,P⟩
end
abbrev R2:=V->V->Hp->VK->Prop
def gO(X:Cx)(f:aC->aC->Sem aC)(r:R2):Prop:=
 ∀(pins:List (c_×Obj)) (s:b_) (σ:St) (H:Hp) (x y:V) (v u:aC) (Q:VK),Inv X pins σ H s->RelV x v->RelV y u->r x y H Q->
  eb (eK X.prog X.w) X.A (f v u) (EP X pins σ Q) X.xe s
def Ib(X:Cx)(f:aC->Sem aC)(r:V->Hp->VK->Prop):Prop:=
 ∀(pins:List (c_×Obj)) (s:b_) (σ:St) (H:Hp) (x:V) (v:aC) (Q:VK),Inv X pins σ H s->RelV x v->r x H Q->
  eb (eK X.prog X.w) X.A (f v) (EP X pins σ Q) X.xe s
def b9(X:Cx)(f:aC)(r:List V->Hp->VK->Prop):Prop:=
 ∀(pins:List (c_×Obj)) (s:b_) (σ:St) (H:Hp) (xs:List V) (us:List aC) (Q:VK),Inv X pins σ H s->aX xs us->r xs H Q->
  eb (eK X.prog X.w) X.A (call f us) (EP X pins σ Q) X.xe s
def F4(r:R2)(ta tb:TE):TE:=λσ H Q=>ta σ H λx H1=>tb σ H1 λy H2=>r x y H2 Q
def Jd(r:V->Hp->VK->Prop)(ta:TE):TE:=λσ H Q=>ta σ H λx H1=>r x H1 Q
def rI(C:Int->Int->Prop)(g:Int->Int->V):R2:=λx y H Q=>∃i j,x= .int i/\y= .int j/\C i j/\Q (g i j) H
def Bg(g:Int->Int->V):R2:=λx y H Q=>∃i j,x= .int i/\y= .int j/\Q (g i j) H
def rU(g:Int->V):V->Hp->VK->Prop:=λx H Q=>∃i,x= .int i/\Q (g i) H
section
variable {X:Cx}{a b c:Expr}{ta tb tc:TE}{pos:Pos}
theorem DS(N:PE X a ta)(O:PE X b tb){Z:List (c_×Obj)}{s:b_}{Y:St}{H:Hp}{R:V->V->Hp->Prop}(I:Inv X Z Y H s)
  (h:ta Y H λx S=>tb Y S λy W=>R x y W) {Q:aC->b_->Prop} {f:aC->aC->Sem aC}
  (P:∀v u s2 x y W,Inv X Z Y W s2->RelV x v->RelV y u->R x y W->eb (eK X.prog X.w) X.A (f v u) Q X.xe s2):
  eb (eK X.prog X.w) X.A (f' a X.env) (λv T=>eb (eK X.prog X.w) X.A (f' b X.env) (λu U=>eb (eK X.prog X.w) X.A (f v u) Q X.xe U) X.xe T) X.xe s:=by
 refine cO (N Z s Y H _ I h) λv s1 ⟨x,S,I1,r1,q1⟩=>?_;refine cO (O Z s1 Y S _ I1 q1) λu s2 ⟨y,W,I2,r2,q2⟩=>?_;exact P v u s2 x y W I2 r1 r2 q2
theorem F5{op:Operator}{r:R2}(U:gO X (oo op) r)(R:PE X a ta)(T:PE X b tb):PE X (.BinOp a op b pos) (F4 r ta tb):=by intro pins s σ H Q I h;exact wpAny_BinOp (DS R T I h λv u s2 x y S Z Y W q=>U pins s2 σ S x y v u Q Z Y W q)
theorem F6{op:UnaryOp}{r:V->Hp->VK->Prop}(Y:Ib X (unaryOp op) r)(Z:PE X a ta):PE X (.UnaryOp op a pos) (Jd r ta):=by intro pins s σ H Q I h;exact UnaryOp_ (cO (Z pins s σ H _ I h) λv s1 ⟨x,H1,I1,r1,q1⟩=>Y pins s1 σ H1 x v Q I1 r1 q1)
theorem Ho{f:aC->aC->Sem aC}{C:Int->Int->Prop}{g:Int->Int->Int}
  (Z:∀(i j:Int) (t u:Tok) (s:b_) (Q:aC->b_->Prop) (E:aC->b_->Prop),C i j->Q (.int (g i j) s.toks) {s with toks:=s.toks+1}->eb (eK X.prog X.w) X.A (f (.int i t) (.int j u)) Q E s):
  gO X f (rI C λi j=>.int (g i j)):=by
 intro pins s σ H x y v u Q I Y W h;obtain⟨i,j,rfl,rfl,U,q⟩:=h;obtain⟨t,rfl⟩:=Y;obtain⟨t',rfl⟩:=W;exact Z i j t t' s _ _ U ⟨.int (g i j),H,I.tok _,⟨_,rfl⟩,q⟩
theorem F7{f:aC->aC->Sem aC}{g:Int->Int->Int}
  (Z:∀(i j:Int) (t u:Tok) (s:b_) (Q:aC->b_->Prop) (E:aC->b_->Prop),Q (.int (g i j) s.toks) {s with toks:=s.toks+1}->eb (eK X.prog X.w) X.A (f (.int i t) (.int j u)) Q E s):
  gO X f (Bg λi j=>.int (g i j)):=by
 intro pins s σ H x y v u Q I Y W h;obtain⟨i,j,rfl,rfl,q⟩:=h;obtain⟨t,rfl⟩:=Y;obtain⟨t',rfl⟩:=W;exact Z i j t t' s _ _ ⟨.int (g i j),H,I.tok _,⟨_,rfl⟩,q⟩
theorem Bu{f:aC->aC->Sem aC}{g:Int->Int->Bool}
  (Z:∀(i j:Int) (t u:Tok) (s:b_) (Q:aC->b_->Prop) (E:aC->b_->Prop),Q (.bool (g i j)) s->eb (eK X.prog X.w) X.A (f (.int i t) (.int j u)) Q E s):
  gO X f (Bg λi j=>.bl (g i j)):=by
 intro pins s σ H x y v u Q I Y W h;obtain⟨i,j,rfl,rfl,q⟩:=h;obtain⟨t,rfl⟩:=Y;obtain⟨t',rfl⟩:=W;exact Z i j t t' s _ _ ⟨.bl (g i j),H,I,rfl,q⟩
def wM(i j:Int):Prop:=0<j/\j<1073741824
def Bv(i j:Int):Prop:=0<=j/\j<=1000000/\i.natAbs<2 ^ 64
def tR(i j:Int):Prop:=(-(2 ^ 64)<i/\i<2 ^ 64)\/(-(2 ^ 64)<j/\j<2 ^ 64)
theorem tR.ok{i j:Int}(h:tR i j):IntMulOk i j:=by
 rcases h with⟨h1,h2⟩|⟨h1,h2⟩
 ·exact .of_left (intBits_le_64 h1 h2)
 ·exact .of_right (intBits_le_64 h1 h2)
theorem DT:gO X (oo .Add) (Bg λi j=>.int (i+j)):=F7 λ_ _ _ _ _ _ _ q=>add_int q
theorem DU:gO X (oo .Sub) (Bg λi j=>.int (i - j)):=F7 λ_ _ _ _ _ _ _ q=>sub_int q
theorem DV:gO X (oo .Mult) (rI tR λi j=>.int (i*j)):=Ho λ_ _ _ _ _ _ _ Z q=>mul_int q Z.ok
theorem Bw:gO X (oo .FloorDiv) (rI wM λi j=>.int (i / j)):=Ho λi j _ _ _ _ _ Z q=>by have Y:(0:Int)<j:=Z.1;have W:j<1073741824:=Z.2;exact floordiv_int (by omega) (by rw[Int.fdiv_eq_ediv_of_nonneg i (by omega)];exact q) (.inl (PyProof.noPylong_small (by omega)))
theorem DW:gO X (oo .Mod) (rI (λ_ j=>0<j) λi j=>.int (i % j)):=Ho λi j _ _ _ _ _ Z q=>by have Y:(0:Int)<j:=Z;exact mod_int' (by omega) (by rw[Int.fmod_eq_emod_of_nonneg i (by omega)];exact q)
theorem DX:gO X (oo .Pow) (rI Bv λi j=>.int (i ^ j.toNat)):=Ho λ_ _ _ _ _ _ _ Z q=>pow_int_small Z.1 Z.2.1 Z.2.2 q
theorem Je{f:aC->Sem aC}{g:Int->Int}
  (Z:∀(i:Int) (t:Tok) (s:b_) (Q:aC->b_->Prop) (E:aC->b_->Prop),Q (.int (g i) s.toks) {s with toks:=s.toks+1}->eb (eK X.prog X.w) X.A (f (.int i t)) Q E s):
  Ib X f (rU λi=>.int (g i)):=by
 intro pins s σ H x v Q I Y h;obtain⟨i,rfl,q⟩:=h;obtain⟨t,rfl⟩:=Y;exact Z i t s _ _ ⟨.int (g i),H,I.tok _,⟨_,rfl⟩,q⟩
theorem DY:Ib X (unaryOp .USub) (rU λi=>.int (-i)):=Je λ_ _ _ _ _ q=>neg_int q
theorem DZ{Z:List (c_×Obj)}{W:St}{H:Hp}{s:b_}{Q:VK}{k Y:Bool}(I:Inv X Z W H s)(q:Q (.bl k) H)(e:k=Y):EP X Z W Q (.bool Y) s:=by subst e;exact⟨.bl k,H,I,rfl,q⟩
theorem yp:gO X (h9 .Lt) (Bg λi j=>.bl (decide (i<j))):=Bu λ_ _ _ _ _ _ _ q=>lt_int q
theorem rO:gO X (h9 .LtE) (Bg λi j=>.bl (decide (i<=j))):=Bu λ_ _ _ _ _ _ _ q=>le_int q
theorem F8:gO X (h9 .Gt) (Bg λi j=>.bl (decide (j<i))):=Bu λ_ _ _ _ _ _ _ q=>gt_int q
theorem F9:gO X (h9 .GtE) (Bg λi j=>.bl (decide (j<=i))):=Bu λ_ _ _ _ _ _ _ q=>ge_int q
theorem wN:gO X (h9 .In) (λx y H Q=>∃i j,x= .str i/\y= .str j/\Q (.bl (!(g8 j i 0 j.length 1).isEmpty)) H):=by intro pins s σ H x y v u Q I Z Y h;obtain⟨i,j,rfl,rfl,q⟩:=h;obtain⟨t,rfl⟩:=Z;obtain⟨t',rfl⟩:=Y;exact in_str (DZ I q rfl)
theorem gO.or{f:aC->aC->Sem aC}{r W:R2}(h:gO X f r)(h':gO X f W):gO X f (λx y H Q=>r x y H Q\/W x y H Q):=by
 intro pins s σ H x y v u Q I Z Y q;rcases q with q|q
 ·exact h pins s σ H x y v u Q I Z Y q
 ·exact h' pins s σ H x y v u Q I Z Y q
theorem Ie(b:Expr){op:Ou}(h:op≠ .In:=by decide)(Z:op≠ .NotIn:=by decide):k6 op b=false:=by
 have e1:(op==CmpOp.In)=false:=by cases op<;>first|rfl|exact absurd rfl h
 have e2:(op==CmpOp.NotIn)=false:=by cases op<;>first|rfl|exact absurd rfl Z
 cases b<;>simp[k6,e1,e2]
theorem Bx{op:Ou}{r:R2}(T:gO X (h9 op) r)(P:PE X a ta)(S:PE X b tb)(W:k6 op b=dt):PE X (.Compare a [op] [b] pos) (F4 r ta tb):=by intro pins s σ H Q I h;exact wpAny_Compare1 (DS P S I h λv u s2 x y R Z Y U q=>T pins s2 σ R x y v u Q Z Y U q) W
def CY(t:TE):TT:=λσ H Q=>t σ H λx H'=>∃k,x= .bl k/\Q k H'
theorem By{op:Ou}{r:R2}(U:gO X (h9 op) r)(W:PE X a ta)(Z:PE X b tb)(Y:k6 op b=dt):PT X (.Compare a [op] [b] pos) (CY (F4 r ta tb)):=by
 intro pins s σ H Q I h;refine wpAny_isTrue_Compare1 (cO (W pins s σ H _ I h) λv s1 ⟨x,H1,I1,r1,q1⟩=>cO (Z pins s1 σ H1 _ I1 q1) λu s2 ⟨y,H2,I2,r2,q2⟩=>
  cO (U pins s2 σ H2 x y v u _ I2 r1 r2 q2) λc s3 ⟨z,H3,I3,r3,k,e,q3⟩=>?_) Y
 subst e;cases r3;exact Ky ⟨H3,I3,q3⟩
def tS(r r':R2)(ta tb tc:TE):TE:=λσ H Q=>ta σ H λx H1=>tb σ H1 λy H2=>r x y H2 λz H3=>∃k,z= .bl k/\
 (if k=dr then tc σ H3 λw' H4=>r' y w' H4 Q else Q (.bl dt) H3)
theorem yq{op Z:Ou}{r W:R2}(P:gO X (h9 op) r)(Y:gO X (h9 Z) W)(R:PE X a ta)(U:PE X b tb)(T:PE X c tc)
  (S:NH [op,Z] [b,c]=false:=by with_unfolding_all rfl):PE X (.Compare a [op,Z] [b,c] pos) (tS r W ta tb tc):=by
 intro pins s σ H Q I h;refine Compare_chain (cO (R pins s σ H _ I h) λv s1 ⟨x,H1,I1,r1,q1⟩=>chain_link (cO (U pins s1 σ H1 _ I1 q1) λu s2 ⟨y,H2,I2,r2,q2⟩=>
  cO (P pins s2 σ H2 x y v u _ I2 r1 r2 q2) λd s3 ⟨z,H3,I3,r3,k,e,q3⟩=>?_)) S
 subst e;cases r3;refine Ky ?_;cases k with
 |false=>exact ite_ff ⟨.bl dt,H3,I3,rfl,q3⟩
 |true=>exact ite_tt (chain_last (cO (T pins s3 σ H3 _ I3 q3) λw' s4 ⟨z',H4,I4,r4,q4⟩=>Y pins s4 σ H4 y z' u w' Q I4 r2 r4 q4))
theorem yr{op Z:Ou}{r W:R2}(S:gO X (h9 op) r)(Y:gO X (h9 Z) W)(U:PE X a ta)(T:PE X b tb)(R:PE X c tc)
  (N:NH [op,Z] [b,c]=false:=by with_unfolding_all rfl):PT X (.Compare a [op,Z] [b,c] pos) (CY (tS r W ta tb tc)):=by
 intro pins s σ H Q I h;refine isTrue_chain (cO (U pins s σ H _ I h) λv s1 ⟨x,H1,I1,r1,q1⟩=>test_link (cO (T pins s1 σ H1 _ I1 q1) λu s2 ⟨y,H2,I2,r2,q2⟩=>
  cO (S pins s2 σ H2 x y v u _ I2 r1 r2 q2) λd s3 ⟨z,H3,I3,r3,k,e,q3⟩=>?_)) N
 subst e;cases r3;refine Ky ?_;cases k with
 |false=>
  obtain⟨L,O,P⟩:=q3;cases O;exact ite_ff ⟨H3,I3,P⟩
 |true=>
  refine ite_tt (test_last (cO (R pins s3 σ H3 _ I3 q3) λw' s4 ⟨z',H4,I4,r4,q4⟩=>cO (Y pins s4 σ H4 y z' u w' _ I4 r2 r4 q4) λd' s5 ⟨z2,H5,I5,r5,k2,e2,q5⟩=>?_));subst e2;cases r5;exact Ky ⟨H5,I5,q5⟩
theorem kD:(sizeLine:Nat)<2 ^ 63:=by rw[Kc];decide
theorem tT:gO X (oo .Add) (λx y H Q=>∃i j,x= .str i/\y= .str j/\i.length+j.length<=sizeLine/\Q (.str (i++j)) H):=by intro pins s σ H x y v u Q I Z Y h;obtain⟨i,j,rfl,rfl,W,q⟩:=h;obtain⟨t,rfl⟩:=Z;obtain⟨t',rfl⟩:=Y;exact add_str (λt' U=>⟨.str (i++j),H,I.tok _,⟨_,rfl⟩,q⟩) W
theorem vals1{x:V}{us:List aC}(r:aX [x] us):∃u,us=[u]/\RelV x u:=by
 cases r with
 |cons r1 r2=>cases r2;exact⟨_,rfl,r1⟩
theorem vals2{x y:V}{us:List aC}(r:aX [x,y] us):∃u w',us=[u,w']/\RelV x u/\RelV y w':=by
 cases r with
 |cons r1 r2=>
  cases r2 with
  |cons r3 r4=>cases r4;exact⟨_,_,rfl,r1,r3⟩
theorem wO(Z:X.calm=dr):b9 X (.builtin "max") (λxs H Q=>∃i j,xs=[.int i,.int j]/\Q (.int (if j>i then j else i)) H):=by
 intro pins s σ H xs us Q I r h;obtain⟨i,j,rfl,q⟩:=h;obtain⟨u,W,rfl,⟨t,rfl⟩,⟨t',rfl⟩⟩:=vals2 r;refine max_two_ints (I.ok.hd Z) λh' Y k=>⟨_,H,I.kept k,?_,q⟩;by_cases hj:j>i
 ·rw[if_pos hj,if_pos hj];exact⟨_,rfl⟩
 ·rw[if_neg hj,if_neg hj];exact⟨_,rfl⟩
theorem wQ(Z:X.calm=dr):b9 X (.builtin "min") (λxs H Q=>∃i j,xs=[.int i,.int j]/\Q (.int (if j<i then j else i)) H):=by
 intro pins s σ H xs us Q I r h;obtain⟨i,j,rfl,q⟩:=h;obtain⟨u,W,rfl,⟨t,rfl⟩,⟨t',rfl⟩⟩:=vals2 r;refine min_two_ints (I.ok.hd Z) λh' Y k=>⟨_,H,I.kept k,?_,q⟩;by_cases hj:j<i
 ·rw[if_pos hj,if_pos hj];exact⟨_,rfl⟩
 ·rw[if_neg hj,if_neg hj];exact⟨_,rfl⟩
theorem qb:b9 X (.type "str") (λxs H Q=>∃i,xs=[.int i]/\i.natAbs.log2<1920/\Q (.str (EW i)) H):=by intro pins s σ H xs us Q I r h;obtain⟨i,rfl,Z,q⟩:=h;obtain⟨u,rfl,t,rfl⟩:=vals1 r;exact PySem.P.str_of_int Z ⟨.str _,H,I.tok _,⟨_,rfl⟩,q⟩
end
structure ObjM(h:fc)(x dx C:c_)(mA:Str->Option aC):Prop where
 obj:h.get? x=ar (Ob C dx)
 ns:h.Ns1 dx mA
 ne:dx≠x
theorem wR{h:fc}{Y:c_}{X:Str->Option aC}(n:h.Ns1 Y X):∃od,h.get? Y=ar od/\∀name,Nx name od=ar (X name):=by
 obtain⟨o,es,ep,T,hd,S,_,hm⟩:=n;refine⟨o,T,λname=>?_⟩;have e:=hm name;unfold nsFind findBy at e;rw[<-Array.find?_toList]at e;unfold Nx;rw[hd];dsimp only;split
 ·rename_i y q
  rw[q]at e;exact KG ar e
 ·rename_i q
  rw[q]at e;have a:es.toList.any (·.refKey)=false:=by rw[List.any_eq_false];intro y R;obtain⟨z,t,Z⟩:=S y (Mf.mp R);simp[DictEntry.refKey,Z]
  have U:¬ es.toList.any (·.refKey)=true:=by rw[a];exact KI
  rw[if_neg U];exact KG ar e
theorem ObjM.look{h:fc}{x Y C:c_}{Z:Str->Option aC}(I:ObjM h x Y C Z):∃od,y_ h x (Ob C Y) C (ar od)/\∀name,Nx name od=ar (Z name):=
 let ⟨od,ho,hl⟩:=wR I.ns
 ⟨od,⟨I.obj,rfl,rfl,ho⟩,hl⟩
section
variable {prog:ee}{w:ey}{A:gd}{E:aC->b_->Prop}{s:b_}{K:dV}{x dx C f:c_}{mA:Str->Option aC}{name:Str}{v:aC}
end
theorem rK.some_of{v:V}{o:Option aC}(r:rK (ar v) o):∃u,o=ar u/\RelV v u:=by
 cases o with
 |none=>exact(show False from r).elim
 |some u=>exact⟨u,rfl,r⟩
theorem wU{v:V}{u:aC}(r:RelV v u):W.handedIn u=true:=by
 cases v with
 |non=>cases (show u=gg from r);rfl
 |bl b=>cases (show u=p4 b from r);rfl
 |int i=>obtain⟨t,e⟩:=(show ∃t,u=ly i t from r);cases e;rfl
 |str x=>obtain⟨t,e⟩:=(show ∃t,u=kS x t from r);cases e;rfl
 |byt b=>obtain⟨t,e⟩:=(show ∃t,u=Value.bytes b t from r);cases e;rfl
 |flt b=>obtain⟨t,e⟩:=(show ∃t,u=M7 b t from r);cases e;rfl
 |ref a=>cases (show u=eg a from r);rfl
 |ty n=>cases (show u=t_ n from r);rfl
section
variable {P:ee}{w:ey}{H H':Hp}{h h':fc}{a C dx:c_}{fs fs':List (Str×V)}
theorem dm(Y:e9 P w H h)(e:H a=ar (.ins C dx fs)):∃Z,ObjM h a dx C Z/\(∀f,rK (fs.lookup f) (Z f))/\PySem.Within Z (fs.map (·.1))/\fs.length<=1000/\H dx=ar (.own a):=by obtain⟨d,z,ne,X,Z,n,r,q⟩:=(show aW P w H h a (.ins C dx fs)from Y a _ e);exact⟨Z,⟨X,n,ne⟩,r,q,z,d⟩
end
structure Cls(K:dV)(C:c_):Prop where
 pg:W.plainGet K C nC=dr
 hd:W.hasDictIn K C=dr
 po:W.plainOver K C=dr
 sa:J_ K (.ref C) "__setattr__"=ar (ar (.builtin "object.__setattr__"))
theorem Cls.get{K:dV}{C:c_}(c:Cls K C)(f:Str):W.plainGet K C f=true:=c.pg
structure Con(K:dV)(C:c_)(f:Str)(v:V)(u:aC):Prop where
 at_:J_ K (.ref C) f=ar (ar u)
 rel:RelV v u
 get:W.specialIn K u "__get__"=ar none
 cp:W.copiedNames.contains f=dt
structure Meth(K:dV)(C:c_)(m:Str)(f:c_):Prop where
 at_:J_ K (.ref C) m=ar (ar (.ref f))
 fn:W.isFn K (.ref f)=dr
 kp:u5 K (.ref f)=dr
section
variable {X:Cx}{pins:List (c_×Obj)}{σ:St}{H:Hp}{s:b_}{a C dx:c_}{fs:List (Str×V)}{f:Str}{v:V}{A:gd}{E:aC->b_->Prop}
theorem Bz{prog:ee}{w:ey}{env:Env}{e:Expr}{f:Str}{pos:Pos}{s:b_}{Q:aC->b_->Prop}(Y:i1 e f env (f' e env)=f' e env)
  (h:eb (eK prog w) A (f' e env) (λo Z=>eb (eK prog w) A (OM o f dr) Q E Z) E s):eb (eK prog w) A (f' (.Attribute e f pos) env) Q E s:=
 Attribute_any_ h (by rw[arm_eval_Attribute,Y])
end
section
variable {X:Cx}{o e value:Expr}{f:Str}{pos pos' tpos:Pos}{ta tv:TE}
end
section
variable {X:Cx}{pins:List (c_×Obj)}{σ:St}{H:Hp}{s:b_}{A:gd}{E:aC->b_->Prop}{Q:aC->b_->Prop}{c:aC}{b:Bool}
inductive TyOf(K:dV)(H:Hp):V->aC->Prop where
 |non:TyOf K H .non (.type "NoneType")
 |bl (x:Bool):TyOf K H (.bl x) (.type "bool")
 |int (i:Int):TyOf K H (.int i) (.type "int")
 |str (x:Str):TyOf K H (.str x) (.type "str")
 |flt (x:UInt64):TyOf K H (.flt x) (.type "float")
 |lst {a:c_} {xs:List V} (e:H a=ar (.lst xs)):TyOf K H (.ref a) (.type "list")
 |frz {a:c_} {o:Obj} {xs:List V} (e:H a=ar (.frz o (.lst xs))):TyOf K H (.ref a) (.type "list")
 |tup {a:c_} {xs:List V} (e:H a=ar (.tup xs)):TyOf K H (.ref a) (.type "tuple")
 |dK {a:c_} {kvs:List (Key×V)} (e:H a=ar (.dK kvs)):TyOf K H (.ref a) (.type "dict")
 |dT {a:c_} {kvs:List (List Key×V)} (e:H a=ar (.dT kvs)):TyOf K H (.ref a) (.type "dict")
 | ins {a C dx:c_} {fs:List (Str×V)} (e:H a=ar (.ins C dx fs)) (cl:Cls K C) (ha:J_ K (.ref C) "__class__"=ar (ar (.builtin "object.__class__")))
   (hn:W.specialIn K (.builtin "object.__class__") "__get__"=ar (ar (.builtin "getset_descriptor.__get__"))) (htk:W.takesIn K (.builtin "object.__class__")=ar dr)
   (hm:W.mroIn K C (.type "object")=ar dr):TyOf K H (.ref a) (.ref C)
theorem wV{x:V}{u t:aC}(I:Inv X pins σ H s)(Z:RelV x u)(T:TyOf X.K H x t)(e:n3 X.K t c=ar b)(h:∀tk,Q (.bool b) {s with toks:=tk}):
  eb (eK X.prog X.w) A (call (.builtin "isinstance") [u,c]) Q E s:=by
 cases T with
 |non=>cases (show u=gg from Z);exact Kd MH I.kIn mu e (λz=>nomatch z) h
 |bl y=>cases (show u=p4 y from Z);exact Kd W.kitx_bool I.kIn mu e (λz=>nomatch z) h
 |int i=>obtain⟨t,q⟩:=(show ∃t,u=ly i t from Z);cases q;exact Kd W.kitx_int I.kIn mu e (λz=>nomatch z) h
 |str y=>obtain⟨t,q⟩:=(show ∃t,u=kS y t from Z);cases q;exact Kd W.kitx_str I.kIn mu e (λz=>nomatch z) h
 |flt y=>obtain⟨t,q⟩:=(show ∃t,u=M7 y t from Z);cases q;exact Kd W.kitx_float I.kIn mu e (λz=>nomatch z) h
 | @lst a xs ea=>
  cases (show u=eg a from Z);obtain⟨_,_,n,_,Y⟩:=(show aW X.prog X.w H s.heap a (.lst xs)from I.hok a _ ea);exact Kd LP I.kIn ⟨_,Y,rfl⟩ e (λz=>nomatch z) h
 | @frz a ob xs ea=>
  cases (show u=eg a from Z);obtain⟨_,_,_,n,_,Y⟩:=(show aW X.prog X.w H s.heap a (.frz ob (.lst xs))from I.hok a _ ea);exact Kd LP I.kIn ⟨_,Y,rfl⟩ e (λz=>nomatch z) h
 | @tup a xs ea=>
  cases (show u=eg a from Z);obtain⟨_,_,_,p⟩:=(show aW X.prog X.w H s.heap a (.tup xs)from I.hok a _ ea);obtain⟨o,Y,U,_⟩:=p;exact Kd W.kitx_tuple I.kIn ⟨o,Y,U⟩ e (λz=>nomatch z) h
 | @dK a kvs ea=>
  cases (show u=eg a from Z);obtain⟨_,_,vs,_,p⟩:=(show aW X.prog X.w H s.heap a (.dK kvs)from I.hok a _ ea);obtain⟨o,es,ep,Y,U,_⟩:=p;exact Kd LQ I.kIn ⟨o,Y,U.1⟩ e (λz=>nomatch z) h
 | @dT a kvs ea=>
  cases (show u=eg a from Z);obtain⟨_,_,xs,_,o,es,ep,Y,U,_⟩:=(show aW X.prog X.w H s.heap a (.dT kvs)from I.hok a _ ea);exact Kd LQ I.kIn ⟨o,Y,U.1⟩ e (λz=>nomatch z) h
 | @ins a C dx fs ea cl ha hn htk hm=>
  cases (show u=eg a from Z);obtain⟨S,O,_⟩:=dm I.hok ea;obtain⟨od,J,_⟩:=O.look;exact Kd (W.kitx_own (cl.get _) cl.hd ha hn htk hm) I.kIn J e (λz=>nomatch z) h
end
structure Room(k:Nat)(A:gd):Prop where
 hd:A.handled=none
 dp:A.depth+3*k+5<recursionLimit
 un:A.units+16*k+200<v_
theorem Room.mono{j k:Nat}{A:gd}(r:Room k A)(h:j<=k):Room j A:=⟨r.hd,by have:=r.dp;omega,by have:=r.un;omega⟩
theorem Room.deeper{k:Nat}{A:gd}(r:Room (k+1) A)(env:Env):Room k (A.deeper env):=
 ⟨r.hd,by have:=r.dp;show A.depth+1+3*k+5<_;omega,by have:=r.un;show A.units+3+16*k+200<_;omega⟩
theorem Room.depth{k:Nat}{A:gd}(r:Room k A):A.depth<recursionLimit:=by have:=r.dp;omega
def Ig:TA:=λ_ H Q=>Q [] H
def Ga(ta:TE)(tr:TA):TA:=λσ H Q=>ta σ H λx H1=>tr σ H1 λxs H2=>Q (x::xs) H2
section
variable {X:Cx}{e:Expr}{es:List Expr}{te:TE}{t:TA}{pos:Pos}
theorem jh:PA X [] Ig:=λ_ _ _ _ H Q I h=>Calls.spliced_nil ⟨[],H,I,.nil,h⟩
theorem dD(Y:PE X e te)(Z:PA X es t)(hs:d_ (e::es) X.env=(dt,f' e X.env)::d_ es X.env:=by rfl):PA X (e::es) (Ga te t):=by intro pos pins s σ H Q I h;rw[hs];show eb _ _ (spliced ((dt,f' e X.env)::p_ pos (d_ es X.env))) _ _ s;refine Calls.spliced_cons (cO (Y pins s σ H _ I h) λu s1 ⟨x,H1,I1,r1,q1⟩=>?_);exact cO (Z pos pins s1 σ H1 _ I1 q1) λus s2 ⟨xs,H2,I2,r2,q2⟩=>⟨x::xs,H2,I2,.cons r1 r2,q2⟩
def Ih(t:TA):TE:=λσ H Q=>t σ H λxs H1=>xs.length<=sizeLine/\∀p,H1 p=none->Q (.ref p) (upd H1 p (.tup xs))
def Ii(t:TA):TE:=λσ H Q=>t σ H λxs H1=>xs.length<=sizeLine/\∀p,H1 p=none->Q (.ref p) (upd H1 p (.lst xs))
theorem yt{x1}(h:PA X es t):PE X (.Tuple es x1 pos) (Ih t):=by intro pins s σ H Q I Z;refine wpAny_Tuple_spliced (cO (h pos pins s σ H _ I Z) λus s1 ⟨xs,H1,I1,r,z,q⟩=>⟨by rw[<-r.length];exact z,?_⟩);have hf:H1 s1.heap.objs.size=none:=I1.hok.fresh (Jw _);refine⟨.ref s1.heap.objs.size,upd H1 s1.heap.objs.size (.tup xs),I1.laid (t':=s1.toks) (λb u e=>Jv _ e) (Jw _) ?_,rfl,q _ hf⟩;exact⟨kA z,us,r,⟨_,JD _ rfl,rfl,_,rfl⟩⟩
theorem D0(h:PA X es t):PE X (.List es pos) (Ii t):=by intro pins s σ H Q I Z;refine wpAny_List_spliced (cO (h pos pins s σ H _ I Z) λus s1 ⟨xs,H1,I1,r,z,q⟩=>⟨by rw[<-r.length];exact z,?_⟩);have hf:H1 s1.heap.objs.size=none:=I1.hok.fresh (Jw _);refine⟨.ref s1.heap.objs.size,upd H1 s1.heap.objs.size (.lst xs),I1.laid (t':=s1.toks) (λb u e=>Jv _ e) (Jw _) ?_,rfl,q _ hf⟩;exact⟨z,us,0,r,JD _ rfl⟩
end
abbrev Sp:=List V->Hp->VK->XK->Prop
abbrev yc:=List Env->Hp->b_->XK->aC->b_->Prop
structure aB(P:ee)(w:ey)(K:dV)(mg:Str->Option aC)(base:fc)(A:gd)(outer:List Env)(s:b_)(H:Hp):Prop where
 frames:A.frames=ar outer
 mod:Mod K mg base
 bs:∀b o,base.get? b=ar o->s.heap.get? b=ar o/\H b=none
 bsz:base.objs.size<=s.heap.objs.size
 funs:s.heap.FunFrames base outer
 frf:∀b∈iq outer,H b=none
 hok:e9 P w H s.heap
 bare:x' s.gens
def CE(outer:List Env)(P:ee)(w:ey)(H:Hp)(s:b_)(Q:VK)(u:aC)(s':b_):Prop:=
 ∃v H',s'.os=s.os/\x' s'.gens/\Un (iq outer) [] H H' s.heap s'.heap/\e9 P w H' s'.heap/\RelV v u/\Q v H'
def CR(CX:yc)(outer:List Env)(P:ee)(w:ey)(H:Hp)(s:b_)(Q:VK)(E:XK)(r:OE)(s':b_):Prop:=
 match r with
 | .ok (.ret u)=>CE outer P w H s Q u s'
 | .ok _=>False
 | .error e=>CX outer H s E e s'
structure FnOk(P:ee)(w:ey)(K:dV)(mg:Str->Option aC)(base:fc)(CX:yc)(k:Nat)(f:c_)(fd:f_)(ps:List Str)(sp:Sp):Prop where
 len:∀vs H Q E,sp vs H Q E->vs.length=ps.length
 run:∀(A:gd) (outer:List Env) (s:b_) (H:Hp) (args:Args) (us:List aC) (vs:List V) (Q:VK) (E:XK),Room k A->aB P w K mg base A outer s H->G2 s fd args (ps.zip us)->aX vs us->sp vs H Q E->
  C_ (eK P w) A (.call (.ref f) args) (CR CX outer P w H s Q E) s
section
variable {X:Cx}{pins:List (c_×Obj)}{σ:St}{H:Hp}{s s':b_}
theorem Inv.env0(I:Inv X pins σ H s):aB X.prog X.w X.K X.mg X.base X.A X.stack s H:=
 ⟨I.ok.frames,I.ok.mod,I.bs,JG I.ok.bsz I.sz,I.stack,I.stkFree,I.hok,I.bare⟩
theorem Inv.after{Q:VK}{u:aC}(I:Inv X pins σ H s)(h:CE X.stack X.prog X.w H s Q u s'):EP X pins σ Q u s':=by obtain⟨v,U,os,bare,un,Z,r,q⟩:=h;obtain⟨W,g,d,t,Y⟩:=s';obtain rfl:Y=s.os:=os;exact⟨v,U,I.call (h':=W) (g':=g) (d':=d) (t':=t) (ch:=[]) un Z bare (λb z=>absurd z (by simp)),r,q⟩
end
def Gb(sp:Sp)(dvs:List V)(E:XK)(t:TA):TE:=λσ H Q=>t σ H λvs H1=>sp (vs++dvs) H1 Q E
def Binds(K:dV)(fd:f_)(ps:List Str)(ds:List aC):Prop:=
 ∀(s:b_) (us:List aC),K.In s.heap->(us++ds).length=ps.length->G2 s fd ⟨us,[]⟩ (ps.zip (us++ds))
theorem Binds.all{K:dV}{Y:f_}{Z:List Str}(h:∀us:List aC,us.length=Z.length->NX Y ⟨us,[]⟩=a_ (Z.zip us)):Binds K Y Z []:=λs us _ X=>by rw[Kn]at X⊢;exact .of_eq (h us X)
def mH(CX:yc)(X:Cx)(E:XK):Prop:=∀(pins:List (c_×Obj)) (σ:St) (H:Hp) (s:b_) (e:aC) (s':b_),Inv X pins σ H s->CX X.stack H s E e s'->X.xe e s'
section
variable {X:Cx}{CX:yc}{k:Nat}{f C:c_}{fd:f_}{ps:List Str}{sp:Sp}{dvs:List V}{ds:List aC}{E:XK}{x m:Str}{p pos apos:Pos}{e o:Expr}{es:List Expr}{ta:TE}{t:TA}
theorem D1{Z:List (c_×Obj)}{W:St}{H:Hp}{s:b_}{Q:VK}{us:List aC}{vs:List V}(F:FnOk X.prog X.w X.K X.mg X.base CX k f fd ps sp)(O:Room k X.A)(P:Binds X.K fd ps ds)(T:aX dvs ds)(S:mH CX X E)
  (I:Inv X Z W H s) (r:aX vs us) (h:sp (vs++dvs) H Q E):eb (eK X.prog X.w) X.A (call (.ref f) us) (EP X Z W Q) X.xe s:=by
 have U:aX (vs++dvs) (us++ds):=r.append T;have R:(us++ds).length=ps.length:=by rw[<-U.length];exact F.len _ _ _ _ h
 refine MI (Lg (F.run X.A X.stack s H ⟨us,[]⟩ (us++ds) (vs++dvs) Q E O I.env0 (P s us I.kIn R) U h) λr s' Y=>?_);cases r with
 |error e=>exact S Z W H s e s' I Y
 |ok fl=>
  cases fl with
  |ret u=>exact I.after Y
  |next=>exact g_ Y
  |brk=>exact g_ Y
  |cont=>exact g_ Y
theorem vi(F:FnOk X.prog X.w X.K X.mg X.base CX k f fd ps sp)(N:Room k X.A)(R:Gl X x)(L:X.mg x=ar (.ref f))(O:u5 X.K (.ref f)=dr)(P:Binds X.K fd ps ds)(T:aX dvs ds)(S:mH CX X E)
  (J:PA X (e::es) t) (Z:(x==("__debug__":Str))=false:=by decide) (U:d_ (e::es) X.env=(dt,f' e X.env)::d_ es X.env:=by rfl) (Y:(p_ pos (d_ es X.env)).any (·.1)=false:=by rfl):
  PE X (.Call (.Name x p) (e::es) [] pos) (Gb sp dvs E t):=by
 intro pins s σ H Q I h;refine Le (jF I R L ?_ Z);refine W.callWith_K (h₀:=X.base) I.ok.mod.kin O (cO (J pos pins s σ H _ I h) λus s1 ⟨vs,H1,I1,r,q⟩=>⟨I1.kIn,?_⟩) U Y;exact D1 F N P T S I1 r q
structure Mk(K:dV)(C f:c_):Prop where
 makes:W.makesIn K C=dr
 init:J_ K (.ref C) "__init__"=ar (ar (.ref f))
 fn:W.isFn K (.ref f)=dr
 kp:u5 K (.ref C)=dr
end
section
variable {X:Cx}{CX:yc}{k:Nat}{f C:c_}{fd:f_}{ps ks:List Str}{sp:Sp}{E:XK}{x m:Str}{p pos apos kpos:Pos}{e o:Expr}{es:List Expr}{kws:List NS}{te ta:TE}{t tk:TA}{nm:Option Str}
structure KBinds(K:dV)(fd:f_)(ps ks:List Str)(g:List aC->List aC->List aC)(gV:List V->List V->List V):Prop where
 to:∀(s:b_) (us ws:List aC),K.In s.heap->(g us ws).length=ps.length->G2 s fd ⟨us,ks.zip ws⟩ (ps.zip (g us ws))
 rel:∀{vs:List V} {us:List aC} {zs:List V} {ws:List aC},aX vs us->aX zs ws->aX (gV vs zs) (g us ws)
variable {g:List aC->List aC->List aC}{gV:List V->List V->List V}
end
structure FnScope(N P:List Str)(sc:Scope):Prop where
 kind:sc.kind= .function
 co:sc.isCoroutine=dt
 gen:sc.isGenerator=dt
 nd:N.Nodup
 pre:N.take P.length=P
 par:∀x∈P,sc.names.lookup x=ar .local\/sc.names.lookup x=ar .cell
 nofree:∀y∈sc.names,y.2≠ .free
theorem oY{Z:Str->Option k_}{x:Str}:∀{binds:List (Str×aC)} {m:Str->Option aC},(∀v,(x,v)∉binds)->NY Z binds m x=m x
 |[],_,_=>rfl
 | (n,v)::r,m,h=>by
  unfold NY;rw[oY λw hw=>h w (JF _ hw)];split
  ·have:x≠n:=by rintro rfl;exact h v JL
   simp[this]
  ·rfl
theorem oZ{Z:Str->Option k_}{x:Str}:∀{binds:List (Str×aC)} {m:Str->Option aC},(∀v,(x,v)∉binds)->NZ Z binds m x=m x
 |[],_,_=>rfl
 | (n,v)::r,m,h=>by
  unfold NZ;rw[oZ λw hw=>h w (JF _ hw)];split
  ·rfl
  ·have:x≠n:=by rintro rfl;exact h v JL
   simp[this]
theorem o6{Z:Str->Option k_}{x:Str}{v:aC}:∀{P:List Str} {vs:List aC} {i:Nat} {m:Str->Option aC},P.Nodup->P[i]? =ar x->vs[i]? =ar v->Z x=ar .local->
  NY Z (P.zip vs) m x=ar v
 |[],_,_,_,_,h,_,_=>by simp at h
 |_::_,[],_,_,_,_,h,_=>by simp at h
 |p::P,w::vs,0,m,nd,h1,h2,hk=>by
  simp at h1 h2;subst h1;subst h2;show NY Z ((p,w)::P.zip vs) m p=_;unfold NY;rw[oY λv Y=>(Ko.mp nd).1 (LB Y).1,if_pos hk];simp
 |p::P,w::vs,i+1,m,nd,h1,h2,hk=>by
  show NY Z ((p,w)::P.zip vs) m x=_;unfold NY;exact o6 (i:=i) (Ko.mp nd).2 (by simpa using h1) (by simpa using h2) hk
theorem o7{Z:Str->Option k_}{x:Str}{v:aC}:∀{P:List Str} {vs:List aC} {i:Nat} {m:Str->Option aC},P.Nodup->P[i]? =ar x->vs[i]? =ar v->Z x≠ar .local->
  NZ Z (P.zip vs) m x=ar v
 |[],_,_,_,_,h,_,_=>by simp at h
 |_::_,[],_,_,_,_,h,_=>by simp at h
 |p::P,w::vs,0,m,nd,h1,h2,hk=>by
  simp at h1 h2;subst h1;subst h2;show NZ Z ((p,w)::P.zip vs) m p=_;unfold NZ;rw[oZ λv Y=>(Ko.mp nd).1 (LB Y).1,if_neg hk];simp
 |p::P,w::vs,i+1,m,nd,h1,h2,hk=>by
  show NZ Z ((p,w)::P.zip vs) m x=_;unfold NZ;exact o7 (i:=i) (Ko.mp nd).2 (by simpa using h1) (by simpa using h2) hk
def start(N:List Str)(vs:List V):St:=vs.map ar++j1 (N.length - vs.length) none
def ji(CX:yc)(P:ee)(w:ey)(K:dV)(mg:Str->Option aC)(base:fc)(N:List Str)(qual:Str)(scope:Scope)(f:c_)(cd:aC)(A:gd)(outer:List Env)(s:b_)(H:Hp)(E:XK):Cx where
 prog:=P
 w:=w
 K:=K
 mg:=mg
 base:=base
 A:=A.deeper (z_ qual scope s.heap.objs.size f cd)
 N:=N
 s₀:=s
 H₀:=H
 env:=z_ qual scope s.heap.objs.size f cd
 outer:=outer
 stack:=z_ qual scope s.heap.objs.size f cd::outer
 ex:=[]
 calm:=dr
 fn:=λ_=>dr
 pn:=[]
 xe:=λe s'=>eb (eK P w) (A.deeper (z_ qual scope s.heap.objs.size f cd)) (Ni (z_ qual scope s.heap.objs.size f cd) e) (λ_ s''=>CX outer H s E e s'') (λe' s''=>CX outer H s E e' s'') s'
theorem rP{Z:Scope}{n:Nat}{x:Str}(h:Z.names.lookup x=ar .cell):∃c,(ip n Z.names []).lookup x=ar c:=by have q:=LM Z.names n [] (.inl h);exact Kr.mp q
theorem wW{B:yc}{P:ee}{w:ey}{K:dV}{I:Str->Option aC}{base:fc}{N X:List Str}{qual:Str}{scope:Scope}{f:c_}{O:aC}{A:gd}{outer:List Env}{s F:b_}{H:Hp}{E:XK}{us:List aC}{vs:List V}
  (S:FnScope N X scope) (t:A.handled=none) (Y:aB P w K I base A outer s H) (j:vs.length=X.length) (r:aX vs us)
  (x:InCallC s s.heap.objs.size (NY (z_ qual scope s.heap.objs.size f O).kindOf (X.zip us) λ_=>none) (ip (s.heap.objs.size+1) scope.names []) (NZ (z_ qual scope s.heap.objs.size f O).kindOf (X.zip us) λ_=>none) F):
  Inv (ji B P w K I base N qual scope f O A outer s H E) [] (start N vs) H F:=by
 have o:X.length<=N.length:=by have:=KG y' S.pre;rw[Lr]at this;omega
 obtain⟨L,d,rfl,G⟩:=x.done;have U:∀b:c_,b∉(ji B P w K I base N qual scope f O A outer s H E).ex:=λb z=>absurd (show b∈([]:List c_)from z) (by simp);refine⟨⟨Y.mod,S.kind,rfl,rfl,Jw _,λy z c L Z=>?_,λy T=>?_,λy c _ h=>?_,λ_=>t,Around.frames_deeper Y.frames,.inr ⟨rfl,rfl⟩,λb z=>absurd z (U b),Y.bs,Y.bsz,λb _ _=>U b,λb z=>absurd z (U b),Y.funs,Y.frf⟩,
  rfl,Y.bare,Un.kept G,⟨_,x.toInCall.ns,λi y v L Z g=>?_⟩,λy c h=>⟨_,x.cell y c h⟩,Y.hok.fresh (Jw _),λy c h=>?_,λp R=>absurd (show p∈([]:List (c_×Obj))from R) (by simp),Y.hok.kept G,?_⟩
 ·exact name_of_addr x.apart (K5 L) (K5 Z)
 ·have T:scope.names.lookup y=ar .cell\/scope.names.lookup y=ar .free:=T;rcases T with T|T
  ·exact rP T
  ·exact absurd rfl (S.nofree _ (K5 T))
 ·exact KS (x.above y c (K5 h))
 ·have J:i<vs.length:=by
   unfold start at Z;by_cases J:i<vs.length
   ·exact J
   ·rw[Ln (by simpa using J)]at Z;rw[List.getElem?_replicate]at Z;split at Z<;>cases Z
  have m:vs[i]? =ar v:=by
   unfold start at Z;rw[JZ (by simpa using J),JP]at Z;cases e:vs[i]? with
   |none=>rw[e]at Z;cases Z
   |some a=>rw[e]at Z;cases Z;rfl
  obtain⟨u,C,l⟩:=r.get m;have R:X[i]? =ar y:=by rw[<-S.pre,MJ (by omega)];exact L
  have Q:X.Nodup:=by rw[<-S.pre];exact S.nd.sublist (List.take_sublist _ _)
  refine⟨u,l,?_⟩;rcases S.par y (JV R)with k|k
  ·exact .inl ⟨k,o6 Q R C k⟩
  ·obtain⟨c,e⟩:=rP (n:=s.heap.objs.size+1) k;refine .inr ⟨.inl k,c,e,?_⟩;have q:=x.cell y c e;rw[o7 Q R C (by show scope.names.lookup y≠_;rw[k];decide)]at q;exact q
 ·exact Y.hok.fresh (KS (x.above y c (K5 h)))
 ·unfold start;show _=N.length;rw[JA,Jy,List.length_replicate];omega
theorem CZ{C:yc}{P:ee}{w:ey}{K:dV}{B:Str->Option aC}{base:fc}{k:Nat}{f:c_}{name qual:Str}{params:Nj}{body:List n_}{scope:Scope}{h kV R j Z ct oc:aC}{g od:Option c_}
  {p:Array (Option aC)} {N F:List Str} {sp:Sp} (c:K.lookup f=ar ⟨oc,od,.func (w_ name qual params body scope h kV R j g Z ct),p⟩) (z:M_ K Z qual=dr) (S:FnScope N F scope)
  (O:∀vs H Q E,sp vs H Q E->vs.length=F.length)
  (U:∀(A:gd) (outer:List Env) (s:b_) (H:Hp) (vs:List V) (Q:VK) (E:XK),Room k (A.deeper (z_ qual scope s.heap.objs.size f Z))->sp vs H Q E->
   ∃t,ot (ji C P w K B base N qual scope f Z A outer s H E) body t/\t {nx:=λ_ X=>Q .non X,rt:=Q} (start N vs) H):
  FnOk P w K B base C (k+1) f (w_ name qual params body scope h kV R j g Z ct) F sp:=by
 refine⟨O,λA outer s H args us vs Q E m L hb r G=>?_⟩;have d:=O _ _ _ _ G;have i:K.In s.heap:=L.mod.kin.keeps λb o e=>(L.bs b o e).1;have lim:s.heap.NoLimit:=L.mod.nolimit.keeps λb o e=>(L.bs b o e).1;have T:∀y∈F.zip us,scope.names.lookup y.1=ar .local\/(scope.names.lookup y.1=ar .cell/\((ip (s.heap.objs.size+1) scope.names []).lookup y.1).isSome=dr):=λ⟨n,v⟩ hy=>by
  rcases S.par n (LB hy).1 with q|q
  ·exact .inl q
  ·exact .inr ⟨q,LM _ _ _ (.inl q)⟩
 refine codeAny_call_function m.depth (i _ _ c) rfl S.co S.gen rfl (W.codeRec_of i z) (hb _ _ _ _ ?_);refine wpAny_newFunctionEnv_cells S.kind T λenv he s1 x=>?_;subst he;refine⟨lim.keeps x.toInCall.keep,codeAny_func ?_⟩;obtain⟨t,a,hq⟩:=U A outer s H vs Q E (m.deeper _) G;have I:Inv (ji C P w K B base N qual scope f Z A outer s H E) [] (start N vs) H s1:=wW S m.hd L d r x;refine Kx (a [] s1 (start N vs) H _ I hq) (λfl s' hs=>?_) λe s' hs=>hs;have fin:∀{Y:St} {X:Hp} {v:V} {u:aC},Inv (ji C P w K B base N qual scope f Z A outer s H E) [] Y X s'->RelV v u->Q v X->CE outer P w H s Q u s':=
  λ{Y X v u} J l q=>⟨v,X,J.os,J.bare,J.base,J.hok,l,q⟩
 cases fl with
 |ret u=>
  obtain⟨v,Y,X,J,l,q⟩:=hs;exact fin J l q
 |next=>
  obtain⟨Y,X,J,q⟩:=hs;exact fin (v:=V.non) (u:=gg) J rfl q
 |brk=>
  obtain⟨_,_,_,q⟩:=hs;exact g_ q
 |cont=>
  obtain⟨_,_,_,q⟩:=hs;exact g_ q
section
variable {X:Cx}{x:Str}{p pos:Pos}{e:Expr}{es:List Expr}{t:TA}{id T:String}{r:List V->Hp->VK->Prop}
def Ij(r:List V->Hp->VK->Prop)(t:TA):TE:=λσ H Q=>t σ H λvs H1=>r vs H1 Q
theorem iu(W:b9 X (.builtin id) r)(O:Gl X x)(P:X.mg x=none)(R:j3 x=ar (.builtin id))(N:PA X (e::es) t)(U:x≠"__name__":=by decide)(Z:(x==("__debug__":Str))=false:=by decide)
  (S:d_ (e::es) X.env=(dt,f' e X.env)::d_ es X.env:=by rfl) (Y:(p_ pos (d_ es X.env)).any (·.1)=false:=by rfl):PE X (.Call (.Name x p) (e::es) [] pos) (Ij r t):=by
 intro pins s σ H Q I h;refine Le (kC I O P R ?_ U Z);exact PyProof.Rows.callWith_builtin1 (cO (N pos pins s σ H _ I h) λus s1 ⟨vs,H1,I1,r1,q1⟩=>W pins s1 σ H1 vs us Q I1 r1 q1) S Y
theorem iT(W:b9 X (.type T) r)(O:Gl X x)(P:X.mg x=none)(R:j3 x=ar (.type T))(N:PA X (e::es) t)(U:x≠"__name__":=by decide)(Z:(x==("__debug__":Str))=false:=by decide)
  (S:d_ (e::es) X.env=(dt,f' e X.env)::d_ es X.env:=by rfl) (Y:(p_ pos (d_ es X.env)).any (·.1)=false:=by rfl):PE X (.Call (.Name x p) (e::es) [] pos) (Ij r t):=by
 intro pins s σ H Q I h;refine Le (kC I O P R ?_ U Z);exact KP (cO (N pos pins s σ H _ I h) λus s1 ⟨vs,H1,I1,r1,q1⟩=>W pins s1 σ H1 vs us Q I1 r1 q1) S Y
end
end L2
namespace HT
open PySem PyProof.Rows
def lexLt:List Int->List Int->Bool
 |[],[]=>dt
 |[],_::_=>dr
 |_::_,[]=>dt
 |x::xs,y::ys=>if x=y then lexLt xs ys else decide (x<y)
theorem lexLt_cons(x y:Int)(xs ys:List Int):lexLt (x::xs) (y::ys)=if x=y then lexLt xs ys else decide (x<y):=rfl
theorem ou:lexLt [] []=false:=rfl
theorem mI(y:Int)(ys:List Int):lexLt [] (y::ys)=true:=rfl
theorem mJ(x:Int)(xs:List Int):lexLt (x::xs) []=false:=rfl
theorem yu(A:gd)(s:b_)(a:Int)(t:Tok)(c:Int)(u:Tok):∃e,SeqAt.EqAt A s (.int a t) (.int c u) e/\(e=dr↔a=c):=
 ⟨(a==c),SeqAt.EqAt.int_int a t c u,by simp⟩
theorem yw(A:gd)(s:b_)(a:Int)(t:Tok)(c:Int)(u:Tok)(prog:ee)(w:ey)(E:aC->b_->Prop)(Q:aC->b_->Prop)(h:Q (.bool (decide (a<c))) s):
  eb (eK prog w) A (richCompare .Lt (.int a t) (.int c u)) Q E s:=
 (PyProof.Rows.lt_int h:eb (eK prog w) A (h9 .Lt (.int a t) (.int c u)) Q E s)
section
open PySem.SeqAt
open PySem.AutoSeq1 (wpAny_loadPart')
open PySem.MeetsSeq PySem.MeetsSeq2 PySem.MeetsSeq3
theorem oy(l b:c_)(Y Z:Array aC)(n H:Nat)(dd Q:Option c_)(J S:Array (Option aC))(ns W:List Int)(L:lx Y.toList ns)(N:lx Z.toList W):
  Meets (Builtin.«tuple.__lt__» ⟨[.ref l,.ref b],[]⟩)
   (λ_ R s=>s.heap.get? l=ar {cls:=.type "tuple",dict:=dd,data:=.seq Y n,slots:=J}/\s.heap.get? b=ar {cls:=.type "tuple",dict:=Q,data:=.seq Z H,slots:=S}/\
    R (.ok (.ret (.bool (lexLt ns W)))) s):=
 .of_wp λprog w A R s h=>by
  obtain⟨U,g,d,T,os⟩:=s;obtain⟨K,I,h⟩:=h;have f2:=AutoSeq1.sub_tuple_tuple;have G:Y.size=ns.length:=by rw[<-L.length];simp
  have F:Z.size=W.length:=by rw[<-N.length];simp
  wp_walk using wpAny_loadPart' K,wpAny_loadPart' I,L9 _ (λrest b s'=>b.1=none/\s'=⟨U,g,d,T,os⟩/\∃(vs ws:List aC) (ns' ms':List Int),rest=vs.zip ws/\
   lx vs ns'/\lx ws ms'/\ns'.length+Z.size=ms'.length+Y.size/\R (.ok (.ret (.bool (lexLt ns' ms')))) ⟨U,g,d,T,os⟩) _
  case turn=>
   rintro⟨y,x⟩ rest b s' ⟨hb',rfl,vs,ws,ns',ms',hz,hvi,hwi,hlen,hR⟩;cases hvi with
   |nil=>rw[List.zip_nil_left]at hz;cases hz
   | cons a t hvi'=>
    cases hwi with
    |nil=>rw[List.zip_nil_right]at hz;cases hz
    | cons c u hwi'=>
     rw[Mt]at hz;injection hz with hyx hrest;injection hyx with hy hx;subst hy hx;rw[lexLt_cons]at hR;simp only[m_]at hlen;obtain⟨e,he,X⟩:=yu A.in1 ⟨U,g,d,T,os⟩ a t c u;refine Ju (he prog w _ _ ?_);cases e with
     |true=>
      rw[if_pos (X.mp rfl)]at hR
      wp_walk
      exact⟨rfl,rfl,_,_,_,_,hrest,hvi',hwi',by omega,hR⟩
     |false=>
      rw[if_neg (λq=>absurd (X.mpr q) KI)]at hR;have P:=yw A.in1 ⟨U,g,d,T,os⟩ a t c u prog w
      wp_walk using P
      exact⟨_,rfl,by simpa using hR⟩
  case fin=>
   rintro⟨b1,b2⟩ s' ⟨hb',rfl,vs,ws,ns',ms',hz,hvi,hwi,hlen,hR⟩;simp only at hb';subst hb';have O:lexLt ns' ms'=decide (Y.size<Z.size):=by
    cases hvi with
    | nil=>
     cases hwi with
     |nil=>
      simp only[A2]at hlen;rw[ou];exact(J1 (by omega)).symm
     |cons c u hw=>
      simp only[A2,m_]at hlen;rw[mI];exact(JM (by omega)).symm
    | cons a t O=>
     cases hwi with
     |nil=>
      simp only[A2,m_]at hlen;rw[mJ];exact(J1 (by omega)).symm
     |cons c u hw=>
      rw[Mt]at hz;cases hz
   rw[O]at hR
   wp_walk
   exact⟨_,rfl,by simpa [Builtin.Tuple.tupleCompareSizes]using hR⟩
  case h=>
   exact⟨rfl,rfl,Y.toList,Z.toList,ns,W,rfl,L,N,by omega,h⟩
end
section
variable {prog:ee}{w:ey}{A:gd}{E:aC->b_->Prop}{s:b_}
theorem lt_tupInts{l b:c_}{Y Z:Array aC}{ns U:List Int}{Q:aC->b_->Prop}(K:Oa s.heap l Y)(J:Oa s.heap b Z)(H:lx Y.toList ns)(L:lx Z.toList U)
  (G:A.units<v_) (h:Q (.bool (lexLt ns U)) s):eb (eK prog w) A (h9 .Lt (.ref l) (.ref b)) Q E s:=by
 obtain⟨⟨cls,dd,data,N⟩,R,P,n,hd⟩:=id K;obtain⟨⟨O,S,data2,T⟩,X,W,I,hd2⟩:=id J;simp only at P hd W hd2;subst P hd W hd2;exact richCompare_meets_room (op:=.Lt) ⟨_,R,rfl⟩ ⟨_,X,rfl⟩ PySem.F.slot_tuple_lt PySem.F.entry_tuple_lt (PySem.F.args_tuple_lt_2 _ _) (oy l b Y Z n I dd S N T ns U H L)
  ⟨R,X,show p4 (lexLt ns U)≠Value.notImplemented/\Q (.bool (lexLt ns U)) s from⟨(λx=>nomatch x),h⟩⟩ G
theorem cat_tup{t b:c_}{vs ws:List aC}{Q:aC->b_->Prop}(I:Oa s.heap t vs.toArray)(K:Oa s.heap b ws.toArray)(R:vs≠[])
  (J:ws=[]->Q (.ref t) s) (L:ws≠[]->Q (.ref s.heap.objs.size) {s with heap:=s.heap.push {cls:=.type "tuple",data:=.seq (vs++ws).toArray}})
  (T:vs.length+ws.length<=sizeLine):eb (eK prog w) A (oo .Add (.ref t) (.ref b)) Q E s:=by
 obtain⟨⟨cls,dd,data,S⟩,U,P,n,hd⟩:=id I;obtain⟨⟨N,X,data2,Y⟩,Z,W,O,hd2⟩:=id K;simp only at P hd W hd2;subst P hd W hd2;have e:vs.toArray++ws.toArray=(vs++ws).toArray:=by simp
 by_cases hw:ws=[]
 ·exact Ny ⟨_,U,rfl⟩ ⟨_,Z,rfl⟩ MZ Nq LN LC (Ly _ _)
   (tuple_addW1 t b vs.toArray ws.toArray n O dd X S Y (by simpa using R) (by simp[hw])) ⟨U,Z,J hw⟩
 ·refine Ny ⟨_,U,rfl⟩ ⟨_,Z,rfl⟩ MZ Nq LN LC (Ly _ _)
   (tuple_addW2 t b vs.toArray ws.toArray n O dd X S Y (by simpa using R) (by simpa using hw) (by rw[JH,JH];exact T)) ⟨U,Z,?_⟩
  rw[e];exact L hw
def sIx(n d:Nat):Option Int->Nat
 |none=>d
 |some v=>if v<0 then (v+(n:Int)).toNat else min v.toNat n
theorem D3(n d:Nat)(Z:d<=n)(o:Option Int):sIx n d o<=n:=by
 cases o with
 |none=>exact Z
 |some v=>
  show(if v<0 then (v+(n:Int)).toNat else min v.toNat n)<=n;by_cases hv:v<0
  ·rw[if_pos hv];omega
  ·rw[if_neg hv];exact Nat.min_le_right _ _
theorem vj(v:Int)(n d:Nat):(if v<0 then max (v+(n:Int)) 0 else min v (n:Int))=((sIx n d (ar v):Nat):Int):=by
 show(if v<0 then max (v+(n:Int)) 0 else min v (n:Int))=(((if v<0 then (v+(n:Int)).toNat else min v.toNat n):Nat):Int);by_cases hv:v<0
 ·simp only[if_pos hv];omega
 ·simp only[if_neg hv];omega
theorem tU(Z Y:Option Int)(n:Nat):ri Z Y 1 (n:Int)=(((sIx n 0 Z:Nat):Int),((sIx n n Y:Nat):Int)):=by
 have X:¬ ((1:Int)<0):=by omega
 unfold ri;simp only[X,if_false];refine LX ?_ ?_
 ·cases Z with
  |none=>rfl
  |some v=>exact vj v n 0
 ·cases Y with
  |none=>rfl
  |some v=>exact vj v n n
theorem tV(i j:Nat):l6 (i:Int) (j:Int) 1=j - i:=by
 unfold l6;have Z:(1:Int)>0:=by omega
 simp only[Z,if_true,Int.ediv_one];split<;>omega
theorem mL{v:aC}{o:Option Int}{Q:Option Int->b_->Prop}(p:Nv v o)(h:Q o s):eb (eK prog w) A (Builtin.Slice.slicePartIndex v) Q E s:=by
 cases p with
 |none=>exact slicePart_none h
 |int i t=>exact slicePart_int h
theorem sliceApplied_gen{S:c_}{U T:aC}{Z W:Option Int}{n:Nat}{Q:Int×Int×Nat->b_->Prop}(hs:s.heap.IsSliceOf S U T .none)(R:Nv U Z)(O:Nv T W)
  (h:Q (((sIx n 0 Z:Nat):Int),1,sIx n n W - sIx n 0 Z) s):eb (eK prog w) A (Builtin.Slice.sliceApplied (.ref S) (a_ (n:Int))) Q E s:=by
 obtain⟨os,X,P,Y⟩:=id hs;unfold Builtin.Slice.sliceApplied Builtin.Slice.sliceFields;refine Ju (Ju (Kh X Y (x:=U) rfl (Ju (Kh X Y (x:=T) rfl (Ju (Kh X Y (x:=.none) rfl (Jx ?_)))))));refine Ju (slicePart_none ?_);show eb _ _ (if ((1:Int)==0)=dr then _ else _) _ _ s;rw[if_neg (by decide)];refine Ju (mL R (Ju (mL O (Ju (Jx ?_)))));show eb _ _ (match ri Z W 1 (n:Int)with|(Z,W)=>a_ (Z,(1:Int),l6 Z W 1)) _ _ s;rw[tU Z W n];show eb _ _ (a_ (((sIx n 0 Z:Nat):Int),(1:Int),l6 ((sIx n 0 Z:Nat):Int) ((sIx n n W:Nat):Int) 1)) _ _ s;rw[tV];exact Jx h
theorem yx(xs:Array aC)(i k:Nat):((e_ k).filterMap λ(m:Nat)=>xs[((i:Int)+(m:Int)*1).toNat]?).toArray=((xs.toList.drop i).take k).toArray:=by
 have e:(λ(m:Nat)=>xs[((i:Int)+(m:Int)*1).toNat]?)=λm=>xs[i+m]? :=by
  funext m;have:((i:Int)+(m:Int)*1).toNat=i+m:=by omega
  rw[this]
 rw[e];have:=pick_run xs i k;rw[List.filterMap_map]at this;have e2:((λx=>xs[x]?)∘λx=>i+x)=λm=>xs[i+m]? :=rfl;rw[e2]at this;rw[this]
theorem getItem_tuple_cut{t P:c_}{Z:Array aC}{N L:aC}{X W:Option Int}{Q:aC->b_->Prop}(U:Oa s.heap t Z)(hs:s.heap.IsSliceOf P N L .none)(K:Nv N X)(J:Nv L W)
  (I:¬ (sIx Z.size 0 X=0/\sIx Z.size Z.size W=Z.size))
  (h:Q (.ref s.heap.objs.size) {s with heap:=s.heap.push {cls:=.type "tuple",data:=.seq ((Z.toList.drop (sIx Z.size 0 X)).take (sIx Z.size Z.size W - sIx Z.size 0 X)).toArray}})
  (G:Z.size<=sizeLine):eb (eK prog w) A (Nz (.ref t) (.ref P)) Q E s:=by
 have Y:sizeOk (.seq ((Z.toList.drop (sIx Z.size 0 X)).take (sIx Z.size Z.size W - sIx Z.size 0 X)).toArray):=by show((Z.toList.drop (sIx Z.size 0 X)).take (sIx Z.size Z.size W - sIx Z.size 0 X)).toArray.size<=sizeLine;rw[JH,Lr,Ma,K6];omega
 have C:sIx Z.size Z.size W<=Z.size:=D3 _ _ (Jw _) W;obtain⟨os,S,R,H⟩:=id hs;have O:s.TypeIs (.ref P) "slice":=⟨os,S,R⟩;unfold Nz
 try with_reducible refine Kg ?_
 first|refine Ju (Jx ?_)|skip
 refine Ju (wpAny_sequenceKey U.typeIs (by decide) ?_);refine Ju (wpAny_callSpecial?_slot (name:=hI "__getitem__") U.typeIs Kz
  (Kk Kz U.typeIs entry_tuple_getitem ?_ (args_tuple_getitem _ _)))
 show eb _ _ (Builtin.Tuple.tupleItemsOf (.ref t)>>=_) _ _ s;refine Ju (tupleItemsOf_ U ?_);refine Ju (LZ O ?_);rw[if_pos (by decide)];refine Ju (sliceApplied_gen hs K J ?_);have T:¬ ((((sIx Z.size 0 X:Nat):Int)==0 && (1:Int)==1 && (sIx Z.size Z.size W - sIx Z.size 0 X)==Z.size)=dr):=by intro q;rw[Kq,Kq]at q;have B:((sIx Z.size 0 X:Nat):Int)=0:=Oc q.1.1;have F:sIx Z.size Z.size W - sIx Z.size 0 X=Z.size:=Oc q.2;exact I ⟨by omega,by omega⟩
 show eb _ _ (if (((sIx Z.size 0 X:Nat):Int)==0 && (1:Int)==1 && (sIx Z.size Z.size W - sIx Z.size 0 X)==Z.size)=dr then _ else _) _ _ s;rw[if_neg T,yx];first
  |exact Ju (m:=mv _) (Ka (Jx ⟨_,rfl,Jx h⟩) Y)
  |exact Ju (m:=mv _) (Ka (Ju (Jx (Jx ⟨_,rfl,Jx h⟩))) Y)
  |exact Ju (Ju (m:=mv _) (Ka (Jx (Jx ⟨_,rfl,Jx h⟩)) Y))
  |exact Ju (Ju (m:=mv _) (Ka (Jx ⟨_,rfl,Jx h⟩) Y))
end
end HT
namespace L2
open PySem PySem.Spec PyProof.Rows
abbrev TO:=St->Hp->(Option Int->Hp->Prop)->Prop
def PO(X:Cx)(e:Option Expr)(t:TO):Prop:=
 ∀(pins:List (c_×Obj)) (s:b_) (σ:St) (H:Hp) (Q:Option Int->Hp->Prop),Inv X pins σ H s->t σ H Q->
  eb (eK X.prog X.w) X.A (evalPart e X.env) (λu s'=>∃o H',Inv X pins σ H' s'/\Nv u o/\Q o H') X.xe s
def BA:TO:=λ_ H Q=>Q none H
def Gc(t:TE):TO:=λσ H Q=>t σ H λx H1=>∃i,x= .int i/\Q (ar i) H1
theorem MK{ns:List Int}:∀{us:List aC},aX (ns.map V.int) us->lx us ns:=by
 induction ns with
 |nil=>intro us r;rw[L3]at r;cases r;exact .nil
 | cons n ns ih=>
  intro us r;rw[JQ]at r;cases r with
  |cons r1 r2=>
   obtain⟨t,e⟩:=r1;subst e;exact .cons n t (ih r2)
section
variable {X:Cx}{e:Expr}{te:TE}{lo hi:Option Expr}{tl th:TO}{pos p2:Pos}
theorem BB:PO X none BA:=by intro pins s σ H Q I h;rw[evalPart_none];exact Jx ⟨none,H,I,.none,h⟩
theorem BC(h:PE X e te):PO X (ar e) (Gc te):=by intro pins s σ H Q I hw;rw[evalPart_some];refine cO (h pins s σ H _ I hw) λu s1 ⟨x,H1,I1,r1,q1⟩=>?_;obtain⟨i,rfl,q⟩:=q1;obtain⟨t,rfl⟩:=r1;exact⟨ar i,H1,I1,.int i t,q⟩
def C0(X:Cx)(r:V->Option Int->Option Int->Hp->VK->Prop):Prop:=
 ∀(pins:List (c_×Obj)) (s:b_) (σ:St) (H:Hp) (x:V) (v vl vu:aC) (lo hi:Option Int) (sl:c_) (Q:VK),Inv X pins σ H s->RelV x v->s.heap.IsSliceOf sl vl vu .none->Nv vl lo->Nv vu hi->r x lo hi H Q->
  ∃T id,typeLookup (.type T) "__getitem__"=a_ (ar (.builtin id))/\s.TypeIs v T/\eb (eK X.prog X.w) X.A (Nz v (.ref sl)) (EP X pins σ Q) X.xe s
theorem C0.or{r U:V->Option Int->Option Int->Hp->VK->Prop}(h:C0 X r)(h':C0 X U):C0 X (λx lo hi H Q=>r x lo hi H Q\/U x lo hi H Q):=by
 intro pins s σ H x v T S lo hi W Q I Y hs Z pu q;rcases q with q|q
 ·exact h pins s σ H x v T S lo hi W Q I Y hs Z pu q
 ·exact h' pins s σ H x v T S lo hi W Q I Y hs Z pu q
def Jf(r:V->Option Int->Option Int->Hp->VK->Prop)(te:TE)(tl th:TO):TE:=λσ H Q=>te σ H λx H1=>tl σ H1 λl H2=>th σ H2 λu H3=>r x l u H3 Q
theorem yy{r:V->Option Int->Option Int->Hp->VK->Prop}(R:C0 X r)(Z:PE X e te)(W:PO X lo tl)(P:PO X hi th):PE X (.Subscript e (.Slice lo hi none p2) pos) (Jf r te tl th):=by intro pins s σ H Q I h;refine Subscript_ (cO (Z pins s σ H _ I h) λv s1 ⟨x,H1,I1,r1,q1⟩=>?_);refine wpAny_Slice (cO (W pins s1 σ H1 _ I1 q1) λvl s2 ⟨l,H2,I2,pl,q2⟩=>cO (P pins s2 σ H2 _ I2 q2) λvu s3 ⟨u,H3,I3,pu,q3⟩=>?_);rw[evalPart_none];refine Jx ?_;have Y:Inv X pins σ H3 {s3 with heap:=s3.heap.push {cls:=.type "slice",data:=.fields #[vl,vu,.none]}}:=I3.kept (t':=s3.toks) λb N q=>Jv _ q;obtain⟨T,id,O,S,U⟩:=R pins {s3 with heap:=s3.heap.push {cls:=.type "slice",data:=.fields #[vl,vu,.none]}} σ H3 x v vl vu l u s3.heap.objs.size Q Y r1 (Heap.IsSliceOf.new ..) pl pu q3;show eb (eK X.prog X.w) X.A (subscriptTail e (.Slice lo hi none p2) v (.ref s3.heap.objs.size)) (EP X pins σ Q) X.xe {s3 with heap:=s3.heap.push {cls:=.type "slice",data:=.fields #[vl,vu,.none]}};exact tail_any (ops:=[.ref s3.heap.objs.size,v]) S O U (by with_unfolding_all rfl)
def oz(xs:List V)(lo hi:Option Int):List V:=(xs.drop (HT.sIx xs.length 0 lo)).take (HT.sIx xs.length xs.length hi - HT.sIx xs.length 0 lo)
theorem lu(xs:List V)(lo hi:Option Int):(oz xs lo hi).length<=xs.length:=by unfold oz;rw[Lr,Ma];omega
def Ik(K:dV):V->Option Int->Option Int->Hp->VK->Prop:=λx lo hi H Q=>∃a xs,x= .ref a/\jG K H a xs/\
 ¬ (HT.sIx xs.length 0 lo=0/\HT.sIx xs.length xs.length hi=xs.length)/\∀p,H p=none->Q (.ref p) (upd H p (.tup (oz xs lo hi)))
theorem D4:C0 X (Ik X.K):=by
 intro pins s σ H x v P O lo hi S Q I U hs W pu h;obtain⟨a,xs,rfl,T,hw,q⟩:=h;cases U;obtain⟨its,r,Z,Y⟩:=I.tuple T;have hlen:its.toArray.size=xs.length:=by rw[JH];exact r.length.symm
 refine⟨"tuple",_,PyProof.Rows.slot_tuple_getitem.lookup,Z.typeIs,?_⟩;refine HT.getItem_tuple_cut Z hs W pu (by rw[hlen];exact hw) ?_ (by rw[hlen];exact Y);rw[hlen];refine⟨.ref s.heap.objs.size,_,I.laid (t':=s.toks) (o:=.tup (oz xs lo hi)) (λb R q=>Jv _ q) (Jw _) ?_,rfl,q _ (I.hok.fresh (Jw _))⟩;exact⟨kA (JG (lu xs lo hi) Y),_,(r.drop (HT.sIx xs.length 0 lo)).take (HT.sIx xs.length xs.length hi - HT.sIx xs.length 0 lo),Nk _ _⟩
def Gd(K:dV):R2:=λx y H Q=>∃a b ns ms,x= .ref a/\y= .ref b/\jG K H a (ns.map V.int)/\jG K H b (ms.map V.int)/\Q (.bl (HT.lexLt ns ms)) H
theorem tW(N:X.A.units<v_):gO X (h9 .Lt) (Gd X.K):=by intro pins s σ H x y v u Q I Y W h;obtain⟨a,b,ns,ms,rfl,rfl,L,U,q⟩:=h;cases Y;cases W;obtain⟨its,S,P,_⟩:=I.tuple L;obtain⟨Z,T,p2,_⟩:=I.tuple U;have R:lx its.toArray.toList ns:=MK S;have O:lx Z.toArray.toList ms:=MK T;exact HT.lt_tupInts P p2 R O N ⟨.bl (HT.lexLt ns ms),H,I,rfl,q⟩
def Ge(K:dV):R2:=λx y H Q=>∃a b xs ys,x= .ref a/\y= .ref b/\jG K H a xs/\jG K H b ys/\xs≠[]/\xs.length+ys.length<=sizeLine/\
 (ys=[]->Q (.ref a) H)/\(ys≠[]->∀p,H p=none->Q (.ref p) (upd H p (.tup (xs++ys))))
theorem aX.nil_iff{xs:List V}{us:List aC}(r:aX xs us):us=[]↔xs=[]:=by
 cases r with
 |nil=>simp
 |cons _ _=>simp
theorem BD:gO X (oo .Add) (Ge X.K):=by intro pins s σ H x y v u Q I T P h;obtain⟨a,b,xs,ys,rfl,rfl,J,O,R,U,L,S⟩:=h;cases T;cases P;obtain⟨its,Y,N,_⟩:=I.tuple J;obtain⟨W,Z,p2,_⟩:=I.tuple O;refine HT.cat_tup N p2 (λz=>R (Y.nil_iff.mp z)) (λz=>⟨.ref a,H,I,rfl,L (Z.nil_iff.mp z)⟩) (λz=>?_) (by rw[<-Y.length, <-Z.length];exact U);refine⟨.ref s.heap.objs.size,_,I.laid (t':=s.toks) (o:=.tup (xs++ys)) (λb G q=>Jv _ q) (Jw _) ?_,rfl,S (λw=>z (Z.nil_iff.mpr w)) _ (I.hok.fresh (Jw _))⟩;exact⟨kA (by rw[JA];exact U),_,Y.append Z,Nk _ _⟩
end
def yd(n:Nat)(i:Int):Option Nat:=if 0<=i then (if i<n then ar i.toNat else none)else if -(n:Int)<=i then ar (i+n).toNat else none
def i9{α:Type}(xs:List α)(i:Int):Option α:=(yd xs.length i).bind λj=>xs[j]?
theorem vk{n:Nat}{i:Int}{j:Nat}(h:yd n i=ar j):NI i n=ar j/\j<n/\ -(n:Int)<=i/\i<n:=by
 unfold yd at h;by_cases h0:0<=i
 ·rw[if_pos h0]at h;by_cases h1:i<n
  ·rw[if_pos h1]at h;have e:i.toNat=j:=JW h;exact⟨by rw[NO h0 h1,e],by omega,by omega,h1⟩
  ·rw[if_neg h1]at h;cases h
 ·rw[if_neg h0]at h;by_cases h1: -(n:Int)<=i
  ·rw[if_pos h1]at h;have e:(i+n).toNat=j:=JW h;exact⟨by rw[seqIndex_neg (by omega) h1,e],by omega,h1,by omega⟩
  ·rw[if_neg h1]at h;cases h
theorem qc{Z:Type}{xs:List Z}{i:Int}{v:Z}(h:i9 xs i=ar v):∃j,NI i xs.length=ar j/\xs[j]? =ar v/\j<xs.length/\ -(xs.length:Int)<=i/\i<xs.length:=by
 unfold i9 at h;cases e:yd xs.length i with
 |none=>rw[e]at h;cases h
 |some j=>
  rw[e]at h;obtain⟨Y,W,X,U⟩:=vk e;exact⟨j,Y,h,W,X,U⟩
def lZ(b:Expr):Prop:=∀o i,subscripted b dt o i=operate [o,i] (Nz o i)
def Bh(X:Cx)(r:R2):Prop:=
 ∀(value slice:Expr) (pins:List (c_×Obj)) (s:b_) (σ:St) (H:Hp) (x y:V) (v u:aC) (Q:VK),Inv X pins σ H s->RelV x v->RelV y u->r x y H Q->
  subscripted slice dt v u=operate [v,u] (Nz v u)->eb (eK X.prog X.w) X.A (subscriptTail value slice v u) (EP X pins σ Q) X.xe s
def D5(X:Cx)(id:String)(r:V->List V->Hp->VK->Prop):Prop:=
 ∀(pins:List (c_×Obj)) (s:b_) (σ:St) (H:Hp) (x:V) (xs:List V) (v:aC) (us:List aC) (Q:VK),Inv X pins σ H s->RelV x v->aX xs us->r x xs H Q->
  eb (eK X.prog X.w) X.A (call (.builtin id) (v::us)) (EP X pins σ Q) X.xe s
section
variable {X:Cx}{a b:Expr}{ta tb:TE}{pos:Pos}
theorem Bh.or{r W:R2}(h:Bh X r)(h':Bh X W):Bh X (λx y H Q=>r x y H Q\/W x y H Q):=by
 intro value slice pins s σ H x y v u Q I Z Y q hs;rcases q with q|q
 ·exact h value slice pins s σ H x y v u Q I Z Y q hs
 ·exact h' value slice pins s σ H x y v u Q I Z Y q hs
theorem Gf{r:R2}(T:Bh X r)(R:PE X a ta)(U:PE X b tb)(hs:lZ b):PE X (.Subscript a b pos) (F4 r ta tb):=by intro pins s σ H Q I h;exact Subscript_ (DS R U I h λv u s2 x y S Z Y W q=>T a b pins s2 σ S x y v u Q Z Y W q (hs _ _))
def Gg(K:dV):R2:=λx y H Q=>∃p xs i v,x= .ref p/\y= .int i/\ir K H p xs/\i9 xs i=ar v/\Q v H
def Gh(K:dV):R2:=λx y H Q=>∃p xs i v,x= .ref p/\y= .int i/\jG K H p xs/\i9 xs i=ar v/\Q v H
def D6:R2:=λx y H Q=>∃z i c,x= .str z/\y= .int i/\z.length<=sizeLine/\i9 z.cps.toList i=ar c/\Q (.str ⟨#[c]⟩) H
theorem BE:Bh X (Gg X.K):=by
 intro value slice pins s σ H x y v u Q I N O h hs;obtain⟨p,xs,i,z,rfl,rfl,J,he,q⟩:=h;cases N;obtain⟨t,rfl⟩:=O;obtain⟨its,r,Y,G⟩:=I.list J;obtain⟨j,Z,S,E,L,R⟩:=qc he;obtain⟨w,T,W⟩:=r.get S;have P:=r.length;have F:=kD;have fin:EP X pins σ Q w s:=⟨z,H,I,W,q⟩;by_cases h0:0<=i
 ·have U:i.toNat=j:=by
   rw[NO h0 R]at Z;exact JW Z
  exact item_listR Y.isList h0 (by omega) (by rw[U];simpa using T) fin hs
 ·have U:(i+(its.toArray.size:Int)).toNat=j:=by
   rw[seqIndex_neg (by omega) L]at Z;rw[JH, <-P];exact JW Z
  exact subscriptTail_builtinR (x:=w) Y.isList.typeIs slot_list_getitem.lookup
   (wpAny_getItem_list_neg (Q:=λr s'=>r=w/\EP X pins σ Q r s') Y.isList (by omega) (by rw[JH]<;>omega) (by omega) (by rw[U];simpa using T) ⟨rfl,fin⟩) hs
theorem D7:Bh X (Gh X.K):=by
 intro value slice pins s σ H x y v u Q I S T h hs;obtain⟨p,xs,i,z,rfl,rfl,R,he,q⟩:=h;cases S;obtain⟨t,rfl⟩:=T;obtain⟨its,r,Y,L⟩:=I.tuple R;obtain⟨j,P,W,G,F,N⟩:=qc he;obtain⟨w,O,Z⟩:=r.get W;have U:=r.length;have J:=kD;have fin:EP X pins σ Q w s:=⟨z,H,I,Z,q⟩;exact subscriptTail_builtinR (x:=w) Y.typeIs slot_tuple_getitem.lookup
  (getItem_tuple (j:=j) (Q:=λr s'=>r=w/\EP X pins σ Q r s') Y (by omega) (by omega) (by rw[JH, <-U];exact P) (by simpa using O) ⟨rfl,fin⟩) hs
theorem yz:Bh X D6:=by
 intro value slice pins s σ H x y v u Q I Y R h hs;obtain⟨z,i,c,rfl,rfl,N,he,q⟩:=h;obtain⟨t,rfl⟩:=Y;obtain⟨t',rfl⟩:=R;obtain⟨j,Z,W,O,S,U⟩:=qc he;have T:z.cps.toList.length=z.length:=by simp[Str.length]
 rw[T]at Z S U;have P:=kD;exact tail_any (Mj s z t) slot_str_getitem.lookup (getItem_str (c:=c) (by have e1:decide (i< -(2 ^ 63:Int))=false:=J1 (by omega);have e2:decide (i ≥ 2 ^ 63)=false:=J1 (by omega);rw[e1,e2,Bool.or_false]) (by rw[Z];simpa using W) ⟨.str ⟨#[c]⟩,H,I.tok _,⟨_,rfl⟩,q⟩) hs
def IS(K:dV):R2:=λx y H Q=>Gg K x y H Q\/Gh K x y H Q\/D6 x y H Q
theorem D8:Bh X (IS X.K):=BE.or (D7.or yz)
theorem tX(its:List aC)(n j:Nat)(u:aC):k4 (·.setIfInBounds j u) {cls:=.type "list",data:=.seq its.toArray n}={cls:=.type "list",data:=.seq (its.set j u).toArray n}:=by simp[k4]
theorem Inv.lst{Z:List (c_×Obj)}{Y:St}{H:Hp}{s:b_}{p:c_}{xs:List V}(I:Inv X Z Y H s)(h:H p=ar (.lst xs)):
  ∃(its:List aC) (n:Nat),aX xs its/\s.heap.get? p=ar {cls:=.type "list",data:=.seq its.toArray n}/\xs.length<=sizeLine:=by
 obtain⟨z,its,n,r,e⟩:=I.hok p _ h;exact⟨its,n,r,e,z⟩
theorem Inv.lstUpd{Z:List (c_×Obj)}{U:St}{H:Hp}{s:b_}{p:c_}{xs ys:List V}{its its':List aC}{n Y:Nat}{f:Obj->Obj}(I:Inv X Z U H s)(h:H p=ar (.lst xs))
  (T:s.heap.get? p=ar {cls:=.type "list",data:=.seq its.toArray n}) (W:f {cls:=.type "list",data:=.seq its.toArray n}={cls:=.type "list",data:=.seq its'.toArray Y}) (r:aX ys its') (R:ys.length<=sizeLine) (t:Nat):
  Inv X Z U (upd H p (.lst ys)) {s with heap:=s.heap.update p f,toks:=t}:=by
 have e:(s.heap.update p f).get? p=ar {cls:=.type "list",data:=.seq its'.toArray Y}:=by rw[Ki f T (by rw[W]<;>rfl),W]
 refine I.write (x:=p) (e:=p) (by rw[h];trivial) (.inl rfl) (λb u S q=>(J6 _ _ (i2 S)).trans q) ⟨_,e⟩ ?_;exact⟨R,its',Y,r,e⟩
def C1:V->V->V->Hp->(Hp->Prop)->Prop:=λo i v H Q=>∃p xs k j,o= .ref p/\i= .int k/\H p=ar (.lst xs)/\yd xs.length k=ar j/\Q (upd H p (.lst (xs.set j v)))
theorem set_list:FU X C1:=by
 intro pins s σ H o i v C F u Q I G K L h;obtain⟨p,xs,k,j,rfl,rfl,R,J,q⟩:=h;cases G;obtain⟨t,rfl⟩:=K;obtain⟨its,n,r,T,N⟩:=I.lst R;obtain⟨Z,E,P,O⟩:=vk J;have Y:=r.length;have B:=kD;have S:Inv X pins σ (upd H p (.lst (xs.set j v))) {s with heap:=s.heap.update p (k4 (·.setIfInBounds j u))}:=
  I.lstUpd R T (tX its n j u) (r.set L j) (by rw[LD];exact N) s.toks
 by_cases h0:0<=k
 ·have U:k.toNat=j:=by
   rw[NO h0 O]at Z;exact JW Z
  exact W.ki_setAt T h0 (by omega) (by rw[JH, <-Y];exact O) (by rw[U];exact⟨_,S,q⟩)
 ·have U:(k+(its.toArray.size:Int)).toNat=j:=by
   rw[seqIndex_neg (by omega) P]at Z;rw[JH, <-Y];exact JW Z
  exact W.ki_setBack T (by omega) (by rw[JH, <-Y];exact P) (by omega) (by rw[U];exact⟨_,S,q⟩)
theorem qd(Z Y:Option Int)(n:Nat):(u2 Z Y none n).1=((HT.sIx n 0 Z:Nat):Int)/\(u2 Z Y none n).2.1=((HT.sIx n n Y:Nat):Int)/\(u2 Z Y none n).2.2=1:=by
 refine⟨?_,?_,rfl⟩
 ·cases Z with
  |none=>simp[u2,HT.sIx]
  |some i=>
   simp only[u2,HT.sIx,Option.getD_none,show(1:Int)>0 by decide,if_true];by_cases h:i<0
   ·simp only[h,if_true]<;>omega
   ·simp only[h,if_false]<;>omega
 ·cases Y with
  |none=>simp[u2,HT.sIx]
  |some i=>
   simp only[u2,HT.sIx,Option.getD_none,show(1:Int)>0 by decide,if_true];by_cases h:i<0
   ·simp only[h,if_true]<;>omega
   ·simp only[h,if_false]<;>omega
theorem oA(its:List aC)(Z Y:Option Int):slicePick its.toArray Z Y none=((its.drop (HT.sIx its.length 0 Z)).take (HT.sIx its.length its.length Y - HT.sIx its.length 0 Z)).toArray:=by obtain⟨W,U,T⟩:=qd Z Y its.toArray.size;unfold slicePick;rw[W,U,T];simp only[sliceRange_one,pick_run,k']<;>rfl
def Il(K:dV):V->Option Int->Option Int->Hp->VK->Prop:=λx lo hi H Q=>∃a xs,x= .ref a/\ir K H a xs/\∀p,H p=none->Q (.ref p) (upd H p (.lst (oz xs lo hi)))
theorem BF:C0 X (Il X.K):=by intro pins s σ H x v O N lo Z R Q I U hs W pu h;obtain⟨a,xs,rfl,T,q⟩:=h;cases U;obtain⟨its,r,Y,S⟩:=I.list T;have hlen:=r.length;refine⟨"list",_,slot_list_getitem.lookup,Y.isList.typeIs,?_⟩;refine wpAny_getItem_list_slice Y.isList hs W pu .none (by simp) ?_ (by rw[JH]<;>omega);rw[oA, <-hlen];refine⟨.ref s.heap.objs.size,_,I.laid (t':=s.toks) (o:=.lst (oz xs lo Z)) (λb P q=>Jv _ q) (Jw _) ?_,rfl,q _ (I.hok.fresh (Jw _))⟩;exact⟨JG (lu xs lo Z) S,_,0,(r.drop (HT.sIx xs.length 0 lo)).take (HT.sIx xs.length xs.length Z - HT.sIx xs.length 0 lo),JD _ rfl⟩
theorem qe:b9 X (.builtin "len") (λxs H Q=>∃p ys,xs=[.ref p]/\(ir X.K H p ys\/jG X.K H p ys)/\Q (.int ys.length) H):=by
 intro pins s σ H xs us Q I r h;obtain⟨p,ys,rfl,Z,q⟩:=h;obtain⟨u,rfl,U⟩:=vals1 r;cases U;have S:=kD;rcases Z with Z|Z
 ·obtain⟨its,W,Y,T⟩:=I.list Z;have hlen:=W.length;exact Calls.call_len_list Y.isList (by simp only[k']<;>omega) ⟨.int ys.length,H,I.tok _,⟨s.toks+1,by rw[JH,hlen]⟩,q⟩
 ·obtain⟨its,W,Y,T⟩:=I.tuple Z;have hlen:=W.length;exact len_tuple Y (by simp only[k']<;>omega) ⟨.int ys.length,H,I.tok _,⟨s.toks+1,by rw[JH,hlen]⟩,q⟩
theorem qf:b9 X (.builtin "len") (λxs H Q=>∃z,xs=[.str z]/\z.length<=sizeLine/\Q (.int z.length) H):=by intro pins s σ H xs us Q I r h;obtain⟨z,rfl,Y,q⟩:=h;obtain⟨u,rfl,t,rfl⟩:=vals1 r;have Z:=kD;exact len_str (by omega) ⟨.int z.length,H,I.tok _,⟨_,rfl⟩,q⟩
theorem b9.or{f:aC}{r Z:List V->Hp->VK->Prop}(h:b9 X f r)(h':b9 X f Z):b9 X f (λxs H Q=>r xs H Q\/Z xs H Q):=by
 intro pins s σ H xs us Q I rs q;rcases q with q|q
 ·exact h pins s σ H xs us Q I rs q
 ·exact h' pins s σ H xs us Q I rs q
theorem qg:b9 X (.type "list") (λxs H Q=>∃p ys,xs=[.ref p]/\(ir X.K H p ys\/jG X.K H p ys)/\∀l,H l=none->Q (.ref l) (upd H l (.lst ys))):=by
 intro pins s σ H xs us Q I r h;obtain⟨p,ys,rfl,W,q⟩:=h;obtain⟨u,rfl,O⟩:=vals1 r;cases O;have fin:∀(its:List aC),aX ys its->ys.length<=sizeLine->∀(h':fc) (Z:Nat),(∀b o',s.heap.get? b=ar o'->h'.get? b=ar o')->
   h'.get? s.heap.objs.size=ar {cls:=.type "list",dict:=none,data:=.seq its.toArray Z,slots:= #[]}->EP X pins σ Q (.ref s.heap.objs.size) {s with heap:=h'}:=λits Y U h' Z T e=>
  ⟨.ref s.heap.objs.size,_,I.laid (t':=s.toks) T (Jw _) (show aW X.prog X.w _ h' _ (.lst ys)from⟨U,its,Z,Y,e⟩),rfl,q _ (I.hok.fresh (Jw _))⟩
 rcases W with W|W
 ·obtain⟨its,Y,S,U⟩:=I.list W;have hlen:=Y.length;obtain⟨o,R,P,n,hd⟩:=S.isList;exact call_list_seq p (.inl rfl) R P hd (λh' Z T e=>fin its Y U h' Z T e) (by simp only[k']<;>omega)
 ·obtain⟨its,Y,S,U⟩:=I.tuple W;have hlen:=Y.length;obtain⟨o,R,P,n,hd⟩:=S;exact call_list_seq p (.inr rfl) R P hd (λh' Z T e=>fin its Y U h' Z T e) (by simp only[k']<;>omega)
theorem oB:b9 X (.type "tuple") (λxs H Q=>∃p ys,xs=[.ref p]/\((ir X.K H p ys/\∀l,H l=none->Q (.ref l) (upd H l (.tup ys)))\/(jG X.K H p ys/\Q (.ref p) H))):=by
 intro pins s σ H xs us Q I r h;obtain⟨p,ys,rfl,h⟩:=h;obtain⟨u,rfl,S⟩:=vals1 r;cases S;rcases h with⟨hq,q⟩|⟨hq,q⟩
 ·obtain⟨its,Y,Z,U⟩:=I.list hq;have hlen:=Y.length;refine call_tuple_list Z.isList (λh' R=>?_) (by simp only[k']<;>omega);have W:Inv X pins σ H {s with heap:=h'}:=I.kept (t':=s.toks) R;have T:Inv X pins σ (upd H h'.objs.size (.tup ys)) {s with heap:=h'.push {cls:=.type "tuple",data:=.seq its.toArray}}:=
   W.laid (t':=s.toks) (λb o e=>Jv _ e) (Jw _) (show aW X.prog X.w _ _ _ (.tup ys)from⟨kA U,its,Y,Nk _ _⟩)
  exact⟨.ref h'.objs.size,_,T,rfl,q _ (W.hok.fresh (Jw _))⟩
 ·obtain⟨its,Y,Z,U⟩:=I.tuple hq;exact call_tuple_same Z ⟨.ref p,H,I,rfl,q⟩
def Im(K:dV)(T:String)(x:V)(H:Hp):Prop:=match x with
 | .str _=>T="str"
 | .int _=>T="int"
 | .ref p=>(T="list"/\∃xs,ir K H p xs)\/(T="tuple"/\∃xs,H p=ar (.tup xs))\/
   (T="dict"/\((∃kvs,H p=ar (.dK kvs))\/∃kvs,H p=ar (.dT kvs)))\/(T="set"/\∃S n,H p=ar (.set S n))
 |_=>False
theorem D9{Z:List (c_×Obj)}{U:St}{H:Hp}{s:b_}{T:String}{x:V}{v:aC}(I:Inv X Z U H s)(r:RelV x v)(Y:Im X.K T x H):
  s.TypeIs v T/\∀a,v= .ref a->∃ob,s.heap.get? a=ar ob/\ob.dict=none:=by
 cases x with
 |str z=>
  obtain⟨t,rfl⟩:=r;cases (show T="str" from Y);exact⟨Mj s z t,λ_ e=>nomatch e⟩
 |int i=>
  obtain⟨t,rfl⟩:=r;cases (show T="int" from Y);exact⟨typeIs_int s i t,λ_ e=>nomatch e⟩
 | ref p=>
  cases r;rcases Y with⟨rfl,xs,hq⟩|⟨rfl,xs,hk⟩|⟨rfl,hk⟩|⟨rfl,S,n,hk⟩
  ·obtain⟨its,_,W,_⟩:=I.list hq;refine⟨W.isList.typeIs,λa e=>?_⟩;cases e;obtain⟨o,n,e,c,hd,_⟩:=W;exact⟨o,e,hd⟩
  ·obtain⟨⟨_,o,e,hd⟩,its,_,pt⟩:=(show aW X.prog X.w H s.heap p (.tup xs)from I.hok p _ hk);refine⟨pt.typeIs,λa e2=>?_⟩;cases e2;exact⟨o,e,hd⟩
  ·have z:∃o,s.heap.get? p=ar o/\o.ExactDict:=by
    rcases hk with⟨kvs,hk⟩|⟨kvs,hk⟩
    ·obtain⟨_,_,_,_,o,_,_,e,ex,_⟩:=I.hok p _ hk;exact⟨o,e,ex⟩
    ·obtain⟨_,_,_,_,o,_,_,e,ex,_⟩:=I.hok p _ hk;exact⟨o,e,ex⟩
   obtain⟨o,e,ex⟩:=z;refine⟨⟨o,e,ex.1⟩,λa e2=>?_⟩;cases e2;exact⟨o,e,ex.2.1⟩
  ·obtain⟨o,_,_,_,e,ex,_⟩:=I.hok p _ hk;refine⟨⟨o,e,ex.1⟩,λa e2=>?_⟩;cases e2;exact⟨o,e,ex.2.1⟩
 |_=>exact g_ Y
def Jg(K:dV)(T:String)(r:V->List V->Hp->VK->Prop)(to:TE)(t:TA):TE:=λσ H Q=>to σ H λx H1=>Im K T x H1/\t σ H1 λxs H2=>r x xs H2 Q
variable {o e:Expr}{es:List Expr}{to:TE}{t:TA}{name:Str}{apos cpos:Pos}{T id:String}{r:V->List V->Hp->VK->Prop}
theorem C3(O:PlainAttrs T)(U:Slot T name id)(R:OF (.builtin id)=a_ (.type "method_descriptor"))(G:D5 X id r)(L:PE X o to)(F:PA X (e::es) t)
  (Y:i1 o name X.env (f' o X.env)=f' o X.env:=by rfl)
  (S:((p_ cpos (d_ (e::es) X.env)).all (λx=> !x.1) && (backToKw cpos (keywordEach [] X.env)).all (λx=>x.1.isSome)
   && decide ((e::es).length+([]:List NS).length+(if ([]:List NS).isEmpty then 0 else 1)<30))=true:=by rfl)
  (W:(apos.endLine==cpos.line)=true:=by rfl) (hs:d_ (e::es) X.env=(dt,f' e X.env)::d_ es X.env:=by rfl) (Z:(p_ cpos (d_ es X.env)).any (·.1)=false:=by rfl):
  PE X (.Call (.Attribute o name apos) (e::es) [] cpos) (Jg X.K T r to t):=by
 intro pins s σ H Q I h;refine wpAny_Call_method_late Y S W rfl (cO (L pins s σ H _ I h) λv s1 ⟨x,H1,I1,r1,ty,q1⟩=>?_);obtain⟨J,N⟩:=D9 I1 r1 ty;refine⟨T,id,O,U,R,J,N,?_⟩;have P:=F cpos pins s1 σ H1 _ I1 q1;rw[hs]at P⊢;refine Calls.callWith_builtin (by show(dt||(p_ cpos (d_ es X.env)).any (·.1))=dt;rw[Z]<;>rfl) (Calls.evalArgs_plain ?_);exact cO P λus s2 ⟨vs,H2,I2,r2,q2⟩=>G pins s2 σ H2 x vs v us Q I2 r1 r2 q2
end
def IT(X:Cx)(id:String)(r:V->List V->Hp->VK->Prop):Prop:=
 ∀(pins:List (c_×Obj)) (s:b_) (σ:St) (H:Hp) (x:V) (xs:List V) (v:aC) (us:List aC) (Q:VK),Inv X pins σ H s->RelV x v->aX xs us->r x xs H Q->
  eb (eK X.prog X.w) X.A (call (.builtin id) (v::us)) (EP X pins σ Q) X.xe s
theorem aX.one:∀{x:V} {us:List aC},aX [x] us->∃u,us=[u]/\RelV x u
 |_,_,.cons r .nil=>⟨_,rfl,r⟩
theorem aX.eraseIdx:∀{xs:List V} {us:List aC} (i:Nat),aX xs us->aX (xs.eraseIdx i) (us.eraseIdx i)
 |_,_,_,.nil=>.nil
 |_,_,0,.cons _ t=>t
 |_,_,i+1,.cons r t=>.cons r (aX.eraseIdx i t)
theorem o8{Z:Type}:∀(l:List Z) (i:Nat),(l.eraseIdx i).length<=l.length
 |[],_=>Jw _
 |_::_,0=>LR _
 |_::r,i+1=>Mb (o8 r i)
section
variable {X:Cx}{pins:List (c_×Obj)}{σ:St}{H:Hp}{s:b_}{l b:c_}{xs ys zs:List V}
theorem Inv.lset{its its':List aC}{n:Nat}{f:Array aC->Array aC}{t':Nat}(I:Inv X pins σ H s)(Y:H l=ar (.lst xs))
  (e:s.heap.get? l=ar {cls:=.type "list",data:=.seq its.toArray n}) (T:f its.toArray=its'.toArray) (U:aX ys its') (W:ys.length<=sizeLine):
  Inv X pins σ (upd H l (.lst ys)) {s with heap:=s.heap.update l (k4 f),toks:=t'}:=by
 have q:=PySem.IsL.update e f;rw[T]at q;refine I.write (x:=l) (e:=l) (by rw[Y];exact trivial) (.inl rfl) (λR u Z S=>(J6 s.heap (k4 f) (i2 Z)).trans S) ⟨_,q⟩ ?_;exact⟨W,its',_,U,q⟩
theorem Inv.lnew{its:List aC}{t':Nat}(I:Inv X pins σ H s)(Z:aX ys its)(Y:ys.length<=sizeLine):
  Inv X pins σ (upd H s.heap.objs.size (.lst ys)) {s with heap:=s.heap.push {cls:=.type "list",data:=.seq its.toArray},toks:=t'}:=
 I.laid (λ_ _ q=>Jv _ q) (Jw _) ⟨Y,its,0,Z,JD _ rfl⟩
theorem Inv.fresh(I:Inv X pins σ H s):H s.heap.objs.size=none:=I.hok.fresh (Jw _)
theorem Inv.lstM(I:Inv X pins σ H s)(Z:H l=ar (.lst xs)):xs.length<=sizeLine/\∃(its:List aC) (n:Nat),aX xs its/\xs.length=its.length/\s.heap.get? l=ar {cls:=.type "list",data:=.seq its.toArray n}:=by obtain⟨z,its,n,r,e⟩:=I.hok l _ Z;exact⟨z,its,n,r,r.length,e⟩
theorem yA{n:Nat}(h:n<=sizeLine):r_ n=false:=by unfold r_;exact J1 (by omega)
end
section
variable {X:Cx}
def vm:V->List V->Hp->VK->Prop:=λx vs H Q=>∃l xs y,x= .ref l/\vs=[y]/\H l=ar (.lst xs)/\xs.length<sizeLine/\Q .non (upd H l (.lst (xs++[y])))
theorem o9:IT X "list.append" vm:=by intro pins s σ H x vs v us Q I Y W h;obtain⟨l,xs,y,rfl,rfl,Z,S,q⟩:=h;cases Y;obtain⟨u,rfl,U⟩:=W.one;obtain⟨z,its,n,r,T,e⟩:=I.lstM Z;refine LS F.slot_list_append ⟨_,e,rfl⟩ F.entry_list_append (F.args_list_append_2 _ _) (PySem.list_append l its.toArray n u (by rw[JH];omega)) ⟨e,?_⟩;refine⟨.non,_,I.lset (its':=its++[u]) Z e (by simp) (r.append (.cons U .nil)) ?_,rfl,q⟩;rw[JA,L4];omega
def yB:V->List V->Hp->VK->Prop:=λx vs H Q=>∃l xs i k y,x= .ref l/\vs=[.int i]/\H l=ar (.lst xs)/\ -(2 ^ 63)<=i/\i<2 ^ 63/\NI i xs.length=ar k/\xs[k]? =ar y/\Q y (upd H l (.lst (xs.eraseIdx k)))
theorem yC:IT X "list.pop" yB:=by
 intro pins s σ H x vs v us Q I W U h;obtain⟨l,xs,i,k,y,rfl,rfl,Y,R,T,P,O,q⟩:=h;cases W;obtain⟨u,rfl,N⟩:=U.one;obtain⟨t,rfl⟩:=N;obtain⟨z,its,n,r,S,e⟩:=I.lstM Y;obtain⟨w,hw,Z⟩:=r.get O;refine LS F.slot_list_pop ⟨_,e,rfl⟩ F.entry_list_pop (F.args_list_pop_2 _ _)
  (MeetsSeq.list_pop_at l its.toArray n i t k w (fitsIndex_both R T) (by rw[JH, <-S];exact P) (by rw[<-JY];exact hw) (by rw[JH];omega)) ⟨e,?_⟩
 refine⟨y,_,I.lset (its':=its.eraseIdx k) Y e ?_ (r.eraseIdx k) ?_,Z,q⟩
 ·show its.toArray.eraseIdxIfInBounds k=(its.eraseIdx k).toArray;rw[List.eraseIdxIfInBounds_toArray]
 ·have:=o8 xs k;omega
end
section
variable {prog:ee}{w:ey}{A:gd}{E:aC->b_->Prop}{s:b_}
end
section
variable {X:Cx}
end
end L2
namespace Att
open PySem PySem.W PySem.Calls PyProof.Rows
theorem lL{P:G4}{h:fc}:∀(ns:List Int) (vs:List aC),WellAll P h vs (ns.map WData.int)->lx vs ns:=by
 intro ns
 induction ns with
 |nil=>
  intro vs w;rw[L3]at w;cases w;exact .nil
 | cons n ns ih=>
  intro vs w;rw[JQ]at w;cases w with
  |cons a b=>
   cases a;exact .cons _ _ (ih _ b)
theorem wX{l:ON}{n:Nat}(S:l.most=ar n){P:G4}{h:fc}{args:List WData}{Y:List aC}
  (Z:l.row.toRowW.claim.pre args=dr) (U:WellAll P h Y args):
  ∃a vs ns,Y=[eg a]/\args=[WData.list (ns.map WData.int)]/\h.get? a=ar {cls:=.type "list",data:=.seq vs.toArray}/\lx vs ns/\ns.length<=n:=by
 have fO:WShape.hasAll [] args [.list .int]=true:=(pre_splitW Z).1;have T:l.pre.holds [] {args:=args}=true:=(pre_splitW Z).2;obtain⟨d,r,rfl,N,Q⟩:=hasAllW_cons fO;obtain rfl:=hasAllW_nil Q;obtain⟨xs,rfl,R⟩:=hasW_list N;obtain⟨ns,rfl⟩:=items_int R;have hlen:ns.length<=n:=by
  unfold OpenLaw.pre at T;have W:(WTm.not (.lt (.lit (.int (n:Int))) (.len (.arg 0)))).holds [] {args:=[.list (ns.map .int)]}=true:=by have W:=(holds_andW T).1;rw[S]at W;exact W
  have X:=condW_of W (w_not (w_lt w_lit (w_len_list (w_arg rfl))));rw[Jy]at X;refine M0 λq=>?_;have O:(n:Int)<((ns.length:Nat):Int):=by omega
  first
   |(rw[JM O]at X;exact absurd X (by decide))
   |(simp at X;omega)
 cases U with
 |cons w1 w2=>
  cases w2;cases w1 with
  |list ho hall=>exact⟨_,_,ns,rfl,rfl,ho,lL ns _ hall,hlen⟩
theorem wY(l:ON)(args:List WData):l.row.toRowW.claim.post args (.bool dr) args=true:=
 postW_of (r:=l.row.toRowW) (X:=(dr==dr))
  (show WShape.has [] (.bool dr) .bool=dr by first|rfl|decide|simp[WShape.has,WShape.arms,WShape.armsAll])
  (show(WTm.eq .res (.lit (.bool dr))).value [] {args:=args,res:=ar (.bool dr),after:=args}=ar (.bool (dr==dr))from w_eq_bool (w_res rfl) w_lit) rfl
theorem attach_call{l:ON}{n:Nat}{q:ee}{loose:List Str}{XP:(Str->Option aC)->fc->Prop}{YP:ey->fc->Prop}{d:OG}
  (H:l.most=ar n) (P:d.params.defaults=[])
  (T:∀(w:ey) (s₀ Z:b_) (S N:Str->Option aC) (X:c_) (o:Obj) (pm cd doc:aC) (a:c_) (vs:List aC) (ns:List Int),
   Ground q loose [] XP w s₀ S N Z.heap->YP w Z.heap->
   Z.heap.get? X=ar o->o.data= .func (docDef d.name d.params d.body d.scope pm cd doc)->Z.heap.CodeRec cd d.name->S d.name=ar (.ref X)->
   Z.heap.get? a=ar {cls:=.type "list",data:=.seq vs.toArray}->lx vs ns->ns.length<=n->Z.gens= #[]->
   C_ (eK l.prog w) u_ (.call (.ref X) ⟨[.ref a],[]⟩) (λr s'=>r= .ok (.ret (.bool dr))/\OldK Z.heap s'.heap/\s'.os=Z.os/\x' s'.gens) Z):
  WalkO q loose XP YP l.row.toRowW d [] (λf vs=>PySem.call f vs):=by
 intro w s₀ Z S N G Y X o pm cd doc I kV z hd O K Q B args vals as W L E R C;obtain rfl:I= .none:=Dflts.none K P;obtain rfl:kV= .none:=Dflts.noKw K;obtain⟨a,vs,ns,rfl,rfl,U,hints,hlen⟩:=wX H W R;refine enter_call (Lg (T w s₀ Z S N X o pm cd doc a vs ns G Y z (fd_plain hd) O Q U hints hlen B) λr s' y=>?_);obtain⟨rfl,J,F,A⟩:=y;exact⟨.inl ⟨.bool dr,.bool dr,[],rfl,λ_=>rfl,.bool dr,wY l _,λ_=>⟨List.Pairwise.nil,λ_ hm=>(nomatch hm)⟩⟩,J,F,A⟩
section
variable {prog:ee}{w:ey}{A:gd}{E:aC->b_->Prop}{s:b_}{K:OT}
def ledger(h:fc)(L d:c_):List (c_×Obj):=(e_ h.objs.size).filterMap λa=>if a=L\/a=d then none else (h.get? a).map λo=>(a,o)
end
end Att
namespace L2
open PySem PySem.Spec PyProof.Rows
theorem iU:∀{vs:List aC} {ns:List Int},lx vs ns->aX (ns.map V.int) vs
 |_,_,.nil=>.nil
 |_,_,.cons n t h=>.cons ⟨t,rfl⟩ (iU h)
def Ea(H:Hp):Prop:=∀b,H b=none\/∃o xs,H b=ar (.frz o (.lst xs))
theorem yD{P:ee}{w:ey}{K:dV}{J t:Str->Option aC}{g:yc}{k:Nat}{E a:c_}{c:f_}{x:Str}{sp:Sp}{Z:b_}{vs:List aC}{ns:List Int}
  (i:K.In Z.heap) (R:Z.heap.Ns fg J) (X:Z.heap.Ns u0 t) (p:∀x:Str,x≠"__name__"->t x=j3 x) (O:Z.heap.NoLimit) (hg:Z.gens= #[])
  (G:Z.heap.get? a=ar {cls:=.type "list",data:=.seq vs.toArray}) (hi:lx vs ns) (l:ns.length<=sizeLine) (hr:Room k u_)
  (F:∀base:fc,K.In base->base.Ns fg J->FnOk P w K J base g k E c [x] sp) (T:∀(s:b_) (u:aC),G2 s c ⟨[u],[]⟩ [(x,u)])
  (C:∀H:Hp,Ea H->ir K H a (ns.map V.int)->sp [.ref a] H (λv _=>v= .bl dr) λ_ _ _=>False)
  (y:∀H e s',g [] H Z (λ_ _ _=>False) e s'->False):
  C_ (eK P w) u_ (.call (.ref E) ⟨[.ref a],[]⟩) (λr s'=>r= .ok (.ret (.bool dr))/\OldK Z.heap s'.heap/\s'.os=Z.os/\x' s'.gens) Z:=by
 have rv:=iU hi;have Q:=hi.length;have core:∀H:Hp,Ea H->ir K H a (ns.map V.int)->e9 P w H Z.heap->(∀b,H b≠none->b=a)->(H a≠none->K.lookup a=none)->
   C_ (eK P w) u_ (.call (.ref E) ⟨[.ref a],[]⟩) (λr s'=>r= .ok (.ret (.bool dr))/\OldK Z.heap s'.heap/\s'.os=Z.os/\x' s'.gens) Z:=by
  intro H j hS S f hK;have Y:∀{b:c_} {o:Obj},Z.heap.get? b=ar o->H b=none->(i6 Z.heap H).get? b=ar o:=λe n=>jD e n;have B:∀{b:c_} {o:Obj} {es:Array DictEntry} {ep:Nat},Z.heap.get? b=ar o->o.data= .dict es ep->H b=none:=λ{b o es ep} e d=>by
   cases q:H b with
   |none=>rfl
   |some u=>
    have A:b=a:=f b (by rw[q];simp);subst A;rw[G]at e;cases e;have d':Data.seq vs.toArray _=Data.dict es ep:=d;cases d'
  have U:∀{b:c_} {m:Str->Option aC},Z.heap.Ns b m->(i6 Z.heap H).Ns b m:=λ{b m} ⟨o,es,ep,e,d,r⟩=>⟨o,es,ep,Y e (B e d),d,r⟩;have I:K.In (i6 Z.heap H):=λb o e=>Y (i b o e) (by
   cases q:H b with
   |none=>rfl
   |some u=>
    have A:b=a:=f b (by rw[q];simp);subst A;rw[hK (by rw[q];simp)]at e;cases e)
  have hM:Mod K J (i6 Z.heap H):=⟨I,U R,⟨t,U X,p⟩,let ⟨mc,h1,h2⟩:=O;⟨mc,U h1,h2⟩⟩;have e0:aB P w K J (i6 Z.heap H) u_ [] Z H:=⟨rfl,hM,λb o e=>p8 e,Lz (kB _ _),trivial,λb X=>absurd (show b∈([]:List c_)from X) (by simp),S,.of_eq hg⟩;refine Lg ((F _ I (U R)).run u_ [] Z H ⟨[.ref a],[]⟩ [.ref a] [.ref a] _ _ hr e0 (T Z (.ref a)) (.cons rfl .nil) (C H j hS)) λr s' h=>?_;cases r with
  |error e=>exact(y H e s' h).elim
  | ok fl=>
   cases fl with
   |next=>exact g_ h
   |brk=>exact g_ h
   |cont=>exact g_ h
   | ret u=>
    obtain⟨v,H',os,bare,un,N,r',q⟩:=h;have q':v= .bl true:=q;subst q';obtain rfl:u=p4 true:=r';refine⟨rfl,OldK.of_keep λb o e=>?_,os,bare⟩;cases q:H b with
    |none=>exact un.keep b o e q (by intro z;exact absurd (show b∈([]:List c_)from z) (by simp)) (by simp)
    | some u=>
     rcases j b with z|⟨ob,xs,z⟩
     ·rw[q]at z;cases z
     ·have z2:=un.frzs b ob _ z;obtain⟨e1,_⟩:=S b _ z;obtain⟨e2,_⟩:=N b _ z2;rw[e]at e1;cases e1;exact e2
 cases hk:K.lookup a with
 |some o=>
  have e:=i a o hk;rw[G]at e;cases e;refine core (λ_=>none) (λ_=>.inl rfl) (.inr ⟨_,vs.toArray,_,hk,rfl,rfl,rfl,by rw[JH,Q];exact l,by simpa using rv⟩) (λb u z=>by have L:(none:Option HO)=ar u:=z;cases L) (λb z=>absurd rfl z) λz=>absurd rfl z
 | none=>
  refine core (λb=>if b=a then ar (.frz {cls:=.type "list",data:=.seq vs.toArray} (.lst (ns.map V.int)))else none) (λb=>?_) (.inl (.inr ⟨{cls:=.type "list",data:=.seq vs.toArray},if_pos rfl⟩)) (λb u z=>?_) (λb z=>?_) λ_=>hk
  ·by_cases X:b=a
   ·exact .inr ⟨_,_,if_pos X⟩
   ·exact .inl (if_neg X)
  ·by_cases X:b=a
   ·have L:=(if_pos X).symm.trans z;cases L;subst X;exact⟨G,by rw[Jy];exact l,vs,_,rv,G⟩
   ·have L:=(if_neg X).symm.trans z;cases L
  ·by_cases X:b=a
   ·exact X
   ·exact absurd (if_neg X) z
abbrev Jt{K:dV}{h:fc}(_:K.In h):W.Frag:=K
theorem Hq{l:Od}{n k:Nat}{q:ee}{loose:List Str}{XP:(Str->Option aC)->fc->Prop}{YP:ey->fc->Prop}{d:OG}{K:G4->dV}{J:ey->yc}{sp:ey->Sp}{x:Str}
  (A:l.most=ar n) (R:n<=sizeLine) (P:d.params.defaults=[]) (r:Room k u_)
  (I:∀(w:ey) (h:fc),YP w h->(K w.params).In h)
  (F:∀(w:ey) (Z:Str->Option aC) (S:c_) (h:fc),(K w.params).In h->h.Ns fg Z->Z d.name=ar (.ref S)->
   ∃fd:f_,(∀(s:b_) (u:aC),G2 s fd ⟨[u],[]⟩ [(x,u)])/\
    ∀base:fc,(K w.params).In base->base.Ns fg Z->FnOk l.prog w (K w.params) Z base (J w) k S fd [x] (sp w))
  (O:∀(w:ey) (H:Hp) (a:c_) (ns:List Int),ns.length<=n->Ea H->ir (K w.params) H a (ns.map V.int)->sp w [.ref a] H (λv _=>v= .bl dr) λ_ _ _=>False)
  (N:∀(w:ey) (H:Hp) (s:b_) (e:aC) (s':b_),J w [] H s (λ_ _ _=>False) e s'->False):
  OO q loose XP YP l.row.toRowW d [] (λf vs=>PySem.call f vs):=by
 refine Att.attach_call A P λw s₀ U Z p S o pm cd doc a vs ns G Y m hd z Q X hints hlen y=>?_;have L:=I w _ Y;obtain⟨fd,t,E⟩:=F w Z S _ L G.T.g Q;exact yD L G.T.g G.T.b G.T.builtins G.T.nolimit y X hints (JG hlen R) r E t (λH B C=>O w H a ns hlen B C) λH e s'=>N w H U e s'
def ef(s:n_):Arguments:=match s with
 | .FunctionDef _ a _ _ _ _ _ _ _ _=>a
 |_=>{posonlyargs:=[],args:=[],vararg:=none,kwonlyargs:=[],kw_defaults:=[],kwarg:=none,defaults:=[]}
def cA(s:n_):List Stmt:=match s with
 | .FunctionDef _ _ b _ _ _ _ _ _ _=>b
 |_=>[]
def aq(s:n_):Scope:=match s with
 | .FunctionDef _ _ _ _ _ _ sc _ _ _=>sc
 |_=>{kind:=.function,names:=[],isGenerator:=dt,isCoroutine:=dt}
abbrev Jh:yc:=λ_ _ _ _ _ _=>False
abbrev E0:XK:=λ_ _ _=>False
structure Fun(K:dV)(x qual:Str)(st:n_)(f:c_)(fd:f_):Prop where
 ex:∃(oc:aC) (od:Option c_) (kV doc pm:aC) (an:Option c_) (cdv ct:aC) (osl:Array (Option aC)),
  fd=w_ x qual (ef st) (cA st) (aq st) .none kV doc pm an cdv ct/\K.lookup f=ar ⟨oc,od,.func fd,osl⟩/\M_ K cdv qual=dr
 kp:u5 K (.ref f)=dr
section
variable {P:ee}{w:ey}{K:dV}{mg:Str->Option aC}{base:fc}
theorem Fun.binds{x qual:Str}{st:n_}{f:c_}{X:f_}{Y:List Str}(F:Fun K x qual st f X)
  (h:∀(kV doc pm:aC) (an:Option c_) (Z ct:aC) (us:List aC),us.length=Y.length->NX (w_ x qual (ef st) (cA st) (aq st) .none kV doc pm an Z ct) ⟨us,[]⟩=a_ (Y.zip us)):Binds K X Y []:=by
 obtain⟨R,od,kV,doc,pm,an,Z,ct,T,rfl,S,U⟩:=F.ex;exact .all (h kV doc pm an Z ct)
theorem Eb{x qual:Str}{st:n_}{f:c_}{S:aC}{od U:Option c_}{X:Array (Option aC)}{kV Y T Z ct:aC}(l:K.lookup f=ar ⟨S,od,.func (w_ x qual (ef st) (cA st) (aq st) .none kV Y T U Z ct),X⟩)
  (c:M_ K Z qual=dr) (k:u5 K (.ref f)=dr):Fun K x qual st f (w_ x qual (ef st) (cA st) (aq st) .none kV Y T U Z ct):=⟨⟨S,od,kV,Y,T,U,Z,ct,X,rfl,l,c⟩,k⟩
end
section
variable {X:Cx}
end
end L2
end
namespace S3
open PySem PySem.W PyProof.Rows
def aY{α:Type}(b:Nat->Nat->Bool):OH α->α
 | .ret a=>a
 | .ask i j k=>aY b (k (b i j))
theorem fu{Z Y:Type}(b:Nat->Nat->Bool)(f:Z->OH Y):∀t:OH Z,aY b (t.bind f)=aY b (f (aY b t))
 | .ret _=>rfl
 | .ask i j k=>fu b f (k (b i j))
section
variable (r:Nat->Nat)
abbrev cX:Nat->Nat->Bool:=λi j=>decide (r i<r j)
def ka(p:Array Nat)(k:Nat):Nat:=r (p.getD k 0)
def yE(p:Array Nat)(n:Nat):Prop:=∀i j,i<=j->j<n->ka r p i<=ka r p j
def Io(p:Array Nat)(n:Nat):Prop:=∀i j,i<=j->j<n->ka r p j<=ka r p i
variable {r}
theorem jJ{p q:Array Nat}{i j:Nat}(h:p[i]? =q[j]?):p.getD i 0=q.getD j 0:=by rw[J4,J4,h]
theorem qh{p:Array Nat}{i j:Nat}(Z:j<=p.size)(k:Nat):ka r (rb p i j) k=if i<=k/\k<j then ka r p (i+j - 1 - k)else ka r p k:=by
 have h:=getElem?_mirror_all (i:=i) Z k;unfold ka rb;by_cases c:i<=k/\k<j
 ·rw[if_pos c]at h⊢;rw[jJ h]
 ·rw[if_neg c]at h⊢;rw[jJ h]
theorem pd{p:Array Nat}{Z d:Nat}(hs:Z<p.size)(Y:d<=Z)(k:Nat):ka r (OI p Z d) k=if k=Z - d then ka r p Z else if Z - d<k/\k<=Z then ka r p (k - 1)else ka r p k:=by
 have h:=getElem?_bubble hs d Y k;unfold ka;by_cases c:k=Z - d
 ·rw[if_pos c]at h⊢;rw[jJ h]
 ·rw[if_neg c]at h⊢;by_cases c2:Z - d<k/\k<=Z
  ·rw[if_pos c2]at h⊢;rw[jJ h]
  ·rw[if_neg c2]at h⊢;rw[jJ h]
theorem mM:(rb p i j).size=p.size:=mirror_size _ _ _ _
theorem dE:(rb p i j).Perm p:=mirror_perm _ _ _ _
theorem qi:∀(f n:Nat),1<=n->yE r p n->n<=aY (cX r) (pz p f n)/\aY (cX r) (pz p f n)<=n+f/\yE r p (aY (cX r) (pz p f n))
 |0,n,h1,h=>⟨Jw _,Jw _,h⟩
 | f +1,n,h1,h=>by
  show n<=aY (cX r) (if (cX r) (p.getD n 0) (p.getD (n - 1) 0)=dr then NA n else pz p f (n+1))/\aY (cX r) (if (cX r) (p.getD n 0) (p.getD (n - 1) 0)=dr then NA n else pz p f (n+1))<=n+(f+1)/\yE r p (aY (cX r) (if (cX r) (p.getD n 0) (p.getD (n - 1) 0)=dr then NA n else pz p f (n+1)));by_cases c:(cX r) (p.getD n 0) (p.getD (n - 1) 0)=dr
  ·rw[if_pos c];exact⟨Jw _,by show n<=n+(f+1);omega,h⟩
  ·rw[if_neg c];have Y:ka r p (n - 1)<=ka r p n:=by
    exact M0 λz=>c (JM z)
   obtain⟨a1,a2,X⟩:=qi f (n+1) (by omega) (λi j Z W=>by
    by_cases e:j=n
    ·subst e;by_cases e2:i=j
     ·subst e2;exact Jw _
     ·exact JG (h i (j - 1) (by omega) (by omega)) Y
    ·exact h i j Z (by omega))
   exact⟨by omega,by omega,X⟩
structure Down(r:Nat->Nat)(p:Array Nat)(n q:Nat):Prop where
 dsc:Io r p n
 q1:q+1<=n
 eqs:∀k,n - (q+1)<=k->k<n->ka r p k=ka r p (n - 1)
theorem mO{p:Array Nat}(Z:n<=p.size)(h:Down r p n q):∀k,ka r (rb p (n - (q+1)) n) k=ka r p k:=λk=>by
 rw[qh Z];split
 ·next c=>rw[h.eqs k c.1 c.2,h.eqs _ (by omega) (by omega)]
 ·rfl
theorem jK:∀(f:Nat) (p:Array Nat) (n q:Nat),n+f<=p.size->Down r p n q->
  Down r (aY (cX r) (q_ f p n q)).1 (aY (cX r) (q_ f p n q)).2.1 (aY (cX r) (q_ f p n q)).2.2/\(aY (cX r) (q_ f p n q)).1.Perm p/\n<=(aY (cX r) (q_ f p n q)).2.1/\(aY (cX r) (q_ f p n q)).2.1<=n+f
 |0,p,n,q,hs,h=>⟨h,LF _,Jw _,Jw _⟩
 | f +1,p,n,q,hs,h=>by
  have e:aY (cX r) (q_ (f+1) p n q)=if ka r p n<ka r p (n - 1)then (if q>0 then aY (cX r) (q_ f (rb p (n - (q+1)) n) (n+1) 0)else aY (cX r) (q_ f p (n+1) 0))
    else if ka r p (n - 1)<ka r p n then (p,n,q)else aY (cX r) (q_ f p (n+1) (q+1)):=by
   show aY (cX r) (if (cX r) (p.getD n 0) (p.getD (n - 1) 0)=dr then _ else _)=_;unfold ka;by_cases c:r (p.getD n 0)<r (p.getD (n - 1) 0)
   ·rw[if_pos (by simpa using c),if_pos c];split<;>rfl
   ·rw[if_neg (by simpa using c),if_neg c];show aY (cX r) (if (cX r) (p.getD (n - 1) 0) (p.getD n 0)=dr then _ else _)=_;by_cases c2:r (p.getD (n - 1) 0)<r (p.getD n 0)
    ·rw[if_pos (by simpa using c2),if_pos c2];rfl
    ·rw[if_neg (by simpa using c2),if_neg c2]
  have S:=h.q1;have ext:∀{p':Array Nat} {q':Nat},(∀k,ka r p' k=ka r p k)->ka r p n<=ka r p (n - 1)->(q'=0\/(q'=q+1/\ka r p n=ka r p (n - 1)))->Down r p' (n+1) q':=λ{p' q'} hk hle hq=>by
   refine⟨λi j Z T=>?_,by omega,λk W U=>?_⟩
   ·rw[hk,hk];by_cases ej:j=n
    ·subst ej;by_cases e2:i=j
     ·subst e2;exact Jw _
     ·exact JG hle (h.dsc i (j - 1) (by omega) (by omega))
    ·exact h.dsc i j Z (by omega)
   ·rw[hk,hk,show n+1 - 1=n by omega];rcases hq with rfl|⟨rfl,he⟩
    ·have:k=n:=by omega
     subst this;rfl
    ·by_cases ek:k=n
     ·subst ek;rfl
     ·rw[he];exact h.eqs k (by omega) (by omega)
  rw[e];by_cases c:ka r p n<ka r p (n - 1)
  ·rw[if_pos c];by_cases hq:q>0
   ·rw[if_pos hq];obtain⟨a1,a2,Y,X⟩:=jK f (rb p (n - (q+1)) n) (n+1) 0 (by rw[mM];omega) (ext (mO (by omega) h) (by omega) (.inl rfl));exact⟨a1,a2.trans dE,by omega,by omega⟩
   ·rw[if_neg hq];obtain⟨a1,a2,Y,X⟩:=jK f p (n+1) 0 (by omega) (ext (λ_=>rfl) (by omega) (.inl rfl));exact⟨a1,a2,by omega,by omega⟩
  ·rw[if_neg c];by_cases c2:ka r p (n - 1)<ka r p n
   ·rw[if_pos c2];exact⟨h,LF _,Jw _,by show n<=n+(f+1);omega⟩
   ·rw[if_neg c2];obtain⟨a1,a2,Y,X⟩:=jK f p (n+1) (q+1) (by omega) (ext (λ_=>rfl) (by omega) (.inr ⟨rfl,by omega⟩));exact⟨a1,a2,by omega,by omega⟩
structure Got(r:Nat->Nat)(nrem:Nat)(p:Array Nat)(g:Nat×Array Nat):Prop where
 asc:yE r g.2 g.1
 le:g.1<=nrem
 pos:1<=g.1
 perm:g.2.Perm p
theorem pe{p:Array Nat}(Z:1<=n)(U:n<=nrem)(hs:nrem<=p.size)(h:Io r p n):Got r nrem p (aY (cX r) (Oe n nrem p)):=by
 unfold Oe;rw[fu];have W:yE r (rb p 0 n) n:=λi j X T=>by rw[qh (by omega),qh (by omega),if_pos ⟨by omega,by omega⟩,if_pos ⟨by omega,by omega⟩];exact h _ _ (by omega) (by omega)
 obtain⟨a1,a2,Y⟩:=qi (p:=rb p 0 n) (nrem - n) n Z W;exact⟨Y,by show aY (cX r) (pz (rb p 0 n) (nrem - n) n)<=nrem;omega,by show 1<=aY (cX r) (pz (rb p 0 n) (nrem - n) n);omega,dE⟩
theorem jL{p:Array Nat}(Q:n<nrem)(hs:nrem<=p.size)(h:Down r p (n+1) 0):Got r nrem p (aY (cX r) (NB n nrem p)):=by
 unfold NB;rw[fu];obtain⟨a1,a2,T,S⟩:=jK (nrem - (n+1)) p (n+1) 0 (by omega) h;generalize aY (cX r) (q_ (nrem - (n+1)) p (n+1) 0)=d at a1 a2 T S;obtain⟨W,Z,X⟩:=d;dsimp only at a1 a2 T S;have Y:W.size=p.size:=a2.size_eq;by_cases hq:X>0
 ·show Got r nrem p (aY (cX r) (if X>0 then _ else _));rw[if_pos hq];have hd:Io r (rb W (Z - (X+1)) Z) Z:=λi j U R=>by
   rw[mO (show Z<=W.size by omega) a1,mO (show Z<=W.size by omega) a1];exact a1.dsc i j U R
  have:=pe (n:=Z) (nrem:=nrem) (by omega) (by omega) (by rw[mM,Y];exact hs) hd;exact⟨this.asc,this.le,this.pos,(this.perm.trans dE).trans a2⟩
 ·show Got r nrem p (aY (cX r) (if X>0 then _ else _));rw[if_neg hq];have:=pe (n:=Z) (nrem:=nrem) (by omega) (by omega) (by rw[Y];exact hs) a1.dsc;exact⟨this.asc,this.le,this.pos,this.perm.trans a2⟩
theorem wZ{p:Array Nat}(O:2<=nrem)(hs:nrem<=p.size):Got r nrem p (aY (cX r) (NJ nrem p)):=by
 unfold NJ;rw[fu];obtain⟨a1,a2,Y⟩:=qi (r:=r) (p:=p) (nrem - 1) 1 (Jw _) (λi j X S=>by
  have:i=j:=by omega
  subst this;exact Jw _)
 have stop:∀(f n:Nat),1<=n->aY (cX r) (pz p f n)<n+f->ka r p (aY (cX r) (pz p f n))<ka r p (aY (cX r) (pz p f n) - 1):=by
  intro f
  induction f with
  |zero=>intro n _ h;exact absurd h (KN _)
  | succ f ih=>
   intro n W h;have e:aY (cX r) (pz p (f+1) n)=if ka r p n<ka r p (n - 1)then n else aY (cX r) (pz p f (n+1)):=by
    show aY (cX r) (if (cX r) (p.getD n 0) (p.getD (n - 1) 0)=dr then _ else _)=_;unfold ka;by_cases c:r (p.getD n 0)<r (p.getD (n - 1) 0)
    ·rw[if_pos (JM c),if_pos c];rfl
    ·rw[if_neg (λz=>c (Kl z)),if_neg c]
   rw[e]at h⊢;by_cases c:ka r p n<ka r p (n - 1)
   ·rw[if_pos c];exact c
   ·rw[if_neg c]at h⊢;exact ih (n+1) (by omega) (by omega)
 have Z:=stop (nrem - 1) 1 (Jw _);generalize aY (cX r) (pz p (nrem - 1) 1)=n at a1 a2 Y Z;by_cases hn:n=nrem
 ·show Got r nrem p (aY (cX r) (if (n==nrem)=dr then _ else _));rw[if_pos (by simp[hn])];exact⟨Y,by show n<=nrem;omega,a1,LF _⟩
 ·show Got r nrem p (aY (cX r) (if (n==nrem)=dr then _ else _));rw[if_neg (by simp[hn])];have Q:=Z (by omega);by_cases W:n>1
  ·rw [if_pos W];show Got r nrem p (aY (cX r) (if (cX r) (p.getD 0 0) (p.getD (n - 1) 0)=dr then _ else _));by_cases c:r (p.getD 0 0)<r (p.getD (n - 1) 0)
   ·rw[if_pos (JM c)];exact⟨Y,by show n<=nrem;omega,a1,LF _⟩
   ·rw [if_neg (λz=>c (Kl z))];have all:∀k,k<n->ka r p k=ka r p (n - 1):=λk P=>by
     have T:=Y 0 k (by omega) P;have R:=Y k (n - 1) (by omega) (by omega);have N:ka r p (n - 1)<=ka r p 0:=M0 c;omega
    have U:∀k,ka r (rb p 0 n) k=ka r p k:=λk=>by
     rw[qh (by omega)];split
     ·next h=>rw[all k h.2,all _ (by omega)]
     ·rfl
    have:=jL (r:=r) (n:=n) (nrem:=nrem) (p:=rb p 0 n) (by omega) (by rw[mM];exact hs) ⟨λi j X S=>by
      rw[U,U];by_cases ej:j=n
      ·subst ej;by_cases ei:i=j
       ·subst ei;exact Jw _
       ·rw[all i (by omega)];omega
      ·rw[all i (by omega),all j (by omega)];exact Jw _,by omega,λk T R=>by rw[show k=n+1 - 1 by omega]⟩
    exact⟨this.asc,this.le,this.pos,this.perm.trans dE⟩
  ·rw [if_neg W];have e1:n=1:=by omega
   subst e1;exact jL (by omega) hs ⟨λi j X S=>by
     by_cases ej:j=1
     ·subst ej;by_cases ei:i=1
      ·subst ei;exact Jw _
      ·rw[show i=1 - 1 by omega];omega
     ·rw[show i=j by omega];exact Jw _,by omega,λk T R=>by rw[show k=1+1 - 1 by omega]⟩
theorem kE(Z:yE r p k):∀(f l m:Nat),m - l<=f->l<=m->m<=k->(∀i,i<l->ka r p i<=ka r p k)->(∀i,m<=i->i<k->ka r p k<=ka r p i)->
  aY (cX r) (pb p k f l m)<=k/\(∀i,i<aY (cX r) (pb p k f l m)->ka r p i<=ka r p k)/\∀i,aY (cX r) (pb p k f l m)<=i->i<k->ka r p k<=ka r p i
 |0,l,m,hf,hl,hm,h1,h2=>by
  have:l=m:=by omega
  subst this;exact⟨by show l<=k;omega,h1,h2⟩
 | f+1,l,m,hf,hl,hm,h1,h2=>by
  by_cases c:l ≥ m
  ·have e:aY (cX r) (pb p k (f+1) l m)=l:=by
    show aY (cX r) (if l ≥ m then _ else _)=l;rw[if_pos c];rfl
   rw[e];have:l=m:=by omega
   subst this;exact⟨by omega,h1,h2⟩
  ·have e:aY (cX r) (pb p k (f+1) l m)=if ka r p k<ka r p ((l+m) / 2)then aY (cX r) (pb p k f l ((l+m) / 2))else aY (cX r) (pb p k f ((l+m) / 2+1) m):=by
    show aY (cX r) (if l ≥ m then _ else _)=_;rw[if_neg c];show aY (cX r) (if (cX r) (p.getD k 0) (p.getD ((l+m) / 2) 0)=dr then _ else _)=_;unfold ka;by_cases d:r (p.getD k 0)<r (p.getD ((l+m) / 2) 0)
    ·rw[if_pos (JM d),if_pos d]
    ·rw[if_neg (λz=>d (Kl z)),if_neg d]
   rw[e];by_cases d:ka r p k<ka r p ((l+m) / 2)
   ·rw[if_pos d];exact kE Z f l ((l+m) / 2) (by omega) (by omega) (by omega) h1 λi Y X=>JG (KS d) (Z _ i Y X)
   ·rw[if_neg d];exact kE Z f ((l+m) / 2+1) m (by omega) (by omega) hm (λi Y=>JG (Z i ((l+m) / 2) (by omega) (by omega)) (by omega)) h2
theorem vn:∀(f:Nat) (p:Array Nat) (k:Nat),k+f<=p.size->yE r p k->yE r (aY (cX r) (Nl f p k)) (k+f)/\(aY (cX r) (Nl f p k)).Perm p
 |0,p,k,hs,h=>⟨h,LF _⟩
 | f +1,p,k,hs,h=>by
  have e:aY (cX r) (Nl (f+1) p k)=aY (cX r) (Nl f (OI p k (k - aY (cX r) (pb p k k 0 k))) (k+1)):=by show aY (cX r) ((pb p k k 0 k).bind _)=_;rw[fu]
  rw[e];obtain⟨S,W,X⟩:=kE (r:=r) h k 0 k (by omega) (by omega) (Jw _) (λi U=>absurd U (M1 _)) (λi U R=>absurd R (by omega));generalize aY (cX r) (pb p k k 0 k)=l at S W X;have T:yE r (OI p k (k - l)) (k+1):=λi j Z O=>by
   rw[pd (by omega) (by omega),pd (by omega) (by omega)];have Y:k - (k - l)=l:=by omega
   rw[Y];by_cases ei:i=l
   ·rw[if_pos ei];by_cases ej:j=l
    ·rw[if_pos ej];exact Jw _
    ·rw[if_neg ej,if_pos ⟨by omega,by omega⟩];exact X (j - 1) (by omega) (by omega)
   ·rw[if_neg ei];by_cases ci:l<i/\i<=k
    ·rw[if_pos ci,if_neg (by omega),if_pos ⟨by omega,by omega⟩];exact h _ _ (by omega) (by omega)
    ·rw[if_neg ci];by_cases ej:j=l
     ·rw[if_pos ej];exact W i (by omega)
     ·rw[if_neg ej];by_cases cj:l<j/\j<=k
      ·rw[if_pos cj];exact h _ _ (by omega) (by omega)
      ·rw[if_neg cj];exact h _ _ Z (by omega)
  obtain⟨P,Q⟩:=vn f (OI p k (k - l)) (k+1) (by rw[bubble_size];omega) T;refine⟨?_,Q.trans (bubble_perm _ _ _)⟩;rw[show k+(f+1)=k+1+f by omega];exact P
theorem yF(U:2<=n):yE r (aY (cX r) (sb n)) n/\(aY (cX r) (sb n)).Perm (D_ (e_ n)):=by
 unfold sb;rw[fu];have G:=wZ (r:=r) (nrem:=n) (p:=D_ (e_ n)) U (by simp);generalize aY (cX r) (NJ n (D_ (e_ n)))=g at G;obtain⟨m,p⟩:=g;have X:p.size=n:=by rw[G.perm.size_eq];simp
 have hle:m<=n:=G.le;have Y:1<=m:=G.pos;show yE r (aY (cX r) (if m<n then Nl (n - max m 1) p (max m 1)else NA p)) n/\Array.Perm (aY (cX r) (if m<n then Nl (n - max m 1) p (max m 1)else NA p)) (D_ (e_ n));by_cases c:m<n
 ·rw[if_pos c];have em:max m 1=m:=by omega
  rw[em];obtain⟨Z,W⟩:=vn (r:=r) (n - m) p m (by omega) G.asc;refine⟨?_,W.trans G.perm⟩;rw[show m+(n - m)=n by omega]at Z;exact Z
 ·rw[if_neg c];have em:m=n:=by omega
  subst em;exact⟨G.asc,G.perm⟩
end
def tL(n:Nat){α:Type}(R:α->Prop):OH α->Prop
 | .ret a=>R a
 | .ask i j k=>i<n/\j<n/\∀b,tL n R (k b)
theorem gx{n:Nat}{Z X:Type}{R:Z->Prop}{Y:X->Prop}{f:Z->OH X}:∀{t:OH Z},tL n R t->(∀a,R a->tL n Y (f a))->tL n Y (t.bind f)
 | .ret a,h,k=>k a h
 | .ask i j g,h,k=>⟨h.1,h.2.1,λb=>gx (h.2.2 b) k⟩
theorem yG{n:Nat}{Y:Type}{R:Y->Prop}{Z:Nat->Nat->(Bool->b_->Prop)->b_->Prop}{b:Nat->Nat->Bool}{s:b_}{Q:Y->b_->Prop}(h:∀i j C,i<n->j<n->C (b i j) s->Z i j C s):
  ∀{t:OH Y},tL n R t->Q (aY b t) s->t.kasWp Z Q s
 | .ret a,_,q=>q
 | .ask i j k,o,q=>h i j _ o.1 o.2.1 (yG h (o.2.2 (b i j)) q)
theorem mP{n:Nat}{Y:Type}{R:Y->Prop}{b Z:Nat->Nat->Bool}(h:∀i j,i<n->j<n->b i j=Z i j):∀{t:OH Y},tL n R t->aY b t=aY Z t
 | .ret a,_=>rfl
 | .ask i j k,o=>by
  show aY b (k (b i j))=aY Z (k (Z i j));rw[h i j o.1 o.2.1];exact mP h (o.2.2 _)
def In(n:Nat)(p:Array Nat):Prop:=0<n/\∀x∈p.toList,x<n
theorem In.get(h:In n p)(k:Nat):p.getD k 0<n:=by
 rw[J4];cases e:p[k]? with
 |none=>exact h.1
 |some x=>exact h.2 x (by rw[<-JY]at e;exact JV e)
theorem In.perm{q:Array Nat}(h:In n p)(e:q.Perm p):In n q:=⟨h.1,λx Z=>h.2 x ((Array.Perm.toList e).mem_iff.mp Z)⟩
theorem qj(h:In n p):∀(f m:Nat),tL n (λ_=>True) (pz p f m)
 |0,m=>trivial
 | f+1,m=>⟨h.get _,h.get _,λb=>by
   cases b with
   |true=>exact trivial
   |false=>exact qj h f (m+1)⟩
theorem jM:∀(f:Nat) (p:Array Nat) (m q:Nat),In n p->tL n (λr=>In n r.1) (q_ f p m q)
 |0,p,m,q,h=>h
 | f+1,p,m,q,h=>⟨h.get _,h.get _,λb=>by
   cases b with
   |true=>
    show tL n _ (if q>0 then _ else _);split
    ·exact jM f _ _ _ (h.perm dE)
    ·exact jM f _ _ _ h
   |false=>
    refine⟨h.get _,h.get _,λb=>?_⟩;cases b with
    |true=>exact h
    |false=>exact jM f _ _ _ h⟩
theorem pj(h:In n p):tL n (λr:Nat×Array Nat=>In n r.2) (Oe m nrem p):=
 gx (qj (h.perm dE) _ _) λ_ _=>h.perm dE
theorem jN(h:In n p):tL n (λr:Nat×Array Nat=>In n r.2) (NB m nrem p):=
 gx (jM _ _ _ _ h) λa Z=>by
  split
  ·exact pj (Z.perm dE)
  ·exact pj Z
theorem w5(h:In n p):tL n (λr:Nat×Array Nat=>In n r.2) (NJ nrem p):=
 gx (qj h _ _) λa _=>by
  split
  ·exact h
  ·split
   ·refine⟨h.get _,h.get _,λb=>?_⟩;cases b with
    |true=>exact h
    |false=>exact jN (h.perm dE)
   ·exact jN h
theorem kF(h:In n p):∀(f l m:Nat),tL n (λ_=>True) (pb p k f l m)
 |0,l,m=>trivial
 | f+1,l,m=>by
  show tL n _ (if l ≥ m then _ else _);split
  ·exact trivial
  ·refine⟨h.get _,h.get _,λb=>?_⟩;cases b with
   |true=>exact kF h f _ _
   |false=>exact kF h f _ _
theorem vo:∀(f:Nat) (p:Array Nat) (k:Nat),In n p->tL n (In n) (Nl f p k)
 |0,p,k,h=>h
 |f+1,p,k,h=>gx (kF h _ _ _) λl _=>vo f _ _ (h.perm (bubble_perm _ _ _))
theorem rQ(X:0<n):tL n (In n) (sb n):=
 gx (w5 ⟨X,λx Y=>by simpa using Y⟩) λa Z=>by
  split
  ·exact vo _ _ _ Z
  ·exact Z
theorem rR{Y:Type}{p q:Y->Bool}:∀{l:List Y} {x:Y},(∀y∈l,p y=dr->q y=dr)->x∈l->p x=dt->q x=dr->l.countP p<l.countP q
 | y::l,x,h,hx,hp,hq=>by
  have U:l.countP p<=l.countP q:=List.countP_mono_left λz Z=>h z (JF _ Z);rw[List.countP_cons,List.countP_cons];rcases JN.mp hx with e|hx'
  ·subst e;rw[hp,hq];simp;omega
  ·have W:=rR (λz Z=>h z (JF _ Z)) hx' hp hq;have X:=h y JL;cases e1:p y with
   |true=>rw[X e1];simp;omega
   |false=>simp;split<;>omega
theorem BG{b:Nat->Nat->Bool}(O:2<=n)(U:∀i,i<n->b i i=dt)(Q:∀i j k,i<n->j<n->k<n->b i j=dr->b j k=dr->b i k=dr)(S:∀i j k,i<n->j<n->k<n->b i k=dr->b i j=dr\/b j k=dr):
  (aY b (sb n)).Perm (D_ (e_ n))/\∀i j,i<=j->j<n->b ((aY b (sb n)).getD j 0) ((aY b (sb n)).getD i 0)=false:=by
 let r:Nat->Nat:=λi=>(e_ n).countP λj=>b j i;have R:∀i j,i<n->j<n->b i j=decide (r i<r j):=λi j X Y=>by
  cases e:b i j with
  |true=>
   refine(JM ?_).symm;exact rR (x:=i) (λy T h=>Q y i j (J0.mp T) X Y h e) (J0.mpr X) (U i X) e
  |false=>
   refine(J1 (M9.mpr ?_)).symm;refine List.countP_mono_left λy T h=>?_;rcases S y i j (J0.mp T) X Y h with z|z
   ·exact z
   ·rw[e]at z;cases z
 have N:aY b (sb n)=aY (cX r) (sb n):=mP R (rQ (by omega));obtain⟨a1,a2⟩:=yF (r:=r) O;rw[N];refine⟨a2,λi j W Y=>?_⟩;have Z:In n (aY (cX r) (sb n)):=In.perm ⟨by omega,λx P=>by simpa using P⟩ a2;rw[R _ _ (Z.get j) (Z.get i)];exact J1 (M9.mpr (a1 i j W Y))
end S3
namespace S3
open PySem PySem.Spec PySem.W PyProof.Rows L2
section
variable {prog:ee}{w:ey}{A:gd}{E:aC->b_->Prop}{s:b_}{Q:Bool->b_->Prop}
theorem rS:∀{us ws:List aC} {ns ms:List Int} (i:Nat),lx us ns->lx ws ms->Q (HT.lexLt ns ms) s->
  KatLex prog w A b (decide (us.length<ws.length)) Q (us.zip ws) i s
 |[],[],ns,ms,i,h1,h2,q=>by
  cases h1;cases h2;exact q
 |[],_::_,_,_,_,h1,h2,q=>by
  cases h1;cases h2;exact q
 |_::_,[],_,_,_,h1,h2,q=>by
  cases h1;cases h2;exact q
 | u::us,v::ws,ns,ms,i,h1,h2,q=>by
  cases h1 with
  |cons n t h1=>
  cases h2 with
  | cons k t' h2=>
   rw[HT.lexLt_cons]at q;by_cases e:n=k
   ·rw[if_pos e]at q;refine kat_cons (MX ?_);have:(n==k)=true:=by simp[e]
    rw[this];refine kat_yes ?_;show KatLex prog w A b (decide (us.length+1<ws.length+1)) Q (us.zip ws) (i+1) s;rw[show decide (us.length+1<ws.length+1)=decide (us.length<ws.length) by simp];exact rS (i+1) h1 h2 q
   ·rw[if_neg e]at q;refine kat_cons (MX ?_);have:(n==k)=false:=by simp[e]
    rw[this];refine kat_no ?_;cases hbi:(b && i==0)with
    |true=>exact oneLt_int q
    |false=>exact kat_one _ _ (lt_int q)
end
structure Tups(h:fc)(vs:List aC)(nss:List (List Int)):Prop where
 len:vs.length=nss.length
 get:∀(i:Nat),i<vs.length->∃a o us n,vs.getD i gg= .ref a/\h.get? a=ar o/\o.cls= .type "tuple"/\o.data= .seq us n/\lx us.toList (nss.getD i [])/\0<us.size
theorem Tups.keep{h':fc}(t:Tups h vs nss)(k:∀i a o,i<vs.length->vs.getD i gg= .ref a->h.get? a=ar o->h'.get? a=ar o):Tups h' vs nss:=
 ⟨t.len,λi Z=>let ⟨a,o,us,n,e1,e2,r⟩:=t.get i Z;⟨a,o,us,n,e1,k i a o Z e1 e2,r⟩⟩
theorem Tups.ask{s:b_}(t:Tups s.heap vs nss){C:Bool->b_->Prop}(T:i<vs.length)(Z:j<vs.length)
  (q:C (HT.lexLt (nss.getD i []) (nss.getD j [])) s):kas_ask prog w A (tuples' b) vs i j C s:=by
 obtain⟨a,o,us,n,e1,e2,S,Y,U,P⟩:=t.get i T;obtain⟨Q,N,X,O,f1,f2,L,f4,W,R⟩:=t.get j Z;unfold kas_ask;rw[e1,f1];refine kat_lt e2 Y f2 f4 ?_;have z:=rS (prog:=prog) (w:=w) (A:=A) (b:=b) 0 U W q;simpa using z
end S3
namespace S3
open PySem PySem.Spec PyProof.Rows L2
abbrev St:=L2.St
def iw(cells:List (Str×c_)):List (Str×k_)->List (Str×c_)->List (Str×c_)
 |[],cs=>cs
 |(n,k)::r,cs=>iw cells r (if k== .free then (n,(cells.lookup n).getD 0)::cs else cs)
theorem jO(scope:Scope)(env:Env)(h:∀y∈scope.names,y.2= .free->∃c,env.cells.lookup y.1=ar c):N0 scope env=a_ (iw env.cells scope.names []):=by
 have go:∀(names:List (Str×k_)) (cs:List (Str×c_)),(∀y∈names,y.2= .free->∃c,env.cells.lookup y.1=ar c)->
   (OP names cs (λ(x:Str×k_) (r:List (Str×c_))=>(if (x.2==g6)=dr then do let a<-cellOf env x.1;a_ (A_ ((x.1,a)::r))else a_ (A_ r):Sem (ForInStep (List (Str×c_))))):Sem (List (Str×c_)))=a_ (iw env.cells names cs):=by
  intro names
  induction names with
  |nil=>intro cs _;rfl
  | cons y r ih=>
   intro cs U;obtain⟨n,k⟩:=y;have W:∀y∈r,y.2= .free->∃c,env.cells.lookup y.1=ar c:=λy hm=>U y (JF _ hm);rw[L_];by_cases hk:(k==g6)=dr
   ·have Y:k= .free:=by simpa using hk
    obtain⟨c,X⟩:=U (n,k) JL Y;have e:cellOf env n=a_ c:=by unfold cellOf;rw[X]
    simp only[hk,if_true,e,pure_bind];rw[ih _ W];simp only[iw,hk,if_true,X,Option.getD_some]
   ·have Z:(k==g6)=false:=by simpa using hk
    simp only[Z,er,if_false,pure_bind];rw[ih _ W];simp only[iw,Z,er,if_false]
 have:=go scope.names [] h;unfold N0;simp only[bind_pure]at*;exact this
theorem qk{cells:List (Str×c_)}:∀(names:List (Str×k_)) (cs:List (Str×c_)),(∀y∈names,y.2= .free->∃c,cells.lookup y.1=ar c)->(∀p∈cs,cells.lookup p.1=ar p.2)->
  ∀p∈iw cells names cs,cells.lookup p.1=ar p.2
 |[],cs,_,h=>h
 | (n,k)::r,cs,hy,h=>by
  refine qk r _ (λy hm=>hy y (JF _ hm)) λp Z=>?_;by_cases hk:(k==g6)=dr
  ·rw[if_pos hk]at Z;rcases JN.mp Z with rfl|Z
   ·obtain⟨c,X⟩:=hy (n,k) JL (by simpa using hk);show cells.lookup n=ar ((cells.lookup n).getD 0);have Y:cells.lookup n=ar c:=X;rw[Y];rfl
   ·exact h p Z
  ·rw[if_neg hk]at Z;exact h p Z
theorem iy:∀(names:List (Str×k_)) (cs:List (Str×c_)),(x,g6)∈names\/x∈cs.map (·.1)->x∈(iw cells names cs).map (·.1)
 |[],cs,h=>by
  rcases h with h|h
  ·cases h
  ·exact h
 | (n,k)::r,cs,h=>by
  refine iy r _ ?_;rcases h with h|h
  ·rcases JN.mp h with e|h
   ·cases e;refine .inr ?_;simp
   ·exact .inl h
  ·refine .inr ?_;by_cases hk:(k==g6)=dr
   ·rw[if_pos hk];exact JF _ h
   ·rw[if_neg hk];exact h
theorem lookup_mem:∀{l:List (Str×c_)},l.lookup x=ar c->(x,c)∈l
 |[],h=>by cases h
 | (n,a)::r,h=>by
  by_cases e:x==n
  ·have Z:x=n:=by simpa using e
   rw[J7,e]at h;have h':ar a=ar c:=h;cases h';subst Z;exact JL
  ·have e2:(x==n)=false:=by simpa using e
   rw[J7,e2]at h;exact JF _ (lookup_mem h)
theorem mem_lookup:∀{l:List (Str×c_)},x∈l.map (·.1)->∃c,l.lookup x=ar c
 |[],h=>by cases h
 | (n,a)::r,h=>by
  by_cases e:x==n
  ·exact⟨a,by rw[J7,e]⟩
  ·have e2:(x==n)=false:=by simpa using e
   rw[J7,e2];refine mem_lookup ?_;rcases JN.mp h with z|z
   ·have Z:x=n:=z;subst Z;simp at e
   ·exact z
theorem bg:∀{l:List (Str×k_)},l.lookup x=ar k->(x,k)∈l
 |[],h=>by cases h
 | (n,a)::r,h=>by
  by_cases e:x==n
  ·have Z:x=n:=by simpa using e
   rw[J7,e]at h;have h':ar a=ar k:=h;cases h';subst Z;exact JL
  ·have e2:(x==n)=false:=by simpa using e
   rw[J7,e2]at h;exact JF _ (bg h)
theorem gR{env:Env}:∀{names:List (Str×k_)} {k:k_},
  (names.map λ(n,k)=>if (k==g6 && env.scope.kind== .function && env.kindOf n==ar .cell)then (n,m1)else (n,k)).lookup x=ar k->
   names.lookup x=ar k\/(k= .cell/\names.lookup x=ar .free)
 |[],k,h=>by cases h
 | (n,a)::r,k,h=>by
  by_cases e:x==n
  ·rw[JQ]at h;by_cases c:(a==g6 && env.scope.kind== .function && env.kindOf n==ar .cell)=dr
   ·have Y:a= .free:=by
     simp only[h_,beq_iff_eq]at c;exact c.1.1
    simp only[c,if_true,j',e]at h;cases h;refine .inr ⟨rfl,?_⟩;rw[J7,e,Y]
   ·have Z:(a==g6 && env.scope.kind== .function && env.kindOf n==ar .cell)=false:=by simpa using c
    simp only[Z,er,if_false,j',e]at h;refine .inl ?_;rw[J7,e];exact h
  ·have e2:(x==n)=false:=by simpa using e
   rw[J7,e2];refine gR (env:=env) (names:=r) ?_;rw[JQ]at h;by_cases c:(a==g6 && env.scope.kind== .function && env.kindOf n==ar .cell)=dr
   ·simp only[c,if_true,j',e2]at h;exact h
   ·have Z:(a==g6 && env.scope.kind== .function && env.kindOf n==ar .cell)=false:=by simpa using c
    simp only[Z,er,if_false,j',e2]at h;exact h
theorem jP{env:Env}:∀{names:List (Str×k_)},names.lookup x=ar .free->
  (names.map λ(n,k)=>if (k==g6 && env.scope.kind== .function && env.kindOf n==ar .cell)then (n,m1)else (n,k)).lookup x=ar .cell\/
  (names.map λ(n,k)=>if (k==g6 && env.scope.kind== .function && env.kindOf n==ar .cell)then (n,m1)else (n,k)).lookup x=ar .free
 |[],h=>by cases h
 | (n,a)::r,h=>by
  rw[JQ];by_cases e:x==n
  ·rw[J7,e]at h;have X:ar a=ar NameKind.free:=h;cases X;by_cases c:(g6==g6 && env.scope.kind== .function && env.kindOf n==ar .cell)=dr
   ·refine .inl ?_;simp only[c,if_true,j',e]
   ·have Z:(g6==g6 && env.scope.kind== .function && env.kindOf n==ar .cell)=false:=by simpa using c
    refine .inr ?_;simp only[Z,er,if_false,j',e]
  ·have e2:(x==n)=false:=by simpa using e
   rw[J7,e2]at h;have Y:=jP (env:=env) h;by_cases c:(a==g6 && env.scope.kind== .function && env.kindOf n==ar .cell)=dr
   ·simp only[c,if_true,j',e2];exact Y
   ·have Z:(a==g6 && env.scope.kind== .function && env.kindOf n==ar .cell)=false:=by simpa using c
    simp only[Z,er,if_false,j',e2];exact Y
theorem tY:∀{names:List (Str×k_)} {n:Nat} {acc:List (Str×c_)} {p:Str×c_},p∈ip n names acc->p∈acc\/n<=p.2
 |[],n,acc,p,h=>.inl h
 | (x,k)::r,n,acc,p,h=>by
  unfold ip at h;split at h
  ·rcases tY h with h|h
   ·rcases JN.mp h with rfl|h
    ·exact .inr (Jw _)
    ·exact .inl h
   ·exact .inr (LU h)
  ·exact tY h
theorem tZ:∀{names:List (Str×k_)} {n:Nat} {acc:List (Str×c_)},(∀p∈acc,p.2<n)->(∀x y c,(x,c)∈acc->(y,c)∈acc->x=y)->∀x y c,(x,c)∈ip n names acc->(y,c)∈ip n names acc->x=y
 |[],n,acc,_,hi,x,y,c,h1,h2=>hi x y c h1 h2
 | (z,k)::r,n,acc,hl,hi,x,y,c,h1,h2=>by
  unfold ip at h1 h2;by_cases hk:(k==m1)=dr
  ·rw[if_pos hk]at h1 h2;refine tZ (λp Z=>?_) (λx y c g1 g2=>?_) x y c h1 h2
   ·rcases JN.mp Z with rfl|Z
    ·exact Mc _
    ·exact KO (hl p Z)
   ·rcases JN.mp g1 with g1|g1<;>rcases JN.mp g2 with g2|g2
    ·rw[<-g2]at g1;exact(Prod.mk.inj g1).1
    ·cases g1;exact absurd (hl _ g2) (KN _)
    ·cases g2;exact absurd (hl _ g1) (KN _)
    ·exact hi x y c g1 g2
  ·rw[if_neg hk]at h1 h2;exact tZ hl hi x y c h1 h2
theorem qm:∀{names:List (Str×k_)} {n:Nat} {acc:List (Str×c_)},(∀y∈names,y.2= .cell->y.1≠x)->(ip n names acc).lookup x=acc.lookup x
 |[],_,_,_=>rfl
 | (z,k)::r,n,acc,h=>by
  unfold ip;split
  ·next hk=>
   rw[qm λy Z=>h y (JF _ Z),J7];have:(x==z)=false:=by have:=h (z,k) JL (by simpa using hk);simpa using i2 this
   rw[this]
  ·exact qm λy Z=>h y (JF _ Z)
theorem qo:∀{names:List (Str×k_)} {h:fc} {acc:List (Str×c_)} {p:Str×c_},p∈ip h.objs.size names acc->p∈acc\/(pushCells h names).IsCell p.2 none
 |[],h,acc,p,q=>.inl q
 | (x,k)::r,h,acc,p,q=>by
  unfold ip at q;unfold pushCells;split at q
  ·next hk=>
   rw[if_pos hk];have Z:p∈ip (h.push {cls:=.type "cell",data:=.cell none}).objs.size r ((x,h.objs.size)::acc):=by rw[Ku];exact q
   rcases qo Z with Z|Z
   ·rcases JN.mp Z with rfl|Z
    ·exact .inr ⟨_,M3 _ _ _ _ (JD _ rfl),rfl⟩
    ·exact .inl Z
   ·exact .inr Z
  ·next hk=>
   rw[if_neg hk];exact qo q
theorem t4:∀(names:List (Str×k_)) (n:Nat) (acc:List (Str×c_)),((x,m1)∈names\/∃c,acc.lookup x=ar c/\m<=c)->m<=n->(ip n names acc).lookup x=ar a->m<=a
 | [],n,acc,h,hm,e=>by
  rcases h with h|⟨c,h2,h3⟩
  ·cases h
  ·have Y:acc.lookup x=ar a:=e;rw[h2]at Y;cases Y;exact h3
 | (z,k)::r,n,acc,h,hm,e=>by
  unfold ip at e;by_cases hk:(k==m1)=dr
  ·rw[if_pos hk]at e;refine t4 r (n+1) _ ?_ (Nat.le_succ_of_le hm) e;by_cases hz:(x==z)=dr
   ·exact .inr ⟨n,by rw[J7,hz],hm⟩
   ·have Z:(x==z)=false:=by simpa using hz
    rcases h with h|⟨c,h2,h3⟩
    ·rcases JN.mp h with h|h
     ·cases h;simp at hz
     ·exact .inl h
    ·exact .inr ⟨c,by rw[J7,Z];exact h2,h3⟩
  ·rw[if_neg hk]at e;refine t4 r n acc ?_ hm e;rcases h with h|h
   ·rcases JN.mp h with h|h
    ·cases h;simp at hk
    ·exact .inl h
   ·exact .inr h
theorem w6{s:b_}{scope:Scope}{env:Env}
  (h:∀h1,h1.Ns s.heap.objs.size (λ_=>none)->(∀b o,s.heap.get? b=ar o->h1.get? b=ar o)->(∀p∈ip (s.heap.objs.size+1) scope.names cl,p∈cl\/h1.IsCell p.2 none)->
   Q {scope,locals:=s.heap.objs.size,globals:=env.globals,cells:=ip (s.heap.objs.size+1) scope.names cl,qual:=env.qual,func:=none,code:=env.code,frame:=env.frame,builtins:=env.builtins} {s with heap:=h1}):
  eb M A (newFunctionEnv scope env.globals cl [] env.qual none .none (ar env)) Q E s:=by
 simp only[newFunctionEnv,Option.isSome_some,if_true];refine Ju (wpAny_alloc (Ju (wpAny_layCells _ (λname kind cells=>by cases hkc:kind==m1<;>simp[hkc]) _ _ _ _ ?_)));have e:({s with heap:=s.heap.push {cls:=.type "dict",data:=.dict #[]}}:b_).heap.objs.size=s.heap.objs.size+1:=Ku ..;rw[e];refine Ju (m:=OP [] _ _) (Jx (Jx (h _ ((Heap.Ns.new s.heap (.type "dict")).keeps (M3 _ _)) (λb o q=>M3 _ _ b o (Jv _ q)) λp Z=>?_)));exact qo (h:=s.heap.push {cls:=.type "dict",data:=.dict #[]}) (by rw[e];exact Z)
def bq(X:Cx)(scope:Scope)(Nc:List Str)(C:c_)(ex:List c_)(s:b_)(H:Hp):Cx:=
 {X with N:=Nc,s₀:=s,H₀:=H,env:=compEnvC scope (ip (C+1) scope.names (iw X.env.cells scope.names [])) C X.env,outer:=X.stack,stack:=X.stack,ex:=ex,fn:=λx=>scope.names.lookup x==ar .cell,pn:=[],xe:=λ_ _=>False}
structure CompScope(X:Cx)(scope:Scope)(Nc:List Str)(js:List (Option Nat)):Prop where
 kind:scope.kind= .function
 cel:∀y∈scope.names,y.2= .cell->scope.names.lookup y.1=ar .cell
 loc:∀y∈scope.names,y.2= .local->scope.names.lookup y.1=ar .local
 free:∀y∈scope.names,y.2= .free->X.env.kindOf y.1=ar .cell\/X.env.kindOf y.1=ar .free
 len:js.length=Nc.length
 ix:∀(i:Nat) (x:Str) (j:Nat),Nc[i]? =ar x->js[i]? =ar (ar j)->X.N[j]? =ar x/\scope.names.lookup x=ar .free
def oC(js:List (Option Nat))(σ:St):St:=js.map λo=>o.bind λj=>(σ[j]?).join
def FD(X:Cx)(ifs:List Expr)(t:TT):Prop:=
 ∀(pins:List (c_×Obj)) (s:b_) (σ:St) (H:Hp) (Q:Bool->Hp->Prop),Inv X pins σ H s->t σ H Q->
  eb (eK X.prog X.w) X.A (OP ifs dr λc r=>if r=dr then do let ok<-isTrue c X.env (f' c X.env);a_ (A_ ok)else a_ (A_ r)) (TP X pins σ Q) X.xe s
theorem BH:FD X [] (λ_ H Q=>Q dr H):=λpins s σ H Q I h=>wpAny_tests_nil ⟨H,I,h⟩
theorem BI(h:PT X c t):FD X [c] t:=λpins s σ H Q I hw=>wpAny_tests_one (h pins s σ H Q I hw)
def vp(wi:TI)(js:List (Option Nat))(g:TG)(tt:TT)(te:TE):TE:=λσ H Q=>wi σ H λJ H1=>∀p,H1 p=none->
 ∃W:Nat->Nat->St->Hp->Prop,(∃m,W 0 m (oC js σ) (upd H1 p (.lst [])))/\∀i m σc Hc,W i m σc Hc->
  (J.stop i Hc/\Q (.ref p) Hc)\/(J.go i Hc/\∃N:St->Hp->Prop,(∀ σ' H',N σ' H'->∃m',m'<m/\W (i+1) m' σ' H')/\∀x H',J.yld i Hc x H'->g x σc H' λσ2 H2=>tt σ2 H2 λb H3=>
   if b=dr then te σ2 H3 λy H4=>∃xs,H4 p=ar (.lst xs)/\xs.length<sizeLine/\N σ2 (upd H4 p (.lst (xs++[y])))else N σ2 H3)
section
variable {X:Cx}{scope:Scope}{Nc:List Str}{js:List (Option Nat)}{pins:List (c_×Obj)}{σ:St}{H:Hp}{s:b_}
theorem CompScope.has(c:CompScope X scope Nc js)(Y:X.Ok):∀y∈scope.names,y.2= .free->∃a,X.env.cells.lookup y.1=ar a:=λy Z e=>Y.has y.1 (c.free y Z e)
theorem t5{J:fc}(c:CompScope X scope Nc js)(I:Inv X pins σ H s)(U:∀b∈ex,jH X pins H b)(L:∀b∈ex,b<s.heap.objs.size)
  (R:C=s.heap.objs.size) (f:J.Ns C (λ_=>none)) (hs:∀b o,s.heap.get? b=ar o->J.get? b=ar o)
  (A:∀p∈ip (C+1) scope.names (iw X.env.cells scope.names []),p∈iw X.env.cells scope.names []\/J.IsCell p.2 none):
  Inv (bq X scope Nc C ex s H) [] (oC js σ) H {s with heap:=J,toks:=tk}:=by
 have Y:=qk (cells:=X.env.cells) scope.names [] (c.has I.ok) (λ_ z=>nomatch z);have P:∀x a,(iw X.env.cells scope.names []).lookup x=ar a->X.env.cells.lookup x=ar a:=λx a e=>Y _ (lookup_mem e);have t:∀b o,s.heap.get? b=ar o->b≠C:=λb o e=>by rw[R];exact JK (JC e)
 have Q:∀p∈iw X.env.cells scope.names [],p.2<C+1:=λp w=>by obtain⟨v,F,K,_⟩:=I.cell p.1 p.2 (Y p w);rw[R];exact KO (JC K)
 have Z:∀x a,(ip (C+1) scope.names (iw X.env.cells scope.names [])).lookup x=ar a->X.env.cells.lookup x=ar a\/(C<a/\J.IsCell a none):=λx a e=>by
  have hm:=lookup_mem e;rcases A _ hm with z|z
  ·exact .inl (Y _ z)
  ·rcases tY hm with y|y
   ·exact .inl (Y _ y)
   ·exact .inr ⟨y,z⟩
 refine⟨⟨I.ok.mod,c.kind,I.ok.glob,I.ok.blt,Lz R.symm,λx y a e1 e2=>tZ Q (λx y a e1 e2=>I.ok.inj x y a (Y _ e1) (Y _ e2)) x y a (lookup_mem e1) (lookup_mem e2),λx N=>?_,λx a z e=>?_,I.ok.hd,I.ok.frames,.inl rfl,λb W=>⟨?_,λx a e z=>?_⟩,
  I.bs,JG I.ok.bsz I.sz,λb o e W=>?_,λb W z=>?_,I.stack,I.stkFree⟩,rfl,I.bare,Un.kept hs,⟨_,f,λi x v e1 e2 e3=>?_⟩,λx a e=>?_,?_,λx a e=>?_,(λp w=>nomatch w),I.hok.kept hs,?_⟩
 ·-- names that are cells here have one
  have E:scope.names.lookup x=ar .free\/scope.names.lookup x=ar .cell:=by
   rcases N with N|N
   ·rcases gR (env:=X.env) (names:=scope.names) N with z|⟨_,z⟩
    ·exact .inr z
    ·exact .inl z
   ·rcases gR (env:=X.env) (names:=scope.names) N with z|⟨z,_⟩
    ·exact .inl z
    ·cases z
  refine Kr.mp (LM scope.names (C+1) _ ?_);rcases E with z|z
  ·exact .inr (Kr.mpr (mem_lookup (iy scope.names [] (.inl (bg z)))))
  ·exact .inl z
 ·-- the block's own cells are new
  have h:scope.names.lookup x=ar .cell:=by have:(scope.names.lookup x==ar .cell)=true:=z;simpa using this
  show s.heap.objs.size<=a;rw[<-R];exact LU (t4 (m:=C+1) scope.names (C+1) _ (.inl (bg h)) (Jw _) e)
 ·show b≠C;rw[R];exact JK (L b W)
 ·rcases Z x a e with y|⟨y,_⟩
  ·exact(U b W).2.2.2.2.1 x a y z
  ·rw[z,R]at y;exact KN _ (L5 y (L b W))
 ·have:b<X.base.objs.size:=JC e;rcases (U b W).2.2.2.1 with z|z
  ·exact I.ok.noex b o e z
  ·exact absurd (JI this (JG I.ok.bsz z)) (KN _)
 ·rcases JN.mp (I.stkSub b z)with e|e
  ·exact(U b W).2.1 e
  ·exact(U b W).2.2.1 e
 ·-- the names that are read from around
  have B:Nc[i]? =ar x:=e1;have:∃j,js[i]? =ar (ar j)/\σ[j]? =ar (ar v):=by
   unfold oC at e2;rw[JP]at e2;cases q:js[i]? with
   |none=>rw[q]at e2;cases e2
   | some o=>
    rw[q]at e2;cases o with
    |none=>cases e2
    |some j=>
     refine⟨j,rfl,?_⟩;have T:(σ[j]?).join=ar v:=JW e2;cases r:σ[j]? with
     |none=>rw[r]at T;cases T
     |some z=>rw[r]at T;exact KG ar T
  obtain⟨j,hj,n⟩:=this;obtain⟨d,S⟩:=c.ix i x j B hj;obtain⟨m,g,l⟩:=I.loc;have G:=c.free (x,.free) (bg S) rfl;have O:CV X.env.scope x:=by
   rcases G with z|z
   ·exact .inr (.inl z)
   ·exact .inr (.inr z)
  obtain⟨u,ru,k⟩:=l j x v d n O;refine⟨u,ru,.inr ⟨?_,?_⟩⟩
  ·rcases jP (env:=X.env) S with z|z
   ·exact .inl z
   ·exact .inr z
  ·rcases k with⟨z,_⟩|⟨_,a,ea,ha⟩
   ·rcases G with y|y
    ·rw[show X.env.kindOf x=ar m1 from y]at z;cases z
    ·rw[show X.env.kindOf x=ar g6 from y]at z;cases z
   ·obtain⟨b,W⟩:=mem_lookup (iy (cells:=X.env.cells) scope.names [] (.inl (bg S)));have:=P x b W;rw[ea]at this;cases this;obtain⟨F,K,hd⟩:=ha;refine⟨a,?_,F,hs _ _ K,hd⟩;show(ip (C+1) scope.names (iw X.env.cells scope.names [])).lookup x=ar a;rw[qm λy hy e z=>by have:=c.cel y hy e;rw[z,S]at this;cases this];exact W
 ·rcases Z x a e with y|⟨_,y⟩
  ·obtain⟨v,F,K,hd⟩:=I.cell x a y;exact⟨v,F,hs _ _ K,hd⟩
  ·exact⟨_,y⟩
 ·show H C=none;rw[R];exact I.hok.fresh (Jw _)
 ·rcases Z x a e with y|⟨y,_⟩
  ·exact I.freeC x a y
  ·exact I.hok.fresh (by rw[<-R];exact KS y)
 ·show(oC js σ).length=Nc.length;unfold oC;rw[Jy];exact c.len
theorem yH(I:Inv X pins σ H s)(Q:C=s.heap.objs.size)(Z:∀b∈ex,jH X pins H b)
  (T:Inv (bq X scope Nc C ex s H) [] σc H' s') (hs:oi C s'.heap h2):Inv X pins σ H' {s' with heap:=h2}:=by
 have W:∀b o,s.heap.get? b=ar o->b≠C:=λb o e=>by rw[Q];exact JK (JC e)
 have B:=T.base;have u:Un (iq X.stack) ex H H' s.heap h2:={
  keep:=λb o e n Y U=>(hs.2 b (W b o e)).trans (B.keep b o e n Y U)
  slot:=λb o e n Y U=>by obtain⟨R,q⟩:=B.slot b o e n Y U;exact⟨R,(hs.2 b (W b o e)).trans q⟩
  free:=B.free
  there:=λb o e U=>by obtain⟨P,q⟩:=B.there b o e U;exact⟨P,(hs.2 b (W b o e)).trans q⟩
  tups:=B.tups
  frzs:=B.frzs
  tbls:=B.tbls}
 refine I.call' (s':={s' with heap:=h2}) (ch:=ex) T.os u (λb o e=>?_) T.bare λb Y=>⟨(Z b Y).2.2.2.1,(Z b Y).2.1,(Z b Y).2.2.2.2.1,(Z b Y).2.2.2.2.2⟩;have S:∀b o,H' b=ar o->b≠C:=λb o e z=>by have hf:H' C=none:=T.free;rw[z,hf]at e;cases e
 refine(T.hok b o e).stay (λd v hd q=>?_) (λ_ q=>q) λ_ _ q=>q;refine(hs.2 d ?_).trans q;rcases hd with z|z
 ·subst z;exact S _ _ e
 ·exact S _ _ z
theorem rT{Q:VK}(G:Option (aC->Sem Unit))(Qr:aC->b_->Prop)(c:CompScope X scope Nc js)(hc:X.calm=dr)(hi:PI X tg iter wi)
  (b4:∀C ex s H,Inv X pins σ H s->(∀b∈ex,jH X pins H b)->PG (bq X scope Nc C ex s H) tg g/\FD (bq X scope Nc C ex s H) ifs tt/\PE (bq X scope Nc C ex s H) elt te)
  (I:Inv X pins σ H s) (h:vp wi js g tt te σ H Q)
  (k:∀p C s' S,Q (.ref p) S->(∀l,oi C s'.heap l->Inv X pins σ S {s' with heap:=l})->(∃m,s'.heap.Ns C m)->jH X pins S C->
   compPost (eK X.prog X.w) X.A X.xe G Qr (.ref p) C (.ok .next) s')
  (hs:∀x,lb iter X.env x=a_ x:=by intro _;rfl):
  eb (eK X.prog X.w) X.A (comprehension (.ListComp elt [⟨tg,iter,ifs,0⟩] scope pos) scope X.env pos' (OQ []) dt (f' iter X.env) G) Qr X.xe s:=by
 refine wpAny_comprehension_free rfl hs (jO scope X.env (c.has I.ok)) c.kind c.loc (cO (hi pins s σ H _ I h) λv s1 F=>cO F λe0 s2 l=>?_);obtain⟨it,Y,a,J,U,e,I2,T,E,f2,hW⟩:=l;subst e;refine Ka (w6 λF K L O=>?_);dsimp only at K L O⊢;obtain⟨W,⟨m0,w0⟩,turn⟩:=hW s2.heap.objs.size (I2.hok.fresh (Jw _));have B:Inv X pins σ (upd U s2.heap.objs.size (.lst [])) {s2 with heap:=s2.heap.push {cls:=.type "list",dict:=none,data:=.seq ([]:List aC).toArray}}:=
  I2.laid (t':=s2.toks) (λ_ _ q=>Jv _ q) (Jw _) ⟨JS _,[],0,.nil,JD _ rfl⟩
 generalize hS3:({s2 with heap:=s2.heap.push {cls:=.type "list",dict:=none,data:=.seq ([]:List aC).toArray}}:b_)=s3 at B;have e3:s3.heap=s2.heap.push {cls:=.type "list",dict:=none,data:=.seq ([]:List aC).toArray}:=by rw[<-hS3]
 rw[<-e3]at K L O⊢;generalize hp:s2.heap.objs.size=p at*;have j:∀b∈Y,b<p:=λb Z=>by obtain⟨o,e,_⟩:=T.obj _ _ E b Z;rw[<-hp];exact JC e
 have b3:∀b∈Y,b≠p:=λb Z=>JK (j b Z);have f3:∀b∈Y,jH X pins (upd U p (.lst [])) b:=λb Z=>⟨by rw[aG (b3 b Z)];exact(f2 b Z).1,(f2 b Z).2⟩;have f:s3.heap.objs.size=p+1:=by rw[e3,Ku,hp]
 have t:∀b∈Y,b<s3.heap.objs.size:=λb Z=>by rw[f];exact KO (j b Z)
 have R:∀b o,s3.heap.get? b=ar o->F.get? b=ar o:=L;have b1:a 0 F:=T.keep _ _ _ E λb Z o e=>R b o (by rw[e3];exact Jv _ e);generalize hC:s3.heap.objs.size=C at*;have a6:F.Ns C (λ_=>none):=by simpa using K
 have start:∀tk,Inv (bq X scope Nc C Y s3 (upd U p (.lst []))) [] (oC js σ) (upd U p (.lst [])) {s3 with heap:=F,toks:=tk}:=λtk=>t5 c B f3 (λb Z=>by rw[hC];exact t b Z) hC.symm a6 R O;have ok:=(start 0).ok;have P:∀{S:Hp},(∀b∈Y,S b=none)->∀b∈Y,jH (bq X scope Nc C Y s3 (upd U p (.lst []))) [] S b:=λhn b Z=>
  ⟨hn b Z,(ok.exf b Z).1,ok.exfs b Z,.inl Z,(ok.exf b Z).2,λ_ z=>nomatch z⟩
 obtain⟨hG,hT,hE⟩:=b4 C Y s3 (upd U p (.lst [])) B f3;have loop:∀s':b_,Inv (bq X scope Nc C Y s3 (upd U p (.lst []))) [] (oC js σ) (upd U p (.lst [])) s'->a 0 s'.heap->
   C_ (eK X.prog X.w) X.A (.compLoop (.ListComp elt [⟨tg,iter,ifs,0⟩] scope pos) 0 (.ref it) (.ref p) (bq X scope Nc C Y s3 (upd U p (.lst []))).env) (compPost (eK X.prog X.w) X.A X.xe G Qr (.ref p) C) s':=by
  intro s' I' b5;refine codeAny_loop rfl (λn s'=>∃i σ' S,Inv (bq X scope Nc C Y s3 (upd U p (.lst []))) [] σ' S s'/\a i s'.heap/\(∀b∈Y,S b=none)/\W i n σ' S) ?_ m0 ⟨0,_,_,I',b5,λb Z=>(f3 b Z).1,w0⟩;rintro n s4 ⟨i,σ4,H4,I4,st4,fr4,w4⟩;show eb _ X.A ((compTurn (.ListComp elt [⟨tg,iter,ifs,0⟩] scope pos) 0 (.ref it) (.ref p) (bq X scope Nc C Y s3 (upd U p (.lst []))).env).onRaise (λx=>do Nm x (bq X scope Nc C Y s3 (upd U p (.lst []))).env;theTreesLotGoes x)) _ _ s4;refine wpAny_noted ?_;rw[compTurn_list];refine Ju (Np (Ju ?_));rcases turn i n σ4 H4 w4 with⟨stop,qn⟩|⟨go,N,hN,step⟩
  ·refine Kx (T.done (bq X scope Nc C Y s3 (upd U p (.lst []))) rfl rfl rfl hc i [] s4 σ4 H4 (λ_ _=>False) I4 (P fr4) st4 stop) (λr s5 ⟨hr,I5⟩=>?_) λ_ _ z=>z.elim;subst hr;refine Jx (k p C s5 H4 qn (λl b2=>yH B hC.symm f3 I5 b2) ?_ (B.fpOk (Lz hC) I5.free));obtain⟨m,hm,_⟩:=I5.loc;exact⟨m,hm⟩
  ·refine Kx (T.item (bq X scope Nc C Y s3 (upd U p (.lst []))) rfl rfl rfl hc i [] s4 σ4 H4 (λ_ _=>False) I4 (P fr4) st4 go) (λr s5 ⟨u,hr,h5⟩=>?_) λ_ _ z=>z.elim;subst hr;refine Ju (Kx h5 (λ_ s6 ⟨x,H6,I6,r6,y6,st6,fr6⟩=>?_) λ_ _ z=>z.elim);have b6:=I6.pinned (P fr6) (T.obj _ _ st6);refine Ju (Kx (hG _ s6 σ4 H6 x u _ b6 r6 (step x H6 y6)) (λ_ s7 ⟨σ7,H7,I7,q7⟩=>?_) λ_ _ z=>z.elim);refine Ju (Kx (hT _ s7 σ7 H7 _ I7 q7) (λb s8 ⟨H8,I8,q8⟩=>?_) λ_ _ z=>z.elim);have NW:∀{σ9:St} {H9:Hp} {s9:b_},Inv (bq X scope Nc C Y s3 (upd U p (.lst []))) ([]++mG Y s6.heap) σ9 H9 s9->N σ9 H9->
     ∃m,m<n/\∃i σ' S,Inv (bq X scope Nc C Y s3 (upd U p (.lst []))) [] σ' S s9/\a i s9.heap/\(∀b∈Y,S b=none)/\W i m σ' S:=λ{σ9 H9 s9} I9 n9=>by
    obtain⟨m',hm,w9⟩:=hN σ9 H9 n9;refine⟨m',hm,i+1,σ9,H9,I9.unpinned,T.keep _ _ _ st6 λb Z o e=>(I9.pin (b,o) (JX _ (JX _ (gQ Z e)))).1,λb Z=>?_,w9⟩;obtain⟨o,e,d⟩:=T.obj _ _ st6 b Z;exact(I9.pin (b,o) (JX _ (JX _ (gQ Z e)))).2.1
   cases b with
   |false=>exact Jx ⟨rfl,NW I8 q8⟩
   |true=>
    refine Ju (Ju (Kx (hE _ s8 σ7 H8 _ I8 q8) (λy s9 ⟨yv,H9,I9,r9,q9⟩=>?_) λ_ _ z=>z.elim));obtain⟨xs,hx,hl,n9⟩:=q9;refine Ju (Kx (o9 (X:=bq X scope Nc C Y s3 (upd U p (.lst []))) _ s9 σ7 H9 (.ref p) [yv] (.ref p) [y] (λ_ S=>N σ7 S) I9 rfl (.cons r9 .nil) ⟨p,xs,yv,rfl,rfl,hx,hl,n9⟩) (λ_ s10 ⟨_,H10,I10,_,q10⟩=>?_) λ_ _ z=>z.elim);exact Jx (Jx ⟨rfl,NW I10 q10⟩)
 refine codeAny_compStart_list (loop _ ?_ ?_) (T.self _ 0 _ _ _ ?_ (loop _ ?_ ?_))
 all_goals first
  |exact b1
  |(subst hS3;exact start _)
theorem BJ(c:CompScope X scope Nc js)(T:X.calm=dr)(R:PI X tg iter wi)
  (Y:∀C ex s H,PG (bq X scope Nc C ex s H) tg g/\FD (bq X scope Nc C ex s H) ifs tt/\PE (bq X scope Nc C ex s H) elt te)
  (hs:∀x,lb iter X.env x=a_ x:=by intro _;rfl):PE X (.ListComp elt [⟨tg,iter,ifs,0⟩] scope pos) (vp wi js g tt te):=by
 intro pins s σ H Q I h;rw[eval_ListComp];refine rT none _ c T R (λC ex s H _ _=>Y C ex s H) I h (λp C s' S q P W _=>?_) hs;obtain⟨m,hm⟩:=W;exact⟨m,hm,λU Z=>⟨.ref p,S,P U Z,rfl,q⟩⟩
theorem t6{pos:Pos}(K:X.N.Nodup)(U:X.N[i]? =ar x)(L:Loc X.env.scope x)
  (c:CompScope X scope Nc js) (P:X.calm=dr) (F:PI X tg iter wi)
  (T:∀C ex s H,PG (bq X scope Nc C ex s H) tg g/\FD (bq X scope Nc C ex s H) ifs tt/\PE (bq X scope Nc C ex s H) elt te)
  (W:kT (.ListComp elt [⟨tg,iter,ifs,0⟩] scope cpos) (ar (.Name x pos')) pos.line X.env=a_ true:=by rfl)
  (Q:X.fn x=dr\/X.env.scope.names.lookup x=ar .local:=by first|exact .inl rfl|exact .inr rfl|assumption)
  (hs:∀x,lb iter X.env x=a_ x:=by intro _;rfl):PS X (.Assign [.Name x pos'] (.ListComp elt [⟨tg,iter,ifs,0⟩] scope cpos) pos) (DN (vp wi js g tt te) (yk i)):=by
 intro pins s σ H D I h;rw[exec_Assign_Name_used _ _ _ _ W];refine Ju (Np (Ju ?_));show eb _ X.A (do let _<-comprehension (.ListComp elt [⟨tg,iter,ifs,0⟩] scope cpos) scope X.env _ (OQ []) dt (f' iter X.env) (ar (M8 (.Name x pos') X.env))) _ _ s;refine Ju (cO (rT (ar (M8 (.Name x pos') X.env)) (λ_ s'=>SP X pins D .next s') c P F (λC ex s H _ _=>T C ex s H) I h (λp C s' S q E O Z=>?_) hs) λ_ s' q=>Jx (Jx q));obtain⟨m,hm⟩:=O;have R:Inv X pins σ S s':=E s'.heap (.refl ..);refine wpAny_assign_Name (oX R K U L (v:=.ref p) rfl (λs'' I'' ⟨a,hsb,ha⟩=>?_) Q);have G:C≠a:=by
  rcases ha with z|z
  ·rw[z];exact Z.2.1
  ·exact λe=>Z.2.2.2.2.1 x a z e.symm
 refine⟨m,hm.sameBut hsb G,λB Y=>?_⟩;exact⟨_,S,I''.turned (t':=s''.toks) (it:=C) (λb o J e=>(Y.2 b J).trans e) Z.1 Z.2.1 Z.2.2.2.1 Z.2.2.2.2.1 Z.2.2.2.2.2,q⟩
end
inductive D where
 |non|bl (b:Bool)|int (i:Int)|str (x:Str)|tup (ds:List D)|lst (k:Nat)|ro (ds:List D)|emp
 |fn (a c:c_) (q:Str) (ds:List D) (vs:List V)|exc (x:Str) (ds:List D)
 |fz (ds:List D)
abbrev aw:=List (List D)
inductive Res(α:Type) where
 |ok (a:α)|ex (x:D)
def M(α:Type):=aw->Option (Res α×aw)
namespace M
def ret{α:Type}(a:α):M α:=λS=>ar (.ok a,S)
def bnd{α β:Type}(m:M α)(f:α->M β):M β:=λS=>match m S with
 |some (.ok a,S')=>f a S'
 |some (.ex x,S')=>ar (.ex x,S')
 |none=>none
def fail{α:Type}:M α:=λ_=>none
def raise{α:Type}(x:D):M α:=λS=>ar (.ex x,S)
noncomputable instance:Monad M where
 pure:=ret
 bind:=bnd
end M
def Ji(K:dV)(a:c_)(xs:List V):Prop:=∃(o:Obj) (its:Array aC) (n:Nat),K.lookup a=ar o/\o.cls= .type "list"/\o.dict=none/\o.data= .seq its n/\its.size<=sizeLine/\aX xs its.toList
def Bi(K:dV)(H:Hp)(a:c_)(vs:List V):Prop:=(∃o,H a=ar (.frz o (.lst vs)))\/Ji K a vs
theorem Bi.sq{K:dV}{H:Hp}{a:c_}{vs:List V}(h:Bi K H a vs):ir K H a vs:=h.imp (λ⟨o,e⟩=>.inr ⟨o,e⟩) λz=>z
def lM(C a:c_)(od:Option c_):fc->Prop:=λh=>∃oe vs,h.get? a=ar oe/\oe.cls= .ref C/\oe.dict=od/\oe.data= .fields vs
def oE(qual:Str)(c:c_):fc->Prop:=λh=>h.CodeRec (.ref c) qual
def bI:List Str:=["law","_law_within_right","_law_refusals_right","_law_sharings_right","_law_right","_law_lists_right","_law_papers_right","_law_great_right","_law_told_right","_law_desks_right","_law_texts_right"]
def TabsOk(K:dV)(H:Hp):Prop:=∀x∈bI,∀c P,k7 K x=ar (c,P)->∃ps,H P=ar (.tbl ps)/\Of ps.toList/\
 ∀pos cv,J' pos ps.toList=ar cv->∃c',cv= .ref c'/\H c'=ar (.ext (oE (x++".<locals>.<lambda>") c'))
theorem TabsOk.mono{K:dV}{H Z:Hp}(h:TabsOk K H)(k:∀a o,H a=ar o->(∀vs,o≠ .lst vs)->Z a=ar o):TabsOk K Z:=λx Y c P e=>
 let ⟨ps,h1,h2,h3⟩:=h x Y c P e
 ⟨ps,k _ _ h1 (by intro _ z;cases z),h2,λpos cv q=>let ⟨c',e1,e2⟩:=h3 pos cv q;⟨c',e1,k _ _ e2 (by intro _ z;cases z)⟩⟩
mutual
inductive RelD(K:dV)(ι:List c_)(H:Hp):D->V->Prop where
 |non:RelD K ι H .non .non
 |bl (b:Bool):RelD K ι H (.bl b) (.bl b)
 |int (i:Int):RelD K ι H (.int i) (.int i)
 |str (x:Str):RelD K ι H (.str x) (.str x)
 |tup {a:c_} {ds:List D} {vs:List V}:H a=ar (.tup vs)->RelDs K ι H ds vs->RelD K ι H (.tup ds) (.ref a)
 |lst {a:c_} {k:Nat}:ι[k]? =ar a->RelD K ι H (.lst k) (.ref a)
 |ro {a:c_} {ds:List D} {vs:List V}:Bi K H a vs->RelDs K ι H ds vs->RelD K ι H (.ro ds) (.ref a)
 |emp {a:c_}:H a=ar (.dK [])->RelD K ι H .emp (.ref a)
 |fn {a c:c_} {q:Str} {ds:List D} {vs:List V}:H c=ar (.ext (oE q c))->RelDs K ι H ds vs->RelD K ι H (.fn a c q ds vs) (.ref a)
 |exc {a C:c_} {x:Str}:ra K fg x=ar (ar (.ref C))->H a=ar (.ext (lM C a none))->RelD K ι H (.exc x []) (.ref a)
 |excF {a C dx:c_} {x:Str} {fs:List (Str×V)} {ds:List D}:ra K fg x=ar (ar (.ref C))->H a=ar (.ext (lM C a (ar dx)))->H dx=ar (.xd fs)->fs.map (·.1)=([("many":Str),("most":Str)]:List Str)->RelDs K ι H ds (fs.map (·.2))->RelD K ι H (.exc x ds) (.ref a)
 |fz {a:c_} {o:Obj} {ds:List D} {vs:List V}:H a=ar (.frz o (.lst vs))->RelDs K ι H ds vs->RelD K ι H (.fz ds) (.ref a)
inductive RelDs(K:dV)(ι:List c_)(H:Hp):List D->List V->Prop where
 |nil:RelDs K ι H [] []
 |cons {d:D} {v:V} {ds:List D} {vs:List V}:RelD K ι H d v->RelDs K ι H ds vs->RelDs K ι H (d::ds) (v::vs)
end
structure Rep(K:dV)(ι:List c_)(H:Hp)(S:aw):Prop where
 nd:ι.Nodup
 len:ι.length=S.length
 get:∀(k:Nat) (a:c_) (xs:List D),ι[k]? =ar a->S[k]? =ar xs->∃vs,H a=ar (.lst vs)/\RelDs K ι H xs vs
 tab:TabsOk K H
structure Ext(ι:List c_)(H:Hp)(ι':List c_)(H':Hp):Prop where
 ids:∃more,ι'=ι++more
 oth:∀a o,H a=ar o->a∉ι->(∀ps,o≠ .tbl ps)->H' a=ar o/\a∉ι'
structure ExtN(ι:List c_)(H:Hp)(ι':List c_)(H':Hp):Prop where
 ids:∃more,ι'=ι++more
 oth:∀a o,H a=ar o->a∉ι->(∀ps,o≠ .tbl ps)->(∀vs,o≠ .lst vs)->H' a=ar o/\a∉ι'
theorem Ext.n{ι Z:List c_}{H Y:Hp}(e:Ext ι H Z Y):ExtN ι H Z Y:=⟨e.ids,λa o h n t _=>e.oth a o h n t⟩
theorem Ext.refl{ι:List c_}{H:Hp}:Ext ι H ι H:=⟨⟨[],by simp⟩,λ_ _ h n _=>⟨h,n⟩⟩
theorem Ext.trans{ι Z Y:List c_}{H X W:Hp}(a:Ext ι H Z X)(b:Ext Z X Y W):Ext ι H Y W:=by obtain⟨U,e1⟩:=a.ids;obtain⟨T,e2⟩:=b.ids;exact⟨⟨U++T,by rw[e2,e1,JT]⟩,λc o h n t=>let ⟨h1,n1⟩:=a.oth c o h n t;b.oth c o h1 n1 t⟩
theorem ExtN.at{ι Z:List c_}{H Y:Hp}(e:ExtN ι H Z Y){k:Nat}{a:c_}(h:ι[k]? =ar a):Z[k]? =ar a:=by obtain⟨m,rfl⟩:=e.ids;have X:k<ι.length:=(Jz.mp h).1;rw[JZ X];exact h
section
variable {K:dV}{ι ι':List c_}{H H':Hp}{S:aw}
theorem Rep.isL(r:Rep K ι H S)(h:a∈ι):∃vs,H a=ar (.lst vs):=by
 obtain⟨k,Y,e⟩:=List.mem_iff_getElem.mp h;have Z:k<S.length:=by rw[<-r.len];exact Y
 obtain⟨vs,X,_⟩:=r.get k a (S[k]) (by rw[JB Y,e]) (JB Z);exact⟨vs,X⟩
theorem Rep.notIn(r:Rep K ι H S)(h:H a=ar o)(Z:∀vs,o≠ .lst vs):a∉ι:=λz=>by obtain⟨vs,e⟩:=r.isL z;rw[h]at e;exact Z vs (JW e)
theorem Rep.free(r:Rep K ι H S)(h:H a=none):a∉ι:=λz=>by obtain⟨vs,e⟩:=r.isL z;rw[h]at e;cases e
mutual
theorem RelD.laterN(r:Rep K ι H S)(e:ExtN ι H ι' H'):∀{d:D} {v:V},RelD K ι H d v->RelD K ι' H' d v
 |_,_,.non=>.non
 |_,_,.bl b=>.bl b
 |_,_,.int i=>.int i
 |_,_,.str x=>.str x
 |_,_,.tup h hs=>.tup (e.oth _ _ h (r.notIn h (by intro _ z;cases z)) (by intro _ z;cases z) (by intro _ z;cases z)).1 (RelDs.laterN r e hs)
 |_,_,.lst h=>.lst (e.at h)
 |_,_,.ro h hs=>.ro (h.imp (λ⟨o,h⟩=>⟨o,(e.oth _ _ h (r.notIn h (by intro _ z;cases z)) (by intro _ z;cases z) (by intro _ z;cases z)).1⟩) λz=>z) (RelDs.laterN r e hs)
 |_,_,.emp h=>.emp (e.oth _ _ h (r.notIn h (by intro _ z;cases z)) (by intro _ z;cases z) (by intro _ z;cases z)).1
 |_,_,.fn h hs=>.fn (e.oth _ _ h (r.notIn h (by intro _ z;cases z)) (by intro _ z;cases z) (by intro _ z;cases z)).1 (RelDs.laterN r e hs)
 |_,_,.exc n h=>.exc n (e.oth _ _ h (r.notIn h (by intro _ z;cases z)) (by intro _ z;cases z) (by intro _ z;cases z)).1
 |_,_,.excF n h h2 hn hs=>.excF n (e.oth _ _ h (r.notIn h (by intro _ z;cases z)) (by intro _ z;cases z) (by intro _ z;cases z)).1 (e.oth _ _ h2 (r.notIn h2 (by intro _ z;cases z)) (by intro _ z;cases z) (by intro _ z;cases z)).1 hn (RelDs.laterN r e hs)
 |_,_,.fz h hs=>.fz (e.oth _ _ h (r.notIn h (by intro _ z;cases z)) (by intro _ z;cases z) (by intro _ z;cases z)).1 (RelDs.laterN r e hs)
theorem RelDs.laterN(r:Rep K ι H S)(e:ExtN ι H ι' H'):∀{ds:List D} {vs:List V},RelDs K ι H ds vs->RelDs K ι' H' ds vs
 |_,_,.nil=>.nil
 |_,_,.cons h hs=>.cons (RelD.laterN r e h) (RelDs.laterN r e hs)
end
theorem RelD.later(r:Rep K ι H S)(e:Ext ι H ι' H'){d:D}{v:V}(h:RelD K ι H d v):RelD K ι' H' d v:=RelD.laterN r e.n h
theorem RelDs.later(r:Rep K ι H S)(e:Ext ι H ι' H'){ds:List D}{vs:List V}(h:RelDs K ι H ds vs):RelDs K ι' H' ds vs:=RelDs.laterN r e.n h
theorem RelDs.length:∀{ds:List D} {vs:List V},RelDs K ι H ds vs->ds.length=vs.length
 |_,_,.nil=>rfl
 |_,_,.cons _ t=>by rw[JR,JR,RelDs.length t]
theorem RelDs.append:∀{ds es:List D} {vs ws:List V},RelDs K ι H ds vs->RelDs K ι H es ws->RelDs K ι H (ds++es) (vs++ws)
 |_,_,_,_,.nil,s=>s
 |_,_,_,_,.cons r t,s=>.cons r (RelDs.append t s)
theorem RelDs.get':∀{ds:List D} {vs:List V} {i:Nat} {d:D},RelDs K ι H ds vs->ds[i]? =ar d->∃v,vs[i]? =ar v/\RelD K ι H d v
 |_,_,_,_,.nil,e=>by simp at e
 |_,_,0,_,.cons r _,e=>by simp at e;subst e;exact⟨_,rfl,r⟩
 |_,_,i+1,v,.cons _ t,e=>by
  obtain⟨u,Z,Y⟩:=RelDs.get' (i:=i) t (by simpa using e);exact⟨u,by simpa using Z,Y⟩
theorem RelDs.take:∀{ds:List D} {vs:List V} (n:Nat),RelDs K ι H ds vs->RelDs K ι H (ds.take n) (vs.take n)
 |_,_,0,_=>.nil
 |_,_,_+1,.nil=>.nil
 |_,_,n+1,.cons r t=>.cons r (RelDs.take n t)
theorem RelDs.drop:∀{ds:List D} {vs:List V} (n:Nat),RelDs K ι H ds vs->RelDs K ι H (ds.drop n) (vs.drop n)
 |_,_,0,r=>r
 |_,_,_+1,.nil=>.nil
 |_,_,n+1,.cons _ t=>RelDs.drop n t
theorem RelDs.set(r:RelD K ι H d v):∀{ds:List D} {vs:List V} (i:Nat),RelDs K ι H ds vs->RelDs K ι H (ds.set i d) (vs.set i v)
 |_,_,_,.nil=>.nil
 |_,_,0,.cons _ t=>.cons r t
 |_,_,i+1,.cons q t=>.cons q (RelDs.set r i t)
theorem RelDs.eraseIdx:∀{ds:List D} {vs:List V} (i:Nat),RelDs K ι H ds vs->RelDs K ι H (ds.eraseIdx i) (vs.eraseIdx i)
 |_,_,_,.nil=>.nil
 |_,_,0,.cons _ t=>t
 |_,_,i+1,.cons q t=>.cons q (RelDs.eraseIdx i t)
theorem eh(Z:H p=none):Ext ι H ι (upd H p o):=⟨⟨[],by simp⟩,λa Y h n _=>⟨by rw[aG (aI h Z)];exact h,n⟩⟩
theorem fP{p:c_}{o:HO}(r:Rep K ι H S)(Z:H p=none):Rep K ι (upd H p o) S:=by refine⟨r.nd,r.len,λk a xs e1 e2=>?_,r.tab.mono λb o h _=>by rw[aG (aI h Z)];exact h⟩;obtain⟨vs,Y,X⟩:=r.get k a xs e1 e2;exact⟨vs,by rw[aG (aI Y Z)];exact Y,RelDs.later r (eh Z) X⟩
theorem rV(Z:H p=none):Ext ι H (ι++[p]) (upd H p o):=⟨⟨[p],rfl⟩,λa Y h n _=>⟨by rw[aG (aI h Z)];exact h,by have:a≠p:=aI h Z;simp[n,this]⟩⟩
theorem yI{p:c_}{xs:List D}{vs:List V}(r:Rep K ι H S)(Z:H p=none)(h:RelDs K ι H xs vs):Rep K (ι++[p]) (upd H p (.lst vs)) (S++[xs]):=by
 have X:Ext ι H (ι++[p]) (upd H p (.lst vs)):=rV Z;refine⟨?_,by simp[r.len],λk a ys e1 e2=>?_,r.tab.mono λb o h _=>by rw[aG (aI h Z)];exact h⟩
 ·rw[List.nodup_append];refine⟨r.nd,by simp,λa Q b R=>?_⟩;have:b=p:=by simpa using R
  subst this;rintro rfl;exact r.free Z Q
 ·by_cases hk:k<ι.length
  ·rw[JZ hk]at e1;rw[JZ (by rw[<-r.len];exact hk)]at e2;obtain⟨ws,U,T⟩:=r.get k a ys e1 e2;exact⟨ws,by rw[aG (aI U Z)];exact U,RelDs.later r X T⟩
  ·have Y:k<(ι++[p]).length:=(Jz.mp e1).1;have:k=ι.length:=by simp at Y;omega
   subst this;simp at e1;rw[r.len]at e2;simp at e2;subst e1 e2;exact⟨vs,aU,RelDs.later r X h⟩
theorem mQ:∀{l:List c_} {i j:Nat} {a:c_},l.Nodup->l[i]? =ar a->l[j]? =ar a->i=j
 |[],i,j,a,_,h,_=>by simp at h
 |x::r,0,0,a,_,_,_=>rfl
 |x::r,0,j+1,a,hn,h1,h2=>by
  simp at h1 h2;subst h1;exact absurd (JV h2) (Ko.mp hn).1
 |x::r,i+1,0,a,hn,h1,h2=>by
  simp at h1 h2;subst h2;exact absurd (JV h1) (Ko.mp hn).1
 |x::r,i+1,j+1,a,hn,h1,h2=>by
  simp at h1 h2;rw[mQ (Ko.mp hn).2 h1 h2]
theorem qp(Z:a∈ι):Ext ι H ι (upd H a o):=⟨⟨[],by simp⟩,λb Y h n _=>⟨by rw[aG (λz=>n (by rw[z];exact Z))];exact h,n⟩⟩
theorem qr{a:c_}{k:Nat}{xs:List D}{vs:List V}(r:Rep K ι H S)(Z:ι[k]? =ar a)(h:RelDs K ι H xs vs):Rep K ι (upd H a (.lst vs)) (S.set k xs):=by
 have X:a∈ι:=JV Z;have Y:Ext ι H ι (upd H a (.lst vs)):=qp X;refine⟨r.nd,by simp[r.len],λj b ys e1 e2=>?_,r.tab.mono λb o h n=>by obtain⟨ws,hw⟩:=r.isL X;rw[aG (λz=>by subst z;rw[h]at hw;exact n ws (JW hw))];exact h⟩
 by_cases hj:j=k
 ·subst hj;rw[Z]at e1;cases e1;have T:j<S.length:=by rw[<-r.len];exact(Jz.mp Z).1
  rw[J5 T]at e2;cases e2;exact⟨vs,aU,RelDs.later r Y h⟩
 ·rw[Kf (i2 hj)]at e2;obtain⟨ws,Q,U⟩:=r.get j b ys e1 e2;have R:b≠a:=by
   rintro rfl;exact hj (mQ r.nd e1 Z)
  exact⟨ws,by rw[aG R];exact Q,RelDs.later r Y U⟩
end
abbrev XD:=D->List c_->aw->Hp->Prop
def cont(K:dV)(E:XD){α:Type}(c:M α)(ι:List c_)(S:aw)(H:Hp)(Q:α->List c_->aw->Hp->Prop):Prop:=
 ∃r S',c S=ar (r,S')/\∀ ι' H',Ext ι H ι' H'->Rep K ι' H' S'->match r with
  | .ok a=>Q a ι' S' H'
  | .ex x=>E x ι' S' H'
section
variable {K:dV}{E:XD}{ι:List c_}{S:aw}{H:Hp}{α β:Type}
theorem ai{c:M α}{f:α->M β}{Q:β->List c_->aw->Hp->Prop}(h:cont K E (c>>=f) ι S H Q):cont K E c ι S H (λa Z S1 X=>cont K E (f a) Z S1 X Q):=by
 obtain⟨r,R,e,k⟩:=h;have Y:M.bnd c f S=ar (r,R):=e;unfold M.bnd at Y;cases q:c S with
 |none=>rw[q]at Y;cases Y
 | some p=>
  obtain⟨P,S1⟩:=p;rw[q]at Y;cases P with
  |ok a=>exact⟨.ok a,S1,q,λZ X U rep1=>⟨r,R,Y,λT N O rep2=>k T N (U.trans O) rep2⟩⟩
  |ex x=>
   cases Y;exact⟨.ex x,_,q,λZ X U rep1=>k Z X U rep1⟩
theorem aj{c:M α}{Q T:α->List c_->aw->Hp->Prop}(h:cont K E c ι S H Q)(k:∀a ι' Z H',Ext ι H ι' H'->Rep K ι' H' Z->Q a ι' Z H'->T a ι' Z H'):cont K E c ι S H T:=by
 obtain⟨r,Z,e,q⟩:=h;refine⟨r,Z,e,λY X U rep1=>?_⟩;have:=q Y X U rep1;cases r with
 |ok a=>exact k a Y Z X U rep1 this
 |ex x=>exact this
theorem ah{a:α}{Q:α->List c_->aw->Hp->Prop}(h:cont K E (a_ a) ι S H Q){Z:List c_}{Y:Hp}(x:Ext ι H Z Y)(r:Rep K Z Y S):Q a Z S Y:=by obtain⟨U,X,e,q⟩:=h;cases e;exact q Z Y x r
theorem af{Q:α->List c_->aw->Hp->Prop}(h:cont K E (M.fail) ι S H Q):False:=by obtain⟨Z,Y,e,q⟩:=h;cases e
end
abbrev aB:=List (Option D)
inductive RelE(K:dV)(ι:List c_)(H:Hp):aB->St->Prop where
 |nil:RelE K ι H [] []
 |cons {o:Option D} {u:Option V} {ρ:aB} {σ:St}:(∀d,o=ar d->∃v,u=ar v/\RelD K ι H d v)->RelE K ι H ρ σ->RelE K ι H (o::ρ) (u::σ)
section
variable {K:dV}{ι ι':List c_}{S:aw}{H H':Hp}
theorem RelE.later(r:Rep K ι H S)(e:Ext ι H ι' H'):∀{ρ:aB} {σ:St},RelE K ι H ρ σ->RelE K ι' H' ρ σ
 |_,_,.nil=>.nil
 |_,_,.cons h t=>.cons (λd z=>let ⟨v,e1,e2⟩:=h d z;⟨v,e1,RelD.later r e e2⟩) (RelE.later r e t)
theorem RelE.get:∀{ρ:aB} {σ:St} {i:Nat} {d:D},RelE K ι H ρ σ->ρ[i]? =ar (ar d)->∃v,σ[i]? =ar (ar v)/\RelD K ι H d v
 |_,_,_,_,.nil,e=>by simp at e
 |_,_,0,_,.cons h _,e=>by
  simp at e;obtain⟨v,e1,e2⟩:=h _ e;exact⟨v,by simp[e1],e2⟩
 |_,_,i+1,_,.cons _ t,e=>by
  obtain⟨v,Z,Y⟩:=RelE.get (i:=i) t (by simpa using e);exact⟨v,by simpa using Z,Y⟩
theorem RelE.set(r:RelD K ι H d v):∀{ρ:aB} {σ:St} (i:Nat),RelE K ι H ρ σ->RelE K ι H (ρ.set i (ar d)) (σ.set i (ar v))
 |_,_,_,.nil=>.nil
 |_,_,0,.cons _ t=>.cons (λd' z=>by cases z;exact⟨v,rfl,r⟩) t
 |_,_,i+1,.cons q t=>.cons q (RelE.set r i t)
theorem RelE.start:∀{ds:List D} {vs:List V},RelDs K ι H ds vs->∀n,RelE K ι H (ds.map ar++j1 n none) (vs.map ar++j1 n none)
 |_,_,.nil,n=>by
  induction n with
  |zero=>exact .nil
  |succ n ih=>exact .cons (λd z=>by cases z) ih
 |_,_,.cons r t,n=>.cons (λd z=>by cases z;exact⟨_,rfl,r⟩) (RelE.start t n)
end
abbrev TM:=aB->M D
def jQ(K:dV)(Q:VK):D->List c_->aw->Hp->Prop:=λd ι' _ H'=>∀v,RelD K ι' H' d v->Q v H'
def tM(K:dV)(E:XD)(m:TM):TE:=λσ H Q=>∃ ι S ρ,Rep K ι H S/\RelE K ι H ρ σ/\cont K E (m ρ) ι S H (jQ K Q)
def SE(X:Cx)(E:XD)(e:Expr)(m:TM):Prop:=PE X e (tM X.K E m)
def C4(K:dV)(E:XD)(m:aB->M Bool):TT:=λσ H Q=>∃ ι S ρ,Rep K ι H S/\RelE K ι H ρ σ/\cont K E (m ρ) ι S H (λb _ _ H'=>Q b H')
def SB(X:Cx)(E:XD)(e:Expr)(m:aB->M Bool):Prop:=PT X e (C4 X.K E m)
def Ec(X:Cx)(E:XD)(e:Expr)(m:aB->M Bool):Prop:=PW X e (C4 X.K E m)
def Ip(K:dV)(E:XD)(m:aB->M (List D)):TA:=λσ H Q=>∃ ι S ρ,Rep K ι H S/\RelE K ι H ρ σ/\cont K E (m ρ) ι S H (λds ι' _ H'=>∀vs,RelDs K ι' H' ds vs->Q vs H')
def SA(X:Cx)(E:XD)(es:List Expr)(m:aB->M (List D)):Prop:=PA X es (Ip X.K E m)
inductive Out where
 |nx (ρ:aB)|ret (d:D)|bk (ρ:aB)|ct (ρ:aB)
abbrev cW:=aB->M Out
def Ed(K:dV)(T:Ends):Out->List c_->aw->Hp->Prop:=λo ι' _ H'=>match o with
 | .nx ρ=>∀ σ,RelE K ι' H' ρ σ->T.nx σ H'
 | .ret d=>∀v,RelD K ι' H' d v->T.rt v H'
 | .bk ρ=>∀ σ,RelE K ι' H' ρ σ->T.bk σ H'
 | .ct ρ=>∀ σ,RelE K ι' H' ρ σ->T.ct σ H'
def IU(K:dV)(E:XD)(m:cW):TS:=λT σ H=>∃ ι S ρ,Rep K ι H S/\RelE K ι H ρ σ/\cont K E (m ρ) ι S H (Ed K T)
def SS(X:Cx)(E:XD)(st:n_)(m:cW):Prop:=PS X st (IU X.K E m)
def rW(X:Cx)(E:XD)(st:List n_)(m:cW):Prop:=ot X st (IU X.K E m)
abbrev mR:=D->aB->M aB
def Gi(K:dV)(E:XD)(m:mR):TG:=λv σ H Q=>∃ ι S ρ d,Rep K ι H S/\RelE K ι H ρ σ/\RelD K ι H d v/\cont K E (m d ρ) ι S H (λρ' ι' _ H'=>∀ σ',RelE K ι' H' ρ' σ'->Q σ' H')
def SG(X:Cx)(E:XD)(tg:Expr)(m:mR):Prop:=PG X tg (Gi X.K E m)
theorem PE.imp{X:Cx}{e:Expr}{t t':TE}(h:PE X e t)(k:∀ σ H Q,t' σ H Q->t σ H Q):PE X e t':=λpins s σ H Q I hw=>h pins s σ H Q I (k σ H Q hw)
theorem PT.imp{X:Cx}{e:Expr}{t t':TT}(h:PT X e t)(k:∀ σ H Q,t' σ H Q->t σ H Q):PT X e t':=λpins s σ H Q I hw=>h pins s σ H Q I (k σ H Q hw)
theorem PW.imp{X:Cx}{e:Expr}{t t':TT}(h:PW X e t)(k:∀ σ H Q,t' σ H Q->t σ H Q):PW X e t':=λZ pins s σ H Q I hw=>h Z pins s σ H Q I (k σ H Q hw)
theorem PA.imp{X:Cx}{e:List Expr}{t t':TA}(h:PA X e t)(k:∀ σ H Q,t' σ H Q->t σ H Q):PA X e t':=λpos pins s σ H Q I hw=>h pos pins s σ H Q I (k σ H Q hw)
theorem PS.imp{X:Cx}{e:n_}{t t':TS}(h:PS X e t)(k:∀D σ H,t' D σ H->t D σ H):PS X e t':=λpins s σ H D I hw=>h pins s σ H D I (k D σ H hw)
theorem ot.imp{X:Cx}{e:List n_}{t t':TS}(h:ot X e t)(k:∀D σ H,t' D σ H->t D σ H):ot X e t':=λpins s σ H D I hw=>h pins s σ H D I (k D σ H hw)
theorem PG.imp{X:Cx}{e:Expr}{t t':TG}(h:PG X e t)(k:∀v σ H Q,t' v σ H Q->t v σ H Q):PG X e t':=λpins s σ H v u Q I r hw=>h pins s σ H v u Q I r (k v σ H Q hw)
section
variable {X:Cx}{E:XD}{a b e:Expr}{m n:TM}{pos:Pos}
def C5(ρ:aB)(i:Nat):M D:=match ρ[i]? with
 |some (ar d)=>a_ d
 |_=>M.fail
theorem ae(i:Nat)(U:X.N[i]? =ar x:=by rfl)(W:CV X.env.scope x:=by first|exact Ol rfl|exact N1 (Ol rfl)|exact N1 (N1 rfl))(Y:(x==("__debug__":Str))=false:=by decide)
  (Z:(x==("__classdict__":Str))=false:=by decide):SE X E (.Name x pos) (λρ=>C5 ρ i):=by
 refine PE.imp (tO U W Y Z) λσ H Q h=>?_;obtain⟨ι,S,ρ,rep,re,c⟩:=h;unfold C5 at c;dsimp only at c;split at c
 ·next d Y=>
  obtain⟨v,e1,e2⟩:=re.get Y;exact⟨v,e1,ah c .refl rep v e2⟩
 ·exact(af c).elim
theorem gy(h:PE X e (tC v))(Z:∀ ι H,RelD X.K ι H d v):SE X E e (λ_=>a_ d):=by refine PE.imp h λσ H Q h=>?_;obtain⟨ι,S,ρ,rep,re,c⟩:=h;exact ah c .refl rep v (Z _ _)
theorem ay{j}:SE X E (.Constant (.int i) j pos) (λ_=>a_ (.int i)):=gy yh λ_ _=>.int i
theorem iz{j}:SE X E (.Constant (.bool i) j pos) (λ_=>a_ (.bl i)):=gy FN λ_ _=>.bl i
theorem jj{j}:SE X E (.Constant .none j pos) (λ_=>a_ .non):=gy DB λ_ _=>.non
theorem cJ{j}:SE X E (.Constant (.str x) j pos) (λ_=>a_ (.str x)):=gy DC λ_ _=>.str x
theorem BK(Y:Gl X x)(Z:X.mg x=ar (.int i t))(W:(x==("__debug__":Str))=false:=by decide):SE X E (.Name x pos) (λ_=>a_ (.int i)):=
 gy (p9 Y Z (v:=.int i) ⟨t,rfl⟩ W) λ_ _=>.int i
def pk(K:dV)(E:XD)(f:D->D->M D)(r:R2):Prop:=
 ∀ ι S H d1 d2 v1 v2 Q,Rep K ι H S->RelD K ι H d1 v1->RelD K ι H d2 v2->cont K E (f d1 d2) ι S H (jQ K Q)->r v1 v2 H Q
theorem BM(U:pk X.K E f r)(h:tM X.K E (λρ=>do let x<-m ρ;let y<-n ρ;f x y) σ H Q):F4 r (tM X.K E m) (tM X.K E n) σ H Q:=by obtain⟨ι,S,ρ,rep,re,c⟩:=h;refine⟨ι,S,ρ,rep,re,aj (ai c) λx Z S1 N e1 rep1 R v1 P=>?_⟩;refine⟨Z,S1,ρ,rep1,re.later rep e1,aj (ai R) λy Y S2 O e2 rep2 W v2 T=>?_⟩;exact U Y S2 O x y v1 v2 Q rep2 (P.later rep1 e2) T W
theorem mS(h:gO X (oo op) r)(W:pk X.K E f r)(Y:SE X E a m)(Z:SE X E b n):SE X E (.BinOp a op b pos) (λρ=>do let x<-m ρ;let y<-n ρ;f x y):=
 PE.imp (F5 h Y Z) λ_ _ _ q=>BM W q
theorem qt(h:gO X (h9 op) r)(U:pk X.K E f r)(W:SE X E a m)(Z:SE X E b n)(Y:k6 op b=false:=by first|exact rM _ (by decide) (by decide)|rfl):
  SE X E (.Compare a [op] [b] pos) (λρ=>do let x<-m ρ;let y<-n ρ;f x y):=
 PE.imp (Bx h W Z Y) λ_ _ _ q=>BM U q
theorem C6(h:Bh X r)(W:pk X.K E f r)(Y:SE X E a m)(Z:SE X E b n)(hs:lZ b:=by intro _ _;rfl):SE X E (.Subscript a b pos) (λρ=>do let x<-m ρ;let y<-n ρ;f x y):=
 PE.imp (Gf h Y Z hs) λ_ _ _ q=>BM W q
end
def lim:Nat:=10000000
theorem dZ:lim<=sizeLine:=by rw[Kc];decide
theorem Ee:lim<sizeLine:=by rw[Kc];decide
section
variable {K:dV}{ι:List c_}{H:Hp}
theorem RelD.bl_inv(h:RelD K ι H (.bl b) v):v= .bl b:=by cases h;rfl
theorem RelD.int_inv(h:RelD K ι H (.int b) v):v= .int b:=by cases h;rfl
theorem RelD.str_inv(h:RelD K ι H (.str b) v):v= .str b:=by cases h;rfl
theorem RelD.non_inv(h:RelD K ι H .non v):v= .non:=by cases h;rfl
theorem RelD.tup_inv(h:RelD K ι H (.tup ds) v):∃a vs,v= .ref a/\H a=ar (.tup vs)/\RelDs K ι H ds vs:=by
 cases h with
 |tup h1 h2=>exact⟨_,_,rfl,h1,h2⟩
theorem RelD.lst_inv(h:RelD K ι H (.lst k) v):∃a,v= .ref a/\ι[k]? =ar a:=by
 cases h with
 |lst h1=>exact⟨_,rfl,h1⟩
theorem RelD.ro_inv(h:RelD K ι H (.ro ds) v):∃a vs,v= .ref a/\Bi K H a vs/\RelDs K ι H ds vs:=by
 cases h with
 |ro h1 h2=>exact⟨_,_,rfl,h1,h2⟩
theorem RelD.fz_inv(h:RelD K ι H (.fz ds) v):∃a o vs,v= .ref a/\H a=ar (.frz o (.lst vs))/\RelDs K ι H ds vs:=by
 cases h with
 |fz h1 h2=>exact⟨_,_,_,rfl,h1,h2⟩
theorem RelDs.nil_inv(h:RelDs K ι H [] vs):vs=[]:=by cases h;rfl
theorem RelDs.cons_inv(h:RelDs K ι H (d::ds) vs):∃v ws,vs=v::ws/\RelD K ι H d v/\RelDs K ι H ds ws:=by
 cases h with
 |cons h1 h2=>exact⟨_,_,rfl,h1,h2⟩
end
def jB:D->M Bool
 | .bl b=>a_ b
 |_=>M.fail
def getL(k:Nat):M (List D):=λS=>(S[k]?).bind λxs=>ar (.ok xs,S)
def a8(ds:List D):M D:=λS=>if ds.length<=lim then ar (.ok (.lst S.length),S++[ds])else none
def jR(k:Nat)(ds:List D):M D:=λS=>if ds.length<=lim/\k<S.length then ar (.ok .non,S.set k ds)else none
def cq(ds:List D):M D:=if ds.length<=lim then a_ (.tup ds)else M.fail
section
variable {K:dV}{E:XD}{ι:List c_}{S:aw}{H:Hp}{α:Type}
theorem qu{f:Bool->M α}(Z:Rep K ι H S)(r:RelD K ι H x v)(c:cont K E (jB x>>=f) ι S H Q):∃b,v= .bl b/\x= .bl b/\cont K E (f b) ι S H Q:=by
 cases x with
 |bl b=>exact⟨b,r.bl_inv,rfl,ah (ai c) .refl Z⟩
 |_=>exact(af (ai c)).elim
theorem mT{Q:Bool->List c_->aw->Hp->Prop}(Z:Rep K ι H S)(r:RelD K ι H x v)(c:cont K E (jB x) ι S H Q):∃b,v= .bl b/\x= .bl b/\Q b ι S H:=by
 cases x with
 |bl b=>exact⟨b,r.bl_inv,rfl,ah c .refl Z⟩
 |_=>exact(af c).elim
theorem w8{Q:D->List c_->aw->Hp->Prop}(c:cont K E (a8 ds) ι S H Q)(Z:Rep K ι H S)(r:RelDs K ι H ds vs):
  vs.length<=lim/\∀p,H p=none->Q (.lst S.length) (ι++[p]) (S++[ds]) (upd H p (.lst vs)):=by
 obtain⟨U,X,e,q⟩:=c;unfold a8 at e;split at e
 ·next hl=>
  cases e;exact⟨by rw[<-r.length];exact hl,λp Y=>q _ _ (rV Y) (yI Z Y r)⟩
 ·cases e
theorem yJ(Z:Rep K ι H S):RelD K (ι++[p]) H' (.lst S.length) (.ref p):=.lst (by rw[<-Z.len];simp)
theorem ba{Q:VK}(c:cont K E (a8 ds) ι S H (jQ K Q))(Z:Rep K ι H S)(r:RelDs K ι H ds vs):vs.length<=lim/\∀p,H p=none->Q (.ref p) (upd H p (.lst vs)):=
 let ⟨h1,h2⟩:=w8 c Z r
 ⟨h1,λp Y=>h2 p Y _ (yJ Z)⟩
theorem d4{Q:VK}(c:cont K E (cq ds) ι S H (jQ K Q))(Z:Rep K ι H S)(r:RelDs K ι H ds vs):vs.length<=lim/\∀p,H p=none->Q (.ref p) (upd H p (.tup vs)):=by
 unfold cq at c;split at c
 ·next hl=>
  refine⟨by rw[<-r.length];exact hl,λp Y=>?_⟩;exact ah c (eh Y) (fP Z Y) _ (.tup aU (r.later Z (eh Y)))
 ·exact(af c).elim
theorem gS{Q:VK}(c:cont K E (cq ds) ι S H (jQ K Q))(Z:Rep K ι H S)(h:H a=ar (.tup vs))(r:RelDs K ι H ds vs):Q (.ref a) H:=by
 unfold cq at c;split at c
 ·exact ah c .refl Z _ (.tup h r)
 ·exact(af c).elim
theorem a7{f:List D->M α}(c:cont K E (getL k>>=f) ι S H Q)(Z:Rep K ι H S)(X:ι[k]? =ar a):
  ∃ds vs,S[k]? =ar ds/\H a=ar (.lst vs)/\RelDs K ι H ds vs/\cont K E (f ds) ι S H Q:=by
 obtain⟨R,T,e,q⟩:=ai c;unfold getL at e;cases z:S[k]? with
 |none=>rw[z]at e;cases e
 |some ds=>
  rw[z]at e;cases e;obtain⟨vs,Y,U⟩:=Z.get k a ds X z;exact⟨ds,vs,rfl,Y,U,q ι H .refl Z⟩
theorem gz{Q:D->List c_->aw->Hp->Prop}(c:cont K E (jR k ds) ι S H Q)(Z:Rep K ι H S)(Y:ι[k]? =ar a)(r:RelDs K ι H ds vs):
  vs.length<=lim/\Q .non ι (S.set k ds) (upd H a (.lst vs)):=by
 obtain⟨U,X,e,q⟩:=c;unfold jR at e;split at e
 ·next hl=>
  cases e;exact⟨by rw[<-r.length];exact hl.1,q _ _ (qp (JV Y)) (qr Z Y r)⟩
 ·cases e
end
section
variable {X:Cx}{E:XD}{a b e:Expr}{m n:TM}{pos:Pos}{rest es:List Expr}{ms:aB->M (List D)}{t u:aB->M Bool}
theorem kG{op}(h:SE X E a m):SE X E (.BoolOp op [a] pos) m:=DH h
theorem jk(R:SE X E a m)(W:SE X E (.BoolOp .And (b::rest) pos) n):SE X E (.BoolOp .And (a::b::rest) pos) (λρ=>do let x<-m ρ;let c<-jB x;if c=dr then n ρ else a_ (.bl dt)):=by
 refine PE.imp (DI R W) λσ H Q h=>?_;obtain⟨ι,S,ρ,rep,re,c⟩:=h;refine⟨ι,S,ρ,rep,re,aj (ai c) λx Z S1 P e1 rep1 U v1 T=>?_⟩;obtain⟨k,rfl,rfl,Y⟩:=qu rep1 T U;refine⟨k,rfl,?_⟩;cases k with
 |true=>exact⟨Z,S1,ρ,rep1,re.later rep e1,Y⟩
 |false=>exact ah Y .refl rep1 _ (.bl dt)
theorem Ef(T:SE X E a m):SE X E (.UnaryOp .Not a pos) (λρ=>do let x<-m ρ;let c<-jB x;a_ (.bl (!c))):=by refine PE.imp (DJ T) λσ H Q h=>?_;obtain⟨ι,S,ρ,rep,re,c⟩:=h;refine⟨ι,S,ρ,rep,re,aj (ai c) λx U S1 R e1 rep1 Y v1 W=>?_⟩;obtain⟨k,rfl,rfl,Z⟩:=qu rep1 W Y;exact⟨k,rfl,ah Z .refl rep1 _ (.bl _)⟩
theorem Gj(U:SB X E c t)(T:SE X E a m)(W:SE X E b n):SE X E (.IfExp c a b pos) (λρ=>do let k<-t ρ;if k=dr then m ρ else n ρ):=by
 refine PE.imp (yi U T W) λσ H Q h=>?_;obtain⟨ι,S,ρ,rep,re,c⟩:=h;refine⟨ι,S,ρ,rep,re,aj (ai c) λk Z S1 R e1 rep1 Y=>?_⟩;cases k with
 |true=>exact⟨Z,S1,ρ,rep1,re.later rep e1,Y⟩
 |false=>exact⟨Z,S1,ρ,rep1,re.later rep e1,Y⟩
theorem Gk(h:C4 X.K E (λρ=>do let x<-m ρ;jB x) σ H Q):tB (tM X.K E m) σ H Q:=by obtain⟨ι,S,ρ,rep,re,c⟩:=h;refine⟨ι,S,ρ,rep,re,aj (ai c) λx U S1 T e1 rep1 Y v1 W=>?_⟩;obtain⟨k,rfl,rfl,Z⟩:=mT rep1 W Y;exact⟨k,rfl,Z⟩
theorem dF(h:SE X E e m)(Z:∀whole,isTrue e X.env whole=(do let v<-whole;Oj e.pos;B' [v] (truthy v)):=by intro _;rfl):SB X E e (λρ=>do let x<-m ρ;jB x):=
 PT.imp (DD h Z) λ_ _ _ q=>Gk q
theorem mU(h:gO X (h9 op) r)(W:pk X.K E f r)(N:SE X E a m)(U:SE X E b n)(Y:k6 op b=false:=by first|exact rM _ (by decide) (by decide)|rfl):
  SB X E (.Compare a [op] [b] pos) (λρ=>do let z<-(do let x<-m ρ;let y<-n ρ;f x y);jB z):=
 PT.imp (By h N U Y) λσ H Q q=>by obtain⟨ι,S,ρ,rep,re,c⟩:=q;refine BM W (Q:=λx P=>∃k,x= .bl k/\Q k P) ⟨ι,S,ρ,rep,re,aj (ai c) λx O S1 L e1 rep1 T v1 R=>?_⟩;obtain⟨k,rfl,rfl,Z⟩:=mT rep1 R T;exact⟨k,rfl,Z⟩
theorem d5(h:SB X E a t):SB X E (.UnaryOp .Not a pos) (λρ=>do let c<-t ρ;a_ (!c)):=by refine PT.imp (DG h) λσ H Q q=>?_;obtain⟨ι,S,ρ,rep,re,c⟩:=q;exact⟨ι,S,ρ,rep,re,aj (ai c) λk Y S1 W e1 rep1 Z=>ah Z .refl rep1⟩
theorem vt(h:SB X E a t):Ec X E (.BoolOp .And [a] pos) t:=Bm h
theorem mW(h:SB X E a t):Ec X E (.BoolOp .Or [a] pos) t:=DE h
theorem yK(U:SB X E a t)(W:Ec X E (.BoolOp .And (b::rest) pos) u):Ec X E (.BoolOp .And (a::b::rest) pos) (λρ=>do let c<-t ρ;if c=dr then u ρ else a_ dt):=by
 refine PW.imp (DF U W) λσ H Q q=>?_;obtain⟨ι,S,ρ,rep,re,c⟩:=q;refine⟨ι,S,ρ,rep,re,aj (ai c) λk Z S1 T e1 rep1 Y=>?_⟩;cases k with
 |true=>exact⟨Z,S1,ρ,rep1,re.later rep e1,Y⟩
 |false=>exact ah Y .refl rep1
theorem pq(U:SB X E a t)(W:Ec X E (.BoolOp .Or (b::rest) pos) u):Ec X E (.BoolOp .Or (a::b::rest) pos) (λρ=>do let c<-t ρ;if c=dr then a_ dr else u ρ):=by
 refine PW.imp (FO U W) λσ H Q q=>?_;obtain⟨ι,S,ρ,rep,re,c⟩:=q;refine⟨ι,S,ρ,rep,re,aj (ai c) λk Z S1 T e1 rep1 Y=>?_⟩;cases k with
 |false=>exact⟨Z,S1,ρ,rep1,re.later rep e1,Y⟩
 |true=>exact ah Y .refl rep1
theorem t7(h:Ec X E e t):SB X E e t:=PW.pt h
theorem ao:SA X E [] (λ_=>a_ []):=by refine PA.imp jh λσ H Q q=>?_;obtain⟨ι,S,ρ,rep,re,c⟩:=q;exact ah c .refl rep _ .nil
theorem ag(O:SE X E e m)(R:SA X E es ms)(hs:d_ (e::es) X.env=(dt,f' e X.env)::d_ es X.env:=by rfl):SA X E (e::es) (λρ=>do let x<-m ρ;let xs<-ms ρ;a_ (x::xs)):=by refine PA.imp (dD O R hs) λσ H Q q=>?_;obtain⟨ι,S,ρ,rep,re,c⟩:=q;refine⟨ι,S,ρ,rep,re,aj (ai c) λx Z S1 N e1 rep1 U v1 T=>?_⟩;refine⟨Z,S1,ρ,rep1,re.later rep e1,aj (ai U) λxs P S2 L e2 rep2 Y vs W=>?_⟩;exact ah Y .refl rep2 _ (.cons (T.later rep1 e2) W)
theorem f9{x1}(h:SA X E es ms):SE X E (.Tuple es x1 pos) (λρ=>do let ds<-ms ρ;cq ds):=by refine PE.imp (yt h) λσ H Q q=>?_;obtain⟨ι,S,ρ,rep,re,c⟩:=q;refine⟨ι,S,ρ,rep,re,aj (ai c) λx T S1 R e1 rep1 W vs U=>?_⟩;obtain⟨Y,Z⟩:=d4 W rep1 U;exact⟨JG Y dZ,Z⟩
theorem bz(h:SA X E es ms):SE X E (.List es pos) (λρ=>do let ds<-ms ρ;a8 ds):=by refine PE.imp (D0 h) λσ H Q q=>?_;obtain⟨ι,S,ρ,rep,re,c⟩:=q;refine⟨ι,S,ρ,rep,re,aj (ai c) λx T S1 R e1 rep1 W vs U=>?_⟩;obtain⟨Y,Z⟩:=ba W rep1 U;exact⟨JG Y dZ,Z⟩
def ib(K:dV)(E:XD)(f:List D->M D)(r:List V->Hp->VK->Prop):Prop:=
 ∀ ι S H ds vs Q,Rep K ι H S->RelDs K ι H ds vs->cont K E (f ds) ι S H (jQ K Q)->r vs H Q
theorem Gm(T:ib X.K E f r)(h:tM X.K E (λρ=>do let ds<-ms ρ;f ds) σ H Q):Ij r (Ip X.K E ms) σ H Q:=by obtain⟨ι,S,ρ,rep,re,c⟩:=h;exact⟨ι,S,ρ,rep,re,aj (ai c) λds Z S1 U e1 rep1 Y vs W=>T Z S1 U ds vs Q rep1 W Y⟩
theorem gC{x:Str}{W:String}{f:List D->M D}{r:List V->Hp->VK->Prop}{p:Pos}(U:b9 X (.builtin W) r)(N:ib X.K E f r)(P:Gl X x)(Q:X.mg x=none)(R:j3 x=ar (.builtin W))(O:SA X E (e::es) ms)
  (T:x≠"__name__":=by decide) (Z:(x==("__debug__":Str))=false:=by decide) (S:d_ (e::es) X.env=(dt,f' e X.env)::d_ es X.env:=by rfl) (Y:(p_ pos (d_ es X.env)).any (·.1)=false:=by rfl):
  SE X E (.Call (.Name x p) (e::es) [] pos) (λρ=>do let ds<-ms ρ;f ds):=
 PE.imp (iu U P Q R O T Z S Y) λ_ _ _ q=>Gm N q
theorem iV(W:b9 X (.type T) r)(N:ib X.K E f r)(P:Gl X x)(Q:X.mg x=none)(R:j3 x=ar (.type T))(O:SA X E (e::es) ms)
  (U:x≠"__name__":=by decide) (Z:(x==("__debug__":Str))=false:=by decide) (S:d_ (e::es) X.env=(dt,f' e X.env)::d_ es X.env:=by rfl) (Y:(p_ pos (d_ es X.env)).any (·.1)=false:=by rfl):
  SE X E (.Call (.Name x p) (e::es) [] pos) (λρ=>do let ds<-ms ρ;f ds):=
 PE.imp (iT W P Q R O U Z S Y) λ_ _ _ q=>Gm N q
abbrev dW:XD:=λ_ _ _ _=>False
def Jj(K:dV)(F:List D->M D):Sp:=λvs H Q _=>∃ ι S ds,Rep K ι H S/\RelDs K ι H ds vs/\cont K dW (F ds) ι S H (jQ K Q)
def C7(K:dV)(E:XD)(f:D->List D->M D)(r:V->List V->Hp->VK->Prop):Prop:=
 ∀ ι S H d ds v vs Q,Rep K ι H S->RelD K ι H d v->RelDs K ι H ds vs->cont K E (f d ds) ι S H (jQ K Q)->r v vs H Q
end
theorem fx{K:dV}{E:XD}{U:Type}{c:M U}{ι Z:List c_}{S:aw}{H X:Hp}{Q:U->List c_->aw->Hp->Prop}(h:cont K E c ι S H Q)(e:Ext ι H Z X):cont K E c Z S X Q:=by obtain⟨r,T,q,k⟩:=h;exact⟨r,T,q,λY P R rep2=>k Y P (e.trans R) rep2⟩
section
variable {X:Cx}{E:XD}{st:n_}{sts:List n_}{m n:cW}{e:Expr}{me:TM}{t:aB->M Bool}{pos:Pos}{g:mR}
def yL(o:Out)(n:cW):M Out:=match o with
 | .nx ρ=>n ρ
 | .ret d=>a_ (.ret d)
 | .bk ρ=>a_ (.bk ρ)
 | .ct ρ=>a_ (.ct ρ)
theorem cB:rW X E [] (λρ=>a_ (.nx ρ)):=by refine ot.imp Bo λT σ H h=>?_;obtain⟨ι,S,ρ,rep,re,c⟩:=h;exact ah c .refl rep σ re
theorem az(Q:SS X E st m)(U:rW X E sts n):rW X E (st::sts) (λρ=>do let o<-m ρ;yL o n):=by
 refine ot.imp (yj Q U) λT σ H h=>?_;obtain⟨ι,S,ρ,rep,re,c⟩:=h;refine⟨ι,S,ρ,rep,re,aj (ai c) λo W S1 P e1 rep1 Z=>?_⟩;cases o with
 |nx ρ'=>exact λR Y=>⟨W,S1,ρ',rep1,Y,Z⟩
 |ret d=>exact ah Z .refl rep1
 |bk ρ'=>exact ah Z .refl rep1
 |ct ρ'=>exact ah Z .refl rep1
theorem aO(Z:SS X E st m):rW X E [st] m:=by refine ot.imp (vg Z) λT σ H h=>h
theorem gT(Z:SE X E e me)(hs:kT e none pos.line X.env=a_ false:=by rfl):SS X E (.Expr e pos) (λρ=>do let _<-me ρ;a_ (.nx ρ)):=by refine PS.imp (Bp Z hs) λT σ H h=>?_;obtain⟨ι,S,ρ,rep,re,c⟩:=h;refine⟨ι,S,ρ,rep,re,aj (ai c) λd W S1 U e1 rep1 Y v r=>?_⟩;exact ah Y .refl rep1 σ (re.later rep e1)
theorem bb(Y:SE X E e me):SS X E (.Return (ar e) pos) (λρ=>do let d<-me ρ;a_ (.ret d)):=by refine PS.imp (DK Y) λT σ H h=>?_;obtain⟨ι,S,ρ,rep,re,c⟩:=h;exact⟨ι,S,ρ,rep,re,aj (ai c) λd W S1 U e1 rep1 Z=>ah Z .refl rep1⟩
theorem dG(U:SB X E e t)(R:rW X E a m)(W:rW X E b n):SS X E (.If e a b pos) (λρ=>do let c<-t ρ;if c=dr then m ρ else n ρ):=by
 refine PS.imp (FT U R W) λT σ H h=>?_;obtain⟨ι,S,ρ,rep,re,c⟩:=h;refine⟨ι,S,ρ,rep,re,aj (ai c) λk Z S1 Q e1 rep1 Y=>?_⟩;cases k with
 |true=>exact⟨Z,S1,ρ,rep1,re.later rep e1,Y⟩
 |false=>exact⟨Z,S1,ρ,rep1,re.later rep e1,Y⟩
theorem aR(i:Nat)(W:X.N.Nodup)(Y:X.N[i]? =ar x:=by rfl)(Z:Loc X.env.scope x:=by first|exact Ol rfl|exact N1 rfl)(U:X.fn x=dr\/X.env.scope.names.lookup x=ar .local:=by first|exact .inl rfl|exact .inr rfl|assumption):
  SG X E (.Name x pos) (λd ρ=>a_ (ρ.set i (ar d))):=by
 refine PG.imp (Bs W Y Z U) λv σ H Q h=>?_;obtain⟨ι,S,ρ,d,rep,re,r,c⟩:=h;exact ah c .refl rep _ (re.set r i)
def Iq(K:dV)(E:XD)(m:List D->aB->M aB):Bq:=λvs σ H Q=>∃ ι S ρ ds,Rep K ι H S/\RelE K ι H ρ σ/\RelDs K ι H ds vs/\cont K E (m ds ρ) ι S H (λρ' ι' _ H'=>∀ σ',RelE K ι' H' ρ' σ'->Q σ' H')
def Hr(X:Cx)(E:XD)(ts:List Expr)(m:List D->aB->M aB):Prop:=Be X ts (Iq X.K E m)
theorem Be.imp{X:Cx}{e:List Expr}{t t':Bq}(h:Be X e t)(k:∀v σ H Q,t' v σ H Q->t v σ H Q):Be X e t':=λpins s σ H v u Q I r hw=>h pins s σ H v u Q I r (k v σ H Q hw)
def eN:List D->aB->M aB:=λds ρ=>match ds with
 |[]=>a_ ρ
 |_=>M.fail
def bc(g:mR)(gs:List D->aB->M aB):List D->aB->M aB:=λds ρ=>match ds with
 |d::r=>do let ρ1<-g d ρ;gs r ρ1
 |_=>M.fail
theorem fe:Hr X E [] eN:=by
 refine Be.imp Bt λvs σ H Q h=>?_;obtain⟨ι,S,ρ,ds,rep,re,r,c⟩:=h;cases ds with
 |nil=>exact⟨r.nil_inv,ah c .refl rep σ re⟩
 |cons d ds=>exact(af c).elim
theorem bp(R:SG X E e g)(T:Hr X E es gs)(hs:(mh (e::es) X.env).map (·.2)=M8 e X.env::(mh es X.env).map (·.2):=by rfl):Hr X E (e::es) (bc g gs):=by
 refine Be.imp (ym R T hs) λvs σ H Q h=>?_;obtain⟨ι,S,ρ,ds,rep,re,r,c⟩:=h;cases ds with
 |nil=>exact(af c).elim
 |cons d ds=>
  obtain⟨v,ws,rfl,O,P⟩:=r.cons_inv;refine⟨v,ws,rfl,ι,S,ρ,d,rep,re,O,aj (ai c) λW Y S1 L e1 rep1 N U Z=>?_⟩;exact⟨Y,S1,W,ds,rep1,Z,P.later rep e1,N⟩
def dY(n:Nat)(gs:List D->aB->M aB):mR:=λd ρ=>match d with
 | .tup ds=>if ds.length=n then gs ds ρ else M.fail
 |_=>M.fail
theorem gU{es:List Expr}{k:Nat}{n:Nat}{Y:List D->aB->M aB}(R:X.calm=dr)(h:Hr X E es Y)(U:(mh es X.env).length=n:=by rfl)(Z:(mh es X.env).findIdx? (·.1)=none:=by rfl):
  SG X E (.Tuple es k pos) (dY n Y):=by
 refine PG.imp (DL R h U Z) λv σ H Q q=>?_;obtain⟨ι,S,ρ,d,rep,re,r,c⟩:=q;cases d with
 |tup ds=>
  obtain⟨a,vs,rfl,T,W⟩:=r.tup_inv;dsimp only[dY]at c;split at c
  ·next hl=>exact⟨a,vs,rfl,jG.of T,by rw[<-W.length];exact hl,ι,S,ρ,ds,rep,re,W,c⟩
  ·exact(af c).elim
 |_=>exact(af c).elim
theorem jl(Y:SE X E e me)(R:SG X E tg g)(hs:swapsWithSole [tg] e pos.line X.env=a_ false:=by rfl)(W:swappedStores [tg] e X.env=a_ none:=by rfl)
  (Q:(mh [tg] X.env).map (·.2)=[M8 tg X.env]:=by rfl):SS X E (.Assign [tg] e pos) (λρ=>do let d<-me ρ;let ρ'<-g d ρ;a_ (.nx ρ')):=by
 refine PS.imp (DO Y R hs W Q) λT σ H h=>?_;obtain⟨ι,S,ρ,rep,re,c⟩:=h;refine⟨ι,S,ρ,rep,re,aj (ai c) λd Z S1 N e1 rep1 P v r=>?_⟩;exact⟨Z,S1,ρ,d,rep1,re.later rep e1,r,aj (ai P) λρ' O S2 L e2 rep2 U=>ah U .refl rep2⟩
theorem bw(i:Nat)(W:X.N.Nodup)(Z:SE X E e me)(P:X.N[i]? =ar x:=by rfl)(Y:Loc X.env.scope x:=by first|exact Ol rfl|exact N1 rfl)(hs:kT e (ar (.Name x pos')) pos.line X.env=a_ false:=by rfl)
  (U:X.fn x=dr\/X.env.scope.names.lookup x=ar .local:=by first|exact .inl rfl|exact .inr rfl|assumption):SS X E (.Assign [.Name x pos'] e pos) (λρ=>do let d<-me ρ;a_ (.nx (ρ.set i (ar d)))):=by
 refine PS.imp (yn W P Y Z hs U) λT σ H h=>?_;obtain⟨ι,S,ρ,rep,re,c⟩:=h;refine⟨ι,S,ρ,rep,re,aj (ai c) λd Q S1 O e1 rep1 R v r=>?_⟩;exact ah R .refl rep1 _ ((re.later rep e1).set r i)
def Ir(K:dV)(E:XD)(f:D->D->D->M Unit)(r:Br):Prop:=
 ∀ ι S H d1 d2 d3 v1 v2 v3 Q,Rep K ι H S->RelD K ι H d1 v1->RelD K ι H d2 v2->RelD K ι H d3 v3->cont K E (f d1 d2 d3) ι S H (λ_ _ _ H'=>Q H')->r v1 v2 v3 H Q
def iA:D->D->D->M Unit:=λo i v=>match o,i with
 | .lst k,.int j=>do
  let xs<-getL k
  match yd xs.length j with
  |some at'=>do let _<-jR k (xs.set at' v);a_ ()
  |none=>M.fail
 |_,_=>M.fail
inductive Chk where
 |none|some (k:Nat)|two (k j:Nat) (xs ys:List D)
structure Iter where
 items:List D
 chk:Chk
def Iter.okS(it:Iter)(S:aw):Prop:=match it.chk with
 | .none=>True
 | .some k=>S[k]? = .some it.items
 | .two k j xs ys=>S[k]? = .some xs/\S[j]? = .some ys
open Classical in
def i7(it:Iter):M Unit:=λS=>if it.okS S then ar (.ok (),S)else none
def gf(K:dV)(it:Iter)(J:It)(ι:List c_)(H:Hp):Prop:=
 ∀ ι2 H2 S2,ExtN ι H ι2 H2->Rep K ι2 H2 S2->it.okS S2->∀i,(∀d,it.items[i]? =ar d->J.go i H2/\∀x H3,J.yld i H2 x H3->Ext ι2 H2 ι2 H3/\Rep K ι2 H3 S2/\RelD K ι2 H3 d x)/\(it.items.length<=i->J.stop i H2)
def IV(K:dV)(E:XD)(mi:aB->M Iter):TI:=λσ H R=>∃ ι S ρ,Rep K ι H S/\RelE K ι H ρ σ/\cont K E (mi ρ) ι S H (λit ι' _ H'=>∀J,gf K it J ι' H'->R J H')
def SI(X:Cx)(E:XD)(tg iter:Expr)(mi:aB->M Iter):Prop:=PI X tg iter (IV X.K E mi)
def gD(it:Iter)(g:mR)(b:cW):List D->aB->M Out
 |[],ρ=>do i7 it;a_ (.nx ρ)
 |d::ds,ρ=>do
  i7 it
  let ρ1<-g d ρ;let o<-b ρ1
  match o with
  | .nx ρ'=>gD it g b ds ρ'
  | .ct ρ'=>gD it g b ds ρ'
  | .bk ρ'=>a_ (.nx ρ')
  | .ret r=>a_ (.ret r)
theorem jS{K:dV}{ι:List c_}{S:aw}{H:Hp}{Y:Type}{it:Iter}{f:Unit->M Y}{Q:Y->List c_->aw->Hp->Prop}(h:cont K E (i7 it>>=f) ι S H Q)(Z:Rep K ι H S):it.okS S/\cont K E (f ()) ι S H Q:=by
 obtain⟨r,U,e,k⟩:=ai h;unfold i7 at e;split at e
 ·next ho=>cases e;exact⟨ho,k ι H .refl Z⟩
 ·cases e
theorem mX(hp:Nh (eK X.prog X.w) X.A X.env X.xe)(hc:X.calm=dr)(hi:SI X E tg iter mi)(hg:SG X E tg g)(hb:rW X E body b)
  (hs:∀x,lb iter X.env x=a_ x:=by intro _;rfl):SS X E (.For tg iter body [] pos) (λρ=>do let it<-mi ρ;gD it g b it.items ρ):=by
 refine PS.imp (DR hp hc hi hg hb hs) λT σ H h=>?_;obtain⟨ι,S,ρ,rep,re,c⟩:=h;refine⟨ι,S,ρ,rep,re,aj (ai c) λit W S1 y e1 rep1 c1 J l=>?_⟩;refine⟨λi n O U=>∃ ι2 S2 ρ2,n=it.items.length - i/\i<=it.items.length/\Ext W y ι2 U/\Rep X.K ι2 U S2/\RelE X.K ι2 U ρ2 O/\cont X.K E (gD it g b (it.items.drop i) ρ2) ι2 S2 U (Ed X.K T),⟨_,W,S1,ρ,rfl,JS _,.refl,rep1,re.later rep e1,c1⟩,?_⟩;rintro i n O U ⟨ι2,S2,ρ2,hn,hi',e2,rep2,re2,c2⟩;by_cases hlt:i<it.items.length
 ·have hd:it.items.drop i=it.items[i]::it.items.drop (i+1):=MA hlt;rw[hd]at c2;have Q:cont X.K E (do i7 it;let ρ1<-g it.items[i] ρ2;let o<-b ρ1;match o with| .nx ρ'=>gD it g b (it.items.drop (i+1)) ρ'| .ct ρ'=>gD it g b (it.items.drop (i+1)) ρ'| .bk ρ'=>a_ (.nx ρ')| .ret r=>a_ (.ret r)) ι2 S2 U (Ed X.K T):=c2;obtain⟨ok,q⟩:=jS Q rep2;obtain⟨B,j⟩:=l ι2 U S2 e2.n rep2 ok i;obtain⟨go,yl⟩:=B it.items[i] (JB hlt);refine .inr ⟨go,λR Y=>∃ ι3 S3 ρ3,Ext W y ι3 Y/\Rep X.K ι3 Y S3/\RelE X.K ι3 Y ρ3 R/\cont X.K E (gD it g b (it.items.drop (i+1)) ρ3) ι3 S3 Y (Ed X.K T),?_,λx k hy=>?_⟩
  ·rintro R Y ⟨ι3,S3,ρ3,I,rep3,re3,s⟩;exact⟨_,by omega,ι3,S3,ρ3,rfl,hlt,I,rep3,re3,s⟩
  ·obtain⟨I,rep3,f⟩:=yl x k hy;refine⟨ι2,S2,ρ2,it.items[i],rep3,re2.later rep2 I,f,aj (ai (fx q I)) λC u S4 H4 a G s b2 v=>?_⟩;refine⟨u,S4,C,G,v,aj (ai s) λo N p H5 e5 Z F=>?_⟩;have L:Ext W y N H5:=e2.trans (I.trans (a.trans e5));cases o with
   |nx ρ'=>exact λz P=>⟨N,p,ρ',L,Z,P,F⟩
   |ct ρ'=>exact λz P=>⟨N,p,ρ',L,Z,P,F⟩
   |bk ρ'=>exact ah F .refl Z
   |ret d=>exact ah F .refl Z
 ·have hd:it.items.drop i=[]:=List.drop_eq_nil_of_le (by omega);rw[hd]at c2;have Q:cont X.K E (do i7 it;a_ (.nx ρ2)) ι2 S2 U (Ed X.K T):=c2;obtain⟨ok,q⟩:=jS Q rep2;exact .inl ⟨(l ι2 U S2 e2.n rep2 ok i).2 (by omega),ah q .refl rep2 O re2⟩
def iB(t:aB->M Bool)(b:cW):Nat->aB->M Out
 |0,_=>M.fail
 | k+1,ρ=>do
  let c<-t ρ
  if c=dr then do
   let o<-b ρ
   match o with
   | .nx ρ'=>iB t b k ρ'
   | .ct ρ'=>iB t b k ρ'
   | .bk ρ'=>a_ (.nx ρ')
   | .ret r=>a_ (.ret r)
  else a_ (.nx ρ)
theorem yM(k:Nat)(z:Nh (eK X.prog X.w) X.A X.env X.xe)(B:SB X E e t)(C:rW X E body b):SS X E (.While e body [] pos) (λρ=>iB t b k ρ):=by
 refine PS.imp (yo z B C) λT σ H h=>?_;obtain⟨ι,S,ρ,rep,re,c⟩:=h;refine⟨λn U O=>∃ ι2 S2 ρ2,Rep X.K ι2 O S2/\RelE X.K ι2 O ρ2 U/\cont X.K E (iB t b n ρ2) ι2 S2 O (Ed X.K T),⟨k,ι,S,ρ,rep,re,c⟩,?_⟩;rintro n U O ⟨ι2,S2,ρ2,rep2,re2,c2⟩;cases n with
 |zero=>exact(af c2).elim
 | succ n=>
  refine⟨ι2,S2,ρ2,rep2,re2,aj (ai c2) λk N F y I rep3 J=>?_⟩;cases k with
  |false=>exact ah J .refl rep3 U (re2.later rep2 I)
  |true=>
   refine⟨λW Y=>∃ ι2 S2 ρ2,Rep X.K ι2 Y S2/\RelE X.K ι2 Y ρ2 W/\cont X.K E (iB t b n ρ2) ι2 S2 Y (Ed X.K T),λW Y h=>⟨n,Mc _,h⟩,?_⟩;refine⟨N,F,ρ2,rep3,re2.later rep2 I,aj (ai J) λo Q G v x Z P=>?_⟩;cases o with
   |nx ρ'=>exact λL R=>⟨Q,G,ρ',Z,R,P⟩
   |ct ρ'=>exact λL R=>⟨Q,G,ρ',Z,R,P⟩
   |bk ρ'=>exact ah P .refl Z
   |ret d=>exact ah P .refl Z
end
def eT(H:Hp)(p:c_):Hp:=λa=>if a=p then none else H a
theorem hide_ne{H:Hp}(h:a≠p):eT H p a=H a:=if_neg h
theorem jT:eT H p p=none:=if_pos rfl
theorem bW{H:Hp}(h:eT H p a=ar o):a≠p/\H a=ar o:=by
 by_cases e:a=p
 ·rw[e,jT]at h;cases h
 ·rw[hide_ne e]at h;exact⟨e,h⟩
theorem yN{H:Hp}(h:H p=ar o):upd (eT H p) p o=H:=by
 funext a;by_cases e:a=p
 ·rw[e,aU,h]
 ·rw[aG e,hide_ne e]
theorem iD:eT (upd H p o) p=eT H p:=by
 funext a;by_cases e:a=p
 ·rw[e,jT,jT]
 ·rw[hide_ne e,hide_ne e,aG e]
theorem gW{H:Hp}(h:H p=none):eT H p=H:=by
 funext a;by_cases e:a=p
 ·rw[e,jT,h]
 ·rw[hide_ne e]
section
variable {K:dV}{ι ι':List c_}{H H':Hp}{S:aw}{p:c_}
mutual
theorem RelD.hide(Z:H p=ar (.lst ws)):∀{d:D} {v:V},RelD K ι H d v->RelD K ι (eT H p) d v
 |_,_,.non=>.non
 |_,_,.bl b=>.bl b
 |_,_,.int i=>.int i
 |_,_,.str x=>.str x
 |_,_,.tup h hs=>.tup (by rw[hide_ne (λz=>by rw[z,Z]at h;cases h)];exact h) (RelDs.hide Z hs)
 |_,_,.lst h=>.lst h
 |_,_,.ro h hs=>.ro (h.imp (λ⟨o,h⟩=>⟨o,by rw[hide_ne (λz=>by rw[z,Z]at h;cases h)];exact h⟩) λz=>z) (RelDs.hide Z hs)
 |_,_,.emp h=>.emp (by rw[hide_ne (λz=>by rw[z,Z]at h;cases h)];exact h)
 |_,_,.fn h hs=>.fn (by rw[hide_ne (λz=>by rw[z,Z]at h;cases h)];exact h) (RelDs.hide Z hs)
 |_,_,.exc n h=>.exc n (by rw[hide_ne (λz=>by rw[z,Z]at h;cases h)];exact h)
 |_,_,.excF n h h2 hn hs=>.excF n (by rw[hide_ne (λz=>by rw[z,Z]at h;cases h)];exact h) (by rw[hide_ne (λz=>by rw[z,Z]at h2;cases h2)];exact h2) hn (RelDs.hide Z hs)
 |_,_,.fz h hs=>.fz (by rw[hide_ne (λz=>by rw[z,Z]at h;cases h)];exact h) (RelDs.hide Z hs)
theorem RelDs.hide(Z:H p=ar (.lst ws)):∀{ds:List D} {vs:List V},RelDs K ι H ds vs->RelDs K ι (eT H p) ds vs
 |_,_,.nil=>.nil
 |_,_,.cons h hs=>.cons (RelD.hide Z h) (RelDs.hide Z hs)
end
mutual
theorem RelD.unhide:∀{d:D} {v:V},RelD K ι (eT H p) d v->RelD K ι H d v
 |_,_,.non=>.non
 |_,_,.bl b=>.bl b
 |_,_,.int i=>.int i
 |_,_,.str x=>.str x
 |_,_,.tup h hs=>.tup (bW h).2 (RelDs.unhide hs)
 |_,_,.lst h=>.lst h
 |_,_,.ro h hs=>.ro (h.imp (λ⟨o,h⟩=>⟨o,(bW h).2⟩) λz=>z) (RelDs.unhide hs)
 |_,_,.emp h=>.emp (bW h).2
 |_,_,.fn h hs=>.fn (bW h).2 (RelDs.unhide hs)
 |_,_,.exc n h=>.exc n (bW h).2
 |_,_,.excF n h h2 hn hs=>.excF n (bW h).2 (bW h2).2 hn (RelDs.unhide hs)
 |_,_,.fz h hs=>.fz (bW h).2 (RelDs.unhide hs)
theorem RelDs.unhide:∀{ds:List D} {vs:List V},RelDs K ι (eT H p) ds vs->RelDs K ι H ds vs
 |_,_,.nil=>.nil
 |_,_,.cons h hs=>.cons (RelD.unhide h) (RelDs.unhide hs)
end
theorem RelE.hide(Z:H p=ar (.lst ws)):∀{ρ:aB} {σ:St},RelE K ι H ρ σ->RelE K ι (eT H p) ρ σ
 |_,_,.nil=>.nil
 |_,_,.cons h t=>.cons (λd z=>let ⟨v,e1,e2⟩:=h d z;⟨v,e1,e2.hide Z⟩) (RelE.hide Z t)
theorem RelE.unhide:∀{ρ:aB} {σ:St},RelE K ι (eT H p) ρ σ->RelE K ι H ρ σ
 |_,_,.nil=>.nil
 |_,_,.cons h t=>.cons (λd z=>let ⟨v,e1,e2⟩:=h d z;⟨v,e1,e2.unhide⟩) (RelE.unhide t)
theorem Rep.hide(Z:H p=ar (.lst ws))(Y:p∉ι)(r:Rep K ι H S):Rep K ι (eT H p) S:=
 ⟨r.nd,r.len,λk a xs e1 e2=>let ⟨vs,h1,h2⟩:=r.get k a xs e1 e2;⟨vs,by rw[hide_ne (λz=>Y (by rw[<-z];exact JV e1))];exact h1,h2.hide Z⟩,r.tab.mono λb o h n=>by rw[hide_ne (λz=>by subst z;rw[h]at Z;exact n ws (JW Z))];exact h⟩
theorem Rep.unhide(r:Rep K ι (eT H p) S):Rep K ι H S:=
 ⟨r.nd,r.len,λk a xs e1 e2=>let ⟨vs,h1,h2⟩:=r.get k a xs e1 e2;⟨vs,(bW h1).2,h2.unhide⟩,r.tab.mono λb o h _=>(bW h).2⟩
theorem Ext.hide(e:Ext ι H ι' H'):Ext ι (eT H p) ι' (eT H' p):=
 ⟨e.ids,λa o h n t=>by obtain⟨Z,X⟩:=bW h;obtain⟨Y,U⟩:=e.oth a o X n t;exact⟨by rw[hide_ne Z];exact Y,U⟩⟩
theorem Ext.unhide(e:Ext ι H ι' (eT H' p)):Ext ι H ι' H':=
 ⟨e.ids,λa o h n t=>by obtain⟨Z,Y⟩:=e.oth a o h n t;exact⟨(bW Z).2,Y⟩⟩
theorem kH{E:XD}{U:Type}{c:M U}{ws:List V}{Q:U->List c_->aw->Hp->Prop}(h:cont K dW c ι S (eT H p) Q)(R:H p=ar (.lst ws))(T:p∉ι):
  cont K E c ι S H (λa ι' Z H'=>H' p=ar (.lst ws)/\p∉ι'/\Q a ι' Z (eT H' p)):=by
 obtain⟨r,Z,e,k⟩:=h;refine⟨r,Z,e,λι' H' x rep=>?_⟩;obtain⟨X,Y⟩:=x.oth p _ R T (by intro _ z;cases z);have:=k ι' (eT H' p) x.hide (rep.hide X Y);cases r with
 |ok a=>exact⟨X,Y,this⟩
 |ex y=>exact this.elim
end
def i8(js:List (Option Nat))(ρ:aB):aB:=js.map λo=>o.bind λj=>(ρ[j]?).join
theorem RelE.blk{K:dV}{ι:List c_}{H:Hp}{ρ:aB}{Y:St}(X:RelE K ι H ρ Y):∀js:List (Option Nat),RelE K ι H (i8 js ρ) (oC js Y)
 |[]=>.nil
 |none::js=>.cons (λd z=>by cases z) (RelE.blk X js)
 | some j::js=>.cons (λd z=>by
   have Z:(ρ[j]?).join=ar d:=z;have:ρ[j]? =ar (ar d):=by
    cases q:ρ[j]? with
    |none=>rw[q]at Z;cases Z
    |some o=>rw[q]at Z;exact KG ar Z
   obtain⟨v,e1,e2⟩:=X.get this;refine⟨v,?_,e2⟩;show(Y[j]?).join=ar v;rw[e1];rfl) (RelE.blk X js)
def bN(it:Iter)(g:mR)(t:aB->M Bool)(m:TM):List D->aB->M (List D)
 |[],ρ=>do i7 it;a_ []
 | d::ds,ρ=>do
  i7 it
  let ρ1<-g d ρ;let b<-t ρ1
  if b=dr then do
   let y<-m ρ1;let ys<-bN it g t m ds ρ1
   a_ (y::ys)
  else bN it g t m ds ρ1
def eu(it:Iter)(g:mR)(t:aB->M Bool)(m:TM)(ρ:aB):M (List D):=if it.items.length<=lim then bN it g t m it.items ρ else M.fail
def Hs(X:Cx)(E:XD)(ifs:List Expr)(t:aB->M Bool):Prop:=FD X ifs (C4 X.K E t)
theorem fQ:Hs X E [] (λ_=>a_ dr):=λpins s σ H Q I h=>BH pins s σ H Q I (by obtain⟨ι,S,ρ,rep,re,c⟩:=h;exact ah c .refl rep)
theorem l9(h:SB X E c t):Hs X E [c] t:=BI h
section
variable {X:Cx}{scope:Scope}{Nc:List Str}{js:List (Option Nat)}{elt tg iter:Expr}{ifs:List Expr}{pos:Pos}{mi:aB->M Iter}{g:mR}{t:aB->M Bool}{m:TM}
theorem fw{Z Y W:Type}(c:M Z)(f:Z->M Y)(h:Y->M W):((c>>=f)>>=h)=(c>>=λa=>f a>>=h):=by
 funext S;show M.bnd (M.bnd c f) h S=M.bnd c (λa=>M.bnd (f a) h) S;unfold M.bnd;cases c S with
 |none=>rfl
 |some r=>
  obtain⟨r,U⟩:=r;cases r<;>rfl
theorem ak{Z Y:Type}(a:Z)(f:Z->M Y):(a_ a>>=f)=f a:=rfl
theorem BN{Z Y:Type}{c:Prop} [Decidable c](x y:M Z)(f:Z->M Y):((if c then x else y)>>=f)=if c then x>>=f else y>>=f:=by split<;>rfl
abbrev Gn(js:List (Option Nat))(g:TG)(tt:TT)(te:TE)(σ:St)(Q:VK):It->Hp->Prop:=λJ H1=>∀p,H1 p=none->
 ∃W:Nat->Nat->St->Hp->Prop,(∃m,W 0 m (oC js σ) (upd H1 p (.lst [])))/\∀i m σc Hc,W i m σc Hc->
  (J.stop i Hc/\Q (.ref p) Hc)\/(J.go i Hc/\∃N:St->Hp->Prop,(∀ σ' H',N σ' H'->∃m',m'<m/\W (i+1) m' σ' H')/\∀x H',J.yld i Hc x H'->g x σc H' λσ2 H2=>tt σ2 H2 λb H3=>
   if b=dr then te σ2 H3 λy H4=>∃xs,H4 p=ar (.lst xs)/\xs.length<sizeLine/\N σ2 (upd H4 p (.lst (xs++[y])))else N σ2 H3)
theorem yO{Q:VK}{l:St}{H:Hp}{ι:List c_}{S:aw}{ρ:aB}(o:Rep X.K ι H S)(re:RelE X.K ι H ρ l)(c:cont X.K dW (do let it<-mi ρ;let ys<-eu it g t m (i8 js ρ);a8 ys) ι S H (jQ X.K Q)):
  cont X.K dW (mi ρ) ι S H (λit Y _ T=>∀J,gf X.K it J Y T->Gn js (Gi X.K dW g) (C4 X.K dW t) (tM X.K dW m) l Q J T):=by
 refine aj (ai c) λit Y S1 T e1 rep1 q J hJ p B=>?_;have f:it.items.length<=lim/\cont X.K dW (bN it g t m it.items (i8 js ρ)>>=λys=>a8 ys) Y S1 T (jQ X.K Q):=by
  have U:cont X.K dW ((if it.items.length<=lim then bN it g t m it.items (i8 js ρ)else M.fail)>>=λys=>a8 ys) Y S1 T (jQ X.K Q):=q;by_cases h:it.items.length<=lim
  ·rw[if_pos h]at U;exact⟨h,U⟩
  ·rw[if_neg h]at U;exact(af (ai U)).elim
 obtain⟨hlen,q⟩:=f;have d:RelE X.K Y T (i8 js ρ) (oC js l):=(re.later o e1).blk js;refine⟨λi n C W=>∃ ι2 S2 ρ2 xs vs,n=it.items.length - i/\i<=it.items.length/\Ext Y T ι2 (eT W p)/\Rep X.K ι2 (eT W p) S2/\RelE X.K ι2 (eT W p) ρ2 C/\W p=ar (.lst vs)/\p∉ι2/\RelDs X.K ι2 (eT W p) xs vs/\xs.length<=i/\
  cont X.K dW (bN it g t m (it.items.drop i) ρ2>>=λys=>a8 (xs++ys)) ι2 S2 (eT W p) (jQ X.K Q),⟨_,Y,S1,i8 js ρ,[],[],rfl,JS _,?_,?_,?_,aU,rep1.free B,.nil,JS _,?_⟩,?_⟩
 ·rw[iD,gW B];exact .refl
 ·rw[iD,gW B];exact rep1
 ·rw[iD,gW B];exact d
 ·rw[iD,gW B];exact q
 rintro i n C W ⟨ι2,S2,ρ2,xs,vs,hn,hi',e2,rep2,re2,hpc,hpn,rx,hlim,c2⟩;by_cases hlt:i<it.items.length
 ·have hd:it.items.drop i=it.items[i]::it.items.drop (i+1):=MA hlt;rw[hd]at c2;have P:cont X.K dW (i7 it>>=λ_=>g it.items[i] ρ2>>=λZ=>t Z>>=λb=>if b=dr then m Z>>=λy=>bN it g t m (it.items.drop (i+1)) Z>>=λys=>a8 (xs++y::ys)else bN it g t m (it.items.drop (i+1)) Z>>=λys=>a8 (xs++ys)) ι2 S2 (eT W p) (jQ X.K Q):=by
   have:(bN it g t m (it.items[i]::it.items.drop (i+1)) ρ2>>=λys=>a8 (xs++ys))=(i7 it>>=λ_=>g it.items[i] ρ2>>=λZ=>t Z>>=λb=>if b=dr then m Z>>=λy=>bN it g t m (it.items.drop (i+1)) Z>>=λys=>a8 (xs++y::ys)else bN it g t m (it.items.drop (i+1)) Z>>=λys=>a8 (xs++ys)):=by show((i7 it>>=λ_=>g it.items[i] ρ2>>=λZ=>t Z>>=λb=>if b=dr then m Z>>=λy=>bN it g t m (it.items.drop (i+1)) Z>>=λys=>a_ (y::ys)else bN it g t m (it.items.drop (i+1)) Z)>>=λys=>a8 (xs++ys))=_;simp only[fw,BN,ak]
   rw[<-this];exact c2
  obtain⟨ok,u⟩:=jS P rep2;obtain⟨r,a3⟩:=hJ ι2 W S2 e2.unhide.n rep2.unhide ok i;obtain⟨go,yl⟩:=r it.items[i] (JB hlt);refine .inr ⟨go,λA G=>∃ ι3 S3 ρ3 xs3 vs3,Ext Y T ι3 (eT G p)/\Rep X.K ι3 (eT G p) S3/\RelE X.K ι3 (eT G p) ρ3 A/\G p=ar (.lst vs3)/\p∉ι3/\RelDs X.K ι3 (eT G p) xs3 vs3/\xs3.length<=i+1/\
   cont X.K dW (bN it g t m (it.items.drop (i+1)) ρ3>>=λys=>a8 (xs3++ys)) ι3 S3 (eT G p) (jQ X.K Q),?_,λx a hy=>?_⟩
  ·rintro A G ⟨ι3,S3,ρ3,xs3,vs3,h1,h2,h3,h4,h5,h6,h7,h8⟩;exact⟨_,by omega,ι3,S3,ρ3,xs3,vs3,rfl,hlt,h1,h2,h3,h4,h5,h6,h7,h8⟩
  ·obtain⟨s,rep3,rd⟩:=yl x a hy;obtain⟨k,_⟩:=s.oth p _ hpc hpn (by intro _ z;cases z);have v:Ext ι2 (eT W p) ι2 (eT a p):=s.hide;have c4:=ai (fx u v);refine⟨ι2,S2,ρ2,it.items[i],rep3,re2.unhide.later rep2.unhide s,rd,aj (kH (E:=dW) c4 k hpn) λρ4 ι4 S4 H4 e4 rep4 ⟨hp4,hn4,c5⟩ σ4 re4=>?_⟩;have e:Rep X.K ι4 (eT H4 p) S4:=rep4.hide hp4 hn4;have j:Ext ι2 (eT W p) ι4 (eT H4 p):=v.trans e4.hide;refine⟨ι4,S4,ρ4,rep4,re4,aj (kH (E:=dW) (ai c5) hp4 hn4) λb ι5 S5 H5 e5 rep5 ⟨hp5,hn5,c6⟩=>?_⟩;have R:Rep X.K ι5 (eT H5 p) S5:=rep5.hide hp5 hn5;have I:Ext ι2 (eT W p) ι5 (eT H5 p):=j.trans e5.hide;have N:RelE X.K ι5 H5 ρ4 σ4:=re4.later rep4 e5;cases b with
   |false=>
    have L:cont X.K dW (bN it g t m (it.items.drop (i+1)) ρ4>>=λys=>a8 (xs++ys)) ι5 S5 (eT H5 p) (jQ X.K Q):=c6;exact⟨ι5,S5,ρ4,xs,vs,e2.trans I,R,N.hide hp5,hp5,hn5,rx.later rep2 I,by omega,L⟩
   |true=>
    have L:cont X.K dW (m ρ4>>=λy=>bN it g t m (it.items.drop (i+1)) ρ4>>=λys=>a8 (xs++y::ys)) ι5 S5 (eT H5 p) (jQ X.K Q):=c6;refine⟨ι5,S5,ρ4,rep5,N,aj (kH (E:=dW) (ai L) hp5 hn5) λy ι6 S6 H6 e6 rep6 ⟨hp6,hn6,c7⟩ yv ry=>?_⟩;have w:Ext ι2 (eT W p) ι6 (eT H6 p):=I.trans e6.hide;have O:Rep X.K ι6 (eT H6 p) S6:=rep6.hide hp6 hn6;have F:=rx.later rep2 w;have hl:vs.length<sizeLine:=by rw[<-F.length];exact Mu (by omega) Ee
    refine⟨vs,hp6,hl,ι6,S6,ρ4,xs++[y],vs++[yv],?_⟩;rw[iD];refine⟨e2.trans w,O,(N.later rep5 e6).hide hp6,aU,hn6,F.append (.cons (ry.hide hp6) .nil),by simp;omega,by simpa using c7⟩
 ·have hd:it.items.drop i=[]:=List.drop_eq_nil_of_le (by omega);rw[hd]at c2;have P:cont X.K dW (i7 it>>=λ_=>a8 (xs++[])) ι2 S2 (eT W p) (jQ X.K Q):=by
   have:(bN it g t m [] ρ2>>=λys=>a8 (xs++ys))=(i7 it>>=λ_=>a8 (xs++[])):=by show((i7 it>>=λ_=>a_ [])>>=λys=>a8 (xs++ys))=_;simp only[fw,ak]
   rw[<-this];exact c2
  obtain⟨ok,u⟩:=jS P rep2;rw[Kn]at u;refine .inl ⟨(hJ ι2 W S2 e2.unhide.n rep2.unhide ok i).2 (by omega),?_⟩;have:=(ba u rep2 rx).2 p jT;rw[yN hpc]at this;exact this
theorem rX(h:tM X.K dW (λρ=>do let it<-mi ρ;let ys<-eu it g t m (i8 js ρ);a8 ys) σ H Q):
  vp (IV X.K dW mi) js (Gi X.K dW g) (C4 X.K dW t) (tM X.K dW m) σ H Q:=
 let ⟨ι,S,ρ,rep,re,c⟩:=h
 ⟨ι,S,ρ,rep,re,yO rep re c⟩
theorem dH(c:CompScope X scope Nc js)(Y:X.calm=dr)(W:SI X dW tg iter mi)
  (Z:∀C ex s H,SG (bq X scope Nc C ex s H) dW tg g/\Hs (bq X scope Nc C ex s H) dW ifs t/\SE (bq X scope Nc C ex s H) dW elt m)
  (hs:∀x,lb iter X.env x=a_ x:=by intro _;rfl):SE X dW (.ListComp elt [⟨tg,iter,ifs,0⟩] scope pos) (λρ=>do let it<-mi ρ;let ys<-eu it g t m (i8 js ρ);a8 ys):=
 PE.imp (BJ (g:=Gi X.K dW g) (tt:=C4 X.K dW t) (te:=tM X.K dW m) c Y W Z hs) λ_ _ _ q=>rX q
theorem t8(i:Nat)(R:X.N.Nodup)(c:CompScope X scope Nc js)(O:X.calm=dr)(J:SI X dW tg iter mi)
  (W:∀C ex s H,SG (bq X scope Nc C ex s H) dW tg g/\Hs (bq X scope Nc C ex s H) dW ifs t/\SE (bq X scope Nc C ex s H) dW elt m)
  (Y:X.N[i]? =ar x:=by rfl) (U:Loc X.env.scope x:=by first|exact Ol rfl|exact N1 rfl)
  (Z:kT (.ListComp elt [⟨tg,iter,ifs,0⟩] scope cpos) (ar (.Name x pos')) pos.line X.env=a_ true:=by rfl)
  (Q:X.fn x=dr\/X.env.scope.names.lookup x=ar .local:=by first|exact .inl rfl|exact .inr rfl|assumption)
  (hs:∀x,lb iter X.env x=a_ x:=by intro _;rfl):SS X dW (.Assign [.Name x pos'] (.ListComp elt [⟨tg,iter,ifs,0⟩] scope cpos) pos)
   (λρ=>do let d<-(do let it<-mi ρ;let ys<-eu it g t m (i8 js ρ);a8 ys);a_ (.nx (ρ.set i (ar d)))):=by
 refine PS.imp (t6 (g:=Gi X.K dW g) (tt:=C4 X.K dW t) (te:=tM X.K dW m) R Y U c O J W Z Q hs) λT σ H h=>?_;obtain⟨ι,S,ρ,rep,re,c⟩:=h;refine rX ⟨ι,S,ρ,rep,re,aj (ai c) λd L S1 I e1 rep1 P v r=>?_⟩;exact ah P .refl rep1 _ ((re.later rep e1).set r i)
end
section
variable {P:ee}{w:ey}{K:dV}{mg:Str->Option aC}{base:fc}
def outD:Out->M D
 | .nx _=>a_ .non
 | .ret d=>a_ d
 |_=>M.fail
def pv(N n:Nat)(m:cW):List D->M D:=λds=>if ds.length=n then do let o<-m (ds.map ar++j1 (N - n) none);outD o else M.fail
end
def oF(f:Int->Int->M D):D->D->M D
 | .int i,.int j=>f i j
 |_,_=>M.fail
theorem fR{K:dV}{E:XD}{g:Int->Int->V}{f:Int->Int->D}(Y:∀ ι H i j,RelD K ι H (f i j) (g i j)):pk K E (oF λi j=>a_ (f i j)) (Bg g):=by
 intro ι S H T Z v1 v2 Q rep U X c;cases T<;>cases Z<;>first
  |exact(af c).elim
  |exact⟨_,_,U.int_inv,X.int_inv,ah c .refl rep _ (Y _ _ _ _)⟩
theorem jU{K:dV}{E:XD}{C:Int->Int->Prop} [∀i j,Decidable (C i j)]{g:Int->Int->V}{f:Int->Int->D}(X:∀ ι H i j,RelD K ι H (f i j) (g i j)):pk K E (oF λi j=>if C i j then a_ (f i j)else M.fail) (rI C g):=by
 intro ι S H R Y v1 v2 Q rep T U c;cases R<;>cases Y<;>first
  |exact(af c).elim
  | (next i j=>
    have Z:cont K E (if C i j then a_ (f i j)else M.fail) ι S H (jQ K Q):=c;by_cases h:C i j
    ·rw[if_pos h]at Z;exact⟨_,_,T.int_inv,U.int_inv,h,ah Z .refl rep _ (X _ _ _ _)⟩
    ·rw[if_neg h]at Z;exact(af Z).elim)
def fN:D->D->M D:=oF λi j=>a_ (.int (i - j))
instance:∀i j,Decidable (tR i j):=λi j=>inferInstanceAs (Decidable (_\/_))
instance:∀i j,Decidable (wM i j):=λi j=>inferInstanceAs (Decidable (_/\_))
instance:∀i j,Decidable (Bv i j):=λi j=>inferInstanceAs (Decidable (_/\_))
def qv:D->D->M D:=oF λi j=>if tR i j then a_ (.int (i*j))else M.fail
def jV:D->D->M D:=oF λi j=>if wM i j then a_ (.int (i / j))else M.fail
def jm:D->D->M D:=oF λi j=>if 0<j then a_ (.int (i % j))else M.fail
def yP:D->D->M D:=oF λi j=>if Bv i j then a_ (.int (i ^ j.toNat))else M.fail
def cK:D->D->M D
 | .int i,.int j=>a_ (.int (i+j))
 | .tup xs,.tup ys=>cq (xs++ys)
 | .lst a,.lst b=>do let xs<-getL a;let ys<-getL b;a8 (xs++ys)
 | .lst a,.fz ys=>do let xs<-getL a;a8 (xs++ys)
 | .fz xs,.lst b=>do let ys<-getL b;a8 (xs++ys)
 | .fz xs,.fz ys=>a8 (xs++ys)
 |_,_=>M.fail
def rH:D->D->M D:=oF λi j=>a_ (.bl (decide (i<=j)))
def yQ:D->D->M D:=oF λi j=>a_ (.bl (decide (j<i)))
def Iu:D->D->M D:=oF λi j=>a_ (.bl (decide (j<=i)))
section
variable {X:Cx}{E:XD}{a b e c:Expr}{m n l:TM}{pos:Pos}
theorem jo(Y:SE X E a m)(Z:SE X E b n):SE X E (.BinOp a .Sub b pos) (λρ=>do let x<-m ρ;let y<-n ρ;fN x y):=mS DU (fR λ_ _ _ _=>.int _) Y Z
theorem mY(Y:SE X E a m)(Z:SE X E b n):SE X E (.BinOp a .Mult b pos) (λρ=>do let x<-m ρ;let y<-n ρ;qv x y):=mS DV (jU λ_ _ _ _=>.int _) Y Z
theorem qw(Y:SE X E a m)(Z:SE X E b n):SE X E (.BinOp a .FloorDiv b pos) (λρ=>do let x<-m ρ;let y<-n ρ;jV x y):=mS Bw (jU λ_ _ _ _=>.int _) Y Z
theorem iE(Y:SE X E a m)(Z:SE X E b n):SE X E (.BinOp a .Mod b pos) (λρ=>do let x<-m ρ;let y<-n ρ;jm x y):=mS DW (jU (C:=λ_ j=>0<j) λ_ _ _ _=>.int _) Y Z
theorem yR(Y:SE X E a m)(Z:SE X E b n):SE X E (.BinOp a .Pow b pos) (λρ=>do let x<-m ρ;let y<-n ρ;yP x y):=mS DX (jU λ_ _ _ _=>.int _) Y Z
theorem yS:gO X (oo .Add) (λx y H Q=>∃a b ys,x= .ref a/\y= .ref b/\jG X.K H a []/\jG X.K H b ys/\Q (.ref b) H):=by
 intro pins s σ H x y v u Q I G O h;obtain⟨a,b,ys,rfl,rfl,J,C,q⟩:=h;cases G;cases O;obtain⟨its,A,L,_⟩:=I.tuple J;obtain⟨W,z,N,_⟩:=I.tuple C;cases A;obtain⟨⟨cls,dd,data,F⟩,R,S,n,hd⟩:=id L;obtain⟨⟨P,T,data2,U⟩,Z,Y,B,hd2⟩:=id N;simp only at S hd Y hd2;subst S hd Y hd2;exact Ny ⟨_,R,rfl⟩ ⟨_,Z,rfl⟩ MZ Nq LN LC (Ly _ _)
  (tuple_addW0 a b #[] W.toArray n B dd T F U (by simp)) ⟨R,Z,⟨.ref b,H,I,rfl,q⟩⟩
theorem Inv.lstR{X:Cx}{Z:List (c_×Obj)}{W:L2.St}{H:Hp}{s:b_}{l:c_}{xs:List V}(I:L2.Inv X Z W H s)(Y:Rd H l (.lst xs)):xs.length<=sizeLine/\∃(its:List aC) (n:Nat),aX xs its/\xs.length=its.length/\s.heap.get? l=ar {cls:=.type "list",data:=.seq its.toArray n}:=by obtain⟨z,its,n,r,e⟩:=Y.ok I.hok;exact⟨z,its,n,r,r.length,e⟩
def Gp:R2:=λx y H Q=>∃l b xs zs,x= .ref l/\y= .ref b/\Rd H l (.lst xs)/\Rd H b (.lst zs)/\xs.length+zs.length<=sizeLine/\∀p,H p=none->Q (.ref p) (upd H p (.lst (xs++zs)))
theorem BO:gO X (oo .Add) Gp:=by
 intro pins s σ H x y v u Q I Y S h;obtain⟨l,b,xs,zs,rfl,rfl,W,U,J,q⟩:=h;cases Y;cases S;obtain⟨z,its,n,r,L,e⟩:=Inv.lstR I W;obtain⟨N,Z,K,T,R,e2⟩:=Inv.lstR I U;refine PySem.P.add_list e e2 ?_ (by rw[JH,JH];omega);have O:its.toArray++Z.toArray=(its++Z).toArray:=by simp
 rw[O];exact⟨.ref _,_,I.lnew (t':=s.toks) (r.append T) (by rw[JA];omega),rfl,q _ I.fresh⟩
theorem dv(C:SE X E a m)(A:SE X E b n):SE X E (.BinOp a .Add b pos) (λρ=>do let x<-m ρ;let y<-n ρ;cK x y):=by
 refine mS (DT.or (BD.or (yS.or BO))) ?_ C A;intro ι S H F B v1 v2 Q rep O P c;cases F<;>cases B<;>first
  |exact(af c).elim
  |exact .inl ⟨_,_,O.int_inv,P.int_inv,ah c .refl rep _ (.int _)⟩
  | (next xs ys=>
    obtain⟨p,vs,rfl,U,G⟩:=O.tup_inv;obtain⟨q,ws,rfl,W,N⟩:=P.tup_inv;obtain⟨Y,T⟩:=d4 c rep (G.append N);rw[JA]at Y;cases vs with
    |nil=>
     refine .inr (.inr (.inl ⟨p,q,ws,rfl,rfl,.of U,.of W,?_⟩));exact gS c rep W (G.append N)
    |cons v vs=>
     refine .inr (.inl ⟨p,q,v::vs,ws,rfl,rfl,.of U,.of W,by simp,JG Y dZ,λz=>?_,λ_=>T⟩);subst z;have:=G.append N;rw[Kn]at this;exact gS c rep U this)
  | (next j k=>
    obtain⟨p,rfl,U⟩:=O.lst_inv;obtain⟨q,rfl,W⟩:=P.lst_inv;obtain⟨ds,vs,_,L,R,K⟩:=a7 c rep U;obtain⟨es,ws,_,hw,Z,I⟩:=a7 K rep W;obtain⟨Y,T⟩:=ba I rep (R.append Z);rw[JA]at Y;exact .inr (.inr (.inr ⟨p,q,vs,ws,rfl,rfl,.inl L,.inl hw,JG Y dZ,T⟩)))
  | (next j ys=>
    obtain⟨p,rfl,U⟩:=O.lst_inv;obtain⟨q,o2,ws,rfl,W,Z⟩:=P.fz_inv;obtain⟨ds,vs,_,L,R,K⟩:=a7 c rep U;obtain⟨Y,T⟩:=ba K rep (R.append Z);rw[JA]at Y;exact .inr (.inr (.inr ⟨p,q,vs,ws,rfl,rfl,.inl L,.inr ⟨o2,W⟩,JG Y dZ,T⟩)))
  | (next xs k=>
    obtain⟨p,J,vs,rfl,U,R⟩:=O.fz_inv;obtain⟨q,rfl,W⟩:=P.lst_inv;obtain⟨es,ws,_,hw,Z,I⟩:=a7 c rep W;obtain⟨Y,T⟩:=ba I rep (R.append Z);rw[JA]at Y;exact .inr (.inr (.inr ⟨p,q,vs,ws,rfl,rfl,.inr ⟨J,U⟩,.inl hw,JG Y dZ,T⟩)))
  | (next xs ys=>
    obtain⟨p,J,vs,rfl,U,R⟩:=O.fz_inv;obtain⟨q,o2,ws,rfl,W,Z⟩:=P.fz_inv;obtain⟨Y,T⟩:=ba c rep (R.append Z);rw[JA]at Y;exact .inr (.inr (.inr ⟨p,q,vs,ws,rfl,rfl,.inr ⟨J,U⟩,.inr ⟨o2,W⟩,JG Y dZ,T⟩)))
theorem yT(Y:SE X E a m)(Z:SE X E b n):SB X E (.Compare a [.Gt] [b] pos) (λρ=>do let z<-(do let x<-m ρ;let y<-n ρ;yQ x y);jB z):=mU F8 (fR λ_ _ _ _=>.bl _) Y Z
theorem Gq(Y:SE X E a m)(Z:SE X E b n):SB X E (.Compare a [.GtE] [b] pos) (λρ=>do let z<-(do let x<-m ρ;let y<-n ρ;Iu x y);jB z):=mU F9 (fR λ_ _ _ _=>.bl _) Y Z
def intsOf:List D->Option (List Int)
 |[]=>ar []
 | .int i::r=>(intsOf r).map (i::·)
 |_=>none
theorem fy{K:dV}{ι:List c_}{H:Hp}:∀{ds:List D} {vs:List V} {ns:List Int},RelDs K ι H ds vs->intsOf ds=ar ns->vs=ns.map V.int
 |[],vs,ns,h,e=>by cases e;rw[h.nil_inv];rfl
 | .int i::ds,vs,ns,h,e=>by
  obtain⟨v,ws,rfl,Y,Z⟩:=h.cons_inv;cases q:intsOf ds with
  |none=>simp[intsOf,q]at e
  |some ks=>
   simp[intsOf,q]at e;subst e;rw[Y.int_inv,fy Z q];rfl
 | .non::_,_,_,_,e=>by cases e
 | .bl _::_,_,_,_,e=>by cases e
 | .str _::_,_,_,_,e=>by cases e
 | .tup _::_,_,_,_,e=>by cases e
 | .lst _::_,_,_,_,e=>by cases e
 | .ro _::_,_,_,_,e=>by cases e
 | .fz _::_,_,_,_,e=>by cases e
 | .emp::_,_,_,_,e=>by cases e
def ye:D->D->M D
 | .int i,.int j=>a_ (.bl (decide (i<j)))
 | .tup xs,.tup ys=>match intsOf xs,intsOf ys with
  |some ns,ar ms=>a_ (.bl (HT.lexLt ns ms))
  |_,_=>M.fail
 |_,_=>M.fail
theorem t9:pk X.K E ye (λx y H Q=>Bg (λi j=>.bl (decide (i<j))) x y H Q\/Gd X.K x y H Q):=by
 intro ι S H P W v1 v2 Q rep Y Z c;cases P<;>cases W<;>first
  |exact(af c).elim
  |exact .inl ⟨_,_,Y.int_inv,Z.int_inv,ah c .refl rep _ (.bl _)⟩
  | (next xs ys=>
    obtain⟨p,vs,rfl,R,O⟩:=Y.tup_inv;obtain⟨q,ws,rfl,T,U⟩:=Z.tup_inv;dsimp only[ye]at c;split at c
    ·next ns ms e1 e2=>
     refine .inr ⟨p,q,ns,ms,rfl,rfl,.of (by rw[<-fy O e1];exact R),.of (by rw[<-fy U e2];exact T),ah c .refl rep _ (.bl _)⟩
    ·exact(af c).elim)
theorem C8(Y:X.A.units<v_)(W:SE X E a m)(Z:SE X E b n):SE X E (.Compare a [.Lt] [b] pos) (λρ=>do let x<-m ρ;let y<-n ρ;ye x y):=qt (yp.or (tW Y)) t9 W Z
theorem C9(Y:X.A.units<v_)(W:SE X E a m)(Z:SE X E b n):SB X E (.Compare a [.Lt] [b] pos) (λρ=>do let z<-(do let x<-m ρ;let y<-n ρ;ye x y);jB z):=mU (yp.or (tW Y)) t9 W Z
theorem rY(J:pk X.K E f r)(t:pk X.K E g r')
  (h:tM X.K E (λρ=>do let x<-m ρ;let y<-n ρ;let z<-f x y;let k<-jB z;if k=dr then do let w<-l ρ;g y w else a_ (.bl dt)) σ H Q):tS r r' (tM X.K E m) (tM X.K E n) (tM X.K E l) σ H Q:=by
 obtain⟨ι,S,ρ,rep,re,c⟩:=h;refine⟨ι,S,ρ,rep,re,aj (ai c) λx Y S1 o e1 rep1 G v1 s=>?_⟩;refine⟨Y,S1,ρ,rep1,re.later rep e1,aj (ai G) λy U S2 C e2 rep2 u v2 P=>?_⟩;refine J U S2 C x y v1 v2 _ rep2 (s.later rep1 e2) P (aj (ai u) λz W v p R rep3 A j F=>?_);obtain⟨k,rfl,rfl,O⟩:=qu rep3 F A;refine⟨k,rfl,?_⟩;cases k with
 |true=>
  exact⟨W,v,ρ,rep3,((re.later rep e1).later rep1 e2).later rep2 R,aj (ai O) λw T q N I Z B v4 L=>t T q N y w v2 v4 Q Z ((P.later rep2 R).later rep3 I) L B⟩
 |false=>exact ah O .refl rep3 _ (.bl dt)
theorem yU(h:gO X (h9 op) r)(h':gO X (h9 op') r')(W:pk X.K E f r)(T:pk X.K E g r')(S:SE X E a m)(Z:SE X E b n)(Y:SE X E c l)
  (U:NH [op,op'] [b,c]=false:=by with_unfolding_all rfl):
  SE X E (.Compare a [op,op'] [b,c] pos) (λρ=>do let x<-m ρ;let y<-n ρ;let z<-f x y;let k<-jB z;if k=dr then do let w<-l ρ;g y w else a_ (.bl dt)):=
 PE.imp (yq h h' S Z Y U) λ_ _ _ q=>rY W T q
theorem rZ(h:gO X (h9 op) r)(h':gO X (h9 op') r')(Z:pk X.K E f r)(W:pk X.K E g r')(J:SE X E a m)(U:SE X E b n)(P:SE X E c l)
  (L:NH [op,op'] [b,c]=false:=by with_unfolding_all rfl):
  SB X E (.Compare a [op,op'] [b,c] pos) (λρ=>do let v<-(do let x<-m ρ;let y<-n ρ;let z<-f x y;let k<-jB z;if k=dr then do let w<-l ρ;g y w else a_ (.bl dt));jB v):=
 PT.imp (yr h h' J U P L) λσ H Q q=>by obtain⟨ι,S,ρ,rep,re,c⟩:=q;refine rY Z W (Q:=λx O=>∃k,x= .bl k/\Q k O) ⟨ι,S,ρ,rep,re,aj (ai c) λx N S1 I e1 rep1 T v1 R=>?_⟩;obtain⟨k,rfl,rfl,Y⟩:=mT rep1 R T;exact⟨k,rfl,Y⟩
def ff:D->D->M D
 | .lst k,.int i=>do
  let xs<-getL k
  match i9 xs i with
  |some d=>a_ d
  |none=>M.fail
 | .tup xs,.int i=>match i9 xs i with
  |some d=>a_ d
  |none=>M.fail
 | .ro xs,.int i=>match i9 xs i with
  |some d=>a_ d
  |none=>M.fail
 | .fz xs,.int i=>match i9 xs i with
  |some d=>a_ d
  |none=>M.fail
 |_,_=>M.fail
theorem ma{K:dV}{ι:List c_}{H:Hp}{ds:List D}{vs:List V}{i:Int}{d:D}(h:RelDs K ι H ds vs)(e:i9 ds i=ar d):∃v,i9 vs i=ar v/\RelD K ι H d v:=by
 unfold i9 at e⊢;rw[h.length]at e;cases q:yd vs.length i with
 |none=>rw[q]at e;cases e
 |some j=>
  rw[q]at e;exact h.get' e
theorem Eg:pk X.K E ff (IS X.K):=by
 intro ι S H O R v1 v2 Q rep T U c;cases O<;>cases R<;>first
  |exact(af c).elim
  | (next k i=>
    obtain⟨p,rfl,Z⟩:=T.lst_inv;obtain⟨ds,vs,_,P,Y,W⟩:=a7 c rep Z;cases q:i9 ds i with
    |none=>rw[q]at W;exact(af W).elim
    |some d=>
     rw[q]at W;obtain⟨v,e1,e2⟩:=ma Y q;exact .inl ⟨p,vs,i,v,rfl,U.int_inv,.of P,e1,ah W .refl rep _ e2⟩)
  | (next ds i=>
    obtain⟨p,vs,rfl,Z,Y⟩:=T.tup_inv;dsimp only[ff]at c;cases q:i9 ds i with
    |none=>rw[q]at c;exact(af c).elim
    |some d=>
     rw[q]at c;obtain⟨v,e1,e2⟩:=ma Y q;exact .inr (.inl ⟨p,vs,i,v,rfl,U.int_inv,.of Z,e1,ah c .refl rep _ e2⟩))
  | (next ds i=>
    obtain⟨p,vs,rfl,Z,Y⟩:=T.ro_inv;dsimp only[ff]at c;cases q:i9 ds i with
    |none=>rw[q]at c;exact(af c).elim
    |some d=>
     rw[q]at c;obtain⟨v,e1,e2⟩:=ma Y q;exact .inl ⟨p,vs,i,v,rfl,U.int_inv,Z.sq,e1,ah c .refl rep _ e2⟩)
  | (next ds i=>
    obtain⟨p,o,vs,rfl,Z,Y⟩:=T.fz_inv;dsimp only[ff]at c;cases q:i9 ds i with
    |none=>rw[q]at c;exact(af c).elim
    |some d=>
     rw[q]at c;obtain⟨v,e1,e2⟩:=ma Y q;exact .inl ⟨p,vs,i,v,rfl,U.int_inv,.inl (.inr ⟨o,Z⟩),e1,ah c .refl rep _ e2⟩)
theorem bK(Y:SE X E a m)(Z:SE X E b n)(hs:lZ b:=by intro _ _;rfl):SE X E (.Subscript a b pos) (λρ=>do let x<-m ρ;let y<-n ρ;ff x y):=C6 D8 Eg Y Z hs
end
mutual
inductive ReadsV(H:Hp):V->l_->Prop where
 |non:ReadsV H .non .none
 |bl (b:Bool):ReadsV H (.bl b) (.bool b)
 |int (i:Int):ReadsV H (.int i) (.int i)
 |str (x:Str):ReadsV H (.str x) (.str x)
 |lst {a:c_} {vs:List V} {ps:List l_}:Rd H a (.lst vs)->ReadsVs H vs ps->ReadsV H (.ref a) (.list ps)
 |tup {a:c_} {vs:List V} {ps:List l_}:H a=ar (.tup vs)->ReadsVs H vs ps->ReadsV H (.ref a) (.tuple ps)
inductive ReadsVs(H:Hp):List V->List l_->Prop where
 |nil:ReadsVs H [] []
 |cons {v:V} {p:l_} {vs:List V} {ps:List l_}:ReadsV H v p->ReadsVs H vs ps->ReadsVs H (v::vs) (p::ps)
end
mutual
theorem ReadsV.heap(Z:e9 P w H h):∀{v:V} {p:l_},ReadsV H v p->∀{u:aC},RelV v u->∃as,Reads h u p as
 |_,_,.non,u,r=>by cases (show u=gg from r);exact⟨_,.none⟩
 |_,_,.bl b,u,r=>by cases (show u=p4 b from r);exact⟨_,.bool b⟩
 |_,_,.int i,u,r=>by obtain⟨t,rfl⟩:=(show ∃t,u=ly i t from r);exact⟨_,.int i t⟩
 |_,_,.str x,u,r=>by obtain⟨t,rfl⟩:=(show ∃t,u=kS x t from r);exact⟨_,.str x t⟩
 |_,_,@ReadsV.lst _ a vs ps h1 h2,u,r=>by
  cases (show u=eg a from r);obtain⟨_,its,n,Y,e⟩:=(show aW P w H h a (.lst vs)from h1.ok Z);obtain⟨as,q⟩:=ReadsVs.heap Z h2 Y;exact⟨_,.list e rfl rfl (by simpa using q)⟩
 |_,_,@ReadsV.tup _ a vs ps h1 h2,u,r=>by
  cases (show u=eg a from r);obtain⟨_,its,Y,o,e,c,n,d⟩:=(show aW P w H h a (.tup vs)from Z a _ h1);obtain⟨as,q⟩:=ReadsVs.heap Z h2 Y;exact⟨_,.tuple e c d (by simpa using q)⟩
theorem ReadsVs.heap(Z:e9 P w H h):∀{vs:List V} {ps:List l_},ReadsVs H vs ps->∀{us:List aC},aX vs us->∃as,ReadsAll h us ps as
 |_,_,.nil,us,r=>by cases r;exact⟨_,.nil⟩
 | _,_,.cons h1 h2,us,r=>by
  cases r with
  |cons r1 r2=>
   obtain⟨as,q⟩:=ReadsV.heap Z h1 r1;obtain⟨bs,Y⟩:=ReadsVs.heap Z h2 r2;exact⟨_,.cons q Y⟩
end
def mapP(f:D->Option l_):List D->Option (List l_)
 |[]=>ar []
 |d::ds=>match f d,mapP f ds with
  |some p,ar ps=>ar (p::ps)
  |_,_=>none
def gE(S:aw):Nat->D->Option l_
 |_,.non=>ar .none
 |_,.bl b=>ar (.bool b)
 |_,.int i=>ar (.int i)
 |_,.str x=>if NC x=dr then ar (.str x)else none
 |n+1,.tup ds=>(mapP (gE S n) ds).map .tuple
 |n+1,.lst k=>(S[k]?).bind λxs=>(mapP (gE S n) xs).map .list
 |n+1,.fz ds=>(mapP (gE S n) ds).map .list
 |_,_=>none
section
variable {K:dV}{ι:List c_}{S:aw}{H:Hp}
theorem jW{f:D->Option l_}(Z:∀d p v,f d=ar p->RelD K ι H d v->ReadsV H v p/\p.canLay0=dr/\p.depth<=n):
  ∀{ds:List D} {ps:List l_} {vs:List V},mapP f ds=ar ps->RelDs K ι H ds vs->ReadsVs H vs ps/\PyData.canLayAll0 ps=dr/\o_ ps<=n
 |[],ps,vs,e,r=>by
  cases e;rw[r.nil_inv];exact⟨.nil,rfl,JS _⟩
 | d ::ds,ps,vs,e,r=>by
  obtain⟨v,ws,rfl,U,X⟩:=r.cons_inv;unfold mapP at e;cases q:f d with
  |none=>rw[q]at e;cases e
  | some p=>
   rw[q]at e;cases q2:mapP f ds with
   |none=>rw[q2]at e;cases e
   | some ps'=>
    rw[q2]at e;cases e;obtain⟨Y,R,T⟩:=Z d p v q U;obtain⟨k1,k2,k3⟩:=jW Z q2 X;refine⟨.cons Y k1,?_,?_⟩
    ·show(PyData.canLay0 p && PyData.canLayAll0 ps')=dr;rw[R,k2];rfl
    ·show max p.depth (o_ ps')<=n;exact Nat.max_le.mpr ⟨T,k3⟩
theorem mj(X:Rep K ι H S):∀(n:Nat) (d:D) (p:l_) (v:V),gE S n d=ar p->RelD K ι H d v->ReadsV H v p/\p.canLay0=dr/\p.depth<=n:=by
 intro n
 induction n with
 | zero=>
  intro d p v e r;cases d with
  |non=>cases e;rw[r.non_inv];exact⟨.non,rfl,Jw _⟩
  |bl b=>cases e;rw[r.bl_inv];exact⟨.bl b,rfl,Jw _⟩
  |int i=>cases e;rw[r.int_inv];exact⟨.int i,rfl,Jw _⟩
  |str x=>
   unfold gE at e;split at e
   ·next hs=>cases e;rw[r.str_inv];exact⟨.str x,hs,Jw _⟩
   ·cases e
  |_=>cases e
 | succ n ih=>
  intro d p v e r;cases d with
  |non=>cases e;rw[r.non_inv];exact⟨.non,rfl,JS _⟩
  |bl b=>cases e;rw[r.bl_inv];exact⟨.bl b,rfl,JS _⟩
  |int i=>cases e;rw[r.int_inv];exact⟨.int i,rfl,JS _⟩
  |str x=>
   unfold gE at e;split at e
   ·next hs=>cases e;rw[r.str_inv];exact⟨.str x,hs,JS _⟩
   ·cases e
  | tup ds=>
   obtain⟨a,vs,rfl,Y,Z⟩:=r.tup_inv;unfold gE at e;cases q:mapP (gE S n) ds with
   |none=>rw[q]at e;cases e
   |some ps=>
    rw[q]at e;cases e;obtain⟨k1,k2,k3⟩:=jW ih q Z;exact⟨.tup Y k1,k2,Mb k3⟩
  | lst k=>
   obtain⟨a,rfl,Y⟩:=r.lst_inv;unfold gE at e;cases z:S[k]? with
   |none=>rw[z]at e;cases e
   | some xs=>
    rw[z]at e;obtain⟨vs,U,Z⟩:=X.get k a xs Y z;cases q:mapP (gE S n) xs with
    |none=>simp[q]at e
    |some ps=>
     simp[q]at e;subst e;obtain⟨k1,k2,k3⟩:=jW ih q Z;exact⟨.lst (.inl U) k1,k2,Mb k3⟩
  |ro ds=>cases e
  | fz ds=>
   obtain⟨a,o,vs,rfl,Y,Z⟩:=r.fz_inv;unfold gE at e;cases q:mapP (gE S n) ds with
   |none=>rw[q]at e;cases e
   |some ps=>
    rw[q]at e;cases e;obtain⟨k1,k2,k3⟩:=jW ih q Z;exact⟨.lst (.inr ⟨o,Y⟩) k1,k2,Mb k3⟩
  |emp=>cases e
  |fn a c q ds vs=>cases e
  |exc x ds=>cases e
end
def FE(f:l_->l_->Bool):D->D->M D:=λa b S=>match gE S 60 a,gE S 60 b with
 |some p,ar q=>ar (.ok (.bl (f p q)),S)
 |_,_=>none
def ja:D->D->M D:=FE hO
def jC:D->D->M D:=FE λp q=> !hO p q
def Iv(f:Bool->Bool):l_->l_->Option Bool
 |d,.list xs=>ar (f (xs.any λy=>hO y d))
 |d,.tuple xs=>ar (f (xs.any λy=>hO y d))
 |_,_=>none
def Gr(f:Bool->Bool):D->D->M D:=λa b S=>match gE S 60 a,gE S 60 b with
 |some p,ar q=>match Iv f p q with
  |some r=>ar (.ok (.bl r),S)
  |none=>none
 |_,_=>none
def inD:D->D->M D:=Gr id
section
variable {X:Cx}{E:XD}{a b e:Expr}{m n:TM}{pos:Pos}
def Eh(f:l_->l_->Bool):R2:=λx y H Q=>∃p q,(ReadsV H x p/\p.canLay0=dr/\p.depth<=60)/\(ReadsV H y q/\q.canLay0=dr/\q.depth<=60)/\Q (.bl (f p q)) H
theorem iW{p:l_}(h:p.canLay0=dr)(Z:p.depth<=60):SeqAt.shaped p=true:=by unfold SeqAt.shaped;rw[h,Mh];exact JM (by omega)
theorem yV(L:X.A.units+64<v_):gO X (h9 .Eq) (Eh hO):=by intro pins s σ H x y v u Q I U S h;obtain⟨p,q,⟨O,R,Z⟩,⟨N,T,Y⟩,h⟩:=h;obtain⟨as,P⟩:=O.heap I.hok U;obtain⟨bs,W⟩:=N.heap I.hok S;exact eq_dataH P W (iW R Z) (iW T Y) L ⟨.bl _,H,I,rfl,h⟩
theorem Ei(L:X.A.units+64<v_):gO X (h9 .NotEq) (Eh λp q=> !hO p q):=by intro pins s σ H x y v u Q I U S h;obtain⟨p,q,⟨O,R,Z⟩,⟨N,T,Y⟩,h⟩:=h;obtain⟨as,P⟩:=O.heap I.hok U;obtain⟨bs,W⟩:=N.heap I.hok S;exact ne_dataH P W (iW R Z) (iW T Y) L ⟨.bl _,H,I,rfl,h⟩
theorem qx:pk X.K E (FE f) (Eh f):=by
 intro ι S H U Z v1 v2 Q rep W Y c;obtain⟨r,T,e,k⟩:=c;unfold FE at e;split at e
 ·next p q hp hq=>
  cases e;exact⟨p,q,mj rep 60 U p v1 hp W,mj rep 60 Z q v2 hq Y,k ι H .refl rep _ (.bl _)⟩
 ·cases e
theorem vv(Y:X.A.units+64<v_)(W:SE X E a m)(Z:SE X E b n):SE X E (.Compare a [.Eq] [b] pos) (λρ=>do let x<-m ρ;let y<-n ρ;ja x y):=qt (yV Y) qx W Z
theorem vw(Y:X.A.units+64<v_)(W:SE X E a m)(Z:SE X E b n):SB X E (.Compare a [.Eq] [b] pos) (λρ=>do let z<-(do let x<-m ρ;let y<-n ρ;ja x y);jB z):=mU (yV Y) qx W Z
theorem mZ(Y:X.A.units+64<v_)(W:SE X E a m)(Z:SE X E b n):SB X E (.Compare a [.NotEq] [b] pos) (λρ=>do let z<-(do let x<-m ρ;let y<-n ρ;jC x y);jB z):=mU (Ei Y) qx W Z
def Gs(f:Bool->Bool):R2:=λx y H Q=>∃p q r,(ReadsV H x p/\p.canLay0=dr/\p.depth<=60)/\(ReadsV H y q/\q.canLay0=dr/\q.depth<=60)/\Iv f p q=ar r/\Q (.bl r) H
theorem BP:pk X.K E (Gr f) (Gs f):=by
 intro ι S H U Z v1 v2 Q rep W Y c;obtain⟨r,T,e,k⟩:=c;unfold Gr at e;split at e
 ·next p q hp hq=>
  split at e
  ·next r hr=>
   cases e;exact⟨p,q,r,mj rep 60 U p v1 hp W,mj rep 60 Z q v2 hq Y,hr,k ι H .refl rep _ (.bl _)⟩
  ·cases e
 ·cases e
theorem ua(h:(z3 xs).depth<=60):o_ xs<=60:=LU h
theorem r0(h:(PyData.tuple xs).depth<=60):o_ xs<=60:=LU h
theorem Ej(K:X.A.units+64<v_):gO X (h9 .In) (Gs id):=by
 intro pins s σ H x y v u Q I R P h;obtain⟨p,q,r,⟨O,T,L⟩,⟨N,U,Y⟩,Z,h⟩:=h;obtain⟨as,S⟩:=O.heap I.hok R;obtain⟨bs,W⟩:=N.heap I.hok P;cases q with
 |list xs=>
  cases Z;exact SeqAt.in_list_reads W S U T (by have:=ua Y;have:min (o_ xs) p.depth<=60:=JG (Nat.min_le_left _ _) this;omega) ⟨.bl _,H,I,rfl,h⟩
 |tuple xs=>
  cases Z;exact SeqAt.in_tuple_reads W S U T (by have:=r0 Y;have:min (o_ xs) p.depth<=60:=JG (Nat.min_le_left _ _) this;omega) ⟨.bl _,H,I,rfl,h⟩
 |_=>cases Z
theorem Da(W:X.A.units+64<v_)(U:SE X E a m)(Z:SE X E b n)(Y:k6 .In b=false:=by rfl):SE X E (.Compare a [.In] [b] pos) (λρ=>do let x<-m ρ;let y<-n ρ;inD x y):=qt (Ej W) BP U Z Y
end
section
variable {X:Cx}{E:XD}{a b e c:Expr}{m n l:TM}{pos p2:Pos}{es:List Expr}{ms:aB->M (List D)}
def IW:D->M Int
 | .int i=>a_ i
 |_=>M.fail
def Jk(K:dV)(E:XD)(m:aB->M (Option Int)):TO:=λσ H Q=>∃ ι S ρ,Rep K ι H S/\RelE K ι H ρ σ/\cont K E (m ρ) ι S H (λo _ _ H'=>Q o H')
def SO(X:Cx)(E:XD)(o:Option Expr)(m:aB->M (Option Int)):Prop:=PO X o (Jk X.K E m)
theorem PO.imp{X:Cx}{e:Option Expr}{t t':TO}(h:PO X e t)(k:∀ σ H Q,t' σ H Q->t σ H Q):PO X e t':=λpins s σ H Q I hw=>h pins s σ H Q I (k σ H Q hw)
theorem vx:SO X E none (λ_=>a_ none):=by refine PO.imp BB λσ H Q h=>?_;obtain⟨ι,S,ρ,rep,re,c⟩:=h;exact ah c .refl rep
theorem vy(h:SE X E e m):SO X E (ar e) (λρ=>do let x<-m ρ;let i<-IW x;a_ (ar i)):=by
 refine PO.imp (BC h) λσ H Q h=>?_;obtain⟨ι,S,ρ,rep,re,c⟩:=h;refine⟨ι,S,ρ,rep,re,aj (ai c) λx Y S1 W e1 rep1 Z v r=>?_⟩;cases x with
 |int i=>exact⟨i,r.int_inv,ah (ah (ai Z) .refl rep1) .refl rep1⟩
 |_=>exact(af (ai Z)).elim
def cutD(xs:List D)(lo hi:Option Int):List D:=(xs.drop (HT.sIx xs.length 0 lo)).take (HT.sIx xs.length xs.length hi - HT.sIx xs.length 0 lo)
theorem mn{K:dV}{ι:List c_}{H:Hp}{ds:List D}{vs:List V}(Y Z:Option Int)(h:RelDs K ι H ds vs):RelDs K ι H (cutD ds Y Z) (oz vs Y Z):=by unfold cutD oz;rw[h.length];exact(h.drop _).take _
def ub:D->Option Int->Option Int->M D
 | .tup xs,lo,hi=>cq (cutD xs lo hi)
 | .lst k,lo,hi=>do let xs<-getL k;a8 (cutD xs lo hi)
 | .fz xs,lo,hi=>a8 (cutD xs lo hi)
 |_,_,_=>M.fail
theorem BQ:C0 X (λx lo T H Q=>∃a xs,x= .ref a/\jG X.K H a xs/\(HT.sIx xs.length 0 lo=0/\HT.sIx xs.length xs.length T=xs.length)/\Q (.ref a) H):=by
 intro pins s σ H x v J G lo T P Q I R hs S pu h;obtain⟨a,xs,rfl,O,hw,q⟩:=h;cases R;obtain⟨its,r,Z,L⟩:=I.tuple O;have hlen:its.toArray.size=xs.length:=by rw[JH];exact r.length.symm
 refine⟨"tuple",_,PyProof.Rows.slot_tuple_getitem.lookup,Z.typeIs,?_⟩;have fin:EP X pins σ Q (.ref a) s:=⟨.ref a,H,I,rfl,q⟩;obtain⟨os,Y,W,N⟩:=id hs;have U:s.TypeIs (.ref P) "slice":=⟨os,Y,W⟩;unfold Nz
 try with_reducible refine Kg ?_
 first|refine Ju (Jx ?_)|skip
 refine Ju (wpAny_sequenceKey Z.typeIs (by decide) ?_);refine Ju (wpAny_callSpecial?_slot (name:=hI "__getitem__") Z.typeIs Kz
  (Kk Kz Z.typeIs entry_tuple_getitem ?_ (args_tuple_getitem _ _)))
 show eb _ _ (Builtin.Tuple.tupleItemsOf (.ref a)>>=_) _ _ s;refine Ju (tupleItemsOf_ Z (Ju (LZ U ?_)));rw[if_pos (by decide)];refine Ju (HT.sliceApplied_gen hs S pu ?_);rw[hlen,hw.1,hw.2];show eb _ _ (if ((((0:Nat):Int))==0 && (1:Int)==1 && (xs.length - 0)==xs.length)=dr then _ else _) _ _ s;rw[if_pos (by simp)];unfold Builtin.Tuple.tupleIsExact;refine Ju (Ju (LZ Z.typeIs (Jx ?_)));rw[if_pos (by decide)];first
  |exact Ju (ML (Jx ⟨_,rfl,Jx fin⟩))
  |exact Ju (ML (Ju (Jx (Jx ⟨_,rfl,Jx fin⟩))))
theorem uc{xs:List V}{Z Y:Option Int}(h:HT.sIx xs.length 0 Z=0/\HT.sIx xs.length xs.length Y=xs.length):oz xs Z Y=xs:=by unfold oz;rw[h.1,h.2,M',Nat.sub_zero,List.take_length]
theorem sd{L N:Option Expr}{ml O:aB->M (Option Int)}(F:SE X E e m)(I:SO X E L ml)(B:SO X E N O):
  SE X E (.Subscript e (.Slice L N none p2) pos) (λρ=>do let x<-m ρ;let i<-ml ρ;let j<-O ρ;ub x i j):=by
 refine PE.imp (yy (D4.or (BQ.or BF)) F I B) λσ H Q h=>?_;obtain⟨ι,S,ρ,rep,re,c⟩:=h;refine⟨ι,S,ρ,rep,re,aj (ai c) λx W S1 t e1 rep1 G v r=>?_⟩;refine⟨W,S1,ρ,rep1,re.later rep e1,aj (ai G) λi T S2 w e2 rep2 C=>?_⟩;refine⟨T,S2,ρ,rep2,(re.later rep e1).later rep1 e2,aj (ai C) λj A u y K rep3 Y=>?_⟩;have U:=(r.later rep1 e2).later rep2 K;cases x with
 | tup ds=>
  obtain⟨p,vs,rfl,Z,P⟩:=U.tup_inv;by_cases hw:HT.sIx vs.length 0 i=0/\HT.sIx vs.length vs.length j=vs.length
  ·refine .inr (.inl ⟨p,vs,rfl,.of Z,hw,gS Y rep3 Z ?_⟩);have:=mn i j P;rw[uc hw]at this;exact this
  ·exact .inl ⟨p,vs,rfl,.of Z,hw,(d4 Y rep3 (mn i j P)).2⟩
 |lst k=>
  obtain⟨p,rfl,Z⟩:=U.lst_inv;obtain⟨ds,vs,_,J,R,z⟩:=a7 Y rep3 Z;exact .inr (.inr ⟨p,vs,rfl,.of J,(ba z rep3 (mn i j R)).2⟩)
 |fz ds=>
  obtain⟨p,o,vs,rfl,Z,R⟩:=U.fz_inv;exact .inr (.inr ⟨p,vs,rfl,.inl (.inr ⟨o,Z⟩),(ba Y rep3 (mn i j R)).2⟩)
 |_=>exact(af Y).elim
end
section
variable {X:Cx}{E:XD}{a b e c o:Expr}{m n l:TM}{pos p2:Pos}{es:List Expr}{ms:aB->M (List D)}
def jq:List D->M D
 |[.lst k]=>do let xs<-getL k;a_ (.int xs.length)
 |[.tup ds]=>a_ (.int ds.length)
 |[.ro ds]=>a_ (.int ds.length)
 |[.fz ds]=>a_ (.int ds.length)
 |_=>M.fail
theorem xa:ib X.K E jq (λxs H Q=>∃p ys,xs=[.ref p]/\(ir X.K H p ys\/jG X.K H p ys)/\Q (.int ys.length) H):=by
 intro ι S H ds vs Q rep r c
 match ds,r,c with
 |[.lst k],r,c=>
  obtain⟨v,ws,rfl,W,Y⟩:=r.cons_inv;cases Y.nil_inv;obtain⟨p,rfl,Z⟩:=W.lst_inv;obtain⟨es,us,_,T,U,R⟩:=a7 c rep Z;refine⟨p,us,rfl,.inl (.of T),?_⟩;have:=ah R .refl rep _ (.int _);rw[U.length]at this;exact this
 |[.tup es],r,c=>
  obtain⟨v,ws,rfl,W,Y⟩:=r.cons_inv;cases Y.nil_inv;obtain⟨p,us,rfl,Z,U⟩:=W.tup_inv;refine⟨p,us,rfl,.inr (.of Z),?_⟩;have:=ah c .refl rep _ (.int _);rw[U.length]at this;exact this
 |[.ro es],r,c=>
  obtain⟨v,ws,rfl,W,Y⟩:=r.cons_inv;cases Y.nil_inv;obtain⟨p,us,rfl,Z,U⟩:=W.ro_inv;refine⟨p,us,rfl,.inl Z.sq,?_⟩;have:=ah c .refl rep _ (.int _);rw[U.length]at this;exact this
 |[.fz es],r,c=>
  obtain⟨v,ws,rfl,W,Y⟩:=r.cons_inv;cases Y.nil_inv;obtain⟨p,o,us,rfl,Z,U⟩:=W.fz_inv;refine⟨p,us,rfl,.inl (.inl (.inr ⟨o,Z⟩)),?_⟩;have:=ah c .refl rep _ (.int _);rw[U.length]at this;exact this
 |[],r,c=>exact(af c).elim
 |[.non],r,c=>exact(af c).elim
 |[.bl _],r,c=>exact(af c).elim
 |[.int _],r,c=>exact(af c).elim
 |[.str _],r,c=>exact(af c).elim
 |[.emp],r,c=>exact(af c).elim
 |d::d2::r',r,c=>cases d<;>exact(af c).elim
theorem kI(Z:X.mg "len"=none)(W:SE X E e m)(Y:Gl X "len":=by rfl)(hs:d_ [e] X.env=[(dt,f' e X.env)]:=by rfl):SE X E (.Call (.Name "len" p) [e] [] pos) (λρ=>do let ds<-(do let x<-m ρ;let xs<-a_ [];a_ (x::xs));jq ds):=
 gC qe xa Y Z PySem.boot_len (ag W ao hs) (by decide) (by decide) hs rfl
def vz(f:Int->Int->Int):List D->M D
 |[.int i,.int j]=>a_ (.int (f i j))
 |_=>M.fail
theorem m3{f:Int->Int->Int}:ib X.K E (vz f) (λxs H Q=>∃i j,xs=[.int i,.int j]/\Q (.int (f i j)) H):=by
 intro ι S H ds vs Q rep r c;unfold vz at c;split at c
 ·next i j=>
  obtain⟨v,ws,rfl,W,Y⟩:=r.cons_inv;obtain⟨R,U,rfl,T,Z⟩:=Y.cons_inv;cases Z.nil_inv;rw[W.int_inv,T.int_inv];exact⟨i,j,rfl,ah c .refl rep _ (.int _)⟩
 ·exact(af c).elim
def maxD:List D->M D:=vz λi j=>if j>i then j else i
def minD:List D->M D:=vz λi j=>if j<i then j else i
theorem ud(Y:X.calm=dr)(W:X.mg "max"=none)(T:SA X E [a,b] ms)(U:Gl X "max":=by rfl)(hs:d_ [a,b] X.env=[(dt,f' a X.env),(dt,f' b X.env)]:=by rfl)(Z:d_ [b] X.env=[(dt,f' b X.env)]:=by rfl):
  SE X E (.Call (.Name "max" p) [a,b] [] pos) (λρ=>do let ds<-ms ρ;maxD ds):=
 gC (wO Y) m3 U W (by decide+kernel) T (by decide) (by decide) (by rw[hs,Z]) (by rw[Z];rfl)
theorem yW(Y:X.calm=dr)(W:X.mg "min"=none)(T:SA X E [a,b] ms)(U:Gl X "min":=by rfl)(hs:d_ [a,b] X.env=[(dt,f' a X.env),(dt,f' b X.env)]:=by rfl)(Z:d_ [b] X.env=[(dt,f' b X.env)]:=by rfl):
  SE X E (.Call (.Name "min" p) [a,b] [] pos) (λρ=>do let ds<-ms ρ;minD ds):=
 gC (wQ Y) m3 U W (by decide+kernel) T (by decide) (by decide) (by rw[hs,Z]) (by rw[Z];rfl)
def px:List D->M D
 |[.lst k]=>do let xs<-getL k;a8 xs
 |[.tup ds]=>a8 ds
 |[.ro ds]=>a8 ds
 |[.fz ds]=>a8 ds
 |_=>M.fail
def dw:List D->M D
 |[.lst k]=>do let xs<-getL k;cq xs
 |[.tup ds]=>cq ds
 |[.fz ds]=>cq ds
 |_=>M.fail
theorem ue:ib X.K E px (λxs H Q=>∃p ys,xs=[.ref p]/\(ir X.K H p ys\/jG X.K H p ys)/\∀l,H l=none->Q (.ref l) (upd H l (.lst ys))):=by
 intro ι S H ds vs Q rep r c;unfold px at c;split at c
 ·next k=>
  obtain⟨v,ws,rfl,W,Y⟩:=r.cons_inv;cases Y.nil_inv;obtain⟨p,rfl,Z⟩:=W.lst_inv;obtain⟨es,us,_,T,U,R⟩:=a7 c rep Z;exact⟨p,us,rfl,.inl (.of T),(ba R rep U).2⟩
 ·next es=>
  obtain⟨v,ws,rfl,W,Y⟩:=r.cons_inv;cases Y.nil_inv;obtain⟨p,us,rfl,Z,U⟩:=W.tup_inv;exact⟨p,us,rfl,.inr (.of Z),(ba c rep U).2⟩
 ·next es=>
  obtain⟨v,ws,rfl,W,Y⟩:=r.cons_inv;cases Y.nil_inv;obtain⟨p,us,rfl,Z,U⟩:=W.ro_inv;exact⟨p,us,rfl,.inl Z.sq,(ba c rep U).2⟩
 ·next es=>
  obtain⟨v,ws,rfl,W,Y⟩:=r.cons_inv;cases Y.nil_inv;obtain⟨p,o,us,rfl,Z,U⟩:=W.fz_inv;exact⟨p,us,rfl,.inl (.inl (.inr ⟨o,Z⟩)),(ba c rep U).2⟩
 ·exact(af c).elim
theorem se:ib X.K E dw (λxs H Q=>∃p ys,xs=[.ref p]/\((ir X.K H p ys/\∀l,H l=none->Q (.ref l) (upd H l (.tup ys)))\/(jG X.K H p ys/\Q (.ref p) H))):=by
 intro ι S H ds vs Q rep r c;unfold dw at c;split at c
 ·next k=>
  obtain⟨v,ws,rfl,W,Y⟩:=r.cons_inv;cases Y.nil_inv;obtain⟨p,rfl,Z⟩:=W.lst_inv;obtain⟨es,us,_,T,U,R⟩:=a7 c rep Z;exact⟨p,us,rfl,.inl ⟨.of T,(d4 R rep U).2⟩⟩
 ·next es=>
  obtain⟨v,ws,rfl,W,Y⟩:=r.cons_inv;cases Y.nil_inv;obtain⟨p,us,rfl,Z,U⟩:=W.tup_inv;exact⟨p,us,rfl,.inr ⟨.of Z,gS c rep Z U⟩⟩
 ·next es=>
  obtain⟨v,ws,rfl,W,Y⟩:=r.cons_inv;cases Y.nil_inv;obtain⟨p,o,us,rfl,Z,U⟩:=W.fz_inv;exact⟨p,us,rfl,.inl ⟨.inl (.inr ⟨o,Z⟩),(d4 c rep U).2⟩⟩
 ·exact(af c).elim
theorem BR(Z:X.mg "list"=none)(W:SE X E e m)(Y:Gl X "list":=by rfl)(hs:d_ [e] X.env=[(dt,f' e X.env)]:=by rfl):SE X E (.Call (.Name "list" p) [e] [] pos) (λρ=>do let ds<-(do let x<-m ρ;let xs<-a_ [];a_ (x::xs));px ds):=
 iV qg ue Y Z (by decide+kernel) (ag W ao hs) (by decide) (by decide) hs rfl
theorem iF(Z:X.mg "tuple"=none)(W:SE X E e m)(Y:Gl X "tuple":=by rfl)(hs:d_ [e] X.env=[(dt,f' e X.env)]:=by rfl):SE X E (.Call (.Name "tuple" p) [e] [] pos) (λρ=>do let ds<-(do let x<-m ρ;let xs<-a_ [];a_ (x::xs));dw ds):=
 iV oB se Y Z (by decide+kernel) (ag W ao hs) (by decide) (by decide) hs rfl
def gF:List D->M D
 |[.int i]=>if i.natAbs.log2<1920 then a_ (.str (EW i))else M.fail
 |_=>M.fail
theorem xb:ib X.K E gF (λxs H Q=>∃i,xs=[.int i]/\i.natAbs.log2<1920/\Q (.str (EW i)) H):=by
 intro ι S H ds vs Q rep r c;unfold gF at c;split at c
 ·next i=>
  obtain⟨v,ws,rfl,Y,Z⟩:=r.cons_inv;cases Z.nil_inv;rw[Y.int_inv];split at c
  ·next h=>exact⟨i,rfl,h,ah c .refl rep _ (.str _)⟩
  ·exact(af c).elim
 ·exact(af c).elim
theorem qy(Z:X.mg "str"=none)(W:SE X E e m)(Y:Gl X "str":=by rfl)(hs:d_ [e] X.env=[(dt,f' e X.env)]:=by rfl):SE X E (.Call (.Name "str" p) [e] [] pos) (λρ=>do let ds<-(do let x<-m ρ;let xs<-a_ [];a_ (x::xs));gF ds):=
 iV qb xb Y Z (by decide+kernel) (ag W ao hs) (by decide) (by decide) hs rfl
def BS(H:Hp):V->Option String
 | .non=>ar "NoneType"
 | .bl _=>ar "bool"
 | .int _=>ar "int"
 | .str _=>ar "str"
 | .ref a=>match H a with
  |some (.lst _)=>ar "list"
  |some (.frz _ (.lst _))=>ar "list"
  |some (.tup _)=>ar "tuple"
  |some (.dK _)=>ar "dict"
  |_=>none
 |_=>none
theorem yX{K:dV}{H:Hp}{v:V}{T:String}(h:BS H v=ar T):TyOf K H v (.type T):=by
 cases v with
 |non=>cases h;exact .non
 |bl b=>cases h;exact .bl b
 |int i=>cases h;exact .int i
 |str x=>cases h;exact .str x
 |ref a=>
  simp only[BS]at h;split at h
  ·next q=>cases h;exact .lst q
  ·next q=>cases h;exact .frz q
  ·next q=>cases h;exact .tup q
  ·next q=>cases h;exact .dK q
  ·cases h
 |_=>cases h
def yY:D->String
 | .non=>"NoneType"
 | .bl _=>"bool"
 | .int _=>"int"
 | .str _=>"str"
 | .tup _=>"tuple"
 | .lst _=>"list"
 | .ro _=>"list"
 | .fz _=>"list"
 | .emp=>"dict"
 | .fn _ _ _ _ _=>"NoneType"
 | .exc _ _=>"NoneType"
def El:D->Bool
 | .ro _=>dt
 | .fn _ _ _ _ _=>dt
 | .exc _ _=>dt
 |_=>dr
theorem yZ{K:dV}{ι:List c_}{S:aw}{H:Hp}{d:D}{v:V}(Y:Rep K ι H S)(r:RelD K ι H d v)(Z:El d=dr):BS H v=ar (yY d):=by
 cases r with
 |non=>rfl
 |bl=>rfl
 |int=>rfl
 |str=>rfl
 |tup h _=>simp[BS,h,yY]
 |lst h=>
  obtain⟨vs,e⟩:=Y.isL (JV h);simp[BS,e,yY]
 |ro h _=>cases Z
 |fz h _=>simp[BS,h,yY]
 |emp h=>simp[BS,h,yY]
 |fn=>cases Z
 |exc=>cases Z
 |excF=>cases Z
def y0(f:String->Bool):D->M D
 | .ro _=>M.fail
 | .fn _ _ _ _ _=>M.fail
 | .exc _ _=>M.fail
 |d=>a_ (.bl (f (yY d)))
theorem sf{K:dV}{E:XD}{ι:List c_}{S:aw}{H:Hp}{f:String->Bool}{d:D}{Q:D->List c_->aw->Hp->Prop}(c:cont K E (y0 f d) ι S H Q):El d=dr/\cont K E (a_ (.bl (f (yY d)))) ι S H Q:=by
 cases d with
 |ro ds=>exact(af c).elim
 |fn a c' q ds vs=>exact(af c).elim
 |exc x ds=>exact(af c).elim
 |_=>exact⟨rfl,c⟩
def gG(t T:String):Bool:=t==T||(t=="bool" && T=="int")
theorem qz(K:dV)(t:String)(Z:t∈["NoneType","bool","int","str","tuple","list","dict"])(T:String)(Y:T∈["bool","int","str","tuple","list"]):n3 K (.type t) (.type T)=ar (gG t T):=by simp only[gc,fb,or_false]at Z Y;rcases Z with rfl|rfl|rfl|rfl|rfl|rfl|rfl<;>rcases Y with rfl|rfl|rfl|rfl|rfl<;>rfl
theorem vA(d:D):yY d∈["NoneType","bool","int","str","tuple","list","dict"]:=by cases d<;>simp[yY]
theorem y7:b9 X (.builtin "isinstance") (λxs H Q=>∃x t T,xs=[x,.ty T]/\BS H x=ar t/\t∈["NoneType","bool","int","str","tuple","list","dict"]/\T∈["bool","int","str","tuple","list"]/\Q (.bl (gG t T)) H):=by intro pins s σ H xs us Q I r h;obtain⟨x,t,T,rfl,U,W,Y,q⟩:=h;obtain⟨u,R,rfl,P,Z⟩:=vals2 r;cases (show R=t_ T from Z);exact wV I P (yX U) (qz X.K t W T Y) λS=>⟨.bl _,H,I.tok S,rfl,q⟩
theorem fA{p q:Pos}{T:Str}{Ts:String}(I:X.mg "isinstance"=none)(W:X.mg T=none)(N:SE X E e m)(L:j3 T=ar (.type Ts):=by decide+kernel)(R:Ts∈["bool","int","str","tuple","list"]:=by decide)(K:Gl X "isinstance":=by rfl)(Y:Gl X T:=by rfl)
  (O:T≠"__name__":=by decide) (U:(T==("__debug__":Str))=false:=by decide)
  (hs:d_ [e,.Name T q] X.env=[(dt,f' e X.env),(dt,f' (.Name T q) X.env)]:=by rfl) (Z:d_ [.Name T q] X.env=[(dt,f' (.Name T q) X.env)]:=by rfl):
  SE X E (.Call (.Name "isinstance" p) [e,.Name T q] [] pos) (λρ=>do let x<-m ρ;y0 (λt=>gG t Ts) x):=by
 refine PE.imp (iu y7 K I (by decide+kernel) (dD N (dD (lY Y W L (v:=.ty Ts) rfl O U) jh Z) (by rw[hs,Z])) (by decide) (by decide) (by rw[hs,Z]) (by rw[Z];rfl)) λσ H Q h=>?_;obtain⟨ι,S,ρ,rep,re,c⟩:=h;refine⟨ι,S,ρ,rep,re,aj (ai c) λx J S1 G e1 rep1 P v r=>?_⟩;obtain⟨U,P⟩:=sf P;exact⟨v,yY x,Ts,rfl,yZ rep1 r U,vA x,R,ah P .refl rep1 _ (.bl _)⟩
theorem xc:b9 X (.builtin "isinstance") (λxs H Q=>∃x t p T U,xs=[x,.ref p]/\H p=ar (.tup [.ty T,.ty U])/\BS H x=ar t/\t∈["NoneType","bool","int","str","tuple","list","dict"]/\T∈["bool","int","str","tuple","list"]/\U∈["bool","int","str","tuple","list"]/\
  Q (.bl (gG t T||gG t U)) H):=by
 intro pins s σ H xs us Q I r h;obtain⟨x,t,p,T,U,rfl,F,Z,R,C,A,q⟩:=h;obtain⟨u,G,rfl,S,P⟩:=vals2 r;cases (show G=eg p from P);obtain⟨_,its,v,⟨cls,dd,data,j⟩,Y,N,n,hd⟩:=(show aW X.prog X.w H s.heap p (.tup [.ty T,.ty U])from I.hok p _ F);simp only at N hd;subst N hd;obtain⟨L,B,rfl,J,k⟩:=vals2 v;cases (show L=t_ T from J);cases (show B=t_ U from k);have e:N4 X.K (.type t) [.type T,.type U]=ar (gG t T||gG t U):=by unfold N4 N4 N4;rw[qz X.K t R T C,qz X.K t R U A];cases gG t T<;>cases gG t U<;>rfl
 have fin:∀O,EP X pins σ Q (.bool (gG t T||gG t U)) {s with toks:=O}:=λO=>⟨.bl _,H,I.tok O,rfl,q⟩;have ty:=yX (K:=X.K) Z;generalize hT:t_ t=tv at ty e;cases ty with
 |non=>cases (show u=gg from S);exact Kv MH I.kIn mu Y e (λz=>nomatch z) fin
 |bl y=>cases (show u=p4 y from S);exact Kv W.kitx_bool I.kIn mu Y e (λz=>nomatch z) fin
 |int i=>obtain⟨t,q⟩:=(show ∃t,u=ly i t from S);cases q;exact Kv W.kitx_int I.kIn mu Y e (λz=>nomatch z) fin
 |str y=>obtain⟨t,q⟩:=(show ∃t,u=kS y t from S);cases q;exact Kv W.kitx_str I.kIn mu Y e (λz=>nomatch z) fin
 |flt y=>obtain⟨t,q⟩:=(show ∃t,u=M7 y t from S);cases q;exact Kv W.kitx_float I.kIn mu Y e (λz=>nomatch z) fin
 | @lst a xs ea=>
  cases (show u=eg a from S);obtain⟨_,_,n,_,Z⟩:=(show aW X.prog X.w H s.heap a (.lst xs)from I.hok a _ ea);exact Kv LP I.kIn ⟨_,Z,rfl⟩ Y e (λz=>nomatch z) fin
 | @frz a ob xs ea=>
  cases (show u=eg a from S);obtain⟨_,_,_,n,_,Z⟩:=(show aW X.prog X.w H s.heap a (.frz ob (.lst xs))from I.hok a _ ea);exact Kv LP I.kIn ⟨_,Z,rfl⟩ Y e (λz=>nomatch z) fin
 | @tup a xs ea=>
  cases (show u=eg a from S);obtain⟨_,_,_,o,Z,R,_⟩:=(show aW X.prog X.w H s.heap a (.tup xs)from I.hok a _ ea);exact Kv W.kitx_tuple I.kIn ⟨o,Z,R⟩ Y e (λz=>nomatch z) fin
 | @dK a kvs ea=>
  cases (show u=eg a from S);obtain⟨_,_,vs,_,o,es,ep,Z,R,_⟩:=(show aW X.prog X.w H s.heap a (.dK kvs)from I.hok a _ ea);exact Kv LQ I.kIn ⟨o,Z,R.1⟩ Y e (λz=>nomatch z) fin
 | @dT a kvs ea=>
  cases (show u=eg a from S);obtain⟨_,_,xs,_,o,es,ep,Z,R,_⟩:=(show aW X.prog X.w H s.heap a (.dT kvs)from I.hok a _ ea);exact Kv LQ I.kIn ⟨o,Z,R.1⟩ Y e (λz=>nomatch z) fin
 |ins=>cases hT
theorem BU{p q Y R:Pos}{x1}{T U:Str}{Ts Us:String}(k:X.mg "isinstance"=none)(J:X.mg T=none)(B:X.mg U=none)(u:SE X E e m)(y:j3 T=ar (.type Ts):=by decide+kernel)(I:j3 U=ar (.type Us):=by decide+kernel)
  (G:Ts∈["bool","int","str","tuple","list"]:=by decide) (P:Us∈["bool","int","str","tuple","list"]:=by decide) (s:Gl X "isinstance":=by rfl) (K:Gl X T:=by rfl) (O:Gl X U:=by rfl)
  (w:T≠"__name__":=by decide) (N:(T==("__debug__":Str))=false:=by decide) (C:U≠"__name__":=by decide) (F:(U==("__debug__":Str))=false:=by decide)
  (hs:d_ [e,.Tuple [.Name T q,.Name U Y] x1 R] X.env=[(dt,f' e X.env),(dt,f' (.Tuple [.Name T q,.Name U Y] x1 R) X.env)]:=by rfl) (Z:d_ [.Tuple [.Name T q,.Name U Y] x1 R] X.env=[(dt,f' (.Tuple [.Name T q,.Name U Y] x1 R) X.env)]:=by rfl):
  SE X E (.Call (.Name "isinstance" p) [e,.Tuple [.Name T q,.Name U Y] x1 R] [] pos) (λρ=>do let x<-m ρ;y0 (λt=>gG t Ts||gG t Us) x):=by
 refine PE.imp (iu xc s k (by decide+kernel) (dD u (dD (yt (dD (lY K J y (v:=.ty Ts) rfl w N) (dD (lY O B I (v:=.ty Us) rfl C F) jh rfl) rfl)) jh Z) (by rw[hs,Z])) (by decide) (by decide) (by rw[hs,Z]) (by rw[Z];rfl)) λσ H Q h=>?_;obtain⟨ι,S,ρ,rep,re,c⟩:=h;refine⟨ι,S,ρ,rep,re,aj (ai c) λx W S1 z e1 rep1 L v r=>?_⟩;obtain⟨N,L⟩:=sf L;refine⟨by show 2<=sizeLine;decide,λp A=>?_⟩;have rep2:=fP (o:=.tup [.ty Ts,.ty Us]) rep1 A;have e2:Ext W z W (upd z p (.tup [.ty Ts,.ty Us])):=eh A;exact⟨v,yY x,p,Ts,Us,rfl,aU,yZ rep2 (r.later rep1 e2) N,vA x,G,P,ah L e2 rep2 _ (.bl _)⟩
end
section
variable {X:Cx}{E:XD}{a b e c o tg:Expr}{m n l:TM}{pos p2:Pos}{es:List Expr}{ms:aB->M (List D)}
theorem range_all{bs:List Bool}:(e_ bs.length).all (λi=>bs.getD i dt)=bs.all id:=by
 induction bs with
 |nil=>rfl
 |cons b bs ih=>
  rw[JR,List.range_succ_eq_map,Nr,Mv];simp only[List.getD_cons_zero,Nr,id];congr 1
theorem xf(O:X.calm=dr):b9 X (.builtin "all") (λxs H Q=>∃(p:c_) (bs:List Bool),xs=[.ref p]/\ir X.K H p (bs.map V.bl)/\Q (.bl (bs.all id)) H):=by
 intro pins s σ H xs us Q I r h;obtain⟨p,bs,rfl,L,q⟩:=h;obtain⟨u,rfl,J⟩:=vals1 r;cases (show u=eg p from J);obtain⟨its,R,P,z⟩:=I.list L;have W:=P.isList;refine call_all_walk (MG W ?_);have T:p<s.heap.objs.size:=by obtain⟨o,G,_⟩:=W;exact JC G
 have hlen:=R.length;refine⟨s.heap.objs.size,_,_,_,_,_,λi=>bs.getD i dt,rfl,Walks.list (A:=X.A.in1) (by show X.A.handled=none;exact I.ok.hd O) s.heap.objs.size p (JK T) its.toArray,⟨⟨_,JD _ rfl,rfl,rfl⟩,W.push _⟩,?_,λh' x C=>?_⟩
 ·intro i v s' B y N U;have Z:its[i]? =ar v:=by simpa using N
  have w:i<its.length:=(Jz.mp Z).1;have Y:i<bs.length:=by rw[Jy]at hlen;omega
  have:(bs.map V.bl)[i]? =ar (.bl bs[i]):=by rw[JP,JB Y];rfl
  obtain⟨u,S,F⟩:=R.get this;rw[Z]at S;cases S;cases (show v=p4 bs[i]from F);have:bs.getD i dt=bs[i]:=by simp[List.getD,Y]
  dsimp only at U;rw[this]at U;exact Ky U
 ·have e1:its.toArray.size=bs.length:=by rw[JH, <-hlen,Jy]
  rw[e1,range_all];refine⟨.bl _,H,I.kept (λb o e=>C b o ?_ (Jv _ e)),rfl,q⟩;have:b≠s.heap.objs.size:=JK (JC e);simpa using this
def boolsOf:List D->Option (List Bool)
 |[]=>ar []
 | .bl i::r=>(boolsOf r).map (i::·)
 |_=>none
theorem iG{K:dV}{ι:List c_}{H:Hp}:∀{ds:List D} {vs:List V} {ns:List Bool},RelDs K ι H ds vs->boolsOf ds=ar ns->vs=ns.map V.bl
 |[],vs,ns,h,e=>by cases e;rw[h.nil_inv];rfl
 | .bl i::ds,vs,ns,h,e=>by
  obtain⟨v,ws,rfl,Y,Z⟩:=h.cons_inv;cases q:boolsOf ds with
  |none=>simp[boolsOf,q]at e
  |some ks=>
   simp[boolsOf,q]at e;subst e;rw[Y.bl_inv,iG Z q];rfl
 | .non::_,_,_,_,e=>by cases e
 | .int _::_,_,_,_,e=>by cases e
 | .str _::_,_,_,_,e=>by cases e
 | .tup _::_,_,_,_,e=>by cases e
 | .lst _::_,_,_,_,e=>by cases e
 | .ro _::_,_,_,_,e=>by cases e
 | .fz _::_,_,_,_,e=>by cases e
 | .emp::_,_,_,_,e=>by cases e
def m4:List D->M D
 |[.lst k]=>do
  let xs<-getL k
  match boolsOf xs with
  |some bs=>a_ (.bl (bs.all id))
  |none=>M.fail
 |[.fz xs]=>match boolsOf xs with
  |some bs=>a_ (.bl (bs.all id))
  |none=>M.fail
 |_=>M.fail
theorem xg:ib X.K E m4 (λxs H Q=>∃(p:c_) (bs:List Bool),xs=[.ref p]/\ir X.K H p (bs.map V.bl)/\Q (.bl (bs.all id)) H):=by
 intro ι S H ds vs Q rep r c;unfold m4 at c;split at c
 ·next k=>
  obtain⟨v,ws,rfl,U,W⟩:=r.cons_inv;cases W.nil_inv;obtain⟨p,rfl,Y⟩:=U.lst_inv;obtain⟨es,us,_,R,T,Z⟩:=a7 c rep Y;cases q:boolsOf es with
  |none=>rw[q]at Z;exact(af Z).elim
  |some bs=>
   rw[q]at Z;refine⟨p,bs,rfl,.of ?_,ah Z .refl rep _ (.bl _)⟩;rw[<-iG T q];exact R
 ·next es=>
  obtain⟨v,ws,rfl,U,W⟩:=r.cons_inv;cases W.nil_inv;obtain⟨p,o,us,rfl,Y,T⟩:=U.fz_inv;cases q:boolsOf es with
  |none=>rw[q]at c;exact(af c).elim
  |some bs=>
   rw[q]at c;refine⟨p,bs,rfl,.inl (.inr ⟨o,?_⟩),ah c .refl rep _ (.bl _)⟩;rw[<-iG T q];exact Y
 ·exact(af c).elim
theorem qA(Z:X.calm=dr)(Y:X.mg "all"=none)(U:SE X E e m)(W:Gl X "all":=by rfl)(hs:d_ [e] X.env=[(dt,f' e X.env)]:=by rfl):SE X E (.Call (.Name "all" p) [e] [] pos) (λρ=>do let ds<-(do let x<-m ρ;let xs<-a_ [];a_ (x::xs));m4 ds):=
 gC (xf Z) xg W Y (by decide+kernel) (ag U ao hs) (by decide) (by decide) hs rfl
def b8:D->List D->M D
 | .lst k,[d]=>do let xs<-getL k;jR k (xs++[d])
 |_,_=>M.fail
def jX:D->List D->M D
 | .lst k,[.lst j]=>do let xs<-getL k;let ys<-getL j;jR k (xs++ys)
 | .lst k,[.fz ys]=>do let xs<-getL k;jR k (xs++ys)
 |_,_=>M.fail
def kJ:D->List D->M D
 | .lst k,[.int i]=>do
  let xs<-getL k
  if 0<=i/\i<xs.length then
   match xs[i.toNat]? with
   |some y=>do let _<-jR k (xs.eraseIdx i.toNat);a_ y
   |none=>M.fail
  else M.fail
 |_,_=>M.fail
theorem y8{K:dV}{H:Hp}{p:c_}{xs:List V}(h:H p=ar (.lst xs)):Im K "list" (.ref p) H:=.inl ⟨rfl,xs,.of h⟩
def Em:D->M Unit
 | .lst _=>a_ ()
 |_=>M.fail
theorem qB{name:Str}{O:String}{f:D->List D->M D}{r:V->List V->Hp->VK->Prop}{Y:Pos}(T:Slot "list" name O)(N:OF (.builtin O)=a_ (.type "method_descriptor"))(B:D5 X O r)
  (C:C7 X.K E f r) (u:SE X E o m) (y:SA X E (e::es) ms)
  (U:i1 o name X.env (f' o X.env)=f' o X.env:=by rfl)
  (R:((p_ pos (d_ (e::es) X.env)).all (λx=> !x.1) && (backToKw pos (keywordEach [] X.env)).all (λx=>x.1.isSome)
   && decide ((e::es).length+([]:List NS).length+(if ([]:List NS).isEmpty then 0 else 1)<30))=true:=by rfl)
  (W:(Y.endLine==pos.line)=true:=by rfl) (hs:d_ (e::es) X.env=(dt,f' e X.env)::d_ es X.env:=by rfl) (Z:(p_ pos (d_ es X.env)).any (·.1)=false:=by rfl):
  SE X E (.Call (.Attribute o name Y) (e::es) [] pos) (λρ=>do let x<-m ρ;Em x;let ds<-ms ρ;f x ds):=by
 refine PE.imp (C3 PySem.F.plainAttrs_list T N B u y U R W hs Z) λσ H Q h=>?_;obtain⟨ι,S,ρ,rep,re,c⟩:=h;refine⟨ι,S,ρ,rep,re,aj (ai c) λx P S1 q e1 rep1 J v I=>?_⟩;cases x with
 |lst k=>
  obtain⟨p,rfl,t⟩:=I.lst_inv;obtain⟨vs,G⟩:=rep1.isL (JV t);have w:=ah (ai J) .refl rep1;exact⟨y8 G,P,S1,ρ,rep1,re.later rep e1,aj (ai w) λds L S2 z e2 rep2 s vs A=>C L S2 z (.lst k) ds (.ref p) vs Q rep2 (I.later rep1 e2) A s⟩
 |_=>exact(af (ai J)).elim
theorem uf:C7 X.K E b8 vm:=by
 intro ι S H d ds v vs Q rep r rs c;unfold b8 at c;split at c
 ·next k d=>
  obtain⟨p,rfl,Y⟩:=r.lst_inv;obtain⟨w,ws,rfl,R,T⟩:=rs.cons_inv;cases T.nil_inv;obtain⟨es,us,_,W,P,O⟩:=a7 c rep Y;obtain⟨Z,U⟩:=gz O rep Y (P.append (.cons R .nil));rw[JA]at Z;exact⟨p,us,w,rfl,rfl,W,JI (by simp at Z;omega) dZ,U _ .non⟩
 ·exact(af c).elim
def sg:V->List V->Hp->VK->Prop:=λx vs H Q=>∃l b xs zs,x= .ref l/\vs=[.ref b]/\H l=ar (.lst xs)/\Rd H b (.lst zs)/\xs.length+zs.length<=sizeLine/\Q .non (upd H l (.lst (xs++zs)))
theorem ug:D5 X "list.extend" sg:=by
 intro pins s σ H x vs v us Q I R P h;obtain⟨l,b,xs,zs,rfl,rfl,U,T,J,q⟩:=h;cases R;obtain⟨u,rfl,L⟩:=P.one;cases L;obtain⟨z,its,n,r,K,e⟩:=I.lstM U;obtain⟨G,Z,O,S,N,e2⟩:=Inv.lstR I T;have W:its.toArray.size+Z.toArray.size<=sizeLine:=by rw[JH,JH];omega
 have Y:¬ (!its.toArray.isEmpty && r_ (its.toArray.size+Z.toArray.size))=true:=by rw[yA W,MB];exact KI
 refine LS F.slot_list_extend ⟨_,e,rfl⟩ F.entry_list_extend (F.args_list_extend_2 _ _)
  (AutoSeq1.list_extend_list_list_0 l its.toArray n b Z.toArray O Y (by rw[JH];omega) (by omega)) ⟨e,e2,?_⟩
 refine⟨.non,_,I.lset (its':=its++Z) U e (by simp) (r.append S) ?_,rfl,q⟩;rw[JA];omega
theorem uh:C7 X.K E jX sg:=by
 intro ι S H d ds v vs Q rep r rs c;unfold jX at c;split at c
 ·next k j=>
  obtain⟨p,rfl,Y⟩:=r.lst_inv;obtain⟨w,ws,rfl,O,P⟩:=rs.cons_inv;cases P.nil_inv;obtain⟨q,rfl,W⟩:=O.lst_inv;obtain⟨es,us,_,U,N,L⟩:=a7 c rep Y;obtain⟨I,ys,_,G,T,J⟩:=a7 L rep W;obtain⟨Z,R⟩:=gz J rep Y (N.append T);rw[JA]at Z;exact⟨p,q,us,ys,rfl,rfl,U,.inl G,JG Z dZ,R _ .non⟩
 ·next k I=>
  obtain⟨p,rfl,Y⟩:=r.lst_inv;obtain⟨w,ws,rfl,O,P⟩:=rs.cons_inv;cases P.nil_inv;obtain⟨q,o,ys,rfl,W,T⟩:=O.fz_inv;obtain⟨es,us,_,U,N,L⟩:=a7 c rep Y;obtain⟨Z,R⟩:=gz L rep Y (N.append T);rw[JA]at Z;exact⟨p,q,us,ys,rfl,rfl,U,.inr ⟨o,W⟩,JG Z dZ,R _ .non⟩
 ·exact(af c).elim
theorem xh:C7 X.K E kJ yB:=by
 intro ι S H d ds v vs Q rep r rs c;unfold kJ at c;split at c
 ·next k i=>
  obtain⟨p,rfl,W⟩:=r.lst_inv;obtain⟨w,ws,rfl,F,G⟩:=rs.cons_inv;cases G.nil_inv;rw[F.int_inv];obtain⟨es,us,I,J,P,Z⟩:=a7 c rep W;split at Z
  ·next hb=>
   cases q:es[i.toNat]? with
   |none=>rw[q]at Z;exact(af Z).elim
   | some y=>
    rw[q]at Z;obtain⟨L,U,T⟩:=P.get' q;have hlen:=P.length;have N:Ext ι H ι (upd H p (.lst (us.eraseIdx i.toNat))):=qp (JV W);have Y:=RelDs.eraseIdx i.toNat P;have O:=gz (ai Z) rep W Y;have R:us.length<=lim+1:=by have:=O.1;rw[List.length_eraseIdx]at this;split at this<;>omega
    refine⟨p,us,i,i.toNat,L,rfl,rfl,J,by omega,by unfold lim at R;omega,?_,U,?_⟩
    ·unfold NI;simp only[show ¬ i<0 by omega,if_false];first|(rw[if_pos (by omega)])|(rw[if_pos (by simp;omega)])|(simp;omega)
    ·exact ah O.2 .refl (qr rep W Y) _ (T.later rep N)
  ·exact(af Z).elim
 ·exact(af c).elim
theorem gH{Z:Pos}(T:SE X E o m)(U:SE X E e n)
  (Y:i1 o "append" X.env (f' o X.env)=f' o X.env:=by rfl)
  (W:(Z.endLine==pos.line)=true:=by rfl) (hs:d_ [e] X.env=[(dt,f' e X.env)]:=by rfl):
  SE X E (.Call (.Attribute o "append" Z) [e] [] pos) (λρ=>do let x<-m ρ;Em x;let ds<-(do let y<-n ρ;let ys<-a_ [];a_ (y::ys));b8 x ds):=
 qB PySem.F.slot_list_append PySem.F.type_list_append o9 uf T (ag U ao hs) Y (by rw[hs];rfl) W hs rfl
theorem xi{Z:Pos}(T:SE X E o m)(U:SE X E e n)
  (Y:i1 o "extend" X.env (f' o X.env)=f' o X.env:=by rfl)
  (W:(Z.endLine==pos.line)=true:=by rfl) (hs:d_ [e] X.env=[(dt,f' e X.env)]:=by rfl):
  SE X E (.Call (.Attribute o "extend" Z) [e] [] pos) (λρ=>do let x<-m ρ;Em x;let ds<-(do let y<-n ρ;let ys<-a_ [];a_ (y::ys));jX x ds):=
 qB PySem.F.slot_list_extend PySem.F.type_list_extend ug uh T (ag U ao hs) Y (by rw[hs];rfl) W hs rfl
theorem y9{Z:Pos}(T:SE X E o m)(U:SE X E e n)
  (Y:i1 o "pop" X.env (f' o X.env)=f' o X.env:=by rfl)
  (W:(Z.endLine==pos.line)=true:=by rfl) (hs:d_ [e] X.env=[(dt,f' e X.env)]:=by rfl):
  SE X E (.Call (.Attribute o "pop" Z) [e] [] pos) (λρ=>do let x<-m ρ;Em x;let ds<-(do let y<-n ρ;let ys<-a_ [];a_ (y::ys));kJ x ds):=
 qB PySem.F.slot_list_pop PySem.F.type_list_pop yC xh T (ag U ao hs) Y (by rw[hs];rfl) W hs rfl
theorem xj:Ir X.K E iA C1:=by
 intro ι S H G N L v1 v2 I Q rep O P U c;unfold iA at c;split at c
 ·next k j=>
  obtain⟨p,rfl,Y⟩:=O.lst_inv;obtain⟨es,us,_,T,W,Z⟩:=a7 c rep Y;cases q:yd es.length j with
  |none=>rw[q]at Z;exact(af Z).elim
  |some at'=>
   rw[q]at Z;obtain⟨J,R⟩:=gz (ai Z) rep Y (RelDs.set U at' W);refine⟨p,us,j,at',rfl,P.int_inv,T,by rw[<-W.length];exact q,?_⟩;exact ah R .refl (qr rep Y (RelDs.set U at' W))
 ·exact(af c).elim
theorem vB(K:SE X E o m)(G:SE X E i n)(O:∀v,M8 (.Subscript o i pos) X.env v=(do
   let ov<-B' [v] (f' o X.env);let iv<-B' [v,ov] (f' i X.env)
   Oj pos
   B' [v,ov,iv] (OL ov iv v)
   release [v,ov,iv] []):=by intro _;rfl):SG X E (.Subscript o i pos) (λd ρ=>do let x<-m ρ;let y<-n ρ;iA x y d;a_ ρ):=by
 refine PG.imp (DM K G set_list O) λv σ H Q h=>?_;obtain⟨ι,S,ρ,d,rep,re,r,c⟩:=h;refine⟨ι,S,ρ,rep,re,aj (ai c) λx Z S1 B e1 rep1 R v1 J=>?_⟩;refine⟨Z,S1,ρ,rep1,re.later rep e1,aj (ai R) λy W S2 P e2 rep2 L v2 T=>?_⟩;have Y:=(re.later rep e1).later rep1 e2;refine xj (E:=E) W S2 P x y d v1 v2 v _ rep2 (J.later rep1 e2) T ((r.later rep e1).later rep1 e2) (aj (ai L) λ_ I C F U rep3 N=>?_);exact ah N .refl rep3 σ (Y.later rep2 U)
def aS(lo:Int)(n:Nat):List D:=(e_ n).map λi=>.int (lo+(i:Nat))
def jr:List D->M Iter
 |[.int j]=>if -(2 ^ 62)<=j/\j<2 ^ 62 then a_ ⟨aS 0 j.toNat,.none⟩else M.fail
 |_=>M.fail
def iX:List D->M Iter
 |[.int i,.int j]=>if -(2 ^ 62)<=i/\i<2 ^ 62/\ -(2 ^ 62)<=j/\j<2 ^ 62 then a_ ⟨aS i (j - i).toNat,.none⟩else M.fail
 |_=>M.fail
theorem jY{K:dV}{Y:Int}{n:Nat}{ι:List c_}{H:Hp}:gf K ⟨aS Y n,.none⟩ (FW Y n) ι H:=by
 intro T Q S2 e rep ok i;refine⟨λd hd=>?_,λh=>?_⟩
 ·have Z:((e_ n)[i]?).map (λi:Nat=>D.int (Y+(i:Nat)))=ar d:=by
   have:(aS Y n)[i]? =ar d:=hd;unfold aS at this;rw[JP]at this;exact this
  have U:i<n:=by
   by_cases h:i<n
   ·exact h
   ·rw[Kj (by simp;omega)]at Z;cases Z
  rw[Lw U]at Z;cases Z;exact⟨U,λx R S=>by obtain⟨rfl,rfl⟩:=S;exact⟨.refl,rep,.int _⟩⟩
 ·have h':(aS Y n).length<=i:=h;unfold aS at h';rw[Jy,Ks]at h';exact h'
theorem iY(Q:X.mg "range"=none)(P:SE X E a m)(Y:Gl X "range":=by rfl)(hs:d_ [a] X.env=[(dt,f' a X.env)]:=by rfl):
  SI X E tg (.Call (.Name "range" p) [a] [] pos) (λρ=>do let ds<-(do let x<-m ρ;let xs<-a_ [];a_ (x::xs));jr ds):=by
 intro pins s σ H R I h;refine wJ Y Q (ag P ao hs) hs pins s σ H R I ?_;obtain⟨ι,S,ρ,rep,re,c⟩:=h;refine⟨ι,S,ρ,rep,re,aj (ai c) λds T S1 O e1 rep1 Z vs r=>?_⟩;unfold jr at Z;split at Z
 ·next j=>
  obtain⟨w,ws,rfl,U,W⟩:=r.cons_inv;cases W.nil_inv;split at Z
  ·next hb=>rw[U.int_inv];exact⟨j,rfl,hb.1,hb.2,ah Z .refl rep1 _ jY⟩
  ·exact(af Z).elim
 ·exact(af Z).elim
theorem pA(K:X.mg "range"=none)(J:SE X E a m)(W:SE X E b n)(T:Gl X "range":=by rfl)(hs:d_ [a,b] X.env=[(dt,f' a X.env),(dt,f' b X.env)]:=by rfl)(Z:d_ [b] X.env=[(dt,f' b X.env)]:=by rfl):
  SI X E tg (.Call (.Name "range" p) [a,b] [] pos) (λρ=>do let ds<-(do let x<-m ρ;let xs<-(do let y<-n ρ;let ys<-a_ [];a_ (y::ys));a_ (x::xs));iX ds):=by
 intro pins s σ H R I h;refine wK T K (ag J (ag W ao Z) (by rw[hs,Z])) hs Z pins s σ H R I ?_;obtain⟨ι,S,ρ,rep,re,c⟩:=h;refine⟨ι,S,ρ,rep,re,aj (ai c) λds N S1 G e1 rep1 Y vs r=>?_⟩;unfold iX at Y;split at Y
 ·next i j=>
  obtain⟨w,ws,rfl,P,Q⟩:=r.cons_inv;obtain⟨F,O,rfl,L,U⟩:=Q.cons_inv;cases U.nil_inv;split at Y
  ·next W=>rw[P.int_inv,L.int_inv];exact⟨i,j,rfl,W,ah Y .refl rep1 _ jY⟩
  ·exact(af Y).elim
 ·exact(af Y).elim
def Gu:D->M Iter
 | .lst k=>do let xs<-getL k;a_ ⟨xs,.some k⟩
 | .tup ds=>a_ ⟨ds,.none⟩
 | .ro ds=>a_ ⟨ds,.none⟩
 | .fz ds=>a_ ⟨ds,.none⟩
 |_=>M.fail
theorem sh{K:dV}{k:Nat}{a:c_}{xs:List D}{ι:List c_}{H:Hp}(R:ι[k]? =ar a):gf K ⟨xs,.some k⟩ (Hn K a) ι H:=by intro Q O S2 e rep ok i;obtain⟨vs,Z,T⟩:=rep.get k a xs (e.at R) ok;refine⟨λd hd=>?_,λh=>⟨vs,.of Z,by rw[<-T.length];exact h⟩⟩;obtain⟨v,U,S⟩:=T.get' hd;refine⟨⟨vs,v,.of Z,U⟩,λx P Y=>?_⟩;obtain⟨rfl,Y⟩:=Y;have:=Y vs (.of Z);rw[U]at this;cases this;exact⟨.refl,rep,S⟩
theorem ui{K:dV}{a:c_}{ds:List D}{vs:List V}{ι:List c_}{S:aw}{H:Hp}(Y:Rep K ι H S)(R:H a=ar (.tup vs))(r:RelDs K ι H ds vs):gf K ⟨ds,.none⟩ (HY K a) ι H:=by intro O L S2 e rep2 ok i;have Z:=(e.oth a _ R (Y.notIn R (by intro _ z;cases z)) (by intro _ z;cases z) (by intro _ z;cases z)).1;have P:=r.laterN Y e;refine⟨λd hd=>?_,λh=>⟨vs,.of Z,by rw[<-r.length];exact h⟩⟩;obtain⟨v,T,Q⟩:=P.get' hd;refine⟨⟨vs,v,.of Z,T⟩,λx N U=>?_⟩;obtain⟨rfl,U⟩:=U;have:=U vs (.of Z);rw[T]at this;cases this;exact⟨.refl,rep2,Q⟩
theorem pB{K:dV}{a:c_}{ds:List D}{vs:List V}{ι:List c_}{S:aw}{H:Hp}(Z:Rep K ι H S)(L:Bi K H a vs)(r:RelDs K ι H ds vs):gf K ⟨ds,.none⟩ (Hn K a) ι H:=by intro N Q S2 e rep2 ok i;have Y:Bi K Q a vs:=L.imp (λ⟨o,h⟩=>⟨o,(e.oth a _ h (Z.notIn h (by intro _ z;cases z)) (by intro _ z;cases z) (by intro _ z;cases z)).1⟩) λz=>z;have O:=r.laterN Z e;have T:ir K Q a vs:=Y.sq;refine⟨λd hd=>?_,λh=>⟨vs,T,by rw[<-r.length];exact h⟩⟩;obtain⟨v,R,P⟩:=O.get' hd;refine⟨⟨vs,v,T,R⟩,λx J U=>?_⟩;obtain⟨rfl,U⟩:=U;have:=U vs T;rw[R]at this;cases this;exact⟨.refl,rep2,P⟩
theorem iH(Q:SE X E e m):SI X E tg e (λρ=>do let x<-m ρ;Gu x):=by
 intro pins s σ H R I h;obtain⟨ι,S,ρ,rep,re,c⟩:=h;obtain⟨r,P,T,k⟩:=id (ai c);cases r with
 |ex x=>
  refine jI Q pins s σ H R I ⟨ι,S,ρ,rep,re,.ex x,P,T,k⟩
 | ok d=>
  cases d with
  |tup ds=>
   refine DQ Q pins s σ H R I ⟨ι,S,ρ,rep,re,.ok (.tup ds),P,T,λZ W e1 rep1 v U=>?_⟩;obtain⟨p,vs,rfl,Y,O⟩:=U.tup_inv;exact⟨p,rfl,⟨vs,.of Y⟩,ah (k Z W e1 rep1) .refl rep1 _ (ui rep1 Y O)⟩
  |lst j=>
   refine jI Q pins s σ H R I ⟨ι,S,ρ,rep,re,.ok (.lst j),P,T,λZ W e1 rep1 v U=>?_⟩;obtain⟨p,rfl,Y⟩:=U.lst_inv;obtain⟨es,us,_,N,K,L⟩:=a7 (k Z W e1 rep1) rep1 Y;exact⟨p,rfl,⟨us,.of N⟩,ah L .refl rep1 _ (sh Y)⟩
  |ro ds=>
   refine jI Q pins s σ H R I ⟨ι,S,ρ,rep,re,.ok (.ro ds),P,T,λZ W e1 rep1 v U=>?_⟩;obtain⟨p,vs,rfl,Y,O⟩:=U.ro_inv;exact⟨p,rfl,⟨vs,Y.sq⟩,ah (k Z W e1 rep1) .refl rep1 _ (pB rep1 Y O)⟩
  |fz ds=>
   refine jI Q pins s σ H R I ⟨ι,S,ρ,rep,re,.ok (.fz ds),P,T,λZ W e1 rep1 v U=>?_⟩;obtain⟨p,o,vs,rfl,Y,O⟩:=U.fz_inv;exact⟨p,rfl,⟨vs,.inl (.inr ⟨o,Y⟩)⟩,ah (k Z W e1 rep1) .refl rep1 _ (pB rep1 (.inl ⟨o,Y⟩) O)⟩
  |_=>exact jI Q pins s σ H R I ⟨ι,S,ρ,rep,re,.ok _,P,T,λZ W e1 rep1 v U=>(af (k Z W e1 rep1)).elim⟩
theorem si:b9 X (.type "range") (λxs H Q=>∃j,xs=[.int j]/\∀p,H p=none->Q (.ref p) (upd H p (.rng 0 j))):=by intro pins s σ H xs us Q I r h;obtain⟨j,rfl,q⟩:=h;obtain⟨u,rfl,Z⟩:=vals1 r;obtain⟨t,rfl⟩:=(show ∃t,u=ly j t from Z);refine call_range_1 ⟨.ref s.heap.objs.size,_,I.laid (o:=.rng 0 j) (λb o e=>Jv _ e) (Jw _) ⟨_,_,_,JD _ rfl⟩,rfl,q _ (I.hok.fresh (Jw _))⟩
theorem oG(S:X.calm=dr):b9 X (.type "list") (λxs H Q=>∃(p:c_) (j:Int),xs=[.ref p]/\H p=ar (.rng 0 j)/\ -(2 ^ 62)<=j/\j<=lim/\∀l,H l=none->Q (.ref l) (upd H l (.lst ((e_ j.toNat).map λi:Nat=>V.int (i:Nat))))):=by
 intro pins s σ H xs us Q I r h;obtain⟨p,j,rfl,R,L,T,q⟩:=h;obtain⟨u,rfl,O⟩:=vals1 r;cases (show u=eg p from O);obtain⟨t,u,v,J⟩:=(show aW X.prog X.w H s.heap p (.rng 0 j)from I.hok p _ R);have U:Builtin.Range.rangeSize 0 j 1=(j.toNat:Int):=by rw[rangeSize_one];split<;>omega
 have Z:j.toNat<=lim:=by omega
 refine call_list_range (I.ok.hd S) J (small_one (by omega) (by omega) L (by unfold lim at T;omega)) U (by unfold lim at Z;omega) λh' K acc P F N hit=>?_;refine⟨.ref s.heap.objs.size,_,I.laid (t':=K) F (Jw _) (o:=.lst ((e_ j.toNat).map λi:Nat=>V.int (i:Nat))) ?_,rfl,q _ (I.hok.fresh (Jw _))⟩;refine⟨by rw[Jy,Ks];exact JG Z dZ,acc.toList,P,?_,by simpa using N⟩;obtain⟨hs,G⟩:=hit;have gen:∀(l:List aC) (f:Nat->Int),(∀i v,l[i]? =ar v->∃t,v=ly (f i) t)->aX ((e_ l.length).map λi:Nat=>V.int (f i)) l:=by
  intro l
  induction l with
  |nil=>intro f _;exact .nil
  |cons x l ih=>
   intro f hf;rw[JR,List.range_succ_eq_map,JQ,J2];obtain⟨t,W⟩:=hf 0 x rfl;refine .cons ⟨t,W⟩ ?_;exact ih (λi=>f (i+1)) λi v Y=>hf (i+1) v (by simpa using Y)
 have:=gen acc.toList (λi=>(i:Int)) λi v Y=>by obtain⟨t,W⟩:=G i v (by simpa using Y);exact⟨t,by rw[W];congr 1;omega⟩
 rw[K6,hs]at this;exact this
def dy:List D->M D
 |[.int j]=>if -(2 ^ 62)<=j/\j<=lim then a8 (aS 0 j.toNat)else M.fail
 |_=>M.fail
theorem m5{K:dV}{ι:List c_}{H:Hp}:∀(l:List Nat),RelDs K ι H (l.map λi:Nat=>D.int (0+(i:Nat))) (l.map λi:Nat=>V.int (i:Nat))
 |[]=>.nil
 |x::l=>.cons (by show RelD K ι H (D.int (0+(x:Int))) (V.int (x:Int));rw[Mw];exact .int _) (m5 l)
theorem qC(L:X.calm=dr)(J:X.mg "list"=none)(U:X.mg "range"=none)(I:SE X E a m)(P:Gl X "list":=by rfl)(W:Gl X "range":=by rfl)(hs:d_ [a] X.env=[(dt,f' a X.env)]:=by rfl)
  (Y:d_ [.Call (.Name "range" q) [a] [] pos2] X.env=[(dt,f' (.Call (.Name "range" q) [a] [] pos2) X.env)]:=by rfl):
  SE X E (.Call (.Name "list" p) [.Call (.Name "range" q) [a] [] pos2] [] pos) (λρ=>do let ds<-(do let x<-m ρ;let xs<-a_ [];a_ (x::xs));dy ds):=by
 refine PE.imp (iT (oG L) P J (by decide+kernel) (dD (iT si W U (by decide+kernel) (ag I ao hs) (by decide) (by decide) hs rfl) jh Y) (by decide) (by decide) Y rfl) λσ H Q h=>?_;obtain⟨ι,S,ρ,rep,re,c⟩:=h;refine⟨ι,S,ρ,rep,re,aj (ai c) λds K S1 G e1 rep1 Z vs r=>?_⟩;unfold dy at Z;split at Z
 ·next j=>
  obtain⟨w,ws,rfl,N,O⟩:=r.cons_inv;cases O.nil_inv;split at Z
  ·next hb=>
   rw[N.int_inv];refine⟨j,rfl,λp T=>?_⟩;have rep2:=fP (o:=.rng 0 j) rep1 T;refine⟨p,j,rfl,aU,hb.1,hb.2,?_⟩;have R:=fx Z (eh (o:=.rng 0 j) T);exact(ba R rep2 (m5 (e_ j.toNat))).2
  ·exact(af Z).elim
 ·exact(af Z).elim
end
section
variable {X:Cx}{E:XD}{a b c d e:Expr}{m n l k:TM}{pos p2:Pos}
theorem En:SE X E (.Dict [] [] pos) (λ_=>a_ .emp):=by intro pins s σ H Q I h;obtain⟨ι,S,ρ,rep,re,Y⟩:=h;have big:NT<s.heap.objs.size:=L5 (by decide) (I.mod.glob.keeps I.bk).lt;have hf:H s.heap.objs.size=none:=I.hok.fresh (Jw _);have Z:aW X.prog X.w (upd H s.heap.objs.size (.dK [])) (s.heap.push {cls:=.type "dict",data:=.dict #[]}) s.heap.objs.size (.dK []):=⟨JS _,beq_eq_false_iff_ne.mpr (i2 (JK big)),[],.nil,Heap.DictOf.new s.heap⟩;refine wpAny_Dict_empty ⟨.ref s.heap.objs.size,upd H s.heap.objs.size (.dK []),I.laid (t':=s.toks) (λ_ _ q=>Jv _ q) (Jw _) Z,rfl,?_⟩;exact ah Y (eh hf) (fP rep hf) _ (.emp aU)
end
section
variable {X:Cx}{E:XD}{e:Expr}{m:TM}{te:TE}{pos p1 p2 p3:Pos}{j:Nat}
end
def insI(x:Int):List Int->List Int
 |[]=>[x]
 |y::r=>if x<=y then x::y::r else y::insI x r
def sortI:List Int->List Int
 |[]=>[]
 |x::r=>insI x (sortI r)
theorem insI_perm(x:Int):∀l,(insI x l).Perm (x::l)
 |[]=>.refl _
 |y::r=>by
  unfold insI;split
  ·exact .refl _
  ·exact(E1 y (insI_perm x r)).trans (List.Perm.swap x y r)
theorem sortI_perm:∀l,(sortI l).Perm l
 |[]=>.refl _
 |x::r=>(insI_perm x _).trans (E1 x (sortI_perm r))
theorem lz(x:Int):∀{l:List Int},l.Pairwise (· <=·)->(insI x l).Pairwise (· <=·)
 |[],_=>by simp[insI]
 | y::r,h=>by
  obtain⟨Y,X⟩:=Km.mp h;unfold insI;split
  ·next c=>
   refine Km.mpr ⟨λz Z=>?_,h⟩;rcases JN.mp Z with rfl|Z
   ·exact c
   ·exact Int.le_trans c (Y z Z)
  ·next c=>
   refine Km.mpr ⟨λz Z=>?_,lz x X⟩;rcases JN.mp ((insI_perm x r).mem_iff.mp Z)with rfl|Z
   ·omega
   ·exact Y z Z
theorem jZ:∀l,(sortI l).Pairwise (· <=·)
 |[]=>.nil
 |x::r=>lz x (jZ r)
section
variable {X:Cx}{E:XD}{e:Expr}{m:TM}{pos:Pos}
theorem qD:b9 X (.builtin "sorted") (λxs H Q=>∃(p:c_) (ns:List Int),xs=[.ref p]/\ir X.K H p (ns.map V.int)/\ns.length<64/\∀l,H l=none->Q (.ref l) (upd H l (.lst ((sortI ns).map V.int)))):=by intro pins s σ H xs us Q I r h;obtain⟨p,ns,rfl,R,N,q⟩:=h;obtain⟨u,rfl,T⟩:=vals1 r;cases (show u=eg p from T);obtain⟨its,Y,U,L⟩:=I.list R;have O:lx its ns:=MK Y;have hlen:=Y.length;rw[Jy]at hlen;refine sorted_ints U.isList O (by omega) λout Z a1 a2 S=>?_;have en:Z=sortI ns:=W.lks_uniq (a2.trans (sortI_perm ns).symm) S (jZ ns);subst en;obtain⟨c,P⟩:=sortedAll_at s.heap its out;have hf:H (s.heap.objs.size+1)=none:=I.hok.fresh (LR _);refine⟨.ref (s.heap.objs.size+1),_,I.laid (t':=s.toks) (o:=.lst ((sortI ns).map V.int)) (λb o e=>sortedAll_old e) (LR _) ⟨?_,out.toList,c,iU a1,P⟩,rfl,q _ hf⟩;rw[Jy,(sortI_perm ns).length_eq,Kc];omega
theorem m6{K:dV}{ι:List c_}{H:Hp}:∀ns:List Int,RelDs K ι H (ns.map D.int) (ns.map V.int)
 |[]=>.nil
 |n::r=>.cons (.int n) (m6 r)
end
end S3
namespace S3
open PySem PySem.Spec PySem.W PyProof.Rows L2
theorem m7{h:fc}:∀{vs:List aC},(∀v∈vs,∃a o us n i t,v= .ref a/\h.get? a=ar o/\o.cls= .type "tuple"/\o.data= .seq us n/\us[0]? =ar (ly i t))->
  ∃Z,KatTups h vs Z/\Z.length=vs.length/\∀f∈Z,∃i t,f=ly i t
 |[],_=>⟨[],.nil,rfl,λ_ z=>nomatch z⟩
 |v::vs,hv=>by
  obtain⟨a,o,us,n,i,t,rfl,e1,e2,X,W⟩:=hv v JL;obtain⟨Z,k1,k2,k3⟩:=m7 λY h'=>hv Y (JF _ h');refine⟨_::Z,.cons e1 e2 X W k1,by simp[k2],λf hf=>?_⟩;rcases JN.mp hf with rfl|hf
  ·exact⟨i,t,rfl⟩
  ·exact k3 f hf
theorem mq:∀ns:List Int,HT.lexLt ns ns=dt
 |[]=>rfl
 |n::r=>by rw[HT.lexLt_cons,if_pos rfl];exact mq r
theorem uj:∀{a b c:List Int},HT.lexLt a b=dr->HT.lexLt b c=dr->HT.lexLt a c=dr
 |[],[],c,h,_=>by cases h
 |[],_::_,[],_,h=>by cases h
 |[],_::_,_::_,_,_=>rfl
 |_::_,[],c,h,_=>by cases h
 |_::_,_::_,[],_,h=>by cases h
 | x::a,y::b,z::c,h1,h2=>by
  rw[HT.lexLt_cons]at h1 h2⊢;split at h1
  ·next e=>
   subst e;split at h2
   ·next e2=>subst e2;rw[if_pos rfl];exact uj h1 h2
   ·next e2=>rw[if_neg e2];exact h2
  ·next e=>
   have Y:x<y:=Kl h1;split at h2
   ·next e2=>subst e2;rw[if_neg e];exact h1
   ·next e2=>
    have Z:y<z:=Kl h2;rw[if_neg (by omega)];exact JM (by omega)
theorem qE:∀{a b c:List Int},HT.lexLt a c=dr->HT.lexLt a b=dr\/HT.lexLt b c=dr
 |a,b,[],h=>by cases a<;>cases h
 |[],[],_::_,_=>.inr rfl
 |[],_::_,_::_,_=>.inl rfl
 |_::_,[],_::_,_=>.inr rfl
 | x ::a,y::b,z::c,h=>by
  rw[HT.lexLt_cons]at h;rw[HT.lexLt_cons,HT.lexLt_cons];split at h
  ·next e=>
   subst e;by_cases e2:x=y
   ·subst e2;rw[if_pos rfl,if_pos rfl];exact qE h
   ·rw[if_neg e2,if_neg (i2 e2)];rcases Int.lt_or_gt_of_ne e2 with l|l
    ·exact .inl (JM l)
    ·exact .inr (JM l)
  ·next e=>
   have h':x<z:=Kl h;by_cases e2:x=y
   ·subst e2;rw[if_neg e];exact .inr (JM h')
   ·rw[if_neg e2];by_cases l:x<y
    ·exact .inl (JM l)
    ·refine .inr ?_;rw[if_neg (by omega)];exact JM (by omega)
theorem zb(x:aW P w H h a o):∃Z,h.get? a=ar Z:=by
 cases o with
 |lst xs=>obtain⟨_,_,_,_,e⟩:=x;exact⟨_,e⟩
 |tup xs=>obtain⟨_,_,_,Z,e,_⟩:=x;exact⟨_,e⟩
 |dK kvs=>obtain⟨_,_,_,_,o,_,_,e,_⟩:=x;exact⟨_,e⟩
 |dT kvs=>obtain⟨_,_,_,_,o,_,_,e,_⟩:=x;exact⟨_,e⟩
 |set S n=>obtain⟨o,_,_,_,e,_⟩:=x;exact⟨_,e⟩
 |ins C dx fs=>obtain⟨_,_,_,e,_⟩:=x;exact⟨_,e⟩
 |own y=>exact x
 |xd fs=>obtain⟨_,⟨_,_,_,e,_⟩,_⟩:=x;exact⟨_,e⟩
 |rng lo hi=>obtain⟨_,_,_,e⟩:=x;exact⟨_,e⟩
 |frz Z u=>exact⟨_,x.1⟩
 |tbl ps=>exact⟨_,show h.get? a=ar _ from x⟩
 |met f y=>exact⟨_,show h.get? a=ar _ from x⟩
 |ext φ=>exact x.2.1
section
variable {X:Cx}{pins:List (c_×Obj)}{σ:L2.St}{H:Hp}{s:b_}
theorem uk{us:List aC}(I:L2.Inv X pins σ H s)(N:Fr X.base X.env.locals s.heap m)(F:Fr X.base X.env.locals h2 m)
  (U:∀b o,b≠X.env.locals->s.heap.get? b=ar o->h2.get? b=ar o) (R:s.heap.get? d=none) (P:h2.get? d=ar {cls:=.type "list",data:=.seq us.toArray n}) (B:aX ys us) (K:ys.length<=sizeLine):
  L2.Inv X pins σ (upd H d (.lst ys)) {s with heap:=h2}:=by
 have Y:H d=none:=by
  cases e:H d with
  |none=>rfl
  |some o=>obtain⟨E,q⟩:=zb (I.hok d o e);rw[R]at q;cases q
 have W:∀b o,H b=ar o->b≠X.env.locals:=λb o e z=>by rw[z,I.free]at e;cases e
 have old:∀b o,s.heap.get? b=ar o->b≠d:=λb o e z=>by rw[z,R]at e;cases e
 refine I.step (g':=s.gens) (d':=s.drawn) (t':=s.toks) (ch:=[]) (λ_ z=>nomatch z) (λb o Z _ _ e _=>U b o Z e) (λb o Z _ _ e _=>⟨o.slots,U b o Z e⟩)
  (λb o _ e n=>by rw[aG (old b o e)];exact n) (λb o _ e=>?_) (λb xs e=>by rw[aG (aI e Y)];exact e) (λb E u e=>by rw[aG (aI e Y)];exact e)
  (λb y e=>⟨#[],by rw[aG (aI e Y),e];simp⟩) (λQ hm=>?_) (λb u e=>?_) I.bare
 ·by_cases Z:b=X.env.locals
  ·obtain⟨G,_,_,C,_⟩:=F.ns;exact⟨G,by rw[Z];exact C⟩
  ·exact⟨o,U b o Z e⟩
 ·have:Q=m:=by
   obtain⟨A,es,ep,e1,J,_,g1⟩:=hm;obtain⟨o2,O,L,e2,S,_,g2⟩:=N.ns;rw[e1]at e2;cases e2;rw[J]at S;cases S;funext x;rw[<-g1 x, <-g2 x]
  rw[this];exact F.ns
 ·by_cases Z:b=d
  ·subst Z;rw[aU]at e;cases e;exact⟨K,us,n,B,P⟩
  ·rw[aG Z]at e;refine(I.hok b u e).stay (λc v T z=>U c v ?_ z) (λc z=>by rw[aG (aI z Y)];exact z) λc xs z=>by rw[aG (aI z Y)];exact z
   rcases T with rfl|T
   ·exact W _ _ e
   ·exact W _ _ T
end
section
variable {X:Cx}
end
end S3
namespace S4
open PySem PySem.SetTable
def tb(m:Nat):SetTable:=⟨m, #[], #[],0,dr,0,dr⟩
def bD(m:Nat)(h:Int):Nat->Probe
 |0=>(tb m).probeStart h
 |k+1=>(tb m).advance (bD m h k)
theorem Eo(t:kr)(h:Int)(k:Nat):t.advance (bD t.mask h k)=bD t.mask h (k+1):=rfl
theorem xk(t:kr)(p:Probe)(Z:p.dummy=none):(t.advance p).dummy=none:=by
 unfold Om;split
 ·exact Z
 ·exact Z
theorem m9(m:Nat)(h:Int):∀k,(bD m h k).dummy=none
 |0=>rfl
 |k+1=>xk _ _ (m9 m h k)
def ez(m:Nat)(h:Int):Nat->Nat×Nat
 |0=>(Ov h % (m+1),Ov h)
 |n+1=>leap m (ez m h n).1 (ez m h n).2
def run(m i:Nat):Nat:=N5 m i - i
theorem Ep(m i:Nat):run m i<=9:=by unfold run N5;split<;>omega
def om(m:Nat)(h:Int):Nat->Nat
 |0=>0
 |n+1=>om m h n+run m (ez m h n).1+1
theorem zd(m:Nat)(h:Int):∀n,om m h n<=10*n
 |0=>Jw _
 |n+1=>by
  have:=zd m h n;have:=Ep m (ez m h n).1;show om m h n+run m (ez m h n).1+1<=10*(n+1);omega
theorem qF(m:Nat)(h:Int)(n:Nat)(e:bD m h (om m h n)=⟨(ez m h n).1,run m (ez m h n).1,(ez m h n).1,(ez m h n).2,none⟩):
  ∀r,r<=run m (ez m h n).1->bD m h (om m h n+r)=⟨(ez m h n).1+r,run m (ez m h n).1 - r,(ez m h n).1,(ez m h n).2,none⟩
 |0,_=>e
 |r+1,hr=>by
  have Z:=qF m h n e r (by omega);show(tb m).advance (bD m h (om m h n+r))=_;rw[Z];unfold Om;simp only;rw[if_pos (by omega)];simp only[Probe.mk.injEq,and_true,true_and];omega
theorem ng(m:Nat)(h:Int):∀n,bD m h (om m h n)=⟨(ez m h n).1,run m (ez m h n).1,(ez m h n).1,(ez m h n).2,none⟩
 |0=>rfl
 |n+1=>by
  have e:=qF m h n (ng m h n) _ (Jw _);show(tb m).advance (bD m h (om m h n+run m (ez m h n).1))=_;rw[e];unfold Om;simp only;rw[if_neg (by omega)];rfl
theorem qG(m:Nat)(h:Int)(n r:Nat)(Z:r<=run m (ez m h n).1):(bD m h (om m h n+r)).j=(ez m h n).1+r:=by rw[qF m h n (ng m h n) r Z]
theorem vC(m:Nat)(h:Int):∀n,(ez m h n).2=Ov h / 32 ^ n
 |0=>by simp[ez]
 |n+1=>by
  show(ez m h n).2 / 32=_;rw[vC m h n,Nat.div_div_eq_div_mul,Nat.pow_succ]
theorem BV(h:Int):Ov h<2 ^ 64:=by unfold Ov;have Z:0<=h % (2 ^ 64:Int):=Lh _ (by decide);have Y:h % (2 ^ 64:Int)<2 ^ 64:=KW _ (by decide);omega
theorem Iw(m:Nat)(h:Int)(n:Nat):(ez m h (13+n)).2=0:=by
 rw[vC];refine Nat.div_eq_of_lt (JI (BV h) ?_);have:(2:Nat) ^ 64<=32 ^ 13:=by decide
 exact JG this (Nat.pow_le_pow_right (by decide) (by omega))
def Gv(m:Nat):Nat->Nat->Nat
 |0,a=>a
 |n+1,a=>(Gv m n a*5+1) % (m+1)
theorem um(m:Nat)(h:Int):∀n,(ez m h (13+n)).1=Gv m n (ez m h 13).1
 |0=>rfl
 |n+1=>by
  show((ez m h (13+n)).1*5+1+(ez m h (13+n)).2 / 32) % (m+1)=(Gv m n (ez m h 13).1*5+1) % (m+1);rw[Iw,um m h n]
theorem zh(m:Nat)(h:Int):∀n,(ez m h n).1<m+1
 |0=>MM _ (by omega)
 |n+1=>MM _ (by omega)
theorem Iy:∀a,a<8->∀j,j<8->∃n,n<8/\Gv 7 n a=j:=by decide+kernel
theorem Gw:∀a,a<32->∀j,j<32->∃n,n<32/\Gv 31 n a=j:=by decide+kernel
def Dc(m:Nat):Prop:=m=7\/m=31
theorem zj(X:Dc m)(h:Int)(j:Nat)(W:j<=m):∃n,n<m+14/\(ez m h n).1=j:=by
 rcases X with rfl|rfl
 ·obtain⟨n,Y,Z⟩:=Iy _ (zh 7 h 13) j (by omega);exact⟨13+n,by omega,by rw[um];exact Z⟩
 ·obtain⟨n,Y,Z⟩:=Gw _ (zh 31 h 13) j (by omega);exact⟨13+n,by omega,by rw[um];exact Z⟩
theorem cover(X:Dc m)(h:Int)(j:Nat)(Y:j<=m):∃K,K<10*Ow m/\(bD m h K).j=j:=by obtain⟨n,W,Z⟩:=zj X h j Y;refine⟨om m h n,?_,by rw[ng];exact Z⟩;have:=zd m h n;unfold Ow;omega
theorem pC(h:i<m+1):i+run m i<=m:=by unfold run N5;split<;>omega
theorem Er{p:Probe}(h:p.j+p.more<=m):((tb m).advance p).j+((tb m).advance p).more<=m:=by
 unfold Om;split
 ·simp only;omega
 ·simp only[leap];exact pC (MM _ (by omega))
theorem pD(m:Nat)(h:Int):∀k,(bD m h k).j+(bD m h k).more<=m
 |0=>pC (MM _ (by omega))
 |k+1=>Er (pD m h k)
theorem BW(m:Nat)(h:Int)(k:Nat)(_:Dc m):(bD m h k).j<=m:=JG (K8 _ _) (pD m h k)
def BX(xs:Array Nat):Prop:=∀(i j a b:Nat),i<j->xs[i]? =ar a->xs[j]? =ar b->a<b
theorem nh(X:BX xs):∀(fuel lo hi:Nat),lo<=hi->hi<=xs.size->hi - lo<=fuel->(∀(i a:Nat),i<lo->xs[i]? =ar a->a<j)->(∀(i a:Nat),hi<=i->xs[i]? =ar a->j<=a)->
  N6 xs j fuel lo hi<=xs.size/\(∀(i a:Nat),i<N6 xs j fuel lo hi->xs[i]? =ar a->a<j)/\(∀(i a:Nat),N6 xs j fuel lo hi<=i->xs[i]? =ar a->j<=a)
 |0,lo,hi,h1,h2,h3,h4,h5=>by
  have:lo=hi:=by omega
  subst this;exact⟨h2,h4,h5⟩
 | fuel+1,lo,hi,h1,h2,h3,h4,h5=>by
  unfold N6;by_cases hlt:lo<hi
  ·rw[if_pos hlt];simp only;have Z:(lo+hi) / 2<xs.size:=by omega
   have U:xs.getD ((lo+hi) / 2) j=xs[(lo+hi) / 2]:=by simp[N7,Z]
   have Y:xs[(lo+hi) / 2]? =ar xs[(lo+hi) / 2]:=JE Z;rw[U];split
   ·next hc=>
    refine nh X fuel _ hi (by omega) h2 (by omega) (λi a W e=>?_) h5;by_cases he:i=(lo+hi) / 2
    ·subst he;rw[Y]at e;cases e;exact hc
    ·exact L5 (X i _ a _ (by omega) e Y) hc
   ·next hc=>
    refine nh X fuel lo _ (by omega) (by omega) (by omega) h4 (λi a W e=>?_);by_cases he:i=(lo+hi) / 2
    ·subst he;rw[Y]at e;cases e;omega
    ·have:=X _ i _ a (by omega) Y e;omega
  ·rw[if_neg hlt];have:lo=hi:=by omega
   subst this;exact⟨h2,h4,h5⟩
theorem ni(Z:BX xs)(j:Nat):s_ xs j<=xs.size/\(∀(i a:Nat),i<s_ xs j->xs[i]? =ar a->a<j)/\(∀(i a:Nat),s_ xs j<=i->xs[i]? =ar a->j<=a):=
 nh Z xs.size 0 xs.size (JS _) (Jw _) (by omega) (λ_ _ h=>absurd h (M1 _)) λi a Y e=>by rw[Kw Y]at e;cases e
theorem uo(Z:BX xs)(h:xs[i]? =ar j):s_ xs j=i:=by
 obtain⟨_,W,X⟩:=ni Z j;rcases LV (s_ xs j) i with l|l|l
 ·have Y:s_ xs j<xs.size:=L5 l (JO.mp h).1;have e:xs[s_ xs j]? =ar xs[s_ xs j]:=JE Y;have T:=Z _ _ _ _ l e h;have U:=X _ _ (Jw _) e;omega
 ·exact l
 ·have:=W i j l h;omega
theorem kK{t:kr}(h:t.slot j= .live i):t.place[i]? =ar j:=by
 unfold slot at h;simp only at h;split at h
 ·next hc=>cases h;exact Oc hc
 ·split at h<;>cases h
theorem mr{t:kr}(Z:BX t.place)(h:t.place[i]? =ar j):t.slot j= .live i:=by unfold slot;simp only;rw[uo Z h,h];simp
theorem vD{t:kr}(Z:t.dummies= #[])(j:Nat):(∃i,t.slot j= .live i)\/t.slot j= .empty:=by
 unfold slot;simp only;rw[Z];split
 ·exact .inl ⟨_,rfl⟩
 ·exact .inr (by simp[has])
theorem uq{t:kr}(Z:BX t.place)(h:t.slot j= .empty):∀(i:Nat),t.place[i]? ≠ar j:=λi e=>by rw[mr Z e]at h;cases h
theorem vE(X:BX xs)(h:∀(j:Nat),j<n->∃i:Nat,xs[i]? =ar j):∀(j:Nat),j<n->∃i:Nat,j<=i/\xs[i]? =ar j
 |0,hj=>by obtain⟨i,e⟩:=h 0 hj;exact⟨i,JS _,e⟩
 |j+1,hj=>by
  obtain⟨i,W,Z⟩:=vE X h j (by omega);obtain⟨Y,e⟩:=h (j+1) hj;refine⟨Y,?_,e⟩;rcases LV i Y with l|l|l
  ·omega
  ·subst l;rw[Z]at e;cases e
  ·have:=X _ _ _ _ l e Z;omega
theorem xm{t:kr}(Y:BX t.place)(X:t.dummies= #[])(hs:t.place.size<=t.mask):∃j,j<=t.mask/\t.slot j= .empty:=by
 apply MC;intro Z;have:∀(j:Nat),j<t.mask+1->∃i:Nat,t.place[i]? =ar j:=λj T=>by
  rcases vD X j with⟨i,e⟩|e
  ·exact⟨i,kK e⟩
  ·exact absurd ⟨j,by omega,e⟩ Z
 obtain⟨i,U,W⟩:=vE Y this t.mask (by omega);have:=(JO.mp W).1;omega
theorem vF{t:kr}(W:t.dummies= #[])(Y:Nat->Int)(h:Int)(K:Nat)(X:t.slot (bD t.mask h K).j= .empty):∀(fuel k:Nat),k<=K->K - k<fuel->
    ∃Z,k<=Z/\Z<=K/\(∀m,k<=m->m<Z->∃i,t.slot (bD t.mask h m).j= .live i/\Y i≠h)/\
      ((t.slot (bD t.mask h Z).j= .empty/\Ox t Y h fuel (bD t.mask h k)=ar (.empty (bD t.mask h Z).j none))\/
       (∃i,t.slot (bD t.mask h Z).j= .live i/\Y i=h/\Ox t Y h fuel (bD t.mask h k)=ar (.candidate (bD t.mask h Z).j i (bD t.mask h (Z+1)))))
  |0,k,h1,h2=>by omega
  | fuel+1,k,h1,h2=>by
    unfold Ox;rcases vD W (bD t.mask h k).j with⟨i,e⟩|e
    · rw[e]
      simp only;by_cases hh:Y i=h
      · rw[if_pos (by simpa using hh)]
        exact⟨k,Jw _,h1,λm a b=>by omega,.inr ⟨i,e,hh,rfl⟩⟩
      · rw[if_neg (by simpa using hh)]
        have U:k≠K:=λz=>by subst z;rw[X]at e;cases e
        obtain⟨Z,g1,g2,g3,T⟩:=vF W Y h K X fuel (k+1) (by omega) (by omega);refine⟨Z,by omega,g2,λm a b=>?_,?_⟩
        · by_cases hm:m=k
          · subst hm;exact⟨i,e,hh⟩
          · exact g3 m (by omega) b
        · rw[Eo];exact T
    · rw[e]
      simp only[m9];exact⟨k,Jw _,h1,λm a b=>by omega,.inl ⟨e,rfl⟩⟩
abbrev Ent:=Int×aC
def At(pl:Array Nat)(es:Array Ent)(j:Nat)(e:Ent):Prop:=∃i:Nat,pl[i]? =ar j/\es[i]? =ar e
structure TPre(t:kr)(es:Array Ent):Prop where
 msk:Dc t.mask
 dum:t.dummies= #[]
 siz:t.place.size=es.size
 ris:BX t.place
 inb:∀(i a:Nat),t.place[i]? =ar a->a<=t.mask
 way:∀(j:Nat) (e:Ent),At t.place es j e->∃k,(bD t.mask e.1 k).j=j/\∀m,m<k->∃e',At t.place es (bD t.mask e.1 m).j e'
structure TOk(t:kr)(es:Array Ent):Prop extends TPre t es where
 few:es.size*5<t.mask*3
theorem TPre.fits(k:TPre t es)(h:es.size<=t.mask):t.fits es.size=true:=by unfold SetTable.fits fill;rw[k.siz,k.dum];simpa using h
theorem TOk.le(k:TOk t es):es.size<=t.mask:=by have:=k.few;omega
theorem TPre.at_of{t:kr}{es:Array Ent}(k:TPre t es){i j:Nat}(h:t.place[i]? =ar j):∃e,es[i]? =ar e/\At t.place es j e:=by
 have Z:i<es.size:=by rw[<-k.siz];exact(JO.mp h).1
 exact⟨es[i],JE Z,i,h,JE Z⟩
theorem zl(Z:Bool):TOk (E2 0 0 Z) #[] where
 msk:=.inl rfl
 dum:=rfl
 siz:=rfl
 ris:=λi j a b _ h _=>by simp[E2]at h
 inb:=λi a h=>by simp[E2]at h
 way:=λj e ⟨i,h,_⟩=>by simp[E2]at h
 few:=by show 0*5<7*3;decide
theorem dm{Z:Type}(xs:Array Z)(p:Nat)(x:Z)(X:p<=xs.size)(i:Nat):(eo xs p x)[i]? =if i<p then xs[i]? else if i=p then ar x else xs[i - 1]? :=by
 rw[<-JY,SetTable.toList_insertAt];have Y:(xs.toList.take p).length=p:=by simp[X]
 by_cases h1:i<p
 ·rw[if_pos h1,JZ (by omega),MJ h1,JY]
 ·rw[if_neg h1,Ln (by omega),Y];by_cases h2:i=p
  ·subst h2;simp
  ·rw[if_neg h2];obtain⟨d,hd⟩:∃d,i - p=d+1:=⟨i - p - 1,by omega⟩;rw[hd,List.getElem?_cons_succ,Mx,show p+d=i - 1 by omega,JY]
theorem nj{Z:Type}(xs:Array Z)(p:Nat)(x:Z):(eo xs p x).size=xs.size+1:=by have:=(SetTable.insertAt_perm xs p x).length_eq;simpa using this
theorem zm{X:Array Nat}{es:Array Ent}(hs:X.size=es.size)(Y:p<=X.size)(U:Nat)(W:Ent):
  At (eo X p j) (eo es p e) U W↔At X es U W\/(U=j/\W=e):=by
 have Z:p<=es.size:=by rw[<-hs];exact Y
 constructor
 ·rintro⟨i,h1,h2⟩;rw[dm _ _ _ Y]at h1;rw[dm _ _ _ Z]at h2;by_cases c1:i<p
  ·rw[if_pos c1]at h1 h2;exact .inl ⟨i,h1,h2⟩
  ·rw[if_neg c1]at h1 h2;by_cases c2:i=p
   ·rw[if_pos c2]at h1 h2;cases h1;cases h2;exact .inr ⟨rfl,rfl⟩
   ·rw[if_neg c2]at h1 h2;exact .inl ⟨_,h1,h2⟩
 ·rintro(⟨i,h1,h2⟩|⟨rfl,rfl⟩)
  ·by_cases c1:i<p
   ·exact⟨i,by rw[dm _ _ _ Y,if_pos c1];exact h1,by rw[dm _ _ _ Z,if_pos c1];exact h2⟩
   ·exact⟨i+1,by rw[dm _ _ _ Y,if_neg (by omega),if_neg (by omega)];exact h1,by rw[dm _ _ _ Z,if_neg (by omega),if_neg (by omega)];exact h2⟩
  ·exact⟨p,by rw[dm _ _ _ Y,if_neg (by omega),if_pos rfl],by rw[dm _ _ _ Z,if_neg (by omega),if_pos rfl]⟩
theorem Es{t:kr}(Z:t.dummies= #[])(j:Nat):t.put j=({t with place:=eo t.place (s_ t.place j) j},s_ t.place j):=by
 unfold put;simp only;rw[Z];have:has (#[]:Array Nat) j=false:=by simp[has]
 rw[this];cases t;simp only at Z;subst Z;rfl
theorem Et(k:TPre t es){e:Ent}(J:j<=t.mask)(L:t.slot j= .empty)(O:(bD t.mask e.1 K).j=j)(H:∀m,m<K->∃Q,At t.place es (bD t.mask e.1 m).j Q):
  TPre (t.put j).1 (eo es (t.put j).2 e)/\(t.put j).1.mask=t.mask/\(t.put j).1.led=t.led/\(t.put j).1.plain=t.plain:=by
 obtain⟨X,N,I⟩:=ni k.ris j;have U:=uq k.ris L;rw[Es k.dum];refine⟨⟨k.msk,k.dum,?_,?_,?_,?_⟩,rfl,rfl,rfl⟩
 ·show(eo t.place (s_ t.place j) j).size=_;rw[nj,nj,k.siz]
 ·intro R P a b T S W;have Y:(eo t.place (s_ t.place j) j)[R]? =ar a:=S;have Z:(eo t.place (s_ t.place j) j)[P]? =ar b:=W;rw[dm _ _ _ X]at Y Z;by_cases c1:R<s_ t.place j
  ·rw[if_pos c1]at Y;by_cases c2:P<s_ t.place j
   ·rw[if_pos c2]at Z;exact k.ris _ _ _ _ T Y Z
   ·rw[if_neg c2]at Z;by_cases c3:P=s_ t.place j
    ·rw[if_pos c3]at Z;cases Z;exact N _ _ c1 Y
    ·rw[if_neg c3]at Z;exact k.ris _ _ _ _ (by omega) Y Z
  ·rw[if_neg c1]at Y;rw[if_neg (by omega),if_neg (by omega)]at Z;by_cases c3:R=s_ t.place j
   ·rw[if_pos c3]at Y;cases Y;have q:=I _ _ (by omega) Z;have:b≠j:=λz=>by subst z;exact U _ Z
    omega
   ·rw[if_neg c3]at Y;exact k.ris _ _ _ _ (by omega) Y Z
 ·intro i a h;have h':(eo t.place (s_ t.place j) j)[i]? =ar a:=h;rw[dm _ _ _ X]at h';by_cases c1:i<s_ t.place j
  ·rw[if_pos c1]at h';exact k.inb _ _ h'
  ·rw[if_neg c1]at h';by_cases c3:i=s_ t.place j
   ·rw[if_pos c3]at h';cases h';exact J
   ·rw[if_neg c3]at h';exact k.inb _ _ h'
 ·intro G Q h;have up:∀{a b},At t.place es a b->At (eo t.place (s_ t.place j) j) (eo es (s_ t.place j) e) a b:=λz=>(zm k.siz X _ _).mpr (.inl z);rcases (zm k.siz X G Q).mp h with h'|⟨rfl,rfl⟩
  ·obtain⟨n,S,W⟩:=k.way _ _ h';exact⟨n,S,λm hm=>let ⟨x,hx⟩:=W m hm;⟨x,up hx⟩⟩
  ·exact⟨K,O,λm hm=>let ⟨x,hx⟩:=H m hm;⟨x,up hx⟩⟩
abbrev Eu:=Array (Option Nat)
def xn(o:Eu)(j:Nat):Prop:=∃k,o[j]? =ar (ar k)
structure Laid(m:Nat)(hs:List Int)(o:Eu):Prop where
 siz:o.size=m+1
 way:∀(j k:Nat),o[j]? =ar (ar k)->∃x,hs[k]? =ar x/\∃n,(bD m x n).j=j/\∀i,i<n->xn o (bD m x i).j
theorem pE{o:Eu}(Q:o.size=m+1)(h:Int)(T:Nat)(O:o[(ez m h T).1]? =ar none):∀(fuel n:Nat),n<=T->T - n<fuel->
  ∃idx,om m h n<=idx/\G_ m o fuel (ez m h n).1 (ez m h n).2=ar (bD m h idx).j/\o[(bD m h idx).j]? =ar none/\∀i,om m h n<=i->i<idx->xn o (bD m h i).j
 |0,n,h1,h2=>by omega
 | fuel+1,n,h1,h2=>by
  have S:N5 m (ez m h n).1+1 - (ez m h n).1=run m (ez m h n).1+1:=by unfold run N5;split<;>omega
  have P:(ez m h n).1+run m (ez m h n).1<=m:=by have:=zh m h n;unfold run N5;split<;>omega
  have get:∀k,k<=run m (ez m h n).1->o.getD ((ez m h n).1+k) (ar 0)=o[(ez m h n).1+k]?.getD (ar 0):=λk _=>by simp
  have R:∀k,k<=run m (ez m h n).1->(o.getD ((ez m h n).1+k) (ar 0)).isNone=dt->xn o (bD m h (om m h n+k)).j:=λk U N=>by
   rw[qG m h n k U];have X:(ez m h n).1+k<o.size:=by omega
   rw[get k U,JE X]at N;cases e:o[(ez m h n).1+k]with
   |none=>simp[e]at N
   |some z=>exact⟨z,by rw[JE X,e]⟩
  unfold G_;rw[S];cases q:(e_ (run m (ez m h n).1+1)).find? (λk=>(o.getD ((ez m h n).1+k) (ar 0)).isNone)with
  | some k=>
   simp only;have U:=List.find?_some q;have Z:k<=run m (ez m h n).1:=by have:=List.mem_of_find?_eq_some q;rw[J0]at this;omega
   refine⟨om m h n+k,by omega,by rw[qG m h n k Z],?_,λi a b=>?_⟩
   ·rw[qG m h n k Z];have X:(ez m h n).1+k<o.size:=by omega
    rw[get k Z,JE X]at U;rw[JE X];cases e:o[(ez m h n).1+k]with
    |none=>rfl
    |some z=>simp[e]at U
   ·obtain⟨d,rfl⟩:∃d,i=om m h n+d:=⟨i - om m h n,by omega⟩;refine R d (by omega) ?_;have Y:=List.find?_eq_some_iff_getElem.mp q;obtain⟨_,H,L,e1,e2⟩:=Y;simp at e1;subst e1;have:=e2 d (by omega);simpa using this
  | none=>
   simp only;have Y:=List.find?_eq_none.mp q;have W:∀k,k<=run m (ez m h n).1->xn o (bD m h (om m h n+k)).j:=λk U=>R k U (by have:=Y k (J0.mpr (by omega));exact MO.mpr this)
   have K:n≠T:=λz=>by subst z;obtain⟨k,e⟩:=W 0 (JS _);rw[qG m h n 0 (JS _)]at e;rw[Nat.add_zero,O]at e;cases e
   obtain⟨idx,g1,g2,g3,J⟩:=pE Q h T O fuel (n+1) (by omega) (by omega);have I:om m h (n+1)=om m h n+run m (ez m h n).1+1:=rfl;refine⟨idx,by omega,g2,g3,λi a b=>?_⟩;by_cases hi:om m h (n+1)<=i
   ·exact J i hi b
   ·obtain⟨d,rfl⟩:∃d,i=om m h n+d:=⟨i - om m h n,by omega⟩;exact W d (by omega)
def cu(m:Nat)(f:Nat->Option Nat):List (Nat×Nat):=(e_ (m+1)).filterMap λj=>(f j).map λk=>(j,k)
theorem j4{Z X:Type}{f g:Z->Option X}:∀{l:List Z},(∀x∈l,f x=g x)->l.filterMap f=l.filterMap g
 |[],_=>rfl
 |x::l,h=>by rw[J9,J9,h x JL,j4 λy Y=>h y (JF _ Y)]
theorem zo{f g:Nat->Option Nat}(U:j<m+1)(X:f j=none)(W:g j=ar k)(Y:∀i,i≠j->g i=f i):(cu m g).Perm ((j,k)::cu m f):=by
 unfold cu;have e:e_ (m+1)=e_ j++j::(n7 (j+1) (m - j)):=by rw[List.range_eq_range',List.range_eq_range',show m+1=j+(1+(m - j)) by omega, <-List.range'_append_1, <-List.range'_append_1];simp
 rw[e,List.filterMap_append,List.filterMap_append,J9,J9,X,W];simp only[z4,Option.map_none];rw[j4 (l:=e_ j) (g:=λj=>(f j).map λk=>(j,k)) λx Z=>by rw[Y x (by rw[J0]at Z;omega)],
  j4 (l:=n7 (j+1) (m - j)) (g:=λj=>(f j).map λk=>(j,k)) λx Z=>by rw[Y x (by rw[MP]at Z;omega)]]
 exact List.perm_middle
def fo(o:Eu)(j:Nat):Option Nat:=o.getD j none
theorem nk:fo o j=ar k↔o[j]? =ar (ar k):=by
 unfold fo;rw[J4];cases o[j]? with
 |none=>simp
 |some z=>simp
structure LaidN(m:Nat)(hs:List Int)(o:Eu):Prop extends Laid m hs o where
 all:((cu m (fo o)).map (·.2)).Perm (e_ hs.length)
theorem sj(L:LaidN m hs o):(cu m (fo o)).length=hs.length:=by have:=L.all.length_eq;simpa using this
theorem sk(L:LaidN m hs o)(S:hs.length<=m):∃j,j<=m/\o[j]? =ar none:=by
 apply MC;intro T;have Y:∀j,j∈e_ (m+1)->∃k,fo o j=ar k:=λj X=>by
  rw[J0]at X;have Z:j<o.size:=by rw[L.siz];exact X
  cases e:o[j]with
  |none=>exact absurd ⟨j,by omega,by rw[JE Z,e]⟩ T
  |some k=>exact⟨k,nk.mpr (by rw[JE Z,e])⟩
 have:∀l:List Nat,(∀j∈l,∃k,fo o j=ar k)->(l.filterMap λj=>(fo o j).map λk=>(j,k)).length=l.length:=by
  intro l
  induction l with
  |nil=>intro _;rfl
  |cons x l ih=>
   intro h;obtain⟨k,e⟩:=h x JL;rw[J9,e];simp only[z4,m_];rw[ih λj X=>h j (JF _ X)]
 have U:=this _ Y;have W:=sj L;unfold cu at W;rw[U,Ks]at W;omega
theorem zq(I:Dc m)(L:LaidN m hs o)(K:hs.length<=m)(x:Int):
  ∃j,G_ m o (Ow m) (Ov x % (m+1)) (Ov x)=ar j/\LaidN m (hs++[x]) (o.setIfInBounds j (ar hs.length)):=by
 obtain⟨J,U,W⟩:=sk L K;obtain⟨N,P,T⟩:=zj I x J U;obtain⟨idx,_,g2,g3,H⟩:=pE L.siz x N (by rw[T];exact W) (Ow m) 0 (JS _) (by unfold Ow;omega);refine⟨(bD m x idx).j,g2,?_⟩;generalize hj:(bD m x idx).j=j at g3⊢;have Y:j<o.size:=(JO.mp g3).1;have self:(o.setIfInBounds j (ar hs.length))[j]? =ar (ar hs.length):=by simp[Y]
 have X:∀i,i≠j->(o.setIfInBounds j (ar hs.length))[i]? =o[i]? :=λi Z=>by rw[Array.getElem?_setIfInBounds_ne (i2 Z)]
 have up:∀i,xn o i->xn (o.setIfInBounds j (ar hs.length)) i:=λi ⟨k,e⟩=>by
  by_cases Z:i=j
  ·subst Z;exact⟨_,self⟩
  ·exact⟨k,by rw[X i Z];exact e⟩
 refine⟨⟨by rw[Array.size_setIfInBounds];exact L.siz,λi k e=>?_⟩,?_⟩
 ·by_cases Z:i=j
  ·subst Z;rw[self]at e;cases e;exact⟨x,by simp,idx,hj,λq S=>up _ (H q (JS _) S)⟩
  ·rw[X i Z]at e;obtain⟨y,R,n,O,Q⟩:=L.way i k e;refine⟨y,?_,n,O,λq S=>up _ (Q q S)⟩;rw[JZ (Jz.mp R).1];exact R
 ·have G:=zo (m:=m) (j:=j) (k:=hs.length) (f:=fo o) (g:=fo (o.setIfInBounds j (ar hs.length))) (by rw[<-L.siz];exact Y)
   (by unfold fo;rw[J4,g3];rfl) (nk.mpr self) (λi Z=>by unfold fo;rw[J4,J4,X i Z])
  refine(G.map (·.2)).trans ?_;rw[JA,L4,List.range_succ];exact(E1 _ L.all).trans (List.perm_append_singleton _ _).symm
theorem vG(W:Dc m):∀(rest hs:List Int) (o:Eu),LaidN m hs o->hs.length+rest.length<=m+1->
  ∃Y,rest.foldl (λ(acc:Option (Eu×Nat)) h=>do
   let (owner,k)<-acc;let j<-G_ m owner (Ow m) (Ov h % (m+1)) (Ov h)
   a_ (owner.setIfInBounds j (ar k),k+1)) (ar (o,hs.length))=ar (Y,hs.length+rest.length)/\LaidN m (hs++rest) Y
 |[],hs,o,L,_=>⟨o,rfl,by rw[Kn];exact L⟩
 |x::rest,hs,o,L,hl=>by
  rw[JR]at hl;obtain⟨j,e,U⟩:=zq W L (by omega) x;obtain⟨Y,X,Z⟩:=vG W rest (hs++[x]) _ U (by simp;omega);refine⟨Y,?_,by rw[JT]at Z;exact Z⟩;rw[List.foldl_cons];simp only[Option.bind_eq_bind,H_,e];rw[JA,L4]at X;simp only[Option.bind_eq_bind]at X;rw[JR,show hs.length+(rest.length+1)=hs.length+1+rest.length by omega];exact X
theorem xo(Y:Dc m)(Z:Array Int)(X:Z.size<=m+1):∃o,layClean m Z=ar o/\LaidN m Z.toList o:=by
 have W:LaidN m [] (pa (m+1) none):=by
  refine⟨⟨by simp,λj k e=>?_⟩,?_⟩
  ·rw[MQ]at e;split at e<;>cases e
  ·have:cu m (fo (pa (m+1) none))=[]:=by
    unfold cu;rw[List.filterMap_eq_nil_iff];intro j _;have:fo (pa (m+1) none) j=none:=by
     cases e:fo (pa (m+1) none) j with
     |none=>rfl
     |some k=>
      rw[nk,MQ]at e;split at e<;>cases e
    rw[this];rfl
   rw[this];exact .refl _
 obtain⟨o,e,L⟩:=vG Y Z.toList [] _ W (by simpa using X);refine⟨o,?_,by simpa using L⟩;unfold layClean;rw[<-Array.foldl_toList];rw[show(pa (m+1) (none:Option Nat),0)=(pa (m+1) none,([]:List Int).length)from rfl];rw[e];rfl
theorem nq(f:Nat->Option Nat):∀l:List Nat,((l.filterMap λj=>(f j).map λk=>(j,k)).map (·.1)).Sublist l
 |[]=>.slnil
 |x::l=>by
  rw[J9];cases f x with
  |none=>exact .cons _ (nq f l)
  |some k=>exact .cons₂ _ (nq f l)
theorem nu{f:Nat->Option Nat}:(j,k)∈cu m f↔j<m+1/\f j=ar k:=by
 unfold cu;rw[KF];constructor
 ·rintro⟨a,h1,h2⟩;cases e:f a with
  |none=>rw[e]at h2;cases h2
  |some b=>
   rw[e]at h2;cases h2;exact⟨J0.mp h1,e⟩
 ·rintro⟨h1,h2⟩;exact⟨j,J0.mpr h1,by rw[h2];rfl⟩
theorem Ew{l:List Nat}(h:l.Pairwise (· <·)):BX l.toArray:=by intro i j a b Z X Y;rw[KY]at X Y;obtain⟨U,S⟩:=Jz.mp X;obtain⟨T,W⟩:=Jz.mp Y;have:=MD.mp h i j U T Z;rw[S,W]at this;exact this
theorem zv{Z X:Type}{f:Z->Option X}:∀{l:List Z},(∀x∈l,∃y,f x=ar y)->∀i:Nat,(l.filterMap f)[i]? =l[i]?.bind f
 |[],_,i=>by simp
 |x::l,h,i=>by
  obtain⟨y,e⟩:=h x JL;rw[J9,e];cases i with
  |zero=>simp[e]
  |succ i=>simpa using zv (λz Y=>h z (JF _ Y)) i
theorem BY{es:Array Ent}(F:Dc m)(E:es.size*5<m*3)(I H:Nat)(N O:Bool):
  ∃(t':kr) (order:Array Nat),laid m I H N O (es.map (·.1))=ar (t',order)/\order.toList.Perm (e_ es.size)/\(order.filterMap (es[·]?)).size=es.size/\TOk t' (order.filterMap (es[·]?))/\t'.led=N/\t'.plain=O/\t'.mask=m:=by
 obtain⟨o,e,L⟩:=xo F (es.map (·.1)) (by rw[Array.size_map];omega);have hlen:(es.map (·.1)).toList.length=es.size:=by simp
 have Z:=L.all;rw[hlen]at Z;have J:∀p∈cu m (fo o),∃y,es[p.2]? =ar y:=λp R=>by have:p.2∈e_ es.size:=Z.mem_iff.mp (List.mem_map_of_mem R);rw[J0]at this;exact⟨es[p.2],JE this⟩
 have S:(((cu m (fo o)).map (·.2)).toArray.filterMap (es[·]?)).toList=((cu m (fo o)).map (·.2)).filterMap (es[·]?):=by rw[Array.toList_filterMap]
 have W:(((cu m (fo o)).map (·.2)).toArray.filterMap (es[·]?)).toList.Perm es.toList:=by rw[S];exact(Z.filterMap _).trans (by rw[filterMap_getElem?_range])
 have U:(((cu m (fo o)).map (·.2)).toArray.filterMap (es[·]?)).size=es.size:=by have:=W.length_eq;simpa using this
 have Q:∀(j:Nat) (x:Ent),At (((cu m (fo o)).map (·.1)).toArray) (((cu m (fo o)).map (·.2)).toArray.filterMap (es[·]?)) j x↔∃k,(j,k)∈cu m (fo o)/\es[k]? =ar x:=by
  intro j x;have key:∀i:Nat,(((cu m (fo o)).map (·.2)).toArray.filterMap (es[·]?))[i]? =((cu m (fo o))[i]?).bind λp=>es[p.2]? :=λi=>by
   rw[<-JY,S,zv (λz C=>by obtain⟨p,R,rfl⟩:=J8.mp C;exact J p R) i,JP]
   cases (cu m (fo o))[i]? <;>rfl
  constructor
  ·rintro⟨i,Y,X⟩;rw[KY,JP]at Y;rw[key]at X;cases q:(cu m (fo o))[i]? with
   |none=>rw[q]at Y;cases Y
   |some p=>
    rw[q]at Y X;cases Y;exact⟨p.2,JV q,X⟩
  ·rintro⟨k,Y,X⟩;obtain⟨i,P⟩:=Li.mp Y;exact⟨i,by rw[KY,JP,P];rfl,by rw[key,P];exact X⟩
 refine⟨⟨m,((cu m (fo o)).map (·.1)).toArray, #[],I,N,H,O⟩,((cu m (fo o)).map (·.2)).toArray,?_,by simpa using Z,U,⟨⟨F,rfl,?_,?_,?_,?_⟩,?_⟩,rfl,rfl,rfl⟩
 ·unfold laid;rw[e];rfl
 ·rw[U];show(((cu m (fo o)).map (·.1)).toArray).size=_;rw[JH,Jy,sj L,hlen]
 ·exact Ew (List.Pairwise.sublist (nq _ _) List.pairwise_lt_range)
 ·intro i a h;have h':(((cu m (fo o)).map (·.1)).toArray)[i]? =ar a:=h;rw[KY]at h';obtain⟨p,R,rfl⟩:=J8.mp (JV h');have:=(nu.mp R).1;show p.1<=m;omega
 ·intro j x A;obtain⟨k,Y,X⟩:=(Q j x).mp A;obtain⟨s,v⟩:=nu.mp Y;obtain⟨y,g1,n,g2,g3⟩:=L.way j k (nk.mp v);have B:y=x.1:=by
   rw[JY,Array.getElem?_map,X]at g1;cases g1;rfl
  subst B;refine⟨n,g2,λi P=>?_⟩;obtain⟨u,G⟩:=g3 i P;have K:(bD m x.1 i).j<m+1:=by rw[<-L.siz];exact(JO.mp G).1
  have T:=nu.mpr ⟨K,nk.mpr G⟩;obtain⟨t,w⟩:=J _ T;exact⟨t,(Q _ _).mpr ⟨u,T,w⟩⟩
 ·rw[U];exact E
theorem xp{t:kr}{es:Array Ent}(X:es.size=5):∃(t':kr) (order:Array Nat),t.relaid (es.map (·.1)) (SetTable.grown 5)=ar (t',order)/\order.toList.Perm (e_ es.size)/\(order.filterMap (es[·]?)).size=es.size/\
  TOk t' (order.filterMap (es[·]?))/\t'.led=t.led/\t'.plain=t.plain:=by
 obtain⟨t',o,Y,U,Z,W,S,T,_⟩:=BY (es:=es) (m:=31) (.inr rfl) (by rw[X];decide) t.finger (t.movedTo 31) t.led t.plain;exact⟨t',o,Y,U,Z,W,S,T⟩
end S4
namespace S4
open PySem PySem.Spec PyProof.Rows
section
variable {prog:ee}{w:ey}{A:gd}{E:aC->b_->Prop}{s:b_}
theorem items_int(h:ItemsAre (la prog w) ks vs):∀v∈vs,∃n t,v=ly n t:=by
 induction h with
 |nil=>intro v Z;cases Z
 | cons h1 _ ih=>
  intro v Z;rcases JN.mp Z with rfl|Z
  ·obtain⟨t,e⟩:=Value.isInt_shape h1;exact⟨_,t,e⟩
  ·exact ih v Z
theorem xq{Q:Bool->b_->Prop}(Y:i_ (la prog w) s.heap ks a)(h:Q dr s):eb (eK prog w) A (NP 8 (.ref a)) Q E s:=by
 have U:=Y.typeIs;obtain⟨o,items,n,X,_,hd,W⟩:=Y;unfold NP;refine Ju (wpAny_specialOf U F.slot_tuple_hash.lookup ?_);show eb _ _ (Og (.ref a)>>=_) _ _ s;refine Ju (KD X hd ?_);refine Ju ?_;show eb _ _ (OP items _ _) _ _ s;rw[<-Array.forIn_toList];refine L9 _ (λrest r s'=>r.1=none/\s'=s/\∀v∈rest,∃n t,v=ly n t) _ ?_ ?_ _ _ ⟨rfl,rfl,items_int W⟩
 ·rintro v rest r s' ⟨hr,rfl,hall⟩;obtain⟨i,t,rfl⟩:=hall v JL;refine Ju ?_;unfold NP;refine Jx ?_;simp only[y1,er,if_false];exact Jx ⟨rfl,rfl,λu Z=>hall u (JF _ Z)⟩
 ·rintro⟨r1,r2⟩ s' ⟨hr,rfl,_⟩;simp only at hr;subst hr;exact Jx h
theorem lA{Q:Bool->b_->Prop}(Y:i_ (la prog w) s.heap ks a)(h:Q dt s):eb (eK prog w) A (G3 8 (.ref a)) Q E s:=by
 have U:=Y.typeIs;obtain⟨o,items,n,X,_,hd,W⟩:=Y;unfold G3;refine Ju (LZ U ?_);simp only;rw[if_pos (by decide)];refine Ju (Jx ?_);simp only[y1,er,if_false];refine Ju (KD X hd ?_);simp only;refine Ju ?_;show eb _ _ (OP items _ _) _ _ s;rw[<-Array.forIn_toList];refine L9 _ (λrest r s'=>r.1=none/\s'=s/\∀v∈rest,∃n t,v=ly n t) _ ?_ ?_ _ _ ⟨rfl,rfl,items_int W⟩
 ·rintro v rest r s' ⟨hr,rfl,hall⟩;obtain⟨i,t,rfl⟩:=hall v JL;refine Ju ?_;unfold G3;refine Jx ?_;simp only[er,if_false];exact Jx ⟨rfl,rfl,λu Z=>hall u (JF _ Z)⟩
 ·rintro⟨r1,r2⟩ s' ⟨hr,rfl,_⟩;simp only at hr;subst hr;exact Jx h
theorem Ey(X:i_ (la prog w) s.heap kx ax)(W:∀y∈ys,∃k a,y= .ref a/\i_ (la prog w) s.heap k a){Q:Bool->b_->Prop}(h:Q dt s):
  eb (eK prog w) A (searchCouldBeSeen (.ref ax) ys) Q E s:=by
 unfold searchCouldBeSeen;refine Ju ?_;refine L9 _ (λrest r s'=>r.1=none/\s'=s/\∀v∈rest,∃k a,v= .ref a/\i_ (la prog w) s.heap k a) _ ?_ ?_ _ _ ⟨rfl,rfl,W⟩
 ·rintro v rest r s' ⟨hr,rfl,hall⟩;obtain⟨k,a,rfl,Y⟩:=hall v JL;have tl:∀u∈rest,∃k a,u= .ref a/\i_ (la prog w) s'.heap k a:=λu Z=>hall u (JF _ Z);simp only;split
  ·exact Jx ⟨rfl,rfl,tl⟩
  ·refine Ju (wpAny_eqIsQuiet_tuple X ?_);simp only[y1,er,if_false];refine Ju (wpAny_eqIsQuiet_tuple Y ?_);simp only[y1,er,if_false];refine Ju (lA X ?_);simp only[er,if_false];refine Ju (lA Y ?_);simp only[er,if_false];exact Jx ⟨rfl,rfl,tl⟩
 ·rintro⟨r1,r2⟩ s' ⟨hr,rfl,_⟩;simp only at hr;subst hr;exact Jx h
abbrev KA:=List Int×c_
def fO(prog:ee)(w:ey)(k:List Int):Int:=tupleKeyHash (la prog w) k
def ent(prog:ee)(w:ey)(p:KA):Ent:=(fO prog w p.1,.ref p.2)
def ur(prog:ee)(w:ey)(h:fc)(L:List KA):Prop:=∀p∈L,i_ (la prog w) h p.1 p.2
structure SetAt(prog:ee)(w:ey)(h:fc)(a:c_)(o:Obj)(es:Array Ent)(ep:Nat)(t:kr)(L:List KA):Prop where
 get:h.get? a=ar o
 ex:o.ExactSet
 dat:o.data= .set es ep t
 ok:TOk t es
 pln:t.plain=dr
 led:t.led= !(w.params.followText "set-order")
 ents:es.toList=L.map (ent prog w)
 nd:(L.map (·.1)).Nodup
theorem SetAt.fits(k:SetAt prog w h a o es ep t L):t.fits es.size=true:=k.ok.fits k.ok.le
theorem SetAt.ent_at(k:SetAt prog w h a o es ep t L)(i:Nat):es[i]? =(L[i]?).map (ent prog w):=by rw[<-JY,k.ents,JP]
theorem SetAt.len(k:SetAt prog w h a o es ep t L):es.size=L.length:=by rw[<-K6,k.ents,Jy]
theorem zw{t:kr}:t.sameMemory t.moves t.mask=ar true:=by unfold SetTable.sameMemory;simp
theorem pF{a ax:c_}{o:Obj}{es:Array Ent}{ep:Nat}{t:kr}{L:List KA}{Z:List Int}(hu:A.units<v_)(k:SetAt prog w s.heap a o es ep t L)(d:ur prog w s.heap L)(f:i_ (la prog w) s.heap Z ax)
  {K:Nat} (B:t.slot (bD t.mask (fO prog w Z) K).j= .empty) (G:K<10*E_ t.mask) {Q:SetFound->b_->Prop}
  (U:Z∈L.map (·.1)->Q (.there none) s)
  (J:Z∉L.map (·.1)->∀n,t.slot (bD t.mask (fO prog w Z) n).j= .empty->(∀m,m<n->∃i,t.slot (bD t.mask (fO prog w Z) m).j= .live i)->Q (.free (bD t.mask (fO prog w Z) n).j dt) s):
  ∀(fuel n:Nat) (st:Option SetTable.Probe),st.getD (t.probeStart (fO prog w Z))=bD t.mask (fO prog w Z) n->n<=K->K - n<fuel->
   (∀m,m<n->∃i,t.slot (bD t.mask (fO prog w Z) m).j= .live i/\∀p,L[i]? =ar p->p.1≠Z)->eb (eK prog w) A (setSearchFrom a (.ref ax) (fO prog w Z) dr fuel st) Q E s
 |0,n,st,e,v,h2,h3=>by omega
 | fuel+1,n,st,e,v,h2,h3=>by
  have odd:t.gaveWay=false:=by unfold SetTable.gaveWay;rcases k.ok.msk with h|h<;>rw[h]<;>rfl
  unfold setSearchFrom;refine Ju (KB k.get k.dat k.fits ?_);simp only;rw[odd];simp only[er,if_false];rw[e];obtain⟨Y,g1,g2,g3,g4⟩:=vF k.ok.dum (λi=>(es[i]?.map (·.1)).getD 0) (fO prog w Z) K B (10*E_ t.mask) n v (by omega);have stored:∀(i:Nat) (p:KA),L[i]? =ar p->(es[i]?.map (·.1)).getD 0=fO prog w p.1:=λi p W=>by rw[k.ent_at,W];rfl
  have before:∀m,m<Y->∃i,t.slot (bD t.mask (fO prog w Z) m).j= .live i/\∀p,L[i]? =ar p->p.1≠Z:=λm hm=>by
   by_cases hmn:m<n
   ·exact h3 m hmn
   ·obtain⟨i,R,r⟩:=g3 m (by omega) hm;refine⟨i,R,λp W z=>r ?_⟩;rw[stored i p W,z]
  rcases g4 with⟨c1,c2⟩|⟨i,c1,c2,c3⟩
  ·generalize hpr:t.probe _ (fO prog w Z) (bD t.mask (fO prog w Z) n)=pr;have ep:pr=ar (.empty (bD t.mask (fO prog w Z) Y).j none):=hpr.symm.trans c2;subst ep;simp only;refine Jx (J (λO=>?_) Y c1 λm hm=>let ⟨i,q,_⟩:=before m hm;⟨i,q⟩);obtain⟨p,W,rfl⟩:=J8.mp O;obtain⟨H,F⟩:=Li.mp W;have X:es[H]? =ar (ent prog w p):=by rw[k.ent_at,F];rfl
   have S:H<t.place.size:=by rw[k.ok.siz];exact(JO.mp X).1
   have c:At t.place es t.place[H] (ent prog w p):=⟨H,JE S,X⟩;obtain⟨u,w1,w2⟩:=k.ok.way _ _ c;have C:(bD t.mask (fO prog w p.1) u).j=t.place[H]:=w1;rcases Nat.lt_or_ge u Y with l|l
   ·obtain⟨i,R,r⟩:=before u l;rw[C,mr k.ok.ris (JE S)]at R;cases R;exact r p F rfl
   ·rcases Nat.eq_or_lt_of_le l with l|l
    ·subst l;rw[C,mr k.ok.ris (JE S)]at c1;cases c1
    ·obtain⟨e',i',R,_⟩:=w2 Y l;have b:t.place[i']? =ar (bD t.mask (fO prog w p.1) Y).j:=R;rw[mr k.ok.ris b]at c1;cases c1
  ·generalize hpr:t.probe _ (fO prog w Z) (bD t.mask (fO prog w Z) n)=pr;have ep:pr=ar (.candidate (bD t.mask (fO prog w Z) Y).j i (bD t.mask (fO prog w Z) (Y+1))):=hpr.symm.trans c3;subst ep;simp only;have hi:i<es.size:=by rw[<-k.ok.siz];exact(JO.mp (kK c1)).1
   have T:i<L.length:=by rw[<-k.len];exact hi
   have W:L[i]? =ar L[i]:=JB T;have X:es[i]? =ar (ent prog w L[i]):=by rw[k.ent_at,W];rfl
   have I:i_ (la prog w) s.heap L[i].1 L[i].2:=d _ (KL T);have g:∀y∈List.map (λx:Ent=>x.snd) (Array.filter (λx:Ent=>x.fst==fO prog w Z) es).toList,∃k a,y= .ref a/\i_ (la prog w) s.heap k a:=λy hy=>by
    obtain⟨e1,v,rfl⟩:=J8.mp hy;have P:e1∈es.toList:=by have:=Mf.mp v;exact Mf.mpr (Array.mem_filter.mp this).1
    rw[k.ents]at P;obtain⟨p,W,rfl⟩:=J8.mp P;exact⟨p.1,p.2,rfl,d p W⟩
   split
   case' isTrue=>
    refine Ju (Ey f g ?_);simp only[er,if_false]
   all_goals
    rw[X];simp only[ent];refine Ju (Kg (wpAny_eqBool_tuple hu I f ?_));refine Ju (KB k.get k.dat k.fits ?_);by_cases hq:L[i].1=Z
    ·rw[JM hq];simp only[Nt,if_true];exact Jx (U (J8.mpr ⟨_,KL T,hq⟩))
    ·rw[J1 hq];simp only[MT,er,if_false];rw[zw];simp only[if_true];rw[c1];simp only;rw[X];simp only[ent];refine Ju (wpAny_isSame_ref_self (Ju (Jx ?_)));simp only[if_true];refine pF hu k d f B G U J fuel (Y+1) _ rfl ?_ ?_ λm hm=>?_
     ·have:Y≠K:=λz=>by subst z;rw[B]at c1;cases c1
      omega
     ·have:Y≠K:=λz=>by subst z;rw[B]at c1;cases c1
      omega
     ·by_cases hmn:m<Y
      ·exact before m hmn
      ·have:m=Y:=by omega
       subst this;exact⟨i,c1,λp N=>by rw[W]at N;cases N;exact hq⟩
end
def Gx(L:List KA)(p:KA)(L':List KA):Prop:=(p.1∈L.map (·.1)/\L'=L)\/(p.1∉L.map (·.1)/\L'.Perm (p::L))
section
variable {prog:ee}{w:ey}{A:gd}{E:aC->b_->Prop}{s:b_}
theorem vH{h:fc}(Y:h.get? a=ar o)(Z:o.data= .set es ep t):(h.update a (LI es' t')).get? a=ar {o with data:=.set es' (ep+1) t'}:=by have:=Ki (LI es' t') Y (by rw[putSet_of es' t' Z];rfl);rw[putSet_of es' t' Z]at this;exact this
theorem Ez(hu:A.units<v_)(k:SetAt prog w s.heap a o es ep t L)(hL:ur prog w s.heap L)(hx:i_ (la prog w) s.heap kx ax)
  (a5:L.length<18) {Q:Bool->b_->Prop}
  (h:∀b h' o' es' ep' t' J,SetAt prog w h' a o' es' ep' t' J->oi a s.heap h'->Gx L (kx,ax) J->Q b {s with heap:=h'}):
  eb (eK prog w) A (setAddHashed a (.ref ax) (fO prog w kx)) Q E s:=by
 obtain⟨j0,v,x⟩:=xm k.ok.ris k.ok.dum (by rw[k.ok.siz];exact k.ok.le);obtain⟨K,f,l⟩:=cover k.ok.msk (fO prog w kx) j0 v;have a3:10*E_ t.mask<=100000:=by unfold E_;rcases k.ok.msk with z|z<;>rw[z]<;>decide
 unfold setAddHashed setAddHashedIn;refine Kg (Ju (KB k.get k.dat k.fits ?_));have g:byScan (.ref ax) es=false:=by simp[byScan,Value.scannable]
 simp only[g,er,if_false];unfold setSearch;refine Ju ?_;refine pF hu k hL hx (by rw[l];exact x) f ?_ ?_ 100000 0 none rfl (JS _) (by omega) (λm hm=>by omega)
 ·intro Z;simp only;refine Jx ?_;have e:s={s with heap:=s.heap}:=by cases s;rfl
  rw[e];exact h _ s.heap o es ep t L k (Heap.SameBut.refl a s.heap) (.inl ⟨Z,rfl⟩)
 ·intro Z n hn hb;simp only;refine Ju (KB k.get k.dat k.fits ?_);generalize hj:(bD t.mask (fO prog w kx) n).j=j at hn;have I:j<=t.mask:=by
   rw[<-hj];rcases Nat.eq_zero_or_pos n with z|z
   ·subst z;show SetTable.bits _ % (t.mask+1)<=t.mask;have:=MM (SetTable.bits (fO prog w kx)) (show t.mask+1>0 by omega);omega
   ·exact BW _ _ _ k.ok.msk
  obtain⟨T,y,B,H⟩:=Et (e:=ent prog w (kx,ax)) (K:=n) k.ok.toTPre I hn hj λm hm=>by obtain⟨i,q⟩:=hb m hm;obtain⟨e',_,q'⟩:=k.ok.toTPre.at_of (kK q);exact⟨e',q'⟩
  generalize hP:t.put j=P at T y B H⊢;obtain⟨t1,pp⟩:=P;simp only at T y B H⊢;have T:TPre t1 (eo es pp (fO prog w kx,eg ax)):=T;rw[if_pos (by rw[H];exact k.pln)];refine Ju (xq hx ?_);simp only[if_true];have Y:(eo es pp (fO prog w kx,eg ax)).size=es.size+1:=nj _ _ _;have hlen:=k.len;refine Ju (wpAny_storeSet_of k.get k.dat ?_ (by rw[Y,Kc];omega));have g1:=vH (es':=eo es pp (fO prog w kx,eg ax)) (t':=t1) k.get k.dat;have G:=KC s.heap a (LI (eo es pp (fO prog w kx,eg ax)) t1);have W:(eo es pp (fO prog w kx,eg ax)).toList=(L.take pp++(kx,ax)::L.drop pp).map (ent prog w):=by rw[SetTable.toList_insertAt,k.ents,KQ,JQ,List.map_take,List.map_drop];rfl
  have X:(L.take pp++(kx,ax)::L.drop pp).Perm ((kx,ax)::L):=by
   have:=List.perm_middle (a:=(kx,ax)) (l₁:=L.take pp) (l₂:=L.drop pp)
   rwa [List.take_append_drop]at this
  have u:((kx::L.map (·.1))).Nodup:=Ko.mpr ⟨Z,k.nd⟩;have F:∀J:List KA,J.Perm ((kx,ax)::L)->(J.map (·.1)).Nodup:=λJ hp=>(Lx (hp.map (λp:KA=>p.1))).mpr u;by_cases hful:t1.tooFull=dr
  ·rw [hful];simp only[Bool.not_false,Nt,if_true];have O:(es.size+1)*5 ≥ t.mask*3:=by
    unfold SetTable.tooFull SetTable.fill at hful;rw[T.siz,T.dum,y,Y]at hful;simpa using hful
   have d:es.size+1=5:=by have:=k.ok.few;rcases k.ok.msk with z|z<;>rw[z]at O this<;>omega
   obtain⟨r,ord,r1,r2,c,r4,r5,r6⟩:=xp (t:=t1) (es:=eo es pp (fO prog w kx,eg ax)) (by rw[Y];exact d);have C:t1.fits (eo es pp (fO prog w kx,eg ax)).size=true:=T.fits (by rw[Y,y];have:=k.ok.few;rcases k.ok.msk with z|z<;>rw[z]at this⊢<;>omega)
   unfold setRelay;refine Ju (Ju (KB (s:={s with heap:=s.heap.update a (LI (eo es pp (fO prog w kx,eg ax)) t1)}) g1 rfl C ?_));simp only;rw[d];rw[if_neg (by rw[Kc];decide)];rw[r1];refine Ju ?_;have step:∀(R:Array Ent×kr->b_->Prop) (s1:b_),R (ord.filterMap ((eo es pp (fO prog w kx,eg ax))[·]?),r) s1->
     eb (eK prog w) A (if ((ord.filterMap ((eo es pp (fO prog w kx,eg ax))[·]?)).size !=(eo es pp (fO prog w kx,eg ax)).size)=dr
      then (do unsupported "internal:set-table-lost-an-element";a_ (ord.filterMap ((eo es pp (fO prog w kx,eg ax))[·]?),r))else a_ (ord.filterMap ((eo es pp (fO prog w kx,eg ax))[·]?),r)) R E s1:=λR s1 hR=>by
    rw[if_neg (by rw[c];simp)];exact Jx hR
   refine step _ _ ?_;refine wpAny_storeSet_of (s:={s with heap:=s.heap.update a (LI (eo es pp (fO prog w kx,eg ax)) t1)}) g1 rfl ?_ (by rw[c,Y,Kc];omega);have N:(ord.filterMap ((eo es pp (fO prog w kx,eg ax))[·]?)).toList=(ord.toList.filterMap ((L.take pp++(kx,ax)::L.drop pp)[·]?)).map (ent prog w):=by rw[Array.toList_filterMap,List.map_filterMap];refine j4 λi _=>?_;rw[<-JY,W,JP]
   have U:(ord.toList.filterMap ((L.take pp++(kx,ax)::L.drop pp)[·]?)).Perm ((kx,ax)::L):=by
    refine(r2.filterMap _).trans ?_;have e1:(eo es pp (fO prog w kx,eg ax)).size=(L.take pp++(kx,ax)::L.drop pp).length:=by rw[<-K6,W,Jy]
    rw[e1,List.filterMap_getElem?_range_length];exact X
   refine Jx (h _ _ _ _ _ _ _ ⟨vH g1 rfl,k.ex,rfl,r4,by rw[r6,H];exact k.pln,by rw[r5,B];exact k.led,N,F _ U⟩ (G.trans (KC _ a _)) (.inr ⟨Z,U⟩))
  ·simp only[hful,MT,er,if_false];refine Jx ?_;refine h _ _ _ _ _ _ _ ⟨g1,k.ex,rfl,⟨T,?_⟩,by rw[H];exact k.pln,by rw[B];exact k.led,W,F _ X⟩ G (.inr ⟨Z,X⟩);unfold SetTable.tooFull SetTable.fill at hful;rw[T.siz,T.dum]at hful;have S:¬ (eo es pp (fO prog w kx,eg ax)).size*5 ≥ t1.mask*3:=by simpa using hful
   exact Nat.lt_of_not_ge S
end
theorem uu{h':fc}(x:i_ (la prog w) h k a)(e:∀o,h.get? a=ar o->h'.get? a=ar o):i_ (la prog w) h' k a:=
 let ⟨o,its,n,ho,r⟩:=x
 ⟨o,its,n,e o ho,r⟩
theorem SetAt.at{h':fc}(k:SetAt prog w h a o es ep t L)(e:∀o,h.get? a=ar o->h'.get? a=ar o):SetAt prog w h' a o es ep t L:=
 {k with get:=e o k.get}
structure Folded(kv L:List KA):Prop where
 nd:(L.map (·.1)).Nodup
 mem:∀k,k∈L.map (·.1)↔k∈kv.map (·.1)
 sub:∀p∈L,p∈kv
 len:L.length<=kv.length
theorem Folded.nil:Folded [] []:=⟨.nil,λ_=>.rfl,λ_ h=>h,Jw _⟩
theorem Folded.add(f:Folded kv L)(h:Gx L p L'):Folded (kv++[p]) L':=by
 rcases h with⟨h1,rfl⟩|⟨h1,h2⟩
 ·refine⟨f.nd,λk=>?_,λq Z=>Lo _ (f.sub q Z),by have:=f.len;simp;omega⟩;rw[f.mem,KQ,K3];refine⟨.inl,λz=>z.elim id λz=>?_⟩;have:k=p.1:=by simpa using z
  rw[this];exact(f.mem _).mp h1
 ·have hm:=h2.map (λq:KA=>q.1);refine⟨(Lx hm).mpr (Ko.mpr ⟨h1,f.nd⟩),λk=>?_,λq Z=>?_,by have:=f.len;rw[h2.length_eq];simp;omega⟩
  ·rw[hm.mem_iff,JQ,JN,f.mem,KQ,K3];constructor
   ·rintro(rfl|z)
    ·exact .inr (by simp)
    ·exact .inl z
   ·rintro(z|z)
    ·exact .inr z
    ·exact .inl (by simpa using z)
  ·rcases JN.mp (h2.mem_iff.mp Z)with rfl|z
   ·exact JX _ (List.mem_singleton.mpr rfl)
   ·exact Lo _ (f.sub q z)
section
variable {prog:ee}{w:ey}{A:gd}{R:OE->b_->Prop}{I:c_}{fp wr:List c_}{G:Array M5->Array M5->Prop}{n:Nat}{P:Nat->aC->Prop}{St:Nat->b_->Prop}
theorem BZ(W:WalksS prog w A.in1 I fp wr G n P St)(H:S∉fp)(Z:Nat->KA)(K:∀i v,P i v->v= .ref (Z i).2)(hn:n<=18)(d:A.in1.units<v_)(x:∀i,i<n->(Z i).2∉S::wr):
  ∀(c i:Nat) (s:b_),n - i=c->i<=n->St i s->(∀j,j<n->i_ (la prog w) s.heap (Z j).1 (Z j).2)->∀o es ep t L,SetAt prog w s.heap S o es ep t L->Folded ((e_ i).map Z) L->
   (∀s',Moved (S::wr) G s s'->∀o es ep t L,SetAt prog w s'.heap S o es ep t L->Folded ((e_ n).map Z) L->R (.ok (.ret .none)) s')->
   C_ (eK prog w) A (.builtin "set.update.loop" ⟨[.ref S,.ref I],[]⟩) R s:=by
 have E:S∉wr:=λh=>H (W.sub _ h);have Y:∀b∈wr,b∈S::wr:=λb y=>JF _ y;intro c
 induction c with
 |zero=>
  intro i s hc hi T f o es ep t L l J q;obtain rfl:i=n:=by omega
  refine Lj F.entry_set_update_loop ?_;rw[K2 LG _];show eb _ A.in1 (EA (.ref I)>>=_) _ _ s;refine Ju (W.done s _ _ T λs' hm=>?_);show eb _ A.in1 (ret gg) _ _ s';exact Jx (q s' (hm.mono Y) o es ep t L (l.at λN e=>hm.heap S N E e) J)
 | succ c ih=>
  intro i s hc hi T f o es ep t L l J q;have X:i<n:=by omega
  refine Lj F.entry_set_update_loop ?_;rw[K2 LG _];show eb _ A.in1 (EA (.ref I)>>=_) _ _ s;refine Ju (W.item i s _ _ X T λv s' hP B hm=>?_);cases K i v hP;have k:=l.at (h':=s'.heap) λN e=>hm.heap S N E e;have U:∀j,j<n->i_ (la prog w) s'.heap (Z j).1 (Z j).2:=λj O=>uu (f j O) λN e=>hm.heap _ N (λz=>x j O (Y _ z)) e;show eb _ A.in1 (B' [eg (Z i).2] (setAdd S (.ref (Z i).2))>>=_) _ _ s';refine Ju (Kg ?_);unfold setAdd;refine Kg ?_;refine Ju (wpAny_pyHash_tuple d (U i X) ?_);have a6:L.length<=i:=by have:=J.len;simpa using this
  have r:ur prog w s'.heap L:=λp hp=>by obtain⟨j,O,rfl⟩:=J8.mp (J.sub p hp);exact U j (L5 (J0.mp O) X)
  refine Ez (s:={s' with toks:=s'.toks+((Z i).1.length+1)}) d k r (U i X) (by omega) λb h' N es' a t' L' g Q hA=>?_;have u:Folded ((e_ (i+1)).map Z) L':=by rw[List.range_succ,KQ];exact J.add hA
  refine Jx ⟨MU LG _,ih (i+1) _ (by omega) X (W.frame _ s' _ _ B (K8 _ _) λb y o e=>?_) (λj O=>uu (U j O) λo e=>?_) _ _ _ _ _ g u λm C=>?_⟩
  ·rw[Q.2 b (λh:b=S=>H (by rw[<-h];exact y))];exact e
  ·rw[Q.2 _ (λh=>x j O (by rw[h];exact JL))];exact e
  ·refine q m (Moved.trans W.gtrans ((hm.mono Y).then_heap (K8 _ _) λb o y e=>?_) C);rw[Q.2 b (λh:b=S=>y (by rw[h];exact JL))];exact e
end
section
variable {prog:ee}{w:ey}{A:gd}{E:aC->b_->Prop}{s:b_}
theorem sm:NK (.type "tuple") (.type "set")=a_ false:=by rw[LY];kernel_rfl
theorem qH:NK (.type "tuple") (.type "frozenset")=a_ false:=by rw[LY];kernel_rfl
def cM(led:Bool):Obj:={cls:=.type "set",dict:=none,data:=.set #[] 0 (.fresh 0 0 led)}
def fS(w:ey):Bool:= !(w.params.followText "set-order")
def Src(h:fc)(x:c_)(items:Array aC):Prop:=h.IsList x items\/h.IsTuple x items
theorem Src.at{h':fc}(r:Src h x items)(e:∀o,h.get? x=ar o->h'.get? x=ar o):Src h' x items:=by
 rcases r with⟨o,ho,r⟩|⟨o,ho,r⟩
 ·exact .inl ⟨o,e o ho,r⟩
 ·exact .inr ⟨o,e o ho,r⟩
theorem Src.lt(r:Src h x items):x<h.objs.size:=by rcases r with⟨o,ho,_⟩|⟨o,ho,_⟩<;>exact JC ho
theorem zx(r:Src s.heap x items)
  (h:∀(ob:Obj) (St:Nat->fc->Prop),(∀Y:gd,Y.handled=none->Walks prog w Y s.heap.objs.size [s.heap.objs.size,x] [s.heap.objs.size] items.size (λi v=>items[i]? =ar v) St)->St 0 (s.heap.push ob)->
   Q (.ref s.heap.objs.size) {s with heap:=s.heap.push ob}):eb (eK prog w) A (NV (.ref x)) Q E s:=by
 have Z:x≠s.heap.objs.size:=JK r.lt;rcases r with r|r
 ·refine MG r (h _ _ (λY X=>Walks.list X s.heap.objs.size x Z items) ⟨⟨_,JD _ rfl,rfl,rfl⟩,r.push _⟩)
 ·refine LA r (h _ _ (λY X=>Walks.tuple X s.heap.objs.size x Z items) ⟨⟨_,JD _ rfl,rfl,rfl⟩,?_⟩);obtain⟨o,W,q⟩:=r;exact⟨o,Jv _ W,q⟩
theorem Iz(a:aC){Q1:aC->b_->Prop}(h:Q1 (.ref s.heap.objs.size) {s with heap:=s.heap.push (cM (fS w))}):
  C_ (eK prog w) A (.call (.builtin "set.__new__") ⟨[.type "set",a],[]⟩) (wants Q1 E) s:=by
 refine codeAny_of_tree ?_;show eb _ A.in1 (do K_ "set.__new__" ⟨[.type "set",a],[]⟩;NW (.builtin "set.__new__" ⟨[.type "set",a],[]⟩)) _ _ s;refine Ju (NQ (F.newCall_set_1 a) (Jx ⟨MU F.plain_set_new _,Lj F.entry_set_new ?_⟩));rw[K2 F.plain_set_new _];unfold Builtin.«set.__new__» Builtin.Frozenset.newClass;have Z:=sub_set_self;obtain⟨X,g,d,Y,os⟩:=s;dsimp only
 wp_walk
 refine Ls (Jx ?_);dsimp only;simp only[newObj];exact Ju (wpAny_alloc (Jx (Jx h)))
theorem zy(r:Src s.heap x items):∃T,s.TypeIs (.ref x) T/\NK (.type T) (.type "set")=a_ dt/\NK (.type T) (.type "frozenset")=a_ dt/\(t_ T==t_ "dict")=false:=by
 rcases r with⟨o,ho,hc,_⟩|⟨o,ho,hc,_⟩
 ·exact⟨"list",⟨o,ho,hc⟩,F.sub_list_set,F.sub_list_frozenset,by decide⟩
 ·exact⟨"tuple",⟨o,ho,hc⟩,sm,qH,by decide⟩
set_option maxHeartbeats 8000000 in
theorem EB(hh:A.handled=none)(hu:A.in1.in1.in1.units<v_)(r:Src s.heap x items)(X:Nat->KA)(U:∀(i:Nat) (v:aC),items[i]? =ar v->v= .ref (X i).2)(hn:items.size<=18)
  (z:∀j,j<items.size->i_ (la prog w) s.heap (X j).1 (X j).2)
  (h:∀(h':fc) (tk:Nat) o es ep t L,SetAt prog w h' s.heap.objs.size o es ep t L->Folded ((e_ items.size).map X) L->(∀b o,b<s.heap.objs.size->s.heap.get? b=ar o->h'.get? b=ar o)->
   Q (.ref s.heap.objs.size) {s with heap:=h',toks:=tk}):eb (eK prog w) A (call (.type "set") [.ref x]) Q E s:=by
 obtain⟨c,tl,n⟩:=F.called_set.mro;have I:=F.called_set.made;have y:=F.called_set.sub;refine MI (codeAny_of_tree ?_);show eb _ _ (callAny (.type "set") _) _ _ _;refine Jx ⟨Code.quiet_builtin _ (by decide+kernel),Lj F.entry_type_call ?_⟩;rw[Around.under_plain (weight_type_call_type "set" [.ref x] []) rfl];have h1:=F.called_set.notType;have h2:=F.called_set.canCreate;have a4:=F.typeCall_set_1 (.ref x)
 repeat (any_goals (first|assumption|wp_step))
 refine Lg (Iz (.ref x) (E:=E) (Q1:=λobj s1=>obj= .ref s.heap.objs.size/\s1={s with heap:=s.heap.push (cM (fS w))}) ⟨rfl,rfl⟩) λrr s1 C=>?_;cases rr with
 |error e=>exact C
 | ok fl=>
  cases fl with
  | ret obj=>
   obtain⟨rfl,rfl⟩:=C;have B:(s.heap.push (cM (fS w))).get? s.heap.objs.size=ar (cM (fS w)):=JD _ rfl;have m:Nu {s with heap:=s.heap.push (cM (fS w))} (.ref s.heap.objs.size) "set":=⟨_,B,rfl⟩;have a3:=F.called_set.init.lookup;have b3:=F.called_set.init.bind (.ref s.heap.objs.size)
   repeat (any_goals (first|assumption|wp_step))
   refine Lg (codeAny_call_builtin (R:=wants (λr s2=>r= .none/\Q (.ref s.heap.objs.size) s2) E) F.called_set.init.plain F.entry_set_init (check_set_init_1 m ?_)) λr2 s2 Z=>?_
   ·have q:Src (s.heap.push (cM (fS w))) x items:=r.at λo e=>Jv _ e;obtain⟨Tx,l,g,d,hd⟩:=zy (s:={s with heap:=s.heap.push (cM (fS w))}) q;unfold Builtin.«set.__init__» noKeywords Builtin.Frozenset.updateFrom;generalize hPI:NV=PI;have b1:=m;unfold cM at B
    wp_walk
    subst hPI;refine zx (s:={s with heap:=s.heap.push (cM (fS w))}) q λu St W P=>?_;refine Ju (wpAny_runValue ?_);have N:x<s.heap.objs.size:=r.lt;have Y:(s.heap.push (cM (fS w))).objs.size=s.heap.objs.size+1:=Ku _ _;have J:s.heap.objs.size∉[(s.heap.push (cM (fS w))).objs.size,x]:=by rw[Y];simp only[gc,fb,or_false,not_or];exact⟨JK (Mc _),KU N⟩
    have K:A.in1.in1.in1.handled=none:=by simp[hh]
    have up:∀b o,s.heap.get? b=ar o->((s.heap.push (cM (fS w))).push u).get? b=ar o:=λb o e=>Jv _ (Jv _ e);have T:∀j,j<items.size->(X j).2<s.heap.objs.size:=λj S=>let ⟨_,_,_,e,_⟩:=z j S;JC e;have S0:SetAt prog w ((s.heap.push (cM (fS w))).push u) s.heap.objs.size (cM (fS w)) #[] 0 (.fresh 0 0 (fS w)) []:=
     ⟨Jv _ (JD _ rfl),⟨rfl,rfl,rfl⟩,rfl,zl _,rfl,rfl,rfl,.nil⟩
    refine BZ ((W _ K).toS) J X U hn hu (λj S=>?_) (items.size - 0) 0 _ rfl (JS _) P (λj S=>uu (z j S) λo e=>up _ o e) _ _ _ _ _ S0 .nil λs' hm o es ep t L H f=>?_
    ·rw[Y];have:=T j S;simp only[gc,fb,or_false,not_or];exact⟨JK this,JK (KO this)⟩
    ·obtain⟨h',g',d',O,G⟩:=s';have a:g'=s.gens:=hm.gens;have ed:d'=s.drawn:=hm.drawn;have k:G=s.os:=hm.os;subst a ed k;show eb _ _ _ _ _ _;refine Jx ?_;show eb _ _ (ret gg) _ _ _;refine Jx ⟨rfl,h h' O o es ep t L H f λb o p e=>?_⟩;refine hm.heap b o ?_ (up b o e);rw[Y];simp only[gc,fb,or_false,not_or];exact⟨JK p,JK (KO p)⟩
   ·cases r2 with
    |error e=>exact Z
    | ok fl2=>
     cases fl2 with
     |ret rv=>
      obtain⟨rfl,hq⟩:=Z
      repeat (any_goals (first|assumption|wp_step))
     |_=>exact Z.elim
  |_=>exact C.elim
end
theorem nv{Z:Type}:∀{l:List Z} {i:Nat} {x:Z},l[i]? =ar x->l.Perm (x::l.eraseIdx i)
 |[],_,_,h=>by simp at h
 |y::l,0,x,h=>by simp at h;subst h;exact .refl _
 |y::l,i+1,x,h=>by
  have:=nv (l:=l) (i:=i) (x:=x) (by simpa using h);rw[List.eraseIdx_cons_succ];exact(E1 y this).trans (.swap _ _ _)
theorem vI{W:Type}(Z:Nat->Nat):∀(fuel k:Nat) (left:List W) (out:Array W),left.length=fuel->(ND Z fuel k left out).toList.Perm (out.toList++left)
 |0,k,left,out,h=>by
  have:left=[]:=List.length_eq_zero_iff.mp h;subst this;unfold ND;simp
 |fuel+1,k,left,out,h=>by
  unfold ND;have Y:Z k % left.length<left.length:=MM _ (by omega)
  have X:left[Z k % left.length]? =ar left[Z k % left.length]:=JB Y;rw[X];simp only;refine(vI Z fuel (k+1) _ _ (by rw[Mr Y];omega)).trans ?_;rw[Array.toList_push,JT];exact List.Perm.append_left _ (nv X).symm
theorem xr{Y:Type}(Z:Nat->Nat)(xs:Array Y):(NL Z xs).toList.Perm xs.toList:=by
 have:=vI Z xs.size 0 xs.toList #[] (by simp)
 simpa [NL]using this
def ic(w:ey)(a:c_)(ep:Nat)(es:Array Ent):Array Ent:=if w.params.followText "set-order"=dr then NL (w.params.setOrder a ep) es else es
theorem pG(w:ey)(a:c_)(ep:Nat)(es:Array Ent):(ic w a ep es).toList.Perm es.toList:=by
 unfold ic;split
 ·exact xr _ _
 ·exact .refl _
theorem iZ(w:ey)(a:c_)(ep:Nat)(es:Array Ent):(ic w a ep es).size=es.size:=by have:=(pG w a ep es).length_eq;simpa using this
theorem cY:Slot "set_iterator" "__next__" "set_iterator.__next__":=
 .of (owner:="set_iterator") (n:="__next__") (by rw[M4,L6];kernel_rfl) (by decide+kernel) (by decide+kernel) (by decide+kernel)
  (by first|exact .inl (by decide+kernel)|exact .inr (by decide+kernel)) (by rw[LY];kernel_rfl)
theorem jb:Oy table "set_iterator.__next__"=ar Builtin.«set_iterator.__next__»:=entryFor_of_fast (by kernel_rfl)
theorem j5(a:aC):OJ "set_iterator.__next__" ⟨[a],[]⟩:=by unfold OJ;kernel_rfl
theorem ny:Oy table "set.__iter__"=ar Builtin.«frozenset.__iter__»:=
 entryFor_alias (id':="frozenset.__iter__") (by kernel_rfl) rfl (by decide+kernel) (by kernel_rfl)
section
variable {prog:ee}{w:ey}{A:gd}{E:aC->b_->Prop}{s:b_}
def eU(w:ey)(t:kr)(i:Nat):Nat:=if w.params.followText "set-order"=dr then 0 else match i with
 |0=>0
 |i+1=>t.place.getD i 0+1
structure IterAt(w:ey)(h:fc)(I a:c_)(t:kr)(sz ep i:Nat):Prop where
 ex:∃o,h.get? I=ar o/\o.cls= .type "set_iterator"/\o.data= .fields #[.int (eU w t i) 0,.int i 0,.ref a,.int sz 0,.int ep 0]
theorem IterAt.typeIs(k:IterAt w s.heap I a t sz ep i):s.TypeIs (.ref I) "set_iterator":=
 let ⟨o,ho,hc,_⟩:=k.ex
 ⟨o,ho,hc⟩
theorem vJ(k:SetAt prog w s.heap a o es ep t L)(G:i<=es.size){Q:Option (aC×Nat)->b_->Prop}
  (h:Q (((ic w a ep es)[i]?).map λe=>(e.2,eU w t (i+1))) s):eb (eK prog w) A (setNext a (eU w t i) i ep) Q E s:=by
 unfold setNext;refine Ju (KB k.get k.dat k.fits ?_);simp only;unfold N8;refine Ju (Ju (Ls (Jx ?_)));show eb _ _ (if (w.params.followText "set-order")=dr then _ else _) _ _ s;by_cases hw:w.params.followText "set-order"=dr
 ·rw[if_pos hw];simp only[bne_self_eq_false,er,if_false];unfold setWalk;refine Ju (Ju (KB k.get k.dat k.fits ?_));simp only;unfold N8;refine Ju (Ju (Ls (Jx ?_)));show eb _ _ (if (w.params.followText "set-order")=dr then _ else _) _ _ s;rw[if_pos hw];refine Ju (Ls (Jx ?_));refine Jx ?_;have e1:ic w a ep es=NL (w.params.setOrder a ep) es:=by unfold ic;rw[if_pos hw]
  have e2:∀j,eU w t j=0:=λj=>by unfold eU;rw[if_pos hw]
  rw[e1,e2]at h;rw[e2];exact h
 ·rw [if_neg hw];have P:(!t.plain && decide (es.size>1))=false:=by rw[k.pln];rfl
  have J:t.led=true:=by rw[k.led];simpa using hw
  have e1:ic w a ep es=es:=by unfold ic;rw[if_neg hw]
  have e2:∀j,eU w t j=match j with|0=>0|j+1=>t.place.getD j 0+1:=λj=>by unfold eU;rw[if_neg hw]
  have I:Na t.place (eU w t i)=i:=by
   obtain⟨T,Y,W⟩:=ni k.ok.ris (eU w t i);cases i with
   | zero=>
    rw[e2]at T Y W⊢;simp only at T Y W⊢;rcases Nat.eq_zero_or_pos (Na t.place 0)with z|z
    ·exact z
    ·have Z:0<t.place.size:=by omega
     have:=Y 0 _ z (JE Z);omega
   | succ i=>
    have X:i<t.place.size:=by rw[k.ok.siz];omega
    have S:t.place.getD i 0=t.place[i]:=by simp[N7,X]
    rw[e2]at T Y W⊢;simp only[S]at T Y W⊢;have O:=JE X;rcases LV (Na t.place (t.place[i]+1)) (i+1)with l|l|l
    ·have:=W i _ (by omega) O;omega
    ·exact l
    ·have Z:i+1<t.place.size:=by omega
     have F:=Y (i+1) _ l (JE Z);have H:=k.ok.ris i (i+1) _ _ (by omega) O (JE Z);omega
  generalize hu:PySem.unsupported=U;show eb _ _ (if (!t.plain && decide (es.size>1))=dr then _ else _) _ _ s;rw[P];simp only[er,if_false];have hm:∀R:Unit->b_->Prop,R () s->eb (eK prog w) A (if (!t.led && !es.isEmpty)=dr then unsupported "set:maker-not-led" else a_ ()) R E s:=λR K=>by rw[J];simp only[y1,Bool.false_and,er,if_false];exact Jx K
  refine Ju (hm _ ?_);refine Jx ?_;rw[I];rw[e1,e2]at h;simp only at h;by_cases Z:i<es.size
  ·have N:i<t.place.size:=by rw[k.ok.siz];exact Z
   have S:t.place.getD i 0=t.place[i]:=by simp[N7,N]
   rw[JE Z,S]at h;rw[JE Z,JE N];exact h
  ·rw[Kw (by omega)]at h;rw[Kw (by omega)];exact h
end
theorem zz{Y W:Type}{f:Y->W}{l X:List W}(h:l.Perm X):∀L:List Y,X=L.map f->∃Z:List Y,Z.Perm L/\l=Z.map f:=by
 induction h with
 |nil=>intro L e;exact⟨[],by rw[List.map_eq_nil_iff.mp e.symm],rfl⟩
 | cons x _ ih=>
  intro L e;cases L with
  |nil=>cases e
  |cons y L=>
   rw[JQ]at e;injection e with e1 e2;obtain⟨Z,p,q⟩:=ih L e2;exact⟨y::Z,p.cons y,by rw[q,e1];rfl⟩
 | swap x y l=>
  intro L e
  match L,e with
  |[],e=>cases e
  |[_],e=>rw[JQ]at e;injection e with _ e;cases e
  |a::b::L,e=>
   rw[JQ,JQ]at e;injection e with e1 e2;injection e2 with e2 e3;exact⟨b::a::L,.swap _ _ _,by rw[e1,e2,e3];rfl⟩
 |trans _ _ ih1 ih2=>
  intro L e;obtain⟨L1,R,Q⟩:=ih2 L e;obtain⟨T,S,U⟩:=ih1 L1 Q;exact⟨T,S.trans R,U⟩
section
variable {prog:ee}{w:ey}{A:gd}{E:aC->b_->Prop}{s:b_}
theorem pH{h:fc}{g:Array aC->Array aC}(Y:h.get? I=ar o)(Z:o.data= .fields fs):
  ∃o',(h.update I (y2 g)).get? I=ar o'/\o'.cls=o.cls/\o'.data= .fields (g fs):=
 ⟨_,Ki _ Y (Lk (KJ Z _)),MR ..,KJ Z _⟩
theorem next_item{Q:Option aC->b_->Prop}(k:SetAt prog w s.heap a o es ep t L)(Z:IterAt w s.heap I a t es.size ep i)(P:I≠a)
  (U:(ic w a ep es)[i]? =ar e) (J:∀h',IterAt w h' I a t es.size ep (i+1)->oi I s.heap h'->Q (ar e.2) {s with heap:=h'}):eb (eK prog w) A (EA (.ref I)) Q E s:=by
 obtain⟨H,X,N,hd⟩:=Z.ex;have Y:i<es.size:=by rw[<-iZ w a ep es];exact(JO.mp U).1
 unfold EA;refine Ju (LH (wpAny_callSpecial?_slot (name:=hI "__next__") Z.typeIs cY
  (Kk cY Z.typeIs jb ?_ (j5 _))))
 unfold Builtin.«set_iterator.__next__»;refine Ju (m:=Oz "__next__" 0 _) (Jx ?_);refine Ju (wpAny_fieldsOf X hd ?_);simp only;refine Ju (Ml k.get k.dat k.fits ?_);rw[if_neg (by simp)];refine Ju ?_;rw[Kt,Kt,Kt];refine vJ k (KS Y) ?_;rw[U];simp only[z4];refine Ju (Lc X hd (by simp) ?_);obtain⟨K,g1,O,T⟩:=pH (g:=λW=>W.set! 0 (k8 (eU w t (i+1):Nat))) X hd;refine Ju (Lc (o:=K) (s:={s with heap:=_}) g1 T (by simp) (Jx ⟨e.2,rfl,Jx (J _ ?_ ((KC ..).trans (KC ..)))⟩));obtain⟨o2,g2,R,S⟩:=pH (g:=λW=>W.set! 1 (k8 ((i:Int)+1))) g1 T;refine⟨o2,g2,by rw[R,O];exact N,?_⟩;rw[S];simp[k8]
theorem next_end{Q:Option aC->b_->Prop}(Y:A.handled=none)(k:SetAt prog w s.heap a o es ep t L)(Z:IterAt w s.heap I a t es.size ep es.size)
  (W:∀h',Heap.ExtBut I s.heap h'->Q none {s with heap:=h'}):eb (eK prog w) A (EA (.ref I)) Q E s:=by
 obtain⟨S,X,U,hd⟩:=Z.ex;unfold EA;refine Ju (LH (wpAny_callSpecial?_slot (name:=hI "__next__") Z.typeIs cY
  (Kk cY Z.typeIs jb ?_ (j5 _))))
 unfold Builtin.«set_iterator.__next__»;refine Ju (m:=Oz "__next__" 0 _) (Jx ?_);refine Ju (wpAny_fieldsOf X hd ?_);simp only;refine Ju (Ml k.get k.dat k.fits ?_);rw[if_neg (by simp)];refine Ju ?_;rw[Kt,Kt,Kt];refine vJ k (Jw _) ?_;rw[Kw (by rw[iZ];exact Jw _)];simp only[Option.map_none];refine Ju (Lc X hd (by simp) ?_);show eb _ _ (OK (.type "StopIteration") []>>=_) _ _ _;refine Ju ?_;simp only[OK,newTuple];refine Ju (Ka ?_ (by size_fits));refine Ju (m:=F0 _ _) (NQ (a:=gg) (by first|rfl|(simp only[F0];rfl)) ?_);refine Ka ?_ (by size_fits);simp only[raiseNew];refine Ju (wpAny_handled ?_);first|rw[show A.in1.handled=none from Y]|rw[Y]
 refine Ju (Jx (wpAny_throw ?_));refine Ju (Lu (T:="StopIteration") (b:=dr) ⟨_,JD _ rfl,rfl⟩ ME ?_);exact Jx (W _ (((KC ..).extBut.push _).push _))
theorem IterAt.at{h':fc}(k:IterAt w h I a t sz ep i)(e:∀o,h.get? I=ar o->h'.get? I=ar o):IterAt w h' I a t sz ep i:=
 let ⟨o,ho,r⟩:=k.ex
 ⟨⟨o,e o ho,r⟩⟩
theorem j6:Slot "set_iterator" "__iter__" "set_iterator.__iter__":=
 .of (owner:="set_iterator") (n:="__iter__") (by rw[M4,L6];kernel_rfl) (by decide+kernel) (by decide+kernel) (by decide+kernel)
  (by first|exact .inl (by decide+kernel)|exact .inr (by decide+kernel)) (by rw[LY];kernel_rfl)
theorem oH:Oy table "set_iterator.__iter__"=ar Builtin.«dict_keyiterator.__iter__»:=
 entryFor_alias (id':="dict_keyiterator.__iter__") (by kernel_rfl) rfl (by decide+kernel) (by kernel_rfl)
theorem qI(a:aC):OJ "set_iterator.__iter__" ⟨[a],[]⟩:=by unfold OJ;kernel_rfl
theorem zA{Q:aC->b_->Prop}(k:SetAt prog w s.heap a o es ep t L)
  (S:∀ob,IterAt w (s.heap.push ob) s.heap.objs.size a t es.size ep 0->Q (.ref s.heap.objs.size) {s with heap:=s.heap.push ob}):eb (eK prog w) A (NV (.ref a)) Q E s:=by
 have U:s.TypeIs (.ref a) "set":=⟨o,k.get,k.ex.1⟩;refine wpAny_pyIter_slot U F.slot_set_iter (Kk F.slot_set_iter U ny ?_ (F.args_set_iter_1 _));unfold Builtin.«frozenset.__iter__» Builtin.Frozenset.slot0;refine Ju (Ju (m:=Oz "__iter__" 0 _) (Jx ?_));refine Jx ?_;unfold Builtin.Frozenset.sizeOf;refine Ju (Ju (Ml k.get k.dat k.fits (Jx ?_)));unfold setDrawn;refine Ju (Ju (KB k.get k.dat k.fits ?_));simp only;unfold N8;refine Ju (Ju (Ls (Jx ?_)));refine Jx ?_;have W:(!(w.params.followText "set-order") && (!t.plain && decide (es.size>1)))=false:=by rw[k.pln];simp
 have Z:∀(X Y:Sem Fin) (R:Fin->b_->Prop),eb (eK prog w) A.in1 Y R E s->eb (eK prog w) A.in1 (if (!(w.params.followText "set-order") && (!t.plain && decide (es.size>1)))=dr then X else Y) R E s:=λX Y R P=>by rw[W];simp only[er,if_false];exact P
 refine Z _ _ _ ?_;refine Ju (Jx ?_);refine Ju (wpAny_setEpoch_of k.get k.dat k.fits ?_);refine Ju (Ka (Jx ⟨_,rfl,"set_iterator",_,⟨_,JD _ rfl,rfl⟩,cY.lookup,S _ ⟨⟨_,JD _ rfl,rfl,?_⟩⟩⟩));have T:eU w t 0=0:=by unfold eU;split<;>rfl
 rw[T];rfl
theorem xt{es:Array Ent}(O:A.handled=none)(U:I≠a):Walks prog w A I [I,a] [I] es.size (λi v=>∃e,(ic w a ep es)[i]? =ar e/\v=e.2)
  (λi h=>SetAt prog w h a o es ep t L/\IterAt w h I a t es.size ep i) where
 sub:=λb Y=>by simp at Y;simp[Y]
 frame:=λi h h' st P=>⟨st.1.at λZ e=>P a (by simp) Z e,st.2.at λZ e=>P I (by simp) Z e⟩
 item:=λi s Q E N st T=>by
  have S:i<(ic w a ep es).size:=by rw[iZ];exact N
  have he:=JE S;exact next_item st.1 st.2 U he λh' W X=>T _ h' s.toks ⟨_,he,rfl⟩ ⟨st.1.at λZ e=>X.extBut a Z (i2 U) e,W⟩ λb Z Y e=>X.extBut b Z (λz=>Y (by simp[z])) e
 done:=λs Q E st T=>next_end O st.1 st.2 λh' R=>T h' s.toks λb Z Y e=>R b Z (λz=>Y (by simp[z])) e
 self:=λi s Q E st T=>by refine wpAny_pyIter_slot st.2.typeIs j6 (Kk j6 st.2.typeIs oH ?_ (qI _));show eb _ _ (ret (.ref I)) _ _ s;exact Jx ⟨_,rfl,"set_iterator",_,st.2.typeIs,cY.lookup,T⟩
theorem so{Q:List aC->b_->Prop}(h:A.handled=none)(k:SetAt prog w s.heap a o es ep t L)(g:es.size<=18)
  (j:∀(h':fc) (tk:Nat) (R:List KA),R.Perm L->(∀b o,s.heap.get? b=ar o->h'.get? b=ar o)->Q (R.map λp=>eg p.2) {s with heap:=h',toks:=tk}):
  eb (eK prog w) A (OR (.ref a)) Q E s:=by
 have Y:a<s.heap.objs.size:=JC k.get;unfold OR;refine Ju (wpAny_runValue (Lj F.entry_proto_collect ?_));rw[K2 F.plain_proto_collect _];show eb _ A.in1 (OQ []>>=λl=>NW (.builtin "list.__iadd__" ⟨[l,.ref a],[]⟩)) _ _ s;refine Ju (Ka ?_);refine Jx ⟨MU F.plain_list_iadd _,Lj F.entry_list_iadd ?_⟩;rw[K2 F.plain_list_iadd _];have k1:SetAt prog w (s.heap.push {cls:=.type "list",data:=.seq ([]:List aC).toArray}) a o es ep t L:=k.at λZ e=>Jv _ e;have G:(s.heap.push {cls:=.type "list",data:=.seq ([]:List aC).toArray}).get? s.heap.objs.size=ar {cls:=.type "list",data:=.seq ([]:List aC).toArray}:=JD _ rfl;have d:Nu {s with heap:=s.heap.push {cls:=.type "list",data:=.seq ([]:List aC).toArray}} (.ref a) "set":=⟨o,k1.get,k1.ex.1⟩;have T:Builtin.List.listSameRef (.ref s.heap.objs.size) (.ref a)=false:=by simp[Builtin.List.listSameRef,Nat.ne_of_gt Y]
 show eb _ A.in1 (Builtin.List.listExtendWith (.ref s.heap.objs.size) (.ref a) (.ref s.heap.objs.size)) _ _ _;unfold Builtin.List.listExtendWith;refine Ju (LZ d ?_);rw[if_neg (by rw[T];decide)];refine Ju (zA (s:={s with heap:=s.heap.push {cls:=.type "list",data:=.seq ([]:List aC).toArray}}) k1 λP hit=>?_);refine Ju (Kg ?_);have U:Nu {s with heap:=(s.heap.push {cls:=.type "list",data:=.seq ([]:List aC).toArray}).push P} (.ref a) "set":=⟨o,Jv _ k1.get,k1.ex.1⟩;unfold Builtin.List.listLengthHint;refine Ju (wpAny_specialOf U F.slot_set_len.lookup ?_);generalize eT:("set.__len__":String)=id0
 wp_delta
 rw[show splitId id0=ar ("set","__len__")from by subst eT;decide+kernel];subst eT;refine Ju (Lu (b:=dr) U sub_set_self ?_);rw[if_neg (by decide)];rw[if_pos (by decide+kernel)];refine Ju (LZ U ?_);refine Jx ?_;rw[if_pos (by decide+kernel)];refine Ju (ML ?_);generalize hg:(s.heap.push {cls:=.type "list",data:=.seq ([]:List aC).toArray}).objs.size=I at hit;have y:I=s.heap.objs.size+1:=by rw[<-hg];exact Ku _ _
 have B:I≠a:=by rw[y];exact KU (KO Y)
 have N:I≠s.heap.objs.size:=by rw[y];exact Nat.succ_ne_self _
 have n:s.heap.objs.size∉[I,a]:=by simp only[gc,fb,or_false,not_or];exact⟨i2 N,KU Y⟩
 have O:((s.heap.push {cls:=.type "list",data:=.seq ([]:List aC).toArray}).push P).get? s.heap.objs.size=ar {cls:=.type "list",data:=.seq ([]:List aC).toArray}:=Jv _ G;refine Ju ?_;show eb _ A.in1 (updateSeq s.heap.objs.size (·.push .none)>>=λ_=>updateSeq s.heap.objs.size (·.pop)) _ _ _;refine Ju (wpAny_updateSeq O rfl ?_);have K:=Ki (k4 (·.push gg)) O rfl;refine wpAny_updateSeq K rfl ?_;have x:=Ki (k4 (·.pop)) K rfl;have S:∀b Z,b≠s.heap.objs.size->((s.heap.push {cls:=.type "list",data:=.seq ([]:List aC).toArray}).push P).get? b=ar Z->
   ((((s.heap.push {cls:=.type "list",data:=.seq ([]:List aC).toArray}).push P).update s.heap.objs.size (k4 (·.push gg))).update s.heap.objs.size (k4 (·.pop))).get? b=ar Z:=
  λb Z v e=>(J6 _ _ (i2 v)).trans ((J6 _ _ (i2 v)).trans e)
 have k2:=(k1.at (h':=(s.heap.push {cls:=.type "list",data:=.seq ([]:List aC).toArray}).push P) λZ e=>Jv _ e);have H:A.in1.handled=none:=by simp[h]
 have W:=xt (prog:=prog) (w:=w) (A:=A.in1) (I:=I) (a:=a) (o:=o) (es:=es) (ep:=ep) (t:=t) (L:=L) H B;refine Jx ⟨MU F.plain_extend_loop _,?_⟩;refine codeAny_extend_loopS W.toS (by rw[Kc];omega) _ n _ es.size 0 _ _ _ rfl (JS _) ⟨k2.at λZ e=>S a Z (JK Y) e,hit.at λZ e=>S I Z N e⟩ x (ItemsOf.nil _) λs' acc c hm C X=>?_;show eb _ A (load s.heap.objs.size>>=_) _ _ s';refine Ju (wpAny_load C ?_);refine Jx ?_;obtain⟨h',g',d',J,z⟩:=s';have r:g'=s.gens:=hm.gens;have f:d'=s.drawn:=hm.drawn;have u:z=s.os:=hm.os;subst r f u;obtain⟨R,m,q⟩:=zz (pG w a ep es) L k.ents;have he:acc.toList=R.map λp=>eg p.2:=by
  have e1:acc.toList=(ic w a ep es).toList.map (·.2):=by
   refine LW λi=>?_;rw[JY,JP,JY];by_cases hi:i<acc.size
   ·obtain⟨e,e1,e2⟩:=X.2 i _ (JE hi);rw[JE hi,e2,e1];rfl
   ·rw[Kw (by omega),Kw (by rw[iZ, <-X.1];omega)];rfl
  rw[e1,q,J2];rfl
 rw[he];refine j h' J R m λb Z e=>hm.heap b Z ?_ (S b Z (JK (JC e)) (Jv _ (Jv _ e)));simp only[gc,fb,or_false,not_or];exact⟨JK (JC e),by rw[y];exact JK (KO (JC e))⟩
end
end S4
namespace S4
open PySem PySem.Spec PySem.W PyProof.Rows L2 S3
section
variable {prog:ee}{w:ey}{A:gd}{E:aC->b_->Prop}{s:b_}
theorem uw{vs:List aC}{P:PySem.Fin->b_->Prop}(W:s.heap.get? a=ar (rn "list" vs.toArray n))(Q:vs.length<2)
  (h:∀h' c,h'.get? a=ar (rn "list" vs.toArray c)->(∀b o,b≠a->s.heap.get? b=ar o->h'.get? b=ar o)->P (.done (.ret .none)) {s with heap:=h'}):
  eb (eK prog w) A (Builtin.«list.sort» ⟨[.ref a],[]⟩) P E s:=by
 have O:a<s.heap.objs.size:=JC W;obtain⟨e1,X⟩:∃e1,(s.heap.update a (k4 λ_=>(#[]:Array aC))).get? a=ar (rn "list" #[] e1):=⟨_,get?_update_seq W λ_=> #[]⟩;have Z:(((s.heap.update a (k4 λ_=>(#[]:Array aC))).push (rn "tuple" vs.toArray 0)).push (rn "list" #[] 0)).get? a=ar (rn "list" #[] e1):=Jv _ (Jv _ X);rw[list_sort_plain];refine Ju (listItems_at W rfl ?_);refine Ju (listUpdate_at W rfl ?_ (by rw[JH,Kc];omega) (JS _));refine Ju (seqEpoch_at X rfl ?_);refine Ju (wpAny_newTuple ?_ (by show vs.length<=_;rw[Kc];omega));refine Ju (wpAny_newList ?_ (JS _));refine Kg ?_;show eb (eK prog w) A _ P E {s with heap:=((s.heap.update a (k4 λ_=>(#[]:Array aC))).push (rn "tuple" vs.toArray 0)).push (rn "list" #[] 0)};dsimp only;have Y:vs.toArray.size<2:=by rw[JH];omega
 rw[if_pos Y,if_pos Y];refine Ju (Jx ?_);rw[StateT.run_pure];refine Ju (Jx ?_);dsimp only;refine Ju (seqEpoch_at Z rfl ?_);have R:(arrOf (SortSt.mk' general' (vs.toArray.zip vs.toArray) #[] 7 none)).map (·.2)=vs.toArray:=by show(vs.toArray.zip vs.toArray).map (·.2)=vs.toArray;rw[Array.map_snd_zip (Jw _)]
 rw[R];refine Ju (listUpdate_at Z rfl ?_ (JS _) (by rw[JH,Kc];omega));obtain⟨T,U⟩:∃T,((((s.heap.update a (k4 λ_=>(#[]:Array aC))).push (rn "tuple" vs.toArray 0)).push (rn "list" #[] 0)).update a (k4 λ_=>vs.toArray)).get? a=ar (rn "list" vs.toArray T):=⟨_,get?_update_seq Z λ_=>vs.toArray⟩;simp only[bne_self_eq_false,er,if_false];refine Jx (h _ T U λb o S e=>?_);rw[Mm _ _ _ _ S];refine Jv _ (Jv _ ?_);rw[Mm _ _ _ _ S];exact e
end
section
variable {X:Cx}
structure TRow(H:Hp)(vs:List V)(nss:List (List Int)):Prop where
 len:vs.length=nss.length
 at':∀i,i<vs.length->∃a,vs[i]? =ar (.ref a)/\H a=ar (.tup ((nss.getD i []).map V.int))
 ne:∀i,i<vs.length->0<(nss.getD i []).length
def fB(nss:List (List Int))(q:List Nat):Prop:=q.Perm (e_ nss.length)/\∀i j,i<=j->j<nss.length->HT.lexLt (nss.getD (q.getD j 0) []) (nss.getD (q.getD i 0) [])=dt
theorem ie{H:Hp}{Q:VK}(I:L2.Inv X pins σ H s)(Pv:List aC->Prop)
  (hc:∀(R:List aC->b_->Prop) (E':aC->b_->Prop),(∀vs Y N,Pv vs->(∀b o,s.heap.get? b=ar o->Y.get? b=ar o)->R vs {s with heap:=Y,toks:=N})->eb (eK X.prog X.w) X.A.in1 (OR arg) R E' s)
  (r:∀us,Pv us->∃(vs:List V) (Z:List (List Int)),aX vs us/\TRow H vs Z/\vs.length<64/\∀q,fB Z q->∀l,H l=none->Q (.ref l) (upd H l (.lst (q.map λi=>vs.getD i .non)))):
  eb (eK X.prog X.w) X.A (call (.builtin "sorted") [arg]) (EP X pins σ Q) X.xe s:=by
 refine Calls.call_function_entry kind_sorted plain_sorted entry_sorted (args_sorted1 _) ?_;unfold Builtin.«sorted»;refine Ju (m:=checkCount "sorted" 1 1 _) (Jx ?_);refine Ju (hc _ _ λits Y N hP keep=>?_);obtain⟨vs,Z,rv,T0,e7,q⟩:=r its hP;have a5:=rv.length;have O:L2.Inv X pins σ H {s with heap:=Y,toks:=N}:=I.kept keep;obtain⟨m,F⟩:=O.fr;refine Ju (wpAny_newList ?_ (by rw[Kc];omega));have K:(Y.push (rn "list" its.toArray 0)).get? Y.objs.size=ar (rn "list" its.toArray 0):=JD _ rfl;have up:∀b o,Y.get? b=ar o->(Y.push (rn "list" its.toArray 0)).get? b=ar o:=λb o e=>Jv _ e;have nd:Y.get? Y.objs.size=none:=KM (Jw _);have hL:X.env.locals<Y.objs.size:=F.ns.lt;have hH:H Y.objs.size=none:=O.hok.fresh (Jw _);have at':∀i,i<its.length->∃a,its[i]? =ar (.ref a)/\its.getD i gg= .ref a/\H a=ar (.tup ((Z.getD i []).map V.int)):=λi U=>by obtain⟨a,e1,e2⟩:=T0.at' i (by omega);obtain⟨u,hu,ru⟩:=rv.get e1;cases (show u=eg a from ru);exact⟨a,hu,by rw[JJ,hu];rfl,e2⟩
 have b4:∀l:List Nat,(∀x∈l,x<its.length)->aX (l.map λi=>vs.getD i .non) (l.map λi=>its.getD i gg):=by
  intro l
  induction l with
  |nil=>intro _;exact .nil
  |cons x l ih=>
   intro hx;refine .cons ?_ (ih λy hy=>hx y (JF _ hy));have f:x<vs.length:=by have:=hx x JL;omega
   obtain⟨u,hu,ru⟩:=rv.get (JB f);show L2.RelV (vs.getD x .non) (its.getD x gg);rw[JJ,JJ,hu,JB f];exact ru
 show eb _ _ _ _ _ {s with heap:=Y.push (rn "list" its.toArray 0),toks:=N};refine Ju (Kg (Kk slot_list_sort ⟨_,K,rfl⟩ entry_list_sort ?body (args_list_sort _)))
 case body=>
  by_cases J:its.length<2
  ·refine uw (s:={s with heap:=Y.push (rn "list" its.toArray 0),toks:=N}) K J λh' c g1 g2=>?_;refine⟨_,rfl,Jx ⟨_,rfl,?_⟩⟩;have I2:L2.Inv X pins σ (upd H Y.objs.size (.lst vs)) {s with heap:=h',toks:=N}:=O.laid (λb o e=>g2 b o (JK (JC e)) (up b o e)) (Jw _) ⟨by rw[Kc];omega,its,c,rv,g1⟩;refine⟨.ref Y.objs.size,_,I2,rfl,?_⟩;have:=q (e_ Z.length) ⟨.refl _,λi j E hj=>?_⟩ _ hH
   ·have e:(e_ Z.length).map (λi=>vs.getD i .non)=vs:=by
     refine LW λi=>?_;rw[JP, <-T0.len];by_cases U:i<vs.length
     ·rw[Lw U,JB U];simp[l4,U]
     ·rw[Kj (by simpa using U),Kj (by omega)];rfl
    rw[e]at this;exact this
   ·have:i=j:=by have:=T0.len;omega
    subst this;exact mq _
  ·have c3:=T0.ne;refine kat_list_sort (s:={s with heap:=Y.push (rn "list" its.toArray 0),toks:=N}) (F.kept up) (News.grown (mD (g:=X.base) (h:=Y) (L:=X.env.locals)) up) K (KU hL) (KM (JG F.above (KS hL)))
    (λp hp=>JK (JC (mD p hp).1)) (by omega) (by omega) λe1 h' F' N'=>?_
   have S:∀J:fc,Fr X.base X.env.locals J m->News X.base X.env.locals J (jE X.base Y X.env.locals)->∀b o,b≠X.env.locals->Y.get? b=ar o->J.get? b=ar o:=λJ F2 N2 b o hb e=>by
    cases z:X.base.get? b with
    |some o'=>
     have:=O.bk b o' z;rw[show Y.get? b=ar o' from this]at e;cases e;exact F2.keep b _ z
    |none=>exact(N2 (b,o) (rL hb z e)).1
   have kp:=S h' F' λz P=>N' z (JF _ P);have T:Tups Y its Z:=⟨by have:=T0.len;omega,λi U=>by obtain⟨a,_,e1,e2⟩:=at' i U;obtain⟨_,ws,G,o,ho,b6,n,hd⟩:=(show aW X.prog X.w H Y a (.tup ((Z.getD i []).map V.int))from O.hok a _ e2);refine⟨a,o,ws.toArray,n,e1,ho,b6,hd,by simpa using MK G,?_⟩;rw[JH, <-G.length,Jy];exact c3 i (by omega)⟩
   have T':Tups h' its Z:=T.keep λi a o U ea ho=>by obtain⟨a',_,e1,e2⟩:=at' i U;rw[ea]at e1;cases e1;refine kp a o (λz=>?_) ho;rw[z,O.free]at e2;cases e2
   obtain⟨fs,k1,k2,k3⟩:=m7 (h:=h') (vs:=its) λv r=>by
    obtain⟨i,U,ei⟩:=List.mem_iff_getElem.mp r;obtain⟨a,o,us,n,f1,f2,f3,f4,f5,f6⟩:=T'.get i U;have ev:v= .ref a:=by rw[JJ,JB U,ei]at f1;exact f1
    generalize Z.getD i []=ns at f5;cases hus:us.toList with
    |nil=>
     have:us.size=0:=by rw[<-K6,hus];rfl
     omega
    |cons x r'=>
     rw[hus]at f5;cases f5 with
     |cons n' t' _=>exact⟨a,o,us,n,n',t',ev,f2,f3,f4,by rw[<-JY,hus];rfl⟩
   refine kat_kind k1 (by omega) (T:=.type "int") (λv r=>by obtain⟨i,t,rfl⟩:=k3 v r;exact Looks.of_pure rfl) rfl ?_;refine yG (n:=its.length) (R:=In its.length) (b:=λi j=>HT.lexLt (Z.getD i []) (Z.getD j [])) (λi j C U hj hC=>T'.ask U hj hC) (rQ (by omega)) ?_;obtain⟨s1,s2⟩:=BG (n:=its.length) (b:=λi j=>HT.lexLt (Z.getD i []) (Z.getD j [])) (by omega) (λi _=>mq _) (λi j k _ _ _=>uj) (λi j k _ _ _=>qE);generalize aY (λi j=>HT.lexLt (Z.getD i []) (Z.getD j [])) (sb its.length)=pp at s1 s2;have W:pp.toList.Perm (e_ its.length):=by simpa using Array.Perm.toList s1
   refine KasFin.intro F' N' (.head λz P=>JK (JC (mD z P).1)) λc2 c' B d=>?_;have a6:=S c2 B λz P=>d z (JF _ P);obtain⟨g1,g2,g3⟩:=d _ JL;have b3:∀x∈pp.toList,x<its.length:=λx hx=>J0.mp (W.mem_iff.mp hx);have b5:(pp.toList.map λi=>vs.getD i .non).length<=sizeLine:=by rw[Jy,W.length_eq,Ks,Kc];omega
   have I2:=uk O F B a6 nd g1 (b4 pp.toList b3) b5;refine⟨_,rfl,Jx ⟨_,rfl,.ref Y.objs.size,_,I2,rfl,q pp.toList ⟨by rw[<-T0.len,a5];exact W,λi j E hj=>?_⟩ _ hH⟩⟩;have:=s2 i j E (by have:=T0.len;omega);rw[J4,J4]at this;rw[JJ (l:=pp.toList),JJ (l:=pp.toList),JY,JY];exact this
end
end S4
namespace S3
open PySem PySem.Spec PySem.W PyProof.Rows L2 S4
def tupI(ns:List Int):D:=.tup (ns.map D.int)
def rowsOf:List D->Option (List (List Int))
 |[]=>ar []
 | .tup ds::r=>match intsOf ds,rowsOf r with
  |some ns,ar nss=>ar (ns::nss)
  |_,_=>none
 |_=>none
theorem qJ:∀{a b:List Int},HT.lexLt a b=dt->HT.lexLt b a=dt->a=b
 |[],[],_,_=>rfl
 |[],_::_,h,_=>by cases h
 |_::_,[],_,h=>by cases h
 | x::a,y::b,h1,h2=>by
  rw[HT.lexLt_cons]at h1 h2;by_cases e:x=y
  ·subst e;rw[if_pos rfl]at h1 h2;rw[qJ h1 h2]
  ·rw[if_neg e]at h1;rw[if_neg (i2 e)]at h2;have:=of_decide_eq_false h1;have:=of_decide_eq_false h2;omega
abbrev Bj(a b:List Int):Prop:=HT.lexLt b a=dt
def ux(x:List Int):List (List Int)->List (List Int)
 |[]=>[x]
 |y::r=>if HT.lexLt y x=dr then y::ux x r else x::y::r
def gI:List (List Int)->List (List Int)
 |[]=>[]
 |x::r=>ux x (gI r)
theorem kL(x:List Int):∀l,(ux x l).Perm (x::l)
 |[]=>.refl _
 |y::r=>by
  unfold ux;split
  ·exact((kL x r).cons y).trans (.swap _ _ _)
  ·exact .refl _
theorem cC:∀l,(gI l).Perm l
 |[]=>.refl _
 |x::r=>(kL x _).trans ((cC r).cons x)
theorem xu(Z:Bj a b)(Y:Bj b c):Bj a c:=by
 cases q:HT.lexLt c a with
 |false=>exact q
 |true=>
  rcases qE (b:=b) q with z|z
  ·rw[show HT.lexLt c b=dt from Y]at z;cases z
  ·rw[show HT.lexLt b a=dt from Z]at z;cases z
theorem sr(h:HT.lexLt a b=dr):HT.lexLt b a=false:=by
 cases q:HT.lexLt b a with
 |false=>rfl
 |true=>
  have:=uj h q;rw[mq]at this;cases this
theorem lB(x:List Int):∀{l:List (List Int)},l.Pairwise Bj->(ux x l).Pairwise Bj
 |[],_=>by simp[ux]
 | y::r,h=>by
  obtain⟨X,W⟩:=Km.mp h;unfold ux;split
  ·next c=>
   refine Km.mpr ⟨λz Z=>?_,lB x W⟩;rcases JN.mp ((kL x r).mem_iff.mp Z)with rfl|Z
   ·exact sr c
   ·exact X z Z
  ·next c=>
   have Y:Bj x y:=MO.mpr c;refine Km.mpr ⟨λz Z=>?_,h⟩;rcases JN.mp Z with rfl|Z
   ·exact Y
   ·exact xu Y (X z Z)
theorem cZ:∀l,(gI l).Pairwise Bj
 |[]=>.nil
 |x::r=>lB x (cZ r)
theorem kM{l:List (List Int)}(h:l.Perm l')(Z:l.Pairwise Bj)(Y:l'.Pairwise Bj):l=l':=
 List.Perm.eq_of_pairwise (le:=Bj) (λa b _ _ x y=>qJ y x) Z Y h
theorem nz(h:fB nss q):q.map (λi=>nss.getD i [])=gI nss:=by
 have hlen:q.length=nss.length:=by simpa using h.1.length_eq
 have e:(e_ nss.length).map (λi=>nss.getD i [])=nss:=by
  refine LW λi=>?_;rw[JP];by_cases Z:i<nss.length
  ·rw[Lw Z,JB Z];simp[l4,Z]
  ·rw[Kj (by simpa using Z),Kj (by omega)];rfl
 have W:(q.map (λi=>nss.getD i [])).Perm nss:=by have:=h.1.map (λi=>nss.getD i []);rw[e]at this;exact this
 refine kM (W.trans (cC nss).symm) ?_ (cZ _);rw[MD];intro i j Z X Y;rw[Jy]at Z X;rw[List.getElem_map,List.getElem_map];have:=h.2 i j (KS Y) (by omega);rw[JJ (l:=q),JJ (l:=q),JB Z,JB X]at this;exact this
def d6:List (List Int)->List (List Int)
 |[]=>[]
 |x::r=>if x∈d6 r then d6 r else x::d6 r
theorem gJ:∀{l:List (List Int)},y∈d6 l↔y∈l
 |[]=>.rfl
 | x::r=>by
  unfold d6;split
  ·next h=>
   rw[gJ,JN];refine⟨.inr,λz=>z.elim (λz=>?_) id⟩;rw[z];exact gJ.mp h
  ·rw[JN,JN,gJ]
theorem j8:∀l:List (List Int),(d6 l).Nodup
 |[]=>.nil
 |x::r=>by
  unfold d6;split
  ·exact j8 r
  ·next h=>exact Ko.mpr ⟨h,j8 r⟩
def fC(l:List (List Int)):List (List Int):=gI (d6 l)
theorem zB(f:Folded kv L):gI (L.map (·.1))=fC (kv.map (·.1)):=by
 unfold fC;have Z:(L.map (·.1)).Perm (d6 (kv.map (·.1))):=(List.perm_ext_iff_of_nodup f.nd (j8 _)).mpr λa=>by rw[f.mem,gJ]
 exact kM ((cC _).trans (Z.trans (cC _).symm)) (cZ _) (cZ _)
theorem _root_.S4.Folded.perm{Z:List KA}(f:Folded kv L)(h:Z.Perm L):Folded kv Z:=
 ⟨(Lx (h.map (λp:KA=>p.1))).mpr f.nd,λk=>by rw[(h.map (λp:KA=>p.1)).mem_iff];exact f.mem k,λp Y=>f.sub p (h.mem_iff.mp Y),by rw[h.length_eq];exact f.len⟩
section
variable {K:dV}{ι:List c_}{H:Hp}
theorem nA:∀{ds:List D} {vs:List V} {nss:List (List Int)},RelDs K ι H ds vs->rowsOf ds=ar nss->vs.length=nss.length/\∀i,i<vs.length->∃a,vs[i]? =ar (.ref a)/\H a=ar (.tup ((nss.getD i []).map V.int))
 |[],vs,nss,h,e=>by
  cases e;rw[h.nil_inv];exact⟨rfl,λi Z=>absurd Z (M1 _)⟩
 | .tup ds::r,vs,nss,h,e=>by
  obtain⟨v,ws,rfl,U,X⟩:=h.cons_inv;unfold rowsOf at e;cases q:intsOf ds with
  |none=>rw[q]at e;cases e
  | some ns=>
   rw[q]at e;cases q2:rowsOf r with
   |none=>rw[q2]at e;cases e
   | some nss'=>
    rw[q2]at e;cases e;obtain⟨Y,T⟩:=nA X q2;obtain⟨a,us,rfl,g1,g2⟩:=U.tup_inv;refine⟨by simp[Y],λi Z=>?_⟩;cases i with
    |zero=>
     refine⟨a,rfl,?_⟩;rw[fy g2 q]at g1;simpa using g1
    |succ i=>
     obtain⟨S,e1,e2⟩:=T i (by simpa using Z);exact⟨S,by simpa using e1,by simpa using e2⟩
 | .non::_,_,_,_,e=>by cases e
 | .bl _::_,_,_,_,e=>by cases e
 | .int _::_,_,_,_,e=>by cases e
 | .str _::_,_,_,_,e=>by cases e
 | .lst _::_,_,_,_,e=>by cases e
 | .ro _::_,_,_,_,e=>by cases e
 | .fz _::_,_,_,_,e=>by cases e
 | .emp::_,_,_,_,e=>by cases e
theorem pI:∀ns:List Int,RelDs K ι H (ns.map D.int) (ns.map V.int)
 |[]=>.nil
 |n::r=>.cons (.int n) (pI r)
theorem nB{vs:List V}{Z:List (List Int)}(h:∀i,i<vs.length->∃a,vs[i]? =ar (.ref a)/\H a=ar (.tup ((Z.getD i []).map V.int))):
  ∀q:List Nat,(∀i∈q,i<vs.length)->RelDs K ι H ((q.map λi=>Z.getD i []).map tupI) (q.map λi=>vs.getD i .non)
 |[],_=>.nil
 |i::q,hq=>by
  obtain⟨a,e1,e2⟩:=h i (hq i JL);refine .cons ?_ (nB h q λj X=>hq j (JF _ X));show RelD K ι H (tupI (Z.getD i [])) (vs.getD i .non);have Y:vs.getD i .non= .ref a:=by rw[JJ,e1];rfl
  rw[Y];exact .tup e2 (pI _)
end
section
variable {X:Cx}{E:XD}{e:Expr}{m:TM}{pos:Pos}
theorem oI:b9 X (.builtin "sorted") (λxs H Q=>∃(p:c_) (vs:List V) (Z:List (List Int)),xs=[.ref p]/\ir X.K H p vs/\TRow H vs Z/\vs.length<64/\
  ∀q,fB Z q->∀l,H l=none->Q (.ref l) (upd H l (.lst (q.map λi=>vs.getD i .non)))):=by
 intro pins s σ H xs us Q I r h;obtain⟨p,vs,Z,rfl,O,T,W,q⟩:=h;obtain⟨u,rfl,P⟩:=vals1 r;cases (show u=eg p from P);obtain⟨its,U,S,F⟩:=I.list O;have L:=U.length;refine ie I (λus=>us=its) (λR G N=>?_) λus J=>⟨vs,Z,by rw[J];exact U,T,W,q⟩;refine collect_list S.isList (N its _ _ rfl λb o e=>?_) (by rw[Kc];omega);have Y:b<s.heap.objs.size:=JC e;rw[Mm _ _ _ _ (JK Y)];exact Jv _ e
def lN(P:ee)(w:ey)(a:c_)(kv:List KA):fc->Prop:=λh=>∃o es ep t L,SetAt P w h a o es ep t L/\Folded kv L
def jt(vs:List V)(nss:List (List Int)):List KA:=(e_ vs.length).map λi=>(nss.getD i [],match vs.getD i .non with| .ref a=>a|_=>0)
theorem EC{H:Hp}(T:e9 P w H h){ns:List Int}(e:H a=ar (.tup (ns.map V.int))):i_ (la P w) h ns a:=by
 obtain⟨_,ws,Z,o,W,Y,n,hd⟩:=(show aW P w H h a (.tup (ns.map V.int))from T a _ e);refine⟨o,ws.toArray,n,W,Y,hd,?_⟩;have U:=MK Z;have go:∀{ws:List aC} {ns:List Int},lx ws ns->ItemsAre (la P w) ns ws:=by
  intro ws ns h
  induction h with
  |nil=>exact .nil
  |cons n t _ ih=>exact .cons (intKind_is _ _ _ _) ih
 simpa using go U
theorem xv(C:X.calm=dr)(f:X.A.units+8<v_):b9 X (.type "set") (λxs H Q=>∃(p:c_) (vs:List V) (Z:List (List Int)),xs=[.ref p]/\(ir X.K H p vs\/jG X.K H p vs)/\
  (∀i,i<vs.length->∃a,vs[i]? =ar (.ref a)/\H a=ar (.tup ((Z.getD i []).map V.int)))/\vs.length<=18/\∀l,H l=none->Q (.ref l) (upd H l (.ext (lN X.prog X.w l (jt vs Z))))):=by
 intro pins s σ H xs us Q I r h;obtain⟨p,vs,Z,rfl,U,T,G,q⟩:=h;obtain⟨u,rfl,z⟩:=vals1 r;cases (show u=eg p from z);have src:∃its,aX vs its/\Src s.heap p its.toArray:=by
  rcases U with U|U
  ·obtain⟨its,Y,S,B⟩:=I.list U;exact⟨its,Y,.inl S.isList⟩
  ·obtain⟨its,Y,S,B⟩:=I.tuple U;exact⟨its,Y,.inr S⟩
 obtain⟨its,Y,hs⟩:=src;have W:=Y.length;have x:∀A:gd,A.in1.units<=A.units+1:=λA=>Jw _;have at':∀i,i<vs.length->∃a,its[i]? =ar (.ref a)/\vs.getD i .non= .ref a/\H a=ar (.tup ((Z.getD i []).map V.int)):=λi O=>by obtain⟨a,e1,e2⟩:=T i O;obtain⟨u,P,n⟩:=Y.get e1;cases (show u=eg a from n);exact⟨a,P,by rw[JJ,e1];rfl,e2⟩
 have hf:H s.heap.objs.size=none:=I.hok.fresh (Jw _);refine EB (I.ok.hd C) (by show X.A.units+3<v_;omega) hs (λi=>(Z.getD i [],match vs.getD i .non with| .ref a=>a|_=>0)) (λi v R=>?_) (by rw[JH];omega) (λj y=>?_) λh' d o es ep t L J N g=>?_
 ·have O:i<vs.length:=by rw[W];simpa using(JO.mp R).1
  obtain⟨a,e1,e2,_⟩:=at' i O;rw[KY,e1]at R;cases R;simp only[e2]
 ·rw[JH]at y;obtain⟨a,e1,e2,F⟩:=at' j (by omega);simp only[e2];exact EC I.hok F
 ·rw[JH, <-W]at N;refine⟨.ref s.heap.objs.size,_,I.laid (o:=.ext (lN X.prog X.w s.heap.objs.size (jt vs Z))) (λb o e=>g b o (JC e) e) (Jw _) ⟨⟨o,es,ep,t,L,J,N⟩,⟨o,J.get⟩,λh1 h2 ⟨o,es,ep,t,L,a1,a2⟩ k=>⟨o,es,ep,t,L,a1.at k,a2⟩⟩,rfl,q _ hf⟩
theorem qK(C:X.calm=dr):b9 X (.builtin "sorted") (λxs H Q=>∃(p:c_) (T:List KA),xs=[.ref p]/\H p=ar (.ext (lN X.prog X.w p T))/\(∀k∈T,H k.2=ar (.tup (k.1.map V.int))/\k.1.length=2)/\T.length<=18/\
  ∀L q,Folded T L->fB (L.map (·.1)) q->∀l,H l=none->Q (.ref l) (upd H l (.lst (q.map λi=>(L.map λk=>V.ref k.2).getD i .non)))):=by
 intro pins s σ H xs us Q I r h;obtain⟨p,T,rfl,B,N,K,q⟩:=h;obtain⟨u,rfl,z⟩:=vals1 r;cases (show u=eg p from z);obtain⟨⟨o,es,ep,t,L,O,P⟩,_,_⟩:=(show aW X.prog X.w H s.heap p (.ext (lN X.prog X.w p T))from I.hok p _ B);have y:=P.len;have S:∀l:List KA,aX (l.map λk=>V.ref k.2) (l.map λk=>eg k.2):=by
  intro l
  induction l with
  |nil=>exact .nil
  |cons k l ih=>exact .cons rfl ih
 refine ie I (λus=>∃Z:List KA,Z.Perm L/\us=Z.map λk=>eg k.2) (λR j G=>?_) ?_
 ·refine so (by show X.A.handled=none;exact I.ok.hd C) O (by rw[O.len];omega) λh' g Z U n=>G _ _ _ ⟨Z,U,rfl⟩ n
 ·rintro us ⟨Z,U,rfl⟩;have Y:=P.perm U;have J:=Y.len;refine⟨Z.map λk=>V.ref k.2,Z.map (·.1),S Z,⟨by simp,λi W=>?_,λi W=>?_⟩,by simp;omega,λv x l F=>q Z v Y x l F⟩
  ·rw[Jy]at W;refine⟨Z[i].2,by rw[JP,JB W];rfl,?_⟩;have:=(N _ (Y.sub _ (KL W))).1;rw[JJ,JP,JB W];exact this
  ·rw[Jy]at W;rw[JJ,JP,JB W];exact Nat.lt_of_lt_of_eq (by decide:0<2) (N _ (Y.sub _ (KL W))).2.symm
def two(nss:List (List Int)):Bool:=nss.all λns=>ns.length !=0
def su(nss:List (List Int)):M D:=if nss.length<64/\two nss=dr then a8 ((gI nss).map tupI)else M.fail
def pJ(xs:List D):M D:=match intsOf xs with
 |some ns=>if ns.length<64 then a8 ((sortI ns).map D.int)else M.fail
 |none=>match rowsOf xs with
  |some nss=>su nss
  |none=>M.fail
def cN:List D->M D
 |[.lst k]=>do
  let xs<-getL k
  pJ xs
 |[.fz xs]=>pJ xs
 |_=>M.fail
theorem B0{H:Hp}{vs:List V}{Z:List (List Int)}(h:vs.length=Z.length/\∀i,i<vs.length->∃a,vs[i]? =ar (.ref a)/\H a=ar (.tup ((Z.getD i []).map V.int)))(W:two Z=dr):TRow H vs Z:=
 ⟨h.1,h.2,λi U=>by
  have Y:i<Z.length:=by rw[<-h.1];exact U
  have:=JU.mp W Z[i] (KL Y);rw[JJ,JB Y];exact Nat.pos_of_ne_zero λz=>by rw[show(ar Z[i]).getD []=Z[i]from rfl]at z;rw[z]at this;cases this⟩
theorem qL:ib X.K E cN (λxs H Q=>(∃(p:c_) (ns:List Int),xs=[.ref p]/\ir X.K H p (ns.map V.int)/\ns.length<64/\∀l,H l=none->Q (.ref l) (upd H l (.lst ((sortI ns).map V.int))))\/
  ∃(p:c_) (vs:List V) (nss:List (List Int)),xs=[.ref p]/\ir X.K H p vs/\TRow H vs nss/\vs.length<64/\∀q,fB nss q->∀l,H l=none->Q (.ref l) (upd H l (.lst (q.map λi=>vs.getD i .non)))):=by
 intro ι S H ds vs Q rep r c;have fin:∀{es:List D} {us:List V} {p:c_},RelDs X.K ι H es us->Rd H p (.lst us)->cont X.K E (pJ es) ι S H (jQ X.K Q)->vs=[.ref p]->
   (∃(p:c_) (ns:List Int),vs=[.ref p]/\ir X.K H p (ns.map V.int)/\ns.length<64/\∀l,H l=none->Q (.ref l) (upd H l (.lst ((sortI ns).map V.int))))\/
  ∃(p:c_) (ws:List V) (nss:List (List Int)),vs=[.ref p]/\ir X.K H p ws/\TRow H ws nss/\ws.length<64/\∀q,fB nss q->∀l,H l=none->Q (.ref l) (upd H l (.lst (q.map λi=>ws.getD i .non))):=by
  intro es us p W T Z U;unfold pJ at Z;cases q:intsOf es with
  | some ns=>
   rw[q]at Z;have Y:cont X.K E (if ns.length<64 then a8 ((sortI ns).map D.int)else M.fail) ι S H (jQ X.K Q):=Z;by_cases h:ns.length<64
   ·rw[if_pos h]at Y;exact .inl ⟨p,ns,U,.inl (by rw[<-fy W q];exact T),h,(ba Y rep (m6 _)).2⟩
   ·rw[if_neg h]at Y;exact(af Y).elim
  | none=>
   rw[q]at Z;cases q2:rowsOf es with
   |none=>rw[q2]at Z;exact(af Z).elim
   | some nss=>
    rw[q2]at Z;have Y:cont X.K E (if nss.length<64/\two nss=dr then a8 ((gI nss).map tupI)else M.fail) ι S H (jQ X.K Q):=Z;by_cases h:nss.length<64/\two nss=dr
    ·rw[if_pos h]at Y;obtain⟨g1,g2⟩:=nA W q2;refine .inr ⟨p,us,nss,U,.inl T,B0 ⟨g1,g2⟩ h.2,by omega,λL J l I=>?_⟩;have O:∀i∈L,i<us.length:=λi F=>by rw[g1];exact J0.mp (J.1.mem_iff.mp F)
     have G:RelDs X.K ι H ((gI nss).map tupI) (L.map λi=>us.getD i .non):=by rw[<-nz J];exact nB g2 L O
     exact(ba Y rep G).2 l I
    ·rw[if_neg h]at Y;exact(af Y).elim
 unfold cN at c;split at c
 ·next k=>
  obtain⟨v,ws,rfl,N,R⟩:=r.cons_inv;cases R.nil_inv;obtain⟨p,rfl,P⟩:=N.lst_inv;obtain⟨es,us,_,T,W,Z⟩:=a7 c rep P;exact fin W (.inl T) Z rfl
 ·next es=>
  obtain⟨v,ws,rfl,N,R⟩:=r.cons_inv;cases R.nil_inv;obtain⟨p,o,us,rfl,P,W⟩:=N.fz_inv;exact fin W (.inr ⟨o,P⟩) c rfl
 ·exact(af c).elim
theorem kN(Z:X.mg "sorted"=none)(W:SE X E e m)(Y:Gl X "sorted":=by rfl)(hs:d_ [e] X.env=[(dt,f' e X.env)]:=by rfl):SE X E (.Call (.Name "sorted" p) [e] [] pos) (λρ=>do let ds<-(do let x<-m ρ;let xs<-a_ [];a_ (x::xs));cN ds):=
 gC (b9.or qD oI) qL Y Z (by decide+kernel) (ag W ao hs) (by decide) (by decide) hs rfl
def ED(nss:List (List Int)):Bool:=nss.all λns=>ns.length==2
def cw(nss:List (List Int)):M D:=if nss.length<=18/\ED nss=dr then a8 ((fC nss).map tupI)else M.fail
def j9:List D->M D
 |[.lst k]=>do
  let xs<-getL k
  match rowsOf xs with
  |some nss=>cw nss
  |none=>M.fail
 |[.tup xs]=>match rowsOf xs with
  |some nss=>cw nss
  |none=>M.fail
 |[.fz xs]=>match rowsOf xs with
  |some nss=>cw nss
  |none=>M.fail
 |_=>M.fail
theorem B1{vs:List V}{Z:List (List Int)}(h:vs.length=Z.length):(jt vs Z).map (·.1)=Z:=by
 unfold jt;rw[J2];refine LW λi=>?_;rw[JP,h];by_cases hi:i<Z.length
 ·rw[Lw hi,JB hi];simp[l4,hi]
 ·rw[Kj (by simpa using hi),Kj (by omega)];rfl
theorem Gy{K:dV}{ι:List c_}{H:Hp}{L:List KA}(h:∀k∈L,H k.2=ar (.tup (k.1.map V.int))):∀q:List Nat,(∀i∈q,i<L.length)->RelDs K ι H ((q.map λi=>(L.map (·.1)).getD i []).map tupI) (q.map λi=>(L.map λk=>V.ref k.2).getD i .non):=by
 intro q Y;refine nB (λi Z=>?_) q λi Z=>by rw[Jy];exact Y i Z
 rw[Jy]at Z;refine⟨L[i].2,by rw[JP,JB Z];rfl,?_⟩;rw[JJ,JP,JB Z];exact h _ (KL Z)
theorem qM{p q T:Pos}(hc:X.calm=dr)(hu:X.A.units+8<v_)(hm:X.mg "sorted"=none)(a3:X.mg "set"=none)(ha:SE X E e m)(hg:Gl X "sorted":=by rfl)(a0:Gl X "set":=by rfl)(hs:d_ [e] X.env=[(dt,f' e X.env)]:=by rfl)
  (B:d_ [.Call (.Name "set" q) [e] [] T] X.env=[(dt,f' (.Call (.Name "set" q) [e] [] T) X.env)]:=by rfl):
  SE X E (.Call (.Name "sorted" p) [.Call (.Name "set" q) [e] [] T] [] pos) (λρ=>do let ds<-(do let x<-m ρ;let xs<-a_ [];a_ (x::xs));j9 ds):=by
 refine PE.imp (iu (qK hc) hg hm (by decide+kernel) (dD (iT (xv hc hu) a0 a3 (by decide+kernel) (ag ha ao hs) (by decide) (by decide) hs rfl) jh B) (by decide) (by decide) B rfl) λσ H Q h=>?_;obtain⟨ι,S,ρ,rep,re,c⟩:=h;refine⟨ι,S,ρ,rep,re,aj (ai c) λds R S1 Y e1 rep1 U vs r=>?_⟩;have fin:∀{xs:List D} {us:List V} {a:c_} {Z:List (List Int)},RelDs X.K R Y xs us->rowsOf xs=ar Z->(ir X.K Y a us\/jG X.K Y a us)->cont X.K E (cw Z) R S1 Y (jQ X.K Q)->vs=[.ref a]->
   ∃ (p:c_) (vs':List V) (Z:List (List Int)),vs=[.ref p]/\(ir X.K Y p vs'\/jG X.K Y p vs')/\
    (∀i,i<vs'.length->∃a,vs'[i]? =ar (.ref a)/\Y a=ar (.tup ((Z.getD i []).map V.int)))/\vs'.length<=18/\∀l,Y l=none->
     ∃(p:c_) (kv:List KA),[V.ref l]=[.ref p]/\upd Y l (.ext (lN X.prog X.w l (jt vs' Z))) p=ar (.ext (lN X.prog X.w p kv))/\(∀k∈kv,upd Y l (.ext (lN X.prog X.w l (jt vs' Z))) k.2=ar (.tup (k.1.map V.int))/\k.1.length=2)/\kv.length<=18/\
      ∀L q,Folded kv L->fB (L.map (·.1)) q->∀F,upd Y l (.ext (lN X.prog X.w l (jt vs' Z))) F=none->Q (.ref F) (upd (upd Y l (.ext (lN X.prog X.w l (jt vs' Z)))) F (.lst (q.map λi=>(L.map λk=>V.ref k.2).getD i .non))):=by
  intro xs us a Z O W d J j;unfold cw at J;by_cases h:Z.length<=18/\ED Z=dr
  ·rw[if_pos h]at J;obtain⟨g1,g2⟩:=nA O W;refine⟨a,us,Z,j,d,g2,by omega,λl t=>⟨l,jt us Z,rfl,aU,λk N=>?_,by unfold jt;simp;omega,λL qq hF hq F f=>?_⟩⟩
   ·unfold jt at N;obtain⟨i,P,rfl⟩:=J8.mp N;rw[J0]at P;obtain⟨b,b1,I⟩:=g2 i P;have n:us.getD i .non= .ref b:=by rw[JJ,b1];rfl
    simp only[n];refine⟨by rw[aG (aI I t)];exact I,?_⟩;have y:i<Z.length:=by omega
    have:=JU.mp h.2 Z[i] (KL y);rw[JJ,JB y];simpa using this
   ·have hE:Ext R Y R (upd Y l (.ext (lN X.prog X.w l (jt us Z)))):=eh t;have rep2:=fP (o:=.ext (lN X.prog X.w l (jt us Z))) rep1 t;have g:∀i∈qq,i<L.length:=λi P=>by
     have:=J0.mp (hq.1.mem_iff.mp P);simpa using this
    have N:∀k∈L,upd Y l (.ext (lN X.prog X.w l (jt us Z))) k.2=ar (.tup (k.1.map V.int)):=λk N=>by
     have C:=hF.sub k N;unfold jt at C;obtain⟨i,P,rfl⟩:=J8.mp C;rw[J0]at P;obtain⟨b,b1,I⟩:=g2 i P;have n:us.getD i .non= .ref b:=by rw[JJ,b1];rfl
     simp only[n];rw[aG (aI I t)];exact I
    have rr:=Gy (K:=X.K) (ι:=R) N qq g;rw[nz hq,zB hF,B1 g1]at rr;exact(ba (fx J hE) rep2 rr).2 F f
  ·rw[if_neg h]at J;exact(af J).elim
 unfold j9 at U;split at U
 ·next k=>
  obtain⟨v,ws,rfl,G,z⟩:=r.cons_inv;cases z.nil_inv;obtain⟨a,rfl,u⟩:=G.lst_inv;obtain⟨es,us,_,hv,O,s⟩:=a7 U rep1 u;cases W:rowsOf es with
  |none=>rw[W]at s;exact(af s).elim
  |some Z=>
   rw[W]at s;exact fin O W (.inl (.of hv)) s rfl
 ·next xs=>
  obtain⟨v,ws,rfl,G,z⟩:=r.cons_inv;cases z.nil_inv;obtain⟨a,us,rfl,u,O⟩:=G.tup_inv;cases W:rowsOf xs with
  |none=>rw[W]at U;exact(af U).elim
  |some Z=>
   rw[W]at U;exact fin O W (.inr (.of u)) U rfl
 ·next xs=>
  obtain⟨v,ws,rfl,G,z⟩:=r.cons_inv;cases z.nil_inv;obtain⟨a,o,us,rfl,u,O⟩:=G.fz_inv;cases W:rowsOf xs with
  |none=>rw[W]at U;exact(af U).elim
  |some Z=>
   rw[W]at U;exact fin O W (.inl (.inl (.inr ⟨o,u⟩))) U rfl
 ·exact(af U).elim
end
end S3
namespace S4
open PySem PySem.Spec PyProof.Rows L2 S3
section
variable {prog:ee}{w:ey}{A:gd}{E:aC->b_->Prop}{s:b_}
theorem ju{Q:aC->b_->Prop}(Z:s.heap.IsTupleIter it t i)(T:s.heap.IsTuple t items)(S:items[i]? =ar x)
  (R:∀h',h'.IsTupleIter it t (i+1)->oi it s.heap h'->Q x {s with heap:=h'}):eb (eK prog w) A (hY (.ref it)) Q E s:=by
 obtain⟨o,Y,U,hd⟩:=id Z;obtain⟨ol,X,_,nl,W⟩:=T;unfold hY;refine Ju (wpAny_callSpecial?_slot (name:=hI "__next__") Z.typeIs KR
  (Kk KR Z.typeIs Mn ?_ (Mi _)))
 show eb _ _ (N9 (.ref it) 0>>=_) _ _ s;refine Ju (Kh Y hd (x:=.ref t) rfl ?_);show eb _ _ (if (eg t==gg)=dr then _ else _) _ _ s;rw[if_neg (show ¬ ((eg t==gg)=dr)from KI)];show eb _ _ (N9 (.ref it) 1>>=_) _ _ s;refine Ju (Kh Y hd (x:=.int i 0) rfl ?_);show eb _ _ (Og (.ref t)>>=_) _ _ s;refine Ju (KD X W ?_);simp only[F_,S];refine Ju (Lc Y hd (by simp) (Jx ⟨x,rfl,Jx (R _ ?_ (KC ..))⟩));exact⟨_,Ki _ Y (Lk (KJ hd _)),(MR ..).trans U,by rw[KJ hd];simp[k8]⟩
theorem pK(U:A.handled=none)(Z:s.heap.IsTupleIter it t i)(S:s.heap.IsTuple t items)(R:items[i]? =none)
  (T:∀h' e,Heap.ExtBut it s.heap h'->(∃o,h'.get? e=ar o/\o.cls= .type "StopIteration")->E (.ref e) {s with heap:=h'}):eb (eK prog w) A (hY (.ref it)) Q E s:=by
 obtain⟨o,W,P,hd⟩:=id Z;obtain⟨ol,Y,_,nl,X⟩:=S;unfold hY;refine Ju (wpAny_callSpecial?_slot (name:=hI "__next__") Z.typeIs KR
  (Kk KR Z.typeIs Mn ?_ (Mi _)))
 show eb _ _ (N9 (.ref it) 0>>=_) _ _ s;refine Ju (Kh W hd (x:=.ref t) rfl ?_);show eb _ _ (if (eg t==gg)=dr then _ else _) _ _ s;rw[if_neg (show ¬ ((eg t==gg)=dr)from KI)];show eb _ _ (N9 (.ref it) 1>>=_) _ _ s;refine Ju (Kh W hd (x:=.int i 0) rfl ?_);show eb _ _ (Og (.ref t)>>=_) _ _ s;refine Ju (KD Y X ?_);simp only[F_,R];refine Ju (ML (Ju (Lc W hd (by simp) ?_)));show eb _ _ (OK (.type "StopIteration") []>>=_) _ _ _;refine Ju ?_;simp only[OK,newTuple];refine Ju (Ka ?_ (by size_fits));refine Ju (m:=F0 _ _) (NQ (a:=gg) (by first|rfl|(simp only[F0];rfl)) ?_);refine Ka ?_ (by size_fits);simp only[raiseNew];refine Ju (wpAny_handled ?_);first|rw[show A.in1.handled=none from U]|rw[U]
 refine Ju (Jx (wpAny_throw ?_));exact T _ _ (((KC ..).extBut.push _).push _) ⟨_,JD _ rfl,rfl⟩
theorem xw{z TI TO O N r p:c_}{k:Nat}{xs ys:Array aC}{x y a b:aC}{Q:Option aC->b_->Prop}(D:N_ z TI TO O N r p)
  (v:K' s.heap z TI TO .none) (i:m2 s.heap TI (.ref O) (.ref N)) (f:m2 s.heap TO a b)
  (h1:s.heap.IsTupleIter O r k) (h2:s.heap.IsTupleIter N p k) (g:s.heap.IsTuple r xs) (a3:s.heap.IsTuple p ys) (hx:xs[k]? =ar x) (hy:ys[k]? =ar y)
  (hQ:∀h',K' h' z TI TO (k8 s.heap.objs.size)->m2 h' TO x y->h'.IsTupleIter O r (k+1)->h'.IsTupleIter N p (k+1)->m2 h' s.heap.objs.size x y->h'.objs.size=s.heap.objs.size+1->
   (∀c o,c≠z->c≠TO->c≠O->c≠N->s.heap.get? c=ar o->h'.get? c=ar o)->Q (ar (.ref s.heap.objs.size)) {s with heap:=h'}):eb (eK prog w) A (EA (.ref z)) Q E s:=by
 have hT:s.TypeIs (.ref z) "zip":=⟨_,v,rfl⟩;unfold EA;refine Ju (LH (wpAny_callSpecial?_slot (name:=hI "__next__") hT Mo (Kk Mo hT F.entry_zip_next ?_ (F.args_zip_next_1 _))));show eb _ _ (N9 (.ref z) 2>>=_) _ _ _;refine Ju (Kh v rfl (x:=.bool dt) rfl ?_);show eb _ _ (N9 (.ref z) 3>>=_) _ _ _;refine Ju (Kh v rfl (x:=.ref TI) rfl ?_);refine Ju (KD i rfl ?_);show eb _ _ (j2 (.ref z)>>=_) _ _ _;refine Ju ?_;unfold j2;refine Ju (Kh v rfl (x:=.none) rfl (Jx ?_));simp only[if_true];refine Ju (ML ?_);refine Ju (Kh v rfl (x:=.ref TO) rfl ?_);refine Ju (KZ v (by simp) λg1 C Z=>?_);replace C:K' g1 z TI TO .ellipsis:=C;refine Ju ?_;simp only[List.zipIdx_cons,List.zipIdx_nil,L_,List.forIn_nil];refine Ju (Ju (MV ?_));show eb _ _ (hY (.ref O)>>=_) _ _ _;refine Ju (ju (s:={s with heap:=g1}) (h1.at λo e=>Z.extBut _ _ D.i1z e) (g.extBut Z.extBut D.l1z) hx λg2 j U=>Jx ?_);have J:m2 g2 TO a b:=U.extBut _ _ D.TOi1 (Z.extBut _ _ D.TOz f);refine Ju (KD J rfl ?_);refine Ju (Mg J λg3 R W=>?_);replace R:m2 g3 TO x b:=R;refine Ju (NR (Jx ?_));refine Ju (Ju (MV ?_));show eb _ _ (hY (.ref N)>>=_) _ _ _;refine Ju (ju (s:={s with heap:=g3}) (((h2.at λo e=>Z.extBut _ _ D.i2z e).at λo e=>U.extBut _ _ D.i12.symm e).at λo e=>W.extBut _ _ D.TOi2.symm e)
  (((a3.extBut Z.extBut D.l2z).extBut U.extBut D.l2i1).extBut W.extBut D.l2TO) hy λg4 d T=>Jx ?_)
 have K:m2 g4 TO x b:=T.extBut _ _ D.TOi2 R;refine Ju (KD K rfl ?_);refine Ju (Mg K λY X S=>?_);replace X:m2 Y TO x y:=X;refine Ju (NR (Jx (Jx ?_)));refine Ju (KD X rfl ?_);refine Ju (wpAny_newTuple ?_);have t:Y.objs.size=s.heap.objs.size:=by rw[S.1,T.1,W.1,U.1,Z.1]
 have u:K' Y z TI TO .ellipsis:=S.extBut _ _ D.TOz.symm (T.extBut _ _ D.i2z.symm (W.extBut _ _ D.TOz.symm (U.extBut _ _ D.i1z.symm C)));have h:∀c o,c≠z->c≠TO->c≠O->c≠N->s.heap.get? c=ar o->Y.get? c=ar o:=λc o G l c3 c4 e=>
  S.extBut _ _ l (T.extBut _ _ c4 (W.extBut _ _ l (U.extBut _ _ c3 (Z.extBut _ _ G e))))
 have a4:Y.IsTupleIter O r (k+1):=((j.at λo e=>W.extBut _ _ D.TOi1.symm e).at λo e=>T.extBut _ _ D.i12 e).at λo e=>S.extBut _ _ D.TOi1.symm e;have a5:Y.IsTupleIter N p (k+1):=d.at λo e=>S.extBut _ _ D.TOi2.symm e;have L:z<Y.objs.size:=JC u;show eb _ _ (Builtin.SmallTypes.ownedTupleHandOut (.ref z) (.ref Y.objs.size)>>=_) _ _ _;refine Ju ?_;unfold Builtin.SmallTypes.ownedTupleHandOut;have a0:K' (Y.push {cls:=.type "tuple",data:=.seq #[x,y]}) z TI TO .ellipsis:=Jv _ u;refine Ju (KZ a0 (by simp) λg7 H I=>?_);replace H:K' g7 z TI TO (k8 Y.objs.size):=H;refine KZ H (by simp) λq P B=>?_;replace P:K' q z TI TO (k8 Y.objs.size):=P;have up:∀c o,c≠z->Y.get? c=ar o->q.get? c=ar o:=λc o G e=>B.extBut _ _ G (I.extBut _ _ G (Jv _ e));have m:m2 q Y.objs.size x y:=B.extBut _ _ (KU L) (I.extBut _ _ (KU L) (JD _ rfl));have n:q.objs.size=Y.objs.size+1:=by rw[B.1,I.1,Ku]
 rw[t]at P m n;refine Jx ⟨_,rfl,?_⟩;refine Jx ?_;show Q (ar (.ref Y.objs.size)) _;rw[t];exact hQ q P (up _ _ D.TOz X) (a4.at λo e=>up _ o D.i1z e) (a5.at λo e=>up _ o D.i2z e) m n λc o G l c3 c4 e=>up c o G (h c o G l c3 c4 e)
theorem zF{z TI TO L K u r:c_}{k:Nat}{xs ys:Array aC}{a b:aC}{Q:Option aC->b_->Prop}(i:A.handled=none)(D:N_ z TI TO L K u r)
  (N:K' s.heap z TI TO .none) (q:m2 s.heap TI (.ref L) (.ref K)) (n:m2 s.heap TO a b)
  (j:s.heap.IsTupleIter L u k) (h2:s.heap.IsTupleIter K r k) (B:s.heap.IsTuple u xs) (m:s.heap.IsTuple r ys) (J:xs[k]? =none\/ys[k]? =none)
  (p:∀h',(∀c o,c≠z->c≠TO->c≠L->c≠K->s.heap.get? c=ar o->h'.get? c=ar o)->Q none {s with heap:=h'}):eb (eK prog w) A (EA (.ref z)) Q E s:=by
 have d:s.TypeIs (.ref z) "zip":=⟨_,N,rfl⟩;unfold EA;refine Ju (LH (wpAny_callSpecial?_slot (name:=hI "__next__") d Mo (Kk Mo d F.entry_zip_next ?_ (F.args_zip_next_1 _))));have stop:∀(g:fc) (e:c_),(∃o,g.get? e=ar o/\o.cls= .type "StopIteration")->(∀c o,c≠z->c≠TO->c≠L->c≠K->s.heap.get? c=ar o->g.get? c=ar o)->∀R:aC->b_->Prop,
   (∀v s',eb (eK prog w) A (do if<-isInstance v (.type "StopIteration")then a_ none else throw v) Q E s'->R v s')->R (.ref e) {s with heap:=g}:=λg e ⟨o,ho,hc⟩ hk R hR=>hR _ _ (by
  refine Ju (Lu (T:="StopIteration") (b:=dr) ⟨o,ho,hc⟩ ME ?_);exact Jx (p _ hk))
 show eb _ _ (N9 (.ref z) 2>>=_) _ _ _;refine Ju (Kh N rfl (x:=.bool dt) rfl ?_);show eb _ _ (N9 (.ref z) 3>>=_) _ _ _;refine Ju (Kh N rfl (x:=.ref TI) rfl ?_);refine Ju (KD q rfl ?_);show eb _ _ (j2 (.ref z)>>=_) _ _ _;refine Ju ?_;unfold j2;refine Ju (Kh N rfl (x:=.none) rfl (Jx ?_));simp only[if_true];refine Ju (ML ?_);refine Ju (Kh N rfl (x:=.ref TO) rfl ?_);refine Ju (KZ N (by simp) λg1 S Z=>?_);replace S:K' g1 z TI TO .ellipsis:=S;refine Ju ?_;simp only[List.zipIdx_cons,List.zipIdx_nil,L_,List.forIn_nil];refine Ju (Ju (MV ?_));show eb _ _ (hY (.ref L)>>=_) _ _ _;cases hx:xs[k]? with
 |none=>
  refine Ju (pK (s:={s with heap:=g1}) i (j.at λo e=>Z.extBut _ _ D.i1z e) (B.extBut Z.extBut D.l1z) hx λg2 e Y he=>?_);obtain⟨t,X,U⟩:=he;have H:K' g2 z TI TO .ellipsis:=Y _ _ D.i1z.symm S;have O:e≠z:=λx=>by subst x;rw[H]at X;cases X;simp at U
  refine KZ H (by simp) λg3 _ W=>?_;refine Ju (Lu (T:="StopIteration") (b:=dr) ⟨t,W.extBut _ _ O X,U⟩ ME ?_);exact Jx (p _ λc o I _ l _ x=>W.extBut _ _ I (Y _ _ l (Z.extBut _ _ I x)))
 | some x=>
  have hy:ys[k]? =none:=by rcases J with h|h;rw[hx]at h;cases h;exact h
  refine Ju (ju (s:={s with heap:=g1}) (j.at λo e=>Z.extBut _ _ D.i1z e) (B.extBut Z.extBut D.l1z) hx λg2 a3 Y=>Jx ?_);have P:m2 g2 TO a b:=Y.extBut _ _ D.TOi1 (Z.extBut _ _ D.TOz n);refine Ju (KD P rfl ?_);refine Ju (Mg P λg3 f W=>?_);refine Ju (NR (Jx ?_));refine Ju (Ju (MV ?_));show eb _ _ (hY (.ref K)>>=_) _ _ _;refine Ju (pK (s:={s with heap:=g3}) i (((h2.at λo e=>Z.extBut _ _ D.i2z e).at λo e=>Y.extBut _ _ D.i12.symm e).at λo e=>W.extBut _ _ D.TOi2.symm e)
   (((m.extBut Z.extBut D.l2z).extBut Y.extBut D.l2i1).extBut W.extBut D.l2TO) hy λg4 e y he=>?_)
  obtain⟨t,X,U⟩:=he;have G:K' g4 z TI TO .ellipsis:=y _ _ D.i2z.symm (W.extBut _ _ D.TOz.symm (Y.extBut _ _ D.i1z.symm S));have O:e≠z:=λx=>by subst x;rw[G]at X;cases X;simp at U
  refine KZ G (by simp) λg5 _ C=>?_;refine Ju (Lu (T:="StopIteration") (b:=dr) ⟨t,C.extBut _ _ O X,U⟩ ME ?_);exact Jx (p _ λc o I c2 l c4 x=>C.extBut _ _ I (y _ _ c4 (W.extBut _ _ c2 (Y.extBut _ _ l (Z.extBut _ _ I x)))))
end
def Ht(l:c_):Obj:={cls:=.type "tuple_iterator",data:=.fields #[.ref l,.int 0 0]}
def EE(h:fc)(l1:c_):Heap:=h.push (Ht l1)
def EF(h:fc)(l1 l2:c_):Heap:=(EE h l1).push (Ht l2)
def EG(h:fc)(l1 l2:c_):Heap:=(EF h l1 l2).push {cls:=.type "tuple",data:=.seq #[.ref h.objs.size,.ref (EE h l1).objs.size]}
def FF(h:fc)(l1 l2:c_):Heap:=(EG h l1 l2).push {cls:=.type "tuple",data:=.seq #[.none,.none]}
def EH(h:fc)(l1 l2:c_):Heap:=(FF h l1 l2).push {cls:=.type "zip",data:=.fields #[.none,.bool dt,.bool dt,.ref (EF h l1 l2).objs.size,.ref (EG h l1 l2).objs.size]}
theorem EI(Z Y:c_)(xs ys:Array aC):
  Meets (Builtin.«zip.__new__» ⟨[.type "zip",.ref Z,.ref Y],[]⟩) (λ_ R s=>s.heap.IsTuple Z xs/\s.heap.IsTuple Y ys/\R (.ok (.ret (.ref (FF s.heap Z Y).objs.size))) {s with heap:=EH s.heap Z Y}):=
 .of_wp λprog w A R s h=>by
  obtain⟨P,g,d,S,os⟩:=s;obtain⟨X,W,h⟩:=h;have Q:=sub_zip;have U:Heap.IsTuple (Shared.heap ⟨P,g,d,S,os⟩) Z xs:=X;have T:Heap.IsTuple (Shared.heap ⟨P.push {cls:=.type "tuple_iterator",data:=.fields #[.ref Z,.int 0 0]},g,d,S,os⟩) Y ys:=let ⟨o,e,r⟩:=W;⟨o,Jv _ e,r⟩
  wp_walk using LA U,LA T
  exact⟨_,rfl,h⟩
section
variable {prog:ee}{w:ey}{A:gd}{E:aC->b_->Prop}{s:b_}
theorem xx{Q:aC->b_->Prop}(S:s.heap.IsTuple l1 xs)(P:s.heap.IsTuple l2 ys)
  (h:∀h',K' h' (s.heap.objs.size+4) (s.heap.objs.size+2) (s.heap.objs.size+3) .none->m2 h' (s.heap.objs.size+2) (.ref s.heap.objs.size) (.ref (s.heap.objs.size+1))->
   m2 h' (s.heap.objs.size+3) .none .none->h'.IsTupleIter s.heap.objs.size l1 0->h'.IsTupleIter (s.heap.objs.size+1) l2 0->(∀c o,s.heap.get? c=ar o->h'.get? c=ar o)->Q (.ref (s.heap.objs.size+4)) {s with heap:=h'}):
  eb (eK prog w) A (call (.type "zip") [.ref l1,.ref l2]) Q E s:=by
 refine callType_new F.called_zip (by decide) (F.typeCall_zip_2 _ _) (F.newCall_zip_2 _ _) (λobj=>F.args_object_init_3 obj _ _) F.entry_zip_new (EI l1 l2 xs ys) ⟨S,P,?_⟩;have X:(EE s.heap l1).objs.size=s.heap.objs.size+1:=Ku ..;have W:(EF s.heap l1 l2).objs.size=s.heap.objs.size+2:=(Ku ..).trans (by rw[X]);have R:(EG s.heap l1 l2).objs.size=s.heap.objs.size+3:=(Ku ..).trans (by rw[W]);have O:(FF s.heap l1 l2).objs.size=s.heap.objs.size+4:=(Ku ..).trans (by rw[R]);have Z:∀{c o},(FF s.heap l1 l2).get? c=ar o->(EH s.heap l1 l2).get? c=ar o:=λe=>Jv _ e;have Y:∀{c o},(EG s.heap l1 l2).get? c=ar o->(FF s.heap l1 l2).get? c=ar o:=λe=>Jv _ e;have U:∀{c o},(EF s.heap l1 l2).get? c=ar o->(EG s.heap l1 l2).get? c=ar o:=λe=>Jv _ e;have N:∀{c o},(EE s.heap l1).get? c=ar o->(EF s.heap l1 l2).get? c=ar o:=λe=>Jv _ e;have K:∀{c o},s.heap.get? c=ar o->(EE s.heap l1).get? c=ar o:=λe=>Jv _ e;have T:(EH s.heap l1 l2).get? (FF s.heap l1 l2).objs.size=ar {cls:=.type "zip",data:=.fields #[.none,.bool dt,.bool dt,.ref (EF s.heap l1 l2).objs.size,.ref (EG s.heap l1 l2).objs.size]}:=JD _ rfl;have L:(EH s.heap l1 l2).get? (EG s.heap l1 l2).objs.size=ar {cls:=.type "tuple",data:=.seq #[.none,.none]}:=Z (JD _ rfl);have g3:(EH s.heap l1 l2).get? (EF s.heap l1 l2).objs.size=ar {cls:=.type "tuple",data:=.seq #[.ref s.heap.objs.size,.ref (EE s.heap l1).objs.size]}:=Z (Y (JD _ rfl));have g2:(EH s.heap l1 l2).get? (EE s.heap l1).objs.size=ar (Ht l2):=Z (Y (U (JD _ rfl)));have g1:(EH s.heap l1 l2).get? s.heap.objs.size=ar (Ht l1):=Z (Y (U (N (JD _ rfl))));show _/\_;rw[W,R,O]at T;rw[X,W]at g3;rw[R]at L;rw[X]at g2;rw[O];exact⟨⟨_,T,rfl⟩,h _ T g3 L ⟨_,g1,rfl,rfl⟩ ⟨_,g2,rfl,rfl⟩ λc o x=>Z (Y (U (N (K x))))⟩
end
def yf(va vb:List V):It:=⟨λi _=>i<va.length/\i<vb.length,λi H x H'=>∃p a b,H p=none/\va[i]? =ar a/\vb[i]? =ar b/\x= .ref p/\H'=upd H p (.tup [a,b]),λi _=>va.length<=i\/vb.length<=i⟩
section
variable {X:Cx}{pins:List (c_×Obj)}{σ:L2.St}{H:Hp}{s:b_}
theorem vK{h':fc}{t':Nat}{ch:List c_}(I:L2.Inv X pins σ H s)(W:∀b∈ch,jH X pins H b)(k:∀b o,b∉ch->s.heap.get? b=ar o->h'.get? b=ar o):L2.Inv X pins σ H {s with heap:=h',toks:=t'}:=by
 have Y:∀b u,H b=ar u->b∉ch:=λb u e z=>by rw[(W b z).1]at e;cases e
 refine I.step (g':=s.gens) (d':=s.drawn) (ch:=ch) (λb T=>?_) (λb o _ _ Z e _=>k b o Z e) (λb o _ _ Z e _=>⟨o.slots,k b o Z e⟩) (λ_ _ _ _ n=>n)
  (λb o Z e=>⟨o,k b o Z e⟩) (λ_ _ e=>e) (λ_ _ _ e=>e) (λb Q e=>⟨#[],by rw[e];simp⟩) (λm hm=>?_) (λb u e=>?_) I.bare
 ·obtain⟨f0,f1,f2,R,f4,S⟩:=W b T;exact⟨R,f1,f4,S⟩
 ·obtain⟨o,es,ep,U,r⟩:=hm;exact⟨o,es,ep,k _ o (λz=>(W _ z).2.1 rfl) U,r⟩
 ·refine(I.hok b u e).stay (λc v Z q=>k c v ?_ q) (λ_ q=>q) λ_ _ q=>q;rcases Z with z|z
  ·rw[z];exact Y b u e
  ·exact Y c _ z
theorem vL{h':fc}{t':Nat}{ch:List c_}{a:c_}{o:HO}(I:L2.Inv X pins σ H s)(T:∀b∈ch,jH X pins H b)(k:∀b o,b∉ch->s.heap.get? b=ar o->h'.get? b=ar o)(R:s.heap.objs.size<=a)(S:aW X.prog X.w (upd H a o) h' a o):
  L2.Inv X pins σ (upd H a o) {s with heap:=h',toks:=t'}:=by
 have W:H a=none:=I.hok.fresh R;have Y:∀b u,H b=ar u->b∉ch:=λb u e z=>by rw[(T b z).1]at e;cases e
 have ne:∀b o,s.heap.get? b=ar o->b≠a:=λb o e=>JK (JI (JC e) R);refine I.step (g':=s.gens) (d':=s.drawn) (ch:=ch) (λb U=>?_) (λb o _ _ Z e _=>k b o Z e) (λb o _ _ Z e _=>⟨o.slots,k b o Z e⟩) (λb o _ e n=>by rw[aG (ne b o e)];exact n)
  (λb o Z e=>⟨o,k b o Z e⟩) (λb xs e=>by rw[aG (aI e W)];exact e) (λb _ _ e=>by rw[aG (aI e W)];exact e) (λb N e=>⟨#[],by rw[aG (aI e W),e];simp⟩) (λm hm=>?_) (λb u e=>?_) I.bare
 ·obtain⟨f0,f1,f2,P,f4,Q⟩:=T b U;exact⟨P,f1,f4,Q⟩
 ·obtain⟨o,es,ep,O,r⟩:=hm;exact⟨o,es,ep,k _ o (λz=>(T _ z).2.1 rfl) O,r⟩
 ·by_cases U:b=a
  ·subst U;rw[aU]at e;cases e;exact S
  ·rw[aG U]at e;refine(I.hok b u e).stay (λc v Z q=>k c v ?_ q) (λc q=>by rw[aG (aI q W)];exact q) λc xs q=>by rw[aG (aI q W)];exact q
   rcases Z with z|z
   ·rw[z];exact Y b u e
   ·exact Y c _ z
end
theorem zG{P:ee}{w:ey}{K:dV}{r:List Expr}{x1}{tp:Pos}{z TI TO Q O l1 l2:c_}(D:N_ z TI TO Q O l1 l2){F J:List V}(n:Hp->Prop)(u:∀H,n H↔(H l1=ar (.tup F)/\H l2=ar (.tup J))):
  Turn P w K (.Tuple r x1 tp) ⟨λi H=>(yf F J).go i H/\n H,(yf F J).yld,λi H=>(yf F J).stop i H/\n H⟩ [z,TI,TO,Q,O] z
   (λi h=>K' h z TI TO .none/\m2 h TI (.ref Q) (.ref O)/\(∃a b,m2 h TO a b)/\h.IsTupleIter Q l1 i/\h.IsTupleIter O l2 i) where
 mem:=by simp
 obj:=λi h st b Y=>by
  obtain⟨R,Z,⟨a,c,U⟩,⟨o1,e1,c1,d1⟩,⟨o2,e2,c2,d2⟩⟩:=st;simp only[gc,fb,or_false]at Y;rcases Y with rfl|rfl|rfl|rfl|rfl
  ·exact⟨_,R,λv z=>by cases z⟩
  ·exact⟨_,Z,λv z=>by cases z⟩
  ·exact⟨_,U,λv z=>by cases z⟩
  ·exact⟨_,e1,λv z=>by rw[d1]at z;cases z⟩
  ·exact⟨_,e2,λv z=>by rw[d2]at z;cases z⟩
 keep:=λi h h' st k=>by obtain⟨R,Z,⟨a,c,U⟩,C,G⟩:=st;exact⟨k z (by simp) _ R,k TI (by simp) _ Z,⟨a,c,k TO (by simp) _ U⟩,C.at λo e=>k Q (by simp) o e,G.at λo e=>k O (by simp) o e⟩
 item:=by
  intro X j hw hK hc i pins s σ H E I hf st hg;subst j hw hK;obtain⟨R,Z,⟨a,c,U⟩,C,G⟩:=st;obtain⟨⟨ga,gb⟩,hH⟩:=hg;obtain⟨hA,m⟩:=(u H).mp hH;obtain⟨t,N,p1,_⟩:=I.tuple (.of hA);obtain⟨A,L,l,_⟩:=I.tuple (.of m);obtain⟨u1,c7,d0⟩:=N.get (JB ga);obtain⟨d,f,c5⟩:=L.get (JB gb);refine xw D R Z U C G p1 l (x:=u1) (y:=d) (by simpa using c7) (by simpa using f) λh' a1 a2 a3 a4 a5 a6 p=>?_;have b4:H s.heap.objs.size=none:=I.hok.fresh (Jw _);have lt:∀{c o},s.heap.get? c=ar o->s.heap.objs.size≠c:=λe=>KU (JC e);refine⟨_,rfl,MF a1 λS a0 T=>?_⟩;have B:m2 S TI (.ref Q) (.ref O):=T.extBut _ _ D.TIz (p _ _ D.TIz D.TITO D.TIi1 D.TIi2 Z);have kk:∀b o,b∉[z,TI,TO,Q,O]->s.heap.get? b=ar o->S.get? b=ar o:=λb o Y e=>by simp only[gc,fb,or_false,not_or]at Y;exact T.extBut _ _ Y.1 (p b o Y.1 Y.2.2.1 Y.2.2.2.1 Y.2.2.2.2 e)
  have q:m2 S s.heap.objs.size u1 d:=T.extBut _ _ (lt R) a5;have I2:L2.Inv X pins σ (upd H s.heap.objs.size (.tup [F[i],J[i]])) {s with heap:=S,toks:=s.toks}:=vL (o:=.tup [F[i],J[i]]) I hf kk (Jw _) ⟨⟨by show 2<=sizeLine;decide,_,q,rfl⟩,[u1,d],.cons d0 (.cons c5 .nil),_,q,rfl,_,rfl⟩;refine⟨.ref s.heap.objs.size,_,I2,rfl,
   ⟨_,_,_,b4,JB ga,JB gb,rfl,rfl⟩,⟨a0,B,⟨_,_,T.extBut _ _ D.TOz a2⟩,a3.at λo e=>T.extBut _ _ D.i1z e,a4.at λo e=>T.extBut _ _ D.i2z e⟩,λb Y=>?_⟩
  obtain⟨ob,ho,_⟩:∃ob,s.heap.get? b=ar ob/\True:=by
   simp only[gc,fb,or_false]at Y;rcases Y with rfl|rfl|rfl|rfl|rfl
   ·exact⟨_,R,trivial⟩
   ·exact⟨_,Z,trivial⟩
   ·exact⟨_,U,trivial⟩
   ·obtain⟨o,e,_⟩:=C;exact⟨_,e,trivial⟩
   ·obtain⟨o,e,_⟩:=G;exact⟨_,e,trivial⟩
  rw[aG (JK (JC ho))];exact(hf b Y).1
 done:=by intro X j hw hK hc i pins s σ H E I hf st hg;subst j hw hK;obtain⟨R,Z,⟨a,c,U⟩,C,G⟩:=st;obtain⟨gs,hH⟩:=hg;obtain⟨hA,m⟩:=(u H).mp hH;obtain⟨t,N,p1,_⟩:=I.tuple (.of hA);obtain⟨A,L,l,_⟩:=I.tuple (.of m);have f3:=N.length;have e6:=L.length;refine zF (I.ok.hd hc) D R Z U C G p1 l (gs.imp (λg=>by simp;omega) λg=>by simp;omega) λh' p=>⟨rfl,vK (t':=s.toks) I hf λb o Y e=>?_⟩;simp only[gc,fb,or_false,not_or]at Y;exact p b o Y.1 Y.2.2.1 Y.2.2.2.1 Y.2.2.2.2 e
 self:=λ_ _ _ _ _ st h=>Md st.1 h
theorem zip_get{xs ys:List D}{i:Nat}{d:D}(h:((xs.zip ys).map λp=>D.tup [p.1,p.2])[i]? =ar d):∃x y,xs[i]? =ar x/\ys[i]? =ar y/\d= .tup [x,y]:=by
 rw[JP]at h;cases q:(xs.zip ys)[i]? with
 |none=>rw[q]at h;cases h
 |some p=>
  rw[q]at h;cases h;obtain⟨Z,Y⟩:=Lq.mp q;exact⟨p.1,p.2,Z,Y,rfl⟩
theorem uy{K:dV}{ι:List c_}{H:Hp}{S:aw}{a b:c_}{Y X:List V}{xs ys:List D}(Z:Rep K ι H S)(F:H a=ar (.tup Y))(I:H b=ar (.tup X))(A:RelDs K ι H xs Y)(C:RelDs K ι H ys X):
  gf K ⟨(xs.zip ys).map λp=>.tup [p.1,p.2],.none⟩ ⟨λi H=>(yf Y X).go i H/\(H a=ar (.tup Y)/\H b=ar (.tup X)),(yf Y X).yld,λi H=>(yf Y X).stop i H/\(H a=ar (.tup Y)/\H b=ar (.tup X))⟩ ι H:=by
 intro P O S2 e rep2 ok i;have U:O a=ar (.tup Y):=(e.oth a _ F (Z.notIn F (by intro _ z;cases z)) (by intro _ z;cases z) (by intro _ z;cases z)).1;have Q:O b=ar (.tup X):=(e.oth b _ I (Z.notIn I (by intro _ z;cases z)) (by intro _ z;cases z) (by intro _ z;cases z)).1;have R:=A.laterN Z e;have T:=C.laterN Z e;have q:=R.length;have u:=T.length;refine⟨λd hd=>?_,λhlen=>?_⟩
 ·obtain⟨x,y,E,G,rfl⟩:=zip_get hd;have s:=(Jz.mp E).1;have r:=(Jz.mp G).1;refine⟨⟨⟨by omega,by omega⟩,U,Q⟩,?_⟩;rintro v H3 ⟨p,J,L,hp,g1,g2,rfl,rfl⟩;obtain⟨v1,e1,w⟩:=R.get' E;obtain⟨v2,e2,B⟩:=T.get' G;obtain rfl:v1=J:=JW (e1.symm.trans g1);obtain rfl:v2=L:=JW (e2.symm.trans g2);have N:Ext P O P (upd O p (.tup [v1,v2])):=eh hp;exact⟨N,fP rep2 hp,.tup aU (.cons (w.later rep2 N) (.cons (B.later rep2 N) .nil))⟩
 ·have t:min xs.length ys.length<=i:=by simpa using hlen
  refine⟨?_,U,Q⟩;rcases Nat.le_total xs.length ys.length with z|z
  ·exact .inl (by omega)
  ·exact .inr (by omega)
end S4
namespace S3
open PySem PySem.Spec PyProof.Rows L2 S4
abbrev mV(i:Nat):TM:=λρ=>C5 ρ i
abbrev mK(d:D):TM:=λ_=>a_ d
abbrev oJ(m n:TM):TM:=λρ=>do let x<-m ρ;let c<-jB x;if c=dr then n ρ else a_ (.bl dt)
abbrev IA(m:TM):TM:=λρ=>do let x<-m ρ;let c<-jB x;a_ (.bl (!c))
abbrev IB(t:aB->M Bool)(m n:TM):TM:=λρ=>do let k<-t ρ;if k=dr then m ρ else n ρ
abbrev B2:=aB->M (List D)
abbrev au:B2:=λ_=>a_ []
abbrev aa(m:TM)(ms:B2):B2:=λρ=>do let x<-m ρ;let xs<-ms ρ;a_ (x::xs)
abbrev kb(ms:B2):TM:=λρ=>do let ds<-ms ρ;cq ds
abbrev bo(ms:B2):TM:=λρ=>do let ds<-ms ρ;a8 ds
abbrev aA(F:List D->M D)(ms:B2):TM:=λρ=>do let ds<-ms ρ;F ds
abbrev cD(F:List D->M D)(m:TM):TM:=aA F (aa m au)
abbrev aV(f:D->D->M D)(m n:TM):TM:=λρ=>do let x<-m ρ;let y<-n ρ;f x y
abbrev EJ(f g:D->D->M D)(m n l:TM):TM:=λρ=>do let x<-m ρ;let y<-n ρ;let z<-f x y;let k<-jB z;if k=dr then do let w<-l ρ;g y w else a_ (.bl dt)
abbrev IC:=aB->M (Option Int)
abbrev oN:IC:=λ_=>a_ none
abbrev oS(m:TM):IC:=λρ=>do let x<-m ρ;let i<-IW x;a_ (ar i)
abbrev Dd(m:TM)(lo hi:IC):TM:=λρ=>do let x<-m ρ;let i<-lo ρ;let j<-hi ρ;ub x i j
abbrev gh(m:TM)(T:String):TM:=λρ=>do let x<-m ρ;y0 (λt=>gG t T) x
abbrev De(m:TM)(T U:String):TM:=λρ=>do let x<-m ρ;y0 (λt=>gG t T||gG t U) x
abbrev sv(f:D->List D->M D)(m n:TM):TM:=λρ=>do let x<-m ρ;Em x;let ds<-(do let y<-n ρ;let ys<-a_ [];a_ (y::ys));f x ds
abbrev br(mi:aB->M Iter)(g:mR)(t:aB->M Bool)(m:TM)(js:List (Option Nat)):TM:=λρ=>do let it<-mi ρ;let ys<-eu it g t m (i8 js ρ);a8 ys
abbrev il:=aB->M Bool
abbrev bV(m:TM):il:=λρ=>do let x<-m ρ;jB x
abbrev fM(f:D->D->M D)(m n:TM):il:=λρ=>do let z<-(do let x<-m ρ;let y<-n ρ;f x y);jB z
abbrev gX(f g:D->D->M D)(m n l:TM):il:=λρ=>do let v<-(do let x<-m ρ;let y<-n ρ;let z<-f x y;let k<-jB z;if k=dr then do let w<-l ρ;g y w else a_ (.bl dt));jB v
abbrev cQ(t:il):il:=λρ=>do let c<-t ρ;a_ (!c)
abbrev xy(t u:il):il:=λρ=>do let c<-t ρ;if c=dr then u ρ else a_ dt
abbrev vM(t u:il):il:=λρ=>do let c<-t ρ;if c=dr then a_ dr else u ρ
abbrev lC:il:=λ_=>a_ dr
abbrev uz(m:TM):aB->M Iter:=λρ=>do let ds<-aa m au ρ;jr ds
abbrev Df(m n:TM):aB->M Iter:=λρ=>do let ds<-aa m (aa n au) ρ;iX ds
abbrev d7(m:TM):aB->M Iter:=λρ=>do let x<-m ρ;Gu x
abbrev gN(i:Nat):mR:=λd ρ=>a_ (ρ.set i (ar d))
abbrev Hu(m n:TM):mR:=λd ρ=>do let x<-m ρ;let y<-n ρ;iA x y d;a_ ρ
abbrev dX:cW:=λρ=>a_ (.nx ρ)
abbrev aH(m n:cW):cW:=λρ=>do let o<-m ρ;yL o n
abbrev rJ(me:TM):cW:=λρ=>do let _<-me ρ;a_ (.nx ρ)
abbrev bS(me:TM):cW:=λρ=>do let d<-me ρ;a_ (.ret d)
abbrev jv(t:il)(m n:cW):cW:=λρ=>do let c<-t ρ;if c=dr then m ρ else n ρ
abbrev bE(i:Nat)(me:TM):cW:=λρ=>do let d<-me ρ;a_ (.nx (ρ.set i (ar d)))
abbrev oK(me:TM)(g:mR):cW:=λρ=>do let d<-me ρ;let ρ'<-g d ρ;a_ (.nx ρ')
abbrev oM(mi:aB->M Iter)(g:mR)(b:cW):cW:=λρ=>do let it<-mi ρ;gD it g b it.items ρ
abbrev EK(k:Nat)(t:il)(b:cW):cW:=λρ=>iB t b k ρ
structure DefIs(P:ee)(w:ey)(K:dV)(mg:Str->Option aC)(base:fc)(k:Nat)(x:Str)(ps:List Str)(F:List D->M D):Prop where
 ex:∃f fd,FnOk P w K mg base Jh k f fd ps (Jj K F)/\mg x=ar (.ref f)/\u5 K (.ref f)=dr/\Binds K fd ps []
section
variable {X:Cx}{E:XD}{e:Expr}{es:List Expr}{pos:Pos}{ms:B2}
theorem av{c j p}:d_ (.Constant c j p::es) env=(dt,f' (.Constant c j p) env)::d_ es env:=rfl
theorem bf{l k p}:d_ (.Tuple l k p::es) env=(dt,f' (.Tuple l k p) env)::d_ es env:=rfl
theorem qN{l p}:d_ (.List l p::es) env=(dt,f' (.List l p) env)::d_ es env:=rfl
theorem aD{x p}:d_ (.Name x p::es) env=(dt,f' (.Name x p) env)::d_ es env:=rfl
theorem a9{f l k p}:d_ (.Call f l k p::es) env=(dt,f' (.Call f l k p) env)::d_ es env:=rfl
theorem eO{a o b p}:d_ (.BinOp a o b p::es) env=(dt,f' (.BinOp a o b p) env)::d_ es env:=rfl
theorem fh{a b p}:d_ (.Subscript a b p::es) env=(dt,f' (.Subscript a b p) env)::d_ es env:=rfl
theorem B3{a b p}:d_ (.Dict a b p::es) env=(dt,f' (.Dict a b p) env)::d_ es env:=rfl
theorem uA{a b p}:d_ (.UnaryOp a b p::es) env=(dt,f' (.UnaryOp a b p) env)::d_ es env:=rfl
theorem zH{j p}:SE X E (.UnaryOp .USub (.Constant (.int i) j p) pos) (mK (.int (-i))):=by refine PE.imp (F6 DY yh) λσ H Q h=>?_;obtain⟨ι,S,ρ,rep,re,c⟩:=h;exact⟨i,rfl,ah c .refl rep _ (.int _)⟩
theorem sx(Y:Gl X x)(Z:∃t,X.mg x=ar (.int i t))(W:(x==("__debug__":Str))=false:=by decide):SE X E (.Name x pos) (mK (.int i)):=
 let ⟨_,h⟩:=Z
 BK Y h W
def Gz(fs:Scope)(N:List Str)(scope:Scope)(Nc:List Str)(js:List (Option Nat)):Bool:=
 (scope.kind== .function) && scope.names.all (λy=>y.2 != .cell||scope.names.lookup y.1==ar .cell) && scope.names.all (λy=>y.2 != .local||scope.names.lookup y.1==ar .local) &&
  scope.names.all (λy=>y.2 != .free||(fs.names.lookup y.1==ar .cell||fs.names.lookup y.1==ar .free)) && (js.length==Nc.length) &&
  (Nc.zip js).all (λp=>match p.2 with|none=>dr|some j=>N[j]? ==ar p.1 && scope.names.lookup p.1==ar .free)
theorem lO(Y:Scope)(N:List Str)(T:∀x,X.env.kindOf x=Y.names.lookup x)(R:X.N=N)(h:Gz Y N scope Nc js=dr):CompScope X scope Nc js:=by
 unfold Gz at h;simp only[h_,wh,beq_iff_eq,bne_iff_ne,MN]at h;obtain⟨⟨⟨⟨⟨O,S⟩,U⟩,P⟩,Q⟩,W⟩:=h;refine⟨O,λy Z e=>(S y Z).resolve_left λz=>z e,λy Z e=>(U y Z).resolve_left λz=>z e,λy Z e=>?_,Q,λi x j e1 e2=>?_⟩
 ·rw[T];exact(P y Z).resolve_left λz=>z e
 ·have L:(Nc.zip js)[i]? =ar (x,ar j):=Lq.mpr ⟨e1,e2⟩;have:=W _ (JV L);simp only[h_,beq_iff_eq]at this;rw[R];exact this
theorem iI(Z:Room k A):A.units+64<cLine:=by have:=Z.un;omega
theorem Jl(Z:Room k A):A.units+8<cLine:=by have:=Z.un;omega
theorem GA(Z:Room k A):A.units<cLine:=by have:=Z.un;omega
end
section
variable {P:ee}{w:ey}{K:dV}{mg:Str->Option aC}{base:fc}
end
def runs{α:Type}(c:M α)(S:aw)(Q:α->aw->Prop):Prop:=∃a S',c S=ar (.ok a,S')/\Q a S'
section
variable {α β:Type}{c:M α}{f:α->M β}{S:aw}{Q Q':α->aw->Prop}{R:β->aw->Prop}
theorem qO(h:c S=ar (.ok a,S1)):runs c S Q↔Q a S1:=by
 constructor
 ·rintro⟨a',S',e,q⟩;rw[h]at e;cases e;exact q
 ·exact λq=>⟨a,S1,h,q⟩
theorem B4(h:c S=none):runs c S Q↔False:=by
 constructor
 ·rintro⟨a',S',e,q⟩;rw[h]at e;cases e
 ·exact λq=>q.elim
theorem pL(h:runs c S Q)(k:∀a S',Q a S'->Q' a S'):runs c S Q':=let ⟨a,S',e,q⟩:=h;⟨a,S',e,k a S' q⟩
end
section
variable {S:aw}{Q:D->aw->Prop}
theorem xA:runs (a8 ds) S Q↔ds.length<=lim/\Q (.lst S.length) (S++[ds]):=by
 by_cases h:ds.length<=lim
 ·rw[qO (by unfold a8;rw[if_pos h])];simp[h]
 ·rw[B4 (by unfold a8;rw[if_neg h])];simp[h]
theorem dI{f:l_->l_->Bool}(Z:gE S 60 a=ar p)(Y:gE S 60 b=ar q):runs (FE f a b) S Q↔Q (.bl (f p q)) S:=by rw[qO (by unfold FE;rw[Z,Y])]
theorem vN(Z:gE S 60 a=ar p)(X:gE S 60 b=ar q)(Y:Iv f p q=ar r):runs (Gr f a b) S Q↔Q (.bl r) S:=by rw[qO (by unfold Gr;rw[Z,X];simp only[Y];rfl)]
end
end S3
namespace S7
open PySem PySem.Spec PySem.W PyProof.Rows
section
variable {prog:ee}{w:ey}{A:gd}{E:aC->b_->Prop}{s:b_}{K:OT}{x C:c_}{ox:Obj}{od:Option Obj}{name:Str}
theorem vO:Slot "BaseException" "__getattribute__" "BaseException.__getattribute__":=
 .of (owner:="BaseException") (n:="__getattribute__") (by rw[M4,L6];kernel_rfl) (by decide+kernel) (by decide+kernel) (by decide+kernel)
  (by first|exact .inl (by decide+kernel)|exact .inr (by decide+kernel)) (by rw[LY];kernel_rfl)
theorem zI{M:NN}{Z:aC}{Q:Unit->b_->Prop}(X:K.In s.heap)(I:y_ s.heap x ox C od)(U:Oh K C (.type "BaseException")=ar dr)(h:Q () s):
  eb M A (K_ "BaseException.__getattribute__" ⟨[.ref x,Z],[]⟩) Q E s:=by
 have R:builtinKind "BaseException.__getattribute__"=ar .slot:=by decide+kernel
 have Y:splitId "BaseException.__getattribute__"=ar ("BaseException","__getattribute__"):=by decide+kernel
 have S:=I.type (M:=M);have L1:=looks_mroIn (M:=M) X U;have O:=F.args_bexc_ga (.ref x) Z;obtain⟨P,g,d,t,os⟩:=s;have T:Looks M P (isInstance (.ref x) (.type "BaseException")) true:=S.andThen L1;simp only[K_,R,Y];refine Ju (T.at ?_)
 repeat (first|wp_step)
 exact h
theorem zJ{Y Z:Bool}{O:Tok}{Q:aC->b_->Prop}(X:K.In s.heap)(I:y_ s.heap x ox C od)(R:A' K (.ref C) "__getattribute__"=ar (ar (.builtin "BaseException.__getattribute__")))
  (U:A' K (.ref C) "__getattr__"=ar none) (L:Oh K C (.type "BaseException")=ar dr)
  (h:eb (eK prog w) A.in1 (Builtin.«object.__getattribute__» ⟨[.ref x,.str name O],[]⟩)
   (λfin s'=>match fin with| .done (.ret v)=>eb (eK prog w) A (handedOut v) Q E s'|_=>False) (λ_ _=>False) s):
  eb (eK prog w) A (getAttrBy (.ref x) (.str name O) Y Z) Q E s:=by
 obtain⟨J,g,d,t,os⟩:=s;have N:=I.type (M:=eK prog w);have L1:=looks_findIn (M:=eK prog w) X R;have L2:=looks_findIn (M:=eK prog w) X U;have S:(Z && Oi (y3 "BaseException.__getattribute__"))=false:=by cases Z<;>rfl
 have P:(y3 "BaseException.__getattribute__"==y3 "object.__getattribute__")=false:=by decide+kernel
 have T:(Oi (eg C) && y3 "BaseException.__getattribute__"==y3 "object.__getattribute__")=false:=by rw[P,MB]
 unfold getAttrBy;refine Kg (Ju (N.at (Ju (L1.at ?_))));dsimp only;rw[T];simp only[er,if_false];unfold getAttrByItsOwn hookBefore;rw[if_pos (show Oi (eg C)=dr from rfl)];refine Ju (L2.at ?_);unfold callGetattribute;rw[S];simp only[er,if_false];refine Ju (LH (Kg ?_));unfold boundAndCalled;rw[vO.bind];refine Ju (Jx ?_);refine MI (codeAny_call_builtin vO.plain F.entry_bexc_ga (zI X I L (Kx h (λfin s' z=>?_) λ_ _ z=>z.elim)));rcases fin with(_|_|_|_)|_<;>first|exact z|exact z.elim
theorem nD{g a:aC}{U:Tok}{P:aC->b_->Prop}(X:K.In s.heap)(I:y_ s.heap x ox C od)(Z:On K C od name=ar (.bind g a))
  (h:eb (eK prog w) A (call g [a,.ref x,.ref C]) P E s):
  eb (eK prog w) A (Builtin.«object.__getattribute__» ⟨[.ref x,.str name U],[]⟩) (λfin s'=>match fin with| .done (.ret v)=>P v s'|_=>False) E s:=by
 obtain⟨S,T,d,t,os⟩:=s;have Y:=I.type (M:=eK prog w);have L1:=looks_find (M:=eK prog w) X I Z;refine Ju (Jx (Ju (Jx (Ju (Y.at (Ju (L1.at ?_)))))));show eb _ _ (B' [a] (call g [a,.ref x,.ref C])>>=ret) _ _ _;exact Ju (Kg (Kx h (λv s' z=>Jx z) λ_ _ z=>z))
theorem oO{v:aC}{U:Tok}{P:aC->b_->Prop}(X:K.In s.heap)(I:y_ s.heap x ox C od)(Z:On K C od name=ar (.value v))(h:P v s):
  eb (eK prog w) A (Builtin.«object.__getattribute__» ⟨[.ref x,.str name U],[]⟩) (λfin s'=>match fin with| .done (.ret v)=>P v s'|_=>False) E s:=by
 obtain⟨S,T,d,t,os⟩:=s;have Y:=I.type (M:=eK prog w);have L1:=looks_find (M:=eK prog w) X I Z;refine Ju (Jx (Ju (Jx (Ju (Y.at (Ju (L1.at ?_)))))));exact Jx h
structure ExcC(K:OT)(C:c_):Prop where
 ga:A' K (.ref C) "__getattribute__"=ar (ar (.builtin "BaseException.__getattribute__"))
 gt:A' K (.ref C) "__getattr__"=ar none
 be:Oh K C (.type "BaseException")=ar dr
 ob:Oh K C (.type "object")=ar dr
 cl:A' K (.ref C) "__class__"=ar (ar (.builtin "object.__class__"))
 gs:specialIn K (.builtin "object.__class__") "__get__"=ar (ar (.builtin "getset_descriptor.__get__"))
 tk:takesIn K (.builtin "object.__class__")=ar dr
 cd:(OS K C).isSome=dr
 mf:A' K (.ref C) "many"=ar none
 ms:A' K (.ref C) "most"=ar none
def zK(K:OT)(C:c_):Bool:=(A' K (.ref C) "__getattribute__"==ar (ar (.builtin "BaseException.__getattribute__"))) && (A' K (.ref C) "__getattr__"==ar none) && (Oh K C (.type "BaseException")==ar dr) &&
 (Oh K C (.type "object")==ar dr) && (A' K (.ref C) "__class__"==ar (ar (.builtin "object.__class__"))) && (specialIn K (.builtin "object.__class__") "__get__"==ar (ar (.builtin "getset_descriptor.__get__"))) &&
 (takesIn K (.builtin "object.__class__")==ar dr) && (OS K C).isSome && (A' K (.ref C) "many"==ar none) && (A' K (.ref C) "most"==ar none)
theorem ExcC.of(h:zK K C=dr):ExcC K C:=by unfold zK at h;simp only[h_,beq_iff_eq]at h;obtain⟨⟨⟨⟨⟨⟨⟨⟨⟨Y,S⟩,W⟩,Q⟩,R⟩,X⟩,T⟩,P⟩,U⟩,Z⟩:=h;exact⟨Y,S,W,Q,R,X,T,P,U,Z⟩
theorem xB{Q:Option aC->b_->Prop}(c:ExcC K C)(X:K.In s.heap)(I:y_ s.heap x ox C od)(h:Q (ar (.ref C)) {s with toks:=s.toks+1}):eb (eK prog w) A (getAttr? (.ref x) "__class__") Q E s:=by
 have hf:On K C od "__class__"=ar (.bind (.builtin "getset_descriptor.__get__") (.builtin "object.__class__")):=by obtain⟨cd,Z⟩:=Kr.mp c.cd;unfold On;rw[Z,K9,c.cl,K9];simp[c.gs,c.tk]
 unfold getAttr? getAttrBy?;refine Ju (wpAny_mkText (Ju (LH (zJ (s:={s with toks:=s.toks+1}) X I c.ga c.gt c.be ?_))));refine nD (s:={s with toks:=s.toks+1}) X I hf ?_;exact MI (class_get (s:={s with toks:=s.toks+1}) (ox:=ox) (od:=od) X I c.ob (handed_on rfl (Jx h)))
theorem zM(c:ExcC K C):KitX K (.ref x) (.ref C) (λh=>∃ox od,y_ h x ox C od) where
 ty:=λ_ _ _ ⟨_,_,I⟩=>I.type
 it:=λ_ _ X _=>by
  have Z:=c.cd;unfold OS at Z;split at Z
  ·rename_i c' d' cd' sl' ho
   intro R T S s' k q;unfold isType loadHead;exact Ju (wpAny_loadPart (k _ _ (X _ _ ho)) (Jx q))
  ·cases Z
 ne:=λh tp dd its n U X Y=>by
  have Z:=c.cd;refine MO.mpr λq=>?_;have e:C=tp:=Value.ref.inj (beq_iff_eq.mp q);subst e;unfold OS at Z;split at Z
  ·rename_i c' d' cd' sl' ho
   have z:=(X _ _ ho).symm.trans Y;cases z
  ·cases Z
 ca:=λX ⟨_,_,I⟩ k=>xB c X I k
end
end S7
namespace S7
open PySem PySem.Spec PyProof.Rows L2 S3
def zN(e T C:c_)(od:Option c_)(fl:aC)(h:fc):Prop:=
 ∃oe vs oT ts,h.get? e=ar oe/\oe.cls= .ref C/\oe.dict=od/\oe.data= .fields vs/\vs[1]? =ar (.ref T)/\T≠e/\h.get? T=ar oT/\oT.data= .fields ts/\ts[3]? =ar fl
structure Step(fs:List c_)(e T:c_)(h h':fc):Prop where
 keep:∀b o,h.get? b=ar o->b≠e->b≠T->b∉fs->h'.get? b=ar o
 slot:∀b o,h.get? b=ar o->b≠e->b≠T->∃sl,h'.get? b=ar {o with slots:=sl}
 size:h.objs.size<=h'.objs.size
section
variable {M:NN}{A:gd}{E:aC->b_->Prop}{s:b_}{base:fc}{env:Env}{outer:List Env}{L e T C:c_}{od:Option c_}{fl:aC}{Q:Unit->b_->Prop}
theorem nE(o:Obj)(f:Array aC->Array aC):(y2 f o).dict=o.dict:=by obtain⟨c,d,Z,Y⟩:=o;cases Z<;>rfl
theorem entry(I:A.frames=ar (env::outer))(F:s.heap.FunFrames base (env::outer))(y:env.frame=ar L)
  (G:s.heap.get? e=ar oe) (v:oe.cls= .ref C) (w:oe.dict=od) (J:oe.data= .fields vs) (U:1<vs.size)
  (h:∀h' T',zN e T' C od (k8 L) h'->s.heap.objs.size<=T'->Step (iq (env::outer)) e e s.heap h'->Q () {s with heap:=h'}):
  eb M A (do let a<-frameOf env;let N<-entryPlaceOf L hadNext;let b<-EntryCells.newEntry head a .none (k8 L) .none N;setField (.ref e) 1 b) Q E s:=by
 have S:e∉iq (env::outer):=λhm=>by obtain⟨_,o,q,K⟩:=F.mem hm;rw[G]at q;cases q;exact K vs J
 refine Ju (wpAny_frameOf_fun I F y λY Z=>Ju (wpAny_entryPlaceOf λN R=>?_));unfold EntryCells.newEntry newFields;refine Ju (Ka (?_ :eb _ _ _ _ _ _) (R.sizeOk5 _ _ _ _ _));have X:Y.get? e=ar oe:=(Z.2.1 e S).trans G;have P:=Jv (h:=Y) {cls:=.type "traceback",dict:=none,data:=.fields ([head,.ref L,.none,k8 L,.none]++(if N.isEmpty then j1 6 gg else N)).toArray} X;have O:Y.objs.size≠e:=KU (JC X);have W:=KJ J (·.setIfInBounds 1 (eg Y.objs.size));refine Lc P J U (h _ Y.objs.size ⟨_,_,_,_,Ki _ P (Lk W),?_,?_,W,by simp[U],O,(J6 _ _ (i2 O)).trans (JD Y rfl),rfl,?_⟩ (Lz Z.1.symm) ⟨λb o q H _ x=>?_,λb o q H _=>?_,?_⟩)
 ·rw[MR];exact v
 ·rw[nE];exact w
 ·first|(simp;done)|(rcases R with rfl|⟨_,_,_,_,_,_,_,rfl⟩<;>simp)
 ·rw[J6 _ _ (i2 H)];exact Jv _ ((Z.2.1 b x).trans q)
 ·obtain⟨B,z⟩:=Z.2.2 b o q;exact⟨B,by rw[J6 _ _ (i2 H)];exact Jv _ z⟩
 ·rw[Ld,Ku,Z.1];exact LR _
theorem uB(Z:A.frames=ar (env::outer))(R:s.heap.FunFrames base (env::outer))(U:env.frame=ar L)
  (X:s.heap.get? e=ar oe) (S:oe.cls= .ref C) (P:oe.dict=od) (W:oe.data= .fields vs) (Y:vs[1]? =ar .none)
  (h:∀h' T',zN e T' C od (k8 L) h'->s.heap.objs.size<=T'->Step (iq (env::outer)) e e s.heap h'->Q () {s with heap:=h'}):eb M A (Nm (.ref e) env) Q E s:=by
 unfold Nm;simp only[U];refine Ju (Kh X W Y ?_);rw[if_neg (by decide)];exact entry Z R U X S P W (JO.mp Y).1 h
theorem pM(W:A.frames=ar (env::outer))(G:s.heap.FunFrames base (env::outer))(K:env.frame=ar L)(F:zN e T C od .none s.heap)
  (h:∀h' X,zN e X C od (k8 L) h'->s.heap.objs.size<=X->Step (iq (env::outer)) e T s.heap h'->Q () {s with heap:=h'}):eb M A (Nm (.ref e) env) Q E s:=by
 obtain⟨u,vs,t,H,he,B,w,hd,I,N,O,Z,J⟩:=F;have U:3<H.size:=(JO.mp J).1;unfold Nm;simp only[K];refine Ju (Kh he hd I ?_);rw[if_pos (show(eg T !=gg)=dr from by simp)];refine Ju (Kh O Z J ?_);rw[if_neg (show ¬ ((gg==k8 L)=dr)from by simp[k8])];refine Ju (Lc O Z U ?_);have other:∀b,b≠T->(s.heap.update T (y2 (·.setIfInBounds 3 gg))).get? b=s.heap.get? b:=λb v=>J6 _ _ (i2 v);have P:(s.heap.update T (y2 (·.setIfInBounds 3 gg))).FunFrames base (env::outer):=G.of_keeps λb o q S=>⟨o,(other b λz=>by rw[z,O]at q;cases q;exact S H Z).trans q,rfl⟩;refine entry (s:={s with heap:=s.heap.update T (y2 (·.setIfInBounds 3 gg))}) W P K ((other e (i2 N)).trans he) B w hd (JO.mp I).1 λh' X y l st=>h h' X y ?_ ⟨λb o q Y R x=>st.keep b o ((other b R).trans q) Y Y x,λb o q Y R=>st.slot b o ((other b R).trans q) Y Y,?_⟩
 ·have:=l;rwa [Ld]at this
 ·have:=st.size;rwa [Ld]at this
theorem fT(F:zN e T C od fl s.heap)(h:∀h',zN e T C od .none h'->Step [] e T s.heap h'->Q () {s with heap:=h'}):eb M A (setFlight (.ref e) none) Q E s:=by
 obtain⟨R,vs,I,K,he,N,O,hd,S,X,U,Z,P⟩:=F;have Y:3<K.size:=(JO.mp P).1;refine wpAny_setFlight_none he hd S U Z Y (h _ ⟨R,vs,_,_,(J6 _ _ X).trans he,N,O,hd,S,X,Ki _ U (Lk (KJ Z _)),KJ Z _,by simp[Y]⟩
  ⟨λb o q J W _=>(J6 _ _ (i2 W)).trans q,λb o q J W=>⟨o.slots,(J6 _ _ (i2 W)).trans q⟩,?_⟩)
 rw[Ld];exact Jw _
theorem sy(W:A.frames=ar (env::outer))(J:s.heap.FunFrames base (env::outer))(N:env.frame=ar L)
  (R:s.heap.get? e=ar oe) (B:oe.cls= .ref C) (I:oe.dict=od) (P:oe.data= .fields vs) (H:vs[1]? =ar .none)
  (h:∀h' X,zN e X C od .none h'->s.heap.objs.size<=X->Step (iq (env::outer)) e e s.heap h'->Q () {s with heap:=h'}):eb M A (Ni env (.ref e)) Q E s:=by
 unfold Ni;refine Ju (uB W J N R B I P H λh' X F l st=>fT (s:={s with heap:=h'}) F λU z Z=>h U X z l ⟨λb o q Y G K=>?_,λb o q Y G=>?_,JG st.size Z.size⟩)
 ·exact Z.keep b o (st.keep b o q Y Y K) Y (JK (JI (JC q) l)) (by simp)
 ·obtain⟨S,O⟩:=st.slot b o q Y Y;exact⟨S,Z.keep b _ O Y (JK (JI (JC q) l)) (by simp)⟩
theorem uC(U:A.frames=ar (env::outer))(K:s.heap.FunFrames base (env::outer))(O:env.frame=ar L)(F:zN e T C od .none s.heap)
  (h:∀h' X,zN e X C od .none h'->s.heap.objs.size<=X->Step (iq (env::outer)) e T s.heap h'->Q () {s with heap:=h'}):eb M A (Ni env (.ref e)) Q E s:=by
 unfold Ni;refine Ju (pM U K O F λh' X F l st=>fT (s:={s with heap:=h'}) F λS J Z=>h S X J l ⟨λb o q Y W N=>?_,λb o q Y W=>?_,JG st.size Z.size⟩)
 ·exact Z.keep b o (st.keep b o q Y W N) Y (JK (JI (JC q) l)) (by simp)
 ·obtain⟨R,P⟩:=st.slot b o q Y W;exact⟨R,Z.keep b _ P Y (JK (JI (JC q) l)) (by simp)⟩
end
def kz(P:ee)(w:ey):yc:=λouter H s E x s'=>
 ∃(e T C:c_) (od:Option c_) (H':Hp),x= .ref e/\s'.os=s.os/\x' s'.gens/\Un (iq outer) [] H H' s.heap s'.heap/\e9 P w H' s'.heap/\zN e T C od .none s'.heap/\
  H' e=none/\H' T=none/\s.heap.get? e=none/\s.heap.get? T=none/\E (.ref C) od H'
theorem xC{X:Cx}:mH (kz X.prog X.w) X E0:=λ_ _ _ _ _ _ _ ⟨_,_,_,_,_,_,_,_,_,_,_,_,_,_,_,h⟩=>h.elim
theorem fU{h:fc}(q:h.get? b=ar o)(n:h.get? e=none):b≠e:=λz=>by rw[z,n]at q;cases q
theorem Un.fly(u:Un fs [] H H' h h1)(st:Step fs e T h1 h2)(W:h.get? e=none)(S:h.get? T=none):Un fs [] H H' h h2 where
 keep:=λb o q n hf Y=>st.keep b o (u.keep b o q n hf Y) (fU q W) (fU q S) hf
 slot:=λb o q n hf Y=>by obtain⟨R,U⟩:=u.slot b o q n hf Y;obtain⟨Z,X⟩:=st.slot b _ U (fU q W) (fU q S);exact⟨Z,X⟩
 free:=u.free
 there:=λb o q Y=>by obtain⟨Q,U⟩:=u.there b o q Y;obtain⟨Z,X⟩:=st.slot b _ U (fU q W) (fU q S);exact⟨_,X⟩
 tups:=u.tups
 frzs:=u.frzs
 tbls:=u.tbls
theorem e9.fly{H:Hp}(W:e9 P w H h1)(st:Step fs e T h1 h2)(Y:H e=none)(U:H T=none)(X:∀b∈fs,H b=none):e9 P w H h2:=λa o q=>by
 have k:∀b u,H b≠none->h1.get? b=ar u->h2.get? b=ar u:=λb u n q=>st.keep b u q (λz=>n (by rw[z];exact Y)) (λz=>n (by rw[z];exact U)) λz=>n (X b z);refine(W a o q).stay (λb u Z=>k b u ?_) (λ_ z=>z) λ_ _ z=>z;rcases Z with rfl|Z
 ·rw[q];simp
 ·rw[Z];simp
section
theorem sA(l:List Env)(x:c_)(env:Env)(h:env.frame=ar x):iq (env::l)=x::iq l:=by unfold iq;rw[J9,h]
theorem aW.there(x:aW P w H h a o):∃Z,h.get? a=ar Z:=by
 cases o with
 |lst xs=>obtain⟨_,_,_,_,e⟩:=x;exact⟨_,e⟩
 |tup xs=>obtain⟨_,_,_,Z,e,_⟩:=x;exact⟨_,e⟩
 |dK kvs=>obtain⟨_,_,_,_,o,_,_,e,_⟩:=x;exact⟨_,e⟩
 |dT kvs=>obtain⟨_,_,_,_,o,_,_,e,_⟩:=x;exact⟨_,e⟩
 |set S n=>obtain⟨o,_,_,_,e,_⟩:=x;exact⟨_,e⟩
 |ins C dx fs=>obtain⟨_,_,_,e,_⟩:=x;exact⟨_,e⟩
 |own y=>exact x
 |xd fs=>obtain⟨_,⟨_,_,_,e,_⟩,_⟩:=x;exact⟨_,e⟩
 |rng lo hi=>obtain⟨_,_,_,e⟩:=x;exact⟨_,e⟩
 |frz Z u=>obtain⟨e,_⟩:=x;exact⟨_,e⟩
 |tbl ps=>exact⟨_,(show h.get? a=ar _ from x)⟩
 |met f y=>exact⟨_,(show h.get? a=ar _ from x)⟩
 |ext φ=>exact x.2.1
theorem e9.gone{H:Hp}(x:e9 P w H h)(e:h.get? a=none):H a=none:=by
 cases q:H a with
 |none=>rfl
 |some o=>
  obtain⟨Z,e2⟩:=aW.there (x a o q);rw[e]at e2;cases e2
theorem Un.gone(u:Un fs ex H H' h h')(Z:a∉ex)(e:h'.get? a=none):h.get? a=none:=by
 cases q:h.get? a with
 |none=>rfl
 |some o=>
  obtain⟨Y,e2⟩:=u.there a o q Z;rw[e]at e2;cases e2
end
abbrev Cx.hand(X:Cx)(e:aC):Cx:={X with A:=X.A.mark (ar e),calm:=dt,xe:=λ_ _=>False}
section
variable {X:Cx}{pins:List (c_×Obj)}{σ:L2.St}{H H':Hp}{s:b_}{x:aC}
theorem Inv.hand(I:Inv X pins σ H s)(e:aC):Inv (Cx.hand X e) pins σ H s:=
 ⟨⟨I.ok.mod,I.ok.kind,I.ok.glob,I.ok.blt,I.ok.above,I.ok.inj,I.ok.has,I.ok.cab,(λz=>Bool.noConfusion z),I.ok.frames,I.ok.stk,I.ok.exf,I.ok.bs,I.ok.bsz,I.ok.noex,I.ok.exfs,I.ok.funs,I.ok.frf⟩,
  I.os,I.bare,I.base,I.loc,I.cell,I.free,I.freeC,I.pin,I.hok,I.len⟩
theorem Inv.unhand(Z:X.Ok)(I:Inv (Cx.hand X x) pins σ H s):Inv X pins σ H s:=⟨Z,I.os,I.bare,I.base,I.loc,I.cell,I.free,I.freeC,I.pin,I.hok,I.len⟩
theorem Inv.local{Z:L2.St}(I:Inv X pins σ H s)(hs:oi X.env.locals s.heap h')(S:h'.Ns X.env.locals m')(U:Z.length=X.N.length)
  (Q:∀(i:Nat) (y:Str) (v:V),X.N[i]? =ar y->Z[i]? =ar (ar v)->CV X.env.scope y->∃u,RelV v u/\Look X.env h' m' y u):Inv X pins Z H {s with heap:=h',toks:=t'}:=by
 have ne:∀b o,X.s₀.heap.get? b=ar o->b≠X.env.locals:=λb o e=>JK (JI (JC e) I.ok.above);refine⟨I.ok,I.os,I.bare,⟨λb o e n T W=>(hs.2 b (ne b o e)).trans (I.base.keep b o e n T W),λb o e n T W=>?_,I.base.free,λb o e W=>?_,I.base.tups,I.base.frzs,I.base.tbls⟩,⟨m',S,Q⟩,λy c e=>?_,I.free,I.freeC,λp O=>?_,λa o e=>?_,U⟩
 ·obtain⟨R,e1⟩:=I.base.slot b o e n T W;exact⟨R,(hs.2 b (ne b o e)).trans e1⟩
 ·obtain⟨P,e1⟩:=I.base.there b o e W;exact⟨P,(hs.2 b (ne b o e)).trans e1⟩
 ·obtain⟨v,z⟩:=I.cell y c e;exact⟨v,z.sameBut hs (I.cne y c e)⟩
 ·obtain⟨e,n,nl,r⟩:=I.pin p O;exact⟨(hs.2 p.1 nl).trans e,n,nl,r⟩
 ·refine(I.hok a o e).stay (λc L Y q=>(hs.2 c ?_).trans q) (λ_ q=>q) λ_ _ q=>q;rintro rfl;rcases Y with Y|Y
  ·subst Y;rw[I.free]at e;cases e
  ·rw[I.free]at Y;cases Y
theorem B5{M:NN}{A:gd}{E:aC->b_->Prop}{i:Nat}{y:Str}{pos:Pos}{Q:Unit->b_->Prop}(I:Inv X pins σ H s)(S:X.N.Nodup)(O:X.N[i]? =ar y)(P:X.env.scope.names.lookup y=ar .local)
  (h:∀s',Inv X pins (σ.set i none) H s'->Q () s'):eb M A (do bindName X.env y .none;unbindBehindTheSuite X.env y pos) Q E s:=by
 obtain⟨m,U,R⟩:=id I.loc;refine wpAny_nameGoes_keeps P U (by rw[I.ok.kind];rfl) λh' v Z hs=>h _ (Inv.local I hs Z (by rw[LD];exact I.len) λj z W e1 e2 T=>?_);have Y:j≠i:=by
  rintro rfl;by_cases hlt:j<σ.length
  ·rw[J5 hlt]at e2;cases e2
  ·rw[Kj (by rw[LD];omega)]at e2;cases e2
 rw[Kf (i2 Y)]at e2;obtain⟨u,r,q⟩:=R j z W e1 e2 T;refine⟨u,r,?_⟩;rcases q with⟨k,e⟩|⟨k,c,e,q⟩
 ·refine .inl ⟨k,?_⟩;have:z≠y:=λe=>Y (mE S e1 (e ▸ O));simp[this,e]
 ·exact .inr ⟨k,c,e,q.sameBut hs (I.cne z c e)⟩
end
theorem Un.track{X:Hp}(u:Un fs [] H X h h')(Z:X e=none)(W:h.get? e=none):Un fs [] H (upd X e o) h h' where
 keep:=u.keep
 slot:=u.slot
 free:=λb Y q n U=>by rw[aG (fU q W)];exact u.free b Y q n U
 there:=u.there
 tups:=λb xs q=>by have:=u.tups b xs q;rw[aG (aI this Z)];exact this
 frzs:=λb Y x q=>by have:=u.frzs b Y x q;rw[aG (aI this Z)];exact this
 tbls:=λb T q=>by obtain⟨more,this⟩:=u.tbls b T q;exact⟨more,by rw[aG (aI this Z)];exact this⟩
theorem e9.track{H:Hp}(X:e9 P w H h)(Y:H e=none)(Z:aW P w (upd H e o) h e o):e9 P w (upd H e o) h:=λb u q=>by
 by_cases hb:b=e
 ·subst hb;rw[aU]at q;cases q;exact Z
 ·rw[aG hb]at q;exact(X b u q).stay (λc v _ q=>q) (λc q=>by rw[aG (aI q Y)];exact q) λc xs q=>by rw[aG (aI q Y)];exact q
theorem B6(F:zN e T C od fl h):aW P w H h e (.ext (lM C e od)):=by obtain⟨Z,vs,U,W,he,Y,X,hd,_⟩:=F;refine⟨⟨Z,vs,he,Y,X,hd⟩,⟨Z,he⟩,?_⟩;rintro h1 h2 ⟨Z,vs,he,r⟩ k;exact⟨Z,vs,k _ he,r⟩
structure LamOk(P:ee)(w:ey)(K:dV)(mg:Str->Option aC)(base:fc)(k:Nat)(f:c_)(sp:Hp->VK->XK->Prop):Prop where
 fn:∃o fd,base.get? f=ar o/\o.data= .func fd
 run:∀(A:gd) (outer:List Env) (s:b_) (H:Hp) (Q:VK) (E:XK),Room k A->aB P w K mg base A outer s H->sp H Q E->C_ (eK P w) A (.call (.ref f) ⟨[],[]⟩) (CR (kz P w) outer P w H s Q E) s
section
variable {X:Cx}{k i jn jy:Nat}{f CW:c_}{sp:Hp->VK->XK->Prop}{x c n y:Str}{p cpos epos np p1 p2 p3 hpos tpos:Pos}
theorem xD(E:X.stack=X.env::X.outer)(c3:X.env.frame=ar X.env.locals)(L:LamOk X.prog X.w X.K X.mg X.base k f sp)(hr:Room k X.A)(hN:X.N.Nodup)(hi:X.N[i]? =ar x)(hv:CV X.env.scope x)
  (S:X.N[jn]? =ar n) (d3:X.N[jy]? =ar y) (R:X.env.scope.names.lookup n=ar .local) (a0:X.env.scope.names.lookup y=ar .local) (hg:Gl X c) (hm:X.mg c=ar (.ref CW))
  (hd:(x==("__debug__":Str))=false:=by decide) (c1:(x==("__classdict__":Str))=false:=by decide) (c7:(c==("__debug__":Str))=false:=by decide) (c6:(n==("__debug__":Str))=false:=by decide) (b2:(n==("__classdict__":Str))=false:=by decide)
  (c2:kT (.Call (.Name x p) [] [] cpos) none epos.line X.env=a_ false:=by rfl) (g:kT (.Name n p2) (ar (.Name y p1)) p3.line X.env=a_ false:=by rfl):
  PS X (.Try [.Expr (.Call (.Name x p) [] [] cpos) epos] [.ExceptHandler (ar (.Name c np)) (ar n) [.Assign [.Name y p1] (.Name n p2) p3] hpos] [] [] tpos)
   (λD σ H=>σ[i]? =ar (ar (.ref f))/\sp H (λ_ Y=>D.nx σ Y) (λcls od Y=>∃C,cls= .ref C/\OA X.K (.ref C) (.ref CW)=ar dr/\∀e,Y e=none->D.nx (((σ.set jn (ar (.ref e))).set jy (ar (.ref e))).set jn none) (upd Y e (.ext (lM C e od))))):=by
 intro pins s σ H D I ⟨hσ,hsp⟩;refine wpAny_Try_except (MY (wpAny_Expr_any ?_ I.quiet c2));refine Le (Kx (tO (X:=X.nox) hi hv hd c1 pins s σ H (λv Y=>v= .ref f/\Y=H) (I.wish _) ⟨_,hσ,rfl,rfl⟩) (λu s1 b4=>?_) λ_ _ z=>g_ z);obtain⟨v,Y,Q,r1,ev,eH⟩:=b4;subst ev eH;obtain rfl:u=eg f:=r1;have Q:=Q.unwish;obtain⟨o,fd,ho,b1⟩:=L.fn;refine callWith_meth0 b1 (Q.bk f o ho) (MI (Lg (L.run X.A X.stack s1 Y _ _ hr Q.env0 hsp) λr s' U=>?_));cases r with
 | ok fl=>
  cases fl with
  |ret u=>
   obtain⟨v,H2,I2,_,q⟩:=Q.after U;exact Lf (Lf ⟨σ,H2,I2,q⟩)
  |next=>exact g_ U
  |brk=>exact g_ U
  |cont=>exact g_ U
 | error ev=>
  obtain⟨e,T,C',od,Z,rfl,os,bare,un,J,F,ne,nT,le,lT,C,eC,hx,hD⟩:=U;cases eC;have I2:L2.Inv X pins σ Z s':=Q.call' (ch:=[]) os un J bare (λb z=>absurd z (by simp));have c5:∀b∈iq X.stack,Z b=none:=I2.stkFree;refine pM (base:=X.base) (outer:=X.outer) (by rw[I2.ok.frames,E]) (by rw[<-E];exact I2.stack) c3 F λh1 T1 F1 l1 G=>?_;rw[<-E]at G;have a6:Z T1=none:=J.fresh l1;refine fT (s:={s' with heap:=h1}) F1 λB F2 l=>?_;have a5:s1.heap.get? T1=none:=Un.gone un (by simp) (KM l1);have d:e9 X.prog X.w Z h1:=e9.fly J G ne nT c5;have O:e9 X.prog X.w Z B:=e9.fly d l ne a6 (λb z=>absurd z (by simp));have d2:Un (iq X.stack) [] Y Z s1.heap h1:=Un.fly un G le lT;have P:∀{h a:fc} {e T:c_},Step [] e T h a->Step (iq X.stack) e T h a:=λst=>⟨λb o q n1 n2 _=>st.keep b o q n1 n2 (by simp),st.slot,st.size⟩;have a3:Un (iq X.stack) [] Y Z s1.heap B:=Un.fly d2 (P l) le a5;have I3:L2.Inv X pins σ Z {s' with heap:=B}:=Q.call' (s':={s' with heap:=B}) (ch:=[]) os a3 O bare (λb z=>absurd z (by simp));refine wpAny_handleBy_cons (codeAny_handlers_test (jF (X:=Cx.hand X (.ref e)) (Inv.hand I3 _) hg hm ?_ c7)) (by intro q;cases q);have LT:W.Looks (eK X.prog X.w) B (OF (.ref e)) (.ref C'):=by obtain⟨oe,vs,oT,ts,he,hc,_⟩:=F2;exact hc ▸ (W.Looks.ld he).andThen .now
  refine(W.exm_one (h:=B) I3.kIn LT hx).at ?_;refine codeAny_handlers_suite_as (fT (s:={s' with heap:=B}) F2 λh3 F3 t=>?_);have m:e9 X.prog X.w Z h3:=e9.fly O t ne a6 (λb z=>absurd z (by simp));have c4:Un (iq X.stack) [] Y Z s1.heap h3:=Un.fly a3 (P t) le a5;have I4:L2.Inv X pins σ (upd Z e (.ext (lM C' e od))) {s' with heap:=h3}:=
   Q.call' (s':={s' with heap:=h3}) (ch:=[]) os (Un.track c4 ne le) (e9.track m ne (B6 F3)) bare (λb z=>absurd z (by simp))
  refine mF (X:=X) I4 hN S (.inl R) (v:=.ref e) rfl (λs5 I5=>?_) (.inr R);have hl:jn<σ.length:=by rw[I.len];exact(Jz.mp S).1
  have ps:=vg (yn (X:=Cx.hand X (.ref e)) (pos:=p3) (pos':=p1) hN d3 (.inl a0) (tO (X:=Cx.hand X (.ref e)) (pos:=p2) S (.inl R) c6 b2) g (.inr a0));refine Kx (ps pins s5 _ _ {nx:=λj H6=>j=(σ.set jn (ar (.ref e))).set jy (ar (.ref e))/\H6=upd Z e (.ext (lM C' e od)),rt:=λ_ _=>False} (Inv.hand I5 _) ⟨.ref e,by rw[J5 hl],rfl,rfl⟩) (λfl s6 U=>?_) λ_ _ z=>g_ z;cases fl with
  |next=>
   obtain⟨j,H6,I6,e1,e2⟩:=U;subst e1 e2;exact B5 (Inv.unhand I.ok I6) hN S R λs7 I7=>⟨_,_,I7,hD e ne⟩
  |ret u=>obtain⟨_,_,_,_,_,z⟩:=U;exact g_ z
  |brk=>obtain⟨_,_,_,z⟩:=U;exact g_ z
  |cont=>obtain⟨_,_,_,z⟩:=U;exact g_ z
end
structure BaseL(K:dV)(mg:Str->Option aC)(base:fc):Prop where
 bm:∃bm ob,mg "__builtins__"=ar (.ref bm)/\bm≠u0/\base.get? bm=ar ob/\ob.cls= .type "module"/\ob.dict=ar u0/\ob.data= .plain
 cd:∀x∈bI,∀c P,k7 K x=ar (c,P)->Nb base c P
def qP(K:dV):Prop:=∀x∈bI,∀y∈bI,∀c d P,k7 K x=ar (c,P)->k7 K y=ar (d,P)->x=y
theorem uD(l:List aC)(h:Of l)(e:J' pos (l++[k8 a,k8 b,c])=ar v):J' pos l=ar v\/v=c:=by
 fun_induction Of l with
 |case1=>
  have Z:(if a==(pos.line:Int) && b==(pos.col:Int)then ar c else none)=ar v:=e;split at Z
  ·exact .inr (JW Z).symm
  ·cases Z
 |case2 a' t b' u x rest ih=>
  simp only[List.cons_append,J']at e⊢;split at e
  ·next hq=>rw[if_pos hq];exact .inl e
  ·next hq=>rw[if_neg hq];exact ih h e
 |case3 l h1 h2=>exact h.elim
section
variable {X:Cx}{pins:List (c_×Obj)}{σ:L2.St}{H:Hp}{s:b_}{x ql:Str}{c P:c_}{params:Nj}{body:Expr}{scope:Scope}{pos:Pos}{clos:List (Str×c_)}{Q:aC->b_->Prop}{E:aC->b_->Prop}{A:gd}
theorem EL(hx:x∈bI)(ht:k7 X.K x=ar (c,P))(J:X.env.code= .ref c)(hq:X.env.qual++"<lambda>"=ql)(l:ql=x++".<locals>.<lambda>")(B:BaseL X.K X.mg X.base)(TI:qP X.K)(a3:N0 scope X.env=a_ clos)
  (a5:defaultsOf params X.env=([],[])) (I:L2.Inv X pins σ H s) (T:TabsOk X.K H)
  (h:∀f Z Y pm H1 s1,L2.Inv X pins σ H1 s1->s.heap.objs.size<=f->s1.heap.get? f=ar (x_ "<lambda>" ql params body scope clos pm Z Y)->H1 f=none->H1 Z=ar (.ext (oE ql Z))->
   (∀a o,H a=ar o->(∀G,o≠ .tbl G)->H1 a=ar o)->(∀a,H a=none->H1 a≠none->s.heap.objs.size<=a)->TabsOk X.K H1->Q (.ref f) s1):
  eb (eK X.prog X.w) A (f' (.Lambda params body scope pos) X.env) Q E s:=by
 refine W.kla_eval a5 ?_;rw[hq];obtain⟨G,O,hT,hA⟩:=T x hx c P ht;have C:Nb s.heap c P:=(B.cd x hx c P ht).keeps I.bk;have oP:s.heap.get? P=ar (vr G):=I.hok P _ O;have hg:s.heap.Ns fg X.mg:=I.mod.glob.keeps I.bk;have U:∀b,H b=none->b≠P:=λb n z=>by rw[z,O]at n;cases n
 have gP:fg≠P:=by obtain⟨o,es,ep,e,_⟩:=I.mod.glob;exact U _ (I.bs _ _ e).2
 have hb:s.heap.BuiltinsAt X.mg P:=by obtain⟨bm,ob,b1,b2,b3,b4,b5,b6⟩:=B.bm;refine⟨bm,ob,b1,b2,λz=>?_,U _ (I.bs _ _ b3).2,I.bk _ _ b3,b4,b5,b6⟩;obtain⟨o,es,ep,e,hd,_⟩:=I.mod.glob;rw[z,e]at b3;cases b3;rw[hd]at b6;cases b6
 cases hn:J' pos G.toList with
 |some cv=>
  obtain⟨Z,rfl,a0⟩:=hA pos cv hn;rw[<-l]at a0;refine W.kla_makeFunctionHit a3 I.ok.glob hg J C oP hT hn hb λY h' tk hk i=>?_;have S:∀b o,s.heap.get? b=ar o->(h'.push {cls:=.type "function",data:=.func (OB "<lambda>" ql params body scope clos ((X.mg "__name__").getD .none) (.ref Z) Y)}).get? b=ar o:=λb o e=>Jv _ (hk b o e);exact h _ Z Y _ H _ (I.kept (t':=tk) S) i (JD _ rfl) (I.hok.fresh i) a0 (λa o e _=>e) (λa n z=>absurd n z) T
 | none=>
  refine W.kla_makeFunction a3 I.ok.glob hg J C oP hT hn gP hb λZ Y h' tk hX N F m d2=>?_;have nc:H Z=none:=I.hok.fresh N;have cP:P≠Z:=λz=>by rw[<-z,O]at nc;cases nc
  have S:∀b o,b≠P->s.heap.get? b=ar o->(h'.push (x_ "<lambda>" ql params body scope clos ((X.mg "__name__").getD .none) Z Y)).get? b=ar o:=λb o n e=>Jv _ (hX b o n e);have g:(h'.push (x_ "<lambda>" ql params body scope clos ((X.mg "__name__").getD .none) Z Y)).get? P=ar (vr (G++ #[k8 pos.line,k8 pos.col,.ref Z])):=Jv _ d2;have old:∀a o,H a=ar o->a≠P->upd (upd H P (.tbl (G++ #[k8 pos.line,k8 pos.col,.ref Z]))) Z (.ext (oE ql Z)) a=ar o:=λa o e n=>by rw[aG (aI e nc),aG n];exact e
  have j:∀b o,s.heap.get? b=ar o->b≠Z:=λb o e=>JK (JI (JC e) N);have un:Un X.fs [] H (upd (upd H P (.tbl (G++ #[k8 pos.line,k8 pos.col,.ref Z]))) Z (.ext (oE ql Z))) s.heap (h'.push (x_ "<lambda>" ql params body scope clos ((X.mg "__name__").getD .none) Z Y)):=
   ⟨λb o e n _ _=>S b o (U b n) e,λb o e n _ _=>⟨o.slots,S b o (U b n) e⟩,λb o e n _=>by rw[aG (j b o e),aG (U b n)];exact n,λb o e _=>(by
    by_cases z:b=P
    ·subst z;exact⟨_,g⟩
    ·exact⟨o,S b o z e⟩),λb xs e=>old b _ e (λz=>by rw[z,O]at e;cases e),λb o u e=>old b _ e (λz=>by rw[z,O]at e;cases e),λb qs e=>(by
    by_cases z:b=P
    ·subst z;rw[O]at e;cases e;exact⟨_,by rw[aG cP,aU]⟩
    ·exact⟨#[],by rw[old b _ e z];simp⟩)⟩
  have L:oE ql Z (h'.push (x_ "<lambda>" ql params body scope clos ((X.mg "__name__").getD .none) Z Y)):=by obtain⟨v,oc,vs,t,e1,e2,r⟩:=m;exact⟨v,oc,vs,t,e1,Jv _ e2,r⟩
  have c3:e9 X.prog X.w (upd (upd H P (.tbl (G++ #[k8 pos.line,k8 pos.col,.ref Z]))) Z (.ext (oE ql Z))) (h'.push (x_ "<lambda>" ql params body scope clos ((X.mg "__name__").getD .none) Z Y)):=by
   intro a o e;by_cases za:a=Z
   ·subst za;rw[aU]at e;cases e;refine⟨L,?_,?_⟩
    ·obtain⟨v,oc,vs,t,e1,e2,_⟩:=L;cases e1;exact⟨oc,e2⟩
    ·rintro h1 h2 ⟨v,oc,vs,t,e1,e2,r⟩ k;cases e1;exact⟨a,oc,vs,t,rfl,k _ e2,r⟩
   ·rw[aG za]at e;by_cases zP:a=P
    ·subst zP;rw[aU]at e;cases e;exact g
    ·rw[aG zP]at e;refine(I.hok a o e).stay (λb u R q=>S b u ?_ q) (λb q=>old b _ q (λz=>by rw[z,O]at q;cases q)) λb xs q=>old b _ q (λz=>by rw[z,O]at q;cases q);rintro rfl;rcases R with R|R
     ·exact zP R.symm
     ·rw[O]at R;cases R
  refine h _ Z Y _ _ _ (I.un (t':=tk) un c3) (JG N (KS F)) (JD _ rfl) ?_ aU (λa o e n=>old a o e (λz=>by rw[z,O]at e;cases e;exact n _ rfl)) (λa n z=>?_) λy hy d P' e=>?_
  ·have:H h'.objs.size=none:=I.hok.fresh (JG N (KS F));rw[aG (i2 (JK F)),aG (U _ this)];exact this
  ·by_cases za:a=Z
   ·rw[za];exact N
   ·rw[aG za,aG (U a n)]at z;exact absurd n z
  ·by_cases zP:P'=P
   ·subst zP;obtain rfl:y=x:=TI y hy x hx d c P' e ht;refine⟨_,by rw[aG cP,aU],?_,λp cv q=>?_⟩
    ·have:=TriplesOk_snoc pos.line pos.col (.ref Z) G.toList hT;simpa using this
    ·have q':J' p (G.toList++[k8 pos.line,k8 pos.col,.ref Z])=ar cv:=by simpa using q
     rcases uD _ hT q' with q2|q2
     ·obtain⟨v,e1,e2⟩:=hA p cv q2;exact⟨v,e1,old _ _ e2 (λz=>by rw[z,O]at e2;cases e2)⟩
     ·exact⟨Z,q2,by rw[<-l];exact aU⟩
   ·obtain⟨qs,g1,g2,g3⟩:=T y hy d P' e;exact⟨qs,old _ _ g1 zP,g2,λp cv q=>let ⟨v,e1,e2⟩:=g3 p cv q;⟨v,e1,old _ _ e2 (λz=>by rw[z,O]at e2;cases e2)⟩⟩
end
def ID(K:dV)(ι:List c_)(H:Hp)(x:D)(cls:aC)(od:Option c_):Prop:=
 ∃n ds C,x= .exc n ds/\ra K fg n=ar (ar (.ref C))/\cls= .ref C/\
  ((od=none/\ds=[])\/∃dx fs,od=ar dx/\H dx=ar (.xd fs)/\fs.map (·.1)=([("many":Str),("most":Str)]:List Str)/\RelDs K ι H ds (fs.map (·.2)))
def yg(K:dV)(Ek:XK):XD:=λx ι _ H=>∀cls od,ID K ι H x cls od->Ek cls od H
def zO(K:dV)(F:List D->M D):Sp:=λvs H Q Ek=>∃ ι S ds,Rep K ι H S/\RelDs K ι H ds vs/\cont K (yg K Ek) (F ds) ι S H (jQ K Q)
theorem zQ{K:dV}{E X:XD}{U:Type}{c:M U}{ι:List c_}{S:aw}{H:Hp}{Q:U->List c_->aw->Hp->Prop}(h:cont K E c ι S H Q)(k:∀x ι' Z H',E x ι' Z H'->X x ι' Z H'):cont K X c ι S H Q:=by
 obtain⟨r,Z,e,q⟩:=h;refine⟨r,Z,e,λY R T rep1=>?_⟩;have:=q Y R T rep1;cases r with
 |ok a=>exact this
 |ex x=>exact k x _ _ _ this
def lQ{α:Type}(c:M α):M α:=λS=>match c S with
 |some (.ok a,S')=>ar (.ok a,S')
 |_=>none
theorem pN{K:dV}{E:XD}{Z:Type}{c:M Z}{ι:List c_}{S:aw}{H:Hp}{Q:Z->List c_->aw->Hp->Prop}(h:cont K E (lQ c) ι S H Q):cont K dW c ι S H Q:=by
 obtain⟨r,X,e,q⟩:=h;unfold lQ at e;cases z:c S with
 |none=>rw[z]at e;cases e
 |some p=>
  obtain⟨Y,S1⟩:=p;rw[z]at e;cases Y with
  |ok a=>cases e;exact⟨_,_,z,q⟩
  |ex x=>cases e
section
variable {X:Cx}{E:XD}
theorem vP{m:TM}(h:SE X dW e m):SE X E e (λρ=>lQ (m ρ)):=PE.imp h λ_ _ _ ⟨ι,S,ρ,rep,re,c⟩=>⟨ι,S,ρ,rep,re,pN c⟩
theorem sC{st:List n_}{m:cW}(h:rW X dW st m):rW X E st (λρ=>lQ (m ρ)):=ot.imp h λ_ _ _ ⟨ι,S,ρ,rep,re,c⟩=>⟨ι,S,ρ,rep,re,pN c⟩
theorem qQ{st:List n_}{m:cW}(h:rW X.nox dW st m):rW X dW st m:=ot.nox h
end
structure Leaves(X:Cx)(Ek:XK):Prop where
 st:X.stack=X.env::X.outer
 fm:X.env.frame=ar X.env.locals
 ex:X.ex=[]
 xe:∀e s',eb (eK X.prog X.w) X.A (Ni X.env e) (λ_ s''=>kz X.prog X.w X.outer X.H₀ X.s₀ Ek e s'') (λe' s''=>kz X.prog X.w X.outer X.H₀ X.s₀ Ek e' s'') s'->X.xe e s'
 ow:Nh (eK X.prog X.w) X.A X.env X.xe
section
variable {X:Cx}{Ek:XK}
theorem Leaves.pass(L:Leaves X Ek):mH (kz X.prog X.w) X Ek:=by rintro pins σ H s x s' I ⟨e,T,C,od,H',rfl,os,bare,un,hok,F,ne,nT,le,lT,hE⟩;have W:L2.Inv X pins σ H' s':=I.call' (ch:=[]) os un hok bare (λb z=>absurd z (by simp));refine L.xe _ _ (uC (base:=X.base) (outer:=X.outer) (by rw[W.ok.frames,L.st]) (by rw[<-L.st];exact W.stack) L.fm F λh' Q P l st=>?_);rw[<-L.st]at st;have Z:e9 X.prog X.w H' h':=e9.fly hok st ne nT W.stkFree;have S:Un (iq X.stack) [] H H' s.heap h':=Un.fly un st le lT;have U:L2.Inv X pins σ H' {s' with heap:=h'}:=I.call' (s':={s' with heap:=h'}) (ch:=[]) os S Z bare (λb z=>absurd z (by simp));have R:=U.base;have h0:=I.base;have Y:=W.base;rw[L.ex]at R h0 Y;exact⟨e,Q,C,od,H',rfl,U.os,U.bare,R,U.hok,P,ne,hok.fresh l,Un.gone h0 (by simp) le,Un.gone Y (by simp) (KM l),hE⟩
theorem Leaves.new{H:Hp}(L:Leaves X Ek)
  (I:L2.Inv X pins σ H s') (F:s'.heap.get? e=ar oe) (K:oe.cls= .ref C) (E:oe.dict=od) (N:oe.data= .fields vs) (B:vs[1]? =ar .none) (R:H e=none) (hs:X.s₀.heap.get? e=none) (O:Ek (.ref C) od H):X.xe (.ref e) s':=by
 refine L.xe _ _ (sy (base:=X.base) (outer:=X.outer) (by rw[I.ok.frames,L.st]) (by rw[<-L.st];exact I.stack) L.fm F K E N B λh' J G l st=>?_);have S:∀b∈iq (X.env::X.outer),H b=none:=by rw[<-L.st];exact I.stkFree
 have W:e9 X.prog X.w H h':=e9.fly I.hok st R R S;have Z:=I.base;rw[L.ex]at Z;have Q:∀b o,X.s₀.heap.get? b=ar o->b∉iq X.outer->b∉iq (X.env::X.outer):=λb o q n z=>by
  rw[sA X.outer X.env.locals _ L.fm]at z;rcases JN.mp z with z|z
  ·exact absurd (JC q) (by rw[z];exact M9.mpr I.ok.above)
  ·exact n z
 have ne:∀b o,X.s₀.heap.get? b=ar o->b≠e:=λb o q=>fU q hs;refine⟨e,J,C,od,H,rfl,I.os,I.bare,⟨λb o q n hf U=>?_,λb o q n hf U=>?_,Z.free,λb o q U=>?_,Z.tups,Z.frzs,Z.tbls⟩,W,G,R,I.hok.fresh l,hs,Un.gone Z (by simp) (KM l),O⟩
 ·exact st.keep b o (Z.keep b o q n hf U) (ne b o q) (ne b o q) (Q b o q hf)
 ·obtain⟨y,P⟩:=Z.slot b o q n hf U;obtain⟨Y,T⟩:=st.slot b _ P (ne b o q) (ne b o q);exact⟨Y,T⟩
 ·obtain⟨A,P⟩:=Z.there b o q U;obtain⟨Y,T⟩:=st.slot b _ P (ne b o q) (ne b o q);exact⟨_,T⟩
theorem cy{P:ee}{w:ey}{K:dV}{Y:Str->Option aC}{base:fc}{N:List Str}{qual:Str}{scope:Scope}{f:c_}{Z:aC}{A:gd}{outer:List Env}{s₀:b_}{H₀:Hp}:
  Leaves (ji (kz P w) P w K Y base N qual scope f Z A outer s₀ H₀ Ek) Ek:=⟨rfl,rfl,rfl,λ_ _ h=>h,PassesOwn.leaving⟩
end
structure DefX(P:ee)(w:ey)(K:dV)(mg:Str->Option aC)(base:fc)(k:Nat)(x:Str)(ps:List Str)(F:List D->M D):Prop where
 ex:∃f fd,FnOk P w K mg base (kz P w) k f fd ps (zO K F)/\mg x=ar (.ref f)/\u5 K (.ref f)=dr/\Binds K fd ps []
section
variable {P:ee}{w:ey}{K:dV}{mg:Str->Option aC}{base:fc}
theorem EM{x qual:Str}{st:n_}{f:c_}{G:f_}{N X:List Str}{k:Nat}{m:cW}(F:Fun K x qual st f G)(C:FnScope N X (aq st))
  (U:∀(Z:aC) (A:gd) (outer:List Env) (s:b_) (H:Hp) (Y:XK),Room k (A.deeper (z_ qual (aq st) s.heap.objs.size f Z))->M_ K Z qual=dr->(∃J od T kV doc pm an ct,K.lookup f=ar ⟨J,od,.func (w_ x qual (ef st) (cA st) (aq st) .none kV doc pm an Z ct),T⟩)->
   rW (ji (kz P w) P w K mg base N qual (aq st) f Z A outer s H Y) (yg K Y) (cA st) m):FnOk P w K mg base (kz P w) (k+1) f G X (zO K (pv N.length X.length m)):=by
 have key:∀{vs:List V} {H:Hp} {Q:VK} {Y:XK},zO K (pv N.length X.length m) vs H Q Y->vs.length=X.length/\∃ ι S ds,Rep K ι H S/\RelDs K ι H ds vs/\cont K (yg K Y) (do let o<-m (ds.map ar++j1 (N.length - X.length) none);outD o) ι S H (jQ K Q):=by
  rintro vs H Q Y ⟨ι,S,ds,rep,r,c⟩;unfold pv at c;by_cases R:ds.length=X.length
  ·rw[if_pos R]at c;exact⟨by rw[<-r.length];exact R,ι,S,ds,rep,r,c⟩
  ·rw[if_neg R]at c;exact(af c).elim
 obtain⟨J,od,kV,doc,pm,an,Z,ct,T,rfl,I,O⟩:=F.ex;refine CZ I O C (λvs H Q Y h=>(key h).1) λA outer s H vs Q Y z h=>⟨_,U Z A outer s H Y z O ⟨J,od,T,kV,doc,pm,an,ct,I⟩,?_⟩;obtain⟨R,ι,S,ds,rep,r,c⟩:=key h;refine⟨ι,S,_,rep,?_,aj (ai c) λo E S1 y e1 rep1 L=>?_⟩
 ·have:=RelE.start r (N.length - X.length);unfold L2.start;rw[R];exact this
 ·cases o with
  |nx ρ=>exact λB _=>ah L .refl rep1 _ .non
  |ret d=>exact ah L .refl rep1
  |bk ρ=>exact(af L).elim
  |ct ρ=>exact(af L).elim
end
section
variable {X:Cx}{Ek:XK}{e:Expr}{es:List Expr}{pos:Pos}{ms:aB->M (List D)}
theorem gK(d:DefX X.prog X.w X.K X.mg X.base k x ps F)(I:Room k X.A)(T:mH (kz X.prog X.w) X Ek)(C:SA X (yg X.K Ek) (e::es) ms)(R:Gl X x:=by rfl)
  (Z:(x==("__debug__":Str))=false:=by decide) (U:d_ (e::es) X.env=(dt,f' e X.env)::d_ es X.env:=by rfl) (W:(p_ pos (d_ es X.env)).any (·.1)=false:=by rfl):
  SE X (yg X.K Ek) (.Call (.Name x p) (e::es) [] pos) (aA F ms):=by
 obtain⟨f,fd,G,hm,N,P⟩:=d.ex;refine PE.imp (vi G I R hm N P (.nil) (E:=Ek) T C Z U W) λσ H Q h=>?_;obtain⟨ι,S,ρ,rep,re,c⟩:=h;refine⟨ι,S,ρ,rep,re,aj (ai c) λds Y S1 J e1 rep1 O vs L=>?_⟩;show zO X.K F (vs++[]) J Q Ek;rw[Kn];exact⟨Y,S1,ds,rep1,L,O⟩
theorem aL(d:DefX X.prog X.w X.K X.mg X.base k x ps F)(J:Room k X.A)(I:SA X dW (e::es) ms)(T:Gl X x:=by rfl)
  (Z:(x==("__debug__":Str))=false:=by decide) (U:d_ (e::es) X.env=(dt,f' e X.env)::d_ es X.env:=by rfl) (W:(p_ pos (d_ es X.env)).any (·.1)=false:=by rfl):
  SE X dW (.Call (.Name x p) (e::es) [] pos) (aA F ms):=by
 obtain⟨f,fd,G,hm,O,R⟩:=d.ex;refine PE.imp (vi G J T hm O R (.nil) (E:=E0) xC I Z U W) λσ H Q h=>?_;obtain⟨ι,S,ρ,rep,re,c⟩:=h;refine⟨ι,S,ρ,rep,re,aj (ai c) λds Y S1 L e1 rep1 P vs N=>?_⟩;show zO X.K F (vs++[]) L Q E0;rw[Kn];exact⟨Y,S1,ds,rep1,N,zQ P λ_ _ _ _ z=>z.elim⟩
end
def aQ:List Str:=["WebError","NoWeb","NoPlace","NoPlaces","NoMap","NoSharing","NoRoot","NoNumber","NotJoined","NoTie","NoText","NoLine","NoDeed","TooGreat"]
def bO(n y:Str):Bool:=n==y||y=="WebError"
abbrev GC:List Value:=[.type "ValueError",.type "Exception",.type "BaseException",.type "object"]
def zR(K:dV)(n:Str):Bool:=match ra K fg n with
 | some (ar (.ref C))=>zK K C && (n=="TooGreat"||Oo K C GC "ValueError.__new__") && (n3 K (.ref C) (.type "ValueError")==ar dr) && (n3 K (.type "NoneType") (.ref C)==ar dt) &&
  aQ.all (λy=>match ra K fg y with
   |some (ar (.ref D))=>n3 K (.ref C) (.ref D)==ar (bO n y) && OA K (.ref C) (.ref D)==ar (bO n y)
   |_=>dt)
 |_=>dt
def fV(K:dV):Bool:=aQ.all (zR K) && n3 K (.type "NoneType") (.type "ValueError")==ar dt
structure ErrAt(K:dV)(n:Str)(C:c_):Prop where
 ns:ra K fg n=ar (ar (.ref C))
 ck:ExcC K C
 pl:n="TooGreat"\/Oo K C GC "ValueError.__new__"=dr
 ve:n3 K (.ref C) (.type "ValueError")=ar dr
 nn:n3 K (.type "NoneType") (.ref C)=ar dt
 sub:∀y∈aQ,∃D,ra K fg y=ar (ar (.ref D))/\n3 K (.ref C) (.ref D)=ar (bO n y)/\OA K (.ref C) (.ref D)=ar (bO n y)
theorem kO{K:dV}(h:fV K=dr){n:Str}(X:n∈aQ):∃C,ErrAt K n C:=by
 unfold fV at h;rw[Kq]at h;have Z:=JU.mp h.1 n X;unfold zR at Z;split at Z
 ·next C e=>
  simp only[h_,MN,beq_iff_eq,wh]at Z;obtain⟨⟨⟨⟨a1,a2⟩,Y⟩,T⟩,S⟩:=Z;refine⟨C,e,.of a1,a2,Y,T,λy U=>?_⟩;have:=S y U;split at this
  ·next D eD=>
   simp only[h_,beq_iff_eq]at this;exact⟨D,eD,this.1,this.2⟩
  ·cases this
 ·cases Z
theorem EN{K:dV}(h:fV K=dr):n3 K (.type "NoneType") (.type "ValueError")=ar false:=by unfold fV at h;rw[Kq,beq_iff_eq]at h;exact h.2
theorem B7{K:dV}(X:K.In h)(q:Oo K C GC "ValueError.__new__"=dr):∃bm N nm qn bs hdct sn sub ab col dd k0 k1 k2 k3 k5 mN,
  h.get? C=ar (excClassObj nm qn C N bs bm hdct sn sub ab col dd k0 k1 k2 k3 k5 "ValueError.__new__")/\h.Ns N mN/\mN "__init__"=none/\OwnTail h GC bm:=by
 unfold Oo at q;split at q
 case h_2=>cases q
 case h_1 dd cd T ho=>
 split at q
 case h_2=>cases q
 case h_1 C' bm k0 k1 k2 k3 n k5 hm hs=>
 simp only[h_,beq_iff_eq,Bool.not_eq_true']at q;obtain⟨⟨⟨⟨⟨S,en⟩,Z⟩,R⟩,Y⟩,U⟩:=q;subst S en;rcases cd with⟨nm,bs,mro,ns,qn,hd,sn,sub,ab,col,del⟩;dsimp only at hm Z Y U;subst hm Z;obtain rfl:T= #[k0,k1,k2,k3,ar (.builtin "ValueError.__new__"),k5]:=by rcases T with⟨l⟩;simp only at hs;rw[hs]
 exact⟨bm,ns,nm,qn,bs,hd,sn,sub,ab,col,dd,k0,k1,k2,k3,k5,_,X _ _ ho,.of_isNs (W.isNs_of_in X Y),W.nsMap_none_of_in X Y U,W.tail_of_in X R⟩
section
variable {X:Cx}{Ek:XK}{E:XD}
theorem nF(L:Leaves X Ek)(v:X.calm=dr)(r:fV X.K=dr)(k:x∈aQ)(A:x≠"TooGreat")(m:SA X (yg X.K Ek) (e::es) ms)(i:Gl X x:=by rfl)
  (B:(x==("__debug__":Str))=false:=by decide) (y:d_ (e::es) X.env=(dt,f' e X.env)::d_ es X.env:=by rfl) (P:(p_ cpos (d_ es X.env)).any (·.1)=false:=by rfl):
  SS X (yg X.K Ek) (.Raise (ar (.Call (.Name x np) (e::es) [] cpos)) none pos) (λρ=>do let ds<-ms ρ;if ds.length<=lim then M.raise (.exc x [])else M.fail):=by
 intro pins s σ H T I h;obtain⟨ι,S,ρ,rep,re,c⟩:=h;obtain⟨C,O⟩:=kO r k;have g:=O.pl.resolve_left A;have hm:X.mg x=ar (.ref C):=K7 I.mod.kin I.mod.glob O.ns;obtain⟨bm,N,nm,n,bs,hdct,sn,sub,ab,col,dd,k0,k1,k2,k3,k5,mN,u,j,G,tl⟩:=B7 I.mod.kin g;refine wpAny_Raise_call_subU (k5:=k5) (k3:=k3) (k2:=k2) (k1:=k1) (k0:=k0) (nm:=nm) (q:=n) (C:=C) (N:=N) (bm:=bm) (bs:=bs) (hdct:=hdct) (sn:=sn) (sub:=sub) (ab:=ab) (col:=col) (dd:=dd) Ms (by decide) Ms (mN:=mN) (tl.hasType PySem.F.excBase_ValueError.hasBase) (I.ok.hd v) (by rw[y];show(dt||(p_ cpos (d_ es X.env)).any (·.1))=dt;rw[P];rfl) G (jF I i hm ⟨rfl,?_⟩ B);have Y:=m cpos pins s σ H _ I ⟨ι,S,ρ,rep,re,aj (ai c) λds Z S1 R e1 rep1 U vs J=>(⟨Z,S1,ds,rep1,J,U⟩:∃Z S1 ds,Rep X.K Z R S1/\RelDs X.K Z R ds vs/\cont X.K (yg X.K Ek) (if ds.length<=lim then M.raise (.exc x [])else M.fail) Z S1 R _)⟩;rw[y]at Y⊢;refine Calls.evalArgs_plain (Kx Y (λus s2 Q=>?_) λ_ _ z=>z);obtain⟨vs,R,W,d,Z,S1,ds,rep1,J,U⟩:=Q;by_cases hl:ds.length<=lim
 ·rw[if_pos hl]at U;refine⟨rfl,?_,W.bk _ _ u,j.keeps W.bk,tl.keeps W.bk,λh' ea hm=>?_⟩
  ·show us.length<=sizeLine;rw[<-d.length, <-J.length];exact JG hl dZ
  ·obtain⟨t,f,a,b⟩:=hm.there;have l:L2.Inv X pins σ R {s2 with heap:=h'}:=W.kept (t':=s2.toks) hm.keeps;have w:=W.base;rw[L.ex]at w;obtain⟨r',S',p,o⟩:=U;cases p;refine L.new l f rfl rfl rfl rfl (e9.gone W.hok hm.new) (Un.gone w (by simp) hm.new) (o Z R .refl rep1 _ _ ⟨x,[],C,rfl,O.ns,rfl,.inl ⟨rfl,rfl⟩⟩)
 ·rw[if_neg hl]at U;exact(af U).elim
def sD(f:Str->Bool):D->M D
 | .exc n _=>if n∈aQ then a_ (.bl (f n))else M.fail
 | .non=>a_ (.bl dt)
 |_=>M.fail
theorem xE(x:lM C a od h)(R:od=none\/∃dx fs,od=ar dx/\aW P w H h dx (.xd fs)):∃ox odo,y_ h a ox C odo:=by
 obtain⟨Y,vs,e,U,T,hf⟩:=x;have Z:OC Y=true:=by unfold OC;rw[hf]
 rcases R with rfl|⟨dx,fs,rfl,h2⟩
 ·exact⟨Y,none,e,U,Z,by rw[T];trivial⟩
 ·obtain⟨S,e2⟩:=aW.there h2;exact⟨Y,ar S,e,U,Z,by rw[T];exact e2⟩
theorem B8{Q:aC->b_->Prop}(I:L2.Inv X pins σ H s)(r:RelD X.K ι H (.exc n ds) v)(S:RelV v u)
  (T:fV X.K=dr) (U:n∈aQ) (Y:∀C,ErrAt X.K n C->n3 X.K (.ref C) cv=ar b) (h:∀tk,Q (.bool b) {s with toks:=tk}):eb (eK X.prog X.w) A (call (.builtin "isinstance") [u,cv]) Q Ex s:=by
 obtain⟨C,Z⟩:=kO T U;have fin:∀{a C2:c_} {od:Option c_},ra X.K fg n=ar (ar (.ref C2))->v= .ref a->lM C2 a od s.heap->(od=none\/∃dx fs,od=ar dx/\aW X.prog X.w H s.heap dx (.xd fs))->eb (eK X.prog X.w) A (call (.builtin "isinstance") [u,cv]) Q Ex s:=by rintro a C2 od e1 rfl ph hd;rw[Z.ns]at e1;cases e1;obtain rfl:u=eg a:=S;exact Kd (zM Z.ck) I.kIn (xE ph hd) (Y C Z) (λz=>nomatch z) h
 cases r with
 |exc e1 e2=>exact fin e1 rfl (I.hok _ _ e2).1 (.inl rfl)
 |excF e1 e2 e3 e4 e5=>exact fin e1 rfl (I.hok _ _ e2).1 (.inr ⟨_,_,rfl,I.hok _ _ e3⟩)
theorem zS{Q:aC->b_->Prop}(I:L2.Inv X pins σ H s)(Z:n3 X.K (.type "NoneType") cv=ar dt)(h:∀tk,Q (.bool dt) {s with toks:=tk}):
  eb (eK X.prog X.w) A (call (.builtin "isinstance") [.none,cv]) Q Ex s:=Kd MH I.kIn mu Z (λz=>nomatch z) h
theorem vQ{q:Pos}{f:Str->Bool}(w:fV X.K=dr)(t:X.mg "isinstance"=none)(B:SE X E e m)(R:PE X ec (tC vc))(O:∀u,RelV vc u->u=cv)(F:n3 X.K (.type "NoneType") cv=ar dt)
  (G:∀n∈aQ,∀C,ErrAt X.K n C->n3 X.K (.ref C) cv=ar (f n)) (A:Gl X "isinstance":=by rfl)
  (hs:d_ [e,ec] X.env=[(dt,f' e X.env),(dt,f' ec X.env)]:=by rfl) (Z:d_ [ec] X.env=[(dt,f' ec X.env)]:=by rfl):
  SE X E (.Call (.Name "isinstance" p) [e,ec] [] pos) (λρ=>do let x<-m ρ;sD f x):=by
 have Y:b9 X (.builtin "isinstance") (λxs H Q=>∃x ι d,xs=[x,vc]/\RelD X.K ι H d x/\((d= .non/\Q (.bl dt) H)\/∃n ds,d= .exc n ds/\n∈aQ/\Q (.bl (f n)) H)):=by
  intro pins s σ H xs us Q I r h;obtain⟨x,ι,d,rfl,L,z⟩:=h;obtain⟨u,o,rfl,J,T⟩:=vals2 r;cases O _ T;rcases z with⟨rfl,q⟩|⟨n,ds,rfl,hn',q⟩
  ·cases L.non_inv;cases (show u=gg from J);exact zS I F λN=>⟨.bl _,H,I.tok N,rfl,q⟩
  ·exact B8 I L J w hn' (λC y=>G n hn' C y) λN=>⟨.bl _,H,I.tok N,rfl,q⟩
 refine PE.imp (iu Y A t (by decide+kernel) (dD B (dD R jh Z) (by rw[hs,Z])) (by decide) (by decide) (by rw[hs,Z]) (by rw[Z];rfl)) λσ H Q h=>?_;obtain⟨ι,S,ρ,rep,re,c⟩:=h;refine⟨ι,S,ρ,rep,re,aj (ai c) λx P S1 l e1 rep1 U v r=>?_⟩;refine⟨v,P,x,rfl,r,?_⟩;cases x with
 |non=>exact .inl ⟨rfl,ah U .refl rep1 _ (.bl _)⟩
 | exc n ds=>
  dsimp only[sD]at U;by_cases hn':n∈aQ
  ·rw[if_pos hn']at U;exact .inr ⟨n,ds,rfl,hn',ah U .refl rep1 _ (.bl _)⟩
  ·rw[if_neg hn']at U;exact(af U).elim
 |_=>exact(af U).elim
theorem c0{m:TM}{e:Expr}{y:Str}{p q pos:Pos}(T:fV X.K=dr)(S:y∈aQ)(G:Mod X.K X.mg X.base)(O:X.mg "isinstance"=none)(R:SE X E e m)(P:Gl X "isinstance":=by rfl)(Y:Gl X y:=by rfl)(Q:(y==("__debug__":Str))=false:=by decide)
  (hs:d_ [e,.Name y q] X.env=[(dt,f' e X.env),(dt,f' (.Name y q) X.env)]:=by rfl) (W:d_ [.Name y q] X.env=[(dt,f' (.Name y q) X.env)]:=by rfl):
  SE X E (.Call (.Name "isinstance" p) [e,.Name y q] [] pos) (λρ=>do let x<-m ρ;sD (λn=>bO n y) x):=by
 obtain⟨C,U⟩:=kO T S;refine vQ (q:=q) (vc:=.ref C) (cv:=.ref C) T O R (p9 Y (K7 G.kin G.glob U.ns) rfl Q) (λu z=>z) U.nn (λn N L Z=>?_) P hs W;obtain⟨J,e1,e2,_⟩:=Z.sub y S;rw[U.ns]at e1;cases e1;exact e2
theorem B9(T:fV X.K=dr)(R:X.mg "isinstance"=none)(W:X.mg "ValueError"=none)(S:SE X E e m)(Q:Gl X "isinstance":=by rfl)(U:Gl X "ValueError":=by rfl)
  (hs:d_ [e,.Name "ValueError" q] X.env=[(dt,f' e X.env),(dt,f' (.Name "ValueError" q) X.env)]:=by rfl) (Z:d_ [.Name "ValueError" q] X.env=[(dt,f' (.Name "ValueError" q) X.env)]:=by rfl):
  SE X E (.Call (.Name "isinstance" p) [e,.Name "ValueError" q] [] pos) (λρ=>do let x<-m ρ;sD (λ_=>dr) x):=
 vQ (q:=q) (vc:=.ty "ValueError") (cv:=.type "ValueError") T R S (lY U W (by decide+kernel) rfl) (λu z=>z) (EN T) (λn P O Y=>Y.ve) Q hs Z
end
abbrev iJ(ql:Str)(scope:Scope)(f c':c_)(cl:List (Str×c_))(s:b_):Env:=W.envX ql scope s.heap.objs.size f (.ref c') cl
def sE(P:ee)(w:ey)(K:dV)(mg:Str->Option aC)(base:fc)(N:List Str)(ql:Str)(scope:Scope)(f c':c_)(cl:List (Str×c_))(A:gd)(outer:List Env)(s:b_)(H:Hp)(Ek:XK):Cx where
 prog:=P
 w:=w
 K:=K
 mg:=mg
 base:=base
 A:=A.deeper (iJ ql scope f c' cl s)
 N:=N
 s₀:=s
 H₀:=H
 env:=iJ ql scope f c' cl s
 outer:=outer
 stack:=iJ ql scope f c' cl s::outer
 ex:=[]
 calm:=dr
 fn:=λ_=>dt
 pn:=[]
 xe:=λe s'=>eb (eK P w) (A.deeper (iJ ql scope f c' cl s)) (Ni (iJ ql scope f c' cl s) e) (λ_ s''=>kz P w outer H s Ek e s'') (λe' s''=>kz P w outer H s Ek e' s'') s'
section
variable {P:ee}{w:ey}{K:dV}{mg:Str->Option aC}{base:fc}{N:List Str}{ql:Str}{scope:Scope}{f c':c_}{cl:List (Str×c_)}{params:Nj}{body:Expr}{pm ctv:aC}
theorem uE:Leaves (sE P w K mg base N ql scope f c' cl A outer s H Ek) Ek:=⟨rfl,rfl,rfl,λ_ _ h=>h,PassesOwn.leaving⟩
structure Caps(base:fc)(scope:Scope)(cl:List (Str×c_))(N:List Str)(vs:List V):Prop where
 kind:scope.kind= .function
 nocell:∀y∈scope.names,y.2≠ .cell
 co:scope.isCoroutine=dt
 gen:scope.isGenerator=dt
 inj:∀x y c,cl.lookup x=ar c->cl.lookup y=ar c->x=y
 has:∀x,scope.names.lookup x=ar .free->∃c,cl.lookup x=ar c
 cell:∀x c,cl.lookup x=ar c->∃v,base.IsCell c v
 len:vs.length=N.length
 val:∀(i:Nat) (x:Str) (v:V),N[i]? =ar x->vs[i]? =ar v->scope.names.lookup x=ar .free/\∃c u,cl.lookup x=ar c/\RelV v u/\base.IsCell c (ar u)
def GD(K:dV)(c':c_)(ql:Str)(ds:List D)(vs:List V)(m:TM):Hp->VK->XK->Prop:=λH Q Ek=>
 ∃ ι S,Rep K ι H S/\H c'=ar (.ext (oE ql c'))/\RelDs K ι H ds vs/\cont K (yg K Ek) (m (ds.map ar)) ι S H (jQ K Q)
theorem fi{h h':fc}(x:h.IsCell c v)(k:∀b o,h.get? b=ar o->h'.get? b=ar o):h'.IsCell c v:=let ⟨o,e,r⟩:=x;⟨o,k _ _ e,r⟩
theorem sF:∀{ds:List D} {vs:List V},RelDs K ι H ds vs->RelE K ι H (ds.map ar) (vs.map ar)
 |_,_,.nil=>.nil
 |_,_,.cons r t=>.cons (λd z=>by cases z;exact⟨_,rfl,r⟩) (sF t)
theorem EO(d:base.get? f=ar (x_ "<lambda>" ql params body scope cl pm c' ctv))(cp:Caps base scope cl N vs)
  (X:NX (OB "<lambda>" ql params body scope cl pm (.ref c') ctv) ⟨[],[]⟩=a_ [])
  (Y:∀(A:gd) (outer:List Env) (s:b_) (H:Hp) (G:XK),Room k (A.deeper (iJ ql scope f c' cl s))->SE (sE P w K mg base N ql scope f c' cl A outer s H G) (yg K G) body m):
  LamOk P w K mg base (k+1) f (GD K c' ql ds vs m):=by
 refine⟨⟨_,_,d,rfl⟩,λA outer s H Q G g Z j=>?_⟩;obtain⟨ι,S,rep,B,rd,c⟩:=j;have bk:∀b o,base.get? b=ar o->s.heap.get? b=ar o:=λb o e=>(Z.bs b o e).1;have n:s.heap.CodeRec (.ref c') ql:=(Z.hok _ _ B).1;refine W.kla_callFunE g.depth (bk _ _ d) rfl cp.co cp.gen rfl n ?_;rw[X];refine Jx (wpAny_newFunctionEnv cp.nocell (λy hy=>absurd hy (by simp)) (λh1 t l=>?_) cp.kind);have R:∀b o,s.heap.get? b=ar o->h1.get? b=ar o:=λb o e=>(l.2 b (JK (JC e))).trans (Jv _ e);refine⟨(Z.mod.nolimit.keeps bk).keeps R,?_⟩;show C_ _ _ (.expr body (iJ ql scope f c' cl s)) _ _;refine W.kla_codeExpr ?_;have U:∀b:c_,b∉([]:List c_):=λb z=>by cases z
 have C:∀x,scope.names.lookup x≠ar .cell:=λx e=>cp.nocell _ (bg e) rfl;have I:L2.Inv (sE P w K mg base N ql scope f c' cl A outer s H G) [] (vs.map ar) H {s with heap:=h1,toks:=s.toks+0}:=
  ⟨⟨Z.mod,cp.kind,rfl,rfl,Jw _,cp.inj,(λx L=>by
    rcases L with L|L
    ·exact absurd L (C x)
    ·exact cp.has x L),(λ_ _ z=>Bool.noConfusion z),λ_=>g.hd,Around.frames_deeper Z.frames,.inr ⟨rfl,rfl⟩,λb z=>absurd z (U b),Z.bs,Z.bsz,λb _ _=>U b,λb z=>absurd z (U b),Z.funs,Z.frf⟩,
   rfl,Z.bare,Un.kept R,⟨_,t,λi x v F T h3=>(by
    have E:vs[i]? =ar v:=by
     rw[JP]at T;cases q:vs[i]? with
     |none=>rw[q]at T;cases T
     |some a=>rw[q]at T;cases T;rfl
    obtain⟨hf,O,u,e1,e2,e3⟩:=cp.val i x v F E;exact⟨u,e2,.inr ⟨.inr hf,O,e1,fi (fi e3 bk) R⟩⟩)⟩,
   (λx O e=>let ⟨v,z⟩:=cp.cell x O e;⟨v,fi (fi z bk) R⟩),Z.hok.fresh (Jw _),(λx O e=>let ⟨v,o,z,_⟩:=cp.cell x O e;(Z.bs _ _ z).2),
   (λp hp=>absurd hp (by simp[sE])),Z.hok.kept R,by rw[Jy];exact cp.len⟩
 refine Kx (Y A outer s H G (g.deeper _) [] _ (vs.map ar) H Q I ⟨ι,S,ds.map ar,rep,sF rd,c⟩) (λu s' h=>?_) λe s' h=>h;obtain⟨v,H',J,r,q⟩:=h;exact⟨v,H',J.os,J.bare,J.base,J.hok,r,q⟩
end
theorem RelE.unset{K:dV}{ι:List c_}{H:Hp}:∀{ρ:S3.aB} {σ:L2.St} (i:Nat),RelE K ι H ρ σ->RelE K ι H (ρ.set i none) (σ.set i none)
 |_,_,_,.nil=>.nil
 |_,_,0,.cons _ t=>.cons (λd' z=>by cases z) t
 |_,_,i+1,.cons q t=>.cons q (RelE.unset i t)
def zT(jn jy:Nat)(c:M D)(ρ:S3.aB):M Out:=λS=>match c S with
 |some (.ok _,S')=>ar (.ok (.nx ρ),S')
 |some (.ex (.exc n ds),S')=>if n∈aQ then ar (.ok (.nx (((ρ.set jn (ar (.exc n ds))).set jy (ar (.exc n ds))).set jn none)),S')else none
 |_=>none
open Classical in
def sG(i jn jy:Nat)(f:D)(c:M D):cW:=λρ=>if ρ[i]? =ar (ar f)then zT jn jy c ρ else M.fail
section
variable {X:Cx}{E:XD}{k i jn jy:Nat}{a c':c_}{ql:Str}{ds:List D}{vs:List V}{m:TM}{x n y:Str}{p cpos epos np p1 p2 p3 hpos tpos:Pos}
theorem ER(I:X.stack=X.env::X.outer)(l:X.env.frame=ar X.env.locals)(L:LamOk X.prog X.w X.K X.mg X.base k a (GD X.K c' ql ds vs m))(hr:Room k X.A)(hN:X.N.Nodup)(b:fV X.K=dr)(G:Mod X.K X.mg X.base)(hi:X.N[i]? =ar x)(hv:CV X.env.scope x)
  (F:X.N[jn]? =ar n) (j:X.N[jy]? =ar y) (B:X.env.scope.names.lookup n=ar .local) (J:X.env.scope.names.lookup y=ar .local) (hg:Gl X "WebError")
  (hd:(x==("__debug__":Str))=false:=by decide) (s:(x==("__classdict__":Str))=false:=by decide) (t:(n==("__debug__":Str))=false:=by decide) (P:(n==("__classdict__":Str))=false:=by decide)
  (o:kT (.Call (.Name x p) [] [] cpos) none epos.line X.env=a_ false:=by rfl) (O:kT (.Name n p2) (ar (.Name y p1)) p3.line X.env=a_ false:=by rfl):
  SS X E (.Try [.Expr (.Call (.Name x p) [] [] cpos) epos] [.ExceptHandler (ar (.Name "WebError" np)) (ar n) [.Assign [.Name y p1] (.Name n p2) p3] hpos] [] [] tpos) (sG i jn jy (.fn a c' ql ds vs) (m (ds.map ar))):=by
 obtain⟨CW,f⟩:=kO b (show("WebError":Str)∈aQ from .head _);refine PS.imp (xD I l L hr hN hi hv F j B J hg (K7 G.kin G.glob f.ns) hd s (by decide) t P o O) λT σ H h=>?_;obtain⟨ι,S,ρ,rep,re,r,S',e,q⟩:=h;have e:sG i jn jy (.fn a c' ql ds vs) (m (ds.map ar)) ρ S=ar (r,S'):=e;unfold sG at e;by_cases hρ:ρ[i]? =ar (ar (.fn a c' ql ds vs))
 case neg=>rw[if_neg hρ]at e;cases e
 rw[if_pos hρ]at e;unfold zT at e;obtain⟨v,e1,rv⟩:=re.get hρ;cases rv with
 | fn hc' rds=>
  refine⟨e1,ι,S,rep,hc',rds,?_⟩;cases z:m (ds.map ar) S with
  |none=>rw[z]at e;cases e
  | some pr=>
   obtain⟨r1,S1⟩:=pr;rw[z]at e;cases r1 with
   |ok d=>
    cases e;exact⟨_,_,z,λZ Q U rep1 v' _=>q Z Q U rep1 σ (re.later rep U)⟩
   | ex xd=>
    cases xd with
    | exc nm es=>
     dsimp only at e;split at e
     case isFalse=>cases e
     case isTrue hnm=>
     cases e;refine⟨_,_,z,λZ Q U rep1 cls od rx=>?_⟩;obtain⟨n2,a4,C,e2,Y,rfl,u⟩:=rx;cases e2;obtain⟨C2,c⟩:=kO b hnm;have:=c.ns;rw[Y]at this;cases this;obtain⟨D2,f1,f2,f3⟩:=c.sub "WebError" (.head _);rw[f.ns]at f1;cases f1;refine⟨C,rfl,by rw[f3];simp[bO],λR W=>?_⟩;have xe:Ext Z Q Z (upd Q R (.ext (lM C R od))):=eh W;have g:RelD X.K Z (upd Q R (.ext (lM C R od))) (.exc nm es) (.ref R):=by
      rcases u with⟨rfl,rfl⟩|⟨dx,fs,rfl,g1,g2,g3⟩
      ·exact .exc Y aU
      ·exact .excF Y aU (by rw[aG (aI g1 W)];exact g1) g2 (g3.later rep1 xe)
     exact q Z _ (U.trans xe) (fP rep1 W) _ (RelE.unset jn ((((re.later rep U).later rep1 xe).set g jn).set g jy))
    |_=>cases e
end
def uF:List Nat->S3.aB->Option (List D)
 |[],_=>ar []
 |j::r,ρ=>match ρ[j]? with
  |some (ar d)=>(uF r ρ).map (d::·)
  |_=>none
theorem vR{K:dV}{ι:List c_}{H:Hp}{ρ:S3.aB}{Y:L2.St}(Z:RelE K ι H ρ Y):∀{js:List Nat} {ds:List D},uF js ρ=ar ds->∃vs,RelDs K ι H ds vs/\vs.length=js.length/\∀(i j:Nat) (v:V),js[i]? =ar j->vs[i]? =ar v->Y[j]? =ar (ar v)
 |[],ds,e=>by
  cases e;exact⟨[],.nil,rfl,λi j v h=>by simp at h⟩
 | j ::r,ds,e=>by
  unfold uF at e;cases q:ρ[j]? with
  |none=>rw[q]at e;cases e
  | some o=>
   cases o with
   |none=>rw[q]at e;cases e
   | some d=>
    rw[q]at e;cases q2:uF r ρ with
    |none=>rw[q2]at e;cases e
    |some es=>
     rw[q2]at e;cases e;obtain⟨v,T,U⟩:=Z.get q;obtain⟨vs,g1,g2,g3⟩:=vR Z q2;refine⟨v::vs,.cons U g1,by simp[g2],λi S X e1 e2=>?_⟩;cases i with
     |zero=>simp at e1 e2;subst e1 e2;exact T
     |succ i=>exact g3 i S X (by simpa using e1) (by simpa using e2)
structure LamScope(X:Cx)(scope:Scope)(N3:List Str)(js:List Nat):Prop where
 kind:scope.kind= .function
 nocell:∀y∈scope.names,y.2≠ .cell
 co:scope.isCoroutine=dt
 gen:scope.isGenerator=dt
 free:∀y∈scope.names,y.2= .free->X.env.kindOf y.1=ar .cell\/X.env.kindOf y.1=ar .free
 len:js.length=N3.length
 ix:∀(i:Nat) (x:Str) (j:Nat),N3[i]? =ar x->js[i]? =ar j->X.N[j]? =ar x/\scope.names.lookup x=ar .free
def GE(fs:Scope)(N:List Str)(scope:Scope)(N3:List Str)(js:List Nat):Bool:=
 (scope.kind== .function) && scope.names.all (λy=>y.2 != .cell) && !scope.isCoroutine && !scope.isGenerator &&
  scope.names.all (λy=>y.2 != .free||(fs.names.lookup y.1==ar .cell||fs.names.lookup y.1==ar .free)) && (js.length==N3.length) &&
  (N3.zip js).all (λp=>N[p.2]? ==ar p.1 && scope.names.lookup p.1==ar .free)
theorem IE{X:Cx}(Z:Scope)(N:List Str)(U:∀x,X.env.kindOf x=Z.names.lookup x)(S:X.N=N)(h:GE Z N scope N3 js=dr):LamScope X scope N3 js:=by
 unfold GE at h;simp only[h_,wh,beq_iff_eq,bne_iff_ne,MN,Bool.not_eq_true']at h;obtain⟨⟨⟨⟨⟨⟨P,T⟩,W⟩,Q⟩,R⟩,Y⟩,L⟩:=h;refine⟨P,T,W,Q,λy K e=>?_,Y,λi x j e1 e2=>?_⟩
 ·rw[U];exact(R y K).resolve_left λz=>z e
 ·have O:(N3.zip js)[i]? =ar (x,j):=Lq.mpr ⟨e1,e2⟩;have:=L _ (JV O);rw[S];exact this
def zU(K:dV)(R:D->M D->List D->M D)(a c':c_)(ql:Str)(ds:List D)(vs:List V)(m:TM):Sp:=λus H Q _=>
 ∃ ι S rest es,us= .ref a::rest/\Rep K ι H S/\H c'=ar (.ext (oE ql c'))/\RelDs K ι H ds vs/\RelDs K ι H es rest/\cont K dW (R (.fn a c' ql ds vs) (m (ds.map ar)) es) ι S H (jQ K Q)
structure RefX(P:ee)(w:ey)(K:dV)(mg:Str->Option aC)(k k0:Nat)(x:Str)(ps:List Str)(R:D->M D->List D->M D):Prop where
 ex:∃fr fd,mg x=ar (.ref fr)/\u5 K (.ref fr)=dr/\Binds K fd ps []/\∀base,Mod K mg base->∀a c' ql ds vs m,LamOk P w K mg base k0 a (GD K c' ql ds vs m)->FnOk P w K mg base (kz P w) k fr fd ps (zU K R a c' ql ds vs m)
abbrev uG(js:List Nat)(ms:aB->M (List D))(m:TM)(R:M D->List D->M D):TM:=λρ=>match uF js ρ with
 |some ds=>(do let es<-ms ρ;R (m (ds.map ar)) es)
 |none=>M.fail
theorem jc{h Z:fc}:∀{l:List Env},h.FunFrames base l->(∀b∈iq l,Z.get? b=none)->h.FunFrames Z l
 |[],_,_=>trivial
 |env::rest,⟨hk,⟨L,o,hf,_,ho,hd⟩,hr⟩,hn=>by
  rw[sA rest L env hf]at hn;exact⟨hk,⟨L,o,hf,hn L (.head _),ho,hd⟩,jc hr λb Y=>hn b (.tail _ Y)⟩
abbrev iK(X:Cx)(H:Hp)(h:fc):Heap:=W.hideAll (i6 h H) (iq X.stack)
theorem jw{X:Cx}{H:Hp}{h:fc}(e:h.get? b=ar o)(n:H b=none)(Z:b∉iq X.stack):(iK X H h).get? b=ar o:=W.hideAll_get _ (jD e n) Z
section
variable {X:Cx}{pins:List (c_×Obj)}{σ:L2.St}{H:Hp}{s:b_}
theorem kc(I:L2.Inv X pins σ H s):∀b o,X.base.get? b=ar o->(iK X H s.heap).get? b=ar o:=λb o e=>by obtain⟨Z,Y⟩:=I.bs b o e;refine jw Z Y λz=>?_;have:=(I.stack.mem z).1;rw[e]at this;cases this
theorem gi(I:L2.Inv X pins σ H s):Mod X.K X.mg (iK X H s.heap):=
 ⟨I.mod.kin.keeps (kc I),I.mod.glob.keeps (kc I),let ⟨mb,h1,h2⟩:=I.mod.blt;⟨mb,h1.keeps (kc I),h2⟩,I.mod.nolimit.keeps (kc I)⟩
theorem Ca(I:L2.Inv X pins σ H s):L2.aB X.prog X.w X.K X.mg (iK X H s.heap) X.A X.stack s H:=
 ⟨I.ok.frames,gi I,λb o e=>p8 (W.of_hideAll _ e),by rw[W.hideAll_size,kB];exact Jw _,jc I.stack λb Z=>W.hideAll_none _ Z,I.stkFree,I.hok,I.bare⟩
theorem vS(I:L2.Inv X pins σ H s)(Z:∀x,X.fn x=dr)(e:X.env.cells.lookup x=ar c)(h:s.heap.IsCell c v):(iK X H s.heap).IsCell c v:=by
 obtain⟨o,Y,W⟩:=h;refine⟨o,jw Y (I.freeC x c e) λz=>?_,W⟩;rcases JN.mp (I.stkSub c z)with z|z
 ·exact I.cne x c e z
 ·obtain⟨_,U,q,_⟩:=I.ok.funs.mem z;exact absurd (JC q) (M9.mpr (I.ok.cab x c (Z x) e))
end
section
variable {X:Cx}{x xl ql:Str}{k k0:Nat}{ps N3:List Str}{js:List Nat}{R:D->M D->List D->M D}{R':M D->List D->M D}{params:Nj}{body:Expr}{scope:Scope}{lpos p pos:Pos}{es:List Expr}{ms:aB->M (List D)}{m:TM}{c P:c_}
theorem ES(d:RefX X.prog X.w X.K X.mg k (k0+1) x ps R)(hR:∀f c es,R f c es=R' c es)(hr:Room k X.A)(a6:∀x,X.fn x=dr)(e3:xl∈bI)(ht:k7 X.K xl=ar (c,P))(a0:X.env.code= .ref c)(hq:X.env.qual++"<lambda>"=ql)(e6:ql=xl++".<locals>.<lambda>")
  (B:BaseL X.K X.mg X.base) (TI:qP X.K) (c4:defaultsOf params X.env=([],[])) (g:LamScope X scope N3 js) (ha:SA X dW es ms)
  (a4:∀(T:c_) (cl:List (Str×c_)) (pm C:aC),NX (OB "<lambda>" ql params body scope cl pm (.ref T) C) ⟨[],[]⟩=a_ [])
  (b2:∀(base:fc),Mod X.K X.mg base->∀(f T:c_) (cl:List (Str×c_)) (A:gd) (outer:List Env) (s:b_) (H:Hp) (Ek:XK),Room k0 (A.deeper (iJ ql scope f T cl s))->SE (sE X.prog X.w X.K X.mg base N3 ql scope f T cl A outer s H Ek) (yg X.K Ek) body m)
  (hg:Gl X x:=by rfl) (f5:(x==("__debug__":Str))=false:=by decide)
  (he:d_ (.Lambda params body scope lpos::es) X.env=(dt,f' (.Lambda params body scope lpos) X.env)::d_ es X.env:=by rfl) (d2:(p_ pos (d_ es X.env)).any (·.1)=false:=by rfl):
  SE X dW (.Call (.Name x p) (.Lambda params body scope lpos::es) [] pos) (uG js ms m R'):=by
 intro pins s σ H Q I h;obtain⟨ι,S,ρ,rep,re,l⟩:=h;obtain⟨fr,fd,hm,hk,hb,F⟩:=d.ex;have l:cont X.K dW (uG js ms m R' ρ) ι S H (jQ X.K Q):=l;unfold uG at l;cases hcap:uF js ρ with
 |none=>rw[hcap]at l;exact(af l).elim
 |some ds=>
 rw[hcap]at l;dsimp only at l;obtain⟨vs,e5,a5,d3⟩:=vR re hcap;have b:∀y∈scope.names,y.2= .free->∃a,X.env.cells.lookup y.1=ar a:=λy hy e=>I.ok.has y.1 (g.free y hy e);refine Le (jF I hg hm ?_ f5);refine W.callWith_K (h₀:=X.base) I.ok.mod.kin hk (spliced_more (EL e3 ht a0 hq e6 B TI (jO scope X.env b) c4 I rep.tab λf T C pm H1 s1 I1 b5 e0 c7 b1 J h1 hT=>?_) he) he d2;have x1:Ext ι H ι H1:=⟨⟨[],by simp⟩,λa o e n t=>⟨J a o e t,n⟩⟩;have rep1:Rep X.K ι H1 S:=⟨rep.nd,rep.len,λkk a xs e1 e2=>let ⟨ws,g1,g2⟩:=rep.get kk a xs e1 e2;⟨ws,J _ _ g1 (by intro _ z;cases z),g2.later rep x1⟩,hT⟩;have d1:L2.Inv X ((f,x_ "<lambda>" ql params body scope (iw X.env.cells scope.names []) pm T C)::pins) σ H1 s1:=I1.pins_of λq Y=>by
  rcases JN.mp Y with rfl|Y
  ·exact⟨e0,c7,i2 (JK (JI I.lt b5)),I.nofs b5,λv z=>by cases z⟩
  ·exact I1.pin q (JX _ Y)
 refine cO (ha pos _ s1 σ H1 (λN O=>∃U S2 L,Ext ι H1 U O/\Rep X.K U O S2/\RelDs X.K U O L N/\cont X.K dW (R' (m (ds.map ar)) L) U S2 O (jQ X.K Q)) d1 ⟨ι,S,ρ,rep1,re.later rep x1,aj (ai (fx l x1)) λL U S2 O e2 rep2 c2 N r2=>⟨U,S2,L,e2,rep2,r2,c2⟩⟩) λus s2 d0=>?_;obtain⟨N,O,a3,rv,U,S2,L,x2,rep2,r2,c2⟩:=d0;have E:L2.Inv X pins σ O s2:=a3.pins_of λq Y=>a3.pin q (JX _ (.tail _ Y));refine⟨E.kIn,?_⟩;show eb _ _ (call (.ref fr) (.ref f::us)) _ _ _;obtain⟨po,pn,pl,pf,_⟩:=a3.pin (f,_) (JX _ (.head _));have e7:O T=ar (.ext (oE ql T)):=(x2.oth T _ b1 (rep1.notIn b1 (by intro _ z;cases z)) (by intro _ z;cases z)).1;have nf:f∉iq X.stack:=λz=>by
  rcases JN.mp (E.stkSub f z)with z|z
  ·exact pl z
  ·exact pf z
 have f3:=qk (cells:=X.env.cells) scope.names [] b (λ_ z=>nomatch z);have Z:∀y a,(iw X.env.cells scope.names []).lookup y=ar a->X.env.cells.lookup y=ar a:=λy a e=>f3 _ (lookup_mem e);have cp:Caps (iK X O s2.heap) scope (iw X.env.cells scope.names []) N3 vs:=by
  refine⟨g.kind,g.nocell,g.co,g.gen,λy z a e1 e2=>I.ok.inj y z a (Z y a e1) (Z z a e2),λy e=>mem_lookup (iy scope.names [] (.inl (bg e))),λy a e=>?_,by rw[a5];exact g.len,λi y v e1 e2=>?_⟩
  ·obtain⟨v,z⟩:=E.cell y a (Z y a e);exact⟨v,vS E a6 (Z y a e) z⟩
  ·have e4:i<js.length:=by rw[<-a5];exact(Jz.mp e2).1
   obtain⟨j,hj⟩:∃j,js[i]? =ar j:=⟨_,JB e4⟩;obtain⟨g1,g2⟩:=g.ix i y j e1 hj;have hv:=d3 i j v hj e2;have c1:=g.free (y,.free) (bg g2) rfl;have b4:CV X.env.scope y:=by
    rcases c1 with z|z
    ·exact .inr (.inl z)
    ·exact .inr (.inr z)
   obtain⟨mm,j7,hl⟩:=E.loc;obtain⟨u,ru,lk⟩:=hl j y v g1 hv b4;refine⟨g2,?_⟩;rcases lk with⟨z,_⟩|⟨_,a,ea,hca⟩
   ·have z':X.env.kindOf y=ar .local:=z;rcases c1 with w'|w'
    ·have w2:X.env.kindOf y=ar .cell:=w';rw[z']at w2;cases w2
    ·have w2:X.env.kindOf y=ar .free:=w';rw[z']at w2;cases w2
   ·obtain⟨a2,b6⟩:=mem_lookup (iy (cells:=X.env.cells) scope.names [] (.inl (bg g2)));have:=Z y a2 b6;rw[ea]at this;cases this;exact⟨a,u,b6,ru,vS E a6 ea hca⟩
 have LO:LamOk X.prog X.w X.K X.mg (iK X O s2.heap) (k0+1) f (GD X.K T ql ds vs m):=EO (jw po pn nf) cp (a4 T _ pm C) λA outer s H Ek g4=>b2 _ (gi E) f T _ A outer s H Ek g4;have G:=F (iK X O s2.heap) (gi E) f T ql ds vs m LO;have sp:zU X.K R f T ql ds vs m (.ref f::N) O Q E0:=⟨U,S2,N,L,rfl,rep2,e7,(e5.later rep x1).later rep1 x2,r2,by rw[hR];exact c2⟩;have hlen:(eg f::us).length=ps.length:=by have:=G.len _ _ _ _ sp;rw[<-this,JR,JR,rv.length]
 refine MI (Lg (G.run X.A X.stack s2 O ⟨.ref f::us,[]⟩ (.ref f::us) (.ref f::N) Q E0 hr (Ca E) (by have:=hb s2 (.ref f::us) E.kIn (by rw[Kn];exact hlen);rw[Kn]at this;exact this) (.cons rfl rv) sp) λr s' Y=>?_);cases r with
 |error e=>obtain⟨_,_,_,_,_,_,_,_,_,_,_,_,_,_,_,z⟩:=Y;exact g_ z
 |ok fl=>
  cases fl with
  |ret u=>exact E.after Y
  |next=>exact g_ Y
  |brk=>exact g_ Y
  |cont=>exact g_ Y
end
def iL(K:dV):List Addr:=bI.filterMap λy=>(k7 K y).map (·.2)
theorem xF{K:dV}{y:Str}{c P:c_}(Z:y∈bI)(e:k7 K y=ar (c,P)):P∈iL K:=KF.mpr ⟨y,Z,by rw[e];rfl⟩
theorem sH{K:dV}{P:c_}(h:P∈iL K):∃y c,y∈bI/\k7 K y=ar (c,P):=by
 obtain⟨y,Z,e⟩:=KF.mp h;cases q:k7 K y with
 |none=>rw[q]at e;cases e
 |some p=>rw[q]at e;cases e;exact⟨y,p.1,Z,q⟩
theorem Cb{K:dV}{mb:Str->Option aC}{sp:Sp}{Z:b_}{vs:List aC}
  (KX:K.In Z.heap) (nt:OD K=dr) (l:Z.heap.Ns fg mg) (hb:Z.heap.Ns u0 mb) (a4:∀x:Str,x≠"__name__"->mb x=j3 x) (C:Z.heap.NoLimit) (hg:Z.gens= #[])
  (n:∃bm G,mg "__builtins__"=ar (.ref bm)/\bm≠u0/\Z.heap.get? bm=ar G/\G.cls= .type "module"/\G.dict=ar u0/\G.data= .plain)
  (U:∀y∈bI,∀c Q,k7 K y=ar (c,Q)->Nb Z.heap c Q/\Z.heap.get? Q=ar (vr #[]))
  (I:Z.heap.get? a=ar {cls:=.type "list",data:=.seq vs.toArray}) (hi:lx vs ns) (hl:ns.length<=sizeLine) (hr:Room k u_)
  (F:∀base:fc,Mod K mg base->BaseL K mg base->FnOk P w K mg base (kz P w) k fa fd [x] sp) (O:∀(s:b_) (u:aC),G2 s fd ⟨[u],[]⟩ [(x,u)])
  (j:∀H:Hp,TabsOk K H->Bi K H a (ns.map V.int)->sp [.ref a] H (λv _=>v= .bl dr) λ_ _ _=>False):
  C_ (eK P w) u_ (.call (.ref fa) ⟨[.ref a],[]⟩) (λr s'=>r= .ok (.ret (.bool dr))/\OldK Z.heap s'.heap/\s'.os=Z.os/\x' s'.gens) Z:=by
 have rv:=iU hi;have X:∀Q∈iL K,Z.heap.get? Q=ar (vr #[]):=λQ hQ=>let ⟨y,c,L,e⟩:=sH hQ;(U y L c Q e).2;have aT:a∉iL K:=λz=>by have:=X a z;rw[I]at this;cases this
 let H:Hp:=λb=>if b∈iL K then ar (.tbl #[])else if b=a/\K.lookup a=none then ar (.frz {cls:=.type "list",data:=.seq vs.toArray} (.lst (ns.map V.int)))else none;have f:∀b∈iL K,H b=ar (.tbl #[]):=λb z=>if_pos z;have J:∀b,b∉iL K->H b=if b=a/\K.lookup a=none then ar (.frz {cls:=.type "list",data:=.seq vs.toArray} (.lst (ns.map V.int)))else none:=λb z=>if_neg z;have free:∀{b:c_} {o:Obj},Z.heap.get? b=ar o->o≠vr #[]->(o.cls≠ .type "list"\/K.lookup b=ar o)->H b=none:=λ{b o} e g S=>by
  have z:b∉iL K:=λz=>by have:=X b z;rw[e]at this;exact g (JW this)
  rw[J b z,if_neg];rintro⟨rfl,kn⟩;rcases S with S|S
  ·rw[I]at e;cases e;exact S rfl
  ·rw[kn]at S;cases S
 have R:∀{b:c_} {o:Obj},K.lookup b=ar o->o≠vr #[]:=λ{b o} e z=>by have h2:=JU.mp nt (b,o) (W.mem_of_lookupK e);subst z;exact absurd (show dt=dr from h2) KI
 have E:e9 P w H Z.heap:=λb u e=>by
  by_cases z:b∈iL K
  ·rw[f b z]at e;cases e;exact X b z
  ·rw[J b z]at e;by_cases q:b=a/\K.lookup a=none
   ·rw[if_pos q]at e;cases e;obtain⟨rfl,_⟩:=q;exact⟨I,by rw[Jy];exact hl,vs,_,rv,I⟩
   ·rw[if_neg q]at e;cases e
 have Y:∀{b:c_} {o:Obj},Z.heap.get? b=ar o->o≠vr #[]->(o.cls≠ .type "list"\/K.lookup b=ar o)->(i6 Z.heap H).get? b=ar o:=λe g S=>jD e (free e g S);have N:∀{b:c_} {m:Str->Option aC},Z.heap.Ns b m->(i6 Z.heap H).Ns b m:=λ{b m} ⟨o,es,ep,e,d,r⟩=>by
  have z:H b=none:=by
   by_cases zt:b∈iL K
   ·have:=X b zt;rw[e]at this;cases this;cases d
   ·rw[J b zt,if_neg];rintro⟨rfl,_⟩;rw[I]at e;cases e;cases d
  exact⟨o,es,ep,jD e z,d,r⟩
 have a6:K.In (i6 Z.heap H):=λb o e=>Y (KX b o e) (R e) (.inr e);have hM:Mod K mg (i6 Z.heap H):=⟨a6,N l,⟨mb,N hb,a4⟩,let ⟨mc,h1,h2⟩:=C;⟨mc,N h1,h2⟩⟩;have hB:BaseL K mg (i6 Z.heap H):=by
  refine⟨?_,λy L c Q e=>?_⟩
  ·obtain⟨bm,G,b1,b2,b3,t,b5,b6⟩:=n;exact⟨bm,G,b1,b2,Y b3 (λz=>by rw[z]at t;cases t) (.inl (by rw[t];decide)),t,b5,b6⟩
  ·obtain⟨o,v2,file,tf,flags,tg,p,text,tt,e1,A,r⟩:=(U y L c Q e).1;exact⟨o,v2,file,tf,flags,tg,p,text,tt,Y e1 (λz=>by rw[z]at A;cases A) (.inl (by rw[A];decide)),A,r⟩
 have e0:L2.aB P w K mg (i6 Z.heap H) u_ [] Z H:=⟨rfl,hM,λb o e=>p8 e,Lz (kB _ _),trivial,λb hb=>absurd (show b∈([]:List c_)from hb) (by simp),E,.of_eq hg⟩;have i:TabsOk K H:=λy L c Q e=>⟨#[],f Q (xF L e),trivial,λpos cv q=>by cases q⟩;have B:Bi K H a (ns.map V.int):=by
  cases hk:K.lookup a with
  |some o=>
   have e:=KX a o hk;rw[I]at e;cases e;exact .inr ⟨_,vs.toArray,_,hk,rfl,rfl,rfl,by rw[JH,hi.length];exact hl,by simpa using rv⟩
  |none=>exact .inl ⟨_,by rw[J a aT,if_pos ⟨rfl,hk⟩]⟩
 refine Lg ((F _ hM hB).run u_ [] Z H ⟨[.ref a],[]⟩ [.ref a] [.ref a] _ _ hr e0 (O Z (.ref a)) (.cons rfl .nil) (j H i B)) λr s' h=>?_;cases r with
 |error e=>obtain⟨_,_,_,_,_,_,_,_,_,_,_,_,_,_,_,z⟩:=h;exact g_ z
 | ok fl=>
  cases fl with
  |next=>exact g_ h
  |brk=>exact g_ h
  |cont=>exact g_ h
  | ret u=>
   obtain⟨v,H',os,bare,un,T,r',q⟩:=h;have q':v= .bl true:=q;subst q';obtain rfl:u=p4 true:=r';refine⟨rfl,⟨λb o e=>?_,λb o e=>un.there b o e (by simp)⟩,os,bare⟩;by_cases zt:b∈iL K
   ·obtain⟨y,c,L,et⟩:=sH zt;obtain⟨hc,hP⟩:=U y L c b et;obtain⟨more,em⟩:=un.tbls b _ (f b zt);have o2:s'.heap.get? b=ar {cls:=.none,data:=.fields (#[]++more)}:=T b _ em;rw[hP]at e;cases e;exact .inr (.inl ⟨(hc.tab hP).isCodeTable,rfl, #[],more,rfl,o2⟩)
   ·by_cases qa:b=a/\K.lookup a=none
    ·have z1:H b=ar (.frz {cls:=.type "list",data:=.seq vs.toArray} (.lst (ns.map V.int))):=by rw[J b zt,if_pos qa]
     obtain⟨e2,_⟩:=T b _ (un.frzs b _ _ z1);obtain⟨e1,_⟩:=E b _ z1;rw[e]at e1;cases e1;exact .inl e2
    ·exact .inl (un.keep b o e (by rw[J b zt,if_neg qa]) (by intro z;exact absurd (show b∈([]:List c_)from z) (by simp)) (by simp))
theorem zV{l:Od}{YP:ey->fc->Prop}{d:OG}{K:G4->dV}{sp:ey->Sp}
  (z:l.most=ar n) (R:n<=sizeLine) (O:d.params.defaults=[]) (m:Room k u_)
  (I:∀(w:ey) (h:fc),YP w h->(K w.params).In h) (A:∀w:ey,OD (K w.params)=dr)
  (X:∀(w:ey) (h:fc),YP w h->∀y∈bI,∀c Q,k7 (K w.params) y=ar (c,Q)->Nb h c Q/\h.get? Q=ar (vr #[]))
  (F:∀(w:ey) (Z:Str->Option aC) (S:c_) (h:fc),(K w.params).In h->h.Ns fg Z->Z d.name=ar (.ref S)->
   ∃fd:f_,(∀(s:b_) (u:aC),G2 s fd ⟨[u],[]⟩ [(x,u)])/\
    ∀base:fc,Mod (K w.params) Z base->BaseL (K w.params) Z base->FnOk l.prog w (K w.params) Z base (kz l.prog w) k S fd [x] (sp w))
  (N:∀(w:ey) (H:Hp) (a:c_) (ns:List Int),ns.length<=n->TabsOk (K w.params) H->Bi (K w.params) H a (ns.map V.int)->sp w [.ref a] H (λv _=>v= .bl dr) λ_ _ _=>False):
  OO q loose XP YP l.row.toRowW d [] (λf vs=>PySem.call f vs):=by
 refine Att.attach_call z O λw s₀ J Z i S o pm cd doc a vs ns G Y ho hd t P U hints hlen r=>?_;have L:=I w _ Y;obtain⟨fd,p,E⟩:=F w Z S _ L G.T.g P;refine Cb L (A w) G.T.g G.T.b G.T.builtins G.T.nolimit r G.T.bmain (λy j c Q e=>X w _ Y y j c Q e) U hints (JG hlen R) m E p λH B C=>N w H a ns hlen B C
def GF(K:dV)(ts:List c_):Bool:=bI.all λy=>match k7 K y with
 |some (c,Q)=>W.codeHdIn K c Q && ts.contains Q
 |none=>dr
theorem IF{K:G4->dV}{e:∀P,as=(K P).map (·.1)}{w:ey}(U:GF (K w.params) ts=dr)(Y:(W.kmHook K as e ts).says w h):
  ∀y∈bI,∀c Q,k7 (K w.params) y=ar (c,Q)->Nb h c Q/\h.get? Q=ar (vr #[]):=λy Z c Q X=>by
 have:=JU.mp U y Z;rw[X]at this;simp only[h_]at this;exact⟨W.codeHd_of_K (W.km_in_of Y) this.1,W.km_tabs_of Y Q (List.contains_iff_mem.mp this.2)⟩
def Dg(K:dV):Bool:=bI.all λx=>bI.all λy=>match k7 K x,k7 K y with
 |some (_,P),ar (_,Q)=>P !=Q||x==y
 |_,_=>dr
theorem ET{K:dV}(h:Dg K=dr):qP K:=λx Z y Y c d P e1 e2=>by have:=JU.mp (JU.mp h x Z) y Y;rw[e1,e2]at this;simpa using this
def lR(N n:Nat)(m:cW):List D->M D:=pv N n (λρ=>lQ (m ρ))
section
variable {P:ee}{w:ey}{K:dV}{mg:Str->Option aC}{base:fc}
theorem bY{x qual:Str}{st:n_}{f:c_}{U:f_}{N X:List Str}{k:Nat}{m:cW}{T:List D->M D}(F:Fun K x qual st f U)(J:mg x=ar (.ref f))(Q:Binds K U X [])(S:FnScope N X (aq st))(R:T=lR N.length X.length m)
  (Y:∀(Z:aC) (A:gd) (outer:List Env) (s:b_) (H:Hp) (E:XK),Room k (A.deeper (z_ qual (aq st) s.heap.objs.size f Z))->
   rW (ji (kz P w) P w K mg base N qual (aq st) f Z A outer s H E).nox dW (cA st) m):DefX P w K mg base (k+1) x X T:=
 ⟨f,U,by rw[R];exact EM F S λZ A outer s H L O _ _=>sC (qQ (Y Z A outer s H L O)),J,F.kp,Q⟩
theorem qR{x qual:Str}{st:n_}{f:c_}{U:f_}{N X:List Str}{k:Nat}{m:cW}{T:List D->M D}(F:Fun K x qual st f U)(J:mg x=ar (.ref f))(Q:Binds K U X [])(S:FnScope N X (aq st))(R:T=pv N.length X.length m)
  (Y:∀(Z:aC) (A:gd) (outer:List Env) (s:b_) (H:Hp) (E:XK),Room k (A.deeper (z_ qual (aq st) s.heap.objs.size f Z))->
   rW (ji (kz P w) P w K mg base N qual (aq st) f Z A outer s H E) (yg K E) (cA st) m):DefX P w K mg base (k+1) x X T:=
 ⟨f,U,by rw[R];exact EM F S λZ A outer s H L O _ _=>Y Z A outer s H L O,J,F.kp,Q⟩
theorem Cc{x y qual:Str}{f c H:c_}{I:aC}{od:Option c_}{U:Array (Option aC)}{kV X N Y ct T:aC}{O:Option c_}{R:Nj}{Q:List n_}{J:Scope}(S:ra K fg x=ar (ar (.ref f)))
  (L:K.lookup f=ar ⟨I,od,.func (w_ y qual R Q J T kV X N O Y ct),U⟩) (Z:k7 K x=ar (c,H)):Y= .ref c:=by
 unfold k7 at Z;rw[S]at Z;dsimp only at Z;rw[L]at Z;dsimp only at Z;cases Y with
 | ref c2=>
  dsimp only at Z;split at Z
  ·split at Z
   ·cases Z;rfl
   ·cases Z
  ·cases Z
 |_=>cases Z
theorem EU{x qual:Str}{st:n_}{f:c_}{S:f_}{N U:List Str}{k:Nat}{m:cW}{T:List D->M D}{c C:c_}(F:Fun K x qual st f S)(Q:FnScope N U (aq st))(O:T=lR N.length U.length m)(R:ra K fg x=ar (ar (.ref f)))(G:k7 K x=ar (c,C))
  (Z:∀(A:gd) (outer:List Env) (s:b_) (H:Hp) (E:XK),Room k (A.deeper (z_ qual (aq st) s.heap.objs.size f (.ref c)))->
   rW (ji (kz P w) P w K mg base N qual (aq st) f (.ref c) A outer s H E).nox dW (cA st) m):FnOk P w K mg base (kz P w) (k+1) f S U (zO K T):=by
 rw[O];refine EM F Q λX A outer s H z B _ Y=>?_;obtain⟨y,od,J,kV,doc,pm,an,ct,L⟩:=Y;have I:X= .ref c:=Cc R L G;subst I;exact sC (qQ (Z A outer s H z B))
theorem EV{x qual:Str}{st:n_}{f:c_}{z:f_}{N Z:List Str}{k k0:Nat}{m:D->M D->cW}{R:D->M D->List D->M D}(F:Fun K x qual st f z)(i:mg x=ar (.ref f))(n:Binds K z Z [])(q:FnScope N Z (aq st))(v:R=λJ c es=>pv N.length Z.length (m J c) (J::es))
  (U:∀(base:fc),Mod K mg base->∀(a X:c_) (ql:Str) (ds:List D) (vs:List V) (T:TM),LamOk P w K mg base k0 a (GD K X ql ds vs T)->∀(Y:aC) (A:gd) (outer:List Env) (s:b_) (H:Hp) (E:XK),Room k (A.deeper (z_ qual (aq st) s.heap.objs.size f Y))->
   rW (ji (kz P w) P w K mg base N qual (aq st) f Y A outer s H E).nox dW (cA st) (m (.fn a X ql ds vs) (T (ds.map ar)))):RefX P w K mg (k+1) k0 x Z R:=by
 refine⟨f,z,i,F.kp,n,λbase G a X ql ds vs T L=>?_⟩;rw[v];obtain⟨e,od,kV,doc,pm,an,Y,ct,l,rfl,u,B⟩:=F.ex;have key:∀{us:List V} {H:Hp} {Q:VK} {I:XK},zU K (λJ c es=>pv N.length Z.length (m J c) (J::es)) a X ql ds vs T us H Q I->us.length=Z.length/\∃ ι S es,Rep K ι H S/\RelDs K ι H es us/\cont K dW (do let o<-m (.fn a X ql ds vs) (T (ds.map ar)) (es.map ar++j1 (N.length - Z.length) none);outD o) ι S H (jQ K Q):=by
  rintro us H Q I ⟨ι,S,rest,es,rfl,rep,hc',rds,res,c⟩;have y:RelDs K ι H (.fn a X ql ds vs::es) (.ref a::rest):=.cons (.fn hc' rds) res;unfold pv at c;dsimp only at c;by_cases O:(D.fn a X ql ds vs::es).length=Z.length
  ·rw[if_pos O]at c;exact⟨by rw[<-y.length];exact O,ι,S,_,rep,y,c⟩
  ·rw[if_neg O]at c;exact(af c).elim
 refine CZ u B q (λus H Q I h=>(key h).1) λA outer s H us Q I j h=>⟨_,qQ (U base G a X ql ds vs T L Y A outer s H I j),?_⟩;obtain⟨O,ι,S,es,rep,r,c⟩:=key h;refine⟨ι,S,_,rep,?_,aj (ai c) λo t S1 g e1 rep1 C=>?_⟩
 ·have:=RelE.start r (N.length - Z.length);unfold L2.start;rw[O];exact this
 ·cases o with
  |nx ρ=>exact λp _=>ah C .refl rep1 _ .non
  |ret d=>exact ah C .refl rep1
  |bk ρ=>exact(af C).elim
  |ct ρ=>exact(af C).elim
end
end S7
section
namespace S4
open PySem PySem.Spec PyProof.Rows
section
variable {prog:ee}{w:ey}{A:gd}{E:aC->b_->Prop}{s:b_}
end
end S4
namespace S3
open PySem PySem.Spec PyProof.Rows L2 S4
section
variable {X:Cx}{E:XD}{e:Expr}{m:TM}{pos:Pos}
end
end S3
end
namespace S4
open PySem PySem.Spec PyProof.Rows L2 S3
def Cd(l1 l2:c_):It:=⟨λi H=>∃va vb,Rd H l1 (.lst va)/\Rd H l2 (.lst vb)/\i<va.length/\i<vb.length,
 λi H x H'=>∃va vb p u v,Rd H l1 (.lst va)/\Rd H l2 (.lst vb)/\H p=none/\va[i]? =ar u/\vb[i]? =ar v/\x= .ref p/\H'=upd H p (.tup [u,v]),λi H=>∃va vb,Rd H l1 (.lst va)/\Rd H l2 (.lst vb)/\(va.length<=i\/vb.length<=i)⟩
theorem xG{P:ee}{w:ey}{K:dV}{A:List Expr}{x1}{tp:Pos}{z TI TO Q O l1 l2:c_}(D:N_ z TI TO Q O l1 l2):
  Turn P w K (.Tuple A x1 tp) (Cd l1 l2) [z,TI,TO,Q,O] z
   (λi h=>K' h z TI TO .none/\m2 h TI (.ref Q) (.ref O)/\(∃a b,m2 h TO a b)/\h.IsListIter Q l1 i/\h.IsListIter O l2 i) where
 mem:=by simp
 obj:=λi h st b Y=>by
  obtain⟨R,Z,⟨a,c,U⟩,⟨o1,e1,c1,d1⟩,⟨o2,e2,c2,d2⟩⟩:=st;simp only[gc,fb,or_false]at Y;rcases Y with rfl|rfl|rfl|rfl|rfl
  ·exact⟨_,R,λv z=>by cases z⟩
  ·exact⟨_,Z,λv z=>by cases z⟩
  ·exact⟨_,U,λv z=>by cases z⟩
  ·exact⟨_,e1,λv z=>by rw[d1]at z;cases z⟩
  ·exact⟨_,e2,λv z=>by rw[d2]at z;cases z⟩
 keep:=λi h h' st k=>by obtain⟨R,Z,⟨a,c,U⟩,G,J⟩:=st;exact⟨k z (by simp) _ R,k TI (by simp) _ Z,⟨a,c,k TO (by simp) _ U⟩,G.at λo e=>k Q (by simp) o e,J.at λo e=>k O (by simp) o e⟩
 item:=by
  intro X l hw hK hc i pins s σ H E I hf st hg;subst l hw hK;obtain⟨R,Z,⟨a,c,U⟩,G,J⟩:=st;obtain⟨n,q,p,t,ga,gb⟩:=hg;obtain⟨B,N,p1,_⟩:=I.list (.inl p);obtain⟨C,L,m,_⟩:=I.list (.inl t);obtain⟨u1,c4,c5⟩:=N.get (JB ga);obtain⟨f,j,b6⟩:=L.get (JB gb);refine wpAny_pyNext_zip_item D R Z U G J p1.isList m.isList (x:=u1) (y:=f) (by simpa using c4) (by simpa using j) λh' a1 a2 a3 a4 a5 a6 r=>?_;have b2:H s.heap.objs.size=none:=I.hok.fresh (Jw _);have lt:∀{c o},s.heap.get? c=ar o->s.heap.objs.size≠c:=λe=>KU (JC e);refine⟨_,rfl,MF a1 λS d T=>?_⟩;have F:m2 S TI (.ref Q) (.ref O):=T.extBut _ _ D.TIz (r _ _ D.TIz D.TITO D.TIi1 D.TIi2 Z);have kk:∀b o,b∉[z,TI,TO,Q,O]->s.heap.get? b=ar o->S.get? b=ar o:=λb o Y e=>by simp only[gc,fb,or_false,not_or]at Y;exact T.extBut _ _ Y.1 (r b o Y.1 Y.2.2.1 Y.2.2.2.1 Y.2.2.2.2 e)
  have u:m2 S s.heap.objs.size u1 f:=T.extBut _ _ (lt R) a5;have I2:L2.Inv X pins σ (upd H s.heap.objs.size (.tup [n[i],q[i]])) {s with heap:=S,toks:=s.toks}:=vL (o:=.tup [n[i],q[i]]) I hf kk (Jw _) ⟨⟨by show 2<=sizeLine;decide,_,u,rfl⟩,[u1,f],.cons c5 (.cons b6 .nil),_,u,rfl,_,rfl⟩;refine⟨.ref s.heap.objs.size,_,I2,rfl,
   ⟨n,q,_,_,_,p,t,b2,JB ga,JB gb,rfl,rfl⟩,⟨d,F,⟨_,_,T.extBut _ _ D.TOz a2⟩,a3.at λo e=>T.extBut _ _ D.i1z e,a4.at λo e=>T.extBut _ _ D.i2z e⟩,λb Y=>?_⟩
  obtain⟨ob,ho,_⟩:∃ob,s.heap.get? b=ar ob/\True:=by
   simp only[gc,fb,or_false]at Y;rcases Y with rfl|rfl|rfl|rfl|rfl
   ·exact⟨_,R,trivial⟩
   ·exact⟨_,Z,trivial⟩
   ·exact⟨_,U,trivial⟩
   ·obtain⟨o,e,_⟩:=G;exact⟨_,e,trivial⟩
   ·obtain⟨o,e,_⟩:=J;exact⟨_,e,trivial⟩
  rw[aG (JK (JC ho))];exact(hf b Y).1
 done:=by intro X l hw hK hc i pins s σ H E I hf st hg;subst l hw hK;obtain⟨R,Z,⟨a,c,U⟩,G,J⟩:=st;obtain⟨n,q,p,t,gs⟩:=hg;obtain⟨B,N,p1,_⟩:=I.list (.inl p);obtain⟨C,L,m,_⟩:=I.list (.inl t);have e6:=N.length;have e3:=L.length;refine wpAny_pyNext_zip_end (I.ok.hd hc) D R Z U G J p1.isList m.isList (gs.imp (λg=>by simp;omega) λg=>by simp;omega) λh' r=>⟨rfl,vK (t':=s.toks) I hf λb o Y e=>?_⟩;simp only[gc,fb,or_false,not_or]at Y;exact r b o Y.1 Y.2.2.1 Y.2.2.2.1 Y.2.2.2.2 e
 self:=λ_ _ _ _ _ st h=>Md st.1 h
theorem Ce{X:Cx}{J:List Expr}{x1}{tp p pos:Pos}{es:List Expr}{e:Expr}{z:TA}(w:Gl X "zip")(v:X.mg "zip"=none)(y:PA X (e::es) z)
  (x:d_ (e::es) X.env=(dt,f' e X.env)::d_ es X.env:=by rfl) (E:(p_ pos (d_ es X.env)).any (·.1)=false:=by rfl):
  PI X (.Tuple J x1 tp) (.Call (.Name "zip" p) (e::es) [] pos) (λσ H R=>z σ H λxs Z=>(∃a b va vb,xs=[.ref a,.ref b]/\Rd Z a (.lst va)/\Rd Z b (.lst vb)/\R (Cd a b) Z)\/
   (∃a b va vb,xs=[.ref a,.ref b]/\Z a=ar (.tup va)/\Z b=ar (.tup vb)/\
   R ⟨λi H=>(yf va vb).go i H/\(H a=ar (.tup va)/\H b=ar (.tup vb)),(yf va vb).yld,λi H=>(yf va vb).stop i H/\(H a=ar (.tup va)/\H b=ar (.tup vb))⟩ Z)):=by
 intro pins s σ H R I h;refine Call_ (kC I w v (show j3 "zip"=ar (.type "zip") by decide+kernel) (KP (cO (y pos pins s σ H _ I h) λus s1 ⟨vs,Z,I1,r1,q1⟩=>?_) x E) (by decide) (by decide));have fresh:∀c∈[s1.heap.objs.size+4,s1.heap.objs.size+2,s1.heap.objs.size+3,s1.heap.objs.size,s1.heap.objs.size+1],s1.heap.objs.size<=c:=λc U=>by simp only[gc,fb,or_false]at U;omega
 rcases q1 with⟨a,b,va,vb,rfl,hA,hB,q⟩|⟨a,b,va,vb,rfl,hA,hB,q⟩
 ·obtain⟨u,F,rfl,A,Y⟩:=vals2 r1;cases (show u=eg a from A);cases (show F=eg b from Y);obtain⟨K,C,N,_⟩:=I1.list (.inl hA);obtain⟨L,B,P,_⟩:=I1.list (.inl hB);have a1:a<s1.heap.objs.size:=by obtain⟨_,e,_⟩:=N.isList;exact JC e
  have a2:b<s1.heap.objs.size:=by obtain⟨_,e,_⟩:=P.isList;exact JC e
  refine call_zip_2 N.isList P.isList λh' O T Q S W _ G=>Md O ?_;exact⟨s1.heap.objs.size+4,_,_,_,Z,rfl,I1.kept (t':=s1.toks) G,xG (zipApart_new a1 a2),⟨O,T,⟨_,_,Q⟩,S,W⟩,λc U=>I1.fpOk (fresh c U) (I1.hok.fresh (fresh c U)),q⟩
 ·obtain⟨u,F,rfl,A,Y⟩:=vals2 r1;cases (show u=eg a from A);cases (show F=eg b from Y);obtain⟨K,C,N,_⟩:=I1.tuple (.of hA);obtain⟨L,B,P,_⟩:=I1.tuple (.of hB);have a1:a<s1.heap.objs.size:=by obtain⟨_,e,_⟩:=N;exact JC e
  have a2:b<s1.heap.objs.size:=by obtain⟨_,e,_⟩:=P;exact JC e
  refine xx N P λh' O T Q S W G=>Md O ?_;exact⟨s1.heap.objs.size+4,_,_,_,Z,rfl,I1.kept (t':=s1.toks) G,zG (zipApart_new a1 a2) (λH=>H a=ar (.tup va)/\H b=ar (.tup vb)) (λ_=>.rfl),⟨O,T,⟨_,_,Q⟩,S,W⟩,λc U=>I1.fpOk (fresh c U) (I1.hok.fresh (fresh c U)),q⟩
theorem Rd.lst_inj(h:Rd H a (.lst xs))(h':Rd H a (.lst ys)):xs=ys:=by rcases h with h|⟨o,h⟩<;>rcases h' with h'|⟨o',h'⟩<;>(rw[h]at h';cases h'<;>rfl)
def zL:D->M (List D×Option (Nat×List D))
 | .lst k=>do let xs<-getL k;a_ (xs,ar (k,xs))
 | .fz xs=>a_ (xs,none)
 |_=>M.fail
def EX:Option (Nat×List D)->Option (Nat×List D)->Chk
 |some (k,xs),ar (j,ys)=>.two k j xs ys
 |some (k,xs),none=>.two k k xs xs
 |none,ar (j,ys)=>.two j j ys ys
 |none,none=>.none
def zW:List D->M Iter
 |[.tup xs,.tup ys]=>a_ ⟨(xs.zip ys).map λp=>.tup [p.1,p.2],.none⟩
 |[a,b]=>do let x<-zL a;let y<-zL b;a_ ⟨(x.1.zip y.1).map λp=>.tup [p.1,p.2],EX x.2 y.2⟩
 |_=>M.fail
structure ZOk(K:dV)(x:List D×Option (Nat×List D))(a:c_)(ι:List c_)(H:Hp):Prop where
 ok:∀ ι2 H2 S2,ExtN ι H ι2 H2->Rep K ι2 H2 S2->(∀k xs,x.2=ar (k,xs)->S2[k]? =ar xs)->∃va,Rd H2 a (.lst va)/\RelDs K ι2 H2 x.1 va
theorem zX{K:dV}{E:XD}{ι:List c_}{S:aw}{H:Hp}{d:D}{v:V}{R:Type}{f:List D×Option (Nat×List D)->M R}{Q:R->List c_->aw->Hp->Prop}(Z:Rep K ι H S)(r:RelD K ι H d v)(c:cont K E (zL d>>=f) ι S H Q):
  ∃a x X,v= .ref a/\Rd H a (.lst X)/\ZOk K x a ι H/\cont K E (f x) ι S H Q:=by
 cases d with
 | lst k=>
  obtain⟨a,rfl,Y⟩:=r.lst_inv;have I:cont K E (getL k>>=λxs=>a_ (xs,ar (k,xs))>>=f) ι S H Q:=by rw[<-fw];exact c
  obtain⟨xs,vs,G,O,P,T⟩:=a7 I Z Y;rw[ak]at T;refine⟨a,(xs,ar (k,xs)),vs,rfl,.inl O,⟨λU J S2 e rep2 ok=>?_⟩,T⟩;obtain⟨X,N,L⟩:=rep2.get k a xs (e.at Y) (ok k xs rfl);exact⟨X,.inl N,L⟩
 |fz xs=>
  obtain⟨a,o,vs,rfl,Y,P⟩:=r.fz_inv;refine⟨a,(xs,none),vs,rfl,.inr ⟨o,Y⟩,⟨λU J S2 e rep2 ok=>?_⟩,ah (ai c) .refl Z⟩;exact⟨vs,.inr ⟨o,(e.oth _ _ Y (Z.notIn Y (by intro _ z;cases z)) (by intro _ z;cases z) (by intro _ z;cases z)).1⟩,P.laterN Z e⟩
 |_=>exact(af (ai c)).elim
theorem Cf(h:Iter.okS ⟨items,EX x y⟩ S):(∀k xs,x=ar (k,xs)->S[k]? =ar xs)/\∀k xs,y=ar (k,xs)->S[k]? =ar xs:=by
 match x,y,h with
 |some (k,xs),ar (j,ys),h=>exact⟨λ_ _ e=>(by cases e;exact h.1),λ_ _ e=>(by cases e;exact h.2)⟩
 |some (k,xs),none,h=>exact⟨λ_ _ e=>(by cases e;exact h.1),λ_ _ e=>(by cases e)⟩
 |none,ar (j,ys),h=>exact⟨λ_ _ e=>(by cases e),λ_ _ e=>(by cases e;exact h.1)⟩
 |none,none,h=>exact⟨λ_ _ e=>(by cases e),λ_ _ e=>(by cases e)⟩
theorem sI{K:dV}{ι:List c_}{H:Hp}{a b:c_}{x y:List D×Option (Nat×List D)}(F:ZOk K x a ι H)(C:ZOk K y b ι H):
  gf K ⟨(x.1.zip y.1).map λp=>.tup [p.1,p.2],EX x.2 y.2⟩ (Cd a b) ι H:=by
 intro Z S S2 e rep2 ok i;obtain⟨P,Q⟩:=Cf ok;obtain⟨N,Y,T⟩:=F.ok Z S S2 e rep2 P;obtain⟨J,X,U⟩:=C.ok Z S S2 e rep2 Q;have r:=T.length;have B:=U.length;refine⟨λd hd=>?_,λhlen=>?_⟩
 ·obtain⟨q,s,L,O,rfl⟩:=zip_get hd;have w:=(Jz.mp L).1;have t:=(Jz.mp O).1;refine⟨⟨N,J,Y,X,by omega,by omega⟩,?_⟩;rintro v H3 ⟨va',vb',p,u,I,gA,gB,hp,g1,g2,rfl,rfl⟩;cases Rd.lst_inj Y gA;cases Rd.lst_inj X gB;obtain⟨v1,e1,E⟩:=T.get' L;obtain⟨v2,e2,G⟩:=U.get' O;obtain rfl:v1=u:=JW (e1.symm.trans g1);obtain rfl:v2=I:=JW (e2.symm.trans g2);have R:Ext Z S Z (upd S p (.tup [v1,v2])):=eh hp;exact⟨R,fP rep2 hp,.tup aU (.cons (E.later rep2 R) (.cons (G.later rep2 R) .nil))⟩
 ·have A:min x.1.length y.1.length<=i:=by simpa using hlen
  refine⟨N,J,Y,X,?_⟩;rcases Nat.le_total x.1.length y.1.length with z|z
  ·exact .inl (by omega)
  ·exact .inr (by omega)
theorem vT{X:Cx}{x1}(k:X.mg "zip"=none)(w:SE X E a m)(o:SE X E b n)(q:Gl X "zip":=by rfl)
  (hs:d_ [a,b] X.env=[(dt,f' a X.env),(dt,f' b X.env)]:=by rfl) (W:d_ [b] X.env=[(dt,f' b X.env)]:=by rfl):
  SI X E (.Tuple elts x1 tp) (.Call (.Name "zip" p) [a,b] [] pos) (λρ=>do let ds<-(do let x<-m ρ;let xs<-(do let y<-n ρ;let ys<-a_ [];a_ (y::ys));a_ (x::xs));zW ds):=by
 intro pins s σ H R I h;have L:PI X (.Tuple elts x1 tp) (.Call (.Name "zip" p) [a,b] [] pos) (λσ H R=>Ip X.K E (aa m (aa n au)) σ H λxs U=>(∃a b Z Y,xs=[.ref a,.ref b]/\Rd U a (.lst Z)/\Rd U b (.lst Y)/\R (Cd a b) U)\/
   (∃a b Z Y,xs=[.ref a,.ref b]/\U a=ar (.tup Z)/\U b=ar (.tup Y)/\
   R ⟨λi H=>(yf Z Y).go i H/\(H a=ar (.tup Z)/\H b=ar (.tup Y)),(yf Z Y).yld,λi H=>(yf Z Y).stop i H/\(H a=ar (.tup Z)/\H b=ar (.tup Y))⟩ U)):=
  Ce q k (ag w (ag o ao (by rw[W];rfl)) (by rw[hs,W])) (by rw[hs,W]) (by rw[W];rfl)
 refine L pins s σ H R I ?_;obtain⟨ι,S,ρ,rep,re,c⟩:=h;refine⟨ι,S,ρ,rep,re,aj (ai c) λds z S1 U e1 rep1 T vs r=>?_⟩;unfold zW at T;split at T
 ·next xs ys=>
  obtain⟨v1,ws,rfl,C,J⟩:=r.cons_inv;obtain⟨v2,B,rfl,G,N⟩:=J.cons_inv;cases N.nil_inv;obtain⟨F,Z,rfl,P,v⟩:=C.tup_inv;obtain⟨O,Y,rfl,Q,A⟩:=G.tup_inv;exact .inr ⟨F,O,Z,Y,rfl,P,Q,ah T .refl rep1 _ (uy rep1 P Q v A)⟩
 ·next a b _=>
  obtain⟨v1,ws,rfl,C,J⟩:=r.cons_inv;obtain⟨v2,B,rfl,G,N⟩:=J.cons_inv;cases N.nil_inv;obtain⟨F,x,Z,rfl,P,u,t⟩:=zX rep1 C T;obtain⟨O,y,Y,rfl,Q,l,j⟩:=zX rep1 G t;exact .inl ⟨F,O,Z,Y,rfl,P,Q,ah j .refl rep1 _ (sI u l)⟩
 ·exact(af T).elim
abbrev sJ(m n:TM):aB->M Iter:=λρ=>do let ds<-aa m (aa n au) ρ;zW ds
end S4
namespace S3
open PySem PySem.Spec PyProof.Rows L2 S4
def kP(f:Expr->Option D):List Expr->Option (List D)
 |[]=>ar []
 |e::es=>match f e,kP f es with
  |some d,ar ds=>ar (d::ds)
  |_,_=>none
def litE:Nat->Expr->Option D
 |_,.Constant .none _ _=>ar .non
 |_,.Constant (.bool b) _ _=>ar (.bl b)
 |_,.Constant (.int i) _ _=>ar (.int i)
 |_,.Constant (.str x) _ _=>ar (.str x)
 |_,.UnaryOp .USub (.Constant (.int i) _ _) _=>ar (.int (-i))
 |n+1,.Tuple es _ _=>match kP (litE n) es with
  |some ds=>if ds.length<=100 then ar (.tup ds)else none
  |none=>none
 |_,_=>none
section
variable {X:Cx}{E:XD}
theorem SE.mono{m Z:TM}(h:SE X E e m)(k:∀ ρ S r,Z ρ S=ar r->m ρ S=ar r):SE X E e Z:=PE.imp h λσ H Q q=>by obtain⟨ι,S,ρ,rep,re,r,Y,e,c⟩:=q;exact⟨ι,S,ρ,rep,re,r,Y,k ρ S _ e,c⟩
theorem zY(h:litE n e=ar d)(es:List Expr)(env:Env):d_ (e::es) env=(dt,f' e env)::d_ es env:=by
 cases e with
 |Constant c j p=>exact av
 |UnaryOp o a p=>exact uA
 |Tuple l k p=>exact bf
 |_=>cases n<;>cases h
theorem vU(Z:∀e d,litE n e=ar d->SE X E e (mK d)):∀{es:List Expr} {ds:List D},kP (litE n) es=ar ds->SA X E es (λ_=>a_ ds)
 |[],ds,h=>by cases h;exact ao
 | e::es,ds,h=>by
  unfold kP at h;cases q:litE n e with
  |none=>rw[q]at h;cases h
  | some d=>
   rw[q]at h;cases q2:kP (litE n) es with
   |none=>rw[q2]at h;cases h
   |some ds'=>
    rw[q2]at h;cases h;exact ag (Z e d q) (vU Z q2) (zY q _ _)
theorem EY:∀(n:Nat) (e:Expr) (d:D),litE n e=ar d->SE X E e (mK d):=by
 intro n
 induction n with
 |zero=>
  intro e d h;unfold litE at h;split at h
  ·cases h;exact jj
  ·cases h;exact iz
  ·cases h;exact ay
  ·cases h;exact cJ
  ·cases h;exact zH
  ·next h'=>exact absurd h' (by omega)
  ·cases h
 | succ n ih=>
  intro e d h;unfold litE at h;split at h
  ·cases h;exact jj
  ·cases h;exact iz
  ·cases h;exact ay
  ·cases h;exact cJ
  ·cases h;exact zH
  ·next m es k p hm=>
   cases hm;cases q:kP (litE n) es with
   |none=>rw[q]at h;cases h
   | some ds=>
    rw[q]at h;simp only at h;split at h
    ·next hl=>
     cases h;refine(f9 (vU ih q)).mono λρ S r Z=>?_;have e:(do let ds'<-(a_ ds:M (List D));cq ds')=(a_ (.tup ds):M D):=by show cq ds=_;unfold cq;rw[if_pos (by unfold lim;omega)]
     rw[e];exact Z
    ·cases h
  ·cases h
theorem cb(n:Nat)(h:litE n e=ar d):SE X E e (mK d):=EY n e d h
end
def aJ(m:TM)(ms:B2):B2:=aa m ms
section
variable {X:Cx}{E:XD}
theorem aK(Y:SE X E e m)(Z:SA X E es ms)(hs:d_ (e::es) X.env=(dt,f' e X.env)::d_ es X.env):SA X E (e::es) (aJ m ms):=ag Y Z hs
theorem i3{l p t n}:kT (.List l p) t n env=a_ false:=rfl
theorem zZ{l k p t n}:kT (.Tuple l k p) t n env=a_ false:=rfl
theorem dh{a o b p t n}:kT (.BinOp a o b p) t n env=a_ false:=rfl
theorem fj{f l k p t n}:kT (.Call f l k p) t n env=a_ false:=rfl
theorem sL{a b p t n}:kT (.Constant a b p) t n env=a_ false:=rfl
end
end S3
namespace S7
open PySem PySem.Spec PyProof.Rows L2 S3
theorem kd{a b p}:d_ (.Attribute a b p::es) env=(dt,f' (.Attribute a b p) env)::d_ es env:=rfl
abbrev FG(m:TM):TM:=λρ=>lQ (m ρ)
abbrev GG:TM:=λ_=>M.fail
abbrev cf(m:TM)(y:Str):TM:=λρ=>do let x<-m ρ;sD (λn=>bO n y) x
abbrev z5(m:TM):TM:=λρ=>do let x<-m ρ;sD (λ_=>dr) x
abbrev uH(x:Str)(ms:aB->M (List D)):cW:=λρ=>do let ds<-ms ρ;if ds.length<=lim then M.raise (.exc x [])else M.fail
end S7
namespace S3
open PySem PySem.Spec PyProof.Rows L2
mutual
def eA(n:Nat):D->Bool
 | .lst k=>decide (k<n)
 | .tup ds=>bU n ds
 | .ro ds=>bU n ds
 | .fz ds=>bU n ds
 | .fn _ _ _ ds _=>bU n ds
 | .exc _ ds=>bU n ds
 | .non=>dr
 | .bl _=>dr
 | .int _=>dr
 | .str _=>dr
 | .emp=>dr
def bU(n:Nat):List D->Bool
 |[]=>dr
 |d::ds=>eA n d && bU n ds
end
mutual
def gj(n:Nat)(g:Nat->Option (List D)):D->Option D
 | .lst k=>if k<n then ar (.lst k)else (g k).map .fz
 | .tup ds=>(eP n g ds).map .tup
 | .ro ds=>(eP n g ds).map .ro
 | .fz ds=>(eP n g ds).map .fz
 | .fn a c q ds vs=>(eP n g ds).map λes=>.fn a c q es vs
 | .exc x ds=>(eP n g ds).map λes=>.exc x es
 | .non=>ar .non
 | .bl b=>ar (.bl b)
 | .int i=>ar (.int i)
 | .str x=>ar (.str x)
 | .emp=>ar .emp
def eP(n:Nat)(g:Nat->Option (List D)):List D->Option (List D)
 |[]=>ar []
 |d::ds=>match gj n g d,eP n g ds with
  |some u,ar us=>ar (u::us)
  |_,_=>none
end
def tN(S:aw)(n:Nat):Nat->Nat->Option (List D)
 |0,_=>none
 |f+1,k=>(S[k]?).bind λxs=>eP n (tN S n f) xs
def lD(S S':aw):Prop:=∀k xs,k<S.length->S'[k]? =ar xs->S[k]? =ar xs\/bU S.length xs=dr
open Classical in
def gY(m:M D):M D:=λS=>match m S with
 | some (.ok d,S')=>if S'.length<=S.length then ar (.ok d,S')else
   if lD S S' then (match gj S.length (tN S' S.length 60) d with
    |some u=>ar (.ok u,S'.take S.length)
    |none=>none)else none
 |r=>r
abbrev aP(m:TM):TM:=λρ=>gY (m ρ)
section
variable {K:dV}{ι ι':List c_}{H H':Hp}{S S':aw}
mutual
theorem RelD.cl:∀{d:D} {v:V},RelD K ι H d v->eA ι.length d=dr
 |_,_,.non=>rfl
 |_,_,.bl b=>rfl
 |_,_,.int i=>rfl
 |_,_,.str x=>rfl
 |_,_,.tup h hs=>by unfold eA;exact RelDs.cl hs
 |_,_,.lst h=>by unfold eA;exact JM (Jz.mp h).1
 |_,_,.ro h hs=>by unfold eA;exact RelDs.cl hs
 |_,_,.emp h=>rfl
 |_,_,.fn h hs=>by unfold eA;exact RelDs.cl hs
 |_,_,.exc n h=>rfl
 |_,_,.excF n h h2 hn hs=>by unfold eA;exact RelDs.cl hs
 |_,_,.fz h hs=>by unfold eA;exact RelDs.cl hs
theorem RelDs.cl:∀{ds:List D} {vs:List V},RelDs K ι H ds vs->bU ι.length ds=dr
 |_,_,.nil=>rfl
 |_,_,.cons h hs=>by unfold bU;rw[RelD.cl h,RelDs.cl hs];rfl
end
def lE(P:List c_)(os:c_->Obj)(H:Hp):Hp:=λb=>match H b with
 |some (.lst vs)=>if b∈P then ar (.frz (os b) (.lst vs))else ar (.lst vs)
 |x=>x
theorem z6{P:List c_}{os:c_->Obj}{b:c_}(h:H b=none):lE P os H b=none:=by unfold lE;rw[h]
theorem bx{P:List c_}{os:c_->Obj}{b:c_}{o:HO}(h:H b=ar o)(Z:∀vs,o≠ .lst vs):lE P os H b=ar o:=by
 unfold lE;rw[h];cases o with
 |lst vs=>exact absurd rfl (Z vs)
 |_=>rfl
theorem vV{P:List c_}{os:c_->Obj}{b:c_}(h:b∉P):lE P os H b=H b:=by
 unfold lE;split
 ·next q=>rw[if_neg h,q]
 ·rfl
theorem EZ{os:c_->Obj}(h:b∈P)(e:H b=ar (.lst vs)):lE P os H b=ar (.frz (os b) (.lst vs)):=by unfold lE;rw[e];exact if_pos h
theorem sM(Y:ι.Nodup)(h:ι[k]? =ar a):a∈ι.drop n↔n<=k:=by
 constructor
 ·intro hm;obtain⟨j,Z⟩:=Li.mp hm;rw[Mx]at Z;have:=mQ Y h Z;omega
 ·intro X;refine Li.mpr ⟨k - n,?_⟩;rw[Mx,show n+(k - n)=k by omega];exact h
mutual
theorem RelD.down{n:Nat}{os:c_->Obj}:∀{d:D} {v:V},RelD K ι H d v->eA n d=dr->RelD K (ι.take n) (lE (ι.drop n) os H) d v
 |_,_,.non,_=>.non
 |_,_,.bl b,_=>.bl b
 |_,_,.int i,_=>.int i
 |_,_,.str x,_=>.str x
 |_,_,.tup h hs,c=>.tup (bx h (by intro _ z;cases z)) (RelDs.down hs (by unfold eA at c;exact c))
 |_,_,.lst h,c=>.lst (by unfold eA at c;rw[LJ,if_pos (Kl c)];exact h)
 |_,_,.ro h hs,c=>.ro (h.imp (λ⟨o,h⟩=>⟨o,bx h (by intro _ z;cases z)⟩) λz=>z) (RelDs.down hs (by unfold eA at c;exact c))
 |_,_,.emp h,_=>.emp (bx h (by intro _ z;cases z))
 |_,_,.fn h hs,c=>.fn (bx h (by intro _ z;cases z)) (RelDs.down hs (by unfold eA at c;exact c))
 |_,_,.exc n h,_=>.exc n (bx h (by intro _ z;cases z))
 |_,_,.excF n h h2 hn hs,c=>.excF n (bx h (by intro _ z;cases z)) (bx h2 (by intro _ z;cases z)) hn (RelDs.down hs (by unfold eA at c;exact c))
 |_,_,.fz h hs,c=>.fz (bx h (by intro _ z;cases z)) (RelDs.down hs (by unfold eA at c;exact c))
theorem RelDs.down{n:Nat}{os:c_->Obj}:∀{ds:List D} {vs:List V},RelDs K ι H ds vs->bU n ds=dr->RelDs K (ι.take n) (lE (ι.drop n) os H) ds vs
 |_,_,.nil,_=>.nil
 |_,_,.cons h hs,c=>by
  unfold bU at c;rw[Kq]at c;exact .cons (RelD.down h c.1) (RelDs.down hs c.2)
end
theorem gZ{Z Y:Type}{f:Z->Y}{o:Option Z}{b:Y}(h:o.map f=ar b):∃a,o=ar a/\f a=b:=by
 cases o with
 |none=>cases h
 |some a=>exact⟨a,rfl,JW h⟩
theorem z7(h:eP n g (d::ds)=ar us):∃u us',us=u::us'/\gj n g d=ar u/\eP n g ds=ar us':=by
 unfold eP at h;split at h
 ·next u us' e1 e2=>cases h;exact⟨u,us',rfl,e1,e2⟩
 ·cases h
mutual
theorem uI{n:Nat}{os:c_->Obj}{g:Nat->Option (List D)}(Y:∀k us a,n<=k->g k=ar us->ι[k]? =ar a->∃vs,H a=ar (.lst vs)/\RelDs K (ι.take n) (lE (ι.drop n) os H) us vs)(Z:ι.Nodup):
  ∀{d:D} {v:V},RelD K ι H d v->∀{u:D},gj n g d=ar u->RelD K (ι.take n) (lE (ι.drop n) os H) u v
 |_,_,.non,u,e=>by unfold gj at e;cases e;exact .non
 |_,_,.bl b,u,e=>by unfold gj at e;cases e;exact .bl b
 |_,_,.int i,u,e=>by unfold gj at e;cases e;exact .int i
 |_,_,.str x,u,e=>by unfold gj at e;cases e;exact .str x
 |_,_,.tup h hs,u,e=>by
  unfold gj at e;obtain⟨es,e1,rfl⟩:=gZ e;exact .tup (bx h (by intro _ z;cases z)) (g0 Y Z hs e1)
 | _,_,@RelD.lst _ _ _ a k h,u,e=>by
  unfold gj at e;by_cases hk:k<n
  ·rw[if_pos hk]at e;cases e;exact .lst (by rw[LJ,if_pos hk];exact h)
  ·rw[if_neg hk]at e;obtain⟨us,e1,rfl⟩:=gZ e;obtain⟨vs,U,X⟩:=Y k us a (by omega) e1 h;exact .fz (EZ ((sM Z h).mpr (by omega)) U) X
 |_,_,.ro h hs,u,e=>by
  unfold gj at e;obtain⟨es,e1,rfl⟩:=gZ e;exact .ro (h.imp (λ⟨o,h⟩=>⟨o,bx h (by intro _ z;cases z)⟩) λz=>z) (g0 Y Z hs e1)
 |_,_,.emp h,u,e=>by unfold gj at e;cases e;exact .emp (bx h (by intro _ z;cases z))
 |_,_,.fn h hs,u,e=>by
  unfold gj at e;obtain⟨es,e1,rfl⟩:=gZ e;exact .fn (bx h (by intro _ z;cases z)) (g0 Y Z hs e1)
 |_,_,.exc x h,u,e=>by
  unfold gj at e;obtain⟨es,e1,rfl⟩:=gZ e;unfold eP at e1;cases e1;exact .exc x (bx h (by intro _ z;cases z))
 |_,_,.excF x h X hn hs,u,e=>by
  unfold gj at e;obtain⟨es,e1,rfl⟩:=gZ e;exact .excF x (bx h (by intro _ z;cases z)) (bx X (by intro _ z;cases z)) hn (g0 Y Z hs e1)
 |_,_,.fz h hs,u,e=>by
  unfold gj at e;obtain⟨es,e1,rfl⟩:=gZ e;exact .fz (bx h (by intro _ z;cases z)) (g0 Y Z hs e1)
theorem g0{n:Nat}{os:c_->Obj}{g:Nat->Option (List D)}(Y:∀k us a,n<=k->g k=ar us->ι[k]? =ar a->∃vs,H a=ar (.lst vs)/\RelDs K (ι.take n) (lE (ι.drop n) os H) us vs)(Z:ι.Nodup):
  ∀{ds:List D} {vs:List V},RelDs K ι H ds vs->∀{us:List D},eP n g ds=ar us->RelDs K (ι.take n) (lE (ι.drop n) os H) us vs
 |_,_,.nil,us,e=>by unfold eP at e;cases e;exact .nil
 |_,_,.cons h hs,us,e=>by
  obtain⟨u,X,rfl,e1,e2⟩:=z7 e;exact .cons (uI Y Z h e1) (g0 Y Z hs e2)
end
theorem vW(Z:Rep K ι H S){n:Nat}{os:c_->Obj}:∀f k us a,n<=k->tN S n f k=ar us->ι[k]? =ar a->∃vs,H a=ar (.lst vs)/\RelDs K (ι.take n) (lE (ι.drop n) os H) us vs:=by
 intro f
 induction f with
 |zero=>intro k us a _ e;cases e
 | succ f ih=>
  intro k us a T e U;unfold tN at e;cases z:S[k]? with
  |none=>rw[z]at e;cases e
  |some xs=>
   rw[z]at e;obtain⟨vs,Y,X⟩:=Z.get k a xs U z;exact⟨vs,Y,g0 ih Z.nd X e⟩
theorem sN(Y:Rep K ι H S)(x:Ext ι H ι' H')(Z:Rep K ι' H' S')(N:lD S S')(os:c_->Obj):
  Ext ι H ι (lE (ι'.drop ι.length) os H')/\Rep K ι (lE (ι'.drop ι.length) os H') (S'.take ι.length):=by
 obtain⟨more,rfl⟩:=id x.ids;have O:(ι++more).take ι.length=ι:=by simp
 refine⟨⟨⟨[],by simp⟩,λa o h n t=>?_⟩,⟨Y.nd,?_,λk a xs e1 e2=>?_,Z.tab.mono λa o h n=>bx h n⟩⟩
 ·obtain⟨T,U⟩:=x.oth a o h n t;rw[vV (λz=>U (List.mem_of_mem_drop z))];exact⟨T,n⟩
 ·have:=Z.len;rw[Lr, <-this,JA];omega
 ·have R:k<ι.length:=(Jz.mp e1).1;rw[LJ,if_pos R]at e2;have X:(ι++more)[k]? =ar a:=by rw[JZ R];exact e1
  obtain⟨vs,T,U⟩:=Z.get k a xs X e2;refine⟨vs,?_,?_⟩
  ·rw[vV (λz=>by have:=(sM Z.nd X).mp z;omega)];exact T
  ·have P:bU ι.length xs=true:=by
    rcases N k xs (by rw[<-Y.len];exact R) e2 with z|z
    ·obtain⟨_,_,Q⟩:=Y.get k a xs e1 z;exact Q.cl
    ·rw[Y.len];exact z
   have:=RelDs.down (n:=ι.length) (os:=os) U P;rw[O]at this;exact this
end
section
variable {X:Cx}{E:XD}{e:Expr}{m:TM}{pins:List (c_×Obj)}{σ:L2.St}{H:Hp}{s:b_}
theorem Inv.fz(I:L2.Inv X pins σ H s)(P:List c_):∃os,L2.Inv X pins σ (lE P os H) s:=by
 refine⟨λa=>(s.heap.get? a).getD {cls:=.none,data:=.fields #[]},?_⟩;have Z:Un X.fs [] H (lE P (λa=>(s.heap.get? a).getD {cls:=.none,data:=.fields #[]}) H) s.heap s.heap:=
  ⟨λb o q _ _ _=>q,λb o q _ _ _=>⟨o.slots,q⟩,λb o _ n _=>z6 n,λb o q _=>⟨o,q⟩,λb xs q=>bx q (by intro _ z;cases z),λb o u q=>bx q (by intro _ z;cases z),λb Y q=>⟨#[],by rw[bx q (by intro _ z;cases z)];simp⟩⟩
 refine I.un (t':=s.toks) Z λb o q=>?_;have st:∀u,H b=ar u->aW X.prog X.w (lE P (λa=>(s.heap.get? a).getD {cls:=.none,data:=.fields #[]}) H) s.heap b u:=λu Z=>
  (I.hok b u Z).stay (λ_ _ _ z=>z) (λc z=>bx z (by intro _ z;cases z)) λc xs z=>bx z (by intro _ z;cases z)
 unfold lE at q;split at q
 ·next vs hb=>
  split at q
  ·cases q;obtain⟨z,its,n,r,e⟩:=(show aW X.prog X.w H s.heap b (.lst vs)from I.hok b _ hb);exact⟨by dsimp only;rw[e];rfl,z,its,n,r,e⟩
  ·cases q;exact st _ hb
 ·exact st _ q
theorem aM(h:SE X E e m):SE X E e (aP m):=by
 intro pins s σ H Q I N;obtain⟨ι,S,ρ,rep,re,r,O,C,k⟩:=N;have Z:gY (m ρ) S=ar (r,O):=C;unfold gY at Z;cases q:m ρ S with
 |none=>rw[q]at Z;cases Z
 | some p=>
  obtain⟨G,T⟩:=p;rw[q]at Z;cases G with
  |ex x=>
   cases Z;exact h pins s σ H Q I ⟨ι,S,ρ,rep,re,.ex x,_,q,k⟩
  | ok d=>
   dsimp only at Z;by_cases hl:T.length<=S.length
   ·rw[if_pos hl]at Z;cases Z;exact h pins s σ H Q I ⟨ι,S,ρ,rep,re,.ok d,_,q,k⟩
   ·rw [if_neg hl]at Z;by_cases hk:lD S T
    ·rw [if_pos hk]at Z;cases z:gj S.length (tN T S.length 60) d with
     |none=>rw[z]at Z;cases Z
     | some u=>
      rw[z]at Z;cases Z;refine cO (h pins s σ H (λv R=>∃P:List c_,∀os,Q v (lE P os R)) I ⟨ι,S,ρ,rep,re,.ok d,T,q,λW R x Y v L=>?_⟩) λuv s' ⟨v,R,I',L,P,hq⟩=>?_
      ·refine⟨W.drop ι.length,λos=>?_⟩;obtain⟨F,rep2⟩:=sN rep x Y hk os;have U:Rep X.K ι (lE (W.drop ι.length) os R) (T.take S.length):=by rw[<-rep.len];exact rep2
       have N:W.take ι.length=ι:=by obtain⟨more,rfl⟩:=x.ids;simp
       have rel:RelD X.K ι (lE (W.drop ι.length) os R) u v:=by have:=uI (n:=ι.length) (os:=os) (λk us a=>by rw[rep.len];exact vW Y 60 k us a) Y.nd L (by rw[rep.len];exact z);rw[N]at this;exact this
       exact k ι _ F U v rel
      ·obtain⟨os,J⟩:=Inv.fz I' P;exact⟨v,_,J,L,hq os⟩
    ·rw[if_neg hk]at Z;cases Z
end
end S3
namespace S4
open PySem PySem.Spec PyProof.Rows L2 S3
section
variable {prog:ee}{w:ey}{A:gd}{E:aC->b_->Prop}{s:b_}
end
end S4
namespace S3
open PySem PySem.Spec PyProof.Rows L2
section
variable {X:Cx}{E:XD}{a b e c o tg:Expr}{m n l:TM}{pos p2:Pos}{es:List Expr}{ms:aB->M (List D)}
end
end S3
section
namespace S3
open PySem PySem.Spec PyProof.Rows L2
section
variable {prog:ee}{w:ey}{A:gd}{R:OE->b_->Prop}{s:b_}
end
section
variable {X:Cx}{pins:List (c_×Obj)}{σ:St}{H:Hp}{s:b_}
end
section
variable {X:Cx}{scope:Scope}{Nc:List Str}{js:List (Option Nat)}{pins:List (c_×Obj)}{σ:St}{H:Hp}{s:b_}
end
end S3
end
namespace S3
open PySem PySem.Spec PyProof.Rows L2
section
variable {K:dV}{p:c_}{Q:D->List c_->aw->Hp->Prop}
structure MkL(K:dV)(p:c_)(ι:List c_)(S:aw)(ρ:aB)(σ:St)(H:Hp)(xs:List D):Prop where
 rep:Rep K ι (eT H p) S
 re:RelE K ι (eT H p) ρ σ
 lst:∃vs,H p=ar (.lst vs)/\RelDs K ι (eT H p) xs vs
 out:p∉ι
section
variable {X:Cx}{scope:Scope}{Nc:List Str}{js:List (Option Nat)}{elt tg iter tg2 iter2:Expr}{ifs ifs2:List Expr}{pos:Pos}{mi mi2:aB->M Iter}{g g2:mR}{t t2:aB->M Bool}{m:TM}
end
end
end S3
namespace S7
open PySem PySem.Spec PyProof.Rows L2 S3
section
open Sem (wp)
section
variable {prog:ee}{w:ey}{A:gd}{E:aC->b_->Prop}{h:fc}{g:Array M5}{d:Drawn}{t:Nat}{os:Nd}
variable {nm q:Str}{C N:c_}{bs bm bmB:List aC}{hdct:Bool}{sn:List Str}{sub:List aC}{ab:Bool}{col:Option Bool}{dd:Option c_}{k0 k1 k2 k3 k5:Option aC}{B Bn newId nid initId inN:String}{bmN:List aC}
end
section
variable {M:NN}{A:gd}{E:aC->b_->Prop}{env:Env}
variable {nm q:Str}{C N:c_}{bs bm:List aC}{hdct:Bool}{sn:List Str}{sub:List aC}{ab:Bool}{col:Option Bool}{dd:Option c_}{k0 k1 k2 k3 k5:Option aC}{newId:String}
end
section
variable {prog:ee}{w:ey}{A:gd}{E:aC->b_->Prop}{s:b_}{env:Env}
variable {nm q:Str}{C N:c_}{bs bm bmB:List aC}{hdct:Bool}{sn:List Str}{sub:List aC}{ab:Bool}{col:Option Bool}{dd:Option c_}{k0 k1 k2 k3 k5:Option aC}{B Bn newId nid initId inN:String}{bmN:List aC}
end
end
end S7
namespace S7
open PySem PySem.Spec PySem.W PyProof.Rows
section
open Builtin Builtin.ObjectAttr
def Dh:List aC->Bool
 | .ref _:: .ref _::r=>r==[.type "ValueError",.type "Exception",.type "BaseException",.type "object"]
 |_=>dt
structure ExcS(K:OT)(C:c_):Prop where
 sa:A' K (.ref C) "__setattr__"=ar (ar (.builtin "object.__setattr__"))
 ob:Oh K C (.type "object")=ar dr
 cd:∃cd,OS K C=ar cd/\cd.hasDict=dr/\Dh cd.mro=dr
section
variable {prog:ee}{w:ey}{A:gd}{E:aC->b_->Prop}{s:b_}{K:OT}{x C:c_}{o:Obj}{vs:Array aC}{mA:Str->Option aC}{name:Str}{v:aC}{R:OE->b_->Prop}
end
end
end S7
namespace S7
open PySem PySem.Spec PyProof.Rows L2 S3
def GH(C a t:c_)(od:Option c_):fc->Prop:=λh=>h.get? a=ar {cls:=.ref C,dict:=od,data:=.fields #[.ref t,.none,.none,.none,.bool dt,.none]}
def IG(dx:c_)(fs:List (Str×V)):fc->Prop:=λh=>∃mA,h.Ns1 dx mA/\(∀f,rK (fs.lookup f) (mA f))/\PySem.Within mA (fs.map (·.1))
section
variable {X:Cx}{pins:List (c_×Obj)}{σ:L2.St}{H:Hp}{s:b_}{h':fc}{t':Nat}
end
section
variable {X:Cx}{o value:Expr}{ta tv:TE}{f:Str}{pos pos':Pos}
end
end S7
section
namespace S7
open PySem PySem.Spec PyProof.Rows L2 S3
def Cg(K:dV)(C f:c_):Bool:=match K.lookup C with
 |some ⟨.type "type",_,.cls cd,sl⟩=>(match cd.mro,sl.toList with
  | .ref C'::bm,[_,_,_,_,ar (.builtin n),_]=>C'==C && n=="ValueError.__new__" && !cd.hasDel && W.tailIn K GC bm && W.nsOkIn K cd.ns && ra K cd.ns "__init__"==ar (ar (.ref f)) && cd.hasDict && Dh cd.mro
  |_,_=>dt) && (J_ K (.ref C) "__setattr__"==ar (ar (.builtin "object.__setattr__"))) && (match K.lookup f with|some o=>o.cls== .type "function"|none=>dt)
 |_=>dt
def Jm(C:c_):Sp:=λvs H Q _=>∃e t v1 v2,vs=[.ref e,v1,v2]/\H e=ar (.ext (GH C e t none))/\∀dx,H dx=none->dx≠e->Q .non (upd (upd H dx (.ext (IG dx [("many",v1),("most",v2)]))) e (.ext (GH C e t (ar dx))))
section
variable {X:Cx}{Ek:XK}
end
end S7
end
namespace S7
open PySem PySem.Spec PyProof.Rows L2 S3
theorem z8{h:fc}{Y:Str->Option aC}(n:h.Ns1 dx Y)(e:h.get? dx=ar od)(X:Y f=ar v):Nx f od=ar (ar v):=by
 obtain⟨o,es,ep,e1,hd,_,_,hf⟩:=n;rw[e]at e1;cases e1;unfold Nx;rw[hd];have:=hf f;rw[X]at this;unfold nsFind findBy at this;rw[<-Array.find?_toList]at this;cases q:es.toList.find? (·.key.isStr f)with
 |none=>rw[q]at this;cases this
 |some en=>
  rw[q]at this;have Z:en.val=v:=JW this;rw[<-Z];dsimp only;rw[q]
section
variable {X:Cx}{E:XD}{pins:List (c_×Obj)}{σ:L2.St}{H:Hp}{s:b_}
theorem sO{a C Y:c_}{R:List (Str×V)}{f:Str}{v:V}{b:Bool}{Q:aC->b_->Prop}{A:gd}{E:aC->b_->Prop}(c:ExcC X.K C)(P:∀cd,Oq X.K C=ar cd->cd.hasDict=dr)(S:J_ X.K (.ref C) f=ar none)(I:L2.Inv X pins σ H s)(y:H a=ar (.ext (lM C a (ar Y))))(F:H Y=ar (.xd R))(B:R.lookup f=ar v)
  (L:W.copiedNames.contains f=dt) (h:∀u s',L2.Inv X pins σ H s'->RelV v u->Q u s'):eb (eK X.prog X.w) A (OM (.ref a) f b) Q E s:=by
 obtain⟨⟨G,vs,he,z,t,T⟩,_⟩:=I.hok a _ y;obtain⟨U,N,r⟩:=(show ∃U,s.heap.Ns1 Y U/\∀f,rK (R.lookup f) (U f)from I.hok Y _ F);obtain⟨od,es,ep,e1,_⟩:=id N;obtain⟨u,x,O⟩:=rK.some_of (v:=v) (o:=U f) (by rw[<-B];exact r f);have J:y_ s.heap a G C (ar od):=⟨he,z,by unfold OC;rw[T],by rw[t];exact e1⟩;obtain⟨cd,Z⟩:=Kr.mp c.cd;have hf:W.findObj X.K C (ar od) f=ar (.value u):=by unfold W.findObj;rw[Z,K9,S,K9];simp only[H_];unfold W.ownOf;rw[P cd Z,if_pos rfl];dsimp only;rw[z8 N e1 x];rfl
 unfold OM;refine Ju (wpAny_mkText ?_);refine zJ (s:={s with toks:=s.toks+1}) I.kIn J c.ga c.gt c.be ?_;refine oO (s:={s with toks:=s.toks+1}) I.kIn J hf ?_;exact W.handed_on (wU O) (h u _ (I.tok _) O)
def Di(second:Bool):D->M D
 | .exc n [a,b]=>if n∈aQ then a_ (if second then b else a)else M.fail
 |_=>M.fail
abbrev lF(second:Bool)(m:TM):TM:=λρ=>do let x<-m ρ;Di second x
theorem vX{e:Expr}{m:TM}{pos:Pos}{Z:Bool}{f:Str}(o:fV X.K=dr)(O:∀n∈aQ,∀C,ra X.K fg n=ar (ar (.ref C))->∀cd,Oq X.K C=ar cd->cd.hasDict=dr)(y:SE X E e m)(R:f=if Z then "most" else "many")(w:i1 e f X.env (f' e X.env)=f' e X.env:=by rfl):
  SE X E (.Attribute e f pos) (lF Z m):=by
 intro pins s σ H Q I h;refine Bz w (cO (y pins s σ H (λv Y=>∃ ι d,RelD X.K ι Y d v/\∃n a b va vb C dx p,d= .exc n [a,b]/\n∈aQ/\v= .ref p/\ra X.K fg n=ar (ar (.ref C))/\Y p=ar (.ext (lM C p (ar dx)))/\Y dx=ar (.xd [("many",va),("most",vb)])/\Q (if Z then vb else va) Y) I ?_) λu s1 ⟨v,Y,I1,rv,ι,d,rd,n,a,b,va,vb,C,dx,p,hd,hn,hp,hns,g1,g2,q⟩=>?_)
 ·obtain⟨ι,S,ρ,rep,re,c⟩:=h;refine⟨ι,S,ρ,rep,re,aj (ai c) λd P S1 Y e1 rep1 U v r=>⟨P,d,r,?_⟩⟩;unfold Di at U;split at U
  ·next n a b=>
   split at U
   ·next hn=>
    cases r with
    | excF hns h1 h2 h3 h4=>
     rename_i p C dx fs
     match fs,h3,h4,h2 with
     |[(f1,va),(f2,vb)],h3,h4,h2=>
      have e1:f1="many":=(K1 h3).1;have e2:f2="most":=(K1 (K1 h3).2).1;subst e1 e2;obtain⟨_,_,L,t,G⟩:=h4.cons_inv;obtain⟨J,B⟩:=K1 L;subst J B;obtain⟨_,_,x,A,_⟩:=G.cons_inv;obtain⟨z,_⟩:=K1 x;subst z;refine⟨n,a,b,va,vb,C,dx,p,rfl,hn,rfl,hns,h1,h2,?_⟩;have:=ah U .refl rep1;cases Z with
      |true=>exact this _ A
      |false=>exact this _ t
     |[],h3,_,_=>cases h3
     |[_],h3,_,_=>have:=KG y' h3;simp at this
     |_::_::_::_,h3,_,_=>have:=KG y' h3;simp at this
   ·exact(af U).elim
  ·exact(af U).elim
 ·subst hp;obtain rfl:u=eg p:=rv;obtain⟨l,T⟩:=kO o hn;have:=T.ns.symm.trans hns;cases this;refine sO (f:=f) (v:=if Z then vb else va) T.ck (O n hn C hns) (by rw[R];cases Z<;>first|exact T.ck.mf|exact T.ck.ms) I1 g1 g2 (by rw[R];cases Z<;>rfl) (by rw[R];cases Z<;>decide) λk s' N F=>⟨_,Y,N,F,q⟩
end
section
variable {X:Cx}{E:XD}{st:n_}{m:TM}{i:Nat}
theorem RelE.all{K:dV}{ι Z:List c_}{H Y:Hp}{n:Nat}(U:∀e v,eA n e=dr->RelD K ι H e v->RelD K Z Y e v):
  ∀{ρ:aB} {σ:L2.St},RelE K ι H ρ σ->(∀e,ar e∈ρ->eA n e=dr)->RelE K Z Y ρ σ
 |[],_,h,_=>by cases h;exact .nil
 |_::ρ,_,.cons h t,c=>.cons (λd' z=>by obtain⟨v,e1,e2⟩:=h _ z;exact⟨v,e1,U _ v (c d' (by rw[z];exact JL ..)) e2⟩) (RelE.all U t λe z=>c e (JF _ z))
theorem RelE.swap{K:dV}{ι Z:List c_}{H U:Hp}{n:Nat}{d u:D}(T:∀v,RelD K ι H d v->RelD K Z U u v)(Y:∀e v,eA n e=dr->RelD K ι H e v->RelD K Z U e v):
  ∀{ρ:aB} {i:Nat} {σ:L2.St},RelE K ι H (ρ.set i (ar d)) σ->(∀e,ar e∈ρ->eA n e=dr)->RelE K Z U (ρ.set i (ar u)) σ
 |[],_,_,h,_=>by cases h;exact .nil
 |_::ρ,0,_,.cons h t,c=>.cons (λd' z=>by cases z;obtain⟨v,e1,e2⟩:=h _ rfl;exact⟨v,e1,T v e2⟩) (RelE.all Y t λe z=>c e (JF _ z))
 |_::ρ,i+1,_,.cons h t,c=>.cons (λd' z=>by obtain⟨v,e1,e2⟩:=h _ z;exact⟨v,e1,Y _ v (c d' (by rw[z];exact JL ..)) e2⟩) (RelE.swap T Y (ρ:=ρ) (i:=i) t λe z=>c e (JF _ z))
theorem z9(h:SS X E st (bE i m)):SS X E st (bE i (aP m)):=by
 intro pins s σ H T I O;obtain⟨ι,S,ρ,rep,re,r,J,B,k⟩:=O;have Z:(gY (m ρ)>>=λd=>(a_ (Out.nx (ρ.set i (ar d))):M Out)) S=ar (r,J):=B;have F:∀(c:M D),(c>>=λd=>(a_ (Out.nx (ρ.set i (ar d))):M Out)) S=(match c S with|some (.ok d,S1)=>ar (.ok (Out.nx (ρ.set i (ar d))),S1)|some (.ex x,S1)=>ar (.ex x,S1)|none=>none):=λc=>by
  show M.bnd c _ S=_;unfold M.bnd;cases c S with
  |none=>rfl
  |some p=>obtain⟨r,S1⟩:=p;cases r<;>rfl
 rw[F]at Z;unfold gY at Z;cases q:m ρ S with
 |none=>rw[q]at Z;cases Z
 | some p=>
  obtain⟨t,N⟩:=p;rw[q]at Z;have Q:bE i m ρ S=_:=F (m ρ);rw[q]at Q;cases t with
  |ex x=>
   cases Z;exact h pins s σ H T I ⟨ι,S,ρ,rep,re,.ex x,_,Q,k⟩
  | ok d=>
   dsimp only at Z;by_cases hl:N.length<=S.length
   ·rw[if_pos hl]at Z;cases Z;exact h pins s σ H T I ⟨ι,S,ρ,rep,re,_,_,Q,k⟩
   ·rw [if_neg hl]at Z;by_cases hk:lD S N
    ·rw [if_pos hk]at Z;cases z:gj S.length (tN N S.length 60) d with
     |none=>rw[z]at Z;cases Z
     | some u=>
      rw[z]at Z;cases Z;refine cO (h pins s σ H {nx:=λY L=>∃P:List c_,∀os,T.nx Y (lE P os L),rt:=λ_ _=>False} I ⟨ι,S,ρ,rep,re,_,_,Q,λU L x W Y G=>?_⟩) λf s' hf=>?_
      ·refine⟨U.drop ι.length,λos=>?_⟩;obtain⟨o,rep2⟩:=sN rep x W hk os;have R:Rep X.K ι (lE (U.drop ι.length) os L) (N.take S.length):=by rw[<-rep.len];exact rep2
       have O:U.take ι.length=ι:=by obtain⟨more,rfl⟩:=x.ids;simp
       refine k ι _ o R Y ?_;refine RelE.swap (n:=ι.length) (d:=d) (u:=u) (λv l=>?_) (λe v c r=>?_) G λe z=>?_
       ·have:=uI (n:=ι.length) (os:=os) (λk us a=>by rw[rep.len];exact vW W 60 k us a) W.nd l (by rw[rep.len];exact z);rw[O]at this;exact this
       ·have:=RelD.down (n:=ι.length) (os:=os) r c;rw[O]at this;exact this
       ·obtain⟨j,y⟩:=List.getElem?_of_mem z;obtain⟨v,_,r⟩:=re.get y;exact r.cl
      ·cases f with
       |next=>
        obtain⟨Y,L,C,P,w⟩:=hf;obtain⟨os,A⟩:=Inv.fz C P;exact⟨Y,_,A,w os⟩
       |ret v=>obtain⟨_,_,_,_,_,z⟩:=hf;exact z.elim
       |brk=>obtain⟨_,_,_,z⟩:=hf;exact z.elim
       |cont=>obtain⟨_,_,_,z⟩:=hf;exact z.elim
    ·rw[if_neg hk]at Z;cases Z
end
structure GrX(P:ee)(w:ey)(K:dV)(mg:Str->Option aC)(base:fc):Prop where
 ex:∃C f fd,ra K fg "TooGreat"=ar (ar (.ref C))/\Cg K C f=dr/\FnOk P w K mg base (kz P w) 1 f fd ["self","many","most"] (Jm C)/\Binds K fd ["self","many","most"] []
section
variable {X:Cx}{Ek:XK}
end
theorem DefX.none{P:ee}{w:ey}{K:dV}{Y:Str->Option aC}{base:fc}{k:Nat}{x qual:Str}{st:n_}{f:c_}{Z:f_}{X:List Str}(F:Fun K x qual st f Z)(T:Y x=ar (.ref f))(U:Binds K Z X []):DefX P w K Y base k x X (λ_=>M.fail):=
 ⟨f,Z,⟨λvs H Q E ⟨_,_,_,_,_,h⟩=>(af h).elim,λA outer s H args us vs Q E _ _ _ _ ⟨_,_,_,_,_,h⟩=>(af h).elim⟩,T,F.kp,U⟩
def Ci(K:dV):Bool:=aQ.all λn=>match ra K fg n with
 |some (ar (.ref C))=>(match Oq K C with|some cd=>cd.hasDict|none=>dr)
 |_=>dr
theorem Dj{K:dV}(h:Ci K=dr):∀n∈aQ,∀C,ra K fg n=ar (ar (.ref C))->∀cd,Oq K C=ar cd->cd.hasDict=true:=by intro n Y C X cd Z;have:=JU.mp h n Y;rw[X]at this;dsimp only at this;rw[Z]at this;exact this
section
variable {X:Cx}{E:XD}
theorem Cj(Z:fV X.K=dr)(U:Ci X.K=dr)(W:SE X E e m)(Y:i1 e "many" X.env (f' e X.env)=f' e X.env:=by rfl):SE X E (.Attribute e "many" pos) (lF dt m):=vX Z (Dj U) W rfl Y
theorem Ck(Z:fV X.K=dr)(U:Ci X.K=dr)(W:SE X E e m)(Y:i1 e "most" X.env (f' e X.env)=f' e X.env:=by rfl):SE X E (.Attribute e "most" pos) (lF dr m):=vX Z (Dj U) W rfl Y
end
end S7
namespace S3
open PySem PySem.Spec PyProof.Rows L2 S4
mutual
theorem qS:∀d,eA n d=dr->gj n g d=ar d
 | .lst k,h=>by unfold eA at h;unfold gj;rw[if_pos (Kl h)]
 | .tup ds,h=>by unfold eA at h;unfold gj;rw[fW ds h];rfl
 | .ro ds,h=>by unfold eA at h;unfold gj;rw[fW ds h];rfl
 | .fz ds,h=>by unfold eA at h;unfold gj;rw[fW ds h];rfl
 | .fn _ _ _ ds _,h=>by unfold eA at h;unfold gj;rw[fW ds h];rfl
 | .exc _ ds,h=>by unfold eA at h;unfold gj;rw[fW ds h];rfl
 | .non,_=>by unfold gj;rfl
 | .bl _,_=>by unfold gj;rfl
 | .int _,_=>by unfold gj;rfl
 | .str _,_=>by unfold gj;rfl
 | .emp,_=>by unfold gj;rfl
theorem fW:∀ds,bU n ds=dr->eP n g ds=ar ds
 |[],_=>by unfold eP;rfl
 |d::ds,h=>by
  unfold bU at h;rw[Kq]at h;unfold eP;rw[qS d h.1,fW ds h.2]
end
mutual
theorem vY(Z:m<=n):∀d,eA m d=dr->eA n d=dr
 | .lst k,h=>by unfold eA at h⊢;exact JM (JI (Kl h) Z)
 | .tup ds,h=>by unfold eA at h⊢;exact g9 Z ds h
 | .ro ds,h=>by unfold eA at h⊢;exact g9 Z ds h
 | .fz ds,h=>by unfold eA at h⊢;exact g9 Z ds h
 | .fn _ _ _ ds _,h=>by unfold eA at h⊢;exact g9 Z ds h
 | .exc _ ds,h=>by unfold eA at h⊢;exact g9 Z ds h
 | .non,_=>by unfold eA;rfl
 | .bl _,_=>by unfold eA;rfl
 | .int _,_=>by unfold eA;rfl
 | .str _,_=>by unfold eA;rfl
 | .emp,_=>by unfold eA;rfl
theorem g9(Z:m<=n):∀ds,bU m ds=dr->bU n ds=dr
 |[],_=>by unfold bU;rfl
 |d::ds,h=>by
  unfold bU at h⊢;rw[Kq]at h⊢;exact⟨vY Z d h.1,g9 Z ds h.2⟩
end
section
variable {c:M D}{S:aw}{Q:D->aw->Prop}{v:D}
theorem Cm:gY (a_ v)=a_ v:=by funext S;show(if S.length<=S.length then _ else _)=_;rw[if_pos (Jw _)];rfl
theorem Aa:gY (M.raise x)=M.raise x:=rfl
theorem kQ(e:c S=ar (.ok d,S'))(Z:lD S S')(Y:S.length<S'.length\/u=d)(W:S.length<=S'.length)(X:gj S.length (tN S' S.length 60) d=ar u):gY c S=ar (.ok u,S'.take S.length):=by
 unfold gY;rw[e];dsimp only;by_cases h:S'.length<=S.length
 ·have hd:u=d:=Y.resolve_left (by omega);rw[if_pos h,hd,List.take_of_length_le h]
 ·rw[if_neg h,if_pos Z,X]
theorem Cn(h:runs c S λd Z=>lD S Z/\S.length<=Z.length/\eA S.length d=dr/\Q d (Z.take S.length)):runs (gY c) S Q:=by obtain⟨d,Z,e,Y,X,hd,q⟩:=h;exact⟨d,_,kQ e Y (.inr rfl) X (qS d hd),q⟩
theorem nG:lD S (S++G):=λk xs Z e=>.inl (by rw[JZ Z]at e;exact e)
theorem Ab(h:runs c S λd Z=>(∃G,Z=S++G)/\eA S.length d=dr/\Q d S):runs (gY c) S Q:=by obtain⟨d,Z,e,⟨G,rfl⟩,hd,q⟩:=h;exact Cn ⟨d,_,e,nG,by simp,hd,by simpa using q⟩
theorem sP(h:runs c S λd Z=>∃G p us,d= .lst p/\Z=S++G/\Z[p]? =ar us/\S.length<=p/\bU S.length us=dr/\Q (.fz us) S):runs (gY c) S Q:=by
 obtain⟨d,Z,e,G,p,us,rfl,rfl,Y,U,W,q⟩:=h;have X:=(Jz.mp Y).1;refine⟨.fz us,S,?_,q⟩;have:=kQ (u:=.fz us) e nG (.inl (by omega)) (by simp) (by unfold gj;rw[if_neg (by omega)];show(((S++G)[p]?).bind λxs=>eP S.length (tN (S++G) S.length 59) xs).map D.fz=_;rw[Y,K9,fW us W];rfl)
 rw[this];simp
theorem bA{Y:Type}{c:M Y}{v:Y}(h:∀S,runs c S λd Z=>d=v/\Z=S):c=a_ v:=by funext S;obtain⟨d,Z,e,rfl,rfl⟩:=h S;exact e
theorem GI(Y:eA 0 v=dr)(h:∀S,runs c S λd Z=>d=v/\∃G,Z=S++G):gY c=a_ v:=
 bA λS=>Ab (pL (h S) λd Z ⟨e,g⟩=>⟨g,by rw[e];exact vY (JS _) v Y,e,rfl⟩)
theorem Co(Y:bU 0 us=dr)(h:∀S,runs c S λd Z=>∃G p,d= .lst p/\Z=S++G/\Z[p]? =ar us/\S.length<=p):gY c=a_ (.fz us):=
 bA λS=>sP (pL (h S) λd Z ⟨G,p,e1,e2,e3,e4⟩=>⟨G,p,us,e1,e2,e3,e4,g9 (JS _) us Y,rfl,rfl⟩)
theorem bR(Y:bU 0 us=dr)(Z:us.length<=lim):gY (a8 us)=a_ (.fz us):=
 Co Y λS=>xA.mpr ⟨Z,[us],S.length,rfl,rfl,by simp,Jw _⟩
end
theorem cR:i7 ⟨its,.none⟩=a_ ():=by funext S;unfold i7;rw[if_pos (show Iter.okS ⟨its,.none⟩ S from trivial)];rfl
section
variable {its:List D}{g:mR}{t:aB->M Bool}{m:TM}
theorem sQ(R:aB->Prop)(q:D->Bool)(f:D->D):∀(items:List D) (ρ:aB),R ρ->(∀d∈items,∀ ρ,R ρ->∃Z,g d ρ=a_ Z/\R Z/\t Z=a_ (q d)/\(q d=dr->m Z=a_ (f d)))->
  bN ⟨its,.none⟩ g t m items ρ=a_ ((items.filter q).map f)
 |[],ρ,_,_=>by unfold bN;rw[cR];rfl
 |d::ds,ρ,hR,hb=>by
  obtain⟨Z,e1,Y,e2,X⟩:=hb d (JL ..) ρ hR;have U:=sQ R q f ds Z Y λx W=>hb x (JF _ W);unfold bN;rw[cR,ak,e1,ak,e2,ak,U];cases hq:q d with
  |true=>rw[LK hq,if_pos rfl,X hq,ak];rfl
  |false=>rw[LL (by rw[hq];decide),if_neg (by decide)]
theorem Cp(R:aB->Prop)(q:D->Bool)(f:D->D)(X:its.length<=lim)(Y:R ρ)(Z:∀d∈its,∀ ρ,R ρ->∃ ρ1,g d ρ=a_ ρ1/\R ρ1/\t ρ1=a_ (q d)/\(q d=dr->m ρ1=a_ (f d))):
  eu ⟨its,.none⟩ g t m ρ=a_ ((its.filter q).map f):=by
 unfold eu;rw[if_pos X];exact sQ R q f its ρ Y Z
end
end S3
namespace S7
open PySem PySem.Spec PyProof.Rows L2 S3
section
variable {X:Cx}{E:XD}{k i jn jy:Nat}{a c':c_}{ql:Str}{ds:List D}{vs:List V}{m:TM}{x n y cx:Str}{p cpos epos np p1 p2 p3 hpos tpos:Pos}
end
section
variable {X:Cx}{x ql:Str}{k k0 i:Nat}{a c':c_}{ps:List Str}{R:D->M D->List D->M D}{R':M D->List D->M D}{p pos:Pos}{e:Expr}{es:List Expr}{ms:S3.aB->M (List D)}{m:TM}{ds:List D}{vs:List V}
end
section
variable {X:Cx}{E:XD}{pos:Pos}
end
end S7
namespace S3
open PySem PySem.Spec PyProof.Rows L2 PySem.SeqAt
section
variable {X:Cx}{E:XD}{o e:Expr}{es:List Expr}{m:TM}{ms:aB->M (List D)}{pos:Pos}
end
end S3
section
namespace L2
open PySem PySem.Spec PyProof.Rows
def IH(x:Str):It:=⟨λi _=>i<x.cps.size,λi H v H'=>H'=H/\∃c,x.cps[i]? =ar c/\v= .str ⟨#[c]⟩,λi _=>x.cps.size<=i⟩
theorem Ac{P:ee}{w:ey}{K:dV}{J:Expr}(it:c_)(x:Str)(t:Tok):Turn P w K J (IH x) [it] it (λi h=>h.IsStrIter it "str_ascii_iterator" x t i) where
 mem:=by simp
 obj:=λi h st b Y=>by
  have e:b=it:=by simpa using Y
  subst e;obtain⟨o,e,c,d⟩:=st;exact⟨o,e,λv z=>by rw[d]at z;cases z⟩
 keep:=λi h h' st k=>let ⟨o,e,r⟩:=st;⟨o,k it (by simp) o e,r⟩
 item:=by intro X S hw T O i pins s σ H E I hf st Z;subst S hw T;have Z:i<x.cps.size:=Z;obtain⟨f0,f1,f2,Q,f4,R⟩:=hf it (by simp);refine wpAny_pyNext_ascii_item st (c:=x.cps[i]) (by simp[Z]) λh' U G=>?_;have N:Inv X pins σ H {s with heap:=h',toks:=s.toks+1}:=I.turned (λb o Y e=>(G.2 b Y).trans e) f0 f1 Q f4 R;obtain⟨o,e,c,d⟩:=id U;exact⟨_,rfl,vh (s:={s with heap:=h',toks:=s.toks+1}) e c d (by decide) ⟨.str ⟨#[x.cps[i]]⟩,H,N,⟨_,rfl⟩,⟨rfl,_,by simp[Z],rfl⟩,U,λb Y=>(hf b Y).1⟩⟩
 done:=by intro X S hw T O i pins s σ H E I hf st Z;subst S hw T;obtain⟨f0,f1,f2,Q,f4,R⟩:=hf it (by simp);have Z:x.cps.size<=i:=Z;exact wpAny_pyNext_ascii_end (I.ok.hd O) st (by simp;omega) λh' L=>⟨rfl,I.turned (t':=s.toks) (λb o Y e=>L b o Y e) f0 f1 Q f4 R⟩
 self:=λ_ _ _ _ _ st h=>wpAny_pyIter_striter_ascii st h
section
variable {X:Cx}{tg:Expr}
def GJ(tl:TE):TI:=λσ H R=>tl σ H λx H1=>∃z,x= .str z/\z.cps.all (· <128)=dr/\R (IH z) H1
theorem uJ{l:Expr}{tl:TE}(Z:PE X l tl):PI X tg l (GJ tl):=by
 intro pins s σ H R I h;refine cO (Z pins s σ H _ I h) λv s1 ⟨x,H1,I1,r1,q1⟩=>?_;obtain⟨z,e,W,q⟩:=q1;subst e;obtain⟨t,rfl⟩:=(show ∃t,v=kS z t from r1);refine wpAny_pyIter_ascii W ?_;refine⟨s1.heap.objs.size,[s1.heap.objs.size],_,_,H1,rfl,I1.kept (t':=s1.toks) λb o e=>Jv _ e,Ac _ z t,⟨_,JD _ rfl,rfl,rfl⟩,λb Y=>?_,q⟩;have e:b=s1.heap.objs.size:=by simpa using Y
 subst e;exact I1.fpOk (Jw _) (I1.hok.fresh (Jw _))
end
end L2
namespace S3
open PySem PySem.Spec PyProof.Rows L2
section
variable {X:Cx}{E:XD}{a b e o tg:Expr}{es:List Expr}{m n:TM}{ms:aB->M (List D)}{pos:Pos}
def hU(z:Str):List D:=z.cps.toList.map λc=>.str ⟨#[c]⟩
def Ad:D->M Iter
 | .str z=>if z.cps.all (· <128)=dr then a_ ⟨hU z,.none⟩else M.fail
 |_=>M.fail
abbrev xH(m:TM):aB->M Iter:=λρ=>do let x<-m ρ;Ad x
theorem uK{K:dV}{z:Str}{ι:List c_}{H:Hp}:gf K ⟨hU z,.none⟩ (IH z) ι H:=by
 intro U Q S2 e rep2 ok i;have Z:(hU z).length=z.cps.size:=by unfold hU;simp
 refine⟨λd hd=>?_,λh=>by show z.cps.size<=i;rw[<-Z];exact h⟩;have T:i<z.cps.size:=by rw[<-Z];exact(Jz.mp hd).1
 refine⟨T,λx R S=>?_⟩;obtain⟨rfl,c,Y,rfl⟩:=S;have e2:(hU z)[i]? =ar (.str ⟨#[c]⟩):=by unfold hU;simp[Y]
 rw[show(hU z)[i]? =ar d from hd]at e2;cases e2;exact⟨.refl,rep2,.str _⟩
theorem E3(T:SE X E e m):SI X E tg e (xH m):=by
 intro pins s σ H R I h;obtain⟨ι,S,ρ,rep,re,c⟩:=h;obtain⟨r,Y,P,k⟩:=id (ai c);cases r with
 |ex x=>exact uJ T pins s σ H R I ⟨ι,S,ρ,rep,re,.ex x,Y,P,k⟩
 | ok d=>
  cases d with
  | str z=>
   refine uJ T pins s σ H R I ⟨ι,S,ρ,rep,re,.ok (.str z),Y,P,λZ U e1 rep1 v O=>?_⟩;have W:cont X.K E (Ad (.str z)) Z Y U (λit Q _ N=>∀J,gf X.K it J Q N->R J N):=k Z U e1 rep1;cases O;by_cases ha:z.cps.all (· <128)=dr
   ·rw[show Ad (.str z)=a_ ⟨hU z,.none⟩from if_pos ha]at W;exact⟨z,rfl,ha,ah W .refl rep1 _ uK⟩
   ·rw[show Ad (.str z)=M.fail from if_neg ha]at W;exact(af W).elim
  |_=>exact uJ T pins s σ H R I ⟨ι,S,ρ,rep,re,.ok _,Y,P,λZ U e1 rep1 v O=>(af (k Z U e1 rep1)).elim⟩
def ig:D->D->M D
 | .str i,.str j=>if i.length+j.length<=10000 then a_ (.str (i++j))else M.fail
 |_,_=>M.fail
theorem GK:10000<=sizeLine:=by rw[Kc];decide
theorem Ae:pk X.K E ig (λx y H Q=>∃i j,x= .str i/\y= .str j/\i.length+j.length<=sizeLine/\Q (.str (i++j)) H):=by
 intro ι S H U W v1 v2 Q rep Y Z c;unfold ig at c;split at c
 ·next i j=>
  split at c
  ·next hl=>cases Y;cases Z;exact⟨i,j,rfl,rfl,JG hl GK,ah c .refl rep _ (.str _)⟩
  ·exact(af c).elim
 ·exact(af c).elim
theorem mw(Y:SE X E a m)(Z:SE X E b n):SE X E (.BinOp a .Add b pos) (λρ=>do let x<-m ρ;let y<-n ρ;ig x y):=mS tT Ae Y Z
def Cq:D->D->M D
 | .str i,.str j=>a_ (.bl (!(g8 j i 0 j.length 1).isEmpty))
 |_,_=>M.fail
theorem Cr:pk X.K E Cq (λx y H Q=>∃i j,x= .str i/\y= .str j/\Q (.bl (!(g8 j i 0 j.length 1).isEmpty)) H):=by
 intro ι S H U W v1 v2 Q rep Y Z c;unfold Cq at c;split at c
 ·next i j=>cases Y;cases Z;exact⟨i,j,rfl,rfl,ah c .refl rep _ (.bl _)⟩
 ·exact(af c).elim
theorem E4(W:SE X E a m)(Z:SE X E b n)(Y:k6 .In b=false:=by rfl):SE X E (.Compare a [.In] [b] pos) (λρ=>do let x<-m ρ;let y<-n ρ;Cq x y):=qt wN Cr W Z Y
def jd:List D->M D
 |[.str z]=>if z.length<=10000 then a_ (.int z.length)else M.fail
 |_=>M.fail
theorem uL:ib X.K E jd (λxs H Q=>∃z,xs=[.str z]/\z.length<=sizeLine/\Q (.int z.length) H):=by
 intro ι S H ds vs Q rep r c;unfold jd at c;split at c
 ·next z=>
  obtain⟨v,ws,rfl,Y,Z⟩:=r.cons_inv;cases Z.nil_inv;split at c
  ·next hl=>cases Y;exact⟨z,rfl,JG hl GK,ah c .refl rep _ (.int _)⟩
  ·exact(af c).elim
 ·exact(af c).elim
theorem vZ{p:Pos}(Z:X.mg "len"=none)(W:SE X E e m)(Y:Gl X "len":=by rfl)(hs:d_ [e] X.env=[(dt,f' e X.env)]:=by rfl):SE X E (.Call (.Name "len" p) [e] [] pos) (λρ=>do let ds<-(do let x<-m ρ;let xs<-a_ [];a_ (x::xs));jd ds):=
 gC qf uL Y Z PySem.boot_len (ag W ao hs) (by decide) (by decide) hs rfl
theorem xI:b9 X (.type "int") (λxs H Q=>∃x k,xs=[.str x]/\PySem.intText? x=ar k/\x.length<=640/\Q (.int k) H):=by intro pins s σ H xs us Q I r h;obtain⟨x,k,rfl,U,Y,q⟩:=h;obtain⟨u,rfl,Z⟩:=vals1 r;obtain⟨t,rfl⟩:=(show ∃t,u=kS x t from Z);exact W.KIN.call_text U Y ⟨.int k,H,I.tok _,⟨_,rfl⟩,q⟩
def pO:List D->M D
 |[.str x]=>match PySem.intText? x with
  |some k=>if x.length<=640 then a_ (.int k)else M.fail
  |none=>M.fail
 |_=>M.fail
theorem uM:ib X.K E pO (λxs H Q=>∃x k,xs=[.str x]/\PySem.intText? x=ar k/\x.length<=640/\Q (.int k) H):=by
 intro ι S H ds vs Q rep r c;unfold pO at c;split at c
 ·next x=>
  obtain⟨v,ws,rfl,Y,Z⟩:=r.cons_inv;cases Z.nil_inv;cases Y;split at c
  ·next k hk=>
   split at c
   ·next hl=>exact⟨x,k,rfl,hk,hl,ah c .refl rep _ (.int _)⟩
   ·exact(af c).elim
  ·exact(af c).elim
 ·exact(af c).elim
theorem Cs{p:Pos}(Z:X.mg "int"=none)(W:SE X E e m)(Y:Gl X "int":=by rfl)(hs:d_ [e] X.env=[(dt,f' e X.env)]:=by rfl):SE X E (.Call (.Name "int" p) [e] [] pos) (λρ=>do let ds<-(do let x<-m ρ;let xs<-a_ [];a_ (x::xs));pO ds):=
 iV xI uM Y Z (by decide+kernel) (ag W ao hs) (by decide) (by decide) hs rfl
def xJ:D->D->M D
 | .str z,.int i=>match i9 z.cps.toList i with
  |some c=>if z.length<=10000 then a_ (.str ⟨#[c]⟩)else M.fail
  |none=>M.fail
 |_,_=>M.fail
theorem Ct:pk X.K E xJ D6:=by
 intro ι S H U W v1 v2 Q rep Y Z c;unfold xJ at c;split at c
 ·next z i=>
  split at c
  ·next k hk=>
   split at c
   ·next hl=>cases Y;cases Z;exact⟨z,i,k,rfl,rfl,JG hl GK,hk,ah c .refl rep _ (.str _)⟩
   ·exact(af c).elim
  ·exact(af c).elim
 ·exact(af c).elim
theorem Af(Y:SE X E a m)(Z:SE X E b n)(hs:lZ b:=by intro _ _;rfl):SE X E (.Subscript a b pos) (λρ=>do let x<-m ρ;let y<-n ρ;xJ x y):=C6 yz Ct Y Z hs
theorem Cu{x z:Str}(Y:Gl X x)(Z:∃t,X.mg x=ar (.str z t))(W:(x==("__debug__":Str))=false:=by decide):SE X E (.Name x pos) (mK (.str z)):=
 let ⟨t,h⟩:=Z
 gy (p9 Y h (v:=.str z) ⟨t,rfl⟩ W) λ_ _=>.str z
end
end S3
namespace L2
open PySem PySem.Spec PyProof.Rows
section
variable {X:Cx}{e:Expr}{es:List Expr}
def II(t:TE):TE:=λσ H Q=>t σ H λx H1=>∃i,x= .int i/\i.natAbs.log2<1920/\Q (.str (EW i)) H1
theorem E5{t:TE}{pos:Pos}(h:PE X e t):PE X (.FormattedValue e (-1) none pos) (II t):=by intro pins s σ H Q I Z;refine wpAny_FormattedValue_plain (cO (h pins s σ H _ I Z) λv s1 ⟨x,H1,I1,r1,i,e1,hd,q⟩=>?_);subst e1;obtain⟨t,rfl⟩:=(show ∃t,v=ly i t from r1);exact wpAny_formatField_int hd ⟨.str (EW i),H1,I1.tok _,⟨_,rfl⟩,q⟩
theorem nH{M:NN}{A:gd}{E:aC->b_->Prop}{Q Z:Str->b_->Prop}(k:∀out s,Q out s->Z out s):∀(ps:List (Sem aC)) (acc:Str) (s:b_),Joins M A E ps acc Q s->Joins M A E ps acc Z s
 |[],acc,s,h=>k acc s h
 |p::ps,acc,s,h=>cO h λv s1 ⟨y,t,e,hl,r⟩=>⟨y,t,e,hl,nH k ps _ s1 r⟩
abbrev TJ:=St->Hp->(List Str->Hp->Prop)->Prop
def PJ(X:Cx)(es:List Expr)(t:TJ):Prop:=∀(pins:List (c_×Obj)) (s:b_) (σ:St) (H:Hp) (acc:Str) (Q:Str->Hp->Prop),Inv X pins σ H s->acc.length+1000*es.length<=sizeLine->t σ H (λys H'=>Q (ys.foldl (· ++·) acc) H')->
 Joins (eK X.prog X.w) X.A X.xe (NF es X.env) acc (λout s1=>out.length<=sizeLine/\∃H',Inv X pins σ H' s1/\Q out H') s
theorem PJ.imp{t t':TJ}(h:PJ X es t)(k:∀ σ H Q,t' σ H Q->t σ H Q):PJ X es t':=λpins s σ H acc Q I Z hw=>h pins s σ H acc Q I Z (k σ H _ hw)
theorem E6:PJ X [] (λσ H R=>R [] H):=λpins s σ H acc Q I Y Z=>⟨by simpa using Y,H,I,Z⟩
theorem Cv{te:TE}{t:TJ}(W:PE X e te)(Z:PJ X es t)(hs:NF (e::es) X.env=f' e X.env::NF es X.env:=by rfl):PJ X (e::es) (λσ H R=>te σ H λx Y=>∃y,x= .str y/\y.length<=1000/\t σ Y λys P=>R (y::ys) P):=by intro pins s σ H acc Q I U T;rw[hs];refine cO (W pins s σ H _ I T) λv s1 ⟨x,Y,I1,r1,y,e1,hy,q⟩=>?_;subst e1;obtain⟨u,rfl⟩:=(show ∃t,v=kS y t from r1);have S:acc.length+1000*(es.length+1)<=sizeLine:=U;have O:(acc++y).length=acc.length+y.length:=Str.length_append acc y;exact⟨y,u,rfl,by omega,Z pins s1 σ Y (acc++y) Q I1 (by omega) q⟩
def Cw(t:TJ):TE:=λσ H Q=>t σ H λys H1=>Q (.str (ys.foldl (· ++·) nC)) H1
theorem xK{e2:Expr}{t:TJ}{pos:Pos}(h:PJ X (e::e2::es) t)(W:es.length<=100):PE X (.JoinedStr (e::e2::es) pos) (Cw t):=by
 intro pins s σ H Q I Z;refine wpAny_JoinedStr ?_;have:=h pins s σ H nC (λy Y=>Q (.str y) Y) I (by
  show 0+1000*(es.length+2)<=sizeLine;have:200000<=sizeLine:=by rw[Kc];decide
  omega) Z
 exact nH (λout s1 ⟨hz,H1,I1,q⟩=>⟨hz,.str out,H1,I1.tok _,⟨_,rfl⟩,q⟩) _ _ _ this
end
end L2
namespace S3
open PySem PySem.Spec PyProof.Rows L2
section
variable {X:Cx}{E:XD}{a b e o tg:Expr}{es:List Expr}{m n:TM}{ms:aB->M (List D)}{pos:Pos}
theorem uN(h:SE X E e m):SE X E (.FormattedValue e (-1) none pos) (cD gF m):=by
 refine PE.imp (E5 h) λσ H Q q=>?_;obtain⟨ι,S,ρ,rep,re,c⟩:=q;refine⟨ι,S,ρ,rep,re,aj (ai (ai c)) λx U S1 T e1 rep1 Y v W=>?_⟩;have Z:=ah (ah (ai Y) .refl rep1) .refl rep1;cases x with
 | int i=>
  cases W;by_cases hi:i.natAbs.log2<1920
  ·rw[show gF [.int i]=a_ (.str (EW i))from if_pos hi]at Z;exact⟨i,rfl,hi,ah Z .refl rep1 _ (.str _)⟩
  ·rw[show gF [.int i]=M.fail from if_neg hi]at Z;exact(af Z).elim
 |_=>exact(af Z).elim
def Jn(K:dV)(E:XD)(js:aB->M (List Str)):TJ:=λσ H R=>∃ ι S ρ,Rep K ι H S/\RelE K ι H ρ σ/\cont K E (js ρ) ι S H (λys _ _ H'=>R ys H')
def SJ(X:Cx)(E:XD)(es:List Expr)(js:aB->M (List Str)):Prop:=PJ X es (Jn X.K E js)
def Hv:D->M Str
 | .str y=>if y.length<=1000 then a_ y else M.fail
 |_=>M.fail
abbrev uO:aB->M (List Str):=λ_=>a_ []
abbrev fX(m:TM)(js:aB->M (List Str)):aB->M (List Str):=λρ=>do let x<-m ρ;let y<-Hv x;let ys<-js ρ;a_ (y::ys)
abbrev pP(js:aB->M (List Str)):TM:=λρ=>do let ys<-js ρ;a_ (.str (ys.foldl (· ++·) nC))
theorem Ag:SJ X E [] uO:=by refine PJ.imp E6 λσ H Q q=>?_;obtain⟨ι,S,ρ,rep,re,c⟩:=q;exact ah c .refl rep
theorem i4{js:aB->M (List Str)}(U:SE X E e m)(Y:SJ X E es js)(hs:NF (e::es) X.env=f' e X.env::NF es X.env:=by rfl):SJ X E (e::es) (fX m js):=by
 refine PJ.imp (Cv U Y hs) λσ H R q=>?_;obtain⟨ι,S,ρ,rep,re,c⟩:=q;refine⟨ι,S,ρ,rep,re,aj (ai c) λx W S1 N e1 rep1 Z v1 Q=>?_⟩;cases x with
 | str y=>
  cases Q;by_cases hy:y.length<=1000
  ·rw[show Hv (.str y)=a_ y from if_pos hy]at Z;have T:=ah (ai Z) .refl rep1;exact⟨y,rfl,hy,W,S1,ρ,rep1,re.later rep e1,aj (ai T) λys P S2 L e2 rep2 O=>ah O .refl rep2⟩
  ·rw[show Hv (.str y)=M.fail from if_neg hy]at Z;exact(af (ai Z)).elim
 |_=>exact(af (ai Z)).elim
theorem pQ{e2:Expr}{js:aB->M (List Str)}(h:SJ X E (e::e2::es) js)(Z:es.length<=100:=by decide):SE X E (.JoinedStr (e::e2::es) pos) (pP js):=by refine PE.imp (xK h Z) λσ H Q q=>?_;obtain⟨ι,S,ρ,rep,re,c⟩:=q;exact⟨ι,S,ρ,rep,re,aj (ai c) λys W S1 U e1 rep1 Y=>ah Y .refl rep1 _ (.str _)⟩
open Builtin.Str in
def nI(x y:Str):List Str:=match occurrences x y 0 x.length 1 with
 |i::_=>[strSub x 0 i,y,strSub x (i+y.length) x.length]
 |[]=>[x,nC,nC]
def Dk:V->List V->Hp->VK->Prop:=λx vs H Q=>∃a b,x= .str a/\vs=[.str b]/\(b.length==0)=dt/\a.length<=10000/\∀p,H p=none->Q (.ref p) (upd H p (.tup ((nI a b).map V.str)))
theorem Cy:D5 X "str.partition" Dk:=by
 intro pins s σ H x vs v us Q I W U h;obtain⟨a,b,rfl,rfl,S,P,q⟩:=h;obtain⟨u,rfl,R⟩:=U.one;obtain⟨t,rfl⟩:=(show ∃t,v=kS a t from W);obtain⟨T,rfl⟩:=(show ∃t,u=kS b t from R);refine LS F.slot_str_partition (Mj _ _ _) F.entry_str_partition (F.args_str_partition_2 _ _) (meets_str_partition a b t T S (JG P GK)) ?_;have O:=I.hok.fresh (Jw _);have Y:∀a b c:Str,([a,b,c].map V.str).length<=sizeLine:=λ_ _ _=>by show 3<=sizeLine;rw[Kc];decide
 have Z:=q _ O;unfold nI at Z;cases ho:g8 a b 0 a.length 1 with
 |nil=>
  rw[ho]at Z;exact⟨.ref s.heap.objs.size,_,I.laid (λb o e=>Jv _ e) (Jw _) (show aW X.prog X.w _ _ _ (.tup ([a,nC,nC].map V.str))from⟨kA (Y _ _ _),_,.cons ⟨_,rfl⟩ (.cons ⟨_,rfl⟩ (.cons ⟨_,rfl⟩ .nil)),Nk _ _⟩),rfl,Z⟩
 |cons i r=>
  rw[ho]at Z;exact⟨.ref s.heap.objs.size,_,I.laid (λb o e=>Jv _ e) (Jw _) (show aW X.prog X.w _ _ _ (.tup ([j_ a 0 i,b,j_ a (i+b.length) a.length].map V.str))from⟨kA (Y _ _ _),_,.cons ⟨_,rfl⟩ (.cons ⟨_,rfl⟩ (.cons ⟨_,rfl⟩ .nil)),Nk _ _⟩),rfl,Z⟩
def ke:D->List D->M D:=λt ds=>match t,ds with
 | .str a,[.str b]=>if (b.length==0)=dt/\a.length<=10000 then cq ((nI a b).map D.str)else M.fail
 |_,_=>M.fail
theorem nJ{K:dV}{ι:List c_}{H:Hp}:∀l:List Str,RelDs K ι H (l.map D.str) (l.map V.str)
 |[]=>.nil
 |x::l=>.cons (.str x) (nJ l)
theorem Ah:C7 X.K E ke Dk:=by
 intro ι S H d ds v vs Q rep r rs c;unfold ke at c;split at c
 ·next a b=>
  obtain⟨w,ws,rfl,Y,Z⟩:=rs.cons_inv;cases Z.nil_inv;cases r;cases Y;split at c
  ·next hb=>exact⟨a,b,rfl,rfl,hb.1,hb.2,(d4 c rep (nJ _)).2⟩
  ·exact(af c).elim
 ·exact(af c).elim
open Builtin.Str in
def Ai:V->List V->Hp->VK->Prop:=λx vs H Q=>∃a b,x= .str a/\vs=[.str b]/\(b.length==0)=dt/\a.length<=10000/\(Txt.split a b).length<=lim/\∀p,H p=none->Q (.ref p) (upd H p (.lst ((Txt.split a b).map V.str)))
theorem pR:∀(l:List Str) (k:Nat),aX (l.map V.str) (strsFrom k l)
 |[],k=>.nil
 |x::l,k=>.cons ⟨_,rfl⟩ (pR l (k+1))
theorem Aj:D5 X "str.split" Ai:=by
 intro pins s σ H x vs v us Q I P O h;obtain⟨a,b,rfl,rfl,R,L,S,q⟩:=h;obtain⟨u,rfl,N⟩:=O.one;obtain⟨t,rfl⟩:=(show ∃t,v=kS a t from P);obtain⟨T,rfl⟩:=(show ∃t,u=kS b t from N);have K:=I.hok.fresh (Jw _);have W:=q _ K;have U:=JG L GK;have one:∀{t:Tok},(Txt.split a b=[a])->EP X pins σ Q (.ref s.heap.objs.size) {s with heap:=s.heap.push {cls:=.type "list",data:=.seq [kS a t].toArray}}:=λ{t} e=>by rw[e]at W;exact⟨.ref s.heap.objs.size,_,I.laid (t':=s.toks) (λb o e=>Jv _ e) (Jw _) (show aW X.prog X.w _ _ _ (.lst ([a].map V.str))from⟨by show 1<=sizeLine;rw[Kc];decide,[.str a t],_,.cons ⟨_,rfl⟩ .nil,JD _ rfl⟩),rfl,W⟩
 by_cases h1:(decide (a.length<b.length)||decide (r7 a<r7 b))=dr
 ·exact LS Me (Mj _ _ _) MS (My _ _) (meets_str_split_cannot_occur a b t T h1) (one (by unfold Txt.split;exact if_pos h1))
 ·have Z:(decide (a.length<b.length)||decide (r7 a<r7 b))=false:=by simpa using h1
  by_cases h2:(g8 a b 0 a.length (a.length+1)).isEmpty=dr
  ·exact LS Me (Mj _ _ _) MS (My _ _) (meets_str_split_not_found a b t T Z R h2) (one (by unfold Txt.split;rw[if_neg h1,if_pos h2]))
  ·have e:Txt.split a b=Builtin.Str.partsBetween a (g8 a b 0 a.length (a.length+1)) b.length:=by unfold Txt.split;rw[if_neg h1,if_neg h2]
   rw[e]at W S;have Y:=JG S dZ;refine LS Me (Mj _ _ _) MS (My _ _) (meets_str_split_sep a b t T Z R (by simpa using h2) U Y) ?_;exact⟨.ref s.heap.objs.size,_,I.laid (λb o e=>Jv _ e) (Jw _) (show aW X.prog X.w _ _ _ (.lst ((Builtin.Str.partsBetween a (g8 a b 0 a.length (a.length+1)) b.length).map V.str))from⟨by rw[Jy];exact Y,_,_,pR _ _,JD _ rfl⟩),rfl,W⟩
def hV:D->List D->M D:=λt ds=>match t,ds with
 | .str a,[.str b]=>if (b.length==0)=dt/\a.length<=10000/\(Txt.split a b).length<=lim then a8 ((Txt.split a b).map D.str)else M.fail
 |_,_=>M.fail
theorem xM:C7 X.K E hV Ai:=by
 intro ι S H d ds v vs Q rep r rs c;unfold hV at c;split at c
 ·next a b=>
  obtain⟨w,ws,rfl,Y,Z⟩:=rs.cons_inv;cases Z.nil_inv;cases r;cases Y;split at c
  ·next hb=>exact⟨a,b,rfl,rfl,hb.1,hb.2.1,hb.2.2,(ba c rep (nJ _)).2⟩
  ·exact(af c).elim
 ·exact(af c).elim
def Dl:D->M Unit
 | .str _=>a_ ()
 |_=>M.fail
abbrev gL(f:D->List D->M D)(m n:TM):TM:=λρ=>do let x<-m ρ;Dl x;let ds<-(do let y<-n ρ;let ys<-a_ [];a_ (y::ys));f x ds
theorem uP{name:Str}{R:String}{f:D->List D->M D}{r:V->List V->Hp->VK->Prop}{Z:Pos}(U:Slot "str" name R)(P:OF (.builtin R)=a_ (.type "method_descriptor"))(J:D5 X R r)(L:C7 X.K E f r)(A:SE X E o m)(C:SE X E e n)
  (W:i1 o name X.env (f' o X.env)=f' o X.env:=by rfl)
  (Y:(Z.endLine==pos.line)=true:=by rfl) (hs:d_ [e] X.env=[(dt,f' e X.env)]:=by rfl):
  SE X E (.Call (.Attribute o name Z) [e] [] pos) (gL f m n):=by
 refine PE.imp (C3 PySem.F.plainAttrs_str U P J A (ag C ao hs) W (by rw[hs];rfl) Y hs rfl) λσ H Q h=>?_;obtain⟨ι,S,ρ,rep,re,c⟩:=h;refine⟨ι,S,ρ,rep,re,aj (ai c) λx T S1 w e1 rep1 N v z=>?_⟩;cases x with
 |str us=>
  have B:=ah (ai N) .refl rep1;cases z;exact⟨rfl,T,S1,ρ,rep1,re.later rep e1,aj (ai B) λds O S2 G e2 rep2 y vs I=>L O S2 G _ ds _ vs Q rep2 (.str _) I y⟩
 |_=>exact(af (ai N)).elim
theorem v5{Z:Pos}(T:SE X E o m)(U:SE X E e n)(Y:i1 o "partition" X.env (f' o X.env)=f' o X.env:=by rfl)(W:(Z.endLine==pos.line)=true:=by rfl)(hs:d_ [e] X.env=[(dt,f' e X.env)]:=by rfl):
  SE X E (.Call (.Attribute o "partition" Z) [e] [] pos) (gL ke m n):=uP F.slot_str_partition F.type_str_partition Cy Ah T U Y W hs
theorem Ak{Z:Pos}(T:SE X E o m)(U:SE X E e n)(Y:i1 o "split" X.env (f' o X.env)=f' o X.env:=by rfl)(W:(Z.endLine==pos.line)=true:=by rfl)(hs:d_ [e] X.env=[(dt,f' e X.env)]:=by rfl):
  SE X E (.Call (.Attribute o "split" Z) [e] [] pos) (gL hV m n):=uP Me F.type_str_split Aj xM T U Y W hs
def strsOf:List D->Option (List Str)
 |[]=>ar []
 | .str y::ds=>(strsOf ds).map (y::·)
 |_::_=>none
theorem nL:∀l:List Str,strsOf (l.map D.str)=ar l
 |[]=>rfl
 |y::l=>by
  show(strsOf (l.map D.str)).map (y::·)=_;rw[nL l];rfl
theorem nM{K:dV}{ι:List c_}{H:Hp}:∀{ds:List D} {vs:List V} {l:List Str},strsOf ds=ar l->RelDs K ι H ds vs->vs=l.map V.str
 |[],_,l,e,r=>by cases e;cases r;rfl
 | .str y::ds,_,l,e,r=>by
  cases r with
  |cons r1 r2=>
   cases r1;obtain⟨Y,Z,rfl⟩:=Option.map_eq_some_iff.mp (show(strsOf ds).map (y::·)=ar l from e);rw[nM Z r2];rfl
theorem pS:∀{l:List Str} {its:List aC},aX (l.map V.str) its->∃Z:List (Str×Tok),Z.map (·.1)=l/\its=strValues Z
 |[],_,.nil=>⟨[],rfl,rfl⟩
 |y::l,_,.cons r rs=>by
  obtain⟨t,rfl⟩:=(show ∃t,_=kS y t from r);obtain⟨Z,e,rfl⟩:=pS rs;exact⟨(y,t)::Z,by rw[JQ,e],rfl⟩
def rJoin(K:dV):V->List V->Hp->VK->Prop:=λx vs H Q=>∃sep p l,x= .str sep/\vs=[.ref p]/\ir K H p (l.map V.str)/\(l.map (·.length)).sum+l.length*sep.length<=100000/\Q (.str (Txt.join sep l)) H
theorem sR(sep:Str)(l:List Str):(Builtin.Str.glued sep l).length<=(l.map (·.length)).sum+l.length*sep.length:=by rw[L7];exact StrLaws.join_length_le sep l
theorem Cz:D5 X "str.join" (rJoin X.K):=by
 intro pins s σ H x vs v us Q I S R h;obtain⟨sep,p,l,rfl,rfl,P,U,q⟩:=h;obtain⟨u,rfl,N⟩:=R.one;obtain⟨t,rfl⟩:=(show ∃t,v=kS sep t from S);cases (show u=eg p from N);obtain⟨its,r,T,L⟩:=I.list P;obtain⟨W,e,rfl⟩:=pS r;have Y:100000<=sizeLine:=by rw[Kc];decide
 have Z:Builtin.Str.tooLong ((W.map (·.1)).toArray.foldl (· +·.length+sep.length) 0)=false:=by rw[e,StrLaws.joinTotal];unfold Builtin.Str.tooLong;exact J1 (by omega)
 refine LS F.slot_str_join (Mj _ _ _) F.entry_str_join (F.args_str_join_2 _ _) (meets_str_join_list sep t p W Z) ⟨T.isList,?_⟩;unfold Txt.join at q
 match W,e with
 |[],e=>
  rw[<-e]at q;exact⟨JG (sR sep []) (by simp),.str _,H,I.tok _,⟨_,rfl⟩,q⟩
 |[a],e=>
  rw[<-e]at q;exact⟨.str a.1,H,I,⟨_,rfl⟩,q⟩
 |a::b::r,e=>
  have O:=sR sep ((a::b::r).map (·.1));rw[<-e]at q U;exact⟨JG O (JG U Y),.str _,H,I.tok _,⟨_,rfl⟩,q⟩
def lG:D->List D->M D:=λt ds=>match t,ds with
 | .str sep,[.fz es]=>match strsOf es with
  |some l=>if (l.map (·.length)).sum+l.length*sep.length<=100000 then a_ (.str (Txt.join sep l))else M.fail
  |none=>M.fail
 |_,_=>M.fail
theorem Al:C7 X.K E lG (rJoin X.K):=by
 intro ι S H d ds v vs Q rep r rs c;unfold lG at c;split at c
 ·next sep es=>
  obtain⟨w,ws,rfl,W,Y⟩:=rs.cons_inv;cases Y.nil_inv;cases r;split at c
  ·next l hl=>
   split at c
   ·next hb=>
    obtain⟨p,o,us,rfl,Z,U⟩:=W.fz_inv;rw[nM hl U]at Z;exact⟨sep,p,l,rfl,rfl,.inl (.inr ⟨o,Z⟩),hb,ah c .refl rep _ (.str _)⟩
   ·exact(af c).elim
  ·exact(af c).elim
 ·exact(af c).elim
theorem sS{Z:Pos}(T:SE X E o m)(U:SE X E e n)(Y:i1 o "join" X.env (f' o X.env)=f' o X.env:=by rfl)(W:(Z.endLine==pos.line)=true:=by rfl)(hs:d_ [e] X.env=[(dt,f' e X.env)]:=by rfl):
  SE X E (.Call (.Attribute o "join" Z) [e] [] pos) (gL lG m n):=uP F.slot_str_join F.type_str_join Cz Al T U Y W hs
end
end S3
end
namespace W
open PySem PySem.Spec PyProof.Rows L2 S3 S4 S7
def nN:cW:=bS (oJ (gh (mV 0) "int") (IA (gh (mV 0) "bool")))
def b7:List D->M D:=lR 1 1 nN
def pT:cW:=bS (oJ (gh (mV 0) "tuple") (aV ja (cD jq (mV 0)) (mK (.int 2))))
def cI:List D->M D:=lR 1 1 pT
def fD:il:=lC
def fE:TM:=aV ye (mV 0) (mV 1)
def lH:cW:=bS (cD m4 (aP (br (sJ (mV 0) (aP (Dd (mV 0) (oS (mK (.int 1))) oN))) (dY 2 (bc (gN 0) (bc (gN 1) eN))) fD fE [none,none])))
def eQ:List D->M D:=lR 1 1 lH
def cg:il:=lC
def cm:TM:=aV Cq (mV 0) (mK (.str "0123456789"))
def gk:cW:=aH (jv (vM (cQ (gX rH rH (mK (.int 1)) (cD jd (mV 0)) (mK (.int 2)))) (cQ (bV (cD m4 (aP (br (xH (mV 0)) (gN 0) cg cm [none])))))) (bS (mK .non)) dX) (aH (jv (xy (fM yQ (cD jd (mV 0)) (mK (.int 1))) (fM ja (aV xJ (mV 0) (mK (.int 0))) (mK (.str "0")))) (bS (mK .non)) dX) (bS (cD pO (mV 0))))
def bC:List D->M D:=lR 1 1 gk
def iM:cW:=aH (jv (fM ye (mV 1) (cD jq (mV 0))) (bS (aV ff (mV 0) (mV 1))) dX) (bS (mK (.int 0)))
def cS:List D->M D:=lR 2 2 iM
def lI:cW:=aH (jv (bV (aV ff (mV 0) (mK (.int 1)))) (aH (bE 2 (aV jm (aV ff (mV 0) (mK (.int 0))) (mV 1))) (aH (oK (aV jV (aV ff (mV 0) (mK (.int 0))) (mV 1)) (Hu (mV 0) (mK (.int 0)))) (bS (mV 2)))) dX) (aH (oK (aV jm (aV cK (aV qv (aV ff (mV 0) (mK (.int 0))) (mK (.int 48271))) (mK (.int 29))) (mK (.int 2147483647))) (Hu (mV 0) (mK (.int 0)))) (aH (bE 3 (aV jm (aV cK (aV cK (aV qv (aV ff (mV 0) (mK (.int 0))) (aV ff (mV 0) (mK (.int 0)))) (aV qv (mK (.int 39373)) (aV ff (mV 0) (mK (.int 0))))) (mK (.int 7))) (mK (.int 2147483629)))) (aH (bE 3 (aV jm (aV cK (aV qv (mV 3) (mV 3)) (aV qv (mK (.int 16807)) (mV 3))) (mK (.int 2147483587)))) (bS (aV jm (aV jV (mV 3) (mK (.int 8))) (mV 1))))))
def aF:List D->M D:=lR 4 2 lI
def dn:il:=lC
def dq:TM:=kb (aa (mV 1) (aa (mV 0) au))
def eV:cW:=rJ (sv jX (mV 1) (aP (br (Df (aV cK (mV 2) (mK (.int 1))) (mV 0)) (gN 0) dn dq [none,ar 2])))
def kf:cW:=aH (bE 1 (bo au)) (aH (oM (uz (mV 0)) (gN 2) eV) (bS (mV 1)))
def aZ:List D->M D:=lR 3 1 kf
def nO:cW:=bS (oJ (aA b7 (aa (mV 1) au)) (EJ rH ye (mK (.int 0)) (mV 1) (mV 0)))
def fF:List D->M D:=lR 2 2 nO
def jx:cW:=aH (oK (gL ke (mV 0) (mK (.str "-"))) (dY 3 (bc (gN 1) (bc (gN 2) (bc (gN 3) eN))))) (bS (kb (aa (aP (aA bC (aa (mV 1) au))) (aa (aP (aA bC (aa (mV 3) au))) au))))
def d8:List D->M D:=lR 4 1 jx
def kg:cW:=aH (bE 2 (aA cS (aa (mV 0) (aa (mV 1) au)))) (aH (jv (fM Iu (mV 2) (aV yP (mK (.int 10)) (mK (.int 18)))) (bS (bo (aa (aV fN (mV 2) (aV yP (mK (.int 10)) (mK (.int 18)))) (aa (mK (.bl dr)) au)))) dX) (bS (bo (aa (aV jm (mV 2) (mK (.int 2147483647))) (aa (mK (.bl dt)) au)))))
def fq:List D->M D:=lR 3 2 kg
def bJ:cW:=rJ (sv b8 (mV 3) (sv kJ (mV 2) (aP (aA aF (aa (mV 0) (aa (cD jq (mV 2)) au))))))
def c8:cW:=aH (bE 2 (cD px (mV 1))) (aH (bE 3 (bo au)) (aH (EK 64 (fM jC (mV 2) (aP (bo au))) bJ) (bS (mV 3))))
def cn:List D->M D:=lR 4 2 c8
def da:cW:=aH (bE 4 (aP (aA aF (aa (mV 0) (aa (mV 1) au))))) (aH (bE 5 (aV jm (aV cK (aV cK (mV 4) (mK (.int 1))) (aP (aA aF (aa (mV 0) (aa (aV fN (mV 1) (mK (.int 1))) au))))) (mV 1))) (rJ (sv b8 (mV 2) (kb (aa (aA minD (aa (mV 4) (aa (mV 5) au))) (aa (aA maxD (aa (mV 4) (aa (mV 5) au))) au))))))
def c9:cW:=aH (bE 1 (aV cK (mK (.int 8)) (aP (aA aF (aa (mV 0) (aa (mK (.int 7)) au)))))) (aH (bE 2 (bo au)) (aH (oM (uz (aP (aA aF (aa (mV 0) (aa (mK (.int 12)) au))))) (gN 3) da) (bS (kb (aa (mV 1) (aa (cD dw (aP (cD j9 (mV 2)))) au))))))
def bB:List D->M D:=lR 6 1 c9
def dJ:cW:=aH (bE 1 (bo (aJ (mK .non) (aJ (mK (.int 0)) (aJ (mK (.tup [])) (aJ (mK (.tup [.int 15,.tup []])) (aJ (mK (.tup [.int (-1),.tup []])) (aJ (mK (.tup [.bl dr,.tup []])) (aJ (kb (aa (mK (.int 2)) (aa (bo au) au))) (aJ (bo (aa (mK (.int 2)) (aa (mK (.tup [])) au))) (aJ (mK (.tup [.int 2,.tup [.tup [.int 1,.int 0]]])) (aJ (mK (.tup [.int 2,.tup [.tup [.int 0,.int 0]]])) (aJ (mK .emp) (aJ (mK (.str "2:")) au)))))))))))))) (aH (bE 1 (aV cK (mV 1) (bo (aJ (mK (.tup [.int 2,.tup [.tup [.int 0,.int 1],.tup [.int 0,.int 1]]])) (aJ (mK (.tup [.int 3,.tup [.tup [.int 0,.int 2],.tup [.int 0,.int 1]]])) (aJ (mK (.tup [.int 2,.tup [.tup [.int 0,.int 2]]])) (aJ (mK (.tup [.int 2,.tup [.tup [.int 0,.bl dr]]])) (aJ (mK (.tup [.int 2,.tup [.tup [.int 0,.int 1,.int 1]]])) au)))))))) (aH (bE 1 (aV cK (mV 1) (bo (aJ (mK (.tup [.int 2,.tup [.int 0,.int 1]])) (aJ (mK (.tup [.int 2,.non])) (aJ (mK (.tup [.int 2,.tup [],.tup []])) (aJ (mK (.tup [.int 2])) (aJ (kb (aa (mK (.int 2)) (aa (kb (aa (bo (aa (mK (.int 0)) (aa (mK (.int 1)) au))) au)) au))) (aJ (mK (.tup [.int 2,.tup [.non]])) (aJ (mK (.tup [.str "2",.tup []])) (aJ (mK (.tup [.int 0,.tup [.tup [.int 0,.int 1]]])) au))))))))))) (bS (aV ff (mV 1) (aA aF (aa (mV 0) (aa (mK (.int 25)) au)))))))
def dM:List D->M D:=lR 2 1 dJ
def nP:cW:=aH (jv (cQ (bV (aA cI (aa (mV 1) au)))) (bS (mK (.bl dt))) dX) (aH (oK (mV 1) (dY 2 (bc (gN 2) (bc (gN 3) eN)))) (bS (oJ (aA fF (aa (mV 0) (aa (mV 2) au))) (oJ (aA fF (aa (mV 0) (aa (mV 3) au))) (aV ye (mV 2) (mV 3))))))
def kh:List D->M D:=lR 4 2 nP
def gm:il:=fM ye (aP (aA aF (aa (mV 1) (aa (mK (.int 8)) au)))) (aV ff (aP (bo (aa (mK (.int 2)) (aa (mK (.int 4)) (aa (mK (.int 6)) au))))) (aV jm (mV 2) (mK (.int 3))))
def gn:TM:=mV 0
def eB:cW:=rJ (sv b8 (mV 4) (cD dw (aP (cD cN (aP (bo (aa (aV ff (mV 5) (mV 6)) (aa (aV ff (mV 5) (aV ff (aP (bo (aJ (aV fN (mV 6) (mK (.int 1))) (aJ (aV fN (mV 6) (mK (.int 1))) (aJ (mK (.int 0)) (aJ (aV jV (mV 6) (mK (.int 2))) au)))))) (aV fN (mV 3) (mK (.int 3))))) au))))))))
def di:il:=fM ja (aP (aA aF (aa (mV 1) (aa (mK (.int 12)) au)))) (mK (.int 0))
def dj:TM:=mV 0
def eE:il:=fM jC (aV inD (mV 0) (mV 1)) (aV inD (mV 0) (mV 2))
def eF:TM:=mV 0
def hZ:cW:=aH (bE 2 (aA maxD (aa (mK (.int 0)) (aa (aV fN (mV 1) (aV ff (aP (bo (aJ (mK (.int 0)) (aJ (mK (.int 0)) (aJ (mK (.int 1)) (aJ (mK (.int 0)) (aJ (mK (.int 2)) (aJ (mK (.int 1)) (aJ (mK (.int 3)) (aJ (mV 1) au)))))))))) (aP (aA aF (aa (mV 0) (aa (mK (.int 8)) au)))))) au)))) (aH (bE 3 (aP (aA aF (aa (mV 0) (aa (mK (.int 7)) au))))) (aH (bE 4 (br (d7 (aP (aA aZ (aa (mV 2) au)))) (gN 0) gm gn [none,ar 0,ar 3])) (aH (bE 5 (aP (aA cn (aa (mV 0) (aa (aP (cD dy (mV 2))) au))))) (aH (jv (fM yQ (mV 3) (mK (.int 2))) (aH (bE 4 (bo au)) (aH (oM (Df (mK (.int 1)) (mV 2)) (gN 6) eB) (aH (jv (xy (fM ja (mV 3) (mK (.int 4))) (fM yQ (mV 2) (mK (.int 2)))) (rJ (sv b8 (mV 4) (cD dw (aP (cD cN (aP (bo (aa (aV ff (mV 5) (mK (.int 0))) (aa (aV ff (mV 5) (aV fN (mV 2) (mK (.int 1)))) au))))))))) dX) (aH (bE 7 (aP (br (d7 (aP (aA aZ (aa (mV 2) au)))) (gN 0) di dj [none,ar 0]))) (bE 4 (br (d7 (aP (aA aZ (aa (mV 2) au)))) (gN 0) eE eF [none,ar 4,ar 7])))))) dX) (bS (kb (aa (mV 2) (aa (cD dw (aP (cD cN (mV 4)))) au))))))))
def dz:List D->M D:=lR 8 2 hZ
def fY:il:=lC
def fZ:TM:=aP (aA kh (aa (mV 1) (aa (mV 0) au)))
def nQ:cW:=aH (jv (cQ (bV (aP (aA cI (aa (mV 0) au))))) (bS (mK (.bl dt))) dX) (aH (oK (mV 0) (dY 2 (bc (gN 1) (bc (gN 2) eN)))) (aH (jv (vM (cQ (bV (aP (aA b7 (aa (mV 1) au))))) (vM (cQ (gX rH rH (mK (.int 0)) (mV 1) (mK (.int 14)))) (cQ (bV (gh (mV 2) "tuple"))))) (bS (mK (.bl dt))) dX) (bS (oJ (cD m4 (aP (br (d7 (mV 2)) (gN 0) fY fZ [none,ar 1]))) (aP (aA eQ (aa (mV 2) au)))))))
def dN:List D->M D:=lR 3 1 nQ
def nR:cW:=jv (cQ (bV (aP (aA dN (aa (mV 0) au))))) (uH "NoWeb" (aa (mK (.str "this is no web")) au)) dX
def d9:List D->M D:=pv 1 1 nR
def eI:il:=lC
def eJ:TM:=pP (fX (mK (.str " ")) (fX (cD gF (mV 0)) (fX (mK (.str "-")) (fX (cD gF (mV 1)) uO))))
def ia:cW:=aH (rJ (aP (aA d9 (aa (mV 0) au)))) (aH (oK (mV 0) (dY 2 (bc (gN 1) (bc (gN 2) eN)))) (bS (aV ig (pP (fX (cD gF (mV 1)) (fX (mK (.str ":")) uO))) (gL lG (mK (.str "")) (aP (FG (br (d7 (mV 2)) (dY 2 (bc (gN 0) (bc (gN 1) eN))) eI eJ [none,none])))))))
def bP:List D->M D:=pv 3 1 ia
def eL:il:=lC
def eM:TM:=aP (aA d8 (aa (mV 0) au))
def jz:cW:=aH (jv (cQ (bV (gh (mV 0) "str"))) (uH "NoText" (aa (mK (.str "this is no text")) au)) dX) (aH (oK (gL ke (mV 0) (mK (.str ":"))) (dY 3 (bc (gN 1) (bc (gN 2) (bc (gN 3) eN))))) (aH (bE 4 (kb (aa (aP (aA bC (aa (mV 1) au))) (aa (cD dw (aP (FG (br (d7 (aP (Dd (aP (gL hV (mV 3) (mK (.str " ")))) (oS (mK (.int 1))) oN))) (gN 0) eL eM [none])))) au)))) (aH (jv (vM (cQ (bV (aP (aA dN (aa (mV 4) au))))) (fM jC (aP (aA bP (aa (mV 4) au))) (mV 0))) (uH "NoText" (aa (mK (.str "this is not how a web is written")) au)) dX) (bS (mV 4)))))
def dC:List D->M D:=pv 5 1 jz
def fG(F:List D->M D):il:=lC
def fH(F:List D->M D):TM:=aP (aA F (aa (mV 0) (aa (mV 1) au)))
def cz(F:List D->M D):cW:=aH (jv (bV (De (mV 1) "tuple" "list")) (aH (jv (vM (fM jC (gh (mV 0) "tuple") (gh (mV 1) "tuple")) (fM jC (gh (mV 0) "list") (gh (mV 1) "list"))) (bS (mK (.bl dt))) dX) (aH (jv (fM jC (cD jq (mV 0)) (cD jq (mV 1))) (bS (mK (.bl dt))) dX) (bS (cD m4 (aP (br (sJ (mV 0) (mV 1)) (dY 2 (bc (gN 0) (bc (gN 1) eN))) (fG F) (fH F) [none,none])))))) dX) (bS (oJ (aV ja (mV 0) (mV 1)) (aV ja (gh (mV 0) "bool") (gh (mV 1) "bool"))))
def bL:Nat->List D->M D
 |0=>λ_=>M.fail
 |n+1=>lR 2 2 (cz (bL n))
def eR:List D->M D:=bL 6
def bF:il:=bV (aV ff (mV 1) (mV 0))
def bG:TM:=mV 0
def dO(fv:D)(cc:M D):cW:=aH (bE 1 (mK .non)) (aH (sG 0 2 1 fv cc) (aH (bE 3 (bo (aa (cf (mV 1) "NoWeb") (aa (cf (mV 1) "NoPlace") (aa (cf (mV 1) "NoPlaces") au))))) (aH (bE 3 (aV cK (mV 3) (aP (bo (aa (cf (mV 1) "NoMap") (aa (cf (mV 1) "NoSharing") (aa (cf (mV 1) "NoRoot") au))))))) (aH (bE 3 (aV cK (mV 3) (aP (bo (aa (cf (mV 1) "NoNumber") (aa (cf (mV 1) "NotJoined") (aa (cf (mV 1) "NoTie") au))))))) (aH (bE 3 (aV cK (mV 3) (aP (bo (aa (cf (mV 1) "NoText") (aa (cf (mV 1) "NoLine") (aa (cf (mV 1) "NoDeed") au))))))) (aH (rJ (sv b8 (mV 3) (cf (mV 1) "TooGreat"))) (aH (jv (cQ (bV (z5 (mV 1)))) (bS (mK .non)) dX) (aH (bE 4 (aP (br (uz (mK (.int 13))) (gN 0) bF bG [none,ar 3]))) (bS (IB (fM ja (mV 4) (aP (bo (aa (mK (.int 12)) au)))) (aP (aV cK (mV 4) (aP (bo (aa (lF dt (mV 1)) (aa (lF dr (mV 1)) au)))))) (mV 4)))))))))))
def bh:D->M D->List D->M D:=λfv cc es=>pv 5 1 (dO fv cc) (fv::es)
def bt:M D->List D->M D:=bh (.fn 0 0 "" [] [])
def iN:il:=lC
def iO:TM:=aV ig (aV ig (cD gF (mV 0)) (mK (.str "-"))) (cD gF (mV 1))
def iP:cW:=aH (bE 4 (gL lG (mK (.str " ")) (aP (aV cK (aP (bo (aa (aV ig (cD gF (aV ff (mV 3) (mK (.int 0)))) (mK (.str ":"))) au))) (aP (br (d7 (aV ff (mV 3) (mK (.int 1)))) (dY 2 (bc (gN 0) (bc (gN 1) eN))) iN iO [none,none])))))) (jv (vM (cQ (bV (aP (aA eR (aa (aP (aA bP (aa (mV 3) au))) (aa (mV 4) au)))))) (cQ (bV (aP (aA eR (aa (aP (aA dC (aa (mV 4) au))) (aa (mV 3) au))))))) (bS (mK (.bl dt))) dX)
def nS:TM:=aP (aA bP (aa (mV 0) au))
def iQ:cW:=aH (bE 2 (aA fq (aa (mV 0) (aa (mV 1) au)))) (aH (oM (d7 (aP (bo (aa (aP (aA dz (aa (mV 2) (aa (mK (.int 7)) au)))) (aa (aP (aA bB (aa (mV 2) au))) au))))) (gN 3) iP) (aH (bE 5 (aP (aA dM (aa (mV 2) au)))) (jv (fM jC (aP (uG [5] au nS bt)) (aP (bo (aa (mK (.int 0)) au)))) (bS (mK (.bl dt))) dX)))
def Am:cW:=aH (oM (uz (aA maxD (aa (mK (.int 1)) (aa (aA minD (aa (cD jq (mV 0)) (aa (mK (.int 10)) au))) au)))) (gN 1) iQ) (bS (aV ja (aP (aA dC (aa (mK (.str "0:")) au))) (mK (.tup [.int 0,.tup []]))))
def pU:List D->M D:=lR 6 1 Am
theorem sT:2<=lim:=by unfold lim;omega
theorem GL:3<=lim:=by unfold lim;omega
theorem GN:C5 (ar d::r) 0=a_ d:=rfl
theorem GO:C5 (o0::ar d::r) 1=a_ d:=rfl
theorem GP:C5 (o0::o1::ar d::r) 2=a_ d:=rfl
theorem GQ:C5 (o0::o1::o2::ar d::r) 3=a_ d:=rfl
theorem GR:C5 (o0::o1::o2::o3::ar d::r) 4=a_ d:=rfl
theorem ki:gE S n (.int i)=ar (.int i):=by cases n<;>rfl
theorem kR:gE S n (.bl b)=ar (.bool b):=by cases n<;>rfl
theorem eq_int{Q:D->aw->Prop}:runs (ja (.int a) (.int b)) S Q↔Q (.bl (decide (a=b))) S:=by
 unfold ja;rw[dI ki ki];have:hO (.int a) (.int b)=decide (a=b):=by simp only[hO];rw[Mp];simp
 rw[this]
theorem sU(l:List Bool):boolsOf (l.map D.bl)=ar l:=by
 induction l with
 |nil=>rfl
 |cons b l ih=>simp[boolsOf,ih]
theorem cF:(S++[xs])[S.length]? =ar xs:=by simp
theorem GS{Q:D->aw->Prop}:runs (ja (.bl a) (.bl b)) S Q↔Q (.bl (a==b)) S:=by
 unfold ja;rw[dI kR kR];have:hO (.bool a) (.bool b)=(a==b):=by cases a<;>cases b<;>simp[hO]
 rw[this]
theorem xN{Z:Type}(a:Z):lQ (a_ a:M Z)=a_ a:=rfl
theorem CA{Z Y:Type}{c:Prop} [Decidable c]{a b:M Z}{f:Z->M Y}:((if c then a else b)>>=f)=if c then a>>=f else b>>=f:=by split<;>rfl
theorem cG{Z:Type}(l:List Z):l.filter (λ_=>dr)=l:=List.filter_eq_self.mpr λ_ _=>rfl
theorem de{m:cW}{ds:List D}(h:m (ds.map ar++j1 (N - n) none)=a_ o)(Y:outD o=a_ d)(Z:ds.length=n:=by rfl):lR N n m ds=a_ d:=by unfold lR pv;rw[if_pos Z];show(lQ (m _)>>=outD)=_;rw[h,xN,ak,Y]
theorem An{m n:TM}(Z:m ρ=a_ x)(Y:n ρ=a_ y):Df m n ρ=iX [x,y]:=by
 have:aa m (aa n au) ρ=a_ [x,y]:=by unfold aa;rw[Z,ak,Y,ak];rfl
 unfold Df;rw[this,ak]
theorem uQ{m:TM}(Z:m ρ=a_ x):uz m ρ=jr [x]:=by
 have:aa m au ρ=a_ [x]:=by unfold aa;rw[Z,ak];rfl
 unfold uz;rw[this,ak]
theorem GT(h: -(2 ^ 62)<=i/\i<2 ^ 62/\ -(2 ^ 62)<=j/\j<2 ^ 62):iX [.int i,.int j]=a_ ⟨aS i (j - i).toNat,.none⟩:=by unfold iX;exact if_pos h
theorem CB(h: -(2 ^ 62)<=j/\j<2 ^ 62):jr [.int j]=a_ ⟨aS 0 j.toNat,.none⟩:=by unfold jr;exact if_pos h
theorem cH{f:D->D->M D}{m n:TM}(Z:m ρ=a_ x)(Y:n ρ=a_ y):aV f m n ρ=f x y:=by unfold aV;rw[Z,ak,Y,ak]
theorem fI{f:List D->M D}{m:TM}(h:m ρ=a_ x):cD f m ρ=f [x]:=by
 have:aa m au ρ=a_ [x]:=by unfold aa;rw[h,ak];rfl
 unfold cD aA;rw[this,ak]
theorem df{m:TM}(h:m ρ=a_ x):bS m ρ=a_ (.ret x):=by unfold bS;rw[h];rfl
theorem qT(bs:List Bool):bU 0 (bs.map D.bl)=true:=by
 induction bs with
 |nil=>rfl
 |cons x r ih=>rw[JQ];unfold bU;rw[ih];unfold eA;rfl
theorem kj{mi:aB->M Iter}{g:mR}{t:il}{m:TM}(R:aB->Prop)(q:D->Bool)(f:D->D)(W:mi ρ=a_ ⟨its,.none⟩)(Z:its.length<=lim)(U:R (i8 js ρ))(Y:∀d∈its,∀ ρ,R ρ->∃ ρ1,g d ρ=a_ ρ1/\R ρ1/\t ρ1=a_ (q d)/\(q d=dr->m ρ1=a_ (f d)))
  (X:bU 0 ((its.filter q).map f)=dr):aP (br mi g t m js) ρ=a_ (.fz ((its.filter q).map f)):=by
 have e:br mi g t m js ρ=a8 ((its.filter q).map f):=by unfold br;rw[W,ak,Cp R q f Z U Y,ak]
 unfold aP;rw[e];exact bR X (by rw[Jy];exact JG (Ll _ _) Z)
section
variable {m n:cW}{ρ ρ':aB}{e e1 e2:TM}{x y d:D}{t:il}{b:Bool}{o:Out}{N k:Nat}{ds:List D}{F:List D->M D}
theorem bj(h:m ρ=a_ (.nx ρ')):aH m n ρ=n ρ':=by unfold aH;rw[h];rfl
theorem fJ(h:m ρ=a_ (.ret d)):aH m n ρ=a_ (.ret d):=by unfold aH;rw[h];rfl
theorem uR(h:m ρ=M.raise x):aH m n ρ=M.raise x:=by unfold aH;rw[h];rfl
theorem GU(h:e ρ=a_ x):rJ e ρ=a_ (.nx ρ):=by unfold rJ;rw[h];rfl
theorem Ao(h:e ρ=M.raise x):rJ e ρ=M.raise x:=by unfold rJ;rw[h];rfl
theorem Ap(h:e ρ=a_ x):bE i e ρ=a_ (.nx (ρ.set i (ar x))):=by unfold bE;rw[h];rfl
theorem cT(h:t ρ=a_ b):jv t m n ρ=if b=dr then m ρ else n ρ:=by unfold jv;rw[h];rfl
theorem eX{f:D->D->M D}(Z:e1 ρ=a_ x)(Y:e2 ρ=a_ y)(h:f x y=a_ (.bl b)):fM f e1 e2 ρ=a_ b:=by unfold fM;rw[Z,ak,Y,ak,h];rfl
theorem cU(h:e ρ=a_ x):aA F (aa e au) ρ=F [x]:=fI h
theorem pV(h:e ρ=a_ x):aP e ρ=a_ x:=by unfold aP;rw[h];exact Cm
theorem IX(h:e ρ=M.raise x):aP e ρ=M.raise x:=by unfold aP;rw[h];exact Aa
theorem uS(h:m (ds.map ar++j1 (N - k) none)=a_ o)(Y:outD o=a_ d)(Z:ds.length=k:=by rfl):pv N k m ds=a_ d:=by unfold pv;rw[if_pos Z,h,ak,Y]
theorem pW(h:m (ds.map ar++j1 (N - k) none)=M.raise x)(Z:ds.length=k:=by rfl):pv N k m ds=M.raise x:=by unfold pv;rw[if_pos Z,h];rfl
end
theorem xO:lQ (a8 us)=a8 us:=by
 funext S;unfold lQ a8;by_cases h:us.length<=lim
 ·rw[if_pos h]
 ·rw[if_neg h]
theorem call2{F:List D->M D}{e1 e2:TM}(Z:e1 ρ=a_ x)(Y:e2 ρ=a_ y):aA F (aa e1 (aa e2 au)) ρ=F [x,y]:=by
 have:aa e1 (aa e2 au) ρ=a_ [x,y]:=by unfold aa;rw[Z,ak,Y,ak];rfl
 unfold aA;rw[this,ak]
theorem iR{e:TM}(h:e ρ=a_ (.bl b)):bV e ρ=a_ b:=by unfold bV;rw[h];rfl
theorem qU{us:List D}(h:us.length<=lim):dw [.fz us]=a_ (.tup us):=by show cq us=_;unfold cq;rw[if_pos h]
section
variable {α β:Type}{c:M α}{f:α->M β}{S S1:aw}{a:α}
theorem aE(h:c S=ar (.ok a,S1)):(c>>=f) S=f a S1:=by show M.bnd c f S=_;unfold M.bnd;rw[h]
end
section
variable {m n:cW}{ρ ρ':aB}{e e1 e2:TM}{x y:D}{S S1 S2:aw}{c:M D}{f:D->List D->M D}{F:List D->M D}
theorem aN(h:m ρ S=ar (.ok (.nx ρ'),S1)):aH m n ρ S=n ρ' S1:=aE h
theorem sV(h:e ρ S=ar (.ok x,S1)):rJ e ρ S=ar (.ok (.nx ρ),S1):=aE h
theorem bQ(h:e ρ S=ar (.ok x,S1)):bE i e ρ S=ar (.ok (.nx (ρ.set i (ar x))),S1):=aE h
theorem gp(h:e ρ S=ar (.ok x,S1)):bS e ρ S=ar (.ok (.ret x),S1):=aE h
theorem du{us:List D}(h:us.length<=lim):a8 us S=ar (.ok (.lst S.length),S++[us]):=by unfold a8;exact if_pos h
theorem dP(h:S[p]? =ar us):getL p S=ar (.ok us,S):=by unfold getL;rw[h];rfl
theorem kl{us:List D}(h:us.length<=lim)(Z:p<S.length):jR p us S=ar (.ok .non,S.set p us):=by unfold jR;exact if_pos ⟨h,Z⟩
theorem GV(Z:e1 ρ=a_ x)(Y:Em x=a_ ())(X:e2 ρ=c):sv f e1 e2 ρ=c>>=λy=>f x [y]:=by unfold sv;rw[Z,ak,Y,ak,X,fw];rfl
theorem sW(h:e ρ S=ar (.ok x,S1)):cD F e ρ S=F [x] S1:=by unfold cD aA;rw[aE (a:=[x]) (S1:=S1)];show(e ρ>>=_) S=_;rw[aE h];rfl
theorem uT(Z:e1 ρ S=ar (.ok x,S1))(Y:e2 ρ S1=ar (.ok y,S2)):kb (aa e1 (aa e2 au)) ρ S=ar (.ok (.tup [x,y]),S2):=by
 unfold kb;rw[aE (a:=[x,y]) (S1:=S2)]
 ·unfold cq;rw[if_pos (show[x,y].length<=lim from sT)];rfl
 ·show(e1 ρ>>=_) S=_;rw[aE Z];show(((e2 ρ>>=_)>>=_):M (List D)) S1=_;rw[aE (a:=[y]) (S1:=S2)]
  ·rfl
  ·rw[aE Y];rfl
end
theorem km:gD ⟨its,.none⟩ g b [] ρ=a_ (.nx ρ):=by unfold gD;rw[cR];rfl
theorem kU{g:mR}{b:cW}(h:g d ρ=a_ ρ1)(Z:b ρ1 S=ar (.ok (.nx ρ2),S1)):gD ⟨its,.none⟩ g b (d::ds) ρ S=gD ⟨its,.none⟩ g b ds ρ2 S1:=by rw[gD,cR,ak,h,ak,aE Z]
theorem eY{m:cW}{ds:List D}(h:m (ds.map ar++j1 (N - n) none) S=ar (.ok o,S1))(Y:outD o=a_ d)(Z:ds.length=n:=by rfl):lR N n m ds S=ar (.ok d,S1):=by
 unfold lR pv;rw[if_pos Z,aE (a:=o) (S1:=S1),Y]
 ·rfl
 ·show lQ (m _) S=_;unfold lQ;rw[h]
theorem uU{mi:aB->M Iter}(Z:mi ρ=a_ ⟨its,.none⟩)(h:gD ⟨its,.none⟩ g b its ρ S=ar (.ok o,S1)):oM mi g b ρ S=ar (.ok o,S1):=by unfold oM;rw[Z,ak];exact h
theorem Jo:ja (.int i) (.int i)=a_ (.bl dr):=bA λS=>eq_int.mpr ⟨by rw[JM rfl],rfl⟩
theorem IY:ja (.bl b) (.bl b)=a_ (.bl dr):=bA λS=>GS.mpr ⟨by rw[beq_self_eq_true],rfl⟩
theorem IZ:jC (.bl b) (.bl b)=a_ (.bl dt):=bA λS=>by unfold jC;refine(dI kR kR).mpr ⟨?_,rfl⟩;cases b<;>rfl
theorem Jp:jC (.int i) (.int i)=a_ (.bl dt):=bA λS=>by unfold jC;refine(dI ki ki).mpr ⟨?_,rfl⟩;simp[hO]
theorem qV{bs:List Bool}:m4 [.fz (bs.map D.bl)]=a_ (.bl (bs.all id)):=by show(match boolsOf (bs.map D.bl)with|some bs=>(a_ (D.bl (bs.all id)):M D)|none=>M.fail)=_;rw[sU]
theorem sX:∀{xs:List D},d∈(xs.zip xs).map (λp:D×D=>D.tup [p.1,p.2])->∃x∈xs,d= .tup [x,x]
 | x::r,h=>by
  rw[Mt,JQ,JN]at h;rcases h with rfl|h
  ·exact⟨x,.head _,rfl⟩
  ·obtain⟨y,Z,e⟩:=sX h;exact⟨y,.tail _ Z,e⟩
theorem bZ{e:TM}{es:aB->M (List D)}(Z:e ρ=a_ x)(Y:es ρ=a_ ys):aa e es ρ=a_ (x::ys):=by unfold aa;rw[Z,ak,Y];rfl
theorem sY{g:mR}{t:aB->M Bool}{m:TM}(R:aB->Prop)(q:D->Bool):∀(items:List D) (ρ:aB),R ρ->(∀d∈items,∀ ρ,R ρ->∃Z,g d ρ=a_ Z/\R Z/\t Z S=ar (.ok (q d),S)/\m Z=a_ d)->
  bN ⟨its,.none⟩ g t m items ρ S=ar (.ok (items.filter q),S)
 |[],ρ,_,_=>by unfold bN;rw[cR];rfl
 |d::ds,ρ,hR,hb=>by
  obtain⟨Z,e1,Y,e2,W⟩:=hb d (JL ..) ρ hR;have X:=sY (its:=its) R q ds Z Y λx U=>hb x (JF _ U);unfold bN;rw[cR,ak,e1,ak,aE e2];cases hq:q d with
  |true=>rw[LK hq,if_pos rfl,W,ak,aE X];rfl
  |false=>rw[LL (by rw[hq];decide),if_neg (by decide),X]
section
variable {e1 e2:TM}{f:D->D->M D}{x y:D}{S S1 S2:aw}{ρ:aB}{F:List D->M D}
theorem gM(Z:e1 ρ S=ar (.ok x,S1))(Y:e2 ρ S1=ar (.ok y,S2)):aV f e1 e2 ρ S=f x y S2:=by unfold aV;rw[aE Z,aE Y]
theorem cV{es:aB->M (List D)}(Z:e1 ρ S=ar (.ok x,S1))(Y:es ρ S1=ar (.ok ys,S2)):aa e1 es ρ S=ar (.ok (x::ys),S2):=by unfold aa;rw[aE Z,aE Y];rfl
theorem Aq(h:S[p]? =ar us)(Z:i9 us j=ar x):ff (.lst p) (.int j) S=ar (.ok x,S):=by show(getL p>>=λxs=>match i9 xs j with|some d=>(a_ d:M D)|none=>M.fail) S=_;rw[aE (dP h),Z];rfl
theorem kX{es:aB->M (List D)}(h:es ρ S=ar (.ok ys,S1))(Z:ys.length<=lim):bo es ρ S=ar (.ok (.lst S1.length),S1++[ys]):=by unfold bo;rw[aE h];exact du Z
theorem v7(Z:S[a]? =ar xs)(Y:S[b]? =ar ys)(X:(xs++ys).length<=lim):cK (.lst a) (.lst b) S=ar (.ok (.lst S.length),S++[xs++ys]):=by show(getL a>>=λxs=>getL b>>=λys=>a8 (xs++ys)) S=_;rw[aE (dP Z),aE (dP Y)];exact du X
end
def uV:D->Bool
 | .int _=>dr
 |_=>dt
abbrev Bk(d:D):Prop:=El d=dr
def nU:D->Bool
 | .tup [_,_]=>dr
 |_=>dt
def gq(many:Int):D->Bool
 | .int i=>decide (0<=i) && decide (i<many)
 |_=>dt
def ik(many:Int):D->Bool
 | .tup [a,b]=>gq many a && (gq many b && match a,b with| .int i,.int j=>decide (i<j)|_,_=>dt)
 |_=>dt
def IJ(d:D):Prop:=Bk d/\∀ds,d= .tup ds->∀x∈ds,Bk x
theorem i5(h:gq many d=dr):∃i,d= .int i/\0<=i/\i<many:=by
 cases d with
 |int i=>exact⟨i,rfl,by simpa [gq]using h⟩
 |_=>cases h
def qW:D->D->Bool
 | .tup xs,.tup ys=>match intsOf xs,intsOf ys with
  |some a,ar b=>HT.lexLt a b
  |_,_=>dt
 |_,_=>dt
def qX:List D->Bool
 |a::b::r=>qW a b && qX (b::r)
 |_=>dr
def v8(d:D):Prop:=∃ds ns,d= .tup ds/\intsOf ds=ar ns
theorem v9:∀l:List D,((l.zip (l.drop 1)).map λp=>qW p.1 p.2).all id=qX l
 |[]=>rfl
 |[_]=>rfl
 |a::b::r=>by
  have:=v9 (b::r);simp only[List.drop_succ_cons,M',List.zip_cons_cons,Nn,Nr,id]at this⊢;rw[qX, <-this]
theorem GW(l:List D):S3.cutD l (ar 1) none=l.drop 1:=by
 unfold S3.cutD HT.sIx;cases l with
 |nil=>rfl
 |cons a r=>simp
def Hw(d:D):Prop:=Bk d/\∀ds,d= .tup ds->∀x∈ds,Bk x/\∀ts,x= .tup ts->∀t∈ts,IJ t
def gr:D->Bool
 | .tup [.int many,.tup ties]=>decide (0<=many) && (decide (many<=14) && (ties.all (ik many) && qX ties))
 |_=>dt
theorem CC(h:ik many d=dr):∃i j,d= .tup [.int i,.int j]/\0<=i/\i<j/\j<many:=by
 unfold ik at h;split at h
 ·next a b=>
  simp only[h_]at h;obtain⟨Y,U,Z⟩:=h;obtain⟨i,rfl,W,S⟩:=i5 Y;obtain⟨j,rfl,T,X⟩:=i5 U;simp only[decide_eq_true_eq]at Z;exact⟨i,j,rfl,W,Z,X⟩
 ·cases h
theorem xP(h:ik many d=dr):v8 d:=by obtain⟨i,j,rfl,_⟩:=CC h;exact⟨_,[i,j],rfl,rfl⟩
section
variable {many:Int}{d:D}{ρ:aB}{e1 e2:TM}{b:Bool}{y:D}
theorem and_eq(Z:e1 ρ=a_ (.bl b))(X:b=dr->e2 ρ=a_ y)(Y:b=dt->y= .bl dt):oJ e1 e2 ρ=a_ y:=by
 unfold oJ;rw[Z];cases b with
 |true=>exact X rfl
 |false=>rw[Y rfl];rfl
theorem IK{a b:Int}:ja (.int a) (.int b)=a_ (.bl (decide (a=b))):=bA λS=>eq_int.mpr ⟨rfl,rfl⟩
theorem wa(h:Bk d):b7 [d]=a_ (.bl (uV d)):=by cases d<;>first|rfl|cases h
theorem qY(h:Bk d):cI [d]=a_ (.bl (nU d)):=by
 cases d with
 |tup ds=>
  refine de (df (and_eq (b:=dr) rfl (λ_=>(cH (y:=.int 2) (fI (x:=.tup ds) rfl) rfl).trans IK) (λe=>by cases e))) ?_;show a_ (D.bl (decide ((ds.length:Int)=2)))=_
  match ds with
  |[]=>rfl
  |[_]=>rfl
  |[_,_]=>rfl
  |_::_::_::r=>rw[J1 (by simp only[m_];omega)];rfl
 |_=>first|rfl|cases h
theorem wb(h:Bk d):fF [.int many,d]=a_ (.bl (gq many d)):=by
 cases d with
 |int i=>
  refine de (df (and_eq (b:=dr) ((cU rfl).trans (wa h)) (λ_=>?_) (λe=>by cases e))) rfl;show(if decide (0<=i)=dr then (a_ (D.bl (decide (i<many))):M D)else a_ (.bl dt))=a_ (.bl (decide (0<=i) && decide (i<many)));by_cases h0:0<=i
  ·rw[if_pos (JM h0),JM h0,Mh]
  ·rw[if_neg (by rw[Ke];exact h0),J1 h0,Lp]
 |_=>first|rfl|cases h
theorem wc(h:nU d=dr):∃a b,d= .tup [a,b]:=by
 unfold nU at h;split at h
 ·exact⟨_,_,rfl⟩
 ·cases h
theorem qZ{b:D}:ik many (.tup [a,b])=(gq many a && (gq many b && match a,b with| .int i,.int j=>decide (i<j)|_,_=>dt)):=rfl
theorem E7(h:IJ d):kh [.int many,d]=a_ (.bl (ik many d)):=by
 by_cases hp:nU d=dr
 ·obtain⟨a,b,rfl⟩:=wc hp;have W:Bk a:=h.2 _ rfl a (.head _);have X:Bk b:=h.2 _ rfl b (.tail _ (.head _));refine de (o:=.ret (.bl (ik many (.tup [a,b])))) ?_ rfl;unfold nP;have Z:cQ (bV (aA cI (aa (mV 1) au))) [ar (.int many),ar (.tup [a,b]),none,none]=a_ false:=by
   show(bV _ _>>=_)=_;rw[iR ((cU rfl).trans (qY h.1))];rfl
  refine(bj (ρ':=[ar (.int many),ar (.tup [a,b]),none,none]) ((cT Z).trans (if_neg (by decide)))).trans ((bj (ρ':=[ar (.int many),ar (.tup [a,b]),ar a,ar b]) rfl).trans (df ?_));refine and_eq (b:=gq many a) ((call2 rfl rfl).trans (wb W)) (λk1=>and_eq (b:=gq many b) ((call2 rfl rfl).trans (wb X)) (λk2=>?_) λk2=>?_) λk1=>?_
  ·obtain⟨i,rfl,_⟩:=i5 k1;obtain⟨j,rfl,_⟩:=i5 k2;rw[qZ,k1,k2];rfl
  ·rw[qZ,k2,Lp,MB]
  ·rw[qZ,k1,Lp]
 ·have Y:nU d=false:=by rw[<-Lv];exact hp
  have Z:cQ (bV (aA cI (aa (mV 1) au))) [ar (.int many),ar d,none,none]=a_ true:=by show(bV _ _>>=_)=_;rw[iR ((cU rfl).trans (qY h.1)),Y];rfl
  refine(de (o:=.ret (.bl dt)) (fJ ((cT Z).trans (if_pos rfl))) rfl).trans ?_;unfold ik;split
  ·cases hp rfl
  ·rfl
theorem E8{a b:D}(Y:v8 a)(Z:v8 b):ye a b=a_ (.bl (qW a b)):=by obtain⟨xs,ns,rfl,e1⟩:=Y;obtain⟨ys,ms,rfl,e2⟩:=Z;simp only[ye,e1,e2,qW]
def I0:D->D
 | .tup [a,b]=>.bl (qW a b)
 |_=>.non
theorem Ar(h:∀t∈ts,v8 t)(W:ts.length<=1000):eQ [.tup ts]=a_ (.bl (qX ts)):=by
 have em:(((ts.zip (ts.drop 1)).map λp:D×D=>D.tup [p.1,p.2]).filter λ_=>dr).map I0=((ts.zip (ts.drop 1)).map λp=>qW p.1 p.2).map D.bl:=by rw[cG,J2,J2];rfl
 have hs:aP (Dd (mV 0) (oS (mK (.int 1))) oN) [ar (.tup ts)]=a_ (.tup (ts.drop 1)):=by refine pV (?_ :cq (S3.cutD ts (ar 1) none)=_);rw[GW];unfold cq;exact if_pos (by rw[Ma];unfold lim;omega)
 have X:sJ (mV 0) (aP (Dd (mV 0) (oS (mK (.int 1))) oN)) [ar (.tup ts)]=a_ ⟨(ts.zip (ts.drop 1)).map λp:D×D=>D.tup [p.1,p.2],.none⟩:=by unfold sJ;rw[bZ (x:=.tup ts) rfl (bZ hs rfl)];rfl
 have Z:=kj (g:=dY 2 (bc (gN 0) (bc (gN 1) eN))) (t:=fD) (m:=fE) (js:=[none,none]) (λρ=>∃x y,ρ=[x,y]) (λ_=>dr) I0 X (by rw[Jy,List.length_zip];unfold lim;omega) ⟨none,none,rfl⟩
  (λd hd ρ ⟨x,y,hρ⟩=>by subst hρ;obtain⟨⟨a,b⟩,Y,rfl⟩:=J8.mp hd;exact⟨_,rfl,⟨_,_,rfl⟩,rfl,λ_=>(cH (x:=a) (y:=b) rfl rfl).trans (E8 (h a (LB Y).1) (h b (List.mem_of_mem_drop (LB Y).2)))⟩) (by rw[em];exact qT _)
 rw[em]at Z;refine de (df ((fI Z).trans qV)) ?_;rw[v9];rfl
theorem As(h:Hw d)(T:∀m ts,d= .tup [m,.tup ts]->ts.length<=1000):dN [d]=a_ (.bl (gr d)):=by
 by_cases hp:nU d=dr
 ·obtain⟨a,t,rfl⟩:=wc hp;obtain⟨L,_⟩:=h.2 _ rfl a (.head _);obtain⟨P,S⟩:=h.2 _ rfl t (.tail _ (.head _));refine de (o:=.ret (.bl (gr (.tup [a,t])))) ?_ rfl;unfold nQ;have Q:cQ (bV (aP (aA cI (aa (mV 0) au)))) [ar (.tup [a,t]),none,none]=a_ false:=by
   show(bV _ _>>=_)=_;rw[iR (pV ((cU rfl).trans (qY h.1)))];rfl
  refine(bj (ρ':=[ar (.tup [a,t]),none,none]) ((cT Q).trans (if_neg (by decide)))).trans ((bj (ρ':=[ar (.tup [a,t]),ar a,ar t]) rfl).trans ?_);have hw:cQ (bV (aP (aA b7 (aa (mV 1) au)))) [ar (.tup [a,t]),ar a,ar t]=a_ (!uV a):=by show(bV _ _>>=_)=_;rw[iR (pV ((cU rfl).trans (wa L)))];rfl
  have X:∀{p q:il} {b:Bool} {ρ:aB},p ρ=a_ b->vM p q ρ=if b=dr then a_ dr else q ρ:=λ{p q b ρ} e=>by show(p ρ>>=_)=_;rw[e];rfl
  have no:∀{q:il},vM (cQ (bV (aP (aA b7 (aa (mV 1) au))))) q [ar (.tup [a,t]),ar a,ar t]=a_ dr->aH (jv (vM (cQ (bV (aP (aA b7 (aa (mV 1) au))))) q) (bS (mK (.bl dt))) dX) (bS (oJ (cD m4 (aP (br (d7 (mV 2)) (gN 0) fY fZ [none,ar 1]))) (aP (aA eQ (aa (mV 2) au))))) [ar (.tup [a,t]),ar a,ar t]=a_ (.ret (.bl dt)):=λe=>fJ ((cT e).trans (if_pos rfl));by_cases ew:uV a=dr
  ·cases a with
   | int many=>
    rw[ew]at hw;have U:cQ (gX rH rH (mK (.int 0)) (mV 1) (mK (.int 14))) [ar (.tup [.int many,t]),ar (.int many),ar t]=a_ (!(decide (0<=many) && decide (many<=14))):=by
     show(((if decide (0<=many)=dr then (a_ (D.bl (decide (many<=14))):M D)else a_ (.bl dt))>>=jB)>>=_)=_;by_cases h0:0<=many
     ·rw[if_pos (JM h0),JM h0,Mh];rfl
     ·rw[if_neg (by rw[Ke];exact h0),J1 h0,Lp];rfl
    by_cases hr:(decide (0<=many) && decide (many<=14))=dr
    ·rw [hr]at U;cases t with
     | tup ts=>
      have O:=T _ ts rfl;have N:vM (cQ (bV (aP (aA b7 (aa (mV 1) au))))) (vM (cQ (gX rH rH (mK (.int 0)) (mV 1) (mK (.int 14)))) (cQ (bV (gh (mV 2) "tuple")))) [ar (.tup [.int many,.tup ts]),ar (.int many),ar (.tup ts)]=a_ false:=by rw[X hw,if_neg (by decide),X U,if_neg (by decide)];rfl
      refine(bj ((cT N).trans (if_neg (by decide)))).trans (df ?_);have em:(ts.filter λ_=>dr).map (λd=>D.bl (ik many d))=(ts.map (ik many)).map D.bl:=by rw[cG,J2];rfl
      have hm:=kj (mi:=d7 (mV 2)) (ρ:=[ar (.tup [.int many,.tup ts]),ar (.int many),ar (.tup ts)]) (g:=gN 0) (t:=fY) (m:=fZ) (js:=[none,ar 1]) (its:=ts) (λρ=>∃x,ρ=[x,ar (.int many)]) (λ_=>dr) (λd=>.bl (ik many d)) rfl (by unfold lim;omega) ⟨none,rfl⟩
       (λd hd ρ ⟨x,hρ⟩=>by subst hρ;exact⟨_,rfl,⟨_,rfl⟩,rfl,λ_=>pV ((call2 (x:=.int many) (y:=d) rfl rfl).trans (E7 (S ts rfl d hd)))⟩) (by rw[em];exact qT _)
      rw[em]at hm;have W:(ts.map (ik many)).all id=ts.all (ik many):=by rw[Mv];rfl
      have Y:gr (.tup [.int many,.tup ts])=(ts.all (ik many) && qX ts):=by show(decide (0<=many) && (decide (many<=14) && (ts.all (ik many) && qX ts)))=_;rw[<-Bool.and_assoc,hr,Mh]
      rw[Y];refine and_eq (b:=ts.all (ik many)) ((fI hm).trans (qV.trans (by rw[W]))) (λZ=>?_) λZ=>by rw[Z];rfl
      rw[Z,Mh];exact pV ((cU rfl).trans (Ar (λt P=>xP (JU.mp Z t P)) O))
     |_=>first|exact no (by rw[X hw,if_neg (by decide),X U,if_neg (by decide)];rfl)|cases P
    ·have Y:gr (.tup [.int many,t])=false:=by
      cases t<;>first|rfl|(show(decide (0<=many) && (decide (many<=14) && _))=dt;rw[<-Bool.and_assoc,Lv _ |>.mp hr,Lp])
     rw[Y];rw[Lv _ |>.mp hr]at U;exact no (by rw[X hw,if_neg (by decide),X U];rfl)
   |_=>cases ew
  ·have Y:gr (.tup [a,t])=false:=by cases a<;>first|rfl|exact absurd rfl ew
   rw[Y];exact no (by rw[X hw,Lv _ |>.mp ew];rfl)
 ·have R:nU d=false:=by rw[<-Lv];exact hp
  have Q:cQ (bV (aP (aA cI (aa (mV 0) au)))) [ar d,none,none]=a_ true:=by show(bV _ _>>=_)=_;rw[iR (pV ((cU rfl).trans (qY h.1))),R];rfl
  refine(de (o:=.ret (.bl dt)) (fJ ((cT Q).trans (if_pos rfl))) rfl).trans ?_;unfold gr;split
  ·cases hp rfl
  ·rfl
end
def dQ(S:aw)(k:Nat):Prop:=∃st b,S[k]? =ar [.int st,.bl b]/\0<=st/\(b=dt->st<2147483647)
theorem dQ.lt{S:aw}{k:Nat}(h:dQ S k):k<S.length:=let ⟨_,_,e,_⟩:=h;(Jz.mp e).1
theorem Dm{t:il}{m n:cW}{ρ:aB}{b:Bool}{S S1:aw}(h:t ρ S=ar (.ok b,S1)):jv t m n ρ S=if b=dr then m ρ S1 else n ρ S1:=by show(t ρ>>=λc=>if c=dr then m ρ else n ρ) S=_;rw[aE h];split<;>rfl
section
variable {S:aw}{k:Nat}{st x y many:Int}{b:Bool}{r:List (Option D)}{e1 e2:TM}{ρ:aB}
theorem FH(e:S[k]? =ar [.int st,.bl b]):aV ff (mV 0) (mK (.int 0)) (ar (.lst k)::r) S=ar (.ok (.int st),S):=Aq e rfl
theorem gi(Z:e1 ρ S=ar (.ok (.int x),S))(Y:e2 ρ S=ar (.ok (.int y),S))(h:0<y):aV jm e1 e2 ρ S=ar (.ok (.int (x % y)),S):=
 (gM Z Y).trans (Kb (if_pos h:(if 0<y then (a_ (D.int (x % y)):M D)else M.fail)=_) S)
theorem nV(Z:e1 ρ S=ar (.ok (.int x),S))(Y:e2 ρ S=ar (.ok (.int y),S))(h:tR x y):aV qv e1 e2 ρ S=ar (.ok (.int (x*y)),S):=
 (gM Z Y).trans (Kb (if_pos h:(if tR x y then (a_ (D.int (x*y)):M D)else M.fail)=_) S)
theorem Au(Z:e1 ρ S=ar (.ok (.int x),S))(Y:e2 ρ S=ar (.ok (.int y),S))(h:wM x y):aV jV e1 e2 ρ S=ar (.ok (.int (x / y)),S):=
 (gM Z Y).trans (Kb (if_pos h:(if wM x y then (a_ (D.int (x / y)):M D)else M.fail)=_) S)
theorem q0(Z:e1 ρ S=ar (.ok (.int x),S))(Y:e2 ρ S=ar (.ok (.int y),S)):aV cK e1 e2 ρ S=ar (.ok (.int (x+y)),S):=(gM Z Y).trans rfl
theorem GX(e:S[k]? =ar [.int st,.bl b])(h:e1 (ar (.lst k)::r) S=ar (.ok (.int x),S)):oK e1 (Hu (mV 0) (mK (.int 0))) (ar (.lst k)::r) S=ar (.ok (.nx (ar (.lst k)::r)),S.set k [.int x,.bl b]):=by
 have Z:iA (.lst k) (.int 0) (.int x) S=ar (.ok (),S.set k [.int x,.bl b]):=by show(getL k>>=_) S=_;rw[aE (dP e)];exact aE (kl (us:=[.int x,.bl b]) sT (Jz.mp e).1)
 have Y:Hu (mV 0) (mK (.int 0)) (.int x) (ar (.lst k)::r) S=ar (.ok (ar (.lst k)::r),S.set k [.int x,.bl b]):=aE Z;show(e1 _>>=_) S=_;rw[aE h];exact aE Y
theorem nW{m n:cW}{d:D}{S1:aw}(h:m ρ S=ar (.ok (.ret d),S1)):aH m n ρ S=ar (.ok (.ret d),S1):=aE h
end
theorem E9{S:aw}{k:Nat}{many:Int}{Q:D->aw->Prop}(hs:dQ S k)(Y:0<many)(N:many<1073741824)
  (U:∀j S',0<=j->j<many->S'.length=S.length->(∀i,i≠k->S'[i]? =S[i]?)->dQ S' k->Q (.int j) S'):runs (aF [.lst k,.int many]) S Q:=by
 have W:=hs.lt;obtain⟨st,b,e,O,P⟩:=hs;have q:∀x:Int,0<=x % many/\x % many<many:=λx=>⟨Lh _ (by omega),KW _ Y⟩;have R:bV (aV ff (mV 0) (mK (.int 1))) [ar (.lst k),ar (.int many),none,none] S=ar (.ok b,S):=aE (Aq (x:=.bl b) e rfl);have Z:∀(ys:List D) i,i≠k->(S.set k ys)[i]? =S[i]? :=λys i L=>Kf (i2 L);cases b with
 |true=>
  refine⟨_,_,eY (o:=.ret (.int (st % many))) (S1:=S.set k [.int (st / many),.bl dr]) ?_ rfl,U _ _ (q _).1 (q _).2 (by simp) (Z _) ⟨_,dr,J5 W,Int.ediv_nonneg O (by omega),λz=>by cases z⟩⟩;exact nW ((Dm R).trans ((aN (bQ (gi (FH e) rfl Y))).trans ((aN (GX e (Au (FH e) rfl ⟨Y,N⟩))).trans (gp rfl))))
 |false=>
  have K:=P rfl;generalize hst:(st*48271+29) % 2147483647=st';have s1:0<=st':=by rw[<-hst];exact Lh _ (by decide)
  have s2:st'<2147483647:=by rw[<-hst];exact KW _ (by decide)
  have e1:(S.set k [.int st',.bl dt])[k]? =ar [.int st',.bl dt]:=J5 W;have X:=GX (r:=[ar (.int many),none,none]) e (gi (q0 (nV (FH e) (e2:=mK (.int 48271)) rfl (.inr ⟨by decide,by decide⟩)) (e2:=mK (.int 29)) rfl) (e2:=mK (.int 2147483647)) rfl (by decide));rw[hst]at X;have T:∀r,aV jm (aV cK (aV cK (aV qv (aV ff (mV 0) (mK (.int 0))) (aV ff (mV 0) (mK (.int 0)))) (aV qv (mK (.int 39373)) (aV ff (mV 0) (mK (.int 0))))) (mK (.int 7))) (mK (.int 2147483629)) (ar (.lst k)::r) (S.set k [.int st',.bl dt])=_:=λr=>gi (q0 (q0 (nV (FH e1) (FH e1) (.inl ⟨by omega,by omega⟩)) (nV rfl (FH e1) (.inl ⟨by decide,by decide⟩))) rfl) rfl (by decide);generalize hx:(st'*st'+39373*st'+7) % 2147483629=x at T;have J:0<=x:=by rw[<-hx];exact Lh _ (by decide)
  have I:x<2147483629:=by rw[<-hx];exact KW _ (by decide)
  refine⟨_,_,eY (o:=.ret (.int ((x*x+16807*x) % 2147483587 / 8 % many))) (S1:=S.set k [.int st',.bl dt]) ?_ rfl,U _ _ (q _).1 (q _).2 (by simp) (Z _) ⟨_,dt,e1,s1,λ_=>s2⟩⟩;exact(aN (Dm R)).trans ((aN X).trans ((aN (bQ (T _))).trans ((aN (bQ (gi (q0 (nV rfl rfl (.inl ⟨by omega,by omega⟩)) (nV rfl rfl (.inl ⟨by decide,by decide⟩))) rfl (by decide)))).trans (gp (gi (Au rfl rfl ⟨by decide,by decide⟩) rfl Y)))))
theorem Fb{S:aw}{ns:List Int}{k:Nat}:∃i,cS [.ro (ns.map D.int),.int k] S=ar (.ok (.int i),S):=by
 have Z:fM ye (mV 1) (cD jq (mV 0)) [ar (.ro (ns.map D.int)),ar (.int k)]=a_ (decide ((k:Int)<(ns.map D.int).length)):=eX (x:=.int k) (y:=.int (ns.map D.int).length) rfl rfl rfl;by_cases h:k<ns.length
 ·refine⟨ns[k],eY (o:=.ret (.int ns[k])) (nW ((Kb ((cT Z).trans (if_pos (JM (by rw[Jy];omega)))) S).trans (gp (x:=.int ns[k]) (S1:=S) ?_))) rfl⟩;have e:i9 (ns.map D.int) (k:Int)=ar (.int ns[k]):=by
   unfold i9 yd;simp[h]
  show(match i9 (ns.map D.int) k with|some d=>(a_ d:M D)|none=>M.fail) S=_;rw[e];rfl
 ·exact⟨0,eY (o:=.ret (.int 0)) (Kb ((bj ((cT Z).trans (if_neg (by rw[Ke,Jy];omega)))).trans rfl) S) rfl⟩
theorem CD{S:aw}{ns:List Int}{k:Nat}{Q:D->aw->Prop}(X:∀xs,dQ (S++[xs]) S.length->Q (.lst S.length) (S++[xs])):runs (fq [.ro (ns.map D.int),.int k]) S Q:=by
 obtain⟨c,U⟩:=Fb (S:=S) (ns:=ns) (k:=k);have Y:bE 2 (aA cS (aa (mV 0) (aa (mV 1) au))) [ar (.ro (ns.map D.int)),ar (.int k),none] S=ar (.ok (.nx [ar (.ro (ns.map D.int)),ar (.int k),ar (.int c)]),S):=bQ (x:=.int c) (by rw[call2 (x:=.ro (ns.map D.int)) (y:=.int k) rfl rfl];exact U);have W:∀ ρ,aV yP (mK (.int 10)) (mK (.int 18)) ρ=a_ (.int 1000000000000000000):=λρ=>(cH (x:=.int 10) (y:=.int 18) rfl rfl).trans (if_pos (e:=M.fail) (show Bv 10 18 from⟨by decide,by decide,by decide⟩));have Z:fM Iu (mV 2) (aV yP (mK (.int 10)) (mK (.int 18))) [ar (.ro (ns.map D.int)),ar (.int k),ar (.int c)]=a_ (decide (1000000000000000000<=c)):=eX (x:=.int c) rfl (W _) rfl;by_cases h:1000000000000000000<=c
 ·exact⟨_,_,eY (o:=.ret (.lst S.length)) ((aN Y).trans (nW ((Kb ((cT Z).trans (if_pos (JM h))) S).trans (gp (kX (ys:=[.int (c - 1000000000000000000),.bl dr]) (cV (S1:=S) (Kb ((cH (x:=.int c) rfl (W _)).trans rfl) S) (cV rfl rfl)) sT))))) rfl,X _ ⟨_,dr,cF,by omega,λz=>by cases z⟩⟩
 ·exact⟨_,_,eY (o:=.ret (.lst S.length)) ((aN Y).trans ((aN (Kb ((cT Z).trans (if_neg (by rw[Ke];exact h))) S)).trans (gp (kX (ys:=[.int (c % 2147483647),.bl dt]) (cV (gi rfl rfl (by decide)) (cV rfl rfl)) sT)))) rfl,X _ ⟨_,dt,cF,Lh _ (by decide),λ_=>KW _ (by decide)⟩⟩
def rf(n a:Nat):List (List Int):=(n7 (a+1) (n - (a+1))).map λb:Nat=>[(a:Int),(b:Int)]
def cL(n:Nat):List (List Int):=(e_ n).flatMap (rf n)
theorem pairs_len(Z:n<=14):(cL n).length<=91:=by
 have:∀m,m<15->(cL m).length<=91:=by decide+kernel
 exact this n (by omega)
theorem CF(Z:n<=14):(rf n a).length<=14:=by unfold rf;simp;omega
structure Kp(k:Nat)(S S':aw):Prop where
 len:S.length<=S'.length
 oth:∀i,i<S.length->i≠k->S'[i]? =S[i]?
 st:dQ S' k
theorem Kp.trans(a:Kp k S S1)(b:Kp k S1 S2):Kp k S S2:=⟨JG a.len b.len,λi Y Z=>(b.oth i (JI Y a.len) Z).trans (a.oth i Y Z),b.st⟩
theorem Kp.refl(h:dQ S k):Kp k S S:=⟨Jw _,λ_ _ _=>rfl,h⟩
theorem dQ.grow(h:dQ S k):dQ (S++G) k:=by obtain⟨st,b,e,r⟩:=id h;exact⟨st,b,by rw[JZ h.lt];exact e,r⟩
theorem Kp.grow(h:dQ S k)(G:aw):Kp k S (S++G):=⟨by simp,λi Z _=>JZ Z,h.grow⟩
theorem we{Q:D->aw->Prop}(hs:dQ S k)(W:0<many)(Y:many<1073741824)(U:∀j Z,0<=j->j<many->Z.length=S.length->Kp k S Z->Q (.int j) Z):runs (aF [.lst k,.int many]) S Q:=
 E9 hs W Y λj Z a b c d e=>U j Z a b c ⟨Lz c.symm,λi _ X=>d i X,e⟩
theorem kY:∀ns:List Int,mapP (gE S n) (ns.map D.int)=ar (ns.map Nw)
 |[]=>rfl
 |x::r=>by
  show(match gE S n (D.int x),mapP (gE S n) (r.map D.int)with|some p,ar ps=>ar (p::ps)|_,_=>none)=_;rw[ki,kY r];rfl
theorem Av{ns:List Int}(h:S[k]? =ar (ns.map D.int)):gE S (n+1) (.lst k)=ar (.list (ns.map Nw)):=by show((S[k]?).bind λxs=>(mapP (gE S n) xs).map z3)=_;rw[h];show(mapP (gE S n) (ns.map D.int)).map z3=_;rw[kY];rfl
theorem pX{Z Y:Type}(f:Z->Y):∀(l:List Z) (i:Nat),(l.map f).eraseIdx i=(l.eraseIdx i).map f
 |[],_=>rfl
 |_::_,0=>rfl
 |a::l,i+1=>by simp[pX f l i]
def sZ(r:List Int):PyData:=.tuple (r.map Nw)
theorem rg(r:List Int):gE S (n+1) (tupI r)=ar (sZ r):=by show(mapP (gE S n) (r.map D.int)).map PyData.tuple=_;rw[kY];rfl
theorem kZ:∀rs:List (List Int),mapP (gE S (n+1)) (rs.map tupI)=ar (rs.map sZ)
 |[]=>rfl
 |x::r=>by
  show(match gE S (n+1) (tupI x),mapP (gE S (n+1)) (r.map tupI)with|some p,ar ps=>ar (p::ps)|_,_=>none)=_;rw[rg,kZ r];rfl
theorem Aw{rs:List (List Int)}(h:S[k]? =ar (rs.map tupI)):gE S (n+2) (.lst k)=ar (.list (rs.map sZ)):=by show((S[k]?).bind λxs=>(mapP (gE S (n+1)) xs).map z3)=_;rw[h];show(mapP (gE S (n+1)) (rs.map tupI)).map z3=_;rw[kZ];rfl
theorem CG{rs:List (List Int)}{Q:D->aw->Prop}(h:S[k]? =ar (rs.map tupI))(Z:∀b,Q (.bl b) S):runs (inD (tupI r) (.lst k)) S Q:=by unfold inD;rw[vN (rg r) (Aw h) rfl];exact Z _
theorem GY{Q:D->aw->Prop}(Z:∀b,Q (.bl b) S):runs (jC (.bl a) (.bl b)) S Q:=by unfold jC;rw[dI kR kR];exact Z _
theorem nX(ns:List Int):intsOf (ns.map D.int)=ar ns:=by
 induction ns with
 |nil=>rfl
 |cons x r ih=>simp[intsOf,ih]
theorem nY(rs:List (List Int)):rowsOf (rs.map tupI)=ar rs:=by
 induction rs with
 |nil=>rfl
 |cons x r ih=>
  show(match intsOf (x.map D.int),rowsOf (r.map tupI)with|some ns,ar nss=>ar (ns::nss)|_,_=>none)=_;rw[nX,ih]
structure WebOk(many:Int)(ts:List (List Int)):Prop where
 el:∀t∈ts,∃a b:Int,t=[a,b]/\0<=a/\a<b/\b<many
 ris:ts.Pairwise λa b=>HT.lexLt a b=dr
 few:ts.length<=21
theorem Ax:∀t∈cL n,∃a b:Int,t=[a,b]/\0<=a/\a<b/\b<n:=by intro t X;unfold cL at X;obtain⟨a,W,Y⟩:=List.mem_flatMap.mp X;unfold rf at Y;obtain⟨b,Z,rfl⟩:=J8.mp Y;rw[MP]at Z;rw[J0]at W;exact⟨a,b,rfl,by omega,by omega,by omega⟩
theorem pY(Z:n<=7):(cL n).Pairwise (λa b=>HT.lexLt a b=dr)/\(cL n).length<=21:=by
 have:∀m,m<8->(cL m).Pairwise (λa b=>HT.lexLt a b=dr)/\(cL m).length<=21:=by decide+kernel
 exact this n (by omega)
theorem WebOk.of_sub(Y:n<=7){Z:List (List Int)}(h:Z.Sublist (cL n)):WebOk n Z:=
 ⟨λt X=>Ax t (h.subset X),List.Pairwise.sublist h (pY Y).1,JG h.length_le (pY Y).2⟩
theorem xQ{Z:List (List Int)}(h:Z.Pairwise λa b=>HT.lexLt a b=dr):gI Z=Z:=
 kM (cC Z) (cZ Z) (h.imp λz=>sr z)
theorem xR:qW (tupI a) (tupI b)=HT.lexLt a b:=by simp only[qW,tupI,nX]
theorem td:∀{ts:List (List Int)},ts.Pairwise (λa b=>HT.lexLt a b=dr)->qX (ts.map tupI)=dr
 |[],_=>rfl
 |[_],_=>rfl
 |a::b::r,h=>by
  obtain⟨Z,Y⟩:=Km.mp h;show(qW (tupI a) (tupI b) && qX ((b::r).map tupI))=dr;rw[xR,Z b (by simp),td Y];rfl
theorem wg(T:0<=many)(Z:many<=14)(w:WebOk many ts):gr (.tup [.int many,.tup (ts.map tupI)])=true:=by
 have:(ts.map tupI).all (ik many)=true:=by rw[Mv,JU];intro t X;obtain⟨a,b,rfl,Y,U,W⟩:=w.el t X;simp[tupI,ik,gq,Y,U,W];omega
 simp only[gr,T,Z,this,td w.ris,decide_true,Nt]
theorem xS:t∈fC l↔t∈l:=by unfold fC;rw[(cC _).mem_iff,gJ]
theorem pZ:∀l:List (List Int),(d6 l).length<=l.length
 |[]=>Jw _
 |x::r=>by
  unfold d6;have:=pZ r;split
  ·simp;omega
  ·simp;omega
theorem k9(l:List (List Int)):(fC l).length<=l.length:=by unfold fC;rw[(cC _).length_eq];exact pZ l
theorem xT(l:List (List Int)):(fC l).Pairwise λa b=>HT.lexLt a b=true:=by
 have Y:=cZ (d6 l);have Z:(fC l).Nodup:=(Lx (cC _)).mpr (j8 l);unfold fC at Z⊢;generalize gI (d6 l)=s at Y Z
 induction s with
 |nil=>exact .nil
 |cons x r ih=>
  obtain⟨a1,a2⟩:=Km.mp Y;obtain⟨U,W⟩:=Ko.mp Z;refine Km.mpr ⟨λy X=>?_,ih a2 W⟩;cases q:HT.lexLt x y with
  |true=>rfl
  |false=>exact absurd (qJ q (a1 y X) ▸ X) U
def GZ:Nat->D->Bool
 |_,.ro _=>dt
 |_,.fn _ _ _ _ _=>dt
 |_,.exc _ _=>dt
 |n+1,.tup ds=>ds.all (GZ n)
 |_,_=>dr
theorem wj(h:GZ n d=dr):Bk d:=by cases d<;>first|rfl|(cases n<;>cases h)
theorem G0(h:GZ (n+1) d=dr):IJ d:=⟨wj h,λds e x Z=>by subst e;exact wj (JU.mp h x Z)⟩
def G1:D->Bool
 | .tup ds=>ds.all λx=>match x with
  | .tup ts=>decide (ts.length<=18)
  |_=>dr
 |_=>dr
structure Good(d:D):Prop where
 nr:Hw d
 few:∀m ts,d= .tup [m,.tup ts]->ts.length<=18
theorem CH(h:GZ 3 d=dr)(U:G1 d=dr):Good d:=⟨⟨wj h,λds e x W=>by
  subst e;have Z:=JU.mp h x W;refine⟨wj Z,λY T t X=>?_⟩;subst T;exact G0 (JU.mp Z t X)⟩,λm Y e=>by
  subst e;have:=JU.mp U (.tup Y) (by simp);simpa using this⟩
def Ay(d:D):Bool:=GZ 3 d && G1 d
theorem ko(h:Ay d=dr):Good d:=by unfold Ay at h;rw[Kq]at h;exact CH h.1 h.2
theorem Dn{xs:List D}{j:Int}(X:0<=j)(Y:j<xs.length):∃d,i9 xs j=ar d/\d∈xs:=by
 have Z:j.toNat<xs.length:=by omega
 refine⟨xs[j.toNat],?_,KL Z⟩;unfold i9 yd;simp[X,Y,Z]
section
variable {d:D}
theorem Az(h:Hw d)(Y:∀m ts,d= .tup [m,.tup ts]->ts.length<=1000):d9 [d]=if gr d=dr then a_ .non else M.raise (.exc "NoWeb" []):=by
 have Z:cQ (bV (aP (aA dN (aa (mV 0) au)))) [ar d]=a_ (!gr d):=by show(bV _ _>>=_)=_;rw[iR (b:=gr d) (pV ((cU rfl).trans (As h Y)))];rfl
 cases hw:gr d with
 |true=>exact(uS ((cT Z).trans (by rw[hw];exact if_neg (by decide))) rfl).trans (if_pos rfl).symm
 |false=>exact(pW ((cT Z).trans (by rw[hw];exact if_pos rfl))).trans (if_neg (by decide)).symm
end
theorem fK(l:List (List Int)):bU 0 (l.map tupI)=true:=by
 have h:∀r:List Int,bU 0 (r.map D.int)=true:=λr=>by
  induction r with
  |nil=>rfl
  |cons x r ih=>rw[JQ];unfold bU;rw[ih];unfold eA;rfl
 induction l with
 |nil=>rfl
 |cons x l ih=>rw[JQ];unfold bU;rw[ih];unfold tupI eA;rw[h];rfl
abbrev bM(n:Nat)(E:List (List Int)):D:=.tup [.int n,.tup (E.map tupI)]
theorem AA:Hw (bM n E):=by
 refine⟨rfl,?_⟩;intro ds e x Z;cases e;simp only[gc,fb,or_false]at Z;rcases Z with rfl|rfl
 ·exact⟨rfl,λX e=>by cases e⟩
 ·refine⟨rfl,λX e t Y=>?_⟩;cases e;obtain⟨r,_,rfl⟩:=J8.mp Y;refine⟨rfl,λds e x Z=>?_⟩;cases e;obtain⟨i,_,rfl⟩:=J8.mp Z;exact rfl
theorem wk{n:Nat}{E:List (List Int)}(w:WebOk n E):∀m Z,bM n E= .tup [m,.tup Z]->Z.length<=1000:=by intro m Z e;cases e;have:=w.few;rw[Jy];omega
theorem same_int:bL (k+1) [.int i,.int i]=a_ (.bl dr):=by refine de (o:=.ret (.bl dr)) ?_ rfl;show cz _ [ar (.int i),ar (.int i)]=_;unfold cz;rw[bj (ρ':=[ar (.int i),ar (.int i)]) ((cT (b:=dt) (iR rfl)).trans (if_neg (by decide)))];refine df ?_;show(aV ja (mV 0) (mV 1) _>>=_)=_;rw[cH (x:=.int i) (y:=.int i) rfl rfl,Jo,ak];rw[show jB (D.bl dr)=a_ dr from rfl,ak,if_pos rfl,cH (x:=.bl dt) (y:=.bl dt) rfl rfl,IY]
theorem nZ{xs:List D}(Q:xs.length<=1000)(h:∀x∈xs,bL k [x,x]=a_ (.bl dr)):bL (k+1) [.tup xs,.tup xs]=a_ (.bl dr):=by
 have em:((((xs.zip xs).map λp:D×D=>D.tup [p.1,p.2]).filter λ_=>dr).map λ_=>D.bl dr)=(xs.map λ_=>dr).map D.bl:=by rw[cG,J2,J2];refine List.ext_getElem (by simp) λi P R=>by simp
 have X:=kj (mi:=sJ (mV 0) (mV 1)) (g:=dY 2 (bc (gN 0) (bc (gN 1) eN))) (t:=fG (bL k)) (m:=fH (bL k)) (js:=[none,none]) (ρ:=[ar (.tup xs),ar (.tup xs)])
  (its:=(xs.zip xs).map λp:D×D=>D.tup [p.1,p.2]) (λρ=>∃x y,ρ=[x,y]) (λ_=>dr) (λ_=>.bl dr) rfl (by rw[Jy,List.length_zip];unfold lim;omega) ⟨none,none,rfl⟩
  (λd hd ρ ⟨x,y,hρ⟩=>by subst hρ;obtain⟨z,S,rfl⟩:=sX hd;exact⟨_,rfl,⟨_,_,rfl⟩,rfl,λ_=>pV ((call2 rfl rfl).trans (h z S))⟩) (by rw[em];exact qT _)
 rw[em]at X;have Z:(xs.map λ_=>dr).all id=true:=by rw[Mv];exact JU.mpr λ_ _=>rfl
 have hlen:∀j,j<2->cD jq (mV j) [ar (.tup xs),ar (.tup xs)]=a_ (.int xs.length):=λj W=>by
  match j,W with
  |0,_=>rfl
  |1,_=>rfl
 refine de (o:=.ret (.bl dr)) ?_ rfl;show cz _ [ar (.tup xs),ar (.tup xs)]=_;unfold cz;refine fJ ?_;refine(cT (b:=dr) (iR rfl)).trans ?_;rw[if_pos rfl];have O:∀T,aV jC (gh (mV 0) T) (gh (mV 1) T) [ar (.tup xs),ar (.tup xs)]=a_ (.bl dt):=λT=>(cH (x:=.bl (gG "tuple" T)) (y:=.bl (gG "tuple" T)) rfl rfl).trans IZ;have Y:∀T,fM jC (gh (mV 0) T) (gh (mV 1) T) [ar (.tup xs),ar (.tup xs)]=a_ false:=λT=>eX (x:=.bl (gG "tuple" T)) (y:=.bl (gG "tuple" T)) rfl rfl IZ;have U:vM (fM jC (gh (mV 0) "tuple") (gh (mV 1) "tuple")) (fM jC (gh (mV 0) "list") (gh (mV 1) "list")) [ar (.tup xs),ar (.tup xs)]=a_ false:=by show(fM jC _ _ _>>=_)=_;rw[Y "tuple",ak];exact Y "list"
 rw[bj ((cT U).trans (if_neg (by decide))),bj ((cT (eX (hlen 0 (by decide)) (hlen 1 (by decide)) Jp)).trans (if_neg (by decide)))];refine df ((fI X).trans (qV.trans ?_));rw[Z]
theorem Fc{E:List (List Int)}(W:E.length<=1000)(X:∀t∈E,t.length<=1000):eR [bM n E,bM n E]=a_ (.bl dr):=by
 refine nZ (k:=5) (by decide:2<=1000) λx Z=>?_;simp only[gc,fb,or_false]at Z;rcases Z with rfl|rfl
 ·exact same_int
 ·refine nZ (by rw[Jy];exact W) λx Z=>?_;obtain⟨r,Y,rfl⟩:=J8.mp Z;refine nZ (by rw[Jy];exact X r Y) λx Z=>?_;obtain⟨i,_,rfl⟩:=J8.mp Z;exact same_int
def n0(c:M D)(k:D->M D):M D:=λS=>match c S with
 |some (.ok _,S')=>k .non S'
 |some (.ex (.exc n ds),S')=>if n∈aQ then k (.exc n ds) S' else none
 |_=>none
theorem AB{g:Str->Bool}(Z:n∈aQ):sD g (.exc n ds)=a_ (.bl (g n)):=if_pos Z
def uW(bs:List Bool):D->Bool
 | .int k=>bs.getD k.toNat dt
 |_=>dt
section
variable {S S':aw}{k:Nat}
theorem mx(Z:Kp k S S'):lD S S':=λi xs Y e=>by
 by_cases h:i=k
 ·subst h;obtain⟨st,b,e2,_⟩:=Z.st;rw[e2]at e;cases e;exact .inr rfl
 ·exact .inl (by rw[<-Z.oth i Y h];exact e)
theorem rh(hs:dQ S k)(Y:Kp k S S'):Kp k S (S'.take S.length)/\(S'.take S.length).length=S.length:=by
 have X:(S'.take S.length).length=S.length:=by rw[Lr];have:=Y.len;omega
 have W:∀i,i<S.length->(S'.take S.length)[i]? =S'[i]? :=λi Z=>by rw[LJ,if_pos Z]
 refine⟨⟨Lz X.symm,λi Z U=>(W i Z).trans (Y.oth i Z U),?_⟩,X⟩;obtain⟨st,b,e,r⟩:=Y.st;exact⟨st,b,(W k hs.lt).trans e,r⟩
theorem AC{c:M D}(hs:dQ S k)(h:c S=ar (.ok d,S'))(Z:Kp k S S')(Y:eA 0 d=dr):∃S1,gY c S=ar (.ok d,S1)/\Kp k S S1/\S1.length=S.length:=
 ⟨_,kQ h (mx Z) (.inr rfl) Z.len (qS d (vY (JS _) d Y)),rh hs Z⟩
theorem rj:eA 0 (bM n E)=true:=by unfold bM eA bU eA bU eA;rw[fK];rfl
theorem wm(hs:dQ S k)(Y:0<many)(X:many<1073741824):∃j S1,gY (aF [.lst k,.int many]) S=ar (.ok (.int j),S1)/\0<=j/\j<many/\Kp k S S1/\S1.length=S.length:=by obtain⟨d,S',e,j,rfl,a,b,Z⟩:=we (Q:=λd S'=>∃j,d= .int j/\0<=j/\j<many/\Kp k S S') hs Y X λj S' a b _ Z=>⟨j,rfl,a,b,Z⟩;obtain⟨S1,e1,k1⟩:=AC hs e Z rfl;exact⟨j,S1,e1,a,b,k1⟩
end
theorem n4(h:n<=k)(Y:S[k]? =ar us)(Z:bU 0 us=dr):gj n (tN S n (f+1)) (.lst k)=ar (.fz us):=by unfold gj;rw[if_neg (by omega)];show((S[k]?).bind λxs=>eP n (tN S n f) xs).map D.fz=_;rw[Y,K9,fW us (g9 (JS _) us Z)];rfl
theorem oQ{S G:aw}(i:Nat):(S++G)[S.length+i]? =G[i]? :=by rw[Ln (K8 _ _),Nat.add_sub_cancel_left]
theorem G5(h:∀S,gE S 60 (.fz us)=ar p)(Z:hO p p=dr):jC (.fz us) (.fz us)=a_ (.bl dt):=bA λS=>by unfold jC;exact(dI (h S) (h S)).mpr ⟨by rw[Z];rfl,rfl⟩
theorem IL:jC (.fz [.int i]) (.fz [.int i])=a_ (.bl dt):=G5 (p:=.list [.int i]) (λS=>rfl) (by simp[hO,H0])
theorem Fd:aP (bo (aa (mK (.int i)) au)) ρ=a_ (.fz [.int i]):=bR (us:=[.int i]) rfl (by show 1<=lim;unfold lim;omega)
section
variable {ρ:aB}{js:List Nat}{ds:List D}{m:TM}{c:M D}{R:M D->List D->M D}{x:D}
theorem Fe(X:uF js ρ=ar ds)(Z:m (ds.map ar)=c)(Y:gY (R c [])=a_ x):aP (uG js au m R) ρ=a_ x:=by
 have:uG js au m R ρ=R c []:=by unfold uG;rw[X];show(au ρ>>=λes=>R (m (ds.map ar)) es)=_;rw[Z];rfl
 unfold aP;rw[this,Y]
end
section
variable {me e:TM}{g:mR}{ρ ρ':aB}{S S1 S2:aw}{d:D}{F:List D->M D}{x y:D}
end
section
variable {S S1 S2:aw}{k p q:Nat}{e1 e2:TM}{ρ:aB}{x y:D}{f:D->List D->M D}{xs:List D}
theorem tj(Z:e1 ρ=a_ x)(Y:Em x=a_ ())(X:e2 ρ S=ar (.ok y,S1)):sv f e1 e2 ρ S=f x [y] S1:=by unfold sv;rw[Z,ak,Y,ak,aE (a:=[y]) (S1:=S1)];rw[aE X];rfl
theorem uX(Z:S[p]? =ar xs)(Y:xs.length<=1000):b8 (.lst p) [d] S=ar (.ok .non,S.set p (xs++[d])):=by show(getL p>>=λxs=>jR p (xs++[d])) S=_;rw[aE (dP Z)];exact kl (by rw[JA];show xs.length+1<=lim;unfold lim;omega) (Jz.mp Z).1
theorem pop_at{j:Int}{d:D}(Z:S[p]? =ar xs)(U:xs.length<=1000)(W:0<=j)(Y:j<xs.length)(X:xs[j.toNat]? =ar d):kJ (.lst p) [.int j] S=ar (.ok d,S.set p (xs.eraseIdx j.toNat)):=by show(getL p>>=λxs=>if 0<=j/\j<xs.length then (match xs[j.toNat]? with|some y=>(do let _<-jR p (xs.eraseIdx j.toNat);a_ y)|none=>M.fail)else M.fail) S=_;rw[aE (dP Z),if_pos ⟨W,Y⟩,X];show(jR p (xs.eraseIdx j.toNat)>>=λ_=>a_ d) S=_;rw[aE (kl (by have:=List.length_eraseIdx_le xs j.toNat;unfold lim;omega) (Jz.mp Z).1)];rfl
theorem Ff{ns:List Int}(X:S[p]? =ar (ns.map D.int)):jC (.lst p) (.fz []) S=ar (.ok (.bl (!ns.isEmpty)),S):=by
 have Y:gE S 60 (.fz [])=ar (.list []):=rfl;obtain⟨d,Z,e,h⟩:=(dI (f:=λp q=> !hO p q) (Q:=λd Z=>d= .bl (!ns.isEmpty)/\Z=S) (Av (n:=59) X) Y).mpr ⟨by
  have:hO (.list (ns.map Nw)) (.list [])=ns.isEmpty:=by cases ns<;>simp[hO,H0]
  rw[this],rfl⟩
 obtain⟨rfl,rfl⟩:=h;exact e
end
theorem Kp.set(Y:Kp k S S')(U:S.length<=p)(W:k<S.length):Kp k S (S'.set p xs):=by
 refine⟨by rw[LD];exact Y.len,λi X Z=>?_,?_⟩
 ·rw[Kf (by omega)];exact Y.oth i X Z
 ·obtain⟨st,b,e,r⟩:=Y.st;exact⟨st,b,by rw[Kf (by omega)];exact e,r⟩
theorem uY{l:List Int}(h:j<l.length):(l[j]::l.eraseIdx j).Perm l:=by
 induction l generalizing j with
 |nil=>cases h
 |cons x l ih=>
  cases j with
  |zero=>exact .refl _
  |succ j=>exact(List.Perm.swap _ _ _).trans ((ih (by simpa using h)).cons _)
theorem IM{j:Int}(h: -(2 ^ 62)<=j/\j<=lim):dy [.int j]=a8 (aS 0 j.toNat):=by unfold dy;exact if_pos h
theorem rk(r:List Int):bU 0 (r.map D.int)=true:=by
 induction r with
 |nil=>rfl
 |cons x r ih=>rw[JQ];unfold bU;rw[ih];unfold eA;rfl
def gu(n:Nat):List Int:=(e_ n).map λi:Nat=>(0:Int)+(i:Int)
inductive Dr(P:D->D->Prop):List D->List D->Prop
 |nil:Dr P [] []
 |skip {d:D} {ds ys:List D}:Dr P ds ys->Dr P (d::ds) ys
 |put {d y:D} {ds ys:List D}:P d y->Dr P ds ys->Dr P (d::ds) (y::ys)
theorem AD{f:D->D->M D}{e1 e2:TM}(Z:e1 ρ S=ar (.ok x,S1))(Y:e2 ρ S1=ar (.ok y,S2))(h:f x y=a_ (.bl b)):fM f e1 e2 ρ S=ar (.ok b,S2):=by
 have:(e1 ρ>>=λx=>e2 ρ>>=λy=>f x y) S=ar (.ok (.bl b),S2):=by rw[aE Z,aE Y,h];rfl
 exact aE this
theorem Fg{ys:List D}(Z:S[p]? =ar xs)(Y:xs.length+ys.length<=1000):jX (.lst p) [.fz ys] S=ar (.ok .non,S.set p (xs++ys)):=by show(getL p>>=λxs=>jR p (xs++ys)) S=_;rw[aE (dP Z)];exact kl (by rw[JA];unfold lim;omega) (Jz.mp Z).1
theorem xU(Y:∀r∈nss,r.length=2)(W:nss.length<64):pJ (nss.map tupI)=a8 ((gI nss).map tupI):=by
 cases nss with
 |nil=>rfl
 |cons r nss=>
  have X:two (r::nss)=true:=JU.mpr λx Z=>by rw[Y x Z];rfl
  show(match rowsOf ((r::nss).map tupI)with|some nss=>su nss|none=>M.fail)=_;rw[nY];exact if_pos ⟨W,X⟩
theorem rl{c:M D}{S2:aw}(h:c S=ar (.ok (.lst S2.length),S2++[us]))(Z:Kp k S S2)(l:S2.length=S.length)(Y:bU 0 us=dr):gY c S=ar (.ok (.fz us),S2):=by have:=kQ (u:=.fz us) h (mx (Z.trans (Kp.grow Z.st [us]))) (.inl (by rw[JA,l];exact Mc _)) (by rw[JA,l];exact LR _) (n4 (f:=59) (by omega) cF Y);rw[this, <-l,List.take_left]
theorem xV{Z:List (List Int)}(hs:dQ S k)(W:S[p]? =ar (Z.map tupI))(Y:∀r∈Z,r.length=2)(X:Z.length<64):gY (cN [.lst p]) S=ar (.ok (.fz ((gI Z).map tupI)),S):=by refine rl ?_ (Kp.refl hs) rfl (fK _);show(getL p>>=λxs=>pJ xs) S=_;rw[aE (dP W),xU Y X];exact du (by rw[Jy,(cC Z).length_eq];unfold lim;omega)
theorem CI{zs:List Int}{a:Int}(Y:0<=a)(h:a<zs.length):ff (tupI zs) (.int a)=a_ (.int (zs.getD a.toNat 0)):=by
 show(match i9 (zs.map D.int) a with|some d=>(a_ d:M D)|none=>M.fail)=_;have:i9 (zs.map D.int) a=ar (.int (zs.getD a.toNat 0)):=by
  unfold i9 yd;rw[Jy];have X:¬ (a<0):=by omega
  have Z:a.toNat<zs.length:=by omega
  simp[Y,h,Z]
 rw[this]
section
variable {n:Nat}{zs:List Int}{E:List (List Int)}
end
theorem lJ{e1 e2:TM}(hs:dQ S k)(Z:e1 ρ=a_ (.lst k))(Y:e2 ρ=a_ (.int m))(X:0<m)(W:m<1000):∃j S1,aP (aA aF (aa e1 (aa e2 au))) ρ S=ar (.ok (.int j),S1)/\0<=j/\j<m/\Kp k S S1/\S1.length=S.length:=by obtain⟨j,S1,e,r⟩:=wm (many:=m) hs X (by omega);refine⟨j,S1,?_,r⟩;unfold aP;rw[call2 Z Y];exact e
def n5(n:Nat)(T:List (List Int)):Prop:=∀t∈T,∃a b:Int,t=[a,b]/\0<=a/\a<b/\b<n
theorem n5.snoc{n:Nat}{T:List (List Int)}{a b:Int}(h:n5 n T)(W:0<=a)(Z:a<b)(X:b<n):n5 n (T++[[a,b]]):=λt Y=>by
 rcases K3.mp Y with h'|h'
 ·exact h t h'
 ·exact⟨a,b,by simpa using h',W,Z,X⟩
theorem Fh{e:TM}(h:e ρ S=ar (.ok x,S1)):uz e ρ S=jr [x] S1:=by unfold uz;rw[aE (cV h rfl)]
theorem wo{mi:aB->M Iter}(Z:mi ρ S=ar (.ok ⟨its,.none⟩,S1))(h:gD ⟨its,.none⟩ g b its ρ S1=ar (.ok o,S2)):oM mi g b ρ S=ar (.ok o,S2):=by unfold oM;rw[aE Z];exact h
theorem n5.two(h:n5 n T):∀r∈T,r.length=2:=λr Z=>by obtain⟨a,b,rfl,_⟩:=h r Z;rfl
theorem wq{a m:Nat}:aS ((a:Int)+1) ((m:Int) - ((a:Int)+1)).toNat=(n7 (a+1) (m - (a+1))).map λb:Nat=>.int (b:Int):=by
 have e:((m:Int) - ((a:Int)+1)).toNat=m - (a+1):=by omega
 rw[e];unfold aS;rw[List.range'_eq_map_range,J2];refine List.map_congr_left λi _=>?_;show D.int ((a:Int)+1+(i:Int))= .int ((a+1+i:Nat):Int);congr 1
theorem IP{n a:Nat}{x:Option D}(Z:n<=14)(Y:a<n):aP (br (Df (aV cK (mV 2) (mK (.int 1))) (mV 0)) (gN 0) dn dq [none,ar 2]) [ar (.int n),x,ar (.int a)]=a_ (.fz ((rf n a).map tupI)):=by
 have em:(((n7 (a+1) (n - (a+1))).map λb:Nat=>D.int (b:Int)).filter λ_=>dr).map (λd=>D.tup [.int a,d])=(rf n a).map tupI:=by unfold rf;rw[cG,J2,J2];rfl
 have h:=kj (mi:=Df (aV cK (mV 2) (mK (.int 1))) (mV 0)) (g:=gN 0) (t:=dn) (m:=dq) (js:=[none,ar 2]) (ρ:=[ar (.int n),x,ar (.int a)]) (its:=(n7 (a+1) (n - (a+1))).map λb:Nat=>D.int (b:Int)) (λρ=>∃y,ρ=[y,ar (.int a)]) (λ_=>dr) (λd=>D.tup [.int a,d])
  (by rw[An (x:=.int ((a:Int)+1)) (y:=.int n) rfl rfl,GT (by omega),wq]) (by rw[Jy,Mz];unfold lim;omega) ⟨none,rfl⟩
  (λd hd ρ ⟨y,hρ⟩=>by subst hρ;refine⟨_,rfl,⟨_,rfl⟩,rfl,λ_=>?_⟩;show cq [.int a,d]=_;unfold cq;exact if_pos sT) (by rw[em];exact fK _)
 rw[em]at h;exact h
theorem p0{S:aw}{n:Nat}{its:List D}(Z:n<=14):∀(post:List Nat) (acc:List (List Int)) (x:Option D),(∀a∈post,a<n)->acc.length+post.length*14<=300->
  ∃Y,gD ⟨its,.none⟩ (gN 2) eV (post.map λi:Nat=>.int (0+(i:Int))) [ar (.int n),ar (.lst S.length),x] (S++[acc.map tupI])=ar (.ok (.nx [ar (.int n),ar (.lst S.length),Y]),S++[(acc++post.flatMap (rf n)).map tupI])
 |[],acc,x,_,_=>⟨x,by rw[L3,km,List.flatMap_nil,Kn];rfl⟩
 |a::post,acc,x,ha,hl=>by
  rw[JR,NG]at hl;have U:=CF (a:=a) Z;obtain⟨Y,W⟩:=p0 (S:=S) (its:=its) Z post (acc++rf n a) (ar (.int a)) (λb X=>ha b (.tail _ X)) (by rw[JA];omega);refine⟨Y,?_⟩;rw[List.flatMap_cons, <-JT, <-W,JQ,Mw];refine kU rfl (sV (x:=.non) ((tj (x:=.lst S.length) rfl rfl (Kb (IP Z (ha a (.head _))) _)).trans ((Fg cF (by rw[Jy,Jy];omega)).trans ?_)));rw[<-KQ,L8 _ _ (Jw _),Nat.sub_self];rfl
theorem AE{n:Nat}(Z:n<=14):gY (aZ [.int n])=a_ (.fz ((cL n).map tupI)):=by
 have T:=pairs_len Z;have Y:((cL n).map tupI).length<=lim:=by rw[Jy];unfold lim;omega
 have:aZ [.int n]=a8 ((cL n).map tupI):=by
  funext S;obtain⟨U,e⟩:=p0 (S:=S) (its:=aS 0 n) Z (e_ n) [] none (λa W=>J0.mp W) (by rw[Ks];simp;omega);have X:uz (mV 0) [ar (.int n),ar (.lst S.length),none]=a_ ⟨aS 0 n,.none⟩:=by have:=(uQ (m:=mV 0) (ρ:=[ar (.int n),ar (.lst S.length),none]) (x:=.int n) rfl).trans (CB (by omega));rw[Kt]at this;exact this
  rw[du Y];exact eY (o:=.ret (.lst S.length)) ((aN (bQ (du (S:=S) (us:=[]) (JS _)))).trans ((aN (uU X e)).trans (gp rfl))) rfl
 rw[this];exact bR (fK _) Y
theorem Fi{c:M D}{S S2:aw}{us:List D}{k q:Nat}(hs:dQ S k)(h:c S=ar (.ok (.lst q),S2))(Z:Kp k S S2)(Y:S.length<=q)(g:S2[q]? =ar us)(X:bU 0 us=dr):∃S1,gY c S=ar (.ok (.fz us),S1)/\Kp k S S1/\S1.length=S.length:=
 ⟨_,kQ (u:=.fz us) h (mx Z) (.inl (Mu Y (Jz.mp g).1)) Z.len (n4 (f:=59) Y g X),rh hs Z⟩
theorem tm{S:aw}{k p q:Nat}{a1:Option D}(U:k<S.length)(P:S.length<=p)(O:S.length<=q)(X:p≠q):∀(f:Nat) (ls ms:List Int) (S':aw),ls.length<f->ls.length+ms.length<=14->S'[p]? =ar (ls.map D.int)->S'[q]? =ar (ms.map D.int)->Kp k S S'->
  ∃(zs:List Int) (S2:aw),iB (fM jC (mV 2) (aP (bo au))) bJ f [ar (.lst k),a1,ar (.lst p),ar (.lst q)] S'=ar (.ok (.nx [ar (.lst k),a1,ar (.lst p),ar (.lst q)]),S2)/\S2[q]? =ar (zs.map D.int)/\zs.Perm (ms++ls)/\Kp k S S2
 |0,ls,ms,S',h,_,_,_,_=>by omega
 | f +1,ls,ms,S',hf,hl,g1,g2,kp=>by
  have G:fM jC (mV 2) (aP (bo au)) [ar (.lst k),a1,ar (.lst p),ar (.lst q)] S'=ar (.ok (!ls.isEmpty),S'):=by have J:aP (bo au) [ar (.lst k),a1,ar (.lst p),ar (.lst q)]=a_ (.fz []):=bR (us:=[]) rfl (JS _);show((mV 2 _>>=λx=>aP (bo au) _>>=λy=>jC x y)>>=jB) S'=_;rw[J];show(jC (.lst p) (.fz [])>>=jB) S'=_;rw[aE (Ff g1)];rfl
  rw[iB,aE G];cases ls with
  |nil=>exact⟨ms,S',by rfl,g2,by rw[Kn],kp⟩
  | cons l0 ls0=>
   generalize hL:l0::ls0=ls at*;have Q:(!ls.isEmpty)=true:=by rw[<-hL];rfl
   have N:0<ls.length:=by rw[<-hL];exact Nat.succ_pos _
   rw[if_pos Q];obtain⟨j,S1,I,C,z,Y,A⟩:=wm (S:=S') (k:=k) (many:=ls.length) kp.st (by omega) (by omega);have L:=(Jz.mp g1).1;have ql:=(Jz.mp g2).1;have B:=(Y.oth p L (by omega)).trans g1;have F:=(Y.oth q ql (by omega)).trans g2;have R:j.toNat<ls.length:=by omega
   have E:bJ [ar (.lst k),a1,ar (.lst p),ar (.lst q)] S'=ar (.ok (.nx [ar (.lst k),a1,ar (.lst p),ar (.lst q)]),(S1.set p ((ls.eraseIdx j.toNat).map D.int)).set q ((ms++[ls[j.toNat]]).map D.int)):=by
    unfold bJ;have hlen:cD jq (mV 2) [ar (.lst k),a1,ar (.lst p),ar (.lst q)] S'=ar (.ok (.int ls.length),S'):=by refine(sW (x:=.lst p) (S1:=S') rfl).trans ?_;show(getL p>>=λxs=>a_ (D.int xs.length)) S'=_;rw[aE (dP g1),Jy];rfl
    have T:aP (aA aF (aa (mV 0) (aa (cD jq (mV 2)) au))) [ar (.lst k),a1,ar (.lst p),ar (.lst q)] S'=ar (.ok (.int j),S1):=by have H:aA aF (aa (mV 0) (aa (cD jq (mV 2)) au)) [ar (.lst k),a1,ar (.lst p),ar (.lst q)] S'=aF [.lst k,.int ls.length] S':=aE (cV (x:=.lst k) rfl (cV hlen rfl));unfold aP;rw[<-I];unfold gY;rw[H]
    have Z:=(tj (f:=kJ) (e1:=mV 2) (ρ:=[ar (.lst k),a1,ar (.lst p),ar (.lst q)]) (x:=.lst p) rfl rfl T).trans (pop_at (d:=.int ls[j.toNat]) B (by rw[Jy];omega) C (by rw[Jy];omega) (by rw[JP,JB R];rfl));rw[pX]at Z;have W:=(tj (f:=b8) (e1:=mV 3) (ρ:=[ar (.lst k),a1,ar (.lst p),ar (.lst q)]) (x:=.lst q) rfl rfl Z).trans (uX (d:=.int ls[j.toNat]) (xs:=ms.map D.int) (by rw[Kf X];exact F) (by rw[Jy];omega));refine sV (x:=.non) (W.trans ?_);rw[KQ];rfl
   rw[aE E];have he:=Mr R;obtain⟨zs,S2,e2,g3,K,k2⟩:=tm (a1:=a1) U P O X f (ls.eraseIdx j.toNat) (ms++[ls[j.toNat]]) ((S1.set p ((ls.eraseIdx j.toNat).map D.int)).set q ((ms++[ls[j.toNat]]).map D.int)) (by omega) (by rw[JA];show _+(ms.length+1)<=14;omega)
    (by rw[Kf (i2 X),J5 (by omega)]) (by rw[J5 (by rw[LD];omega)]) (((kp.trans Y).set P U).set O U)
   refine⟨zs,S2,e2,g3,K.trans ?_,k2⟩;rw[JT];exact(uY R).append_left ms
theorem AF{S:aw}{k n:Nat}{ρ:aB}{e1 e2:TM}(hs:dQ S k)(N:n<=14)(P:e1 ρ=a_ (.lst k))(T:e2 ρ=a_ (.int n)):∃(zs:List Int) (S1:aw),aP (aA cn (aa e1 (aa (aP (cD dy e2)) au))) ρ S=ar (.ok (.fz (zs.map D.int)),S1)/\zs.Perm (gu n)/\Kp k S S1/\S1.length=S.length:=by
 have O:aS 0 n=(gu n).map D.int:=by unfold aS gu;rw[J2];rfl
 have hlen:(gu n).length=n:=by unfold gu;simp
 have Z:((gu n).map D.int).length<=lim:=by rw[Jy,hlen];unfold lim;omega
 have R:aP (cD dy e2) ρ=a_ (.fz ((gu n).map D.int)):=by unfold aP;rw[fI T,IM (j:=n) ⟨by omega,by unfold lim;omega⟩,Kt,O];exact bR (rk _) Z
 obtain⟨zs,S2,e,g3,W,k2⟩:=tm (S:=S) (k:=k) (p:=S.length) (q:=S.length+1) (a1:=ar (.fz ((gu n).map D.int))) hs.lt (Jw _) (LR _) (by omega) 64 (gu n) [] (S++[(gu n).map D.int,[]]) (by omega) (by simp;omega) (oQ 0) (oQ 1) (Kp.grow hs _);have U:bE 3 (bo au) [ar (.lst k),ar (.fz ((gu n).map D.int)),ar (.lst S.length),none] (S++[(gu n).map D.int])=ar (.ok (.nx [ar (.lst k),ar (.fz ((gu n).map D.int)),ar (.lst S.length),ar (.lst (S.length+1))]),S++[(gu n).map D.int,[]]):=by refine(bQ (du (S:=S++[(gu n).map D.int]) (us:=[]) (JS _))).trans ?_;rw[JT,JA];rfl
 have Q:cD px (mV 1) [ar (.lst k),ar (.fz ((gu n).map D.int)),none,none] S=ar (.ok (.lst S.length),S++[(gu n).map D.int]):=(sW (F:=px) (x:=.fz ((gu n).map D.int)) (S1:=S) rfl).trans (du Z);have X:c8 [ar (.lst k),ar (.fz ((gu n).map D.int)),none,none] S=ar (.ok (.ret (.lst (S.length+1))),S2):=by unfold c8;exact(aN (bQ Q)).trans ((aN U).trans ((aN e).trans (gp rfl)))
 have hm:cn [.lst k,.fz ((gu n).map D.int)] S=ar (.ok (.lst (S.length+1)),S2):=eY X rfl;obtain⟨S1,Y,k1⟩:=Fi hs hm k2 (LR _) g3 (rk _);refine⟨zs,S1,?_,by rw[List.nil_append]at W;exact W,k1⟩;unfold aP;rw[call2 P R];exact Y
theorem Dr.sub:∀{L:List (List Int)} {ys:List D},Dr (λd y=>y=d) (L.map tupI) ys->∃rs:List (List Int),ys=rs.map tupI/\rs.Sublist L
 |[],_,.nil=>⟨[],rfl,.slnil⟩
 |t::L,_,.skip h=>by
  obtain⟨rs,e,Z⟩:=Dr.sub h;exact⟨rs,e,Z.cons _⟩
 |t::L,_,.put p h=>by
  obtain⟨rs,e,Z⟩:=Dr.sub h;subst p e;exact⟨t::rs,rfl,Z.cons₂ _⟩
theorem lg{mi:aB->M Iter}{t:il}{m:TM}{js:List (Option Nat)}{ρ:aB}{L:List (List Int)}{S:aw}{k:Nat}(r:List (Option D))(P:mi ρ=a_ ⟨L.map tupI,.none⟩)(N:L.length<=1000)(Q:i8 js ρ=none::r)(hs:dQ S k)(O:∀d,m (ar d::r)=a_ d)
  (R:∀(u:List Int) Z,Kp k S Z->Z.length=S.length->∃b S1,t (ar (tupI u)::r) Z=ar (.ok b,S1)/\Kp k Z S1/\S1.length=Z.length):
  ∃(rs:List (List Int)) (S2:aw),br mi (gN 0) t m js ρ S=ar (.ok (.lst S2.length),S2++[rs.map tupI])/\rs.Sublist L/\Kp k S S2/\S2.length=S.length:=by
 have key:∀(items:List D) (o:Option D) (Z:aw),(∀d∈items,∃u,d=tupI u)->Kp k S Z->Z.length=S.length->∃ys S2,bN ⟨L.map tupI,.none⟩ (gN 0) t m items (o::r) Z=ar (.ok ys,S2)/\Dr (λd y=>y=d) items ys/\Kp k S S2/\S2.length=S.length:=λitems=>by
  induction items with
  |nil=>exact λo Z _ W l=>⟨[],Z,by unfold bN;rw[cR];rfl,.nil,W,l⟩
  | cons d ds ih=>
   intro o Z hd W l;obtain⟨u,rfl⟩:=hd d (.head _);obtain⟨b,S1,e1,k1,T⟩:=R u Z W l;obtain⟨ys,S2,e2,X,k2,Y⟩:=ih (ar (tupI u)) S1 (λd h=>hd d (.tail _ h)) (W.trans k1) (T.trans l);cases b with
   |false=>
    refine⟨ys,S2,?_,.skip X,k2,Y⟩;unfold bN;rw[cR,ak,show gN 0 (tupI u) (o::r)=a_ (ar (tupI u)::r)from rfl,ak,aE e1,if_neg (by decide)];exact e2
   |true=>
    refine⟨tupI u::ys,S2,?_,.put rfl X,k2,Y⟩;unfold bN;rw[cR,ak,show gN 0 (tupI u) (o::r)=a_ (ar (tupI u)::r)from rfl,ak,aE e1,if_pos rfl,O,ak,aE e2];rfl
 obtain⟨ys,S2,e,X,k2,Y⟩:=key (L.map tupI) none S (λd hd=>by obtain⟨u,_,rfl⟩:=J8.mp hd;exact⟨u,rfl⟩) (.refl hs) rfl;obtain⟨rs,rfl,U⟩:=X.sub;refine⟨rs,S2,?_,U,k2,Y⟩;have:=U.length_le;unfold br;rw[P,ak];unfold eu;rw[if_pos (show(L.map tupI).length<=lim by rw[Jy];unfold lim;omega),Q,aE e];exact du (by rw[Jy];unfold lim;omega)
theorem AG{ds:List D}{i:Int}(Y:0<=i)(Z:i<ds.length):∃d∈ds,ff (.fz ds) (.int i)=a_ d:=by obtain⟨d,e,hd⟩:=Dn Y Z;refine⟨d,hd,?_⟩;show(match i9 ds i with|some d=>(a_ d:M D)|none=>M.fail)=_;rw[e]
theorem rm{zs:List Int}{a:Int}(Z:0<=a)(h:a<zs.length):ff (.fz (zs.map D.int)) (.int a)=a_ (.int (zs.getD a.toNat 0)):=CI Z h
theorem Do{e1 e2:TM}{ρ:aB}{x y:Int}(W:e1 ρ=a_ (.int x))(Y:e2 ρ=a_ (.int y)):cD dw (aP (cD cN (aP (bo (aa e1 (aa e2 au)))))) ρ=a_ (tupI (sortI [x,y])):=by
 have X:(sortI [x,y]).length=2:=(sortI_perm [x,y]).length_eq;have Z:((sortI [x,y]).map D.int).length<=lim:=by rw[Jy,X];exact sT
 have a1:aP (bo (aa e1 (aa e2 au))) ρ=a_ (.fz [.int x,.int y]):=by show gY (aa _ _ _>>=a8)=_;rw[bZ W (bZ Y (es:=au) rfl),ak];exact bR (us:=[.int x,.int y]) rfl sT
 refine(fI (x:=.fz ((sortI [x,y]).map D.int)) ?_).trans (qU Z);show gY (cD cN _ _)=_;rw[fI a1];exact bR (rk _) Z
theorem Fj{s:List Int}{rs:List (List Int)}:∃b,inD (tupI s) (.fz (rs.map tupI))=a_ (.bl b):=by
 refine⟨(rs.map sZ).any λy=>hO y (sZ s),bA λS=>?_⟩;unfold inD;have Z:gE S 60 (.fz (rs.map tupI))=ar (.list (rs.map sZ)):=by show(mapP (gE S 59) (rs.map tupI)).map z3=_;rw[kZ];rfl
 exact(vN (rg s) Z (r:=(rs.map sZ).any λy=>hO y (sZ s)) rfl).mpr ⟨rfl,rfl⟩
theorem lh{ρ:aB}{e:TM}{n:Nat}(Z:n<=14)(h:e ρ=a_ (.int n)):d7 (aP (aA aZ (aa e au))) ρ=a_ ⟨(cL n).map tupI,.none⟩:=by
 have:aP (aA aZ (aa e au)) ρ=a_ (.fz ((cL n).map tupI)):=by unfold aP;rw[cU h];exact AE Z
 unfold d7;rw[this];rfl
section
variable {S:aw}{k n g:Nat}{j:Int}{zs:List Int}{its:List D}
abbrev m8:TM:=aP (bo (aJ (mK (.int 0)) (aJ (mK (.int 0)) (aJ (mK (.int 1)) (aJ (mK (.int 0)) (aJ (mK (.int 2)) (aJ (mK (.int 1)) (aJ (mK (.int 3)) (aJ (mV 1) au)))))))))
theorem Fk{r:List (Option D)}(hs:dQ S k):∃(n:Nat) (S1:aw),aA maxD (aa (mK (.int 0)) (aa (aV fN (mV 1) (aV ff m8 (aP (aA aF (aa (mV 0) (aa (mK (.int 8)) au)))))) au)) (ar (.lst k)::ar (.int g)::r) S=ar (.ok (.int n),S1)/\n<=g/\Kp k S S1/\S1.length=S.length:=by
 obtain⟨i,S1,Z,Q,X,k1,Y⟩:=lJ (e1:=mV 0) (e2:=mK (.int 8)) (ρ:=ar (.lst k)::ar (.int g)::r) (m:=8) hs rfl rfl (by decide) (by decide);have W:m8 (ar (.lst k)::ar (.int g)::r)=a_ (.fz [.int 0,.int 0,.int 1,.int 0,.int 2,.int 1,.int 3,.int g]):=bR (us:=[.int 0,.int 0,.int 1,.int 0,.int 2,.int 1,.int 3,.int g]) rfl (by show 8<=lim;unfold lim;omega);obtain⟨d,hd,T⟩:=AG (ds:=[.int 0,.int 0,.int 1,.int 0,.int 2,.int 1,.int 3,.int g]) Q X;have R:∃u:Int,d= .int u/\0<=u:=by simp only[gc,fb,or_false]at hd;rcases hd with rfl|rfl|rfl|rfl|rfl|rfl|rfl|rfl<;>exact⟨_,rfl,by omega⟩
 obtain⟨u,rfl,P⟩:=R;have U:aV fN (mV 1) (aV ff m8 (aP (aA aF (aa (mV 0) (aa (mK (.int 8)) au))))) (ar (.lst k)::ar (.int g)::r) S=ar (.ok (.int ((g:Int) - u)),S1):=
  (gM (f:=fN) (x:=.int g) (S1:=S) rfl ((gM (Kb W S) Z).trans (Kb T S1))).trans rfl
 refine⟨((g:Int) - u).toNat,S1,?_,by omega,k1,Y⟩;refine(aE (cV (x:=.int 0) (S1:=S) rfl (cV U rfl))).trans ?_;show ar (Res.ok (D.int (if (g:Int) - u>0 then (g:Int) - u else 0)),S1)=_;have:(if (g:Int) - u>0 then (g:Int) - u else 0)=(((g:Int) - u).toNat:Int):=by split<;>omega
 rw[this]
abbrev eW(k g n:Nat)(j:Int)(r:List (Option D)):aB:=ar (.lst k)::ar (.int g)::ar (.int n)::ar (.int j)::r
theorem CJ{r:List (Option D)}(hs:dQ S k)(R:n<=7)(O:0<=j):∃(rs:List (List Int)) (S2:aw),br (d7 (aP (aA aZ (aa (mV 2) au)))) (gN 0) gm gn [none,ar 0,ar 3] (eW k g n j r) S=ar (.ok (.lst S2.length),S2++[rs.map tupI])/\rs.Sublist (cL n)/\Kp k S S2/\S2.length=S.length:=
 lg [ar (.lst k),ar (.int j)] (lh (by omega) rfl) (by have:=pairs_len (n:=n) (by omega);omega) rfl hs (λd=>rfl) λu Q U l=>by
  obtain⟨i,S1,Z,P,N,k1,Y⟩:=lJ (e1:=mV 1) (e2:=mK (.int 8)) (ρ:=[ar (tupI u),ar (.lst k),ar (.int j)]) (m:=8) U.st rfl rfl (by decide) (by decide);have X:aP (bo (aa (mK (.int 2)) (aa (mK (.int 4)) (aa (mK (.int 6)) au)))) [ar (tupI u),ar (.lst k),ar (.int j)]=a_ (.fz [.int 2,.int 4,.int 6]):=bR (us:=[.int 2,.int 4,.int 6]) rfl (by show 3<=lim;unfold lim;omega);have hm:aV jm (mV 2) (mK (.int 3)) [ar (tupI u),ar (.lst k),ar (.int j)]=a_ (.int (j % 3)):=(cH (x:=.int j) (y:=.int 3) rfl rfl).trans (show jm (.int j) (.int 3)=_ from if_pos (e:=M.fail) (show(0:Int)<3 by decide));obtain⟨d,hd,W⟩:=AG (ds:=[.int 2,.int 4,.int 6]) (i:=j % 3) (by omega) (by show j % 3<3;omega);have T:∃v:Int,d= .int v:=by simp only[gc,fb,or_false]at hd;rcases hd with rfl|rfl|rfl<;>exact⟨_,rfl⟩
  obtain⟨v,rfl⟩:=T;exact⟨decide (i<v),S1,AD (y:=.int v) Z (Kb ((cH X hm).trans W) S1) rfl,k1,Y⟩
theorem Fl{a:Nat}{q:Nat}{x7:Option D}(T:2<j)(Q:j<7)(P:1<=a)(Y:a<n)(R:zs.length=n):∃r:List Int,cD dw (aP (cD cN (aP (bo (aa (aV ff (mV 5) (mV 6)) (aa (aV ff (mV 5) (aV ff (aP (bo (aJ (aV fN (mV 6) (mK (.int 1))) (aJ (aV fN (mV 6) (mK (.int 1))) (aJ (mK (.int 0)) (aJ (aV jV (mV 6) (mK (.int 2))) au)))))) (aV fN (mV 3) (mK (.int 3))))) au)))))) (eW k g n j [ar (.lst q),ar (.fz (zs.map D.int)),ar (.int a),x7])=a_ (tupI r):=by
 have Z:aP (bo (aJ (aV fN (mV 6) (mK (.int 1))) (aJ (aV fN (mV 6) (mK (.int 1))) (aJ (mK (.int 0)) (aJ (aV jV (mV 6) (mK (.int 2))) au))))) (eW k g n j [ar (.lst q),ar (.fz (zs.map D.int)),ar (.int a),x7])=a_ (.fz [.int ((a:Int) - 1),.int ((a:Int) - 1),.int 0,.int ((a:Int) / 2)]):=by
  have U:aJ (aV fN (mV 6) (mK (.int 1))) (aJ (aV fN (mV 6) (mK (.int 1))) (aJ (mK (.int 0)) (aJ (aV jV (mV 6) (mK (.int 2))) au))) (eW k g n j [ar (.lst q),ar (.fz (zs.map D.int)),ar (.int a),x7])=a_ [.int ((a:Int) - 1),.int ((a:Int) - 1),.int 0,.int ((a:Int) / 2)]:=
   bZ (x:=.int ((a:Int) - 1)) rfl (bZ (x:=.int ((a:Int) - 1)) rfl (bZ (x:=.int 0) rfl (bZ (x:=.int ((a:Int) / 2)) ((cH (x:=.int a) (y:=.int 2) rfl rfl).trans (show jV (.int a) (.int 2)=_ from if_pos (e:=M.fail) (show wM a 2 from⟨by decide,by decide⟩))) (es:=au) rfl)))
  show gY (aJ _ _ _>>=a8)=_;rw[U,ak];exact bR (us:=[.int ((a:Int) - 1),.int ((a:Int) - 1),.int 0,.int ((a:Int) / 2)]) rfl (by show 4<=lim;unfold lim;omega)
 obtain⟨d,hd,X⟩:=AG (ds:=[.int ((a:Int) - 1),.int ((a:Int) - 1),.int 0,.int ((a:Int) / 2)]) (i:=j - 3) (by omega) (by show j - 3<4;omega);have W:∃v:Int,d= .int v/\0<=v/\v<n:=by simp only[gc,fb,or_false]at hd;rcases hd with rfl|rfl|rfl|rfl<;>exact⟨_,rfl,by omega,by omega⟩
 obtain⟨v,rfl,v0,v1⟩:=W;exact⟨_,Do ((cH (x:=.fz (zs.map D.int)) (y:=.int a) rfl rfl).trans (rm (by omega) (by omega))) ((cH (x:=.fz (zs.map D.int)) rfl ((cH (y:=.int (j - 3)) Z rfl).trans X)).trans (rm v0 (by omega)))⟩
theorem wt{q:Nat}{ρ:aB}{e:TM}{r:List Int}{acc:List (List Int)}(Y:mV 4 ρ=a_ (.lst S.length))(Z:e ρ=a_ (tupI r))(X:acc.length<=500):rJ (sv b8 (mV 4) e) ρ (S++[acc.map tupI])=ar (.ok (.nx ρ),S++[(acc++[r]).map tupI]):=by refine sV (x:=.non) ((tj Y rfl (Kb Z _)).trans ((uX cF (by rw[Jy];omega)).trans ?_));rw[KQ,L8 _ _ (Jw _),Nat.sub_self];rfl
theorem Dp(X:2<j)(U:j<7)(W:zs.length=n):∀(post:List Nat) (acc:List (List Int)) (x6 x7:Option D),(∀a∈post,1<=a/\a<n)->acc.length+post.length<=100->
  ∃(Y:Option D) (Z:List (List Int)),gD ⟨its,.none⟩ (gN 6) eB (post.map λb:Nat=>.int (b:Int)) (eW k g n j [ar (.lst S.length),ar (.fz (zs.map D.int)),x6,x7]) (S++[acc.map tupI])=ar (.ok (.nx (eW k g n j [ar (.lst S.length),ar (.fz (zs.map D.int)),Y,x7])),S++[Z.map tupI])/\Z.length<=acc.length+post.length
 |[],acc,x6,x7,_,_=>⟨x6,acc,by rw[L3,km];rfl,Jw _⟩
 |a::post,acc,x6,x7,ha,hl=>by
  rw[JR]at hl⊢;obtain⟨R,O⟩:=ha a (.head _);obtain⟨r,P⟩:=Fl (k:=k) (g:=g) (q:=S.length) (x7:=x7) X U R O W;obtain⟨Y,Z,N,Q⟩:=Dp X U W post (acc++[r]) (ar (.int a)) x7 (λb T=>ha b (.tail _ T)) (by rw[JA];show acc.length+1+_<=100;omega);refine⟨Y,Z,?_,by rw[JA]at Q;have:[r].length=1:=rfl;omega⟩;rw[<-N,JQ];exact kU rfl (wt (q:=0) rfl P (by omega))
theorem G6{r:List (Option D)}(hs:dQ S k)(U:n<=7):∃(rs:List (List Int)) (S2:aw),aP (br (d7 (aP (aA aZ (aa (mV 2) au)))) (gN 0) di dj [none,ar 0]) (eW k g n j r) S=ar (.ok (.fz (rs.map tupI)),S2)/\Kp k S S2/\S2.length=S.length:=by
 obtain⟨rs,S2,e,_,k2,Z⟩:=lg (t:=di) (m:=dj) (js:=[none,ar 0]) (ρ:=eW k g n j r) [ar (.lst k)] (lh (e:=mV 2) (by omega) rfl) (by have:=pairs_len (n:=n) (by omega);omega) rfl hs (λd=>rfl) λu T W l=>by obtain⟨i,S1,Y,R,Q,k1,X⟩:=lJ (e1:=mV 1) (e2:=mK (.int 12)) (ρ:=[ar (tupI u),ar (.lst k)]) (m:=12) W.st rfl rfl (by decide) (by decide);exact⟨_,S1,AD (y:=.int 0) Y rfl IK,k1,X⟩
 exact⟨rs,S2,rl e k2 Z (fK _),k2,Z⟩
theorem CK{q:Nat}{os acc:List (List Int)}{x5 x6:Option D}(hs:dQ S k)(L:n<=7)(W:S[q]? =ar (acc.map tupI))(X:q≠k):∃(rs:List (List Int)) (S2:aw),br (d7 (aP (aA aZ (aa (mV 2) au)))) (gN 0) eE eF [none,ar 4,ar 7] (eW k g n j [ar (.lst q),x5,x6,ar (.fz (os.map tupI))]) S=ar (.ok (.lst S2.length),S2++[rs.map tupI])/\rs.Sublist (cL n)/\Kp k S S2/\S2.length=S.length:=
 lg [ar (.lst q),ar (.fz (os.map tupI))] (lh (by omega) rfl) (by have:=pairs_len (n:=n) (by omega);omega) rfl hs (λd=>rfl) λu Z U l=>by have Y:=(U.oth q (Jz.mp W).1 X).trans W;obtain⟨_,_,e1,b,rfl,rfl⟩:=CG (r:=u) (Q:=λd T=>∃b,d= .bl b/\Z=T) Y λb=>⟨b,rfl,rfl⟩;obtain⟨c,e2⟩:=Fj (s:=u) (rs:=os);obtain⟨_,_,R,N,rfl,rfl⟩:=GY (S:=Z) (a:=b) (b:=c) (Q:=λd T=>∃b,d= .bl b/\Z=T) λb=>⟨b,rfl,rfl⟩;refine⟨N,Z,?_,.refl U.st,rfl⟩;have O:aV inD (mV 0) (mV 1) [ar (tupI u),ar (.lst q),ar (.fz (os.map tupI))] Z=ar (.ok (.bl b),Z):=(Kb (cH (x:=tupI u) (y:=.lst q) rfl rfl) Z).trans e1;have P:aV inD (mV 0) (mV 2) [ar (tupI u),ar (.lst q),ar (.fz (os.map tupI))] Z=ar (.ok (.bl c),Z):=Kb ((cH (x:=tupI u) (y:=.fz (os.map tupI)) rfl rfl).trans e2) Z;exact aE ((gM O P).trans R)
theorem G7{m:TM}{ρ:aB}(Z:n<=100)(h:m ρ=a_ (.int n)):Df (mK (.int 1)) m ρ=a_ ⟨(n7 1 (n - 1)).map λb:Nat=>.int (b:Int),.none⟩:=by have:=wq (a:=0) (m:=n);rw[An (x:=.int 1) rfl h,GT (by omega)];rw[show((0:Nat):Int)+1=1 from rfl]at this;rw[this]
theorem G8{ρ:aB}{q:Nat}{rs:List (List Int)}(hs:dQ S k)(Z:n<=7)(W:mV 2 ρ=a_ (.int n))(T:mV 4 ρ=a_ (.lst q))(g:S[q]? =ar (rs.map tupI))(U:rs.Sublist (cL n)):
  bS (kb (aa (mV 2) (aa (cD dw (aP (cD cN (mV 4)))) au))) ρ S=ar (.ok (.ret (bM n rs)),S):=by
 have w:WebOk n rs:=WebOk.of_sub Z U;have hf:=w.few;have Y:aP (cD cN (mV 4)) ρ S=ar (.ok (.fz (rs.map tupI)),S):=by unfold aP;rw[fI T];have:=xV hs g (λr X=>by obtain⟨a,b,e,_⟩:=w.el r X;rw[e];rfl) (by omega);rw[xQ w.ris]at this;exact this
 refine gp (uT (Kb W S) ((sW Y).trans ?_));rw[qU (by rw[Jy];unfold lim;omega)];rfl
theorem Fm{q:Nat}{acc:List (List Int)}{x6 x7:Option D}(U:n<=7)(T:zs.length=n)(R:acc.length<=100):∃acc2:List (List Int),jv (xy (fM ja (mV 3) (mK (.int 4))) (fM yQ (mV 2) (mK (.int 2)))) (rJ (sv b8 (mV 4) (cD dw (aP (cD cN (aP (bo (aa (aV ff (mV 5) (mK (.int 0))) (aa (aV ff (mV 5) (aV fN (mV 2) (mK (.int 1)))) au))))))))) dX (eW k g n j [ar (.lst S.length),ar (.fz (zs.map D.int)),x6,x7]) (S++[acc.map tupI])=ar (.ok (.nx (eW k g n j [ar (.lst S.length),ar (.fz (zs.map D.int)),x6,x7])),S++[acc2.map tupI]):=by
 have W:fM ja (mV 3) (mK (.int 4)) (eW k g n j [ar (.lst S.length),ar (.fz (zs.map D.int)),x6,x7])=a_ (decide (j=4)):=eX (x:=.int j) (y:=.int 4) rfl rfl IK;have X:fM yQ (mV 2) (mK (.int 2)) (eW k g n j [ar (.lst S.length),ar (.fz (zs.map D.int)),x6,x7])=a_ (decide (2<(n:Int))):=eX (x:=.int n) (y:=.int 2) rfl rfl rfl;have Z:xy (fM ja (mV 3) (mK (.int 4))) (fM yQ (mV 2) (mK (.int 2))) (eW k g n j [ar (.lst S.length),ar (.fz (zs.map D.int)),x6,x7])=a_ (decide (j=4) && decide (2<(n:Int))):=by
  show(fM ja _ _ _>>=_)=_;rw[W,ak];cases decide (j=4)with
  |false=>rfl
  |true=>exact X
 by_cases h:(decide (j=4) && decide (2<(n:Int)))=dr
 ·have Y:2<n:=by
   have:=Kl ((Kq _ _).mp h).2;omega
  refine⟨_,(Kb ((cT Z).trans (if_pos h)) _).trans (wt (q:=0) rfl (Do (x:=zs.getD 0 0) (y:=zs.getD (n - 1) 0) ?_ ?_) (by omega))⟩
  ·exact(cH (x:=.fz (zs.map D.int)) (y:=.int 0) rfl rfl).trans (rm (by decide) (by omega))
  ·refine(cH (x:=.fz (zs.map D.int)) (y:=.int ((n:Int) - 1)) rfl rfl).trans ((rm (by omega) (by omega)).trans ?_);rw[show((n:Int) - 1).toNat=n - 1 by omega]
 ·exact⟨acc,(Kb ((cT Z).trans (if_neg h)) _).trans rfl⟩
theorem Fn(hg:g<=7)(hs:dQ S k):∃(n:Nat) (E:List (List Int)) (S1:aw),gY (dz [.lst k,.int g]) S=ar (.ok (bM n E),S1)/\n<=g/\WebOk n E/\Kp k S S1/\S1.length=S.length:=by
 obtain⟨n,T1,e1,h,k1,l1⟩:=Fk (g:=g) (r:=[none,none,none,none,none,none]) hs;have Y:n<=7:=by omega
 obtain⟨j,T2,e2,j0,j7,k2,l2⟩:=lJ (e1:=mV 0) (e2:=mK (.int 7)) (ρ:=[ar (.lst k),ar (.int g),ar (.int n),none,none,none,none,none]) (m:=7) k1.st rfl rfl (by decide) (by decide);obtain⟨rs,R,z,e,k3,l3⟩:=CJ (g:=g) (n:=n) (j:=j) (r:=[none,none,none,none]) k2.st Y j0;have C:=Kp.grow k3.st [rs.map tupI];obtain⟨zs,X,u,w,k5,l5⟩:=AF (n:=n) (ρ:=eW k g n j [ar (.lst R.length),none,none,none]) (e1:=mV 0) (e2:=mV 2) C.st (by omega) rfl rfl;have H:zs.length=n:=by rw[w.length_eq];unfold gu;simp
 have s:k<R.length:=by have:=hs.lt;omega
 have g4:X[R.length]? =ar (rs.map tupI):=(k5.oth R.length (by simp) (by omega)).trans cF;have I:=((k1.trans k2).trans k3).trans (C.trans k5);have key:∃(J:Nat) (Z:List (List Int)) (ρ:aB) (T:aw),jv (fM yQ (mV 3) (mK (.int 2))) (aH (bE 4 (bo au)) (aH (oM (Df (mK (.int 1)) (mV 2)) (gN 6) eB) (aH (jv (xy (fM ja (mV 3) (mK (.int 4))) (fM yQ (mV 2) (mK (.int 2)))) (rJ (sv b8 (mV 4) (cD dw (aP (cD cN (aP (bo (aa (aV ff (mV 5) (mK (.int 0))) (aa (aV ff (mV 5) (aV fN (mV 2) (mK (.int 1)))) au))))))))) dX) (aH (bE 7 (aP (br (d7 (aP (aA aZ (aa (mV 2) au)))) (gN 0) di dj [none,ar 0]))) (bE 4 (br (d7 (aP (aA aZ (aa (mV 2) au)))) (gN 0) eE eF [none,ar 4,ar 7])))))) dX (eW k g n j [ar (.lst R.length),ar (.fz (zs.map D.int)),none,none]) X=ar (.ok (.nx ρ),T)/\mV 2 ρ=a_ (.int n)/\mV 4 ρ=a_ (.lst J)/\T[J]? =ar (Z.map tupI)/\Z.Sublist (cL n)/\Kp k S T:=by
  have B:fM yQ (mV 3) (mK (.int 2)) (eW k g n j [ar (.lst R.length),ar (.fz (zs.map D.int)),none,none])=a_ (decide (2<j)):=eX (x:=.int j) (y:=.int 2) rfl rfl rfl;by_cases hj:2<j
  ·have hi:=G7 (n:=n) (m:=mV 2) (ρ:=eW k g n j [ar (.lst X.length),ar (.fz (zs.map D.int)),none,none]) (by omega) rfl;obtain⟨O,acc,P,F⟩:=Dp (S:=X) (k:=k) (g:=g) (its:=(n7 1 (n - 1)).map λb:Nat=>.int (b:Int)) hj j7 H (n7 1 (n - 1)) [] none none (λa l=>by have:=MP.mp l;omega) (by rw[Mz];simp;omega);rw[Mz]at F;obtain⟨U,L⟩:=Fm (S:=X) (k:=k) (g:=g) (j:=j) (zs:=zs) (q:=0) (x6:=O) (x7:=none) Y H (acc:=acc) (by simp at F;omega);have Q:=Kp.grow k5.st [U.map tupI];obtain⟨os,p,i,N,l7⟩:=G6 (g:=g) (n:=n) (j:=j) (r:=[ar (.lst X.length),ar (.fz (zs.map D.int)),O,none]) Q.st Y;have f:k<X.length:=by have:=k5.len;simp at this;omega
   have K:p[X.length]? =ar (U.map tupI):=(N.oth X.length (by simp) (by omega)).trans cF;obtain⟨Z,t,e8,W,A,l8⟩:=CK (g:=g) (n:=n) (j:=j) (os:=os) (x5:=ar (.fz (zs.map D.int))) (x6:=O) N.st Y K (by omega);refine⟨t.length,Z,_,_,(Kb ((cT B).trans (if_pos (JM hj))) X).trans ((aN (bQ (du (S:=X) (us:=[]) (JS _)))).trans ((aN (uU hi P)).trans ((aN L).trans ((aN (bQ i)).trans (bQ e8))))),rfl,rfl,cF,W,I.trans ((Q.trans N).trans (A.trans (Kp.grow A.st _)))⟩
  ·exact⟨R.length,rs,_,_,(Kb ((cT B).trans (if_neg (by rw[Ke];exact hj))) X).trans rfl,rfl,rfl,g4,e,I⟩
 obtain⟨J,Z,ρ,T,P,v,h4,K,W,G⟩:=key;have hm:hZ [ar (.lst k),ar (.int g),none,none,none,none,none,none] S=ar (.ok (.ret (bM n Z)),T):=by unfold hZ;exact(aN (bQ e1)).trans ((aN (bQ e2)).trans ((aN (bQ z)).trans ((aN (bQ u)).trans ((aN P).trans (G8 G.st Y v h4 K W)))))
 obtain⟨S1,L,Q⟩:=AC (c:=dz [.lst k,.int g]) (d:=bM n Z) hs (eY (o:=.ret (bM n Z)) hm rfl) G rj;exact⟨n,Z,S1,L,h,WebOk.of_sub Y W,Q⟩
abbrev eG(k n q:Nat)(r:List (Option D)):aB:=ar (.lst k)::ar (.int n)::ar (.lst q)::r
theorem Dq{B:aw}(N:k<B.length)(H:8<=n)(X:n<=14):∀(post:List Nat) (acc:List (List Int)) (S':aw) (x3 x4 x5:Option D),acc.length+post.length<=100->n5 n acc->S'[B.length]? =ar (acc.map tupI)->Kp k B S'->
  ∃(W Q T:Option D) (Z:List (List Int)) (S2:aw),gD ⟨its,.none⟩ (gN 3) da (post.map λi:Nat=>.int (0+(i:Int))) (eG k n B.length [x3,x4,x5]) S'=ar (.ok (.nx (eG k n B.length [W,Q,T])),S2)/\S2[B.length]? =ar (Z.map tupI)/\n5 n Z/\Z.length<=acc.length+post.length/\Kp k B S2
 |[],acc,S',x3,x4,x5,_,gt,g,kp=>⟨x3,x4,x5,acc,S',by rw[L3,km];rfl,g,gt,Jw _,kp⟩
 | a ::post,acc,S',x3,x4,x5,hl,gt,g,kp=>by
  rw[JR]at hl⊢;obtain⟨i,L,e1,t,r,k1,A⟩:=lJ (e1:=mV 0) (e2:=mV 1) (ρ:=eG k n B.length [ar (.int (0+(a:Int))),x4,x5]) (m:=n) kp.st rfl rfl (by omega) (by omega);obtain⟨v,Y,e2,v0,v1,k2,s⟩:=lJ (e1:=mV 0) (e2:=aV fN (mV 1) (mK (.int 1))) (ρ:=eG k n B.length [ar (.int (0+(a:Int))),ar (.int i),x5]) (m:=(n:Int) - 1) k1.st rfl rfl (by omega) (by omega);have K:=(Jz.mp g).1;have g2:=(k2.oth B.length (by omega) (by omega)).trans ((k1.oth B.length K (by omega)).trans g);have O:aV jm (aV cK (aV cK (mV 4) (mK (.int 1))) (aP (aA aF (aa (mV 0) (aa (aV fN (mV 1) (mK (.int 1))) au))))) (mV 1) (eG k n B.length [ar (.int (0+(a:Int))),ar (.int i),x5]) L=ar (.ok (.int ((i+1+v) % n)),Y):=
   (gM ((gM (f:=cK) (x:=.int (i+1)) (S1:=L) rfl e2).trans rfl) (y:=.int n) rfl).trans (Kb (show jm (.int (i+1+v)) (.int n)=_ from if_pos (e:=M.fail) (show(0:Int)<n by omega)) Y)
  generalize hw:(i+1+v) % (n:Int)=w at O;have u:0<=w:=by rw[<-hw];exact Lh _ (by omega)
  have p:w<n:=by rw[<-hw];exact KW _ (by omega)
  have F:i≠w:=by
   intro e;have C:=Int.mul_ediv_add_emod (i+1+v) n;rw[hw]at C;have z:(n:Int)*((i+1+v) / n)=1+v:=by omega
   have q:0<(i+1+v) / (n:Int):=by
    rcases Int.lt_or_le 0 ((i+1+v) / (n:Int))with h|h
    ·exact h
    ·have:=Int.mul_nonpos_of_nonneg_of_nonpos (a:=(n:Int)) (by omega) h;omega
   have:=Int.mul_le_mul_of_nonneg_left (show 1<=(i+1+v) / (n:Int) by omega) (show(0:Int)<=n by omega);omega
  have U:aA minD (aa (mV 4) (aa (mV 5) au)) (eG k n B.length [ar (.int (0+(a:Int))),ar (.int i),ar (.int w)])=a_ (.int (if w<i then w else i)):=(call2 (x:=.int i) (y:=.int w) rfl rfl).trans rfl;have P:aA maxD (aa (mV 4) (aa (mV 5) au)) (eG k n B.length [ar (.int (0+(a:Int))),ar (.int i),ar (.int w)])=a_ (.int (if w>i then w else i)):=(call2 (x:=.int i) (y:=.int w) rfl rfl).trans rfl;obtain⟨W,Q,T,Z,S2,G,E,R,J,I⟩:=Dq N H X post (acc++[[if w<i then w else i,if w>i then w else i]]) (Y.set B.length ((acc++[[if w<i then w else i,if w>i then w else i]]).map tupI)) (ar (.int (0+(a:Int)))) (ar (.int i)) (ar (.int w)) (by rw[JA];show acc.length+1+_<=100;omega)
   (gt.snoc (by split<;>omega) (by split<;>split<;>omega) (by split<;>omega)) (J5 (by omega)) (((kp.trans k1).trans k2).set (Jw _) N)
  refine⟨W,Q,T,Z,S2,?_,E,R,by rw[JA]at J;have:[[if w<i then w else i,if w>i then w else i]].length=1:=rfl;omega,I⟩;rw[<-G,JQ];refine kU rfl ((aN (bQ e1)).trans ((aN (bQ O)).trans (sV (x:=.non) ((tj (x:=.lst B.length) (y:=tupI [if w<i then w else i,if w>i then w else i]) (S1:=Y) rfl rfl (uT (Kb U Y) (Kb P Y))).trans ((uX g2 (by rw[Jy];omega)).trans ?_)))));rw[KQ];rfl
theorem AH(hs:dQ S k):∃(n:Nat) (E:List (List Int)) (S1:aw),gY (bB [.lst k]) S=ar (.ok (bM n E),S1)/\8<=n/\n<=14/\WebOk n E/\Kp k S S1/\S1.length=S.length:=by
 obtain⟨j,B,R,s,v,k1,A⟩:=lJ (e1:=mV 0) (e2:=mK (.int 7)) (ρ:=[ar (.lst k),none,none,none,none,none]) (m:=7) hs rfl rfl (by decide) (by decide);obtain⟨n,K⟩:∃n:Nat,8+j=n:=⟨(8+j).toNat,by omega⟩;have Q:k<B.length:=by have:=hs.lt;omega
 obtain⟨i,X,L,z,u,k2,y⟩:=lJ (e1:=mV 0) (e2:=mK (.int 12)) (ρ:=eG k n B.length [none,none,none]) (m:=12) (Kp.grow k1.st [[]]).st rfl rfl (by decide) (by decide);have g1:X[B.length]? =ar (([]:List (List Int)).map tupI):=(k2.oth B.length (by simp) (by omega)).trans cF;obtain⟨T,J,O,acc,S2,U,g3,Y,W,k3⟩:=Dq (n:=n) (its:=aS 0 i.toNat) Q (by omega) (by omega) (e_ i.toNat) [] X none none none (by rw[Ks];simp;omega) (λt Z=>by cases Z) g1 ((Kp.grow k1.st [[]]).trans k2);rw[Ks]at W;have N:acc.length<=18:=by simp at W;omega
 have w:WebOk n (fC acc):=⟨λt Z=>Y t (xS.mp Z),xT acc,by have:=k9 acc;omega⟩;have C:uz (aP (aA aF (aa (mV 0) (aa (mK (.int 12)) au)))) (eG k n B.length [none,none,none]) (B++[[]])=ar (.ok ⟨aS 0 i.toNat,.none⟩,X):=by rw[Fh L,CB (by omega)];rfl
 have F:aV cK (mK (.int 8)) (aP (aA aF (aa (mV 0) (aa (mK (.int 7)) au)))) [ar (.lst k),none,none,none,none,none] S=ar (.ok (.int n),B):=by rw[gM (f:=cK) (x:=.int 8) (S1:=S) rfl R, <-K];rfl
 have G:aP (cD j9 (mV 2)) (eG k n B.length [T,J,O]) S2=ar (.ok (.fz ((fC acc).map tupI)),S2):=by
  refine rl ((sW (x:=.lst B.length) (S1:=S2) rfl).trans ?_) (Kp.refl k3.st) rfl (fK _);show(getL B.length>>=λxs=>match rowsOf xs with|some nss=>cw nss|none=>M.fail) S2=_;rw[aE (dP g3),nY];have Z:ED acc=true:=JU.mpr λx I=>by rw[Y.two x I];rfl
  show cw acc S2=_;unfold cw;rw[if_pos ⟨N,Z⟩];exact du (by rw[Jy];have:=k9 acc;unfold lim;omega)
 have hm:c9 [ar (.lst k),none,none,none,none,none] S=ar (.ok (.ret (bM n (fC acc))),S2):=by unfold c9;refine(aN (bQ F)).trans ((aN (bQ (du (S:=B) (us:=[]) (JS _)))).trans ((aN (wo C U)).trans (gp (uT (x:=.int n) (S1:=S2) rfl ((sW G).trans ?_)))));rw[qU (by rw[Jy];have:=k9 acc;unfold lim;omega)];rfl
 obtain⟨S1,H,P⟩:=AC (c:=bB [.lst k]) (d:=bM n (fC acc)) hs (eY (o:=.ret (bM n (fC acc))) hm rfl) (k1.trans k3) rj;exact⟨n,_,S1,H,by omega,by omega,w,P⟩
end
def lK:cW:=bS (IB (fM ja (mV 4) (aP (bo (aa (mK (.int 12)) au)))) (aP (aV cK (mV 4) (aP (bo (aa (lF dt (mV 1)) (aa (lF dr (mV 1)) au)))))) (mV 4))
def m_find:cW:=aH (jv (cQ (bV (z5 (mV 1)))) (bS (mK .non)) dX) (aH (bE 4 (aP (br (uz (mK (.int 13))) (gN 0) bF bG [none,ar 3]))) lK)
def gv:cW:=aH (bE 3 (bo (aa (cf (mV 1) "NoWeb") (aa (cf (mV 1) "NoPlace") (aa (cf (mV 1) "NoPlaces") au))))) (aH (bE 3 (aV cK (mV 3) (aP (bo (aa (cf (mV 1) "NoMap") (aa (cf (mV 1) "NoSharing") (aa (cf (mV 1) "NoRoot") au))))))) (aH (bE 3 (aV cK (mV 3) (aP (bo (aa (cf (mV 1) "NoNumber") (aa (cf (mV 1) "NotJoined") (aa (cf (mV 1) "NoTie") au))))))) (aH (bE 3 (aV cK (mV 3) (aP (bo (aa (cf (mV 1) "NoText") (aa (cf (mV 1) "NoLine") (aa (cf (mV 1) "NoDeed") au))))))) (aH (rJ (sv b8 (mV 3) (cf (mV 1) "TooGreat"))) m_find))))
theorem AI(f:D)(c:M D):dO f c=aH (bE 1 (mK .non)) (aH (sG 0 2 1 f c) gv):=rfl
theorem xW(f g x:D):(gv [ar f,ar x,none,none,none]>>=outD)=(gv [ar g,ar x,none,none,none]>>=outD):=by unfold gv m_find lK;simp only[aH,bE,rJ,jv,bS,dX,mV,mK,bo,aV,sv,cf,z5,IB,cQ,bV,fM,aa,au,aA,cD,br,aP,lF,uz,GG,yL,fw,ak,CA,GN,GO,GP,GQ,GR,List.set_cons_succ,List.set_cons_zero,outD,i8,Nn,List.map_nil,Option.bind,List.getElem?_cons_succ,List.getElem?_cons_zero,Option.join]
theorem AJ(f:D)(c:M D):bh f c []=n0 c (λx=>gv [ar f,ar x,none,none,none]>>=outD):=by
 funext S;unfold bh pv;rw[if_pos (show[f].length=1 from rfl)];show((dO f c [ar f,none,none,none,none])>>=outD) S=_;rw[AI,bj (ρ':=[ar f,ar .non,none,none,none]) rfl];have Z:sG 0 2 1 f c [ar f,ar .non,none,none,none]=zT 2 1 c [ar f,ar .non,none,none,none]:=by unfold sG;exact if_pos rfl
 show((sG 0 2 1 f c [ar f,ar .non,none,none,none]>>=λo=>yL o gv)>>=outD) S=_;rw[Z,fw];show M.bnd (zT 2 1 c [ar f,ar .non,none,none,none]) _ S=_;unfold M.bnd zT n0;cases h:c S with
 |none=>rfl
 | some p=>
  obtain⟨r,S1⟩:=p;cases r with
  |ok a=>rfl
  | ex x=>
   cases x with
   |exc n ds=>
    dsimp only;by_cases hn:n∈aQ
    ·rw[if_pos hn,if_pos hn];rfl
    ·rw[if_neg hn,if_neg hn]
   |_=>rfl
theorem eZ:∀f c es,bh f c es=bt c es:=by
 intro f c es;unfold bt;cases es with
 |nil=>
  rw[AJ,AJ];congr 1;funext x;exact xW _ _ x
 |cons e es=>
  unfold bh pv;rw[if_neg (by simp),if_neg (by simp)]
section
variable {f:D}{n:Str}{ds:List D}{S G:aw}{p:Nat}{xs:List D}{z:Option D}
theorem my(Z:n∈aQ)(a:Str):cf (mV 1) a [ar f,ar (.exc n ds),none,z,none]=a_ (.bl (bO n a)):=AB (ds:=ds) (g:=λn=>bO n a) Z
theorem three(Z:n∈aQ)(a b c:Str):aa (cf (mV 1) a) (aa (cf (mV 1) b) (aa (cf (mV 1) c) au)) [ar f,ar (.exc n ds),none,z,none]=a_ [.bl (bO n a),.bl (bO n b),.bl (bO n c)]:=
 bZ (my Z a) (bZ (my Z b) (bZ (my Z c) rfl))
theorem n6(Y:n∈aQ)(a b c:Str)(W:(S++G)[p]? =ar xs)(U:xs.length<=100):∃p' G',bE 3 (aV cK (mV 3) (aP (bo (aa (cf (mV 1) a) (aa (cf (mV 1) b) (aa (cf (mV 1) c) au)))))) [ar f,ar (.exc n ds),none,ar (.lst p),none] (S++G)=ar (.ok (.nx [ar f,ar (.exc n ds),none,ar (.lst p'),none]),S++G')/\(S++G')[p']? =ar (xs++[.bl (bO n a),.bl (bO n b),.bl (bO n c)])/\S.length<=p':=by
 refine⟨(S++G).length,G++[xs++[.bl (bO n a),.bl (bO n b),.bl (bO n c)]],?_,by rw[<-JT];exact cF,by rw[JA];omega⟩;have Z:aP (bo (aa (cf (mV 1) a) (aa (cf (mV 1) b) (aa (cf (mV 1) c) au)))) [ar f,ar (.exc n ds),none,ar (.lst p),none]=a_ (.fz [.bl (bO n a),.bl (bO n b),.bl (bO n c)]):=by show gY (aa _ _ _>>=a8)=_;rw[three Y a b c,ak];exact bR rfl GL
 have X:=cH (f:=cK) (m:=mV 3) (ρ:=[ar f,ar (.exc n ds),none,ar (.lst p),none]) (x:=.lst p) rfl Z;show((aV cK _ _ _)>>=λx=>a_ (Out.nx _)) _=_;rw[X,aE (a:=.lst (S++G).length) (S1:=S++(G++[xs++[.bl (bO n a),.bl (bO n b),.bl (bO n c)]]))]
 ·rfl
 ·show(getL p>>=λxs=>a8 (xs++_)) _=_;rw[aE (a:=xs) (S1:=S++G) (by unfold getL;rw[W];rfl)];unfold a8;rw[if_pos (by rw[JA];show xs.length+3<=lim;unfold lim;omega),JT]
end
theorem find_eq{f:D}{n:Str}{ds:List D}{S:aw}{p:Nat}{bs:List Bool}(Z:n∈aQ)(P:S[p]? =ar (bs.map D.bl))(K:bs.length=13):
  m_find [ar f,ar (.exc n ds),none,ar (.lst p),none] S=lK [ar f,ar (.exc n ds),none,ar (.lst p),ar (.fz ((aS 0 13).filter (uW bs)))] S:=by
 have X:jv (cQ (bV (z5 (mV 1)))) (bS (mK .non)) dX [ar f,ar (.exc n ds),none,ar (.lst p),none]=a_ (.nx [ar f,ar (.exc n ds),none,ar (.lst p),none]):=by
  have:cQ (bV (z5 (mV 1))) [ar f,ar (.exc n ds),none,ar (.lst p),none]=a_ false:=by show((sD (λ_=>dr) (.exc n ds)>>=jB)>>=_)=_;rw[AB Z];rfl
  exact(cT this).trans (if_neg (by decide))
 unfold m_find;rw[bj X];have L:uz (mK (.int 13)) [ar f,ar (.exc n ds),none,ar (.lst p),none]=a_ ⟨aS 0 13,.none⟩:=(uQ (x:=.int 13) rfl).trans (CB (by omega));have R:bN ⟨aS 0 13,.none⟩ (gN 0) bF bG (aS 0 13) [none,ar (.lst p)] S=ar (.ok ((aS 0 13).filter (uW bs)),S):=by
  refine sY (λρ=>∃x,ρ=[x,ar (.lst p)]) (uW bs) _ _ ⟨none,rfl⟩ λd hd ρ ⟨x,hρ⟩=>?_;subst hρ;obtain⟨k,W,rfl⟩:=J8.mp hd;have W:k<13:=J0.mp W;refine⟨_,rfl,⟨_,rfl⟩,?_,rfl⟩;have e:i9 (bs.map D.bl) (0+(k:Int))=ar (.bl (bs.getD k dt)):=by
   rw[Mw];unfold i9 yd;rw[Jy];have X:¬ ((k:Int)<0):=by omega
   have T:(k:Int)<bs.length:=by omega
   have O:k<bs.length:=by omega
   simp[X,T,O]
  show((getL p>>=λxs=>match i9 xs (0+(k:Int))with|some d=>(a_ d:M D)|none=>M.fail)>>=jB) S=_;rw[aE (a:=D.bl (bs.getD k dt)) (S1:=S)]
  ·show ar (Res.ok (bs.getD k dt),S)=ar (.ok (bs.getD (0+(k:Int)).toNat dt),S);rw[Mw,Kt]
  ·rw[aE (a:=bs.map D.bl) (S1:=S) (by unfold getL;rw[P];rfl),e];rfl
 have hm:br (uz (mK (.int 13))) (gN 0) bF bG [none,ar 3] [ar f,ar (.exc n ds),none,ar (.lst p),none] S=a8 ((aS 0 13).filter (uW bs)) S:=by unfold br;rw[L,ak];unfold eu;rw[if_pos (by show(aS 0 13).length<=lim;unfold aS lim;rw[Jy,Ks];omega)];exact aE R
 have N:gY (br (uz (mK (.int 13))) (gN 0) bF bG [none,ar 3] [ar f,ar (.exc n ds),none,ar (.lst p),none]) S=ar (.ok (.fz ((aS 0 13).filter (uW bs))),S):=by
  have Y:bU 0 ((aS 0 13).filter (uW bs))=true:=by
   have:∀l:List Nat,bU 0 ((l.map λi:Nat=>D.int (0+(i:Int))).filter (uW bs))=true:=λl=>by
    induction l with
    |nil=>rfl
    |cons x l ih=>
     rw[JQ,List.filter_cons];split
     ·unfold bU;rw[ih];unfold eA;rfl
     ·exact ih
   exact this _
  have Z:a8 ((aS 0 13).filter (uW bs)) S=ar (.ok (.lst S.length),S++[(aS 0 13).filter (uW bs)]):=by unfold a8;exact if_pos (JG (Ll _ _) (by unfold aS lim;rw[Jy,Ks];omega))
  obtain⟨d,U,e,rfl,rfl⟩:=sP (Q:=λd U=>d= .fz ((aS 0 13).filter (uW bs))/\U=S) ⟨_,_,hm.trans Z,[(aS 0 13).filter (uW bs)],S.length,_,rfl,rfl,cF,Jw _,g9 (JS _) _ Y,rfl,rfl⟩;exact e
 show(bE 4 _ _>>=λo=>yL o lK) S=_;rw[aE (a:=.nx [ar f,ar (.exc n ds),none,ar (.lst p),ar (.fz ((aS 0 13).filter (uW bs)))]) (S1:=S)]
 ·rfl
 ·show(gY _>>=_) S=_;rw[aE N];rfl
def marks(n:Str):List Bool:=[bO n "NoWeb",bO n "NoPlace",bO n "NoPlaces",bO n "NoMap",bO n "NoSharing",bO n "NoRoot",bO n "NoNumber",bO n "NotJoined",bO n "NoTie",bO n "NoText",bO n "NoLine",bO n "NoDeed",bO n "TooGreat"]
theorem AK{f:D}{n:Str}{ds:List D}{us:List D}{v:D}(Y:n∈aQ)(U:(aS 0 13).filter (uW (marks n))=us)(W:∀p,lK [ar f,ar (.exc n ds),none,ar (.lst p),ar (.fz us)]=a_ (.ret v))(S:aw):
  runs (gv [ar f,ar (.exc n ds),none,none,none]>>=outD) S λd O=>d=v/\∃G,O=S++G:=by
 have K:bE 3 (bo (aa (cf (mV 1) "NoWeb") (aa (cf (mV 1) "NoPlace") (aa (cf (mV 1) "NoPlaces") au)))) [ar f,ar (.exc n ds),none,none,none] S=ar (.ok (.nx [ar f,ar (.exc n ds),none,ar (.lst S.length),none]),S++[[.bl (bO n "NoWeb"),.bl (bO n "NoPlace"),.bl (bO n "NoPlaces")]]):=by show((aa _ _ _>>=a8)>>=λx=>a_ (Out.nx _)) S=_;rw[three Y,ak,aE (du (us:=[.bl (bO n "NoWeb"),.bl (bO n "NoPlace"),.bl (bO n "NoPlaces")]) GL)];rfl
 obtain⟨F,C,e2,g2,H⟩:=n6 (f:=f) (ds:=ds) (S:=S) Y "NoMap" "NoSharing" "NoRoot" (cF (S:=S) (xs:=[.bl (bO n "NoWeb"),.bl (bO n "NoPlace"),.bl (bO n "NoPlaces")])) (by decide:3<=100);obtain⟨I,E,P,g3,B⟩:=n6 (f:=f) (ds:=ds) (S:=S) Y "NoNumber" "NotJoined" "NoTie" g2 (by decide:6<=100);obtain⟨Z,X,L,Q,J⟩:=n6 (f:=f) (ds:=ds) (S:=S) Y "NoText" "NoLine" "NoDeed" g3 (by decide:9<=100);have R:=(Jz.mp Q).1;have N:rJ (sv b8 (mV 3) (cf (mV 1) "TooGreat")) [ar f,ar (.exc n ds),none,ar (.lst Z),none] (S++X)=ar (.ok (.nx [ar f,ar (.exc n ds),none,ar (.lst Z),none]),(S++X).set Z ((marks n).map D.bl)):=by have hm:=GV (f:=b8) (e1:=mV 3) (ρ:=[ar f,ar (.exc n ds),none,ar (.lst Z),none]) (x:=.lst Z) rfl rfl (my (f:=f) (ds:=ds) (z:=ar (.lst Z)) Y "TooGreat");refine sV (x:=.non) ((Kb hm _).trans ?_);rw[ak];show(getL Z>>=λxs=>jR Z (xs++[.bl (bO n "TooGreat")])) _=_;rw[aE (dP Q)];exact kl (by show 13<=lim;unfold lim;omega) R
 have T:=find_eq (f:=f) (ds:=ds) (S:=(S++X).set Z ((marks n).map D.bl)) (p:=Z) (bs:=marks n) Y (J5 R) rfl;rw[U,W]at T;refine⟨v,(S++X).set Z ((marks n).map D.bl),?_,rfl,X.set (Z - S.length) ((marks n).map D.bl),L8 _ _ J⟩;rw[aE (a:=Out.ret v) (S1:=(S++X).set Z ((marks n).map D.bl))]
 ·rfl
 ·unfold gv;exact(aN K).trans ((aN e2).trans ((aN P).trans ((aN L).trans ((aN N).trans T))))
theorem CL{n:Str}{ds us:List D}{v:D}(X:n∈aQ)(Y:(aS 0 13).filter (uW (marks n))=us)(Z:∀f p,lK [ar f,ar (.exc n ds),none,ar (.lst p),ar (.fz us)]=a_ (.ret v))(S:aw):
  runs (bt (M.raise (.exc n ds)) []) S λd W=>d=v/\∃G,W=S++G:=by
 unfold bt;rw[AJ];have:n0 (M.raise (.exc n ds)) (λx=>gv [ar (.fn 0 0 "" [] []),ar x,none,none,none]>>=outD)=(gv [ar (.fn 0 0 "" [] []),ar (.exc n ds),none,none,none]>>=outD):=by funext S;show(if n∈aQ then _ else none)=_;rw[if_pos X]
 rw[this];exact AK X Y (Z _) S
theorem xX{n:Str}{ds us:List D}{v:D}(X:n∈aQ)(Y:(aS 0 13).filter (uW (marks n))=us)(Z:∀f p,lK [ar f,ar (.exc n ds),none,ar (.lst p),ar (.fz us)]=a_ (.ret v))(W:eA 0 v=dr):
  gY (bt (M.raise (.exc n ds)) [])=a_ v:=GI W (CL X Y Z)
theorem eq_12{f x:D}{p:Nat}{k:Int}:fM ja (mV 4) (aP (bo (aa (mK (.int 12)) au))) [ar f,ar x,none,ar (.lst p),ar (.fz [.int k])]=a_ (decide (k=12)):=by
 have Z:aP (bo (aa (mK (.int 12)) au)) [ar f,ar x,none,ar (.lst p),ar (.fz [.int k])]=a_ (.fz [.int 12]):=bR (us:=[.int 12]) rfl (by show 1<=lim;unfold lim;omega);refine eX (x:=.fz [.int k]) rfl Z (bA λS=>?_);unfold ja;refine(dI (p:=.list [.int k]) (q:=.list [.int 12]) rfl rfl).mpr ⟨?_,rfl⟩;have:hO (.list [.int k]) (.list [.int 12])=decide (k=12):=by rw[Mp];simp[hO,H0]
 rw[this]
theorem G9{f x:D}{p:Nat}{k:Int}(h:k≠12):lK [ar f,ar x,none,ar (.lst p),ar (.fz [.int k])]=a_ (.ret (.fz [.int k])):=by refine df ?_;show(fM ja _ _ _>>=_)=_;rw[eq_12,ak,if_neg (by rw[Ke];exact h)];rfl
theorem CM:gY (bt (M.raise (.exc "NoWeb" [])) [])=a_ (.fz [.int 0]):=xX (by decide) (by rfl) (λf p=>G9 (by decide)) rfl
def n8(a b:Nat):List D:=[.non,.int 0,.tup [],.tup [.int 15,.tup []],.tup [.int (-1),.tup []],.tup [.bl dr,.tup []],.tup [.int 2,.lst a],.lst b,.tup [.int 2,.tup [.tup [.int 1,.int 0]]],.tup [.int 2,.tup [.tup [.int 0,.int 0]]],.emp,.str "2:"]
def oa:List D:=[.tup [.int 2,.tup [.tup [.int 0,.int 1],.tup [.int 0,.int 1]]],.tup [.int 3,.tup [.tup [.int 0,.int 2],.tup [.int 0,.int 1]]],.tup [.int 2,.tup [.tup [.int 0,.int 2]]],.tup [.int 2,.tup [.tup [.int 0,.bl dr]]],.tup [.int 2,.tup [.tup [.int 0,.int 1,.int 1]]]]
def rp(c:Nat):List D:=[.tup [.int 2,.tup [.int 0,.int 1]],.tup [.int 2,.non],.tup [.int 2,.tup [],.tup []],.tup [.int 2],.tup [.int 2,.tup [.lst c]],.tup [.int 2,.tup [.non]],.tup [.str "2",.tup []],.tup [.int 0,.tup [.tup [.int 0,.int 1]]]]
theorem Fo{n a b c:Nat}{S:aw}(H:n<=a)(Q:n<=b)(N:n<=c)(L:S[a]? =ar [])(U:S[b]? =ar [.int 2,.tup []])(X:S[c]? =ar [.int 0,.int 1]):∀d∈n8 a b++oa++rp c,∃u,gj n (tN S n 60) d=ar u/\Good u/\gr u=false:=by
 have P:=n4 (f:=59) H L rfl;have R:=n4 (f:=59) Q U rfl;have J:=n4 (f:=59) N X rfl;have Z:∀d,eA 0 d=dr->Ay d=dr->gr d=dt->∃u,gj n (tN S n 60) d=ar u/\Good u/\gr u=false:=λd O T W=>⟨d,qS d (vY (JS _) d O),ko T,W⟩;have I:∃u,gj n (tN S n 60) (.tup [.int 2,.lst a])=ar u/\Good u/\gr u=false:=⟨.tup [.int 2,.fz []],by unfold gj eP eP eP;rw[P];rfl,ko rfl,rfl⟩;have K:∃u,gj n (tN S n 60) (.lst b)=ar u/\Good u/\gr u=false:=⟨_,R,ko rfl,rfl⟩;have Y:∃u,gj n (tN S n 60) (.tup [.int 2,.tup [.lst c]])=ar u/\Good u/\gr u=false:=⟨.tup [.int 2,.tup [.fz [.int 0,.int 1]]],by
  have:gj n (tN S n 60) (.tup [.lst c])=ar (.tup [.fz [.int 0,.int 1]]):=by unfold gj eP eP;rw[J];rfl
  unfold gj eP eP eP;rw[this];rfl,ko rfl,rfl⟩
 intro d hd;simp only[n8,oa,rp,List.mem_append,gc,fb,or_false]at hd;rcases hd with((rfl|rfl|rfl|rfl|rfl|rfl|rfl|rfl|rfl|rfl|rfl|rfl)|(rfl|rfl|rfl|rfl|rfl))|(rfl|rfl|rfl|rfl|rfl|rfl|rfl|rfl)<;>first|exact I|exact K|exact Y|exact Z _ rfl rfl rfl
def bT(S:aw):aw:=[[],[.int 2,.tup []],n8 S.length (S.length+1),oa,n8 S.length (S.length+1)++oa,[.int 0,.int 1],rp (S.length+5),n8 S.length (S.length+1)++oa++rp (S.length+5)]
theorem CN{S Z:aw}{k:Nat}{j:Int}{d:D}(Y:aF [.lst k,.int 25] (S++bT S)=ar (.ok (.int j),Z))(X:Z[S.length+7]? =ar (n8 S.length (S.length+1)++oa++rp (S.length+5)))(W:i9 (n8 S.length (S.length+1)++oa++rp (S.length+5)) j=ar d):
  dJ [ar (.lst k),none] S=ar (.ok (.ret d),Z):=by
 unfold dJ;refine(aN (ρ':=[ar (.lst k),ar (.lst (S.length+2))]) (S1:=S++(bT S).take 3) (bQ (x:=.lst (S.length+2)) ?_)).trans ((aN (ρ':=[ar (.lst k),ar (.lst (S.length+4))]) (S1:=S++(bT S).take 5) (bQ (x:=.lst (S.length+4)) ?_)).trans ((aN (ρ':=[ar (.lst k),ar (.lst (S.length+7))]) (S1:=S++bT S) (bQ (x:=.lst (S.length+7)) ?_)).trans (gp ?_)))
 ·refine(kX (ys:=n8 S.length (S++[[]]).length) (S1:=S++[[]]++[[.int 2,.tup []]]) rfl (by show 12<=lim;unfold lim;omega)).trans ?_;rw[show(S++([[]]:aw)).length=S.length+1 from JA,JT,JA,JT];rfl
 ·refine(gM (x:=.lst (S.length+2)) rfl (kX (ys:=oa) (S1:=S++(bT S).take 3) rfl (by show 5<=lim;unfold lim;omega))).trans ?_;rw[JT,JA];refine(v7 (xs:=n8 S.length (S.length+1)) (ys:=oa) (oQ 2) (oQ 3) (by show 17<=lim;unfold lim;omega)).trans ?_;rw[JT,JA];rfl
 ·refine(gM (x:=.lst (S.length+4)) rfl (kX (ys:=rp (S++(bT S).take 5).length) (S1:=S++(bT S).take 5++[[.int 0,.int 1]]) rfl (by show 8<=lim;unfold lim;omega))).trans ?_;rw[show(S++(bT S).take 5).length=S.length+5 from JA,JT,JT,JA];refine(v7 (xs:=n8 S.length (S.length+1)++oa) (ys:=rp (S.length+5)) (oQ 4) (oQ 6) (by show 25<=lim;unfold lim;omega)).trans ?_;rw[JA];exact KG (λx=>ar (Res.ok (D.lst (S.length+7)),x)) (JT _ _ _)
 ·refine(gM (x:=.lst (S.length+7)) (y:=.int j) (S2:=Z) rfl ?_).trans (Aq X W);exact Y
theorem Fp{S:aw}{k:Nat}(hs:dQ S k):∃d S1,gY (dM [.lst k]) S=ar (.ok d,S1)/\Good d/\gr d=dt/\Kp k S S1/\S1.length=S.length:=by obtain⟨_,Y,W,j,rfl,T,R,Z⟩:=we (Q:=λd Y=>∃j,d= .int j/\0<=j/\j<25/\Kp k (S++bT S) Y) hs.grow (many:=25) (by decide) (by decide) λj Y a b _ X=>⟨j,rfl,a,b,X⟩;have N:=hs.lt;have gt:∀i us,(S++bT S)[S.length+i]? =ar us->Y[S.length+i]? =ar us:=λi us h=>(Z.oth (S.length+i) (Jz.mp h).1 (by omega)).trans h;obtain⟨d,P,hd⟩:=Dn (xs:=n8 S.length (S.length+1)++oa++rp (S.length+5)) T R;have X:Kp k S Y:=(Kp.grow hs _).trans Z;obtain⟨u,O,U,hw⟩:=Fo (n:=S.length) (a:=S.length) (b:=S.length+1) (c:=S.length+5) (S:=Y) (Jw _) (K8 _ _) (K8 _ _) (gt 0 _ (oQ 0)) (gt 1 _ (oQ 1)) (gt 5 _ (oQ 5)) d hd;refine⟨u,_,kQ (eY (CN W (gt 7 _ (oQ 7)) P) rfl) (mx X) (.inl ?_) X.len O,U,hw,rh hs X⟩;have:=Z.len;rw[JA,show(bT S).length=8 from rfl]at this;omega
end W
namespace S7
open PySem PySem.Spec PyProof.Rows L2 S3
section
variable {X:Cx}{E:XD}{scope:Scope}{Nc:List Str}{js:List (Option Nat)}{elt tg iter:Expr}{ifs:List Expr}{pos:Pos}{mi:S3.aB->M Iter}{g:mR}{t:S3.aB->M Bool}{m:TM}
end
end S7
namespace W
open PySem PySem.Spec PyProof.Rows L2 S3 S4 S7
section
variable {α:Type}{l:List α}{mk f:α->D}{mi:aB->M Iter}{g:mR}{t:il}{m:TM}{ρ:aB}{js:List (Option Nat)}{its:List D}
theorem AL(R:aB->Prop)(q:α->Bool):∀(l:List α) (ρ:aB),R ρ->(∀a∈l,∀ ρ,R ρ->∃Z,g (mk a) ρ=a_ Z/\R Z/\t Z=a_ (q a)/\(q a=dr->m Z=a_ (f a)))->bN ⟨its,.none⟩ g t m (l.map mk) ρ=a_ ((l.filter q).map f)
 |[],ρ,_,_=>by unfold bN;rw[cR];rfl
 |a::l,ρ,hR,h=>by
  obtain⟨Z,X,U,W,S⟩:=h a (.head _) ρ hR;have T:=AL R q l Z U λb Y=>h b (.tail _ Y);rw[JQ];unfold bN;rw[cR,ak,X,ak,W,ak,T];cases hq:q a with
  |true=>rw[LK hq,if_pos rfl,S hq,ak];rfl
  |false=>rw[LL (by rw[hq];decide),if_neg (by decide)]
theorem AM(R:aB->Prop)(q:α->Bool)(Y:mi ρ=a_ ⟨l.map mk,.none⟩)(W:l.length<=lim)(X:R (i8 js ρ))(Z:∀a∈l,∀ ρ,R ρ->∃ ρ1,g (mk a) ρ=a_ ρ1/\R ρ1/\t ρ1=a_ (q a)/\(q a=dr->m ρ1=a_ (f a))):
  br mi g t m js ρ=a8 ((l.filter q).map f):=by
 unfold br;rw[Y,ak];unfold eu;rw[if_pos (by show(l.map mk).length<=lim;rw[Jy];exact W)];show(bN _ g t m (l.map mk) _>>=_)=_;rw[AL R q l _ X Z,ak]
theorem Ds(R:aB->Prop)(q:α->Bool)(X:mi ρ=a_ ⟨l.map mk,.none⟩)(Z:l.length<=lim)(U:R (i8 js ρ))(Y:∀a∈l,∀ ρ,R ρ->∃ ρ1,g (mk a) ρ=a_ ρ1/\R ρ1/\t ρ1=a_ (q a)/\(q a=dr->m ρ1=a_ (f a)))
  (W:bU 0 ((l.filter q).map f)=dr):aP (br mi g t m js) ρ=a_ (.fz ((l.filter q).map f)):=by
 unfold aP;rw[AM R q X Z U Y];exact bR W (by rw[Jy];exact JG (Ll _ _) Z)
theorem Dt(R:aB->Prop)(q:α->Bool)(X:mi ρ=a_ ⟨l.map mk,.none⟩)(Z:l.length<=lim)(U:R (i8 js ρ))(Y:∀a∈l,∀ ρ,R ρ->∃ ρ1,g (mk a) ρ=a_ ρ1/\R ρ1/\t ρ1=a_ (q a)/\(q a=dr->m ρ1=a_ (f a)))
  (W:bU 0 ((l.filter q).map f)=dr):aP (FG (br mi g t m js)) ρ=a_ (.fz ((l.filter q).map f)):=by
 unfold aP FG;rw[AM R q X Z U Y,xO];exact bR W (by rw[Jy];exact JG (Ll _ _) Z)
end
theorem things{es:aB->M (List D)}{ρ:aB}{us:List D}(Y:es ρ=a_ us)(Z:bU 0 us=dr)(X:us.length<=50):aP (bo es) ρ=a_ (.fz us):=by show gY (es ρ>>=a8)=_;rw[Y,ak];exact bR Z (by unfold lim;omega)
abbrev cp(x:Str):List Nat:=x.cps.toList
def st(l:List Nat):Str:=⟨l.toArray⟩
theorem rq{x y:Str}(h:cp x=cp y):x=y:=Str.ext' (Array.toList_inj.mp h)
theorem AN(x y:Str):cp (x++y)=cp x++cp y:=by show(x.cps++y.cps).toList=_;simp
theorem jA(l m:List Nat):st l++st m=st (l++m):=rq (by rw[AN];rfl)
theorem Fq(x:Str):x.length=(cp x).length:=by simp[Str.length]
theorem fL(l:List Nat):(st l).length=l.length:=by rw[Fq];rfl
def jn(c:List Nat):List (List Nat)->List Nat
 |[]=>[]
 |[x]=>x
 |x::r=>x++(c++jn c r)
theorem rz{c x y:List Nat}{r:List (List Nat)}:jn c (x::y::r)=x++(c++jn c (y::r)):=rfl
theorem wu(c:List Nat):∀ws:List (List Nat),Txt.join (st c) (ws.map st)=st (jn c ws)
 | ws=>by
  have go:∀ws:List (List Nat),Str.join (st c) (ws.map st)=st (jn c ws):=λws=>by
   induction ws with
   |nil=>rfl
   | cons x r ih=>
    cases r with
    |nil=>rfl
    |cons y r=>
     show st x++st c++Str.join (st c) ((y::r).map st)=_;rw[ih,jA,jA,rz,JT]
  show Builtin.Str.glued (st c) (ws.map st)=_;rw[L7];exact go ws
theorem tq{c:Nat}:∀{x y r s:List Nat},c∉x->c∉y->x++c::r=y++c::s->x=y/\r=s
 |[],[],r,s,_,_,h=>⟨rfl,(K1 h).2⟩
 |[],b::y,r,s,_,hy,h=>(hy (by rw[<-(K1 h).1];exact .head _)).elim
 |a::x,[],r,s,hx,_,h=>(hx (by rw[(K1 h).1];exact .head _)).elim
 |a::x,b::y,r,s,hx,hy,h=>by
  obtain⟨e1,e2⟩:=K1 h;obtain⟨Y,Z⟩:=tq (λz=>hx (.tail _ z)) (λz=>hy (.tail _ z)) e2;exact⟨by rw[e1,Y],Z⟩
theorem AO{c:Nat}:∀{xs ys:List (List Nat)},(∀x∈xs,c∉x)->(∀y∈ys,c∉y)->xs≠[]->ys≠[]->jn [c] xs=jn [c] ys->xs=ys
 |[],_,_,_,h,_,_=>(h rfl).elim
 |_,[],_,_,_,h,_=>(h rfl).elim
 |[x],[y],_,_,_,_,h=>by rw[show x=y from h]
 |[x],y::z::r,hx,_,_,_,h=>(hx x (.head _) (by rw[show x=y++c::jn [c] (z::r)from h];simp)).elim
 |x::w::q,[y],_,hy,_,_,h=>(hy y (.head _) (by rw[<-show x++c::jn [c] (w::q)=y from h];simp)).elim
 |x::w::q,y::z::r,hx,hy,_,_,h=>by
  obtain⟨e1,e2⟩:=tq (hx x (.head _)) (hy y (.head _)) (show x++c::jn [c] (w::q)=y++c::jn [c] (z::r)from h);rw[e1,AO (λa Z=>hx a (.tail _ Z)) (λa Z=>hy a (.tail _ Z)) (La _ _) (La _ _) e2]
theorem AQ(x:Str)(c:Nat):Txt.split x (st [c])≠[]:=by
 unfold Txt.split;split
 ·exact La _ _
 ·split
  ·exact La _ _
  ·rw[StrLaws.partsBetween_eq];obtain⟨p,r,e⟩:=StrLaws.partsFrom_ne x (st [c]).length 0 (g8 x (st [c]) 0 x.length (x.length+1));rw[e];exact La _ _
theorem AR{c:Nat}{ws:List (List Nat)}(Y:ws≠[])(h:∀w∈ws,c∉w):Txt.split (st (jn [c] ws)) (st [c])=ws.map st:=by
 have Z:=StrLaws.join_split (st (jn [c] ws)) (st [c]);have hf:=StrLaws.split_free (st (jn [c] ws)) c;have X:=AQ (st (jn [c] ws)) c;have U:Txt.split (st (jn [c] ws)) (⟨#[c]⟩:Str)=Txt.split (st (jn [c] ws)) (st [c]):=rfl;rw[U]at hf;generalize Txt.split (st (jn [c] ws)) (st [c])=ps at Z hf X;have e1:ps=(ps.map cp).map st:=by rw[J2];exact(List.map_id _).symm
 rw[<-L7]at Z;have W:Txt.join (st [c]) ps=st (jn [c] ws):=Z;rw[e1,wu]at W;have T:jn [c] (ps.map cp)=jn [c] ws:=KG cp W;have Q:=AO (λx S=>by obtain⟨p,R,rfl⟩:=J8.mp S;exact hf p R) h (by simpa using X) Y T;rw[e1,Q]
theorem wx{c:Nat}{a b:List Nat}(h:c∉a):nI (st (a++c::b)) (st [c])=[st a,st [c],st b]:=by
 have W:(st (a++c::b)).length=a.length+(b.length+1):=by rw[fL,JA];rfl
 have X:StrLaws.At (st (a++c::b)) (st [c]) (st (a++c::b)).length a.length:=(StrLaws.subAt_one (st (a++c::b)) c a.length).mpr (by show(a++c::b)[a.length]? =ar c;simp);rcases StrLaws.occ_head (st (a++c::b)) (st [c]) 1 (Jw 1)with⟨_,hn⟩|⟨i,r,e,hi,hk⟩
 ·exact(hn _ X).elim
 ·have Y:(a++c::b)[i]? =ar c:=(StrLaws.subAt_one (st (a++c::b)) c i).mp hi;have Z:i=a.length:=by
   rcases LV i a.length with q|q|q
   ·rw[JZ q]at Y;exact(h (JV Y)).elim
   ·exact q
   ·exact(hk _ q X).elim
  subst Z;unfold nI;rw[e];have s1:j_ (st (a++c::b)) 0 a.length=st a:=rq (by rw[show cp (j_ (st (a++c::b)) 0 a.length)=_ from StrLaws.strSub_toList _ _ _];show((a++c::b).drop 0).take (a.length - 0)=a;simp)
  have s2:j_ (st (a++c::b)) (a.length+(st [c]).length) (st (a++c::b)).length=st b:=rq (by rw[show cp (j_ (st (a++c::b)) (a.length+(st [c]).length) (st (a++c::b)).length)=_ from StrLaws.strSub_toList _ _ _];rw[W,fL];show((a++c::b).drop (a.length+1)).take (a.length+(b.length+1) - (a.length+1))=b;rw[show a.length+(b.length+1) - (a.length+1)=b.length by omega,show(a++c::b).drop (a.length+1)=b by rw[<-List.drop_drop,List.drop_left];rfl];exact List.take_of_length_le (Jw _))
  show[j_ (st (a++c::b)) 0 a.length,st [c],j_ (st (a++c::b)) (a.length+(st [c]).length) (st (a++c::b)).length]=_;rw[s1,s2]
def dg(n:Nat):List Nat:=if n<10 then [48+n]else [48+n / 10,48+n % 10]
theorem Fs:∀n:Nat,n<100->((EW (n:Int):String):Str)=st (dg n):=by decide+kernel
def wy:List Nat->Option Nat
 |[a]=>if 48<=a/\a<=57 then ar (a - 48)else none
 |[a,b]=>if 49<=a/\a<=57/\48<=b/\b<=57 then ar ((a - 48)*10+(b - 48))else none
 |_=>none
theorem AS:∀n:Nat,n<100->wy (dg n)=ar n:=by decide+kernel
theorem AU:∀n:Nat,n<100->PySem.intText? (st (dg n))=ar (n:Int):=by decide+kernel
theorem rA{l:List Nat}{n:Nat}(h:wy l=ar n):n<100/\l=dg n:=by
 match l,h with
 |[a],h=>
  have h:(if 48<=a/\a<=57 then ar (a - 48)else none)=ar n:=h;split at h
  ·next c=>cases h;exact⟨by omega,by unfold dg;rw[if_pos (by omega)];congr 1;omega⟩
  ·cases h
 | [a,b],h=>
  have h:(if 49<=a/\a<=57/\48<=b/\b<=57 then ar ((a - 48)*10+(b - 48))else none)=ar n:=h;split at h
  ·next c=>
   cases h;refine⟨by omega,?_⟩;unfold dg;rw[if_neg (by omega),show 48+((a - 48)*10+(b - 48)) / 10=a by omega,show 48+((a - 48)*10+(b - 48)) % 10=b by omega]
  ·cases h
theorem AV:∀n:Nat,n<100->∀c∈dg n,48<=c/\c<=57:=by decide+kernel
theorem dR:∀n:Nat,n<100->(dg n).length<=2:=by decide+kernel
section
variable {ρ ρ':aB}{e e1 e2 e3:TM}{x y z:D}{b c:Bool}{us:List D}{m n:cW}{v:D}
theorem wz{p q:il}(Z:p ρ=a_ b)(Y:b=dt->q ρ=a_ c):vM p q ρ=a_ (b||c):=by
 show(p ρ>>=_)=_;rw[Z];cases b with
 |true=>rfl
 |false=>exact Y rfl
theorem AW{p q:il}(Z:p ρ=a_ b)(Y:b=dr->q ρ=a_ c):xy p q ρ=a_ (b && c):=by
 show(p ρ>>=_)=_;rw[Z];cases b with
 |true=>exact Y rfl
 |false=>rfl
theorem not_eq{t:il}(h:t ρ=a_ b):cQ t ρ=a_ (!b):=by show(t ρ>>=_)=_;rw[h];rfl
theorem Jq(h:e ρ=a_ (.bl b)):cQ (bV e) ρ=a_ (!b):=not_eq (iR h)
theorem nb(h:e ρ=a_ (.bl dr)):cQ (bV e) ρ=a_ false:=not_eq (iR h)
theorem je{t:il}(h:t ρ=a_ dt):jv t m dX ρ=a_ (.nx ρ):=(cT h).trans (if_neg (by decide))
theorem uZ{t:il}(h:t ρ=a_ dr)(Z:e ρ=a_ v):jv t (bS e) dX ρ=a_ (.ret v):=(cT h).trans ((if_pos rfl).trans (df Z))
theorem AX(h:us.length<=1000):cq us=a_ (.tup us):=by unfold cq;exact if_pos (by unfold lim;omega)
theorem Ha(Z:e1 ρ=a_ x)(Y:e2 ρ=a_ y):kb (aa e1 (aa e2 au)) ρ=a_ (.tup [x,y]):=by show(aa _ _ _>>=cq)=_;rw[bZ Z (bZ Y (es:=au) rfl),ak];exact AX (by show 2<=1000;decide)
theorem xY{x y z:Int}(Z:e1 ρ=a_ (.int x))(Y:e2 ρ=a_ (.int y))(X:e3 ρ=a_ (.int z)):gX rH rH e1 e2 e3 ρ=a_ (decide (x<=y) && decide (y<=z)):=by
 unfold gX;rw[Z,ak,Y,ak,show rH (.int x) (.int y)=a_ (.bl (decide (x<=y)))from rfl,ak,show jB (.bl (decide (x<=y)))=a_ (decide (x<=y))from rfl,ak];by_cases c:x<=y
 ·rw[JM c,if_pos rfl,X];rfl
 ·rw[J1 c,if_neg (by decide)];rfl
theorem u6{g:mR}(Z:e ρ=a_ x)(Y:g x ρ=a_ ρ'):oK e g ρ=a_ (.nx ρ'):=by unfold oK;rw[Z,ak,Y];rfl
theorem u7{f:D->List D->M D}{s:Str}(Y:e1 ρ=a_ (.str s))(Z:e2 ρ=a_ y):gL f e1 e2 ρ=f (.str s) [y]:=by show(e1 ρ>>=_)=_;rw[Y,ak,show Dl (.str s)=a_ ()from rfl,ak,Z];rfl
theorem mz{a b:List Nat}(Z:e1 ρ=a_ (.str (st a)))(Y:e2 ρ=a_ (.str (st b)))(X:a.length+b.length<=10000):aV ig e1 e2 ρ=a_ (.str (st (a++b))):=by rw[cH Z Y];show(if (st a).length+(st b).length<=10000 then (a_ (D.str (st a++st b)):M D)else M.fail)=_;rw[if_pos (by rw[fL,fL];exact X),jA]
theorem join_eq{sep:List Nat}{ws:List (List Nat)}(Z:e1 ρ=a_ (.str (st sep)))(Y:e2 ρ=a_ (.fz (ws.map λw=>D.str (st w))))(X:(ws.map y').sum+ws.length*sep.length<=100000):gL lG e1 e2 ρ=a_ (.str (st (jn sep ws))):=by
 rw[u7 Z Y];have W:(ws.map λw=>D.str (st w))=(ws.map st).map D.str:=by rw[J2];rfl
 have e1:((ws.map st).map (·.length)).sum+(ws.map st).length*(st sep).length=(ws.map y').sum+ws.length*sep.length:=by rw[J2,Jy,fL];congr 2
 rw[W];show(match strsOf ((ws.map st).map D.str)with|some l=>if (l.map λx:Str=>x.length).sum+l.length*(st sep).length<=100000 then (a_ (D.str (Txt.join (st sep) l)):M D)else M.fail|none=>M.fail)=_;rw[nL];show(if ((ws.map st).map (·.length)).sum+(ws.map st).length*(st sep).length<=100000 then (a_ (D.str (Txt.join (st sep) (ws.map st))):M D)else M.fail)=_;rw[if_pos (by rw[e1];exact X),wu]
theorem lj{k:Nat}(h:e ρ=a_ (.int k))(Y:k<100):cD gF e ρ=a_ (.str (st (dg k))):=by
 rw[fI h];show(if (k:Int).natAbs.log2<1920 then (a_ (D.str (EW (k:Int))):M D)else M.fail)=_;have Z:((k:Int).natAbs.log2<1920):=by rw[Int.natAbs_natCast];exact Mu (Nat.log2_le_self k) (by omega)
 rw[if_pos Z,Fs k Y]
theorem Du{js:aB->M (List Str)}{l:List Str}(h:js ρ=a_ l):pP js ρ=a_ (.str (l.foldl (· ++·) nC)):=by show(js ρ>>=_)=_;rw[h];rfl
theorem p7{js:aB->M (List Str)}{s:Str}{l:List Str}(Z:e ρ=a_ (.str s))(Y:js ρ=a_ l)(X:s.length<=1000):fX e js ρ=a_ (s::l):=by show(e ρ>>=_)=_;rw[Z,ak,show Hv (.str s)=a_ s from if_pos X,ak,Y];rfl
theorem Hb(l:List Nat):nC++st l=st l:=rq (by rw[AN];rfl)
theorem wA{l:List Nat}{c:Nat}{a b s:List Nat}(Z:e1 ρ=a_ (.str (st l)))(Y:e2 ρ=a_ (.str (st [c])))(W:nI (st l) (st [c])=[st a,st s,st b])(X:l.length<=10000):gL ke e1 e2 ρ=a_ (.tup [.str (st a),.str (st s),.str (st b)]):=by rw[u7 Z Y];unfold ke;show(if ((st [c]).length==0)=dt/\(st l).length<=10000 then cq ((nI (st l) (st [c])).map D.str)else M.fail)=_;rw[if_pos ⟨rfl,by rw[fL];exact X⟩,W];exact AX (by show 3<=1000;decide)
theorem AY{l:List Nat}{c:Nat}{ws:List (List Nat)}(Z:e1 ρ=a_ (.str (st l)))(Y:e2 ρ=a_ (.str (st [c])))(hs:Txt.split (st l) (st [c])=ws.map st)(X:l.length<=10000)(W:ws.length<=1000):gL hV e1 e2 ρ=a8 (ws.map λw=>D.str (st w)):=by rw[u7 Z Y];unfold hV;show(if ((st [c]).length==0)=dt/\(st l).length<=10000/\(Txt.split (st l) (st [c])).length<=lim then a8 ((Txt.split (st l) (st [c])).map D.str)else M.fail)=_;rw[if_pos ⟨rfl,by rw[fL];exact X,by rw[hs,Jy];unfold lim;omega⟩,hs,J2];rfl
theorem kq(ws:List (List Nat)):bU 0 (ws.map λw=>D.str (st w))=true:=by
 induction ws with
 |nil=>rfl
 |cons w r ih=>rw[JQ];unfold bU;rw[ih];rfl
theorem AZ{l:List Nat}(h:∀c∈l,c<128):NC (st l)=true:=by unfold NC;show l.toArray.all _=dr;rw[List.all_toArray,JU];exact λc Z=>JM (L5 (h c Z) (by decide))
theorem mB{S:aw}{k:Nat}{l:List Nat}(h:∀c∈l,c<128):gE S k (.str (st l))=ar (.str (st l)):=by cases k<;>exact if_pos (AZ h)
theorem Ft{a b:List Nat}(h:st a=st b):a=b:=KG cp h
theorem wB{a b:List Nat}:hO (.str (st a)) (.str (st b))=decide (a=b):=by
 have:hO (.str (st a)) (.str (st b))=(st a==st b):=by simp[hO]
 rw[this,Mp,beq_iff_eq,Ke];exact⟨Ft,λh=>by rw[h]⟩
theorem Ja{a b:List Nat}(Y:∀c∈a,c<128)(Z:∀c∈b,c<128):ja (.str (st a)) (.str (st b))=a_ (.bl (decide (a=b))):=bA λS=>by unfold ja;exact(dI (mB Y) (mB Z)).mpr ⟨by rw[wB],rfl⟩
theorem Jr{a b:List Nat}(Y:∀c∈a,c<128)(Z:∀c∈b,c<128):jC (.str (st a)) (.str (st b))=a_ (.bl (!decide (a=b))):=bA λS=>by unfold jC;exact(dI (mB Y) (mB Z)).mpr ⟨by rw[wB],rfl⟩
end
def oD:Option Nat->D
 |some k=>.int k
 |none=>.non
abbrev asc(l:List Nat):Prop:=∀c∈l,c<128
def CO:List Nat:=[48,49,50,51,52,53,54,55,56,57]
theorem CP:("0123456789":Str)=st CO:=by decide+kernel
theorem xZ:("0":Str)=st [48]:=by decide+kernel
theorem CQ{c:Nat}:decide (c∈CO)=decide (48<=c/\c<=57):=by rw[Mp,Ke,Ke];unfold CO;simp;omega
theorem Fu{l:List Nat}{r:List (Option D)}(W:asc l)(U:l.length<=2):cD m4 (aP (br (xH (mV 0)) (gN 0) cg cm [none])) (ar (.str (st l))::r)=a_ (.bl (l.all λc=>decide (48<=c/\c<=57))):=by
 have Y:xH (mV 0) (ar (.str (st l))::r)=a_ ⟨l.map λc=>D.str (st [c]),.none⟩:=by
  show Ad (.str (st l))=_;show(if (st l).cps.all (· <128)=dr then (a_ ⟨hU (st l),.none⟩:M Iter)else M.fail)=_;rw[if_pos]
  ·rfl
  ·show l.toArray.all _=dr;rw[List.all_toArray,JU];exact λc Z=>JM (W c Z)
 have Z:=Ds (l:=l) (mk:=λc=>D.str (st [c])) (f:=λc=>D.bl (decide (48<=c/\c<=57))) (mi:=xH (mV 0)) (g:=gN 0) (t:=cg) (m:=cm) (js:=[none]) (ρ:=ar (.str (st l))::r)
  (λρ=>∃x,ρ=[x]) (λ_=>dr) Y (by unfold lim;omega) ⟨none,rfl⟩ (λc Z ρ ⟨x,hρ⟩=>by subst hρ;refine⟨[ar (.str (st [c]))],rfl,⟨_,rfl⟩,rfl,λ_=>?_⟩;refine(cH (x:=.str (st [c])) (y:=.str ("0123456789":Str)) rfl rfl).trans ?_;show a_ (D.bl (!(g8 ("0123456789":Str) (st [c]) 0 ("0123456789":Str).length 1).isEmpty))=_;rw[show(!(g8 ("0123456789":Str) (st [c]) 0 ("0123456789":Str).length 1).isEmpty)=_ from StrLaws.found_one _ c,show("0123456789":Str).cps.toList=CO from KG cp CP,CQ])
  (by rw[cG];have:=qT (l.map λc=>decide (48<=c/\c<=57));rw[J2]at this;exact this)
 rw[cG]at Z;refine(fI Z).trans ?_;have X:(l.map λc=>D.bl (decide (48<=c/\c<=57)))=(l.map λc=>decide (48<=c/\c<=57)).map D.bl:=by rw[J2];rfl
 rw[X,qV,Mv];rfl
theorem wC{l:List Nat}{e:TM}{ρ:aB}(h:e ρ=a_ (.str (st l)))(Z:l.length<=10000):cD jd e ρ=a_ (.int l.length):=by rw[fI h];show(if (st l).length<=10000 then (a_ (D.int (st l).length):M D)else M.fail)=_;rw[fL,if_pos Z]
theorem Fv{l:List Nat}(S:asc l)(N:l.length<=10000):bC [.str (st l)]=a_ (oD (wy l)):=by
 unfold bC gk;have X:gX rH rH (mK (.int 1)) (cD jd (mV 0)) (mK (.int 2)) [ar (.str (st l))]=a_ (decide ((1:Int)<=l.length) && decide ((l.length:Int)<=2)):=xY rfl (wC rfl N) rfl;by_cases h2:1<=l.length/\l.length<=2
 ·have e1:(decide ((1:Int)<=l.length) && decide ((l.length:Int)<=2))=true:=by rw[Kq,Ke,Ke];omega
  rw[e1]at X;have Z:=wz (p:=cQ (gX rH rH (mK (.int 1)) (cD jd (mV 0)) (mK (.int 2)))) (not_eq X) (λ_=>Jq (Fu (r:=[]) S h2.2));by_cases hf:(l.all λc=>decide (48<=c/\c<=57))=dr
  ·rw [hf]at Z;have Y:fM yQ (cD jd (mV 0)) (mK (.int 1)) [ar (.str (st l))]=a_ (decide ((1:Int)<l.length)):=eX (wC rfl N) (y:=.int 1) rfl rfl
   match l,h2,hf,Z,Y,S with
   | [a],h2,hf,Z,Y,S=>
    have hf:48<=a/\a<=57:=by simpa using hf
    have e2:wy [a]=ar (a - 48):=if_pos hf;obtain⟨U,O⟩:=rA e2;have W:cD pO (mV 0) [ar (.str (st [a]))]=a_ (.int ((a - 48:Nat):Int)):=by
     rw[fI (x:=.str (st [a])) rfl];have Q:PySem.intText? (st [a])=ar ((a - 48:Nat):Int):=by rw[O];exact AU _ U
     show(match PySem.intText? (st [a])with|some k=>if (st [a]).length<=640 then (a_ (D.int k):M D)else M.fail|none=>M.fail)=_;rw[Q];rfl
    refine de (o:=.ret (.int ((a - 48:Nat):Int))) ?_ (by rw[e2];rfl);exact(bj (je Z)).trans ((bj (je (AW (c:=dt) Y (λz=>by cases z)))).trans (df W))
   | [a,b],h2,hf,Z,Y,S=>
    have hf:(48<=a/\a<=57)/\(48<=b/\b<=57):=by simpa using hf
    have R:aV xJ (mV 0) (mK (.int 0)) [ar (.str (st [a,b]))]=a_ (.str (st [a])):=(cH (x:=.str (st [a,b])) (y:=.int 0) rfl rfl).trans rfl;have L:fM ja (aV xJ (mV 0) (mK (.int 0))) (mK (.str ("0":Str))) [ar (.str (st [a,b]))]=a_ (decide ([a]=[48])):=eX R (y:=.str ("0":Str)) rfl (by rw[xZ];exact Ja (λc P=>by rw[List.mem_singleton.mp P];omega) (by decide));have T:=AW Y (λ_=>L);by_cases h0:a=48
    ·subst h0;refine de (o:=.ret .non) ?_ (by rw[show wy [48,b]=none by show(if 49<=48/\48<=57/\48<=b/\b<=57 then ar ((48 - 48)*10+(b - 48))else none)=none;exact if_neg (by omega)];rfl);exact(bj (je Z)).trans (fJ (uZ T rfl))
    ·have e2:wy [a,b]=ar ((a - 48)*10+(b - 48)):=if_pos (by omega);obtain⟨U,O⟩:=rA e2;rw[show(decide ((1:Int)<([a,b]:List Nat).length) && decide ([a]=[48]))=dt by rw[J1 (show ¬ [a]=[48] by simpa using h0),MB]]at T;have W:cD pO (mV 0) [ar (.str (st [a,b]))]=a_ (.int (((a - 48)*10+(b - 48):Nat):Int)):=by
      rw[fI (x:=.str (st [a,b])) rfl];have Q:PySem.intText? (st [a,b])=ar (((a - 48)*10+(b - 48):Nat):Int):=by rw[O];exact AU _ U
      show(match PySem.intText? (st [a,b])with|some k=>if (st [a,b]).length<=640 then (a_ (D.int k):M D)else M.fail|none=>M.fail)=_;rw[Q];rfl
     refine de (o:=.ret (.int (((a - 48)*10+(b - 48):Nat):Int))) ?_ (by rw[e2];rfl);exact(bj (je Z)).trans ((bj (je T)).trans (df W))
  ·have hf:(l.all λc=>decide (48<=c/\c<=57))=false:=by simpa using hf
   rw[hf]at Z;have e2:wy l=none:=by
    cases h:wy l with
    |none=>rfl
    |some k=>
     obtain⟨U,e⟩:=rA h;rw[e]at hf;rw[JU.mpr λc P=>JM (AV k U c P)]at hf;cases hf
   rw[e2];exact de (o:=.ret .non) (fJ (uZ Z rfl)) rfl
 ·have e1:(decide ((1:Int)<=l.length) && decide ((l.length:Int)<=2))=false:=by
   rw[Bool.and_eq_false_iff,MW,MW];omega
  rw[e1]at X;have Z:=wz (p:=cQ (gX rH rH (mK (.int 1)) (cD jd (mV 0)) (mK (.int 2)))) (q:=cQ (bV (cD m4 (aP (br (xH (mV 0)) (gN 0) cg cm [none]))))) (c:=dr) (not_eq X) (λz=>by cases z);have e2:wy l=none:=by
   cases h:wy l with
   |none=>rfl
   |some k=>
    obtain⟨U,e⟩:=rA h;have:=dR k U;have K:1<=(dg k).length:=by unfold dg;split<;>simp
    rw[e]at h2;omega
  rw[e2];exact de (o:=.ret .non) (fJ (uZ Z rfl)) rfl
def wd(t:List Int):List Nat:=dg (t.getD 0 0).toNat++45::dg (t.getD 1 0).toNat
def tl(E:List (List Int)):List Nat:=(E.map λt=>32::wd t).flatten
def lS(n:Nat)(E:List (List Int)):List Nat:=dg n++58::tl E
theorem A0:∀ws:List (List Nat),jn [] ws=ws.flatten
 |[]=>rfl
 |[x]=>by simp[jn]
 |x::y::r=>by rw[rz,A0 (y::r)];simp
theorem A1(c:Nat):∀(x:List Nat) (ws:List (List Nat)),jn [c] (x::ws)=x++(ws.map λw=>c::w).flatten
 |x,[]=>by simp[jn]
 |x,y::r=>by rw[rz,A1 c y r];simp
theorem Hd(E:List (List Int)):tl E=jn [32] ([]::E.map wd):=by rw[A1,J2];rfl
theorem Fw(n:Nat)(E:List (List Int)):lS n E=jn [32] ((dg n++[58])::E.map wd):=by rw[A1,J2];unfold lS tl;rw[JT];rfl
theorem ll{n:Nat}(h:n<100):asc (dg n):=λc Z=>by have:=AV n h c Z;omega
theorem wD{n c:Nat}(h:n<100)(Z:c<48\/57<c):c∉dg n:=λz=>by have:=AV n h c z;omega
theorem wF{a b:List Nat}(X:asc a)(Z:asc b):asc (a++b):=λc Y=>(K3.mp Y).elim (X c) (Z c)
theorem og{x:Nat}{b:List Nat}(X:x<128)(Z:asc b):asc (x::b):=λc Y=>by
 rcases JN.mp Y with rfl|h
 ·exact X
 ·exact Z c h
section
variable {n:Nat}{E:List (List Int)}
theorem Hx(X:n<=14)(w:WebOk n E){t:List Int}(Z:t∈E):∃a b:Nat,t=[(a:Int),(b:Int)]/\a<100/\b<100:=by obtain⟨a,b,rfl,h0,Y,W⟩:=w.el t Z;exact⟨a.toNat,b.toNat,by rw[Int.toNat_of_nonneg h0,Int.toNat_of_nonneg (by omega)],by omega,by omega⟩
theorem He{a b:Nat}:wd [(a:Int),(b:Int)]=dg a++45::dg b:=rfl
theorem Fx{a b:Nat}(Y:a<100)(Z:b<100):asc (wd [(a:Int),(b:Int)]):=wF (ll Y) (og (by decide) (ll Z))
theorem A3{a b:Nat}(Y:a<100)(Z:b<100):(wd [(a:Int),(b:Int)]).length<=5:=by rw[He,JA,JR];have:=dR a Y;have:=dR b Z;omega
theorem Hf{a b:Nat}(Y:a<100)(Z:b<100):32∉wd [(a:Int),(b:Int)]:=λz=>by
 rw[He,K3,JN]at z;rcases z with z|z|z
 ·exact wD Y (by decide) z
 ·cases z
 ·exact wD Z (by decide) z
theorem Fy(h:∀t∈E,∃a b:Nat,t=[(a:Int),(b:Int)]/\a<100/\b<100):asc (tl E):=λc Z=>by unfold tl at Z;obtain⟨l,W,Z⟩:=List.mem_flatten.mp Z;obtain⟨t,X,rfl⟩:=J8.mp W;obtain⟨a,b,rfl,U,Y⟩:=h t X;exact og (by decide) (Fx U Y) c Z
theorem rB(h:∀t∈E,∃a b:Nat,t=[(a:Int),(b:Int)]/\a<100/\b<100):(tl E).length<=E.length*6:=by
 induction E with
 |nil=>exact Jw _
 |cons t E ih=>
  obtain⟨a,b,rfl,X,Z⟩:=h t (.head _);have W:=ih λt Y=>h t (.tail _ Y);have U:=A3 X Z;show(32::wd [(a:Int),(b:Int)]++tl E).length<=_;rw[JA,JR,JR,NG];omega
theorem wG(Z:n<100)(h:∀t∈E,∃a b:Nat,t=[(a:Int),(b:Int)]/\a<100/\b<100):asc (lS n E):=wF (ll Z) (og (by decide) (Fy h))
theorem wH(Z:n<100)(h:∀t∈E,∃a b:Nat,t=[(a:Int),(b:Int)]/\a<100/\b<100):(lS n E).length<=3+E.length*6:=by unfold lS;rw[JA,JR];have:=dR n Z;have:=rB h;omega
theorem A4:("-":Str)=st [45]:=by decide+kernel
theorem A5:(" ":Str)=st [32]:=by decide+kernel
theorem A6:(":":Str)=st [58]:=by decide+kernel
theorem Hg:("":Str)=st []:=by decide+kernel
theorem Fz{a b:List Nat}(X:asc a)(Z:asc b)(U:a.length+b.length<=9000)(Y:45∉a):d8 [.str (st (a++45::b))]=a_ (.tup [oD (wy a),oD (wy b)]):=by
 unfold d8 jx;have W:gL ke (mV 0) (mK (.str ("-":Str))) [ar (.str (st (a++45::b))),none,none,none]=a_ (.tup [.str (st a),.str (st [45]),.str (st b)]):=wA (c:=45) rfl (KG (λs:Str=>(a_ (D.str s):M D)) A4) (wx Y) (by rw[JA,JR];omega);refine de (o:=.ret (.tup [oD (wy a),oD (wy b)])) ((bj (u6 (ρ':=[ar (.str (st (a++45::b))),ar (.str (st a)),ar (.str (st [45])),ar (.str (st b))]) W rfl)).trans (df (Ha ?_ ?_))) rfl
 ·exact pV ((cU rfl).trans (Fv X (by omega)))
 ·exact pV ((cU rfl).trans (Fv Z (by omega)))
theorem Hh{a b:Nat}(Z:a<100)(Y:b<100):d8 [.str (st (wd [(a:Int),(b:Int)]))]=a_ (tupI [(a:Int),(b:Int)]):=by rw[He,Fz (ll Z) (ll Y) (by have:=dR a Z;have:=dR b Y;omega) (wD Z (by decide)),AS a Z,AS b Y];rfl
theorem x8(Z:n<=14)(w:WebOk n E):d9 [bM n E]=a_ .non:=by rw[Az AA (wk w),if_pos (wg (by omega) (by omega) w)]
theorem A7{ρ:aB}{e:TM}{k:Nat}(h:e ρ=a_ (.int k))(Z:k<100):pP (fX (cD gF e) (fX (mK (.str (":":Str))) uO)) ρ=a_ (.str (st (dg k++[58]))):=by refine(Du (p7 (lj h Z) (p7 (e:=mK (.str (":":Str))) (s:=(":":Str)) rfl (js:=uO) rfl (by decide+kernel)) (by rw[fL];have:=dR k Z;omega))).trans ?_;show a_ (D.str (nC++st (dg k)++(":":Str)))=_;rw[Hb,A6,jA]
theorem CS{ρ:aB}{e1 e2:TM}{a b:Nat}(X:e1 ρ=a_ (.int a))(W:e2 ρ=a_ (.int b))(Y:a<100)(Z:b<100):pP (fX (mK (.str (" ":Str))) (fX (cD gF e1) (fX (mK (.str ("-":Str))) (fX (cD gF e2) uO)))) ρ=a_ (.str (st (32::wd [(a:Int),(b:Int)]))):=by have U:=dR a Y;have T:=dR b Z;refine(Du (p7 (e:=mK (.str (" ":Str))) (s:=(" ":Str)) rfl (p7 (lj X Y) (p7 (e:=mK (.str ("-":Str))) (s:=("-":Str)) rfl (p7 (lj W Z) (js:=uO) rfl (by rw[fL];omega)) (by decide+kernel)) (by rw[fL];omega)) (by decide+kernel))).trans ?_;show a_ (D.str (nC++(" ":Str)++st (dg a)++("-":Str)++st (dg b)))=_;rw[A5,Hb,jA,A4,jA,jA,He];simp
theorem A8(W:n<=14)(w:WebOk n E):bP [bM n E]=a_ (.str (st (lS n E))):=by
 have hf:=w.few;have he:∀t∈E,∃a b:Nat,t=[(a:Int),(b:Int)]/\a<100/\b<100:=λt Z=>Hx W w Z;unfold bP ia;have X:=Dt (l:=E) (mk:=tupI) (f:=λt=>D.str (st (32::wd t))) (mi:=d7 (mV 2)) (g:=dY 2 (bc (gN 0) (bc (gN 1) eN))) (t:=eI) (m:=eJ) (js:=[none,none]) (ρ:=[ar (bM n E),ar (.int n),ar (.tup (E.map tupI))])
  (λρ=>∃x y,ρ=[x,y]) (λ_=>dr) rfl (by unfold lim;omega) ⟨none,none,rfl⟩ (λt Z ρ ⟨x,y,hρ⟩=>by subst hρ;obtain⟨a,b,rfl,S,U⟩:=he t Z;exact⟨[ar (.int a),ar (.int b)],rfl,⟨_,_,rfl⟩,rfl,λ_=>CS rfl rfl S U⟩)
  (by rw[cG];have:=kq (E.map λt=>32::wd t);rw[J2]at this;exact this)
 rw[cG]at X;have T:gL lG (mK (.str ("":Str))) (aP (FG (br (d7 (mV 2)) (dY 2 (bc (gN 0) (bc (gN 1) eN))) eI eJ [none,none]))) [ar (bM n E),ar (.int n),ar (.tup (E.map tupI))]=a_ (.str (st (tl E))):=by
  have:=join_eq (sep:=[]) (ws:=E.map λt=>32::wd t) (e1:=mK (.str ("":Str))) (KG (λs:Str=>(a_ (D.str s):M D)) Hg) (by rw[J2];exact X) (by have Y:=rB he;unfold tl at Y;rw[List.length_flatten]at Y;rw[A2,Nat.mul_zero];omega)
  rw[this,A0];rfl
 have R:=rB he;refine uS (o:=.ret (.str (st (lS n E)))) ((bj (GU (pV ((cU rfl).trans (x8 W w))))).trans ((bj (u6 (ρ':=[ar (bM n E),ar (.int n),ar (.tup (E.map tupI))]) rfl rfl)).trans (df ((mz (A7 rfl (by omega)) T (by rw[JA];have:=dR n (by omega);show(dg n).length+1+_<=_;omega)).trans ?_)))) rfl;unfold lS;rw[JT];rfl
end
section
variable {n:Nat}{E:List (List Int)}{ρ:aB}{e:TM}
theorem Hi{ws:List (List Nat)}(h:e ρ=a_ (.fz (ws.map λw=>D.str (st w))))(Y:ws.length<=1000):aP (Dd e (oS (mK (.int 1))) oN) ρ=a_ (.fz ((ws.drop 1).map λw=>D.str (st w))):=by
 have:Dd e (oS (mK (.int 1))) oN ρ=a8 ((ws.drop 1).map λw=>D.str (st w)):=by show(e ρ>>=λx=>oS (mK (.int 1)) ρ>>=λlo=>oN ρ>>=λZ=>ub x lo Z)=_;rw[h,ak];show a8 (S3.cutD (ws.map λw=>D.str (st w)) (ar 1) none)=_;rw[GW,List.map_drop]
 unfold aP;rw[this];exact bR (kq _) (by rw[Jy,Ma];unfold lim;omega)
theorem CT(Z:n<=14)(w:WebOk n E):dN [bM n E]=a_ (.bl dr):=by rw[As AA (wk w),wg (by omega) (by omega) w]
theorem A9(X:n<=14)(w:WebOk n E):dC [.str (st (lS n E))]=a_ (bM n E):=by
 have hf:=w.few;have he:∀t∈E,∃a b:Nat,t=[(a:Int),(b:Int)]/\a<100/\b<100:=λt Y=>Hx X w Y;have hlen:=wH (n:=n) (by omega) he;have Z:=wG (n:=n) (by omega) he;unfold dC jz;have O:gL ke (mV 0) (mK (.str (":":Str))) [ar (.str (st (lS n E))),none,none,none,none]=a_ (.tup [.str (st (dg n)),.str (st [58]),.str (st (tl E))]):=wA (c:=58) rfl (KG (λs:Str=>(a_ (D.str s):M D)) A6) (wx (wD (by omega) (by decide))) (by omega);have hs:aP (gL hV (mV 3) (mK (.str (" ":Str)))) [ar (.str (st (lS n E))),ar (.str (st (dg n))),ar (.str (st [58])),ar (.str (st (tl E))),none]=a_ (.fz (([]::E.map wd).map λw=>D.str (st w))):=by
  have P:=AY (e1:=mV 3) (e2:=mK (.str (" ":Str))) (ρ:=[ar (.str (st (lS n E))),ar (.str (st (dg n))),ar (.str (st [58])),ar (.str (st (tl E))),none]) (l:=tl E) (c:=32) (ws:=[]::E.map wd) rfl (KG (λs:Str=>(a_ (D.str s):M D)) A5)
   (by
    rw[Hd];refine AR (La _ _) λx W=>?_;rcases JN.mp W with rfl|W
    ·exact fb
    ·obtain⟨t,Y,rfl⟩:=J8.mp W;obtain⟨a,b,rfl,T,U⟩:=he t Y;exact Hf T U)
   (by have:=rB he;omega) (by rw[JR,Jy];omega)
  unfold aP;rw[P];exact bR (kq _) (by rw[Jy,JR,Jy];unfold lim;omega)
 have hd:=Hi hs (by rw[JR,Jy];omega);have S:=Dt (l:=E) (mk:=λt=>D.str (st (wd t))) (f:=tupI) (mi:=d7 (aP (Dd (aP (gL hV (mV 3) (mK (.str (" ":Str))))) (oS (mK (.int 1))) oN))) (g:=gN 0) (t:=eL) (m:=eM) (js:=[none]) (ρ:=[ar (.str (st (lS n E))),ar (.str (st (dg n))),ar (.str (st [58])),ar (.str (st (tl E))),none])
  (λρ=>∃x,ρ=[x]) (λ_=>dr) (by
   unfold d7;rw[hd,ak,List.drop_succ_cons,M',J2];rfl) (by unfold lim;omega) ⟨none,rfl⟩ (λt Y ρ ⟨x,hρ⟩=>by
   subst hρ;obtain⟨a,b,rfl,T,U⟩:=he t Y;exact⟨[ar (.str (st (wd [(a:Int),(b:Int)])))],rfl,⟨_,rfl⟩,rfl,λ_=>pV ((cU rfl).trans (Hh T U))⟩)
  (by rw[cG];exact fK E)
 rw[cG]at S;have Q:kb (aa (aP (aA bC (aa (mV 1) au))) (aa (cD dw (aP (FG (br (d7 (aP (Dd (aP (gL hV (mV 3) (mK (.str (" ":Str))))) (oS (mK (.int 1))) oN))) (gN 0) eL eM [none])))) au)) [ar (.str (st (lS n E))),ar (.str (st (dg n))),ar (.str (st [58])),ar (.str (st (tl E))),none]=a_ (bM n E):=by refine Ha (pV ((cU rfl).trans ((Fv (ll (by omega)) (by have:=dR n (by omega);omega)).trans ?_))) ((fI S).trans (qU (by rw[Jy];unfold lim;omega)));rw[AS n (by omega)];rfl
 have R:vM (cQ (bV (aP (aA dN (aa (mV 4) au))))) (fM jC (aP (aA bP (aa (mV 4) au))) (mV 0)) [ar (.str (st (lS n E))),ar (.str (st (dg n))),ar (.str (st [58])),ar (.str (st (tl E))),ar (bM n E)]=a_ false:=
  wz (b:=dt) (nb (pV ((cU rfl).trans (CT X w)))) λ_=>eX (pV ((cU rfl).trans (A8 X w))) (y:=.str (st (lS n E))) rfl (by rw[Jr Z Z,JM rfl];rfl)
 exact uS (o:=.ret (bM n E)) ((bj (je (nb (e:=gh (mV 0) "str") rfl))).trans ((bj (u6 (ρ':=[ar (.str (st (lS n E))),ar (.str (st (dg n))),ar (.str (st [58])),ar (.str (st (tl E))),none]) O rfl)).trans ((bj (Ap Q)).trans ((bj (je R)).trans (df rfl))))) rfl
theorem same_str{a:List Nat}{k:Nat}(Z:asc a):bL (k+1) [.str (st a),.str (st a)]=a_ (.bl dr):=by refine de (o:=.ret (.bl dr)) (d:=.bl dr) ?_ rfl;unfold cz;refine(bj (je (iR (e:=De (mV 1) "tuple" "list") (b:=dt) rfl))).trans (df (and_eq (b:=dr) ((cH (x:=.str (st a)) (y:=.str (st a)) rfl rfl).trans (by rw[Ja Z Z,JM rfl])) (λ_=>(cH (x:=.bl dt) (y:=.bl dt) rfl rfl).trans IY) (λz=>by cases z)))
theorem Ba:∀{E:List (List Int)},(∀t∈E,∃a b:Nat,t=[(a:Int),(b:Int)]/\a<100/\b<100)->((E.map wd).map y').sum<=E.length*5
 |[],_=>Jw _
 |t::E,he=>by
  obtain⟨a,b,rfl,X,Z⟩:=he t (.head _);have W:=Ba (λt Y=>he t (.tail _ Y));have U:=A3 X Z;rw[JQ,JQ,List.sum_cons,JR,NG];omega
theorem Bb{r:List (Option D)}{Y a1 Z:Option D}(Q:n<=14)(w:WebOk n E):gL lG (mK (.str (" ":Str))) (aP (aV cK (aP (bo (aa (aV ig (cD gF (aV ff (mV 3) (mK (.int 0)))) (mK (.str (":":Str)))) au))) (aP (br (d7 (aV ff (mV 3) (mK (.int 1)))) (dY 2 (bc (gN 0) (bc (gN 1) eN))) iN iO [none,none])))) (Y::a1::Z::ar (bM n E)::r)=a_ (.str (st (lS n E))):=by
 have hf:=w.few;have he:∀t∈E,∃a b:Nat,t=[(a:Int),(b:Int)]/\a<100/\b<100:=λt W=>Hx Q w W;have hlen:=wH (n:=n) (by omega) he;have ln:=dR n (by omega);have N:aV ig (cD gF (aV ff (mV 3) (mK (.int 0)))) (mK (.str (":":Str))) (Y::a1::Z::ar (bM n E)::r)=a_ (.str (st (dg n++[58]))):=mz (lj rfl (by omega)) (KG (λs:Str=>(a_ (D.str s):M D)) A6) (by show _+1<=_;omega);have U:aP (bo (aa (aV ig (cD gF (aV ff (mV 3) (mK (.int 0)))) (mK (.str (":":Str)))) au)) (Y::a1::Z::ar (bM n E)::r)=a_ (.fz [.str (st (dg n++[58]))]):=things (bZ N (es:=au) rfl) rfl (by show 1<=50;decide);have X:=Ds (l:=E) (mk:=tupI) (f:=λt=>D.str (st (wd t))) (mi:=d7 (aV ff (mV 3) (mK (.int 1)))) (g:=dY 2 (bc (gN 0) (bc (gN 1) eN))) (t:=iN) (m:=iO) (js:=[none,none]) (ρ:=Y::a1::Z::ar (bM n E)::r)
  (λρ=>∃x y,ρ=[x,y]) (λ_=>dr) rfl (by unfold lim;omega) ⟨none,none,rfl⟩ (λt W ρ ⟨x,y,hρ⟩=>by subst hρ;obtain⟨a,b,rfl,R,T⟩:=he t W;have K:=dR a R;have L:=dR b T;refine⟨[ar (.int a),ar (.int b)],rfl,⟨_,_,rfl⟩,rfl,λ_=>?_⟩;refine(mz (mz (lj (e:=mV 0) rfl R) (KG (λs:Str=>(a_ (D.str s):M D)) A4) (by show _+1<=_;omega)) (lj (e:=mV 1) rfl T) (by rw[JA];show _+1+_<=_;omega)).trans ?_;rw[He,JT];rfl)
  (by rw[cG];have:=kq (E.map wd);rw[J2]at this;exact this)
 rw[cG]at X;have P:aP (aV cK (aP (bo (aa (aV ig (cD gF (aV ff (mV 3) (mK (.int 0)))) (mK (.str (":":Str)))) au))) (aP (br (d7 (aV ff (mV 3) (mK (.int 1)))) (dY 2 (bc (gN 0) (bc (gN 1) eN))) iN iO [none,none]))) (Y::a1::Z::ar (bM n E)::r)=a_ (.fz (((dg n++[58])::E.map wd).map λw=>D.str (st w))):=by
  unfold aP at U X⊢;show gY (aV cK _ _ _)=_;rw[cH U X];have S:(((dg n++[58])::E.map wd).map λw=>D.str (st w))=[D.str (st (dg n++[58]))]++(E.map λt=>D.str (st (wd t))):=by rw[JQ,J2];rfl
  rw[S];exact bR (by rw[<-S];exact kq _) (by rw[JA,Jy];show 1+_<=lim;unfold lim;omega)
 have O:=join_eq (sep:=[32]) (ws:=(dg n++[58])::E.map wd) (e1:=mK (.str (" ":Str))) (KG (λs:Str=>(a_ (D.str s):M D)) A5) P (by have:=Ba he;rw[JQ,List.sum_cons,JR,Jy,JA];show _+1+_+(_+1)*1<=_;omega)
 rw[O, <-Fw]
end
theorem Bc{d:D}(g:Good d)(Y:gr d=dt):d9 [d]=M.raise (.exc "NoWeb" []):=by rw[Az g.nr (λm Z z=>JG (g.few m Z z) (by decide)),if_neg (by rw[Y];decide)]
theorem Bd{d:D}(g:Good d)(Z:gr d=dt):bP [d]=M.raise (.exc "NoWeb" []):=by unfold bP ia;exact pW (uR (Ao (IX ((cU rfl).trans (Bc g Z)))))
section
variable {a0 a1 a2 x4 x5:Option D}{n:Nat}{E:List (List Int)}
theorem Dv(Y:n<=14)(w:WebOk n E):iP [a0,a1,a2,ar (bM n E),x4,x5]=a_ (.nx [a0,a1,a2,ar (bM n E),ar (.str (st (lS n E))),x5]):=by
 have hf:=w.few;have he:∀t∈E,∃a b:Nat,t=[(a:Int),(b:Int)]/\a<100/\b<100:=λt X=>Hx Y w X;have Z:=wG (n:=n) (by omega) he;unfold iP;refine(bj (Ap (Bb Y w))).trans (je (wz (b:=dt) ?_ λ_=>?_))
 ·exact nb (pV ((call2 (pV ((cU rfl).trans (A8 Y w))) (y:=.str (st (lS n E))) rfl).trans (same_str (k:=5) Z)))
 ·refine nb (pV ((call2 (pV ((cU rfl).trans (A9 Y w))) (y:=bM n E) rfl).trans (Fc (by omega) λt X=>?_)));obtain⟨x,y,rfl,_⟩:=w.el t X;exact(by decide:2<=1000)
end
theorem FA{S:aw}{ns:List Int}{i:Nat}{o2 o3 o4 o5:Option D}:∃x2 x3 x4 x5 S1,iQ [ar (.ro (ns.map D.int)),ar (.int i),o2,o3,o4,o5] S=ar (.ok (.nx [ar (.ro (ns.map D.int)),ar (.int i),x2,x3,x4,x5]),S1):=by
 obtain⟨_,_,T,xs,rfl,rfl,hs⟩:=CD (S:=S) (ns:=ns) (k:=i) (Q:=λd E=>∃xs,d= .lst S.length/\E=S++[xs]/\dQ (S++[xs]) S.length) λxs h=>⟨xs,rfl,rfl,h⟩;generalize S++[xs]=T0 at T hs;generalize S.length=k at T hs;obtain⟨U,W,N,e1,z,B,k1,L⟩:=Fn (g:=7) (by decide) hs;obtain⟨Y,Z,X,e2,_,J,A,k2,G⟩:=AH k1.st;have C:aP (bo (aa (aP (aA dz (aa (mV 2) (aa (mK (.int 7)) au)))) (aa (aP (aA bB (aa (mV 2) au))) au))) [ar (.ro (ns.map D.int)),ar (.int i),ar (.lst k),o3,o4,o5] T0=ar (.ok (.fz [bM U W,bM Y Z]),X):=by
  refine rl (kX (S1:=X) (ys:=[bM U W,bM Y Z]) (cV (S1:=N) ?_ (cV (S1:=X) ?_ rfl)) sT) (k1.trans k2) (G.trans L) ?_
  ·show gY (aA _ _ _) T0=_;rw[call2 (x:=.lst k) (y:=.int 7) rfl rfl];exact e1
  ·show gY (aA _ _ _) N=_;rw[cU (x:=.lst k) rfl];exact e2
  ·unfold bU bU bU;rw[rj,rj];rfl
 have H:gD ⟨[bM U W,bM Y Z],.none⟩ (gN 3) iP [bM U W,bM Y Z] [ar (.ro (ns.map D.int)),ar (.int i),ar (.lst k),o3,o4,o5] X=ar (.ok (.nx [ar (.ro (ns.map D.int)),ar (.int i),ar (.lst k),ar (bM Y Z),ar (.str (st (lS Y Z))),o5]),X):=by rw[kU rfl (Kb (Dv (by omega) B) X),kU rfl (Kb (Dv J A) X),km];rfl
 obtain⟨d,P,I,K,wd,w,_⟩:=Fp k2.st;have F:=Fe (js:=[5]) (ρ:=[ar (.ro (ns.map D.int)),ar (.int i),ar (.lst k),ar (bM Y Z),ar (.str (st (lS Y Z))),ar d]) (ds:=[d]) (m:=nS) (R:=bt) rfl (IX ((cU rfl).trans (Bd K wd))) CM;have O:d7 (aP (bo (aa (aP (aA dz (aa (mV 2) (aa (mK (.int 7)) au)))) (aa (aP (aA bB (aa (mV 2) au))) au)))) [ar (.ro (ns.map D.int)),ar (.int i),ar (.lst k),o3,o4,o5] T0=ar (.ok ⟨[bM U W,bM Y Z],.none⟩,X):=by unfold d7;rw[aE C];rfl
 refine⟨ar (.lst k),ar (bM Y Z),ar (.str (st (lS Y Z))),ar d,P,?_⟩;unfold iQ;refine(aN (ρ':=[ar (.ro (ns.map D.int)),ar (.int i),ar (.lst k),o3,o4,o5]) (S1:=T0) (bQ (x:=.lst k) ?_)).trans ((aN (wo O H)).trans ((aN (ρ':=[ar (.ro (ns.map D.int)),ar (.int i),ar (.lst k),ar (bM Y Z),ar (.str (st (lS Y Z))),ar d]) (S1:=P) (bQ (x:=d) ?_)).trans ?_))
 ·rw[call2 (x:=.ro (ns.map D.int)) (y:=.int i) rfl rfl];exact T
 ·show gY (aA _ _ _) X=_;rw[cU (x:=.lst k) rfl];exact I
 ·exact Kb (je (eX F Fd IL)) P
theorem tu{its:List D}{ns:List Int}:∀(ts:List Nat) (o1 o2 o3 o4 o5:Option D) (S:aw),∃x1 Z X Y x5 S1,gD ⟨its,.none⟩ (gN 1) iQ (ts.map λi:Nat=>.int (0+(i:Int))) [ar (.ro (ns.map D.int)),o1,o2,o3,o4,o5] S=ar (.ok (.nx [ar (.ro (ns.map D.int)),x1,Z,X,Y,x5]),S1)
 |[],o1,o2,o3,o4,o5,S=>⟨o1,o2,o3,o4,o5,S,by rw[L3,km];rfl⟩
 |t::ts,o1,o2,o3,o4,o5,S=>by
  obtain⟨Z,X,Y,x5,S1,h⟩:=FA (S:=S) (ns:=ns) (i:=t) (o2:=o2) (o3:=o3) (o4:=o4) (o5:=o5);obtain⟨R,Q,U,W,T,S2,P⟩:=tu (its:=its) (ns:=ns) ts (ar (.int t)) Z X Y x5 S1;refine⟨R,Q,U,W,T,S2,?_⟩;rw[JQ,Mw];exact(kU rfl h).trans P
theorem Hj:ja (bM 0 []) (.tup [.int 0,.tup []])=a_ (.bl dr):=bA λS=>by unfold ja;exact(dI (p:=.tuple [.int 0,.tuple []]) (q:=.tuple [.int 0,.tuple []]) rfl rfl).mpr ⟨by simp[hO,H0],rfl⟩
theorem IQ:("0:":Str)=st (lS 0 []):=by decide+kernel
theorem Hk{S:aw}{ns:List Int}:runs (pU [.ro (ns.map D.int)]) S (λd _=>d= .bl dr):=by
 have hm:aA minD (aa (cD jq (mV 0)) (aa (mK (.int 10)) au)) [ar (.ro (ns.map D.int)),none,none,none,none,none]=a_ (.int (if (10:Int)<(ns.map D.int).length then 10 else (ns.map D.int).length)):=(call2 (x:=.int (ns.map D.int).length) (y:=.int 10) rfl rfl).trans rfl;have Z:aA maxD (aa (mK (.int 1)) (aa (aA minD (aa (cD jq (mV 0)) (aa (mK (.int 10)) au))) au)) [ar (.ro (ns.map D.int)),none,none,none,none,none]=a_ (.int (if (if (10:Int)<(ns.map D.int).length then (10:Int)else (ns.map D.int).length)>1 then (if (10:Int)<(ns.map D.int).length then 10 else (ns.map D.int).length)else 1)):=(call2 (x:=.int 1) rfl hm).trans rfl;generalize hn:(if (if (10:Int)<(ns.map D.int).length then (10:Int)else (ns.map D.int).length)>1 then (if (10:Int)<(ns.map D.int).length then (10:Int)else (ns.map D.int).length)else 1)=n at Z;have T:n<=10:=by rw[<-hn];split<;>split<;>omega
 have O:1<=n:=by rw[<-hn];split<;>split<;>omega
 have P:=(uQ Z).trans (CB (by omega));obtain⟨Y,R,W,Q,x5,S1,hf⟩:=tu (its:=aS 0 n.toNat) (ns:=ns) (e_ n.toNat) none none none none none S;refine⟨.bl dr,S1,eY (o:=.ret (.bl dr)) ?_ rfl,rfl⟩;unfold Am;have X:WebOk (0:Nat) ([]:List (List Int)):=⟨(λt U=>by cases U),.nil,JS _⟩;have h0:aP (aA dC (aa (mK (.str ("0:":Str))) au)) [ar (.ro (ns.map D.int)),Y,R,W,Q,x5]=a_ (bM 0 []):=pV ((cU (KG (λs:Str=>(a_ (D.str s):M D)) IQ)).trans (A9 (by decide) X));exact(aN (uU P hf)).trans (Kb (df ((cH h0 (y:=.tup [.int 0,.tup []]) rfl).trans Hj)) S1)
def top(i:Nat):Stmt:=PySem.Challenge.pw_tiewebs_k90_texts_of_webs.main.body.getD i (.Pass ⟨0,0,0,0⟩)
structure Txt(K:dV)(mg:Str->Option aC):Prop where
 err:fV K=dr
 dk:Ci K=dr
 b_ValueError:mg "ValueError"=none
 b_all:mg "all"=none
 b_bool:mg "bool"=none
 b_int:mg "int"=none
 b_isinstance:mg "isinstance"=none
 b_len:mg "len"=none
 b_list:mg "list"=none
 b_max:mg "max"=none
 b_min:mg "min"=none
 b_range:mg "range"=none
 b_set:mg "set"=none
 b_sorted:mg "sorted"=none
 b_str:mg "str"=none
 b_tuple:mg "tuple"=none
 b_zip:mg "zip"=none
 g_MOST_FIGURES:∃t,mg "MOST_FIGURES"=ar (.int 2 t)
 g_MOST_PLACES:∃t,mg "MOST_PLACES"=ar (.int 14 t)
 s_FIGURES:∃t,mg "FIGURES"=ar (.str "0123456789" t)
theorem oq{N P:List Str}{Z:Scope}(a:Z.kind= .function:=by exact rfl)(b:Z.isCoroutine=false:=by exact rfl)(c:Z.isGenerator=false:=by exact rfl)(d:N.Nodup:=by decide+kernel)(e:N.take P.length=P:=by exact rfl)(f:∀x∈P,Z.names.lookup x=ar .local\/Z.names.lookup x=ar .cell:=by decide+kernel)(g:∀y∈Z.names,y.2≠ .free:=by decide+kernel):FnScope N P Z:=⟨a,b,c,d,e,f,g⟩
theorem tw:FnScope ["thing"] ["thing"] (aq (top 17)):=oq
theorem u9:FnScope ["thing"] ["thing"] (aq (top 18)):=oq
theorem rC:FnScope ["things"] ["things"] (aq (top 21)):=oq
theorem oh:FnScope ["word"] ["word"] (aq (top 27)):=oq
theorem lU:FnScope ["_law_script","_law_k"] ["_law_script","_law_k"] (aq (top 32)):=oq
theorem ft:FnScope ["_law_state_here","_law_many","_law_found","_law_stirred"] ["_law_state_here","_law_many"] (aq (top 34)):=oq
theorem gw:FnScope ["_law_many","_law_found","_law_a"] ["_law_many"] (aq (top 35)):=oq
theorem tx:FnScope ["many","thing"] ["many","thing"] (aq (top 19)):=oq
theorem f7:FnScope ["word","low","sign","high"] ["word"] (aq (top 28)):=oq
theorem jf:FnScope ["_law_script","_law_k","_law_cell"] ["_law_script","_law_k"] (aq (top 33)):=oq
theorem dU:FnScope ["_law_state_here","_law_things","_law_left","_law_found"] ["_law_state_here","_law_things"] (aq (top 36)):=oq
theorem bH:FnScope ["_law_state_here","_law_many","_law_ties","_law_turn","_law_one","_law_other"] ["_law_state_here"] (aq (top 38)):=oq
theorem ij:FnScope ["_law_state_here","_law_some"] ["_law_state_here"] (aq (top 39)):=oq
theorem lp:FnScope ["many","thing","low","high"] ["many","thing"] (aq (top 20)):=oq
theorem b0:FnScope ["_law_state_here","_law_most","_law_many","_law_way","_law_ties","_law_row","_law_at","_law_odd"] ["_law_state_here","_law_most"] (aq (top 37)):=oq
theorem lq:FnScope ["thing","many","ties"] ["thing"] (aq (top 22)):=oq
theorem tD:FnScope ["thing"] ["thing"] (aq (top 23)):=oq
theorem iS:FnScope ["web","many","ties"] ["web"] (aq (top 29)):=oq
theorem eS:FnScope ["text","head","sign","tail","web"] ["text"] (aq (top 30)):=oq
theorem rD:FnScope ["_law_found","_law_due"] ["_law_found","_law_due"] (aq (top 40)):=oq
theorem bu:FnScope ["_law_call","_law_error","e","_law_marks","_law_found"] ["_law_call"] (aq (top 41)):=oq
theorem lr:FnScope ["_law_script","_law_k","_law_state_here","_law_web_here","_law_text","_law_bad"] ["_law_script"] (aq (top 42)):=oq
section
variable {P:ee}{w:ey}{K:dV}{mg:Str->Option aC}{base:fc}
theorem tE{f:c_}{Z:f_}(F:Fun K "is_whole" "is_whole" (top 17) f Z)(Y:mg "is_whole"=ar (.ref f))(T:Txt K mg):DefX P w K mg base 1 "is_whole" ["thing"] b7:=
 bY (m:=nN) F Y (F.binds λ_ _ _ _ _ _ us X=>match us,X with|[_],_=>rfl) tw rfl λU A outer s H E S=>
  aO (bb (jk (fA (Ts:="int") T.b_isinstance T.b_int (ae 0)) (kG (Ef (fA (Ts:="bool") T.b_isinstance T.b_bool (ae 0))))))
theorem vd{f:c_}{Y:f_}(F:Fun K "is_pair" "is_pair" (top 18) f Y)(X:mg "is_pair"=ar (.ref f))(T:Txt K mg):DefX P w K mg base 1 "is_pair" ["thing"] cI:=
 bY (m:=pT) F X (F.binds λ_ _ _ _ _ _ us U=>match us,U with|[_],_=>rfl) u9 rfl λS A outer s H E Z=>
  aO (bb (jk (fA (Ts:="tuple") T.b_isinstance T.b_tuple (ae 0)) (kG (vv (iI Z) (kI T.b_len (ae 0)) ay))))
theorem rE{f:c_}{Z:f_}(F:Fun K "is_rising" "is_rising" (top 21) f Z)(U:mg "is_rising"=ar (.ref f))(T:Txt K mg):DefX P w K mg base 1 "is_rising" ["things"] eQ:=
 bY (m:=lH) F U (F.binds λ_ _ _ _ _ _ us Y=>match us,Y with|[_],_=>rfl) rC rfl λS A outer s H E X=>
  aO (bb (qA rfl T.b_all (aM (dH (t:=fD) (m:=fE) (lO (Nc:=["ahead","behind"]) (js:=[none,none]) (aq (top 21)) ["things"] (λ_=>rfl) rfl (by decide+kernel)) rfl (vT T.b_zip (ae 0) (aM (sd (ae 0) (vy ay) vx))) (λC ex s2 R=>⟨gU rfl (bp (aR 0 (show(["ahead","behind"]:List Str).Nodup by decide+kernel)) (bp (aR 1 (show(["ahead","behind"]:List Str).Nodup by decide+kernel)) fe)),fQ,C8 (GA X) (ae 0) (ae 1)⟩)))))
theorem oj{f:c_}{Z:f_}(F:Fun K "read_number" "read_number" (top 27) f Z)(U:mg "read_number"=ar (.ref f))(T:Txt K mg):DefX P w K mg base 1 "read_number" ["word"] bC:=
 bY (m:=gk) F U (F.binds λ_ _ _ _ _ _ us Y=>match us,Y with|[_],_=>rfl) oh rfl λS A outer s H E X=>
  az (dG (t7 (pq (d5 (rZ rO rO (fR λ_ _ _ _=>.bl _) (fR λ_ _ _ _=>.bl _) ay (vZ T.b_len (ae 0)) (sx rfl T.g_MOST_FIGURES))) (mW (d5 (dF (qA rfl T.b_all (aM (dH (t:=cg) (m:=cm) (lO (Nc:=["sign"]) (js:=[none]) (aq (top 27)) ["word"] (λ_=>rfl) rfl (by decide+kernel)) rfl (E3 (ae 0)) (λC ex s2 R=>⟨aR 0 (show(["sign"]:List Str).Nodup by decide+kernel),fQ,E4 (ae 0) (Cu rfl T.s_FIGURES)⟩))))))))) (aO (bb jj)) cB) (az (dG (t7 (yK (yT (vZ T.b_len (ae 0)) ay) (vt (vw (iI X) (Af (ae 0) ay) cJ)))) (aO (bb jj)) cB) (aO (bb (Cs T.b_int (ae 0)))))
theorem lV{f:c_}{Y:f_}(F:Fun K "_law_cell_at" "_law_cell_at" (top 32) f Y)(X:mg "_law_cell_at"=ar (.ref f))(T:Txt K mg):DefX P w K mg base 1 "_law_cell_at" ["_law_script","_law_k"] cS:=
 bY (m:=iM) F X (F.binds λ_ _ _ _ _ _ us U=>match us,U with|[_,_],_=>rfl) lU rfl λS A outer s H E Z=>
  az (dG (C9 (GA Z) (ae 1) (kI T.b_len (ae 0))) (aO (bb (bK (ae 0) (ae 1)))) cB) (aO (bb ay))
theorem rF{f:c_}{Z:f_}(F:Fun K "_law_take" "_law_take" (top 34) f Z)(Y:mg "_law_take"=ar (.ref f))(T:Txt K mg):DefX P w K mg base 1 "_law_take" ["_law_state_here","_law_many"] aF:=
 bY (m:=lI) F Y (F.binds λ_ _ _ _ _ _ us X=>match us,X with|[_,_],_=>rfl) ft rfl λU A outer s H E S=>
  az (dG (dF (bK (ae 0) ay)) (az (bw 2 ft.nd (iE (bK (ae 0) ay) (ae 1)) (hs:=dh)) (az (jl (qw (bK (ae 0) ay) (ae 1)) (vB (ae 0) ay)) (aO (bb (ae 2))))) cB) (az (jl (iE (dv (mY (bK (ae 0) ay) ay) ay) ay) (vB (ae 0) ay)) (az (bw 3 ft.nd (iE (dv (dv (mY (bK (ae 0) ay) (bK (ae 0) ay)) (mY ay (bK (ae 0) ay))) ay) ay) (hs:=dh)) (az (bw 3 ft.nd (iE (dv (mY (ae 3) (ae 3)) (mY ay (ae 3))) ay) (hs:=dh)) (aO (bb (iE (qw (ae 3) ay) (ae 1)))))))
theorem oR{f:c_}{Z:f_}(F:Fun K "_law_pairs" "_law_pairs" (top 35) f Z)(X:mg "_law_pairs"=ar (.ref f))(T:Txt K mg):DefX P w K mg base 1 "_law_pairs" ["_law_many"] aZ:=
 bY (m:=kf) F X (F.binds λ_ _ _ _ _ _ us Y=>match us,Y with|[_],_=>rfl) gw rfl λU A outer s H E S=>
  az (bw 1 gw.nd (bz ao) (hs:=i3)) (az (mX (b:=eV) Lm rfl (iY T.b_range (ae 0)) (aR 2 gw.nd) (aO (gT (xi (ae 1) (aM (dH (t:=dn) (m:=dq) (lO (Nc:=["_law_b","_law_a"]) (js:=[none,ar 2]) (aq (top 35)) ["_law_many","_law_found","_law_a"] (λ_=>rfl) rfl (by decide+kernel)) rfl (pA T.b_range (dv (ae 2) ay) (ae 0)) (λC ex s2 R=>⟨aR 0 (show(["_law_b","_law_a"]:List Str).Nodup by decide+kernel),fQ,f9 (ag (ae 1) (ag (ae 0) ao aD) aD)⟩))))))) (aO (bb (ae 1))))
theorem tF{f:c_}{X:f_}(F:Fun K "is_place" "is_place" (top 19) f X)(U:mg "is_place"=ar (.ref f))(T:Txt K mg)(Z:DefX P w K mg base 1 "is_whole" ["thing"] b7):DefX P w K mg base 2 "is_place" ["many","thing"] fF:=
 bY (m:=nO) F U (F.binds λ_ _ _ _ _ _ us S=>match us,S with|[_,_],_=>rfl) tx rfl λR A outer s H E Y=>
  aO (bb (jk (aL Z (Y.mono (by decide)) (ag (ae 1) ao aD)) (kG (yU rO (yp.or (tW (GA Y))) (fR λ_ _ _ _=>.bl _) t9 ay (ae 1) (ae 0)))))
theorem tG{f:c_}{X:f_}(F:Fun K "read_tie" "read_tie" (top 28) f X)(U:mg "read_tie"=ar (.ref f))(T:Txt K mg)(Z:DefX P w K mg base 1 "read_number" ["word"] bC):DefX P w K mg base 2 "read_tie" ["word"] d8:=
 bY (m:=jx) F U (F.binds λ_ _ _ _ _ _ us S=>match us,S with|[_],_=>rfl) f7 rfl λR A outer s H E Y=>
  az (jl (v5 (ae 0) cJ) (gU rfl (bp (aR 1 f7.nd) (bp (aR 2 f7.nd) (bp (aR 3 f7.nd) fe))))) (aO (bb (f9 (ag (aM (aL Z (Y.mono (by decide)) (ag (ae 1) ao aD))) (ag (aM (aL Z (Y.mono (by decide)) (ag (ae 3) ao aD))) ao a9) a9))))
theorem oU{f:c_}{X:f_}(F:Fun K "_law_state" "_law_state" (top 33) f X)(U:mg "_law_state"=ar (.ref f))(T:Txt K mg)(Z:DefX P w K mg base 1 "_law_cell_at" ["_law_script","_law_k"] cS):DefX P w K mg base 2 "_law_state" ["_law_script","_law_k"] fq:=
 bY (m:=kg) F U (F.binds λ_ _ _ _ _ _ us S=>match us,S with|[_,_],_=>rfl) jf rfl λR A outer s H E Y=>
  az (bw 2 jf.nd (aL Z (Y.mono (by decide)) (ag (ae 0) (ag (ae 1) ao aD) aD)) (hs:=fj)) (az (dG (Gq (ae 2) (yR ay ay)) (aO (bb (bz (ag (jo (ae 2) (yR ay ay)) (ag iz ao av) eO)))) cB) (aO (bb (bz (ag (iE (ae 2) ay) (ag iz ao av) eO)))))
theorem ku{f:c_}{X:f_}(F:Fun K "_law_mixed_row" "_law_mixed_row" (top 36) f X)(U:mg "_law_mixed_row"=ar (.ref f))(T:Txt K mg)(Z:DefX P w K mg base 1 "_law_take" ["_law_state_here","_law_many"] aF):DefX P w K mg base 2 "_law_mixed_row" ["_law_state_here","_law_things"] cn:=
 bY (m:=c8) F U (F.binds λ_ _ _ _ _ _ us S=>match us,S with|[_,_],_=>rfl) dU rfl λR A outer s H E Y=>
  az (bw 2 dU.nd (BR T.b_list (ae 1)) (hs:=fj)) (az (bw 3 dU.nd (bz ao) (hs:=i3)) (az (yM (b:=bJ) 64 Lm (mZ (iI Y) (ae 2) (aM (bz ao))) (aO (gT (gH (ae 3) (y9 (ae 2) (aM (aL Z (Y.mono (by decide)) (ag (ae 0) (ag (kI T.b_len (ae 2)) ao a9) aD)))))))) (aO (bb (ae 3)))))
theorem ky{f:c_}{X:f_}(F:Fun K "_law_great_web" "_law_great_web" (top 38) f X)(U:mg "_law_great_web"=ar (.ref f))(T:Txt K mg)(Z:DefX P w K mg base 1 "_law_take" ["_law_state_here","_law_many"] aF):DefX P w K mg base 2 "_law_great_web" ["_law_state_here"] bB:=
 bY (m:=c9) F U (F.binds λ_ _ _ _ _ _ us S=>match us,S with|[_],_=>rfl) bH rfl λR A outer s H E Y=>
  az (bw 1 bH.nd (dv ay (aM (aL Z (Y.mono (by decide)) (ag (ae 0) (ag ay ao av) aD)))) (hs:=dh)) (az (bw 2 bH.nd (bz ao) (hs:=i3)) (az (mX (b:=da) Lm rfl (iY T.b_range (aM (aL Z (Y.mono (by decide)) (ag (ae 0) (ag ay ao av) aD)))) (aR 3 bH.nd) (az (bw 4 bH.nd (aM (aL Z (Y.mono (by decide)) (ag (ae 0) (ag (ae 1) ao aD) aD))) (hs:=fj)) (az (bw 5 bH.nd (iE (dv (dv (ae 4) ay) (aM (aL Z (Y.mono (by decide)) (ag (ae 0) (ag (jo (ae 1) ay) ao eO) aD)))) (ae 1)) (hs:=dh)) (aO (gT (gH (ae 2) (f9 (ag (yW rfl T.b_min (ag (ae 4) (ag (ae 5) ao aD) aD)) (ag (ud rfl T.b_max (ag (ae 4) (ag (ae 5) ao aD) aD)) ao a9) a9)))))))) (aO (bb (f9 (ag (ae 1) (ag (iF T.b_tuple (aM (qM rfl (Jl Y) T.b_sorted T.b_set (ae 2)))) ao a9) aD))))))
theorem lW{f:c_}{S:f_}(F:Fun K "_law_bad_web" "_law_bad_web" (top 39) f S)(O:mg "_law_bad_web"=ar (.ref f))(T:Txt K mg)(Z:DefX P w K mg base 1 "_law_take" ["_law_state_here","_law_many"] aF):DefX P w K mg base 2 "_law_bad_web" ["_law_state_here"] dM:=by
 refine bY (m:=dJ) F O (F.binds λ_ _ _ _ _ _ us R=>match us,R with|[_],_=>rfl) ij rfl λY A outer s H E Q=>?_;have key:∀e pos pos' X,SE (ji (kz P w) P w K mg base ["_law_state_here","_law_some"] "_law_bad_web" (aq (top 39)) f Y A outer s H E).nox dW e X->kT e (ar (.Name "_law_some" pos')) pos.line (ji (kz P w) P w K mg base ["_law_state_here","_law_some"] "_law_bad_web" (aq (top 39)) f Y A outer s H E).nox.env=a_ dt->SS (ji (kz P w) P w K mg base ["_law_state_here","_law_some"] "_law_bad_web" (aq (top 39)) f Y A outer s H E).nox dW (.Assign [.Name "_law_some" pos'] e pos) (bE 1 X):=λe pos pos' X h hs=>bw 1 ij.nd h (hs:=hs);have U:∀pos,SE (ji (kz P w) P w K mg base ["_law_state_here","_law_some"] "_law_bad_web" (aq (top 39)) f Y A outer s H E).nox dW (.Name "_law_some" pos) (mV 1):=λpos=>ae 1;refine az ?_ ?_
 ·with_reducible refine key _ _ _ _ ?_ i3
  with_reducible refine bz ?_
  with_reducible refine aK jj ?_ av
  with_reducible refine aK ay ?_ av
  with_reducible refine aK (cb 6 ?_) ?_ bf
  case refine_1=>rfl
  with_reducible refine aK (cb 6 ?_) ?_ bf
  case refine_1=>rfl
  with_reducible refine aK (cb 6 ?_) ?_ bf
  case refine_1=>rfl
  with_reducible refine aK (cb 6 ?_) ?_ bf
  case refine_1=>rfl
  with_reducible refine aK ?_ ?_ bf
  case refine_1=>exact(f9 (ag ay (ag (bz ao) ao qN) av))
  with_reducible refine aK ?_ ?_ qN
  case refine_1=>exact(bz (ag ay (ag (cb 6 rfl) ao bf) av))
  with_reducible refine aK (cb 6 ?_) ?_ bf
  case refine_1=>rfl
  with_reducible refine aK (cb 6 ?_) ?_ bf
  case refine_1=>rfl
  with_reducible refine aK En ?_ B3
  with_reducible refine aK cJ ?_ av
  exact ao
 refine az ?_ ?_
 ·with_reducible refine key _ _ _ _ ?_ dh
  with_reducible refine dv (U _) ?_
  with_reducible refine bz ?_
  with_reducible refine aK (cb 6 ?_) ?_ bf
  case refine_1=>rfl
  with_reducible refine aK (cb 6 ?_) ?_ bf
  case refine_1=>rfl
  with_reducible refine aK (cb 6 ?_) ?_ bf
  case refine_1=>rfl
  with_reducible refine aK (cb 6 ?_) ?_ bf
  case refine_1=>rfl
  with_reducible refine aK (cb 6 ?_) ?_ bf
  case refine_1=>rfl
  exact ao
 refine az ?_ ?_
 ·with_reducible refine key _ _ _ _ ?_ dh
  with_reducible refine dv (U _) ?_
  with_reducible refine bz ?_
  with_reducible refine aK (cb 6 ?_) ?_ bf
  case refine_1=>rfl
  with_reducible refine aK (cb 6 ?_) ?_ bf
  case refine_1=>rfl
  with_reducible refine aK (cb 6 ?_) ?_ bf
  case refine_1=>rfl
  with_reducible refine aK (cb 6 ?_) ?_ bf
  case refine_1=>rfl
  with_reducible refine aK ?_ ?_ bf
  case refine_1=>exact(f9 (ag ay (ag (f9 (ag (bz (ag ay (ag ay ao av) av)) ao qN)) ao bf) av))
  with_reducible refine aK (cb 6 ?_) ?_ bf
  case refine_1=>rfl
  with_reducible refine aK (cb 6 ?_) ?_ bf
  case refine_1=>rfl
  with_reducible refine aK (cb 6 ?_) ?_ bf
  case refine_1=>rfl
  exact ao
 exact(aO (bb (bK (ae 1) (aL Z (Q.mono (by decide)) (ag (ae 0) (ag ay ao av) aD)))))
theorem x9{f:c_}{U:f_}(F:Fun K "is_tie" "is_tie" (top 20) f U)(S:mg "is_tie"=ar (.ref f))(T:Txt K mg)(Y:DefX P w K mg base 1 "is_pair" ["thing"] cI)(Z:DefX P w K mg base 2 "is_place" ["many","thing"] fF):DefX P w K mg base 3 "is_tie" ["many","thing"] kh:=
 bY (m:=nP) F S (F.binds λ_ _ _ _ _ _ us R=>match us,R with|[_,_],_=>rfl) lp rfl λQ A outer s H E X=>
  az (dG (d5 (dF (aL Y (X.mono (by decide)) (ag (ae 1) ao aD)))) (aO (bb iz)) cB) (az (jl (ae 1) (gU rfl (bp (aR 2 lp.nd) (bp (aR 3 lp.nd) fe)))) (aO (bb (jk (aL Z (X.mono (by decide)) (ag (ae 0) (ag (ae 2) ao aD) aD)) (jk (aL Z (X.mono (by decide)) (ag (ae 0) (ag (ae 3) ao aD) aD)) (kG (C8 (GA X) (ae 2) (ae 3))))))))
theorem tH{f:c_}{R:f_}(F:Fun K "_law_web" "_law_web" (top 37) f R)(O:mg "_law_web"=ar (.ref f))(T:Txt K mg)(Z:DefX P w K mg base 1 "_law_take" ["_law_state_here","_law_many"] aF)(Y:DefX P w K mg base 1 "_law_pairs" ["_law_many"] aZ)(X:DefX P w K mg base 2 "_law_mixed_row" ["_law_state_here","_law_things"] cn):DefX P w K mg base 3 "_law_web" ["_law_state_here","_law_most"] dz:=
 bY (m:=hZ) F O (F.binds λ_ _ _ _ _ _ us Q=>match us,Q with|[_,_],_=>rfl) b0 rfl λN A outer s H E U=>
  az (bw 2 b0.nd (ud rfl T.b_max (ag ay (ag (jo (ae 1) (bK (aM (bz (by (refine aK ay ?_ av;refine aK ay ?_ av;refine aK ay ?_ av;refine aK ay ?_ av;refine aK ay ?_ av;refine aK ay ?_ av;refine aK ay ?_ av;refine aK (ae 1) ?_ aD;exact ao)))) (aM (aL Z (U.mono (by decide)) (ag (ae 0) (ag ay ao av) aD))))) ao eO) av)) (hs:=fj)) (az (bw 3 b0.nd (aM (aL Z (U.mono (by decide)) (ag (ae 0) (ag ay ao av) aD))) (hs:=fj)) (az (bw 4 b0.nd (dH (t:=gm) (m:=gn) (lO (Nc:=["_law_tie","_law_state_here","_law_way"]) (js:=[none,ar 0,ar 3]) (aq (top 37)) ["_law_state_here","_law_most","_law_many","_law_way","_law_ties","_law_row","_law_at","_law_odd"] (λ_=>rfl) rfl (by decide+kernel)) rfl (iH (aM (aL Y (U.mono (by decide)) (ag (ae 2) ao aD)))) (λC ex s2 S=>⟨aR 0 (show(["_law_tie","_law_state_here","_law_way"]:List Str).Nodup by decide+kernel),l9 (C9 (GA U) (aM (aL Z (U.mono (by decide)) (ag (ae 1) (ag ay ao av) aD))) (bK (aM (bz (ag ay (ag ay (ag ay ao av) av) av))) (iE (ae 2) ay))),ae 0⟩))) (az (bw 5 b0.nd (aM (aL X (U.mono (by decide)) (ag (ae 0) (ag (aM (qC rfl T.b_list T.b_range (ae 2))) ao a9) aD))) (hs:=fj)) (az (dG (yT (ae 3) ay) (az (bw 4 b0.nd (bz ao) (hs:=i3)) (az (mX (b:=eB) Lm rfl (pA T.b_range ay (ae 2)) (aR 6 b0.nd) (aO (gT (gH (ae 4) (iF T.b_tuple (aM (kN T.b_sorted (aM (bz (ag (bK (ae 5) (ae 6)) (ag (bK (ae 5) (bK (aM (bz (by (refine aK (jo (ae 6) ay) ?_ eO;refine aK (jo (ae 6) ay) ?_ eO;refine aK ay ?_ av;refine aK (qw (ae 6) ay) ?_ eO;exact ao)))) (jo (ae 3) ay))) ao fh) fh)))))))))) (az (dG (t7 (yK (vw (iI U) (ae 3) ay) (vt (yT (ae 2) ay)))) (aO (gT (gH (ae 4) (iF T.b_tuple (aM (kN T.b_sorted (aM (bz (ag (bK (ae 5) ay) (ag (bK (ae 5) (jo (ae 2) ay)) ao fh) fh))))))))) cB) (az (bw 7 b0.nd (aM (dH (t:=di) (m:=dj) (lO (Nc:=["_law_tie","_law_state_here"]) (js:=[none,ar 0]) (aq (top 37)) ["_law_state_here","_law_most","_law_many","_law_way","_law_ties","_law_row","_law_at","_law_odd"] (λ_=>rfl) rfl (by decide+kernel)) rfl (iH (aM (aL Y (U.mono (by decide)) (ag (ae 2) ao aD)))) (λC ex s2 S=>⟨aR 0 (show(["_law_tie","_law_state_here"]:List Str).Nodup by decide+kernel),l9 (vw (iI U) (aM (aL Z (U.mono (by decide)) (ag (ae 1) (ag ay ao av) aD))) ay),ae 0⟩)))) (aO (bw 4 b0.nd (dH (t:=eE) (m:=eF) (lO (Nc:=["_law_tie","_law_ties","_law_odd"]) (js:=[none,ar 4,ar 7]) (aq (top 37)) ["_law_state_here","_law_most","_law_many","_law_way","_law_ties","_law_row","_law_at","_law_odd"] (λ_=>rfl) rfl (by decide+kernel)) rfl (iH (aM (aL Y (U.mono (by decide)) (ag (ae 2) ao aD)))) (λC ex s2 S=>⟨aR 0 (show(["_law_tie","_law_ties","_law_odd"]:List Str).Nodup by decide+kernel),l9 (mZ (iI U) (Da (iI U) (ae 0) (ae 1)) (Da (iI U) (ae 0) (ae 2))),ae 0⟩)))))))) cB) (aO (bb (f9 (ag (ae 2) (ag (iF T.b_tuple (aM (kN T.b_sorted (ae 4)))) ao a9) aD))))))))
theorem ya{f:c_}{R:f_}(F:Fun K "is_web" "is_web" (top 22) f R)(O:mg "is_web"=ar (.ref f))(T:Txt K mg)(Y:DefX P w K mg base 1 "is_whole" ["thing"] b7)(X:DefX P w K mg base 1 "is_pair" ["thing"] cI)(U:DefX P w K mg base 3 "is_tie" ["many","thing"] kh)(Z:DefX P w K mg base 1 "is_rising" ["things"] eQ):DefX P w K mg base 4 "is_web" ["thing"] dN:=
 bY (m:=nQ) F O (F.binds λ_ _ _ _ _ _ us Q=>match us,Q with|[_],_=>rfl) lq rfl λN A outer s H E S=>
  az (dG (d5 (dF (aM (aL X (S.mono (by decide)) (ag (ae 0) ao aD))))) (aO (bb iz)) cB) (az (jl (ae 0) (gU rfl (bp (aR 1 lq.nd) (bp (aR 2 lq.nd) fe)))) (az (dG (t7 (pq (d5 (dF (aM (aL Y (S.mono (by decide)) (ag (ae 1) ao aD))))) (pq (d5 (rZ rO rO (fR λ_ _ _ _=>.bl _) (fR λ_ _ _ _=>.bl _) ay (ae 1) (sx rfl T.g_MOST_PLACES))) (mW (d5 (dF (fA (Ts:="tuple") T.b_isinstance T.b_tuple (ae 2)))))))) (aO (bb iz)) cB) (aO (bb (jk (qA rfl T.b_all (aM (dH (t:=fY) (m:=fZ) (lO (Nc:=["tie","many"]) (js:=[none,ar 1]) (aq (top 22)) ["thing","many","ties"] (λ_=>rfl) rfl (by decide+kernel)) rfl (iH (ae 2)) (λC ex s2 L=>⟨aR 0 (show(["tie","many"]:List Str).Nodup by decide+kernel),fQ,aM (aL U (S.mono (by decide)) (ag (ae 1) (ag (ae 0) ao aD) aD))⟩)))) (kG (aM (aL Z (S.mono (by decide)) (ag (ae 2) ao aD)))))))))
theorem tI{f:c_}{X:f_}(F:Fun K "need_web" "need_web" (top 23) f X)(U:mg "need_web"=ar (.ref f))(T:Txt K mg)(Z:DefX P w K mg base 4 "is_web" ["thing"] dN):DefX P w K mg base 5 "need_web" ["thing"] d9:=
 qR (m:=nR) F U (F.binds λ_ _ _ _ _ _ us S=>match us,S with|[_],_=>rfl) tD rfl λR A outer s H E Y=>
  aO (dG (d5 (dF (aM (gK Z (Y.mono (by decide)) cy.pass (ag (ae 0) ao aD))))) (aO (nF cy rfl T.err (by decide) (by decide) (ag cJ ao av))) cB)
theorem tJ{f:c_}{Y:f_}(F:Fun K "web_text" "web_text" (top 29) f Y)(S:mg "web_text"=ar (.ref f))(T:Txt K mg)(Z:DefX P w K mg base 5 "need_web" ["thing"] d9):DefX P w K mg base 6 "web_text" ["web"] bP:=
 qR (m:=ia) F S (F.binds λ_ _ _ _ _ _ us X=>match us,X with|[_],_=>rfl) iS rfl λR A outer s H E U=>
  az (gT (aM (gK Z (U.mono (by decide)) cy.pass (ag (ae 0) ao aD)))) (az (jl (ae 0) (gU rfl (bp (aR 1 iS.nd) (bp (aR 2 iS.nd) fe)))) (aO (bb (mw (pQ (i4 (uN (ae 1)) (i4 cJ Ag))) (sS cJ (aM (vP (dH (t:=eI) (m:=eJ) (lO (Nc:=["low","high"]) (js:=[none,none]) (aq (top 29)) ["web","many","ties"] (λ_=>rfl) rfl (by decide+kernel)) rfl (iH (ae 2)) (λC ex s2 Q=>⟨gU rfl (bp (aR 0 (show(["low","high"]:List Str).Nodup by decide+kernel)) (bp (aR 1 (show(["low","high"]:List Str).Nodup by decide+kernel)) fe)),fQ,pQ (i4 cJ (i4 (uN (ae 0)) (i4 cJ (i4 (uN (ae 1)) Ag))))⟩)))))))))
theorem tK{f:c_}{R:f_}(F:Fun K "read_web" "read_web" (top 30) f R)(O:mg "read_web"=ar (.ref f))(T:Txt K mg)(U:DefX P w K mg base 4 "is_web" ["thing"] dN)(Z:DefX P w K mg base 1 "read_number" ["word"] bC)(Y:DefX P w K mg base 2 "read_tie" ["word"] d8)(X:DefX P w K mg base 6 "web_text" ["web"] bP):DefX P w K mg base 7 "read_web" ["text"] dC:=
 qR (m:=jz) F O (F.binds λ_ _ _ _ _ _ us Q=>match us,Q with|[_],_=>rfl) eS rfl λN A outer s H E S=>
  az (dG (d5 (dF (fA (Ts:="str") T.b_isinstance T.b_str (ae 0)))) (aO (nF cy rfl T.err (by decide) (by decide) (ag cJ ao av))) cB) (az (jl (v5 (ae 0) cJ) (gU rfl (bp (aR 1 eS.nd) (bp (aR 2 eS.nd) (bp (aR 3 eS.nd) fe))))) (az (bw 4 eS.nd (f9 (ag (aM (gK Z (S.mono (by decide)) cy.pass (ag (ae 1) ao aD))) (ag (iF T.b_tuple (aM (vP (dH (t:=eL) (m:=eM) (lO (Nc:=["word"]) (js:=[none]) (aq (top 30)) ["text","head","sign","tail","web"] (λ_=>rfl) rfl (by decide+kernel)) rfl (iH (aM (sd (aM (Ak (ae 3) cJ)) (vy ay) vx))) (λC ex s2 L=>⟨aR 0 (show(["word"]:List Str).Nodup by decide+kernel),fQ,aM (aL Y (S.mono (by decide)) (ag (ae 0) ao aD))⟩))))) ao a9) a9)) (hs:=zZ)) (az (dG (t7 (pq (d5 (dF (aM (gK U (S.mono (by decide)) cy.pass (ag (ae 4) ao aD))))) (mW (mZ (iI S) (aM (gK X (S.mono (by decide)) cy.pass (ag (ae 4) ao aD))) (ae 0))))) (aO (nF cy rfl T.err (by decide) (by decide) (ag cJ ao av))) cB) (aO (bb (ae 4))))))
theorem oV{j:Nat}{X:List D->M D}{f:c_}{U:f_}(F:Fun K "_law_same" "_law_same" (top 40) f U)(R:mg "_law_same"=ar (.ref f))(T:Txt K mg)(Z:DefX P w K mg base (1+j) "_law_same" ["_law_found","_law_due"] X):DefX P w K mg base (1+j+1) "_law_same" ["_law_found","_law_due"] (lR 2 2 (cz X)):=
 bY (m:=cz X) F R (F.binds λ_ _ _ _ _ _ us S=>match us,S with|[_,_],_=>rfl) rD rfl λQ A outer s H E Y=>
  az (dG (dF (BU (Ts:="tuple") (Us:="list") T.b_isinstance T.b_tuple T.b_list (ae 1))) (az (dG (t7 (pq (mZ (iI Y) (fA (Ts:="tuple") T.b_isinstance T.b_tuple (ae 0)) (fA (Ts:="tuple") T.b_isinstance T.b_tuple (ae 1))) (mW (mZ (iI Y) (fA (Ts:="list") T.b_isinstance T.b_list (ae 0)) (fA (Ts:="list") T.b_isinstance T.b_list (ae 1)))))) (aO (bb iz)) cB) (az (dG (mZ (iI Y) (kI T.b_len (ae 0)) (kI T.b_len (ae 1))) (aO (bb iz)) cB) (aO (bb (qA rfl T.b_all (aM (dH (t:=fG X) (m:=fH X) (lO (Nc:=["_law_one","_law_other"]) (js:=[none,none]) (aq (top 40)) ["_law_found","_law_due"] (λ_=>rfl) rfl (by decide+kernel)) rfl (vT T.b_zip (ae 0) (ae 1)) (λC ex s2 O=>⟨gU rfl (bp (aR 0 (show(["_law_one","_law_other"]:List Str).Nodup by decide+kernel)) (bp (aR 1 (show(["_law_one","_law_other"]:List Str).Nodup by decide+kernel)) fe)),fQ,aM (aL Z (Y.mono (Jw _)) (ag (ae 0) (ag (ae 1) ao aD) aD))⟩)))))))) cB) (aO (bb (jk (vv (iI Y) (ae 0) (ae 1)) (kG (vv (iI Y) (fA (Ts:="bool") T.b_isinstance T.b_bool (ae 0)) (fA (Ts:="bool") T.b_isinstance T.b_bool (ae 1)))))))
theorem jg{f:c_}{Y:f_}(F:Fun K "_law_same" "_law_same" (top 40) f Y)(Z:mg "_law_same"=ar (.ref f))(T:Txt K mg):∀n,DefX P w K mg base (1+n) "_law_same" ["_law_found","_law_due"] (bL n)
 |0=>DefX.none F Z (F.binds λ_ _ _ _ _ _ us X=>match us,X with|[_,_],_=>rfl)
 |n+1=>oV F Z T (jg F Z T n)
theorem rG{f:c_}{Z:f_}(F:Fun K "_law_same" "_law_same" (top 40) f Z)(Y:mg "_law_same"=ar (.ref f))(T:Txt K mg):DefX P w K mg base 7 "_law_same" ["_law_found","_law_due"] eR:=jg F Y T 6
theorem lX{f:c_}{Y:f_}(F:Fun K "_law_refused" "_law_refused" (top 41) f Y)(U:mg "_law_refused"=ar (.ref f))(T:Txt K mg):RefX P w K mg 9 8 "_law_refused" ["_law_call"] bh:=
 EV (m:=dO) F U (F.binds λ_ _ _ _ _ _ us X=>match us,X with|[_],_=>rfl) bu rfl λbase G a R ql ds vs Q L S A outer s H E Z=>
  az (bw 1 bu.nd jj (hs:=sL)) (az (ER rfl rfl L (Z.mono (by decide)) bu.nd T.err G rfl (.inl rfl) rfl rfl rfl rfl rfl) (az (bw 3 bu.nd (bz (ag (c0 T.err (by decide) G T.b_isinstance (ae 1)) (ag (c0 T.err (by decide) G T.b_isinstance (ae 1)) (ag (c0 T.err (by decide) G T.b_isinstance (ae 1)) ao a9) a9) a9)) (hs:=i3)) (az (bw 3 bu.nd (dv (ae 3) (aM (bz (ag (c0 T.err (by decide) G T.b_isinstance (ae 1)) (ag (c0 T.err (by decide) G T.b_isinstance (ae 1)) (ag (c0 T.err (by decide) G T.b_isinstance (ae 1)) ao a9) a9) a9)))) (hs:=dh)) (az (bw 3 bu.nd (dv (ae 3) (aM (bz (ag (c0 T.err (by decide) G T.b_isinstance (ae 1)) (ag (c0 T.err (by decide) G T.b_isinstance (ae 1)) (ag (c0 T.err (by decide) G T.b_isinstance (ae 1)) ao a9) a9) a9)))) (hs:=dh)) (az (bw 3 bu.nd (dv (ae 3) (aM (bz (ag (c0 T.err (by decide) G T.b_isinstance (ae 1)) (ag (c0 T.err (by decide) G T.b_isinstance (ae 1)) (ag (c0 T.err (by decide) G T.b_isinstance (ae 1)) ao a9) a9) a9)))) (hs:=dh)) (az (gT (gH (ae 3) (c0 T.err (by decide) G T.b_isinstance (ae 1)))) (az (dG (d5 (dF (B9 T.err T.b_isinstance T.b_ValueError (ae 1)))) (aO (bb jj)) cB) (az (z9 (t8 4 (t:=bF) (m:=bG) bu.nd (lO (Nc:=["_law_k","_law_marks"]) (js:=[none,ar 3]) (aq (top 41)) ["_law_call","_law_error","e","_law_marks","_law_found"] (λ_=>rfl) rfl (by decide+kernel)) rfl (iY T.b_range ay) (λC ex s2 O=>⟨aR 0 (show(["_law_k","_law_marks"]:List Str).Nodup by decide+kernel),l9 (dF (bK (ae 1) (ae 0))),ae 0⟩))) (aO (bb (Gj (vw (iI Z) (ae 4) (aM (bz (ag ay ao av)))) (aM (dv (ae 4) (aM (bz (ag (Cj T.err T.dk (ae 1)) (ag (Ck T.err T.dk (ae 1)) ao kd) kd))))) (ae 4))))))))))))
end
theorem yb{P:ee}{w:ey}{K:dV}{O:Str->Option aC}{base:fc}{f c v:c_}{y:f_}(F:Fun K "law" "law" (top 42) f y)(T:Txt K O)(G:Mod K O base)(q:BaseL K O base)(TI:qP K)(p:ra K fg "law"=ar (ar (.ref f)))(J:k7 K "law"=ar (c,v))(U:∀base,Mod K O base->DefX P w K O base 6 "web_text" ["web"] bP)(X:∀base,Mod K O base->DefX P w K O base 7 "read_web" ["text"] dC)(Q:∀base,Mod K O base->DefX P w K O base 2 "_law_state" ["_law_script","_law_k"] fq)(N:∀base,Mod K O base->DefX P w K O base 3 "_law_web" ["_law_state_here","_law_most"] dz)(Z:∀base,Mod K O base->DefX P w K O base 2 "_law_great_web" ["_law_state_here"] bB)(S:∀base,Mod K O base->DefX P w K O base 2 "_law_bad_web" ["_law_state_here"] dM)(Y:∀base,Mod K O base->DefX P w K O base 7 "_law_same" ["_law_found","_law_due"] eR)(R:RefX P w K O 9 8 "_law_refused" ["_law_call"] bh)(eZ:∀f c es,bh f c es=bt c es):FnOk P w K O base (kz P w) 10 f y ["_law_script"] (zO K pU):=
 EU (m:=Am) F lr rfl p J λA outer s H E L=>
  az (mX (b:=iQ) Lm rfl (iY T.b_range (ud rfl T.b_max (ag ay (ag (yW rfl T.b_min (ag (kI T.b_len (ae 0)) (ag ay ao av) a9)) ao a9) av))) (aR 1 lr.nd) (az (bw 2 lr.nd (aL (Q _ G) (L.mono (by decide)) (ag (ae 0) (ag (ae 1) ao aD) aD)) (hs:=fj)) (az (mX (b:=iP) Lm rfl (iH (aM (bz (ag (aM (aL (N _ G) (L.mono (by decide)) (ag (ae 2) (ag ay ao av) aD))) (ag (aM (aL (Z _ G) (L.mono (by decide)) (ag (ae 2) ao aD))) ao a9) a9)))) (aR 3 lr.nd) (az (bw 4 lr.nd (sS cJ (aM (dv (aM (bz (ag (mw (qy T.b_str (bK (ae 3) ay)) cJ) ao eO))) (aM (dH (t:=iN) (m:=iO) (lO (Nc:=["_law_a","_law_b"]) (js:=[none,none]) (aq (top 42)) ["_law_script","_law_k","_law_state_here","_law_web_here","_law_text","_law_bad"] (λ_=>rfl) rfl (by decide+kernel)) rfl (iH (bK (ae 3) ay)) (λC ex s2 r=>⟨gU rfl (bp (aR 0 (show(["_law_a","_law_b"]:List Str).Nodup by decide+kernel)) (bp (aR 1 (show(["_law_a","_law_b"]:List Str).Nodup by decide+kernel)) fe)),fQ,mw (mw (qy T.b_str (ae 0)) cJ) (qy T.b_str (ae 1))⟩)))))) (hs:=fj)) (aO (dG (t7 (pq (d5 (dF (aM (aL (Y _ G) (L.mono (by decide)) (ag (aM (aL (U _ G) (L.mono (by decide)) (ag (ae 3) ao aD))) (ag (ae 4) ao aD) a9))))) (mW (d5 (dF (aM (aL (Y _ G) (L.mono (by decide)) (ag (aM (aL (X _ G) (L.mono (by decide)) (ag (ae 4) ao aD))) (ag (ae 3) ao aD) a9)))))))) (aO (bb iz)) cB)))) (az (bw 5 lr.nd (aM (aL (S _ G) (L.mono (by decide)) (ag (ae 2) ao aD))) (hs:=fj)) (aO (dG (mZ (iI L) (aM (ES (ql:="law.<locals>.<lambda>") (m:=nS) (xl:="law") R eZ (L.mono (by decide)) (λ_=>rfl) (by decide) J rfl rfl rfl q TI rfl (IE (N3:=["_law_bad"]) (js:=[5]) (aq (top 42)) ["_law_script","_law_k","_law_state_here","_law_web_here","_law_text","_law_bad"] (λ_=>rfl) rfl (by decide+kernel)) ao (λ_ _ _ _=>rfl) (λz u f2 l o n I s2 r x B=>aM (gK (U _ u) (B.mono (by decide)) uE.pass (ag (ae 0) ao aD))))) (aM (bz (ag ay ao av)))) (aO (bb iz)) cB)))))) (aO (bb (vv (iI L) (aM (aL (X _ G) (L.mono (by decide)) (ag cJ ao av))) (cb 6 rfl))))
abbrev lP:Program:=PySem.Challenge.rw_tiewebs_k90_texts_of_webs.prog
abbrev kW(w:ey):W.Frag:=KH.K0 w.params
theorem fk{K:dV}{f c:c_}{m:aC}(x q:Str)(st:n_)(l:K.lookup f=ar ⟨.type "function",none,.func (w_ x q (ef st) (cA st) (aq st) .none .none .none m none (.ref c) .none), #[]⟩)(h:M_ K (.ref c) q=dr)(k:u5 K (.ref f)=dr):Fun K x q st f (w_ x q (ef st) (cA st) (aq st) .none .none .none m none (.ref c) .none):=Eb l h k
abbrev nK(w:ey)(x:Str):Option (Option aC):=ra (kW w) fg x
abbrev Bl:Value:=KH.zs "law_tiewebs_k90_texts_of_webs" 515
abbrev Hy:Value:=KH.zs "tiewebs.texts" 481
abbrev FB:Value:=KH.zs "tiewebs.webs" 426
theorem oW{w:ey}{Z:Str->Option aC}{h:fc}(X:(kW w).In h)(G:h.Ns fg Z)(f c:c_)(m:aC)(x:Str)(st:n_)(a:nK w x=ar (ar (.ref f)):=by kernel_rfl)(l:(kW w).lookup f=ar ⟨.type "function",none,.func (w_ x x (ef st) (cA st) (aq st) .none .none .none m none (.ref c) .none), #[]⟩:=by kernel_rfl)(j:M_ (kW w) (.ref c) x=true:=by kernel_rfl)(k:u5 (kW w) (.ref f)=true:=by kernel_rfl):Z x=ar (.ref f)/\Fun (kW w) x x st f (w_ x x (ef st) (cA st) (aq st) .none .none .none m none (.ref c) .none):=⟨K7 X G a,fk x x st l j k⟩
theorem Js(w:ey)(R:Str->Option aC)(fa:c_)(h:fc)(X:(kW w).In h)(G:h.Ns fg R)(c1:R "law"=ar (.ref fa)):∃fd:f_,(∀(s:b_) (u:aC),G2 s fd ⟨[u],[]⟩ [("_law_script",u)])/\∀base:fc,Mod (kW w) R base->BaseL (kW w) R base->FnOk lP w (kW w) R base (kz lP w) 10 fa fd ["_law_script"] (zO (kW w) pU):=by
 obtain⟨d,l⟩:=oW X G 197 196 FB "is_whole" (top 17);obtain⟨g,b6⟩:=oW X G 204 203 FB "is_pair" (top 18);obtain⟨e2,e6⟩:=oW X G 211 210 FB "is_place" (top 19);obtain⟨e7,c3⟩:=oW X G 218 217 FB "is_tie" (top 20);obtain⟨b2,c2⟩:=oW X G 223 222 FB "is_rising" (top 21);obtain⟨c5,a⟩:=oW X G 228 227 FB "is_web" (top 22);obtain⟨b5,d3⟩:=oW X G 235 234 FB "need_web" (top 23);obtain⟨b4,p⟩:=oW X G 240 239 Hy "read_number" (top 27);obtain⟨a3,o⟩:=oW X G 247 246 Hy "read_tie" (top 28);obtain⟨d1,i⟩:=oW X G 252 251 Hy "web_text" (top 29);obtain⟨e4,d0⟩:=oW X G 257 256 Hy "read_web" (top 30);obtain⟨c7,a0⟩:=oW X G 264 263 Bl "_law_cell_at" (top 32);obtain⟨c4,b⟩:=oW X G 271 270 Bl "_law_state" (top 33);obtain⟨e5,e0⟩:=oW X G 278 277 Bl "_law_take" (top 34);obtain⟨e3,a6⟩:=oW X G 283 282 Bl "_law_pairs" (top 35);obtain⟨n,e1⟩:=oW X G 290 289 Bl "_law_mixed_row" (top 36);obtain⟨k,c6⟩:=oW X G 295 294 Bl "_law_web" (top 37);obtain⟨f,b1⟩:=oW X G 302 301 Bl "_law_great_web" (top 38);obtain⟨d2,c⟩:=oW X G 309 308 Bl "_law_bad_web" (top 39);obtain⟨a4,b3⟩:=oW X G 314 313 Bl "_law_same" (top 40);obtain⟨j,m⟩:=oW X G 319 318 Bl "_law_refused" (top 41);have q:nK w "law"=ar (ar (.ref 324)):=by kernel_rfl
 have a5:=@fk (kW w) 324 323 (KH.zs "law_tiewebs_k90_texts_of_webs" 515) "law" "law" (top 42) (by kernel_rfl) (by kernel_rfl) (by kernel_rfl);obtain⟨⟨ct,Pt⟩,r⟩:=Kr.mp (show(k7 (kW w) "law").isSome=dr by kernel_rfl);have e:=c1.symm.trans (K7 X G q);cases e;have T:Txt (kW w) R:=⟨by kernel_rfl,by kernel_rfl,J3 X G (by kernel_rfl),J3 X G (by kernel_rfl),J3 X G (by kernel_rfl),J3 X G (by kernel_rfl),J3 X G (by kernel_rfl),J3 X G (by kernel_rfl),J3 X G (by kernel_rfl),J3 X G (by kernel_rfl),J3 X G (by kernel_rfl),J3 X G (by kernel_rfl),J3 X G (by kernel_rfl),J3 X G (by kernel_rfl),J3 X G (by kernel_rfl),J3 X G (by kernel_rfl),J3 X G (by kernel_rfl),⟨485,K7 X G (by kernel_rfl)⟩,⟨428,K7 X G (by kernel_rfl)⟩,⟨483,K7 X G (by kernel_rfl)⟩⟩;refine⟨w_ "law" "law" (ef (top 42)) (cA (top 42)) (aq (top 42)) .none .none .none (KH.zs "law_tiewebs_k90_texts_of_webs" 515) none (.ref 323) .none,λs v=>.of_eq rfl,λbase GM BL=>?_⟩;have O:=λbase (GB:Mod (kW w) R base)=>tE (P:=lP) (w:=w) (base:=base) l d T;have J:=λbase (GB:Mod (kW w) R base)=>vd (P:=lP) (w:=w) (base:=base) b6 g T;have E:=λbase (GB:Mod (kW w) R base)=>rE (P:=lP) (w:=w) (base:=base) c2 b2 T;have Y:=λbase (GB:Mod (kW w) R base)=>oj (P:=lP) (w:=w) (base:=base) p b4 T;have L:=λbase (GB:Mod (kW w) R base)=>lV (P:=lP) (w:=w) (base:=base) a0 c7 T;have Z:=λbase (GB:Mod (kW w) R base)=>rF (P:=lP) (w:=w) (base:=base) e0 e5 T;have I:=λbase (GB:Mod (kW w) R base)=>oR (P:=lP) (w:=w) (base:=base) a6 e3 T;have B:=λbase (GB:Mod (kW w) R base)=>tF (P:=lP) (w:=w) (base:=base) e6 e2 T (O base GB);have x:=λbase (GB:Mod (kW w) R base)=>tG (P:=lP) (w:=w) (base:=base) o a3 T (Y base GB);have H:=λbase (GB:Mod (kW w) R base)=>oU (P:=lP) (w:=w) (base:=base) b c4 T (L base GB);have S:=λbase (GB:Mod (kW w) R base)=>ku (P:=lP) (w:=w) (base:=base) e1 n T (Z base GB);have U:=λbase (GB:Mod (kW w) R base)=>ky (P:=lP) (w:=w) (base:=base) b1 f T (Z base GB);have K:=λbase (GB:Mod (kW w) R base)=>lW (P:=lP) (w:=w) (base:=base) c d2 T (Z base GB);have t:=λbase (GB:Mod (kW w) R base)=>x9 (P:=lP) (w:=w) (base:=base) c3 e7 T (J base GB) (B base GB);have A:=λbase (GB:Mod (kW w) R base)=>tH (P:=lP) (w:=w) (base:=base) c6 k T (Z base GB) (I base GB) (S base GB);have F:=λbase (GB:Mod (kW w) R base)=>ya (P:=lP) (w:=w) (base:=base) a c5 T (O base GB) (J base GB) (t base GB) (E base GB);have y:=λbase (GB:Mod (kW w) R base)=>tI (P:=lP) (w:=w) (base:=base) d3 b5 T (F base GB);have Q:=λbase (GB:Mod (kW w) R base)=>tJ (P:=lP) (w:=w) (base:=base) i d1 T (y base GB);have z:=λbase (GB:Mod (kW w) R base)=>tK (P:=lP) (w:=w) (base:=base) d0 e4 T (F base GB) (Y base GB) (x base GB) (Q base GB);have C:=λbase (GB:Mod (kW w) R base)=>rG (P:=lP) (w:=w) (base:=base) b3 a4 T;have N:RefX lP w (kW w) R 9 8 "_law_refused" ["_law_call"] bh:=lX m j T;exact yb a5 T GM BL (ET (show Dg (kW w)=dr by kernel_rfl)) q r Q z H A U K C N eZ
end W
section
namespace W
open PySem PySem.Spec PyProof.Rows L2 S3 S4 S7
theorem FC(K:dV)(H:Hp)(a:c_)(ns:List Int)(T:TabsOk K H)(Z:Bi K H a (ns.map V.int)):zO K pU [.ref a] H (λv _=>v= .bl dr) λ_ _ _=>False:=by obtain⟨d,Y,e,hd⟩:=Hk (S:=[]) (ns:=ns);refine⟨[],[],[.ro (ns.map D.int)],⟨.nil,rfl,(λk a xs h=>by cases h),T⟩,.cons (.ro Z (m6 ns)) .nil,?_⟩;refine⟨.ok d,Y,e,λU R _ _=>?_⟩;subst hd;intro v X;cases X;rfl
theorem walk{l:Od}{q:ee}{loose:List Str}{XP:(Str->Option aC)->fc->Prop}{YP:ey->fc->Prop}{d:OG}{K:G4->dV}(X:l.most=ar 63)(Y:d.params.defaults=[])
  (U:∀(w:ey) (h:fc),YP w h->(K w.params).In h) (R:∀w:ey,OD (K w.params)=dr)
  (Z:∀(w:ey) (h:fc),YP w h->∀y∈bI,∀c Q,k7 (K w.params) y=ar (c,Q)->Nb h c Q/\h.get? Q=ar (vr #[]))
  (F:∀(w:ey) (mg:Str->Option aC) (fa:c_) (h:fc),(K w.params).In h->h.Ns fg mg->mg d.name=ar (.ref fa)->
   ∃fd:f_,(∀(s:b_) (u:aC),G2 s fd ⟨[u],[]⟩ [("_law_script",u)])/\∀base:fc,Mod (K w.params) mg base->BaseL (K w.params) mg base->FnOk l.prog w (K w.params) mg base (kz l.prog w) 10 fa fd ["_law_script"] (zO (K w.params) pU)):
  OO q loose XP YP l.row.toRowW d [] (λf vs=>PySem.call f vs):=
 zV (n:=63) (k:=10) (x:="_law_script") (sp:=λw=>zO (K w.params) pU) X (by decide) Y ⟨rfl,by decide,by decide⟩ U R Z F λw H a ns _ S T=>FC (K w.params) H a ns S T
end W
open PySem PySem.W PyProof.Rows
set_option maxRecDepth 100000 in
set_option maxHeartbeats 0 in
theorem PySem.Challenge.cw_tiewebs_k90_texts_of_webs_holds : PySem.Challenge.rw_tiewebs_k90_texts_of_webs.Holds := by
 w_on;o_law
 refine holds_open (q:=KH.vq) (loose:=[]) (Xt:=KH.Xt0) (XP:=XL KH.vq []) (Yf:=Os (M6 KH.K0 KH.as0 KH.as0_eq KH.ts0)) (Ya:=Ot (M6 KH.K0 KH.as0 KH.as0_eq KH.ts0)) (YP:=Hook.says (M6 KH.K0 KH.as0 KH.as0_eq KH.ts0)) (N:=7490) KH.left0 (Hook.of (M6 KH.K0 KH.as0 KH.as0_eq KH.ts0)) (Hook.keeps (M6 KH.K0 KH.as0 KH.as0_eq KH.ts0)) (fun s e=>xl_of s (Bool.and_eq_true_iff.mp e).1) XL.keeps (by rfl) (by rfl) (by rfl) (fun s e=>recFacts_of (Bool.and_eq_true_iff.mp e).2) (by rfl) (by first|assumption|decide+kernel) (by decide+kernel) ⟨rfl,rfl,rfl,rfl,rfl,by decide+kernel⟩ ?hw ?hc
 case hw=>w_witness2
 refine W.walk (l:=PySem.Challenge.rw_tiewebs_k90_texts_of_webs) rfl rfl (fun w h Y=>PySem.W.km_in_of Y) ?nt (fun w h Y=>S7.IF (w:=w) ?ck Y) W.Js
 case nt=>intro w;kernel_rfl
 case ck=>kernel_rfl
end
