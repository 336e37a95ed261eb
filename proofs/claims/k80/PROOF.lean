import PyProof.Rows.All
import Wide.All
import OpenK.AllK
import Wide.FinOn
import PySem.Challenge.RW_tiewebs_k80_tie_webs_again
import Lean
import PyProof.EqAt
import PyProof.EqKinds
import PyProof.TupleCall
import PyProof.SetScanFacts
import PyProof.EnumMake
import PyProof.Draws
import PyProof.ExcInit
import PyProof.ExcClass3
import PyProof.InstStore
set_option Elab.async false
set_option linter.all false
set_option maxRecDepth 100000
set_option maxHeartbeats 8000000
noncomputable section
abbrev Jg:=@PySem.wpAny_bind
abbrev Jh:=@PySem.Heap.get?_push_of_some
abbrev Ji:=@PySem.wpAny_pure
abbrev Jj:=@Nat.le_refl
abbrev Jk:=@List.getElem?_eq_getElem
abbrev Jl:=@List.length_map
abbrev Jm:=@PySem.Heap.lt_size
abbrev Jn:=@List.getElem?_eq_some_iff
abbrev Jo:=@PySem.Heap.get?_push_size
abbrev Jp:=@List.getElem?_append_left
abbrev Jq:=@Array.getElem?_eq_getElem
abbrev Jr:=@List.mem_cons_of_mem
abbrev Js:=@List.length_append
abbrev Jt:=@List.size_toArray
abbrev Ju:=@Nat.le_trans
abbrev Jv:=@Nat.ne_of_lt
abbrev Jw:=@List.getD_eq_getElem?_getD
abbrev Jx:=@Nat.lt_of_lt_of_le
abbrev Jy:=@List.mem_cons_self
abbrev Jz:=@PySem.W.mg_of
abbrev JA:=@List.mem_append_right
abbrev JB:=@List.getElem?_map
abbrev JC:=@List.mem_cons
abbrev JD:=@Array.getElem?_eq_some_iff
abbrev JE:=@Nat.zero_le
abbrev JF:=@List.getElem?_set_ne
abbrev JG:=@List.mem_range
abbrev JH:=@List.append_assoc
abbrev JI:=@Option.some.inj
abbrev JJ:=@PySem.wpAny_mono
abbrev JK:=@decide_eq_true
abbrev JL:=@Array.getElem?_toList
abbrev JM:=@List.mem_of_getElem?
abbrev JN:=@List.getElem?_set_self
abbrev JO:=@PySem.W.mg_none_of
abbrev JP:=@List.lookup_cons
abbrev JQ:=@List.all_eq_true
abbrev JR:=@Array.getD_eq_getD_getElem?
abbrev JS:=@Int.toNat_natCast
abbrev JT:=@List.map_cons
abbrev JU:=@PySem.Heap.get?_update_other
abbrev JV:=@List.append_nil
abbrev JW:=@decide_eq_false
abbrev JX:=@PySem.wpAny_holding
abbrev JY:=@List.mem_map
abbrev JZ:=@PySem.wpAny_newObj_type
abbrev J0:=@List.length_cons
abbrev J1:=@List.filterMap_cons
abbrev J2:=@List.map_map
abbrev J3:=@PySem.Heap.get?_update_self
abbrev J4:=@PySem.W.kia_one
abbrev J5:=@PySem.Heap.get?_none_of_le
abbrev J6:=@PySem.sizeLine_eq
abbrev J7:=@PySem.wpAny_field
abbrev J8:=@List.getElem?_eq_none
abbrev J9:=@PySem.wpAny_call_entry
abbrev Ka:=@PySem.Heap.size_push
abbrev Kb:=@PySem.wpAny_standAt
abbrev Kc:=@List.length_range
abbrev Kd:=@List.pairwise_cons
abbrev Ke:=@List.nodup_cons
abbrev Kf:=@PySem.wpAny_truthy_bool
abbrev Kg:=@Option.isSome_iff_exists
abbrev Kh:=@of_decide_eq_true
abbrev Ki:=@Nat.lt_succ_of_lt
abbrev Kj:=@PySem.W.kia_tup
abbrev Kk:=@Int.emod_lt_of_pos
abbrev Kl:=@Nat.le_of_lt
abbrev Km:=@List.getElem_mem
abbrev Kn:=@Array.getElem?_eq_none
abbrev Ko:=@PyProof.Rows.slot_tuple_getitem
abbrev Kq:=@PySem.wpAny_setState_of
abbrev Kr:=@PySem.Heap.SameBut.update
abbrev Ks:=@PySem.wpAny_seqItems
abbrev Kt:=@List.map_append
abbrev Ku:=@List.length_filter_le
abbrev Kv:=@PySem.PassesOwn.never
abbrev Kw:=@List.mem_filterMap
abbrev Kx:=@Bool.false_ne_true
abbrev Ky:=@PySem.Obj.data_mapFields
abbrev Kz:=@Bool.and_eq_true
abbrev KB:=@Nat.lt_irrefl
abbrev KC:=@Int.eq_ofNat_of_zero_le
abbrev KD:=@Nat.ne_of_gt
abbrev KE:=@PySem.codeAny_mono
abbrev KF:=@decide_eq_true_eq
abbrev KG:=@PyProof.Rows.callWith_type1
abbrev KI:=@Int.emod_nonneg
abbrev KJ:=@PySem.F.slot_tuple_iterator_next
abbrev KL:=@PySem.F.excBase_ValueError
abbrev KN:=@List.getElem?_toArray
abbrev KO:=@PySem.wpAny_setField_rec
abbrev KP:=@PySem.Around.under_plainId
abbrev KQ:=@PySem.wpAny_passesOwn
abbrev KR:=@PySem.codeAny_builtin
abbrev KS:=@PySem.mem_of_lookup
abbrev KU:=@Array.length_toList
abbrev KW:=@PySem.Heap.get?_update_ne
abbrev KY:=@List.length_take
abbrev KZ:=@Nat.le_add_right
abbrev K1:=@PySem.wpAny_askSetting
abbrev K2:=@Option.bind_some
abbrev K3:=@PySem.wpAny_setField
abbrev K4:=@PySem.Heap.size_after_update
abbrev K5:=@PySem.wpAny_Call_Name_kw
abbrev K6:=@PySem.wpAny_execs_nil
abbrev K7:=@List.mem_iff_getElem?
abbrev K8:=@PySem.Obj.isFreed_of_fields
abbrev K9:=@PySem.wpAny_loadPart_at
abbrev La:=@List.getElem?_append_right
abbrev Lc:=@List.length_eraseIdx_of_lt
abbrev Ld:=@List.mem_append_left
abbrev Le:=@PySem.codeAny_call_builtin
abbrev Lf:=@Bool.false_and
abbrev Lg:=@List.drop_eq_getElem_cons
abbrev Lh:=@List.getElem?_zip_eq_some
abbrev Li:=@congrArg
abbrev Lj:=@Nat.succ_le_succ
abbrev Lk:=@Nat.lt_succ_self
abbrev Ll:=@PySem.wpAny_isInstance
abbrev Lm:=@Bool.not_eq_true
abbrev Ln:=@List.getElem?_range
abbrev Lo:=@List.Perm.nodup_iff
abbrev Lp:=@PySem.wpAny_call
abbrev Lq:=@PySem.F.args_tuple_add_2
abbrev Lr:=@PySem.wpAny_typeOf
abbrev Ls:=@Nat.le_of_eq
abbrev Lu:=@Int.zero_add
abbrev Lv:=@List.range'_eq_map_range
abbrev Lw:=@List.mem_append
abbrev Lx:=@PySem.wpAny_pyIter_tuple
abbrev Ly:=@List.of_mem_zip
abbrev Lz:=@PySem.F.entry_tuple_add
abbrev LA:=@Array.Perm.refl
abbrev LB:=@PyProof.Rows.F.plain_set_update_loop
abbrev LC:=@PySem.codeAny_of_tree
abbrev LD:=@PySem.Code.quiet_builtin
abbrev LF:=@PySem.wpAny_attempt
abbrev LG:=@List.getElem?_take
abbrev LH:=@List.filter_cons_of_pos
abbrev LJ:=@List.filter_cons_of_neg
abbrev LK:=@Bool.eq_iff_iff
abbrev LL:=@List.filter_map
abbrev LM:=@PySem.W.cellsFrom_some
abbrev LN:=@PySem.F.slot_tuple_add
abbrev LP:=@List.drop_eq_nil_of_le
abbrev LQ:=@List.range_succ_eq_map
abbrev LR:=@PySem.wpAny_pyIter_list
abbrev LS:=@PySem.W.kitx_list
abbrev LU:=@PySem.W.kitx_dict
abbrev LV:=@Nat.le_of_succ_le
abbrev LW:=@PySem.wpAny_rule
abbrev LX:=@List.ext_getElem?
abbrev LY:=@List.flatMap_cons
abbrev LZ:=@Prod.ext
abbrev L3:=@PySem.isSubtype_type
abbrev L4:=@List.length_singleton
abbrev L5:=@PySem.builtinLookup_eq_fast
abbrev L6:=@Nat.succ_mul
abbrev L7:=@List.set_append_right
abbrev L8:=@PySem.wpAny_forIn_list
abbrev L9:=@PySem.wpAny_pyIter_zip
abbrev Ma:=@Array.mem_toList_iff
abbrev Mb:=@PySem.Calls.evalArgs_plain
abbrev Mc:=@PySem.wpAny_updateSeq_pair
abbrev Md:=@List.sublist_map_iff
abbrev Me:=@congrFun
abbrev Mf:=@Bool.true_and
abbrev Mg:=@PySem.F.args_tuple_iterator_next_1
abbrev Mh:=@List.cons.inj
abbrev Mi:=@PyProof.Rows.intsAre_of
abbrev Mj:=@List.length_set
abbrev Ml:=@Nat.not_lt_zero
abbrev Mm:=@PySem.wpAny_setEntries_of
abbrev Mn:=@PySem.F.entry_tuple_iterator_next
abbrev Mo:=@PySem.F.slot_zip_next
abbrev Mp:=@beq_false_of_ne
abbrev Mq:=@PySem.Calls.Name_function_global
abbrev Mr:=@Array.find?_toList
abbrev Ms:=@List.zip_cons_cons
abbrev Mt:=@Nat.lt_trans
abbrev Mu:=@Nat.lt_of_le_of_lt
abbrev Mv:=@List.getElem?_drop
abbrev Mw:=@Classical.byContradiction
abbrev Mx:=@List.pairwise_iff_getElem
abbrev My:=@PySem.isSubtype_stop
abbrev Mz:=@PySem.wpAny_letOwnedTupleGo_zip
abbrev MA:=@PySem.W.kitx_none
abbrev MB:=@List.getElem?_take_of_lt
abbrev MD:=@Nat.mod_lt
abbrev ME:=@Nat.lt_trichotomy
abbrev MG:=@Bool.eq_false_iff
abbrev MH:=@Array.getElem?_replicate
abbrev MI:=@PySem.Obj.cls_mapFields
abbrev MJ:=@PySem.wpAny_Call_ofName
abbrev MK:=@Nat.le_succ
abbrev MM:=@PySem.plainId_quiet
abbrev MN:=@PySem.wpAny_onRaise
abbrev MO:=@PySem.wpAny_eqBool_int
abbrev MP:=@PySem.wpAny_execs_cons
abbrev MQ:=@PySem.noFill_tuple_add
abbrev MR:=@List.length_drop
abbrev MS:=@Nat.le_of_not_lt
abbrev MT:=@List.map_nil
abbrev MU:=@PySem.pushCells_keeps
abbrev MV:=@List.all_map
abbrev MW:=@PySem.typeLookup_type
abbrev MX:=@Bool.and_false
abbrev MY:=@PySem.wpAny_runValue
abbrev MZ:=@PySem.wpAny_of_eq
abbrev M0:=@PySem.Within.cons
abbrev M3:=@List.any_cons
abbrev M5:=@Nat.not_lt
abbrev M6:=@beq_iff_eq
namespace KH
open PySem PySem.W PySem.Spec PyProof.Rows
def tp(i:Nat):Stmt:=PySem.Challenge.pw_tiewebs_k80_tie_webs_again.main.body.getD i (.Pass ⟨0,0,0,0⟩)
def iC:Stmt->Stmt
 | .ClassDef _ _ _ (b::_) .. =>b
 |s=>s
def dA(s:Stmt):Arguments:=match s with
 | .FunctionDef _ a _ _ _ _ _ _ _ _=>a
 |_=>{posonlyargs:=[],args:=[],vararg:=none,kwonlyargs:=[],kw_defaults:=[],kwarg:=none,defaults:=[]}
def dB(s:Stmt):List Stmt:=match s with
 | .FunctionDef _ _ b _ _ _ _ _ _ _=>b
 |_=>[]
def dS(s:Stmt):Scope:=match s with
 | .FunctionDef _ _ _ _ _ _ sc _ _ _=>sc
 |_=>{kind:=.function,names:=[],isGenerator:=false,isCoroutine:=false}
def zs(x:String)(t:Nat):Value:=.str (Str.ofString x) t
def ze(P:Params)(x:String)(t:Nat)(v:Value):DictEntry:=⟨PyData.keyHash P (Str.ofString x),zs x t,v⟩
def zt(xs:Array Value):Obj:=⟨.type "tuple",none,.seq xs, #[]⟩
def zc(n q:String)(a:Nat)(l ac p5 p6 fl:Int)(r8:Value)(p10:Int)(r11 r13 r14 r15:Value)(p16:Int)(t:Nat):Obj:=⟨.type "code",none,.fields #[zs n a,zs q (a+1),zs "/claim/cut.py" (a+2),.int l 0,.int ac 0,.int p5 0,.int p6 0,.int fl 0,r8,.bool true,.int p10 0,r11,.none,r13,r14,r15,.int p16 0,.int l 0,zs "/claim/cut.py" t], #[]⟩
def zf(n q:String)(st:Stmt)(kV dc pm:Value)(an:Option Addr)(cd ct:Value):Data:=.func (PySem.W.fnOf (Str.ofString n) (Str.ofString q) (dA st) (dB st) (dS st) .none kV dc pm an cd ct)
def zg(n q:String)(st:Stmt):Obj:=⟨.none,none,.func {name:=Str.ofString n,qualname:=Str.ofString q,params:=dA st,body:=.stmts (dB st),scope:=dS st,globals:=0,closure:=[],defaults:=.none,kwdefaults:=.none}, #[]⟩
def z0:Obj:=⟨.none,none,.fields #[],#[]⟩
def zp:Obj:=⟨.type "builtin_function_or_method",none,.fields #[.builtin "type.__prepare__",.type "type"],#[]⟩
def zu(a:Nat):Obj:=⟨.type "super",none,.fields #[.ref a,.ref a,.ref a],#[]⟩
def zi(a:Nat):Obj:=⟨.type "builtin_function_or_method",none,.fields #[.builtin "object.__init_subclass__",.ref a],#[]⟩
def zr(a b:Nat)(v:Value):Obj:=⟨.type "frame",none,.plain,#[some (.ref a),some (.ref 3),some (.ref b),none,some v,none,some (.ref 0)]⟩
def zk(n:String)(a b c:Nat)(l:Int)(r:Nat)(m:Int)(s:Nat)(x y:Int)(t:Nat):Obj:=⟨.type "code",none,.fields #[zs n a,zs n b,zs "/claim/cut.py" c,.int l 0,.int 0 0,.int 0 0,.int 0 0,.int 0 0,.ref r,.bool false,.int m 0,.ref s,.none,.none,.none,.none,.int x 0,.int y 0,zs "/claim/cut.py" t],#[]⟩
def zC(P:Params)(n:String)(a t l:Nat):List Obj:=[zp,⟨(.type "dict"),none,(.dict #[ze P "__module__" (t+5) (zs "tiewebs.errors" 187),ze P "__qualname__" (t+7) (zs n (t+6)),ze P "__firstlineno__" (t+9) (.int l (t+8)),ze P "__static_attributes__" (t+10) (.ref (a+6))] 4),#[]⟩,zt #[],z0,zk n t (t+1) (t+2) l (a+2) 181 (a+3) (t+3) l (t+4),zr (a+4) (a+1) (zs "tiewebs.errors" 187),zt #[],⟨(.type "dict"),none,(.dict #[ze P "__module__" (t+5) (zs "tiewebs.errors" 187),ze P "__firstlineno__" (t+9) (.int l (t+8)),ze P "__static_attributes__" (t+10) (.ref (a+6)),ze P "__doc__" (t+11) .none] 2),#[]⟩,⟨(.type "type"),none,(.cls ⟨(Str.ofString n),[(.ref 24)],[(.ref (a+8)),(.ref 24),(.type "ValueError"),(.type "Exception"),(.type "BaseException"),(.type "object")],(a+7),(Str.ofString n),true,[],[],false,none,false⟩),#[some (.ref (a-1)),none,some (zs n (t-2)),some (zs n (t+6)),some (.builtin "ValueError.__new__"),some (.bool true)]⟩,zu (a+8),zi (a+8),zt #[(.ref 24)]]
def L1(P:Params):List Obj:=[boot_o_0 P,boot_o_1 P,boot_o_2 P,⟨(.type "dict"),none,(.dict #[ze P "__name__" 165 (zs "law_tiewebs_k80_tie_webs_again" 532),ze P "__doc__" 166 .none,ze P "__package__" 167 .none,ze P "__loader__" 168 (.builtin "__main__.__loader__#opaque"),ze P "__spec__" 169 .none,ze P "__annotations__" 170 (.ref 6),ze P "__builtins__" 171 (.ref 4),ze P "__file__" 173 (zs "/claim/cut.py" 172),ze P "__cached__" 174 .none,ze P "WebError" 206 (.ref 24),ze P "NoWeb" 222 (.ref 37),ze P "NoPlace" 238 (.ref 49),ze P "NoPlaces" 254 (.ref 61),ze P "NoMap" 270 (.ref 73),ze P "NoSharing" 286 (.ref 85),ze P "NoRoot" 302 (.ref 97),ze P "NoNumber" 318 (.ref 109),ze P "NotJoined" 334 (.ref 121),ze P "NoTie" 350 (.ref 133),ze P "NoText" 366 (.ref 145),ze P "NoLine" 382 (.ref 157),ze P "NoDeed" 398 (.ref 169),ze P "TooGreat" 425 (.ref 188),ze P "MOST_PLACES" 429 (.int 14 428),ze P "is_whole" 436 (.ref 197),ze P "is_pair" 443 (.ref 204),ze P "is_place" 451 (.ref 211),ze P "is_tie" 461 (.ref 218),ze P "is_rising" 467 (.ref 223),ze P "is_web" 473 (.ref 228),ze P "need_web" 480 (.ref 235),ze P "need_number" 488 (.ref 242),ze P "pairs_of" 494 (.ref 247),ze P "MOST_TIES" 498 (.int 7 497),ze P "ties_meet" 504 (.ref 252),ze P "need_few_ties" 511 (.ref 259),ze P "tie_web" 517 (.ref 264),ze P "MOST_TIMES" 521 (.int 6 520),ze P "made_again" 531 (.ref 271),ze P "_law_cell_at" 541 (.ref 278),ze P "_law_state" 550 (.ref 285),ze P "_law_take" 560 (.ref 292),ze P "_law_pairs" 566 (.ref 297),ze P "_law_mixed_row" 576 (.ref 304),ze P "_law_web" 582 (.ref 309),ze P "_law_great_web" 594 (.ref 316),ze P "_law_made" 600 (.ref 321),ze P "_law_bad_web" 608 (.ref 328),ze P "_law_same" 614 (.ref 333),ze P "_law_refused" 620 (.ref 338),ze P "_law_due" 629 (.ref 345),ze P "law" 644 (.ref 352)] 52),#[]⟩,boot_o_4 P,boot_o_5 P,boot_o_6 P,boot_o_7 P,boot_o_8 P,boot_o_9 P,boot_o_10 P,zt #[],⟨.none,none,(.fields #[(.int 2 0),(.int 0 0),(.ref 20),(.int 4 0),(.int 0 0),(.ref 33),(.int 6 0),(.int 0 0),(.ref 45),(.int 8 0),(.int 0 0),(.ref 57),(.int 10 0),(.int 0 0),(.ref 69),(.int 12 0),(.int 0 0),(.ref 81),(.int 14 0),(.int 0 0),(.ref 93),(.int 16 0),(.int 0 0),(.ref 105),(.int 18 0),(.int 0 0),(.ref 117),(.int 20 0),(.int 0 0),(.ref 129),(.int 22 0),(.int 0 0),(.ref 141),(.int 24 0),(.int 0 0),(.ref 153),(.int 26 0),(.int 0 0),(.ref 165),(.int 28 0),(.int 0 0),(.ref 177),(.int 35 0),(.int 0 0),(.ref 196),(.int 37 0),(.int 0 0),(.ref 203),(.int 39 0),(.int 0 0),(.ref 210),(.int 41 0),(.int 0 0),(.ref 217),(.int 46 0),(.int 0 0),(.ref 222),(.int 48 0),(.int 0 0),(.ref 227),(.int 55 0),(.int 0 0),(.ref 234),(.int 58 0),(.int 0 0),(.ref 241),(.int 61 0),(.int 0 0),(.ref 246),(.int 65 0),(.int 0 0),(.ref 251),(.int 67 0),(.int 0 0),(.ref 258),(.int 71 0),(.int 0 0),(.ref 263),(.int 78 0),(.int 0 0),(.ref 270),(.int 86 0),(.int 0 0),(.ref 277),(.int 90 0),(.int 0 0),(.ref 284),(.int 95 0),(.int 0 0),(.ref 291),(.int 104 0),(.int 0 0),(.ref 296),(.int 109 0),(.int 0 0),(.ref 303),(.int 115 0),(.int 0 0),(.ref 308),(.int 129 0),(.int 0 0),(.ref 315),(.int 137 0),(.int 0 0),(.ref 320),(.int 143 0),(.int 0 0),(.ref 327),(.int 148 0),(.int 0 0),(.ref 332),(.int 156 0),(.int 0 0),(.ref 337),(.int 171 0),(.int 0 0),(.ref 344),(.int 177 0),(.int 0 0),(.ref 351)]),#[]⟩,⟨(.type "code"),none,(.fields #[(zs "<module>" 182),(zs "<module>" 183),(zs "/claim/cut.py" 184),(.int 1 0),(.int 0 0),(.int 0 0),(.int 0 0),(.int 0 0),(.ref 11),(.bool false),(.int 181 0),(.ref 12),.none,.none,.none,.none,(.int 185 0),(.int 1 0),(zs "/claim/cut.py" 186)]),#[]⟩,zr 13 3 (zs "__main__" 164),zt #[(.type "ValueError")],zp,⟨(.type "dict"),none,(.dict #[ze P "__module__" 196 (zs "tiewebs.errors" 187),ze P "__qualname__" 198 (zs "WebError" 197),ze P "__firstlineno__" 200 (.int 2 199),ze P "__static_attributes__" 201 (.ref 22)] 4),#[]⟩,zt #[],z0,zk "WebError" 191 192 193 2 18 181 19 194 2 195,zr 20 17 (zs "tiewebs.errors" 187),zt #[],⟨(.type "dict"),none,(.dict #[ze P "__module__" 196 (zs "tiewebs.errors" 187),ze P "__firstlineno__" 200 (.int 2 199),ze P "__static_attributes__" 201 (.ref 22),ze P "__weakref__" 203 (.ref 25),ze P "__doc__" 204 .none] 3),#[]⟩,⟨(.type "type"),none,(.cls ⟨(Str.ofString "WebError"),[(.type "ValueError")],[(.ref 24),(.type "ValueError"),(.type "Exception"),(.type "BaseException"),(.type "object")],23,(Str.ofString "WebError"),true,[],[(.ref 37),(.ref 49),(.ref 61),(.ref 73),(.ref 85),(.ref 97),(.ref 109),(.ref 121),(.ref 133),(.ref 145),(.ref 157),(.ref 169),(.ref 188)],false,none,false⟩),#[some (.ref 15),none,some (zs "WebError" 189),some (zs "WebError" 197),some (.builtin "ValueError.__new__"),some (.bool true)]⟩,⟨(.type "getset_descriptor"),none,(.fields #[(zs "__weakref__" 202),(.ref 24),(.builtin "ExceptionGroup.__weakref__"),.none]),#[]⟩,zu 24,zi 24,zt #[(.ref 24)]]++zC P "NoWeb" 29 209 4++zC P "NoPlace" 41 225 6++zC P "NoPlaces" 53 241 8++zC P "NoMap" 65 257 10++zC P "NoSharing" 77 273 12++zC P "NoRoot" 89 289 14++zC P "NoNumber" 101 305 16++zC P "NotJoined" 113 321 18++zC P "NoTie" 125 337 20++zC P "NoText" 137 353 22++zC P "NoLine" 149 369 24++zC P "NoDeed" 161 385 26++[zp,⟨(.type "dict"),none,(.dict #[ze P "__module__" 406 (zs "tiewebs.errors" 187),ze P "__qualname__" 408 (zs "TooGreat" 407),ze P "__firstlineno__" 410 (.int 28 409),ze P "__init__" 419 (.ref 185),ze P "__static_attributes__" 422 (.ref 186)] 5),#[]⟩,zt #[],⟨.none,none,(.fields #[(.int 30 0),(.int 4 0),(.ref 184)]),#[]⟩,zk "TooGreat" 401 402 403 28 175 181 176 404 28 405,zr 177 174 (zs "tiewebs.errors" 187),zt #[],z0,zt #[(zs "self" 414),(zs "many" 415),(zs "most" 416)],zt #[],zg "__init__" "TooGreat.__init__" (iC (tp 14)),zc "__init__" "TooGreat.__init__" 411 30 3 0 0 3 (.ref 179) 181 (.ref 180) (.ref 181) (.ref 182) (.ref 183) 417 418,⟨.type "function",none,(zf "__init__" "TooGreat.__init__" (iC (tp 14)) .none .none (zs "tiewebs.errors" 187) none (.ref 184) .none),#[]⟩,zt #[(zs "many" 420),(zs "most" 421)],⟨(.type "dict"),none,(.dict #[ze P "__module__" 406 (zs "tiewebs.errors" 187),ze P "__firstlineno__" 410 (.int 28 409),ze P "__init__" 419 (.ref 185),ze P "__static_attributes__" 422 (.ref 186),ze P "__doc__" 423 .none] 2),#[]⟩,⟨(.type "type"),none,(.cls ⟨(Str.ofString "TooGreat"),[(.ref 24)],[(.ref 188),(.ref 24),(.type "ValueError"),(.type "Exception"),(.type "BaseException"),(.type "object")],187,(Str.ofString "TooGreat"),true,[],[],false,none,false⟩),#[some (.ref 172),none,some (zs "TooGreat" 399),some (zs "TooGreat" 407),some (.builtin "ValueError.__new__"),some (.bool true)]⟩,zu 188,zi 188,zt #[],z0,zt #[(zs "thing" 433)],zt #[],zg "is_whole" "is_whole" (tp 17),zc "is_whole" "is_whole" 430 35 1 0 0 3 (.ref 191) 181 (.ref 192) (.ref 193) (.ref 194) (.ref 195) 434 435,⟨.type "function",none,(zf "is_whole" "is_whole" (tp 17) .none .none (zs "tiewebs.webs" 426) none (.ref 196) .none),#[]⟩,zt #[],z0,zt #[(zs "thing" 440)],zt #[],zg "is_pair" "is_pair" (tp 18),zc "is_pair" "is_pair" 437 37 1 0 0 3 (.ref 198) 181 (.ref 199) (.ref 200) (.ref 201) (.ref 202) 441 442,⟨.type "function",none,(zf "is_pair" "is_pair" (tp 18) .none .none (zs "tiewebs.webs" 426) none (.ref 203) .none),#[]⟩,zt #[],z0,zt #[(zs "many" 447),(zs "thing" 448)],zt #[],zg "is_place" "is_place" (tp 19),zc "is_place" "is_place" 444 39 2 0 0 3 (.ref 205) 181 (.ref 206) (.ref 207) (.ref 208) (.ref 209) 449 450,⟨.type "function",none,(zf "is_place" "is_place" (tp 19) .none .none (zs "tiewebs.webs" 426) none (.ref 210) .none),#[]⟩,zt #[],z0,zt #[(zs "many" 455),(zs "thing" 456),(zs "low" 457),(zs "high" 458)],zt #[],zg "is_tie" "is_tie" (tp 20),zc "is_tie" "is_tie" 452 41 2 0 0 3 (.ref 212) 181 (.ref 213) (.ref 214) (.ref 215) (.ref 216) 459 460,⟨.type "function",none,(zf "is_tie" "is_tie" (tp 20) .none .none (zs "tiewebs.webs" 426) none (.ref 217) .none),#[]⟩,zt #[],z0,zg "is_rising" "is_rising" (tp 21),zc "is_rising" "is_rising" 462 46 1 0 0 3 (.ref 219) 181 (.ref 220) .none .none (.ref 221) 465 466,⟨.type "function",none,(zf "is_rising" "is_rising" (tp 21) .none .none (zs "tiewebs.webs" 426) none (.ref 222) .none),#[]⟩,zt #[],z0,zg "is_web" "is_web" (tp 22),zc "is_web" "is_web" 468 48 1 0 0 3 (.ref 224) 181 (.ref 225) .none .none (.ref 226) 471 472,⟨.type "function",none,(zf "is_web" "is_web" (tp 22) .none .none (zs "tiewebs.webs" 426) none (.ref 227) .none),#[]⟩,zt #[],z0,zt #[(zs "thing" 477)],zt #[],zg "need_web" "need_web" (tp 23),zc "need_web" "need_web" 474 55 1 0 0 3 (.ref 229) 181 (.ref 230) (.ref 231) (.ref 232) (.ref 233) 478 479,⟨.type "function",none,(zf "need_web" "need_web" (tp 23) .none .none (zs "tiewebs.webs" 426) none (.ref 234) .none),#[]⟩,zt #[],z0,zt #[(zs "thing" 484),(zs "most" 485)],zt #[],zg "need_number" "need_number" (tp 24),zc "need_number" "need_number" 481 58 2 0 0 3 (.ref 236) 181 (.ref 237) (.ref 238) (.ref 239) (.ref 240) 486 487,⟨.type "function",none,(zf "need_number" "need_number" (tp 24) .none .none (zs "tiewebs.webs" 426) none (.ref 241) .none),#[]⟩,zt #[],z0,zg "pairs_of" "pairs_of" (tp 25),zc "pairs_of" "pairs_of" 489 61 1 0 0 3 (.ref 243) 181 (.ref 244) .none .none (.ref 245) 492 493,⟨.type "function",none,(zf "pairs_of" "pairs_of" (tp 25) .none .none (zs "tiewebs.webs" 426) none (.ref 246) .none),#[]⟩,zt #[],z0,zg "ties_meet" "ties_meet" (tp 28),zc "ties_meet" "ties_meet" 499 65 2 0 0 3 (.ref 248) 181 (.ref 249) .none .none (.ref 250) 502 503,⟨.type "function",none,(zf "ties_meet" "ties_meet" (tp 28) .none .none (zs "tiewebs.ties" 495) none (.ref 251) .none),#[]⟩,zt #[],z0,zt #[(zs "web" 508)],zt #[],zg "need_few_ties" "need_few_ties" (tp 29),zc "need_few_ties" "need_few_ties" 505 67 1 0 0 3 (.ref 253) 181 (.ref 254) (.ref 255) (.ref 256) (.ref 257) 509 510,⟨.type "function",none,(zf "need_few_ties" "need_few_ties" (tp 29) .none .none (zs "tiewebs.ties" 495) none (.ref 258) .none),#[]⟩,zt #[],z0,zg "tie_web" "tie_web" (tp 30),zc "tie_web" "tie_web" 512 71 1 0 0 3 (.ref 260) 181 (.ref 261) .none .none (.ref 262) 515 516,⟨.type "function",none,(zf "tie_web" "tie_web" (tp 30) .none .none (zs "tiewebs.ties" 495) none (.ref 263) .none),#[]⟩,zt #[],z0,zt #[(zs "web" 525),(zs "times" 526),(zs "made" 527),(zs "turn" 528)],zt #[],zg "made_again" "made_again" (tp 33),zc "made_again" "made_again" 522 78 2 0 0 3 (.ref 265) 181 (.ref 266) (.ref 267) (.ref 268) (.ref 269) 529 530,⟨.type "function",none,(zf "made_again" "made_again" (tp 33) .none .none (zs "tiewebs.again" 518) none (.ref 270) .none),#[]⟩,zt #[],z0,zt #[(zs "_law_script" 537),(zs "_law_k" 538)],zt #[],zg "_law_cell_at" "_law_cell_at" (tp 35),zc "_law_cell_at" "_law_cell_at" 534 86 2 0 0 3 (.ref 272) 181 (.ref 273) (.ref 274) (.ref 275) (.ref 276) 539 540,⟨.type "function",none,(zf "_law_cell_at" "_law_cell_at" (tp 35) .none .none (zs "law_tiewebs_k80_tie_webs_again" 532) none (.ref 277) .none),#[]⟩,zt #[],z0,zt #[(zs "_law_script" 545),(zs "_law_k" 546),(zs "_law_cell" 547)],zt #[],zg "_law_state" "_law_state" (tp 36),zc "_law_state" "_law_state" 542 90 2 0 0 3 (.ref 279) 181 (.ref 280) (.ref 281) (.ref 282) (.ref 283) 548 549,⟨.type "function",none,(zf "_law_state" "_law_state" (tp 36) .none .none (zs "law_tiewebs_k80_tie_webs_again" 532) none (.ref 284) .none),#[]⟩,zt #[],z0,zt #[(zs "_law_state_here" 554),(zs "_law_many" 555),(zs "_law_found" 556),(zs "_law_stirred" 557)],zt #[],zg "_law_take" "_law_take" (tp 37),zc "_law_take" "_law_take" 551 95 2 0 0 3 (.ref 286) 181 (.ref 287) (.ref 288) (.ref 289) (.ref 290) 558 559,⟨.type "function",none,(zf "_law_take" "_law_take" (tp 37) .none .none (zs "law_tiewebs_k80_tie_webs_again" 532) none (.ref 291) .none),#[]⟩,zt #[],z0,zg "_law_pairs" "_law_pairs" (tp 38),zc "_law_pairs" "_law_pairs" 561 104 1 0 0 3 (.ref 293) 181 (.ref 294) .none .none (.ref 295) 564 565,⟨.type "function",none,(zf "_law_pairs" "_law_pairs" (tp 38) .none .none (zs "law_tiewebs_k80_tie_webs_again" 532) none (.ref 296) .none),#[]⟩,zt #[],z0,zt #[(zs "_law_state_here" 570),(zs "_law_things" 571),(zs "_law_left" 572),(zs "_law_found" 573)],zt #[],zg "_law_mixed_row" "_law_mixed_row" (tp 39),zc "_law_mixed_row" "_law_mixed_row" 567 109 2 0 0 3 (.ref 298) 181 (.ref 299) (.ref 300) (.ref 301) (.ref 302) 574 575,⟨.type "function",none,(zf "_law_mixed_row" "_law_mixed_row" (tp 39) .none .none (zs "law_tiewebs_k80_tie_webs_again" 532) none (.ref 303) .none),#[]⟩,zt #[],z0,zg "_law_web" "_law_web" (tp 40),zc "_law_web" "_law_web" 577 115 2 0 0 3 (.ref 305) 181 (.ref 306) .none .none (.ref 307) 580 581,⟨.type "function",none,(zf "_law_web" "_law_web" (tp 40) .none .none (zs "law_tiewebs_k80_tie_webs_again" 532) none (.ref 308) .none),#[]⟩,zt #[],z0,zt #[(zs "_law_state_here" 586),(zs "_law_many" 587),(zs "_law_ties" 588),(zs "_law_turn" 589),(zs "_law_one" 590),(zs "_law_other" 591)],zt #[],zg "_law_great_web" "_law_great_web" (tp 41),zc "_law_great_web" "_law_great_web" 583 129 1 0 0 3 (.ref 310) 181 (.ref 311) (.ref 312) (.ref 313) (.ref 314) 592 593,⟨.type "function",none,(zf "_law_great_web" "_law_great_web" (tp 41) .none .none (zs "law_tiewebs_k80_tie_webs_again" 532) none (.ref 315) .none),#[]⟩,zt #[],z0,zg "_law_made" "_law_made" (tp 42),zc "_law_made" "_law_made" 595 137 1 0 0 3 (.ref 317) 181 (.ref 318) .none .none (.ref 319) 598 599,⟨.type "function",none,(zf "_law_made" "_law_made" (tp 42) .none .none (zs "law_tiewebs_k80_tie_webs_again" 532) none (.ref 320) .none),#[]⟩,zt #[],z0,zt #[(zs "_law_state_here" 604),(zs "_law_some" 605)],zt #[],zg "_law_bad_web" "_law_bad_web" (tp 43),zc "_law_bad_web" "_law_bad_web" 601 143 1 0 0 3 (.ref 322) 181 (.ref 323) (.ref 324) (.ref 325) (.ref 326) 606 607,⟨.type "function",none,(zf "_law_bad_web" "_law_bad_web" (tp 43) .none .none (zs "law_tiewebs_k80_tie_webs_again" 532) none (.ref 327) .none),#[]⟩,zt #[],z0,zg "_law_same" "_law_same" (tp 44),zc "_law_same" "_law_same" 609 148 2 0 0 3 (.ref 329) 181 (.ref 330) .none .none (.ref 331) 612 613,⟨.type "function",none,(zf "_law_same" "_law_same" (tp 44) .none .none (zs "law_tiewebs_k80_tie_webs_again" 532) none (.ref 332) .none),#[]⟩,zt #[],z0,zg "_law_refused" "_law_refused" (tp 45),zc "_law_refused" "_law_refused" 615 156 1 0 0 3 (.ref 334) 181 (.ref 335) .none .none (.ref 336) 618 619,⟨.type "function",none,(zf "_law_refused" "_law_refused" (tp 45) .none .none (zs "law_tiewebs_k80_tie_webs_again" 532) none (.ref 337) .none),#[]⟩,zt #[],z0,zt #[(zs "_law_web_here" 624),(zs "_law_times" 625),(zs "_law_turn" 626)],zt #[],zg "_law_due" "_law_due" (tp 46),zc "_law_due" "_law_due" 621 171 2 0 0 3 (.ref 339) 181 (.ref 340) (.ref 341) (.ref 342) (.ref 343) 627 628,⟨.type "function",none,(zf "_law_due" "_law_due" (tp 46) .none .none (zs "law_tiewebs_k80_tie_webs_again" 532) none (.ref 344) .none),#[]⟩,zt #[],z0,zt #[(zs "_law_script" 633),(zs "_law_k" 634),(zs "_law_state_here" 635),(zs "_law_some" 636),(zs "_law_due_here" 637)],zt #[(zs "_law_bad" 638),(zs "_law_none" 639),(zs "_law_times" 640),(zs "_law_web_here" 641)],zg "law" "law" (tp 47),zc "law" "law" 630 177 1 0 0 3 (.ref 346) 181 (.ref 347) (.ref 348) (.ref 349) (.ref 350) 642 643,⟨.type "function",none,(zf "law" "law" (tp 47) .none .none (zs "law_tiewebs_k80_tie_webs_again" 532) none (.ref 351) .none),#[]⟩]
def Lb(P:Params):List Obj:=[boot_o_0 P,boot_o_1 P,boot_o_2 P,boot_o_3 P,boot_o_4 P,boot_o_5 P,boot_o_6 P,boot_o_7 P,boot_o_8 P,boot_o_9 P,boot_o_10 P,zt #[],z0,⟨(.type "code"),none,(.fields #[(zs "<module>" 182),(zs "<module>" 183),(zs "/claim/cut.py" 184),(.int 1 0),(.int 0 0),(.int 0 0),(.int 0 0),(.int 0 0),(.ref 11),(.bool false),(.int 181 0),(.ref 12),.none,.none,.none,.none,(.int 185 0),(.int 1 0),(zs "/claim/cut.py" 186)]),#[]⟩,zr 13 3 (zs "__main__" 164)]
def as0:List Addr:=[2,3,15,22,23,24,25,28,35,36,37,40,47,48,49,52,59,60,61,64,71,72,73,76,83,84,85,88,95,96,97,100,107,108,109,112,119,120,121,124,131,132,133,136,143,144,145,148,155,156,157,160,167,168,169,172,179,181,182,184,185,186,187,188,191,193,194,196,197,198,200,201,203,204,205,207,208,210,211,212,214,215,217,218,219,222,223,224,227,228,229,231,232,234,235,236,238,239,241,242,243,246,247,248,251,252,253,255,256,258,259,260,263,264,265,267,268,270,271,272,274,275,277,278,279,281,282,284,285,286,288,289,291,292,293,296,297,298,300,301,303,304,305,308,309,310,312,313,315,316,317,320,321,322,324,325,327,328,329,332,333,334,337,338,339,341,342,344,345,346,348,349,351,352]
def ts0:List Addr:=[347]
def vq:Program:={PySem.Challenge.pw_tiewebs_k80_tie_webs_again with main:={PySem.Challenge.pw_tiewebs_k80_tie_webs_again.main with body:=[tp 1,tp 2,tp 3,tp 4,tp 5,tp 6,tp 7,tp 8,tp 9,tp 10,tp 11,tp 12,tp 13,tp 14,tp 16,tp 17,tp 18,tp 19,tp 20,tp 21,tp 22,tp 23,tp 24,tp 25,tp 27,tp 28,tp 29,tp 30,tp 32,tp 33,tp 35,tp 36,tp 37,tp 38,tp 39,tp 40,tp 41,tp 42,tp 43,tp 44,tp 45,tp 46,tp 47]}}
def alt:Bool->List Obj->List Obj
 |_,[]=>[]
 |true,a::r=>a::alt false r
 |false,_::r=>alt true r
def toT:Nat->List Obj->BT
 |0,_=>.nil
 |_+1,[]=>.nil
 |f+1,o::r=>.node o (toT f (alt true r)) (toT f (alt false r))
def pick:Nat->List Addr->List Obj->PySem.W.Frag
 |i,as,o::os=>match as with
  |a::r=>if Nat.beq i a then (a,o)::pick (i+1) r os else pick (i+1) (a::r) os
  |[]=>[]
 |_,_,[]=>[]
def K0(P:Params):PySem.W.Frag:=pick 0 as0 (L1 P)
theorem as0_eq:∀ P,as0=(K0 P).map (·.1):=fun _=>by kernel_rfl
abbrev pw:Program:=PySem.Challenge.pw_tiewebs_k80_tie_webs_again
abbrev Xt0(s:Shared):Bool:=xlAt vq [] s && recOk (RowW.records (OpenRow.toRowW (OpenLaw.row PySem.Challenge.rw_tiewebs_k80_tie_webs_again))) s
def lf:Life:={}
def en:Env:={scope:=pw.main.scope,locals:=mainNs,globals:=mainNs,cells:=[],code:=(.ref 13),frame:=some 14}
abbrev cE:Code:=.body (behindTheImports pw) en
abbrev Bf:List Frame:=[topFrame ⟨0,0,0,0⟩]
abbrev S0(w:World)(os:OsState):Shared:=⟨boot_heap w.params,Array.mk [],boot_drawn,boot_toks,os⟩
abbrev Sb(w:World)(os:OsState):SharedT:=⟨toT 12 (Lb w.params),15,lf,Array.mk [],⟨0,0,0,0⟩,187,os⟩
abbrev Sm(w:World)(os:OsState):SharedT:=⟨toT 12 (L1 w.params),353,lf,Array.mk [],⟨0,0,0,0⟩,645,os⟩
abbrev Sf(w:World)(os:OsState):Shared:=⟨⟨Array.mk (L1 w.params),lf⟩,Array.mk [],⟨0,0,0,0⟩,645,os⟩
theorem Hd:∀ w,(fun os=>topGo treeTable pw w 11 (some (.ref 6)) 12 (S0 w os) (topStub pw))=fun os=>some ((Sb w os).abs,⟨denote treeTable cE,cE,⟨0,0,0,0⟩,Bf⟩):=fun w=>by kernel_rfl
theorem Du:∀ w,(fun os=>segRun treeTable pw w 11 (some (.ref 6)) 1 1 (Sb w os).abs (blockOf (behindTheImports pw) en cE ⟨0,0,0,0⟩ Bf))=fun os=>some (.next,(Sb w os).abs,cE,⟨0,0,0,0⟩):=fun w=>by kernel_rfl
theorem Fz:∀ w,(fun os=>segRunT treeTable pw w 11 (some (.ref 6)) 1 3819 (Sb w os) (piecesOf (behindTheImports pw) en cE ⟨0,0,0,0⟩ Bf))=fun os=>some (.next,Sm w os,cE,⟨177,0,196,15⟩):=fun w=>by kernel_rfl
theorem He:∀ w,(fun os=>topRun treeTable pw w 11 (some (.ref 6)) 2 (Sm w os).abs ⟨doneF .next,cE,⟨177,0,196,15⟩,Bf⟩)=fun os=>some (Sf w os):=fun w=>by kernel_rfl
theorem Hf(w:World)(os:OsState):topRun treeTable pw w 11 (some (.ref 6)) (12+(1+(3819+2))) (S0 w os) (topStub pw)=some (Sf w os):=
 go_top (Me (Hd w) os) (piece_block (Me (Du w) os) (by
  have:=piece_app (rest:=[]) (segRun_of (Me (Fz w) os)) (piece_nil (Me (He w) os))
  rw[JV]at this
  exact this))
theorem FA:∀ w:World,((boot_heap w.params).isNs mainGlobals && (Array.mk []:Array GenState).size==0,(boot_heap w.params).objs.size,(boot_heap w.params).nsMap mainGlobals "__annotations__")=(true,11,(some (.ref 6))):=fun w=>by kernel_rfl
theorem FB:∀ w os,(staticsOk (importedModules pw.main.body) (boot_heap w.params) (Sf w os).heap && namesBound pw (Sf w os).heap && gensDone (Sf w os) && laidKept (boot_heap w.params) (Sf w os).heap)=true:=fun w os=>by kernel_rfl
theorem Hg:∀ w os,(openSeen vq [] (importedModules pw.main.body) Xt0 true (Sf w os)).1=(openGood vq []).1:=fun w os=>by kernel_rfl
theorem Hh:∀ w os,(openSeen vq [] (importedModules pw.main.body) Xt0 true (Sf w os)).2.1=(openGood vq []).2.1:=fun w os=>by kernel_rfl
theorem Hi:∀ w os,(openSeen vq [] (importedModules pw.main.body) Xt0 true (Sf w os)).2.2.1=(openGood vq []).2.2.1:=fun w os=>by kernel_rfl
theorem Hj:∀ w os,(openSeen vq [] (importedModules pw.main.body) Xt0 true (Sf w os)).2.2.2.1=(openGood vq []).2.2.2.1:=fun w os=>by kernel_rfl
theorem Hk:∀ w os,(openSeen vq [] (importedModules pw.main.body) Xt0 true (Sf w os)).2.2.2.2.1=(openGood vq []).2.2.2.2.1:=fun w os=>by kernel_rfl
theorem Hl:∀ w os,(openSeen vq [] (importedModules pw.main.body) Xt0 true (Sf w os)).2.2.2.2.2.1=(openGood vq []).2.2.2.2.2.1:=fun w os=>by kernel_rfl
theorem Hm:∀ w os,(openSeen vq [] (importedModules pw.main.body) Xt0 true (Sf w os)).2.2.2.2.2.2.1=(openGood vq []).2.2.2.2.2.2.1:=fun w os=>by kernel_rfl
theorem Hn:∀ w os,(openSeen vq [] (importedModules pw.main.body) Xt0 true (Sf w os)).2.2.2.2.2.2.2.1=(openGood vq []).2.2.2.2.2.2.2.1:=fun w os=>by kernel_rfl
theorem Ho:∀ w os,(openSeen vq [] (importedModules pw.main.body) Xt0 true (Sf w os)).2.2.2.2.2.2.2.2=(openGood vq []).2.2.2.2.2.2.2.2:=fun w os=>by kernel_rfl
theorem FC:∀ w os,Hook.obs (kmHook K0 as0 as0_eq ts0) (Sf w os)=Hook.val (kmHook K0 as0 as0_eq ts0) w:=fun w os=>by kernel_rfl
theorem FD(w:World)(os:OsState):openSeen vq [] (importedModules pw.main.body) Xt0 true (Sf w os)=openGood vq []:=LZ (Hg w os) (LZ (Hh w os) (LZ (Hi w os) (LZ (Hj w os) (LZ (Hk w os) (LZ (Hl w os) (LZ (Hm w os) (LZ (Hn w os) (Ho w os))))))))
theorem left0:LeftO (OpenLaw.row PySem.Challenge.rw_tiewebs_k80_tie_webs_again).prog vq [] Xt0 (Hook.obs (kmHook K0 as0 as0_eq ts0)) (Hook.val (kmHook K0 as0 as0_eq ts0)) 7762:=
 LeftO.of_pieces (p:=pw) (H₀:=boot_heap) (H₁:=fun P=>⟨Array.mk (L1 P),lf⟩) (gs₀:=Array.mk []) (gs₁:=Array.mk []) (d₀:=boot_drawn) (d₁:=⟨0,0,0,0⟩) (k₀:=boot_toks) (k₁:=645) (M:=12+(1+(3819+2))) (boot_open (p:=pw) (by kernel_rfl) (by decide) (fun s=>by kernel_rfl)) FA Hf (by decide) fun w=>funext fun os=>LZ (FB w os) (LZ (FD w os) (FC w os))
end KH
section
namespace L2
open PySem PySem.Spec PyProof.Rows
abbrev Key:=Sum Int Str
def C9:Key->Value->Bool
 | .inl k,v=>Value.isInt k v
 | .inr x,v=>Value.isStrOf x v
def Hq(w:World):Key->Int
 | .inl k=>hashInt k
 | .inr x=>hashStr w x
theorem cx:∀{k:Key} {v:Value},C9 k v=true->(∃ i t,k=Sum.inl i/\v=Value.int i t)\/(∃ x t,k=Sum.inr x/\v=Value.str x t)
 | .inl i,v,h=>by
  obtain⟨t,e⟩:=Value.isInt_shape (k:=i) (v:=v) h
  exact .inl ⟨i,t,rfl,e⟩
 | .inr x,v,h=>by
  obtain⟨t,e⟩:=Value.isStrOf_shape (x:=x) (v:=v) h
  exact .inr ⟨x,t,rfl,e⟩
theorem Dv(a b:Int):decide ((Sum.inl a:Key)=Sum.inl b)=(a==b):=by
 by_cases e:a=b
 ·subst e;simp
 ·have h:¬ (Sum.inl a:Key)=Sum.inl b:=fun q=>e (Sum.inl.inj q)
  rw[JW h]
  exact(beq_eq_false_iff_ne.mpr e).symm
theorem Dw(a b:Str):decide ((Sum.inr a:Key)=Sum.inr b)=decide (a=b):=by
 by_cases e:a=b
 ·subst e;simp
 ·have h:¬ (Sum.inr a:Key)=Sum.inr b:=fun q=>e (Sum.inr.inj q)
  rw[JW h,JW e]
theorem Dx(a:Int)(b:Str):decide ((Sum.inl a:Key)=Sum.inr b)=false:=JW (fun q=>nomatch q)
theorem Dy(a:Str)(b:Int):decide ((Sum.inr a:Key)=Sum.inl b)=false:=JW (fun q=>nomatch q)
def vR(prog:Program)(w:World):PySem.KeyKind prog w Key where
 is:=C9
 hash:=Hq w
 inj:=fun v a b ha hb=>by
  rcases cx ha with⟨i,t,rfl,rfl⟩|⟨x,t,rfl,rfl⟩
  ·rcases cx hb with⟨j,u,rfl,e⟩|⟨y,u,rfl,e⟩
   ·injection e with e1 _;rw[e1]
   ·exact nomatch e
  ·rcases cx hb with⟨j,u,rfl,e⟩|⟨y,u,rfl,e⟩
   ·exact nomatch e
   ·injection e with e1 _;rw[e1]
 byValue:=fun k v h=>by
  rcases cx h with⟨i,t,rfl,rfl⟩|⟨x,t,rfl,rfl⟩<;>rfl
 pyHash:=fun hv h=>by
  rcases cx hv with⟨i,t,rfl,rfl⟩|⟨x,t,rfl,rfl⟩
  ·exact wpAny_pyHash_int h
  ·exact wpAny_pyHash_str h
 eqBool:=fun hu hv h=>by
  rcases cx hu with⟨i,t,rfl,rfl⟩|⟨x,t,rfl,rfl⟩
  ·rcases cx hv with⟨j,u,rfl,rfl⟩|⟨y,u,rfl,rfl⟩
   ·rw[Dv]at h;exact MO h
   ·rw[Dx]at h;exact SeqAt.EqAt.int_str i t y u _ _ _ _ h
  ·rcases cx hv with⟨j,u,rfl,rfl⟩|⟨y,u,rfl,rfl⟩
   ·rw[Dy]at h;exact SeqAt.EqAt.str_int x t j u _ _ _ _ h
   ·rw[Dw]at h;exact wpAny_eqBool_str h
 «strs»:=fun k x t v h=>by
  rcases cx h with⟨i,u,rfl,e⟩|⟨y,u,rfl,e⟩
  ·exact nomatch e
  ·injection e with e1 _
   subst e1
   cases v<;>rfl
end L2
namespace L2
open PySem PySem.Spec PyProof.Rows
inductive V where
 |non|bl (b:Bool)|int (i:Int)|str (x:Str)|byt (b:Array UInt8)|flt (b:UInt64)|ref (a:Addr)|ty (n:String)
 deriving DecidableEq
def RelV:V->Value->Prop
 | .non,u=>u=Value.none
 | .bl b,u=>u=Value.bool b
 | .int i,u=>∃ t,u=Value.int i t
 | .str x,u=>∃ t,u=Value.str x t
 | .byt b,u=>∃ t,u=Value.bytes b t
 | .flt b,u=>∃ t,u=Value.float b t
 | .ref a,u=>u=Value.ref a
 | .ty n,u=>u=Value.type n
abbrev aZ:List V->List Value->Prop:=Paired RelV
theorem aZ.length{xs:List V}{us:List Value}(r:aZ xs us):xs.length=us.length:=Paired.length r
theorem aZ.get:∀{xs:List V} {us:List Value} {i:Nat} {x:V},aZ xs us->xs[i]? =some x->∃ u,us[i]? =some u/\RelV x u
 |_,_,_,_,.nil,e=>by simp at e
 |_,_,0,_,.cons r _,e=>by simp at e;subst e;exact⟨_,rfl,r⟩
 |_,_,i+1,x,.cons _ t,e=>by
  obtain⟨u,h1,h2⟩:=aZ.get (i:=i) (x:=x) t (by simpa using e)
  exact⟨u,by simpa using h1,h2⟩
theorem aZ.set{x:V}{u:Value}(r:RelV x u):∀{xs:List V} {us:List Value} (i:Nat),aZ xs us->aZ (xs.set i x) (us.set i u)
 |_,_,_,.nil=>.nil
 |_,_,0,.cons _ t=>.cons r t
 |_,_,i+1,.cons q t=>.cons q (aZ.set r i t)
theorem aZ.append:∀{xs ys:List V} {us ws:List Value},aZ xs us->aZ ys ws->aZ (xs++ys) (us++ws)
 |_,_,_,_,.nil,s=>s
 |_,_,_,_,.cons r t,s=>.cons r (aZ.append t s)
theorem aZ.take:∀{xs:List V} {us:List Value} (n:Nat),aZ xs us->aZ (xs.take n) (us.take n)
 |_,_,0,_=>.nil
 |_,_,_+1,.nil=>.nil
 |_,_,n+1,.cons r t=>.cons r (aZ.take n t)
theorem aZ.drop:∀{xs:List V} {us:List Value} (n:Nat),aZ xs us->aZ (xs.drop n) (us.drop n)
 |_,_,0,r=>r
 |_,_,_+1,.nil=>.nil
 |_,_,n+1,.cons _ t=>aZ.drop n t
def qz:Option V->Option Value->Prop
 |some v,some u=>RelV v u
 |none,none=>True
 |_,_=>False
def KV{κ:Type}:List (κ×V)->List (κ×Value)->Prop:=Paired fun(p:κ×V) (q:κ×Value)=>p.1=q.1/\RelV p.2 q.2
def kV:Key->V
 | .inl i=>.int i
 | .inr x=>.str x
inductive HO where
 |lst (xs:List V)
 |tup (xs:List V)
 |dK (kvs:List (Key×V))|dT (kvs:List (List Key×V))
 |set (S:Int->Bool) (n:Nat)
 |ins (C dx:Addr) (fs:List (Str×V))
 |own (x:Addr)
 |xd (fs:List (Str×V))
 |met (f x:Addr)
 |rng (lo hi:Int)
 |frz (o:Obj) (u:HO)
 |tbl (ps:Array Value)
 |ext (φ:Heap->Prop)
abbrev Hp:=Addr->Option HO
def upd(H:Hp)(a:Addr)(o:HO):Hp:=fun b=>if b=a then some o else H b
theorem aL{H:Hp}{a:Addr}{o:HO}:upd H a o a=some o:=by unfold upd;rw[if_pos rfl]
theorem aA{H:Hp}{a b:Addr}{o:HO}(h:b≠a):upd H a o b=H b:=by unfold upd;rw[if_neg h]
theorem qA{H:Hp}{a:Addr}{o u:HO}:upd (upd H a o) a u=upd H a u:=by
 funext b;unfold upd;split<;>rfl
theorem aF{H:Hp}{a b:Addr}{o:HO}(h:H a=some o)(h':H b=none):a≠b:=by
 intro e;subst e;rw[h]at h';cases h'
section
variable (P:Program)(w:World)
def aY(H:Hp)(h:Heap)(a:Addr):HO->Prop
 | .lst xs=>xs.length<=sizeLine/\∃(its:List Value) (n:Nat),aZ xs its/\h.get? a=some {cls:=.type "list",data:=.seq its.toArray n}
 | .tup xs=>xs.length<=sizeLine/\∃ its:List Value,aZ xs its/\IsTup h a its.toArray
 | .dK kvs=>kvs.length<=sizeLine/\(a==sysModules)=false/\∃ vs,KV kvs vs/\h.DictOf (vR P w) a vs
 | .dT kvs=>kvs.length<=sizeLine/\(a==sysModules)=false/\∃ xs:List (List Key×Addr×Value),
   Paired (fun(p:List Key×V) (q:List Key×Addr×Value)=>p.1=q.1/\H q.2.1=some (.tup (p.1.map kV))/\RelV p.2 q.2.2) kvs xs/\
   ∃ o es ep,h.get? a=some o/\o.ExactDict/\o.data= .dict es ep/\es.toList=xs.map (entryOfKey (tupleKind (vR P w)))/\(xs.map (·.1)).Nodup
 | .set S n=>h.SetOf (intKind P w) a S n
 | .ins C dx fs=>H dx=some (.own a)/\fs.length<=1000/\dx≠a/\h.get? a=some (PySem.W.instObj C dx)/\
   ∃ mA,h.Ns1 dx mA/\(∀ f,qz (fs.lookup f) (mA f))/\PySem.Within mA (fs.map (·.1))
 | .own _=>∃ o,h.get? a=some o
 | .xd fs=>∃ mA,h.Ns1 a mA/\∀ f,qz (fs.lookup f) (mA f)
 | .rng lo hi=>∃ t u v,h.get? a=some {cls:=.type "range",data:=.fields #[.int lo t,.int hi u,.int 1 v]}
 | .frz o u=>h.get? a=some o/\aY H h a u
 | .tbl ps=>h.get? a=some {cls:=.none,data:=.fields ps}
 | .met f x=>h.get? a=some (PySem.W.methodObj (.ref f) (.ref x))
 | .ext φ=>φ h/\(∃ o,h.get? a=some o)/\∀ h1 h2:Heap,φ h1->(∀ o,h1.get? a=some o->h2.get? a=some o)->φ h2
def eU(H:Hp)(h:Heap):Prop:=∀ a o,H a=some o->aY P w H h a o
end
section
variable {P:Program}{w:World}{H H':Hp}{h h':Heap}{a:Addr}{o:HO}
theorem aY.lt(x:aY P w H h a o):a<h.objs.size:=by
 cases o with
 |lst xs=>obtain⟨_,_,_,_,e⟩:=x;exact Jm e
 |tup xs=>obtain⟨_,_,_,p⟩:=x;exact p.lt
 |dK kvs=>obtain⟨_,_,_,_,o,_,_,e,_⟩:=x;exact Jm e
 |dT kvs=>obtain⟨_,_,_,_,o,_,_,e,_⟩:=x;exact Jm e
 |set S n=>obtain⟨o,_,_,_,e,_⟩:=x;exact Jm e
 |ins C dx fs=>obtain⟨_,_,_,e,_⟩:=x;exact Jm e
 |own y=>obtain⟨_,e⟩:=x;exact Jm e
 |xd fs=>obtain⟨_,⟨_,_,_,e,_⟩,_⟩:=x;exact Jm e
 |rng lo hi=>obtain⟨_,_,_,e⟩:=x;exact Jm e
 |frz ob u=>obtain⟨e,_⟩:=x;exact Jm e
 |tbl ps=>exact Jm (show h.get? a=some _ from x)
 |met f y=>exact Jm (show h.get? a=some _ from x)
 |ext φ=>obtain⟨_,⟨_,e⟩,_⟩:=x;exact Jm e
theorem Paired.mapP{α β:Type}{F G:α->β->Prop}:∀{l₁:List α} {l₂:List β},Paired F l₁ l₂->(∀ a b,F a b->G a b)->Paired G l₁ l₂
 |_,_,.nil,_=>.nil
 |_,_,.cons r t,f=>.cons (f _ _ r) (Paired.mapP t f)
theorem aY.stay(x:aY P w H h a o)(k:∀ b u,(b=a\/H b=some (.own a))->h.get? b=some u->h'.get? b=some u)
  (ho:∀ b,H b=some (.own a)->H' b=some (.own a)) (ht:∀ b xs,H b=some (.tup xs)->H' b=some (.tup xs)):aY P w H' h' a o:=by
 induction o with
 |lst xs=>obtain⟨z,its,n,r,e⟩:=x;exact⟨z,its,n,r,k _ _ (.inl rfl) e⟩
 |tup xs=>obtain⟨z,its,r,ob,e,c⟩:=x;exact⟨z,its,r,ob,k _ _ (.inl rfl) e,c⟩
 |dK kvs=>obtain⟨z,y,vs,r,ob,es,ep,e,c⟩:=x;exact⟨z,y,vs,r,ob,es,ep,k _ _ (.inl rfl) e,c⟩
 |dT kvs=>
  obtain⟨z,y,xs,r,ob,es,ep,e,c⟩:=x
  exact⟨z,y,xs,Paired.mapP r fun p q z=>⟨z.1,ht _ _ z.2.1,z.2.2⟩,ob,es,ep,k _ _ (.inl rfl) e,c⟩
 |set S n=>obtain⟨ob,es,ep,t,e,c⟩:=x;exact⟨ob,es,ep,t,k _ _ (.inl rfl) e,c⟩
 |ins C dx fs=>
  obtain⟨d,z,ne,e,mA,⟨od,es,ep,e2,c⟩,r⟩:=x
  exact⟨ho _ d,z,ne,k _ _ (.inl rfl) e,mA,⟨od,es,ep,k _ _ (.inr d) e2,c⟩,r⟩
 |own y=>obtain⟨ob,e⟩:=x;exact⟨ob,k _ _ (.inl rfl) e⟩
 |xd fs=>obtain⟨mA,⟨od,es,ep,e,c⟩,r⟩:=x;exact⟨mA,⟨od,es,ep,k _ _ (.inl rfl) e,c⟩,r⟩
 |rng lo hi=>obtain⟨t,u,v,e⟩:=x;exact⟨t,u,v,k _ _ (.inl rfl) e⟩
 |frz ob u ih=>obtain⟨e,q⟩:=x;exact⟨k _ _ (.inl rfl) e,ih q⟩
 |tbl ps=>
  have e:h.get? a=some {cls:=.none,data:=.fields ps}:=x
  show h'.get? a=some {cls:=.none,data:=.fields ps}
  exact k a _ (.inl rfl) e
 |met f y=>
  have e:h.get? a=some (PySem.W.methodObj (.ref f) (.ref y)):=x
  show h'.get? a=some (PySem.W.methodObj (.ref f) (.ref y))
  exact k a _ (.inl rfl) e
 |ext φ=>obtain⟨p,⟨o,e⟩,st⟩:=x;exact⟨st _ _ p fun o q=>k _ _ (.inl rfl) q,⟨o,k _ _ (.inl rfl) e⟩,st⟩
theorem eU.lt(x:eU P w H h)(e:H a=some o):a<h.objs.size:=(x a o e).lt
theorem eU.fresh(x:eU P w H h)(e:h.objs.size<=a):H a=none:=by
 cases q:H a with
 |none=>rfl
 |some u=>exact absurd (Jx (x.lt q) e) (KB _)
theorem eU.kept(x:eU P w H h)(k:∀ b u,h.get? b=some u->h'.get? b=some u):eU P w H h':=fun a o e=>
 (x a o e).stay (fun b u _ q=>k b u q) (fun _ q=>q) fun _ _ q=>q
theorem eU.laid(x:eU P w H h)(k:∀ b u,h.get? b=some u->h'.get? b=some u)(hp:h.objs.size<=a)(new:aY P w (upd H a o) h' a o):eU P w (upd H a o) h':=fun b u e=>by
 have hn:=x.fresh hp
 by_cases hb:b=a
 ·subst hb;rw[aL]at e;cases e;exact new
 ·rw[aA hb]at e
  exact(x b u e).stay (fun c v _ q=>k c v q) (fun c q=>by rw[aA (aF q hn)];exact q) fun c xs q=>by rw[aA (aF q hn)];exact q
end
def Rd(H:Hp)(a:Addr)(u:HO):Prop:=H a=some u\/∃ o,H a=some (.frz o u)
theorem Rd.ok{P:Program}{w:World}{H:Hp}{h:Heap}{a:Addr}{u:HO}(r:Rd H a u)(x:eU P w H h):aY P w H h a u:=by
 rcases r with r|⟨o,r⟩
 ·exact x a u r
 ·obtain⟨_,q⟩:=x a _ r
  exact q
def GY:Option HO->Prop
 |some (.lst _)=>True
 |some (.dK _)=>True
 |some (.dT _)=>True
 |some (.set _ _)=>True
 |some (.ins _ _ _)=>True
 |some (.ext _)=>True
 |_=>False
section
variable {P:Program}{w:World}{H:Hp}{h h':Heap}{x e:Addr}{o':HO}
theorem eU.write(ok:eU P w H h)(mu:GY (H x))(he:e=x\/H e=some (.own x))(k:∀ b u,b≠e->h.get? b=some u->h'.get? b=some u)(heo:∃ u,h'.get? e=some u)
  (new:aY P w (upd H x o') h' x o'):eU P w (upd H x o') h':=fun b u q=>by
 have nown:∀ c y,H c=some (.own y)->c≠x:=fun c y r z=>by subst z;rw[r]at mu;exact mu
 have ntup:∀ c xs,H c=some (.tup xs)->c≠x:=fun c xs r z=>by subst z;rw[r]at mu;exact mu
 by_cases hb:b=x
 ·subst hb;rw[aL]at q;cases q;exact new
 ·rw[aA hb]at q
  by_cases hbe:b=e
  ·have q':H b=some (.own x):=by
    rcases he with z|z
    ·exact absurd (hbe.trans z) hb
    ·rw[hbe];exact z
   rw[q]at q';cases q'
   obtain⟨v,hv⟩:=heo
   exact⟨v,by rw[hbe];exact hv⟩
  ·refine(ok b u q).stay (fun c v hc r=>k c v ?_ r) (fun c r=>by rw[aA (nown c b r)];exact r) fun c xs r=>by rw[aA (ntup c xs r)];exact r
   rcases hc with rfl|hc
   ·exact hbe
   ·rintro rfl
    rcases he with z|z
    ·exact nown c b hc z
    ·rw[hc]at z;cases z;exact hb rfl
end
structure Un(fs ex:List Addr)(H H':Hp)(h h':Heap):Prop where
 keep:∀ b o,h.get? b=some o->H b=none->b ∉ fs->b ∉ ex->h'.get? b=some o
 slot:∀ b o,h.get? b=some o->H b=none->b∈fs->b ∉ ex->∃ sl,h'.get? b=some {o with slots:=sl}
 free:∀ b o,h.get? b=some o->H b=none->b ∉ ex->H' b=none
 there:∀ b o,h.get? b=some o->b ∉ ex->∃ o',h'.get? b=some o'
 tups:∀ b xs,H b=some (.tup xs)->H' b=some (.tup xs)
 frzs:∀ b o u,H b=some (.frz o u)->H' b=some (.frz o u)
 tbls:∀ b ps,H b=some (.tbl ps)->∃ more,H' b=some (.tbl (ps++more))
section
variable {fs fs' ex ex':List Addr}{H H1 H2:Hp}{h h1 h2 h':Heap}{a x e:Addr}{o:HO}
theorem Un.any(u:Un fs ex H H1 h h1){b:Addr}{ob:Obj}(q:h.get? b=some ob)(n:H b=none)(hx:b ∉ ex):∃ sl,h1.get? b=some {ob with slots:=sl}:=by
 by_cases hb:b∈fs
 ·exact u.slot b ob q n hb hx
 ·exact⟨ob.slots,u.keep b ob q n hb hx⟩
theorem Un.kept(k:∀ b u,h.get? b=some u->h'.get? b=some u):Un fs ex H H h h':=
 ⟨fun b ob q _ _ _=>k b ob q,fun b ob q _ _ _=>⟨ob.slots,k b ob q⟩,fun _ _ _ n _=>n,fun b ob q _=>⟨ob,k b ob q⟩,fun _ _ q=>q,fun _ _ _ q=>q,fun _ ps q=>⟨#[],by rw[q];simp⟩⟩
theorem Un.refl:Un fs ex H H h h:=Un.kept fun _ _ q=>q
theorem Un.laid(k:∀ b u,h.get? b=some u->h'.get? b=some u)(hp:h.objs.size<=a)(hn:H a=none):Un fs ex H (upd H a o) h h' where
 keep:=fun b u q _ _ _=>k b u q
 slot:=fun b u q _ _ _=>⟨u.slots,k b u q⟩
 free:=fun b u q n _=>by rw[aA (Jv (Jx (Jm q) hp))];exact n
 there:=fun b u q _=>⟨u,k b u q⟩
 tups:=fun b xs q=>by rw[aA (aF q hn)];exact q
 frzs:=fun b u xs q=>by rw[aA (aF q hn)];exact q
 tbls:=fun b ps q=>⟨#[],by rw[aA (aF q hn),q];simp⟩
theorem Un.write(mu:GY (H x))(he:e=x\/H e=some (.own x))(k:∀ b u,b≠e->h.get? b=some u->h'.get? b=some u)(heo:∃ u,h'.get? e=some u):Un fs ex H (upd H x o) h h':=by
 have hx:∀ b,H b=none->b≠x:=fun b n z=>by subst z;rw[n]at mu;exact mu
 have hb:∀ b,H b=none->b≠e:=fun b n z=>by
  subst z
  rcases he with r|r
  ·exact hx b n r
  ·rw[n]at r;cases r
 have hm:∀ b u,H b=some u->¬ GY (some u)->b≠x:=fun b u q nm z=>by subst z;rw[q]at mu;exact nm mu
 refine⟨fun b u q n _ _=>k b u (hb b n) q,fun b u q n _ _=>⟨u.slots,k b u (hb b n) q⟩,fun b u q n _=>by rw[aA (hx b n)];exact n,fun b u q _=>?_,
  fun b xs q=>by rw[aA (hm b _ q fun z=>z)];exact q,fun b u xs q=>by rw[aA (hm b _ q fun z=>z)];exact q,fun b ps q=>⟨#[],by rw[aA (hm b _ q fun z=>z),q];simp⟩⟩
 by_cases hbe:b=e
 ·subst hbe;exact heo
 ·exact⟨u,k b u hbe q⟩
end
def GZ(h:Heap)(H:Hp):List Addr:=(List.range h.objs.size).filter fun a=>(H a).isSome
def jR(h:Heap)(H:Hp):Heap:=PySem.W.hideAll h (GZ h H)
theorem lu(h:Heap)(H:Hp):(jR h H).objs.size=h.objs.size:=PySem.W.hideAll_size _ _
theorem ky{h:Heap}{H:Hp}{b:Addr}{o:Obj}(e:h.get? b=some o)(n:H b=none):(jR h H).get? b=some o:=
 PySem.W.hideAll_get _ e fun hm=>by
  have q:(H b).isSome=true:=(List.mem_filter.mp hm).2
  rw[n]at q;simp at q
theorem qB{h:Heap}{H:Hp}{b:Addr}{o:Obj}(e:(jR h H).get? b=some o):h.get? b=some o/\H b=none:=by
 have e':h.get? b=some o:=PySem.W.of_hideAll (GZ h H) e
 refine⟨e',?_⟩
 cases q:H b with
 |none=>rfl
 |some x=>
  have hm:b∈GZ h H:=List.mem_filter.mpr ⟨JG.mpr (Jm e'),by simp[q]⟩
  have z:(jR h H).get? b=none:=PySem.W.hideAll_none (GZ h H) hm
  rw[z]at e;cases e
def kz(g h:Heap)(L:Addr):List (Addr×Obj):=(List.range h.objs.size).filterMap fun a=>if a=L\/(g.get? a).isSome=true then none else (h.get? a).map fun o=>(a,o)
theorem so{g h:Heap}{L a:Addr}{o:Obj}(h1:a≠L)(h2:g.get? a=none)(h3:h.get? a=some o):(a,o)∈kz g h L:=
 Kw.mpr ⟨a,JG.mpr (Jm h3),by simp[h1,h2,h3]⟩
theorem m5{g h:Heap}{L:Addr}{p:Addr×Obj}(hp:p∈kz g h L):p.1≠L/\g.get? p.1=none/\h.get? p.1=some p.2:=by
 obtain⟨b,_,e⟩:=Kw.mp hp
 split at e
 ·cases e
 ·rename_i hn
  cases q:h.get? b with
  |none=>rw[q]at e;simp at e
  |some u=>
   rw[q]at e
   simp only[Option.map_some,Option.some.injEq]at e
   subst e
   refine⟨fun z=>hn (.inl z),?_,q⟩
   show g.get? b=none
   cases r:g.get? b with
   |none=>rfl
   |some v=>exact(hn (.inr (by simp[r]))).elim
def rest(g h:Heap)(L d:Addr):List (Addr×Obj):=(kz g h L).filter fun p=>decide (p.1≠d)
theorem m6{g h:Heap}{L:Addr}:News g L h (kz g h L):=fun p hp=>let ⟨a,b,c⟩:=m5 hp;⟨c,a,b⟩
end L2
namespace L2
open PySem PySem.Spec PyProof.Rows
structure Mod(K:PySem.W.Frag)(mg:Str->Option Value)(base:Heap):Prop where
 kin:K.In base
 glob:base.Ns mainGlobals mg
 blt:∃ mb,base.Ns builtinsNs mb/\∀ x:Str,x≠"__name__"->mb x=bootBuiltins x
 nolimit:base.NoLimit
structure Cx where
 prog:Program
 w:World
 K:PySem.W.Frag
 mg:Str->Option Value
 base:Heap
 A:Around
 N:List Str
 s₀:Shared
 H₀:Hp
 env:Env
 outer:List Env
 stack:List Env
 ex:List Addr
 fn:Str->Bool
 calm:Bool
 pn:List (Addr×Obj)
 xe:Value->Shared->Prop
def ja(l:List Env):List Addr:=l.filterMap (·.frame)
abbrev Cx.fs(X:Cx):List Addr:=ja X.outer
def yK(sc:Scope)(x:Str):Prop:=sc.names.lookup x=some .local\/sc.names.lookup x=some .cell\/sc.names.lookup x=some .free
def Loc(sc:Scope)(x:Str):Prop:=sc.names.lookup x=some .local\/sc.names.lookup x=some .cell
def Look(env:Env)(h:Heap)(m:Str->Option Value)(x:Str)(u:Value):Prop:=
 (env.kindOf x=some .local/\m x=some u)\/((env.kindOf x=some .cell\/env.kindOf x=some .free)/\∃ c,env.cells.lookup x=some c/\h.IsCell c (some u))
structure Cx.Ok(X:Cx):Prop where
 mod:Mod X.K X.mg X.base
 kind:X.env.scope.kind= .function
 glob:X.env.globals=mainGlobals
 blt:X.env.builtins=builtinsNs
 above:X.s₀.heap.objs.size<=X.env.locals
 inj:∀ x y c,X.env.cells.lookup x=some c->X.env.cells.lookup y=some c->x=y
 has:∀ x,(X.env.kindOf x=some .cell\/X.env.kindOf x=some .free)->∃ c,X.env.cells.lookup x=some c
 cab:∀ x c,X.fn x=true->X.env.cells.lookup x=some c->X.s₀.heap.objs.size<=c
 hd:X.calm=true->X.A.handled=none
 frames:X.A.frames=some X.stack
 stk:X.stack=X.outer\/(X.stack=X.env::X.outer/\X.env.frame=some X.env.locals)
 exf:∀ b∈X.ex,b≠X.env.locals/\∀ x c,X.env.cells.lookup x=some c->c≠b
 bs:∀ b o,X.base.get? b=some o->X.s₀.heap.get? b=some o/\X.H₀ b=none
 bsz:X.base.objs.size<=X.s₀.heap.objs.size
 noex:∀ b o,X.base.get? b=some o->b ∉ X.ex
 exfs:∀ b∈X.ex,b ∉ X.fs
 funs:X.s₀.heap.FunFrames X.base X.outer
 frf:∀ b∈X.fs,X.H₀ b=none
structure Inv(X:Cx)(pins:List (Addr×Obj))(σ:List (Option V))(H:Hp)(s:Shared):Prop where
 ok:X.Ok
 os:s.os=X.s₀.os
 bare:AllBare s.gens
 base:Un X.fs X.ex X.H₀ H X.s₀.heap s.heap
 loc:∃ m,s.heap.Ns X.env.locals m/\∀(i:Nat) (x:Str) (v:V),X.N[i]? =some x->σ[i]? =some (some v)->yK X.env.scope x->∃ u,RelV v u/\Look X.env s.heap m x u
 cell:∀ x c,X.env.cells.lookup x=some c->∃ v,s.heap.IsCell c v
 free:H X.env.locals=none
 freeC:∀ x c,X.env.cells.lookup x=some c->H c=none
 pin:∀ p∈X.pn++pins,s.heap.get? p.1=some p.2/\H p.1=none/\p.1≠X.env.locals/\p.1 ∉ X.fs/\∀ v,p.2.data≠ .cell v
 hok:eU X.prog X.w H s.heap
 len:σ.length=X.N.length
section
variable {X:Cx}{pins:List (Addr×Obj)}{σ:List (Option V)}{H H':Hp}{s:Shared}{h':Heap}
theorem Cx.Ok.nofr(ok:X.Ok){b:Addr}{o:Obj}(e:X.base.get? b=some o):b ∉ X.fs:=fun hb=>by
 have:=(ok.funs.mem hb).1
 rw[e]at this;cases this
theorem Inv.bs(I:Inv X pins σ H s):∀ b o,X.base.get? b=some o->s.heap.get? b=some o/\H b=none:=fun b o e=>
 ⟨I.base.keep b o (I.ok.bs b o e).1 (I.ok.bs b o e).2 (I.ok.nofr e) (I.ok.noex b o e),I.base.free b o (I.ok.bs b o e).1 (I.ok.bs b o e).2 (I.ok.noex b o e)⟩
theorem Inv.bk(I:Inv X pins σ H s):∀ b o,X.base.get? b=some o->s.heap.get? b=some o:=fun b o e=>(I.bs b o e).1
theorem Inv.mod(I:Inv X pins σ H s):Mod X.K X.mg X.base:=I.ok.mod
theorem Inv.kIn(I:Inv X pins σ H s):X.K.In s.heap:=I.ok.mod.kin.keeps I.bk
theorem Inv.fr(I:Inv X pins σ H s):∃ m,Fr X.base X.env.locals s.heap m:=
 let ⟨m,hn,_⟩:=I.loc
 ⟨m,hn,I.bk,Ju I.ok.bsz I.ok.above⟩
theorem Inv.lt(I:Inv X pins σ H s):X.env.locals<s.heap.objs.size:=let ⟨_,hn,_⟩:=I.loc;hn.lt
theorem Inv.sz(I:Inv X pins σ H s):X.s₀.heap.objs.size<=s.heap.objs.size:=Ju I.ok.above (Kl I.lt)
theorem Inv.nofs(I:Inv X pins σ H s){a:Addr}(h:s.heap.objs.size<=a):a ∉ X.fs:=fun hb=>by
 obtain⟨_,o,ho,_⟩:=I.ok.funs.mem hb
 exact absurd (Jx (Jm ho) (Ju I.sz h)) (KB _)
theorem Inv.cne(I:Inv X pins σ H s):∀ x c,X.env.cells.lookup x=some c->c≠X.env.locals:=fun x c e z=>by
 obtain⟨v,o,ho,hd⟩:=I.cell x c e
 obtain⟨m,⟨o',es,ep,ho',hd',_⟩,_⟩:=I.loc
 rw[z,ho']at ho;cases ho;rw[hd']at hd;cases hd
theorem Inv.funs(I:Inv X pins σ H s):s.heap.FunFrames X.base X.outer:=by
 have all:∀(l:List Env),(∀ b∈ja l,b∈X.fs)->X.s₀.heap.FunFrames X.base l->s.heap.FunFrames X.base l:=by
  intro l
  induction l with
  |nil=>intro _ _;trivial
  |cons env r ih=>
   intro hs hl
   obtain⟨hk,⟨L,o,hf,hn,ho,hd⟩,hr⟩:=hl
   have hL:L∈X.fs:=hs L (by unfold ja;rw[J1,hf];exact Jy)
   obtain⟨sl,e⟩:=I.base.slot L o ho (I.ok.frf L hL) hL fun z=>I.ok.exfs L z hL
   exact⟨hk,⟨L,_,hf,hn,e,hd⟩,ih (fun b hb=>hs b (by unfold ja;rw[J1,hf];exact Jr _ hb)) hr⟩
 exact all X.outer (fun _ hb=>hb) I.ok.funs
theorem Inv.stack(I:Inv X pins σ H s):s.heap.FunFrames X.base X.stack:=by
 rcases I.ok.stk with e|⟨e,hf⟩
 ·rw[e];exact I.funs
 ·rw[e]
  obtain⟨m,hn,_⟩:=I.loc
  refine .cons (by rw[I.ok.kind];decide) hf hn ?_ I.funs
  exact J5 (Ju I.ok.bsz I.ok.above)
theorem Inv.stkSub(I:Inv X pins σ H s):∀ b∈ja X.stack,b∈X.env.locals::X.fs:=fun b hb=>by
 rcases I.ok.stk with e|⟨e,hf⟩
 ·rw[e]at hb;exact Jr _ hb
 ·rw[e]at hb
  unfold ja at hb
  rw[J1,hf]at hb
  exact hb
theorem Inv.stkFree(I:Inv X pins σ H s):∀ b∈ja X.stack,H b=none:=fun b hb=>by
 rcases JC.mp (I.stkSub b hb)with e|hb
 ·rw[e];exact I.free
 ·obtain⟨_,o,ho,_⟩:=I.ok.funs.mem hb
  exact I.base.free b o ho (I.ok.frf b hb) fun z=>I.ok.exfs b z hb
theorem Inv.step{g':Array GenState}{t':Nat}{d':Drawn}{ch:List Addr}(I:Inv X pins σ H s)
  (hch:∀ b∈ch,(b∈X.ex\/X.s₀.heap.objs.size<=b)/\b≠X.env.locals/\(∀ x c,X.env.cells.lookup x=some c->c≠b)/\∀ p∈X.pn++pins,p.1≠b)
  (keep:∀ b o,b≠X.env.locals->b ∉ X.fs->b ∉ ch->s.heap.get? b=some o->H b=none->h'.get? b=some o)
  (slot:∀ b o,b≠X.env.locals->b∈X.fs->b ∉ ch->s.heap.get? b=some o->H b=none->∃ sl,h'.get? b=some {o with slots:=sl}) (free:∀ b o,b ∉ ch->s.heap.get? b=some o->H b=none->H' b=none)
  (there:∀ b o,b ∉ ch->s.heap.get? b=some o->∃ o',h'.get? b=some o')
  (tups:∀ b xs,H b=some (.tup xs)->H' b=some (.tup xs)) (frzs:∀ b o u,H b=some (.frz o u)->H' b=some (.frz o u)) (tbls:∀ b ps,H b=some (.tbl ps)->∃ more,H' b=some (.tbl (ps++more)))
  (ns:∀ m,s.heap.Ns X.env.locals m->h'.Ns X.env.locals m) (hok:eU X.prog X.w H' h') (hg:AllBare g'):
  Inv X pins σ H' {s with heap:=h',gens:=g',drawn:=d',toks:=t'}:=by
 have neL:∀ b o,X.s₀.heap.get? b=some o->b≠X.env.locals:=fun b o e=>Jv (Jx (Jm e) I.ok.above)
 have neC:∀ b o,X.s₀.heap.get? b=some o->b ∉ X.ex->b ∉ ch:=fun b o e hx hb=>by
  rcases (hch b hb).1 with z|z
  ·exact hx z
  ·exact absurd (Jx (Jm e) z) (KB _)
 have cellK:∀ x c,X.env.cells.lookup x=some c->∀ v,s.heap.IsCell c v->h'.IsCell c v:=fun x c e v ⟨o,ho,hd⟩=>by
  have nch:c ∉ ch:=fun z=>(hch c z).2.2.1 x c e rfl
  by_cases hc:c∈X.fs
  ·obtain⟨sl,q⟩:=slot c o (I.cne x c e) hc nch ho (I.freeC x c e)
   exact⟨_,q,hd⟩
  ·exact⟨o,keep c o (I.cne x c e) hc nch ho (I.freeC x c e),hd⟩
 refine⟨I.ok,I.os,hg,⟨fun b o e n hb hx=>?_,fun b o e n hb hx=>?_,fun b o e n hx=>?_,fun b o e hx=>?_,fun b xs e=>tups b xs (I.base.tups b xs e),fun b o xs e=>frzs b o xs (I.base.frzs b o xs e),fun b ps e=>?_⟩,?_,fun x c e=>?_,?_,fun x c e=>?_,fun p hp=>?_,hok,I.len⟩
 ·exact keep b o (neL b o e) hb (neC b o e hx) (I.base.keep b o e n hb hx) (I.base.free b o e n hx)
 ·obtain⟨sl,e1⟩:=I.base.slot b o e n hb hx
  obtain⟨sl',e2⟩:=slot b _ (neL b o e) hb (neC b o e hx) e1 (I.base.free b o e n hx)
  exact⟨sl',e2⟩
 ·obtain⟨o',e1⟩:=I.base.there b o e hx
  exact free b o' (neC b o e hx) e1 (I.base.free b o e n hx)
 ·obtain⟨o',e1⟩:=I.base.there b o e hx
  exact there b o' (neC b o e hx) e1
 ·obtain⟨m1,e1⟩:=I.base.tbls b ps e
  obtain⟨m2,e2⟩:=tbls b _ e1
  exact⟨m1++m2,by rw[e2,Array.append_assoc]⟩
 ·obtain⟨m,hn,hl⟩:=I.loc
  refine⟨m,ns m hn,fun i x v e1 e2 e3=>?_⟩
  obtain⟨u,r,l⟩:=hl i x v e1 e2 e3
  refine⟨u,r,?_⟩
  rcases l with l|⟨k,c,e,z⟩
  ·exact .inl l
  ·exact .inr ⟨k,c,e,cellK x c e _ z⟩
 ·obtain⟨v,z⟩:=I.cell x c e
  exact⟨v,cellK x c e v z⟩
 ·obtain⟨m,⟨o,_,_,ho,_⟩,_⟩:=I.loc
  exact free _ o (fun z=>(hch _ z).2.1 rfl) ho I.free
 ·obtain⟨v,o,ho,hd⟩:=I.cell x c e
  exact free c o (fun z=>(hch c z).2.2.1 x c e rfl) ho (I.freeC x c e)
 ·obtain⟨e,n,ne,nf,d⟩:=I.pin p hp
  have nch:p.1 ∉ ch:=fun z=>(hch p.1 z).2.2.2 p hp rfl
  exact⟨keep p.1 p.2 ne nf nch e n,free p.1 p.2 nch e n,ne,nf,d⟩
theorem Inv.un{t':Nat}(I:Inv X pins σ H s)(u:Un X.fs [] H H' s.heap h')(hok:eU X.prog X.w H' h'):Inv X pins σ H' {s with heap:=h',toks:=t'}:=by
 obtain⟨m,⟨o,es,ep,ho,r⟩,_⟩:=id I.loc
 obtain⟨sl,hL⟩:=u.any ho I.free (by simp)
 exact I.step (g':=s.gens) (d':=s.drawn) (ch:=[]) (fun _ z=>nomatch z) (fun b o _ hb _ e n=>u.keep b o e n hb (by simp)) (fun b o _ hb _ e n=>u.slot b o e n hb (by simp)) (fun b o _ e n=>u.free b o e n (by simp)) (fun b o _ e=>u.there b o e (by simp)) u.tups u.frzs u.tbls (fun m' hm=>by
  obtain⟨o',es',ep',ho',r'⟩:=hm
  rw[ho]at ho';cases ho'
  exact⟨_,es',ep',hL,r'⟩) hok I.bare
theorem Inv.call{g':Array GenState}{t':Nat}{d':Drawn}{ch:List Addr}(I:Inv X pins σ H s)(u:Un (ja X.stack) ch H H' s.heap h')(hok:eU X.prog X.w H' h')(hg:AllBare g')
  (hch:∀ b∈ch,(b∈X.ex\/X.s₀.heap.objs.size<=b)/\b≠X.env.locals/\(∀ x c,X.env.cells.lookup x=some c->c≠b)/\∀ p∈X.pn++pins,p.1≠b):
  Inv X pins σ H' {s with heap:=h',gens:=g',drawn:=d',toks:=t'}:=by
 obtain⟨m,⟨o,es,ep,ho,r⟩,_⟩:=id I.loc
 obtain⟨sl,hL⟩:=u.any ho I.free fun z=>(hch _ z).2.1 rfl
 exact I.step (ch:=ch) hch (fun b o hL hb hc e n=>u.keep b o e n (fun z=>(JC.mp (I.stkSub b z)).elim hL hb) hc) (fun b o _ _ hc e n=>u.any e n hc) (fun b o hc e n=>u.free b o e n hc) (fun b o hc e=>u.there b o e hc) u.tups u.frzs u.tbls (fun m' hm=>by
  obtain⟨o',es',ep',ho',r'⟩:=hm
  rw[ho]at ho';cases ho'
  exact⟨_,es',ep',hL,r'⟩) hok hg
theorem Inv.turned{t':Nat}{it:Addr}(I:Inv X pins σ H s)(k:∀ b o,b≠it->s.heap.get? b=some o->h'.get? b=some o)(hn:H it=none)(hL:it≠X.env.locals)
  (h1:it∈X.ex\/X.s₀.heap.objs.size<=it) (h2:∀ x c,X.env.cells.lookup x=some c->c≠it) (h3:∀ p∈X.pn++pins,p.1≠it):Inv X pins σ H {s with heap:=h',toks:=t'}:=by
 have nit:∀ b u,H b=some u->b≠it:=fun b u e z=>by rw[z,hn]at e;cases e
 refine I.step (g':=s.gens) (d':=s.drawn) (ch:=[it]) (fun b hb=>?_) (fun b o _ _ hc e _=>k b o (fun z=>hc (by simp[z])) e) (fun b o _ _ hc e _=>⟨o.slots,k b o (fun z=>hc (by simp[z])) e⟩) (fun _ _ _ _ n=>n)
  (fun b o hc e=>⟨o,k b o (fun z=>hc (by simp[z])) e⟩) (fun _ _ e=>e) (fun _ _ _ e=>e) (fun b ps e=>⟨#[],by rw[e];simp⟩) (fun m hm=>?_) (fun b u e=>?_) I.bare
 ·have e:b=it:=by simpa using hb
  subst e
  exact⟨h1,hL,h2,h3⟩
 ·obtain⟨o,es,ep,ho,r⟩:=hm
  exact⟨o,es,ep,k _ o (Ne.symm hL) ho,r⟩
 ·refine(I.hok b u e).stay (fun c v hc q=>k c v ?_ q) (fun _ q=>q) fun _ _ q=>q
  rcases hc with z|z
  ·rw[z];exact nit b u e
  ·exact nit c _ z
theorem Inv.tok(I:Inv X pins σ H s)(t:Nat):Inv X pins σ H {s with toks:=t}:=I.un (h':=s.heap) (t':=t) Un.refl I.hok
theorem Inv.kept{t':Nat}(I:Inv X pins σ H s)(k:∀ b u,s.heap.get? b=some u->h'.get? b=some u):Inv X pins σ H {s with heap:=h',toks:=t'}:=I.un (Un.kept k) (I.hok.kept k)
theorem Inv.laid{a:Addr}{o:HO}{t':Nat}(I:Inv X pins σ H s)(k:∀ b u,s.heap.get? b=some u->h'.get? b=some u)(hp:s.heap.objs.size<=a)(new:aY X.prog X.w (upd H a o) h' a o):
  Inv X pins σ (upd H a o) {s with heap:=h',toks:=t'}:=I.un (Un.laid k hp (I.hok.fresh hp)) (I.hok.laid k hp new)
theorem Inv.write{x e:Addr}{o:HO}{t':Nat}(I:Inv X pins σ H s)(mu:GY (H x))(he:e=x\/H e=some (.own x))(k:∀ b u,b≠e->s.heap.get? b=some u->h'.get? b=some u)(heo:∃ u,h'.get? e=some u)
  (new:aY X.prog X.w (upd H x o) h' x o):Inv X pins σ (upd H x o) {s with heap:=h',toks:=t'}:=I.un (Un.write mu he k heo) (I.hok.write mu he k heo new)
theorem Inv.pins_of{pins':List (Addr×Obj)}(I:Inv X pins σ H s)(h:∀ p∈pins',s.heap.get? p.1=some p.2/\H p.1=none/\p.1≠X.env.locals/\p.1 ∉ X.fs/\∀ v,p.2.data≠ .cell v):Inv X pins' σ H s:=
 ⟨I.ok,I.os,I.bare,I.base,I.loc,I.cell,I.free,I.freeC,fun p hp=>(Lw.mp hp).elim (fun z=>I.pin p (Ld _ z)) (h p),I.hok,I.len⟩
theorem m7{N:List Str}(hN:N.Nodup){i j:Nat}{x:Str}(a:N[i]? =some x)(b:N[j]? =some x):i=j:=by
 obtain⟨h1,e1⟩:=Jn.mp a
 obtain⟨h2,e2⟩:=Jn.mp b
 exact(List.getElem_inj hN).mp (e1.trans e2.symm)
theorem pN{M:Model}{A:Around}{E:Value->Shared->Prop}{i:Nat}{x:Str}{v:V}{u:Value}{Q:Unit->Shared->Prop}(I:Inv X pins σ H s)(hN:X.N.Nodup)(hi:X.N[i]? =some x)(hx:Loc X.env.scope x)(r:RelV v u)
  (h:∀ s',Inv X pins (σ.set i (some v)) H s'->(∃ a,Heap.SameBut a s.heap s'.heap/\(a=X.env.locals\/X.env.cells.lookup x=some a))->Q () s') (hf:X.fn x=true\/X.env.scope.names.lookup x=some .local:=by first|exact .inl rfl|exact .inr rfl|assumption):wpAny M A (storeName X.env x u) Q E s:=by
 obtain⟨m,hn,hl⟩:=id I.loc
 have hcls:(X.env.scope.kind== .class||(X.env.scope.kind== .module && X.env.locals !=X.env.globals))=false:=by rw[I.ok.kind];rfl
 have hiσ:i<σ.length:=by rw[I.len];exact(Jn.mp hi).1
 have cne:=I.cne
 have tracked:∀{a:Addr} {h':Heap},(∃ o,s.heap.get? a=some o/\H a=none)->Heap.SameBut a s.heap h'->eU X.prog X.w H h':=fun{a h'} ha hs b ob e=>by
  obtain⟨_,_,hfree⟩:=ha
  refine(I.hok b ob e).stay (fun c w' hc q=>(hs.2 c ?_).trans q) (fun _ q=>q) fun _ _ q=>q
  rintro rfl
  rcases hc with rfl|hc
  ·rw[hfree]at e;cases e
  ·rw[hfree]at hc;cases hc
 rcases hx with hk|hk
 ·refine wpAny_storeName_local hk hn (fun h' hn' hs=>?_) hcls
  obtain⟨oL,_,_,hoL,_⟩:=id hn
  refine h _ ⟨I.ok,I.os,I.bare,⟨fun b o e n hb hx=>?_,fun b o e n hb hx=>?_,I.base.free,fun b o e hx=>?_,I.base.tups,I.base.frzs,I.base.tbls⟩,⟨_,hn',fun j y v' e1 e2 e3=>?_⟩,fun y c e=>?_,I.free,I.freeC,fun p hp=>?_,tracked ⟨oL,hoL,I.free⟩ hs,by simpa using I.len⟩ ⟨_,hs,.inl rfl⟩
  ·exact(hs.2 b (Jv (Jx (Jm e) I.ok.above))).trans (I.base.keep b o e n hb hx)
  ·obtain⟨sl,e1⟩:=I.base.slot b o e n hb hx
   exact⟨sl,(hs.2 b (Jv (Jx (Jm e) I.ok.above))).trans e1⟩
  ·obtain⟨o',e1⟩:=I.base.there b o e hx
   exact⟨o',(hs.2 b (Jv (Jx (Jm e) I.ok.above))).trans e1⟩
  ·by_cases hj:j=i
   ·subst hj
    rw[hi]at e1;cases e1
    rw[JN hiσ]at e2
    cases e2
    exact⟨u,r,.inl ⟨hk,by simp⟩⟩
   ·rw[JF (Ne.symm hj)]at e2
    obtain⟨u',r',q⟩:=hl j y v' e1 e2 e3
    refine⟨u',r',?_⟩
    rcases q with⟨k,e⟩|⟨k,c,e,z⟩
    ·refine .inl ⟨k,?_⟩
     have:y≠x:=fun e=>hj (m7 hN e1 (e ▸ hi))
     simp[this,e]
    ·exact .inr ⟨k,c,e,z.sameBut hs (cne y c e)⟩
  ·obtain⟨w',z⟩:=I.cell y c e
   exact⟨w',z.sameBut hs (cne y c e)⟩
  ·obtain⟨e,n,ne,nf,d⟩:=I.pin p hp
   exact⟨(hs.2 p.1 ne).trans e,n,ne,nf,d⟩
 ·have hfn:X.fn x=true:=by
   rcases hf with z|z
   ·exact z
   ·rw[z]at hk;cases hk
  obtain⟨c,hc⟩:=I.ok.has x (.inl hk)
  obtain⟨w',z⟩:=I.cell x c hc
  refine wpAny_storeName_cell I.ok.kind hk hc z (fun h' hc' hs=>?_)
  obtain⟨oc,hoc,hocd⟩:=id z
  refine h {s with heap:=h'} ⟨I.ok,I.os,I.bare,⟨fun b o e n hb hx=>?_,fun b o e n hb hx=>?_,I.base.free,fun b o e hx=>?_,I.base.tups,I.base.frzs,I.base.tbls⟩,⟨m,hn.sameBut hs (Ne.symm (cne x c hc)),fun j y v' e1 e2 e3=>?_⟩,fun y c' e=>?_,I.free,I.freeC,fun p hp=>?_,tracked ⟨oc,hoc,I.freeC x c hc⟩ hs,by simpa using I.len⟩ ⟨c,hs,.inr hc⟩
  ·exact(hs.2 b (Jv (Jx (Jm e) (I.ok.cab x c hfn hc)))).trans (I.base.keep b o e n hb hx)
  ·obtain⟨sl,e1⟩:=I.base.slot b o e n hb hx
   exact⟨sl,(hs.2 b (Jv (Jx (Jm e) (I.ok.cab x c hfn hc)))).trans e1⟩
  ·obtain⟨o',e1⟩:=I.base.there b o e hx
   exact⟨o',(hs.2 b (Jv (Jx (Jm e) (I.ok.cab x c hfn hc)))).trans e1⟩
  ·by_cases hj:j=i
   ·subst hj
    rw[hi]at e1;cases e1
    rw[JN hiσ]at e2
    cases e2
    exact⟨u,r,.inr ⟨.inl hk,c,hc,hc'⟩⟩
   ·rw[JF (Ne.symm hj)]at e2
    obtain⟨u',r',q⟩:=hl j y v' e1 e2 e3
    refine⟨u',r',?_⟩
    rcases q with q|⟨k,c',e,z'⟩
    ·exact .inl q
    ·refine .inr ⟨k,c',e,z'.sameBut hs ?_⟩
     rintro rfl
     exact hj (m7 hN e1 (I.ok.inj _ _ _ e hc ▸ hi))
  ·by_cases hcc:c'=c
   ·subst hcc;exact⟨_,hc'⟩
   ·obtain⟨w2,z2⟩:=I.cell y c' e
    exact⟨w2,z2.sameBut hs hcc⟩
  ·obtain⟨e,n,ne,nf,d⟩:=I.pin p hp
   refine⟨(hs.2 p.1 ?_).trans e,n,ne,nf,d⟩
   intro q
   rw[q,hoc]at e
   have q':oc=p.2:=JI e
   exact d w' (by rw[<-q'];exact hocd)
theorem m8{M:Model}{A:Around}{E:Value->Shared->Prop}{i:Nat}{x:Str}{v:V}{u:Value}{Q:Unit->Shared->Prop}(I:Inv X pins σ H s)(hN:X.N.Nodup)(hi:X.N[i]? =some x)(hx:Loc X.env.scope x)(r:RelV v u)
  (h:∀ s',Inv X pins (σ.set i (some v)) H s'->Q () s') (hf:X.fn x=true\/X.env.scope.names.lookup x=some .local:=by first|exact .inl rfl|exact .inr rfl|assumption):wpAny M A (storeName X.env x u) Q E s:=
 pN I hN hi hx r (fun s' I' _=>h s' I') hf
theorem Inv.call'{s':Shared}{ch:List Addr}(I:Inv X pins σ H s)(ho:s'.os=s.os)(u:Un (ja X.stack) ch H H' s.heap s'.heap)(hok:eU X.prog X.w H' s'.heap)(hg:AllBare s'.gens)
  (hch:∀ b∈ch,(b∈X.ex\/X.s₀.heap.objs.size<=b)/\b≠X.env.locals/\(∀ x c,X.env.cells.lookup x=some c->c≠b)/\∀ p∈X.pn++pins,p.1≠b):Inv X pins σ H' s':=by
 obtain⟨h',g',d',t',o'⟩:=s'
 have e:o'=s.os:=ho
 subst e
 exact I.call (g':=g') (t':=t') (d':=d') u hok hg hch
end
abbrev XK:=Value->Option Addr->Hp->Prop
abbrev St:=List (Option V)
abbrev VK:=V->Hp->Prop
abbrev TE:=St->Hp->VK->Prop
abbrev TT:=St->Hp->(Bool->Hp->Prop)->Prop
abbrev TA:=St->Hp->(List V->Hp->Prop)->Prop
structure Ends where
 nx:St->Hp->Prop
 rt:VK
 bk:St->Hp->Prop:=fun _ _=>False
 ct:St->Hp->Prop:=fun _ _=>False
abbrev TS:=Ends->St->Hp->Prop
def EP(X:Cx)(pins:List (Addr×Obj))(σ:St)(Q:VK)(u:Value)(s':Shared):Prop:=∃ v H',Inv X pins σ H' s'/\RelV v u/\Q v H'
def TP(X:Cx)(pins:List (Addr×Obj))(σ:St)(Q:Bool->Hp->Prop)(b:Bool)(s':Shared):Prop:=∃ H',Inv X pins σ H' s'/\Q b H'
def AP(X:Cx)(pins:List (Addr×Obj))(σ:St)(Q:List V->Hp->Prop)(us:List Value)(s':Shared):Prop:=∃ vs H',Inv X pins σ H' s'/\aZ vs us/\Q vs H'
def SP(X:Cx)(pins:List (Addr×Obj))(D:Ends)(f:Flow)(s':Shared):Prop:=
 match f with
 | .next=>∃ σ' H',Inv X pins σ' H' s'/\D.nx σ' H'
 | .brk=>∃ σ' H',Inv X pins σ' H' s'/\D.bk σ' H'
 | .cont=>∃ σ' H',Inv X pins σ' H' s'/\D.ct σ' H'
 | .ret u=>∃ v σ' H',Inv X pins σ' H' s'/\RelV v u/\D.rt v H'
def PE(X:Cx)(e:Expr)(t:TE):Prop:=
 ∀(pins:List (Addr×Obj)) (s:Shared) (σ:St) (H:Hp) (Q:VK),Inv X pins σ H s->t σ H Q->wpAny (model X.prog X.w) X.A (eval e X.env) (EP X pins σ Q) X.xe s
def PT(X:Cx)(e:Expr)(t:TT):Prop:=
 ∀(pins:List (Addr×Obj)) (s:Shared) (σ:St) (H:Hp) (Q:Bool->Hp->Prop),Inv X pins σ H s->t σ H Q->wpAny (model X.prog X.w) X.A (isTrue e X.env (eval e X.env)) (TP X pins σ Q) X.xe s
def PW(X:Cx)(e:Expr)(t:TT):Prop:=
 ∀(whole:Sem Value) (pins:List (Addr×Obj)) (s:Shared) (σ:St) (H:Hp) (Q:Bool->Hp->Prop),Inv X pins σ H s->t σ H Q->wpAny (model X.prog X.w) X.A (isTrue e X.env whole) (TP X pins σ Q) X.xe s
theorem PW.pt{X:Cx}{e:Expr}{t:TT}(h:PW X e t):PT X e t:=h _
def PA(X:Cx)(es:List Expr)(t:TA):Prop:=
 ∀(pos:Pos) (pins:List (Addr×Obj)) (s:Shared) (σ:St) (H:Hp) (Q:List V->Hp->Prop),Inv X pins σ H s->t σ H Q->wpAny (model X.prog X.w) X.A (spliced (backTo pos (starEach es X.env))) (AP X pins σ Q) X.xe s
def PS(X:Cx)(st:Stmt)(t:TS):Prop:=
 ∀(pins:List (Addr×Obj)) (s:Shared) (σ:St) (H:Hp) (D:Ends),Inv X pins σ H s->t D σ H->wpAny (model X.prog X.w) X.A (exec st X.env) (SP X pins D) X.xe s
def oY(X:Cx)(st:List Stmt)(t:TS):Prop:=
 ∀(pins:List (Addr×Obj)) (s:Shared) (σ:St) (H:Hp) (D:Ends),Inv X pins σ H s->t D σ H->wpAny (model X.prog X.w) X.A (execs st X.env) (SP X pins D) X.xe s
theorem df{α:Type}{t:Sem α}{Q Q':α->Shared->Prop}{M:Model}{A:Around}{E:Value->Shared->Prop}{s:Shared}(h:wpAny M A t Q E s)(hQ:∀ a s,Q a s->Q' a s):wpAny M A t Q' E s:=JJ h hQ fun _ _ x=>x
end L2
namespace L2
open PySem PySem.Spec PyProof.Rows
section
variable {X:Cx}
def FE(i:Nat):TE:=fun σ H Q=>∃ v,σ[i]? =some (some v)/\Q v H
def tC(v:V):TE:=fun _ H Q=>Q v H
theorem qC{i:Nat}{x:Str}{pos:Pos}(hN:X.N[i]? =some x)(hv:yK X.env.scope x)(hd:(x==("__debug__":Str))=false:=by decide)(hcd:(x==("__classdict__":Str))=false:=by decide):PE X (.Name x pos) (FE i):=by
 intro pins s σ H Q I h
 obtain⟨v,e,h⟩:=h
 obtain⟨m,hn,hl⟩:=I.loc
 obtain⟨u,r,l⟩:=hl i x v hN e hv
 have fin:EP X pins σ Q u s:=⟨v,H,I,r,h⟩
 rcases l with⟨hk,hm⟩|⟨hk,c,hc,hcell⟩
 ·exact wpAny_Name (wpAny_loadName_local I.ok.kind hk hn hm fin) hd
 ·rcases hk with hk|hk
  ·exact wpAny_Name (wpAny_loadName_cell I.ok.kind hk hc hcell fin) hd
  ·exact wpAny_Name (wpAny_loadName_free I.ok.kind hk hc hcell fin hcd) hd
theorem yO{i j pos}:PE X (.Constant (.int i) j pos) (tC (.int i)):=fun _ _ _ H _ I h=>wpAny_Constant_int ⟨.int i,H,I.tok _,⟨_,rfl⟩,h⟩
theorem FF{b j pos}:PE X (.Constant (.bool b) j pos) (tC (.bl b)):=fun _ _ _ H _ I h=>Constant_bool ⟨.bl b,H,I,rfl,h⟩
theorem Dz{j pos}:PE X (.Constant .none j pos) (tC .non):=fun _ _ _ H _ I h=>Constant_none ⟨.non,H,I,rfl,h⟩
theorem DA{x j pos}:PE X (.Constant (.str x) j pos) (tC (.str x)):=fun _ _ _ H _ I h=>Calls.Constant_str ⟨.str x,H,I.tok _,⟨_,rfl⟩,h⟩
def Gl(X:Cx)(x:Str):Prop:=X.env.kindOf x=some .globalImplicit
theorem jC{E:Value->Shared->Prop}{pins:List (Addr×Obj)}{s:Shared}{σ:St}{H:Hp}{x:Str}{u:Value}{pos:Pos}{Q:Value->Shared->Prop}(I:Inv X pins σ H s)(hg:Gl X x)(hm:X.mg x=some u)(h:Q u s)
  (hd:(x==("__debug__":Str))=false:=by decide):wpAny (model X.prog X.w) X.A (eval (.Name x pos) X.env) Q E s:=
 Mq I.ok.kind hg (Calls.loadGlobal_global (by rw[I.ok.glob];exact I.mod.glob.keeps I.bk) hm h) hd
theorem lz{E:Value->Shared->Prop}{pins:List (Addr×Obj)}{s:Shared}{σ:St}{H:Hp}{x:Str}{u:Value}{pos:Pos}{Q:Value->Shared->Prop}(I:Inv X pins σ H s)(hg:Gl X x)(hm:X.mg x=none)(hv:bootBuiltins x=some u)(h:Q u s)
  (hn:x≠"__name__":=by decide) (hd:(x==("__debug__":Str))=false:=by decide):wpAny (model X.prog X.w) X.A (eval (.Name x pos) X.env) Q E s:=by
 obtain⟨mb,h1,h2⟩:=I.mod.blt
 exact Mq I.ok.kind hg (Calls.loadGlobal_builtin (by rw[I.ok.glob];exact I.mod.glob.keeps I.bk) hm (by rw[I.ok.blt];exact h1.keeps I.bk) ((h2 x hn).trans hv) h) hd
theorem vS{x:Str}{v:V}{u:Value}{pos:Pos}(hg:Gl X x)(hm:X.mg x=some u)(r:RelV v u)(hd:(x==("__debug__":Str))=false:=by decide):PE X (.Name x pos) (tC v):=
 fun _ _ _ H _ I h=>jC I hg hm ⟨v,H,I,r,h⟩ hd
theorem mQ{x:Str}{v:V}{u:Value}{pos:Pos}(hg:Gl X x)(hm:X.mg x=none)(hv:bootBuiltins x=some u)(r:RelV v u)(hn:x≠"__name__":=by decide)(hd:(x==("__debug__":Str))=false:=by decide):PE X (.Name x pos) (tC v):=
 fun _ _ _ H _ I h=>lz I hg hm hv ⟨v,H,I,r,h⟩ hn hd
variable {a b:Expr}{ta tb:TE}{pos:Pos}
theorem sr(b:Expr){op:CmpOp}(h:op≠ .In)(h2:op≠ .NotIn):behindInMarks op b=false:=by
 have e1:(op==CmpOp.In)=false:=by cases op<;>first|rfl|exact absurd rfl h
 have e2:(op==CmpOp.NotIn)=false:=by cases op<;>first|rfl|exact absurd rfl h2
 cases b<;>simp[behindInMarks,e1,e2]
def tB(t:TE):TT:=fun σ H Q=>t σ H fun x H1=>∃ c,x= .bl c/\Q c H1
theorem DB{e:Expr}{t:TE}(h:PE X e t)(he:∀ whole,isTrue e X.env whole=(do let v<-whole;standAt e.pos;holding [v] (truthy v)):=by intro _;rfl):PT X e (tB t):=by
 intro pins s σ H Q I hw
 refine isTrue_plain (df (h pins s σ H _ I hw) fun v s1 ⟨x,H1,I1,r1,q1⟩=>?_) (he _)
 obtain⟨d,rfl,q⟩:=q1
 cases r1
 exact Kf ⟨H1,I1,q⟩
variable {tA tB':TT}{rest:List Expr}
def Hr(t u:TT):TT:=fun σ H Q=>t σ H fun c H1=>if c=true then u σ H1 Q else Q false H1
def IL(t u:TT):TT:=fun σ H Q=>t σ H fun c H1=>if c=true then Q true H1 else u σ H1 Q
def Hs(t:TT):TT:=fun σ H Q=>t σ H fun c H1=>Q (!c) H1
theorem Bt(ha:PT X a tA):PW X (.BoolOp .And [a] pos) tA:=by
 intro wh pins s σ H Q I h
 refine isTrue_and (df (ha pins s σ H Q I h) fun c s1 e=>?_)
 cases c with
 |true=>exact isTrue_and_nil e
 |false=>exact e
theorem DC(ha:PT X a tA):PW X (.BoolOp .Or [a] pos) tA:=by
 intro wh pins s σ H Q I h
 refine isTrue_or (df (ha pins s σ H Q I h) fun c s1 e=>?_)
 cases c with
 |false=>exact isTrue_or_nil e
 |true=>exact e
theorem DD(ha:PT X a tA)(hb:PW X (.BoolOp .And (b::rest) pos) tB'):PW X (.BoolOp .And (a::b::rest) pos) (Hr tA tB'):=by
 intro wh pins s σ H Q I h
 refine isTrue_and (df (ha pins s σ H _ I h) fun c s1 ⟨H1,I1,q1⟩=>?_)
 cases c with
 |true=>exact hb wh pins s1 σ H1 Q I1 q1
 |false=>exact⟨H1,I1,q1⟩
theorem FH(ha:PT X a tA)(hb:PW X (.BoolOp .Or (b::rest) pos) tB'):PW X (.BoolOp .Or (a::b::rest) pos) (IL tA tB'):=by
 intro wh pins s σ H Q I h
 refine isTrue_or (df (ha pins s σ H _ I h) fun c s1 ⟨H1,I1,q1⟩=>?_)
 cases c with
 |true=>exact⟨H1,I1,q1⟩
 |false=>exact hb wh pins s1 σ H1 Q I1 q1
theorem DE(ha:PT X a tA):PT X (.UnaryOp .Not a pos) (Hs tA):=by
 intro pins s σ H Q I h
 exact isTrue_not (ha pins s σ H (fun c H1=>Q (!c) H1) I h)
def FI(ta tb:TE):TE:=fun σ H Q=>ta σ H fun x H1=>∃ c,x= .bl c/\if c=true then tb σ H1 Q else Q (.bl false) H1
def FJ(ta:TE):TE:=fun σ H Q=>ta σ H fun x H1=>∃ c,x= .bl c/\Q (.bl (!c)) H1
theorem DF{op}{t:TE}(h:PE X a t):PE X (.BoolOp op [a] pos) t:=fun pins s σ H Q I hw=>BoolOp_one (h pins s σ H Q I hw)
theorem DG(ha:PE X a ta)(hb:PE X (.BoolOp .And (b::rest) pos) tb):PE X (.BoolOp .And (a::b::rest) pos) (FI ta tb):=by
 intro pins s σ H Q I h
 refine BoolOp_and (df (ha pins s σ H _ I h) fun v s1 ⟨x,H1,I1,r1,q1⟩=>?_)
 obtain⟨c,rfl,q1⟩:=q1
 cases r1
 refine Kf ?_
 cases c with
 |true=>exact hb pins s1 σ H1 Q I1 q1
 |false=>exact⟨.bl false,H1,I1,rfl,q1⟩
theorem DH(ha:PE X a ta):PE X (.UnaryOp .Not a pos) (FJ ta):=by
 intro pins s σ H Q I h
 refine UnaryOp_ (df (ha pins s σ H _ I h) fun v s1 ⟨x,H1,I1,r1,q1⟩=>?_)
 obtain⟨c,rfl,q1⟩:=q1
 cases r1
 exact not_of (Kf ⟨.bl (!c),H1,I1,rfl,q1⟩)
def IM(t:TT)(ta tb:TE):TE:=fun σ H Q=>t σ H fun c H1=>if c=true then ta σ H1 Q else tb σ H1 Q
theorem yP{c:Expr}(hc:PT X c tA)(ha:PE X a ta)(hb:PE X b tb):PE X (.IfExp c a b pos) (IM tA ta tb):=by
 intro pins s σ H Q I h
 refine wpAny_IfExp (df (hc pins s σ H _ I h) fun d s1 ⟨H1,I1,q1⟩=>?_)
 cases d with
 |true=>exact ha pins s1 σ H1 Q I1 q1
 |false=>exact hb pins s1 σ H1 Q I1 q1
end
end L2
namespace L2
open PySem PySem.Spec PyProof.Rows
def iY(K:PySem.W.Frag)(H:Hp)(a:Addr)(xs:List V):Prop:=
 Rd H a (.lst xs)\/
  ∃(o:Obj) (its:Array Value) (n:Nat),K.lookup a=some o/\o.cls= .type "list"/\o.dict=none/\o.data= .seq its n/\its.size<=sizeLine/\aZ xs its.toList
def j5(K:PySem.W.Frag)(H:Hp)(a:Addr)(xs:List V):Prop:=
 Rd H a (.tup xs)\/
  ∃(o:Obj) (its:Array Value) (n:Nat),K.lookup a=some o/\o.cls= .type "tuple"/\o.data= .seq its n/\its.size<=sizeLine/\aZ xs its.toList
def Ht:Value->Option V
 | .none=>some .non
 | .bool b=>some (.bl b)
 | .int i _=>some (.int i)
 | .str x _=>some (.str x)
 | .bytes b _=>some (.byt b)
 | .float b _=>some (.flt b)
 | .ref a=>some (.ref a)
 | .type n=>some (.ty n)
 |_=>none
theorem RelV.abs{x:V}{u:Value}(r:RelV x u):Ht u=some x:=by
 cases x with
 |non=>cases r;rfl
 |bl _=>cases r;rfl
 |int _=>obtain⟨t,rfl⟩:=r;rfl
 |str _=>obtain⟨t,rfl⟩:=r;rfl
 |byt _=>obtain⟨t,rfl⟩:=r;rfl
 |flt _=>obtain⟨t,rfl⟩:=r;rfl
 |ref _=>cases r;rfl
 |ty _=>cases r;rfl
theorem RelV.inj{x y:V}{u:Value}(r:RelV x u)(q:RelV y u):x=y:=JI (r.abs.symm.trans q.abs)
theorem aZ.inj:∀{xs ys:List V} {us:List Value},aZ xs us->aZ ys us->xs=ys
 |_,_,_,.nil,.nil=>rfl
 |_,_,_,.cons r t,.cons r' t'=>by rw[r.inj r',aZ.inj t t']
section
variable {X:Cx}{pins:List (Addr×Obj)}{σ:St}{H:Hp}{s:Shared}{a:Addr}{xs ys:List V}
theorem iY.of{K:PySem.W.Frag}(h:H a=some (.lst xs)):iY K H a xs:=.inl (.inl h)
theorem j5.of{K:PySem.W.Frag}(h:H a=some (.tup xs)):j5 K H a xs:=.inl (.inl h)
theorem Inv.list(I:Inv X pins σ H s)(h:iY X.K H a xs):∃ its:List Value,aZ xs its/\PlainL s.heap a its.toArray/\xs.length<=sizeLine:=by
 rcases h with h|⟨o,its,n,hk,hc,hd,hs,hz,r⟩
 ·obtain⟨z,its,n,r,e⟩:=h.ok I.hok
  exact⟨its,r,⟨_,n,e,rfl,rfl,rfl⟩,z⟩
 ·refine⟨its.toList,r,⟨o,n,I.kIn a o hk,hc,hd,by simpa using hs⟩,?_⟩
  have e:=r.length
  simp only[Array.length_toList]at e
  omega
theorem Inv.tuple(I:Inv X pins σ H s)(h:j5 X.K H a xs):∃ its:List Value,aZ xs its/\IsTup s.heap a its.toArray/\xs.length<=sizeLine:=by
 rcases h with h|⟨o,its,n,hk,hc,hs,hz,r⟩
 ·obtain⟨z,its,r,p⟩:=h.ok I.hok
  exact⟨its,r,p,z⟩
 ·refine⟨its.toList,r,⟨o,I.kIn a o hk,hc,n,by simpa using hs⟩,?_⟩
  have e:=r.length
  simp only[Array.length_toList]at e
  omega
theorem Inv.list_inj(I:Inv X pins σ H s)(h:iY X.K H a xs)(h':iY X.K H a ys):xs=ys:=by
 obtain⟨its,r,⟨o,n,e,_,_,d⟩,_⟩:=I.list h
 obtain⟨its',r',⟨o',n',e',_,_,d'⟩,_⟩:=I.list h'
 rw[e]at e';cases e'
 rw[d]at d'
 injection d' with d1 _
 have:its=its':=by simpa using Li Array.toList d1
 subst this
 exact r.inj r'
theorem Inv.tuple_inj(I:Inv X pins σ H s)(h:j5 X.K H a xs)(h':j5 X.K H a ys):xs=ys:=by
 obtain⟨its,r,⟨o,e,_,n,d⟩,_⟩:=I.tuple h
 obtain⟨its',r',⟨o',e',_,n',d'⟩,_⟩:=I.tuple h'
 rw[e]at e';cases e'
 rw[d]at d'
 injection d' with d1 _
 have:its=its':=by simpa using Li Array.toList d1
 subst this
 exact r.inj r'
end
abbrev Cx.wish(X:Cx)(E:Value->Shared->Prop):Cx:={X with xe:=E}
abbrev Cx.nox(X:Cx):Cx:=X.wish fun _ _=>False
theorem Cx.Ok.wish{X:Cx}(ok:X.Ok)(E:Value->Shared->Prop):(X.wish E).Ok:=
 ⟨ok.mod,ok.kind,ok.glob,ok.blt,ok.above,ok.inj,ok.has,ok.cab,ok.hd,ok.frames,ok.stk,ok.exf,ok.bs,ok.bsz,ok.noex,ok.exfs,ok.funs,ok.frf⟩
theorem Cx.Ok.unwish{X:Cx}{E:Value->Shared->Prop}(ok:(X.wish E).Ok):X.Ok:=
 ⟨ok.mod,ok.kind,ok.glob,ok.blt,ok.above,ok.inj,ok.has,ok.cab,ok.hd,ok.frames,ok.stk,ok.exf,ok.bs,ok.bsz,ok.noex,ok.exfs,ok.funs,ok.frf⟩
section
variable {X:Cx}{pins:List (Addr×Obj)}{σ:St}{H:Hp}{s:Shared}{E:Value->Shared->Prop}
theorem Inv.wish(I:Inv X pins σ H s)(E:Value->Shared->Prop):Inv (X.wish E) pins σ H s:=⟨I.ok.wish E,I.os,I.bare,I.base,I.loc,I.cell,I.free,I.freeC,I.pin,I.hok,I.len⟩
theorem Inv.unwish(I:Inv (X.wish E) pins σ H s):Inv X pins σ H s:=⟨I.ok.unwish,I.os,I.bare,I.base,I.loc,I.cell,I.free,I.freeC,I.pin,I.hok,I.len⟩
theorem SP.unwish{D:Ends}{f:Flow}{s':Shared}(h:SP (X.wish E) pins D f s'):SP X pins D f s':=by
 cases f with
 |next=>obtain⟨σ',H',I,q⟩:=h;exact⟨σ',H',I.unwish,q⟩
 |brk=>obtain⟨σ',H',I,q⟩:=h;exact⟨σ',H',I.unwish,q⟩
 |cont=>obtain⟨σ',H',I,q⟩:=h;exact⟨σ',H',I.unwish,q⟩
 |ret u=>obtain⟨v,σ',H',I,r,q⟩:=h;exact⟨v,σ',H',I.unwish,r,q⟩
theorem oY.nox{st:List Stmt}{t:TS}(h:oY X.nox st t):oY X st t:=fun pins s σ H D I hw=>
 JJ (h pins s σ H D (I.wish _) hw) (fun _ _ q=>q.unwish) fun _ _ z=>False.elim z
end
section
variable {X:Cx}{st:Stmt}{rest:List Stmt}{t u:TS}{e:Expr}{te:TE}{pos:Pos}
def FK:TS:=fun D σ H=>D.nx σ H
def Hu(t u:TS):TS:=fun D σ H=>t {D with nx:=u D} σ H
theorem Bu:oY X [] FK:=fun _ _ σ H _ I h=>K6 ⟨σ,H,I,h⟩
theorem su(h1:PS X st t)(h2:oY X rest u):oY X (st::rest) (Hu t u):=by
 intro pins s σ H D I h
 refine MP (df (h1 pins s σ H {D with nx:=u D} I h) fun f s1 q=>?_)
 cases f with
 |next=>
  obtain⟨σ',H',I',q⟩:=q
  exact h2 pins s1 σ' H' D I' q
 |ret v=>exact q
 |brk=>exact q
 |cont=>exact q
theorem qD(h1:PS X st t):oY X [st] t:=by
 intro pins s σ H D I h
 refine MP (df (h1 pins s σ H D I h) fun f s1 q=>?_)
 cases f with
 |next=>exact K6 q
 |ret v=>exact q
 |brk=>exact q
 |cont=>exact q
theorem Inv.quiet{pins:List (Addr×Obj)}{σ:St}{H:Hp}{s:Shared}(I:Inv X pins σ H s):interactive X.env=false:=by simp[interactive,I.ok.kind]
def FL(te:TE):TS:=fun D σ H=>te σ H fun _ H1=>D.nx σ H1
theorem Bv(he:PE X e te)(hs:swapsWith e none pos.line X.env=pure false:=by rfl):PS X (.Expr e pos) (FL te):=by
 intro pins s σ H D I h
 exact wpAny_Expr_any (df (he pins s σ H _ I h) fun v s1 ⟨x,H1,I1,r1,q1⟩=>⟨σ,H1,I1,q1⟩) I.quiet hs
def Hv(te:TE):TS:=fun D σ H=>te σ H D.rt
theorem DI(he:PE X e te):PS X (.Return (some e) pos) (Hv te):=by
 intro pins s σ H D I h
 exact wpAny_Return_some (df (he pins s σ H _ I h) fun v s1 ⟨x,H1,I1,r1,q1⟩=>⟨x,σ,H1,I1,r1,q1⟩)
def Hw(c:TT)(t u:TS):TS:=fun D σ H=>c σ H fun b H1=>if b=true then t D σ H1 else u D σ H1
theorem FM{c:Expr}{a b:List Stmt}{tc:TT}(hc:PT X c tc)(ha:oY X a t)(hb:oY X b u):PS X (.If c a b pos) (Hw tc t u):=by
 intro pins s σ H D I h
 refine wpAny_If (df (hc pins s σ H _ I h) fun d s1 ⟨H1,I1,q1⟩=>?_)
 cases d with
 |true=>exact ha pins s1 σ H1 D I1 q1
 |false=>exact hb pins s1 σ H1 D I1 q1
end
abbrev TG:=V->St->Hp->(St->Hp->Prop)->Prop
abbrev Bw:=List V->St->Hp->(St->Hp->Prop)->Prop
def PG(X:Cx)(target:Expr)(t:TG):Prop:=
 ∀(pins:List (Addr×Obj)) (s:Shared) (σ:St) (H:Hp) (v:V) (u:Value) (Q:St->Hp->Prop),Inv X pins σ H s->RelV v u->t v σ H Q->
  wpAny (model X.prog X.w) X.A (assign target X.env u) (fun _ s'=>∃ σ' H',Inv X pins σ' H' s'/\Q σ' H') X.xe s
def Bk(X:Cx)(ts:List Expr)(t:Bw):Prop:=
 ∀(pins:List (Addr×Obj)) (s:Shared) (σ:St) (H:Hp) (vs:List V) (us:List Value) (Q:St->Hp->Prop),Inv X pins σ H s->aZ vs us->t vs σ H Q->
  wpAny (model X.prog X.w) X.A (assignInOrder ((assignEach ts X.env).map (·.2)) us) (fun _ s'=>∃ σ' H',Inv X pins σ' H' s'/\Q σ' H') X.xe s
abbrev Bx:=V->V->V->Hp->(Hp->Prop)->Prop
def FN(X:Cx)(t:Bx):Prop:=
 ∀(pins:List (Addr×Obj)) (s:Shared) (σ:St) (H:Hp) (o i v:V) (ov iv u:Value) (Q:Hp->Prop),Inv X pins σ H s->RelV o ov->RelV i iv->RelV v u->t o i v H Q->
  wpAny (model X.prog X.w) X.A (setItem ov iv u) (fun _ s'=>∃ H',Inv X pins σ H' s'/\Q H') X.xe s
section
variable {X:Cx}{pos:Pos}
def yQ(i:Nat):TG:=fun v σ H Q=>Q (σ.set i (some v)) H
theorem By{i:Nat}{x:Str}(hN:X.N.Nodup)(hi:X.N[i]? =some x)(hx:Loc X.env.scope x)(hf:X.fn x=true\/X.env.scope.names.lookup x=some .local:=by first|exact .inl rfl|exact .inr rfl|assumption):PG X (.Name x pos) (yQ i):=by
 intro pins s σ H v u Q I r h
 exact wpAny_assign_Name (m8 I hN hi hx r (fun s' I'=>⟨_,H,I',h⟩) hf)
def Hx:Bw:=fun vs σ H Q=>vs=[]/\Q σ H
def FO(t:TG)(u:Bw):Bw:=fun vs σ H Q=>∃ v r,vs=v::r/\t v σ H fun σ' H'=>u r σ' H' Q
theorem Bz:Bk X [] Hx:=by
 intro pins s σ H vs us Q I r h
 obtain⟨e,h⟩:=h
 subst e
 cases r
 exact assignInOrder_nil ⟨σ,H,I,h⟩
theorem yR{e:Expr}{es:List Expr}{t:TG}{u:Bw}(h1:PG X e t)(h2:Bk X es u)
  (hs:(assignEach (e::es) X.env).map (·.2)=assign e X.env::(assignEach es X.env).map (·.2):=by rfl):Bk X (e::es) (FO t u):=by
 intro pins s σ H vs us Q I r h
 obtain⟨v,vr,e1,h⟩:=h
 subst e1
 cases r with
 |cons r rr=>
  rw[hs]
  refine assignInOrder_cons (df (h1 pins s σ H _ _ _ I r h) fun _ s1 ⟨σ1,H1,I1,q1⟩=>?_)
  exact h2 pins s1 σ1 H1 _ _ Q I1 rr q1
def Hy(K:PySem.W.Frag)(n:Nat)(t:Bw):TG:=fun v σ H Q=>∃ a xs,v= .ref a/\j5 K H a xs/\xs.length=n/\t xs σ H Q
theorem DJ{es:List Expr}{k:Nat}{t:Bw}{n:Nat}(hc:X.calm=true)(h:Bk X es t)
  (hn:(assignEach es X.env).length=n:=by rfl) (hst:(assignEach es X.env).findIdx? (·.1)=none:=by rfl):PG X (.Tuple es k pos) (Hy X.K n t):=by
 intro pins s σ H v u Q I r hw
 obtain⟨a,xs,e1,hq,hl,hw⟩:=hw
 subst e1
 cases r
 obtain⟨its,rv,ht,hz⟩:=I.tuple hq
 refine assign_Tuple_tuple (I.ok.hd hc) ht (by simp[hn, <-hl,rv.length]) hst fun h' hx=>?_
 have I1:Inv X pins σ H {s with heap:=h'}:=I.kept (t':=s.toks) fun b o e=>hx b o (Jv (Jm e)) e
 exact h pins _ σ H xs _ Q I1 (by simpa using rv) hw
def Hz(to ti:TE)(t:Bx):TG:=fun v σ H Q=>to σ H fun o H1=>ti σ H1 fun i H2=>t o i v H2 fun H3=>Q σ H3
theorem DK{o i:Expr}{to ti:TE}{t:Bx}(ho:PE X o to)(hi:PE X i ti)(hs:FN X t)
  (ha:∀ v,assign (.Subscript o i pos) X.env v=(do
   let ov<-holding [v] (eval o X.env)
   let iv<-holding [v,ov] (eval i X.env)
   standAt pos
   holding [v,ov,iv] (setItem ov iv v)
   release [v,ov,iv] []):=by intro _;rfl):PG X (.Subscript o i pos) (Hz to ti t):=by
 intro pins s σ H v u Q I r h
 rw[ha]
 refine Jg (JX (df (ho pins s σ H _ I h) fun ov s1 ⟨x,H1,I1,r1,q1⟩=>?_))
 refine Jg (JX (df (hi pins s1 σ H1 _ I1 q1) fun iv s2 ⟨y,H2,I2,r2,q2⟩=>?_))
 refine Jg (Kb (Jg (JX (df (hs pins s2 σ H2 x y v ov iv u _ I2 r1 r2 r q2) fun _ s3 ⟨H3,I3,q3⟩=>?_))))
 exact wpAny_release ⟨σ,H3,I3,q3⟩
def DL(te:TE)(g:TG):TS:=fun D σ H=>te σ H fun x H1=>g x σ H1 D.nx
theorem DM{tg e:Expr}{te:TE}{g:TG}(he:PE X e te)(hg:PG X tg g)(hs:swapsWithSole [tg] e pos.line X.env=pure false:=by rfl)(hw:swappedStores [tg] e X.env=pure none:=by rfl)
  (h1:(assignEach [tg] X.env).map (·.2)=[assign tg X.env]:=by rfl):PS X (.Assign [tg] e pos) (DL te g):=by
 intro pins s σ H D I h
 refine wpAny_Assign_stores (df (he pins s σ H _ I h) fun v s1 ⟨x,H1,I1,r1,q1⟩=>?_) hs hw
 rw[h1]
 exact df (hg pins s1 σ H1 x v _ I1 r1 q1) fun _ s2 q=>q
theorem yS{i:Nat}{x:Str}{e:Expr}{te:TE}{pos':Pos}(hN:X.N.Nodup)(hi:X.N[i]? =some x)(hx:Loc X.env.scope x)(he:PE X e te)(hs:swapsWith e (some (.Name x pos')) pos.line X.env=pure false:=by rfl)(hf:X.fn x=true\/X.env.scope.names.lookup x=some .local:=by first|exact .inl rfl|exact .inr rfl|assumption):
  PS X (.Assign [.Name x pos'] e pos) (DL te (yQ i)):=by
 intro pins s σ H D I h
 refine wpAny_Assign_Name (df (he pins s σ H _ I h) fun v s1 ⟨y,H1,I1,r1,q1⟩=>?_) hs
 exact m8 I1 hN hi hx r1 (fun s2 I2=>⟨_,H1,I2,q1⟩) hf
end
section
variable {X:Cx}{pos:Pos}
def DN(c:TT)(tb:TS):TS:=fun D σ H=>∃ W:Nat->St->Hp->Prop,(∃ m,W m σ H)/\∀ m σ H,W m σ H->
 c σ H fun b H1=>if b=true then ∃ N:St->Hp->Prop,(∀ σ' H',N σ' H'->∃ m',m'<m/\W m' σ' H')/\tb {D with nx:=N,ct:=N,bk:=D.nx} σ H1 else D.nx σ H1
theorem yT{c:Expr}{body:List Stmt}{tc:TT}{tb:TS}(hp:PassesOwn (model X.prog X.w) X.A X.env X.xe)(hc:PT X c tc)(hb:oY X body tb):PS X (.While c body [] pos) (DN tc tb):=by
 intro pins s σ H D I h
 obtain⟨W,⟨m0,w0⟩,turn⟩:=h
 refine wpAny_While (codeAny_whileLoop (fun n s'=>∃ σ' H',Inv X pins σ' H' s'/\W n σ' H') ?_ m0 ⟨σ,H,I,w0⟩)
 rintro n s1 ⟨σ1,H1,I1,w1⟩
 refine KQ hp (df (hc pins s1 σ1 H1 _ I1 (turn n σ1 H1 w1)) fun b s2 ⟨H2,I2,q2⟩=>?_)
 cases b with
 | true=>
  obtain⟨N,hN,q2⟩:=q2
  rw[if_pos rfl]
  refine KQ hp (df (hb pins s2 σ1 H2 _ I2 q2) fun f s3 q3=>?_)
  cases f with
  |next=>
   obtain⟨σ3,H3,I3,n3⟩:=q3
   obtain⟨m',hm,w3⟩:=hN σ3 H3 n3
   exact⟨m',hm,σ3,H3,I3,w3⟩
  |cont=>
   obtain⟨σ3,H3,I3,n3⟩:=q3
   obtain⟨m',hm,w3⟩:=hN σ3 H3 n3
   exact⟨m',hm,σ3,H3,I3,w3⟩
  |brk=>exact q3
  |ret v=>exact q3
 |false=>
  rw[if_neg Kx]
  exact K6 ⟨σ1,H2,I2,q2⟩
end
structure It where
 go:Nat->Hp->Prop
 yld:Nat->Hp->V->Hp->Prop
 stop:Nat->Hp->Prop
def jb(X:Cx)(pins:List (Addr×Obj))(H:Hp)(b:Addr):Prop:=
 H b=none/\b≠X.env.locals/\b ∉ X.fs/\(b∈X.ex\/X.s₀.heap.objs.size<=b)/\(∀ x c,X.env.cells.lookup x=some c->c≠b)/\∀ p∈X.pn++pins,p.1≠b
theorem Inv.fpOk{X:Cx}{pins:List (Addr×Obj)}{σ:St}{H H':Hp}{s:Shared}{b:Addr}(I:Inv X pins σ H s)(hb:s.heap.objs.size<=b)(hn:H' b=none):jb X pins H' b:=by
 refine⟨hn,KD (Jx I.lt hb),I.nofs hb,.inr (Ju I.sz hb),fun x c e z=>?_,fun p hp z=>?_⟩
 ·obtain⟨v,q⟩:=I.cell x c e
  exact absurd (Jx q.lt (by rw[z];exact hb)) (KB _)
 ·exact absurd (Jx (Jm (I.pin p hp).1) (by rw[z];exact hb)) (KB _)
structure Turn(P:Program)(w:World)(K:PySem.W.Frag)(tg:Expr)(J:It)(fp:List Addr)(it:Addr)(tn:Nat->Heap->Prop):Prop where
 mem:it∈fp
 obj:∀ i h,tn i h->∀ b∈fp,∃ o,h.get? b=some o/\∀ v,o.data≠ .cell v
 keep:∀ i h h',tn i h->(∀ b∈fp,∀ o,h.get? b=some o->h'.get? b=some o)->tn i h'
 item:∀(X:Cx),X.prog=P->X.w=w->X.K=K->X.calm=true->∀(i:Nat) (pins:List (Addr×Obj)) (s:Shared) (σ:St) (H:Hp) (E:Value->Shared->Prop),Inv X pins σ H s->(∀ b∈fp,jb X pins H b)->tn i s.heap->J.go i H->
  wpAny (model P w) X.A (pyNext (.ref it)) (fun r s1=>∃ u,r=some u/\
   wpAny (model P w) X.A (letOwnedTupleGo tg (.ref it) u) (fun _ s2=>∃ x H',Inv X pins σ H' s2/\RelV x u/\J.yld i H x H'/\tn (i+1) s2.heap/\∀ b∈fp,H' b=none) E s1) E s
 done:∀(X:Cx),X.prog=P->X.w=w->X.K=K->X.calm=true->∀(i:Nat) (pins:List (Addr×Obj)) (s:Shared) (σ:St) (H:Hp) (E:Value->Shared->Prop),Inv X pins σ H s->(∀ b∈fp,jb X pins H b)->tn i s.heap->J.stop i H->
  wpAny (model P w) X.A (pyNext (.ref it)) (fun r s1=>r=none/\Inv X pins σ H s1) E s
 self:∀(A:Around) (i:Nat) (s:Shared) (Q:Value->Shared->Prop) (E:Value->Shared->Prop),tn i s.heap->Q (.ref it) s->wpAny (model P w) A (pyIter (.ref it)) Q E s
abbrev TI:=St->Hp->(It->Hp->Prop)->Prop
def Iz(X:Cx)(pins:List (Addr×Obj))(σ:St)(tg:Expr)(R:It->Hp->Prop)(itv:Value)(s2:Shared):Prop:=
 ∃(it:Addr) (fp:List Addr) (tn:Nat->Heap->Prop) (J:It) (H':Hp),itv= .ref it/\Inv X pins σ H' s2/\Turn X.prog X.w X.K tg J fp it tn/\tn 0 s2.heap/\(∀ b∈fp,jb X pins H' b)/\R J H'
def PI(X:Cx)(tg iter:Expr)(wi:TI):Prop:=
 ∀(pins:List (Addr×Obj)) (s:Shared) (σ:St) (H:Hp) (R:It->Hp->Prop),Inv X pins σ H s->wi σ H R->
  wpAny (model X.prog X.w) X.A (eval iter X.env) (fun v s1=>wpAny (model X.prog X.w) X.A (pyIter v) (Iz X pins σ tg R) X.xe s1) X.xe s
theorem yU {M:Model} {A:Around} {E:Value->Shared->Prop} {s:Shared} {tg:Expr} {it:Addr} {u:Value} {o:Obj} {n:String} {vs:Array Value} {Q:Unit->Shared->Prop} (ho:s.heap.get? it=some o) (hc:o.cls= .type n) (hd:o.data= .fields vs)
    (hn:["enumerate","zip","dict_itemiterator","dict_reverseitemiterator","odict_iterator","itertools.zip_longest","itertools.pairwise"].contains n=false) (hQ:Q () s):wpAny M A (letOwnedTupleGo tg (.ref it) u) Q E s:=by
  unfold letOwnedTupleGo
  cases tg <;>first
    |exact Ji hQ
    |(cases u<;>first
        |exact Ji hQ
        | (refine Jg (wpAny_load ho ?_)
           rw[hc,hd]
           show wpAny M A (if (["enumerate","zip","dict_itemiterator","dict_reverseitemiterator","odict_iterator","itertools.zip_longest","itertools.pairwise"].contains n && vs[0]? ==some (rawInt _))=true then _ else _) Q E s
           rw[if_neg (by intro h;rw[hn,Lf]at h;cases h)]
           exact Ji hQ))
def G0(K:PySem.W.Frag)(a:Addr):It:=
 ⟨fun i H=>∃ xs x,iY K H a xs/\xs[i]? =some x,fun i H x H'=>H'=H/\∀ xs,iY K H a xs->xs[i]? =some x,fun i H=>∃ xs,iY K H a xs/\xs.length<=i⟩
def HA(K:PySem.W.Frag)(a:Addr):It:=
 ⟨fun i H=>∃ xs x,j5 K H a xs/\xs[i]? =some x,fun i H x H'=>H'=H/\∀ xs,j5 K H a xs->xs[i]? =some x,fun i H=>∃ xs,j5 K H a xs/\xs.length<=i⟩
def FP(lo:Int)(n:Nat):It:=⟨fun i _=>i<n,fun i H x H'=>H'=H/\x= .int (lo+i),fun i _=>n<=i⟩
theorem xm{P:Program}{w:World}{K:PySem.W.Frag}{tg:Expr}(a it:Addr):Turn P w K tg (G0 K a) [it] it (fun i h=>h.IsListIter it a i) where
 mem:=by simp
 obj:=fun i h st b hb=>by
  have e:b=it:=by simpa using hb
  subst e
  obtain⟨o,e,c,d⟩:=st
  exact⟨o,e,fun v z=>by rw[d]at z;cases z⟩
 keep:=fun i h h' st k=>st.at fun o e=>k it (by simp) o e
 item:=by
  intro X hP hw hK hc i pins s σ H E I hf st hg
  subst hP hw hK
  obtain⟨xs,x,hq,hx⟩:=hg
  obtain⟨its,rv,p,hz⟩:=I.list hq
  obtain⟨u,hu,ru⟩:=rv.get hx
  obtain⟨f0,f1,f2,f3,f4,f5⟩:=hf it (by simp)
  refine wpAny_pyNext_list_item st p.isList (x:=u) (by simpa using hu) fun h' st' sb=>?_
  have I1:Inv X pins σ H {s with heap:=h'}:=I.turned (t':=s.toks) (fun b o hb e=>(sb.2 b hb).trans e) f0 f1 f3 f4 f5
  obtain⟨o,e,c,d⟩:=id st'
  exact⟨u,rfl,yU (s:={s with heap:=h'}) e c d (by decide) ⟨x,H,I1,ru,⟨rfl,fun ys hy=>by rw[I.list_inj hy hq];exact hx⟩,st',fun b hb=>(hf b hb).1⟩⟩
 done:=by
  intro X hP hw hK hc i pins s σ H E I hf st hg
  subst hP hw hK
  obtain⟨xs,hq,hx⟩:=hg
  obtain⟨its,rv,p,hz⟩:=I.list hq
  obtain⟨f0,f1,f2,f3,f4,f5⟩:=hf it (by simp)
  have hl:=rv.length
  exact wpAny_pyNext_list_end (I.ok.hd hc) st p.isList (by simp;omega) fun h' eb=>⟨rfl,I.turned (t':=s.toks) (fun b o hb e=>eb b o hb e) f0 f1 f3 f4 f5⟩
 self:=fun _ _ _ _ _ st h=>wpAny_pyIter_listiter st h
theorem ux{P:Program}{w:World}{K:PySem.W.Frag}{tg:Expr}(a it:Addr):Turn P w K tg (HA K a) [it] it (fun i h=>h.IsTupleIter it a i) where
 mem:=by simp
 obj:=fun i h st b hb=>by
  have e:b=it:=by simpa using hb
  subst e
  obtain⟨o,e,c,d⟩:=st
  exact⟨o,e,fun v z=>by rw[d]at z;cases z⟩
 keep:=fun i h h' st k=>st.at fun o e=>k it (by simp) o e
 item:=by
  intro X hP hw hK hc i pins s σ H E I hf st hg
  subst hP hw hK
  obtain⟨xs,x,hq,hx⟩:=hg
  obtain⟨its,rv,p,hz⟩:=I.tuple hq
  obtain⟨u,hu,ru⟩:=rv.get hx
  obtain⟨f0,f1,f2,f3,f4,f5⟩:=hf it (by simp)
  refine wpAny_pyNext_tuple_item st (show s.heap.IsTuple a its.toArray from p) (x:=u) (by simpa using hu) fun h' st' sb=>?_
  have I1:Inv X pins σ H {s with heap:=h'}:=I.turned (t':=s.toks) (fun b o hb e=>(sb.2 b hb).trans e) f0 f1 f3 f4 f5
  obtain⟨o,e,c,d⟩:=id st'
  exact⟨u,rfl,yU (s:={s with heap:=h'}) e c d (by decide) ⟨x,H,I1,ru,⟨rfl,fun ys hy=>by rw[I.tuple_inj hy hq];exact hx⟩,st',fun b hb=>(hf b hb).1⟩⟩
 done:=by
  intro X hP hw hK hc i pins s σ H E I hf st hg
  subst hP hw hK
  obtain⟨xs,hq,hx⟩:=hg
  obtain⟨its,rv,p,hz⟩:=I.tuple hq
  obtain⟨f0,f1,f2,f3,f4,f5⟩:=hf it (by simp)
  have hl:=rv.length
  exact wpAny_pyNext_tuple_end (I.ok.hd hc) st (show s.heap.IsTuple a its.toArray from p) (by simp;omega) fun h' eb=>⟨rfl,I.turned (t':=s.toks) (fun b o hb e=>eb b o hb e) f0 f1 f3 f4 f5⟩
 self:=fun _ _ _ _ _ st h=>wpAny_pyIter_tupleiter st h
theorem uy{P:Program}{w:World}{K:PySem.W.Frag}{tg:Expr}(it:Addr)(lo:Int)(n:Nat):Turn P w K tg (FP lo n) [it] it (fun i h=>IsRangeIter h it (lo+(i:Nat)*1) ((n:Int) - (i:Nat)) 1) where
 mem:=by simp
 obj:=fun i h st b hb=>by
  have e:b=it:=by simpa using hb
  subst e
  exact⟨_,st,fun v z=>by
   have z':Data.fields _=Data.cell v:=z
   cases z'⟩
 keep:=fun i h h' st k=>k it (by simp) _ st
 item:=by
  intro X hP hw hK hc i pins s σ H E I hf st hg
  subst hP hw hK
  obtain⟨f0,f1,f2,f3,f4,f5⟩:=hf it (by simp)
  have W:=Walks.range (prog:=X.prog) (w:=X.w) (I.ok.hd hc) it lo 1 n
  refine W.item i s _ _ hg st fun v h' tk hv st' kk=>?_
  obtain⟨t,rfl⟩:=hv
  have I1:Inv X pins σ H {s with heap:=h',toks:=tk}:=I.turned (fun b o hb e=>kk b o (by simpa using hb) e) f0 f1 f3 f4 f5
  refine⟨_,rfl,yU (s:={s with heap:=h',toks:=tk}) (n:="range_iterator") st' rfl rfl (by decide) ⟨.int (lo+i),H,I1,⟨t,?_⟩,⟨rfl,rfl⟩,st',fun b hb=>(hf b hb).1⟩⟩
  rw[Int.mul_one]
 done:=by
  intro X hP hw hK hc i pins s σ H E I hf st hg
  subst hP hw hK
  obtain⟨f0,f1,f2,f3,f4,f5⟩:=hf it (by simp)
  exact wpAny_pyNext_range_end (I.ok.hd hc) st (by have:n<=i:=hg;omega) fun h' eb=>⟨rfl,I.turned (t':=s.toks) (fun b o hb e=>eb b o hb e) f0 f1 f3 f4 f5⟩
 self:=fun _ _ _ _ _ st h=>wpAny_pyIter_rangeiter st h
end L2
namespace L2
open PySem PySem.Spec PyProof.Rows
section
variable {X:Cx}{tg:Expr}
def FQ(K:PySem.W.Frag)(tl:TE):TI:=fun σ H R=>tl σ H fun x H1=>∃ a,x= .ref a/\(∃ xs,iY K H1 a xs)/\R (G0 K a) H1
def HB(K:PySem.W.Frag)(tl:TE):TI:=fun σ H R=>tl σ H fun x H1=>∃ a,x= .ref a/\(∃ xs,j5 K H1 a xs)/\R (HA K a) H1
theorem kA{l:Expr}{tl:TE}(hl:PE X l tl):PI X tg l (FQ X.K tl):=by
 intro pins s σ H R I h
 refine df (hl pins s σ H _ I h) fun v s1 ⟨x,H1,I1,r1,q1⟩=>?_
 obtain⟨a,e,⟨xs,hq⟩,q⟩:=q1
 subst e
 cases r1
 obtain⟨its,rv,p,hz⟩:=I1.list hq
 refine LR p.isList ?_
 refine⟨s1.heap.objs.size,[s1.heap.objs.size],_,_,H1,rfl,I1.kept (t':=s1.toks) fun b o e=>Jh _ e,xm a _,⟨_,Jo _ rfl,rfl,rfl⟩,fun b hb=>?_,q⟩
 have e:b=s1.heap.objs.size:=by simpa using hb
 subst e
 exact I1.fpOk (Jj _) (I1.hok.fresh (Jj _))
theorem DO{l:Expr}{tl:TE}(hl:PE X l tl):PI X tg l (HB X.K tl):=by
 intro pins s σ H R I h
 refine df (hl pins s σ H _ I h) fun v s1 ⟨x,H1,I1,r1,q1⟩=>?_
 obtain⟨a,e,⟨xs,hq⟩,q⟩:=q1
 subst e
 cases r1
 obtain⟨its,rv,p,hz⟩:=I1.tuple hq
 refine Lx (show s1.heap.IsTuple a its.toArray from p) ?_
 refine⟨s1.heap.objs.size,[s1.heap.objs.size],_,_,H1,rfl,I1.kept (t':=s1.toks) fun b o e=>Jh _ e,ux a _,⟨_,Jo _ rfl,rfl,rfl⟩,fun b hb=>?_,q⟩
 have e:b=s1.heap.objs.size:=by simpa using hb
 subst e
 exact I1.fpOk (Jj _) (I1.hok.fresh (Jj _))
theorem sv{pins:List (Addr×Obj)}{σ:St}{H:Hp}{s:Shared}{R:It->Hp->Prop}{E:Value->Shared->Prop}{lo hi:Int}{t u v:Tok}{tk:Nat}(I:Inv X pins σ H s)(h1: -(2 ^ 62)<=lo)(h2:lo<2 ^ 62)(h3: -(2 ^ 62)<=hi)(h4:hi<2 ^ 62)
  (q:R (FP lo (hi - lo).toNat) H):wpAny (model X.prog X.w) X.A (pyIter (.ref s.heap.objs.size)) (Iz X pins σ tg R) E {s with heap:=s.heap.push {cls:=.type "range",data:=.fields #[.int lo t,.int hi u,.int 1 v]},toks:=tk}:=by
 refine wpAny_pyIter_range (IsRange.new ..) (small_one h1 h2 h3 h4) ?_
 have I1:Inv X pins σ H {s with heap:=s.heap.push {cls:=.type "range",data:=.fields #[.int lo t,.int hi u,.int 1 v]},toks:=tk}:=I.kept fun b o e=>Jh _ e
 refine⟨(s.heap.push {cls:=.type "range",data:=.fields #[.int lo t,.int hi u,.int 1 v]}).objs.size,[(s.heap.push {cls:=.type "range",data:=.fields #[.int lo t,.int hi u,.int 1 v]}).objs.size],_,_,H,rfl,
  I1.kept (t':=tk) fun b o e=>Jh _ e,uy _ lo (hi - lo).toNat,?_,fun b hb=>?_,q⟩
 ·have e1:lo+((0:Nat):Int)*1=lo:=by simp
  have e2:(((hi - lo).toNat:Nat):Int) - ((0:Nat):Int)=Builtin.Range.rangeSize lo hi 1:=by rw[rangeSize_one];split<;>omega
  show IsRangeIter _ _ (lo+((0:Nat):Int)*1) ((((hi - lo).toNat:Nat):Int) - ((0:Nat):Int)) 1
  rw[e1,e2]
  exact Jo _ rfl
 ·have e:b=(s.heap.push {cls:=.type "range",data:=.fields #[.int lo t,.int hi u,.int 1 v]}).objs.size:=by simpa using hb
  subst e
  exact I1.fpOk (Jj _) (I1.hok.fresh (Jj _))
def FR(ta:TA):TI:=fun σ H R=>ta σ H fun vs H1=>∃ j:Int,vs=[.int j]/\ -(2 ^ 62)<=j/\j<2 ^ 62/\R (FP 0 j.toNat) H1
def FS(ta:TA):TI:=fun σ H R=>ta σ H fun vs H1=>∃ i j:Int,vs=[.int i,.int j]/\(-(2 ^ 62)<=i/\i<2 ^ 62/\ -(2 ^ 62)<=j/\j<2 ^ 62)/\R (FP i (j - i).toNat) H1
theorem xn{a:Expr}{ta:TA}{p pos:Pos}(hg:Gl X "range")(hm:X.mg "range"=none)(ha:PA X [a] ta)(hs:starEach [a] X.env=[(false,eval a X.env)]:=by rfl):PI X tg (.Call (.Name "range" p) [a] [] pos) (FR ta):=by
 intro pins s σ H R I h
 refine Call_ (lz I hg hm boot_range (KG (df (ha pos pins s σ H _ I h) fun us s1 ⟨vs,H1,I1,r1,q1⟩=>?_) hs rfl))
 obtain⟨j,e,q1,q2,q⟩:=q1
 subst e
 cases r1 with
 |cons r rr=>
  cases rr
  obtain⟨t,rfl⟩:=r
  exact call_range_1 (sv I1 (by omega) (by omega) q1 q2 (by simpa using q))
theorem xo{a b:Expr}{ta:TA}{p pos:Pos}(hg:Gl X "range")(hm:X.mg "range"=none)(ha:PA X [a,b] ta)(hs:starEach [a,b] X.env=[(false,eval a X.env),(false,eval b X.env)]:=by rfl)(hs2:starEach [b] X.env=[(false,eval b X.env)]:=by rfl):
  PI X tg (.Call (.Name "range" p) [a,b] [] pos) (FS ta):=by
 intro pins s σ H R I h
 refine Call_ (lz I hg hm boot_range (KG (df (ha pos pins s σ H _ I h) fun us s1 ⟨vs,H1,I1,r1,q1⟩=>?_) (by rw[hs,hs2]) (by rw[hs2];rfl)))
 obtain⟨i,j,e,⟨q1,q2,q3,q4⟩,q⟩:=q1
 subst e
 cases r1 with
 | cons r rr=>
  cases rr with
  |cons r' rr=>
   cases rr
   obtain⟨t,rfl⟩:=r
   obtain⟨t',rfl⟩:=r'
   exact call_range_2 (sv I1 q1 q2 q3 q4 q)
def HC(wi:TI)(g:TG)(tb:TS):TS:=fun D σ H=>wi σ H fun J H1=>∃ W:Nat->Nat->St->Hp->Prop,(∃ m,W 0 m σ H1)/\∀ i m σ H,W i m σ H->
 (J.stop i H/\D.nx σ H)\/(J.go i H/\∃ N:St->Hp->Prop,(∀ σ' H',N σ' H'->∃ m',m'<m/\W (i+1) m' σ' H')/\∀ x H',J.yld i H x H'->g x σ H' fun σ2 H2=>tb {D with nx:=N,ct:=N,bk:=D.nx} σ2 H2)
def lA(fp:List Addr)(h:Heap):List (Addr×Obj):=fp.filterMap fun b=>(h.get? b).map fun o=>(b,o)
theorem eL{fp:List Addr}{h:Heap}{b:Addr}{o:Obj}(hb:b∈fp)(e:h.get? b=some o):(b,o)∈lA fp h:=Kw.mpr ⟨b,hb,by rw[e];rfl⟩
theorem xp{fp:List Addr}{h:Heap}{p:Addr×Obj}(hp:p∈lA fp h):p.1∈fp/\h.get? p.1=some p.2:=by
 obtain⟨b,hb,e⟩:=Kw.mp hp
 cases q:h.get? b with
 |none=>rw[q]at e;cases e
 |some o=>
  rw[q]at e
  have e':(b,o)=p:=JI e
  subst e'
  exact⟨hb,q⟩
theorem Inv.pinned{pins:List (Addr×Obj)}{σ:St}{H:Hp}{s:Shared}{fp:List Addr}(I:Inv X pins σ H s)(hf:∀ b∈fp,jb X pins H b)(ho:∀ b∈fp,∃ o,s.heap.get? b=some o/\∀ v,o.data≠ .cell v):Inv X (pins++lA fp s.heap) σ H s:=
 I.pins_of fun p hp=>(Lw.mp hp).elim (fun z=>I.pin p (JA _ z)) fun z=>by
  obtain⟨hb,e⟩:=xp z
  obtain⟨f0,f1,f2,_⟩:=hf p.1 hb
  obtain⟨o,e',d⟩:=ho p.1 hb
  rw[e]at e';cases e'
  exact⟨e,f0,f1,f2,d⟩
theorem Inv.unpinned{pins pl:List (Addr×Obj)}{σ:St}{H:Hp}{s:Shared}(I:Inv X (pins++pl) σ H s):Inv X pins σ H s:=I.pins_of fun p hp=>I.pin p (JA _ (Ld _ hp))
theorem DP{iter:Expr}{body:List Stmt}{wi:TI}{g:TG}{tb:TS}{pos:Pos}(hp:PassesOwn (model X.prog X.w) X.A X.env X.xe)(hc:X.calm=true)(hi:PI X tg iter wi)(hg:PG X tg g)(hb:oY X body tb)
  (hs:∀ x,foldedSetIterable iter X.env x=pure x:=by intro _;rfl):PS X (.For tg iter body [] pos) (HC wi g tb):=by
 intro pins s σ H D I h
 refine wpAny_For (df (hi pins s σ H _ I h) fun v s1 h1=>df h1 fun itv s2 h2=>?_) hs
 obtain⟨it,fp,tn,J,H2,e,I2,T,st2,f2,W,⟨m0,w0⟩,turn⟩:=h2
 subst e
 have stat:∀{H':Hp},(∀ b∈fp,H' b=none)->∀ b∈fp,jb X pins H' b:=fun hn b hb=>⟨hn b hb,(f2 b hb).2⟩
 refine codeAny_forLoop_any (fun n s'=>∃ i σ' H',Inv X pins σ' H' s'/\tn i s'.heap/\(∀ b∈fp,H' b=none)/\W i n σ' H') ?_ m0 ⟨0,σ,H2,I2,st2,fun b hb=>(f2 b hb).1,w0⟩
 rintro n s3 ⟨i,σ3,H3,I3,st3,fr3,w3⟩
 rcases turn i n σ3 H3 w3 with⟨stop,qn⟩|⟨go,N,hN,step⟩
 ·refine KQ hp (df (T.done X rfl rfl rfl hc i pins s3 σ3 H3 X.xe I3 (stat fr3) st3 stop) fun r s4 ⟨hr,I4⟩=>?_)
  subst hr
  exact K6 ⟨σ3,H3,I4,qn⟩
 ·refine KQ hp (df (T.item X rfl rfl rfl hc i pins s3 σ3 H3 X.xe I3 (stat fr3) st3 go) fun r s4 ⟨u,hr,h4⟩=>?_)
  subst hr
  refine KQ hp (df h4 fun _ s5 ⟨x,H5,I5,r5,y5,st5,fr5⟩=>?_)
  have I5':=I5.pinned (stat fr5) (T.obj _ _ st5)
  refine KQ hp (df (hg _ s5 σ3 H5 x u _ I5' r5 (step x H5 y5)) fun _ s6 ⟨σ6,H6,I6,q6⟩=>?_)
  refine KQ hp (df (hb _ s6 σ6 H6 _ I6 q6) fun f s7 q7=>?_)
  have again:∀{σ7:St} {H7:Hp},Inv X (pins++lA fp s5.heap) σ7 H7 s7->N σ7 H7->∃ m,m<n/\∃ i σ' H',Inv X pins σ' H' s7/\tn i s7.heap/\(∀ b∈fp,H' b=none)/\W i m σ' H':=fun{σ7 H7} I7 n7=>by
   obtain⟨m',hm,w7⟩:=hN σ7 H7 n7
   refine⟨m',hm,i+1,σ7,H7,I7.unpinned,T.keep _ _ _ st5 fun b hb o e=>(I7.pin (b,o) (JA _ (JA _ (eL hb e)))).1,fun b hb=>?_,w7⟩
   obtain⟨o,e,d⟩:=T.obj _ _ st5 b hb
   exact(I7.pin (b,o) (JA _ (JA _ (eL hb e)))).2.1
  cases f with
  |next=>obtain⟨σ7,H7,I7,n7⟩:=q7;exact again I7 n7
  |cont=>obtain⟨σ7,H7,I7,n7⟩:=q7;exact again I7 n7
  |brk=>obtain⟨σ7,H7,I7,q7⟩:=q7;exact⟨σ7,H7,I7.unpinned,q7⟩
  |ret v=>obtain⟨x7,σ7,H7,I7,r7,q7⟩:=q7;exact⟨x7,σ7,H7,I7.unpinned,r7,q7⟩
end
end L2
namespace L2
open PySem PySem.Spec PyProof.Rows
abbrev R2:=V->V->Hp->VK->Prop
def iS(X:Cx)(f:Value->Value->Sem Value)(r:R2):Prop:=
 ∀(pins:List (Addr×Obj)) (s:Shared) (σ:St) (H:Hp) (x y:V) (v u:Value) (Q:VK),Inv X pins σ H s->RelV x v->RelV y u->r x y H Q->
  wpAny (model X.prog X.w) X.A (f v u) (EP X pins σ Q) X.xe s
def HD(X:Cx)(f:Value->Sem Value)(r:V->Hp->VK->Prop):Prop:=
 ∀(pins:List (Addr×Obj)) (s:Shared) (σ:St) (H:Hp) (x:V) (v:Value) (Q:VK),Inv X pins σ H s->RelV x v->r x H Q->
  wpAny (model X.prog X.w) X.A (f v) (EP X pins σ Q) X.xe s
def cG(X:Cx)(f:Value)(r:List V->Hp->VK->Prop):Prop:=
 ∀(pins:List (Addr×Obj)) (s:Shared) (σ:St) (H:Hp) (xs:List V) (us:List Value) (Q:VK),Inv X pins σ H s->aZ xs us->r xs H Q->
  wpAny (model X.prog X.w) X.A (call f us) (EP X pins σ Q) X.xe s
def FT(r:R2)(ta tb:TE):TE:=fun σ H Q=>ta σ H fun x H1=>tb σ H1 fun y H2=>r x y H2 Q
def IP(r:V->Hp->VK->Prop)(ta:TE):TE:=fun σ H Q=>ta σ H fun x H1=>r x H1 Q
def rI(C:Int->Int->Prop)(g:Int->Int->V):R2:=fun x y H Q=>∃ i j,x= .int i/\y= .int j/\C i j/\Q (g i j) H
def Bl(g:Int->Int->V):R2:=fun x y H Q=>∃ i j,x= .int i/\y= .int j/\Q (g i j) H
def rU(g:Int->V):V->Hp->VK->Prop:=fun x H Q=>∃ i,x= .int i/\Q (g i) H
section
variable {X:Cx}{a b c:Expr}{ta tb tc:TE}{pos:Pos}
theorem DQ(ha:PE X a ta)(hb:PE X b tb){pins:List (Addr×Obj)}{s:Shared}{σ:St}{H:Hp}{R:V->V->Hp->Prop}(I:Inv X pins σ H s)
  (h:ta σ H fun x H1=>tb σ H1 fun y H2=>R x y H2) {Q:Value->Shared->Prop} {f:Value->Value->Sem Value}
  (hf:∀ v u s2 x y H2,Inv X pins σ H2 s2->RelV x v->RelV y u->R x y H2->wpAny (model X.prog X.w) X.A (f v u) Q X.xe s2):
  wpAny (model X.prog X.w) X.A (eval a X.env) (fun v s₁=>wpAny (model X.prog X.w) X.A (eval b X.env) (fun u s₂=>wpAny (model X.prog X.w) X.A (f v u) Q X.xe s₂) X.xe s₁) X.xe s:=by
 refine df (ha pins s σ H _ I h) fun v s1 ⟨x,H1,I1,r1,q1⟩=>?_
 refine df (hb pins s1 σ H1 _ I1 q1) fun u s2 ⟨y,H2,I2,r2,q2⟩=>?_
 exact hf v u s2 x y H2 I2 r1 r2 q2
theorem FU{op:Operator}{r:R2}(ho:iS X (binaryOp op) r)(ha:PE X a ta)(hb:PE X b tb):PE X (.BinOp a op b pos) (FT r ta tb):=by
 intro pins s σ H Q I h
 exact wpAny_BinOp (DQ ha hb I h fun v u s2 x y H2 I2 rx ry q=>ho pins s2 σ H2 x y v u Q I2 rx ry q)
theorem FV{op:UnaryOp}{r:V->Hp->VK->Prop}(ho:HD X (unaryOp op) r)(ha:PE X a ta):PE X (.UnaryOp op a pos) (IP r ta):=by
 intro pins s σ H Q I h
 exact UnaryOp_ (df (ha pins s σ H _ I h) fun v s1 ⟨x,H1,I1,r1,q1⟩=>ho pins s1 σ H1 x v Q I1 r1 q1)
theorem G1{f:Value->Value->Sem Value}{C:Int->Int->Prop}{g:Int->Int->Int}
  (rule:∀(i j:Int) (t u:Tok) (s:Shared) (Q:Value->Shared->Prop) (E:Value->Shared->Prop),C i j->Q (.int (g i j) s.toks) {s with toks:=s.toks+1}->wpAny (model X.prog X.w) X.A (f (.int i t) (.int j u)) Q E s):
  iS X f (rI C fun i j=>.int (g i j)):=by
 intro pins s σ H x y v u Q I rx ry h
 obtain⟨i,j,rfl,rfl,hc,q⟩:=h
 obtain⟨t,rfl⟩:=rx
 obtain⟨t',rfl⟩:=ry
 exact rule i j t t' s _ _ hc ⟨.int (g i j),H,I.tok _,⟨_,rfl⟩,q⟩
theorem FW{f:Value->Value->Sem Value}{g:Int->Int->Int}
  (rule:∀(i j:Int) (t u:Tok) (s:Shared) (Q:Value->Shared->Prop) (E:Value->Shared->Prop),Q (.int (g i j) s.toks) {s with toks:=s.toks+1}->wpAny (model X.prog X.w) X.A (f (.int i t) (.int j u)) Q E s):
  iS X f (Bl fun i j=>.int (g i j)):=by
 intro pins s σ H x y v u Q I rx ry h
 obtain⟨i,j,rfl,rfl,q⟩:=h
 obtain⟨t,rfl⟩:=rx
 obtain⟨t',rfl⟩:=ry
 exact rule i j t t' s _ _ ⟨.int (g i j),H,I.tok _,⟨_,rfl⟩,q⟩
theorem BA{f:Value->Value->Sem Value}{g:Int->Int->Bool}
  (rule:∀(i j:Int) (t u:Tok) (s:Shared) (Q:Value->Shared->Prop) (E:Value->Shared->Prop),Q (.bool (g i j)) s->wpAny (model X.prog X.w) X.A (f (.int i t) (.int j u)) Q E s):
  iS X f (Bl fun i j=>.bl (g i j)):=by
 intro pins s σ H x y v u Q I rx ry h
 obtain⟨i,j,rfl,rfl,q⟩:=h
 obtain⟨t,rfl⟩:=rx
 obtain⟨t',rfl⟩:=ry
 exact rule i j t t' s _ _ ⟨.bl (g i j),H,I,rfl,q⟩
def uz(i j:Int):Prop:=0<j/\j<1073741824
def yV(i j:Int):Prop:=0<=j/\j<=1000000/\i.natAbs<2 ^ 64
def oZ(i j:Int):Prop:=(-(2 ^ 64)<i/\i<2 ^ 64)\/(-(2 ^ 64)<j/\j<2 ^ 64)
theorem oZ.ok{i j:Int}(h:oZ i j):IntMulOk i j:=by
 rcases h with⟨h1,h2⟩|⟨h1,h2⟩
 ·exact .of_left (intBits_le_64 h1 h2)
 ·exact .of_right (intBits_le_64 h1 h2)
theorem DR:iS X (binaryOp .Add) (Bl fun i j=>.int (i+j)):=FW fun _ _ _ _ _ _ _ q=>add_int q
theorem DS:iS X (binaryOp .Sub) (Bl fun i j=>.int (i - j)):=FW fun _ _ _ _ _ _ _ q=>sub_int q
theorem DT:iS X (binaryOp .Mult) (rI oZ fun i j=>.int (i*j)):=G1 fun _ _ _ _ _ _ _ hc q=>mul_int q hc.ok
theorem BB:iS X (binaryOp .FloorDiv) (rI uz fun i j=>.int (i / j)):=G1 fun i j _ _ _ _ _ hc q=>by
 have h1:(0:Int)<j:=hc.1
 have h2:j<1073741824:=hc.2
 exact floordiv_int (by omega) (by rw[Int.fdiv_eq_ediv_of_nonneg i (by omega)];exact q) (.inl (PyProof.noPylong_small (by omega)))
theorem DU:iS X (binaryOp .Mod) (rI (fun _ j=>0<j) fun i j=>.int (i % j)):=G1 fun i j _ _ _ _ _ hc q=>by
 have h1:(0:Int)<j:=hc
 exact mod_int' (by omega) (by rw[Int.fmod_eq_emod_of_nonneg i (by omega)];exact q)
theorem DV:iS X (binaryOp .Pow) (rI yV fun i j=>.int (i ^ j.toNat)):=G1 fun _ _ _ _ _ _ _ hc q=>pow_int_small hc.1 hc.2.1 hc.2.2 q
theorem IQ{f:Value->Sem Value}{g:Int->Int}
  (rule:∀(i:Int) (t:Tok) (s:Shared) (Q:Value->Shared->Prop) (E:Value->Shared->Prop),Q (.int (g i) s.toks) {s with toks:=s.toks+1}->wpAny (model X.prog X.w) X.A (f (.int i t)) Q E s):
  HD X f (rU fun i=>.int (g i)):=by
 intro pins s σ H x v Q I rx h
 obtain⟨i,rfl,q⟩:=h
 obtain⟨t,rfl⟩:=rx
 exact rule i t s _ _ ⟨.int (g i),H,I.tok _,⟨_,rfl⟩,q⟩
theorem DW:HD X (unaryOp .USub) (rU fun i=>.int (-i)):=IQ fun _ _ _ _ _ q=>neg_int q
end
section
variable {X:Cx}{a b c:Expr}{ta tb tc:TE}{pos:Pos}
theorem yW:iS X (compareOp .Lt) (Bl fun i j=>.bl (decide (i<j))):=BA fun _ _ _ _ _ _ _ q=>lt_int q
theorem sx:iS X (compareOp .LtE) (Bl fun i j=>.bl (decide (i<=j))):=BA fun _ _ _ _ _ _ _ q=>le_int q
theorem FX:iS X (compareOp .Gt) (Bl fun i j=>.bl (decide (j<i))):=BA fun _ _ _ _ _ _ _ q=>gt_int q
theorem FY:iS X (compareOp .GtE) (Bl fun i j=>.bl (decide (j<=i))):=BA fun _ _ _ _ _ _ _ q=>ge_int q
theorem iS.or{f:Value->Value->Sem Value}{r r':R2}(h:iS X f r)(h':iS X f r'):iS X f (fun x y H Q=>r x y H Q\/r' x y H Q):=by
 intro pins s σ H x y v u Q I rx ry q
 rcases q with q|q
 ·exact h pins s σ H x y v u Q I rx ry q
 ·exact h' pins s σ H x y v u Q I rx ry q
theorem HE(b:Expr){op:CmpOp}(h:op≠ .In:=by decide)(h2:op≠ .NotIn:=by decide):behindInMarks op b=false:=by
 have e1:(op==CmpOp.In)=false:=by cases op<;>first|rfl|exact absurd rfl h
 have e2:(op==CmpOp.NotIn)=false:=by cases op<;>first|rfl|exact absurd rfl h2
 cases b<;>simp[behindInMarks,e1,e2]
theorem BC{op:CmpOp}{r:R2}(ho:iS X (compareOp op) r)(ha:PE X a ta)(hb:PE X b tb)(hm:behindInMarks op b=false):PE X (.Compare a [op] [b] pos) (FT r ta tb):=by
 intro pins s σ H Q I h
 exact wpAny_Compare1 (DQ ha hb I h fun v u s2 x y H2 I2 rx ry q=>ho pins s2 σ H2 x y v u Q I2 rx ry q) hm
def Da(t:TE):TT:=fun σ H Q=>t σ H fun x H'=>∃ k,x= .bl k/\Q k H'
theorem BD{op:CmpOp}{r:R2}(ho:iS X (compareOp op) r)(ha:PE X a ta)(hb:PE X b tb)(hm:behindInMarks op b=false):PT X (.Compare a [op] [b] pos) (Da (FT r ta tb)):=by
 intro pins s σ H Q I h
 refine wpAny_isTrue_Compare1 (df (ha pins s σ H _ I h) fun v s1 ⟨x,H1,I1,r1,q1⟩=>df (hb pins s1 σ H1 _ I1 q1) fun u s2 ⟨y,H2,I2,r2,q2⟩=>
  df (ho pins s2 σ H2 x y v u _ I2 r1 r2 q2) fun c s3 ⟨z,H3,I3,r3,k,e,q3⟩=>?_) hm
 subst e
 cases r3
 exact Kf ⟨H3,I3,q3⟩
def uA(r r':R2)(ta tb tc:TE):TE:=fun σ H Q=>ta σ H fun x H1=>tb σ H1 fun y H2=>r x y H2 fun z H3=>∃ k,z= .bl k/\
 (if k=true then tc σ H3 fun w' H4=>r' y w' H4 Q else Q (.bl false) H3)
theorem yX{op op':CmpOp}{r r':R2}(ho:iS X (compareOp op) r)(ho':iS X (compareOp op') r')(ha:PE X a ta)(hb:PE X b tb)(hc:PE X c tc)
  (hm:lastMarks [op,op'] [b,c]=false:=by with_unfolding_all rfl):PE X (.Compare a [op,op'] [b,c] pos) (uA r r' ta tb tc):=by
 intro pins s σ H Q I h
 refine Compare_chain (df (ha pins s σ H _ I h) fun v s1 ⟨x,H1,I1,r1,q1⟩=>chain_link (df (hb pins s1 σ H1 _ I1 q1) fun u s2 ⟨y,H2,I2,r2,q2⟩=>
  df (ho pins s2 σ H2 x y v u _ I2 r1 r2 q2) fun d s3 ⟨z,H3,I3,r3,k,e,q3⟩=>?_)) hm
 subst e
 cases r3
 refine Kf ?_
 cases k with
 |false=>exact ite_ff ⟨.bl false,H3,I3,rfl,q3⟩
 |true=>exact ite_tt (chain_last (df (hc pins s3 σ H3 _ I3 q3) fun w' s4 ⟨z',H4,I4,r4,q4⟩=>ho' pins s4 σ H4 y z' u w' Q I4 r2 r4 q4))
theorem yY{op op':CmpOp}{r r':R2}(ho:iS X (compareOp op) r)(ho':iS X (compareOp op') r')(ha:PE X a ta)(hb:PE X b tb)(hc:PE X c tc)
  (hm:lastMarks [op,op'] [b,c]=false:=by with_unfolding_all rfl):PT X (.Compare a [op,op'] [b,c] pos) (Da (uA r r' ta tb tc)):=by
 intro pins s σ H Q I h
 refine isTrue_chain (df (ha pins s σ H _ I h) fun v s1 ⟨x,H1,I1,r1,q1⟩=>test_link (df (hb pins s1 σ H1 _ I1 q1) fun u s2 ⟨y,H2,I2,r2,q2⟩=>
  df (ho pins s2 σ H2 x y v u _ I2 r1 r2 q2) fun d s3 ⟨z,H3,I3,r3,k,e,q3⟩=>?_)) hm
 subst e
 cases r3
 refine Kf ?_
 cases k with
 |false=>
  obtain⟨k',e',q'⟩:=q3
  cases e'
  exact ite_ff ⟨H3,I3,q'⟩
 |true=>
  refine ite_tt (test_last (df (hc pins s3 σ H3 _ I3 q3) fun w' s4 ⟨z',H4,I4,r4,q4⟩=>df (ho' pins s4 σ H4 y z' u w' _ I4 r2 r4 q4) fun d' s5 ⟨z2,H5,I5,r5,k2,e2,q5⟩=>?_))
  subst e2
  cases r5
  exact Kf ⟨H5,I5,q5⟩
theorem m9:(sizeLine:Nat)<2 ^ 63:=by rw[J6];decide
theorem vals1{x:V}{us:List Value}(r:aZ [x] us):∃ u,us=[u]/\RelV x u:=by
 cases r with
 |cons r1 r2=>cases r2;exact⟨_,rfl,r1⟩
theorem vals2{x y:V}{us:List Value}(r:aZ [x,y] us):∃ u w',us=[u,w']/\RelV x u/\RelV y w':=by
 cases r with
 |cons r1 r2=>
  cases r2 with
  |cons r3 r4=>cases r4;exact⟨_,_,rfl,r1,r3⟩
theorem xq(hc:X.calm=true):cG X (.builtin "max") (fun xs H Q=>∃ i j,xs=[.int i,.int j]/\Q (.int (if j>i then j else i)) H):=by
 intro pins s σ H xs us Q I r h
 obtain⟨i,j,rfl,q⟩:=h
 obtain⟨u,w',rfl,⟨t,rfl⟩,⟨t',rfl⟩⟩:=vals2 r
 refine max_two_ints (I.ok.hd hc) fun h' tk k=>⟨_,H,I.kept k,?_,q⟩
 by_cases hj:j>i
 ·rw[if_pos hj,if_pos hj];exact⟨_,rfl⟩
 ·rw[if_neg hj,if_neg hj];exact⟨_,rfl⟩
theorem xr(hc:X.calm=true):cG X (.builtin "min") (fun xs H Q=>∃ i j,xs=[.int i,.int j]/\Q (.int (if j<i then j else i)) H):=by
 intro pins s σ H xs us Q I r h
 obtain⟨i,j,rfl,q⟩:=h
 obtain⟨u,w',rfl,⟨t,rfl⟩,⟨t',rfl⟩⟩:=vals2 r
 refine min_two_ints (I.ok.hd hc) fun h' tk k=>⟨_,H,I.kept k,?_,q⟩
 by_cases hj:j<i
 ·rw[if_pos hj,if_pos hj];exact⟨_,rfl⟩
 ·rw[if_neg hj,if_neg hj];exact⟨_,rfl⟩
end
end L2
namespace L2
open PySem PySem.Spec PyProof.Rows
structure ObjM(h:Heap)(x dx C:Addr)(mA:Str->Option Value):Prop where
 obj:h.get? x=some (PySem.W.instObj C dx)
 ns:h.Ns1 dx mA
 ne:dx≠x
theorem xt{h:Heap}{dx:Addr}{mA:Str->Option Value}(n:h.Ns1 dx mA):∃ od,h.get? dx=some od/\∀ name,PySem.W.lookIn name od=some (mA name):=by
 obtain⟨o,es,ep,ho,hd,hk,_,hm⟩:=n
 refine⟨o,ho,fun name=>?_⟩
 have e:=hm name
 unfold nsFind findBy at e
 rw[<-Mr]at e
 unfold PySem.W.lookIn
 rw[hd]
 dsimp only
 split
 ·rename_i y q
  rw[q]at e
  exact Li some e
 ·rename_i q
  rw[q]at e
  have a:es.toList.any (·.refKey)=false:=by
   rw[List.any_eq_false]
   intro y hy
   obtain⟨z,t,hkey⟩:=hk y (Ma.mp hy)
   simp[DictEntry.refKey,hkey]
  have a':¬ es.toList.any (·.refKey)=true:=by rw[a];exact Kx
  rw[if_neg a']
  exact Li some e
theorem ObjM.look{h:Heap}{x dx C:Addr}{mA:Str->Option Value}(I:ObjM h x dx C mA):∃ od,PySem.W.InstAt h x (PySem.W.instObj C dx) C (some od)/\∀ name,PySem.W.lookIn name od=some (mA name):=
 let ⟨od,ho,hl⟩:=xt I.ns
 ⟨od,⟨I.obj,rfl,rfl,ho⟩,hl⟩
section
variable {prog:Program}{w:World}{A:Around}{E:Value->Shared->Prop}{s:Shared}{K:PySem.W.Frag}{x dx C f:Addr}{mA:Str->Option Value}{name:Str}{v:Value}
end
theorem qz.some_of{v:V}{o:Option Value}(r:qz (some v) o):∃ u,o=some u/\RelV v u:=by
 cases o with
 |none=>exact(show False from r).elim
 |some u=>exact⟨u,rfl,r⟩
theorem xu{v:V}{u:Value}(r:RelV v u):PySem.W.handedIn u=true:=by
 cases v with
 |non=>cases (show u=Value.none from r);rfl
 |bl b=>cases (show u=Value.bool b from r);rfl
 |int i=>obtain⟨t,e⟩:=(show ∃ t,u=Value.int i t from r);cases e;rfl
 |str x=>obtain⟨t,e⟩:=(show ∃ t,u=Value.str x t from r);cases e;rfl
 |byt b=>obtain⟨t,e⟩:=(show ∃ t,u=Value.bytes b t from r);cases e;rfl
 |flt b=>obtain⟨t,e⟩:=(show ∃ t,u=Value.float b t from r);cases e;rfl
 |ref a=>cases (show u=Value.ref a from r);rfl
 |ty n=>cases (show u=Value.type n from r);rfl
section
variable {P:Program}{w:World}{H H':Hp}{h h':Heap}{a C dx:Addr}{fs fs':List (Str×V)}
theorem dQ(hok:eU P w H h)(e:H a=some (.ins C dx fs)):∃ mA,ObjM h a dx C mA/\(∀ f,qz (fs.lookup f) (mA f))/\PySem.Within mA (fs.map (·.1))/\fs.length<=1000/\H dx=some (.own a):=by
 obtain⟨d,z,ne,ob,mA,n,r,q⟩:=(show aY P w H h a (.ins C dx fs)from hok a _ e)
 exact⟨mA,⟨ob,n,ne⟩,r,q,z,d⟩
end
structure Cls(K:PySem.W.Frag)(C:Addr):Prop where
 pg:PySem.W.plainGet K C Str.empty=true
 hd:PySem.W.hasDictIn K C=true
 po:PySem.W.plainOver K C=true
 sa:PySem.W.findIn K (.ref C) "__setattr__"=some (some (.builtin "object.__setattr__"))
theorem Cls.get{K:PySem.W.Frag}{C:Addr}(c:Cls K C)(f:Str):PySem.W.plainGet K C f=true:=c.pg
structure Con(K:PySem.W.Frag)(C:Addr)(f:Str)(v:V)(u:Value):Prop where
 at_:PySem.W.findIn K (.ref C) f=some (some u)
 rel:RelV v u
 get:PySem.W.specialIn K u "__get__"=some none
 cp:PySem.W.copiedNames.contains f=false
structure Meth(K:PySem.W.Frag)(C:Addr)(m:Str)(f:Addr):Prop where
 at_:PySem.W.findIn K (.ref C) m=some (some (.ref f))
 fn:PySem.W.isFn K (.ref f)=true
 kp:PySem.W.keepIn K (.ref f)=true
section
variable {X:Cx}{pins:List (Addr×Obj)}{σ:St}{H:Hp}{s:Shared}{a C dx:Addr}{fs:List (Str×V)}{f:Str}{v:V}{A:Around}{E:Value->Shared->Prop}
theorem BE{prog:Program}{w:World}{env:Env}{e:Expr}{f:Str}{pos:Pos}{s:Shared}{Q:Value->Shared->Prop}(hb:attributeBase e f env (eval e env)=eval e env)
  (h:wpAny (model prog w) A (eval e env) (fun o s₁=>wpAny (model prog w) A (getAttr o f true) Q E s₁) E s):wpAny (model prog w) A (eval (.Attribute e f pos) env) Q E s:=
 Attribute_any_ h (by rw[arm_eval_Attribute,hb])
end
section
variable {X:Cx}{o e value:Expr}{f:Str}{pos pos' tpos:Pos}{ta tv:TE}
end
section
variable {X:Cx}{pins:List (Addr×Obj)}{σ:St}{H:Hp}{s:Shared}{A:Around}{E:Value->Shared->Prop}{Q:Value->Shared->Prop}{c:Value}{b:Bool}
inductive TyOf(K:PySem.W.Frag)(H:Hp):V->Value->Prop where
 |non:TyOf K H .non (.type "NoneType")
 |bl (x:Bool):TyOf K H (.bl x) (.type "bool")
 |int (i:Int):TyOf K H (.int i) (.type "int")
 |str (x:Str):TyOf K H (.str x) (.type "str")
 |flt (x:UInt64):TyOf K H (.flt x) (.type "float")
 |lst {a:Addr} {xs:List V} (e:H a=some (.lst xs)):TyOf K H (.ref a) (.type "list")
 |frz {a:Addr} {o:Obj} {xs:List V} (e:H a=some (.frz o (.lst xs))):TyOf K H (.ref a) (.type "list")
 |tup {a:Addr} {xs:List V} (e:H a=some (.tup xs)):TyOf K H (.ref a) (.type "tuple")
 |dK {a:Addr} {kvs:List (Key×V)} (e:H a=some (.dK kvs)):TyOf K H (.ref a) (.type "dict")
 |dT {a:Addr} {kvs:List (List Key×V)} (e:H a=some (.dT kvs)):TyOf K H (.ref a) (.type "dict")
 | ins {a C dx:Addr} {fs:List (Str×V)} (e:H a=some (.ins C dx fs)) (cl:Cls K C) (ha:PySem.W.findIn K (.ref C) "__class__"=some (some (.builtin "object.__class__")))
   (hn:PySem.W.specialIn K (.builtin "object.__class__") "__get__"=some (some (.builtin "getset_descriptor.__get__"))) (htk:PySem.W.takesIn K (.builtin "object.__class__")=some true)
   (hm:PySem.W.mroIn K C (.type "object")=some true):TyOf K H (.ref a) (.ref C)
theorem xv{x:V}{u t:Value}(I:Inv X pins σ H s)(rx:RelV x u)(ty:TyOf X.K H x t)(e:PySem.W.kitOne X.K t c=some b)(h:∀ tk,Q (.bool b) {s with toks:=tk}):
  wpAny (model X.prog X.w) A (call (.builtin "isinstance") [u,c]) Q E s:=by
 cases ty with
 |non=>cases (show u=Value.none from rx);exact J4 MA I.kIn True.intro e (fun z=>nomatch z) h
 |bl y=>cases (show u=Value.bool y from rx);exact J4 PySem.W.kitx_bool I.kIn True.intro e (fun z=>nomatch z) h
 |int i=>obtain⟨t,q⟩:=(show ∃ t,u=Value.int i t from rx);cases q;exact J4 PySem.W.kitx_int I.kIn True.intro e (fun z=>nomatch z) h
 |str y=>obtain⟨t,q⟩:=(show ∃ t,u=Value.str y t from rx);cases q;exact J4 PySem.W.kitx_str I.kIn True.intro e (fun z=>nomatch z) h
 |flt y=>obtain⟨t,q⟩:=(show ∃ t,u=Value.float y t from rx);cases q;exact J4 PySem.W.kitx_float I.kIn True.intro e (fun z=>nomatch z) h
 | @lst a xs ea=>
  cases (show u=Value.ref a from rx)
  obtain⟨_,_,n,_,h1⟩:=(show aY X.prog X.w H s.heap a (.lst xs)from I.hok a _ ea)
  exact J4 LS I.kIn ⟨_,h1,rfl⟩ e (fun z=>nomatch z) h
 | @frz a ob xs ea=>
  cases (show u=Value.ref a from rx)
  obtain⟨_,_,_,n,_,h1⟩:=(show aY X.prog X.w H s.heap a (.frz ob (.lst xs))from I.hok a _ ea)
  exact J4 LS I.kIn ⟨_,h1,rfl⟩ e (fun z=>nomatch z) h
 | @tup a xs ea=>
  cases (show u=Value.ref a from rx)
  obtain⟨_,_,_,p⟩:=(show aY X.prog X.w H s.heap a (.tup xs)from I.hok a _ ea)
  obtain⟨o,h1,h2,_⟩:=p
  exact J4 PySem.W.kitx_tuple I.kIn ⟨o,h1,h2⟩ e (fun z=>nomatch z) h
 | @dK a kvs ea=>
  cases (show u=Value.ref a from rx)
  obtain⟨_,_,vs,_,p⟩:=(show aY X.prog X.w H s.heap a (.dK kvs)from I.hok a _ ea)
  obtain⟨o,es,ep,h1,h2,_⟩:=p
  exact J4 LU I.kIn ⟨o,h1,h2.1⟩ e (fun z=>nomatch z) h
 | @dT a kvs ea=>
  cases (show u=Value.ref a from rx)
  obtain⟨_,_,xs,_,o,es,ep,h1,h2,_⟩:=(show aY X.prog X.w H s.heap a (.dT kvs)from I.hok a _ ea)
  exact J4 LU I.kIn ⟨o,h1,h2.1⟩ e (fun z=>nomatch z) h
 | @ins a C dx fs ea cl ha hn htk hm=>
  cases (show u=Value.ref a from rx)
  obtain⟨mA,O,_⟩:=dQ I.hok ea
  obtain⟨od,J,_⟩:=O.look
  exact J4 (PySem.W.kitx_own (cl.get _) cl.hd ha hn htk hm) I.kIn J e (fun z=>nomatch z) h
end
end L2
namespace L2
open PySem PySem.Spec PyProof.Rows
structure Room(k:Nat)(A:Around):Prop where
 hd:A.handled=none
 dp:A.depth+3*k+5<recursionLimit
 un:A.units+16*k+200<cLine
theorem Room.mono{j k:Nat}{A:Around}(r:Room k A)(h:j<=k):Room j A:=⟨r.hd,by have:=r.dp;omega,by have:=r.un;omega⟩
theorem Room.deeper{k:Nat}{A:Around}(r:Room (k+1) A)(env:Env):Room k (A.deeper env):=
 ⟨r.hd,by have:=r.dp;show A.depth+1+3*k+5<_;omega,by have:=r.un;show A.units+3+16*k+200<_;omega⟩
theorem uB{A:Around}{C:Addr}{us:List Value}{kw:List (Str×Value)}:(A.under (.builtin "type.__call__" ⟨.ref C::us,kw⟩)).depth=A.depth+1:=by
 first|rfl|simp[Around.under,Code.weight,Code.isCreation,Code.isGuard,Code.isCaller,Code.frames,Code.isFrame,guardIds]
theorem uC{A:Around}{C:Addr}{us:List Value}{kw:List (Str×Value)}:(A.under (.builtin "type.__call__" ⟨.ref C::us,kw⟩)).units=A.units+1:=by
 first|rfl|simp[Around.under,Code.cUnits,Code.frames,Code.isFrame]
theorem Room.make{k:Nat}{A:Around}(r:Room (k+1) A)(C:Addr)(us:List Value)(kw:List (Str×Value)):Room k (A.under (.builtin "type.__call__" ⟨.ref C::us,kw⟩)):=
 ⟨r.hd,by have:=r.dp;rw[uB];omega,by have:=r.un;rw[uC];omega⟩
theorem Room.depth{k:Nat}{A:Around}(r:Room k A):A.depth<recursionLimit:=by have:=r.dp;omega
def HF:TA:=fun _ H Q=>Q [] H
def FZ(ta:TE)(tr:TA):TA:=fun σ H Q=>ta σ H fun x H1=>tr σ H1 fun xs H2=>Q (x::xs) H2
section
variable {X:Cx}{e:Expr}{es:List Expr}{te:TE}{t:TA}{pos:Pos}
theorem iy:PA X [] HF:=fun _ _ _ _ H Q I h=>Calls.spliced_nil ⟨[],H,I,.nil,h⟩
theorem dr(ha:PE X e te)(hr:PA X es t)(hs:starEach (e::es) X.env=(false,eval e X.env)::starEach es X.env:=by rfl):PA X (e::es) (FZ te t):=by
 intro pos pins s σ H Q I h
 rw[hs]
 show wpAny _ _ (spliced ((false,eval e X.env)::backTo pos (starEach es X.env))) _ _ s
 refine Calls.spliced_cons (df (ha pins s σ H _ I h) fun u s1 ⟨x,H1,I1,r1,q1⟩=>?_)
 exact df (hr pos pins s1 σ H1 _ I1 q1) fun us s2 ⟨xs,H2,I2,r2,q2⟩=>⟨x::xs,H2,I2,.cons r1 r2,q2⟩
def HG(t:TA):TE:=fun σ H Q=>t σ H fun xs H1=>xs.length<=sizeLine/\∀ p,H1 p=none->Q (.ref p) (upd H1 p (.tup xs))
def HH(t:TA):TE:=fun σ H Q=>t σ H fun xs H1=>xs.length<=sizeLine/\∀ p,H1 p=none->Q (.ref p) (upd H1 p (.lst xs))
theorem yZ{x1}(h:PA X es t):PE X (.Tuple es x1 pos) (HG t):=by
 intro pins s σ H Q I hq
 refine wpAny_Tuple_spliced (df (h pos pins s σ H _ I hq) fun us s1 ⟨xs,H1,I1,r,z,q⟩=>⟨by rw[<-r.length];exact z,?_⟩)
 have hf:H1 s1.heap.objs.size=none:=I1.hok.fresh (Jj _)
 refine⟨.ref s1.heap.objs.size,upd H1 s1.heap.objs.size (.tup xs),I1.laid (t':=s1.toks) (fun b u e=>Jh _ e) (Jj _) ?_,rfl,q _ hf⟩
 exact⟨z,us,r,⟨_,Jo _ rfl,rfl,_,rfl⟩⟩
theorem DX(h:PA X es t):PE X (.List es pos) (HH t):=by
 intro pins s σ H Q I hq
 refine wpAny_List_spliced (df (h pos pins s σ H _ I hq) fun us s1 ⟨xs,H1,I1,r,z,q⟩=>⟨by rw[<-r.length];exact z,?_⟩)
 have hf:H1 s1.heap.objs.size=none:=I1.hok.fresh (Jj _)
 refine⟨.ref s1.heap.objs.size,upd H1 s1.heap.objs.size (.lst xs),I1.laid (t':=s1.toks) (fun b u e=>Jh _ e) (Jj _) ?_,rfl,q _ hf⟩
 exact⟨z,us,0,r,Jo _ rfl⟩
end
abbrev Sp:=List V->Hp->VK->XK->Prop
abbrev yL:=List Env->Hp->Shared->XK->Value->Shared->Prop
structure az(P:Program)(w:World)(K:PySem.W.Frag)(mg:Str->Option Value)(base:Heap)(A:Around)(outer:List Env)(s:Shared)(H:Hp):Prop where
 frames:A.frames=some outer
 mod:Mod K mg base
 bs:∀ b o,base.get? b=some o->s.heap.get? b=some o/\H b=none
 bsz:base.objs.size<=s.heap.objs.size
 funs:s.heap.FunFrames base outer
 frf:∀ b∈ja outer,H b=none
 hok:eU P w H s.heap
 bare:AllBare s.gens
def CE(outer:List Env)(P:Program)(w:World)(H:Hp)(s:Shared)(Q:VK)(u:Value)(s':Shared):Prop:=
 ∃ v H',s'.os=s.os/\AllBare s'.gens/\Un (ja outer) [] H H' s.heap s'.heap/\eU P w H' s'.heap/\RelV v u/\Q v H'
def CR(CX:yL)(outer:List Env)(P:Program)(w:World)(H:Hp)(s:Shared)(Q:VK)(E:XK)(r:Result)(s':Shared):Prop:=
 match r with
 | .ok (.ret u)=>CE outer P w H s Q u s'
 | .ok _=>False
 | .error e=>CX outer H s E e s'
structure FnOk(P:Program)(w:World)(K:PySem.W.Frag)(mg:Str->Option Value)(base:Heap)(CX:yL)(k:Nat)(f:Addr)(fd:FuncData)(ps:List Str)(sp:Sp):Prop where
 len:∀ vs H Q E,sp vs H Q E->vs.length=ps.length
 run:∀(A:Around) (outer:List Env) (s:Shared) (H:Hp) (args:Args) (us:List Value) (vs:List V) (Q:VK) (E:XK),Room k A->az P w K mg base A outer s H->BindsTo s fd args (ps.zip us)->aZ vs us->sp vs H Q E->
  codeAny (model P w) A (.call (.ref f) args) (CR CX outer P w H s Q E) s
theorem az.make{P:Program}{w:World}{K:PySem.W.Frag}{mg:Str->Option Value}{base:Heap}{A:Around}{outer:List Env}{s:Shared}{H:Hp}(e:az P w K mg base A outer s H)(C:Addr)(us:List Value)(kw:List (Str×Value)):
  az P w K mg base (A.under (.builtin "type.__call__" ⟨.ref C::us,kw⟩)) outer s H:=⟨by first|exact e.frames|(simpa [Around.under,Code.envs,Code.isFrame,pushEnvs]using e.frames),e.mod,e.bs,e.bsz,e.funs,e.frf,e.hok,e.bare⟩
section
variable {X:Cx}{pins:List (Addr×Obj)}{σ:St}{H:Hp}{s s':Shared}
theorem Inv.env0(I:Inv X pins σ H s):az X.prog X.w X.K X.mg X.base X.A X.stack s H:=
 ⟨I.ok.frames,I.ok.mod,I.bs,Ju I.ok.bsz I.sz,I.stack,I.stkFree,I.hok,I.bare⟩
theorem Inv.after{Q:VK}{u:Value}(I:Inv X pins σ H s)(h:CE X.stack X.prog X.w H s Q u s'):EP X pins σ Q u s':=by
 obtain⟨v,H',os,bare,un,hok,r,q⟩:=h
 obtain⟨hh,g,d,t,os'⟩:=s'
 obtain rfl:os'=s.os:=os
 exact⟨v,H',I.call (h':=hh) (g':=g) (d':=d) (t':=t) (ch:=[]) un hok bare (fun b z=>absurd z (by simp)),r,q⟩
end
def F4(sp:Sp)(dvs:List V)(E:XK)(t:TA):TE:=fun σ H Q=>t σ H fun vs H1=>sp (vs++dvs) H1 Q E
def Binds(K:PySem.W.Frag)(fd:FuncData)(ps:List Str)(ds:List Value):Prop:=
 ∀(s:Shared) (us:List Value),K.In s.heap->(us++ds).length=ps.length->BindsTo s fd ⟨us,[]⟩ (ps.zip (us++ds))
theorem Binds.all{K:PySem.W.Frag}{fd:FuncData}{ps:List Str}(h:∀ us:List Value,us.length=ps.length->bindArgs fd ⟨us,[]⟩=pure (ps.zip us)):Binds K fd ps []:=fun s us _ hl=>by
 rw[JV]at hl ⊢
 exact .of_eq (h us hl)
def ng(CX:yL)(X:Cx)(E:XK):Prop:=∀(pins:List (Addr×Obj)) (σ:St) (H:Hp) (s:Shared) (e:Value) (s':Shared),Inv X pins σ H s->CX X.stack H s E e s'->X.xe e s'
section
variable {X:Cx}{CX:yL}{k:Nat}{f C:Addr}{fd:FuncData}{ps:List Str}{sp:Sp}{dvs:List V}{ds:List Value}{E:XK}{x m:Str}{p pos apos:Pos}{e o:Expr}{es:List Expr}{ta:TE}{t:TA}
theorem DY{pins:List (Addr×Obj)}{σ:St}{H:Hp}{s:Shared}{Q:VK}{us:List Value}{vs:List V}(F:FnOk X.prog X.w X.K X.mg X.base CX k f fd ps sp)(hr:Room k X.A)(hb:Binds X.K fd ps ds)(hd:aZ dvs ds)(hx:ng CX X E)
  (I:Inv X pins σ H s) (r:aZ vs us) (h:sp (vs++dvs) H Q E):wpAny (model X.prog X.w) X.A (call (.ref f) us) (EP X pins σ Q) X.xe s:=by
 have r2:aZ (vs++dvs) (us++ds):=r.append hd
 have hl:(us++ds).length=ps.length:=by rw[<-r2.length];exact F.len _ _ _ _ h
 refine Lp (KE (F.run X.A X.stack s H ⟨us,[]⟩ (us++ds) (vs++dvs) Q E hr I.env0 (hb s us I.kIn hl) r2 h) fun r s' hq=>?_)
 cases r with
 |error e=>exact hx pins σ H s e s' I hq
 |ok fl=>
  cases fl with
  |ret u=>exact I.after hq
  |next=>exact False.elim hq
  |brk=>exact False.elim hq
  |cont=>exact False.elim hq
theorem vT(F:FnOk X.prog X.w X.K X.mg X.base CX k f fd ps sp)(hr:Room k X.A)(hg:Gl X x)(hm:X.mg x=some (.ref f))(hk:PySem.W.keepIn X.K (.ref f)=true)(hb:Binds X.K fd ps ds)(hd:aZ dvs ds)(hx:ng CX X E)
  (ha:PA X (e::es) t) (hdb:(x==("__debug__":Str))=false:=by decide) (he:starEach (e::es) X.env=(false,eval e X.env)::starEach es X.env:=by rfl) (hpl:(backTo pos (starEach es X.env)).any (·.1)=false:=by rfl):
  PE X (.Call (.Name x p) (e::es) [] pos) (F4 sp dvs E t):=by
 intro pins s σ H Q I h
 refine K5 (jC I hg hm ?_ hdb)
 refine PySem.W.callWith_K (h₀:=X.base) I.ok.mod.kin hk (df (ha pos pins s σ H _ I h) fun us s1 ⟨vs,H1,I1,r,q⟩=>⟨I1.kIn,?_⟩) he hpl
 exact DY F hr hb hd hx I1 r q
structure Mk(K:PySem.W.Frag)(C f:Addr):Prop where
 makes:PySem.W.makesIn K C=true
 init:PySem.W.findIn K (.ref C) "__init__"=some (some (.ref f))
 fn:PySem.W.isFn K (.ref f)=true
 kp:PySem.W.keepIn K (.ref C)=true
end
section
variable {X:Cx}{CX:yL}{k:Nat}{f C:Addr}{fd:FuncData}{ps ks:List Str}{sp:Sp}{E:XK}{x m:Str}{p pos apos kpos:Pos}{e o:Expr}{es:List Expr}{kws:List Keyword}{te ta:TE}{t tk:TA}{nm:Option Str}
structure KBinds(K:PySem.W.Frag)(fd:FuncData)(ps ks:List Str)(g:List Value->List Value->List Value)(gV:List V->List V->List V):Prop where
 to:∀(s:Shared) (us ws:List Value),K.In s.heap->(g us ws).length=ps.length->BindsTo s fd ⟨us,ks.zip ws⟩ (ps.zip (g us ws))
 rel:∀{vs:List V} {us:List Value} {zs:List V} {ws:List Value},aZ vs us->aZ zs ws->aZ (gV vs zs) (g us ws)
variable {g:List Value->List Value->List Value}{gV:List V->List V->List V}
end
structure FnScope(N P:List Str)(sc:Scope):Prop where
 kind:sc.kind= .function
 co:sc.isCoroutine=false
 gen:sc.isGenerator=false
 nd:N.Nodup
 pre:N.take P.length=P
 par:∀ x∈P,sc.names.lookup x=some .local\/sc.names.lookup x=some .cell
 nofree:∀ y∈sc.names,y.2≠ .free
theorem pO{kindOf:Str->Option NameKind}{x:Str}:∀{binds:List (Str×Value)} {m:Str->Option Value},(∀ v,(x,v) ∉ binds)->bindL kindOf binds m x=m x
 |[],_,_=>rfl
 | (n,v)::r,m,h=>by
  unfold bindL
  rw[pO fun w hw=>h w (Jr _ hw)]
  split
  ·have:x≠n:=by rintro rfl;exact h v Jy
   simp[this]
  ·rfl
theorem pP{kindOf:Str->Option NameKind}{x:Str}:∀{binds:List (Str×Value)} {m:Str->Option Value},(∀ v,(x,v) ∉ binds)->bindC kindOf binds m x=m x
 |[],_,_=>rfl
 | (n,v)::r,m,h=>by
  unfold bindC
  rw[pP fun w hw=>h w (Jr _ hw)]
  split
  ·rfl
  ·have:x≠n:=by rintro rfl;exact h v Jy
   simp[this]
theorem pQ{kindOf:Str->Option NameKind}{x:Str}{v:Value}:∀{P:List Str} {vs:List Value} {i:Nat} {m:Str->Option Value},P.Nodup->P[i]? =some x->vs[i]? =some v->kindOf x=some .local->
  bindL kindOf (P.zip vs) m x=some v
 |[],_,_,_,_,h,_,_=>by simp at h
 |_::_,[],_,_,_,_,h,_=>by simp at h
 |p::P,w::vs,0,m,nd,h1,h2,hk=>by
  simp at h1 h2;subst h1;subst h2
  show bindL kindOf ((p,w)::P.zip vs) m p=_
  unfold bindL
  rw[pO fun v hv=>(Ke.mp nd).1 (Ly hv).1,if_pos hk]
  simp
 |p::P,w::vs,i+1,m,nd,h1,h2,hk=>by
  show bindL kindOf ((p,w)::P.zip vs) m x=_
  unfold bindL
  exact pQ (i:=i) (Ke.mp nd).2 (by simpa using h1) (by simpa using h2) hk
theorem pR{kindOf:Str->Option NameKind}{x:Str}{v:Value}:∀{P:List Str} {vs:List Value} {i:Nat} {m:Str->Option Value},P.Nodup->P[i]? =some x->vs[i]? =some v->kindOf x≠some .local->
  bindC kindOf (P.zip vs) m x=some v
 |[],_,_,_,_,h,_,_=>by simp at h
 |_::_,[],_,_,_,_,h,_=>by simp at h
 |p::P,w::vs,0,m,nd,h1,h2,hk=>by
  simp at h1 h2;subst h1;subst h2
  show bindC kindOf ((p,w)::P.zip vs) m p=_
  unfold bindC
  rw[pP fun v hv=>(Ke.mp nd).1 (Ly hv).1,if_neg hk]
  simp
 |p::P,w::vs,i+1,m,nd,h1,h2,hk=>by
  show bindC kindOf ((p,w)::P.zip vs) m x=_
  unfold bindC
  exact pR (i:=i) (Ke.mp nd).2 (by simpa using h1) (by simpa using h2) hk
def start(N:List Str)(vs:List V):St:=vs.map some++List.replicate (N.length - vs.length) none
def iZ(CX:yL)(P:Program)(w:World)(K:PySem.W.Frag)(mg:Str->Option Value)(base:Heap)(N:List Str)(qual:Str)(scope:Scope)(f:Addr)(cd:Value)(A:Around)(outer:List Env)(s:Shared)(H:Hp)(E:XK):Cx where
 prog:=P
 w:=w
 K:=K
 mg:=mg
 base:=base
 A:=A.deeper (envOfC qual scope s.heap.objs.size f cd)
 N:=N
 s₀:=s
 H₀:=H
 env:=envOfC qual scope s.heap.objs.size f cd
 outer:=outer
 stack:=envOfC qual scope s.heap.objs.size f cd::outer
 ex:=[]
 calm:=true
 fn:=fun _=>true
 pn:=[]
 xe:=fun e s'=>wpAny (model P w) (A.deeper (envOfC qual scope s.heap.objs.size f cd)) (leaving (envOfC qual scope s.heap.objs.size f cd) e) (fun _ s''=>CX outer H s E e s'') (fun e' s''=>CX outer H s E e' s'') s'
theorem sy{sc:Scope}{n:Nat}{x:Str}(h:sc.names.lookup x=some .cell):∃ c,(cellsFrom n sc.names []).lookup x=some c:=by
 have q:=LM sc.names n [] (.inl h)
 exact Kg.mp q
theorem xw{CX:yL}{P:Program}{w:World}{K:PySem.W.Frag}{mg:Str->Option Value}{base:Heap}{N ps:List Str}{qual:Str}{scope:Scope}{f:Addr}{cd:Value}{A:Around}{outer:List Env}{s s1:Shared}{H:Hp}{E:XK}{us:List Value}{vs:List V}
  (S:FnScope N ps scope) (hd:A.handled=none) (e0:az P w K mg base A outer s H) (hl:vs.length=ps.length) (r:aZ vs us)
  (x:InCallC s s.heap.objs.size (bindL (envOfC qual scope s.heap.objs.size f cd).kindOf (ps.zip us) fun _=>none) (cellsFrom (s.heap.objs.size+1) scope.names []) (bindC (envOfC qual scope s.heap.objs.size f cd).kindOf (ps.zip us) fun _=>none) s1):
  Inv (iZ CX P w K mg base N qual scope f cd A outer s H E) [] (start N vs) H s1:=by
 have hpl:ps.length<=N.length:=by have:=Li List.length S.pre;rw[KY]at this;omega
 obtain⟨h1,tk,rfl,hk⟩:=x.done
 have noA:∀ b:Addr,b ∉ (iZ CX P w K mg base N qual scope f cd A outer s H E).ex:=fun b z=>absurd (show b∈([]:List Addr)from z) (by simp)
 refine⟨⟨e0.mod,S.kind,rfl,rfl,Jj _,fun y z c h1 h2=>?_,fun y hy=>?_,fun y c _ h=>?_,fun _=>hd,Around.frames_deeper e0.frames,.inr ⟨rfl,rfl⟩,fun b z=>absurd z (noA b),e0.bs,e0.bsz,fun b _ _=>noA b,fun b z=>absurd z (noA b),e0.funs,e0.frf⟩,
  rfl,e0.bare,Un.kept hk,⟨_,x.toInCall.ns,fun i y v h1 h2 h3=>?_⟩,fun y c h=>⟨_,x.cell y c h⟩,e0.hok.fresh (Jj _),fun y c h=>?_,fun p hp=>absurd (show p∈([]:List (Addr×Obj))from hp) (by simp),e0.hok.kept hk,?_⟩
 ·exact name_of_addr x.apart (KS h1) (KS h2)
 ·have hy:scope.names.lookup y=some .cell\/scope.names.lookup y=some .free:=hy
  rcases hy with hy|hy
  ·exact sy hy
  ·exact absurd rfl (S.nofree _ (KS hy))
 ·exact Kl (x.above y c (KS h))
 ·have hi:i<vs.length:=by
   unfold start at h2
   by_cases hi:i<vs.length
   ·exact hi
   ·rw[La (by simpa using hi)]at h2
    rw[List.getElem?_replicate]at h2
    split at h2<;>cases h2
  have ha:vs[i]? =some v:=by
   unfold start at h2
   rw[Jp (by simpa using hi),JB]at h2
   cases e:vs[i]? with
   |none=>rw[e]at h2;cases h2
   |some a=>rw[e]at h2;cases h2;rfl
  obtain⟨u,hu,rv⟩:=r.get ha
  have hp:ps[i]? =some y:=by
   rw[<-S.pre,MB (by omega)];exact h1
  have ndP:ps.Nodup:=by rw[<-S.pre];exact S.nd.sublist (List.take_sublist _ _)
  refine⟨u,rv,?_⟩
  rcases S.par y (JM hp)with k|k
  ·exact .inl ⟨k,pQ ndP hp hu k⟩
  ·obtain⟨c,e⟩:=sy (n:=s.heap.objs.size+1) k
   refine .inr ⟨.inl k,c,e,?_⟩
   have q:=x.cell y c e
   rw[pR ndP hp hu (by show scope.names.lookup y≠_;rw[k];decide)]at q
   exact q
 ·exact e0.hok.fresh (Kl (x.above y c (KS h)))
 ·unfold start
  show _=N.length
  rw[Js,Jl,List.length_replicate]
  omega
theorem y0{CX:yL}{P:Program}{w:World}{K:PySem.W.Frag}{mg:Str->Option Value}{base:Heap}{k:Nat}{f:Addr}{name qual:Str}{params:Arguments}{body:List Stmt}{scope:Scope}{dV kV doc pm cdv ct oc:Value}{an od:Option Addr}
  {osl:Array (Option Value)} {N ps:List Str} {sp:Sp} (lk:K.lookup f=some ⟨oc,od,.func (PySem.W.fnOf name qual params body scope dV kV doc pm an cdv ct),osl⟩) (hcd:PySem.W.codeIn K cdv qual=true) (S:FnScope N ps scope)
  (len:∀ vs H Q E,sp vs H Q E->vs.length=ps.length)
  (hbody:∀(A:Around) (outer:List Env) (s:Shared) (H:Hp) (vs:List V) (Q:VK) (E:XK),Room k (A.deeper (envOfC qual scope s.heap.objs.size f cdv))->sp vs H Q E->
   ∃ t,oY (iZ CX P w K mg base N qual scope f cdv A outer s H E) body t/\t {nx:=fun _ H'=>Q .non H',rt:=Q} (start N vs) H):
  FnOk P w K mg base CX (k+1) f (PySem.W.fnOf name qual params body scope dV kV doc pm an cdv ct) ps sp:=by
 refine⟨len,fun A outer s H args us vs Q E hr e0 hb r hsp=>?_⟩
 have hl:=len _ _ _ _ hsp
 have KX:K.In s.heap:=e0.mod.kin.keeps fun b o e=>(e0.bs b o e).1
 have lim:s.heap.NoLimit:=e0.mod.nolimit.keeps fun b o e=>(e0.bs b o e).1
 have hkind:∀ y∈ps.zip us,scope.names.lookup y.1=some .local\/(scope.names.lookup y.1=some .cell/\((cellsFrom (s.heap.objs.size+1) scope.names []).lookup y.1).isSome=true):=fun⟨n,v⟩ hy=>by
  rcases S.par n (Ly hy).1 with q|q
  ·exact .inl q
  ·exact .inr ⟨q,LM _ _ _ (.inl q)⟩
 refine codeAny_call_function hr.depth (KX _ _ lk) rfl S.co S.gen rfl (PySem.W.codeRec_of KX hcd) (hb _ _ _ _ ?_)
 refine wpAny_newFunctionEnv_cells S.kind hkind fun env he s1 x=>?_
 subst he
 refine⟨lim.keeps x.toInCall.keep,codeAny_func ?_⟩
 obtain⟨t,ht,hq⟩:=hbody A outer s H vs Q E (hr.deeper _) hsp
 have I:Inv (iZ CX P w K mg base N qual scope f cdv A outer s H E) [] (start N vs) H s1:=xw S hr.hd e0 hl r x
 refine JJ (ht [] s1 (start N vs) H _ I hq) (fun fl s' hs=>?_) fun e s' hs=>hs
 have fin:∀{σ':St} {H':Hp} {v:V} {u:Value},Inv (iZ CX P w K mg base N qual scope f cdv A outer s H E) [] σ' H' s'->RelV v u->Q v H'->CE outer P w H s Q u s':=
  fun{σ' H' v u} J rv q=>⟨v,H',J.os,J.bare,J.base,J.hok,rv,q⟩
 cases fl with
 |ret u=>
  obtain⟨v,σ',H',J,rv,q⟩:=hs
  exact fin J rv q
 |next=>
  obtain⟨σ',H',J,q⟩:=hs
  exact fin (v:=V.non) (u:=Value.none) J rfl q
 |brk=>
  obtain⟨_,_,_,q⟩:=hs
  exact False.elim q
 |cont=>
  obtain⟨_,_,_,q⟩:=hs
  exact False.elim q
end L2
namespace L2
open PySem PySem.Spec PyProof.Rows
section
variable {X:Cx}{x:Str}{p pos:Pos}{e:Expr}{es:List Expr}{t:TA}{id T:String}{r:List V->Hp->VK->Prop}
def HI(r:List V->Hp->VK->Prop)(t:TA):TE:=fun σ H Q=>t σ H fun vs H1=>r vs H1 Q
theorem gY(hc:cG X (.builtin id) r)(hg:Gl X x)(hm:X.mg x=none)(hv:bootBuiltins x=some (.builtin id))(ha:PA X (e::es) t)(hn:x≠"__name__":=by decide)(hdb:(x==("__debug__":Str))=false:=by decide)
  (he:starEach (e::es) X.env=(false,eval e X.env)::starEach es X.env:=by rfl) (hpl:(backTo pos (starEach es X.env)).any (·.1)=false:=by rfl):PE X (.Call (.Name x p) (e::es) [] pos) (HI r t):=by
 intro pins s σ H Q I h
 refine K5 (lz I hg hm hv ?_ hn hdb)
 exact PyProof.Rows.callWith_builtin1 (df (ha pos pins s σ H _ I h) fun us s1 ⟨vs,H1,I1,r1,q1⟩=>hc pins s1 σ H1 vs us Q I1 r1 q1) he hpl
theorem gZ(hc:cG X (.type T) r)(hg:Gl X x)(hm:X.mg x=none)(hv:bootBuiltins x=some (.type T))(ha:PA X (e::es) t)(hn:x≠"__name__":=by decide)(hdb:(x==("__debug__":Str))=false:=by decide)
  (he:starEach (e::es) X.env=(false,eval e X.env)::starEach es X.env:=by rfl) (hpl:(backTo pos (starEach es X.env)).any (·.1)=false:=by rfl):PE X (.Call (.Name x p) (e::es) [] pos) (HI r t):=by
 intro pins s σ H Q I h
 refine K5 (lz I hg hm hv ?_ hn hdb)
 exact KG (df (ha pos pins s σ H _ I h) fun us s1 ⟨vs,H1,I1,r1,q1⟩=>hc pins s1 σ H1 vs us Q I1 r1 q1) he hpl
end
end L2
namespace HT
open PySem PyProof.Rows
def lexLt:List Int->List Int->Bool
 |[],[]=>false
 |[],_::_=>true
 |_::_,[]=>false
 |x::xs,y::ys=>if x=y then lexLt xs ys else decide (x<y)
theorem lexLt_cons(x y:Int)(xs ys:List Int):lexLt (x::xs) (y::ys)=if x=y then lexLt xs ys else decide (x<y):=rfl
theorem pj:lexLt [] []=false:=rfl
theorem nh(y:Int)(ys:List Int):lexLt [] (y::ys)=true:=rfl
theorem ni(x:Int)(xs:List Int):lexLt (x::xs) []=false:=rfl
theorem y3(A:Around)(s:Shared)(a:Int)(t:Tok)(c:Int)(u:Tok):∃ e,SeqAt.EqAt A s (.int a t) (.int c u) e/\(e=true↔a=c):=
 ⟨(a==c),SeqAt.EqAt.int_int a t c u,by simp⟩
theorem y4(A:Around)(s:Shared)(a:Int)(t:Tok)(c:Int)(u:Tok)(prog:Program)(w:World)(E:Value->Shared->Prop)(Q:Value->Shared->Prop)(h:Q (.bool (decide (a<c))) s):
  wpAny (model prog w) A (richCompare .Lt (.int a t) (.int c u)) Q E s:=
 (PyProof.Rows.lt_int h:wpAny (model prog w) A (compareOp .Lt (.int a t) (.int c u)) Q E s)
section
open PySem.SeqAt
open PySem.AutoSeq1 (wpAny_loadPart')
open PySem.MeetsSeq PySem.MeetsSeq2 PySem.MeetsSeq3
theorem pk(l b:Addr)(items items2:Array Value)(n n2:Nat)(dd dd2:Option Addr)(sl sl2:Array (Option Value))(ns ms:List Int)(hi:IntsAre items.toList ns)(hj:IntsAre items2.toList ms):
  Meets (Builtin.«tuple.__lt__» ⟨[.ref l,.ref b],[]⟩)
   (fun _ R s=>s.heap.get? l=some {cls:=.type "tuple",dict:=dd,data:=.seq items n,slots:=sl}/\s.heap.get? b=some {cls:=.type "tuple",dict:=dd2,data:=.seq items2 n2,slots:=sl2}/\
    R (.ok (.ret (.bool (lexLt ns ms)))) s):=
 .of_wp fun prog w A R s h=>by
  obtain⟨hp,g,d,tk,os⟩:=s;obtain⟨hl,hb,h⟩:=h
  have f2:=AutoSeq1.sub_tuple_tuple
  have z1:items.size=ns.length:=by rw[<-hi.length];simp
  have z2:items2.size=ms.length:=by rw[<-hj.length];simp
  wp_walk using wpAny_loadPart' hl,wpAny_loadPart' hb,L8 _ (fun rest b s'=>b.1=none/\s'=⟨hp,g,d,tk,os⟩/\∃(vs ws:List Value) (ns' ms':List Int),rest=vs.zip ws/\
   IntsAre vs ns'/\IntsAre ws ms'/\ns'.length+items2.size=ms'.length+items.size/\R (.ok (.ret (.bool (lexLt ns' ms')))) ⟨hp,g,d,tk,os⟩) _
  case turn=>
   rintro⟨y,x⟩ rest b s' ⟨hb',rfl,vs,ws,ns',ms',hz,hvi,hwi,hlen,hR⟩
   cases hvi with
   |nil=>rw[List.zip_nil_left]at hz;cases hz
   | cons a t hvi'=>
    cases hwi with
    |nil=>rw[List.zip_nil_right]at hz;cases hz
    | cons c u hwi'=>
     rw[Ms]at hz
     injection hz with hyx hrest
     injection hyx with hy hx
     subst hy hx
     rw[lexLt_cons]at hR
     simp only[List.length_cons]at hlen
     obtain⟨e,he,hiff⟩:=y3 A.in1 ⟨hp,g,d,tk,os⟩ a t c u
     refine Jg (he prog w _ _ ?_)
     cases e with
     |true=>
      rw[if_pos (hiff.mp rfl)]at hR
      wp_walk
      exact⟨rfl,rfl,_,_,_,_,hrest,hvi',hwi',by omega,hR⟩
     |false=>
      rw[if_neg (fun q=>absurd (hiff.mpr q) Kx)]at hR
      have hri:=y4 A.in1 ⟨hp,g,d,tk,os⟩ a t c u prog w
      wp_walk using hri
      exact⟨_,rfl,by simpa using hR⟩
  case fin=>
   rintro⟨b1,b2⟩ s' ⟨hb',rfl,vs,ws,ns',ms',hz,hvi,hwi,hlen,hR⟩
   simp only at hb'
   subst hb'
   have hv:lexLt ns' ms'=decide (items.size<items2.size):=by
    cases hvi with
    | nil=>
     cases hwi with
     |nil=>
      simp only[List.length_nil]at hlen
      rw[pj]
      exact(JW (by omega)).symm
     |cons c u hw=>
      simp only[List.length_nil,List.length_cons]at hlen
      rw[nh]
      exact(JK (by omega)).symm
    | cons a t hv=>
     cases hwi with
     |nil=>
      simp only[List.length_nil,List.length_cons]at hlen
      rw[ni]
      exact(JW (by omega)).symm
     |cons c u hw=>
      rw[Ms]at hz
      cases hz
   rw[hv]at hR
   wp_walk
   exact⟨_,rfl,by simpa [Builtin.Tuple.tupleCompareSizes]using hR⟩
  case h=>
   exact⟨rfl,rfl,items.toList,items2.toList,ns,ms,rfl,hi,hj,by omega,h⟩
end
section
variable {prog:Program}{w:World}{A:Around}{E:Value->Shared->Prop}{s:Shared}
theorem lt_tupInts{l b:Addr}{items items2:Array Value}{ns ms:List Int}{Q:Value->Shared->Prop}(hl:IsTup s.heap l items)(hb:IsTup s.heap b items2)(hi:IntsAre items.toList ns)(hj:IntsAre items2.toList ms)
  (hu:A.units<cLine) (h:Q (.bool (lexLt ns ms)) s):wpAny (model prog w) A (compareOp .Lt (.ref l) (.ref b)) Q E s:=by
 obtain⟨⟨cls,dd,data,sl⟩,ho,hc,n,hd⟩:=id hl
 obtain⟨⟨cls2,dd2,data2,sl2⟩,ho2,hc2,n2,hd2⟩:=id hb
 simp only at hc hd hc2 hd2
 subst hc hd hc2 hd2
 exact richCompare_meets_room (op:=.Lt) ⟨_,ho,rfl⟩ ⟨_,ho2,rfl⟩ PySem.F.slot_tuple_lt PySem.F.entry_tuple_lt (PySem.F.args_tuple_lt_2 _ _) (pk l b items items2 n n2 dd dd2 sl sl2 ns ms hi hj)
  ⟨ho,ho2,show Value.bool (lexLt ns ms)≠Value.notImplemented/\Q (.bool (lexLt ns ms)) s from⟨(fun x=>nomatch x),h⟩⟩ hu
theorem cat_tup{t b:Addr}{vs ws:List Value}{Q:Value->Shared->Prop}(ht:IsTup s.heap t vs.toArray)(hb:IsTup s.heap b ws.toArray)(hv:vs≠[])
  (h1:ws=[]->Q (.ref t) s) (h2:ws≠[]->Q (.ref s.heap.objs.size) {s with heap:=s.heap.push {cls:=.type "tuple",data:=.seq (vs++ws).toArray}})
  (hsz:vs.length+ws.length<=sizeLine):wpAny (model prog w) A (binaryOp .Add (.ref t) (.ref b)) Q E s:=by
 obtain⟨⟨cls,dd,data,sl⟩,ho,hc,n,hd⟩:=id ht
 obtain⟨⟨cls2,dd2,data2,sl2⟩,ho2,hc2,n2,hd2⟩:=id hb
 simp only at hc hd hc2 hd2
 subst hc hd hc2 hd2
 have e:vs.toArray++ws.toArray=(vs++ws).toArray:=by simp
 by_cases hw:ws=[]
 ·exact concat_meets ⟨_,ho,rfl⟩ ⟨_,ho2,rfl⟩ MQ seq_tuple_add LN Lz (Lq _ _)
   (tuple_addW1 t b vs.toArray ws.toArray n n2 dd dd2 sl sl2 (by simpa using hv) (by simp[hw])) ⟨ho,ho2,h1 hw⟩
 ·refine concat_meets ⟨_,ho,rfl⟩ ⟨_,ho2,rfl⟩ MQ seq_tuple_add LN Lz (Lq _ _)
   (tuple_addW2 t b vs.toArray ws.toArray n n2 dd dd2 sl sl2 (by simpa using hv) (by simpa using hw) (by rw[Jt,Jt];exact hsz)) ⟨ho,ho2,?_⟩
  rw[e]
  exact h2 hw
def sIx(n d:Nat):Option Int->Nat
 |none=>d
 |some v=>if v<0 then (v+(n:Int)).toNat else min v.toNat n
theorem sIx_none(n d:Nat):sIx n d none=d:=rfl
theorem sIx_nat(n d k:Nat):sIx n d (some (k:Int))=min k n:=by
 show(if (k:Int)<0 then ((k:Int)+(n:Int)).toNat else min (k:Int).toNat n)=min k n
 rw[if_neg (by omega),JS]
theorem DZ(n d:Nat)(hd:d<=n)(o:Option Int):sIx n d o<=n:=by
 cases o with
 |none=>exact hd
 |some v=>
  show(if v<0 then (v+(n:Int)).toNat else min v.toNat n)<=n
  by_cases hv:v<0
  ·rw[if_pos hv];omega
  ·rw[if_neg hv];exact Nat.min_le_right _ _
theorem vU(v:Int)(n d:Nat):(if v<0 then max (v+(n:Int)) 0 else min v (n:Int))=((sIx n d (some v):Nat):Int):=by
 show(if v<0 then max (v+(n:Int)) 0 else min v (n:Int))=(((if v<0 then (v+(n:Int)).toNat else min v.toNat n):Nat):Int)
 by_cases hv:v<0
 ·simp only[if_pos hv];omega
 ·simp only[if_neg hv];omega
theorem uD(lo hi:Option Int)(n:Nat):Builtin.Slice.sliceAdjust lo hi 1 (n:Int)=(((sIx n 0 lo:Nat):Int),((sIx n n hi:Nat):Int)):=by
 have h1:¬ ((1:Int)<0):=by omega
 unfold Builtin.Slice.sliceAdjust
 simp only[h1,if_false]
 refine LZ ?_ ?_
 ·cases lo with
  |none=>rfl
  |some v=>exact vU v n 0
 ·cases hi with
  |none=>rfl
  |some v=>exact vU v n n
theorem uE(i j:Nat):Builtin.Slice.slicePlaces (i:Int) (j:Int) 1=j - i:=by
 unfold Builtin.Slice.slicePlaces
 have h1:(1:Int)>0:=by omega
 simp only[h1,if_true,Int.ediv_one]
 split<;>omega
theorem nj{v:Value}{o:Option Int}{Q:Option Int->Shared->Prop}(p:IsPart v o)(h:Q o s):wpAny (model prog w) A (Builtin.Slice.slicePartIndex v) Q E s:=by
 cases p with
 |none=>exact slicePart_none h
 |int i t=>exact slicePart_int h
theorem sliceApplied_gen{sl:Addr}{vl vu:Value}{lo hi:Option Int}{n:Nat}{Q:Int×Int×Nat->Shared->Prop}(hs:s.heap.IsSliceOf sl vl vu .none)(pl:IsPart vl lo)(pu:IsPart vu hi)
  (h:Q (((sIx n 0 lo:Nat):Int),1,sIx n n hi - sIx n 0 lo) s):wpAny (model prog w) A (Builtin.Slice.sliceApplied (.ref sl) (pure (n:Int))) Q E s:=by
 obtain⟨os,hos,hcs,hds⟩:=id hs
 unfold Builtin.Slice.sliceApplied Builtin.Slice.sliceFields
 refine Jg (Jg (J7 hos hds (x:=vl) rfl (Jg (J7 hos hds (x:=vu) rfl (Jg (J7 hos hds (x:=.none) rfl (Ji ?_)))))))
 refine Jg (slicePart_none ?_)
 show wpAny _ _ (if ((1:Int)==0)=true then _ else _) _ _ s
 rw[if_neg (by decide)]
 refine Jg (nj pl (Jg (nj pu (Jg (Ji ?_)))))
 show wpAny _ _ (match Builtin.Slice.sliceAdjust lo hi 1 (n:Int)with|(lo,hi)=>pure (lo,(1:Int),Builtin.Slice.slicePlaces lo hi 1)) _ _ s
 rw[uD lo hi n]
 show wpAny _ _ (pure (((sIx n 0 lo:Nat):Int),(1:Int),Builtin.Slice.slicePlaces ((sIx n 0 lo:Nat):Int) ((sIx n n hi:Nat):Int) 1)) _ _ s
 rw[uE]
 exact Ji h
theorem y8(xs:Array Value)(i k:Nat):((List.range k).filterMap fun(m:Nat)=>xs[((i:Int)+(m:Int)*1).toNat]?).toArray=((xs.toList.drop i).take k).toArray:=by
 have e:(fun(m:Nat)=>xs[((i:Int)+(m:Int)*1).toNat]?)=fun m=>xs[i+m]? :=by
  funext m
  have:((i:Int)+(m:Int)*1).toNat=i+m:=by omega
  rw[this]
 rw[e]
 have:=pick_run xs i k
 rw[List.filterMap_map]at this
 have e2:((fun x=>xs[x]?)∘fun x=>i+x)=fun m=>xs[i+m]? :=rfl
 rw[e2]at this
 rw[this]
theorem getItem_tuple_cut{t sl:Addr}{items:Array Value}{vl vu:Value}{lo hi:Option Int}{Q:Value->Shared->Prop}(ht:IsTup s.heap t items)(hs:s.heap.IsSliceOf sl vl vu .none)(pl:IsPart vl lo)(pu:IsPart vu hi)
  (hw:¬ (sIx items.size 0 lo=0/\sIx items.size items.size hi=items.size))
  (h:Q (.ref s.heap.objs.size) {s with heap:=s.heap.push {cls:=.type "tuple",data:=.seq ((items.toList.drop (sIx items.size 0 lo)).take (sIx items.size items.size hi - sIx items.size 0 lo)).toArray}})
  (hsz:items.size<=sizeLine):wpAny (model prog w) A (getItem (.ref t) (.ref sl)) Q E s:=by
 have htake:sizeOk (.seq ((items.toList.drop (sIx items.size 0 lo)).take (sIx items.size items.size hi - sIx items.size 0 lo)).toArray):=by
  show((items.toList.drop (sIx items.size 0 lo)).take (sIx items.size items.size hi - sIx items.size 0 lo)).toArray.size<=sizeLine
  rw[Jt,KY,MR,KU]
  omega
 have hj:sIx items.size items.size hi<=items.size:=DZ _ _ (Jj _) hi
 obtain⟨os,hos,hcs,hds⟩:=id hs
 have hTs:s.TypeIs (.ref sl) "slice":=⟨os,hos,hcs⟩
 unfold getItem
 try with_reducible refine JX ?_
 first|refine Jg (Ji ?_)|skip
 refine Jg (wpAny_sequenceKey ht.typeIs (by decide) ?_)
 refine Jg (wpAny_callSpecial?_slot (name:=Str.ofString "__getitem__") ht.typeIs Ko
  (J9 Ko ht.typeIs entry_tuple_getitem ?_ (args_tuple_getitem _ _)))
 show wpAny _ _ (Builtin.Tuple.tupleItemsOf (.ref t)>>=_) _ _ s
 refine Jg (tupleItemsOf_ ht ?_)
 refine Jg (Lr hTs ?_)
 rw[if_pos (by decide)]
 refine Jg (sliceApplied_gen hs pl pu ?_)
 have hno:¬ ((((sIx items.size 0 lo:Nat):Int)==0 && (1:Int)==1 && (sIx items.size items.size hi - sIx items.size 0 lo)==items.size)=true):=by
  intro q
  rw[Kz,Kz]at q
  have q1:((sIx items.size 0 lo:Nat):Int)=0:=eq_of_beq q.1.1
  have q2:sIx items.size items.size hi - sIx items.size 0 lo=items.size:=eq_of_beq q.2
  exact hw ⟨by omega,by omega⟩
 show wpAny _ _ (if (((sIx items.size 0 lo:Nat):Int)==0 && (1:Int)==1 && (sIx items.size items.size hi - sIx items.size 0 lo)==items.size)=true then _ else _) _ _ s
 rw[if_neg hno,y8]
 first
  |exact Jg (m:=Builtin.Tuple.tupleExact _) (JZ (Ji ⟨_,rfl,Ji h⟩) htake)
  |exact Jg (m:=Builtin.Tuple.tupleExact _) (JZ (Jg (Ji (Ji ⟨_,rfl,Ji h⟩))) htake)
  |exact Jg (Jg (m:=Builtin.Tuple.tupleExact _) (JZ (Ji (Ji ⟨_,rfl,Ji h⟩)) htake))
  |exact Jg (Jg (m:=Builtin.Tuple.tupleExact _) (JZ (Ji ⟨_,rfl,Ji h⟩) htake))
end
end HT
namespace L2
open PySem PySem.Spec PyProof.Rows
abbrev TO:=St->Hp->(Option Int->Hp->Prop)->Prop
def PO(X:Cx)(e:Option Expr)(t:TO):Prop:=
 ∀(pins:List (Addr×Obj)) (s:Shared) (σ:St) (H:Hp) (Q:Option Int->Hp->Prop),Inv X pins σ H s->t σ H Q->
  wpAny (model X.prog X.w) X.A (evalPart e X.env) (fun u s'=>∃ o H',Inv X pins σ H' s'/\IsPart u o/\Q o H') X.xe s
def BF:TO:=fun _ H Q=>Q none H
def F5(t:TE):TO:=fun σ H Q=>t σ H fun x H1=>∃ i,x= .int i/\Q (some i) H1
theorem Mi{ns:List Int}:∀{us:List Value},aZ (ns.map V.int) us->IntsAre us ns:=by
 induction ns with
 |nil=>intro us r;rw[MT]at r;cases r;exact .nil
 | cons n ns ih=>
  intro us r
  rw[JT]at r
  cases r with
  |cons r1 r2=>
   obtain⟨t,e⟩:=r1
   subst e
   exact .cons n t (ih r2)
section
variable {X:Cx}{e:Expr}{te:TE}{lo hi:Option Expr}{tl th:TO}{pos p2:Pos}
theorem BG:PO X none BF:=by
 intro pins s σ H Q I h
 rw[evalPart_none]
 exact Ji ⟨none,H,I,.none,h⟩
theorem BH(h:PE X e te):PO X (some e) (F5 te):=by
 intro pins s σ H Q I hw
 rw[evalPart_some]
 refine df (h pins s σ H _ I hw) fun u s1 ⟨x,H1,I1,r1,q1⟩=>?_
 obtain⟨i,rfl,q⟩:=q1
 obtain⟨t,rfl⟩:=r1
 exact⟨some i,H1,I1,.int i t,q⟩
def Dc(X:Cx)(r:V->Option Int->Option Int->Hp->VK->Prop):Prop:=
 ∀(pins:List (Addr×Obj)) (s:Shared) (σ:St) (H:Hp) (x:V) (v vl vu:Value) (lo hi:Option Int) (sl:Addr) (Q:VK),Inv X pins σ H s->RelV x v->s.heap.IsSliceOf sl vl vu .none->IsPart vl lo->IsPart vu hi->r x lo hi H Q->
  ∃ T id,typeLookup (.type T) "__getitem__"=pure (some (.builtin id))/\s.TypeIs v T/\wpAny (model X.prog X.w) X.A (getItem v (.ref sl)) (EP X pins σ Q) X.xe s
theorem Dc.or{r r':V->Option Int->Option Int->Hp->VK->Prop}(h:Dc X r)(h':Dc X r'):Dc X (fun x lo hi H Q=>r x lo hi H Q\/r' x lo hi H Q):=by
 intro pins s σ H x v vl vu lo hi sl Q I rx hs pl pu q
 rcases q with q|q
 ·exact h pins s σ H x v vl vu lo hi sl Q I rx hs pl pu q
 ·exact h' pins s σ H x v vl vu lo hi sl Q I rx hs pl pu q
def IR(r:V->Option Int->Option Int->Hp->VK->Prop)(te:TE)(tl th:TO):TE:=fun σ H Q=>te σ H fun x H1=>tl σ H1 fun l H2=>th σ H2 fun u H3=>r x l u H3 Q
theorem y9{r:V->Option Int->Option Int->Hp->VK->Prop}(hr:Dc X r)(he:PE X e te)(hl:PO X lo tl)(hu:PO X hi th):PE X (.Subscript e (.Slice lo hi none p2) pos) (IR r te tl th):=by
 intro pins s σ H Q I h
 refine Subscript_ (df (he pins s σ H _ I h) fun v s1 ⟨x,H1,I1,r1,q1⟩=>?_)
 refine wpAny_Slice (df (hl pins s1 σ H1 _ I1 q1) fun vl s2 ⟨l,H2,I2,pl,q2⟩=>df (hu pins s2 σ H2 _ I2 q2) fun vu s3 ⟨u,H3,I3,pu,q3⟩=>?_)
 rw[evalPart_none]
 refine Ji ?_
 have I4:Inv X pins σ H3 {s3 with heap:=s3.heap.push {cls:=.type "slice",data:=.fields #[vl,vu,.none]}}:=I3.kept (t':=s3.toks) fun b ob q=>Jh _ q
 obtain⟨T,id,hT,ht,hg⟩:=hr pins {s3 with heap:=s3.heap.push {cls:=.type "slice",data:=.fields #[vl,vu,.none]}} σ H3 x v vl vu l u s3.heap.objs.size Q I4 r1 (Heap.IsSliceOf.new ..) pl pu q3
 show wpAny (model X.prog X.w) X.A (subscriptTail e (.Slice lo hi none p2) v (.ref s3.heap.objs.size)) (EP X pins σ Q) X.xe {s3 with heap:=s3.heap.push {cls:=.type "slice",data:=.fields #[vl,vu,.none]}}
 exact tail_any (ops:=[.ref s3.heap.objs.size,v]) ht hT hg (by with_unfolding_all rfl)
def pq(xs:List V)(lo hi:Option Int):List V:=(xs.drop (HT.sIx xs.length 0 lo)).take (HT.sIx xs.length xs.length hi - HT.sIx xs.length 0 lo)
theorem l9(xs:List V)(lo hi:Option Int):(pq xs lo hi).length<=xs.length:=by
 unfold pq
 rw[KY,MR]
 omega
def HJ(K:PySem.W.Frag):V->Option Int->Option Int->Hp->VK->Prop:=fun x lo hi H Q=>∃ a xs,x= .ref a/\j5 K H a xs/\
 ¬ (HT.sIx xs.length 0 lo=0/\HT.sIx xs.length xs.length hi=xs.length)/\∀ p,H p=none->Q (.ref p) (upd H p (.tup (pq xs lo hi)))
theorem D0:Dc X (HJ X.K):=by
 intro pins s σ H x v vl vu lo hi sl Q I rx hs pl pu h
 obtain⟨a,xs,rfl,hx,hw,q⟩:=h
 cases rx
 obtain⟨its,r,ht,hz⟩:=I.tuple hx
 have hlen:its.toArray.size=xs.length:=by rw[Jt];exact r.length.symm
 refine⟨"tuple",_,PyProof.Rows.slot_tuple_getitem.lookup,ht.typeIs,?_⟩
 refine HT.getItem_tuple_cut ht hs pl pu (by rw[hlen];exact hw) ?_ (by rw[hlen];exact hz)
 rw[hlen]
 refine⟨.ref s.heap.objs.size,_,I.laid (t':=s.toks) (o:=.tup (pq xs lo hi)) (fun b ob q=>Jh _ q) (Jj _) ?_,rfl,q _ (I.hok.fresh (Jj _))⟩
 exact⟨Ju (l9 xs lo hi) hz,_,(r.drop (HT.sIx xs.length 0 lo)).take (HT.sIx xs.length xs.length hi - HT.sIx xs.length 0 lo),IsTup.new _ _⟩
def F6(K:PySem.W.Frag):R2:=fun x y H Q=>∃ a b ns ms,x= .ref a/\y= .ref b/\j5 K H a (ns.map V.int)/\j5 K H b (ms.map V.int)/\Q (.bl (HT.lexLt ns ms)) H
theorem uF(hu:X.A.units<cLine):iS X (compareOp .Lt) (F6 X.K):=by
 intro pins s σ H x y v u Q I rx ry h
 obtain⟨a,b,ns,ms,rfl,rfl,ha,hb,q⟩:=h
 cases rx
 cases ry
 obtain⟨its,r1,p1,_⟩:=I.tuple ha
 obtain⟨its2,r2,p2,_⟩:=I.tuple hb
 have i1:IntsAre its.toArray.toList ns:=Mi r1
 have i2:IntsAre its2.toArray.toList ms:=Mi r2
 exact HT.lt_tupInts p1 p2 i1 i2 hu ⟨.bl (HT.lexLt ns ms),H,I,rfl,q⟩
def F7(K:PySem.W.Frag):R2:=fun x y H Q=>∃ a b xs ys,x= .ref a/\y= .ref b/\j5 K H a xs/\j5 K H b ys/\xs≠[]/\xs.length+ys.length<=sizeLine/\
 (ys=[]->Q (.ref a) H)/\(ys≠[]->∀ p,H p=none->Q (.ref p) (upd H p (.tup (xs++ys))))
theorem aZ.nil_iff{xs:List V}{us:List Value}(r:aZ xs us):us=[]↔xs=[]:=by
 cases r with
 |nil=>simp
 |cons _ _=>simp
theorem BI:iS X (binaryOp .Add) (F7 X.K):=by
 intro pins s σ H x y v u Q I rx ry h
 obtain⟨a,b,xs,ys,rfl,rfl,ha,hb,hx,hz,q1,q2⟩:=h
 cases rx
 cases ry
 obtain⟨its,r1,p1,_⟩:=I.tuple ha
 obtain⟨its2,r2,p2,_⟩:=I.tuple hb
 refine HT.cat_tup p1 p2 (fun z=>hx (r1.nil_iff.mp z)) (fun z=>⟨.ref a,H,I,rfl,q1 (r2.nil_iff.mp z)⟩) (fun z=>?_) (by rw[<-r1.length, <-r2.length];exact hz)
 refine⟨.ref s.heap.objs.size,_,I.laid (t':=s.toks) (o:=.tup (xs++ys)) (fun b ob q=>Jh _ q) (Jj _) ?_,rfl,q2 (fun w=>z (r2.nil_iff.mpr w)) _ (I.hok.fresh (Jj _))⟩
 exact⟨by rw[Js];exact hz,_,r1.append r2,IsTup.new _ _⟩
end
end L2
namespace L2
open PySem PySem.Spec PyProof.Rows
def uG(n:Nat)(i:Int):Option Nat:=if 0<=i then (if i<n then some i.toNat else none)else if -(n:Int)<=i then some (i+n).toNat else none
def i3{α:Type}(xs:List α)(i:Int):Option α:=(uG xs.length i).bind fun j=>xs[j]?
theorem vV{n:Nat}{i:Int}{j:Nat}(h:uG n i=some j):seqIndex? i n=some j/\j<n/\ -(n:Int)<=i/\i<n:=by
 unfold uG at h
 by_cases h0:0<=i
 ·rw[if_pos h0]at h
  by_cases h1:i<n
  ·rw[if_pos h1]at h
   have e:i.toNat=j:=JI h
   exact⟨by rw[seqIndex_of h0 h1,e],by omega,by omega,h1⟩
  ·rw[if_neg h1]at h;cases h
 ·rw[if_neg h0]at h
  by_cases h1: -(n:Int)<=i
  ·rw[if_pos h1]at h
   have e:(i+n).toNat=j:=JI h
   exact⟨by rw[seqIndex_neg (by omega) h1,e],by omega,h1,by omega⟩
  ·rw[if_neg h1]at h;cases h
theorem qE{α:Type}{xs:List α}{i:Int}{v:α}(h:i3 xs i=some v):∃ j,seqIndex? i xs.length=some j/\xs[j]? =some v/\j<xs.length/\ -(xs.length:Int)<=i/\i<xs.length:=by
 unfold i3 at h
 cases e:uG xs.length i with
 |none=>rw[e]at h;cases h
 |some j=>
  rw[e]at h
  obtain⟨h1,h2,h3,h4⟩:=vV e
  exact⟨j,h1,h,h2,h3,h4⟩
def qF(b:Expr):Prop:=∀ o i,subscripted b false o i=operate [o,i] (getItem o i)
def Bm(X:Cx)(r:R2):Prop:=
 ∀(value slice:Expr) (pins:List (Addr×Obj)) (s:Shared) (σ:St) (H:Hp) (x y:V) (v u:Value) (Q:VK),Inv X pins σ H s->RelV x v->RelV y u->r x y H Q->
  subscripted slice false v u=operate [v,u] (getItem v u)->wpAny (model X.prog X.w) X.A (subscriptTail value slice v u) (EP X pins σ Q) X.xe s
def HK(X:Cx)(id:String)(r:V->List V->Hp->VK->Prop):Prop:=
 ∀(pins:List (Addr×Obj)) (s:Shared) (σ:St) (H:Hp) (x:V) (xs:List V) (v:Value) (us:List Value) (Q:VK),Inv X pins σ H s->RelV x v->aZ xs us->r x xs H Q->
  wpAny (model X.prog X.w) X.A (call (.builtin id) (v::us)) (EP X pins σ Q) X.xe s
section
variable {X:Cx}{a b:Expr}{ta tb:TE}{pos:Pos}
theorem Bm.or{r r':R2}(h:Bm X r)(h':Bm X r'):Bm X (fun x y H Q=>r x y H Q\/r' x y H Q):=by
 intro value slice pins s σ H x y v u Q I rx ry q hs
 rcases q with q|q
 ·exact h value slice pins s σ H x y v u Q I rx ry q hs
 ·exact h' value slice pins s σ H x y v u Q I rx ry q hs
theorem F8{r:R2}(hr:Bm X r)(ha:PE X a ta)(hb:PE X b tb)(hs:qF b):PE X (.Subscript a b pos) (FT r ta tb):=by
 intro pins s σ H Q I h
 exact Subscript_ (DQ ha hb I h fun v u s2 x y H2 I2 rx ry q=>hr a b pins s2 σ H2 x y v u Q I2 rx ry q (hs _ _))
def F9(K:PySem.W.Frag):R2:=fun x y H Q=>∃ p xs i v,x= .ref p/\y= .int i/\iY K H p xs/\i3 xs i=some v/\Q v H
def Ga(K:PySem.W.Frag):R2:=fun x y H Q=>∃ p xs i v,x= .ref p/\y= .int i/\j5 K H p xs/\i3 xs i=some v/\Q v H
def Gb:R2:=fun x y H Q=>∃ z i c,x= .str z/\y= .int i/\z.length<=sizeLine/\i3 z.cps.toList i=some c/\Q (.str ⟨#[c]⟩) H
theorem BJ:Bm X (F9 X.K):=by
 intro value slice pins s σ H x y v u Q I rx ry h hs
 obtain⟨p,xs,i,z,rfl,rfl,hq,he,q⟩:=h
 cases rx
 obtain⟨t,rfl⟩:=ry
 obtain⟨its,r,pl,hz⟩:=I.list hq
 obtain⟨j,h1,h2,h3,h4,h5⟩:=qE he
 obtain⟨w,ew,rw'⟩:=r.get h2
 have hl:=r.length
 have hn:=m9
 have fin:EP X pins σ Q w s:=⟨z,H,I,rw',q⟩
 by_cases h0:0<=i
 ·have hj:i.toNat=j:=by
   rw[seqIndex_of h0 h5]at h1
   exact JI h1
  exact item_listR pl.isList h0 (by omega) (by rw[hj];simpa using ew) fin hs
 ·have hj:(i+(its.toArray.size:Int)).toNat=j:=by
   rw[seqIndex_neg (by omega) h4]at h1
   rw[Jt, <-hl]
   exact JI h1
  exact subscriptTail_builtinR (x:=w) pl.isList.typeIs slot_list_getitem.lookup
   (wpAny_getItem_list_neg (Q:=fun r s'=>r=w/\EP X pins σ Q r s') pl.isList (by omega) (by rw[Jt]<;>omega) (by omega) (by rw[hj];simpa using ew) ⟨rfl,fin⟩) hs
theorem D1:Bm X (Ga X.K):=by
 intro value slice pins s σ H x y v u Q I rx ry h hs
 obtain⟨p,xs,i,z,rfl,rfl,hq,he,q⟩:=h
 cases rx
 obtain⟨t,rfl⟩:=ry
 obtain⟨its,r,pl,hz⟩:=I.tuple hq
 obtain⟨j,h1,h2,h3,h4,h5⟩:=qE he
 obtain⟨w,ew,rw'⟩:=r.get h2
 have hl:=r.length
 have hn:=m9
 have fin:EP X pins σ Q w s:=⟨z,H,I,rw',q⟩
 exact subscriptTail_builtinR (x:=w) pl.typeIs slot_tuple_getitem.lookup
  (getItem_tuple (j:=j) (Q:=fun r s'=>r=w/\EP X pins σ Q r s') pl (by omega) (by omega) (by rw[Jt, <-hl];exact h1) (by simpa using ew) ⟨rfl,fin⟩) hs
theorem D3:Bm X Gb:=by
 intro value slice pins s σ H x y v u Q I rx ry h hs
 obtain⟨z,i,c,rfl,rfl,hz,he,q⟩:=h
 obtain⟨t,rfl⟩:=rx
 obtain⟨t',rfl⟩:=ry
 obtain⟨j,h1,h2,h3,h4,h5⟩:=qE he
 have hl:z.cps.toList.length=z.length:=by simp[Str.length]
 rw[hl]at h1 h4 h5
 have hn:=m9
 exact tail_any (typeIs_str s z t) slot_str_getitem.lookup (getItem_str (c:=c) (by
  have e1:decide (i< -(2 ^ 63:Int))=false:=JW (by omega)
  have e2:decide (i ≥ 2 ^ 63)=false:=JW (by omega)
  rw[e1,e2,Bool.or_false]) (by rw[h1];simpa using h2) ⟨.str ⟨#[c]⟩,H,I.tok _,⟨_,rfl⟩,q⟩) hs
def IA(K:PySem.W.Frag):R2:=fun x y H Q=>F9 K x y H Q\/Ga K x y H Q\/Gb x y H Q
theorem D4:Bm X (IA X.K):=BJ.or (D1.or D3)
theorem uH(its:List Value)(n j:Nat)(u:Value):Obj.mapSeq (·.setIfInBounds j u) {cls:=.type "list",data:=.seq its.toArray n}={cls:=.type "list",data:=.seq (its.set j u).toArray n}:=by
 simp[Obj.mapSeq]
theorem Inv.lst{pins:List (Addr×Obj)}{σ:St}{H:Hp}{s:Shared}{p:Addr}{xs:List V}(I:Inv X pins σ H s)(h:H p=some (.lst xs)):
  ∃(its:List Value) (n:Nat),aZ xs its/\s.heap.get? p=some {cls:=.type "list",data:=.seq its.toArray n}/\xs.length<=sizeLine:=by
 obtain⟨z,its,n,r,e⟩:=I.hok p _ h
 exact⟨its,n,r,e,z⟩
theorem Inv.lstUpd{pins:List (Addr×Obj)}{σ:St}{H:Hp}{s:Shared}{p:Addr}{xs ys:List V}{its its':List Value}{n n':Nat}{f:Obj->Obj}(I:Inv X pins σ H s)(h:H p=some (.lst xs))
  (ho:s.heap.get? p=some {cls:=.type "list",data:=.seq its.toArray n}) (hf:f {cls:=.type "list",data:=.seq its.toArray n}={cls:=.type "list",data:=.seq its'.toArray n'}) (r:aZ ys its') (hz:ys.length<=sizeLine) (t:Nat):
  Inv X pins σ (upd H p (.lst ys)) {s with heap:=s.heap.update p f,toks:=t}:=by
 have e:(s.heap.update p f).get? p=some {cls:=.type "list",data:=.seq its'.toArray n'}:=by
  rw[J3 f ho (by rw[hf]<;>rfl),hf]
 refine I.write (x:=p) (e:=p) (by rw[h];trivial) (.inl rfl) (fun b u hb q=>(JU _ _ (Ne.symm hb)).trans q) ⟨_,e⟩ ?_
 exact⟨hz,its',n',r,e⟩
def Dd:V->V->V->Hp->(Hp->Prop)->Prop:=fun o i v H Q=>∃ p xs k j,o= .ref p/\i= .int k/\H p=some (.lst xs)/\uG xs.length k=some j/\Q (upd H p (.lst (xs.set j v)))
theorem set_list:FN X Dd:=by
 intro pins s σ H o i v ov iv u Q I ro ri rv h
 obtain⟨p,xs,k,j,rfl,rfl,hp,hj,q⟩:=h
 cases ro
 obtain⟨t,rfl⟩:=ri
 obtain⟨its,n,r,ho,hz⟩:=I.lst hp
 obtain⟨h1,h2,h3,h4⟩:=vV hj
 have hl:=r.length
 have hn:=m9
 have I':Inv X pins σ (upd H p (.lst (xs.set j v))) {s with heap:=s.heap.update p (Obj.mapSeq (·.setIfInBounds j u))}:=
  I.lstUpd hp ho (uH its n j u) (r.set rv j) (by rw[Mj];exact hz) s.toks
 by_cases h0:0<=k
 ·have hk:k.toNat=j:=by
   rw[seqIndex_of h0 h4]at h1
   exact JI h1
  exact PySem.W.ki_setAt ho h0 (by omega) (by rw[Jt, <-hl];exact h4) (by rw[hk];exact⟨_,I',q⟩)
 ·have hk:(k+(its.toArray.size:Int)).toNat=j:=by
   rw[seqIndex_neg (by omega) h3]at h1
   rw[Jt, <-hl]
   exact JI h1
  exact PySem.W.ki_setBack ho (by omega) (by rw[Jt, <-hl];exact h3) (by omega) (by rw[hk];exact⟨_,I',q⟩)
theorem qG(lo hi:Option Int)(n:Nat):(sliceBounds lo hi none n).1=((HT.sIx n 0 lo:Nat):Int)/\(sliceBounds lo hi none n).2.1=((HT.sIx n n hi:Nat):Int)/\(sliceBounds lo hi none n).2.2=1:=by
 refine⟨?_,?_,rfl⟩
 ·cases lo with
  |none=>simp[sliceBounds,HT.sIx]
  |some i=>
   simp only[sliceBounds,HT.sIx,Option.getD_none,show(1:Int)>0 by decide,if_true]
   by_cases h:i<0
   ·simp only[h,if_true]<;>omega
   ·simp only[h,if_false]<;>omega
 ·cases hi with
  |none=>simp[sliceBounds,HT.sIx]
  |some i=>
   simp only[sliceBounds,HT.sIx,Option.getD_none,show(1:Int)>0 by decide,if_true]
   by_cases h:i<0
   ·simp only[h,if_true]<;>omega
   ·simp only[h,if_false]<;>omega
theorem px(its:List Value)(lo hi:Option Int):slicePick its.toArray lo hi none=((its.drop (HT.sIx its.length 0 lo)).take (HT.sIx its.length its.length hi - HT.sIx its.length 0 lo)).toArray:=by
 obtain⟨h1,h2,h3⟩:=qG lo hi its.toArray.size
 unfold slicePick
 rw[h1,h2,h3]
 simp only[sliceRange_one,pick_run,List.size_toArray]<;>rfl
def HL(K:PySem.W.Frag):V->Option Int->Option Int->Hp->VK->Prop:=fun x lo hi H Q=>∃ a xs,x= .ref a/\iY K H a xs/\∀ p,H p=none->Q (.ref p) (upd H p (.lst (pq xs lo hi)))
theorem BK:Dc X (HL X.K):=by
 intro pins s σ H x v vl vu lo hi sl Q I rx hs pl pu h
 obtain⟨a,xs,rfl,hx,q⟩:=h
 cases rx
 obtain⟨its,r,ht,hz⟩:=I.list hx
 have hlen:=r.length
 refine⟨"list",_,slot_list_getitem.lookup,ht.isList.typeIs,?_⟩
 refine wpAny_getItem_list_slice ht.isList hs pl pu .none (by simp) ?_ (by rw[Jt]<;>omega)
 rw[px, <-hlen]
 refine⟨.ref s.heap.objs.size,_,I.laid (t':=s.toks) (o:=.lst (pq xs lo hi)) (fun b ob q=>Jh _ q) (Jj _) ?_,rfl,q _ (I.hok.fresh (Jj _))⟩
 exact⟨Ju (l9 xs lo hi) hz,_,0,(r.drop (HT.sIx xs.length 0 lo)).take (HT.sIx xs.length xs.length hi - HT.sIx xs.length 0 lo),Jo _ rfl⟩
theorem qH:cG X (.builtin "len") (fun xs H Q=>∃ p ys,xs=[.ref p]/\(iY X.K H p ys\/j5 X.K H p ys)/\Q (.int ys.length) H):=by
 intro pins s σ H xs us Q I r h
 obtain⟨p,ys,rfl,hq,q⟩:=h
 obtain⟨u,rfl,rx⟩:=vals1 r
 cases rx
 have hn:=m9
 rcases hq with hq|hq
 ·obtain⟨its,r',pl,hz⟩:=I.list hq
  have hlen:=r'.length
  exact Calls.call_len_list pl.isList (by simp only[List.size_toArray]<;>omega) ⟨.int ys.length,H,I.tok _,⟨s.toks+1,by rw[Jt,hlen]⟩,q⟩
 ·obtain⟨its,r',pl,hz⟩:=I.tuple hq
  have hlen:=r'.length
  exact len_tuple pl (by simp only[List.size_toArray]<;>omega) ⟨.int ys.length,H,I.tok _,⟨s.toks+1,by rw[Jt,hlen]⟩,q⟩
theorem cG.or{f:Value}{r r':List V->Hp->VK->Prop}(h:cG X f r)(h':cG X f r'):cG X f (fun xs H Q=>r xs H Q\/r' xs H Q):=by
 intro pins s σ H xs us Q I rs q
 rcases q with q|q
 ·exact h pins s σ H xs us Q I rs q
 ·exact h' pins s σ H xs us Q I rs q
theorem qI:cG X (.type "list") (fun xs H Q=>∃ p ys,xs=[.ref p]/\(iY X.K H p ys\/j5 X.K H p ys)/\∀ l,H l=none->Q (.ref l) (upd H l (.lst ys))):=by
 intro pins s σ H xs us Q I r h
 obtain⟨p,ys,rfl,hq,q⟩:=h
 obtain⟨u,rfl,rx⟩:=vals1 r
 cases rx
 have fin:∀(its:List Value),aZ ys its->ys.length<=sizeLine->∀(h':Heap) (c':Nat),(∀ b o',s.heap.get? b=some o'->h'.get? b=some o')->
   h'.get? s.heap.objs.size=some {cls:=.type "list",dict:=none,data:=.seq its.toArray c',slots:= #[]}->EP X pins σ Q (.ref s.heap.objs.size) {s with heap:=h'}:=fun its r' hz h' c' kp e=>
  ⟨.ref s.heap.objs.size,_,I.laid (t':=s.toks) kp (Jj _) (show aY X.prog X.w _ h' _ (.lst ys)from⟨hz,its,c',r',e⟩),rfl,q _ (I.hok.fresh (Jj _))⟩
 rcases hq with hq|hq
 ·obtain⟨its,r',pl,hz⟩:=I.list hq
  have hlen:=r'.length
  obtain⟨o,ho,hc,n,hd⟩:=pl.isList
  exact call_list_seq p (.inl rfl) ho hc hd (fun h' c' kp e=>fin its r' hz h' c' kp e) (by simp only[List.size_toArray]<;>omega)
 ·obtain⟨its,r',pl,hz⟩:=I.tuple hq
  have hlen:=r'.length
  obtain⟨o,ho,hc,n,hd⟩:=pl
  exact call_list_seq p (.inr rfl) ho hc hd (fun h' c' kp e=>fin its r' hz h' c' kp e) (by simp only[List.size_toArray]<;>omega)
theorem pz:cG X (.type "tuple") (fun xs H Q=>∃ p ys,xs=[.ref p]/\((iY X.K H p ys/\∀ l,H l=none->Q (.ref l) (upd H l (.tup ys)))\/(j5 X.K H p ys/\Q (.ref p) H))):=by
 intro pins s σ H xs us Q I r h
 obtain⟨p,ys,rfl,h⟩:=h
 obtain⟨u,rfl,rx⟩:=vals1 r
 cases rx
 rcases h with⟨hq,q⟩|⟨hq,q⟩
 ·obtain⟨its,r',pl,hz⟩:=I.list hq
  have hlen:=r'.length
  refine call_tuple_list pl.isList (fun h' kp=>?_) (by simp only[List.size_toArray]<;>omega)
  have I1:Inv X pins σ H {s with heap:=h'}:=I.kept (t':=s.toks) kp
  have I2:Inv X pins σ (upd H h'.objs.size (.tup ys)) {s with heap:=h'.push {cls:=.type "tuple",data:=.seq its.toArray}}:=
   I1.laid (t':=s.toks) (fun b o e=>Jh _ e) (Jj _) (show aY X.prog X.w _ _ _ (.tup ys)from⟨hz,its,r',IsTup.new _ _⟩)
  exact⟨.ref h'.objs.size,_,I2,rfl,q _ (I1.hok.fresh (Jj _))⟩
 ·obtain⟨its,r',pl,hz⟩:=I.tuple hq
  exact call_tuple_same pl ⟨.ref p,H,I,rfl,q⟩
def HM(K:PySem.W.Frag)(T:String)(x:V)(H:Hp):Prop:=match x with
 | .str _=>T="str"
 | .int _=>T="int"
 | .ref p=>(T="list"/\∃ xs,iY K H p xs)\/(T="tuple"/\∃ o,K.lookup p=some o/\o.cls= .type "tuple"/\o.dict=none)\/
   (T="dict"/\((∃ kvs,H p=some (.dK kvs))\/∃ kvs,H p=some (.dT kvs)))\/(T="set"/\∃ S n,H p=some (.set S n))
 |_=>False
theorem D5{pins:List (Addr×Obj)}{σ:St}{H:Hp}{s:Shared}{T:String}{x:V}{v:Value}(I:Inv X pins σ H s)(r:RelV x v)(ty:HM X.K T x H):
  s.TypeIs v T/\∀ a,v= .ref a->∃ ob,s.heap.get? a=some ob/\ob.dict=none:=by
 cases x with
 |str z=>
  obtain⟨t,rfl⟩:=r
  cases (show T="str" from ty)
  exact⟨typeIs_str s z t,fun _ e=>nomatch e⟩
 |int i=>
  obtain⟨t,rfl⟩:=r
  cases (show T="int" from ty)
  exact⟨typeIs_int s i t,fun _ e=>nomatch e⟩
 | ref p=>
  cases r
  rcases ty with⟨rfl,xs,hq⟩|⟨rfl,o,hk,hc,hd⟩|⟨rfl,hk⟩|⟨rfl,S,n,hk⟩
  ·obtain⟨its,_,pl,_⟩:=I.list hq
   refine⟨pl.isList.typeIs,fun a e=>?_⟩
   cases e
   obtain⟨o,n,e,c,hd,_⟩:=pl
   exact⟨o,e,hd⟩
  ·refine⟨⟨o,I.kIn p o hk,hc⟩,fun a e=>?_⟩
   cases e
   exact⟨o,I.kIn _ o hk,hd⟩
  ·have z:∃ o,s.heap.get? p=some o/\o.ExactDict:=by
    rcases hk with⟨kvs,hk⟩|⟨kvs,hk⟩
    ·obtain⟨_,_,_,_,o,_,_,e,ex,_⟩:=I.hok p _ hk
     exact⟨o,e,ex⟩
    ·obtain⟨_,_,_,_,o,_,_,e,ex,_⟩:=I.hok p _ hk
     exact⟨o,e,ex⟩
   obtain⟨o,e,ex⟩:=z
   refine⟨⟨o,e,ex.1⟩,fun a e2=>?_⟩
   cases e2
   exact⟨o,e,ex.2.1⟩
  ·obtain⟨o,_,_,_,e,ex,_⟩:=I.hok p _ hk
   refine⟨⟨o,e,ex.1⟩,fun a e2=>?_⟩
   cases e2
   exact⟨o,e,ex.2.1⟩
 |_=>exact False.elim ty
def IS(K:PySem.W.Frag)(T:String)(r:V->List V->Hp->VK->Prop)(to:TE)(t:TA):TE:=fun σ H Q=>to σ H fun x H1=>HM K T x H1/\t σ H1 fun xs H2=>r x xs H2 Q
variable {o e:Expr}{es:List Expr}{to:TE}{t:TA}{name:Str}{apos cpos:Pos}{T id:String}{r:V->List V->Hp->VK->Prop}
theorem Gc(pa:PlainAttrs T)(slot:Slot T name id)(hty:typeOf (.builtin id)=pure (.type "method_descriptor"))(hm:HK X id r)(ho:PE X o to)(ha:PA X (e::es) t)
  (hbase:attributeBase o name X.env (eval o X.env)=eval o X.env:=by rfl)
  (hfew:((backTo cpos (starEach (e::es) X.env)).all (fun x=> !x.1) && (backToKw cpos (keywordEach [] X.env)).all (fun x=>x.1.isSome)
   && decide ((e::es).length+([]:List Keyword).length+(if ([]:List Keyword).isEmpty then 0 else 1)<30))=true:=by rfl)
  (hline:(apos.endLine==cpos.line)=true:=by rfl) (hs:starEach (e::es) X.env=(false,eval e X.env)::starEach es X.env:=by rfl) (hplain:(backTo cpos (starEach es X.env)).any (·.1)=false:=by rfl):
  PE X (.Call (.Attribute o name apos) (e::es) [] cpos) (IS X.K T r to t):=by
 intro pins s σ H Q I h
 refine wpAny_Call_method_late hbase hfew hline rfl (df (ho pins s σ H _ I h) fun v s1 ⟨x,H1,I1,r1,ty,q1⟩=>?_)
 obtain⟨h1,h2⟩:=D5 I1 r1 ty
 refine⟨T,id,pa,slot,hty,h1,h2,?_⟩
 have hA:=ha cpos pins s1 σ H1 _ I1 q1
 rw[hs]at hA ⊢
 refine Calls.callWith_builtin (by show(false||(backTo cpos (starEach es X.env)).any (·.1))=false;rw[hplain]<;>rfl) (Mb ?_)
 exact df hA fun us s2 ⟨vs,H2,I2,r2,q2⟩=>hm pins s2 σ H2 x vs v us Q I2 r1 r2 q2
end
end L2
namespace L2
open PySem PySem.Spec PyProof.Rows
def IB(X:Cx)(id:String)(r:V->List V->Hp->VK->Prop):Prop:=
 ∀(pins:List (Addr×Obj)) (s:Shared) (σ:St) (H:Hp) (x:V) (xs:List V) (v:Value) (us:List Value) (Q:VK),Inv X pins σ H s->RelV x v->aZ xs us->r x xs H Q->
  wpAny (model X.prog X.w) X.A (call (.builtin id) (v::us)) (EP X pins σ Q) X.xe s
theorem aZ.one:∀{x:V} {us:List Value},aZ [x] us->∃ u,us=[u]/\RelV x u
 |_,_,.cons r .nil=>⟨_,rfl,r⟩
theorem aZ.eraseIdx:∀{xs:List V} {us:List Value} (i:Nat),aZ xs us->aZ (xs.eraseIdx i) (us.eraseIdx i)
 |_,_,_,.nil=>.nil
 |_,_,0,.cons _ t=>t
 |_,_,i+1,.cons r t=>.cons r (aZ.eraseIdx i t)
theorem pS{α:Type}:∀(l:List α) (i:Nat),(l.eraseIdx i).length<=l.length
 |[],_=>Jj _
 |_::_,0=>MK _
 |_::r,i+1=>Lj (pS r i)
section
variable {X:Cx}{pins:List (Addr×Obj)}{σ:St}{H:Hp}{s:Shared}{l b:Addr}{xs ys zs:List V}
theorem Inv.lset{its its':List Value}{n:Nat}{f:Array Value->Array Value}{t':Nat}(I:Inv X pins σ H s)(hH:H l=some (.lst xs))
  (e:s.heap.get? l=some {cls:=.type "list",data:=.seq its.toArray n}) (hf:f its.toArray=its'.toArray) (hv:aZ ys its') (hz:ys.length<=sizeLine):
  Inv X pins σ (upd H l (.lst ys)) {s with heap:=s.heap.update l (Obj.mapSeq f),toks:=t'}:=by
 have q:=PySem.IsL.update e f
 rw[hf]at q
 refine I.write (x:=l) (e:=l) (by rw[hH];exact trivial) (.inl rfl) (fun b' u hb hu=>(JU s.heap (Obj.mapSeq f) (Ne.symm hb)).trans hu) ⟨_,q⟩ ?_
 exact⟨hz,its',_,hv,q⟩
theorem Inv.lnew{its:List Value}{t':Nat}(I:Inv X pins σ H s)(hv:aZ ys its)(hz:ys.length<=sizeLine):
  Inv X pins σ (upd H s.heap.objs.size (.lst ys)) {s with heap:=s.heap.push {cls:=.type "list",data:=.seq its.toArray},toks:=t'}:=
 I.laid (fun _ _ q=>Jh _ q) (Jj _) ⟨hz,its,0,hv,Jo _ rfl⟩
theorem Inv.fresh(I:Inv X pins σ H s):H s.heap.objs.size=none:=I.hok.fresh (Jj _)
theorem Inv.lstM(I:Inv X pins σ H s)(hH:H l=some (.lst xs)):xs.length<=sizeLine/\∃(its:List Value) (n:Nat),aZ xs its/\xs.length=its.length/\s.heap.get? l=some {cls:=.type "list",data:=.seq its.toArray n}:=by
 obtain⟨z,its,n,r,e⟩:=I.hok l _ hH
 exact⟨z,its,n,r,r.length,e⟩
theorem zb{n:Nat}(h:n<=sizeLine):Builtin.List.listTooLong n=false:=by
 unfold Builtin.List.listTooLong
 exact JW (by omega)
end
section
variable {X:Cx}
def vW:V->List V->Hp->VK->Prop:=fun x vs H Q=>∃ l xs y,x= .ref l/\vs=[y]/\H l=some (.lst xs)/\xs.length<sizeLine/\Q .non (upd H l (.lst (xs++[y])))
theorem lB:IB X "list.append" vW:=by
 intro pins s σ H x vs v us Q I rx rv h
 obtain⟨l,xs,y,rfl,rfl,hH,hz,q⟩:=h
 cases rx
 obtain⟨u,rfl,ru⟩:=rv.one
 obtain⟨z,its,n,r,hl,e⟩:=I.lstM hH
 refine call_meets F.slot_list_append ⟨_,e,rfl⟩ F.entry_list_append (F.args_list_append_2 _ _) (PySem.list_append l its.toArray n u (by rw[Jt];omega)) ⟨e,?_⟩
 refine⟨.non,_,I.lset (its':=its++[u]) hH e (by simp) (r.append (.cons ru .nil)) ?_,rfl,q⟩
 rw[Js,L4]
 omega
def zd:V->List V->Hp->VK->Prop:=fun x vs H Q=>∃ l xs i k y,x= .ref l/\vs=[.int i]/\H l=some (.lst xs)/\ -(2 ^ 63)<=i/\i<2 ^ 63/\seqIndex? i xs.length=some k/\xs[k]? =some y/\Q y (upd H l (.lst (xs.eraseIdx k)))
theorem zh:IB X "list.pop" zd:=by
 intro pins s σ H x vs v us Q I rx rv h
 obtain⟨l,xs,i,k,y,rfl,rfl,hH,h1,h2,hk,hy,q⟩:=h
 cases rx
 obtain⟨u,rfl,ru⟩:=rv.one
 obtain⟨t,rfl⟩:=ru
 obtain⟨z,its,n,r,hl,e⟩:=I.lstM hH
 obtain⟨w,hw,rw'⟩:=r.get hy
 refine call_meets F.slot_list_pop ⟨_,e,rfl⟩ F.entry_list_pop (F.args_list_pop_2 _ _)
  (MeetsSeq.list_pop_at l its.toArray n i t k w (fitsIndex_both h1 h2) (by rw[Jt, <-hl];exact hk) (by rw[<-JL];exact hw) (by rw[Jt];omega)) ⟨e,?_⟩
 refine⟨y,_,I.lset (its':=its.eraseIdx k) hH e ?_ (r.eraseIdx k) ?_,rw',q⟩
 ·show its.toArray.eraseIdxIfInBounds k=(its.eraseIdx k).toArray
  rw[List.eraseIdxIfInBounds_toArray]
 ·have:=pS xs k
  omega
end
section
variable {prog:Program}{w:World}{A:Around}{E:Value->Shared->Prop}{s:Shared}
end
section
variable {X:Cx}
end
end L2
namespace Att
open PySem PySem.W PySem.Calls PyProof.Rows
theorem mE{P:Params}{h:Heap}:∀(ns:List Int) (vs:List Value),WellAll P h vs (ns.map WData.int)->IntsAre vs ns:=by
 intro ns
 induction ns with
 |nil=>
  intro vs w
  rw[MT]at w
  cases w
  exact .nil
 | cons n ns ih=>
  intro vs w
  rw[JT]at w
  cases w with
  |cons a b=>
   cases a
   exact .cons _ _ (ih _ b)
theorem xx{l:OpenLaw}{n:Nat}(hn:l.most=some n){P:Params}{h:Heap}{args:List WData}{vals:List Value}
  (hpre:l.row.toRowW.claim.pre args=true) (hwl:WellAll P h vals args):
  ∃ a vs ns,vals=[Value.ref a]/\args=[WData.list (ns.map WData.int)]/\h.get? a=some {cls:=.type "list",data:=.seq vs.toArray}/\IntsAre vs ns/\ns.length<=n:=by
 have gu:WShape.hasAll [] args [.list .int]=true:=(pre_splitW hpre).1
 have hc:l.pre.holds [] {args:=args}=true:=(pre_splitW hpre).2
 obtain⟨d,r,rfl,h1,h2⟩:=hasAllW_cons gu
 obtain rfl:=hasAllW_nil h2
 obtain⟨xs,rfl,h3⟩:=hasW_list h1
 obtain⟨ns,rfl⟩:=items_int h3
 have hlen:ns.length<=n:=by
  unfold OpenLaw.pre at hc
  have h4:(WTm.not (.lt (.lit (.int (n:Int))) (.len (.arg 0)))).holds [] {args:=[.list (ns.map .int)]}=true:=by
   have h4:=(holds_andW hc).1
   rw[hn]at h4
   exact h4
  have h5:=condW_of h4 (w_not (w_lt w_lit (w_len_list (w_arg rfl))))
  rw[Jl]at h5
  refine MS fun q=>?_
  have q':(n:Int)<((ns.length:Nat):Int):=by omega
  first
   |(rw[JK q']at h5;exact absurd h5 (by decide))
   |(simp at h5;omega)
 cases hwl with
 |cons w1 w2=>
  cases w2
  cases w1 with
  |list ho hall=>exact⟨_,_,ns,rfl,rfl,ho,mE ns _ hall,hlen⟩
theorem xy(l:OpenLaw)(args:List WData):l.row.toRowW.claim.post args (.bool true) args=true:=
 postW_of (r:=l.row.toRowW) (X:=(true==true))
  (show WShape.has [] (.bool true) .bool=true by first|rfl|decide|simp[WShape.has,WShape.arms,WShape.armsAll])
  (show(WTm.eq .res (.lit (.bool true))).value [] {args:=args,res:=some (.bool true),after:=args}=some (.bool (true==true))from w_eq_bool (w_res rfl) w_lit) rfl
theorem attach_call{l:OpenLaw}{n:Nat}{q:Program}{loose:List Str}{XP:(Str->Option Value)->Heap->Prop}{YP:World->Heap->Prop}{d:DefRec}
  (hn:l.most=some n) (hdf:d.params.defaults=[])
  (call:∀(w:World) (s₀ s₁:Shared) (mg mb:Str->Option Value) (fa:Addr) (o:Obj) (pm cd doc:Value) (a:Addr) (vs:List Value) (ns:List Int),
   Ground q loose [] XP w s₀ mg mb s₁.heap->YP w s₁.heap->
   s₁.heap.get? fa=some o->o.data= .func (docDef d.name d.params d.body d.scope pm cd doc)->s₁.heap.CodeRec cd d.name->mg d.name=some (.ref fa)->
   s₁.heap.get? a=some {cls:=.type "list",data:=.seq vs.toArray}->IntsAre vs ns->ns.length<=n->s₁.gens= #[]->
   codeAny (model l.prog w) callerA (.call (.ref fa) ⟨[.ref a],[]⟩) (fun r s'=>r= .ok (.ret (.bool true))/\OldK s₁.heap s'.heap/\s'.os=s₁.os/\AllBare s'.gens) s₁):
  WalkO q loose XP YP l.row.toRowW d [] (fun f vs=>PySem.call f vs):=by
 intro w s₀ s₁ mg mb G Y fa o pm cd doc dV kV ho hd hcd hD hmg hg args vals as hpre hlay hrd hwl hlo
 obtain rfl:dV= .none:=Dflts.none hD hdf
 obtain rfl:kV= .none:=Dflts.noKw hD
 obtain⟨a,vs,ns,rfl,rfl,hobj,hints,hlen⟩:=xx hn hpre hwl
 refine enter_call (KE (call w s₀ s₁ mg mb fa o pm cd doc a vs ns G Y ho (fd_plain hd) hcd hmg hobj hints hlen hg) fun r s' hq=>?_)
 obtain⟨rfl,h2,h3,h4⟩:=hq
 exact⟨.inl ⟨.bool true,.bool true,[],rfl,fun _=>rfl,.bool true,xy l _,fun _=>⟨List.Pairwise.nil,fun _ hm=>(nomatch hm)⟩⟩,h2,h3,h4⟩
section
variable {prog:Program}{w:World}{A:Around}{E:Value->Shared->Prop}{s:Shared}{K:Frag}
def ledger(h:Heap)(L d:Addr):List (Addr×Obj):=(List.range h.objs.size).filterMap fun a=>if a=L\/a=d then none else (h.get? a).map fun o=>(a,o)
end
end Att
namespace L2
open PySem PySem.Spec PyProof.Rows
theorem jD:∀{vs:List Value} {ns:List Int},IntsAre vs ns->aZ (ns.map V.int) vs
 |_,_,.nil=>.nil
 |_,_,.cons n t h=>.cons ⟨t,rfl⟩ (jD h)
def D6(H:Hp):Prop:=∀ b,H b=none\/∃ o xs,H b=some (.frz o (.lst xs))
theorem zj{P:Program}{w:World}{K:PySem.W.Frag}{mg mb:Str->Option Value}{CX:yL}{k:Nat}{fa a:Addr}{fd:FuncData}{x:Str}{sp:Sp}{s₁:Shared}{vs:List Value}{ns:List Int}
  (KX:K.In s₁.heap) (hns:s₁.heap.Ns mainGlobals mg) (hb:s₁.heap.Ns builtinsNs mb) (hbb:∀ x:Str,x≠"__name__"->mb x=bootBuiltins x) (hlim:s₁.heap.NoLimit) (hg:s₁.gens= #[])
  (ha:s₁.heap.get? a=some {cls:=.type "list",data:=.seq vs.toArray}) (hi:IntsAre vs ns) (hl:ns.length<=sizeLine) (hr:Room k callerA)
  (F:∀ base:Heap,K.In base->base.Ns mainGlobals mg->FnOk P w K mg base CX k fa fd [x] sp) (hbind:∀(s:Shared) (u:Value),BindsTo s fd ⟨[u],[]⟩ [(x,u)])
  (hsp:∀ H:Hp,D6 H->iY K H a (ns.map V.int)->sp [.ref a] H (fun v _=>v= .bl true) fun _ _ _=>False)
  (hCX:∀ H e s',CX [] H s₁ (fun _ _ _=>False) e s'->False):
  codeAny (model P w) callerA (.call (.ref fa) ⟨[.ref a],[]⟩) (fun r s'=>r= .ok (.ret (.bool true))/\OldK s₁.heap s'.heap/\s'.os=s₁.os/\AllBare s'.gens) s₁:=by
 have rv:=jD hi
 have lenV:=hi.length
 have core:∀ H:Hp,D6 H->iY K H a (ns.map V.int)->eU P w H s₁.heap->(∀ b,H b≠none->b=a)->(H a≠none->K.lookup a=none)->
   codeAny (model P w) callerA (.call (.ref fa) ⟨[.ref a],[]⟩) (fun r s'=>r= .ok (.ret (.bool true))/\OldK s₁.heap s'.heap/\s'.os=s₁.os/\AllBare s'.gens) s₁:=by
  intro H hO hS hok hA hK
  have base_of:∀{b:Addr} {o:Obj},s₁.heap.get? b=some o->H b=none->(jR s₁.heap H).get? b=some o:=fun e n=>ky e n
  have noA:∀{b:Addr} {o:Obj} {es:Array DictEntry} {ep:Nat},s₁.heap.get? b=some o->o.data= .dict es ep->H b=none:=fun{b o es ep} e d=>by
   cases q:H b with
   |none=>rfl
   |some u=>
    have e':b=a:=hA b (by rw[q];simp)
    subst e'
    rw[ha]at e;cases e
    have d':Data.seq vs.toArray _=Data.dict es ep:=d
    cases d'
  have nsK:∀{b:Addr} {m:Str->Option Value},s₁.heap.Ns b m->(jR s₁.heap H).Ns b m:=fun{b m} ⟨o,es,ep,e,d,r⟩=>⟨o,es,ep,base_of e (noA e d),d,r⟩
  have hKb:K.In (jR s₁.heap H):=fun b o e=>base_of (KX b o e) (by
   cases q:H b with
   |none=>rfl
   |some u=>
    have e':b=a:=hA b (by rw[q];simp)
    subst e'
    rw[hK (by rw[q];simp)]at e;cases e)
  have hM:Mod K mg (jR s₁.heap H):=⟨hKb,nsK hns,⟨mb,nsK hb,hbb⟩,let ⟨mc,h1,h2⟩:=hlim;⟨mc,nsK h1,h2⟩⟩
  have e0:az P w K mg (jR s₁.heap H) callerA [] s₁ H:=⟨rfl,hM,fun b o e=>qB e,Ls (lu _ _),trivial,fun b hb=>absurd (show b∈([]:List Addr)from hb) (by simp),hok,.of_eq hg⟩
  refine KE ((F _ hKb (nsK hns)).run callerA [] s₁ H ⟨[.ref a],[]⟩ [.ref a] [.ref a] _ _ hr e0 (hbind s₁ (.ref a)) (.cons rfl .nil) (hsp H hO hS)) fun r s' h=>?_
  cases r with
  |error e=>exact(hCX H e s' h).elim
  | ok fl=>
   cases fl with
   |next=>exact False.elim h
   |brk=>exact False.elim h
   |cont=>exact False.elim h
   | ret u=>
    obtain⟨v,H',os,bare,un,hok',r',q⟩:=h
    have q':v= .bl true:=q
    subst q'
    obtain rfl:u=Value.bool true:=r'
    refine⟨rfl,OldK.of_keep fun b o e=>?_,os,bare⟩
    cases q:H b with
    |none=>exact un.keep b o e q (by intro z;exact absurd (show b∈([]:List Addr)from z) (by simp)) (by simp)
    | some u=>
     rcases hO b with z|⟨ob,xs,z⟩
     ·rw[q]at z;cases z
     ·have z2:=un.frzs b ob _ z
      obtain⟨e1,_⟩:=hok b _ z
      obtain⟨e2,_⟩:=hok' b _ z2
      rw[e]at e1;cases e1
      exact e2
 cases hk:K.lookup a with
 |some o=>
  have e:=KX a o hk
  rw[ha]at e
  cases e
  refine core (fun _=>none) (fun _=>.inl rfl) (.inr ⟨_,vs.toArray,_,hk,rfl,rfl,rfl,by rw[Jt,lenV];exact hl,by simpa using rv⟩) (fun b u z=>by have z':(none:Option HO)=some u:=z;cases z') (fun b z=>absurd rfl z) fun z=>absurd rfl z
 | none=>
  refine core (fun b=>if b=a then some (.frz {cls:=.type "list",data:=.seq vs.toArray} (.lst (ns.map V.int)))else none) (fun b=>?_) (.inl (.inr ⟨{cls:=.type "list",data:=.seq vs.toArray},if_pos rfl⟩)) (fun b u z=>?_) (fun b z=>?_) fun _=>hk
  ·by_cases hb:b=a
   ·exact .inr ⟨_,_,if_pos hb⟩
   ·exact .inl (if_neg hb)
  ·by_cases hb:b=a
   ·have z':=(if_pos hb).symm.trans z
    cases z'
    subst hb
    exact⟨ha,by rw[Jl];exact hl,vs,_,rv,ha⟩
   ·have z':=(if_neg hb).symm.trans z
    cases z'
  ·by_cases hb:b=a
   ·exact hb
   ·exact absurd (if_neg hb) z
end L2
namespace L2
open PySem PySem.Spec PyProof.Rows
abbrev Jf{K:PySem.W.Frag}{h:Heap}(_:K.In h):PySem.W.Frag:=K
theorem G5{l:PySem.W.OpenLaw}{n k:Nat}{q:Program}{loose:List Str}{XP:(Str->Option Value)->Heap->Prop}{YP:World->Heap->Prop}{d:DefRec}{K:Params->PySem.W.Frag}{CX:World->yL}{sp:World->Sp}{x:Str}
  (hn:l.most=some n) (hn2:n<=sizeLine) (hdf:d.params.defaults=[]) (hr:Room k callerA)
  (hY:∀(w:World) (h:Heap),YP w h->(K w.params).In h)
  (F:∀(w:World) (mg:Str->Option Value) (fa:Addr) (h:Heap),(K w.params).In h->h.Ns mainGlobals mg->mg d.name=some (.ref fa)->
   ∃ fd:FuncData,(∀(s:Shared) (u:Value),BindsTo s fd ⟨[u],[]⟩ [(x,u)])/\
    ∀ base:Heap,(K w.params).In base->base.Ns mainGlobals mg->FnOk l.prog w (K w.params) mg base (CX w) k fa fd [x] (sp w))
  (hsp:∀(w:World) (H:Hp) (a:Addr) (ns:List Int),ns.length<=n->D6 H->iY (K w.params) H a (ns.map V.int)->sp w [.ref a] H (fun v _=>v= .bl true) fun _ _ _=>False)
  (hCX:∀(w:World) (H:Hp) (s:Shared) (e:Value) (s':Shared),CX w [] H s (fun _ _ _=>False) e s'->False):
  PySem.W.WalkO q loose XP YP l.row.toRowW d [] (fun f vs=>PySem.call f vs):=by
 refine Att.attach_call hn hdf fun w s₀ s₁ mg mb fa o pm cd doc a vs ns G Y ho hd hcd hmg hobj hints hlen hg=>?_
 have KX:=hY w _ Y
 obtain⟨fd,hb,hF⟩:=F w mg fa _ KX G.T.g hmg
 exact zj KX G.T.g G.T.b G.T.builtins G.T.nolimit hg hobj hints (Ju hlen hn2) hr hF hb (fun H hO hS=>hsp w H a ns hlen hO hS) fun H e s'=>hCX w H s₁ e s'
end L2
namespace L2
open PySem PySem.Spec PyProof.Rows
def gx(s:Stmt):Arguments:=match s with
 | .FunctionDef _ a _ _ _ _ _ _ _ _=>a
 |_=>{posonlyargs:=[],args:=[],vararg:=none,kwonlyargs:=[],kw_defaults:=[],kwarg:=none,defaults:=[]}
def cU(s:Stmt):List Stmt:=match s with
 | .FunctionDef _ _ b _ _ _ _ _ _ _=>b
 |_=>[]
def au(s:Stmt):Scope:=match s with
 | .FunctionDef _ _ _ _ _ _ sc _ _ _=>sc
 |_=>{kind:=.function,names:=[],isGenerator:=false,isCoroutine:=false}
abbrev IT:yL:=fun _ _ _ _ _ _=>False
abbrev E0:XK:=fun _ _ _=>False
structure Fun(K:PySem.W.Frag)(x qual:Str)(st:Stmt)(f:Addr)(fd:FuncData):Prop where
 ex:∃(oc:Value) (od:Option Addr) (kV doc pm:Value) (an:Option Addr) (cdv ct:Value) (osl:Array (Option Value)),
  fd=PySem.W.fnOf x qual (gx st) (cU st) (au st) .none kV doc pm an cdv ct/\K.lookup f=some ⟨oc,od,.func fd,osl⟩/\PySem.W.codeIn K cdv qual=true
 kp:PySem.W.keepIn K (.ref f)=true
section
variable {P:Program}{w:World}{K:PySem.W.Frag}{mg:Str->Option Value}{base:Heap}
theorem Fun.binds{x qual:Str}{st:Stmt}{f:Addr}{fd:FuncData}{ps:List Str}(F:Fun K x qual st f fd)
  (h:∀(kV doc pm:Value) (an:Option Addr) (cdv ct:Value) (us:List Value),us.length=ps.length->bindArgs (PySem.W.fnOf x qual (gx st) (cU st) (au st) .none kV doc pm an cdv ct) ⟨us,[]⟩=pure (ps.zip us)):Binds K fd ps []:=by
 obtain⟨oc,od,kV,doc,pm,an,cdv,ct,osl,rfl,lk,hcd⟩:=F.ex
 exact .all (h kV doc pm an cdv ct)
theorem D7{x qual:Str}{st:Stmt}{f:Addr}{oc:Value}{od an:Option Addr}{osl:Array (Option Value)}{kV doc pm cdv ct:Value}(l:K.lookup f=some ⟨oc,od,.func (PySem.W.fnOf x qual (gx st) (cU st) (au st) .none kV doc pm an cdv ct),osl⟩)
  (c:PySem.W.codeIn K cdv qual=true) (k:PySem.W.keepIn K (.ref f)=true):Fun K x qual st f (PySem.W.fnOf x qual (gx st) (cU st) (au st) .none kV doc pm an cdv ct):=⟨⟨oc,od,kV,doc,pm,an,cdv,ct,osl,rfl,l,c⟩,k⟩
end
section
variable {X:Cx}
theorem pv(i:Nat){x:Str}{pos:Pos}(hN:X.N[i]? =some x:=by rfl)(hv:yK X.env.scope x:=by first|exact Or.inl rfl|exact Or.inr (Or.inl rfl)|exact Or.inr (Or.inr rfl))(hd:(x==("__debug__":Str))=false:=by decide)
  (hcd:(x==("__classdict__":Str))=false:=by decide):PE X (.Name x pos) (FE i):=qC hN hv hd hcd
end
end L2
end
namespace S3
open PySem PySem.W PyProof.Rows
def a8{α:Type}(b:Nat->Nat->Bool):KasT α->α
 | .ret a=>a
 | .ask i j k=>a8 b (k (b i j))
theorem fR{α β:Type}(b:Nat->Nat->Bool)(f:α->KasT β):∀ t:KasT α,a8 b (t.bind f)=a8 b (f (a8 b t))
 | .ret _=>rfl
 | .ask i j k=>fR b f (k (b i j))
section
variable (r:Nat->Nat)
abbrev du:Nat->Nat->Bool:=fun i j=>decide (r i<r j)
def ka(p:Array Nat)(k:Nat):Nat:=r (p.getD k 0)
def zl(p:Array Nat)(n:Nat):Prop:=∀ i j,i<=j->j<n->ka r p i<=ka r p j
def HN(p:Array Nat)(n:Nat):Prop:=∀ i j,i<=j->j<n->ka r p j<=ka r p i
variable {r}
theorem kB{p q:Array Nat}{i j:Nat}(h:p[i]? =q[j]?):p.getD i 0=q.getD j 0:=by
 rw[JR,JR,h]
theorem qJ{p:Array Nat}{i j:Nat}(hj:j<=p.size)(k:Nat):ka r (kas_rev p i j) k=if i<=k/\k<j then ka r p (i+j - 1 - k)else ka r p k:=by
 have h:=getElem?_mirror_all (i:=i) hj k
 unfold ka kas_rev
 by_cases c:i<=k/\k<j
 ·rw[if_pos c]at h ⊢;rw[kB h]
 ·rw[if_neg c]at h ⊢;rw[kB h]
theorem pT{p:Array Nat}{src d:Nat}(hs:src<p.size)(hd:d<=src)(k:Nat):ka r (bubble p src d) k=if k=src - d then ka r p src else if src - d<k/\k<=src then ka r p (k - 1)else ka r p k:=by
 have h:=getElem?_bubble hs d hd k
 unfold ka
 by_cases c:k=src - d
 ·rw[if_pos c]at h ⊢;rw[kB h]
 ·rw[if_neg c]at h ⊢
  by_cases c2:src - d<k/\k<=src
  ·rw[if_pos c2]at h ⊢;rw[kB h]
  ·rw[if_neg c2]at h ⊢;rw[kB h]
theorem nk{p:Array Nat}{i j:Nat}:(kas_rev p i j).size=p.size:=mirror_size _ _ _ _
theorem d5{p:Array Nat}{i j:Nat}:(kas_rev p i j).Perm p:=mirror_perm _ _ _ _
theorem qK{p:Array Nat}:∀(f n:Nat),1<=n->zl r p n->n<=a8 (du r) (kas_asc p f n)/\a8 (du r) (kas_asc p f n)<=n+f/\zl r p (a8 (du r) (kas_asc p f n))
 |0,n,h1,h=>⟨Jj _,Jj _,h⟩
 | f +1,n,h1,h=>by
  show n<=a8 (du r) (if (du r) (p.getD n 0) (p.getD (n - 1) 0)=true then KasT.ret n else kas_asc p f (n+1))/\a8 (du r) (if (du r) (p.getD n 0) (p.getD (n - 1) 0)=true then KasT.ret n else kas_asc p f (n+1))<=n+(f+1)/\zl r p (a8 (du r) (if (du r) (p.getD n 0) (p.getD (n - 1) 0)=true then KasT.ret n else kas_asc p f (n+1)))
  by_cases c:(du r) (p.getD n 0) (p.getD (n - 1) 0)=true
  ·rw[if_pos c];exact⟨Jj _,by show n<=n+(f+1);omega,h⟩
  ·rw[if_neg c]
   have c':ka r p (n - 1)<=ka r p n:=by
    exact MS fun z=>c (JK z)
   obtain⟨a1,a2,a3⟩:=qK f (n+1) (by omega) (fun i j hij hj=>by
    by_cases e:j=n
    ·subst e
     by_cases e2:i=j
     ·subst e2;exact Jj _
     ·exact Ju (h i (j - 1) (by omega) (by omega)) c'
    ·exact h i j hij (by omega))
   exact⟨by omega,by omega,a3⟩
structure Down(r:Nat->Nat)(p:Array Nat)(n q:Nat):Prop where
 dsc:HN r p n
 q1:q+1<=n
 eqs:∀ k,n - (q+1)<=k->k<n->ka r p k=ka r p (n - 1)
theorem nq{p:Array Nat}{n q:Nat}(hn:n<=p.size)(h:Down r p n q):∀ k,ka r (kas_rev p (n - (q+1)) n) k=ka r p k:=fun k=>by
 rw[qJ hn]
 split
 ·next c=>rw[h.eqs k c.1 c.2,h.eqs _ (by omega) (by omega)]
 ·rfl
theorem kC:∀(f:Nat) (p:Array Nat) (n q:Nat),n+f<=p.size->Down r p n q->
  Down r (a8 (du r) (kas_desc f p n q)).1 (a8 (du r) (kas_desc f p n q)).2.1 (a8 (du r) (kas_desc f p n q)).2.2/\(a8 (du r) (kas_desc f p n q)).1.Perm p/\n<=(a8 (du r) (kas_desc f p n q)).2.1/\(a8 (du r) (kas_desc f p n q)).2.1<=n+f
 |0,p,n,q,hs,h=>⟨h,LA _,Jj _,Jj _⟩
 | f +1,p,n,q,hs,h=>by
  have e:a8 (du r) (kas_desc (f+1) p n q)=if ka r p n<ka r p (n - 1)then (if q>0 then a8 (du r) (kas_desc f (kas_rev p (n - (q+1)) n) (n+1) 0)else a8 (du r) (kas_desc f p (n+1) 0))
    else if ka r p (n - 1)<ka r p n then (p,n,q)else a8 (du r) (kas_desc f p (n+1) (q+1)):=by
   show a8 (du r) (if (du r) (p.getD n 0) (p.getD (n - 1) 0)=true then _ else _)=_
   unfold ka
   by_cases c:r (p.getD n 0)<r (p.getD (n - 1) 0)
   ·rw[if_pos (by simpa using c),if_pos c]
    split<;>rfl
   ·rw[if_neg (by simpa using c),if_neg c]
    show a8 (du r) (if (du r) (p.getD (n - 1) 0) (p.getD n 0)=true then _ else _)=_
    by_cases c2:r (p.getD (n - 1) 0)<r (p.getD n 0)
    ·rw[if_pos (by simpa using c2),if_pos c2];rfl
    ·rw[if_neg (by simpa using c2),if_neg c2]
  have q1:=h.q1
  have ext:∀{p':Array Nat} {q':Nat},(∀ k,ka r p' k=ka r p k)->ka r p n<=ka r p (n - 1)->(q'=0\/(q'=q+1/\ka r p n=ka r p (n - 1)))->Down r p' (n+1) q':=fun{p' q'} hk hle hq=>by
   refine⟨fun i j hij hj=>?_,by omega,fun k h1 h2=>?_⟩
   ·rw[hk,hk]
    by_cases ej:j=n
    ·subst ej
     by_cases e2:i=j
     ·subst e2;exact Jj _
     ·exact Ju hle (h.dsc i (j - 1) (by omega) (by omega))
    ·exact h.dsc i j hij (by omega)
   ·rw[hk,hk,show n+1 - 1=n by omega]
    rcases hq with rfl|⟨rfl,he⟩
    ·have:k=n:=by omega
     subst this;rfl
    ·by_cases ek:k=n
     ·subst ek;rfl
     ·rw[he];exact h.eqs k (by omega) (by omega)
  rw[e]
  by_cases c:ka r p n<ka r p (n - 1)
  ·rw[if_pos c]
   by_cases hq:q>0
   ·rw[if_pos hq]
    obtain⟨a1,a2,a3,a4⟩:=kC f (kas_rev p (n - (q+1)) n) (n+1) 0 (by rw[nk];omega) (ext (nq (by omega) h) (by omega) (.inl rfl))
    exact⟨a1,a2.trans d5,by omega,by omega⟩
   ·rw[if_neg hq]
    obtain⟨a1,a2,a3,a4⟩:=kC f p (n+1) 0 (by omega) (ext (fun _=>rfl) (by omega) (.inl rfl))
    exact⟨a1,a2,by omega,by omega⟩
  ·rw[if_neg c]
   by_cases c2:ka r p (n - 1)<ka r p n
   ·rw[if_pos c2];exact⟨h,LA _,Jj _,by show n<=n+(f+1);omega⟩
   ·rw[if_neg c2]
    obtain⟨a1,a2,a3,a4⟩:=kC f p (n+1) (q+1) (by omega) (ext (fun _=>rfl) (by omega) (.inr ⟨rfl,by omega⟩))
    exact⟨a1,a2,by omega,by omega⟩
structure Got(r:Nat->Nat)(nrem:Nat)(p:Array Nat)(g:Nat×Array Nat):Prop where
 asc:zl r g.2 g.1
 le:g.1<=nrem
 pos:1<=g.1
 perm:g.2.Perm p
theorem pU{n nrem:Nat}{p:Array Nat}(h1:1<=n)(hn:n<=nrem)(hs:nrem<=p.size)(h:HN r p n):Got r nrem p (a8 (du r) (kas_tail3 n nrem p)):=by
 unfold kas_tail3
 rw[fR]
 have ha:zl r (kas_rev p 0 n) n:=fun i j hij hj=>by
  rw[qJ (by omega),qJ (by omega),if_pos ⟨by omega,by omega⟩,if_pos ⟨by omega,by omega⟩]
  exact h _ _ (by omega) (by omega)
 obtain⟨a1,a2,a3⟩:=qK (p:=kas_rev p 0 n) (nrem - n) n h1 ha
 exact⟨a3,by show a8 (du r) (kas_asc (kas_rev p 0 n) (nrem - n) n)<=nrem;omega,by show 1<=a8 (du r) (kas_asc (kas_rev p 0 n) (nrem - n) n);omega,d5⟩
theorem kD{n nrem:Nat}{p:Array Nat}(hn:n<nrem)(hs:nrem<=p.size)(h:Down r p (n+1) 0):Got r nrem p (a8 (du r) (kas_descPart n nrem p)):=by
 unfold kas_descPart
 rw[fR]
 obtain⟨a1,a2,a3,a4⟩:=kC (nrem - (n+1)) p (n+1) 0 (by omega) h
 generalize a8 (du r) (kas_desc (nrem - (n+1)) p (n+1) 0)=d at a1 a2 a3 a4
 obtain⟨p',n',q'⟩:=d
 dsimp only at a1 a2 a3 a4
 have hsz:p'.size=p.size:=a2.size_eq
 by_cases hq:q'>0
 ·show Got r nrem p (a8 (du r) (if q'>0 then _ else _))
  rw[if_pos hq]
  have hd:HN r (kas_rev p' (n' - (q'+1)) n') n':=fun i j hij hj=>by
   rw[nq (show n'<=p'.size by omega) a1,nq (show n'<=p'.size by omega) a1]
   exact a1.dsc i j hij hj
  have:=pU (n:=n') (nrem:=nrem) (by omega) (by omega) (by rw[nk,hsz];exact hs) hd
  exact⟨this.asc,this.le,this.pos,(this.perm.trans d5).trans a2⟩
 ·show Got r nrem p (a8 (du r) (if q'>0 then _ else _))
  rw[if_neg hq]
  have:=pU (n:=n') (nrem:=nrem) (by omega) (by omega) (by rw[hsz];exact hs) a1.dsc
  exact⟨this.asc,this.le,this.pos,this.perm.trans a2⟩
theorem xA{nrem:Nat}{p:Array Nat}(h2:2<=nrem)(hs:nrem<=p.size):Got r nrem p (a8 (du r) (kas_count nrem p)):=by
 unfold kas_count
 rw[fR]
 obtain⟨a1,a2,a3⟩:=qK (r:=r) (p:=p) (nrem - 1) 1 (Jj _) (fun i j hij hj=>by
  have:i=j:=by omega
  subst this;exact Jj _)
 have stop:∀(f n:Nat),1<=n->a8 (du r) (kas_asc p f n)<n+f->ka r p (a8 (du r) (kas_asc p f n))<ka r p (a8 (du r) (kas_asc p f n) - 1):=by
  intro f
  induction f with
  |zero=>intro n _ h;exact absurd h (KB _)
  | succ f ih=>
   intro n h1 h
   have e:a8 (du r) (kas_asc p (f+1) n)=if ka r p n<ka r p (n - 1)then n else a8 (du r) (kas_asc p f (n+1)):=by
    show a8 (du r) (if (du r) (p.getD n 0) (p.getD (n - 1) 0)=true then _ else _)=_
    unfold ka
    by_cases c:r (p.getD n 0)<r (p.getD (n - 1) 0)
    ·rw[if_pos (JK c),if_pos c];rfl
    ·rw[if_neg (fun z=>c (Kh z)),if_neg c]
   rw[e]at h ⊢
   by_cases c:ka r p n<ka r p (n - 1)
   ·rw[if_pos c];exact c
   ·rw[if_neg c]at h ⊢;exact ih (n+1) (by omega) (by omega)
 have stop1:=stop (nrem - 1) 1 (Jj _)
 generalize a8 (du r) (kas_asc p (nrem - 1) 1)=n at a1 a2 a3 stop1
 by_cases hn:n=nrem
 ·show Got r nrem p (a8 (du r) (if (n==nrem)=true then _ else _))
  rw[if_pos (by simp[hn])]
  exact⟨a3,by show n<=nrem;omega,a1,LA _⟩
 ·show Got r nrem p (a8 (du r) (if (n==nrem)=true then _ else _))
  rw[if_neg (by simp[hn])]
  have hlt:=stop1 (by omega)
  by_cases h1:n>1
  ·rw [if_pos h1]
   show Got r nrem p (a8 (du r) (if (du r) (p.getD 0 0) (p.getD (n - 1) 0)=true then _ else _))
   by_cases c:r (p.getD 0 0)<r (p.getD (n - 1) 0)
   ·rw[if_pos (JK c)]
    exact⟨a3,by show n<=nrem;omega,a1,LA _⟩
   ·rw [if_neg (fun z=>c (Kh z))]
    have all:∀ k,k<n->ka r p k=ka r p (n - 1):=fun k hk=>by
     have h3:=a3 0 k (by omega) hk
     have h4:=a3 k (n - 1) (by omega) (by omega)
     have h5:ka r p (n - 1)<=ka r p 0:=MS c
     omega
    have kr:∀ k,ka r (kas_rev p 0 n) k=ka r p k:=fun k=>by
     rw[qJ (by omega)]
     split
     ·next h=>rw[all k h.2,all _ (by omega)]
     ·rfl
    have:=kD (r:=r) (n:=n) (nrem:=nrem) (p:=kas_rev p 0 n) (by omega) (by rw[nk];exact hs) ⟨fun i j hij hj=>by
      rw[kr,kr]
      by_cases ej:j=n
      ·subst ej
       by_cases ei:i=j
       ·subst ei;exact Jj _
       ·rw[all i (by omega)];omega
      ·rw[all i (by omega),all j (by omega)];exact Jj _,by omega,fun k h3 h4=>by rw[show k=n+1 - 1 by omega]⟩
    exact⟨this.asc,this.le,this.pos,this.perm.trans d5⟩
  ·rw [if_neg h1]
   have e1:n=1:=by omega
   subst e1
   exact kD (by omega) hs ⟨fun i j hij hj=>by
     by_cases ej:j=1
     ·subst ej
      by_cases ei:i=1
      ·subst ei;exact Jj _
      ·rw[show i=1 - 1 by omega];omega
     ·rw[show i=j by omega];exact Jj _,by omega,fun k h3 h4=>by rw[show k=1+1 - 1 by omega]⟩
theorem lC{p:Array Nat}{k:Nat}(hp:zl r p k):∀(f l m:Nat),m - l<=f->l<=m->m<=k->(∀ i,i<l->ka r p i<=ka r p k)->(∀ i,m<=i->i<k->ka r p k<=ka r p i)->
  a8 (du r) (kas_place p k f l m)<=k/\(∀ i,i<a8 (du r) (kas_place p k f l m)->ka r p i<=ka r p k)/\∀ i,a8 (du r) (kas_place p k f l m)<=i->i<k->ka r p k<=ka r p i
 |0,l,m,hf,hl,hm,h1,h2=>by
  have:l=m:=by omega
  subst this
  exact⟨by show l<=k;omega,h1,h2⟩
 | f+1,l,m,hf,hl,hm,h1,h2=>by
  by_cases c:l ≥ m
  ·have e:a8 (du r) (kas_place p k (f+1) l m)=l:=by
    show a8 (du r) (if l ≥ m then _ else _)=l
    rw[if_pos c];rfl
   rw[e]
   have:l=m:=by omega
   subst this
   exact⟨by omega,h1,h2⟩
  ·have e:a8 (du r) (kas_place p k (f+1) l m)=if ka r p k<ka r p ((l+m) / 2)then a8 (du r) (kas_place p k f l ((l+m) / 2))else a8 (du r) (kas_place p k f ((l+m) / 2+1) m):=by
    show a8 (du r) (if l ≥ m then _ else _)=_
    rw[if_neg c]
    show a8 (du r) (if (du r) (p.getD k 0) (p.getD ((l+m) / 2) 0)=true then _ else _)=_
    unfold ka
    by_cases d:r (p.getD k 0)<r (p.getD ((l+m) / 2) 0)
    ·rw[if_pos (JK d),if_pos d]
    ·rw[if_neg (fun z=>d (Kh z)),if_neg d]
   rw[e]
   by_cases d:ka r p k<ka r p ((l+m) / 2)
   ·rw[if_pos d]
    exact lC hp f l ((l+m) / 2) (by omega) (by omega) (by omega) h1 fun i hi hk=>Ju (Kl d) (hp _ i hi hk)
   ·rw[if_neg d]
    exact lC hp f ((l+m) / 2+1) m (by omega) (by omega) hm (fun i hi=>Ju (hp i ((l+m) / 2) (by omega) (by omega)) (by omega)) h2
theorem vX:∀(f:Nat) (p:Array Nat) (k:Nat),k+f<=p.size->zl r p k->zl r (a8 (du r) (kas_bin f p k)) (k+f)/\(a8 (du r) (kas_bin f p k)).Perm p
 |0,p,k,hs,h=>⟨h,LA _⟩
 | f +1,p,k,hs,h=>by
  have e:a8 (du r) (kas_bin (f+1) p k)=a8 (du r) (kas_bin f (bubble p k (k - a8 (du r) (kas_place p k k 0 k))) (k+1)):=by
   show a8 (du r) ((kas_place p k k 0 k).bind _)=_
   rw[fR]
  rw[e]
  obtain⟨l1,l2,l3⟩:=lC (r:=r) h k 0 k (by omega) (by omega) (Jj _) (fun i hi=>absurd hi (Ml _)) (fun i hi hk=>absurd hk (by omega))
  generalize a8 (du r) (kas_place p k k 0 k)=l at l1 l2 l3
  have hb:zl r (bubble p k (k - l)) (k+1):=fun i j hij hj=>by
   rw[pT (by omega) (by omega),pT (by omega) (by omega)]
   have ekl:k - (k - l)=l:=by omega
   rw[ekl]
   by_cases ei:i=l
   ·rw[if_pos ei]
    by_cases ej:j=l
    ·rw[if_pos ej];exact Jj _
    ·rw[if_neg ej,if_pos ⟨by omega,by omega⟩];exact l3 (j - 1) (by omega) (by omega)
   ·rw[if_neg ei]
    by_cases ci:l<i/\i<=k
    ·rw[if_pos ci,if_neg (by omega),if_pos ⟨by omega,by omega⟩];exact h _ _ (by omega) (by omega)
    ·rw[if_neg ci]
     by_cases ej:j=l
     ·rw[if_pos ej];exact l2 i (by omega)
     ·rw[if_neg ej]
      by_cases cj:l<j/\j<=k
      ·rw[if_pos cj];exact h _ _ (by omega) (by omega)
      ·rw[if_neg cj];exact h _ _ hij (by omega)
  obtain⟨b1,b2⟩:=vX f (bubble p k (k - l)) (k+1) (by rw[bubble_size];omega) hb
  refine⟨?_,b2.trans (bubble_perm _ _ _)⟩
  rw[show k+(f+1)=k+1+f by omega];exact b1
theorem zm{n:Nat}(h2:2<=n):zl r (a8 (du r) (kas_sort n)) n/\(a8 (du r) (kas_sort n)).Perm (List.toArray (List.range n)):=by
 unfold kas_sort
 rw[fR]
 have G:=xA (r:=r) (nrem:=n) (p:=List.toArray (List.range n)) h2 (by simp)
 generalize a8 (du r) (kas_count n (List.toArray (List.range n)))=g at G
 obtain⟨m,p⟩:=g
 have hsz:p.size=n:=by rw[G.perm.size_eq];simp
 have hle:m<=n:=G.le
 have hpos:1<=m:=G.pos
 show zl r (a8 (du r) (if m<n then kas_bin (n - max m 1) p (max m 1)else KasT.ret p)) n/\Array.Perm (a8 (du r) (if m<n then kas_bin (n - max m 1) p (max m 1)else KasT.ret p)) (List.toArray (List.range n))
 by_cases c:m<n
 ·rw[if_pos c]
  have em:max m 1=m:=by omega
  rw[em]
  obtain⟨b1,b2⟩:=vX (r:=r) (n - m) p m (by omega) G.asc
  refine⟨?_,b2.trans G.perm⟩
  rw[show m+(n - m)=n by omega]at b1;exact b1
 ·rw[if_neg c]
  have em:m=n:=by omega
  subst em
  exact⟨G.asc,G.perm⟩
end
def ur(n:Nat){α:Type}(R:α->Prop):KasT α->Prop
 | .ret a=>R a
 | .ask i j k=>i<n/\j<n/\∀ b,ur n R (k b)
theorem g0{n:Nat}{α β:Type}{R:α->Prop}{R':β->Prop}{f:α->KasT β}:∀{t:KasT α},ur n R t->(∀ a,R a->ur n R' (f a))->ur n R' (t.bind f)
 | .ret a,h,k=>k a h
 | .ask i j g,h,k=>⟨h.1,h.2.1,fun b=>g0 (h.2.2 b) k⟩
theorem zo{n:Nat}{α:Type}{R:α->Prop}{cmp:Nat->Nat->(Bool->Shared->Prop)->Shared->Prop}{b:Nat->Nat->Bool}{s:Shared}{Q:α->Shared->Prop}(h:∀ i j C,i<n->j<n->C (b i j) s->cmp i j C s):
  ∀{t:KasT α},ur n R t->Q (a8 b t) s->t.kasWp cmp Q s
 | .ret a,_,q=>q
 | .ask i j k,o,q=>h i j _ o.1 o.2.1 (zo h (o.2.2 (b i j)) q)
theorem nu{n:Nat}{α:Type}{R:α->Prop}{b b':Nat->Nat->Bool}(h:∀ i j,i<n->j<n->b i j=b' i j):∀{t:KasT α},ur n R t->a8 b t=a8 b' t
 | .ret a,_=>rfl
 | .ask i j k,o=>by
  show a8 b (k (b i j))=a8 b' (k (b' i j))
  rw[h i j o.1 o.2.1]
  exact nu h (o.2.2 _)
def In(n:Nat)(p:Array Nat):Prop:=0<n/\∀ x∈p.toList,x<n
theorem In.get{n:Nat}{p:Array Nat}(h:In n p)(k:Nat):p.getD k 0<n:=by
 rw[JR]
 cases e:p[k]? with
 |none=>exact h.1
 |some x=>exact h.2 x (by rw[<-JL]at e;exact JM e)
theorem In.perm{n:Nat}{p q:Array Nat}(h:In n p)(e:q.Perm p):In n q:=⟨h.1,fun x hx=>h.2 x ((Array.Perm.toList e).mem_iff.mp hx)⟩
theorem qL{n:Nat}{p:Array Nat}(h:In n p):∀(f m:Nat),ur n (fun _=>True) (kas_asc p f m)
 |0,m=>trivial
 | f+1,m=>⟨h.get _,h.get _,fun b=>by
   cases b with
   |true=>exact trivial
   |false=>exact qL h f (m+1)⟩
theorem kE{n:Nat}:∀(f:Nat) (p:Array Nat) (m q:Nat),In n p->ur n (fun r=>In n r.1) (kas_desc f p m q)
 |0,p,m,q,h=>h
 | f+1,p,m,q,h=>⟨h.get _,h.get _,fun b=>by
   cases b with
   |true=>
    show ur n _ (if q>0 then _ else _)
    split
    ·exact kE f _ _ _ (h.perm d5)
    ·exact kE f _ _ _ h
   |false=>
    refine⟨h.get _,h.get _,fun b=>?_⟩
    cases b with
    |true=>exact h
    |false=>exact kE f _ _ _ h⟩
theorem pV{n m nrem:Nat}{p:Array Nat}(h:In n p):ur n (fun r:Nat×Array Nat=>In n r.2) (kas_tail3 m nrem p):=
 g0 (qL (h.perm d5) _ _) fun _ _=>h.perm d5
theorem kF{n m nrem:Nat}{p:Array Nat}(h:In n p):ur n (fun r:Nat×Array Nat=>In n r.2) (kas_descPart m nrem p):=
 g0 (kE _ _ _ _ h) fun a ha=>by
  split
  ·exact pV (ha.perm d5)
  ·exact pV ha
theorem xB{n nrem:Nat}{p:Array Nat}(h:In n p):ur n (fun r:Nat×Array Nat=>In n r.2) (kas_count nrem p):=
 g0 (qL h _ _) fun a _=>by
  split
  ·exact h
  ·split
   ·refine⟨h.get _,h.get _,fun b=>?_⟩
    cases b with
    |true=>exact h
    |false=>exact kF (h.perm d5)
   ·exact kF h
theorem lD{n k:Nat}{p:Array Nat}(h:In n p):∀(f l m:Nat),ur n (fun _=>True) (kas_place p k f l m)
 |0,l,m=>trivial
 | f+1,l,m=>by
  show ur n _ (if l ≥ m then _ else _)
  split
  ·exact trivial
  ·refine⟨h.get _,h.get _,fun b=>?_⟩
   cases b with
   |true=>exact lD h f _ _
   |false=>exact lD h f _ _
theorem vY{n:Nat}:∀(f:Nat) (p:Array Nat) (k:Nat),In n p->ur n (In n) (kas_bin f p k)
 |0,p,k,h=>h
 |f+1,p,k,h=>g0 (lD h _ _ _) fun l _=>vY f _ _ (h.perm (bubble_perm _ _ _))
theorem sA{n:Nat}(hn:0<n):ur n (In n) (kas_sort n):=
 g0 (xB ⟨hn,fun x hx=>by simpa using hx⟩) fun a ha=>by
  split
  ·exact vY _ _ _ ha
  ·exact ha
theorem sC{α:Type}{p q:α->Bool}:∀{l:List α} {x:α},(∀ y∈l,p y=true->q y=true)->x∈l->p x=false->q x=true->l.countP p<l.countP q
 | y::l,x,h,hx,hp,hq=>by
  have hl:l.countP p<=l.countP q:=List.countP_mono_left fun z hz=>h z (Jr _ hz)
  rw[List.countP_cons,List.countP_cons]
  rcases JC.mp hx with e|hx'
  ·subst e
   rw[hp,hq];simp;omega
  ·have ih:=sC (fun z hz=>h z (Jr _ hz)) hx' hp hq
   have hy:=h y Jy
   cases e1:p y with
   |true=>rw[hy e1];simp;omega
   |false=>simp;split<;>omega
theorem BN{n:Nat}{b:Nat->Nat->Bool}(h2:2<=n)(irr:∀ i,i<n->b i i=false)(tr:∀ i j k,i<n->j<n->k<n->b i j=true->b j k=true->b i k=true)(neg:∀ i j k,i<n->j<n->k<n->b i k=true->b i j=true\/b j k=true):
  (a8 b (kas_sort n)).Perm (List.toArray (List.range n))/\∀ i j,i<=j->j<n->b ((a8 b (kas_sort n)).getD j 0) ((a8 b (kas_sort n)).getD i 0)=false:=by
 let r:Nat->Nat:=fun i=>(List.range n).countP fun j=>b j i
 have hr:∀ i j,i<n->j<n->b i j=decide (r i<r j):=fun i j hi hj=>by
  cases e:b i j with
  |true=>
   refine(JK ?_).symm
   exact sC (x:=i) (fun y hy h=>tr y i j (JG.mp hy) hi hj h e) (JG.mpr hi) (irr i hi) e
  |false=>
   refine(JW (M5.mpr ?_)).symm
   refine List.countP_mono_left fun y hy h=>?_
   rcases neg y i j (JG.mp hy) hi hj h with z|z
   ·exact z
   ·rw[e]at z;cases z
 have ek:a8 b (kas_sort n)=a8 (du r) (kas_sort n):=nu hr (sA (by omega))
 obtain⟨a1,a2⟩:=zm (r:=r) h2
 rw[ek]
 refine⟨a2,fun i j hij hj=>?_⟩
 have hin:In n (a8 (du r) (kas_sort n)):=In.perm ⟨by omega,fun x hx=>by simpa using hx⟩ a2
 rw[hr _ _ (hin.get j) (hin.get i)]
 exact JW (M5.mpr (a1 i j hij hj))
end S3
namespace S3
open PySem PySem.Spec PySem.W PyProof.Rows L2
section
variable {prog:Program}{w:World}{A:Around}{E:Value->Shared->Prop}{s:Shared}{Q:Bool->Shared->Prop}
theorem sD{b:Bool}:∀{us ws:List Value} {ns ms:List Int} (i:Nat),(b=true\/0<i\/True)->IntsAre us ns->IntsAre ws ms->Q (HT.lexLt ns ms) s->
  KatLex prog w A b (decide (us.length<ws.length)) Q (us.zip ws) i s\/us.length≠ws.length
 |[],[],ns,ms,i,_,h1,h2,q=>by
  cases h1
  cases h2
  exact .inl q
 |[],_::_,_,_,_,_,_,_,_=>.inr (by simp)
 |_::_,[],_,_,_,_,_,_,_=>.inr (by simp)
 | u ::us,v::ws,ns,ms,i,hb,h1,h2,q=>by
  cases h1 with
  |cons n t h1=>
  cases h2 with
  | cons k t' h2=>
   rw[HT.lexLt_cons]at q
   by_cases e:n=k
   ·rw[if_pos e]at q
    rcases sD (b:=b) (i+1) (.inr (.inr trivial)) h1 h2 q with z|z
    ·refine .inl (kat_cons (MO ?_))
     have:(n==k)=true:=by simp[e]
     rw[this]
     refine kat_yes ?_
     show KatLex prog w A b (decide (us.length+1<ws.length+1)) Q (us.zip ws) (i+1) s
     rw[show decide (us.length+1<ws.length+1)=decide (us.length<ws.length) by simp]
     exact z
    ·exact .inr (by simpa using z)
   ·rw[if_neg e]at q
    refine .inl (kat_cons (MO ?_))
    have:(n==k)=false:=by simp[e]
    rw[this]
    refine kat_no ?_
    cases hbi:(b && i==0)with
    |true=>exact oneLt_int q
    |false=>exact kat_one _ _ (lt_int q)
end
structure Tups(h:Heap)(vs:List Value)(nss:List (List Int))(c:Nat):Prop where
 len:vs.length=nss.length
 get:∀(i:Nat),i<vs.length->∃ a o us n,vs.getD i Value.none= .ref a/\h.get? a=some o/\o.cls= .type "tuple"/\o.data= .seq us n/\IntsAre us.toList (nss.getD i [])/\us.size=c+1
theorem Tups.keep{h h':Heap}{vs:List Value}{nss:List (List Int)}{c:Nat}(t:Tups h vs nss c)(k:∀ i a o,i<vs.length->vs.getD i Value.none= .ref a->h.get? a=some o->h'.get? a=some o):Tups h' vs nss c:=
 ⟨t.len,fun i hi=>let ⟨a,o,us,n,e1,e2,r⟩:=t.get i hi;⟨a,o,us,n,e1,k i a o hi e1 e2,r⟩⟩
theorem Tups.ask{prog:Program}{w:World}{A:Around}{s:Shared}{vs:List Value}{nss:List (List Int)}{c:Nat}(t:Tups s.heap vs nss c){b:Bool}{i j:Nat}{C:Bool->Shared->Prop}(hi:i<vs.length)(hj:j<vs.length)
  (q:C (HT.lexLt (nss.getD i []) (nss.getD j [])) s):kas_ask prog w A (tuples' b) vs i j C s:=by
 obtain⟨a,o,us,n,e1,e2,e3,e4,e5,e6⟩:=t.get i hi
 obtain⟨a',o',us',n',f1,f2,f3,f4,f5,f6⟩:=t.get j hj
 unfold kas_ask
 rw[e1,f1]
 refine kat_lt e2 e4 f2 f4 ?_
 have hz:us.toList.length=us'.toList.length:=by simp[e6,f6]
 rcases sD (prog:=prog) (w:=w) (A:=A) (b:=b) 0 (.inr (.inr trivial)) e5 f5 q with z|z
 ·simpa using z
 ·exact absurd hz z
end S3
namespace S3
open PySem PySem.Spec PyProof.Rows L2
abbrev St:=L2.St
def jc(cells:List (Str×Addr)):List (Str×NameKind)->List (Str×Addr)->List (Str×Addr)
 |[],cs=>cs
 |(n,k)::r,cs=>jc cells r (if k== .free then (n,(cells.lookup n).getD 0)::cs else cs)
theorem iz(scope:Scope)(env:Env)(h:∀ y∈scope.names,y.2= .free->∃ c,env.cells.lookup y.1=some c):closureFor scope env=pure (jc env.cells scope.names []):=by
 have go:∀(names:List (Str×NameKind)) (cs:List (Str×Addr)),(∀ y∈names,y.2= .free->∃ c,env.cells.lookup y.1=some c)->
   (forIn names cs (fun(x:Str×NameKind) (r:List (Str×Addr))=>(if (x.2==NameKind.free)=true then do let a<-cellOf env x.1;pure (ForInStep.yield ((x.1,a)::r))else pure (ForInStep.yield r):Sem (ForInStep (List (Str×Addr))))):Sem (List (Str×Addr)))=pure (jc env.cells names cs):=by
  intro names
  induction names with
  |nil=>intro cs _;rfl
  | cons y r ih=>
   intro cs hy
   obtain⟨n,k⟩:=y
   have hr:∀ y∈r,y.2= .free->∃ c,env.cells.lookup y.1=some c:=fun y hm=>hy y (Jr _ hm)
   rw[List.forIn_cons]
   by_cases hk:(k==NameKind.free)=true
   ·have hk':k= .free:=by simpa using hk
    obtain⟨c,hc⟩:=hy (n,k) Jy hk'
    have e:cellOf env n=pure c:=by unfold cellOf;rw[hc]
    simp only[hk,if_true,e,pure_bind]
    rw[ih _ hr]
    simp only[jc,hk,if_true,hc,Option.getD_some]
   ·have hk2:(k==NameKind.free)=false:=by simpa using hk
    simp only[hk2,Bool.false_eq_true,if_false,pure_bind]
    rw[ih _ hr]
    simp only[jc,hk2,Bool.false_eq_true,if_false]
 have:=go scope.names [] h
 unfold closureFor
 simp only[bind_pure]at*
 exact this
theorem qM{cells:List (Str×Addr)}:∀(names:List (Str×NameKind)) (cs:List (Str×Addr)),(∀ y∈names,y.2= .free->∃ c,cells.lookup y.1=some c)->(∀ p∈cs,cells.lookup p.1=some p.2)->
  ∀ p∈jc cells names cs,cells.lookup p.1=some p.2
 |[],cs,_,h=>h
 | (n,k)::r,cs,hy,h=>by
  refine qM r _ (fun y hm=>hy y (Jr _ hm)) fun p hp=>?_
  by_cases hk:(k==NameKind.free)=true
  ·rw[if_pos hk]at hp
   rcases JC.mp hp with rfl|hp
   ·obtain⟨c,hc⟩:=hy (n,k) Jy (by simpa using hk)
    show cells.lookup n=some ((cells.lookup n).getD 0)
    have hc':cells.lookup n=some c:=hc
    rw[hc'];rfl
   ·exact h p hp
  ·rw[if_neg hk]at hp;exact h p hp
theorem jd{cells:List (Str×Addr)}{x:Str}:∀(names:List (Str×NameKind)) (cs:List (Str×Addr)),(x,NameKind.free)∈names\/x∈cs.map (·.1)->x∈(jc cells names cs).map (·.1)
 |[],cs,h=>by
  rcases h with h|h
  ·cases h
  ·exact h
 | (n,k)::r,cs,h=>by
  refine jd r _ ?_
  rcases h with h|h
  ·rcases JC.mp h with e|h
   ·cases e
    refine .inr ?_
    simp
   ·exact .inl h
  ·refine .inr ?_
   by_cases hk:(k==NameKind.free)=true
   ·rw[if_pos hk];exact Jr _ h
   ·rw[if_neg hk];exact h
theorem lookup_mem{x:Str}{c:Addr}:∀{l:List (Str×Addr)},l.lookup x=some c->(x,c)∈l
 |[],h=>by cases h
 | (n,a)::r,h=>by
  by_cases e:x==n
  ·have e':x=n:=by simpa using e
   rw[JP,e]at h
   have h':some a=some c:=h
   cases h';subst e';exact Jy
  ·have e2:(x==n)=false:=by simpa using e
   rw[JP,e2]at h
   exact Jr _ (lookup_mem h)
theorem mem_lookup{x:Str}:∀{l:List (Str×Addr)},x∈l.map (·.1)->∃ c,l.lookup x=some c
 |[],h=>by cases h
 | (n,a)::r,h=>by
  by_cases e:x==n
  ·exact⟨a,by rw[JP,e]⟩
  ·have e2:(x==n)=false:=by simpa using e
   rw[JP,e2]
   refine mem_lookup ?_
   rcases JC.mp h with z|z
   ·have z':x=n:=z
    subst z';simp at e
   ·exact z
theorem bj{x:Str}{k:NameKind}:∀{l:List (Str×NameKind)},l.lookup x=some k->(x,k)∈l
 |[],h=>by cases h
 | (n,a)::r,h=>by
  by_cases e:x==n
  ·have e':x=n:=by simpa using e
   rw[JP,e]at h
   have h':some a=some k:=h
   cases h';subst e';exact Jy
  ·have e2:(x==n)=false:=by simpa using e
   rw[JP,e2]at h
   exact Jr _ (bj h)
theorem iA{env:Env}{x:Str}:∀{names:List (Str×NameKind)} {k:NameKind},
  (names.map fun(n,k)=>if (k==NameKind.free && env.scope.kind== .function && env.kindOf n==some .cell)then (n,NameKind.cell)else (n,k)).lookup x=some k->
   names.lookup x=some k\/(k= .cell/\names.lookup x=some .free)
 |[],k,h=>by cases h
 | (n,a)::r,k,h=>by
  by_cases e:x==n
  ·rw[JT]at h
   by_cases c:(a==NameKind.free && env.scope.kind== .function && env.kindOf n==some .cell)=true
   ·have ha:a= .free:=by
     simp only[Bool.and_eq_true,beq_iff_eq]at c;exact c.1.1
    simp only[c,if_true,List.lookup_cons,e]at h
    cases h
    refine .inr ⟨rfl,?_⟩
    rw[JP,e,ha]
   ·have c':(a==NameKind.free && env.scope.kind== .function && env.kindOf n==some .cell)=false:=by simpa using c
    simp only[c',Bool.false_eq_true,if_false,List.lookup_cons,e]at h
    refine .inl ?_
    rw[JP,e];exact h
  ·have e2:(x==n)=false:=by simpa using e
   rw[JP,e2]
   refine iA (env:=env) (names:=r) ?_
   rw[JT]at h
   by_cases c:(a==NameKind.free && env.scope.kind== .function && env.kindOf n==some .cell)=true
   ·simp only[c,if_true,List.lookup_cons,e2]at h;exact h
   ·have c':(a==NameKind.free && env.scope.kind== .function && env.kindOf n==some .cell)=false:=by simpa using c
    simp only[c',Bool.false_eq_true,if_false,List.lookup_cons,e2]at h;exact h
theorem kG{env:Env}{x:Str}:∀{names:List (Str×NameKind)},names.lookup x=some .free->
  (names.map fun(n,k)=>if (k==NameKind.free && env.scope.kind== .function && env.kindOf n==some .cell)then (n,NameKind.cell)else (n,k)).lookup x=some .cell\/
  (names.map fun(n,k)=>if (k==NameKind.free && env.scope.kind== .function && env.kindOf n==some .cell)then (n,NameKind.cell)else (n,k)).lookup x=some .free
 |[],h=>by cases h
 | (n,a)::r,h=>by
  rw[JT]
  by_cases e:x==n
  ·rw[JP,e]at h
   have ha:some a=some NameKind.free:=h
   cases ha
   by_cases c:(NameKind.free==NameKind.free && env.scope.kind== .function && env.kindOf n==some .cell)=true
   ·refine .inl ?_
    simp only[c,if_true,List.lookup_cons,e]
   ·have c':(NameKind.free==NameKind.free && env.scope.kind== .function && env.kindOf n==some .cell)=false:=by simpa using c
    refine .inr ?_
    simp only[c',Bool.false_eq_true,if_false,List.lookup_cons,e]
  ·have e2:(x==n)=false:=by simpa using e
   rw[JP,e2]at h
   have ih:=kG (env:=env) h
   by_cases c:(a==NameKind.free && env.scope.kind== .function && env.kindOf n==some .cell)=true
   ·simp only[c,if_true,List.lookup_cons,e2];exact ih
   ·have c':(a==NameKind.free && env.scope.kind== .function && env.kindOf n==some .cell)=false:=by simpa using c
    simp only[c',Bool.false_eq_true,if_false,List.lookup_cons,e2];exact ih
theorem uI:∀{names:List (Str×NameKind)} {n:Nat} {acc:List (Str×Addr)} {p:Str×Addr},p∈cellsFrom n names acc->p∈acc\/n<=p.2
 |[],n,acc,p,h=>.inl h
 | (x,k)::r,n,acc,p,h=>by
  unfold cellsFrom at h
  split at h
  ·rcases uI h with h|h
   ·rcases JC.mp h with rfl|h
    ·exact .inr (Jj _)
    ·exact .inl h
   ·exact .inr (LV h)
  ·exact uI h
theorem uJ:∀{names:List (Str×NameKind)} {n:Nat} {acc:List (Str×Addr)},(∀ p∈acc,p.2<n)->(∀ x y c,(x,c)∈acc->(y,c)∈acc->x=y)->∀ x y c,(x,c)∈cellsFrom n names acc->(y,c)∈cellsFrom n names acc->x=y
 |[],n,acc,_,hi,x,y,c,h1,h2=>hi x y c h1 h2
 | (z,k)::r,n,acc,hl,hi,x,y,c,h1,h2=>by
  unfold cellsFrom at h1 h2
  by_cases hk:(k==NameKind.cell)=true
  ·rw[if_pos hk]at h1 h2
   refine uJ (fun p hp=>?_) (fun x y c g1 g2=>?_) x y c h1 h2
   ·rcases JC.mp hp with rfl|hp
    ·exact Lk _
    ·exact Ki (hl p hp)
   ·rcases JC.mp g1 with g1|g1<;>rcases JC.mp g2 with g2|g2
    ·rw[<-g2]at g1;exact(Prod.mk.inj g1).1
    ·cases g1;exact absurd (hl _ g2) (KB _)
    ·cases g2;exact absurd (hl _ g1) (KB _)
    ·exact hi x y c g1 g2
  ·rw[if_neg hk]at h1 h2
   exact uJ hl hi x y c h1 h2
theorem qN{x:Str}:∀{names:List (Str×NameKind)} {n:Nat} {acc:List (Str×Addr)},(∀ y∈names,y.2= .cell->y.1≠x)->(cellsFrom n names acc).lookup x=acc.lookup x
 |[],_,_,_=>rfl
 | (z,k)::r,n,acc,h=>by
  unfold cellsFrom
  split
  ·next hk=>
   rw[qN fun y hy=>h y (Jr _ hy),JP]
   have:(x==z)=false:=by
    have:=h (z,k) Jy (by simpa using hk)
    simpa using Ne.symm this
   rw[this]
  ·exact qN fun y hy=>h y (Jr _ hy)
theorem qO:∀{names:List (Str×NameKind)} {h:Heap} {acc:List (Str×Addr)} {p:Str×Addr},p∈cellsFrom h.objs.size names acc->p∈acc\/(pushCells h names).IsCell p.2 none
 |[],h,acc,p,q=>.inl q
 | (x,k)::r,h,acc,p,q=>by
  unfold cellsFrom at q
  unfold pushCells
  split at q
  ·next hk=>
   rw[if_pos hk]
   have q':p∈cellsFrom (h.push {cls:=.type "cell",data:=.cell none}).objs.size r ((x,h.objs.size)::acc):=by rw[Ka];exact q
   rcases qO q' with q'|q'
   ·rcases JC.mp q' with rfl|q'
    ·exact .inr ⟨_,MU _ _ _ _ (Jo _ rfl),rfl⟩
    ·exact .inl q'
   ·exact .inr q'
  ·next hk=>
   rw[if_neg hk]
   exact qO q
theorem uK{x:Str}{a:Addr}{m:Nat}:∀(names:List (Str×NameKind)) (n:Nat) (acc:List (Str×Addr)),((x,NameKind.cell)∈names\/∃ c,acc.lookup x=some c/\m<=c)->m<=n->(cellsFrom n names acc).lookup x=some a->m<=a
 | [],n,acc,h,hm,e=>by
  rcases h with h|⟨c,h2,h3⟩
  ·cases h
  ·have e':acc.lookup x=some a:=e
   rw[h2]at e';cases e';exact h3
 | (z,k)::r,n,acc,h,hm,e=>by
  unfold cellsFrom at e
  by_cases hk:(k==NameKind.cell)=true
  ·rw[if_pos hk]at e
   refine uK r (n+1) _ ?_ (Nat.le_succ_of_le hm) e
   by_cases hz:(x==z)=true
   ·exact .inr ⟨n,by rw[JP,hz],hm⟩
   ·have hz':(x==z)=false:=by simpa using hz
    rcases h with h|⟨c,h2,h3⟩
    ·rcases JC.mp h with h|h
     ·cases h;simp at hz
     ·exact .inl h
    ·exact .inr ⟨c,by rw[JP,hz'];exact h2,h3⟩
  ·rw[if_neg hk]at e
   refine uK r n acc ?_ hm e
   rcases h with h|h
   ·rcases JC.mp h with h|h
    ·cases h;simp at hk
    ·exact .inl h
   ·exact .inr h
theorem pW{M:Model}{A:Around}{E:Value->Shared->Prop}{s:Shared}{scope:Scope}{cl:List (Str×Addr)}{env:Env}{Q:Env->Shared->Prop}
  (h:∀ h1,h1.Ns s.heap.objs.size (fun _=>none)->(∀ b o,s.heap.get? b=some o->h1.get? b=some o)->(∀ p∈cellsFrom (s.heap.objs.size+1) scope.names cl,p∈cl\/h1.IsCell p.2 none)->
   Q {scope,locals:=s.heap.objs.size,globals:=env.globals,cells:=cellsFrom (s.heap.objs.size+1) scope.names cl,qual:=env.qual,func:=none,code:=env.code,frame:=env.frame,builtins:=env.builtins} {s with heap:=h1}):
  wpAny M A (newFunctionEnv scope env.globals cl [] env.qual none .none (some env)) Q E s:=by
 simp only[newFunctionEnv,Option.isSome_some,if_true]
 refine Jg (wpAny_alloc (Jg (wpAny_layCells _ (fun name kind cells=>by cases hkc:kind==NameKind.cell<;>simp[hkc]) _ _ _ _ ?_)))
 have e:({s with heap:=s.heap.push {cls:=.type "dict",data:=.dict #[]}}:Shared).heap.objs.size=s.heap.objs.size+1:=Ka ..
 rw[e]
 refine Jg (m:=forIn [] _ _) (Ji (Ji (h _ ((Heap.Ns.new s.heap (.type "dict")).keeps (MU _ _)) (fun b o q=>MU _ _ b o (Jh _ q)) fun p hp=>?_)))
 exact qO (h:=s.heap.push {cls:=.type "dict",data:=.dict #[]}) (by rw[e];exact hp)
def aR(X:Cx)(scope:Scope)(Nc:List Str)(C:Addr)(ex:List Addr)(s:Shared)(H:Hp):Cx:=
 {X with N:=Nc,s₀:=s,H₀:=H,env:=compEnvC scope (cellsFrom (C+1) scope.names (jc X.env.cells scope.names [])) C X.env,outer:=X.stack,stack:=X.stack,ex:=ex,fn:=fun x=>scope.names.lookup x==some .cell,pn:=[],xe:=fun _ _=>False}
structure CompScope(X:Cx)(scope:Scope)(Nc:List Str)(js:List (Option Nat)):Prop where
 kind:scope.kind= .function
 cel:∀ y∈scope.names,y.2= .cell->scope.names.lookup y.1=some .cell
 loc:∀ y∈scope.names,y.2= .local->scope.names.lookup y.1=some .local
 free:∀ y∈scope.names,y.2= .free->X.env.kindOf y.1=some .cell\/X.env.kindOf y.1=some .free
 len:js.length=Nc.length
 ix:∀(i:Nat) (x:Str) (j:Nat),Nc[i]? =some x->js[i]? =some (some j)->X.N[j]? =some x/\scope.names.lookup x=some .free
def mF(js:List (Option Nat))(σ:St):St:=js.map fun o=>o.bind fun j=>(σ[j]?).join
def Bo(X:Cx)(ifs:List Expr)(t:TT):Prop:=
 ∀(pins:List (Addr×Obj)) (s:Shared) (σ:St) (H:Hp) (Q:Bool->Hp->Prop),Inv X pins σ H s->t σ H Q->
  wpAny (model X.prog X.w) X.A (forIn ifs true fun c r=>if r=true then do let ok<-isTrue c X.env (eval c X.env);pure (ForInStep.yield ok)else pure (ForInStep.yield r)) (TP X pins σ Q) X.xe s
theorem BO{X:Cx}:Bo X [] (fun _ H Q=>Q true H):=fun pins s σ H Q I h=>wpAny_tests_nil ⟨H,I,h⟩
theorem BP{X:Cx}{c:Expr}{t:TT}(h:PT X c t):Bo X [c] t:=fun pins s σ H Q I hw=>wpAny_tests_one (h pins s σ H Q I hw)
def vZ(wi:TI)(js:List (Option Nat))(g:TG)(tt:TT)(te:TE):TE:=fun σ H Q=>wi σ H fun J H1=>∀ p,H1 p=none->
 ∃ W:Nat->Nat->St->Hp->Prop,(∃ m,W 0 m (mF js σ) (upd H1 p (.lst [])))/\∀ i m σc Hc,W i m σc Hc->
  (J.stop i Hc/\Q (.ref p) Hc)\/(J.go i Hc/\∃ N:St->Hp->Prop,(∀ σ' H',N σ' H'->∃ m',m'<m/\W (i+1) m' σ' H')/\∀ x H',J.yld i Hc x H'->g x σc H' fun σ2 H2=>tt σ2 H2 fun b H3=>
   if b=true then te σ2 H3 fun y H4=>∃ xs,H4 p=some (.lst xs)/\xs.length<sizeLine/\N σ2 (upd H4 p (.lst (xs++[y])))else N σ2 H3)
section
variable {X:Cx}{scope:Scope}{Nc:List Str}{js:List (Option Nat)}{pins:List (Addr×Obj)}{σ:St}{H:Hp}{s:Shared}
theorem CompScope.has(c:CompScope X scope Nc js)(ok:X.Ok):∀ y∈scope.names,y.2= .free->∃ a,X.env.cells.lookup y.1=some a:=fun y hy e=>ok.has y.1 (c.free y hy e)
theorem nv{C:Addr}{ex:List Addr}{h1:Heap}{tk:Nat}(c:CompScope X scope Nc js)(I:Inv X pins σ H s)(hex:∀ b∈ex,jb X pins H b)(hlt:∀ b∈ex,b<s.heap.objs.size)
  (hC:C=s.heap.objs.size) (hn:h1.Ns C (fun _=>none)) (hs:∀ b o,s.heap.get? b=some o->h1.get? b=some o)
  (hcs:∀ p∈cellsFrom (C+1) scope.names (jc X.env.cells scope.names []),p∈jc X.env.cells scope.names []\/h1.IsCell p.2 none):
  Inv (aR X scope Nc C ex s H) [] (mF js σ) H {s with heap:=h1,toks:=tk}:=by
 have hcl:=qM (cells:=X.env.cells) scope.names [] (c.has I.ok) (fun _ z=>nomatch z)
 have cl_lk:∀ x a,(jc X.env.cells scope.names []).lookup x=some a->X.env.cells.lookup x=some a:=fun x a e=>hcl _ (lookup_mem e)
 have lt_ne:∀ b o,s.heap.get? b=some o->b≠C:=fun b o e=>by rw[hC];exact Jv (Jm e)
 have cl_lt:∀ p∈jc X.env.cells scope.names [],p.2<C+1:=fun p hp=>by
  obtain⟨v,oc,ho,_⟩:=I.cell p.1 p.2 (hcl p hp)
  rw[hC];exact Ki (Jm ho)
 have cf_cases:∀ x a,(cellsFrom (C+1) scope.names (jc X.env.cells scope.names [])).lookup x=some a->X.env.cells.lookup x=some a\/(C<a/\h1.IsCell a none):=fun x a e=>by
  have hm:=lookup_mem e
  rcases hcs _ hm with z|z
  ·exact .inl (hcl _ z)
  ·rcases uI hm with y|y
   ·exact .inl (hcl _ y)
   ·exact .inr ⟨y,z⟩
 refine⟨⟨I.ok.mod,c.kind,I.ok.glob,I.ok.blt,Ls hC.symm,fun x y a e1 e2=>uJ cl_lt (fun x y a e1 e2=>I.ok.inj x y a (hcl _ e1) (hcl _ e2)) x y a (lookup_mem e1) (lookup_mem e2),fun x hk=>?_,fun x a z e=>?_,I.ok.hd,I.ok.frames,.inl rfl,fun b hb=>⟨?_,fun x a e z=>?_⟩,
  I.bs,Ju I.ok.bsz I.sz,fun b o e hb=>?_,fun b hb z=>?_,I.stack,I.stkFree⟩,rfl,I.bare,Un.kept hs,⟨_,hn,fun i x v e1 e2 e3=>?_⟩,fun x a e=>?_,?_,fun x a e=>?_,(fun p hp=>nomatch hp),I.hok.kept hs,?_⟩
 ·-- names that are cells here have one
  have hk':scope.names.lookup x=some .free\/scope.names.lookup x=some .cell:=by
   rcases hk with hk|hk
   ·rcases iA (env:=X.env) (names:=scope.names) hk with z|⟨_,z⟩
    ·exact .inr z
    ·exact .inl z
   ·rcases iA (env:=X.env) (names:=scope.names) hk with z|⟨z,_⟩
    ·exact .inl z
    ·cases z
  refine Kg.mp (LM scope.names (C+1) _ ?_)
  rcases hk' with z|z
  ·exact .inr (Kg.mpr (mem_lookup (jd scope.names [] (.inl (bj z)))))
  ·exact .inl z
 ·-- the block's own cells are new
  have z':scope.names.lookup x=some .cell:=by
   have:(scope.names.lookup x==some .cell)=true:=z
   simpa using this
  show s.heap.objs.size<=a
  rw[<-hC];exact LV (uK (m:=C+1) scope.names (C+1) _ (.inl (bj z')) (Jj _) e)
 ·show b≠C
  rw[hC];exact Jv (hlt b hb)
 ·rcases cf_cases x a e with y|⟨y,_⟩
  ·exact(hex b hb).2.2.2.2.1 x a y z
  ·rw[z,hC]at y;exact KB _ (Mt y (hlt b hb))
 ·have:b<X.base.objs.size:=Jm e
  rcases (hex b hb).2.2.2.1 with z|z
  ·exact I.ok.noex b o e z
  ·exact absurd (Jx this (Ju I.ok.bsz z)) (KB _)
 ·rcases JC.mp (I.stkSub b z)with e|e
  ·exact(hex b hb).2.1 e
  ·exact(hex b hb).2.2.1 e
 ·-- the names that are read from around
  have e1':Nc[i]? =some x:=e1
  have:∃ j,js[i]? =some (some j)/\σ[j]? =some (some v):=by
   unfold mF at e2
   rw[JB]at e2
   cases q:js[i]? with
   |none=>rw[q]at e2;cases e2
   | some o=>
    rw[q]at e2
    cases o with
    |none=>cases e2
    |some j=>
     refine⟨j,rfl,?_⟩
     have e2':(σ[j]?).join=some v:=JI e2
     cases r:σ[j]? with
     |none=>rw[r]at e2';cases e2'
     |some z=>rw[r]at e2';exact Li some e2'
  obtain⟨j,hj,hv⟩:=this
  obtain⟨hN,hfr⟩:=c.ix i x j e1' hj
  obtain⟨m,hnm,hl⟩:=I.loc
  have hkf:=c.free (x,.free) (bj hfr) rfl
  have hvis:yK X.env.scope x:=by
   rcases hkf with z|z
   ·exact .inr (.inl z)
   ·exact .inr (.inr z)
  obtain⟨u,ru,lk⟩:=hl j x v hN hv hvis
  refine⟨u,ru,.inr ⟨?_,?_⟩⟩
  ·rcases kG (env:=X.env) hfr with z|z
   ·exact .inl z
   ·exact .inr z
  ·rcases lk with⟨z,_⟩|⟨_,a,ea,ha⟩
   ·rcases hkf with y|y
    ·rw[show X.env.kindOf x=some NameKind.cell from y]at z;cases z
    ·rw[show X.env.kindOf x=some NameKind.free from y]at z;cases z
   ·obtain⟨b,hb⟩:=mem_lookup (jd (cells:=X.env.cells) scope.names [] (.inl (bj hfr)))
    have:=cl_lk x b hb
    rw[ea]at this;cases this
    obtain⟨oc,ho,hd⟩:=ha
    refine⟨a,?_,oc,hs _ _ ho,hd⟩
    show(cellsFrom (C+1) scope.names (jc X.env.cells scope.names [])).lookup x=some a
    rw[qN fun y hy e z=>by have:=c.cel y hy e;rw[z,hfr]at this;cases this]
    exact hb
 ·rcases cf_cases x a e with y|⟨_,y⟩
  ·obtain⟨v,oc,ho,hd⟩:=I.cell x a y
   exact⟨v,oc,hs _ _ ho,hd⟩
  ·exact⟨_,y⟩
 ·show H C=none
  rw[hC];exact I.hok.fresh (Jj _)
 ·rcases cf_cases x a e with y|⟨y,_⟩
  ·exact I.freeC x a y
  ·exact I.hok.fresh (by rw[<-hC];exact Kl y)
 ·show(mF js σ).length=Nc.length
  unfold mF
  rw[Jl];exact c.len
theorem sE{C:Addr}{ex:List Addr}{σc:St}{H':Hp}{s':Shared}{h2:Heap}(I:Inv X pins σ H s)(hC:C=s.heap.objs.size)(hex:∀ b∈ex,jb X pins H b)
  (Ic:Inv (aR X scope Nc C ex s H) [] σc H' s') (hs:Heap.SameBut C s'.heap h2):Inv X pins σ H' {s' with heap:=h2}:=by
 have hne:∀ b o,s.heap.get? b=some o->b≠C:=fun b o e=>by rw[hC];exact Jv (Jm e)
 have B:=Ic.base
 have u:Un (ja X.stack) ex H H' s.heap h2:={
  keep:=fun b o e n hb hx=>(hs.2 b (hne b o e)).trans (B.keep b o e n hb hx)
  slot:=fun b o e n hb hx=>by
   obtain⟨sl,q⟩:=B.slot b o e n hb hx
   exact⟨sl,(hs.2 b (hne b o e)).trans q⟩
  free:=B.free
  there:=fun b o e hx=>by
   obtain⟨o',q⟩:=B.there b o e hx
   exact⟨o',(hs.2 b (hne b o e)).trans q⟩
  tups:=B.tups
  frzs:=B.frzs
  tbls:=B.tbls}
 refine I.call' (s':={s' with heap:=h2}) (ch:=ex) Ic.os u (fun b o e=>?_) Ic.bare fun b hb=>⟨(hex b hb).2.2.2.1,(hex b hb).2.1,(hex b hb).2.2.2.2.1,(hex b hb).2.2.2.2.2⟩
 have nC:∀ b o,H' b=some o->b≠C:=fun b o e z=>by
  have hf:H' C=none:=Ic.free
  rw[z,hf]at e;cases e
 refine(Ic.hok b o e).stay (fun d v hd q=>?_) (fun _ q=>q) fun _ _ q=>q
 refine(hs.2 d ?_).trans q
 rcases hd with z|z
 ·subst z;exact nC _ _ e
 ·exact nC _ _ z
theorem sF{elt tg iter:Expr}{ifs:List Expr}{pos pos':Pos}{wi:TI}{g:TG}{tt:TT}{te:TE}{Q:VK}(use:Option (Value->Sem Unit))(Qr:Value->Shared->Prop)(c:CompScope X scope Nc js)(hc:X.calm=true)(hi:PI X tg iter wi)
  (hin:∀ C ex s H,PG (aR X scope Nc C ex s H) tg g/\Bo (aR X scope Nc C ex s H) ifs tt/\PE (aR X scope Nc C ex s H) elt te)
  (I:Inv X pins σ H s) (h:vZ wi js g tt te σ H Q)
  (hfin:∀ p C s' H',Q (.ref p) H'->(∀ h2,Heap.SameBut C s'.heap h2->Inv X pins σ H' {s' with heap:=h2})->(∃ m,s'.heap.Ns C m)->jb X pins H' C->
   compPost (model X.prog X.w) X.A X.xe use Qr (.ref p) C (.ok .next) s')
  (hs:∀ x,foldedSetIterable iter X.env x=pure x:=by intro _;rfl):
  wpAny (model X.prog X.w) X.A (comprehension (.ListComp elt [⟨tg,iter,ifs,0⟩] scope pos) scope X.env pos' (newList []) false (eval iter X.env) use) Qr X.xe s:=by
 refine wpAny_comprehension_free rfl hs (iz scope X.env (c.has I.ok)) c.kind c.loc (df (hi pins s σ H _ I h) fun v s1 h1=>df h1 fun itv s2 h2=>?_)
 obtain⟨it,fp,tn,J,H2,e,I2,T,st2,f2,hW⟩:=h2
 subst e
 refine JZ (pW fun h1 hns1 hsb1 hcs1=>?_)
 dsimp only at hns1 hsb1 hcs1 ⊢
 obtain⟨W,⟨m0,w0⟩,turn⟩:=hW s2.heap.objs.size (I2.hok.fresh (Jj _))
 have I3:Inv X pins σ (upd H2 s2.heap.objs.size (.lst [])) {s2 with heap:=s2.heap.push {cls:=.type "list",dict:=none,data:=.seq ([]:List Value).toArray}}:=
  I2.laid (t':=s2.toks) (fun _ _ q=>Jh _ q) (Jj _) ⟨JE _,[],0,.nil,Jo _ rfl⟩
 generalize hS3:({s2 with heap:=s2.heap.push {cls:=.type "list",dict:=none,data:=.seq ([]:List Value).toArray}}:Shared)=s3 at I3
 have e3:s3.heap=s2.heap.push {cls:=.type "list",dict:=none,data:=.seq ([]:List Value).toArray}:=by rw[<-hS3]
 rw[<-e3]at hns1 hsb1 hcs1 ⊢
 generalize hp:s2.heap.objs.size=p at*
 have flt:∀ b∈fp,b<p:=fun b hb=>by
  obtain⟨o,e,_⟩:=T.obj _ _ st2 b hb
  rw[<-hp];exact Jm e
 have fne:∀ b∈fp,b≠p:=fun b hb=>Jv (flt b hb)
 have f3:∀ b∈fp,jb X pins (upd H2 p (.lst [])) b:=fun b hb=>⟨by rw[aA (fne b hb)];exact(f2 b hb).1,(f2 b hb).2⟩
 have hsz3:s3.heap.objs.size=p+1:=by rw[e3,Ka,hp]
 have flt3:∀ b∈fp,b<s3.heap.objs.size:=fun b hb=>by rw[hsz3];exact Ki (flt b hb)
 have keep1:∀ b o,s3.heap.get? b=some o->h1.get? b=some o:=hsb1
 have st1:tn 0 h1:=T.keep _ _ _ st2 fun b hb o e=>keep1 b o (by rw[e3];exact Jh _ e)
 generalize hC:s3.heap.objs.size=C at*
 have hns:h1.Ns C (fun _=>none):=by simpa using hns1
 have start:∀ tk,Inv (aR X scope Nc C fp s3 (upd H2 p (.lst []))) [] (mF js σ) (upd H2 p (.lst [])) {s3 with heap:=h1,toks:=tk}:=fun tk=>nv c I3 f3 (fun b hb=>by rw[hC];exact flt3 b hb) hC.symm hns keep1 hcs1
 have ok:=(start 0).ok
 have stat:∀{H':Hp},(∀ b∈fp,H' b=none)->∀ b∈fp,jb (aR X scope Nc C fp s3 (upd H2 p (.lst []))) [] H' b:=fun hn b hb=>
  ⟨hn b hb,(ok.exf b hb).1,ok.exfs b hb,.inl hb,(ok.exf b hb).2,fun _ z=>nomatch z⟩
 obtain⟨hG,hT,hE⟩:=hin C fp s3 (upd H2 p (.lst []))
 have loop:∀ s':Shared,Inv (aR X scope Nc C fp s3 (upd H2 p (.lst []))) [] (mF js σ) (upd H2 p (.lst [])) s'->tn 0 s'.heap->
   codeAny (model X.prog X.w) X.A (.compLoop (.ListComp elt [⟨tg,iter,ifs,0⟩] scope pos) 0 (.ref it) (.ref p) (aR X scope Nc C fp s3 (upd H2 p (.lst []))).env) (compPost (model X.prog X.w) X.A X.xe use Qr (.ref p) C) s':=by
  intro s' I' st'
  refine codeAny_loop rfl (fun n s'=>∃ i σ' H',Inv (aR X scope Nc C fp s3 (upd H2 p (.lst []))) [] σ' H' s'/\tn i s'.heap/\(∀ b∈fp,H' b=none)/\W i n σ' H') ?_ m0 ⟨0,_,_,I',st',fun b hb=>(f3 b hb).1,w0⟩
  rintro n s4 ⟨i,σ4,H4,I4,st4,fr4,w4⟩
  show wpAny _ X.A ((compTurn (.ListComp elt [⟨tg,iter,ifs,0⟩] scope pos) 0 (.ref it) (.ref p) (aR X scope Nc C fp s3 (upd H2 p (.lst []))).env).onRaise (fun x=>do noteFrame x (aR X scope Nc C fp s3 (upd H2 p (.lst []))).env;theTreesLotGoes x)) _ _ s4
  refine wpAny_noted ?_
  rw[compTurn_list]
  refine Jg (Kb (Jg ?_))
  rcases turn i n σ4 H4 w4 with⟨stop,qn⟩|⟨go,N,hN,step⟩
  ·refine JJ (T.done (aR X scope Nc C fp s3 (upd H2 p (.lst []))) rfl rfl rfl hc i [] s4 σ4 H4 (fun _ _=>False) I4 (stat fr4) st4 stop) (fun r s5 ⟨hr,I5⟩=>?_) fun _ _ z=>z.elim
   subst hr
   refine Ji (hfin p C s5 H4 qn (fun h2 hsb=>sE I3 hC.symm f3 I5 hsb) ?_ (I3.fpOk (Ls hC) I5.free))
   obtain⟨m,hm,_⟩:=I5.loc
   exact⟨m,hm⟩
  ·refine JJ (T.item (aR X scope Nc C fp s3 (upd H2 p (.lst []))) rfl rfl rfl hc i [] s4 σ4 H4 (fun _ _=>False) I4 (stat fr4) st4 go) (fun r s5 ⟨u,hr,h5⟩=>?_) fun _ _ z=>z.elim
   subst hr
   refine Jg (JJ h5 (fun _ s6 ⟨x,H6,I6,r6,y6,st6,fr6⟩=>?_) fun _ _ z=>z.elim)
   have I6':=I6.pinned (stat fr6) (T.obj _ _ st6)
   refine Jg (JJ (hG _ s6 σ4 H6 x u _ I6' r6 (step x H6 y6)) (fun _ s7 ⟨σ7,H7,I7,q7⟩=>?_) fun _ _ z=>z.elim)
   refine Jg (JJ (hT _ s7 σ7 H7 _ I7 q7) (fun b s8 ⟨H8,I8,q8⟩=>?_) fun _ _ z=>z.elim)
   have again:∀{σ9:St} {H9:Hp} {s9:Shared},Inv (aR X scope Nc C fp s3 (upd H2 p (.lst []))) ([]++lA fp s6.heap) σ9 H9 s9->N σ9 H9->
     ∃ m,m<n/\∃ i σ' H',Inv (aR X scope Nc C fp s3 (upd H2 p (.lst []))) [] σ' H' s9/\tn i s9.heap/\(∀ b∈fp,H' b=none)/\W i m σ' H':=fun{σ9 H9 s9} I9 n9=>by
    obtain⟨m',hm,w9⟩:=hN σ9 H9 n9
    refine⟨m',hm,i+1,σ9,H9,I9.unpinned,T.keep _ _ _ st6 fun b hb o e=>(I9.pin (b,o) (JA _ (JA _ (eL hb e)))).1,fun b hb=>?_,w9⟩
    obtain⟨o,e,d⟩:=T.obj _ _ st6 b hb
    exact(I9.pin (b,o) (JA _ (JA _ (eL hb e)))).2.1
   cases b with
   |false=>exact Ji ⟨rfl,again I8 q8⟩
   |true=>
    refine Jg (Jg (JJ (hE _ s8 σ7 H8 _ I8 q8) (fun y s9 ⟨yv,H9,I9,r9,q9⟩=>?_) fun _ _ z=>z.elim))
    obtain⟨xs,hx,hl,n9⟩:=q9
    refine Jg (JJ (lB (X:=aR X scope Nc C fp s3 (upd H2 p (.lst []))) _ s9 σ7 H9 (.ref p) [yv] (.ref p) [y] (fun _ H'=>N σ7 H') I9 rfl (.cons r9 .nil) ⟨p,xs,yv,rfl,rfl,hx,hl,n9⟩) (fun _ s10 ⟨_,H10,I10,_,q10⟩=>?_) fun _ _ z=>z.elim)
    exact Ji (Ji ⟨rfl,again I10 q10⟩)
 refine codeAny_compStart_list (loop _ ?_ ?_) (T.self _ 0 _ _ _ ?_ (loop _ ?_ ?_))
 all_goals first
  |exact st1
  |(subst hS3;exact start _)
theorem BQ{elt tg iter:Expr}{ifs:List Expr}{pos:Pos}{wi:TI}{g:TG}{tt:TT}{te:TE}(c:CompScope X scope Nc js)(hc:X.calm=true)(hi:PI X tg iter wi)
  (hin:∀ C ex s H,PG (aR X scope Nc C ex s H) tg g/\Bo (aR X scope Nc C ex s H) ifs tt/\PE (aR X scope Nc C ex s H) elt te)
  (hs:∀ x,foldedSetIterable iter X.env x=pure x:=by intro _;rfl):PE X (.ListComp elt [⟨tg,iter,ifs,0⟩] scope pos) (vZ wi js g tt te):=by
 intro pins s σ H Q I h
 rw[eval_ListComp]
 refine sF none _ c hc hi hin I h (fun p C s' H' q hI hn _=>?_) hs
 obtain⟨m,hm⟩:=hn
 exact⟨m,hm,fun h2 hsb=>⟨.ref p,H',hI h2 hsb,rfl,q⟩⟩
theorem uL{i:Nat}{x:Str}{elt tg iter:Expr}{ifs:List Expr}{pos pos' cpos:Pos}{wi:TI}{g:TG}{tt:TT}{te:TE}(hN:X.N.Nodup)(hi':X.N[i]? =some x)(hx:Loc X.env.scope x)
  (c:CompScope X scope Nc js) (hc:X.calm=true) (hi:PI X tg iter wi)
  (hin:∀ C ex s H,PG (aR X scope Nc C ex s H) tg g/\Bo (aR X scope Nc C ex s H) ifs tt/\PE (aR X scope Nc C ex s H) elt te)
  (hsw:swapsWith (.ListComp elt [⟨tg,iter,ifs,0⟩] scope cpos) (some (.Name x pos')) pos.line X.env=pure true:=by rfl)
  (hf:X.fn x=true\/X.env.scope.names.lookup x=some .local:=by first|exact .inl rfl|exact .inr rfl|assumption)
  (hs:∀ x,foldedSetIterable iter X.env x=pure x:=by intro _;rfl):PS X (.Assign [.Name x pos'] (.ListComp elt [⟨tg,iter,ifs,0⟩] scope cpos) pos) (DL (vZ wi js g tt te) (yQ i)):=by
 intro pins s σ H D I h
 rw[exec_Assign_Name_used _ _ _ _ hsw]
 refine Jg (Kb (Jg ?_))
 show wpAny _ X.A (do let _<-comprehension (.ListComp elt [⟨tg,iter,ifs,0⟩] scope cpos) scope X.env _ (newList []) false (eval iter X.env) (some (assign (.Name x pos') X.env))) _ _ s
 refine Jg (df (sF (some (assign (.Name x pos') X.env)) (fun _ s'=>SP X pins D .next s') c hc hi hin I h (fun p C s' H' q hI hn hF=>?_) hs) fun _ s' q=>Ji (Ji q))
 obtain⟨m,hm⟩:=hn
 have I':Inv X pins σ H' s':=hI s'.heap (.refl ..)
 refine wpAny_assign_Name (pN I' hN hi' hx (v:=.ref p) rfl (fun s'' I'' ⟨a,hsb,ha⟩=>?_) hf)
 have aC:C≠a:=by
  rcases ha with z|z
  ·rw[z];exact hF.2.1
  ·exact fun e=>hF.2.2.2.2.1 x a z e.symm
 refine⟨m,hm.sameBut hsb aC,fun h2 hsb2=>?_⟩
 exact⟨_,H',I''.turned (t':=s''.toks) (it:=C) (fun b o hb e=>(hsb2.2 b hb).trans e) hF.1 hF.2.1 hF.2.2.2.1 hF.2.2.2.2.1 hF.2.2.2.2.2,q⟩
end
inductive D where
 |non|bl (b:Bool)|int (i:Int)|str (x:Str)|tup (ds:List D)|lst (k:Nat)|ro (ds:List D)|emp
 |fn (a c:Addr) (q:Str) (ds:List D) (vs:List V)|exc (x:Str) (ds:List D)
 |fz (ds:List D)
abbrev aj:=List (List D)
inductive Res(α:Type) where
 |ok (a:α)|ex (x:D)
def M(α:Type):=aj->Option (Res α×aj)
namespace M
def ret{α:Type}(a:α):M α:=fun S=>some (.ok a,S)
def bnd{α β:Type}(m:M α)(f:α->M β):M β:=fun S=>match m S with
 |some (.ok a,S')=>f a S'
 |some (.ex x,S')=>some (.ex x,S')
 |none=>none
def fail{α:Type}:M α:=fun _=>none
def raise{α:Type}(x:D):M α:=fun S=>some (.ex x,S)
instance:Monad M where
 pure:=ret
 bind:=bnd
end M
def IU(K:PySem.W.Frag)(a:Addr)(xs:List V):Prop:=∃(o:Obj) (its:Array Value) (n:Nat),K.lookup a=some o/\o.cls= .type "list"/\o.dict=none/\o.data= .seq its n/\its.size<=sizeLine/\aZ xs its.toList
def Bp(K:PySem.W.Frag)(H:Hp)(a:Addr)(vs:List V):Prop:=(∃ o,H a=some (.frz o (.lst vs)))\/IU K a vs
theorem Bp.sq{K:PySem.W.Frag}{H:Hp}{a:Addr}{vs:List V}(h:Bp K H a vs):iY K H a vs:=h.imp (fun⟨o,e⟩=>.inr ⟨o,e⟩) fun z=>z
def mG(C a:Addr)(od:Option Addr):Heap->Prop:=fun h=>∃ oe vs,h.get? a=some oe/\oe.cls= .ref C/\oe.dict=od/\oe.data= .fields vs
def pA(qual:Str)(c:Addr):Heap->Prop:=fun h=>h.CodeRec (.ref c) qual
def bS:List Str:=["law","_law_within_right","_law_refusals_right","_law_sharings_right","_law_right","_law_lists_right","_law_papers_right","_law_great_right","_law_told_right","_law_desks_right","_law_texts_right"]
def TabsOk(K:PySem.W.Frag)(H:Hp):Prop:=∀ x∈bS,∀ c P,PySem.W.tabIn K x=some (c,P)->∃ ps,H P=some (.tbl ps)/\TriplesOk ps.toList/\
 ∀ pos cv,codeAmong pos ps.toList=some cv->∃ c',cv= .ref c'/\H c'=some (.ext (pA (x++".<locals>.<lambda>") c'))
theorem TabsOk.mono{K:PySem.W.Frag}{H H':Hp}(h:TabsOk K H)(k:∀ a o,H a=some o->(∀ vs,o≠ .lst vs)->H' a=some o):TabsOk K H':=fun x hx c P e=>
 let ⟨ps,h1,h2,h3⟩:=h x hx c P e
 ⟨ps,k _ _ h1 (by intro _ z;cases z),h2,fun pos cv q=>let ⟨c',e1,e2⟩:=h3 pos cv q;⟨c',e1,k _ _ e2 (by intro _ z;cases z)⟩⟩
mutual
inductive RelD(K:PySem.W.Frag)(ι:List Addr)(H:Hp):D->V->Prop where
 |non:RelD K ι H .non .non
 |bl (b:Bool):RelD K ι H (.bl b) (.bl b)
 |int (i:Int):RelD K ι H (.int i) (.int i)
 |str (x:Str):RelD K ι H (.str x) (.str x)
 |tup {a:Addr} {ds:List D} {vs:List V}:H a=some (.tup vs)->RelDs K ι H ds vs->RelD K ι H (.tup ds) (.ref a)
 |lst {a:Addr} {k:Nat}:ι[k]? =some a->RelD K ι H (.lst k) (.ref a)
 |ro {a:Addr} {ds:List D} {vs:List V}:Bp K H a vs->RelDs K ι H ds vs->RelD K ι H (.ro ds) (.ref a)
 |emp {a:Addr}:H a=some (.dK [])->RelD K ι H .emp (.ref a)
 |fn {a c:Addr} {q:Str} {ds:List D} {vs:List V}:H c=some (.ext (pA q c))->RelDs K ι H ds vs->RelD K ι H (.fn a c q ds vs) (.ref a)
 |exc {a C:Addr} {x:Str}:PySem.W.nsIn K mainGlobals x=some (some (.ref C))->H a=some (.ext (mG C a none))->RelD K ι H (.exc x []) (.ref a)
 |excF {a C dx:Addr} {x:Str} {fs:List (Str×V)} {ds:List D}:PySem.W.nsIn K mainGlobals x=some (some (.ref C))->H a=some (.ext (mG C a (some dx)))->H dx=some (.xd fs)->fs.map (·.1)=([("many":Str),("most":Str)]:List Str)->RelDs K ι H ds (fs.map (·.2))->RelD K ι H (.exc x ds) (.ref a)
 |fz {a:Addr} {o:Obj} {ds:List D} {vs:List V}:H a=some (.frz o (.lst vs))->RelDs K ι H ds vs->RelD K ι H (.fz ds) (.ref a)
inductive RelDs(K:PySem.W.Frag)(ι:List Addr)(H:Hp):List D->List V->Prop where
 |nil:RelDs K ι H [] []
 |cons {d:D} {v:V} {ds:List D} {vs:List V}:RelD K ι H d v->RelDs K ι H ds vs->RelDs K ι H (d::ds) (v::vs)
end
structure Rep(K:PySem.W.Frag)(ι:List Addr)(H:Hp)(S:aj):Prop where
 nd:ι.Nodup
 len:ι.length=S.length
 get:∀(k:Nat) (a:Addr) (xs:List D),ι[k]? =some a->S[k]? =some xs->∃ vs,H a=some (.lst vs)/\RelDs K ι H xs vs
 tab:TabsOk K H
structure Ext(ι:List Addr)(H:Hp)(ι':List Addr)(H':Hp):Prop where
 ids:∃ more,ι'=ι++more
 oth:∀ a o,H a=some o->a ∉ ι->(∀ ps,o≠ .tbl ps)->H' a=some o/\a ∉ ι'
structure ExtN(ι:List Addr)(H:Hp)(ι':List Addr)(H':Hp):Prop where
 ids:∃ more,ι'=ι++more
 oth:∀ a o,H a=some o->a ∉ ι->(∀ ps,o≠ .tbl ps)->(∀ vs,o≠ .lst vs)->H' a=some o/\a ∉ ι'
theorem Ext.n{ι ι':List Addr}{H H':Hp}(e:Ext ι H ι' H'):ExtN ι H ι' H':=⟨e.ids,fun a o h n t _=>e.oth a o h n t⟩
theorem Ext.refl{ι:List Addr}{H:Hp}:Ext ι H ι H:=⟨⟨[],by simp⟩,fun _ _ h n _=>⟨h,n⟩⟩
theorem Ext.trans{ι ι1 ι2:List Addr}{H H1 H2:Hp}(a:Ext ι H ι1 H1)(b:Ext ι1 H1 ι2 H2):Ext ι H ι2 H2:=by
 obtain⟨m1,e1⟩:=a.ids
 obtain⟨m2,e2⟩:=b.ids
 exact⟨⟨m1++m2,by rw[e2,e1,JH]⟩,fun c o h n t=>let ⟨h1,n1⟩:=a.oth c o h n t;b.oth c o h1 n1 t⟩
theorem ExtN.at{ι ι':List Addr}{H H':Hp}(e:ExtN ι H ι' H'){k:Nat}{a:Addr}(h:ι[k]? =some a):ι'[k]? =some a:=by
 obtain⟨m,rfl⟩:=e.ids
 have hl:k<ι.length:=(Jn.mp h).1
 rw[Jp hl];exact h
section
variable {K:PySem.W.Frag}{ι ι':List Addr}{H H':Hp}{S:aj}
theorem Rep.isL(r:Rep K ι H S){a:Addr}(h:a∈ι):∃ vs,H a=some (.lst vs):=by
 obtain⟨k,hk,e⟩:=List.mem_iff_getElem.mp h
 have hk':k<S.length:=by rw[<-r.len];exact hk
 obtain⟨vs,h1,_⟩:=r.get k a (S[k]) (by rw[Jk hk,e]) (Jk hk')
 exact⟨vs,h1⟩
theorem Rep.notIn(r:Rep K ι H S){a:Addr}{o:HO}(h:H a=some o)(hn:∀ vs,o≠ .lst vs):a ∉ ι:=fun z=>by
 obtain⟨vs,e⟩:=r.isL z
 rw[h]at e;exact hn vs (JI e)
theorem Rep.free(r:Rep K ι H S){a:Addr}(h:H a=none):a ∉ ι:=fun z=>by
 obtain⟨vs,e⟩:=r.isL z
 rw[h]at e;cases e
mutual
theorem RelD.laterN(r:Rep K ι H S)(e:ExtN ι H ι' H'):∀{d:D} {v:V},RelD K ι H d v->RelD K ι' H' d v
 |_,_,.non=>.non
 |_,_,.bl b=>.bl b
 |_,_,.int i=>.int i
 |_,_,.str x=>.str x
 |_,_,.tup h hs=>.tup (e.oth _ _ h (r.notIn h (by intro _ z;cases z)) (by intro _ z;cases z) (by intro _ z;cases z)).1 (RelDs.laterN r e hs)
 |_,_,.lst h=>.lst (e.at h)
 |_,_,.ro h hs=>.ro (h.imp (fun⟨o,h⟩=>⟨o,(e.oth _ _ h (r.notIn h (by intro _ z;cases z)) (by intro _ z;cases z) (by intro _ z;cases z)).1⟩) fun z=>z) (RelDs.laterN r e hs)
 |_,_,.emp h=>.emp (e.oth _ _ h (r.notIn h (by intro _ z;cases z)) (by intro _ z;cases z) (by intro _ z;cases z)).1
 |_,_,.fn h hs=>.fn (e.oth _ _ h (r.notIn h (by intro _ z;cases z)) (by intro _ z;cases z) (by intro _ z;cases z)).1 (RelDs.laterN r e hs)
 |_,_,.exc n h=>.exc n (e.oth _ _ h (r.notIn h (by intro _ z;cases z)) (by intro _ z;cases z) (by intro _ z;cases z)).1
 |_,_,.excF n h h2 hn hs=>.excF n (e.oth _ _ h (r.notIn h (by intro _ z;cases z)) (by intro _ z;cases z) (by intro _ z;cases z)).1 (e.oth _ _ h2 (r.notIn h2 (by intro _ z;cases z)) (by intro _ z;cases z) (by intro _ z;cases z)).1 hn (RelDs.laterN r e hs)
 |_,_,.fz h hs=>.fz (e.oth _ _ h (r.notIn h (by intro _ z;cases z)) (by intro _ z;cases z) (by intro _ z;cases z)).1 (RelDs.laterN r e hs)
theorem RelDs.laterN(r:Rep K ι H S)(e:ExtN ι H ι' H'):∀{ds:List D} {vs:List V},RelDs K ι H ds vs->RelDs K ι' H' ds vs
 |_,_,.nil=>.nil
 |_,_,.cons h hs=>.cons (RelD.laterN r e h) (RelDs.laterN r e hs)
end
theorem RelD.later(r:Rep K ι H S)(e:Ext ι H ι' H'){d:D}{v:V}(h:RelD K ι H d v):RelD K ι' H' d v:=RelD.laterN r e.n h
theorem RelDs.later(r:Rep K ι H S)(e:Ext ι H ι' H'){ds:List D}{vs:List V}(h:RelDs K ι H ds vs):RelDs K ι' H' ds vs:=RelDs.laterN r e.n h
theorem RelDs.length:∀{ds:List D} {vs:List V},RelDs K ι H ds vs->ds.length=vs.length
 |_,_,.nil=>rfl
 |_,_,.cons _ t=>by rw[J0,J0,RelDs.length t]
theorem RelDs.append:∀{ds es:List D} {vs ws:List V},RelDs K ι H ds vs->RelDs K ι H es ws->RelDs K ι H (ds++es) (vs++ws)
 |_,_,_,_,.nil,s=>s
 |_,_,_,_,.cons r t,s=>.cons r (RelDs.append t s)
theorem RelDs.get':∀{ds:List D} {vs:List V} {i:Nat} {d:D},RelDs K ι H ds vs->ds[i]? =some d->∃ v,vs[i]? =some v/\RelD K ι H d v
 |_,_,_,_,.nil,e=>by simp at e
 |_,_,0,_,.cons r _,e=>by simp at e;subst e;exact⟨_,rfl,r⟩
 |_,_,i+1,v,.cons _ t,e=>by
  obtain⟨u,h1,h2⟩:=RelDs.get' (i:=i) t (by simpa using e)
  exact⟨u,by simpa using h1,h2⟩
theorem RelDs.take:∀{ds:List D} {vs:List V} (n:Nat),RelDs K ι H ds vs->RelDs K ι H (ds.take n) (vs.take n)
 |_,_,0,_=>.nil
 |_,_,_+1,.nil=>.nil
 |_,_,n+1,.cons r t=>.cons r (RelDs.take n t)
theorem RelDs.drop:∀{ds:List D} {vs:List V} (n:Nat),RelDs K ι H ds vs->RelDs K ι H (ds.drop n) (vs.drop n)
 |_,_,0,r=>r
 |_,_,_+1,.nil=>.nil
 |_,_,n+1,.cons _ t=>RelDs.drop n t
theorem RelDs.set{d:D}{v:V}(r:RelD K ι H d v):∀{ds:List D} {vs:List V} (i:Nat),RelDs K ι H ds vs->RelDs K ι H (ds.set i d) (vs.set i v)
 |_,_,_,.nil=>.nil
 |_,_,0,.cons _ t=>.cons r t
 |_,_,i+1,.cons q t=>.cons q (RelDs.set r i t)
theorem RelDs.eraseIdx:∀{ds:List D} {vs:List V} (i:Nat),RelDs K ι H ds vs->RelDs K ι H (ds.eraseIdx i) (vs.eraseIdx i)
 |_,_,_,.nil=>.nil
 |_,_,0,.cons _ t=>t
 |_,_,i+1,.cons q t=>.cons q (RelDs.eraseIdx i t)
theorem dR{p:Addr}{o:HO}(hp:H p=none):Ext ι H ι (upd H p o):=⟨⟨[],by simp⟩,fun a o' h n _=>⟨by rw[aA (aF h hp)];exact h,n⟩⟩
theorem eV{p:Addr}{o:HO}(r:Rep K ι H S)(hp:H p=none):Rep K ι (upd H p o) S:=by
 refine⟨r.nd,r.len,fun k a xs e1 e2=>?_,r.tab.mono fun b o h _=>by rw[aA (aF h hp)];exact h⟩
 obtain⟨vs,h1,h2⟩:=r.get k a xs e1 e2
 exact⟨vs,by rw[aA (aF h1 hp)];exact h1,RelDs.later r (dR hp) h2⟩
theorem sG{p:Addr}{o:HO}(hp:H p=none):Ext ι H (ι++[p]) (upd H p o):=⟨⟨[p],rfl⟩,fun a o' h n _=>⟨by rw[aA (aF h hp)];exact h,by
 have:a≠p:=aF h hp
 simp[n,this]⟩⟩
theorem zq{p:Addr}{xs:List D}{vs:List V}(r:Rep K ι H S)(hp:H p=none)(h:RelDs K ι H xs vs):Rep K (ι++[p]) (upd H p (.lst vs)) (S++[xs]):=by
 have hE:Ext ι H (ι++[p]) (upd H p (.lst vs)):=sG hp
 refine⟨?_,by simp[r.len],fun k a ys e1 e2=>?_,r.tab.mono fun b o h _=>by rw[aA (aF h hp)];exact h⟩
 ·rw[List.nodup_append]
  refine⟨r.nd,by simp,fun a ha b hb=>?_⟩
  have:b=p:=by simpa using hb
  subst this
  rintro rfl
  exact r.free hp ha
 ·by_cases hk:k<ι.length
  ·rw[Jp hk]at e1
   rw[Jp (by rw[<-r.len];exact hk)]at e2
   obtain⟨ws,h1,h2⟩:=r.get k a ys e1 e2
   exact⟨ws,by rw[aA (aF h1 hp)];exact h1,RelDs.later r hE h2⟩
  ·have hk1:k<(ι++[p]).length:=(Jn.mp e1).1
   have:k=ι.length:=by simp at hk1;omega
   subst this
   simp at e1
   rw[r.len]at e2
   simp at e2
   subst e1 e2
   exact⟨vs,aL,RelDs.later r hE h⟩
theorem ny:∀{l:List Addr} {i j:Nat} {a:Addr},l.Nodup->l[i]? =some a->l[j]? =some a->i=j
 |[],i,j,a,_,h,_=>by simp at h
 |x::r,0,0,a,_,_,_=>rfl
 |x::r,0,j+1,a,hn,h1,h2=>by
  simp at h1 h2
  subst h1
  exact absurd (JM h2) (Ke.mp hn).1
 |x::r,i+1,0,a,hn,h1,h2=>by
  simp at h1 h2
  subst h2
  exact absurd (JM h1) (Ke.mp hn).1
 |x::r,i+1,j+1,a,hn,h1,h2=>by
  simp at h1 h2
  rw[ny (Ke.mp hn).2 h1 h2]
theorem qP{a:Addr}{o:HO}(ha:a∈ι):Ext ι H ι (upd H a o):=⟨⟨[],by simp⟩,fun b o' h n _=>⟨by rw[aA (fun z=>n (by rw[z];exact ha))];exact h,n⟩⟩
theorem qQ{a:Addr}{k:Nat}{xs:List D}{vs:List V}(r:Rep K ι H S)(hk:ι[k]? =some a)(h:RelDs K ι H xs vs):Rep K ι (upd H a (.lst vs)) (S.set k xs):=by
 have ha:a∈ι:=JM hk
 have hE:Ext ι H ι (upd H a (.lst vs)):=qP ha
 refine⟨r.nd,by simp[r.len],fun j b ys e1 e2=>?_,r.tab.mono fun b o h n=>by
  obtain⟨ws,hw⟩:=r.isL ha
  rw[aA (fun z=>by subst z;rw[h]at hw;exact n ws (JI hw))];exact h⟩
 by_cases hj:j=k
 ·subst hj
  rw[hk]at e1;cases e1
  have hl:j<S.length:=by rw[<-r.len];exact(Jn.mp hk).1
  rw[JN hl]at e2;cases e2
  exact⟨vs,aL,RelDs.later r hE h⟩
 ·rw[JF (Ne.symm hj)]at e2
  obtain⟨ws,h1,h2⟩:=r.get j b ys e1 e2
  have hb:b≠a:=by
   rintro rfl
   exact hj (ny r.nd e1 hk)
  exact⟨ws,by rw[aA hb];exact h1,RelDs.later r hE h2⟩
end
abbrev XD:=D->List Addr->aj->Hp->Prop
def cont(K:PySem.W.Frag)(E:XD){α:Type}(c:M α)(ι:List Addr)(S:aj)(H:Hp)(Q:α->List Addr->aj->Hp->Prop):Prop:=
 ∃ r S',c S=some (r,S')/\∀ ι' H',Ext ι H ι' H'->Rep K ι' H' S'->match r with
  | .ok a=>Q a ι' S' H'
  | .ex x=>E x ι' S' H'
section
variable {K:PySem.W.Frag}{E:XD}{ι:List Addr}{S:aj}{H:Hp}{α β:Type}
theorem ah{c:M α}{f:α->M β}{Q:β->List Addr->aj->Hp->Prop}(h:cont K E (c>>=f) ι S H Q):cont K E c ι S H (fun a ι1 S1 H1=>cont K E (f a) ι1 S1 H1 Q):=by
 obtain⟨r,S',e,k⟩:=h
 have e':M.bnd c f S=some (r,S'):=e
 unfold M.bnd at e'
 cases q:c S with
 |none=>rw[q]at e';cases e'
 | some p=>
  obtain⟨r1,S1⟩:=p
  rw[q]at e'
  cases r1 with
  |ok a=>exact⟨.ok a,S1,q,fun ι1 H1 x1 rep1=>⟨r,S',e',fun ι2 H2 x2 rep2=>k ι2 H2 (x1.trans x2) rep2⟩⟩
  |ex x=>
   cases e'
   exact⟨.ex x,_,q,fun ι1 H1 x1 rep1=>k ι1 H1 x1 rep1⟩
theorem ak{c:M α}{Q Q':α->List Addr->aj->Hp->Prop}(h:cont K E c ι S H Q)(k:∀ a ι' S' H',Ext ι H ι' H'->Rep K ι' H' S'->Q a ι' S' H'->Q' a ι' S' H'):cont K E c ι S H Q':=by
 obtain⟨r,S',e,q⟩:=h
 refine⟨r,S',e,fun ι1 H1 x1 rep1=>?_⟩
 have:=q ι1 H1 x1 rep1
 cases r with
 |ok a=>exact k a ι1 S' H1 x1 rep1 this
 |ex x=>exact this
theorem ai{a:α}{Q:α->List Addr->aj->Hp->Prop}(h:cont K E (pure a) ι S H Q){ι':List Addr}{H':Hp}(x:Ext ι H ι' H')(r:Rep K ι' H' S):Q a ι' S H':=by
 obtain⟨r',S',e,q⟩:=h
 cases e
 exact q ι' H' x r
theorem ag{Q:α->List Addr->aj->Hp->Prop}(h:cont K E (M.fail) ι S H Q):False:=by
 obtain⟨r',S',e,q⟩:=h
 cases e
end
abbrev az:=List (Option D)
inductive RelE(K:PySem.W.Frag)(ι:List Addr)(H:Hp):az->St->Prop where
 |nil:RelE K ι H [] []
 |cons {o:Option D} {u:Option V} {ρ:az} {σ:St}:(∀ d,o=some d->∃ v,u=some v/\RelD K ι H d v)->RelE K ι H ρ σ->RelE K ι H (o::ρ) (u::σ)
section
variable {K:PySem.W.Frag}{ι ι':List Addr}{S:aj}{H H':Hp}
theorem RelE.later(r:Rep K ι H S)(e:Ext ι H ι' H'):∀{ρ:az} {σ:St},RelE K ι H ρ σ->RelE K ι' H' ρ σ
 |_,_,.nil=>.nil
 |_,_,.cons h t=>.cons (fun d z=>let ⟨v,e1,e2⟩:=h d z;⟨v,e1,RelD.later r e e2⟩) (RelE.later r e t)
theorem RelE.get:∀{ρ:az} {σ:St} {i:Nat} {d:D},RelE K ι H ρ σ->ρ[i]? =some (some d)->∃ v,σ[i]? =some (some v)/\RelD K ι H d v
 |_,_,_,_,.nil,e=>by simp at e
 |_,_,0,_,.cons h _,e=>by
  simp at e
  obtain⟨v,e1,e2⟩:=h _ e
  exact⟨v,by simp[e1],e2⟩
 |_,_,i+1,_,.cons _ t,e=>by
  obtain⟨v,h1,h2⟩:=RelE.get (i:=i) t (by simpa using e)
  exact⟨v,by simpa using h1,h2⟩
theorem RelE.set{d:D}{v:V}(r:RelD K ι H d v):∀{ρ:az} {σ:St} (i:Nat),RelE K ι H ρ σ->RelE K ι H (ρ.set i (some d)) (σ.set i (some v))
 |_,_,_,.nil=>.nil
 |_,_,0,.cons _ t=>.cons (fun d' z=>by cases z;exact⟨v,rfl,r⟩) t
 |_,_,i+1,.cons q t=>.cons q (RelE.set r i t)
theorem RelE.start:∀{ds:List D} {vs:List V},RelDs K ι H ds vs->∀ n,RelE K ι H (ds.map some++List.replicate n none) (vs.map some++List.replicate n none)
 |_,_,.nil,n=>by
  induction n with
  |zero=>exact .nil
  |succ n ih=>exact .cons (fun d z=>by cases z) ih
 |_,_,.cons r t,n=>.cons (fun d z=>by cases z;exact⟨_,rfl,r⟩) (RelE.start t n)
end
abbrev TM:=az->M D
def ku(K:PySem.W.Frag)(Q:VK):D->List Addr->aj->Hp->Prop:=fun d ι' _ H'=>∀ v,RelD K ι' H' d v->Q v H'
def tM(K:PySem.W.Frag)(E:XD)(m:TM):TE:=fun σ H Q=>∃ ι S ρ,Rep K ι H S/\RelE K ι H ρ σ/\cont K E (m ρ) ι S H (ku K Q)
def SE(X:Cx)(E:XD)(e:Expr)(m:TM):Prop:=PE X e (tM X.K E m)
def xC(K:PySem.W.Frag)(E:XD)(m:az->M Bool):TT:=fun σ H Q=>∃ ι S ρ,Rep K ι H S/\RelE K ι H ρ σ/\cont K E (m ρ) ι S H (fun b _ _ H'=>Q b H')
def SB(X:Cx)(E:XD)(e:Expr)(m:az->M Bool):Prop:=PT X e (xC X.K E m)
def D8(X:Cx)(E:XD)(e:Expr)(m:az->M Bool):Prop:=PW X e (xC X.K E m)
def HP(K:PySem.W.Frag)(E:XD)(m:az->M (List D)):TA:=fun σ H Q=>∃ ι S ρ,Rep K ι H S/\RelE K ι H ρ σ/\cont K E (m ρ) ι S H (fun ds ι' _ H'=>∀ vs,RelDs K ι' H' ds vs->Q vs H')
def SA(X:Cx)(E:XD)(es:List Expr)(m:az->M (List D)):Prop:=PA X es (HP X.K E m)
inductive Out where
 |nx (ρ:az)|ret (d:D)|bk (ρ:az)|ct (ρ:az)
abbrev cq:=az->M Out
def D9(K:PySem.W.Frag)(T:Ends):Out->List Addr->aj->Hp->Prop:=fun o ι' _ H'=>match o with
 | .nx ρ=>∀ σ,RelE K ι' H' ρ σ->T.nx σ H'
 | .ret d=>∀ v,RelD K ι' H' d v->T.rt v H'
 | .bk ρ=>∀ σ,RelE K ι' H' ρ σ->T.bk σ H'
 | .ct ρ=>∀ σ,RelE K ι' H' ρ σ->T.ct σ H'
def IC(K:PySem.W.Frag)(E:XD)(m:cq):TS:=fun T σ H=>∃ ι S ρ,Rep K ι H S/\RelE K ι H ρ σ/\cont K E (m ρ) ι S H (D9 K T)
def SS(X:Cx)(E:XD)(st:Stmt)(m:cq):Prop:=PS X st (IC X.K E m)
def sH(X:Cx)(E:XD)(st:List Stmt)(m:cq):Prop:=oY X st (IC X.K E m)
abbrev i4:=D->az->M az
def Bq(K:PySem.W.Frag)(E:XD)(m:i4):TG:=fun v σ H Q=>∃ ι S ρ d,Rep K ι H S/\RelE K ι H ρ σ/\RelD K ι H d v/\cont K E (m d ρ) ι S H (fun ρ' ι' _ H'=>∀ σ',RelE K ι' H' ρ' σ'->Q σ' H')
def SG(X:Cx)(E:XD)(tg:Expr)(m:i4):Prop:=PG X tg (Bq X.K E m)
theorem PE.imp{X:Cx}{e:Expr}{t t':TE}(h:PE X e t)(k:∀ σ H Q,t' σ H Q->t σ H Q):PE X e t':=fun pins s σ H Q I hw=>h pins s σ H Q I (k σ H Q hw)
theorem PT.imp{X:Cx}{e:Expr}{t t':TT}(h:PT X e t)(k:∀ σ H Q,t' σ H Q->t σ H Q):PT X e t':=fun pins s σ H Q I hw=>h pins s σ H Q I (k σ H Q hw)
theorem PW.imp{X:Cx}{e:Expr}{t t':TT}(h:PW X e t)(k:∀ σ H Q,t' σ H Q->t σ H Q):PW X e t':=fun wh pins s σ H Q I hw=>h wh pins s σ H Q I (k σ H Q hw)
theorem PA.imp{X:Cx}{e:List Expr}{t t':TA}(h:PA X e t)(k:∀ σ H Q,t' σ H Q->t σ H Q):PA X e t':=fun pos pins s σ H Q I hw=>h pos pins s σ H Q I (k σ H Q hw)
theorem PS.imp{X:Cx}{e:Stmt}{t t':TS}(h:PS X e t)(k:∀ D σ H,t' D σ H->t D σ H):PS X e t':=fun pins s σ H D I hw=>h pins s σ H D I (k D σ H hw)
theorem oY.imp{X:Cx}{e:List Stmt}{t t':TS}(h:oY X e t)(k:∀ D σ H,t' D σ H->t D σ H):oY X e t':=fun pins s σ H D I hw=>h pins s σ H D I (k D σ H hw)
theorem PG.imp{X:Cx}{e:Expr}{t t':TG}(h:PG X e t)(k:∀ v σ H Q,t' v σ H Q->t v σ H Q):PG X e t':=fun pins s σ H v u Q I r hw=>h pins s σ H v u Q I r (k v σ H Q hw)
section
variable {X:Cx}{E:XD}{a b e:Expr}{m n:TM}{pos:Pos}
def uM(ρ:az)(i:Nat):M D:=match ρ[i]? with
 |some (some d)=>pure d
 |_=>M.fail
theorem aa(i:Nat){x:Str}(hN:X.N[i]? =some x:=by rfl)(hv:yK X.env.scope x:=by first|exact Or.inl rfl|exact Or.inr (Or.inl rfl)|exact Or.inr (Or.inr rfl))(hd:(x==("__debug__":Str))=false:=by decide)
  (hcd:(x==("__classdict__":Str))=false:=by decide):SE X E (.Name x pos) (fun ρ=>uM ρ i):=by
 refine PE.imp (qC hN hv hd hcd) fun σ H Q h=>?_
 obtain⟨ι,S,ρ,rep,re,c⟩:=h
 unfold uM at c
 dsimp only at c
 split at c
 ·next d hd=>
  obtain⟨v,e1,e2⟩:=re.get hd
  exact⟨v,e1,ai c .refl rep v e2⟩
 ·exact(ag c).elim
theorem je{v:V}{d:D}(h:PE X e (tC v))(hd:∀ ι H,RelD X.K ι H d v):SE X E e (fun _=>pure d):=by
 refine PE.imp h fun σ H Q h=>?_
 obtain⟨ι,S,ρ,rep,re,c⟩:=h
 exact ai c .refl rep v (hd _ _)
theorem aw{i:Int}{j}:SE X E (.Constant (.int i) j pos) (fun _=>pure (.int i)):=je yO fun _ _=>.int i
theorem fT{i:Bool}{j}:SE X E (.Constant (.bool i) j pos) (fun _=>pure (.bl i)):=je FF fun _ _=>.bl i
theorem lE{j}:SE X E (.Constant .none j pos) (fun _=>pure .non):=je Dz fun _ _=>.non
theorem lF{x:Str}{j}:SE X E (.Constant (.str x) j pos) (fun _=>pure (.str x)):=je DA fun _ _=>.str x
theorem BR{x:Str}{i:Int}{t:Tok}(hg:Gl X x)(hm:X.mg x=some (.int i t))(hd:(x==("__debug__":Str))=false:=by decide):SE X E (.Name x pos) (fun _=>pure (.int i)):=
 je (vS hg hm (v:=.int i) ⟨t,rfl⟩ hd) fun _ _=>.int i
def sI(K:PySem.W.Frag)(E:XD)(f:D->D->M D)(r:R2):Prop:=
 ∀ ι S H d1 d2 v1 v2 Q,Rep K ι H S->RelD K ι H d1 v1->RelD K ι H d2 v2->cont K E (f d1 d2) ι S H (ku K Q)->r v1 v2 H Q
theorem BS{f:D->D->M D}{r:R2}(ho:sI X.K E f r){σ:St}{H:Hp}{Q:VK}(h:tM X.K E (fun ρ=>do let x<-m ρ;let y<-n ρ;f x y) σ H Q):FT r (tM X.K E m) (tM X.K E n) σ H Q:=by
 obtain⟨ι,S,ρ,rep,re,c⟩:=h
 refine⟨ι,S,ρ,rep,re,ak (ah c) fun x ι1 S1 H1 e1 rep1 c1 v1 r1=>?_⟩
 refine⟨ι1,S1,ρ,rep1,re.later rep e1,ak (ah c1) fun y ι2 S2 H2 e2 rep2 c2 v2 r2=>?_⟩
 exact ho ι2 S2 H2 x y v1 v2 Q rep2 (r1.later rep1 e2) r2 c2
theorem pX{op:Operator}{f:D->D->M D}{r:R2}(h:iS X (binaryOp op) r)(ho:sI X.K E f r)(ha:SE X E a m)(hb:SE X E b n):SE X E (.BinOp a op b pos) (fun ρ=>do let x<-m ρ;let y<-n ρ;f x y):=
 PE.imp (FU h ha hb) fun _ _ _ q=>BS ho q
theorem uN{op:CmpOp}{f:D->D->M D}{r:R2}(h:iS X (compareOp op) r)(ho:sI X.K E f r)(ha:SE X E a m)(hb:SE X E b n)(hm:behindInMarks op b=false:=by first|exact sr _ (by decide) (by decide)|rfl):
  SE X E (.Compare a [op] [b] pos) (fun ρ=>do let x<-m ρ;let y<-n ρ;f x y):=
 PE.imp (BC h ha hb hm) fun _ _ _ q=>BS ho q
theorem Gd{f:D->D->M D}{r:R2}(h:Bm X r)(ho:sI X.K E f r)(ha:SE X E a m)(hb:SE X E b n)(hs:qF b:=by intro _ _;rfl):SE X E (.Subscript a b pos) (fun ρ=>do let x<-m ρ;let y<-n ρ;f x y):=
 PE.imp (F8 h ha hb hs) fun _ _ _ q=>BS ho q
end
def lim:Nat:=10000000
theorem fA:lim<=sizeLine:=by rw[J6];decide
theorem zv:lim<sizeLine:=by rw[J6];decide
section
variable {K:PySem.W.Frag}{ι:List Addr}{H:Hp}
theorem RelD.bl_inv{b:Bool}{v:V}(h:RelD K ι H (.bl b) v):v= .bl b:=by cases h;rfl
theorem RelD.int_inv{b:Int}{v:V}(h:RelD K ι H (.int b) v):v= .int b:=by cases h;rfl
theorem RelD.str_inv{b:Str}{v:V}(h:RelD K ι H (.str b) v):v= .str b:=by cases h;rfl
theorem RelD.non_inv{v:V}(h:RelD K ι H .non v):v= .non:=by cases h;rfl
theorem RelD.tup_inv{ds:List D}{v:V}(h:RelD K ι H (.tup ds) v):∃ a vs,v= .ref a/\H a=some (.tup vs)/\RelDs K ι H ds vs:=by
 cases h with
 |tup h1 h2=>exact⟨_,_,rfl,h1,h2⟩
theorem RelD.lst_inv{k:Nat}{v:V}(h:RelD K ι H (.lst k) v):∃ a,v= .ref a/\ι[k]? =some a:=by
 cases h with
 |lst h1=>exact⟨_,rfl,h1⟩
theorem RelD.ro_inv{ds:List D}{v:V}(h:RelD K ι H (.ro ds) v):∃ a vs,v= .ref a/\Bp K H a vs/\RelDs K ι H ds vs:=by
 cases h with
 |ro h1 h2=>exact⟨_,_,rfl,h1,h2⟩
theorem RelD.fz_inv{ds:List D}{v:V}(h:RelD K ι H (.fz ds) v):∃ a o vs,v= .ref a/\H a=some (.frz o (.lst vs))/\RelDs K ι H ds vs:=by
 cases h with
 |fz h1 h2=>exact⟨_,_,_,rfl,h1,h2⟩
theorem RelDs.nil_inv{vs:List V}(h:RelDs K ι H [] vs):vs=[]:=by cases h;rfl
theorem RelDs.cons_inv{d:D}{ds:List D}{vs:List V}(h:RelDs K ι H (d::ds) vs):∃ v ws,vs=v::ws/\RelD K ι H d v/\RelDs K ι H ds ws:=by
 cases h with
 |cons h1 h2=>exact⟨_,_,rfl,h1,h2⟩
end
def iT:D->M Bool
 | .bl b=>pure b
 |_=>M.fail
def getL(k:Nat):M (List D):=fun S=>(S[k]?).bind fun xs=>some (.ok xs,S)
def bo(ds:List D):M D:=fun S=>if ds.length<=lim then some (.ok (.lst S.length),S++[ds])else none
def jf(k:Nat)(ds:List D):M D:=fun S=>if ds.length<=lim/\k<S.length then some (.ok .non,S.set k ds)else none
def bY(ds:List D):M D:=if ds.length<=lim then pure (.tup ds)else M.fail
section
variable {K:PySem.W.Frag}{E:XD}{ι:List Addr}{S:aj}{H:Hp}{α:Type}
theorem qR{x:D}{v:V}{f:Bool->M α}{Q:α->List Addr->aj->Hp->Prop}(rep:Rep K ι H S)(r:RelD K ι H x v)(c:cont K E (iT x>>=f) ι S H Q):∃ b,v= .bl b/\x= .bl b/\cont K E (f b) ι S H Q:=by
 cases x with
 |bl b=>exact⟨b,r.bl_inv,rfl,ai (ah c) .refl rep⟩
 |_=>exact(ag (ah c)).elim
theorem nz{x:D}{v:V}{Q:Bool->List Addr->aj->Hp->Prop}(rep:Rep K ι H S)(r:RelD K ι H x v)(c:cont K E (iT x) ι S H Q):∃ b,v= .bl b/\x= .bl b/\Q b ι S H:=by
 cases x with
 |bl b=>exact⟨b,r.bl_inv,rfl,ai c .refl rep⟩
 |_=>exact(ag c).elim
theorem xD{ds:List D}{vs:List V}{Q:D->List Addr->aj->Hp->Prop}(c:cont K E (bo ds) ι S H Q)(rep:Rep K ι H S)(r:RelDs K ι H ds vs):
  vs.length<=lim/\∀ p,H p=none->Q (.lst S.length) (ι++[p]) (S++[ds]) (upd H p (.lst vs)):=by
 obtain⟨r',S',e,q⟩:=c
 unfold bo at e
 split at e
 ·next hl=>
  cases e
  exact⟨by rw[<-r.length];exact hl,fun p hp=>q _ _ (sG hp) (zq rep hp r)⟩
 ·cases e
theorem zw(rep:Rep K ι H S){p:Addr}{H':Hp}:RelD K (ι++[p]) H' (.lst S.length) (.ref p):=.lst (by rw[<-rep.len];simp)
theorem bf{ds:List D}{vs:List V}{Q:VK}(c:cont K E (bo ds) ι S H (ku K Q))(rep:Rep K ι H S)(r:RelDs K ι H ds vs):vs.length<=lim/\∀ p,H p=none->Q (.ref p) (upd H p (.lst vs)):=
 let ⟨h1,h2⟩:=xD c rep r
 ⟨h1,fun p hp=>h2 p hp _ (zw rep)⟩
theorem fU{ds:List D}{vs:List V}{Q:VK}(c:cont K E (bY ds) ι S H (ku K Q))(rep:Rep K ι H S)(r:RelDs K ι H ds vs):vs.length<=lim/\∀ p,H p=none->Q (.ref p) (upd H p (.tup vs)):=by
 unfold bY at c
 split at c
 ·next hl=>
  refine⟨by rw[<-r.length];exact hl,fun p hp=>?_⟩
  exact ai c (dR hp) (eV rep hp) _ (.tup aL (r.later rep (dR hp)))
 ·exact(ag c).elim
theorem iB{ds:List D}{vs:List V}{a:Addr}{Q:VK}(c:cont K E (bY ds) ι S H (ku K Q))(rep:Rep K ι H S)(h:H a=some (.tup vs))(r:RelDs K ι H ds vs):Q (.ref a) H:=by
 unfold bY at c
 split at c
 ·exact ai c .refl rep _ (.tup h r)
 ·exact(ag c).elim
theorem aX{k:Nat}{a:Addr}{f:List D->M α}{Q:α->List Addr->aj->Hp->Prop}(c:cont K E (getL k>>=f) ι S H Q)(rep:Rep K ι H S)(hk:ι[k]? =some a):
  ∃ ds vs,S[k]? =some ds/\H a=some (.lst vs)/\RelDs K ι H ds vs/\cont K E (f ds) ι S H Q:=by
 obtain⟨r',S',e,q⟩:=ah c
 unfold getL at e
 cases z:S[k]? with
 |none=>rw[z]at e;cases e
 |some ds=>
  rw[z]at e
  cases e
  obtain⟨vs,h1,h2⟩:=rep.get k a ds hk z
  exact⟨ds,vs,rfl,h1,h2,q ι H .refl rep⟩
theorem g9{k:Nat}{a:Addr}{ds:List D}{vs:List V}{Q:D->List Addr->aj->Hp->Prop}(c:cont K E (jf k ds) ι S H Q)(rep:Rep K ι H S)(hk:ι[k]? =some a)(r:RelDs K ι H ds vs):
  vs.length<=lim/\Q .non ι (S.set k ds) (upd H a (.lst vs)):=by
 obtain⟨r',S',e,q⟩:=c
 unfold jf at e
 split at e
 ·next hl=>
  cases e
  exact⟨by rw[<-r.length];exact hl.1,q _ _ (qP (JM hk)) (qQ rep hk r)⟩
 ·cases e
end
section
variable {X:Cx}{E:XD}{a b e:Expr}{m n:TM}{pos:Pos}{rest es:List Expr}{ms:az->M (List D)}{t u:az->M Bool}
theorem lG{op}(h:SE X E a m):SE X E (.BoolOp op [a] pos) m:=DF h
theorem j6(ha:SE X E a m)(hb:SE X E (.BoolOp .And (b::rest) pos) n):SE X E (.BoolOp .And (a::b::rest) pos) (fun ρ=>do let x<-m ρ;let c<-iT x;if c=true then n ρ else pure (.bl false)):=by
 refine PE.imp (DG ha hb) fun σ H Q h=>?_
 obtain⟨ι,S,ρ,rep,re,c⟩:=h
 refine⟨ι,S,ρ,rep,re,ak (ah c) fun x ι1 S1 H1 e1 rep1 c1 v1 r1=>?_⟩
 obtain⟨k,rfl,rfl,c2⟩:=qR rep1 r1 c1
 refine⟨k,rfl,?_⟩
 cases k with
 |true=>exact⟨ι1,S1,ρ,rep1,re.later rep e1,c2⟩
 |false=>exact ai c2 .refl rep1 _ (.bl false)
theorem Ea(ha:SE X E a m):SE X E (.UnaryOp .Not a pos) (fun ρ=>do let x<-m ρ;let c<-iT x;pure (.bl (!c))):=by
 refine PE.imp (DH ha) fun σ H Q h=>?_
 obtain⟨ι,S,ρ,rep,re,c⟩:=h
 refine⟨ι,S,ρ,rep,re,ak (ah c) fun x ι1 S1 H1 e1 rep1 c1 v1 r1=>?_⟩
 obtain⟨k,rfl,rfl,c2⟩:=qR rep1 r1 c1
 exact⟨k,rfl,ai c2 .refl rep1 _ (.bl _)⟩
theorem Ge{c:Expr}(hc:SB X E c t)(ha:SE X E a m)(hb:SE X E b n):SE X E (.IfExp c a b pos) (fun ρ=>do let k<-t ρ;if k=true then m ρ else n ρ):=by
 refine PE.imp (yP hc ha hb) fun σ H Q h=>?_
 obtain⟨ι,S,ρ,rep,re,c⟩:=h
 refine⟨ι,S,ρ,rep,re,ak (ah c) fun k ι1 S1 H1 e1 rep1 c1=>?_⟩
 cases k with
 |true=>exact⟨ι1,S1,ρ,rep1,re.later rep e1,c1⟩
 |false=>exact⟨ι1,S1,ρ,rep1,re.later rep e1,c1⟩
theorem Gf{σ:St}{H:Hp}{Q:Bool->Hp->Prop}(h:xC X.K E (fun ρ=>do let x<-m ρ;iT x) σ H Q):tB (tM X.K E m) σ H Q:=by
 obtain⟨ι,S,ρ,rep,re,c⟩:=h
 refine⟨ι,S,ρ,rep,re,ak (ah c) fun x ι1 S1 H1 e1 rep1 c1 v1 r1=>?_⟩
 obtain⟨k,rfl,rfl,c2⟩:=nz rep1 r1 c1
 exact⟨k,rfl,c2⟩
theorem eM(h:SE X E e m)(he:∀ whole,isTrue e X.env whole=(do let v<-whole;standAt e.pos;holding [v] (truthy v)):=by intro _;rfl):SB X E e (fun ρ=>do let x<-m ρ;iT x):=
 PT.imp (DB h he) fun _ _ _ q=>Gf q
theorem nA{op:CmpOp}{f:D->D->M D}{r:R2}(h:iS X (compareOp op) r)(ho:sI X.K E f r)(ha:SE X E a m)(hb:SE X E b n)(hm:behindInMarks op b=false:=by first|exact sr _ (by decide) (by decide)|rfl):
  SB X E (.Compare a [op] [b] pos) (fun ρ=>do let z<-(do let x<-m ρ;let y<-n ρ;f x y);iT z):=
 PT.imp (BD h ha hb hm) fun σ H Q q=>by
  obtain⟨ι,S,ρ,rep,re,c⟩:=q
  refine BS ho (Q:=fun x H'=>∃ k,x= .bl k/\Q k H') ⟨ι,S,ρ,rep,re,ak (ah c) fun x ι1 S1 H1 e1 rep1 c1 v1 r1=>?_⟩
  obtain⟨k,rfl,rfl,c2⟩:=nz rep1 r1 c1
  exact⟨k,rfl,c2⟩
theorem gL(h:SB X E a t):SB X E (.UnaryOp .Not a pos) (fun ρ=>do let c<-t ρ;pure (!c)):=by
 refine PT.imp (DE h) fun σ H Q q=>?_
 obtain⟨ι,S,ρ,rep,re,c⟩:=q
 exact⟨ι,S,ρ,rep,re,ak (ah c) fun k ι1 S1 H1 e1 rep1 c1=>ai c1 .refl rep1⟩
theorem BU(h:SB X E a t):D8 X E (.BoolOp .And [a] pos) t:=Bt h
theorem uO(h:SB X E a t):D8 X E (.BoolOp .Or [a] pos) t:=DC h
theorem Eb(ha:SB X E a t)(hb:D8 X E (.BoolOp .And (b::rest) pos) u):D8 X E (.BoolOp .And (a::b::rest) pos) (fun ρ=>do let c<-t ρ;if c=true then u ρ else pure false):=by
 refine PW.imp (DD ha hb) fun σ H Q q=>?_
 obtain⟨ι,S,ρ,rep,re,c⟩:=q
 refine⟨ι,S,ρ,rep,re,ak (ah c) fun k ι1 S1 H1 e1 rep1 c1=>?_⟩
 cases k with
 |true=>exact⟨ι1,S1,ρ,rep1,re.later rep e1,c1⟩
 |false=>exact ai c1 .refl rep1
theorem v5(ha:SB X E a t)(hb:D8 X E (.BoolOp .Or (b::rest) pos) u):D8 X E (.BoolOp .Or (a::b::rest) pos) (fun ρ=>do let c<-t ρ;if c=true then pure true else u ρ):=by
 refine PW.imp (FH ha hb) fun σ H Q q=>?_
 obtain⟨ι,S,ρ,rep,re,c⟩:=q
 refine⟨ι,S,ρ,rep,re,ak (ah c) fun k ι1 S1 H1 e1 rep1 c1=>?_⟩
 cases k with
 |false=>exact⟨ι1,S1,ρ,rep1,re.later rep e1,c1⟩
 |true=>exact ai c1 .refl rep1
theorem BV(h:D8 X E e t):SB X E e t:=PW.pt h
theorem aq:SA X E [] (fun _=>pure []):=by
 refine PA.imp iy fun σ H Q q=>?_
 obtain⟨ι,S,ρ,rep,re,c⟩:=q
 exact ai c .refl rep _ .nil
theorem ae(ha:SE X E e m)(hr:SA X E es ms)(hs:starEach (e::es) X.env=(false,eval e X.env)::starEach es X.env:=by rfl):SA X E (e::es) (fun ρ=>do let x<-m ρ;let xs<-ms ρ;pure (x::xs)):=by
 refine PA.imp (dr ha hr hs) fun σ H Q q=>?_
 obtain⟨ι,S,ρ,rep,re,c⟩:=q
 refine⟨ι,S,ρ,rep,re,ak (ah c) fun x ι1 S1 H1 e1 rep1 c1 v1 r1=>?_⟩
 refine⟨ι1,S1,ρ,rep1,re.later rep e1,ak (ah c1) fun xs ι2 S2 H2 e2 rep2 c2 vs r2=>?_⟩
 exact ai c2 .refl rep2 _ (.cons (r1.later rep1 e2) r2)
theorem d6{x1}(h:SA X E es ms):SE X E (.Tuple es x1 pos) (fun ρ=>do let ds<-ms ρ;bY ds):=by
 refine PE.imp (yZ h) fun σ H Q q=>?_
 obtain⟨ι,S,ρ,rep,re,c⟩:=q
 refine⟨ι,S,ρ,rep,re,ak (ah c) fun x ι1 S1 H1 e1 rep1 c1 vs r1=>?_⟩
 obtain⟨h1,h2⟩:=fU c1 rep1 r1
 exact⟨Ju h1 fA,h2⟩
theorem bx(h:SA X E es ms):SE X E (.List es pos) (fun ρ=>do let ds<-ms ρ;bo ds):=by
 refine PE.imp (DX h) fun σ H Q q=>?_
 obtain⟨ι,S,ρ,rep,re,c⟩:=q
 refine⟨ι,S,ρ,rep,re,ak (ah c) fun x ι1 S1 H1 e1 rep1 c1 vs r1=>?_⟩
 obtain⟨h1,h2⟩:=bf c1 rep1 r1
 exact⟨Ju h1 fA,h2⟩
def jV(K:PySem.W.Frag)(E:XD)(f:List D->M D)(r:List V->Hp->VK->Prop):Prop:=
 ∀ ι S H ds vs Q,Rep K ι H S->RelDs K ι H ds vs->cont K E (f ds) ι S H (ku K Q)->r vs H Q
theorem Gg{f:List D->M D}{r:List V->Hp->VK->Prop}(ho:jV X.K E f r){σ:St}{H:Hp}{Q:VK}(h:tM X.K E (fun ρ=>do let ds<-ms ρ;f ds) σ H Q):HI r (HP X.K E ms) σ H Q:=by
 obtain⟨ι,S,ρ,rep,re,c⟩:=h
 exact⟨ι,S,ρ,rep,re,ak (ah c) fun ds ι1 S1 H1 e1 rep1 c1 vs r1=>ho ι1 S1 H1 ds vs Q rep1 r1 c1⟩
theorem hV{x:Str}{id:String}{f:List D->M D}{r:List V->Hp->VK->Prop}{p:Pos}(hc:cG X (.builtin id) r)(ho:jV X.K E f r)(hg:Gl X x)(hm:X.mg x=none)(hv:bootBuiltins x=some (.builtin id))(ha:SA X E (e::es) ms)
  (hn:x≠"__name__":=by decide) (hdb:(x==("__debug__":Str))=false:=by decide) (he:starEach (e::es) X.env=(false,eval e X.env)::starEach es X.env:=by rfl) (hpl:(backTo pos (starEach es X.env)).any (·.1)=false:=by rfl):
  SE X E (.Call (.Name x p) (e::es) [] pos) (fun ρ=>do let ds<-ms ρ;f ds):=
 PE.imp (gY hc hg hm hv ha hn hdb he hpl) fun _ _ _ q=>Gg ho q
theorem pY{x:Str}{T:String}{f:List D->M D}{r:List V->Hp->VK->Prop}{p:Pos}(hc:cG X (.type T) r)(ho:jV X.K E f r)(hg:Gl X x)(hm:X.mg x=none)(hv:bootBuiltins x=some (.type T))(ha:SA X E (e::es) ms)
  (hn:x≠"__name__":=by decide) (hdb:(x==("__debug__":Str))=false:=by decide) (he:starEach (e::es) X.env=(false,eval e X.env)::starEach es X.env:=by rfl) (hpl:(backTo pos (starEach es X.env)).any (·.1)=false:=by rfl):
  SE X E (.Call (.Name x p) (e::es) [] pos) (fun ρ=>do let ds<-ms ρ;f ds):=
 PE.imp (gZ hc hg hm hv ha hn hdb he hpl) fun _ _ _ q=>Gg ho q
abbrev bZ:XD:=fun _ _ _ _=>False
def IV(K:PySem.W.Frag)(F:List D->M D):Sp:=fun vs H Q _=>∃ ι S ds,Rep K ι H S/\RelDs K ι H ds vs/\cont K bZ (F ds) ι S H (ku K Q)
def G6(K:PySem.W.Frag)(E:XD)(f:D->List D->M D)(r:V->List V->Hp->VK->Prop):Prop:=
 ∀ ι S H d ds v vs Q,Rep K ι H S->RelD K ι H d v->RelDs K ι H ds vs->cont K E (f d ds) ι S H (ku K Q)->r v vs H Q
end
theorem eN{K:PySem.W.Frag}{E:XD}{α:Type}{c:M α}{ι ι':List Addr}{S:aj}{H H':Hp}{Q:α->List Addr->aj->Hp->Prop}(h:cont K E c ι S H Q)(e:Ext ι H ι' H'):cont K E c ι' S H' Q:=by
 obtain⟨r,S',q,k⟩:=h
 exact⟨r,S',q,fun ι2 H2 x2 rep2=>k ι2 H2 (e.trans x2) rep2⟩
section
variable {X:Cx}{E:XD}{st:Stmt}{sts:List Stmt}{m n:cq}{e:Expr}{me:TM}{t:az->M Bool}{pos:Pos}{g:i4}
def nB(o:Out)(n:cq):M Out:=match o with
 | .nx ρ=>n ρ
 | .ret d=>pure (.ret d)
 | .bk ρ=>pure (.bk ρ)
 | .ct ρ=>pure (.ct ρ)
theorem cH:sH X E [] (fun ρ=>pure (.nx ρ)):=by
 refine oY.imp Bu fun T σ H h=>?_
 obtain⟨ι,S,ρ,rep,re,c⟩:=h
 exact ai c .refl rep σ re
theorem aB(h1:SS X E st m)(h2:sH X E sts n):sH X E (st::sts) (fun ρ=>do let o<-m ρ;nB o n):=by
 refine oY.imp (su h1 h2) fun T σ H h=>?_
 obtain⟨ι,S,ρ,rep,re,c⟩:=h
 refine⟨ι,S,ρ,rep,re,ak (ah c) fun o ι1 S1 H1 e1 rep1 c1=>?_⟩
 cases o with
 |nx ρ'=>exact fun σ' re'=>⟨ι1,S1,ρ',rep1,re',c1⟩
 |ret d=>exact ai c1 .refl rep1
 |bk ρ'=>exact ai c1 .refl rep1
 |ct ρ'=>exact ai c1 .refl rep1
theorem aN(h1:SS X E st m):sH X E [st] m:=by
 refine oY.imp (qD h1) fun T σ H h=>h
theorem d7(he:SE X E e me)(hs:swapsWith e none pos.line X.env=pure false:=by rfl):SS X E (.Expr e pos) (fun ρ=>do let _<-me ρ;pure (.nx ρ)):=by
 refine PS.imp (Bv he hs) fun T σ H h=>?_
 obtain⟨ι,S,ρ,rep,re,c⟩:=h
 refine⟨ι,S,ρ,rep,re,ak (ah c) fun d ι1 S1 H1 e1 rep1 c1 v r=>?_⟩
 exact ai c1 .refl rep1 σ (re.later rep e1)
theorem aW(he:SE X E e me):SS X E (.Return (some e) pos) (fun ρ=>do let d<-me ρ;pure (.ret d)):=by
 refine PS.imp (DI he) fun T σ H h=>?_
 obtain⟨ι,S,ρ,rep,re,c⟩:=h
 exact⟨ι,S,ρ,rep,re,ak (ah c) fun d ι1 S1 H1 e1 rep1 c1=>ai c1 .refl rep1⟩
theorem dJ{a b:List Stmt}(hc:SB X E e t)(ha:sH X E a m)(hb:sH X E b n):SS X E (.If e a b pos) (fun ρ=>do let c<-t ρ;if c=true then m ρ else n ρ):=by
 refine PS.imp (FM hc ha hb) fun T σ H h=>?_
 obtain⟨ι,S,ρ,rep,re,c⟩:=h
 refine⟨ι,S,ρ,rep,re,ak (ah c) fun k ι1 S1 H1 e1 rep1 c1=>?_⟩
 cases k with
 |true=>exact⟨ι1,S1,ρ,rep1,re.later rep e1,c1⟩
 |false=>exact⟨ι1,S1,ρ,rep1,re.later rep e1,c1⟩
theorem a9(i:Nat){x:Str}(hN:X.N.Nodup)(hi:X.N[i]? =some x:=by rfl)(hx:Loc X.env.scope x:=by first|exact Or.inl rfl|exact Or.inr rfl)(hf:X.fn x=true\/X.env.scope.names.lookup x=some .local:=by first|exact .inl rfl|exact .inr rfl|assumption):
  SG X E (.Name x pos) (fun d ρ=>pure (ρ.set i (some d))):=by
 refine PG.imp (By hN hi hx hf) fun v σ H Q h=>?_
 obtain⟨ι,S,ρ,d,rep,re,r,c⟩:=h
 exact ai c .refl rep _ (re.set r i)
def HQ(K:PySem.W.Frag)(E:XD)(m:List D->az->M az):Bw:=fun vs σ H Q=>∃ ι S ρ ds,Rep K ι H S/\RelE K ι H ρ σ/\RelDs K ι H ds vs/\cont K E (m ds ρ) ι S H (fun ρ' ι' _ H'=>∀ σ',RelE K ι' H' ρ' σ'->Q σ' H')
def G7(X:Cx)(E:XD)(ts:List Expr)(m:List D->az->M az):Prop:=Bk X ts (HQ X.K E m)
theorem Bk.imp{X:Cx}{e:List Expr}{t t':Bw}(h:Bk X e t)(k:∀ v σ H Q,t' v σ H Q->t v σ H Q):Bk X e t':=fun pins s σ H v u Q I r hw=>h pins s σ H v u Q I r (k v σ H Q hw)
def hZ:List D->az->M az:=fun ds ρ=>match ds with
 |[]=>pure ρ
 |_=>M.fail
def cn(g:i4)(gs:List D->az->M az):List D->az->M az:=fun ds ρ=>match ds with
 |d::r=>do let ρ1<-g d ρ;gs r ρ1
 |_=>M.fail
theorem kH:G7 X E [] hZ:=by
 refine Bk.imp Bz fun vs σ H Q h=>?_
 obtain⟨ι,S,ρ,ds,rep,re,r,c⟩:=h
 cases ds with
 |nil=>exact⟨r.nil_inv,ai c .refl rep σ re⟩
 |cons d ds=>exact(ag c).elim
theorem dM{es:List Expr}{gs:List D->az->M az}(h1:SG X E e g)(h2:G7 X E es gs)(hs:(assignEach (e::es) X.env).map (·.2)=assign e X.env::(assignEach es X.env).map (·.2):=by rfl):G7 X E (e::es) (cn g gs):=by
 refine Bk.imp (yR h1 h2 hs) fun vs σ H Q h=>?_
 obtain⟨ι,S,ρ,ds,rep,re,r,c⟩:=h
 cases ds with
 |nil=>exact(ag c).elim
 |cons d ds=>
  obtain⟨v,ws,rfl,r1,r2⟩:=r.cons_inv
  refine⟨v,ws,rfl,ι,S,ρ,d,rep,re,r1,ak (ah c) fun ρ1 ι1 S1 H1 e1 rep1 c1 σ1 re1=>?_⟩
  exact⟨ι1,S1,ρ1,ds,rep1,re1,r2.later rep e1,c1⟩
def gy(n:Nat)(gs:List D->az->M az):i4:=fun d ρ=>match d with
 | .tup ds=>if ds.length=n then gs ds ρ else M.fail
 |_=>M.fail
theorem nD{es:List Expr}{k:Nat}{n:Nat}{gs:List D->az->M az}(hc:X.calm=true)(h:G7 X E es gs)(hn:(assignEach es X.env).length=n:=by rfl)(hst:(assignEach es X.env).findIdx? (·.1)=none:=by rfl):
  SG X E (.Tuple es k pos) (gy n gs):=by
 refine PG.imp (DJ hc h hn hst) fun v σ H Q q=>?_
 obtain⟨ι,S,ρ,d,rep,re,r,c⟩:=q
 cases d with
 |tup ds=>
  obtain⟨a,vs,rfl,h1,h2⟩:=r.tup_inv
  dsimp only[gy]at c
  split at c
  ·next hl=>exact⟨a,vs,rfl,j5.of h1,by rw[<-h2.length];exact hl,ι,S,ρ,ds,rep,re,h2,c⟩
  ·exact(ag c).elim
 |_=>exact(ag c).elim
theorem nE{tg:Expr}(he:SE X E e me)(hg:SG X E tg g)(hs:swapsWithSole [tg] e pos.line X.env=pure false:=by rfl)(hw:swappedStores [tg] e X.env=pure none:=by rfl)
  (h1:(assignEach [tg] X.env).map (·.2)=[assign tg X.env]:=by rfl):SS X E (.Assign [tg] e pos) (fun ρ=>do let d<-me ρ;let ρ'<-g d ρ;pure (.nx ρ')):=by
 refine PS.imp (DM he hg hs hw h1) fun T σ H h=>?_
 obtain⟨ι,S,ρ,rep,re,c⟩:=h
 refine⟨ι,S,ρ,rep,re,ak (ah c) fun d ι1 S1 H1 e1 rep1 c1 v r=>?_⟩
 exact⟨ι1,S1,ρ,d,rep1,re.later rep e1,r,ak (ah c1) fun ρ' ι2 S2 H2 e2 rep2 c2=>ai c2 .refl rep2⟩
theorem bc(i:Nat){x:Str}{pos':Pos}(hN:X.N.Nodup)(he:SE X E e me)(hi:X.N[i]? =some x:=by rfl)(hx:Loc X.env.scope x:=by first|exact Or.inl rfl|exact Or.inr rfl)(hs:swapsWith e (some (.Name x pos')) pos.line X.env=pure false:=by rfl)
  (hf:X.fn x=true\/X.env.scope.names.lookup x=some .local:=by first|exact .inl rfl|exact .inr rfl|assumption):SS X E (.Assign [.Name x pos'] e pos) (fun ρ=>do let d<-me ρ;pure (.nx (ρ.set i (some d)))):=by
 refine PS.imp (yS hN hi hx he hs hf) fun T σ H h=>?_
 obtain⟨ι,S,ρ,rep,re,c⟩:=h
 refine⟨ι,S,ρ,rep,re,ak (ah c) fun d ι1 S1 H1 e1 rep1 c1 v r=>?_⟩
 exact ai c1 .refl rep1 _ ((re.later rep e1).set r i)
def HR(K:PySem.W.Frag)(E:XD)(f:D->D->D->M Unit)(r:Bx):Prop:=
 ∀ ι S H d1 d2 d3 v1 v2 v3 Q,Rep K ι H S->RelD K ι H d1 v1->RelD K ι H d2 v2->RelD K ι H d3 v3->cont K E (f d1 d2 d3) ι S H (fun _ _ _ H'=>Q H')->r v1 v2 v3 H Q
def fj:D->D->D->M Unit:=fun o i v=>match o,i with
 | .lst k,.int j=>do
  let xs<-getL k
  match uG xs.length j with
  |some at'=>do let _<-jf k (xs.set at' v);pure ()
  |none=>M.fail
 |_,_=>M.fail
inductive Chk where
 |none|some (k:Nat)|two (k j:Nat) (xs ys:List D)
structure Iter where
 items:List D
 chk:Chk
def Iter.okS(it:Iter)(S:aj):Prop:=match it.chk with
 | .none=>True
 | .some k=>S[k]? = .some it.items
 | .two k j xs ys=>S[k]? = .some xs/\S[j]? = .some ys
open Classical in
def dX(it:Iter):M Unit:=fun S=>if it.okS S then some (.ok (),S)else none
def jg(K:PySem.W.Frag)(it:Iter)(J:It)(ι:List Addr)(H:Hp):Prop:=
 ∀ ι2 H2 S2,ExtN ι H ι2 H2->Rep K ι2 H2 S2->it.okS S2->∀ i,(∀ d,it.items[i]? =some d->J.go i H2/\∀ x H3,J.yld i H2 x H3->Ext ι2 H2 ι2 H3/\Rep K ι2 H3 S2/\RelD K ι2 H3 d x)/\(it.items.length<=i->J.stop i H2)
def Fo(K:PySem.W.Frag)(E:XD)(mi:az->M Iter):TI:=fun σ H R=>∃ ι S ρ,Rep K ι H S/\RelE K ι H ρ σ/\cont K E (mi ρ) ι S H (fun it ι' _ H'=>∀ J,jg K it J ι' H'->R J H')
def SI(X:Cx)(E:XD)(tg iter:Expr)(mi:az->M Iter):Prop:=PI X tg iter (Fo X.K E mi)
def dF(it:Iter)(g:i4)(b:cq):List D->az->M Out
 |[],ρ=>do dX it;pure (.nx ρ)
 |d::ds,ρ=>do
  dX it
  let ρ1<-g d ρ
  let o<-b ρ1
  match o with
  | .nx ρ'=>dF it g b ds ρ'
  | .ct ρ'=>dF it g b ds ρ'
  | .bk ρ'=>pure (.nx ρ')
  | .ret r=>pure (.ret r)
theorem ia{K:PySem.W.Frag}{ι:List Addr}{S:aj}{H:Hp}{α:Type}{it:Iter}{f:Unit->M α}{Q:α->List Addr->aj->Hp->Prop}(h:cont K E (dX it>>=f) ι S H Q)(rep:Rep K ι H S):it.okS S/\cont K E (f ()) ι S H Q:=by
 obtain⟨r,S',e,k⟩:=ah h
 unfold dX at e
 split at e
 ·next ho=>cases e;exact⟨ho,k ι H .refl rep⟩
 ·cases e
theorem iD{iter tg:Expr}{body:List Stmt}{mi:az->M Iter}{b:cq}(hp:PassesOwn (model X.prog X.w) X.A X.env X.xe)(hc:X.calm=true)(hi:SI X E tg iter mi)(hg:SG X E tg g)(hb:sH X E body b)
  (hs:∀ x,foldedSetIterable iter X.env x=pure x:=by intro _;rfl):SS X E (.For tg iter body [] pos) (fun ρ=>do let it<-mi ρ;dF it g b it.items ρ):=by
 refine PS.imp (DP hp hc hi hg hb hs) fun T σ H h=>?_
 obtain⟨ι,S,ρ,rep,re,c⟩:=h
 refine⟨ι,S,ρ,rep,re,ak (ah c) fun it ι1 S1 H1 e1 rep1 c1 J hJ=>?_⟩
 refine⟨fun i n σ' H'=>∃ ι2 S2 ρ2,n=it.items.length - i/\i<=it.items.length/\Ext ι1 H1 ι2 H'/\Rep X.K ι2 H' S2/\RelE X.K ι2 H' ρ2 σ'/\cont X.K E (dF it g b (it.items.drop i) ρ2) ι2 S2 H' (D9 X.K T),⟨_,ι1,S1,ρ,rfl,JE _,.refl,rep1,re.later rep e1,c1⟩,?_⟩
 rintro i n σ' H' ⟨ι2,S2,ρ2,hn,hi',e2,rep2,re2,c2⟩
 by_cases hlt:i<it.items.length
 ·have hd:it.items.drop i=it.items[i]::it.items.drop (i+1):=Lg hlt
  rw[hd]at c2
  have c2':cont X.K E (do dX it;let ρ1<-g it.items[i] ρ2;let o<-b ρ1;match o with| .nx ρ'=>dF it g b (it.items.drop (i+1)) ρ'| .ct ρ'=>dF it g b (it.items.drop (i+1)) ρ'| .bk ρ'=>pure (.nx ρ')| .ret r=>pure (.ret r)) ι2 S2 H' (D9 X.K T):=c2
  obtain⟨ok,c3⟩:=ia c2' rep2
  obtain⟨hgo,hst⟩:=hJ ι2 H' S2 e2.n rep2 ok i
  obtain⟨go,yl⟩:=hgo it.items[i] (Jk hlt)
  refine .inr ⟨go,fun σ'' H''=>∃ ι3 S3 ρ3,Ext ι1 H1 ι3 H''/\Rep X.K ι3 H'' S3/\RelE X.K ι3 H'' ρ3 σ''/\cont X.K E (dF it g b (it.items.drop (i+1)) ρ3) ι3 S3 H'' (D9 X.K T),?_,fun x H3 hy=>?_⟩
  ·rintro σ'' H'' ⟨ι3,S3,ρ3,e3,rep3,re3,c4⟩
   exact⟨_,by omega,ι3,S3,ρ3,rfl,hlt,e3,rep3,re3,c4⟩
  ·obtain⟨e3,rep3,rd⟩:=yl x H3 hy
   refine⟨ι2,S2,ρ2,it.items[i],rep3,re2.later rep2 e3,rd,ak (ah (eN c3 e3)) fun ρ4 ι4 S4 H4 e4 rep4 c4 σ4 re4=>?_⟩
   refine⟨ι4,S4,ρ4,rep4,re4,ak (ah c4) fun o ι5 S5 H5 e5 rep5 c5=>?_⟩
   have e15:Ext ι1 H1 ι5 H5:=e2.trans (e3.trans (e4.trans e5))
   cases o with
   |nx ρ'=>exact fun σ5 re5=>⟨ι5,S5,ρ',e15,rep5,re5,c5⟩
   |ct ρ'=>exact fun σ5 re5=>⟨ι5,S5,ρ',e15,rep5,re5,c5⟩
   |bk ρ'=>exact ai c5 .refl rep5
   |ret d=>exact ai c5 .refl rep5
 ·have hd:it.items.drop i=[]:=LP (by omega)
  rw[hd]at c2
  have c2':cont X.K E (do dX it;pure (.nx ρ2)) ι2 S2 H' (D9 X.K T):=c2
  obtain⟨ok,c3⟩:=ia c2' rep2
  exact .inl ⟨(hJ ι2 H' S2 e2.n rep2 ok i).2 (by omega),ai c3 .refl rep2 σ' re2⟩
def jh(t:az->M Bool)(b:cq):Nat->az->M Out
 |0,_=>M.fail
 | k+1,ρ=>do
  let c<-t ρ
  if c=true then do
   let o<-b ρ
   match o with
   | .nx ρ'=>jh t b k ρ'
   | .ct ρ'=>jh t b k ρ'
   | .bk ρ'=>pure (.nx ρ')
   | .ret r=>pure (.ret r)
  else pure (.nx ρ)
theorem zx(k:Nat){body:List Stmt}{b:cq}(hp:PassesOwn (model X.prog X.w) X.A X.env X.xe)(hc:SB X E e t)(hb:sH X E body b):SS X E (.While e body [] pos) (fun ρ=>jh t b k ρ):=by
 refine PS.imp (yT hp hc hb) fun T σ H h=>?_
 obtain⟨ι,S,ρ,rep,re,c⟩:=h
 refine⟨fun n σ' H'=>∃ ι2 S2 ρ2,Rep X.K ι2 H' S2/\RelE X.K ι2 H' ρ2 σ'/\cont X.K E (jh t b n ρ2) ι2 S2 H' (D9 X.K T),⟨k,ι,S,ρ,rep,re,c⟩,?_⟩
 rintro n σ' H' ⟨ι2,S2,ρ2,rep2,re2,c2⟩
 cases n with
 |zero=>exact(ag c2).elim
 | succ n=>
  refine⟨ι2,S2,ρ2,rep2,re2,ak (ah c2) fun k ι3 S3 H3 e3 rep3 c3=>?_⟩
  cases k with
  |false=>exact ai c3 .refl rep3 σ' (re2.later rep2 e3)
  |true=>
   refine⟨fun σ'' H''=>∃ ι2 S2 ρ2,Rep X.K ι2 H'' S2/\RelE X.K ι2 H'' ρ2 σ''/\cont X.K E (jh t b n ρ2) ι2 S2 H'' (D9 X.K T),fun σ'' H'' h=>⟨n,Lk _,h⟩,?_⟩
   refine⟨ι3,S3,ρ2,rep3,re2.later rep2 e3,ak (ah c3) fun o ι5 S5 H5 e5 rep5 c5=>?_⟩
   cases o with
   |nx ρ'=>exact fun σ5 re5=>⟨ι5,S5,ρ',rep5,re5,c5⟩
   |ct ρ'=>exact fun σ5 re5=>⟨ι5,S5,ρ',rep5,re5,c5⟩
   |bk ρ'=>exact ai c5 .refl rep5
   |ret d=>exact ai c5 .refl rep5
end
def cy(H:Hp)(p:Addr):Hp:=fun a=>if a=p then none else H a
theorem hide_ne{H:Hp}{p a:Addr}(h:a≠p):cy H p a=H a:=if_neg h
theorem jE{H:Hp}{p:Addr}:cy H p p=none:=if_pos rfl
theorem b8{H:Hp}{p a:Addr}{o:HO}(h:cy H p a=some o):a≠p/\H a=some o:=by
 by_cases e:a=p
 ·rw[e,jE]at h;cases h
 ·rw[hide_ne e]at h;exact⟨e,h⟩
theorem sJ{H:Hp}{p:Addr}{o:HO}(h:H p=some o):upd (cy H p) p o=H:=by
 funext a
 by_cases e:a=p
 ·rw[e,aL,h]
 ·rw[aA e,hide_ne e]
theorem dg{H:Hp}{p:Addr}{o:HO}:cy (upd H p o) p=cy H p:=by
 funext a
 by_cases e:a=p
 ·rw[e,jE,jE]
 ·rw[hide_ne e,hide_ne e,aA e]
theorem fV{H:Hp}{p:Addr}(h:H p=none):cy H p=H:=by
 funext a
 by_cases e:a=p
 ·rw[e,jE,h]
 ·rw[hide_ne e]
section
variable {K:PySem.W.Frag}{ι ι':List Addr}{H H':Hp}{S:aj}{p:Addr}
mutual
theorem RelD.hide{ws:List V}(hp:H p=some (.lst ws)):∀{d:D} {v:V},RelD K ι H d v->RelD K ι (cy H p) d v
 |_,_,.non=>.non
 |_,_,.bl b=>.bl b
 |_,_,.int i=>.int i
 |_,_,.str x=>.str x
 |_,_,.tup h hs=>.tup (by rw[hide_ne (fun z=>by rw[z,hp]at h;cases h)];exact h) (RelDs.hide hp hs)
 |_,_,.lst h=>.lst h
 |_,_,.ro h hs=>.ro (h.imp (fun⟨o,h⟩=>⟨o,by rw[hide_ne (fun z=>by rw[z,hp]at h;cases h)];exact h⟩) fun z=>z) (RelDs.hide hp hs)
 |_,_,.emp h=>.emp (by rw[hide_ne (fun z=>by rw[z,hp]at h;cases h)];exact h)
 |_,_,.fn h hs=>.fn (by rw[hide_ne (fun z=>by rw[z,hp]at h;cases h)];exact h) (RelDs.hide hp hs)
 |_,_,.exc n h=>.exc n (by rw[hide_ne (fun z=>by rw[z,hp]at h;cases h)];exact h)
 |_,_,.excF n h h2 hn hs=>.excF n (by rw[hide_ne (fun z=>by rw[z,hp]at h;cases h)];exact h) (by rw[hide_ne (fun z=>by rw[z,hp]at h2;cases h2)];exact h2) hn (RelDs.hide hp hs)
 |_,_,.fz h hs=>.fz (by rw[hide_ne (fun z=>by rw[z,hp]at h;cases h)];exact h) (RelDs.hide hp hs)
theorem RelDs.hide{ws:List V}(hp:H p=some (.lst ws)):∀{ds:List D} {vs:List V},RelDs K ι H ds vs->RelDs K ι (cy H p) ds vs
 |_,_,.nil=>.nil
 |_,_,.cons h hs=>.cons (RelD.hide hp h) (RelDs.hide hp hs)
end
mutual
theorem RelD.unhide:∀{d:D} {v:V},RelD K ι (cy H p) d v->RelD K ι H d v
 |_,_,.non=>.non
 |_,_,.bl b=>.bl b
 |_,_,.int i=>.int i
 |_,_,.str x=>.str x
 |_,_,.tup h hs=>.tup (b8 h).2 (RelDs.unhide hs)
 |_,_,.lst h=>.lst h
 |_,_,.ro h hs=>.ro (h.imp (fun⟨o,h⟩=>⟨o,(b8 h).2⟩) fun z=>z) (RelDs.unhide hs)
 |_,_,.emp h=>.emp (b8 h).2
 |_,_,.fn h hs=>.fn (b8 h).2 (RelDs.unhide hs)
 |_,_,.exc n h=>.exc n (b8 h).2
 |_,_,.excF n h h2 hn hs=>.excF n (b8 h).2 (b8 h2).2 hn (RelDs.unhide hs)
 |_,_,.fz h hs=>.fz (b8 h).2 (RelDs.unhide hs)
theorem RelDs.unhide:∀{ds:List D} {vs:List V},RelDs K ι (cy H p) ds vs->RelDs K ι H ds vs
 |_,_,.nil=>.nil
 |_,_,.cons h hs=>.cons (RelD.unhide h) (RelDs.unhide hs)
end
theorem RelE.hide{ws:List V}(hp:H p=some (.lst ws)):∀{ρ:az} {σ:St},RelE K ι H ρ σ->RelE K ι (cy H p) ρ σ
 |_,_,.nil=>.nil
 |_,_,.cons h t=>.cons (fun d z=>let ⟨v,e1,e2⟩:=h d z;⟨v,e1,e2.hide hp⟩) (RelE.hide hp t)
theorem RelE.unhide:∀{ρ:az} {σ:St},RelE K ι (cy H p) ρ σ->RelE K ι H ρ σ
 |_,_,.nil=>.nil
 |_,_,.cons h t=>.cons (fun d z=>let ⟨v,e1,e2⟩:=h d z;⟨v,e1,e2.unhide⟩) (RelE.unhide t)
theorem Rep.hide{ws:List V}(hp:H p=some (.lst ws))(hn:p ∉ ι)(r:Rep K ι H S):Rep K ι (cy H p) S:=
 ⟨r.nd,r.len,fun k a xs e1 e2=>let ⟨vs,h1,h2⟩:=r.get k a xs e1 e2;⟨vs,by rw[hide_ne (fun z=>hn (by rw[<-z];exact JM e1))];exact h1,h2.hide hp⟩,r.tab.mono fun b o h n=>by rw[hide_ne (fun z=>by subst z;rw[h]at hp;exact n ws (JI hp))];exact h⟩
theorem Rep.unhide(r:Rep K ι (cy H p) S):Rep K ι H S:=
 ⟨r.nd,r.len,fun k a xs e1 e2=>let ⟨vs,h1,h2⟩:=r.get k a xs e1 e2;⟨vs,(b8 h1).2,h2.unhide⟩,r.tab.mono fun b o h _=>(b8 h).2⟩
theorem Ext.hide(e:Ext ι H ι' H'):Ext ι (cy H p) ι' (cy H' p):=
 ⟨e.ids,fun a o h n t=>by
  obtain⟨h1,h2⟩:=b8 h
  obtain⟨h3,h4⟩:=e.oth a o h2 n t
  exact⟨by rw[hide_ne h1];exact h3,h4⟩⟩
theorem Ext.unhide(e:Ext ι H ι' (cy H' p)):Ext ι H ι' H':=
 ⟨e.ids,fun a o h n t=>by
  obtain⟨h3,h4⟩:=e.oth a o h n t
  exact⟨(b8 h3).2,h4⟩⟩
theorem eO{E:XD}{α:Type}{c:M α}{ws:List V}{Q:α->List Addr->aj->Hp->Prop}(h:cont K bZ c ι S (cy H p) Q)(hp:H p=some (.lst ws))(hn:p ∉ ι):
  cont K E c ι S H (fun a ι' S' H'=>H' p=some (.lst ws)/\p ∉ ι'/\Q a ι' S' (cy H' p)):=by
 obtain⟨r,S',e,k⟩:=h
 refine⟨r,S',e,fun ι' H' x rep=>?_⟩
 obtain⟨h1,h2⟩:=x.oth p _ hp hn (by intro _ z;cases z)
 have:=k ι' (cy H' p) x.hide (rep.hide h1 h2)
 cases r with
 |ok a=>exact⟨h1,h2,this⟩
 |ex y=>exact this.elim
end
def jS(js:List (Option Nat))(ρ:az):az:=js.map fun o=>o.bind fun j=>(ρ[j]?).join
theorem RelE.blk{K:PySem.W.Frag}{ι:List Addr}{H:Hp}{ρ:az}{σ:St}(re:RelE K ι H ρ σ):∀ js:List (Option Nat),RelE K ι H (jS js ρ) (mF js σ)
 |[]=>.nil
 |none::js=>.cons (fun d z=>by cases z) (RelE.blk re js)
 | some j::js=>.cons (fun d z=>by
   have z':(ρ[j]?).join=some d:=z
   have:ρ[j]? =some (some d):=by
    cases q:ρ[j]? with
    |none=>rw[q]at z';cases z'
    |some o=>rw[q]at z';exact Li some z'
   obtain⟨v,e1,e2⟩:=re.get this
   refine⟨v,?_,e2⟩
   show(σ[j]?).join=some v
   rw[e1];rfl) (RelE.blk re js)
def cI(it:Iter)(g:i4)(t:az->M Bool)(m:TM):List D->az->M (List D)
 |[],ρ=>do dX it;pure []
 | d::ds,ρ=>do
  dX it
  let ρ1<-g d ρ
  let b<-t ρ1
  if b=true then do
   let y<-m ρ1
   let ys<-cI it g t m ds ρ1
   pure (y::ys)
  else cI it g t m ds ρ1
def d8(it:Iter)(g:i4)(t:az->M Bool)(m:TM)(ρ:az):M (List D):=if it.items.length<=lim then cI it g t m it.items ρ else M.fail
def Fp(X:Cx)(E:XD)(ifs:List Expr)(t:az->M Bool):Prop:=Bo X ifs (xC X.K E t)
theorem iE{X:Cx}{E:XD}:Fp X E [] (fun _=>pure true):=fun pins s σ H Q I h=>BO pins s σ H Q I (by
 obtain⟨ι,S,ρ,rep,re,c⟩:=h
 exact ai c .refl rep)
theorem jF{X:Cx}{E:XD}{c:Expr}{t:az->M Bool}(h:SB X E c t):Fp X E [c] t:=BP h
section
variable {X:Cx}{scope:Scope}{Nc:List Str}{js:List (Option Nat)}{elt tg iter:Expr}{ifs:List Expr}{pos:Pos}{mi:az->M Iter}{g:i4}{t:az->M Bool}{m:TM}
theorem cJ{α β γ:Type}(c:M α)(f:α->M β)(h:β->M γ):((c>>=f)>>=h)=(c>>=fun a=>f a>>=h):=by
 funext S
 show M.bnd (M.bnd c f) h S=M.bnd c (fun a=>M.bnd (f a) h) S
 unfold M.bnd
 cases c S with
 |none=>rfl
 |some r=>
  obtain⟨r,S'⟩:=r
  cases r<;>rfl
theorem ao{α β:Type}(a:α)(f:α->M β):(pure a>>=f)=f a:=rfl
theorem v7{α β:Type}{c:Prop} [Decidable c](x y:M α)(f:α->M β):((if c then x else y)>>=f)=if c then x>>=f else y>>=f:=by split<;>rfl
theorem sL{σ:St}{H:Hp}{Q:VK}(h:tM X.K bZ (fun ρ=>do let it<-mi ρ;let ys<-d8 it g t m (jS js ρ);bo ys) σ H Q):
  vZ (Fo X.K bZ mi) js (Bq X.K bZ g) (xC X.K bZ t) (tM X.K bZ m) σ H Q:=by
 obtain⟨ι,S,ρ,rep,re,c⟩:=h
 refine⟨ι,S,ρ,rep,re,ak (ah c) fun it ι1 S1 H1 e1 rep1 c1 J hJ p hp=>?_⟩
 have hcl:it.items.length<=lim/\cont X.K bZ (cI it g t m it.items (jS js ρ)>>=fun ys=>bo ys) ι1 S1 H1 (ku X.K Q):=by
  have c1':cont X.K bZ ((if it.items.length<=lim then cI it g t m it.items (jS js ρ)else M.fail)>>=fun ys=>bo ys) ι1 S1 H1 (ku X.K Q):=c1
  by_cases h:it.items.length<=lim
  ·rw[if_pos h]at c1';exact⟨h,c1'⟩
  ·rw[if_neg h]at c1';exact(ag (ah c1')).elim
 obtain⟨hlen,c1⟩:=hcl
 have re1:RelE X.K ι1 H1 (jS js ρ) (mF js σ):=(re.later rep e1).blk js
 refine⟨fun i n σc Hc=>∃ ι2 S2 ρ2 xs vs,n=it.items.length - i/\i<=it.items.length/\Ext ι1 H1 ι2 (cy Hc p)/\Rep X.K ι2 (cy Hc p) S2/\RelE X.K ι2 (cy Hc p) ρ2 σc/\Hc p=some (.lst vs)/\p ∉ ι2/\RelDs X.K ι2 (cy Hc p) xs vs/\xs.length<=i/\
  cont X.K bZ (cI it g t m (it.items.drop i) ρ2>>=fun ys=>bo (xs++ys)) ι2 S2 (cy Hc p) (ku X.K Q),⟨_,ι1,S1,jS js ρ,[],[],rfl,JE _,?_,?_,?_,aL,rep1.free hp,.nil,JE _,?_⟩,?_⟩
 ·rw[dg,fV hp];exact .refl
 ·rw[dg,fV hp];exact rep1
 ·rw[dg,fV hp];exact re1
 ·rw[dg,fV hp];exact c1
 rintro i n σc Hc ⟨ι2,S2,ρ2,xs,vs,hn,hi',e2,rep2,re2,hpc,hpn,rx,hlim,c2⟩
 by_cases hlt:i<it.items.length
 ·have hd:it.items.drop i=it.items[i]::it.items.drop (i+1):=Lg hlt
  rw[hd]at c2
  have c2':cont X.K bZ (dX it>>=fun _=>g it.items[i] ρ2>>=fun ρ1=>t ρ1>>=fun b=>if b=true then m ρ1>>=fun y=>cI it g t m (it.items.drop (i+1)) ρ1>>=fun ys=>bo (xs++y::ys)else cI it g t m (it.items.drop (i+1)) ρ1>>=fun ys=>bo (xs++ys)) ι2 S2 (cy Hc p) (ku X.K Q):=by
   have:(cI it g t m (it.items[i]::it.items.drop (i+1)) ρ2>>=fun ys=>bo (xs++ys))=(dX it>>=fun _=>g it.items[i] ρ2>>=fun ρ1=>t ρ1>>=fun b=>if b=true then m ρ1>>=fun y=>cI it g t m (it.items.drop (i+1)) ρ1>>=fun ys=>bo (xs++y::ys)else cI it g t m (it.items.drop (i+1)) ρ1>>=fun ys=>bo (xs++ys)):=by
    show((dX it>>=fun _=>g it.items[i] ρ2>>=fun ρ1=>t ρ1>>=fun b=>if b=true then m ρ1>>=fun y=>cI it g t m (it.items.drop (i+1)) ρ1>>=fun ys=>pure (y::ys)else cI it g t m (it.items.drop (i+1)) ρ1)>>=fun ys=>bo (xs++ys))=_
    simp only[cJ,v7,ao]
   rw[<-this];exact c2
  obtain⟨ok,c3⟩:=ia c2' rep2
  obtain⟨hgo,hst⟩:=hJ ι2 Hc S2 e2.unhide.n rep2.unhide ok i
  obtain⟨go,yl⟩:=hgo it.items[i] (Jk hlt)
  refine .inr ⟨go,fun σ' H'=>∃ ι3 S3 ρ3 xs3 vs3,Ext ι1 H1 ι3 (cy H' p)/\Rep X.K ι3 (cy H' p) S3/\RelE X.K ι3 (cy H' p) ρ3 σ'/\H' p=some (.lst vs3)/\p ∉ ι3/\RelDs X.K ι3 (cy H' p) xs3 vs3/\xs3.length<=i+1/\
   cont X.K bZ (cI it g t m (it.items.drop (i+1)) ρ3>>=fun ys=>bo (xs3++ys)) ι3 S3 (cy H' p) (ku X.K Q),?_,fun x H3 hy=>?_⟩
  ·rintro σ' H' ⟨ι3,S3,ρ3,xs3,vs3,h1,h2,h3,h4,h5,h6,h7,h8⟩
   exact⟨_,by omega,ι3,S3,ρ3,xs3,vs3,rfl,hlt,h1,h2,h3,h4,h5,h6,h7,h8⟩
  ·obtain⟨e3,rep3,rd⟩:=yl x H3 hy
   obtain⟨hp3,_⟩:=e3.oth p _ hpc hpn (by intro _ z;cases z)
   have e3h:Ext ι2 (cy Hc p) ι2 (cy H3 p):=e3.hide
   have c4:=ah (eN c3 e3h)
   refine⟨ι2,S2,ρ2,it.items[i],rep3,re2.unhide.later rep2.unhide e3,rd,ak (eO (E:=bZ) c4 hp3 hpn) fun ρ4 ι4 S4 H4 e4 rep4 ⟨hp4,hn4,c5⟩ σ4 re4=>?_⟩
   have rep4h:Rep X.K ι4 (cy H4 p) S4:=rep4.hide hp4 hn4
   have e24:Ext ι2 (cy Hc p) ι4 (cy H4 p):=e3h.trans e4.hide
   refine⟨ι4,S4,ρ4,rep4,re4,ak (eO (E:=bZ) (ah c5) hp4 hn4) fun b ι5 S5 H5 e5 rep5 ⟨hp5,hn5,c6⟩=>?_⟩
   have rep5h:Rep X.K ι5 (cy H5 p) S5:=rep5.hide hp5 hn5
   have e25:Ext ι2 (cy Hc p) ι5 (cy H5 p):=e24.trans e5.hide
   have re5:RelE X.K ι5 H5 ρ4 σ4:=re4.later rep4 e5
   cases b with
   |false=>
    have c6':cont X.K bZ (cI it g t m (it.items.drop (i+1)) ρ4>>=fun ys=>bo (xs++ys)) ι5 S5 (cy H5 p) (ku X.K Q):=c6
    exact⟨ι5,S5,ρ4,xs,vs,e2.trans e25,rep5h,re5.hide hp5,hp5,hn5,rx.later rep2 e25,by omega,c6'⟩
   |true=>
    have c6':cont X.K bZ (m ρ4>>=fun y=>cI it g t m (it.items.drop (i+1)) ρ4>>=fun ys=>bo (xs++y::ys)) ι5 S5 (cy H5 p) (ku X.K Q):=c6
    refine⟨ι5,S5,ρ4,rep5,re5,ak (eO (E:=bZ) (ah c6') hp5 hn5) fun y ι6 S6 H6 e6 rep6 ⟨hp6,hn6,c7⟩ yv ry=>?_⟩
    have e26:Ext ι2 (cy Hc p) ι6 (cy H6 p):=e25.trans e6.hide
    have rep6h:Rep X.K ι6 (cy H6 p) S6:=rep6.hide hp6 hn6
    have rx6:=rx.later rep2 e26
    have hl:vs.length<sizeLine:=by rw[<-rx6.length];exact Mu (by omega) zv
    refine⟨vs,hp6,hl,ι6,S6,ρ4,xs++[y],vs++[yv],?_⟩
    rw[dg]
    refine⟨e2.trans e26,rep6h,(re5.later rep5 e6).hide hp6,aL,hn6,rx6.append (.cons (ry.hide hp6) .nil),by simp;omega,by simpa using c7⟩
 ·have hd:it.items.drop i=[]:=LP (by omega)
  rw[hd]at c2
  have c2':cont X.K bZ (dX it>>=fun _=>bo (xs++[])) ι2 S2 (cy Hc p) (ku X.K Q):=by
   have:(cI it g t m [] ρ2>>=fun ys=>bo (xs++ys))=(dX it>>=fun _=>bo (xs++[])):=by
    show((dX it>>=fun _=>pure [])>>=fun ys=>bo (xs++ys))=_
    simp only[cJ,ao]
   rw[<-this];exact c2
  obtain⟨ok,c3⟩:=ia c2' rep2
  rw[JV]at c3
  refine .inl ⟨(hJ ι2 Hc S2 e2.unhide.n rep2.unhide ok i).2 (by omega),?_⟩
  have:=(bf c3 rep2 rx).2 p jE
  rw[sJ hpc]at this
  exact this
theorem eW(c:CompScope X scope Nc js)(hc:X.calm=true)(hi:SI X bZ tg iter mi)
  (hin:∀ C ex s H,SG (aR X scope Nc C ex s H) bZ tg g/\Fp (aR X scope Nc C ex s H) bZ ifs t/\SE (aR X scope Nc C ex s H) bZ elt m)
  (hs:∀ x,foldedSetIterable iter X.env x=pure x:=by intro _;rfl):SE X bZ (.ListComp elt [⟨tg,iter,ifs,0⟩] scope pos) (fun ρ=>do let it<-mi ρ;let ys<-d8 it g t m (jS js ρ);bo ys):=
 PE.imp (BQ (g:=Bq X.K bZ g) (tt:=xC X.K bZ t) (te:=tM X.K bZ m) c hc hi hin hs) fun _ _ _ q=>sL q
theorem uP(i:Nat){x:Str}{pos' cpos:Pos}(hN:X.N.Nodup)(c:CompScope X scope Nc js)(hc:X.calm=true)(hi:SI X bZ tg iter mi)
  (hin:∀ C ex s H,SG (aR X scope Nc C ex s H) bZ tg g/\Fp (aR X scope Nc C ex s H) bZ ifs t/\SE (aR X scope Nc C ex s H) bZ elt m)
  (hi':X.N[i]? =some x:=by rfl) (hx:Loc X.env.scope x:=by first|exact Or.inl rfl|exact Or.inr rfl)
  (hsw:swapsWith (.ListComp elt [⟨tg,iter,ifs,0⟩] scope cpos) (some (.Name x pos')) pos.line X.env=pure true:=by rfl)
  (hf:X.fn x=true\/X.env.scope.names.lookup x=some .local:=by first|exact .inl rfl|exact .inr rfl|assumption)
  (hs:∀ x,foldedSetIterable iter X.env x=pure x:=by intro _;rfl):SS X bZ (.Assign [.Name x pos'] (.ListComp elt [⟨tg,iter,ifs,0⟩] scope cpos) pos)
   (fun ρ=>do let d<-(do let it<-mi ρ;let ys<-d8 it g t m (jS js ρ);bo ys);pure (.nx (ρ.set i (some d)))):=by
 refine PS.imp (uL (g:=Bq X.K bZ g) (tt:=xC X.K bZ t) (te:=tM X.K bZ m) hN hi' hx c hc hi hin hsw hf hs) fun T σ H h=>?_
 obtain⟨ι,S,ρ,rep,re,c⟩:=h
 refine sL ⟨ι,S,ρ,rep,re,ak (ah c) fun d ι1 S1 H1 e1 rep1 c1 v r=>?_⟩
 exact ai c1 .refl rep1 _ ((re.later rep e1).set r i)
end
section
variable {P:Program}{w:World}{K:PySem.W.Frag}{mg:Str->Option Value}{base:Heap}
def outD:Out->M D
 | .nx _=>pure .non
 | .ret d=>pure d
 |_=>M.fail
def lH(N n:Nat)(m:cq):List D->M D:=fun ds=>if ds.length=n then do let o<-m (ds.map some++List.replicate (N - n) none);outD o else M.fail
end
def fW(f:Int->Int->M D):D->D->M D
 | .int i,.int j=>f i j
 |_,_=>M.fail
theorem gz{K:PySem.W.Frag}{E:XD}{g:Int->Int->V}{f:Int->Int->D}(hg:∀ ι H i j,RelD K ι H (f i j) (g i j)):sI K E (fW fun i j=>pure (f i j)) (Bl g):=by
 intro ι S H d1 d2 v1 v2 Q rep r1 r2 c
 cases d1<;>cases d2<;>first
  |exact(ag c).elim
  |exact⟨_,_,r1.int_inv,r2.int_inv,ai c .refl rep _ (hg _ _ _ _)⟩
theorem kI{K:PySem.W.Frag}{E:XD}{C:Int->Int->Prop} [∀ i j,Decidable (C i j)]{g:Int->Int->V}{f:Int->Int->D}(hg:∀ ι H i j,RelD K ι H (f i j) (g i j)):sI K E (fW fun i j=>if C i j then pure (f i j)else M.fail) (rI C g):=by
 intro ι S H d1 d2 v1 v2 Q rep r1 r2 c
 cases d1<;>cases d2<;>first
  |exact(ag c).elim
  | (next i j=>
    have c':cont K E (if C i j then pure (f i j)else M.fail) ι S H (ku K Q):=c
    by_cases h:C i j
    ·rw[if_pos h]at c'
     exact⟨_,_,r1.int_inv,r2.int_inv,h,ai c' .refl rep _ (hg _ _ _ _)⟩
    ·rw[if_neg h]at c'
     exact(ag c').elim)
def lI:D->D->M D:=fW fun i j=>pure (.int (i - j))
instance:∀ i j,Decidable (oZ i j):=fun i j=>inferInstanceAs (Decidable (_\/_))
instance:∀ i j,Decidable (uz i j):=fun i j=>inferInstanceAs (Decidable (_/\_))
instance:∀ i j,Decidable (yV i j):=fun i j=>inferInstanceAs (Decidable (_/\_))
def uQ:D->D->M D:=fW fun i j=>if oZ i j then pure (.int (i*j))else M.fail
def nF:D->D->M D:=fW fun i j=>if uz i j then pure (.int (i / j))else M.fail
def kJ:D->D->M D:=fW fun i j=>if 0<j then pure (.int (i % j))else M.fail
def sM:D->D->M D:=fW fun i j=>if yV i j then pure (.int (i ^ j.toNat))else M.fail
def cQ:D->D->M D
 | .int i,.int j=>pure (.int (i+j))
 | .tup xs,.tup ys=>bY (xs++ys)
 | .lst a,.lst b=>do let xs<-getL a;let ys<-getL b;bo (xs++ys)
 | .lst a,.fz ys=>do let xs<-getL a;bo (xs++ys)
 | .fz xs,.lst b=>do let ys<-getL b;bo (xs++ys)
 | .fz xs,.fz ys=>bo (xs++ys)
 |_,_=>M.fail
def Br:D->D->M D:=fW fun i j=>pure (.bl (decide (i<=j)))
def BW:D->D->M D:=fW fun i j=>pure (.bl (decide (j<i)))
def HS:D->D->M D:=fW fun i j=>pure (.bl (decide (j<=i)))
section
variable {X:Cx}{E:XD}{a b e c:Expr}{m n l:TM}{pos:Pos}
theorem j7(ha:SE X E a m)(hb:SE X E b n):SE X E (.BinOp a .Sub b pos) (fun ρ=>do let x<-m ρ;let y<-n ρ;lI x y):=pX DS (gz fun _ _ _ _=>.int _) ha hb
theorem nG(ha:SE X E a m)(hb:SE X E b n):SE X E (.BinOp a .Mult b pos) (fun ρ=>do let x<-m ρ;let y<-n ρ;uQ x y):=pX DT (kI fun _ _ _ _=>.int _) ha hb
theorem qS(ha:SE X E a m)(hb:SE X E b n):SE X E (.BinOp a .FloorDiv b pos) (fun ρ=>do let x<-m ρ;let y<-n ρ;nF x y):=pX BB (kI fun _ _ _ _=>.int _) ha hb
theorem ji(ha:SE X E a m)(hb:SE X E b n):SE X E (.BinOp a .Mod b pos) (fun ρ=>do let x<-m ρ;let y<-n ρ;kJ x y):=pX DU (kI (C:=fun _ j=>0<j) fun _ _ _ _=>.int _) ha hb
theorem uR(ha:SE X E a m)(hb:SE X E b n):SE X E (.BinOp a .Pow b pos) (fun ρ=>do let x<-m ρ;let y<-n ρ;sM x y):=pX DV (kI fun _ _ _ _=>.int _) ha hb
theorem zy:iS X (binaryOp .Add) (fun x y H Q=>∃ a b ys,x= .ref a/\y= .ref b/\j5 X.K H a []/\j5 X.K H b ys/\Q (.ref b) H):=by
 intro pins s σ H x y v u Q I rx ry h
 obtain⟨a,b,ys,rfl,rfl,ha,hb,q⟩:=h
 cases rx
 cases ry
 obtain⟨its,r1,p1,_⟩:=I.tuple ha
 obtain⟨its2,r2,p2,_⟩:=I.tuple hb
 cases r1
 obtain⟨⟨cls,dd,data,sl⟩,ho,hc,n,hd⟩:=id p1
 obtain⟨⟨cls2,dd2,data2,sl2⟩,ho2,hc2,n2,hd2⟩:=id p2
 simp only at hc hd hc2 hd2
 subst hc hd hc2 hd2
 exact concat_meets ⟨_,ho,rfl⟩ ⟨_,ho2,rfl⟩ MQ seq_tuple_add LN Lz (Lq _ _)
  (tuple_addW0 a b #[] its2.toArray n n2 dd dd2 sl sl2 (by simp)) ⟨ho,ho2,⟨.ref b,H,I,rfl,q⟩⟩
theorem Inv.lstR{X:Cx}{pins:List (Addr×Obj)}{σ:L2.St}{H:Hp}{s:Shared}{l:Addr}{xs:List V}(I:L2.Inv X pins σ H s)(hH:Rd H l (.lst xs)):xs.length<=sizeLine/\∃(its:List Value) (n:Nat),aZ xs its/\xs.length=its.length/\s.heap.get? l=some {cls:=.type "list",data:=.seq its.toArray n}:=by
 obtain⟨z,its,n,r,e⟩:=hH.ok I.hok
 exact⟨z,its,n,r,r.length,e⟩
def Gh:R2:=fun x y H Q=>∃ l b xs zs,x= .ref l/\y= .ref b/\Rd H l (.lst xs)/\Rd H b (.lst zs)/\xs.length+zs.length<=sizeLine/\∀ p,H p=none->Q (.ref p) (upd H p (.lst (xs++zs)))
theorem BX:iS X (binaryOp .Add) Gh:=by
 intro pins s σ H x y v u Q I rx ry h
 obtain⟨l,b,xs,zs,rfl,rfl,hH,hB,hz,q⟩:=h
 cases rx
 cases ry
 obtain⟨z,its,n,r,hl,e⟩:=Inv.lstR I hH
 obtain⟨z2,its2,n2,r2,hl2,e2⟩:=Inv.lstR I hB
 refine PySem.P.add_list e e2 ?_ (by rw[Jt,Jt];omega)
 have ea:its.toArray++its2.toArray=(its++its2).toArray:=by simp
 rw[ea]
 exact⟨.ref _,_,I.lnew (t':=s.toks) (r.append r2) (by rw[Js];omega),rfl,q _ I.fresh⟩
theorem dh(ha:SE X E a m)(hb:SE X E b n):SE X E (.BinOp a .Add b pos) (fun ρ=>do let x<-m ρ;let y<-n ρ;cQ x y):=by
 refine pX (DR.or (BI.or (zy.or BX))) ?_ ha hb
 intro ι S H d1 d2 v1 v2 Q rep r1 r2 c
 cases d1<;>cases d2<;>first
  |exact(ag c).elim
  |exact .inl ⟨_,_,r1.int_inv,r2.int_inv,ai c .refl rep _ (.int _)⟩
  | (next xs ys=>
    obtain⟨p,vs,rfl,h1,q1⟩:=r1.tup_inv
    obtain⟨q,ws,rfl,h2,q2⟩:=r2.tup_inv
    obtain⟨hl,hq⟩:=fU c rep (q1.append q2)
    rw[Js]at hl
    cases vs with
    |nil=>
     refine .inr (.inr (.inl ⟨p,q,ws,rfl,rfl,.of h1,.of h2,?_⟩))
     exact iB c rep h2 (q1.append q2)
    |cons v vs=>
     refine .inr (.inl ⟨p,q,v::vs,ws,rfl,rfl,.of h1,.of h2,by simp,Ju hl fA,fun z=>?_,fun _=>hq⟩)
     subst z
     have:=q1.append q2
     rw[JV]at this
     exact iB c rep h1 this)
  | (next j k=>
    obtain⟨p,rfl,h1⟩:=r1.lst_inv
    obtain⟨q,rfl,h2⟩:=r2.lst_inv
    obtain⟨ds,vs,_,hv,rv,c1⟩:=aX c rep h1
    obtain⟨es,ws,_,hw,rw',c2⟩:=aX c1 rep h2
    obtain⟨hl,hq⟩:=bf c2 rep (rv.append rw')
    rw[Js]at hl
    exact .inr (.inr (.inr ⟨p,q,vs,ws,rfl,rfl,.inl hv,.inl hw,Ju hl fA,hq⟩)))
  | (next j ys=>
    obtain⟨p,rfl,h1⟩:=r1.lst_inv
    obtain⟨q,o2,ws,rfl,h2,rw'⟩:=r2.fz_inv
    obtain⟨ds,vs,_,hv,rv,c1⟩:=aX c rep h1
    obtain⟨hl,hq⟩:=bf c1 rep (rv.append rw')
    rw[Js]at hl
    exact .inr (.inr (.inr ⟨p,q,vs,ws,rfl,rfl,.inl hv,.inr ⟨o2,h2⟩,Ju hl fA,hq⟩)))
  | (next xs k=>
    obtain⟨p,o1,vs,rfl,h1,rv⟩:=r1.fz_inv
    obtain⟨q,rfl,h2⟩:=r2.lst_inv
    obtain⟨es,ws,_,hw,rw',c2⟩:=aX c rep h2
    obtain⟨hl,hq⟩:=bf c2 rep (rv.append rw')
    rw[Js]at hl
    exact .inr (.inr (.inr ⟨p,q,vs,ws,rfl,rfl,.inr ⟨o1,h1⟩,.inl hw,Ju hl fA,hq⟩)))
  | (next xs ys=>
    obtain⟨p,o1,vs,rfl,h1,rv⟩:=r1.fz_inv
    obtain⟨q,o2,ws,rfl,h2,rw'⟩:=r2.fz_inv
    obtain⟨hl,hq⟩:=bf c rep (rv.append rw')
    rw[Js]at hl
    exact .inr (.inr (.inr ⟨p,q,vs,ws,rfl,rfl,.inr ⟨o1,h1⟩,.inr ⟨o2,h2⟩,Ju hl fA,hq⟩)))
theorem v8(ha:SE X E a m)(hb:SE X E b n):SB X E (.Compare a [.Gt] [b] pos) (fun ρ=>do let z<-(do let x<-m ρ;let y<-n ρ;BW x y);iT z):=nA FX (gz fun _ _ _ _=>.bl _) ha hb
theorem Gi(ha:SE X E a m)(hb:SE X E b n):SB X E (.Compare a [.GtE] [b] pos) (fun ρ=>do let z<-(do let x<-m ρ;let y<-n ρ;HS x y);iT z):=nA FY (gz fun _ _ _ _=>.bl _) ha hb
def intsOf:List D->Option (List Int)
 |[]=>some []
 | .int i::r=>(intsOf r).map (i::·)
 |_=>none
theorem eP{K:PySem.W.Frag}{ι:List Addr}{H:Hp}:∀{ds:List D} {vs:List V} {ns:List Int},RelDs K ι H ds vs->intsOf ds=some ns->vs=ns.map V.int
 |[],vs,ns,h,e=>by cases e;rw[h.nil_inv];rfl
 | .int i::ds,vs,ns,h,e=>by
  obtain⟨v,ws,rfl,r1,r2⟩:=h.cons_inv
  cases q:intsOf ds with
  |none=>simp[intsOf,q]at e
  |some ks=>
   simp[intsOf,q]at e
   subst e
   rw[r1.int_inv,eP r2 q];rfl
 | .non::_,_,_,_,e=>by cases e
 | .bl _::_,_,_,_,e=>by cases e
 | .str _::_,_,_,_,e=>by cases e
 | .tup _::_,_,_,_,e=>by cases e
 | .lst _::_,_,_,_,e=>by cases e
 | .ro _::_,_,_,_,e=>by cases e
 | .fz _::_,_,_,_,e=>by cases e
 | .emp::_,_,_,_,e=>by cases e
def v9:D->D->M D
 | .int i,.int j=>pure (.bl (decide (i<j)))
 | .tup xs,.tup ys=>match intsOf xs,intsOf ys with
  |some ns,some ms=>pure (.bl (HT.lexLt ns ms))
  |_,_=>M.fail
 |_,_=>M.fail
theorem uS:sI X.K E v9 (fun x y H Q=>Bl (fun i j=>.bl (decide (i<j))) x y H Q\/F6 X.K x y H Q):=by
 intro ι S H d1 d2 v1 v2 Q rep r1 r2 c
 cases d1<;>cases d2<;>first
  |exact(ag c).elim
  |exact .inl ⟨_,_,r1.int_inv,r2.int_inv,ai c .refl rep _ (.bl _)⟩
  | (next xs ys=>
    obtain⟨p,vs,rfl,h1,q1⟩:=r1.tup_inv
    obtain⟨q,ws,rfl,h2,q2⟩:=r2.tup_inv
    dsimp only[v9]at c
    split at c
    ·next ns ms e1 e2=>
     refine .inr ⟨p,q,ns,ms,rfl,rfl,.of (by rw[<-eP q1 e1];exact h1),.of (by rw[<-eP q2 e2];exact h2),ai c .refl rep _ (.bl _)⟩
    ·exact(ag c).elim)
theorem De(hu:X.A.units<cLine)(ha:SE X E a m)(hb:SE X E b n):SE X E (.Compare a [.Lt] [b] pos) (fun ρ=>do let x<-m ρ;let y<-n ρ;v9 x y):=uN (yW.or (uF hu)) uS ha hb
theorem zz(hu:X.A.units<cLine)(ha:SE X E a m)(hb:SE X E b n):SB X E (.Compare a [.Lt] [b] pos) (fun ρ=>do let z<-(do let x<-m ρ;let y<-n ρ;v9 x y);iT z):=nA (yW.or (uF hu)) uS ha hb
theorem sN{f g:D->D->M D}{r r':R2}(hf:sI X.K E f r)(hg:sI X.K E g r'){σ:St}{H:Hp}{Q:VK}
  (h:tM X.K E (fun ρ=>do let x<-m ρ;let y<-n ρ;let z<-f x y;let k<-iT z;if k=true then do let w<-l ρ;g y w else pure (.bl false)) σ H Q):uA r r' (tM X.K E m) (tM X.K E n) (tM X.K E l) σ H Q:=by
 obtain⟨ι,S,ρ,rep,re,c⟩:=h
 refine⟨ι,S,ρ,rep,re,ak (ah c) fun x ι1 S1 H1 e1 rep1 c1 v1 r1=>?_⟩
 refine⟨ι1,S1,ρ,rep1,re.later rep e1,ak (ah c1) fun y ι2 S2 H2 e2 rep2 c2 v2 r2=>?_⟩
 refine hf ι2 S2 H2 x y v1 v2 _ rep2 (r1.later rep1 e2) r2 (ak (ah c2) fun z ι3 S3 H3 e3 rep3 c3 v3 r3=>?_)
 obtain⟨k,rfl,rfl,c4⟩:=qR rep3 r3 c3
 refine⟨k,rfl,?_⟩
 cases k with
 |true=>
  exact⟨ι3,S3,ρ,rep3,((re.later rep e1).later rep1 e2).later rep2 e3,ak (ah c4) fun w ι4 S4 H4 e4 rep4 c5 v4 r4=>hg ι4 S4 H4 y w v2 v4 Q rep4 ((r2.later rep2 e3).later rep3 e4) r4 c5⟩
 |false=>exact ai c4 .refl rep3 _ (.bl false)
theorem zA{op op':CmpOp}{f g:D->D->M D}{r r':R2}(h:iS X (compareOp op) r)(h':iS X (compareOp op') r')(hf:sI X.K E f r)(hg:sI X.K E g r')(ha:SE X E a m)(hb:SE X E b n)(hc:SE X E c l)
  (hm:lastMarks [op,op'] [b,c]=false:=by with_unfolding_all rfl):
  SE X E (.Compare a [op,op'] [b,c] pos) (fun ρ=>do let x<-m ρ;let y<-n ρ;let z<-f x y;let k<-iT z;if k=true then do let w<-l ρ;g y w else pure (.bl false)):=
 PE.imp (yX h h' ha hb hc hm) fun _ _ _ q=>sN hf hg q
theorem sO{op op':CmpOp}{f g:D->D->M D}{r r':R2}(h:iS X (compareOp op) r)(h':iS X (compareOp op') r')(hf:sI X.K E f r)(hg:sI X.K E g r')(ha:SE X E a m)(hb:SE X E b n)(hc:SE X E c l)
  (hm:lastMarks [op,op'] [b,c]=false:=by with_unfolding_all rfl):
  SB X E (.Compare a [op,op'] [b,c] pos) (fun ρ=>do let v<-(do let x<-m ρ;let y<-n ρ;let z<-f x y;let k<-iT z;if k=true then do let w<-l ρ;g y w else pure (.bl false));iT v):=
 PT.imp (yY h h' ha hb hc hm) fun σ H Q q=>by
  obtain⟨ι,S,ρ,rep,re,c⟩:=q
  refine sN hf hg (Q:=fun x H'=>∃ k,x= .bl k/\Q k H') ⟨ι,S,ρ,rep,re,ak (ah c) fun x ι1 S1 H1 e1 rep1 c1 v1 r1=>?_⟩
  obtain⟨k,rfl,rfl,c2⟩:=nz rep1 r1 c1
  exact⟨k,rfl,c2⟩
def eI:D->D->M D
 | .lst k,.int i=>do
  let xs<-getL k
  match i3 xs i with
  |some d=>pure d
  |none=>M.fail
 | .tup xs,.int i=>match i3 xs i with
  |some d=>pure d
  |none=>M.fail
 | .ro xs,.int i=>match i3 xs i with
  |some d=>pure d
  |none=>M.fail
 | .fz xs,.int i=>match i3 xs i with
  |some d=>pure d
  |none=>M.fail
 |_,_=>M.fail
theorem mR{K:PySem.W.Frag}{ι:List Addr}{H:Hp}{ds:List D}{vs:List V}{i:Int}{d:D}(h:RelDs K ι H ds vs)(e:i3 ds i=some d):∃ v,i3 vs i=some v/\RelD K ι H d v:=by
 unfold i3 at e ⊢
 rw[h.length]at e
 cases q:uG vs.length i with
 |none=>rw[q]at e;cases e
 |some j=>
  rw[q]at e
  exact h.get' e
theorem Ec:sI X.K E eI (IA X.K):=by
 intro ι S H d1 d2 v1 v2 Q rep r1 r2 c
 cases d1<;>cases d2<;>first
  |exact(ag c).elim
  | (next k i=>
    obtain⟨p,rfl,h1⟩:=r1.lst_inv
    obtain⟨ds,vs,_,hv,rv,c1⟩:=aX c rep h1
    cases q:i3 ds i with
    |none=>rw[q]at c1;exact(ag c1).elim
    |some d=>
     rw[q]at c1
     obtain⟨v,e1,e2⟩:=mR rv q
     exact .inl ⟨p,vs,i,v,rfl,r2.int_inv,.of hv,e1,ai c1 .refl rep _ e2⟩)
  | (next ds i=>
    obtain⟨p,vs,rfl,h1,rv⟩:=r1.tup_inv
    dsimp only[eI]at c
    cases q:i3 ds i with
    |none=>rw[q]at c;exact(ag c).elim
    |some d=>
     rw[q]at c
     obtain⟨v,e1,e2⟩:=mR rv q
     exact .inr (.inl ⟨p,vs,i,v,rfl,r2.int_inv,.of h1,e1,ai c .refl rep _ e2⟩))
  | (next ds i=>
    obtain⟨p,vs,rfl,h1,rv⟩:=r1.ro_inv
    dsimp only[eI]at c
    cases q:i3 ds i with
    |none=>rw[q]at c;exact(ag c).elim
    |some d=>
     rw[q]at c
     obtain⟨v,e1,e2⟩:=mR rv q
     exact .inl ⟨p,vs,i,v,rfl,r2.int_inv,h1.sq,e1,ai c .refl rep _ e2⟩)
  | (next ds i=>
    obtain⟨p,o,vs,rfl,h1,rv⟩:=r1.fz_inv
    dsimp only[eI]at c
    cases q:i3 ds i with
    |none=>rw[q]at c;exact(ag c).elim
    |some d=>
     rw[q]at c
     obtain⟨v,e1,e2⟩:=mR rv q
     exact .inl ⟨p,vs,i,v,rfl,r2.int_inv,.inl (.inr ⟨o,h1⟩),e1,ai c .refl rep _ e2⟩)
theorem aU(ha:SE X E a m)(hb:SE X E b n)(hs:qF b:=by intro _ _;rfl):SE X E (.Subscript a b pos) (fun ρ=>do let x<-m ρ;let y<-n ρ;eI x y):=Gd D4 Ec ha hb hs
end
mutual
inductive ReadsV(H:Hp):V->PyData->Prop where
 |non:ReadsV H .non .none
 |bl (b:Bool):ReadsV H (.bl b) (.bool b)
 |int (i:Int):ReadsV H (.int i) (.int i)
 |str (x:Str):ReadsV H (.str x) (.str x)
 |lst {a:Addr} {vs:List V} {ps:List PyData}:Rd H a (.lst vs)->ReadsVs H vs ps->ReadsV H (.ref a) (.list ps)
 |tup {a:Addr} {vs:List V} {ps:List PyData}:H a=some (.tup vs)->ReadsVs H vs ps->ReadsV H (.ref a) (.tuple ps)
inductive ReadsVs(H:Hp):List V->List PyData->Prop where
 |nil:ReadsVs H [] []
 |cons {v:V} {p:PyData} {vs:List V} {ps:List PyData}:ReadsV H v p->ReadsVs H vs ps->ReadsVs H (v::vs) (p::ps)
end
mutual
theorem ReadsV.heap{P:Program}{w:World}{H:Hp}{h:Heap}(ok:eU P w H h):∀{v:V} {p:PyData},ReadsV H v p->∀{u:Value},RelV v u->∃ as,Reads h u p as
 |_,_,.non,u,r=>by cases (show u=Value.none from r);exact⟨_,.none⟩
 |_,_,.bl b,u,r=>by cases (show u=Value.bool b from r);exact⟨_,.bool b⟩
 |_,_,.int i,u,r=>by obtain⟨t,rfl⟩:=(show ∃ t,u=Value.int i t from r);exact⟨_,.int i t⟩
 |_,_,.str x,u,r=>by obtain⟨t,rfl⟩:=(show ∃ t,u=Value.str x t from r);exact⟨_,.str x t⟩
 |_,_,@ReadsV.lst _ a vs ps h1 h2,u,r=>by
  cases (show u=Value.ref a from r)
  obtain⟨_,its,n,rv,e⟩:=(show aY P w H h a (.lst vs)from h1.ok ok)
  obtain⟨as,q⟩:=ReadsVs.heap ok h2 rv
  exact⟨_,.list e rfl rfl (by simpa using q)⟩
 |_,_,@ReadsV.tup _ a vs ps h1 h2,u,r=>by
  cases (show u=Value.ref a from r)
  obtain⟨_,its,rv,o,e,c,n,d⟩:=(show aY P w H h a (.tup vs)from ok a _ h1)
  obtain⟨as,q⟩:=ReadsVs.heap ok h2 rv
  exact⟨_,.tuple e c d (by simpa using q)⟩
theorem ReadsVs.heap{P:Program}{w:World}{H:Hp}{h:Heap}(ok:eU P w H h):∀{vs:List V} {ps:List PyData},ReadsVs H vs ps->∀{us:List Value},aZ vs us->∃ as,ReadsAll h us ps as
 |_,_,.nil,us,r=>by cases r;exact⟨_,.nil⟩
 | _,_,.cons h1 h2,us,r=>by
  cases r with
  |cons r1 r2=>
   obtain⟨as,q⟩:=ReadsV.heap ok h1 r1
   obtain⟨bs,q'⟩:=ReadsVs.heap ok h2 r2
   exact⟨_,.cons q q'⟩
end
def mapP(f:D->Option PyData):List D->Option (List PyData)
 |[]=>some []
 |d::ds=>match f d,mapP f ds with
  |some p,some ps=>some (p::ps)
  |_,_=>none
def i5(S:aj):Nat->D->Option PyData
 |_,.non=>some .none
 |_,.bl b=>some (.bool b)
 |_,.int i=>some (.int i)
 |_,.str x=>if PyData.strOk x=true then some (.str x)else none
 |n+1,.tup ds=>(mapP (i5 S n) ds).map .tuple
 |n+1,.lst k=>(S[k]?).bind fun xs=>(mapP (i5 S n) xs).map .list
 |n+1,.fz ds=>(mapP (i5 S n) ds).map .list
 |_,_=>none
section
variable {K:PySem.W.Frag}{ι:List Addr}{S:aj}{H:Hp}
theorem kK{f:D->Option PyData}{n:Nat}(hf:∀ d p v,f d=some p->RelD K ι H d v->ReadsV H v p/\p.canLay0=true/\p.depth<=n):
  ∀{ds:List D} {ps:List PyData} {vs:List V},mapP f ds=some ps->RelDs K ι H ds vs->ReadsVs H vs ps/\PyData.canLayAll0 ps=true/\PyData.depthAll ps<=n
 |[],ps,vs,e,r=>by
  cases e
  rw[r.nil_inv]
  exact⟨.nil,rfl,JE _⟩
 | d ::ds,ps,vs,e,r=>by
  obtain⟨v,ws,rfl,r1,r2⟩:=r.cons_inv
  unfold mapP at e
  cases q:f d with
  |none=>rw[q]at e;cases e
  | some p=>
   rw[q]at e
   cases q2:mapP f ds with
   |none=>rw[q2]at e;cases e
   | some ps'=>
    rw[q2]at e
    cases e
    obtain⟨h1,h2,h3⟩:=hf d p v q r1
    obtain⟨k1,k2,k3⟩:=kK hf q2 r2
    refine⟨.cons h1 k1,?_,?_⟩
    ·show(PyData.canLay0 p && PyData.canLayAll0 ps')=true
     rw[h2,k2];rfl
    ·show max p.depth (PyData.depthAll ps')<=n
     exact Nat.max_le.mpr ⟨h3,k3⟩
theorem mS(rep:Rep K ι H S):∀(n:Nat) (d:D) (p:PyData) (v:V),i5 S n d=some p->RelD K ι H d v->ReadsV H v p/\p.canLay0=true/\p.depth<=n:=by
 intro n
 induction n with
 | zero=>
  intro d p v e r
  cases d with
  |non=>cases e;rw[r.non_inv];exact⟨.non,rfl,Jj _⟩
  |bl b=>cases e;rw[r.bl_inv];exact⟨.bl b,rfl,Jj _⟩
  |int i=>cases e;rw[r.int_inv];exact⟨.int i,rfl,Jj _⟩
  |str x=>
   unfold i5 at e
   split at e
   ·next hs=>cases e;rw[r.str_inv];exact⟨.str x,hs,Jj _⟩
   ·cases e
  |_=>cases e
 | succ n ih=>
  intro d p v e r
  cases d with
  |non=>cases e;rw[r.non_inv];exact⟨.non,rfl,JE _⟩
  |bl b=>cases e;rw[r.bl_inv];exact⟨.bl b,rfl,JE _⟩
  |int i=>cases e;rw[r.int_inv];exact⟨.int i,rfl,JE _⟩
  |str x=>
   unfold i5 at e
   split at e
   ·next hs=>cases e;rw[r.str_inv];exact⟨.str x,hs,JE _⟩
   ·cases e
  | tup ds=>
   obtain⟨a,vs,rfl,h1,h2⟩:=r.tup_inv
   unfold i5 at e
   cases q:mapP (i5 S n) ds with
   |none=>rw[q]at e;cases e
   |some ps=>
    rw[q]at e;cases e
    obtain⟨k1,k2,k3⟩:=kK ih q h2
    exact⟨.tup h1 k1,k2,Lj k3⟩
  | lst k=>
   obtain⟨a,rfl,h1⟩:=r.lst_inv
   unfold i5 at e
   cases z:S[k]? with
   |none=>rw[z]at e;cases e
   | some xs=>
    rw[z]at e
    obtain⟨vs,h3,h2⟩:=rep.get k a xs h1 z
    cases q:mapP (i5 S n) xs with
    |none=>simp[q]at e
    |some ps=>
     simp[q]at e
     subst e
     obtain⟨k1,k2,k3⟩:=kK ih q h2
     exact⟨.lst (.inl h3) k1,k2,Lj k3⟩
  |ro ds=>cases e
  | fz ds=>
   obtain⟨a,o,vs,rfl,h1,h2⟩:=r.fz_inv
   unfold i5 at e
   cases q:mapP (i5 S n) ds with
   |none=>rw[q]at e;cases e
   |some ps=>
    rw[q]at e;cases e
    obtain⟨k1,k2,k3⟩:=kK ih q h2
    exact⟨.lst (.inr ⟨o,h1⟩) k1,k2,Lj k3⟩
  |emp=>cases e
  |fn a c q ds vs=>cases e
  |exc x ds=>cases e
end
def Fq(f:PyData->PyData->Bool):D->D->M D:=fun a b S=>match i5 S 60 a,i5 S 60 b with
 |some p,some q=>some (.ok (.bl (f p q)),S)
 |_,_=>none
def pB:D->D->M D:=Fq PyData.eqv
def ma:D->D->M D:=Fq fun p q=> !PyData.eqv p q
def HU(f:Bool->Bool):PyData->PyData->Option Bool
 |d,.list xs=>some (f (xs.any fun y=>PyData.eqv y d))
 |d,.tuple xs=>some (f (xs.any fun y=>PyData.eqv y d))
 |_,_=>none
def Gj(f:Bool->Bool):D->D->M D:=fun a b S=>match i5 S 60 a,i5 S 60 b with
 |some p,some q=>match HU f p q with
  |some r=>some (.ok (.bl r),S)
  |none=>none
 |_,_=>none
def inD:D->D->M D:=Gj id
section
variable {X:Cx}{E:XD}{a b e:Expr}{m n:TM}{pos:Pos}
def Ed(f:PyData->PyData->Bool):R2:=fun x y H Q=>∃ p q,(ReadsV H x p/\p.canLay0=true/\p.depth<=60)/\(ReadsV H y q/\q.canLay0=true/\q.depth<=60)/\Q (.bl (f p q)) H
theorem jG{p:PyData}(h:p.canLay0=true)(hd:p.depth<=60):SeqAt.shaped p=true:=by
 unfold SeqAt.shaped
 rw[h,Mf]
 exact JK (by omega)
theorem zB(hu:X.A.units+64<cLine):iS X (compareOp .Eq) (Ed PyData.eqv):=by
 intro pins s σ H x y v u Q I rx ry h
 obtain⟨p,q,⟨p1,p2,p3⟩,⟨q1,q2,q3⟩,h⟩:=h
 obtain⟨as,ra⟩:=p1.heap I.hok rx
 obtain⟨bs,rb⟩:=q1.heap I.hok ry
 exact eq_dataH ra rb (jG p2 p3) (jG q2 q3) hu ⟨.bl _,H,I,rfl,h⟩
theorem Ee(hu:X.A.units+64<cLine):iS X (compareOp .NotEq) (Ed fun p q=> !PyData.eqv p q):=by
 intro pins s σ H x y v u Q I rx ry h
 obtain⟨p,q,⟨p1,p2,p3⟩,⟨q1,q2,q3⟩,h⟩:=h
 obtain⟨as,ra⟩:=p1.heap I.hok rx
 obtain⟨bs,rb⟩:=q1.heap I.hok ry
 exact ne_dataH ra rb (jG p2 p3) (jG q2 q3) hu ⟨.bl _,H,I,rfl,h⟩
theorem qT{f:PyData->PyData->Bool}:sI X.K E (Fq f) (Ed f):=by
 intro ι S H d1 d2 v1 v2 Q rep r1 r2 c
 obtain⟨r,S',e,k⟩:=c
 unfold Fq at e
 split at e
 ·next p q hp hq=>
  cases e
  exact⟨p,q,mS rep 60 d1 p v1 hp r1,mS rep 60 d2 q v2 hq r2,k ι H .refl rep _ (.bl _)⟩
 ·cases e
theorem zD(hu:X.A.units+64<cLine)(ha:SE X E a m)(hb:SE X E b n):SE X E (.Compare a [.Eq] [b] pos) (fun ρ=>do let x<-m ρ;let y<-n ρ;pB x y):=uN (zB hu) qT ha hb
theorem zE(hu:X.A.units+64<cLine)(ha:SE X E a m)(hb:SE X E b n):SB X E (.Compare a [.Eq] [b] pos) (fun ρ=>do let z<-(do let x<-m ρ;let y<-n ρ;pB x y);iT z):=nA (zB hu) qT ha hb
theorem md(hu:X.A.units+64<cLine)(ha:SE X E a m)(hb:SE X E b n):SB X E (.Compare a [.NotEq] [b] pos) (fun ρ=>do let z<-(do let x<-m ρ;let y<-n ρ;ma x y);iT z):=nA (Ee hu) qT ha hb
def Gk(f:Bool->Bool):R2:=fun x y H Q=>∃ p q r,(ReadsV H x p/\p.canLay0=true/\p.depth<=60)/\(ReadsV H y q/\q.canLay0=true/\q.depth<=60)/\HU f p q=some r/\Q (.bl r) H
theorem BY{f:Bool->Bool}:sI X.K E (Gj f) (Gk f):=by
 intro ι S H d1 d2 v1 v2 Q rep r1 r2 c
 obtain⟨r,S',e,k⟩:=c
 unfold Gj at e
 split at e
 ·next p q hp hq=>
  split at e
  ·next r hr=>
   cases e
   exact⟨p,q,r,mS rep 60 d1 p v1 hp r1,mS rep 60 d2 q v2 hq r2,hr,k ι H .refl rep _ (.bl _)⟩
  ·cases e
 ·cases e
theorem uT{xs:List PyData}(h:(PyData.list xs).depth<=60):PyData.depthAll xs<=60:=LV h
theorem sP{xs:List PyData}(h:(PyData.tuple xs).depth<=60):PyData.depthAll xs<=60:=LV h
theorem Ef(hu:X.A.units+64<cLine):iS X (compareOp .In) (Gk id):=by
 intro pins s σ H x y v u Q I rx ry h
 obtain⟨p,q,r,⟨p1,p2,p3⟩,⟨q1,q2,q3⟩,hr,h⟩:=h
 obtain⟨as,ra⟩:=p1.heap I.hok rx
 obtain⟨bs,rb⟩:=q1.heap I.hok ry
 cases q with
 |list xs=>
  cases hr
  exact SeqAt.in_list_reads rb ra q2 p2 (by have:=uT q3;have:min (PyData.depthAll xs) p.depth<=60:=Ju (Nat.min_le_left _ _) this;omega) ⟨.bl _,H,I,rfl,h⟩
 |tuple xs=>
  cases hr
  exact SeqAt.in_tuple_reads rb ra q2 p2 (by have:=sP q3;have:min (PyData.depthAll xs) p.depth<=60:=Ju (Nat.min_le_left _ _) this;omega) ⟨.bl _,H,I,rfl,h⟩
 |_=>cases hr
theorem zF(hu:X.A.units+64<cLine)(ha:SE X E a m)(hb:SE X E b n)(hm:behindInMarks .In b=false:=by rfl):SE X E (.Compare a [.In] [b] pos) (fun ρ=>do let x<-m ρ;let y<-n ρ;inD x y):=uN (Ef hu) BY ha hb hm
end
section
variable {X:Cx}{E:XD}{a b e c:Expr}{m n l:TM}{pos p2:Pos}{es:List Expr}{ms:az->M (List D)}
def HV:D->M Int
 | .int i=>pure i
 |_=>M.fail
def IW(K:PySem.W.Frag)(E:XD)(m:az->M (Option Int)):TO:=fun σ H Q=>∃ ι S ρ,Rep K ι H S/\RelE K ι H ρ σ/\cont K E (m ρ) ι S H (fun o _ _ H'=>Q o H')
def SO(X:Cx)(E:XD)(o:Option Expr)(m:az->M (Option Int)):Prop:=PO X o (IW X.K E m)
theorem PO.imp{X:Cx}{e:Option Expr}{t t':TO}(h:PO X e t)(k:∀ σ H Q,t' σ H Q->t σ H Q):PO X e t':=fun pins s σ H Q I hw=>h pins s σ H Q I (k σ H Q hw)
theorem wa:SO X E none (fun _=>pure none):=by
 refine PO.imp BG fun σ H Q h=>?_
 obtain⟨ι,S,ρ,rep,re,c⟩:=h
 exact ai c .refl rep
theorem wb(h:SE X E e m):SO X E (some e) (fun ρ=>do let x<-m ρ;let i<-HV x;pure (some i)):=by
 refine PO.imp (BH h) fun σ H Q h=>?_
 obtain⟨ι,S,ρ,rep,re,c⟩:=h
 refine⟨ι,S,ρ,rep,re,ak (ah c) fun x ι1 S1 H1 e1 rep1 c1 v r=>?_⟩
 cases x with
 |int i=>exact⟨i,r.int_inv,ai (ai (ah c1) .refl rep1) .refl rep1⟩
 |_=>exact(ag (ah c1)).elim
def cutD(xs:List D)(lo hi:Option Int):List D:=(xs.drop (HT.sIx xs.length 0 lo)).take (HT.sIx xs.length xs.length hi - HT.sIx xs.length 0 lo)
theorem mT{K:PySem.W.Frag}{ι:List Addr}{H:Hp}{ds:List D}{vs:List V}(lo hi:Option Int)(h:RelDs K ι H ds vs):RelDs K ι H (cutD ds lo hi) (pq vs lo hi):=by
 unfold cutD pq
 rw[h.length]
 exact(h.drop _).take _
def zG:D->Option Int->Option Int->M D
 | .tup xs,lo,hi=>bY (cutD xs lo hi)
 | .lst k,lo,hi=>do let xs<-getL k;bo (cutD xs lo hi)
 | .fz xs,lo,hi=>bo (cutD xs lo hi)
 |_,_,_=>M.fail
theorem BZ:Dc X (fun x lo hi H Q=>∃ a xs,x= .ref a/\j5 X.K H a xs/\(HT.sIx xs.length 0 lo=0/\HT.sIx xs.length xs.length hi=xs.length)/\Q (.ref a) H):=by
 intro pins s σ H x v vl vu lo hi sl Q I rx hs pl pu h
 obtain⟨a,xs,rfl,hx,hw,q⟩:=h
 cases rx
 obtain⟨its,r,ht,hz⟩:=I.tuple hx
 have hlen:its.toArray.size=xs.length:=by rw[Jt];exact r.length.symm
 refine⟨"tuple",_,PyProof.Rows.slot_tuple_getitem.lookup,ht.typeIs,?_⟩
 have fin:EP X pins σ Q (.ref a) s:=⟨.ref a,H,I,rfl,q⟩
 obtain⟨os,hos,hcs,hds⟩:=id hs
 have hTs:s.TypeIs (.ref sl) "slice":=⟨os,hos,hcs⟩
 unfold getItem
 try with_reducible refine JX ?_
 first|refine Jg (Ji ?_)|skip
 refine Jg (wpAny_sequenceKey ht.typeIs (by decide) ?_)
 refine Jg (wpAny_callSpecial?_slot (name:=Str.ofString "__getitem__") ht.typeIs Ko
  (J9 Ko ht.typeIs entry_tuple_getitem ?_ (args_tuple_getitem _ _)))
 show wpAny _ _ (Builtin.Tuple.tupleItemsOf (.ref a)>>=_) _ _ s
 refine Jg (tupleItemsOf_ ht (Jg (Lr hTs ?_)))
 rw[if_pos (by decide)]
 refine Jg (HT.sliceApplied_gen hs pl pu ?_)
 rw[hlen,hw.1,hw.2]
 show wpAny _ _ (if ((((0:Nat):Int))==0 && (1:Int)==1 && (xs.length - 0)==xs.length)=true then _ else _) _ _ s
 rw[if_pos (by simp)]
 unfold Builtin.Tuple.tupleIsExact
 refine Jg (Jg (Lr ht.typeIs (Ji ?_)))
 rw[if_pos (by decide)]
 first
  |exact Jg (LW (Ji ⟨_,rfl,Ji fin⟩))
  |exact Jg (LW (Jg (Ji (Ji ⟨_,rfl,Ji fin⟩))))
theorem uU{xs:List V}{lo hi:Option Int}(h:HT.sIx xs.length 0 lo=0/\HT.sIx xs.length xs.length hi=xs.length):pq xs lo hi=xs:=by
 unfold pq
 rw[h.1,h.2,List.drop_zero,Nat.sub_zero,List.take_length]
theorem sQ{lo hi:Option Expr}{ml mh:az->M (Option Int)}(he:SE X E e m)(hl:SO X E lo ml)(hh:SO X E hi mh):
  SE X E (.Subscript e (.Slice lo hi none p2) pos) (fun ρ=>do let x<-m ρ;let i<-ml ρ;let j<-mh ρ;zG x i j):=by
 refine PE.imp (y9 (D0.or (BZ.or BK)) he hl hh) fun σ H Q h=>?_
 obtain⟨ι,S,ρ,rep,re,c⟩:=h
 refine⟨ι,S,ρ,rep,re,ak (ah c) fun x ι1 S1 H1 e1 rep1 c1 v r=>?_⟩
 refine⟨ι1,S1,ρ,rep1,re.later rep e1,ak (ah c1) fun i ι2 S2 H2 e2 rep2 c2=>?_⟩
 refine⟨ι2,S2,ρ,rep2,(re.later rep e1).later rep1 e2,ak (ah c2) fun j ι3 S3 H3 e3 rep3 c3=>?_⟩
 have r3:=(r.later rep1 e2).later rep2 e3
 cases x with
 | tup ds=>
  obtain⟨p,vs,rfl,h1,h2⟩:=r3.tup_inv
  by_cases hw:HT.sIx vs.length 0 i=0/\HT.sIx vs.length vs.length j=vs.length
  ·refine .inr (.inl ⟨p,vs,rfl,.of h1,hw,iB c3 rep3 h1 ?_⟩)
   have:=mT i j h2
   rw[uU hw]at this
   exact this
  ·exact .inl ⟨p,vs,rfl,.of h1,hw,(fU c3 rep3 (mT i j h2)).2⟩
 |lst k=>
  obtain⟨p,rfl,h1⟩:=r3.lst_inv
  obtain⟨ds,vs,_,hv,rv,c4⟩:=aX c3 rep3 h1
  exact .inr (.inr ⟨p,vs,rfl,.of hv,(bf c4 rep3 (mT i j rv)).2⟩)
 |fz ds=>
  obtain⟨p,o,vs,rfl,h1,rv⟩:=r3.fz_inv
  exact .inr (.inr ⟨p,vs,rfl,.inl (.inr ⟨o,h1⟩),(bf c3 rep3 (mT i j rv)).2⟩)
 |_=>exact(ag c3).elim
end
section
variable {X:Cx}{E:XD}{a b e c o:Expr}{m n l:TM}{pos p2:Pos}{es:List Expr}{ms:az->M (List D)}
def c9:List D->M D
 |[.lst k]=>do let xs<-getL k;pure (.int xs.length)
 |[.tup ds]=>pure (.int ds.length)
 |[.ro ds]=>pure (.int ds.length)
 |[.fz ds]=>pure (.int ds.length)
 |_=>M.fail
theorem xE:jV X.K E c9 (fun xs H Q=>∃ p ys,xs=[.ref p]/\(iY X.K H p ys\/j5 X.K H p ys)/\Q (.int ys.length) H):=by
 intro ι S H ds vs Q rep r c
 match ds,r,c with
 |[.lst k],r,c=>
  obtain⟨v,ws,rfl,r1,r2⟩:=r.cons_inv
  cases r2.nil_inv
  obtain⟨p,rfl,h1⟩:=r1.lst_inv
  obtain⟨es,us,_,hv,rv,c4⟩:=aX c rep h1
  refine⟨p,us,rfl,.inl (.of hv),?_⟩
  have:=ai c4 .refl rep _ (.int _)
  rw[rv.length]at this;exact this
 |[.tup es],r,c=>
  obtain⟨v,ws,rfl,r1,r2⟩:=r.cons_inv
  cases r2.nil_inv
  obtain⟨p,us,rfl,h1,rv⟩:=r1.tup_inv
  refine⟨p,us,rfl,.inr (.of h1),?_⟩
  have:=ai c .refl rep _ (.int _)
  rw[rv.length]at this;exact this
 |[.ro es],r,c=>
  obtain⟨v,ws,rfl,r1,r2⟩:=r.cons_inv
  cases r2.nil_inv
  obtain⟨p,us,rfl,h1,rv⟩:=r1.ro_inv
  refine⟨p,us,rfl,.inl h1.sq,?_⟩
  have:=ai c .refl rep _ (.int _)
  rw[rv.length]at this;exact this
 |[.fz es],r,c=>
  obtain⟨v,ws,rfl,r1,r2⟩:=r.cons_inv
  cases r2.nil_inv
  obtain⟨p,o,us,rfl,h1,rv⟩:=r1.fz_inv
  refine⟨p,us,rfl,.inl (.inl (.inr ⟨o,h1⟩)),?_⟩
  have:=ai c .refl rep _ (.int _)
  rw[rv.length]at this;exact this
 |[],r,c=>exact(ag c).elim
 |[.non],r,c=>exact(ag c).elim
 |[.bl _],r,c=>exact(ag c).elim
 |[.int _],r,c=>exact(ag c).elim
 |[.str _],r,c=>exact(ag c).elim
 |[.emp],r,c=>exact(ag c).elim
 |d::d2::r',r,c=>cases d<;>exact(ag c).elim
theorem d9{p:Pos}(hm:X.mg "len"=none)(ha:SE X E e m)(hg:Gl X "len":=by rfl)(hs:starEach [e] X.env=[(false,eval e X.env)]:=by rfl):SE X E (.Call (.Name "len" p) [e] [] pos) (fun ρ=>do let ds<-(do let x<-m ρ;let xs<-pure [];pure (x::xs));c9 ds):=
 hV qH xE hg hm PySem.boot_len (ae ha aq hs) (by decide) (by decide) hs rfl
def pZ(f:Int->Int->Int):List D->M D
 |[.int i,.int j]=>pure (.int (f i j))
 |_=>M.fail
theorem nH{f:Int->Int->Int}:jV X.K E (pZ f) (fun xs H Q=>∃ i j,xs=[.int i,.int j]/\Q (.int (f i j)) H):=by
 intro ι S H ds vs Q rep r c
 unfold pZ at c
 split at c
 ·next i j=>
  obtain⟨v,ws,rfl,r1,r2⟩:=r.cons_inv
  obtain⟨v',ws',rfl,r3,r4⟩:=r2.cons_inv
  cases r4.nil_inv
  rw[r1.int_inv,r3.int_inv]
  exact⟨i,j,rfl,ai c .refl rep _ (.int _)⟩
 ·exact(ag c).elim
def maxD:List D->M D:=pZ fun i j=>if j>i then j else i
def minD:List D->M D:=pZ fun i j=>if j<i then j else i
theorem uV{p:Pos}(hc:X.calm=true)(hm:X.mg "max"=none)(ha:SA X E [a,b] ms)(hg:Gl X "max":=by rfl)(hs:starEach [a,b] X.env=[(false,eval a X.env),(false,eval b X.env)]:=by rfl)(hs2:starEach [b] X.env=[(false,eval b X.env)]:=by rfl):
  SE X E (.Call (.Name "max" p) [a,b] [] pos) (fun ρ=>do let ds<-ms ρ;maxD ds):=
 hV (xq hc) nH hg hm (by decide+kernel) ha (by decide) (by decide) (by rw[hs,hs2]) (by rw[hs2];rfl)
theorem zH{p:Pos}(hc:X.calm=true)(hm:X.mg "min"=none)(ha:SA X E [a,b] ms)(hg:Gl X "min":=by rfl)(hs:starEach [a,b] X.env=[(false,eval a X.env),(false,eval b X.env)]:=by rfl)(hs2:starEach [b] X.env=[(false,eval b X.env)]:=by rfl):
  SE X E (.Call (.Name "min" p) [a,b] [] pos) (fun ρ=>do let ds<-ms ρ;minD ds):=
 hV (xr hc) nH hg hm (by decide+kernel) ha (by decide) (by decide) (by rw[hs,hs2]) (by rw[hs2];rfl)
def sR:List D->M D
 |[.lst k]=>do let xs<-getL k;bo xs
 |[.tup ds]=>bo ds
 |[.ro ds]=>bo ds
 |[.fz ds]=>bo ds
 |_=>M.fail
def cf:List D->M D
 |[.lst k]=>do let xs<-getL k;bY xs
 |[.tup ds]=>bY ds
 |[.fz ds]=>bY ds
 |_=>M.fail
theorem uW:jV X.K E sR (fun xs H Q=>∃ p ys,xs=[.ref p]/\(iY X.K H p ys\/j5 X.K H p ys)/\∀ l,H l=none->Q (.ref l) (upd H l (.lst ys))):=by
 intro ι S H ds vs Q rep r c
 unfold sR at c
 split at c
 ·next k=>
  obtain⟨v,ws,rfl,r1,r2⟩:=r.cons_inv
  cases r2.nil_inv
  obtain⟨p,rfl,h1⟩:=r1.lst_inv
  obtain⟨es,us,_,hv,rv,c4⟩:=aX c rep h1
  exact⟨p,us,rfl,.inl (.of hv),(bf c4 rep rv).2⟩
 ·next es=>
  obtain⟨v,ws,rfl,r1,r2⟩:=r.cons_inv
  cases r2.nil_inv
  obtain⟨p,us,rfl,h1,rv⟩:=r1.tup_inv
  exact⟨p,us,rfl,.inr (.of h1),(bf c rep rv).2⟩
 ·next es=>
  obtain⟨v,ws,rfl,r1,r2⟩:=r.cons_inv
  cases r2.nil_inv
  obtain⟨p,us,rfl,h1,rv⟩:=r1.ro_inv
  exact⟨p,us,rfl,.inl h1.sq,(bf c rep rv).2⟩
 ·next es=>
  obtain⟨v,ws,rfl,r1,r2⟩:=r.cons_inv
  cases r2.nil_inv
  obtain⟨p,o,us,rfl,h1,rv⟩:=r1.fz_inv
  exact⟨p,us,rfl,.inl (.inl (.inr ⟨o,h1⟩)),(bf c rep rv).2⟩
 ·exact(ag c).elim
theorem sS:jV X.K E cf (fun xs H Q=>∃ p ys,xs=[.ref p]/\((iY X.K H p ys/\∀ l,H l=none->Q (.ref l) (upd H l (.tup ys)))\/(j5 X.K H p ys/\Q (.ref p) H))):=by
 intro ι S H ds vs Q rep r c
 unfold cf at c
 split at c
 ·next k=>
  obtain⟨v,ws,rfl,r1,r2⟩:=r.cons_inv
  cases r2.nil_inv
  obtain⟨p,rfl,h1⟩:=r1.lst_inv
  obtain⟨es,us,_,hv,rv,c4⟩:=aX c rep h1
  exact⟨p,us,rfl,.inl ⟨.of hv,(fU c4 rep rv).2⟩⟩
 ·next es=>
  obtain⟨v,ws,rfl,r1,r2⟩:=r.cons_inv
  cases r2.nil_inv
  obtain⟨p,us,rfl,h1,rv⟩:=r1.tup_inv
  exact⟨p,us,rfl,.inr ⟨.of h1,iB c rep h1 rv⟩⟩
 ·next es=>
  obtain⟨v,ws,rfl,r1,r2⟩:=r.cons_inv
  cases r2.nil_inv
  obtain⟨p,o,us,rfl,h1,rv⟩:=r1.fz_inv
  exact⟨p,us,rfl,.inl ⟨.inl (.inr ⟨o,h1⟩),(fU c rep rv).2⟩⟩
 ·exact(ag c).elim
theorem B0{p:Pos}(hm:X.mg "list"=none)(ha:SE X E e m)(hg:Gl X "list":=by rfl)(hs:starEach [e] X.env=[(false,eval e X.env)]:=by rfl):SE X E (.Call (.Name "list" p) [e] [] pos) (fun ρ=>do let ds<-(do let x<-m ρ;let xs<-pure [];pure (x::xs));sR ds):=
 pY qI uW hg hm (by decide+kernel) (ae ha aq hs) (by decide) (by decide) hs rfl
theorem ib{p:Pos}(hm:X.mg "tuple"=none)(ha:SE X E e m)(hg:Gl X "tuple":=by rfl)(hs:starEach [e] X.env=[(false,eval e X.env)]:=by rfl):SE X E (.Call (.Name "tuple" p) [e] [] pos) (fun ρ=>do let ds<-(do let x<-m ρ;let xs<-pure [];pure (x::xs));cf ds):=
 pY pz sS hg hm (by decide+kernel) (ae ha aq hs) (by decide) (by decide) hs rfl
def B1(H:Hp):V->Option String
 | .non=>some "NoneType"
 | .bl _=>some "bool"
 | .int _=>some "int"
 | .str _=>some "str"
 | .ref a=>match H a with
  |some (.lst _)=>some "list"
  |some (.frz _ (.lst _))=>some "list"
  |some (.tup _)=>some "tuple"
  |some (.dK _)=>some "dict"
  |_=>none
 |_=>none
theorem zI{K:PySem.W.Frag}{H:Hp}{v:V}{T:String}(h:B1 H v=some T):TyOf K H v (.type T):=by
 cases v with
 |non=>cases h;exact .non
 |bl b=>cases h;exact .bl b
 |int i=>cases h;exact .int i
 |str x=>cases h;exact .str x
 |ref a=>
  simp only[B1]at h
  split at h
  ·next q=>cases h;exact .lst q
  ·next q=>cases h;exact .frz q
  ·next q=>cases h;exact .tup q
  ·next q=>cases h;exact .dK q
  ·cases h
 |_=>cases h
def zJ:D->String
 | .non=>"NoneType"
 | .bl _=>"bool"
 | .int _=>"int"
 | .str _=>"str"
 | .tup _=>"tuple"
 | .lst _=>"list"
 | .ro _=>"list"
 | .fz _=>"list"
 | .emp=>"dict"
 | .fn _ _ _ _ _=>"NoneType"
 | .exc _ _=>"NoneType"
def Eg:D->Bool
 | .ro _=>false
 | .fn _ _ _ _ _=>false
 | .exc _ _=>false
 |_=>true
theorem zK{K:PySem.W.Frag}{ι:List Addr}{S:aj}{H:Hp}{d:D}{v:V}(rep:Rep K ι H S)(r:RelD K ι H d v)(hd:Eg d=true):B1 H v=some (zJ d):=by
 cases r with
 |non=>rfl
 |bl=>rfl
 |int=>rfl
 |str=>rfl
 |tup h _=>simp[B1,h,zJ]
 |lst h=>
  obtain⟨vs,e⟩:=rep.isL (JM h)
  simp[B1,e,zJ]
 |ro h _=>cases hd
 |fz h _=>simp[B1,h,zJ]
 |emp h=>simp[B1,h,zJ]
 |fn=>cases hd
 |exc=>cases hd
 |excF=>cases hd
def zM(f:String->Bool):D->M D
 | .ro _=>M.fail
 | .fn _ _ _ _ _=>M.fail
 | .exc _ _=>M.fail
 |d=>pure (.bl (f (zJ d)))
theorem sT{K:PySem.W.Frag}{E:XD}{ι:List Addr}{S:aj}{H:Hp}{f:String->Bool}{d:D}{Q:D->List Addr->aj->Hp->Prop}(c:cont K E (zM f d) ι S H Q):Eg d=true/\cont K E (pure (.bl (f (zJ d)))) ι S H Q:=by
 cases d with
 |ro ds=>exact(ag c).elim
 |fn a c' q ds vs=>exact(ag c).elim
 |exc x ds=>exact(ag c).elim
 |_=>exact⟨rfl,c⟩
def ic(t T:String):Bool:=t==T||(t=="bool" && T=="int")
theorem qU(K:PySem.W.Frag)(t:String)(ht:t∈["NoneType","bool","int","str","tuple","list","dict"])(T:String)(hT:T∈["bool","int","str","tuple","list"]):PySem.W.kitOne K (.type t) (.type T)=some (ic t T):=by
 simp only[List.mem_cons,List.not_mem_nil,or_false]at ht hT
 rcases ht with rfl|rfl|rfl|rfl|rfl|rfl|rfl<;>rcases hT with rfl|rfl|rfl|rfl|rfl<;>rfl
theorem wc(d:D):zJ d∈["NoneType","bool","int","str","tuple","list","dict"]:=by cases d<;>simp[zJ]
theorem zN:cG X (.builtin "isinstance") (fun xs H Q=>∃ x t T,xs=[x,.ty T]/\B1 H x=some t/\t∈["NoneType","bool","int","str","tuple","list","dict"]/\T∈["bool","int","str","tuple","list"]/\Q (.bl (ic t T)) H):=by
 intro pins s σ H xs us Q I r h
 obtain⟨x,t,T,rfl,h1,h2,h3,q⟩:=h
 obtain⟨u,w',rfl,ru,rw'⟩:=vals2 r
 cases (show w'=Value.type T from rw')
 exact xv I ru (zI h1) (qU X.K t h2 T h3) fun tk=>⟨.bl _,H,I.tok tk,rfl,q⟩
theorem fX{p q:Pos}{T:Str}{Ts:String}(hm:X.mg "isinstance"=none)(hmT:X.mg T=none)(he:SE X E e m)(hv:bootBuiltins T=some (.type Ts):=by decide+kernel)(hTs:Ts∈["bool","int","str","tuple","list"]:=by decide)(hg:Gl X "isinstance":=by rfl)(hgT:Gl X T:=by rfl)
  (hn:T≠"__name__":=by decide) (hd:(T==("__debug__":Str))=false:=by decide)
  (hs:starEach [e,.Name T q] X.env=[(false,eval e X.env),(false,eval (.Name T q) X.env)]:=by rfl) (hs2:starEach [.Name T q] X.env=[(false,eval (.Name T q) X.env)]:=by rfl):
  SE X E (.Call (.Name "isinstance" p) [e,.Name T q] [] pos) (fun ρ=>do let x<-m ρ;zM (fun t=>ic t Ts) x):=by
 refine PE.imp (gY zN hg hm (by decide+kernel) (dr he (dr (mQ hgT hmT hv (v:=.ty Ts) rfl hn hd) iy hs2) (by rw[hs,hs2])) (by decide) (by decide) (by rw[hs,hs2]) (by rw[hs2];rfl)) fun σ H Q h=>?_
 obtain⟨ι,S,ρ,rep,re,c⟩:=h
 refine⟨ι,S,ρ,rep,re,ak (ah c) fun x ι1 S1 H1 e1 rep1 c1 v r=>?_⟩
 obtain⟨hd,c1⟩:=sT c1
 exact⟨v,zJ x,Ts,rfl,zK rep1 r hd,wc x,hTs,ai c1 .refl rep1 _ (.bl _)⟩
theorem xF:cG X (.builtin "isinstance") (fun xs H Q=>∃ x t p T U,xs=[x,.ref p]/\H p=some (.tup [.ty T,.ty U])/\B1 H x=some t/\t∈["NoneType","bool","int","str","tuple","list","dict"]/\T∈["bool","int","str","tuple","list"]/\U∈["bool","int","str","tuple","list"]/\
  Q (.bl (ic t T||ic t U)) H):=by
 intro pins s σ H xs us Q I r h
 obtain⟨x,t,p,T,U,rfl,hp,h1,h2,h3,h4,q⟩:=h
 obtain⟨u,w',rfl,ru,rw'⟩:=vals2 r
 cases (show w'=Value.ref p from rw')
 obtain⟨_,its,rv,⟨cls,dd,data,sl⟩,ho,hc,n,hd⟩:=(show aY X.prog X.w H s.heap p (.tup [.ty T,.ty U])from I.hok p _ hp)
 simp only at hc hd
 subst hc hd
 obtain⟨z1,z2,rfl,y1,y2⟩:=vals2 rv
 cases (show z1=Value.type T from y1)
 cases (show z2=Value.type U from y2)
 have e:PySem.W.kitAny X.K (.type t) [.type T,.type U]=some (ic t T||ic t U):=by
  unfold PySem.W.kitAny PySem.W.kitAny PySem.W.kitAny
  rw[qU X.K t h2 T h3,qU X.K t h2 U h4]
  cases ic t T<;>cases ic t U<;>rfl
 have fin:∀ tk,EP X pins σ Q (.bool (ic t T||ic t U)) {s with toks:=tk}:=fun tk=>⟨.bl _,H,I.tok tk,rfl,q⟩
 have ty:=zI (K:=X.K) h1
 generalize hT:Value.type t=tv at ty e
 cases ty with
 |non=>cases (show u=Value.none from ru);exact Kj MA I.kIn True.intro ho e (fun z=>nomatch z) fin
 |bl y=>cases (show u=Value.bool y from ru);exact Kj PySem.W.kitx_bool I.kIn True.intro ho e (fun z=>nomatch z) fin
 |int i=>obtain⟨t,q⟩:=(show ∃ t,u=Value.int i t from ru);cases q;exact Kj PySem.W.kitx_int I.kIn True.intro ho e (fun z=>nomatch z) fin
 |str y=>obtain⟨t,q⟩:=(show ∃ t,u=Value.str y t from ru);cases q;exact Kj PySem.W.kitx_str I.kIn True.intro ho e (fun z=>nomatch z) fin
 |flt y=>obtain⟨t,q⟩:=(show ∃ t,u=Value.float y t from ru);cases q;exact Kj PySem.W.kitx_float I.kIn True.intro ho e (fun z=>nomatch z) fin
 | @lst a xs ea=>
  cases (show u=Value.ref a from ru)
  obtain⟨_,_,n,_,h1⟩:=(show aY X.prog X.w H s.heap a (.lst xs)from I.hok a _ ea)
  exact Kj LS I.kIn ⟨_,h1,rfl⟩ ho e (fun z=>nomatch z) fin
 | @frz a ob xs ea=>
  cases (show u=Value.ref a from ru)
  obtain⟨_,_,_,n,_,h1⟩:=(show aY X.prog X.w H s.heap a (.frz ob (.lst xs))from I.hok a _ ea)
  exact Kj LS I.kIn ⟨_,h1,rfl⟩ ho e (fun z=>nomatch z) fin
 | @tup a xs ea=>
  cases (show u=Value.ref a from ru)
  obtain⟨_,_,_,o,h1,h2,_⟩:=(show aY X.prog X.w H s.heap a (.tup xs)from I.hok a _ ea)
  exact Kj PySem.W.kitx_tuple I.kIn ⟨o,h1,h2⟩ ho e (fun z=>nomatch z) fin
 | @dK a kvs ea=>
  cases (show u=Value.ref a from ru)
  obtain⟨_,_,vs,_,o,es,ep,h1,h2,_⟩:=(show aY X.prog X.w H s.heap a (.dK kvs)from I.hok a _ ea)
  exact Kj LU I.kIn ⟨o,h1,h2.1⟩ ho e (fun z=>nomatch z) fin
 | @dT a kvs ea=>
  cases (show u=Value.ref a from ru)
  obtain⟨_,_,xs,_,o,es,ep,h1,h2,_⟩:=(show aY X.prog X.w H s.heap a (.dT kvs)from I.hok a _ ea)
  exact Kj LU I.kIn ⟨o,h1,h2.1⟩ ho e (fun z=>nomatch z) fin
 |ins=>cases hT
theorem B2{p q q2 q3:Pos}{x1}{T U:Str}{Ts Us:String}(hm:X.mg "isinstance"=none)(hmT:X.mg T=none)(hmU:X.mg U=none)(he:SE X E e m)(hv:bootBuiltins T=some (.type Ts):=by decide+kernel)(hv':bootBuiltins U=some (.type Us):=by decide+kernel)
  (hTs:Ts∈["bool","int","str","tuple","list"]:=by decide) (hUs:Us∈["bool","int","str","tuple","list"]:=by decide) (hg:Gl X "isinstance":=by rfl) (hgT:Gl X T:=by rfl) (hgU:Gl X U:=by rfl)
  (hn:T≠"__name__":=by decide) (hd:(T==("__debug__":Str))=false:=by decide) (hn':U≠"__name__":=by decide) (hd':(U==("__debug__":Str))=false:=by decide)
  (hs:starEach [e,.Tuple [.Name T q,.Name U q2] x1 q3] X.env=[(false,eval e X.env),(false,eval (.Tuple [.Name T q,.Name U q2] x1 q3) X.env)]:=by rfl) (hs2:starEach [.Tuple [.Name T q,.Name U q2] x1 q3] X.env=[(false,eval (.Tuple [.Name T q,.Name U q2] x1 q3) X.env)]:=by rfl):
  SE X E (.Call (.Name "isinstance" p) [e,.Tuple [.Name T q,.Name U q2] x1 q3] [] pos) (fun ρ=>do let x<-m ρ;zM (fun t=>ic t Ts||ic t Us) x):=by
 refine PE.imp (gY xF hg hm (by decide+kernel) (dr he (dr (yZ (dr (mQ hgT hmT hv (v:=.ty Ts) rfl hn hd) (dr (mQ hgU hmU hv' (v:=.ty Us) rfl hn' hd') iy rfl) rfl)) iy hs2) (by rw[hs,hs2])) (by decide) (by decide) (by rw[hs,hs2]) (by rw[hs2];rfl)) fun σ H Q h=>?_
 obtain⟨ι,S,ρ,rep,re,c⟩:=h
 refine⟨ι,S,ρ,rep,re,ak (ah c) fun x ι1 S1 H1 e1 rep1 c1 v r=>?_⟩
 obtain⟨hd,c1⟩:=sT c1
 refine⟨by show 2<=sizeLine;decide,fun p hp=>?_⟩
 have rep2:=eV (o:=.tup [.ty Ts,.ty Us]) rep1 hp
 have e2:Ext ι1 H1 ι1 (upd H1 p (.tup [.ty Ts,.ty Us])):=dR hp
 exact⟨v,zJ x,p,Ts,Us,rfl,aL,zK rep2 (r.later rep1 e2) hd,wc x,hTs,hUs,ai c1 e2 rep2 _ (.bl _)⟩
end
section
variable {X:Cx}{E:XD}{a b e c o tg:Expr}{m n l:TM}{pos p2:Pos}{es:List Expr}{ms:az->M (List D)}
theorem range_all{bs:List Bool}:(List.range bs.length).all (fun i=>bs.getD i false)=bs.all id:=by
 induction bs with
 |nil=>rfl
 |cons b bs ih=>
  rw[J0,LQ,List.all_cons,MV]
  simp only[List.getD_cons_zero,List.all_cons,id]
  congr 1
theorem xG(hc:X.calm=true):cG X (.builtin "all") (fun xs H Q=>∃(p:Addr) (bs:List Bool),xs=[.ref p]/\iY X.K H p (bs.map V.bl)/\Q (.bl (bs.all id)) H):=by
 intro pins s σ H xs us Q I r h
 obtain⟨p,bs,rfl,hp,q⟩:=h
 obtain⟨u,rfl,rx⟩:=vals1 r
 cases (show u=Value.ref p from rx)
 obtain⟨its,rv,pl,hz⟩:=I.list hp
 have hl:=pl.isList
 refine call_all_walk (LR hl ?_)
 have hlt:p<s.heap.objs.size:=by obtain⟨o,ho,_⟩:=hl;exact Jm ho
 have hlen:=rv.length
 refine⟨s.heap.objs.size,_,_,_,_,_,fun i=>bs.getD i false,rfl,Walks.list (A:=X.A.in1) (by show X.A.handled=none;exact I.ok.hd hc) s.heap.objs.size p (Jv hlt) its.toArray,⟨⟨_,Jo _ rfl,rfl,rfl⟩,hl.push _⟩,?_,fun h' tk kp=>?_⟩
 ·intro i v s' Q' E' hP hQ
  have hP':its[i]? =some v:=by simpa using hP
  have hi:i<its.length:=(Jn.mp hP').1
  have hib:i<bs.length:=by rw[Jl]at hlen;omega
  have:(bs.map V.bl)[i]? =some (.bl bs[i]):=by rw[JB,Jk hib];rfl
  obtain⟨u,hu,ru⟩:=rv.get this
  rw[hP']at hu
  cases hu
  cases (show v=Value.bool bs[i]from ru)
  have:bs.getD i false=bs[i]:=by simp[List.getD,hib]
  dsimp only at hQ
  rw[this]at hQ
  exact Kf hQ
 ·have e1:its.toArray.size=bs.length:=by rw[Jt, <-hlen,Jl]
  rw[e1,range_all]
  refine⟨.bl _,H,I.kept (fun b o e=>kp b o ?_ (Jh _ e)),rfl,q⟩
  have:b≠s.heap.objs.size:=Jv (Jm e)
  simpa using this
def boolsOf:List D->Option (List Bool)
 |[]=>some []
 | .bl i::r=>(boolsOf r).map (i::·)
 |_=>none
theorem fq{K:PySem.W.Frag}{ι:List Addr}{H:Hp}:∀{ds:List D} {vs:List V} {ns:List Bool},RelDs K ι H ds vs->boolsOf ds=some ns->vs=ns.map V.bl
 |[],vs,ns,h,e=>by cases e;rw[h.nil_inv];rfl
 | .bl i::ds,vs,ns,h,e=>by
  obtain⟨v,ws,rfl,r1,r2⟩:=h.cons_inv
  cases q:boolsOf ds with
  |none=>simp[boolsOf,q]at e
  |some ks=>
   simp[boolsOf,q]at e
   subst e
   rw[r1.bl_inv,fq r2 q];rfl
 | .non::_,_,_,_,e=>by cases e
 | .int _::_,_,_,_,e=>by cases e
 | .str _::_,_,_,_,e=>by cases e
 | .tup _::_,_,_,_,e=>by cases e
 | .lst _::_,_,_,_,e=>by cases e
 | .ro _::_,_,_,_,e=>by cases e
 | .fz _::_,_,_,_,e=>by cases e
 | .emp::_,_,_,_,e=>by cases e
def sU:List D->M D
 |[.lst k]=>do
  let xs<-getL k
  match boolsOf xs with
  |some bs=>pure (.bl (bs.all id))
  |none=>M.fail
 |[.fz xs]=>match boolsOf xs with
  |some bs=>pure (.bl (bs.all id))
  |none=>M.fail
 |_=>M.fail
theorem xH:jV X.K E sU (fun xs H Q=>∃(p:Addr) (bs:List Bool),xs=[.ref p]/\iY X.K H p (bs.map V.bl)/\Q (.bl (bs.all id)) H):=by
 intro ι S H ds vs Q rep r c
 unfold sU at c
 split at c
 ·next k=>
  obtain⟨v,ws,rfl,r1,r2⟩:=r.cons_inv
  cases r2.nil_inv
  obtain⟨p,rfl,h1⟩:=r1.lst_inv
  obtain⟨es,us,_,hv,rv,c4⟩:=aX c rep h1
  cases q:boolsOf es with
  |none=>rw[q]at c4;exact(ag c4).elim
  |some bs=>
   rw[q]at c4
   refine⟨p,bs,rfl,.of ?_,ai c4 .refl rep _ (.bl _)⟩
   rw[<-fq rv q];exact hv
 ·next es=>
  obtain⟨v,ws,rfl,r1,r2⟩:=r.cons_inv
  cases r2.nil_inv
  obtain⟨p,o,us,rfl,h1,rv⟩:=r1.fz_inv
  cases q:boolsOf es with
  |none=>rw[q]at c;exact(ag c).elim
  |some bs=>
   rw[q]at c
   refine⟨p,bs,rfl,.inl (.inr ⟨o,?_⟩),ai c .refl rep _ (.bl _)⟩
   rw[<-fq rv q];exact h1
 ·exact(ag c).elim
theorem uX{p:Pos}(hc:X.calm=true)(hm:X.mg "all"=none)(ha:SE X E e m)(hg:Gl X "all":=by rfl)(hs:starEach [e] X.env=[(false,eval e X.env)]:=by rfl):SE X E (.Call (.Name "all" p) [e] [] pos) (fun ρ=>do let ds<-(do let x<-m ρ;let xs<-pure [];pure (x::xs));sU ds):=
 hV (xG hc) xH hg hm (by decide+kernel) (ae ha aq hs) (by decide) (by decide) hs rfl
def cV:D->List D->M D
 | .lst k,[d]=>do let xs<-getL k;jf k (xs++[d])
 |_,_=>M.fail
def gC:D->List D->M D
 | .lst k,[.lst j]=>do let xs<-getL k;let ys<-getL j;jf k (xs++ys)
 | .lst k,[.fz ys]=>do let xs<-getL k;jf k (xs++ys)
 |_,_=>M.fail
def nI:D->List D->M D
 | .lst k,[.int i]=>do
  let xs<-getL k
  if 0<=i/\i<xs.length then
   match xs[i.toNat]? with
   |some y=>do let _<-jf k (xs.eraseIdx i.toNat);pure y
   |none=>M.fail
  else M.fail
 |_,_=>M.fail
theorem zO{K:PySem.W.Frag}{H:Hp}{p:Addr}{xs:List V}(h:H p=some (.lst xs)):HM K "list" (.ref p) H:=.inl ⟨rfl,xs,.of h⟩
def zQ:D->M Unit
 | .lst _=>pure ()
 |_=>M.fail
theorem qV{name:Str}{id:String}{f:D->List D->M D}{r:V->List V->Hp->VK->Prop}{apos:Pos}(slot:Slot "list" name id)(hty:typeOf (.builtin id)=pure (.type "method_descriptor"))(hm:HK X id r)
  (hf:G6 X.K E f r) (ho:SE X E o m) (ha:SA X E (e::es) ms)
  (hbase:attributeBase o name X.env (eval o X.env)=eval o X.env:=by rfl)
  (hfew:((backTo pos (starEach (e::es) X.env)).all (fun x=> !x.1) && (backToKw pos (keywordEach [] X.env)).all (fun x=>x.1.isSome)
   && decide ((e::es).length+([]:List Keyword).length+(if ([]:List Keyword).isEmpty then 0 else 1)<30))=true:=by rfl)
  (hline:(apos.endLine==pos.line)=true:=by rfl) (hs:starEach (e::es) X.env=(false,eval e X.env)::starEach es X.env:=by rfl) (hplain:(backTo pos (starEach es X.env)).any (·.1)=false:=by rfl):
  SE X E (.Call (.Attribute o name apos) (e::es) [] pos) (fun ρ=>do let x<-m ρ;zQ x;let ds<-ms ρ;f x ds):=by
 refine PE.imp (Gc PySem.F.plainAttrs_list slot hty hm ho ha hbase hfew hline hs hplain) fun σ H Q h=>?_
 obtain⟨ι,S,ρ,rep,re,c⟩:=h
 refine⟨ι,S,ρ,rep,re,ak (ah c) fun x ι1 S1 H1 e1 rep1 c1 v r1=>?_⟩
 cases x with
 |lst k=>
  obtain⟨p,rfl,h1⟩:=r1.lst_inv
  obtain⟨vs,hv⟩:=rep1.isL (JM h1)
  have c2:=ai (ah c1) .refl rep1
  exact⟨zO hv,ι1,S1,ρ,rep1,re.later rep e1,ak (ah c2) fun ds ι2 S2 H2 e2 rep2 c3 vs r2=>hf ι2 S2 H2 (.lst k) ds (.ref p) vs Q rep2 (r1.later rep1 e2) r2 c3⟩
 |_=>exact(ag (ah c1)).elim
theorem uY:G6 X.K E cV vW:=by
 intro ι S H d ds v vs Q rep r rs c
 unfold cV at c
 split at c
 ·next k d=>
  obtain⟨p,rfl,h1⟩:=r.lst_inv
  obtain⟨w,ws,rfl,r1,r2⟩:=rs.cons_inv
  cases r2.nil_inv
  obtain⟨es,us,_,hv,rv,c4⟩:=aX c rep h1
  obtain⟨hl,hq⟩:=g9 c4 rep h1 (rv.append (.cons r1 .nil))
  rw[Js]at hl
  exact⟨p,us,w,rfl,rfl,hv,Jx (by simp at hl;omega) fA,hq _ .non⟩
 ·exact(ag c).elim
def sV:V->List V->Hp->VK->Prop:=fun x vs H Q=>∃ l b xs zs,x= .ref l/\vs=[.ref b]/\H l=some (.lst xs)/\Rd H b (.lst zs)/\xs.length+zs.length<=sizeLine/\Q .non (upd H l (.lst (xs++zs)))
theorem uZ:HK X "list.extend" sV:=by
 intro pins s σ H x vs v us Q I rx rv h
 obtain⟨l,b,xs,zs,rfl,rfl,hH,hB,hz,q⟩:=h
 cases rx
 obtain⟨u,rfl,ru⟩:=rv.one
 cases ru
 obtain⟨z,its,n,r,hl,e⟩:=I.lstM hH
 obtain⟨z2,its2,n2,r2,hl2,e2⟩:=Inv.lstR I hB
 have hsz:its.toArray.size+its2.toArray.size<=sizeLine:=by rw[Jt,Jt];omega
 have hlong:¬ (!its.toArray.isEmpty && Builtin.List.listTooLong (its.toArray.size+its2.toArray.size))=true:=by
  rw[zb hsz,MX]
  exact Kx
 refine call_meets F.slot_list_extend ⟨_,e,rfl⟩ F.entry_list_extend (F.args_list_extend_2 _ _)
  (AutoSeq1.list_extend_list_list_0 l its.toArray n b its2.toArray n2 hlong (by rw[Jt];omega) (by omega)) ⟨e,e2,?_⟩
 refine⟨.non,_,I.lset (its':=its++its2) hH e (by simp) (r.append r2) ?_,rfl,q⟩
 rw[Js]
 omega
theorem u0:G6 X.K E gC sV:=by
 intro ι S H d ds v vs Q rep r rs c
 unfold gC at c
 split at c
 ·next k j=>
  obtain⟨p,rfl,h1⟩:=r.lst_inv
  obtain⟨w,ws,rfl,r1,r2⟩:=rs.cons_inv
  cases r2.nil_inv
  obtain⟨q,rfl,h2⟩:=r1.lst_inv
  obtain⟨es,us,_,hv,rv,c4⟩:=aX c rep h1
  obtain⟨fs,ys,_,hy,ry,c5⟩:=aX c4 rep h2
  obtain⟨hl,hq⟩:=g9 c5 rep h1 (rv.append ry)
  rw[Js]at hl
  exact⟨p,q,us,ys,rfl,rfl,hv,.inl hy,Ju hl fA,hq _ .non⟩
 ·next k fs=>
  obtain⟨p,rfl,h1⟩:=r.lst_inv
  obtain⟨w,ws,rfl,r1,r2⟩:=rs.cons_inv
  cases r2.nil_inv
  obtain⟨q,o,ys,rfl,h2,ry⟩:=r1.fz_inv
  obtain⟨es,us,_,hv,rv,c4⟩:=aX c rep h1
  obtain⟨hl,hq⟩:=g9 c4 rep h1 (rv.append ry)
  rw[Js]at hl
  exact⟨p,q,us,ys,rfl,rfl,hv,.inr ⟨o,h2⟩,Ju hl fA,hq _ .non⟩
 ·exact(ag c).elim
theorem xI:G6 X.K E nI zd:=by
 intro ι S H d ds v vs Q rep r rs c
 unfold nI at c
 split at c
 ·next k i=>
  obtain⟨p,rfl,h1⟩:=r.lst_inv
  obtain⟨w,ws,rfl,r1,r2⟩:=rs.cons_inv
  cases r2.nil_inv
  rw[r1.int_inv]
  obtain⟨es,us,hSk,hv,rv,c4⟩:=aX c rep h1
  split at c4
  ·next hb=>
   cases q:es[i.toNat]? with
   |none=>rw[q]at c4;exact(ag c4).elim
   | some y=>
    rw[q]at c4
    obtain⟨yv,hy1,hy2⟩:=rv.get' q
    have hlen:=rv.length
    have hE:Ext ι H ι (upd H p (.lst (us.eraseIdx i.toNat))):=qP (JM h1)
    have rv':=RelDs.eraseIdx i.toNat rv
    have c5:=g9 (ah c4) rep h1 rv'
    have hus:us.length<=lim+1:=by
     have:=c5.1
     rw[List.length_eraseIdx]at this
     split at this<;>omega
    refine⟨p,us,i,i.toNat,yv,rfl,rfl,hv,by omega,by unfold lim at hus;omega,?_,hy1,?_⟩
    ·unfold seqIndex?
     simp only[show ¬ i<0 by omega,if_false]
     first|(rw[if_pos (by omega)])|(rw[if_pos (by simp;omega)])|(simp;omega)
    ·exact ai c5.2 .refl (qQ rep h1 rv') _ (hy2.later rep hE)
  ·exact(ag c4).elim
 ·exact(ag c).elim
theorem ie{apos:Pos}(ho:SE X E o m)(ha:SE X E e n)
  (hbase:attributeBase o "append" X.env (eval o X.env)=eval o X.env:=by rfl)
  (hline:(apos.endLine==pos.line)=true:=by rfl) (hs:starEach [e] X.env=[(false,eval e X.env)]:=by rfl):
  SE X E (.Call (.Attribute o "append" apos) [e] [] pos) (fun ρ=>do let x<-m ρ;zQ x;let ds<-(do let y<-n ρ;let ys<-pure [];pure (y::ys));cV x ds):=
 qV PySem.F.slot_list_append PySem.F.type_list_append lB uY ho (ae ha aq hs) hbase (by rw[hs];rfl) hline hs rfl
theorem p0{apos:Pos}(ho:SE X E o m)(ha:SE X E e n)
  (hbase:attributeBase o "extend" X.env (eval o X.env)=eval o X.env:=by rfl)
  (hline:(apos.endLine==pos.line)=true:=by rfl) (hs:starEach [e] X.env=[(false,eval e X.env)]:=by rfl):
  SE X E (.Call (.Attribute o "extend" apos) [e] [] pos) (fun ρ=>do let x<-m ρ;zQ x;let ds<-(do let y<-n ρ;let ys<-pure [];pure (y::ys));gC x ds):=
 qV PySem.F.slot_list_extend PySem.F.type_list_extend uZ u0 ho (ae ha aq hs) hbase (by rw[hs];rfl) hline hs rfl
theorem zR{apos:Pos}(ho:SE X E o m)(ha:SE X E e n)
  (hbase:attributeBase o "pop" X.env (eval o X.env)=eval o X.env:=by rfl)
  (hline:(apos.endLine==pos.line)=true:=by rfl) (hs:starEach [e] X.env=[(false,eval e X.env)]:=by rfl):
  SE X E (.Call (.Attribute o "pop" apos) [e] [] pos) (fun ρ=>do let x<-m ρ;zQ x;let ds<-(do let y<-n ρ;let ys<-pure [];pure (y::ys));nI x ds):=
 qV PySem.F.slot_list_pop PySem.F.type_list_pop zh xI ho (ae ha aq hs) hbase (by rw[hs];rfl) hline hs rfl
theorem xJ:HR X.K E fj Dd:=by
 intro ι S H d1 d2 d3 v1 v2 v3 Q rep r1 r2 r3 c
 unfold fj at c
 split at c
 ·next k j=>
  obtain⟨p,rfl,h1⟩:=r1.lst_inv
  obtain⟨es,us,_,hv,rv,c4⟩:=aX c rep h1
  cases q:uG es.length j with
  |none=>rw[q]at c4;exact(ag c4).elim
  |some at'=>
   rw[q]at c4
   obtain⟨hl,hq⟩:=g9 (ah c4) rep h1 (RelDs.set r3 at' rv)
   refine⟨p,us,j,at',rfl,r2.int_inv,hv,by rw[<-rv.length];exact q,?_⟩
   exact ai hq .refl (qQ rep h1 (RelDs.set r3 at' rv))
 ·exact(ag c).elim
theorem qW{i:Expr}(ho:SE X E o m)(hi:SE X E i n)(ha:∀ v,assign (.Subscript o i pos) X.env v=(do
   let ov<-holding [v] (eval o X.env)
   let iv<-holding [v,ov] (eval i X.env)
   standAt pos
   holding [v,ov,iv] (setItem ov iv v)
   release [v,ov,iv] []):=by intro _;rfl):SG X E (.Subscript o i pos) (fun d ρ=>do let x<-m ρ;let y<-n ρ;fj x y d;pure ρ):=by
 refine PG.imp (DK ho hi set_list ha) fun v σ H Q h=>?_
 obtain⟨ι,S,ρ,d,rep,re,r,c⟩:=h
 refine⟨ι,S,ρ,rep,re,ak (ah c) fun x ι1 S1 H1 e1 rep1 c1 v1 r1=>?_⟩
 refine⟨ι1,S1,ρ,rep1,re.later rep e1,ak (ah c1) fun y ι2 S2 H2 e2 rep2 c2 v2 r2=>?_⟩
 have re2:=(re.later rep e1).later rep1 e2
 refine xJ (E:=E) ι2 S2 H2 x y d v1 v2 v _ rep2 (r1.later rep1 e2) r2 ((r.later rep e1).later rep1 e2) (ak (ah c2) fun _ ι3 S3 H3 e3 rep3 c3=>?_)
 exact ai c3 .refl rep3 σ (re2.later rep2 e3)
def aI(lo:Int)(n:Nat):List D:=(List.range n).map fun i=>.int (lo+(i:Nat))
def jj:List D->M Iter
 |[.int j]=>if -(2 ^ 62)<=j/\j<2 ^ 62 then pure ⟨aI 0 j.toNat,.none⟩else M.fail
 |_=>M.fail
def gD:List D->M Iter
 |[.int i,.int j]=>if -(2 ^ 62)<=i/\i<2 ^ 62/\ -(2 ^ 62)<=j/\j<2 ^ 62 then pure ⟨aI i (j - i).toNat,.none⟩else M.fail
 |_=>M.fail
theorem kL{K:PySem.W.Frag}{lo:Int}{n:Nat}{ι:List Addr}{H:Hp}:jg K ⟨aI lo n,.none⟩ (FP lo n) ι H:=by
 intro ι2 H2 S2 e rep ok i
 refine⟨fun d hd=>?_,fun h=>?_⟩
 ·have hd':((List.range n)[i]?).map (fun i:Nat=>D.int (lo+(i:Nat)))=some d:=by
   have:(aI lo n)[i]? =some d:=hd
   unfold aI at this
   rw[JB]at this;exact this
  have hi:i<n:=by
   by_cases h:i<n
   ·exact h
   ·rw[J8 (by simp;omega)]at hd';cases hd'
  rw[Ln hi]at hd'
  cases hd'
  exact⟨hi,fun x H3 hy=>by obtain⟨rfl,rfl⟩:=hy;exact⟨.refl,rep,.int _⟩⟩
 ·have h':(aI lo n).length<=i:=h
  unfold aI at h'
  rw[Jl,Kc]at h'
  exact h'
theorem dv{p:Pos}(hm:X.mg "range"=none)(ha:SE X E a m)(hg:Gl X "range":=by rfl)(hs:starEach [a] X.env=[(false,eval a X.env)]:=by rfl):
  SI X E tg (.Call (.Name "range" p) [a] [] pos) (fun ρ=>do let ds<-(do let x<-m ρ;let xs<-pure [];pure (x::xs));jj ds):=by
 intro pins s σ H R I h
 refine xn hg hm (ae ha aq hs) hs pins s σ H R I ?_
 obtain⟨ι,S,ρ,rep,re,c⟩:=h
 refine⟨ι,S,ρ,rep,re,ak (ah c) fun ds ι1 S1 H1 e1 rep1 c1 vs r=>?_⟩
 unfold jj at c1
 split at c1
 ·next j=>
  obtain⟨w,ws,rfl,r1,r2⟩:=r.cons_inv
  cases r2.nil_inv
  split at c1
  ·next hb=>rw[r1.int_inv];exact⟨j,rfl,hb.1,hb.2,ai c1 .refl rep1 _ kL⟩
  ·exact(ag c1).elim
 ·exact(ag c1).elim
theorem jH{p:Pos}(hm:X.mg "range"=none)(ha:SE X E a m)(hb:SE X E b n)(hg:Gl X "range":=by rfl)(hs:starEach [a,b] X.env=[(false,eval a X.env),(false,eval b X.env)]:=by rfl)(hs2:starEach [b] X.env=[(false,eval b X.env)]:=by rfl):
  SI X E tg (.Call (.Name "range" p) [a,b] [] pos) (fun ρ=>do let ds<-(do let x<-m ρ;let xs<-(do let y<-n ρ;let ys<-pure [];pure (y::ys));pure (x::xs));gD ds):=by
 intro pins s σ H R I h
 refine xo hg hm (ae ha (ae hb aq hs2) (by rw[hs,hs2])) hs hs2 pins s σ H R I ?_
 obtain⟨ι,S,ρ,rep,re,c⟩:=h
 refine⟨ι,S,ρ,rep,re,ak (ah c) fun ds ι1 S1 H1 e1 rep1 c1 vs r=>?_⟩
 unfold gD at c1
 split at c1
 ·next i j=>
  obtain⟨w,ws,rfl,r1,r2⟩:=r.cons_inv
  obtain⟨w',ws',rfl,r3,r4⟩:=r2.cons_inv
  cases r4.nil_inv
  split at c1
  ·next hb=>rw[r1.int_inv,r3.int_inv];exact⟨i,j,rfl,hb,ai c1 .refl rep1 _ kL⟩
  ·exact(ag c1).elim
 ·exact(ag c1).elim
def zS:D->M Iter
 | .lst k=>do let xs<-getL k;pure ⟨xs,.some k⟩
 | .tup ds=>pure ⟨ds,.none⟩
 | .ro ds=>pure ⟨ds,.none⟩
 | .fz ds=>pure ⟨ds,.none⟩
 |_=>M.fail
theorem sW{K:PySem.W.Frag}{k:Nat}{a:Addr}{xs:List D}{ι:List Addr}{H:Hp}(hk:ι[k]? =some a):jg K ⟨xs,.some k⟩ (G0 K a) ι H:=by
 intro ι2 H2 S2 e rep ok i
 obtain⟨vs,hv,rv⟩:=rep.get k a xs (e.at hk) ok
 refine⟨fun d hd=>?_,fun h=>⟨vs,.of hv,by rw[<-rv.length];exact h⟩⟩
 obtain⟨v,h1,h2⟩:=rv.get' hd
 refine⟨⟨vs,v,.of hv,h1⟩,fun x H3 hy=>?_⟩
 obtain⟨rfl,hy⟩:=hy
 have:=hy vs (.of hv)
 rw[h1]at this;cases this
 exact⟨.refl,rep,h2⟩
theorem u6{K:PySem.W.Frag}{a:Addr}{ds:List D}{vs:List V}{ι:List Addr}{S:aj}{H:Hp}(rep:Rep K ι H S)(ha:H a=some (.tup vs))(r:RelDs K ι H ds vs):jg K ⟨ds,.none⟩ (HA K a) ι H:=by
 intro ι2 H2 S2 e rep2 ok i
 have ha2:=(e.oth a _ ha (rep.notIn ha (by intro _ z;cases z)) (by intro _ z;cases z) (by intro _ z;cases z)).1
 have r2:=r.laterN rep e
 refine⟨fun d hd=>?_,fun h=>⟨vs,.of ha2,by rw[<-r.length];exact h⟩⟩
 obtain⟨v,h1,h2⟩:=r2.get' hd
 refine⟨⟨vs,v,.of ha2,h1⟩,fun x H3 hy=>?_⟩
 obtain⟨rfl,hy⟩:=hy
 have:=hy vs (.of ha2)
 rw[h1]at this;cases this
 exact⟨.refl,rep2,h2⟩
theorem p9{K:PySem.W.Frag}{a:Addr}{ds:List D}{vs:List V}{ι:List Addr}{S:aj}{H:Hp}(rep:Rep K ι H S)(ha:Bp K H a vs)(r:RelDs K ι H ds vs):jg K ⟨ds,.none⟩ (G0 K a) ι H:=by
 intro ι2 H2 S2 e rep2 ok i
 have ha2:Bp K H2 a vs:=ha.imp (fun⟨o,h⟩=>⟨o,(e.oth a _ h (rep.notIn h (by intro _ z;cases z)) (by intro _ z;cases z) (by intro _ z;cases z)).1⟩) fun z=>z
 have r2:=r.laterN rep e
 have sq:iY K H2 a vs:=ha2.sq
 refine⟨fun d hd=>?_,fun h=>⟨vs,sq,by rw[<-r.length];exact h⟩⟩
 obtain⟨v,h1,h2⟩:=r2.get' hd
 refine⟨⟨vs,v,sq,h1⟩,fun x H3 hy=>?_⟩
 obtain⟨rfl,hy⟩:=hy
 have:=hy vs sq
 rw[h1]at this;cases this
 exact⟨.refl,rep2,h2⟩
theorem j8(he:SE X E e m):SI X E tg e (fun ρ=>do let x<-m ρ;zS x):=by
 intro pins s σ H R I h
 obtain⟨ι,S,ρ,rep,re,c⟩:=h
 obtain⟨r,S',er,k⟩:=id (ah c)
 cases r with
 |ex x=>
  refine kA he pins s σ H R I ⟨ι,S,ρ,rep,re,.ex x,S',er,k⟩
 | ok d=>
  cases d with
  |tup ds=>
   refine DO he pins s σ H R I ⟨ι,S,ρ,rep,re,.ok (.tup ds),S',er,fun ι1 H1 e1 rep1 v r1=>?_⟩
   obtain⟨p,vs,rfl,h1,h2⟩:=r1.tup_inv
   exact⟨p,rfl,⟨vs,.of h1⟩,ai (k ι1 H1 e1 rep1) .refl rep1 _ (u6 rep1 h1 h2)⟩
  |lst j=>
   refine kA he pins s σ H R I ⟨ι,S,ρ,rep,re,.ok (.lst j),S',er,fun ι1 H1 e1 rep1 v r1=>?_⟩
   obtain⟨p,rfl,h1⟩:=r1.lst_inv
   obtain⟨es,us,_,hv,rv,c4⟩:=aX (k ι1 H1 e1 rep1) rep1 h1
   exact⟨p,rfl,⟨us,.of hv⟩,ai c4 .refl rep1 _ (sW h1)⟩
  |ro ds=>
   refine kA he pins s σ H R I ⟨ι,S,ρ,rep,re,.ok (.ro ds),S',er,fun ι1 H1 e1 rep1 v r1=>?_⟩
   obtain⟨p,vs,rfl,h1,h2⟩:=r1.ro_inv
   exact⟨p,rfl,⟨vs,h1.sq⟩,ai (k ι1 H1 e1 rep1) .refl rep1 _ (p9 rep1 h1 h2)⟩
  |fz ds=>
   refine kA he pins s σ H R I ⟨ι,S,ρ,rep,re,.ok (.fz ds),S',er,fun ι1 H1 e1 rep1 v r1=>?_⟩
   obtain⟨p,o,vs,rfl,h1,h2⟩:=r1.fz_inv
   exact⟨p,rfl,⟨vs,.inl (.inr ⟨o,h1⟩)⟩,ai (k ι1 H1 e1 rep1) .refl rep1 _ (p9 rep1 (.inl ⟨o,h1⟩) h2)⟩
  |_=>exact kA he pins s σ H R I ⟨ι,S,ρ,rep,re,.ok _,S',er,fun ι1 H1 e1 rep1 v r1=>(ag (k ι1 H1 e1 rep1)).elim⟩
theorem sX:cG X (.type "range") (fun xs H Q=>∃ j,xs=[.int j]/\∀ p,H p=none->Q (.ref p) (upd H p (.rng 0 j))):=by
 intro pins s σ H xs us Q I r h
 obtain⟨j,rfl,q⟩:=h
 obtain⟨u,rfl,rx⟩:=vals1 r
 obtain⟨t,rfl⟩:=(show ∃ t,u=Value.int j t from rx)
 refine call_range_1 ⟨.ref s.heap.objs.size,_,I.laid (o:=.rng 0 j) (fun b o e=>Jh _ e) (Jj _) ⟨_,_,_,Jo _ rfl⟩,rfl,q _ (I.hok.fresh (Jj _))⟩
theorem pC(hc:X.calm=true):cG X (.type "list") (fun xs H Q=>∃(p:Addr) (j:Int),xs=[.ref p]/\H p=some (.rng 0 j)/\ -(2 ^ 62)<=j/\j<=lim/\∀ l,H l=none->Q (.ref l) (upd H l (.lst ((List.range j.toNat).map fun i:Nat=>V.int (i:Nat))))):=by
 intro pins s σ H xs us Q I r h
 obtain⟨p,j,rfl,hp,h1,h2,q⟩:=h
 obtain⟨u,rfl,rx⟩:=vals1 r
 cases (show u=Value.ref p from rx)
 obtain⟨t,u,v,hr⟩:=(show aY X.prog X.w H s.heap p (.rng 0 j)from I.hok p _ hp)
 have hsz:Builtin.Range.rangeSize 0 j 1=(j.toNat:Int):=by rw[rangeSize_one];split<;>omega
 have hlim:j.toNat<=lim:=by omega
 refine call_list_range (I.ok.hd hc) hr (small_one (by omega) (by omega) h1 (by unfold lim at h2;omega)) hsz (by unfold lim at hlim;omega) fun h' tk acc c' kp ho hit=>?_
 refine⟨.ref s.heap.objs.size,_,I.laid (t':=tk) kp (Jj _) (o:=.lst ((List.range j.toNat).map fun i:Nat=>V.int (i:Nat))) ?_,rfl,q _ (I.hok.fresh (Jj _))⟩
 refine⟨by rw[Jl,Kc];exact Ju hlim fA,acc.toList,c',?_,by simpa using ho⟩
 obtain⟨hs,hi⟩:=hit
 have gen:∀(l:List Value) (f:Nat->Int),(∀ i v,l[i]? =some v->∃ t,v=Value.int (f i) t)->aZ ((List.range l.length).map fun i:Nat=>V.int (f i)) l:=by
  intro l
  induction l with
  |nil=>intro f _;exact .nil
  |cons x l ih=>
   intro f hf
   rw[J0,LQ,JT,J2]
   obtain⟨t,ht⟩:=hf 0 x rfl
   refine .cons ⟨t,ht⟩ ?_
   exact ih (fun i=>f (i+1)) fun i v hv=>hf (i+1) v (by simpa using hv)
 have:=gen acc.toList (fun i=>(i:Int)) fun i v hv=>by
  obtain⟨t,ht⟩:=hi i v (by simpa using hv)
  exact⟨t,by rw[ht];congr 1;omega⟩
 rw[KU,hs]at this
 exact this
def iF:List D->M D
 |[.int j]=>if -(2 ^ 62)<=j/\j<=lim then bo (aI 0 j.toNat)else M.fail
 |_=>M.fail
theorem nJ{K:PySem.W.Frag}{ι:List Addr}{H:Hp}:∀(l:List Nat),RelDs K ι H (l.map fun i:Nat=>D.int (0+(i:Nat))) (l.map fun i:Nat=>V.int (i:Nat))
 |[]=>.nil
 |x::l=>.cons (by show RelD K ι H (D.int (0+(x:Int))) (V.int (x:Int));rw[Lu];exact .int _) (nJ l)
theorem qX{p q:Pos}{pos2:Pos}(hc:X.calm=true)(hm:X.mg "list"=none)(hm2:X.mg "range"=none)(ha:SE X E a m)(hg:Gl X "list":=by rfl)(hg2:Gl X "range":=by rfl)(hs:starEach [a] X.env=[(false,eval a X.env)]:=by rfl)
  (hs2:starEach [.Call (.Name "range" q) [a] [] pos2] X.env=[(false,eval (.Call (.Name "range" q) [a] [] pos2) X.env)]:=by rfl):
  SE X E (.Call (.Name "list" p) [.Call (.Name "range" q) [a] [] pos2] [] pos) (fun ρ=>do let ds<-(do let x<-m ρ;let xs<-pure [];pure (x::xs));iF ds):=by
 refine PE.imp (gZ (pC hc) hg hm (by decide+kernel) (dr (gZ sX hg2 hm2 (by decide+kernel) (ae ha aq hs) (by decide) (by decide) hs rfl) iy hs2) (by decide) (by decide) hs2 rfl) fun σ H Q h=>?_
 obtain⟨ι,S,ρ,rep,re,c⟩:=h
 refine⟨ι,S,ρ,rep,re,ak (ah c) fun ds ι1 S1 H1 e1 rep1 c1 vs r=>?_⟩
 unfold iF at c1
 split at c1
 ·next j=>
  obtain⟨w,ws,rfl,r1,r2⟩:=r.cons_inv
  cases r2.nil_inv
  split at c1
  ·next hb=>
   rw[r1.int_inv]
   refine⟨j,rfl,fun p hp=>?_⟩
   have rep2:=eV (o:=.rng 0 j) rep1 hp
   refine⟨p,j,rfl,aL,hb.1,hb.2,?_⟩
   have c2:=eN c1 (dR (o:=.rng 0 j) hp)
   exact(bf c2 rep2 (nJ (List.range j.toNat))).2
  ·exact(ag c1).elim
 ·exact(ag c1).elim
end
section
variable {X:Cx}{E:XD}{a b c d e:Expr}{m n l k:TM}{pos p2:Pos}
theorem Eh:SE X E (.Dict [] [] pos) (fun _=>pure .emp):=by
 intro pins s σ H Q I h
 obtain⟨ι,S,ρ,rep,re,cc⟩:=h
 have big:sysModules<s.heap.objs.size:=Mt (by decide) (I.mod.glob.keeps I.bk).lt
 have hf:H s.heap.objs.size=none:=I.hok.fresh (Jj _)
 have ob:aY X.prog X.w (upd H s.heap.objs.size (.dK [])) (s.heap.push {cls:=.type "dict",data:=.dict #[]}) s.heap.objs.size (.dK []):=⟨JE _,beq_eq_false_iff_ne.mpr (Ne.symm (Jv big)),[],.nil,Heap.DictOf.new s.heap⟩
 refine wpAny_Dict_empty ⟨.ref s.heap.objs.size,upd H s.heap.objs.size (.dK []),I.laid (t':=s.toks) (fun _ _ q=>Jh _ q) (Jj _) ob,rfl,?_⟩
 exact ai cc (dR hf) (eV rep hf) _ (.emp aL)
end
section
variable {X:Cx}{E:XD}{e:Expr}{m:TM}{te:TE}{pos p1 p2 p3:Pos}{j:Nat}
def HW:D->M D
 | .tup xs=>bY xs.reverse
 |_=>M.fail
end
def insI(x:Int):List Int->List Int
 |[]=>[x]
 |y::r=>if x<=y then x::y::r else y::insI x r
def sortI:List Int->List Int
 |[]=>[]
 |x::r=>insI x (sortI r)
theorem insI_perm(x:Int):∀ l,(insI x l).Perm (x::l)
 |[]=>.refl _
 |y::r=>by
  unfold insI
  split
  ·exact .refl _
  ·exact(List.Perm.cons y (insI_perm x r)).trans (List.Perm.swap x y r)
theorem sortI_perm:∀ l,(sortI l).Perm l
 |[]=>.refl _
 |x::r=>(insI_perm x _).trans (List.Perm.cons x (sortI_perm r))
theorem mj(x:Int):∀{l:List Int},l.Pairwise (· <=·)->(insI x l).Pairwise (· <=·)
 |[],_=>by simp[insI]
 | y::r,h=>by
  obtain⟨h1,h2⟩:=Kd.mp h
  unfold insI
  split
  ·next c=>
   refine Kd.mpr ⟨fun z hz=>?_,h⟩
   rcases JC.mp hz with rfl|hz
   ·exact c
   ·exact Int.le_trans c (h1 z hz)
  ·next c=>
   refine Kd.mpr ⟨fun z hz=>?_,mj x h2⟩
   rcases JC.mp ((insI_perm x r).mem_iff.mp hz)with rfl|hz
   ·omega
   ·exact h1 z hz
theorem kM:∀ l,(sortI l).Pairwise (· <=·)
 |[]=>.nil
 |x::r=>mj x (kM r)
section
variable {X:Cx}{E:XD}{e:Expr}{m:TM}{pos:Pos}
theorem qY:cG X (.builtin "sorted") (fun xs H Q=>∃(p:Addr) (ns:List Int),xs=[.ref p]/\iY X.K H p (ns.map V.int)/\ns.length<64/\∀ l,H l=none->Q (.ref l) (upd H l (.lst ((sortI ns).map V.int)))):=by
 intro pins s σ H xs us Q I r h
 obtain⟨p,ns,rfl,hp,h64,q⟩:=h
 obtain⟨u,rfl,rx⟩:=vals1 r
 cases (show u=Value.ref p from rx)
 obtain⟨its,rv,pl,hz⟩:=I.list hp
 have hI:IntsAre its ns:=Mi rv
 have hlen:=rv.length
 rw[Jl]at hlen
 refine sorted_ints pl.isList hI (by omega) fun out ns' a1 a2 a3=>?_
 have en:ns'=sortI ns:=PySem.W.lks_uniq (a2.trans (sortI_perm ns).symm) a3 (kM ns)
 subst en
 obtain⟨c,hc⟩:=sortedAll_at s.heap its out
 have hf:H (s.heap.objs.size+1)=none:=I.hok.fresh (MK _)
 refine⟨.ref (s.heap.objs.size+1),_,I.laid (t':=s.toks) (o:=.lst ((sortI ns).map V.int)) (fun b o e=>sortedAll_old e) (MK _) ⟨?_,out.toList,c,jD a1,hc⟩,rfl,q _ hf⟩
 rw[Jl,(sortI_perm ns).length_eq,J6];omega
theorem nL{K:PySem.W.Frag}{ι:List Addr}{H:Hp}:∀ ns:List Int,RelDs K ι H (ns.map D.int) (ns.map V.int)
 |[]=>.nil
 |n::r=>.cons (.int n) (nL r)
end
end S3
namespace S3
open PySem PySem.Spec PySem.W PyProof.Rows L2
theorem nM{h:Heap}:∀{vs:List Value},(∀ v∈vs,∃ a o us n i t,v= .ref a/\h.get? a=some o/\o.cls= .type "tuple"/\o.data= .seq us n/\us[0]? =some (Value.int i t))->
  ∃ fs,KatTups h vs fs/\fs.length=vs.length/\∀ f∈fs,∃ i t,f=Value.int i t
 |[],_=>⟨[],.nil,rfl,fun _ z=>nomatch z⟩
 |v::vs,hv=>by
  obtain⟨a,o,us,n,i,t,rfl,e1,e2,e3,e4⟩:=hv v Jy
  obtain⟨fs,k1,k2,k3⟩:=nM fun v' h'=>hv v' (Jr _ h')
  refine⟨_::fs,.cons e1 e2 e3 e4 k1,by simp[k2],fun f hf=>?_⟩
  rcases JC.mp hf with rfl|hf
  ·exact⟨i,t,rfl⟩
  ·exact k3 f hf
theorem mU:∀ ns:List Int,HT.lexLt ns ns=false
 |[]=>rfl
 |n::r=>by rw[HT.lexLt_cons,if_pos rfl];exact mU r
theorem u7:∀{a b c:List Int},HT.lexLt a b=true->HT.lexLt b c=true->HT.lexLt a c=true
 |[],[],c,h,_=>by cases h
 |[],_::_,[],_,h=>by cases h
 |[],_::_,_::_,_,_=>rfl
 |_::_,[],c,h,_=>by cases h
 |_::_,_::_,[],_,h=>by cases h
 | x::a,y::b,z::c,h1,h2=>by
  rw[HT.lexLt_cons]at h1 h2 ⊢
  split at h1
  ·next e=>
   subst e
   split at h2
   ·next e2=>subst e2;rw[if_pos rfl];exact u7 h1 h2
   ·next e2=>rw[if_neg e2];exact h2
  ·next e=>
   have h1':x<y:=Kh h1
   split at h2
   ·next e2=>subst e2;rw[if_neg e];exact h1
   ·next e2=>
    have h2':y<z:=Kh h2
    rw[if_neg (by omega)];exact JK (by omega)
theorem qZ:∀{a b c:List Int},HT.lexLt a c=true->HT.lexLt a b=true\/HT.lexLt b c=true
 |a,b,[],h=>by cases a<;>cases h
 |[],[],_::_,_=>.inr rfl
 |[],_::_,_::_,_=>.inl rfl
 |_::_,[],_::_,_=>.inr rfl
 | x ::a,y::b,z::c,h=>by
  rw[HT.lexLt_cons]at h
  rw[HT.lexLt_cons,HT.lexLt_cons]
  split at h
  ·next e=>
   subst e
   by_cases e2:x=y
   ·subst e2
    rw[if_pos rfl,if_pos rfl];exact qZ h
   ·rw[if_neg e2,if_neg (Ne.symm e2)]
    rcases Int.lt_or_gt_of_ne e2 with l|l
    ·exact .inl (JK l)
    ·exact .inr (JK l)
  ·next e=>
   have h':x<z:=Kh h
   by_cases e2:x=y
   ·subst e2
    rw[if_neg e];exact .inr (JK h')
   ·rw[if_neg e2]
    by_cases l:x<y
    ·exact .inl (JK l)
    ·refine .inr ?_
     rw[if_neg (by omega)];exact JK (by omega)
theorem zT{P:Program}{w:World}{H:Hp}{h:Heap}{a:Addr}{o:HO}(x:aY P w H h a o):∃ ob,h.get? a=some ob:=by
 cases o with
 |lst xs=>obtain⟨_,_,_,_,e⟩:=x;exact⟨_,e⟩
 |tup xs=>obtain⟨_,_,_,ob,e,_⟩:=x;exact⟨_,e⟩
 |dK kvs=>obtain⟨_,_,_,_,o,_,_,e,_⟩:=x;exact⟨_,e⟩
 |dT kvs=>obtain⟨_,_,_,_,o,_,_,e,_⟩:=x;exact⟨_,e⟩
 |set S n=>obtain⟨o,_,_,_,e,_⟩:=x;exact⟨_,e⟩
 |ins C dx fs=>obtain⟨_,_,_,e,_⟩:=x;exact⟨_,e⟩
 |own y=>exact x
 |xd fs=>obtain⟨_,⟨_,_,_,e,_⟩,_⟩:=x;exact⟨_,e⟩
 |rng lo hi=>obtain⟨_,_,_,e⟩:=x;exact⟨_,e⟩
 |frz ob u=>exact⟨_,x.1⟩
 |tbl ps=>exact⟨_,show h.get? a=some _ from x⟩
 |met f y=>exact⟨_,show h.get? a=some _ from x⟩
 |ext φ=>exact x.2.1
section
variable {X:Cx}{pins:List (Addr×Obj)}{σ:L2.St}{H:Hp}{s:Shared}
theorem u9{h2:Heap}{d:Addr}{m:Str->Option Value}{ys:List V}{us:List Value}{n:Nat}(I:L2.Inv X pins σ H s)(F0:Fr X.base X.env.locals s.heap m)(F:Fr X.base X.env.locals h2 m)
  (kp:∀ b o,b≠X.env.locals->s.heap.get? b=some o->h2.get? b=some o) (nd:s.heap.get? d=none) (hd:h2.get? d=some {cls:=.type "list",data:=.seq us.toArray n}) (rv:aZ ys us) (hz:ys.length<=sizeLine):
  L2.Inv X pins σ (upd H d (.lst ys)) {s with heap:=h2}:=by
 have hH:H d=none:=by
  cases e:H d with
  |none=>rfl
  |some o=>obtain⟨ob,q⟩:=zT (I.hok d o e);rw[nd]at q;cases q
 have neL:∀ b o,H b=some o->b≠X.env.locals:=fun b o e z=>by rw[z,I.free]at e;cases e
 have old:∀ b o,s.heap.get? b=some o->b≠d:=fun b o e z=>by rw[z,nd]at e;cases e
 refine I.step (g':=s.gens) (d':=s.drawn) (t':=s.toks) (ch:=[]) (fun _ z=>nomatch z) (fun b o hb _ _ e _=>kp b o hb e) (fun b o hb _ _ e _=>⟨o.slots,kp b o hb e⟩)
  (fun b o _ e n=>by rw[aA (old b o e)];exact n) (fun b o _ e=>?_) (fun b xs e=>by rw[aA (aF e hH)];exact e) (fun b ob u e=>by rw[aA (aF e hH)];exact e)
  (fun b ps e=>⟨#[],by rw[aA (aF e hH),e];simp⟩) (fun m' hm=>?_) (fun b u e=>?_) I.bare
 ·by_cases hb:b=X.env.locals
  ·obtain⟨o',_,_,e',_⟩:=F.ns
   exact⟨o',by rw[hb];exact e'⟩
  ·exact⟨o,kp b o hb e⟩
 ·have:m'=m:=by
   obtain⟨o1,es,ep,e1,d1,_,g1⟩:=hm
   obtain⟨o2,es2,ep2,e2,d2,_,g2⟩:=F0.ns
   rw[e1]at e2;cases e2
   rw[d1]at d2;cases d2
   funext x
   rw[<-g1 x, <-g2 x]
  rw[this];exact F.ns
 ·by_cases hb:b=d
  ·subst hb
   rw[aL]at e;cases e
   exact⟨hz,us,n,rv,hd⟩
  ·rw[aA hb]at e
   refine(I.hok b u e).stay (fun c v hc z=>kp c v ?_ z) (fun c z=>by rw[aA (aF z hH)];exact z) fun c xs z=>by rw[aA (aF z hH)];exact z
   rcases hc with rfl|hc
   ·exact neL _ _ e
   ·exact neL _ _ hc
end
section
variable {X:Cx}
end
end S3
namespace S4
open PySem PySem.SetTable
def tb(m:Nat):SetTable:=⟨m, #[], #[],0,true,0,true⟩
def bJ(m:Nat)(h:Int):Nat->Probe
 |0=>(tb m).probeStart h
 |k+1=>(tb m).advance (bJ m h k)
theorem Ei(t:SetTable)(h:Int)(k:Nat):t.advance (bJ t.mask h k)=bJ t.mask h (k+1):=rfl
theorem xK(t:SetTable)(p:Probe)(hp:p.dummy=none):(t.advance p).dummy=none:=by
 unfold advance
 split
 ·exact hp
 ·exact hp
theorem nN(m:Nat)(h:Int):∀ k,(bJ m h k).dummy=none
 |0=>rfl
 |k+1=>xK _ _ (nN m h k)
def eX(m:Nat)(h:Int):Nat->Nat×Nat
 |0=>(bits h % (m+1),bits h)
 |n+1=>leap m (eX m h n).1 (eX m h n).2
def run(m i:Nat):Nat:=runEnd m i - i
theorem Ej(m i:Nat):run m i<=9:=by
 unfold run runEnd
 split<;>omega
def oW(m:Nat)(h:Int):Nat->Nat
 |0=>0
 |n+1=>oW m h n+run m (eX m h n).1+1
theorem zU(m:Nat)(h:Int):∀ n,oW m h n<=10*n
 |0=>Jj _
 |n+1=>by
  have:=zU m h n
  have:=Ej m (eX m h n).1
  show oW m h n+run m (eX m h n).1+1<=10*(n+1)
  omega
theorem q0(m:Nat)(h:Int)(n:Nat)(e:bJ m h (oW m h n)=⟨(eX m h n).1,run m (eX m h n).1,(eX m h n).1,(eX m h n).2,none⟩):
  ∀ r,r<=run m (eX m h n).1->bJ m h (oW m h n+r)=⟨(eX m h n).1+r,run m (eX m h n).1 - r,(eX m h n).1,(eX m h n).2,none⟩
 |0,_=>e
 |r+1,hr=>by
  have ih:=q0 m h n e r (by omega)
  show(tb m).advance (bJ m h (oW m h n+r))=_
  rw[ih]
  unfold advance
  simp only
  rw[if_pos (by omega)]
  simp only[Probe.mk.injEq,and_true,true_and]
  omega
theorem nO(m:Nat)(h:Int):∀ n,bJ m h (oW m h n)=⟨(eX m h n).1,run m (eX m h n).1,(eX m h n).1,(eX m h n).2,none⟩
 |0=>rfl
 |n+1=>by
  have e:=q0 m h n (nO m h n) _ (Jj _)
  show(tb m).advance (bJ m h (oW m h n+run m (eX m h n).1))=_
  rw[e]
  unfold advance
  simp only
  rw[if_neg (by omega)]
  rfl
theorem rf(m:Nat)(h:Int)(n r:Nat)(hr:r<=run m (eX m h n).1):(bJ m h (oW m h n+r)).j=(eX m h n).1+r:=by
 rw[q0 m h n (nO m h n) r hr]
theorem we(m:Nat)(h:Int):∀ n,(eX m h n).2=bits h / 32 ^ n
 |0=>by simp[eX]
 |n+1=>by
  show(eX m h n).2 / 32=_
  rw[we m h n,Nat.div_div_eq_div_mul,Nat.pow_succ]
theorem B3(h:Int):bits h<2 ^ 64:=by
 unfold bits
 have h1:0<=h % (2 ^ 64:Int):=KI _ (by decide)
 have h2:h % (2 ^ 64:Int)<2 ^ 64:=Kk _ (by decide)
 omega
theorem HX(m:Nat)(h:Int)(n:Nat):(eX m h (13+n)).2=0:=by
 rw[we]
 refine Nat.div_eq_of_lt (Jx (B3 h) ?_)
 have:(2:Nat) ^ 64<=32 ^ 13:=by decide
 exact Ju this (Nat.pow_le_pow_right (by decide) (by omega))
def Gm(m:Nat):Nat->Nat->Nat
 |0,a=>a
 |n+1,a=>(Gm m n a*5+1) % (m+1)
theorem vd(m:Nat)(h:Int):∀ n,(eX m h (13+n)).1=Gm m n (eX m h 13).1
 |0=>rfl
 |n+1=>by
  show((eX m h (13+n)).1*5+1+(eX m h (13+n)).2 / 32) % (m+1)=(Gm m n (eX m h 13).1*5+1) % (m+1)
  rw[HX,vd m h n]
theorem zV(m:Nat)(h:Int):∀ n,(eX m h n).1<m+1
 |0=>MD _ (by omega)
 |n+1=>MD _ (by omega)
theorem HY:∀ a,a<8->∀ j,j<8->∃ n,n<8/\Gm 7 n a=j:=by decide+kernel
theorem Gn:∀ a,a<32->∀ j,j<32->∃ n,n<32/\Gm 31 n a=j:=by decide+kernel
def Df(m:Nat):Prop:=m=7\/m=31
theorem zW{m:Nat}(hm:Df m)(h:Int)(j:Nat)(hj:j<=m):∃ n,n<m+14/\(eX m h n).1=j:=by
 rcases hm with rfl|rfl
 ·obtain⟨n,h1,h2⟩:=HY _ (zV 7 h 13) j (by omega)
  exact⟨13+n,by omega,by rw[vd];exact h2⟩
 ·obtain⟨n,h1,h2⟩:=Gn _ (zV 31 h 13) j (by omega)
  exact⟨13+n,by omega,by rw[vd];exact h2⟩
theorem cover{m:Nat}(hm:Df m)(h:Int)(j:Nat)(hj:j<=m):∃ K,K<10*turns m/\(bJ m h K).j=j:=by
 obtain⟨n,h1,h2⟩:=zW hm h j hj
 refine⟨oW m h n,?_,by rw[nO];exact h2⟩
 have:=zU m h n
 unfold turns
 omega
theorem qb{m i:Nat}(h:i<m+1):i+run m i<=m:=by
 unfold run runEnd
 split<;>omega
theorem El{m:Nat}{p:Probe}(h:p.j+p.more<=m):((tb m).advance p).j+((tb m).advance p).more<=m:=by
 unfold advance
 split
 ·simp only;omega
 ·simp only[leap]
  exact qb (MD _ (by omega))
theorem qc(m:Nat)(h:Int):∀ k,(bJ m h k).j+(bJ m h k).more<=m
 |0=>qb (MD _ (by omega))
 |k+1=>El (qc m h k)
theorem B4(m:Nat)(h:Int)(k:Nat)(_:Df m):(bJ m h k).j<=m:=Ju (KZ _ _) (qc m h k)
def B5(xs:Array Nat):Prop:=∀(i j a b:Nat),i<j->xs[i]? =some a->xs[j]? =some b->a<b
theorem nP{xs:Array Nat}{j:Nat}(hr:B5 xs):∀(fuel lo hi:Nat),lo<=hi->hi<=xs.size->hi - lo<=fuel->(∀(i a:Nat),i<lo->xs[i]? =some a->a<j)->(∀(i a:Nat),hi<=i->xs[i]? =some a->j<=a)->
  below.go xs j fuel lo hi<=xs.size/\(∀(i a:Nat),i<below.go xs j fuel lo hi->xs[i]? =some a->a<j)/\(∀(i a:Nat),below.go xs j fuel lo hi<=i->xs[i]? =some a->j<=a)
 |0,lo,hi,h1,h2,h3,h4,h5=>by
  have:lo=hi:=by omega
  subst this
  exact⟨h2,h4,h5⟩
 | fuel+1,lo,hi,h1,h2,h3,h4,h5=>by
  unfold below.go
  by_cases hlt:lo<hi
  ·rw[if_pos hlt]
   simp only
   have hmid:(lo+hi) / 2<xs.size:=by omega
   have hg:xs.getD ((lo+hi) / 2) j=xs[(lo+hi) / 2]:=by simp[Array.getD,hmid]
   have hq:xs[(lo+hi) / 2]? =some xs[(lo+hi) / 2]:=Jq hmid
   rw[hg]
   split
   ·next hc=>
    refine nP hr fuel _ hi (by omega) h2 (by omega) (fun i a hi' e=>?_) h5
    by_cases he:i=(lo+hi) / 2
    ·subst he;rw[hq]at e;cases e;exact hc
    ·exact Mt (hr i _ a _ (by omega) e hq) hc
   ·next hc=>
    refine nP hr fuel lo _ (by omega) (by omega) (by omega) h4 (fun i a hi' e=>?_)
    by_cases he:i=(lo+hi) / 2
    ·subst he;rw[hq]at e;cases e;omega
    ·have:=hr _ i _ a (by omega) hq e
     omega
  ·rw[if_neg hlt]
   have:lo=hi:=by omega
   subst this
   exact⟨h2,h4,h5⟩
theorem nQ{xs:Array Nat}(hr:B5 xs)(j:Nat):below xs j<=xs.size/\(∀(i a:Nat),i<below xs j->xs[i]? =some a->a<j)/\(∀(i a:Nat),below xs j<=i->xs[i]? =some a->j<=a):=
 nP hr xs.size 0 xs.size (JE _) (Jj _) (by omega) (fun _ _ h=>absurd h (Ml _)) fun i a hi e=>by
  rw[Kn hi]at e;cases e
theorem vf{xs:Array Nat}(hr:B5 xs){i j:Nat}(h:xs[i]? =some j):below xs j=i:=by
 obtain⟨_,h2,h3⟩:=nQ hr j
 rcases ME (below xs j) i with l|l|l
 ·have hb:below xs j<xs.size:=Mt l (JD.mp h).1
  have e:xs[below xs j]? =some xs[below xs j]:=Jq hb
  have q1:=hr _ _ _ _ l e h
  have q2:=h3 _ _ (Jj _) e
  omega
 ·exact l
 ·have:=h2 i j l h
  omega
theorem lJ{t:SetTable}{i j:Nat}(h:t.slot j= .live i):t.place[i]? =some j:=by
 unfold slot at h
 simp only at h
 split at h
 ·next hc=>cases h;exact eq_of_beq hc
 ·split at h<;>cases h
theorem mW{t:SetTable}(hr:B5 t.place){i j:Nat}(h:t.place[i]? =some j):t.slot j= .live i:=by
 unfold slot
 simp only
 rw[vf hr h,h]
 simp
theorem wg{t:SetTable}(hd:t.dummies= #[])(j:Nat):(∃ i,t.slot j= .live i)\/t.slot j= .empty:=by
 unfold slot
 simp only
 rw[hd]
 split
 ·exact .inl ⟨_,rfl⟩
 ·exact .inr (by simp[has])
theorem vg{t:SetTable}(hr:B5 t.place){j:Nat}(h:t.slot j= .empty):∀(i:Nat),t.place[i]? ≠some j:=fun i e=>by
 rw[mW hr e]at h;cases h
theorem wj{xs:Array Nat}(hr:B5 xs){n:Nat}(h:∀(j:Nat),j<n->∃ i:Nat,xs[i]? =some j):∀(j:Nat),j<n->∃ i:Nat,j<=i/\xs[i]? =some j
 |0,hj=>by obtain⟨i,e⟩:=h 0 hj;exact⟨i,JE _,e⟩
 |j+1,hj=>by
  obtain⟨i,h1,h2⟩:=wj hr h j (by omega)
  obtain⟨i',e⟩:=h (j+1) hj
  refine⟨i',?_,e⟩
  rcases ME i i' with l|l|l
  ·omega
  ·subst l;rw[h2]at e;cases e
  ·have:=hr _ _ _ _ l e h2;omega
theorem xM{t:SetTable}(hr:B5 t.place)(hd:t.dummies= #[])(hs:t.place.size<=t.mask):∃ j,j<=t.mask/\t.slot j= .empty:=by
 apply Mw
 intro hn
 have:∀(j:Nat),j<t.mask+1->∃ i:Nat,t.place[i]? =some j:=fun j hj=>by
  rcases wg hd j with⟨i,e⟩|e
  ·exact⟨i,lJ e⟩
  ·exact absurd ⟨j,by omega,e⟩ hn
 obtain⟨i,h1,h2⟩:=wj hr this t.mask (by omega)
 have:=(JD.mp h2).1
 omega
theorem wk {t:SetTable} (hd:t.dummies= #[]) (ha:Nat->Int) (h:Int) (K:Nat) (hK:t.slot (bJ t.mask h K).j= .empty):∀(fuel k:Nat),k<=K->K - k<fuel->
    ∃ k',k<=k'/\k'<=K/\(∀ m,k<=m->m<k'->∃ i,t.slot (bJ t.mask h m).j= .live i/\ha i≠h)/\
      ((t.slot (bJ t.mask h k').j= .empty/\probe.go t ha h fuel (bJ t.mask h k)=some (.empty (bJ t.mask h k').j none))\/
       (∃ i,t.slot (bJ t.mask h k').j= .live i/\ha i=h/\probe.go t ha h fuel (bJ t.mask h k)=some (.candidate (bJ t.mask h k').j i (bJ t.mask h (k'+1)))))
  |0,k,h1,h2=>by omega
  | fuel+1,k,h1,h2=>by
    unfold probe.go
    rcases wg hd (bJ t.mask h k).j with⟨i,e⟩|e
    · rw[e]
      simp only
      by_cases hh:ha i=h
      · rw[if_pos (by simpa using hh)]
        exact⟨k,Jj _,h1,fun m a b=>by omega,.inr ⟨i,e,hh,rfl⟩⟩
      · rw[if_neg (by simpa using hh)]
        have hne:k≠K:=fun z=>by subst z;rw[hK]at e;cases e
        obtain⟨k',g1,g2,g3,g4⟩:=wk hd ha h K hK fuel (k+1) (by omega) (by omega)
        refine⟨k',by omega,g2,fun m a b=>?_,?_⟩
        · by_cases hm:m=k
          · subst hm;exact⟨i,e,hh⟩
          · exact g3 m (by omega) b
        · rw[Ei];exact g4
    · rw[e]
      simp only[nN]
      exact⟨k,Jj _,h1,fun m a b=>by omega,.inl ⟨e,rfl⟩⟩
abbrev Ent:=Int×Value
def At(pl:Array Nat)(es:Array Ent)(j:Nat)(e:Ent):Prop:=∃ i:Nat,pl[i]? =some j/\es[i]? =some e
structure TPre(t:SetTable)(es:Array Ent):Prop where
 msk:Df t.mask
 dum:t.dummies= #[]
 siz:t.place.size=es.size
 ris:B5 t.place
 inb:∀(i a:Nat),t.place[i]? =some a->a<=t.mask
 way:∀(j:Nat) (e:Ent),At t.place es j e->∃ k,(bJ t.mask e.1 k).j=j/\∀ m,m<k->∃ e',At t.place es (bJ t.mask e.1 m).j e'
structure TOk(t:SetTable)(es:Array Ent):Prop extends TPre t es where
 few:es.size*5<t.mask*3
theorem TPre.fits{t:SetTable}{es:Array Ent}(k:TPre t es)(h:es.size<=t.mask):t.fits es.size=true:=by
 unfold SetTable.fits fill
 rw[k.siz,k.dum]
 simpa using h
theorem TOk.le{t:SetTable}{es:Array Ent}(k:TOk t es):es.size<=t.mask:=by
 have:=k.few
 omega
theorem TPre.at_of{t:SetTable}{es:Array Ent}(k:TPre t es){i j:Nat}(h:t.place[i]? =some j):∃ e,es[i]? =some e/\At t.place es j e:=by
 have hi:i<es.size:=by rw[<-k.siz];exact(JD.mp h).1
 exact⟨es[i],Jq hi,i,h,Jq hi⟩
theorem zX(led:Bool):TOk (SetTable.fresh 0 0 led) #[] where
 msk:=.inl rfl
 dum:=rfl
 siz:=rfl
 ris:=fun i j a b _ h _=>by simp[SetTable.fresh]at h
 inb:=fun i a h=>by simp[SetTable.fresh]at h
 way:=fun j e ⟨i,h,_⟩=>by simp[SetTable.fresh]at h
 few:=by show 0*5<7*3;decide
theorem dQ{α:Type}(xs:Array α)(p:Nat)(x:α)(hp:p<=xs.size)(i:Nat):(SetTable.insertAt xs p x)[i]? =if i<p then xs[i]? else if i=p then some x else xs[i - 1]? :=by
 rw[<-JL,SetTable.toList_insertAt]
 have hl:(xs.toList.take p).length=p:=by simp[hp]
 by_cases h1:i<p
 ·rw[if_pos h1,Jp (by omega),MB h1,JL]
 ·rw[if_neg h1,La (by omega),hl]
  by_cases h2:i=p
  ·subst h2;simp
  ·rw[if_neg h2]
   obtain⟨d,hd⟩:∃ d,i - p=d+1:=⟨i - p - 1,by omega⟩
   rw[hd,List.getElem?_cons_succ,Mv,show p+d=i - 1 by omega,JL]
theorem nR{α:Type}(xs:Array α)(p:Nat)(x:α):(SetTable.insertAt xs p x).size=xs.size+1:=by
 have:=(SetTable.insertAt_perm xs p x).length_eq
 simpa using this
theorem zY{pl:Array Nat}{es:Array Ent}{p j:Nat}{e:Ent}(hs:pl.size=es.size)(hp:p<=pl.size)(j':Nat)(e':Ent):
  At (SetTable.insertAt pl p j) (SetTable.insertAt es p e) j' e'↔At pl es j' e'\/(j'=j/\e'=e):=by
 have hp2:p<=es.size:=by rw[<-hs];exact hp
 constructor
 ·rintro⟨i,h1,h2⟩
  rw[dQ _ _ _ hp]at h1
  rw[dQ _ _ _ hp2]at h2
  by_cases c1:i<p
  ·rw[if_pos c1]at h1 h2;exact .inl ⟨i,h1,h2⟩
  ·rw[if_neg c1]at h1 h2
   by_cases c2:i=p
   ·rw[if_pos c2]at h1 h2;cases h1;cases h2;exact .inr ⟨rfl,rfl⟩
   ·rw[if_neg c2]at h1 h2;exact .inl ⟨_,h1,h2⟩
 ·rintro(⟨i,h1,h2⟩|⟨rfl,rfl⟩)
  ·by_cases c1:i<p
   ·exact⟨i,by rw[dQ _ _ _ hp,if_pos c1];exact h1,by rw[dQ _ _ _ hp2,if_pos c1];exact h2⟩
   ·exact⟨i+1,by rw[dQ _ _ _ hp,if_neg (by omega),if_neg (by omega)];exact h1,by rw[dQ _ _ _ hp2,if_neg (by omega),if_neg (by omega)];exact h2⟩
  ·exact⟨p,by rw[dQ _ _ _ hp,if_neg (by omega),if_pos rfl],by rw[dQ _ _ _ hp2,if_neg (by omega),if_pos rfl]⟩
theorem Em{t:SetTable}(hd:t.dummies= #[])(j:Nat):t.put j=({t with place:=SetTable.insertAt t.place (below t.place j) j},below t.place j):=by
 unfold put
 simp only
 rw[hd]
 have:has (#[]:Array Nat) j=false:=by simp[has]
 rw[this]
 cases t
 simp only at hd
 subst hd
 rfl
theorem En{t:SetTable}{es:Array Ent}(k:TPre t es){j:Nat}{e:Ent}{K:Nat}(hj:j<=t.mask)(hf:t.slot j= .empty)(hK:(bJ t.mask e.1 K).j=j)(hb:∀ m,m<K->∃ e',At t.place es (bJ t.mask e.1 m).j e'):
  TPre (t.put j).1 (SetTable.insertAt es (t.put j).2 e)/\(t.put j).1.mask=t.mask/\(t.put j).1.led=t.led/\(t.put j).1.plain=t.plain:=by
 obtain⟨b1,b2,b3⟩:=nQ k.ris j
 have hno:=vg k.ris hf
 rw[Em k.dum]
 refine⟨⟨k.msk,k.dum,?_,?_,?_,?_⟩,rfl,rfl,rfl⟩
 ·show(SetTable.insertAt t.place (below t.place j) j).size=_
  rw[nR,nR,k.siz]
 ·intro i1 i2 a b hlt h1 h2
  have h1':(SetTable.insertAt t.place (below t.place j) j)[i1]? =some a:=h1
  have h2':(SetTable.insertAt t.place (below t.place j) j)[i2]? =some b:=h2
  rw[dQ _ _ _ b1]at h1' h2'
  by_cases c1:i1<below t.place j
  ·rw[if_pos c1]at h1'
   by_cases c2:i2<below t.place j
   ·rw[if_pos c2]at h2';exact k.ris _ _ _ _ hlt h1' h2'
   ·rw[if_neg c2]at h2'
    by_cases c3:i2=below t.place j
    ·rw[if_pos c3]at h2';cases h2';exact b2 _ _ c1 h1'
    ·rw[if_neg c3]at h2';exact k.ris _ _ _ _ (by omega) h1' h2'
  ·rw[if_neg c1]at h1'
   rw[if_neg (by omega),if_neg (by omega)]at h2'
   by_cases c3:i1=below t.place j
   ·rw[if_pos c3]at h1';cases h1'
    have q:=b3 _ _ (by omega) h2'
    have:b≠j:=fun z=>by subst z;exact hno _ h2'
    omega
   ·rw[if_neg c3]at h1';exact k.ris _ _ _ _ (by omega) h1' h2'
 ·intro i a h
  have h':(SetTable.insertAt t.place (below t.place j) j)[i]? =some a:=h
  rw[dQ _ _ _ b1]at h'
  by_cases c1:i<below t.place j
  ·rw[if_pos c1]at h';exact k.inb _ _ h'
  ·rw[if_neg c1]at h'
   by_cases c3:i=below t.place j
   ·rw[if_pos c3]at h';cases h';exact hj
   ·rw[if_neg c3]at h';exact k.inb _ _ h'
 ·intro j' e' h
  have up:∀{a b},At t.place es a b->At (SetTable.insertAt t.place (below t.place j) j) (SetTable.insertAt es (below t.place j) e) a b:=fun z=>(zY k.siz b1 _ _).mpr (.inl z)
  rcases (zY k.siz b1 j' e').mp h with h'|⟨rfl,rfl⟩
  ·obtain⟨n,h1,h2⟩:=k.way _ _ h'
   exact⟨n,h1,fun m hm=>let ⟨x,hx⟩:=h2 m hm;⟨x,up hx⟩⟩
  ·exact⟨K,hK,fun m hm=>let ⟨x,hx⟩:=hb m hm;⟨x,up hx⟩⟩
abbrev zZ:=Array (Option Nat)
def xN(o:zZ)(j:Nat):Prop:=∃ k,o[j]? =some (some k)
structure Laid(m:Nat)(hs:List Int)(o:zZ):Prop where
 siz:o.size=m+1
 way:∀(j k:Nat),o[j]? =some (some k)->∃ x,hs[k]? =some x/\∃ n,(bJ m x n).j=j/\∀ i,i<n->xN o (bJ m x i).j
theorem qd{m:Nat}{o:zZ}(hsz:o.size=m+1)(h:Int)(n':Nat)(hn:o[(eX m h n').1]? =some none):∀(fuel n:Nat),n<=n'->n' - n<fuel->
  ∃ idx,oW m h n<=idx/\layClean.free m o fuel (eX m h n).1 (eX m h n).2=some (bJ m h idx).j/\o[(bJ m h idx).j]? =some none/\∀ i,oW m h n<=i->i<idx->xN o (bJ m h i).j
 |0,n,h1,h2=>by omega
 | fuel+1,n,h1,h2=>by
  have hrun:runEnd m (eX m h n).1+1 - (eX m h n).1=run m (eX m h n).1+1:=by
   unfold run runEnd
   split<;>omega
  have hend:(eX m h n).1+run m (eX m h n).1<=m:=by
   have:=zV m h n
   unfold run runEnd
   split<;>omega
  have get:∀ k,k<=run m (eX m h n).1->o.getD ((eX m h n).1+k) (some 0)=o[(eX m h n).1+k]?.getD (some 0):=fun k _=>by simp
  have occ:∀ k,k<=run m (eX m h n).1->(o.getD ((eX m h n).1+k) (some 0)).isNone=false->xN o (bJ m h (oW m h n+k)).j:=fun k hk hq=>by
   rw[rf m h n k hk]
   have hlt:(eX m h n).1+k<o.size:=by omega
   rw[get k hk,Jq hlt]at hq
   cases e:o[(eX m h n).1+k]with
   |none=>simp[e]at hq
   |some z=>exact⟨z,by rw[Jq hlt,e]⟩
  unfold layClean.free
  rw[hrun]
  cases q:(List.range (run m (eX m h n).1+1)).find? (fun k=>(o.getD ((eX m h n).1+k) (some 0)).isNone)with
  | some k=>
   simp only
   have hk:=List.find?_some q
   have hmem:k<=run m (eX m h n).1:=by
    have:=List.mem_of_find?_eq_some q
    rw[JG]at this;omega
   refine⟨oW m h n+k,by omega,by rw[rf m h n k hmem],?_,fun i a b=>?_⟩
   ·rw[rf m h n k hmem]
    have hlt:(eX m h n).1+k<o.size:=by omega
    rw[get k hmem,Jq hlt]at hk
    rw[Jq hlt]
    cases e:o[(eX m h n).1+k]with
    |none=>rfl
    |some z=>simp[e]at hk
   ·obtain⟨d,rfl⟩:∃ d,i=oW m h n+d:=⟨i - oW m h n,by omega⟩
    refine occ d (by omega) ?_
    have hall:=List.find?_eq_some_iff_getElem.mp q
    obtain⟨_,ix,hix,e1,e2⟩:=hall
    simp at e1
    subst e1
    have:=e2 d (by omega)
    simpa using this
  | none=>
   simp only
   have hall:=List.find?_eq_none.mp q
   have occ':∀ k,k<=run m (eX m h n).1->xN o (bJ m h (oW m h n+k)).j:=fun k hk=>occ k hk (by
    have:=hall k (JG.mpr (by omega))
    exact MG.mpr this)
   have hne:n≠n':=fun z=>by
    subst z
    obtain⟨k,e⟩:=occ' 0 (JE _)
    rw[rf m h n 0 (JE _)]at e
    rw[Nat.add_zero,hn]at e;cases e
   obtain⟨idx,g1,g2,g3,g4⟩:=qd hsz h n' hn fuel (n+1) (by omega) (by omega)
   have hK:oW m h (n+1)=oW m h n+run m (eX m h n).1+1:=rfl
   refine⟨idx,by omega,g2,g3,fun i a b=>?_⟩
   by_cases hi:oW m h (n+1)<=i
   ·exact g4 i hi b
   ·obtain⟨d,rfl⟩:∃ d,i=oW m h n+d:=⟨i - oW m h n,by omega⟩
    exact occ' d (by omega)
def cR(m:Nat)(f:Nat->Option Nat):List (Nat×Nat):=(List.range (m+1)).filterMap fun j=>(f j).map fun k=>(j,k)
theorem kN{α β:Type}{f g:α->Option β}:∀{l:List α},(∀ x∈l,f x=g x)->l.filterMap f=l.filterMap g
 |[],_=>rfl
 |x::l,h=>by rw[J1,J1,h x Jy,kN fun y hy=>h y (Jr _ hy)]
theorem z5{m j k:Nat}{f g:Nat->Option Nat}(hj:j<m+1)(hf:f j=none)(hg:g j=some k)(ho:∀ i,i≠j->g i=f i):(cR m g).Perm ((j,k)::cR m f):=by
 unfold cR
 have e:List.range (m+1)=List.range j++j::(List.range' (j+1) (m - j)):=by
  rw[List.range_eq_range',List.range_eq_range',show m+1=j+(1+(m - j)) by omega, <-List.range'_append_1, <-List.range'_append_1]
  simp
 rw[e,List.filterMap_append,List.filterMap_append,J1,J1,hf,hg]
 simp only[Option.map_some,Option.map_none]
 rw[kN (l:=List.range j) (g:=fun j=>(f j).map fun k=>(j,k)) fun x hx=>by rw[ho x (by rw[JG]at hx;omega)],
  kN (l:=List.range' (j+1) (m - j)) (g:=fun j=>(f j).map fun k=>(j,k)) fun x hx=>by rw[ho x (by rw[List.mem_range'_1]at hx;omega)]]
 exact List.perm_middle
def fo(o:zZ)(j:Nat):Option Nat:=o.getD j none
theorem nS{o:zZ}{j k:Nat}:fo o j=some k↔o[j]? =some (some k):=by
 unfold fo
 rw[JR]
 cases o[j]? with
 |none=>simp
 |some z=>simp
structure LaidN(m:Nat)(hs:List Int)(o:zZ):Prop extends Laid m hs o where
 all:((cR m (fo o)).map (·.2)).Perm (List.range hs.length)
theorem sY{m:Nat}{hs:List Int}{o:zZ}(L:LaidN m hs o):(cR m (fo o)).length=hs.length:=by
 have:=L.all.length_eq
 simpa using this
theorem sZ{m:Nat}{hs:List Int}{o:zZ}(L:LaidN m hs o)(hl:hs.length<=m):∃ j,j<=m/\o[j]? =some none:=by
 apply Mw
 intro hn
 have hocc:∀ j,j∈List.range (m+1)->∃ k,fo o j=some k:=fun j hj=>by
  rw[JG]at hj
  have hlt:j<o.size:=by rw[L.siz];exact hj
  cases e:o[j]with
  |none=>exact absurd ⟨j,by omega,by rw[Jq hlt,e]⟩ hn
  |some k=>exact⟨k,nS.mpr (by rw[Jq hlt,e])⟩
 have:∀ l:List Nat,(∀ j∈l,∃ k,fo o j=some k)->(l.filterMap fun j=>(fo o j).map fun k=>(j,k)).length=l.length:=by
  intro l
  induction l with
  |nil=>intro _;rfl
  |cons x l ih=>
   intro h
   obtain⟨k,e⟩:=h x Jy
   rw[J1,e]
   simp only[Option.map_some,List.length_cons]
   rw[ih fun j hj=>h j (Jr _ hj)]
 have h1:=this _ hocc
 have h2:=sY L
 unfold cR at h2
 rw[h1,Kc]at h2
 omega
theorem z6{m:Nat}(hm:Df m){hs:List Int}{o:zZ}(L:LaidN m hs o)(hl:hs.length<=m)(x:Int):
  ∃ j,layClean.free m o (turns m) (bits x % (m+1)) (bits x)=some j/\LaidN m (hs++[x]) (o.setIfInBounds j (some hs.length)):=by
 obtain⟨j0,hj0,hf0⟩:=sZ L hl
 obtain⟨n',hn1,hn2⟩:=zW hm x j0 hj0
 obtain⟨idx,_,g2,g3,g4⟩:=qd L.siz x n' (by rw[hn2];exact hf0) (turns m) 0 (JE _) (by unfold turns;omega)
 refine⟨(bJ m x idx).j,g2,?_⟩
 generalize hj:(bJ m x idx).j=j at g3 ⊢
 have hjlt:j<o.size:=(JD.mp g3).1
 have self:(o.setIfInBounds j (some hs.length))[j]? =some (some hs.length):=by simp[hjlt]
 have oth:∀ i,i≠j->(o.setIfInBounds j (some hs.length))[i]? =o[i]? :=fun i hi=>by
  rw[Array.getElem?_setIfInBounds_ne (Ne.symm hi)]
 have up:∀ i,xN o i->xN (o.setIfInBounds j (some hs.length)) i:=fun i ⟨k,e⟩=>by
  by_cases hi:i=j
  ·subst hi;exact⟨_,self⟩
  ·exact⟨k,by rw[oth i hi];exact e⟩
 refine⟨⟨by rw[Array.size_setIfInBounds];exact L.siz,fun i k e=>?_⟩,?_⟩
 ·by_cases hi:i=j
  ·subst hi
   rw[self]at e;cases e
   exact⟨x,by simp,idx,hj,fun q hq=>up _ (g4 q (JE _) hq)⟩
  ·rw[oth i hi]at e
   obtain⟨y,h1,n,h2,h3⟩:=L.way i k e
   refine⟨y,?_,n,h2,fun q hq=>up _ (h3 q hq)⟩
   rw[Jp (Jn.mp h1).1];exact h1
 ·have hp:=z5 (m:=m) (j:=j) (k:=hs.length) (f:=fo o) (g:=fo (o.setIfInBounds j (some hs.length))) (by rw[<-L.siz];exact hjlt)
   (by unfold fo;rw[JR,g3];rfl) (nS.mpr self) (fun i hi=>by unfold fo;rw[JR,JR,oth i hi])
  refine(hp.map (·.2)).trans ?_
  rw[Js,L4,List.range_succ]
  exact(List.Perm.cons _ L.all).trans (List.perm_append_singleton _ _).symm
theorem wm{m:Nat}(hm:Df m):∀(rest hs:List Int) (o:zZ),LaidN m hs o->hs.length+rest.length<=m+1->
  ∃ o',rest.foldl (fun(acc:Option (zZ×Nat)) h=>do
   let (owner,k)<-acc
   let j<-layClean.free m owner (turns m) (bits h % (m+1)) (bits h)
   pure (owner.setIfInBounds j (some k),k+1)) (some (o,hs.length))=some (o',hs.length+rest.length)/\LaidN m (hs++rest) o'
 |[],hs,o,L,_=>⟨o,rfl,by rw[JV];exact L⟩
 |x::rest,hs,o,L,hl=>by
  rw[J0]at hl
  obtain⟨j,e,L'⟩:=z6 hm L (by omega) x
  obtain⟨o',e',L''⟩:=wm hm rest (hs++[x]) _ L' (by simp;omega)
  refine⟨o',?_,by rw[JH]at L'';exact L''⟩
  rw[List.foldl_cons]
  simp only[Option.bind_eq_bind,Option.bind_some,e]
  rw[Js,L4]at e'
  simp only[Option.bind_eq_bind]at e'
  rw[J0,show hs.length+(rest.length+1)=hs.length+1+rest.length by omega]
  exact e'
theorem xO{m:Nat}(hm:Df m)(hashes:Array Int)(hl:hashes.size<=m+1):∃ o,layClean m hashes=some o/\LaidN m hashes.toList o:=by
 have L0:LaidN m [] (Array.replicate (m+1) none):=by
  refine⟨⟨by simp,fun j k e=>?_⟩,?_⟩
  ·rw[MH]at e
   split at e<;>cases e
  ·have:cR m (fo (Array.replicate (m+1) none))=[]:=by
    unfold cR
    rw[List.filterMap_eq_nil_iff]
    intro j _
    have:fo (Array.replicate (m+1) none) j=none:=by
     cases e:fo (Array.replicate (m+1) none) j with
     |none=>rfl
     |some k=>
      rw[nS,MH]at e
      split at e<;>cases e
    rw[this];rfl
   rw[this]
   exact .refl _
 obtain⟨o,e,L⟩:=wm hm hashes.toList [] _ L0 (by simpa using hl)
 refine⟨o,?_,by simpa using L⟩
 unfold layClean
 rw[<-Array.foldl_toList]
 rw[show(Array.replicate (m+1) (none:Option Nat),0)=(Array.replicate (m+1) none,([]:List Int).length)from rfl]
 rw[e]
 rfl
theorem nU(f:Nat->Option Nat):∀ l:List Nat,((l.filterMap fun j=>(f j).map fun k=>(j,k)).map (·.1)).Sublist l
 |[]=>.slnil
 |x::l=>by
  rw[J1]
  cases f x with
  |none=>exact .cons _ (nU f l)
  |some k=>exact .cons₂ _ (nU f l)
theorem nV{m:Nat}{f:Nat->Option Nat}{j k:Nat}:(j,k)∈cR m f↔j<m+1/\f j=some k:=by
 unfold cR
 rw[Kw]
 constructor
 ·rintro⟨a,h1,h2⟩
  cases e:f a with
  |none=>rw[e]at h2;cases h2
  |some b=>
   rw[e]at h2
   cases h2
   exact⟨JG.mp h1,e⟩
 ·rintro⟨h1,h2⟩
  exact⟨j,JG.mpr h1,by rw[h2];rfl⟩
theorem Eo{l:List Nat}(h:l.Pairwise (· <·)):B5 l.toArray:=by
 intro i j a b hij ha hb
 rw[KN]at ha hb
 obtain⟨hi,ea⟩:=Jn.mp ha
 obtain⟨hj,eb⟩:=Jn.mp hb
 have:=Mx.mp h i j hi hj hij
 rw[ea,eb]at this;exact this
theorem z7{α β:Type}{f:α->Option β}:∀{l:List α},(∀ x∈l,∃ y,f x=some y)->∀ i:Nat,(l.filterMap f)[i]? =l[i]?.bind f
 |[],_,i=>by simp
 |x::l,h,i=>by
  obtain⟨y,e⟩:=h x Jy
  rw[J1,e]
  cases i with
  |zero=>simp[e]
  |succ i=>simpa using z7 (fun z hz=>h z (Jr _ hz)) i
theorem B6{es:Array Ent}{m:Nat}(hm:Df m)(hf:es.size*5<m*3)(fg mv:Nat)(ld pl:Bool):
  ∃(t':SetTable) (order:Array Nat),laid m fg mv ld pl (es.map (·.1))=some (t',order)/\order.toList.Perm (List.range es.size)/\(order.filterMap (es[·]?)).size=es.size/\TOk t' (order.filterMap (es[·]?))/\t'.led=ld/\t'.plain=pl/\t'.mask=m:=by
 obtain⟨o,e,L⟩:=xO hm (es.map (·.1)) (by rw[Array.size_map];omega)
 have hlen:(es.map (·.1)).toList.length=es.size:=by simp
 have hall:=L.all
 rw[hlen]at hall
 have hk:∀ p∈cR m (fo o),∃ y,es[p.2]? =some y:=fun p hp=>by
  have:p.2∈List.range es.size:=hall.mem_iff.mp (List.mem_map_of_mem hp)
  rw[JG]at this
  exact⟨es[p.2],Jq this⟩
 have hes:(((cR m (fo o)).map (·.2)).toArray.filterMap (es[·]?)).toList=((cR m (fo o)).map (·.2)).filterMap (es[·]?):=by
  rw[Array.toList_filterMap]
 have hperm:(((cR m (fo o)).map (·.2)).toArray.filterMap (es[·]?)).toList.Perm es.toList:=by
  rw[hes]
  exact(hall.filterMap _).trans (by rw[filterMap_getElem?_range])
 have hsz:(((cR m (fo o)).map (·.2)).toArray.filterMap (es[·]?)).size=es.size:=by
  have:=hperm.length_eq
  simpa using this
 have hat:∀(j:Nat) (x:Ent),At (((cR m (fo o)).map (·.1)).toArray) (((cR m (fo o)).map (·.2)).toArray.filterMap (es[·]?)) j x↔∃ k,(j,k)∈cR m (fo o)/\es[k]? =some x:=by
  intro j x
  have key:∀ i:Nat,(((cR m (fo o)).map (·.2)).toArray.filterMap (es[·]?))[i]? =((cR m (fo o))[i]?).bind fun p=>es[p.2]? :=fun i=>by
   rw[<-JL,hes,z7 (fun z hz=>by
    obtain⟨p,hp,rfl⟩:=JY.mp hz
    exact hk p hp) i,JB]
   cases (cR m (fo o))[i]? <;>rfl
  constructor
  ·rintro⟨i,h1,h2⟩
   rw[KN,JB]at h1
   rw[key]at h2
   cases q:(cR m (fo o))[i]? with
   |none=>rw[q]at h1;cases h1
   |some p=>
    rw[q]at h1 h2
    cases h1
    exact⟨p.2,JM q,h2⟩
  ·rintro⟨k,h1,h2⟩
   obtain⟨i,hi⟩:=K7.mp h1
   exact⟨i,by rw[KN,JB,hi];rfl,by rw[key,hi];exact h2⟩
 refine⟨⟨m,((cR m (fo o)).map (·.1)).toArray, #[],fg,ld,mv,pl⟩,((cR m (fo o)).map (·.2)).toArray,?_,by simpa using hall,hsz,⟨⟨hm,rfl,?_,?_,?_,?_⟩,?_⟩,rfl,rfl,rfl⟩
 ·unfold laid
  rw[e]
  rfl
 ·rw[hsz]
  show(((cR m (fo o)).map (·.1)).toArray).size=_
  rw[Jt,Jl,sY L,hlen]
 ·exact Eo (List.Pairwise.sublist (nU _ _) List.pairwise_lt_range)
 ·intro i a h
  have h':(((cR m (fo o)).map (·.1)).toArray)[i]? =some a:=h
  rw[KN]at h'
  obtain⟨p,hp,rfl⟩:=JY.mp (JM h')
  have:=(nV.mp hp).1
  show p.1<=m
  omega
 ·intro j x hx
  obtain⟨k,h1,h2⟩:=(hat j x).mp hx
  obtain⟨h3,h4⟩:=nV.mp h1
  obtain⟨y,g1,n,g2,g3⟩:=L.way j k (nS.mp h4)
  have ey:y=x.1:=by
   rw[JL,Array.getElem?_map,h2]at g1
   cases g1;rfl
  subst ey
  refine⟨n,g2,fun i hi=>?_⟩
  obtain⟨k',g5⟩:=g3 i hi
  have hlt:(bJ m x.1 i).j<m+1:=by rw[<-L.siz];exact(JD.mp g5).1
  have hm':=nV.mpr ⟨hlt,nS.mpr g5⟩
  obtain⟨e',g6⟩:=hk _ hm'
  exact⟨e',(hat _ _).mpr ⟨k',hm',g6⟩⟩
 ·rw[hsz];exact hf
theorem xP{t:SetTable}{es:Array Ent}(hn:es.size=5):∃(t':SetTable) (order:Array Nat),t.relaid (es.map (·.1)) (SetTable.grown 5)=some (t',order)/\order.toList.Perm (List.range es.size)/\(order.filterMap (es[·]?)).size=es.size/\
  TOk t' (order.filterMap (es[·]?))/\t'.led=t.led/\t'.plain=t.plain:=by
 obtain⟨t',o,h1,h2,h2',h3,h4,h5,_⟩:=B6 (es:=es) (m:=31) (.inr rfl) (by rw[hn];decide) t.finger (t.movedTo 31) t.led t.plain
 exact⟨t',o,h1,h2,h2',h3,h4,h5⟩
end S4
namespace S4
open PySem PySem.Spec PyProof.Rows
section
variable {prog:Program}{w:World}{A:Around}{E:Value->Shared->Prop}{s:Shared}
theorem items_int{ks:List Int}{vs:List Value}(h:ItemsAre (intKind prog w) ks vs):∀ v∈vs,∃ n t,v=Value.int n t:=by
 induction h with
 |nil=>intro v hv;cases hv
 | cons h1 _ ih=>
  intro v hv
  rcases JC.mp hv with rfl|hv
  ·obtain⟨t,e⟩:=Value.isInt_shape h1
   exact⟨_,t,e⟩
  ·exact ih v hv
theorem xQ{ks:List Int}{a:Addr}{Q:Bool->Shared->Prop}(hk:IsTupleKey (intKind prog w) s.heap ks a)(h:Q true s):wpAny (model prog w) A (hashByValue 8 (.ref a)) Q E s:=by
 have hT:=hk.typeIs
 obtain⟨o,items,n,ho,_,hd,hi⟩:=hk
 unfold hashByValue
 refine Jg (wpAny_specialOf hT F.slot_tuple_hash.lookup ?_)
 show wpAny _ _ (seqItems? (.ref a)>>=_) _ _ s
 refine Jg (Ks ho hd ?_)
 refine Jg ?_
 show wpAny _ _ (forIn items _ _) _ _ s
 rw[<-Array.forIn_toList]
 refine L8 _ (fun rest r s'=>r.1=none/\s'=s/\∀ v∈rest,∃ n t,v=Value.int n t) _ ?_ ?_ _ _ ⟨rfl,rfl,items_int hi⟩
 ·rintro v rest r s' ⟨hr,rfl,hall⟩
  obtain⟨i,t,rfl⟩:=hall v Jy
  refine Jg ?_
  unfold hashByValue
  refine Ji ?_
  simp only[Bool.not_true,Bool.false_eq_true,if_false]
  exact Ji ⟨rfl,rfl,fun u hu'=>hall u (Jr _ hu')⟩
 ·rintro⟨r1,r2⟩ s' ⟨hr,rfl,_⟩
  simp only at hr
  subst hr
  exact Ji h
theorem mn{ks:List Int}{a:Addr}{Q:Bool->Shared->Prop}(hk:IsTupleKey (intKind prog w) s.heap ks a)(h:Q false s):wpAny (model prog w) A (ofAClassStatement 8 (.ref a)) Q E s:=by
 have hT:=hk.typeIs
 obtain⟨o,items,n,ho,_,hd,hi⟩:=hk
 unfold ofAClassStatement
 refine Jg (Lr hT ?_)
 simp only
 rw[if_pos (by decide)]
 refine Jg (Ji ?_)
 simp only[Bool.not_true,Bool.false_eq_true,if_false]
 refine Jg (Ks ho hd ?_)
 simp only
 refine Jg ?_
 show wpAny _ _ (forIn items _ _) _ _ s
 rw[<-Array.forIn_toList]
 refine L8 _ (fun rest r s'=>r.1=none/\s'=s/\∀ v∈rest,∃ n t,v=Value.int n t) _ ?_ ?_ _ _ ⟨rfl,rfl,items_int hi⟩
 ·rintro v rest r s' ⟨hr,rfl,hall⟩
  obtain⟨i,t,rfl⟩:=hall v Jy
  refine Jg ?_
  unfold ofAClassStatement
  refine Ji ?_
  simp only[Bool.false_eq_true,if_false]
  exact Ji ⟨rfl,rfl,fun u hu'=>hall u (Jr _ hu')⟩
 ·rintro⟨r1,r2⟩ s' ⟨hr,rfl,_⟩
  simp only at hr
  subst hr
  exact Ji h
theorem Ep{kx:List Int}{ax:Addr}(hx:IsTupleKey (intKind prog w) s.heap kx ax){ys:List Value}(hy:∀ y∈ys,∃ k a,y= .ref a/\IsTupleKey (intKind prog w) s.heap k a){Q:Bool->Shared->Prop}(h:Q false s):
  wpAny (model prog w) A (searchCouldBeSeen (.ref ax) ys) Q E s:=by
 unfold searchCouldBeSeen
 refine Jg ?_
 refine L8 _ (fun rest r s'=>r.1=none/\s'=s/\∀ v∈rest,∃ k a,v= .ref a/\IsTupleKey (intKind prog w) s.heap k a) _ ?_ ?_ _ _ ⟨rfl,rfl,hy⟩
 ·rintro v rest r s' ⟨hr,rfl,hall⟩
  obtain⟨k,a,rfl,hk⟩:=hall v Jy
  have tl:∀ u∈rest,∃ k a,u= .ref a/\IsTupleKey (intKind prog w) s'.heap k a:=fun u hu'=>hall u (Jr _ hu')
  simp only
  split
  ·exact Ji ⟨rfl,rfl,tl⟩
  ·refine Jg (wpAny_eqIsQuiet_tuple hx ?_)
   simp only[Bool.not_true,Bool.false_eq_true,if_false]
   refine Jg (wpAny_eqIsQuiet_tuple hk ?_)
   simp only[Bool.not_true,Bool.false_eq_true,if_false]
   refine Jg (mn hx ?_)
   simp only[Bool.false_eq_true,if_false]
   refine Jg (mn hk ?_)
   simp only[Bool.false_eq_true,if_false]
   exact Ji ⟨rfl,rfl,tl⟩
 ·rintro⟨r1,r2⟩ s' ⟨hr,rfl,_⟩
  simp only at hr
  subst hr
  exact Ji h
abbrev KA:=List Int×Addr
def gu(prog:Program)(w:World)(k:List Int):Int:=tupleKeyHash (intKind prog w) k
def ent(prog:Program)(w:World)(p:KA):Ent:=(gu prog w p.1,.ref p.2)
def vh(prog:Program)(w:World)(h:Heap)(L:List KA):Prop:=∀ p∈L,IsTupleKey (intKind prog w) h p.1 p.2
structure SetAt(prog:Program)(w:World)(h:Heap)(a:Addr)(o:Obj)(es:Array Ent)(ep:Nat)(t:SetTable)(L:List KA):Prop where
 get:h.get? a=some o
 ex:o.ExactSet
 dat:o.data= .set es ep t
 ok:TOk t es
 pln:t.plain=true
 led:t.led= !(w.params.followText "set-order")
 ents:es.toList=L.map (ent prog w)
 nd:(L.map (·.1)).Nodup
theorem SetAt.fits{h:Heap}{a:Addr}{o:Obj}{es:Array Ent}{ep:Nat}{t:SetTable}{L:List KA}(k:SetAt prog w h a o es ep t L):t.fits es.size=true:=k.ok.fits k.ok.le
theorem SetAt.ent_at{h:Heap}{a:Addr}{o:Obj}{es:Array Ent}{ep:Nat}{t:SetTable}{L:List KA}(k:SetAt prog w h a o es ep t L)(i:Nat):es[i]? =(L[i]?).map (ent prog w):=by
 rw[<-JL,k.ents,JB]
theorem SetAt.len{h:Heap}{a:Addr}{o:Obj}{es:Array Ent}{ep:Nat}{t:SetTable}{L:List KA}(k:SetAt prog w h a o es ep t L):es.size=L.length:=by
 rw[<-KU,k.ents,Jl]
theorem z8{t:SetTable}:t.sameMemory t.moves t.mask=some true:=by
 unfold SetTable.sameMemory
 simp
theorem qe{a ax:Addr}{o:Obj}{es:Array Ent}{ep:Nat}{t:SetTable}{L:List KA}{kx:List Int}(hu:A.units<cLine)(k:SetAt prog w s.heap a o es ep t L)(hL:vh prog w s.heap L)(hx:IsTupleKey (intKind prog w) s.heap kx ax)
  {K:Nat} (hK:t.slot (bJ t.mask (gu prog w kx) K).j= .empty) (hlim:K<10*SetTable.turns t.mask) {Q:SetFound->Shared->Prop}
  (hyes:kx∈L.map (·.1)->Q (.there none) s)
  (hno:kx ∉ L.map (·.1)->∀ n,t.slot (bJ t.mask (gu prog w kx) n).j= .empty->(∀ m,m<n->∃ i,t.slot (bJ t.mask (gu prog w kx) m).j= .live i)->Q (.free (bJ t.mask (gu prog w kx) n).j false) s):
  ∀(fuel n:Nat) (st:Option SetTable.Probe),st.getD (t.probeStart (gu prog w kx))=bJ t.mask (gu prog w kx) n->n<=K->K - n<fuel->
   (∀ m,m<n->∃ i,t.slot (bJ t.mask (gu prog w kx) m).j= .live i/\∀ p,L[i]? =some p->p.1≠kx)->wpAny (model prog w) A (setSearchFrom a (.ref ax) (gu prog w kx) true fuel st) Q E s
 |0,n,st,e,h1,h2,h3=>by omega
 | fuel+1,n,st,e,h1,h2,h3=>by
  have odd:t.gaveWay=false:=by
   unfold SetTable.gaveWay
   rcases k.ok.msk with h|h<;>rw[h]<;>rfl
  unfold setSearchFrom
  refine Jg (Kq k.get k.dat k.fits ?_)
  simp only
  rw[odd]
  simp only[Bool.false_eq_true,if_false]
  rw[e]
  obtain⟨n',g1,g2,g3,g4⟩:=wk k.ok.dum (fun i=>(es[i]?.map (·.1)).getD 0) (gu prog w kx) K hK (10*SetTable.turns t.mask) n h1 (by omega)
  have stored:∀(i:Nat) (p:KA),L[i]? =some p->(es[i]?.map (·.1)).getD 0=gu prog w p.1:=fun i p hp=>by
   rw[k.ent_at,hp];rfl
  have before:∀ m,m<n'->∃ i,t.slot (bJ t.mask (gu prog w kx) m).j= .live i/\∀ p,L[i]? =some p->p.1≠kx:=fun m hm=>by
   by_cases hmn:m<n
   ·exact h3 m hmn
   ·obtain⟨i,q1,q2⟩:=g3 m (by omega) hm
    refine⟨i,q1,fun p hp z=>q2 ?_⟩
    rw[stored i p hp,z]
  rcases g4 with⟨c1,c2⟩|⟨i,c1,c2,c3⟩
  ·generalize hpr:t.probe _ (gu prog w kx) (bJ t.mask (gu prog w kx) n)=pr
   have ep:pr=some (.empty (bJ t.mask (gu prog w kx) n').j none):=hpr.symm.trans c2
   subst ep
   simp only
   refine Ji (hno (fun hmem=>?_) n' c1 fun m hm=>let ⟨i,q,_⟩:=before m hm;⟨i,q⟩)
   obtain⟨p,hp,rfl⟩:=JY.mp hmem
   obtain⟨ip,hip⟩:=K7.mp hp
   have hes:es[ip]? =some (ent prog w p):=by rw[k.ent_at,hip];rfl
   have hpl:ip<t.place.size:=by rw[k.ok.siz];exact(JD.mp hes).1
   have hat:At t.place es t.place[ip] (ent prog w p):=⟨ip,Jq hpl,hes⟩
   obtain⟨kk,w1,w2⟩:=k.ok.way _ _ hat
   have w1':(bJ t.mask (gu prog w p.1) kk).j=t.place[ip]:=w1
   rcases Nat.lt_or_ge kk n' with l|l
   ·obtain⟨i,q1,q2⟩:=before kk l
    rw[w1',mW k.ok.ris (Jq hpl)]at q1
    cases q1
    exact q2 p hip rfl
   ·rcases Nat.eq_or_lt_of_le l with l|l
    ·subst l
     rw[w1',mW k.ok.ris (Jq hpl)]at c1
     cases c1
    ·obtain⟨e',i',q1,_⟩:=w2 n' l
     have q1':t.place[i']? =some (bJ t.mask (gu prog w p.1) n').j:=q1
     rw[mW k.ok.ris q1']at c1
     cases c1
  ·generalize hpr:t.probe _ (gu prog w kx) (bJ t.mask (gu prog w kx) n)=pr
   have ep:pr=some (.candidate (bJ t.mask (gu prog w kx) n').j i (bJ t.mask (gu prog w kx) (n'+1))):=hpr.symm.trans c3
   subst ep
   simp only
   have hi:i<es.size:=by rw[<-k.ok.siz];exact(JD.mp (lJ c1)).1
   have hiL:i<L.length:=by rw[<-k.len];exact hi
   have hp:L[i]? =some L[i]:=Jk hiL
   have hes:es[i]? =some (ent prog w L[i]):=by rw[k.ent_at,hp];rfl
   have hkey:IsTupleKey (intKind prog w) s.heap L[i].1 L[i].2:=hL _ (Km hiL)
   have hys:∀ y∈List.map (fun x:Ent=>x.snd) (Array.filter (fun x:Ent=>x.fst==gu prog w kx) es).toList,∃ k a,y= .ref a/\IsTupleKey (intKind prog w) s.heap k a:=fun y hy=>by
    obtain⟨e1,h1,rfl⟩:=JY.mp hy
    have h1':e1∈es.toList:=by
     have:=Ma.mp h1
     exact Ma.mpr (Array.mem_filter.mp this).1
    rw[k.ents]at h1'
    obtain⟨p,hp,rfl⟩:=JY.mp h1'
    exact⟨p.1,p.2,rfl,hL p hp⟩
   split
   case' isTrue=>
    refine Jg (Ep hx hys ?_)
    simp only[Bool.false_eq_true,if_false]
   all_goals
    rw[hes]
    simp only[ent]
    refine Jg (JX (wpAny_eqBool_tuple hu hkey hx ?_))
    refine Jg (Kq k.get k.dat k.fits ?_)
    by_cases hq:L[i].1=kx
    ·rw[JK hq]
     simp only[Bool.and_self,if_true]
     exact Ji (hyes (JY.mpr ⟨_,Km hiL,hq⟩))
    ·rw[JW hq]
     simp only[Bool.and_false,Bool.false_eq_true,if_false]
     rw[z8]
     simp only[if_true]
     rw[c1]
     simp only
     rw[hes]
     simp only[ent]
     refine Jg (wpAny_isSame_ref_self (Jg (Ji ?_)))
     simp only[if_true]
     refine qe hu k hL hx hK hlim hyes hno fuel (n'+1) _ rfl ?_ ?_ fun m hm=>?_
     ·have:n'≠K:=fun z=>by subst z;rw[hK]at c1;cases c1
      omega
     ·have:n'≠K:=fun z=>by subst z;rw[hK]at c1;cases c1
      omega
     ·by_cases hmn:m<n'
      ·exact before m hmn
      ·have:m=n':=by omega
       subst this
       exact⟨i,c1,fun p hp'=>by rw[hp]at hp';cases hp';exact hq⟩
end
def Gp(L:List KA)(p:KA)(L':List KA):Prop:=(p.1∈L.map (·.1)/\L'=L)\/(p.1 ∉ L.map (·.1)/\L'.Perm (p::L))
section
variable {prog:Program}{w:World}{A:Around}{E:Value->Shared->Prop}{s:Shared}
theorem wo{h:Heap}{a:Addr}{o:Obj}{es es':Array Ent}{ep:Nat}{t t':SetTable}(ho:h.get? a=some o)(hd:o.data= .set es ep t):(h.update a (Obj.putSet es' t')).get? a=some {o with data:=.set es' (ep+1) t'}:=by
 have:=J3 (Obj.putSet es' t') ho (by rw[putSet_of es' t' hd];rfl)
 rw[putSet_of es' t' hd]at this;exact this
theorem Er{a ax:Addr}{o:Obj}{es:Array Ent}{ep:Nat}{t:SetTable}{L:List KA}{kx:List Int}(hu:A.units<cLine)(k:SetAt prog w s.heap a o es ep t L)(hL:vh prog w s.heap L)(hx:IsTupleKey (intKind prog w) s.heap kx ax)
  (hfew:L.length<18) {Q:Bool->Shared->Prop}
  (h:∀ b h' o' es' ep' t' L',SetAt prog w h' a o' es' ep' t' L'->Heap.SameBut a s.heap h'->Gp L (kx,ax) L'->Q b {s with heap:=h'}):
  wpAny (model prog w) A (setAddHashed a (.ref ax) (gu prog w kx)) Q E s:=by
 obtain⟨j0,hj0,hf0⟩:=xM k.ok.ris k.ok.dum (by rw[k.ok.siz];exact k.ok.le)
 obtain⟨K,hK1,hK2⟩:=cover k.ok.msk (gu prog w kx) j0 hj0
 have hlim:10*SetTable.turns t.mask<=100000:=by
  unfold SetTable.turns
  rcases k.ok.msk with z|z<;>rw[z]<;>decide
 unfold setAddHashed setAddHashedIn
 refine JX (Jg (Kq k.get k.dat k.fits ?_))
 have hsc:byScan (.ref ax) es=false:=by simp[byScan,Value.scannable]
 simp only[hsc,Bool.false_eq_true,if_false]
 unfold setSearch
 refine Jg ?_
 refine qe hu k hL hx (by rw[hK2];exact hf0) hK1 ?_ ?_ 100000 0 none rfl (JE _) (by omega) (fun m hm=>by omega)
 ·intro hmem
  simp only
  refine Ji ?_
  have e:s={s with heap:=s.heap}:=by cases s;rfl
  rw[e]
  exact h _ s.heap o es ep t L k (Heap.SameBut.refl a s.heap) (.inl ⟨hmem,rfl⟩)
 ·intro hmem n hn hb
  simp only
  refine Jg (Kq k.get k.dat k.fits ?_)
  generalize hj:(bJ t.mask (gu prog w kx) n).j=j at hn
  have hjle:j<=t.mask:=by
   rw[<-hj]
   rcases Nat.eq_zero_or_pos n with z|z
   ·subst z
    show SetTable.bits _ % (t.mask+1)<=t.mask
    have:=MD (SetTable.bits (gu prog w kx)) (show t.mask+1>0 by omega)
    omega
   ·exact B4 _ _ _ k.ok.msk
  obtain⟨p1,p2,p3,p4⟩:=En (e:=ent prog w (kx,ax)) (K:=n) k.ok.toTPre hjle hn hj fun m hm=>by
   obtain⟨i,q⟩:=hb m hm
   obtain⟨e',_,q'⟩:=k.ok.toTPre.at_of (lJ q)
   exact⟨e',q'⟩
  generalize hP:t.put j=P at p1 p2 p3 p4 ⊢
  obtain⟨t1,pp⟩:=P
  simp only at p1 p2 p3 p4 ⊢
  have p1:TPre t1 (SetTable.insertAt es pp (gu prog w kx,Value.ref ax)):=p1
  rw[if_pos (by rw[p4];exact k.pln)]
  refine Jg (xQ hx ?_)
  simp only[if_true]
  have hsz1:(SetTable.insertAt es pp (gu prog w kx,Value.ref ax)).size=es.size+1:=nR _ _ _
  have hlen:=k.len
  refine Jg (wpAny_storeSet_of k.get k.dat ?_ (by rw[hsz1,J6];omega))
  have g1:=wo (es':=SetTable.insertAt es pp (gu prog w kx,Value.ref ax)) (t':=t1) k.get k.dat
  have sb1:=Kr s.heap a (Obj.putSet (SetTable.insertAt es pp (gu prog w kx,Value.ref ax)) t1)
  have ents1:(SetTable.insertAt es pp (gu prog w kx,Value.ref ax)).toList=(L.take pp++(kx,ax)::L.drop pp).map (ent prog w):=by
   rw[SetTable.toList_insertAt,k.ents,Kt,JT,List.map_take,List.map_drop];rfl
  have perm1:(L.take pp++(kx,ax)::L.drop pp).Perm ((kx,ax)::L):=by
   have:=List.perm_middle (a:=(kx,ax)) (l₁:=L.take pp) (l₂:=L.drop pp)
   rwa [List.take_append_drop]at this
  have nd1:((kx::L.map (·.1))).Nodup:=Ke.mpr ⟨hmem,k.nd⟩
  have ndP:∀ L':List KA,L'.Perm ((kx,ax)::L)->(L'.map (·.1)).Nodup:=fun L' hp=>(Lo (hp.map (fun p:KA=>p.1))).mpr nd1
  by_cases hful:t1.tooFull=true
  ·rw [hful]
   simp only[Bool.not_false,Bool.and_self,if_true]
   have hfull:(es.size+1)*5 ≥ t.mask*3:=by
    unfold SetTable.tooFull SetTable.fill at hful
    rw[p1.siz,p1.dum,p2,hsz1]at hful
    simpa using hful
   have h5:es.size+1=5:=by
    have:=k.ok.few
    rcases k.ok.msk with z|z<;>rw[z]at hfull this<;>omega
   obtain⟨t2,ord,r1,r2,r3,r4,r5,r6⟩:=xP (t:=t1) (es:=SetTable.insertAt es pp (gu prog w kx,Value.ref ax)) (by rw[hsz1];exact h5)
   have fit1:t1.fits (SetTable.insertAt es pp (gu prog w kx,Value.ref ax)).size=true:=p1.fits (by
    rw[hsz1,p2]
    have:=k.ok.few
    rcases k.ok.msk with z|z<;>rw[z]at this ⊢<;>omega)
   unfold setRelay
   refine Jg (Jg (Kq (s:={s with heap:=s.heap.update a (Obj.putSet (SetTable.insertAt es pp (gu prog w kx,Value.ref ax)) t1)}) g1 rfl fit1 ?_))
   simp only
   rw[h5]
   rw[if_neg (by rw[J6];decide)]
   rw[r1]
   refine Jg ?_
   have step:∀(R:Array Ent×SetTable->Shared->Prop) (s1:Shared),R (ord.filterMap ((SetTable.insertAt es pp (gu prog w kx,Value.ref ax))[·]?),t2) s1->
     wpAny (model prog w) A (if ((ord.filterMap ((SetTable.insertAt es pp (gu prog w kx,Value.ref ax))[·]?)).size !=(SetTable.insertAt es pp (gu prog w kx,Value.ref ax)).size)=true
      then (do unsupported "internal:set-table-lost-an-element";pure (ord.filterMap ((SetTable.insertAt es pp (gu prog w kx,Value.ref ax))[·]?),t2))else pure (ord.filterMap ((SetTable.insertAt es pp (gu prog w kx,Value.ref ax))[·]?),t2)) R E s1:=fun R s1 hR=>by
    rw[if_neg (by rw[r3];simp)]
    exact Ji hR
   refine step _ _ ?_
   refine wpAny_storeSet_of (s:={s with heap:=s.heap.update a (Obj.putSet (SetTable.insertAt es pp (gu prog w kx,Value.ref ax)) t1)}) g1 rfl ?_ (by rw[r3,hsz1,J6];omega)
   have ents2:(ord.filterMap ((SetTable.insertAt es pp (gu prog w kx,Value.ref ax))[·]?)).toList=(ord.toList.filterMap ((L.take pp++(kx,ax)::L.drop pp)[·]?)).map (ent prog w):=by
    rw[Array.toList_filterMap,List.map_filterMap]
    refine kN fun i _=>?_
    rw[<-JL,ents1,JB]
   have perm2:(ord.toList.filterMap ((L.take pp++(kx,ax)::L.drop pp)[·]?)).Perm ((kx,ax)::L):=by
    refine(r2.filterMap _).trans ?_
    have e1:(SetTable.insertAt es pp (gu prog w kx,Value.ref ax)).size=(L.take pp++(kx,ax)::L.drop pp).length:=by
     rw[<-KU,ents1,Jl]
    rw[e1,List.filterMap_getElem?_range_length]
    exact perm1
   refine Ji (h _ _ _ _ _ _ _ ⟨wo g1 rfl,k.ex,rfl,r4,by rw[r6,p4];exact k.pln,by rw[r5,p3];exact k.led,ents2,ndP _ perm2⟩ (sb1.trans (Kr _ a _)) (.inr ⟨hmem,perm2⟩))
  ·simp only[hful,Bool.and_false,Bool.false_eq_true,if_false]
   refine Ji ?_
   refine h _ _ _ _ _ _ _ ⟨g1,k.ex,rfl,⟨p1,?_⟩,by rw[p4];exact k.pln,by rw[p3];exact k.led,ents1,ndP _ perm1⟩ sb1 (.inr ⟨hmem,perm1⟩)
   unfold SetTable.tooFull SetTable.fill at hful
   rw[p1.siz,p1.dum]at hful
   have hful':¬ (SetTable.insertAt es pp (gu prog w kx,Value.ref ax)).size*5 ≥ t1.mask*3:=by simpa using hful
   exact Nat.lt_of_not_ge hful'
end
theorem vi{prog:Program}{w:World}{h h':Heap}{k:List Int}{a:Addr}(x:IsTupleKey (intKind prog w) h k a)(e:∀ o,h.get? a=some o->h'.get? a=some o):IsTupleKey (intKind prog w) h' k a:=
 let ⟨o,its,n,ho,r⟩:=x
 ⟨o,its,n,e o ho,r⟩
theorem SetAt.at{prog:Program}{w:World}{h h':Heap}{a:Addr}{o:Obj}{es:Array Ent}{ep:Nat}{t:SetTable}{L:List KA}(k:SetAt prog w h a o es ep t L)(e:∀ o,h.get? a=some o->h'.get? a=some o):SetAt prog w h' a o es ep t L:=
 {k with get:=e o k.get}
structure Folded(kv L:List KA):Prop where
 nd:(L.map (·.1)).Nodup
 mem:∀ k,k∈L.map (·.1)↔k∈kv.map (·.1)
 sub:∀ p∈L,p∈kv
 len:L.length<=kv.length
theorem Folded.nil:Folded [] []:=⟨.nil,fun _=>.rfl,fun _ h=>h,Jj _⟩
theorem Folded.add{kv L L':List KA}{p:KA}(f:Folded kv L)(h:Gp L p L'):Folded (kv++[p]) L':=by
 rcases h with⟨h1,rfl⟩|⟨h1,h2⟩
 ·refine⟨f.nd,fun k=>?_,fun q hq=>Ld _ (f.sub q hq),by have:=f.len;simp;omega⟩
  rw[f.mem,Kt,Lw]
  refine⟨.inl,fun z=>z.elim id fun z=>?_⟩
  have:k=p.1:=by simpa using z
  rw[this];exact(f.mem _).mp h1
 ·have hm:=h2.map (fun q:KA=>q.1)
  refine⟨(Lo hm).mpr (Ke.mpr ⟨h1,f.nd⟩),fun k=>?_,fun q hq=>?_,by have:=f.len;rw[h2.length_eq];simp;omega⟩
  ·rw[hm.mem_iff,JT,JC,f.mem,Kt,Lw]
   constructor
   ·rintro(rfl|z)
    ·exact .inr (by simp)
    ·exact .inl z
   ·rintro(z|z)
    ·exact .inr z
    ·exact .inl (by simpa using z)
  ·rcases JC.mp (h2.mem_iff.mp hq)with rfl|z
   ·exact JA _ (List.mem_singleton.mpr rfl)
   ·exact Ld _ (f.sub q z)
section
variable {prog:Program}{w:World}{A:Around}{R:Result->Shared->Prop}{I:Addr}{fp wr:List Addr}{G:Array GenState->Array GenState->Prop}{n:Nat}{P:Nat->Value->Prop}{St:Nat->Shared->Prop}
theorem B7(W:WalksS prog w A.in1 I fp wr G n P St){S:Addr}(hSf:S ∉ fp)(kv:Nat->KA)(hval:∀ i v,P i v->v= .ref (kv i).2)(hn:n<=18)(hu:A.in1.units<cLine)(hkw:∀ i,i<n->(kv i).2 ∉ S::wr):
  ∀(c i:Nat) (s:Shared),n - i=c->i<=n->St i s->(∀ j,j<n->IsTupleKey (intKind prog w) s.heap (kv j).1 (kv j).2)->∀ o es ep t L,SetAt prog w s.heap S o es ep t L->Folded ((List.range i).map kv) L->
   (∀ s',Moved (S::wr) G s s'->∀ o es ep t L,SetAt prog w s'.heap S o es ep t L->Folded ((List.range n).map kv) L->R (.ok (.ret .none)) s')->
   codeAny (model prog w) A (.builtin "set.update.loop" ⟨[.ref S,.ref I],[]⟩) R s:=by
 have hSw:S ∉ wr:=fun h=>hSf (W.sub _ h)
 have hsub:∀ b∈wr,b∈S::wr:=fun b hb=>Jr _ hb
 intro c
 induction c with
 |zero=>
  intro i s hc hi hst hk o es ep t L hS hF hR
  obtain rfl:i=n:=by omega
  refine KR F.entry_set_update_loop ?_
  rw[KP LB _]
  show wpAny _ A.in1 (pyNext (.ref I)>>=_) _ _ s
  refine Jg (W.done s _ _ hst fun s' hm=>?_)
  show wpAny _ A.in1 (ret Value.none) _ _ s'
  exact Ji (hR s' (hm.mono hsub) o es ep t L (hS.at fun o' e=>hm.heap S o' hSw e) hF)
 | succ c ih=>
  intro i s hc hi hst hk o es ep t L hS hF hR
  have hlt:i<n:=by omega
  refine KR F.entry_set_update_loop ?_
  rw[KP LB _]
  show wpAny _ A.in1 (pyNext (.ref I)>>=_) _ _ s
  refine Jg (W.item i s _ _ hlt hst fun v s' hP hst' hm=>?_)
  cases hval i v hP
  have hS':=hS.at (h':=s'.heap) fun o' e=>hm.heap S o' hSw e
  have hk':∀ j,j<n->IsTupleKey (intKind prog w) s'.heap (kv j).1 (kv j).2:=fun j hj=>vi (hk j hj) fun o' e=>hm.heap _ o' (fun z=>hkw j hj (hsub _ z)) e
  show wpAny _ A.in1 (holding [Value.ref (kv i).2] (setAdd S (.ref (kv i).2))>>=_) _ _ s'
  refine Jg (JX ?_)
  unfold setAdd
  refine JX ?_
  refine Jg (wpAny_pyHash_tuple hu (hk' i hlt) ?_)
  have hLn:L.length<=i:=by have:=hF.len;simpa using this
  have hKL:vh prog w s'.heap L:=fun p hp=>by
   obtain⟨j,hj,rfl⟩:=JY.mp (hF.sub p hp)
   exact hk' j (Mt (JG.mp hj) hlt)
  refine Er (s:={s' with toks:=s'.toks+((kv i).1.length+1)}) hu hS' hKL (hk' i hlt) (by omega) fun b h' o' es' ep' t' L' hS2 hsb hA=>?_
  have hF':Folded ((List.range (i+1)).map kv) L':=by
   rw[List.range_succ,Kt]
   exact hF.add hA
  refine Ji ⟨MM LB _,ih (i+1) _ (by omega) hlt (W.frame _ s' _ _ hst' (KZ _ _) fun b hb o e=>?_) (fun j hj=>vi (hk' j hj) fun o e=>?_) _ _ _ _ _ hS2 hF' fun s'' hm''=>?_⟩
  ·rw[hsb.2 b (fun h:b=S=>hSf (by rw[<-h];exact hb))];exact e
  ·rw[hsb.2 _ (fun h=>hkw j hj (by rw[h];exact Jy))];exact e
  ·refine hR s'' (Moved.trans W.gtrans ((hm.mono hsub).then_heap (KZ _ _) fun b o hb e=>?_) hm'')
   rw[hsb.2 b (fun h:b=S=>hb (by rw[h];exact Jy))];exact e
end
section
variable {prog:Program}{w:World}{A:Around}{E:Value->Shared->Prop}{s:Shared}
theorem td:isSubtype (.type "tuple") (.type "set")=pure false:=by rw[L3];kernel_rfl
theorem rg:isSubtype (.type "tuple") (.type "frozenset")=pure false:=by rw[L3];kernel_rfl
def bp(led:Bool):Obj:={cls:=.type "set",dict:=none,data:=.set #[] 0 (.fresh 0 0 led)}
def cK(w:World):Bool:= !(w.params.followText "set-order")
def Src(h:Heap)(x:Addr)(items:Array Value):Prop:=h.IsList x items\/h.IsTuple x items
theorem Src.at{h h':Heap}{x:Addr}{items:Array Value}(r:Src h x items)(e:∀ o,h.get? x=some o->h'.get? x=some o):Src h' x items:=by
 rcases r with⟨o,ho,r⟩|⟨o,ho,r⟩
 ·exact .inl ⟨o,e o ho,r⟩
 ·exact .inr ⟨o,e o ho,r⟩
theorem Src.lt{h:Heap}{x:Addr}{items:Array Value}(r:Src h x items):x<h.objs.size:=by
 rcases r with⟨o,ho,_⟩|⟨o,ho,_⟩<;>exact Jm ho
theorem tj{x:Addr}{items:Array Value}(r:Src s.heap x items){Q:Value->Shared->Prop}
  (h:∀(ob:Obj) (St:Nat->Heap->Prop),(∀ A':Around,A'.handled=none->Walks prog w A' s.heap.objs.size [s.heap.objs.size,x] [s.heap.objs.size] items.size (fun i v=>items[i]? =some v) St)->St 0 (s.heap.push ob)->
   Q (.ref s.heap.objs.size) {s with heap:=s.heap.push ob}):wpAny (model prog w) A (pyIter (.ref x)) Q E s:=by
 have hne:x≠s.heap.objs.size:=Jv r.lt
 rcases r with r|r
 ·refine LR r (h _ _ (fun A' hh=>Walks.list hh s.heap.objs.size x hne items) ⟨⟨_,Jo _ rfl,rfl,rfl⟩,r.push _⟩)
 ·refine Lx r (h _ _ (fun A' hh=>Walks.tuple hh s.heap.objs.size x hne items) ⟨⟨_,Jo _ rfl,rfl,rfl⟩,?_⟩)
  obtain⟨o,ho,q⟩:=r
  exact⟨o,Jh _ ho,q⟩
theorem Gq(a:Value){Q1:Value->Shared->Prop}(h:Q1 (.ref s.heap.objs.size) {s with heap:=s.heap.push (bp (cK w))}):
  codeAny (model prog w) A (.call (.builtin "set.__new__") ⟨[.type "set",a],[]⟩) (wants Q1 E) s:=by
 refine LC ?_
 show wpAny _ A.in1 (do checkBuiltinCall "set.__new__" ⟨[.type "set",a],[]⟩;again (.builtin "set.__new__" ⟨[.type "set",a],[]⟩)) _ _ s
 refine Jg (MZ (F.newCall_set_1 a) (Ji ⟨MM F.plain_set_new _,KR F.entry_set_new ?_⟩))
 rw[KP F.plain_set_new _]
 unfold Builtin.«set.__new__» Builtin.Frozenset.newClass
 have hsub:=sub_set_self
 obtain⟨hp,g,d,tk,os⟩:=s
 dsimp only
 wp_walk
 refine K1 (Ji ?_)
 dsimp only
 simp only[newObj]
 exact Jg (wpAny_alloc (Ji (Ji h)))
theorem tm{x:Addr}{items:Array Value}(r:Src s.heap x items):∃ T,s.TypeIs (.ref x) T/\isSubtype (.type T) (.type "set")=pure false/\isSubtype (.type T) (.type "frozenset")=pure false/\(Value.type T==Value.type "dict")=false:=by
 rcases r with⟨o,ho,hc,_⟩|⟨o,ho,hc,_⟩
 ·exact⟨"list",⟨o,ho,hc⟩,F.sub_list_set,F.sub_list_frozenset,by decide⟩
 ·exact⟨"tuple",⟨o,ho,hc⟩,td,rg,by decide⟩
set_option maxHeartbeats 8000000 in
theorem Es{x:Addr}{items:Array Value}(hh:A.handled=none)(hu:A.in1.in1.in1.units<cLine)(r:Src s.heap x items)(kv:Nat->KA)(hval:∀(i:Nat) (v:Value),items[i]? =some v->v= .ref (kv i).2)(hn:items.size<=18)
  (hk:∀ j,j<items.size->IsTupleKey (intKind prog w) s.heap (kv j).1 (kv j).2) {Q:Value->Shared->Prop}
  (h:∀(h':Heap) (tk:Nat) o es ep t L,SetAt prog w h' s.heap.objs.size o es ep t L->Folded ((List.range items.size).map kv) L->(∀ b o,b<s.heap.objs.size->s.heap.get? b=some o->h'.get? b=some o)->
   Q (.ref s.heap.objs.size) {s with heap:=h',toks:=tk}):wpAny (model prog w) A (call (.type "set") [.ref x]) Q E s:=by
 obtain⟨c,tl,hmro⟩:=F.called_set.mro
 have hmade:=F.called_set.made
 have hsub:=F.called_set.sub
 refine Lp (LC ?_)
 show wpAny _ _ (callAny (.type "set") _) _ _ _
 refine Ji ⟨LD _ (by decide+kernel),KR F.entry_type_call ?_⟩
 rw[Around.under_plain (weight_type_call_type "set" [.ref x] []) rfl]
 have h1:=F.called_set.notType
 have h2:=F.called_set.canCreate
 have hct:=F.typeCall_set_1 (.ref x)
 repeat (any_goals (first|assumption|wp_step))
 refine KE (Gq (.ref x) (E:=E) (Q1:=fun obj s1=>obj= .ref s.heap.objs.size/\s1={s with heap:=s.heap.push (bp (cK w))}) ⟨rfl,rfl⟩) fun rr s1 hr=>?_
 cases rr with
 |error e=>exact hr
 | ok fl=>
  cases fl with
  | ret obj=>
   obtain⟨rfl,rfl⟩:=hr
   have hS:(s.heap.push (bp (cK w))).get? s.heap.objs.size=some (bp (cK w)):=Jo _ rfl
   have hT:Shared.TypeIs {s with heap:=s.heap.push (bp (cK w))} (.ref s.heap.objs.size) "set":=⟨_,hS,rfl⟩
   have hli:=F.called_set.init.lookup
   have hbi:=F.called_set.init.bind (.ref s.heap.objs.size)
   repeat (any_goals (first|assumption|wp_step))
   refine KE (Le (R:=wants (fun r s2=>r= .none/\Q (.ref s.heap.objs.size) s2) E) F.called_set.init.plain F.entry_set_init (check_set_init_1 hT ?_)) fun r2 s2 hr2=>?_
   ·have r1:Src (s.heap.push (bp (cK w))) x items:=r.at fun o e=>Jh _ e
    obtain⟨Tx,hTx,hs1,hs2,hd⟩:=tm (s:={s with heap:=s.heap.push (bp (cK w))}) r1
    unfold Builtin.«set.__init__» noKeywords Builtin.Frozenset.updateFrom
    generalize hPI:pyIter=PI
    have hTs:=hT
    unfold bp at hS
    wp_walk
    subst hPI
    refine tj (s:={s with heap:=s.heap.push (bp (cK w))}) r1 fun ob St W hst=>?_
    refine Jg (MY ?_)
    have hxS:x<s.heap.objs.size:=r.lt
    have hsz:(s.heap.push (bp (cK w))).objs.size=s.heap.objs.size+1:=Ka _ _
    have hSf:s.heap.objs.size ∉ [(s.heap.push (bp (cK w))).objs.size,x]:=by
     rw[hsz]
     simp only[List.mem_cons,List.not_mem_nil,or_false,not_or]
     exact⟨Jv (Lk _),KD hxS⟩
    have hh3:A.in1.in1.in1.handled=none:=by simp[hh]
    have up:∀ b o,s.heap.get? b=some o->((s.heap.push (bp (cK w))).push ob).get? b=some o:=fun b o e=>Jh _ (Jh _ e)
    have hklt:∀ j,j<items.size->(kv j).2<s.heap.objs.size:=fun j hj=>let ⟨_,_,_,e,_⟩:=hk j hj;Jm e
    have S0:SetAt prog w ((s.heap.push (bp (cK w))).push ob) s.heap.objs.size (bp (cK w)) #[] 0 (.fresh 0 0 (cK w)) []:=
     ⟨Jh _ (Jo _ rfl),⟨rfl,rfl,rfl⟩,rfl,zX _,rfl,rfl,rfl,.nil⟩
    refine B7 ((W _ hh3).toS) hSf kv hval hn hu (fun j hj=>?_) (items.size - 0) 0 _ rfl (JE _) hst (fun j hj=>vi (hk j hj) fun o e=>up _ o e) _ _ _ _ _ S0 .nil fun s' hm o es ep t L hS' hF=>?_
    ·rw[hsz]
     have:=hklt j hj
     simp only[List.mem_cons,List.not_mem_nil,or_false,not_or]
     exact⟨Jv this,Jv (Ki this)⟩
    ·obtain⟨h',g',d',tk',os'⟩:=s'
     have eg:g'=s.gens:=hm.gens
     have ed:d'=s.drawn:=hm.drawn
     have eo:os'=s.os:=hm.os
     subst eg ed eo
     show wpAny _ _ _ _ _ _
     refine Ji ?_
     show wpAny _ _ (ret Value.none) _ _ _
     refine Ji ⟨rfl,h h' tk' o es ep t L hS' hF fun b o hb e=>?_⟩
     refine hm.heap b o ?_ (up b o e)
     rw[hsz]
     simp only[List.mem_cons,List.not_mem_nil,or_false,not_or]
     exact⟨Jv hb,Jv (Ki hb)⟩
   ·cases r2 with
    |error e=>exact hr2
    | ok fl2=>
     cases fl2 with
     |ret rv=>
      obtain⟨rfl,hq⟩:=hr2
      repeat (any_goals (first|assumption|wp_step))
     |_=>exact hr2.elim
  |_=>exact hr.elim
end
theorem nW{α:Type}:∀{l:List α} {i:Nat} {x:α},l[i]? =some x->l.Perm (x::l.eraseIdx i)
 |[],_,_,h=>by simp at h
 |y::l,0,x,h=>by simp at h;subst h;exact .refl _
 |y::l,i+1,x,h=>by
  have:=nW (l:=l) (i:=i) (x:=x) (by simpa using h)
  rw[List.eraseIdx_cons_succ]
  exact(List.Perm.cons y this).trans (.swap _ _ _)
theorem wq{α:Type}(next:Nat->Nat):∀(fuel k:Nat) (left:List α) (out:Array α),left.length=fuel->(pickOrder.go next fuel k left out).toList.Perm (out.toList++left)
 |0,k,left,out,h=>by
  have:left=[]:=List.length_eq_zero_iff.mp h
  subst this
  unfold pickOrder.go
  simp
 |fuel+1,k,left,out,h=>by
  unfold pickOrder.go
  have hlt:next k % left.length<left.length:=MD _ (by omega)
  have hq:left[next k % left.length]? =some left[next k % left.length]:=Jk hlt
  rw[hq]
  simp only
  refine(wq next fuel (k+1) _ _ (by rw[Lc hlt];omega)).trans ?_
  rw[Array.toList_push,JH]
  exact List.Perm.append_left _ (nW hq).symm
theorem xR{α:Type}(next:Nat->Nat)(xs:Array α):(pickOrder next xs).toList.Perm xs.toList:=by
 have:=wq next xs.size 0 xs.toList #[] (by simp)
 simpa [pickOrder]using this
def iU(w:World)(a:Addr)(ep:Nat)(es:Array Ent):Array Ent:=if w.params.followText "set-order"=true then pickOrder (w.params.setOrder a ep) es else es
theorem qf(w:World)(a:Addr)(ep:Nat)(es:Array Ent):(iU w a ep es).toList.Perm es.toList:=by
 unfold iU
 split
 ·exact xR _ _
 ·exact .refl _
theorem jI(w:World)(a:Addr)(ep:Nat)(es:Array Ent):(iU w a ep es).size=es.size:=by
 have:=(qf w a ep es).length_eq
 simpa using this
theorem dw:Slot "set_iterator" "__next__" "set_iterator.__next__":=
 .of (owner:="set_iterator") (n:="__next__") (by rw[MW,L5];kernel_rfl) (by decide+kernel) (by decide+kernel) (by decide+kernel)
  (by first|exact .inl (by decide+kernel)|exact .inr (by decide+kernel)) (by rw[L3];kernel_rfl)
theorem jW:entryFor table "set_iterator.__next__"=some Builtin.«set_iterator.__next__»:=entryFor_of_fast (by kernel_rfl)
theorem kO(a:Value):argsOk "set_iterator.__next__" ⟨[a],[]⟩:=by unfold argsOk;kernel_rfl
theorem nX:entryFor table "set.__iter__"=some Builtin.«frozenset.__iter__»:=
 entryFor_alias (id':="frozenset.__iter__") (by kernel_rfl) rfl (by decide+kernel) (by kernel_rfl)
section
variable {prog:Program}{w:World}{A:Around}{E:Value->Shared->Prop}{s:Shared}
def fB(w:World)(t:SetTable)(i:Nat):Nat:=if w.params.followText "set-order"=true then 0 else match i with
 |0=>0
 |i+1=>t.place.getD i 0+1
structure IterAt(w:World)(h:Heap)(I a:Addr)(t:SetTable)(sz ep i:Nat):Prop where
 ex:∃ o,h.get? I=some o/\o.cls= .type "set_iterator"/\o.data= .fields #[.int (fB w t i) 0,.int i 0,.ref a,.int sz 0,.int ep 0]
theorem IterAt.typeIs{I a:Addr}{t:SetTable}{sz ep i:Nat}(k:IterAt w s.heap I a t sz ep i):s.TypeIs (.ref I) "set_iterator":=
 let ⟨o,ho,hc,_⟩:=k.ex
 ⟨o,ho,hc⟩
theorem wt{a:Addr}{o:Obj}{es:Array Ent}{ep:Nat}{t:SetTable}{L:List KA}(k:SetAt prog w s.heap a o es ep t L){i:Nat}(hi:i<=es.size){Q:Option (Value×Nat)->Shared->Prop}
  (h:Q (((iU w a ep es)[i]?).map fun e=>(e.2,fB w t (i+1))) s):wpAny (model prog w) A (setNext a (fB w t i) i ep) Q E s:=by
 unfold setNext
 refine Jg (Kq k.get k.dat k.fits ?_)
 simp only
 unfold setsByText
 refine Jg (Jg (K1 (Ji ?_)))
 show wpAny _ _ (if (w.params.followText "set-order")=true then _ else _) _ _ s
 by_cases hw:w.params.followText "set-order"=true
 ·rw[if_pos hw]
  simp only[bne_self_eq_false,Bool.false_eq_true,if_false]
  unfold setWalk
  refine Jg (Jg (Kq k.get k.dat k.fits ?_))
  simp only
  unfold setsByText
  refine Jg (Jg (K1 (Ji ?_)))
  show wpAny _ _ (if (w.params.followText "set-order")=true then _ else _) _ _ s
  rw[if_pos hw]
  refine Jg (K1 (Ji ?_))
  refine Ji ?_
  have e1:iU w a ep es=pickOrder (w.params.setOrder a ep) es:=by unfold iU;rw[if_pos hw]
  have e2:∀ j,fB w t j=0:=fun j=>by unfold fB;rw[if_pos hw]
  rw[e1,e2]at h
  rw[e2]
  exact h
 ·rw [if_neg hw]
  have hdr:(!t.plain && decide (es.size>1))=false:=by rw[k.pln];rfl
  have hl:t.led=true:=by rw[k.led];simpa using hw
  have e1:iU w a ep es=es:=by unfold iU;rw[if_neg hw]
  have e2:∀ j,fB w t j=match j with|0=>0|j+1=>t.place.getD j 0+1:=fun j=>by unfold fB;rw[if_neg hw]
  have hb:SetTable.below t.place (fB w t i)=i:=by
   obtain⟨b1,b2,b3⟩:=nQ k.ok.ris (fB w t i)
   cases i with
   | zero=>
    rw[e2]at b1 b2 b3 ⊢
    simp only at b1 b2 b3 ⊢
    rcases Nat.eq_zero_or_pos (SetTable.below t.place 0)with z|z
    ·exact z
    ·have hlt:0<t.place.size:=by omega
     have:=b2 0 _ z (Jq hlt)
     omega
   | succ i=>
    have hip:i<t.place.size:=by rw[k.ok.siz];omega
    have hg:t.place.getD i 0=t.place[i]:=by simp[Array.getD,hip]
    rw[e2]at b1 b2 b3 ⊢
    simp only[hg]at b1 b2 b3 ⊢
    have hq:=Jq hip
    rcases ME (SetTable.below t.place (t.place[i]+1)) (i+1)with l|l|l
    ·have:=b3 i _ (by omega) hq
     omega
    ·exact l
    ·have hlt:i+1<t.place.size:=by omega
     have q1:=b2 (i+1) _ l (Jq hlt)
     have q2:=k.ok.ris i (i+1) _ _ (by omega) hq (Jq hlt)
     omega
  generalize hu:PySem.unsupported=U
  show wpAny _ _ (if (!t.plain && decide (es.size>1))=true then _ else _) _ _ s
  rw[hdr]
  simp only[Bool.false_eq_true,if_false]
  have hm:∀ R:Unit->Shared->Prop,R () s->wpAny (model prog w) A (if (!t.led && !es.isEmpty)=true then unsupported "set:maker-not-led" else pure ()) R E s:=fun R hR=>by
   rw[hl]
   simp only[Bool.not_true,Bool.false_and,Bool.false_eq_true,if_false]
   exact Ji hR
  refine Jg (hm _ ?_)
  refine Ji ?_
  rw[hb]
  rw[e1,e2]at h
  simp only at h
  by_cases hlt:i<es.size
  ·have hp:i<t.place.size:=by rw[k.ok.siz];exact hlt
   have hg:t.place.getD i 0=t.place[i]:=by simp[Array.getD,hp]
   rw[Jq hlt,hg]at h
   rw[Jq hlt,Jq hp]
   exact h
  ·rw[Kn (by omega)]at h
   rw[Kn (by omega)]
   exact h
end
theorem z9{α β:Type}{f:α->β}{l l':List β}(h:l.Perm l'):∀ L:List α,l'=L.map f->∃ L':List α,L'.Perm L/\l=L'.map f:=by
 induction h with
 |nil=>intro L e;exact⟨[],by rw[List.map_eq_nil_iff.mp e.symm],rfl⟩
 | cons x _ ih=>
  intro L e
  cases L with
  |nil=>cases e
  |cons y L=>
   rw[JT]at e
   injection e with e1 e2
   obtain⟨L',p,q⟩:=ih L e2
   exact⟨y::L',p.cons y,by rw[q,e1];rfl⟩
 | swap x y l=>
  intro L e
  match L,e with
  |[],e=>cases e
  |[_],e=>rw[JT]at e;injection e with _ e;cases e
  |a::b::L,e=>
   rw[JT,JT]at e
   injection e with e1 e2
   injection e2 with e2 e3
   exact⟨b::a::L,.swap _ _ _,by rw[e1,e2,e3];rfl⟩
 |trans _ _ ih1 ih2=>
  intro L e
  obtain⟨L1,p1,q1⟩:=ih2 L e
  obtain⟨L2,p2,q2⟩:=ih1 L1 q1
  exact⟨L2,p2.trans p1,q2⟩
section
variable {prog:Program}{w:World}{A:Around}{E:Value->Shared->Prop}{s:Shared}
theorem qg{h:Heap}{I:Addr}{o:Obj}{fs:Array Value}{g:Array Value->Array Value}(ho:h.get? I=some o)(hd:o.data= .fields fs):
  ∃ o',(h.update I (Obj.mapFields g)).get? I=some o'/\o'.cls=o.cls/\o'.data= .fields (g fs):=
 ⟨_,J3 _ ho (K8 (Ky hd _)),MI ..,Ky hd _⟩
theorem next_item{I a:Addr}{o:Obj}{es:Array Ent}{ep:Nat}{t:SetTable}{L:List KA}{i:Nat}{e:Ent}{Q:Option Value->Shared->Prop}(k:SetAt prog w s.heap a o es ep t L)(hit:IterAt w s.heap I a t es.size ep i)(hne:I≠a)
  (he:(iU w a ep es)[i]? =some e) (hQ:∀ h',IterAt w h' I a t es.size ep (i+1)->Heap.SameBut I s.heap h'->Q (some e.2) {s with heap:=h'}):wpAny (model prog w) A (pyNext (.ref I)) Q E s:=by
 obtain⟨oi,ho,hc,hd⟩:=hit.ex
 have hlt:i<es.size:=by rw[<-jI w a ep es];exact(JD.mp he).1
 unfold pyNext
 refine Jg (LF (wpAny_callSpecial?_slot (name:=Str.ofString "__next__") hit.typeIs dw
  (J9 dw hit.typeIs jW ?_ (kO _))))
 unfold Builtin.«set_iterator.__next__»
 refine Jg (m:=slotArgs "__next__" 0 _) (Ji ?_)
 refine Jg (wpAny_fieldsOf ho hd ?_)
 simp only
 refine Jg (Mm k.get k.dat k.fits ?_)
 rw[if_neg (by simp)]
 refine Jg ?_
 rw[JS,JS,JS]
 refine wt k (Kl hlt) ?_
 rw[he]
 simp only[Option.map_some]
 refine Jg (K3 ho hd (by simp) ?_)
 obtain⟨o1,g1,c1,d1⟩:=qg (g:=fun fs=>fs.set! 0 (rawInt (fB w t (i+1):Nat))) ho hd
 refine Jg (K3 (o:=o1) (s:={s with heap:=_}) g1 d1 (by simp) (Ji ⟨e.2,rfl,Ji (hQ _ ?_ ((Kr ..).trans (Kr ..)))⟩))
 obtain⟨o2,g2,c2,d2⟩:=qg (g:=fun fs=>fs.set! 1 (rawInt ((i:Int)+1))) g1 d1
 refine⟨o2,g2,by rw[c2,c1];exact hc,?_⟩
 rw[d2]
 simp[rawInt]
theorem next_end{I a:Addr}{o:Obj}{es:Array Ent}{ep:Nat}{t:SetTable}{L:List KA}{Q:Option Value->Shared->Prop}(hh:A.handled=none)(k:SetAt prog w s.heap a o es ep t L)(hit:IterAt w s.heap I a t es.size ep es.size)
  (hQ:∀ h',Heap.ExtBut I s.heap h'->Q none {s with heap:=h'}):wpAny (model prog w) A (pyNext (.ref I)) Q E s:=by
 obtain⟨oi,ho,hc,hd⟩:=hit.ex
 unfold pyNext
 refine Jg (LF (wpAny_callSpecial?_slot (name:=Str.ofString "__next__") hit.typeIs dw
  (J9 dw hit.typeIs jW ?_ (kO _))))
 unfold Builtin.«set_iterator.__next__»
 refine Jg (m:=slotArgs "__next__" 0 _) (Ji ?_)
 refine Jg (wpAny_fieldsOf ho hd ?_)
 simp only
 refine Jg (Mm k.get k.dat k.fits ?_)
 rw[if_neg (by simp)]
 refine Jg ?_
 rw[JS,JS,JS]
 refine wt k (Jj _) ?_
 rw[Kn (by rw[jI];exact Jj _)]
 simp only[Option.map_none]
 refine Jg (K3 ho hd (by simp) ?_)
 show wpAny _ _ (newExc (.type "StopIteration") []>>=_) _ _ _
 refine Jg ?_
 simp only[newExc,newTuple]
 refine Jg (JZ ?_ (by size_fits))
 refine Jg (m:=firstArgMember _ _) (MZ (a:=Value.none) (by first|rfl|(simp only[firstArgMember];rfl)) ?_)
 refine JZ ?_ (by size_fits)
 simp only[raiseNew]
 refine Jg (wpAny_handled ?_)
 first|rw[show A.in1.handled=none from hh]|rw[hh]
 refine Jg (Ji (wpAny_throw ?_))
 refine Jg (Ll (T:="StopIteration") (b:=true) ⟨_,Jo _ rfl,rfl⟩ My ?_)
 exact Ji (hQ _ (((Kr ..).extBut.push _).push _))
theorem IterAt.at{h h':Heap}{I a:Addr}{t:SetTable}{sz ep i:Nat}(k:IterAt w h I a t sz ep i)(e:∀ o,h.get? I=some o->h'.get? I=some o):IterAt w h' I a t sz ep i:=
 let ⟨o,ho,r⟩:=k.ex
 ⟨⟨o,e o ho,r⟩⟩
theorem kP:Slot "set_iterator" "__iter__" "set_iterator.__iter__":=
 .of (owner:="set_iterator") (n:="__iter__") (by rw[MW,L5];kernel_rfl) (by decide+kernel) (by decide+kernel) (by decide+kernel)
  (by first|exact .inl (by decide+kernel)|exact .inr (by decide+kernel)) (by rw[L3];kernel_rfl)
theorem pD:entryFor table "set_iterator.__iter__"=some Builtin.«dict_keyiterator.__iter__»:=
 entryFor_alias (id':="dict_keyiterator.__iter__") (by kernel_rfl) rfl (by decide+kernel) (by kernel_rfl)
theorem rh(a:Value):argsOk "set_iterator.__iter__" ⟨[a],[]⟩:=by unfold argsOk;kernel_rfl
theorem Aa{a:Addr}{o:Obj}{es:Array Ent}{ep:Nat}{t:SetTable}{L:List KA}{Q:Value->Shared->Prop}(k:SetAt prog w s.heap a o es ep t L)
  (hQ:∀ ob,IterAt w (s.heap.push ob) s.heap.objs.size a t es.size ep 0->Q (.ref s.heap.objs.size) {s with heap:=s.heap.push ob}):wpAny (model prog w) A (pyIter (.ref a)) Q E s:=by
 have hT:s.TypeIs (.ref a) "set":=⟨o,k.get,k.ex.1⟩
 refine wpAny_pyIter_slot hT F.slot_set_iter (J9 F.slot_set_iter hT nX ?_ (F.args_set_iter_1 _))
 unfold Builtin.«frozenset.__iter__» Builtin.Frozenset.slot0
 refine Jg (Jg (m:=slotArgs "__iter__" 0 _) (Ji ?_))
 refine Ji ?_
 unfold Builtin.Frozenset.sizeOf
 refine Jg (Jg (Mm k.get k.dat k.fits (Ji ?_)))
 unfold setDrawn
 refine Jg (Jg (Kq k.get k.dat k.fits ?_))
 simp only
 unfold setsByText
 refine Jg (Jg (K1 (Ji ?_)))
 refine Ji ?_
 have hdr:(!(w.params.followText "set-order") && (!t.plain && decide (es.size>1)))=false:=by rw[k.pln];simp
 have hgo:∀(X Y:Sem Fin) (R:Fin->Shared->Prop),wpAny (model prog w) A.in1 Y R E s->wpAny (model prog w) A.in1 (if (!(w.params.followText "set-order") && (!t.plain && decide (es.size>1)))=true then X else Y) R E s:=fun X Y R hR=>by
  rw[hdr]
  simp only[Bool.false_eq_true,if_false]
  exact hR
 refine hgo _ _ _ ?_
 refine Jg (Ji ?_)
 refine Jg (wpAny_setEpoch_of k.get k.dat k.fits ?_)
 refine Jg (JZ (Ji ⟨_,rfl,"set_iterator",_,⟨_,Jo _ rfl,rfl⟩,dw.lookup,hQ _ ⟨⟨_,Jo _ rfl,rfl,?_⟩⟩⟩))
 have e0:fB w t 0=0:=by
  unfold fB
  split<;>rfl
 rw[e0]
 rfl
theorem xS{I a:Addr}{o:Obj}{es:Array Ent}{ep:Nat}{t:SetTable}{L:List KA}(hh:A.handled=none)(hne:I≠a):Walks prog w A I [I,a] [I] es.size (fun i v=>∃ e,(iU w a ep es)[i]? =some e/\v=e.2)
  (fun i h=>SetAt prog w h a o es ep t L/\IterAt w h I a t es.size ep i) where
 sub:=fun b hb=>by simp at hb;simp[hb]
 frame:=fun i h h' st hk=>⟨st.1.at fun o' e=>hk a (by simp) o' e,st.2.at fun o' e=>hk I (by simp) o' e⟩
 item:=fun i s Q E hi st hQ=>by
  have hlt:i<(iU w a ep es).size:=by rw[jI];exact hi
  have he:=Jq hlt
  exact next_item st.1 st.2 hne he fun h' hit' hs'=>hQ _ h' s.toks ⟨_,he,rfl⟩ ⟨st.1.at fun o' e=>hs'.extBut a o' (Ne.symm hne) e,hit'⟩ fun b o' hb e=>hs'.extBut b o' (fun z=>hb (by simp[z])) e
 done:=fun s Q E st hQ=>next_end hh st.1 st.2 fun h' he'=>hQ h' s.toks fun b o' hb e=>he' b o' (fun z=>hb (by simp[z])) e
 self:=fun i s Q E st hQ=>by
  refine wpAny_pyIter_slot st.2.typeIs kP (J9 kP st.2.typeIs pD ?_ (rh _))
  show wpAny _ _ (ret (.ref I)) _ _ s
  exact Ji ⟨_,rfl,"set_iterator",_,st.2.typeIs,dw.lookup,hQ⟩
theorem tq{a:Addr}{o:Obj}{es:Array Ent}{ep:Nat}{t:SetTable}{L:List KA}{Q:List Value->Shared->Prop}(hh:A.handled=none)(k:SetAt prog w s.heap a o es ep t L)(hsz:es.size<=18)
  (hQ:∀(h':Heap) (tk:Nat) (L':List KA),L'.Perm L->(∀ b o,s.heap.get? b=some o->h'.get? b=some o)->Q (L'.map fun p=>Value.ref p.2) {s with heap:=h',toks:=tk}):
  wpAny (model prog w) A (collect (.ref a)) Q E s:=by
 have hlt:a<s.heap.objs.size:=Jm k.get
 unfold collect
 refine Jg (MY (KR F.entry_proto_collect ?_))
 rw[KP F.plain_proto_collect _]
 show wpAny _ A.in1 (newList []>>=fun l=>again (.builtin "list.__iadd__" ⟨[l,.ref a],[]⟩)) _ _ s
 refine Jg (JZ ?_)
 refine Ji ⟨MM F.plain_list_iadd _,KR F.entry_list_iadd ?_⟩
 rw[KP F.plain_list_iadd _]
 have k1:SetAt prog w (s.heap.push {cls:=.type "list",data:=.seq ([]:List Value).toArray}) a o es ep t L:=k.at fun o' e=>Jh _ e
 have hS1:(s.heap.push {cls:=.type "list",data:=.seq ([]:List Value).toArray}).get? s.heap.objs.size=some {cls:=.type "list",data:=.seq ([]:List Value).toArray}:=Jo _ rfl
 have hT:Shared.TypeIs {s with heap:=s.heap.push {cls:=.type "list",data:=.seq ([]:List Value).toArray}} (.ref a) "set":=⟨o,k1.get,k1.ex.1⟩
 have hsame:Builtin.List.listSameRef (.ref s.heap.objs.size) (.ref a)=false:=by simp[Builtin.List.listSameRef,Nat.ne_of_gt hlt]
 show wpAny _ A.in1 (Builtin.List.listExtendWith (.ref s.heap.objs.size) (.ref a) (.ref s.heap.objs.size)) _ _ _
 unfold Builtin.List.listExtendWith
 refine Jg (Lr hT ?_)
 rw[if_neg (by rw[hsame];decide)]
 refine Jg (Aa (s:={s with heap:=s.heap.push {cls:=.type "list",data:=.seq ([]:List Value).toArray}}) k1 fun ob hit=>?_)
 refine Jg (JX ?_)
 have hT2:Shared.TypeIs {s with heap:=(s.heap.push {cls:=.type "list",data:=.seq ([]:List Value).toArray}).push ob} (.ref a) "set":=⟨o,Jh _ k1.get,k1.ex.1⟩
 unfold Builtin.List.listLengthHint
 refine Jg (wpAny_specialOf hT2 F.slot_set_len.lookup ?_)
 generalize cy:("set.__len__":String)=id0
 wp_delta
 rw[show splitId id0=some ("set","__len__")from by subst cy;decide+kernel]
 subst cy
 refine Jg (Ll (b:=true) hT2 sub_set_self ?_)
 rw[if_neg (by decide)]
 rw[if_pos (by decide+kernel)]
 refine Jg (Lr hT2 ?_)
 refine Ji ?_
 rw[if_pos (by decide+kernel)]
 refine Jg (LW ?_)
 generalize hg:(s.heap.push {cls:=.type "list",data:=.seq ([]:List Value).toArray}).objs.size=I at hit
 have hI:I=s.heap.objs.size+1:=by rw[<-hg];exact Ka _ _
 have hIa:I≠a:=by rw[hI];exact KD (Ki hlt)
 have hID:I≠s.heap.objs.size:=by rw[hI];exact Nat.succ_ne_self _
 have hD:s.heap.objs.size ∉ [I,a]:=by
  simp only[List.mem_cons,List.not_mem_nil,or_false,not_or]
  exact⟨Ne.symm hID,KD hlt⟩
 have hS2:((s.heap.push {cls:=.type "list",data:=.seq ([]:List Value).toArray}).push ob).get? s.heap.objs.size=some {cls:=.type "list",data:=.seq ([]:List Value).toArray}:=Jh _ hS1
 refine Jg ?_
 show wpAny _ A.in1 (updateSeq s.heap.objs.size (·.push .none)>>=fun _=>updateSeq s.heap.objs.size (·.pop)) _ _ _
 refine Jg (wpAny_updateSeq hS2 rfl ?_)
 have hS3:=J3 (Obj.mapSeq (·.push Value.none)) hS2 rfl
 refine wpAny_updateSeq hS3 rfl ?_
 have hS4:=J3 (Obj.mapSeq (·.pop)) hS3 rfl
 have oth:∀ b o',b≠s.heap.objs.size->((s.heap.push {cls:=.type "list",data:=.seq ([]:List Value).toArray}).push ob).get? b=some o'->
   ((((s.heap.push {cls:=.type "list",data:=.seq ([]:List Value).toArray}).push ob).update s.heap.objs.size (Obj.mapSeq (·.push Value.none))).update s.heap.objs.size (Obj.mapSeq (·.pop))).get? b=some o':=
  fun b o' hb e=>(JU _ _ (Ne.symm hb)).trans ((JU _ _ (Ne.symm hb)).trans e)
 have k2:=(k1.at (h':=(s.heap.push {cls:=.type "list",data:=.seq ([]:List Value).toArray}).push ob) fun o' e=>Jh _ e)
 have hh1:A.in1.handled=none:=by simp[hh]
 have W:=xS (prog:=prog) (w:=w) (A:=A.in1) (I:=I) (a:=a) (o:=o) (es:=es) (ep:=ep) (t:=t) (L:=L) hh1 hIa
 refine Ji ⟨MM F.plain_extend_loop _,?_⟩
 refine codeAny_extend_loopS W.toS (by rw[J6];omega) _ hD _ es.size 0 _ _ _ rfl (JE _) ⟨k2.at fun o' e=>oth a o' (Jv hlt) e,hit.at fun o' e=>oth I o' hID e⟩ hS4 (ItemsOf.nil _) fun s' acc c' hm hS' hacc=>?_
 show wpAny _ A (load s.heap.objs.size>>=_) _ _ s'
 refine Jg (wpAny_load hS' ?_)
 refine Ji ?_
 obtain⟨h',g',d',tk',os'⟩:=s'
 have eg:g'=s.gens:=hm.gens
 have ed:d'=s.drawn:=hm.drawn
 have eo:os'=s.os:=hm.os
 subst eg ed eo
 obtain⟨L',p1,p2⟩:=z9 (qf w a ep es) L k.ents
 have he:acc.toList=L'.map fun p=>Value.ref p.2:=by
  have e1:acc.toList=(iU w a ep es).toList.map (·.2):=by
   refine LX fun i=>?_
   rw[JL,JB,JL]
   by_cases hi:i<acc.size
   ·obtain⟨e,e1,e2⟩:=hacc.2 i _ (Jq hi)
    rw[Jq hi,e2,e1];rfl
   ·rw[Kn (by omega),Kn (by rw[jI, <-hacc.1];omega)];rfl
  rw[e1,p2,J2]
  rfl
 rw[he]
 refine hQ h' tk' L' p1 fun b o' e=>hm.heap b o' ?_ (oth b o' (Jv (Jm e)) (Jh _ (Jh _ e)))
 simp only[List.mem_cons,List.not_mem_nil,or_false,not_or]
 exact⟨Jv (Jm e),by rw[hI];exact Jv (Ki (Jm e))⟩
end
end S4
namespace S4
open PySem PySem.Spec PySem.W PyProof.Rows L2 S3
section
variable {prog:Program}{w:World}{A:Around}{E:Value->Shared->Prop}{s:Shared}
theorem vj{a:Addr}{vs:List Value}{n:Nat}{P:PySem.Fin->Shared->Prop}(ho:s.heap.get? a=some (seqObj "list" vs.toArray n))(h2:vs.length<2)
  (h:∀ h' c,h'.get? a=some (seqObj "list" vs.toArray c)->(∀ b o,b≠a->s.heap.get? b=some o->h'.get? b=some o)->P (.done (.ret .none)) {s with heap:=h'}):
  wpAny (model prog w) A (Builtin.«list.sort» ⟨[.ref a],[]⟩) P E s:=by
 have ha:a<s.heap.objs.size:=Jm ho
 obtain⟨e1,ho1⟩:∃ e1,(s.heap.update a (Obj.mapSeq fun _=>(#[]:Array Value))).get? a=some (seqObj "list" #[] e1):=⟨_,get?_update_seq ho fun _=> #[]⟩
 have ho3:(((s.heap.update a (Obj.mapSeq fun _=>(#[]:Array Value))).push (seqObj "tuple" vs.toArray 0)).push (seqObj "list" #[] 0)).get? a=some (seqObj "list" #[] e1):=Jh _ (Jh _ ho1)
 rw[list_sort_plain]
 refine Jg (listItems_at ho rfl ?_)
 refine Jg (listUpdate_at ho rfl ?_ (by rw[Jt,J6];omega) (JE _))
 refine Jg (seqEpoch_at ho1 rfl ?_)
 refine Jg (wpAny_newTuple ?_ (by show vs.length<=_;rw[J6];omega))
 refine Jg (wpAny_newList ?_ (JE _))
 refine JX ?_
 show wpAny (model prog w) A _ P E {s with heap:=((s.heap.update a (Obj.mapSeq fun _=>(#[]:Array Value))).push (seqObj "tuple" vs.toArray 0)).push (seqObj "list" #[] 0)}
 dsimp only
 have hn2:vs.toArray.size<2:=by rw[Jt];omega
 rw[if_pos hn2,if_pos hn2]
 refine Jg (Ji ?_)
 rw[StateT.run_pure]
 refine Jg (Ji ?_)
 dsimp only
 refine Jg (seqEpoch_at ho3 rfl ?_)
 have hz:(arrOf (SortSt.mk' general' (vs.toArray.zip vs.toArray) #[] 7 none)).map (·.2)=vs.toArray:=by
  show(vs.toArray.zip vs.toArray).map (·.2)=vs.toArray
  rw[Array.map_snd_zip (Jj _)]
 rw[hz]
 refine Jg (listUpdate_at ho3 rfl ?_ (JE _) (by rw[Jt,J6];omega))
 obtain⟨c2,hc2⟩:∃ c2,((((s.heap.update a (Obj.mapSeq fun _=>(#[]:Array Value))).push (seqObj "tuple" vs.toArray 0)).push (seqObj "list" #[] 0)).update a (Obj.mapSeq fun _=>vs.toArray)).get? a=some (seqObj "list" vs.toArray c2):=⟨_,get?_update_seq ho3 fun _=>vs.toArray⟩
 simp only[bne_self_eq_false,Bool.false_eq_true,if_false]
 refine Ji (h _ c2 hc2 fun b o hb e=>?_)
 rw[KW _ _ _ _ hb]
 refine Jh _ (Jh _ ?_)
 rw[KW _ _ _ _ hb]
 exact e
end
section
variable {X:Cx}
structure TRow(H:Hp)(vs:List V)(nss:List (List Int)):Prop where
 len:vs.length=nss.length
 at':∀ i,i<vs.length->∃ a,vs[i]? =some (.ref a)/\H a=some (.tup ((nss.getD i []).map V.int))
 same:∃ c,∀ i,i<vs.length->(nss.getD i []).length=c+1
def fY(nss:List (List Int))(q:List Nat):Prop:=q.Perm (List.range nss.length)/\∀ i j,i<=j->j<nss.length->HT.lexLt (nss.getD (q.getD j 0) []) (nss.getD (q.getD i 0) [])=false
theorem iV{pins:List (Addr×Obj)}{σ:L2.St}{H:Hp}{s:Shared}{Q:VK}{arg:Value}(I:L2.Inv X pins σ H s)(Pv:List Value->Prop)
  (hc:∀(R:List Value->Shared->Prop) (E':Value->Shared->Prop),(∀ vs h1 tk,Pv vs->(∀ b o,s.heap.get? b=some o->h1.get? b=some o)->R vs {s with heap:=h1,toks:=tk})->wpAny (model X.prog X.w) X.A.in1 (collect arg) R E' s)
  (hv:∀ us,Pv us->∃(vs:List V) (nss:List (List Int)),aZ vs us/\TRow H vs nss/\vs.length<64/\∀ q,fY nss q->∀ l,H l=none->Q (.ref l) (upd H l (.lst (q.map fun i=>vs.getD i .non)))):
  wpAny (model X.prog X.w) X.A (call (.builtin "sorted") [arg]) (EP X pins σ Q) X.xe s:=by
 refine Calls.call_function_entry kind_sorted plain_sorted entry_sorted (args_sorted1 _) ?_
 unfold Builtin.«sorted»
 refine Jg (m:=checkCount "sorted" 1 1 _) (Ji ?_)
 refine Jg (hc _ _ fun its h1 tk hP keep=>?_)
 obtain⟨vs,nss,rv,T0,h64,q⟩:=hv its hP
 have hli:=rv.length
 have I1:L2.Inv X pins σ H {s with heap:=h1,toks:=tk}:=I.kept keep
 obtain⟨m,F⟩:=I1.fr
 refine Jg (wpAny_newList ?_ (by rw[J6];omega))
 have hoL:(h1.push (seqObj "list" its.toArray 0)).get? h1.objs.size=some (seqObj "list" its.toArray 0):=Jo _ rfl
 have up:∀ b o,h1.get? b=some o->(h1.push (seqObj "list" its.toArray 0)).get? b=some o:=fun b o e=>Jh _ e
 have nd:h1.get? h1.objs.size=none:=J5 (Jj _)
 have hL:X.env.locals<h1.objs.size:=F.ns.lt
 have hH:H h1.objs.size=none:=I1.hok.fresh (Jj _)
 have at':∀ i,i<its.length->∃ a,its[i]? =some (.ref a)/\its.getD i Value.none= .ref a/\H a=some (.tup ((nss.getD i []).map V.int)):=fun i hi=>by
  obtain⟨a,e1,e2⟩:=T0.at' i (by omega)
  obtain⟨u,hu,ru⟩:=rv.get e1
  cases (show u=Value.ref a from ru)
  exact⟨a,hu,by rw[Jw,hu];rfl,e2⟩
 have rv2:∀ l:List Nat,(∀ x∈l,x<its.length)->aZ (l.map fun i=>vs.getD i .non) (l.map fun i=>its.getD i Value.none):=by
  intro l
  induction l with
  |nil=>intro _;exact .nil
  |cons x l ih=>
   intro hx
   refine .cons ?_ (ih fun y hy=>hx y (Jr _ hy))
   have hxl:x<vs.length:=by have:=hx x Jy;omega
   obtain⟨u,hu,ru⟩:=rv.get (Jk hxl)
   show L2.RelV (vs.getD x .non) (its.getD x Value.none)
   rw[Jw,Jw,hu,Jk hxl]
   exact ru
 show wpAny _ _ _ _ _ {s with heap:=h1.push (seqObj "list" its.toArray 0),toks:=tk}
 refine Jg (JX (J9 slot_list_sort ⟨_,hoL,rfl⟩ entry_list_sort ?body (args_list_sort _)))
 case body=>
  by_cases h2:its.length<2
  ·refine vj (s:={s with heap:=h1.push (seqObj "list" its.toArray 0),toks:=tk}) hoL h2 fun h' c g1 g2=>?_
   refine⟨_,rfl,Ji ⟨_,rfl,?_⟩⟩
   have I2:L2.Inv X pins σ (upd H h1.objs.size (.lst vs)) {s with heap:=h',toks:=tk}:=I1.laid (fun b o e=>g2 b o (Jv (Jm e)) (up b o e)) (Jj _) ⟨by rw[J6];omega,its,c,rv,g1⟩
   refine⟨.ref h1.objs.size,_,I2,rfl,?_⟩
   have:=q (List.range nss.length) ⟨.refl _,fun i j hij hj=>?_⟩ _ hH
   ·have e:(List.range nss.length).map (fun i=>vs.getD i .non)=vs:=by
     refine LX fun i=>?_
     rw[JB, <-T0.len]
     by_cases hi:i<vs.length
     ·rw[Ln hi,Jk hi]
      simp[List.getD_eq_getElem?_getD,hi]
     ·rw[J8 (by simpa using hi),J8 (by omega)];rfl
    rw[e]at this;exact this
   ·have:i=j:=by have:=T0.len;omega
    subst this
    exact mU _
  ·obtain⟨c,hcs⟩:=T0.same
   refine kat_list_sort (s:={s with heap:=h1.push (seqObj "list" its.toArray 0),toks:=tk}) (F.kept up) (News.grown (m6 (g:=X.base) (h:=h1) (L:=X.env.locals)) up) hoL (KD hL) (J5 (Ju F.above (Kl hL)))
    (fun p hp=>Jv (Jm (m6 p hp).1)) (by omega) (by omega) fun e1 h' F' N'=>?_
   have keepB:∀ h2:Heap,Fr X.base X.env.locals h2 m->News X.base X.env.locals h2 (kz X.base h1 X.env.locals)->∀ b o,b≠X.env.locals->h1.get? b=some o->h2.get? b=some o:=fun h2 F2 N2 b o hb e=>by
    cases z:X.base.get? b with
    |some o'=>
     have:=I1.bk b o' z
     rw[show h1.get? b=some o' from this]at e;cases e
     exact F2.keep b _ z
    |none=>exact(N2 (b,o) (so hb z e)).1
   have kp:=keepB h' F' fun z hz'=>N' z (Jr _ hz')
   have T:Tups h1 its nss c:=⟨by have:=T0.len;omega,fun i hi=>by
    obtain⟨a,_,e1,e2⟩:=at' i hi
    obtain⟨_,ws,rw',o,ho,hc',n,hd⟩:=(show aY X.prog X.w H h1 a (.tup ((nss.getD i []).map V.int))from I1.hok a _ e2)
    refine⟨a,o,ws.toArray,n,e1,ho,hc',hd,by simpa using Mi rw',?_⟩
    rw[Jt, <-rw'.length,Jl,hcs i (by omega)]⟩
   have T':Tups h' its nss c:=T.keep fun i a o hi ea ho=>by
    obtain⟨a',_,e1,e2⟩:=at' i hi
    rw[ea]at e1;cases e1
    refine kp a o (fun z=>?_) ho
    rw[z,I1.free]at e2;cases e2
   obtain⟨fs,k1,k2,k3⟩:=nM (h:=h') (vs:=its) fun v hv=>by
    obtain⟨i,hi,ei⟩:=List.mem_iff_getElem.mp hv
    obtain⟨a,o,us,n,f1,f2,f3,f4,f5,f6⟩:=T'.get i hi
    have ev:v= .ref a:=by
     rw[Jw,Jk hi,ei]at f1;exact f1
    generalize nss.getD i []=ns at f5
    cases hus:us.toList with
    |nil=>
     have:us.size=0:=by rw[<-KU,hus];rfl
     omega
    |cons x r'=>
     rw[hus]at f5
     cases f5 with
     |cons n' t' _=>exact⟨a,o,us,n,n',t',ev,f2,f3,f4,by rw[<-JL,hus];rfl⟩
   refine kat_kind k1 (by omega) (T:=.type "int") (fun v hv=>by obtain⟨i,t,rfl⟩:=k3 v hv;exact Looks.of_pure rfl) rfl ?_
   refine zo (n:=its.length) (R:=In its.length) (b:=fun i j=>HT.lexLt (nss.getD i []) (nss.getD j [])) (fun i j C hi hj hC=>T'.ask hi hj hC) (sA (by omega)) ?_
   obtain⟨s1,s2⟩:=BN (n:=its.length) (b:=fun i j=>HT.lexLt (nss.getD i []) (nss.getD j [])) (by omega) (fun i _=>mU _) (fun i j k _ _ _=>u7) (fun i j k _ _ _=>qZ)
   generalize a8 (fun i j=>HT.lexLt (nss.getD i []) (nss.getD j [])) (kas_sort its.length)=pp at s1 s2
   have hperm:pp.toList.Perm (List.range its.length):=by simpa using Array.Perm.toList s1
   refine KasFin.intro F' N' (.head fun z hz'=>Jv (Jm (m6 z hz').1)) fun h'' c' F'' N''=>?_
   have kp2:=keepB h'' F'' fun z hz'=>N'' z (Jr _ hz')
   obtain⟨g1,g2,g3⟩:=N'' _ Jy
   have hin:∀ x∈pp.toList,x<its.length:=fun x hx=>JG.mp (hperm.mem_iff.mp hx)
   have hsz:(pp.toList.map fun i=>vs.getD i .non).length<=sizeLine:=by
    rw[Jl,hperm.length_eq,Kc,J6];omega
   have I2:=u9 I1 F F'' kp2 nd g1 (rv2 pp.toList hin) hsz
   refine⟨_,rfl,Ji ⟨_,rfl,.ref h1.objs.size,_,I2,rfl,q pp.toList ⟨by rw[<-T0.len,hli];exact hperm,fun i j hij hj=>?_⟩ _ hH⟩⟩
   have:=s2 i j hij (by have:=T0.len;omega)
   rw[JR,JR]at this
   rw[Jw (l:=pp.toList),Jw (l:=pp.toList),JL,JL]
   exact this
end
end S4
namespace S3
open PySem PySem.Spec PySem.W PyProof.Rows L2 S4
def tupI(ns:List Int):D:=.tup (ns.map D.int)
def rowsOf:List D->Option (List (List Int))
 |[]=>some []
 | .tup ds::r=>match intsOf ds,rowsOf r with
  |some ns,some nss=>some (ns::nss)
  |_,_=>none
 |_=>none
theorem rj:∀{a b:List Int},HT.lexLt a b=false->HT.lexLt b a=false->a=b
 |[],[],_,_=>rfl
 |[],_::_,h,_=>by cases h
 |_::_,[],_,h=>by cases h
 | x::a,y::b,h1,h2=>by
  rw[HT.lexLt_cons]at h1 h2
  by_cases e:x=y
  ·subst e
   rw[if_pos rfl]at h1 h2
   rw[rj h1 h2]
  ·rw[if_neg e]at h1
   rw[if_neg (Ne.symm e)]at h2
   have:=of_decide_eq_false h1
   have:=of_decide_eq_false h2
   omega
abbrev Bs(a b:List Int):Prop:=HT.lexLt b a=false
def vk(x:List Int):List (List Int)->List (List Int)
 |[]=>[x]
 |y::r=>if HT.lexLt y x=true then y::vk x r else x::y::r
def jk:List (List Int)->List (List Int)
 |[]=>[]
 |x::r=>vk x (jk r)
theorem lK(x:List Int):∀ l,(vk x l).Perm (x::l)
 |[]=>.refl _
 |y::r=>by
  unfold vk
  split
  ·exact((lK x r).cons y).trans (.swap _ _ _)
  ·exact .refl _
theorem di:∀ l,(jk l).Perm l
 |[]=>.refl _
 |x::r=>(lK x _).trans ((di r).cons x)
theorem xT{a b c:List Int}(h1:Bs a b)(h2:Bs b c):Bs a c:=by
 cases q:HT.lexLt c a with
 |false=>exact q
 |true=>
  rcases qZ (b:=b) q with z|z
  ·rw[show HT.lexLt c b=false from h2]at z;cases z
  ·rw[show HT.lexLt b a=false from h1]at z;cases z
theorem tu{a b:List Int}(h:HT.lexLt a b=true):HT.lexLt b a=false:=by
 cases q:HT.lexLt b a with
 |false=>rfl
 |true=>
  have:=u7 h q
  rw[mU]at this;cases this
theorem mq(x:List Int):∀{l:List (List Int)},l.Pairwise Bs->(vk x l).Pairwise Bs
 |[],_=>by simp[vk]
 | y::r,h=>by
  obtain⟨h1,h2⟩:=Kd.mp h
  unfold vk
  split
  ·next c=>
   refine Kd.mpr ⟨fun z hz=>?_,mq x h2⟩
   rcases JC.mp ((lK x r).mem_iff.mp hz)with rfl|hz
   ·exact tu c
   ·exact h1 z hz
  ·next c=>
   have c':Bs x y:=MG.mpr c
   refine Kd.mpr ⟨fun z hz=>?_,h⟩
   rcases JC.mp hz with rfl|hz
   ·exact c'
   ·exact xT c' (h1 z hz)
theorem dy:∀ l,(jk l).Pairwise Bs
 |[]=>.nil
 |x::r=>mq x (dy r)
theorem lL{l l':List (List Int)}(h:l.Perm l')(h1:l.Pairwise Bs)(h2:l'.Pairwise Bs):l=l':=
 List.Perm.eq_of_pairwise (le:=Bs) (fun a b _ _ x y=>rj y x) h1 h2 h
theorem nY{nss:List (List Int)}{q:List Nat}(h:fY nss q):q.map (fun i=>nss.getD i [])=jk nss:=by
 have hlen:q.length=nss.length:=by simpa using h.1.length_eq
 have e:(List.range nss.length).map (fun i=>nss.getD i [])=nss:=by
  refine LX fun i=>?_
  rw[JB]
  by_cases hi:i<nss.length
  ·rw[Ln hi,Jk hi]
   simp[List.getD_eq_getElem?_getD,hi]
  ·rw[J8 (by simpa using hi),J8 (by omega)];rfl
 have hp:(q.map (fun i=>nss.getD i [])).Perm nss:=by
  have:=h.1.map (fun i=>nss.getD i [])
  rw[e]at this;exact this
 refine lL (hp.trans (di nss).symm) ?_ (dy _)
 rw[Mx]
 intro i j hi hj hij
 rw[Jl]at hi hj
 rw[List.getElem_map,List.getElem_map]
 have:=h.2 i j (Kl hij) (by omega)
 rw[Jw (l:=q),Jw (l:=q),Jk hi,Jk hj]at this
 exact this
def eQ:List (List Int)->List (List Int)
 |[]=>[]
 |x::r=>if x∈eQ r then eQ r else x::eQ r
theorem ig{y:List Int}:∀{l:List (List Int)},y∈eQ l↔y∈l
 |[]=>.rfl
 | x::r=>by
  unfold eQ
  split
  ·next h=>
   rw[ig,JC]
   refine⟨.inr,fun z=>z.elim (fun z=>?_) id⟩
   rw[z];exact ig.mp h
  ·rw[JC,JC,ig]
theorem kQ:∀ l:List (List Int),(eQ l).Nodup
 |[]=>.nil
 |x::r=>by
  unfold eQ
  split
  ·exact kQ r
  ·next h=>exact Ke.mpr ⟨h,kQ r⟩
def iW(l:List (List Int)):List (List Int):=jk (eQ l)
theorem Ab{kv L:List KA}(f:Folded kv L):jk (L.map (·.1))=iW (kv.map (·.1)):=by
 unfold iW
 have hp:(L.map (·.1)).Perm (eQ (kv.map (·.1))):=(List.perm_ext_iff_of_nodup f.nd (kQ _)).mpr fun a=>by rw[f.mem,ig]
 exact lL ((di _).trans (hp.trans (di _).symm)) (dy _) (dy _)
theorem _root_.S4.Folded.perm{kv L L':List KA}(f:Folded kv L)(h:L'.Perm L):Folded kv L':=
 ⟨(Lo (h.map (fun p:KA=>p.1))).mpr f.nd,fun k=>by rw[(h.map (fun p:KA=>p.1)).mem_iff];exact f.mem k,fun p hp=>f.sub p (h.mem_iff.mp hp),by rw[h.length_eq];exact f.len⟩
section
variable {K:PySem.W.Frag}{ι:List Addr}{H:Hp}
theorem nZ:∀{ds:List D} {vs:List V} {nss:List (List Int)},RelDs K ι H ds vs->rowsOf ds=some nss->vs.length=nss.length/\∀ i,i<vs.length->∃ a,vs[i]? =some (.ref a)/\H a=some (.tup ((nss.getD i []).map V.int))
 |[],vs,nss,h,e=>by
  cases e
  rw[h.nil_inv]
  exact⟨rfl,fun i hi=>absurd hi (Ml _)⟩
 | .tup ds::r,vs,nss,h,e=>by
  obtain⟨v,ws,rfl,r1,r2⟩:=h.cons_inv
  unfold rowsOf at e
  cases q:intsOf ds with
  |none=>rw[q]at e;cases e
  | some ns=>
   rw[q]at e
   cases q2:rowsOf r with
   |none=>rw[q2]at e;cases e
   | some nss'=>
    rw[q2]at e
    cases e
    obtain⟨h1,h2⟩:=nZ r2 q2
    obtain⟨a,us,rfl,g1,g2⟩:=r1.tup_inv
    refine⟨by simp[h1],fun i hi=>?_⟩
    cases i with
    |zero=>
     refine⟨a,rfl,?_⟩
     rw[eP g2 q]at g1
     simpa using g1
    |succ i=>
     obtain⟨a',e1,e2⟩:=h2 i (by simpa using hi)
     exact⟨a',by simpa using e1,by simpa using e2⟩
 | .non::_,_,_,_,e=>by cases e
 | .bl _::_,_,_,_,e=>by cases e
 | .int _::_,_,_,_,e=>by cases e
 | .str _::_,_,_,_,e=>by cases e
 | .lst _::_,_,_,_,e=>by cases e
 | .ro _::_,_,_,_,e=>by cases e
 | .fz _::_,_,_,_,e=>by cases e
 | .emp::_,_,_,_,e=>by cases e
theorem qh:∀ ns:List Int,RelDs K ι H (ns.map D.int) (ns.map V.int)
 |[]=>.nil
 |n::r=>.cons (.int n) (qh r)
theorem n0{vs:List V}{nss:List (List Int)}(h:∀ i,i<vs.length->∃ a,vs[i]? =some (.ref a)/\H a=some (.tup ((nss.getD i []).map V.int))):
  ∀ q:List Nat,(∀ i∈q,i<vs.length)->RelDs K ι H ((q.map fun i=>nss.getD i []).map tupI) (q.map fun i=>vs.getD i .non)
 |[],_=>.nil
 |i::q,hq=>by
  obtain⟨a,e1,e2⟩:=h i (hq i Jy)
  refine .cons ?_ (n0 h q fun j hj=>hq j (Jr _ hj))
  show RelD K ι H (tupI (nss.getD i [])) (vs.getD i .non)
  have e3:vs.getD i .non= .ref a:=by rw[Jw,e1];rfl
  rw[e3]
  exact .tup e2 (qh _)
end
section
variable {X:Cx}{E:XD}{e:Expr}{m:TM}{pos:Pos}
theorem pE:cG X (.builtin "sorted") (fun xs H Q=>∃(p:Addr) (vs:List V) (nss:List (List Int)),xs=[.ref p]/\iY X.K H p vs/\TRow H vs nss/\vs.length<64/\
  ∀ q,fY nss q->∀ l,H l=none->Q (.ref l) (upd H l (.lst (q.map fun i=>vs.getD i .non)))):=by
 intro pins s σ H xs us Q I r h
 obtain⟨p,vs,nss,rfl,hp,T,h64,q⟩:=h
 obtain⟨u,rfl,rx⟩:=vals1 r
 cases (show u=Value.ref p from rx)
 obtain⟨its,rv,pl,hz⟩:=I.list hp
 have hli:=rv.length
 refine iV I (fun us=>us=its) (fun R E' hR=>?_) fun us hu=>⟨vs,nss,by rw[hu];exact rv,T,h64,q⟩
 refine collect_list pl.isList (hR its _ _ rfl fun b o e=>?_) (by rw[J6];omega)
 have hlt:b<s.heap.objs.size:=Jm e
 rw[KW _ _ _ _ (Jv hlt)]
 exact Jh _ e
def mH(P:Program)(w:World)(a:Addr)(kv:List KA):Heap->Prop:=fun h=>∃ o es ep t L,SetAt P w h a o es ep t L/\Folded kv L
def j9(vs:List V)(nss:List (List Int)):List KA:=(List.range vs.length).map fun i=>(nss.getD i [],match vs.getD i .non with| .ref a=>a|_=>0)
theorem Et{P:Program}{w:World}{H:Hp}{h:Heap}(ok:eU P w H h){a:Addr}{ns:List Int}(e:H a=some (.tup (ns.map V.int))):IsTupleKey (intKind P w) h ns a:=by
 obtain⟨_,ws,rw',o,ho,hc,n,hd⟩:=(show aY P w H h a (.tup (ns.map V.int))from ok a _ e)
 refine⟨o,ws.toArray,n,ho,hc,hd,?_⟩
 have hI:=Mi rw'
 have go:∀{ws:List Value} {ns:List Int},IntsAre ws ns->ItemsAre (intKind P w) ns ws:=by
  intro ws ns h
  induction h with
  |nil=>exact .nil
  |cons n t _ ih=>exact .cons (intKind_is _ _ _ _) ih
 simpa using go hI
theorem xU(hc:X.calm=true)(hu:X.A.units+8<cLine):cG X (.type "set") (fun xs H Q=>∃(p:Addr) (vs:List V) (nss:List (List Int)),xs=[.ref p]/\(iY X.K H p vs\/j5 X.K H p vs)/\
  (∀ i,i<vs.length->∃ a,vs[i]? =some (.ref a)/\H a=some (.tup ((nss.getD i []).map V.int)))/\vs.length<=18/\∀ l,H l=none->Q (.ref l) (upd H l (.ext (mH X.prog X.w l (j9 vs nss))))):=by
 intro pins s σ H xs us Q I r h
 obtain⟨p,vs,nss,rfl,hp,T,h18,q⟩:=h
 obtain⟨u,rfl,rx⟩:=vals1 r
 cases (show u=Value.ref p from rx)
 have src:∃ its,aZ vs its/\Src s.heap p its.toArray:=by
  rcases hp with hp|hp
  ·obtain⟨its,rv,pl,hz⟩:=I.list hp
   exact⟨its,rv,.inl pl.isList⟩
  ·obtain⟨its,rv,pl,hz⟩:=I.tuple hp
   exact⟨its,rv,.inr pl⟩
 obtain⟨its,rv,hs⟩:=src
 have hli:=rv.length
 have hun:∀ A:Around,A.in1.units<=A.units+1:=fun A=>Jj _
 have at':∀ i,i<vs.length->∃ a,its[i]? =some (.ref a)/\vs.getD i .non= .ref a/\H a=some (.tup ((nss.getD i []).map V.int)):=fun i hi=>by
  obtain⟨a,e1,e2⟩:=T i hi
  obtain⟨u,hu',ru⟩:=rv.get e1
  cases (show u=Value.ref a from ru)
  exact⟨a,hu',by rw[Jw,e1];rfl,e2⟩
 have hf:H s.heap.objs.size=none:=I.hok.fresh (Jj _)
 refine Es (I.ok.hd hc) (by show X.A.units+3<cLine;omega) hs (fun i=>(nss.getD i [],match vs.getD i .non with| .ref a=>a|_=>0)) (fun i v hv=>?_) (by rw[Jt];omega) (fun j hj=>?_) fun h' tk o es ep t L hS hF kp=>?_
 ·have hi:i<vs.length:=by rw[hli];simpa using(JD.mp hv).1
  obtain⟨a,e1,e2,_⟩:=at' i hi
  rw[KN,e1]at hv
  cases hv
  simp only[e2]
 ·rw[Jt]at hj
  obtain⟨a,e1,e2,e3⟩:=at' j (by omega)
  simp only[e2]
  exact Et I.hok e3
 ·rw[Jt, <-hli]at hF
  refine⟨.ref s.heap.objs.size,_,I.laid (o:=.ext (mH X.prog X.w s.heap.objs.size (j9 vs nss))) (fun b o e=>kp b o (Jm e) e) (Jj _) ⟨⟨o,es,ep,t,L,hS,hF⟩,⟨o,hS.get⟩,fun h1 h2 ⟨o,es,ep,t,L,a1,a2⟩ k=>⟨o,es,ep,t,L,a1.at k,a2⟩⟩,rfl,q _ hf⟩
theorem rk(hc:X.calm=true):cG X (.builtin "sorted") (fun xs H Q=>∃(p:Addr) (kv:List KA),xs=[.ref p]/\H p=some (.ext (mH X.prog X.w p kv))/\(∀ k∈kv,H k.2=some (.tup (k.1.map V.int))/\k.1.length=2)/\kv.length<=18/\
  ∀ L q,Folded kv L->fY (L.map (·.1)) q->∀ l,H l=none->Q (.ref l) (upd H l (.lst (q.map fun i=>(L.map fun k=>V.ref k.2).getD i .non)))):=by
 intro pins s σ H xs us Q I r h
 obtain⟨p,kv,rfl,hp,hk,h18,q⟩:=h
 obtain⟨u,rfl,rx⟩:=vals1 r
 cases (show u=Value.ref p from rx)
 obtain⟨⟨o,es,ep,t,L,hS,hF⟩,_,_⟩:=(show aY X.prog X.w H s.heap p (.ext (mH X.prog X.w p kv))from I.hok p _ hp)
 have hLn:=hF.len
 have rvL:∀ l:List KA,aZ (l.map fun k=>V.ref k.2) (l.map fun k=>Value.ref k.2):=by
  intro l
  induction l with
  |nil=>exact .nil
  |cons k l ih=>exact .cons rfl ih
 refine iV I (fun us=>∃ L':List KA,L'.Perm L/\us=L'.map fun k=>Value.ref k.2) (fun R E' hR=>?_) ?_
 ·refine tq (by show X.A.handled=none;exact I.ok.hd hc) hS (by rw[hS.len];omega) fun h' tk L' hp' kp=>hR _ _ _ ⟨L',hp',rfl⟩ kp
 ·rintro us ⟨L',hp',rfl⟩
  have hF':=hF.perm hp'
  have hl':=hF'.len
  refine⟨L'.map fun k=>V.ref k.2,L'.map (·.1),rvL L',⟨by simp,fun i hi=>?_,1,fun i hi=>?_⟩,by simp;omega,fun qq hq l hl=>q L' qq hF' hq l hl⟩
  ·rw[Jl]at hi
   refine⟨L'[i].2,by rw[JB,Jk hi];rfl,?_⟩
   have:=(hk _ (hF'.sub _ (Km hi))).1
   rw[Jw,JB,Jk hi]
   exact this
  ·rw[Jl]at hi
   rw[Jw,JB,Jk hi]
   exact(hk _ (hF'.sub _ (Km hi))).2
def two(nss:List (List Int)):Bool:=nss.all fun ns=>ns.length==2
def tw(nss:List (List Int)):M D:=if nss.length<64/\two nss=true then bo ((jk nss).map tupI)else M.fail
def n4(xs:List D):M D:=match intsOf xs with
 |some ns=>if ns.length<64 then bo ((sortI ns).map D.int)else M.fail
 |none=>match rowsOf xs with
  |some nss=>tw nss
  |none=>M.fail
def dz:List D->M D
 |[.lst k]=>do
  let xs<-getL k
  n4 xs
 |[.fz xs]=>n4 xs
 |_=>M.fail
theorem B8{H:Hp}{vs:List V}{nss:List (List Int)}(h:vs.length=nss.length/\∀ i,i<vs.length->∃ a,vs[i]? =some (.ref a)/\H a=some (.tup ((nss.getD i []).map V.int)))(h2:two nss=true):TRow H vs nss:=
 ⟨h.1,h.2,1,fun i hi=>by
  have hi':i<nss.length:=by rw[<-h.1];exact hi
  have:=JQ.mp h2 nss[i] (Km hi')
  rw[Jw,Jk hi']
  simpa using this⟩
theorem rm:jV X.K E dz (fun xs H Q=>(∃(p:Addr) (ns:List Int),xs=[.ref p]/\iY X.K H p (ns.map V.int)/\ns.length<64/\∀ l,H l=none->Q (.ref l) (upd H l (.lst ((sortI ns).map V.int))))\/
  ∃(p:Addr) (vs:List V) (nss:List (List Int)),xs=[.ref p]/\iY X.K H p vs/\TRow H vs nss/\vs.length<64/\∀ q,fY nss q->∀ l,H l=none->Q (.ref l) (upd H l (.lst (q.map fun i=>vs.getD i .non)))):=by
 intro ι S H ds vs Q rep r c
 have fin:∀{es:List D} {us:List V} {p:Addr},RelDs X.K ι H es us->Rd H p (.lst us)->cont X.K E (n4 es) ι S H (ku X.K Q)->vs=[.ref p]->
   (∃(p:Addr) (ns:List Int),vs=[.ref p]/\iY X.K H p (ns.map V.int)/\ns.length<64/\∀ l,H l=none->Q (.ref l) (upd H l (.lst ((sortI ns).map V.int))))\/
  ∃(p:Addr) (ws:List V) (nss:List (List Int)),vs=[.ref p]/\iY X.K H p ws/\TRow H ws nss/\ws.length<64/\∀ q,fY nss q->∀ l,H l=none->Q (.ref l) (upd H l (.lst (q.map fun i=>ws.getD i .non))):=by
  intro es us p rv hv c4 hvs
  unfold n4 at c4
  cases q:intsOf es with
  | some ns=>
   rw[q]at c4
   have c5:cont X.K E (if ns.length<64 then bo ((sortI ns).map D.int)else M.fail) ι S H (ku X.K Q):=c4
   by_cases h:ns.length<64
   ·rw[if_pos h]at c5
    exact .inl ⟨p,ns,hvs,.inl (by rw[<-eP rv q];exact hv),h,(bf c5 rep (nL _)).2⟩
   ·rw[if_neg h]at c5;exact(ag c5).elim
  | none=>
   rw[q]at c4
   cases q2:rowsOf es with
   |none=>rw[q2]at c4;exact(ag c4).elim
   | some nss=>
    rw[q2]at c4
    have c5:cont X.K E (if nss.length<64/\two nss=true then bo ((jk nss).map tupI)else M.fail) ι S H (ku X.K Q):=c4
    by_cases h:nss.length<64/\two nss=true
    ·rw[if_pos h]at c5
     obtain⟨g1,g2⟩:=nZ rv q2
     refine .inr ⟨p,us,nss,hvs,.inl hv,B8 ⟨g1,g2⟩ h.2,by omega,fun qq hq l hl=>?_⟩
     have hin:∀ i∈qq,i<us.length:=fun i hi=>by rw[g1];exact JG.mp (hq.1.mem_iff.mp hi)
     have rr:RelDs X.K ι H ((jk nss).map tupI) (qq.map fun i=>us.getD i .non):=by
      rw[<-nY hq]
      exact n0 g2 qq hin
     exact(bf c5 rep rr).2 l hl
    ·rw[if_neg h]at c5;exact(ag c5).elim
 unfold dz at c
 split at c
 ·next k=>
  obtain⟨v,ws,rfl,r1,r2⟩:=r.cons_inv
  cases r2.nil_inv
  obtain⟨p,rfl,h1⟩:=r1.lst_inv
  obtain⟨es,us,_,hv,rv,c4⟩:=aX c rep h1
  exact fin rv (.inl hv) c4 rfl
 ·next es=>
  obtain⟨v,ws,rfl,r1,r2⟩:=r.cons_inv
  cases r2.nil_inv
  obtain⟨p,o,us,rfl,h1,rv⟩:=r1.fz_inv
  exact fin rv (.inr ⟨o,h1⟩) c rfl
 ·exact(ag c).elim
theorem lM{p:Pos}(hm:X.mg "sorted"=none)(ha:SE X E e m)(hg:Gl X "sorted":=by rfl)(hs:starEach [e] X.env=[(false,eval e X.env)]:=by rfl):SE X E (.Call (.Name "sorted" p) [e] [] pos) (fun ρ=>do let ds<-(do let x<-m ρ;let xs<-pure [];pure (x::xs));dz ds):=
 hV (cG.or qY pE) rm hg hm (by decide+kernel) (ae ha aq hs) (by decide) (by decide) hs rfl
def dY(nss:List (List Int)):M D:=if nss.length<=18/\two nss=true then bo ((iW nss).map tupI)else M.fail
def kR:List D->M D
 |[.lst k]=>do
  let xs<-getL k
  match rowsOf xs with
  |some nss=>dY nss
  |none=>M.fail
 |[.tup xs]=>match rowsOf xs with
  |some nss=>dY nss
  |none=>M.fail
 |[.fz xs]=>match rowsOf xs with
  |some nss=>dY nss
  |none=>M.fail
 |_=>M.fail
theorem B9{vs:List V}{nss:List (List Int)}(h:vs.length=nss.length):(j9 vs nss).map (·.1)=nss:=by
 unfold j9
 rw[J2]
 refine LX fun i=>?_
 rw[JB,h]
 by_cases hi:i<nss.length
 ·rw[Ln hi,Jk hi]
  simp[List.getD_eq_getElem?_getD,hi]
 ·rw[J8 (by simpa using hi),J8 (by omega)];rfl
theorem Gr{K:PySem.W.Frag}{ι:List Addr}{H:Hp}{L:List KA}(h:∀ k∈L,H k.2=some (.tup (k.1.map V.int))):∀ q:List Nat,(∀ i∈q,i<L.length)->RelDs K ι H ((q.map fun i=>(L.map (·.1)).getD i []).map tupI) (q.map fun i=>(L.map fun k=>V.ref k.2).getD i .non):=by
 intro q hq
 refine n0 (fun i hi=>?_) q fun i hi=>by rw[Jl];exact hq i hi
 rw[Jl]at hi
 refine⟨L[i].2,by rw[JB,Jk hi];rfl,?_⟩
 rw[Jw,JB,Jk hi]
 exact h _ (Km hi)
theorem rp{p q pos2:Pos}(hc:X.calm=true)(hu:X.A.units+8<cLine)(hm:X.mg "sorted"=none)(hm2:X.mg "set"=none)(ha:SE X E e m)(hg:Gl X "sorted":=by rfl)(hg2:Gl X "set":=by rfl)(hs:starEach [e] X.env=[(false,eval e X.env)]:=by rfl)
  (hs2:starEach [.Call (.Name "set" q) [e] [] pos2] X.env=[(false,eval (.Call (.Name "set" q) [e] [] pos2) X.env)]:=by rfl):
  SE X E (.Call (.Name "sorted" p) [.Call (.Name "set" q) [e] [] pos2] [] pos) (fun ρ=>do let ds<-(do let x<-m ρ;let xs<-pure [];pure (x::xs));kR ds):=by
 refine PE.imp (gY (rk hc) hg hm (by decide+kernel) (dr (gZ (xU hc hu) hg2 hm2 (by decide+kernel) (ae ha aq hs) (by decide) (by decide) hs rfl) iy hs2) (by decide) (by decide) hs2 rfl) fun σ H Q h=>?_
 obtain⟨ι,S,ρ,rep,re,c⟩:=h
 refine⟨ι,S,ρ,rep,re,ak (ah c) fun ds ι1 S1 H1 e1 rep1 c1 vs r=>?_⟩
 have fin:∀{xs:List D} {us:List V} {a:Addr} {nss:List (List Int)},RelDs X.K ι1 H1 xs us->rowsOf xs=some nss->(iY X.K H1 a us\/j5 X.K H1 a us)->cont X.K E (dY nss) ι1 S1 H1 (ku X.K Q)->vs=[.ref a]->
   ∃ (p:Addr) (vs':List V) (nss:List (List Int)),vs=[.ref p]/\(iY X.K H1 p vs'\/j5 X.K H1 p vs')/\
    (∀ i,i<vs'.length->∃ a,vs'[i]? =some (.ref a)/\H1 a=some (.tup ((nss.getD i []).map V.int)))/\vs'.length<=18/\∀ l,H1 l=none->
     ∃(p:Addr) (kv:List KA),[V.ref l]=[.ref p]/\upd H1 l (.ext (mH X.prog X.w l (j9 vs' nss))) p=some (.ext (mH X.prog X.w p kv))/\(∀ k∈kv,upd H1 l (.ext (mH X.prog X.w l (j9 vs' nss))) k.2=some (.tup (k.1.map V.int))/\k.1.length=2)/\kv.length<=18/\
      ∀ L q,Folded kv L->fY (L.map (·.1)) q->∀ l',upd H1 l (.ext (mH X.prog X.w l (j9 vs' nss))) l'=none->Q (.ref l') (upd (upd H1 l (.ext (mH X.prog X.w l (j9 vs' nss)))) l' (.lst (q.map fun i=>(L.map fun k=>V.ref k.2).getD i .non))):=by
  intro xs us a nss rv q2 hsq cc hvs
  unfold dY at cc
  by_cases h:nss.length<=18/\two nss=true
  ·rw[if_pos h]at cc
   obtain⟨g1,g2⟩:=nZ rv q2
   refine⟨a,us,nss,hvs,hsq,g2,by omega,fun l hl=>⟨l,j9 us nss,rfl,aL,fun k hk=>?_,by unfold j9;simp;omega,fun L qq hF hq l' hl'=>?_⟩⟩
   ·unfold j9 at hk
    obtain⟨i,hi,rfl⟩:=JY.mp hk
    rw[JG]at hi
    obtain⟨b,b1,b2⟩:=g2 i hi
    have b3:us.getD i .non= .ref b:=by rw[Jw,b1];rfl
    simp only[b3]
    refine⟨by rw[aA (aF b2 hl)];exact b2,?_⟩
    have hi':i<nss.length:=by omega
    have:=JQ.mp h.2 nss[i] (Km hi')
    rw[Jw,Jk hi']
    simpa using this
   ·have hE:Ext ι1 H1 ι1 (upd H1 l (.ext (mH X.prog X.w l (j9 us nss)))):=dR hl
    have rep2:=eV (o:=.ext (mH X.prog X.w l (j9 us nss))) rep1 hl
    have hin:∀ i∈qq,i<L.length:=fun i hi=>by
     have:=JG.mp (hq.1.mem_iff.mp hi)
     simpa using this
    have hk:∀ k∈L,upd H1 l (.ext (mH X.prog X.w l (j9 us nss))) k.2=some (.tup (k.1.map V.int)):=fun k hk=>by
     have hk':=hF.sub k hk
     unfold j9 at hk'
     obtain⟨i,hi,rfl⟩:=JY.mp hk'
     rw[JG]at hi
     obtain⟨b,b1,b2⟩:=g2 i hi
     have b3:us.getD i .non= .ref b:=by rw[Jw,b1];rfl
     simp only[b3]
     rw[aA (aF b2 hl)];exact b2
    have rr:=Gr (K:=X.K) (ι:=ι1) hk qq hin
    rw[nY hq,Ab hF,B9 g1]at rr
    exact(bf (eN cc hE) rep2 rr).2 l' hl'
  ·rw[if_neg h]at cc;exact(ag cc).elim
 unfold kR at c1
 split at c1
 ·next k=>
  obtain⟨v,ws,rfl,r1,r2⟩:=r.cons_inv
  cases r2.nil_inv
  obtain⟨a,rfl,h1⟩:=r1.lst_inv
  obtain⟨es,us,_,hv,rv,c4⟩:=aX c1 rep1 h1
  cases q2:rowsOf es with
  |none=>rw[q2]at c4;exact(ag c4).elim
  |some nss=>
   rw[q2]at c4
   exact fin rv q2 (.inl (.of hv)) c4 rfl
 ·next xs=>
  obtain⟨v,ws,rfl,r1,r2⟩:=r.cons_inv
  cases r2.nil_inv
  obtain⟨a,us,rfl,h1,rv⟩:=r1.tup_inv
  cases q2:rowsOf xs with
  |none=>rw[q2]at c1;exact(ag c1).elim
  |some nss=>
   rw[q2]at c1
   exact fin rv q2 (.inr (.of h1)) c1 rfl
 ·next xs=>
  obtain⟨v,ws,rfl,r1,r2⟩:=r.cons_inv
  cases r2.nil_inv
  obtain⟨a,o,us,rfl,h1,rv⟩:=r1.fz_inv
  cases q2:rowsOf xs with
  |none=>rw[q2]at c1;exact(ag c1).elim
  |some nss=>
   rw[q2]at c1
   exact fin rv q2 (.inl (.inl (.inr ⟨o,h1⟩))) c1 rfl
 ·exact(ag c1).elim
end
end S3
namespace S4
open PySem PySem.Spec PyProof.Rows L2 S3
section
variable {prog:Program}{w:World}{A:Around}{E:Value->Shared->Prop}{s:Shared}
theorem kb{it t:Addr}{i:Nat}{items:Array Value}{x:Value}{Q:Value->Shared->Prop}(hit:s.heap.IsTupleIter it t i)(ht:s.heap.IsTuple t items)(hx:items[i]? =some x)
  (hQ:∀ h',h'.IsTupleIter it t (i+1)->Heap.SameBut it s.heap h'->Q x {s with heap:=h'}):wpAny (model prog w) A (Builtin.SmallTypes.nextOf (.ref it)) Q E s:=by
 obtain⟨o,ho,hc,hd⟩:=id hit
 obtain⟨ol,hol,_,nl,hdl⟩:=ht
 unfold Builtin.SmallTypes.nextOf
 refine Jg (wpAny_callSpecial?_slot (name:=Str.ofString "__next__") hit.typeIs KJ
  (J9 KJ hit.typeIs Mn ?_ (Mg _)))
 show wpAny _ _ (field (.ref it) 0>>=_) _ _ s
 refine Jg (J7 ho hd (x:=.ref t) rfl ?_)
 show wpAny _ _ (if (Value.ref t==Value.none)=true then _ else _) _ _ s
 rw[if_neg (show ¬ ((Value.ref t==Value.none)=true)from Kx)]
 show wpAny _ _ (field (.ref it) 1>>=_) _ _ s
 refine Jg (J7 ho hd (x:=.int i 0) rfl ?_)
 show wpAny _ _ (seqItems? (.ref t)>>=_) _ _ s
 refine Jg (Ks hol hdl ?_)
 simp only[Int.toNat_natCast,hx]
 refine Jg (K3 ho hd (by simp) (Ji ⟨x,rfl,Ji (hQ _ ?_ (Kr ..))⟩))
 exact⟨_,J3 _ ho (K8 (Ky hd _)),(MI ..).trans hc,by
  rw[Ky hd];simp[rawInt]⟩
theorem qi{it t:Addr}{i:Nat}{items:Array Value}{Q:Value->Shared->Prop}(hh:A.handled=none)(hit:s.heap.IsTupleIter it t i)(ht:s.heap.IsTuple t items)(hx:items[i]? =none)
  (hE:∀ h' e,Heap.ExtBut it s.heap h'->(∃ o,h'.get? e=some o/\o.cls= .type "StopIteration")->E (.ref e) {s with heap:=h'}):wpAny (model prog w) A (Builtin.SmallTypes.nextOf (.ref it)) Q E s:=by
 obtain⟨o,ho,hc,hd⟩:=id hit
 obtain⟨ol,hol,_,nl,hdl⟩:=ht
 unfold Builtin.SmallTypes.nextOf
 refine Jg (wpAny_callSpecial?_slot (name:=Str.ofString "__next__") hit.typeIs KJ
  (J9 KJ hit.typeIs Mn ?_ (Mg _)))
 show wpAny _ _ (field (.ref it) 0>>=_) _ _ s
 refine Jg (J7 ho hd (x:=.ref t) rfl ?_)
 show wpAny _ _ (if (Value.ref t==Value.none)=true then _ else _) _ _ s
 rw[if_neg (show ¬ ((Value.ref t==Value.none)=true)from Kx)]
 show wpAny _ _ (field (.ref it) 1>>=_) _ _ s
 refine Jg (J7 ho hd (x:=.int i 0) rfl ?_)
 show wpAny _ _ (seqItems? (.ref t)>>=_) _ _ s
 refine Jg (Ks hol hdl ?_)
 simp only[Int.toNat_natCast,hx]
 refine Jg (LW (Jg (K3 ho hd (by simp) ?_)))
 show wpAny _ _ (newExc (.type "StopIteration") []>>=_) _ _ _
 refine Jg ?_
 simp only[newExc,newTuple]
 refine Jg (JZ ?_ (by size_fits))
 refine Jg (m:=firstArgMember _ _) (MZ (a:=Value.none) (by first|rfl|(simp only[firstArgMember];rfl)) ?_)
 refine JZ ?_ (by size_fits)
 simp only[raiseNew]
 refine Jg (wpAny_handled ?_)
 first|rw[show A.in1.handled=none from hh]|rw[hh]
 refine Jg (Ji (wpAny_throw ?_))
 exact hE _ _ (((Kr ..).extBut.push _).push _) ⟨_,Jo _ rfl,rfl⟩
theorem xV{z TI TO i1 i2 l1 l2:Addr}{k:Nat}{xs ys:Array Value}{x y a b:Value}{Q:Option Value->Shared->Prop}(D:ZipApart z TI TO i1 i2 l1 l2)
  (hz:IsZip s.heap z TI TO .none) (hTI:IsPair s.heap TI (.ref i1) (.ref i2)) (hTO:IsPair s.heap TO a b)
  (h1:s.heap.IsTupleIter i1 l1 k) (h2:s.heap.IsTupleIter i2 l2 k) (hl1:s.heap.IsTuple l1 xs) (hl2:s.heap.IsTuple l2 ys) (hx:xs[k]? =some x) (hy:ys[k]? =some y)
  (hQ:∀ h',IsZip h' z TI TO (rawInt s.heap.objs.size)->IsPair h' TO x y->h'.IsTupleIter i1 l1 (k+1)->h'.IsTupleIter i2 l2 (k+1)->IsPair h' s.heap.objs.size x y->h'.objs.size=s.heap.objs.size+1->
   (∀ c o,c≠z->c≠TO->c≠i1->c≠i2->s.heap.get? c=some o->h'.get? c=some o)->Q (some (.ref s.heap.objs.size)) {s with heap:=h'}):wpAny (model prog w) A (pyNext (.ref z)) Q E s:=by
 have hT:s.TypeIs (.ref z) "zip":=⟨_,hz,rfl⟩
 unfold pyNext
 refine Jg (LF (wpAny_callSpecial?_slot (name:=Str.ofString "__next__") hT Mo (J9 Mo hT F.entry_zip_next ?_ (F.args_zip_next_1 _))))
 show wpAny _ _ (field (.ref z) 2>>=_) _ _ _
 refine Jg (J7 hz rfl (x:=.bool false) rfl ?_)
 show wpAny _ _ (field (.ref z) 3>>=_) _ _ _
 refine Jg (J7 hz rfl (x:=.ref TI) rfl ?_)
 refine Jg (Ks hTI rfl ?_)
 show wpAny _ _ (Builtin.SmallTypes.ownedTupleIsFree (.ref z)>>=_) _ _ _
 refine Jg ?_
 unfold Builtin.SmallTypes.ownedTupleIsFree
 refine Jg (J7 hz rfl (x:=.none) rfl (Ji ?_))
 simp only[if_true]
 refine Jg (LW ?_)
 refine Jg (J7 hz rfl (x:=.ref TO) rfl ?_)
 refine Jg (KO hz (by simp) fun g1 hz1 hs1=>?_)
 replace hz1:IsZip g1 z TI TO .ellipsis:=hz1
 refine Jg ?_
 simp only[List.zipIdx_cons,List.zipIdx_nil,List.forIn_cons,List.forIn_nil]
 refine Jg (Jg (MN ?_))
 show wpAny _ _ (Builtin.SmallTypes.nextOf (.ref i1)>>=_) _ _ _
 refine Jg (kb (s:={s with heap:=g1}) (h1.at fun o e=>hs1.extBut _ _ D.i1z e) (hl1.extBut hs1.extBut D.l1z) hx fun g2 h12 hs2=>Ji ?_)
 have hTO2:IsPair g2 TO a b:=hs2.extBut _ _ D.TOi1 (hs1.extBut _ _ D.TOz hTO)
 refine Jg (Ks hTO2 rfl ?_)
 refine Jg (Mc hTO2 fun g3 hTO3 hs3=>?_)
 replace hTO3:IsPair g3 TO x b:=hTO3
 refine Jg (wpAny_letGo (Ji ?_))
 refine Jg (Jg (MN ?_))
 show wpAny _ _ (Builtin.SmallTypes.nextOf (.ref i2)>>=_) _ _ _
 refine Jg (kb (s:={s with heap:=g3}) (((h2.at fun o e=>hs1.extBut _ _ D.i2z e).at fun o e=>hs2.extBut _ _ D.i12.symm e).at fun o e=>hs3.extBut _ _ D.TOi2.symm e)
  (((hl2.extBut hs1.extBut D.l2z).extBut hs2.extBut D.l2i1).extBut hs3.extBut D.l2TO) hy fun g4 h24 hs4=>Ji ?_)
 have hTO4:IsPair g4 TO x b:=hs4.extBut _ _ D.TOi2 hTO3
 refine Jg (Ks hTO4 rfl ?_)
 refine Jg (Mc hTO4 fun g5 hTO5 hs5=>?_)
 replace hTO5:IsPair g5 TO x y:=hTO5
 refine Jg (wpAny_letGo (Ji (Ji ?_)))
 refine Jg (Ks hTO5 rfl ?_)
 refine Jg (wpAny_newTuple ?_)
 have hsz:g5.objs.size=s.heap.objs.size:=by rw[hs5.1,hs4.1,hs3.1,hs2.1,hs1.1]
 have hz5:IsZip g5 z TI TO .ellipsis:=hs5.extBut _ _ D.TOz.symm (hs4.extBut _ _ D.i2z.symm (hs3.extBut _ _ D.TOz.symm (hs2.extBut _ _ D.i1z.symm hz1)))
 have hk5:∀ c o,c≠z->c≠TO->c≠i1->c≠i2->s.heap.get? c=some o->g5.get? c=some o:=fun c o c1 c2 c3 c4 e=>
  hs5.extBut _ _ c2 (hs4.extBut _ _ c4 (hs3.extBut _ _ c2 (hs2.extBut _ _ c3 (hs1.extBut _ _ c1 e))))
 have h15:g5.IsTupleIter i1 l1 (k+1):=((h12.at fun o e=>hs3.extBut _ _ D.TOi1.symm e).at fun o e=>hs4.extBut _ _ D.i12 e).at fun o e=>hs5.extBut _ _ D.TOi1.symm e
 have h25:g5.IsTupleIter i2 l2 (k+1):=h24.at fun o e=>hs5.extBut _ _ D.TOi2.symm e
 have hzlt:z<g5.objs.size:=Jm hz5
 show wpAny _ _ (Builtin.SmallTypes.ownedTupleHandOut (.ref z) (.ref g5.objs.size)>>=_) _ _ _
 refine Jg ?_
 unfold Builtin.SmallTypes.ownedTupleHandOut
 have hz6:IsZip (g5.push {cls:=.type "tuple",data:=.seq #[x,y]}) z TI TO .ellipsis:=Jh _ hz5
 refine Jg (KO hz6 (by simp) fun g7 hz7 hs7=>?_)
 replace hz7:IsZip g7 z TI TO (rawInt g5.objs.size):=hz7
 refine KO hz7 (by simp) fun g8 hz8 hs8=>?_
 replace hz8:IsZip g8 z TI TO (rawInt g5.objs.size):=hz8
 have up:∀ c o,c≠z->g5.get? c=some o->g8.get? c=some o:=fun c o c1 e=>hs8.extBut _ _ c1 (hs7.extBut _ _ c1 (Jh _ e))
 have hT8:IsPair g8 g5.objs.size x y:=hs8.extBut _ _ (KD hzlt) (hs7.extBut _ _ (KD hzlt) (Jo _ rfl))
 have hz9:g8.objs.size=g5.objs.size+1:=by rw[hs8.1,hs7.1,Ka]
 rw[hsz]at hz8 hT8 hz9
 refine Ji ⟨_,rfl,?_⟩
 refine Ji ?_
 show Q (some (.ref g5.objs.size)) _
 rw[hsz]
 exact hQ g8 hz8 (up _ _ D.TOz hTO5) (h15.at fun o e=>up _ o D.i1z e) (h25.at fun o e=>up _ o D.i2z e) hT8 hz9 fun c o c1 c2 c3 c4 e=>up c o c1 (hk5 c o c1 c2 c3 c4 e)
theorem Ac{z TI TO i1 i2 l1 l2:Addr}{k:Nat}{xs ys:Array Value}{a b:Value}{Q:Option Value->Shared->Prop}(hh:A.handled=none)(D:ZipApart z TI TO i1 i2 l1 l2)
  (hz:IsZip s.heap z TI TO .none) (hTI:IsPair s.heap TI (.ref i1) (.ref i2)) (hTO:IsPair s.heap TO a b)
  (h1:s.heap.IsTupleIter i1 l1 k) (h2:s.heap.IsTupleIter i2 l2 k) (hl1:s.heap.IsTuple l1 xs) (hl2:s.heap.IsTuple l2 ys) (hend:xs[k]? =none\/ys[k]? =none)
  (hQ:∀ h',(∀ c o,c≠z->c≠TO->c≠i1->c≠i2->s.heap.get? c=some o->h'.get? c=some o)->Q none {s with heap:=h'}):wpAny (model prog w) A (pyNext (.ref z)) Q E s:=by
 have hT:s.TypeIs (.ref z) "zip":=⟨_,hz,rfl⟩
 unfold pyNext
 refine Jg (LF (wpAny_callSpecial?_slot (name:=Str.ofString "__next__") hT Mo (J9 Mo hT F.entry_zip_next ?_ (F.args_zip_next_1 _))))
 have stop:∀(g:Heap) (e:Addr),(∃ o,g.get? e=some o/\o.cls= .type "StopIteration")->(∀ c o,c≠z->c≠TO->c≠i1->c≠i2->s.heap.get? c=some o->g.get? c=some o)->∀ R:Value->Shared->Prop,
   (∀ v s',wpAny (model prog w) A (do if<-isInstance v (.type "StopIteration")then pure none else throw v) Q E s'->R v s')->R (.ref e) {s with heap:=g}:=fun g e ⟨o,ho,hc⟩ hk R hR=>hR _ _ (by
  refine Jg (Ll (T:="StopIteration") (b:=true) ⟨o,ho,hc⟩ My ?_)
  exact Ji (hQ _ hk))
 show wpAny _ _ (field (.ref z) 2>>=_) _ _ _
 refine Jg (J7 hz rfl (x:=.bool false) rfl ?_)
 show wpAny _ _ (field (.ref z) 3>>=_) _ _ _
 refine Jg (J7 hz rfl (x:=.ref TI) rfl ?_)
 refine Jg (Ks hTI rfl ?_)
 show wpAny _ _ (Builtin.SmallTypes.ownedTupleIsFree (.ref z)>>=_) _ _ _
 refine Jg ?_
 unfold Builtin.SmallTypes.ownedTupleIsFree
 refine Jg (J7 hz rfl (x:=.none) rfl (Ji ?_))
 simp only[if_true]
 refine Jg (LW ?_)
 refine Jg (J7 hz rfl (x:=.ref TO) rfl ?_)
 refine Jg (KO hz (by simp) fun g1 hz1 hs1=>?_)
 replace hz1:IsZip g1 z TI TO .ellipsis:=hz1
 refine Jg ?_
 simp only[List.zipIdx_cons,List.zipIdx_nil,List.forIn_cons,List.forIn_nil]
 refine Jg (Jg (MN ?_))
 show wpAny _ _ (Builtin.SmallTypes.nextOf (.ref i1)>>=_) _ _ _
 cases hx:xs[k]? with
 |none=>
  refine Jg (qi (s:={s with heap:=g1}) hh (h1.at fun o e=>hs1.extBut _ _ D.i1z e) (hl1.extBut hs1.extBut D.l1z) hx fun g2 e hs2 he=>?_)
  obtain⟨oe,hoe,hce⟩:=he
  have hz2:IsZip g2 z TI TO .ellipsis:=hs2 _ _ D.i1z.symm hz1
  have hez:e≠z:=fun x=>by subst x;rw[hz2]at hoe;cases hoe;simp at hce
  refine KO hz2 (by simp) fun g3 _ hs3=>?_
  refine Jg (Ll (T:="StopIteration") (b:=true) ⟨oe,hs3.extBut _ _ hez hoe,hce⟩ My ?_)
  exact Ji (hQ _ fun c o c1 _ c3 _ x=>hs3.extBut _ _ c1 (hs2 _ _ c3 (hs1.extBut _ _ c1 x)))
 | some x=>
  have hy:ys[k]? =none:=by rcases hend with h|h;rw[hx]at h;cases h;exact h
  refine Jg (kb (s:={s with heap:=g1}) (h1.at fun o e=>hs1.extBut _ _ D.i1z e) (hl1.extBut hs1.extBut D.l1z) hx fun g2 h12 hs2=>Ji ?_)
  have hTO2:IsPair g2 TO a b:=hs2.extBut _ _ D.TOi1 (hs1.extBut _ _ D.TOz hTO)
  refine Jg (Ks hTO2 rfl ?_)
  refine Jg (Mc hTO2 fun g3 hTO3 hs3=>?_)
  refine Jg (wpAny_letGo (Ji ?_))
  refine Jg (Jg (MN ?_))
  show wpAny _ _ (Builtin.SmallTypes.nextOf (.ref i2)>>=_) _ _ _
  refine Jg (qi (s:={s with heap:=g3}) hh (((h2.at fun o e=>hs1.extBut _ _ D.i2z e).at fun o e=>hs2.extBut _ _ D.i12.symm e).at fun o e=>hs3.extBut _ _ D.TOi2.symm e)
   (((hl2.extBut hs1.extBut D.l2z).extBut hs2.extBut D.l2i1).extBut hs3.extBut D.l2TO) hy fun g4 e hs4 he=>?_)
  obtain⟨oe,hoe,hce⟩:=he
  have hz4:IsZip g4 z TI TO .ellipsis:=hs4 _ _ D.i2z.symm (hs3.extBut _ _ D.TOz.symm (hs2.extBut _ _ D.i1z.symm hz1))
  have hez:e≠z:=fun x=>by subst x;rw[hz4]at hoe;cases hoe;simp at hce
  refine KO hz4 (by simp) fun g5 _ hs5=>?_
  refine Jg (Ll (T:="StopIteration") (b:=true) ⟨oe,hs5.extBut _ _ hez hoe,hce⟩ My ?_)
  exact Ji (hQ _ fun c o c1 c2 c3 c4 x=>hs5.extBut _ _ c1 (hs4 _ _ c4 (hs3.extBut _ _ c2 (hs2.extBut _ _ c3 (hs1.extBut _ _ c1 x)))))
end
def G8(l:Addr):Obj:={cls:=.type "tuple_iterator",data:=.fields #[.ref l,.int 0 0]}
def Eu(h:Heap)(l1:Addr):Heap:=h.push (G8 l1)
def Ew(h:Heap)(l1 l2:Addr):Heap:=(Eu h l1).push (G8 l2)
def Ey(h:Heap)(l1 l2:Addr):Heap:=(Ew h l1 l2).push {cls:=.type "tuple",data:=.seq #[.ref h.objs.size,.ref (Eu h l1).objs.size]}
def Fs(h:Heap)(l1 l2:Addr):Heap:=(Ey h l1 l2).push {cls:=.type "tuple",data:=.seq #[.none,.none]}
def Ez(h:Heap)(l1 l2:Addr):Heap:=(Fs h l1 l2).push {cls:=.type "zip",data:=.fields #[.none,.bool false,.bool false,.ref (Ew h l1 l2).objs.size,.ref (Ey h l1 l2).objs.size]}
theorem EB(l1 l2:Addr)(xs ys:Array Value):
  Meets (Builtin.«zip.__new__» ⟨[.type "zip",.ref l1,.ref l2],[]⟩) (fun _ R s=>s.heap.IsTuple l1 xs/\s.heap.IsTuple l2 ys/\R (.ok (.ret (.ref (Fs s.heap l1 l2).objs.size))) {s with heap:=Ez s.heap l1 l2}):=
 .of_wp fun prog w A R s h=>by
  obtain⟨hp,g,d,tk,os⟩:=s
  obtain⟨hl1,hl2,h⟩:=h
  have hsub:=sub_zip
  have hL1:Heap.IsTuple (Shared.heap ⟨hp,g,d,tk,os⟩) l1 xs:=hl1
  have hL2:Heap.IsTuple (Shared.heap ⟨hp.push {cls:=.type "tuple_iterator",data:=.fields #[.ref l1,.int 0 0]},g,d,tk,os⟩) l2 ys:=let ⟨o,e,r⟩:=hl2;⟨o,Jh _ e,r⟩
  wp_walk using Lx hL1,Lx hL2
  exact⟨_,rfl,h⟩
section
variable {prog:Program}{w:World}{A:Around}{E:Value->Shared->Prop}{s:Shared}
theorem xW{l1 l2:Addr}{xs ys:Array Value}{Q:Value->Shared->Prop}(hl1:s.heap.IsTuple l1 xs)(hl2:s.heap.IsTuple l2 ys)
  (h:∀ h',IsZip h' (s.heap.objs.size+4) (s.heap.objs.size+2) (s.heap.objs.size+3) .none->IsPair h' (s.heap.objs.size+2) (.ref s.heap.objs.size) (.ref (s.heap.objs.size+1))->
   IsPair h' (s.heap.objs.size+3) .none .none->h'.IsTupleIter s.heap.objs.size l1 0->h'.IsTupleIter (s.heap.objs.size+1) l2 0->(∀ c o,s.heap.get? c=some o->h'.get? c=some o)->Q (.ref (s.heap.objs.size+4)) {s with heap:=h'}):
  wpAny (model prog w) A (call (.type "zip") [.ref l1,.ref l2]) Q E s:=by
 refine callType_new F.called_zip (by decide) (F.typeCall_zip_2 _ _) (F.newCall_zip_2 _ _) (fun obj=>F.args_object_init_3 obj _ _) F.entry_zip_new (EB l1 l2 xs ys) ⟨hl1,hl2,?_⟩
 have z1:(Eu s.heap l1).objs.size=s.heap.objs.size+1:=Ka ..
 have z2:(Ew s.heap l1 l2).objs.size=s.heap.objs.size+2:=(Ka ..).trans (by rw[z1])
 have z3:(Ey s.heap l1 l2).objs.size=s.heap.objs.size+3:=(Ka ..).trans (by rw[z2])
 have z4:(Fs s.heap l1 l2).objs.size=s.heap.objs.size+4:=(Ka ..).trans (by rw[z3])
 have u5:∀{c o},(Fs s.heap l1 l2).get? c=some o->(Ez s.heap l1 l2).get? c=some o:=fun e=>Jh _ e
 have u4:∀{c o},(Ey s.heap l1 l2).get? c=some o->(Fs s.heap l1 l2).get? c=some o:=fun e=>Jh _ e
 have u3:∀{c o},(Ew s.heap l1 l2).get? c=some o->(Ey s.heap l1 l2).get? c=some o:=fun e=>Jh _ e
 have u2:∀{c o},(Eu s.heap l1).get? c=some o->(Ew s.heap l1 l2).get? c=some o:=fun e=>Jh _ e
 have u1:∀{c o},s.heap.get? c=some o->(Eu s.heap l1).get? c=some o:=fun e=>Jh _ e
 have g5:(Ez s.heap l1 l2).get? (Fs s.heap l1 l2).objs.size=some {cls:=.type "zip",data:=.fields #[.none,.bool false,.bool false,.ref (Ew s.heap l1 l2).objs.size,.ref (Ey s.heap l1 l2).objs.size]}:=Jo _ rfl
 have g4:(Ez s.heap l1 l2).get? (Ey s.heap l1 l2).objs.size=some {cls:=.type "tuple",data:=.seq #[.none,.none]}:=u5 (Jo _ rfl)
 have g3:(Ez s.heap l1 l2).get? (Ew s.heap l1 l2).objs.size=some {cls:=.type "tuple",data:=.seq #[.ref s.heap.objs.size,.ref (Eu s.heap l1).objs.size]}:=u5 (u4 (Jo _ rfl))
 have g2:(Ez s.heap l1 l2).get? (Eu s.heap l1).objs.size=some (G8 l2):=u5 (u4 (u3 (Jo _ rfl)))
 have g1:(Ez s.heap l1 l2).get? s.heap.objs.size=some (G8 l1):=u5 (u4 (u3 (u2 (Jo _ rfl))))
 show _/\_
 rw[z2,z3,z4]at g5
 rw[z1,z2]at g3
 rw[z3]at g4
 rw[z1]at g2
 rw[z4]
 exact⟨⟨_,g5,rfl⟩,h _ g5 g3 g4 ⟨_,g1,rfl,rfl⟩ ⟨_,g2,rfl,rfl⟩ fun c o x=>u5 (u4 (u3 (u2 (u1 x))))⟩
end
def yM(va vb:List V):It:=⟨fun i _=>i<va.length/\i<vb.length,fun i H x H'=>∃ p a b,H p=none/\va[i]? =some a/\vb[i]? =some b/\x= .ref p/\H'=upd H p (.tup [a,b]),fun i _=>va.length<=i\/vb.length<=i⟩
section
variable {X:Cx}{pins:List (Addr×Obj)}{σ:L2.St}{H:Hp}{s:Shared}
theorem wu{h':Heap}{t':Nat}{ch:List Addr}(I:L2.Inv X pins σ H s)(hf:∀ b∈ch,jb X pins H b)(k:∀ b o,b ∉ ch->s.heap.get? b=some o->h'.get? b=some o):L2.Inv X pins σ H {s with heap:=h',toks:=t'}:=by
 have nch:∀ b u,H b=some u->b ∉ ch:=fun b u e z=>by rw[(hf b z).1]at e;cases e
 refine I.step (g':=s.gens) (d':=s.drawn) (ch:=ch) (fun b hb=>?_) (fun b o _ _ hc e _=>k b o hc e) (fun b o _ _ hc e _=>⟨o.slots,k b o hc e⟩) (fun _ _ _ _ n=>n)
  (fun b o hc e=>⟨o,k b o hc e⟩) (fun _ _ e=>e) (fun _ _ _ e=>e) (fun b ps e=>⟨#[],by rw[e];simp⟩) (fun m hm=>?_) (fun b u e=>?_) I.bare
 ·obtain⟨f0,f1,f2,f3,f4,f5⟩:=hf b hb
  exact⟨f3,f1,f4,f5⟩
 ·obtain⟨o,es,ep,ho,r⟩:=hm
  exact⟨o,es,ep,k _ o (fun z=>(hf _ z).2.1 rfl) ho,r⟩
 ·refine(I.hok b u e).stay (fun c v hc q=>k c v ?_ q) (fun _ q=>q) fun _ _ q=>q
  rcases hc with z|z
  ·rw[z];exact nch b u e
  ·exact nch c _ z
theorem wx{h':Heap}{t':Nat}{ch:List Addr}{a:Addr}{o:HO}(I:L2.Inv X pins σ H s)(hf:∀ b∈ch,jb X pins H b)(k:∀ b o,b ∉ ch->s.heap.get? b=some o->h'.get? b=some o)(hp:s.heap.objs.size<=a)(new:aY X.prog X.w (upd H a o) h' a o):
  L2.Inv X pins σ (upd H a o) {s with heap:=h',toks:=t'}:=by
 have hn:H a=none:=I.hok.fresh hp
 have nch:∀ b u,H b=some u->b ∉ ch:=fun b u e z=>by rw[(hf b z).1]at e;cases e
 have ne:∀ b o,s.heap.get? b=some o->b≠a:=fun b o e=>Jv (Jx (Jm e) hp)
 refine I.step (g':=s.gens) (d':=s.drawn) (ch:=ch) (fun b hb=>?_) (fun b o _ _ hc e _=>k b o hc e) (fun b o _ _ hc e _=>⟨o.slots,k b o hc e⟩) (fun b o _ e n=>by rw[aA (ne b o e)];exact n)
  (fun b o hc e=>⟨o,k b o hc e⟩) (fun b xs e=>by rw[aA (aF e hn)];exact e) (fun b _ _ e=>by rw[aA (aF e hn)];exact e) (fun b ps e=>⟨#[],by rw[aA (aF e hn),e];simp⟩) (fun m hm=>?_) (fun b u e=>?_) I.bare
 ·obtain⟨f0,f1,f2,f3,f4,f5⟩:=hf b hb
  exact⟨f3,f1,f4,f5⟩
 ·obtain⟨o,es,ep,ho,r⟩:=hm
  exact⟨o,es,ep,k _ o (fun z=>(hf _ z).2.1 rfl) ho,r⟩
 ·by_cases hb:b=a
  ·subst hb;rw[aL]at e;cases e;exact new
  ·rw[aA hb]at e
   refine(I.hok b u e).stay (fun c v hc q=>k c v ?_ q) (fun c q=>by rw[aA (aF q hn)];exact q) fun c xs q=>by rw[aA (aF q hn)];exact q
   rcases hc with z|z
   ·rw[z];exact nch b u e
   ·exact nch c _ z
end
theorem Ad{P:Program}{w:World}{K:PySem.W.Frag}{elts:List Expr}{x1}{tp:Pos}{z TI TO i1 i2 l1 l2:Addr}(D:ZipApart z TI TO i1 i2 l1 l2){va vb:List V}(H0:Hp->Prop)(hH0:∀ H,H0 H↔(H l1=some (.tup va)/\H l2=some (.tup vb))):
  Turn P w K (.Tuple elts x1 tp) ⟨fun i H=>(yM va vb).go i H/\H0 H,(yM va vb).yld,fun i H=>(yM va vb).stop i H/\H0 H⟩ [z,TI,TO,i1,i2] z
   (fun i h=>IsZip h z TI TO .none/\IsPair h TI (.ref i1) (.ref i2)/\(∃ a b,IsPair h TO a b)/\h.IsTupleIter i1 l1 i/\h.IsTupleIter i2 l2 i) where
 mem:=by simp
 obj:=fun i h st b hb=>by
  obtain⟨hz,hTI,⟨a,c,hTO⟩,⟨o1,e1,c1,d1⟩,⟨o2,e2,c2,d2⟩⟩:=st
  simp only[List.mem_cons,List.not_mem_nil,or_false]at hb
  rcases hb with rfl|rfl|rfl|rfl|rfl
  ·exact⟨_,hz,fun v z=>by cases z⟩
  ·exact⟨_,hTI,fun v z=>by cases z⟩
  ·exact⟨_,hTO,fun v z=>by cases z⟩
  ·exact⟨_,e1,fun v z=>by rw[d1]at z;cases z⟩
  ·exact⟨_,e2,fun v z=>by rw[d2]at z;cases z⟩
 keep:=fun i h h' st k=>by
  obtain⟨hz,hTI,⟨a,c,hTO⟩,h1,h2⟩:=st
  exact⟨k z (by simp) _ hz,k TI (by simp) _ hTI,⟨a,c,k TO (by simp) _ hTO⟩,h1.at fun o e=>k i1 (by simp) o e,h2.at fun o e=>k i2 (by simp) o e⟩
 item:=by
  intro X hP hw hK hc i pins s σ H E I hf st hg
  subst hP hw hK
  obtain⟨hz,hTI,⟨a,c,hTO⟩,h1,h2⟩:=st
  obtain⟨⟨ga,gb⟩,hH⟩:=hg
  obtain⟨hA,hB⟩:=(hH0 H).mp hH
  obtain⟨its1,rv1,p1,_⟩:=I.tuple (.of hA)
  obtain⟨its2,rv2,p2,_⟩:=I.tuple (.of hB)
  obtain⟨u1,hu1,ru1⟩:=rv1.get (Jk ga)
  obtain⟨u2,hu2,ru2⟩:=rv2.get (Jk gb)
  refine xV D hz hTI hTO h1 h2 p1 p2 (x:=u1) (y:=u2) (by simpa using hu1) (by simpa using hu2) fun h' a1 a2 a3 a4 a5 a6 hk=>?_
  have hTn:H s.heap.objs.size=none:=I.hok.fresh (Jj _)
  have lt:∀{c o},s.heap.get? c=some o->s.heap.objs.size≠c:=fun e=>KD (Jm e)
  refine⟨_,rfl,Mz a1 fun h'' hz' hs'=>?_⟩
  have hTI':IsPair h'' TI (.ref i1) (.ref i2):=hs'.extBut _ _ D.TIz (hk _ _ D.TIz D.TITO D.TIi1 D.TIi2 hTI)
  have kk:∀ b o,b ∉ [z,TI,TO,i1,i2]->s.heap.get? b=some o->h''.get? b=some o:=fun b o hb e=>by
   simp only[List.mem_cons,List.not_mem_nil,or_false,not_or]at hb
   exact hs'.extBut _ _ hb.1 (hk b o hb.1 hb.2.2.1 hb.2.2.2.1 hb.2.2.2.2 e)
  have T'':IsPair h'' s.heap.objs.size u1 u2:=hs'.extBut _ _ (lt hz) a5
  have I2:L2.Inv X pins σ (upd H s.heap.objs.size (.tup [va[i],vb[i]])) {s with heap:=h'',toks:=s.toks}:=wx (o:=.tup [va[i],vb[i]]) I hf kk (Jj _) ⟨by show 2<=sizeLine;decide,[u1,u2],.cons ru1 (.cons ru2 .nil),_,T'',rfl,_,rfl⟩
  refine⟨.ref s.heap.objs.size,_,I2,rfl,
   ⟨_,_,_,hTn,Jk ga,Jk gb,rfl,rfl⟩,⟨hz',hTI',⟨_,_,hs'.extBut _ _ D.TOz a2⟩,a3.at fun o e=>hs'.extBut _ _ D.i1z e,a4.at fun o e=>hs'.extBut _ _ D.i2z e⟩,fun b hb=>?_⟩
  obtain⟨ob,ho,_⟩:∃ ob,s.heap.get? b=some ob/\True:=by
   simp only[List.mem_cons,List.not_mem_nil,or_false]at hb
   rcases hb with rfl|rfl|rfl|rfl|rfl
   ·exact⟨_,hz,trivial⟩
   ·exact⟨_,hTI,trivial⟩
   ·exact⟨_,hTO,trivial⟩
   ·obtain⟨o,e,_⟩:=h1;exact⟨_,e,trivial⟩
   ·obtain⟨o,e,_⟩:=h2;exact⟨_,e,trivial⟩
  rw[aA (Jv (Jm ho))]
  exact(hf b hb).1
 done:=by
  intro X hP hw hK hc i pins s σ H E I hf st hg
  subst hP hw hK
  obtain⟨hz,hTI,⟨a,c,hTO⟩,h1,h2⟩:=st
  obtain⟨gs,hH⟩:=hg
  obtain⟨hA,hB⟩:=(hH0 H).mp hH
  obtain⟨its1,rv1,p1,_⟩:=I.tuple (.of hA)
  obtain⟨its2,rv2,p2,_⟩:=I.tuple (.of hB)
  have l1':=rv1.length
  have l2':=rv2.length
  refine Ac (I.ok.hd hc) D hz hTI hTO h1 h2 p1 p2 (gs.imp (fun g=>by simp;omega) fun g=>by simp;omega) fun h' hk=>⟨rfl,wu (t':=s.toks) I hf fun b o hb e=>?_⟩
  simp only[List.mem_cons,List.not_mem_nil,or_false,not_or]at hb
  exact hk b o hb.1 hb.2.2.1 hb.2.2.2.1 hb.2.2.2.2 e
 self:=fun _ _ _ _ _ st h=>L9 st.1 h
def HZ:List D->M Iter
 |[.tup xs,.tup ys]=>pure ⟨(xs.zip ys).map fun p=>.tup [p.1,p.2],.none⟩
 |_=>M.fail
theorem zip_get{xs ys:List D}{i:Nat}{d:D}(h:((xs.zip ys).map fun p=>D.tup [p.1,p.2])[i]? =some d):∃ x y,xs[i]? =some x/\ys[i]? =some y/\d= .tup [x,y]:=by
 rw[JB]at h
 cases q:(xs.zip ys)[i]? with
 |none=>rw[q]at h;cases h
 |some p=>
  rw[q]at h
  cases h
  obtain⟨h1,h2⟩:=Lh.mp q
  exact⟨p.1,p.2,h1,h2,rfl⟩
theorem vm{K:PySem.W.Frag}{ι:List Addr}{H:Hp}{S:aj}{a b:Addr}{va vb:List V}{xs ys:List D}(rep:Rep K ι H S)(hA:H a=some (.tup va))(hB:H b=some (.tup vb))(rx:RelDs K ι H xs va)(ry:RelDs K ι H ys vb):
  jg K ⟨(xs.zip ys).map fun p=>.tup [p.1,p.2],.none⟩ ⟨fun i H=>(yM va vb).go i H/\(H a=some (.tup va)/\H b=some (.tup vb)),(yM va vb).yld,fun i H=>(yM va vb).stop i H/\(H a=some (.tup va)/\H b=some (.tup vb))⟩ ι H:=by
 intro ι2 H2 S2 e rep2 ok i
 have hA2:H2 a=some (.tup va):=(e.oth a _ hA (rep.notIn hA (by intro _ z;cases z)) (by intro _ z;cases z) (by intro _ z;cases z)).1
 have hB2:H2 b=some (.tup vb):=(e.oth b _ hB (rep.notIn hB (by intro _ z;cases z)) (by intro _ z;cases z) (by intro _ z;cases z)).1
 have rx2:=rx.laterN rep e
 have ry2:=ry.laterN rep e
 have lx:=rx2.length
 have ly:=ry2.length
 refine⟨fun d hd=>?_,fun hlen=>?_⟩
 ·obtain⟨x,y,h1,h2,rfl⟩:=zip_get hd
  have i1:=(Jn.mp h1).1
  have i2:=(Jn.mp h2).1
  refine⟨⟨⟨by omega,by omega⟩,hA2,hB2⟩,?_⟩
  rintro v H3 ⟨p,va',vb',hp,g1,g2,rfl,rfl⟩
  obtain⟨v1,e1,r1⟩:=rx2.get' h1
  obtain⟨v2,e2,r2⟩:=ry2.get' h2
  obtain rfl:v1=va':=JI (e1.symm.trans g1)
  obtain rfl:v2=vb':=JI (e2.symm.trans g2)
  have hE:Ext ι2 H2 ι2 (upd H2 p (.tup [v1,v2])):=dR hp
  exact⟨hE,eV rep2 hp,.tup aL (.cons (r1.later rep2 hE) (.cons (r2.later rep2 hE) .nil))⟩
 ·have hl:min xs.length ys.length<=i:=by simpa using hlen
  refine⟨?_,hA2,hB2⟩
  rcases Nat.le_total xs.length ys.length with z|z
  ·exact .inl (by omega)
  ·exact .inr (by omega)
end S4
namespace S3
open PySem PySem.Spec PyProof.Rows L2 S4
abbrev mV(i:Nat):TM:=fun ρ=>uM ρ i
abbrev mK(d:D):TM:=fun _=>pure d
abbrev lN(m n:TM):TM:=fun ρ=>do let x<-m ρ;let c<-iT x;if c=true then n ρ else pure (.bl false)
abbrev Ia(m n:TM):TM:=fun ρ=>do let x<-m ρ;let c<-iT x;if c=true then pure (.bl true)else n ρ
abbrev Ca(m:TM):TM:=fun ρ=>do let x<-m ρ;let c<-iT x;pure (.bl (!c))
abbrev Ft(t:az->M Bool)(m n:TM):TM:=fun ρ=>do let k<-t ρ;if k=true then m ρ else n ρ
abbrev Ae:=az->M (List D)
abbrev aD:Ae:=fun _=>pure []
abbrev af(m:TM)(ms:Ae):Ae:=fun ρ=>do let x<-m ρ;let xs<-ms ρ;pure (x::xs)
abbrev ij(ms:Ae):TM:=fun ρ=>do let ds<-ms ρ;bY ds
abbrev bH(ms:Ae):TM:=fun ρ=>do let ds<-ms ρ;bo ds
abbrev aK(F:List D->M D)(ms:Ae):TM:=fun ρ=>do let ds<-ms ρ;F ds
abbrev dI(F:List D->M D)(m:TM):TM:=aK F (af m aD)
abbrev bz(f:D->D->M D)(m n:TM):TM:=fun ρ=>do let x<-m ρ;let y<-n ρ;f x y
abbrev rq(f g:D->D->M D)(m n l:TM):TM:=fun ρ=>do let x<-m ρ;let y<-n ρ;let z<-f x y;let k<-iT z;if k=true then do let w<-l ρ;g y w else pure (.bl false)
abbrev Ib:=az->M (Option Int)
abbrev oN:Ib:=fun _=>pure none
abbrev oS(m:TM):Ib:=fun ρ=>do let x<-m ρ;let i<-HV x;pure (some i)
abbrev Cb(m:TM)(lo hi:Ib):TM:=fun ρ=>do let x<-m ρ;let i<-lo ρ;let j<-hi ρ;zG x i j
abbrev EC(m:TM):TM:=fun ρ=>do let x<-m ρ;HW x
abbrev fZ(m:TM)(T:String):TM:=fun ρ=>do let x<-m ρ;zM (fun t=>ic t T) x
abbrev wy(m:TM)(T U:String):TM:=fun ρ=>do let x<-m ρ;zM (fun t=>ic t T||ic t U) x
abbrev uu(f:D->List D->M D)(m n:TM):TM:=fun ρ=>do let x<-m ρ;zQ x;let ds<-(do let y<-n ρ;let ys<-pure [];pure (y::ys));f x ds
abbrev cg(mi:az->M Iter)(g:i4)(t:az->M Bool)(m:TM)(js:List (Option Nat)):TM:=fun ρ=>do let it<-mi ρ;let ys<-d8 it g t m (jS js ρ);bo ys
abbrev i9:=az->M Bool
abbrev bV(m:TM):i9:=fun ρ=>do let x<-m ρ;iT x
abbrev jl(f:D->D->M D)(m n:TM):i9:=fun ρ=>do let z<-(do let x<-m ρ;let y<-n ρ;f x y);iT z
abbrev kc(f g:D->D->M D)(m n l:TM):i9:=fun ρ=>do let v<-(do let x<-m ρ;let y<-n ρ;let z<-f x y;let k<-iT z;if k=true then do let w<-l ρ;g y w else pure (.bl false));iT v
abbrev rz(f g h:D->D->M D)(m n l k:TM):i9:=fun ρ=>do
 let x<-m ρ
 let y<-n ρ
 let z<-f x y
 let i<-iT z
 if i=true then do
  let w<-l ρ
  let z2<-g y w
  let j<-iT z2
  if j=true then do
   let v<-k ρ
   let z3<-h w v
   iT z3
  else pure false
 else pure false
abbrev ef(t:i9):i9:=fun ρ=>do let c<-t ρ;pure (!c)
abbrev Cc(t u:i9):i9:=fun ρ=>do let c<-t ρ;if c=true then u ρ else pure false
abbrev xX(t u:i9):i9:=fun ρ=>do let c<-t ρ;if c=true then pure true else u ρ
abbrev jX:i9:=fun _=>pure true
abbrev mr(m:TM):az->M Iter:=fun ρ=>do let ds<-af m aD ρ;jj ds
abbrev vn(m n:TM):az->M Iter:=fun ρ=>do let ds<-af m (af n aD) ρ;gD ds
abbrev i6(m:TM):az->M Iter:=fun ρ=>do let x<-m ρ;zS x
abbrev ED(m n:TM):az->M Iter:=fun ρ=>do let ds<-af m (af n aD) ρ;HZ ds
abbrev gN(i:Nat):i4:=fun d ρ=>pure (ρ.set i (some d))
abbrev Fu(m n:TM):i4:=fun d ρ=>do let x<-m ρ;let y<-n ρ;fj x y d;pure ρ
abbrev eh:cq:=fun ρ=>pure (.nx ρ)
abbrev aH(m n:cq):cq:=fun ρ=>do let o<-m ρ;nB o n
abbrev oX(me:TM):cq:=fun ρ=>do let _<-me ρ;pure (.nx ρ)
abbrev bA(me:TM):cq:=fun ρ=>do let d<-me ρ;pure (.ret d)
abbrev kd(t:i9)(m n:cq):cq:=fun ρ=>do let c<-t ρ;if c=true then m ρ else n ρ
abbrev bq(i:Nat)(me:TM):cq:=fun ρ=>do let d<-me ρ;pure (.nx (ρ.set i (some d)))
abbrev pF(me:TM)(g:i4):cq:=fun ρ=>do let d<-me ρ;let ρ'<-g d ρ;pure (.nx ρ')
abbrev EE(i j:Nat)(ms:Ae):cq:=fun ρ=>do let ds<-ms ρ;match ds with|[d1,d2]=>pure (.nx ((ρ.set i (some d1)).set j (some d2)))|_=>M.fail
abbrev ik(mi:az->M Iter)(g:i4)(b:cq):cq:=fun ρ=>do let it<-mi ρ;dF it g b it.items ρ
abbrev rA(k:Nat)(t:i9)(b:cq):cq:=fun ρ=>jh t b k ρ
structure DefIs(P:Program)(w:World)(K:PySem.W.Frag)(mg:Str->Option Value)(base:Heap)(k:Nat)(x:Str)(ps:List Str)(F:List D->M D):Prop where
 ex:∃ f fd,FnOk P w K mg base IT k f fd ps (IV K F)/\mg x=some (.ref f)/\PySem.W.keepIn K (.ref f)=true/\Binds K fd ps []
section
variable {X:Cx}{E:XD}{e:Expr}{es:List Expr}{pos:Pos}{ms:Ae}
theorem av{c j p}{env:Env}:starEach (.Constant c j p::es) env=(false,eval (.Constant c j p) env)::starEach es env:=rfl
theorem ba{l k p}{env:Env}:starEach (.Tuple l k p::es) env=(false,eval (.Tuple l k p) env)::starEach es env:=rfl
theorem rB{l p}{env:Env}:starEach (.List l p::es) env=(false,eval (.List l p) env)::starEach es env:=rfl
theorem ay{x p}{env:Env}:starEach (.Name x p::es) env=(false,eval (.Name x p) env)::starEach es env:=rfl
theorem bb{f l k p}{env:Env}:starEach (.Call f l k p::es) env=(false,eval (.Call f l k p) env)::starEach es env:=rfl
theorem ft{a o b p}{env:Env}:starEach (.BinOp a o b p::es) env=(false,eval (.BinOp a o b p) env)::starEach es env:=rfl
theorem cz{a b p}{env:Env}:starEach (.Subscript a b p::es) env=(false,eval (.Subscript a b p) env)::starEach es env:=rfl
theorem Cd{a b p}{env:Env}:starEach (.Dict a b p::es) env=(false,eval (.Dict a b p) env)::starEach es env:=rfl
theorem n5{a b p}{env:Env}:starEach (.UnaryOp a b p::es) env=(false,eval (.UnaryOp a b p) env)::starEach es env:=rfl
theorem vo{i:Int}{j p}:SE X E (.UnaryOp .USub (.Constant (.int i) j p) pos) (mK (.int (-i))):=by
 refine PE.imp (FV DW yO) fun σ H Q h=>?_
 obtain⟨ι,S,ρ,rep,re,c⟩:=h
 exact⟨i,rfl,ai c .refl rep _ (.int _)⟩
theorem kS{x:Str}{i:Int}(hg:Gl X x)(hm:∃ t,X.mg x=some (.int i t))(hd:(x==("__debug__":Str))=false:=by decide):SE X E (.Name x pos) (mK (.int i)):=
 let ⟨_,h⟩:=hm
 BR hg h hd
def Gs(fs:Scope)(N:List Str)(scope:Scope)(Nc:List Str)(js:List (Option Nat)):Bool:=
 (scope.kind== .function) && scope.names.all (fun y=>y.2 != .cell||scope.names.lookup y.1==some .cell) && scope.names.all (fun y=>y.2 != .local||scope.names.lookup y.1==some .local) &&
  scope.names.all (fun y=>y.2 != .free||(fs.names.lookup y.1==some .cell||fs.names.lookup y.1==some .free)) && (js.length==Nc.length) &&
  (Nc.zip js).all (fun p=>match p.2 with|none=>true|some j=>N[j]? ==some p.1 && scope.names.lookup p.1==some .free)
theorem mI{scope:Scope}{Nc:List Str}{js:List (Option Nat)}(fs:Scope)(N:List Str)(he:∀ x,X.env.kindOf x=fs.names.lookup x)(hN:X.N=N)(h:Gs fs N scope Nc js=true):CompScope X scope Nc js:=by
 unfold Gs at h
 simp only[Bool.and_eq_true,List.all_eq_true,beq_iff_eq,bne_iff_ne,Bool.or_eq_true]at h
 obtain⟨⟨⟨⟨⟨h1,h2⟩,h3⟩,h4⟩,h5⟩,h6⟩:=h
 refine⟨h1,fun y hy e=>(h2 y hy).resolve_left fun z=>z e,fun y hy e=>(h3 y hy).resolve_left fun z=>z e,fun y hy e=>?_,h5,fun i x j e1 e2=>?_⟩
 ·rw[he]
  exact(h4 y hy).resolve_left fun z=>z e
 ·have hz:(Nc.zip js)[i]? =some (x,some j):=Lh.mpr ⟨e1,e2⟩
  have:=h6 _ (JM hz)
  simp only[Bool.and_eq_true,beq_iff_eq]at this
  rw[hN]
  exact this
theorem jm{A:Around}{k:Nat}(hr:Room k A):A.units+64<cLine:=by have:=hr.un;omega
theorem IX{A:Around}{k:Nat}(hr:Room k A):A.units+8<cLine:=by have:=hr.un;omega
theorem Fv{A:Around}{k:Nat}(hr:Room k A):A.units<cLine:=by have:=hr.un;omega
end
section
variable {P:Program}{w:World}{K:PySem.W.Frag}{mg:Str->Option Value}{base:Heap}
end
def runs{α:Type}(c:M α)(S:aj)(Q:α->aj->Prop):Prop:=∃ a S',c S=some (.ok a,S')/\Q a S'
section
variable {α β:Type}{c:M α}{f:α->M β}{S:aj}{Q Q':α->aj->Prop}{R:β->aj->Prop}
theorem iG{a:α}{S1:aj}(h:c S=some (.ok a,S1)):runs c S Q↔Q a S1:=by
 constructor
 ·rintro⟨a',S',e,q⟩
  rw[h]at e;cases e;exact q
 ·exact fun q=>⟨a,S1,h,q⟩
theorem jJ(h:c S=none):runs c S Q↔False:=by
 constructor
 ·rintro⟨a',S',e,q⟩
  rw[h]at e;cases e
 ·exact fun q=>q.elim
theorem b9:runs (c>>=f) S R↔runs c S (fun a S1=>runs (f a) S1 R):=by
 have e:∀ r,c S=r->(c>>=f) S=(match r with|some (.ok a,S')=>f a S'|some (.ex x,S')=>some (.ex x,S')|none=>none):=fun r h=>by rw[<-h];rfl
 cases q:c S with
 |none=>rw[jJ q,jJ (e _ q)]
 | some p=>
  obtain⟨r,S1⟩:=p
  cases r with
  |ok a=>
   rw[iG q]
   unfold runs
   rw[e _ q]
  | ex x=>
   constructor
   ·rintro⟨a',S',e',_⟩
    rw[e _ q]at e';cases e'
   ·rintro⟨a',S',e',_⟩
    rw[q]at e';cases e'
theorem bM{a:α}:runs (pure a) S Q↔Q a S:=by
 show(∃ a' S',some (Res.ok a,S)=some (.ok a',S')/\Q a' S')↔Q a S
 constructor
 ·rintro⟨a',S',e,h⟩
  cases e;exact h
 ·exact fun h=>⟨a,S,rfl,h⟩
theorem xY:runs (M.fail:M α) S Q↔False:=by
 constructor
 ·rintro⟨_,_,e,_⟩;cases e
 ·exact fun h=>h.elim
theorem bE(h:runs c S Q)(k:∀ a S',Q a S'->Q' a S'):runs c S Q':=let ⟨a,S',e,q⟩:=h;⟨a,S',e,k a S' q⟩
theorem Af{p:Prop} [Decidable p]{x y:M α}:runs (if p then x else y) S Q↔if p then runs x S Q else runs y S Q:=by split<;>exact .rfl
end
section
variable {S:aj}{Q:D->aj->Prop}
theorem Fw{k:Nat}{Q:List D->aj->Prop}:runs (getL k) S Q↔∃ xs,S[k]? =some xs/\Q xs S:=by
 cases q:S[k]? with
 |none=>
  rw[jJ (by unfold getL;rw[q];rfl)]
  simp
 |some xs=>
  rw[iG (a:=xs) (S1:=S) (by unfold getL;rw[q];rfl)]
  simp
theorem xZ{ds:List D}:runs (bo ds) S Q↔ds.length<=lim/\Q (.lst S.length) (S++[ds]):=by
 by_cases h:ds.length<=lim
 ·rw[iG (by unfold bo;rw[if_pos h])];simp[h]
 ·rw[jJ (by unfold bo;rw[if_neg h])];simp[h]
theorem Fx{k:Nat}{ds:List D}:runs (jf k ds) S Q↔(ds.length<=lim/\k<S.length)/\Q .non (S.set k ds):=by
 by_cases h:ds.length<=lim/\k<S.length
 ·rw[iG (by unfold jf;rw[if_pos h])];simp[h]
 ·rw[jJ (by unfold jf;rw[if_neg h])];simp only[h,false_and]
theorem EF{ds:List D}:runs (bY ds) S Q↔ds.length<=lim/\Q (.tup ds) S:=by
 unfold bY
 rw[Af]
 by_cases h:ds.length<=lim
 ·rw[if_pos h,bM];simp[h]
 ·rw[if_neg h,xY];simp[h]
theorem Gu{b:Bool}{Q:Bool->aj->Prop}:runs (iT (.bl b)) S Q↔Q b S:=bM
theorem Gv{b:Int}{Q:Int->aj->Prop}:runs (HV (.int b)) S Q↔Q b S:=bM
theorem jK{it:Iter}{Q:Unit->aj->Prop}:runs (dX it) S Q↔it.okS S/\Q () S:=by
 by_cases h:it.okS S
 ·rw[iG (by unfold dX;rw[if_pos h])];simp[h]
 ·rw[jJ (by unfold dX;rw[if_neg h])];simp[h]
theorem gE{f:PyData->PyData->Bool}{a b:D}{p q:PyData}(h1:i5 S 60 a=some p)(h2:i5 S 60 b=some q):runs (Fq f a b) S Q↔Q (.bl (f p q)) S:=by
 rw[iG (by unfold Fq;rw[h1,h2])]
theorem wz{f:Bool->Bool}{a b:D}{p q:PyData}{r:Bool}(h1:i5 S 60 a=some p)(h2:i5 S 60 b=some q)(h3:HU f p q=some r):runs (Gj f a b) S Q↔Q (.bl r) S:=by
 rw[iG (by unfold Gj;rw[h1,h2];simp only[h3];rfl)]
theorem n6{it:Iter}{g:i4}{b:cq}{Q:Out->aj->Prop}(I:List D->az->aj->Prop)(hchk:∀ ds ρ S,I ds ρ S->it.okS S)
  (hend:∀ ρ S,I [] ρ S->Q (.nx ρ) S)
  (hturn:∀ d ds ρ S,I (d::ds) ρ S->runs (g d ρ) S (fun ρ1 S1=>runs (b ρ1) S1 (fun o S2=>match o with| .nx ρ'=>I ds ρ' S2| .ct ρ'=>I ds ρ' S2| .bk ρ'=>Q (.nx ρ') S2| .ret r=>Q (.ret r) S2))):
  ∀ ds ρ S,I ds ρ S->runs (dF it g b ds ρ) S Q
 |[],ρ,S,h=>by
  unfold dF
  rw[b9,jK]
  exact⟨hchk _ _ _ h,bM.mpr (hend _ _ h)⟩
 |d::ds,ρ,S,h=>by
  unfold dF
  rw[b9,jK]
  refine⟨hchk _ _ _ h,?_⟩
  rw[b9]
  refine bE (hturn d ds ρ S h) fun ρ1 S1 h1=>?_
  rw[b9]
  refine bE h1 fun o S2 h2=>?_
  cases o with
  |nx ρ'=>exact n6 I hchk hend hturn ds ρ' S2 h2
  |ct ρ'=>exact n6 I hchk hend hturn ds ρ' S2 h2
  |bk ρ'=>exact bM.mpr h2
  |ret r=>exact bM.mpr h2
theorem ke{it:Iter}{g:i4}{t:i9}{m:TM}{Q:List D->aj->Prop}(I:List D->az->List D->aj->Prop)(hchk:∀ ds ρ ys S,I ds ρ ys S->it.okS S)
  (hturn:∀ d ds ρ ys S,I (d::ds) ρ ys S->runs (g d ρ) S (fun ρ1 S1=>runs (t ρ1) S1 (fun k S2=>if k=true then runs (m ρ1) S2 (fun y S3=>I ds ρ1 (ys++[y]) S3)else I ds ρ1 ys S2))):
  ∀ ds ρ ys S,I ds ρ ys S->(∀ ρ zs S',I [] ρ (ys++zs) S'->Q zs S')->runs (cI it g t m ds ρ) S Q
 |[],ρ,ys,S,h,hq=>by
  unfold cI
  rw[b9,jK]
  exact⟨hchk _ _ _ _ h,bM.mpr (hq ρ [] S (by rw[JV];exact h))⟩
 | d::ds,ρ,ys,S,h,hq=>by
  unfold cI
  rw[b9,jK]
  refine⟨hchk _ _ _ _ h,?_⟩
  rw[b9]
  refine bE (hturn d ds ρ ys S h) fun ρ1 S1 h1=>?_
  rw[b9]
  refine bE h1 fun k S2 h2=>?_
  cases k with
  |false=>exact ke I hchk hturn ds ρ1 ys S2 h2 hq
  |true=>
   rw[if_pos rfl]at h2
   rw[if_pos rfl,b9]
   refine bE h2 fun y S3 h3=>?_
   rw[b9]
   refine ke I hchk hturn ds ρ1 (ys++[y]) S3 h3 fun ρ' zs S' h4=>?_
   exact bM.mpr (hq ρ' (y::zs) S' (by rw[JH]at h4;exact h4))
theorem kT{it:Iter}{g:i4}{t:i9}{m:TM}{ρ:az}{Q:List D->aj->Prop}(hl:it.items.length<=lim)(I:List D->az->List D->aj->Prop)(hchk:∀ ds ρ ys S,I ds ρ ys S->it.okS S)
  (hturn:∀ d ds ρ ys S,I (d::ds) ρ ys S->runs (g d ρ) S (fun ρ1 S1=>runs (t ρ1) S1 (fun k S2=>if k=true then runs (m ρ1) S2 (fun y S3=>I ds ρ1 (ys++[y]) S3)else I ds ρ1 ys S2)))
  (h:I it.items ρ [] S) (hq:∀ ρ zs S',I [] ρ zs S'->Q zs S'):runs (d8 it g t m ρ) S Q:=by
 unfold d8
 rw[if_pos hl]
 exact ke I hchk hturn it.items ρ [] S h fun ρ' zs S' h'=>hq ρ' zs S' h'
end
end S3
namespace S7
open PySem PySem.Spec PySem.W PyProof.Rows
section
variable {prog:Program}{w:World}{A:Around}{E:Value->Shared->Prop}{s:Shared}{K:Frag}{x C:Addr}{ox:Obj}{od:Option Obj}{name:Str}
theorem wA:Slot "BaseException" "__getattribute__" "BaseException.__getattribute__":=
 .of (owner:="BaseException") (n:="__getattribute__") (by rw[MW,L5];kernel_rfl) (by decide+kernel) (by decide+kernel) (by decide+kernel)
  (by first|exact .inl (by decide+kernel)|exact .inr (by decide+kernel)) (by rw[L3];kernel_rfl)
theorem Ag{M:Model}{nameV:Value}{Q:Unit->Shared->Prop}(X:K.In s.heap)(I:PySem.W.InstAt s.heap x ox C od)(hm:mroIn K C (.type "BaseException")=some true)(h:Q () s):
  wpAny M A (checkBuiltinCall "BaseException.__getattribute__" ⟨[.ref x,nameV],[]⟩) Q E s:=by
 have hk:builtinKind "BaseException.__getattribute__"=some .slot:=by decide+kernel
 have hsplit:splitId "BaseException.__getattribute__"=some ("BaseException","__getattribute__"):=by decide+kernel
 have L0:=I.type (M:=M)
 have L1:=looks_mroIn (M:=M) X hm
 have ha:=F.args_bexc_ga (.ref x) nameV
 obtain⟨hh,g,d,t,os⟩:=s
 have LI:Looks M hh (isInstance (.ref x) (.type "BaseException")) true:=L0.andThen L1
 simp only[checkBuiltinCall,hk,hsplit]
 refine Jg (LI.at ?_)
 repeat (first|wp_step)
 exact h
theorem Ah{fill expr:Bool}{tk:Tok}{Q:Value->Shared->Prop}(X:K.In s.heap)(I:PySem.W.InstAt s.heap x ox C od)(hga:findIn K (.ref C) "__getattribute__"=some (some (.builtin "BaseException.__getattribute__")))
  (hgt:findIn K (.ref C) "__getattr__"=some none) (hm:mroIn K C (.type "BaseException")=some true)
  (h:wpAny (model prog w) A.in1 (Builtin.«object.__getattribute__» ⟨[.ref x,.str name tk],[]⟩)
   (fun fin s'=>match fin with| .done (.ret v)=>wpAny (model prog w) A (handedOut v) Q E s'|_=>False) (fun _ _=>False) s):
  wpAny (model prog w) A (getAttrBy (.ref x) (.str name tk) fill expr) Q E s:=by
 obtain⟨hh,g,d,t,os⟩:=s
 have L0:=I.type (M:=model prog w)
 have L1:=looks_findIn (M:=model prog w) X hga
 have L2:=looks_findIn (M:=model prog w) X hgt
 have hx0:(expr && onTheHeap (Value.builtin "BaseException.__getattribute__"))=false:=by cases expr<;>rfl
 have hx2:(Value.builtin "BaseException.__getattribute__"==Value.builtin "object.__getattribute__")=false:=by decide+kernel
 have hx1:(onTheHeap (Value.ref C) && Value.builtin "BaseException.__getattribute__"==Value.builtin "object.__getattribute__")=false:=by rw[hx2,MX]
 unfold getAttrBy
 refine JX (Jg (L0.at (Jg (L1.at ?_))))
 dsimp only
 rw[hx1]
 simp only[Bool.false_eq_true,if_false]
 unfold getAttrByItsOwn hookBefore
 rw[if_pos (show onTheHeap (Value.ref C)=true from rfl)]
 refine Jg (L2.at ?_)
 unfold callGetattribute
 rw[hx0]
 simp only[Bool.false_eq_true,if_false]
 refine Jg (LF (JX ?_))
 unfold boundAndCalled
 rw[wA.bind]
 refine Jg (Ji ?_)
 refine Lp (Le wA.plain F.entry_bexc_ga (Ag X I hm (JJ h (fun fin s' z=>?_) fun _ _ z=>z.elim)))
 rcases fin with(_|_|_|_)|_<;>first|exact z|exact z.elim
theorem n8{g a:Value}{tk:Tok}{P:Value->Shared->Prop}(X:K.In s.heap)(I:PySem.W.InstAt s.heap x ox C od)(hf:findObj K C od name=some (.bind g a))
  (h:wpAny (model prog w) A (call g [a,.ref x,.ref C]) P E s):
  wpAny (model prog w) A (Builtin.«object.__getattribute__» ⟨[.ref x,.str name tk],[]⟩) (fun fin s'=>match fin with| .done (.ret v)=>P v s'|_=>False) E s:=by
 obtain⟨hh,gg,d,t,os⟩:=s
 have L0:=I.type (M:=model prog w)
 have L1:=looks_find (M:=model prog w) X I hf
 refine Jg (Ji (Jg (Ji (Jg (L0.at (Jg (L1.at ?_)))))))
 show wpAny _ _ (holding [a] (call g [a,.ref x,.ref C])>>=ret) _ _ _
 exact Jg (JX (JJ h (fun v s' z=>Ji z) fun _ _ z=>z))
theorem pG{v:Value}{tk:Tok}{P:Value->Shared->Prop}(X:K.In s.heap)(I:PySem.W.InstAt s.heap x ox C od)(hf:findObj K C od name=some (.value v))(h:P v s):
  wpAny (model prog w) A (Builtin.«object.__getattribute__» ⟨[.ref x,.str name tk],[]⟩) (fun fin s'=>match fin with| .done (.ret v)=>P v s'|_=>False) E s:=by
 obtain⟨hh,gg,d,t,os⟩:=s
 have L0:=I.type (M:=model prog w)
 have L1:=looks_find (M:=model prog w) X I hf
 refine Jg (Ji (Jg (Ji (Jg (L0.at (Jg (L1.at ?_)))))))
 exact Ji h
structure ExcC(K:Frag)(C:Addr):Prop where
 ga:findIn K (.ref C) "__getattribute__"=some (some (.builtin "BaseException.__getattribute__"))
 gt:findIn K (.ref C) "__getattr__"=some none
 be:mroIn K C (.type "BaseException")=some true
 ob:mroIn K C (.type "object")=some true
 cl:findIn K (.ref C) "__class__"=some (some (.builtin "object.__class__"))
 gs:specialIn K (.builtin "object.__class__") "__get__"=some (some (.builtin "getset_descriptor.__get__"))
 tk:takesIn K (.builtin "object.__class__")=some true
 cd:(clsIn K C).isSome=true
 mf:findIn K (.ref C) "many"=some none
 ms:findIn K (.ref C) "most"=some none
def Ai(K:Frag)(C:Addr):Bool:=(findIn K (.ref C) "__getattribute__"==some (some (.builtin "BaseException.__getattribute__"))) && (findIn K (.ref C) "__getattr__"==some none) && (mroIn K C (.type "BaseException")==some true) &&
 (mroIn K C (.type "object")==some true) && (findIn K (.ref C) "__class__"==some (some (.builtin "object.__class__"))) && (specialIn K (.builtin "object.__class__") "__get__"==some (some (.builtin "getset_descriptor.__get__"))) &&
 (takesIn K (.builtin "object.__class__")==some true) && (clsIn K C).isSome && (findIn K (.ref C) "many"==some none) && (findIn K (.ref C) "most"==some none)
theorem ExcC.of(h:Ai K C=true):ExcC K C:=by
 unfold Ai at h
 simp only[Bool.and_eq_true,beq_iff_eq]at h
 obtain⟨⟨⟨⟨⟨⟨⟨⟨⟨h1,h2⟩,h3⟩,h4⟩,h5⟩,h6⟩,h7⟩,h8⟩,h9⟩,h10⟩:=h
 exact⟨h1,h2,h3,h4,h5,h6,h7,h8,h9,h10⟩
theorem x9{Q:Option Value->Shared->Prop}(c:ExcC K C)(X:K.In s.heap)(I:PySem.W.InstAt s.heap x ox C od)(h:Q (some (.ref C)) {s with toks:=s.toks+1}):wpAny (model prog w) A (getAttr? (.ref x) "__class__") Q E s:=by
 have hf:findObj K C od "__class__"=some (.bind (.builtin "getset_descriptor.__get__") (.builtin "object.__class__")):=by
  obtain⟨cd,hc⟩:=Kg.mp c.cd
  unfold findObj
  rw[hc,K2,c.cl,K2]
  simp[c.gs,c.tk]
 unfold getAttr? getAttrBy?
 refine Jg (wpAny_mkText (Jg (LF (Ah (s:={s with toks:=s.toks+1}) X I c.ga c.gt c.be ?_))))
 refine n8 (s:={s with toks:=s.toks+1}) X I hf ?_
 exact Lp (class_get (s:={s with toks:=s.toks+1}) (ox:=ox) (od:=od) X I c.ob (handed_on rfl (Ji h)))
theorem Aj(c:ExcC K C):KitX K (.ref x) (.ref C) (fun h=>∃ ox od,PySem.W.InstAt h x ox C od) where
 ty:=fun _ _ _ ⟨_,_,I⟩=>I.type
 it:=fun _ _ X _=>by
  have hcD:=c.cd
  unfold clsIn at hcD
  split at hcD
  ·rename_i c' d' cd' sl' ho
   intro A' Q' E' s' k q
   unfold isType loadHead
   exact Jg (wpAny_loadPart (k _ _ (X _ _ ho)) (Ji q))
  ·cases hcD
 ne:=fun h tp dd its n sl X htp=>by
  have hcD:=c.cd
  refine MG.mpr fun q=>?_
  have e:C=tp:=Value.ref.inj (M6.mp q)
  subst e
  unfold clsIn at hcD
  split at hcD
  ·rename_i c' d' cd' sl' ho
   have z:=(X _ _ ho).symm.trans htp
   cases z
  ·cases hcD
 ca:=fun X ⟨_,_,I⟩ k=>x9 c X I k
end
end S7
namespace S7
open PySem PySem.Spec PyProof.Rows L2 S3
def Ak(e T C:Addr)(od:Option Addr)(fl:Value)(h:Heap):Prop:=
 ∃ oe vs oT ts,h.get? e=some oe/\oe.cls= .ref C/\oe.dict=od/\oe.data= .fields vs/\vs[1]? =some (.ref T)/\T≠e/\h.get? T=some oT/\oT.data= .fields ts/\ts[3]? =some fl
structure Step(fs:List Addr)(e T:Addr)(h h':Heap):Prop where
 keep:∀ b o,h.get? b=some o->b≠e->b≠T->b ∉ fs->h'.get? b=some o
 slot:∀ b o,h.get? b=some o->b≠e->b≠T->∃ sl,h'.get? b=some {o with slots:=sl}
 size:h.objs.size<=h'.objs.size
section
variable {M:Model}{A:Around}{E:Value->Shared->Prop}{s:Shared}{base:Heap}{env:Env}{outer:List Env}{L e T C:Addr}{od:Option Addr}{fl:Value}{Q:Unit->Shared->Prop}
theorem oa(o:Obj)(f:Array Value->Array Value):(Obj.mapFields f o).dict=o.dict:=by
 obtain⟨c,d,dt,sl⟩:=o
 cases dt<;>rfl
theorem entry{oe:Obj}{vs:Array Value}{head:Value}{hadNext:Bool}(hfr:A.frames=some (env::outer))(hl:s.heap.FunFrames base (env::outer))(hf:env.frame=some L)
  (he:s.heap.get? e=some oe) (hc:oe.cls= .ref C) (ho:oe.dict=od) (hd:oe.data= .fields vs) (hsz:1<vs.size)
  (h:∀ h' T',Ak e T' C od (rawInt L) h'->s.heap.objs.size<=T'->Step (ja (env::outer)) e e s.heap h'->Q () {s with heap:=h'}):
  wpAny M A (do let a<-frameOf env;let pl<-entryPlaceOf L hadNext;let b<-EntryCells.newEntry head a .none (rawInt L) .none pl;setField (.ref e) 1 b) Q E s:=by
 have hene:e ∉ ja (env::outer):=fun hm=>by obtain⟨_,o,q,hnf⟩:=hl.mem hm;rw[he]at q;cases q;exact hnf vs hd
 refine Jg (wpAny_frameOf_fun hfr hl hf fun h1 hs1=>Jg (wpAny_entryPlaceOf fun pl hpl=>?_))
 unfold EntryCells.newEntry newFields
 refine Jg (JZ (?_ :wpAny _ _ _ _ _ _) (hpl.sizeOk5 _ _ _ _ _))
 have he1:h1.get? e=some oe:=(hs1.2.1 e hene).trans he
 have he2:=Jh (h:=h1) {cls:=.type "traceback",dict:=none,data:=.fields ([head,.ref L,.none,rawInt L,.none]++(if pl.isEmpty then List.replicate 6 Value.none else pl)).toArray} he1
 have hTe:h1.objs.size≠e:=KD (Jm he1)
 have hd3:=Ky hd (·.setIfInBounds 1 (Value.ref h1.objs.size))
 refine K3 he2 hd hsz (h _ h1.objs.size ⟨_,_,_,_,J3 _ he2 (K8 hd3),?_,?_,hd3,by simp[hsz],hTe,(JU _ _ (Ne.symm hTe)).trans (Jo h1 rfl),rfl,?_⟩ (Ls hs1.1.symm) ⟨fun b o q n1 _ n3=>?_,fun b o q n1 _=>?_,?_⟩)
 ·rw[MI];exact hc
 ·rw[oa];exact ho
 ·first|(simp;done)|(rcases hpl with rfl|⟨_,_,_,_,_,_,_,rfl⟩<;>simp)
 ·rw[JU _ _ (Ne.symm n1)]
  exact Jh _ ((hs1.2.1 b n3).trans q)
 ·obtain⟨sl,q2⟩:=hs1.2.2 b o q
  exact⟨sl,by rw[JU _ _ (Ne.symm n1)];exact Jh _ q2⟩
 ·rw[K4,Ka,hs1.1];exact MK _
theorem vp{oe:Obj}{vs:Array Value}(hfr:A.frames=some (env::outer))(hl:s.heap.FunFrames base (env::outer))(hf:env.frame=some L)
  (he:s.heap.get? e=some oe) (hc:oe.cls= .ref C) (ho:oe.dict=od) (hd:oe.data= .fields vs) (h1:vs[1]? =some .none)
  (h:∀ h' T',Ak e T' C od (rawInt L) h'->s.heap.objs.size<=T'->Step (ja (env::outer)) e e s.heap h'->Q () {s with heap:=h'}):wpAny M A (noteFrame (.ref e) env) Q E s:=by
 unfold noteFrame
 simp only[hf]
 refine Jg (J7 he hd h1 ?_)
 rw[if_neg (by decide)]
 exact entry hfr hl hf he hc ho hd (JD.mp h1).1 h
theorem qj(hfr:A.frames=some (env::outer))(hl:s.heap.FunFrames base (env::outer))(hf:env.frame=some L)(F:Ak e T C od .none s.heap)
  (h:∀ h' T',Ak e T' C od (rawInt L) h'->s.heap.objs.size<=T'->Step (ja (env::outer)) e T s.heap h'->Q () {s with heap:=h'}):wpAny M A (noteFrame (.ref e) env) Q E s:=by
 obtain⟨oe,vs,oT,ts,he,hc,ho,hd,h1,hTe,hT,hdT,h3⟩:=F
 have hs3:3<ts.size:=(JD.mp h3).1
 unfold noteFrame
 simp only[hf]
 refine Jg (J7 he hd h1 ?_)
 rw[if_pos (show(Value.ref T !=Value.none)=true from by simp)]
 refine Jg (J7 hT hdT h3 ?_)
 rw[if_neg (show ¬ ((Value.none==rawInt L)=true)from by simp[rawInt])]
 refine Jg (K3 hT hdT hs3 ?_)
 have other:∀ b,b≠T->(s.heap.update T (Obj.mapFields (·.setIfInBounds 3 Value.none))).get? b=s.heap.get? b:=fun b hb=>JU _ _ (Ne.symm hb)
 have hl2:(s.heap.update T (Obj.mapFields (·.setIfInBounds 3 Value.none))).FunFrames base (env::outer):=hl.of_keeps fun b o q hnf=>⟨o,(other b fun z=>by rw[z,hT]at q;cases q;exact hnf ts hdT).trans q,rfl⟩
 refine entry (s:={s with heap:=s.heap.update T (Obj.mapFields (·.setIfInBounds 3 Value.none))}) hfr hl2 hf ((other e (Ne.symm hTe)).trans he) hc ho hd (JD.mp h1).1 fun h' T' F' l st=>h h' T' F' ?_ ⟨fun b o q n1 n2 n3=>st.keep b o ((other b n2).trans q) n1 n1 n3,fun b o q n1 n2=>st.slot b o ((other b n2).trans q) n1 n1,?_⟩
 ·have:=l;rwa [K4]at this
 ·have:=st.size;rwa [K4]at this
theorem gF(F:Ak e T C od fl s.heap)(h:∀ h',Ak e T C od .none h'->Step [] e T s.heap h'->Q () {s with heap:=h'}):wpAny M A (setFlight (.ref e) none) Q E s:=by
 obtain⟨oe,vs,oT,ts,he,hc,ho,hd,h1,hTe,hT,hdT,h3⟩:=F
 have hs3:3<ts.size:=(JD.mp h3).1
 refine wpAny_setFlight_none he hd h1 hT hdT hs3 (h _ ⟨oe,vs,_,_,(JU _ _ hTe).trans he,hc,ho,hd,h1,hTe,J3 _ hT (K8 (Ky hdT _)),Ky hdT _,by simp[hs3]⟩
  ⟨fun b o q n1 n2 _=>(JU _ _ (Ne.symm n2)).trans q,fun b o q n1 n2=>⟨o.slots,(JU _ _ (Ne.symm n2)).trans q⟩,?_⟩)
 rw[K4];exact Jj _
theorem tx{oe:Obj}{vs:Array Value}(hfr:A.frames=some (env::outer))(hl:s.heap.FunFrames base (env::outer))(hf:env.frame=some L)
  (he:s.heap.get? e=some oe) (hc:oe.cls= .ref C) (ho:oe.dict=od) (hd:oe.data= .fields vs) (h1:vs[1]? =some .none)
  (h:∀ h' T',Ak e T' C od .none h'->s.heap.objs.size<=T'->Step (ja (env::outer)) e e s.heap h'->Q () {s with heap:=h'}):wpAny M A (leaving env (.ref e)) Q E s:=by
 unfold leaving
 refine Jg (vp hfr hl hf he hc ho hd h1 fun h' T' F l st=>gF (s:={s with heap:=h'}) F fun h'' F2 st2=>h h'' T' F2 l ⟨fun b o q n1 n2 n3=>?_,fun b o q n1 n2=>?_,Ju st.size st2.size⟩)
 ·exact st2.keep b o (st.keep b o q n1 n1 n3) n1 (Jv (Jx (Jm q) l)) (by simp)
 ·obtain⟨sl,q2⟩:=st.slot b o q n1 n1
  exact⟨sl,st2.keep b _ q2 n1 (Jv (Jx (Jm q) l)) (by simp)⟩
theorem vt(hfr:A.frames=some (env::outer))(hl:s.heap.FunFrames base (env::outer))(hf:env.frame=some L)(F:Ak e T C od .none s.heap)
  (h:∀ h' T',Ak e T' C od .none h'->s.heap.objs.size<=T'->Step (ja (env::outer)) e T s.heap h'->Q () {s with heap:=h'}):wpAny M A (leaving env (.ref e)) Q E s:=by
 unfold leaving
 refine Jg (qj hfr hl hf F fun h' T' F l st=>gF (s:={s with heap:=h'}) F fun h'' F2 st2=>h h'' T' F2 l ⟨fun b o q n1 n2 n3=>?_,fun b o q n1 n2=>?_,Ju st.size st2.size⟩)
 ·exact st2.keep b o (st.keep b o q n1 n2 n3) n1 (Jv (Jx (Jm q) l)) (by simp)
 ·obtain⟨sl,q2⟩:=st.slot b o q n1 n2
  exact⟨sl,st2.keep b _ q2 n1 (Jv (Jx (Jm q) l)) (by simp)⟩
end
def jT(P:Program)(w:World):yL:=fun outer H s E x s'=>
 ∃(e T C:Addr) (od:Option Addr) (H':Hp),x= .ref e/\s'.os=s.os/\AllBare s'.gens/\Un (ja outer) [] H H' s.heap s'.heap/\eU P w H' s'.heap/\Ak e T C od .none s'.heap/\
  H' e=none/\H' T=none/\s.heap.get? e=none/\s.heap.get? T=none/\E (.ref C) od H'
theorem ya{X:Cx}:ng (jT X.prog X.w) X E0:=fun _ _ _ _ _ _ _ ⟨_,_,_,_,_,_,_,_,_,_,_,_,_,_,_,h⟩=>h.elim
theorem fL{h:Heap}{b e:Addr}{o:Obj}(q:h.get? b=some o)(n:h.get? e=none):b≠e:=fun z=>by rw[z,n]at q;cases q
theorem Un.fly{fs:List Addr}{H H':Hp}{h h1 h2:Heap}{e T:Addr}(u:Un fs [] H H' h h1)(st:Step fs e T h1 h2)(he:h.get? e=none)(hT:h.get? T=none):Un fs [] H H' h h2 where
 keep:=fun b o q n hf hx=>st.keep b o (u.keep b o q n hf hx) (fL q he) (fL q hT) hf
 slot:=fun b o q n hf hx=>by
  obtain⟨sl,q1⟩:=u.slot b o q n hf hx
  obtain⟨sl2,q2⟩:=st.slot b _ q1 (fL q he) (fL q hT)
  exact⟨sl2,q2⟩
 free:=u.free
 there:=fun b o q hx=>by
  obtain⟨o1,q1⟩:=u.there b o q hx
  obtain⟨sl2,q2⟩:=st.slot b _ q1 (fL q he) (fL q hT)
  exact⟨_,q2⟩
 tups:=u.tups
 frzs:=u.frzs
 tbls:=u.tbls
theorem eU.fly{P:Program}{w:World}{fs:List Addr}{H:Hp}{h1 h2:Heap}{e T:Addr}(ok:eU P w H h1)(st:Step fs e T h1 h2)(he:H e=none)(hT:H T=none)(hf:∀ b∈fs,H b=none):eU P w H h2:=fun a o q=>by
 have k:∀ b u,H b≠none->h1.get? b=some u->h2.get? b=some u:=fun b u n q=>st.keep b u q (fun z=>n (by rw[z];exact he)) (fun z=>n (by rw[z];exact hT)) fun z=>n (hf b z)
 refine(ok a o q).stay (fun b u hb=>k b u ?_) (fun _ z=>z) fun _ _ z=>z
 rcases hb with rfl|hb
 ·rw[q];simp
 ·rw[hb];simp
section
theorem tD(l:List Env)(x:Addr)(env:Env)(h:env.frame=some x):ja (env::l)=x::ja l:=by
 unfold ja
 rw[J1,h]
theorem aY.there{P:Program}{w:World}{H:Hp}{h:Heap}{a:Addr}{o:HO}(x:aY P w H h a o):∃ ob,h.get? a=some ob:=by
 cases o with
 |lst xs=>obtain⟨_,_,_,_,e⟩:=x;exact⟨_,e⟩
 |tup xs=>obtain⟨_,_,_,ob,e,_⟩:=x;exact⟨_,e⟩
 |dK kvs=>obtain⟨_,_,_,_,o,_,_,e,_⟩:=x;exact⟨_,e⟩
 |dT kvs=>obtain⟨_,_,_,_,o,_,_,e,_⟩:=x;exact⟨_,e⟩
 |set S n=>obtain⟨o,_,_,_,e,_⟩:=x;exact⟨_,e⟩
 |ins C dx fs=>obtain⟨_,_,_,e,_⟩:=x;exact⟨_,e⟩
 |own y=>exact x
 |xd fs=>obtain⟨_,⟨_,_,_,e,_⟩,_⟩:=x;exact⟨_,e⟩
 |rng lo hi=>obtain⟨_,_,_,e⟩:=x;exact⟨_,e⟩
 |frz ob u=>obtain⟨e,_⟩:=x;exact⟨_,e⟩
 |tbl ps=>exact⟨_,(show h.get? a=some _ from x)⟩
 |met f y=>exact⟨_,(show h.get? a=some _ from x)⟩
 |ext φ=>exact x.2.1
theorem eU.gone{P:Program}{w:World}{H:Hp}{h:Heap}{a:Addr}(x:eU P w H h)(e:h.get? a=none):H a=none:=by
 cases q:H a with
 |none=>rfl
 |some o=>
  obtain⟨ob,e2⟩:=aY.there (x a o q)
  rw[e]at e2;cases e2
theorem Un.gone{fs ex:List Addr}{H H':Hp}{h h':Heap}{a:Addr}(u:Un fs ex H H' h h')(hx:a ∉ ex)(e:h'.get? a=none):h.get? a=none:=by
 cases q:h.get? a with
 |none=>rfl
 |some o=>
  obtain⟨ob,e2⟩:=u.there a o q hx
  rw[e]at e2;cases e2
end
abbrev Cx.hand(X:Cx)(e:Value):Cx:={X with A:=X.A.mark (some e),calm:=false,xe:=fun _ _=>False}
section
variable {X:Cx}{pins:List (Addr×Obj)}{σ:L2.St}{H H':Hp}{s:Shared}{x:Value}
theorem Inv.hand(I:Inv X pins σ H s)(e:Value):Inv (Cx.hand X e) pins σ H s:=
 ⟨⟨I.ok.mod,I.ok.kind,I.ok.glob,I.ok.blt,I.ok.above,I.ok.inj,I.ok.has,I.ok.cab,(fun z=>Bool.noConfusion z),I.ok.frames,I.ok.stk,I.ok.exf,I.ok.bs,I.ok.bsz,I.ok.noex,I.ok.exfs,I.ok.funs,I.ok.frf⟩,
  I.os,I.bare,I.base,I.loc,I.cell,I.free,I.freeC,I.pin,I.hok,I.len⟩
theorem Inv.unhand(ok:X.Ok)(I:Inv (Cx.hand X x) pins σ H s):Inv X pins σ H s:=⟨ok,I.os,I.bare,I.base,I.loc,I.cell,I.free,I.freeC,I.pin,I.hok,I.len⟩
theorem Inv.local{σ':L2.St}{h':Heap}{t':Nat}{m':Str->Option Value}(I:Inv X pins σ H s)(hs:Heap.SameBut X.env.locals s.heap h')(hn:h'.Ns X.env.locals m')(hlen:σ'.length=X.N.length)
  (hl:∀(i:Nat) (y:Str) (v:V),X.N[i]? =some y->σ'[i]? =some (some v)->yK X.env.scope y->∃ u,RelV v u/\Look X.env h' m' y u):Inv X pins σ' H {s with heap:=h',toks:=t'}:=by
 have ne:∀ b o,X.s₀.heap.get? b=some o->b≠X.env.locals:=fun b o e=>Jv (Jx (Jm e) I.ok.above)
 refine⟨I.ok,I.os,I.bare,⟨fun b o e n hb hx=>(hs.2 b (ne b o e)).trans (I.base.keep b o e n hb hx),fun b o e n hb hx=>?_,I.base.free,fun b o e hx=>?_,I.base.tups,I.base.frzs,I.base.tbls⟩,⟨m',hn,hl⟩,fun y c e=>?_,I.free,I.freeC,fun p hp=>?_,fun a o e=>?_,hlen⟩
 ·obtain⟨sl,e1⟩:=I.base.slot b o e n hb hx
  exact⟨sl,(hs.2 b (ne b o e)).trans e1⟩
 ·obtain⟨o',e1⟩:=I.base.there b o e hx
  exact⟨o',(hs.2 b (ne b o e)).trans e1⟩
 ·obtain⟨v,z⟩:=I.cell y c e
  exact⟨v,z.sameBut hs (I.cne y c e)⟩
 ·obtain⟨e,n,nl,r⟩:=I.pin p hp
  exact⟨(hs.2 p.1 nl).trans e,n,nl,r⟩
 ·refine(I.hok a o e).stay (fun c w' hc q=>(hs.2 c ?_).trans q) (fun _ q=>q) fun _ _ q=>q
  rintro rfl
  rcases hc with hc|hc
  ·subst hc;rw[I.free]at e;cases e
  ·rw[I.free]at hc;cases hc
theorem Ce{M:Model}{A:Around}{E:Value->Shared->Prop}{i:Nat}{y:Str}{pos:Pos}{Q:Unit->Shared->Prop}(I:Inv X pins σ H s)(hN:X.N.Nodup)(hi:X.N[i]? =some y)(hk:X.env.scope.names.lookup y=some .local)
  (h:∀ s',Inv X pins (σ.set i none) H s'->Q () s'):wpAny M A (do bindName X.env y .none;unbindBehindTheSuite X.env y pos) Q E s:=by
 obtain⟨m,hn,hl⟩:=id I.loc
 refine wpAny_nameGoes_keeps hk hn (by rw[I.ok.kind];rfl) fun h' v hn' hs=>h _ (Inv.local I hs hn' (by rw[Mj];exact I.len) fun j z v' e1 e2 e3=>?_)
 have hj:j≠i:=by
  rintro rfl
  by_cases hlt:j<σ.length
  ·rw[JN hlt]at e2;cases e2
  ·rw[J8 (by rw[Mj];omega)]at e2;cases e2
 rw[JF (Ne.symm hj)]at e2
 obtain⟨u,r,q⟩:=hl j z v' e1 e2 e3
 refine⟨u,r,?_⟩
 rcases q with⟨k,e⟩|⟨k,c,e,q⟩
 ·refine .inl ⟨k,?_⟩
  have:z≠y:=fun e=>hj (m7 hN e1 (e ▸ hi))
  simp[this,e]
 ·exact .inr ⟨k,c,e,q.sameBut hs (I.cne z c e)⟩
end
theorem Un.track{fs:List Addr}{H H':Hp}{h h':Heap}{e:Addr}{o:HO}(u:Un fs [] H H' h h')(hn:H' e=none)(he:h.get? e=none):Un fs [] H (upd H' e o) h h' where
 keep:=u.keep
 slot:=u.slot
 free:=fun b ob q n hx=>by rw[aA (fL q he)];exact u.free b ob q n hx
 there:=u.there
 tups:=fun b xs q=>by have:=u.tups b xs q;rw[aA (aF this hn)];exact this
 frzs:=fun b ob x q=>by have:=u.frzs b ob x q;rw[aA (aF this hn)];exact this
 tbls:=fun b ps q=>by
  obtain⟨more,this⟩:=u.tbls b ps q
  exact⟨more,by rw[aA (aF this hn)];exact this⟩
theorem eU.track{P:Program}{w:World}{H:Hp}{h:Heap}{e:Addr}{o:HO}(ok:eU P w H h)(hn:H e=none)(new:aY P w (upd H e o) h e o):eU P w (upd H e o) h:=fun b u q=>by
 by_cases hb:b=e
 ·subst hb;rw[aL]at q;cases q;exact new
 ·rw[aA hb]at q
  exact(ok b u q).stay (fun c v _ q=>q) (fun c q=>by rw[aA (aF q hn)];exact q) fun c xs q=>by rw[aA (aF q hn)];exact q
theorem Cf{P:Program}{w:World}{H:Hp}{h:Heap}{e T C:Addr}{od:Option Addr}{fl:Value}(F:Ak e T C od fl h):aY P w H h e (.ext (mG C e od)):=by
 obtain⟨oe,vs,oT,ts,he,hc,ho,hd,_⟩:=F
 refine⟨⟨oe,vs,he,hc,ho,hd⟩,⟨oe,he⟩,?_⟩
 rintro h1 h2 ⟨oe,vs,he,r⟩ k
 exact⟨oe,vs,k _ he,r⟩
structure LamOk(P:Program)(w:World)(K:PySem.W.Frag)(mg:Str->Option Value)(base:Heap)(k:Nat)(f:Addr)(sp:Hp->VK->XK->Prop):Prop where
 fn:∃ o fd,base.get? f=some o/\o.data= .func fd
 run:∀(A:Around) (outer:List Env) (s:Shared) (H:Hp) (Q:VK) (E:XK),Room k A->az P w K mg base A outer s H->sp H Q E->codeAny (model P w) A (.call (.ref f) ⟨[],[]⟩) (CR (jT P w) outer P w H s Q E) s
section
variable {X:Cx}{k i jn jy:Nat}{f CW:Addr}{sp:Hp->VK->XK->Prop}{x c n y:Str}{p cpos epos np p1 p2 p3 hpos tpos:Pos}
theorem yb(hst:X.stack=X.env::X.outer)(hfm:X.env.frame=some X.env.locals)(L:LamOk X.prog X.w X.K X.mg X.base k f sp)(hr:Room k X.A)(hN:X.N.Nodup)(hi:X.N[i]? =some x)(hv:yK X.env.scope x)
  (hjn:X.N[jn]? =some n) (hjy:X.N[jy]? =some y) (hln:X.env.scope.names.lookup n=some .local) (hly:X.env.scope.names.lookup y=some .local) (hg:Gl X c) (hm:X.mg c=some (.ref CW))
  (hd:(x==("__debug__":Str))=false:=by decide) (hcd:(x==("__classdict__":Str))=false:=by decide) (hdc:(c==("__debug__":Str))=false:=by decide) (hdn:(n==("__debug__":Str))=false:=by decide) (hcdn:(n==("__classdict__":Str))=false:=by decide)
  (hsw:swapsWith (.Call (.Name x p) [] [] cpos) none epos.line X.env=pure false:=by rfl) (hsw2:swapsWith (.Name n p2) (some (.Name y p1)) p3.line X.env=pure false:=by rfl):
  PS X (.Try [.Expr (.Call (.Name x p) [] [] cpos) epos] [.ExceptHandler (some (.Name c np)) (some n) [.Assign [.Name y p1] (.Name n p2) p3] hpos] [] [] tpos)
   (fun D σ H=>σ[i]? =some (some (.ref f))/\sp H (fun _ H1=>D.nx σ H1) (fun cls od H1=>∃ C,cls= .ref C/\PySem.W.exmOne X.K (.ref C) (.ref CW)=some true/\∀ e,H1 e=none->D.nx (((σ.set jn (some (.ref e))).set jy (some (.ref e))).set jn none) (upd H1 e (.ext (mG C e od))))):=by
 intro pins s σ H D I ⟨hσ,hsp⟩
 refine wpAny_Try_except (MP (wpAny_Expr_any ?_ I.quiet hsw))
 refine K5 (JJ (qC (X:=X.nox) hi hv hd hcd pins s σ H (fun v H1=>v= .ref f/\H1=H) (I.wish _) ⟨_,hσ,rfl,rfl⟩) (fun u s1 hq1=>?_) fun _ _ z=>False.elim z)
 obtain⟨v,H1,I1,r1,ev,eH⟩:=hq1
 subst ev eH
 obtain rfl:u=Value.ref f:=r1
 have I1:=I1.unwish
 obtain⟨o,fd,ho,hdat⟩:=L.fn
 refine callWith_meth0 hdat (I1.bk f o ho) (Lp (KE (L.run X.A X.stack s1 H1 _ _ hr I1.env0 hsp) fun r s' hq=>?_))
 cases r with
 | ok fl=>
  cases fl with
  |ret u=>
   obtain⟨v,H2,I2,_,q⟩:=I1.after hq
   exact K6 (K6 ⟨σ,H2,I2,q⟩)
  |next=>exact False.elim hq
  |brk=>exact False.elim hq
  |cont=>exact False.elim hq
 | error ev=>
  obtain⟨e,T,C',od,H',rfl,os,bare,un,hok,F,ne,nT,le,lT,C,eC,hx,hD⟩:=hq
  cases eC
  have I2:L2.Inv X pins σ H' s':=I1.call' (ch:=[]) os un hok bare (fun b z=>absurd z (by simp))
  have hff:∀ b∈ja X.stack,H' b=none:=I2.stkFree
  refine qj (base:=X.base) (outer:=X.outer) (by rw[I2.ok.frames,hst]) (by rw[<-hst];exact I2.stack) hfm F fun h1 T1 F1 l1 st1=>?_
  rw[<-hst]at st1
  have nT1:H' T1=none:=hok.fresh l1
  refine gF (s:={s' with heap:=h1}) F1 fun h2 F2 st2=>?_
  have lT1:s1.heap.get? T1=none:=Un.gone un (by simp) (J5 l1)
  have hok1:eU X.prog X.w H' h1:=eU.fly hok st1 ne nT hff
  have hok2:eU X.prog X.w H' h2:=eU.fly hok1 st2 ne nT1 (fun b z=>absurd z (by simp))
  have un1:Un (ja X.stack) [] H1 H' s1.heap h1:=Un.fly un st1 le lT
  have st2':∀{h a:Heap} {e T:Addr},Step [] e T h a->Step (ja X.stack) e T h a:=fun st=>⟨fun b o q n1 n2 _=>st.keep b o q n1 n2 (by simp),st.slot,st.size⟩
  have un2:Un (ja X.stack) [] H1 H' s1.heap h2:=Un.fly un1 (st2' st2) le lT1
  have I3:L2.Inv X pins σ H' {s' with heap:=h2}:=I1.call' (s':={s' with heap:=h2}) (ch:=[]) os un2 hok2 bare (fun b z=>absurd z (by simp))
  refine wpAny_handleBy_cons (codeAny_handlers_test (jC (X:=Cx.hand X (.ref e)) (Inv.hand I3 _) hg hm ?_ hdc)) (by intro q;cases q)
  have LT:PySem.W.Looks (model X.prog X.w) h2 (typeOf (.ref e)) (.ref C'):=by
   obtain⟨oe,vs,oT,ts,he,hc,_⟩:=F2
   exact hc ▸ (PySem.W.Looks.ld he).andThen .now
  refine(PySem.W.exm_one (h:=h2) I3.kIn LT hx).at ?_
  refine codeAny_handlers_suite_as (gF (s:={s' with heap:=h2}) F2 fun h3 F3 st3=>?_)
  have hok3:eU X.prog X.w H' h3:=eU.fly hok2 st3 ne nT1 (fun b z=>absurd z (by simp))
  have un3:Un (ja X.stack) [] H1 H' s1.heap h3:=Un.fly un2 (st2' st3) le lT1
  have I4:L2.Inv X pins σ (upd H' e (.ext (mG C' e od))) {s' with heap:=h3}:=
   I1.call' (s':={s' with heap:=h3}) (ch:=[]) os (Un.track un3 ne le) (eU.track hok3 ne (Cf F3)) bare (fun b z=>absurd z (by simp))
  refine m8 (X:=X) I4 hN hjn (.inl hln) (v:=.ref e) rfl (fun s5 I5=>?_) (.inr hln)
  have hl:jn<σ.length:=by rw[I.len];exact(Jn.mp hjn).1
  have ps:=qD (yS (X:=Cx.hand X (.ref e)) (pos:=p3) (pos':=p1) hN hjy (.inl hly) (qC (X:=Cx.hand X (.ref e)) (pos:=p2) hjn (.inl hln) hdn hcdn) hsw2 (.inr hly))
  refine JJ (ps pins s5 _ _ {nx:=fun σ6 H6=>σ6=(σ.set jn (some (.ref e))).set jy (some (.ref e))/\H6=upd H' e (.ext (mG C' e od)),rt:=fun _ _=>False} (Inv.hand I5 _) ⟨.ref e,by rw[JN hl],rfl,rfl⟩) (fun fl s6 hq=>?_) fun _ _ z=>False.elim z
  cases fl with
  |next=>
   obtain⟨σ6,H6,I6,e1,e2⟩:=hq
   subst e1 e2
   exact Ce (Inv.unhand I.ok I6) hN hjn hln fun s7 I7=>⟨_,_,I7,hD e ne⟩
  |ret u=>obtain⟨_,_,_,_,_,z⟩:=hq;exact False.elim z
  |brk=>obtain⟨_,_,_,z⟩:=hq;exact False.elim z
  |cont=>obtain⟨_,_,_,z⟩:=hq;exact False.elim z
end
structure BaseL(K:PySem.W.Frag)(mg:Str->Option Value)(base:Heap):Prop where
 bm:∃ bm ob,mg "__builtins__"=some (.ref bm)/\bm≠builtinsNs/\base.get? bm=some ob/\ob.cls= .type "module"/\ob.dict=some builtinsNs/\ob.data= .plain
 cd:∀ x∈bS,∀ c P,PySem.W.tabIn K x=some (c,P)->PySem.W.CodeHd base c P
def rC(K:PySem.W.Frag):Prop:=∀ x∈bS,∀ y∈bS,∀ c d P,PySem.W.tabIn K x=some (c,P)->PySem.W.tabIn K y=some (d,P)->x=y
theorem vv{pos:Pos}{c v:Value}{a b:Int}(l:List Value)(h:TriplesOk l)(e:codeAmong pos (l++[rawInt a,rawInt b,c])=some v):codeAmong pos l=some v\/v=c:=by
 fun_induction TriplesOk l with
 |case1=>
  have e':(if a==(pos.line:Int) && b==(pos.col:Int)then some c else none)=some v:=e
  split at e'
  ·exact .inr (JI e').symm
  ·cases e'
 |case2 a' t b' u x rest ih=>
  simp only[List.cons_append,codeAmong]at e ⊢
  split at e
  ·next hq=>rw[if_pos hq];exact .inl e
  ·next hq=>rw[if_neg hq];exact ih h e
 |case3 l h1 h2=>exact h.elim
section
variable {X:Cx}{pins:List (Addr×Obj)}{σ:L2.St}{H:Hp}{s:Shared}{x ql:Str}{c P:Addr}{params:Arguments}{body:Expr}{scope:Scope}{pos:Pos}{clos:List (Str×Addr)}{Q:Value->Shared->Prop}{E:Value->Shared->Prop}{A:Around}
theorem EG(hx:x∈bS)(ht:PySem.W.tabIn X.K x=some (c,P))(hcode:X.env.code= .ref c)(hq:X.env.qual++"<lambda>"=ql)(hql:ql=x++".<locals>.<lambda>")(B:BaseL X.K X.mg X.base)(TI:rC X.K)(hcl:closureFor scope X.env=pure clos)
  (hdef:defaultsOf params X.env=([],[])) (I:L2.Inv X pins σ H s) (T:TabsOk X.K H)
  (h:∀ f c' ctv pm H1 s1,L2.Inv X pins σ H1 s1->s.heap.objs.size<=f->s1.heap.get? f=some (PySem.W.kla_obj "<lambda>" ql params body scope clos pm c' ctv)->H1 f=none->H1 c'=some (.ext (pA ql c'))->
   (∀ a o,H a=some o->(∀ ps,o≠ .tbl ps)->H1 a=some o)->(∀ a,H a=none->H1 a≠none->s.heap.objs.size<=a)->TabsOk X.K H1->Q (.ref f) s1):
  wpAny (model X.prog X.w) A (eval (.Lambda params body scope pos) X.env) Q E s:=by
 refine PySem.W.kla_eval hdef ?_
 rw[hq]
 obtain⟨ps,hP,hT,hA⟩:=T x hx c P ht
 have C:PySem.W.CodeHd s.heap c P:=(B.cd x hx c P ht).keeps I.bk
 have oP:s.heap.get? P=some (PySem.W.tabObj ps):=I.hok P _ hP
 have hg:s.heap.Ns mainGlobals X.mg:=I.mod.glob.keeps I.bk
 have neP:∀ b,H b=none->b≠P:=fun b n z=>by rw[z,hP]at n;cases n
 have gP:mainGlobals≠P:=by
  obtain⟨o,es,ep,e,_⟩:=I.mod.glob
  exact neP _ (I.bs _ _ e).2
 have hb:s.heap.BuiltinsAt X.mg P:=by
  obtain⟨bm,ob,b1,b2,b3,b4,b5,b6⟩:=B.bm
  refine⟨bm,ob,b1,b2,fun z=>?_,neP _ (I.bs _ _ b3).2,I.bk _ _ b3,b4,b5,b6⟩
  obtain⟨o,es,ep,e,hd,_⟩:=I.mod.glob
  rw[z,e]at b3;cases b3;rw[hd]at b6;cases b6
 cases hn:codeAmong pos ps.toList with
 |some cv=>
  obtain⟨c',rfl,hc'⟩:=hA pos cv hn
  rw[<-hql]at hc'
  refine PySem.W.kla_makeFunctionHit hcl I.ok.glob hg hcode C oP hT hn hb fun ctv h' tk hk hsz=>?_
  have hk2:∀ b o,s.heap.get? b=some o->(h'.push {cls:=.type "function",data:=.func (PySem.W.kla_fn "<lambda>" ql params body scope clos ((X.mg "__name__").getD .none) (.ref c') ctv)}).get? b=some o:=fun b o e=>Jh _ (hk b o e)
  exact h _ c' ctv _ H _ (I.kept (t':=tk) hk2) hsz (Jo _ rfl) (I.hok.fresh hsz) hc' (fun a o e _=>e) (fun a n z=>absurd n z) T
 | none=>
  refine PySem.W.kla_makeFunction hcl I.ok.glob hg hcode C oP hT hn gP hb fun c' ctv h' tk hX hge hlt hrec htb=>?_
  have nc:H c'=none:=I.hok.fresh hge
  have cP:P≠c':=fun z=>by rw[<-z,hP]at nc;cases nc
  have hk2:∀ b o,b≠P->s.heap.get? b=some o->(h'.push (PySem.W.kla_obj "<lambda>" ql params body scope clos ((X.mg "__name__").getD .none) c' ctv)).get? b=some o:=fun b o n e=>Jh _ (hX b o n e)
  have oP2:(h'.push (PySem.W.kla_obj "<lambda>" ql params body scope clos ((X.mg "__name__").getD .none) c' ctv)).get? P=some (PySem.W.tabObj (ps++ #[rawInt pos.line,rawInt pos.col,.ref c'])):=Jh _ htb
  have old:∀ a o,H a=some o->a≠P->upd (upd H P (.tbl (ps++ #[rawInt pos.line,rawInt pos.col,.ref c']))) c' (.ext (pA ql c')) a=some o:=fun a o e n=>by rw[aA (aF e nc),aA n];exact e
  have hlt2:∀ b o,s.heap.get? b=some o->b≠c':=fun b o e=>Jv (Jx (Jm e) hge)
  have un:Un X.fs [] H (upd (upd H P (.tbl (ps++ #[rawInt pos.line,rawInt pos.col,.ref c']))) c' (.ext (pA ql c'))) s.heap (h'.push (PySem.W.kla_obj "<lambda>" ql params body scope clos ((X.mg "__name__").getD .none) c' ctv)):=
   ⟨fun b o e n _ _=>hk2 b o (neP b n) e,fun b o e n _ _=>⟨o.slots,hk2 b o (neP b n) e⟩,fun b o e n _=>by rw[aA (hlt2 b o e),aA (neP b n)];exact n,fun b o e _=>(by
    by_cases z:b=P
    ·subst z;exact⟨_,oP2⟩
    ·exact⟨o,hk2 b o z e⟩),fun b xs e=>old b _ e (fun z=>by rw[z,hP]at e;cases e),fun b o u e=>old b _ e (fun z=>by rw[z,hP]at e;cases e),fun b qs e=>(by
    by_cases z:b=P
    ·subst z
     rw[hP]at e;cases e
     exact⟨_,by rw[aA cP,aL]⟩
    ·exact⟨#[],by rw[old b _ e z];simp⟩)⟩
  have hrec2:pA ql c' (h'.push (PySem.W.kla_obj "<lambda>" ql params body scope clos ((X.mg "__name__").getD .none) c' ctv)):=by
   obtain⟨c2,oc,vs,t,e1,e2,r⟩:=hrec
   exact⟨c2,oc,vs,t,e1,Jh _ e2,r⟩
  have hok:eU X.prog X.w (upd (upd H P (.tbl (ps++ #[rawInt pos.line,rawInt pos.col,.ref c']))) c' (.ext (pA ql c'))) (h'.push (PySem.W.kla_obj "<lambda>" ql params body scope clos ((X.mg "__name__").getD .none) c' ctv)):=by
   intro a o e
   by_cases za:a=c'
   ·subst za
    rw[aL]at e;cases e
    refine⟨hrec2,?_,?_⟩
    ·obtain⟨c2,oc,vs,t,e1,e2,_⟩:=hrec2
     cases e1
     exact⟨oc,e2⟩
    ·rintro h1 h2 ⟨c2,oc,vs,t,e1,e2,r⟩ k
     cases e1
     exact⟨a,oc,vs,t,rfl,k _ e2,r⟩
   ·rw[aA za]at e
    by_cases zP:a=P
    ·subst zP
     rw[aL]at e;cases e
     exact oP2
    ·rw[aA zP]at e
     refine(I.hok a o e).stay (fun b u hbb q=>hk2 b u ?_ q) (fun b q=>old b _ q (fun z=>by rw[z,hP]at q;cases q)) fun b xs q=>old b _ q (fun z=>by rw[z,hP]at q;cases q)
     rintro rfl
     rcases hbb with hbb|hbb
     ·exact zP hbb.symm
     ·rw[hP]at hbb;cases hbb
  refine h _ c' ctv _ _ _ (I.un (t':=tk) un hok) (Ju hge (Kl hlt)) (Jo _ rfl) ?_ aL (fun a o e n=>old a o e (fun z=>by rw[z,hP]at e;cases e;exact n _ rfl)) (fun a n z=>?_) fun y hy d P' e=>?_
  ·have:H h'.objs.size=none:=I.hok.fresh (Ju hge (Kl hlt))
   rw[aA (Ne.symm (Jv hlt)),aA (neP _ this)];exact this
  ·by_cases za:a=c'
   ·rw[za];exact hge
   ·rw[aA za,aA (neP a n)]at z;exact absurd n z
  ·by_cases zP:P'=P
   ·subst zP
    obtain rfl:y=x:=TI y hy x hx d c P' e ht
    refine⟨_,by rw[aA cP,aL],?_,fun p cv q=>?_⟩
    ·have:=TriplesOk_snoc pos.line pos.col (.ref c') ps.toList hT
     simpa using this
    ·have q':codeAmong p (ps.toList++[rawInt pos.line,rawInt pos.col,.ref c'])=some cv:=by simpa using q
     rcases vv _ hT q' with q2|q2
     ·obtain⟨c2,e1,e2⟩:=hA p cv q2
      exact⟨c2,e1,old _ _ e2 (fun z=>by rw[z,hP]at e2;cases e2)⟩
     ·exact⟨c',q2,by rw[<-hql];exact aL⟩
   ·obtain⟨qs,g1,g2,g3⟩:=T y hy d P' e
    exact⟨qs,old _ _ g1 zP,g2,fun p cv q=>let ⟨c2,e1,e2⟩:=g3 p cv q;⟨c2,e1,old _ _ e2 (fun z=>by rw[z,hP]at e2;cases e2)⟩⟩
end
def Ie(K:PySem.W.Frag)(ι:List Addr)(H:Hp)(x:D)(cls:Value)(od:Option Addr):Prop:=
 ∃ n ds C,x= .exc n ds/\PySem.W.nsIn K mainGlobals n=some (some (.ref C))/\cls= .ref C/\
  ((od=none/\ds=[])\/∃ dx fs,od=some dx/\H dx=some (.xd fs)/\fs.map (·.1)=([("many":Str),("most":Str)]:List Str)/\RelDs K ι H ds (fs.map (·.2)))
def tE(K:PySem.W.Frag)(Ek:XK):XD:=fun x ι _ H=>∀ cls od,Ie K ι H x cls od->Ek cls od H
def Al(K:PySem.W.Frag)(F:List D->M D):Sp:=fun vs H Q Ek=>∃ ι S ds,Rep K ι H S/\RelDs K ι H ds vs/\cont K (tE K Ek) (F ds) ι S H (ku K Q)
theorem Am{K:PySem.W.Frag}{E E':XD}{α:Type}{c:M α}{ι:List Addr}{S:aj}{H:Hp}{Q:α->List Addr->aj->Hp->Prop}(h:cont K E c ι S H Q)(k:∀ x ι' S' H',E x ι' S' H'->E' x ι' S' H'):cont K E' c ι S H Q:=by
 obtain⟨r,S',e,q⟩:=h
 refine⟨r,S',e,fun ι1 H1 x1 rep1=>?_⟩
 have:=q ι1 H1 x1 rep1
 cases r with
 |ok a=>exact this
 |ex x=>exact k x _ _ _ this
def jU{α:Type}(c:M α):M α:=fun S=>match c S with
 |some (.ok a,S')=>some (.ok a,S')
 |_=>none
theorem qk{K:PySem.W.Frag}{E:XD}{α:Type}{c:M α}{ι:List Addr}{S:aj}{H:Hp}{Q:α->List Addr->aj->Hp->Prop}(h:cont K E (jU c) ι S H Q):cont K bZ c ι S H Q:=by
 obtain⟨r,S',e,q⟩:=h
 unfold jU at e
 cases z:c S with
 |none=>rw[z]at e;cases e
 |some p=>
  obtain⟨r1,S1⟩:=p
  rw[z]at e
  cases r1 with
  |ok a=>cases e;exact⟨_,_,z,q⟩
  |ex x=>cases e
section
variable {X:Cx}{E:XD}
theorem Cg{e:Expr}{m:TM}(h:SE X bZ e m):SE X E e (fun ρ=>jU (m ρ)):=PE.imp h fun _ _ _ ⟨ι,S,ρ,rep,re,c⟩=>⟨ι,S,ρ,rep,re,qk c⟩
theorem tF{st:List Stmt}{m:cq}(h:sH X bZ st m):sH X E st (fun ρ=>jU (m ρ)):=oY.imp h fun _ _ _ ⟨ι,S,ρ,rep,re,c⟩=>⟨ι,S,ρ,rep,re,qk c⟩
theorem rD{st:List Stmt}{m:cq}(h:sH X.nox bZ st m):sH X bZ st m:=oY.nox h
end
structure Leaves(X:Cx)(Ek:XK):Prop where
 st:X.stack=X.env::X.outer
 fm:X.env.frame=some X.env.locals
 ex:X.ex=[]
 xe:∀ e s',wpAny (model X.prog X.w) X.A (leaving X.env e) (fun _ s''=>jT X.prog X.w X.outer X.H₀ X.s₀ Ek e s'') (fun e' s''=>jT X.prog X.w X.outer X.H₀ X.s₀ Ek e' s'') s'->X.xe e s'
 ow:PassesOwn (model X.prog X.w) X.A X.env X.xe
section
variable {X:Cx}{Ek:XK}
theorem Leaves.pass(L:Leaves X Ek):ng (jT X.prog X.w) X Ek:=by
 rintro pins σ H s x s' I ⟨e,T,C,od,H',rfl,os,bare,un,hok,F,ne,nT,le,lT,hE⟩
 have I':L2.Inv X pins σ H' s':=I.call' (ch:=[]) os un hok bare (fun b z=>absurd z (by simp))
 refine L.xe _ _ (vt (base:=X.base) (outer:=X.outer) (by rw[I'.ok.frames,L.st]) (by rw[<-L.st];exact I'.stack) L.fm F fun h' T' F' l st=>?_)
 rw[<-L.st]at st
 have hok':eU X.prog X.w H' h':=eU.fly hok st ne nT I'.stkFree
 have un':Un (ja X.stack) [] H H' s.heap h':=Un.fly un st le lT
 have I2:L2.Inv X pins σ H' {s' with heap:=h'}:=I.call' (s':={s' with heap:=h'}) (ch:=[]) os un' hok' bare (fun b z=>absurd z (by simp))
 have hb:=I2.base
 have h0:=I.base
 have h0':=I'.base
 rw[L.ex]at hb h0 h0'
 exact⟨e,T',C,od,H',rfl,I2.os,I2.bare,hb,I2.hok,F',ne,hok.fresh l,Un.gone h0 (by simp) le,Un.gone h0' (by simp) (J5 l),hE⟩
theorem Leaves.new{pins:List (Addr×Obj)}{σ:L2.St}{H:Hp}{e:Addr}{oe:Obj}{vs:Array Value}{C:Addr}{od:Option Addr}{s':Shared}(L:Leaves X Ek)
  (I:L2.Inv X pins σ H s') (he:s'.heap.get? e=some oe) (hc:oe.cls= .ref C) (ho:oe.dict=od) (hd:oe.data= .fields vs) (h1:vs[1]? =some .none) (hn:H e=none) (hs:X.s₀.heap.get? e=none) (hE:Ek (.ref C) od H):X.xe (.ref e) s':=by
 refine L.xe _ _ (tx (base:=X.base) (outer:=X.outer) (by rw[I.ok.frames,L.st]) (by rw[<-L.st];exact I.stack) L.fm he hc ho hd h1 fun h' T' F' l st=>?_)
 have hff:∀ b∈ja (X.env::X.outer),H b=none:=by rw[<-L.st];exact I.stkFree
 have hok':eU X.prog X.w H h':=eU.fly I.hok st hn hn hff
 have hb:=I.base
 rw[L.ex]at hb
 have st2:∀ b o,X.s₀.heap.get? b=some o->b ∉ ja X.outer->b ∉ ja (X.env::X.outer):=fun b o q n z=>by
  rw[tD X.outer X.env.locals _ L.fm]at z
  rcases JC.mp z with z|z
  ·exact absurd (Jm q) (by rw[z];exact M5.mpr I.ok.above)
  ·exact n z
 have ne:∀ b o,X.s₀.heap.get? b=some o->b≠e:=fun b o q=>fL q hs
 refine⟨e,T',C,od,H,rfl,I.os,I.bare,⟨fun b o q n hf hx=>?_,fun b o q n hf hx=>?_,hb.free,fun b o q hx=>?_,hb.tups,hb.frzs,hb.tbls⟩,hok',F',hn,I.hok.fresh l,hs,Un.gone hb (by simp) (J5 l),hE⟩
 ·exact st.keep b o (hb.keep b o q n hf hx) (ne b o q) (ne b o q) (st2 b o q hf)
 ·obtain⟨sl,q1⟩:=hb.slot b o q n hf hx
  obtain⟨sl2,q2⟩:=st.slot b _ q1 (ne b o q) (ne b o q)
  exact⟨sl2,q2⟩
 ·obtain⟨o1,q1⟩:=hb.there b o q hx
  obtain⟨sl2,q2⟩:=st.slot b _ q1 (ne b o q) (ne b o q)
  exact⟨_,q2⟩
theorem bK{P:Program}{w:World}{K:PySem.W.Frag}{mg:Str->Option Value}{base:Heap}{N:List Str}{qual:Str}{scope:Scope}{f:Addr}{cd:Value}{A:Around}{outer:List Env}{s₀:Shared}{H₀:Hp}:
  Leaves (iZ (jT P w) P w K mg base N qual scope f cd A outer s₀ H₀ Ek) Ek:=⟨rfl,rfl,rfl,fun _ _ h=>h,PassesOwn.leaving⟩
end
structure DefX(P:Program)(w:World)(K:PySem.W.Frag)(mg:Str->Option Value)(base:Heap)(k:Nat)(x:Str)(ps:List Str)(F:List D->M D):Prop where
 ex:∃ f fd,FnOk P w K mg base (jT P w) k f fd ps (Al K F)/\mg x=some (.ref f)/\PySem.W.keepIn K (.ref f)=true/\Binds K fd ps []
section
variable {P:Program}{w:World}{K:PySem.W.Frag}{mg:Str->Option Value}{base:Heap}
theorem EH{x qual:Str}{st:Stmt}{f:Addr}{fd:FuncData}{N ps:List Str}{k:Nat}{m:cq}(F:Fun K x qual st f fd)(Sc:FnScope N ps (au st))
  (hbody:∀(cdv:Value) (A:Around) (outer:List Env) (s:Shared) (H:Hp) (Ek:XK),Room k (A.deeper (envOfC qual (au st) s.heap.objs.size f cdv))->PySem.W.codeIn K cdv qual=true->(∃ oc od osl kV doc pm an ct,K.lookup f=some ⟨oc,od,.func (PySem.W.fnOf x qual (gx st) (cU st) (au st) .none kV doc pm an cdv ct),osl⟩)->
   sH (iZ (jT P w) P w K mg base N qual (au st) f cdv A outer s H Ek) (tE K Ek) (cU st) m):FnOk P w K mg base (jT P w) (k+1) f fd ps (Al K (lH N.length ps.length m)):=by
 have key:∀{vs:List V} {H:Hp} {Q:VK} {Ek:XK},Al K (lH N.length ps.length m) vs H Q Ek->vs.length=ps.length/\∃ ι S ds,Rep K ι H S/\RelDs K ι H ds vs/\cont K (tE K Ek) (do let o<-m (ds.map some++List.replicate (N.length - ps.length) none);outD o) ι S H (ku K Q):=by
  rintro vs H Q Ek ⟨ι,S,ds,rep,r,c⟩
  unfold lH at c
  by_cases hl:ds.length=ps.length
  ·rw[if_pos hl]at c
   exact⟨by rw[<-r.length];exact hl,ι,S,ds,rep,r,c⟩
  ·rw[if_neg hl]at c
   exact(ag c).elim
 obtain⟨oc,od,kV,doc,pm,an,cdv,ct,osl,rfl,lk,hcd⟩:=F.ex
 refine y0 lk hcd Sc (fun vs H Q Ek h=>(key h).1) fun A outer s H vs Q Ek hr h=>⟨_,hbody cdv A outer s H Ek hr hcd ⟨oc,od,osl,kV,doc,pm,an,ct,lk⟩,?_⟩
 obtain⟨hl,ι,S,ds,rep,r,c⟩:=key h
 refine⟨ι,S,_,rep,?_,ak (ah c) fun o ι1 S1 H1 e1 rep1 c1=>?_⟩
 ·have:=RelE.start r (N.length - ps.length)
  unfold L2.start
  rw[hl];exact this
 ·cases o with
  |nx ρ=>exact fun σ' _=>ai c1 .refl rep1 _ .non
  |ret d=>exact ai c1 .refl rep1
  |bk ρ=>exact(ag c1).elim
  |ct ρ=>exact(ag c1).elim
end
section
variable {X:Cx}{Ek:XK}{e:Expr}{es:List Expr}{pos:Pos}{ms:az->M (List D)}
theorem dN{x:Str}{k:Nat}{ps:List Str}{F:List D->M D}{p:Pos}(d:DefX X.prog X.w X.K X.mg X.base k x ps F)(hr:Room k X.A)(hx:ng (jT X.prog X.w) X Ek)(ha:SA X (tE X.K Ek) (e::es) ms)(hg:Gl X x:=by rfl)
  (hdb:(x==("__debug__":Str))=false:=by decide) (he:starEach (e::es) X.env=(false,eval e X.env)::starEach es X.env:=by rfl) (hpl:(backTo pos (starEach es X.env)).any (·.1)=false:=by rfl):
  SE X (tE X.K Ek) (.Call (.Name x p) (e::es) [] pos) (aK F ms):=by
 obtain⟨f,fd,G,hm,hk,hb⟩:=d.ex
 refine PE.imp (vT G hr hg hm hk hb (.nil) (E:=Ek) hx ha hdb he hpl) fun σ H Q h=>?_
 obtain⟨ι,S,ρ,rep,re,c⟩:=h
 refine⟨ι,S,ρ,rep,re,ak (ah c) fun ds ι1 S1 H1 e1 rep1 c1 vs r1=>?_⟩
 show Al X.K F (vs++[]) H1 Q Ek
 rw[JV]
 exact⟨ι1,S1,ds,rep1,r1,c1⟩
theorem aP{x:Str}{k:Nat}{ps:List Str}{F:List D->M D}{p:Pos}(d:DefX X.prog X.w X.K X.mg X.base k x ps F)(hr:Room k X.A)(ha:SA X bZ (e::es) ms)(hg:Gl X x:=by rfl)
  (hdb:(x==("__debug__":Str))=false:=by decide) (he:starEach (e::es) X.env=(false,eval e X.env)::starEach es X.env:=by rfl) (hpl:(backTo pos (starEach es X.env)).any (·.1)=false:=by rfl):
  SE X bZ (.Call (.Name x p) (e::es) [] pos) (aK F ms):=by
 obtain⟨f,fd,G,hm,hk,hb⟩:=d.ex
 refine PE.imp (vT G hr hg hm hk hb (.nil) (E:=E0) ya ha hdb he hpl) fun σ H Q h=>?_
 obtain⟨ι,S,ρ,rep,re,c⟩:=h
 refine⟨ι,S,ρ,rep,re,ak (ah c) fun ds ι1 S1 H1 e1 rep1 c1 vs r1=>?_⟩
 show Al X.K F (vs++[]) H1 Q E0
 rw[JV]
 exact⟨ι1,S1,ds,rep1,r1,Am c1 fun _ _ _ _ z=>z.elim⟩
end
def aS:List Str:=["WebError","NoWeb","NoPlace","NoPlaces","NoMap","NoSharing","NoRoot","NoNumber","NotJoined","NoTie","NoText","NoLine","NoDeed","TooGreat"]
def cm(n y:Str):Bool:=n==y||y=="WebError"
abbrev Fy:List Value:=[.type "ValueError",.type "Exception",.type "BaseException",.type "object"]
def An(K:PySem.W.Frag)(n:Str):Bool:=match PySem.W.nsIn K mainGlobals n with
 | some (some (.ref C))=>Ai K C && (n=="TooGreat"||PySem.W.excIn K C Fy "ValueError.__new__") && (PySem.W.kitOne K (.ref C) (.type "ValueError")==some true) && (PySem.W.kitOne K (.type "NoneType") (.ref C)==some false) &&
  aS.all (fun y=>match PySem.W.nsIn K mainGlobals y with
   |some (some (.ref D))=>PySem.W.kitOne K (.ref C) (.ref D)==some (cm n y) && PySem.W.exmOne K (.ref C) (.ref D)==some (cm n y)
   |_=>false)
 |_=>false
def fu(K:PySem.W.Frag):Bool:=aS.all (An K) && PySem.W.kitOne K (.type "NoneType") (.type "ValueError")==some false
structure ErrAt(K:PySem.W.Frag)(n:Str)(C:Addr):Prop where
 ns:PySem.W.nsIn K mainGlobals n=some (some (.ref C))
 ck:ExcC K C
 pl:n="TooGreat"\/PySem.W.excIn K C Fy "ValueError.__new__"=true
 ve:PySem.W.kitOne K (.ref C) (.type "ValueError")=some true
 nn:PySem.W.kitOne K (.type "NoneType") (.ref C)=some false
 sub:∀ y∈aS,∃ D,PySem.W.nsIn K mainGlobals y=some (some (.ref D))/\PySem.W.kitOne K (.ref C) (.ref D)=some (cm n y)/\PySem.W.exmOne K (.ref C) (.ref D)=some (cm n y)
theorem jo{K:PySem.W.Frag}(h:fu K=true){n:Str}(hn:n∈aS):∃ C,ErrAt K n C:=by
 unfold fu at h
 rw[Kz]at h
 have h1:=JQ.mp h.1 n hn
 unfold An at h1
 split at h1
 ·next C e=>
  simp only[Bool.and_eq_true,Bool.or_eq_true,beq_iff_eq,List.all_eq_true]at h1
  obtain⟨⟨⟨⟨a1,a2⟩,a3⟩,a4⟩,a5⟩:=h1
  refine⟨C,e,.of a1,a2,a3,a4,fun y hy=>?_⟩
  have:=a5 y hy
  split at this
  ·next D eD=>
   simp only[Bool.and_eq_true,beq_iff_eq]at this
   exact⟨D,eD,this.1,this.2⟩
  ·cases this
 ·cases h1
theorem EI{K:PySem.W.Frag}(h:fu K=true):PySem.W.kitOne K (.type "NoneType") (.type "ValueError")=some false:=by
 unfold fu at h
 rw[Kz,M6]at h
 exact h.2
theorem Ci{K:PySem.W.Frag}{h:Heap}{C:Addr}(X:K.In h)(q:PySem.W.excIn K C Fy "ValueError.__new__"=true):∃ bm N nm qn bs hdct sn sub ab col dd k0 k1 k2 k3 k5 mN,
  h.get? C=some (excClassObj nm qn C N bs bm hdct sn sub ab col dd k0 k1 k2 k3 k5 "ValueError.__new__")/\h.Ns N mN/\mN "__init__"=none/\OwnTail h Fy bm:=by
 unfold PySem.W.excIn at q
 split at q
 case h_2=>cases q
 case h_1 dd cd sl ho=>
 split at q
 case h_2=>cases q
 case h_1 C' bm k0 k1 k2 k3 n k5 hm hs=>
 simp only[Bool.and_eq_true,beq_iff_eq,Bool.not_eq_true']at q
 obtain⟨⟨⟨⟨⟨eC,en⟩,hdel⟩,ht⟩,hok⟩,hni⟩:=q
 subst eC en
 rcases cd with⟨nm,bs,mro,ns,qn,hd,sn,sub,ab,col,del⟩
 dsimp only at hm hdel hok hni
 subst hm hdel
 obtain rfl:sl= #[k0,k1,k2,k3,some (.builtin "ValueError.__new__"),k5]:=by rcases sl with⟨l⟩;simp only at hs;rw[hs]
 exact⟨bm,ns,nm,qn,bs,hd,sn,sub,ab,col,dd,k0,k1,k2,k3,k5,_,X _ _ ho,.of_isNs (PySem.W.isNs_of_in X hok),PySem.W.nsMap_none_of_in X hok hni,PySem.W.tail_of_in X ht⟩
section
variable {X:Cx}{Ek:XK}{E:XD}
theorem tG{x:Str}{e:Expr}{es:List Expr}{ms:az->M (List D)}{np cpos pos:Pos}(L:Leaves X Ek)(hc:X.calm=true)(eK:fu X.K=true)(hx:x∈aS)(hne:x≠"TooGreat")(ha:SA X (tE X.K Ek) (e::es) ms)(hg:Gl X x:=by rfl)
  (hdb:(x==("__debug__":Str))=false:=by decide) (he:starEach (e::es) X.env=(false,eval e X.env)::starEach es X.env:=by rfl) (hpl:(backTo cpos (starEach es X.env)).any (·.1)=false:=by rfl):
  SS X (tE X.K Ek) (.Raise (some (.Call (.Name x np) (e::es) [] cpos)) none pos) (fun ρ=>do let ds<-ms ρ;if ds.length<=lim then M.raise (.exc x [])else M.fail):=by
 intro pins s σ H T I h
 obtain⟨ι,S,ρ,rep,re,c⟩:=h
 obtain⟨C,EA⟩:=jo eK hx
 have hq:=EA.pl.resolve_left hne
 have hm:X.mg x=some (.ref C):=Jz I.mod.kin I.mod.glob EA.ns
 obtain⟨bm,N,nm,qn,bs,hdct,sn,sub,ab,col,dd,k0,k1,k2,k3,k5,mN,hC,hN,hni,tl⟩:=Ci I.mod.kin hq
 refine wpAny_Raise_call_subU (k5:=k5) (k3:=k3) (k2:=k2) (k1:=k1) (k0:=k0) (nm:=nm) (q:=qn) (C:=C) (N:=N) (bm:=bm) (bs:=bs) (hdct:=hdct) (sn:=sn) (sub:=sub) (ab:=ab) (col:=col) (dd:=dd) KL (by decide) KL (mN:=mN) (tl.hasType PySem.F.excBase_ValueError.hasBase) (I.ok.hd hc) (by rw[he];show(false||(backTo cpos (starEach es X.env)).any (·.1))=false;rw[hpl];rfl) hni (jC I hg hm ⟨rfl,?_⟩ hdb)
 have hargs:=ha cpos pins s σ H _ I ⟨ι,S,ρ,rep,re,ak (ah c) fun ds ι1 S1 H1 e1 rep1 c1 vs r1=>(⟨ι1,S1,ds,rep1,r1,c1⟩:∃ ι1 S1 ds,Rep X.K ι1 H1 S1/\RelDs X.K ι1 H1 ds vs/\cont X.K (tE X.K Ek) (if ds.length<=lim then M.raise (.exc x [])else M.fail) ι1 S1 H1 _)⟩
 rw[he]at hargs ⊢
 refine Mb (JJ hargs (fun us s2 hq2=>?_) fun _ _ z=>z)
 obtain⟨vs,H1,I1,rv,ι1,S1,ds,rep1,r1,c1⟩:=hq2
 by_cases hl:ds.length<=lim
 ·rw[if_pos hl]at c1
  refine⟨rfl,?_,I1.bk _ _ hC,hN.keeps I1.bk,tl.keeps I1.bk,fun h' ea hm=>?_⟩
  ·show us.length<=sizeLine
   rw[<-rv.length, <-r1.length];exact Ju hl fA
  ·obtain⟨t,h1,h2,h3⟩:=hm.there
   have I2:L2.Inv X pins σ H1 {s2 with heap:=h'}:=I1.kept (t':=s2.toks) hm.keeps
   have hb:=I1.base
   rw[L.ex]at hb
   obtain⟨r',S',e',q'⟩:=c1
   cases e'
   refine L.new I2 h1 rfl rfl rfl rfl (eU.gone I1.hok hm.new) (Un.gone hb (by simp) hm.new) (q' ι1 H1 .refl rep1 _ _ ⟨x,[],C,rfl,EA.ns,rfl,.inl ⟨rfl,rfl⟩⟩)
 ·rw[if_neg hl]at c1
  exact(ag c1).elim
def tH(f:Str->Bool):D->M D
 | .exc n _=>if n∈aS then pure (.bl (f n))else M.fail
 | .non=>pure (.bl false)
 |_=>M.fail
theorem yc{C a:Addr}{od:Option Addr}{h:Heap}{P:Program}{w:World}{H:Hp}(x:mG C a od h)(hd:od=none\/∃ dx fs,od=some dx/\aY P w H h dx (.xd fs)):∃ ox odo,PySem.W.InstAt h a ox C odo:=by
 obtain⟨oe,vs,e,hc,ho,hf⟩:=x
 have hno:PySem.W.notCls oe=true:=by unfold PySem.W.notCls;rw[hf]
 rcases hd with rfl|⟨dx,fs,rfl,h2⟩
 ·exact⟨oe,none,e,hc,hno,by rw[ho];trivial⟩
 ·obtain⟨ob,e2⟩:=aY.there h2
  exact⟨oe,some ob,e,hc,hno,by rw[ho];exact e2⟩
theorem Cj{pins:List (Addr×Obj)}{σ:L2.St}{H:Hp}{s:Shared}{ι:List Addr}{n:Str}{ds:List D}{v:V}{u cv:Value}{b:Bool}{A:Around}{Q:Value->Shared->Prop}{Ex:Value->Shared->Prop}(I:L2.Inv X pins σ H s)(r:RelD X.K ι H (.exc n ds) v)(ru:RelV v u)
  (eK:fu X.K=true) (hn:n∈aS) (hk:∀ C,ErrAt X.K n C->PySem.W.kitOne X.K (.ref C) cv=some b) (h:∀ tk,Q (.bool b) {s with toks:=tk}):wpAny (model X.prog X.w) A (call (.builtin "isinstance") [u,cv]) Q Ex s:=by
 obtain⟨C,EA⟩:=jo eK hn
 have fin:∀{a C2:Addr} {od:Option Addr},PySem.W.nsIn X.K mainGlobals n=some (some (.ref C2))->v= .ref a->mG C2 a od s.heap->(od=none\/∃ dx fs,od=some dx/\aY X.prog X.w H s.heap dx (.xd fs))->wpAny (model X.prog X.w) A (call (.builtin "isinstance") [u,cv]) Q Ex s:=by
  rintro a C2 od e1 rfl ph hd
  rw[EA.ns]at e1
  cases e1
  obtain rfl:u=Value.ref a:=ru
  exact J4 (Aj EA.ck) I.kIn (yc ph hd) (hk C EA) (fun z=>nomatch z) h
 cases r with
 |exc e1 e2=>exact fin e1 rfl (I.hok _ _ e2).1 (.inl rfl)
 |excF e1 e2 e3 e4 e5=>exact fin e1 rfl (I.hok _ _ e2).1 (.inr ⟨_,_,rfl,I.hok _ _ e3⟩)
theorem Ao{s:Shared}{pins:List (Addr×Obj)}{σ:L2.St}{H:Hp}{cv:Value}{A:Around}{Q:Value->Shared->Prop}{Ex:Value->Shared->Prop}(I:L2.Inv X pins σ H s)(hk:PySem.W.kitOne X.K (.type "NoneType") cv=some false)(h:∀ tk,Q (.bool false) {s with toks:=tk}):
  wpAny (model X.prog X.w) A (call (.builtin "isinstance") [.none,cv]) Q Ex s:=J4 MA I.kIn True.intro hk (fun z=>nomatch z) h
theorem wB{m:TM}{e ec:Expr}{p q pos:Pos}{f:Str->Bool}{cv:Value}{vc:V}(eK:fu X.K=true)(hm:X.mg "isinstance"=none)(he:SE X E e m)(hec:PE X ec (tC vc))(hvc:∀ u,RelV vc u->u=cv)(hn:PySem.W.kitOne X.K (.type "NoneType") cv=some false)
  (hk:∀ n∈aS,∀ C,ErrAt X.K n C->PySem.W.kitOne X.K (.ref C) cv=some (f n)) (hg:Gl X "isinstance":=by rfl)
  (hs:starEach [e,ec] X.env=[(false,eval e X.env),(false,eval ec X.env)]:=by rfl) (hs2:starEach [ec] X.env=[(false,eval ec X.env)]:=by rfl):
  SE X E (.Call (.Name "isinstance" p) [e,ec] [] pos) (fun ρ=>do let x<-m ρ;tH f x):=by
 have hcall:cG X (.builtin "isinstance") (fun xs H Q=>∃ x ι d,xs=[x,vc]/\RelD X.K ι H d x/\((d= .non/\Q (.bl false) H)\/∃ n ds,d= .exc n ds/\n∈aS/\Q (.bl (f n)) H)):=by
  intro pins s σ H xs us Q I r h
  obtain⟨x,ι,d,rfl,rd,hq⟩:=h
  obtain⟨u,w',rfl,ru,rw'⟩:=vals2 r
  cases hvc _ rw'
  rcases hq with⟨rfl,q⟩|⟨n,ds,rfl,hn',q⟩
  ·cases rd.non_inv
   cases (show u=Value.none from ru)
   exact Ao I hn fun tk=>⟨.bl _,H,I.tok tk,rfl,q⟩
  ·exact Cj I rd ru eK hn' (fun C EA=>hk n hn' C EA) fun tk=>⟨.bl _,H,I.tok tk,rfl,q⟩
 refine PE.imp (gY hcall hg hm (by decide+kernel) (dr he (dr hec iy hs2) (by rw[hs,hs2])) (by decide) (by decide) (by rw[hs,hs2]) (by rw[hs2];rfl)) fun σ H Q h=>?_
 obtain⟨ι,S,ρ,rep,re,c⟩:=h
 refine⟨ι,S,ρ,rep,re,ak (ah c) fun x ι1 S1 H1 e1 rep1 c1 v r=>?_⟩
 refine⟨v,ι1,x,rfl,r,?_⟩
 cases x with
 |non=>exact .inl ⟨rfl,ai c1 .refl rep1 _ (.bl _)⟩
 | exc n ds=>
  dsimp only[tH]at c1
  by_cases hn':n∈aS
  ·rw[if_pos hn']at c1
   exact .inr ⟨n,ds,rfl,hn',ai c1 .refl rep1 _ (.bl _)⟩
  ·rw[if_neg hn']at c1
   exact(ag c1).elim
 |_=>exact(ag c1).elim
theorem dC{m:TM}{e:Expr}{y:Str}{p q pos:Pos}(eK:fu X.K=true)(hy:y∈aS)(G:Mod X.K X.mg X.base)(hm:X.mg "isinstance"=none)(he:SE X E e m)(hg:Gl X "isinstance":=by rfl)(hgy:Gl X y:=by rfl)(hd:(y==("__debug__":Str))=false:=by decide)
  (hs:starEach [e,.Name y q] X.env=[(false,eval e X.env),(false,eval (.Name y q) X.env)]:=by rfl) (hs2:starEach [.Name y q] X.env=[(false,eval (.Name y q) X.env)]:=by rfl):
  SE X E (.Call (.Name "isinstance" p) [e,.Name y q] [] pos) (fun ρ=>do let x<-m ρ;tH (fun n=>cm n y) x):=by
 obtain⟨C,EA⟩:=jo eK hy
 refine wB (q:=q) (vc:=.ref C) (cv:=.ref C) eK hm he (vS hgy (Jz G.kin G.glob EA.ns) rfl hd) (fun u z=>z) EA.nn (fun n hn C2 EA2=>?_) hg hs hs2
 obtain⟨D2,e1,e2,_⟩:=EA2.sub y hy
 rw[EA.ns]at e1
 cases e1
 exact e2
theorem Ck{m:TM}{e:Expr}{p q pos:Pos}(eK:fu X.K=true)(hm:X.mg "isinstance"=none)(hmV:X.mg "ValueError"=none)(he:SE X E e m)(hg:Gl X "isinstance":=by rfl)(hgy:Gl X "ValueError":=by rfl)
  (hs:starEach [e,.Name "ValueError" q] X.env=[(false,eval e X.env),(false,eval (.Name "ValueError" q) X.env)]:=by rfl) (hs2:starEach [.Name "ValueError" q] X.env=[(false,eval (.Name "ValueError" q) X.env)]:=by rfl):
  SE X E (.Call (.Name "isinstance" p) [e,.Name "ValueError" q] [] pos) (fun ρ=>do let x<-m ρ;tH (fun _=>true) x):=
 wB (q:=q) (vc:=.ty "ValueError") (cv:=.type "ValueError") eK hm he (mQ hgy hmV (by decide+kernel) rfl) (fun u z=>z) (EI eK) (fun n hn C2 EA2=>EA2.ve) hg hs hs2
end
abbrev jq(ql:Str)(scope:Scope)(f c':Addr)(cl:List (Str×Addr))(s:Shared):Env:=PySem.W.envX ql scope s.heap.objs.size f (.ref c') cl
def tI(P:Program)(w:World)(K:PySem.W.Frag)(mg:Str->Option Value)(base:Heap)(N:List Str)(ql:Str)(scope:Scope)(f c':Addr)(cl:List (Str×Addr))(A:Around)(outer:List Env)(s:Shared)(H:Hp)(Ek:XK):Cx where
 prog:=P
 w:=w
 K:=K
 mg:=mg
 base:=base
 A:=A.deeper (jq ql scope f c' cl s)
 N:=N
 s₀:=s
 H₀:=H
 env:=jq ql scope f c' cl s
 outer:=outer
 stack:=jq ql scope f c' cl s::outer
 ex:=[]
 calm:=true
 fn:=fun _=>false
 pn:=[]
 xe:=fun e s'=>wpAny (model P w) (A.deeper (jq ql scope f c' cl s)) (leaving (jq ql scope f c' cl s) e) (fun _ s''=>jT P w outer H s Ek e s'') (fun e' s''=>jT P w outer H s Ek e' s'') s'
section
variable {P:Program}{w:World}{K:PySem.W.Frag}{mg:Str->Option Value}{base:Heap}{N:List Str}{ql:Str}{scope:Scope}{f c':Addr}{cl:List (Str×Addr)}{params:Arguments}{body:Expr}{pm ctv:Value}
theorem kf{A:Around}{outer:List Env}{s:Shared}{H:Hp}{Ek:XK}:Leaves (tI P w K mg base N ql scope f c' cl A outer s H Ek) Ek:=⟨rfl,rfl,rfl,fun _ _ h=>h,PassesOwn.leaving⟩
structure Caps(base:Heap)(scope:Scope)(cl:List (Str×Addr))(N:List Str)(vs:List V):Prop where
 kind:scope.kind= .function
 nocell:∀ y∈scope.names,y.2≠ .cell
 co:scope.isCoroutine=false
 gen:scope.isGenerator=false
 inj:∀ x y c,cl.lookup x=some c->cl.lookup y=some c->x=y
 has:∀ x,scope.names.lookup x=some .free->∃ c,cl.lookup x=some c
 cell:∀ x c,cl.lookup x=some c->∃ v,base.IsCell c v
 len:vs.length=N.length
 val:∀(i:Nat) (x:Str) (v:V),N[i]? =some x->vs[i]? =some v->scope.names.lookup x=some .free/\∃ c u,cl.lookup x=some c/\RelV v u/\base.IsCell c (some u)
def Gw(K:PySem.W.Frag)(c':Addr)(ql:Str)(ds:List D)(vs:List V)(m:TM):Hp->VK->XK->Prop:=fun H Q Ek=>
 ∃ ι S,Rep K ι H S/\H c'=some (.ext (pA ql c'))/\RelDs K ι H ds vs/\cont K (tE K Ek) (m (ds.map some)) ι S H (ku K Q)
theorem fM{h h':Heap}{c:Addr}{v:Option Value}(x:h.IsCell c v)(k:∀ b o,h.get? b=some o->h'.get? b=some o):h'.IsCell c v:=let ⟨o,e,r⟩:=x;⟨o,k _ _ e,r⟩
theorem tJ{ι:List Addr}{H:Hp}:∀{ds:List D} {vs:List V},RelDs K ι H ds vs->RelE K ι H (ds.map some) (vs.map some)
 |_,_,.nil=>.nil
 |_,_,.cons r t=>.cons (fun d z=>by cases z;exact⟨_,rfl,r⟩) (tJ t)
theorem EJ{k:Nat}{ds:List D}{vs:List V}{m:TM}(ho:base.get? f=some (PySem.W.kla_obj "<lambda>" ql params body scope cl pm c' ctv))(cp:Caps base scope cl N vs)
  (hbind:bindArgs (PySem.W.kla_fn "<lambda>" ql params body scope cl pm (.ref c') ctv) ⟨[],[]⟩=pure [])
  (hbody:∀(A:Around) (outer:List Env) (s:Shared) (H:Hp) (Ek:XK),Room k (A.deeper (jq ql scope f c' cl s))->SE (tI P w K mg base N ql scope f c' cl A outer s H Ek) (tE K Ek) body m):
  LamOk P w K mg base (k+1) f (Gw K c' ql ds vs m):=by
 refine⟨⟨_,_,ho,rfl⟩,fun A outer s H Q Ek hr e0 hsp=>?_⟩
 obtain⟨ι,S,rep,hc',rd,c⟩:=hsp
 have bk:∀ b o,base.get? b=some o->s.heap.get? b=some o:=fun b o e=>(e0.bs b o e).1
 have hcd:s.heap.CodeRec (.ref c') ql:=(e0.hok _ _ hc').1
 refine PySem.W.kla_callFunE hr.depth (bk _ _ ho) rfl cp.co cp.gen rfl hcd ?_
 rw[hbind]
 refine Ji (wpAny_newFunctionEnv cp.nocell (fun y hy=>absurd hy (by simp)) (fun h1 hns hsb=>?_) cp.kind)
 have hk:∀ b o,s.heap.get? b=some o->h1.get? b=some o:=fun b o e=>(hsb.2 b (Jv (Jm e))).trans (Jh _ e)
 refine⟨(e0.mod.nolimit.keeps bk).keeps hk,?_⟩
 show codeAny _ _ (.expr body (jq ql scope f c' cl s)) _ _
 refine PySem.W.kla_codeExpr ?_
 have noA:∀ b:Addr,b ∉ ([]:List Addr):=fun b z=>by cases z
 have nok:∀ x,scope.names.lookup x≠some .cell:=fun x e=>cp.nocell _ (bj e) rfl
 have I:L2.Inv (tI P w K mg base N ql scope f c' cl A outer s H Ek) [] (vs.map some) H {s with heap:=h1,toks:=s.toks+0}:=
  ⟨⟨e0.mod,cp.kind,rfl,rfl,Jj _,cp.inj,(fun x hx=>by
    rcases hx with hx|hx
    ·exact absurd hx (nok x)
    ·exact cp.has x hx),(fun _ _ z=>Bool.noConfusion z),fun _=>hr.hd,Around.frames_deeper e0.frames,.inr ⟨rfl,rfl⟩,fun b z=>absurd z (noA b),e0.bs,e0.bsz,fun b _ _=>noA b,fun b z=>absurd z (noA b),e0.funs,e0.frf⟩,
   rfl,e0.bare,Un.kept hk,⟨_,hns,fun i x v h1' h2 h3=>(by
    have h2':vs[i]? =some v:=by
     rw[JB]at h2
     cases q:vs[i]? with
     |none=>rw[q]at h2;cases h2
     |some a=>rw[q]at h2;cases h2;rfl
    obtain⟨hf,cc,u,e1,e2,e3⟩:=cp.val i x v h1' h2'
    exact⟨u,e2,.inr ⟨.inr hf,cc,e1,fM (fM e3 bk) hk⟩⟩)⟩,
   (fun x cc e=>let ⟨v,z⟩:=cp.cell x cc e;⟨v,fM (fM z bk) hk⟩),e0.hok.fresh (Jj _),(fun x cc e=>let ⟨v,o,z,_⟩:=cp.cell x cc e;(e0.bs _ _ z).2),
   (fun p hp=>absurd hp (by simp[tI])),e0.hok.kept hk,by rw[Jl];exact cp.len⟩
 refine JJ (hbody A outer s H Ek (hr.deeper _) [] _ (vs.map some) H Q I ⟨ι,S,ds.map some,rep,tJ rd,c⟩) (fun u s' hq=>?_) fun e s' hq=>hq
 obtain⟨v,H',J,r,q⟩:=hq
 exact⟨v,H',J.os,J.bare,J.base,J.hok,r,q⟩
end
theorem RelE.unset{K:PySem.W.Frag}{ι:List Addr}{H:Hp}:∀{ρ:S3.az} {σ:L2.St} (i:Nat),RelE K ι H ρ σ->RelE K ι H (ρ.set i none) (σ.set i none)
 |_,_,_,.nil=>.nil
 |_,_,0,.cons _ t=>.cons (fun d' z=>by cases z) t
 |_,_,i+1,.cons q t=>.cons q (RelE.unset i t)
def Ap(jn jy:Nat)(c:M D)(ρ:S3.az):M Out:=fun S=>match c S with
 |some (.ok _,S')=>some (.ok (.nx ρ),S')
 |some (.ex (.exc n ds),S')=>if n∈aS then some (.ok (.nx (((ρ.set jn (some (.exc n ds))).set jy (some (.exc n ds))).set jn none)),S')else none
 |_=>none
open Classical in
def tK(i jn jy:Nat)(f:D)(c:M D):cq:=fun ρ=>if ρ[i]? =some (some f)then Ap jn jy c ρ else M.fail
section
variable {X:Cx}{E:XD}{k i jn jy:Nat}{a c':Addr}{ql:Str}{ds:List D}{vs:List V}{m:TM}{x n y:Str}{p cpos epos np p1 p2 p3 hpos tpos:Pos}
theorem EK(hst:X.stack=X.env::X.outer)(hfm:X.env.frame=some X.env.locals)(L:LamOk X.prog X.w X.K X.mg X.base k a (Gw X.K c' ql ds vs m))(hr:Room k X.A)(hN:X.N.Nodup)(eK:fu X.K=true)(G:Mod X.K X.mg X.base)(hi:X.N[i]? =some x)(hv:yK X.env.scope x)
  (hjn:X.N[jn]? =some n) (hjy:X.N[jy]? =some y) (hln:X.env.scope.names.lookup n=some .local) (hly:X.env.scope.names.lookup y=some .local) (hg:Gl X "WebError")
  (hd:(x==("__debug__":Str))=false:=by decide) (hcd:(x==("__classdict__":Str))=false:=by decide) (hdn:(n==("__debug__":Str))=false:=by decide) (hcdn:(n==("__classdict__":Str))=false:=by decide)
  (hsw:swapsWith (.Call (.Name x p) [] [] cpos) none epos.line X.env=pure false:=by rfl) (hsw2:swapsWith (.Name n p2) (some (.Name y p1)) p3.line X.env=pure false:=by rfl):
  SS X E (.Try [.Expr (.Call (.Name x p) [] [] cpos) epos] [.ExceptHandler (some (.Name "WebError" np)) (some n) [.Assign [.Name y p1] (.Name n p2) p3] hpos] [] [] tpos) (tK i jn jy (.fn a c' ql ds vs) (m (ds.map some))):=by
 obtain⟨CW,EW⟩:=jo eK (show("WebError":Str)∈aS from .head _)
 refine PS.imp (yb hst hfm L hr hN hi hv hjn hjy hln hly hg (Jz G.kin G.glob EW.ns) hd hcd (by decide) hdn hcdn hsw hsw2) fun T σ H h=>?_
 obtain⟨ι,S,ρ,rep,re,r,S',e,q⟩:=h
 have e:tK i jn jy (.fn a c' ql ds vs) (m (ds.map some)) ρ S=some (r,S'):=e
 unfold tK at e
 by_cases hρ:ρ[i]? =some (some (.fn a c' ql ds vs))
 case neg=>rw[if_neg hρ]at e;cases e
 rw[if_pos hρ]at e
 unfold Ap at e
 obtain⟨v,e1,rv⟩:=re.get hρ
 cases rv with
 | fn hc' rds=>
  refine⟨e1,ι,S,rep,hc',rds,?_⟩
  cases z:m (ds.map some) S with
  |none=>rw[z]at e;cases e
  | some pr=>
   obtain⟨r1,S1⟩:=pr
   rw[z]at e
   cases r1 with
   |ok d=>
    cases e
    exact⟨_,_,z,fun ι1 H1 x1 rep1 v' _=>q ι1 H1 x1 rep1 σ (re.later rep x1)⟩
   | ex xd=>
    cases xd with
    | exc nm es=>
     dsimp only at e
     split at e
     case isFalse=>cases e
     case isTrue hnm=>
     cases e
     refine⟨_,_,z,fun ι1 H1 x1 rep1 cls od rx=>?_⟩
     obtain⟨n2,ds2,C,e2,hns,rfl,hdd⟩:=rx
     cases e2
     obtain⟨C2,EA⟩:=jo eK hnm
     have:=EA.ns
     rw[hns]at this
     cases this
     obtain⟨D2,f1,f2,f3⟩:=EA.sub "WebError" (.head _)
     rw[EW.ns]at f1
     cases f1
     refine⟨C,rfl,by rw[f3];simp[cm],fun ea hea=>?_⟩
     have xe:Ext ι1 H1 ι1 (upd H1 ea (.ext (mG C ea od))):=dR hea
     have rn:RelD X.K ι1 (upd H1 ea (.ext (mG C ea od))) (.exc nm es) (.ref ea):=by
      rcases hdd with⟨rfl,rfl⟩|⟨dx,fs,rfl,g1,g2,g3⟩
      ·exact .exc hns aL
      ·exact .excF hns aL (by rw[aA (aF g1 hea)];exact g1) g2 (g3.later rep1 xe)
     exact q ι1 _ (x1.trans xe) (eV rep1 hea) _ (RelE.unset jn ((((re.later rep x1).later rep1 xe).set rn jn).set rn jy))
    |_=>cases e
end
def vw:List Nat->S3.az->Option (List D)
 |[],_=>some []
 |j::r,ρ=>match ρ[j]? with
  |some (some d)=>(vw r ρ).map (d::·)
  |_=>none
theorem wC{K:PySem.W.Frag}{ι:List Addr}{H:Hp}{ρ:S3.az}{σ:L2.St}(re:RelE K ι H ρ σ):∀{js:List Nat} {ds:List D},vw js ρ=some ds->∃ vs,RelDs K ι H ds vs/\vs.length=js.length/\∀(i j:Nat) (v:V),js[i]? =some j->vs[i]? =some v->σ[j]? =some (some v)
 |[],ds,e=>by
  cases e
  exact⟨[],.nil,rfl,fun i j v h=>by simp at h⟩
 | j ::r,ds,e=>by
  unfold vw at e
  cases q:ρ[j]? with
  |none=>rw[q]at e;cases e
  | some o=>
   cases o with
   |none=>rw[q]at e;cases e
   | some d=>
    rw[q]at e
    cases q2:vw r ρ with
    |none=>rw[q2]at e;cases e
    |some es=>
     rw[q2]at e
     cases e
     obtain⟨v,h1,h2⟩:=re.get q
     obtain⟨vs,g1,g2,g3⟩:=wC re q2
     refine⟨v::vs,.cons h2 g1,by simp[g2],fun i j' v' e1 e2=>?_⟩
     cases i with
     |zero=>simp at e1 e2;subst e1 e2;exact h1
     |succ i=>exact g3 i j' v' (by simpa using e1) (by simpa using e2)
structure LamScope(X:Cx)(scope:Scope)(N3:List Str)(js:List Nat):Prop where
 kind:scope.kind= .function
 nocell:∀ y∈scope.names,y.2≠ .cell
 co:scope.isCoroutine=false
 gen:scope.isGenerator=false
 free:∀ y∈scope.names,y.2= .free->X.env.kindOf y.1=some .cell\/X.env.kindOf y.1=some .free
 len:js.length=N3.length
 ix:∀(i:Nat) (x:Str) (j:Nat),N3[i]? =some x->js[i]? =some j->X.N[j]? =some x/\scope.names.lookup x=some .free
def Gx(fs:Scope)(N:List Str)(scope:Scope)(N3:List Str)(js:List Nat):Bool:=
 (scope.kind== .function) && scope.names.all (fun y=>y.2 != .cell) && !scope.isCoroutine && !scope.isGenerator &&
  scope.names.all (fun y=>y.2 != .free||(fs.names.lookup y.1==some .cell||fs.names.lookup y.1==some .free)) && (js.length==N3.length) &&
  (N3.zip js).all (fun p=>N[p.2]? ==some p.1 && scope.names.lookup p.1==some .free)
theorem EL{X:Cx}{scope:Scope}{N3:List Str}{js:List Nat}(fs:Scope)(N:List Str)(he:∀ x,X.env.kindOf x=fs.names.lookup x)(hN:X.N=N)(h:Gx fs N scope N3 js=true):LamScope X scope N3 js:=by
 unfold Gx at h
 simp only[Bool.and_eq_true,List.all_eq_true,beq_iff_eq,bne_iff_ne,Bool.or_eq_true,Bool.not_eq_true']at h
 obtain⟨⟨⟨⟨⟨⟨h1,h2⟩,h3⟩,h4⟩,h5⟩,h6⟩,h7⟩:=h
 refine⟨h1,h2,h3,h4,fun y hy e=>?_,h6,fun i x j e1 e2=>?_⟩
 ·rw[he]
  exact(h5 y hy).resolve_left fun z=>z e
 ·have hz:(N3.zip js)[i]? =some (x,j):=Lh.mpr ⟨e1,e2⟩
  have:=h7 _ (JM hz)
  rw[hN]
  exact this
def Aq(K:PySem.W.Frag)(R:D->M D->List D->M D)(a c':Addr)(ql:Str)(ds:List D)(vs:List V)(m:TM):Sp:=fun us H Q _=>
 ∃ ι S rest es,us= .ref a::rest/\Rep K ι H S/\H c'=some (.ext (pA ql c'))/\RelDs K ι H ds vs/\RelDs K ι H es rest/\cont K bZ (R (.fn a c' ql ds vs) (m (ds.map some)) es) ι S H (ku K Q)
structure RefX(P:Program)(w:World)(K:PySem.W.Frag)(mg:Str->Option Value)(k k0:Nat)(x:Str)(ps:List Str)(R:D->M D->List D->M D):Prop where
 ex:∃ fr fd,mg x=some (.ref fr)/\PySem.W.keepIn K (.ref fr)=true/\Binds K fd ps []/\∀ base,Mod K mg base->∀ a c' ql ds vs m,LamOk P w K mg base k0 a (Gw K c' ql ds vs m)->FnOk P w K mg base (jT P w) k fr fd ps (Aq K R a c' ql ds vs m)
abbrev rE(js:List Nat)(ms:az->M (List D))(m:TM)(R:M D->List D->M D):TM:=fun ρ=>match vw js ρ with
 |some ds=>(do let es<-ms ρ;R (m (ds.map some)) es)
 |none=>M.fail
theorem jY{h base base2:Heap}:∀{l:List Env},h.FunFrames base l->(∀ b∈ja l,base2.get? b=none)->h.FunFrames base2 l
 |[],_,_=>trivial
 |env::rest,⟨hk,⟨L,o,hf,_,ho,hd⟩,hr⟩,hn=>by
  rw[tD rest L env hf]at hn
  exact⟨hk,⟨L,o,hf,hn L (.head _),ho,hd⟩,jY hr fun b hb=>hn b (.tail _ hb)⟩
abbrev jr(X:Cx)(H:Hp)(h:Heap):Heap:=PySem.W.hideAll (jR h H) (ja X.stack)
theorem kg{X:Cx}{H:Hp}{h:Heap}{b:Addr}{o:Obj}(e:h.get? b=some o)(n:H b=none)(hf:b ∉ ja X.stack):(jr X H h).get? b=some o:=PySem.W.hideAll_get _ (ky e n) hf
section
variable {X:Cx}{pins:List (Addr×Obj)}{σ:L2.St}{H:Hp}{s:Shared}
theorem kU(I:L2.Inv X pins σ H s):∀ b o,X.base.get? b=some o->(jr X H s.heap).get? b=some o:=fun b o e=>by
 obtain⟨h1,h2⟩:=I.bs b o e
 refine kg h1 h2 fun z=>?_
 have:=(I.stack.mem z).1
 rw[e]at this;cases this
theorem vx(I:L2.Inv X pins σ H s):Mod X.K X.mg (jr X H s.heap):=
 ⟨I.mod.kin.keeps (kU I),I.mod.glob.keeps (kU I),let ⟨mb,h1,h2⟩:=I.mod.blt;⟨mb,h1.keeps (kU I),h2⟩,I.mod.nolimit.keeps (kU I)⟩
theorem Cm(I:L2.Inv X pins σ H s):L2.az X.prog X.w X.K X.mg (jr X H s.heap) X.A X.stack s H:=
 ⟨I.ok.frames,vx I,fun b o e=>qB (PySem.W.of_hideAll _ e),by rw[PySem.W.hideAll_size,lu];exact Jj _,jY I.stack fun b hb=>PySem.W.hideAll_none _ hb,I.stkFree,I.hok,I.bare⟩
theorem wD(I:L2.Inv X pins σ H s)(hfn:∀ x,X.fn x=true){x:Str}{c:Addr}{v:Option Value}(e:X.env.cells.lookup x=some c)(h:s.heap.IsCell c v):(jr X H s.heap).IsCell c v:=by
 obtain⟨o,h1,h2⟩:=h
 refine⟨o,kg h1 (I.freeC x c e) fun z=>?_,h2⟩
 rcases JC.mp (I.stkSub c z)with z|z
 ·exact I.cne x c e z
 ·obtain⟨_,ob,q,_⟩:=I.ok.funs.mem z
  exact absurd (Jm q) (M5.mpr (I.ok.cab x c (hfn x) e))
end
section
variable {X:Cx}{x xl ql:Str}{k k0:Nat}{ps N3:List Str}{js:List Nat}{R:D->M D->List D->M D}{R':M D->List D->M D}{params:Arguments}{body:Expr}{scope:Scope}{lpos p pos:Pos}{es:List Expr}{ms:az->M (List D)}{m:TM}{c P:Addr}
theorem vy(d:RefX X.prog X.w X.K X.mg k (k0+1) x ps R)(hR:∀ f c es,R f c es=R' c es)(hr:Room k X.A)(hfn:∀ x,X.fn x=true)(hxl:xl∈bS)(ht:PySem.W.tabIn X.K xl=some (c,P))(hcode:X.env.code= .ref c)(hq:X.env.qual++"<lambda>"=ql)(hql:ql=xl++".<locals>.<lambda>")
  (B:BaseL X.K X.mg X.base) (TI:rC X.K) (hdef:defaultsOf params X.env=([],[])) (ls:LamScope X scope N3 js) (ha:SA X bZ es ms)
  (hbind:∀(c':Addr) (cl:List (Str×Addr)) (pm ctv:Value),bindArgs (PySem.W.kla_fn "<lambda>" ql params body scope cl pm (.ref c') ctv) ⟨[],[]⟩=pure [])
  (hlam:∀(base:Heap),Mod X.K X.mg base->∀(f c':Addr) (cl:List (Str×Addr)) (A:Around) (outer:List Env) (s:Shared) (H:Hp) (Ek:XK),Room k0 (A.deeper (jq ql scope f c' cl s))->SE (tI X.prog X.w X.K X.mg base N3 ql scope f c' cl A outer s H Ek) (tE X.K Ek) body m)
  (hg:Gl X x:=by rfl) (hdb:(x==("__debug__":Str))=false:=by decide)
  (he:starEach (.Lambda params body scope lpos::es) X.env=(false,eval (.Lambda params body scope lpos) X.env)::starEach es X.env:=by rfl) (hpl:(backTo pos (starEach es X.env)).any (·.1)=false:=by rfl):
  SE X bZ (.Call (.Name x p) (.Lambda params body scope lpos::es) [] pos) (rE js ms m R'):=by
 intro pins s σ H Q I h
 obtain⟨ι,S,ρ,rep,re,cc⟩:=h
 obtain⟨fr,fd,hm,hk,hb,F⟩:=d.ex
 have cc:cont X.K bZ (rE js ms m R' ρ) ι S H (ku X.K Q):=cc
 unfold rE at cc
 cases hcap:vw js ρ with
 |none=>rw[hcap]at cc;exact(ag cc).elim
 |some ds=>
 rw[hcap]at cc
 dsimp only at cc
 obtain⟨vs,rds,hvl,hvs⟩:=wC re hcap
 have hhas:∀ y∈scope.names,y.2= .free->∃ a,X.env.cells.lookup y.1=some a:=fun y hy e=>I.ok.has y.1 (ls.free y hy e)
 refine K5 (jC I hg hm ?_ hdb)
 refine PySem.W.callWith_K (h₀:=X.base) I.ok.mod.kin hk (spliced_more (EG hxl ht hcode hq hql B TI (iz scope X.env hhas) hdef I rep.tab fun f c' ctv pm H1 s1 I1 hf1 ho1 hn1 hc1 hsame hnew hT=>?_) he) he hpl
 have x1:Ext ι H ι H1:=⟨⟨[],by simp⟩,fun a o e n t=>⟨hsame a o e t,n⟩⟩
 have rep1:Rep X.K ι H1 S:=⟨rep.nd,rep.len,fun kk a xs e1 e2=>let ⟨ws,g1,g2⟩:=rep.get kk a xs e1 e2;⟨ws,hsame _ _ g1 (by intro _ z;cases z),g2.later rep x1⟩,hT⟩
 have I1p:L2.Inv X ((f,PySem.W.kla_obj "<lambda>" ql params body scope (jc X.env.cells scope.names []) pm c' ctv)::pins) σ H1 s1:=I1.pins_of fun q hq'=>by
  rcases JC.mp hq' with rfl|hq'
  ·exact⟨ho1,hn1,Ne.symm (Jv (Jx I.lt hf1)),I.nofs hf1,fun v z=>by cases z⟩
  ·exact I1.pin q (JA _ hq')
 refine df (ha pos _ s1 σ H1 (fun vs2 H2=>∃ ι2 S2 ds2,Ext ι H1 ι2 H2/\Rep X.K ι2 H2 S2/\RelDs X.K ι2 H2 ds2 vs2/\cont X.K bZ (R' (m (ds.map some)) ds2) ι2 S2 H2 (ku X.K Q)) I1p ⟨ι,S,ρ,rep1,re.later rep x1,ak (ah (eN cc x1)) fun ds2 ι2 S2 H2 e2 rep2 c2 vs2 r2=>⟨ι2,S2,ds2,e2,rep2,r2,c2⟩⟩) fun us s2 hq2=>?_
 obtain⟨vs2,H2,I2p,rv,ι2,S2,ds2,x2,rep2,r2,c2⟩:=hq2
 have I2:L2.Inv X pins σ H2 s2:=I2p.pins_of fun q hq'=>I2p.pin q (JA _ (.tail _ hq'))
 refine⟨I2.kIn,?_⟩
 show wpAny _ _ (call (.ref fr) (.ref f::us)) _ _ _
 obtain⟨po,pn,pl,pf,_⟩:=I2p.pin (f,_) (JA _ (.head _))
 have hc2:H2 c'=some (.ext (pA ql c')):=(x2.oth c' _ hc1 (rep1.notIn hc1 (by intro _ z;cases z)) (by intro _ z;cases z)).1
 have nf:f ∉ ja X.stack:=fun z=>by
  rcases JC.mp (I2.stkSub f z)with z|z
  ·exact pl z
  ·exact pf z
 have hcl:=qM (cells:=X.env.cells) scope.names [] hhas (fun _ z=>nomatch z)
 have cl_lk:∀ y a,(jc X.env.cells scope.names []).lookup y=some a->X.env.cells.lookup y=some a:=fun y a e=>hcl _ (lookup_mem e)
 have cp:Caps (jr X H2 s2.heap) scope (jc X.env.cells scope.names []) N3 vs:=by
  refine⟨ls.kind,ls.nocell,ls.co,ls.gen,fun y z a e1 e2=>I.ok.inj y z a (cl_lk y a e1) (cl_lk z a e2),fun y e=>mem_lookup (jd scope.names [] (.inl (bj e))),fun y a e=>?_,by rw[hvl];exact ls.len,fun i y v e1 e2=>?_⟩
  ·obtain⟨v,z⟩:=I2.cell y a (cl_lk y a e)
   exact⟨v,wD I2 hfn (cl_lk y a e) z⟩
  ·have hlt:i<js.length:=by rw[<-hvl];exact(Jn.mp e2).1
   obtain⟨j,hj⟩:∃ j,js[i]? =some j:=⟨_,Jk hlt⟩
   obtain⟨g1,g2⟩:=ls.ix i y j e1 hj
   have hv:=hvs i j v hj e2
   have hkf:=ls.free (y,.free) (bj g2) rfl
   have hvis:yK X.env.scope y:=by
    rcases hkf with z|z
    ·exact .inr (.inl z)
    ·exact .inr (.inr z)
   obtain⟨mm,hnm,hl⟩:=I2.loc
   obtain⟨u,ru,lk⟩:=hl j y v g1 hv hvis
   refine⟨g2,?_⟩
   rcases lk with⟨z,_⟩|⟨_,a,ea,hca⟩
   ·have z':X.env.kindOf y=some .local:=z
    rcases hkf with w'|w'
    ·have w2:X.env.kindOf y=some .cell:=w'
     rw[z']at w2;cases w2
    ·have w2:X.env.kindOf y=some .free:=w'
     rw[z']at w2;cases w2
   ·obtain⟨a2,ha2⟩:=mem_lookup (jd (cells:=X.env.cells) scope.names [] (.inl (bj g2)))
    have:=cl_lk y a2 ha2
    rw[ea]at this
    cases this
    exact⟨a,u,ha2,ru,wD I2 hfn ea hca⟩
 have LO:LamOk X.prog X.w X.K X.mg (jr X H2 s2.heap) (k0+1) f (Gw X.K c' ql ds vs m):=EJ (kg po pn nf) cp (hbind c' _ pm ctv) fun A outer s H Ek hr'=>hlam _ (vx I2) f c' _ A outer s H Ek hr'
 have G:=F (jr X H2 s2.heap) (vx I2) f c' ql ds vs m LO
 have sp:Aq X.K R f c' ql ds vs m (.ref f::vs2) H2 Q E0:=⟨ι2,S2,vs2,ds2,rfl,rep2,hc2,(rds.later rep x1).later rep1 x2,r2,by rw[hR];exact c2⟩
 have hlen:(Value.ref f::us).length=ps.length:=by
  have:=G.len _ _ _ _ sp
  rw[<-this,J0,J0,rv.length]
 refine Lp (KE (G.run X.A X.stack s2 H2 ⟨.ref f::us,[]⟩ (.ref f::us) (.ref f::vs2) Q E0 hr (Cm I2) (by have:=hb s2 (.ref f::us) I2.kIn (by rw[JV];exact hlen);rw[JV]at this;exact this) (.cons rfl rv) sp) fun r s' hq'=>?_)
 cases r with
 |error e=>obtain⟨_,_,_,_,_,_,_,_,_,_,_,_,_,_,_,z⟩:=hq';exact False.elim z
 |ok fl=>
  cases fl with
  |ret u=>exact I2.after hq'
  |next=>exact False.elim hq'
  |brk=>exact False.elim hq'
  |cont=>exact False.elim hq'
end
def jt(K:PySem.W.Frag):List Addr:=bS.filterMap fun y=>(PySem.W.tabIn K y).map (·.2)
theorem yd{K:PySem.W.Frag}{y:Str}{c P:Addr}(hy:y∈bS)(e:PySem.W.tabIn K y=some (c,P)):P∈jt K:=Kw.mpr ⟨y,hy,by rw[e];rfl⟩
theorem tL{K:PySem.W.Frag}{P:Addr}(h:P∈jt K):∃ y c,y∈bS/\PySem.W.tabIn K y=some (c,P):=by
 obtain⟨y,hy,e⟩:=Kw.mp h
 cases q:PySem.W.tabIn K y with
 |none=>rw[q]at e;cases e
 |some p=>rw[q]at e;cases e;exact⟨y,p.1,hy,q⟩
theorem Cn{P:Program}{w:World}{K:PySem.W.Frag}{mg mb:Str->Option Value}{k:Nat}{fa a:Addr}{fd:FuncData}{x:Str}{sp:Sp}{s₁:Shared}{vs:List Value}{ns:List Int}
  (KX:K.In s₁.heap) (nt:PySem.W.noTabs K=true) (hns:s₁.heap.Ns mainGlobals mg) (hb:s₁.heap.Ns builtinsNs mb) (hbb:∀ x:Str,x≠"__name__"->mb x=bootBuiltins x) (hlim:s₁.heap.NoLimit) (hg:s₁.gens= #[])
  (hbm:∃ bm ob,mg "__builtins__"=some (.ref bm)/\bm≠builtinsNs/\s₁.heap.get? bm=some ob/\ob.cls= .type "module"/\ob.dict=some builtinsNs/\ob.data= .plain)
  (htab:∀ y∈bS,∀ c Q,PySem.W.tabIn K y=some (c,Q)->PySem.W.CodeHd s₁.heap c Q/\s₁.heap.get? Q=some (PySem.W.tabObj #[]))
  (ha:s₁.heap.get? a=some {cls:=.type "list",data:=.seq vs.toArray}) (hi:IntsAre vs ns) (hl:ns.length<=sizeLine) (hr:Room k callerA)
  (F:∀ base:Heap,Mod K mg base->BaseL K mg base->FnOk P w K mg base (jT P w) k fa fd [x] sp) (hbind:∀(s:Shared) (u:Value),BindsTo s fd ⟨[u],[]⟩ [(x,u)])
  (hsp:∀ H:Hp,TabsOk K H->Bp K H a (ns.map V.int)->sp [.ref a] H (fun v _=>v= .bl true) fun _ _ _=>False):
  codeAny (model P w) callerA (.call (.ref fa) ⟨[.ref a],[]⟩) (fun r s'=>r= .ok (.ret (.bool true))/\OldK s₁.heap s'.heap/\s'.os=s₁.os/\AllBare s'.gens) s₁:=by
 have rv:=jD hi
 have tabO:∀ Q∈jt K,s₁.heap.get? Q=some (PySem.W.tabObj #[]):=fun Q hQ=>let ⟨y,c,hy,e⟩:=tL hQ;(htab y hy c Q e).2
 have aT:a ∉ jt K:=fun z=>by
  have:=tabO a z
  rw[ha]at this;cases this
 let H:Hp:=fun b=>if b∈jt K then some (.tbl #[])else if b=a/\K.lookup a=none then some (.frz {cls:=.type "list",data:=.seq vs.toArray} (.lst (ns.map V.int)))else none
 have hT:∀ b∈jt K,H b=some (.tbl #[]):=fun b z=>if_pos z
 have hA:∀ b,b ∉ jt K->H b=if b=a/\K.lookup a=none then some (.frz {cls:=.type "list",data:=.seq vs.toArray} (.lst (ns.map V.int)))else none:=fun b z=>if_neg z
 have free:∀{b:Addr} {o:Obj},s₁.heap.get? b=some o->o≠PySem.W.tabObj #[]->(o.cls≠ .type "list"\/K.lookup b=some o)->H b=none:=fun{b o} e n1 n2=>by
  have z:b ∉ jt K:=fun z=>by
   have:=tabO b z
   rw[e]at this;exact n1 (JI this)
  rw[hA b z,if_neg]
  rintro⟨rfl,kn⟩
  rcases n2 with n2|n2
  ·rw[ha]at e;cases e;exact n2 rfl
  ·rw[kn]at n2;cases n2
 have noTab:∀{b:Addr} {o:Obj},K.lookup b=some o->o≠PySem.W.tabObj #[]:=fun{b o} e z=>by
  have h2:=JQ.mp nt (b,o) (PySem.W.mem_of_lookupK e)
  subst z
  exact absurd (show false=true from h2) Kx
 have hok:eU P w H s₁.heap:=fun b u e=>by
  by_cases z:b∈jt K
  ·rw[hT b z]at e;cases e
   exact tabO b z
  ·rw[hA b z]at e
   by_cases q:b=a/\K.lookup a=none
   ·rw[if_pos q]at e;cases e
    obtain⟨rfl,_⟩:=q
    exact⟨ha,by rw[Jl];exact hl,vs,_,rv,ha⟩
   ·rw[if_neg q]at e;cases e
 have base_of:∀{b:Addr} {o:Obj},s₁.heap.get? b=some o->o≠PySem.W.tabObj #[]->(o.cls≠ .type "list"\/K.lookup b=some o)->(jR s₁.heap H).get? b=some o:=fun e n1 n2=>ky e (free e n1 n2)
 have nsK:∀{b:Addr} {m:Str->Option Value},s₁.heap.Ns b m->(jR s₁.heap H).Ns b m:=fun{b m} ⟨o,es,ep,e,d,r⟩=>by
  have z:H b=none:=by
   by_cases zt:b∈jt K
   ·have:=tabO b zt
    rw[e]at this;cases this;cases d
   ·rw[hA b zt,if_neg]
    rintro⟨rfl,_⟩
    rw[ha]at e;cases e;cases d
  exact⟨o,es,ep,ky e z,d,r⟩
 have hKb:K.In (jR s₁.heap H):=fun b o e=>base_of (KX b o e) (noTab e) (.inr e)
 have hM:Mod K mg (jR s₁.heap H):=⟨hKb,nsK hns,⟨mb,nsK hb,hbb⟩,let ⟨mc,h1,h2⟩:=hlim;⟨mc,nsK h1,h2⟩⟩
 have hB:BaseL K mg (jR s₁.heap H):=by
  refine⟨?_,fun y hy c Q e=>?_⟩
  ·obtain⟨bm,ob,b1,b2,b3,b4,b5,b6⟩:=hbm
   exact⟨bm,ob,b1,b2,base_of b3 (fun z=>by rw[z]at b4;cases b4) (.inl (by rw[b4];decide)),b4,b5,b6⟩
  ·obtain⟨o,v2,file,tf,flags,tg,inF,text,tt,e1,r1,r⟩:=(htab y hy c Q e).1
   exact⟨o,v2,file,tf,flags,tg,inF,text,tt,base_of e1 (fun z=>by rw[z]at r1;cases r1) (.inl (by rw[r1];decide)),r1,r⟩
 have e0:L2.az P w K mg (jR s₁.heap H) callerA [] s₁ H:=⟨rfl,hM,fun b o e=>qB e,Ls (lu _ _),trivial,fun b hb=>absurd (show b∈([]:List Addr)from hb) (by simp),hok,.of_eq hg⟩
 have hTO:TabsOk K H:=fun y hy c Q e=>⟨#[],hT Q (yd hy e),trivial,fun pos cv q=>by cases q⟩
 have hron:Bp K H a (ns.map V.int):=by
  cases hk:K.lookup a with
  |some o=>
   have e:=KX a o hk
   rw[ha]at e
   cases e
   exact .inr ⟨_,vs.toArray,_,hk,rfl,rfl,rfl,by rw[Jt,hi.length];exact hl,by simpa using rv⟩
  |none=>exact .inl ⟨_,by rw[hA a aT,if_pos ⟨rfl,hk⟩]⟩
 refine KE ((F _ hM hB).run callerA [] s₁ H ⟨[.ref a],[]⟩ [.ref a] [.ref a] _ _ hr e0 (hbind s₁ (.ref a)) (.cons rfl .nil) (hsp H hTO hron)) fun r s' h=>?_
 cases r with
 |error e=>obtain⟨_,_,_,_,_,_,_,_,_,_,_,_,_,_,_,z⟩:=h;exact False.elim z
 | ok fl=>
  cases fl with
  |next=>exact False.elim h
  |brk=>exact False.elim h
  |cont=>exact False.elim h
  | ret u=>
   obtain⟨v,H',os,bare,un,hok',r',q⟩:=h
   have q':v= .bl true:=q
   subst q'
   obtain rfl:u=Value.bool true:=r'
   refine⟨rfl,⟨fun b o e=>?_,fun b o e=>un.there b o e (by simp)⟩,os,bare⟩
   by_cases zt:b∈jt K
   ·obtain⟨y,c,hy,et⟩:=tL zt
    obtain⟨hc,hP⟩:=htab y hy c b et
    obtain⟨more,em⟩:=un.tbls b _ (hT b zt)
    have o2:s'.heap.get? b=some {cls:=.none,data:=.fields (#[]++more)}:=hok' b _ em
    rw[hP]at e;cases e
    exact .inr (.inl ⟨(hc.tab hP).isCodeTable,rfl, #[],more,rfl,o2⟩)
   ·by_cases qa:b=a/\K.lookup a=none
    ·have z1:H b=some (.frz {cls:=.type "list",data:=.seq vs.toArray} (.lst (ns.map V.int))):=by rw[hA b zt,if_pos qa]
     obtain⟨e2,_⟩:=hok' b _ (un.frzs b _ _ z1)
     obtain⟨e1,_⟩:=hok b _ z1
     rw[e]at e1;cases e1
     exact .inl e2
    ·exact .inl (un.keep b o e (by rw[hA b zt,if_neg qa]) (by intro z;exact absurd (show b∈([]:List Addr)from z) (by simp)) (by simp))
theorem Ar{l:PySem.W.OpenLaw}{n k:Nat}{q:Program}{loose:List Str}{XP:(Str->Option Value)->Heap->Prop}{YP:World->Heap->Prop}{d:DefRec}{K:Params->PySem.W.Frag}{sp:World->Sp}{x:Str}
  (hn:l.most=some n) (hn2:n<=sizeLine) (hdf:d.params.defaults=[]) (hr:Room k callerA)
  (hY:∀(w:World) (h:Heap),YP w h->(K w.params).In h) (nt:∀ w:World,PySem.W.noTabs (K w.params)=true)
  (htab:∀(w:World) (h:Heap),YP w h->∀ y∈bS,∀ c Q,PySem.W.tabIn (K w.params) y=some (c,Q)->PySem.W.CodeHd h c Q/\h.get? Q=some (PySem.W.tabObj #[]))
  (F:∀(w:World) (mg:Str->Option Value) (fa:Addr) (h:Heap),(K w.params).In h->h.Ns mainGlobals mg->mg d.name=some (.ref fa)->
   ∃ fd:FuncData,(∀(s:Shared) (u:Value),BindsTo s fd ⟨[u],[]⟩ [(x,u)])/\
    ∀ base:Heap,Mod (K w.params) mg base->BaseL (K w.params) mg base->FnOk l.prog w (K w.params) mg base (jT l.prog w) k fa fd [x] (sp w))
  (hsp:∀(w:World) (H:Hp) (a:Addr) (ns:List Int),ns.length<=n->TabsOk (K w.params) H->Bp (K w.params) H a (ns.map V.int)->sp w [.ref a] H (fun v _=>v= .bl true) fun _ _ _=>False):
  PySem.W.WalkO q loose XP YP l.row.toRowW d [] (fun f vs=>PySem.call f vs):=by
 refine Att.attach_call hn hdf fun w s₀ s₁ mg mb fa o pm cd doc a vs ns G Y ho hd hcd hmg hobj hints hlen hg=>?_
 have KX:=hY w _ Y
 obtain⟨fd,hb,hF⟩:=F w mg fa _ KX G.T.g hmg
 refine Cn KX (nt w) G.T.g G.T.b G.T.builtins G.T.nolimit hg G.T.bmain (fun y hy c Q e=>htab w _ Y y hy c Q e) hobj hints (Ju hlen hn2) hr hF hb fun H hO hS=>hsp w H a ns hlen hO hS
def Gy(K:PySem.W.Frag)(ts:List Addr):Bool:=bS.all fun y=>match PySem.W.tabIn K y with
 |some (c,Q)=>PySem.W.codeHdIn K c Q && ts.contains Q
 |none=>true
theorem Ig{K:Params->PySem.W.Frag}{as:List Addr}{e:∀ P,as=(K P).map (·.1)}{ts:List Addr}{w:World}{h:Heap}(ck:Gy (K w.params) ts=true)(Y:(PySem.W.kmHook K as e ts).says w h):
  ∀ y∈bS,∀ c Q,PySem.W.tabIn (K w.params) y=some (c,Q)->PySem.W.CodeHd h c Q/\h.get? Q=some (PySem.W.tabObj #[]):=fun y hy c Q et=>by
 have:=JQ.mp ck y hy
 rw[et]at this
 simp only[Bool.and_eq_true]at this
 exact⟨PySem.W.codeHd_of_K (PySem.W.km_in_of Y) this.1,PySem.W.km_tabs_of Y Q (List.contains_iff_mem.mp this.2)⟩
def Dg(K:PySem.W.Frag):Bool:=bS.all fun x=>bS.all fun y=>match PySem.W.tabIn K x,PySem.W.tabIn K y with
 |some (_,P),some (_,Q)=>P !=Q||x==y
 |_,_=>true
theorem EM{K:PySem.W.Frag}(h:Dg K=true):rC K:=fun x hx y hy c d P e1 e2=>by
 have:=JQ.mp (JQ.mp h x hx) y hy
 rw[e1,e2]at this
 simpa using this
def kX(N n:Nat)(m:cq):List D->M D:=lH N n (fun ρ=>jU (m ρ))
section
variable {P:Program}{w:World}{K:PySem.W.Frag}{mg:Str->Option Value}{base:Heap}
theorem bU{x qual:Str}{st:Stmt}{f:Addr}{fd:FuncData}{N ps:List Str}{k:Nat}{m:cq}{F0:List D->M D}(F:Fun K x qual st f fd)(hm:mg x=some (.ref f))(hb:Binds K fd ps [])(Sc:FnScope N ps (au st))(hF:F0=kX N.length ps.length m)
  (hbody:∀(cdv:Value) (A:Around) (outer:List Env) (s:Shared) (H:Hp) (E:XK),Room k (A.deeper (envOfC qual (au st) s.heap.objs.size f cdv))->
   sH (iZ (jT P w) P w K mg base N qual (au st) f cdv A outer s H E).nox bZ (cU st) m):DefX P w K mg base (k+1) x ps F0:=
 ⟨f,fd,by rw[hF];exact EH F Sc fun cdv A outer s H Ek hr _ _=>tF (rD (hbody cdv A outer s H Ek hr)),hm,F.kp,hb⟩
theorem kY{x qual:Str}{st:Stmt}{f:Addr}{fd:FuncData}{N ps:List Str}{k:Nat}{m:cq}{F0:List D->M D}(F:Fun K x qual st f fd)(hm:mg x=some (.ref f))(hb:Binds K fd ps [])(Sc:FnScope N ps (au st))(hF:F0=lH N.length ps.length m)
  (hbody:∀(cdv:Value) (A:Around) (outer:List Env) (s:Shared) (H:Hp) (E:XK),Room k (A.deeper (envOfC qual (au st) s.heap.objs.size f cdv))->
   sH (iZ (jT P w) P w K mg base N qual (au st) f cdv A outer s H E) (tE K E) (cU st) m):DefX P w K mg base (k+1) x ps F0:=
 ⟨f,fd,by rw[hF];exact EH F Sc fun cdv A outer s H Ek hr _ _=>hbody cdv A outer s H Ek hr,hm,F.kp,hb⟩
theorem Co{x y qual:Str}{f c Pt:Addr}{oc:Value}{od:Option Addr}{osl:Array (Option Value)}{kV doc pm cdv ct dV:Value}{an:Option Addr}{ar:Arguments}{bd:List Stmt}{sc:Scope}(hx:PySem.W.nsIn K mainGlobals x=some (some (.ref f)))
  (lk:K.lookup f=some ⟨oc,od,.func (PySem.W.fnOf y qual ar bd sc dV kV doc pm an cdv ct),osl⟩) (ht:PySem.W.tabIn K x=some (c,Pt)):cdv= .ref c:=by
 unfold PySem.W.tabIn at ht
 rw[hx]at ht
 dsimp only at ht
 rw[lk]at ht
 dsimp only at ht
 cases cdv with
 | ref c2=>
  dsimp only at ht
  split at ht
  ·split at ht
   ·cases ht;rfl
   ·cases ht
  ·cases ht
 |_=>cases ht
theorem EN{x qual:Str}{st:Stmt}{f:Addr}{fd:FuncData}{N ps:List Str}{k:Nat}{m:cq}{F0:List D->M D}{c Pt:Addr}(F:Fun K x qual st f fd)(Sc:FnScope N ps (au st))(hF:F0=kX N.length ps.length m)(hx:PySem.W.nsIn K mainGlobals x=some (some (.ref f)))(ht:PySem.W.tabIn K x=some (c,Pt))
  (hbody:∀(A:Around) (outer:List Env) (s:Shared) (H:Hp) (E:XK),Room k (A.deeper (envOfC qual (au st) s.heap.objs.size f (.ref c)))->
   sH (iZ (jT P w) P w K mg base N qual (au st) f (.ref c) A outer s H E).nox bZ (cU st) m):FnOk P w K mg base (jT P w) (k+1) f fd ps (Al K F0):=by
 rw[hF]
 refine EH F Sc fun cdv A outer s H Ek hr _ hlk=>?_
 obtain⟨oc,od,osl,kV,doc,pm,an,ct,lk⟩:=hlk
 have hc:cdv= .ref c:=Co hx lk ht
 subst hc
 exact tF (rD (hbody A outer s H Ek hr))
theorem EO{x qual:Str}{st:Stmt}{f:Addr}{fd:FuncData}{N ps:List Str}{k k0:Nat}{m:D->M D->cq}{R:D->M D->List D->M D}(F:Fun K x qual st f fd)(hm:mg x=some (.ref f))(hb:Binds K fd ps [])(Sc:FnScope N ps (au st))(hR:R=fun fv c es=>lH N.length ps.length (m fv c) (fv::es))
  (hbody:∀(base:Heap),Mod K mg base->∀(a c':Addr) (ql:Str) (ds:List D) (vs:List V) (mm:TM),LamOk P w K mg base k0 a (Gw K c' ql ds vs mm)->∀(cdv:Value) (A:Around) (outer:List Env) (s:Shared) (H:Hp) (E:XK),Room k (A.deeper (envOfC qual (au st) s.heap.objs.size f cdv))->
   sH (iZ (jT P w) P w K mg base N qual (au st) f cdv A outer s H E).nox bZ (cU st) (m (.fn a c' ql ds vs) (mm (ds.map some)))):RefX P w K mg (k+1) k0 x ps R:=by
 refine⟨f,fd,hm,F.kp,hb,fun base G a c' ql ds vs mm L=>?_⟩
 rw[hR]
 obtain⟨oc,od,kV,doc,pm,an,cdv,ct,osl,rfl,lk,hcd⟩:=F.ex
 have key:∀{us:List V} {H:Hp} {Q:VK} {Ek:XK},Aq K (fun fv c es=>lH N.length ps.length (m fv c) (fv::es)) a c' ql ds vs mm us H Q Ek->us.length=ps.length/\∃ ι S es,Rep K ι H S/\RelDs K ι H es us/\cont K bZ (do let o<-m (.fn a c' ql ds vs) (mm (ds.map some)) (es.map some++List.replicate (N.length - ps.length) none);outD o) ι S H (ku K Q):=by
  rintro us H Q Ek ⟨ι,S,rest,es,rfl,rep,hc',rds,res,c⟩
  have rr:RelDs K ι H (.fn a c' ql ds vs::es) (.ref a::rest):=.cons (.fn hc' rds) res
  unfold lH at c
  dsimp only at c
  by_cases hl:(D.fn a c' ql ds vs::es).length=ps.length
  ·rw[if_pos hl]at c
   exact⟨by rw[<-rr.length];exact hl,ι,S,_,rep,rr,c⟩
  ·rw[if_neg hl]at c
   exact(ag c).elim
 refine y0 lk hcd Sc (fun us H Q Ek h=>(key h).1) fun A outer s H us Q Ek hr h=>⟨_,rD (hbody base G a c' ql ds vs mm L cdv A outer s H Ek hr),?_⟩
 obtain⟨hl,ι,S,es,rep,r,c⟩:=key h
 refine⟨ι,S,_,rep,?_,ak (ah c) fun o ι1 S1 H1 e1 rep1 c1=>?_⟩
 ·have:=RelE.start r (N.length - ps.length)
  unfold L2.start
  rw[hl];exact this
 ·cases o with
  |nx ρ=>exact fun σ' _=>ai c1 .refl rep1 _ .non
  |ret d=>exact ai c1 .refl rep1
  |bk ρ=>exact(ag c1).elim
  |ct ρ=>exact(ag c1).elim
end
end S7
section
namespace S4
open PySem PySem.Spec PyProof.Rows
section
variable {prog:Program}{w:World}{A:Around}{E:Value->Shared->Prop}{s:Shared}
theorem rF{h:Heap}{a:Addr}{val:Nat->Int}(e:h.get? a=some (bp (cK w))):h.SetOf (intKind prog w) a (fun k=>(firstMet val 0).any (· ==k)) (firstMet val 0).length:=
 ⟨_, #[],0,.fresh 0 0 (cK w),e,⟨rfl,rfl,rfl⟩,rfl,(fun x hx=>by cases hx),(fun k=>⟨(fun z=>by cases z),fun⟨x,hx,_⟩=>by cases hx⟩),(by decide),rfl,rfl⟩
set_option maxHeartbeats 8000000 in
theorem Cp{x:Addr}{items:Array Value}(hh:A.handled=none)(r:Src s.heap x items)(val:Nat->Int)(hval:∀(i:Nat) (v:Value),items[i]? =some v->∃ t,v= .int (val i) t)(hn:items.size<=18){Q:Value->Shared->Prop}
  (h:∀(h':Heap) (tk:Nat),h'.SetOf (intKind prog w) s.heap.objs.size (fun k=>(firstMet val items.size).any (· ==k)) (firstMet val items.size).length->(∀ b o,b<s.heap.objs.size->s.heap.get? b=some o->h'.get? b=some o)->
   Q (.ref s.heap.objs.size) {s with heap:=h',toks:=tk}):wpAny (model prog w) A (call (.type "set") [.ref x]) Q E s:=by
 obtain⟨c,tl,hmro⟩:=F.called_set.mro
 have hmade:=F.called_set.made
 have hsub:=F.called_set.sub
 refine Lp (LC ?_)
 show wpAny _ _ (callAny (.type "set") _) _ _ _
 refine Ji ⟨LD _ (by decide+kernel),KR F.entry_type_call ?_⟩
 rw[Around.under_plain (weight_type_call_type "set" [.ref x] []) rfl]
 have h1:=F.called_set.notType
 have h2:=F.called_set.canCreate
 have hct:=F.typeCall_set_1 (.ref x)
 repeat (any_goals (first|assumption|wp_step))
 refine KE (Gq (.ref x) (E:=E) (Q1:=fun obj s1=>obj= .ref s.heap.objs.size/\s1={s with heap:=s.heap.push (bp (cK w))}) ⟨rfl,rfl⟩) fun rr s1 hr=>?_
 cases rr with
 |error e=>exact hr
 | ok fl=>
  cases fl with
  | ret obj=>
   obtain⟨rfl,rfl⟩:=hr
   have hS:(s.heap.push (bp (cK w))).get? s.heap.objs.size=some (bp (cK w)):=Jo _ rfl
   have hT:Shared.TypeIs {s with heap:=s.heap.push (bp (cK w))} (.ref s.heap.objs.size) "set":=⟨_,hS,rfl⟩
   have hli:=F.called_set.init.lookup
   have hbi:=F.called_set.init.bind (.ref s.heap.objs.size)
   repeat (any_goals (first|assumption|wp_step))
   refine KE (Le (R:=wants (fun r s2=>r= .none/\Q (.ref s.heap.objs.size) s2) E) F.called_set.init.plain F.entry_set_init (check_set_init_1 hT ?_)) fun r2 s2 hr2=>?_
   ·have r1:Src (s.heap.push (bp (cK w))) x items:=r.at fun o e=>Jh _ e
    obtain⟨Tx,hTx,hs1,hs2,hd⟩:=tm (s:={s with heap:=s.heap.push (bp (cK w))}) r1
    unfold Builtin.«set.__init__» noKeywords Builtin.Frozenset.updateFrom
    generalize hPI:pyIter=PI
    have hTs:=hT
    unfold bp at hS
    wp_walk
    subst hPI
    refine tj (s:={s with heap:=s.heap.push (bp (cK w))}) r1 fun ob St W hst=>?_
    refine Jg (MY ?_)
    have hxS:x<s.heap.objs.size:=r.lt
    have hsz:(s.heap.push (bp (cK w))).objs.size=s.heap.objs.size+1:=Ka _ _
    have hSf:s.heap.objs.size ∉ [(s.heap.push (bp (cK w))).objs.size,x]:=by
     rw[hsz]
     simp only[List.mem_cons,List.not_mem_nil,or_false,not_or]
     exact⟨Jv (Lk _),KD hxS⟩
    have hh3:A.in1.in1.in1.handled=none:=by simp[hh]
    have up:∀ b o,s.heap.get? b=some o->((s.heap.push (bp (cK w))).push ob).get? b=some o:=fun b o e=>Jh _ (Jh _ e)
    have S0:((s.heap.push (bp (cK w))).push ob).SetOf (intKind prog w) s.heap.objs.size (fun k=>(firstMet val 0).any (· ==k)) (firstMet val 0).length:=rF (Jh _ (Jo _ rfl))
    refine codeAny_set_update_loopS ((W _ hh3).toS) s.heap.objs.size hSf val hval (Mu (Lj hn) (by decide)) (items.size - 0) 0 _ rfl (JE _) hst S0 fun s' hm hS'=>?_
    ·obtain⟨h',g',d',tk',os'⟩:=s'
     have eg:g'=s.gens:=hm.gens
     have ed:d'=s.drawn:=hm.drawn
     have eo:os'=s.os:=hm.os
     subst eg ed eo
     show wpAny _ _ _ _ _ _
     refine Ji ?_
     show wpAny _ _ (ret Value.none) _ _ _
     refine Ji ⟨rfl,h h' tk' hS' fun b o hb e=>?_⟩
     refine hm.heap b o ?_ (up b o e)
     rw[hsz]
     simp only[List.mem_cons,List.not_mem_nil,or_false,not_or]
     exact⟨Jv hb,Jv (Ki hb)⟩
   ·cases r2 with
    |error e=>exact hr2
    | ok fl2=>
     cases fl2 with
     |ret rv=>
      obtain⟨rfl,hq⟩:=hr2
      repeat (any_goals (first|assumption|wp_step))
     |_=>exact hr2.elim
  |_=>exact hr.elim
end
end S4
namespace S3
open PySem PySem.Spec PyProof.Rows L2 S4
section
variable {X:Cx}{E:XD}{e:Expr}{m:TM}{pos:Pos}
def distinct(ns:List Int):List Int:=firstMet (fun i=>ns.getD i 0) ns.length
theorem ye(hc:X.calm=true):cG X (.type "set") (fun xs H Q=>∃(p:Addr) (ns:List Int),xs=[.ref p]/\(iY X.K H p (ns.map V.int)\/j5 X.K H p (ns.map V.int))/\ns.length<=18/\
  ∀ l,H l=none->Q (.ref l) (upd H l (.set (fun k=>(distinct ns).any (· ==k)) (distinct ns).length))):=by
 intro pins s σ H xs us Q I r h
 obtain⟨p,ns,rfl,hp,h18,q⟩:=h
 obtain⟨u,rfl,rx⟩:=vals1 r
 cases (show u=Value.ref p from rx)
 have src:∃ its,aZ (ns.map V.int) its/\Src s.heap p its.toArray:=by
  rcases hp with hp|hp
  ·obtain⟨its,rv,pl,hz⟩:=I.list hp
   exact⟨its,rv,.inl pl.isList⟩
  ·obtain⟨its,rv,pl,hz⟩:=I.tuple hp
   exact⟨its,rv,.inr pl⟩
 obtain⟨its,rv,hs⟩:=src
 have hI:=Mi rv
 have hli:=rv.length
 rw[Jl]at hli
 have hsz:its.toArray.size=ns.length:=by rw[Jt,hli]
 refine Cp (I.ok.hd hc) hs (fun i=>ns.getD i 0) (fun i v hv=>hI.int_at i v (by simpa using hv)) (by omega) fun h' tk hS kp=>?_
 rw[hsz]at hS
 have hf:H s.heap.objs.size=none:=I.hok.fresh (Jj _)
 exact⟨.ref s.heap.objs.size,_,I.laid (o:=.set (fun k=>(distinct ns).any (· ==k)) (distinct ns).length) (fun b o e=>kp b o (Jm e) e) (Jj _) hS,rfl,q _ hf⟩
theorem pH:cG X (.builtin "len") (fun xs H Q=>∃ p S n,xs=[.ref p]/\H p=some (.set S n)/\Q (.int n) H):=by
 intro pins s σ H xs us Q I r h
 obtain⟨p,S,n,rfl,hp,q⟩:=h
 obtain⟨u,rfl,rx⟩:=vals1 r
 cases (show u=Value.ref p from rx)
 obtain⟨o,es,ep,t,ho,hex,hd,_,_,hb,hfit,hn⟩:=(show s.heap.SetOf (intKind X.prog X.w) p S n from I.hok p _ hp)
 have:(es.size:Int)<2 ^ 63:=by
  have:scanBound<=2 ^ 62:=by decide
  omega
 exact call_len_set ho hex hd hfit this ⟨.int n,H,I.tok _,⟨_,by rw[hn]⟩,q⟩
def kZ:List D->M D
 |[.tup ds]=>match intsOf ds with
  |some ns=>if ns.length<=18 then pure (.int (distinct ns).length)else M.fail
  |none=>M.fail
 |_=>M.fail
theorem yf{p q pos2:Pos}(hc:X.calm=true)(hm:X.mg "len"=none)(hm2:X.mg "set"=none)(ha:SE X E e m)(hg:Gl X "len":=by rfl)(hg2:Gl X "set":=by rfl)(hs:starEach [e] X.env=[(false,eval e X.env)]:=by rfl)
  (hs2:starEach [.Call (.Name "set" q) [e] [] pos2] X.env=[(false,eval (.Call (.Name "set" q) [e] [] pos2) X.env)]:=by rfl):
  SE X E (.Call (.Name "len" p) [.Call (.Name "set" q) [e] [] pos2] [] pos) (dI kZ m):=by
 refine PE.imp (gY pH hg hm (by decide+kernel) (dr (gZ (ye hc) hg2 hm2 (by decide+kernel) (dr ha iy hs) (by decide) (by decide) hs rfl) iy hs2) (by decide) (by decide) hs2 rfl) fun σ H Q h=>?_
 obtain⟨ι,S,ρ,rep,re,c⟩:=h
 have c:cont X.K E (do let ds<-(do let x<-m ρ;let xs<-pure [];pure (x::xs));kZ ds) ι S H (ku X.K Q):=c
 simp only[cJ,ao]at c
 refine⟨ι,S,ρ,rep,re,ak (ah c) fun x ι1 S1 H1 e1 rep1 c1 v r=>?_⟩
 cases x with
 | tup ds=>
  obtain⟨a,vs,rfl,h1,h2⟩:=r.tup_inv
  dsimp only[kZ]at c1
  cases z:intsOf ds with
  |none=>rw[z]at c1;exact(ag c1).elim
  | some ns=>
   rw[z]at c1
   dsimp only at c1
   by_cases hl:ns.length<=18
   ·rw[if_pos hl]at c1
    refine⟨a,ns,rfl,.inr ?_,hl,fun l hl'=>⟨l,_,_,rfl,aL,?_⟩⟩
    ·rw[<-eP h2 z];exact j5.of h1
    ·exact ai c1 (dR hl') (eV rep1 hl') _ (.int _)
   ·rw[if_neg hl]at c1;exact(ag c1).elim
 |_=>exact(ag c1).elim
end
end S3
end
namespace S4
open PySem PySem.Spec PyProof.Rows L2 S3
def Cq(l1 l2:Addr):It:=⟨fun i H=>∃ va vb,Rd H l1 (.lst va)/\Rd H l2 (.lst vb)/\i<va.length/\i<vb.length,
 fun i H x H'=>∃ va vb p u v,Rd H l1 (.lst va)/\Rd H l2 (.lst vb)/\H p=none/\va[i]? =some u/\vb[i]? =some v/\x= .ref p/\H'=upd H p (.tup [u,v]),fun i H=>∃ va vb,Rd H l1 (.lst va)/\Rd H l2 (.lst vb)/\(va.length<=i\/vb.length<=i)⟩
theorem yg{P:Program}{w:World}{K:PySem.W.Frag}{elts:List Expr}{x1}{tp:Pos}{z TI TO i1 i2 l1 l2:Addr}(D:ZipApart z TI TO i1 i2 l1 l2):
  Turn P w K (.Tuple elts x1 tp) (Cq l1 l2) [z,TI,TO,i1,i2] z
   (fun i h=>IsZip h z TI TO .none/\IsPair h TI (.ref i1) (.ref i2)/\(∃ a b,IsPair h TO a b)/\h.IsListIter i1 l1 i/\h.IsListIter i2 l2 i) where
 mem:=by simp
 obj:=fun i h st b hb=>by
  obtain⟨hz,hTI,⟨a,c,hTO⟩,⟨o1,e1,c1,d1⟩,⟨o2,e2,c2,d2⟩⟩:=st
  simp only[List.mem_cons,List.not_mem_nil,or_false]at hb
  rcases hb with rfl|rfl|rfl|rfl|rfl
  ·exact⟨_,hz,fun v z=>by cases z⟩
  ·exact⟨_,hTI,fun v z=>by cases z⟩
  ·exact⟨_,hTO,fun v z=>by cases z⟩
  ·exact⟨_,e1,fun v z=>by rw[d1]at z;cases z⟩
  ·exact⟨_,e2,fun v z=>by rw[d2]at z;cases z⟩
 keep:=fun i h h' st k=>by
  obtain⟨hz,hTI,⟨a,c,hTO⟩,h1,h2⟩:=st
  exact⟨k z (by simp) _ hz,k TI (by simp) _ hTI,⟨a,c,k TO (by simp) _ hTO⟩,h1.at fun o e=>k i1 (by simp) o e,h2.at fun o e=>k i2 (by simp) o e⟩
 item:=by
  intro X hP hw hK hc i pins s σ H E I hf st hg
  subst hP hw hK
  obtain⟨hz,hTI,⟨a,c,hTO⟩,h1,h2⟩:=st
  obtain⟨va,vb,hA,hB,ga,gb⟩:=hg
  obtain⟨its1,rv1,p1,_⟩:=I.list (.inl hA)
  obtain⟨its2,rv2,p2,_⟩:=I.list (.inl hB)
  obtain⟨u1,hu1,ru1⟩:=rv1.get (Jk ga)
  obtain⟨u2,hu2,ru2⟩:=rv2.get (Jk gb)
  refine wpAny_pyNext_zip_item D hz hTI hTO h1 h2 p1.isList p2.isList (x:=u1) (y:=u2) (by simpa using hu1) (by simpa using hu2) fun h' a1 a2 a3 a4 a5 a6 hk=>?_
  have hTn:H s.heap.objs.size=none:=I.hok.fresh (Jj _)
  have lt:∀{c o},s.heap.get? c=some o->s.heap.objs.size≠c:=fun e=>KD (Jm e)
  refine⟨_,rfl,Mz a1 fun h'' hz' hs'=>?_⟩
  have hTI':IsPair h'' TI (.ref i1) (.ref i2):=hs'.extBut _ _ D.TIz (hk _ _ D.TIz D.TITO D.TIi1 D.TIi2 hTI)
  have kk:∀ b o,b ∉ [z,TI,TO,i1,i2]->s.heap.get? b=some o->h''.get? b=some o:=fun b o hb e=>by
   simp only[List.mem_cons,List.not_mem_nil,or_false,not_or]at hb
   exact hs'.extBut _ _ hb.1 (hk b o hb.1 hb.2.2.1 hb.2.2.2.1 hb.2.2.2.2 e)
  have T'':IsPair h'' s.heap.objs.size u1 u2:=hs'.extBut _ _ (lt hz) a5
  have I2:L2.Inv X pins σ (upd H s.heap.objs.size (.tup [va[i],vb[i]])) {s with heap:=h'',toks:=s.toks}:=wx (o:=.tup [va[i],vb[i]]) I hf kk (Jj _) ⟨by show 2<=sizeLine;decide,[u1,u2],.cons ru1 (.cons ru2 .nil),_,T'',rfl,_,rfl⟩
  refine⟨.ref s.heap.objs.size,_,I2,rfl,
   ⟨va,vb,_,_,_,hA,hB,hTn,Jk ga,Jk gb,rfl,rfl⟩,⟨hz',hTI',⟨_,_,hs'.extBut _ _ D.TOz a2⟩,a3.at fun o e=>hs'.extBut _ _ D.i1z e,a4.at fun o e=>hs'.extBut _ _ D.i2z e⟩,fun b hb=>?_⟩
  obtain⟨ob,ho,_⟩:∃ ob,s.heap.get? b=some ob/\True:=by
   simp only[List.mem_cons,List.not_mem_nil,or_false]at hb
   rcases hb with rfl|rfl|rfl|rfl|rfl
   ·exact⟨_,hz,trivial⟩
   ·exact⟨_,hTI,trivial⟩
   ·exact⟨_,hTO,trivial⟩
   ·obtain⟨o,e,_⟩:=h1;exact⟨_,e,trivial⟩
   ·obtain⟨o,e,_⟩:=h2;exact⟨_,e,trivial⟩
  rw[aA (Jv (Jm ho))]
  exact(hf b hb).1
 done:=by
  intro X hP hw hK hc i pins s σ H E I hf st hg
  subst hP hw hK
  obtain⟨hz,hTI,⟨a,c,hTO⟩,h1,h2⟩:=st
  obtain⟨va,vb,hA,hB,gs⟩:=hg
  obtain⟨its1,rv1,p1,_⟩:=I.list (.inl hA)
  obtain⟨its2,rv2,p2,_⟩:=I.list (.inl hB)
  have l1':=rv1.length
  have l2':=rv2.length
  refine wpAny_pyNext_zip_end (I.ok.hd hc) D hz hTI hTO h1 h2 p1.isList p2.isList (gs.imp (fun g=>by simp;omega) fun g=>by simp;omega) fun h' hk=>⟨rfl,wu (t':=s.toks) I hf fun b o hb e=>?_⟩
  simp only[List.mem_cons,List.not_mem_nil,or_false,not_or]at hb
  exact hk b o hb.1 hb.2.2.1 hb.2.2.2.1 hb.2.2.2.2 e
 self:=fun _ _ _ _ _ st h=>L9 st.1 h
theorem Cr{X:Cx}{elts:List Expr}{x1}{tp p pos:Pos}{es:List Expr}{e:Expr}{ta:TA}(hg:Gl X "zip")(hm:X.mg "zip"=none)(ha:PA X (e::es) ta)
  (he:starEach (e::es) X.env=(false,eval e X.env)::starEach es X.env:=by rfl) (hpl:(backTo pos (starEach es X.env)).any (·.1)=false:=by rfl):
  PI X (.Tuple elts x1 tp) (.Call (.Name "zip" p) (e::es) [] pos) (fun σ H R=>ta σ H fun xs H1=>(∃ a b va vb,xs=[.ref a,.ref b]/\Rd H1 a (.lst va)/\Rd H1 b (.lst vb)/\R (Cq a b) H1)\/
   (∃ a b va vb,xs=[.ref a,.ref b]/\H1 a=some (.tup va)/\H1 b=some (.tup vb)/\
   R ⟨fun i H=>(yM va vb).go i H/\(H a=some (.tup va)/\H b=some (.tup vb)),(yM va vb).yld,fun i H=>(yM va vb).stop i H/\(H a=some (.tup va)/\H b=some (.tup vb))⟩ H1)):=by
 intro pins s σ H R I h
 refine Call_ (lz I hg hm (show bootBuiltins "zip"=some (.type "zip") by decide+kernel) (KG (df (ha pos pins s σ H _ I h) fun us s1 ⟨vs,H1,I1,r1,q1⟩=>?_) he hpl) (by decide) (by decide))
 have fresh:∀ c∈[s1.heap.objs.size+4,s1.heap.objs.size+2,s1.heap.objs.size+3,s1.heap.objs.size,s1.heap.objs.size+1],s1.heap.objs.size<=c:=fun c hc=>by
  simp only[List.mem_cons,List.not_mem_nil,or_false]at hc
  omega
 rcases q1 with⟨a,b,va,vb,rfl,hA,hB,q⟩|⟨a,b,va,vb,rfl,hA,hB,q⟩
 ·obtain⟨u,w',rfl,ru,rw'⟩:=vals2 r1
  cases (show u=Value.ref a from ru)
  cases (show w'=Value.ref b from rw')
  obtain⟨its1,rv1,p1,_⟩:=I1.list (.inl hA)
  obtain⟨its2,rv2,p2,_⟩:=I1.list (.inl hB)
  have a1:a<s1.heap.objs.size:=by obtain⟨_,e,_⟩:=p1.isList;exact Jm e
  have a2:b<s1.heap.objs.size:=by obtain⟨_,e,_⟩:=p2.isList;exact Jm e
  refine call_zip_2 p1.isList p2.isList fun h' hz hTI hTO hi1 hi2 _ hk=>L9 hz ?_
  exact⟨s1.heap.objs.size+4,_,_,_,H1,rfl,I1.kept (t':=s1.toks) hk,yg (zipApart_new a1 a2),⟨hz,hTI,⟨_,_,hTO⟩,hi1,hi2⟩,fun c hc=>I1.fpOk (fresh c hc) (I1.hok.fresh (fresh c hc)),q⟩
 ·obtain⟨u,w',rfl,ru,rw'⟩:=vals2 r1
  cases (show u=Value.ref a from ru)
  cases (show w'=Value.ref b from rw')
  obtain⟨its1,rv1,p1,_⟩:=I1.tuple (.of hA)
  obtain⟨its2,rv2,p2,_⟩:=I1.tuple (.of hB)
  have a1:a<s1.heap.objs.size:=by obtain⟨_,e,_⟩:=p1;exact Jm e
  have a2:b<s1.heap.objs.size:=by obtain⟨_,e,_⟩:=p2;exact Jm e
  refine xW p1 p2 fun h' hz hTI hTO hi1 hi2 hk=>L9 hz ?_
  exact⟨s1.heap.objs.size+4,_,_,_,H1,rfl,I1.kept (t':=s1.toks) hk,Ad (zipApart_new a1 a2) (fun H=>H a=some (.tup va)/\H b=some (.tup vb)) (fun _=>.rfl),⟨hz,hTI,⟨_,_,hTO⟩,hi1,hi2⟩,fun c hc=>I1.fpOk (fresh c hc) (I1.hok.fresh (fresh c hc)),q⟩
theorem Rd.lst_inj{H:Hp}{a:Addr}{xs ys:List V}(h:Rd H a (.lst xs))(h':Rd H a (.lst ys)):xs=ys:=by
 rcases h with h|⟨o,h⟩<;>rcases h' with h'|⟨o',h'⟩<;>(rw[h]at h';cases h'<;>rfl)
def zL:D->M (List D×Option (Nat×List D))
 | .lst k=>do let xs<-getL k;pure (xs,some (k,xs))
 | .fz xs=>pure (xs,none)
 |_=>M.fail
def ER:Option (Nat×List D)->Option (Nat×List D)->Chk
 |some (k,xs),some (j,ys)=>.two k j xs ys
 |some (k,xs),none=>.two k k xs xs
 |none,some (j,ys)=>.two j j ys ys
 |none,none=>.none
def As:List D->M Iter
 |[.tup xs,.tup ys]=>pure ⟨(xs.zip ys).map fun p=>.tup [p.1,p.2],.none⟩
 |[a,b]=>do let x<-zL a;let y<-zL b;pure ⟨(x.1.zip y.1).map fun p=>.tup [p.1,p.2],ER x.2 y.2⟩
 |_=>M.fail
structure ZOk(K:PySem.W.Frag)(x:List D×Option (Nat×List D))(a:Addr)(ι:List Addr)(H:Hp):Prop where
 ok:∀ ι2 H2 S2,ExtN ι H ι2 H2->Rep K ι2 H2 S2->(∀ k xs,x.2=some (k,xs)->S2[k]? =some xs)->∃ va,Rd H2 a (.lst va)/\RelDs K ι2 H2 x.1 va
theorem Au{K:PySem.W.Frag}{E:XD}{ι:List Addr}{S:aj}{H:Hp}{d:D}{v:V}{α:Type}{f:List D×Option (Nat×List D)->M α}{Q:α->List Addr->aj->Hp->Prop}(rep:Rep K ι H S)(r:RelD K ι H d v)(c:cont K E (zL d>>=f) ι S H Q):
  ∃ a x va,v= .ref a/\Rd H a (.lst va)/\ZOk K x a ι H/\cont K E (f x) ι S H Q:=by
 cases d with
 | lst k=>
  obtain⟨a,rfl,h1⟩:=r.lst_inv
  have c':cont K E (getL k>>=fun xs=>pure (xs,some (k,xs))>>=f) ι S H Q:=by
   rw[<-cJ];exact c
  obtain⟨xs,vs,hS,hv,rv,c2⟩:=aX c' rep h1
  rw[ao]at c2
  refine⟨a,(xs,some (k,xs)),vs,rfl,.inl hv,⟨fun ι2 H2 S2 e rep2 ok=>?_⟩,c2⟩
  obtain⟨va,h2,r2⟩:=rep2.get k a xs (e.at h1) (ok k xs rfl)
  exact⟨va,.inl h2,r2⟩
 |fz xs=>
  obtain⟨a,o,vs,rfl,h1,rv⟩:=r.fz_inv
  refine⟨a,(xs,none),vs,rfl,.inr ⟨o,h1⟩,⟨fun ι2 H2 S2 e rep2 ok=>?_⟩,ai (ah c) .refl rep⟩
  exact⟨vs,.inr ⟨o,(e.oth _ _ h1 (rep.notIn h1 (by intro _ z;cases z)) (by intro _ z;cases z) (by intro _ z;cases z)).1⟩,rv.laterN rep e⟩
 |_=>exact(ag (ah c)).elim
theorem Cs{S:aj}{x y:Option (Nat×List D)}{items:List D}(h:Iter.okS ⟨items,ER x y⟩ S):(∀ k xs,x=some (k,xs)->S[k]? =some xs)/\∀ k xs,y=some (k,xs)->S[k]? =some xs:=by
 match x,y,h with
 |some (k,xs),some (j,ys),h=>exact⟨fun _ _ e=>(by cases e;exact h.1),fun _ _ e=>(by cases e;exact h.2)⟩
 |some (k,xs),none,h=>exact⟨fun _ _ e=>(by cases e;exact h.1),fun _ _ e=>(by cases e)⟩
 |none,some (j,ys),h=>exact⟨fun _ _ e=>(by cases e),fun _ _ e=>(by cases e;exact h.1)⟩
 |none,none,h=>exact⟨fun _ _ e=>(by cases e),fun _ _ e=>(by cases e)⟩
theorem tN{K:PySem.W.Frag}{ι:List Addr}{H:Hp}{a b:Addr}{x y:List D×Option (Nat×List D)}(hx:ZOk K x a ι H)(hy:ZOk K y b ι H):
  jg K ⟨(x.1.zip y.1).map fun p=>.tup [p.1,p.2],ER x.2 y.2⟩ (Cq a b) ι H:=by
 intro ι2 H2 S2 e rep2 ok i
 obtain⟨ok1,ok2⟩:=Cs ok
 obtain⟨va,hA2,rx2⟩:=hx.ok ι2 H2 S2 e rep2 ok1
 obtain⟨vb,hB2,ry2⟩:=hy.ok ι2 H2 S2 e rep2 ok2
 have lx:=rx2.length
 have ly:=ry2.length
 refine⟨fun d hd=>?_,fun hlen=>?_⟩
 ·obtain⟨x',y',h1,h2,rfl⟩:=zip_get hd
  have i1:=(Jn.mp h1).1
  have i2:=(Jn.mp h2).1
  refine⟨⟨va,vb,hA2,hB2,by omega,by omega⟩,?_⟩
  rintro v H3 ⟨va',vb',p,u,v',gA,gB,hp,g1,g2,rfl,rfl⟩
  cases Rd.lst_inj hA2 gA
  cases Rd.lst_inj hB2 gB
  obtain⟨v1,e1,r1⟩:=rx2.get' h1
  obtain⟨v2,e2,r2⟩:=ry2.get' h2
  obtain rfl:v1=u:=JI (e1.symm.trans g1)
  obtain rfl:v2=v':=JI (e2.symm.trans g2)
  have hE:Ext ι2 H2 ι2 (upd H2 p (.tup [v1,v2])):=dR hp
  exact⟨hE,eV rep2 hp,.tup aL (.cons (r1.later rep2 hE) (.cons (r2.later rep2 hE) .nil))⟩
 ·have hl:min x.1.length y.1.length<=i:=by simpa using hlen
  refine⟨va,vb,hA2,hB2,?_⟩
  rcases Nat.le_total x.1.length y.1.length with z|z
  ·exact .inl (by omega)
  ·exact .inr (by omega)
theorem wF{X:Cx}{E:XD}{elts:List Expr}{x1}{tp p pos:Pos}{a b:Expr}{m n:TM}(hm:X.mg "zip"=none)(ha:SE X E a m)(hb:SE X E b n)(hg:Gl X "zip":=by rfl)
  (hs:starEach [a,b] X.env=[(false,eval a X.env),(false,eval b X.env)]:=by rfl) (hs2:starEach [b] X.env=[(false,eval b X.env)]:=by rfl):
  SI X E (.Tuple elts x1 tp) (.Call (.Name "zip" p) [a,b] [] pos) (fun ρ=>do let ds<-(do let x<-m ρ;let xs<-(do let y<-n ρ;let ys<-pure [];pure (y::ys));pure (x::xs));As ds):=by
 intro pins s σ H R I h
 have hor:PI X (.Tuple elts x1 tp) (.Call (.Name "zip" p) [a,b] [] pos) (fun σ H R=>HP X.K E (af m (af n aD)) σ H fun xs H1=>(∃ a b va vb,xs=[.ref a,.ref b]/\Rd H1 a (.lst va)/\Rd H1 b (.lst vb)/\R (Cq a b) H1)\/
   (∃ a b va vb,xs=[.ref a,.ref b]/\H1 a=some (.tup va)/\H1 b=some (.tup vb)/\
   R ⟨fun i H=>(yM va vb).go i H/\(H a=some (.tup va)/\H b=some (.tup vb)),(yM va vb).yld,fun i H=>(yM va vb).stop i H/\(H a=some (.tup va)/\H b=some (.tup vb))⟩ H1)):=
  Cr hg hm (ae ha (ae hb aq (by rw[hs2];rfl)) (by rw[hs,hs2])) (by rw[hs,hs2]) (by rw[hs2];rfl)
 refine hor pins s σ H R I ?_
 obtain⟨ι,S,ρ,rep,re,c⟩:=h
 refine⟨ι,S,ρ,rep,re,ak (ah c) fun ds ι1 S1 H1 e1 rep1 c1 vs r=>?_⟩
 unfold As at c1
 split at c1
 ·next xs ys=>
  obtain⟨v1,ws,rfl,r1,r2⟩:=r.cons_inv
  obtain⟨v2,ws2,rfl,r3,r4⟩:=r2.cons_inv
  cases r4.nil_inv
  obtain⟨pa,va,rfl,hA,rx⟩:=r1.tup_inv
  obtain⟨pb,vb,rfl,hB,ry⟩:=r3.tup_inv
  exact .inr ⟨pa,pb,va,vb,rfl,hA,hB,ai c1 .refl rep1 _ (vm rep1 hA hB rx ry)⟩
 ·next a b _=>
  obtain⟨v1,ws,rfl,r1,r2⟩:=r.cons_inv
  obtain⟨v2,ws2,rfl,r3,r4⟩:=r2.cons_inv
  cases r4.nil_inv
  obtain⟨pa,x,va,rfl,hA,hx,c2⟩:=Au rep1 r1 c1
  obtain⟨pb,y,vb,rfl,hB,hy,c3⟩:=Au rep1 r3 c2
  exact .inl ⟨pa,pb,va,vb,rfl,hA,hB,ai c3 .refl rep1 _ (tN hx hy)⟩
 ·exact(ag c1).elim
abbrev il(m n:TM):az->M Iter:=fun ρ=>do let ds<-af m (af n aD) ρ;As ds
end S4
namespace S3
open PySem PySem.Spec PyProof.Rows L2 S4
def lO(f:Expr->Option D):List Expr->Option (List D)
 |[]=>some []
 |e::es=>match f e,lO f es with
  |some d,some ds=>some (d::ds)
  |_,_=>none
def litE:Nat->Expr->Option D
 |_,.Constant .none _ _=>some .non
 |_,.Constant (.bool b) _ _=>some (.bl b)
 |_,.Constant (.int i) _ _=>some (.int i)
 |_,.Constant (.str x) _ _=>some (.str x)
 |_,.UnaryOp .USub (.Constant (.int i) _ _) _=>some (.int (-i))
 |n+1,.Tuple es _ _=>match lO (litE n) es with
  |some ds=>if ds.length<=100 then some (.tup ds)else none
  |none=>none
 |_,_=>none
section
variable {X:Cx}{E:XD}
theorem SE.mono{e:Expr}{m m':TM}(h:SE X E e m)(k:∀ ρ S r,m' ρ S=some r->m ρ S=some r):SE X E e m':=PE.imp h fun σ H Q q=>by
 obtain⟨ι,S,ρ,rep,re,r,S',e,c⟩:=q
 exact⟨ι,S,ρ,rep,re,r,S',k ρ S _ e,c⟩
theorem Av{n:Nat}{e:Expr}{d:D}(h:litE n e=some d)(es:List Expr)(env:Env):starEach (e::es) env=(false,eval e env)::starEach es env:=by
 cases e with
 |Constant c j p=>exact av
 |UnaryOp o a p=>exact n5
 |Tuple l k p=>exact ba
 |_=>cases n<;>cases h
theorem wG{n:Nat}(ih:∀ e d,litE n e=some d->SE X E e (mK d)):∀{es:List Expr} {ds:List D},lO (litE n) es=some ds->SA X E es (fun _=>pure ds)
 |[],ds,h=>by cases h;exact aq
 | e::es,ds,h=>by
  unfold lO at h
  cases q:litE n e with
  |none=>rw[q]at h;cases h
  | some d=>
   rw[q]at h
   cases q2:lO (litE n) es with
   |none=>rw[q2]at h;cases h
   |some ds'=>
    rw[q2]at h
    cases h
    exact ae (ih e d q) (wG ih q2) (Av q _ _)
theorem ES:∀(n:Nat) (e:Expr) (d:D),litE n e=some d->SE X E e (mK d):=by
 intro n
 induction n with
 |zero=>
  intro e d h
  unfold litE at h
  split at h
  ·cases h;exact lE
  ·cases h;exact fT
  ·cases h;exact aw
  ·cases h;exact lF
  ·cases h;exact vo
  ·next h'=>exact absurd h' (by omega)
  ·cases h
 | succ n ih=>
  intro e d h
  unfold litE at h
  split at h
  ·cases h;exact lE
  ·cases h;exact fT
  ·cases h;exact aw
  ·cases h;exact lF
  ·cases h;exact vo
  ·next m es k p hm=>
   cases hm
   cases q:lO (litE n) es with
   |none=>rw[q]at h;cases h
   | some ds=>
    rw[q]at h
    simp only at h
    split at h
    ·next hl=>
     cases h
     refine(d6 (wG ih q)).mono fun ρ S r hr=>?_
     have e:(do let ds'<-(pure ds:M (List D));bY ds')=(pure (.tup ds):M D):=by
      show bY ds=_
      unfold bY
      rw[if_pos (by unfold lim;omega)]
     rw[e];exact hr
    ·cases h
  ·cases h
theorem cL{e:Expr}{d:D}(n:Nat)(h:litE n e=some d):SE X E e (mK d):=ES n e d h
end
def aM(m:TM)(ms:Ae):Ae:=af m ms
section
variable {X:Cx}{E:XD}
theorem aJ{e:Expr}{es:List Expr}{m:TM}{ms:Ae}(ha:SE X E e m)(hr:SA X E es ms)(hs:starEach (e::es) X.env=(false,eval e X.env)::starEach es X.env):SA X E (e::es) (aM m ms):=ae ha hr hs
theorem gG{l p t n}{env:Env}:swapsWith (.List l p) t n env=pure false:=rfl
theorem dO{a o b p t n}{env:Env}:swapsWith (.BinOp a o b p) t n env=pure false:=rfl
theorem dU{f l k p t n}{env:Env}:swapsWith (.Call f l k p) t n env=pure false:=rfl
theorem iH{a b p t n}{env:Env}:swapsWith (.Subscript a b p) t n env=pure false:=rfl
theorem tO{a b p t n}{env:Env}:swapsWith (.Constant a b p) t n env=pure false:=rfl
theorem Ct{a p t n}{env:Env}:swapsWith (.Name a p) t n env=pure false:=rfl
end
end S3
namespace S7
open PySem PySem.Spec PyProof.Rows L2 S3
theorem k9{a b p}{es:List Expr}{env:Env}:starEach (.Attribute a b p::es) env=(false,eval (.Attribute a b p) env)::starEach es env:=rfl
abbrev yh(m:TM):TM:=fun ρ=>jU (m ρ)
abbrev Dh(m:cq):cq:=fun ρ=>jU (m ρ)
abbrev la:TM:=fun _=>M.fail
abbrev bW(m:TM)(y:Str):TM:=fun ρ=>do let x<-m ρ;tH (fun n=>cm n y) x
abbrev lQ(m:TM):TM:=fun ρ=>do let x<-m ρ;tH (fun _=>true) x
abbrev f7(x:Str)(ms:az->M (List D)):cq:=fun ρ=>do let ds<-ms ρ;if ds.length<=lim then M.raise (.exc x [])else M.fail
end S7
namespace S3
open PySem PySem.Spec PyProof.Rows L2
mutual
def eJ(n:Nat):D->Bool
 | .lst k=>decide (k<n)
 | .tup ds=>de n ds
 | .ro ds=>de n ds
 | .fz ds=>de n ds
 | .fn _ _ _ ds _=>de n ds
 | .exc _ ds=>de n ds
 | .non=>true
 | .bl _=>true
 | .int _=>true
 | .str _=>true
 | .emp=>true
def de(n:Nat):List D->Bool
 |[]=>true
 |d::ds=>eJ n d && de n ds
end
mutual
def gM(n:Nat)(g:Nat->Option (List D)):D->Option D
 | .lst k=>if k<n then some (.lst k)else (g k).map .fz
 | .tup ds=>(fw n g ds).map .tup
 | .ro ds=>(fw n g ds).map .ro
 | .fz ds=>(fw n g ds).map .fz
 | .fn a c q ds vs=>(fw n g ds).map fun es=>.fn a c q es vs
 | .exc x ds=>(fw n g ds).map fun es=>.exc x es
 | .non=>some .non
 | .bl b=>some (.bl b)
 | .int i=>some (.int i)
 | .str x=>some (.str x)
 | .emp=>some .emp
def fw(n:Nat)(g:Nat->Option (List D)):List D->Option (List D)
 |[]=>some []
 |d::ds=>match gM n g d,fw n g ds with
  |some u,some us=>some (u::us)
  |_,_=>none
end
def uw(S:aj)(n:Nat):Nat->Nat->Option (List D)
 |0,_=>none
 |f+1,k=>(S[k]?).bind fun xs=>fw n (uw S n f) xs
def mw(S S':aj):Prop:=∀ k xs,k<S.length->S'[k]? =some xs->S[k]? =some xs\/de S.length xs=true
open Classical in
def gO (m:M D):M D:=fun S=>match m S with
 | some (.ok d,S')=>if S'.length<=S.length then some (.ok d,S')else
   if mw S S' then (match gM S.length (uw S' S.length 60) d with
    |some u=>some (.ok u,S'.take S.length)
    |none=>none)else none
 |r=>r
abbrev bL(m:TM):TM:=fun ρ=>gO (m ρ)
section
variable {K:PySem.W.Frag}{ι ι':List Addr}{H H':Hp}{S S':aj}
mutual
theorem RelD.cl:∀{d:D} {v:V},RelD K ι H d v->eJ ι.length d=true
 |_,_,.non=>rfl
 |_,_,.bl b=>rfl
 |_,_,.int i=>rfl
 |_,_,.str x=>rfl
 |_,_,.tup h hs=>by unfold eJ;exact RelDs.cl hs
 |_,_,.lst h=>by unfold eJ;exact JK (Jn.mp h).1
 |_,_,.ro h hs=>by unfold eJ;exact RelDs.cl hs
 |_,_,.emp h=>rfl
 |_,_,.fn h hs=>by unfold eJ;exact RelDs.cl hs
 |_,_,.exc n h=>rfl
 |_,_,.excF n h h2 hn hs=>by unfold eJ;exact RelDs.cl hs
 |_,_,.fz h hs=>by unfold eJ;exact RelDs.cl hs
theorem RelDs.cl:∀{ds:List D} {vs:List V},RelDs K ι H ds vs->de ι.length ds=true
 |_,_,.nil=>rfl
 |_,_,.cons h hs=>by unfold de;rw[RelD.cl h,RelDs.cl hs];rfl
end
def mx(P:List Addr)(os:Addr->Obj)(H:Hp):Hp:=fun b=>match H b with
 |some (.lst vs)=>if b∈P then some (.frz (os b) (.lst vs))else some (.lst vs)
 |x=>x
theorem Aw{P:List Addr}{os:Addr->Obj}{b:Addr}(h:H b=none):mx P os H b=none:=by unfold mx;rw[h]
theorem bD{P:List Addr}{os:Addr->Obj}{b:Addr}{o:HO}(h:H b=some o)(hn:∀ vs,o≠ .lst vs):mx P os H b=some o:=by
 unfold mx;rw[h]
 cases o with
 |lst vs=>exact absurd rfl (hn vs)
 |_=>rfl
theorem wH{P:List Addr}{os:Addr->Obj}{b:Addr}(h:b ∉ P):mx P os H b=H b:=by
 unfold mx
 split
 ·next q=>rw[if_neg h,q]
 ·rfl
theorem ET{P:List Addr}{os:Addr->Obj}{b:Addr}{vs:List V}(h:b∈P)(e:H b=some (.lst vs)):mx P os H b=some (.frz (os b) (.lst vs)):=by
 unfold mx;rw[e];exact if_pos h
theorem tP(nd:ι.Nodup){n k:Nat}{a:Addr}(h:ι[k]? =some a):a∈ι.drop n↔n<=k:=by
 constructor
 ·intro hm
  obtain⟨j,hj⟩:=K7.mp hm
  rw[Mv]at hj
  have:=ny nd h hj
  omega
 ·intro hk
  refine K7.mpr ⟨k - n,?_⟩
  rw[Mv,show n+(k - n)=k by omega];exact h
mutual
theorem RelD.down{n:Nat}{os:Addr->Obj}:∀{d:D} {v:V},RelD K ι H d v->eJ n d=true->RelD K (ι.take n) (mx (ι.drop n) os H) d v
 |_,_,.non,_=>.non
 |_,_,.bl b,_=>.bl b
 |_,_,.int i,_=>.int i
 |_,_,.str x,_=>.str x
 |_,_,.tup h hs,c=>.tup (bD h (by intro _ z;cases z)) (RelDs.down hs (by unfold eJ at c;exact c))
 |_,_,.lst h,c=>.lst (by unfold eJ at c;rw[LG,if_pos (Kh c)];exact h)
 |_,_,.ro h hs,c=>.ro (h.imp (fun⟨o,h⟩=>⟨o,bD h (by intro _ z;cases z)⟩) fun z=>z) (RelDs.down hs (by unfold eJ at c;exact c))
 |_,_,.emp h,_=>.emp (bD h (by intro _ z;cases z))
 |_,_,.fn h hs,c=>.fn (bD h (by intro _ z;cases z)) (RelDs.down hs (by unfold eJ at c;exact c))
 |_,_,.exc n h,_=>.exc n (bD h (by intro _ z;cases z))
 |_,_,.excF n h h2 hn hs,c=>.excF n (bD h (by intro _ z;cases z)) (bD h2 (by intro _ z;cases z)) hn (RelDs.down hs (by unfold eJ at c;exact c))
 |_,_,.fz h hs,c=>.fz (bD h (by intro _ z;cases z)) (RelDs.down hs (by unfold eJ at c;exact c))
theorem RelDs.down{n:Nat}{os:Addr->Obj}:∀{ds:List D} {vs:List V},RelDs K ι H ds vs->de n ds=true->RelDs K (ι.take n) (mx (ι.drop n) os H) ds vs
 |_,_,.nil,_=>.nil
 |_,_,.cons h hs,c=>by
  unfold de at c
  rw[Kz]at c
  exact .cons (RelD.down h c.1) (RelDs.down hs c.2)
end
theorem iI{α β:Type}{f:α->β}{o:Option α}{b:β}(h:o.map f=some b):∃ a,o=some a/\f a=b:=by
 cases o with
 |none=>cases h
 |some a=>exact⟨a,rfl,JI h⟩
theorem Ax{n:Nat}{g:Nat->Option (List D)}{d:D}{ds us:List D}(h:fw n g (d::ds)=some us):∃ u us',us=u::us'/\gM n g d=some u/\fw n g ds=some us':=by
 unfold fw at h
 split at h
 ·next u us' e1 e2=>cases h;exact⟨u,us',rfl,e1,e2⟩
 ·cases h
mutual
theorem vz{n:Nat}{os:Addr->Obj}{g:Nat->Option (List D)}(hg:∀ k us a,n<=k->g k=some us->ι[k]? =some a->∃ vs,H a=some (.lst vs)/\RelDs K (ι.take n) (mx (ι.drop n) os H) us vs)(nd:ι.Nodup):
  ∀{d:D} {v:V},RelD K ι H d v->∀{u:D},gM n g d=some u->RelD K (ι.take n) (mx (ι.drop n) os H) u v
 |_,_,.non,u,e=>by unfold gM at e;cases e;exact .non
 |_,_,.bl b,u,e=>by unfold gM at e;cases e;exact .bl b
 |_,_,.int i,u,e=>by unfold gM at e;cases e;exact .int i
 |_,_,.str x,u,e=>by unfold gM at e;cases e;exact .str x
 |_,_,.tup h hs,u,e=>by
  unfold gM at e
  obtain⟨es,e1,rfl⟩:=iI e
  exact .tup (bD h (by intro _ z;cases z)) (iJ hg nd hs e1)
 | _,_,@RelD.lst _ _ _ a k h,u,e=>by
  unfold gM at e
  by_cases hk:k<n
  ·rw[if_pos hk]at e;cases e
   exact .lst (by rw[LG,if_pos hk];exact h)
  ·rw[if_neg hk]at e
   obtain⟨us,e1,rfl⟩:=iI e
   obtain⟨vs,h1,h2⟩:=hg k us a (by omega) e1 h
   exact .fz (ET ((tP nd h).mpr (by omega)) h1) h2
 |_,_,.ro h hs,u,e=>by
  unfold gM at e
  obtain⟨es,e1,rfl⟩:=iI e
  exact .ro (h.imp (fun⟨o,h⟩=>⟨o,bD h (by intro _ z;cases z)⟩) fun z=>z) (iJ hg nd hs e1)
 |_,_,.emp h,u,e=>by unfold gM at e;cases e;exact .emp (bD h (by intro _ z;cases z))
 |_,_,.fn h hs,u,e=>by
  unfold gM at e
  obtain⟨es,e1,rfl⟩:=iI e
  exact .fn (bD h (by intro _ z;cases z)) (iJ hg nd hs e1)
 |_,_,.exc x h,u,e=>by
  unfold gM at e
  obtain⟨es,e1,rfl⟩:=iI e
  unfold fw at e1;cases e1
  exact .exc x (bD h (by intro _ z;cases z))
 |_,_,.excF x h h2 hn hs,u,e=>by
  unfold gM at e
  obtain⟨es,e1,rfl⟩:=iI e
  exact .excF x (bD h (by intro _ z;cases z)) (bD h2 (by intro _ z;cases z)) hn (iJ hg nd hs e1)
 |_,_,.fz h hs,u,e=>by
  unfold gM at e
  obtain⟨es,e1,rfl⟩:=iI e
  exact .fz (bD h (by intro _ z;cases z)) (iJ hg nd hs e1)
theorem iJ{n:Nat}{os:Addr->Obj}{g:Nat->Option (List D)}(hg:∀ k us a,n<=k->g k=some us->ι[k]? =some a->∃ vs,H a=some (.lst vs)/\RelDs K (ι.take n) (mx (ι.drop n) os H) us vs)(nd:ι.Nodup):
  ∀{ds:List D} {vs:List V},RelDs K ι H ds vs->∀{us:List D},fw n g ds=some us->RelDs K (ι.take n) (mx (ι.drop n) os H) us vs
 |_,_,.nil,us,e=>by unfold fw at e;cases e;exact .nil
 |_,_,.cons h hs,us,e=>by
  obtain⟨u,us',rfl,e1,e2⟩:=Ax e
  exact .cons (vz hg nd h e1) (iJ hg nd hs e2)
end
theorem wI(rep:Rep K ι H S){n:Nat}{os:Addr->Obj}:∀ f k us a,n<=k->uw S n f k=some us->ι[k]? =some a->∃ vs,H a=some (.lst vs)/\RelDs K (ι.take n) (mx (ι.drop n) os H) us vs:=by
 intro f
 induction f with
 |zero=>intro k us a _ e;cases e
 | succ f ih=>
  intro k us a hk e ha
  unfold uw at e
  cases z:S[k]? with
  |none=>rw[z]at e;cases e
  |some xs=>
   rw[z]at e
   obtain⟨vs,h1,h2⟩:=rep.get k a xs ha z
   exact⟨vs,h1,iJ (ih) rep.nd h2 e⟩
theorem tQ(rep:Rep K ι H S)(x:Ext ι H ι' H')(rep':Rep K ι' H' S')(kp:mw S S')(os:Addr->Obj):
  Ext ι H ι (mx (ι'.drop ι.length) os H')/\Rep K ι (mx (ι'.drop ι.length) os H') (S'.take ι.length):=by
 obtain⟨more,rfl⟩:=id x.ids
 have ht:(ι++more).take ι.length=ι:=by simp
 refine⟨⟨⟨[],by simp⟩,fun a o h n t=>?_⟩,⟨rep.nd,?_,fun k a xs e1 e2=>?_,rep'.tab.mono fun a o h n=>bD h n⟩⟩
 ·obtain⟨h1,h2⟩:=x.oth a o h n t
  rw[wH (fun z=>h2 (List.mem_of_mem_drop z))]
  exact⟨h1,n⟩
 ·have:=rep'.len
  rw[KY, <-this,Js];omega
 ·have hk:k<ι.length:=(Jn.mp e1).1
  rw[LG,if_pos hk]at e2
  have e1':(ι++more)[k]? =some a:=by rw[Jp hk];exact e1
  obtain⟨vs,h1,h2⟩:=rep'.get k a xs e1' e2
  refine⟨vs,?_,?_⟩
  ·rw[wH (fun z=>by have:=(tP rep'.nd e1').mp z;omega)];exact h1
  ·have hc:de ι.length xs=true:=by
    rcases kp k xs (by rw[<-rep.len];exact hk) e2 with z|z
    ·obtain⟨_,_,h3⟩:=rep.get k a xs e1 z
     exact h3.cl
    ·rw[rep.len];exact z
   have:=RelDs.down (n:=ι.length) (os:=os) h2 hc
   rw[ht]at this;exact this
end
section
variable {X:Cx}{E:XD}{e:Expr}{m:TM}{pins:List (Addr×Obj)}{σ:L2.St}{H:Hp}{s:Shared}
theorem Inv.fz(I:L2.Inv X pins σ H s)(P:List Addr):∃ os,L2.Inv X pins σ (mx P os H) s:=by
 refine⟨fun a=>(s.heap.get? a).getD {cls:=.none,data:=.fields #[]},?_⟩
 have hu:Un X.fs [] H (mx P (fun a=>(s.heap.get? a).getD {cls:=.none,data:=.fields #[]}) H) s.heap s.heap:=
  ⟨fun b o q _ _ _=>q,fun b o q _ _ _=>⟨o.slots,q⟩,fun b o _ n _=>Aw n,fun b o q _=>⟨o,q⟩,fun b xs q=>bD q (by intro _ z;cases z),fun b o u q=>bD q (by intro _ z;cases z),fun b ps q=>⟨#[],by rw[bD q (by intro _ z;cases z)];simp⟩⟩
 refine I.un (t':=s.toks) hu fun b o q=>?_
 have st:∀ u,H b=some u->aY X.prog X.w (mx P (fun a=>(s.heap.get? a).getD {cls:=.none,data:=.fields #[]}) H) s.heap b u:=fun u hu=>
  (I.hok b u hu).stay (fun _ _ _ z=>z) (fun c z=>bD z (by intro _ z;cases z)) fun c xs z=>bD z (by intro _ z;cases z)
 unfold mx at q
 split at q
 ·next vs hb=>
  split at q
  ·cases q
   obtain⟨z,its,n,r,e⟩:=(show aY X.prog X.w H s.heap b (.lst vs)from I.hok b _ hb)
   exact⟨by dsimp only;rw[e];rfl,z,its,n,r,e⟩
  ·cases q;exact st _ hb
 ·exact st _ q
theorem bg (h:SE X E e m):SE X E e (bL m):=by
 intro pins s σ H Q I ht
 obtain⟨ι,S,ρ,rep,re,r,S'',ee,k⟩:=ht
 have ee':gO (m ρ) S=some (r,S''):=ee
 unfold gO at ee'
 cases q:m ρ S with
 |none=>rw[q]at ee';cases ee'
 | some p=>
  obtain⟨r1,S'⟩:=p
  rw[q]at ee'
  cases r1 with
  |ex x=>
   cases ee'
   exact h pins s σ H Q I ⟨ι,S,ρ,rep,re,.ex x,_,q,k⟩
  | ok d=>
   dsimp only at ee'
   by_cases hl:S'.length<=S.length
   ·rw[if_pos hl]at ee'
    cases ee'
    exact h pins s σ H Q I ⟨ι,S,ρ,rep,re,.ok d,_,q,k⟩
   ·rw [if_neg hl]at ee'
    by_cases hk:mw S S'
    ·rw [if_pos hk]at ee'
     cases z:gM S.length (uw S' S.length 60) d with
     |none=>rw[z]at ee';cases ee'
     | some u=>
      rw[z]at ee'
      cases ee'
      refine df (h pins s σ H (fun v H'=>∃ P:List Addr,∀ os,Q v (mx P os H')) I ⟨ι,S,ρ,rep,re,.ok d,S',q,fun ι' H' x rep' v rv=>?_⟩) fun uv s' ⟨v,H',I',rv,P,hq⟩=>?_
      ·refine⟨ι'.drop ι.length,fun os=>?_⟩
       obtain⟨x2,rep2⟩:=tQ rep x rep' hk os
       have rep2':Rep X.K ι (mx (ι'.drop ι.length) os H') (S'.take S.length):=by rw[<-rep.len];exact rep2
       have ht:ι'.take ι.length=ι:=by obtain⟨more,rfl⟩:=x.ids;simp
       have rel:RelD X.K ι (mx (ι'.drop ι.length) os H') u v:=by
        have:=vz (n:=ι.length) (os:=os) (fun k us a=>by rw[rep.len];exact wI rep' 60 k us a) rep'.nd rv (by rw[rep.len];exact z)
        rw[ht]at this;exact this
       exact k ι _ x2 rep2' v rel
      ·obtain⟨os,I2⟩:=Inv.fz I' P
       exact⟨v,_,I2,rv,hq os⟩
    ·rw[if_neg hk]at ee';cases ee'
end
end S3
namespace S4
open PySem PySem.Spec PyProof.Rows L2 S3
section
variable {prog:Program}{w:World}{A:Around}{E:Value->Shared->Prop}{s:Shared}
end
end S4
namespace S3
open PySem PySem.Spec PyProof.Rows L2
section
variable {X:Cx}{E:XD}{a b e c o tg:Expr}{m n l:TM}{pos p2:Pos}{es:List Expr}{ms:az->M (List D)}
theorem range_any{bs:List Bool}:(List.range bs.length).any (fun i=>bs.getD i false)=bs.any id:=by
 induction bs with
 |nil=>rfl
 |cons b bs ih=>
  rw[J0,LQ,M3,List.any_map]
  simp only[List.getD_cons_zero,List.any_cons,id]
  congr 1
theorem yi(hc:X.calm=true):cG X (.builtin "any") (fun xs H Q=>∃(p:Addr) (bs:List Bool),xs=[.ref p]/\iY X.K H p (bs.map V.bl)/\Q (.bl (bs.any id)) H):=by
 intro pins s σ H xs us Q I r h
 obtain⟨p,bs,rfl,hp,q⟩:=h
 obtain⟨u,rfl,rx⟩:=vals1 r
 cases (show u=Value.ref p from rx)
 obtain⟨its,rv,pl,hz⟩:=I.list hp
 have hl:=pl.isList
 refine call_any_walk (LR hl ?_)
 have hlt:p<s.heap.objs.size:=by obtain⟨o,ho,_⟩:=hl;exact Jm ho
 have hlen:=rv.length
 refine⟨s.heap.objs.size,_,_,_,_,_,fun i=>bs.getD i false,rfl,Walks.list (A:=X.A.in1) (by show X.A.handled=none;exact I.ok.hd hc) s.heap.objs.size p (Jv hlt) its.toArray,⟨⟨_,Jo _ rfl,rfl,rfl⟩,hl.push _⟩,?_,fun h' tk kp=>?_⟩
 ·intro i v s' Q' E' hP hQ
  have hP':its[i]? =some v:=by simpa using hP
  have hi:i<its.length:=(Jn.mp hP').1
  have hib:i<bs.length:=by rw[Jl]at hlen;omega
  have:(bs.map V.bl)[i]? =some (.bl bs[i]):=by rw[JB,Jk hib];rfl
  obtain⟨u,hu,ru⟩:=rv.get this
  rw[hP']at hu
  cases hu
  cases (show v=Value.bool bs[i]from ru)
  have:bs.getD i false=bs[i]:=by simp[List.getD,hib]
  dsimp only at hQ
  rw[this]at hQ
  exact Kf hQ
 ·have e1:its.toArray.size=bs.length:=by rw[Jt, <-hlen,Jl]
  rw[e1,range_any]
  refine⟨.bl _,H,I.kept (fun b o e=>kp b o ?_ (Jh _ e)),rfl,q⟩
  have:b≠s.heap.objs.size:=Jv (Jm e)
  simpa using this
def Ay:List D->M D
 |[.lst k]=>do
  let xs<-getL k
  match boolsOf xs with
  |some bs=>pure (.bl (bs.any id))
  |none=>M.fail
 |[.fz xs]=>match boolsOf xs with
  |some bs=>pure (.bl (bs.any id))
  |none=>M.fail
 |_=>M.fail
theorem yj:jV X.K E Ay (fun xs H Q=>∃(p:Addr) (bs:List Bool),xs=[.ref p]/\iY X.K H p (bs.map V.bl)/\Q (.bl (bs.any id)) H):=by
 intro ι S H ds vs Q rep r c
 unfold Ay at c
 split at c
 ·next k=>
  obtain⟨v,ws,rfl,r1,r2⟩:=r.cons_inv
  cases r2.nil_inv
  obtain⟨p,rfl,h1⟩:=r1.lst_inv
  obtain⟨es,us,_,hv,rv,c4⟩:=aX c rep h1
  cases q:boolsOf es with
  |none=>rw[q]at c4;exact(ag c4).elim
  |some bs=>
   rw[q]at c4
   refine⟨p,bs,rfl,.of ?_,ai c4 .refl rep _ (.bl _)⟩
   rw[<-fq rv q];exact hv
 ·next es=>
  obtain⟨v,ws,rfl,r1,r2⟩:=r.cons_inv
  cases r2.nil_inv
  obtain⟨p,o,us,rfl,h1,rv⟩:=r1.fz_inv
  cases q:boolsOf es with
  |none=>rw[q]at c;exact(ag c).elim
  |some bs=>
   rw[q]at c
   refine⟨p,bs,rfl,.inl (.inr ⟨o,?_⟩),ai c .refl rep _ (.bl _)⟩
   rw[<-fq rv q];exact h1
 ·exact(ag c).elim
theorem EU{p:Pos}(hc:X.calm=true)(hm:X.mg "any"=none)(ha:SE X E e m)(hg:Gl X "any":=by rfl)(hs:starEach [e] X.env=[(false,eval e X.env)]:=by rfl):SE X E (.Call (.Name "any" p) [e] [] pos) (dI Ay m):=
 hV (yi hc) yj hg hm (by decide+kernel) (ae ha aq hs) (by decide) (by decide) hs rfl
def Ih:D->M Bool
 | .bl b=>pure b
 | .non=>pure false
 | .int i=>pure (i !=0)
 | .tup xs=>pure (!xs.isEmpty)
 | .fz xs=>pure (!xs.isEmpty)
 | .lst k=>do let xs<-getL k;pure (!xs.isEmpty)
 |_=>M.fail
abbrev bT(m:TM):az->M Bool:=fun ρ=>do let x<-m ρ;Ih x
end
end S3
section
namespace S3
open PySem PySem.Spec PyProof.Rows L2
section
variable {prog:Program}{w:World}{A:Around}{R:Result->Shared->Prop}{s:Shared}
theorem vA{elt:Expr}{c1:Comprehension}{target iter:Expr}{ifs:List Expr}{scope:Scope}{pos:Pos}{it acc:Value}{env:Env}
  (h0:codeAny (model prog w) A (.compLoop (.ListComp elt [c1,⟨target,iter,ifs,0⟩] scope pos) 1 it acc env) R s)
  (h:wpAny (model prog w) A (pyIter it) (fun it' s'=>codeAny (model prog w) A (.compLoop (.ListComp elt [c1,⟨target,iter,ifs,0⟩] scope pos) 1 it' acc env) R s')
   (notedBy (model prog w) A env fun x s'=>R (.error x) s') s):
  codeAny (model prog w) A (.compStart (.ListComp elt [c1,⟨target,iter,ifs,0⟩] scope pos) 1 it acc env) R s:=by
 refine LC ?_
 show wpAny _ _ ((compStart (.ListComp elt [c1,⟨target,iter,ifs,0⟩] scope pos) 1 it acc env).onRaise (fun x=>do noteFrame x env;standAt theWindowsPlace)) _ _ s
 refine wpAny_notedAt ?_
 unfold compStart
 show wpAny _ _ (ask>>=_) _ _ s
 refine Jg (K1 (wpAny_ite ?_))
 split
 ·first
   |exact Jg (Ji (Ji (And.intro rfl h0)))
   |exact Ji (And.intro rfl h0)
 ·first
   |exact Jg (LW (Jg (Kb (Jg (JJ h (fun it' s' h'=>Ji (And.intro rfl h')) fun _ _ x=>x)))))
   |(refine Jg (LW ?_);show wpAny _ _ (standAt iter.pos>>=_) _ _ s;exact Jg (Kb (Jg (JJ h (fun it' s' h'=>Ji (And.intro rfl h')) fun _ _ x=>x))))
end
abbrev Cu:=St->Hp->(St->Hp->Prop)->Prop
def wJ(J:It)(g:TG)(tt:TT)(tb:Cu)(fin:St->Hp->Prop):St->Hp->Prop:=fun σ H=>∃ W:Nat->Nat->St->Hp->Prop,(∃ m,W 0 m σ H)/\∀ i m σc Hc,W i m σc Hc->
  (J.stop i Hc/\fin σc Hc)\/(J.go i Hc/\∃ N:St->Hp->Prop,(∀ σ' H',N σ' H'->∃ m',m'<m/\W (i+1) m' σ' H')/\∀ x H',J.yld i Hc x H'->g x σc H' fun σ2 H2=>tt σ2 H2 fun b H3=>if b=true then tb σ2 H3 N else N σ2 H3)
def Ii(X:Cx)(bd:Sem Unit)(tb:Cu):Prop:=∀(pins:List (Addr×Obj)) (s:Shared) (σ:St) (H:Hp) (N:St->Hp->Prop),Inv X pins σ H s->tb σ H N->∀ E,(∀ v s',X.xe v s'->E v s')->wpAny (model X.prog X.w) X.A bd (fun _ s'=>∃ σ' H',Inv X pins σ' H' s'/\N σ' H') E s
def vB(e:Expr)(d:Nat)(ipos:Pos)(tg:Expr)(ifs:List Expr)(it acc:Value)(env:Env)(bd:Sem Unit):Sem Fin:=do
 standAt ipos
 match<-pyNext it with
 |none=>pure (.done .next)
 | some v=>
  letOwnedTupleGo tg it v
  assign tg env v
  let mut ok:=true
  for c in ifs do
   if ok then ok<-isTrue c env (eval c env)
  if ok then bd
  again (.compLoop e d it acc env)
theorem Gz(elt tg iter tg2 iter2:Expr)(ifs ifs2:List Expr)(scope:Scope)(pos:Pos)(it acc:Value)(env:Env):
  compTurn (.ListComp elt [⟨tg,iter,ifs,0⟩,⟨tg2,iter2,ifs2,0⟩] scope pos) 0 it acc env=vB (.ListComp elt [⟨tg,iter,ifs,0⟩,⟨tg2,iter2,ifs2,0⟩] scope pos) 0 iter.pos tg ifs it acc env
  (do let x<-eval iter2 env;standAt iter2.pos;let x<-foldedSetIterable iter2 env x;let _<-runOwn (.compStart (.ListComp elt [⟨tg,iter,ifs,0⟩,⟨tg2,iter2,ifs2,0⟩] scope pos) 1 (<-holding [x] (pyIter x)) acc env) env):=by
 unfold compTurn vB
 simp
 rfl
section
variable {X:Cx}{pins:List (Addr×Obj)}{σ:St}{H:Hp}{s:Shared}
theorem tR{elt tg:Expr}{gens:List Comprehension}{scope:Scope}{pos:Pos}{d:Nat}{ipos:Pos}{ifs:List Expr}{it:Addr}{fp:List Addr}{tn:Nat->Heap->Prop}{J:It}{acc:Value}{bd:Sem Unit}{g:TG}{tt:TT}{tb:Cu}{fin:St->Hp->Prop}{R:Result->Shared->Prop}
  (hxe:∀ v s',X.xe v s'->False) (hc:X.calm=true) (T:Turn X.prog X.w X.K tg J fp it tn) (hG:PG X tg g) (hT:Bo X ifs tt) (hB:Ii X bd tb)
  (hturn:compTurn (.ListComp elt gens scope pos) d (.ref it) acc X.env=vB (.ListComp elt gens scope pos) d ipos tg ifs (.ref it) acc X.env bd)
  (I:Inv X pins σ H s) (st:tn 0 s.heap) (f:∀ b∈fp,jb X pins H b) (h:wJ J g tt tb fin σ H) (hfin:∀ s' σ' H',Inv X pins σ' H' s'->fin σ' H'->R (.ok .next) s'):
  codeAny (model X.prog X.w) X.A (.compLoop (.ListComp elt gens scope pos) d (.ref it) acc X.env) R s:=by
 obtain⟨W,⟨m0,w0⟩,turn⟩:=h
 have stat:∀{H':Hp},(∀ b∈fp,H' b=none)->∀ b∈fp,jb X pins H' b:=fun hn b hb=>⟨hn b hb,(f b hb).2⟩
 refine codeAny_loop rfl (fun n s'=>∃ i σ' H',Inv X pins σ' H' s'/\tn i s'.heap/\(∀ b∈fp,H' b=none)/\W i n σ' H') ?_ m0 ⟨0,_,_,I,st,fun b hb=>(f b hb).1,w0⟩
 rintro n s4 ⟨i,σ4,H4,I4,st4,fr4,w4⟩
 show wpAny _ X.A ((compTurn (.ListComp elt gens scope pos) d (.ref it) acc X.env).onRaise (fun x=>do noteFrame x X.env;theTreesLotGoes x)) _ _ s4
 refine wpAny_noted ?_
 rw[hturn]
 refine Jg (Kb (Jg ?_))
 rcases turn i n σ4 H4 w4 with⟨stop,qn⟩|⟨go,N,hN,step⟩
 ·refine JJ (T.done X rfl rfl rfl hc i pins s4 σ4 H4 (fun _ _=>False) I4 (stat fr4) st4 stop) (fun r s5 ⟨hr,I5⟩=>?_) fun _ _ z=>z.elim
  subst hr
  exact Ji (hfin s5 σ4 H4 I5 qn)
 ·refine JJ (T.item X rfl rfl rfl hc i pins s4 σ4 H4 (fun _ _=>False) I4 (stat fr4) st4 go) (fun r s5 ⟨u,hr,h5⟩=>?_) fun _ _ z=>z.elim
  subst hr
  refine Jg (JJ h5 (fun _ s6 ⟨x,H6,I6,r6,y6,st6,fr6⟩=>?_) fun _ _ z=>z.elim)
  have I6':=I6.pinned (stat fr6) (T.obj _ _ st6)
  refine Jg (JJ (hG _ s6 σ4 H6 x u _ I6' r6 (step x H6 y6)) (fun _ s7 ⟨σ7,H7,I7,q7⟩=>?_) fun _ _ z=>(hxe _ _ z).elim)
  refine Jg (JJ (hT _ s7 σ7 H7 _ I7 q7) (fun b s8 ⟨H8,I8,q8⟩=>?_) fun _ _ z=>(hxe _ _ z).elim)
  have again:∀{σ9:St} {H9:Hp} {s9:Shared},Inv X (pins++lA fp s6.heap) σ9 H9 s9->N σ9 H9->
    ∃ m,m<n/\∃ i σ' H',Inv X pins σ' H' s9/\tn i s9.heap/\(∀ b∈fp,H' b=none)/\W i m σ' H':=fun{σ9 H9 s9} I9 n9=>by
   obtain⟨m',hm,w9⟩:=hN σ9 H9 n9
   refine⟨m',hm,i+1,σ9,H9,I9.unpinned,T.keep _ _ _ st6 fun b hb o e=>(I9.pin (b,o) (JA _ (JA _ (eL hb e)))).1,fun b hb=>?_,w9⟩
   obtain⟨o,e,d⟩:=T.obj _ _ st6 b hb
   exact(I9.pin (b,o) (JA _ (JA _ (eL hb e)))).2.1
  cases b with
  |false=>exact Ji ⟨rfl,again I8 q8⟩
  |true=>exact Jg (JJ (hB _ s8 σ7 H8 N I8 q8 (fun _ _=>False) fun _ _ z=>(hxe _ _ z).elim) (fun _ s9 ⟨σ9,H9,I9,q9⟩=>Ji ⟨rfl,again I9 q9⟩) fun _ _ z=>z.elim)
def yk(p:Addr)(te:TE):Cu:=fun σ H N=>te σ H fun y H4=>∃ xs,H4 p=some (.lst xs)/\xs.length<sizeLine/\N σ (upd H4 p (.lst (xs++[y])))
theorem Cv{elt:Expr}{te:TE}{p:Addr}(hE:PE X elt te):Ii X (do let _<-call (.builtin "list.append") [.ref p, <-eval elt X.env]) (yk p te):=by
 intro pins s σ H N I h E hx
 refine Jg (JJ (hE _ s σ H _ I h) (fun y s9 ⟨yv,H9,I9,r9,q9⟩=>?_) hx)
 obtain⟨xs,hx',hl,n9⟩:=q9
 refine Jg (JJ (lB (X:=X) _ s9 σ H9 (.ref p) [yv] (.ref p) [y] (fun _ H'=>N σ H') I9 rfl (.cons r9 .nil) ⟨p,xs,yv,rfl,rfl,hx',hl,n9⟩) (fun _ s10 ⟨_,H10,I10,_,q10⟩=>?_) hx)
 exact Ji ⟨σ,H10,I10,q10⟩
def G9(wi:TI)(g:TG)(tt:TT)(tb:Cu):Cu:=fun σ H N=>wi σ H fun J H1=>wJ J g tt tb N σ H1
theorem EV{elt tg iter:Expr}{c1:Comprehension}{ifs:List Expr}{scope:Scope}{pos:Pos}{p:Addr}{wi:TI}{g:TG}{tt:TT}{te:TE}(hxe:∀ v s',X.xe v s'->False)(hc:X.calm=true)(hi:PI X tg iter wi)(hG:PG X tg g)(hT:Bo X ifs tt)(hE:PE X elt te)
  (hs:∀ x,foldedSetIterable iter X.env x=pure x):
  Ii X (do let x<-eval iter X.env;standAt iter.pos;let x<-foldedSetIterable iter X.env x;let _<-runOwn (.compStart (.ListComp elt [c1,⟨tg,iter,ifs,0⟩] scope pos) 1 (<-holding [x] (pyIter x)) (.ref p) X.env) X.env) (G9 wi g tt (yk p te)):=by
 intro pins s σ H N I h E hx
 refine Jg (JJ (hi pins s σ H _ I h) (fun v s1 h1=>?_) hx)
 refine Jg (Kb (Jg (MZ (hs v) (Jg (JX (JJ h1 (fun itv s2 h2=>?_) hx))))))
 obtain⟨it,fp,tn,J,H2,e,I2,T,st2,f2,hW⟩:=h2
 subst e
 have loop:codeAny (model X.prog X.w) X.A (.compLoop (.ListComp elt [c1,⟨tg,iter,ifs,0⟩] scope pos) 1 (.ref it) (.ref p) X.env) (fun r s'=>match r with| .ok f=>wpAny (model X.prog X.w) X.A (pure ()) (fun _ s'=>∃ σ' H',Inv X pins σ' H' s'/\N σ' H') E s'| .error e=>cameBackBy (model X.prog X.w) X.A X.env E e s') s2:=
  tR (ipos:=iter.pos) hxe hc T hG hT (Cv hE) (by rfl) I2 st2 f2 hW fun s' σ' H' I' n'=>Ji ⟨σ',H',I',n'⟩
 exact Jg (wpAny_runOwn (vA loop (T.self _ 0 _ _ _ st2 loop)))
end
end S3
namespace S3
open PySem PySem.Spec PyProof.Rows L2
def Az(wi:TI)(js:List (Option Nat))(g:TG)(tt:TT)(tb:Addr->Cu):TE:=fun σ H Q=>wi σ H fun J H1=>∀ p,H1 p=none->wJ J g tt (tb p) (fun _ H'=>Q (.ref p) H') (mF js σ) (upd H1 p (.lst []))
section
variable {X:Cx}{scope:Scope}{Nc:List Str}{js:List (Option Nat)}{pins:List (Addr×Obj)}{σ:St}{H:Hp}{s:Shared}
theorem AA{elt tg iter tg2 iter2:Expr}{ifs ifs2:List Expr}{pos:Pos}{wi:TI}{g:TG}{tt:TT}{wi2:TI}{g2:TG}{tt2:TT}{te:TE}(c:CompScope X scope Nc js)(hc:X.calm=true)(hi:PI X tg iter wi)
  (hin:∀ C ex s H,PG (aR X scope Nc C ex s H) tg g/\Bo (aR X scope Nc C ex s H) ifs tt/\PI (aR X scope Nc C ex s H) tg2 iter2 wi2/\PG (aR X scope Nc C ex s H) tg2 g2/\Bo (aR X scope Nc C ex s H) ifs2 tt2/\PE (aR X scope Nc C ex s H) elt te)
  (hs:∀ x,foldedSetIterable iter X.env x=pure x:=by intro _;rfl) (hs2:∀ env x,foldedSetIterable iter2 env x=pure x:=by intro _ _;rfl):
  PE X (.ListComp elt [⟨tg,iter,ifs,0⟩,⟨tg2,iter2,ifs2,0⟩] scope pos) (Az wi js g tt fun p=>G9 wi2 g2 tt2 (yk p te)):=by
 intro pins s σ H Q I h
 rw[eval_ListComp]
 refine wpAny_comprehension_free rfl hs (iz scope X.env (c.has I.ok)) c.kind c.loc (df (hi pins s σ H _ I h) fun v s1 h1=>df h1 fun itv s2 h2=>?_)
 obtain⟨it,fp,tn,J,H2,e,I2,T,st2,f2,hW⟩:=h2
 subst e
 refine JZ (pW fun h1 hns1 hsb1 hcs1=>?_)
 dsimp only at hns1 hsb1 hcs1 ⊢
 have hW:=hW s2.heap.objs.size (I2.hok.fresh (Jj _))
 have I3:Inv X pins σ (upd H2 s2.heap.objs.size (.lst [])) {s2 with heap:=s2.heap.push {cls:=.type "list",dict:=none,data:=.seq ([]:List Value).toArray}}:=
  I2.laid (t':=s2.toks) (fun _ _ q=>Jh _ q) (Jj _) ⟨JE _,[],0,.nil,Jo _ rfl⟩
 generalize hS3:({s2 with heap:=s2.heap.push {cls:=.type "list",dict:=none,data:=.seq ([]:List Value).toArray}}:Shared)=s3 at I3
 have e3:s3.heap=s2.heap.push {cls:=.type "list",dict:=none,data:=.seq ([]:List Value).toArray}:=by rw[<-hS3]
 rw[<-e3]at hns1 hsb1 hcs1 ⊢
 generalize hp:s2.heap.objs.size=p at*
 have flt:∀ b∈fp,b<p:=fun b hb=>by
  obtain⟨o,e,_⟩:=T.obj _ _ st2 b hb
  rw[<-hp];exact Jm e
 have fne:∀ b∈fp,b≠p:=fun b hb=>Jv (flt b hb)
 have f3:∀ b∈fp,jb X pins (upd H2 p (.lst [])) b:=fun b hb=>⟨by rw[aA (fne b hb)];exact(f2 b hb).1,(f2 b hb).2⟩
 have hsz3:s3.heap.objs.size=p+1:=by rw[e3,Ka,hp]
 have flt3:∀ b∈fp,b<s3.heap.objs.size:=fun b hb=>by rw[hsz3];exact Ki (flt b hb)
 have keep1:∀ b o,s3.heap.get? b=some o->h1.get? b=some o:=hsb1
 have st1:tn 0 h1:=T.keep _ _ _ st2 fun b hb o e=>keep1 b o (by rw[e3];exact Jh _ e)
 generalize hC:s3.heap.objs.size=C at*
 have hns:h1.Ns C (fun _=>none):=by simpa using hns1
 have start:∀ tk,Inv (aR X scope Nc C fp s3 (upd H2 p (.lst []))) [] (mF js σ) (upd H2 p (.lst [])) {s3 with heap:=h1,toks:=tk}:=fun tk=>nv c I3 f3 (fun b hb=>by rw[hC];exact flt3 b hb) hC.symm hns keep1 hcs1
 have ok:=(start 0).ok
 have stat:∀ b∈fp,jb (aR X scope Nc C fp s3 (upd H2 p (.lst []))) [] (upd H2 p (.lst [])) b:=fun b hb=>
  ⟨(f3 b hb).1,(ok.exf b hb).1,ok.exfs b hb,.inl hb,(ok.exf b hb).2,fun _ z=>nomatch z⟩
 obtain⟨hG,hT,hI2,hG2,hT2,hE⟩:=hin C fp s3 (upd H2 p (.lst []))
 have loop:∀ s':Shared,Inv (aR X scope Nc C fp s3 (upd H2 p (.lst []))) [] (mF js σ) (upd H2 p (.lst [])) s'->tn 0 s'.heap->
   codeAny (model X.prog X.w) X.A (.compLoop (.ListComp elt [⟨tg,iter,ifs,0⟩,⟨tg2,iter2,ifs2,0⟩] scope pos) 0 (.ref it) (.ref p) (aR X scope Nc C fp s3 (upd H2 p (.lst []))).env) (compPost (model X.prog X.w) X.A X.xe none (EP X pins σ Q) (.ref p) C) s':=by
  intro s' I' st'
  refine tR (X:=aR X scope Nc C fp s3 (upd H2 p (.lst []))) (ipos:=iter.pos) (fun _ _ z=>z) hc T hG hT (EV (c1:=⟨tg,iter,ifs,0⟩) (scope:=scope) (pos:=pos) (fun _ _ z=>z) hc hI2 hG2 hT2 hE (hs2 _)) (Gz ..) I' st' stat hW fun s5 σ5 H5 I5 q5=>?_
  obtain⟨m,hm,_⟩:=I5.loc
  exact⟨m,hm,fun h2 hsb=>⟨.ref p,H5,sE I3 hC.symm f3 I5 hsb,rfl,q5⟩⟩
 refine codeAny_compStart_list (loop _ ?_ ?_) (T.self _ 0 _ _ _ ?_ (loop _ ?_ ?_))
 all_goals first
  |exact st1
  |(subst hS3;exact start _)
end
end S3
end
namespace S3
open PySem PySem.Spec PyProof.Rows L2
abbrev BM:=az->M (List D×az)
def cB(it:Iter)(g:i4)(t:az->M Bool)(bd:BM):List D->az->M (List D×az)
 |[],ρ=>do dX it;pure ([],ρ)
 | d::ds,ρ=>do
  dX it
  let ρ1<-g d ρ
  let b<-t ρ1
  if b=true then do
   let x<-bd ρ1
   let y<-cB it g t bd ds x.2
   pure (x.1++y.1,y.2)
  else cB it g t bd ds ρ1
def vC(m:TM):BM:=fun ρ=>do let y<-m ρ;pure ([y],ρ)
def EX(mi:az->M Iter)(g:i4)(t:az->M Bool)(m:TM):BM:=fun ρ=>do let it<-mi ρ;if it.items.length<=3000 then cB it g t (vC m) it.items ρ else M.fail
abbrev lR(mi:az->M Iter)(g:i4)(t:az->M Bool)(mi2:az->M Iter)(g2:i4)(t2:az->M Bool)(m:TM)(js:List (Option Nat)):TM:=fun ρ=>do
 let it<-mi ρ
 let x<-(if it.items.length<=3000 then cB it g t (EX mi2 g2 t2 m) it.items (jS js ρ)else M.fail)
 bo x.1
section
variable {K:PySem.W.Frag}{p:Addr}{Q:D->List Addr->aj->Hp->Prop}
structure MkL(K:PySem.W.Frag)(p:Addr)(ι:List Addr)(S:aj)(ρ:az)(σ:St)(H:Hp)(xs:List D):Prop where
 rep:Rep K ι (cy H p) S
 re:RelE K ι (cy H p) ρ σ
 lst:∃ vs,H p=some (.lst vs)/\RelDs K ι (cy H p) xs vs
 out:p ∉ ι
abbrev KM:=List D->az->M D
def AB(K:PySem.W.Frag)(p:Addr)(Q:D->List Addr->aj->Hp->Prop)(B:Nat)(bd:BM)(tb:Cu):Prop:=
 ∀ ι S ρ σ H xs (k:KM) (N:St->Hp->Prop) (n:Nat),MkL K p ι S ρ σ H xs->xs.length<=n->n+B<=lim->cont K bZ (bd ρ>>=fun x=>k (xs++x.1) x.2) ι S (cy H p) Q->
  (∀ ι' S' ρ' σ' H' xs',MkL K p ι' S' ρ' σ' H' xs'->xs'.length<=n+B->Ext ι (cy H p) ι' (cy H' p)->cont K bZ (k xs' ρ') ι' S' (cy H' p) Q->N σ' H')->tb σ H N
theorem EY{m:TM}:AB K p Q 1 (vC m) (yk p (tM K bZ m)):=by
 intro ι S ρ σ H xs k N n mk hl hn c hN
 obtain⟨vs,hp,rx⟩:=mk.lst
 have c':cont K bZ (m ρ>>=fun y=>k (xs++[y]) ρ) ι S (cy H p) Q:=by
  have:(vC m ρ>>=fun x=>k (xs++x.1) x.2)=(m ρ>>=fun y=>k (xs++[y]) ρ):=by
   show((m ρ>>=fun y=>pure ([y],ρ))>>=_)=_
   rw[cJ];rfl
  rw[<-this];exact c
 refine⟨ι,S,ρ,mk.rep.unhide,mk.re.unhide,ak (eO (E:=bZ) (ah c') hp mk.out) fun y ι6 S6 H6 e6 rep6 ⟨hp6,hn6,c7⟩ yv ry=>?_⟩
 have e26:Ext ι (cy H p) ι6 (cy H6 p):=e6.hide
 have rx6:=rx.later mk.rep e26
 have hl':vs.length<sizeLine:=by rw[<-rx6.length];exact Mu (by omega) zv
 refine⟨vs,hp6,hl',hN ι6 S6 ρ σ _ (xs++[y]) ⟨?_,?_,⟨vs++[yv],aL,?_⟩,hn6⟩ (by simp;omega) ?_ ?_⟩
 ·rw[dg];exact rep6.hide hp6 hn6
 ·rw[dg];exact(mk.re.unhide.later mk.rep.unhide e6).hide hp6
 ·rw[dg];exact rx6.append (.cons (ry.hide hp6) .nil)
 ·rw[dg];exact e26
 ·rw[dg];exact c7
theorem tS{it:Iter}{J:It}{g:i4}{t:az->M Bool}{bd:BM}{tb:Cu}{B:Nat}{ι1 ι:List Addr}{S:aj}{ρ:az}{σ:St}{H1 H:Hp}{xs:List D}{k:KM}{fin:St->Hp->Prop}{n:Nat}(hJ:jg K it J ι1 H1)(hB:AB K p Q B bd tb)
  (mk:MkL K p ι S ρ σ H xs) (e1:∀ ι2 Hc,Ext ι (cy H p) ι2 (cy Hc p)->ExtN ι1 H1 ι2 Hc) (hl:xs.length<=n) (hn:n+it.items.length*B<=lim) (c:cont K bZ (cB it g t bd it.items ρ>>=fun x=>k (xs++x.1) x.2) ι S (cy H p) Q)
  (hf:∀ ι' S' ρ' σ' H' xs',MkL K p ι' S' ρ' σ' H' xs'->xs'.length<=n+it.items.length*B->Ext ι (cy H p) ι' (cy H' p)->cont K bZ (k xs' ρ') ι' S' (cy H' p) Q->fin σ' H'):
  wJ J (Bq K bZ g) (xC K bZ t) tb fin σ H:=by
 refine⟨fun i m σc Hc=>∃ ι2 S2 ρ2 xs2,m=it.items.length - i/\i<=it.items.length/\MkL K p ι2 S2 ρ2 σc Hc xs2/\xs2.length<=n+i*B/\Ext ι (cy H p) ι2 (cy Hc p)/\
  cont K bZ (cB it g t bd (it.items.drop i) ρ2>>=fun x=>k (xs2++x.1) x.2) ι2 S2 (cy Hc p) Q,⟨_,ι,S,ρ,xs,rfl,JE _,mk,by omega,.refl,c⟩,?_⟩
 rintro i m σc Hc ⟨ι2,S2,ρ2,xs2,hm,hi',mk2,hl2,e2,c2⟩
 by_cases hlt:i<it.items.length
 ·have hd:it.items.drop i=it.items[i]::it.items.drop (i+1):=Lg hlt
  rw[hd]at c2
  have c2':cont K bZ (dX it>>=fun _=>g it.items[i] ρ2>>=fun ρ1=>t ρ1>>=fun b=>if b=true then bd ρ1>>=fun x=>(cB it g t bd (it.items.drop (i+1)) x.2>>=fun y=>k (xs2++x.1++y.1) y.2)else cB it g t bd (it.items.drop (i+1)) ρ1>>=fun x=>k (xs2++x.1) x.2) ι2 S2 (cy Hc p) Q:=by
   have:(cB it g t bd (it.items[i]::it.items.drop (i+1)) ρ2>>=fun x=>k (xs2++x.1) x.2)=(dX it>>=fun _=>g it.items[i] ρ2>>=fun ρ1=>t ρ1>>=fun b=>if b=true then bd ρ1>>=fun x=>(cB it g t bd (it.items.drop (i+1)) x.2>>=fun y=>k (xs2++x.1++y.1) y.2)else cB it g t bd (it.items.drop (i+1)) ρ1>>=fun x=>k (xs2++x.1) x.2):=by
    show((dX it>>=fun _=>g it.items[i] ρ2>>=fun ρ1=>t ρ1>>=fun b=>if b=true then bd ρ1>>=fun x=>cB it g t bd (it.items.drop (i+1)) x.2>>=fun y=>pure (x.1++y.1,y.2)else cB it g t bd (it.items.drop (i+1)) ρ1)>>=fun x=>k (xs2++x.1) x.2)=_
    simp only[cJ,v7,ao,List.append_assoc]
   rw[<-this];exact c2
  obtain⟨ok,c3⟩:=ia c2' mk2.rep
  obtain⟨hgo,hst⟩:=hJ ι2 Hc S2 (e1 _ _ e2) mk2.rep.unhide ok i
  obtain⟨go,yl⟩:=hgo it.items[i] (Jk hlt)
  have hstep:n+i*B+B<=lim:=by
   have:(i+1)*B<=it.items.length*B:=Nat.mul_le_mul_right _ hlt
   rw[L6]at this;omega
  refine .inr ⟨go,fun σ' H'=>∃ ι3 S3 ρ3 xs3,MkL K p ι3 S3 ρ3 σ' H' xs3/\xs3.length<=n+(i+1)*B/\Ext ι (cy H p) ι3 (cy H' p)/\cont K bZ (cB it g t bd (it.items.drop (i+1)) ρ3>>=fun x=>k (xs3++x.1) x.2) ι3 S3 (cy H' p) Q,?_,fun x H3 hy=>?_⟩
  ·rintro σ' H' ⟨ι3,S3,ρ3,xs3,h1,h2,h3,h4⟩
   exact⟨_,by omega,ι3,S3,ρ3,xs3,rfl,hlt,h1,h2,h3,h4⟩
  ·obtain⟨e3,rep3,rd⟩:=yl x H3 hy
   obtain⟨vs,hpc,rx⟩:=mk2.lst
   have hpn:=mk2.out
   obtain⟨hp3,_⟩:=e3.oth p _ hpc hpn (by intro _ z;cases z)
   have e3h:Ext ι2 (cy Hc p) ι2 (cy H3 p):=e3.hide
   have c4:=ah (eN c3 e3h)
   refine⟨ι2,S2,ρ2,it.items[i],rep3,mk2.re.unhide.later mk2.rep.unhide e3,rd,ak (eO (E:=bZ) c4 hp3 hpn) fun ρ4 ι4 S4 H4 e4 rep4 ⟨hp4,hn4,c5⟩ σ4 re4=>?_⟩
   have rep4h:Rep K ι4 (cy H4 p) S4:=rep4.hide hp4 hn4
   have e24:Ext ι2 (cy Hc p) ι4 (cy H4 p):=e3h.trans e4.hide
   refine⟨ι4,S4,ρ4,rep4,re4,ak (eO (E:=bZ) (ah c5) hp4 hn4) fun b ι5 S5 H5 e5 rep5 ⟨hp5,hn5,c6⟩=>?_⟩
   have rep5h:Rep K ι5 (cy H5 p) S5:=rep5.hide hp5 hn5
   have e25:Ext ι2 (cy Hc p) ι5 (cy H5 p):=e24.trans e5.hide
   have re5:RelE K ι5 H5 ρ4 σ4:=re4.later rep4 e5
   have mk5:MkL K p ι5 S5 ρ4 σ4 H5 xs2:=⟨rep5h,re5.hide hp5,⟨vs,hp5,rx.later mk2.rep e25⟩,hn5⟩
   cases b with
   |false=>
    have c6':cont K bZ (cB it g t bd (it.items.drop (i+1)) ρ4>>=fun x=>k (xs2++x.1) x.2) ι5 S5 (cy H5 p) Q:=c6
    exact⟨ι5,S5,ρ4,xs2,mk5,by rw[L6];omega,e2.trans e25,c6'⟩
   |true=>
    have c6':cont K bZ (bd ρ4>>=fun x=>(fun ys ρ'=>cB it g t bd (it.items.drop (i+1)) ρ'>>=fun y=>k (ys++y.1) y.2) (xs2++x.1) x.2) ι5 S5 (cy H5 p) Q:=c6
    refine hB ι5 S5 ρ4 σ4 H5 xs2 (fun ys ρ'=>cB it g t bd (it.items.drop (i+1)) ρ'>>=fun y=>k (ys++y.1) y.2) _ (n+i*B) mk5 hl2 hstep c6' fun ι6 S6 ρ6 σ6 H6 xs6 mk6 hl6 e6 c7=>?_
    exact⟨ι6,S6,ρ6,xs6,mk6,by rw[L6];omega,e2.trans (e25.trans e6),c7⟩
 ·have hd:it.items.drop i=[]:=LP (by omega)
  rw[hd]at c2
  have c2':cont K bZ (dX it>>=fun _=>k (xs2++[]) ρ2) ι2 S2 (cy Hc p) Q:=by
   have:(cB it g t bd [] ρ2>>=fun x=>k (xs2++x.1) x.2)=(dX it>>=fun _=>k (xs2++[]) ρ2):=by
    show((dX it>>=fun _=>pure ([],ρ2))>>=fun x=>k (xs2++x.1) x.2)=_
    simp only[cJ,ao]
   rw[<-this];exact c2
  obtain⟨ok,c3⟩:=ia c2' mk2.rep
  rw[JV]at c3
  have hie:i=it.items.length:=by omega
  refine .inl ⟨(hJ ι2 Hc S2 (e1 _ _ e2) mk2.rep.unhide ok i).2 (by omega),?_⟩
  exact hf ι2 S2 ρ2 σc Hc xs2 mk2 (by rw[<-hie];exact hl2) e2 c3
theorem Ext.unhideP{ι ι':List Addr}{H H':Hp}{ws:List V}(e:Ext ι (cy H p) ι' (cy H' p))(hp:H p=some (.lst ws)):ExtN ι H ι' H':=
 ⟨e.ids,fun a o h n t l=>by
  have hne:a≠p:=fun z=>by subst z;rw[hp]at h;exact l ws (JI h).symm
  obtain⟨h1,h2⟩:=e.oth a o (by rw[hide_ne hne];exact h) n t
  exact⟨(b8 h1).2,h2⟩⟩
theorem GA{mi:az->M Iter}{g:i4}{t:az->M Bool}{m:TM}:AB K p Q 3000 (EX mi g t m) (G9 (Fo K bZ mi) (Bq K bZ g) (xC K bZ t) (yk p (tM K bZ m))):=by
 intro ι S ρ σ H xs k N n mk hl hn c hN
 obtain⟨vs,hp,rx⟩:=mk.lst
 have c':cont K bZ (mi ρ>>=fun it=>(if it.items.length<=3000 then cB it g t (vC m) it.items ρ else M.fail)>>=fun x=>k (xs++x.1) x.2) ι S (cy H p) Q:=by
  have:(EX mi g t m ρ>>=fun x=>k (xs++x.1) x.2)=(mi ρ>>=fun it=>(if it.items.length<=3000 then cB it g t (vC m) it.items ρ else M.fail)>>=fun x=>k (xs++x.1) x.2):=by
   show((mi ρ>>=fun it=>_)>>=_)=_
   rw[cJ]
  rw[<-this];exact c
 refine⟨ι,S,ρ,mk.rep.unhide,mk.re.unhide,ak (eO (E:=bZ) (ah c') hp mk.out) fun it ι1 S1 H1 e1 rep1 ⟨hp1,hn1,c1⟩ J hJ=>?_⟩
 have e1h:Ext ι (cy H p) ι1 (cy H1 p):=e1.hide
 have mk1:MkL K p ι1 S1 ρ σ H1 xs:=⟨rep1.hide hp1 hn1,(mk.re.unhide.later mk.rep.unhide e1).hide hp1,⟨vs,hp1,rx.later mk.rep e1h⟩,hn1⟩
 by_cases h:it.items.length<=3000
 ·rw[if_pos h]at c1
  exact tS (k:=k) hJ EY mk1 (fun ι2 Hc e=>e.unhideP hp1) hl (by omega) c1 fun ι' S' ρ' σ' H' xs' mk' hl' e' c''=>hN ι' S' ρ' σ' H' xs' mk' (by omega) (e1h.trans e') c''
 ·rw[if_neg h]at c1;exact(ag (ah c1)).elim
section
variable {X:Cx}{scope:Scope}{Nc:List Str}{js:List (Option Nat)}{elt tg iter tg2 iter2:Expr}{ifs ifs2:List Expr}{pos:Pos}{mi mi2:az->M Iter}{g g2:i4}{t t2:az->M Bool}{m:TM}
theorem ym{σ:St}{H:Hp}{Q:VK}(h:tM X.K bZ (lR mi g t mi2 g2 t2 m js) σ H Q):
  Az (Fo X.K bZ mi) js (Bq X.K bZ g) (xC X.K bZ t) (fun p=>G9 (Fo X.K bZ mi2) (Bq X.K bZ g2) (xC X.K bZ t2) (yk p (tM X.K bZ m))) σ H Q:=by
 obtain⟨ι,S,ρ,rep,re,c⟩:=h
 refine⟨ι,S,ρ,rep,re,ak (ah c) fun it ι1 S1 H1 e1 rep1 c1 J hJ p hp=>?_⟩
 by_cases hl:it.items.length<=3000
 ·rw[if_pos hl]at c1
  have hu:cy (upd H1 p (.lst [])) p=H1:=by rw[dg,fV hp]
  refine tS (K:=X.K) (p:=p) (Q:=ku X.K Q) (n:=0) (xs:=[]) (k:=fun xs _=>bo xs) (S:=S1) (ρ:=jS js ρ) hJ GA ⟨by rw[hu];exact rep1,by rw[hu];exact(re.later rep e1).blk js,⟨[],aL,by rw[hu];exact .nil⟩,rep1.free hp⟩
   (fun ι2 Hc e=>by rw[hu]at e;exact e.unhide.n) (JE _) (by unfold lim;omega) (by rw[hu];exact c1) fun ι' S' ρ' σ' H' xs' mk' hl' e' c'=>?_
  obtain⟨vs,hp',rx⟩:=mk'.lst
  have:=(bf c' mk'.rep rx).2 p jE
  rw[sJ hp']at this
  exact this
 ·rw[if_neg hl]at c1;exact(ag (ah c1)).elim
theorem AC(c:CompScope X scope Nc js)(hc:X.calm=true)(hi:SI X bZ tg iter mi)
  (hin:∀ C ex s H,SG (aR X scope Nc C ex s H) bZ tg g/\Fp (aR X scope Nc C ex s H) bZ ifs t/\SI (aR X scope Nc C ex s H) bZ tg2 iter2 mi2/\SG (aR X scope Nc C ex s H) bZ tg2 g2/\Fp (aR X scope Nc C ex s H) bZ ifs2 t2/\SE (aR X scope Nc C ex s H) bZ elt m)
  (hs:∀ x,foldedSetIterable iter X.env x=pure x:=by intro _;rfl) (hs2:∀ env x,foldedSetIterable iter2 env x=pure x:=by intro _ _;rfl):
  SE X bZ (.ListComp elt [⟨tg,iter,ifs,0⟩,⟨tg2,iter2,ifs2,0⟩] scope pos) (lR mi g t mi2 g2 t2 m js):=
 PE.imp (AA (wi2:=Fo X.K bZ mi2) (g:=Bq X.K bZ g) (tt:=xC X.K bZ t) (g2:=Bq X.K bZ g2) (tt2:=xC X.K bZ t2) (te:=tM X.K bZ m) c hc hi hin hs hs2) fun _ _ _ q=>ym q
end
end
end S3
namespace S7
open PySem PySem.Spec PyProof.Rows L2 S3
section
open Sem (wp)
section
variable {prog:Program}{w:World}{A:Around}{E:Value->Shared->Prop}{h:Heap}{g:Array GenState}{d:Drawn}{t:Nat}{os:OsState}
variable {nm q:Str}{C N:Addr}{bs bm bmB:List Value}{hdct:Bool}{sn:List Str}{sub:List Value}{ab:Bool}{col:Option Bool}{dd:Option Addr}{k0 k1 k2 k3 k5:Option Value}{B Bn newId nid initId inN:String}{bmN:List Value}
theorem mJ(Fn:ExcBaseFacts Bn newId inN bmN)(hBn:bmB.contains (.type Bn)=true)(F:ExcBaseFacts B nid initId bmB)(T:OwnTail h bmB bm){mN:Str->Option Value}{rest:List Value}{fI:Addr}{oI:Obj}{Q:Fin->Shared->Prop}
  (hC:h.get? C=some (excClassObj nm q C N bs bm hdct sn sub ab col dd k0 k1 k2 k3 k5 newId)) (hn:h.Ns N mN) (hi:mN "__init__"=some (.ref fI)) (hfI:h.get? fI=some oI) (hfc:oI.cls= .type "function")
  (hq:∀ h' e,Heap.MadeExcOf h h' e (.ref C) rest->
   wpAny (model prog w) A (call (.ref fI) (.ref e::rest)) (fun r s'=>r= .none/\Q (.done (.ret (.ref e))) s') E ⟨h',g,d,t,os⟩) (hrest:rest.length<=sizeLine:=by size_fits):
  wpAny (model prog w) A (Builtin.«type.__call__» ⟨.ref C::rest,[]⟩) Q E ⟨h,g,d,t,os⟩:=by
 repeat (first|with_reducible refine K9 hC ?_ |with_reducible refine wpAny_madeBy_exc hC ?_ |wp_step)
 refine codeAny_call_builtin_code (LD _ Fn.quiet) (wpAny_check_new_subU Fn hBn T hC ?_)
 refine codeAny_exc_new_subU Fn hBn F T hC ?_ hrest
 show wpAny _ _ _ _ _ _
 have hC₁:=Jh {cls:=.ref C,data:=.fields #[.ref h.objs.size,.none,.none,.none,.bool false,.none]}
  (Jh {cls:=.type "tuple",data:=.seq rest.toArray} hC)
 have hfI₁:=Jh {cls:=.ref C,data:=.fields #[.ref h.objs.size,.none,.none,.none,.bool false,.none]}
  (Jh {cls:=.type "tuple",data:=.seq rest.toArray} hfI)
 have hn₁:((h.push {cls:=.type "tuple",data:=.seq rest.toArray}).push {cls:=.ref C,data:=.fields #[.ref h.objs.size,.none,.none,.none,.bool false,.none]}).Ns N mN:=
  let ⟨o,es,ep,e,r⟩:=hn;⟨o,es,ep,Jh _ (Jh _ e),r⟩
 have hget:((h.push {cls:=.type "tuple",data:=.seq rest.toArray}).push
   {cls:=.ref C,data:=.fields #[.ref h.objs.size,.none,.none,.none,.bool false,.none]}).get? (h.objs.size+1)=some
   {cls:=.ref C,data:=.fields #[.ref h.objs.size,.none,.none,.none,.bool false,.none]}:=by heap_get
 have hcC:(Value.ref C::bm).contains (.ref C)=true:=by simp
 have T₁:=T.keeps (h':=(h.push {cls:=.type "tuple",data:=.seq rest.toArray}).push {cls:=.ref C,data:=.fields #[.ref h.objs.size,.none,.none,.none,.bool false,.none]})
  fun b o e=>Jh _ (Jh _ e)
 unfold isInstance
 repeat (first|with_reducible refine K9 hget ?_ |(with_reducible refine wpAny_isSubtype_exc hC₁ ?_;rw[hcC])|wp_step)
 show wpAny _ _ (typeLookup (.ref C) _) _ _ _
 refine wpAny_typeLookup_tail hC₁ hn₁ T₁ F.mroIs F.init.lookup ?_
 rw[hi]
 refine JX (Jg ?_)
 unfold bindSpecial
 refine Jg (Lr (T:="function") ⟨_,hfI₁,hfc⟩ ?_)
 rw[if_pos (by decide)]
 refine Ji (Jg (JJ (hq _ (h.objs.size+1) ⟨fun b o hb=>Jh _ (Jh _ hb),J5 (MK _),h.objs.size,hget,J5 (Jj _),?_⟩) (fun r s' hr=>?_) fun _ _ x=>x))
 ·exact Jh _ (Heap.get?_push_at rfl rfl)
 ·obtain⟨rfl,hQ⟩:=hr
  wp_walk
  exact hQ
theorem vD(Fn:ExcBaseFacts Bn newId inN bmN)(hBn:bmB.contains (.type Bn)=true)(F:ExcBaseFacts B nid initId bmB)(T:OwnTail h bmB bm){mN:Str->Option Value}{rest:List Value}{fI:Addr}{oI:Obj}{Q:Value->Shared->Prop}
  (hC:h.get? C=some (excClassObj nm q C N bs bm hdct sn sub ab col dd k0 k1 k2 k3 k5 newId)) (hn:h.Ns N mN) (hi:mN "__init__"=some (.ref fI)) (hfI:h.get? fI=some oI) (hfc:oI.cls= .type "function")
  (hq:∀ h' e,Heap.MadeExcOf h h' e (.ref C) rest->
   wpAny (model prog w) (A.under (.builtin "type.__call__" ⟨.ref C::rest,[]⟩)) (call (.ref fI) (.ref e::rest)) (fun r s'=>r= .none/\Q (.ref e) s') E ⟨h',g,d,t,os⟩) (hrest:rest.length<=sizeLine:=by size_fits):
  wpAny (model prog w) A (call (.ref C) rest) Q E ⟨h,g,d,t,os⟩:=by
 have f1:=tc_lookup
 have f2:=tc_bind (.ref C)
 have hT:(⟨h,g,d,t,os⟩:Shared).TypeIs (.ref C) "type":=⟨_,hC,rfl⟩
 refine Lp (LC ?_)
 show wpAny _ _ (callAny (.ref C) _) _ _ _
 repeat (any_goals (first|assumption|with_reducible refine K9 hC ?_ |wp_step))
 refine⟨rfl,?_⟩
 refine codeAny_call_builtin_at (LD _ (by decide+kernel)) entry_typeCall (wpAny_check_type_call_sub hC (mJ (hrest:=hrest) Fn hBn F T hC hn hi hfI hfc fun h' e hm=>?_))
 exact hq h' e hm
end
section
variable {M:Model}{A:Around}{E:Value->Shared->Prop}{env:Env}
variable {nm q:Str}{C N:Addr}{bs bm:List Value}{hdct:Bool}{sn:List Str}{sub:List Value}{ab:Bool}{col:Option Bool}{dd:Option Addr}{k0 k1 k2 k3 k5:Option Value}{newId:String}
theorem f9{s:Shared}{x:Sem Value}{Q:Flow->Shared->Prop}(hbase:bm.contains (.type "BaseException")=true)(hh:A.handled=none)
  (h:wpAny M A x (fun v s₁=>∃ e t od,v= .ref e/\s₁.heap.get? C=some (excClassObj nm q C N bs bm hdct sn sub ab col dd k0 k1 k2 k3 k5 newId)/\s₁.heap.get? e=some {cls:=.ref C,dict:=od,data:=.fields #[.ref t,.none,.none,.none,.bool false,.none]}/\E (.ref e) s₁) E s):
  wpAny M A (raiseStmt env (some x) none) Q E s:=by
 have hcB:(Value.ref C::bm).contains (.type "BaseException")=true:=by rw[List.contains_cons,hbase,Bool.or_true]
 unfold raiseStmt
 refine Jg (JJ h (fun v s₁ h₁=>?_) fun _ _ x=>x)
 obtain⟨e,t,od,rfl,hC,he,hE⟩:=h₁
 obtain⟨hp,g,d,tk,os⟩:=s₁
 repeat (first|with_reducible refine K9 he ?_ |with_reducible refine K9 hC ?_ |(with_reducible refine wpAny_isSubtype_exc hC ?_;rw[hcB])|wp_step)
 exact wpAny_raiseNew_none hh hE
end
section
variable {prog:Program}{w:World}{A:Around}{E:Value->Shared->Prop}{s:Shared}{env:Env}
variable {nm q:Str}{C N:Addr}{bs bm bmB:List Value}{hdct:Bool}{sn:List Str}{sub:List Value}{ab:Bool}{col:Option Bool}{dd:Option Addr}{k0 k1 k2 k3 k5:Option Value}{B Bn newId nid initId inN:String}{bmN:List Value}
theorem tT(Fn:ExcBaseFacts Bn newId inN bmN)(hBn:bmB.contains (.type Bn)=true)(F:ExcBaseFacts B nid initId bmB){mN:Str->Option Value}{x:Str}{np cpos pos:Pos}{args:List Expr}{fI:Addr}{oI:Obj}{Q:Flow->Shared->Prop}
  (hbase:bm.contains (.type "BaseException")=true) (hh:A.handled=none) (hplain:(backTo cpos (starEach args env)).any (·.1)=false) (hi:mN "__init__"=some (.ref fI)) (hfc:oI.cls= .type "function")
  (h :wpAny (model prog w) A (eval (.Name x np) env) (fun f s₁=>f= .ref C/\wpAny (model prog w) A (evalArgs (.ref C) true (backTo cpos (starEach args env)) [])
   (fun a s₂=>a.kw=[]/\a.pos.length<=sizeLine/\s₂.heap.get? C=some (excClassObj nm q C N bs bm hdct sn sub ab col dd k0 k1 k2 k3 k5 newId)/\s₂.heap.Ns N mN/\OwnTail s₂.heap bmB bm/\s₂.heap.get? fI=some oI/\
    ∀ h' e,Heap.MadeExcOf s₂.heap h' e (.ref C) a.pos->wpAny (model prog w) (A.under (.builtin "type.__call__" ⟨.ref C::a.pos,[]⟩)) (call (.ref fI) (.ref e::a.pos)) (fun r s'=>r= .none/\
     ∃ t od,s'.heap.get? C=some (excClassObj nm q C N bs bm hdct sn sub ab col dd k0 k1 k2 k3 k5 newId)/\s'.heap.get? e=some {cls:=.ref C,dict:=od,data:=.fields #[.ref t,.none,.none,.none,.bool false,.none]}/\E (.ref e) s') E {s₂ with heap:=h'}) E s₁) E s):
  wpAny (model prog w) A (exec (.Raise (some (.Call (.Name x np) args [] cpos)) none pos) env) Q E s:=by
 rw[arm_exec_Raise]
 first
  |refine Jg (Kb (f9 (C:=C) (nm:=nm) (q:=q) (N:=N) (bs:=bs) (bm:=bm) (hdct:=hdct) (sn:=sn) (sub:=sub) (ab:=ab) (col:=col) (dd:=dd) (k0:=k0) (k1:=k1) (k2:=k2) (k3:=k3) (k5:=k5) (newId:=newId) hbase hh (Jg (JJ (MJ (JJ h (fun f s₁ h₁=>?_) fun _ _ x=>x)) (fun v s₃ h₃=>Jg (Kb (Ji h₃))) fun _ _ x=>x))))
  |(simp only[evalOpt,Option.map];refine Jg (Kb (f9 (C:=C) (nm:=nm) (q:=q) (N:=N) (bs:=bs) (bm:=bm) (hdct:=hdct) (sn:=sn) (sub:=sub) (ab:=ab) (col:=col) (dd:=dd) (k0:=k0) (k1:=k1) (k2:=k2) (k3:=k3) (k5:=k5) (newId:=newId) hbase hh (Jg (JJ (MJ (JJ h (fun f s₁ h₁=>?_) fun _ _ x=>x)) (fun v s₃ h₃=>Jg (Kb (Ji h₃))) fun _ _ x=>x)))))
  |(refine Jg (Kb (f9 (C:=C) (nm:=nm) (q:=q) (N:=N) (bs:=bs) (bm:=bm) (hdct:=hdct) (sn:=sn) (sub:=sub) (ab:=ab) (col:=col) (dd:=dd) (k0:=k0) (k1:=k1) (k2:=k2) (k3:=k3) (k5:=k5) (newId:=newId) hbase hh ?_));refine Jg (JJ (MJ (JJ h (fun f s₁ h₁=>?_) fun _ _ x=>x)) (fun v s₃ h₃=>Jg (Kb (Ji h₃))) fun _ _ x=>x))
 obtain⟨rfl,h₁⟩:=h₁
 unfold callWith
 refine Jg (JX (JJ h₁ (fun a s₂ h₂=>Jg (Kb ?_)) fun _ _ x=>x))
 obtain⟨apos,akw⟩:=a
 obtain⟨hkw,hlen,hC,hn,T,hfI,h₂⟩:=h₂
 obtain rfl:akw=[]:=hkw
 obtain⟨hp,g,d,tk,os⟩:=s₂
 simp only[hplain]
 refine Jg (wpAny_keeperOf_exc hC ?_)
 refine Jg (vD (hrest:=hlen) Fn hBn F T hC hn hi hfI hfc fun h' e hm=>JJ (h₂ h' e hm) (fun r s' hr=>⟨hr.1,Jg (JX (wpAny_point (Ji ?_)))⟩) fun _ _ x=>x)
 obtain⟨_,t,od,h1,h2,h3⟩:=hr
 exact⟨e,t,od,rfl,h1,h2,h3⟩
end
end
end S7
namespace S7
open PySem PySem.Spec PySem.W PyProof.Rows
section
open Builtin Builtin.ObjectAttr
def tU:List Value->Bool
 | .ref _:: .ref _::r=>r==[.type "ValueError",.type "Exception",.type "BaseException",.type "object"]
 |_=>false
theorem yn{l:List Value}(e:tU l=true):∃ a b,l= .ref a:: .ref b::[.type "ValueError",.type "Exception",.type "BaseException",.type "object"]:=by
 unfold tU at e
 split at e
 ·next a b r=>exact⟨a,b,by rw[M6.mp e]⟩
 ·cases e
theorem AD(self:Value){l:List Value}(e:tU l=true):refuseLoop self "__setattr__" l=pure ():=by
 obtain⟨a,b,rfl⟩:=yn e
 rw[refuseLoop_ref,refuseLoop_ref]
 exact PySem.F.store_ValueError.passes self
structure ExcS(K:Frag)(C:Addr):Prop where
 sa:findIn K (.ref C) "__setattr__"=some (some (.builtin "object.__setattr__"))
 ob:mroIn K C (.type "object")=some true
 cd:∃ cd,clsIn K C=some cd/\cd.hasDict=true/\tU cd.mro=true
section
variable {prog:Program}{w:World}{A:Around}{E:Value->Shared->Prop}{s:Shared}{K:Frag}{x C:Addr}{o:Obj}{vs:Array Value}{mA:Str->Option Value}{name:Str}{v:Value}{R:Result->Shared->Prop}
theorem AE{tk:Tok}{b:Bool}{Q:Fin->Shared->Prop}{ns:List Str}(c:ExcS K C)(X:K.In s.heap)(hx:s.heap.get? x=some o)(hc:o.cls= .ref C)(hdt:o.data= .fields vs)
  (hd:(o.dict=none/\∀ n,mA n=none)\/∃ d,o.dict=some d/\d≠x/\s.heap.Ns1 d mA)
  (hq:∀ h' tk' dx,h'.Ns1 dx (fun y=>if y=name then some v else mA y)->dx≠x->h'.get? x=some {o with dict:=some dx}->(o.dict=some dx\/(o.dict=none/\s.heap.get? dx=none))->
   (∀ b o,b≠x->b≠dx->s.heap.get? b=some o->h'.get? b=some o)->Q (.done (.ret .none)) {s with heap:=h',toks:=tk'}) (hw:Within mA ns:=by within_ways) (hsz:ns.length<=sizeLine:=by size_fits):
  wpAny (model prog w) A (storeInOwnDict (.ref x) (.ref C) (.str name tk) name v b) Q E s:=by
 obtain⟨cd,hcd,hhd,_⟩:=c.cd
 obtain⟨h,g,d,t,os⟩:=s
 obtain⟨oc,od,odt,osl⟩:=o
 dsimp only at hx hc hdt hd
 subst hc hdt
 unfold storeInOwnDict
 refine Jg (Ji ?_)
 show wpAny _ _ (ownDictForStores (.ref x)>>=_) _ _ _
 unfold ownDictForStores instanceDict
 refine Jg (Jg (wpAny_loadPart hx (Jg ((looks_clsIn X hcd).here ?_))))
 rw[hhd]
 simp only[Bool.not_true,Bool.false_eq_true,if_false]
 rcases hd with⟨hdn,hmA⟩|⟨dx,hdx,hne,hns⟩
 ·have hdn':od=none:=hdn
  subst hdn'
  simp only[typeHasDict,Bool.not_true,Bool.or_self,Bool.false_eq_true,if_false]
  have hx₁:(h.push {cls:=.type "dict",data:=.dict #[]}).get? x=some ⟨.ref C,none,.fields vs,osl⟩:=Jh _ hx
  have hxs:x≠h.objs.size:=Jv (Jm hx)
  refine Jg (wpAny_alloc' ?_)
  refine Jg (wpAny_update' hx₁ ?_)
  refine Ji ?_
  have hgd:((h.push {cls:=.type "dict",data:=.dict #[]}).update x fun o=>{cls:=o.cls,dict:=some h.objs.size,data:=o.data,slots:=o.slots}).get? h.objs.size
    =some {cls:=.type "dict",data:=.dict #[]}:=
   (KW _ _ _ _ hxs.symm).trans (Heap.get?_push_at rfl rfl)
  have hnd:((h.push {cls:=.type "dict",data:=.dict #[]}).update x fun o=>{cls:=o.cls,dict:=some h.objs.size,data:=o.data,slots:=o.slots}).Ns h.objs.size (fun _=>none):=
   ⟨_, #[],_,hgd,rfl,fun e he=>absurd he (by simp),fun _=>rfl⟩
  show wpAny _ _ (storeInDict h.objs.size (.str name tk) name v) _ _ _
  unfold storeInDict newKeyGuard
  refine Jg (Ji (Jg (wpAny_nsSet1 (Heap.Ns1.of_empty hnd) fun h' hn' hs=>?_)))
  obtain⟨oD,esD,epD,hoD,hdD,hcD⟩:=hn'.count (M0 name v Within.nil)
  refine Jg (wpAny_lookBehind hoD (by rw[hdD];exact pastItsLine_dict (Ju hcD (by rw[J0,List.length_nil,J6];omega))) ?_)
  wp_walk
  refine hq h' _ h.objs.size ?_ hxs.symm ?_ (.inr ⟨rfl,J5 (Jj _)⟩) (fun b ob hbx hbd hb=>?_)
  ·obtain⟨o',es,ep,e1,e2,e3,eu,e4⟩:=hn'
   exact⟨o',es,ep,e1,e2,e3,eu,fun y=>by rw[e4 y];by_cases hy:y=name<;>simp[hy,hmA]⟩
  ·exact(hs.2 x hxs).trans (J3 _ hx₁ rfl)
  ·exact(hs.2 b hbd).trans ((KW _ _ _ _ hbx).trans (Jh _ hb))
 ·have hdx':od=some dx:=hdx
  subst hdx'
  refine Ji ?_
  show wpAny _ _ (storeInDict dx (.str name tk) name v) _ _ _
  unfold storeInDict newKeyGuard
  refine Jg (Ji (Jg (wpAny_nsSet1 hns fun h' hn' hs=>?_)))
  obtain⟨oD,esD,epD,hoD,hdD,hcD⟩:=hn'.count (M0 name v hw)
  refine Jg (wpAny_lookBehind hoD (by rw[hdD];exact pastItsLine_dict (Ju hcD (by rw[J0];omega))) ?_)
  wp_walk
  exact hq h' _ dx hn' hne ((hs.2 x hne.symm).trans hx) (.inl rfl) (fun b ob _ hbd hb=>(hs.2 b hbd).trans hb)
theorem my{Q:Unit->Shared->Prop}{ns:List Str}(c:ExcS K C)(X:K.In s.heap)(hx:s.heap.get? x=some o)(hc:o.cls= .ref C)(hdt:o.data= .fields vs)(hf:findIn K (.ref C) name=some none)
  (hd:(o.dict=none/\∀ n,mA n=none)\/∃ d,o.dict=some d/\d≠x/\s.heap.Ns1 d mA)
  (hq:∀ h' tk' dx,h'.Ns1 dx (fun y=>if y=name then some v else mA y)->dx≠x->h'.get? x=some {o with dict:=some dx}->(o.dict=some dx\/(o.dict=none/\s.heap.get? dx=none))->
   (∀ b o,b≠x->b≠dx->s.heap.get? b=some o->h'.get? b=some o)->Q () {s with heap:=h',toks:=tk'}) (hw:Within mA ns:=by within_ways) (hsz:ns.length<=sizeLine:=by size_fits):
  wpAny (model prog w) A (setAttr (.ref x) name v) Q E s:=by
 obtain⟨cd,hcd,hhd,hov⟩:=c.cd
 have hno:notCls o=true:=by unfold notCls;rw[hdt]
 have I:∃ od,InstAt s.heap x o C od:=by
  rcases hd with⟨hdn,_⟩|⟨dx,hdx,_,⟨od,es,ep,e1,_⟩⟩
  ·exact⟨none,hx,hc,hno,by rw[hdn];trivial⟩
  ·exact⟨some od,hx,hc,hno,by rw[hdx];exact e1⟩
 obtain⟨od,I⟩:=I
 refine set_plain X I c.sa ?_
 have SF:=PySem.F.store_object
 have sub:Looks (model prog w) s.heap (isInstance (.ref x) (.type "object")) true:=I.type.andThen (looks_mroIn X c.ob)
 refine Le SF.slot.plain SF.entry (@check_slot (model prog w) _ _ {s with toks:=s.toks+1} "object.__setattr__" "object" "__setattr__" (.ref x) [.str name s.toks,v] [] _ SF.kind SF.split sub (SF.args (.ref x) (.str name s.toks) v) ?_)
 have hm:Looks (model prog w) s.heap (mroOf (.ref C)) cd.mro:=(looks_clsIn X hcd).andThen .now
 rw[osa_eq,refuse_eq]
 refine Jg (Jg (I.type _ _ _ _ (fun _ _ e=>e) (Jg (hm _ _ _ _ (fun _ _ e=>e) ?_))))
 rw[AD _ hov]
 refine Ji (Jg (I.type _ _ _ _ (fun _ _ e=>e) (Jg (looks_findIn X hf _ _ _ _ (fun _ _ e=>e) (Jg (Ji ?_))))))
 exact AE (s:={s with toks:=s.toks+1}) c X hx hc hdt hd (fun h' tk' dx a1 a2 a3 a4 a5=>hq h' tk' dx a1 a2 a3 a4 a5) hw hsz
end
end
end S7
namespace S7
open PySem PySem.Spec PyProof.Rows L2 S3
def fC(C a t:Addr)(od:Option Addr):Heap->Prop:=fun h=>h.get? a=some {cls:=.ref C,dict:=od,data:=.fields #[.ref t,.none,.none,.none,.bool false,.none]}
def gv(dx:Addr)(fs:List (Str×V)):Heap->Prop:=fun h=>∃ mA,h.Ns1 dx mA/\(∀ f,qz (fs.lookup f) (mA f))/\PySem.Within mA (fs.map (·.1))
theorem yo{C a t:Addr}{od:Option Addr}{h1 h2:Heap}(p:fC C a t od h1)(k:∀ o,h1.get? a=some o->h2.get? a=some o):fC C a t od h2:=k _ p
theorem yp{dx:Addr}{fs:List (Str×V)}{h1 h2:Heap}(p:gv dx fs h1)(k:∀ o,h1.get? dx=some o->h2.get? dx=some o):gv dx fs h2:=by
 obtain⟨mA,⟨o,es,ep,e,r⟩,q⟩:=p
 exact⟨mA,⟨o,es,ep,k _ e,r⟩,q⟩
theorem AF{P:Program}{w:World}{H:Hp}{h:Heap}{C a t:Addr}{od:Option Addr}(p:fC C a t od h):aY P w H h a (.ext (fC C a t od)):=⟨p,⟨_,p⟩,fun _ _ q k=>yo q k⟩
theorem Di{P:Program}{w:World}{H:Hp}{h:Heap}{dx:Addr}{fs:List (Str×V)}(p:gv dx fs h):aY P w H h dx (.ext (gv dx fs)):=⟨p,(let ⟨_,⟨o,_,_,e,_⟩,_⟩:=p;⟨o,e⟩),fun _ _ q k=>yp q k⟩
section
variable {X:Cx}{pins:List (Addr×Obj)}{σ:L2.St}{H:Hp}{s:Shared}{h':Heap}{t':Nat}
theorem Inv.laidG{a:Addr}{o:HO}(I:L2.Inv X pins σ H s)(k:∀ b u,s.heap.get? b=some u->h'.get? b=some u)(hp:s.heap.get? a=none)(new:aY X.prog X.w (upd H a o) h' a o):L2.Inv X pins σ (upd H a o) {s with heap:=h',toks:=t'}:=by
 have hn:H a=none:=eU.gone I.hok hp
 have ne:∀ b u,s.heap.get? b=some u->b≠a:=fun b u q=>fL q hp
 refine I.un (t':=t') ⟨fun b u q _ _ _=>k b u q,fun b u q _ _ _=>⟨u.slots,k b u q⟩,fun b u q n _=>by rw[aA (ne b u q)];exact n,fun b u q _=>⟨u,k b u q⟩,fun b xs q=>by rw[aA (aF q hn)];exact q,fun b u xs q=>by rw[aA (aF q hn)];exact q,fun b ps q=>⟨#[],by rw[aA (aF q hn),q];simp⟩⟩ fun b u e=>?_
 by_cases hb:b=a
 ·subst hb;rw[aL]at e;cases e;exact new
 ·rw[aA hb]at e
  exact(I.hok b u e).stay (fun c v _ q=>k c v q) (fun c q=>by rw[aA (aF q hn)];exact q) fun c xs q=>by rw[aA (aF q hn)];exact q
theorem Inv.write2{a b:Addr}{o u:HO}{φ:Heap->Prop}(I:L2.Inv X pins σ H s)(ha:H a=some (.ext φ))(hb:(∃ ψ,H b=some (.ext ψ))\/s.heap.get? b=none)(k:∀ c v,c≠a->c≠b->s.heap.get? c=some v->h'.get? c=some v)(hta:∃ v,h'.get? a=some v)(htb:∃ v,h'.get? b=some v)
  (hab:b≠a) (na:∀ H',aY X.prog X.w H' h' a o) (nb:∀ H',aY X.prog X.w H' h' b u):L2.Inv X pins σ (upd (upd H b u) a o) {s with heap:=h',toks:=t'}:=by
 have hb':∀ c v,H c=some v->(∀ ψ,v≠ .ext ψ)->c≠a/\c≠b:=fun c v e n=>by
  refine⟨fun z=>?_,fun z=>?_⟩
  ·subst z;rw[ha]at e;cases e;exact n _ rfl
  ·subst z
   rcases hb with⟨ψ,hb⟩|hb
   ·rw[hb]at e;cases e;exact n _ rfl
   ·rw[eU.gone I.hok hb]at e;cases e
 have free:∀ c v,s.heap.get? c=some v->H c=none->c≠a/\c≠b:=fun c v q n=>by
  refine⟨fun z=>?_,fun z=>?_⟩
  ·subst z;rw[ha]at n;cases n
  ·subst z
   rcases hb with⟨ψ,hb⟩|hb
   ·rw[hb]at n;cases n
   ·rw[hb]at q;cases q
 have up:∀ c v,H c=some v->(∀ ψ,v≠ .ext ψ)->upd (upd H b u) a o c=some v:=fun c v e n=>by
  obtain⟨h1,h2⟩:=hb' c v e n
  rw[aA h1,aA h2];exact e
 refine I.un (t':=t') ⟨fun c v q n _ _=>k c v (free c v q n).1 (free c v q n).2 q,fun c v q n _ _=>⟨v.slots,k c v (free c v q n).1 (free c v q n).2 q⟩,fun c v q n _=>by rw[aA (free c v q n).1,aA (free c v q n).2];exact n,fun c v q _=>?_,fun c xs q=>up c _ q (by intro _ z;cases z),fun c w xs q=>up c _ q (by intro _ z;cases z),fun c ps q=>⟨#[],by rw[up c _ q (by intro _ z;cases z)];simp⟩⟩ fun c v e=>?_
 ·by_cases h1:c=a
  ·subst h1;exact hta
  ·by_cases h2:c=b
   ·subst h2;exact htb
   ·exact⟨v,k c v h1 h2 q⟩
 ·by_cases h1:c=a
  ·subst h1;rw[aL]at e;cases e;exact na _
  ·rw[aA h1]at e
   by_cases h2:c=b
   ·subst h2;rw[aL]at e;cases e;exact nb _
   ·rw[aA h2]at e
    have own:∀ d,H d=some (.own c)->d≠a/\d≠b:=fun d q=>hb' d _ q (by intro _ z;cases z)
    refine(I.hok c v e).stay (fun d w hd q=>?_) (fun d q=>up d _ q (by intro _ z;cases z)) fun d xs q=>up d _ q (by intro _ z;cases z)
    rcases hd with rfl|hd
    ·exact k _ w h1 h2 q
    ·exact k d w (own d hd).1 (own d hd).2 q
end
section
variable {X:Cx}{o value:Expr}{ta tv:TE}{f:Str}{pos pos':Pos}
def GC(K:PySem.W.Frag)(ta tv:TE)(f:Str):TS:=fun D σ H=>tv σ H fun y H1=>ta σ H1 fun x H2=>∃ p C t,x= .ref p/\ExcS K C/\PySem.W.findIn K (.ref C) f=some none/\
  ((H2 p=some (.ext (fC C p t none))/\∀ dx,H2 dx=none->dx≠p->D.nx σ (upd (upd H2 dx (.ext (gv dx [(f,y)]))) p (.ext (fC C p t (some dx)))))\/
   (∃ dx fs,H2 p=some (.ext (fC C p t (some dx)))/\H2 dx=some (.ext (gv dx fs))/\dx≠p/\fs.lookup f=none/\fs.length<=100/\D.nx σ (upd (upd H2 dx (.ext (gv dx (fs++[(f,y)])))) p (.ext (fC C p t (some dx))))))
theorem mz{α:Type}{g f:Str}{y:α}:∀{fs:List (Str×α)},fs.lookup f=none->(fs++[(f,y)]).lookup g=if g=f then some y else fs.lookup g
 |[],_=>by
  show(match g==f with|true=>some y|false=>none)=_
  by_cases h:g=f
  ·subst h;simp
  ·rw[if_neg h,Mp h];rfl
 | (a,b)::r,h=>by
  rw[JP]at h
  by_cases hf:f=a
  ·subst hf;simp at h
  ·rw[Mp hf]at h
   rw[List.cons_append,JP,JP,mz (fs:=r) h]
   by_cases hg:g=a
   ·subst hg
    have hgf:¬ g=f:=fun z=>hf z.symm
    simp[hgf]
   ·rw[Mp hg]
theorem wK(ha:PE X o ta)(hv:PE X value tv)(hs:swapsWith value (some (.Attribute o f pos')) pos.line X.env=pure false):PS X (.Assign [.Attribute o f pos'] value pos) (GC X.K ta tv f):=by
 intro pins s σ H D I h
 refine plainObj_wpAny_Assign_Attribute (df (hv pins s σ H _ I h) fun u s1 ⟨y,H1,I1,ry,q⟩=>df (ha pins s1 σ H1 _ I1 q) fun ov s2 ⟨x,H2,I2,rx,p,C,t,ex,c,hf,q2⟩=>?_) hs
 subst ex
 obtain rfl:ov=Value.ref p:=rx
 rcases q2 with⟨hp,q⟩|⟨dx,fs,hp,hd,hne,hl,hlen,q⟩
 ·have hx:s2.heap.get? p=some {cls:=.ref C,dict:=none,data:=.fields #[.ref t,.none,.none,.none,.bool false,.none]}:=(I2.hok p _ hp).1
  refine my (mA:=fun _=>none) (ns:=[]) c I2.kIn hx rfl rfl hf (.inl ⟨rfl,fun _=>rfl⟩) (fun h' tk' dx hns hne hx' ho hk=>?_) Within.nil (by simp)
  rcases ho with ho|⟨_,hnew⟩
  ·cases ho
  have pe:fC C p t (some dx) h':=hx'
  have pd:gv dx [(f,y)] h':=⟨_,hns,fun g=>by
   show qz (match g==f with|true=>some y|false=>none) _
   by_cases hg:g=f
   ·subst hg;simp;exact ry
   ·rw[Mp hg,if_neg hg];exact trivial,M0 f u Within.nil⟩
  obtain⟨mA',⟨od,es,ep,e1,_⟩,_⟩:=id pd
  have I3:=Inv.write2 (t':=tk') (a:=p) (b:=dx) (o:=.ext (fC C p t (some dx))) (u:=.ext (gv dx [(f,y)])) I2 hp (.inr hnew) (fun c v h1 h2 q=>hk c v h1 h2 q) ⟨_,hx'⟩ ⟨_,e1⟩ hne (fun _=>AF pe) (fun _=>Di pd)
  exact⟨σ,_,I3,q dx (eU.gone I2.hok hnew) hne⟩
 ·have hx:s2.heap.get? p=some {cls:=.ref C,dict:=some dx,data:=.fields #[.ref t,.none,.none,.none,.bool false,.none]}:=(I2.hok p _ hp).1
  obtain⟨mA,hns0,hrel,hw⟩:=(I2.hok dx _ hd).1
  refine my (mA:=mA) (ns:=fs.map (·.1)) c I2.kIn hx rfl rfl hf (.inr ⟨dx,rfl,hne,hns0⟩) (fun h' tk' dx' hns hne' hx' ho hk=>?_) hw (by rw[Jl,J6];omega)
  have ho':dx=dx':=by
   rcases ho with ho|⟨ho,_⟩
   ·exact JI ho
   ·cases ho
  subst ho'
  have pe:fC C p t (some dx) h':=hx'
  have pd:gv dx (fs++[(f,y)]) h':=⟨_,hns,fun g=>by
   rw[mz hl]
   by_cases hg:g=f
   ·subst hg;simp;exact ry
   ·rw[if_neg hg,if_neg hg];exact hrel g,by
   have:=M0 f u hw
   intro z hz
   have:=this z hz
   simp only[List.map_append,List.map_cons,List.map_nil,List.mem_append,List.mem_cons,List.not_mem_nil,or_false]at this ⊢
   exact this.symm⟩
  obtain⟨mA',⟨od,es,ep,e1,_⟩,_⟩:=id pd
  have I3:=Inv.write2 (t':=tk') (a:=p) (b:=dx) (o:=.ext (fC C p t (some dx))) (u:=.ext (gv dx (fs++[(f,y)]))) I2 hp (.inl ⟨_,hd⟩) (fun c v h1 h2 q=>hk c v h1 h2 q) ⟨_,hx'⟩ ⟨_,e1⟩ hne (fun _=>AF pe) (fun _=>Di pd)
  exact⟨σ,_,I3,q⟩
end
end S7
section
namespace S7
open PySem PySem.Spec PyProof.Rows L2 S3
theorem Cw{K:PySem.W.Frag}{h:Heap}{N:Addr}{mg:Str->Option Value}{n:Str}{v:Value}(X:K.In h)(G:h.Ns N mg)(e:PySem.W.nsIn K N n=some (some v)):mg n=some v:=by
 obtain⟨o,es,ep,ho,hd,_,hf⟩:=G
 unfold PySem.W.nsIn at e
 split at e
 ·rename_i c d es' n' sl q
  have:=X _ _ q
  rw[ho]at this
  cases this
  cases hd
  split at e
  ·rename_i en he
   cases e
   rw[<-hf]
   unfold nsFind findBy
   rw[<-Mr,he]
   rfl
  ·split at e<;>cases e
 ·cases e
def jL(K:PySem.W.Frag)(C f:Addr):Bool:=match K.lookup C with
 |some ⟨.type "type",_,.cls cd,sl⟩=>(match cd.mro,sl.toList with
  | .ref C'::bm,[_,_,_,_,some (.builtin n),_]=>C'==C && n=="ValueError.__new__" && !cd.hasDel && PySem.W.tailIn K Fy bm && PySem.W.nsOkIn K cd.ns && PySem.W.nsIn K cd.ns "__init__"==some (some (.ref f)) && cd.hasDict && tU cd.mro
  |_,_=>false) && (PySem.W.findIn K (.ref C) "__setattr__"==some (some (.builtin "object.__setattr__"))) && (match K.lookup f with|some o=>o.cls== .type "function"|none=>false)
 |_=>false
theorem qm{K:PySem.W.Frag}{h:Heap}{C f:Addr}(X:K.In h)(c:ExcC K C)(q:jL K C f=true):ExcS K C/\(∃ o,K.lookup f=some o/\o.cls= .type "function")/\∃ bm N nm qn bs hdct sn sub ab col dd k0 k1 k2 k3 k5 mN,
  h.get? C=some (excClassObj nm qn C N bs bm hdct sn sub ab col dd k0 k1 k2 k3 k5 "ValueError.__new__")/\h.Ns N mN/\mN "__init__"=some (.ref f)/\OwnTail h Fy bm:=by
 unfold jL at q
 split at q
 case h_2=>cases q
 case h_1 dd cd sl ho=>
 simp only[Bool.and_eq_true,beq_iff_eq]at q
 obtain⟨⟨q,hsa⟩,hfn⟩:=q
 split at q
 case h_2=>cases q
 case h_1 C' bm k0 k1 k2 k3 n k5 hm hs=>
 simp only[Bool.and_eq_true,beq_iff_eq,Bool.not_eq_true']at q
 obtain⟨⟨⟨⟨⟨⟨⟨eC,en⟩,hdel⟩,ht⟩,hok⟩,hi⟩,hhd⟩,hov⟩:=q
 subst eC en
 have hcl:PySem.W.clsIn K C'=some cd:=by unfold PySem.W.clsIn;rw[ho]
 refine⟨⟨hsa,c.ob,cd,hcl,hhd,hov⟩,?_,?_⟩
 ·split at hfn
  ·next o hf=>exact⟨o,hf,M6.mp hfn⟩
  ·cases hfn
 rcases cd with⟨nm,bs,mro,ns,qn,hd,sn,sub,ab,col,del⟩
 dsimp only at hm hdel hok hi
 subst hm hdel
 obtain rfl:sl= #[k0,k1,k2,k3,some (.builtin "ValueError.__new__"),k5]:=by rcases sl with⟨l⟩;simp only at hs;rw[hs]
 have hN:h.Ns ns (h.nsMap ns):=.of_isNs (PySem.W.isNs_of_in X hok)
 exact⟨bm,ns,nm,qn,bs,hd,sn,sub,ab,col,dd,k0,k1,k2,k3,k5,_,X _ _ ho,hN,Cw X hN hi,PySem.W.tail_of_in X ht⟩
def Ha(C:Addr):Sp:=fun vs H Q _=>∃ e t v1 v2,vs=[.ref e,v1,v2]/\H e=some (.ext (fC C e t none))/\∀ dx,H dx=none->dx≠e->Q .non (upd (upd H dx (.ext (gv dx [("many",v1),("most",v2)]))) e (.ext (fC C e t (some dx))))
theorem tV{H:Hp}{a b:Addr}{o u:HO}(h:a≠b):upd (upd H a o) b u=upd (upd H b u) a o:=by
 funext c
 unfold upd
 by_cases h1:c=b
 ·by_cases h2:c=a
  ·exact absurd (h2.symm.trans h1) h
  ·rw[if_pos h1,if_neg h2,if_pos h1]
 ·rw[if_neg h1]
  by_cases h2:c=a
  ·rw[if_pos h2,if_pos h2]
  ·rw[if_neg h2,if_neg h2,if_neg h1]
theorem Cy{P:Program}{w:World}{K:PySem.W.Frag}{mg:Str->Option Value}{base:Heap}{C f:Addr}{fd:FuncData}{st:Stmt}{p1 p2 p3 p4 p5 p6 p7 p8:Pos}(F:Fun K "__init__" "TooGreat.__init__" st f fd)(cS:ExcS K C)(c:ExcC K C)
  (Sc:FnScope ["self","many","most"] ["self","many","most"] (au st)) (hl:∀ x∈(["self","many","most"]:List Str),(au st).names.lookup x=some .local)
  (hb:cU st=[.Assign [.Attribute (.Name "self" p1) "many" p2] (.Name "many" p3) p4,.Assign [.Attribute (.Name "self" p5) "most" p6] (.Name "most" p7) p8]):
  FnOk P w K mg base (jT P w) 1 f fd ["self","many","most"] (Ha C):=by
 obtain⟨oc,od,kV,doc,pm,an,cdv,ct,osl,rfl,lk,hcd⟩:=F.ex
 refine y0 lk hcd Sc (fun vs H Q E ⟨_,_,_,_,h,_⟩=>by rw[h];rfl) fun A outer s H vs Q E hr h=>?_
 rw[hb]
 have v0:yK (iZ (jT P w) P w K mg base ["self","many","most"] "TooGreat.__init__" (au st) f cdv A outer s H E).env.scope "self":=.inl (hl "self" (by simp))
 have v1:yK (iZ (jT P w) P w K mg base ["self","many","most"] "TooGreat.__init__" (au st) f cdv A outer s H E).env.scope "many":=.inl (hl "many" (by simp))
 have v2:yK (iZ (jT P w) P w K mg base ["self","many","most"] "TooGreat.__init__" (au st) f cdv A outer s H E).env.scope "most":=.inl (hl "most" (by simp))
 refine⟨_,su (wK (pv 0 rfl v0) (pv 1 rfl v1) rfl) (qD (wK (pv 0 rfl v0) (pv 2 rfl v2) rfl)),?_⟩
 obtain⟨e,t,w1,w2,rfl,he,q⟩:=h
 refine⟨w1,rfl,.ref e,rfl,e,C,t,rfl,cS,c.mf,.inl ⟨he,fun dx hd hne=>?_⟩⟩
 refine⟨w2,rfl,.ref e,rfl,e,C,t,rfl,cS,c.ms,.inr ⟨dx,[("many",w1)],aL,by rw[aA hne];exact aL,hne,rfl,by simp,?_⟩⟩
 have:=q dx hd hne
 have e2:upd (upd (upd (upd H dx (.ext (gv dx [("many",w1)]))) e (.ext (fC C e t (some dx)))) dx (.ext (gv dx [("many",w1),("most",w2)]))) e (.ext (fC C e t (some dx)))=upd (upd H dx (.ext (gv dx [("many",w1),("most",w2)]))) e (.ext (fC C e t (some dx))):=by
  rw[tV hne.symm,qA,qA]
 show Q .non _
 rw[<-e2]at this
 exact this
end S7
namespace S7
open PySem PySem.Spec PyProof.Rows L2 S3
section
variable {X:Cx}{Ek:XK}
theorem Inv.forget{pins:List (Addr×Obj)}{σ:L2.St}{H:Hp}{s:Shared}{e dx:Addr}{φ:Heap->Prop}{fs:List (Str×V)}(I:L2.Inv X pins σ (upd (upd H dx (.ext (gv dx fs))) e (.ext φ)) s)(hd:H dx=none)(he:H e=none)(hne:dx≠e):
  L2.Inv X pins σ (upd H dx (.xd fs)) s:=by
 have oth:∀ b u,upd (upd H dx (.ext (gv dx fs))) e (.ext φ) b=some u->(∀ χ,u≠ .ext χ)->upd H dx (.xd fs) b=some u:=fun b u q n=>by
  by_cases h1:b=e
  ·subst h1;rw[aL]at q;cases q;exact absurd rfl (n _)
  ·rw[aA h1]at q
   by_cases h2:b=dx
   ·subst h2;rw[aL]at q;cases q;exact absurd rfl (n _)
   ·rw[aA h2]at q ⊢;exact q
 have non:∀ b,upd (upd H dx (.ext (gv dx fs))) e (.ext φ) b=none->upd H dx (.xd fs) b=none:=fun b q=>by
  by_cases h1:b=e
  ·subst h1;rw[aL]at q;cases q
  ·rw[aA h1]at q
   by_cases h2:b=dx
   ·subst h2;rw[aL]at q;cases q
   ·rw[aA h2]at q ⊢;exact q
 refine I.un (t':=s.toks) ⟨fun b o q _ _ _=>q,fun b o q _ _ _=>⟨o.slots,q⟩,fun b o _ n _=>non b n,fun b o q _=>⟨o,q⟩,fun b xs q=>oth b _ q (by intro _ z;cases z),fun b o u q=>oth b _ q (by intro _ z;cases z),fun b ps q=>⟨#[],by rw[oth b _ q (by intro _ z;cases z)];simp⟩⟩ fun b u q=>?_
 by_cases h2:b=dx
 ·subst h2
  rw[aL]at q;cases q
  have hk:=I.hok b (.ext (gv b fs)) (by rw[aA hne];exact aL)
  obtain⟨mA,h1,h2,_⟩:=hk.1
  exact⟨mA,h1,h2⟩
 ·rw[aA h2]at q
  have h1:b≠e:=fun z=>by rw[z,he]at q;cases q
  exact(I.hok b u (by rw[aA h1,aA h2];exact q)).stay (fun _ _ _ z=>z) (fun c z=>oth c _ z (by intro _ z;cases z)) fun c xs z=>oth c _ z (by intro _ z;cases z)
def AG:List D->M Out
 |[a,b]=>M.raise (.exc "TooGreat" [a,b])
 |_=>M.fail
abbrev mX(ms:az->M (List D)):cq:=fun ρ=>do let ds<-ms ρ;AG ds
theorem yq{C f:Addr}{fd:FuncData}{k:Nat}{e:Expr}{es:List Expr}{ms:az->M (List D)}{np cpos pos:Pos}(L:Leaves X Ek)(hc:X.calm=true)(eK:fu X.K=true)(hns:PySem.W.nsIn X.K mainGlobals "TooGreat"=some (some (.ref C)))(hgr:jL X.K C f=true)
  (F:FnOk X.prog X.w X.K X.mg X.base (jT X.prog X.w) k f fd ["self","many","most"] (Ha C)) (hb:Binds X.K fd ["self","many","most"] []) (hr:Room (k+1) X.A)
  (ha:SA X (tE X.K Ek) (e::es) ms) (hg:Gl X "TooGreat":=by rfl)
  (he:starEach (e::es) X.env=(false,eval e X.env)::starEach es X.env:=by rfl) (hpl:(backTo cpos (starEach es X.env)).any (·.1)=false:=by rfl):
  SS X (tE X.K Ek) (.Raise (some (.Call (.Name "TooGreat" np) (e::es) [] cpos)) none pos) (mX ms):=by
 intro pins s σ H T I h
 obtain⟨ι,S,ρ,rep,re,c⟩:=h
 obtain⟨C',EA⟩:=jo eK (show("TooGreat":Str)∈aS by decide)
 have eC:C'=C:=by
  have:=EA.ns.symm.trans hns
  cases this;rfl
 subst eC
 obtain⟨cS,⟨oI,hoI,hoc⟩,bm,N,nm,qn,bs,hdct,sn,sub,ab,col,dd,k0,k1,k2,k3,k5,mN,hC,hN,hi,tl⟩:=qm I.mod.kin EA.ck hgr
 have hm:X.mg "TooGreat"=some (.ref C'):=Jz I.mod.kin I.mod.glob EA.ns
 refine tT (k5:=k5) (k3:=k3) (k2:=k2) (k1:=k1) (k0:=k0) (nm:=nm) (q:=qn) (C:=C') (N:=N) (bm:=bm) (bs:=bs) (hdct:=hdct) (sn:=sn) (sub:=sub) (ab:=ab) (col:=col) (dd:=dd) (fI:=f) (oI:=oI) KL (by decide) KL (mN:=mN) (tl.hasType PySem.F.excBase_ValueError.hasBase) (I.ok.hd hc) (by rw[he];show(false||(backTo cpos (starEach es X.env)).any (·.1))=false;rw[hpl];rfl) hi hoc (jC I hg hm ⟨rfl,?_⟩ (by decide))
 have hargs:=ha cpos pins s σ H _ I ⟨ι,S,ρ,rep,re,ak (ah c) fun ds ι1 S1 H1 e1 rep1 c1 vs r1=>(⟨ι1,S1,ds,rep1,r1,c1⟩:∃ ι1 S1 ds,Rep X.K ι1 H1 S1/\RelDs X.K ι1 H1 ds vs/\cont X.K (tE X.K Ek) (AG ds) ι1 S1 H1 _)⟩
 rw[he]at hargs ⊢
 refine Mb (JJ hargs (fun us s2 hq2=>?_) fun _ _ z=>z)
 obtain⟨vs,H1,I1,rv,ι1,S1,ds,rep1,r1,c1⟩:=hq2
 match ds,r1,c1 with
 |[],r1,c1=>exact(ag c1).elim
 |[_],r1,c1=>exact(ag c1).elim
 |_::_::_::_,r1,c1=>exact(ag c1).elim
 | [da,db],r1,c1=>
  obtain⟨va,ws,rfl,ra,r2⟩:=r1.cons_inv
  obtain⟨vb,ws2,rfl,rb,r3⟩:=r2.cons_inv
  cases r3.nil_inv
  have hlen:us.length=2:=rv.length.symm
  refine⟨rfl,?_,I1.bk _ _ hC,hN.keeps I1.bk,tl.keeps I1.bk,I1.bk _ _ (I.mod.kin _ _ hoI),fun h' ea hm=>?_⟩
  ·show us.length<=sizeLine
   rw[hlen,J6];decide
  ·obtain⟨t,h1,h2,h3⟩:=hm.there
   have hea:H1 ea=none:=eU.gone I1.hok hm.new
   have I2:L2.Inv X pins σ (upd H1 ea (.ext (fC C' ea t none))) {s2 with heap:=h'}:=Inv.laidG (t':=s2.toks) I1 hm.keeps hm.new (AF h1)
   have hsp:Ha C' [.ref ea,va,vb] (upd H1 ea (.ext (fC C' ea t none))) (fun v H'=>v= .non/\∃ dx,upd H1 ea (.ext (fC C' ea t none)) dx=none/\dx≠ea/\H'=upd (upd (upd H1 ea (.ext (fC C' ea t none))) dx (.ext (gv dx [("many",va),("most",vb)]))) ea (.ext (fC C' ea t (some dx)))) Ek:=
    ⟨ea,t,va,vb,rfl,aL,fun dx hd hne=>⟨rfl,dx,hd,hne,rfl⟩⟩
   have rv2:aZ [V.ref ea,va,vb] (Value.ref ea::us):=.cons rfl rv
   refine Lp (KE (F.run _ X.stack _ _ ⟨Value.ref ea::us,[]⟩ (Value.ref ea::us) _ _ Ek (hr.make C' us []) (I2.env0.make C' us []) ?_ rv2 hsp) fun r s' hq'=>?_)
   ·have:=hb {s2 with heap:=h'} (Value.ref ea::us) I2.kIn (by simp[hlen])
    rw[JV]at this
    exact this
   ·cases r with
    |error x=>exact L.pass pins σ _ _ x s' I2 hq'
    | ok fl=>
     cases fl with
     |next=>exact False.elim hq'
     |brk=>exact False.elim hq'
     |cont=>exact False.elim hq'
     | ret u=>
      obtain⟨v,H',I3,rvu,ev,dx,hdx,hne,rfl⟩:=I2.after hq'
      subst ev
      have hdx':H1 dx=none:=by rw[aA hne]at hdx;exact hdx
      have e2:upd (upd (upd H1 ea (.ext (fC C' ea t none))) dx (.ext (gv dx [("many",va),("most",vb)]))) ea (.ext (fC C' ea t (some dx)))=upd (upd H1 dx (.ext (gv dx [("many",va),("most",vb)]))) ea (.ext (fC C' ea t (some dx))):=by
       rw[tV hne.symm,qA]
      rw[e2]at I3
      have hobj:s'.heap.get? ea=some {cls:=.ref C',dict:=some dx,data:=.fields #[.ref t,.none,.none,.none,.bool false,.none]}:=(I3.hok ea _ aL).1
      have I4:=Inv.forget I3 hdx' hea hne
      refine⟨rvu,t,some dx,I3.bk _ _ hC,hobj,?_⟩
      obtain⟨r',S',e',q'⟩:=c1
      cases e'
      have hb1:=I1.base
      rw[L.ex]at hb1
      refine L.new I4 hobj rfl rfl rfl rfl (by rw[aA (Ne.symm hne)];exact hea) (Un.gone hb1 (by simp) hm.new) ?_
      have hE:Ext ι1 H1 ι1 (upd H1 dx (.xd [("many",va),("most",vb)])):=dR hdx'
      exact q' ι1 _ hE (eV rep1 hdx') _ _ ⟨"TooGreat",[da,db],C',rfl,EA.ns,rfl,.inr ⟨dx,_,rfl,aL,rfl,.cons (ra.later rep1 hE) (.cons (rb.later rep1 hE) .nil)⟩⟩
end
end S7
end
namespace S7
open PySem PySem.Spec PyProof.Rows L2 S3
theorem AH{h:Heap}{dx:Addr}{mA:Str->Option Value}{f:Str}{v:Value}{od:Obj}(n:h.Ns1 dx mA)(e:h.get? dx=some od)(hv:mA f=some v):PySem.W.lookIn f od=some (some v):=by
 obtain⟨o,es,ep,e1,hd,_,_,hf⟩:=n
 rw[e]at e1;cases e1
 unfold PySem.W.lookIn
 rw[hd]
 have:=hf f
 rw[hv]at this
 unfold nsFind findBy at this
 rw[<-Mr]at this
 cases q:es.toList.find? (·.key.isStr f)with
 |none=>rw[q]at this;cases this
 |some en=>
  rw[q]at this
  have hv':en.val=v:=JI this
  rw[<-hv'];dsimp only;rw[q]
section
variable {X:Cx}{E:XD}{pins:List (Addr×Obj)}{σ:L2.St}{H:Hp}{s:Shared}
theorem tW{a C dx:Addr}{fs:List (Str×V)}{f:Str}{v:V}{b:Bool}{Q:Value->Shared->Prop}{A:Around}{E:Value->Shared->Prop}(c:ExcC X.K C)(hcd:∀ cd,PySem.W.clsIn X.K C=some cd->cd.hasDict=true)(hff:PySem.W.findIn X.K (.ref C) f=some none)(I:L2.Inv X pins σ H s)(ha:H a=some (.ext (mG C a (some dx))))(hd:H dx=some (.xd fs))(hl:fs.lookup f=some v)
  (hcp:PySem.W.copiedNames.contains f=false) (h:∀ u s',L2.Inv X pins σ H s'->RelV v u->Q u s'):wpAny (model X.prog X.w) A (getAttr (.ref a) f b) Q E s:=by
 obtain⟨⟨oe,vs,he,hc,ho,hdt⟩,_⟩:=I.hok a _ ha
 obtain⟨mA,n1,hr⟩:=(show ∃ mA,s.heap.Ns1 dx mA/\∀ f,qz (fs.lookup f) (mA f)from I.hok dx _ hd)
 obtain⟨od,es,ep,e1,_⟩:=id n1
 obtain⟨u,hu,ru⟩:=qz.some_of (v:=v) (o:=mA f) (by rw[<-hl];exact hr f)
 have J:PySem.W.InstAt s.heap a oe C (some od):=⟨he,hc,by unfold PySem.W.notCls;rw[hdt],by rw[ho];exact e1⟩
 obtain⟨cd,hcd'⟩:=Kg.mp c.cd
 have hf:PySem.W.findObj X.K C (some od) f=some (.value u):=by
  unfold PySem.W.findObj
  rw[hcd',K2,hff,K2]
  simp only[Option.bind_some]
  unfold PySem.W.ownOf
  rw[hcd cd hcd',if_pos rfl]
  dsimp only
  rw[AH n1 e1 hu]
  rfl
 unfold getAttr
 refine Jg (wpAny_mkText ?_)
 refine Ah (s:={s with toks:=s.toks+1}) I.kIn J c.ga c.gt c.be ?_
 refine pG (s:={s with toks:=s.toks+1}) I.kIn J hf ?_
 exact PySem.W.handed_on (xu ru) (h u _ (I.tok _) ru)
def wL(second:Bool):D->M D
 | .exc n [a,b]=>if n∈aS then pure (if second then b else a)else M.fail
 |_=>M.fail
abbrev iq(second:Bool)(m:TM):TM:=fun ρ=>do let x<-m ρ;wL second x
theorem wM{e:Expr}{m:TM}{pos:Pos}{second:Bool}{f:Str}(eK:fu X.K=true)(hdk:∀ n∈aS,∀ C,PySem.W.nsIn X.K mainGlobals n=some (some (.ref C))->∀ cd,PySem.W.clsIn X.K C=some cd->cd.hasDict=true)(he:SE X E e m)(hf:f=if second then "most" else "many")(hb:attributeBase e f X.env (eval e X.env)=eval e X.env:=by rfl):
  SE X E (.Attribute e f pos) (iq second m):=by
 intro pins s σ H Q I h
 refine BE hb (df (he pins s σ H (fun v H1=>∃ ι d,RelD X.K ι H1 d v/\∃ n a b va vb C dx p,d= .exc n [a,b]/\n∈aS/\v= .ref p/\PySem.W.nsIn X.K mainGlobals n=some (some (.ref C))/\H1 p=some (.ext (mG C p (some dx)))/\H1 dx=some (.xd [("many",va),("most",vb)])/\Q (if second then vb else va) H1) I ?_) fun u s1 ⟨v,H1,I1,rv,ι,d,rd,n,a,b,va,vb,C,dx,p,hd,hn,hp,hns,g1,g2,q⟩=>?_)
 ·obtain⟨ι,S,ρ,rep,re,c⟩:=h
  refine⟨ι,S,ρ,rep,re,ak (ah c) fun d ι1 S1 H1 e1 rep1 c1 v r=>⟨ι1,d,r,?_⟩⟩
  unfold wL at c1
  split at c1
  ·next n a b=>
   split at c1
   ·next hn=>
    cases r with
    | excF hns h1 h2 h3 h4=>
     rename_i p C dx fs
     match fs,h3,h4,h2 with
     |[(f1,va),(f2,vb)],h3,h4,h2=>
      have e1:f1="many":=(Mh h3).1
      have e2:f2="most":=(Mh (Mh h3).2).1
      subst e1 e2
      obtain⟨_,_,e3,ra,r2⟩:=h4.cons_inv
      obtain⟨e4,e5⟩:=Mh e3
      subst e4 e5
      obtain⟨_,_,e6,rb,_⟩:=r2.cons_inv
      obtain⟨e7,_⟩:=Mh e6
      subst e7
      refine⟨n,a,b,va,vb,C,dx,p,rfl,hn,rfl,hns,h1,h2,?_⟩
      have:=ai c1 .refl rep1
      cases second with
      |true=>exact this _ rb
      |false=>exact this _ ra
     |[],h3,_,_=>cases h3
     |[_],h3,_,_=>have:=Li List.length h3;simp at this
     |_::_::_::_,h3,_,_=>have:=Li List.length h3;simp at this
   ·exact(ag c1).elim
  ·exact(ag c1).elim
 ·subst hp
  obtain rfl:u=Value.ref p:=rv
  obtain⟨C',EA⟩:=jo eK hn
  have:=EA.ns.symm.trans hns
  cases this
  refine tW (f:=f) (v:=if second then vb else va) EA.ck (hdk n hn C hns) (by rw[hf];cases second<;>first|exact EA.ck.mf|exact EA.ck.ms) I1 g1 g2 (by rw[hf];cases second<;>rfl) (by rw[hf];cases second<;>decide) fun u' s' I' ru=>⟨_,H1,I',ru,q⟩
end
section
variable {X:Cx}{E:XD}{st:Stmt}{m:TM}{i:Nat}
theorem RelE.all{K:PySem.W.Frag}{ι ι2:List Addr}{H H2:Hp}{n:Nat}(ho:∀ e v,eJ n e=true->RelD K ι H e v->RelD K ι2 H2 e v):
  ∀{ρ:az} {σ:L2.St},RelE K ι H ρ σ->(∀ e,some e∈ρ->eJ n e=true)->RelE K ι2 H2 ρ σ
 |[],_,h,_=>by cases h;exact .nil
 |_::ρ,_,.cons h t,c=>.cons (fun d' z=>by obtain⟨v,e1,e2⟩:=h _ z;exact⟨v,e1,ho _ v (c d' (by rw[z];exact Jy ..)) e2⟩) (RelE.all ho t fun e z=>c e (Jr _ z))
theorem RelE.swap{K:PySem.W.Frag}{ι ι2:List Addr}{H H2:Hp}{n:Nat}{d u:D}(hd:∀ v,RelD K ι H d v->RelD K ι2 H2 u v)(ho:∀ e v,eJ n e=true->RelD K ι H e v->RelD K ι2 H2 e v):
  ∀{ρ:az} {i:Nat} {σ:L2.St},RelE K ι H (ρ.set i (some d)) σ->(∀ e,some e∈ρ->eJ n e=true)->RelE K ι2 H2 (ρ.set i (some u)) σ
 |[],_,_,h,_=>by cases h;exact .nil
 |_::ρ,0,_,.cons h t,c=>.cons (fun d' z=>by cases z;obtain⟨v,e1,e2⟩:=h _ rfl;exact⟨v,e1,hd v e2⟩) (RelE.all ho t fun e z=>c e (Jr _ z))
 |_::ρ,i+1,_,.cons h t,c=>.cons (fun d' z=>by obtain⟨v,e1,e2⟩:=h _ z;exact⟨v,e1,ho _ v (c d' (by rw[z];exact Jy ..)) e2⟩) (RelE.swap hd ho (ρ:=ρ) (i:=i) t fun e z=>c e (Jr _ z))
theorem AI (h:SS X E st (bq i m)):SS X E st (bq i (bL m)):=by
 intro pins s σ H T I ht
 obtain⟨ι,S,ρ,rep,re,r,S'',ee,k⟩:=ht
 have ee':(gO (m ρ)>>=fun d=>(pure (Out.nx (ρ.set i (some d))):M Out)) S=some (r,S''):=ee
 have eb:∀(c:M D),(c>>=fun d=>(pure (Out.nx (ρ.set i (some d))):M Out)) S=(match c S with|some (.ok d,S1)=>some (.ok (Out.nx (ρ.set i (some d))),S1)|some (.ex x,S1)=>some (.ex x,S1)|none=>none):=fun c=>by
  show M.bnd c _ S=_
  unfold M.bnd
  cases c S with
  |none=>rfl
  |some p=>obtain⟨r,S1⟩:=p;cases r<;>rfl
 rw[eb]at ee'
 unfold gO at ee'
 cases q:m ρ S with
 |none=>rw[q]at ee';cases ee'
 | some p=>
  obtain⟨r1,S'⟩:=p
  rw[q]at ee'
  have q2:bq i m ρ S=_:=eb (m ρ)
  rw[q]at q2
  cases r1 with
  |ex x=>
   cases ee'
   exact h pins s σ H T I ⟨ι,S,ρ,rep,re,.ex x,_,q2,k⟩
  | ok d=>
   dsimp only at ee'
   by_cases hl:S'.length<=S.length
   ·rw[if_pos hl]at ee'
    cases ee'
    exact h pins s σ H T I ⟨ι,S,ρ,rep,re,_,_,q2,k⟩
   ·rw [if_neg hl]at ee'
    by_cases hk:mw S S'
    ·rw [if_pos hk]at ee'
     cases z:gM S.length (uw S' S.length 60) d with
     |none=>rw[z]at ee';cases ee'
     | some u=>
      rw[z]at ee'
      cases ee'
      refine df (h pins s σ H {nx:=fun σ' H'=>∃ P:List Addr,∀ os,T.nx σ' (mx P os H'),rt:=fun _ _=>False} I ⟨ι,S,ρ,rep,re,_,_,q2,fun ι' H' x rep' σ' re'=>?_⟩) fun f s' hf=>?_
      ·refine⟨ι'.drop ι.length,fun os=>?_⟩
       obtain⟨x2,rep2⟩:=tQ rep x rep' hk os
       have rep2':Rep X.K ι (mx (ι'.drop ι.length) os H') (S'.take S.length):=by rw[<-rep.len];exact rep2
       have ht:ι'.take ι.length=ι:=by obtain⟨more,rfl⟩:=x.ids;simp
       refine k ι _ x2 rep2' σ' ?_
       refine RelE.swap (n:=ι.length) (d:=d) (u:=u) (fun v rv=>?_) (fun e v c r=>?_) re' fun e z=>?_
       ·have:=vz (n:=ι.length) (os:=os) (fun k us a=>by rw[rep.len];exact wI rep' 60 k us a) rep'.nd rv (by rw[rep.len];exact z)
        rw[ht]at this;exact this
       ·have:=RelD.down (n:=ι.length) (os:=os) r c
        rw[ht]at this;exact this
       ·obtain⟨j,hj⟩:=List.getElem?_of_mem z
        obtain⟨v,_,r⟩:=re.get hj
        exact r.cl
      ·cases f with
       |next=>
        obtain⟨σ',H',I',P,hq⟩:=hf
        obtain⟨os,I2⟩:=Inv.fz I' P
        exact⟨σ',_,I2,hq os⟩
       |ret v=>obtain⟨_,_,_,_,_,z⟩:=hf;exact z.elim
       |brk=>obtain⟨_,_,_,z⟩:=hf;exact z.elim
       |cont=>obtain⟨_,_,_,z⟩:=hf;exact z.elim
    ·rw[if_neg hk]at ee';cases ee'
end
def GD:Stmt->Stmt
 | .ClassDef _ _ _ (b::_) .. =>b
 |s=>s
structure GrX(P:Program)(w:World)(K:PySem.W.Frag)(mg:Str->Option Value)(base:Heap):Prop where
 ex:∃ C f fd,PySem.W.nsIn K mainGlobals "TooGreat"=some (some (.ref C))/\jL K C f=true/\FnOk P w K mg base (jT P w) 1 f fd ["self","many","most"] (Ha C)/\Binds K fd ["self","many","most"] []
theorem AJ{P:Program}{w:World}{K:PySem.W.Frag}{mg:Str->Option Value}{base h:Heap}{C f:Addr}{fd:FuncData}{st:Stmt}{p1 p2 p3 p4 p5 p6 p7 p8:Pos}(F:Fun K "__init__" "TooGreat.__init__" st f fd)(X:K.In h)(eK:fu K=true)(hns:PySem.W.nsIn K mainGlobals "TooGreat"=some (some (.ref C)))(hgr:jL K C f=true)
  (Sc:FnScope ["self","many","most"] ["self","many","most"] (au st)) (hl:∀ x∈(["self","many","most"]:List Str),(au st).names.lookup x=some .local) (hbi:Binds K fd ["self","many","most"] [])
  (hb:cU st=[.Assign [.Attribute (.Name "self" p1) "many" p2] (.Name "many" p3) p4,.Assign [.Attribute (.Name "self" p5) "most" p6] (.Name "most" p7) p8]):GrX P w K mg base:=by
 obtain⟨C',EA⟩:=jo eK (show("TooGreat":Str)∈aS by decide)
 have:=EA.ns.symm.trans hns
 cases this
 exact⟨C,f,fd,hns,hgr,Cy F (qm X EA.ck hgr).1 EA.ck Sc hl hb,hbi⟩
section
variable {X:Cx}{Ek:XK}
theorem AK{e:Expr}{es:List Expr}{ms:az->M (List D)}{np cpos pos:Pos}(L:Leaves X Ek)(hc:X.calm=true)(eK:fu X.K=true)(GR:GrX X.prog X.w X.K X.mg X.base)(hr:Room 2 X.A)
  (ha:SA X (tE X.K Ek) (e::es) ms) (hg:Gl X "TooGreat":=by rfl)
  (he:starEach (e::es) X.env=(false,eval e X.env)::starEach es X.env:=by rfl) (hpl:(backTo cpos (starEach es X.env)).any (·.1)=false:=by rfl):
  SS X (tE X.K Ek) (.Raise (some (.Call (.Name "TooGreat" np) (e::es) [] cpos)) none pos) (mX ms):=by
 obtain⟨C,f,fd,h1,h2,h3,h4⟩:=GR.ex
 exact yq L hc eK h1 h2 h3 h4 hr ha hg he hpl
end
theorem DefX.none{P:Program}{w:World}{K:PySem.W.Frag}{mg:Str->Option Value}{base:Heap}{k:Nat}{x qual:Str}{st:Stmt}{f:Addr}{fd:FuncData}{ps:List Str}(F:Fun K x qual st f fd)(hm:mg x=some (.ref f))(hb:Binds K fd ps []):DefX P w K mg base k x ps (fun _=>M.fail):=
 ⟨f,fd,⟨fun vs H Q E ⟨_,_,_,_,_,h⟩=>(ag h).elim,fun A outer s H args us vs Q E _ _ _ _ ⟨_,_,_,_,_,h⟩=>(ag h).elim⟩,hm,F.kp,hb⟩
def Cz(K:PySem.W.Frag):Bool:=aS.all fun n=>match PySem.W.nsIn K mainGlobals n with
 |some (some (.ref C))=>(match PySem.W.clsIn K C with|some cd=>cd.hasDict|none=>true)
 |_=>true
theorem Dj{K:PySem.W.Frag}(h:Cz K=true):∀ n∈aS,∀ C,PySem.W.nsIn K mainGlobals n=some (some (.ref C))->∀ cd,PySem.W.clsIn K C=some cd->cd.hasDict=true:=by
 intro n hn C hC cd hcd
 have:=JQ.mp h n hn
 rw[hC]at this
 dsimp only at this
 rw[hcd]at this
 exact this
section
variable {X:Cx}{E:XD}
theorem CA{e:Expr}{m:TM}{pos:Pos}(eK:fu X.K=true)(hd:Cz X.K=true)(he:SE X E e m)(hb:attributeBase e "many" X.env (eval e X.env)=eval e X.env:=by rfl):SE X E (.Attribute e "many" pos) (iq false m):=wM eK (Dj hd) he rfl hb
theorem CB{e:Expr}{m:TM}{pos:Pos}(eK:fu X.K=true)(hd:Cz X.K=true)(he:SE X E e m)(hb:attributeBase e "most" X.env (eval e X.env)=eval e X.env:=by rfl):SE X E (.Attribute e "most" pos) (iq true m):=wM eK (Dj hd) he rfl hb
end
end S7
namespace W
open PySem PySem.Spec PyProof.Rows L2 S3 S4 S7
def og:cq:=bA (lN (fZ (mV 0) "int") (Ca (fZ (mV 0) "bool")))
def bF:List D->M D:=kX 1 1 og
def qo:cq:=bA (lN (fZ (mV 0) "tuple") (bz pB (dI c9 (mV 0)) (mK (.int 2))))
def cM:List D->M D:=kX 1 1 qo
def gf:i9:=jX
def gh:TM:=bz v9 (mV 0) (mV 1)
def mB:cq:=bA (dI sU (bL (cg (il (mV 0) (bL (Cb (mV 0) (oS (mK (.int 1))) (oN)))) (gy 2 (cn (gN 0) (cn (gN 1) (hZ)))) gf gh [none,none])))
def dZ:List D->M D:=kX 1 1 mB
def dP:i9:=jX
def cD:i9:=jX
def b0:TM:=ij (af (mV 0) (af (mV 1) (aD)))
def oh:cq:=bA (bL (lR (mr (mV 0)) (gN 0) dP (vn (bz cQ (mV 0) (mK (.int 1))) (mV 2)) (gN 1) cD b0 [none,none,some 0]))
def cW:List D->M D:=kX 1 1 oh
def gi:i9:=jX
def gj:TM:=bz inD (mV 0) (mV 1)
def mC:cq:=bA (dI Ay (bL (cg (i6 (mV 0)) (gN 0) gi gj [none,some 1])))
def fx:List D->M D:=kX 2 2 mC
def gk:cq:=aH (kd (jl v9 (mV 1) (dI c9 (mV 0))) (bA (bz eI (mV 0) (mV 1))) (eh)) (bA (mK (.int 0)))
def cN:List D->M D:=kX 2 2 gk
def ju:cq:=aH (kd (bV (bz eI (mV 0) (mK (.int 1)))) (aH (bq 2 (bz kJ (bz eI (mV 0) (mK (.int 0))) (mV 1))) (aH (pF (bz nF (bz eI (mV 0) (mK (.int 0))) (mV 1)) (Fu (mV 0) (mK (.int 0)))) (bA (mV 2)))) (eh)) (aH (pF (bz kJ (bz cQ (bz uQ (bz eI (mV 0) (mK (.int 0))) (mK (.int 48271))) (mK (.int 29))) (mK (.int 2147483647))) (Fu (mV 0) (mK (.int 0)))) (aH (bq 3 (bz kJ (bz cQ (bz cQ (bz uQ (bz eI (mV 0) (mK (.int 0))) (bz eI (mV 0) (mK (.int 0)))) (bz uQ (mK (.int 39373)) (bz eI (mV 0) (mK (.int 0))))) (mK (.int 7))) (mK (.int 2147483629)))) (aH (bq 3 (bz kJ (bz cQ (bz uQ (mV 3) (mV 3)) (bz uQ (mK (.int 16807)) (mV 3))) (mK (.int 2147483587)))) (bA (bz kJ (bz nF (mV 3) (mK (.int 8))) (mV 1))))))
def aO:List D->M D:=kX 4 2 ju
def fD:i9:=jX
def fE:TM:=ij (af (mV 1) (af (mV 0) (aD)))
def fF:cq:=oX (uu gC (mV 1) (cg (vn (bz cQ (mV 2) (mK (.int 1))) (mV 0)) (gN 0) fD fE [none,some 2]))
def iK:cq:=aH (bq 1 (bH (aD))) (aH (ik (mr (mV 0)) (gN 2) fF) (bA (mV 1)))
def bI:List D->M D:=kX 3 1 iK
def gm:i9:=jl v9 (dI kZ (bz cQ (bz eI (mV 1) (mV 2)) (bz eI (mV 1) (mV 0)))) (mK (.int 4))
def gn:TM:=ij (af (mV 2) (af (mV 0) (aD)))
def dj:cq:=oX (uu gC (mV 2) (cg (vn (bz cQ (mV 3) (mK (.int 1))) (dI c9 (mV 1))) (gN 0) gm gn [none,some 1,some 3]))
def gH:cq:=aH (bq 1 (bz eI (mV 0) (mK (.int 1)))) (aH (bq 2 (bH (aD))) (aH (ik (mr (dI c9 (mV 1))) (gN 3) dj) (bA (ij (af (dI c9 (mV 1)) (af (dI cf (mV 2)) (aD)))))))
def d0:List D->M D:=kX 4 1 gH
def oj:cq:=bA (lN (aK bF (af (mV 1) (aD))) (rq Br v9 (mK (.int 0)) (mV 1) (mV 0)))
def eR:List D->M D:=kX 2 2 oj
def eY:cq:=kd (xX (ef (bV (bL (aK bF (af (mV 0) (aD)))))) (ef (kc Br Br (mK (.int 0)) (mV 0) (mV 1)))) (f7 "NoNumber" (af (mK (.str "this is no whole number that is taken here")) (aD))) (eh)
def br:List D->M D:=lH 2 2 eY
def iL:cq:=aH (bq 2 (aK cN (af (mV 0) (af (mV 1) (aD))))) (aH (kd (jl HS (mV 2) (bz sM (mK (.int 10)) (mK (.int 18)))) (bA (bH (af (bz lI (mV 2) (bz sM (mK (.int 10)) (mK (.int 18)))) (af (mK (.bl true)) (aD))))) (eh)) (bA (bH (af (bz kJ (mV 2) (mK (.int 2147483647))) (af (mK (.bl false)) (aD))))))
def dD:List D->M D:=kX 3 2 iL
def dG:cq:=oX (uu cV (mV 3) (uu nI (mV 2) (aK aO (af (mV 0) (af (dI c9 (mV 2)) (aD))))))
def eS:cq:=aH (bq 2 (dI sR (mV 1))) (aH (bq 3 (bH (aD))) (aH (rA 64 (jl ma (mV 2) (bH (aD))) dG) (bA (mV 3))))
def cb:List D->M D:=kX 4 2 eS
def dH:cq:=aH (bq 4 (aK aO (af (mV 0) (af (mV 1) (aD))))) (aH (bq 5 (bz kJ (bz cQ (bz cQ (mV 4) (mK (.int 1))) (aK aO (af (mV 0) (af (bz lI (mV 1) (mK (.int 1))) (aD))))) (mV 1))) (oX (uu cV (mV 2) (ij (af (aK minD (af (mV 4) (af (mV 5) (aD)))) (af (aK maxD (af (mV 4) (af (mV 5) (aD)))) (aD)))))))
def eT:cq:=aH (bq 1 (bz cQ (mK (.int 8)) (aK aO (af (mV 0) (af (mK (.int 7)) (aD)))))) (aH (bq 2 (bH (aD))) (aH (ik (mr (aK aO (af (mV 0) (af (mK (.int 12)) (aD))))) (gN 3) dH) (bA (ij (af (mV 1) (af (dI cf (dI kR (mV 2))) (aD)))))))
def bG:List D->M D:=kX 6 1 eT
def ez:cq:=aH (bq 1 (bH (aM (mK .non) (aM (mK (.int 0)) (aM (mK (.tup [])) (aM (mK (.tup [.int 15,.tup []])) (aM (mK (.tup [.int (-1),.tup []])) (aM (mK (.tup [.bl true,.tup []])) (aM (ij (af (mK (.int 2)) (af (bH (aD)) (aD)))) (aM (bH (af (mK (.int 2)) (af (mK (.tup [])) (aD)))) (aM (mK (.tup [.int 2,.tup [.tup [.int 1,.int 0]]])) (aM (mK (.tup [.int 2,.tup [.tup [.int 0,.int 0]]])) (aM (mK .emp) (aM (mK (.str "2:")) (aD))))))))))))))) (aH (bq 1 (bz cQ (mV 1) (bH (aM (mK (.tup [.int 2,.tup [.tup [.int 0,.int 1],.tup [.int 0,.int 1]]])) (aM (mK (.tup [.int 3,.tup [.tup [.int 0,.int 2],.tup [.int 0,.int 1]]])) (aM (mK (.tup [.int 2,.tup [.tup [.int 0,.int 2]]])) (aM (mK (.tup [.int 2,.tup [.tup [.int 0,.bl true]]])) (aM (mK (.tup [.int 2,.tup [.tup [.int 0,.int 1,.int 1]]])) (aD))))))))) (aH (bq 1 (bz cQ (mV 1) (bH (aM (mK (.tup [.int 2,.tup [.int 0,.int 1]])) (aM (mK (.tup [.int 2,.non])) (aM (mK (.tup [.int 2,.tup [],.tup []])) (aM (mK (.tup [.int 2])) (aM (ij (af (mK (.int 2)) (af (ij (af (bH (af (mK (.int 0)) (af (mK (.int 1)) (aD)))) (aD))) (aD)))) (aM (mK (.tup [.int 2,.tup [.non]])) (aM (mK (.tup [.str "2",.tup []])) (aM (mK (.tup [.int 0,.tup [.tup [.int 0,.int 1]]])) (aD)))))))))))) (bA (bz eI (mV 1) (aK aO (af (mV 0) (af (mK (.int 25)) (aD))))))))
def dm:List D->M D:=kX 2 1 ez
def cZ:cq:=aH (kd (jl BW (dI c9 (bz eI (mV 0) (mK (.int 1)))) (mK (.int 7))) (bA (bL (bH (af (mK (.int 12)) (af (dI c9 (bz eI (mV 0) (mK (.int 1)))) (af (mK (.int 7)) (aD))))))) (eh)) (bq 0 (bL (aK d0 (af (mV 0) (aD)))))
def om:cq:=aH (ik (mr (mV 1)) (gN 2) cZ) (bA (mV 0))
def gp:List D->M D:=kX 3 2 om
def oo:cq:=aH (kd (ef (bV (aK cM (af (mV 1) (aD))))) (bA (mK (.bl false))) (eh)) (aH (pF (mV 1) (gy 2 (cn (gN 2) (cn (gN 3) (hZ))))) (bA (lN (aK eR (af (mV 0) (af (mV 2) (aD)))) (lN (aK eR (af (mV 0) (af (mV 3) (aD)))) (bz v9 (mV 2) (mV 3))))))
def jv:List D->M D:=kX 4 2 oo
def gQ:i9:=jl v9 (aK aO (af (mV 1) (af (mK (.int 8)) (aD)))) (bz eI (bH (af (mK (.int 2)) (af (mK (.int 4)) (af (mK (.int 6)) (aD))))) (bz kJ (mV 2) (mK (.int 3))))
def gR:TM:=mV 0
def gS:cq:=oX (uu cV (mV 4) (dI cf (dI dz (bH (af (bz eI (mV 5) (mV 6)) (af (bz eI (mV 5) (bz eI (bH (aM (bz lI (mV 6) (mK (.int 1))) (aM (bz lI (mV 6) (mK (.int 1))) (aM (mK (.int 0)) (aM (bz nF (mV 6) (mK (.int 2))) (aD)))))) (bz lI (mV 3) (mK (.int 3))))) (aD)))))))
def eZ:i9:=jl pB (aK aO (af (mV 1) (af (mK (.int 12)) (aD)))) (mK (.int 0))
def e8:TM:=mV 0
def fe:i9:=jl ma (bz inD (mV 0) (mV 1)) (bz inD (mV 0) (mV 2))
def ff:TM:=mV 0
def kh:cq:=aH (bq 2 (aK maxD (af (mK (.int 0)) (af (bz lI (mV 1) (bz eI (bH (aM (mK (.int 0)) (aM (mK (.int 0)) (aM (mK (.int 1)) (aM (mK (.int 0)) (aM (mK (.int 2)) (aM (mK (.int 1)) (aM (mK (.int 3)) (aM (mV 1) (aD)))))))))) (aK aO (af (mV 0) (af (mK (.int 8)) (aD)))))) (aD))))) (aH (bq 3 (aK aO (af (mV 0) (af (mK (.int 7)) (aD))))) (aH (bq 4 (cg (i6 (aK bI (af (mV 2) (aD)))) (gN 0) gQ gR [none,some 0,some 3])) (aH (bq 5 (aK cb (af (mV 0) (af (dI iF (mV 2)) (aD))))) (aH (kd (jl BW (mV 3) (mK (.int 2))) (aH (bq 4 (bH (aD))) (aH (ik (vn (mK (.int 1)) (mV 2)) (gN 6) gS) (aH (kd (Cc (jl pB (mV 3) (mK (.int 4))) (jl BW (mV 2) (mK (.int 2)))) (oX (uu cV (mV 4) (dI cf (dI dz (bH (af (bz eI (mV 5) (mK (.int 0))) (af (bz eI (mV 5) (bz lI (mV 2) (mK (.int 1)))) (aD)))))))) (eh)) (aH (bq 7 (cg (i6 (aK bI (af (mV 2) (aD)))) (gN 0) eZ e8 [none,some 0])) (bq 4 (cg (i6 (aK bI (af (mV 2) (aD)))) (gN 0) fe ff [none,some 4,some 7])))))) (eh)) (bA (ij (af (mV 2) (af (dI cf (dI dz (mV 4))) (aD)))))))))
def dn:List D->M D:=kX 8 2 kh
def gI:i9:=jX
def gJ:TM:=bL (aK jv (af (mV 1) (af (mV 0) (aD))))
def oq:cq:=aH (kd (ef (bV (bL (aK cM (af (mV 0) (aD)))))) (bA (mK (.bl false))) (eh)) (aH (pF (mV 0) (gy 2 (cn (gN 1) (cn (gN 2) (hZ))))) (aH (kd (xX (ef (bV (bL (aK bF (af (mV 1) (aD)))))) (xX (ef (kc Br Br (mK (.int 0)) (mV 1) (mK (.int 14)))) (ef (bV (fZ (mV 2) "tuple"))))) (bA (mK (.bl false))) (eh)) (bA (lN (dI sU (bL (cg (i6 (mV 2)) (gN 0) gI gJ [none,some 1]))) (bL (aK dZ (af (mV 2) (aD))))))))
def ir:List D->M D:=kX 3 1 oq
def ki:cq:=kd (ef (bV (bL (aK ir (af (mV 0) (aD)))))) (f7 "NoWeb" (af (mK (.str "this is no web")) (aD))) (eh)
def bR:List D->M D:=lH 1 1 ki
def dW:cq:=aH (oX (bL (aK bR (af (mV 0) (aD))))) (kd (jl BW (dI c9 (bz eI (mV 0) (mK (.int 1)))) (mK (.int 7))) (mX (af (dI c9 (bz eI (mV 0) (mK (.int 1)))) (af (mK (.int 7)) (aD)))) (eh))
def cu:List D->M D:=lH 1 1 dW
def fN:i9:=bV (bL (aK fx (af (bz eI (mV 2) (mV 0)) (af (bz eI (mV 2) (mV 1)) (aD)))))
def fO:TM:=ij (af (mV 0) (af (mV 1) (aD)))
def jM:cq:=aH (oX (bL (aK cu (af (mV 0) (aD))))) (aH (bq 1 (bz eI (mV 0) (mK (.int 1)))) (aH (bq 2 (dI c9 (mV 1))) (bA (ij (af (mV 2) (af (dI cf (bL (yh (cg (i6 (bL (aK cW (af (mV 2) (aD))))) (gy 2 (cn (gN 0) (cn (gN 1) (hZ)))) fN fO [none,none,some 1])))) (aD)))))))
def fS:List D->M D:=lH 3 1 jM
def gq(F:List D->M D):i9:=jX
def gr(F:List D->M D):TM:=bL (aK F (af (mV 0) (af (mV 1) (aD))))
def dq(F:List D->M D):cq:=aH (kd (bV (wy (mV 1) "tuple" "list")) (aH (kd (xX (jl ma (fZ (mV 0) "tuple") (fZ (mV 1) "tuple")) (jl ma (fZ (mV 0) "list") (fZ (mV 1) "list"))) (bA (mK (.bl false))) (eh)) (aH (kd (jl ma (dI c9 (mV 0)) (dI c9 (mV 1))) (bA (mK (.bl false))) (eh)) (bA (dI sU (bL (cg (il (mV 0) (mV 1)) (gy 2 (cn (gN 0) (cn (gN 1) (hZ)))) (gq F) (gr F) [none,none])))))) (eh)) (bA (lN (bz pB (mV 0) (mV 1)) (bz pB (fZ (mV 0) "bool") (fZ (mV 1) "bool"))))
def cA:Nat->List D->M D
 |0=>fun _=>M.fail
 |n+1=>kX 2 2 (dq (cA n))
def cT:List D->M D:=cA 6
def cw:cq:=bq 2 (bL (aK fS (af (mV 2) (aD))))
def dE:cq:=aH (oX (bL (aK bR (af (mV 0) (aD))))) (aH (oX (bL (aK br (af (mV 1) (af (mK (.int 6)) (aD)))))) (aH (bq 2 (mV 0)) (aH (ik (mr (mV 1)) (gN 3) cw) (bA (mV 2)))))
def bu:List D->M D:=lH 4 2 dE
def bN:i9:=bV (bz eI (mV 1) (mV 0))
def bO:TM:=mV 0
def eA(fv:D)(cc:M D):cq:=aH (bq 1 (mK .non)) (aH (tK 0 2 1 fv cc) (aH (bq 3 (bH (af (bW (mV 1) "NoWeb") (af (bW (mV 1) "NoPlace") (af (bW (mV 1) "NoPlaces") (aD)))))) (aH (bq 3 (bz cQ (mV 3) (bL (bH (af (bW (mV 1) "NoMap") (af (bW (mV 1) "NoSharing") (af (bW (mV 1) "NoRoot") (aD)))))))) (aH (bq 3 (bz cQ (mV 3) (bL (bH (af (bW (mV 1) "NoNumber") (af (bW (mV 1) "NotJoined") (af (bW (mV 1) "NoTie") (aD)))))))) (aH (bq 3 (bz cQ (mV 3) (bL (bH (af (bW (mV 1) "NoText") (af (bW (mV 1) "NoLine") (af (bW (mV 1) "NoDeed") (aD)))))))) (aH (oX (uu cV (mV 3) (bW (mV 1) "TooGreat"))) (aH (kd (ef (bV (lQ (mV 1)))) (bA (mK .non)) (eh)) (aH (bq 4 (bL (cg (mr (mK (.int 13))) (gN 0) bN bO [none,some 3]))) (bA (Ft (jl pB (mV 4) (bL (bH (af (mK (.int 12)) (aD))))) (bL (bz cQ (mV 4) (bL (bH (af (iq false (mV 1)) (af (iq true (mV 1)) (aD))))))) (mV 4)))))))))))
def bw:D->M D->List D->M D:=fun fv cc es=>lH 5 1 (eA fv cc) (fv::es)
def bh:M D->List D->M D:=bw (.fn 0 0 "" [] [])
def ot:TM:=bL (aK bu (af (mV 0) (af (mV 1) (aD))))
def jw:cq:=aH (bq 6 (bL (aK gp (af (mV 4) (af (mV 5) (aD)))))) (kd (bV (fZ (mV 6) "list")) (kd (jl ma (bL (rE [4,5] (aD) ot bh)) (mV 6)) (bA (mK (.bl false))) (eh)) (kd (ef (bV (bL (aK cT (af (bL (aK bu (af (mV 4) (af (mV 5) (aD))))) (af (mV 6) (aD))))))) (bA (mK (.bl false))) (eh)))
def ou:TM:=bL (aK bu (af (mV 0) (af (mV 1) (aD))))
def lb:cq:=aH (ik (mr (mK (.int 7))) (gN 5) jw) (aH (bq 7 (bz eI (bL (bH (aM (mK (.int (-1))) (aM (mK (.int 7)) (aM (mK (.bl true)) (aM (mK .non) (aM (mK (.str "1")) (aM (mK (.tup [.int 1])) (aM (bz sM (mK (.int 10)) (mK (.int 29))) (aD)))))))))) (bL (aK aO (af (mV 2) (af (mK (.int 7)) (aD))))))) (kd (jl ma (bL (rE [4,7] (aD) ou bh)) (bL (bH (af (mK (.int 6)) (aD))))) (bA (mK (.bl false))) (eh)))
def oy:TM:=bL (aK bu (af (mV 0) (af (mV 1) (aD))))
def jx:cq:=aH (bq 2 (aK dD (af (mV 0) (af (mV 1) (aD))))) (aH (bq 3 (bH (af (bL (aK dn (af (mV 2) (af (mK (.int 6)) (aD))))) (af (bL (aK bG (af (mV 2) (aD)))) (af (bL (aK dn (af (mV 2) (af (mK (.int 5)) (aD))))) (aD)))))) (aH (pF (ij (af (bz eI (bz eI (mV 3) (mK (.int 2))) (mK (.int 0))) (af (bL (Cb (bz eI (bz eI (mV 3) (mK (.int 2))) (mK (.int 1))) (oN) (oS (mK (.int 4))))) (aD)))) (Fu (mV 3) (mK (.int 2)))) (aH (ik (i6 (mV 3)) (gN 4) lb) (aH (bq 8 (bL (aK dm (af (mV 2) (aD))))) (kd (jl ma (bL (rE [8,7] (aD) oy bh)) (bL (bH (af (mK (.int 0)) (aD))))) (bA (mK (.bl false))) (eh))))))
def AL:cq:=aH (ik (mr (aK maxD (af (mK (.int 1)) (af (aK minD (af (dI c9 (mV 0)) (af (mK (.int 8)) (aD)))) (aD))))) (gN 1) jx) (bA (mK (.bl true)))
def qp:List D->M D:=kX 9 1 AL
end W
namespace S3
open PySem PySem.Spec PyProof.Rows L2 S4
mutual
theorem rG{n:Nat}{g:Nat->Option (List D)}:∀ d,eJ n d=true->gM n g d=some d
 | .lst k,h=>by unfold eJ at h;unfold gM;rw[if_pos (Kh h)]
 | .tup ds,h=>by unfold eJ at h;unfold gM;rw[gK ds h];rfl
 | .ro ds,h=>by unfold eJ at h;unfold gM;rw[gK ds h];rfl
 | .fz ds,h=>by unfold eJ at h;unfold gM;rw[gK ds h];rfl
 | .fn _ _ _ ds _,h=>by unfold eJ at h;unfold gM;rw[gK ds h];rfl
 | .exc _ ds,h=>by unfold eJ at h;unfold gM;rw[gK ds h];rfl
 | .non,_=>by unfold gM;rfl
 | .bl _,_=>by unfold gM;rfl
 | .int _,_=>by unfold gM;rfl
 | .str _,_=>by unfold gM;rfl
 | .emp,_=>by unfold gM;rfl
theorem gK{n:Nat}{g:Nat->Option (List D)}:∀ ds,de n ds=true->fw n g ds=some ds
 |[],_=>by unfold fw;rfl
 |d::ds,h=>by
  unfold de at h
  rw[Kz]at h
  unfold fw
  rw[rG d h.1,gK ds h.2]
end
mutual
theorem wN{m n:Nat}(hmn:m<=n):∀ d,eJ m d=true->eJ n d=true
 | .lst k,h=>by unfold eJ at h ⊢;exact JK (Jx (Kh h) hmn)
 | .tup ds,h=>by unfold eJ at h ⊢;exact iM hmn ds h
 | .ro ds,h=>by unfold eJ at h ⊢;exact iM hmn ds h
 | .fz ds,h=>by unfold eJ at h ⊢;exact iM hmn ds h
 | .fn _ _ _ ds _,h=>by unfold eJ at h ⊢;exact iM hmn ds h
 | .exc _ ds,h=>by unfold eJ at h ⊢;exact iM hmn ds h
 | .non,_=>by unfold eJ;rfl
 | .bl _,_=>by unfold eJ;rfl
 | .int _,_=>by unfold eJ;rfl
 | .str _,_=>by unfold eJ;rfl
 | .emp,_=>by unfold eJ;rfl
theorem iM{m n:Nat}(hmn:m<=n):∀ ds,de m ds=true->de n ds=true
 |[],_=>by unfold de;rfl
 |d::ds,h=>by
  unfold de at h ⊢
  rw[Kz]at h ⊢
  exact⟨wN hmn d h.1,iM hmn ds h.2⟩
end
section
variable {c:M D}{S:aj}{Q:D->aj->Prop}{v:D}
theorem lg:gO (pure v)=pure v:=by
 funext S
 show(if S.length<=S.length then _ else _)=_
 rw[if_pos (Jj _)]
 rfl
theorem AM{x:D}:gO (M.raise x)=M.raise x:=rfl
theorem rH{S':aj}{d u:D}(e:c S=some (.ok d,S'))(hk:mw S S')(hl:S.length<S'.length\/u=d)(hn:S.length<=S'.length)(hu:gM S.length (uw S' S.length 60) d=some u):gO c S=some (.ok u,S'.take S.length):=by
 unfold gO
 rw[e]
 dsimp only
 by_cases h:S'.length<=S.length
 ·have hd:u=d:=hl.resolve_left (by omega)
  rw[if_pos h,hd,List.take_of_length_le h]
 ·rw[if_neg h,if_pos hk,hu]
theorem CC(h:runs c S fun d S'=>mw S S'/\S.length<=S'.length/\eJ S.length d=true/\Q d (S'.take S.length)):runs (gO c) S Q:=by
 obtain⟨d,S',e,hk,hl,hd,q⟩:=h
 exact⟨d,_,rH e hk (.inr rfl) hl (rG d hd),q⟩
theorem oz{G:aj}:mw S (S++G):=fun k xs hk e=>.inl (by rw[Jp hk]at e;exact e)
theorem AN(h:runs c S fun d S'=>(∃ G,S'=S++G)/\eJ S.length d=true/\Q d S):runs (gO c) S Q:=by
 obtain⟨d,S',e,⟨G,rfl⟩,hd,q⟩:=h
 exact CC ⟨d,_,e,oz,by simp,hd,by simpa using q⟩
theorem tX(h:runs c S fun d S'=>∃ G p us,d= .lst p/\S'=S++G/\S'[p]? =some us/\S.length<=p/\de S.length us=true/\Q (.fz us) S):runs (gO c) S Q:=by
 obtain⟨d,S',e,G,p,us,rfl,rfl,hp,hl,hu,q⟩:=h
 have hp2:=(Jn.mp hp).1
 refine⟨.fz us,S,?_,q⟩
 have:=rH (u:=.fz us) e oz (.inl (by omega)) (by simp) (by
  unfold gM
  rw[if_neg (by omega)]
  show(((S++G)[p]?).bind fun xs=>fw S.length (uw (S++G) S.length 59) xs).map D.fz=_
  rw[hp,K2,gK us hu];rfl)
 rw[this];simp
theorem cF{α:Type}{c:M α}{v:α}(h:∀ S,runs c S fun d S'=>d=v/\S'=S):c=pure v:=by
 funext S
 obtain⟨d,S',e,rfl,rfl⟩:=h S
 exact e
theorem Dk(hv:eJ 0 v=true)(h:∀ S,runs c S fun d S'=>d=v/\∃ G,S'=S++G):gO c=pure v:=
 cF fun S=>AN (bE (h S) fun d S' ⟨e,g⟩=>⟨g,by rw[e];exact wN (JE _) v hv,e,rfl⟩)
theorem CD{us:List D}(hv:de 0 us=true)(h:∀ S,runs c S fun d S'=>∃ G p,d= .lst p/\S'=S++G/\S'[p]? =some us/\S.length<=p):gO c=pure (.fz us):=
 cF fun S=>tX (bE (h S) fun d S' ⟨G,p,e1,e2,e3,e4⟩=>⟨G,p,us,e1,e2,e3,e4,iM (JE _) us hv,rfl,rfl⟩)
theorem fh{us:List D}(hv:de 0 us=true)(hl:us.length<=lim):gO (bo us)=pure (.fz us):=
 CD hv fun S=>xZ.mpr ⟨hl,[us],S.length,rfl,rfl,by simp,Jj _⟩
end
theorem cO{its:List D}:dX ⟨its,.none⟩=pure ():=by
 funext S
 unfold dX
 rw[if_pos (show Iter.okS ⟨its,.none⟩ S from trivial)];rfl
section
variable {its:List D}{g:i4}{t:az->M Bool}{m:TM}
theorem tY(R:az->Prop)(q:D->Bool)(f:D->D):∀(items:List D) (ρ:az),R ρ->(∀ d∈items,∀ ρ,R ρ->∃ ρ1,g d ρ=pure ρ1/\R ρ1/\t ρ1=pure (q d)/\(q d=true->m ρ1=pure (f d)))->
  cI ⟨its,.none⟩ g t m items ρ=pure ((items.filter q).map f)
 |[],ρ,_,_=>by unfold cI;rw[cO];rfl
 |d::ds,ρ,hR,hb=>by
  obtain⟨ρ1,e1,hR1,e2,e3⟩:=hb d (Jy ..) ρ hR
  have ih:=tY R q f ds ρ1 hR1 fun x hx=>hb x (Jr _ hx)
  unfold cI
  rw[cO,ao,e1,ao,e2,ao,ih]
  cases hq:q d with
  |true=>rw[LH hq,if_pos rfl,e3 hq,ao];rfl
  |false=>rw[LJ (by rw[hq];decide),if_neg (by decide)]
theorem rJ{ρ:az}(R:az->Prop)(q:D->Bool)(f:D->D)(hl:its.length<=lim)(hR:R ρ)(hb:∀ d∈its,∀ ρ,R ρ->∃ ρ1,g d ρ=pure ρ1/\R ρ1/\t ρ1=pure (q d)/\(q d=true->m ρ1=pure (f d))):
  d8 ⟨its,.none⟩ g t m ρ=pure ((its.filter q).map f):=by
 unfold d8
 rw[if_pos hl]
 exact tY R q f its ρ hR hb
theorem wO{bd:BM}(R:az->Prop)(q:D->Bool)(f:D->List D):∀(items:List D) (ρ:az),R ρ->(∀ d∈items,∀ ρ,R ρ->∃ ρ1,g d ρ=pure ρ1/\t ρ1=pure (q d)/\(q d=true->∃ ρ2,R ρ2/\bd ρ1=pure (f d,ρ2))/\(q d=false->R ρ1))->
  ∃ ρ',R ρ'/\cB ⟨its,.none⟩ g t bd items ρ=pure ((items.filter q).flatMap f,ρ')
 |[],ρ,hR,_=>⟨ρ,hR,by unfold cB;rw[cO];rfl⟩
 | d::ds,ρ,hR,hb=>by
  obtain⟨ρ1,e1,e2,e3,e4⟩:=hb d (Jy ..) ρ hR
  have hb':=fun x hx=>hb x (Jr d hx)
  cases hq:q d with
  |true=>
   obtain⟨ρ2,hR2,e5⟩:=e3 hq
   obtain⟨ρ',hR',ih⟩:=wO R q f ds ρ2 hR2 hb'
   refine⟨ρ',hR',?_⟩
   unfold cB
   rw[cO,ao,e1,ao,e2,ao,hq,if_pos rfl,e5,ao]
   show(cB _ g t bd ds ρ2>>=_)=_
   rw[ih,ao,LH hq];rfl
  |false=>
   obtain⟨ρ',hR',ih⟩:=wO R q f ds ρ1 (e4 hq) hb'
   refine⟨ρ',hR',?_⟩
   unfold cB
   rw[cO,ao,e1,ao,e2,ao,hq,if_neg (by decide),ih,LJ (by rw[hq];decide)]
end
end S3
namespace W
open PySem PySem.Spec PyProof.Rows L2 S3 S4 S7
theorem i7:2<=lim:=by unfold lim;omega
theorem vE:3<=lim:=by unfold lim;omega
theorem wQ{d:D}{r:az}:uM (some d::r) 0=pure d:=rfl
theorem wR{o0:Option D}{d:D}{r:az}:uM (o0::some d::r) 1=pure d:=rfl
theorem wU{o0 o1:Option D}{d:D}{r:az}:uM (o0::o1::some d::r) 2=pure d:=rfl
theorem wV{o0 o1 o2:Option D}{d:D}{r:az}:uM (o0::o1::o2::some d::r) 3=pure d:=rfl
theorem wW{o0 o1 o2 o3:Option D}{d:D}{r:az}:uM (o0::o1::o2::o3::some d::r) 4=pure d:=rfl
theorem AO{o0 o1 o2 o3 o4:Option D}{d:D}{r:az}:uM (o0::o1::o2::o3::o4::some d::r) 5=pure d:=rfl
theorem AQ{o0 o1 o2 o3 o4 o5:Option D}{d:D}{r:az}:uM (o0::o1::o2::o3::o4::o5::some d::r) 6=pure d:=rfl
theorem AR{o0 o1 o2 o3 o4 o5 o6:Option D}{d:D}{r:az}:uM (o0::o1::o2::o3::o4::o5::o6::some d::r) 7=pure d:=rfl
theorem AS{o0 o1 o2 o3 o4 o5 o6 o7:Option D}{d:D}{r:az}:uM (o0::o1::o2::o3::o4::o5::o6::o7::some d::r) 8=pure d:=rfl
theorem ID{o0 o1 o2 o3 o4 o5 o6 o7 o8:Option D}{d:D}{r:az}:uM (o0::o1::o2::o3::o4::o5::o6::o7::o8::some d::r) 9=pure d:=rfl
theorem Ij{o0 o1 o2 o3 o4 o5 o6 o7 o8 o9:Option D}{d:D}{r:az}:uM (o0::o1::o2::o3::o4::o5::o6::o7::o8::o9::some d::r) 10=pure d:=rfl
theorem Ik{o0 o1 o2 o3 o4 o5 o6 o7 o8 o9 o10:Option D}{d:D}{r:az}:uM (o0::o1::o2::o3::o4::o5::o6::o7::o8::o9::o10::some d::r) 11=pure d:=rfl
end W
local macro_rules
 | `(tactic|simp! only[$xs,*] $[$l]?)=> `(tactic|simp only[$xs,*,Nat.zero_add,Nat.reduceAdd,Nat.reduceSub,S3.cg,S3.ik,S3.b9,S3.bM,S3.Af,S3.Gu,S3.Gv,S3.xZ,S3.Fw,S3.Fx,S3.EF,S3.xY,List.map_cons,List.map_nil,List.replicate,List.cons_append,List.nil_append,List.set_cons_succ,List.set_cons_zero,S3.outD,S3.nB,S3.mV,S3.mK,S3.lN,S3.Ia,S3.Ca,S3.Ft,S3.aD,S3.af,S3.ij,S3.bH,S3.aM,S3.aK,S3.dI,S3.bz,S3.rq,S3.oN,S3.oS,S3.Cb,S3.EC,S3.fZ,S3.wy,S3.uu,S3.bV,S3.jl,S3.kc,S3.rz,S3.ef,S3.Cc,S3.xX,S3.jX,S3.mr,S3.vn,S3.i6,S3.ED,S4.il,S7.yh,S7.Dh,S3.gN,S3.Fu,S3.eh,S3.aH,S3.oX,S3.bA,S3.kd,S3.bq,S3.pF,S3.EE,S3.rA,S3.gy,S3.cn,S3.hZ,List.length_cons,List.length_nil,Bool.not_true,Bool.not_false,Bool.false_eq_true,if_true,if_false,Bool.true_eq_false,W.wQ,W.wR,W.wU,W.wV,W.wW,W.AO,W.AQ,W.AR,W.AS,W.ID,W.Ij,W.Ik] $[$l]?)
namespace W
open PySem PySem.Spec PyProof.Rows L2 S3 S4 S7
theorem yr{α:Type}{c:M α}{S:aj}{Q:α->aj->Prop}:runs (jU c) S Q↔runs c S Q:=by
 constructor
 ·rintro⟨a,S',e,q⟩
  unfold jU at e
  cases z:c S with
  |none=>rw[z]at e;cases e
  |some p=>
   obtain⟨r,S1⟩:=p
   rw[z]at e
   cases r with
   |ok b=>cases e;exact⟨a,S',z,q⟩
   |ex x=>cases e
 ·rintro⟨a,S',e,q⟩
  exact⟨a,S',by unfold jU;rw[e],q⟩
theorem iN{N n:Nat}{m:cq}{ds:List D}{S:aj}{Q:D->aj->Prop}(h:ds.length=n):runs (kX N n m ds) S Q↔runs (m (ds.map some++List.replicate (N - n) none)) S (fun o S'=>runs (outD o) S' Q):=by
 unfold kX lH
 rw[if_pos h,b9,yr]
theorem jN{S:aj}{n:Nat}{i:Int}:i5 S n (.int i)=some (.int i):=by cases n<;>rfl
theorem lS{S:aj}{n:Nat}{b:Bool}:i5 S n (.bl b)=some (.bool b):=by cases n<;>rfl
theorem eq_int{S:aj}{a b:Int}{Q:D->aj->Prop}:runs (pB (.int a) (.int b)) S Q↔Q (.bl (decide (a=b))) S:=by
 unfold pB
 rw[gE jN jN]
 have:PyData.eqv (.int a) (.int b)=decide (a=b):=by
  simp only[PyData.eqv]
  rw[LK];simp
 rw[this]
theorem pI{it:Iter}{g:i4}{t:i9}{m:TM}{ρ:az}{S:aj}{Q:List D->aj->Prop}(R:az->Prop)(f:D->D)(hl:it.items.length<=lim)(hc:it.chk= .none)(hR:R ρ)
  (hturn:∀ d∈it.items,∀ ρ,R ρ->runs (g d ρ) S (fun ρ1 S1=>S1=S/\R ρ1/\runs (t ρ1) S (fun k S2=>k=true/\S2=S/\runs (m ρ1) S (fun y S3=>S3=S/\y=f d)))) (hQ:Q (it.items.map f) S):runs (d8 it g t m ρ) S Q:=by
 obtain⟨items,chk⟩:=it
 simp only at hl hc hturn hQ
 subst hc
 refine kT hl (fun ds ρ ys S'=>S'=S/\R ρ/\∃ pre,items=pre++ds/\ys=pre.map f) (fun _ _ _ _ _=>trivial) ?_ ⟨rfl,hR,[],rfl,rfl⟩ ?_
 ·rintro d ds ρ ys S' ⟨rfl,hr,pre,e,rfl⟩
  refine bE (hturn d (by rw[e];simp) ρ hr) fun ρ1 S1 ⟨e1,r1,h1⟩=>?_
  subst e1
  refine bE h1 fun k S2 ⟨ek,e2,h2⟩=>?_
  subst ek e2
  rw[if_pos rfl]
  refine bE h2 fun y S3 ⟨e3,ey⟩=>?_
  subst e3 ey
  exact⟨rfl,r1,pre++[d],by rw[e];simp,by simp⟩
 ·rintro ρ' zs S' ⟨rfl,_,pre,e,rfl⟩
  rw[JV]at e
  subst e
  exact hQ
theorem mD(l:List Bool):boolsOf (l.map D.bl)=some l:=by
 induction l with
 |nil=>rfl
 |cons b l ih=>simp[boolsOf,ih]
theorem aV{S:aj}{xs:List D}:(S++[xs])[S.length]? =some xs:=by simp
theorem GE{S:aj}{a b:Bool}{Q:D->aj->Prop}:runs (pB (.bl a) (.bl b)) S Q↔Q (.bl (a==b)) S:=by
 unfold pB
 rw[gE lS lS]
 have:PyData.eqv (.bool a) (.bool b)=(a==b):=by cases a<;>cases b<;>simp[PyData.eqv]
 rw[this]
theorem yt{α:Type}(a:α):jU (pure a:M α)=pure a:=rfl
theorem CF{α β:Type}{c:Prop} [Decidable c]{a b:M α}{f:α->M β}:((if c then a else b)>>=f)=if c then a>>=f else b>>=f:=by split<;>rfl
theorem yu{α β:Type}{x:D}{f:α->M β}:((M.raise x:M α)>>=f)=M.raise x:=rfl
theorem iu{α:Type}(l:List α):l.filter (fun _=>true)=l:=List.filter_eq_self.mpr fun _ _=>rfl
theorem fG{N n:Nat}{m:cq}{ds:List D}{o:Out}{d:D}(h:m (ds.map some++List.replicate (N - n) none)=pure o)(ho:outD o=pure d)(hl:ds.length=n:=by rfl):kX N n m ds=pure d:=by
 unfold kX lH
 rw[if_pos hl]
 show(jU (m _)>>=outD)=_
 rw[h,yt,ao,ho]
theorem AU{m n:TM}{ρ:az}{x y:D}(h1:m ρ=pure x)(h2:n ρ=pure y):vn m n ρ=gD [x,y]:=by
 have:af m (af n aD) ρ=pure [x,y]:=by unfold af;rw[h1,ao,h2,ao];rfl
 unfold vn;rw[this,ao]
theorem kj{m:TM}{ρ:az}{x:D}(h1:m ρ=pure x):mr m ρ=jj [x]:=by
 have:af m aD ρ=pure [x]:=by unfold af;rw[h1,ao];rfl
 unfold mr;rw[this,ao]
theorem GF{i j:Int}(h: -(2 ^ 62)<=i/\i<2 ^ 62/\ -(2 ^ 62)<=j/\j<2 ^ 62):gD [.int i,.int j]=pure ⟨aI i (j - i).toNat,.none⟩:=by unfold gD;exact if_pos h
theorem vF{j:Int}(h: -(2 ^ 62)<=j/\j<2 ^ 62):jj [.int j]=pure ⟨aI 0 j.toNat,.none⟩:=by unfold jj;exact if_pos h
theorem fK{f:D->D->M D}{m n:TM}{ρ:az}{x y:D}(h1:m ρ=pure x)(h2:n ρ=pure y):bz f m n ρ=f x y:=by unfold bz;rw[h1,ao,h2,ao]
theorem EZ{bs:List Bool}:Ay [.fz (bs.map D.bl)]=pure (.bl (bs.any id)):=by
 show(match boolsOf (bs.map D.bl)with|some bs=>(pure (D.bl (bs.any id)):M D)|none=>M.fail)=_
 rw[mD]
theorem iw{f:List D->M D}{m:TM}{ρ:az}{x:D}(h:m ρ=pure x):dI f m ρ=f [x]:=by
 have:af m aD ρ=pure [x]:=by unfold af;rw[h,ao];rfl
 unfold dI aK;rw[this,ao]
theorem fH{m:TM}{ρ:az}{x:D}(h:m ρ=pure x):bA m ρ=pure (.ret x):=by unfold bA;rw[h];rfl
theorem rK(bs:List Bool):de 0 (bs.map D.bl)=true:=by
 induction bs with
 |nil=>rfl
 |cons x r ih=>rw[JT];unfold de;rw[ih];unfold eJ;rfl
theorem lh{mi:az->M Iter}{g:i4}{t:i9}{m:TM}{js:List (Option Nat)}{ρ:az}{its:List D}(R:az->Prop)(q:D->Bool)(f:D->D)(hi:mi ρ=pure ⟨its,.none⟩)(hl:its.length<=lim)(hR:R (jS js ρ))(hb:∀ d∈its,∀ ρ,R ρ->∃ ρ1,g d ρ=pure ρ1/\R ρ1/\t ρ1=pure (q d)/\(q d=true->m ρ1=pure (f d)))
  (hc:de 0 ((its.filter q).map f)=true):bL (cg mi g t m js) ρ=pure (.fz ((its.filter q).map f)):=by
 have e:cg mi g t m js ρ=bo ((its.filter q).map f):=by
  unfold cg
  rw[hi,ao,rJ R q f hl hR hb,ao]
 unfold bL
 rw[e]
 exact fh hc (by rw[Jl];exact Ju (Ku _ _) hl)
section
variable {m n:cq}{ρ ρ':az}{e e1 e2:TM}{x y d:D}{t:i9}{b:Bool}{o:Out}{N k:Nat}{ds:List D}{F:List D->M D}
theorem bP(h:m ρ=pure (.nx ρ')):aH m n ρ=n ρ':=by unfold aH;rw[h];rfl
theorem jz(h:m ρ=pure (.ret d)):aH m n ρ=pure (.ret d):=by unfold aH;rw[h];rfl
theorem kl(h:m ρ=M.raise x):aH m n ρ=M.raise x:=by unfold aH;rw[h];rfl
theorem tZ(h:e ρ=pure x):oX e ρ=pure (.nx ρ):=by unfold oX;rw[h];rfl
theorem oA(h:e ρ=M.raise x):oX e ρ=M.raise x:=by unfold oX;rw[h];rfl
theorem lU{i:Nat}(h:e ρ=pure x):bq i e ρ=pure (.nx (ρ.set i (some x))):=by unfold bq;rw[h];rfl
theorem yw{i:Nat}(h:e ρ=M.raise x):bq i e ρ=M.raise x:=by unfold bq;rw[h];rfl
theorem d4(h:t ρ=pure b):kd t m n ρ=if b=true then m ρ else n ρ:=by unfold kd;rw[h];rfl
theorem iO{f:D->D->M D}(h1:e1 ρ=pure x)(h2:e2 ρ=pure y)(h:f x y=pure (.bl b)):jl f e1 e2 ρ=pure b:=by
 unfold jl;rw[h1,ao,h2,ao,h];rfl
theorem eB(h:e ρ=pure x):aK F (af e aD) ρ=F [x]:=iw h
theorem t4(h:e ρ=pure x):bL e ρ=pure x:=by unfold bL;rw[h];exact lg
theorem E4(h:e ρ=M.raise x):bL e ρ=M.raise x:=by unfold bL;rw[h];exact AM
theorem AV(h:m (ds.map some++List.replicate (N - k) none)=pure o)(ho:outD o=pure d)(hl:ds.length=k:=by rfl):lH N k m ds=pure d:=by
 unfold lH;rw[if_pos hl,h,ao,ho]
theorem jO(h:m (ds.map some++List.replicate (N - k) none)=M.raise x)(hl:ds.length=k:=by rfl):lH N k m ds=M.raise x:=by
 unfold lH;rw[if_pos hl,h];rfl
end
theorem yx{us:List D}:jU (bo us)=bo us:=by
 funext S
 unfold jU bo
 by_cases h:us.length<=lim
 ·rw[if_pos h]
 ·rw[if_neg h]
theorem AW{mi:az->M Iter}{g:i4}{t:i9}{m:TM}{js:List (Option Nat)}{ρ:az}{its:List D}(R:az->Prop)(q:D->Bool)(f:D->D)(hi:mi ρ=pure ⟨its,.none⟩)(hl:its.length<=lim)(hR:R (jS js ρ))(hb:∀ d∈its,∀ ρ,R ρ->∃ ρ1,g d ρ=pure ρ1/\R ρ1/\t ρ1=pure (q d)/\(q d=true->m ρ1=pure (f d)))
  (hc:de 0 ((its.filter q).map f)=true):bL (yh (cg mi g t m js)) ρ=pure (.fz ((its.filter q).map f)):=by
 have e:yh (cg mi g t m js) ρ=bo ((its.filter q).map f):=by
  unfold yh cg
  rw[hi,ao,rJ R q f hl hR hb,ao,yx]
 unfold bL
 rw[e]
 exact fh hc (by rw[Jl];exact Ju (Ku _ _) hl)
theorem call2{F:List D->M D}{e1 e2:TM}{ρ:az}{x y:D}(h1:e1 ρ=pure x)(h2:e2 ρ=pure y):aK F (af e1 (af e2 aD)) ρ=F [x,y]:=by
 have:af e1 (af e2 aD) ρ=pure [x,y]:=by unfold af;rw[h1,ao,h2,ao];rfl
 unfold aK;rw[this,ao]
theorem jA{e:TM}{ρ:az}{b:Bool}(h:e ρ=pure (.bl b)):bV e ρ=pure b:=by unfold bV;rw[h];rfl
theorem E5{us:List D}(h:us.length<=lim):cf [.fz us]=pure (.tup us):=by
 show bY us=_
 unfold bY
 rw[if_pos h]
section
variable {α β:Type}{c:M α}{f:α->M β}{S S1:aj}{a:α}
theorem aQ(h:c S=some (.ok a,S1)):(c>>=f) S=f a S1:=by
 show M.bnd c f S=_
 unfold M.bnd;rw[h]
end
section
variable {m n:cq}{ρ ρ':az}{e e1 e2:TM}{x y:D}{S S1 S2:aj}{c:M D}{f:D->List D->M D}{F:List D->M D}
theorem bX(h:m ρ S=some (.ok (.nx ρ'),S1)):aH m n ρ S=n ρ' S1:=aQ h
theorem Dl(h:e ρ S=some (.ok x,S1)):oX e ρ S=some (.ok (.nx ρ),S1):=aQ h
theorem iP{i:Nat}(h:e ρ S=some (.ok x,S1)):bq i e ρ S=some (.ok (.nx (ρ.set i (some x))),S1):=aQ h
theorem AX(h:e ρ S=some (.ok x,S1)):bA e ρ S=some (.ok (.ret x),S1):=aQ h
theorem mY{us:List D}(h:us.length<=lim):bo us S=some (.ok (.lst S.length),S++[us]):=by unfold bo;exact if_pos h
theorem iQ{p:Nat}{us:List D}(h:S[p]? =some us):getL p S=some (.ok us,S):=by unfold getL;rw[h];rfl
theorem wX{p:Nat}{us:List D}(h:us.length<=lim)(hp:p<S.length):jf p us S=some (.ok .non,S.set p us):=by unfold jf;exact if_pos ⟨h,hp⟩
theorem Dm(h1:e1 ρ=pure x)(hl:zQ x=pure ())(h2:e2 ρ=c):uu f e1 e2 ρ=c>>=fun y=>f x [y]:=by
 unfold uu
 rw[h1,ao,hl,ao,h2,cJ]
 rfl
theorem GG(h:e ρ S=some (.ok x,S1)):dI F e ρ S=F [x] S1:=by
 unfold dI aK
 rw[aQ (a:=[x]) (S1:=S1)]
 show(e ρ>>=_) S=_
 rw[aQ h];rfl
theorem AY(h1:e1 ρ S=some (.ok x,S1))(h2:e2 ρ S1=some (.ok y,S2)):ij (af e1 (af e2 aD)) ρ S=some (.ok (.tup [x,y]),S2):=by
 unfold ij
 rw[aQ (a:=[x,y]) (S1:=S2)]
 ·unfold bY;rw[if_pos (show[x,y].length<=lim from i7)];rfl
 ·show(e1 ρ>>=_) S=_
  rw[aQ h1]
  show(((e2 ρ>>=_)>>=_):M (List D)) S1=_
  rw[aQ (a:=[y]) (S1:=S2)]
  ·rfl
  ·rw[aQ h2];rfl
end
theorem rL{its:List D}{g:i4}{b:cq}{ρ:az}:dF ⟨its,.none⟩ g b [] ρ=pure (.nx ρ):=by
 unfold dF;rw[cO];rfl
theorem vG{its ds:List D}{d:D}{g:i4}{b:cq}{ρ ρ1 ρ2:az}{S S1:aj}(h:g d ρ=pure ρ1)(hb:b ρ1 S=some (.ok (.nx ρ2),S1)):dF ⟨its,.none⟩ g b (d::ds) ρ S=dF ⟨its,.none⟩ g b ds ρ2 S1:=by
 rw[dF,cO,ao,h,ao,aQ hb]
theorem vH{N n:Nat}{m:cq}{ds:List D}{o:Out}{d:D}{S S1:aj}(h:m (ds.map some++List.replicate (N - n) none) S=some (.ok o,S1))(ho:outD o=pure d)(hl:ds.length=n:=by rfl):kX N n m ds S=some (.ok d,S1):=by
 unfold kX lH
 rw[if_pos hl,aQ (a:=o) (S1:=S1),ho]
 ·rfl
 ·show jU (m _) S=_
  unfold jU;rw[h]
theorem vI{mi:az->M Iter}{its:List D}{g:i4}{b:cq}{ρ:az}{S S1:aj}{o:Out}(hi:mi ρ=pure ⟨its,.none⟩)(h:dF ⟨its,.none⟩ g b its ρ S=some (.ok o,S1)):ik mi g b ρ S=some (.ok o,S1):=by
 unfold ik
 rw[hi,ao]
 exact h
theorem IY{i:Int}:pB (.int i) (.int i)=pure (.bl true):=cF fun S=>eq_int.mpr ⟨by rw[JK rfl],rfl⟩
theorem IZ{b:Bool}:pB (.bl b) (.bl b)=pure (.bl true):=cF fun S=>GE.mpr ⟨by rw[beq_self_eq_true],rfl⟩
theorem IE{b:Bool}:ma (.bl b) (.bl b)=pure (.bl false):=cF fun S=>by
 unfold ma
 refine(gE lS lS).mpr ⟨?_,rfl⟩
 cases b<;>rfl
theorem I0{i:Int}:ma (.int i) (.int i)=pure (.bl false):=cF fun S=>by
 unfold ma
 refine(gE jN jN).mpr ⟨?_,rfl⟩
 simp[PyData.eqv]
theorem vJ{bs:List Bool}:sU [.fz (bs.map D.bl)]=pure (.bl (bs.all id)):=by
 show(match boolsOf (bs.map D.bl)with|some bs=>(pure (D.bl (bs.all id)):M D)|none=>M.fail)=_
 rw[mD]
theorem t5{d:D}:∀{xs:List D},d∈(xs.zip xs).map (fun p:D×D=>D.tup [p.1,p.2])->∃ x∈xs,d= .tup [x,x]
 | x::r,h=>by
  rw[Ms,JT,JC]at h
  rcases h with rfl|h
  ·exact⟨x,.head _,rfl⟩
  ·obtain⟨y,hy,e⟩:=t5 h
   exact⟨y,.tail _ hy,e⟩
theorem cX{e:TM}{es:az->M (List D)}{ρ:az}{x:D}{ys:List D}(h1:e ρ=pure x)(h2:es ρ=pure ys):af e es ρ=pure (x::ys):=by
 unfold af;rw[h1,ao,h2];rfl
theorem t6{its:List D}{g:i4}{t:az->M Bool}{m:TM}{S:aj}(R:az->Prop)(q:D->Bool):∀(items:List D) (ρ:az),R ρ->(∀ d∈items,∀ ρ,R ρ->∃ ρ1,g d ρ=pure ρ1/\R ρ1/\t ρ1 S=some (.ok (q d),S)/\m ρ1=pure d)->
  cI ⟨its,.none⟩ g t m items ρ S=some (.ok (items.filter q),S)
 |[],ρ,_,_=>by unfold cI;rw[cO];rfl
 |d::ds,ρ,hR,hb=>by
  obtain⟨ρ1,e1,hR1,e2,e3⟩:=hb d (Jy ..) ρ hR
  have ih:=t6 (its:=its) R q ds ρ1 hR1 fun x hx=>hb x (Jr _ hx)
  unfold cI
  rw[cO,ao,e1,ao,aQ e2]
  cases hq:q d with
  |true=>rw[LH hq,if_pos rfl,e3,ao,aQ ih];rfl
  |false=>rw[LJ (by rw[hq];decide),if_neg (by decide),ih]
section
variable {e1 e2:TM}{f:D->D->M D}{x y:D}{S S1 S2:aj}{ρ:az}{F:List D->M D}
theorem oB(h1:e1 ρ S=some (.ok x,S1))(h2:e2 ρ S1=some (.ok y,S2)):bz f e1 e2 ρ S=f x y S2:=by
 unfold bz;rw[aQ h1,aQ h2]
theorem oC{es:az->M (List D)}{ys:List D}(h1:e1 ρ S=some (.ok x,S1))(h2:es ρ S1=some (.ok ys,S2)):af e1 es ρ S=some (.ok (x::ys),S2):=by
 unfold af;rw[aQ h1,aQ h2];rfl
theorem Dn{p:Nat}{j:Int}{us:List D}(h:S[p]? =some us)(h2:i3 us j=some x):eI (.lst p) (.int j) S=some (.ok x,S):=by
 show(getL p>>=fun xs=>match i3 xs j with|some d=>(pure d:M D)|none=>M.fail) S=_
 rw[aQ (iQ h),h2];rfl
theorem rM{es:az->M (List D)}{ys:List D}(h:es ρ S=some (.ok ys,S1))(hl:ys.length<=lim):bH es ρ S=some (.ok (.lst S1.length),S1++[ys]):=by
 unfold bH;rw[aQ h];exact mY hl
theorem wY{a b:Nat}{xs ys:List D}(h1:S[a]? =some xs)(h2:S[b]? =some ys)(hl:(xs++ys).length<=lim):cQ (.lst a) (.lst b) S=some (.ok (.lst S.length),S++[xs++ys]):=by
 show(getL a>>=fun xs=>getL b>>=fun ys=>bo (xs++ys)) S=_
 rw[aQ (iQ h1),aQ (iQ h2)];exact mY hl
end
def oE:D->Bool
 | .int _=>true
 |_=>false
abbrev yN(d:D):Prop:=Eg d=true
def oF:D->Bool
 | .tup [_,_]=>true
 |_=>false
def gT(many:Int):D->Bool
 | .int i=>decide (0<=i) && decide (i<many)
 |_=>false
def i8(many:Int):D->Bool
 | .tup [a,b]=>gT many a && (gT many b && match a,b with| .int i,.int j=>decide (i<j)|_,_=>false)
 |_=>false
def Il(d:D):Prop:=yN d/\∀ ds,d= .tup ds->∀ x∈ds,yN x
theorem jP{many:Int}{d:D}(h:gT many d=true):∃ i,d= .int i/\0<=i/\i<many:=by
 cases d with
 |int i=>exact⟨i,rfl,by simpa [gT]using h⟩
 |_=>cases h
def rN:D->D->Bool
 | .tup xs,.tup ys=>match intsOf xs,intsOf ys with
  |some a,some b=>HT.lexLt a b
  |_,_=>false
 |_,_=>false
def rO:List D->Bool
 |a::b::r=>rN a b && rO (b::r)
 |_=>true
def wZ(d:D):Prop:=∃ ds ns,d= .tup ds/\intsOf ds=some ns
theorem w5:∀ l:List D,((l.zip (l.drop 1)).map fun p=>rN p.1 p.2).all id=rO l
 |[]=>rfl
 |[_]=>rfl
 |a::b::r=>by
  have:=w5 (b::r)
  simp only[List.drop_succ_cons,List.drop_zero,List.zip_cons_cons,List.map_cons,List.all_cons,id]at this ⊢
  rw[rO, <-this]
theorem Im(l:List D):S3.cutD l (some 1) none=l.drop 1:=by
 unfold S3.cutD HT.sIx
 cases l with
 |nil=>rfl
 |cons a r=>simp
def GH(d:D):Prop:=yN d/\∀ ds,d= .tup ds->∀ x∈ds,yN x/\∀ ts,x= .tup ts->∀ t∈ts,Il t
def gw:D->Bool
 | .tup [.int many,.tup ties]=>decide (0<=many) && (decide (many<=14) && (ties.all (i8 many) && rO ties))
 |_=>false
theorem CG{many:Int}{d:D}(h:i8 many d=true):∃ i j,d= .tup [.int i,.int j]/\0<=i/\i<j/\j<many:=by
 unfold i8 at h
 split at h
 ·next a b=>
  simp only[Bool.and_eq_true]at h
  obtain⟨h1,h2,h3⟩:=h
  obtain⟨i,rfl,i1,i2⟩:=jP h1
  obtain⟨j,rfl,j1,j2⟩:=jP h2
  simp only[decide_eq_true_eq]at h3
  exact⟨i,j,rfl,i1,h3,j2⟩
 ·cases h
theorem yy{many:Int}{d:D}(h:i8 many d=true):wZ d:=by
 obtain⟨i,j,rfl,_⟩:=CG h
 exact⟨_,[i,j],rfl,rfl⟩
section
variable {many:Int}{d:D}{ρ:az}{e1 e2:TM}{b:Bool}{y:D}
theorem and_eq(h1:e1 ρ=pure (.bl b))(h2:b=true->e2 ρ=pure y)(h3:b=false->y= .bl false):lN e1 e2 ρ=pure y:=by
 unfold lN
 rw[h1]
 cases b with
 |true=>exact h2 rfl
 |false=>rw[h3 rfl];rfl
theorem Ja{a b:Int}:pB (.int a) (.int b)=pure (.bl (decide (a=b))):=cF fun S=>eq_int.mpr ⟨rfl,rfl⟩
theorem mZ(h:yN d):bF [d]=pure (.bl (oE d)):=by
 cases d<;>first|rfl|cases h
theorem rP(h:yN d):cM [d]=pure (.bl (oF d)):=by
 cases d with
 |tup ds=>
  refine fG (fH (and_eq (b:=true) rfl (fun _=>(fK (y:=.int 2) (iw (x:=.tup ds) rfl) rfl).trans Ja) (fun e=>by cases e))) ?_
  show pure (D.bl (decide ((ds.length:Int)=2)))=_
  match ds with
  |[]=>rfl
  |[_]=>rfl
  |[_,_]=>rfl
  |_::_::_::r=>rw[JW (by simp only[List.length_cons];omega)];rfl
 |_=>first|rfl|cases h
theorem w6(h:yN d):eR [.int many,d]=pure (.bl (gT many d)):=by
 cases d with
 |int i=>
  refine fG (fH (and_eq (b:=true) ((eB rfl).trans (mZ h)) (fun _=>?_) (fun e=>by cases e))) rfl
  show(if decide (0<=i)=true then (pure (D.bl (decide (i<many))):M D)else pure (.bl false))=pure (.bl (decide (0<=i) && decide (i<many)))
  by_cases h0:0<=i
  ·rw[if_pos (JK h0),JK h0,Mf]
  ·rw[if_neg (by rw[KF];exact h0),JW h0,Lf]
 |_=>first|rfl|cases h
theorem w8(h:oF d=true):∃ a b,d= .tup [a,b]:=by
 unfold oF at h
 split at h
 ·exact⟨_,_,rfl⟩
 ·cases h
theorem rQ{a b:D}:i8 many (.tup [a,b])=(gT many a && (gT many b && match a,b with| .int i,.int j=>decide (i<j)|_,_=>false)):=rfl
theorem E6(h:Il d):jv [.int many,d]=pure (.bl (i8 many d)):=by
 by_cases hp:oF d=true
 ·obtain⟨a,b,rfl⟩:=w8 hp
  have ha:yN a:=h.2 _ rfl a (.head _)
  have hb:yN b:=h.2 _ rfl b (.tail _ (.head _))
  refine fG (o:=.ret (.bl (i8 many (.tup [a,b])))) ?_ rfl
  unfold oo
  have h1:ef (bV (aK cM (af (mV 1) aD))) [some (.int many),some (.tup [a,b]),none,none]=pure false:=by
   show(bV _ _>>=_)=_
   rw[jA ((eB rfl).trans (rP h.1))];rfl
  refine(bP (ρ':=[some (.int many),some (.tup [a,b]),none,none]) ((d4 h1).trans (if_neg (by decide)))).trans ((bP (ρ':=[some (.int many),some (.tup [a,b]),some a,some b]) rfl).trans (fH ?_))
  refine and_eq (b:=gT many a) ((call2 rfl rfl).trans (w6 ha)) (fun k1=>and_eq (b:=gT many b) ((call2 rfl rfl).trans (w6 hb)) (fun k2=>?_) fun k2=>?_) fun k1=>?_
  ·obtain⟨i,rfl,_⟩:=jP k1
   obtain⟨j,rfl,_⟩:=jP k2
   rw[rQ,k1,k2];rfl
  ·rw[rQ,k2,Lf,MX]
  ·rw[rQ,k1,Lf]
 ·have hp':oF d=false:=by rw[<-Lm];exact hp
  have h1:ef (bV (aK cM (af (mV 1) aD))) [some (.int many),some d,none,none]=pure true:=by
   show(bV _ _>>=_)=_
   rw[jA ((eB rfl).trans (rP h.1)),hp'];rfl
  refine(fG (o:=.ret (.bl false)) (jz ((d4 h1).trans (if_pos rfl))) rfl).trans ?_
  unfold i8
  split
  ·cases hp rfl
  ·rfl
theorem E7{a b:D}(ha:wZ a)(hb:wZ b):v9 a b=pure (.bl (rN a b)):=by
 obtain⟨xs,ns,rfl,e1⟩:=ha
 obtain⟨ys,ms,rfl,e2⟩:=hb
 simp only[v9,e1,e2,rN]
def IF:D->D
 | .tup [a,b]=>.bl (rN a b)
 |_=>.non
theorem AZ{ts:List D}(h:∀ t∈ts,wZ t)(hl:ts.length<=1000):dZ [.tup ts]=pure (.bl (rO ts)):=by
 have em:(((ts.zip (ts.drop 1)).map fun p:D×D=>D.tup [p.1,p.2]).filter fun _=>true).map IF=((ts.zip (ts.drop 1)).map fun p=>rN p.1 p.2).map D.bl:=by
  rw[iu,J2,J2];rfl
 have hs:bL (Cb (mV 0) (oS (mK (.int 1))) oN) [some (.tup ts)]=pure (.tup (ts.drop 1)):=by
  refine t4 (?_ :bY (S3.cutD ts (some 1) none)=_)
  rw[Im]
  unfold bY
  exact if_pos (by rw[MR];unfold lim;omega)
 have hi:il (mV 0) (bL (Cb (mV 0) (oS (mK (.int 1))) oN)) [some (.tup ts)]=pure ⟨(ts.zip (ts.drop 1)).map fun p:D×D=>D.tup [p.1,p.2],.none⟩:=by
  unfold il
  rw[cX (x:=.tup ts) rfl (cX hs rfl)];rfl
 have hc:=lh (g:=gy 2 (cn (gN 0) (cn (gN 1) hZ))) (t:=gf) (m:=gh) (js:=[none,none]) (fun ρ=>∃ x y,ρ=[x,y]) (fun _=>true) IF hi (by rw[Jl,List.length_zip];unfold lim;omega) ⟨none,none,rfl⟩
  (fun d hd ρ ⟨x,y,hρ⟩=>by
   subst hρ
   obtain⟨⟨a,b⟩,hp,rfl⟩:=JY.mp hd
   exact⟨_,rfl,⟨_,_,rfl⟩,rfl,fun _=>(fK (x:=a) (y:=b) rfl rfl).trans (E7 (h a (Ly hp).1) (h b (List.mem_of_mem_drop (Ly hp).2)))⟩) (by rw[em];exact rK _)
 rw[em]at hc
 refine fG (fH ((iw hc).trans vJ)) ?_
 rw[w5];rfl
theorem E8 (h:GH d) (hlen:∀ m ts,d= .tup [m,.tup ts]->ts.length<=1000):ir [d]=pure (.bl (gw d)):=by
 by_cases hp:oF d=true
 ·obtain⟨a,t,rfl⟩:=w8 hp
  obtain⟨ha,_⟩:=h.2 _ rfl a (.head _)
  obtain⟨ht,htt⟩:=h.2 _ rfl t (.tail _ (.head _))
  refine fG (o:=.ret (.bl (gw (.tup [a,t])))) ?_ rfl
  unfold oq
  have h1:ef (bV (bL (aK cM (af (mV 0) aD)))) [some (.tup [a,t]),none,none]=pure false:=by
   show(bV _ _>>=_)=_
   rw[jA (t4 ((eB rfl).trans (rP h.1)))];rfl
  refine(bP (ρ':=[some (.tup [a,t]),none,none]) ((d4 h1).trans (if_neg (by decide)))).trans ((bP (ρ':=[some (.tup [a,t]),some a,some t]) rfl).trans ?_)
  have hw:ef (bV (bL (aK bF (af (mV 1) aD)))) [some (.tup [a,t]),some a,some t]=pure (!oE a):=by
   show(bV _ _>>=_)=_
   rw[jA (t4 ((eB rfl).trans (mZ ha)))];rfl
  have ho:∀{p q:i9} {b:Bool} {ρ:az},p ρ=pure b->xX p q ρ=if b=true then pure true else q ρ:=fun{p q b ρ} e=>by
   show(p ρ>>=_)=_
   rw[e];rfl
  have no:∀{q:i9},xX (ef (bV (bL (aK bF (af (mV 1) aD))))) q [some (.tup [a,t]),some a,some t]=pure true->aH (kd (xX (ef (bV (bL (aK bF (af (mV 1) aD))))) q) (bA (mK (.bl false))) eh) (bA (lN (dI sU (bL (cg (i6 (mV 2)) (gN 0) gI gJ [none,some 1]))) (bL (aK dZ (af (mV 2) aD))))) [some (.tup [a,t]),some a,some t]=pure (.ret (.bl false)):=fun e=>jz ((d4 e).trans (if_pos rfl))
  by_cases ew:oE a=true
  ·cases a with
   | int many=>
    rw[ew]at hw
    have hc:ef (kc Br Br (mK (.int 0)) (mV 1) (mK (.int 14))) [some (.tup [.int many,t]),some (.int many),some t]=pure (!(decide (0<=many) && decide (many<=14))):=by
     show(((if decide (0<=many)=true then (pure (D.bl (decide (many<=14))):M D)else pure (.bl false))>>=iT)>>=_)=_
     by_cases h0:0<=many
     ·rw[if_pos (JK h0),JK h0,Mf];rfl
     ·rw[if_neg (by rw[KF];exact h0),JW h0,Lf];rfl
    by_cases hr:(decide (0<=many) && decide (many<=14))=true
    ·rw [hr]at hc
     cases t with
     | tup ts=>
      have hts:=hlen _ ts rfl
      have hq:xX (ef (bV (bL (aK bF (af (mV 1) aD))))) (xX (ef (kc Br Br (mK (.int 0)) (mV 1) (mK (.int 14)))) (ef (bV (fZ (mV 2) "tuple")))) [some (.tup [.int many,.tup ts]),some (.int many),some (.tup ts)]=pure false:=by
       rw[ho hw,if_neg (by decide),ho hc,if_neg (by decide)];rfl
      refine(bP ((d4 hq).trans (if_neg (by decide)))).trans (fH ?_)
      have em:(ts.filter fun _=>true).map (fun d=>D.bl (i8 many d))=(ts.map (i8 many)).map D.bl:=by rw[iu,J2];rfl
      have hm:=lh (mi:=i6 (mV 2)) (ρ:=[some (.tup [.int many,.tup ts]),some (.int many),some (.tup ts)]) (g:=gN 0) (t:=gI) (m:=gJ) (js:=[none,some 1]) (its:=ts) (fun ρ=>∃ x,ρ=[x,some (.int many)]) (fun _=>true) (fun d=>.bl (i8 many d)) rfl (by unfold lim;omega) ⟨none,rfl⟩
       (fun d hd ρ ⟨x,hρ⟩=>by
        subst hρ
        exact⟨_,rfl,⟨_,rfl⟩,rfl,fun _=>t4 ((call2 (x:=.int many) (y:=d) rfl rfl).trans (E6 (htt ts rfl d hd)))⟩) (by rw[em];exact rK _)
      rw[em]at hm
      have eall:(ts.map (i8 many)).all id=ts.all (i8 many):=by rw[MV];rfl
      have hwb:gw (.tup [.int many,.tup ts])=(ts.all (i8 many) && rO ts):=by
       show(decide (0<=many) && (decide (many<=14) && (ts.all (i8 many) && rO ts)))=_
       rw[<-Bool.and_assoc,hr,Mf]
      rw[hwb]
      refine and_eq (b:=ts.all (i8 many)) ((iw hm).trans (vJ.trans (by rw[eall]))) (fun hall=>?_) fun hall=>by rw[hall];rfl
      rw[hall,Mf]
      exact t4 ((eB rfl).trans (AZ (fun t ht=>yy (JQ.mp hall t ht)) hts))
     |_=>first|exact no (by rw[ho hw,if_neg (by decide),ho hc,if_neg (by decide)];rfl)|cases ht
    ·have hwb:gw (.tup [.int many,t])=false:=by
      cases t<;>first|rfl|(show(decide (0<=many) && (decide (many<=14) && _))=false;rw[<-Bool.and_assoc,Lm _ |>.mp hr,Lf])
     rw[hwb]
     rw[Lm _ |>.mp hr]at hc
     exact no (by rw[ho hw,if_neg (by decide),ho hc];rfl)
   |_=>cases ew
  ·have hwb:gw (.tup [a,t])=false:=by cases a<;>first|rfl|exact absurd rfl ew
   rw[hwb]
   exact no (by rw[ho hw,Lm _ |>.mp ew];rfl)
 ·have hp':oF d=false:=by rw[<-Lm];exact hp
  have h1:ef (bV (bL (aK cM (af (mV 0) aD)))) [some d,none,none]=pure true:=by
   show(bV _ _>>=_)=_
   rw[jA (t4 ((eB rfl).trans (rP h.1))),hp'];rfl
  refine(fG (o:=.ret (.bl false)) (jz ((d4 h1).trans (if_pos rfl))) rfl).trans ?_
  unfold gw
  split
  ·cases hp rfl
  ·rfl
end
def fy(S:aj)(k:Nat):Prop:=∃ st b,S[k]? =some [.int st,.bl b]/\0<=st/\(b=false->st<2147483647)
theorem IG{a b:D}:i3 [a,b] 0=some a:=rfl
theorem IH{a b:D}:i3 [a,b] 1=some b:=rfl
theorem II:uG 2 0=some 0:=rfl
theorem fy.lt{S:aj}{k:Nat}(h:fy S k):k<S.length:=let ⟨_,_,e,_⟩:=h;(Jn.mp e).1
theorem E9{S:aj}{k:Nat}{many:Int}{Q:D->aj->Prop}(hs:fy S k)(h0:0<many)(h1:many<1073741824)
  (hQ:∀ j S',0<=j->j<many->S'.length=S.length->(∀ i,i≠k->S'[i]? =S[i]?)->fy S' k->Q (.int j) S'):runs (aO [.lst k,.int many]) S Q:=by
 have hk:=hs.lt
 obtain⟨st,b,e,p1,p2⟩:=hs
 unfold aO ju
 refine(iN rfl).mpr ?_
 have set1:∀ ys:List D,(S.set k ys)[k]? =some ys:=fun ys=>JN hk
 have oth:∀(ys:List D) i,i≠k->(S.set k ys)[i]? =S[i]? :=fun ys i hi=>JF (Ne.symm hi)
 cases b with
 |true=>
  have cd:uz st many:=⟨h0,h1⟩
  simp! only[eI,e,Option.some.injEq,exists_eq_left',IG,IH,kJ,nF,fW,h0,cd,fj,II,hk,i7,true_and,and_self]
  refine hQ _ _ (KI _ (by omega)) (Kk _ h0) (by simp) (oth _) ⟨_,true,set1 _,Int.ediv_nonneg p1 (by omega),fun z=>by cases z⟩
 |false=>
  have p3:=p2 rfl
  have c1:oZ st 48271:=.inr ⟨by decide,by decide⟩
  have q1:(0:Int)<2147483647:=by decide
  have q2:(0:Int)<2147483629:=by decide
  have q3:(0:Int)<2147483587:=by decide
  have c2:uz=fun i j=>0<j/\j<1073741824:=rfl
  simp! only[eI,e,Option.some.injEq,exists_eq_left',IG,IH,kJ,uQ,cQ,fW,c1,q1,fj,II,hk,i7,true_and,and_self,set1]
  generalize hst:(st*48271+29) % 2147483647=st'
  have s1:0<=st':=by rw[<-hst];exact KI _ (by decide)
  have s2:st'<2147483647:=by rw[<-hst];exact Kk _ (by decide)
  have c3:oZ st' st':=.inl ⟨by omega,by omega⟩
  have c4:oZ 39373 st':=.inl ⟨by decide,by decide⟩
  simp only[c3,c4,q2,q3,if_true,bM]
  generalize hx:(st'*st'+39373*st'+7) % 2147483629=x
  have x1:0<=x:=by rw[<-hx];exact KI _ (by decide)
  have x2:x<2147483629:=by rw[<-hx];exact Kk _ (by decide)
  have c5:oZ x x:=.inl ⟨by omega,by omega⟩
  have c6:oZ 16807 x:=.inl ⟨by decide,by decide⟩
  simp only[c5,c6,q3,if_true,bM,nF,fW]
  generalize hy:(x*x+16807*x) % 2147483587=y
  have c7:uz y 8:=⟨by decide,by decide⟩
  simp only[c7,h0,if_true,bM]
  refine hQ _ _ (KI _ (by omega)) (Kk _ h0) (by simp) (oth _) ⟨_,false,set1 _,s1,fun _=>s2⟩
theorem Fb{S:aj}{ns:List Int}{k:Nat}{Q:D->aj->Prop}(hQ:∀ i,Q (.int i) S):runs (cN [.ro (ns.map D.int),.int k]) S Q:=by
 unfold cN gk
 refine(iN rfl).mpr ?_
 simp! only[c9,v9]
 by_cases h:(k:Int)<((ns.map D.int).length:Nat)
 ·have hk:k<ns.length:=by simpa using h
  have e:i3 (ns.map D.int) (k:Int)=some (.int ns[k]):=by
   unfold i3 uG
   simp[hk]
  simp! only[h,decide_true,if_true,eI,e]
  exact hQ _
 ·simp! only[h,decide_false,Bool.false_eq_true,if_false]
  exact hQ _
theorem CH{S:aj}{ns:List Int}{k:Nat}{Q:D->aj->Prop}(hQ:∀ xs,fy (S++[xs]) S.length->Q (.lst S.length) (S++[xs])):runs (dD [.ro (ns.map D.int),.int k]) S Q:=by
 unfold dD iL
 refine(iN rfl).mpr ?_
 simp! only[mV]
 refine Fb fun cell=>?_
 have cp:yV 10 18:=⟨by decide,by decide,by decide⟩
 have e18:(10:Int) ^ (18:Int).toNat=1000000000000000000:=by decide
 simp! only[sM,HS,lI,kJ,fW,cp,e18,i7,true_and]
 by_cases h:(1000000000000000000:Int)<=cell
 ·simp! only[h,decide_true,i7,true_and]
  exact hQ _ ⟨_,true,aV,by omega,fun z=>by cases z⟩
 ·simp! only[h,decide_false,i7,true_and]
  have q1:(0:Int)<2147483647:=by decide
  simp! only[q1,i7,true_and]
  exact hQ _ ⟨_,false,aV,KI _ (by decide),fun _=>Kk _ (by decide)⟩
def eE(n a:Nat):List (List Int):=(List.range' (a+1) (n - (a+1))).map fun b:Nat=>[(a:Int),(b:Int)]
def bt(n:Nat):List (List Int):=(List.range n).flatMap (eE n)
theorem pairs_len{n:Nat}(hn:n<=14):(bt n).length<=91:=by
 have:∀ m,m<15->(bt m).length<=91:=by decide+kernel
 exact this n (by omega)
theorem xa{n a:Nat}(hn:n<=14):(eE n a).length<=14:=by unfold eE;simp;omega
theorem CI{n:Nat}(hn:n<=14){pre post:List Nat}(h:List.range n=pre++post):(pre.flatMap (eE n)).length<=91:=by
 have:(bt n).length=(pre.flatMap (eE n)).length+(post.flatMap (eE n)).length:=by unfold bt;rw[h,List.flatMap_append,Js]
 have:=pairs_len hn
 omega
theorem lV{items:List D}{g:i4}{b:cq}{Q:Out->aj->Prop}{ρ:az}{S:aj}(I:List D->az->aj->Prop)(h0:I items ρ S)
  (hend:∀ ρ S,I [] ρ S->Q (.nx ρ) S)
  (hturn:∀ d ds ρ S,I (d::ds) ρ S->runs (g d ρ) S (fun ρ1 S1=>runs (b ρ1) S1 (fun o S2=>match o with| .nx ρ'=>I ds ρ' S2| .ct ρ'=>I ds ρ' S2| .bk ρ'=>Q (.nx ρ') S2| .ret r=>Q (.ret r) S2))):
  runs (dF ⟨items,.none⟩ g b items ρ) S Q:=n6 (it:=⟨items,.none⟩) I (fun _ _ _ _=>trivial) hend hturn items ρ S h0
theorem rR{n:Nat}{S:aj}{Q:D->aj->Prop}(hn:n<=14)(hQ:∀ S',S.length<S'.length->(∀ i,i<S.length->S'[i]? =S[i]?)->S'[S.length]? =some ((bt n).map tupI)->Q (.lst S.length) S'):runs (bI [.int n]) S Q:=by
 unfold bI iK
 refine(iN rfl).mpr ?_
 have l0:0<=lim:=JE _
 have hr: -(2 ^ 62)<=(n:Int)/\(n:Int)<2 ^ 62:=⟨by omega,by omega⟩
 simp! only[l0,true_and,jj,hr,and_self,Int.toNat_natCast]
 refine lV (fun ds ρ S'=>∃ pre post x,List.range n=pre++post/\ds=post.map (fun i:Nat=>D.int (0+(i:Nat)))/\ρ=[some (.int n),some (.lst S.length),x]/\S.length<S'.length/\(∀ i,i<S.length->S'[i]? =S[i]?)/\
  S'[S.length]? =some ((pre.flatMap (eE n)).map tupI)) ⟨[],List.range n,none,rfl,rfl,rfl,by simp,fun i hi=>Jp hi,aV⟩ ?_ ?_
 ·rintro ρ S' ⟨pre,post,x,e,e2,rfl,h1,h2,h3⟩
  have:post=[]:=by simpa using e2.symm
  subst this
  rw[JV]at e
  simp! only[mV]
  exact hQ S' h1 h2 (by unfold bt;rw[e];exact h3)
 ·rintro d ds ρ S' ⟨pre,post,x,e,e2,rfl,h1,h2,h3⟩
  match post,e2 with
  |[],e2=>cases e2
  | a::post,e2=>
   simp only[List.map_cons,List.cons.injEq]at e2
   obtain⟨rfl,rfl⟩:=e2
   have hp:=CI hn (pre:=pre) e
   have hal:a<n:=JG.mp (by rw[e];simp)
   have hr2: -(2 ^ 62)<=(0+(a:Int)+1)/\(0+(a:Int)+1)<2 ^ 62/\ -(2 ^ 62)<=(n:Int)/\(n:Int)<2 ^ 62:=⟨by omega,by omega,by omega,by omega⟩
   unfold fF
   simp! only[zQ,cQ,gD,hr2,and_self]
   refine pI (fun ρ=>∃ y,ρ=[y,some (.int (0+(a:Int)))]) (fun d=>.tup [.int (0+(a:Int)),d]) (by simp only[aI,List.length_map,List.length_range];unfold lim;omega) rfl ⟨none,rfl⟩ ?_ ?_
   ·rintro d hd ρ ⟨y,rfl⟩
    unfold fD fE
    simp! only[i7,true_and,and_self]
    exact⟨⟨_,rfl⟩,trivial⟩
   ·have er:(aI (0+(a:Int)+1) ((n:Int) - (0+(a:Int)+1)).toNat).map (fun d=>D.tup [.int (0+(a:Int)),d])=(eE n a).map tupI:=by
     unfold aI eE
     rw[J2,J2,Lv,J2]
     have:((n:Int) - (0+(a:Int)+1)).toNat=n - (a+1):=by omega
     rw[this]
     refine List.map_congr_left fun i hi=>?_
     simp only[Function.comp,tupI,List.map_cons,List.map_nil]
     congr 1
     simp only[List.cons.injEq,D.int.injEq,and_true]
     omega
    rw[er]
    have l1:((eE n a).map tupI).length<=lim:=by have:=xa (a:=a) hn;simp;unfold lim;omega
    have g1:(S'++[(eE n a).map tupI])[S.length]? =some ((pre.flatMap (eE n)).map tupI):=by rw[Jp h1];exact h3
    have l2:((pre.flatMap (eE n)).map tupI++(eE n a).map tupI).length<=lim:=by have:=xa (a:=a) hn;simp only[List.length_append,List.length_map];unfold lim;omega
    have l3:S.length<(S'++[(eE n a).map tupI]).length:=by rw[Js];omega
    simp! only[gC,l1,g1,aV,Option.some.injEq,exists_eq_left',l2,l3,true_and,and_self]
    refine⟨pre++[a],post,some (.int (0+(a:Int))),by rw[e];simp,rfl,rfl,by simp;omega,fun i hi=>?_,?_⟩
    ·rw[JF (by omega),Jp (by omega)];exact h2 i hi
    ·rw[JN l3,List.flatMap_append,Kt];simp
theorem km{t:i9}{b:cq}{Q:Out->aj->Prop}(I:Nat->az->aj->Prop)
  (hturn:∀ n ρ S,I n ρ S->runs (t ρ) S (fun c S1=>if c=true then runs (b ρ) S1 (fun o S2=>match o with| .nx ρ'=>∃ m,m<n/\I m ρ' S2| .ct ρ'=>∃ m,m<n/\I m ρ' S2| .bk ρ'=>Q (.nx ρ') S2| .ret r=>Q (.ret r) S2)else Q (.nx ρ) S1)):
  ∀ k n ρ S,n<k->I n ρ S->runs (jh t b k ρ) S Q
 |0,n,ρ,S,h,_=>absurd h (Ml _)
 | k+1,n,ρ,S,h,hi=>by
  unfold jh
  rw[b9]
  refine bE (hturn n ρ S hi) fun c S1 h1=>?_
  cases c with
  |false=>rw[if_neg (by decide)]at h1 ⊢;exact bM.mpr h1
  |true=>
   rw[if_pos rfl]at h1 ⊢
   rw[b9]
   refine bE h1 fun o S2 h2=>?_
   cases o with
   |nx ρ'=>obtain⟨m,hm,hi'⟩:=h2;exact km I hturn k m ρ' S2 (by omega) hi'
   |ct ρ'=>obtain⟨m,hm,hi'⟩:=h2;exact km I hturn k m ρ' S2 (by omega) hi'
   |bk ρ'=>exact bM.mpr h2
   |ret r=>exact bM.mpr h2
structure Kp(k:Nat)(S S':aj):Prop where
 len:S.length<=S'.length
 oth:∀ i,i<S.length->i≠k->S'[i]? =S[i]?
 st:fy S' k
theorem Kp.trans{k:Nat}{S S1 S2:aj}(a:Kp k S S1)(b:Kp k S1 S2):Kp k S S2:=⟨Ju a.len b.len,fun i hi hk=>(b.oth i (Jx hi a.len) hk).trans (a.oth i hi hk),b.st⟩
theorem Kp.refl{k:Nat}{S:aj}(h:fy S k):Kp k S S:=⟨Jj _,fun _ _ _=>rfl,h⟩
theorem fy.grow{k:Nat}{S G:aj}(h:fy S k):fy (S++G) k:=by
 obtain⟨st,b,e,r⟩:=id h
 exact⟨st,b,by rw[Jp h.lt];exact e,r⟩
theorem Kp.grow{k:Nat}{S:aj}(h:fy S k)(G:aj):Kp k S (S++G):=⟨by simp,fun i hi _=>Jp hi,h.grow⟩
theorem Kp.mk0{k:Nat}{S S':aj}(h:fy S k)(h1:S.length<=S'.length)(h2:∀ i,i<S.length->S'[i]? =S[i]?):Kp k S S':=by
 obtain⟨st,b,e,r⟩:=id h
 exact⟨h1,fun i hi _=>h2 i hi,st,b,by rw[h2 k h.lt];exact e,r⟩
theorem eF{S:aj}{k:Nat}{many:Int}{Q:D->aj->Prop}(hs:fy S k)(h0:0<many)(h1:many<1073741824)(hQ:∀ j S',0<=j->j<many->S'.length=S.length->Kp k S S'->Q (.int j) S'):runs (aO [.lst k,.int many]) S Q:=
 E9 hs h0 h1 fun j S' a b c d e=>hQ j S' a b c ⟨Ls c.symm,fun i _ hk=>d i hk,e⟩
theorem lW{S:aj}{n:Nat}:∀ ns:List Int,mapP (i5 S n) (ns.map D.int)=some (ns.map PyData.int)
 |[]=>rfl
 |x::r=>by
  show(match i5 S n (D.int x),mapP (i5 S n) (r.map D.int)with|some p,some ps=>some (p::ps)|_,_=>none)=_
  rw[jN,lW r];rfl
theorem t7{S:aj}{k n:Nat}{ns:List Int}(h:S[k]? =some (ns.map D.int)):i5 S (n+1) (.lst k)=some (.list (ns.map PyData.int)):=by
 show((S[k]?).bind fun xs=>(mapP (i5 S n) xs).map PyData.list)=_
 rw[h]
 show(mapP (i5 S n) (ns.map D.int)).map PyData.list=_
 rw[lW];rfl
theorem ne_nil{S:aj}{a b:Nat}{ns:List Int}{Q:D->aj->Prop}(h1:S[a]? =some (ns.map D.int))(h2:S[b]? =some []):runs (ma (.lst a) (.lst b)) S Q↔Q (.bl (!ns.isEmpty)) S:=by
 unfold ma
 rw[gE (t7 h1) (t7 (ns:=[]) h2)]
 have:PyData.eqv (.list (ns.map PyData.int)) (.list (List.map PyData.int []))=ns.isEmpty:=by
  cases ns with
  |nil=>simp[PyData.eqv,PyData.eqvAll]
  |cons x r=>simp[PyData.eqv,PyData.eqvAll]
 rw[this]
theorem qr{α β:Type}(f:α->β):∀(l:List α) (i:Nat),(l.map f).eraseIdx i=(l.eraseIdx i).map f
 |[],_=>rfl
 |_::_,0=>rfl
 |a::l,i+1=>by simp[qr f l i]
theorem CJ{S:aj}{k t:Nat}{ns:List Int}{Q:D->aj->Prop}(hs:fy S k)(ht:S[t]? =some (ns.map D.int))(hl:ns.length<=14)
  (hQ:∀(p:Nat) (ms:List Int) (S':aj),ms.length=ns.length->S'[p]? =some (ms.map D.int)->S.length<=p->Kp k S S'->Q (.lst p) S'):runs (cb [.lst k,.lst t]) S Q:=by
 unfold cb eS
 refine(iN rfl).mpr ?_
 have hk:=hs.lt
 have l0:0<=lim:=JE _
 have l1:(ns.map D.int).length<=lim:=by simp;unfold lim;omega
 simp! only[sR,ht,Option.some.injEq,exists_eq_left',l1,l0,true_and]
 have start:Kp k S (S++[ns.map D.int]++[[]]):=by rw[JH];exact Kp.grow hs _
 refine km (fun n ρ S'=>∃(ls ms:List Int),n=ls.length/\ls.length+ms.length=ns.length/\ρ=[some (.lst k),some (.lst t),some (.lst S.length),some (.lst (S++[ns.map D.int]).length)]/\S.length+2<=S'.length/\
  S'[S.length]? =some (ls.map D.int)/\S'[S.length+1]? =some (ms.map D.int)/\Kp k S S') ?_ 64 ns.length _ _ (by omega) ⟨ns,[],rfl,by simp,rfl,by simp,by simp,by simp,start⟩
 rintro n ρ S' ⟨ls,ms,rfl,hsum,rfl,hlen,g1,g2,kp⟩
 have hS1:(S++[ns.map D.int]).length=S.length+1:=by simp
 rw[hS1]
 have a1:(S'++[[]])[S.length]? =some (ls.map D.int):=by rw[Jp (by omega)];exact g1
 have a2:(S'++[[]])[S.length+1]? =some (ms.map D.int):=by rw[Jp (by omega)];exact g2
 have kp1:Kp k S (S'++[[]]):=kp.trans (Kp.grow kp.st _)
 simp! only[l0,true_and,ne_nil a1 aV]
 by_cases he:ls=[]
 ·subst he
  simp! only[List.isEmpty_nil]
  exact hQ _ ms _ (by simpa using hsum) a2 (by omega) kp1
 ·have hie:ls.isEmpty=false:=by cases ls with|nil=>exact absurd rfl he|cons _ _=>rfl
  have hpos:0<ls.length:=by cases ls with|nil=>exact absurd rfl he|cons _ _=>simp
  simp! only[hie]
  unfold dG
  simp! only[zQ,c9,a1,Option.some.injEq,exists_eq_left']
  refine eF kp1.st (by simp;omega) (by simp;omega) fun j S2 j0 j1 e2 kp2=>?_
  have b1:S2[S.length]? =some (ls.map D.int):=by rw[kp2.oth _ (by simp;omega) (by omega)];exact a1
  have b2:S2[S.length+1]? =some (ms.map D.int):=by rw[kp2.oth _ (by simp;omega) (by omega)];exact a2
  have e2':S2.length=S'.length+1:=by rw[e2];simp
  have hj:j.toNat<ls.length:=by simp only[List.length_map]at j1;omega
  have hb:0<=j/\j<((ls.map D.int).length:Nat):=⟨j0,by simpa using j1⟩
  have hg:(ls.map D.int)[j.toNat]? =some (.int ls[j.toNat]):=by rw[JB,Jk hj];rfl
  have le1:((ls.map D.int).eraseIdx j.toNat).length<=lim:=by rw[List.length_eraseIdx];simp only[List.length_map];unfold lim;split<;>omega
  have lt1:S.length<S2.length:=by omega
  simp! only[nI,cV,b1,Option.some.injEq,exists_eq_left',hb,and_self,hg,le1,lt1,true_and]
  have c2:(S2.set S.length ((ls.map D.int).eraseIdx j.toNat))[S.length+1]? =some (ms.map D.int):=by rw[JF (by omega)];exact b2
  have le2:(ms.map D.int++[D.int ls[j.toNat]]).length<=lim:=by simp;unfold lim;omega
  have lt2:S.length+1<(S2.set S.length ((ls.map D.int).eraseIdx j.toNat)).length:=by rw[Mj];omega
  simp only[c2,Option.some.injEq,exists_eq_left',le2,lt2,and_self,true_and]
  refine⟨ls.length - 1,by omega,ls.eraseIdx j.toNat,ms++[ls[j.toNat]],?_,?_,by simp;omega,?_,?_,?_⟩
  ·rw[Lc hj]
  ·rw[Lc hj];simp;omega
  ·rw[JF (by omega),JN lt1,qr]
  ·rw[JN lt2];simp
  ·have k2:=kp1.trans kp2
   refine⟨by simp;omega,fun i hi hik=>?_,?_⟩
   ·rw[JF (by omega),JF (by omega)];exact k2.oth i hi hik
   ·obtain⟨st,b,e,q⟩:=k2.st
    exact⟨st,b,by rw[JF (by omega),JF (by omega)];exact e,q⟩
theorem gU{xs:List D}{p k:Nat}{g:i4}{t:i9}{m:TM}{ρ:az}{S:aj}{Q:List D->aj->Prop}(R:az->Prop)(hl:xs.length<=lim)(hs:fy S k)(hp:S[p]? =some xs)(hpk:p≠k)(hR:R ρ)
  (hturn:∀ d∈xs,∀ ρ S',R ρ->Kp k S S'->runs (g d ρ) S' (fun ρ1 S1=>S1=S'/\R ρ1/\runs (t ρ1) S' (fun b S2=>Kp k S' S2/\runs (m ρ1) S2 (fun y S3=>S3=S2/\y=d))))
  (hQ:∀ ys S',ys.Sublist xs->Kp k S S'->Q ys S'):runs (d8 ⟨xs,.some p⟩ g t m ρ) S Q:=by
 have plt:p<S.length:=(Jn.mp hp).1
 refine kT hl (fun ds ρ ys S'=>Kp k S S'/\R ρ/\∃ pre,xs=pre++ds/\ys.Sublist pre) (fun ds ρ ys S' h=>?_) ?_ ⟨.refl hs,hR,[],rfl,.slnil⟩ ?_
 ·show S'[p]? =some xs
  rw[h.1.oth p plt hpk];exact hp
 ·rintro d ds ρ ys S' ⟨kp,hr,pre,e,sb⟩
  refine bE (hturn d (by rw[e];simp) ρ S' hr kp) fun ρ1 S1 ⟨e1,r1,h1⟩=>?_
  subst e1
  refine bE h1 fun b S2 ⟨k2,h2⟩=>?_
  cases b with
  |true=>
   rw[if_pos rfl]
   refine bE h2 fun y S3 ⟨e3,ey⟩=>?_
   subst e3 ey
   exact⟨kp.trans k2,r1,pre++[y],by rw[e];simp,sb.append (.refl _)⟩
  |false=>
   rw[if_neg (by decide)]
   exact⟨kp.trans k2,r1,pre++[d],by rw[e];simp,sb.trans (List.sublist_append_left _ _)⟩
 ·rintro ρ' zs S' ⟨kp,_,pre,e,sb⟩
  rw[JV]at e
  subst e
  exact hQ zs S' sb kp
def Fc(r:List Int):PyData:=.tuple (r.map PyData.int)
theorem rS{S:aj}{n:Nat}(r:List Int):i5 S (n+1) (tupI r)=some (Fc r):=by
 show(mapP (i5 S n) (r.map D.int)).map PyData.tuple=_
 rw[lW];rfl
theorem qt{S:aj}{n:Nat}:∀ rs:List (List Int),mapP (i5 S (n+1)) (rs.map tupI)=some (rs.map Fc)
 |[]=>rfl
 |x::r=>by
  show(match i5 S (n+1) (tupI x),mapP (i5 S (n+1)) (r.map tupI)with|some p,some ps=>some (p::ps)|_,_=>none)=_
  rw[rS,qt r];rfl
theorem A0{S:aj}{k n:Nat}{rs:List (List Int)}(h:S[k]? =some (rs.map tupI)):i5 S (n+2) (.lst k)=some (.list (rs.map Fc)):=by
 show((S[k]?).bind fun xs=>(mapP (i5 S (n+1)) xs).map PyData.list)=_
 rw[h]
 show(mapP (i5 S (n+1)) (rs.map tupI)).map PyData.list=_
 rw[qt];rfl
theorem xb{S:aj}{k:Nat}{r:List Int}{rs:List (List Int)}{Q:D->aj->Prop}(h:S[k]? =some (rs.map tupI))(hQ:∀ b,Q (.bl b) S):runs (inD (tupI r) (.lst k)) S Q:=by
 unfold inD
 rw[wz (rS r) (A0 h) rfl]
 exact hQ _
theorem GI{S:aj}{a b:Bool}{Q:D->aj->Prop}(hQ:∀ b,Q (.bl b) S):runs (ma (.bl a) (.bl b)) S Q:=by
 unfold ma
 rw[gE lS lS]
 exact hQ _
theorem ko(ns:List Int):intsOf (ns.map D.int)=some ns:=by
 induction ns with
 |nil=>rfl
 |cons x r ih=>simp[intsOf,ih]
theorem oG(rs:List (List Int)):rowsOf (rs.map tupI)=some rs:=by
 induction rs with
 |nil=>rfl
 |cons x r ih=>
  show(match intsOf (x.map D.int),rowsOf (r.map tupI)with|some ns,some nss=>some (ns::nss)|_,_=>none)=_
  rw[ko,ih]
structure WebOk(many:Int)(ts:List (List Int)):Prop where
 el:∀ t∈ts,∃ a b:Int,t=[a,b]/\0<=a/\a<b/\b<many
 ris:ts.Pairwise fun a b=>HT.lexLt a b=true
 few:ts.length<=21
theorem t8{n:Nat}:∀ t∈bt n,∃ a b:Int,t=[a,b]/\0<=a/\a<b/\b<n:=by
 intro t ht
 unfold bt at ht
 obtain⟨a,ha,hb⟩:=List.mem_flatMap.mp ht
 unfold eE at hb
 obtain⟨b,hb2,rfl⟩:=JY.mp hb
 rw[List.mem_range'_1]at hb2
 rw[JG]at ha
 exact⟨a,b,rfl,by omega,by omega,by omega⟩
theorem qu{n:Nat}(hn:n<=7):(bt n).Pairwise (fun a b=>HT.lexLt a b=true)/\(bt n).length<=21:=by
 have:∀ m,m<8->(bt m).Pairwise (fun a b=>HT.lexLt a b=true)/\(bt m).length<=21:=by decide+kernel
 exact this n (by omega)
theorem WebOk.of_sub{n:Nat}(hn:n<=7){ts:List (List Int)}(h:ts.Sublist (bt n)):WebOk n ts:=
 ⟨fun t ht=>t8 t (h.subset ht),List.Pairwise.sublist h (qu hn).1,Ju h.length_le (qu hn).2⟩
theorem yz{ts:List (List Int)}(h:ts.Pairwise fun a b=>HT.lexLt a b=true):jk ts=ts:=
 lL (di ts) (dy ts) (h.imp fun z=>tu z)
theorem yA{a b:List Int}:rN (tupI a) (tupI b)=HT.lexLt a b:=by
 simp only[rN,tupI,ko]
theorem t9:∀{ts:List (List Int)},ts.Pairwise (fun a b=>HT.lexLt a b=true)->rO (ts.map tupI)=true
 |[],_=>rfl
 |[_],_=>rfl
 |a::b::r,h=>by
  obtain⟨h1,h2⟩:=Kd.mp h
  show(rN (tupI a) (tupI b) && rO ((b::r).map tupI))=true
  rw[yA,h1 b (by simp),t9 h2];rfl
theorem rT{many:Int}{ts:List (List Int)}(h0:0<=many)(h14:many<=14)(w:WebOk many ts):gw (.tup [.int many,.tup (ts.map tupI)])=true:=by
 have:(ts.map tupI).all (i8 many)=true:=by
  rw[MV,JQ]
  intro t ht
  obtain⟨a,b,rfl,h1,h2,h3⟩:=w.el t ht
  simp[tupI,i8,gT,h1,h2,h3]
  omega
 simp only[gw,h0,h14,this,t9 w.ris,decide_true,Bool.and_self]
theorem Jb{j g:Int}(h0:0<=j)(h1:j<8)(hg:0<=g)(hg7:g<=7):∃ v:Int,i3 [D.int 0,D.int 0,D.int 1,D.int 0,D.int 2,D.int 1,D.int 3,D.int g] j=some (.int v)/\0<=v/\v<=7:=by
 have:j=0\/j=1\/j=2\/j=3\/j=4\/j=5\/j=6\/j=7:=by omega
 rcases this with rfl|rfl|rfl|rfl|rfl|rfl|rfl|rfl
 ·exact⟨0,rfl,by decide,by decide⟩
 ·exact⟨0,rfl,by decide,by decide⟩
 ·exact⟨1,rfl,by decide,by decide⟩
 ·exact⟨0,rfl,by decide,by decide⟩
 ·exact⟨2,rfl,by decide,by decide⟩
 ·exact⟨1,rfl,by decide,by decide⟩
 ·exact⟨3,rfl,by decide,by decide⟩
 ·exact⟨g,rfl,hg,hg7⟩
theorem Jc{j:Int}(h0:0<=j)(h1:j<3):∃ v:Int,i3 [D.int 2,D.int 4,D.int 6] j=some (.int v):=by
 have:j=0\/j=1\/j=2:=by omega
 rcases this with rfl|rfl|rfl
 ·exact⟨2,rfl⟩
 ·exact⟨4,rfl⟩
 ·exact⟨6,rfl⟩
theorem Jd{a b c d j:Int}(h0:0<=j)(h1:j<4):∃ v:Int,i3 [D.int a,D.int b,D.int c,D.int d] j=some (.int v)/\(v=a\/v=b\/v=c\/v=d):=by
 have:j=0\/j=1\/j=2\/j=3:=by omega
 rcases this with rfl|rfl|rfl|rfl
 ·exact⟨a,rfl,by simp⟩
 ·exact⟨b,rfl,by simp⟩
 ·exact⟨c,rfl,by simp⟩
 ·exact⟨d,rfl,by simp⟩
theorem rV{ns:List Int}{i:Int}(h0:0<=i)(h1:i<ns.length):∃ v:Int,i3 (ns.map D.int) i=some (.int v):=by
 obtain⟨j,rfl⟩:=KC h0
 have hj:j<ns.length:=by omega
 refine⟨ns[j],?_⟩
 unfold i3 uG
 simp[hj]
theorem Io:8<=lim:=by unfold lim;omega
theorem Ip:4<=lim:=by unfold lim;omega
theorem CK{S:aj}{a b:Int}{Q:D->aj->Prop}(hQ:∀ r:List Int,r.length=2->Q (.lst (S++[[D.int a,D.int b]]).length) (S++[[D.int a,D.int b]]++[r.map D.int])):runs (dz [.lst S.length]) (S++[[D.int a,D.int b]]) Q:=by
 have i2:intsOf [D.int a,D.int b]=some [a,b]:=rfl
 have sl:(sortI [a,b]).length=2:=(sortI_perm [a,b]).length_eq
 have l3:((sortI [a,b]).map D.int).length<=lim:=by rw[Jl,sl];exact i7
 have l4:(2:Nat)<64:=by decide
 simp! only[dz,n4,aV,Option.some.injEq,exists_eq_left',i2,l4,l3,true_and]
 exact hQ _ sl
theorem GJ{S:aj}{xs:List D}{Q:D->aj->Prop}(hl:xs.length<=lim):runs (cf [.lst S.length]) (S++[xs]) Q↔Q (.tup xs) (S++[xs]):=by
 simp! only[cf,aV,Option.some.injEq,exists_eq_left',hl,true_and]
theorem Do{S S':aj}{k q p:Nat}{rs:List (List Int)}{ms:List Int}{a b:Int}{Q:D->aj->Prop}(h1:S'[q]? =some (rs.map tupI))(h2:S'[p]? =some (ms.map D.int))(hpq:p≠q)(hqk:q≠k)(hlen:rs.length<=1000)(hS:S.length<=q)(kp:Kp k S S')
  (hQ:∀(r:List Int) (S2:aj),S'.length<=S2.length->S2[q]? =some ((rs++[r]).map tupI)->S2[p]? =some (ms.map D.int)->Kp k S S2->Q .non S2):
  runs (dz [.lst S'.length]) (S'++[[D.int a,D.int b]]) (fun x S1=>runs (cf [x]) S1 (fun y S2=>runs (cV (.lst q) [y]) S2 Q)):=by
 refine CK fun r hr=>?_
 have l2:(r.map D.int).length<=lim:=by rw[Jl,hr];exact i7
 rw[GJ l2]
 have qlt:q<S'.length:=(Jn.mp h1).1
 have plt:p<S'.length:=(Jn.mp h2).1
 have g1:(S'++[[D.int a,D.int b]]++[r.map D.int])[q]? =some (rs.map tupI):=by rw[JH,Jp qlt];exact h1
 have l3:(rs.map tupI++[D.tup (r.map D.int)]).length<=lim:=by simp;unfold lim;omega
 have l4:q<(S'++[[D.int a,D.int b]]++[r.map D.int]).length:=by simp;omega
 simp! only[cV,g1,Option.some.injEq,exists_eq_left',l3,l4,and_self,true_and]
 refine hQ r _ (by simp) ?_ ?_ ?_
 ·rw[JN l4,Kt];rfl
 ·rw[JF (Ne.symm hpq),JH,Jp plt];exact h2
 ·refine⟨by have:=kp.len;simp;omega,fun i hi hik=>?_,?_⟩
  ·have:=kp.len
   rw[JF (by omega),JH,Jp (by omega)];exact kp.oth i hi hik
  ·obtain⟨st,b',e,z⟩:=kp.st
   have klt:=kp.st.lt
   exact⟨st,b',by rw[JF hqk,JH,Jp klt];exact e,z⟩
theorem Fd{S:aj}{k:Nat}{g:Int}{Q:D->aj->Prop}(hg:0<=g)(hg7:g<=7)(hs:fy S k)(hQ:∀(many:Int) ts S',0<=many->many<=g->WebOk many ts->Kp k S S'->Q (.tup [.int many,.tup (ts.map tupI)]) S'):runs (dn [.lst k,.int g]) S Q:=by
 unfold dn kh
 refine(iN rfl).mpr ?_
 have l0:0<=lim:=JE _
 simp! only[Io,true_and]
 refine eF (Kp.grow hs _).st (by decide) (by decide) fun j S1 j0 j1 e1 k1=>?_
 have kp1:=(Kp.grow hs [[D.int 0,D.int 0,D.int 1,D.int 0,D.int 2,D.int 1,D.int 3,D.int g]]).trans k1
 obtain⟨v,ev,v0,v6⟩:=Jb j0 j1 hg hg7
 have hk:=hs.lt
 have g1:S1[S.length]? =some [D.int 0,D.int 0,D.int 1,D.int 0,D.int 2,D.int 1,D.int 3,D.int g]:=by rw[k1.oth _ (by simp) (by omega)];exact aV
 simp! only[eI,g1,Option.some.injEq,exists_eq_left',ev,lI,fW,maxD,pZ]
 obtain⟨n,hn⟩:∃ n:Nat,(if g - v>0 then g - v else 0)=(n:Int):=⟨(g - v).toNat,by split<;>omega⟩
 have hng:(n:Int)<=g:=by split at hn<;>omega
 have hn6:n<=7:=by omega
 rw[hn]
 refine eF kp1.st (by decide) (by decide) fun way S2 w0 w7 e2 k2=>?_
 have kp2:=kp1.trans k2
 refine rR (by omega) fun S3 s3len s3oth s3at=>?_
 have kp3:=kp2.trans (Kp.mk0 kp2.st (Kl s3len) s3oth)
 have hk2:k<S2.length:=kp2.st.lt
 have pl:((bt n).map tupI).length<=lim:=by have:=pairs_len (n:=n) (by omega);simp;unfold lim;omega
 simp! only[zS,s3at,Option.some.injEq,exists_eq_left']
 refine gU (fun ρ=>∃ x,ρ=[x,some (.lst k),some (.int way)]) pl kp3.st s3at (by omega) ⟨none,rfl⟩ ?_ ?_
 ·rintro d hd ρ S' ⟨x,rfl⟩ kp
  unfold gQ gR
  simp! only[mV]
  refine⟨trivial,⟨_,rfl⟩,?_⟩
  refine eF kp.st (by decide) (by decide) fun j S4 j0 j1 e4 k4=>?_
  obtain⟨u,eu⟩:=Jc (j:=way % 3) (KI _ (by decide)) (Kk _ (by decide))
  simp! only[vE,true_and,kJ,fW,eI,aV,Option.some.injEq,exists_eq_left',show(0:Int)<3 by decide,eu,v9]
  exact⟨k4.trans (Kp.grow k4.st _),trivial⟩
 ·intro ys S4 sub k4
  have kp4:=kp3.trans k4
  obtain⟨ts,tsub,rfl⟩:=Md.mp sub
  have w1:=WebOk.of_sub hn6 tsub
  have tl:(ts.map tupI).length<=lim:=by have:=w1.few;simp;unfold lim;omega
  have hr: -(2 ^ 62)<=(n:Int)/\(n:Int)<=(lim:Nat):=⟨by omega,by unfold lim;omega⟩
  have rl:(aI 0 n).length<=lim:=by simp only[aI,List.length_map,List.length_range];unfold lim;omega
  have rr:aI 0 n=((List.range n).map fun i:Nat=>(0+(i:Int))).map D.int:=by unfold aI;rw[J2];rfl
  simp! only[tl,true_and,iF,hr,and_self,Int.toNat_natCast,rl]
  have st5:=(Kp.grow kp4.st [ts.map tupI]).trans (Kp.grow (Kp.grow kp4.st _).st [aI 0 n])
  have rat:(S4++[ts.map tupI]++[aI 0 n])[(S4++[ts.map tupI]).length]? =some (((List.range n).map fun i:Nat=>(0+(i:Int))).map D.int):=by rw[<-rr];exact aV
  refine CJ st5.st rat (by simp;omega) fun p ms S6 mlen pat plen k6=>?_
  have kp6:=kp4.trans (st5.trans k6)
  have mlen':ms.length=n:=by rw[mlen];simp
  have hk4:k<S4.length:=kp4.st.lt
  have tat:S6[S4.length]? =some (ts.map tupI):=by
   rw[k6.oth _ (by simp) (by omega),Jp (by simp)];exact aV
  have fin:∀(q:Nat) (us:List (List Int)) (S':aj),us.Sublist (bt n)->S'[q]? =some (us.map tupI)->Kp k S S'->runs (do let ds<-(do let x<-(do let ds<-(do let x<-(do let ds<-(do let x<-pure (D.lst q);let xs<-pure [];pure (x::xs));dz ds);let xs<-pure [];pure (x::xs));cf ds);let xs<-pure [];pure (x::xs));bY (D.int n::ds)) S' Q:=by
   intro q us S' hsub hq hkp
   have w:=WebOk.of_sub hn6 hsub
   have h64:us.length<64:=by have:=w.few;omega
   have ul:(us.map tupI).length<=lim:=by have:=w.few;simp;unfold lim;omega
   cases us with
   |nil=>
    have hq':S'[q]? =some []:=hq
    simp! only[dz,n4,hq',Option.some.injEq,exists_eq_left',intsOf,show([]:List Int).length<64 by decide,sortI,l0,i7,true_and,cf,aV]
    exact hQ n [] _ (by omega) (by omega) w (hkp.trans (Kp.grow hkp.st _))
   | cons u us=>
    have i0:intsOf ((u::us).map tupI)=none:=rfl
    have h2:two (u::us)=true:=by
     unfold two
     rw[JQ]
     intro t ht
     obtain⟨a,b,rfl,_⟩:=w.el t ht
     rfl
    have cond:(u::us).length<64/\two (u::us)=true:=⟨h64,h2⟩
    generalize hU:(u::us)=U at*
    simp! only[dz,n4,hq,Option.some.injEq,exists_eq_left',i0,oG,tw,cond,and_self,yz w.ris,ul,i7,true_and,cf,aV]
    exact hQ n U _ (by omega) (by omega) w (hkp.trans (Kp.grow hkp.st _))
  simp! only[BW,fW]
  by_cases hw:(2:Int)<way
  ·simp! only[hw,decide_true,l0,true_and]
   have hr2: -(2 ^ 62)<=(1:Int)/\(1:Int)<2 ^ 62/\ -(2 ^ 62)<=(n:Int)/\(n:Int)<2 ^ 62:=⟨by decide,by decide,by omega,by omega⟩
   simp! only[gD,hr2,and_self]
   have hp6:p<S6.length:=(Jn.mp pat).1
   have hk6:k<S6.length:=kp6.st.lt
   have hpk:p≠k:=by simp at plen;omega
   refine lV (fun ds ρ S'=>∃ pre post rs x,(List.range ((n:Int) - 1).toNat)=pre++post/\ds=post.map (fun i:Nat=>D.int (1+(i:Nat)))/\ρ=[some (.lst k),some (.int g),some (.int n),some (.int way),some (.lst S6.length),some (.lst p),x,none]/\rs.length=pre.length/\
    S6.length<S'.length/\S'[S6.length]? =some (rs.map tupI)/\S'[p]? =some (ms.map D.int)/\Kp k S S') ⟨[],_,[],none,rfl,rfl,rfl,rfl,by simp,aV,by rw[Jp hp6];exact pat,kp6.trans (Kp.grow kp6.st _)⟩ ?_ ?_
   ·rintro ρ S7 ⟨pre,post,rs,x,e,e0,rfl,rlen,q1,q2,q3,kp7⟩
    have hpost:post=[]:=by simpa using e0.symm
    subst hpost
    have plen7:pre.length<=7:=by have:=Li List.length e;simp at this;omega
    have rl7:rs.length<=7:=by omega
    have tail:∀(S8:aj) (rs8:List (List Int)),S6.length<S8.length->S8[S6.length]? =some (rs8.map tupI)->Kp k S S8->runs (do
      let o<-aH (bq 7 (cg (i6 (aK bI (af (mV 2) aD))) (gN 0) eZ e8 [none,some 0])) (bq 4 (cg (i6 (aK bI (af (mV 2) aD))) (gN 0) fe ff [none,some 4,some 7]))
       [some (.lst k),some (.int g),some (.int n),some (.int way),some (.lst S6.length),some (.lst p),x,none]
      nB o (bA (ij (af (mV 2) (af (dI cf (dI dz (mV 4))) aD))))) S8 (fun o S'=>runs (outD o) S' Q):=by
     intro S8 rs8 q1 q2 kp8
     have hk8:k<S8.length:=kp8.st.lt
     simp! only[mV]
     refine rR (by omega) fun S9 a1 a2 a3=>?_
     have kp9:=kp8.trans (Kp.mk0 kp8.st (Kl a1) a2)
     simp! only[zS,a3,Option.some.injEq,exists_eq_left']
     refine gU (fun ρ=>∃ x,ρ=[x,some (.lst k)]) pl kp9.st a3 (by omega) ⟨none,rfl⟩ ?_ ?_
     ·rintro d hd ρ S' ⟨x,rfl⟩ kp
      unfold eZ e8
      simp! only[mV]
      refine⟨trivial,⟨_,rfl⟩,?_⟩
      refine eF kp.st (by decide) (by decide) fun j S10 j0 j1 e4 k4=>?_
      simp! only[eq_int]
      exact⟨k4,trivial,trivial⟩
     ·intro ys S10 sub k10
      obtain⟨os,osub,rfl⟩:=Md.mp sub
      have kp10:=kp9.trans k10
      have ol:(os.map tupI).length<=lim:=by have:=osub.length_le;have:=pairs_len (n:=n) (by omega);simp;unfold lim;omega
      have b2:S10[S6.length]? =some (rs8.map tupI):=by rw[k10.oth _ (by omega) (by omega),a2 _ q1];exact q2
      have hl10:=k10.len
      simp! only[ol,true_and]
      have kp11:=kp10.trans (Kp.grow kp10.st [os.map tupI])
      refine rR (by omega) fun S12 c1 c2 c3=>?_
      have kp12:=kp11.trans (Kp.mk0 kp11.st (Kl c1) c2)
      have d2:S12[S6.length]? =some (rs8.map tupI):=by rw[c2 _ (by simp;omega),Jp (by omega)];exact b2
      have d3:S12[S10.length]? =some (os.map tupI):=by rw[c2 _ (by simp)];exact aV
      have hk10:k<S10.length:=kp10.st.lt
      simp! only[zS,c3,Option.some.injEq,exists_eq_left']
      have l12:S6.length<S12.length:=by simp at c1;omega
      have l13:S10.length<S12.length:=by simp at c1;omega
      refine gU (fun ρ=>∃ x,ρ=[x,some (.lst S6.length),some (.lst S10.length)]) pl kp12.st c3 (by simp;omega) ⟨none,rfl⟩ ?_ ?_
      ·rintro d hd ρ S' ⟨x,rfl⟩ kp
       obtain⟨r,hr',rfl⟩:=JY.mp hd
       unfold fe ff
       simp! only[mV]
       refine⟨trivial,⟨_,rfl⟩,?_⟩
       refine xb (by rw[kp.oth _ l12 (by omega)];exact d2) fun b1=>?_
       refine xb (by rw[kp.oth _ l13 (by omega)];exact d3) fun b2=>?_
       refine GI fun b3=>?_
       simp! only[mV]
       exact⟨Kp.refl kp.st,trivial,trivial⟩
      ·intro zs S14 sub2 k14
       obtain⟨us,usub,rfl⟩:=Md.mp sub2
       have kp14:=kp12.trans k14
       have ul:(us.map tupI).length<=lim:=by have:=usub.length_le;have:=pairs_len (n:=n) (by omega);simp;unfold lim;omega
       simp! only[ul,true_and]
       have:=fin S14.length us (S14++[us.map tupI]) usub aV (kp14.trans (Kp.grow kp14.st _))
       simp! only[mV]at this
       exact this
    simp! only[eq_int,BW,fW]
    simp! only[mV]at tail
    by_cases c4:way=4
    ·simp! only[c4,decide_true]
     by_cases c2:(2:Int)<n
     ·simp! only[c2,decide_true,zQ]
      obtain⟨u1,eu1⟩:=rV (ns:=ms) (i:=0) (by decide) (by omega)
      obtain⟨u2,eu2⟩:=rV (ns:=ms) (i:=(n:Int) - 1) (by omega) (by omega)
      simp! only[eI,q3,Option.some.injEq,exists_eq_left',eu1,eu2,lI,fW]
      refine⟨i7,?_⟩
      refine Do q2 q3 (by omega) (by omega) (by omega) (by have:=kp6.len;omega) kp7 fun r S8 z1 z2 z3 z4=>?_
      subst c4
      exact tail S8 _ (by omega) z2 z4
     ·simp! only[c2,decide_false]
      subst c4
      exact tail S7 rs q1 q2 kp7
    ·simp! only[c4,decide_false]
     exact tail S7 rs q1 q2 kp7
   ·rintro d ds ρ S7 ⟨pre,post,rs,x,e,e0,rfl,rlen,q1,q2,q3,kp7⟩
    match post,e0 with
    |[],e0=>cases e0
    |i::post,e0=>
     simp only[List.map_cons,List.cons.injEq]at e0
     obtain⟨rfl,rfl⟩:=e0
     have hi:i<((n:Int) - 1).toNat:=JG.mp (by rw[e];simp)
     have pl7:pre.length<=7:=by have:=Li List.length e;simp at this;omega
     unfold gS
     have c8:uz (1+(i:Int)) 2:=⟨by decide,by decide⟩
     obtain⟨u1,eu1⟩:=rV (ns:=ms) (i:=1+(i:Int)) (by omega) (by omega)
     obtain⟨v4,ev4,hv4⟩:=Jd (a:=1+(i:Int) - 1) (b:=1+(i:Int) - 1) (c:=0) (d:=(1+(i:Int)) / 2) (j:=way - 3) (by omega) (by omega)
     obtain⟨u2,eu2⟩:=rV (ns:=ms) (i:=v4) (by omega) (by omega)
     have q3':∀ xs,(S7++[xs])[p]? =some (ms.map D.int):=fun xs=>by rw[Jp (by omega)];exact q3
     have q2':∀ xs,(S7++[xs])[S6.length]? =some (rs.map tupI):=fun xs=>by rw[Jp q1];exact q2
     simp! only[zQ,eI,q3,q3',Option.some.injEq,exists_eq_left',eu1,lI,nF,fW,c8,Ip,i7,true_and,aV,ev4,eu2]
     refine Do (S':=S7++[[D.int (1+(i:Int) - 1),D.int (1+(i:Int) - 1),D.int 0,D.int ((1+(i:Int)) / 2)]]) (q2' _) (q3' _) (by omega) (by omega) (by omega) (by have:=kp6.len;omega) (kp7.trans (Kp.grow kp7.st _)) fun r S8 z1 z2 z3 z4=>?_
     refine⟨pre++[i],post,rs++[r],some (.int (1+(i:Int))),by rw[e];simp,rfl,rfl,by simp[rlen],by simp at z1;omega,z2,z3,z4⟩
  ·simp! only[hw,decide_false]
   have:=fin S4.length ts S6 tsub tat kp6
   simp! only[mV]at this
   exact this
theorem yB{t:List Int}{l:List (List Int)}:t∈iW l↔t∈l:=by
 unfold iW
 rw[(di _).mem_iff,ig]
theorem qv:∀ l:List (List Int),(eQ l).length<=l.length
 |[]=>Jj _
 |x::r=>by
  unfold eQ
  have:=qv r
  split
  ·simp;omega
  ·simp;omega
theorem qw(l:List (List Int)):(iW l).length<=l.length:=by
 unfold iW
 rw[(di _).length_eq];exact qv l
theorem yC(l:List (List Int)):(iW l).Pairwise fun a b=>HT.lexLt a b=true:=by
 have h1:=dy (eQ l)
 have h2:(iW l).Nodup:=(Lo (di _)).mpr (kQ l)
 unfold iW at h2 ⊢
 generalize jk (eQ l)=s at h1 h2
 induction s with
 |nil=>exact .nil
 |cons x r ih=>
  obtain⟨a1,a2⟩:=Kd.mp h1
  obtain⟨b1,b2⟩:=Ke.mp h2
  refine Kd.mpr ⟨fun y hy=>?_,ih a2 b2⟩
  cases q:HT.lexLt x y with
  |true=>rfl
  |false=>exact absurd (rj q (a1 y hy) ▸ hy) b1
theorem CL{S:aj}{k:Nat}{Q:D->aj->Prop}(hs:fy S k)(hQ:∀(many:Int) ts S',0<=many->many<=14->WebOk many ts->Kp k S S'->Q (.tup [.int many,.tup (ts.map tupI)]) S'):runs (bG [.lst k]) S Q:=by
 unfold bG eT
 refine(iN rfl).mpr ?_
 have l0:0<=lim:=JE _
 simp! only[mV]
 refine eF hs (by decide) (by decide) fun j S1 j0 j1 e1 k1=>?_
 have hk1:k<S1.length:=k1.st.lt
 simp! only[cQ,l0,true_and]
 refine eF (Kp.grow k1.st _).st (by decide) (by decide) fun c S2 c0 c1 e2 k2=>?_
 have kp2:=k1.trans ((Kp.grow k1.st [[]]).trans k2)
 have g2:S2[S1.length]? =some ((([]:List (List Int))).map tupI):=by rw[k2.oth _ (by simp) (by omega)];exact aV
 have hr: -(2 ^ 62)<=c/\c<2 ^ 62:=⟨by omega,by omega⟩
 simp! only[jj,hr,and_self]
 refine lV (fun ds ρ S'=>∃(rs:List (List Int)) (x y z:Option D),ds.length+rs.length=c.toNat/\ρ=[some (.lst k),some (.int (8+j)),some (.lst S1.length),x,y,z]/\(∀ t∈rs,∃ a b:Int,t=[a,b]/\0<=a/\a<b/\b<8+j)/\
  S1.length<S'.length/\S'[S1.length]? =some (rs.map tupI)/\Kp k S S') ⟨[],none,none,none,by simp[aI],rfl,(fun t ht=>by cases ht),by rw[e2];simp,g2,kp2⟩ ?_ ?_
 ·rintro ρ S3 ⟨rs,x,y,z,hlen,rfl,hel,q1,q2,kp3⟩
  have rl:rs.length<=11:=by simp at hlen;omega
  have h2:two rs=true:=by
   unfold two
   rw[JQ]
   intro t ht
   obtain⟨a,b,rfl,_⟩:=hel t ht
   rfl
  have cond:rs.length<=18/\two rs=true:=⟨by omega,h2⟩
  have ul:((iW rs).map tupI).length<=lim:=by have:=qw rs;simp;unfold lim;omega
  simp! only[kR,q2,Option.some.injEq,exists_eq_left',oG,dY,cond,and_self,ul,true_and,cf,aV,i7]
  exact hQ (8+j) (iW rs) _ (by omega) (by omega) ⟨fun t ht=>hel t (yB.mp ht),yC rs,by have:=qw rs;omega⟩ (kp3.trans (Kp.grow kp3.st _))
 ·rintro d ds ρ S3 ⟨rs,x,y,z,hlen,rfl,hel,q1,q2,kp3⟩
  unfold dH
  simp! only[mV]
  refine eF kp3.st (by omega) (by omega) fun one S4 o0 o1 e4 k4=>?_
  simp! only[cQ,lI,fW]
  refine eF k4.st (by omega) (by omega) fun two' S5 t0 t1 e5 k5=>?_
  have hpos:(0:Int)<8+j:=by omega
  have kp5:=kp3.trans (k4.trans k5)
  have q5:S5[S1.length]? =some (rs.map tupI):=by rw[k5.oth _ (by omega) (by omega),k4.oth _ q1 (by omega)];exact q2
  simp! only[cQ,kJ,fW,hpos,minD,maxD,pZ,i7,true_and,zQ]
  generalize ho:(one+1+two') % (8+j)=oth
  have hoth:oth≠one/\0<=oth/\oth<8+j:=by
   have b1:0<=oth:=by rw[<-ho];exact KI _ (by omega)
   have b2:oth<8+j:=by rw[<-ho];exact Kk _ (by omega)
   refine⟨?_,b1,b2⟩
   by_cases hc:one+1+two'<8+j
   ·have:(one+1+two') % (8+j)=one+1+two':=Int.emod_eq_of_lt (by omega) hc
    omega
   ·have:(one+1+two') % (8+j)=one+1+two' - (8+j):=by
     rw[<-Int.sub_emod_right]
     exact Int.emod_eq_of_lt (by omega) (by omega)
    omega
  have l3:(rs.map tupI++[D.tup [D.int (if oth<one then oth else one),D.int (if oth>one then oth else one)]]).length<=lim:=by simp at hlen ⊢;unfold lim;omega
  have l4:S1.length<S5.length:=by omega
  simp! only[cV,q5,Option.some.injEq,exists_eq_left',l3,l4,and_self,true_and]
  refine⟨rs++[[if oth<one then oth else one,if oth>one then oth else one]],_,_,_,by simp at hlen ⊢;omega,rfl,fun t ht=>?_,by simp;omega,?_,?_⟩
  ·rcases Lw.mp ht with ht|ht
   ·exact hel t ht
   ·have:t=[if oth<one then oth else one,if oth>one then oth else one]:=by simpa using ht
    subst this
    refine⟨_,_,rfl,?_⟩
    obtain⟨h1,h2,h3⟩:=hoth
    by_cases c1:oth<one
    ·rw[if_pos c1,if_neg (by omega)];exact⟨h2,c1,o1⟩
    ·rw[if_neg c1,if_pos (by omega)];exact⟨o0,by omega,h3⟩
  ·rw[JN l4,Kt];rfl
  ·refine⟨by have:=kp5.len;simp;omega,fun i hi hik=>?_,?_⟩
   ·have h1:=k1.len
    rw[JF (by omega)];exact kp5.oth i hi hik
   ·obtain⟨st,b',e,z⟩:=kp5.st
    exact⟨st,b',by rw[JF (by omega)];exact e,z⟩
def GK:Nat->D->Bool
 |_,.ro _=>false
 |_,.fn _ _ _ _ _=>false
 |_,.exc _ _=>false
 |n+1,.tup ds=>ds.all (GK n)
 |_,_=>true
theorem xc{n:Nat}{d:D}(h:GK n d=true):yN d:=by
 cases d<;>first|rfl|(cases n<;>cases h)
theorem GL{n:Nat}{d:D}(h:GK (n+1) d=true):Il d:=⟨xc h,fun ds e x hx=>by
 subst e
 exact xc (JQ.mp h x hx)⟩
def GN:D->Bool
 | .tup ds=>ds.all fun x=>match x with
  | .tup ts=>decide (ts.length<=18)
  |_=>true
 |_=>true
structure Good(d:D):Prop where
 nr:GH d
 few:∀ m ts,d= .tup [m,.tup ts]->ts.length<=18
theorem CM{d:D}(h:GK 3 d=true)(h2:GN d=true):Good d:=⟨⟨xc h,fun ds e x hx=>by
  subst e
  have hx3:=JQ.mp h x hx
  refine⟨xc hx3,fun ts et t ht=>?_⟩
  subst et
  exact GL (JQ.mp hx3 t ht)⟩,fun m ts e=>by
  subst e
  have:=JQ.mp h2 (.tup ts) (by simp)
  simpa using this⟩
def A1(d:D):Bool:=GK 3 d && GN d
theorem lj{d:D}(h:A1 d=true):Good d:=by
 unfold A1 at h
 rw[Kz]at h
 exact CM h.1 h.2
theorem Dp{xs:List D}{j:Int}(h0:0<=j)(h1:j<xs.length):∃ d,i3 xs j=some d/\d∈xs:=by
 have hk:j.toNat<xs.length:=by omega
 refine⟨xs[j.toNat],?_,Km hk⟩
 unfold i3 uG
 simp[h0,h1,hk]
def oH(p:Int)(t:List Int):Bool:=t.any (· ==p)
def jZ(s t:List Int):Bool:=decide ((distinct (s++t)).length<4)
theorem A3{a b c d:Int}(h1:a<b)(h2:c<d):jZ [a,b] [c,d]=decide (a=c\/a=d\/b=c\/b=d):=by
 unfold jZ distinct firstMet
 have e:(List.range ([a,b]++[c,d]).length).map (fun i=>([a,b]++[c,d]).getD i 0)=[a,b,c,d]:=rfl
 rw[e]
 have hab:¬ a=b:=by omega
 have hcd:¬ c=d:=by omega
 refine decide_eq_decide.mpr ?_
 show(step_dedup (step_dedup (step_dedup (step_dedup [] a) b) c) d).length<4↔_
 have s1:step_dedup [] a=[a]:=rfl
 have s2:step_dedup [a] b=[a,b]:=by simp[step_dedup,hab]
 have s3:step_dedup [a,b] c=if a=c\/b=c then [a,b]else [a,b,c]:=by unfold step_dedup;simp
 rw[s1,s2,s3]
 by_cases h:a=c\/b=c
 ·rw[if_pos h]
  have:(step_dedup [a,b] d).length<4:=by unfold step_dedup;split<;>simp
  exact⟨fun _=>by omega,fun _=>this⟩
 ·rw[if_neg h]
  have s4:step_dedup [a,b,c] d=if a=d\/b=d then [a,b,c]else [a,b,c,d]:=by unfold step_dedup;simp[hcd]
  rw[s4]
  by_cases h3:a=d\/b=d
  ·rw[if_pos h3]
   exact⟨fun _=>by omega,fun _=>by simp⟩
  ·rw[if_neg h3]
   exact⟨fun z=>by simp at z,fun z=>by omega⟩
structure Tied(n:Nat)(E:List (List Int)):Prop where
 el:∀ t∈E,∃ a b:Int,t=[a,b]/\0<=a/\a<b/\b<n
 nd:E.Nodup
theorem Iq{p a b:Int}:oH p [a,b]=decide (p=a\/p=b):=by
 unfold oH
 rw[LK]
 simp
 constructor
 ·rintro(h|h)
  ·exact .inl h.symm
  ·exact .inr h.symm
 ·rintro(h|h)
  ·exact .inl h.symm
  ·exact .inr h.symm
def fJ(E:List (List Int))(a:Nat):List (List Int):=((List.range' (a+1) (E.length - (a+1))).filter fun b=>jZ (E.getD a []) (E.getD b [])).map fun b:Nat=>[(a:Int),(b:Int)]
def bB(E:List (List Int)):List (List Int):=(List.range E.length).flatMap (fJ E)
section
variable {d:D}
theorem GO(h:GH d)(hl:∀ m ts,d= .tup [m,.tup ts]->ts.length<=1000):gO (ir [d])=pure (.bl (gw d)):=by rw[E8 h hl];exact lg
theorem rW(h:GH d)(hl:∀ m ts,d= .tup [m,.tup ts]->ts.length<=1000):bR [d]=if gw d=true then pure .non else M.raise (.exc "NoWeb" []):=by
 unfold bR ki lH
 simp! only[il,yh,Dh,bW,lQ,la,bL,f7,bT,ao,GO h hl]
 cases gw d<;>simp! only[il,yh,Dh,bW,lQ,la,bL,f7,bT,ao,yu,lim,iT,f7]<;>rfl
theorem ll{most:Int}(h:yN d)(hw:oE d=false):br [d,.int most]=M.raise (.exc "NoNumber" []):=by
 unfold br eY lH
 simp! only[il,yh,Dh,bW,lQ,la,bL,f7,bT,ao,mZ h,lg,iT,hw]
 rfl
theorem jQ{most t:Int}:br [.int t,.int most]=if 0<=t/\t<=most then pure .non else M.raise (.exc "NoNumber" []):=by
 unfold br eY lH
 simp! only[il,yh,Dh,bW,lQ,la,bL,f7,bT,ao,mZ (show yN (.int t)from rfl),lg,iT,oE,Br,fW]
 by_cases h1:0<=t
 ·by_cases h2:t<=most
  ·simp[h1,h2,Nat.zero_add,Nat.reduceAdd,Nat.reduceSub,cg,ik,List.map_cons,List.map_nil,List.replicate,List.cons_append,List.nil_append,List.set_cons_succ,List.set_cons_zero,outD,nB,mV,mK,lN,Ia,Ca,Ft,aD,af,ij,bH,aM,aK,dI,bz,rq,oN,oS,Cb,EC,fZ,wy,uu,bV,jl,kc,rz,ef,Cc,xX,jX,mr,vn,i6,ED,gN,Fu,eh,aH,oX,bA,kd,bq,pF,EE,rA,gy,cn,hZ,List.length_cons,List.length_nil,Bool.not_true,Bool.not_false,Bool.false_eq_true,if_true,if_false,Bool.true_eq_false,wQ,wR,wU,wV,wW,AO,AQ,AR,AS,il,yh,Dh,bW,lQ,la,bL,f7,bT,ao,iT]
  ·simp[h1,h2,Nat.zero_add,Nat.reduceAdd,Nat.reduceSub,cg,ik,List.map_cons,List.map_nil,List.replicate,List.cons_append,List.nil_append,List.set_cons_succ,List.set_cons_zero,outD,nB,mV,mK,lN,Ia,Ca,Ft,aD,af,ij,bH,aM,aK,dI,bz,rq,oN,oS,Cb,EC,fZ,wy,uu,bV,jl,kc,rz,ef,Cc,xX,jX,mr,vn,i6,ED,gN,Fu,eh,aH,oX,bA,kd,bq,pF,EE,rA,gy,cn,hZ,List.length_cons,List.length_nil,Bool.not_true,Bool.not_false,Bool.false_eq_true,if_true,if_false,Bool.true_eq_false,wQ,wR,wU,wV,wW,AO,AQ,AR,AS,il,yh,Dh,bW,lQ,la,bL,f7,bT,ao,iT];rfl
 ·simp[h1,Nat.zero_add,Nat.reduceAdd,Nat.reduceSub,cg,ik,List.map_cons,List.map_nil,List.replicate,List.cons_append,List.nil_append,List.set_cons_succ,List.set_cons_zero,outD,nB,mV,mK,lN,Ia,Ca,Ft,aD,af,ij,bH,aM,aK,dI,bz,rq,oN,oS,Cb,EC,fZ,wy,uu,bV,jl,kc,rz,ef,Cc,xX,jX,mr,vn,i6,ED,gN,Fu,eh,aH,oX,bA,kd,bq,pF,EE,rA,gy,cn,hZ,List.length_cons,List.length_nil,Bool.not_true,Bool.not_false,Bool.false_eq_true,if_true,if_false,Bool.true_eq_false,wQ,wR,wU,wV,wW,AO,AQ,AR,AS,il,yh,Dh,bW,lQ,la,bL,f7,bT,ao,iT];rfl
end
def IJ(n:Nat):D->List D
 | .int a=>(eE n a.toNat).map tupI
 |_=>[]
theorem CN(n a:Nat):((aI ((a:Int)+1) ((n:Int) - ((a:Int)+1)).toNat).filter fun _=>true).flatMap (fun d=>[D.tup [.int a,d]])=(eE n a).map tupI:=by
 have e:((n:Int) - ((a:Int)+1)).toNat=n - (a+1):=by omega
 rw[e,iu]
 unfold aI eE
 rw[Lv,J2,J2,List.flatMap_map]
 induction (List.range (n - (a+1)))with
 |nil=>rfl
 |cons x l ih=>rw[LY,ih];rfl
theorem CO(n:Nat):((aI 0 n).filter fun _=>true).flatMap (IJ n)=(bt n).map tupI:=by
 rw[iu]
 unfold aI bt
 rw[List.flatMap_map,List.map_flatMap]
 congr 1
 funext a
 show(eE n (0+(a:Int)).toNat).map tupI=_
 congr 2
 omega
theorem lp(l:List (List Int)):de 0 (l.map tupI)=true:=by
 have h:∀ r:List Int,de 0 (r.map D.int)=true:=fun r=>by
  induction r with
  |nil=>rfl
  |cons x r ih=>rw[JT];unfold de;rw[ih];unfold eJ;rfl
 induction l with
 |nil=>rfl
 |cons x l ih=>rw[JT];unfold de;rw[ih];unfold tupI eJ;rw[h];rfl
theorem ua {n : Nat} (hn:n<=50):(bt n).length<=2500:=by
  have:∀ l:List Nat,(l.flatMap (eE n)).length<=l.length*50:=fun l=>by
    induction l with
    |nil=>exact Jj 0
    | cons x l ih => rw[LY,Js,J0,L6];have:(eE n x).length<=50:=by unfold eE;simp;omega
                     omega
  have:=this (List.range n)
  rw[Kc]at this
  unfold bt
  exact Ju this (Nat.mul_le_mul_right 50 hn)
theorem GP{n a:Nat}(hn:n<=50)(ha:a<n)(y:Option D):∃ ρ2,(∃ x y,ρ2=[x,y,some (.int n)])/\EX (vn (bz cQ (mV 0) (mK (.int 1))) (mV 2)) (gN 1) cD b0 [some (.int a),y,some (.int n)]=pure ((eE n a).map tupI,ρ2):=by
 obtain⟨ρ',⟨y',rfl⟩,e⟩:=wO (its:=aI ((a:Int)+1) ((n:Int) - ((a:Int)+1)).toNat) (g:=gN 1) (t:=cD) (bd:=vC b0) (fun ρ=>∃ y,ρ=[some (.int a),y,some (.int n)]) (fun _=>true) (fun d=>[D.tup [.int a,d]]) (aI ((a:Int)+1) ((n:Int) - ((a:Int)+1)).toNat) [some (.int a),y,some (.int n)] ⟨y,rfl⟩ fun d hd ρ ⟨y,hρ⟩=>by
  subst hρ
  exact⟨_,rfl,rfl,fun _=>⟨_,⟨_,rfl⟩,by
   unfold vC b0
   simp! only[il,yh,Dh,bW,lQ,la,bL,f7,bT,ao,bY]
   rfl⟩,fun h=>by cases h⟩
 refine⟨[some (.int a),y',some (.int n)],⟨some (.int a),y',rfl⟩,?_⟩
 have hc: -(2 ^ 62)<=(a:Int)+1/\(a:Int)+1<2 ^ 62/\ -(2 ^ 62)<=(n:Int)/\(n:Int)<2 ^ 62:=by omega
 have hl:(aI ((a:Int)+1) ((n:Int) - ((a:Int)+1)).toNat).length<=3000:=by unfold aI;simp;omega
 rw[CN]at e
 have hi:vn (bz cQ (mV 0) (mK (.int 1))) (mV 2) [some (.int a),y,some (.int n)]=pure ⟨aI ((a:Int)+1) ((n:Int) - ((a:Int)+1)).toNat,.none⟩:=by
  exact(AU (fK (x:=.int a) (y:=.int 1) rfl rfl) (y:=.int n) rfl).trans (GF hc)
 unfold EX
 rw[hi,ao]
 dsimp only
 rw[if_pos hl]
 exact e
theorem CP{n:Nat}(hn:n<=50):gO (cW [.int n])=pure (.fz ((bt n).map tupI)):=by
 obtain⟨ρ',_,e⟩:=wO (its:=aI 0 n) (g:=gN 0) (t:=dP) (bd:=EX (vn (bz cQ (mV 0) (mK (.int 1))) (mV 2)) (gN 1) cD b0) (fun ρ=>∃ x y,ρ=[x,y,some (.int n)]) (fun _=>true) (IJ n) (aI 0 n) [none,none,some (.int n)] ⟨none,none,rfl⟩ fun d hd ρ ⟨x,y,hρ⟩=>by
  subst hρ
  obtain⟨a,ha,rfl⟩:=JY.mp hd
  have ha':=JG.mp ha
  refine⟨_,rfl,rfl,fun _=>?_,fun h=>by cases h⟩
  obtain⟨ρ2,h1,h2⟩:=GP hn ha' y
  refine⟨ρ2,h1,?_⟩
  show EX _ _ _ _ [some (.int (0+(a:Int))),y,some (.int n)]=_
  rw[Lu,h2]
  rfl
 rw[CO]at e
 have hc: -(2 ^ 62)<=(n:Int)/\(n:Int)<2 ^ 62:=by omega
 have hl:(aI 0 n).length<=3000:=by unfold aI;simp;omega
 have h1:lR (mr (mV 0)) (gN 0) dP (vn (bz cQ (mV 0) (mK (.int 1))) (mV 2)) (gN 1) cD b0 [none,none,some 0] [some (.int n)]=bo ((bt n).map tupI):=by
  have hi:mr (mV 0) [some (.int n)]=pure ⟨aI 0 n,.none⟩:=by
   have:=(kj (m:=mV 0) (ρ:=[some (.int n)]) (x:=.int n) rfl).trans (vF hc)
   rw[JS]at this
   exact this
  have hb:jS [none,none,some 0] [some (D.int n)]=[none,none,some (.int n)]:=rfl
  unfold lR
  rw[hi,ao]
  dsimp only
  rw[if_pos hl,hb,e,ao]
 have h2:bA (bL (lR (mr (mV 0)) (gN 0) dP (vn (bz cQ (mV 0) (mK (.int 1))) (mV 2)) (gN 1) cD b0 [none,none,some 0])) [some (.int n)]=pure (.ret (.fz ((bt n).map tupI))):=by
  unfold bA bL
  rw[h1,fh (lp _) (by rw[Jl];exact Ju (ua hn) (by unfold lim;omega))]
  rfl
 have h3:cW [.int n]=pure (.fz ((bt n).map tupI)):=by
  exact fG h2 rfl
 rw[h3]
 exact lg
abbrev aE(n:Nat)(E:List (List Int)):D:=.tup [.int n,.tup (E.map tupI)]
theorem vK{n:Nat}{E:List (List Int)}:GH (aE n E):=by
 refine⟨rfl,?_⟩
 intro ds e x hx
 cases e
 simp only[List.mem_cons,List.not_mem_nil,or_false]at hx
 rcases hx with rfl|rfl
 ·exact⟨rfl,fun ts e=>by cases e⟩
 ·refine⟨rfl,fun ts e t ht=>?_⟩
  cases e
  obtain⟨r,_,rfl⟩:=JY.mp ht
  refine⟨rfl,fun ds e x hx=>?_⟩
  cases e
  obtain⟨i,_,rfl⟩:=JY.mp hx
  exact rfl
theorem rX{n:Nat}{E:List (List Int)}(w:WebOk n E):∀ m ts,aE n E= .tup [m,.tup ts]->ts.length<=1000:=by
 intro m ts e
 cases e
 have:=w.few
 rw[Jl];omega
theorem xf(p:Int):∀ t:List Int,((t.map PyData.int).any fun y=>PyData.eqv y (.int p))=oH p t
 |[]=>rfl
 |x::r=>by
  rw[JT,M3,xf p r]
  unfold oH
  rw[M3]
  congr 1
theorem Ir{S:aj}{p:Int}{t:List Int}{Q:D->aj->Prop}:runs (inD (.int p) (tupI t)) S Q↔Q (.bl (oH p t)) S:=by
 unfold inD
 rw[wz (jN) (rS t) (r:=oH p t) (by show some (id ((t.map PyData.int).any fun y=>PyData.eqv y (.int p)))=_;rw[xf];rfl)]
theorem GQ{p:Int}{t:List Int}:inD (.int p) (tupI t)=pure (.bl (oH p t)):=cF fun S=>Ir.mpr ⟨rfl,rfl⟩
def IK(t:List Int):D->D
 | .int p=>.bl (oH p t)
 |d=>d
theorem Fe{s t:List Int}(hs:s.length<=1000):fx [tupI s,tupI t]=pure (.bl (s.any fun p=>oH p t)):=by
 have hl:(s.map D.int).length<=lim:=by rw[Jl];unfold lim;omega
 have em:((s.map D.int).filter fun _=>true).map (IK t)=(s.map fun p=>oH p t).map D.bl:=by
  rw[iu,J2,J2];rfl
 have h:=lh (mi:=i6 (mV 0)) (g:=gN 0) (t:=gi) (m:=gj) (js:=[none,some 1]) (ρ:=[some (tupI s),some (tupI t)]) (its:=s.map D.int) (fun ρ=>∃ x,ρ=[x,some (tupI t)]) (fun _=>true) (IK t) rfl hl ⟨none,rfl⟩ (fun d hd ρ ⟨x,hρ⟩=>by
  subst hρ
  obtain⟨p,_,rfl⟩:=JY.mp hd
  exact⟨_,rfl,⟨_,rfl⟩,rfl,fun _=>(fK (x:=.int p) (y:=tupI t) rfl rfl).trans GQ⟩) (by rw[em];exact rK _)
 rw[em]at h
 refine fG (fH ((iw h).trans EZ)) ?_
 show pure _=pure _
 rw[List.any_map];rfl
def great(a:Nat):D:=.exc "TooGreat" [.int a,.int 7]
theorem Dq{n:Nat}{E:List (List Int)}(hn:n<=14)(w:WebOk n E):cu [aE n E]=if 7<E.length then M.raise (great E.length)else pure .non:=by
 have hw:gw (aE n E)=true:=rT (by omega) (by omega) w
 have h0:bR [aE n E]=pure .non:=by rw[rW vK (rX w),if_pos hw]
 have hl:dI c9 (bz eI (mV 0) (mK (.int 1))) [some (aE n E)]=pure (.int E.length):=by
  refine(iw (x:=.tup (E.map tupI)) rfl).trans ?_
  show pure (D.int (E.map tupI).length)=_
  rw[Jl]
 have hb:jl BW (dI c9 (bz eI (mV 0) (mK (.int 1)))) (mK (.int 7)) [some (aE n E)]=pure (decide (7<(E.length:Int))):=iO hl rfl rfl
 have hm:dW [some (aE n E)]=if 7<E.length then M.raise (great E.length)else pure (.nx [some (aE n E)]):=by
  unfold dW
  rw[bP (tZ (t4 ((eB rfl).trans h0))),d4 hb]
  by_cases h:7<E.length
  ·rw[if_pos h,if_pos (JK (by omega))]
   have ha:af (dI c9 (bz eI (mV 0) (mK (.int 1)))) (af (mK (.int 7)) aD) [some (aE n E)]=pure [.int E.length,.int 7]:=by
    unfold af;rw[hl];rfl
   unfold mX
   rw[ha];rfl
  ·rw[if_neg h,if_neg (by rw[KF];omega)]
 by_cases h:7<E.length
 ·rw[if_pos h]at hm ⊢
  exact jO hm
 ·rw[if_neg h]at hm ⊢
  exact AV hm rfl
theorem A4{a b c d:Int}(h1:a<b)(h2:c<d):([a,b].any fun p=>oH p [c,d])=jZ [a,b] [c,d]:=by
 rw[A3 h1 h2,LK]
 simp only[List.any_cons,List.any_nil,Iq,Bool.or_false,Bool.or_eq_true,decide_eq_true_eq]
 constructor
 ·rintro((h|h)|(h|h))<;>simp[h]
 ·rintro(h|h|h|h)<;>simp[h]
def Iu(E:List (List Int)):D->Bool
 | .tup [.int a,.int b]=>jZ (E.getD a.toNat []) (E.getD b.toNat [])
 |_=>false
theorem lX(E:List (List Int)):(((bt E.length).map tupI).filter (Iu E)).map id=(bB E).map tupI:=by
 rw[List.map_id,LL]
 congr 1
 unfold bt bB
 rw[List.filter_flatMap]
 congr 1
 funext a
 unfold eE fJ
 rw[LL]
 congr 1
theorem rY{E:List (List Int)}{a:Nat}(h:a<E.length):eI (.tup (E.map tupI)) (.int a)=pure (tupI (E.getD a [])):=by
 show(match i3 (E.map tupI) a with|some d=>(pure d:M D)|none=>M.fail)=_
 have:i3 (E.map tupI) (a:Int)=some (tupI (E.getD a [])):=by
  unfold i3 uG
  rw[Jl]
  have h1:¬ ((a:Int)<0):=by omega
  have h2:(a:Int)<E.length:=by omega
  simp[h1,h2,h]
 rw[this]
theorem getD_in{E:List (List Int)}{a:Nat}(h:a<E.length):E.getD a []∈E:=by
 rw[Jw,Jk h];exact Km h
theorem GS{n:Nat}{E:List (List Int)}(hn:n<=14)(w:WebOk n E)(h7:E.length<=7):fS [aE n E]=pure (aE E.length (bB E)):=by
 have hf:cu [aE n E]=pure .non:=by rw[Dq hn w,if_neg (by omega)]
 have hpl:((bt E.length).map tupI).length<=lim:=by rw[Jl];exact Ju (ua (by omega)) (by unfold lim;omega)
 have hc:=AW (mi:=i6 (bL (aK cW (af (mV 2) aD)))) (g:=gy 2 (cn (gN 0) (cn (gN 1) hZ))) (t:=fN) (m:=fO) (js:=[none,none,some 1]) (ρ:=[some (aE n E),some (.tup (E.map tupI)),some (.int E.length)])
  (its:=(bt E.length).map tupI) (fun ρ=>∃ x y,ρ=[x,y,some (.tup (E.map tupI))]) (Iu E) id
  (by
   have:bL (aK cW (af (mV 2) aD)) [some (aE n E),some (.tup (E.map tupI)),some (.int E.length)]=pure (.fz ((bt E.length).map tupI)):=by
    unfold bL
    rw[eB (x:=.int E.length) rfl]
    exact CP (by omega)
   unfold i6;rw[this];rfl) hpl ⟨none,none,rfl⟩
  (fun d hd ρ ⟨x,y,hρ⟩=>by
   subst hρ
   obtain⟨t,ht,rfl⟩:=JY.mp hd
   obtain⟨a,b,rfl,h0,hab,hb⟩:=t8 t ht
   obtain⟨a,rfl⟩:=KC h0
   obtain⟨b,rfl⟩:=KC (show 0<=b by omega)
   have ha':a<E.length:=by omega
   have hb':b<E.length:=by omega
   obtain⟨p,q,ep,_,hpq,_⟩:=w.el (E.getD a []) (getD_in ha')
   obtain⟨r,u,er,_,hru,_⟩:=w.el (E.getD b []) (getD_in hb')
   refine⟨[some (.int a),some (.int b),some (.tup (E.map tupI))],rfl,⟨_,_,rfl⟩,?_,fun _=>?_⟩
   ·refine jA (t4 ((call2 ((fK (x:=.tup (E.map tupI)) (y:=.int a) rfl rfl).trans (rY ha')) ((fK (x:=.tup (E.map tupI)) (y:=.int b) rfl rfl).trans (rY hb'))).trans ?_))
    rw[Fe (by rw[ep];exact(by decide:2<=1000))]
    show pure (D.bl _)=pure (D.bl (jZ (E.getD (a:Int).toNat []) (E.getD (b:Int).toNat [])))
    rw[JS,JS,ep,er,A4 hpq hru]
   ·rfl) (by rw[lX];exact lp _)
 rw[lX]at hc
 have hml:((bB E).map tupI).length<=lim:=by
  rw[<-lX,List.map_id]
  exact Ju (Ku _ _) hpl
 refine AV (o:=.ret (aE E.length (bB E))) ?_ rfl
 unfold jM
 show aH _ _ [some (aE n E),none,none]=_
 rw[bP (tZ (t4 ((eB rfl).trans hf))),bP (lU (x:=.tup (E.map tupI)) rfl)]
 have hlen:dI c9 (mV 1) [some (aE n E),some (.tup (E.map tupI)),none]=pure (.int E.length):=by
  refine(iw (x:=.tup (E.map tupI)) rfl).trans ?_
  show pure (D.int (E.map tupI).length)=_
  rw[Jl]
 show aH _ _ [some (aE n E),some (.tup (E.map tupI)),none]=_
 rw[bP (lU hlen)]
 refine fH ?_
 have ht:=(iw (f:=cf) hc).trans (E5 hml)
 have ha:af (mV 2) (af (dI cf (bL (yh (cg (i6 (bL (aK cW (af (mV 2) aD)))) (gy 2 (cn (gN 0) (cn (gN 1) hZ))) fN fO [none,none,some 1])))) aD) [some (aE n E),some (.tup (E.map tupI)),some (.int E.length)]=pure [.int E.length,.tup ((bB E).map tupI)]:=by
  show(pure (D.int E.length)>>=fun x=>(dI cf _ _>>=fun y=>_)>>=_)=_
  rw[ao,ht];rfl
 show(af _ _ [some (aE n E),some (.tup (E.map tupI)),some (.int E.length)]>>=bY)=_
 rw[ha,ao]
 unfold bY
 rw[if_pos (show[D.int E.length,.tup ((bB E).map tupI)].length<=lim from i7)]
theorem A5(E:List (List Int)):(bt E.length).filter (Iu E∘tupI)=bB E:=by
 unfold bt bB
 rw[List.filter_flatMap]
 congr 1
 funext a
 unfold eE fJ
 rw[LL]
 congr 1
theorem rZ{E:List (List Int)}(h7:E.length<=7):WebOk E.length (bB E):=WebOk.of_sub h7 (by rw[<-A5];exact List.filter_sublist)
def CQ:Nat->Nat->List (List Int)->M D
 |0,n,E=>pure (aE n E)
 |k+1,n,E=>if 7<E.length then M.raise (great E.length)else CQ k E.length (bB E)
theorem qx{its:List D}{w0 t0:Option D}:∀(items:List D) (n:Nat) (E:List (List Int)) (x:Option D),n<=14->WebOk n E->((dF ⟨its,.none⟩ (gN 3) cw items [w0,t0,some (aE n E),x]>>=fun o=>nB o (bA (mV 2)))>>=outD)=CQ items.length n E
 |[],n,E,x,hn,w=>by unfold dF;rw[cO];rfl
 | d::ds,n,E,x,hn,w=>by
  unfold dF
  rw[cO,ao]
  show((((cw [w0,t0,some (aE n E),some d])>>=_)>>=_)>>=outD)=_
  rw[show CQ (d::ds).length n E=if 7<E.length then M.raise (great E.length)else CQ ds.length E.length (bB E)from rfl]
  by_cases h:7<E.length
  ·have ht:fS [aE n E]=M.raise (great E.length):=by
    refine jO ?_
    unfold jM
    exact kl (oA (E4 ((eB rfl).trans (by rw[Dq hn w,if_pos h]))))
   rw[show cw [w0,t0,some (aE n E),some d]=M.raise (great E.length)from yw (E4 ((eB rfl).trans ht)),if_pos h]
   rfl
  ·rw[show cw [w0,t0,some (aE n E),some d]=pure (.nx [w0,t0,some (aE E.length (bB E)),some d])from lU (t4 ((eB rfl).trans (GS hn w (by omega)))),if_neg h,ao]
   exact qx ds E.length (bB E) (some d) (by omega) (rZ (by omega))
theorem CS{n t:Nat}{E:List (List Int)}(hn:n<=14)(w:WebOk n E)(ht:t<=6):bu [aE n E,.int t]=CQ t n E:=by
 have hw:gw (aE n E)=true:=rT (by omega) (by omega) w
 have h0:bR [aE n E]=pure .non:=by rw[rW vK (rX w),if_pos hw]
 have h1:br [.int t,.int 6]=pure .non:=by rw[jQ,if_pos ⟨by omega,by omega⟩]
 have hi:mr (mV 1) [some (aE n E),some (.int t),some (aE n E),none]=pure ⟨aI 0 t,.none⟩:=by
  have:=(kj (m:=mV 1) (ρ:=[some (aE n E),some (.int t),some (aE n E),none]) (x:=.int t) rfl).trans (vF (by omega))
  rw[JS]at this
  exact this
 unfold bu lH
 rw[if_pos (show[aE n E,D.int t].length=2 from rfl)]
 show(dE [some (aE n E),some (.int t),none,none]>>=outD)=_
 unfold dE
 rw[bP (tZ (t4 ((eB rfl).trans h0))),bP (tZ (t4 ((call2 rfl rfl).trans h1))),bP (lU (x:=aE n E) rfl)]
 have:=qx (its:=aI 0 t) (w0:=some (aE n E)) (t0:=some (.int t)) (aI 0 t) n E none hn w
 rw[show(aI 0 t).length=t by unfold aI;simp]at this
 rw[<-this]
 show((ik _ _ _ _>>=_)>>=outD)=_
 unfold ik
 rw[show([some (aE n E),some (D.int t),none,none]:az).set 2 (some (aE n E))=[some (aE n E),some (D.int t),some (aE n E),none]from rfl,hi]
 rfl
theorem CT(E:List (List Int))(a:Nat):(fJ E a).length<=E.length:=by
 unfold fJ
 rw[Jl]
 refine Ju (Ku _ _) ?_
 rw[List.length_range'];omega
def Hb(E:List (List Int))(a:Nat):D->Bool
 | .int b=>jZ (E.getD a []) (E.getD b.toNat [])
 |_=>false
theorem Ff(E:List (List Int))(a:Nat):((aI ((a:Int)+1) ((E.length:Int) - ((a:Int)+1)).toNat).filter (Hb E a)).map (fun d=>D.tup [.int a,d])=(fJ E a).map tupI:=by
 unfold aI fJ
 have:((E.length:Int) - ((a:Int)+1)).toNat=E.length - (a+1):=by omega
 rw[this,Lv,LL,LL,J2,J2,J2]
 have hf:(Hb E a∘fun i:Nat=>D.int ((a:Int)+1+(i:Nat)))=((fun b=>jZ (E.getD a []) (E.getD b []))∘fun x=>a+1+x):=by
  funext i
  simp only[Function.comp,Hb]
  congr 2
 rw[hf]
 refine List.map_congr_left fun i hi=>?_
 simp only[Function.comp,tupI,List.map_cons,List.map_nil]
 congr 3
theorem CU{s t:List Int}(hs:s.length=2)(ht:t.length=2):kZ [.tup ((s++t).map D.int)]=pure (.int (distinct (s++t)).length):=by
 show(match intsOf ((s++t).map D.int)with|some ns=>(if ns.length<=18 then pure (D.int (distinct ns).length)else M.fail:M D)|none=>M.fail)=_
 rw[ko]
 exact if_pos (by rw[Js];omega)
theorem A6{E:List (List Int)}{a p:Nat}{w:Option D}(hal:a<E.length)(hE:E.length<=100)(h2:∀ t∈E,t.length=2):
  cg (vn (bz cQ (mV 3) (mK (.int 1))) (dI c9 (mV 1))) (gN 0) gm gn [none,some 1,some 3] [w,some (.tup (E.map tupI)),some (.lst p),some (.int a)]=bo ((fJ E a).map tupI):=by
 have hel:∀ j,j<E.length->(E.getD j []).length=2:=fun j hj=>h2 _ (getD_in hj)
 have hlen:dI c9 (mV 1) [w,some (.tup (E.map tupI)),some (.lst p),some (.int a)]=pure (.int E.length):=by
  refine(iw (x:=.tup (E.map tupI)) rfl).trans ?_
  show pure (D.int (E.map tupI).length)=_
  rw[Jl]
 have hi:=(AU (fK (f:=cQ) (m:=mV 3) (n:=mK (.int 1)) (ρ:=[w,some (.tup (E.map tupI)),some (.lst p),some (.int a)]) (x:=.int a) (y:=.int 1) rfl rfl) hlen).trans (GF (i:=(a:Int)+1) (j:=E.length) (by omega))
 unfold cg
 rw[hi,ao,show jS [none,some 1,some 3] [w,some (D.tup (E.map tupI)),some (D.lst p),some (D.int a)]=[none,some (.tup (E.map tupI)),some (.int a)]from rfl,rJ (fun ρ=>∃ y,ρ=[y,some (.tup (E.map tupI)),some (.int a)]) (Hb E a) (fun d=>.tup [.int a,d]) (by unfold aI;rw[Jl,Kc];unfold lim;omega) ⟨none,rfl⟩,ao,Ff]
 rintro d hd ρ ⟨y,rfl⟩
 obtain⟨i,hi,rfl⟩:=JY.mp hd
 have hi:i<((E.length:Int) - ((a:Int)+1)).toNat:=JG.mp hi
 have hb:a+1+i<E.length:=by omega
 have ec:(a:Int)+1+(i:Int)=((a+1+i:Nat):Int):=by omega
 rw[ec]
 refine⟨_,rfl,⟨_,rfl⟩,?_,fun _=>rfl⟩
 have e1:cQ (tupI (E.getD a [])) (tupI (E.getD (a+1+i) []))=pure (.tup ((E.getD a []++E.getD (a+1+i) []).map D.int)):=by
  show bY ((E.getD a []).map D.int++(E.getD (a+1+i) []).map D.int)=_
  rw[<-Kt]
  unfold bY
  exact if_pos (by rw[Jl,Js,hel a hal,hel _ hb];unfold lim;omega)
 refine(iO ((iw ((fK ((fK (x:=.tup (E.map tupI)) (y:=.int a) rfl rfl).trans (rY hal)) ((fK (x:=.tup (E.map tupI)) (y:=.int (a+1+i:Nat)) rfl rfl).trans (rY hb))).trans e1)).trans (CU (hel a hal) (hel _ hb))) (y:=.int 4) rfl rfl).trans ?_
 congr 1
 show _=jZ (E.getD a []) (E.getD ((a+1+i:Nat):Int).toNat [])
 rw[JS]
 unfold jZ
 rw[LK,KF,KF];omega
theorem ub{E:List (List Int)}{w:Option D}{its:List D}{S:aj}(hE:E.length<=100)(h2:∀ t∈E,t.length=2):∀(post:List Nat) (acc:List (List Int)) (G:aj) (x:Option D),(∀ a∈post,a<E.length)->acc.length+post.length*100<=10000->
  ∃ x' G',dF ⟨its,.none⟩ (gN 3) dj (post.map fun i:Nat=>.int (0+(i:Int))) [w,some (.tup (E.map tupI)),some (.lst S.length),x] (S++acc.map tupI::G)=some (.ok (.nx [w,some (.tup (E.map tupI)),some (.lst S.length),x']),S++(acc++post.flatMap (fJ E)).map tupI::G')
 |[],acc,G,x,_,_=>⟨x,G,by rw[MT,rL,List.flatMap_nil,JV];rfl⟩
 | a::post,acc,G,x,ha,hl=>by
  have hal:=ha a (.head _)
  have hr:=CT E a
  rw[J0,L6]at hl
  obtain⟨x',G',ih⟩:=ub (w:=w) (its:=its) (S:=S) hE h2 post (acc++fJ E a) (G++[(fJ E a).map tupI]) (some (.int a)) (fun b hb=>ha b (.tail _ hb)) (by rw[Js];omega)
  refine⟨x',G',?_⟩
  rw[LY, <-JH, <-ih,JT,Lu]
  have l1:((fJ E a).map tupI).length<=lim:=by rw[Jl];unfold lim;omega
  have l2:((acc++fJ E a).map tupI).length<=lim:=by rw[Jl,Js];unfold lim;omega
  have hb:dj [w,some (.tup (E.map tupI)),some (.lst S.length),some (.int a)] (S++acc.map tupI::G)=some (.ok (.nx [w,some (.tup (E.map tupI)),some (.lst S.length),some (.int a)]),S++(acc++fJ E a).map tupI::(G++[(fJ E a).map tupI])):=by
   have hm:=Dm (f:=gC) (e1:=mV 2) (ρ:=[w,some (.tup (E.map tupI)),some (.lst S.length),some (.int a)]) (x:=.lst S.length) rfl rfl (A6 (w:=w) (p:=S.length) hal hE h2)
   have e1:bo ((fJ E a).map tupI) (S++acc.map tupI::G)=some (.ok (.lst (S++acc.map tupI::G).length),S++acc.map tupI::(G++[(fJ E a).map tupI])):=by
    unfold bo
    rw[if_pos l1,JH];rfl
   have g1:(S++acc.map tupI::(G++[(fJ E a).map tupI]))[S.length]? =some (acc.map tupI):=by simp
   have g2:(S++acc.map tupI::(G++[(fJ E a).map tupI]))[(S++acc.map tupI::G).length]? =some ((fJ E a).map tupI):=by
    rw[show S++acc.map tupI::(G++[(fJ E a).map tupI])=(S++acc.map tupI::G)++[(fJ E a).map tupI] by simp]
    exact aV
   have e2:gC (.lst S.length) [.lst (S++acc.map tupI::G).length] (S++acc.map tupI::(G++[(fJ E a).map tupI]))=some (.ok .non,S++(acc++fJ E a).map tupI::(G++[(fJ E a).map tupI])):=by
    show(getL S.length>>=fun xs=>getL _>>=fun ys=>jf S.length (xs++ys)) _=_
    rw[aQ (by unfold getL;rw[g1];rfl),aQ (by unfold getL;rw[g2];rfl), <-Kt]
    unfold jf
    rw[if_pos ⟨l2,by simp⟩,L7 _ _ (Jj _),Nat.sub_self];rfl
   unfold dj
   exact Dl ((Me hm _).trans ((aQ e1).trans e2))
  exact vG rfl hb
theorem CV {E : List (List Int)} (hE:E.length<=100):((bB E).map tupI).length<=lim:=by
  have h1:(bB E).length<=(bt E.length).length:=by rw[<-A5];exact Ku _ _
  have h3:∀ l:List Nat,(l.flatMap (eE E.length)).length<=l.length*100:=fun l=>by
    induction l with
    |nil=>exact Jj 0
    | cons x l ih => rw[LY,Js,J0,L6];have:(eE E.length x).length<=100:=by unfold eE;simp;omega
                     omega
  have h4:=h3 (List.range E.length)
  rw[Kc]at h4
  have h5:(bt E.length).length<=E.length*100:=h4
  rw[Jl];unfold lim;omega
theorem xg{E:List (List Int)}{w x y:Option D}:dI c9 (mV 1) [w,some (.tup (E.map tupI)),x,y]=pure (.int E.length):=by
 refine(iw (x:=.tup (E.map tupI)) rfl).trans ?_
 show pure (D.int (E.map tupI).length)=_
 rw[Jl]
theorem CY{E:List (List Int)}{w x y:Option D}(hE:E.length<=100):mr (dI c9 (mV 1)) [w,some (.tup (E.map tupI)),x,y]=pure ⟨aI 0 E.length,.none⟩:=by
 have:=(kj (m:=dI c9 (mV 1)) (ρ:=[w,some (.tup (E.map tupI)),x,y]) (x:=.int E.length) xg).trans (vF (by omega))
 rw[JS]at this
 exact this
theorem A7{n:Nat}{E:List (List Int)}{S:aj}(hE:E.length<=100)(h2:∀ t∈E,t.length=2):∃ G',gH [some (aE n E),none,none,none] S=some (.ok (.ret (aE E.length (bB E))),S++(bB E).map tupI::G'):=by
 obtain⟨x',G',hf⟩:=ub (w:=some (aE n E)) (its:=aI 0 E.length) (S:=S) hE h2 (List.range E.length) [] [] none (fun a ha=>JG.mp ha) (by rw[List.length_nil,Kc];omega)
 rw[List.nil_append]at hf
 refine⟨G',?_⟩
 have ht:cf [.lst S.length] (S++(bB E).map tupI::G')=some (.ok (.tup ((bB E).map tupI)),S++(bB E).map tupI::G'):=by
  show(getL S.length>>=fun xs=>bY xs) _=_
  rw[aQ (iQ (us:=(bB E).map tupI) (by simp))]
  unfold bY
  rw[if_pos (CV hE)];rfl
 have hr:bA (ij (af (dI c9 (mV 1)) (af (dI cf (mV 2)) aD))) [some (aE n E),some (.tup (E.map tupI)),some (.lst S.length),x'] (S++(bB E).map tupI::G')=some (.ok (.ret (aE E.length (bB E))),S++(bB E).map tupI::G'):=by
  refine AX (AY (S1:=S++(bB E).map tupI::G') ?_ ((GG (x:=.lst S.length) (S1:=S++(bB E).map tupI::G') rfl).trans ht))
  rw[xg];rfl
 have h0:bq 1 (bz eI (mV 0) (mK (.int 1))) [some (aE n E),none,none,none] S=some (.ok (.nx [some (aE n E),some (.tup (E.map tupI)),none,none]),S):=iP rfl
 have hn:bq 2 (bH aD) [some (aE n E),some (.tup (E.map tupI)),none,none] S=some (.ok (.nx [some (aE n E),some (.tup (E.map tupI)),some (.lst S.length),none]),S++[[]]):=iP (mY (S:=S) (us:=[]) (JE _))
 unfold gH
 exact(bX h0).trans ((bX hn).trans ((bX (vI (CY hE) hf)).trans hr))
theorem Fg{n:Nat}{E:List (List Int)}(hE:E.length<=100)(h2:∀ t∈E,t.length=2):gO (d0 [aE n E])=pure (aE E.length (bB E)):=by
 have hcl:eJ 0 (aE E.length (bB E))=true:=by
  unfold aE eJ de eJ de eJ
  rw[lp];rfl
 refine Dk hcl fun S=>?_
 obtain⟨G',hm⟩:=A7 (n:=n) (S:=S) hE h2
 exact⟨_,_,vH hm rfl,rfl,(bB E).map tupI::G',rfl⟩
def lY:Nat->Nat->List (List Int)->D
 |0,n,E=>aE n E
 |k+1,n,E=>if 7<E.length then .fz [.int 12,.int E.length,.int 7]else lY k E.length (bB E)
theorem xh{its:List D}{t0:Option D}:∀(items:List D) (n:Nat) (E:List (List Int)) (x:Option D),WebOk n E->(dF ⟨its,.none⟩ (gN 2) cZ items [some (aE n E),t0,x]>>=fun o=>nB o (bA (mV 0)))=pure (.ret (lY items.length n E))
 |[],n,E,x,w=>by unfold dF;rw[cO];rfl
 | d::ds,n,E,x,w=>by
  have hl:dI c9 (bz eI (mV 0) (mK (.int 1))) [some (aE n E),t0,some d]=pure (.int E.length):=by
   refine(iw (x:=.tup (E.map tupI)) rfl).trans ?_
   show pure (D.int (E.map tupI).length)=_
   rw[Jl]
  have hb:jl BW (dI c9 (bz eI (mV 0) (mK (.int 1)))) (mK (.int 7)) [some (aE n E),t0,some d]=pure (decide (7<(E.length:Int))):=iO hl rfl rfl
  have hf:=w.few
  unfold dF
  rw[cO,ao]
  show(((cZ [some (aE n E),t0,some d])>>=_)>>=_)=_
  rw[show lY (d::ds).length n E=if 7<E.length then .fz [.int 12,.int E.length,.int 7]else lY ds.length E.length (bB E)from rfl]
  by_cases h:7<E.length
  ·have hi:=(d4 (m:=bA (bL (bH (af (mK (.int 12)) (af (dI c9 (bz eI (mV 0) (mK (.int 1)))) (af (mK (.int 7)) aD)))))) (n:=eh) hb).trans (if_pos (JK (by omega)))
   have ha:bL (bH (af (mK (.int 12)) (af (dI c9 (bz eI (mV 0) (mK (.int 1)))) (af (mK (.int 7)) aD)))) [some (aE n E),t0,some d]=pure (.fz [.int 12,.int E.length,.int 7]):=by
    show gO ((pure (D.int 12)>>=fun x=>(dI c9 _ _>>=fun y=>_)>>=_)>>=bo)=_
    rw[hl]
    exact fh (us:=[.int 12,.int E.length,.int 7]) rfl vE
   rw[show cZ [some (aE n E),t0,some d]=pure (.ret (.fz [.int 12,.int E.length,.int 7]))from jz (hi.trans (fH ha)),if_pos h]
   rfl
  ·have hi:=(d4 (m:=bA (bL (bH (af (mK (.int 12)) (af (dI c9 (bz eI (mV 0) (mK (.int 1)))) (af (mK (.int 7)) aD)))))) (n:=eh) hb).trans (if_neg (by rw[KF];omega))
   have h2:∀ t∈E,t.length=2:=fun t ht=>by obtain⟨a,b,rfl,_⟩:=w.el t ht;rfl
   have hm:bL (aK d0 (af (mV 0) aD)) [some (aE n E),t0,some d]=pure (aE E.length (bB E)):=by
    unfold bL
    rw[eB (x:=aE n E) rfl]
    exact Fg (by omega) h2
   rw[show cZ [some (aE n E),t0,some d]=pure (.nx [some (aE E.length (bB E)),t0,some d])from(bP hi).trans (lU hm),if_neg h,ao]
   exact xh ds E.length (bB E) (some d) (rZ (by omega))
theorem GT{n t:Nat}{E:List (List Int)}(w:WebOk n E)(ht:t<=6):gp [aE n E,.int t]=pure (lY t n E):=by
 have hi:mr (mV 1) [some (aE n E),some (.int t),none]=pure ⟨aI 0 t,.none⟩:=by
  have:=(kj (m:=mV 1) (ρ:=[some (aE n E),some (.int t),none]) (x:=.int t) rfl).trans (vF (by omega))
  rw[JS]at this
  exact this
 have:=xh (its:=aI 0 t) (t0:=some (.int t)) (aI 0 t) n E none w
 rw[show(aI 0 t).length=t by unfold aI;simp]at this
 refine fG (o:=.ret (lY t n E)) ?_ rfl
 rw[<-this]
 show(ik _ _ _ _>>=_)=_
 unfold ik
 rw[show([aE n E,D.int t].map some++List.replicate (3 - 2) none:az)=[some (aE n E),some (D.int t),none]from rfl,hi]
 rfl
theorem A8:∀(t n:Nat) (E:List (List Int)),n<=14->WebOk n E->(∃ L:Nat,CQ t n E=M.raise (great L)/\lY t n E= .fz [.int 12,.int L,.int 7])\/∃ m T,CQ t n E=pure (aE m T)/\lY t n E=aE m T/\m<=14/\WebOk m T
 |0,n,E,hn,w=>.inr ⟨n,E,rfl,rfl,hn,w⟩
 | k+1,n,E,hn,w=>by
  by_cases h:7<E.length
  ·exact .inl ⟨E.length,if_pos h,if_pos h⟩
  ·have:=A8 k E.length (bB E) (by omega) (rZ (by omega))
   rw[<-show CQ (k+1) n E=CQ k E.length (bB E)from if_neg h, <-show lY (k+1) n E=lY k E.length (bB E)from if_neg h]at this
   exact this
theorem same_int{k:Nat}{i:Int}:cA (k+1) [.int i,.int i]=pure (.bl true):=by
 refine fG (o:=.ret (.bl true)) ?_ rfl
 show dq _ [some (.int i),some (.int i)]=_
 unfold dq
 rw[bP (ρ':=[some (.int i),some (.int i)]) ((d4 (b:=false) (jA rfl)).trans (if_neg (by decide)))]
 refine fH ?_
 show(bz pB (mV 0) (mV 1) _>>=_)=_
 rw[fK (x:=.int i) (y:=.int i) rfl rfl,IY,ao]
 rw[show iT (D.bl true)=pure true from rfl,ao,if_pos rfl,fK (x:=.bl false) (y:=.bl false) rfl rfl,IZ]
theorem oJ{k:Nat}{xs:List D}(hl:xs.length<=1000)(h:∀ x∈xs,cA k [x,x]=pure (.bl true)):cA (k+1) [.tup xs,.tup xs]=pure (.bl true):=by
 have em:((((xs.zip xs).map fun p:D×D=>D.tup [p.1,p.2]).filter fun _=>true).map fun _=>D.bl true)=(xs.map fun _=>true).map D.bl:=by
  rw[iu,J2,J2]
  refine List.ext_getElem (by simp) fun i h1 h2=>by simp
 have hc:=lh (mi:=il (mV 0) (mV 1)) (g:=gy 2 (cn (gN 0) (cn (gN 1) hZ))) (t:=gq (cA k)) (m:=gr (cA k)) (js:=[none,none]) (ρ:=[some (.tup xs),some (.tup xs)])
  (its:=(xs.zip xs).map fun p:D×D=>D.tup [p.1,p.2]) (fun ρ=>∃ x y,ρ=[x,y]) (fun _=>true) (fun _=>.bl true) rfl (by rw[Jl,List.length_zip];unfold lim;omega) ⟨none,none,rfl⟩
  (fun d hd ρ ⟨x,y,hρ⟩=>by
   subst hρ
   obtain⟨z,hz,rfl⟩:=t5 hd
   exact⟨_,rfl,⟨_,_,rfl⟩,rfl,fun _=>t4 ((call2 rfl rfl).trans (h z hz))⟩) (by rw[em];exact rK _)
 rw[em]at hc
 have hall:(xs.map fun _=>true).all id=true:=by rw[MV];exact JQ.mpr fun _ _=>rfl
 have hlen:∀ j,j<2->dI c9 (mV j) [some (.tup xs),some (.tup xs)]=pure (.int xs.length):=fun j hj=>by
  match j,hj with
  |0,_=>rfl
  |1,_=>rfl
 refine fG (o:=.ret (.bl true)) ?_ rfl
 show dq _ [some (.tup xs),some (.tup xs)]=_
 unfold dq
 refine jz ?_
 refine(d4 (b:=true) (jA rfl)).trans ?_
 rw[if_pos rfl]
 have hi:∀ T,bz ma (fZ (mV 0) T) (fZ (mV 1) T) [some (.tup xs),some (.tup xs)]=pure (.bl false):=fun T=>(fK (x:=.bl (ic "tuple" T)) (y:=.bl (ic "tuple" T)) rfl rfl).trans IE
 have hb:∀ T,jl ma (fZ (mV 0) T) (fZ (mV 1) T) [some (.tup xs),some (.tup xs)]=pure false:=fun T=>iO (x:=.bl (ic "tuple" T)) (y:=.bl (ic "tuple" T)) rfl rfl IE
 have ho:xX (jl ma (fZ (mV 0) "tuple") (fZ (mV 1) "tuple")) (jl ma (fZ (mV 0) "list") (fZ (mV 1) "list")) [some (.tup xs),some (.tup xs)]=pure false:=by
  show(jl ma _ _ _>>=_)=_
  rw[hb "tuple",ao]
  exact hb "list"
 rw[bP ((d4 ho).trans (if_neg (by decide))),bP ((d4 (iO (hlen 0 (by decide)) (hlen 1 (by decide)) I0)).trans (if_neg (by decide)))]
 refine fH ((iw hc).trans (vJ.trans ?_))
 rw[hall]
theorem Fh{n:Nat}{E:List (List Int)}(hl:E.length<=1000)(h2:∀ t∈E,t.length<=1000):cT [aE n E,aE n E]=pure (.bl true):=by
 refine oJ (k:=5) (by decide:2<=1000) fun x hx=>?_
 simp only[List.mem_cons,List.not_mem_nil,or_false]at hx
 rcases hx with rfl|rfl
 ·exact same_int
 ·refine oJ (by rw[Jl];exact hl) fun x hx=>?_
  obtain⟨r,hr,rfl⟩:=JY.mp hx
  refine oJ (by rw[Jl];exact h2 r hr) fun x hx=>?_
  obtain⟨i,_,rfl⟩:=JY.mp hx
  exact same_int
def oK:cq:=bA (Ft (jl pB (mV 4) (bL (bH (af (mK (.int 12)) (aD))))) (bL (bz cQ (mV 4) (bL (bH (af (iq false (mV 1)) (af (iq true (mV 1)) (aD))))))) (mV 4))
def m_find:cq:=aH (kd (ef (bV (lQ (mV 1)))) (bA (mK .non)) (eh)) (aH (bq 4 (bL (cg (mr (mK (.int 13))) (gN 0) bN bO [none,some 3]))) oK)
def gW:cq:=aH (bq 3 (bH (af (bW (mV 1) "NoWeb") (af (bW (mV 1) "NoPlace") (af (bW (mV 1) "NoPlaces") (aD)))))) (aH (bq 3 (bz cQ (mV 3) (bL (bH (af (bW (mV 1) "NoMap") (af (bW (mV 1) "NoSharing") (af (bW (mV 1) "NoRoot") (aD)))))))) (aH (bq 3 (bz cQ (mV 3) (bL (bH (af (bW (mV 1) "NoNumber") (af (bW (mV 1) "NotJoined") (af (bW (mV 1) "NoTie") (aD)))))))) (aH (bq 3 (bz cQ (mV 3) (bL (bH (af (bW (mV 1) "NoText") (af (bW (mV 1) "NoLine") (af (bW (mV 1) "NoDeed") (aD)))))))) (aH (oX (uu cV (mV 3) (bW (mV 1) "TooGreat"))) m_find))))
theorem A9(f:D)(c:M D):eA f c=aH (bq 1 (mK .non)) (aH (tK 0 2 1 f c) gW):=rfl
theorem yD(f g x:D):(gW [some f,some x,none,none,none]>>=outD)=(gW [some g,some x,none,none,none]>>=outD):=by
 unfold gW m_find oK
 simp only[aH,bq,oX,kd,bA,eh,mV,mK,bH,bz,uu,bW,lQ,Ft,ef,bV,jl,af,aD,aK,dI,cg,bL,iq,mr,la,nB,cJ,ao,CF,wQ,wR,wU,wV,wW,List.set_cons_succ,List.set_cons_zero,outD,jS,List.map_cons,List.map_nil,Option.bind,List.getElem?_cons_succ,List.getElem?_cons_zero,Option.join]
def oM(c:M D)(k:D->M D):M D:=fun S=>match c S with
 |some (.ok _,S')=>k .non S'
 |some (.ex (.exc n ds),S')=>if n∈aS then k (.exc n ds) S' else none
 |_=>none
theorem Ba(f:D)(c:M D):bw f c []=oM c (fun x=>gW [some f,some x,none,none,none]>>=outD):=by
 funext S
 unfold bw lH
 rw[if_pos (show[f].length=1 from rfl)]
 show((eA f c [some f,none,none,none,none])>>=outD) S=_
 rw[A9,bP (ρ':=[some f,some .non,none,none,none]) rfl]
 have ht:tK 0 2 1 f c [some f,some .non,none,none,none]=Ap 2 1 c [some f,some .non,none,none,none]:=by
  unfold tK
  exact if_pos rfl
 show((tK 0 2 1 f c [some f,some .non,none,none,none]>>=fun o=>nB o gW)>>=outD) S=_
 rw[ht,cJ]
 show M.bnd (Ap 2 1 c [some f,some .non,none,none,none]) _ S=_
 unfold M.bnd Ap oM
 cases h:c S with
 |none=>rfl
 | some p=>
  obtain⟨r,S1⟩:=p
  cases r with
  |ok a=>rfl
  | ex x=>
   cases x with
   |exc n ds=>
    dsimp only
    by_cases hn:n∈aS
    ·rw[if_pos hn,if_pos hn];rfl
    ·rw[if_neg hn,if_neg hn]
   |_=>rfl
theorem cY:∀ f c es,bw f c es=bh c es:=by
 intro f c es
 unfold bh
 cases es with
 |nil=>
  rw[Ba,Ba]
  congr 1
  funext x
  exact yD _ _ x
 |cons e es=>
  unfold bw lH
  rw[if_neg (by simp),if_neg (by simp)]
section
variable {f:D}{n:Str}{ds:List D}{S G:aj}{p:Nat}{xs:List D}{z:Option D}
theorem Bb{g:Str->Bool}(hn:n∈aS):tH g (.exc n ds)=pure (.bl (g n)):=if_pos hn
theorem m4(hn:n∈aS)(a:Str):bW (mV 1) a [some f,some (.exc n ds),none,z,none]=pure (.bl (cm n a)):=Bb (ds:=ds) (g:=fun n=>cm n a) hn
theorem three(hn:n∈aS)(a b c:Str):af (bW (mV 1) a) (af (bW (mV 1) b) (af (bW (mV 1) c) aD)) [some f,some (.exc n ds),none,z,none]=pure [.bl (cm n a),.bl (cm n b),.bl (cm n c)]:=
 cX (m4 hn a) (cX (m4 hn b) (cX (m4 hn c) rfl))
theorem oO(hn:n∈aS)(a b c:Str)(hp:(S++G)[p]? =some xs)(hl:xs.length<=100):∃ p' G',bq 3 (bz cQ (mV 3) (bL (bH (af (bW (mV 1) a) (af (bW (mV 1) b) (af (bW (mV 1) c) aD)))))) [some f,some (.exc n ds),none,some (.lst p),none] (S++G)=some (.ok (.nx [some f,some (.exc n ds),none,some (.lst p'),none]),S++G')/\(S++G')[p']? =some (xs++[.bl (cm n a),.bl (cm n b),.bl (cm n c)])/\S.length<=p':=by
 refine⟨(S++G).length,G++[xs++[.bl (cm n a),.bl (cm n b),.bl (cm n c)]],?_,by rw[<-JH];exact aV,by rw[Js];omega⟩
 have h1:bL (bH (af (bW (mV 1) a) (af (bW (mV 1) b) (af (bW (mV 1) c) aD)))) [some f,some (.exc n ds),none,some (.lst p),none]=pure (.fz [.bl (cm n a),.bl (cm n b),.bl (cm n c)]):=by
  show gO (af _ _ _>>=bo)=_
  rw[three hn a b c,ao]
  exact fh rfl vE
 have h2:=fK (f:=cQ) (m:=mV 3) (ρ:=[some f,some (.exc n ds),none,some (.lst p),none]) (x:=.lst p) rfl h1
 show((bz cQ _ _ _)>>=fun x=>pure (Out.nx _)) _=_
 rw[h2,aQ (a:=.lst (S++G).length) (S1:=S++(G++[xs++[.bl (cm n a),.bl (cm n b),.bl (cm n c)]]))]
 ·rfl
 ·show(getL p>>=fun xs=>bo (xs++_)) _=_
  rw[aQ (a:=xs) (S1:=S++G) (by unfold getL;rw[hp];rfl)]
  unfold bo
  rw[if_pos (by rw[Js];show xs.length+3<=lim;unfold lim;omega),JH]
end
def xi(bs:List Bool):D->Bool
 | .int k=>bs.getD k.toNat false
 |_=>false
theorem find_eq{f:D}{n:Str}{ds:List D}{S:aj}{p:Nat}{bs:List Bool}(hn:n∈aS)(hp:S[p]? =some (bs.map D.bl))(hl:bs.length=13):
  m_find [some f,some (.exc n ds),none,some (.lst p),none] S=oK [some f,some (.exc n ds),none,some (.lst p),some (.fz ((aI 0 13).filter (xi bs)))] S:=by
 have h1:kd (ef (bV (lQ (mV 1)))) (bA (mK .non)) eh [some f,some (.exc n ds),none,some (.lst p),none]=pure (.nx [some f,some (.exc n ds),none,some (.lst p),none]):=by
  have:ef (bV (lQ (mV 1))) [some f,some (.exc n ds),none,some (.lst p),none]=pure false:=by
   show((tH (fun _=>true) (.exc n ds)>>=iT)>>=_)=_
   rw[Bb hn];rfl
  exact(d4 this).trans (if_neg (by decide))
 unfold m_find
 rw[bP h1]
 have hi:mr (mK (.int 13)) [some f,some (.exc n ds),none,some (.lst p),none]=pure ⟨aI 0 13,.none⟩:=(kj (x:=.int 13) rfl).trans (vF (by omega))
 have hc:cI ⟨aI 0 13,.none⟩ (gN 0) bN bO (aI 0 13) [none,some (.lst p)] S=some (.ok ((aI 0 13).filter (xi bs)),S):=by
  refine t6 (fun ρ=>∃ x,ρ=[x,some (.lst p)]) (xi bs) _ _ ⟨none,rfl⟩ fun d hd ρ ⟨x,hρ⟩=>?_
  subst hρ
  obtain⟨k,hk,rfl⟩:=JY.mp hd
  have hk:k<13:=JG.mp hk
  refine⟨_,rfl,⟨_,rfl⟩,?_,rfl⟩
  have e:i3 (bs.map D.bl) (0+(k:Int))=some (.bl (bs.getD k false)):=by
   rw[Lu]
   unfold i3 uG
   rw[Jl]
   have h1:¬ ((k:Int)<0):=by omega
   have h2:(k:Int)<bs.length:=by omega
   have h3:k<bs.length:=by omega
   simp[h1,h2,h3]
  show((getL p>>=fun xs=>match i3 xs (0+(k:Int))with|some d=>(pure d:M D)|none=>M.fail)>>=iT) S=_
  rw[aQ (a:=D.bl (bs.getD k false)) (S1:=S)]
  ·show some (Res.ok (bs.getD k false),S)=some (.ok (bs.getD (0+(k:Int)).toNat false),S)
   rw[Lu,JS]
  ·rw[aQ (a:=bs.map D.bl) (S1:=S) (by unfold getL;rw[hp];rfl),e];rfl
 have hm:cg (mr (mK (.int 13))) (gN 0) bN bO [none,some 3] [some f,some (.exc n ds),none,some (.lst p),none] S=bo ((aI 0 13).filter (xi bs)) S:=by
  unfold cg
  rw[hi,ao]
  unfold d8
  rw[if_pos (by show(aI 0 13).length<=lim;unfold aI lim;rw[Jl,Kc];omega)]
  exact aQ hc
 have hg:gO (cg (mr (mK (.int 13))) (gN 0) bN bO [none,some 3] [some f,some (.exc n ds),none,some (.lst p),none]) S=some (.ok (.fz ((aI 0 13).filter (xi bs))),S):=by
  have hcl:de 0 ((aI 0 13).filter (xi bs))=true:=by
   have:∀ l:List Nat,de 0 ((l.map fun i:Nat=>D.int (0+(i:Int))).filter (xi bs))=true:=fun l=>by
    induction l with
    |nil=>rfl
    |cons x l ih=>
     rw[JT,List.filter_cons]
     split
     ·unfold de;rw[ih];unfold eJ;rfl
     ·exact ih
   exact this _
  have hn:bo ((aI 0 13).filter (xi bs)) S=some (.ok (.lst S.length),S++[(aI 0 13).filter (xi bs)]):=by
   unfold bo
   exact if_pos (Ju (Ku _ _) (by unfold aI lim;rw[Jl,Kc];omega))
  obtain⟨d,S',e,rfl,rfl⟩:=tX (Q:=fun d S'=>d= .fz ((aI 0 13).filter (xi bs))/\S'=S) ⟨_,_,hm.trans hn,[(aI 0 13).filter (xi bs)],S.length,_,rfl,rfl,aV,Jj _,iM (JE _) _ hcl,rfl,rfl⟩
  exact e
 show(bq 4 _ _>>=fun o=>nB o oK) S=_
 rw[aQ (a:=.nx [some f,some (.exc n ds),none,some (.lst p),some (.fz ((aI 0 13).filter (xi bs)))]) (S1:=S)]
 ·rfl
 ·show(gO _>>=_) S=_
  rw[aQ hg];rfl
def marks(n:Str):List Bool:=[cm n "NoWeb",cm n "NoPlace",cm n "NoPlaces",cm n "NoMap",cm n "NoSharing",cm n "NoRoot",cm n "NoNumber",cm n "NotJoined",cm n "NoTie",cm n "NoText",cm n "NoLine",cm n "NoDeed",cm n "TooGreat"]
theorem rest_eq{f:D}{n:Str}{ds:List D}{us:List D}{v:D}(hn:n∈aS)(hus:(aI 0 13).filter (xi (marks n))=us)(hend:∀ p,oK [some f,some (.exc n ds),none,some (.lst p),some (.fz us)]=pure (.ret v))(hv:eJ 0 v=true):
  gO (gW [some f,some (.exc n ds),none,none,none]>>=outD)=pure v:=by
 refine Dk hv fun S=>?_
 have h1:bq 3 (bH (af (bW (mV 1) "NoWeb") (af (bW (mV 1) "NoPlace") (af (bW (mV 1) "NoPlaces") aD)))) [some f,some (.exc n ds),none,none,none] S=some (.ok (.nx [some f,some (.exc n ds),none,some (.lst S.length),none]),S++[[.bl (cm n "NoWeb"),.bl (cm n "NoPlace"),.bl (cm n "NoPlaces")]]):=by
  show((af _ _ _>>=bo)>>=fun x=>pure (Out.nx _)) S=_
  rw[three hn,ao,aQ (mY (us:=[.bl (cm n "NoWeb"),.bl (cm n "NoPlace"),.bl (cm n "NoPlaces")]) vE)];rfl
 obtain⟨p2,G2,e2,g2,b2⟩:=oO (f:=f) (ds:=ds) (S:=S) hn "NoMap" "NoSharing" "NoRoot" (aV (S:=S) (xs:=[.bl (cm n "NoWeb"),.bl (cm n "NoPlace"),.bl (cm n "NoPlaces")])) (by decide:3<=100)
 obtain⟨p3,G3,e3,g3,b3⟩:=oO (f:=f) (ds:=ds) (S:=S) hn "NoNumber" "NotJoined" "NoTie" g2 (by decide:6<=100)
 obtain⟨p4,G4,e4,g4,b4⟩:=oO (f:=f) (ds:=ds) (S:=S) hn "NoText" "NoLine" "NoDeed" g3 (by decide:9<=100)
 have l4:=(Jn.mp g4).1
 have h5:oX (uu cV (mV 3) (bW (mV 1) "TooGreat")) [some f,some (.exc n ds),none,some (.lst p4),none] (S++G4)=some (.ok (.nx [some f,some (.exc n ds),none,some (.lst p4),none]),(S++G4).set p4 ((marks n).map D.bl)):=by
  have hm:=Dm (f:=cV) (e1:=mV 3) (ρ:=[some f,some (.exc n ds),none,some (.lst p4),none]) (x:=.lst p4) rfl rfl (m4 (f:=f) (ds:=ds) (z:=some (.lst p4)) hn "TooGreat")
  refine Dl (x:=.non) ((Me hm _).trans ?_)
  rw[ao]
  show(getL p4>>=fun xs=>jf p4 (xs++[.bl (cm n "TooGreat")])) _=_
  rw[aQ (iQ g4)]
  exact wX (by show 13<=lim;unfold lim;omega) l4
 have h6:=find_eq (f:=f) (ds:=ds) (S:=(S++G4).set p4 ((marks n).map D.bl)) (p:=p4) (bs:=marks n) hn (JN l4) rfl
 rw[hus,hend]at h6
 refine⟨v,(S++G4).set p4 ((marks n).map D.bl),?_,rfl,G4.set (p4 - S.length) ((marks n).map D.bl),L7 _ _ b4⟩
 rw[aQ (a:=Out.ret v) (S1:=(S++G4).set p4 ((marks n).map D.bl))]
 ·rfl
 ·unfold gW
  exact(bX h1).trans ((bX e2).trans ((bX e3).trans ((bX e4).trans ((bX h5).trans h6))))
theorem lZ{n:Str}{ds us:List D}{v:D}(hn:n∈aS)(hus:(aI 0 13).filter (xi (marks n))=us)(hend:∀ f p,oK [some f,some (.exc n ds),none,some (.lst p),some (.fz us)]=pure (.ret v))(hv:eJ 0 v=true):
  gO (bh (M.raise (.exc n ds)) [])=pure v:=by
 unfold bh
 rw[Ba]
 have:oM (M.raise (.exc n ds)) (fun x=>gW [some (.fn 0 0 "" [] []),some x,none,none,none]>>=outD)=(gW [some (.fn 0 0 "" [] []),some (.exc n ds),none,none,none]>>=outD):=by
  funext S
  show(if n∈aS then _ else none)=_
  rw[if_pos hn]
 rw[this]
 exact rest_eq hn hus (hend _) hv
theorem eq_12{f x:D}{p:Nat}{k:Int}:jl pB (mV 4) (bL (bH (af (mK (.int 12)) aD))) [some f,some x,none,some (.lst p),some (.fz [.int k])]=pure (decide (k=12)):=by
 have h1:bL (bH (af (mK (.int 12)) aD)) [some f,some x,none,some (.lst p),some (.fz [.int k])]=pure (.fz [.int 12]):=fh (us:=[.int 12]) rfl (by show 1<=lim;unfold lim;omega)
 refine iO (x:=.fz [.int k]) rfl h1 (cF fun S=>?_)
 unfold pB
 refine(gE (p:=.list [.int k]) (q:=.list [.int 12]) rfl rfl).mpr ⟨?_,rfl⟩
 have:PyData.eqv (.list [.int k]) (.list [.int 12])=decide (k=12):=by
  rw[LK];simp[PyData.eqv,PyData.eqvAll]
 rw[this]
theorem Dr{f x:D}{p:Nat}{k:Int}(h:k≠12):oK [some f,some x,none,some (.lst p),some (.fz [.int k])]=pure (.ret (.fz [.int k])):=by
 refine fH ?_
 show(jl pB _ _ _>>=_)=_
 rw[eq_12,ao,if_neg (by rw[KF];exact h)]
 rfl
theorem CZ:gO (bh (M.raise (.exc "NoWeb" [])) [])=pure (.fz [.int 0]):=lZ (by decide) (by rfl) (fun f p=>Dr (by decide)) rfl
theorem C0:gO (bh (M.raise (.exc "NoNumber" [])) [])=pure (.fz [.int 6]):=lZ (by decide) (by rfl) (fun f p=>Dr (by decide)) rfl
theorem yE{L:Nat}:gO (bh (M.raise (great L)) [])=pure (.fz [.int 12,.int L,.int 7]):=by
 refine lZ (n:="TooGreat") (us:=[.int 12]) (by decide) (by rfl) (fun f p=>?_) rfl
 refine fH ?_
 show(jl pB _ _ _>>=_)=_
 rw[eq_12,ao,if_pos (by decide)]
 have ha:∀ b,iq b (mV 1) [some f,some (great L),none,some (.lst p),some (.fz [.int 12])]=pure (if b then .int 7 else .int L):=fun b=>by
  show wL b (great L)=_
  unfold great wL
  exact if_pos (by decide)
 have h1:bL (bH (af (iq false (mV 1)) (af (iq true (mV 1)) aD))) [some f,some (great L),none,some (.lst p),some (.fz [.int 12])]=pure (.fz [.int L,.int 7]):=by
  show gO ((iq false (mV 1) _>>=fun x=>(iq true (mV 1) _>>=fun y=>_)>>=_)>>=bo)=_
  rw[ha,ha]
  exact fh (us:=[.int L,.int 7]) rfl i7
 have h2:=fK (f:=cQ) (m:=mV 4) (ρ:=[some f,some (great L),none,some (.lst p),some (.fz [.int 12])]) (x:=.fz [.int 12]) rfl h1
 exact(Li gO h2).trans (fh (us:=[.int 12,.int L,.int 7]) rfl vE)
section
variable {S S':aj}{k:Nat}
theorem xj(kp:Kp k S S'):mw S S':=fun i xs hi e=>by
 by_cases h:i=k
 ·subst h
  obtain⟨st,b,e2,_⟩:=kp.st
  rw[e2]at e
  cases e
  exact .inr rfl
 ·exact .inl (by rw[<-kp.oth i hi h];exact e)
theorem xk(hs:fy S k)(kp:Kp k S S'):Kp k S (S'.take S.length)/\(S'.take S.length).length=S.length:=by
 have hl:(S'.take S.length).length=S.length:=by rw[KY];have:=kp.len;omega
 have hg:∀ i,i<S.length->(S'.take S.length)[i]? =S'[i]? :=fun i hi=>by rw[LG,if_pos hi]
 refine⟨⟨Ls hl.symm,fun i hi hk=>(hg i hi).trans (kp.oth i hi hk),?_⟩,hl⟩
 obtain⟨st,b,e,r⟩:=kp.st
 exact⟨st,b,(hg k hs.lt).trans e,r⟩
theorem Bc{c:M D}{d:D}(hs:fy S k)(h:c S=some (.ok d,S'))(kp:Kp k S S')(hc:eJ 0 d=true):∃ S1,gO c S=some (.ok d,S1)/\Kp k S S1/\S1.length=S.length:=
 ⟨_,rH h (xj kp) (.inr rfl) kp.len (rG d (wN (JE _) d hc)),xk hs kp⟩
theorem Bd{n:Nat}{E:List (List Int)}:eJ 0 (aE n E)=true:=by
 unfold aE eJ de eJ de eJ
 rw[lp];rfl
theorem C1{many:Int}(hs:fy S k)(h0:0<many)(h1:many<1073741824):∃ j S1,gO (aO [.lst k,.int many]) S=some (.ok (.int j),S1)/\0<=j/\j<many/\Kp k S S1/\S1.length=S.length:=by
 obtain⟨d,S',e,j,rfl,a,b,kp⟩:=eF (Q:=fun d S'=>∃ j,d= .int j/\0<=j/\j<many/\Kp k S S') hs h0 h1 fun j S' a b _ kp=>⟨j,rfl,a,b,kp⟩
 obtain⟨S1,e1,k1⟩:=Bc hs e kp rfl
 exact⟨j,S1,e1,a,b,k1⟩
theorem Be{g:Int}(hg:0<=g)(hg7:g<=7)(hs:fy S k):∃ n E S1,gO (dn [.lst k,.int g]) S=some (.ok (aE n E),S1)/\n<=14/\WebOk n E/\Kp k S S1/\S1.length=S.length:=by
 obtain⟨d,S',e,n,E,rfl,a,w,kp⟩:=Fd (Q:=fun d S'=>∃(n:Nat) (E:List (List Int)),d=aE n E/\n<=14/\WebOk n E/\Kp k S S') hg hg7 hs fun m ts S' a b w kp=>by
  obtain⟨u,rfl⟩:=KC a
  exact⟨u,ts,rfl,by omega,w,kp⟩
 obtain⟨S1,e1,k1⟩:=Bc hs e kp Bd
 exact⟨n,E,S1,e1,a,w,k1⟩
theorem Bg(hs:fy S k):∃ n E S1,gO (bG [.lst k]) S=some (.ok (aE n E),S1)/\n<=14/\WebOk n E/\Kp k S S1/\S1.length=S.length:=by
 obtain⟨d,S',e,n,E,rfl,a,w,kp⟩:=CL (Q:=fun d S'=>∃(n:Nat) (E:List (List Int)),d=aE n E/\n<=14/\WebOk n E/\Kp k S S') hs fun m ts S' a b w kp=>by
  obtain⟨u,rfl⟩:=KC a
  exact⟨u,ts,rfl,by omega,w,kp⟩
 obtain⟨S1,e1,k1⟩:=Bc hs e kp Bd
 exact⟨n,E,S1,e1,a,w,k1⟩
end
def oQ(a b:Nat):List D:=[.non,.int 0,.tup [],.tup [.int 15,.tup []],.tup [.int (-1),.tup []],.tup [.bl true,.tup []],.tup [.int 2,.lst a],.lst b,.tup [.int 2,.tup [.tup [.int 1,.int 0]]],.tup [.int 2,.tup [.tup [.int 0,.int 0]]],.emp,.str "2:"]
def oR:List D:=[.tup [.int 2,.tup [.tup [.int 0,.int 1],.tup [.int 0,.int 1]]],.tup [.int 3,.tup [.tup [.int 0,.int 2],.tup [.int 0,.int 1]]],.tup [.int 2,.tup [.tup [.int 0,.int 2]]],.tup [.int 2,.tup [.tup [.int 0,.bl true]]],.tup [.int 2,.tup [.tup [.int 0,.int 1,.int 1]]]]
def r0(c:Nat):List D:=[.tup [.int 2,.tup [.int 0,.int 1]],.tup [.int 2,.non],.tup [.int 2,.tup [],.tup []],.tup [.int 2],.tup [.int 2,.tup [.lst c]],.tup [.int 2,.tup [.non]],.tup [.str "2",.tup []],.tup [.int 0,.tup [.tup [.int 0,.int 1]]]]
theorem vL{n k f:Nat}{S:aj}{us:List D}(h:n<=k)(hk:S[k]? =some us)(hc:de 0 us=true):gM n (uw S n (f+1)) (.lst k)=some (.fz us):=by
 unfold gM
 rw[if_neg (by omega)]
 show((S[k]?).bind fun xs=>fw n (uw S n f) xs).map D.fz=_
 rw[hk,K2,gK us (iM (JE _) us hc)];rfl
theorem Fi{n a b c:Nat}{S:aj}(ha:n<=a)(hb:n<=b)(hc:n<=c)(ga:S[a]? =some [])(gb:S[b]? =some [.int 2,.tup []])(gc:S[c]? =some [.int 0,.int 1]):∀ d∈oQ a b++oR++r0 c,∃ u,gM n (uw S n 60) d=some u/\Good u/\gw u=false:=by
 have fa:=vL (f:=59) ha ga rfl
 have fb:=vL (f:=59) hb gb rfl
 have fc:=vL (f:=59) hc gc rfl
 have pl:∀ d,eJ 0 d=true->A1 d=true->gw d=false->∃ u,gM n (uw S n 60) d=some u/\Good u/\gw u=false:=fun d h1 h2 h3=>⟨d,rG d (wN (JE _) d h1),lj h2,h3⟩
 have p1:∃ u,gM n (uw S n 60) (.tup [.int 2,.lst a])=some u/\Good u/\gw u=false:=⟨.tup [.int 2,.fz []],by unfold gM fw fw fw;rw[fa];rfl,lj rfl,rfl⟩
 have p2:∃ u,gM n (uw S n 60) (.lst b)=some u/\Good u/\gw u=false:=⟨_,fb,lj rfl,rfl⟩
 have p3:∃ u,gM n (uw S n 60) (.tup [.int 2,.tup [.lst c]])=some u/\Good u/\gw u=false:=⟨.tup [.int 2,.tup [.fz [.int 0,.int 1]]],by
  have:gM n (uw S n 60) (.tup [.lst c])=some (.tup [.fz [.int 0,.int 1]]):=by unfold gM fw fw;rw[fc];rfl
  unfold gM fw fw fw;rw[this];rfl,lj rfl,rfl⟩
 intro d hd
 simp only[oQ,oR,r0,List.mem_append,List.mem_cons,List.not_mem_nil,or_false]at hd
 rcases hd with((rfl|rfl|rfl|rfl|rfl|rfl|rfl|rfl|rfl|rfl|rfl|rfl)|(rfl|rfl|rfl|rfl|rfl))|(rfl|rfl|rfl|rfl|rfl|rfl|rfl|rfl)<;>first|exact p1|exact p2|exact p3|exact pl _ rfl rfl rfl
def bT(S:aj):aj:=[[],[.int 2,.tup []],oQ S.length (S.length+1),oR,oQ S.length (S.length+1)++oR,[.int 0,.int 1],r0 (S.length+5),oQ S.length (S.length+1)++oR++r0 (S.length+5)]
theorem uc{S G:aj}(i:Nat):(S++G)[S.length+i]? =G[i]? :=by rw[La (KZ _ _),Nat.add_sub_cancel_left]
theorem C3{S S':aj}{k:Nat}{j:Int}{d:D}(ej:aO [.lst k,.int 25] (S++bT S)=some (.ok (.int j),S'))(h5:S'[S.length+7]? =some (oQ S.length (S.length+1)++oR++r0 (S.length+5)))(ed:i3 (oQ S.length (S.length+1)++oR++r0 (S.length+5)) j=some d):
  ez [some (.lst k),none] S=some (.ok (.ret d),S'):=by
 unfold ez
 refine(bX (ρ':=[some (.lst k),some (.lst (S.length+2))]) (S1:=S++(bT S).take 3) (iP (x:=.lst (S.length+2)) ?_)).trans ((bX (ρ':=[some (.lst k),some (.lst (S.length+4))]) (S1:=S++(bT S).take 5) (iP (x:=.lst (S.length+4)) ?_)).trans ((bX (ρ':=[some (.lst k),some (.lst (S.length+7))]) (S1:=S++bT S) (iP (x:=.lst (S.length+7)) ?_)).trans (AX ?_)))
 ·refine(rM (ys:=oQ S.length (S++[[]]).length) (S1:=S++[[]]++[[.int 2,.tup []]]) rfl (by show 12<=lim;unfold lim;omega)).trans ?_
  rw[show(S++([[]]:aj)).length=S.length+1 from Js,JH,Js,JH];rfl
 ·refine(oB (x:=.lst (S.length+2)) rfl (rM (ys:=oR) (S1:=S++(bT S).take 3) rfl (by show 5<=lim;unfold lim;omega))).trans ?_
  rw[JH,Js]
  refine(wY (xs:=oQ S.length (S.length+1)) (ys:=oR) (uc 2) (uc 3) (by show 17<=lim;unfold lim;omega)).trans ?_
  rw[JH,Js];rfl
 ·refine(oB (x:=.lst (S.length+4)) rfl (rM (ys:=r0 (S++(bT S).take 5).length) (S1:=S++(bT S).take 5++[[.int 0,.int 1]]) rfl (by show 8<=lim;unfold lim;omega))).trans ?_
  rw[show(S++(bT S).take 5).length=S.length+5 from Js,JH,JH,Js]
  refine(wY (xs:=oQ S.length (S.length+1)++oR) (ys:=r0 (S.length+5)) (uc 4) (uc 6) (by show 25<=lim;unfold lim;omega)).trans ?_
  rw[Js]
  exact Li (fun x=>some (Res.ok (D.lst (S.length+7)),x)) (JH _ _ _)
 ·refine(oB (x:=.lst (S.length+7)) (y:=.int j) (S2:=S') rfl ?_).trans (Dn h5 ed)
  exact ej
theorem Fj{S:aj}{k:Nat}(hs:fy S k):∃ d S1,gO (dm [.lst k]) S=some (.ok d,S1)/\Good d/\gw d=false/\Kp k S S1/\S1.length=S.length:=by
 obtain⟨_,S',ej,j,rfl,j0,j1,kp0⟩:=eF (Q:=fun d S'=>∃ j,d= .int j/\0<=j/\j<25/\Kp k (S++bT S) S') hs.grow (many:=25) (by decide) (by decide) fun j S' a b _ kp=>⟨j,rfl,a,b,kp⟩
 have hk:=hs.lt
 have gt:∀ i us,(S++bT S)[S.length+i]? =some us->S'[S.length+i]? =some us:=fun i us h=>(kp0.oth (S.length+i) (Jn.mp h).1 (by omega)).trans h
 obtain⟨d,ed,hd⟩:=Dp (xs:=oQ S.length (S.length+1)++oR++r0 (S.length+5)) j0 j1
 have kp:Kp k S S':=(Kp.grow hs _).trans kp0
 obtain⟨u,hu,hg,hw⟩:=Fi (n:=S.length) (a:=S.length) (b:=S.length+1) (c:=S.length+5) (S:=S') (Jj _) (KZ _ _) (KZ _ _) (gt 0 _ (uc 0)) (gt 1 _ (uc 1)) (gt 5 _ (uc 5)) d hd
 refine⟨u,_,rH (vH (C3 ej (gt 7 _ (uc 7)) ed) rfl) (xj kp) (.inl ?_) kp.len hu,hg,hw,xk hs kp⟩
 have:=kp0.len
 rw[Js,show(bT S).length=8 from rfl]at this
 omega
section
variable {ρ:az}{js:List Nat}{ds:List D}{m:TM}{c:M D}{R:M D->List D->M D}{x:D}
theorem vM(hc:vw js ρ=some ds)(hm:m (ds.map some)=c)(hR:gO (R c [])=pure x):bL (rE js aD m R) ρ=pure x:=by
 have:rE js aD m R ρ=R c []:=by
  unfold rE
  rw[hc]
  show(aD ρ>>=fun es=>R (m (ds.map some)) es)=_
  rw[hm];rfl
 unfold bL
 rw[this,hR]
end
theorem Ds{us:List D}{p:PyData}(h:∀ S,i5 S 60 (.fz us)=some p)(he:PyData.eqv p p=true):ma (.fz us) (.fz us)=pure (.bl false):=cF fun S=>by
 unfold ma
 exact(gE (h S) (h S)).mpr ⟨by rw[he];rfl,rfl⟩
theorem GU{i:Int}:ma (.fz [.int i]) (.fz [.int i])=pure (.bl false):=Ds (p:=.list [.int i]) (fun S=>rfl) (by simp[PyData.eqv,PyData.eqvAll])
theorem Iv{i j k:Int}:ma (.fz [.int i,.int j,.int k]) (.fz [.int i,.int j,.int k])=pure (.bl false):=Ds (p:=.list [.int i,.int j,.int k]) (fun S=>rfl) (by simp[PyData.eqv,PyData.eqvAll])
theorem Bh{ρ:az}{i:Int}:bL (bH (af (mK (.int i)) aD)) ρ=pure (.fz [.int i]):=fh (us:=[.int i]) rfl (by show 1<=lim;unfold lim;omega)
section
variable {a0 a1 a2 a3 x5 x6 x7 x8:Option D}{n:Nat}{E:List (List Int)}
theorem GV{t:Nat}(hn:n<=14)(w:WebOk n E)(ht:t<=6):jw [a0,a1,a2,a3,some (aE n E),some (.int t),x6,x7,x8]=pure (.nx [a0,a1,a2,a3,some (aE n E),some (.int t),some (lY t n E),x7,x8]):=by
 unfold jw
 rw[bP (lU (t4 ((call2 (x:=aE n E) (y:=.int t) rfl rfl).trans (GT w ht))))]
 show kd _ _ _ [a0,a1,a2,a3,some (aE n E),some (.int t),some (lY t n E),x7,x8]=_
 have ha:=CS hn w ht
 rcases A8 t n E hn w with⟨L,h1,h2⟩|⟨m,T,h1,h2,hm,wT⟩
 ·rw[h1]at ha
  rw[h2]
  refine(d4 (b:=true) (jA rfl)).trans ?_
  rw[if_pos rfl]
  have hr:=vM (js:=[4,5]) (ρ:=[a0,a1,a2,a3,some (aE n E),some (.int t),some (.fz [.int 12,.int L,.int 7]),x7,x8]) (ds:=[aE n E,.int t]) (m:=ot) rfl (E4 ((call2 (x:=aE n E) (y:=.int t) rfl rfl).trans ha)) yE
  exact(d4 (iO hr (y:=.fz [.int 12,.int L,.int 7]) rfl Iv)).trans (if_neg (by decide))
 ·rw[h1]at ha
  rw[h2]
  refine(d4 (b:=false) (jA rfl)).trans ?_
  rw[if_neg (by decide)]
  have hs:cT [aE m T,aE m T]=pure (.bl true):=Fh (by have:=wT.few;omega) fun r hr=>by
   obtain⟨a,b,rfl,_⟩:=wT.el r hr
   exact(by decide:2<=1000)
  have hc:=jA (t4 ((call2 (F:=cT) (e2:=mV 6) (ρ:=[a0,a1,a2,a3,some (aE n E),some (.int t),some (aE m T),x7,x8]) (y:=aE m T) (t4 ((call2 (x:=aE n E) (y:=.int t) (e1:=mV 4) (e2:=mV 5) rfl rfl).trans ha)) rfl).trans hs))
  have hb:ef (bV (bL (aK cT (af (bL (aK bu (af (mV 4) (af (mV 5) aD)))) (af (mV 6) aD))))) [a0,a1,a2,a3,some (aE n E),some (.int t),some (aE m T),x7,x8]=pure false:=by
   show(bV _ _>>=_)=_
   rw[hc];rfl
  exact(d4 hb).trans (if_neg (by decide))
theorem qy{its:List D}(hn:n<=14)(w:WebOk n E):∀(ts:List Nat) (x5 x6:Option D),(∀ t∈ts,t<=6)->∃ y5 y6,dF ⟨its,.none⟩ (gN 5) jw (ts.map fun i:Nat=>.int (0+(i:Int))) [a0,a1,a2,a3,some (aE n E),x5,x6,x7,x8]=pure (.nx [a0,a1,a2,a3,some (aE n E),y5,y6,x7,x8])
 |[],x5,x6,_=>⟨x5,x6,rL⟩
 |t::ts,x5,x6,ht=>by
  obtain⟨y5,y6,ih⟩:=qy (its:=its) hn w ts (some (.int t)) (some (lY t n E)) fun u hu=>ht u (.tail _ hu)
  refine⟨y5,y6,?_⟩
  funext S
  rw[JT,Lu,vG (ρ1:=[a0,a1,a2,a3,some (aE n E),some (.int t),x6,x7,x8]) rfl (Me (GV hn w (ht t (.head _))) S),ih]
def vN:List D:=[.int (-1),.int 7,.bl true,.non,.str "1",.tup [.int 1],.int (10 ^ 29)]
theorem C4:∀ d∈vN,br [d,.int 6]=M.raise (.exc "NoNumber" []):=by
 intro d hd
 simp only[vN,List.mem_cons,List.not_mem_nil,or_false]at hd
 rcases hd with rfl|rfl|rfl|rfl|rfl|rfl|rfl
 ·rw[jQ,if_neg (by omega)]
 ·rw[jQ,if_neg (by omega)]
 ·exact ll rfl rfl
 ·exact ll rfl rfl
 ·exact ll rfl rfl
 ·exact ll rfl rfl
 ·rw[jQ,if_neg (by omega)]
theorem yF{d:D}(hn:n<=14)(w:WebOk n E)(hd:br [d,.int 6]=M.raise (.exc "NoNumber" [])):bu [aE n E,d]=M.raise (.exc "NoNumber" []):=by
 have hw:gw (aE n E)=true:=rT (by omega) (by omega) w
 have h0:bR [aE n E]=pure .non:=by rw[rW vK (rX w),if_pos hw]
 refine jO ?_
 unfold dE
 show aH _ _ [some (aE n E),some d,none,none]=_
 rw[bP (tZ (t4 ((eB rfl).trans h0)))]
 exact kl (oA (E4 ((call2 rfl rfl).trans hd)))
theorem yG{d e:D}(g:Good d)(hw:gw d=false):bu [d,e]=M.raise (.exc "NoWeb" []):=by
 have h0:bR [d]=M.raise (.exc "NoWeb" []):=by rw[rW g.nr (fun m ts z=>Ju (g.few m ts z) (by decide)),if_neg (by rw[hw];decide)]
 refine jO ?_
 unfold dE
 exact kl (oA (E4 ((eB rfl).trans h0)))
theorem C5{ρ:az}:bL (bH (aM (mK (.int (-1))) (aM (mK (.int 7)) (aM (mK (.bl true)) (aM (mK .non) (aM (mK (.str "1")) (aM (mK (.tup [.int 1])) (aM (bz sM (mK (.int 10)) (mK (.int 29))) aD)))))))) ρ=pure (.fz vN):=by
 have hp:bz sM (mK (.int 10)) (mK (.int 29)) ρ=pure (.int (10 ^ 29)):=by
  refine(fK (x:=.int 10) (y:=.int 29) rfl rfl).trans ?_
  show(if yV 10 29 then pure (D.int (10 ^ (29:Int).toNat))else M.fail)=_
  exact if_pos ⟨by decide,by decide,by decide⟩
 have ha:aM (mK (.int (-1))) (aM (mK (.int 7)) (aM (mK (.bl true)) (aM (mK .non) (aM (mK (.str "1")) (aM (mK (.tup [.int 1])) (aM (bz sM (mK (.int 10)) (mK (.int 29))) aD)))))) ρ=pure vN:=
  cX rfl (cX rfl (cX rfl (cX rfl (cX rfl (cX rfl (cX hp rfl))))))
 show gO (aM _ _ ρ>>=bo)=_
 rw[ha,ao]
 exact fh (by rfl) (by show 7<=lim;unfold lim;omega)
theorem Bi{S:aj}{k:Nat}(hs:fy S k)(hn:n<=14)(w:WebOk n E):∃ y5 y6 y7 S1,lb [a0,a1,some (.lst k),a3,some (aE n E),x5,x6,x7,x8] S=some (.ok (.nx [a0,a1,some (.lst k),a3,some (aE n E),y5,y6,some y7,x8]),S1)/\Kp k S S1/\S1.length=S.length:=by
 obtain⟨y5,y6,hf⟩:=qy (its:=aI 0 7) (a0:=a0) (a1:=a1) (a2:=some (.lst k)) (a3:=a3) (x7:=x7) (x8:=x8) hn w (List.range 7) x5 x6 fun t ht=>by have:=JG.mp ht;omega
 obtain⟨j,S1,ej,j0,j1,kp⟩:=C1 (many:=7) hs (by decide) (by decide)
 obtain⟨d,ed,hd⟩:=Dp (xs:=vN) j0 j1
 refine⟨y5,y6,d,S1,?_,kp⟩
 have hi:mr (mK (.int 7)) [a0,a1,some (.lst k),a3,some (aE n E),x5,x6,x7,x8]=pure ⟨aI 0 7,.none⟩:=(kj (x:=.int 7) rfl).trans (vF (by omega))
 have hr:=vM (js:=[4,7]) (ρ:=[a0,a1,some (.lst k),a3,some (aE n E),y5,y6,some d,x8]) (ds:=[aE n E,d]) (m:=ou) rfl (E4 ((call2 (x:=aE n E) (y:=d) rfl rfl).trans (yF hn w (C4 d hd)))) C0
 unfold lb
 refine(bX (vI hi (Me hf S))).trans ((bX (ρ':=[a0,a1,some (.lst k),a3,some (aE n E),y5,y6,some d,x8]) (S1:=S1) (iP (x:=d) ?_)).trans ?_)
 ·refine(oB (x:=.fz vN) (S1:=S) (y:=.int j) (S2:=S1) ?_ ?_).trans ?_
  ·rw[C5];rfl
  ·show gO (aK aO (af (mV 2) (af (mK (.int 7)) aD)) _) S=_
   rw[call2 (x:=.lst k) (y:=.int 7) rfl rfl]
   exact ej
  ·show(match i3 vN j with|some d=>(pure d:M D)|none=>M.fail) S1=_
   rw[ed];rfl
 ·exact Me ((d4 (iO hr Bh GU)).trans (if_neg (by decide))) S1
end
theorem sd{its ds:List D}{p:Nat}{d:D}{g:i4}{b:cq}{ρ ρ1 ρ2:az}{S S1:aj}(hp:S[p]? =some its)(h:g d ρ=pure ρ1)(hb:b ρ1 S=some (.ok (.nx ρ2),S1)):dF ⟨its,.some p⟩ g b (d::ds) ρ S=dF ⟨its,.some p⟩ g b ds ρ2 S1:=by
 have hc:dX ⟨its,.some p⟩ S=some (.ok (),S):=by
  unfold dX
  exact if_pos hp
 rw[dF,aQ hc,h,ao,aQ hb]
theorem Bj{its:List D}{p:Nat}{g:i4}{b:cq}{ρ:az}{S:aj}(hp:S[p]? =some its):dF ⟨its,.some p⟩ g b [] ρ S=some (.ok (.nx ρ),S):=by
 have hc:dX ⟨its,.some p⟩ S=some (.ok (),S):=by
  unfold dX
  exact if_pos hp
 rw[dF,aQ hc];rfl
theorem Iw(l:List D):S3.cutD l none (some 4)=l.take 4:=by
 unfold S3.cutD
 rw[HT.sIx_none,show HT.sIx l.length l.length (some 4)=min 4 l.length from HT.sIx_nat _ _ 4,List.drop_zero,Nat.sub_zero, <-List.take_length (l:=l),List.take_take]
 simp
theorem WebOk.sub{n:Int}{E T:List (List Int)}(w:WebOk n E)(h:T.Sublist E):WebOk n T:=⟨fun t ht=>w.el t (h.subset ht),w.ris.sublist h,Ju h.length_le w.few⟩
section
variable {me e:TM}{g:i4}{ρ ρ':az}{S S1 S2:aj}{d:D}{F:List D->M D}{x y:D}
theorem Fk(h1:me ρ S=some (.ok d,S1))(h2:g d ρ S1=some (.ok ρ',S2)):pF me g ρ S=some (.ok (.nx ρ'),S2):=by
 unfold pF;rw[aQ h1,aQ h2];rfl
theorem C6{c:M D}(h:c S=some (.ok d,S)):gO c S=some (.ok d,S):=by
 unfold gO
 rw[h]
 exact if_pos (Jj _)
theorem GW{l:List D}(h:e ρ S=some (.ok (.tup l),S1))(hl:l.length<=1000):Cb e oN (oS (mK (.int 4))) ρ S=some (.ok (.tup (l.take 4)),S1):=by
 unfold Cb
 rw[aQ h]
 show bY (S3.cutD l none (some 4)) S1=_
 rw[Iw]
 unfold bY
 rw[if_pos (by rw[KY];unfold lim;omega)];rfl
theorem C7{mi:az->M Iter}{its:List D}{p:Nat}{b:cq}{o:Out}(hi:mi ρ S=some (.ok ⟨its,.some p⟩,S1))(h:dF ⟨its,.some p⟩ g b its ρ S1=some (.ok o,S2)):ik mi g b ρ S=some (.ok o,S2):=by
 unfold ik
 rw[aQ hi]
 exact h
theorem Iy{p:Nat}{a b c:D}(hp:S[p]? =some [a,b,c]):fj (.lst p) (.int 2) d S=some (.ok (),S.set p [a,b,d]):=by
 show(getL p>>=fun xs=>match uG xs.length 2 with|some at'=>(do let _<-jf p (xs.set at' d);pure ())|none=>(M.fail:M Unit)) S=_
 rw[aQ (iQ hp)]
 show(jf p [a,b,d]>>=fun _=>pure ()) S=_
 rw[aQ (wX (us:=[a,b,d]) (show 3<=lim from vE) (Jn.mp hp).1)];rfl
end
theorem Fl{S:aj}{ns:List Int}{i:Nat}{o2 o3 o4 o5 o6 o7 o8:Option D}:∃ x2 x3 x4 x5 x6 x7 x8 S1,jx [some (.ro (ns.map D.int)),some (.int i),o2,o3,o4,o5,o6,o7,o8] S=some (.ok (.nx [some (.ro (ns.map D.int)),some (.int i),x2,x3,x4,x5,x6,x7,x8]),S1):=by
 obtain⟨_,_,e0,xs,rfl,rfl,hs⟩:=CH (S:=S) (ns:=ns) (k:=i) (Q:=fun d S'=>∃ xs,d= .lst S.length/\S'=S++[xs]/\fy (S++[xs]) S.length) fun xs h=>⟨xs,rfl,rfl,h⟩
 generalize S++[xs]=T0 at e0 hs
 generalize S.length=k at e0 hs
 obtain⟨n1,E1,T1,e1,m1,w1,kp1,l1⟩:=Be (g:=6) (by decide) (by decide) hs
 obtain⟨n2,E2,T2,e2,m2,w2,kp2,l2⟩:=Bg kp1.st
 obtain⟨n3,E3,T3,e3,m3,w3,kp3,l3⟩:=Be (g:=5) (by decide) (by decide) kp2.st
 have hk:k<T3.length:=by have:=hs.lt;omega
 have w4:WebOk n3 (E3.take 4):=w3.sub (List.take_sublist _ _)
 have hs5:fy (T3++[[aE n1 E1,aE n2 E2,aE n3 (E3.take 4)]]) k:=kp3.st.grow
 have pl:T3.length<(T3++[[aE n1 E1,aE n2 E2,aE n3 (E3.take 4)]]).length:=by rw[Js];exact Lk _
 have p5:(T3++[[aE n1 E1,aE n2 E2,aE n3 (E3.take 4)]])[T3.length]? =some [aE n1 E1,aE n2 E2,aE n3 (E3.take 4)]:=aV
 obtain⟨a5,a6,a7,T6,b1,k6,g6⟩:=Bi (n:=n1) (E:=E1) (a0:=some (.ro (ns.map D.int))) (a1:=some (.int i)) (a3:=some (.lst T3.length)) (x5:=o5) (x6:=o6) (x7:=o7) (x8:=o8) hs5 m1 w1
 have p6:=(k6.oth T3.length pl (by omega)).trans p5
 obtain⟨b5,b6,b7,T7,b2,k7,g7⟩:=Bi (n:=n2) (E:=E2) (a0:=some (.ro (ns.map D.int))) (a1:=some (.int i)) (a3:=some (.lst T3.length)) (x5:=a5) (x6:=a6) (x7:=some a7) (x8:=o8) k6.st m2 w2
 have p7:=(k7.oth T3.length (by omega) (by omega)).trans p6
 obtain⟨c5,c6,c7,T8,b3,k8,g8⟩:=Bi (n:=n3) (E:=E3.take 4) (a0:=some (.ro (ns.map D.int))) (a1:=some (.int i)) (a3:=some (.lst T3.length)) (x5:=b5) (x6:=b6) (x7:=some b7) (x8:=o8) k7.st m3 w4
 have p8:=(k8.oth T3.length (by omega) (by omega)).trans p7
 obtain⟨d,T9,e9,gd,wd,_,_⟩:=Fj k8.st
 have hr:=vM (js:=[8,7]) (ρ:=[some (.ro (ns.map D.int)),some (.int i),some (.lst k),some (.lst T3.length),some (aE n3 (E3.take 4)),c5,c6,some c7,some d]) (ds:=[d,c7]) (m:=oy) rfl (E4 ((call2 (x:=d) (y:=c7) rfl rfl).trans (yG gd wd))) CZ
 refine⟨some (.lst k),some (.lst T3.length),some (aE n3 (E3.take 4)),c5,c6,some c7,some d,T9,?_⟩
 unfold jx
 refine(bX (ρ':=[some (.ro (ns.map D.int)),some (.int i),some (.lst k),o3,o4,o5,o6,o7,o8]) (S1:=T0) (iP (x:=.lst k) ?_)).trans
  ((bX (ρ':=[some (.ro (ns.map D.int)),some (.int i),some (.lst k),some (.lst T3.length),o4,o5,o6,o7,o8]) (S1:=T3++[[aE n1 E1,aE n2 E2,aE n3 E3]]) (iP (x:=.lst T3.length) ?_)).trans
  ((bX (ρ':=[some (.ro (ns.map D.int)),some (.int i),some (.lst k),some (.lst T3.length),o4,o5,o6,o7,o8]) (S1:=T3++[[aE n1 E1,aE n2 E2,aE n3 (E3.take 4)]]) (Fk (S1:=T3++[[aE n1 E1,aE n2 E2,aE n3 E3]]) (d:=aE n3 (E3.take 4)) ?_ ?_)).trans
  ((bX (ρ':=[some (.ro (ns.map D.int)),some (.int i),some (.lst k),some (.lst T3.length),some (aE n3 (E3.take 4)),c5,c6,some c7,o8]) (S1:=T8) (C7 (its:=[aE n1 E1,aE n2 E2,aE n3 (E3.take 4)]) (p:=T3.length) (S1:=T3++[[aE n1 E1,aE n2 E2,aE n3 (E3.take 4)]]) ?_ ?_)).trans
  ((bX (ρ':=[some (.ro (ns.map D.int)),some (.int i),some (.lst k),some (.lst T3.length),some (aE n3 (E3.take 4)),c5,c6,some c7,some d]) (S1:=T9) (iP (x:=d) ?_)).trans ?_))))
 ·rw[call2 (x:=.ro (ns.map D.int)) (y:=.int i) rfl rfl]
  exact e0
 ·refine rM (S1:=T3) (ys:=[aE n1 E1,aE n2 E2,aE n3 E3]) (oC (S1:=T1) ?_ (oC (S1:=T2) ?_ (oC (S1:=T3) ?_ rfl))) vE
  ·show gO (aK _ _ _) T0=_
   rw[call2 (x:=.lst k) (y:=.int 6) rfl rfl]
   exact e1
  ·show gO (aK _ _ _) T1=_
   rw[eB (x:=.lst k) rfl]
   exact e2
  ·show gO (aK _ _ _) T2=_
   rw[call2 (x:=.lst k) (y:=.int 5) rfl rfl]
   exact e3
 ·have hw:bz eI (mV 3) (mK (.int 2)) [some (.ro (ns.map D.int)),some (.int i),some (.lst k),some (.lst T3.length),o4,o5,o6,o7,o8] (T3++[[aE n1 E1,aE n2 E2,aE n3 E3]])=some (.ok (aE n3 E3),T3++[[aE n1 E1,aE n2 E2,aE n3 E3]]):=(oB (x:=.lst T3.length) (y:=.int 2) rfl rfl).trans (Dn aV rfl)
  have hf:=w3.few
  have h2:=C6 (GW (e:=bz eI (bz eI (mV 3) (mK (.int 2))) (mK (.int 1))) (l:=E3.map tupI) ((oB hw (y:=.int 1) rfl).trans rfl) (by rw[Jl];omega))
  rw[<-List.map_take]at h2
  exact AY ((oB hw (y:=.int 0) rfl).trans rfl) h2
 ·show(fj (.lst T3.length) (.int 2) _>>=fun _=>pure _) _=_
  rw[aQ (Iy aV),L7 _ _ (Jj _),Nat.sub_self];rfl
 ·show(getL T3.length>>=fun xs=>pure _) _=_
  rw[aQ (iQ p5)];rfl
 ·exact(sd p5 rfl b1).trans ((sd p6 rfl b2).trans ((sd p7 rfl b3).trans (Bj p8)))
 ·show gO (aK _ _ _) T8=_
  rw[eB (x:=.lst k) rfl]
  exact e9
 ·exact Me ((d4 (iO hr Bh GU)).trans (if_neg (by decide))) T9
theorem ud{its:List D}{ns:List Int}:∀(ts:List Nat) (o1 o2 o3 o4 o5 o6 o7 o8:Option D) (S:aj),∃ ρ S1,dF ⟨its,.none⟩ (gN 1) jx (ts.map fun i:Nat=>.int (0+(i:Int))) [some (.ro (ns.map D.int)),o1,o2,o3,o4,o5,o6,o7,o8] S=some (.ok (.nx ρ),S1)
 |[],o1,o2,o3,o4,o5,o6,o7,o8,S=>⟨_,S,by rw[MT,rL];rfl⟩
 |t::ts,o1,o2,o3,o4,o5,o6,o7,o8,S=>by
  obtain⟨x2,x3,x4,x5,x6,x7,x8,S1,h⟩:=Fl (S:=S) (ns:=ns) (i:=t) (o2:=o2) (o3:=o3) (o4:=o4) (o5:=o5) (o6:=o6) (o7:=o7) (o8:=o8)
  obtain⟨ρ,S2,ih⟩:=ud (its:=its) (ns:=ns) ts (some (.int t)) x2 x3 x4 x5 x6 x7 x8 S1
  refine⟨ρ,S2,?_⟩
  rw[JT,Lu]
  exact(vG rfl h).trans ih
theorem GX{S:aj}{ns:List Int}:runs (qp [.ro (ns.map D.int)]) S (fun d _=>d= .bl true):=by
 have hm:aK minD (af (dI c9 (mV 0)) (af (mK (.int 8)) aD)) [some (.ro (ns.map D.int)),none,none,none,none,none,none,none,none]=pure (.int (if (8:Int)<(ns.map D.int).length then 8 else (ns.map D.int).length)):=(call2 (x:=.int (ns.map D.int).length) (y:=.int 8) rfl rfl).trans rfl
 have hM:aK maxD (af (mK (.int 1)) (af (aK minD (af (dI c9 (mV 0)) (af (mK (.int 8)) aD))) aD)) [some (.ro (ns.map D.int)),none,none,none,none,none,none,none,none]=pure (.int (if (if (8:Int)<(ns.map D.int).length then (8:Int)else (ns.map D.int).length)>1 then (if (8:Int)<(ns.map D.int).length then 8 else (ns.map D.int).length)else 1)):=(call2 (x:=.int 1) rfl hm).trans rfl
 generalize hn:(if (if (8:Int)<(ns.map D.int).length then (8:Int)else (ns.map D.int).length)>1 then (if (8:Int)<(ns.map D.int).length then (8:Int)else (ns.map D.int).length)else 1)=n at hM
 have n10:n<=8:=by rw[<-hn];split<;>split<;>omega
 have n1:1<=n:=by rw[<-hn];split<;>split<;>omega
 have hi:=(kj hM).trans (vF (by omega))
 obtain⟨ρ,S1,hf⟩:=ud (its:=aI 0 n.toNat) (ns:=ns) (List.range n.toNat) none none none none none none none none S
 refine⟨.bl true,S1,vH (o:=.ret (.bl true)) ?_ rfl,rfl⟩
 unfold AL
 exact(bX (vI hi hf)).trans rfl
def top(i:Nat):Stmt:=PySem.Challenge.pw_tiewebs_k80_tie_webs_again.main.body.getD i (.Pass ⟨0,0,0,0⟩)
structure Txt(K:PySem.W.Frag)(mg:Str->Option Value):Prop where
 err:fu K=true
 dk:Cz K=true
 b_ValueError:mg "ValueError"=none
 b_all:mg "all"=none
 b_any:mg "any"=none
 b_bool:mg "bool"=none
 b_int:mg "int"=none
 b_isinstance:mg "isinstance"=none
 b_len:mg "len"=none
 b_list:mg "list"=none
 b_max:mg "max"=none
 b_min:mg "min"=none
 b_range:mg "range"=none
 b_set:mg "set"=none
 b_sorted:mg "sorted"=none
 b_tuple:mg "tuple"=none
 b_zip:mg "zip"=none
 g_MOST_PLACES:∃ t,mg "MOST_PLACES"=some (.int 14 t)
 g_MOST_TIES:∃ t,mg "MOST_TIES"=some (.int 7 t)
 g_MOST_TIMES:∃ t,mg "MOST_TIMES"=some (.int 6 t)
theorem ue:FnScope ["thing"] ["thing"] (au (top 17)):=⟨rfl,rfl,rfl,by decide+kernel,rfl,by decide+kernel,by decide+kernel⟩
theorem vO:FnScope ["thing"] ["thing"] (au (top 18)):=⟨rfl,rfl,rfl,by decide+kernel,rfl,by decide+kernel,by decide+kernel⟩
theorem se:FnScope ["things"] ["things"] (au (top 21)):=⟨rfl,rfl,rfl,by decide+kernel,rfl,by decide+kernel,by decide+kernel⟩
theorem uf:FnScope ["many"] ["many"] (au (top 25)):=⟨rfl,rfl,rfl,by decide+kernel,rfl,by decide+kernel,by decide+kernel⟩
theorem sf:FnScope ["one","other"] ["one","other"] (au (top 28)):=⟨rfl,rfl,rfl,by decide+kernel,rfl,by decide+kernel,by decide+kernel⟩
theorem mL:FnScope ["_law_script","_law_k"] ["_law_script","_law_k"] (au (top 35)):=⟨rfl,rfl,rfl,by decide+kernel,rfl,by decide+kernel,by decide+kernel⟩
theorem fP:FnScope ["_law_state_here","_law_many","_law_found","_law_stirred"] ["_law_state_here","_law_many"] (au (top 37)):=⟨rfl,rfl,rfl,by decide+kernel,rfl,by decide+kernel,by decide+kernel⟩
theorem gX:FnScope ["_law_many","_law_found","_law_a"] ["_law_many"] (au (top 38)):=⟨rfl,rfl,rfl,by decide+kernel,rfl,by decide+kernel,by decide+kernel⟩
theorem fQ:FnScope ["_law_web_here","_law_ties","_law_found","_law_a"] ["_law_web_here"] (au (top 42)):=⟨rfl,rfl,rfl,by decide+kernel,rfl,by decide+kernel,by decide+kernel⟩
theorem ug:FnScope ["many","thing"] ["many","thing"] (au (top 19)):=⟨rfl,rfl,rfl,by decide+kernel,rfl,by decide+kernel,by decide+kernel⟩
theorem oU:FnScope ["thing","most"] ["thing","most"] (au (top 24)):=⟨rfl,rfl,rfl,by decide+kernel,rfl,by decide+kernel,by decide+kernel⟩
theorem j3:FnScope ["_law_script","_law_k","_law_cell"] ["_law_script","_law_k"] (au (top 36)):=⟨rfl,rfl,rfl,by decide+kernel,rfl,by decide+kernel,by decide+kernel⟩
theorem eG:FnScope ["_law_state_here","_law_things","_law_left","_law_found"] ["_law_state_here","_law_things"] (au (top 39)):=⟨rfl,rfl,rfl,by decide+kernel,rfl,by decide+kernel,by decide+kernel⟩
theorem bQ:FnScope ["_law_state_here","_law_many","_law_ties","_law_turn","_law_one","_law_other"] ["_law_state_here"] (au (top 41)):=⟨rfl,rfl,rfl,by decide+kernel,rfl,by decide+kernel,by decide+kernel⟩
theorem iX:FnScope ["_law_state_here","_law_some"] ["_law_state_here"] (au (top 43)):=⟨rfl,rfl,rfl,by decide+kernel,rfl,by decide+kernel,by decide+kernel⟩
theorem jB:FnScope ["_law_web_here","_law_times","_law_turn"] ["_law_web_here","_law_times"] (au (top 46)):=⟨rfl,rfl,rfl,by decide+kernel,rfl,by decide+kernel,by decide+kernel⟩
theorem l5:FnScope ["many","thing","low","high"] ["many","thing"] (au (top 20)):=⟨rfl,rfl,rfl,by decide+kernel,rfl,by decide+kernel,by decide+kernel⟩
theorem cC:FnScope ["_law_state_here","_law_most","_law_many","_law_way","_law_ties","_law_row","_law_at","_law_odd"] ["_law_state_here","_law_most"] (au (top 40)):=⟨rfl,rfl,rfl,by decide+kernel,rfl,by decide+kernel,by decide+kernel⟩
theorem l6:FnScope ["thing","many","ties"] ["thing"] (au (top 22)):=⟨rfl,rfl,rfl,by decide+kernel,rfl,by decide+kernel,by decide+kernel⟩
theorem uh:FnScope ["thing"] ["thing"] (au (top 23)):=⟨rfl,rfl,rfl,by decide+kernel,rfl,by decide+kernel,by decide+kernel⟩
theorem l7:FnScope ["web"] ["web"] (au (top 29)):=⟨rfl,rfl,rfl,by decide+kernel,rfl,by decide+kernel,by decide+kernel⟩
theorem kq:FnScope ["web","ties","many"] ["web"] (au (top 30)):=⟨rfl,rfl,rfl,by decide+kernel,rfl,by decide+kernel,by decide+kernel⟩
theorem sg:FnScope ["_law_found","_law_due_here"] ["_law_found","_law_due_here"] (au (top 44)):=⟨rfl,rfl,rfl,by decide+kernel,rfl,by decide+kernel,by decide+kernel⟩
theorem fi:FnScope ["web","times","made","turn"] ["web","times"] (au (top 33)):=⟨rfl,rfl,rfl,by decide+kernel,rfl,by decide+kernel,by decide+kernel⟩
theorem bC:FnScope ["_law_call","_law_error","e","_law_marks","_law_found"] ["_law_call"] (au (top 45)):=⟨rfl,rfl,rfl,by decide+kernel,rfl,by decide+kernel,by decide+kernel⟩
theorem iR:FnScope ["_law_script","_law_k","_law_state_here","_law_some","_law_web_here","_law_times","_law_due_here","_law_bad","_law_none"] ["_law_script"] (au (top 47)):=⟨rfl,rfl,rfl,by decide+kernel,rfl,by decide+kernel,by decide+kernel⟩
section
variable {P:Program}{w:World}{K:PySem.W.Frag}{mg:Str->Option Value}{base:Heap}
theorem ui{f:Addr}{fd:FuncData}(F:Fun K "is_whole" "is_whole" (top 17) f fd)(hm:mg "is_whole"=some (.ref f))(T:Txt K mg):DefX P w K mg base 1 "is_whole" ["thing"] bF:=
 bU (m:=og) F hm (F.binds fun _ _ _ _ _ _ us hl=>match us,hl with|[_],_=>rfl) ue rfl fun cdv A outer s H E hr=>
  aN (aW (j6 (fX (Ts:="int") T.b_isinstance T.b_int (aa 0)) (lG (Ea (fX (Ts:="bool") T.b_isinstance T.b_bool (aa 0))))))
end
section
variable {P:Program}{w:World}{K:PySem.W.Frag}{mg:Str->Option Value}{base:Heap}
theorem vP{f:Addr}{fd:FuncData}(F:Fun K "is_pair" "is_pair" (top 18) f fd)(hm:mg "is_pair"=some (.ref f))(T:Txt K mg):DefX P w K mg base 1 "is_pair" ["thing"] cM:=
 bU (m:=qo) F hm (F.binds fun _ _ _ _ _ _ us hl=>match us,hl with|[_],_=>rfl) vO rfl fun cdv A outer s H E hr=>
  aN (aW (j6 (fX (Ts:="tuple") T.b_isinstance T.b_tuple (aa 0)) (lG (zD (jm hr) (d9 T.b_len (aa 0)) (aw)))))
end
section
variable {P:Program}{w:World}{K:PySem.W.Frag}{mg:Str->Option Value}{base:Heap}
theorem sh{f:Addr}{fd:FuncData}(F:Fun K "is_rising" "is_rising" (top 21) f fd)(hm:mg "is_rising"=some (.ref f))(T:Txt K mg):DefX P w K mg base 1 "is_rising" ["things"] dZ:=
 bU (m:=mB) F hm (F.binds fun _ _ _ _ _ _ us hl=>match us,hl with|[_],_=>rfl) se rfl fun cdv A outer s H E hr=>
  aN (aW (uX rfl T.b_all (bg (eW (t:=gf) (m:=gh) (mI (Nc:=["ahead","behind"]) (js:=[none,none]) (au (top 21)) ["things"] (fun _=>rfl) rfl (by decide+kernel)) rfl (wF T.b_zip (aa 0) (bg (sQ (aa 0) (wb (aw)) (wa)))) (fun C ex s2 H2=>⟨nD rfl (dM (a9 0 (show(["ahead","behind"]:List Str).Nodup by decide+kernel)) (dM (a9 1 (show(["ahead","behind"]:List Str).Nodup by decide+kernel)) (kH))),iE,De (Fv hr) (aa 0) (aa 1)⟩)))))
end
section
variable {P:Program}{w:World}{K:PySem.W.Frag}{mg:Str->Option Value}{base:Heap}
theorem uj{f:Addr}{fd:FuncData}(F:Fun K "pairs_of" "pairs_of" (top 25) f fd)(hm:mg "pairs_of"=some (.ref f))(T:Txt K mg):DefX P w K mg base 1 "pairs_of" ["many"] cW:=
 bU (m:=oh) F hm (F.binds fun _ _ _ _ _ _ us hl=>match us,hl with|[_],_=>rfl) uf rfl fun cdv A outer s H E hr=>
  aN (aW (bg (AC (t:=dP) (t2:=cD) (m:=b0) (mI (Nc:=["low","high","many"]) (js:=[none,none,some 0]) (au (top 25)) ["many"] (fun _=>rfl) rfl (by decide+kernel)) rfl (dv T.b_range (aa 0)) (fun C ex s2 H2=>⟨a9 0 (show(["low","high","many"]:List Str).Nodup by decide+kernel),iE,jH T.b_range (dh (aa 0) (aw)) (aa 2),a9 1 (show(["low","high","many"]:List Str).Nodup by decide+kernel),iE,d6 (ae (aa 0) (ae (aa 1) (aq) ay) ay)⟩))))
end
section
variable {P:Program}{w:World}{K:PySem.W.Frag}{mg:Str->Option Value}{base:Heap}
theorem si{f:Addr}{fd:FuncData}(F:Fun K "ties_meet" "ties_meet" (top 28) f fd)(hm:mg "ties_meet"=some (.ref f))(T:Txt K mg):DefX P w K mg base 1 "ties_meet" ["one","other"] fx:=
 bU (m:=mC) F hm (F.binds fun _ _ _ _ _ _ us hl=>match us,hl with|[_,_],_=>rfl) sf rfl fun cdv A outer s H E hr=>
  aN (aW (EU rfl T.b_any (bg (eW (t:=gi) (m:=gj) (mI (Nc:=["place","other"]) (js:=[none,some 1]) (au (top 28)) ["one","other"] (fun _=>rfl) rfl (by decide+kernel)) rfl (j8 (aa 0)) (fun C ex s2 H2=>⟨a9 0 (show(["place","other"]:List Str).Nodup by decide+kernel),iE,zF (jm hr) (aa 0) (aa 1)⟩)))))
end
section
variable {P:Program}{w:World}{K:PySem.W.Frag}{mg:Str->Option Value}{base:Heap}
theorem mM{f:Addr}{fd:FuncData}(F:Fun K "_law_cell_at" "_law_cell_at" (top 35) f fd)(hm:mg "_law_cell_at"=some (.ref f))(T:Txt K mg):DefX P w K mg base 1 "_law_cell_at" ["_law_script","_law_k"] cN:=
 bU (m:=gk) F hm (F.binds fun _ _ _ _ _ _ us hl=>match us,hl with|[_,_],_=>rfl) mL rfl fun cdv A outer s H E hr=>
  aB (dJ (zz (Fv hr) (aa 1) (d9 T.b_len (aa 0))) (aN (aW (aU (aa 0) (aa 1)))) (cH)) (aN (aW (aw)))
end
section
variable {P:Program}{w:World}{K:PySem.W.Frag}{mg:Str->Option Value}{base:Heap}
theorem sj{f:Addr}{fd:FuncData}(F:Fun K "_law_take" "_law_take" (top 37) f fd)(hm:mg "_law_take"=some (.ref f))(T:Txt K mg):DefX P w K mg base 1 "_law_take" ["_law_state_here","_law_many"] aO:=
 bU (m:=ju) F hm (F.binds fun _ _ _ _ _ _ us hl=>match us,hl with|[_,_],_=>rfl) fP rfl fun cdv A outer s H E hr=>
  aB (dJ (eM (aU (aa 0) (aw))) (aB (bc 2 fP.nd (ji (aU (aa 0) (aw)) (aa 1)) (hs:=dO)) (aB (nE (qS (aU (aa 0) (aw)) (aa 1)) (qW (aa 0) (aw))) (aN (aW (aa 2))))) (cH)) (aB (nE (ji (dh (nG (aU (aa 0) (aw)) (aw)) (aw)) (aw)) (qW (aa 0) (aw))) (aB (bc 3 fP.nd (ji (dh (dh (nG (aU (aa 0) (aw)) (aU (aa 0) (aw))) (nG (aw) (aU (aa 0) (aw)))) (aw)) (aw)) (hs:=dO)) (aB (bc 3 fP.nd (ji (dh (nG (aa 3) (aa 3)) (nG (aw) (aa 3))) (aw)) (hs:=dO)) (aN (aW (ji (qS (aa 3) (aw)) (aa 1)))))))
end
section
variable {P:Program}{w:World}{K:PySem.W.Frag}{mg:Str->Option Value}{base:Heap}
theorem pJ{f:Addr}{fd:FuncData}(F:Fun K "_law_pairs" "_law_pairs" (top 38) f fd)(hm:mg "_law_pairs"=some (.ref f))(T:Txt K mg):DefX P w K mg base 1 "_law_pairs" ["_law_many"] bI:=
 bU (m:=iK) F hm (F.binds fun _ _ _ _ _ _ us hl=>match us,hl with|[_],_=>rfl) gX rfl fun cdv A outer s H E hr=>
  aB (bc 1 gX.nd (bx (aq)) (hs:=gG)) (aB (iD (b:=fF) Kv rfl (dv T.b_range (aa 0)) (a9 2 gX.nd) (aN (d7 (p0 (aa 1) (eW (t:=fD) (m:=fE) (mI (Nc:=["_law_b","_law_a"]) (js:=[none,some 2]) (au (top 38)) ["_law_many","_law_found","_law_a"] (fun _=>rfl) rfl (by decide+kernel)) rfl (jH T.b_range (dh (aa 2) (aw)) (aa 0)) (fun C ex s2 H2=>⟨a9 0 (show(["_law_b","_law_a"]:List Str).Nodup by decide+kernel),iE,d6 (ae (aa 1) (ae (aa 0) (aq) ay) ay)⟩)))))) (aN (aW (aa 1))))
end
section
variable {P:Program}{w:World}{K:PySem.W.Frag}{mg:Str->Option Value}{base:Heap}
theorem sk{f:Addr}{fd:FuncData}(F:Fun K "_law_made" "_law_made" (top 42) f fd)(hm:mg "_law_made"=some (.ref f))(T:Txt K mg):DefX P w K mg base 1 "_law_made" ["_law_web_here"] d0:=
 bU (m:=gH) F hm (F.binds fun _ _ _ _ _ _ us hl=>match us,hl with|[_],_=>rfl) fQ rfl fun cdv A outer s H E hr=>
  aB (bc 1 fQ.nd (aU (aa 0) (aw)) (hs:=iH)) (aB (bc 2 fQ.nd (bx (aq)) (hs:=gG)) (aB (iD (b:=dj) Kv rfl (dv T.b_range (d9 T.b_len (aa 1))) (a9 3 fQ.nd) (aN (d7 (p0 (aa 2) (eW (t:=gm) (m:=gn) (mI (Nc:=["_law_b","_law_ties","_law_a"]) (js:=[none,some 1,some 3]) (au (top 42)) ["_law_web_here","_law_ties","_law_found","_law_a"] (fun _=>rfl) rfl (by decide+kernel)) rfl (jH T.b_range (dh (aa 3) (aw)) (d9 T.b_len (aa 1))) (fun C ex s2 H2=>⟨a9 0 (show(["_law_b","_law_ties","_law_a"]:List Str).Nodup by decide+kernel),jF (zz (Fv hr) (yf rfl T.b_len T.b_set (dh (aU (aa 1) (aa 2)) (aU (aa 1) (aa 0)))) (aw)),d6 (ae (aa 2) (ae (aa 0) (aq) ay) ay)⟩)))))) (aN (aW (d6 (ae (d9 T.b_len (aa 1)) (ae (ib T.b_tuple (aa 2)) (aq) bb) bb))))))
end
section
variable {P:Program}{w:World}{K:PySem.W.Frag}{mg:Str->Option Value}{base:Heap}
theorem uk{f:Addr}{fd:FuncData}(F:Fun K "is_place" "is_place" (top 19) f fd)(hm:mg "is_place"=some (.ref f))(T:Txt K mg)(D_is_whole:DefX P w K mg base 1 "is_whole" ["thing"] bF):DefX P w K mg base 2 "is_place" ["many","thing"] eR:=
 bU (m:=oj) F hm (F.binds fun _ _ _ _ _ _ us hl=>match us,hl with|[_,_],_=>rfl) ug rfl fun cdv A outer s H E hr=>
  aN (aW (j6 (aP D_is_whole (hr.mono (by decide)) (ae (aa 1) (aq) ay)) (lG (zA sx (yW.or (uF (Fv hr))) (gz fun _ _ _ _=>.bl _) uS (aw) (aa 1) (aa 0)))))
end
section
variable {P:Program}{w:World}{K:PySem.W.Frag}{mg:Str->Option Value}{base:Heap}
theorem oV{f:Addr}{fd:FuncData}(F:Fun K "need_number" "need_number" (top 24) f fd)(hm:mg "need_number"=some (.ref f))(T:Txt K mg)(D_is_whole:DefX P w K mg base 1 "is_whole" ["thing"] bF):DefX P w K mg base 2 "need_number" ["thing","most"] br:=
 kY (m:=eY) F hm (F.binds fun _ _ _ _ _ _ us hl=>match us,hl with|[_,_],_=>rfl) oU rfl fun cdv A outer s H E hr=>
  aN (dJ (BV (v5 (gL (eM (bg (dN D_is_whole (hr.mono (by decide)) bK.pass (ae (aa 0) (aq) ay))))) (uO (gL (sO sx sx (gz fun _ _ _ _=>.bl _) (gz fun _ _ _ _=>.bl _) (aw) (aa 0) (aa 1)))))) (aN (tG bK rfl T.err (by decide) (by decide) (ae (lF) (aq) av))) (cH))
end
section
variable {P:Program}{w:World}{K:PySem.W.Frag}{mg:Str->Option Value}{base:Heap}
theorem pK{f:Addr}{fd:FuncData}(F:Fun K "_law_state" "_law_state" (top 36) f fd)(hm:mg "_law_state"=some (.ref f))(T:Txt K mg)(D__law_cell_at:DefX P w K mg base 1 "_law_cell_at" ["_law_script","_law_k"] cN):DefX P w K mg base 2 "_law_state" ["_law_script","_law_k"] dD:=
 bU (m:=iL) F hm (F.binds fun _ _ _ _ _ _ us hl=>match us,hl with|[_,_],_=>rfl) j3 rfl fun cdv A outer s H E hr=>
  aB (bc 2 j3.nd (aP D__law_cell_at (hr.mono (by decide)) (ae (aa 0) (ae (aa 1) (aq) ay) ay)) (hs:=dU)) (aB (dJ (Gi (aa 2) (uR (aw) (aw))) (aN (aW (bx (ae (j7 (aa 2) (uR (aw) (aw))) (ae (fT) (aq) av) ft)))) (cH)) (aN (aW (bx (ae (ji (aa 2) (aw)) (ae (fT) (aq) av) ft)))))
end
section
variable {P:Program}{w:World}{K:PySem.W.Frag}{mg:Str->Option Value}{base:Heap}
theorem lq{f:Addr}{fd:FuncData}(F:Fun K "_law_mixed_row" "_law_mixed_row" (top 39) f fd)(hm:mg "_law_mixed_row"=some (.ref f))(T:Txt K mg)(D__law_take:DefX P w K mg base 1 "_law_take" ["_law_state_here","_law_many"] aO):DefX P w K mg base 2 "_law_mixed_row" ["_law_state_here","_law_things"] cb:=
 bU (m:=eS) F hm (F.binds fun _ _ _ _ _ _ us hl=>match us,hl with|[_,_],_=>rfl) eG rfl fun cdv A outer s H E hr=>
  aB (bc 2 eG.nd (B0 T.b_list (aa 1)) (hs:=dU)) (aB (bc 3 eG.nd (bx (aq)) (hs:=gG)) (aB (zx (b:=dG) 64 Kv (md (jm hr) (aa 2) (bx (aq))) (aN (d7 (ie (aa 3) (zR (aa 2) (aP D__law_take (hr.mono (by decide)) (ae (aa 0) (ae (d9 T.b_len (aa 2)) (aq) bb) ay))))))) (aN (aW (aa 3)))))
end
section
variable {P:Program}{w:World}{K:PySem.W.Frag}{mg:Str->Option Value}{base:Heap}
theorem lr{f:Addr}{fd:FuncData}(F:Fun K "_law_great_web" "_law_great_web" (top 41) f fd)(hm:mg "_law_great_web"=some (.ref f))(T:Txt K mg)(D__law_take:DefX P w K mg base 1 "_law_take" ["_law_state_here","_law_many"] aO):DefX P w K mg base 2 "_law_great_web" ["_law_state_here"] bG:=
 bU (m:=eT) F hm (F.binds fun _ _ _ _ _ _ us hl=>match us,hl with|[_],_=>rfl) bQ rfl fun cdv A outer s H E hr=>
  aB (bc 1 bQ.nd (dh (aw) (aP D__law_take (hr.mono (by decide)) (ae (aa 0) (ae (aw) (aq) av) ay))) (hs:=dO)) (aB (bc 2 bQ.nd (bx (aq)) (hs:=gG)) (aB (iD (b:=dH) Kv rfl (dv T.b_range (aP D__law_take (hr.mono (by decide)) (ae (aa 0) (ae (aw) (aq) av) ay))) (a9 3 bQ.nd) (aB (bc 4 bQ.nd (aP D__law_take (hr.mono (by decide)) (ae (aa 0) (ae (aa 1) (aq) ay) ay)) (hs:=dU)) (aB (bc 5 bQ.nd (ji (dh (dh (aa 4) (aw)) (aP D__law_take (hr.mono (by decide)) (ae (aa 0) (ae (j7 (aa 1) (aw)) (aq) ft) ay))) (aa 1)) (hs:=dO)) (aN (d7 (ie (aa 2) (d6 (ae (zH rfl T.b_min (ae (aa 4) (ae (aa 5) (aq) ay) ay)) (ae (uV rfl T.b_max (ae (aa 4) (ae (aa 5) (aq) ay) ay)) (aq) bb) bb)))))))) (aN (aW (d6 (ae (aa 1) (ae (ib T.b_tuple (rp rfl (IX hr) T.b_sorted T.b_set (aa 2))) (aq) bb) ay))))))
end
section
variable {P:Program}{w:World}{K:PySem.W.Frag}{mg:Str->Option Value}{base:Heap}
theorem mO{f:Addr}{fd:FuncData}(F:Fun K "_law_bad_web" "_law_bad_web" (top 43) f fd)(hm:mg "_law_bad_web"=some (.ref f))(T:Txt K mg)(D__law_take:DefX P w K mg base 1 "_law_take" ["_law_state_here","_law_many"] aO):DefX P w K mg base 2 "_law_bad_web" ["_law_state_here"] dm:=by
 refine bU (m:=ez) F hm (F.binds fun _ _ _ _ _ _ us hl=>match us,hl with|[_],_=>rfl) iX rfl fun cdv A outer s H E hr=>?_
 have key:∀ e pos pos' me,SE (iZ (jT P w) P w K mg base ["_law_state_here","_law_some"] "_law_bad_web" (au (top 43)) f cdv A outer s H E).nox bZ e me->swapsWith e (some (.Name "_law_some" pos')) pos.line (iZ (jT P w) P w K mg base ["_law_state_here","_law_some"] "_law_bad_web" (au (top 43)) f cdv A outer s H E).nox.env=pure false->SS (iZ (jT P w) P w K mg base ["_law_state_here","_law_some"] "_law_bad_web" (au (top 43)) f cdv A outer s H E).nox bZ (.Assign [.Name "_law_some" pos'] e pos) (bq 1 me):=fun e pos pos' me h hs=>bc 1 iX.nd h (hs:=hs)
 have kv:∀ pos,SE (iZ (jT P w) P w K mg base ["_law_state_here","_law_some"] "_law_bad_web" (au (top 43)) f cdv A outer s H E).nox bZ (.Name "_law_some" pos) (mV 1):=fun pos=>aa 1
 refine aB ?_ ?_
 ·with_reducible refine key _ _ _ _ ?_ gG
  with_reducible refine bx ?_
  with_reducible refine aJ (lE) ?_ av
  with_reducible refine aJ (aw) ?_ av
  with_reducible refine aJ (cL 6 ?_) ?_ ba
  case refine_1=>rfl
  with_reducible refine aJ (cL 6 ?_) ?_ ba
  case refine_1=>rfl
  with_reducible refine aJ (cL 6 ?_) ?_ ba
  case refine_1=>rfl
  with_reducible refine aJ (cL 6 ?_) ?_ ba
  case refine_1=>rfl
  with_reducible refine aJ ?_ ?_ ba
  case refine_1=>exact(d6 (ae (aw) (ae (bx (aq)) (aq) rB) av))
  with_reducible refine aJ ?_ ?_ rB
  case refine_1=>exact(bx (ae (aw) (ae (cL 6 rfl) (aq) ba) av))
  with_reducible refine aJ (cL 6 ?_) ?_ ba
  case refine_1=>rfl
  with_reducible refine aJ (cL 6 ?_) ?_ ba
  case refine_1=>rfl
  with_reducible refine aJ (Eh) ?_ Cd
  with_reducible refine aJ (lF) ?_ av
  exact aq
 refine aB ?_ ?_
 ·with_reducible refine key _ _ _ _ ?_ dO
  with_reducible refine dh (kv _) ?_
  with_reducible refine bx ?_
  with_reducible refine aJ (cL 6 ?_) ?_ ba
  case refine_1=>rfl
  with_reducible refine aJ (cL 6 ?_) ?_ ba
  case refine_1=>rfl
  with_reducible refine aJ (cL 6 ?_) ?_ ba
  case refine_1=>rfl
  with_reducible refine aJ (cL 6 ?_) ?_ ba
  case refine_1=>rfl
  with_reducible refine aJ (cL 6 ?_) ?_ ba
  case refine_1=>rfl
  exact aq
 refine aB ?_ ?_
 ·with_reducible refine key _ _ _ _ ?_ dO
  with_reducible refine dh (kv _) ?_
  with_reducible refine bx ?_
  with_reducible refine aJ (cL 6 ?_) ?_ ba
  case refine_1=>rfl
  with_reducible refine aJ (cL 6 ?_) ?_ ba
  case refine_1=>rfl
  with_reducible refine aJ (cL 6 ?_) ?_ ba
  case refine_1=>rfl
  with_reducible refine aJ (cL 6 ?_) ?_ ba
  case refine_1=>rfl
  with_reducible refine aJ ?_ ?_ ba
  case refine_1=>exact(d6 (ae (aw) (ae (d6 (ae (bx (ae (aw) (ae (aw) (aq) av) av)) (aq) rB)) (aq) ba) av))
  with_reducible refine aJ (cL 6 ?_) ?_ ba
  case refine_1=>rfl
  with_reducible refine aJ (cL 6 ?_) ?_ ba
  case refine_1=>rfl
  with_reducible refine aJ (cL 6 ?_) ?_ ba
  case refine_1=>rfl
  exact aq
 exact(aN (aW (aU (aa 1) (aP D__law_take (hr.mono (by decide)) (ae (aa 0) (ae (aw) (aq) av) ay)))))
end
section
variable {P:Program}{w:World}{K:PySem.W.Frag}{mg:Str->Option Value}{base:Heap}
theorem um{f:Addr}{fd:FuncData}(F:Fun K "_law_due" "_law_due" (top 46) f fd)(hm:mg "_law_due"=some (.ref f))(T:Txt K mg)(D__law_made:DefX P w K mg base 1 "_law_made" ["_law_web_here"] d0):DefX P w K mg base 2 "_law_due" ["_law_web_here","_law_times"] gp:=
 bU (m:=om) F hm (F.binds fun _ _ _ _ _ _ us hl=>match us,hl with|[_,_],_=>rfl) jB rfl fun cdv A outer s H E hr=>
  aB (iD (b:=cZ) Kv rfl (dv T.b_range (aa 1)) (a9 2 jB.nd) (aB (dJ (v8 (d9 T.b_len (aU (aa 0) (aw))) (aw)) (aN (aW (bg (bx (ae (aw) (ae (d9 T.b_len (aU (aa 0) (aw))) (ae (aw) (aq) av) bb) av))))) (cH)) (aN (bc 0 jB.nd (bg (aP D__law_made (hr.mono (by decide)) (ae (aa 0) (aq) ay))) (hs:=dU))))) (aN (aW (aa 0)))
end
section
variable {P:Program}{w:World}{K:PySem.W.Frag}{mg:Str->Option Value}{base:Heap}
theorem yH{f:Addr}{fd:FuncData}(F:Fun K "is_tie" "is_tie" (top 20) f fd)(hm:mg "is_tie"=some (.ref f))(T:Txt K mg)(D_is_pair:DefX P w K mg base 1 "is_pair" ["thing"] cM)(D_is_place:DefX P w K mg base 2 "is_place" ["many","thing"] eR):DefX P w K mg base 3 "is_tie" ["many","thing"] jv:=
 bU (m:=oo) F hm (F.binds fun _ _ _ _ _ _ us hl=>match us,hl with|[_,_],_=>rfl) l5 rfl fun cdv A outer s H E hr=>
  aB (dJ (gL (eM (aP D_is_pair (hr.mono (by decide)) (ae (aa 1) (aq) ay)))) (aN (aW (fT))) (cH)) (aB (nE (aa 1) (nD rfl (dM (a9 2 l5.nd) (dM (a9 3 l5.nd) (kH))))) (aN (aW (j6 (aP D_is_place (hr.mono (by decide)) (ae (aa 0) (ae (aa 2) (aq) ay) ay)) (j6 (aP D_is_place (hr.mono (by decide)) (ae (aa 0) (ae (aa 3) (aq) ay) ay)) (lG (De (Fv hr) (aa 2) (aa 3))))))))
end
section
variable {P:Program}{w:World}{K:PySem.W.Frag}{mg:Str->Option Value}{base:Heap}
theorem uo{f:Addr}{fd:FuncData}(F:Fun K "_law_web" "_law_web" (top 40) f fd)(hm:mg "_law_web"=some (.ref f))(T:Txt K mg)(D__law_take:DefX P w K mg base 1 "_law_take" ["_law_state_here","_law_many"] aO)(D__law_pairs:DefX P w K mg base 1 "_law_pairs" ["_law_many"] bI)(D__law_mixed_row:DefX P w K mg base 2 "_law_mixed_row" ["_law_state_here","_law_things"] cb):DefX P w K mg base 3 "_law_web" ["_law_state_here","_law_most"] dn:=
 bU (m:=kh) F hm (F.binds fun _ _ _ _ _ _ us hl=>match us,hl with|[_,_],_=>rfl) cC rfl fun cdv A outer s H E hr=>
  aB (bc 2 cC.nd (uV rfl T.b_max (ae (aw) (ae (j7 (aa 1) (aU (bx (by (refine aJ (aw) ?_ av;refine aJ (aw) ?_ av;refine aJ (aw) ?_ av;refine aJ (aw) ?_ av;refine aJ (aw) ?_ av;refine aJ (aw) ?_ av;refine aJ (aw) ?_ av;refine aJ (aa 1) ?_ ay;exact aq))) (aP D__law_take (hr.mono (by decide)) (ae (aa 0) (ae (aw) (aq) av) ay)))) (aq) ft) av)) (hs:=dU)) (aB (bc 3 cC.nd (aP D__law_take (hr.mono (by decide)) (ae (aa 0) (ae (aw) (aq) av) ay)) (hs:=dU)) (aB (bc 4 cC.nd (eW (t:=gQ) (m:=gR) (mI (Nc:=["_law_tie","_law_state_here","_law_way"]) (js:=[none,some 0,some 3]) (au (top 40)) ["_law_state_here","_law_most","_law_many","_law_way","_law_ties","_law_row","_law_at","_law_odd"] (fun _=>rfl) rfl (by decide+kernel)) rfl (j8 (aP D__law_pairs (hr.mono (by decide)) (ae (aa 2) (aq) ay))) (fun C ex s2 H2=>⟨a9 0 (show(["_law_tie","_law_state_here","_law_way"]:List Str).Nodup by decide+kernel),jF (zz (Fv hr) (aP D__law_take (hr.mono (by decide)) (ae (aa 1) (ae (aw) (aq) av) ay)) (aU (bx (ae (aw) (ae (aw) (ae (aw) (aq) av) av) av)) (ji (aa 2) (aw)))),aa 0⟩))) (aB (bc 5 cC.nd (aP D__law_mixed_row (hr.mono (by decide)) (ae (aa 0) (ae (qX rfl T.b_list T.b_range (aa 2)) (aq) bb) ay)) (hs:=dU)) (aB (dJ (v8 (aa 3) (aw)) (aB (bc 4 cC.nd (bx (aq)) (hs:=gG)) (aB (iD (b:=gS) Kv rfl (jH T.b_range (aw) (aa 2)) (a9 6 cC.nd) (aN (d7 (ie (aa 4) (ib T.b_tuple (lM T.b_sorted (bx (ae (aU (aa 5) (aa 6)) (ae (aU (aa 5) (aU (bx (by (refine aJ (j7 (aa 6) (aw)) ?_ ft;refine aJ (j7 (aa 6) (aw)) ?_ ft;refine aJ (aw) ?_ av;refine aJ (qS (aa 6) (aw)) ?_ ft;exact aq))) (j7 (aa 3) (aw)))) (aq) cz) cz)))))))) (aB (dJ (BV (Eb (zE (jm hr) (aa 3) (aw)) (BU (v8 (aa 2) (aw))))) (aN (d7 (ie (aa 4) (ib T.b_tuple (lM T.b_sorted (bx (ae (aU (aa 5) (aw)) (ae (aU (aa 5) (j7 (aa 2) (aw))) (aq) cz) cz))))))) (cH)) (aB (bc 7 cC.nd (eW (t:=eZ) (m:=e8) (mI (Nc:=["_law_tie","_law_state_here"]) (js:=[none,some 0]) (au (top 40)) ["_law_state_here","_law_most","_law_many","_law_way","_law_ties","_law_row","_law_at","_law_odd"] (fun _=>rfl) rfl (by decide+kernel)) rfl (j8 (aP D__law_pairs (hr.mono (by decide)) (ae (aa 2) (aq) ay))) (fun C ex s2 H2=>⟨a9 0 (show(["_law_tie","_law_state_here"]:List Str).Nodup by decide+kernel),jF (zE (jm hr) (aP D__law_take (hr.mono (by decide)) (ae (aa 1) (ae (aw) (aq) av) ay)) (aw)),aa 0⟩))) (aN (bc 4 cC.nd (eW (t:=fe) (m:=ff) (mI (Nc:=["_law_tie","_law_ties","_law_odd"]) (js:=[none,some 4,some 7]) (au (top 40)) ["_law_state_here","_law_most","_law_many","_law_way","_law_ties","_law_row","_law_at","_law_odd"] (fun _=>rfl) rfl (by decide+kernel)) rfl (j8 (aP D__law_pairs (hr.mono (by decide)) (ae (aa 2) (aq) ay))) (fun C ex s2 H2=>⟨a9 0 (show(["_law_tie","_law_ties","_law_odd"]:List Str).Nodup by decide+kernel),jF (md (jm hr) (zF (jm hr) (aa 0) (aa 1)) (zF (jm hr) (aa 0) (aa 2))),aa 0⟩)))))))) (cH)) (aN (aW (d6 (ae (aa 2) (ae (ib T.b_tuple (lM T.b_sorted (aa 4))) (aq) bb) ay))))))))
end
section
variable {P:Program}{w:World}{K:PySem.W.Frag}{mg:Str->Option Value}{base:Heap}
theorem yI{f:Addr}{fd:FuncData}(F:Fun K "is_web" "is_web" (top 22) f fd)(hm:mg "is_web"=some (.ref f))(T:Txt K mg)(D_is_whole:DefX P w K mg base 1 "is_whole" ["thing"] bF)(D_is_pair:DefX P w K mg base 1 "is_pair" ["thing"] cM)(D_is_tie:DefX P w K mg base 3 "is_tie" ["many","thing"] jv)(D_is_rising:DefX P w K mg base 1 "is_rising" ["things"] dZ):DefX P w K mg base 4 "is_web" ["thing"] ir:=
 bU (m:=oq) F hm (F.binds fun _ _ _ _ _ _ us hl=>match us,hl with|[_],_=>rfl) l6 rfl fun cdv A outer s H E hr=>
  aB (dJ (gL (eM (bg (aP D_is_pair (hr.mono (by decide)) (ae (aa 0) (aq) ay))))) (aN (aW (fT))) (cH)) (aB (nE (aa 0) (nD rfl (dM (a9 1 l6.nd) (dM (a9 2 l6.nd) (kH))))) (aB (dJ (BV (v5 (gL (eM (bg (aP D_is_whole (hr.mono (by decide)) (ae (aa 1) (aq) ay))))) (v5 (gL (sO sx sx (gz fun _ _ _ _=>.bl _) (gz fun _ _ _ _=>.bl _) (aw) (aa 1) (kS rfl T.g_MOST_PLACES))) (uO (gL (eM (fX (Ts:="tuple") T.b_isinstance T.b_tuple (aa 2)))))))) (aN (aW (fT))) (cH)) (aN (aW (j6 (uX rfl T.b_all (bg (eW (t:=gI) (m:=gJ) (mI (Nc:=["tie","many"]) (js:=[none,some 1]) (au (top 22)) ["thing","many","ties"] (fun _=>rfl) rfl (by decide+kernel)) rfl (j8 (aa 2)) (fun C ex s2 H2=>⟨a9 0 (show(["tie","many"]:List Str).Nodup by decide+kernel),iE,bg (aP D_is_tie (hr.mono (by decide)) (ae (aa 1) (ae (aa 0) (aq) ay) ay))⟩)))) (lG (bg (aP D_is_rising (hr.mono (by decide)) (ae (aa 2) (aq) ay)))))))))
end
section
variable {P:Program}{w:World}{K:PySem.W.Frag}{mg:Str->Option Value}{base:Heap}
theorem uq{f:Addr}{fd:FuncData}(F:Fun K "need_web" "need_web" (top 23) f fd)(hm:mg "need_web"=some (.ref f))(T:Txt K mg)(D_is_web:DefX P w K mg base 4 "is_web" ["thing"] ir):DefX P w K mg base 5 "need_web" ["thing"] bR:=
 kY (m:=ki) F hm (F.binds fun _ _ _ _ _ _ us hl=>match us,hl with|[_],_=>rfl) uh rfl fun cdv A outer s H E hr=>
  aN (dJ (gL (eM (bg (dN D_is_web (hr.mono (by decide)) bK.pass (ae (aa 0) (aq) ay))))) (aN (tG bK rfl T.err (by decide) (by decide) (ae (lF) (aq) av))) (cH))
end
section
variable {P:Program}{w:World}{K:PySem.W.Frag}{mg:Str->Option Value}{base:Heap}
theorem l8{f:Addr}{fd:FuncData}(F:Fun K "need_few_ties" "need_few_ties" (top 29) f fd)(hm:mg "need_few_ties"=some (.ref f))(T:Txt K mg)(GR:GrX P w K mg base)(D_need_web:DefX P w K mg base 5 "need_web" ["thing"] bR):DefX P w K mg base 6 "need_few_ties" ["web"] cu:=
 kY (m:=dW) F hm (F.binds fun _ _ _ _ _ _ us hl=>match us,hl with|[_],_=>rfl) l7 rfl fun cdv A outer s H E hr=>
  aB (d7 (bg (dN D_need_web (hr.mono (by decide)) bK.pass (ae (aa 0) (aq) ay)))) (aN (dJ (v8 (d9 T.b_len (aU (aa 0) (aw))) (kS rfl T.g_MOST_TIES)) (aN (AK bK rfl T.err GR (hr.mono (by decide)) (ae (d9 T.b_len (aU (aa 0) (aw))) (ae (kS rfl T.g_MOST_TIES) (aq) ay) bb))) (cH)))
end
section
variable {P:Program}{w:World}{K:PySem.W.Frag}{mg:Str->Option Value}{base:Heap}
theorem vQ{f:Addr}{fd:FuncData}(F:Fun K "tie_web" "tie_web" (top 30) f fd)(hm:mg "tie_web"=some (.ref f))(T:Txt K mg)(D_pairs_of:DefX P w K mg base 1 "pairs_of" ["many"] cW)(D_ties_meet:DefX P w K mg base 1 "ties_meet" ["one","other"] fx)(D_need_few_ties:DefX P w K mg base 6 "need_few_ties" ["web"] cu):DefX P w K mg base 7 "tie_web" ["web"] fS:=
 kY (m:=jM) F hm (F.binds fun _ _ _ _ _ _ us hl=>match us,hl with|[_],_=>rfl) kq rfl fun cdv A outer s H E hr=>
  aB (d7 (bg (dN D_need_few_ties (hr.mono (by decide)) bK.pass (ae (aa 0) (aq) ay)))) (aB (bc 1 kq.nd (aU (aa 0) (aw)) (hs:=iH)) (aB (bc 2 kq.nd (d9 T.b_len (aa 1)) (hs:=dU)) (aN (aW (d6 (ae (aa 2) (ae (ib T.b_tuple (bg (Cg (eW (t:=fN) (m:=fO) (mI (Nc:=["low","high","ties"]) (js:=[none,none,some 1]) (au (top 30)) ["web","ties","many"] (fun _=>rfl) rfl (by decide+kernel)) rfl (j8 (bg (aP D_pairs_of (hr.mono (by decide)) (ae (aa 2) (aq) ay)))) (fun C ex s2 H2=>⟨nD rfl (dM (a9 0 (show(["low","high","ties"]:List Str).Nodup by decide+kernel)) (dM (a9 1 (show(["low","high","ties"]:List Str).Nodup by decide+kernel)) (kH))),jF (eM (bg (aP D_ties_meet (hr.mono (by decide)) (ae (aU (aa 2) (aa 0)) (ae (aU (aa 2) (aa 1)) (aq) cz) cz)))),d6 (ae (aa 0) (ae (aa 1) (aq) ay) ay)⟩))))) (aq) bb) ay))))))
end
section
variable {P:Program}{w:World}{K:PySem.W.Frag}{mg:Str->Option Value}{base:Heap}
theorem pL{j:Nat}{F0:List D->M D}{f:Addr}{fd:FuncData}(F:Fun K "_law_same" "_law_same" (top 44) f fd)(hm:mg "_law_same"=some (.ref f))(T:Txt K mg)(D_self:DefX P w K mg base (1+j) "_law_same" ["_law_found","_law_due_here"] F0):DefX P w K mg base (1+j+1) "_law_same" ["_law_found","_law_due_here"] (kX 2 2 (dq F0)):=
 bU (m:=dq F0) F hm (F.binds fun _ _ _ _ _ _ us hl=>match us,hl with|[_,_],_=>rfl) sg rfl fun cdv A outer s H E hr=>
  aB (dJ (eM (B2 (Ts:="tuple") (Us:="list") T.b_isinstance T.b_tuple T.b_list (aa 1))) (aB (dJ (BV (v5 (md (jm hr) (fX (Ts:="tuple") T.b_isinstance T.b_tuple (aa 0)) (fX (Ts:="tuple") T.b_isinstance T.b_tuple (aa 1))) (uO (md (jm hr) (fX (Ts:="list") T.b_isinstance T.b_list (aa 0)) (fX (Ts:="list") T.b_isinstance T.b_list (aa 1)))))) (aN (aW (fT))) (cH)) (aB (dJ (md (jm hr) (d9 T.b_len (aa 0)) (d9 T.b_len (aa 1))) (aN (aW (fT))) (cH)) (aN (aW (uX rfl T.b_all (bg (eW (t:=gq F0) (m:=gr F0) (mI (Nc:=["_law_one","_law_other"]) (js:=[none,none]) (au (top 44)) ["_law_found","_law_due_here"] (fun _=>rfl) rfl (by decide+kernel)) rfl (wF T.b_zip (aa 0) (aa 1)) (fun C ex s2 H2=>⟨nD rfl (dM (a9 0 (show(["_law_one","_law_other"]:List Str).Nodup by decide+kernel)) (dM (a9 1 (show(["_law_one","_law_other"]:List Str).Nodup by decide+kernel)) (kH))),iE,bg (aP D_self (hr.mono (Jj _)) (ae (aa 0) (ae (aa 1) (aq) ay) ay))⟩)))))))) (cH)) (aN (aW (j6 (zD (jm hr) (aa 0) (aa 1)) (lG (zD (jm hr) (fX (Ts:="bool") T.b_isinstance T.b_bool (aa 0)) (fX (Ts:="bool") T.b_isinstance T.b_bool (aa 1)))))))
theorem j4{f:Addr}{fd:FuncData}(F:Fun K "_law_same" "_law_same" (top 44) f fd)(hm:mg "_law_same"=some (.ref f))(T:Txt K mg):∀ n,DefX P w K mg base (1+n) "_law_same" ["_law_found","_law_due_here"] (cA n)
 |0=>DefX.none F hm (F.binds fun _ _ _ _ _ _ us hl=>match us,hl with|[_,_],_=>rfl)
 |n+1=>pL F hm T (j4 F hm T n)
theorem sm{f:Addr}{fd:FuncData}(F:Fun K "_law_same" "_law_same" (top 44) f fd)(hm:mg "_law_same"=some (.ref f))(T:Txt K mg):DefX P w K mg base 7 "_law_same" ["_law_found","_law_due_here"] cT:=j4 F hm T 6
end
section
variable {P:Program}{w:World}{K:PySem.W.Frag}{mg:Str->Option Value}{base:Heap}
theorem pM{f:Addr}{fd:FuncData}(F:Fun K "made_again" "made_again" (top 33) f fd)(hm:mg "made_again"=some (.ref f))(T:Txt K mg)(D_need_web:DefX P w K mg base 5 "need_web" ["thing"] bR)(D_need_number:DefX P w K mg base 2 "need_number" ["thing","most"] br)(D_tie_web:DefX P w K mg base 7 "tie_web" ["web"] fS):DefX P w K mg base 8 "made_again" ["web","times"] bu:=
 kY (m:=dE) F hm (F.binds fun _ _ _ _ _ _ us hl=>match us,hl with|[_,_],_=>rfl) fi rfl fun cdv A outer s H E hr=>
  aB (d7 (bg (dN D_need_web (hr.mono (by decide)) bK.pass (ae (aa 0) (aq) ay)))) (aB (d7 (bg (dN D_need_number (hr.mono (by decide)) bK.pass (ae (aa 1) (ae (kS rfl T.g_MOST_TIMES) (aq) ay) ay)))) (aB (bc 2 fi.nd (aa 0) (hs:=Ct)) (aB (iD (b:=cw) bK.ow rfl (dv T.b_range (aa 1)) (a9 3 fi.nd) (aN (bc 2 fi.nd (bg (dN D_tie_web (hr.mono (by decide)) bK.pass (ae (aa 2) (aq) ay))) (hs:=dU)))) (aN (aW (aa 2))))))
end
section
variable {P:Program}{w:World}{K:PySem.W.Frag}{mg:Str->Option Value}{base:Heap}
theorem mP{f:Addr}{fd:FuncData}(F:Fun K "_law_refused" "_law_refused" (top 45) f fd)(hm:mg "_law_refused"=some (.ref f))(T:Txt K mg):RefX P w K mg 10 9 "_law_refused" ["_law_call"] bw:=
 EO (m:=eA) F hm (F.binds fun _ _ _ _ _ _ us hl=>match us,hl with|[_],_=>rfl) bC rfl fun base G a c2 ql ds vs mm L cdv A outer s H E hr=>
  aB (bc 1 bC.nd (lE) (hs:=tO)) (aB (EK rfl rfl L (hr.mono (by decide)) bC.nd T.err G rfl (.inl rfl) rfl rfl rfl rfl rfl) (aB (bc 3 bC.nd (bx (ae (dC T.err (by decide) G T.b_isinstance (aa 1)) (ae (dC T.err (by decide) G T.b_isinstance (aa 1)) (ae (dC T.err (by decide) G T.b_isinstance (aa 1)) (aq) bb) bb) bb)) (hs:=gG)) (aB (bc 3 bC.nd (dh (aa 3) (bg (bx (ae (dC T.err (by decide) G T.b_isinstance (aa 1)) (ae (dC T.err (by decide) G T.b_isinstance (aa 1)) (ae (dC T.err (by decide) G T.b_isinstance (aa 1)) (aq) bb) bb) bb)))) (hs:=dO)) (aB (bc 3 bC.nd (dh (aa 3) (bg (bx (ae (dC T.err (by decide) G T.b_isinstance (aa 1)) (ae (dC T.err (by decide) G T.b_isinstance (aa 1)) (ae (dC T.err (by decide) G T.b_isinstance (aa 1)) (aq) bb) bb) bb)))) (hs:=dO)) (aB (bc 3 bC.nd (dh (aa 3) (bg (bx (ae (dC T.err (by decide) G T.b_isinstance (aa 1)) (ae (dC T.err (by decide) G T.b_isinstance (aa 1)) (ae (dC T.err (by decide) G T.b_isinstance (aa 1)) (aq) bb) bb) bb)))) (hs:=dO)) (aB (d7 (ie (aa 3) (dC T.err (by decide) G T.b_isinstance (aa 1)))) (aB (dJ (gL (eM (Ck T.err T.b_isinstance T.b_ValueError (aa 1)))) (aN (aW (lE))) (cH)) (aB (AI (uP 4 (t:=bN) (m:=bO) bC.nd (mI (Nc:=["_law_k","_law_marks"]) (js:=[none,some 3]) (au (top 45)) ["_law_call","_law_error","e","_law_marks","_law_found"] (fun _=>rfl) rfl (by decide+kernel)) rfl (dv T.b_range (aw)) (fun C ex s2 H2=>⟨a9 0 (show(["_law_k","_law_marks"]:List Str).Nodup by decide+kernel),jF (eM (aU (aa 1) (aa 0))),aa 0⟩))) (aN (aW (Ge (zE (jm hr) (aa 4) (bg (bx (ae (aw) (aq) av)))) (bg (dh (aa 4) (bg (bx (ae (CA T.err T.dk (aa 1)) (ae (CB T.err T.dk (aa 1)) (aq) k9) k9))))) (aa 4))))))))))))
end
theorem yJ{P:Program}{w:World}{K:PySem.W.Frag}{mg:Str->Option Value}{base:Heap}{f c Pt:Addr}{fd:FuncData}(F:Fun K "law" "law" (top 47) f fd)(T:Txt K mg)(G:Mod K mg base)(BL:BaseL K mg base)(TI:rC K)(hx:PySem.W.nsIn K mainGlobals "law"=some (some (.ref f)))(htab:PySem.W.tabIn K "law"=some (c,Pt))(D_made_again:∀ base,Mod K mg base->DefX P w K mg base 8 "made_again" ["web","times"] bu)(D__law_state:∀ base,Mod K mg base->DefX P w K mg base 2 "_law_state" ["_law_script","_law_k"] dD)(D__law_take:∀ base,Mod K mg base->DefX P w K mg base 1 "_law_take" ["_law_state_here","_law_many"] aO)(D__law_web:∀ base,Mod K mg base->DefX P w K mg base 3 "_law_web" ["_law_state_here","_law_most"] dn)(D__law_great_web:∀ base,Mod K mg base->DefX P w K mg base 2 "_law_great_web" ["_law_state_here"] bG)(D__law_bad_web:∀ base,Mod K mg base->DefX P w K mg base 2 "_law_bad_web" ["_law_state_here"] dm)(D__law_same:∀ base,Mod K mg base->DefX P w K mg base 7 "_law_same" ["_law_found","_law_due_here"] cT)(D__law_refused:RefX P w K mg 10 9 "_law_refused" ["_law_call"] bw)(cY:∀ f c es,bw f c es=bh c es)(D__law_due:∀ base,Mod K mg base->DefX P w K mg base 2 "_law_due" ["_law_web_here","_law_times"] gp):FnOk P w K mg base (jT P w) 11 f fd ["_law_script"] (Al K qp):=
 EN (m:=AL) F iR rfl hx htab fun A outer s H E hr=>
  aB (iD (b:=jx) Kv rfl (dv T.b_range (uV rfl T.b_max (ae (aw) (ae (zH rfl T.b_min (ae (d9 T.b_len (aa 0)) (ae (aw) (aq) av) bb)) (aq) bb) av))) (a9 1 iR.nd) (aB (bc 2 iR.nd (aP (D__law_state _ G) (hr.mono (by decide)) (ae (aa 0) (ae (aa 1) (aq) ay) ay)) (hs:=dU)) (aB (bc 3 iR.nd (bx (ae (bg (aP (D__law_web _ G) (hr.mono (by decide)) (ae (aa 2) (ae (aw) (aq) av) ay))) (ae (bg (aP (D__law_great_web _ G) (hr.mono (by decide)) (ae (aa 2) (aq) ay))) (ae (bg (aP (D__law_web _ G) (hr.mono (by decide)) (ae (aa 2) (ae (aw) (aq) av) ay))) (aq) bb) bb) bb)) (hs:=gG)) (aB (nE (d6 (ae (aU (aU (aa 3) (aw)) (aw)) (ae (bg (sQ (aU (aU (aa 3) (aw)) (aw)) (wa) (wb (aw)))) (aq) cz) cz)) (qW (aa 3) (aw))) (aB (iD (b:=lb) Kv rfl (j8 (aa 3)) (a9 4 iR.nd) (aB (iD (b:=jw) Kv rfl (dv T.b_range (aw)) (a9 5 iR.nd) (aB (bc 6 iR.nd (bg (aP (D__law_due _ G) (hr.mono (by decide)) (ae (aa 4) (ae (aa 5) (aq) ay) ay))) (hs:=dU)) (aN (dJ (eM (fX (Ts:="list") T.b_isinstance T.b_list (aa 6))) (aN (dJ (md (jm hr) (bg (vy (ql:="law.<locals>.<lambda>") (m:=ot) (xl:="law") D__law_refused cY (hr.mono (by decide)) (fun _=>rfl) (by decide) htab rfl rfl rfl BL TI rfl (EL (N3:=["_law_web_here","_law_times"]) (js:=[4,5]) (au (top 47)) ["_law_script","_law_k","_law_state_here","_law_some","_law_web_here","_law_times","_law_due_here","_law_bad","_law_none"] (fun _=>rfl) rfl (by decide+kernel)) (aq) (fun _ _ _ _=>rfl) (fun base2 G2 f2 c2 cl2 A2 outer2 s2 H2 Ek2 hr2=>bg (dN (D_made_again _ G2) (hr2.mono (by decide)) kf.pass (ae (aa 0) (ae (aa 1) (aq) ay) ay))))) (aa 6)) (aN (aW (fT))) (cH))) (aN (dJ (gL (eM (bg (aP (D__law_same _ G) (hr.mono (by decide)) (ae (bg (aP (D_made_again _ G) (hr.mono (by decide)) (ae (aa 4) (ae (aa 5) (aq) ay) ay))) (ae (aa 6) (aq) ay) bb))))) (aN (aW (fT))) (cH))))))) (aB (bc 7 iR.nd (aU (bg (bx (by (refine aJ (vo) ?_ n5;refine aJ (aw) ?_ av;refine aJ (fT) ?_ av;refine aJ (lE) ?_ av;refine aJ (lF) ?_ av;refine aJ (cL 6 rfl) ?_ ba;refine aJ (uR (aw) (aw)) ?_ ft;exact aq)))) (bg (aP (D__law_take _ G) (hr.mono (by decide)) (ae (aa 2) (ae (aw) (aq) av) ay)))) (hs:=iH)) (aN (dJ (md (jm hr) (bg (vy (ql:="law.<locals>.<lambda>") (m:=ou) (xl:="law") D__law_refused cY (hr.mono (by decide)) (fun _=>rfl) (by decide) htab rfl rfl rfl BL TI rfl (EL (N3:=["_law_web_here","_law_bad"]) (js:=[4,7]) (au (top 47)) ["_law_script","_law_k","_law_state_here","_law_some","_law_web_here","_law_times","_law_due_here","_law_bad","_law_none"] (fun _=>rfl) rfl (by decide+kernel)) (aq) (fun _ _ _ _=>rfl) (fun base2 G2 f2 c2 cl2 A2 outer2 s2 H2 Ek2 hr2=>bg (dN (D_made_again _ G2) (hr2.mono (by decide)) kf.pass (ae (aa 0) (ae (aa 1) (aq) ay) ay))))) (bg (bx (ae (aw) (aq) av)))) (aN (aW (fT))) (cH)))))) (aB (bc 8 iR.nd (bg (aP (D__law_bad_web _ G) (hr.mono (by decide)) (ae (aa 2) (aq) ay))) (hs:=dU)) (aN (dJ (md (jm hr) (bg (vy (ql:="law.<locals>.<lambda>") (m:=oy) (xl:="law") D__law_refused cY (hr.mono (by decide)) (fun _=>rfl) (by decide) htab rfl rfl rfl BL TI rfl (EL (N3:=["_law_none","_law_bad"]) (js:=[8,7]) (au (top 47)) ["_law_script","_law_k","_law_state_here","_law_some","_law_web_here","_law_times","_law_due_here","_law_bad","_law_none"] (fun _=>rfl) rfl (by decide+kernel)) (aq) (fun _ _ _ _=>rfl) (fun base2 G2 f2 c2 cl2 A2 outer2 s2 H2 Ek2 hr2=>bg (dN (D_made_again _ G2) (hr2.mono (by decide)) kf.pass (ae (aa 0) (ae (aa 1) (aq) ay) ay))))) (bg (bx (ae (aw) (aq) av)))) (aN (aW (fT))) (cH))))))))) (aN (aW (fT)))
def Dt:Stmt:=GD (top 14)
theorem C8:FnScope ["self","many","most"] ["self","many","most"] (au Dt):=⟨rfl,rfl,rfl,by decide+kernel,rfl,by decide+kernel,by decide+kernel⟩
abbrev lP:Program:=PySem.Challenge.rw_tiewebs_k80_tie_webs_again.prog
abbrev kW(w:World):PySem.W.Frag:=KH.K0 w.params
theorem fk{K:PySem.W.Frag}{f c:Addr}{m:Value}(x q:Str)(st:Stmt)(l:K.lookup f=some ⟨.type "function",none,.func (PySem.W.fnOf x q (gx st) (cU st) (au st) .none .none .none m none (.ref c) .none), #[]⟩)(h:PySem.W.codeIn K (.ref c) q=true)(k:PySem.W.keepIn K (.ref f)=true):Fun K x q st f (PySem.W.fnOf x q (gx st) (cU st) (au st) .none .none .none m none (.ref c) .none):=D7 l h k
abbrev nK(w:World)(x:Str):Option (Option Value):=PySem.W.nsIn (kW w) mainGlobals x
theorem Je(w:World)(mg:Str->Option Value)(fa:Addr)(h:Heap)(X:(kW w).In h)(G:h.Ns mainGlobals mg)(hfa:mg "law"=some (.ref fa)):∃ fd:FuncData,(∀(s:Shared) (u:Value),BindsTo s fd ⟨[u],[]⟩ [("_law_script",u)])/\∀ base:Heap,Mod (kW w) mg base->BaseL (kW w) mg base->FnOk lP w (kW w) mg base (jT lP w) 11 fa fd ["_law_script"] (Al (kW w) qp):=by
 have aG:nK w "TooGreat"=some (some (.ref 188)):=by kernel_rfl
 have z_gr:jL (kW w) 188 185=true:=by kernel_rfl
 have FG:=@fk (kW w) 185 184 (KH.zs "tiewebs.errors" 187) "__init__" "TooGreat.__init__" Dt (by kernel_rfl) (by kernel_rfl) (by kernel_rfl)
 have a17:nK w "is_whole"=some (some (.ref 197)):=by kernel_rfl
 have F17:=@fk (kW w) 197 196 (KH.zs "tiewebs.webs" 426) "is_whole" "is_whole" (top 17) (by kernel_rfl) (by kernel_rfl) (by kernel_rfl)
 have a18:nK w "is_pair"=some (some (.ref 204)):=by kernel_rfl
 have F18:=@fk (kW w) 204 203 (KH.zs "tiewebs.webs" 426) "is_pair" "is_pair" (top 18) (by kernel_rfl) (by kernel_rfl) (by kernel_rfl)
 have a19:nK w "is_place"=some (some (.ref 211)):=by kernel_rfl
 have F19:=@fk (kW w) 211 210 (KH.zs "tiewebs.webs" 426) "is_place" "is_place" (top 19) (by kernel_rfl) (by kernel_rfl) (by kernel_rfl)
 have a20:nK w "is_tie"=some (some (.ref 218)):=by kernel_rfl
 have F20:=@fk (kW w) 218 217 (KH.zs "tiewebs.webs" 426) "is_tie" "is_tie" (top 20) (by kernel_rfl) (by kernel_rfl) (by kernel_rfl)
 have a21:nK w "is_rising"=some (some (.ref 223)):=by kernel_rfl
 have F21:=@fk (kW w) 223 222 (KH.zs "tiewebs.webs" 426) "is_rising" "is_rising" (top 21) (by kernel_rfl) (by kernel_rfl) (by kernel_rfl)
 have a22:nK w "is_web"=some (some (.ref 228)):=by kernel_rfl
 have F22:=@fk (kW w) 228 227 (KH.zs "tiewebs.webs" 426) "is_web" "is_web" (top 22) (by kernel_rfl) (by kernel_rfl) (by kernel_rfl)
 have a23:nK w "need_web"=some (some (.ref 235)):=by kernel_rfl
 have F23:=@fk (kW w) 235 234 (KH.zs "tiewebs.webs" 426) "need_web" "need_web" (top 23) (by kernel_rfl) (by kernel_rfl) (by kernel_rfl)
 have a24:nK w "need_number"=some (some (.ref 242)):=by kernel_rfl
 have F24:=@fk (kW w) 242 241 (KH.zs "tiewebs.webs" 426) "need_number" "need_number" (top 24) (by kernel_rfl) (by kernel_rfl) (by kernel_rfl)
 have a25:nK w "pairs_of"=some (some (.ref 247)):=by kernel_rfl
 have F25:=@fk (kW w) 247 246 (KH.zs "tiewebs.webs" 426) "pairs_of" "pairs_of" (top 25) (by kernel_rfl) (by kernel_rfl) (by kernel_rfl)
 have a28:nK w "ties_meet"=some (some (.ref 252)):=by kernel_rfl
 have F28:=@fk (kW w) 252 251 (KH.zs "tiewebs.ties" 495) "ties_meet" "ties_meet" (top 28) (by kernel_rfl) (by kernel_rfl) (by kernel_rfl)
 have a29:nK w "need_few_ties"=some (some (.ref 259)):=by kernel_rfl
 have F29:=@fk (kW w) 259 258 (KH.zs "tiewebs.ties" 495) "need_few_ties" "need_few_ties" (top 29) (by kernel_rfl) (by kernel_rfl) (by kernel_rfl)
 have a30:nK w "tie_web"=some (some (.ref 264)):=by kernel_rfl
 have F30:=@fk (kW w) 264 263 (KH.zs "tiewebs.ties" 495) "tie_web" "tie_web" (top 30) (by kernel_rfl) (by kernel_rfl) (by kernel_rfl)
 have a33:nK w "made_again"=some (some (.ref 271)):=by kernel_rfl
 have F33:=@fk (kW w) 271 270 (KH.zs "tiewebs.again" 518) "made_again" "made_again" (top 33) (by kernel_rfl) (by kernel_rfl) (by kernel_rfl)
 have a35:nK w "_law_cell_at"=some (some (.ref 278)):=by kernel_rfl
 have F35:=@fk (kW w) 278 277 (KH.zs "law_tiewebs_k80_tie_webs_again" 532) "_law_cell_at" "_law_cell_at" (top 35) (by kernel_rfl) (by kernel_rfl) (by kernel_rfl)
 have a36:nK w "_law_state"=some (some (.ref 285)):=by kernel_rfl
 have F36:=@fk (kW w) 285 284 (KH.zs "law_tiewebs_k80_tie_webs_again" 532) "_law_state" "_law_state" (top 36) (by kernel_rfl) (by kernel_rfl) (by kernel_rfl)
 have a37:nK w "_law_take"=some (some (.ref 292)):=by kernel_rfl
 have F37:=@fk (kW w) 292 291 (KH.zs "law_tiewebs_k80_tie_webs_again" 532) "_law_take" "_law_take" (top 37) (by kernel_rfl) (by kernel_rfl) (by kernel_rfl)
 have a38:nK w "_law_pairs"=some (some (.ref 297)):=by kernel_rfl
 have F38:=@fk (kW w) 297 296 (KH.zs "law_tiewebs_k80_tie_webs_again" 532) "_law_pairs" "_law_pairs" (top 38) (by kernel_rfl) (by kernel_rfl) (by kernel_rfl)
 have a39:nK w "_law_mixed_row"=some (some (.ref 304)):=by kernel_rfl
 have F39:=@fk (kW w) 304 303 (KH.zs "law_tiewebs_k80_tie_webs_again" 532) "_law_mixed_row" "_law_mixed_row" (top 39) (by kernel_rfl) (by kernel_rfl) (by kernel_rfl)
 have a40:nK w "_law_web"=some (some (.ref 309)):=by kernel_rfl
 have F40:=@fk (kW w) 309 308 (KH.zs "law_tiewebs_k80_tie_webs_again" 532) "_law_web" "_law_web" (top 40) (by kernel_rfl) (by kernel_rfl) (by kernel_rfl)
 have a41:nK w "_law_great_web"=some (some (.ref 316)):=by kernel_rfl
 have F41:=@fk (kW w) 316 315 (KH.zs "law_tiewebs_k80_tie_webs_again" 532) "_law_great_web" "_law_great_web" (top 41) (by kernel_rfl) (by kernel_rfl) (by kernel_rfl)
 have a42:nK w "_law_made"=some (some (.ref 321)):=by kernel_rfl
 have F42:=@fk (kW w) 321 320 (KH.zs "law_tiewebs_k80_tie_webs_again" 532) "_law_made" "_law_made" (top 42) (by kernel_rfl) (by kernel_rfl) (by kernel_rfl)
 have a43:nK w "_law_bad_web"=some (some (.ref 328)):=by kernel_rfl
 have F43:=@fk (kW w) 328 327 (KH.zs "law_tiewebs_k80_tie_webs_again" 532) "_law_bad_web" "_law_bad_web" (top 43) (by kernel_rfl) (by kernel_rfl) (by kernel_rfl)
 have a44:nK w "_law_same"=some (some (.ref 333)):=by kernel_rfl
 have F44:=@fk (kW w) 333 332 (KH.zs "law_tiewebs_k80_tie_webs_again" 532) "_law_same" "_law_same" (top 44) (by kernel_rfl) (by kernel_rfl) (by kernel_rfl)
 have a45:nK w "_law_refused"=some (some (.ref 338)):=by kernel_rfl
 have F45:=@fk (kW w) 338 337 (KH.zs "law_tiewebs_k80_tie_webs_again" 532) "_law_refused" "_law_refused" (top 45) (by kernel_rfl) (by kernel_rfl) (by kernel_rfl)
 have a46:nK w "_law_due"=some (some (.ref 345)):=by kernel_rfl
 have F46:=@fk (kW w) 345 344 (KH.zs "law_tiewebs_k80_tie_webs_again" 532) "_law_due" "_law_due" (top 46) (by kernel_rfl) (by kernel_rfl) (by kernel_rfl)
 have a47:nK w "law"=some (some (.ref 352)):=by kernel_rfl
 have F47:=@fk (kW w) 352 351 (KH.zs "law_tiewebs_k80_tie_webs_again" 532) "law" "law" (top 47) (by kernel_rfl) (by kernel_rfl) (by kernel_rfl)
 obtain⟨⟨ct,Pt⟩,z_tab⟩:=Kg.mp (show(PySem.W.tabIn (kW w) "law").isSome=true by kernel_rfl)
 have e:=hfa.symm.trans (Jz X G a47)
 cases e
 have T:Txt (kW w) mg:=⟨by kernel_rfl,by kernel_rfl,JO X G (by kernel_rfl),JO X G (by kernel_rfl),JO X G (by kernel_rfl),JO X G (by kernel_rfl),JO X G (by kernel_rfl),JO X G (by kernel_rfl),JO X G (by kernel_rfl),JO X G (by kernel_rfl),JO X G (by kernel_rfl),JO X G (by kernel_rfl),JO X G (by kernel_rfl),JO X G (by kernel_rfl),JO X G (by kernel_rfl),JO X G (by kernel_rfl),JO X G (by kernel_rfl),⟨428,Jz X G (by kernel_rfl)⟩,⟨497,Jz X G (by kernel_rfl)⟩,⟨520,Jz X G (by kernel_rfl)⟩⟩
 have GR:∀ base,GrX lP w (kW w) mg base:=fun base=>AJ FG X T.err aG z_gr C8 (by decide+kernel) (FG.binds fun _ _ _ _ _ _ us hl=>match us,hl with|[_,_,_],_=>rfl) rfl
 refine⟨PySem.W.fnOf "law" "law" (gx (top 47)) (cU (top 47)) (au (top 47)) .none .none .none (KH.zs "law_tiewebs_k80_tie_webs_again" 532) none (.ref 351) .none,fun s v=>.of_eq rfl,fun base GM BL=>?_⟩
 have D_is_whole:∀ base,Mod (kW w) mg base->DefX lP w (kW w) mg base 1 "is_whole" ["thing"] bF:=fun base GB=>ui F17 (Jz X G a17) T
 have D_is_pair:∀ base,Mod (kW w) mg base->DefX lP w (kW w) mg base 1 "is_pair" ["thing"] cM:=fun base GB=>vP F18 (Jz X G a18) T
 have D_is_rising:∀ base,Mod (kW w) mg base->DefX lP w (kW w) mg base 1 "is_rising" ["things"] dZ:=fun base GB=>sh F21 (Jz X G a21) T
 have D_pairs_of:∀ base,Mod (kW w) mg base->DefX lP w (kW w) mg base 1 "pairs_of" ["many"] cW:=fun base GB=>uj F25 (Jz X G a25) T
 have D_ties_meet:∀ base,Mod (kW w) mg base->DefX lP w (kW w) mg base 1 "ties_meet" ["one","other"] fx:=fun base GB=>si F28 (Jz X G a28) T
 have D__law_cell_at:∀ base,Mod (kW w) mg base->DefX lP w (kW w) mg base 1 "_law_cell_at" ["_law_script","_law_k"] cN:=fun base GB=>mM F35 (Jz X G a35) T
 have D__law_take:∀ base,Mod (kW w) mg base->DefX lP w (kW w) mg base 1 "_law_take" ["_law_state_here","_law_many"] aO:=fun base GB=>sj F37 (Jz X G a37) T
 have D__law_pairs:∀ base,Mod (kW w) mg base->DefX lP w (kW w) mg base 1 "_law_pairs" ["_law_many"] bI:=fun base GB=>pJ F38 (Jz X G a38) T
 have D__law_made:∀ base,Mod (kW w) mg base->DefX lP w (kW w) mg base 1 "_law_made" ["_law_web_here"] d0:=fun base GB=>sk F42 (Jz X G a42) T
 have D_is_place:∀ base,Mod (kW w) mg base->DefX lP w (kW w) mg base 2 "is_place" ["many","thing"] eR:=fun base GB=>uk F19 (Jz X G a19) T (D_is_whole base GB)
 have D_need_number:∀ base,Mod (kW w) mg base->DefX lP w (kW w) mg base 2 "need_number" ["thing","most"] br:=fun base GB=>oV F24 (Jz X G a24) T (D_is_whole base GB)
 have D__law_state:∀ base,Mod (kW w) mg base->DefX lP w (kW w) mg base 2 "_law_state" ["_law_script","_law_k"] dD:=fun base GB=>pK F36 (Jz X G a36) T (D__law_cell_at base GB)
 have D__law_mixed_row:∀ base,Mod (kW w) mg base->DefX lP w (kW w) mg base 2 "_law_mixed_row" ["_law_state_here","_law_things"] cb:=fun base GB=>lq F39 (Jz X G a39) T (D__law_take base GB)
 have D__law_great_web:∀ base,Mod (kW w) mg base->DefX lP w (kW w) mg base 2 "_law_great_web" ["_law_state_here"] bG:=fun base GB=>lr F41 (Jz X G a41) T (D__law_take base GB)
 have D__law_bad_web:∀ base,Mod (kW w) mg base->DefX lP w (kW w) mg base 2 "_law_bad_web" ["_law_state_here"] dm:=fun base GB=>mO F43 (Jz X G a43) T (D__law_take base GB)
 have D__law_due:∀ base,Mod (kW w) mg base->DefX lP w (kW w) mg base 2 "_law_due" ["_law_web_here","_law_times"] gp:=fun base GB=>um F46 (Jz X G a46) T (D__law_made base GB)
 have D_is_tie:∀ base,Mod (kW w) mg base->DefX lP w (kW w) mg base 3 "is_tie" ["many","thing"] jv:=fun base GB=>yH F20 (Jz X G a20) T (D_is_pair base GB) (D_is_place base GB)
 have D__law_web:∀ base,Mod (kW w) mg base->DefX lP w (kW w) mg base 3 "_law_web" ["_law_state_here","_law_most"] dn:=fun base GB=>uo F40 (Jz X G a40) T (D__law_take base GB) (D__law_pairs base GB) (D__law_mixed_row base GB)
 have D_is_web:∀ base,Mod (kW w) mg base->DefX lP w (kW w) mg base 4 "is_web" ["thing"] ir:=fun base GB=>yI F22 (Jz X G a22) T (D_is_whole base GB) (D_is_pair base GB) (D_is_tie base GB) (D_is_rising base GB)
 have D_need_web:∀ base,Mod (kW w) mg base->DefX lP w (kW w) mg base 5 "need_web" ["thing"] bR:=fun base GB=>uq F23 (Jz X G a23) T (D_is_web base GB)
 have D_need_few_ties:∀ base,Mod (kW w) mg base->DefX lP w (kW w) mg base 6 "need_few_ties" ["web"] cu:=fun base GB=>l8 F29 (Jz X G a29) T (GR base) (D_need_web base GB)
 have D_tie_web:∀ base,Mod (kW w) mg base->DefX lP w (kW w) mg base 7 "tie_web" ["web"] fS:=fun base GB=>vQ F30 (Jz X G a30) T (D_pairs_of base GB) (D_ties_meet base GB) (D_need_few_ties base GB)
 have D__law_same:∀ base,Mod (kW w) mg base->DefX lP w (kW w) mg base 7 "_law_same" ["_law_found","_law_due_here"] cT:=fun base GB=>sm F44 (Jz X G a44) T
 have D_made_again:∀ base,Mod (kW w) mg base->DefX lP w (kW w) mg base 8 "made_again" ["web","times"] bu:=fun base GB=>pM F33 (Jz X G a33) T (D_need_web base GB) (D_need_number base GB) (D_tie_web base GB)
 have D__law_refused:RefX lP w (kW w) mg 10 9 "_law_refused" ["_law_call"] bw:=mP F45 (Jz X G a45) T
 exact yJ F47 T GM BL (EM (show Dg (kW w)=true by kernel_rfl)) a47 z_tab D_made_again D__law_state D__law_take D__law_web D__law_great_web D__law_bad_web D__law_same D__law_refused cY D__law_due
end W
section
namespace W
open PySem PySem.Spec PyProof.Rows L2 S3 S4 S7
theorem Fm(K:PySem.W.Frag)(H:Hp)(a:Addr)(ns:List Int)(hT:TabsOk K H)(ron:Bp K H a (ns.map V.int)):Al K qp [.ref a] H (fun v _=>v= .bl true) fun _ _ _=>False:=by
 obtain⟨d,S',e,hd⟩:=GX (S:=[]) (ns:=ns)
 refine⟨[],[],[.ro (ns.map D.int)],⟨.nil,rfl,(fun k a xs h=>by cases h),hT⟩,.cons (.ro ron (nL ns)) .nil,?_⟩
 refine⟨.ok d,S',e,fun ι' H' _ _=>?_⟩
 subst hd
 intro v hv
 cases hv
 rfl
theorem walk{l:PySem.W.OpenLaw}{q:Program}{loose:List Str}{XP:(Str->Option Value)->Heap->Prop}{YP:World->Heap->Prop}{d:DefRec}{K:Params->PySem.W.Frag}(hn:l.most=some 63)(hdf:d.params.defaults=[])
  (hY:∀(w:World) (h:Heap),YP w h->(K w.params).In h) (nt:∀ w:World,PySem.W.noTabs (K w.params)=true)
  (htab:∀(w:World) (h:Heap),YP w h->∀ y∈bS,∀ c Q,PySem.W.tabIn (K w.params) y=some (c,Q)->PySem.W.CodeHd h c Q/\h.get? Q=some (PySem.W.tabObj #[]))
  (F:∀(w:World) (mg:Str->Option Value) (fa:Addr) (h:Heap),(K w.params).In h->h.Ns mainGlobals mg->mg d.name=some (.ref fa)->
   ∃ fd:FuncData,(∀(s:Shared) (u:Value),BindsTo s fd ⟨[u],[]⟩ [("_law_script",u)])/\∀ base:Heap,Mod (K w.params) mg base->BaseL (K w.params) mg base->FnOk l.prog w (K w.params) mg base (jT l.prog w) 11 fa fd ["_law_script"] (Al (K w.params) qp)):
  PySem.W.WalkO q loose XP YP l.row.toRowW d [] (fun f vs=>PySem.call f vs):=
 Ar (n:=63) (k:=11) (x:="_law_script") (sp:=fun w=>Al (K w.params) qp) hn (by decide) hdf ⟨rfl,by decide,by decide⟩ hY nt htab F fun w H a ns _ hO hS=>Fm (K w.params) H a ns hO hS
end W
open PySem PySem.W PyProof.Rows
set_option maxRecDepth 100000 in
set_option maxHeartbeats 0 in
theorem PySem.Challenge.cw_tiewebs_k80_tie_webs_again_holds : PySem.Challenge.rw_tiewebs_k80_tie_webs_again.Holds := by
 w_on;o_law
 refine holds_open (q:=KH.vq) (loose:=[]) (Xt:=KH.Xt0) (XP:=XL KH.vq []) (Yf:=Hook.obs (kmHook KH.K0 KH.as0 KH.as0_eq KH.ts0)) (Ya:=Hook.val (kmHook KH.K0 KH.as0 KH.as0_eq KH.ts0)) (YP:=Hook.says (kmHook KH.K0 KH.as0 KH.as0_eq KH.ts0)) (N:=7762) KH.left0 (Hook.of (kmHook KH.K0 KH.as0 KH.as0_eq KH.ts0)) (Hook.keeps (kmHook KH.K0 KH.as0 KH.as0_eq KH.ts0)) (fun s e=>xl_of s (Bool.and_eq_true_iff.mp e).1) XL.keeps (by rfl) (by rfl) (by rfl) (fun s e=>recFacts_of (Bool.and_eq_true_iff.mp e).2) (by rfl) (by first|assumption|decide+kernel) (by decide+kernel) ⟨rfl,rfl,rfl,rfl,rfl,by decide+kernel⟩ ?hw ?hc
 case hw=>w_witness2
 refine W.walk (l:=PySem.Challenge.rw_tiewebs_k80_tie_webs_again) rfl rfl (fun w h Y=>PySem.W.km_in_of Y) ?nt (fun w h Y=>S7.Ig (w:=w) ?ck Y) W.Je
 case nt=>intro w;kernel_rfl
 case ck=>kernel_rfl
end
