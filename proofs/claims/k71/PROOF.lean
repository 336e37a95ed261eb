import PyProof.Rows.All
import Wide.All
import OpenK.AllK
import Wide.FinOn
import PySem.Challenge.RW_tiewebs_k71_end_webs
import Lean
import PyProof.EqAt
import PyProof.EqKinds
import PyProof.TupleCall
import PyProof.SetScanFacts
import PyProof.EnumMake
import PyProof.Draws
import PyProof.ExcInit
import PyProof.ExcClass3
import PyProof.InstStore
import KE.KUnpack
set_option Elab.async false
set_option compiler.extract_closed false
set_option linter.all false
set_option maxRecDepth 100000
set_option maxHeartbeats 8000000
noncomputable section
abbrev JG:=@PySem.wpAny_bind
abbrev JH:=@PySem.Heap.get?_push_of_some
abbrev JI:=@List.length_map
abbrev JJ:=@PySem.wpAny_pure
abbrev JK:=@Nat.le_refl
abbrev JL:=@List.getElem?_eq_getElem
abbrev JM:=@List.length_append
abbrev JN:=@List.getElem?_eq_some_iff
abbrev JO:=@PySem.Heap.lt_size
abbrev JP:=@PySem.Heap.get?_push_size
abbrev JQ:=@Array.getElem?_eq_getElem
abbrev JR:=@List.mem_cons_of_mem
abbrev JS:=@List.getD_eq_getElem?_getD
abbrev JT:=@Nat.ne_of_lt
abbrev JU:=@List.size_toArray
abbrev JV:=@Nat.le_trans
abbrev JW:=@Nat.lt_of_lt_of_le
abbrev JX:=@List.mem_cons_self
abbrev JY:=@List.length_cons
abbrev JZ:=@decide_eq_true
abbrev J0:=@PySem.W.mg_of
abbrev J1:=@List.mem_append_right
abbrev J2:=@List.mem_cons
abbrev J3:=@List.map_cons
abbrev J4:=@Nat.zero_le
abbrev J5:=@List.mem_range
abbrev J6:=@List.getElem?_map
abbrev J7:=@List.append_assoc
abbrev J8:=@Option.some.inj
abbrev J9:=@Array.getElem?_eq_some_iff
abbrev Ka:=@List.getElem?_set_self
abbrev Kb:=@PySem.wpAny_mono
abbrev Kc:=@Array.getElem?_toList
abbrev Kd:=@List.append_nil
abbrev Ke:=@List.mem_of_getElem?
abbrev Kf:=@Int.toNat_natCast
abbrev Kg:=@List.all_eq_true
abbrev Kh:=@List.mem_map
abbrev Ki:=@PySem.W.mg_none_of
abbrev Kj:=@List.length_range
abbrev Kk:=@List.lookup_cons
abbrev Kl:=@List.getElem?_append_left
abbrev Km:=@Array.getD_eq_getD_getElem?
abbrev Kn:=@PySem.Heap.get?_update_other
abbrev Ko:=@PySem.wpAny_holding
abbrev Kq:=@PySem.wpAny_newObj_type
abbrev Kr:=@decide_eq_false
abbrev Ks:=@List.pairwise_cons
abbrev Kt:=@List.filterMap_cons
abbrev Ku:=@List.nodup_cons
abbrev Kv:=@List.map_append
abbrev Kw:=@List.flatMap_cons
abbrev Kx:=@PySem.Heap.get?_update_self
abbrev Ky:=@PySem.wpAny_standAt
abbrev Kz:=@PySem.W.kia_one
abbrev KB:=@PySem.wpAny_call_entry
abbrev KC:=@congrFun
abbrev KD:=@of_decide_eq_true
abbrev KF:=@decide_eq_true_eq
abbrev KG:=@PySem.Heap.get?_none_of_le
abbrev KI:=@List.getElem?_set_ne
abbrev KJ:=@List.map_map
abbrev KL:=@PySem.wpAny_field
abbrev KN:=@PySem.sizeLine_eq
abbrev KO:=@List.getElem?_eq_none
abbrev KP:=@PySem.PassesOwn.never
abbrev KQ:=@List.length_take
abbrev KR:=@PySem.Heap.size_push
abbrev KS:=@Nat.lt_succ_of_lt
abbrev KU:=@List.getElem_mem
abbrev KW:=@PySem.wpAny_truthy_bool
abbrev KY:=@Option.isSome_iff_exists
abbrev KZ:=@List.map_nil
abbrev K1:=@PyProof.Rows.callWith_type1
abbrev K2:=@PySem.W.kia_tup
abbrev K3:=@Int.zero_add
abbrev K4:=@Array.getElem?_eq_none
abbrev K5:=@PyProof.Rows.slot_tuple_getitem
abbrev K6:=@PySem.wpAny_setState_of
abbrev K7:=@PySem.Heap.SameBut.update
abbrev K8:=@PySem.wpAny_seqItems
abbrev K9:=@List.mem_filterMap
abbrev La:=@Bool.false_ne_true
abbrev Lc:=@PySem.wpAny_pyIter_tuple
abbrev Ld:=@PySem.Obj.data_mapFields
abbrev Le:=@List.range'_eq_map_range
abbrev Lf:=@Bool.and_eq_true
abbrev Lg:=@Nat.lt_irrefl
abbrev Lh:=@Nat.ne_of_gt
abbrev Li:=@PySem.F.slot_tuple_iterator_next
abbrev Lj:=@PySem.F.excBase_ValueError
abbrev Lk:=@Nat.le_of_lt
abbrev Ll:=@List.getElem?_toArray
abbrev Lm:=@PySem.wpAny_setField_rec
abbrev Ln:=@List.length_range'
abbrev Lo:=@PySem.Around.under_plainId
abbrev Lp:=@PySem.wpAny_passesOwn
abbrev Lq:=@List.mem_range'_1
abbrev Lr:=@PySem.AutoSeq1.wpAny_loadPart'
abbrev Ls:=@List.nil_append
abbrev Lu:=@PySem.codeAny_mono
abbrev Lv:=@PySem.mem_of_lookup
abbrev Lw:=@Array.length_toList
abbrev Lx:=@List.Perm.nodup_iff
abbrev Ly:=@PySem.Heap.get?_update_ne
abbrev Lz:=@List.filter_cons_of_pos
abbrev LA:=@List.filter_cons_of_neg
abbrev LB:=@Nat.lt_succ_self
abbrev LC:=@Nat.le_add_right
abbrev LD:=@PySem.wpAny_askSetting
abbrev LF:=@PySem.wpAny_isInstance
abbrev LG:=@Option.bind_some
abbrev LH:=@PySem.wpAny_setField
abbrev LJ:=@PySem.Heap.size_after_update
abbrev LK:=@PySem.wpAny_Call_Name_kw
abbrev LL:=@Int.emod_lt_of_pos
abbrev LM:=@List.mem_append
abbrev LN:=@PySem.wpAny_execs_nil
abbrev LP:=@Nat.le_succ
abbrev LQ:=@List.mem_iff_getElem?
abbrev LR:=@PySem.codeAny_builtin
abbrev LS:=@PySem.Obj.isFreed_of_fields
abbrev LU:=@Nat.succ_mul
abbrev LV:=@List.length_filter_le
abbrev LW:=@PySem.wpAny_attempt
abbrev LX:=@PySem.wpAny_loadPart_at
abbrev LY:=@List.cons.inj
abbrev LZ:=@List.getElem?_append_right
abbrev L3:=@List.mem_append_left
abbrev L4:=@Bool.and_eq_true_iff
abbrev L5:=@Bool.false_and
abbrev L6:=@List.drop_eq_getElem_cons
abbrev L7:=@List.getElem?_zip_eq_some
abbrev L8:=@Nat.succ_le_succ
abbrev L9:=@Bool.not_eq_true
abbrev Ma:=@List.getElem?_range
abbrev Mb:=@List.map_congr_left
abbrev Mc:=@PySem.wpAny_rule
abbrev Md:=@PySem.F.args_tuple_add_2
abbrev Me:=@PySem.wpAny_typeOf
abbrev Mf:=@Nat.le_of_eq
abbrev Mg:=@List.of_mem_zip
abbrev Mh:=@PySem.F.entry_tuple_add
abbrev Mi:=@List.length_set
abbrev Mj:=@Array.Perm.refl
abbrev Ml:=@Int.emod_nonneg
abbrev Mm:=@PyProof.Rows.F.plain_set_update_loop
abbrev Mn:=@List.getElem?_take
abbrev Mo:=@PySem.W.cellsFrom_some
abbrev Mp:=@PySem.F.slot_tuple_add
abbrev Mq:=@List.drop_eq_nil_of_le
abbrev Mr:=@List.take_of_length_le
abbrev Ms:=@PySem.W.kitx_list
abbrev Mt:=@PySem.W.kitx_dict
abbrev Mu:=@PySem.wpAny_call
abbrev Mv:=@Nat.le_of_succ_le
abbrev Mw:=@List.ext_getElem?
abbrev Mx:=@Prod.ext
abbrev My:=@congrArg
abbrev Mz:=@PySem.isSubtype_type
abbrev MA:=@PySem.isSubtype_stop
abbrev MB:=@List.length_singleton
abbrev MC:=@PySem.builtinLookup_eq_fast
abbrev MD:=@PySem.wpAny_forIn_list
abbrev ME:=@PySem.wpAny_pyIter_zip
abbrev MF:=@Array.mem_toList_iff
abbrev MG:=@PySem.Calls.evalArgs_plain
abbrev MH:=@List.range_eq_range'
abbrev MI:=@PySem.codeAny_call_builtin
abbrev MJ:=@PySem.wpAny_updateSeq_pair
abbrev MK:=@Bool.true_and
abbrev ML:=@PySem.F.args_tuple_iterator_next_1
abbrev MM:=@PySem.codeAny_of_tree
abbrev MN:=@PySem.wpAny_setEntries_of
abbrev MO:=@PySem.F.entry_tuple_iterator_next
abbrev MP:=@PySem.F.slot_zip_next
abbrev MQ:=@beq_false_of_ne
abbrev MR:=@PySem.Calls.Name_function_global
abbrev MS:=@List.length_eraseIdx_of_lt
abbrev MT:=@PyProof.Rows.assignInOrder_cons
abbrev MU:=@Array.find?_toList
abbrev MV:=@List.zip_cons_cons
abbrev MW:=@Nat.lt_trans
abbrev MX:=@List.all_map
abbrev MY:=@List.getElem?_drop
abbrev MZ:=@PySem.Code.quiet_builtin
abbrev M0:=@Classical.byContradiction
abbrev M1:=@List.pairwise_iff_getElem
abbrev M3:=@PySem.wpAny_letOwnedTupleGo_zip
abbrev M4:=@PySem.wpAny_pyIter_list
abbrev M5:=@PySem.W.kitx_none
abbrev M6:=@List.getElem?_take_of_lt
abbrev M7:=@PyProof.Rows.intsAre_of
abbrev M9:=@Nat.mod_lt
abbrev Na:=@Nat.lt_trichotomy
abbrev Nd:=@Bool.eq_false_iff
abbrev Nf:=@Array.getElem?_replicate
abbrev Ng:=@PySem.Obj.cls_mapFields
abbrev Nh:=@PySem.wpAny_pyIter_enum
abbrev Ni:=@PySem.wpAny_Call_ofName
abbrev Nk:=@PySem.plainId_quiet
abbrev Nl:=@PySem.wpAny_onRaise
abbrev Nm:=@Int.eq_ofNat_of_zero_le
abbrev Nn:=@PySem.wpAny_eqBool_int
abbrev Np:=@PySem.wpAny_execs_cons
abbrev Nq:=@PySem.noFill_tuple_add
abbrev Nr:=@List.length_drop
abbrev Nt:=@Nat.le_of_not_lt
abbrev Nu:=@Nat.succ_ne_self
abbrev Nv:=@List.mem_flatMap
abbrev Nw:=@List.flatMap_map
abbrev Nx:=@List.ext_getElem
abbrev Ny:=@Nat.not_lt_zero
abbrev Nz:=@PySem.pushCells_keeps
abbrev NA:=@PySem.typeLookup_type
abbrev NB:=@List.length_zip
abbrev NC:=@List.filter_map
abbrev ND:=@Bool.and_false
abbrev NF:=@PySem.wpAny_of_eq
abbrev NG:=@PySem.Within.cons
abbrev NH:=@List.map_id
abbrev NJ:=@Nat.not_lt
abbrev NK:=@beq_iff_eq
namespace KH
open PySem PySem.W PySem.Spec PyProof.Rows
def tp(i:Nat):Stmt:=PySem.Challenge.pw_tiewebs_k71_end_webs.main.body.getD i (.Pass ⟨0,0,0,0⟩)
def iC:Stmt->Stmt
 | .ClassDef _ _ _ (b::_) .. =>b
 |s=>s
def dA(s:Stmt):Arguments:=match s with
 | .FunctionDef _ a _ _ _ _ _ _ _ _=>a
 |_=>{posonlyargs:=[],args:=[],vararg:=none,kwonlyargs:=[],kw_defaults:=[],kwarg:=none,defaults:=[]}
def dB(s:Stmt):List Stmt:=match s with
 | .FunctionDef _ _ b _ _ _ _ _ _ _=>b
 |_=>[]
def dS(s:Stmt):Scope:=match s with
 | .FunctionDef _ _ _ _ _ _ sc _ _ _=>sc
 |_=>{kind:=.function,names:=[],isGenerator:=false,isCoroutine:=false}
def zs(x:String)(t:Nat):Value:=.str (Str.ofString x) t
def ze(P:Params)(x:String)(t:Nat)(v:Value):DictEntry:=⟨PyData.keyHash P (Str.ofString x),zs x t,v⟩
def zt(xs:Array Value):Obj:=⟨.type "tuple",none,.seq xs, #[]⟩
def zc(n q:String)(a:Nat)(l ac p5 p6 fl:Int)(r8:Value)(p10:Int)(r11 r13 r14 r15:Value)(p16:Int)(t:Nat):Obj:=⟨.type "code",none,.fields #[zs n a,zs q (a+1),zs "/claim/cut.py" (a+2),.int l 0,.int ac 0,.int p5 0,.int p6 0,.int fl 0,r8,.bool true,.int p10 0,r11,.none,r13,r14,r15,.int p16 0,.int l 0,zs "/claim/cut.py" t], #[]⟩
def zf(n q:String)(st:Stmt)(kV dc pm:Value)(an:Option Addr)(cd ct:Value):Data:=.func (W.fnOf (Str.ofString n) (Str.ofString q) (dA st) (dB st) (dS st) .none kV dc pm an cd ct)
def zg(n q:String)(st:Stmt):Obj:=⟨.none,none,.func {name:=Str.ofString n,qualname:=Str.ofString q,params:=dA st,body:=.stmts (dB st),scope:=dS st,globals:=0,closure:=[],defaults:=.none,kwdefaults:=.none}, #[]⟩
def z0:Obj:=⟨.none,none,.fields #[],#[]⟩
def zp:Obj:=⟨.type "builtin_function_or_method",none,.fields #[.builtin "type.__prepare__",.type "type"],#[]⟩
def zu(a:Nat):Obj:=⟨.type "super",none,.fields #[.ref a,.ref a,.ref a],#[]⟩
def zi(a:Nat):Obj:=⟨.type "builtin_function_or_method",none,.fields #[.builtin "object.__init_subclass__",.ref a],#[]⟩
def zr(a b:Nat)(v:Value):Obj:=⟨.type "frame",none,.plain,#[some (.ref a),some (.ref 3),some (.ref b),none,some v,none,some (.ref 0)]⟩
def zk(n:String)(a b c:Nat)(l:Int)(r:Nat)(m:Int)(s:Nat)(x y:Int)(t:Nat):Obj:=⟨.type "code",none,.fields #[zs n a,zs n b,zs "/claim/cut.py" c,.int l 0,.int 0 0,.int 0 0,.int 0 0,.int 0 0,.ref r,.bool false,.int m 0,.ref s,.none,.none,.none,.none,.int x 0,.int y 0,zs "/claim/cut.py" t],#[]⟩
def zC(P:Params)(n:String)(a t l:Nat):List Obj:=[zp,⟨(.type "dict"),none,(.dict #[ze P "__module__" (t+5) (zs "tiewebs.errors" 187),ze P "__qualname__" (t+7) (zs n (t+6)),ze P "__firstlineno__" (t+9) (.int l (t+8)),ze P "__static_attributes__" (t+10) (.ref (a+6))] 4),#[]⟩,zt #[],z0,zk n t (t+1) (t+2) l (a+2) 181 (a+3) (t+3) l (t+4),zr (a+4) (a+1) (zs "tiewebs.errors" 187),zt #[],⟨(.type "dict"),none,(.dict #[ze P "__module__" (t+5) (zs "tiewebs.errors" 187),ze P "__firstlineno__" (t+9) (.int l (t+8)),ze P "__static_attributes__" (t+10) (.ref (a+6)),ze P "__doc__" (t+11) .none] 2),#[]⟩,⟨(.type "type"),none,(.cls ⟨(Str.ofString n),[(.ref 24)],[(.ref (a+8)),(.ref 24),(.type "ValueError"),(.type "Exception"),(.type "BaseException"),(.type "object")],(a+7),(Str.ofString n),true,[],[],false,none,false⟩),#[some (.ref (a-1)),none,some (zs n (t-2)),some (zs n (t+6)),some (.builtin "ValueError.__new__"),some (.bool true)]⟩,zu (a+8),zi (a+8),zt #[(.ref 24)]]
def L1(P:Params):List Obj:=[boot_o_0 P,boot_o_1 P,boot_o_2 P,⟨(.type "dict"),none,(.dict #[ze P "__name__" 165 (zs "law_tiewebs_k71_end_webs" 514),ze P "__doc__" 166 .none,ze P "__package__" 167 .none,ze P "__loader__" 168 (.builtin "__main__.__loader__#opaque"),ze P "__spec__" 169 .none,ze P "__annotations__" 170 (.ref 6),ze P "__builtins__" 171 (.ref 4),ze P "__file__" 173 (zs "/claim/cut.py" 172),ze P "__cached__" 174 .none,ze P "WebError" 206 (.ref 24),ze P "NoWeb" 222 (.ref 37),ze P "NoPlace" 238 (.ref 49),ze P "NoPlaces" 254 (.ref 61),ze P "NoMap" 270 (.ref 73),ze P "NoSharing" 286 (.ref 85),ze P "NoRoot" 302 (.ref 97),ze P "NoNumber" 318 (.ref 109),ze P "NotJoined" 334 (.ref 121),ze P "NoTie" 350 (.ref 133),ze P "NoText" 366 (.ref 145),ze P "NoLine" 382 (.ref 157),ze P "NoDeed" 398 (.ref 169),ze P "TooGreat" 425 (.ref 188),ze P "MOST_PLACES" 429 (.int 14 428),ze P "is_whole" 436 (.ref 197),ze P "is_pair" 443 (.ref 204),ze P "is_place" 451 (.ref 211),ze P "is_tie" 461 (.ref 218),ze P "is_rising" 467 (.ref 223),ze P "is_web" 473 (.ref 228),ze P "need_web" 480 (.ref 235),ze P "pairs_of" 486 (.ref 240),ze P "MOST_TIES" 490 (.int 7 489),ze P "need_few_ties" 497 (.ref 247),ze P "ends_touch" 507 (.ref 254),ze P "end_web" 513 (.ref 259),ze P "_law_cell_at" 523 (.ref 266),ze P "_law_state" 532 (.ref 273),ze P "_law_take" 542 (.ref 280),ze P "_law_mixed" 552 (.ref 287),ze P "_law_few_ties" 569 (.ref 294),ze P "_law_drawn" 575 (.ref 299),ze P "_law_made" 586 (.ref 306),ze P "_law_named" 597 (.ref 313),ze P "_law_web" 603 (.ref 318),ze P "_law_refused" 609 (.ref 323),ze P "_law_same" 615 (.ref 328),ze P "_law_too_great" 626 (.ref 335),ze P "_law_bad_web" 634 (.ref 342),ze P "_law_ends" 646 (.ref 349),ze P "law" 652 (.ref 354)] 51),#[]⟩,boot_o_4 P,boot_o_5 P,boot_o_6 P,boot_o_7 P,boot_o_8 P,boot_o_9 P,boot_o_10 P,zt #[],⟨.none,none,(.fields #[(.int 2 0),(.int 0 0),(.ref 20),(.int 4 0),(.int 0 0),(.ref 33),(.int 6 0),(.int 0 0),(.ref 45),(.int 8 0),(.int 0 0),(.ref 57),(.int 10 0),(.int 0 0),(.ref 69),(.int 12 0),(.int 0 0),(.ref 81),(.int 14 0),(.int 0 0),(.ref 93),(.int 16 0),(.int 0 0),(.ref 105),(.int 18 0),(.int 0 0),(.ref 117),(.int 20 0),(.int 0 0),(.ref 129),(.int 22 0),(.int 0 0),(.ref 141),(.int 24 0),(.int 0 0),(.ref 153),(.int 26 0),(.int 0 0),(.ref 165),(.int 28 0),(.int 0 0),(.ref 177),(.int 35 0),(.int 0 0),(.ref 196),(.int 37 0),(.int 0 0),(.ref 203),(.int 39 0),(.int 0 0),(.ref 210),(.int 41 0),(.int 0 0),(.ref 217),(.int 46 0),(.int 0 0),(.ref 222),(.int 48 0),(.int 0 0),(.ref 227),(.int 55 0),(.int 0 0),(.ref 234),(.int 58 0),(.int 0 0),(.ref 239),(.int 62 0),(.int 0 0),(.ref 246),(.int 67 0),(.int 0 0),(.ref 253),(.int 69 0),(.int 0 0),(.ref 258),(.int 75 0),(.int 0 0),(.ref 265),(.int 79 0),(.int 0 0),(.ref 272),(.int 84 0),(.int 0 0),(.ref 279),(.int 93 0),(.int 0 0),(.ref 286),(.int 99 0),(.int 0 0),(.ref 293),(.int 112 0),(.int 0 0),(.ref 298),(.int 117 0),(.int 0 0),(.ref 305),(.int 125 0),(.int 0 0),(.ref 312),(.int 130 0),(.int 0 0),(.ref 317),(.int 144 0),(.int 0 0),(.ref 322),(.int 158 0),(.int 0 0),(.ref 327),(.int 166 0),(.int 0 0),(.ref 334),(.int 175 0),(.int 0 0),(.ref 341),(.int 181 0),(.int 0 0),(.ref 348),(.int 191 0),(.int 0 0),(.ref 353)]),#[]⟩,⟨(.type "code"),none,(.fields #[(zs "<module>" 182),(zs "<module>" 183),(zs "/claim/cut.py" 184),(.int 1 0),(.int 0 0),(.int 0 0),(.int 0 0),(.int 0 0),(.ref 11),(.bool false),(.int 181 0),(.ref 12),.none,.none,.none,.none,(.int 185 0),(.int 1 0),(zs "/claim/cut.py" 186)]),#[]⟩,zr 13 3 (zs "__main__" 164),zt #[(.type "ValueError")],zp,⟨(.type "dict"),none,(.dict #[ze P "__module__" 196 (zs "tiewebs.errors" 187),ze P "__qualname__" 198 (zs "WebError" 197),ze P "__firstlineno__" 200 (.int 2 199),ze P "__static_attributes__" 201 (.ref 22)] 4),#[]⟩,zt #[],z0,zk "WebError" 191 192 193 2 18 181 19 194 2 195,zr 20 17 (zs "tiewebs.errors" 187),zt #[],⟨(.type "dict"),none,(.dict #[ze P "__module__" 196 (zs "tiewebs.errors" 187),ze P "__firstlineno__" 200 (.int 2 199),ze P "__static_attributes__" 201 (.ref 22),ze P "__weakref__" 203 (.ref 25),ze P "__doc__" 204 .none] 3),#[]⟩,⟨(.type "type"),none,(.cls ⟨(Str.ofString "WebError"),[(.type "ValueError")],[(.ref 24),(.type "ValueError"),(.type "Exception"),(.type "BaseException"),(.type "object")],23,(Str.ofString "WebError"),true,[],[(.ref 37),(.ref 49),(.ref 61),(.ref 73),(.ref 85),(.ref 97),(.ref 109),(.ref 121),(.ref 133),(.ref 145),(.ref 157),(.ref 169),(.ref 188)],false,none,false⟩),#[some (.ref 15),none,some (zs "WebError" 189),some (zs "WebError" 197),some (.builtin "ValueError.__new__"),some (.bool true)]⟩,⟨(.type "getset_descriptor"),none,(.fields #[(zs "__weakref__" 202),(.ref 24),(.builtin "ExceptionGroup.__weakref__"),.none]),#[]⟩,zu 24,zi 24,zt #[(.ref 24)]]++zC P "NoWeb" 29 209 4++zC P "NoPlace" 41 225 6++zC P "NoPlaces" 53 241 8++zC P "NoMap" 65 257 10++zC P "NoSharing" 77 273 12++zC P "NoRoot" 89 289 14++zC P "NoNumber" 101 305 16++zC P "NotJoined" 113 321 18++zC P "NoTie" 125 337 20++zC P "NoText" 137 353 22++zC P "NoLine" 149 369 24++zC P "NoDeed" 161 385 26++[zp,⟨(.type "dict"),none,(.dict #[ze P "__module__" 406 (zs "tiewebs.errors" 187),ze P "__qualname__" 408 (zs "TooGreat" 407),ze P "__firstlineno__" 410 (.int 28 409),ze P "__init__" 419 (.ref 185),ze P "__static_attributes__" 422 (.ref 186)] 5),#[]⟩,zt #[],⟨.none,none,(.fields #[(.int 30 0),(.int 4 0),(.ref 184)]),#[]⟩,zk "TooGreat" 401 402 403 28 175 181 176 404 28 405,zr 177 174 (zs "tiewebs.errors" 187),zt #[],z0,zt #[(zs "self" 414),(zs "many" 415),(zs "most" 416)],zt #[],zg "__init__" "TooGreat.__init__" (iC (tp 14)),zc "__init__" "TooGreat.__init__" 411 30 3 0 0 3 (.ref 179) 181 (.ref 180) (.ref 181) (.ref 182) (.ref 183) 417 418,⟨.type "function",none,(zf "__init__" "TooGreat.__init__" (iC (tp 14)) .none .none (zs "tiewebs.errors" 187) none (.ref 184) .none),#[]⟩,zt #[(zs "many" 420),(zs "most" 421)],⟨(.type "dict"),none,(.dict #[ze P "__module__" 406 (zs "tiewebs.errors" 187),ze P "__firstlineno__" 410 (.int 28 409),ze P "__init__" 419 (.ref 185),ze P "__static_attributes__" 422 (.ref 186),ze P "__doc__" 423 .none] 2),#[]⟩,⟨(.type "type"),none,(.cls ⟨(Str.ofString "TooGreat"),[(.ref 24)],[(.ref 188),(.ref 24),(.type "ValueError"),(.type "Exception"),(.type "BaseException"),(.type "object")],187,(Str.ofString "TooGreat"),true,[],[],false,none,false⟩),#[some (.ref 172),none,some (zs "TooGreat" 399),some (zs "TooGreat" 407),some (.builtin "ValueError.__new__"),some (.bool true)]⟩,zu 188,zi 188,zt #[],z0,zt #[(zs "thing" 433)],zt #[],zg "is_whole" "is_whole" (tp 17),zc "is_whole" "is_whole" 430 35 1 0 0 3 (.ref 191) 181 (.ref 192) (.ref 193) (.ref 194) (.ref 195) 434 435,⟨.type "function",none,(zf "is_whole" "is_whole" (tp 17) .none .none (zs "tiewebs.webs" 426) none (.ref 196) .none),#[]⟩,zt #[],z0,zt #[(zs "thing" 440)],zt #[],zg "is_pair" "is_pair" (tp 18),zc "is_pair" "is_pair" 437 37 1 0 0 3 (.ref 198) 181 (.ref 199) (.ref 200) (.ref 201) (.ref 202) 441 442,⟨.type "function",none,(zf "is_pair" "is_pair" (tp 18) .none .none (zs "tiewebs.webs" 426) none (.ref 203) .none),#[]⟩,zt #[],z0,zt #[(zs "many" 447),(zs "thing" 448)],zt #[],zg "is_place" "is_place" (tp 19),zc "is_place" "is_place" 444 39 2 0 0 3 (.ref 205) 181 (.ref 206) (.ref 207) (.ref 208) (.ref 209) 449 450,⟨.type "function",none,(zf "is_place" "is_place" (tp 19) .none .none (zs "tiewebs.webs" 426) none (.ref 210) .none),#[]⟩,zt #[],z0,zt #[(zs "many" 455),(zs "thing" 456),(zs "low" 457),(zs "high" 458)],zt #[],zg "is_tie" "is_tie" (tp 20),zc "is_tie" "is_tie" 452 41 2 0 0 3 (.ref 212) 181 (.ref 213) (.ref 214) (.ref 215) (.ref 216) 459 460,⟨.type "function",none,(zf "is_tie" "is_tie" (tp 20) .none .none (zs "tiewebs.webs" 426) none (.ref 217) .none),#[]⟩,zt #[],z0,zg "is_rising" "is_rising" (tp 21),zc "is_rising" "is_rising" 462 46 1 0 0 3 (.ref 219) 181 (.ref 220) .none .none (.ref 221) 465 466,⟨.type "function",none,(zf "is_rising" "is_rising" (tp 21) .none .none (zs "tiewebs.webs" 426) none (.ref 222) .none),#[]⟩,zt #[],z0,zg "is_web" "is_web" (tp 22),zc "is_web" "is_web" 468 48 1 0 0 3 (.ref 224) 181 (.ref 225) .none .none (.ref 226) 471 472,⟨.type "function",none,(zf "is_web" "is_web" (tp 22) .none .none (zs "tiewebs.webs" 426) none (.ref 227) .none),#[]⟩,zt #[],z0,zt #[(zs "thing" 477)],zt #[],zg "need_web" "need_web" (tp 23),zc "need_web" "need_web" 474 55 1 0 0 3 (.ref 229) 181 (.ref 230) (.ref 231) (.ref 232) (.ref 233) 478 479,⟨.type "function",none,(zf "need_web" "need_web" (tp 23) .none .none (zs "tiewebs.webs" 426) none (.ref 234) .none),#[]⟩,zt #[],z0,zg "pairs_of" "pairs_of" (tp 24),zc "pairs_of" "pairs_of" 481 58 1 0 0 3 (.ref 236) 181 (.ref 237) .none .none (.ref 238) 484 485,⟨.type "function",none,(zf "pairs_of" "pairs_of" (tp 24) .none .none (zs "tiewebs.webs" 426) none (.ref 239) .none),#[]⟩,zt #[],z0,zt #[(zs "web" 494)],zt #[],zg "need_few_ties" "need_few_ties" (tp 27),zc "need_few_ties" "need_few_ties" 491 62 1 0 0 3 (.ref 241) 181 (.ref 242) (.ref 243) (.ref 244) (.ref 245) 495 496,⟨.type "function",none,(zf "need_few_ties" "need_few_ties" (tp 27) .none .none (zs "tiewebs.ties" 487) none (.ref 246) .none),#[]⟩,zt #[],z0,zt #[(zs "one" 503),(zs "other" 504)],zt #[],zg "ends_touch" "ends_touch" (tp 29),zc "ends_touch" "ends_touch" 500 67 2 0 0 3 (.ref 248) 181 (.ref 249) (.ref 250) (.ref 251) (.ref 252) 505 506,⟨.type "function",none,(zf "ends_touch" "ends_touch" (tp 29) .none .none (zs "tiewebs.midsts" 498) none (.ref 253) .none),#[]⟩,zt #[],z0,zg "end_web" "end_web" (tp 30),zc "end_web" "end_web" 508 69 1 0 0 3 (.ref 255) 181 (.ref 256) .none .none (.ref 257) 511 512,⟨.type "function",none,(zf "end_web" "end_web" (tp 30) .none .none (zs "tiewebs.midsts" 498) none (.ref 258) .none),#[]⟩,zt #[],z0,zt #[(zs "_law_script" 519),(zs "_law_k" 520)],zt #[],zg "_law_cell_at" "_law_cell_at" (tp 32),zc "_law_cell_at" "_law_cell_at" 516 75 2 0 0 3 (.ref 260) 181 (.ref 261) (.ref 262) (.ref 263) (.ref 264) 521 522,⟨.type "function",none,(zf "_law_cell_at" "_law_cell_at" (tp 32) .none .none (zs "law_tiewebs_k71_end_webs" 514) none (.ref 265) .none),#[]⟩,zt #[],z0,zt #[(zs "_law_script" 527),(zs "_law_k" 528),(zs "_law_cell" 529)],zt #[],zg "_law_state" "_law_state" (tp 33),zc "_law_state" "_law_state" 524 79 2 0 0 3 (.ref 267) 181 (.ref 268) (.ref 269) (.ref 270) (.ref 271) 530 531,⟨.type "function",none,(zf "_law_state" "_law_state" (tp 33) .none .none (zs "law_tiewebs_k71_end_webs" 514) none (.ref 272) .none),#[]⟩,zt #[],z0,zt #[(zs "_law_state_here" 536),(zs "_law_many" 537),(zs "_law_found" 538),(zs "_law_stirred" 539)],zt #[],zg "_law_take" "_law_take" (tp 34),zc "_law_take" "_law_take" 533 84 2 0 0 3 (.ref 274) 181 (.ref 275) (.ref 276) (.ref 277) (.ref 278) 540 541,⟨.type "function",none,(zf "_law_take" "_law_take" (tp 34) .none .none (zs "law_tiewebs_k71_end_webs" 514) none (.ref 279) .none),#[]⟩,zt #[],z0,zt #[(zs "_law_state_here" 546),(zs "_law_many" 547),(zs "_law_left" 548),(zs "_law_found" 549)],zt #[],zg "_law_mixed" "_law_mixed" (tp 35),zc "_law_mixed" "_law_mixed" 543 93 2 0 0 3 (.ref 281) 181 (.ref 282) (.ref 283) (.ref 284) (.ref 285) 550 551,⟨.type "function",none,(zf "_law_mixed" "_law_mixed" (tp 35) .none .none (zs "law_tiewebs_k71_end_webs" 514) none (.ref 286) .none),#[]⟩,zt #[],z0,zt #[(zs "_law_state_here" 556),(zs "_law_most" 557),(zs "_law_many" 558),(zs "_law_some" 559),(zs "_law_ties" 560),(zs "_law_at" 561),(zs "_law_one" 562),(zs "_law_other" 563),(zs "_law_turn" 564),(zs "_law_a" 565),(zs "_law_b" 566)],zt #[],zg "_law_few_ties" "_law_few_ties" (tp 36),zc "_law_few_ties" "_law_few_ties" 553 99 2 0 0 3 (.ref 288) 181 (.ref 289) (.ref 290) (.ref 291) (.ref 292) 567 568,⟨.type "function",none,(zf "_law_few_ties" "_law_few_ties" (tp 36) .none .none (zs "law_tiewebs_k71_end_webs" 514) none (.ref 293) .none),#[]⟩,zt #[],z0,zg "_law_drawn" "_law_drawn" (tp 37),zc "_law_drawn" "_law_drawn" 570 112 3 0 0 3 (.ref 295) 181 (.ref 296) .none .none (.ref 297) 573 574,⟨.type "function",none,(zf "_law_drawn" "_law_drawn" (tp 37) .none .none (zs "law_tiewebs_k71_end_webs" 514) none (.ref 298) .none),#[]⟩,zt #[],z0,zt #[(zs "_law_web_here" 579),(zs "_law_ties" 580),(zs "_law_found" 581),(zs "_law_a" 582),(zs "_law_b" 583)],zt #[],zg "_law_made" "_law_made" (tp 38),zc "_law_made" "_law_made" 576 117 1 0 0 3 (.ref 300) 181 (.ref 301) (.ref 302) (.ref 303) (.ref 304) 584 585,⟨.type "function",none,(zf "_law_made" "_law_made" (tp 38) .none .none (zs "law_tiewebs_k71_end_webs" 514) none (.ref 305) .none),#[]⟩,zt #[],z0,zt #[(zs "_law_web_here" 590),(zs "_law_names" 591),(zs "_law_ties" 592),(zs "_law_a" 593),(zs "_law_b" 594)],zt #[],zg "_law_named" "_law_named" (tp 39),zc "_law_named" "_law_named" 587 125 2 0 0 3 (.ref 307) 181 (.ref 308) (.ref 309) (.ref 310) (.ref 311) 595 596,⟨.type "function",none,(zf "_law_named" "_law_named" (tp 39) .none .none (zs "law_tiewebs_k71_end_webs" 514) none (.ref 312) .none),#[]⟩,zt #[],z0,zg "_law_web" "_law_web" (tp 40),zc "_law_web" "_law_web" 598 130 2 0 0 3 (.ref 314) 181 (.ref 315) .none .none (.ref 316) 601 602,⟨.type "function",none,(zf "_law_web" "_law_web" (tp 40) .none .none (zs "law_tiewebs_k71_end_webs" 514) none (.ref 317) .none),#[]⟩,zt #[],z0,zg "_law_refused" "_law_refused" (tp 41),zc "_law_refused" "_law_refused" 604 144 1 0 0 3 (.ref 319) 181 (.ref 320) .none .none (.ref 321) 607 608,⟨.type "function",none,(zf "_law_refused" "_law_refused" (tp 41) .none .none (zs "law_tiewebs_k71_end_webs" 514) none (.ref 322) .none),#[]⟩,zt #[],z0,zg "_law_same" "_law_same" (tp 42),zc "_law_same" "_law_same" 610 158 2 0 0 3 (.ref 324) 181 (.ref 325) .none .none (.ref 326) 613 614,⟨.type "function",none,(zf "_law_same" "_law_same" (tp 42) .none .none (zs "law_tiewebs_k71_end_webs" 514) none (.ref 327) .none),#[]⟩,zt #[],z0,zt #[(zs "_law_call" 619),(zs "_law_many" 620),(zs "_law_most" 621),(zs "_law_error" 622),(zs "e" 623)],zt #[],zg "_law_too_great" "_law_too_great" (tp 43),zc "_law_too_great" "_law_too_great" 616 166 3 0 0 3 (.ref 329) 181 (.ref 330) (.ref 331) (.ref 332) (.ref 333) 624 625,⟨.type "function",none,(zf "_law_too_great" "_law_too_great" (tp 43) .none .none (zs "law_tiewebs_k71_end_webs" 514) none (.ref 334) .none),#[]⟩,zt #[],z0,zt #[(zs "_law_state_here" 630),(zs "_law_some" 631)],zt #[],zg "_law_bad_web" "_law_bad_web" (tp 44),zc "_law_bad_web" "_law_bad_web" 627 175 1 0 0 3 (.ref 336) 181 (.ref 337) (.ref 338) (.ref 339) (.ref 340) 632 633,⟨.type "function",none,(zf "_law_bad_web" "_law_bad_web" (tp 44) .none .none (zs "law_tiewebs_k71_end_webs" 514) none (.ref 341) .none),#[]⟩,zt #[],z0,zt #[(zs "_law_web_here" 638),(zs "_law_ends_here" 639),(zs "_law_k" 640),(zs "_law_found" 641),(zs "_law_a" 642),(zs "_law_b" 643)],zt #[],zg "_law_ends" "_law_ends" (tp 45),zc "_law_ends" "_law_ends" 635 181 1 0 0 3 (.ref 343) 181 (.ref 344) (.ref 345) (.ref 346) (.ref 347) 644 645,⟨.type "function",none,(zf "_law_ends" "_law_ends" (tp 45) .none .none (zs "law_tiewebs_k71_end_webs" 514) none (.ref 348) .none),#[]⟩,zt #[],z0,zg "law" "law" (tp 46),zc "law" "law" 647 191 1 0 0 3 (.ref 350) 181 (.ref 351) .none .none (.ref 352) 650 651,⟨.type "function",none,(zf "law" "law" (tp 46) .none .none (zs "law_tiewebs_k71_end_webs" 514) none (.ref 353) .none),#[]⟩]
def Lb(P:Params):List Obj:=[boot_o_0 P,boot_o_1 P,boot_o_2 P,boot_o_3 P,boot_o_4 P,boot_o_5 P,boot_o_6 P,boot_o_7 P,boot_o_8 P,boot_o_9 P,boot_o_10 P,zt #[],z0,⟨(.type "code"),none,(.fields #[(zs "<module>" 182),(zs "<module>" 183),(zs "/claim/cut.py" 184),(.int 1 0),(.int 0 0),(.int 0 0),(.int 0 0),(.int 0 0),(.ref 11),(.bool false),(.int 181 0),(.ref 12),.none,.none,.none,.none,(.int 185 0),(.int 1 0),(zs "/claim/cut.py" 186)]),#[]⟩,zr 13 3 (zs "__main__" 164)]
def as0:List Addr:=[2,3,15,22,23,24,25,28,35,36,37,40,47,48,49,52,59,60,61,64,71,72,73,76,83,84,85,88,95,96,97,100,107,108,109,112,119,120,121,124,131,132,133,136,143,144,145,148,155,156,157,160,167,168,169,172,179,181,182,184,185,186,187,188,191,193,194,196,197,198,200,201,203,204,205,207,208,210,211,212,214,215,217,218,219,222,223,224,227,228,229,231,232,234,235,236,239,240,241,243,244,246,247,248,250,251,253,254,255,258,259,260,262,263,265,266,267,269,270,272,273,274,276,277,279,280,281,283,284,286,287,288,290,291,293,294,295,298,299,300,302,303,305,306,307,309,310,312,313,314,317,318,319,322,323,324,327,328,329,331,332,334,335,336,338,339,341,342,343,345,346,348,349,350,353,354]
def ts0:List Addr:=[351]
def vq:Program:={PySem.Challenge.pw_tiewebs_k71_end_webs with main:={PySem.Challenge.pw_tiewebs_k71_end_webs.main with body:=[tp 1,tp 2,tp 3,tp 4,tp 5,tp 6,tp 7,tp 8,tp 9,tp 10,tp 11,tp 12,tp 13,tp 14,tp 16,tp 17,tp 18,tp 19,tp 20,tp 21,tp 22,tp 23,tp 24,tp 26,tp 27,tp 29,tp 30,tp 32,tp 33,tp 34,tp 35,tp 36,tp 37,tp 38,tp 39,tp 40,tp 41,tp 42,tp 43,tp 44,tp 45,tp 46]}}
def alt:Bool->List Obj->List Obj
 |_,[]=>[]
 |true,a::r=>a::alt false r
 |false,_::r=>alt true r
def toT:Nat->List Obj->BT
 |0,_=>.nil
 |_+1,[]=>.nil
 |f+1,o::r=>.node o (toT f (alt true r)) (toT f (alt false r))
def pick:Nat->List Addr->List Obj->W.Frag
 |i,as,o::os=>match as with
  |a::r=>if Nat.beq i a then (a,o)::pick (i+1) r os else pick (i+1) (a::r) os
  |[]=>[]
 |_,_,[]=>[]
def K0(P:Params):W.Frag:=pick 0 as0 (L1 P)
theorem as0_eq:∀ P,as0=(K0 P).map (·.1):=fun _=>by kernel_rfl
abbrev pw:Program:=PySem.Challenge.pw_tiewebs_k71_end_webs
abbrev Xt0(s:Shared):Bool:=xlAt vq [] s && recOk (RowW.records (OpenRow.toRowW (OpenLaw.row PySem.Challenge.rw_tiewebs_k71_end_webs))) s
def lf:Life:={}
def en:Env:={scope:=pw.main.scope,locals:=mainNs,globals:=mainNs,cells:=[],code:=(.ref 13),frame:=some 14}
abbrev cE:Code:=.body (behindTheImports pw) en
abbrev Bf:List Frame:=[topFrame ⟨0,0,0,0⟩]
abbrev S0(w:World)(os:OsState):Shared:=⟨boot_heap w.params,Array.mk [],boot_drawn,boot_toks,os⟩
abbrev Sb(w:World)(os:OsState):SharedT:=⟨toT 12 (Lb w.params),15,lf,Array.mk [],⟨0,0,0,0⟩,187,os⟩
abbrev Sm(w:World)(os:OsState):SharedT:=⟨toT 12 (L1 w.params),355,lf,Array.mk [],⟨0,0,0,0⟩,653,os⟩
abbrev Sf(w:World)(os:OsState):Shared:=⟨⟨Array.mk (L1 w.params),lf⟩,Array.mk [],⟨0,0,0,0⟩,653,os⟩
theorem HR:∀ w,(fun os=>topGo treeTable pw w 11 (some (.ref 6)) 12 (S0 w os) (topStub pw))=fun os=>some ((Sb w os).abs,⟨denote treeTable cE,cE,⟨0,0,0,0⟩,Bf⟩):=fun w=>by kernel_rfl
theorem DQ:∀ w,(fun os=>segRun treeTable pw w 11 (some (.ref 6)) 1 1 (Sb w os).abs (blockOf (behindTheImports pw) en cE ⟨0,0,0,0⟩ Bf))=fun os=>some (.next,(Sb w os).abs,cE,⟨0,0,0,0⟩):=fun w=>by kernel_rfl
theorem Gf:∀ w,(fun os=>segRunT treeTable pw w 11 (some (.ref 6)) 1 3822 (Sb w os) (piecesOf (behindTheImports pw) en cE ⟨0,0,0,0⟩ Bf))=fun os=>some (.next,Sm w os,cE,⟨191,0,204,15⟩):=fun w=>by kernel_rfl
theorem HS:∀ w,(fun os=>topRun treeTable pw w 11 (some (.ref 6)) 2 (Sm w os).abs ⟨doneF .next,cE,⟨191,0,204,15⟩,Bf⟩)=fun os=>some (Sf w os):=fun w=>by kernel_rfl
theorem HU(w:World)(os:OsState):topRun treeTable pw w 11 (some (.ref 6)) (12+(1+(3822+2))) (S0 w os) (topStub pw)=some (Sf w os):=
 go_top (KC (HR w) os) (piece_block (KC (DQ w) os) (by
  have:=piece_app (rest:=[]) (segRun_of (KC (Gf w) os)) (piece_nil (KC (HS w) os));rw[Kd]at this;exact this))
theorem Gg:∀ w:World,((boot_heap w.params).isNs mainGlobals && (Array.mk []:Array GenState).size==0,(boot_heap w.params).objs.size,(boot_heap w.params).nsMap mainGlobals "__annotations__")=(true,11,(some (.ref 6))):=fun w=>by kernel_rfl
theorem Gh:∀ w os,(staticsOk (importedModules pw.main.body) (boot_heap w.params) (Sf w os).heap && namesBound pw (Sf w os).heap && gensDone (Sf w os) && laidKept (boot_heap w.params) (Sf w os).heap)=true:=fun w os=>by kernel_rfl
theorem HV:∀ w os,(openSeen vq [] (importedModules pw.main.body) Xt0 true (Sf w os)).1=(openGood vq []).1:=fun w os=>by kernel_rfl
theorem HW:∀ w os,(openSeen vq [] (importedModules pw.main.body) Xt0 true (Sf w os)).2.1=(openGood vq []).2.1:=fun w os=>by kernel_rfl
theorem HX:∀ w os,(openSeen vq [] (importedModules pw.main.body) Xt0 true (Sf w os)).2.2.1=(openGood vq []).2.2.1:=fun w os=>by kernel_rfl
theorem HY:∀ w os,(openSeen vq [] (importedModules pw.main.body) Xt0 true (Sf w os)).2.2.2.1=(openGood vq []).2.2.2.1:=fun w os=>by kernel_rfl
theorem HZ:∀ w os,(openSeen vq [] (importedModules pw.main.body) Xt0 true (Sf w os)).2.2.2.2.1=(openGood vq []).2.2.2.2.1:=fun w os=>by kernel_rfl
theorem Ia:∀ w os,(openSeen vq [] (importedModules pw.main.body) Xt0 true (Sf w os)).2.2.2.2.2.1=(openGood vq []).2.2.2.2.2.1:=fun w os=>by kernel_rfl
theorem Ib:∀ w os,(openSeen vq [] (importedModules pw.main.body) Xt0 true (Sf w os)).2.2.2.2.2.2.1=(openGood vq []).2.2.2.2.2.2.1:=fun w os=>by kernel_rfl
theorem Ie:∀ w os,(openSeen vq [] (importedModules pw.main.body) Xt0 true (Sf w os)).2.2.2.2.2.2.2.1=(openGood vq []).2.2.2.2.2.2.2.1:=fun w os=>by kernel_rfl
theorem Ig:∀ w os,(openSeen vq [] (importedModules pw.main.body) Xt0 true (Sf w os)).2.2.2.2.2.2.2.2=(openGood vq []).2.2.2.2.2.2.2.2:=fun w os=>by kernel_rfl
theorem Gi:∀ w os,Hook.obs (kmHook K0 as0 as0_eq ts0) (Sf w os)=Hook.val (kmHook K0 as0 as0_eq ts0) w:=fun w os=>by kernel_rfl
theorem Gj(w:World)(os:OsState):openSeen vq [] (importedModules pw.main.body) Xt0 true (Sf w os)=openGood vq []:=Mx (HV w os) (Mx (HW w os) (Mx (HX w os) (Mx (HY w os) (Mx (HZ w os) (Mx (Ia w os) (Mx (Ib w os) (Mx (Ie w os) (Ig w os))))))))
theorem left0:LeftO (OpenLaw.row PySem.Challenge.rw_tiewebs_k71_end_webs).prog vq [] Xt0 (Hook.obs (kmHook K0 as0 as0_eq ts0)) (Hook.val (kmHook K0 as0 as0_eq ts0)) 7768:=
 LeftO.of_pieces (p:=pw) (H₀:=boot_heap) (H₁:=fun P=>⟨Array.mk (L1 P),lf⟩) (gs₀:=Array.mk []) (gs₁:=Array.mk []) (d₀:=boot_drawn) (d₁:=⟨0,0,0,0⟩) (k₀:=boot_toks) (k₁:=653) (M:=12+(1+(3822+2))) (boot_open (p:=pw) (by kernel_rfl) (by decide) (fun s=>by kernel_rfl)) Gg HU (by decide) fun w=>funext fun os=>Mx (Gh w os) (Mx (Gj w os) (Gi w os))
end KH
section
namespace L2
open PySem PySem.Spec PyProof.Rows
abbrev Key:=Sum Int Str
def Ds:Key->Value->Bool
 | .inl k,v=>Value.isInt k v
 | .inr x,v=>Value.isStrOf x v
def Ih(w:World):Key->Int
 | .inl k=>hashInt k
 | .inr x=>hashStr w x
theorem cJ:∀{k:Key} {v:Value},Ds k v=true->(∃ i t,k=Sum.inl i/\v=Value.int i t)\/(∃ x t,k=Sum.inr x/\v=Value.str x t)
 | .inl i,v,h=>by
  obtain⟨t,e⟩:=Value.isInt_shape (k:=i) (v:=v) h;exact .inl ⟨i,t,rfl,e⟩
 | .inr x,v,h=>by
  obtain⟨t,e⟩:=Value.isStrOf_shape (x:=x) (v:=v) h;exact .inr ⟨x,t,rfl,e⟩
theorem DR(a b:Int):decide ((Sum.inl a:Key)=Sum.inl b)=(a==b):=by
 by_cases e:a=b
 ·subst e;simp
 ·have h:¬ (Sum.inl a:Key)=Sum.inl b:=fun q=>e (Sum.inl.inj q);rw[Kr h];exact(beq_eq_false_iff_ne.mpr e).symm
theorem DS(a b:Str):decide ((Sum.inr a:Key)=Sum.inr b)=decide (a=b):=by
 by_cases e:a=b
 ·subst e;simp
 ·have h:¬ (Sum.inr a:Key)=Sum.inr b:=fun q=>e (Sum.inr.inj q);rw[Kr h,Kr e]
theorem DT(a:Int)(b:Str):decide ((Sum.inl a:Key)=Sum.inr b)=false:=Kr (fun q=>nomatch q)
theorem DU(a:Str)(b:Int):decide ((Sum.inr a:Key)=Sum.inl b)=false:=Kr (fun q=>nomatch q)
def wb(prog:Program)(w:World):PySem.KeyKind prog w Key where
 is:=Ds
 hash:=Ih w
 inj:=fun v a b ha hb=>by
  rcases cJ ha with⟨i,t,rfl,rfl⟩|⟨x,t,rfl,rfl⟩
  ·rcases cJ hb with⟨j,u,rfl,e⟩|⟨y,u,rfl,e⟩
   ·injection e with e1 _;rw[e1]
   ·exact nomatch e
  ·rcases cJ hb with⟨j,u,rfl,e⟩|⟨y,u,rfl,e⟩
   ·exact nomatch e
   ·injection e with e1 _;rw[e1]
 byValue:=fun k v h=>by
  rcases cJ h with⟨i,t,rfl,rfl⟩|⟨x,t,rfl,rfl⟩<;>rfl
 pyHash:=fun hv h=>by
  rcases cJ hv with⟨i,t,rfl,rfl⟩|⟨x,t,rfl,rfl⟩
  ·exact wpAny_pyHash_int h
  ·exact wpAny_pyHash_str h
 eqBool:=fun hu hv h=>by
  rcases cJ hu with⟨i,t,rfl,rfl⟩|⟨x,t,rfl,rfl⟩
  ·rcases cJ hv with⟨j,u,rfl,rfl⟩|⟨y,u,rfl,rfl⟩
   ·rw[DR]at h;exact Nn h
   ·rw[DT]at h;exact SeqAt.EqAt.int_str i t y u _ _ _ _ h
  ·rcases cJ hv with⟨j,u,rfl,rfl⟩|⟨y,u,rfl,rfl⟩
   ·rw[DU]at h;exact SeqAt.EqAt.str_int x t j u _ _ _ _ h
   ·rw[DS]at h;exact wpAny_eqBool_str h
 «strs»:=fun k x t v h=>by
  rcases cJ h with⟨i,u,rfl,e⟩|⟨y,u,rfl,e⟩
  ·exact nomatch e
  ·injection e with e1 _;subst e1;cases v<;>rfl
end L2
namespace L2
open PySem PySem.Spec PyProof.Rows
inductive V where
 |non|bl (b:Bool)|int (i:Int)|str (x:Str)|byt (b:Array UInt8)|flt (b:UInt64)|ref (a:Addr)|ty (n:String)
 deriving DecidableEq
def RelV:V->Value->Prop
 | .non,u=>u=Value.none
 | .bl b,u=>u=Value.bool b
 | .int i,u=>∃ t,u=Value.int i t
 | .str x,u=>∃ t,u=Value.str x t
 | .byt b,u=>∃ t,u=Value.bytes b t
 | .flt b,u=>∃ t,u=Value.float b t
 | .ref a,u=>u=Value.ref a
 | .ty n,u=>u=Value.type n
abbrev bj:List V->List Value->Prop:=Paired RelV
theorem bj.length{xs:List V}{us:List Value}(r:bj xs us):xs.length=us.length:=Paired.length r
theorem bj.get:∀{xs:List V} {us:List Value} {i:Nat} {x:V},bj xs us->xs[i]? =some x->∃ u,us[i]? =some u/\RelV x u
 |_,_,_,_,.nil,e=>by simp at e
 |_,_,0,_,.cons r _,e=>by simp at e;subst e;exact⟨_,rfl,r⟩
 |_,_,i+1,x,.cons _ t,e=>by
  obtain⟨u,h1,h2⟩:=bj.get (i:=i) (x:=x) t (by simpa using e)
  exact⟨u,by simpa using h1,h2⟩
theorem bj.set(r:RelV x u):∀{xs:List V} {us:List Value} (i:Nat),bj xs us->bj (xs.set i x) (us.set i u)
 |_,_,_,.nil=>.nil
 |_,_,0,.cons _ t=>.cons r t
 |_,_,i+1,.cons q t=>.cons q (bj.set r i t)
theorem bj.append:∀{xs ys:List V} {us ws:List Value},bj xs us->bj ys ws->bj (xs++ys) (us++ws)
 |_,_,_,_,.nil,s=>s
 |_,_,_,_,.cons r t,s=>.cons r (bj.append t s)
theorem bj.take:∀{xs:List V} {us:List Value} (n:Nat),bj xs us->bj (xs.take n) (us.take n)
 |_,_,0,_=>.nil
 |_,_,_+1,.nil=>.nil
 |_,_,n+1,.cons r t=>.cons r (bj.take n t)
theorem bj.drop:∀{xs:List V} {us:List Value} (n:Nat),bj xs us->bj (xs.drop n) (us.drop n)
 |_,_,0,r=>r
 |_,_,_+1,.nil=>.nil
 |_,_,n+1,.cons _ t=>bj.drop n t
def qX:Option V->Option Value->Prop
 |some v,some u=>RelV v u
 |none,none=>True
 |_,_=>False
def KV{κ:Type}:List (κ×V)->List (κ×Value)->Prop:=Paired fun(p:κ×V) (q:κ×Value)=>p.1=q.1/\RelV p.2 q.2
def kV:Key->V
 | .inl i=>.int i
 | .inr x=>.str x
inductive HO where
 |lst (xs:List V)
 |tup (xs:List V)
 |dK (kvs:List (Key×V))|dT (kvs:List (List Key×V))
 |set (S:Int->Bool) (n:Nat)
 |ins (C dx:Addr) (fs:List (Str×V))
 |own (x:Addr)
 |xd (fs:List (Str×V))
 |met (f x:Addr)
 |rng (lo hi:Int)
 |frz (o:Obj) (u:HO)
 |tbl (ps:Array Value)
 |ext (φ:Heap->Prop)
abbrev Hp:=Addr->Option HO
def upd(H:Hp)(a:Addr)(o:HO):Hp:=fun b=>if b=a then some o else H b
theorem aN:upd H a o a=some o:=by unfold upd;rw[if_pos rfl]
theorem aB{H:Hp}(h:b≠a):upd H a o b=H b:=by unfold upd;rw[if_neg h]
theorem qY:upd (upd H a o) a u=upd H a u:=by
 funext b;unfold upd;split<;>rfl
theorem aH{H:Hp}(h:H a=some o)(h':H b=none):a≠b:=by
 intro e;subst e;rw[h]at h';cases h'
section
variable (P:Program)(w:World)
def bo(H:Hp)(h:Heap)(a:Addr):HO->Prop
 | .lst xs=>xs.length<=sizeLine/\∃(its:List Value) (n:Nat),bj xs its/\h.get? a=some {cls:=.type "list",data:=.seq its.toArray n}
 | .tup xs=>xs.length<=sizeLine/\∃ its:List Value,bj xs its/\IsTup h a its.toArray
 | .dK kvs=>kvs.length<=sizeLine/\(a==sysModules)=false/\∃ vs,KV kvs vs/\h.DictOf (wb P w) a vs
 | .dT kvs=>kvs.length<=sizeLine/\(a==sysModules)=false/\∃ xs:List (List Key×Addr×Value),
   Paired (fun(p:List Key×V) (q:List Key×Addr×Value)=>p.1=q.1/\H q.2.1=some (.tup (p.1.map kV))/\RelV p.2 q.2.2) kvs xs/\
   ∃ o es ep,h.get? a=some o/\o.ExactDict/\o.data= .dict es ep/\es.toList=xs.map (entryOfKey (tupleKind (wb P w)))/\(xs.map (·.1)).Nodup
 | .set S n=>h.SetOf (intKind P w) a S n
 | .ins C dx fs=>H dx=some (.own a)/\fs.length<=1000/\dx≠a/\h.get? a=some (W.instObj C dx)/\
   ∃ mA,h.Ns1 dx mA/\(∀ f,qX (fs.lookup f) (mA f))/\PySem.Within mA (fs.map (·.1))
 | .own _=>∃ o,h.get? a=some o
 | .xd fs=>∃ mA,h.Ns1 a mA/\∀ f,qX (fs.lookup f) (mA f)
 | .rng lo hi=>∃ t u v,h.get? a=some {cls:=.type "range",data:=.fields #[.int lo t,.int hi u,.int 1 v]}
 | .frz o u=>h.get? a=some o/\bo H h a u
 | .tbl ps=>h.get? a=some {cls:=.none,data:=.fields ps}
 | .met f x=>h.get? a=some (W.methodObj (.ref f) (.ref x))
 | .ext φ=>φ h/\(∃ o,h.get? a=some o)/\∀ h1 h2:Heap,φ h1->(∀ o,h1.get? a=some o->h2.get? a=some o)->φ h2
def fP(H:Hp)(h:Heap):Prop:=∀ a o,H a=some o->bo P w H h a o
end
section
variable {P:Program}{w:World}{H H':Hp}{h h':Heap}{a:Addr}{o:HO}
theorem bo.lt(x:bo P w H h a o):a<h.objs.size:=by
 cases o with
 |lst xs=>obtain⟨_,_,_,_,e⟩:=x;exact JO e
 |tup xs=>obtain⟨_,_,_,p⟩:=x;exact p.lt
 |dK kvs=>obtain⟨_,_,_,_,o,_,_,e,_⟩:=x;exact JO e
 |dT kvs=>obtain⟨_,_,_,_,o,_,_,e,_⟩:=x;exact JO e
 |set S n=>obtain⟨o,_,_,_,e,_⟩:=x;exact JO e
 |ins C dx fs=>obtain⟨_,_,_,e,_⟩:=x;exact JO e
 |own y=>obtain⟨_,e⟩:=x;exact JO e
 |xd fs=>obtain⟨_,⟨_,_,_,e,_⟩,_⟩:=x;exact JO e
 |rng lo hi=>obtain⟨_,_,_,e⟩:=x;exact JO e
 |frz ob u=>obtain⟨e,_⟩:=x;exact JO e
 |tbl ps=>exact JO (show h.get? a=some _ from x)
 |met f y=>exact JO (show h.get? a=some _ from x)
 |ext φ=>obtain⟨_,⟨_,e⟩,_⟩:=x;exact JO e
theorem Paired.mapP{α β:Type}{F G:α->β->Prop}:∀{l₁:List α} {l₂:List β},Paired F l₁ l₂->(∀ a b,F a b->G a b)->Paired G l₁ l₂
 |_,_,.nil,_=>.nil
 |_,_,.cons r t,f=>.cons (f _ _ r) (Paired.mapP t f)
theorem bo.stay(x:bo P w H h a o)(k:∀ b u,(b=a\/H b=some (.own a))->h.get? b=some u->h'.get? b=some u)
  (ho:∀ b,H b=some (.own a)->H' b=some (.own a)) (ht:∀ b xs,H b=some (.tup xs)->H' b=some (.tup xs)):bo P w H' h' a o:=by
 induction o with
 |lst xs=>obtain⟨z,its,n,r,e⟩:=x;exact⟨z,its,n,r,k _ _ (.inl rfl) e⟩
 |tup xs=>obtain⟨z,its,r,ob,e,c⟩:=x;exact⟨z,its,r,ob,k _ _ (.inl rfl) e,c⟩
 |dK kvs=>obtain⟨z,y,vs,r,ob,es,ep,e,c⟩:=x;exact⟨z,y,vs,r,ob,es,ep,k _ _ (.inl rfl) e,c⟩
 |dT kvs=>
  obtain⟨z,y,xs,r,ob,es,ep,e,c⟩:=x;exact⟨z,y,xs,Paired.mapP r fun p q z=>⟨z.1,ht _ _ z.2.1,z.2.2⟩,ob,es,ep,k _ _ (.inl rfl) e,c⟩
 |set S n=>obtain⟨ob,es,ep,t,e,c⟩:=x;exact⟨ob,es,ep,t,k _ _ (.inl rfl) e,c⟩
 |ins C dx fs=>
  obtain⟨d,z,ne,e,mA,⟨od,es,ep,e2,c⟩,r⟩:=x;exact⟨ho _ d,z,ne,k _ _ (.inl rfl) e,mA,⟨od,es,ep,k _ _ (.inr d) e2,c⟩,r⟩
 |own y=>obtain⟨ob,e⟩:=x;exact⟨ob,k _ _ (.inl rfl) e⟩
 |xd fs=>obtain⟨mA,⟨od,es,ep,e,c⟩,r⟩:=x;exact⟨mA,⟨od,es,ep,k _ _ (.inl rfl) e,c⟩,r⟩
 |rng lo hi=>obtain⟨t,u,v,e⟩:=x;exact⟨t,u,v,k _ _ (.inl rfl) e⟩
 |frz ob u ih=>obtain⟨e,q⟩:=x;exact⟨k _ _ (.inl rfl) e,ih q⟩
 |tbl ps=>
  have e:h.get? a=some {cls:=.none,data:=.fields ps}:=x;show h'.get? a=some {cls:=.none,data:=.fields ps};exact k a _ (.inl rfl) e
 |met f y=>
  have e:h.get? a=some (W.methodObj (.ref f) (.ref y)):=x;show h'.get? a=some (W.methodObj (.ref f) (.ref y));exact k a _ (.inl rfl) e
 |ext φ=>obtain⟨p,⟨o,e⟩,st⟩:=x;exact⟨st _ _ p fun o q=>k _ _ (.inl rfl) q,⟨o,k _ _ (.inl rfl) e⟩,st⟩
theorem fP.lt(x:fP P w H h)(e:H a=some o):a<h.objs.size:=(x a o e).lt
theorem fP.fresh(x:fP P w H h)(e:h.objs.size<=a):H a=none:=by
 cases q:H a with
 |none=>rfl
 |some u=>exact absurd (JW (x.lt q) e) (Lg _)
theorem fP.kept(x:fP P w H h)(k:∀ b u,h.get? b=some u->h'.get? b=some u):fP P w H h':=fun a o e=>
 (x a o e).stay (fun b u _ q=>k b u q) (fun _ q=>q) fun _ _ q=>q
theorem fP.laid(x:fP P w H h)(k:∀ b u,h.get? b=some u->h'.get? b=some u)(hp:h.objs.size<=a)(Z:bo P w (upd H a o) h' a o):fP P w (upd H a o) h':=fun b u e=>by
 have hn:=x.fresh hp;by_cases hb:b=a
 ·subst hb;rw[aN]at e;cases e;exact Z
 ·rw[aB hb]at e;exact(x b u e).stay (fun c v _ q=>k c v q) (fun c q=>by rw[aB (aH q hn)];exact q) fun c xs q=>by rw[aB (aH q hn)];exact q
end
def Rd(H:Hp)(a:Addr)(u:HO):Prop:=H a=some u\/∃ o,H a=some (.frz o u)
theorem Rd.ok{P:Program}{w:World}{H:Hp}{h:Heap}{a:Addr}{u:HO}(r:Rd H a u)(x:fP P w H h):bo P w H h a u:=by
 rcases r with r|⟨o,r⟩
 ·exact x a u r
 ·obtain⟨_,q⟩:=x a _ r;exact q
def HF:Option HO->Prop
 |some (.lst _)=>True
 |some (.dK _)=>True
 |some (.dT _)=>True
 |some (.set _ _)=>True
 |some (.ins _ _ _)=>True
 |some (.ext _)=>True
 |_=>False
section
variable {P:Program}{w:World}{H:Hp}{h h':Heap}{x e:Addr}{o':HO}
theorem fP.write(ok:fP P w H h)(mu:HF (H x))(he:e=x\/H e=some (.own x))(k:∀ b u,b≠e->h.get? b=some u->h'.get? b=some u)(O:∃ u,h'.get? e=some u)
  (U:bo P w (upd H x o') h' x o'):fP P w (upd H x o') h':=fun b u q=>by
 have Z:∀ c y,H c=some (.own y)->c≠x:=fun c y r z=>by subst z;rw[r]at mu;exact mu
 have Y:∀ c xs,H c=some (.tup xs)->c≠x:=fun c xs r z=>by subst z;rw[r]at mu;exact mu
 by_cases hb:b=x
 ·subst hb;rw[aN]at q;cases q;exact U
 ·rw[aB hb]at q;by_cases hbe:b=e
  ·have q':H b=some (.own x):=by
    rcases he with z|z
    ·exact absurd (hbe.trans z) hb
    ·rw[hbe];exact z
   rw[q]at q';cases q';obtain⟨v,hv⟩:=O;exact⟨v,by rw[hbe];exact hv⟩
  ·refine(ok b u q).stay (fun c v hc r=>k c v ?_ r) (fun c r=>by rw[aB (Z c b r)];exact r) fun c xs r=>by rw[aB (Y c xs r)];exact r
   rcases hc with rfl|hc
   ·exact hbe
   ·rintro rfl;rcases he with z|z
    ·exact Z c b hc z
    ·rw[hc]at z;cases z;exact hb rfl
end
structure Un(fs ex:List Addr)(H H':Hp)(h h':Heap):Prop where
 keep:∀ b o,h.get? b=some o->H b=none->b ∉ fs->b ∉ ex->h'.get? b=some o
 slot:∀ b o,h.get? b=some o->H b=none->b∈fs->b ∉ ex->∃ sl,h'.get? b=some {o with slots:=sl}
 free:∀ b o,h.get? b=some o->H b=none->b ∉ ex->H' b=none
 there:∀ b o,h.get? b=some o->b ∉ ex->∃ o',h'.get? b=some o'
 tups:∀ b xs,H b=some (.tup xs)->H' b=some (.tup xs)
 frzs:∀ b o u,H b=some (.frz o u)->H' b=some (.frz o u)
 tbls:∀ b ps,H b=some (.tbl ps)->∃ more,H' b=some (.tbl (ps++more))
section
variable {fs fs' ex ex':List Addr}{H H1 H2:Hp}{h h1 h2 h':Heap}{a x e:Addr}{o:HO}
theorem Un.any(u:Un fs ex H H1 h h1)(q:h.get? b=some ob)(n:H b=none)(hx:b ∉ ex):∃ sl,h1.get? b=some {ob with slots:=sl}:=by
 by_cases hb:b∈fs
 ·exact u.slot b ob q n hb hx
 ·exact⟨ob.slots,u.keep b ob q n hb hx⟩
theorem Un.kept(k:∀ b u,h.get? b=some u->h'.get? b=some u):Un fs ex H H h h':=
 ⟨fun b ob q _ _ _=>k b ob q,fun b ob q _ _ _=>⟨ob.slots,k b ob q⟩,fun _ _ _ n _=>n,fun b ob q _=>⟨ob,k b ob q⟩,fun _ _ q=>q,fun _ _ _ q=>q,fun _ ps q=>⟨#[],by rw[q];simp⟩⟩
theorem Un.refl:Un fs ex H H h h:=Un.kept fun _ _ q=>q
theorem Un.laid(k:∀ b u,h.get? b=some u->h'.get? b=some u)(hp:h.objs.size<=a)(hn:H a=none):Un fs ex H (upd H a o) h h' where
 keep:=fun b u q _ _ _=>k b u q
 slot:=fun b u q _ _ _=>⟨u.slots,k b u q⟩
 free:=fun b u q n _=>by rw[aB (JT (JW (JO q) hp))];exact n
 there:=fun b u q _=>⟨u,k b u q⟩
 tups:=fun b xs q=>by rw[aB (aH q hn)];exact q
 frzs:=fun b u xs q=>by rw[aB (aH q hn)];exact q
 tbls:=fun b ps q=>⟨#[],by rw[aB (aH q hn),q];simp⟩
theorem Un.write(mu:HF (H x))(he:e=x\/H e=some (.own x))(k:∀ b u,b≠e->h.get? b=some u->h'.get? b=some u)(Z:∃ u,h'.get? e=some u):Un fs ex H (upd H x o) h h':=by
 have hx:∀ b,H b=none->b≠x:=fun b n z=>by subst z;rw[n]at mu;exact mu
 have hb:∀ b,H b=none->b≠e:=fun b n z=>by
  subst z;rcases he with r|r
  ·exact hx b n r
  ·rw[n]at r;cases r
 have hm:∀ b u,H b=some u->¬ HF (some u)->b≠x:=fun b u q nm z=>by subst z;rw[q]at mu;exact nm mu
 refine⟨fun b u q n _ _=>k b u (hb b n) q,fun b u q n _ _=>⟨u.slots,k b u (hb b n) q⟩,fun b u q n _=>by rw[aB (hx b n)];exact n,fun b u q _=>?_,
  fun b xs q=>by rw[aB (hm b _ q fun z=>z)];exact q,fun b u xs q=>by rw[aB (hm b _ q fun z=>z)];exact q,fun b ps q=>⟨#[],by rw[aB (hm b _ q fun z=>z),q];simp⟩⟩
 by_cases hbe:b=e
 ·subst hbe;exact Z
 ·exact⟨u,k b u hbe q⟩
end
def HG(h:Heap)(H:Hp):List Addr:=(List.range h.objs.size).filter fun a=>(H a).isSome
def j6(h:Heap)(H:Hp):Heap:=W.hideAll h (HG h H)
theorem lG(h:Heap)(H:Hp):(j6 h H).objs.size=h.objs.size:=W.hideAll_size _ _
theorem kK{h:Heap}{H:Hp}(e:h.get? b=some o)(n:H b=none):(j6 h H).get? b=some o:=
 W.hideAll_get _ e fun hm=>by
  have q:(H b).isSome=true:=(List.mem_filter.mp hm).2;rw[n]at q;simp at q
theorem qZ{H:Hp}(e:(j6 h H).get? b=some o):h.get? b=some o/\H b=none:=by
 have e':h.get? b=some o:=W.of_hideAll (HG h H) e;refine⟨e',?_⟩;cases q:H b with
 |none=>rfl
 |some x=>
  have hm:b∈HG h H:=List.mem_filter.mpr ⟨J5.mpr (JO e'),by simp[q]⟩
  have z:(j6 h H).get? b=none:=W.hideAll_none (HG h H) hm;rw[z]at e;cases e
def kL(g h:Heap)(L:Addr):List (Addr×Obj):=(List.range h.objs.size).filterMap fun a=>if a=L\/(g.get? a).isSome=true then none else (h.get? a).map fun o=>(a,o)
theorem sY{g h:Heap}(h1:a≠L)(h2:g.get? a=none)(h3:h.get? a=some o):(a,o)∈kL g h L:=
 K9.mpr ⟨a,J5.mpr (JO h3),by simp[h1,h2,h3]⟩
theorem nF(hp:p∈kL g h L):p.1≠L/\g.get? p.1=none/\h.get? p.1=some p.2:=by
 obtain⟨b,_,e⟩:=K9.mp hp;split at e
 ·cases e
 ·rename_i hn
  cases q:h.get? b with
  |none=>rw[q]at e;simp at e
  |some u=>
   rw[q]at e;simp only[Option.map_some,Option.some.injEq]at e;subst e;refine⟨fun z=>hn (.inl z),?_,q⟩;show g.get? b=none;cases r:g.get? b with
   |none=>rfl
   |some v=>exact(hn (.inr (by simp[r]))).elim
def rest(g h:Heap)(L d:Addr):List (Addr×Obj):=(kL g h L).filter fun p=>decide (p.1≠d)
theorem nG:News g L h (kL g h L):=fun p hp=>let ⟨a,b,c⟩:=nF hp;⟨c,a,b⟩
end L2
namespace L2
open PySem PySem.Spec PyProof.Rows
structure Mod(K:W.Frag)(mg:Str->Option Value)(base:Heap):Prop where
 kin:K.In base
 glob:base.Ns mainGlobals mg
 blt:∃ mb,base.Ns builtinsNs mb/\∀ x:Str,x≠"__name__"->mb x=bootBuiltins x
 nolimit:base.NoLimit
structure Cx where
 prog:Program
 w:World
 K:W.Frag
 mg:Str->Option Value
 base:Heap
 A:Around
 N:List Str
 s₀:Shared
 H₀:Hp
 env:Env
 outer:List Env
 stack:List Env
 ex:List Addr
 fn:Str->Bool
 calm:Bool
 pn:List (Addr×Obj)
 xe:Value->Shared->Prop
def jj(l:List Env):List Addr:=l.filterMap (·.frame)
abbrev Cx.fs(X:Cx):List Addr:=jj X.outer
def xy(sc:Scope)(x:Str):Prop:=sc.names.lookup x=some .local\/sc.names.lookup x=some .cell\/sc.names.lookup x=some .free
def Loc(sc:Scope)(x:Str):Prop:=sc.names.lookup x=some .local\/sc.names.lookup x=some .cell
def Look(env:Env)(h:Heap)(m:Str->Option Value)(x:Str)(u:Value):Prop:=
 (env.kindOf x=some .local/\m x=some u)\/((env.kindOf x=some .cell\/env.kindOf x=some .free)/\∃ c,env.cells.lookup x=some c/\h.IsCell c (some u))
structure Cx.Ok(X:Cx):Prop where
 mod:Mod X.K X.mg X.base
 kind:X.env.scope.kind= .function
 glob:X.env.globals=mainGlobals
 blt:X.env.builtins=builtinsNs
 above:X.s₀.heap.objs.size<=X.env.locals
 inj:∀ x y c,X.env.cells.lookup x=some c->X.env.cells.lookup y=some c->x=y
 has:∀ x,(X.env.kindOf x=some .cell\/X.env.kindOf x=some .free)->∃ c,X.env.cells.lookup x=some c
 cab:∀ x c,X.fn x=true->X.env.cells.lookup x=some c->X.s₀.heap.objs.size<=c
 hd:X.calm=true->X.A.handled=none
 frames:X.A.frames=some X.stack
 stk:X.stack=X.outer\/(X.stack=X.env::X.outer/\X.env.frame=some X.env.locals)
 exf:∀ b∈X.ex,b≠X.env.locals/\∀ x c,X.env.cells.lookup x=some c->c≠b
 bs:∀ b o,X.base.get? b=some o->X.s₀.heap.get? b=some o/\X.H₀ b=none
 bsz:X.base.objs.size<=X.s₀.heap.objs.size
 noex:∀ b o,X.base.get? b=some o->b ∉ X.ex
 exfs:∀ b∈X.ex,b ∉ X.fs
 funs:X.s₀.heap.FunFrames X.base X.outer
 frf:∀ b∈X.fs,X.H₀ b=none
structure Inv(X:Cx)(pins:List (Addr×Obj))(σ:List (Option V))(H:Hp)(s:Shared):Prop where
 ok:X.Ok
 os:s.os=X.s₀.os
 bare:AllBare s.gens
 base:Un X.fs X.ex X.H₀ H X.s₀.heap s.heap
 loc:∃ m,s.heap.Ns X.env.locals m/\∀(i:Nat) (x:Str) (v:V),X.N[i]? =some x->σ[i]? =some (some v)->xy X.env.scope x->∃ u,RelV v u/\Look X.env s.heap m x u
 cell:∀ x c,X.env.cells.lookup x=some c->∃ v,s.heap.IsCell c v
 free:H X.env.locals=none
 freeC:∀ x c,X.env.cells.lookup x=some c->H c=none
 pin:∀ p∈X.pn++pins,s.heap.get? p.1=some p.2/\H p.1=none/\p.1≠X.env.locals/\p.1 ∉ X.fs/\∀ v,p.2.data≠ .cell v
 hok:fP X.prog X.w H s.heap
 len:σ.length=X.N.length
section
variable {X:Cx}{pins:List (Addr×Obj)}{σ:List (Option V)}{H H':Hp}{s:Shared}{h':Heap}
theorem Cx.Ok.nofr(ok:X.Ok)(e:X.base.get? b=some o):b ∉ X.fs:=fun hb=>by
 have:=(ok.funs.mem hb).1;rw[e]at this;cases this
theorem Inv.bs(I:Inv X pins σ H s):∀ b o,X.base.get? b=some o->s.heap.get? b=some o/\H b=none:=fun b o e=>
 ⟨I.base.keep b o (I.ok.bs b o e).1 (I.ok.bs b o e).2 (I.ok.nofr e) (I.ok.noex b o e),I.base.free b o (I.ok.bs b o e).1 (I.ok.bs b o e).2 (I.ok.noex b o e)⟩
theorem Inv.bk(I:Inv X pins σ H s):∀ b o,X.base.get? b=some o->s.heap.get? b=some o:=fun b o e=>(I.bs b o e).1
theorem Inv.mod(I:Inv X pins σ H s):Mod X.K X.mg X.base:=I.ok.mod
theorem Inv.kIn(I:Inv X pins σ H s):X.K.In s.heap:=I.ok.mod.kin.keeps I.bk
theorem Inv.fr(I:Inv X pins σ H s):∃ m,Fr X.base X.env.locals s.heap m:=
 let ⟨m,hn,_⟩:=I.loc
 ⟨m,hn,I.bk,JV I.ok.bsz I.ok.above⟩
theorem Inv.lt(I:Inv X pins σ H s):X.env.locals<s.heap.objs.size:=let ⟨_,hn,_⟩:=I.loc;hn.lt
theorem Inv.sz(I:Inv X pins σ H s):X.s₀.heap.objs.size<=s.heap.objs.size:=JV I.ok.above (Lk I.lt)
theorem Inv.nofs(I:Inv X pins σ H s)(h:s.heap.objs.size<=a):a ∉ X.fs:=fun hb=>by
 obtain⟨_,o,ho,_⟩:=I.ok.funs.mem hb;exact absurd (JW (JO ho) (JV I.sz h)) (Lg _)
theorem Inv.cne(I:Inv X pins σ H s):∀ x c,X.env.cells.lookup x=some c->c≠X.env.locals:=fun x c e z=>by
 obtain⟨v,o,ho,hd⟩:=I.cell x c e;obtain⟨m,⟨o',es,ep,Y,Z,_⟩,_⟩:=I.loc;rw[z,Y]at ho;cases ho;rw[Z]at hd;cases hd
theorem Inv.funs(I:Inv X pins σ H s):s.heap.FunFrames X.base X.outer:=by
 have all:∀(l:List Env),(∀ b∈jj l,b∈X.fs)->X.s₀.heap.FunFrames X.base l->s.heap.FunFrames X.base l:=by
  intro l
  induction l with
  |nil=>intro _ _;trivial
  |cons env r ih=>
   intro hs hl;obtain⟨hk,⟨L,o,hf,hn,ho,hd⟩,hr⟩:=hl;have hL:L∈X.fs:=hs L (by unfold jj;rw[Kt,hf];exact JX)
   obtain⟨sl,e⟩:=I.base.slot L o ho (I.ok.frf L hL) hL fun z=>I.ok.exfs L z hL;exact⟨hk,⟨L,_,hf,hn,e,hd⟩,ih (fun b hb=>hs b (by unfold jj;rw[Kt,hf];exact JR _ hb)) hr⟩
 exact all X.outer (fun _ hb=>hb) I.ok.funs
theorem Inv.stack(I:Inv X pins σ H s):s.heap.FunFrames X.base X.stack:=by
 rcases I.ok.stk with e|⟨e,hf⟩
 ·rw[e];exact I.funs
 ·rw[e];obtain⟨m,hn,_⟩:=I.loc;refine .cons (by rw[I.ok.kind];decide) hf hn ?_ I.funs
  exact KG (JV I.ok.bsz I.ok.above)
theorem Inv.stkSub(I:Inv X pins σ H s):∀ b∈jj X.stack,b∈X.env.locals::X.fs:=fun b hb=>by
 rcases I.ok.stk with e|⟨e,hf⟩
 ·rw[e]at hb;exact JR _ hb
 ·rw[e]at hb;unfold jj at hb;rw[Kt,hf]at hb;exact hb
theorem Inv.stkFree(I:Inv X pins σ H s):∀ b∈jj X.stack,H b=none:=fun b hb=>by
 rcases J2.mp (I.stkSub b hb)with e|hb
 ·rw[e];exact I.free
 ·obtain⟨_,o,ho,_⟩:=I.ok.funs.mem hb;exact I.base.free b o ho (I.ok.frf b hb) fun z=>I.ok.exfs b z hb
theorem Inv.step{g':Array GenState}{t':Nat}{d':Drawn}{ch:List Addr}(I:Inv X pins σ H s)
  (Y:∀ b∈ch,(b∈X.ex\/X.s₀.heap.objs.size<=b)/\b≠X.env.locals/\(∀ x c,X.env.cells.lookup x=some c->c≠b)/\∀ p∈X.pn++pins,p.1≠b)
  (keep:∀ b o,b≠X.env.locals->b ∉ X.fs->b ∉ ch->s.heap.get? b=some o->H b=none->h'.get? b=some o)
  (slot:∀ b o,b≠X.env.locals->b∈X.fs->b ∉ ch->s.heap.get? b=some o->H b=none->∃ sl,h'.get? b=some {o with slots:=sl}) (free:∀ b o,b ∉ ch->s.heap.get? b=some o->H b=none->H' b=none)
  (there:∀ b o,b ∉ ch->s.heap.get? b=some o->∃ o',h'.get? b=some o')
  (tups:∀ b xs,H b=some (.tup xs)->H' b=some (.tup xs)) (frzs:∀ b o u,H b=some (.frz o u)->H' b=some (.frz o u)) (tbls:∀ b ps,H b=some (.tbl ps)->∃ more,H' b=some (.tbl (ps++more)))
  (ns:∀ m,s.heap.Ns X.env.locals m->h'.Ns X.env.locals m) (hok:fP X.prog X.w H' h') (hg:AllBare g'):
  Inv X pins σ H' {s with heap:=h',gens:=g',drawn:=d',toks:=t'}:=by
 have O:∀ b o,X.s₀.heap.get? b=some o->b≠X.env.locals:=fun b o e=>JT (JW (JO e) I.ok.above);have U:∀ b o,X.s₀.heap.get? b=some o->b ∉ X.ex->b ∉ ch:=fun b o e hx hb=>by
  rcases (Y b hb).1 with z|z
  ·exact hx z
  ·exact absurd (JW (JO e) z) (Lg _)
 have cellK:∀ x c,X.env.cells.lookup x=some c->∀ v,s.heap.IsCell c v->h'.IsCell c v:=fun x c e v ⟨o,ho,hd⟩=>by
  have Z:c ∉ ch:=fun z=>(Y c z).2.2.1 x c e rfl;by_cases hc:c∈X.fs
  ·obtain⟨sl,q⟩:=slot c o (I.cne x c e) hc Z ho (I.freeC x c e);exact⟨_,q,hd⟩
  ·exact⟨o,keep c o (I.cne x c e) hc Z ho (I.freeC x c e),hd⟩
 refine⟨I.ok,I.os,hg,⟨fun b o e n hb hx=>?_,fun b o e n hb hx=>?_,fun b o e n hx=>?_,fun b o e hx=>?_,fun b xs e=>tups b xs (I.base.tups b xs e),fun b o xs e=>frzs b o xs (I.base.frzs b o xs e),fun b ps e=>?_⟩,?_,fun x c e=>?_,?_,fun x c e=>?_,fun p hp=>?_,hok,I.len⟩
 ·exact keep b o (O b o e) hb (U b o e hx) (I.base.keep b o e n hb hx) (I.base.free b o e n hx)
 ·obtain⟨sl,e1⟩:=I.base.slot b o e n hb hx;obtain⟨a4,e2⟩:=slot b _ (O b o e) hb (U b o e hx) e1 (I.base.free b o e n hx);exact⟨a4,e2⟩
 ·obtain⟨o',e1⟩:=I.base.there b o e hx;exact free b o' (U b o e hx) e1 (I.base.free b o e n hx)
 ·obtain⟨o',e1⟩:=I.base.there b o e hx;exact there b o' (U b o e hx) e1
 ·obtain⟨m1,e1⟩:=I.base.tbls b ps e;obtain⟨m2,e2⟩:=tbls b _ e1;exact⟨m1++m2,by rw[e2,Array.append_assoc]⟩
 ·obtain⟨m,hn,hl⟩:=I.loc;refine⟨m,ns m hn,fun i x v e1 e2 e3=>?_⟩;obtain⟨u,r,l⟩:=hl i x v e1 e2 e3;refine⟨u,r,?_⟩;rcases l with l|⟨k,c,e,z⟩
  ·exact .inl l
  ·exact .inr ⟨k,c,e,cellK x c e _ z⟩
 ·obtain⟨v,z⟩:=I.cell x c e;exact⟨v,cellK x c e v z⟩
 ·obtain⟨m,⟨o,_,_,ho,_⟩,_⟩:=I.loc;exact free _ o (fun z=>(Y _ z).2.1 rfl) ho I.free
 ·obtain⟨v,o,ho,hd⟩:=I.cell x c e;exact free c o (fun z=>(Y c z).2.2.1 x c e rfl) ho (I.freeC x c e)
 ·obtain⟨e,n,ne,nf,d⟩:=I.pin p hp;have Z:p.1 ∉ ch:=fun z=>(Y p.1 z).2.2.2 p hp rfl;exact⟨keep p.1 p.2 ne nf Z e n,free p.1 p.2 Z e n,ne,nf,d⟩
theorem Inv.un{t':Nat}(I:Inv X pins σ H s)(u:Un X.fs [] H H' s.heap h')(hok:fP X.prog X.w H' h'):Inv X pins σ H' {s with heap:=h',toks:=t'}:=by
 obtain⟨m,⟨o,es,ep,ho,r⟩,_⟩:=id I.loc;obtain⟨sl,hL⟩:=u.any ho I.free (by simp)
 exact I.step (g':=s.gens) (d':=s.drawn) (ch:=[]) (fun _ z=>nomatch z) (fun b o _ hb _ e n=>u.keep b o e n hb (by simp)) (fun b o _ hb _ e n=>u.slot b o e n hb (by simp)) (fun b o _ e n=>u.free b o e n (by simp)) (fun b o _ e=>u.there b o e (by simp)) u.tups u.frzs u.tbls (fun m' hm=>by
  obtain⟨o',es',Y,Z,r'⟩:=hm;rw[ho]at Z;cases Z;exact⟨_,es',Y,hL,r'⟩) hok I.bare
theorem Inv.call{g':Array GenState}{t':Nat}{d':Drawn}{ch:List Addr}(I:Inv X pins σ H s)(u:Un (jj X.stack) ch H H' s.heap h')(hok:fP X.prog X.w H' h')(hg:AllBare g')
  (Y:∀ b∈ch,(b∈X.ex\/X.s₀.heap.objs.size<=b)/\b≠X.env.locals/\(∀ x c,X.env.cells.lookup x=some c->c≠b)/\∀ p∈X.pn++pins,p.1≠b):
  Inv X pins σ H' {s with heap:=h',gens:=g',drawn:=d',toks:=t'}:=by
 obtain⟨m,⟨o,es,ep,ho,r⟩,_⟩:=id I.loc;obtain⟨sl,hL⟩:=u.any ho I.free fun z=>(Y _ z).2.1 rfl;exact I.step (ch:=ch) Y (fun b o hL hb hc e n=>u.keep b o e n (fun z=>(J2.mp (I.stkSub b z)).elim hL hb) hc) (fun b o _ _ hc e n=>u.any e n hc) (fun b o hc e n=>u.free b o e n hc) (fun b o hc e=>u.there b o e hc) u.tups u.frzs u.tbls (fun m' hm=>by
  obtain⟨o',es',U,Z,r'⟩:=hm;rw[ho]at Z;cases Z;exact⟨_,es',U,hL,r'⟩) hok hg
theorem Inv.turned{t':Nat}{it:Addr}(I:Inv X pins σ H s)(k:∀ b o,b≠it->s.heap.get? b=some o->h'.get? b=some o)(hn:H it=none)(hL:it≠X.env.locals)
  (h1:it∈X.ex\/X.s₀.heap.objs.size<=it) (h2:∀ x c,X.env.cells.lookup x=some c->c≠it) (h3:∀ p∈X.pn++pins,p.1≠it):Inv X pins σ H {s with heap:=h',toks:=t'}:=by
 have Z:∀ b u,H b=some u->b≠it:=fun b u e z=>by rw[z,hn]at e;cases e
 refine I.step (g':=s.gens) (d':=s.drawn) (ch:=[it]) (fun b hb=>?_) (fun b o _ _ hc e _=>k b o (fun z=>hc (by simp[z])) e) (fun b o _ _ hc e _=>⟨o.slots,k b o (fun z=>hc (by simp[z])) e⟩) (fun _ _ _ _ n=>n)
  (fun b o hc e=>⟨o,k b o (fun z=>hc (by simp[z])) e⟩) (fun _ _ e=>e) (fun _ _ _ e=>e) (fun b ps e=>⟨#[],by rw[e];simp⟩) (fun m hm=>?_) (fun b u e=>?_) I.bare
 ·have e:b=it:=by simpa using hb
  subst e;exact⟨h1,hL,h2,h3⟩
 ·obtain⟨o,es,ep,ho,r⟩:=hm;exact⟨o,es,ep,k _ o (Ne.symm hL) ho,r⟩
 ·refine(I.hok b u e).stay (fun c v hc q=>k c v ?_ q) (fun _ q=>q) fun _ _ q=>q;rcases hc with z|z
  ·rw[z];exact Z b u e
  ·exact Z c _ z
theorem Inv.tok(I:Inv X pins σ H s)(t:Nat):Inv X pins σ H {s with toks:=t}:=I.un (h':=s.heap) (t':=t) Un.refl I.hok
theorem Inv.kept(I:Inv X pins σ H s)(k:∀ b u,s.heap.get? b=some u->h'.get? b=some u):Inv X pins σ H {s with heap:=h',toks:=t'}:=I.un (Un.kept k) (I.hok.kept k)
theorem Inv.laid(I:Inv X pins σ H s)(k:∀ b u,s.heap.get? b=some u->h'.get? b=some u)(hp:s.heap.objs.size<=a)(Z:bo X.prog X.w (upd H a o) h' a o):
  Inv X pins σ (upd H a o) {s with heap:=h',toks:=t'}:=I.un (Un.laid k hp (I.hok.fresh hp)) (I.hok.laid k hp Z)
theorem Inv.write(I:Inv X pins σ H s)(mu:HF (H x))(he:e=x\/H e=some (.own x))(k:∀ b u,b≠e->s.heap.get? b=some u->h'.get? b=some u)(Z:∃ u,h'.get? e=some u)
  (Y:bo X.prog X.w (upd H x o) h' x o):Inv X pins σ (upd H x o) {s with heap:=h',toks:=t'}:=I.un (Un.write mu he k Z) (I.hok.write mu he k Z Y)
theorem Inv.pins_of(I:Inv X pins σ H s)(h:∀ p∈pins',s.heap.get? p.1=some p.2/\H p.1=none/\p.1≠X.env.locals/\p.1 ∉ X.fs/\∀ v,p.2.data≠ .cell v):Inv X pins' σ H s:=
 ⟨I.ok,I.os,I.bare,I.base,I.loc,I.cell,I.free,I.freeC,fun p hp=>(LM.mp hp).elim (fun z=>I.pin p (L3 _ z)) (h p),I.hok,I.len⟩
theorem nH{N:List Str}(hN:N.Nodup){i j:Nat}{x:Str}(a:N[i]? =some x)(b:N[j]? =some x):i=j:=by
 obtain⟨h1,e1⟩:=JN.mp a;obtain⟨h2,e2⟩:=JN.mp b;exact(List.getElem_inj hN).mp (e1.trans e2.symm)
theorem qe{M:Model}{A:Around}{E:Value->Shared->Prop}{i:Nat}{x:Str}{v:V}{u:Value}{Q:Unit->Shared->Prop}(I:Inv X pins σ H s)(hN:X.N.Nodup)(hi:X.N[i]? =some x)(hx:Loc X.env.scope x)(r:RelV v u)
  (h:∀ s',Inv X pins (σ.set i (some v)) H s'->(∃ a,Heap.SameBut a s.heap s'.heap/\(a=X.env.locals\/X.env.cells.lookup x=some a))->Q () s') (hf:X.fn x=true\/X.env.scope.names.lookup x=some .local:=by first|exact .inl rfl|exact .inr rfl|assumption):wpAny M A (storeName X.env x u) Q E s:=by
 obtain⟨m,hn,hl⟩:=id I.loc;have b1:(X.env.scope.kind== .class||(X.env.scope.kind== .module && X.env.locals !=X.env.globals))=false:=by rw[I.ok.kind];rfl
 have O:i<σ.length:=by rw[I.len];exact(JN.mp hi).1
 have Y:=I.cne;have tracked:∀{a:Addr} {h':Heap},(∃ o,s.heap.get? a=some o/\H a=none)->Heap.SameBut a s.heap h'->fP X.prog X.w H h':=fun{a h'} ha hs b ob e=>by
  obtain⟨_,_,Z⟩:=ha;refine(I.hok b ob e).stay (fun c w' hc q=>(hs.2 c ?_).trans q) (fun _ q=>q) fun _ _ q=>q;rintro rfl;rcases hc with rfl|hc
  ·rw[Z]at e;cases e
  ·rw[Z]at hc;cases hc
 rcases hx with hk|hk
 ·refine wpAny_storeName_local hk hn (fun h' b3 hs=>?_) b1;obtain⟨oL,_,_,b2,_⟩:=id hn;refine h _ ⟨I.ok,I.os,I.bare,⟨fun b o e n hb hx=>?_,fun b o e n hb hx=>?_,I.base.free,fun b o e hx=>?_,I.base.tups,I.base.frzs,I.base.tbls⟩,⟨_,b3,fun j y v' e1 e2 e3=>?_⟩,fun y c e=>?_,I.free,I.freeC,fun p hp=>?_,tracked ⟨oL,b2,I.free⟩ hs,by simpa using I.len⟩ ⟨_,hs,.inl rfl⟩
  ·exact(hs.2 b (JT (JW (JO e) I.ok.above))).trans (I.base.keep b o e n hb hx)
  ·obtain⟨sl,e1⟩:=I.base.slot b o e n hb hx;exact⟨sl,(hs.2 b (JT (JW (JO e) I.ok.above))).trans e1⟩
  ·obtain⟨o',e1⟩:=I.base.there b o e hx;exact⟨o',(hs.2 b (JT (JW (JO e) I.ok.above))).trans e1⟩
  ·by_cases hj:j=i
   ·subst hj;rw[hi]at e1;cases e1;rw[Ka O]at e2;cases e2;exact⟨u,r,.inl ⟨hk,by simp⟩⟩
   ·rw[KI (Ne.symm hj)]at e2;obtain⟨u',r',q⟩:=hl j y v' e1 e2 e3;refine⟨u',r',?_⟩;rcases q with⟨k,e⟩|⟨k,c,e,z⟩
    ·refine .inl ⟨k,?_⟩;have:y≠x:=fun e=>hj (nH hN e1 (e ▸ hi));simp[this,e]
    ·exact .inr ⟨k,c,e,z.sameBut hs (Y y c e)⟩
  ·obtain⟨w',z⟩:=I.cell y c e;exact⟨w',z.sameBut hs (Y y c e)⟩
  ·obtain⟨e,n,ne,nf,d⟩:=I.pin p hp;exact⟨(hs.2 p.1 ne).trans e,n,ne,nf,d⟩
 ·have U:X.fn x=true:=by
   rcases hf with z|z
   ·exact z
   ·rw[z]at hk;cases hk
  obtain⟨c,hc⟩:=I.ok.has x (.inl hk);obtain⟨w',z⟩:=I.cell x c hc;refine wpAny_storeName_cell I.ok.kind hk hc z (fun h' a4 hs=>?_);obtain⟨oc,b0,a6⟩:=id z;refine h {s with heap:=h'} ⟨I.ok,I.os,I.bare,⟨fun b o e n hb hx=>?_,fun b o e n hb hx=>?_,I.base.free,fun b o e hx=>?_,I.base.tups,I.base.frzs,I.base.tbls⟩,⟨m,hn.sameBut hs (Ne.symm (Y x c hc)),fun j y v' e1 e2 e3=>?_⟩,fun y c' e=>?_,I.free,I.freeC,fun p hp=>?_,tracked ⟨oc,b0,I.freeC x c hc⟩ hs,by simpa using I.len⟩ ⟨c,hs,.inr hc⟩
  ·exact(hs.2 b (JT (JW (JO e) (I.ok.cab x c U hc)))).trans (I.base.keep b o e n hb hx)
  ·obtain⟨sl,e1⟩:=I.base.slot b o e n hb hx;exact⟨sl,(hs.2 b (JT (JW (JO e) (I.ok.cab x c U hc)))).trans e1⟩
  ·obtain⟨o',e1⟩:=I.base.there b o e hx;exact⟨o',(hs.2 b (JT (JW (JO e) (I.ok.cab x c U hc)))).trans e1⟩
  ·by_cases hj:j=i
   ·subst hj;rw[hi]at e1;cases e1;rw[Ka O]at e2;cases e2;exact⟨u,r,.inr ⟨.inl hk,c,hc,a4⟩⟩
   ·rw[KI (Ne.symm hj)]at e2;obtain⟨u',r',q⟩:=hl j y v' e1 e2 e3;refine⟨u',r',?_⟩;rcases q with q|⟨k,c',e,z'⟩
    ·exact .inl q
    ·refine .inr ⟨k,c',e,z'.sameBut hs ?_⟩;rintro rfl;exact hj (nH hN e1 (I.ok.inj _ _ _ e hc ▸ hi))
  ·by_cases hcc:c'=c
   ·subst hcc;exact⟨_,a4⟩
   ·obtain⟨w2,z2⟩:=I.cell y c' e;exact⟨w2,z2.sameBut hs hcc⟩
  ·obtain⟨e,n,ne,nf,d⟩:=I.pin p hp;refine⟨(hs.2 p.1 ?_).trans e,n,ne,nf,d⟩;intro q;rw[q,b0]at e;have q':oc=p.2:=J8 e;exact d w' (by rw[<-q'];exact a6)
theorem jk{Q:Unit->Shared->Prop}(I:Inv X pins σ H s)(hN:X.N.Nodup)(hi:X.N[i]? =some x)(hx:Loc X.env.scope x)(r:RelV v u)
  (h:∀ s',Inv X pins (σ.set i (some v)) H s'->Q () s') (hf:X.fn x=true\/X.env.scope.names.lookup x=some .local:=by first|exact .inl rfl|exact .inr rfl|assumption):wpAny M A (storeName X.env x u) Q E s:=
 qe I hN hi hx r (fun s' I' _=>h s' I') hf
theorem Inv.call'{s':Shared}(I:Inv X pins σ H s)(ho:s'.os=s.os)(u:Un (jj X.stack) ch H H' s.heap s'.heap)(hok:fP X.prog X.w H' s'.heap)(hg:AllBare s'.gens)
  (Z:∀ b∈ch,(b∈X.ex\/X.s₀.heap.objs.size<=b)/\b≠X.env.locals/\(∀ x c,X.env.cells.lookup x=some c->c≠b)/\∀ p∈X.pn++pins,p.1≠b):Inv X pins σ H' s':=by
 obtain⟨h',g',d',t',o'⟩:=s';have e:o'=s.os:=ho;subst e;exact I.call (g':=g') (t':=t') (d':=d') u hok hg Z
end
abbrev XK:=Value->Option Addr->Hp->Prop
abbrev St:=List (Option V)
abbrev VK:=V->Hp->Prop
abbrev TE:=St->Hp->VK->Prop
abbrev TT:=St->Hp->(Bool->Hp->Prop)->Prop
abbrev TA:=St->Hp->(List V->Hp->Prop)->Prop
structure Ends where
 nx:St->Hp->Prop
 rt:VK
 bk:St->Hp->Prop:=fun _ _=>False
 ct:St->Hp->Prop:=fun _ _=>False
abbrev TS:=Ends->St->Hp->Prop
def EP(X:Cx)(pins:List (Addr×Obj))(σ:St)(Q:VK)(u:Value)(s':Shared):Prop:=∃ v H',Inv X pins σ H' s'/\RelV v u/\Q v H'
def TP(X:Cx)(pins:List (Addr×Obj))(σ:St)(Q:Bool->Hp->Prop)(b:Bool)(s':Shared):Prop:=∃ H',Inv X pins σ H' s'/\Q b H'
def AP(X:Cx)(pins:List (Addr×Obj))(σ:St)(Q:List V->Hp->Prop)(us:List Value)(s':Shared):Prop:=∃ vs H',Inv X pins σ H' s'/\bj vs us/\Q vs H'
def SP(X:Cx)(pins:List (Addr×Obj))(D:Ends)(f:Flow)(s':Shared):Prop:=
 match f with
 | .next=>∃ σ' H',Inv X pins σ' H' s'/\D.nx σ' H'
 | .brk=>∃ σ' H',Inv X pins σ' H' s'/\D.bk σ' H'
 | .cont=>∃ σ' H',Inv X pins σ' H' s'/\D.ct σ' H'
 | .ret u=>∃ v σ' H',Inv X pins σ' H' s'/\RelV v u/\D.rt v H'
def PE(X:Cx)(e:Expr)(t:TE):Prop:=
 ∀(pins:List (Addr×Obj)) (s:Shared) (σ:St) (H:Hp) (Q:VK),Inv X pins σ H s->t σ H Q->wpAny (model X.prog X.w) X.A (eval e X.env) (EP X pins σ Q) X.xe s
def PT(X:Cx)(e:Expr)(t:TT):Prop:=
 ∀(pins:List (Addr×Obj)) (s:Shared) (σ:St) (H:Hp) (Q:Bool->Hp->Prop),Inv X pins σ H s->t σ H Q->wpAny (model X.prog X.w) X.A (isTrue e X.env (eval e X.env)) (TP X pins σ Q) X.xe s
def PW(X:Cx)(e:Expr)(t:TT):Prop:=
 ∀(whole:Sem Value) (pins:List (Addr×Obj)) (s:Shared) (σ:St) (H:Hp) (Q:Bool->Hp->Prop),Inv X pins σ H s->t σ H Q->wpAny (model X.prog X.w) X.A (isTrue e X.env whole) (TP X pins σ Q) X.xe s
theorem PW.pt(h:PW X e t):PT X e t:=h _
def PA(X:Cx)(es:List Expr)(t:TA):Prop:=
 ∀(pos:Pos) (pins:List (Addr×Obj)) (s:Shared) (σ:St) (H:Hp) (Q:List V->Hp->Prop),Inv X pins σ H s->t σ H Q->wpAny (model X.prog X.w) X.A (spliced (backTo pos (starEach es X.env))) (AP X pins σ Q) X.xe s
def PS(X:Cx)(st:Stmt)(t:TS):Prop:=
 ∀(pins:List (Addr×Obj)) (s:Shared) (σ:St) (H:Hp) (D:Ends),Inv X pins σ H s->t D σ H->wpAny (model X.prog X.w) X.A (exec st X.env) (SP X pins D) X.xe s
def pJ(X:Cx)(st:List Stmt)(t:TS):Prop:=
 ∀(pins:List (Addr×Obj)) (s:Shared) (σ:St) (H:Hp) (D:Ends),Inv X pins σ H s->t D σ H->wpAny (model X.prog X.w) X.A (execs st X.env) (SP X pins D) X.xe s
theorem dy{α:Type}{t:Sem α}{Q Q':α->Shared->Prop}{M:Model}{A:Around}{E:Value->Shared->Prop}{s:Shared}(h:wpAny M A t Q E s)(hQ:∀ a s,Q a s->Q' a s):wpAny M A t Q' E s:=Kb h hQ fun _ _ x=>x
end L2
namespace L2
open PySem PySem.Spec PyProof.Rows
section
variable {X:Cx}
def Gk(i:Nat):TE:=fun σ H Q=>∃ v,σ[i]? =some (some v)/\Q v H
def tC(v:V):TE:=fun _ H Q=>Q v H
theorem rf(hN:X.N[i]? =some x)(hv:xy X.env.scope x)(hd:(x==("__debug__":Str))=false:=by decide)(Z:(x==("__classdict__":Str))=false:=by decide):PE X (.Name x pos) (Gk i):=by
 intro pins s σ H Q I h;obtain⟨v,e,h⟩:=h;obtain⟨m,hn,hl⟩:=I.loc;obtain⟨u,r,l⟩:=hl i x v hN e hv;have fin:EP X pins σ Q u s:=⟨v,H,I,r,h⟩;rcases l with⟨hk,hm⟩|⟨hk,c,hc,hcell⟩
 ·exact wpAny_Name (wpAny_loadName_local I.ok.kind hk hn hm fin) hd
 ·rcases hk with hk|hk
  ·exact wpAny_Name (wpAny_loadName_cell I.ok.kind hk hc hcell fin) hd
  ·exact wpAny_Name (wpAny_loadName_free I.ok.kind hk hc hcell fin Z) hd
theorem yT{i j pos}:PE X (.Constant (.int i) j pos) (tC (.int i)):=fun _ _ _ H _ I h=>wpAny_Constant_int ⟨.int i,H,I.tok _,⟨_,rfl⟩,h⟩
theorem Gm{b j pos}:PE X (.Constant (.bool b) j pos) (tC (.bl b)):=fun _ _ _ H _ I h=>Constant_bool ⟨.bl b,H,I,rfl,h⟩
theorem DV{j pos}:PE X (.Constant .none j pos) (tC .non):=fun _ _ _ H _ I h=>Constant_none ⟨.non,H,I,rfl,h⟩
theorem DW{x j pos}:PE X (.Constant (.str x) j pos) (tC (.str x)):=fun _ _ _ H _ I h=>Calls.Constant_str ⟨.str x,H,I.tok _,⟨_,rfl⟩,h⟩
def Gl(X:Cx)(x:Str):Prop:=X.env.kindOf x=some .globalImplicit
theorem jQ{Q:Value->Shared->Prop}(I:Inv X pins σ H s)(hg:Gl X x)(hm:X.mg x=some u)(h:Q u s)
  (hd:(x==("__debug__":Str))=false:=by decide):wpAny (model X.prog X.w) X.A (eval (.Name x pos) X.env) Q E s:=
 MR I.ok.kind hg (Calls.loadGlobal_global (by rw[I.ok.glob];exact I.mod.glob.keeps I.bk) hm h) hd
theorem ko{Q:Value->Shared->Prop}(I:Inv X pins σ H s)(hg:Gl X x)(hm:X.mg x=none)(hv:bootBuiltins x=some u)(h:Q u s)
  (hn:x≠"__name__":=by decide) (hd:(x==("__debug__":Str))=false:=by decide):wpAny (model X.prog X.w) X.A (eval (.Name x pos) X.env) Q E s:=by
 obtain⟨mb,h1,h2⟩:=I.mod.blt;exact MR I.ok.kind hg (Calls.loadGlobal_builtin (by rw[I.ok.glob];exact I.mod.glob.keeps I.bk) hm (by rw[I.ok.blt];exact h1.keeps I.bk) ((h2 x hn).trans hv) h) hd
theorem wc(hg:Gl X x)(hm:X.mg x=some u)(r:RelV v u)(hd:(x==("__debug__":Str))=false:=by decide):PE X (.Name x pos) (tC v):=
 fun _ _ _ H _ I h=>jQ I hg hm ⟨v,H,I,r,h⟩ hd
theorem m7(hg:Gl X x)(hm:X.mg x=none)(hv:bootBuiltins x=some u)(r:RelV v u)(hn:x≠"__name__":=by decide)(hd:(x==("__debug__":Str))=false:=by decide):PE X (.Name x pos) (tC v):=
 fun _ _ _ H _ I h=>ko I hg hm hv ⟨v,H,I,r,h⟩ hn hd
variable {a b:Expr}{ta tb:TE}{pos:Pos}
theorem sZ(b:Expr)(h:op≠ .In)(h2:op≠ .NotIn):behindInMarks op b=false:=by
 have e1:(op==CmpOp.In)=false:=by cases op<;>first|rfl|exact absurd rfl h
 have e2:(op==CmpOp.NotIn)=false:=by cases op<;>first|rfl|exact absurd rfl h2
 cases b<;>simp[behindInMarks,e1,e2]
def tB(t:TE):TT:=fun σ H Q=>t σ H fun x H1=>∃ c,x= .bl c/\Q c H1
theorem DX(h:PE X e t)(he:∀ whole,isTrue e X.env whole=(do let v<-whole;standAt e.pos;holding [v] (truthy v)):=by intro _;rfl):PT X e (tB t):=by
 intro pins s σ H Q I hw;refine isTrue_plain (dy (h pins s σ H _ I hw) fun v s1 ⟨x,H1,I1,r1,q1⟩=>?_) (he _);obtain⟨d,rfl,q⟩:=q1;cases r1;exact KW ⟨H1,I1,q⟩
variable {tA tB':TT}{rest:List Expr}
def Ii(t u:TT):TT:=fun σ H Q=>t σ H fun c H1=>if c=true then u σ H1 Q else Q false H1
def Jr(t u:TT):TT:=fun σ H Q=>t σ H fun c H1=>if c=true then Q true H1 else u σ H1 Q
def Ij(t:TT):TT:=fun σ H Q=>t σ H fun c H1=>Q (!c) H1
theorem BH(ha:PT X a tA):PW X (.BoolOp .And [a] pos) tA:=by
 intro wh pins s σ H Q I h;refine isTrue_and (dy (ha pins s σ H Q I h) fun c s1 e=>?_);cases c with
 |true=>exact isTrue_and_nil e
 |false=>exact e
theorem DY(ha:PT X a tA):PW X (.BoolOp .Or [a] pos) tA:=by
 intro wh pins s σ H Q I h;refine isTrue_or (dy (ha pins s σ H Q I h) fun c s1 e=>?_);cases c with
 |false=>exact isTrue_or_nil e
 |true=>exact e
theorem DZ(ha:PT X a tA)(hb:PW X (.BoolOp .And (b::rest) pos) tB'):PW X (.BoolOp .And (a::b::rest) pos) (Ii tA tB'):=by
 intro wh pins s σ H Q I h;refine isTrue_and (dy (ha pins s σ H _ I h) fun c s1 ⟨H1,I1,q1⟩=>?_);cases c with
 |true=>exact hb wh pins s1 σ H1 Q I1 q1
 |false=>exact⟨H1,I1,q1⟩
theorem Gn(ha:PT X a tA)(hb:PW X (.BoolOp .Or (b::rest) pos) tB'):PW X (.BoolOp .Or (a::b::rest) pos) (Jr tA tB'):=by
 intro wh pins s σ H Q I h;refine isTrue_or (dy (ha pins s σ H _ I h) fun c s1 ⟨H1,I1,q1⟩=>?_);cases c with
 |true=>exact⟨H1,I1,q1⟩
 |false=>exact hb wh pins s1 σ H1 Q I1 q1
theorem D0(ha:PT X a tA):PT X (.UnaryOp .Not a pos) (Ij tA):=by
 intro pins s σ H Q I h;exact isTrue_not (ha pins s σ H (fun c H1=>Q (!c) H1) I h)
def Gp(ta tb:TE):TE:=fun σ H Q=>ta σ H fun x H1=>∃ c,x= .bl c/\if c=true then tb σ H1 Q else Q (.bl false) H1
def Ik(ta tb:TE):TE:=fun σ H Q=>ta σ H fun x H1=>∃ c,x= .bl c/\if c=true then Q (.bl true) H1 else tb σ H1 Q
def Gq(ta:TE):TE:=fun σ H Q=>ta σ H fun x H1=>∃ c,x= .bl c/\Q (.bl (!c)) H1
theorem D1{op}(h:PE X a t):PE X (.BoolOp op [a] pos) t:=fun pins s σ H Q I hw=>BoolOp_one (h pins s σ H Q I hw)
theorem D3(ha:PE X a ta)(hb:PE X (.BoolOp .And (b::rest) pos) tb):PE X (.BoolOp .And (a::b::rest) pos) (Gp ta tb):=by
 intro pins s σ H Q I h;refine BoolOp_and (dy (ha pins s σ H _ I h) fun v s1 ⟨x,H1,I1,r1,q1⟩=>?_);obtain⟨c,rfl,q1⟩:=q1;cases r1;refine KW ?_;cases c with
 |true=>exact hb pins s1 σ H1 Q I1 q1
 |false=>exact⟨.bl false,H1,I1,rfl,q1⟩
theorem Gr(ha:PE X a ta)(hb:PE X (.BoolOp .Or (b::rest) pos) tb):PE X (.BoolOp .Or (a::b::rest) pos) (Ik ta tb):=by
 intro pins s σ H Q I h;refine BoolOp_or (dy (ha pins s σ H _ I h) fun v s1 ⟨x,H1,I1,r1,q1⟩=>?_);obtain⟨c,rfl,q1⟩:=q1;cases r1;refine KW ?_;cases c with
 |false=>exact hb pins s1 σ H1 Q I1 q1
 |true=>exact⟨.bl true,H1,I1,rfl,q1⟩
theorem D4(ha:PE X a ta):PE X (.UnaryOp .Not a pos) (Gq ta):=by
 intro pins s σ H Q I h;refine UnaryOp_ (dy (ha pins s σ H _ I h) fun v s1 ⟨x,H1,I1,r1,q1⟩=>?_);obtain⟨c,rfl,q1⟩:=q1;cases r1;exact not_of (KW ⟨.bl (!c),H1,I1,rfl,q1⟩)
end
end L2
namespace L2
open PySem PySem.Spec PyProof.Rows
def j7(K:W.Frag)(H:Hp)(a:Addr)(xs:List V):Prop:=
 Rd H a (.lst xs)\/
  ∃(o:Obj) (its:Array Value) (n:Nat),K.lookup a=some o/\o.cls= .type "list"/\o.dict=none/\o.data= .seq its n/\its.size<=sizeLine/\bj xs its.toList
def lH(K:W.Frag)(H:Hp)(a:Addr)(xs:List V):Prop:=
 Rd H a (.tup xs)\/
  ∃(o:Obj) (its:Array Value) (n:Nat),K.lookup a=some o/\o.cls= .type "tuple"/\o.data= .seq its n/\its.size<=sizeLine/\bj xs its.toList
def Il:Value->Option V
 | .none=>some .non
 | .bool b=>some (.bl b)
 | .int i _=>some (.int i)
 | .str x _=>some (.str x)
 | .bytes b _=>some (.byt b)
 | .float b _=>some (.flt b)
 | .ref a=>some (.ref a)
 | .type n=>some (.ty n)
 |_=>none
theorem RelV.abs(r:RelV x u):Il u=some x:=by
 cases x with
 |non=>cases r;rfl
 |bl _=>cases r;rfl
 |int _=>obtain⟨t,rfl⟩:=r;rfl
 |str _=>obtain⟨t,rfl⟩:=r;rfl
 |byt _=>obtain⟨t,rfl⟩:=r;rfl
 |flt _=>obtain⟨t,rfl⟩:=r;rfl
 |ref _=>cases r;rfl
 |ty _=>cases r;rfl
theorem RelV.inj(r:RelV x u)(q:RelV y u):x=y:=J8 (r.abs.symm.trans q.abs)
theorem bj.inj:∀{xs ys:List V} {us:List Value},bj xs us->bj ys us->xs=ys
 |_,_,_,.nil,.nil=>rfl
 |_,_,_,.cons r t,.cons r' t'=>by rw[r.inj r',bj.inj t t']
section
variable {X:Cx}{pins:List (Addr×Obj)}{σ:St}{H:Hp}{s:Shared}{a:Addr}{xs ys:List V}
theorem j7.of{K:W.Frag}(h:H a=some (.lst xs)):j7 K H a xs:=.inl (.inl h)
theorem lH.of{K:W.Frag}(h:H a=some (.tup xs)):lH K H a xs:=.inl (.inl h)
theorem Inv.list(I:Inv X pins σ H s)(h:j7 X.K H a xs):∃ its:List Value,bj xs its/\PlainL s.heap a its.toArray/\xs.length<=sizeLine:=by
 rcases h with h|⟨o,its,n,hk,hc,hd,hs,hz,r⟩
 ·obtain⟨z,its,n,r,e⟩:=h.ok I.hok;exact⟨its,r,⟨_,n,e,rfl,rfl,rfl⟩,z⟩
 ·refine⟨its.toList,r,⟨o,n,I.kIn a o hk,hc,hd,by simpa using hs⟩,?_⟩
  have e:=r.length;simp only[Array.length_toList]at e;omega
theorem Inv.tuple(I:Inv X pins σ H s)(h:lH X.K H a xs):∃ its:List Value,bj xs its/\IsTup s.heap a its.toArray/\xs.length<=sizeLine:=by
 rcases h with h|⟨o,its,n,hk,hc,hs,hz,r⟩
 ·obtain⟨z,its,r,p⟩:=h.ok I.hok;exact⟨its,r,p,z⟩
 ·refine⟨its.toList,r,⟨o,I.kIn a o hk,hc,n,by simpa using hs⟩,?_⟩
  have e:=r.length;simp only[Array.length_toList]at e;omega
theorem Inv.list_inj(I:Inv X pins σ H s)(h:j7 X.K H a xs)(h':j7 X.K H a ys):xs=ys:=by
 obtain⟨its,r,⟨o,n,e,_,_,d⟩,_⟩:=I.list h;obtain⟨its',r',⟨o',n',e',_,_,d'⟩,_⟩:=I.list h';rw[e]at e';cases e';rw[d]at d';injection d' with d1 _;have:its=its':=by simpa using My Array.toList d1
 subst this;exact r.inj r'
theorem Inv.tuple_inj(I:Inv X pins σ H s)(h:lH X.K H a xs)(h':lH X.K H a ys):xs=ys:=by
 obtain⟨its,r,⟨o,e,_,n,d⟩,_⟩:=I.tuple h;obtain⟨its',r',⟨o',e',_,n',d'⟩,_⟩:=I.tuple h';rw[e]at e';cases e';rw[d]at d';injection d' with d1 _;have:its=its':=by simpa using My Array.toList d1
 subst this;exact r.inj r'
end
abbrev Cx.wish(X:Cx)(E:Value->Shared->Prop):Cx:={X with xe:=E}
abbrev Cx.nox(X:Cx):Cx:=X.wish fun _ _=>False
theorem Cx.Ok.wish{X:Cx}(ok:X.Ok)(E:Value->Shared->Prop):(X.wish E).Ok:=
 ⟨ok.mod,ok.kind,ok.glob,ok.blt,ok.above,ok.inj,ok.has,ok.cab,ok.hd,ok.frames,ok.stk,ok.exf,ok.bs,ok.bsz,ok.noex,ok.exfs,ok.funs,ok.frf⟩
theorem Cx.Ok.unwish{X:Cx}(ok:(X.wish E).Ok):X.Ok:=
 ⟨ok.mod,ok.kind,ok.glob,ok.blt,ok.above,ok.inj,ok.has,ok.cab,ok.hd,ok.frames,ok.stk,ok.exf,ok.bs,ok.bsz,ok.noex,ok.exfs,ok.funs,ok.frf⟩
section
variable {X:Cx}{pins:List (Addr×Obj)}{σ:St}{H:Hp}{s:Shared}{E:Value->Shared->Prop}
theorem Inv.wish(I:Inv X pins σ H s)(E:Value->Shared->Prop):Inv (X.wish E) pins σ H s:=⟨I.ok.wish E,I.os,I.bare,I.base,I.loc,I.cell,I.free,I.freeC,I.pin,I.hok,I.len⟩
theorem Inv.unwish(I:Inv (X.wish E) pins σ H s):Inv X pins σ H s:=⟨I.ok.unwish,I.os,I.bare,I.base,I.loc,I.cell,I.free,I.freeC,I.pin,I.hok,I.len⟩
theorem SP.unwish(h:SP (X.wish E) pins D f s'):SP X pins D f s':=by
 cases f with
 |next=>obtain⟨σ',H',I,q⟩:=h;exact⟨σ',H',I.unwish,q⟩
 |brk=>obtain⟨σ',H',I,q⟩:=h;exact⟨σ',H',I.unwish,q⟩
 |cont=>obtain⟨σ',H',I,q⟩:=h;exact⟨σ',H',I.unwish,q⟩
 |ret u=>obtain⟨v,σ',H',I,r,q⟩:=h;exact⟨v,σ',H',I.unwish,r,q⟩
theorem pJ.nox{st:List Stmt}{t:TS}(h:pJ X.nox st t):pJ X st t:=fun pins s σ H D I hw=>
 Kb (h pins s σ H D (I.wish _) hw) (fun _ _ q=>q.unwish) fun _ _ z=>False.elim z
end
section
variable {X:Cx}{st:Stmt}{rest:List Stmt}{t u:TS}{e:Expr}{te:TE}{pos:Pos}
def Gs:TS:=fun D σ H=>D.nx σ H
def Im(t u:TS):TS:=fun D σ H=>t {D with nx:=u D} σ H
theorem BI:pJ X [] Gs:=fun _ _ σ H _ I h=>LN ⟨σ,H,I,h⟩
theorem td(h1:PS X st t)(h2:pJ X rest u):pJ X (st::rest) (Im t u):=by
 intro pins s σ H D I h;refine Np (dy (h1 pins s σ H {D with nx:=u D} I h) fun f s1 q=>?_);cases f with
 |next=>
  obtain⟨σ',H',I',q⟩:=q;exact h2 pins s1 σ' H' D I' q
 |ret v=>exact q
 |brk=>exact q
 |cont=>exact q
theorem rg(h1:PS X st t):pJ X [st] t:=by
 intro pins s σ H D I h;refine Np (dy (h1 pins s σ H D I h) fun f s1 q=>?_);cases f with
 |next=>exact LN q
 |ret v=>exact q
 |brk=>exact q
 |cont=>exact q
theorem Inv.quiet(I:Inv X pins σ H s):interactive X.env=false:=by simp[interactive,I.ok.kind]
def Gu(te:TE):TS:=fun D σ H=>te σ H fun _ H1=>D.nx σ H1
theorem BJ(he:PE X e te)(hs:swapsWith e none pos.line X.env=pure false:=by rfl):PS X (.Expr e pos) (Gu te):=by
 intro pins s σ H D I h;exact wpAny_Expr_any (dy (he pins s σ H _ I h) fun v s1 ⟨x,H1,I1,r1,q1⟩=>⟨σ,H1,I1,q1⟩) I.quiet hs
def Io(te:TE):TS:=fun D σ H=>te σ H D.rt
theorem D5(he:PE X e te):PS X (.Return (some e) pos) (Io te):=by
 intro pins s σ H D I h;exact wpAny_Return_some (dy (he pins s σ H _ I h) fun v s1 ⟨x,H1,I1,r1,q1⟩=>⟨x,σ,H1,I1,r1,q1⟩)
def Ip(c:TT)(t u:TS):TS:=fun D σ H=>c σ H fun b H1=>if b=true then t D σ H1 else u D σ H1
theorem Gv(hc:PT X c tc)(ha:pJ X a t)(hb:pJ X b u):PS X (.If c a b pos) (Ip tc t u):=by
 intro pins s σ H D I h;refine wpAny_If (dy (hc pins s σ H _ I h) fun d s1 ⟨H1,I1,q1⟩=>?_);cases d with
 |true=>exact ha pins s1 σ H1 D I1 q1
 |false=>exact hb pins s1 σ H1 D I1 q1
end
abbrev TG:=V->St->Hp->(St->Hp->Prop)->Prop
abbrev Dt:=List V->St->Hp->(St->Hp->Prop)->Prop
def PG(X:Cx)(target:Expr)(t:TG):Prop:=
 ∀(pins:List (Addr×Obj)) (s:Shared) (σ:St) (H:Hp) (v:V) (u:Value) (Q:St->Hp->Prop),Inv X pins σ H s->RelV v u->t v σ H Q->
  wpAny (model X.prog X.w) X.A (assign target X.env u) (fun _ s'=>∃ σ' H',Inv X pins σ' H' s'/\Q σ' H') X.xe s
def yU(X:Cx)(ts:List Expr)(t:Dt):Prop:=
 ∀(pins:List (Addr×Obj)) (s:Shared) (σ:St) (H:Hp) (vs:List V) (us:List Value) (Q:St->Hp->Prop),Inv X pins σ H s->bj vs us->t vs σ H Q->
  wpAny (model X.prog X.w) X.A (assignInOrder ((assignEach ts X.env).map (·.2)) us) (fun _ s'=>∃ σ' H',Inv X pins σ' H' s'/\Q σ' H') X.xe s
abbrev D6:=V->V->V->Hp->(Hp->Prop)->Prop
def Gw(X:Cx)(t:D6):Prop:=
 ∀(pins:List (Addr×Obj)) (s:Shared) (σ:St) (H:Hp) (o i v:V) (ov iv u:Value) (Q:Hp->Prop),Inv X pins σ H s->RelV o ov->RelV i iv->RelV v u->t o i v H Q->
  wpAny (model X.prog X.w) X.A (setItem ov iv u) (fun _ s'=>∃ H',Inv X pins σ H' s'/\Q H') X.xe s
section
variable {X:Cx}{pos:Pos}
def yV(i:Nat):TG:=fun v σ H Q=>Q (σ.set i (some v)) H
theorem BK(hN:X.N.Nodup)(hi:X.N[i]? =some x)(hx:Loc X.env.scope x)(hf:X.fn x=true\/X.env.scope.names.lookup x=some .local:=by first|exact .inl rfl|exact .inr rfl|assumption):PG X (.Name x pos) (yV i):=by
 intro pins s σ H v u Q I r h;exact wpAny_assign_Name (jk I hN hi hx r (fun s' I'=>⟨_,H,I',h⟩) hf)
def Iq:Dt:=fun vs σ H Q=>vs=[]/\Q σ H
def Gx(t:TG)(u:Dt):Dt:=fun vs σ H Q=>∃ v r,vs=v::r/\t v σ H fun σ' H'=>u r σ' H' Q
theorem BN:yU X [] Iq:=by
 intro pins s σ H vs us Q I r h;obtain⟨e,h⟩:=h;subst e;cases r;exact assignInOrder_nil ⟨σ,H,I,h⟩
theorem yW(h1:PG X e t)(h2:yU X es u)
  (hs:(assignEach (e::es) X.env).map (·.2)=assign e X.env::(assignEach es X.env).map (·.2):=by rfl):yU X (e::es) (Gx t u):=by
 intro pins s σ H vs us Q I r h;obtain⟨v,vr,e1,h⟩:=h;subst e1;cases r with
 |cons r rr=>
  rw[hs];refine MT (dy (h1 pins s σ H _ _ _ I r h) fun _ s1 ⟨σ1,H1,I1,q1⟩=>?_);exact h2 pins s1 σ1 H1 _ _ Q I1 rr q1
def Ir(K:W.Frag)(n:Nat)(t:Dt):TG:=fun v σ H Q=>∃ a xs,v= .ref a/\lH K H a xs/\xs.length=n/\t xs σ H Q
theorem D7(hc:X.calm=true)(h:yU X es t)
  (hn:(assignEach es X.env).length=n:=by rfl) (Z:(assignEach es X.env).findIdx? (·.1)=none:=by rfl):PG X (.Tuple es k pos) (Ir X.K n t):=by
 intro pins s σ H v u Q I r hw;obtain⟨a,xs,e1,hq,hl,hw⟩:=hw;subst e1;cases r;obtain⟨its,rv,ht,hz⟩:=I.tuple hq;refine assign_Tuple_tuple (I.ok.hd hc) ht (by simp[hn, <-hl,rv.length]) Z fun h' hx=>?_
 have I1:Inv X pins σ H {s with heap:=h'}:=I.kept (t':=s.toks) fun b o e=>hx b o (JT (JO e)) e;exact h pins _ σ H xs _ Q I1 (by simpa using rv) hw
def Iu(to ti:TE)(t:D6):TG:=fun v σ H Q=>to σ H fun o H1=>ti σ H1 fun i H2=>t o i v H2 fun H3=>Q σ H3
theorem D8(ho:PE X o to)(hi:PE X i ti)(hs:Gw X t)
  (ha:∀ v,assign (.Subscript o i pos) X.env v=(do
   let ov<-holding [v] (eval o X.env);let iv<-holding [v,ov] (eval i X.env)
   standAt pos
   holding [v,ov,iv] (setItem ov iv v)
   release [v,ov,iv] []):=by intro _;rfl):PG X (.Subscript o i pos) (Iu to ti t):=by
 intro pins s σ H v u Q I r h;rw[ha];refine JG (Ko (dy (ho pins s σ H _ I h) fun ov s1 ⟨x,H1,I1,r1,q1⟩=>?_));refine JG (Ko (dy (hi pins s1 σ H1 _ I1 q1) fun iv s2 ⟨y,H2,I2,r2,q2⟩=>?_));refine JG (Ky (JG (Ko (dy (hs pins s2 σ H2 x y v ov iv u _ I2 r1 r2 r q2) fun _ s3 ⟨H3,I3,q3⟩=>?_))));exact wpAny_release ⟨σ,H3,I3,q3⟩
def D9(te:TE)(g:TG):TS:=fun D σ H=>te σ H fun x H1=>g x σ H1 D.nx
theorem Ea(he:PE X e te)(hg:PG X tg g)(hs:swapsWithSole [tg] e pos.line X.env=pure false:=by rfl)(hw:swappedStores [tg] e X.env=pure none:=by rfl)
  (h1:(assignEach [tg] X.env).map (·.2)=[assign tg X.env]:=by rfl):PS X (.Assign [tg] e pos) (D9 te g):=by
 intro pins s σ H D I h;refine wpAny_Assign_stores (dy (he pins s σ H _ I h) fun v s1 ⟨x,H1,I1,r1,q1⟩=>?_) hs hw;rw[h1];exact dy (hg pins s1 σ H1 x v _ I1 r1 q1) fun _ s2 q=>q
theorem yX(hN:X.N.Nodup)(hi:X.N[i]? =some x)(hx:Loc X.env.scope x)(he:PE X e te)(hs:swapsWith e (some (.Name x pos')) pos.line X.env=pure false:=by rfl)(hf:X.fn x=true\/X.env.scope.names.lookup x=some .local:=by first|exact .inl rfl|exact .inr rfl|assumption):
  PS X (.Assign [.Name x pos'] e pos) (D9 te (yV i)):=by
 intro pins s σ H D I h;refine wpAny_Assign_Name (dy (he pins s σ H _ I h) fun v s1 ⟨y,H1,I1,r1,q1⟩=>?_) hs;exact jk I1 hN hi hx r1 (fun s2 I2=>⟨_,H1,I2,q1⟩) hf
def Iv(i j:Nat)(ta:TA):TS:=fun D σ H=>ta σ H fun vs H1=>∃ v w,vs=[v,w]/\D.nx ((σ.set i (some v)).set j (some w)) H1
theorem Eb{kt k2 pt2}(hc:X.calm=true)(hN:X.N.Nodup)(hi:X.N[i]? =some x)(hj:X.N[j]? =some y)(Y:i≠j)
  (hx:X.env.scope.names.lookup x=some .local) (hy:X.env.scope.names.lookup y=some .local) (ha:PA X [a,b] ta)
  (hw:swappedStores [.Tuple [.Name x px,.Name y py] kt pt] (.Tuple [a,b] k2 pt2) X.env=pure (some [x,y]))
  (hs:swapsWithSole [.Tuple [.Name x px,.Name y py] kt pt] (.Tuple [a,b] k2 pt2) pos.line X.env=pure false:=by rfl):
  PS X (.Assign [.Tuple [.Name x px,.Name y py] kt pt] (.Tuple [a,b] k2 pt2) pos) (Iv i j ta):=by
 intro pins s σ H D I h;rw[exec_Assign_arm];refine JG (Ky ?_);rw[hs];refine JG (JJ ?_);rw[if_neg (by decide)]
 refine JG (Tuple_ (dy (ha _ pins s σ H _ I h) fun us s1 ⟨vs,H1,I1,r1,q1⟩=>?_));obtain⟨v,w,e1,q1⟩:=q1;subst e1;obtain⟨u1,u2,rfl,rv,Z⟩:∃ u1 u2,us=[u1,u2]/\RelV v u1/\RelV w u2:=by
  cases r1 with
  | cons p q=>
   cases q with
   |cons p' q'=>
    cases q';exact⟨_,_,rfl,p,p'⟩
 refine Kq ?_ (by show 2<=sizeLine;decide)
 have I2:Inv X pins σ H1 {s1 with heap:=s1.heap.push {cls:=.type "tuple",data:=.seq [u1,u2].toArray}}:=I1.kept (t':=s1.toks) fun b o e=>JH _ e;rw[hw];refine JG (JJ ?_);show wpAny (model X.prog X.w) X.A (do rule "assign.swapped-stores";let items<-unpackItems (.ref s1.heap.objs.size) 2 none;assignInOrder [fun v=>bindName X.env y v,fun v=>bindName X.env x v] items.reverse;pure Flow.next) _ _ _
 refine JG (Mc (JG (unpackItems_tuple (items:= #[u1,u2]) (I.ok.hd hc) (IsTup.new s1.heap _) fun h' U=>?_)));have I3:=I2.kept (h':=h') (t':=s1.toks) fun b o e=>U b o (JT (JO e)) e;show wpAny _ _ (assignInOrder [fun v=>bindName X.env y v,fun v=>bindName X.env x v] [u2,u1]>>=fun _=>pure Flow.next) _ _ _;refine JG (MT (wpAny_bindName (jk I3 hN hj (.inl hy) Z (fun s2 I4=>?_) (.inr hy))));refine MT (wpAny_bindName (jk I4 hN hi (.inl hx) rv (fun s3 I5=>assignInOrder_nil (JJ ?_)) (.inr hx)));rw[List.set_comm _ _ (Ne.symm Y)]at I5;exact⟨_,H1,I5,q1⟩
end
section
variable {X:Cx}{pos:Pos}
def Ec(c:TT)(tb:TS):TS:=fun D σ H=>∃ W:Nat->St->Hp->Prop,(∃ m,W m σ H)/\∀ m σ H,W m σ H->
 c σ H fun b H1=>if b=true then ∃ N:St->Hp->Prop,(∀ σ' H',N σ' H'->∃ m',m'<m/\W m' σ' H')/\tb {D with nx:=N,ct:=N,bk:=D.nx} σ H1 else D.nx σ H1
theorem yY{c:Expr}{body:List Stmt}{tc:TT}{tb:TS}(hp:PassesOwn (model X.prog X.w) X.A X.env X.xe)(hc:PT X c tc)(hb:pJ X body tb):PS X (.While c body [] pos) (Ec tc tb):=by
 intro pins s σ H D I h;obtain⟨W,⟨m0,w0⟩,turn⟩:=h;refine wpAny_While (codeAny_whileLoop (fun n s'=>∃ σ' H',Inv X pins σ' H' s'/\W n σ' H') ?_ m0 ⟨σ,H,I,w0⟩);rintro n s1 ⟨σ1,H1,I1,w1⟩;refine Lp hp (dy (hc pins s1 σ1 H1 _ I1 (turn n σ1 H1 w1)) fun b s2 ⟨H2,I2,q2⟩=>?_);cases b with
 | true=>
  obtain⟨N,hN,q2⟩:=q2;rw[if_pos rfl];refine Lp hp (dy (hb pins s2 σ1 H2 _ I2 q2) fun f s3 q3=>?_);cases f with
  |next=>
   obtain⟨σ3,H3,I3,n3⟩:=q3;obtain⟨m',hm,w3⟩:=hN σ3 H3 n3;exact⟨m',hm,σ3,H3,I3,w3⟩
  |cont=>
   obtain⟨σ3,H3,I3,n3⟩:=q3;obtain⟨m',hm,w3⟩:=hN σ3 H3 n3;exact⟨m',hm,σ3,H3,I3,w3⟩
  |brk=>exact q3
  |ret v=>exact q3
 |false=>
  rw[if_neg La];exact LN ⟨σ1,H2,I2,q2⟩
end
structure It where
 go:Nat->Hp->Prop
 yld:Nat->Hp->V->Hp->Prop
 stop:Nat->Hp->Prop
def jl(X:Cx)(pins:List (Addr×Obj))(H:Hp)(b:Addr):Prop:=
 H b=none/\b≠X.env.locals/\b ∉ X.fs/\(b∈X.ex\/X.s₀.heap.objs.size<=b)/\(∀ x c,X.env.cells.lookup x=some c->c≠b)/\∀ p∈X.pn++pins,p.1≠b
theorem Inv.fpOk{H':Hp}(I:Inv X pins σ H s)(hb:s.heap.objs.size<=b)(hn:H' b=none):jl X pins H' b:=by
 refine⟨hn,Lh (JW I.lt hb),I.nofs hb,.inr (JV I.sz hb),fun x c e z=>?_,fun p hp z=>?_⟩
 ·obtain⟨v,q⟩:=I.cell x c e;exact absurd (JW q.lt (by rw[z];exact hb)) (Lg _)
 ·exact absurd (JW (JO (I.pin p hp).1) (by rw[z];exact hb)) (Lg _)
structure Turn(P:Program)(w:World)(K:W.Frag)(tg:Expr)(J:It)(fp:List Addr)(it:Addr)(tn:Nat->Heap->Prop):Prop where
 mem:it∈fp
 obj:∀ i h,tn i h->∀ b∈fp,∃ o,h.get? b=some o/\∀ v,o.data≠ .cell v
 keep:∀ i h h',tn i h->(∀ b∈fp,∀ o,h.get? b=some o->h'.get? b=some o)->tn i h'
 item:∀(X:Cx),X.prog=P->X.w=w->X.K=K->X.calm=true->∀(i:Nat) (pins:List (Addr×Obj)) (s:Shared) (σ:St) (H:Hp) (E:Value->Shared->Prop),Inv X pins σ H s->(∀ b∈fp,jl X pins H b)->tn i s.heap->J.go i H->
  wpAny (model P w) X.A (pyNext (.ref it)) (fun r s1=>∃ u,r=some u/\
   wpAny (model P w) X.A (letOwnedTupleGo tg (.ref it) u) (fun _ s2=>∃ x H',Inv X pins σ H' s2/\RelV x u/\J.yld i H x H'/\tn (i+1) s2.heap/\∀ b∈fp,H' b=none) E s1) E s
 done:∀(X:Cx),X.prog=P->X.w=w->X.K=K->X.calm=true->∀(i:Nat) (pins:List (Addr×Obj)) (s:Shared) (σ:St) (H:Hp) (E:Value->Shared->Prop),Inv X pins σ H s->(∀ b∈fp,jl X pins H b)->tn i s.heap->J.stop i H->
  wpAny (model P w) X.A (pyNext (.ref it)) (fun r s1=>r=none/\Inv X pins σ H s1) E s
 self:∀(A:Around) (i:Nat) (s:Shared) (Q:Value->Shared->Prop) (E:Value->Shared->Prop),tn i s.heap->Q (.ref it) s->wpAny (model P w) A (pyIter (.ref it)) Q E s
abbrev TI:=St->Hp->(It->Hp->Prop)->Prop
def Jg(X:Cx)(pins:List (Addr×Obj))(σ:St)(tg:Expr)(R:It->Hp->Prop)(itv:Value)(s2:Shared):Prop:=
 ∃(it:Addr) (fp:List Addr) (tn:Nat->Heap->Prop) (J:It) (H':Hp),itv= .ref it/\Inv X pins σ H' s2/\Turn X.prog X.w X.K tg J fp it tn/\tn 0 s2.heap/\(∀ b∈fp,jl X pins H' b)/\R J H'
def PI(X:Cx)(tg iter:Expr)(wi:TI):Prop:=
 ∀(pins:List (Addr×Obj)) (s:Shared) (σ:St) (H:Hp) (R:It->Hp->Prop),Inv X pins σ H s->wi σ H R->
  wpAny (model X.prog X.w) X.A (eval iter X.env) (fun v s1=>wpAny (model X.prog X.w) X.A (pyIter v) (Jg X pins σ tg R) X.xe s1) X.xe s
theorem yZ{s:Shared}{Q:Unit->Shared->Prop}(ho:s.heap.get? it=some o)(hc:o.cls= .type n)(hd:o.data= .fields vs)
    (hn:["enumerate","zip","dict_itemiterator","dict_reverseitemiterator","odict_iterator","itertools.zip_longest","itertools.pairwise"].contains n=false) (hQ:Q () s):wpAny M A (letOwnedTupleGo tg (.ref it) u) Q E s:=by
  unfold letOwnedTupleGo;cases tg <;>first
    |exact JJ hQ
    |(cases u<;>first
        |exact JJ hQ
        | (refine JG (wpAny_load ho ?_)
           rw[hc,hd];show wpAny M A (if (["enumerate","zip","dict_itemiterator","dict_reverseitemiterator","odict_iterator","itertools.zip_longest","itertools.pairwise"].contains n && vs[0]? ==some (rawInt _))=true then _ else _) Q E s;rw[if_neg (by intro h;rw[hn,L5]at h;cases h)]
           exact JJ hQ))
def HH(K:W.Frag)(a:Addr):It:=
 ⟨fun i H=>∃ xs x,j7 K H a xs/\xs[i]? =some x,fun i H x H'=>H'=H/\∀ xs,j7 K H a xs->xs[i]? =some x,fun i H=>∃ xs,j7 K H a xs/\xs.length<=i⟩
def Iw(K:W.Frag)(a:Addr):It:=
 ⟨fun i H=>∃ xs x,lH K H a xs/\xs[i]? =some x,fun i H x H'=>H'=H/\∀ xs,lH K H a xs->xs[i]? =some x,fun i H=>∃ xs,lH K H a xs/\xs.length<=i⟩
def Gy(lo:Int)(n:Nat):It:=⟨fun i _=>i<n,fun i H x H'=>H'=H/\x= .int (lo+i),fun i _=>n<=i⟩
theorem xA{P:Program}{w:World}{K:W.Frag}{tg:Expr}(a it:Addr):Turn P w K tg (HH K a) [it] it (fun i h=>h.IsListIter it a i) where
 mem:=by simp
 obj:=fun i h st b hb=>by
  have e:b=it:=by simpa using hb
  subst e;obtain⟨o,e,c,d⟩:=st;exact⟨o,e,fun v z=>by rw[d]at z;cases z⟩
 keep:=fun i h h' st k=>st.at fun o e=>k it (by simp) o e
 item:=by
  intro X hP hw hK hc i pins s σ H E I hf st hg;subst hP hw hK;obtain⟨xs,x,hq,hx⟩:=hg;obtain⟨its,rv,p,hz⟩:=I.list hq;obtain⟨u,hu,ru⟩:=rv.get hx;obtain⟨f0,f1,f2,f3,f4,f5⟩:=hf it (by simp)
  refine wpAny_pyNext_list_item st p.isList (x:=u) (by simpa using hu) fun h' Z sb=>?_
  have I1:Inv X pins σ H {s with heap:=h'}:=I.turned (t':=s.toks) (fun b o hb e=>(sb.2 b hb).trans e) f0 f1 f3 f4 f5;obtain⟨o,e,c,d⟩:=id Z;exact⟨u,rfl,yZ (s:={s with heap:=h'}) e c d (by decide) ⟨x,H,I1,ru,⟨rfl,fun ys hy=>by rw[I.list_inj hy hq];exact hx⟩,Z,fun b hb=>(hf b hb).1⟩⟩
 done:=by
  intro X hP hw hK hc i pins s σ H E I hf st hg;subst hP hw hK;obtain⟨xs,hq,hx⟩:=hg;obtain⟨its,rv,p,hz⟩:=I.list hq;obtain⟨f0,f1,f2,f3,f4,f5⟩:=hf it (by simp)
  have hl:=rv.length;exact wpAny_pyNext_list_end (I.ok.hd hc) st p.isList (by simp;omega) fun h' eb=>⟨rfl,I.turned (t':=s.toks) (fun b o hb e=>eb b o hb e) f0 f1 f3 f4 f5⟩
 self:=fun _ _ _ _ _ st h=>wpAny_pyIter_listiter st h
theorem uT{P:Program}{w:World}{K:W.Frag}{tg:Expr}(a it:Addr):Turn P w K tg (Iw K a) [it] it (fun i h=>h.IsTupleIter it a i) where
 mem:=by simp
 obj:=fun i h st b hb=>by
  have e:b=it:=by simpa using hb
  subst e;obtain⟨o,e,c,d⟩:=st;exact⟨o,e,fun v z=>by rw[d]at z;cases z⟩
 keep:=fun i h h' st k=>st.at fun o e=>k it (by simp) o e
 item:=by
  intro X hP hw hK hc i pins s σ H E I hf st hg;subst hP hw hK;obtain⟨xs,x,hq,hx⟩:=hg;obtain⟨its,rv,p,hz⟩:=I.tuple hq;obtain⟨u,hu,ru⟩:=rv.get hx;obtain⟨f0,f1,f2,f3,f4,f5⟩:=hf it (by simp)
  refine wpAny_pyNext_tuple_item st (show s.heap.IsTuple a its.toArray from p) (x:=u) (by simpa using hu) fun h' Z sb=>?_
  have I1:Inv X pins σ H {s with heap:=h'}:=I.turned (t':=s.toks) (fun b o hb e=>(sb.2 b hb).trans e) f0 f1 f3 f4 f5;obtain⟨o,e,c,d⟩:=id Z;exact⟨u,rfl,yZ (s:={s with heap:=h'}) e c d (by decide) ⟨x,H,I1,ru,⟨rfl,fun ys hy=>by rw[I.tuple_inj hy hq];exact hx⟩,Z,fun b hb=>(hf b hb).1⟩⟩
 done:=by
  intro X hP hw hK hc i pins s σ H E I hf st hg;subst hP hw hK;obtain⟨xs,hq,hx⟩:=hg;obtain⟨its,rv,p,hz⟩:=I.tuple hq;obtain⟨f0,f1,f2,f3,f4,f5⟩:=hf it (by simp)
  have hl:=rv.length;exact wpAny_pyNext_tuple_end (I.ok.hd hc) st (show s.heap.IsTuple a its.toArray from p) (by simp;omega) fun h' eb=>⟨rfl,I.turned (t':=s.toks) (fun b o hb e=>eb b o hb e) f0 f1 f3 f4 f5⟩
 self:=fun _ _ _ _ _ st h=>wpAny_pyIter_tupleiter st h
theorem uU{P:Program}{w:World}{K:W.Frag}{tg:Expr}(it:Addr)(lo:Int)(n:Nat):Turn P w K tg (Gy lo n) [it] it (fun i h=>IsRangeIter h it (lo+(i:Nat)*1) ((n:Int) - (i:Nat)) 1) where
 mem:=by simp
 obj:=fun i h st b hb=>by
  have e:b=it:=by simpa using hb
  subst e;exact⟨_,st,fun v z=>by
   have z':Data.fields _=Data.cell v:=z;cases z'⟩
 keep:=fun i h h' st k=>k it (by simp) _ st
 item:=by
  intro X hP hw hK hc i pins s σ H E I hf st hg;subst hP hw hK;obtain⟨f0,f1,f2,f3,f4,f5⟩:=hf it (by simp)
  have W:=Walks.range (prog:=X.prog) (w:=X.w) (I.ok.hd hc) it lo 1 n;refine W.item i s _ _ hg st fun v h' tk hv Z kk=>?_;obtain⟨t,rfl⟩:=hv;have I1:Inv X pins σ H {s with heap:=h',toks:=tk}:=I.turned (fun b o hb e=>kk b o (by simpa using hb) e) f0 f1 f3 f4 f5
  refine⟨_,rfl,yZ (s:={s with heap:=h',toks:=tk}) (n:="range_iterator") Z rfl rfl (by decide) ⟨.int (lo+i),H,I1,⟨t,?_⟩,⟨rfl,rfl⟩,Z,fun b hb=>(hf b hb).1⟩⟩
  rw[Int.mul_one]
 done:=by
  intro X hP hw hK hc i pins s σ H E I hf st hg;subst hP hw hK;obtain⟨f0,f1,f2,f3,f4,f5⟩:=hf it (by simp)
  exact wpAny_pyNext_range_end (I.ok.hd hc) st (by have:n<=i:=hg;omega) fun h' eb=>⟨rfl,I.turned (t':=s.toks) (fun b o hb e=>eb b o hb e) f0 f1 f3 f4 f5⟩
 self:=fun _ _ _ _ _ st h=>wpAny_pyIter_rangeiter st h
end L2
namespace L2
open PySem PySem.Spec PyProof.Rows
section
variable {X:Cx}{tg:Expr}
def Gz(K:W.Frag)(tl:TE):TI:=fun σ H R=>tl σ H fun x H1=>∃ a,x= .ref a/\(∃ xs,j7 K H1 a xs)/\R (HH K a) H1
def Iy(K:W.Frag)(tl:TE):TI:=fun σ H R=>tl σ H fun x H1=>∃ a,x= .ref a/\(∃ xs,lH K H1 a xs)/\R (Iw K a) H1
theorem kM{l:Expr}{tl:TE}(hl:PE X l tl):PI X tg l (Gz X.K tl):=by
 intro pins s σ H R I h;refine dy (hl pins s σ H _ I h) fun v s1 ⟨x,H1,I1,r1,q1⟩=>?_;obtain⟨a,e,⟨xs,hq⟩,q⟩:=q1;subst e;cases r1;obtain⟨its,rv,p,hz⟩:=I1.list hq;refine M4 p.isList ?_;refine⟨s1.heap.objs.size,[s1.heap.objs.size],_,_,H1,rfl,I1.kept (t':=s1.toks) fun b o e=>JH _ e,xA a _,⟨_,JP _ rfl,rfl,rfl⟩,fun b hb=>?_,q⟩;have e:b=s1.heap.objs.size:=by simpa using hb
 subst e;exact I1.fpOk (JK _) (I1.hok.fresh (JK _))
theorem Ed{l:Expr}{tl:TE}(hl:PE X l tl):PI X tg l (Iy X.K tl):=by
 intro pins s σ H R I h;refine dy (hl pins s σ H _ I h) fun v s1 ⟨x,H1,I1,r1,q1⟩=>?_;obtain⟨a,e,⟨xs,hq⟩,q⟩:=q1;subst e;cases r1;obtain⟨its,rv,p,hz⟩:=I1.tuple hq;refine Lc (show s1.heap.IsTuple a its.toArray from p) ?_;refine⟨s1.heap.objs.size,[s1.heap.objs.size],_,_,H1,rfl,I1.kept (t':=s1.toks) fun b o e=>JH _ e,uT a _,⟨_,JP _ rfl,rfl,rfl⟩,fun b hb=>?_,q⟩;have e:b=s1.heap.objs.size:=by simpa using hb
 subst e;exact I1.fpOk (JK _) (I1.hok.fresh (JK _))
theorem tj{pins:List (Addr×Obj)}{σ:St}{H:Hp}{s:Shared}{R:It->Hp->Prop}{E:Value->Shared->Prop}{lo hi:Int}{t u v:Tok}{tk:Nat}(I:Inv X pins σ H s)(h1: -(2 ^ 62)<=lo)(h2:lo<2 ^ 62)(h3: -(2 ^ 62)<=hi)(h4:hi<2 ^ 62)
  (q:R (Gy lo (hi - lo).toNat) H):wpAny (model X.prog X.w) X.A (pyIter (.ref s.heap.objs.size)) (Jg X pins σ tg R) E {s with heap:=s.heap.push {cls:=.type "range",data:=.fields #[.int lo t,.int hi u,.int 1 v]},toks:=tk}:=by
 refine wpAny_pyIter_range (IsRange.new ..) (small_one h1 h2 h3 h4) ?_;have I1:Inv X pins σ H {s with heap:=s.heap.push {cls:=.type "range",data:=.fields #[.int lo t,.int hi u,.int 1 v]},toks:=tk}:=I.kept fun b o e=>JH _ e;refine⟨(s.heap.push {cls:=.type "range",data:=.fields #[.int lo t,.int hi u,.int 1 v]}).objs.size,[(s.heap.push {cls:=.type "range",data:=.fields #[.int lo t,.int hi u,.int 1 v]}).objs.size],_,_,H,rfl,
  I1.kept (t':=tk) fun b o e=>JH _ e,uU _ lo (hi - lo).toNat,?_,fun b hb=>?_,q⟩
 ·have e1:lo+((0:Nat):Int)*1=lo:=by simp
  have e2:(((hi - lo).toNat:Nat):Int) - ((0:Nat):Int)=Builtin.Range.rangeSize lo hi 1:=by rw[rangeSize_one];split<;>omega
  show IsRangeIter _ _ (lo+((0:Nat):Int)*1) ((((hi - lo).toNat:Nat):Int) - ((0:Nat):Int)) 1;rw[e1,e2];exact JP _ rfl
 ·have e:b=(s.heap.push {cls:=.type "range",data:=.fields #[.int lo t,.int hi u,.int 1 v]}).objs.size:=by simpa using hb
  subst e;exact I1.fpOk (JK _) (I1.hok.fresh (JK _))
def GA(ta:TA):TI:=fun σ H R=>ta σ H fun vs H1=>∃ j:Int,vs=[.int j]/\ -(2 ^ 62)<=j/\j<2 ^ 62/\R (Gy 0 j.toNat) H1
def GC(ta:TA):TI:=fun σ H R=>ta σ H fun vs H1=>∃ i j:Int,vs=[.int i,.int j]/\(-(2 ^ 62)<=i/\i<2 ^ 62/\ -(2 ^ 62)<=j/\j<2 ^ 62)/\R (Gy i (j - i).toNat) H1
theorem xB{a:Expr}{ta:TA}{p pos:Pos}(hg:Gl X "range")(hm:X.mg "range"=none)(ha:PA X [a] ta)(hs:starEach [a] X.env=[(false,eval a X.env)]:=by rfl):PI X tg (.Call (.Name "range" p) [a] [] pos) (GA ta):=by
 intro pins s σ H R I h;refine Call_ (ko I hg hm boot_range (K1 (dy (ha pos pins s σ H _ I h) fun us s1 ⟨vs,H1,I1,r1,q1⟩=>?_) hs rfl));obtain⟨j,e,q1,q2,q⟩:=q1;subst e;cases r1 with
 |cons r rr=>
  cases rr;obtain⟨t,rfl⟩:=r;exact call_range_1 (tj I1 (by omega) (by omega) q1 q2 (by simpa using q))
theorem xC(hg:Gl X "range")(hm:X.mg "range"=none)(ha:PA X [a,b] ta)(hs:starEach [a,b] X.env=[(false,eval a X.env),(false,eval b X.env)]:=by rfl)(Z:starEach [b] X.env=[(false,eval b X.env)]:=by rfl):
  PI X tg (.Call (.Name "range" p) [a,b] [] pos) (GC ta):=by
 intro pins s σ H R I h;refine Call_ (ko I hg hm boot_range (K1 (dy (ha pos pins s σ H _ I h) fun us s1 ⟨vs,H1,I1,r1,q1⟩=>?_) (by rw[hs,Z]) (by rw[Z];rfl)))
 obtain⟨i,j,e,⟨q1,q2,q3,q4⟩,q⟩:=q1;subst e;cases r1 with
 | cons r rr=>
  cases rr with
  |cons r' rr=>
   cases rr;obtain⟨t,rfl⟩:=r;obtain⟨t',rfl⟩:=r';exact call_range_2 (tj I1 q1 q2 q3 q4 q)
def Iz(wi:TI)(g:TG)(tb:TS):TS:=fun D σ H=>wi σ H fun J H1=>∃ W:Nat->Nat->St->Hp->Prop,(∃ m,W 0 m σ H1)/\∀ i m σ H,W i m σ H->
 (J.stop i H/\D.nx σ H)\/(J.go i H/\∃ N:St->Hp->Prop,(∀ σ' H',N σ' H'->∃ m',m'<m/\W (i+1) m' σ' H')/\∀ x H',J.yld i H x H'->g x σ H' fun σ2 H2=>tb {D with nx:=N,ct:=N,bk:=D.nx} σ2 H2)
def lI(fp:List Addr)(h:Heap):List (Addr×Obj):=fp.filterMap fun b=>(h.get? b).map fun o=>(b,o)
theorem fH{h:Heap}(hb:b∈fp)(e:h.get? b=some o):(b,o)∈lI fp h:=K9.mpr ⟨b,hb,by rw[e];rfl⟩
theorem xD(hp:p∈lI fp h):p.1∈fp/\h.get? p.1=some p.2:=by
 obtain⟨b,hb,e⟩:=K9.mp hp;cases q:h.get? b with
 |none=>rw[q]at e;cases e
 |some o=>
  rw[q]at e;have e':(b,o)=p:=J8 e;subst e';exact⟨hb,q⟩
theorem Inv.pinned(I:Inv X pins σ H s)(hf:∀ b∈fp,jl X pins H b)(ho:∀ b∈fp,∃ o,s.heap.get? b=some o/\∀ v,o.data≠ .cell v):Inv X (pins++lI fp s.heap) σ H s:=
 I.pins_of fun p hp=>(LM.mp hp).elim (fun z=>I.pin p (J1 _ z)) fun z=>by
  obtain⟨hb,e⟩:=xD z;obtain⟨f0,f1,f2,_⟩:=hf p.1 hb;obtain⟨o,e',d⟩:=ho p.1 hb;rw[e]at e';cases e';exact⟨e,f0,f1,f2,d⟩
theorem Inv.unpinned(I:Inv X (pins++pl) σ H s):Inv X pins σ H s:=I.pins_of fun p hp=>I.pin p (J1 _ (L3 _ hp))
theorem Ee{iter:Expr}{body:List Stmt}{wi:TI}{g:TG}{tb:TS}{pos:Pos}(hp:PassesOwn (model X.prog X.w) X.A X.env X.xe)(hc:X.calm=true)(hi:PI X tg iter wi)(hg:PG X tg g)(hb:pJ X body tb)
  (hs:∀ x,foldedSetIterable iter X.env x=pure x:=by intro _;rfl):PS X (.For tg iter body [] pos) (Iz wi g tb):=by
 intro pins s σ H D I h;refine wpAny_For (dy (hi pins s σ H _ I h) fun v s1 h1=>dy h1 fun U s2 h2=>?_) hs;obtain⟨it,fp,tn,J,H2,e,I2,T,gm,f2,W,⟨m0,w0⟩,turn⟩:=h2;subst e;have Z:∀{H':Hp},(∀ b∈fp,H' b=none)->∀ b∈fp,jl X pins H' b:=fun hn b hb=>⟨hn b hb,(f2 b hb).2⟩;refine codeAny_forLoop_any (fun n s'=>∃ i σ' H',Inv X pins σ' H' s'/\tn i s'.heap/\(∀ b∈fp,H' b=none)/\W i n σ' H') ?_ m0 ⟨0,σ,H2,I2,gm,fun b hb=>(f2 b hb).1,w0⟩;rintro n s3 ⟨i,σ3,H3,I3,st3,fr3,w3⟩;rcases turn i n σ3 H3 w3 with⟨stop,qn⟩|⟨go,N,hN,step⟩
 ·refine Lp hp (dy (T.done X rfl rfl rfl hc i pins s3 σ3 H3 X.xe I3 (Z fr3) st3 stop) fun r s4 ⟨hr,I4⟩=>?_);subst hr;exact LN ⟨σ3,H3,I4,qn⟩
 ·refine Lp hp (dy (T.item X rfl rfl rfl hc i pins s3 σ3 H3 X.xe I3 (Z fr3) st3 go) fun r s4 ⟨u,hr,h4⟩=>?_);subst hr;refine Lp hp (dy h4 fun _ s5 ⟨x,H5,I5,r5,y5,st5,fr5⟩=>?_);have Y:=I5.pinned (Z fr5) (T.obj _ _ st5);refine Lp hp (dy (hg _ s5 σ3 H5 x u _ Y r5 (step x H5 y5)) fun _ s6 ⟨σ6,H6,I6,q6⟩=>?_);refine Lp hp (dy (hb _ s6 σ6 H6 _ I6 q6) fun f s7 q7=>?_);have again:∀{σ7:St} {H7:Hp},Inv X (pins++lI fp s5.heap) σ7 H7 s7->N σ7 H7->∃ m,m<n/\∃ i σ' H',Inv X pins σ' H' s7/\tn i s7.heap/\(∀ b∈fp,H' b=none)/\W i m σ' H':=fun{σ7 H7} I7 n7=>by
   obtain⟨m',hm,w7⟩:=hN σ7 H7 n7;refine⟨m',hm,i+1,σ7,H7,I7.unpinned,T.keep _ _ _ st5 fun b hb o e=>(I7.pin (b,o) (J1 _ (J1 _ (fH hb e)))).1,fun b hb=>?_,w7⟩;obtain⟨o,e,d⟩:=T.obj _ _ st5 b hb;exact(I7.pin (b,o) (J1 _ (J1 _ (fH hb e)))).2.1
  cases f with
  |next=>obtain⟨σ7,H7,I7,n7⟩:=q7;exact again I7 n7
  |cont=>obtain⟨σ7,H7,I7,n7⟩:=q7;exact again I7 n7
  |brk=>obtain⟨σ7,H7,I7,q7⟩:=q7;exact⟨σ7,H7,I7.unpinned,q7⟩
  |ret v=>obtain⟨x7,σ7,H7,I7,r7,q7⟩:=q7;exact⟨x7,σ7,H7,I7.unpinned,r7,q7⟩
end
end L2
namespace L2
open PySem PySem.Spec PyProof.Rows
abbrev R2:=V->V->Hp->VK->Prop
def iR(X:Cx)(f:Value->Value->Sem Value)(r:R2):Prop:=
 ∀(pins:List (Addr×Obj)) (s:Shared) (σ:St) (H:Hp) (x y:V) (v u:Value) (Q:VK),Inv X pins σ H s->RelV x v->RelV y u->r x y H Q->
  wpAny (model X.prog X.w) X.A (f v u) (EP X pins σ Q) X.xe s
def IA(X:Cx)(f:Value->Sem Value)(r:V->Hp->VK->Prop):Prop:=
 ∀(pins:List (Addr×Obj)) (s:Shared) (σ:St) (H:Hp) (x:V) (v:Value) (Q:VK),Inv X pins σ H s->RelV x v->r x H Q->
  wpAny (model X.prog X.w) X.A (f v) (EP X pins σ Q) X.xe s
def dH(X:Cx)(f:Value)(r:List V->Hp->VK->Prop):Prop:=
 ∀(pins:List (Addr×Obj)) (s:Shared) (σ:St) (H:Hp) (xs:List V) (us:List Value) (Q:VK),Inv X pins σ H s->bj xs us->r xs H Q->
  wpAny (model X.prog X.w) X.A (call f us) (EP X pins σ Q) X.xe s
def GD(r:R2)(ta tb:TE):TE:=fun σ H Q=>ta σ H fun x H1=>tb σ H1 fun y H2=>r x y H2 Q
def Js(r:V->Hp->VK->Prop)(ta:TE):TE:=fun σ H Q=>ta σ H fun x H1=>r x H1 Q
def rI(C:Int->Int->Prop)(g:Int->Int->V):R2:=fun x y H Q=>∃ i j,x= .int i/\y= .int j/\C i j/\Q (g i j) H
def By(g:Int->Int->V):R2:=fun x y H Q=>∃ i j,x= .int i/\y= .int j/\Q (g i j) H
def rU(g:Int->V):V->Hp->VK->Prop:=fun x H Q=>∃ i,x= .int i/\Q (g i) H
section
variable {X:Cx}{a b c:Expr}{ta tb tc:TE}{pos:Pos}
theorem Ef(ha:PE X a ta)(hb:PE X b tb){R:V->V->Hp->Prop}(I:Inv X pins σ H s)
  (h:ta σ H fun x H1=>tb σ H1 fun y H2=>R x y H2) {f:Value->Value->Sem Value}
  (hf:∀ v u s2 x y H2,Inv X pins σ H2 s2->RelV x v->RelV y u->R x y H2->wpAny (model X.prog X.w) X.A (f v u) Q X.xe s2):
  wpAny (model X.prog X.w) X.A (eval a X.env) (fun v s₁=>wpAny (model X.prog X.w) X.A (eval b X.env) (fun u s₂=>wpAny (model X.prog X.w) X.A (f v u) Q X.xe s₂) X.xe s₁) X.xe s:=by
 refine dy (ha pins s σ H _ I h) fun v s1 ⟨x,H1,I1,r1,q1⟩=>?_;refine dy (hb pins s1 σ H1 _ I1 q1) fun u s2 ⟨y,H2,I2,r2,q2⟩=>?_;exact hf v u s2 x y H2 I2 r1 r2 q2
theorem GE(ho:iR X (binaryOp op) r)(ha:PE X a ta)(hb:PE X b tb):PE X (.BinOp a op b pos) (GD r ta tb):=by
 intro pins s σ H Q I h;exact wpAny_BinOp (Ef ha hb I h fun v u s2 x y H2 I2 rx ry q=>ho pins s2 σ H2 x y v u Q I2 rx ry q)
theorem GF(ho:IA X (unaryOp op) r)(ha:PE X a ta):PE X (.UnaryOp op a pos) (Js r ta):=by
 intro pins s σ H Q I h;exact UnaryOp_ (dy (ha pins s σ H _ I h) fun v s1 ⟨x,H1,I1,r1,q1⟩=>ho pins s1 σ H1 x v Q I1 r1 q1)
theorem HI{f:Value->Value->Sem Value}{C:Int->Int->Prop}{g:Int->Int->Int}
  (Z:∀(i j:Int) (t u:Tok) (s:Shared) (Q:Value->Shared->Prop) (E:Value->Shared->Prop),C i j->Q (.int (g i j) s.toks) {s with toks:=s.toks+1}->wpAny (model X.prog X.w) X.A (f (.int i t) (.int j u)) Q E s):
  iR X f (rI C fun i j=>.int (g i j)):=by
 intro pins s σ H x y v u Q I rx ry h;obtain⟨i,j,rfl,rfl,hc,q⟩:=h;obtain⟨t,rfl⟩:=rx;obtain⟨t',rfl⟩:=ry;exact Z i j t t' s _ _ hc ⟨.int (g i j),H,I.tok _,⟨_,rfl⟩,q⟩
theorem GG{f:Value->Value->Sem Value}{g:Int->Int->Int}
  (Z:∀(i j:Int) (t u:Tok) (s:Shared) (Q:Value->Shared->Prop) (E:Value->Shared->Prop),Q (.int (g i j) s.toks) {s with toks:=s.toks+1}->wpAny (model X.prog X.w) X.A (f (.int i t) (.int j u)) Q E s):
  iR X f (By fun i j=>.int (g i j)):=by
 intro pins s σ H x y v u Q I rx ry h;obtain⟨i,j,rfl,rfl,q⟩:=h;obtain⟨t,rfl⟩:=rx;obtain⟨t',rfl⟩:=ry;exact Z i j t t' s _ _ ⟨.int (g i j),H,I.tok _,⟨_,rfl⟩,q⟩
theorem BO{f:Value->Value->Sem Value}{g:Int->Int->Bool}
  (Z:∀(i j:Int) (t u:Tok) (s:Shared) (Q:Value->Shared->Prop) (E:Value->Shared->Prop),Q (.bool (g i j)) s->wpAny (model X.prog X.w) X.A (f (.int i t) (.int j u)) Q E s):
  iR X f (By fun i j=>.bl (g i j)):=by
 intro pins s σ H x y v u Q I rx ry h;obtain⟨i,j,rfl,rfl,q⟩:=h;obtain⟨t,rfl⟩:=rx;obtain⟨t',rfl⟩:=ry;exact Z i j t t' s _ _ ⟨.bl (g i j),H,I,rfl,q⟩
def y0(i j:Int):Prop:=0<j/\j<1073741824
def BP(i j:Int):Prop:=0<=j/\j<=1000000/\i.natAbs<2 ^ 64
def uV(i j:Int):Prop:=(-(2 ^ 64)<i/\i<2 ^ 64)\/(-(2 ^ 64)<j/\j<2 ^ 64)
theorem uV.ok{i j:Int}(h:uV i j):IntMulOk i j:=by
 rcases h with⟨h1,h2⟩|⟨h1,h2⟩
 ·exact .of_left (intBits_le_64 h1 h2)
 ·exact .of_right (intBits_le_64 h1 h2)
theorem Eg:iR X (binaryOp .Add) (By fun i j=>.int (i+j)):=GG fun _ _ _ _ _ _ _ q=>add_int q
theorem Eh:iR X (binaryOp .Sub) (By fun i j=>.int (i - j)):=GG fun _ _ _ _ _ _ _ q=>sub_int q
theorem Ei:iR X (binaryOp .Mult) (rI uV fun i j=>.int (i*j)):=HI fun _ _ _ _ _ _ _ hc q=>mul_int q hc.ok
theorem BQ:iR X (binaryOp .FloorDiv) (rI y0 fun i j=>.int (i / j)):=HI fun i j _ _ _ _ _ hc q=>by
 have h1:(0:Int)<j:=hc.1;have h2:j<1073741824:=hc.2;exact floordiv_int (by omega) (by rw[Int.fdiv_eq_ediv_of_nonneg i (by omega)];exact q) (.inl (PyProof.noPylong_small (by omega)))
theorem Ej:iR X (binaryOp .Mod) (rI (fun _ j=>0<j) fun i j=>.int (i % j)):=HI fun i j _ _ _ _ _ hc q=>by
 have h1:(0:Int)<j:=hc;exact mod_int' (by omega) (by rw[Int.fmod_eq_emod_of_nonneg i (by omega)];exact q)
theorem El:iR X (binaryOp .Pow) (rI BP fun i j=>.int (i ^ j.toNat)):=HI fun _ _ _ _ _ _ _ hc q=>pow_int_small hc.1 hc.2.1 hc.2.2 q
theorem Jt{f:Value->Sem Value}{g:Int->Int}
  (Z:∀(i:Int) (t:Tok) (s:Shared) (Q:Value->Shared->Prop) (E:Value->Shared->Prop),Q (.int (g i) s.toks) {s with toks:=s.toks+1}->wpAny (model X.prog X.w) X.A (f (.int i t)) Q E s):
  IA X f (rU fun i=>.int (g i)):=by
 intro pins s σ H x v Q I rx h;obtain⟨i,rfl,q⟩:=h;obtain⟨t,rfl⟩:=rx;exact Z i t s _ _ ⟨.int (g i),H,I.tok _,⟨_,rfl⟩,q⟩
theorem Em:IA X (unaryOp .USub) (rU fun i=>.int (-i)):=Jt fun _ _ _ _ _ q=>neg_int q
end
section
variable {X:Cx}{a b c:Expr}{ta tb tc:TE}{pos:Pos}
theorem En{Q:VK}(I:Inv X pins σ H s)(q:Q (.bl k) H)(e:k=k'):EP X pins σ Q (.bool k') s:=by
 subst e;exact⟨.bl k,H,I,rfl,q⟩
theorem y3:iR X (compareOp .Lt) (By fun i j=>.bl (decide (i<j))):=BO fun _ _ _ _ _ _ _ q=>lt_int q
theorem zb:iR X (compareOp .LtE) (By fun i j=>.bl (decide (i<=j))):=BO fun _ _ _ _ _ _ _ q=>le_int q
theorem GH:iR X (compareOp .Gt) (By fun i j=>.bl (decide (j<i))):=BO fun _ _ _ _ _ _ _ q=>gt_int q
theorem GI:iR X (compareOp .GtE) (By fun i j=>.bl (decide (j<=i))):=BO fun _ _ _ _ _ _ _ q=>ge_int q
theorem Eo:iR X (compareOp .Is) (fun x y H Q=>y= .non/\Q (.bl (decide (x= .non))) H):=by
 intro pins s σ H x y v u Q I rx ry h;obtain⟨rfl,q⟩:=h;cases ry;refine is_none_gen (En I q ?_);cases x<;>first
  |(cases rx;rfl)
  |(obtain⟨t,rfl⟩:=rx;rfl)
theorem iR.or{r r':R2}(h:iR X f r)(h':iR X f r'):iR X f (fun x y H Q=>r x y H Q\/r' x y H Q):=by
 intro pins s σ H x y v u Q I rx ry q;rcases q with q|q
 ·exact h pins s σ H x y v u Q I rx ry q
 ·exact h' pins s σ H x y v u Q I rx ry q
theorem IB(b:Expr)(h:op≠ .In:=by decide)(h2:op≠ .NotIn:=by decide):behindInMarks op b=false:=by
 have e1:(op==CmpOp.In)=false:=by cases op<;>first|rfl|exact absurd rfl h
 have e2:(op==CmpOp.NotIn)=false:=by cases op<;>first|rfl|exact absurd rfl h2
 cases b<;>simp[behindInMarks,e1,e2]
theorem BR(ho:iR X (compareOp op) r)(ha:PE X a ta)(hb:PE X b tb)(hm:behindInMarks op b=false):PE X (.Compare a [op] [b] pos) (GD r ta tb):=by
 intro pins s σ H Q I h;exact wpAny_Compare1 (Ef ha hb I h fun v u s2 x y H2 I2 rx ry q=>ho pins s2 σ H2 x y v u Q I2 rx ry q) hm
def Du(t:TE):TT:=fun σ H Q=>t σ H fun x H'=>∃ k,x= .bl k/\Q k H'
theorem BS(ho:iR X (compareOp op) r)(ha:PE X a ta)(hb:PE X b tb)(hm:behindInMarks op b=false):PT X (.Compare a [op] [b] pos) (Du (GD r ta tb)):=by
 intro pins s σ H Q I h;refine wpAny_isTrue_Compare1 (dy (ha pins s σ H _ I h) fun v s1 ⟨x,H1,I1,r1,q1⟩=>dy (hb pins s1 σ H1 _ I1 q1) fun u s2 ⟨y,H2,I2,r2,q2⟩=>
  dy (ho pins s2 σ H2 x y v u _ I2 r1 r2 q2) fun c s3 ⟨z,H3,I3,r3,k,e,q3⟩=>?_) hm
 subst e;cases r3;exact KW ⟨H3,I3,q3⟩
def uW(r r':R2)(ta tb tc:TE):TE:=fun σ H Q=>ta σ H fun x H1=>tb σ H1 fun y H2=>r x y H2 fun z H3=>∃ k,z= .bl k/\
 (if k=true then tc σ H3 fun w' H4=>r' y w' H4 Q else Q (.bl false) H3)
theorem zd(ho:iR X (compareOp op) r)(Z:iR X (compareOp op') r')(ha:PE X a ta)(hb:PE X b tb)(hc:PE X c tc)
  (hm:lastMarks [op,op'] [b,c]=false:=by with_unfolding_all rfl):PE X (.Compare a [op,op'] [b,c] pos) (uW r r' ta tb tc):=by
 intro pins s σ H Q I h;refine Compare_chain (dy (ha pins s σ H _ I h) fun v s1 ⟨x,H1,I1,r1,q1⟩=>chain_link (dy (hb pins s1 σ H1 _ I1 q1) fun u s2 ⟨y,H2,I2,r2,q2⟩=>
  dy (ho pins s2 σ H2 x y v u _ I2 r1 r2 q2) fun d s3 ⟨z,H3,I3,r3,k,e,q3⟩=>?_)) hm
 subst e;cases r3;refine KW ?_;cases k with
 |false=>exact ite_ff ⟨.bl false,H3,I3,rfl,q3⟩
 |true=>exact ite_tt (chain_last (dy (hc pins s3 σ H3 _ I3 q3) fun w' s4 ⟨z',H4,I4,r4,q4⟩=>Z pins s4 σ H4 y z' u w' Q I4 r2 r4 q4))
theorem zh(ho:iR X (compareOp op) r)(Z:iR X (compareOp op') r')(ha:PE X a ta)(hb:PE X b tb)(hc:PE X c tc)
  (hm:lastMarks [op,op'] [b,c]=false:=by with_unfolding_all rfl):PT X (.Compare a [op,op'] [b,c] pos) (Du (uW r r' ta tb tc)):=by
 intro pins s σ H Q I h;refine isTrue_chain (dy (ha pins s σ H _ I h) fun v s1 ⟨x,H1,I1,r1,q1⟩=>test_link (dy (hb pins s1 σ H1 _ I1 q1) fun u s2 ⟨y,H2,I2,r2,q2⟩=>
  dy (ho pins s2 σ H2 x y v u _ I2 r1 r2 q2) fun d s3 ⟨z,H3,I3,r3,k,e,q3⟩=>?_)) hm
 subst e;cases r3;refine KW ?_;cases k with
 |false=>
  obtain⟨k',e',q'⟩:=q3;cases e';exact ite_ff ⟨H3,I3,q'⟩
 |true=>
  refine ite_tt (test_last (dy (hc pins s3 σ H3 _ I3 q3) fun w' s4 ⟨z',H4,I4,r4,q4⟩=>dy (Z pins s4 σ H4 y z' u w' _ I4 r2 r4 q4) fun d' s5 ⟨z2,H5,I5,r5,k2,e2,q5⟩=>?_));subst e2;cases r5;exact KW ⟨H5,I5,q5⟩
theorem nI:(sizeLine:Nat)<2 ^ 63:=by rw[KN];decide
theorem vals1(r:bj [x] us):∃ u,us=[u]/\RelV x u:=by
 cases r with
 |cons r1 r2=>cases r2;exact⟨_,rfl,r1⟩
theorem vals2(r:bj [x,y] us):∃ u w',us=[u,w']/\RelV x u/\RelV y w':=by
 cases r with
 |cons r1 r2=>
  cases r2 with
  |cons r3 r4=>cases r4;exact⟨_,_,rfl,r1,r3⟩
theorem xE(hc:X.calm=true):dH X (.builtin "max") (fun xs H Q=>∃ i j,xs=[.int i,.int j]/\Q (.int (if j>i then j else i)) H):=by
 intro pins s σ H xs us Q I r h;obtain⟨i,j,rfl,q⟩:=h;obtain⟨u,w',rfl,⟨t,rfl⟩,⟨t',rfl⟩⟩:=vals2 r;refine max_two_ints (I.ok.hd hc) fun h' tk k=>⟨_,H,I.kept k,?_,q⟩;by_cases hj:j>i
 ·rw[if_pos hj,if_pos hj];exact⟨_,rfl⟩
 ·rw[if_neg hj,if_neg hj];exact⟨_,rfl⟩
theorem xF(hc:X.calm=true):dH X (.builtin "min") (fun xs H Q=>∃ i j,xs=[.int i,.int j]/\Q (.int (if j<i then j else i)) H):=by
 intro pins s σ H xs us Q I r h;obtain⟨i,j,rfl,q⟩:=h;obtain⟨u,w',rfl,⟨t,rfl⟩,⟨t',rfl⟩⟩:=vals2 r;refine min_two_ints (I.ok.hd hc) fun h' tk k=>⟨_,H,I.kept k,?_,q⟩;by_cases hj:j<i
 ·rw[if_pos hj,if_pos hj];exact⟨_,rfl⟩
 ·rw[if_neg hj,if_neg hj];exact⟨_,rfl⟩
end
end L2
namespace L2
open PySem PySem.Spec PyProof.Rows
structure ObjM(h:Heap)(x dx C:Addr)(mA:Str->Option Value):Prop where
 obj:h.get? x=some (W.instObj C dx)
 ns:h.Ns1 dx mA
 ne:dx≠x
theorem xG{h:Heap}{mA:Str->Option Value}(n:h.Ns1 dx mA):∃ od,h.get? dx=some od/\∀ name,W.lookIn name od=some (mA name):=by
 obtain⟨o,es,ep,ho,hd,hk,_,hm⟩:=n;refine⟨o,ho,fun name=>?_⟩;have e:=hm name;unfold nsFind findBy at e;rw[<-MU]at e;unfold W.lookIn;rw[hd];dsimp only;split
 ·rename_i y q
  rw[q]at e;exact My some e
 ·rename_i q
  rw[q]at e;have a:es.toList.any (·.refKey)=false:=by
   rw[List.any_eq_false];intro y hy;obtain⟨z,t,Z⟩:=hk y (MF.mp hy);simp[DictEntry.refKey,Z]
  have a':¬ es.toList.any (·.refKey)=true:=by rw[a];exact La
  rw[if_neg a'];exact My some e
theorem ObjM.look{mA:Str->Option Value}(I:ObjM h x dx C mA):∃ od,W.InstAt h x (W.instObj C dx) C (some od)/\∀ name,W.lookIn name od=some (mA name):=
 let ⟨od,ho,hl⟩:=xG I.ns
 ⟨od,⟨I.obj,rfl,rfl,ho⟩,hl⟩
section
variable {prog:Program}{w:World}{A:Around}{E:Value->Shared->Prop}{s:Shared}{K:W.Frag}{x dx C f:Addr}{mA:Str->Option Value}{name:Str}{v:Value}
end
theorem qX.some_of(r:qX (some v) o):∃ u,o=some u/\RelV v u:=by
 cases o with
 |none=>exact(show False from r).elim
 |some u=>exact⟨u,rfl,r⟩
theorem xH(r:RelV v u):W.handedIn u=true:=by
 cases v with
 |non=>cases (show u=Value.none from r);rfl
 |bl b=>cases (show u=Value.bool b from r);rfl
 |int i=>obtain⟨t,e⟩:=(show ∃ t,u=Value.int i t from r);cases e;rfl
 |str x=>obtain⟨t,e⟩:=(show ∃ t,u=Value.str x t from r);cases e;rfl
 |byt b=>obtain⟨t,e⟩:=(show ∃ t,u=Value.bytes b t from r);cases e;rfl
 |flt b=>obtain⟨t,e⟩:=(show ∃ t,u=Value.float b t from r);cases e;rfl
 |ref a=>cases (show u=Value.ref a from r);rfl
 |ty n=>cases (show u=Value.type n from r);rfl
section
variable {P:Program}{w:World}{H H':Hp}{h h':Heap}{a C dx:Addr}{fs fs':List (Str×V)}
theorem eI(hok:fP P w H h)(e:H a=some (.ins C dx fs)):∃ mA,ObjM h a dx C mA/\(∀ f,qX (fs.lookup f) (mA f))/\PySem.Within mA (fs.map (·.1))/\fs.length<=1000/\H dx=some (.own a):=by
 obtain⟨d,z,ne,ob,mA,n,r,q⟩:=(show bo P w H h a (.ins C dx fs)from hok a _ e);exact⟨mA,⟨ob,n,ne⟩,r,q,z,d⟩
end
structure Cls(K:W.Frag)(C:Addr):Prop where
 pg:W.plainGet K C Str.empty=true
 hd:W.hasDictIn K C=true
 po:W.plainOver K C=true
 sa:W.findIn K (.ref C) "__setattr__"=some (some (.builtin "object.__setattr__"))
theorem Cls.get{K:W.Frag}{C:Addr}(c:Cls K C)(f:Str):W.plainGet K C f=true:=c.pg
structure Con(K:W.Frag)(C:Addr)(f:Str)(v:V)(u:Value):Prop where
 at_:W.findIn K (.ref C) f=some (some u)
 rel:RelV v u
 get:W.specialIn K u "__get__"=some none
 cp:W.copiedNames.contains f=false
structure Meth(K:W.Frag)(C:Addr)(m:Str)(f:Addr):Prop where
 at_:W.findIn K (.ref C) m=some (some (.ref f))
 fn:W.isFn K (.ref f)=true
 kp:W.keepIn K (.ref f)=true
section
variable {X:Cx}{pins:List (Addr×Obj)}{σ:St}{H:Hp}{s:Shared}{a C dx:Addr}{fs:List (Str×V)}{f:Str}{v:V}{A:Around}{E:Value->Shared->Prop}
theorem BU(hb:attributeBase e f env (eval e env)=eval e env)
  (h:wpAny (model prog w) A (eval e env) (fun o s₁=>wpAny (model prog w) A (getAttr o f true) Q E s₁) E s):wpAny (model prog w) A (eval (.Attribute e f pos) env) Q E s:=
 Attribute_any_ h (by rw[arm_eval_Attribute,hb])
end
section
variable {X:Cx}{o e value:Expr}{f:Str}{pos pos' tpos:Pos}{ta tv:TE}
end
section
variable {X:Cx}{pins:List (Addr×Obj)}{σ:St}{H:Hp}{s:Shared}{A:Around}{E:Value->Shared->Prop}{Q:Value->Shared->Prop}{c:Value}{b:Bool}
inductive TyOf(K:W.Frag)(H:Hp):V->Value->Prop where
 |non:TyOf K H .non (.type "NoneType")
 |bl (x:Bool):TyOf K H (.bl x) (.type "bool")
 |int (i:Int):TyOf K H (.int i) (.type "int")
 |str (x:Str):TyOf K H (.str x) (.type "str")
 |flt (x:UInt64):TyOf K H (.flt x) (.type "float")
 |lst {a:Addr} {xs:List V} (e:H a=some (.lst xs)):TyOf K H (.ref a) (.type "list")
 |frz {a:Addr} {o:Obj} {xs:List V} (e:H a=some (.frz o (.lst xs))):TyOf K H (.ref a) (.type "list")
 |tup {a:Addr} {xs:List V} (e:H a=some (.tup xs)):TyOf K H (.ref a) (.type "tuple")
 |dK {a:Addr} {kvs:List (Key×V)} (e:H a=some (.dK kvs)):TyOf K H (.ref a) (.type "dict")
 |dT {a:Addr} {kvs:List (List Key×V)} (e:H a=some (.dT kvs)):TyOf K H (.ref a) (.type "dict")
 | ins {a C dx:Addr} {fs:List (Str×V)} (e:H a=some (.ins C dx fs)) (cl:Cls K C) (ha:W.findIn K (.ref C) "__class__"=some (some (.builtin "object.__class__")))
   (hn:W.specialIn K (.builtin "object.__class__") "__get__"=some (some (.builtin "getset_descriptor.__get__"))) (htk:W.takesIn K (.builtin "object.__class__")=some true)
   (hm:W.mroIn K C (.type "object")=some true):TyOf K H (.ref a) (.ref C)
theorem xI(I:Inv X pins σ H s)(rx:RelV x u)(ty:TyOf X.K H x t)(e:W.kitOne X.K t c=some b)(h:∀ tk,Q (.bool b) {s with toks:=tk}):
  wpAny (model X.prog X.w) A (call (.builtin "isinstance") [u,c]) Q E s:=by
 cases ty with
 |non=>cases (show u=Value.none from rx);exact Kz M5 I.kIn True.intro e (fun z=>nomatch z) h
 |bl y=>cases (show u=Value.bool y from rx);exact Kz W.kitx_bool I.kIn True.intro e (fun z=>nomatch z) h
 |int i=>obtain⟨t,q⟩:=(show ∃ t,u=Value.int i t from rx);cases q;exact Kz W.kitx_int I.kIn True.intro e (fun z=>nomatch z) h
 |str y=>obtain⟨t,q⟩:=(show ∃ t,u=Value.str y t from rx);cases q;exact Kz W.kitx_str I.kIn True.intro e (fun z=>nomatch z) h
 |flt y=>obtain⟨t,q⟩:=(show ∃ t,u=Value.float y t from rx);cases q;exact Kz W.kitx_float I.kIn True.intro e (fun z=>nomatch z) h
 | @lst a xs ea=>
  cases (show u=Value.ref a from rx);obtain⟨_,_,n,_,h1⟩:=(show bo X.prog X.w H s.heap a (.lst xs)from I.hok a _ ea);exact Kz Ms I.kIn ⟨_,h1,rfl⟩ e (fun z=>nomatch z) h
 | @frz a ob xs ea=>
  cases (show u=Value.ref a from rx);obtain⟨_,_,_,n,_,h1⟩:=(show bo X.prog X.w H s.heap a (.frz ob (.lst xs))from I.hok a _ ea);exact Kz Ms I.kIn ⟨_,h1,rfl⟩ e (fun z=>nomatch z) h
 | @tup a xs ea=>
  cases (show u=Value.ref a from rx);obtain⟨_,_,_,p⟩:=(show bo X.prog X.w H s.heap a (.tup xs)from I.hok a _ ea);obtain⟨o,h1,h2,_⟩:=p;exact Kz W.kitx_tuple I.kIn ⟨o,h1,h2⟩ e (fun z=>nomatch z) h
 | @dK a kvs ea=>
  cases (show u=Value.ref a from rx);obtain⟨_,_,vs,_,p⟩:=(show bo X.prog X.w H s.heap a (.dK kvs)from I.hok a _ ea);obtain⟨o,es,ep,h1,h2,_⟩:=p;exact Kz Mt I.kIn ⟨o,h1,h2.1⟩ e (fun z=>nomatch z) h
 | @dT a kvs ea=>
  cases (show u=Value.ref a from rx);obtain⟨_,_,xs,_,o,es,ep,h1,h2,_⟩:=(show bo X.prog X.w H s.heap a (.dT kvs)from I.hok a _ ea);exact Kz Mt I.kIn ⟨o,h1,h2.1⟩ e (fun z=>nomatch z) h
 | @ins a C dx fs ea cl ha hn htk hm=>
  cases (show u=Value.ref a from rx);obtain⟨mA,O,_⟩:=eI I.hok ea;obtain⟨od,J,_⟩:=O.look;exact Kz (W.kitx_own (cl.get _) cl.hd ha hn htk hm) I.kIn J e (fun z=>nomatch z) h
end
end L2
namespace L2
open PySem PySem.Spec PyProof.Rows
structure Room(k:Nat)(A:Around):Prop where
 hd:A.handled=none
 dp:A.depth+3*k+5<recursionLimit
 un:A.units+16*k+200<cLine
theorem Room.mono(r:Room k A)(h:j<=k):Room j A:=⟨r.hd,by have:=r.dp;omega,by have:=r.un;omega⟩
theorem Room.deeper(r:Room (k+1) A)(env:Env):Room k (A.deeper env):=
 ⟨r.hd,by have:=r.dp;show A.depth+1+3*k+5<_;omega,by have:=r.un;show A.units+3+16*k+200<_;omega⟩
theorem uX{A:Around}:(A.under (.builtin "type.__call__" ⟨.ref C::us,kw⟩)).depth=A.depth+1:=by
 first|rfl|simp[Around.under,Code.weight,Code.isCreation,Code.isGuard,Code.isCaller,Code.frames,Code.isFrame,guardIds]
theorem uY{A:Around}:(A.under (.builtin "type.__call__" ⟨.ref C::us,kw⟩)).units=A.units+1:=by
 first|rfl|simp[Around.under,Code.cUnits,Code.frames,Code.isFrame]
theorem Room.make(r:Room (k+1) A)(C:Addr)(us:List Value)(kw:List (Str×Value)):Room k (A.under (.builtin "type.__call__" ⟨.ref C::us,kw⟩)):=
 ⟨r.hd,by have:=r.dp;rw[uX];omega,by have:=r.un;rw[uY];omega⟩
theorem Room.depth(r:Room k A):A.depth<recursionLimit:=by have:=r.dp;omega
def IC:TA:=fun _ H Q=>Q [] H
def GJ(ta:TE)(tr:TA):TA:=fun σ H Q=>ta σ H fun x H1=>tr σ H1 fun xs H2=>Q (x::xs) H2
section
variable {X:Cx}{e:Expr}{es:List Expr}{te:TE}{t:TA}{pos:Pos}
theorem jm:PA X [] IC:=fun _ _ _ _ H Q I h=>Calls.spliced_nil ⟨[],H,I,.nil,h⟩
theorem eJ(ha:PE X e te)(hr:PA X es t)(hs:starEach (e::es) X.env=(false,eval e X.env)::starEach es X.env:=by rfl):PA X (e::es) (GJ te t):=by
 intro pos pins s σ H Q I h;rw[hs];show wpAny _ _ (spliced ((false,eval e X.env)::backTo pos (starEach es X.env))) _ _ s;refine Calls.spliced_cons (dy (ha pins s σ H _ I h) fun u s1 ⟨x,H1,I1,r1,q1⟩=>?_);exact dy (hr pos pins s1 σ H1 _ I1 q1) fun us s2 ⟨xs,H2,I2,r2,q2⟩=>⟨x::xs,H2,I2,.cons r1 r2,q2⟩
def ID(t:TA):TE:=fun σ H Q=>t σ H fun xs H1=>xs.length<=sizeLine/\∀ p,H1 p=none->Q (.ref p) (upd H1 p (.tup xs))
def IE(t:TA):TE:=fun σ H Q=>t σ H fun xs H1=>xs.length<=sizeLine/\∀ p,H1 p=none->Q (.ref p) (upd H1 p (.lst xs))
theorem zj{x1}(h:PA X es t):PE X (.Tuple es x1 pos) (ID t):=by
 intro pins s σ H Q I hq;refine wpAny_Tuple_spliced (dy (h pos pins s σ H _ I hq) fun us s1 ⟨xs,H1,I1,r,z,q⟩=>⟨by rw[<-r.length];exact z,?_⟩)
 have hf:H1 s1.heap.objs.size=none:=I1.hok.fresh (JK _);refine⟨.ref s1.heap.objs.size,upd H1 s1.heap.objs.size (.tup xs),I1.laid (t':=s1.toks) (fun b u e=>JH _ e) (JK _) ?_,rfl,q _ hf⟩;exact⟨z,us,r,⟨_,JP _ rfl,rfl,_,rfl⟩⟩
theorem Ep(h:PA X es t):PE X (.List es pos) (IE t):=by
 intro pins s σ H Q I hq;refine wpAny_List_spliced (dy (h pos pins s σ H _ I hq) fun us s1 ⟨xs,H1,I1,r,z,q⟩=>⟨by rw[<-r.length];exact z,?_⟩)
 have hf:H1 s1.heap.objs.size=none:=I1.hok.fresh (JK _);refine⟨.ref s1.heap.objs.size,upd H1 s1.heap.objs.size (.lst xs),I1.laid (t':=s1.toks) (fun b u e=>JH _ e) (JK _) ?_,rfl,q _ hf⟩;exact⟨z,us,0,r,JP _ rfl⟩
end
abbrev Sp:=List V->Hp->VK->XK->Prop
abbrev yR:=List Env->Hp->Shared->XK->Value->Shared->Prop
structure aM(P:Program)(w:World)(K:W.Frag)(mg:Str->Option Value)(base:Heap)(A:Around)(outer:List Env)(s:Shared)(H:Hp):Prop where
 frames:A.frames=some outer
 mod:Mod K mg base
 bs:∀ b o,base.get? b=some o->s.heap.get? b=some o/\H b=none
 bsz:base.objs.size<=s.heap.objs.size
 funs:s.heap.FunFrames base outer
 frf:∀ b∈jj outer,H b=none
 hok:fP P w H s.heap
 bare:AllBare s.gens
def CE(outer:List Env)(P:Program)(w:World)(H:Hp)(s:Shared)(Q:VK)(u:Value)(s':Shared):Prop:=
 ∃ v H',s'.os=s.os/\AllBare s'.gens/\Un (jj outer) [] H H' s.heap s'.heap/\fP P w H' s'.heap/\RelV v u/\Q v H'
def CR(CX:yR)(outer:List Env)(P:Program)(w:World)(H:Hp)(s:Shared)(Q:VK)(E:XK)(r:Result)(s':Shared):Prop:=
 match r with
 | .ok (.ret u)=>CE outer P w H s Q u s'
 | .ok _=>False
 | .error e=>CX outer H s E e s'
structure FnOk(P:Program)(w:World)(K:W.Frag)(mg:Str->Option Value)(base:Heap)(CX:yR)(k:Nat)(f:Addr)(fd:FuncData)(ps:List Str)(sp:Sp):Prop where
 len:∀ vs H Q E,sp vs H Q E->vs.length=ps.length
 run:∀(A:Around) (outer:List Env) (s:Shared) (H:Hp) (args:Args) (us:List Value) (vs:List V) (Q:VK) (E:XK),Room k A->aM P w K mg base A outer s H->BindsTo s fd args (ps.zip us)->bj vs us->sp vs H Q E->
  codeAny (model P w) A (.call (.ref f) args) (CR CX outer P w H s Q E) s
theorem aM.make{P:Program}{w:World}{K:W.Frag}{mg:Str->Option Value}{base:Heap}{A:Around}{outer:List Env}{s:Shared}{H:Hp}(e:aM P w K mg base A outer s H)(C:Addr)(us:List Value)(kw:List (Str×Value)):
  aM P w K mg base (A.under (.builtin "type.__call__" ⟨.ref C::us,kw⟩)) outer s H:=⟨by first|exact e.frames|(simpa [Around.under,Code.envs,Code.isFrame,pushEnvs]using e.frames),e.mod,e.bs,e.bsz,e.funs,e.frf,e.hok,e.bare⟩
section
variable {X:Cx}{pins:List (Addr×Obj)}{σ:St}{H:Hp}{s s':Shared}
theorem Inv.env0(I:Inv X pins σ H s):aM X.prog X.w X.K X.mg X.base X.A X.stack s H:=
 ⟨I.ok.frames,I.ok.mod,I.bs,JV I.ok.bsz I.sz,I.stack,I.stkFree,I.hok,I.bare⟩
theorem Inv.after(I:Inv X pins σ H s)(h:CE X.stack X.prog X.w H s Q u s'):EP X pins σ Q u s':=by
 obtain⟨v,H',os,bare,un,hok,r,q⟩:=h;obtain⟨hh,g,d,t,Z⟩:=s';obtain rfl:Z=s.os:=os;exact⟨v,H',I.call (h':=hh) (g':=g) (d':=d) (t':=t) (ch:=[]) un hok bare (fun b z=>absurd z (by simp)),r,q⟩
end
def GK(sp:Sp)(dvs:List V)(E:XK)(t:TA):TE:=fun σ H Q=>t σ H fun vs H1=>sp (vs++dvs) H1 Q E
def Binds(K:W.Frag)(fd:FuncData)(ps:List Str)(ds:List Value):Prop:=
 ∀(s:Shared) (us:List Value),K.In s.heap->(us++ds).length=ps.length->BindsTo s fd ⟨us,[]⟩ (ps.zip (us++ds))
theorem Binds.all{K:W.Frag}{fd:FuncData}{ps:List Str}(h:∀ us:List Value,us.length=ps.length->bindArgs fd ⟨us,[]⟩=pure (ps.zip us)):Binds K fd ps []:=fun s us _ hl=>by
 rw[Kd]at hl ⊢;exact .of_eq (h us hl)
def nJ(CX:yR)(X:Cx)(E:XK):Prop:=∀(pins:List (Addr×Obj)) (σ:St) (H:Hp) (s:Shared) (e:Value) (s':Shared),Inv X pins σ H s->CX X.stack H s E e s'->X.xe e s'
section
variable {X:Cx}{CX:yR}{k:Nat}{f C:Addr}{fd:FuncData}{ps:List Str}{sp:Sp}{dvs:List V}{ds:List Value}{E:XK}{x m:Str}{p pos apos:Pos}{e o:Expr}{es:List Expr}{ta:TE}{t:TA}
theorem Er(F:FnOk X.prog X.w X.K X.mg X.base CX k f fd ps sp)(hr:Room k X.A)(hb:Binds X.K fd ps ds)(hd:bj dvs ds)(hx:nJ CX X E)
  (I:Inv X pins σ H s) (r:bj vs us) (h:sp (vs++dvs) H Q E):wpAny (model X.prog X.w) X.A (call (.ref f) us) (EP X pins σ Q) X.xe s:=by
 have r2:bj (vs++dvs) (us++ds):=r.append hd;have hl:(us++ds).length=ps.length:=by rw[<-r2.length];exact F.len _ _ _ _ h
 refine Mu (Lu (F.run X.A X.stack s H ⟨us,[]⟩ (us++ds) (vs++dvs) Q E hr I.env0 (hb s us I.kIn hl) r2 h) fun r s' hq=>?_);cases r with
 |error e=>exact hx pins σ H s e s' I hq
 |ok fl=>
  cases fl with
  |ret u=>exact I.after hq
  |next=>exact False.elim hq
  |brk=>exact False.elim hq
  |cont=>exact False.elim hq
theorem rh(F:FnOk X.prog X.w X.K X.mg X.base CX k f fd ps sp)(hr:Room k X.A)(hg:Gl X x)(hm:X.mg x=some (.ref f))(hk:W.keepIn X.K (.ref f)=true)(hb:Binds X.K fd ps ds)(hd:bj dvs ds)(hx:nJ CX X E)
  (ha:PA X (e::es) t) (Z:(x==("__debug__":Str))=false:=by decide) (he:starEach (e::es) X.env=(false,eval e X.env)::starEach es X.env:=by rfl) (Y:(backTo pos (starEach es X.env)).any (·.1)=false:=by rfl):
  PE X (.Call (.Name x p) (e::es) [] pos) (GK sp dvs E t):=by
 intro pins s σ H Q I h;refine LK (jQ I hg hm ?_ Z);refine W.callWith_K (h₀:=X.base) I.ok.mod.kin hk (dy (ha pos pins s σ H _ I h) fun us s1 ⟨vs,H1,I1,r,q⟩=>⟨I1.kIn,?_⟩) he Y;exact Er F hr hb hd hx I1 r q
structure Mk(K:W.Frag)(C f:Addr):Prop where
 makes:W.makesIn K C=true
 init:W.findIn K (.ref C) "__init__"=some (some (.ref f))
 fn:W.isFn K (.ref f)=true
 kp:W.keepIn K (.ref C)=true
end
section
variable {X:Cx}{CX:yR}{k:Nat}{f C:Addr}{fd:FuncData}{ps ks:List Str}{sp:Sp}{E:XK}{x m:Str}{p pos apos kpos:Pos}{e o:Expr}{es:List Expr}{kws:List Keyword}{te ta:TE}{t tk:TA}{nm:Option Str}
structure KBinds(K:W.Frag)(fd:FuncData)(ps ks:List Str)(g:List Value->List Value->List Value)(gV:List V->List V->List V):Prop where
 to:∀(s:Shared) (us ws:List Value),K.In s.heap->(g us ws).length=ps.length->BindsTo s fd ⟨us,ks.zip ws⟩ (ps.zip (g us ws))
 rel:∀{vs:List V} {us:List Value} {zs:List V} {ws:List Value},bj vs us->bj zs ws->bj (gV vs zs) (g us ws)
variable {g:List Value->List Value->List Value}{gV:List V->List V->List V}
end
structure FnScope(N P:List Str)(sc:Scope):Prop where
 kind:sc.kind= .function
 co:sc.isCoroutine=false
 gen:sc.isGenerator=false
 nd:N.Nodup
 pre:N.take P.length=P
 par:∀ x∈P,sc.names.lookup x=some .local\/sc.names.lookup x=some .cell
 nofree:∀ y∈sc.names,y.2≠ .free
theorem qf{kindOf:Str->Option NameKind}{x:Str}:∀{binds:List (Str×Value)} {m:Str->Option Value},(∀ v,(x,v) ∉ binds)->bindL kindOf binds m x=m x
 |[],_,_=>rfl
 | (n,v)::r,m,h=>by
  unfold bindL;rw[qf fun w hw=>h w (JR _ hw)];split
  ·have:x≠n:=by rintro rfl;exact h v JX
   simp[this]
  ·rfl
theorem qg{kindOf:Str->Option NameKind}{x:Str}:∀{binds:List (Str×Value)} {m:Str->Option Value},(∀ v,(x,v) ∉ binds)->bindC kindOf binds m x=m x
 |[],_,_=>rfl
 | (n,v)::r,m,h=>by
  unfold bindC;rw[qg fun w hw=>h w (JR _ hw)];split
  ·rfl
  ·have:x≠n:=by rintro rfl;exact h v JX
   simp[this]
theorem qh{kindOf:Str->Option NameKind}:∀{P:List Str} {vs:List Value} {i:Nat} {m:Str->Option Value},P.Nodup->P[i]? =some x->vs[i]? =some v->kindOf x=some .local->
  bindL kindOf (P.zip vs) m x=some v
 |[],_,_,_,_,h,_,_=>by simp at h
 |_::_,[],_,_,_,_,h,_=>by simp at h
 |p::P,w::vs,0,m,nd,h1,h2,hk=>by
  simp at h1 h2;subst h1;subst h2;show bindL kindOf ((p,w)::P.zip vs) m p=_;unfold bindL;rw[qf fun v hv=>(Ku.mp nd).1 (Mg hv).1,if_pos hk];simp
 |p::P,w::vs,i+1,m,nd,h1,h2,hk=>by
  show bindL kindOf ((p,w)::P.zip vs) m x=_;unfold bindL;exact qh (i:=i) (Ku.mp nd).2 (by simpa using h1) (by simpa using h2) hk
theorem qi{kindOf:Str->Option NameKind}:∀{P:List Str} {vs:List Value} {i:Nat} {m:Str->Option Value},P.Nodup->P[i]? =some x->vs[i]? =some v->kindOf x≠some .local->
  bindC kindOf (P.zip vs) m x=some v
 |[],_,_,_,_,h,_,_=>by simp at h
 |_::_,[],_,_,_,_,h,_=>by simp at h
 |p::P,w::vs,0,m,nd,h1,h2,hk=>by
  simp at h1 h2;subst h1;subst h2;show bindC kindOf ((p,w)::P.zip vs) m p=_;unfold bindC;rw[qg fun v hv=>(Ku.mp nd).1 (Mg hv).1,if_neg hk];simp
 |p::P,w::vs,i+1,m,nd,h1,h2,hk=>by
  show bindC kindOf ((p,w)::P.zip vs) m x=_;unfold bindC;exact qi (i:=i) (Ku.mp nd).2 (by simpa using h1) (by simpa using h2) hk
def start(N:List Str)(vs:List V):St:=vs.map some++List.replicate (N.length - vs.length) none
def jf(CX:yR)(P:Program)(w:World)(K:W.Frag)(mg:Str->Option Value)(base:Heap)(N:List Str)(qual:Str)(scope:Scope)(f:Addr)(cd:Value)(A:Around)(outer:List Env)(s:Shared)(H:Hp)(E:XK):Cx where
 prog:=P
 w:=w
 K:=K
 mg:=mg
 base:=base
 A:=A.deeper (envOfC qual scope s.heap.objs.size f cd)
 N:=N
 s₀:=s
 H₀:=H
 env:=envOfC qual scope s.heap.objs.size f cd
 outer:=outer
 stack:=envOfC qual scope s.heap.objs.size f cd::outer
 ex:=[]
 calm:=true
 fn:=fun _=>true
 pn:=[]
 xe:=fun e s'=>wpAny (model P w) (A.deeper (envOfC qual scope s.heap.objs.size f cd)) (leaving (envOfC qual scope s.heap.objs.size f cd) e) (fun _ s''=>CX outer H s E e s'') (fun e' s''=>CX outer H s E e' s'') s'
theorem tm{sc:Scope}(h:sc.names.lookup x=some .cell):∃ c,(cellsFrom n sc.names []).lookup x=some c:=by
 have q:=Mo sc.names n [] (.inl h);exact KY.mp q
theorem xJ{CX:yR}{P:Program}{w:World}{K:W.Frag}{mg:Str->Option Value}{base:Heap}{N ps:List Str}{qual:Str}{scope:Scope}{f:Addr}{cd:Value}{A:Around}{outer:List Env}{s s1:Shared}{H:Hp}{E:XK}{us:List Value}{vs:List V}
  (S:FnScope N ps scope) (hd:A.handled=none) (e0:aM P w K mg base A outer s H) (hl:vs.length=ps.length) (r:bj vs us)
  (x:InCallC s s.heap.objs.size (bindL (envOfC qual scope s.heap.objs.size f cd).kindOf (ps.zip us) fun _=>none) (cellsFrom (s.heap.objs.size+1) scope.names []) (bindC (envOfC qual scope s.heap.objs.size f cd).kindOf (ps.zip us) fun _=>none) s1):
  Inv (jf CX P w K mg base N qual scope f cd A outer s H E) [] (start N vs) H s1:=by
 have U:ps.length<=N.length:=by have:=My List.length S.pre;rw[KQ]at this;omega
 obtain⟨h1,tk,rfl,hk⟩:=x.done;have Z:∀ b:Addr,b ∉ (jf CX P w K mg base N qual scope f cd A outer s H E).ex:=fun b z=>absurd (show b∈([]:List Addr)from z) (by simp)
 refine⟨⟨e0.mod,S.kind,rfl,rfl,JK _,fun y z c h1 h2=>?_,fun y hy=>?_,fun y c _ h=>?_,fun _=>hd,Around.frames_deeper e0.frames,.inr ⟨rfl,rfl⟩,fun b z=>absurd z (Z b),e0.bs,e0.bsz,fun b _ _=>Z b,fun b z=>absurd z (Z b),e0.funs,e0.frf⟩,
  rfl,e0.bare,Un.kept hk,⟨_,x.toInCall.ns,fun i y v h1 h2 h3=>?_⟩,fun y c h=>⟨_,x.cell y c h⟩,e0.hok.fresh (JK _),fun y c h=>?_,fun p hp=>absurd (show p∈([]:List (Addr×Obj))from hp) (by simp),e0.hok.kept hk,?_⟩
 ·exact name_of_addr x.apart (Lv h1) (Lv h2)
 ·have hy:scope.names.lookup y=some .cell\/scope.names.lookup y=some .free:=hy;rcases hy with hy|hy
  ·exact tm hy
  ·exact absurd rfl (S.nofree _ (Lv hy))
 ·exact Lk (x.above y c (Lv h))
 ·have hi:i<vs.length:=by
   unfold start at h2;by_cases hi:i<vs.length
   ·exact hi
   ·rw[LZ (by simpa using hi)]at h2
    rw[List.getElem?_replicate]at h2;split at h2<;>cases h2
  have ha:vs[i]? =some v:=by
   unfold start at h2;rw[Kl (by simpa using hi),J6]at h2
   cases e:vs[i]? with
   |none=>rw[e]at h2;cases h2
   |some a=>rw[e]at h2;cases h2;rfl
  obtain⟨u,hu,rv⟩:=r.get ha;have hp:ps[i]? =some y:=by
   rw[<-S.pre,M6 (by omega)];exact h1
  have Y:ps.Nodup:=by rw[<-S.pre];exact S.nd.sublist (List.take_sublist _ _)
  refine⟨u,rv,?_⟩;rcases S.par y (Ke hp)with k|k
  ·exact .inl ⟨k,qh Y hp hu k⟩
  ·obtain⟨c,e⟩:=tm (n:=s.heap.objs.size+1) k;refine .inr ⟨.inl k,c,e,?_⟩;have q:=x.cell y c e;rw[qi Y hp hu (by show scope.names.lookup y≠_;rw[k];decide)]at q
   exact q
 ·exact e0.hok.fresh (Lk (x.above y c (Lv h)))
 ·unfold start;show _=N.length;rw[JM,JI,List.length_replicate];omega
theorem zl{CX:yR}{P:Program}{w:World}{K:W.Frag}{mg:Str->Option Value}{base:Heap}{k:Nat}{f:Addr}{name qual:Str}{params:Arguments}{body:List Stmt}{scope:Scope}{dV kV doc pm cdv ct oc:Value}{an od:Option Addr}
  {osl:Array (Option Value)} {N ps:List Str} {sp:Sp} (lk:K.lookup f=some ⟨oc,od,.func (W.fnOf name qual params body scope dV kV doc pm an cdv ct),osl⟩) (O:W.codeIn K cdv qual=true) (S:FnScope N ps scope)
  (len:∀ vs H Q E,sp vs H Q E->vs.length=ps.length)
  (Z:∀(A:Around) (outer:List Env) (s:Shared) (H:Hp) (vs:List V) (Q:VK) (E:XK),Room k (A.deeper (envOfC qual scope s.heap.objs.size f cdv))->sp vs H Q E->
   ∃ t,pJ (jf CX P w K mg base N qual scope f cdv A outer s H E) body t/\t {nx:=fun _ H'=>Q .non H',rt:=Q} (start N vs) H):
  FnOk P w K mg base CX (k+1) f (W.fnOf name qual params body scope dV kV doc pm an cdv ct) ps sp:=by
 refine⟨len,fun A outer s H args us vs Q E hr e0 hb r U=>?_⟩;have hl:=len _ _ _ _ U;have KX:K.In s.heap:=e0.mod.kin.keeps fun b o e=>(e0.bs b o e).1;have lim:s.heap.NoLimit:=e0.mod.nolimit.keeps fun b o e=>(e0.bs b o e).1;have Y:∀ y∈ps.zip us,scope.names.lookup y.1=some .local\/(scope.names.lookup y.1=some .cell/\((cellsFrom (s.heap.objs.size+1) scope.names []).lookup y.1).isSome=true):=fun⟨n,v⟩ hy=>by
  rcases S.par n (Mg hy).1 with q|q
  ·exact .inl q
  ·exact .inr ⟨q,Mo _ _ _ (.inl q)⟩
 refine codeAny_call_function hr.depth (KX _ _ lk) rfl S.co S.gen rfl (W.codeRec_of KX O) (hb _ _ _ _ ?_);refine wpAny_newFunctionEnv_cells S.kind Y fun env he s1 x=>?_;subst he;refine⟨lim.keeps x.toInCall.keep,codeAny_func ?_⟩;obtain⟨t,ht,hq⟩:=Z A outer s H vs Q E (hr.deeper _) U;have I:Inv (jf CX P w K mg base N qual scope f cdv A outer s H E) [] (start N vs) H s1:=xJ S hr.hd e0 hl r x;refine Kb (ht [] s1 (start N vs) H _ I hq) (fun fl s' hs=>?_) fun e s' hs=>hs;have fin:∀{σ':St} {H':Hp} {v:V} {u:Value},Inv (jf CX P w K mg base N qual scope f cdv A outer s H E) [] σ' H' s'->RelV v u->Q v H'->CE outer P w H s Q u s':=
  fun{σ' H' v u} J rv q=>⟨v,H',J.os,J.bare,J.base,J.hok,rv,q⟩
 cases fl with
 |ret u=>
  obtain⟨v,σ',H',J,rv,q⟩:=hs;exact fin J rv q
 |next=>
  obtain⟨σ',H',J,q⟩:=hs;exact fin (v:=V.non) (u:=Value.none) J rfl q
 |brk=>
  obtain⟨_,_,_,q⟩:=hs;exact False.elim q
 |cont=>
  obtain⟨_,_,_,q⟩:=hs;exact False.elim q
end L2
namespace L2
open PySem PySem.Spec PyProof.Rows
section
variable {X:Cx}{x:Str}{p pos:Pos}{e:Expr}{es:List Expr}{t:TA}{id T:String}{r:List V->Hp->VK->Prop}
def IF(r:List V->Hp->VK->Prop)(t:TA):TE:=fun σ H Q=>t σ H fun vs H1=>r vs H1 Q
theorem jo(hc:dH X (.builtin id) r)(hg:Gl X x)(hm:X.mg x=none)(hv:bootBuiltins x=some (.builtin id))(ha:PA X (e::es) t)(hn:x≠"__name__":=by decide)(Y:(x==("__debug__":Str))=false:=by decide)
  (he:starEach (e::es) X.env=(false,eval e X.env)::starEach es X.env:=by rfl) (Z:(backTo pos (starEach es X.env)).any (·.1)=false:=by rfl):PE X (.Call (.Name x p) (e::es) [] pos) (IF r t):=by
 intro pins s σ H Q I h;refine LK (ko I hg hm hv ?_ hn Y);exact PyProof.Rows.callWith_builtin1 (dy (ha pos pins s σ H _ I h) fun us s1 ⟨vs,H1,I1,r1,q1⟩=>hc pins s1 σ H1 vs us Q I1 r1 q1) he Z
theorem jR(hc:dH X (.type T) r)(hg:Gl X x)(hm:X.mg x=none)(hv:bootBuiltins x=some (.type T))(ha:PA X (e::es) t)(hn:x≠"__name__":=by decide)(Y:(x==("__debug__":Str))=false:=by decide)
  (he:starEach (e::es) X.env=(false,eval e X.env)::starEach es X.env:=by rfl) (Z:(backTo pos (starEach es X.env)).any (·.1)=false:=by rfl):PE X (.Call (.Name x p) (e::es) [] pos) (IF r t):=by
 intro pins s σ H Q I h;refine LK (ko I hg hm hv ?_ hn Y);exact K1 (dy (ha pos pins s σ H _ I h) fun us s1 ⟨vs,H1,I1,r1,q1⟩=>hc pins s1 σ H1 vs us Q I1 r1 q1) he Z
end
end L2
namespace HT
open PySem PyProof.Rows
def lexLt:List Int->List Int->Bool
 |[],[]=>false
 |[],_::_=>true
 |_::_,[]=>false
 |x::xs,y::ys=>if x=y then lexLt xs ys else decide (x<y)
theorem lexLt_cons(x y:Int)(xs ys:List Int):lexLt (x::xs) (y::ys)=if x=y then lexLt xs ys else decide (x<y):=rfl
theorem pK:lexLt [] []=false:=rfl
theorem nL(y:Int)(ys:List Int):lexLt [] (y::ys)=true:=rfl
theorem nM(x:Int)(xs:List Int):lexLt (x::xs) []=false:=rfl
theorem zm(A:Around)(s:Shared)(a:Int)(t:Tok)(c:Int)(u:Tok):∃ e,SeqAt.EqAt A s (.int a t) (.int c u) e/\(e=true↔a=c):=
 ⟨(a==c),SeqAt.EqAt.int_int a t c u,by simp⟩
theorem zo(A:Around)(s:Shared)(a:Int)(t:Tok)(c:Int)(u:Tok)(prog:Program)(w:World)(E:Value->Shared->Prop)(Q:Value->Shared->Prop)(h:Q (.bool (decide (a<c))) s):
  wpAny (model prog w) A (richCompare .Lt (.int a t) (.int c u)) Q E s:=
 (PyProof.Rows.lt_int h:wpAny (model prog w) A (compareOp .Lt (.int a t) (.int c u)) Q E s)
section
open PySem.SeqAt
open PySem.AutoSeq1 (wpAny_loadPart')
open PySem.MeetsSeq PySem.MeetsSeq2 PySem.MeetsSeq3
theorem pL(l b:Addr)(items Z:Array Value)(n n2:Nat)(dd a4:Option Addr)(sl O:Array (Option Value))(ns ms:List Int)(hi:IntsAre items.toList ns)(hj:IntsAre Z.toList ms):
  Meets (Builtin.«tuple.__lt__» ⟨[.ref l,.ref b],[]⟩)
   (fun _ R s=>s.heap.get? l=some {cls:=.type "tuple",dict:=dd,data:=.seq items n,slots:=sl}/\s.heap.get? b=some {cls:=.type "tuple",dict:=a4,data:=.seq Z n2,slots:=O}/\
    R (.ok (.ret (.bool (lexLt ns ms)))) s):=
 .of_wp fun prog w A R s h=>by
  obtain⟨hp,g,d,tk,os⟩:=s;obtain⟨hl,hb,h⟩:=h;have f2:=AutoSeq1.sub_tuple_tuple;have z1:items.size=ns.length:=by rw[<-hi.length];simp
  have z2:Z.size=ms.length:=by rw[<-hj.length];simp
  wp_walk using wpAny_loadPart' hl,wpAny_loadPart' hb,MD _ (fun rest b s'=>b.1=none/\s'=⟨hp,g,d,tk,os⟩/\∃(vs ws:List Value) (ns' ms':List Int),rest=vs.zip ws/\
   IntsAre vs ns'/\IntsAre ws ms'/\ns'.length+Z.size=ms'.length+items.size/\R (.ok (.ret (.bool (lexLt ns' ms')))) ⟨hp,g,d,tk,os⟩) _
  case turn=>
   rintro⟨y,x⟩ rest b s' ⟨hb',rfl,vs,ws,ns',ms',hz,hvi,hwi,hlen,hR⟩;cases hvi with
   |nil=>rw[List.zip_nil_left]at hz;cases hz
   | cons a t hvi'=>
    cases hwi with
    |nil=>rw[List.zip_nil_right]at hz;cases hz
    | cons c u hwi'=>
     rw[MV]at hz;injection hz with hyx hrest;injection hyx with hy hx;subst hy hx;rw[lexLt_cons]at hR;simp only[List.length_cons]at hlen;obtain⟨e,he,Y⟩:=zm A.in1 ⟨hp,g,d,tk,os⟩ a t c u;refine JG (he prog w _ _ ?_);cases e with
     |true=>
      rw[if_pos (Y.mp rfl)]at hR
      wp_walk
      exact⟨rfl,rfl,_,_,_,_,hrest,hvi',hwi',by omega,hR⟩
     |false=>
      rw[if_neg (fun q=>absurd (Y.mpr q) La)]at hR;have U:=zo A.in1 ⟨hp,g,d,tk,os⟩ a t c u prog w
      wp_walk using U
      exact⟨_,rfl,by simpa using hR⟩
  case fin=>
   rintro⟨b1,b2⟩ s' ⟨hb',rfl,vs,ws,ns',ms',hz,hvi,hwi,hlen,hR⟩;simp only at hb';subst hb';have hv:lexLt ns' ms'=decide (items.size<Z.size):=by
    cases hvi with
    | nil=>
     cases hwi with
     |nil=>
      simp only[List.length_nil]at hlen;rw[pK];exact(Kr (by omega)).symm
     |cons c u hw=>
      simp only[List.length_nil,List.length_cons]at hlen;rw[nL];exact(JZ (by omega)).symm
    | cons a t hv=>
     cases hwi with
     |nil=>
      simp only[List.length_nil,List.length_cons]at hlen;rw[nM];exact(Kr (by omega)).symm
     |cons c u hw=>
      rw[MV]at hz;cases hz
   rw[hv]at hR
   wp_walk
   exact⟨_,rfl,by simpa [Builtin.Tuple.tupleCompareSizes]using hR⟩
  case h=>
   exact⟨rfl,rfl,items.toList,Z.toList,ns,ms,rfl,hi,hj,by omega,h⟩
end
section
variable {prog:Program}{w:World}{A:Around}{E:Value->Shared->Prop}{s:Shared}
theorem lt_tupInts{Q:Value->Shared->Prop}(hl:IsTup s.heap l items)(hb:IsTup s.heap b items2)(hi:IntsAre items.toList ns)(hj:IntsAre items2.toList ms)
  (hu:A.units<cLine) (h:Q (.bool (lexLt ns ms)) s):wpAny (model prog w) A (compareOp .Lt (.ref l) (.ref b)) Q E s:=by
 obtain⟨⟨cls,dd,data,sl⟩,ho,hc,n,hd⟩:=id hl;obtain⟨⟨a4,O,data2,U⟩,Z,Y,n2,hd2⟩:=id hb;simp only at hc hd Y hd2;subst hc hd Y hd2;exact richCompare_meets_room (op:=.Lt) ⟨_,ho,rfl⟩ ⟨_,Z,rfl⟩ PySem.F.slot_tuple_lt PySem.F.entry_tuple_lt (PySem.F.args_tuple_lt_2 _ _) (pL l b items items2 n n2 dd O sl U ns ms hi hj)
  ⟨ho,Z,show Value.bool (lexLt ns ms)≠Value.notImplemented/\Q (.bool (lexLt ns ms)) s from⟨(fun x=>nomatch x),h⟩⟩ hu
theorem cat_tup{vs ws:List Value}{Q:Value->Shared->Prop}(ht:IsTup s.heap t vs.toArray)(hb:IsTup s.heap b ws.toArray)(hv:vs≠[])
  (h1:ws=[]->Q (.ref t) s) (h2:ws≠[]->Q (.ref s.heap.objs.size) {s with heap:=s.heap.push {cls:=.type "tuple",data:=.seq (vs++ws).toArray}})
  (a4:vs.length+ws.length<=sizeLine):wpAny (model prog w) A (binaryOp .Add (.ref t) (.ref b)) Q E s:=by
 obtain⟨⟨cls,dd,data,sl⟩,ho,hc,n,hd⟩:=id ht;obtain⟨⟨a6,O,data2,Y⟩,Z,U,n2,hd2⟩:=id hb;simp only at hc hd U hd2;subst hc hd U hd2;have e:vs.toArray++ws.toArray=(vs++ws).toArray:=by simp
 by_cases hw:ws=[]
 ·exact concat_meets ⟨_,ho,rfl⟩ ⟨_,Z,rfl⟩ Nq seq_tuple_add Mp Mh (Md _ _)
   (tuple_addW1 t b vs.toArray ws.toArray n n2 dd O sl Y (by simpa using hv) (by simp[hw])) ⟨ho,Z,h1 hw⟩
 ·refine concat_meets ⟨_,ho,rfl⟩ ⟨_,Z,rfl⟩ Nq seq_tuple_add Mp Mh (Md _ _)
   (tuple_addW2 t b vs.toArray ws.toArray n n2 dd O sl Y (by simpa using hv) (by simpa using hw) (by rw[JU,JU];exact a4)) ⟨ho,Z,?_⟩
  rw[e];exact h2 hw
def sIx(n d:Nat):Option Int->Nat
 |none=>d
 |some v=>if v<0 then (v+(n:Int)).toNat else min v.toNat n
theorem sIx_none(n d:Nat):sIx n d none=d:=rfl
theorem sIx_nat(n d k:Nat):sIx n d (some (k:Int))=min k n:=by
 show(if (k:Int)<0 then ((k:Int)+(n:Int)).toNat else min (k:Int).toNat n)=min k n;rw[if_neg (by omega),Kf]
theorem Es(n d:Nat)(hd:d<=n)(o:Option Int):sIx n d o<=n:=by
 cases o with
 |none=>exact hd
 |some v=>
  show(if v<0 then (v+(n:Int)).toNat else min v.toNat n)<=n;by_cases hv:v<0
  ·rw[if_pos hv];omega
  ·rw[if_neg hv];exact Nat.min_le_right _ _
theorem we(v:Int)(n d:Nat):(if v<0 then max (v+(n:Int)) 0 else min v (n:Int))=((sIx n d (some v):Nat):Int):=by
 show(if v<0 then max (v+(n:Int)) 0 else min v (n:Int))=(((if v<0 then (v+(n:Int)).toNat else min v.toNat n):Nat):Int);by_cases hv:v<0
 ·simp only[if_pos hv];omega
 ·simp only[if_neg hv];omega
theorem uZ(lo hi:Option Int)(n:Nat):Builtin.Slice.sliceAdjust lo hi 1 (n:Int)=(((sIx n 0 lo:Nat):Int),((sIx n n hi:Nat):Int)):=by
 have h1:¬ ((1:Int)<0):=by omega
 unfold Builtin.Slice.sliceAdjust;simp only[h1,if_false];refine Mx ?_ ?_
 ·cases lo with
  |none=>rfl
  |some v=>exact we v n 0
 ·cases hi with
  |none=>rfl
  |some v=>exact we v n n
theorem u6(i j:Nat):Builtin.Slice.slicePlaces (i:Int) (j:Int) 1=j - i:=by
 unfold Builtin.Slice.slicePlaces;have h1:(1:Int)>0:=by omega
 simp only[h1,if_true,Int.ediv_one];split<;>omega
theorem nN{Q:Option Int->Shared->Prop}(p:IsPart v o)(h:Q o s):wpAny (model prog w) A (Builtin.Slice.slicePartIndex v) Q E s:=by
 cases p with
 |none=>exact slicePart_none h
 |int i t=>exact slicePart_int h
theorem sliceApplied_gen{sl:Addr}{vl vu:Value}{lo hi:Option Int}{n:Nat}{Q:Int×Int×Nat->Shared->Prop}(hs:s.heap.IsSliceOf sl vl vu .none)(pl:IsPart vl lo)(pu:IsPart vu hi)
  (h:Q (((sIx n 0 lo:Nat):Int),1,sIx n n hi - sIx n 0 lo) s):wpAny (model prog w) A (Builtin.Slice.sliceApplied (.ref sl) (pure (n:Int))) Q E s:=by
 obtain⟨os,Y,U,Z⟩:=id hs;unfold Builtin.Slice.sliceApplied Builtin.Slice.sliceFields;refine JG (JG (KL Y Z (x:=vl) rfl (JG (KL Y Z (x:=vu) rfl (JG (KL Y Z (x:=.none) rfl (JJ ?_)))))));refine JG (slicePart_none ?_);show wpAny _ _ (if ((1:Int)==0)=true then _ else _) _ _ s;rw[if_neg (by decide)]
 refine JG (nN pl (JG (nN pu (JG (JJ ?_)))));show wpAny _ _ (match Builtin.Slice.sliceAdjust lo hi 1 (n:Int)with|(lo,hi)=>pure (lo,(1:Int),Builtin.Slice.slicePlaces lo hi 1)) _ _ s
 rw[uZ lo hi n];show wpAny _ _ (pure (((sIx n 0 lo:Nat):Int),(1:Int),Builtin.Slice.slicePlaces ((sIx n 0 lo:Nat):Int) ((sIx n n hi:Nat):Int) 1)) _ _ s;rw[u6];exact JJ h
theorem zq(xs:Array Value)(i k:Nat):((List.range k).filterMap fun(m:Nat)=>xs[((i:Int)+(m:Int)*1).toNat]?).toArray=((xs.toList.drop i).take k).toArray:=by
 have e:(fun(m:Nat)=>xs[((i:Int)+(m:Int)*1).toNat]?)=fun m=>xs[i+m]? :=by
  funext m;have:((i:Int)+(m:Int)*1).toNat=i+m:=by omega
  rw[this]
 rw[e];have:=pick_run xs i k;rw[List.filterMap_map]at this;have e2:((fun x=>xs[x]?)∘fun x=>i+x)=fun m=>xs[i+m]? :=rfl;rw[e2]at this;rw[this]
theorem getItem_tuple_cut{t sl:Addr}{items:Array Value}{vl vu:Value}{lo hi:Option Int}{Q:Value->Shared->Prop}(ht:IsTup s.heap t items)(hs:s.heap.IsSliceOf sl vl vu .none)(pl:IsPart vl lo)(pu:IsPart vu hi)
  (hw:¬ (sIx items.size 0 lo=0/\sIx items.size items.size hi=items.size))
  (h:Q (.ref s.heap.objs.size) {s with heap:=s.heap.push {cls:=.type "tuple",data:=.seq ((items.toList.drop (sIx items.size 0 lo)).take (sIx items.size items.size hi - sIx items.size 0 lo)).toArray}})
  (b0:items.size<=sizeLine):wpAny (model prog w) A (getItem (.ref t) (.ref sl)) Q E s:=by
 have Z:sizeOk (.seq ((items.toList.drop (sIx items.size 0 lo)).take (sIx items.size items.size hi - sIx items.size 0 lo)).toArray):=by
  show((items.toList.drop (sIx items.size 0 lo)).take (sIx items.size items.size hi - sIx items.size 0 lo)).toArray.size<=sizeLine;rw[JU,KQ,Nr,Lw];omega
 have hj:sIx items.size items.size hi<=items.size:=Es _ _ (JK _) hi;obtain⟨os,a4,U,a6⟩:=id hs;have O:s.TypeIs (.ref sl) "slice":=⟨os,a4,U⟩;unfold getItem
 try with_reducible refine Ko ?_
 first|refine JG (JJ ?_)|skip
 refine JG (wpAny_sequenceKey ht.typeIs (by decide) ?_)
 refine JG (wpAny_callSpecial?_slot (name:=Str.ofString "__getitem__") ht.typeIs K5
  (KB K5 ht.typeIs entry_tuple_getitem ?_ (args_tuple_getitem _ _)))
 show wpAny _ _ (Builtin.Tuple.tupleItemsOf (.ref t)>>=_) _ _ s;refine JG (tupleItemsOf_ ht ?_);refine JG (Me O ?_);rw[if_pos (by decide)]
 refine JG (sliceApplied_gen hs pl pu ?_);have Y:¬ ((((sIx items.size 0 lo:Nat):Int)==0 && (1:Int)==1 && (sIx items.size items.size hi - sIx items.size 0 lo)==items.size)=true):=by
  intro q;rw[Lf,Lf]at q;have q1:((sIx items.size 0 lo:Nat):Int)=0:=eq_of_beq q.1.1;have q2:sIx items.size items.size hi - sIx items.size 0 lo=items.size:=eq_of_beq q.2;exact hw ⟨by omega,by omega⟩
 show wpAny _ _ (if (((sIx items.size 0 lo:Nat):Int)==0 && (1:Int)==1 && (sIx items.size items.size hi - sIx items.size 0 lo)==items.size)=true then _ else _) _ _ s;rw[if_neg Y,zq];first
  |exact JG (m:=Builtin.Tuple.tupleExact _) (Kq (JJ ⟨_,rfl,JJ h⟩) Z)
  |exact JG (m:=Builtin.Tuple.tupleExact _) (Kq (JG (JJ (JJ ⟨_,rfl,JJ h⟩))) Z)
  |exact JG (JG (m:=Builtin.Tuple.tupleExact _) (Kq (JJ (JJ ⟨_,rfl,JJ h⟩)) Z))
  |exact JG (JG (m:=Builtin.Tuple.tupleExact _) (Kq (JJ ⟨_,rfl,JJ h⟩) Z))
end
end HT
namespace L2
open PySem PySem.Spec PyProof.Rows
abbrev TO:=St->Hp->(Option Int->Hp->Prop)->Prop
def PO(X:Cx)(e:Option Expr)(t:TO):Prop:=
 ∀(pins:List (Addr×Obj)) (s:Shared) (σ:St) (H:Hp) (Q:Option Int->Hp->Prop),Inv X pins σ H s->t σ H Q->
  wpAny (model X.prog X.w) X.A (evalPart e X.env) (fun u s'=>∃ o H',Inv X pins σ H' s'/\IsPart u o/\Q o H') X.xe s
def BV:TO:=fun _ H Q=>Q none H
def GL(t:TE):TO:=fun σ H Q=>t σ H fun x H1=>∃ i,x= .int i/\Q (some i) H1
theorem M7{ns:List Int}:∀{us:List Value},bj (ns.map V.int) us->IntsAre us ns:=by
 induction ns with
 |nil=>intro us r;rw[KZ]at r;cases r;exact .nil
 | cons n ns ih=>
  intro us r;rw[J3]at r;cases r with
  |cons r1 r2=>
   obtain⟨t,e⟩:=r1;subst e;exact .cons n t (ih r2)
section
variable {X:Cx}{e:Expr}{te:TE}{lo hi:Option Expr}{tl th:TO}{pos p2:Pos}
theorem BW:PO X none BV:=by
 intro pins s σ H Q I h;rw[evalPart_none];exact JJ ⟨none,H,I,.none,h⟩
theorem BX(h:PE X e te):PO X (some e) (GL te):=by
 intro pins s σ H Q I hw;rw[evalPart_some];refine dy (h pins s σ H _ I hw) fun u s1 ⟨x,H1,I1,r1,q1⟩=>?_;obtain⟨i,rfl,q⟩:=q1;obtain⟨t,rfl⟩:=r1;exact⟨some i,H1,I1,.int i t,q⟩
def Dv(X:Cx)(r:V->Option Int->Option Int->Hp->VK->Prop):Prop:=
 ∀(pins:List (Addr×Obj)) (s:Shared) (σ:St) (H:Hp) (x:V) (v vl vu:Value) (lo hi:Option Int) (sl:Addr) (Q:VK),Inv X pins σ H s->RelV x v->s.heap.IsSliceOf sl vl vu .none->IsPart vl lo->IsPart vu hi->r x lo hi H Q->
  ∃ T id,typeLookup (.type T) "__getitem__"=pure (some (.builtin id))/\s.TypeIs v T/\wpAny (model X.prog X.w) X.A (getItem v (.ref sl)) (EP X pins σ Q) X.xe s
theorem Dv.or{r r':V->Option Int->Option Int->Hp->VK->Prop}(h:Dv X r)(h':Dv X r'):Dv X (fun x lo hi H Q=>r x lo hi H Q\/r' x lo hi H Q):=by
 intro pins s σ H x v vl vu lo hi sl Q I rx hs pl pu q;rcases q with q|q
 ·exact h pins s σ H x v vl vu lo hi sl Q I rx hs pl pu q
 ·exact h' pins s σ H x v vl vu lo hi sl Q I rx hs pl pu q
def Ju(r:V->Option Int->Option Int->Hp->VK->Prop)(te:TE)(tl th:TO):TE:=fun σ H Q=>te σ H fun x H1=>tl σ H1 fun l H2=>th σ H2 fun u H3=>r x l u H3 Q
theorem zv(hr:Dv X r)(he:PE X e te)(hl:PO X lo tl)(hu:PO X hi th):PE X (.Subscript e (.Slice lo hi none p2) pos) (Ju r te tl th):=by
 intro pins s σ H Q I h;refine Subscript_ (dy (he pins s σ H _ I h) fun v s1 ⟨x,H1,I1,r1,q1⟩=>?_);refine wpAny_Slice (dy (hl pins s1 σ H1 _ I1 q1) fun vl s2 ⟨l,H2,I2,pl,q2⟩=>dy (hu pins s2 σ H2 _ I2 q2) fun vu s3 ⟨u,H3,I3,pu,q3⟩=>?_);rw[evalPart_none];refine JJ ?_;have I4:Inv X pins σ H3 {s3 with heap:=s3.heap.push {cls:=.type "slice",data:=.fields #[vl,vu,.none]}}:=I3.kept (t':=s3.toks) fun b ob q=>JH _ q;obtain⟨T,id,hT,ht,hg⟩:=hr pins {s3 with heap:=s3.heap.push {cls:=.type "slice",data:=.fields #[vl,vu,.none]}} σ H3 x v vl vu l u s3.heap.objs.size Q I4 r1 (Heap.IsSliceOf.new ..) pl pu q3;show wpAny (model X.prog X.w) X.A (subscriptTail e (.Slice lo hi none p2) v (.ref s3.heap.objs.size)) (EP X pins σ Q) X.xe {s3 with heap:=s3.heap.push {cls:=.type "slice",data:=.fields #[vl,vu,.none]}};exact tail_any (ops:=[.ref s3.heap.objs.size,v]) ht hT hg (by with_unfolding_all rfl)
def pM(xs:List V)(lo hi:Option Int):List V:=(xs.drop (HT.sIx xs.length 0 lo)).take (HT.sIx xs.length xs.length hi - HT.sIx xs.length 0 lo)
theorem my(xs:List V)(lo hi:Option Int):(pM xs lo hi).length<=xs.length:=by
 unfold pM;rw[KQ,Nr];omega
def IG(K:W.Frag):V->Option Int->Option Int->Hp->VK->Prop:=fun x lo hi H Q=>∃ a xs,x= .ref a/\lH K H a xs/\
 ¬ (HT.sIx xs.length 0 lo=0/\HT.sIx xs.length xs.length hi=xs.length)/\∀ p,H p=none->Q (.ref p) (upd H p (.tup (pM xs lo hi)))
theorem Et:Dv X (IG X.K):=by
 intro pins s σ H x v vl vu lo hi sl Q I rx hs pl pu h;obtain⟨a,xs,rfl,hx,hw,q⟩:=h;cases rx;obtain⟨its,r,ht,hz⟩:=I.tuple hx;have hlen:its.toArray.size=xs.length:=by rw[JU];exact r.length.symm
 refine⟨"tuple",_,PyProof.Rows.slot_tuple_getitem.lookup,ht.typeIs,?_⟩;refine HT.getItem_tuple_cut ht hs pl pu (by rw[hlen];exact hw) ?_ (by rw[hlen];exact hz)
 rw[hlen];refine⟨.ref s.heap.objs.size,_,I.laid (t':=s.toks) (o:=.tup (pM xs lo hi)) (fun b ob q=>JH _ q) (JK _) ?_,rfl,q _ (I.hok.fresh (JK _))⟩;exact⟨JV (my xs lo hi) hz,_,(r.drop (HT.sIx xs.length 0 lo)).take (HT.sIx xs.length xs.length hi - HT.sIx xs.length 0 lo),IsTup.new _ _⟩
def GN(K:W.Frag):R2:=fun x y H Q=>∃ a b ns ms,x= .ref a/\y= .ref b/\lH K H a (ns.map V.int)/\lH K H b (ms.map V.int)/\Q (.bl (HT.lexLt ns ms)) H
theorem u7(hu:X.A.units<cLine):iR X (compareOp .Lt) (GN X.K):=by
 intro pins s σ H x y v u Q I rx ry h;obtain⟨a,b,ns,ms,rfl,rfl,ha,hb,q⟩:=h;cases rx;cases ry;obtain⟨its,r1,p1,_⟩:=I.tuple ha;obtain⟨Z,r2,p2,_⟩:=I.tuple hb;have i1:IntsAre its.toArray.toList ns:=M7 r1;have i2:IntsAre Z.toArray.toList ms:=M7 r2;exact HT.lt_tupInts p1 p2 i1 i2 hu ⟨.bl (HT.lexLt ns ms),H,I,rfl,q⟩
def GO(K:W.Frag):R2:=fun x y H Q=>∃ a b xs ys,x= .ref a/\y= .ref b/\lH K H a xs/\lH K H b ys/\xs≠[]/\xs.length+ys.length<=sizeLine/\
 (ys=[]->Q (.ref a) H)/\(ys≠[]->∀ p,H p=none->Q (.ref p) (upd H p (.tup (xs++ys))))
theorem bj.nil_iff(r:bj xs us):us=[]↔xs=[]:=by
 cases r with
 |nil=>simp
 |cons _ _=>simp
theorem BY:iR X (binaryOp .Add) (GO X.K):=by
 intro pins s σ H x y v u Q I rx ry h;obtain⟨a,b,xs,ys,rfl,rfl,ha,hb,hx,hz,q1,q2⟩:=h;cases rx;cases ry;obtain⟨its,r1,p1,_⟩:=I.tuple ha;obtain⟨Z,r2,p2,_⟩:=I.tuple hb;refine HT.cat_tup p1 p2 (fun z=>hx (r1.nil_iff.mp z)) (fun z=>⟨.ref a,H,I,rfl,q1 (r2.nil_iff.mp z)⟩) (fun z=>?_) (by rw[<-r1.length, <-r2.length];exact hz)
 refine⟨.ref s.heap.objs.size,_,I.laid (t':=s.toks) (o:=.tup (xs++ys)) (fun b ob q=>JH _ q) (JK _) ?_,rfl,q2 (fun w=>z (r2.nil_iff.mpr w)) _ (I.hok.fresh (JK _))⟩;exact⟨by rw[JM];exact hz,_,r1.append r2,IsTup.new _ _⟩
end
end L2
namespace L2
open PySem PySem.Spec PyProof.Rows
def u9(n:Nat)(i:Int):Option Nat:=if 0<=i then (if i<n then some i.toNat else none)else if -(n:Int)<=i then some (i+n).toNat else none
def iS{α:Type}(xs:List α)(i:Int):Option α:=(u9 xs.length i).bind fun j=>xs[j]?
theorem wg(h:u9 n i=some j):seqIndex? i n=some j/\j<n/\ -(n:Int)<=i/\i<n:=by
 unfold u9 at h;by_cases h0:0<=i
 ·rw[if_pos h0]at h;by_cases h1:i<n
  ·rw[if_pos h1]at h;have e:i.toNat=j:=J8 h;exact⟨by rw[seqIndex_of h0 h1,e],by omega,by omega,h1⟩
  ·rw[if_neg h1]at h;cases h
 ·rw[if_neg h0]at h;by_cases h1: -(n:Int)<=i
  ·rw[if_pos h1]at h;have e:(i+n).toNat=j:=J8 h;exact⟨by rw[seqIndex_neg (by omega) h1,e],by omega,h1,by omega⟩
  ·rw[if_neg h1]at h;cases h
theorem rj{α:Type}{xs:List α}{i:Int}{v:α}(h:iS xs i=some v):∃ j,seqIndex? i xs.length=some j/\xs[j]? =some v/\j<xs.length/\ -(xs.length:Int)<=i/\i<xs.length:=by
 unfold iS at h;cases e:u9 xs.length i with
 |none=>rw[e]at h;cases h
 |some j=>
  rw[e]at h;obtain⟨h1,h2,h3,h4⟩:=wg e;exact⟨j,h1,h,h2,h3,h4⟩
def rk(b:Expr):Prop:=∀ o i,subscripted b false o i=operate [o,i] (getItem o i)
def Bz(X:Cx)(r:R2):Prop:=
 ∀(value slice:Expr) (pins:List (Addr×Obj)) (s:Shared) (σ:St) (H:Hp) (x y:V) (v u:Value) (Q:VK),Inv X pins σ H s->RelV x v->RelV y u->r x y H Q->
  subscripted slice false v u=operate [v,u] (getItem v u)->wpAny (model X.prog X.w) X.A (subscriptTail value slice v u) (EP X pins σ Q) X.xe s
def IH(X:Cx)(id:String)(r:V->List V->Hp->VK->Prop):Prop:=
 ∀(pins:List (Addr×Obj)) (s:Shared) (σ:St) (H:Hp) (x:V) (xs:List V) (v:Value) (us:List Value) (Q:VK),Inv X pins σ H s->RelV x v->bj xs us->r x xs H Q->
  wpAny (model X.prog X.w) X.A (call (.builtin id) (v::us)) (EP X pins σ Q) X.xe s
section
variable {X:Cx}{a b:Expr}{ta tb:TE}{pos:Pos}
theorem Bz.or{r r':R2}(h:Bz X r)(h':Bz X r'):Bz X (fun x y H Q=>r x y H Q\/r' x y H Q):=by
 intro value slice pins s σ H x y v u Q I rx ry q hs;rcases q with q|q
 ·exact h value slice pins s σ H x y v u Q I rx ry q hs
 ·exact h' value slice pins s σ H x y v u Q I rx ry q hs
theorem GP(hr:Bz X r)(ha:PE X a ta)(hb:PE X b tb)(hs:rk b):PE X (.Subscript a b pos) (GD r ta tb):=by
 intro pins s σ H Q I h;exact Subscript_ (Ef ha hb I h fun v u s2 x y H2 I2 rx ry q=>hr a b pins s2 σ H2 x y v u Q I2 rx ry q (hs _ _))
def GQ(K:W.Frag):R2:=fun x y H Q=>∃ p xs i v,x= .ref p/\y= .int i/\j7 K H p xs/\iS xs i=some v/\Q v H
def GS(K:W.Frag):R2:=fun x y H Q=>∃ p xs i v,x= .ref p/\y= .int i/\lH K H p xs/\iS xs i=some v/\Q v H
def GT:R2:=fun x y H Q=>∃ z i c,x= .str z/\y= .int i/\z.length<=sizeLine/\iS z.cps.toList i=some c/\Q (.str ⟨#[c]⟩) H
theorem BZ:Bz X (GQ X.K):=by
 intro value slice pins s σ H x y v u Q I rx ry h hs;obtain⟨p,xs,i,z,rfl,rfl,hq,he,q⟩:=h;cases rx;obtain⟨t,rfl⟩:=ry;obtain⟨its,r,pl,hz⟩:=I.list hq;obtain⟨j,h1,h2,h3,h4,h5⟩:=rj he;obtain⟨w,ew,Z⟩:=r.get h2;have hl:=r.length;have hn:=nI;have fin:EP X pins σ Q w s:=⟨z,H,I,Z,q⟩;by_cases h0:0<=i
 ·have hj:i.toNat=j:=by
   rw[seqIndex_of h0 h5]at h1;exact J8 h1
  exact item_listR pl.isList h0 (by omega) (by rw[hj];simpa using ew) fin hs
 ·have hj:(i+(its.toArray.size:Int)).toNat=j:=by
   rw[seqIndex_neg (by omega) h4]at h1
   rw[JU, <-hl];exact J8 h1
  exact subscriptTail_builtinR (x:=w) pl.isList.typeIs slot_list_getitem.lookup
   (wpAny_getItem_list_neg (Q:=fun r s'=>r=w/\EP X pins σ Q r s') pl.isList (by omega) (by rw[JU]<;>omega) (by omega) (by rw[hj];simpa using ew) ⟨rfl,fin⟩) hs
theorem Eu:Bz X (GS X.K):=by
 intro value slice pins s σ H x y v u Q I rx ry h hs;obtain⟨p,xs,i,z,rfl,rfl,hq,he,q⟩:=h;cases rx;obtain⟨t,rfl⟩:=ry;obtain⟨its,r,pl,hz⟩:=I.tuple hq;obtain⟨j,h1,h2,h3,h4,h5⟩:=rj he;obtain⟨w,ew,Z⟩:=r.get h2;have hl:=r.length;have hn:=nI;have fin:EP X pins σ Q w s:=⟨z,H,I,Z,q⟩;exact subscriptTail_builtinR (x:=w) pl.typeIs slot_tuple_getitem.lookup
  (getItem_tuple (j:=j) (Q:=fun r s'=>r=w/\EP X pins σ Q r s') pl (by omega) (by omega) (by rw[JU, <-hl];exact h1) (by simpa using ew) ⟨rfl,fin⟩) hs
theorem Ey:Bz X GT:=by
 intro value slice pins s σ H x y v u Q I rx ry h hs;obtain⟨z,i,c,rfl,rfl,hz,he,q⟩:=h;obtain⟨t,rfl⟩:=rx;obtain⟨t',rfl⟩:=ry;obtain⟨j,h1,h2,h3,h4,h5⟩:=rj he;have hl:z.cps.toList.length=z.length:=by simp[Str.length]
 rw[hl]at h1 h4 h5;have hn:=nI;exact tail_any (typeIs_str s z t) slot_str_getitem.lookup (getItem_str (c:=c) (by
  have e1:decide (i< -(2 ^ 63:Int))=false:=Kr (by omega)
  have e2:decide (i ≥ 2 ^ 63)=false:=Kr (by omega)
  rw[e1,e2,Bool.or_false]) (by rw[h1];simpa using h2) ⟨.str ⟨#[c]⟩,H,I.tok _,⟨_,rfl⟩,q⟩) hs
def Jh(K:W.Frag):R2:=fun x y H Q=>GQ K x y H Q\/GS K x y H Q\/GT x y H Q
theorem Ez:Bz X (Jh X.K):=BZ.or (Eu.or Ey)
theorem vd(its:List Value)(n j:Nat)(u:Value):Obj.mapSeq (·.setIfInBounds j u) {cls:=.type "list",data:=.seq its.toArray n}={cls:=.type "list",data:=.seq (its.set j u).toArray n}:=by
 simp[Obj.mapSeq]
theorem Inv.lst{pins:List (Addr×Obj)}{σ:St}{H:Hp}{s:Shared}{p:Addr}{xs:List V}(I:Inv X pins σ H s)(h:H p=some (.lst xs)):
  ∃(its:List Value) (n:Nat),bj xs its/\s.heap.get? p=some {cls:=.type "list",data:=.seq its.toArray n}/\xs.length<=sizeLine:=by
 obtain⟨z,its,n,r,e⟩:=I.hok p _ h;exact⟨its,n,r,e,z⟩
theorem Inv.lstUpd{H:Hp}{its its':List Value}{f:Obj->Obj}(I:Inv X pins σ H s)(h:H p=some (.lst xs))
  (ho:s.heap.get? p=some {cls:=.type "list",data:=.seq its.toArray n}) (hf:f {cls:=.type "list",data:=.seq its.toArray n}={cls:=.type "list",data:=.seq its'.toArray n'}) (r:bj ys its') (hz:ys.length<=sizeLine) (t:Nat):
  Inv X pins σ (upd H p (.lst ys)) {s with heap:=s.heap.update p f,toks:=t}:=by
 have e:(s.heap.update p f).get? p=some {cls:=.type "list",data:=.seq its'.toArray n'}:=by
  rw[Kx f ho (by rw[hf]<;>rfl),hf]
 refine I.write (x:=p) (e:=p) (by rw[h];trivial) (.inl rfl) (fun b u hb q=>(Kn _ _ (Ne.symm hb)).trans q) ⟨_,e⟩ ?_
 exact⟨hz,its',n',r,e⟩
def Dw:V->V->V->Hp->(Hp->Prop)->Prop:=fun o i v H Q=>∃ p xs k j,o= .ref p/\i= .int k/\H p=some (.lst xs)/\u9 xs.length k=some j/\Q (upd H p (.lst (xs.set j v)))
theorem set_list:Gw X Dw:=by
 intro pins s σ H o i v ov iv u Q I ro ri rv h;obtain⟨p,xs,k,j,rfl,rfl,hp,hj,q⟩:=h;cases ro;obtain⟨t,rfl⟩:=ri;obtain⟨its,n,r,ho,hz⟩:=I.lst hp;obtain⟨h1,h2,h3,h4⟩:=wg hj;have hl:=r.length;have hn:=nI;have I':Inv X pins σ (upd H p (.lst (xs.set j v))) {s with heap:=s.heap.update p (Obj.mapSeq (·.setIfInBounds j u))}:=
  I.lstUpd hp ho (vd its n j u) (r.set rv j) (by rw[Mi];exact hz) s.toks
 by_cases h0:0<=k
 ·have hk:k.toNat=j:=by
   rw[seqIndex_of h0 h4]at h1;exact J8 h1
  exact W.ki_setAt ho h0 (by omega) (by rw[JU, <-hl];exact h4) (by rw[hk];exact⟨_,I',q⟩)
 ·have hk:(k+(its.toArray.size:Int)).toNat=j:=by
   rw[seqIndex_neg (by omega) h3]at h1
   rw[JU, <-hl];exact J8 h1
  exact W.ki_setBack ho (by omega) (by rw[JU, <-hl];exact h3) (by omega) (by rw[hk];exact⟨_,I',q⟩)
theorem rl(lo hi:Option Int)(n:Nat):(sliceBounds lo hi none n).1=((HT.sIx n 0 lo:Nat):Int)/\(sliceBounds lo hi none n).2.1=((HT.sIx n n hi:Nat):Int)/\(sliceBounds lo hi none n).2.2=1:=by
 refine⟨?_,?_,rfl⟩
 ·cases lo with
  |none=>simp[sliceBounds,HT.sIx]
  |some i=>
   simp only[sliceBounds,HT.sIx,Option.getD_none,show(1:Int)>0 by decide,if_true]
   by_cases h:i<0
   ·simp only[h,if_true]<;>omega
   ·simp only[h,if_false]<;>omega
 ·cases hi with
  |none=>simp[sliceBounds,HT.sIx]
  |some i=>
   simp only[sliceBounds,HT.sIx,Option.getD_none,show(1:Int)>0 by decide,if_true]
   by_cases h:i<0
   ·simp only[h,if_true]<;>omega
   ·simp only[h,if_false]<;>omega
theorem pN(its:List Value)(lo hi:Option Int):slicePick its.toArray lo hi none=((its.drop (HT.sIx its.length 0 lo)).take (HT.sIx its.length its.length hi - HT.sIx its.length 0 lo)).toArray:=by
 obtain⟨h1,h2,h3⟩:=rl lo hi its.toArray.size;unfold slicePick;rw[h1,h2,h3];simp only[sliceRange_one,pick_run,List.size_toArray]<;>rfl
def II(K:W.Frag):V->Option Int->Option Int->Hp->VK->Prop:=fun x lo hi H Q=>∃ a xs,x= .ref a/\j7 K H a xs/\∀ p,H p=none->Q (.ref p) (upd H p (.lst (pM xs lo hi)))
theorem B0:Dv X (II X.K):=by
 intro pins s σ H x v vl vu lo hi sl Q I rx hs pl pu h;obtain⟨a,xs,rfl,hx,q⟩:=h;cases rx;obtain⟨its,r,ht,hz⟩:=I.list hx;have hlen:=r.length;refine⟨"list",_,slot_list_getitem.lookup,ht.isList.typeIs,?_⟩;refine wpAny_getItem_list_slice ht.isList hs pl pu .none (by simp) ?_ (by rw[JU]<;>omega)
 rw[pN, <-hlen];refine⟨.ref s.heap.objs.size,_,I.laid (t':=s.toks) (o:=.lst (pM xs lo hi)) (fun b ob q=>JH _ q) (JK _) ?_,rfl,q _ (I.hok.fresh (JK _))⟩;exact⟨JV (my xs lo hi) hz,_,0,(r.drop (HT.sIx xs.length 0 lo)).take (HT.sIx xs.length xs.length hi - HT.sIx xs.length 0 lo),JP _ rfl⟩
theorem rm:dH X (.builtin "len") (fun xs H Q=>∃ p ys,xs=[.ref p]/\(j7 X.K H p ys\/lH X.K H p ys)/\Q (.int ys.length) H):=by
 intro pins s σ H xs us Q I r h;obtain⟨p,ys,rfl,hq,q⟩:=h;obtain⟨u,rfl,rx⟩:=vals1 r;cases rx;have hn:=nI;rcases hq with hq|hq
 ·obtain⟨its,r',pl,hz⟩:=I.list hq;have hlen:=r'.length;exact Calls.call_len_list pl.isList (by simp only[List.size_toArray]<;>omega) ⟨.int ys.length,H,I.tok _,⟨s.toks+1,by rw[JU,hlen]⟩,q⟩
 ·obtain⟨its,r',pl,hz⟩:=I.tuple hq;have hlen:=r'.length;exact len_tuple pl (by simp only[List.size_toArray]<;>omega) ⟨.int ys.length,H,I.tok _,⟨s.toks+1,by rw[JU,hlen]⟩,q⟩
theorem dH.or{r r':List V->Hp->VK->Prop}(h:dH X f r)(h':dH X f r'):dH X f (fun xs H Q=>r xs H Q\/r' xs H Q):=by
 intro pins s σ H xs us Q I rs q;rcases q with q|q
 ·exact h pins s σ H xs us Q I rs q
 ·exact h' pins s σ H xs us Q I rs q
theorem pO:dH X (.type "tuple") (fun xs H Q=>∃ p ys,xs=[.ref p]/\((j7 X.K H p ys/\∀ l,H l=none->Q (.ref l) (upd H l (.tup ys)))\/(lH X.K H p ys/\Q (.ref p) H))):=by
 intro pins s σ H xs us Q I r h;obtain⟨p,ys,rfl,h⟩:=h;obtain⟨u,rfl,rx⟩:=vals1 r;cases rx;rcases h with⟨hq,q⟩|⟨hq,q⟩
 ·obtain⟨its,r',pl,hz⟩:=I.list hq;have hlen:=r'.length;refine call_tuple_list pl.isList (fun h' kp=>?_) (by simp only[List.size_toArray]<;>omega)
  have I1:Inv X pins σ H {s with heap:=h'}:=I.kept (t':=s.toks) kp;have I2:Inv X pins σ (upd H h'.objs.size (.tup ys)) {s with heap:=h'.push {cls:=.type "tuple",data:=.seq its.toArray}}:=
   I1.laid (t':=s.toks) (fun b o e=>JH _ e) (JK _) (show bo X.prog X.w _ _ _ (.tup ys)from⟨hz,its,r',IsTup.new _ _⟩)
  exact⟨.ref h'.objs.size,_,I2,rfl,q _ (I1.hok.fresh (JK _))⟩
 ·obtain⟨its,r',pl,hz⟩:=I.tuple hq;exact call_tuple_same pl ⟨.ref p,H,I,rfl,q⟩
def IJ(K:W.Frag)(T:String)(x:V)(H:Hp):Prop:=match x with
 | .str _=>T="str"
 | .int _=>T="int"
 | .ref p=>(T="list"/\∃ xs,j7 K H p xs)\/(T="tuple"/\∃ o,K.lookup p=some o/\o.cls= .type "tuple"/\o.dict=none)\/
   (T="dict"/\((∃ kvs,H p=some (.dK kvs))\/∃ kvs,H p=some (.dT kvs)))\/(T="set"/\∃ S n,H p=some (.set S n))
 |_=>False
theorem EB(I:Inv X pins σ H s)(r:RelV x v)(ty:IJ X.K T x H):
  s.TypeIs v T/\∀ a,v= .ref a->∃ ob,s.heap.get? a=some ob/\ob.dict=none:=by
 cases x with
 |str z=>
  obtain⟨t,rfl⟩:=r;cases (show T="str" from ty);exact⟨typeIs_str s z t,fun _ e=>nomatch e⟩
 |int i=>
  obtain⟨t,rfl⟩:=r;cases (show T="int" from ty);exact⟨typeIs_int s i t,fun _ e=>nomatch e⟩
 | ref p=>
  cases r;rcases ty with⟨rfl,xs,hq⟩|⟨rfl,o,hk,hc,hd⟩|⟨rfl,hk⟩|⟨rfl,S,n,hk⟩
  ·obtain⟨its,_,pl,_⟩:=I.list hq;refine⟨pl.isList.typeIs,fun a e=>?_⟩;cases e;obtain⟨o,n,e,c,hd,_⟩:=pl;exact⟨o,e,hd⟩
  ·refine⟨⟨o,I.kIn p o hk,hc⟩,fun a e=>?_⟩;cases e;exact⟨o,I.kIn _ o hk,hd⟩
  ·have z:∃ o,s.heap.get? p=some o/\o.ExactDict:=by
    rcases hk with⟨kvs,hk⟩|⟨kvs,hk⟩
    ·obtain⟨_,_,_,_,o,_,_,e,ex,_⟩:=I.hok p _ hk;exact⟨o,e,ex⟩
    ·obtain⟨_,_,_,_,o,_,_,e,ex,_⟩:=I.hok p _ hk;exact⟨o,e,ex⟩
   obtain⟨o,e,ex⟩:=z;refine⟨⟨o,e,ex.1⟩,fun a e2=>?_⟩;cases e2;exact⟨o,e,ex.2.1⟩
  ·obtain⟨o,_,_,_,e,ex,_⟩:=I.hok p _ hk;refine⟨⟨o,e,ex.1⟩,fun a e2=>?_⟩;cases e2;exact⟨o,e,ex.2.1⟩
 |_=>exact False.elim ty
def Jv(K:W.Frag)(T:String)(r:V->List V->Hp->VK->Prop)(to:TE)(t:TA):TE:=fun σ H Q=>to σ H fun x H1=>IJ K T x H1/\t σ H1 fun xs H2=>r x xs H2 Q
variable {o e:Expr}{es:List Expr}{to:TE}{t:TA}{name:Str}{apos cpos:Pos}{T id:String}{r:V->List V->Hp->VK->Prop}
theorem GU(pa:PlainAttrs T)(slot:Slot T name id)(a4:typeOf (.builtin id)=pure (.type "method_descriptor"))(hm:IH X id r)(ho:PE X o to)(ha:PA X (e::es) t)
  (Y:attributeBase o name X.env (eval o X.env)=eval o X.env:=by rfl)
  (O:((backTo cpos (starEach (e::es) X.env)).all (fun x=> !x.1) && (backToKw cpos (keywordEach [] X.env)).all (fun x=>x.1.isSome)
   && decide ((e::es).length+([]:List Keyword).length+(if ([]:List Keyword).isEmpty then 0 else 1)<30))=true:=by rfl)
  (U:(apos.endLine==cpos.line)=true:=by rfl) (hs:starEach (e::es) X.env=(false,eval e X.env)::starEach es X.env:=by rfl) (Z:(backTo cpos (starEach es X.env)).any (·.1)=false:=by rfl):
  PE X (.Call (.Attribute o name apos) (e::es) [] cpos) (Jv X.K T r to t):=by
 intro pins s σ H Q I h;refine wpAny_Call_method_late Y O U rfl (dy (ho pins s σ H _ I h) fun v s1 ⟨x,H1,I1,r1,ty,q1⟩=>?_);obtain⟨h1,h2⟩:=EB I1 r1 ty;refine⟨T,id,pa,slot,a4,h1,h2,?_⟩;have hA:=ha cpos pins s1 σ H1 _ I1 q1;rw[hs]at hA ⊢;refine Calls.callWith_builtin (by show(false||(backTo cpos (starEach es X.env)).any (·.1))=false;rw[Z]<;>rfl) (MG ?_)
 exact dy hA fun us s2 ⟨vs,H2,I2,r2,q2⟩=>hm pins s2 σ H2 x vs v us Q I2 r1 r2 q2
end
end L2
namespace L2
open PySem PySem.Spec PyProof.Rows
def Ji(X:Cx)(id:String)(r:V->List V->Hp->VK->Prop):Prop:=
 ∀(pins:List (Addr×Obj)) (s:Shared) (σ:St) (H:Hp) (x:V) (xs:List V) (v:Value) (us:List Value) (Q:VK),Inv X pins σ H s->RelV x v->bj xs us->r x xs H Q->
  wpAny (model X.prog X.w) X.A (call (.builtin id) (v::us)) (EP X pins σ Q) X.xe s
theorem bj.one:∀{x:V} {us:List Value},bj [x] us->∃ u,us=[u]/\RelV x u
 |_,_,.cons r .nil=>⟨_,rfl,r⟩
theorem bj.eraseIdx:∀{xs:List V} {us:List Value} (i:Nat),bj xs us->bj (xs.eraseIdx i) (us.eraseIdx i)
 |_,_,_,.nil=>.nil
 |_,_,0,.cons _ t=>t
 |_,_,i+1,.cons r t=>.cons r (bj.eraseIdx i t)
theorem qj{α:Type}:∀(l:List α) (i:Nat),(l.eraseIdx i).length<=l.length
 |[],_=>JK _
 |_::_,0=>LP _
 |_::r,i+1=>L8 (qj r i)
section
variable {X:Cx}{pins:List (Addr×Obj)}{σ:St}{H:Hp}{s:Shared}{l b:Addr}{xs ys zs:List V}
theorem Inv.lset{its its':List Value}{f:Array Value->Array Value}(I:Inv X pins σ H s)(hH:H l=some (.lst xs))
  (e:s.heap.get? l=some {cls:=.type "list",data:=.seq its.toArray n}) (hf:f its.toArray=its'.toArray) (hv:bj ys its') (hz:ys.length<=sizeLine):
  Inv X pins σ (upd H l (.lst ys)) {s with heap:=s.heap.update l (Obj.mapSeq f),toks:=t'}:=by
 have q:=PySem.IsL.update e f;rw[hf]at q;refine I.write (x:=l) (e:=l) (by rw[hH];exact trivial) (.inl rfl) (fun b' u hb hu=>(Kn s.heap (Obj.mapSeq f) (Ne.symm hb)).trans hu) ⟨_,q⟩ ?_
 exact⟨hz,its',_,hv,q⟩
theorem Inv.lnew(I:Inv X pins σ H s)(hv:bj ys its)(hz:ys.length<=sizeLine):
  Inv X pins σ (upd H s.heap.objs.size (.lst ys)) {s with heap:=s.heap.push {cls:=.type "list",data:=.seq its.toArray},toks:=t'}:=
 I.laid (fun _ _ q=>JH _ q) (JK _) ⟨hz,its,0,hv,JP _ rfl⟩
theorem Inv.fresh(I:Inv X pins σ H s):H s.heap.objs.size=none:=I.hok.fresh (JK _)
theorem Inv.lstM(I:Inv X pins σ H s)(hH:H l=some (.lst xs)):xs.length<=sizeLine/\∃(its:List Value) (n:Nat),bj xs its/\xs.length=its.length/\s.heap.get? l=some {cls:=.type "list",data:=.seq its.toArray n}:=by
 obtain⟨z,its,n,r,e⟩:=I.hok l _ hH;exact⟨z,its,n,r,r.length,e⟩
theorem zw(h:n<=sizeLine):Builtin.List.listTooLong n=false:=by
 unfold Builtin.List.listTooLong;exact Kr (by omega)
end
section
variable {X:Cx}
def wj:V->List V->Hp->VK->Prop:=fun x vs H Q=>∃ l xs y,x= .ref l/\vs=[y]/\H l=some (.lst xs)/\xs.length<sizeLine/\Q .non (upd H l (.lst (xs++[y])))
theorem lJ:Ji X "list.append" wj:=by
 intro pins s σ H x vs v us Q I rx rv h;obtain⟨l,xs,y,rfl,rfl,hH,hz,q⟩:=h;cases rx;obtain⟨u,rfl,ru⟩:=rv.one;obtain⟨z,its,n,r,hl,e⟩:=I.lstM hH;refine call_meets F.slot_list_append ⟨_,e,rfl⟩ F.entry_list_append (F.args_list_append_2 _ _) (PySem.list_append l its.toArray n u (by rw[JU];omega)) ⟨e,?_⟩
 refine⟨.non,_,I.lset (its':=its++[u]) hH e (by simp) (r.append (.cons ru .nil)) ?_,rfl,q⟩
 rw[JM,MB];omega
def zx:V->List V->Hp->VK->Prop:=fun x vs H Q=>∃ l xs i k y,x= .ref l/\vs=[.int i]/\H l=some (.lst xs)/\ -(2 ^ 63)<=i/\i<2 ^ 63/\seqIndex? i xs.length=some k/\xs[k]? =some y/\Q y (upd H l (.lst (xs.eraseIdx k)))
theorem zy:Ji X "list.pop" zx:=by
 intro pins s σ H x vs v us Q I rx rv h;obtain⟨l,xs,i,k,y,rfl,rfl,hH,h1,h2,hk,hy,q⟩:=h;cases rx;obtain⟨u,rfl,ru⟩:=rv.one;obtain⟨t,rfl⟩:=ru;obtain⟨z,its,n,r,hl,e⟩:=I.lstM hH;obtain⟨w,hw,Z⟩:=r.get hy;refine call_meets F.slot_list_pop ⟨_,e,rfl⟩ F.entry_list_pop (F.args_list_pop_2 _ _)
  (MeetsSeq.list_pop_at l its.toArray n i t k w (fitsIndex_both h1 h2) (by rw[JU, <-hl];exact hk) (by rw[<-Kc];exact hw) (by rw[JU];omega)) ⟨e,?_⟩
 refine⟨y,_,I.lset (its':=its.eraseIdx k) hH e ?_ (r.eraseIdx k) ?_,Z,q⟩
 ·show its.toArray.eraseIdxIfInBounds k=(its.eraseIdx k).toArray;rw[List.eraseIdxIfInBounds_toArray]
 ·have:=qj xs k;omega
end
section
variable {prog:Program}{w:World}{A:Around}{E:Value->Shared->Prop}{s:Shared}
end
section
variable {X:Cx}
end
end L2
namespace Att
open PySem PySem.W PySem.Calls PyProof.Rows
theorem mQ:∀(ns:List Int) (vs:List Value),WellAll P h vs (ns.map WData.int)->IntsAre vs ns:=by
 intro ns
 induction ns with
 |nil=>
  intro vs w;rw[KZ]at w;cases w;exact .nil
 | cons n ns ih=>
  intro vs w;rw[J3]at w;cases w with
  |cons a b=>
   cases a;exact .cons _ _ (ih _ b)
theorem xK{l:OpenLaw}(hn:l.most=some n)
  (Z:l.row.toRowW.claim.pre args=true) (Y:WellAll P h vals args):
  ∃ a vs ns,vals=[Value.ref a]/\args=[WData.list (ns.map WData.int)]/\h.get? a=some {cls:=.type "list",data:=.seq vs.toArray}/\IntsAre vs ns/\ns.length<=n:=by
 have gU:WShape.hasAll [] args [.list .int]=true:=(pre_splitW Z).1;have hc:l.pre.holds [] {args:=args}=true:=(pre_splitW Z).2;obtain⟨d,r,rfl,h1,h2⟩:=hasAllW_cons gU;obtain rfl:=hasAllW_nil h2;obtain⟨xs,rfl,h3⟩:=hasW_list h1;obtain⟨ns,rfl⟩:=items_int h3;have hlen:ns.length<=n:=by
  unfold OpenLaw.pre at hc;have h4:(WTm.not (.lt (.lit (.int (n:Int))) (.len (.arg 0)))).holds [] {args:=[.list (ns.map .int)]}=true:=by
   have h4:=(holds_andW hc).1;rw[hn]at h4;exact h4
  have h5:=condW_of h4 (w_not (w_lt w_lit (w_len_list (w_arg rfl))));rw[JI]at h5;refine Nt fun q=>?_;have q':(n:Int)<((ns.length:Nat):Int):=by omega
  first
   |(rw[JZ q']at h5;exact absurd h5 (by decide))
   |(simp at h5;omega)
 cases Y with
 |cons w1 w2=>
  cases w2;cases w1 with
  |list ho hall=>exact⟨_,_,ns,rfl,rfl,ho,mQ ns _ hall,hlen⟩
theorem xM(l:OpenLaw)(args:List WData):l.row.toRowW.claim.post args (.bool true) args=true:=
 postW_of (r:=l.row.toRowW) (X:=(true==true))
  (show WShape.has [] (.bool true) .bool=true by first|rfl|decide|simp[WShape.has,WShape.arms,WShape.armsAll])
  (show(WTm.eq .res (.lit (.bool true))).value [] {args:=args,res:=some (.bool true),after:=args}=some (.bool (true==true))from w_eq_bool (w_res rfl) w_lit) rfl
theorem attach_call{l:OpenLaw}{YP:World->Heap->Prop}{d:DefRec}
  (hn:l.most=some n) (b0:d.params.defaults=[])
  (call:∀(w:World) (s₀ s₁:Shared) (mg mb:Str->Option Value) (fa:Addr) (o:Obj) (pm cd doc:Value) (a:Addr) (vs:List Value) (ns:List Int),
   Ground q loose [] XP w s₀ mg mb s₁.heap->YP w s₁.heap->
   s₁.heap.get? fa=some o->o.data= .func (docDef d.name d.params d.body d.scope pm cd doc)->s₁.heap.CodeRec cd d.name->mg d.name=some (.ref fa)->
   s₁.heap.get? a=some {cls:=.type "list",data:=.seq vs.toArray}->IntsAre vs ns->ns.length<=n->s₁.gens= #[]->
   codeAny (model l.prog w) callerA (.call (.ref fa) ⟨[.ref a],[]⟩) (fun r s'=>r= .ok (.ret (.bool true))/\OldK s₁.heap s'.heap/\s'.os=s₁.os/\AllBare s'.gens) s₁):
  WalkO q loose XP YP l.row.toRowW d [] (fun f vs=>PySem.call f vs):=by
 intro w s₀ s₁ mg mb G Y fa o pm cd doc dV kV ho hd a4 hD a6 hg args vals as Z b1 b2 O b3;obtain rfl:dV= .none:=Dflts.none hD b0;obtain rfl:kV= .none:=Dflts.noKw hD;obtain⟨a,vs,ns,rfl,rfl,U,hints,hlen⟩:=xK hn Z O;refine enter_call (Lu (call w s₀ s₁ mg mb fa o pm cd doc a vs ns G Y ho (fd_plain hd) a4 a6 U hints hlen hg) fun r s' hq=>?_);obtain⟨rfl,h2,h3,h4⟩:=hq;exact⟨.inl ⟨.bool true,.bool true,[],rfl,fun _=>rfl,.bool true,xM l _,fun _=>⟨List.Pairwise.nil,fun _ hm=>(nomatch hm)⟩⟩,h2,h3,h4⟩
section
variable {prog:Program}{w:World}{A:Around}{E:Value->Shared->Prop}{s:Shared}{K:Frag}
def ledger(h:Heap)(L d:Addr):List (Addr×Obj):=(List.range h.objs.size).filterMap fun a=>if a=L\/a=d then none else (h.get? a).map fun o=>(a,o)
end
end Att
namespace L2
open PySem PySem.Spec PyProof.Rows
theorem jS:∀{vs:List Value} {ns:List Int},IntsAre vs ns->bj (ns.map V.int) vs
 |_,_,.nil=>.nil
 |_,_,.cons n t h=>.cons ⟨t,rfl⟩ (jS h)
def EC(H:Hp):Prop:=∀ b,H b=none\/∃ o xs,H b=some (.frz o (.lst xs))
theorem zz{K:W.Frag}{mb:Str->Option Value}{CX:yR}{sp:Sp}{s₁:Shared}{vs:List Value}
  (KX:K.In s₁.heap) (a4:s₁.heap.Ns mainGlobals mg) (hb:s₁.heap.Ns builtinsNs mb) (b5:∀ x:Str,x≠"__name__"->mb x=bootBuiltins x) (O:s₁.heap.NoLimit) (hg:s₁.gens= #[])
  (ha:s₁.heap.get? a=some {cls:=.type "list",data:=.seq vs.toArray}) (hi:IntsAre vs ns) (hl:ns.length<=sizeLine) (hr:Room k callerA)
  (F:∀ base:Heap,K.In base->base.Ns mainGlobals mg->FnOk P w K mg base CX k fa fd [x] sp) (U:∀(s:Shared) (u:Value),BindsTo s fd ⟨[u],[]⟩ [(x,u)])
  (b4:∀ H:Hp,EC H->j7 K H a (ns.map V.int)->sp [.ref a] H (fun v _=>v= .bl true) fun _ _ _=>False)
  (b2:∀ H e s',CX [] H s₁ (fun _ _ _=>False) e s'->False):
  codeAny (model P w) callerA (.call (.ref fa) ⟨[.ref a],[]⟩) (fun r s'=>r= .ok (.ret (.bool true))/\OldK s₁.heap s'.heap/\s'.os=s₁.os/\AllBare s'.gens) s₁:=by
 have rv:=jS hi;have b1:=hi.length;have core:∀ H:Hp,EC H->j7 K H a (ns.map V.int)->fP P w H s₁.heap->(∀ b,H b≠none->b=a)->(H a≠none->K.lookup a=none)->
   codeAny (model P w) callerA (.call (.ref fa) ⟨[.ref a],[]⟩) (fun r s'=>r= .ok (.ret (.bool true))/\OldK s₁.heap s'.heap/\s'.os=s₁.os/\AllBare s'.gens) s₁:=by
  intro H hO hS hok hA hK;have Z:∀{b:Addr} {o:Obj},s₁.heap.get? b=some o->H b=none->(j6 s₁.heap H).get? b=some o:=fun e n=>kK e n;have b3:∀{b:Addr} {o:Obj} {es:Array DictEntry} {ep:Nat},s₁.heap.get? b=some o->o.data= .dict es ep->H b=none:=fun{b o es ep} e d=>by
   cases q:H b with
   |none=>rfl
   |some u=>
    have e':b=a:=hA b (by rw[q];simp)
    subst e';rw[ha]at e;cases e;have d':Data.seq vs.toArray _=Data.dict es ep:=d;cases d'
  have Y:∀{b:Addr} {m:Str->Option Value},s₁.heap.Ns b m->(j6 s₁.heap H).Ns b m:=fun{b m} ⟨o,es,ep,e,d,r⟩=>⟨o,es,ep,Z e (b3 e d),d,r⟩;have b0:K.In (j6 s₁.heap H):=fun b o e=>Z (KX b o e) (by
   cases q:H b with
   |none=>rfl
   |some u=>
    have e':b=a:=hA b (by rw[q];simp)
    subst e';rw[hK (by rw[q];simp)]at e;cases e)
  have hM:Mod K mg (j6 s₁.heap H):=⟨b0,Y a4,⟨mb,Y hb,b5⟩,let ⟨mc,h1,h2⟩:=O;⟨mc,Y h1,h2⟩⟩;have e0:aM P w K mg (j6 s₁.heap H) callerA [] s₁ H:=⟨rfl,hM,fun b o e=>qZ e,Mf (lG _ _),trivial,fun b hb=>absurd (show b∈([]:List Addr)from hb) (by simp),hok,.of_eq hg⟩
  refine Lu ((F _ b0 (Y a4)).run callerA [] s₁ H ⟨[.ref a],[]⟩ [.ref a] [.ref a] _ _ hr e0 (U s₁ (.ref a)) (.cons rfl .nil) (b4 H hO hS)) fun r s' h=>?_;cases r with
  |error e=>exact(b2 H e s' h).elim
  | ok fl=>
   cases fl with
   |next=>exact False.elim h
   |brk=>exact False.elim h
   |cont=>exact False.elim h
   | ret u=>
    obtain⟨v,H',os,bare,un,a6,r',q⟩:=h;have q':v= .bl true:=q;subst q';obtain rfl:u=Value.bool true:=r';refine⟨rfl,OldK.of_keep fun b o e=>?_,os,bare⟩;cases q:H b with
    |none=>exact un.keep b o e q (by intro z;exact absurd (show b∈([]:List Addr)from z) (by simp)) (by simp)
    | some u=>
     rcases hO b with z|⟨ob,xs,z⟩
     ·rw[q]at z;cases z
     ·have z2:=un.frzs b ob _ z;obtain⟨e1,_⟩:=hok b _ z;obtain⟨e2,_⟩:=a6 b _ z2;rw[e]at e1;cases e1;exact e2
 cases hk:K.lookup a with
 |some o=>
  have e:=KX a o hk;rw[ha]at e;cases e;refine core (fun _=>none) (fun _=>.inl rfl) (.inr ⟨_,vs.toArray,_,hk,rfl,rfl,rfl,by rw[JU,b1];exact hl,by simpa using rv⟩) (fun b u z=>by have z':(none:Option HO)=some u:=z;cases z') (fun b z=>absurd rfl z) fun z=>absurd rfl z
 | none=>
  refine core (fun b=>if b=a then some (.frz {cls:=.type "list",data:=.seq vs.toArray} (.lst (ns.map V.int)))else none) (fun b=>?_) (.inl (.inr ⟨{cls:=.type "list",data:=.seq vs.toArray},if_pos rfl⟩)) (fun b u z=>?_) (fun b z=>?_) fun _=>hk
  ·by_cases hb:b=a
   ·exact .inr ⟨_,_,if_pos hb⟩
   ·exact .inl (if_neg hb)
  ·by_cases hb:b=a
   ·have z':=(if_pos hb).symm.trans z;cases z';subst hb;exact⟨ha,by rw[JI];exact hl,vs,_,rv,ha⟩
   ·have z':=(if_neg hb).symm.trans z;cases z'
  ·by_cases hb:b=a
   ·exact hb
   ·exact absurd (if_neg hb) z
end L2
namespace L2
open PySem PySem.Spec PyProof.Rows
abbrev JF{K:W.Frag}{h:Heap}(_:K.In h):W.Frag:=K
theorem HJ{l:W.OpenLaw}{YP:World->Heap->Prop}{d:DefRec}{K:Params->W.Frag}{CX:World->yR}{sp:World->Sp}
  (hn:l.most=some n) (a6:n<=sizeLine) (b0:d.params.defaults=[]) (hr:Room k callerA)
  (hY:∀(w:World) (h:Heap),YP w h->(K w.params).In h)
  (F:∀(w:World) (mg:Str->Option Value) (fa:Addr) (h:Heap),(K w.params).In h->h.Ns mainGlobals mg->mg d.name=some (.ref fa)->
   ∃ fd:FuncData,(∀(s:Shared) (u:Value),BindsTo s fd ⟨[u],[]⟩ [(x,u)])/\
    ∀ base:Heap,(K w.params).In base->base.Ns mainGlobals mg->FnOk l.prog w (K w.params) mg base (CX w) k fa fd [x] (sp w))
  (a4:∀(w:World) (H:Hp) (a:Addr) (ns:List Int),ns.length<=n->EC H->j7 (K w.params) H a (ns.map V.int)->sp w [.ref a] H (fun v _=>v= .bl true) fun _ _ _=>False)
  (U:∀(w:World) (H:Hp) (s:Shared) (e:Value) (s':Shared),CX w [] H s (fun _ _ _=>False) e s'->False):
  W.WalkO q loose XP YP l.row.toRowW d [] (fun f vs=>PySem.call f vs):=by
 refine Att.attach_call hn b0 fun w s₀ s₁ mg mb fa o pm cd doc a vs ns G Y ho hd b1 O Z hints hlen hg=>?_;have KX:=hY w _ Y;obtain⟨fd,hb,hF⟩:=F w mg fa _ KX G.T.g O;exact zz KX G.T.g G.T.b G.T.builtins G.T.nolimit hg Z hints (JV hlen a6) hr hF hb (fun H hO hS=>a4 w H a ns hlen hO hS) fun H e s'=>U w H s₁ e s'
end L2
namespace L2
open PySem PySem.Spec PyProof.Rows
def gX(s:Stmt):Arguments:=match s with
 | .FunctionDef _ a _ _ _ _ _ _ _ _=>a
 |_=>{posonlyargs:=[],args:=[],vararg:=none,kwonlyargs:=[],kw_defaults:=[],kwarg:=none,defaults:=[]}
def c9(s:Stmt):List Stmt:=match s with
 | .FunctionDef _ _ b _ _ _ _ _ _ _=>b
 |_=>[]
def av(s:Stmt):Scope:=match s with
 | .FunctionDef _ _ _ _ _ _ sc _ _ _=>sc
 |_=>{kind:=.function,names:=[],isGenerator:=false,isCoroutine:=false}
abbrev Jw:yR:=fun _ _ _ _ _ _=>False
abbrev E0:XK:=fun _ _ _=>False
structure Fun(K:W.Frag)(x qual:Str)(st:Stmt)(f:Addr)(fd:FuncData):Prop where
 ex:∃(oc:Value) (od:Option Addr) (kV doc pm:Value) (an:Option Addr) (cdv ct:Value) (osl:Array (Option Value)),
  fd=W.fnOf x qual (gX st) (c9 st) (av st) .none kV doc pm an cdv ct/\K.lookup f=some ⟨oc,od,.func fd,osl⟩/\W.codeIn K cdv qual=true
 kp:W.keepIn K (.ref f)=true
section
variable {P:Program}{w:World}{K:W.Frag}{mg:Str->Option Value}{base:Heap}
theorem Fun.binds{x qual:Str}{st:Stmt}{f:Addr}{fd:FuncData}{ps:List Str}(F:Fun K x qual st f fd)
  (h:∀(kV doc pm:Value) (an:Option Addr) (cdv ct:Value) (us:List Value),us.length=ps.length->bindArgs (W.fnOf x qual (gX st) (c9 st) (av st) .none kV doc pm an cdv ct) ⟨us,[]⟩=pure (ps.zip us)):Binds K fd ps []:=by
 obtain⟨oc,od,kV,doc,pm,an,cdv,ct,osl,rfl,lk,Z⟩:=F.ex;exact .all (h kV doc pm an cdv ct)
theorem ED{x qual:Str}{st:Stmt}{f:Addr}{oc:Value}{od an:Option Addr}{osl:Array (Option Value)}{kV doc pm cdv ct:Value}(l:K.lookup f=some ⟨oc,od,.func (W.fnOf x qual (gX st) (c9 st) (av st) .none kV doc pm an cdv ct),osl⟩)
  (c:W.codeIn K cdv qual=true) (k:W.keepIn K (.ref f)=true):Fun K x qual st f (W.fnOf x qual (gX st) (c9 st) (av st) .none kV doc pm an cdv ct):=⟨⟨oc,od,kV,doc,pm,an,cdv,ct,osl,rfl,l,c⟩,k⟩
end
section
variable {X:Cx}
theorem pv(i:Nat)(hN:X.N[i]? =some x:=by rfl)(hv:xy X.env.scope x:=by first|exact Or.inl rfl|exact Or.inr (Or.inl rfl)|exact Or.inr (Or.inr rfl))(hd:(x==("__debug__":Str))=false:=by decide)
  (Z:(x==("__classdict__":Str))=false:=by decide):PE X (.Name x pos) (Gk i):=rf hN hv hd Z
end
end L2
end
namespace S3
open PySem PySem.W PyProof.Rows
def bp{α:Type}(b:Nat->Nat->Bool):KasT α->α
 | .ret a=>a
 | .ask i j k=>bp b (k (b i j))
theorem gD{α β:Type}(b:Nat->Nat->Bool)(f:α->KasT β):∀ t:KasT α,bp b (t.bind f)=bp b (f (bp b t))
 | .ret _=>rfl
 | .ask i j k=>gD b f (k (b i j))
section
variable (r:Nat->Nat)
abbrev dP:Nat->Nat->Bool:=fun i j=>decide (r i<r j)
def ka(p:Array Nat)(k:Nat):Nat:=r (p.getD k 0)
def zA(p:Array Nat)(n:Nat):Prop:=∀ i j,i<=j->j<n->ka r p i<=ka r p j
def IK(p:Array Nat)(n:Nat):Prop:=∀ i j,i<=j->j<n->ka r p j<=ka r p i
variable {r}
theorem kN{p q:Array Nat}{i j:Nat}(h:p[i]? =q[j]?):p.getD i 0=q.getD j 0:=by
 rw[Km,Km,h]
theorem rp{p:Array Nat}{i j:Nat}(hj:j<=p.size)(k:Nat):ka r (kas_rev p i j) k=if i<=k/\k<j then ka r p (i+j - 1 - k)else ka r p k:=by
 have h:=getElem?_mirror_all (i:=i) hj k;unfold ka kas_rev;by_cases c:i<=k/\k<j
 ·rw[if_pos c]at h ⊢;rw[kN h]
 ·rw[if_neg c]at h ⊢;rw[kN h]
theorem qk{p:Array Nat}{Z d:Nat}(hs:Z<p.size)(hd:d<=Z)(k:Nat):ka r (bubble p Z d) k=if k=Z - d then ka r p Z else if Z - d<k/\k<=Z then ka r p (k - 1)else ka r p k:=by
 have h:=getElem?_bubble hs d hd k;unfold ka;by_cases c:k=Z - d
 ·rw[if_pos c]at h ⊢;rw[kN h]
 ·rw[if_neg c]at h ⊢;by_cases c2:Z - d<k/\k<=Z
  ·rw[if_pos c2]at h ⊢;rw[kN h]
  ·rw[if_neg c2]at h ⊢;rw[kN h]
theorem nO:(kas_rev p i j).size=p.size:=mirror_size _ _ _ _
theorem eX:(kas_rev p i j).Perm p:=mirror_perm _ _ _ _
theorem rq:∀(f n:Nat),1<=n->zA r p n->n<=bp (dP r) (kas_asc p f n)/\bp (dP r) (kas_asc p f n)<=n+f/\zA r p (bp (dP r) (kas_asc p f n))
 |0,n,h1,h=>⟨JK _,JK _,h⟩
 | f +1,n,h1,h=>by
  show n<=bp (dP r) (if (dP r) (p.getD n 0) (p.getD (n - 1) 0)=true then KasT.ret n else kas_asc p f (n+1))/\bp (dP r) (if (dP r) (p.getD n 0) (p.getD (n - 1) 0)=true then KasT.ret n else kas_asc p f (n+1))<=n+(f+1)/\zA r p (bp (dP r) (if (dP r) (p.getD n 0) (p.getD (n - 1) 0)=true then KasT.ret n else kas_asc p f (n+1)));by_cases c:(dP r) (p.getD n 0) (p.getD (n - 1) 0)=true
  ·rw[if_pos c];exact⟨JK _,by show n<=n+(f+1);omega,h⟩
  ·rw[if_neg c];have c':ka r p (n - 1)<=ka r p n:=by
    exact Nt fun z=>c (JZ z)
   obtain⟨a1,a2,a3⟩:=rq f (n+1) (by omega) (fun i j Z hj=>by
    by_cases e:j=n
    ·subst e;by_cases e2:i=j
     ·subst e2;exact JK _
     ·exact JV (h i (j - 1) (by omega) (by omega)) c'
    ·exact h i j Z (by omega))
   exact⟨by omega,by omega,a3⟩
structure Down(r:Nat->Nat)(p:Array Nat)(n q:Nat):Prop where
 dsc:IK r p n
 q1:q+1<=n
 eqs:∀ k,n - (q+1)<=k->k<n->ka r p k=ka r p (n - 1)
theorem nP{p:Array Nat}(hn:n<=p.size)(h:Down r p n q):∀ k,ka r (kas_rev p (n - (q+1)) n) k=ka r p k:=fun k=>by
 rw[rp hn];split
 ·next c=>rw[h.eqs k c.1 c.2,h.eqs _ (by omega) (by omega)]
 ·rfl
theorem kO:∀(f:Nat) (p:Array Nat) (n q:Nat),n+f<=p.size->Down r p n q->
  Down r (bp (dP r) (kas_desc f p n q)).1 (bp (dP r) (kas_desc f p n q)).2.1 (bp (dP r) (kas_desc f p n q)).2.2/\(bp (dP r) (kas_desc f p n q)).1.Perm p/\n<=(bp (dP r) (kas_desc f p n q)).2.1/\(bp (dP r) (kas_desc f p n q)).2.1<=n+f
 |0,p,n,q,hs,h=>⟨h,Mj _,JK _,JK _⟩
 | f +1,p,n,q,hs,h=>by
  have e:bp (dP r) (kas_desc (f+1) p n q)=if ka r p n<ka r p (n - 1)then (if q>0 then bp (dP r) (kas_desc f (kas_rev p (n - (q+1)) n) (n+1) 0)else bp (dP r) (kas_desc f p (n+1) 0))
    else if ka r p (n - 1)<ka r p n then (p,n,q)else bp (dP r) (kas_desc f p (n+1) (q+1)):=by
   show bp (dP r) (if (dP r) (p.getD n 0) (p.getD (n - 1) 0)=true then _ else _)=_;unfold ka;by_cases c:r (p.getD n 0)<r (p.getD (n - 1) 0)
   ·rw[if_pos (by simpa using c),if_pos c]
    split<;>rfl
   ·rw[if_neg (by simpa using c),if_neg c]
    show bp (dP r) (if (dP r) (p.getD (n - 1) 0) (p.getD n 0)=true then _ else _)=_;by_cases c2:r (p.getD (n - 1) 0)<r (p.getD n 0)
    ·rw[if_pos (by simpa using c2),if_pos c2];rfl
    ·rw[if_neg (by simpa using c2),if_neg c2]
  have q1:=h.q1;have ext:∀{p':Array Nat} {q':Nat},(∀ k,ka r p' k=ka r p k)->ka r p n<=ka r p (n - 1)->(q'=0\/(q'=q+1/\ka r p n=ka r p (n - 1)))->Down r p' (n+1) q':=fun{p' q'} hk hle hq=>by
   refine⟨fun i j Z hj=>?_,by omega,fun k h1 h2=>?_⟩
   ·rw[hk,hk];by_cases ej:j=n
    ·subst ej;by_cases e2:i=j
     ·subst e2;exact JK _
     ·exact JV hle (h.dsc i (j - 1) (by omega) (by omega))
    ·exact h.dsc i j Z (by omega)
   ·rw[hk,hk,show n+1 - 1=n by omega]
    rcases hq with rfl|⟨rfl,he⟩
    ·have:k=n:=by omega
     subst this;rfl
    ·by_cases ek:k=n
     ·subst ek;rfl
     ·rw[he];exact h.eqs k (by omega) (by omega)
  rw[e];by_cases c:ka r p n<ka r p (n - 1)
  ·rw[if_pos c];by_cases hq:q>0
   ·rw[if_pos hq];obtain⟨a1,a2,a3,a4⟩:=kO f (kas_rev p (n - (q+1)) n) (n+1) 0 (by rw[nO];omega) (ext (nP (by omega) h) (by omega) (.inl rfl))
    exact⟨a1,a2.trans eX,by omega,by omega⟩
   ·rw[if_neg hq];obtain⟨a1,a2,a3,a4⟩:=kO f p (n+1) 0 (by omega) (ext (fun _=>rfl) (by omega) (.inl rfl))
    exact⟨a1,a2,by omega,by omega⟩
  ·rw[if_neg c];by_cases c2:ka r p (n - 1)<ka r p n
   ·rw[if_pos c2];exact⟨h,Mj _,JK _,by show n<=n+(f+1);omega⟩
   ·rw[if_neg c2];obtain⟨a1,a2,a3,a4⟩:=kO f p (n+1) (q+1) (by omega) (ext (fun _=>rfl) (by omega) (.inr ⟨rfl,by omega⟩))
    exact⟨a1,a2,by omega,by omega⟩
structure Got(r:Nat->Nat)(nrem:Nat)(p:Array Nat)(g:Nat×Array Nat):Prop where
 asc:zA r g.2 g.1
 le:g.1<=nrem
 pos:1<=g.1
 perm:g.2.Perm p
theorem qm{p:Array Nat}(h1:1<=n)(hn:n<=nrem)(hs:nrem<=p.size)(h:IK r p n):Got r nrem p (bp (dP r) (kas_tail3 n nrem p)):=by
 unfold kas_tail3;rw[gD];have ha:zA r (kas_rev p 0 n) n:=fun i j Z hj=>by
  rw[rp (by omega),rp (by omega),if_pos ⟨by omega,by omega⟩,if_pos ⟨by omega,by omega⟩]
  exact h _ _ (by omega) (by omega)
 obtain⟨a1,a2,a3⟩:=rq (p:=kas_rev p 0 n) (nrem - n) n h1 ha;exact⟨a3,by show bp (dP r) (kas_asc (kas_rev p 0 n) (nrem - n) n)<=nrem;omega,by show 1<=bp (dP r) (kas_asc (kas_rev p 0 n) (nrem - n) n);omega,eX⟩
theorem kP{p:Array Nat}(hn:n<nrem)(hs:nrem<=p.size)(h:Down r p (n+1) 0):Got r nrem p (bp (dP r) (kas_descPart n nrem p)):=by
 unfold kas_descPart;rw[gD];obtain⟨a1,a2,a3,a4⟩:=kO (nrem - (n+1)) p (n+1) 0 (by omega) h
 generalize bp (dP r) (kas_desc (nrem - (n+1)) p (n+1) 0)=d at a1 a2 a3 a4;obtain⟨p',n',q'⟩:=d;dsimp only at a1 a2 a3 a4;have Z:p'.size=p.size:=a2.size_eq;by_cases hq:q'>0
 ·show Got r nrem p (bp (dP r) (if q'>0 then _ else _));rw[if_pos hq];have hd:IK r (kas_rev p' (n' - (q'+1)) n') n':=fun i j Y hj=>by
   rw[nP (show n'<=p'.size by omega) a1,nP (show n'<=p'.size by omega) a1]
   exact a1.dsc i j Y hj
  have:=qm (n:=n') (nrem:=nrem) (by omega) (by omega) (by rw[nO,Z];exact hs) hd
  exact⟨this.asc,this.le,this.pos,(this.perm.trans eX).trans a2⟩
 ·show Got r nrem p (bp (dP r) (if q'>0 then _ else _));rw[if_neg hq];have:=qm (n:=n') (nrem:=nrem) (by omega) (by omega) (by rw[Z];exact hs) a1.dsc
  exact⟨this.asc,this.le,this.pos,this.perm.trans a2⟩
theorem xN{p:Array Nat}(h2:2<=nrem)(hs:nrem<=p.size):Got r nrem p (bp (dP r) (kas_count nrem p)):=by
 unfold kas_count;rw[gD];obtain⟨a1,a2,a3⟩:=rq (r:=r) (p:=p) (nrem - 1) 1 (JK _) (fun i j Y hj=>by
  have:i=j:=by omega
  subst this;exact JK _)
 have stop:∀(f n:Nat),1<=n->bp (dP r) (kas_asc p f n)<n+f->ka r p (bp (dP r) (kas_asc p f n))<ka r p (bp (dP r) (kas_asc p f n) - 1):=by
  intro f
  induction f with
  |zero=>intro n _ h;exact absurd h (Lg _)
  | succ f ih=>
   intro n h1 h;have e:bp (dP r) (kas_asc p (f+1) n)=if ka r p n<ka r p (n - 1)then n else bp (dP r) (kas_asc p f (n+1)):=by
    show bp (dP r) (if (dP r) (p.getD n 0) (p.getD (n - 1) 0)=true then _ else _)=_;unfold ka;by_cases c:r (p.getD n 0)<r (p.getD (n - 1) 0)
    ·rw[if_pos (JZ c),if_pos c];rfl
    ·rw[if_neg (fun z=>c (KD z)),if_neg c]
   rw[e]at h ⊢;by_cases c:ka r p n<ka r p (n - 1)
   ·rw[if_pos c];exact c
   ·rw[if_neg c]at h ⊢;exact ih (n+1) (by omega) (by omega)
 have Z:=stop (nrem - 1) 1 (JK _);generalize bp (dP r) (kas_asc p (nrem - 1) 1)=n at a1 a2 a3 Z;by_cases hn:n=nrem
 ·show Got r nrem p (bp (dP r) (if (n==nrem)=true then _ else _));rw[if_pos (by simp[hn])]
  exact⟨a3,by show n<=nrem;omega,a1,Mj _⟩
 ·show Got r nrem p (bp (dP r) (if (n==nrem)=true then _ else _));rw[if_neg (by simp[hn])]
  have U:=Z (by omega)
  by_cases h1:n>1
  ·rw [if_pos h1];show Got r nrem p (bp (dP r) (if (dP r) (p.getD 0 0) (p.getD (n - 1) 0)=true then _ else _));by_cases c:r (p.getD 0 0)<r (p.getD (n - 1) 0)
   ·rw[if_pos (JZ c)];exact⟨a3,by show n<=nrem;omega,a1,Mj _⟩
   ·rw [if_neg (fun z=>c (KD z))];have all:∀ k,k<n->ka r p k=ka r p (n - 1):=fun k hk=>by
     have h3:=a3 0 k (by omega) hk
     have h4:=a3 k (n - 1) (by omega) (by omega)
     have h5:ka r p (n - 1)<=ka r p 0:=Nt c;omega
    have kr:∀ k,ka r (kas_rev p 0 n) k=ka r p k:=fun k=>by
     rw[rp (by omega)]
     split
     ·next h=>rw[all k h.2,all _ (by omega)]
     ·rfl
    have:=kP (r:=r) (n:=n) (nrem:=nrem) (p:=kas_rev p 0 n) (by omega) (by rw[nO];exact hs) ⟨fun i j Y hj=>by
      rw[kr,kr];by_cases ej:j=n
      ·subst ej;by_cases ei:i=j
       ·subst ei;exact JK _
       ·rw[all i (by omega)];omega
      ·rw[all i (by omega),all j (by omega)];exact JK _,by omega,fun k h3 h4=>by rw[show k=n+1 - 1 by omega]⟩
    exact⟨this.asc,this.le,this.pos,this.perm.trans eX⟩
  ·rw [if_neg h1];have e1:n=1:=by omega
   subst e1;exact kP (by omega) hs ⟨fun i j Y hj=>by
     by_cases ej:j=1
     ·subst ej;by_cases ei:i=1
      ·subst ei;exact JK _
      ·rw[show i=1 - 1 by omega];omega
     ·rw[show i=j by omega];exact JK _,by omega,fun k h3 h4=>by rw[show k=1+1 - 1 by omega]⟩
theorem lK(hp:zA r p k):∀(f l m:Nat),m - l<=f->l<=m->m<=k->(∀ i,i<l->ka r p i<=ka r p k)->(∀ i,m<=i->i<k->ka r p k<=ka r p i)->
  bp (dP r) (kas_place p k f l m)<=k/\(∀ i,i<bp (dP r) (kas_place p k f l m)->ka r p i<=ka r p k)/\∀ i,bp (dP r) (kas_place p k f l m)<=i->i<k->ka r p k<=ka r p i
 |0,l,m,hf,hl,hm,h1,h2=>by
  have:l=m:=by omega
  subst this;exact⟨by show l<=k;omega,h1,h2⟩
 | f+1,l,m,hf,hl,hm,h1,h2=>by
  by_cases c:l ≥ m
  ·have e:bp (dP r) (kas_place p k (f+1) l m)=l:=by
    show bp (dP r) (if l ≥ m then _ else _)=l;rw[if_pos c];rfl
   rw[e];have:l=m:=by omega
   subst this;exact⟨by omega,h1,h2⟩
  ·have e:bp (dP r) (kas_place p k (f+1) l m)=if ka r p k<ka r p ((l+m) / 2)then bp (dP r) (kas_place p k f l ((l+m) / 2))else bp (dP r) (kas_place p k f ((l+m) / 2+1) m):=by
    show bp (dP r) (if l ≥ m then _ else _)=_;rw[if_neg c];show bp (dP r) (if (dP r) (p.getD k 0) (p.getD ((l+m) / 2) 0)=true then _ else _)=_;unfold ka;by_cases d:r (p.getD k 0)<r (p.getD ((l+m) / 2) 0)
    ·rw[if_pos (JZ d),if_pos d]
    ·rw[if_neg (fun z=>d (KD z)),if_neg d]
   rw[e];by_cases d:ka r p k<ka r p ((l+m) / 2)
   ·rw[if_pos d];exact lK hp f l ((l+m) / 2) (by omega) (by omega) (by omega) h1 fun i hi hk=>JV (Lk d) (hp _ i hi hk)
   ·rw[if_neg d];exact lK hp f ((l+m) / 2+1) m (by omega) (by omega) hm (fun i hi=>JV (hp i ((l+m) / 2) (by omega) (by omega)) (by omega)) h2
theorem wk:∀(f:Nat) (p:Array Nat) (k:Nat),k+f<=p.size->zA r p k->zA r (bp (dP r) (kas_bin f p k)) (k+f)/\(bp (dP r) (kas_bin f p k)).Perm p
 |0,p,k,hs,h=>⟨h,Mj _⟩
 | f +1,p,k,hs,h=>by
  have e:bp (dP r) (kas_bin (f+1) p k)=bp (dP r) (kas_bin f (bubble p k (k - bp (dP r) (kas_place p k k 0 k))) (k+1)):=by
   show bp (dP r) ((kas_place p k k 0 k).bind _)=_;rw[gD]
  rw[e];obtain⟨l1,l2,l3⟩:=lK (r:=r) h k 0 k (by omega) (by omega) (JK _) (fun i hi=>absurd hi (Ny _)) (fun i hi hk=>absurd hk (by omega))
  generalize bp (dP r) (kas_place p k k 0 k)=l at l1 l2 l3;have hb:zA r (bubble p k (k - l)) (k+1):=fun i j Z hj=>by
   rw[qk (by omega) (by omega),qk (by omega) (by omega)]
   have Y:k - (k - l)=l:=by omega
   rw[Y];by_cases ei:i=l
   ·rw[if_pos ei];by_cases ej:j=l
    ·rw[if_pos ej];exact JK _
    ·rw[if_neg ej,if_pos ⟨by omega,by omega⟩];exact l3 (j - 1) (by omega) (by omega)
   ·rw[if_neg ei];by_cases ci:l<i/\i<=k
    ·rw[if_pos ci,if_neg (by omega),if_pos ⟨by omega,by omega⟩];exact h _ _ (by omega) (by omega)
    ·rw[if_neg ci];by_cases ej:j=l
     ·rw[if_pos ej];exact l2 i (by omega)
     ·rw[if_neg ej];by_cases cj:l<j/\j<=k
      ·rw[if_pos cj];exact h _ _ (by omega) (by omega)
      ·rw[if_neg cj];exact h _ _ Z (by omega)
  obtain⟨b1,b2⟩:=wk f (bubble p k (k - l)) (k+1) (by rw[bubble_size];omega) hb
  refine⟨?_,b2.trans (bubble_perm _ _ _)⟩;rw[show k+(f+1)=k+1+f by omega];exact b1
theorem zB(h2:2<=n):zA r (bp (dP r) (kas_sort n)) n/\(bp (dP r) (kas_sort n)).Perm (List.toArray (List.range n)):=by
 unfold kas_sort;rw[gD];have G:=xN (r:=r) (nrem:=n) (p:=List.toArray (List.range n)) h2 (by simp)
 generalize bp (dP r) (kas_count n (List.toArray (List.range n)))=g at G;obtain⟨m,p⟩:=g;have Z:p.size=n:=by rw[G.perm.size_eq];simp
 have hle:m<=n:=G.le;have hpos:1<=m:=G.pos;show zA r (bp (dP r) (if m<n then kas_bin (n - max m 1) p (max m 1)else KasT.ret p)) n/\Array.Perm (bp (dP r) (if m<n then kas_bin (n - max m 1) p (max m 1)else KasT.ret p)) (List.toArray (List.range n));by_cases c:m<n
 ·rw[if_pos c];have em:max m 1=m:=by omega
  rw[em];obtain⟨b1,b2⟩:=wk (r:=r) (n - m) p m (by omega) G.asc
  refine⟨?_,b2.trans G.perm⟩;rw[show m+(n - m)=n by omega]at b1;exact b1
 ·rw[if_neg c];have em:m=n:=by omega
  subst em;exact⟨G.asc,G.perm⟩
end
def uS(n:Nat){α:Type}(R:α->Prop):KasT α->Prop
 | .ret a=>R a
 | .ask i j k=>i<n/\j<n/\∀ b,uS n R (k b)
theorem iD{n:Nat}{α β:Type}{R:α->Prop}{R':β->Prop}{f:α->KasT β}:∀{t:KasT α},uS n R t->(∀ a,R a->uS n R' (f a))->uS n R' (t.bind f)
 | .ret a,h,k=>k a h
 | .ask i j g,h,k=>⟨h.1,h.2.1,fun b=>iD (h.2.2 b) k⟩
theorem zD{n:Nat}{α:Type}{R:α->Prop}{Z:Nat->Nat->(Bool->Shared->Prop)->Shared->Prop}{b:Nat->Nat->Bool}{s:Shared}{Q:α->Shared->Prop}(h:∀ i j C,i<n->j<n->C (b i j) s->Z i j C s):
  ∀{t:KasT α},uS n R t->Q (bp b t) s->t.kasWp Z Q s
 | .ret a,_,q=>q
 | .ask i j k,o,q=>h i j _ o.1 o.2.1 (zD h (o.2.2 (b i j)) q)
theorem nQ{n:Nat}{α:Type}{R:α->Prop}{b b':Nat->Nat->Bool}(h:∀ i j,i<n->j<n->b i j=b' i j):∀{t:KasT α},uS n R t->bp b t=bp b' t
 | .ret a,_=>rfl
 | .ask i j k,o=>by
  show bp b (k (b i j))=bp b' (k (b' i j));rw[h i j o.1 o.2.1];exact nQ h (o.2.2 _)
def In(n:Nat)(p:Array Nat):Prop:=0<n/\∀ x∈p.toList,x<n
theorem In.get(h:In n p)(k:Nat):p.getD k 0<n:=by
 rw[Km];cases e:p[k]? with
 |none=>exact h.1
 |some x=>exact h.2 x (by rw[<-Kc]at e;exact Ke e)
theorem In.perm{q:Array Nat}(h:In n p)(e:q.Perm p):In n q:=⟨h.1,fun x hx=>h.2 x ((Array.Perm.toList e).mem_iff.mp hx)⟩
theorem rz(h:In n p):∀(f m:Nat),uS n (fun _=>True) (kas_asc p f m)
 |0,m=>trivial
 | f+1,m=>⟨h.get _,h.get _,fun b=>by
   cases b with
   |true=>exact trivial
   |false=>exact rz h f (m+1)⟩
theorem kQ:∀(f:Nat) (p:Array Nat) (m q:Nat),In n p->uS n (fun r=>In n r.1) (kas_desc f p m q)
 |0,p,m,q,h=>h
 | f+1,p,m,q,h=>⟨h.get _,h.get _,fun b=>by
   cases b with
   |true=>
    show uS n _ (if q>0 then _ else _);split
    ·exact kQ f _ _ _ (h.perm eX)
    ·exact kQ f _ _ _ h
   |false=>
    refine⟨h.get _,h.get _,fun b=>?_⟩;cases b with
    |true=>exact h
    |false=>exact kQ f _ _ _ h⟩
theorem qo(h:In n p):uS n (fun r:Nat×Array Nat=>In n r.2) (kas_tail3 m nrem p):=
 iD (rz (h.perm eX) _ _) fun _ _=>h.perm eX
theorem kR(h:In n p):uS n (fun r:Nat×Array Nat=>In n r.2) (kas_descPart m nrem p):=
 iD (kQ _ _ _ _ h) fun a ha=>by
  split
  ·exact qo (ha.perm eX)
  ·exact qo ha
theorem xO(h:In n p):uS n (fun r:Nat×Array Nat=>In n r.2) (kas_count nrem p):=
 iD (rz h _ _) fun a _=>by
  split
  ·exact h
  ·split
   ·refine⟨h.get _,h.get _,fun b=>?_⟩;cases b with
    |true=>exact h
    |false=>exact kR (h.perm eX)
   ·exact kR h
theorem lL(h:In n p):∀(f l m:Nat),uS n (fun _=>True) (kas_place p k f l m)
 |0,l,m=>trivial
 | f+1,l,m=>by
  show uS n _ (if l ≥ m then _ else _);split
  ·exact trivial
  ·refine⟨h.get _,h.get _,fun b=>?_⟩;cases b with
   |true=>exact lL h f _ _
   |false=>exact lL h f _ _
theorem wm:∀(f:Nat) (p:Array Nat) (k:Nat),In n p->uS n (In n) (kas_bin f p k)
 |0,p,k,h=>h
 |f+1,p,k,h=>iD (lL h _ _ _) fun l _=>wm f _ _ (h.perm (bubble_perm _ _ _))
theorem tq(hn:0<n):uS n (In n) (kas_sort n):=
 iD (xO ⟨hn,fun x hx=>by simpa using hx⟩) fun a ha=>by
  split
  ·exact wm _ _ _ ha
  ·exact ha
theorem tu{α:Type}{p q:α->Bool}:∀{l:List α} {x:α},(∀ y∈l,p y=true->q y=true)->x∈l->p x=false->q x=true->l.countP p<l.countP q
 | y::l,x,h,hx,hp,hq=>by
  have hl:l.countP p<=l.countP q:=List.countP_mono_left fun z hz=>h z (JR _ hz);rw[List.countP_cons,List.countP_cons];rcases J2.mp hx with e|hx'
  ·subst e;rw[hp,hq];simp;omega
  ·have ih:=tu (fun z hz=>h z (JR _ hz)) hx' hp hq;have hy:=h y JX;cases e1:p y with
   |true=>rw[hy e1];simp;omega
   |false=>simp;split<;>omega
theorem B1{b:Nat->Nat->Bool}(h2:2<=n)(Y:∀ i,i<n->b i i=false)(tr:∀ i j k,i<n->j<n->k<n->b i j=true->b j k=true->b i k=true)(U:∀ i j k,i<n->j<n->k<n->b i k=true->b i j=true\/b j k=true):
  (bp b (kas_sort n)).Perm (List.toArray (List.range n))/\∀ i j,i<=j->j<n->b ((bp b (kas_sort n)).getD j 0) ((bp b (kas_sort n)).getD i 0)=false:=by
 let r:Nat->Nat:=fun i=>(List.range n).countP fun j=>b j i;have hr:∀ i j,i<n->j<n->b i j=decide (r i<r j):=fun i j hi hj=>by
  cases e:b i j with
  |true=>
   refine(JZ ?_).symm;exact tu (x:=i) (fun y hy h=>tr y i j (J5.mp hy) hi hj h e) (J5.mpr hi) (Y i hi) e
  |false=>
   refine(Kr (NJ.mpr ?_)).symm;refine List.countP_mono_left fun y hy h=>?_;rcases U y i j (J5.mp hy) hi hj h with z|z
   ·exact z
   ·rw[e]at z;cases z
 have ek:bp b (kas_sort n)=bp (dP r) (kas_sort n):=nQ hr (tq (by omega))
 obtain⟨a1,a2⟩:=zB (r:=r) h2;rw[ek];refine⟨a2,fun i j O hj=>?_⟩;have Z:In n (bp (dP r) (kas_sort n)):=In.perm ⟨by omega,fun x hx=>by simpa using hx⟩ a2
 rw[hr _ _ (Z.get j) (Z.get i)];exact Kr (NJ.mpr (a1 i j O hj))
end S3
namespace S3
open PySem PySem.Spec PySem.W PyProof.Rows L2
section
variable {prog:Program}{w:World}{A:Around}{E:Value->Shared->Prop}{s:Shared}{Q:Bool->Shared->Prop}
theorem tw:∀{us ws:List Value} {ns ms:List Int} (i:Nat),(b=true\/0<i\/True)->IntsAre us ns->IntsAre ws ms->Q (HT.lexLt ns ms) s->
  KatLex prog w A b (decide (us.length<ws.length)) Q (us.zip ws) i s\/us.length≠ws.length
 |[],[],ns,ms,i,_,h1,h2,q=>by
  cases h1;cases h2;exact .inl q
 |[],_::_,_,_,_,_,_,_,_=>.inr (by simp)
 |_::_,[],_,_,_,_,_,_,_=>.inr (by simp)
 | u ::us,v::ws,ns,ms,i,hb,h1,h2,q=>by
  cases h1 with
  |cons n t h1=>
  cases h2 with
  | cons k t' h2=>
   rw[HT.lexLt_cons]at q;by_cases e:n=k
   ·rw[if_pos e]at q;rcases tw (b:=b) (i+1) (.inr (.inr trivial)) h1 h2 q with z|z
    ·refine .inl (kat_cons (Nn ?_));have:(n==k)=true:=by simp[e]
     rw[this];refine kat_yes ?_;show KatLex prog w A b (decide (us.length+1<ws.length+1)) Q (us.zip ws) (i+1) s;rw[show decide (us.length+1<ws.length+1)=decide (us.length<ws.length) by simp]
     exact z
    ·exact .inr (by simpa using z)
   ·rw[if_neg e]at q;refine .inl (kat_cons (Nn ?_));have:(n==k)=false:=by simp[e]
    rw[this];refine kat_no ?_;cases hbi:(b && i==0)with
    |true=>exact oneLt_int q
    |false=>exact kat_one _ _ (lt_int q)
end
structure Tups(h:Heap)(vs:List Value)(nss:List (List Int))(c:Nat):Prop where
 len:vs.length=nss.length
 get:∀(i:Nat),i<vs.length->∃ a o us n,vs.getD i Value.none= .ref a/\h.get? a=some o/\o.cls= .type "tuple"/\o.data= .seq us n/\IntsAre us.toList (nss.getD i [])/\us.size=c+1
theorem Tups.keep{h':Heap}(t:Tups h vs nss c)(k:∀ i a o,i<vs.length->vs.getD i Value.none= .ref a->h.get? a=some o->h'.get? a=some o):Tups h' vs nss c:=
 ⟨t.len,fun i hi=>let ⟨a,o,us,n,e1,e2,r⟩:=t.get i hi;⟨a,o,us,n,e1,k i a o hi e1 e2,r⟩⟩
theorem Tups.ask{s:Shared}(t:Tups s.heap vs nss c){C:Bool->Shared->Prop}(hi:i<vs.length)(hj:j<vs.length)
  (q:C (HT.lexLt (nss.getD i []) (nss.getD j [])) s):kas_ask prog w A (tuples' b) vs i j C s:=by
 obtain⟨a,o,us,n,e1,e2,e3,e4,e5,e6⟩:=t.get i hi;obtain⟨a',o',Z,n',f1,f2,f3,f4,f5,f6⟩:=t.get j hj;unfold kas_ask;rw[e1,f1];refine kat_lt e2 e4 f2 f4 ?_;have hz:us.toList.length=Z.toList.length:=by simp[e6,f6]
 rcases tw (prog:=prog) (w:=w) (A:=A) (b:=b) 0 (.inr (.inr trivial)) e5 f5 q with z|z
 ·simpa using z
 ·exact absurd hz z
end S3
namespace S3
open PySem PySem.Spec PyProof.Rows L2
abbrev St:=L2.St
def jq(cells:List (Str×Addr)):List (Str×NameKind)->List (Str×Addr)->List (Str×Addr)
 |[],cs=>cs
 |(n,k)::r,cs=>jq cells r (if k== .free then (n,(cells.lookup n).getD 0)::cs else cs)
theorem iT(scope:Scope)(env:Env)(h:∀ y∈scope.names,y.2= .free->∃ c,env.cells.lookup y.1=some c):closureFor scope env=pure (jq env.cells scope.names []):=by
 have go:∀(names:List (Str×NameKind)) (cs:List (Str×Addr)),(∀ y∈names,y.2= .free->∃ c,env.cells.lookup y.1=some c)->
   (forIn names cs (fun(x:Str×NameKind) (r:List (Str×Addr))=>(if (x.2==NameKind.free)=true then do let a<-cellOf env x.1;pure (ForInStep.yield ((x.1,a)::r))else pure (ForInStep.yield r):Sem (ForInStep (List (Str×Addr))))):Sem (List (Str×Addr)))=pure (jq env.cells names cs):=by
  intro names
  induction names with
  |nil=>intro cs _;rfl
  | cons y r ih=>
   intro cs hy;obtain⟨n,k⟩:=y;have hr:∀ y∈r,y.2= .free->∃ c,env.cells.lookup y.1=some c:=fun y hm=>hy y (JR _ hm);rw[List.forIn_cons];by_cases hk:(k==NameKind.free)=true
   ·have Y:k= .free:=by simpa using hk
    obtain⟨c,hc⟩:=hy (n,k) JX Y;have e:cellOf env n=pure c:=by unfold cellOf;rw[hc]
    simp only[hk,if_true,e,pure_bind];rw[ih _ hr];simp only[jq,hk,if_true,hc,Option.getD_some]
   ·have Z:(k==NameKind.free)=false:=by simpa using hk
    simp only[Z,Bool.false_eq_true,if_false,pure_bind];rw[ih _ hr];simp only[jq,Z,Bool.false_eq_true,if_false]
 have:=go scope.names [] h;unfold closureFor;simp only[bind_pure]at*;exact this
theorem rA{cells:List (Str×Addr)}:∀(names:List (Str×NameKind)) (cs:List (Str×Addr)),(∀ y∈names,y.2= .free->∃ c,cells.lookup y.1=some c)->(∀ p∈cs,cells.lookup p.1=some p.2)->
  ∀ p∈jq cells names cs,cells.lookup p.1=some p.2
 |[],cs,_,h=>h
 | (n,k)::r,cs,hy,h=>by
  refine rA r _ (fun y hm=>hy y (JR _ hm)) fun p hp=>?_;by_cases hk:(k==NameKind.free)=true
  ·rw[if_pos hk]at hp;rcases J2.mp hp with rfl|hp
   ·obtain⟨c,hc⟩:=hy (n,k) JX (by simpa using hk)
    show cells.lookup n=some ((cells.lookup n).getD 0);have Z:cells.lookup n=some c:=hc;rw[Z];rfl
   ·exact h p hp
  ·rw[if_neg hk]at hp;exact h p hp
theorem jr:∀(names:List (Str×NameKind)) (cs:List (Str×Addr)),(x,NameKind.free)∈names\/x∈cs.map (·.1)->x∈(jq cells names cs).map (·.1)
 |[],cs,h=>by
  rcases h with h|h
  ·cases h
  ·exact h
 | (n,k)::r,cs,h=>by
  refine jr r _ ?_;rcases h with h|h
  ·rcases J2.mp h with e|h
   ·cases e;refine .inr ?_;simp
   ·exact .inl h
  ·refine .inr ?_;by_cases hk:(k==NameKind.free)=true
   ·rw[if_pos hk];exact JR _ h
   ·rw[if_neg hk];exact h
theorem lookup_mem:∀{l:List (Str×Addr)},l.lookup x=some c->(x,c)∈l
 |[],h=>by cases h
 | (n,a)::r,h=>by
  by_cases e:x==n
  ·have e':x=n:=by simpa using e
   rw[Kk,e]at h;have h':some a=some c:=h;cases h';subst e';exact JX
  ·have e2:(x==n)=false:=by simpa using e
   rw[Kk,e2]at h;exact JR _ (lookup_mem h)
theorem mem_lookup:∀{l:List (Str×Addr)},x∈l.map (·.1)->∃ c,l.lookup x=some c
 |[],h=>by cases h
 | (n,a)::r,h=>by
  by_cases e:x==n
  ·exact⟨a,by rw[Kk,e]⟩
  ·have e2:(x==n)=false:=by simpa using e
   rw[Kk,e2];refine mem_lookup ?_;rcases J2.mp h with z|z
   ·have z':x=n:=z;subst z';simp at e
   ·exact z
theorem bt:∀{l:List (Str×NameKind)},l.lookup x=some k->(x,k)∈l
 |[],h=>by cases h
 | (n,a)::r,h=>by
  by_cases e:x==n
  ·have e':x=n:=by simpa using e
   rw[Kk,e]at h;have h':some a=some k:=h;cases h';subst e';exact JX
  ·have e2:(x==n)=false:=by simpa using e
   rw[Kk,e2]at h;exact JR _ (bt h)
theorem iU{env:Env}:∀{names:List (Str×NameKind)} {k:NameKind},
  (names.map fun(n,k)=>if (k==NameKind.free && env.scope.kind== .function && env.kindOf n==some .cell)then (n,NameKind.cell)else (n,k)).lookup x=some k->
   names.lookup x=some k\/(k= .cell/\names.lookup x=some .free)
 |[],k,h=>by cases h
 | (n,a)::r,k,h=>by
  by_cases e:x==n
  ·rw[J3]at h;by_cases c:(a==NameKind.free && env.scope.kind== .function && env.kindOf n==some .cell)=true
   ·have ha:a= .free:=by
     simp only[Bool.and_eq_true,beq_iff_eq]at c;exact c.1.1
    simp only[c,if_true,List.lookup_cons,e]at h;cases h;refine .inr ⟨rfl,?_⟩;rw[Kk,e,ha]
   ·have c':(a==NameKind.free && env.scope.kind== .function && env.kindOf n==some .cell)=false:=by simpa using c
    simp only[c',Bool.false_eq_true,if_false,List.lookup_cons,e]at h;refine .inl ?_;rw[Kk,e];exact h
  ·have e2:(x==n)=false:=by simpa using e
   rw[Kk,e2];refine iU (env:=env) (names:=r) ?_;rw[J3]at h;by_cases c:(a==NameKind.free && env.scope.kind== .function && env.kindOf n==some .cell)=true
   ·simp only[c,if_true,List.lookup_cons,e2]at h;exact h
   ·have c':(a==NameKind.free && env.scope.kind== .function && env.kindOf n==some .cell)=false:=by simpa using c
    simp only[c',Bool.false_eq_true,if_false,List.lookup_cons,e2]at h;exact h
theorem kS{env:Env}:∀{names:List (Str×NameKind)},names.lookup x=some .free->
  (names.map fun(n,k)=>if (k==NameKind.free && env.scope.kind== .function && env.kindOf n==some .cell)then (n,NameKind.cell)else (n,k)).lookup x=some .cell\/
  (names.map fun(n,k)=>if (k==NameKind.free && env.scope.kind== .function && env.kindOf n==some .cell)then (n,NameKind.cell)else (n,k)).lookup x=some .free
 |[],h=>by cases h
 | (n,a)::r,h=>by
  rw[J3];by_cases e:x==n
  ·rw[Kk,e]at h;have ha:some a=some NameKind.free:=h;cases ha;by_cases c:(NameKind.free==NameKind.free && env.scope.kind== .function && env.kindOf n==some .cell)=true
   ·refine .inl ?_;simp only[c,if_true,List.lookup_cons,e]
   ·have c':(NameKind.free==NameKind.free && env.scope.kind== .function && env.kindOf n==some .cell)=false:=by simpa using c
    refine .inr ?_;simp only[c',Bool.false_eq_true,if_false,List.lookup_cons,e]
  ·have e2:(x==n)=false:=by simpa using e
   rw[Kk,e2]at h;have ih:=kS (env:=env) h;by_cases c:(a==NameKind.free && env.scope.kind== .function && env.kindOf n==some .cell)=true
   ·simp only[c,if_true,List.lookup_cons,e2];exact ih
   ·have c':(a==NameKind.free && env.scope.kind== .function && env.kindOf n==some .cell)=false:=by simpa using c
    simp only[c',Bool.false_eq_true,if_false,List.lookup_cons,e2];exact ih
theorem vf:∀{names:List (Str×NameKind)} {n:Nat} {acc:List (Str×Addr)} {p:Str×Addr},p∈cellsFrom n names acc->p∈acc\/n<=p.2
 |[],n,acc,p,h=>.inl h
 | (x,k)::r,n,acc,p,h=>by
  unfold cellsFrom at h;split at h
  ·rcases vf h with h|h
   ·rcases J2.mp h with rfl|h
    ·exact .inr (JK _)
    ·exact .inl h
   ·exact .inr (Mv h)
  ·exact vf h
theorem vg:∀{names:List (Str×NameKind)} {n:Nat} {acc:List (Str×Addr)},(∀ p∈acc,p.2<n)->(∀ x y c,(x,c)∈acc->(y,c)∈acc->x=y)->∀ x y c,(x,c)∈cellsFrom n names acc->(y,c)∈cellsFrom n names acc->x=y
 |[],n,acc,_,hi,x,y,c,h1,h2=>hi x y c h1 h2
 | (z,k)::r,n,acc,hl,hi,x,y,c,h1,h2=>by
  unfold cellsFrom at h1 h2;by_cases hk:(k==NameKind.cell)=true
  ·rw[if_pos hk]at h1 h2;refine vg (fun p hp=>?_) (fun x y c g1 g2=>?_) x y c h1 h2
   ·rcases J2.mp hp with rfl|hp
    ·exact LB _
    ·exact KS (hl p hp)
   ·rcases J2.mp g1 with g1|g1<;>rcases J2.mp g2 with g2|g2
    ·rw[<-g2]at g1;exact(Prod.mk.inj g1).1
    ·cases g1;exact absurd (hl _ g2) (Lg _)
    ·cases g2;exact absurd (hl _ g1) (Lg _)
    ·exact hi x y c g1 g2
  ·rw[if_neg hk]at h1 h2;exact vg hl hi x y c h1 h2
theorem rB:∀{names:List (Str×NameKind)} {n:Nat} {acc:List (Str×Addr)},(∀ y∈names,y.2= .cell->y.1≠x)->(cellsFrom n names acc).lookup x=acc.lookup x
 |[],_,_,_=>rfl
 | (z,k)::r,n,acc,h=>by
  unfold cellsFrom;split
  ·next hk=>
   rw[rB fun y hy=>h y (JR _ hy),Kk];have:(x==z)=false:=by
    have:=h (z,k) JX (by simpa using hk)
    simpa using Ne.symm this
   rw[this]
  ·exact rB fun y hy=>h y (JR _ hy)
theorem rC:∀{names:List (Str×NameKind)} {h:Heap} {acc:List (Str×Addr)} {p:Str×Addr},p∈cellsFrom h.objs.size names acc->p∈acc\/(pushCells h names).IsCell p.2 none
 |[],h,acc,p,q=>.inl q
 | (x,k)::r,h,acc,p,q=>by
  unfold cellsFrom at q;unfold pushCells;split at q
  ·next hk=>
   rw[if_pos hk];have q':p∈cellsFrom (h.push {cls:=.type "cell",data:=.cell none}).objs.size r ((x,h.objs.size)::acc):=by rw[KR];exact q
   rcases rC q' with q'|q'
   ·rcases J2.mp q' with rfl|q'
    ·exact .inr ⟨_,Nz _ _ _ _ (JP _ rfl),rfl⟩
    ·exact .inl q'
   ·exact .inr q'
  ·next hk=>
   rw[if_neg hk];exact rC q
theorem vh:∀(names:List (Str×NameKind)) (n:Nat) (acc:List (Str×Addr)),((x,NameKind.cell)∈names\/∃ c,acc.lookup x=some c/\m<=c)->m<=n->(cellsFrom n names acc).lookup x=some a->m<=a
 | [],n,acc,h,hm,e=>by
  rcases h with h|⟨c,h2,h3⟩
  ·cases h
  ·have e':acc.lookup x=some a:=e;rw[h2]at e';cases e';exact h3
 | (z,k)::r,n,acc,h,hm,e=>by
  unfold cellsFrom at e;by_cases hk:(k==NameKind.cell)=true
  ·rw[if_pos hk]at e;refine vh r (n+1) _ ?_ (Nat.le_succ_of_le hm) e;by_cases hz:(x==z)=true
   ·exact .inr ⟨n,by rw[Kk,hz],hm⟩
   ·have Z:(x==z)=false:=by simpa using hz
    rcases h with h|⟨c,h2,h3⟩
    ·rcases J2.mp h with h|h
     ·cases h;simp at hz
     ·exact .inl h
    ·exact .inr ⟨c,by rw[Kk,Z];exact h2,h3⟩
  ·rw[if_neg hk]at e;refine vh r n acc ?_ hm e;rcases h with h|h
   ·rcases J2.mp h with h|h
    ·cases h;simp at hk
    ·exact .inl h
   ·exact .inr h
theorem qp{s:Shared}{scope:Scope}{env:Env}
  (h:∀ h1,h1.Ns s.heap.objs.size (fun _=>none)->(∀ b o,s.heap.get? b=some o->h1.get? b=some o)->(∀ p∈cellsFrom (s.heap.objs.size+1) scope.names cl,p∈cl\/h1.IsCell p.2 none)->
   Q {scope,locals:=s.heap.objs.size,globals:=env.globals,cells:=cellsFrom (s.heap.objs.size+1) scope.names cl,qual:=env.qual,func:=none,code:=env.code,frame:=env.frame,builtins:=env.builtins} {s with heap:=h1}):
  wpAny M A (newFunctionEnv scope env.globals cl [] env.qual none .none (some env)) Q E s:=by
 simp only[newFunctionEnv,Option.isSome_some,if_true];refine JG (wpAny_alloc (JG (wpAny_layCells _ (fun name kind cells=>by cases hkc:kind==NameKind.cell<;>simp[hkc]) _ _ _ _ ?_)))
 have e:({s with heap:=s.heap.push {cls:=.type "dict",data:=.dict #[]}}:Shared).heap.objs.size=s.heap.objs.size+1:=KR ..;rw[e];refine JG (m:=forIn [] _ _) (JJ (JJ (h _ ((Heap.Ns.new s.heap (.type "dict")).keeps (Nz _ _)) (fun b o q=>Nz _ _ b o (JH _ q)) fun p hp=>?_)));exact rC (h:=s.heap.push {cls:=.type "dict",data:=.dict #[]}) (by rw[e];exact hp)
def aX(X:Cx)(scope:Scope)(Nc:List Str)(C:Addr)(ex:List Addr)(s:Shared)(H:Hp):Cx:=
 {X with N:=Nc,s₀:=s,H₀:=H,env:=compEnvC scope (cellsFrom (C+1) scope.names (jq X.env.cells scope.names [])) C X.env,outer:=X.stack,stack:=X.stack,ex:=ex,fn:=fun x=>scope.names.lookup x==some .cell,pn:=[],xe:=fun _ _=>False}
structure CompScope(X:Cx)(scope:Scope)(Nc:List Str)(js:List (Option Nat)):Prop where
 kind:scope.kind= .function
 cel:∀ y∈scope.names,y.2= .cell->scope.names.lookup y.1=some .cell
 loc:∀ y∈scope.names,y.2= .local->scope.names.lookup y.1=some .local
 free:∀ y∈scope.names,y.2= .free->X.env.kindOf y.1=some .cell\/X.env.kindOf y.1=some .free
 len:js.length=Nc.length
 ix:∀(i:Nat) (x:Str) (j:Nat),Nc[i]? =some x->js[i]? =some (some j)->X.N[j]? =some x/\scope.names.lookup x=some .free
def mR(js:List (Option Nat))(σ:St):St:=js.map fun o=>o.bind fun j=>(σ[j]?).join
def BA(X:Cx)(ifs:List Expr)(t:TT):Prop:=
 ∀(pins:List (Addr×Obj)) (s:Shared) (σ:St) (H:Hp) (Q:Bool->Hp->Prop),Inv X pins σ H s->t σ H Q->
  wpAny (model X.prog X.w) X.A (forIn ifs true fun c r=>if r=true then do let ok<-isTrue c X.env (eval c X.env);pure (ForInStep.yield ok)else pure (ForInStep.yield r)) (TP X pins σ Q) X.xe s
theorem B2:BA X [] (fun _ H Q=>Q true H):=fun pins s σ H Q I h=>wpAny_tests_nil ⟨H,I,h⟩
theorem B3(h:PT X c t):BA X [c] t:=fun pins s σ H Q I hw=>wpAny_tests_one (h pins s σ H Q I hw)
def wo(wi:TI)(js:List (Option Nat))(g:TG)(tt:TT)(te:TE):TE:=fun σ H Q=>wi σ H fun J H1=>∀ p,H1 p=none->
 ∃ W:Nat->Nat->St->Hp->Prop,(∃ m,W 0 m (mR js σ) (upd H1 p (.lst [])))/\∀ i m σc Hc,W i m σc Hc->
  (J.stop i Hc/\Q (.ref p) Hc)\/(J.go i Hc/\∃ N:St->Hp->Prop,(∀ σ' H',N σ' H'->∃ m',m'<m/\W (i+1) m' σ' H')/\∀ x H',J.yld i Hc x H'->g x σc H' fun σ2 H2=>tt σ2 H2 fun b H3=>
   if b=true then te σ2 H3 fun y H4=>∃ xs,H4 p=some (.lst xs)/\xs.length<sizeLine/\N σ2 (upd H4 p (.lst (xs++[y])))else N σ2 H3)
section
variable {X:Cx}{scope:Scope}{Nc:List Str}{js:List (Option Nat)}{pins:List (Addr×Obj)}{σ:St}{H:Hp}{s:Shared}
theorem CompScope.has(c:CompScope X scope Nc js)(ok:X.Ok):∀ y∈scope.names,y.2= .free->∃ a,X.env.cells.lookup y.1=some a:=fun y hy e=>ok.has y.1 (c.free y hy e)
theorem nR{h1:Heap}(c:CompScope X scope Nc js)(I:Inv X pins σ H s)(a4:∀ b∈ex,jl X pins H b)(b2:∀ b∈ex,b<s.heap.objs.size)
  (hC:C=s.heap.objs.size) (hn:h1.Ns C (fun _=>none)) (hs:∀ b o,s.heap.get? b=some o->h1.get? b=some o)
  (b6:∀ p∈cellsFrom (C+1) scope.names (jq X.env.cells scope.names []),p∈jq X.env.cells scope.names []\/h1.IsCell p.2 none):
  Inv (aX X scope Nc C ex s H) [] (mR js σ) H {s with heap:=h1,toks:=tk}:=by
 have Y:=rA (cells:=X.env.cells) scope.names [] (c.has I.ok) (fun _ z=>nomatch z);have a6:∀ x a,(jq X.env.cells scope.names []).lookup x=some a->X.env.cells.lookup x=some a:=fun x a e=>Y _ (lookup_mem e);have b4:∀ b o,s.heap.get? b=some o->b≠C:=fun b o e=>by rw[hC];exact JT (JO e)
 have b0:∀ p∈jq X.env.cells scope.names [],p.2<C+1:=fun p hp=>by
  obtain⟨v,oc,ho,_⟩:=I.cell p.1 p.2 (Y p hp);rw[hC];exact KS (JO ho)
 have Z:∀ x a,(cellsFrom (C+1) scope.names (jq X.env.cells scope.names [])).lookup x=some a->X.env.cells.lookup x=some a\/(C<a/\h1.IsCell a none):=fun x a e=>by
  have hm:=lookup_mem e;rcases b6 _ hm with z|z
  ·exact .inl (Y _ z)
  ·rcases vf hm with y|y
   ·exact .inl (Y _ y)
   ·exact .inr ⟨y,z⟩
 refine⟨⟨I.ok.mod,c.kind,I.ok.glob,I.ok.blt,Mf hC.symm,fun x y a e1 e2=>vg b0 (fun x y a e1 e2=>I.ok.inj x y a (Y _ e1) (Y _ e2)) x y a (lookup_mem e1) (lookup_mem e2),fun x hk=>?_,fun x a z e=>?_,I.ok.hd,I.ok.frames,.inl rfl,fun b hb=>⟨?_,fun x a e z=>?_⟩,
  I.bs,JV I.ok.bsz I.sz,fun b o e hb=>?_,fun b hb z=>?_,I.stack,I.stkFree⟩,rfl,I.bare,Un.kept hs,⟨_,hn,fun i x v e1 e2 e3=>?_⟩,fun x a e=>?_,?_,fun x a e=>?_,(fun p hp=>nomatch hp),I.hok.kept hs,?_⟩
 ·-- names that are cells here have one
  have b5:scope.names.lookup x=some .free\/scope.names.lookup x=some .cell:=by
   rcases hk with hk|hk
   ·rcases iU (env:=X.env) (names:=scope.names) hk with z|⟨_,z⟩
    ·exact .inr z
    ·exact .inl z
   ·rcases iU (env:=X.env) (names:=scope.names) hk with z|⟨z,_⟩
    ·exact .inl z
    ·cases z
  refine KY.mp (Mo scope.names (C+1) _ ?_);rcases b5 with z|z
  ·exact .inr (KY.mpr (mem_lookup (jr scope.names [] (.inl (bt z)))))
  ·exact .inl z
 ·-- the block's own cells are new
  have z':scope.names.lookup x=some .cell:=by
   have:(scope.names.lookup x==some .cell)=true:=z;simpa using this
  show s.heap.objs.size<=a;rw[<-hC];exact Mv (vh (m:=C+1) scope.names (C+1) _ (.inl (bt z')) (JK _) e)
 ·show b≠C;rw[hC];exact JT (b2 b hb)
 ·rcases Z x a e with y|⟨y,_⟩
  ·exact(a4 b hb).2.2.2.2.1 x a y z
  ·rw[z,hC]at y;exact Lg _ (MW y (b2 b hb))
 ·have:b<X.base.objs.size:=JO e;rcases (a4 b hb).2.2.2.1 with z|z
  ·exact I.ok.noex b o e z
  ·exact absurd (JW this (JV I.ok.bsz z)) (Lg _)
 ·rcases J2.mp (I.stkSub b z)with e|e
  ·exact(a4 b hb).2.1 e
  ·exact(a4 b hb).2.2.1 e
 ·-- the names that are read from around
  have c0:Nc[i]? =some x:=e1;have:∃ j,js[i]? =some (some j)/\σ[j]? =some (some v):=by
   unfold mR at e2;rw[J6]at e2;cases q:js[i]? with
   |none=>rw[q]at e2;cases e2
   | some o=>
    rw[q]at e2;cases o with
    |none=>cases e2
    |some j=>
     refine⟨j,rfl,?_⟩;have U:(σ[j]?).join=some v:=J8 e2;cases r:σ[j]? with
     |none=>rw[r]at U;cases U
     |some z=>rw[r]at U;exact My some U
  obtain⟨j,hj,hv⟩:=this;obtain⟨hN,O⟩:=c.ix i x j c0 hj;obtain⟨m,c1,hl⟩:=I.loc;have b3:=c.free (x,.free) (bt O) rfl;have b1:xy X.env.scope x:=by
   rcases b3 with z|z
   ·exact .inr (.inl z)
   ·exact .inr (.inr z)
  obtain⟨u,ru,lk⟩:=hl j x v hN hv b1;refine⟨u,ru,.inr ⟨?_,?_⟩⟩
  ·rcases kS (env:=X.env) O with z|z
   ·exact .inl z
   ·exact .inr z
  ·rcases lk with⟨z,_⟩|⟨_,a,ea,ha⟩
   ·rcases b3 with y|y
    ·rw[show X.env.kindOf x=some NameKind.cell from y]at z;cases z
    ·rw[show X.env.kindOf x=some NameKind.free from y]at z;cases z
   ·obtain⟨b,hb⟩:=mem_lookup (jr (cells:=X.env.cells) scope.names [] (.inl (bt O)));have:=a6 x b hb;rw[ea]at this;cases this;obtain⟨oc,ho,hd⟩:=ha;refine⟨a,?_,oc,hs _ _ ho,hd⟩;show(cellsFrom (C+1) scope.names (jq X.env.cells scope.names [])).lookup x=some a;rw[rB fun y hy e z=>by have:=c.cel y hy e;rw[z,O]at this;cases this]
    exact hb
 ·rcases Z x a e with y|⟨_,y⟩
  ·obtain⟨v,oc,ho,hd⟩:=I.cell x a y;exact⟨v,oc,hs _ _ ho,hd⟩
  ·exact⟨_,y⟩
 ·show H C=none;rw[hC];exact I.hok.fresh (JK _)
 ·rcases Z x a e with y|⟨y,_⟩
  ·exact I.freeC x a y
  ·exact I.hok.fresh (by rw[<-hC];exact Lk y)
 ·show(mR js σ).length=Nc.length;unfold mR;rw[JI];exact c.len
theorem tx(I:Inv X pins σ H s)(hC:C=s.heap.objs.size)(Z:∀ b∈ex,jl X pins H b)
  (Ic:Inv (aX X scope Nc C ex s H) [] σc H' s') (hs:Heap.SameBut C s'.heap h2):Inv X pins σ H' {s' with heap:=h2}:=by
 have Y:∀ b o,s.heap.get? b=some o->b≠C:=fun b o e=>by rw[hC];exact JT (JO e)
 have B:=Ic.base;have u:Un (jj X.stack) ex H H' s.heap h2:={
  keep:=fun b o e n hb hx=>(hs.2 b (Y b o e)).trans (B.keep b o e n hb hx)
  slot:=fun b o e n hb hx=>by
   obtain⟨sl,q⟩:=B.slot b o e n hb hx;exact⟨sl,(hs.2 b (Y b o e)).trans q⟩
  free:=B.free
  there:=fun b o e hx=>by
   obtain⟨o',q⟩:=B.there b o e hx;exact⟨o',(hs.2 b (Y b o e)).trans q⟩
  tups:=B.tups
  frzs:=B.frzs
  tbls:=B.tbls}
 refine I.call' (s':={s' with heap:=h2}) (ch:=ex) Ic.os u (fun b o e=>?_) Ic.bare fun b hb=>⟨(Z b hb).2.2.2.1,(Z b hb).2.1,(Z b hb).2.2.2.2.1,(Z b hb).2.2.2.2.2⟩;have nC:∀ b o,H' b=some o->b≠C:=fun b o e z=>by
  have hf:H' C=none:=Ic.free;rw[z,hf]at e;cases e
 refine(Ic.hok b o e).stay (fun d v hd q=>?_) (fun _ q=>q) fun _ _ q=>q;refine(hs.2 d ?_).trans q;rcases hd with z|z
 ·subst z;exact nC _ _ e
 ·exact nC _ _ z
theorem tD{Q:VK}(a6:Option (Value->Sem Unit))(Qr:Value->Shared->Prop)(c:CompScope X scope Nc js)(hc:X.calm=true)(hi:PI X tg iter wi)
  (c0:∀ C ex s H,PG (aX X scope Nc C ex s H) tg g/\BA (aX X scope Nc C ex s H) ifs tt/\PE (aX X scope Nc C ex s H) elt te)
  (I:Inv X pins σ H s) (h:wo wi js g tt te σ H Q)
  (b3:∀ p C s' H',Q (.ref p) H'->(∀ h2,Heap.SameBut C s'.heap h2->Inv X pins σ H' {s' with heap:=h2})->(∃ m,s'.heap.Ns C m)->jl X pins H' C->
   compPost (model X.prog X.w) X.A X.xe a6 Qr (.ref p) C (.ok .next) s')
  (hs:∀ x,foldedSetIterable iter X.env x=pure x:=by intro _;rfl):
  wpAny (model X.prog X.w) X.A (comprehension (.ListComp elt [⟨tg,iter,ifs,0⟩] scope pos) scope X.env pos' (newList []) false (eval iter X.env) a6) Qr X.xe s:=by
 refine wpAny_comprehension_free rfl hs (iT scope X.env (c.has I.ok)) c.kind c.loc (dy (hi pins s σ H _ I h) fun v s1 h1=>dy h1 fun c4 s2 h2=>?_);obtain⟨it,fp,tn,J,H2,e,I2,T,gm,f2,hW⟩:=h2;subst e;refine Kq (qp fun h1 a4 U O=>?_);dsimp only at a4 U O ⊢;obtain⟨W,⟨m0,w0⟩,turn⟩:=hW s2.heap.objs.size (I2.hok.fresh (JK _));have I3:Inv X pins σ (upd H2 s2.heap.objs.size (.lst [])) {s2 with heap:=s2.heap.push {cls:=.type "list",dict:=none,data:=.seq ([]:List Value).toArray}}:=
  I2.laid (t':=s2.toks) (fun _ _ q=>JH _ q) (JK _) ⟨J4 _,[],0,.nil,JP _ rfl⟩
 generalize hS3:({s2 with heap:=s2.heap.push {cls:=.type "list",dict:=none,data:=.seq ([]:List Value).toArray}}:Shared)=s3 at I3;have e3:s3.heap=s2.heap.push {cls:=.type "list",dict:=none,data:=.seq ([]:List Value).toArray}:=by rw[<-hS3]
 rw[<-e3]at a4 U O ⊢;generalize hp:s2.heap.objs.size=p at*;have b2:∀ b∈fp,b<p:=fun b hb=>by
  obtain⟨o,e,_⟩:=T.obj _ _ gm b hb;rw[<-hp];exact JO e
 have c1:∀ b∈fp,b≠p:=fun b hb=>JT (b2 b hb);have f3:∀ b∈fp,jl X pins (upd H2 p (.lst [])) b:=fun b hb=>⟨by rw[aB (c1 b hb)];exact(f2 b hb).1,(f2 b hb).2⟩
 have b0:s3.heap.objs.size=p+1:=by rw[e3,KR,hp]
 have b1:∀ b∈fp,b<s3.heap.objs.size:=fun b hb=>by rw[b0];exact KS (b2 b hb)
 have Y:∀ b o,s3.heap.get? b=some o->h1.get? b=some o:=U;have b4:tn 0 h1:=T.keep _ _ _ gm fun b hb o e=>Y b o (by rw[e3];exact JH _ e)
 generalize hC:s3.heap.objs.size=C at*;have b5:h1.Ns C (fun _=>none):=by simpa using a4
 have start:∀ tk,Inv (aX X scope Nc C fp s3 (upd H2 p (.lst []))) [] (mR js σ) (upd H2 p (.lst [])) {s3 with heap:=h1,toks:=tk}:=fun tk=>nR c I3 f3 (fun b hb=>by rw[hC];exact b1 b hb) hC.symm b5 Y O
 have ok:=(start 0).ok;have Z:∀{H':Hp},(∀ b∈fp,H' b=none)->∀ b∈fp,jl (aX X scope Nc C fp s3 (upd H2 p (.lst []))) [] H' b:=fun hn b hb=>
  ⟨hn b hb,(ok.exf b hb).1,ok.exfs b hb,.inl hb,(ok.exf b hb).2,fun _ z=>nomatch z⟩
 obtain⟨hG,hT,hE⟩:=c0 C fp s3 (upd H2 p (.lst []));have loop:∀ s':Shared,Inv (aX X scope Nc C fp s3 (upd H2 p (.lst []))) [] (mR js σ) (upd H2 p (.lst [])) s'->tn 0 s'.heap->
   codeAny (model X.prog X.w) X.A (.compLoop (.ListComp elt [⟨tg,iter,ifs,0⟩] scope pos) 0 (.ref it) (.ref p) (aX X scope Nc C fp s3 (upd H2 p (.lst []))).env) (compPost (model X.prog X.w) X.A X.xe a6 Qr (.ref p) C) s':=by
  intro s' I' c3;refine codeAny_loop rfl (fun n s'=>∃ i σ' H',Inv (aX X scope Nc C fp s3 (upd H2 p (.lst []))) [] σ' H' s'/\tn i s'.heap/\(∀ b∈fp,H' b=none)/\W i n σ' H') ?_ m0 ⟨0,_,_,I',c3,fun b hb=>(f3 b hb).1,w0⟩;rintro n s4 ⟨i,σ4,H4,I4,st4,fr4,w4⟩;show wpAny _ X.A ((compTurn (.ListComp elt [⟨tg,iter,ifs,0⟩] scope pos) 0 (.ref it) (.ref p) (aX X scope Nc C fp s3 (upd H2 p (.lst []))).env).onRaise (fun x=>do noteFrame x (aX X scope Nc C fp s3 (upd H2 p (.lst []))).env;theTreesLotGoes x)) _ _ s4
  refine wpAny_noted ?_;rw[compTurn_list];refine JG (Ky (JG ?_));rcases turn i n σ4 H4 w4 with⟨stop,qn⟩|⟨go,N,hN,step⟩
  ·refine Kb (T.done (aX X scope Nc C fp s3 (upd H2 p (.lst []))) rfl rfl rfl hc i [] s4 σ4 H4 (fun _ _=>False) I4 (Z fr4) st4 stop) (fun r s5 ⟨hr,I5⟩=>?_) fun _ _ z=>z.elim;subst hr;refine JJ (b3 p C s5 H4 qn (fun h2 b6=>tx I3 hC.symm f3 I5 b6) ?_ (I3.fpOk (Mf hC) I5.free));obtain⟨m,hm,_⟩:=I5.loc;exact⟨m,hm⟩
  ·refine Kb (T.item (aX X scope Nc C fp s3 (upd H2 p (.lst []))) rfl rfl rfl hc i [] s4 σ4 H4 (fun _ _=>False) I4 (Z fr4) st4 go) (fun r s5 ⟨u,hr,h5⟩=>?_) fun _ _ z=>z.elim;subst hr;refine JG (Kb h5 (fun _ s6 ⟨x,H6,I6,r6,y6,st6,fr6⟩=>?_) fun _ _ z=>z.elim);have c2:=I6.pinned (Z fr6) (T.obj _ _ st6);refine JG (Kb (hG _ s6 σ4 H6 x u _ c2 r6 (step x H6 y6)) (fun _ s7 ⟨σ7,H7,I7,q7⟩=>?_) fun _ _ z=>z.elim);refine JG (Kb (hT _ s7 σ7 H7 _ I7 q7) (fun b s8 ⟨H8,I8,q8⟩=>?_) fun _ _ z=>z.elim);have again:∀{σ9:St} {H9:Hp} {s9:Shared},Inv (aX X scope Nc C fp s3 (upd H2 p (.lst []))) ([]++lI fp s6.heap) σ9 H9 s9->N σ9 H9->
     ∃ m,m<n/\∃ i σ' H',Inv (aX X scope Nc C fp s3 (upd H2 p (.lst []))) [] σ' H' s9/\tn i s9.heap/\(∀ b∈fp,H' b=none)/\W i m σ' H':=fun{σ9 H9 s9} I9 n9=>by
    obtain⟨m',hm,w9⟩:=hN σ9 H9 n9;refine⟨m',hm,i+1,σ9,H9,I9.unpinned,T.keep _ _ _ st6 fun b hb o e=>(I9.pin (b,o) (J1 _ (J1 _ (fH hb e)))).1,fun b hb=>?_,w9⟩;obtain⟨o,e,d⟩:=T.obj _ _ st6 b hb;exact(I9.pin (b,o) (J1 _ (J1 _ (fH hb e)))).2.1
   cases b with
   |false=>exact JJ ⟨rfl,again I8 q8⟩
   |true=>
    refine JG (JG (Kb (hE _ s8 σ7 H8 _ I8 q8) (fun y s9 ⟨yv,H9,I9,r9,q9⟩=>?_) fun _ _ z=>z.elim));obtain⟨xs,hx,hl,n9⟩:=q9;refine JG (Kb (lJ (X:=aX X scope Nc C fp s3 (upd H2 p (.lst []))) _ s9 σ7 H9 (.ref p) [yv] (.ref p) [y] (fun _ H'=>N σ7 H') I9 rfl (.cons r9 .nil) ⟨p,xs,yv,rfl,rfl,hx,hl,n9⟩) (fun _ s10 ⟨_,H10,I10,_,q10⟩=>?_) fun _ _ z=>z.elim);exact JJ (JJ ⟨rfl,again I10 q10⟩)
 refine codeAny_compStart_list (loop _ ?_ ?_) (T.self _ 0 _ _ _ ?_ (loop _ ?_ ?_))
 all_goals first
  |exact b4
  |(subst hS3;exact start _)
theorem B4(c:CompScope X scope Nc js)(hc:X.calm=true)(hi:PI X tg iter wi)
  (Z:∀ C ex s H,PG (aX X scope Nc C ex s H) tg g/\BA (aX X scope Nc C ex s H) ifs tt/\PE (aX X scope Nc C ex s H) elt te)
  (hs:∀ x,foldedSetIterable iter X.env x=pure x:=by intro _;rfl):PE X (.ListComp elt [⟨tg,iter,ifs,0⟩] scope pos) (wo wi js g tt te):=by
 intro pins s σ H Q I h;rw[eval_ListComp];refine tD none _ c hc hi Z I h (fun p C s' H' q hI hn _=>?_) hs;obtain⟨m,hm⟩:=hn;exact⟨m,hm,fun h2 Y=>⟨.ref p,H',hI h2 Y,rfl,q⟩⟩
theorem vi{pos:Pos}(hN:X.N.Nodup)(Y:X.N[i]? =some x)(hx:Loc X.env.scope x)
  (c:CompScope X scope Nc js) (hc:X.calm=true) (hi:PI X tg iter wi)
  (U:∀ C ex s H,PG (aX X scope Nc C ex s H) tg g/\BA (aX X scope Nc C ex s H) ifs tt/\PE (aX X scope Nc C ex s H) elt te)
  (O:swapsWith (.ListComp elt [⟨tg,iter,ifs,0⟩] scope cpos) (some (.Name x pos')) pos.line X.env=pure true:=by rfl)
  (hf:X.fn x=true\/X.env.scope.names.lookup x=some .local:=by first|exact .inl rfl|exact .inr rfl|assumption)
  (hs:∀ x,foldedSetIterable iter X.env x=pure x:=by intro _;rfl):PS X (.Assign [.Name x pos'] (.ListComp elt [⟨tg,iter,ifs,0⟩] scope cpos) pos) (D9 (wo wi js g tt te) (yV i)):=by
 intro pins s σ H D I h;rw[exec_Assign_Name_used _ _ _ _ O];refine JG (Ky (JG ?_));show wpAny _ X.A (do let _<-comprehension (.ListComp elt [⟨tg,iter,ifs,0⟩] scope cpos) scope X.env _ (newList []) false (eval iter X.env) (some (assign (.Name x pos') X.env))) _ _ s
 refine JG (dy (tD (some (assign (.Name x pos') X.env)) (fun _ s'=>SP X pins D .next s') c hc hi U I h (fun p C s' H' q hI hn hF=>?_) hs) fun _ s' q=>JJ (JJ q));obtain⟨m,hm⟩:=hn;have I':Inv X pins σ H' s':=hI s'.heap (.refl ..);refine wpAny_assign_Name (qe I' hN Y hx (v:=.ref p) rfl (fun s'' I'' ⟨a,hsb,ha⟩=>?_) hf);have aC:C≠a:=by
  rcases ha with z|z
  ·rw[z];exact hF.2.1
  ·exact fun e=>hF.2.2.2.2.1 x a z e.symm
 refine⟨m,hm.sameBut hsb aC,fun h2 Z=>?_⟩;exact⟨_,H',I''.turned (t':=s''.toks) (it:=C) (fun b o hb e=>(Z.2 b hb).trans e) hF.1 hF.2.1 hF.2.2.2.1 hF.2.2.2.2.1 hF.2.2.2.2.2,q⟩
end
inductive D where
 |non|bl (b:Bool)|int (i:Int)|str (x:Str)|tup (ds:List D)|lst (k:Nat)|ro (ds:List D)|emp
 |fn (a c:Addr) (q:Str) (ds:List D) (vs:List V)|exc (x:Str) (ds:List D)
 |fz (ds:List D)
abbrev aA:=List (List D)
inductive Res(α:Type) where
 |ok (a:α)|ex (x:D)
def M(α:Type):=aA->Option (Res α×aA)
namespace M
def ret{α:Type}(a:α):M α:=fun S=>some (.ok a,S)
def bnd{α β:Type}(m:M α)(f:α->M β):M β:=fun S=>match m S with
 |some (.ok a,S')=>f a S'
 |some (.ex x,S')=>some (.ex x,S')
 |none=>none
def fail{α:Type}:M α:=fun _=>none
def raise{α:Type}(x:D):M α:=fun S=>some (.ex x,S)
noncomputable instance:Monad M where
 pure:=ret
 bind:=bnd
end M
def Jx(K:W.Frag)(a:Addr)(xs:List V):Prop:=∃(o:Obj) (its:Array Value) (n:Nat),K.lookup a=some o/\o.cls= .type "list"/\o.dict=none/\o.data= .seq its n/\its.size<=sizeLine/\bj xs its.toList
def BB(K:W.Frag)(H:Hp)(a:Addr)(vs:List V):Prop:=(∃ o,H a=some (.frz o (.lst vs)))\/Jx K a vs
theorem BB.sq{K:W.Frag}{H:Hp}{a:Addr}{vs:List V}(h:BB K H a vs):j7 K H a vs:=h.imp (fun⟨o,e⟩=>.inr ⟨o,e⟩) fun z=>z
def kT(C a:Addr)(od:Option Addr):Heap->Prop:=fun h=>∃ oe vs,h.get? a=some oe/\oe.cls= .ref C/\oe.dict=od/\oe.data= .fields vs
def pP(qual:Str)(c:Addr):Heap->Prop:=fun h=>h.CodeRec (.ref c) qual
def cm:List Str:=["law","_law_within_right","_law_refusals_right","_law_sharings_right","_law_right","_law_lists_right","_law_papers_right","_law_great_right","_law_told_right","_law_desks_right","_law_texts_right"]
def TabsOk(K:W.Frag)(H:Hp):Prop:=∀ x∈cm,∀ c P,W.tabIn K x=some (c,P)->∃ ps,H P=some (.tbl ps)/\TriplesOk ps.toList/\
 ∀ pos cv,codeAmong pos ps.toList=some cv->∃ c',cv= .ref c'/\H c'=some (.ext (pP (x++".<locals>.<lambda>") c'))
theorem TabsOk.mono{K:W.Frag}{H H':Hp}(h:TabsOk K H)(k:∀ a o,H a=some o->(∀ vs,o≠ .lst vs)->H' a=some o):TabsOk K H':=fun x hx c P e=>
 let ⟨ps,h1,h2,h3⟩:=h x hx c P e
 ⟨ps,k _ _ h1 (by intro _ z;cases z),h2,fun pos cv q=>let ⟨c',e1,e2⟩:=h3 pos cv q;⟨c',e1,k _ _ e2 (by intro _ z;cases z)⟩⟩
mutual
inductive RelD(K:W.Frag)(ι:List Addr)(H:Hp):D->V->Prop where
 |non:RelD K ι H .non .non
 |bl (b:Bool):RelD K ι H (.bl b) (.bl b)
 |int (i:Int):RelD K ι H (.int i) (.int i)
 |str (x:Str):RelD K ι H (.str x) (.str x)
 |tup {a:Addr} {ds:List D} {vs:List V}:H a=some (.tup vs)->RelDs K ι H ds vs->RelD K ι H (.tup ds) (.ref a)
 |lst {a:Addr} {k:Nat}:ι[k]? =some a->RelD K ι H (.lst k) (.ref a)
 |ro {a:Addr} {ds:List D} {vs:List V}:BB K H a vs->RelDs K ι H ds vs->RelD K ι H (.ro ds) (.ref a)
 |emp {a:Addr}:H a=some (.dK [])->RelD K ι H .emp (.ref a)
 |fn {a c:Addr} {q:Str} {ds:List D} {vs:List V}:H c=some (.ext (pP q c))->RelDs K ι H ds vs->RelD K ι H (.fn a c q ds vs) (.ref a)
 |exc {a C:Addr} {x:Str}:W.nsIn K mainGlobals x=some (some (.ref C))->H a=some (.ext (kT C a none))->RelD K ι H (.exc x []) (.ref a)
 |excF {a C dx:Addr} {x:Str} {fs:List (Str×V)} {ds:List D}:W.nsIn K mainGlobals x=some (some (.ref C))->H a=some (.ext (kT C a (some dx)))->H dx=some (.xd fs)->fs.map (·.1)=([("many":Str),("most":Str)]:List Str)->RelDs K ι H ds (fs.map (·.2))->RelD K ι H (.exc x ds) (.ref a)
 |fz {a:Addr} {o:Obj} {ds:List D} {vs:List V}:H a=some (.frz o (.lst vs))->RelDs K ι H ds vs->RelD K ι H (.fz ds) (.ref a)
inductive RelDs(K:W.Frag)(ι:List Addr)(H:Hp):List D->List V->Prop where
 |nil:RelDs K ι H [] []
 |cons {d:D} {v:V} {ds:List D} {vs:List V}:RelD K ι H d v->RelDs K ι H ds vs->RelDs K ι H (d::ds) (v::vs)
end
structure Rep(K:W.Frag)(ι:List Addr)(H:Hp)(S:aA):Prop where
 nd:ι.Nodup
 len:ι.length=S.length
 get:∀(k:Nat) (a:Addr) (xs:List D),ι[k]? =some a->S[k]? =some xs->∃ vs,H a=some (.lst vs)/\RelDs K ι H xs vs
 tab:TabsOk K H
structure Ext(ι:List Addr)(H:Hp)(ι':List Addr)(H':Hp):Prop where
 ids:∃ more,ι'=ι++more
 oth:∀ a o,H a=some o->a ∉ ι->(∀ ps,o≠ .tbl ps)->H' a=some o/\a ∉ ι'
structure ExtN(ι:List Addr)(H:Hp)(ι':List Addr)(H':Hp):Prop where
 ids:∃ more,ι'=ι++more
 oth:∀ a o,H a=some o->a ∉ ι->(∀ ps,o≠ .tbl ps)->(∀ vs,o≠ .lst vs)->H' a=some o/\a ∉ ι'
theorem Ext.n{ι ι':List Addr}{H H':Hp}(e:Ext ι H ι' H'):ExtN ι H ι' H':=⟨e.ids,fun a o h n t _=>e.oth a o h n t⟩
theorem Ext.refl{ι:List Addr}{H:Hp}:Ext ι H ι H:=⟨⟨[],by simp⟩,fun _ _ h n _=>⟨h,n⟩⟩
theorem Ext.trans{ι ι1 ι2:List Addr}{H H1 H2:Hp}(a:Ext ι H ι1 H1)(b:Ext ι1 H1 ι2 H2):Ext ι H ι2 H2:=by
 obtain⟨m1,e1⟩:=a.ids;obtain⟨m2,e2⟩:=b.ids;exact⟨⟨m1++m2,by rw[e2,e1,J7]⟩,fun c o h n t=>let ⟨h1,n1⟩:=a.oth c o h n t;b.oth c o h1 n1 t⟩
theorem ExtN.at{ι ι':List Addr}{H H':Hp}(e:ExtN ι H ι' H'){k:Nat}{a:Addr}(h:ι[k]? =some a):ι'[k]? =some a:=by
 obtain⟨m,rfl⟩:=e.ids;have hl:k<ι.length:=(JN.mp h).1;rw[Kl hl];exact h
section
variable {K:W.Frag}{ι ι':List Addr}{H H':Hp}{S:aA}
theorem Rep.isL(r:Rep K ι H S)(h:a∈ι):∃ vs,H a=some (.lst vs):=by
 obtain⟨k,hk,e⟩:=List.mem_iff_getElem.mp h;have Z:k<S.length:=by rw[<-r.len];exact hk
 obtain⟨vs,h1,_⟩:=r.get k a (S[k]) (by rw[JL hk,e]) (JL Z)
 exact⟨vs,h1⟩
theorem Rep.notIn(r:Rep K ι H S)(h:H a=some o)(hn:∀ vs,o≠ .lst vs):a ∉ ι:=fun z=>by
 obtain⟨vs,e⟩:=r.isL z;rw[h]at e;exact hn vs (J8 e)
theorem Rep.free(r:Rep K ι H S)(h:H a=none):a ∉ ι:=fun z=>by
 obtain⟨vs,e⟩:=r.isL z;rw[h]at e;cases e
mutual
theorem RelD.laterN(r:Rep K ι H S)(e:ExtN ι H ι' H'):∀{d:D} {v:V},RelD K ι H d v->RelD K ι' H' d v
 |_,_,.non=>.non
 |_,_,.bl b=>.bl b
 |_,_,.int i=>.int i
 |_,_,.str x=>.str x
 |_,_,.tup h hs=>.tup (e.oth _ _ h (r.notIn h (by intro _ z;cases z)) (by intro _ z;cases z) (by intro _ z;cases z)).1 (RelDs.laterN r e hs)
 |_,_,.lst h=>.lst (e.at h)
 |_,_,.ro h hs=>.ro (h.imp (fun⟨o,h⟩=>⟨o,(e.oth _ _ h (r.notIn h (by intro _ z;cases z)) (by intro _ z;cases z) (by intro _ z;cases z)).1⟩) fun z=>z) (RelDs.laterN r e hs)
 |_,_,.emp h=>.emp (e.oth _ _ h (r.notIn h (by intro _ z;cases z)) (by intro _ z;cases z) (by intro _ z;cases z)).1
 |_,_,.fn h hs=>.fn (e.oth _ _ h (r.notIn h (by intro _ z;cases z)) (by intro _ z;cases z) (by intro _ z;cases z)).1 (RelDs.laterN r e hs)
 |_,_,.exc n h=>.exc n (e.oth _ _ h (r.notIn h (by intro _ z;cases z)) (by intro _ z;cases z) (by intro _ z;cases z)).1
 |_,_,.excF n h h2 hn hs=>.excF n (e.oth _ _ h (r.notIn h (by intro _ z;cases z)) (by intro _ z;cases z) (by intro _ z;cases z)).1 (e.oth _ _ h2 (r.notIn h2 (by intro _ z;cases z)) (by intro _ z;cases z) (by intro _ z;cases z)).1 hn (RelDs.laterN r e hs)
 |_,_,.fz h hs=>.fz (e.oth _ _ h (r.notIn h (by intro _ z;cases z)) (by intro _ z;cases z) (by intro _ z;cases z)).1 (RelDs.laterN r e hs)
theorem RelDs.laterN(r:Rep K ι H S)(e:ExtN ι H ι' H'):∀{ds:List D} {vs:List V},RelDs K ι H ds vs->RelDs K ι' H' ds vs
 |_,_,.nil=>.nil
 |_,_,.cons h hs=>.cons (RelD.laterN r e h) (RelDs.laterN r e hs)
end
theorem RelD.later(r:Rep K ι H S)(e:Ext ι H ι' H'){d:D}{v:V}(h:RelD K ι H d v):RelD K ι' H' d v:=RelD.laterN r e.n h
theorem RelDs.later(r:Rep K ι H S)(e:Ext ι H ι' H'){ds:List D}{vs:List V}(h:RelDs K ι H ds vs):RelDs K ι' H' ds vs:=RelDs.laterN r e.n h
theorem RelDs.length:∀{ds:List D} {vs:List V},RelDs K ι H ds vs->ds.length=vs.length
 |_,_,.nil=>rfl
 |_,_,.cons _ t=>by rw[JY,JY,RelDs.length t]
theorem RelDs.append:∀{ds es:List D} {vs ws:List V},RelDs K ι H ds vs->RelDs K ι H es ws->RelDs K ι H (ds++es) (vs++ws)
 |_,_,_,_,.nil,s=>s
 |_,_,_,_,.cons r t,s=>.cons r (RelDs.append t s)
theorem RelDs.get':∀{ds:List D} {vs:List V} {i:Nat} {d:D},RelDs K ι H ds vs->ds[i]? =some d->∃ v,vs[i]? =some v/\RelD K ι H d v
 |_,_,_,_,.nil,e=>by simp at e
 |_,_,0,_,.cons r _,e=>by simp at e;subst e;exact⟨_,rfl,r⟩
 |_,_,i+1,v,.cons _ t,e=>by
  obtain⟨u,h1,h2⟩:=RelDs.get' (i:=i) t (by simpa using e)
  exact⟨u,by simpa using h1,h2⟩
theorem RelDs.take:∀{ds:List D} {vs:List V} (n:Nat),RelDs K ι H ds vs->RelDs K ι H (ds.take n) (vs.take n)
 |_,_,0,_=>.nil
 |_,_,_+1,.nil=>.nil
 |_,_,n+1,.cons r t=>.cons r (RelDs.take n t)
theorem RelDs.drop:∀{ds:List D} {vs:List V} (n:Nat),RelDs K ι H ds vs->RelDs K ι H (ds.drop n) (vs.drop n)
 |_,_,0,r=>r
 |_,_,_+1,.nil=>.nil
 |_,_,n+1,.cons _ t=>RelDs.drop n t
theorem RelDs.set(r:RelD K ι H d v):∀{ds:List D} {vs:List V} (i:Nat),RelDs K ι H ds vs->RelDs K ι H (ds.set i d) (vs.set i v)
 |_,_,_,.nil=>.nil
 |_,_,0,.cons _ t=>.cons r t
 |_,_,i+1,.cons q t=>.cons q (RelDs.set r i t)
theorem RelDs.eraseIdx:∀{ds:List D} {vs:List V} (i:Nat),RelDs K ι H ds vs->RelDs K ι H (ds.eraseIdx i) (vs.eraseIdx i)
 |_,_,_,.nil=>.nil
 |_,_,0,.cons _ t=>t
 |_,_,i+1,.cons q t=>.cons q (RelDs.eraseIdx i t)
theorem dQ(hp:H p=none):Ext ι H ι (upd H p o):=⟨⟨[],by simp⟩,fun a o' h n _=>⟨by rw[aB (aH h hp)];exact h,n⟩⟩
theorem eY{p:Addr}{o:HO}(r:Rep K ι H S)(hp:H p=none):Rep K ι (upd H p o) S:=by
 refine⟨r.nd,r.len,fun k a xs e1 e2=>?_,r.tab.mono fun b o h _=>by rw[aB (aH h hp)];exact h⟩
 obtain⟨vs,h1,h2⟩:=r.get k a xs e1 e2;exact⟨vs,by rw[aB (aH h1 hp)];exact h1,RelDs.later r (dQ hp) h2⟩
theorem tE(hp:H p=none):Ext ι H (ι++[p]) (upd H p o):=⟨⟨[p],rfl⟩,fun a o' h n _=>⟨by rw[aB (aH h hp)];exact h,by
 have:a≠p:=aH h hp;simp[n,this]⟩⟩
theorem zE{p:Addr}{xs:List D}{vs:List V}(r:Rep K ι H S)(hp:H p=none)(h:RelDs K ι H xs vs):Rep K (ι++[p]) (upd H p (.lst vs)) (S++[xs]):=by
 have hE:Ext ι H (ι++[p]) (upd H p (.lst vs)):=tE hp;refine⟨?_,by simp[r.len],fun k a ys e1 e2=>?_,r.tab.mono fun b o h _=>by rw[aB (aH h hp)];exact h⟩
 ·rw[List.nodup_append];refine⟨r.nd,by simp,fun a ha b hb=>?_⟩
  have:b=p:=by simpa using hb
  subst this;rintro rfl;exact r.free hp ha
 ·by_cases hk:k<ι.length
  ·rw[Kl hk]at e1;rw[Kl (by rw[<-r.len];exact hk)]at e2
   obtain⟨ws,h1,h2⟩:=r.get k a ys e1 e2;exact⟨ws,by rw[aB (aH h1 hp)];exact h1,RelDs.later r hE h2⟩
  ·have Z:k<(ι++[p]).length:=(JN.mp e1).1;have:k=ι.length:=by simp at Z;omega
   subst this;simp at e1;rw[r.len]at e2;simp at e2;subst e1 e2;exact⟨vs,aN,RelDs.later r hE h⟩
theorem nS:∀{l:List Addr} {i j:Nat} {a:Addr},l.Nodup->l[i]? =some a->l[j]? =some a->i=j
 |[],i,j,a,_,h,_=>by simp at h
 |x::r,0,0,a,_,_,_=>rfl
 |x::r,0,j+1,a,hn,h1,h2=>by
  simp at h1 h2;subst h1;exact absurd (Ke h2) (Ku.mp hn).1
 |x::r,i+1,0,a,hn,h1,h2=>by
  simp at h1 h2;subst h2;exact absurd (Ke h1) (Ku.mp hn).1
 |x::r,i+1,j+1,a,hn,h1,h2=>by
  simp at h1 h2;rw[nS (Ku.mp hn).2 h1 h2]
theorem rD(ha:a∈ι):Ext ι H ι (upd H a o):=⟨⟨[],by simp⟩,fun b o' h n _=>⟨by rw[aB (fun z=>n (by rw[z];exact ha))];exact h,n⟩⟩
theorem rE{a:Addr}{k:Nat}{xs:List D}{vs:List V}(r:Rep K ι H S)(hk:ι[k]? =some a)(h:RelDs K ι H xs vs):Rep K ι (upd H a (.lst vs)) (S.set k xs):=by
 have ha:a∈ι:=Ke hk;have hE:Ext ι H ι (upd H a (.lst vs)):=rD ha;refine⟨r.nd,by simp[r.len],fun j b ys e1 e2=>?_,r.tab.mono fun b o h n=>by
  obtain⟨ws,hw⟩:=r.isL ha;rw[aB (fun z=>by subst z;rw[h]at hw;exact n ws (J8 hw))];exact h⟩
 by_cases hj:j=k
 ·subst hj;rw[hk]at e1;cases e1;have hl:j<S.length:=by rw[<-r.len];exact(JN.mp hk).1
  rw[Ka hl]at e2;cases e2;exact⟨vs,aN,RelDs.later r hE h⟩
 ·rw[KI (Ne.symm hj)]at e2;obtain⟨ws,h1,h2⟩:=r.get j b ys e1 e2;have hb:b≠a:=by
   rintro rfl;exact hj (nS r.nd e1 hk)
  exact⟨ws,by rw[aB hb];exact h1,RelDs.later r hE h2⟩
end
abbrev XD:=D->List Addr->aA->Hp->Prop
def cont(K:W.Frag)(E:XD){α:Type}(c:M α)(ι:List Addr)(S:aA)(H:Hp)(Q:α->List Addr->aA->Hp->Prop):Prop:=
 ∃ r S',c S=some (r,S')/\∀ ι' H',Ext ι H ι' H'->Rep K ι' H' S'->match r with
  | .ok a=>Q a ι' S' H'
  | .ex x=>E x ι' S' H'
section
variable {K:W.Frag}{E:XD}{ι:List Addr}{S:aA}{H:Hp}{α β:Type}
theorem ai{c:M α}{f:α->M β}{Q:β->List Addr->aA->Hp->Prop}(h:cont K E (c>>=f) ι S H Q):cont K E c ι S H (fun a ι1 S1 H1=>cont K E (f a) ι1 S1 H1 Q):=by
 obtain⟨r,S',e,k⟩:=h;have e':M.bnd c f S=some (r,S'):=e;unfold M.bnd at e';cases q:c S with
 |none=>rw[q]at e';cases e'
 | some p=>
  obtain⟨r1,S1⟩:=p;rw[q]at e';cases r1 with
  |ok a=>exact⟨.ok a,S1,q,fun ι1 H1 x1 rep1=>⟨r,S',e',fun ι2 H2 x2 rep2=>k ι2 H2 (x1.trans x2) rep2⟩⟩
  |ex x=>
   cases e';exact⟨.ex x,_,q,fun ι1 H1 x1 rep1=>k ι1 H1 x1 rep1⟩
theorem ak{c:M α}{Q Q':α->List Addr->aA->Hp->Prop}(h:cont K E c ι S H Q)(k:∀ a ι' S' H',Ext ι H ι' H'->Rep K ι' H' S'->Q a ι' S' H'->Q' a ι' S' H'):cont K E c ι S H Q':=by
 obtain⟨r,S',e,q⟩:=h;refine⟨r,S',e,fun ι1 H1 x1 rep1=>?_⟩;have:=q ι1 H1 x1 rep1;cases r with
 |ok a=>exact k a ι1 S' H1 x1 rep1 this
 |ex x=>exact this
theorem ah{a:α}{Q:α->List Addr->aA->Hp->Prop}(h:cont K E (pure a) ι S H Q){ι':List Addr}{H':Hp}(x:Ext ι H ι' H')(r:Rep K ι' H' S):Q a ι' S H':=by
 obtain⟨r',S',e,q⟩:=h;cases e;exact q ι' H' x r
theorem ag{Q:α->List Addr->aA->Hp->Prop}(h:cont K E (M.fail) ι S H Q):False:=by
 obtain⟨r',S',e,q⟩:=h;cases e
end
abbrev aM:=List (Option D)
inductive RelE(K:W.Frag)(ι:List Addr)(H:Hp):aM->St->Prop where
 |nil:RelE K ι H [] []
 |cons {o:Option D} {u:Option V} {ρ:aM} {σ:St}:(∀ d,o=some d->∃ v,u=some v/\RelD K ι H d v)->RelE K ι H ρ σ->RelE K ι H (o::ρ) (u::σ)
section
variable {K:W.Frag}{ι ι':List Addr}{S:aA}{H H':Hp}
theorem RelE.later(r:Rep K ι H S)(e:Ext ι H ι' H'):∀{ρ:aM} {σ:St},RelE K ι H ρ σ->RelE K ι' H' ρ σ
 |_,_,.nil=>.nil
 |_,_,.cons h t=>.cons (fun d z=>let ⟨v,e1,e2⟩:=h d z;⟨v,e1,RelD.later r e e2⟩) (RelE.later r e t)
theorem RelE.get:∀{ρ:aM} {σ:St} {i:Nat} {d:D},RelE K ι H ρ σ->ρ[i]? =some (some d)->∃ v,σ[i]? =some (some v)/\RelD K ι H d v
 |_,_,_,_,.nil,e=>by simp at e
 |_,_,0,_,.cons h _,e=>by
  simp at e;obtain⟨v,e1,e2⟩:=h _ e;exact⟨v,by simp[e1],e2⟩
 |_,_,i+1,_,.cons _ t,e=>by
  obtain⟨v,h1,h2⟩:=RelE.get (i:=i) t (by simpa using e)
  exact⟨v,by simpa using h1,h2⟩
theorem RelE.set(r:RelD K ι H d v):∀{ρ:aM} {σ:St} (i:Nat),RelE K ι H ρ σ->RelE K ι H (ρ.set i (some d)) (σ.set i (some v))
 |_,_,_,.nil=>.nil
 |_,_,0,.cons _ t=>.cons (fun d' z=>by cases z;exact⟨v,rfl,r⟩) t
 |_,_,i+1,.cons q t=>.cons q (RelE.set r i t)
theorem RelE.start:∀{ds:List D} {vs:List V},RelDs K ι H ds vs->∀ n,RelE K ι H (ds.map some++List.replicate n none) (vs.map some++List.replicate n none)
 |_,_,.nil,n=>by
  induction n with
  |zero=>exact .nil
  |succ n ih=>exact .cons (fun d z=>by cases z) ih
 |_,_,.cons r t,n=>.cons (fun d z=>by cases z;exact⟨_,rfl,r⟩) (RelE.start t n)
end
abbrev TM:=aM->M D
def kq(K:W.Frag)(Q:VK):D->List Addr->aA->Hp->Prop:=fun d ι' _ H'=>∀ v,RelD K ι' H' d v->Q v H'
def tM(K:W.Frag)(E:XD)(m:TM):TE:=fun σ H Q=>∃ ι S ρ,Rep K ι H S/\RelE K ι H ρ σ/\cont K E (m ρ) ι S H (kq K Q)
def SE(X:Cx)(E:XD)(e:Expr)(m:TM):Prop:=PE X e (tM X.K E m)
def xP(K:W.Frag)(E:XD)(m:aM->M Bool):TT:=fun σ H Q=>∃ ι S ρ,Rep K ι H S/\RelE K ι H ρ σ/\cont K E (m ρ) ι S H (fun b _ _ H'=>Q b H')
def SB(X:Cx)(E:XD)(e:Expr)(m:aM->M Bool):Prop:=PT X e (xP X.K E m)
def EE(X:Cx)(E:XD)(e:Expr)(m:aM->M Bool):Prop:=PW X e (xP X.K E m)
def IL(K:W.Frag)(E:XD)(m:aM->M (List D)):TA:=fun σ H Q=>∃ ι S ρ,Rep K ι H S/\RelE K ι H ρ σ/\cont K E (m ρ) ι S H (fun ds ι' _ H'=>∀ vs,RelDs K ι' H' ds vs->Q vs H')
def SA(X:Cx)(E:XD)(es:List Expr)(m:aM->M (List D)):Prop:=PA X es (IL X.K E m)
inductive Out where
 |nx (ρ:aM)|ret (d:D)|bk (ρ:aM)|ct (ρ:aM)
abbrev cT:=aM->M Out
def EF(K:W.Frag)(T:Ends):Out->List Addr->aA->Hp->Prop:=fun o ι' _ H'=>match o with
 | .nx ρ=>∀ σ,RelE K ι' H' ρ σ->T.nx σ H'
 | .ret d=>∀ v,RelD K ι' H' d v->T.rt v H'
 | .bk ρ=>∀ σ,RelE K ι' H' ρ σ->T.bk σ H'
 | .ct ρ=>∀ σ,RelE K ι' H' ρ σ->T.ct σ H'
def Jj(K:W.Frag)(E:XD)(m:cT):TS:=fun T σ H=>∃ ι S ρ,Rep K ι H S/\RelE K ι H ρ σ/\cont K E (m ρ) ι S H (EF K T)
def SS(X:Cx)(E:XD)(st:Stmt)(m:cT):Prop:=PS X st (Jj X.K E m)
def tF(X:Cx)(E:XD)(st:List Stmt)(m:cT):Prop:=pJ X st (Jj X.K E m)
abbrev lM:=D->aM->M aM
def BC(K:W.Frag)(E:XD)(m:lM):TG:=fun v σ H Q=>∃ ι S ρ d,Rep K ι H S/\RelE K ι H ρ σ/\RelD K ι H d v/\cont K E (m d ρ) ι S H (fun ρ' ι' _ H'=>∀ σ',RelE K ι' H' ρ' σ'->Q σ' H')
def SG(X:Cx)(E:XD)(tg:Expr)(m:lM):Prop:=PG X tg (BC X.K E m)
theorem PE.imp{X:Cx}{e:Expr}{t t':TE}(h:PE X e t)(k:∀ σ H Q,t' σ H Q->t σ H Q):PE X e t':=fun pins s σ H Q I hw=>h pins s σ H Q I (k σ H Q hw)
theorem PT.imp{X:Cx}{e:Expr}{t t':TT}(h:PT X e t)(k:∀ σ H Q,t' σ H Q->t σ H Q):PT X e t':=fun pins s σ H Q I hw=>h pins s σ H Q I (k σ H Q hw)
theorem PW.imp{X:Cx}{e:Expr}{t t':TT}(h:PW X e t)(k:∀ σ H Q,t' σ H Q->t σ H Q):PW X e t':=fun wh pins s σ H Q I hw=>h wh pins s σ H Q I (k σ H Q hw)
theorem PA.imp{X:Cx}{e:List Expr}{t t':TA}(h:PA X e t)(k:∀ σ H Q,t' σ H Q->t σ H Q):PA X e t':=fun pos pins s σ H Q I hw=>h pos pins s σ H Q I (k σ H Q hw)
theorem PS.imp{X:Cx}{e:Stmt}{t t':TS}(h:PS X e t)(k:∀ D σ H,t' D σ H->t D σ H):PS X e t':=fun pins s σ H D I hw=>h pins s σ H D I (k D σ H hw)
theorem pJ.imp{X:Cx}{e:List Stmt}{t t':TS}(h:pJ X e t)(k:∀ D σ H,t' D σ H->t D σ H):pJ X e t':=fun pins s σ H D I hw=>h pins s σ H D I (k D σ H hw)
theorem PG.imp{X:Cx}{e:Expr}{t t':TG}(h:PG X e t)(k:∀ v σ H Q,t' v σ H Q->t v σ H Q):PG X e t':=fun pins s σ H v u Q I r hw=>h pins s σ H v u Q I r (k v σ H Q hw)
section
variable {X:Cx}{E:XD}{a b e:Expr}{m n:TM}{pos:Pos}
def B5(ρ:aM)(i:Nat):M D:=match ρ[i]? with
 |some (some d)=>pure d
 |_=>M.fail
theorem ae(i:Nat)(hN:X.N[i]? =some x:=by rfl)(hv:xy X.env.scope x:=by first|exact Or.inl rfl|exact Or.inr (Or.inl rfl)|exact Or.inr (Or.inr rfl))(hd:(x==("__debug__":Str))=false:=by decide)
  (Z:(x==("__classdict__":Str))=false:=by decide):SE X E (.Name x pos) (fun ρ=>B5 ρ i):=by
 refine PE.imp (rf hN hv hd Z) fun σ H Q h=>?_;obtain⟨ι,S,ρ,rep,re,c⟩:=h;unfold B5 at c;dsimp only at c;split at c
 ·next d hd=>
  obtain⟨v,e1,e2⟩:=re.get hd;exact⟨v,e1,ah c .refl rep v e2⟩
 ·exact(ag c).elim
theorem jt(h:PE X e (tC v))(hd:∀ ι H,RelD X.K ι H d v):SE X E e (fun _=>pure d):=by
 refine PE.imp h fun σ H Q h=>?_;obtain⟨ι,S,ρ,rep,re,c⟩:=h;exact ah c .refl rep v (hd _ _)
theorem aw{j}:SE X E (.Constant (.int i) j pos) (fun _=>pure (.int i)):=jt yT fun _ _=>.int i
theorem gY{j}:SE X E (.Constant (.bool i) j pos) (fun _=>pure (.bl i)):=jt Gm fun _ _=>.bl i
theorem ku{j}:SE X E (.Constant .none j pos) (fun _=>pure .non):=jt DV fun _ _=>.non
theorem rF{j}:SE X E (.Constant (.str x) j pos) (fun _=>pure (.str x)):=jt DW fun _ _=>.str x
theorem B6(hg:Gl X x)(hm:X.mg x=some (.int i t))(hd:(x==("__debug__":Str))=false:=by decide):SE X E (.Name x pos) (fun _=>pure (.int i)):=
 jt (wc hg hm (v:=.int i) ⟨t,rfl⟩ hd) fun _ _=>.int i
def sW(K:W.Frag)(E:XD)(f:D->D->M D)(r:R2):Prop:=
 ∀ ι S H d1 d2 v1 v2 Q,Rep K ι H S->RelD K ι H d1 v1->RelD K ι H d2 v2->cont K E (f d1 d2) ι S H (kq K Q)->r v1 v2 H Q
theorem B7(ho:sW X.K E f r)(h:tM X.K E (fun ρ=>do let x<-m ρ;let y<-n ρ;f x y) σ H Q):GD r (tM X.K E m) (tM X.K E n) σ H Q:=by
 obtain⟨ι,S,ρ,rep,re,c⟩:=h;refine⟨ι,S,ρ,rep,re,ak (ai c) fun x ι1 S1 H1 e1 rep1 c1 v1 r1=>?_⟩;refine⟨ι1,S1,ρ,rep1,re.later rep e1,ak (ai c1) fun y ι2 S2 H2 e2 rep2 c2 v2 r2=>?_⟩;exact ho ι2 S2 H2 x y v1 v2 Q rep2 (r1.later rep1 e2) r2 c2
theorem qr(h:iR X (binaryOp op) r)(ho:sW X.K E f r)(ha:SE X E a m)(hb:SE X E b n):SE X E (.BinOp a op b pos) (fun ρ=>do let x<-m ρ;let y<-n ρ;f x y):=
 PE.imp (GE h ha hb) fun _ _ _ q=>B7 ho q
theorem zF(h:iR X (compareOp op) r)(ho:sW X.K E f r)(ha:SE X E a m)(hb:SE X E b n)(hm:behindInMarks op b=false:=by first|exact sZ _ (by decide) (by decide)|rfl):
  SE X E (.Compare a [op] [b] pos) (fun ρ=>do let x<-m ρ;let y<-n ρ;f x y):=
 PE.imp (BR h ha hb hm) fun _ _ _ q=>B7 ho q
theorem GV(h:Bz X r)(ho:sW X.K E f r)(ha:SE X E a m)(hb:SE X E b n)(hs:rk b:=by intro _ _;rfl):SE X E (.Subscript a b pos) (fun ρ=>do let x<-m ρ;let y<-n ρ;f x y):=
 PE.imp (GP h ha hb hs) fun _ _ _ q=>B7 ho q
end
def lim:Nat:=10000000
theorem f7:lim<=sizeLine:=by rw[KN];decide
theorem zG:lim<sizeLine:=by rw[KN];decide
section
variable {K:W.Frag}{ι:List Addr}{H:Hp}
theorem RelD.bl_inv(h:RelD K ι H (.bl b) v):v= .bl b:=by cases h;rfl
theorem RelD.int_inv(h:RelD K ι H (.int b) v):v= .int b:=by cases h;rfl
theorem RelD.str_inv(h:RelD K ι H (.str b) v):v= .str b:=by cases h;rfl
theorem RelD.non_inv(h:RelD K ι H .non v):v= .non:=by cases h;rfl
theorem RelD.tup_inv(h:RelD K ι H (.tup ds) v):∃ a vs,v= .ref a/\H a=some (.tup vs)/\RelDs K ι H ds vs:=by
 cases h with
 |tup h1 h2=>exact⟨_,_,rfl,h1,h2⟩
theorem RelD.lst_inv(h:RelD K ι H (.lst k) v):∃ a,v= .ref a/\ι[k]? =some a:=by
 cases h with
 |lst h1=>exact⟨_,rfl,h1⟩
theorem RelD.ro_inv(h:RelD K ι H (.ro ds) v):∃ a vs,v= .ref a/\BB K H a vs/\RelDs K ι H ds vs:=by
 cases h with
 |ro h1 h2=>exact⟨_,_,rfl,h1,h2⟩
theorem RelD.fz_inv(h:RelD K ι H (.fz ds) v):∃ a o vs,v= .ref a/\H a=some (.frz o (.lst vs))/\RelDs K ι H ds vs:=by
 cases h with
 |fz h1 h2=>exact⟨_,_,_,rfl,h1,h2⟩
theorem RelDs.nil_inv(h:RelDs K ι H [] vs):vs=[]:=by cases h;rfl
theorem RelDs.cons_inv(h:RelDs K ι H (d::ds) vs):∃ v ws,vs=v::ws/\RelD K ι H d v/\RelDs K ι H ds ws:=by
 cases h with
 |cons h1 h2=>exact⟨_,_,rfl,h1,h2⟩
end
def kc:D->M Bool
 | .bl b=>pure b
 |_=>M.fail
def getL(k:Nat):M (List D):=fun S=>(S[k]?).bind fun xs=>some (.ok xs,S)
def bD(ds:List D):M D:=fun S=>if ds.length<=lim then some (.ok (.lst S.length),S++[ds])else none
def lN(k:Nat)(ds:List D):M D:=fun S=>if ds.length<=lim/\k<S.length then some (.ok .non,S.set k ds)else none
def bQ(ds:List D):M D:=if ds.length<=lim then pure (.tup ds)else M.fail
section
variable {K:W.Frag}{E:XD}{ι:List Addr}{S:aA}{H:Hp}{α:Type}
theorem m8{f:Bool->M α}(rep:Rep K ι H S)(r:RelD K ι H x v)(c:cont K E (kc x>>=f) ι S H Q):∃ b,v= .bl b/\x= .bl b/\cont K E (f b) ι S H Q:=by
 cases x with
 |bl b=>exact⟨b,r.bl_inv,rfl,ah (ai c) .refl rep⟩
 |_=>exact(ag (ai c)).elim
theorem nU{Q:Bool->List Addr->aA->Hp->Prop}(rep:Rep K ι H S)(r:RelD K ι H x v)(c:cont K E (kc x) ι S H Q):∃ b,v= .bl b/\x= .bl b/\Q b ι S H:=by
 cases x with
 |bl b=>exact⟨b,r.bl_inv,rfl,ah c .refl rep⟩
 |_=>exact(ag c).elim
theorem xQ{Q:D->List Addr->aA->Hp->Prop}(c:cont K E (bD ds) ι S H Q)(rep:Rep K ι H S)(r:RelDs K ι H ds vs):
  vs.length<=lim/\∀ p,H p=none->Q (.lst S.length) (ι++[p]) (S++[ds]) (upd H p (.lst vs)):=by
 obtain⟨r',S',e,q⟩:=c;unfold bD at e;split at e
 ·next hl=>
  cases e;exact⟨by rw[<-r.length];exact hl,fun p hp=>q _ _ (tE hp) (zE rep hp r)⟩
 ·cases e
theorem zH(rep:Rep K ι H S):RelD K (ι++[p]) H' (.lst S.length) (.ref p):=.lst (by rw[<-rep.len];simp)
theorem bS{Q:VK}(c:cont K E (bD ds) ι S H (kq K Q))(rep:Rep K ι H S)(r:RelDs K ι H ds vs):vs.length<=lim/\∀ p,H p=none->Q (.ref p) (upd H p (.lst vs)):=
 let ⟨h1,h2⟩:=xQ c rep r
 ⟨h1,fun p hp=>h2 p hp _ (zH rep)⟩
theorem gE{Q:VK}(c:cont K E (bQ ds) ι S H (kq K Q))(rep:Rep K ι H S)(r:RelDs K ι H ds vs):vs.length<=lim/\∀ p,H p=none->Q (.ref p) (upd H p (.tup vs)):=by
 unfold bQ at c;split at c
 ·next hl=>
  refine⟨by rw[<-r.length];exact hl,fun p hp=>?_⟩
  exact ah c (dQ hp) (eY rep hp) _ (.tup aN (r.later rep (dQ hp)))
 ·exact(ag c).elim
theorem iV{Q:VK}(c:cont K E (bQ ds) ι S H (kq K Q))(rep:Rep K ι H S)(h:H a=some (.tup vs))(r:RelDs K ι H ds vs):Q (.ref a) H:=by
 unfold bQ at c;split at c
 ·exact ah c .refl rep _ (.tup h r)
 ·exact(ag c).elim
theorem bu{f:List D->M α}(c:cont K E (getL k>>=f) ι S H Q)(rep:Rep K ι H S)(hk:ι[k]? =some a):
  ∃ ds vs,S[k]? =some ds/\H a=some (.lst vs)/\RelDs K ι H ds vs/\cont K E (f ds) ι S H Q:=by
 obtain⟨r',S',e,q⟩:=ai c;unfold getL at e;cases z:S[k]? with
 |none=>rw[z]at e;cases e
 |some ds=>
  rw[z]at e;cases e;obtain⟨vs,h1,h2⟩:=rep.get k a ds hk z;exact⟨ds,vs,rfl,h1,h2,q ι H .refl rep⟩
theorem iE{Q:D->List Addr->aA->Hp->Prop}(c:cont K E (lN k ds) ι S H Q)(rep:Rep K ι H S)(hk:ι[k]? =some a)(r:RelDs K ι H ds vs):
  vs.length<=lim/\Q .non ι (S.set k ds) (upd H a (.lst vs)):=by
 obtain⟨r',S',e,q⟩:=c;unfold lN at e;split at e
 ·next hl=>
  cases e;exact⟨by rw[<-r.length];exact hl.1,q _ _ (rD (Ke hk)) (rE rep hk r)⟩
 ·cases e
end
section
variable {X:Cx}{E:XD}{a b e:Expr}{m n:TM}{pos:Pos}{rest es:List Expr}{ms:aM->M (List D)}{t u:aM->M Bool}
theorem ky{op}(h:SE X E a m):SE X E (.BoolOp op [a] pos) m:=D1 h
theorem kz(ha:SE X E a m)(hb:SE X E (.BoolOp .And (b::rest) pos) n):SE X E (.BoolOp .And (a::b::rest) pos) (fun ρ=>do let x<-m ρ;let c<-kc x;if c=true then n ρ else pure (.bl false)):=by
 refine PE.imp (D3 ha hb) fun σ H Q h=>?_;obtain⟨ι,S,ρ,rep,re,c⟩:=h;refine⟨ι,S,ρ,rep,re,ak (ai c) fun x ι1 S1 H1 e1 rep1 c1 v1 r1=>?_⟩;obtain⟨k,rfl,rfl,c2⟩:=m8 rep1 r1 c1;refine⟨k,rfl,?_⟩;cases k with
 |true=>exact⟨ι1,S1,ρ,rep1,re.later rep e1,c2⟩
 |false=>exact ah c2 .refl rep1 _ (.bl false)
theorem GW(ha:SE X E a m)(hb:SE X E (.BoolOp .Or (b::rest) pos) n):SE X E (.BoolOp .Or (a::b::rest) pos) (fun ρ=>do let x<-m ρ;let c<-kc x;if c=true then pure (.bl true)else n ρ):=by
 refine PE.imp (Gr ha hb) fun σ H Q h=>?_;obtain⟨ι,S,ρ,rep,re,c⟩:=h;refine⟨ι,S,ρ,rep,re,ak (ai c) fun x ι1 S1 H1 e1 rep1 c1 v1 r1=>?_⟩;obtain⟨k,rfl,rfl,c2⟩:=m8 rep1 r1 c1;refine⟨k,rfl,?_⟩;cases k with
 |false=>exact⟨ι1,S1,ρ,rep1,re.later rep e1,c2⟩
 |true=>exact ah c2 .refl rep1 _ (.bl true)
theorem EG(ha:SE X E a m):SE X E (.UnaryOp .Not a pos) (fun ρ=>do let x<-m ρ;let c<-kc x;pure (.bl (!c))):=by
 refine PE.imp (D4 ha) fun σ H Q h=>?_;obtain⟨ι,S,ρ,rep,re,c⟩:=h;refine⟨ι,S,ρ,rep,re,ak (ai c) fun x ι1 S1 H1 e1 rep1 c1 v1 r1=>?_⟩;obtain⟨k,rfl,rfl,c2⟩:=m8 rep1 r1 c1;exact⟨k,rfl,ah c2 .refl rep1 _ (.bl _)⟩
theorem GX(h:xP X.K E (fun ρ=>do let x<-m ρ;kc x) σ H Q):tB (tM X.K E m) σ H Q:=by
 obtain⟨ι,S,ρ,rep,re,c⟩:=h;refine⟨ι,S,ρ,rep,re,ak (ai c) fun x ι1 S1 H1 e1 rep1 c1 v1 r1=>?_⟩;obtain⟨k,rfl,rfl,c2⟩:=nU rep1 r1 c1;exact⟨k,rfl,c2⟩
theorem f9(h:SE X E e m)(he:∀ whole,isTrue e X.env whole=(do let v<-whole;standAt e.pos;holding [v] (truthy v)):=by intro _;rfl):SB X E e (fun ρ=>do let x<-m ρ;kc x):=
 PT.imp (DX h he) fun _ _ _ q=>GX q
theorem kA(h:iR X (compareOp op) r)(ho:sW X.K E f r)(ha:SE X E a m)(hb:SE X E b n)(hm:behindInMarks op b=false:=by first|exact sZ _ (by decide) (by decide)|rfl):
  SB X E (.Compare a [op] [b] pos) (fun ρ=>do let z<-(do let x<-m ρ;let y<-n ρ;f x y);kc z):=
 PT.imp (BS h ha hb hm) fun σ H Q q=>by
  obtain⟨ι,S,ρ,rep,re,c⟩:=q;refine B7 ho (Q:=fun x H'=>∃ k,x= .bl k/\Q k H') ⟨ι,S,ρ,rep,re,ak (ai c) fun x ι1 S1 H1 e1 rep1 c1 v1 r1=>?_⟩;obtain⟨k,rfl,rfl,c2⟩:=nU rep1 r1 c1;exact⟨k,rfl,c2⟩
theorem iW(h:SB X E a t):SB X E (.UnaryOp .Not a pos) (fun ρ=>do let c<-t ρ;pure (!c)):=by
 refine PT.imp (D0 h) fun σ H Q q=>?_;obtain⟨ι,S,ρ,rep,re,c⟩:=q;exact⟨ι,S,ρ,rep,re,ak (ai c) fun k ι1 S1 H1 e1 rep1 c1=>ah c1 .refl rep1⟩
theorem B8(h:SB X E a t):EE X E (.BoolOp .And [a] pos) t:=BH h
theorem lO(h:SB X E a t):EE X E (.BoolOp .Or [a] pos) t:=DY h
theorem EH(ha:SB X E a t)(hb:EE X E (.BoolOp .And (b::rest) pos) u):EE X E (.BoolOp .And (a::b::rest) pos) (fun ρ=>do let c<-t ρ;if c=true then u ρ else pure false):=by
 refine PW.imp (DZ ha hb) fun σ H Q q=>?_;obtain⟨ι,S,ρ,rep,re,c⟩:=q;refine⟨ι,S,ρ,rep,re,ak (ai c) fun k ι1 S1 H1 e1 rep1 c1=>?_⟩;cases k with
 |true=>exact⟨ι1,S1,ρ,rep1,re.later rep e1,c1⟩
 |false=>exact ah c1 .refl rep1
theorem nV(ha:SB X E a t)(hb:EE X E (.BoolOp .Or (b::rest) pos) u):EE X E (.BoolOp .Or (a::b::rest) pos) (fun ρ=>do let c<-t ρ;if c=true then pure true else u ρ):=by
 refine PW.imp (Gn ha hb) fun σ H Q q=>?_;obtain⟨ι,S,ρ,rep,re,c⟩:=q;refine⟨ι,S,ρ,rep,re,ak (ai c) fun k ι1 S1 H1 e1 rep1 c1=>?_⟩;cases k with
 |false=>exact⟨ι1,S1,ρ,rep1,re.later rep e1,c1⟩
 |true=>exact ah c1 .refl rep1
theorem vj(h:EE X E e t):SB X E e t:=PW.pt h
theorem aj:SA X E [] (fun _=>pure []):=by
 refine PA.imp jm fun σ H Q q=>?_;obtain⟨ι,S,ρ,rep,re,c⟩:=q;exact ah c .refl rep _ .nil
theorem af(ha:SE X E e m)(hr:SA X E es ms)(hs:starEach (e::es) X.env=(false,eval e X.env)::starEach es X.env:=by rfl):SA X E (e::es) (fun ρ=>do let x<-m ρ;let xs<-ms ρ;pure (x::xs)):=by
 refine PA.imp (eJ ha hr hs) fun σ H Q q=>?_;obtain⟨ι,S,ρ,rep,re,c⟩:=q;refine⟨ι,S,ρ,rep,re,ak (ai c) fun x ι1 S1 H1 e1 rep1 c1 v1 r1=>?_⟩;refine⟨ι1,S1,ρ,rep1,re.later rep e1,ak (ai c1) fun xs ι2 S2 H2 e2 rep2 c2 vs r2=>?_⟩;exact ah c2 .refl rep2 _ (.cons (r1.later rep1 e2) r2)
theorem bZ{x1}(h:SA X E es ms):SE X E (.Tuple es x1 pos) (fun ρ=>do let ds<-ms ρ;bQ ds):=by
 refine PE.imp (zj h) fun σ H Q q=>?_;obtain⟨ι,S,ρ,rep,re,c⟩:=q;refine⟨ι,S,ρ,rep,re,ak (ai c) fun x ι1 S1 H1 e1 rep1 c1 vs r1=>?_⟩;obtain⟨h1,h2⟩:=gE c1 rep1 r1;exact⟨JV h1 f7,h2⟩
theorem bE(h:SA X E es ms):SE X E (.List es pos) (fun ρ=>do let ds<-ms ρ;bD ds):=by
 refine PE.imp (Ep h) fun σ H Q q=>?_;obtain⟨ι,S,ρ,rep,re,c⟩:=q;refine⟨ι,S,ρ,rep,re,ak (ai c) fun x ι1 S1 H1 e1 rep1 c1 vs r1=>?_⟩;obtain⟨h1,h2⟩:=bS c1 rep1 r1;exact⟨JV h1 f7,h2⟩
def mz(K:W.Frag)(E:XD)(f:List D->M D)(r:List V->Hp->VK->Prop):Prop:=
 ∀ ι S H ds vs Q,Rep K ι H S->RelDs K ι H ds vs->cont K E (f ds) ι S H (kq K Q)->r vs H Q
theorem GY(ho:mz X.K E f r)(h:tM X.K E (fun ρ=>do let ds<-ms ρ;f ds) σ H Q):IF r (IL X.K E ms) σ H Q:=by
 obtain⟨ι,S,ρ,rep,re,c⟩:=h;exact⟨ι,S,ρ,rep,re,ak (ai c) fun ds ι1 S1 H1 e1 rep1 c1 vs r1=>ho ι1 S1 H1 ds vs Q rep1 r1 c1⟩
theorem ju{x:Str}{id:String}{f:List D->M D}{r:List V->Hp->VK->Prop}{p:Pos}(hc:dH X (.builtin id) r)(ho:mz X.K E f r)(hg:Gl X x)(hm:X.mg x=none)(hv:bootBuiltins x=some (.builtin id))(ha:SA X E (e::es) ms)
  (hn:x≠"__name__":=by decide) (Y:(x==("__debug__":Str))=false:=by decide) (he:starEach (e::es) X.env=(false,eval e X.env)::starEach es X.env:=by rfl) (Z:(backTo pos (starEach es X.env)).any (·.1)=false:=by rfl):
  SE X E (.Call (.Name x p) (e::es) [] pos) (fun ρ=>do let ds<-ms ρ;f ds):=
 PE.imp (jo hc hg hm hv ha hn Y he Z) fun _ _ _ q=>GY ho q
theorem xR(hc:dH X (.type T) r)(ho:mz X.K E f r)(hg:Gl X x)(hm:X.mg x=none)(hv:bootBuiltins x=some (.type T))(ha:SA X E (e::es) ms)
  (hn:x≠"__name__":=by decide) (Y:(x==("__debug__":Str))=false:=by decide) (he:starEach (e::es) X.env=(false,eval e X.env)::starEach es X.env:=by rfl) (Z:(backTo pos (starEach es X.env)).any (·.1)=false:=by rfl):
  SE X E (.Call (.Name x p) (e::es) [] pos) (fun ρ=>do let ds<-ms ρ;f ds):=
 PE.imp (jR hc hg hm hv ha hn Y he Z) fun _ _ _ q=>GY ho q
abbrev cb:XD:=fun _ _ _ _=>False
def Jy(K:W.Frag)(F:List D->M D):Sp:=fun vs H Q _=>∃ ι S ds,Rep K ι H S/\RelDs K ι H ds vs/\cont K cb (F ds) ι S H (kq K Q)
def HK(K:W.Frag)(E:XD)(f:D->List D->M D)(r:V->List V->Hp->VK->Prop):Prop:=
 ∀ ι S H d ds v vs Q,Rep K ι H S->RelD K ι H d v->RelDs K ι H ds vs->cont K E (f d ds) ι S H (kq K Q)->r v vs H Q
end
theorem fJ{K:W.Frag}{E:XD}{α:Type}{c:M α}{ι ι':List Addr}{S:aA}{H H':Hp}{Q:α->List Addr->aA->Hp->Prop}(h:cont K E c ι S H Q)(e:Ext ι H ι' H'):cont K E c ι' S H' Q:=by
 obtain⟨r,S',q,k⟩:=h;exact⟨r,S',q,fun ι2 H2 x2 rep2=>k ι2 H2 (e.trans x2) rep2⟩
section
variable {X:Cx}{E:XD}{st:Stmt}{sts:List Stmt}{m n:cT}{e:Expr}{me:TM}{t:aM->M Bool}{pos:Pos}{g:lM}
def xS(o:Out)(n:cT):M Out:=match o with
 | .nx ρ=>n ρ
 | .ret d=>pure (.ret d)
 | .bk ρ=>pure (.bk ρ)
 | .ct ρ=>pure (.ct ρ)
theorem cy:tF X E [] (fun ρ=>pure (.nx ρ)):=by
 refine pJ.imp BI fun T σ H h=>?_;obtain⟨ι,S,ρ,rep,re,c⟩:=h;exact ah c .refl rep σ re
theorem aD(h1:SS X E st m)(h2:tF X E sts n):tF X E (st::sts) (fun ρ=>do let o<-m ρ;xS o n):=by
 refine pJ.imp (td h1 h2) fun T σ H h=>?_;obtain⟨ι,S,ρ,rep,re,c⟩:=h;refine⟨ι,S,ρ,rep,re,ak (ai c) fun o ι1 S1 H1 e1 rep1 c1=>?_⟩;cases o with
 |nx ρ'=>exact fun σ' re'=>⟨ι1,S1,ρ',rep1,re',c1⟩
 |ret d=>exact ah c1 .refl rep1
 |bk ρ'=>exact ah c1 .refl rep1
 |ct ρ'=>exact ah c1 .refl rep1
theorem aP(h1:SS X E st m):tF X E [st] m:=by
 refine pJ.imp (rg h1) fun T σ H h=>h
theorem eZ(he:SE X E e me)(hs:swapsWith e none pos.line X.env=pure false:=by rfl):SS X E (.Expr e pos) (fun ρ=>do let _<-me ρ;pure (.nx ρ)):=by
 refine PS.imp (BJ he hs) fun T σ H h=>?_;obtain⟨ι,S,ρ,rep,re,c⟩:=h;refine⟨ι,S,ρ,rep,re,ak (ai c) fun d ι1 S1 H1 e1 rep1 c1 v r=>?_⟩;exact ah c1 .refl rep1 σ (re.later rep e1)
theorem bb(he:SE X E e me):SS X E (.Return (some e) pos) (fun ρ=>do let d<-me ρ;pure (.ret d)):=by
 refine PS.imp (D5 he) fun T σ H h=>?_;obtain⟨ι,S,ρ,rep,re,c⟩:=h;exact⟨ι,S,ρ,rep,re,ak (ai c) fun d ι1 S1 H1 e1 rep1 c1=>ah c1 .refl rep1⟩
theorem dz(hc:SB X E e t)(ha:tF X E a m)(hb:tF X E b n):SS X E (.If e a b pos) (fun ρ=>do let c<-t ρ;if c=true then m ρ else n ρ):=by
 refine PS.imp (Gv hc ha hb) fun T σ H h=>?_;obtain⟨ι,S,ρ,rep,re,c⟩:=h;refine⟨ι,S,ρ,rep,re,ak (ai c) fun k ι1 S1 H1 e1 rep1 c1=>?_⟩;cases k with
 |true=>exact⟨ι1,S1,ρ,rep1,re.later rep e1,c1⟩
 |false=>exact⟨ι1,S1,ρ,rep1,re.later rep e1,c1⟩
theorem aY(i:Nat)(hN:X.N.Nodup)(hi:X.N[i]? =some x:=by rfl)(hx:Loc X.env.scope x:=by first|exact Or.inl rfl|exact Or.inr rfl)(hf:X.fn x=true\/X.env.scope.names.lookup x=some .local:=by first|exact .inl rfl|exact .inr rfl|assumption):
  SG X E (.Name x pos) (fun d ρ=>pure (ρ.set i (some d))):=by
 refine PG.imp (BK hN hi hx hf) fun v σ H Q h=>?_;obtain⟨ι,S,ρ,d,rep,re,r,c⟩:=h;exact ah c .refl rep _ (re.set r i)
def IM(K:W.Frag)(E:XD)(m:List D->aM->M aM):Dt:=fun vs σ H Q=>∃ ι S ρ ds,Rep K ι H S/\RelE K ι H ρ σ/\RelDs K ι H ds vs/\cont K E (m ds ρ) ι S H (fun ρ' ι' _ H'=>∀ σ',RelE K ι' H' ρ' σ'->Q σ' H')
def GZ(X:Cx)(E:XD)(ts:List Expr)(m:List D->aM->M aM):Prop:=yU X ts (IM X.K E m)
theorem yU.imp{X:Cx}{e:List Expr}{t t':Dt}(h:yU X e t)(k:∀ v σ H Q,t' v σ H Q->t v σ H Q):yU X e t':=fun pins s σ H v u Q I r hw=>h pins s σ H v u Q I r (k v σ H Q hw)
def eh:List D->aM->M aM:=fun ds ρ=>match ds with
 |[]=>pure ρ
 |_=>M.fail
def ba(g:lM)(gs:List D->aM->M aM):List D->aM->M aM:=fun ds ρ=>match ds with
 |d::r=>do let ρ1<-g d ρ;gs r ρ1
 |_=>M.fail
theorem gn:GZ X E [] eh:=by
 refine yU.imp BN fun vs σ H Q h=>?_;obtain⟨ι,S,ρ,ds,rep,re,r,c⟩:=h;cases ds with
 |nil=>exact⟨r.nil_inv,ah c .refl rep σ re⟩
 |cons d ds=>exact(ag c).elim
theorem bR(h1:SG X E e g)(h2:GZ X E es gs)(hs:(assignEach (e::es) X.env).map (·.2)=assign e X.env::(assignEach es X.env).map (·.2):=by rfl):GZ X E (e::es) (ba g gs):=by
 refine yU.imp (yW h1 h2 hs) fun vs σ H Q h=>?_;obtain⟨ι,S,ρ,ds,rep,re,r,c⟩:=h;cases ds with
 |nil=>exact(ag c).elim
 |cons d ds=>
  obtain⟨v,ws,rfl,r1,r2⟩:=r.cons_inv;refine⟨v,ws,rfl,ι,S,ρ,d,rep,re,r1,ak (ai c) fun ρ1 ι1 S1 H1 e1 rep1 c1 σ1 re1=>?_⟩;exact⟨ι1,S1,ρ1,ds,rep1,re1,r2.later rep e1,c1⟩
def fS(n:Nat)(gs:List D->aM->M aM):lM:=fun d ρ=>match d with
 | .tup ds=>if ds.length=n then gs ds ρ else M.fail
 |_=>M.fail
theorem kB{es:List Expr}{k:Nat}{n:Nat}{gs:List D->aM->M aM}(hc:X.calm=true)(h:GZ X E es gs)(hn:(assignEach es X.env).length=n:=by rfl)(Z:(assignEach es X.env).findIdx? (·.1)=none:=by rfl):
  SG X E (.Tuple es k pos) (fS n gs):=by
 refine PG.imp (D7 hc h hn Z) fun v σ H Q q=>?_;obtain⟨ι,S,ρ,d,rep,re,r,c⟩:=q;cases d with
 |tup ds=>
  obtain⟨a,vs,rfl,h1,h2⟩:=r.tup_inv;dsimp only[fS]at c;split at c
  ·next hl=>exact⟨a,vs,rfl,lH.of h1,by rw[<-h2.length];exact hl,ι,S,ρ,ds,rep,re,h2,c⟩
  ·exact(ag c).elim
 |_=>exact(ag c).elim
theorem lQ(he:SE X E e me)(hg:SG X E tg g)(hs:swapsWithSole [tg] e pos.line X.env=pure false:=by rfl)(hw:swappedStores [tg] e X.env=pure none:=by rfl)
  (h1:(assignEach [tg] X.env).map (·.2)=[assign tg X.env]:=by rfl):SS X E (.Assign [tg] e pos) (fun ρ=>do let d<-me ρ;let ρ'<-g d ρ;pure (.nx ρ')):=by
 refine PS.imp (Ea he hg hs hw h1) fun T σ H h=>?_;obtain⟨ι,S,ρ,rep,re,c⟩:=h;refine⟨ι,S,ρ,rep,re,ak (ai c) fun d ι1 S1 H1 e1 rep1 c1 v r=>?_⟩;exact⟨ι1,S1,ρ,d,rep1,re.later rep e1,r,ak (ai c1) fun ρ' ι2 S2 H2 e2 rep2 c2=>ah c2 .refl rep2⟩
theorem bA(i:Nat)(hN:X.N.Nodup)(he:SE X E e me)(hi:X.N[i]? =some x:=by rfl)(hx:Loc X.env.scope x:=by first|exact Or.inl rfl|exact Or.inr rfl)(hs:swapsWith e (some (.Name x pos')) pos.line X.env=pure false:=by rfl)
  (hf:X.fn x=true\/X.env.scope.names.lookup x=some .local:=by first|exact .inl rfl|exact .inr rfl|assumption):SS X E (.Assign [.Name x pos'] e pos) (fun ρ=>do let d<-me ρ;pure (.nx (ρ.set i (some d)))):=by
 refine PS.imp (yX hN hi hx he hs hf) fun T σ H h=>?_;obtain⟨ι,S,ρ,rep,re,c⟩:=h;refine⟨ι,S,ρ,rep,re,ak (ai c) fun d ι1 S1 H1 e1 rep1 c1 v r=>?_⟩;exact ah c1 .refl rep1 _ ((re.later rep e1).set r i)
theorem EI(i j:Nat){kt k2 pt2}(hc:X.calm=true)(hN:X.N.Nodup)(ha:SA X E [a,b] ms)(hi:X.N[i]? =some x:=by rfl)(hj:X.N[j]? =some y:=by rfl)(Z:i≠j:=by decide)
  (hx:X.env.scope.names.lookup x=some .local:=by rfl) (hy:X.env.scope.names.lookup y=some .local:=by rfl)
  (hw:swappedStores [.Tuple [.Name x px,.Name y py] kt pt] (.Tuple [a,b] k2 pt2) X.env=pure (some [x,y]):=by rfl)
  (hs:swapsWithSole [.Tuple [.Name x px,.Name y py] kt pt] (.Tuple [a,b] k2 pt2) pos.line X.env=pure false:=by rfl):
  SS X E (.Assign [.Tuple [.Name x px,.Name y py] kt pt] (.Tuple [a,b] k2 pt2) pos) (fun ρ=>do let ds<-ms ρ;match ds with|[d1,d2]=>pure (.nx ((ρ.set i (some d1)).set j (some d2)))|_=>M.fail):=by
 refine PS.imp (Eb hc hN hi hj Z hx hy ha hw hs) fun T σ H h=>?_;obtain⟨ι,S,ρ,rep,re,c⟩:=h;refine⟨ι,S,ρ,rep,re,ak (ai c) fun ds ι1 S1 H1 e1 rep1 c1 vs r=>?_⟩
 match ds,r,c1 with
 |[d1,d2],r,c1=>
  obtain⟨v1,ws,rfl,r1,r2⟩:=r.cons_inv;obtain⟨v2,Y,rfl,r3,r4⟩:=r2.cons_inv;cases r4.nil_inv;exact⟨v1,v2,rfl,ah c1 .refl rep1 _ (((re.later rep e1).set r1 i).set r3 j)⟩
 |[],r,c1=>exact(ag c1).elim
 |[d],r,c1=>exact(ag c1).elim
 |d1::d2::d3::r',r,c1=>exact(ag c1).elim
def IP(K:W.Frag)(E:XD)(f:D->D->D->M Unit)(r:D6):Prop:=
 ∀ ι S H d1 d2 d3 v1 v2 v3 Q,Rep K ι H S->RelD K ι H d1 v1->RelD K ι H d2 v2->RelD K ι H d3 v3->cont K E (f d1 d2 d3) ι S H (fun _ _ _ H'=>Q H')->r v1 v2 v3 H Q
def jv:D->D->D->M Unit:=fun o i v=>match o,i with
 | .lst k,.int j=>do
  let xs<-getL k
  match u9 xs.length j with
  |some at'=>do let _<-lN k (xs.set at' v);pure ()
  |none=>M.fail
 |_,_=>M.fail
inductive Chk where
 |none|some (k:Nat)|two (k j:Nat) (xs ys:List D)
structure Iter where
 items:List D
 chk:Chk
def Iter.okS(it:Iter)(S:aA):Prop:=match it.chk with
 | .none=>True
 | .some k=>S[k]? = .some it.items
 | .two k j xs ys=>S[k]? = .some xs/\S[j]? = .some ys
open Classical in
def gp(it:Iter):M Unit:=fun S=>if it.okS S then some (.ok (),S)else none
def iX(K:W.Frag)(it:Iter)(J:It)(ι:List Addr)(H:Hp):Prop:=
 ∀ ι2 H2 S2,ExtN ι H ι2 H2->Rep K ι2 H2 S2->it.okS S2->∀ i,(∀ d,it.items[i]? =some d->J.go i H2/\∀ x H3,J.yld i H2 x H3->Ext ι2 H2 ι2 H3/\Rep K ι2 H3 S2/\RelD K ι2 H3 d x)/\(it.items.length<=i->J.stop i H2)
def F7(K:W.Frag)(E:XD)(mi:aM->M Iter):TI:=fun σ H R=>∃ ι S ρ,Rep K ι H S/\RelE K ι H ρ σ/\cont K E (mi ρ) ι S H (fun it ι' _ H'=>∀ J,iX K it J ι' H'->R J H')
def SI(X:Cx)(E:XD)(tg iter:Expr)(mi:aM->M Iter):Prop:=PI X tg iter (F7 X.K E mi)
def fT(it:Iter)(g:lM)(b:cT):List D->aM->M Out
 |[],ρ=>do gp it;pure (.nx ρ)
 |d::ds,ρ=>do
  gp it
  let ρ1<-g d ρ;let o<-b ρ1
  match o with
  | .nx ρ'=>fT it g b ds ρ'
  | .ct ρ'=>fT it g b ds ρ'
  | .bk ρ'=>pure (.nx ρ')
  | .ret r=>pure (.ret r)
theorem iF{K:W.Frag}{ι:List Addr}{S:aA}{H:Hp}{α:Type}{it:Iter}{f:Unit->M α}{Q:α->List Addr->aA->Hp->Prop}(h:cont K E (gp it>>=f) ι S H Q)(rep:Rep K ι H S):it.okS S/\cont K E (f ()) ι S H Q:=by
 obtain⟨r,S',e,k⟩:=ai h;unfold gp at e;split at e
 ·next ho=>cases e;exact⟨ho,k ι H .refl rep⟩
 ·cases e
theorem gF(hp:PassesOwn (model X.prog X.w) X.A X.env X.xe)(hc:X.calm=true)(hi:SI X E tg iter mi)(hg:SG X E tg g)(hb:tF X E body b)
  (hs:∀ x,foldedSetIterable iter X.env x=pure x:=by intro _;rfl):SS X E (.For tg iter body [] pos) (fun ρ=>do let it<-mi ρ;fT it g b it.items ρ):=by
 refine PS.imp (Ee hp hc hi hg hb hs) fun T σ H h=>?_;obtain⟨ι,S,ρ,rep,re,c⟩:=h;refine⟨ι,S,ρ,rep,re,ak (ai c) fun it ι1 S1 H1 e1 rep1 c1 J hJ=>?_⟩;refine⟨fun i n σ' H'=>∃ ι2 S2 ρ2,n=it.items.length - i/\i<=it.items.length/\Ext ι1 H1 ι2 H'/\Rep X.K ι2 H' S2/\RelE X.K ι2 H' ρ2 σ'/\cont X.K E (fT it g b (it.items.drop i) ρ2) ι2 S2 H' (EF X.K T),⟨_,ι1,S1,ρ,rfl,J4 _,.refl,rep1,re.later rep e1,c1⟩,?_⟩;rintro i n σ' H' ⟨ι2,S2,ρ2,hn,hi',e2,rep2,re2,c2⟩;by_cases hlt:i<it.items.length
 ·have hd:it.items.drop i=it.items[i]::it.items.drop (i+1):=L6 hlt;rw[hd]at c2;have Y:cont X.K E (do gp it;let ρ1<-g it.items[i] ρ2;let o<-b ρ1;match o with| .nx ρ'=>fT it g b (it.items.drop (i+1)) ρ'| .ct ρ'=>fT it g b (it.items.drop (i+1)) ρ'| .bk ρ'=>pure (.nx ρ')| .ret r=>pure (.ret r)) ι2 S2 H' (EF X.K T):=c2
  obtain⟨ok,c3⟩:=iF Y rep2;obtain⟨O,a4⟩:=hJ ι2 H' S2 e2.n rep2 ok i;obtain⟨go,yl⟩:=O it.items[i] (JL hlt);refine .inr ⟨go,fun σ'' H''=>∃ ι3 S3 ρ3,Ext ι1 H1 ι3 H''/\Rep X.K ι3 H'' S3/\RelE X.K ι3 H'' ρ3 σ''/\cont X.K E (fT it g b (it.items.drop (i+1)) ρ3) ι3 S3 H'' (EF X.K T),?_,fun x H3 hy=>?_⟩
  ·rintro σ'' H'' ⟨ι3,S3,ρ3,e3,rep3,re3,c4⟩;exact⟨_,by omega,ι3,S3,ρ3,rfl,hlt,e3,rep3,re3,c4⟩
  ·obtain⟨e3,rep3,rd⟩:=yl x H3 hy;refine⟨ι2,S2,ρ2,it.items[i],rep3,re2.later rep2 e3,rd,ak (ai (fJ c3 e3)) fun ρ4 ι4 S4 H4 e4 rep4 c4 σ4 re4=>?_⟩;refine⟨ι4,S4,ρ4,rep4,re4,ak (ai c4) fun o ι5 S5 H5 e5 Z c5=>?_⟩;have U:Ext ι1 H1 ι5 H5:=e2.trans (e3.trans (e4.trans e5));cases o with
   |nx ρ'=>exact fun σ5 re5=>⟨ι5,S5,ρ',U,Z,re5,c5⟩
   |ct ρ'=>exact fun σ5 re5=>⟨ι5,S5,ρ',U,Z,re5,c5⟩
   |bk ρ'=>exact ah c5 .refl Z
   |ret d=>exact ah c5 .refl Z
 ·have hd:it.items.drop i=[]:=Mq (by omega)
  rw[hd]at c2;have Y:cont X.K E (do gp it;pure (.nx ρ2)) ι2 S2 H' (EF X.K T):=c2
  obtain⟨ok,c3⟩:=iF Y rep2;exact .inl ⟨(hJ ι2 H' S2 e2.n rep2 ok i).2 (by omega),ah c3 .refl rep2 σ' re2⟩
def jw(t:aM->M Bool)(b:cT):Nat->aM->M Out
 |0,_=>M.fail
 | k+1,ρ=>do
  let c<-t ρ
  if c=true then do
   let o<-b ρ
   match o with
   | .nx ρ'=>jw t b k ρ'
   | .ct ρ'=>jw t b k ρ'
   | .bk ρ'=>pure (.nx ρ')
   | .ret r=>pure (.ret r)
  else pure (.nx ρ)
theorem zI(k:Nat)(hp:PassesOwn (model X.prog X.w) X.A X.env X.xe)(hc:SB X E e t)(hb:tF X E body b):SS X E (.While e body [] pos) (fun ρ=>jw t b k ρ):=by
 refine PS.imp (yY hp hc hb) fun T σ H h=>?_;obtain⟨ι,S,ρ,rep,re,c⟩:=h;refine⟨fun n σ' H'=>∃ ι2 S2 ρ2,Rep X.K ι2 H' S2/\RelE X.K ι2 H' ρ2 σ'/\cont X.K E (jw t b n ρ2) ι2 S2 H' (EF X.K T),⟨k,ι,S,ρ,rep,re,c⟩,?_⟩;rintro n σ' H' ⟨ι2,S2,ρ2,rep2,re2,c2⟩;cases n with
 |zero=>exact(ag c2).elim
 | succ n=>
  refine⟨ι2,S2,ρ2,rep2,re2,ak (ai c2) fun k ι3 S3 H3 e3 rep3 c3=>?_⟩;cases k with
  |false=>exact ah c3 .refl rep3 σ' (re2.later rep2 e3)
  |true=>
   refine⟨fun σ'' H''=>∃ ι2 S2 ρ2,Rep X.K ι2 H'' S2/\RelE X.K ι2 H'' ρ2 σ''/\cont X.K E (jw t b n ρ2) ι2 S2 H'' (EF X.K T),fun σ'' H'' h=>⟨n,LB _,h⟩,?_⟩;refine⟨ι3,S3,ρ2,rep3,re2.later rep2 e3,ak (ai c3) fun o ι5 S5 H5 e5 Z c5=>?_⟩;cases o with
   |nx ρ'=>exact fun σ5 re5=>⟨ι5,S5,ρ',Z,re5,c5⟩
   |ct ρ'=>exact fun σ5 re5=>⟨ι5,S5,ρ',Z,re5,c5⟩
   |bk ρ'=>exact ah c5 .refl Z
   |ret d=>exact ah c5 .refl Z
end
def cK(H:Hp)(p:Addr):Hp:=fun a=>if a=p then none else H a
theorem hide_ne{H:Hp}(h:a≠p):cK H p a=H a:=if_neg h
theorem jT:cK H p p=none:=if_pos rfl
theorem cw{H:Hp}(h:cK H p a=some o):a≠p/\H a=some o:=by
 by_cases e:a=p
 ·rw[e,jT]at h;cases h
 ·rw[hide_ne e]at h;exact⟨e,h⟩
theorem tG{H:Hp}(h:H p=some o):upd (cK H p) p o=H:=by
 funext a;by_cases e:a=p
 ·rw[e,aN,h]
 ·rw[aB e,hide_ne e]
theorem dI:cK (upd H p o) p=cK H p:=by
 funext a;by_cases e:a=p
 ·rw[e,jT,jT]
 ·rw[hide_ne e,hide_ne e,aB e]
theorem gG{H:Hp}(h:H p=none):cK H p=H:=by
 funext a;by_cases e:a=p
 ·rw[e,jT,h]
 ·rw[hide_ne e]
section
variable {K:W.Frag}{ι ι':List Addr}{H H':Hp}{S:aA}{p:Addr}
mutual
theorem RelD.hide(hp:H p=some (.lst ws)):∀{d:D} {v:V},RelD K ι H d v->RelD K ι (cK H p) d v
 |_,_,.non=>.non
 |_,_,.bl b=>.bl b
 |_,_,.int i=>.int i
 |_,_,.str x=>.str x
 |_,_,.tup h hs=>.tup (by rw[hide_ne (fun z=>by rw[z,hp]at h;cases h)];exact h) (RelDs.hide hp hs)
 |_,_,.lst h=>.lst h
 |_,_,.ro h hs=>.ro (h.imp (fun⟨o,h⟩=>⟨o,by rw[hide_ne (fun z=>by rw[z,hp]at h;cases h)];exact h⟩) fun z=>z) (RelDs.hide hp hs)
 |_,_,.emp h=>.emp (by rw[hide_ne (fun z=>by rw[z,hp]at h;cases h)];exact h)
 |_,_,.fn h hs=>.fn (by rw[hide_ne (fun z=>by rw[z,hp]at h;cases h)];exact h) (RelDs.hide hp hs)
 |_,_,.exc n h=>.exc n (by rw[hide_ne (fun z=>by rw[z,hp]at h;cases h)];exact h)
 |_,_,.excF n h h2 hn hs=>.excF n (by rw[hide_ne (fun z=>by rw[z,hp]at h;cases h)];exact h) (by rw[hide_ne (fun z=>by rw[z,hp]at h2;cases h2)];exact h2) hn (RelDs.hide hp hs)
 |_,_,.fz h hs=>.fz (by rw[hide_ne (fun z=>by rw[z,hp]at h;cases h)];exact h) (RelDs.hide hp hs)
theorem RelDs.hide(hp:H p=some (.lst ws)):∀{ds:List D} {vs:List V},RelDs K ι H ds vs->RelDs K ι (cK H p) ds vs
 |_,_,.nil=>.nil
 |_,_,.cons h hs=>.cons (RelD.hide hp h) (RelDs.hide hp hs)
end
mutual
theorem RelD.unhide:∀{d:D} {v:V},RelD K ι (cK H p) d v->RelD K ι H d v
 |_,_,.non=>.non
 |_,_,.bl b=>.bl b
 |_,_,.int i=>.int i
 |_,_,.str x=>.str x
 |_,_,.tup h hs=>.tup (cw h).2 (RelDs.unhide hs)
 |_,_,.lst h=>.lst h
 |_,_,.ro h hs=>.ro (h.imp (fun⟨o,h⟩=>⟨o,(cw h).2⟩) fun z=>z) (RelDs.unhide hs)
 |_,_,.emp h=>.emp (cw h).2
 |_,_,.fn h hs=>.fn (cw h).2 (RelDs.unhide hs)
 |_,_,.exc n h=>.exc n (cw h).2
 |_,_,.excF n h h2 hn hs=>.excF n (cw h).2 (cw h2).2 hn (RelDs.unhide hs)
 |_,_,.fz h hs=>.fz (cw h).2 (RelDs.unhide hs)
theorem RelDs.unhide:∀{ds:List D} {vs:List V},RelDs K ι (cK H p) ds vs->RelDs K ι H ds vs
 |_,_,.nil=>.nil
 |_,_,.cons h hs=>.cons (RelD.unhide h) (RelDs.unhide hs)
end
theorem RelE.hide(hp:H p=some (.lst ws)):∀{ρ:aM} {σ:St},RelE K ι H ρ σ->RelE K ι (cK H p) ρ σ
 |_,_,.nil=>.nil
 |_,_,.cons h t=>.cons (fun d z=>let ⟨v,e1,e2⟩:=h d z;⟨v,e1,e2.hide hp⟩) (RelE.hide hp t)
theorem RelE.unhide:∀{ρ:aM} {σ:St},RelE K ι (cK H p) ρ σ->RelE K ι H ρ σ
 |_,_,.nil=>.nil
 |_,_,.cons h t=>.cons (fun d z=>let ⟨v,e1,e2⟩:=h d z;⟨v,e1,e2.unhide⟩) (RelE.unhide t)
theorem Rep.hide(hp:H p=some (.lst ws))(hn:p ∉ ι)(r:Rep K ι H S):Rep K ι (cK H p) S:=
 ⟨r.nd,r.len,fun k a xs e1 e2=>let ⟨vs,h1,h2⟩:=r.get k a xs e1 e2;⟨vs,by rw[hide_ne (fun z=>hn (by rw[<-z];exact Ke e1))];exact h1,h2.hide hp⟩,r.tab.mono fun b o h n=>by rw[hide_ne (fun z=>by subst z;rw[h]at hp;exact n ws (J8 hp))];exact h⟩
theorem Rep.unhide(r:Rep K ι (cK H p) S):Rep K ι H S:=
 ⟨r.nd,r.len,fun k a xs e1 e2=>let ⟨vs,h1,h2⟩:=r.get k a xs e1 e2;⟨vs,(cw h1).2,h2.unhide⟩,r.tab.mono fun b o h _=>(cw h).2⟩
theorem Ext.hide(e:Ext ι H ι' H'):Ext ι (cK H p) ι' (cK H' p):=
 ⟨e.ids,fun a o h n t=>by
  obtain⟨h1,h2⟩:=cw h;obtain⟨h3,h4⟩:=e.oth a o h2 n t;exact⟨by rw[hide_ne h1];exact h3,h4⟩⟩
theorem Ext.unhide(e:Ext ι H ι' (cK H' p)):Ext ι H ι' H':=
 ⟨e.ids,fun a o h n t=>by
  obtain⟨h3,h4⟩:=e.oth a o h n t;exact⟨(cw h3).2,h4⟩⟩
theorem fK{E:XD}{α:Type}{c:M α}{ws:List V}{Q:α->List Addr->aA->Hp->Prop}(h:cont K cb c ι S (cK H p) Q)(hp:H p=some (.lst ws))(hn:p ∉ ι):
  cont K E c ι S H (fun a ι' S' H'=>H' p=some (.lst ws)/\p ∉ ι'/\Q a ι' S' (cK H' p)):=by
 obtain⟨r,S',e,k⟩:=h;refine⟨r,S',e,fun ι' H' x rep=>?_⟩;obtain⟨h1,h2⟩:=x.oth p _ hp hn (by intro _ z;cases z)
 have:=k ι' (cK H' p) x.hide (rep.hide h1 h2);cases r with
 |ok a=>exact⟨h1,h2,this⟩
 |ex y=>exact this.elim
end
def iG(js:List (Option Nat))(ρ:aM):aM:=js.map fun o=>o.bind fun j=>(ρ[j]?).join
theorem RelE.blk{K:W.Frag}{ι:List Addr}{H:Hp}{ρ:aM}{σ:St}(re:RelE K ι H ρ σ):∀ js:List (Option Nat),RelE K ι H (iG js ρ) (mR js σ)
 |[]=>.nil
 |none::js=>.cons (fun d z=>by cases z) (RelE.blk re js)
 | some j::js=>.cons (fun d z=>by
   have z':(ρ[j]?).join=some d:=z;have:ρ[j]? =some (some d):=by
    cases q:ρ[j]? with
    |none=>rw[q]at z';cases z'
    |some o=>rw[q]at z';exact My some z'
   obtain⟨v,e1,e2⟩:=re.get this;refine⟨v,?_,e2⟩;show(σ[j]?).join=some v;rw[e1];rfl) (RelE.blk re js)
def df(it:Iter)(g:lM)(t:aM->M Bool)(m:TM):List D->aM->M (List D)
 |[],ρ=>do gp it;pure []
 | d::ds,ρ=>do
  gp it
  let ρ1<-g d ρ;let b<-t ρ1
  if b=true then do
   let y<-m ρ1;let ys<-df it g t m ds ρ1
   pure (y::ys)
  else df it g t m ds ρ1
def gZ(it:Iter)(g:lM)(t:aM->M Bool)(m:TM)(ρ:aM):M (List D):=if it.items.length<=lim then df it g t m it.items ρ else M.fail
def F8(X:Cx)(E:XD)(ifs:List Expr)(t:aM->M Bool):Prop:=BA X ifs (xP X.K E t)
theorem g0:F8 X E [] (fun _=>pure true):=fun pins s σ H Q I h=>B2 pins s σ H Q I (by
 obtain⟨ι,S,ρ,rep,re,c⟩:=h;exact ah c .refl rep)
theorem m9(h:SB X E c t):F8 X E [c] t:=B3 h
section
variable {X:Cx}{scope:Scope}{Nc:List Str}{js:List (Option Nat)}{elt tg iter:Expr}{ifs:List Expr}{pos:Pos}{mi:aM->M Iter}{g:lM}{t:aM->M Bool}{m:TM}
theorem cH{α β γ:Type}(c:M α)(f:α->M β)(h:β->M γ):((c>>=f)>>=h)=(c>>=fun a=>f a>>=h):=by
 funext S;show M.bnd (M.bnd c f) h S=M.bnd c (fun a=>M.bnd (f a) h) S;unfold M.bnd;cases c S with
 |none=>rfl
 |some r=>
  obtain⟨r,S'⟩:=r;cases r<;>rfl
theorem ay{α β:Type}(a:α)(f:α->M β):(pure a>>=f)=f a:=rfl
theorem wq{α β:Type}{c:Prop} [Decidable c](x y:M α)(f:α->M β):((if c then x else y)>>=f)=if c then x>>=f else y>>=f:=by split<;>rfl
theorem tH(h:tM X.K cb (fun ρ=>do let it<-mi ρ;let ys<-gZ it g t m (iG js ρ);bD ys) σ H Q):
  wo (F7 X.K cb mi) js (BC X.K cb g) (xP X.K cb t) (tM X.K cb m) σ H Q:=by
 obtain⟨ι,S,ρ,rep,re,c⟩:=h;refine⟨ι,S,ρ,rep,re,ak (ai c) fun it ι1 S1 H1 e1 rep1 c1 J hJ p hp=>?_⟩;have d1:it.items.length<=lim/\cont X.K cb (df it g t m it.items (iG js ρ)>>=fun ys=>bD ys) ι1 S1 H1 (kq X.K Q):=by
  have Z:cont X.K cb ((if it.items.length<=lim then df it g t m it.items (iG js ρ)else M.fail)>>=fun ys=>bD ys) ι1 S1 H1 (kq X.K Q):=c1;by_cases h:it.items.length<=lim
  ·rw[if_pos h]at Z;exact⟨h,Z⟩
  ·rw[if_neg h]at Z;exact(ag (ai Z)).elim
 obtain⟨hlen,c1⟩:=d1;have b5:RelE X.K ι1 H1 (iG js ρ) (mR js σ):=(re.later rep e1).blk js;refine⟨fun i n σc Hc=>∃ ι2 S2 ρ2 xs vs,n=it.items.length - i/\i<=it.items.length/\Ext ι1 H1 ι2 (cK Hc p)/\Rep X.K ι2 (cK Hc p) S2/\RelE X.K ι2 (cK Hc p) ρ2 σc/\Hc p=some (.lst vs)/\p ∉ ι2/\RelDs X.K ι2 (cK Hc p) xs vs/\xs.length<=i/\
  cont X.K cb (df it g t m (it.items.drop i) ρ2>>=fun ys=>bD (xs++ys)) ι2 S2 (cK Hc p) (kq X.K Q),⟨_,ι1,S1,iG js ρ,[],[],rfl,J4 _,?_,?_,?_,aN,rep1.free hp,.nil,J4 _,?_⟩,?_⟩
 ·rw[dI,gG hp];exact .refl
 ·rw[dI,gG hp];exact rep1
 ·rw[dI,gG hp];exact b5
 ·rw[dI,gG hp];exact c1
 rintro i n σc Hc ⟨ι2,S2,ρ2,xs,vs,hn,hi',e2,rep2,re2,hpc,hpn,rx,hlim,c2⟩;by_cases hlt:i<it.items.length
 ·have hd:it.items.drop i=it.items[i]::it.items.drop (i+1):=L6 hlt;rw[hd]at c2;have O:cont X.K cb (gp it>>=fun _=>g it.items[i] ρ2>>=fun ρ1=>t ρ1>>=fun b=>if b=true then m ρ1>>=fun y=>df it g t m (it.items.drop (i+1)) ρ1>>=fun ys=>bD (xs++y::ys)else df it g t m (it.items.drop (i+1)) ρ1>>=fun ys=>bD (xs++ys)) ι2 S2 (cK Hc p) (kq X.K Q):=by
   have:(df it g t m (it.items[i]::it.items.drop (i+1)) ρ2>>=fun ys=>bD (xs++ys))=(gp it>>=fun _=>g it.items[i] ρ2>>=fun ρ1=>t ρ1>>=fun b=>if b=true then m ρ1>>=fun y=>df it g t m (it.items.drop (i+1)) ρ1>>=fun ys=>bD (xs++y::ys)else df it g t m (it.items.drop (i+1)) ρ1>>=fun ys=>bD (xs++ys)):=by
    show((gp it>>=fun _=>g it.items[i] ρ2>>=fun ρ1=>t ρ1>>=fun b=>if b=true then m ρ1>>=fun y=>df it g t m (it.items.drop (i+1)) ρ1>>=fun ys=>pure (y::ys)else df it g t m (it.items.drop (i+1)) ρ1)>>=fun ys=>bD (xs++ys))=_;simp only[cH,wq,ay]
   rw[<-this];exact c2
  obtain⟨ok,c3⟩:=iF O rep2;obtain⟨d0,d2⟩:=hJ ι2 Hc S2 e2.unhide.n rep2.unhide ok i;obtain⟨go,yl⟩:=d0 it.items[i] (JL hlt);refine .inr ⟨go,fun σ' H'=>∃ ι3 S3 ρ3 xs3 vs3,Ext ι1 H1 ι3 (cK H' p)/\Rep X.K ι3 (cK H' p) S3/\RelE X.K ι3 (cK H' p) ρ3 σ'/\H' p=some (.lst vs3)/\p ∉ ι3/\RelDs X.K ι3 (cK H' p) xs3 vs3/\xs3.length<=i+1/\
   cont X.K cb (df it g t m (it.items.drop (i+1)) ρ3>>=fun ys=>bD (xs3++ys)) ι3 S3 (cK H' p) (kq X.K Q),?_,fun x H3 hy=>?_⟩
  ·rintro σ' H' ⟨ι3,S3,ρ3,xs3,vs3,h1,h2,h3,h4,h5,h6,h7,h8⟩;exact⟨_,by omega,ι3,S3,ρ3,xs3,vs3,rfl,hlt,h1,h2,h3,h4,h5,h6,h7,h8⟩
  ·obtain⟨e3,rep3,rd⟩:=yl x H3 hy;obtain⟨c0,_⟩:=e3.oth p _ hpc hpn (by intro _ z;cases z)
   have b2:Ext ι2 (cK Hc p) ι2 (cK H3 p):=e3.hide;have c4:=ai (fJ c3 b2);refine⟨ι2,S2,ρ2,it.items[i],rep3,re2.unhide.later rep2.unhide e3,rd,ak (fK (E:=cb) c4 c0 hpn) fun ρ4 ι4 S4 H4 e4 rep4 ⟨hp4,hn4,c5⟩ σ4 re4=>?_⟩;have b4:Rep X.K ι4 (cK H4 p) S4:=rep4.hide hp4 hn4;have b6:Ext ι2 (cK Hc p) ι4 (cK H4 p):=b2.trans e4.hide;refine⟨ι4,S4,ρ4,rep4,re4,ak (fK (E:=cb) (ai c5) hp4 hn4) fun b ι5 S5 H5 e5 rep5 ⟨hp5,hn5,c6⟩=>?_⟩;have a6:Rep X.K ι5 (cK H5 p) S5:=rep5.hide hp5 hn5;have a4:Ext ι2 (cK Hc p) ι5 (cK H5 p):=b6.trans e5.hide;have U:RelE X.K ι5 H5 ρ4 σ4:=re4.later rep4 e5;cases b with
   |false=>
    have b0:cont X.K cb (df it g t m (it.items.drop (i+1)) ρ4>>=fun ys=>bD (xs++ys)) ι5 S5 (cK H5 p) (kq X.K Q):=c6;exact⟨ι5,S5,ρ4,xs,vs,e2.trans a4,a6,U.hide hp5,hp5,hn5,rx.later rep2 a4,by omega,b0⟩
   |true=>
    have b0:cont X.K cb (m ρ4>>=fun y=>df it g t m (it.items.drop (i+1)) ρ4>>=fun ys=>bD (xs++y::ys)) ι5 S5 (cK H5 p) (kq X.K Q):=c6;refine⟨ι5,S5,ρ4,rep5,U,ak (fK (E:=cb) (ai b0) hp5 hn5) fun y ι6 S6 H6 e6 rep6 ⟨hp6,hn6,c7⟩ yv ry=>?_⟩;have b1:Ext ι2 (cK Hc p) ι6 (cK H6 p):=a4.trans e6.hide;have Y:Rep X.K ι6 (cK H6 p) S6:=rep6.hide hp6 hn6;have b3:=rx.later rep2 b1;have hl:vs.length<sizeLine:=by rw[<-b3.length];exact Nat.lt_of_le_of_lt (by omega) zG
    refine⟨vs,hp6,hl,ι6,S6,ρ4,xs++[y],vs++[yv],?_⟩;rw[dI];refine⟨e2.trans b1,Y,(U.later rep5 e6).hide hp6,aN,hn6,b3.append (.cons (ry.hide hp6) .nil),by simp;omega,by simpa using c7⟩
 ·have hd:it.items.drop i=[]:=Mq (by omega)
  rw[hd]at c2;have O:cont X.K cb (gp it>>=fun _=>bD (xs++[])) ι2 S2 (cK Hc p) (kq X.K Q):=by
   have:(df it g t m [] ρ2>>=fun ys=>bD (xs++ys))=(gp it>>=fun _=>bD (xs++[])):=by
    show((gp it>>=fun _=>pure [])>>=fun ys=>bD (xs++ys))=_;simp only[cH,ay]
   rw[<-this];exact c2
  obtain⟨ok,c3⟩:=iF O rep2;rw[Kd]at c3;refine .inl ⟨(hJ ι2 Hc S2 e2.unhide.n rep2.unhide ok i).2 (by omega),?_⟩
  have:=(bS c3 rep2 rx).2 p jT;rw[tG hpc]at this;exact this
theorem iY(c:CompScope X scope Nc js)(hc:X.calm=true)(hi:SI X cb tg iter mi)
  (Z:∀ C ex s H,SG (aX X scope Nc C ex s H) cb tg g/\F8 (aX X scope Nc C ex s H) cb ifs t/\SE (aX X scope Nc C ex s H) cb elt m)
  (hs:∀ x,foldedSetIterable iter X.env x=pure x:=by intro _;rfl):SE X cb (.ListComp elt [⟨tg,iter,ifs,0⟩] scope pos) (fun ρ=>do let it<-mi ρ;let ys<-gZ it g t m (iG js ρ);bD ys):=
 PE.imp (B4 (g:=BC X.K cb g) (tt:=xP X.K cb t) (te:=tM X.K cb m) c hc hi Z hs) fun _ _ _ q=>tH q
theorem vk(i:Nat)(hN:X.N.Nodup)(c:CompScope X scope Nc js)(hc:X.calm=true)(hi:SI X cb tg iter mi)
  (Z:∀ C ex s H,SG (aX X scope Nc C ex s H) cb tg g/\F8 (aX X scope Nc C ex s H) cb ifs t/\SE (aX X scope Nc C ex s H) cb elt m)
  (Y:X.N[i]? =some x:=by rfl) (hx:Loc X.env.scope x:=by first|exact Or.inl rfl|exact Or.inr rfl)
  (U:swapsWith (.ListComp elt [⟨tg,iter,ifs,0⟩] scope cpos) (some (.Name x pos')) pos.line X.env=pure true:=by rfl)
  (hf:X.fn x=true\/X.env.scope.names.lookup x=some .local:=by first|exact .inl rfl|exact .inr rfl|assumption)
  (hs:∀ x,foldedSetIterable iter X.env x=pure x:=by intro _;rfl):SS X cb (.Assign [.Name x pos'] (.ListComp elt [⟨tg,iter,ifs,0⟩] scope cpos) pos)
   (fun ρ=>do let d<-(do let it<-mi ρ;let ys<-gZ it g t m (iG js ρ);bD ys);pure (.nx (ρ.set i (some d)))):=by
 refine PS.imp (vi (g:=BC X.K cb g) (tt:=xP X.K cb t) (te:=tM X.K cb m) hN Y hx c hc hi Z U hf hs) fun T σ H h=>?_;obtain⟨ι,S,ρ,rep,re,c⟩:=h;refine tH ⟨ι,S,ρ,rep,re,ak (ai c) fun d ι1 S1 H1 e1 rep1 c1 v r=>?_⟩;exact ah c1 .refl rep1 _ ((re.later rep e1).set r i)
end
section
variable {P:Program}{w:World}{K:W.Frag}{mg:Str->Option Value}{base:Heap}
def outD:Out->M D
 | .nx _=>pure .non
 | .ret d=>pure d
 |_=>M.fail
def nW(N n:Nat)(m:cT):List D->M D:=fun ds=>if ds.length=n then do let o<-m (ds.map some++List.replicate (N - n) none);outD o else M.fail
end
def pQ(f:Int->Int->M D):D->D->M D
 | .int i,.int j=>f i j
 |_,_=>M.fail
theorem jU{K:W.Frag}{E:XD}{g:Int->Int->V}{f:Int->Int->D}(hg:∀ ι H i j,RelD K ι H (f i j) (g i j)):sW K E (pQ fun i j=>pure (f i j)) (By g):=by
 intro ι S H d1 d2 v1 v2 Q rep r1 r2 c;cases d1<;>cases d2<;>first
  |exact(ag c).elim
  |exact⟨_,_,r1.int_inv,r2.int_inv,ah c .refl rep _ (hg _ _ _ _)⟩
theorem kU{K:W.Frag}{E:XD}{C:Int->Int->Prop} [∀ i j,Decidable (C i j)]{g:Int->Int->V}{f:Int->Int->D}(hg:∀ ι H i j,RelD K ι H (f i j) (g i j)):sW K E (pQ fun i j=>if C i j then pure (f i j)else M.fail) (rI C g):=by
 intro ι S H d1 d2 v1 v2 Q rep r1 r2 c;cases d1<;>cases d2<;>first
  |exact(ag c).elim
  | (next i j=>
    have c':cont K E (if C i j then pure (f i j)else M.fail) ι S H (kq K Q):=c;by_cases h:C i j
    ·rw[if_pos h]at c';exact⟨_,_,r1.int_inv,r2.int_inv,h,ah c' .refl rep _ (hg _ _ _ _)⟩
    ·rw[if_neg h]at c';exact(ag c').elim)
def xT:D->D->M D:=pQ fun i j=>pure (.int (i - j))
instance:∀ i j,Decidable (uV i j):=fun i j=>inferInstanceAs (Decidable (_\/_))
instance:∀ i j,Decidable (y0 i j):=fun i j=>inferInstanceAs (Decidable (_/\_))
instance:∀ i j,Decidable (BP i j):=fun i j=>inferInstanceAs (Decidable (_/\_))
def rG:D->D->M D:=pQ fun i j=>if uV i j then pure (.int (i*j))else M.fail
def wt:D->D->M D:=pQ fun i j=>if y0 i j then pure (.int (i / j))else M.fail
def rH:D->D->M D:=pQ fun i j=>if 0<j then pure (.int (i % j))else M.fail
def zJ:D->D->M D:=pQ fun i j=>if BP i j then pure (.int (i ^ j.toNat))else M.fail
def cq:D->D->M D
 | .int i,.int j=>pure (.int (i+j))
 | .tup xs,.tup ys=>bQ (xs++ys)
 | .lst a,.lst b=>do let xs<-getL a;let ys<-getL b;bD (xs++ys)
 | .lst a,.fz ys=>do let xs<-getL a;bD (xs++ys)
 | .fz xs,.lst b=>do let ys<-getL b;bD (xs++ys)
 | .fz xs,.fz ys=>bD (xs++ys)
 |_,_=>M.fail
def EJ:D->D->M D:=pQ fun i j=>pure (.bl (decide (i<=j)))
def EK:D->D->M D:=pQ fun i j=>pure (.bl (decide (j<i)))
def IQ:D->D->M D:=pQ fun i j=>pure (.bl (decide (j<=i)))
section
variable {X:Cx}{E:XD}{a b e c:Expr}{m n l:TM}{pos:Pos}
theorem zK(ha:SE X E a m)(hb:SE X E b n):SE X E (.BinOp a .Sub b pos) (fun ρ=>do let x<-m ρ;let y<-n ρ;xT x y):=qr Eh (jU fun _ _ _ _=>.int _) ha hb
theorem nX(ha:SE X E a m)(hb:SE X E b n):SE X E (.BinOp a .Mult b pos) (fun ρ=>do let x<-m ρ;let y<-n ρ;rG x y):=qr Ei (kU fun _ _ _ _=>.int _) ha hb
theorem wu(ha:SE X E a m)(hb:SE X E b n):SE X E (.BinOp a .FloorDiv b pos) (fun ρ=>do let x<-m ρ;let y<-n ρ;wt x y):=qr BQ (kU fun _ _ _ _=>.int _) ha hb
theorem lR(ha:SE X E a m)(hb:SE X E b n):SE X E (.BinOp a .Mod b pos) (fun ρ=>do let x<-m ρ;let y<-n ρ;rH x y):=qr Ej (kU (C:=fun _ j=>0<j) fun _ _ _ _=>.int _) ha hb
theorem zM(ha:SE X E a m)(hb:SE X E b n):SE X E (.BinOp a .Pow b pos) (fun ρ=>do let x<-m ρ;let y<-n ρ;zJ x y):=qr El (kU fun _ _ _ _=>.int _) ha hb
theorem zN:iR X (binaryOp .Add) (fun x y H Q=>∃ a b ys,x= .ref a/\y= .ref b/\lH X.K H a []/\lH X.K H b ys/\Q (.ref b) H):=by
 intro pins s σ H x y v u Q I rx ry h;obtain⟨a,b,ys,rfl,rfl,ha,hb,q⟩:=h;cases rx;cases ry;obtain⟨its,r1,p1,_⟩:=I.tuple ha;obtain⟨U,r2,p2,_⟩:=I.tuple hb;cases r1;obtain⟨⟨cls,dd,data,sl⟩,ho,hc,n,hd⟩:=id p1;obtain⟨⟨a6,a4,data2,O⟩,Z,Y,n2,hd2⟩:=id p2;simp only at hc hd Y hd2;subst hc hd Y hd2;exact concat_meets ⟨_,ho,rfl⟩ ⟨_,Z,rfl⟩ Nq seq_tuple_add Mp Mh (Md _ _)
  (tuple_addW0 a b #[] U.toArray n n2 dd a4 sl O (by simp)) ⟨ho,Z,⟨.ref b,H,I,rfl,q⟩⟩
theorem Inv.lstR{X:Cx}{pins:List (Addr×Obj)}{σ:L2.St}{H:Hp}{s:Shared}{l:Addr}{xs:List V}(I:L2.Inv X pins σ H s)(hH:Rd H l (.lst xs)):xs.length<=sizeLine/\∃(its:List Value) (n:Nat),bj xs its/\xs.length=its.length/\s.heap.get? l=some {cls:=.type "list",data:=.seq its.toArray n}:=by
 obtain⟨z,its,n,r,e⟩:=hH.ok I.hok;exact⟨z,its,n,r,r.length,e⟩
def G0:R2:=fun x y H Q=>∃ l b xs zs,x= .ref l/\y= .ref b/\Rd H l (.lst xs)/\Rd H b (.lst zs)/\xs.length+zs.length<=sizeLine/\∀ p,H p=none->Q (.ref p) (upd H p (.lst (xs++zs)))
theorem B9:iR X (binaryOp .Add) G0:=by
 intro pins s σ H x y v u Q I rx ry h;obtain⟨l,b,xs,zs,rfl,rfl,hH,hB,hz,q⟩:=h;cases rx;cases ry;obtain⟨z,its,n,r,hl,e⟩:=Inv.lstR I hH;obtain⟨z2,Z,n2,r2,Y,e2⟩:=Inv.lstR I hB;refine PySem.P.add_list e e2 ?_ (by rw[JU,JU];omega)
 have ea:its.toArray++Z.toArray=(its++Z).toArray:=by simp
 rw[ea];exact⟨.ref _,_,I.lnew (t':=s.toks) (r.append r2) (by rw[JM];omega),rfl,q _ I.fresh⟩
theorem cU(ha:SE X E a m)(hb:SE X E b n):SE X E (.BinOp a .Add b pos) (fun ρ=>do let x<-m ρ;let y<-n ρ;cq x y):=by
 refine qr (Eg.or (BY.or (zN.or B9))) ?_ ha hb;intro ι S H d1 d2 v1 v2 Q rep r1 r2 c;cases d1<;>cases d2<;>first
  |exact(ag c).elim
  |exact .inl ⟨_,_,r1.int_inv,r2.int_inv,ah c .refl rep _ (.int _)⟩
  | (next xs ys=>
    obtain⟨p,vs,rfl,h1,q1⟩:=r1.tup_inv;obtain⟨q,ws,rfl,h2,q2⟩:=r2.tup_inv;obtain⟨hl,hq⟩:=gE c rep (q1.append q2);rw[JM]at hl;cases vs with
    |nil=>
     refine .inr (.inr (.inl ⟨p,q,ws,rfl,rfl,.of h1,.of h2,?_⟩));exact iV c rep h2 (q1.append q2)
    |cons v vs=>
     refine .inr (.inl ⟨p,q,v::vs,ws,rfl,rfl,.of h1,.of h2,by simp,JV hl f7,fun z=>?_,fun _=>hq⟩)
     subst z;have:=q1.append q2;rw[Kd]at this;exact iV c rep h1 this)
  | (next j k=>
    obtain⟨p,rfl,h1⟩:=r1.lst_inv;obtain⟨q,rfl,h2⟩:=r2.lst_inv;obtain⟨ds,vs,_,hv,rv,c1⟩:=bu c rep h1;obtain⟨es,ws,_,hw,Z,c2⟩:=bu c1 rep h2;obtain⟨hl,hq⟩:=bS c2 rep (rv.append Z);rw[JM]at hl;exact .inr (.inr (.inr ⟨p,q,vs,ws,rfl,rfl,.inl hv,.inl hw,JV hl f7,hq⟩)))
  | (next j ys=>
    obtain⟨p,rfl,h1⟩:=r1.lst_inv;obtain⟨q,o2,ws,rfl,h2,Z⟩:=r2.fz_inv;obtain⟨ds,vs,_,hv,rv,c1⟩:=bu c rep h1;obtain⟨hl,hq⟩:=bS c1 rep (rv.append Z);rw[JM]at hl;exact .inr (.inr (.inr ⟨p,q,vs,ws,rfl,rfl,.inl hv,.inr ⟨o2,h2⟩,JV hl f7,hq⟩)))
  | (next xs k=>
    obtain⟨p,o1,vs,rfl,h1,rv⟩:=r1.fz_inv;obtain⟨q,rfl,h2⟩:=r2.lst_inv;obtain⟨es,ws,_,hw,Z,c2⟩:=bu c rep h2;obtain⟨hl,hq⟩:=bS c2 rep (rv.append Z);rw[JM]at hl;exact .inr (.inr (.inr ⟨p,q,vs,ws,rfl,rfl,.inr ⟨o1,h1⟩,.inl hw,JV hl f7,hq⟩)))
  | (next xs ys=>
    obtain⟨p,o1,vs,rfl,h1,rv⟩:=r1.fz_inv;obtain⟨q,o2,ws,rfl,h2,Z⟩:=r2.fz_inv;obtain⟨hl,hq⟩:=bS c rep (rv.append Z);rw[JM]at hl;exact .inr (.inr (.inr ⟨p,q,vs,ws,rfl,rfl,.inr ⟨o1,h1⟩,.inr ⟨o2,h2⟩,JV hl f7,hq⟩)))
theorem zO(ha:SE X E a m)(hb:SE X E b n):SB X E (.Compare a [.Gt] [b] pos) (fun ρ=>do let z<-(do let x<-m ρ;let y<-n ρ;EK x y);kc z):=kA GH (jU fun _ _ _ _=>.bl _) ha hb
theorem G1(ha:SE X E a m)(hb:SE X E b n):SB X E (.Compare a [.GtE] [b] pos) (fun ρ=>do let z<-(do let x<-m ρ;let y<-n ρ;IQ x y);kc z):=kA GI (jU fun _ _ _ _=>.bl _) ha hb
def intsOf:List D->Option (List Int)
 |[]=>some []
 | .int i::r=>(intsOf r).map (i::·)
 |_=>none
theorem gH{K:W.Frag}{ι:List Addr}{H:Hp}:∀{ds:List D} {vs:List V} {ns:List Int},RelDs K ι H ds vs->intsOf ds=some ns->vs=ns.map V.int
 |[],vs,ns,h,e=>by cases e;rw[h.nil_inv];rfl
 | .int i::ds,vs,ns,h,e=>by
  obtain⟨v,ws,rfl,r1,r2⟩:=h.cons_inv;cases q:intsOf ds with
  |none=>simp[intsOf,q]at e
  |some ks=>
   simp[intsOf,q]at e;subst e;rw[r1.int_inv,gH r2 q];rfl
 | .non::_,_,_,_,e=>by cases e
 | .bl _::_,_,_,_,e=>by cases e
 | .str _::_,_,_,_,e=>by cases e
 | .tup _::_,_,_,_,e=>by cases e
 | .lst _::_,_,_,_,e=>by cases e
 | .ro _::_,_,_,_,e=>by cases e
 | .fz _::_,_,_,_,e=>by cases e
 | .emp::_,_,_,_,e=>by cases e
def ng:D->D->M D
 | .int i,.int j=>pure (.bl (decide (i<j)))
 | .tup xs,.tup ys=>match intsOf xs,intsOf ys with
  |some ns,some ms=>pure (.bl (HT.lexLt ns ms))
  |_,_=>M.fail
 |_,_=>M.fail
theorem vm:sW X.K E ng (fun x y H Q=>By (fun i j=>.bl (decide (i<j))) x y H Q\/GN X.K x y H Q):=by
 intro ι S H d1 d2 v1 v2 Q rep r1 r2 c;cases d1<;>cases d2<;>first
  |exact(ag c).elim
  |exact .inl ⟨_,_,r1.int_inv,r2.int_inv,ah c .refl rep _ (.bl _)⟩
  | (next xs ys=>
    obtain⟨p,vs,rfl,h1,q1⟩:=r1.tup_inv;obtain⟨q,ws,rfl,h2,q2⟩:=r2.tup_inv;dsimp only[ng]at c;split at c
    ·next ns ms e1 e2=>
     refine .inr ⟨p,q,ns,ms,rfl,rfl,.of (by rw[<-gH q1 e1];exact h1),.of (by rw[<-gH q2 e2];exact h2),ah c .refl rep _ (.bl _)⟩
    ·exact(ag c).elim)
theorem Dx(hu:X.A.units<cLine)(ha:SE X E a m)(hb:SE X E b n):SE X E (.Compare a [.Lt] [b] pos) (fun ρ=>do let x<-m ρ;let y<-n ρ;ng x y):=zF (y3.or (u7 hu)) vm ha hb
theorem qt(hu:X.A.units<cLine)(ha:SE X E a m)(hb:SE X E b n):SB X E (.Compare a [.Lt] [b] pos) (fun ρ=>do let z<-(do let x<-m ρ;let y<-n ρ;ng x y);kc z):=kA (y3.or (u7 hu)) vm ha hb
theorem tI(hf:sW X.K E f r)(hg:sW X.K E g r')
  (h:tM X.K E (fun ρ=>do let x<-m ρ;let y<-n ρ;let z<-f x y;let k<-kc z;if k=true then do let w<-l ρ;g y w else pure (.bl false)) σ H Q):uW r r' (tM X.K E m) (tM X.K E n) (tM X.K E l) σ H Q:=by
 obtain⟨ι,S,ρ,rep,re,c⟩:=h;refine⟨ι,S,ρ,rep,re,ak (ai c) fun x ι1 S1 H1 e1 rep1 c1 v1 r1=>?_⟩;refine⟨ι1,S1,ρ,rep1,re.later rep e1,ak (ai c1) fun y ι2 S2 H2 e2 rep2 c2 v2 r2=>?_⟩;refine hf ι2 S2 H2 x y v1 v2 _ rep2 (r1.later rep1 e2) r2 (ak (ai c2) fun z ι3 S3 H3 e3 rep3 c3 v3 r3=>?_);obtain⟨k,rfl,rfl,c4⟩:=m8 rep3 r3 c3;refine⟨k,rfl,?_⟩;cases k with
 |true=>
  exact⟨ι3,S3,ρ,rep3,((re.later rep e1).later rep1 e2).later rep2 e3,ak (ai c4) fun w ι4 S4 H4 e4 Z c5 v4 r4=>hg ι4 S4 H4 y w v2 v4 Q Z ((r2.later rep2 e3).later rep3 e4) r4 c5⟩
 |false=>exact ah c4 .refl rep3 _ (.bl false)
theorem zQ(h:iR X (compareOp op) r)(h':iR X (compareOp op') r')(hf:sW X.K E f r)(hg:sW X.K E g r')(ha:SE X E a m)(hb:SE X E b n)(hc:SE X E c l)
  (hm:lastMarks [op,op'] [b,c]=false:=by with_unfolding_all rfl):
  SE X E (.Compare a [op,op'] [b,c] pos) (fun ρ=>do let x<-m ρ;let y<-n ρ;let z<-f x y;let k<-kc z;if k=true then do let w<-l ρ;g y w else pure (.bl false)):=
 PE.imp (zd h h' ha hb hc hm) fun _ _ _ q=>tI hf hg q
theorem zR(h:iR X (compareOp op) r)(h':iR X (compareOp op') r')(hf:sW X.K E f r)(hg:sW X.K E g r')(ha:SE X E a m)(hb:SE X E b n)(hc:SE X E c l)
  (hm:lastMarks [op,op'] [b,c]=false:=by with_unfolding_all rfl):
  SB X E (.Compare a [op,op'] [b,c] pos) (fun ρ=>do let v<-(do let x<-m ρ;let y<-n ρ;let z<-f x y;let k<-kc z;if k=true then do let w<-l ρ;g y w else pure (.bl false));kc v):=
 PT.imp (zh h h' ha hb hc hm) fun σ H Q q=>by
  obtain⟨ι,S,ρ,rep,re,c⟩:=q;refine tI hf hg (Q:=fun x H'=>∃ k,x= .bl k/\Q k H') ⟨ι,S,ρ,rep,re,ak (ai c) fun x ι1 S1 H1 e1 rep1 c1 v1 r1=>?_⟩;obtain⟨k,rfl,rfl,c2⟩:=nU rep1 r1 c1;exact⟨k,rfl,c2⟩
def br:D->D->M D
 | .lst k,.int i=>do
  let xs<-getL k
  match iS xs i with
  |some d=>pure d
  |none=>M.fail
 | .tup xs,.int i=>match iS xs i with
  |some d=>pure d
  |none=>M.fail
 | .ro xs,.int i=>match iS xs i with
  |some d=>pure d
  |none=>M.fail
 | .fz xs,.int i=>match iS xs i with
  |some d=>pure d
  |none=>M.fail
 |_,_=>M.fail
theorem nh{K:W.Frag}{ι:List Addr}{H:Hp}{ds:List D}{vs:List V}{i:Int}{d:D}(h:RelDs K ι H ds vs)(e:iS ds i=some d):∃ v,iS vs i=some v/\RelD K ι H d v:=by
 unfold iS at e ⊢;rw[h.length]at e;cases q:u9 vs.length i with
 |none=>rw[q]at e;cases e
 |some j=>
  rw[q]at e;exact h.get' e
theorem EL:sW X.K E br (Jh X.K):=by
 intro ι S H d1 d2 v1 v2 Q rep r1 r2 c;cases d1<;>cases d2<;>first
  |exact(ag c).elim
  | (next k i=>
    obtain⟨p,rfl,h1⟩:=r1.lst_inv;obtain⟨ds,vs,_,hv,rv,c1⟩:=bu c rep h1;cases q:iS ds i with
    |none=>rw[q]at c1;exact(ag c1).elim
    |some d=>
     rw[q]at c1;obtain⟨v,e1,e2⟩:=nh rv q;exact .inl ⟨p,vs,i,v,rfl,r2.int_inv,.of hv,e1,ah c1 .refl rep _ e2⟩)
  | (next ds i=>
    obtain⟨p,vs,rfl,h1,rv⟩:=r1.tup_inv;dsimp only[br]at c;cases q:iS ds i with
    |none=>rw[q]at c;exact(ag c).elim
    |some d=>
     rw[q]at c;obtain⟨v,e1,e2⟩:=nh rv q;exact .inr (.inl ⟨p,vs,i,v,rfl,r2.int_inv,.of h1,e1,ah c .refl rep _ e2⟩))
  | (next ds i=>
    obtain⟨p,vs,rfl,h1,rv⟩:=r1.ro_inv;dsimp only[br]at c;cases q:iS ds i with
    |none=>rw[q]at c;exact(ag c).elim
    |some d=>
     rw[q]at c;obtain⟨v,e1,e2⟩:=nh rv q;exact .inl ⟨p,vs,i,v,rfl,r2.int_inv,h1.sq,e1,ah c .refl rep _ e2⟩)
  | (next ds i=>
    obtain⟨p,o,vs,rfl,h1,rv⟩:=r1.fz_inv;dsimp only[br]at c;cases q:iS ds i with
    |none=>rw[q]at c;exact(ag c).elim
    |some d=>
     rw[q]at c;obtain⟨v,e1,e2⟩:=nh rv q;exact .inl ⟨p,vs,i,v,rfl,r2.int_inv,.inl (.inr ⟨o,h1⟩),e1,ah c .refl rep _ e2⟩)
theorem aI(ha:SE X E a m)(hb:SE X E b n)(hs:rk b:=by intro _ _;rfl):SE X E (.Subscript a b pos) (fun ρ=>do let x<-m ρ;let y<-n ρ;br x y):=GV Ez EL ha hb hs
end
mutual
inductive ReadsV(H:Hp):V->PyData->Prop where
 |non:ReadsV H .non .none
 |bl (b:Bool):ReadsV H (.bl b) (.bool b)
 |int (i:Int):ReadsV H (.int i) (.int i)
 |str (x:Str):ReadsV H (.str x) (.str x)
 |lst {a:Addr} {vs:List V} {ps:List PyData}:Rd H a (.lst vs)->ReadsVs H vs ps->ReadsV H (.ref a) (.list ps)
 |tup {a:Addr} {vs:List V} {ps:List PyData}:H a=some (.tup vs)->ReadsVs H vs ps->ReadsV H (.ref a) (.tuple ps)
inductive ReadsVs(H:Hp):List V->List PyData->Prop where
 |nil:ReadsVs H [] []
 |cons {v:V} {p:PyData} {vs:List V} {ps:List PyData}:ReadsV H v p->ReadsVs H vs ps->ReadsVs H (v::vs) (p::ps)
end
mutual
theorem ReadsV.heap(ok:fP P w H h):∀{v:V} {p:PyData},ReadsV H v p->∀{u:Value},RelV v u->∃ as,Reads h u p as
 |_,_,.non,u,r=>by cases (show u=Value.none from r);exact⟨_,.none⟩
 |_,_,.bl b,u,r=>by cases (show u=Value.bool b from r);exact⟨_,.bool b⟩
 |_,_,.int i,u,r=>by obtain⟨t,rfl⟩:=(show ∃ t,u=Value.int i t from r);exact⟨_,.int i t⟩
 |_,_,.str x,u,r=>by obtain⟨t,rfl⟩:=(show ∃ t,u=Value.str x t from r);exact⟨_,.str x t⟩
 |_,_,@ReadsV.lst _ a vs ps h1 h2,u,r=>by
  cases (show u=Value.ref a from r);obtain⟨_,its,n,rv,e⟩:=(show bo P w H h a (.lst vs)from h1.ok ok);obtain⟨as,q⟩:=ReadsVs.heap ok h2 rv;exact⟨_,.list e rfl rfl (by simpa using q)⟩
 |_,_,@ReadsV.tup _ a vs ps h1 h2,u,r=>by
  cases (show u=Value.ref a from r);obtain⟨_,its,rv,o,e,c,n,d⟩:=(show bo P w H h a (.tup vs)from ok a _ h1);obtain⟨as,q⟩:=ReadsVs.heap ok h2 rv;exact⟨_,.tuple e c d (by simpa using q)⟩
theorem ReadsVs.heap(ok:fP P w H h):∀{vs:List V} {ps:List PyData},ReadsVs H vs ps->∀{us:List Value},bj vs us->∃ as,ReadsAll h us ps as
 |_,_,.nil,us,r=>by cases r;exact⟨_,.nil⟩
 | _,_,.cons h1 h2,us,r=>by
  cases r with
  |cons r1 r2=>
   obtain⟨as,q⟩:=ReadsV.heap ok h1 r1;obtain⟨bs,q'⟩:=ReadsVs.heap ok h2 r2;exact⟨_,.cons q q'⟩
end
def mapP(f:D->Option PyData):List D->Option (List PyData)
 |[]=>some []
 |d::ds=>match f d,mapP f ds with
  |some p,some ps=>some (p::ps)
  |_,_=>none
def kd(S:aA):Nat->D->Option PyData
 |_,.non=>some .none
 |_,.bl b=>some (.bool b)
 |_,.int i=>some (.int i)
 |_,.str x=>if PyData.strOk x=true then some (.str x)else none
 |n+1,.tup ds=>(mapP (kd S n) ds).map .tuple
 |n+1,.lst k=>(S[k]?).bind fun xs=>(mapP (kd S n) xs).map .list
 |n+1,.fz ds=>(mapP (kd S n) ds).map .list
 |_,_=>none
section
variable {K:W.Frag}{ι:List Addr}{S:aA}{H:Hp}
theorem kX{f:D->Option PyData}(hf:∀ d p v,f d=some p->RelD K ι H d v->ReadsV H v p/\p.canLay0=true/\p.depth<=n):
  ∀{ds:List D} {ps:List PyData} {vs:List V},mapP f ds=some ps->RelDs K ι H ds vs->ReadsVs H vs ps/\PyData.canLayAll0 ps=true/\PyData.depthAll ps<=n
 |[],ps,vs,e,r=>by
  cases e;rw[r.nil_inv];exact⟨.nil,rfl,J4 _⟩
 | d ::ds,ps,vs,e,r=>by
  obtain⟨v,ws,rfl,r1,r2⟩:=r.cons_inv;unfold mapP at e;cases q:f d with
  |none=>rw[q]at e;cases e
  | some p=>
   rw[q]at e;cases q2:mapP f ds with
   |none=>rw[q2]at e;cases e
   | some ps'=>
    rw[q2]at e;cases e;obtain⟨h1,h2,h3⟩:=hf d p v q r1;obtain⟨k1,k2,k3⟩:=kX hf q2 r2;refine⟨.cons h1 k1,?_,?_⟩
    ·show(PyData.canLay0 p && PyData.canLayAll0 ps')=true;rw[h2,k2];rfl
    ·show max p.depth (PyData.depthAll ps')<=n;exact Nat.max_le.mpr ⟨h3,k3⟩
theorem ni(rep:Rep K ι H S):∀(n:Nat) (d:D) (p:PyData) (v:V),kd S n d=some p->RelD K ι H d v->ReadsV H v p/\p.canLay0=true/\p.depth<=n:=by
 intro n
 induction n with
 | zero=>
  intro d p v e r;cases d with
  |non=>cases e;rw[r.non_inv];exact⟨.non,rfl,JK _⟩
  |bl b=>cases e;rw[r.bl_inv];exact⟨.bl b,rfl,JK _⟩
  |int i=>cases e;rw[r.int_inv];exact⟨.int i,rfl,JK _⟩
  |str x=>
   unfold kd at e;split at e
   ·next hs=>cases e;rw[r.str_inv];exact⟨.str x,hs,JK _⟩
   ·cases e
  |_=>cases e
 | succ n ih=>
  intro d p v e r;cases d with
  |non=>cases e;rw[r.non_inv];exact⟨.non,rfl,J4 _⟩
  |bl b=>cases e;rw[r.bl_inv];exact⟨.bl b,rfl,J4 _⟩
  |int i=>cases e;rw[r.int_inv];exact⟨.int i,rfl,J4 _⟩
  |str x=>
   unfold kd at e;split at e
   ·next hs=>cases e;rw[r.str_inv];exact⟨.str x,hs,J4 _⟩
   ·cases e
  | tup ds=>
   obtain⟨a,vs,rfl,h1,h2⟩:=r.tup_inv;unfold kd at e;cases q:mapP (kd S n) ds with
   |none=>rw[q]at e;cases e
   |some ps=>
    rw[q]at e;cases e;obtain⟨k1,k2,k3⟩:=kX ih q h2;exact⟨.tup h1 k1,k2,L8 k3⟩
  | lst k=>
   obtain⟨a,rfl,h1⟩:=r.lst_inv;unfold kd at e;cases z:S[k]? with
   |none=>rw[z]at e;cases e
   | some xs=>
    rw[z]at e;obtain⟨vs,h3,h2⟩:=rep.get k a xs h1 z;cases q:mapP (kd S n) xs with
    |none=>simp[q]at e
    |some ps=>
     simp[q]at e;subst e;obtain⟨k1,k2,k3⟩:=kX ih q h2;exact⟨.lst (.inl h3) k1,k2,L8 k3⟩
  |ro ds=>cases e
  | fz ds=>
   obtain⟨a,o,vs,rfl,h1,h2⟩:=r.fz_inv;unfold kd at e;cases q:mapP (kd S n) ds with
   |none=>rw[q]at e;cases e
   |some ps=>
    rw[q]at e;cases e;obtain⟨k1,k2,k3⟩:=kX ih q h2;exact⟨.lst (.inr ⟨o,h1⟩) k1,k2,L8 k3⟩
  |emp=>cases e
  |fn a c q ds vs=>cases e
  |exc x ds=>cases e
end
def F9(f:PyData->PyData->Bool):D->D->M D:=fun a b S=>match kd S 60 a,kd S 60 b with
 |some p,some q=>some (.ok (.bl (f p q)),S)
 |_,_=>none
def mS:D->D->M D:=F9 PyData.eqv
def ke:D->D->M D:=F9 fun p q=> !PyData.eqv p q
def IR(f:Bool->Bool):PyData->PyData->Option Bool
 |d,.list xs=>some (f (xs.any fun y=>PyData.eqv y d))
 |d,.tuple xs=>some (f (xs.any fun y=>PyData.eqv y d))
 |_,_=>none
def G3(f:Bool->Bool):D->D->M D:=fun a b S=>match kd S 60 a,kd S 60 b with
 |some p,some q=>match IR f p q with
  |some r=>some (.ok (.bl r),S)
  |none=>none
 |_,_=>none
def inD:D->D->M D:=G3 id
section
variable {X:Cx}{E:XD}{a b e:Expr}{m n:TM}{pos:Pos}
def EM(f:PyData->PyData->Bool):R2:=fun x y H Q=>∃ p q,(ReadsV H x p/\p.canLay0=true/\p.depth<=60)/\(ReadsV H y q/\q.canLay0=true/\q.depth<=60)/\Q (.bl (f p q)) H
theorem jV{p:PyData}(h:p.canLay0=true)(hd:p.depth<=60):SeqAt.shaped p=true:=by
 unfold SeqAt.shaped;rw[h,MK];exact JZ (by omega)
theorem zS(hu:X.A.units+64<cLine):iR X (compareOp .Eq) (EM PyData.eqv):=by
 intro pins s σ H x y v u Q I rx ry h;obtain⟨p,q,⟨p1,p2,p3⟩,⟨q1,q2,q3⟩,h⟩:=h;obtain⟨as,ra⟩:=p1.heap I.hok rx;obtain⟨bs,rb⟩:=q1.heap I.hok ry;exact eq_dataH ra rb (jV p2 p3) (jV q2 q3) hu ⟨.bl _,H,I,rfl,h⟩
theorem EN(hu:X.A.units+64<cLine):iR X (compareOp .NotEq) (EM fun p q=> !PyData.eqv p q):=by
 intro pins s σ H x y v u Q I rx ry h;obtain⟨p,q,⟨p1,p2,p3⟩,⟨q1,q2,q3⟩,h⟩:=h;obtain⟨as,ra⟩:=p1.heap I.hok rx;obtain⟨bs,rb⟩:=q1.heap I.hok ry;exact ne_dataH ra rb (jV p2 p3) (jV q2 q3) hu ⟨.bl _,H,I,rfl,h⟩
theorem rJ:sW X.K E (F9 f) (EM f):=by
 intro ι S H d1 d2 v1 v2 Q rep r1 r2 c;obtain⟨r,S',e,k⟩:=c;unfold F9 at e;split at e
 ·next p q hp hq=>
  cases e;exact⟨p,q,ni rep 60 d1 p v1 hp r1,ni rep 60 d2 q v2 hq r2,k ι H .refl rep _ (.bl _)⟩
 ·cases e
theorem tJ(hu:X.A.units+64<cLine)(ha:SE X E a m)(hb:SE X E b n):SE X E (.Compare a [.Eq] [b] pos) (fun ρ=>do let x<-m ρ;let y<-n ρ;mS x y):=zF (zS hu) rJ ha hb
theorem wx(hu:X.A.units+64<cLine)(ha:SE X E a m)(hb:SE X E b n):SB X E (.Compare a [.Eq] [b] pos) (fun ρ=>do let z<-(do let x<-m ρ;let y<-n ρ;mS x y);kc z):=kA (zS hu) rJ ha hb
theorem nY(hu:X.A.units+64<cLine)(ha:SE X E a m)(hb:SE X E b n):SB X E (.Compare a [.NotEq] [b] pos) (fun ρ=>do let z<-(do let x<-m ρ;let y<-n ρ;ke x y);kc z):=kA (EN hu) rJ ha hb
def G4(f:Bool->Bool):R2:=fun x y H Q=>∃ p q r,(ReadsV H x p/\p.canLay0=true/\p.depth<=60)/\(ReadsV H y q/\q.canLay0=true/\q.depth<=60)/\IR f p q=some r/\Q (.bl r) H
theorem Ca:sW X.K E (G3 f) (G4 f):=by
 intro ι S H d1 d2 v1 v2 Q rep r1 r2 c;obtain⟨r,S',e,k⟩:=c;unfold G3 at e;split at e
 ·next p q hp hq=>
  split at e
  ·next r hr=>
   cases e;exact⟨p,q,r,ni rep 60 d1 p v1 hp r1,ni rep 60 d2 q v2 hq r2,hr,k ι H .refl rep _ (.bl _)⟩
  ·cases e
 ·cases e
theorem vn(h:(PyData.list xs).depth<=60):PyData.depthAll xs<=60:=Mv h
theorem tK(h:(PyData.tuple xs).depth<=60):PyData.depthAll xs<=60:=Mv h
theorem EO(hu:X.A.units+64<cLine):iR X (compareOp .In) (G4 id):=by
 intro pins s σ H x y v u Q I rx ry h;obtain⟨p,q,r,⟨p1,p2,p3⟩,⟨q1,q2,q3⟩,hr,h⟩:=h;obtain⟨as,ra⟩:=p1.heap I.hok rx;obtain⟨bs,rb⟩:=q1.heap I.hok ry;cases q with
 |list xs=>
  cases hr;exact SeqAt.in_list_reads rb ra q2 p2 (by have:=vn q3;have:min (PyData.depthAll xs) p.depth<=60:=JV (Nat.min_le_left _ _) this;omega) ⟨.bl _,H,I,rfl,h⟩
 |tuple xs=>
  cases hr;exact SeqAt.in_tuple_reads rb ra q2 p2 (by have:=tK q3;have:min (PyData.depthAll xs) p.depth<=60:=JV (Nat.min_le_left _ _) this;omega) ⟨.bl _,H,I,rfl,h⟩
 |_=>cases hr
theorem Dy(hu:X.A.units+64<cLine)(ha:SE X E a m)(hb:SE X E b n)(hm:behindInMarks .In b=false:=by rfl):SB X E (.Compare a [.In] [b] pos) (fun ρ=>do let z<-(do let x<-m ρ;let y<-n ρ;inD x y);kc z):=kA (EO hu) Ca ha hb hm
end
section
variable {X:Cx}{E:XD}{a b e c:Expr}{m n l:TM}{pos p2:Pos}{es:List Expr}{ms:aM->M (List D)}
def G5(f:Bool->Bool):D->D->M D
 | .bl i,.bl j=>pure (.bl (f (i==j)))
 |d,.non=>match d with
  | .non=>pure (.bl (f true))
  |_=>pure (.bl (f false))
 |_,_=>M.fail
theorem G6:iR X (compareOp .Is) (fun x y H Q=>∃ i j,x= .bl i/\y= .bl j/\Q (.bl (i==j)) H):=by
 intro pins s σ H x y v u Q I rx ry h;obtain⟨i,j,rfl,rfl,q⟩:=h;cases rx;cases ry;exact is_bool ⟨.bl _,H,I,rfl,q⟩
theorem ER{f:Bool->Bool}:sW X.K E (G5 f) (fun x y H Q=>(∃ i j,x= .bl i/\y= .bl j/\Q (.bl (f (i==j))) H)\/(y= .non/\Q (.bl (f (decide (x= .non)))) H)):=by
 intro ι S H d1 d2 v1 v2 Q rep r1 r2 c;cases d2 with
 |non=>
  refine .inr ⟨r2.non_inv,?_⟩;cases d1 with
  |non=>rw[r1.non_inv];exact ah c .refl rep _ (.bl _)
  |bl i=>rw[r1.bl_inv];exact ah c .refl rep _ (.bl _)
  |int i=>rw[r1.int_inv];exact ah c .refl rep _ (.bl _)
  |str i=>rw[r1.str_inv];exact ah c .refl rep _ (.bl _)
  |tup ds=>obtain⟨p,vs,rfl,_,_⟩:=r1.tup_inv;exact ah c .refl rep _ (.bl _)
  |lst k=>obtain⟨p,rfl,_⟩:=r1.lst_inv;exact ah c .refl rep _ (.bl _)
  |ro ds=>obtain⟨p,vs,rfl,_,_⟩:=r1.ro_inv;exact ah c .refl rep _ (.bl _)
  |fz ds=>obtain⟨p,_,vs,rfl,_,_⟩:=r1.fz_inv;exact ah c .refl rep _ (.bl _)
  |emp=>cases r1;exact ah c .refl rep _ (.bl _)
  |fn a c q ds vs=>cases r1;exact ah c .refl rep _ (.bl _)
  |exc x ds=>cases r1<;>exact ah c .refl rep _ (.bl _)
 |bl j=>
  cases d1 with
  |bl i=>exact .inl ⟨i,j,r1.bl_inv,r2.bl_inv,ah c .refl rep _ (.bl _)⟩
  |_=>exact(ag c).elim
 |_=>cases d1<;>exact(ag c).elim
theorem G7(ha:SE X E a m)(hb:SE X E b n):SB X E (.Compare a [.Is] [b] pos) (fun ρ=>do let z<-(do let x<-m ρ;let y<-n ρ;G5 id x y);kc z):=kA (G6.or Eo) (ER (f:=id)) ha hb
def Jk:D->M Int
 | .int i=>pure i
 |_=>M.fail
def Jz(K:W.Frag)(E:XD)(m:aM->M (Option Int)):TO:=fun σ H Q=>∃ ι S ρ,Rep K ι H S/\RelE K ι H ρ σ/\cont K E (m ρ) ι S H (fun o _ _ H'=>Q o H')
def SO(X:Cx)(E:XD)(o:Option Expr)(m:aM->M (Option Int)):Prop:=PO X o (Jz X.K E m)
theorem PO.imp{X:Cx}{e:Option Expr}{t t':TO}(h:PO X e t)(k:∀ σ H Q,t' σ H Q->t σ H Q):PO X e t':=fun pins s σ H Q I hw=>h pins s σ H Q I (k σ H Q hw)
theorem wy:SO X E none (fun _=>pure none):=by
 refine PO.imp BW fun σ H Q h=>?_;obtain⟨ι,S,ρ,rep,re,c⟩:=h;exact ah c .refl rep
theorem wz(h:SE X E e m):SO X E (some e) (fun ρ=>do let x<-m ρ;let i<-Jk x;pure (some i)):=by
 refine PO.imp (BX h) fun σ H Q h=>?_;obtain⟨ι,S,ρ,rep,re,c⟩:=h;refine⟨ι,S,ρ,rep,re,ak (ai c) fun x ι1 S1 H1 e1 rep1 c1 v r=>?_⟩;cases x with
 |int i=>exact⟨i,r.int_inv,ah (ah (ai c1) .refl rep1) .refl rep1⟩
 |_=>exact(ag (ai c1)).elim
def cutD(xs:List D)(lo hi:Option Int):List D:=(xs.drop (HT.sIx xs.length 0 lo)).take (HT.sIx xs.length xs.length hi - HT.sIx xs.length 0 lo)
theorem nj{K:W.Frag}{ι:List Addr}{H:Hp}{ds:List D}{vs:List V}(lo hi:Option Int)(h:RelDs K ι H ds vs):RelDs K ι H (cutD ds lo hi) (pM vs lo hi):=by
 unfold cutD pM;rw[h.length];exact(h.drop _).take _
def zT:D->Option Int->Option Int->M D
 | .tup xs,lo,hi=>bQ (cutD xs lo hi)
 | .lst k,lo,hi=>do let xs<-getL k;bD (cutD xs lo hi)
 | .fz xs,lo,hi=>bD (cutD xs lo hi)
 |_,_,_=>M.fail
theorem Cb:Dv X (fun x lo hi H Q=>∃ a xs,x= .ref a/\lH X.K H a xs/\(HT.sIx xs.length 0 lo=0/\HT.sIx xs.length xs.length hi=xs.length)/\Q (.ref a) H):=by
 intro pins s σ H x v vl vu lo hi sl Q I rx hs pl pu h;obtain⟨a,xs,rfl,hx,hw,q⟩:=h;cases rx;obtain⟨its,r,ht,hz⟩:=I.tuple hx;have hlen:its.toArray.size=xs.length:=by rw[JU];exact r.length.symm
 refine⟨"tuple",_,PyProof.Rows.slot_tuple_getitem.lookup,ht.typeIs,?_⟩;have fin:EP X pins σ Q (.ref a) s:=⟨.ref a,H,I,rfl,q⟩;obtain⟨os,U,Z,O⟩:=id hs;have Y:s.TypeIs (.ref sl) "slice":=⟨os,U,Z⟩;unfold getItem
 try with_reducible refine Ko ?_
 first|refine JG (JJ ?_)|skip
 refine JG (wpAny_sequenceKey ht.typeIs (by decide) ?_)
 refine JG (wpAny_callSpecial?_slot (name:=Str.ofString "__getitem__") ht.typeIs K5
  (KB K5 ht.typeIs entry_tuple_getitem ?_ (args_tuple_getitem _ _)))
 show wpAny _ _ (Builtin.Tuple.tupleItemsOf (.ref a)>>=_) _ _ s;refine JG (tupleItemsOf_ ht (JG (Me Y ?_)));rw[if_pos (by decide)]
 refine JG (HT.sliceApplied_gen hs pl pu ?_);rw[hlen,hw.1,hw.2];show wpAny _ _ (if ((((0:Nat):Int))==0 && (1:Int)==1 && (xs.length - 0)==xs.length)=true then _ else _) _ _ s;rw[if_pos (by simp)]
 unfold Builtin.Tuple.tupleIsExact;refine JG (JG (Me ht.typeIs (JJ ?_)));rw[if_pos (by decide)]
 first
  |exact JG (Mc (JJ ⟨_,rfl,JJ fin⟩))
  |exact JG (Mc (JG (JJ (JJ ⟨_,rfl,JJ fin⟩))))
theorem vo{xs:List V}{lo hi:Option Int}(h:HT.sIx xs.length 0 lo=0/\HT.sIx xs.length xs.length hi=xs.length):pM xs lo hi=xs:=by
 unfold pM;rw[h.1,h.2,List.drop_zero,Nat.sub_zero,List.take_length]
theorem tL{lo hi:Option Expr}{ml mh:aM->M (Option Int)}(he:SE X E e m)(hl:SO X E lo ml)(hh:SO X E hi mh):
  SE X E (.Subscript e (.Slice lo hi none p2) pos) (fun ρ=>do let x<-m ρ;let i<-ml ρ;let j<-mh ρ;zT x i j):=by
 refine PE.imp (zv (Et.or (Cb.or B0)) he hl hh) fun σ H Q h=>?_;obtain⟨ι,S,ρ,rep,re,c⟩:=h;refine⟨ι,S,ρ,rep,re,ak (ai c) fun x ι1 S1 H1 e1 rep1 c1 v r=>?_⟩;refine⟨ι1,S1,ρ,rep1,re.later rep e1,ak (ai c1) fun i ι2 S2 H2 e2 rep2 c2=>?_⟩;refine⟨ι2,S2,ρ,rep2,(re.later rep e1).later rep1 e2,ak (ai c2) fun j ι3 S3 H3 e3 rep3 c3=>?_⟩;have r3:=(r.later rep1 e2).later rep2 e3;cases x with
 | tup ds=>
  obtain⟨p,vs,rfl,h1,h2⟩:=r3.tup_inv;by_cases hw:HT.sIx vs.length 0 i=0/\HT.sIx vs.length vs.length j=vs.length
  ·refine .inr (.inl ⟨p,vs,rfl,.of h1,hw,iV c3 rep3 h1 ?_⟩);have:=nj i j h2;rw[vo hw]at this;exact this
  ·exact .inl ⟨p,vs,rfl,.of h1,hw,(gE c3 rep3 (nj i j h2)).2⟩
 |lst k=>
  obtain⟨p,rfl,h1⟩:=r3.lst_inv;obtain⟨ds,vs,_,hv,rv,c4⟩:=bu c3 rep3 h1;exact .inr (.inr ⟨p,vs,rfl,.of hv,(bS c4 rep3 (nj i j rv)).2⟩)
 |fz ds=>
  obtain⟨p,o,vs,rfl,h1,rv⟩:=r3.fz_inv;exact .inr (.inr ⟨p,vs,rfl,.inl (.inr ⟨o,h1⟩),(bS c3 rep3 (nj i j rv)).2⟩)
 |_=>exact(ag c3).elim
end
section
variable {X:Cx}{E:XD}{a b e c o:Expr}{m n l:TM}{pos p2:Pos}{es:List Expr}{ms:aM->M (List D)}
def cn:List D->M D
 |[.lst k]=>do let xs<-getL k;pure (.int xs.length)
 |[.tup ds]=>pure (.int ds.length)
 |[.ro ds]=>pure (.int ds.length)
 |[.fz ds]=>pure (.int ds.length)
 |_=>M.fail
theorem xU:mz X.K E cn (fun xs H Q=>∃ p ys,xs=[.ref p]/\(j7 X.K H p ys\/lH X.K H p ys)/\Q (.int ys.length) H):=by
 intro ι S H ds vs Q rep r c
 match ds,r,c with
 |[.lst k],r,c=>
  obtain⟨v,ws,rfl,r1,r2⟩:=r.cons_inv;cases r2.nil_inv;obtain⟨p,rfl,h1⟩:=r1.lst_inv;obtain⟨es,us,_,hv,rv,c4⟩:=bu c rep h1;refine⟨p,us,rfl,.inl (.of hv),?_⟩;have:=ah c4 .refl rep _ (.int _);rw[rv.length]at this;exact this
 |[.tup es],r,c=>
  obtain⟨v,ws,rfl,r1,r2⟩:=r.cons_inv;cases r2.nil_inv;obtain⟨p,us,rfl,h1,rv⟩:=r1.tup_inv;refine⟨p,us,rfl,.inr (.of h1),?_⟩;have:=ah c .refl rep _ (.int _);rw[rv.length]at this;exact this
 |[.ro es],r,c=>
  obtain⟨v,ws,rfl,r1,r2⟩:=r.cons_inv;cases r2.nil_inv;obtain⟨p,us,rfl,h1,rv⟩:=r1.ro_inv;refine⟨p,us,rfl,.inl h1.sq,?_⟩;have:=ah c .refl rep _ (.int _);rw[rv.length]at this;exact this
 |[.fz es],r,c=>
  obtain⟨v,ws,rfl,r1,r2⟩:=r.cons_inv;cases r2.nil_inv;obtain⟨p,o,us,rfl,h1,rv⟩:=r1.fz_inv;refine⟨p,us,rfl,.inl (.inl (.inr ⟨o,h1⟩)),?_⟩;have:=ah c .refl rep _ (.int _);rw[rv.length]at this;exact this
 |[],r,c=>exact(ag c).elim
 |[.non],r,c=>exact(ag c).elim
 |[.bl _],r,c=>exact(ag c).elim
 |[.int _],r,c=>exact(ag c).elim
 |[.str _],r,c=>exact(ag c).elim
 |[.emp],r,c=>exact(ag c).elim
 |d::d2::r',r,c=>cases d<;>exact(ag c).elim
theorem cV(hm:X.mg "len"=none)(ha:SE X E e m)(hg:Gl X "len":=by rfl)(hs:starEach [e] X.env=[(false,eval e X.env)]:=by rfl):SE X E (.Call (.Name "len" p) [e] [] pos) (fun ρ=>do let ds<-(do let x<-m ρ;let xs<-pure [];pure (x::xs));cn ds):=
 ju rm xU hg hm PySem.boot_len (af ha aj hs) (by decide) (by decide) hs rfl
def wA(f:Int->Int->Int):List D->M D
 |[.int i,.int j]=>pure (.int (f i j))
 |_=>M.fail
theorem nZ{f:Int->Int->Int}:mz X.K E (wA f) (fun xs H Q=>∃ i j,xs=[.int i,.int j]/\Q (.int (f i j)) H):=by
 intro ι S H ds vs Q rep r c;unfold wA at c;split at c
 ·next i j=>
  obtain⟨v,ws,rfl,r1,r2⟩:=r.cons_inv;obtain⟨v',Z,rfl,r3,r4⟩:=r2.cons_inv;cases r4.nil_inv;rw[r1.int_inv,r3.int_inv];exact⟨i,j,rfl,ah c .refl rep _ (.int _)⟩
 ·exact(ag c).elim
def maxD:List D->M D:=wA fun i j=>if j>i then j else i
def minD:List D->M D:=wA fun i j=>if j<i then j else i
theorem rK(hc:X.calm=true)(hm:X.mg "max"=none)(ha:SA X E [a,b] ms)(hg:Gl X "max":=by rfl)(hs:starEach [a,b] X.env=[(false,eval a X.env),(false,eval b X.env)]:=by rfl)(Z:starEach [b] X.env=[(false,eval b X.env)]:=by rfl):
  SE X E (.Call (.Name "max" p) [a,b] [] pos) (fun ρ=>do let ds<-ms ρ;maxD ds):=
 ju (xE hc) nZ hg hm (by decide+kernel) ha (by decide) (by decide) (by rw[hs,Z]) (by rw[Z];rfl)
theorem rL(hc:X.calm=true)(hm:X.mg "min"=none)(ha:SA X E [a,b] ms)(hg:Gl X "min":=by rfl)(hs:starEach [a,b] X.env=[(false,eval a X.env),(false,eval b X.env)]:=by rfl)(Z:starEach [b] X.env=[(false,eval b X.env)]:=by rfl):
  SE X E (.Call (.Name "min" p) [a,b] [] pos) (fun ρ=>do let ds<-ms ρ;minD ds):=
 ju (xF hc) nZ hg hm (by decide+kernel) ha (by decide) (by decide) (by rw[hs,Z]) (by rw[Z];rfl)
def dv:List D->M D
 |[.lst k]=>do let xs<-getL k;bQ xs
 |[.tup ds]=>bQ ds
 |[.fz ds]=>bQ ds
 |_=>M.fail
theorem tO:mz X.K E dv (fun xs H Q=>∃ p ys,xs=[.ref p]/\((j7 X.K H p ys/\∀ l,H l=none->Q (.ref l) (upd H l (.tup ys)))\/(lH X.K H p ys/\Q (.ref p) H))):=by
 intro ι S H ds vs Q rep r c;unfold dv at c;split at c
 ·next k=>
  obtain⟨v,ws,rfl,r1,r2⟩:=r.cons_inv;cases r2.nil_inv;obtain⟨p,rfl,h1⟩:=r1.lst_inv;obtain⟨es,us,_,hv,rv,c4⟩:=bu c rep h1;exact⟨p,us,rfl,.inl ⟨.of hv,(gE c4 rep rv).2⟩⟩
 ·next es=>
  obtain⟨v,ws,rfl,r1,r2⟩:=r.cons_inv;cases r2.nil_inv;obtain⟨p,us,rfl,h1,rv⟩:=r1.tup_inv;exact⟨p,us,rfl,.inr ⟨.of h1,iV c rep h1 rv⟩⟩
 ·next es=>
  obtain⟨v,ws,rfl,r1,r2⟩:=r.cons_inv;cases r2.nil_inv;obtain⟨p,o,us,rfl,h1,rv⟩:=r1.fz_inv;exact⟨p,us,rfl,.inl ⟨.inl (.inr ⟨o,h1⟩),(gE c rep rv).2⟩⟩
 ·exact(ag c).elim
theorem e9(hm:X.mg "tuple"=none)(ha:SE X E e m)(hg:Gl X "tuple":=by rfl)(hs:starEach [e] X.env=[(false,eval e X.env)]:=by rfl):SE X E (.Call (.Name "tuple" p) [e] [] pos) (fun ρ=>do let ds<-(do let x<-m ρ;let xs<-pure [];pure (x::xs));dv ds):=
 xR pO tO hg hm (by decide+kernel) (af ha aj hs) (by decide) (by decide) hs rfl
def Cc(H:Hp):V->Option String
 | .non=>some "NoneType"
 | .bl _=>some "bool"
 | .int _=>some "int"
 | .str _=>some "str"
 | .ref a=>match H a with
  |some (.lst _)=>some "list"
  |some (.frz _ (.lst _))=>some "list"
  |some (.tup _)=>some "tuple"
  |some (.dK _)=>some "dict"
  |_=>none
 |_=>none
theorem zU{K:W.Frag}{H:Hp}{v:V}{T:String}(h:Cc H v=some T):TyOf K H v (.type T):=by
 cases v with
 |non=>cases h;exact .non
 |bl b=>cases h;exact .bl b
 |int i=>cases h;exact .int i
 |str x=>cases h;exact .str x
 |ref a=>
  simp only[Cc]at h;split at h
  ·next q=>cases h;exact .lst q
  ·next q=>cases h;exact .frz q
  ·next q=>cases h;exact .tup q
  ·next q=>cases h;exact .dK q
  ·cases h
 |_=>cases h
def zV:D->String
 | .non=>"NoneType"
 | .bl _=>"bool"
 | .int _=>"int"
 | .str _=>"str"
 | .tup _=>"tuple"
 | .lst _=>"list"
 | .ro _=>"list"
 | .fz _=>"list"
 | .emp=>"dict"
 | .fn _ _ _ _ _=>"NoneType"
 | .exc _ _=>"NoneType"
def ES:D->Bool
 | .ro _=>false
 | .fn _ _ _ _ _=>false
 | .exc _ _=>false
 |_=>true
theorem zW{K:W.Frag}{ι:List Addr}{S:aA}{H:Hp}{d:D}{v:V}(rep:Rep K ι H S)(r:RelD K ι H d v)(hd:ES d=true):Cc H v=some (zV d):=by
 cases r with
 |non=>rfl
 |bl=>rfl
 |int=>rfl
 |str=>rfl
 |tup h _=>simp[Cc,h,zV]
 |lst h=>
  obtain⟨vs,e⟩:=rep.isL (Ke h);simp[Cc,e,zV]
 |ro h _=>cases hd
 |fz h _=>simp[Cc,h,zV]
 |emp h=>simp[Cc,h,zV]
 |fn=>cases hd
 |exc=>cases hd
 |excF=>cases hd
def zX(f:String->Bool):D->M D
 | .ro _=>M.fail
 | .fn _ _ _ _ _=>M.fail
 | .exc _ _=>M.fail
 |d=>pure (.bl (f (zV d)))
theorem tP{K:W.Frag}{E:XD}{ι:List Addr}{S:aA}{H:Hp}{f:String->Bool}{d:D}{Q:D->List Addr->aA->Hp->Prop}(c:cont K E (zX f d) ι S H Q):ES d=true/\cont K E (pure (.bl (f (zV d)))) ι S H Q:=by
 cases d with
 |ro ds=>exact(ag c).elim
 |fn a c' q ds vs=>exact(ag c).elim
 |exc x ds=>exact(ag c).elim
 |_=>exact⟨rfl,c⟩
def gT(t T:String):Bool:=t==T||(t=="bool" && T=="int")
theorem rM(K:W.Frag)(t:String)(ht:t∈["NoneType","bool","int","str","tuple","list","dict"])(T:String)(hT:T∈["bool","int","str","tuple","list"]):W.kitOne K (.type t) (.type T)=some (gT t T):=by
 simp only[List.mem_cons,List.not_mem_nil,or_false]at ht hT;rcases ht with rfl|rfl|rfl|rfl|rfl|rfl|rfl<;>rcases hT with rfl|rfl|rfl|rfl|rfl<;>rfl
theorem wB(d:D):zV d∈["NoneType","bool","int","str","tuple","list","dict"]:=by cases d<;>simp[zV]
theorem zY:dH X (.builtin "isinstance") (fun xs H Q=>∃ x t T,xs=[x,.ty T]/\Cc H x=some t/\t∈["NoneType","bool","int","str","tuple","list","dict"]/\T∈["bool","int","str","tuple","list"]/\Q (.bl (gT t T)) H):=by
 intro pins s σ H xs us Q I r h;obtain⟨x,t,T,rfl,h1,h2,h3,q⟩:=h;obtain⟨u,w',rfl,ru,Z⟩:=vals2 r;cases (show w'=Value.type T from Z);exact xI I ru (zU h1) (rM X.K t h2 T h3) fun tk=>⟨.bl _,H,I.tok tk,rfl,q⟩
theorem ig{p q:Pos}{T:Str}{Ts:String}(hm:X.mg "isinstance"=none)(O:X.mg T=none)(he:SE X E e m)(hv:bootBuiltins T=some (.type Ts):=by decide+kernel)(U:Ts∈["bool","int","str","tuple","list"]:=by decide)(hg:Gl X "isinstance":=by rfl)(Y:Gl X T:=by rfl)
  (hn:T≠"__name__":=by decide) (hd:(T==("__debug__":Str))=false:=by decide)
  (hs:starEach [e,.Name T q] X.env=[(false,eval e X.env),(false,eval (.Name T q) X.env)]:=by rfl) (Z:starEach [.Name T q] X.env=[(false,eval (.Name T q) X.env)]:=by rfl):
  SE X E (.Call (.Name "isinstance" p) [e,.Name T q] [] pos) (fun ρ=>do let x<-m ρ;zX (fun t=>gT t Ts) x):=by
 refine PE.imp (jo zY hg hm (by decide+kernel) (eJ he (eJ (m7 Y O hv (v:=.ty Ts) rfl hn hd) jm Z) (by rw[hs,Z])) (by decide) (by decide) (by rw[hs,Z]) (by rw[Z];rfl)) fun σ H Q h=>?_
 obtain⟨ι,S,ρ,rep,re,c⟩:=h;refine⟨ι,S,ρ,rep,re,ak (ai c) fun x ι1 S1 H1 e1 rep1 c1 v r=>?_⟩;obtain⟨hd,c1⟩:=tP c1;exact⟨v,zV x,Ts,rfl,zW rep1 r hd,wB x,U,ah c1 .refl rep1 _ (.bl _)⟩
theorem xV:dH X (.builtin "isinstance") (fun xs H Q=>∃ x t p T U,xs=[x,.ref p]/\H p=some (.tup [.ty T,.ty U])/\Cc H x=some t/\t∈["NoneType","bool","int","str","tuple","list","dict"]/\T∈["bool","int","str","tuple","list"]/\U∈["bool","int","str","tuple","list"]/\
  Q (.bl (gT t T||gT t U)) H):=by
 intro pins s σ H xs us Q I r h;obtain⟨x,t,p,T,U,rfl,hp,h1,h2,h3,h4,q⟩:=h;obtain⟨u,w',rfl,ru,Z⟩:=vals2 r;cases (show w'=Value.ref p from Z);obtain⟨_,its,rv,⟨cls,dd,data,sl⟩,ho,hc,n,hd⟩:=(show bo X.prog X.w H s.heap p (.tup [.ty T,.ty U])from I.hok p _ hp);simp only at hc hd;subst hc hd;obtain⟨z1,z2,rfl,y1,y2⟩:=vals2 rv;cases (show z1=Value.type T from y1);cases (show z2=Value.type U from y2);have e:W.kitAny X.K (.type t) [.type T,.type U]=some (gT t T||gT t U):=by
  unfold W.kitAny W.kitAny W.kitAny;rw[rM X.K t h2 T h3,rM X.K t h2 U h4];cases gT t T<;>cases gT t U<;>rfl
 have fin:∀ tk,EP X pins σ Q (.bool (gT t T||gT t U)) {s with toks:=tk}:=fun tk=>⟨.bl _,H,I.tok tk,rfl,q⟩;have ty:=zU (K:=X.K) h1;generalize hT:Value.type t=tv at ty e;cases ty with
 |non=>cases (show u=Value.none from ru);exact K2 M5 I.kIn True.intro ho e (fun z=>nomatch z) fin
 |bl y=>cases (show u=Value.bool y from ru);exact K2 W.kitx_bool I.kIn True.intro ho e (fun z=>nomatch z) fin
 |int i=>obtain⟨t,q⟩:=(show ∃ t,u=Value.int i t from ru);cases q;exact K2 W.kitx_int I.kIn True.intro ho e (fun z=>nomatch z) fin
 |str y=>obtain⟨t,q⟩:=(show ∃ t,u=Value.str y t from ru);cases q;exact K2 W.kitx_str I.kIn True.intro ho e (fun z=>nomatch z) fin
 |flt y=>obtain⟨t,q⟩:=(show ∃ t,u=Value.float y t from ru);cases q;exact K2 W.kitx_float I.kIn True.intro ho e (fun z=>nomatch z) fin
 | @lst a xs ea=>
  cases (show u=Value.ref a from ru);obtain⟨_,_,n,_,h1⟩:=(show bo X.prog X.w H s.heap a (.lst xs)from I.hok a _ ea);exact K2 Ms I.kIn ⟨_,h1,rfl⟩ ho e (fun z=>nomatch z) fin
 | @frz a ob xs ea=>
  cases (show u=Value.ref a from ru);obtain⟨_,_,_,n,_,h1⟩:=(show bo X.prog X.w H s.heap a (.frz ob (.lst xs))from I.hok a _ ea);exact K2 Ms I.kIn ⟨_,h1,rfl⟩ ho e (fun z=>nomatch z) fin
 | @tup a xs ea=>
  cases (show u=Value.ref a from ru);obtain⟨_,_,_,o,h1,h2,_⟩:=(show bo X.prog X.w H s.heap a (.tup xs)from I.hok a _ ea);exact K2 W.kitx_tuple I.kIn ⟨o,h1,h2⟩ ho e (fun z=>nomatch z) fin
 | @dK a kvs ea=>
  cases (show u=Value.ref a from ru);obtain⟨_,_,vs,_,o,es,ep,h1,h2,_⟩:=(show bo X.prog X.w H s.heap a (.dK kvs)from I.hok a _ ea);exact K2 Mt I.kIn ⟨o,h1,h2.1⟩ ho e (fun z=>nomatch z) fin
 | @dT a kvs ea=>
  cases (show u=Value.ref a from ru);obtain⟨_,_,xs,_,o,es,ep,h1,h2,_⟩:=(show bo X.prog X.w H s.heap a (.dT kvs)from I.hok a _ ea);exact K2 Mt I.kIn ⟨o,h1,h2.1⟩ ho e (fun z=>nomatch z) fin
 |ins=>cases hT
theorem Cd{p q q2 q3:Pos}{x1}{T U:Str}{Ts Us:String}(hm:X.mg "isinstance"=none)(b3:X.mg T=none)(a4:X.mg U=none)(he:SE X E e m)(hv:bootBuiltins T=some (.type Ts):=by decide+kernel)(Y:bootBuiltins U=some (.type Us):=by decide+kernel)
  (b2:Ts∈["bool","int","str","tuple","list"]:=by decide) (b1:Us∈["bool","int","str","tuple","list"]:=by decide) (hg:Gl X "isinstance":=by rfl) (O:Gl X T:=by rfl) (a6:Gl X U:=by rfl)
  (hn:T≠"__name__":=by decide) (hd:(T==("__debug__":Str))=false:=by decide) (b0:U≠"__name__":=by decide) (b4:(U==("__debug__":Str))=false:=by decide)
  (hs:starEach [e,.Tuple [.Name T q,.Name U q2] x1 q3] X.env=[(false,eval e X.env),(false,eval (.Tuple [.Name T q,.Name U q2] x1 q3) X.env)]:=by rfl) (Z:starEach [.Tuple [.Name T q,.Name U q2] x1 q3] X.env=[(false,eval (.Tuple [.Name T q,.Name U q2] x1 q3) X.env)]:=by rfl):
  SE X E (.Call (.Name "isinstance" p) [e,.Tuple [.Name T q,.Name U q2] x1 q3] [] pos) (fun ρ=>do let x<-m ρ;zX (fun t=>gT t Ts||gT t Us) x):=by
 refine PE.imp (jo xV hg hm (by decide+kernel) (eJ he (eJ (zj (eJ (m7 O b3 hv (v:=.ty Ts) rfl hn hd) (eJ (m7 a6 a4 Y (v:=.ty Us) rfl b0 b4) jm rfl) rfl)) jm Z) (by rw[hs,Z])) (by decide) (by decide) (by rw[hs,Z]) (by rw[Z];rfl)) fun σ H Q h=>?_
 obtain⟨ι,S,ρ,rep,re,c⟩:=h;refine⟨ι,S,ρ,rep,re,ak (ai c) fun x ι1 S1 H1 e1 rep1 c1 v r=>?_⟩;obtain⟨hd,c1⟩:=tP c1;refine⟨by show 2<=sizeLine;decide,fun p hp=>?_⟩
 have rep2:=eY (o:=.tup [.ty Ts,.ty Us]) rep1 hp;have e2:Ext ι1 H1 ι1 (upd H1 p (.tup [.ty Ts,.ty Us])):=dQ hp;exact⟨v,zV x,p,Ts,Us,rfl,aN,zW rep2 (r.later rep1 e2) hd,wB x,b2,b1,ah c1 e2 rep2 _ (.bl _)⟩
end
section
variable {X:Cx}{E:XD}{a b e c o tg:Expr}{m n l:TM}{pos p2:Pos}{es:List Expr}{ms:aM->M (List D)}
theorem range_all{bs:List Bool}:(List.range bs.length).all (fun i=>bs.getD i false)=bs.all id:=by
 induction bs with
 |nil=>rfl
 |cons b bs ih=>
  rw[JY,List.range_succ_eq_map,List.all_cons,MX];simp only[List.getD_cons_zero,List.all_cons,id];congr 1
theorem xW(hc:X.calm=true):dH X (.builtin "all") (fun xs H Q=>∃(p:Addr) (bs:List Bool),xs=[.ref p]/\j7 X.K H p (bs.map V.bl)/\Q (.bl (bs.all id)) H):=by
 intro pins s σ H xs us Q I r h;obtain⟨p,bs,rfl,hp,q⟩:=h;obtain⟨u,rfl,rx⟩:=vals1 r;cases (show u=Value.ref p from rx);obtain⟨its,rv,pl,hz⟩:=I.list hp;have hl:=pl.isList;refine call_all_walk (M4 hl ?_);have U:p<s.heap.objs.size:=by obtain⟨o,ho,_⟩:=hl;exact JO ho
 have hlen:=rv.length;refine⟨s.heap.objs.size,_,_,_,_,_,fun i=>bs.getD i false,rfl,Walks.list (A:=X.A.in1) (by show X.A.handled=none;exact I.ok.hd hc) s.heap.objs.size p (JT U) its.toArray,⟨⟨_,JP _ rfl,rfl,rfl⟩,hl.push _⟩,?_,fun h' tk kp=>?_⟩
 ·intro i v s' Q' E' hP hQ;have Z:its[i]? =some v:=by simpa using hP
  have hi:i<its.length:=(JN.mp Z).1;have Y:i<bs.length:=by rw[JI]at hlen;omega
  have:(bs.map V.bl)[i]? =some (.bl bs[i]):=by rw[J6,JL Y];rfl
  obtain⟨u,hu,ru⟩:=rv.get this;rw[Z]at hu;cases hu;cases (show v=Value.bool bs[i]from ru);have:bs.getD i false=bs[i]:=by simp[List.getD,Y]
  dsimp only at hQ;rw[this]at hQ;exact KW hQ
 ·have e1:its.toArray.size=bs.length:=by rw[JU, <-hlen,JI]
  rw[e1,range_all];refine⟨.bl _,H,I.kept (fun b o e=>kp b o ?_ (JH _ e)),rfl,q⟩;have:b≠s.heap.objs.size:=JT (JO e);simpa using this
def boolsOf:List D->Option (List Bool)
 |[]=>some []
 | .bl i::r=>(boolsOf r).map (i::·)
 |_=>none
theorem jx{K:W.Frag}{ι:List Addr}{H:Hp}:∀{ds:List D} {vs:List V} {ns:List Bool},RelDs K ι H ds vs->boolsOf ds=some ns->vs=ns.map V.bl
 |[],vs,ns,h,e=>by cases e;rw[h.nil_inv];rfl
 | .bl i::ds,vs,ns,h,e=>by
  obtain⟨v,ws,rfl,r1,r2⟩:=h.cons_inv;cases q:boolsOf ds with
  |none=>simp[boolsOf,q]at e
  |some ks=>
   simp[boolsOf,q]at e;subst e;rw[r1.bl_inv,jx r2 q];rfl
 | .non::_,_,_,_,e=>by cases e
 | .int _::_,_,_,_,e=>by cases e
 | .str _::_,_,_,_,e=>by cases e
 | .tup _::_,_,_,_,e=>by cases e
 | .lst _::_,_,_,_,e=>by cases e
 | .ro _::_,_,_,_,e=>by cases e
 | .fz _::_,_,_,_,e=>by cases e
 | .emp::_,_,_,_,e=>by cases e
def tR:List D->M D
 |[.lst k]=>do
  let xs<-getL k
  match boolsOf xs with
  |some bs=>pure (.bl (bs.all id))
  |none=>M.fail
 |[.fz xs]=>match boolsOf xs with
  |some bs=>pure (.bl (bs.all id))
  |none=>M.fail
 |_=>M.fail
theorem xX:mz X.K E tR (fun xs H Q=>∃(p:Addr) (bs:List Bool),xs=[.ref p]/\j7 X.K H p (bs.map V.bl)/\Q (.bl (bs.all id)) H):=by
 intro ι S H ds vs Q rep r c;unfold tR at c;split at c
 ·next k=>
  obtain⟨v,ws,rfl,r1,r2⟩:=r.cons_inv;cases r2.nil_inv;obtain⟨p,rfl,h1⟩:=r1.lst_inv;obtain⟨es,us,_,hv,rv,c4⟩:=bu c rep h1;cases q:boolsOf es with
  |none=>rw[q]at c4;exact(ag c4).elim
  |some bs=>
   rw[q]at c4;refine⟨p,bs,rfl,.of ?_,ah c4 .refl rep _ (.bl _)⟩;rw[<-jx rv q];exact hv
 ·next es=>
  obtain⟨v,ws,rfl,r1,r2⟩:=r.cons_inv;cases r2.nil_inv;obtain⟨p,o,us,rfl,h1,rv⟩:=r1.fz_inv;cases q:boolsOf es with
  |none=>rw[q]at c;exact(ag c).elim
  |some bs=>
   rw[q]at c;refine⟨p,bs,rfl,.inl (.inr ⟨o,?_⟩),ah c .refl rep _ (.bl _)⟩;rw[<-jx rv q];exact h1
 ·exact(ag c).elim
theorem vp(hc:X.calm=true)(hm:X.mg "all"=none)(ha:SE X E e m)(hg:Gl X "all":=by rfl)(hs:starEach [e] X.env=[(false,eval e X.env)]:=by rfl):SE X E (.Call (.Name "all" p) [e] [] pos) (fun ρ=>do let ds<-(do let x<-m ρ;let xs<-pure [];pure (x::xs));tR ds):=
 ju (xW hc) xX hg hm (by decide+kernel) (af ha aj hs) (by decide) (by decide) hs rfl
def dR:D->List D->M D
 | .lst k,[d]=>do let xs<-getL k;lN k (xs++[d])
 |_,_=>M.fail
def jW:D->List D->M D
 | .lst k,[.lst j]=>do let xs<-getL k;let ys<-getL j;lN k (xs++ys)
 | .lst k,[.fz ys]=>do let xs<-getL k;lN k (xs++ys)
 |_,_=>M.fail
def lS:D->List D->M D
 | .lst k,[.int i]=>do
  let xs<-getL k
  if 0<=i/\i<xs.length then
   match xs[i.toNat]? with
   |some y=>do let _<-lN k (xs.eraseIdx i.toNat);pure y
   |none=>M.fail
  else M.fail
 |_,_=>M.fail
theorem zZ{K:W.Frag}{H:Hp}{p:Addr}{xs:List V}(h:H p=some (.lst xs)):IJ K "list" (.ref p) H:=.inl ⟨rfl,xs,.of h⟩
def Ga:D->M Unit
 | .lst _=>pure ()
 |_=>M.fail
theorem rN{name:Str}{id:String}{f:D->List D->M D}{r:V->List V->Hp->VK->Prop}{apos:Pos}(slot:Slot "list" name id)(a4:typeOf (.builtin id)=pure (.type "method_descriptor"))(hm:IH X id r)
  (hf:HK X.K E f r) (ho:SE X E o m) (ha:SA X E (e::es) ms)
  (Y:attributeBase o name X.env (eval o X.env)=eval o X.env:=by rfl)
  (O:((backTo pos (starEach (e::es) X.env)).all (fun x=> !x.1) && (backToKw pos (keywordEach [] X.env)).all (fun x=>x.1.isSome)
   && decide ((e::es).length+([]:List Keyword).length+(if ([]:List Keyword).isEmpty then 0 else 1)<30))=true:=by rfl)
  (U:(apos.endLine==pos.line)=true:=by rfl) (hs:starEach (e::es) X.env=(false,eval e X.env)::starEach es X.env:=by rfl) (Z:(backTo pos (starEach es X.env)).any (·.1)=false:=by rfl):
  SE X E (.Call (.Attribute o name apos) (e::es) [] pos) (fun ρ=>do let x<-m ρ;Ga x;let ds<-ms ρ;f x ds):=by
 refine PE.imp (GU PySem.F.plainAttrs_list slot a4 hm ho ha Y O U hs Z) fun σ H Q h=>?_;obtain⟨ι,S,ρ,rep,re,c⟩:=h;refine⟨ι,S,ρ,rep,re,ak (ai c) fun x ι1 S1 H1 e1 rep1 c1 v r1=>?_⟩;cases x with
 |lst k=>
  obtain⟨p,rfl,h1⟩:=r1.lst_inv;obtain⟨vs,hv⟩:=rep1.isL (Ke h1);have c2:=ah (ai c1) .refl rep1;exact⟨zZ hv,ι1,S1,ρ,rep1,re.later rep e1,ak (ai c2) fun ds ι2 S2 H2 e2 rep2 c3 vs r2=>hf ι2 S2 H2 (.lst k) ds (.ref p) vs Q rep2 (r1.later rep1 e2) r2 c3⟩
 |_=>exact(ag (ai c1)).elim
theorem vt:HK X.K E dR wj:=by
 intro ι S H d ds v vs Q rep r rs c;unfold dR at c;split at c
 ·next k d=>
  obtain⟨p,rfl,h1⟩:=r.lst_inv;obtain⟨w,ws,rfl,r1,r2⟩:=rs.cons_inv;cases r2.nil_inv;obtain⟨es,us,_,hv,rv,c4⟩:=bu c rep h1;obtain⟨hl,hq⟩:=iE c4 rep h1 (rv.append (.cons r1 .nil));rw[JM]at hl;exact⟨p,us,w,rfl,rfl,hv,JW (by simp at hl;omega) f7,hq _ .non⟩
 ·exact(ag c).elim
def tS:V->List V->Hp->VK->Prop:=fun x vs H Q=>∃ l b xs zs,x= .ref l/\vs=[.ref b]/\H l=some (.lst xs)/\Rd H b (.lst zs)/\xs.length+zs.length<=sizeLine/\Q .non (upd H l (.lst (xs++zs)))
theorem vv:IH X "list.extend" tS:=by
 intro pins s σ H x vs v us Q I rx rv h;obtain⟨l,b,xs,zs,rfl,rfl,hH,hB,hz,q⟩:=h;cases rx;obtain⟨u,rfl,ru⟩:=rv.one;cases ru;obtain⟨z,its,n,r,hl,e⟩:=I.lstM hH;obtain⟨z2,Z,n2,r2,O,e2⟩:=Inv.lstR I hB;have U:its.toArray.size+Z.toArray.size<=sizeLine:=by rw[JU,JU];omega
 have Y:¬ (!its.toArray.isEmpty && Builtin.List.listTooLong (its.toArray.size+Z.toArray.size))=true:=by
  rw[zw U,ND];exact La
 refine call_meets F.slot_list_extend ⟨_,e,rfl⟩ F.entry_list_extend (F.args_list_extend_2 _ _)
  (AutoSeq1.list_extend_list_list_0 l its.toArray n b Z.toArray n2 Y (by rw[JU];omega) (by omega)) ⟨e,e2,?_⟩
 refine⟨.non,_,I.lset (its':=its++Z) hH e (by simp) (r.append r2) ?_,rfl,q⟩
 rw[JM];omega
theorem vw:HK X.K E jW tS:=by
 intro ι S H d ds v vs Q rep r rs c;unfold jW at c;split at c
 ·next k j=>
  obtain⟨p,rfl,h1⟩:=r.lst_inv;obtain⟨w,ws,rfl,r1,r2⟩:=rs.cons_inv;cases r2.nil_inv;obtain⟨q,rfl,h2⟩:=r1.lst_inv;obtain⟨es,us,_,hv,rv,c4⟩:=bu c rep h1;obtain⟨fs,ys,_,hy,ry,c5⟩:=bu c4 rep h2;obtain⟨hl,hq⟩:=iE c5 rep h1 (rv.append ry);rw[JM]at hl;exact⟨p,q,us,ys,rfl,rfl,hv,.inl hy,JV hl f7,hq _ .non⟩
 ·next k fs=>
  obtain⟨p,rfl,h1⟩:=r.lst_inv;obtain⟨w,ws,rfl,r1,r2⟩:=rs.cons_inv;cases r2.nil_inv;obtain⟨q,o,ys,rfl,h2,ry⟩:=r1.fz_inv;obtain⟨es,us,_,hv,rv,c4⟩:=bu c rep h1;obtain⟨hl,hq⟩:=iE c4 rep h1 (rv.append ry);rw[JM]at hl;exact⟨p,q,us,ys,rfl,rfl,hv,.inr ⟨o,h2⟩,JV hl f7,hq _ .non⟩
 ·exact(ag c).elim
theorem xY:HK X.K E lS zx:=by
 intro ι S H d ds v vs Q rep r rs c;unfold lS at c;split at c
 ·next k i=>
  obtain⟨p,rfl,h1⟩:=r.lst_inv;obtain⟨w,ws,rfl,r1,r2⟩:=rs.cons_inv;cases r2.nil_inv;rw[r1.int_inv];obtain⟨es,us,a4,hv,rv,c4⟩:=bu c rep h1;split at c4
  ·next hb=>
   cases q:es[i.toNat]? with
   |none=>rw[q]at c4;exact(ag c4).elim
   | some y=>
    rw[q]at c4;obtain⟨yv,O,U⟩:=rv.get' q;have hlen:=rv.length;have hE:Ext ι H ι (upd H p (.lst (us.eraseIdx i.toNat))):=rD (Ke h1);have Z:=RelDs.eraseIdx i.toNat rv;have c5:=iE (ai c4) rep h1 Z;have Y:us.length<=lim+1:=by
     have:=c5.1;rw[List.length_eraseIdx]at this;split at this<;>omega
    refine⟨p,us,i,i.toNat,yv,rfl,rfl,hv,by omega,by unfold lim at Y;omega,?_,O,?_⟩
    ·unfold seqIndex?;simp only[show ¬ i<0 by omega,if_false]
     first|(rw[if_pos (by omega)])|(rw[if_pos (by simp;omega)])|(simp;omega)
    ·exact ah c5.2 .refl (rE rep h1 Z) _ (U.later rep hE)
  ·exact(ag c4).elim
 ·exact(ag c).elim
theorem fL{apos:Pos}(ho:SE X E o m)(ha:SE X E e n)
  (Z:attributeBase o "append" X.env (eval o X.env)=eval o X.env:=by rfl)
  (Y:(apos.endLine==pos.line)=true:=by rfl) (hs:starEach [e] X.env=[(false,eval e X.env)]:=by rfl):
  SE X E (.Call (.Attribute o "append" apos) [e] [] pos) (fun ρ=>do let x<-m ρ;Ga x;let ds<-(do let y<-n ρ;let ys<-pure [];pure (y::ys));dR x ds):=
 rN PySem.F.slot_list_append PySem.F.type_list_append lJ vt ho (af ha aj hs) Z (by rw[hs];rfl) Y hs rfl
theorem qu{apos:Pos}(ho:SE X E o m)(ha:SE X E e n)
  (Z:attributeBase o "extend" X.env (eval o X.env)=eval o X.env:=by rfl)
  (Y:(apos.endLine==pos.line)=true:=by rfl) (hs:starEach [e] X.env=[(false,eval e X.env)]:=by rfl):
  SE X E (.Call (.Attribute o "extend" apos) [e] [] pos) (fun ρ=>do let x<-m ρ;Ga x;let ds<-(do let y<-n ρ;let ys<-pure [];pure (y::ys));jW x ds):=
 rN PySem.F.slot_list_extend PySem.F.type_list_extend vv vw ho (af ha aj hs) Z (by rw[hs];rfl) Y hs rfl
theorem z5{apos:Pos}(ho:SE X E o m)(ha:SE X E e n)
  (Z:attributeBase o "pop" X.env (eval o X.env)=eval o X.env:=by rfl)
  (Y:(apos.endLine==pos.line)=true:=by rfl) (hs:starEach [e] X.env=[(false,eval e X.env)]:=by rfl):
  SE X E (.Call (.Attribute o "pop" apos) [e] [] pos) (fun ρ=>do let x<-m ρ;Ga x;let ds<-(do let y<-n ρ;let ys<-pure [];pure (y::ys));lS x ds):=
 rN PySem.F.slot_list_pop PySem.F.type_list_pop zy xY ho (af ha aj hs) Z (by rw[hs];rfl) Y hs rfl
theorem xZ:IP X.K E jv Dw:=by
 intro ι S H d1 d2 d3 v1 v2 v3 Q rep r1 r2 r3 c;unfold jv at c;split at c
 ·next k j=>
  obtain⟨p,rfl,h1⟩:=r1.lst_inv;obtain⟨es,us,_,hv,rv,c4⟩:=bu c rep h1;cases q:u9 es.length j with
  |none=>rw[q]at c4;exact(ag c4).elim
  |some at'=>
   rw[q]at c4;obtain⟨hl,hq⟩:=iE (ai c4) rep h1 (RelDs.set r3 at' rv);refine⟨p,us,j,at',rfl,r2.int_inv,hv,by rw[<-rv.length];exact q,?_⟩
   exact ah hq .refl (rE rep h1 (RelDs.set r3 at' rv))
 ·exact(ag c).elim
theorem wC(ho:SE X E o m)(hi:SE X E i n)(ha:∀ v,assign (.Subscript o i pos) X.env v=(do
   let ov<-holding [v] (eval o X.env);let iv<-holding [v,ov] (eval i X.env)
   standAt pos
   holding [v,ov,iv] (setItem ov iv v)
   release [v,ov,iv] []):=by intro _;rfl):SG X E (.Subscript o i pos) (fun d ρ=>do let x<-m ρ;let y<-n ρ;jv x y d;pure ρ):=by
 refine PG.imp (D8 ho hi set_list ha) fun v σ H Q h=>?_;obtain⟨ι,S,ρ,d,rep,re,r,c⟩:=h;refine⟨ι,S,ρ,rep,re,ak (ai c) fun x ι1 S1 H1 e1 rep1 c1 v1 r1=>?_⟩;refine⟨ι1,S1,ρ,rep1,re.later rep e1,ak (ai c1) fun y ι2 S2 H2 e2 rep2 c2 v2 r2=>?_⟩;have Z:=(re.later rep e1).later rep1 e2;refine xZ (E:=E) ι2 S2 H2 x y d v1 v2 v _ rep2 (r1.later rep1 e2) r2 ((r.later rep e1).later rep1 e2) (ak (ai c2) fun _ ι3 S3 H3 e3 rep3 c3=>?_);exact ah c3 .refl rep3 σ (Z.later rep2 e3)
def aR(lo:Int)(n:Nat):List D:=(List.range n).map fun i=>.int (lo+(i:Nat))
def kC:List D->M Iter
 |[.int j]=>if -(2 ^ 62)<=j/\j<2 ^ 62 then pure ⟨aR 0 j.toNat,.none⟩else M.fail
 |_=>M.fail
def iZ:List D->M Iter
 |[.int i,.int j]=>if -(2 ^ 62)<=i/\i<2 ^ 62/\ -(2 ^ 62)<=j/\j<2 ^ 62 then pure ⟨aR i (j - i).toNat,.none⟩else M.fail
 |_=>M.fail
theorem kY{K:W.Frag}{lo:Int}{n:Nat}{ι:List Addr}{H:Hp}:iX K ⟨aR lo n,.none⟩ (Gy lo n) ι H:=by
 intro ι2 H2 S2 e rep ok i;refine⟨fun d hd=>?_,fun h=>?_⟩
 ·have Z:((List.range n)[i]?).map (fun i:Nat=>D.int (lo+(i:Nat)))=some d:=by
   have:(aR lo n)[i]? =some d:=hd;unfold aR at this;rw[J6]at this;exact this
  have hi:i<n:=by
   by_cases h:i<n
   ·exact h
   ·rw[KO (by simp;omega)]at Z;cases Z
  rw[Ma hi]at Z;cases Z;exact⟨hi,fun x H3 hy=>by obtain⟨rfl,rfl⟩:=hy;exact⟨.refl,rep,.int _⟩⟩
 ·have h':(aR lo n).length<=i:=h;unfold aR at h';rw[JI,Kj]at h';exact h'
theorem dU(hm:X.mg "range"=none)(ha:SE X E a m)(hg:Gl X "range":=by rfl)(hs:starEach [a] X.env=[(false,eval a X.env)]:=by rfl):
  SI X E tg (.Call (.Name "range" p) [a] [] pos) (fun ρ=>do let ds<-(do let x<-m ρ;let xs<-pure [];pure (x::xs));kC ds):=by
 intro pins s σ H R I h;refine xB hg hm (af ha aj hs) hs pins s σ H R I ?_;obtain⟨ι,S,ρ,rep,re,c⟩:=h;refine⟨ι,S,ρ,rep,re,ak (ai c) fun ds ι1 S1 H1 e1 rep1 c1 vs r=>?_⟩;unfold kC at c1;split at c1
 ·next j=>
  obtain⟨w,ws,rfl,r1,r2⟩:=r.cons_inv;cases r2.nil_inv;split at c1
  ·next hb=>rw[r1.int_inv];exact⟨j,rfl,hb.1,hb.2,ah c1 .refl rep1 _ kY⟩
  ·exact(ag c1).elim
 ·exact(ag c1).elim
theorem iH(hm:X.mg "range"=none)(ha:SE X E a m)(hb:SE X E b n)(hg:Gl X "range":=by rfl)(hs:starEach [a,b] X.env=[(false,eval a X.env),(false,eval b X.env)]:=by rfl)(Z:starEach [b] X.env=[(false,eval b X.env)]:=by rfl):
  SI X E tg (.Call (.Name "range" p) [a,b] [] pos) (fun ρ=>do let ds<-(do let x<-m ρ;let xs<-(do let y<-n ρ;let ys<-pure [];pure (y::ys));pure (x::xs));iZ ds):=by
 intro pins s σ H R I h;refine xC hg hm (af ha (af hb aj Z) (by rw[hs,Z])) hs Z pins s σ H R I ?_
 obtain⟨ι,S,ρ,rep,re,c⟩:=h;refine⟨ι,S,ρ,rep,re,ak (ai c) fun ds ι1 S1 H1 e1 rep1 c1 vs r=>?_⟩;unfold iZ at c1;split at c1
 ·next i j=>
  obtain⟨w,ws,rfl,r1,r2⟩:=r.cons_inv;obtain⟨w',Y,rfl,r3,r4⟩:=r2.cons_inv;cases r4.nil_inv;split at c1
  ·next hb=>rw[r1.int_inv,r3.int_inv];exact⟨i,j,rfl,hb,ah c1 .refl rep1 _ kY⟩
  ·exact(ag c1).elim
 ·exact(ag c1).elim
def G8:D->M Iter
 | .lst k=>do let xs<-getL k;pure ⟨xs,.some k⟩
 | .tup ds=>pure ⟨ds,.none⟩
 | .ro ds=>pure ⟨ds,.none⟩
 | .fz ds=>pure ⟨ds,.none⟩
 |_=>M.fail
theorem tT{K:W.Frag}{k:Nat}{a:Addr}{xs:List D}{ι:List Addr}{H:Hp}(hk:ι[k]? =some a):iX K ⟨xs,.some k⟩ (HH K a) ι H:=by
 intro ι2 H2 S2 e rep ok i;obtain⟨vs,hv,rv⟩:=rep.get k a xs (e.at hk) ok;refine⟨fun d hd=>?_,fun h=>⟨vs,.of hv,by rw[<-rv.length];exact h⟩⟩
 obtain⟨v,h1,h2⟩:=rv.get' hd;refine⟨⟨vs,v,.of hv,h1⟩,fun x H3 hy=>?_⟩;obtain⟨rfl,hy⟩:=hy;have:=hy vs (.of hv);rw[h1]at this;cases this;exact⟨.refl,rep,h2⟩
theorem vx{K:W.Frag}{a:Addr}{ds:List D}{vs:List V}{ι:List Addr}{S:aA}{H:Hp}(rep:Rep K ι H S)(ha:H a=some (.tup vs))(r:RelDs K ι H ds vs):iX K ⟨ds,.none⟩ (Iw K a) ι H:=by
 intro ι2 H2 S2 e rep2 ok i;have Z:=(e.oth a _ ha (rep.notIn ha (by intro _ z;cases z)) (by intro _ z;cases z) (by intro _ z;cases z)).1
 have r2:=r.laterN rep e;refine⟨fun d hd=>?_,fun h=>⟨vs,.of Z,by rw[<-r.length];exact h⟩⟩
 obtain⟨v,h1,h2⟩:=r2.get' hd;refine⟨⟨vs,v,.of Z,h1⟩,fun x H3 hy=>?_⟩;obtain⟨rfl,hy⟩:=hy;have:=hy vs (.of Z);rw[h1]at this;cases this;exact⟨.refl,rep2,h2⟩
theorem qv{K:W.Frag}{a:Addr}{ds:List D}{vs:List V}{ι:List Addr}{S:aA}{H:Hp}(rep:Rep K ι H S)(ha:BB K H a vs)(r:RelDs K ι H ds vs):iX K ⟨ds,.none⟩ (HH K a) ι H:=by
 intro ι2 H2 S2 e rep2 ok i;have Z:BB K H2 a vs:=ha.imp (fun⟨o,h⟩=>⟨o,(e.oth a _ h (rep.notIn h (by intro _ z;cases z)) (by intro _ z;cases z) (by intro _ z;cases z)).1⟩) fun z=>z
 have r2:=r.laterN rep e;have sq:j7 K H2 a vs:=Z.sq;refine⟨fun d hd=>?_,fun h=>⟨vs,sq,by rw[<-r.length];exact h⟩⟩
 obtain⟨v,h1,h2⟩:=r2.get' hd;refine⟨⟨vs,v,sq,h1⟩,fun x H3 hy=>?_⟩;obtain⟨rfl,hy⟩:=hy;have:=hy vs sq;rw[h1]at this;cases this;exact⟨.refl,rep2,h2⟩
theorem lU(he:SE X E e m):SI X E tg e (fun ρ=>do let x<-m ρ;G8 x):=by
 intro pins s σ H R I h;obtain⟨ι,S,ρ,rep,re,c⟩:=h;obtain⟨r,S',er,k⟩:=id (ai c);cases r with
 |ex x=>
  refine kM he pins s σ H R I ⟨ι,S,ρ,rep,re,.ex x,S',er,k⟩
 | ok d=>
  cases d with
  |tup ds=>
   refine Ed he pins s σ H R I ⟨ι,S,ρ,rep,re,.ok (.tup ds),S',er,fun ι1 H1 e1 rep1 v r1=>?_⟩;obtain⟨p,vs,rfl,h1,h2⟩:=r1.tup_inv;exact⟨p,rfl,⟨vs,.of h1⟩,ah (k ι1 H1 e1 rep1) .refl rep1 _ (vx rep1 h1 h2)⟩
  |lst j=>
   refine kM he pins s σ H R I ⟨ι,S,ρ,rep,re,.ok (.lst j),S',er,fun ι1 H1 e1 rep1 v r1=>?_⟩;obtain⟨p,rfl,h1⟩:=r1.lst_inv;obtain⟨es,us,_,hv,rv,c4⟩:=bu (k ι1 H1 e1 rep1) rep1 h1;exact⟨p,rfl,⟨us,.of hv⟩,ah c4 .refl rep1 _ (tT h1)⟩
  |ro ds=>
   refine kM he pins s σ H R I ⟨ι,S,ρ,rep,re,.ok (.ro ds),S',er,fun ι1 H1 e1 rep1 v r1=>?_⟩;obtain⟨p,vs,rfl,h1,h2⟩:=r1.ro_inv;exact⟨p,rfl,⟨vs,h1.sq⟩,ah (k ι1 H1 e1 rep1) .refl rep1 _ (qv rep1 h1 h2)⟩
  |fz ds=>
   refine kM he pins s σ H R I ⟨ι,S,ρ,rep,re,.ok (.fz ds),S',er,fun ι1 H1 e1 rep1 v r1=>?_⟩;obtain⟨p,o,vs,rfl,h1,h2⟩:=r1.fz_inv;exact⟨p,rfl,⟨vs,.inl (.inr ⟨o,h1⟩)⟩,ah (k ι1 H1 e1 rep1) .refl rep1 _ (qv rep1 (.inl ⟨o,h1⟩) h2)⟩
  |_=>exact kM he pins s σ H R I ⟨ι,S,ρ,rep,re,.ok _,S',er,fun ι1 H1 e1 rep1 v r1=>(ag (k ι1 H1 e1 rep1)).elim⟩
theorem tU:dH X (.type "range") (fun xs H Q=>∃ j,xs=[.int j]/\∀ p,H p=none->Q (.ref p) (upd H p (.rng 0 j))):=by
 intro pins s σ H xs us Q I r h;obtain⟨j,rfl,q⟩:=h;obtain⟨u,rfl,rx⟩:=vals1 r;obtain⟨t,rfl⟩:=(show ∃ t,u=Value.int j t from rx);refine call_range_1 ⟨.ref s.heap.objs.size,_,I.laid (o:=.rng 0 j) (fun b o e=>JH _ e) (JK _) ⟨_,_,_,JP _ rfl⟩,rfl,q _ (I.hok.fresh (JK _))⟩
theorem pR(hc:X.calm=true):dH X (.type "list") (fun xs H Q=>∃(p:Addr) (j:Int),xs=[.ref p]/\H p=some (.rng 0 j)/\ -(2 ^ 62)<=j/\j<=lim/\∀ l,H l=none->Q (.ref l) (upd H l (.lst ((List.range j.toNat).map fun i:Nat=>V.int (i:Nat))))):=by
 intro pins s σ H xs us Q I r h;obtain⟨p,j,rfl,hp,h1,h2,q⟩:=h;obtain⟨u,rfl,rx⟩:=vals1 r;cases (show u=Value.ref p from rx);obtain⟨t,u,v,hr⟩:=(show bo X.prog X.w H s.heap p (.rng 0 j)from I.hok p _ hp);have Y:Builtin.Range.rangeSize 0 j 1=(j.toNat:Int):=by rw[rangeSize_one];split<;>omega
 have Z:j.toNat<=lim:=by omega
 refine call_list_range (I.ok.hd hc) hr (small_one (by omega) (by omega) h1 (by unfold lim at h2;omega)) Y (by unfold lim at Z;omega) fun h' tk acc c' kp ho hit=>?_
 refine⟨.ref s.heap.objs.size,_,I.laid (t':=tk) kp (JK _) (o:=.lst ((List.range j.toNat).map fun i:Nat=>V.int (i:Nat))) ?_,rfl,q _ (I.hok.fresh (JK _))⟩;refine⟨by rw[JI,Kj];exact JV Z f7,acc.toList,c',?_,by simpa using ho⟩
 obtain⟨hs,hi⟩:=hit;have gen:∀(l:List Value) (f:Nat->Int),(∀ i v,l[i]? =some v->∃ t,v=Value.int (f i) t)->bj ((List.range l.length).map fun i:Nat=>V.int (f i)) l:=by
  intro l
  induction l with
  |nil=>intro f _;exact .nil
  |cons x l ih=>
   intro f hf;rw[JY,List.range_succ_eq_map,J3,KJ];obtain⟨t,ht⟩:=hf 0 x rfl;refine .cons ⟨t,ht⟩ ?_;exact ih (fun i=>f (i+1)) fun i v hv=>hf (i+1) v (by simpa using hv)
 have:=gen acc.toList (fun i=>(i:Int)) fun i v hv=>by
  obtain⟨t,ht⟩:=hi i v (by simpa using hv)
  exact⟨t,by rw[ht];congr 1;omega⟩
 rw[Lw,hs]at this;exact this
def eO:List D->M D
 |[.int j]=>if -(2 ^ 62)<=j/\j<=lim then bD (aR 0 j.toNat)else M.fail
 |_=>M.fail
theorem n4{K:W.Frag}{ι:List Addr}{H:Hp}:∀(l:List Nat),RelDs K ι H (l.map fun i:Nat=>D.int (0+(i:Nat))) (l.map fun i:Nat=>V.int (i:Nat))
 |[]=>.nil
 |x::l=>.cons (by show RelD K ι H (D.int (0+(x:Int))) (V.int (x:Int));rw[K3];exact .int _) (n4 l)
theorem rO(hc:X.calm=true)(hm:X.mg "list"=none)(U:X.mg "range"=none)(ha:SE X E a m)(hg:Gl X "list":=by rfl)(Y:Gl X "range":=by rfl)(hs:starEach [a] X.env=[(false,eval a X.env)]:=by rfl)
  (Z:starEach [.Call (.Name "range" q) [a] [] pos2] X.env=[(false,eval (.Call (.Name "range" q) [a] [] pos2) X.env)]:=by rfl):
  SE X E (.Call (.Name "list" p) [.Call (.Name "range" q) [a] [] pos2] [] pos) (fun ρ=>do let ds<-(do let x<-m ρ;let xs<-pure [];pure (x::xs));eO ds):=by
 refine PE.imp (jR (pR hc) hg hm (by decide+kernel) (eJ (jR tU Y U (by decide+kernel) (af ha aj hs) (by decide) (by decide) hs rfl) jm Z) (by decide) (by decide) Z rfl) fun σ H Q h=>?_
 obtain⟨ι,S,ρ,rep,re,c⟩:=h;refine⟨ι,S,ρ,rep,re,ak (ai c) fun ds ι1 S1 H1 e1 rep1 c1 vs r=>?_⟩;unfold eO at c1;split at c1
 ·next j=>
  obtain⟨w,ws,rfl,r1,r2⟩:=r.cons_inv;cases r2.nil_inv;split at c1
  ·next hb=>
   rw[r1.int_inv];refine⟨j,rfl,fun p hp=>?_⟩;have rep2:=eY (o:=.rng 0 j) rep1 hp;refine⟨p,j,rfl,aN,hb.1,hb.2,?_⟩;have c2:=fJ c1 (dQ (o:=.rng 0 j) hp);exact(bS c2 rep2 (n4 (List.range j.toNat))).2
  ·exact(ag c1).elim
 ·exact(ag c1).elim
end
section
variable {X:Cx}{E:XD}{a b c d e:Expr}{m n l k:TM}{pos p2:Pos}
theorem ET:SE X E (.Dict [] [] pos) (fun _=>pure .emp):=by
 intro pins s σ H Q I h;obtain⟨ι,S,ρ,rep,re,cc⟩:=h;have big:sysModules<s.heap.objs.size:=MW (by decide) (I.mod.glob.keeps I.bk).lt
 have hf:H s.heap.objs.size=none:=I.hok.fresh (JK _);have ob:bo X.prog X.w (upd H s.heap.objs.size (.dK [])) (s.heap.push {cls:=.type "dict",data:=.dict #[]}) s.heap.objs.size (.dK []):=⟨J4 _,beq_eq_false_iff_ne.mpr (Ne.symm (JT big)),[],.nil,Heap.DictOf.new s.heap⟩;refine wpAny_Dict_empty ⟨.ref s.heap.objs.size,upd H s.heap.objs.size (.dK []),I.laid (t':=s.toks) (fun _ _ q=>JH _ q) (JK _) ob,rfl,?_⟩;exact ah cc (dQ hf) (eY rep hf) _ (.emp aN)
end
section
variable {X:Cx}{E:XD}{e:Expr}{m:TM}{te:TE}{pos p1 p2 p3:Pos}{j:Nat}
end
def insI(x:Int):List Int->List Int
 |[]=>[x]
 |y::r=>if x<=y then x::y::r else y::insI x r
def sortI:List Int->List Int
 |[]=>[]
 |x::r=>insI x (sortI r)
theorem insI_perm(x:Int):∀ l,(insI x l).Perm (x::l)
 |[]=>.refl _
 |y::r=>by
  unfold insI;split
  ·exact .refl _
  ·exact(List.Perm.cons y (insI_perm x r)).trans (List.Perm.swap x y r)
theorem sortI_perm:∀ l,(sortI l).Perm l
 |[]=>.refl _
 |x::r=>(insI_perm x _).trans (List.Perm.cons x (sortI_perm r))
theorem mB(x:Int):∀{l:List Int},l.Pairwise (· <=·)->(insI x l).Pairwise (· <=·)
 |[],_=>by simp[insI]
 | y::r,h=>by
  obtain⟨h1,h2⟩:=Ks.mp h;unfold insI;split
  ·next c=>
   refine Ks.mpr ⟨fun z hz=>?_,h⟩;rcases J2.mp hz with rfl|hz
   ·exact c
   ·exact Int.le_trans c (h1 z hz)
  ·next c=>
   refine Ks.mpr ⟨fun z hz=>?_,mB x h2⟩;rcases J2.mp ((insI_perm x r).mem_iff.mp hz)with rfl|hz
   ·omega
   ·exact h1 z hz
theorem kZ:∀ l,(sortI l).Pairwise (· <=·)
 |[]=>.nil
 |x::r=>mB x (kZ r)
section
variable {X:Cx}{E:XD}{e:Expr}{m:TM}{pos:Pos}
theorem rP:dH X (.builtin "sorted") (fun xs H Q=>∃(p:Addr) (ns:List Int),xs=[.ref p]/\j7 X.K H p (ns.map V.int)/\ns.length<64/\∀ l,H l=none->Q (.ref l) (upd H l (.lst ((sortI ns).map V.int)))):=by
 intro pins s σ H xs us Q I r h;obtain⟨p,ns,rfl,hp,Y,q⟩:=h;obtain⟨u,rfl,rx⟩:=vals1 r;cases (show u=Value.ref p from rx);obtain⟨its,rv,pl,hz⟩:=I.list hp;have hI:IntsAre its ns:=M7 rv;have hlen:=rv.length;rw[JI]at hlen;refine sorted_ints pl.isList hI (by omega) fun out Z a1 a2 a3=>?_
 have en:Z=sortI ns:=W.lks_uniq (a2.trans (sortI_perm ns).symm) a3 (kZ ns);subst en;obtain⟨c,hc⟩:=sortedAll_at s.heap its out;have hf:H (s.heap.objs.size+1)=none:=I.hok.fresh (LP _);refine⟨.ref (s.heap.objs.size+1),_,I.laid (t':=s.toks) (o:=.lst ((sortI ns).map V.int)) (fun b o e=>sortedAll_old e) (LP _) ⟨?_,out.toList,c,jS a1,hc⟩,rfl,q _ hf⟩;rw[JI,(sortI_perm ns).length_eq,KN];omega
theorem n5{K:W.Frag}{ι:List Addr}{H:Hp}:∀ ns:List Int,RelDs K ι H (ns.map D.int) (ns.map V.int)
 |[]=>.nil
 |n::r=>.cons (.int n) (n5 r)
end
end S3
namespace S3
open PySem PySem.Spec PySem.W PyProof.Rows L2
theorem n6{h:Heap}:∀{vs:List Value},(∀ v∈vs,∃ a o us n i t,v= .ref a/\h.get? a=some o/\o.cls= .type "tuple"/\o.data= .seq us n/\us[0]? =some (Value.int i t))->
  ∃ fs,KatTups h vs fs/\fs.length=vs.length/\∀ f∈fs,∃ i t,f=Value.int i t
 |[],_=>⟨[],.nil,rfl,fun _ z=>nomatch z⟩
 |v::vs,hv=>by
  obtain⟨a,o,us,n,i,t,rfl,e1,e2,e3,e4⟩:=hv v JX;obtain⟨fs,k1,k2,k3⟩:=n6 fun v' h'=>hv v' (JR _ h');refine⟨_::fs,.cons e1 e2 e3 e4 k1,by simp[k2],fun f hf=>?_⟩
  rcases J2.mp hf with rfl|hf
  ·exact⟨i,t,rfl⟩
  ·exact k3 f hf
theorem jX:∀ ns:List Int,HT.lexLt ns ns=false
 |[]=>rfl
 |n::r=>by rw[HT.lexLt_cons,if_pos rfl];exact jX r
theorem vy:∀{a b c:List Int},HT.lexLt a b=true->HT.lexLt b c=true->HT.lexLt a c=true
 |[],[],c,h,_=>by cases h
 |[],_::_,[],_,h=>by cases h
 |[],_::_,_::_,_,_=>rfl
 |_::_,[],c,h,_=>by cases h
 |_::_,_::_,[],_,h=>by cases h
 | x::a,y::b,z::c,h1,h2=>by
  rw[HT.lexLt_cons]at h1 h2 ⊢;split at h1
  ·next e=>
   subst e;split at h2
   ·next e2=>subst e2;rw[if_pos rfl];exact vy h1 h2
   ·next e2=>rw[if_neg e2];exact h2
  ·next e=>
   have Z:x<y:=KD h1;split at h2
   ·next e2=>subst e2;rw[if_neg e];exact h1
   ·next e2=>
    have Y:y<z:=KD h2;rw[if_neg (by omega)];exact JZ (by omega)
theorem rQ:∀{a b c:List Int},HT.lexLt a c=true->HT.lexLt a b=true\/HT.lexLt b c=true
 |a,b,[],h=>by cases a<;>cases h
 |[],[],_::_,_=>.inr rfl
 |[],_::_,_::_,_=>.inl rfl
 |_::_,[],_::_,_=>.inr rfl
 | x ::a,y::b,z::c,h=>by
  rw[HT.lexLt_cons]at h;rw[HT.lexLt_cons,HT.lexLt_cons];split at h
  ·next e=>
   subst e;by_cases e2:x=y
   ·subst e2;rw[if_pos rfl,if_pos rfl];exact rQ h
   ·rw[if_neg e2,if_neg (Ne.symm e2)];rcases Int.lt_or_gt_of_ne e2 with l|l
    ·exact .inl (JZ l)
    ·exact .inr (JZ l)
  ·next e=>
   have h':x<z:=KD h;by_cases e2:x=y
   ·subst e2;rw[if_neg e];exact .inr (JZ h')
   ·rw[if_neg e2];by_cases l:x<y
    ·exact .inl (JZ l)
    ·refine .inr ?_;rw[if_neg (by omega)];exact JZ (by omega)
theorem z6(x:bo P w H h a o):∃ ob,h.get? a=some ob:=by
 cases o with
 |lst xs=>obtain⟨_,_,_,_,e⟩:=x;exact⟨_,e⟩
 |tup xs=>obtain⟨_,_,_,ob,e,_⟩:=x;exact⟨_,e⟩
 |dK kvs=>obtain⟨_,_,_,_,o,_,_,e,_⟩:=x;exact⟨_,e⟩
 |dT kvs=>obtain⟨_,_,_,_,o,_,_,e,_⟩:=x;exact⟨_,e⟩
 |set S n=>obtain⟨o,_,_,_,e,_⟩:=x;exact⟨_,e⟩
 |ins C dx fs=>obtain⟨_,_,_,e,_⟩:=x;exact⟨_,e⟩
 |own y=>exact x
 |xd fs=>obtain⟨_,⟨_,_,_,e,_⟩,_⟩:=x;exact⟨_,e⟩
 |rng lo hi=>obtain⟨_,_,_,e⟩:=x;exact⟨_,e⟩
 |frz ob u=>exact⟨_,x.1⟩
 |tbl ps=>exact⟨_,show h.get? a=some _ from x⟩
 |met f y=>exact⟨_,show h.get? a=some _ from x⟩
 |ext φ=>exact x.2.1
section
variable {X:Cx}{pins:List (Addr×Obj)}{σ:L2.St}{H:Hp}{s:Shared}
theorem vz{us:List Value}(I:L2.Inv X pins σ H s)(F0:Fr X.base X.env.locals s.heap m)(F:Fr X.base X.env.locals h2 m)
  (kp:∀ b o,b≠X.env.locals->s.heap.get? b=some o->h2.get? b=some o) (nd:s.heap.get? d=none) (hd:h2.get? d=some {cls:=.type "list",data:=.seq us.toArray n}) (rv:bj ys us) (hz:ys.length<=sizeLine):
  L2.Inv X pins σ (upd H d (.lst ys)) {s with heap:=h2}:=by
 have hH:H d=none:=by
  cases e:H d with
  |none=>rfl
  |some o=>obtain⟨ob,q⟩:=z6 (I.hok d o e);rw[nd]at q;cases q
 have Z:∀ b o,H b=some o->b≠X.env.locals:=fun b o e z=>by rw[z,I.free]at e;cases e
 have old:∀ b o,s.heap.get? b=some o->b≠d:=fun b o e z=>by rw[z,nd]at e;cases e
 refine I.step (g':=s.gens) (d':=s.drawn) (t':=s.toks) (ch:=[]) (fun _ z=>nomatch z) (fun b o hb _ _ e _=>kp b o hb e) (fun b o hb _ _ e _=>⟨o.slots,kp b o hb e⟩)
  (fun b o _ e n=>by rw[aB (old b o e)];exact n) (fun b o _ e=>?_) (fun b xs e=>by rw[aB (aH e hH)];exact e) (fun b ob u e=>by rw[aB (aH e hH)];exact e)
  (fun b ps e=>⟨#[],by rw[aB (aH e hH),e];simp⟩) (fun m' hm=>?_) (fun b u e=>?_) I.bare
 ·by_cases hb:b=X.env.locals
  ·obtain⟨o',_,_,e',_⟩:=F.ns;exact⟨o',by rw[hb];exact e'⟩
  ·exact⟨o,kp b o hb e⟩
 ·have:m'=m:=by
   obtain⟨o1,es,ep,e1,d1,_,g1⟩:=hm;obtain⟨o2,Y,U,e2,d2,_,g2⟩:=F0.ns;rw[e1]at e2;cases e2;rw[d1]at d2;cases d2;funext x;rw[<-g1 x, <-g2 x]
  rw[this];exact F.ns
 ·by_cases hb:b=d
  ·subst hb;rw[aN]at e;cases e;exact⟨hz,us,n,rv,hd⟩
  ·rw[aB hb]at e;refine(I.hok b u e).stay (fun c v hc z=>kp c v ?_ z) (fun c z=>by rw[aB (aH z hH)];exact z) fun c xs z=>by rw[aB (aH z hH)];exact z
   rcases hc with rfl|hc
   ·exact Z _ _ e
   ·exact Z _ _ hc
end
section
variable {X:Cx}
end
end S3
namespace S4
open PySem PySem.SetTable
def tb(m:Nat):SetTable:=⟨m, #[], #[],0,true,0,true⟩
def b7(m:Nat)(h:Int):Nat->Probe
 |0=>(tb m).probeStart h
 |k+1=>(tb m).advance (b7 m h k)
theorem EU(t:SetTable)(h:Int)(k:Nat):t.advance (b7 t.mask h k)=b7 t.mask h (k+1):=rfl
theorem ya(t:SetTable)(p:Probe)(hp:p.dummy=none):(t.advance p).dummy=none:=by
 unfold advance;split
 ·exact hp
 ·exact hp
theorem n8(m:Nat)(h:Int):∀ k,(b7 m h k).dummy=none
 |0=>rfl
 |k+1=>ya _ _ (n8 m h k)
def fQ(m:Nat)(h:Int):Nat->Nat×Nat
 |0=>(bits h % (m+1),bits h)
 |n+1=>leap m (fQ m h n).1 (fQ m h n).2
def run(m i:Nat):Nat:=runEnd m i - i
theorem EV(m i:Nat):run m i<=9:=by
 unfold run runEnd;split<;>omega
def pH(m:Nat)(h:Int):Nat->Nat
 |0=>0
 |n+1=>pH m h n+run m (fQ m h n).1+1
theorem z7(m:Nat)(h:Int):∀ n,pH m h n<=10*n
 |0=>JK _
 |n+1=>by
  have:=z7 m h n;have:=EV m (fQ m h n).1;show pH m h n+run m (fQ m h n).1+1<=10*(n+1);omega
theorem rR(m:Nat)(h:Int)(n:Nat)(e:b7 m h (pH m h n)=⟨(fQ m h n).1,run m (fQ m h n).1,(fQ m h n).1,(fQ m h n).2,none⟩):
  ∀ r,r<=run m (fQ m h n).1->b7 m h (pH m h n+r)=⟨(fQ m h n).1+r,run m (fQ m h n).1 - r,(fQ m h n).1,(fQ m h n).2,none⟩
 |0,_=>e
 |r+1,hr=>by
  have ih:=rR m h n e r (by omega)
  show(tb m).advance (b7 m h (pH m h n+r))=_;rw[ih];unfold advance;simp only;rw[if_pos (by omega)]
  simp only[Probe.mk.injEq,and_true,true_and];omega
theorem oa(m:Nat)(h:Int):∀ n,b7 m h (pH m h n)=⟨(fQ m h n).1,run m (fQ m h n).1,(fQ m h n).1,(fQ m h n).2,none⟩
 |0=>rfl
 |n+1=>by
  have e:=rR m h n (oa m h n) _ (JK _);show(tb m).advance (b7 m h (pH m h n+run m (fQ m h n).1))=_;rw[e];unfold advance;simp only;rw[if_neg (by omega)]
  rfl
theorem rS(m:Nat)(h:Int)(n r:Nat)(hr:r<=run m (fQ m h n).1):(b7 m h (pH m h n+r)).j=(fQ m h n).1+r:=by
 rw[rR m h n (oa m h n) r hr]
theorem wD(m:Nat)(h:Int):∀ n,(fQ m h n).2=bits h / 32 ^ n
 |0=>by simp[fQ]
 |n+1=>by
  show(fQ m h n).2 / 32=_;rw[wD m h n,Nat.div_div_eq_div_mul,Nat.pow_succ]
theorem Ce(h:Int):bits h<2 ^ 64:=by
 unfold bits;have h1:0<=h % (2 ^ 64:Int):=Ml _ (by decide)
 have h2:h % (2 ^ 64:Int)<2 ^ 64:=LL _ (by decide)
 omega
theorem IS(m:Nat)(h:Int)(n:Nat):(fQ m h (13+n)).2=0:=by
 rw[wD];refine Nat.div_eq_of_lt (JW (Ce h) ?_);have:(2:Nat) ^ 64<=32 ^ 13:=by decide
 exact JV this (Nat.pow_le_pow_right (by decide) (by omega))
def G9(m:Nat):Nat->Nat->Nat
 |0,a=>a
 |n+1,a=>(G9 m n a*5+1) % (m+1)
theorem vA(m:Nat)(h:Int):∀ n,(fQ m h (13+n)).1=G9 m n (fQ m h 13).1
 |0=>rfl
 |n+1=>by
  show((fQ m h (13+n)).1*5+1+(fQ m h (13+n)).2 / 32) % (m+1)=(G9 m n (fQ m h 13).1*5+1) % (m+1);rw[IS,vA m h n]
theorem z8(m:Nat)(h:Int):∀ n,(fQ m h n).1<m+1
 |0=>M9 _ (by omega)
 |n+1=>M9 _ (by omega)
theorem IT:∀ a,a<8->∀ j,j<8->∃ n,n<8/\G9 7 n a=j:=by decide+kernel
theorem Ha:∀ a,a<32->∀ j,j<32->∃ n,n<32/\G9 31 n a=j:=by decide+kernel
def Dz(m:Nat):Prop:=m=7\/m=31
theorem z9(hm:Dz m)(h:Int)(j:Nat)(hj:j<=m):∃ n,n<m+14/\(fQ m h n).1=j:=by
 rcases hm with rfl|rfl
 ·obtain⟨n,h1,h2⟩:=IT _ (z8 7 h 13) j (by omega)
  exact⟨13+n,by omega,by rw[vA];exact h2⟩
 ·obtain⟨n,h1,h2⟩:=Ha _ (z8 31 h 13) j (by omega)
  exact⟨13+n,by omega,by rw[vA];exact h2⟩
theorem cover(hm:Dz m)(h:Int)(j:Nat)(hj:j<=m):∃ K,K<10*turns m/\(b7 m h K).j=j:=by
 obtain⟨n,h1,h2⟩:=z9 hm h j hj;refine⟨pH m h n,?_,by rw[oa];exact h2⟩
 have:=z7 m h n;unfold turns;omega
theorem qw(h:i<m+1):i+run m i<=m:=by
 unfold run runEnd;split<;>omega
theorem EX{p:Probe}(h:p.j+p.more<=m):((tb m).advance p).j+((tb m).advance p).more<=m:=by
 unfold advance;split
 ·simp only;omega
 ·simp only[leap];exact qw (M9 _ (by omega))
theorem qx(m:Nat)(h:Int):∀ k,(b7 m h k).j+(b7 m h k).more<=m
 |0=>qw (M9 _ (by omega))
 |k+1=>EX (qx m h k)
theorem Cf(m:Nat)(h:Int)(k:Nat)(_:Dz m):(b7 m h k).j<=m:=JV (LC _ _) (qx m h k)
def Cg(xs:Array Nat):Prop:=∀(i j a b:Nat),i<j->xs[i]? =some a->xs[j]? =some b->a<b
theorem og(hr:Cg xs):∀(fuel lo hi:Nat),lo<=hi->hi<=xs.size->hi - lo<=fuel->(∀(i a:Nat),i<lo->xs[i]? =some a->a<j)->(∀(i a:Nat),hi<=i->xs[i]? =some a->j<=a)->
  below.go xs j fuel lo hi<=xs.size/\(∀(i a:Nat),i<below.go xs j fuel lo hi->xs[i]? =some a->a<j)/\(∀(i a:Nat),below.go xs j fuel lo hi<=i->xs[i]? =some a->j<=a)
 |0,lo,hi,h1,h2,h3,h4,h5=>by
  have:lo=hi:=by omega
  subst this;exact⟨h2,h4,h5⟩
 | fuel+1,lo,hi,h1,h2,h3,h4,h5=>by
  unfold below.go;by_cases hlt:lo<hi
  ·rw[if_pos hlt];simp only;have Z:(lo+hi) / 2<xs.size:=by omega
   have hg:xs.getD ((lo+hi) / 2) j=xs[(lo+hi) / 2]:=by simp[Array.getD,Z]
   have hq:xs[(lo+hi) / 2]? =some xs[(lo+hi) / 2]:=JQ Z;rw[hg];split
   ·next hc=>
    refine og hr fuel _ hi (by omega) h2 (by omega) (fun i a Y e=>?_) h5
    by_cases he:i=(lo+hi) / 2
    ·subst he;rw[hq]at e;cases e;exact hc
    ·exact MW (hr i _ a _ (by omega) e hq) hc
   ·next hc=>
    refine og hr fuel lo _ (by omega) (by omega) (by omega) h4 (fun i a Y e=>?_)
    by_cases he:i=(lo+hi) / 2
    ·subst he;rw[hq]at e;cases e;omega
    ·have:=hr _ i _ a (by omega) hq e
     omega
  ·rw[if_neg hlt];have:lo=hi:=by omega
   subst this;exact⟨h2,h4,h5⟩
theorem oh(hr:Cg xs)(j:Nat):below xs j<=xs.size/\(∀(i a:Nat),i<below xs j->xs[i]? =some a->a<j)/\(∀(i a:Nat),below xs j<=i->xs[i]? =some a->j<=a):=
 og hr xs.size 0 xs.size (J4 _) (JK _) (by omega) (fun _ _ h=>absurd h (Ny _)) fun i a hi e=>by
  rw[K4 hi]at e;cases e
theorem vB(hr:Cg xs)(h:xs[i]? =some j):below xs j=i:=by
 obtain⟨_,h2,h3⟩:=oh hr j;rcases Na (below xs j) i with l|l|l
 ·have hb:below xs j<xs.size:=MW l (J9.mp h).1;have e:xs[below xs j]? =some xs[below xs j]:=JQ hb;have q1:=hr _ _ _ _ l e h;have q2:=h3 _ _ (JK _) e;omega
 ·exact l
 ·have:=h2 i j l h;omega
theorem lV{t:SetTable}(h:t.slot j= .live i):t.place[i]? =some j:=by
 unfold slot at h;simp only at h;split at h
 ·next hc=>cases h;exact eq_of_beq hc
 ·split at h<;>cases h
theorem nk{t:SetTable}(hr:Cg t.place)(h:t.place[i]? =some j):t.slot j= .live i:=by
 unfold slot;simp only;rw[vB hr h,h];simp
theorem wF{t:SetTable}(hd:t.dummies= #[])(j:Nat):(∃ i,t.slot j= .live i)\/t.slot j= .empty:=by
 unfold slot;simp only;rw[hd];split
 ·exact .inl ⟨_,rfl⟩
 ·exact .inr (by simp[has])
theorem vC{t:SetTable}(hr:Cg t.place)(h:t.slot j= .empty):∀(i:Nat),t.place[i]? ≠some j:=fun i e=>by
 rw[nk hr e]at h;cases h
theorem wH(hr:Cg xs)(h:∀(j:Nat),j<n->∃ i:Nat,xs[i]? =some j):∀(j:Nat),j<n->∃ i:Nat,j<=i/\xs[i]? =some j
 |0,hj=>by obtain⟨i,e⟩:=h 0 hj;exact⟨i,J4 _,e⟩
 |j+1,hj=>by
  obtain⟨i,h1,h2⟩:=wH hr h j (by omega)
  obtain⟨i',e⟩:=h (j+1) hj;refine⟨i',?_,e⟩;rcases Na i i' with l|l|l
  ·omega
  ·subst l;rw[h2]at e;cases e
  ·have:=hr _ _ _ _ l e h2;omega
theorem yb{t:SetTable}(hr:Cg t.place)(hd:t.dummies= #[])(hs:t.place.size<=t.mask):∃ j,j<=t.mask/\t.slot j= .empty:=by
 apply M0;intro hn;have:∀(j:Nat),j<t.mask+1->∃ i:Nat,t.place[i]? =some j:=fun j hj=>by
  rcases wF hd j with⟨i,e⟩|e
  ·exact⟨i,lV e⟩
  ·exact absurd ⟨j,by omega,e⟩ hn
 obtain⟨i,h1,h2⟩:=wH hr this t.mask (by omega)
 have:=(J9.mp h2).1;omega
theorem wI{t:SetTable}(hd:t.dummies= #[])(ha:Nat->Int)(h:Int)(K:Nat)(hK:t.slot (b7 t.mask h K).j= .empty):∀(fuel k:Nat),k<=K->K - k<fuel->
    ∃ k',k<=k'/\k'<=K/\(∀ m,k<=m->m<k'->∃ i,t.slot (b7 t.mask h m).j= .live i/\ha i≠h)/\
      ((t.slot (b7 t.mask h k').j= .empty/\probe.go t ha h fuel (b7 t.mask h k)=some (.empty (b7 t.mask h k').j none))\/
       (∃ i,t.slot (b7 t.mask h k').j= .live i/\ha i=h/\probe.go t ha h fuel (b7 t.mask h k)=some (.candidate (b7 t.mask h k').j i (b7 t.mask h (k'+1)))))
  |0,k,h1,h2=>by omega
  | fuel+1,k,h1,h2=>by
    unfold probe.go;rcases wF hd (b7 t.mask h k).j with⟨i,e⟩|e
    · rw[e]
      simp only;by_cases hh:ha i=h
      · rw[if_pos (by simpa using hh)]
        exact⟨k,JK _,h1,fun m a b=>by omega,.inr ⟨i,e,hh,rfl⟩⟩
      · rw[if_neg (by simpa using hh)]
        have Z:k≠K:=fun z=>by subst z;rw[hK]at e;cases e
        obtain⟨k',g1,g2,g3,g4⟩:=wI hd ha h K hK fuel (k+1) (by omega) (by omega)
        refine⟨k',by omega,g2,fun m a b=>?_,?_⟩
        · by_cases hm:m=k
          · subst hm;exact⟨i,e,hh⟩
          · exact g3 m (by omega) b
        · rw[EU];exact g4
    · rw[e]
      simp only[n8];exact⟨k,JK _,h1,fun m a b=>by omega,.inl ⟨e,rfl⟩⟩
abbrev Ent:=Int×Value
def At(pl:Array Nat)(es:Array Ent)(j:Nat)(e:Ent):Prop:=∃ i:Nat,pl[i]? =some j/\es[i]? =some e
structure TPre(t:SetTable)(es:Array Ent):Prop where
 msk:Dz t.mask
 dum:t.dummies= #[]
 siz:t.place.size=es.size
 ris:Cg t.place
 inb:∀(i a:Nat),t.place[i]? =some a->a<=t.mask
 way:∀(j:Nat) (e:Ent),At t.place es j e->∃ k,(b7 t.mask e.1 k).j=j/\∀ m,m<k->∃ e',At t.place es (b7 t.mask e.1 m).j e'
structure TOk(t:SetTable)(es:Array Ent):Prop extends TPre t es where
 few:es.size*5<t.mask*3
theorem TPre.fits(k:TPre t es)(h:es.size<=t.mask):t.fits es.size=true:=by
 unfold SetTable.fits fill;rw[k.siz,k.dum];simpa using h
theorem TOk.le(k:TOk t es):es.size<=t.mask:=by
 have:=k.few;omega
theorem TPre.at_of{t:SetTable}{es:Array Ent}(k:TPre t es){i j:Nat}(h:t.place[i]? =some j):∃ e,es[i]? =some e/\At t.place es j e:=by
 have hi:i<es.size:=by rw[<-k.siz];exact(J9.mp h).1
 exact⟨es[i],JQ hi,i,h,JQ hi⟩
theorem Aa(led:Bool):TOk (SetTable.fresh 0 0 led) #[] where
 msk:=.inl rfl
 dum:=rfl
 siz:=rfl
 ris:=fun i j a b _ h _=>by simp[SetTable.fresh]at h
 inb:=fun i a h=>by simp[SetTable.fresh]at h
 way:=fun j e ⟨i,h,_⟩=>by simp[SetTable.fresh]at h
 few:=by show 0*5<7*3;decide
theorem eI{α:Type}(xs:Array α)(p:Nat)(x:α)(hp:p<=xs.size)(i:Nat):(SetTable.insertAt xs p x)[i]? =if i<p then xs[i]? else if i=p then some x else xs[i - 1]? :=by
 rw[<-Kc,SetTable.toList_insertAt];have hl:(xs.toList.take p).length=p:=by simp[hp]
 by_cases h1:i<p
 ·rw[if_pos h1,Kl (by omega),M6 h1,Kc]
 ·rw[if_neg h1,LZ (by omega),hl]
  by_cases h2:i=p
  ·subst h2;simp
  ·rw[if_neg h2];obtain⟨d,hd⟩:∃ d,i - p=d+1:=⟨i - p - 1,by omega⟩
   rw[hd,List.getElem?_cons_succ,MY,show p+d=i - 1 by omega,Kc]
theorem oj{α:Type}(xs:Array α)(p:Nat)(x:α):(SetTable.insertAt xs p x).size=xs.size+1:=by
 have:=(SetTable.insertAt_perm xs p x).length_eq;simpa using this
theorem Ab{pl:Array Nat}{es:Array Ent}(hs:pl.size=es.size)(hp:p<=pl.size)(j':Nat)(e':Ent):
  At (SetTable.insertAt pl p j) (SetTable.insertAt es p e) j' e'↔At pl es j' e'\/(j'=j/\e'=e):=by
 have Z:p<=es.size:=by rw[<-hs];exact hp
 constructor
 ·rintro⟨i,h1,h2⟩;rw[eI _ _ _ hp]at h1;rw[eI _ _ _ Z]at h2;by_cases c1:i<p
  ·rw[if_pos c1]at h1 h2;exact .inl ⟨i,h1,h2⟩
  ·rw[if_neg c1]at h1 h2;by_cases c2:i=p
   ·rw[if_pos c2]at h1 h2;cases h1;cases h2;exact .inr ⟨rfl,rfl⟩
   ·rw[if_neg c2]at h1 h2;exact .inl ⟨_,h1,h2⟩
 ·rintro(⟨i,h1,h2⟩|⟨rfl,rfl⟩)
  ·by_cases c1:i<p
   ·exact⟨i,by rw[eI _ _ _ hp,if_pos c1];exact h1,by rw[eI _ _ _ Z,if_pos c1];exact h2⟩
   ·exact⟨i+1,by rw[eI _ _ _ hp,if_neg (by omega),if_neg (by omega)];exact h1,by rw[eI _ _ _ Z,if_neg (by omega),if_neg (by omega)];exact h2⟩
  ·exact⟨p,by rw[eI _ _ _ hp,if_neg (by omega),if_pos rfl],by rw[eI _ _ _ Z,if_neg (by omega),if_pos rfl]⟩
theorem EY{t:SetTable}(hd:t.dummies= #[])(j:Nat):t.put j=({t with place:=SetTable.insertAt t.place (below t.place j) j},below t.place j):=by
 unfold put;simp only;rw[hd];have:has (#[]:Array Nat) j=false:=by simp[has]
 rw[this];cases t;simp only at hd;subst hd;rfl
theorem EZ(k:TPre t es){e:Ent}(hj:j<=t.mask)(hf:t.slot j= .empty)(hK:(b7 t.mask e.1 K).j=j)(hb:∀ m,m<K->∃ e',At t.place es (b7 t.mask e.1 m).j e'):
  TPre (t.put j).1 (SetTable.insertAt es (t.put j).2 e)/\(t.put j).1.mask=t.mask/\(t.put j).1.led=t.led/\(t.put j).1.plain=t.plain:=by
 obtain⟨b1,b2,b3⟩:=oh k.ris j;have U:=vC k.ris hf;rw[EY k.dum];refine⟨⟨k.msk,k.dum,?_,?_,?_,?_⟩,rfl,rfl,rfl⟩
 ·show(SetTable.insertAt t.place (below t.place j) j).size=_;rw[oj,oj,k.siz]
 ·intro i1 i2 a b O h1 h2;have Y:(SetTable.insertAt t.place (below t.place j) j)[i1]? =some a:=h1;have Z:(SetTable.insertAt t.place (below t.place j) j)[i2]? =some b:=h2;rw[eI _ _ _ b1]at Y Z;by_cases c1:i1<below t.place j
  ·rw[if_pos c1]at Y;by_cases c2:i2<below t.place j
   ·rw[if_pos c2]at Z;exact k.ris _ _ _ _ O Y Z
   ·rw[if_neg c2]at Z;by_cases c3:i2=below t.place j
    ·rw[if_pos c3]at Z;cases Z;exact b2 _ _ c1 Y
    ·rw[if_neg c3]at Z;exact k.ris _ _ _ _ (by omega) Y Z
  ·rw[if_neg c1]at Y;rw[if_neg (by omega),if_neg (by omega)]at Z
   by_cases c3:i1=below t.place j
   ·rw[if_pos c3]at Y;cases Y;have q:=b3 _ _ (by omega) Z
    have:b≠j:=fun z=>by subst z;exact U _ Z
    omega
   ·rw[if_neg c3]at Y;exact k.ris _ _ _ _ (by omega) Y Z
 ·intro i a h;have h':(SetTable.insertAt t.place (below t.place j) j)[i]? =some a:=h;rw[eI _ _ _ b1]at h';by_cases c1:i<below t.place j
  ·rw[if_pos c1]at h';exact k.inb _ _ h'
  ·rw[if_neg c1]at h';by_cases c3:i=below t.place j
   ·rw[if_pos c3]at h';cases h';exact hj
   ·rw[if_neg c3]at h';exact k.inb _ _ h'
 ·intro j' e' h;have up:∀{a b},At t.place es a b->At (SetTable.insertAt t.place (below t.place j) j) (SetTable.insertAt es (below t.place j) e) a b:=fun z=>(Ab k.siz b1 _ _).mpr (.inl z);rcases (Ab k.siz b1 j' e').mp h with h'|⟨rfl,rfl⟩
  ·obtain⟨n,h1,h2⟩:=k.way _ _ h';exact⟨n,h1,fun m hm=>let ⟨x,hx⟩:=h2 m hm;⟨x,up hx⟩⟩
  ·exact⟨K,hK,fun m hm=>let ⟨x,hx⟩:=hb m hm;⟨x,up hx⟩⟩
abbrev E1:=Array (Option Nat)
def yc(o:E1)(j:Nat):Prop:=∃ k,o[j]? =some (some k)
structure Laid(m:Nat)(hs:List Int)(o:E1):Prop where
 siz:o.size=m+1
 way:∀(j k:Nat),o[j]? =some (some k)->∃ x,hs[k]? =some x/\∃ n,(b7 m x n).j=j/\∀ i,i<n->yc o (b7 m x i).j
theorem qy{o:E1}(b0:o.size=m+1)(h:Int)(n':Nat)(hn:o[(fQ m h n').1]? =some none):∀(fuel n:Nat),n<=n'->n' - n<fuel->
  ∃ idx,pH m h n<=idx/\layClean.free m o fuel (fQ m h n).1 (fQ m h n).2=some (b7 m h idx).j/\o[(b7 m h idx).j]? =some none/\∀ i,pH m h n<=i->i<idx->yc o (b7 m h i).j
 |0,n,h1,h2=>by omega
 | fuel+1,n,h1,h2=>by
  have a6:runEnd m (fQ m h n).1+1 - (fQ m h n).1=run m (fQ m h n).1+1:=by
   unfold run runEnd;split<;>omega
  have b1:(fQ m h n).1+run m (fQ m h n).1<=m:=by
   have:=z8 m h n;unfold run runEnd;split<;>omega
  have get:∀ k,k<=run m (fQ m h n).1->o.getD ((fQ m h n).1+k) (some 0)=o[(fQ m h n).1+k]?.getD (some 0):=fun k _=>by simp
  have a4:∀ k,k<=run m (fQ m h n).1->(o.getD ((fQ m h n).1+k) (some 0)).isNone=false->yc o (b7 m h (pH m h n+k)).j:=fun k hk hq=>by
   rw[rS m h n k hk];have Z:(fQ m h n).1+k<o.size:=by omega
   rw[get k hk,JQ Z]at hq;cases e:o[(fQ m h n).1+k]with
   |none=>simp[e]at hq
   |some z=>exact⟨z,by rw[JQ Z,e]⟩
  unfold layClean.free;rw[a6];cases q:(List.range (run m (fQ m h n).1+1)).find? (fun k=>(o.getD ((fQ m h n).1+k) (some 0)).isNone)with
  | some k=>
   simp only;have hk:=List.find?_some q;have Y:k<=run m (fQ m h n).1:=by
    have:=List.mem_of_find?_eq_some q;rw[J5]at this;omega
   refine⟨pH m h n+k,by omega,by rw[rS m h n k Y],?_,fun i a b=>?_⟩
   ·rw[rS m h n k Y];have Z:(fQ m h n).1+k<o.size:=by omega
    rw[get k Y,JQ Z]at hk;rw[JQ Z];cases e:o[(fQ m h n).1+k]with
    |none=>rfl
    |some z=>simp[e]at hk
   ·obtain⟨d,rfl⟩:∃ d,i=pH m h n+d:=⟨i - pH m h n,by omega⟩
    refine a4 d (by omega) ?_
    have U:=List.find?_eq_some_iff_getElem.mp q;obtain⟨_,ix,b2,e1,e2⟩:=U;simp at e1;subst e1;have:=e2 d (by omega)
    simpa using this
  | none=>
   simp only;have U:=List.find?_eq_none.mp q;have O:∀ k,k<=run m (fQ m h n).1->yc o (b7 m h (pH m h n+k)).j:=fun k hk=>a4 k hk (by
    have:=U k (J5.mpr (by omega))
    exact Nd.mpr this)
   have b3:n≠n':=fun z=>by
    subst z;obtain⟨k,e⟩:=O 0 (J4 _);rw[rS m h n 0 (J4 _)]at e;rw[Nat.add_zero,hn]at e;cases e
   obtain⟨idx,g1,g2,g3,g4⟩:=qy b0 h n' hn fuel (n+1) (by omega) (by omega)
   have hK:pH m h (n+1)=pH m h n+run m (fQ m h n).1+1:=rfl;refine⟨idx,by omega,g2,g3,fun i a b=>?_⟩
   by_cases hi:pH m h (n+1)<=i
   ·exact g4 i hi b
   ·obtain⟨d,rfl⟩:∃ d,i=pH m h n+d:=⟨i - pH m h n,by omega⟩
    exact O d (by omega)
def cY(m:Nat)(f:Nat->Option Nat):List (Nat×Nat):=(List.range (m+1)).filterMap fun j=>(f j).map fun k=>(j,k)
theorem gI{α β:Type}{f g:α->Option β}:∀{l:List α},(∀ x∈l,f x=g x)->l.filterMap f=l.filterMap g
 |[],_=>rfl
 |x::l,h=>by rw[Kt,Kt,h x JX,gI fun y hy=>h y (JR _ hy)]
theorem Ac{f g:Nat->Option Nat}(hj:j<m+1)(hf:f j=none)(hg:g j=some k)(ho:∀ i,i≠j->g i=f i):(cY m g).Perm ((j,k)::cY m f):=by
 unfold cY;have e:List.range (m+1)=List.range j++j::(List.range' (j+1) (m - j)):=by
  rw[MH,MH,show m+1=j+(1+(m - j)) by omega, <-List.range'_append_1, <-List.range'_append_1]
  simp
 rw[e,List.filterMap_append,List.filterMap_append,Kt,Kt,hf,hg];simp only[Option.map_some,Option.map_none];rw[gI (l:=List.range j) (g:=fun j=>(f j).map fun k=>(j,k)) fun x hx=>by rw[ho x (by rw[J5]at hx;omega)],
  gI (l:=List.range' (j+1) (m - j)) (g:=fun j=>(f j).map fun k=>(j,k)) fun x hx=>by rw[ho x (by rw[Lq]at hx;omega)]]
 exact List.perm_middle
def fo(o:E1)(j:Nat):Option Nat:=o.getD j none
theorem om:fo o j=some k↔o[j]? =some (some k):=by
 unfold fo;rw[Km];cases o[j]? with
 |none=>simp
 |some z=>simp
structure LaidN(m:Nat)(hs:List Int)(o:E1):Prop extends Laid m hs o where
 all:((cY m (fo o)).map (·.2)).Perm (List.range hs.length)
theorem tV(L:LaidN m hs o):(cY m (fo o)).length=hs.length:=by
 have:=L.all.length_eq;simpa using this
theorem tW(L:LaidN m hs o)(hl:hs.length<=m):∃ j,j<=m/\o[j]? =some none:=by
 apply M0;intro hn;have Z:∀ j,j∈List.range (m+1)->∃ k,fo o j=some k:=fun j hj=>by
  rw[J5]at hj;have Y:j<o.size:=by rw[L.siz];exact hj
  cases e:o[j]with
  |none=>exact absurd ⟨j,by omega,by rw[JQ Y,e]⟩ hn
  |some k=>exact⟨k,om.mpr (by rw[JQ Y,e])⟩
 have:∀ l:List Nat,(∀ j∈l,∃ k,fo o j=some k)->(l.filterMap fun j=>(fo o j).map fun k=>(j,k)).length=l.length:=by
  intro l
  induction l with
  |nil=>intro _;rfl
  |cons x l ih=>
   intro h;obtain⟨k,e⟩:=h x JX;rw[Kt,e];simp only[Option.map_some,List.length_cons];rw[ih fun j hj=>h j (JR _ hj)]
 have h1:=this _ Z;have h2:=tV L;unfold cY at h2;rw[h1,Kj]at h2;omega
theorem Ad(hm:Dz m)(L:LaidN m hs o)(hl:hs.length<=m)(x:Int):
  ∃ j,layClean.free m o (turns m) (bits x % (m+1)) (bits x)=some j/\LaidN m (hs++[x]) (o.setIfInBounds j (some hs.length)):=by
 obtain⟨j0,O,U⟩:=tW L hl;obtain⟨n',a4,Y⟩:=z9 hm x j0 O;obtain⟨idx,_,g2,g3,g4⟩:=qy L.siz x n' (by rw[Y];exact U) (turns m) 0 (J4 _) (by unfold turns;omega)
 refine⟨(b7 m x idx).j,g2,?_⟩;generalize hj:(b7 m x idx).j=j at g3 ⊢;have Z:j<o.size:=(J9.mp g3).1;have self:(o.setIfInBounds j (some hs.length))[j]? =some (some hs.length):=by simp[Z]
 have oth:∀ i,i≠j->(o.setIfInBounds j (some hs.length))[i]? =o[i]? :=fun i hi=>by
  rw[Array.getElem?_setIfInBounds_ne (Ne.symm hi)]
 have up:∀ i,yc o i->yc (o.setIfInBounds j (some hs.length)) i:=fun i ⟨k,e⟩=>by
  by_cases hi:i=j
  ·subst hi;exact⟨_,self⟩
  ·exact⟨k,by rw[oth i hi];exact e⟩
 refine⟨⟨by rw[Array.size_setIfInBounds];exact L.siz,fun i k e=>?_⟩,?_⟩
 ·by_cases hi:i=j
  ·subst hi;rw[self]at e;cases e;exact⟨x,by simp,idx,hj,fun q hq=>up _ (g4 q (J4 _) hq)⟩
  ·rw[oth i hi]at e;obtain⟨y,h1,n,h2,h3⟩:=L.way i k e;refine⟨y,?_,n,h2,fun q hq=>up _ (h3 q hq)⟩;rw[Kl (JN.mp h1).1];exact h1
 ·have hp:=Ac (m:=m) (j:=j) (k:=hs.length) (f:=fo o) (g:=fo (o.setIfInBounds j (some hs.length))) (by rw[<-L.siz];exact Z)
   (by unfold fo;rw[Km,g3];rfl) (om.mpr self) (fun i hi=>by unfold fo;rw[Km,Km,oth i hi])
  refine(hp.map (·.2)).trans ?_;rw[JM,MB,List.range_succ];exact(List.Perm.cons _ L.all).trans (List.perm_append_singleton _ _).symm
theorem wJ(hm:Dz m):∀(rest hs:List Int) (o:E1),LaidN m hs o->hs.length+rest.length<=m+1->
  ∃ o',rest.foldl (fun(acc:Option (E1×Nat)) h=>do
   let (owner,k)<-acc;let j<-layClean.free m owner (turns m) (bits h % (m+1)) (bits h)
   pure (owner.setIfInBounds j (some k),k+1)) (some (o,hs.length))=some (o',hs.length+rest.length)/\LaidN m (hs++rest) o'
 |[],hs,o,L,_=>⟨o,rfl,by rw[Kd];exact L⟩
 |x::rest,hs,o,L,hl=>by
  rw[JY]at hl;obtain⟨j,e,L'⟩:=Ad hm L (by omega) x
  obtain⟨o',e',Z⟩:=wJ hm rest (hs++[x]) _ L' (by simp;omega)
  refine⟨o',?_,by rw[J7]at Z;exact Z⟩
  rw[List.foldl_cons];simp only[Option.bind_eq_bind,Option.bind_some,e];rw[JM,MB]at e';simp only[Option.bind_eq_bind]at e';rw[JY,show hs.length+(rest.length+1)=hs.length+1+rest.length by omega]
  exact e'
theorem yd(hm:Dz m)(Z:Array Int)(hl:Z.size<=m+1):∃ o,layClean m Z=some o/\LaidN m Z.toList o:=by
 have L0:LaidN m [] (Array.replicate (m+1) none):=by
  refine⟨⟨by simp,fun j k e=>?_⟩,?_⟩
  ·rw[Nf]at e;split at e<;>cases e
  ·have:cY m (fo (Array.replicate (m+1) none))=[]:=by
    unfold cY;rw[List.filterMap_eq_nil_iff];intro j _;have:fo (Array.replicate (m+1) none) j=none:=by
     cases e:fo (Array.replicate (m+1) none) j with
     |none=>rfl
     |some k=>
      rw[om,Nf]at e;split at e<;>cases e
    rw[this];rfl
   rw[this];exact .refl _
 obtain⟨o,e,L⟩:=wJ hm Z.toList [] _ L0 (by simpa using hl)
 refine⟨o,?_,by simpa using L⟩
 unfold layClean;rw[<-Array.foldl_toList];rw[show(Array.replicate (m+1) (none:Option Nat),0)=(Array.replicate (m+1) none,([]:List Int).length)from rfl];rw[e];rfl
theorem oo(f:Nat->Option Nat):∀ l:List Nat,((l.filterMap fun j=>(f j).map fun k=>(j,k)).map (·.1)).Sublist l
 |[]=>.slnil
 |x::l=>by
  rw[Kt];cases f x with
  |none=>exact .cons _ (oo f l)
  |some k=>exact .cons₂ _ (oo f l)
theorem oq{f:Nat->Option Nat}:(j,k)∈cY m f↔j<m+1/\f j=some k:=by
 unfold cY;rw[K9];constructor
 ·rintro⟨a,h1,h2⟩;cases e:f a with
  |none=>rw[e]at h2;cases h2
  |some b=>
   rw[e]at h2;cases h2;exact⟨J5.mp h1,e⟩
 ·rintro⟨h1,h2⟩;exact⟨j,J5.mpr h1,by rw[h2];rfl⟩
theorem E5{l:List Nat}(h:l.Pairwise (· <·)):Cg l.toArray:=by
 intro i j a b Z ha hb;rw[Ll]at ha hb;obtain⟨hi,ea⟩:=JN.mp ha;obtain⟨hj,eb⟩:=JN.mp hb;have:=M1.mp h i j hi hj Z;rw[ea,eb]at this;exact this
theorem Ae{α β:Type}{f:α->Option β}:∀{l:List α},(∀ x∈l,∃ y,f x=some y)->∀ i:Nat,(l.filterMap f)[i]? =l[i]?.bind f
 |[],_,i=>by simp
 |x::l,h,i=>by
  obtain⟨y,e⟩:=h x JX;rw[Kt,e];cases i with
  |zero=>simp[e]
  |succ i=>simpa using Ae (fun z hz=>h z (JR _ hz)) i
theorem Ci{es:Array Ent}(hm:Dz m)(hf:es.size*5<m*3)(fg mv:Nat)(ld pl:Bool):
  ∃(t':SetTable) (order:Array Nat),laid m fg mv ld pl (es.map (·.1))=some (t',order)/\order.toList.Perm (List.range es.size)/\(order.filterMap (es[·]?)).size=es.size/\TOk t' (order.filterMap (es[·]?))/\t'.led=ld/\t'.plain=pl/\t'.mask=m:=by
 obtain⟨o,e,L⟩:=yd hm (es.map (·.1)) (by rw[Array.size_map];omega)
 have hlen:(es.map (·.1)).toList.length=es.size:=by simp
 have Z:=L.all;rw[hlen]at Z;have hk:∀ p∈cY m (fo o),∃ y,es[p.2]? =some y:=fun p hp=>by
  have:p.2∈List.range es.size:=Z.mem_iff.mp (List.mem_map_of_mem hp);rw[J5]at this;exact⟨es[p.2],JQ this⟩
 have O:(((cY m (fo o)).map (·.2)).toArray.filterMap (es[·]?)).toList=((cY m (fo o)).map (·.2)).filterMap (es[·]?):=by
  rw[Array.toList_filterMap]
 have U:(((cY m (fo o)).map (·.2)).toArray.filterMap (es[·]?)).toList.Perm es.toList:=by
  rw[O];exact(Z.filterMap _).trans (by rw[filterMap_getElem?_range])
 have Y:(((cY m (fo o)).map (·.2)).toArray.filterMap (es[·]?)).size=es.size:=by
  have:=U.length_eq;simpa using this
 have a4:∀(j:Nat) (x:Ent),At (((cY m (fo o)).map (·.1)).toArray) (((cY m (fo o)).map (·.2)).toArray.filterMap (es[·]?)) j x↔∃ k,(j,k)∈cY m (fo o)/\es[k]? =some x:=by
  intro j x;have key:∀ i:Nat,(((cY m (fo o)).map (·.2)).toArray.filterMap (es[·]?))[i]? =((cY m (fo o))[i]?).bind fun p=>es[p.2]? :=fun i=>by
   rw[<-Kc,O,Ae (fun z hz=>by
    obtain⟨p,hp,rfl⟩:=Kh.mp hz;exact hk p hp) i,J6]
   cases (cY m (fo o))[i]? <;>rfl
  constructor
  ·rintro⟨i,h1,h2⟩;rw[Ll,J6]at h1;rw[key]at h2;cases q:(cY m (fo o))[i]? with
   |none=>rw[q]at h1;cases h1
   |some p=>
    rw[q]at h1 h2;cases h1;exact⟨p.2,Ke q,h2⟩
  ·rintro⟨k,h1,h2⟩;obtain⟨i,hi⟩:=LQ.mp h1;exact⟨i,by rw[Ll,J6,hi];rfl,by rw[key,hi];exact h2⟩
 refine⟨⟨m,((cY m (fo o)).map (·.1)).toArray, #[],fg,ld,mv,pl⟩,((cY m (fo o)).map (·.2)).toArray,?_,by simpa using Z,Y,⟨⟨hm,rfl,?_,?_,?_,?_⟩,?_⟩,rfl,rfl,rfl⟩
 ·unfold laid;rw[e];rfl
 ·rw[Y];show(((cY m (fo o)).map (·.1)).toArray).size=_;rw[JU,JI,tV L,hlen]
 ·exact E5 (List.Pairwise.sublist (oo _ _) List.pairwise_lt_range)
 ·intro i a h;have h':(((cY m (fo o)).map (·.1)).toArray)[i]? =some a:=h;rw[Ll]at h';obtain⟨p,hp,rfl⟩:=Kh.mp (Ke h');have:=(oq.mp hp).1;show p.1<=m;omega
 ·intro j x hx;obtain⟨k,h1,h2⟩:=(a4 j x).mp hx;obtain⟨h3,h4⟩:=oq.mp h1;obtain⟨y,g1,n,g2,g3⟩:=L.way j k (om.mp h4);have ey:y=x.1:=by
   rw[Kc,Array.getElem?_map,h2]at g1;cases g1;rfl
  subst ey;refine⟨n,g2,fun i hi=>?_⟩;obtain⟨k',g5⟩:=g3 i hi;have b0:(b7 m x.1 i).j<m+1:=by rw[<-L.siz];exact(J9.mp g5).1
  have a6:=oq.mpr ⟨b0,om.mpr g5⟩;obtain⟨e',g6⟩:=hk _ a6;exact⟨e',(a4 _ _).mpr ⟨k',a6,g6⟩⟩
 ·rw[Y];exact hf
theorem ye{t:SetTable}{es:Array Ent}(hn:es.size=5):∃(t':SetTable) (order:Array Nat),t.relaid (es.map (·.1)) (SetTable.grown 5)=some (t',order)/\order.toList.Perm (List.range es.size)/\(order.filterMap (es[·]?)).size=es.size/\
  TOk t' (order.filterMap (es[·]?))/\t'.led=t.led/\t'.plain=t.plain:=by
 obtain⟨t',o,h1,h2,Z,h3,h4,h5,_⟩:=Ci (es:=es) (m:=31) (.inr rfl) (by rw[hn];decide) t.finger (t.movedTo 31) t.led t.plain
 exact⟨t',o,h1,h2,Z,h3,h4,h5⟩
end S4
namespace S4
open PySem PySem.Spec PyProof.Rows
section
variable {prog:Program}{w:World}{A:Around}{E:Value->Shared->Prop}{s:Shared}
theorem items_int(h:ItemsAre (intKind prog w) ks vs):∀ v∈vs,∃ n t,v=Value.int n t:=by
 induction h with
 |nil=>intro v hv;cases hv
 | cons h1 _ ih=>
  intro v hv;rcases J2.mp hv with rfl|hv
  ·obtain⟨t,e⟩:=Value.isInt_shape h1;exact⟨_,t,e⟩
  ·exact ih v hv
theorem yf{Q:Bool->Shared->Prop}(hk:IsTupleKey (intKind prog w) s.heap ks a)(h:Q true s):wpAny (model prog w) A (hashByValue 8 (.ref a)) Q E s:=by
 have hT:=hk.typeIs;obtain⟨o,items,n,ho,_,hd,hi⟩:=hk;unfold hashByValue;refine JG (wpAny_specialOf hT F.slot_tuple_hash.lookup ?_);show wpAny _ _ (seqItems? (.ref a)>>=_) _ _ s;refine JG (K8 ho hd ?_);refine JG ?_;show wpAny _ _ (forIn items _ _) _ _ s;rw[<-Array.forIn_toList];refine MD _ (fun rest r s'=>r.1=none/\s'=s/\∀ v∈rest,∃ n t,v=Value.int n t) _ ?_ ?_ _ _ ⟨rfl,rfl,items_int hi⟩
 ·rintro v rest r s' ⟨hr,rfl,hall⟩;obtain⟨i,t,rfl⟩:=hall v JX;refine JG ?_;unfold hashByValue;refine JJ ?_;simp only[Bool.not_true,Bool.false_eq_true,if_false];exact JJ ⟨rfl,rfl,fun u Z=>hall u (JR _ Z)⟩
 ·rintro⟨r1,r2⟩ s' ⟨hr,rfl,_⟩;simp only at hr;subst hr;exact JJ h
theorem mC{Q:Bool->Shared->Prop}(hk:IsTupleKey (intKind prog w) s.heap ks a)(h:Q false s):wpAny (model prog w) A (ofAClassStatement 8 (.ref a)) Q E s:=by
 have hT:=hk.typeIs;obtain⟨o,items,n,ho,_,hd,hi⟩:=hk;unfold ofAClassStatement;refine JG (Me hT ?_);simp only;rw[if_pos (by decide)]
 refine JG (JJ ?_);simp only[Bool.not_true,Bool.false_eq_true,if_false];refine JG (K8 ho hd ?_);simp only;refine JG ?_;show wpAny _ _ (forIn items _ _) _ _ s;rw[<-Array.forIn_toList];refine MD _ (fun rest r s'=>r.1=none/\s'=s/\∀ v∈rest,∃ n t,v=Value.int n t) _ ?_ ?_ _ _ ⟨rfl,rfl,items_int hi⟩
 ·rintro v rest r s' ⟨hr,rfl,hall⟩;obtain⟨i,t,rfl⟩:=hall v JX;refine JG ?_;unfold ofAClassStatement;refine JJ ?_;simp only[Bool.false_eq_true,if_false];exact JJ ⟨rfl,rfl,fun u Z=>hall u (JR _ Z)⟩
 ·rintro⟨r1,r2⟩ s' ⟨hr,rfl,_⟩;simp only at hr;subst hr;exact JJ h
theorem E6(hx:IsTupleKey (intKind prog w) s.heap kx ax)(hy:∀ y∈ys,∃ k a,y= .ref a/\IsTupleKey (intKind prog w) s.heap k a){Q:Bool->Shared->Prop}(h:Q false s):
  wpAny (model prog w) A (searchCouldBeSeen (.ref ax) ys) Q E s:=by
 unfold searchCouldBeSeen;refine JG ?_;refine MD _ (fun rest r s'=>r.1=none/\s'=s/\∀ v∈rest,∃ k a,v= .ref a/\IsTupleKey (intKind prog w) s.heap k a) _ ?_ ?_ _ _ ⟨rfl,rfl,hy⟩
 ·rintro v rest r s' ⟨hr,rfl,hall⟩;obtain⟨k,a,rfl,hk⟩:=hall v JX;have tl:∀ u∈rest,∃ k a,u= .ref a/\IsTupleKey (intKind prog w) s'.heap k a:=fun u Z=>hall u (JR _ Z);simp only;split
  ·exact JJ ⟨rfl,rfl,tl⟩
  ·refine JG (wpAny_eqIsQuiet_tuple hx ?_);simp only[Bool.not_true,Bool.false_eq_true,if_false];refine JG (wpAny_eqIsQuiet_tuple hk ?_);simp only[Bool.not_true,Bool.false_eq_true,if_false];refine JG (mC hx ?_);simp only[Bool.false_eq_true,if_false];refine JG (mC hk ?_);simp only[Bool.false_eq_true,if_false];exact JJ ⟨rfl,rfl,tl⟩
 ·rintro⟨r1,r2⟩ s' ⟨hr,rfl,_⟩;simp only at hr;subst hr;exact JJ h
abbrev KA:=List Int×Addr
def gU(prog:Program)(w:World)(k:List Int):Int:=tupleKeyHash (intKind prog w) k
def ent(prog:Program)(w:World)(p:KA):Ent:=(gU prog w p.1,.ref p.2)
def vD(prog:Program)(w:World)(h:Heap)(L:List KA):Prop:=∀ p∈L,IsTupleKey (intKind prog w) h p.1 p.2
structure SetAt(prog:Program)(w:World)(h:Heap)(a:Addr)(o:Obj)(es:Array Ent)(ep:Nat)(t:SetTable)(L:List KA):Prop where
 get:h.get? a=some o
 ex:o.ExactSet
 dat:o.data= .set es ep t
 ok:TOk t es
 pln:t.plain=true
 led:t.led= !(w.params.followText "set-order")
 ents:es.toList=L.map (ent prog w)
 nd:(L.map (·.1)).Nodup
theorem SetAt.fits(k:SetAt prog w h a o es ep t L):t.fits es.size=true:=k.ok.fits k.ok.le
theorem SetAt.ent_at(k:SetAt prog w h a o es ep t L)(i:Nat):es[i]? =(L[i]?).map (ent prog w):=by
 rw[<-Kc,k.ents,J6]
theorem SetAt.len(k:SetAt prog w h a o es ep t L):es.size=L.length:=by
 rw[<-Lw,k.ents,JI]
theorem Af{t:SetTable}:t.sameMemory t.moves t.mask=some true:=by
 unfold SetTable.sameMemory;simp
theorem qz{a ax:Addr}{o:Obj}{es:Array Ent}{ep:Nat}{t:SetTable}{L:List KA}{kx:List Int}(hu:A.units<cLine)(k:SetAt prog w s.heap a o es ep t L)(hL:vD prog w s.heap L)(hx:IsTupleKey (intKind prog w) s.heap kx ax)
  {K:Nat} (hK:t.slot (b7 t.mask (gU prog w kx) K).j= .empty) (a4:K<10*SetTable.turns t.mask) {Q:SetFound->Shared->Prop}
  (Y:kx∈L.map (·.1)->Q (.there none) s)
  (b1:kx ∉ L.map (·.1)->∀ n,t.slot (b7 t.mask (gU prog w kx) n).j= .empty->(∀ m,m<n->∃ i,t.slot (b7 t.mask (gU prog w kx) m).j= .live i)->Q (.free (b7 t.mask (gU prog w kx) n).j false) s):
  ∀(fuel n:Nat) (st:Option SetTable.Probe),st.getD (t.probeStart (gU prog w kx))=b7 t.mask (gU prog w kx) n->n<=K->K - n<fuel->
   (∀ m,m<n->∃ i,t.slot (b7 t.mask (gU prog w kx) m).j= .live i/\∀ p,L[i]? =some p->p.1≠kx)->wpAny (model prog w) A (setSearchFrom a (.ref ax) (gU prog w kx) true fuel st) Q E s
 |0,n,st,e,h1,h2,h3=>by omega
 | fuel+1,n,st,e,h1,h2,h3=>by
  have odd:t.gaveWay=false:=by
   unfold SetTable.gaveWay;rcases k.ok.msk with h|h<;>rw[h]<;>rfl
  unfold setSearchFrom;refine JG (K6 k.get k.dat k.fits ?_);simp only;rw[odd];simp only[Bool.false_eq_true,if_false];rw[e];obtain⟨n',g1,g2,g3,g4⟩:=wI k.ok.dum (fun i=>(es[i]?.map (·.1)).getD 0) (gU prog w kx) K hK (10*SetTable.turns t.mask) n h1 (by omega)
  have stored:∀(i:Nat) (p:KA),L[i]? =some p->(es[i]?.map (·.1)).getD 0=gU prog w p.1:=fun i p hp=>by
   rw[k.ent_at,hp];rfl
  have before:∀ m,m<n'->∃ i,t.slot (b7 t.mask (gU prog w kx) m).j= .live i/\∀ p,L[i]? =some p->p.1≠kx:=fun m hm=>by
   by_cases hmn:m<n
   ·exact h3 m hmn
   ·obtain⟨i,q1,q2⟩:=g3 m (by omega) hm
    refine⟨i,q1,fun p hp z=>q2 ?_⟩;rw[stored i p hp,z]
  rcases g4 with⟨c1,c2⟩|⟨i,c1,c2,c3⟩
  ·generalize hpr:t.probe _ (gU prog w kx) (b7 t.mask (gU prog w kx) n)=pr;have ep:pr=some (.empty (b7 t.mask (gU prog w kx) n').j none):=hpr.symm.trans c2;subst ep;simp only;refine JJ (b1 (fun b4=>?_) n' c1 fun m hm=>let ⟨i,q,_⟩:=before m hm;⟨i,q⟩);obtain⟨p,hp,rfl⟩:=Kh.mp b4;obtain⟨ip,b3⟩:=LQ.mp hp;have Z:es[ip]? =some (ent prog w p):=by rw[k.ent_at,b3];rfl
   have O:ip<t.place.size:=by rw[k.ok.siz];exact(J9.mp Z).1
   have c4:At t.place es t.place[ip] (ent prog w p):=⟨ip,JQ O,Z⟩;obtain⟨kk,w1,w2⟩:=k.ok.way _ _ c4;have b0:(b7 t.mask (gU prog w p.1) kk).j=t.place[ip]:=w1;rcases Nat.lt_or_ge kk n' with l|l
   ·obtain⟨i,q1,q2⟩:=before kk l;rw[b0,nk k.ok.ris (JQ O)]at q1;cases q1;exact q2 p b3 rfl
   ·rcases Nat.eq_or_lt_of_le l with l|l
    ·subst l;rw[b0,nk k.ok.ris (JQ O)]at c1;cases c1
    ·obtain⟨e',i',q1,_⟩:=w2 n' l;have b6:t.place[i']? =some (b7 t.mask (gU prog w p.1) n').j:=q1;rw[nk k.ok.ris b6]at c1;cases c1
  ·generalize hpr:t.probe _ (gU prog w kx) (b7 t.mask (gU prog w kx) n)=pr;have ep:pr=some (.candidate (b7 t.mask (gU prog w kx) n').j i (b7 t.mask (gU prog w kx) (n'+1))):=hpr.symm.trans c3;subst ep;simp only;have hi:i<es.size:=by rw[<-k.ok.siz];exact(J9.mp (lV c1)).1
   have U:i<L.length:=by rw[<-k.len];exact hi
   have hp:L[i]? =some L[i]:=JL U;have Z:es[i]? =some (ent prog w L[i]):=by rw[k.ent_at,hp];rfl
   have b5:IsTupleKey (intKind prog w) s.heap L[i].1 L[i].2:=hL _ (KU U);have c0:∀ y∈List.map (fun x:Ent=>x.snd) (Array.filter (fun x:Ent=>x.fst==gU prog w kx) es).toList,∃ k a,y= .ref a/\IsTupleKey (intKind prog w) s.heap k a:=fun y hy=>by
    obtain⟨e1,h1,rfl⟩:=Kh.mp hy;have a6:e1∈es.toList:=by
     have:=MF.mp h1;exact MF.mpr (Array.mem_filter.mp this).1
    rw[k.ents]at a6;obtain⟨p,hp,rfl⟩:=Kh.mp a6;exact⟨p.1,p.2,rfl,hL p hp⟩
   split
   case' isTrue=>
    refine JG (E6 hx c0 ?_);simp only[Bool.false_eq_true,if_false]
   all_goals
    rw[Z];simp only[ent];refine JG (Ko (wpAny_eqBool_tuple hu b5 hx ?_));refine JG (K6 k.get k.dat k.fits ?_);by_cases hq:L[i].1=kx
    ·rw[JZ hq];simp only[Bool.and_self,if_true];exact JJ (Y (Kh.mpr ⟨_,KU U,hq⟩))
    ·rw[Kr hq];simp only[Bool.and_false,Bool.false_eq_true,if_false];rw[Af];simp only[if_true];rw[c1];simp only;rw[Z];simp only[ent];refine JG (wpAny_isSame_ref_self (JG (JJ ?_)));simp only[if_true];refine qz hu k hL hx hK a4 Y b1 fuel (n'+1) _ rfl ?_ ?_ fun m hm=>?_
     ·have:n'≠K:=fun z=>by subst z;rw[hK]at c1;cases c1
      omega
     ·have:n'≠K:=fun z=>by subst z;rw[hK]at c1;cases c1
      omega
     ·by_cases hmn:m<n'
      ·exact before m hmn
      ·have:m=n':=by omega
       subst this;exact⟨i,c1,fun p b2=>by rw[hp]at b2;cases b2;exact hq⟩
end
def Hb(L:List KA)(p:KA)(L':List KA):Prop:=(p.1∈L.map (·.1)/\L'=L)\/(p.1 ∉ L.map (·.1)/\L'.Perm (p::L))
section
variable {prog:Program}{w:World}{A:Around}{E:Value->Shared->Prop}{s:Shared}
theorem wK{h:Heap}(ho:h.get? a=some o)(hd:o.data= .set es ep t):(h.update a (Obj.putSet es' t')).get? a=some {o with data:=.set es' (ep+1) t'}:=by
 have:=Kx (Obj.putSet es' t') ho (by rw[putSet_of es' t' hd];rfl)
 rw[putSet_of es' t' hd]at this;exact this
theorem E7(hu:A.units<cLine)(k:SetAt prog w s.heap a o es ep t L)(hL:vD prog w s.heap L)(hx:IsTupleKey (intKind prog w) s.heap kx ax)
  (c6:L.length<18) {Q:Bool->Shared->Prop}
  (h:∀ b h' o' es' ep' t' L',SetAt prog w h' a o' es' ep' t' L'->Heap.SameBut a s.heap h'->Hb L (kx,ax) L'->Q b {s with heap:=h'}):
  wpAny (model prog w) A (setAddHashed a (.ref ax) (gU prog w kx)) Q E s:=by
 obtain⟨j0,c1,c0⟩:=yb k.ok.ris k.ok.dum (by rw[k.ok.siz];exact k.ok.le)
 obtain⟨K,c3,c2⟩:=cover k.ok.msk (gU prog w kx) j0 c1;have c5:10*SetTable.turns t.mask<=100000:=by
  unfold SetTable.turns;rcases k.ok.msk with z|z<;>rw[z]<;>decide
 unfold setAddHashed setAddHashedIn;refine Ko (JG (K6 k.get k.dat k.fits ?_));have b6:byScan (.ref ax) es=false:=by simp[byScan,Value.scannable]
 simp only[b6,Bool.false_eq_true,if_false];unfold setSearch;refine JG ?_;refine qz hu k hL hx (by rw[c2];exact c0) c3 ?_ ?_ 100000 0 none rfl (J4 _) (by omega) (fun m hm=>by omega)
 ·intro Y;simp only;refine JJ ?_;have e:s={s with heap:=s.heap}:=by cases s;rfl
  rw[e];exact h _ s.heap o es ep t L k (Heap.SameBut.refl a s.heap) (.inl ⟨Y,rfl⟩)
 ·intro Y n hn hb;simp only;refine JG (K6 k.get k.dat k.fits ?_);generalize hj:(b7 t.mask (gU prog w kx) n).j=j at hn;have b5:j<=t.mask:=by
   rw[<-hj];rcases Nat.eq_zero_or_pos n with z|z
   ·subst z;show SetTable.bits _ % (t.mask+1)<=t.mask;have:=M9 (SetTable.bits (gU prog w kx)) (show t.mask+1>0 by omega)
    omega
   ·exact Cf _ _ _ k.ok.msk
  obtain⟨p1,p2,p3,p4⟩:=EZ (e:=ent prog w (kx,ax)) (K:=n) k.ok.toTPre b5 hn hj fun m hm=>by
   obtain⟨i,q⟩:=hb m hm;obtain⟨e',_,q'⟩:=k.ok.toTPre.at_of (lV q);exact⟨e',q'⟩
  generalize hP:t.put j=P at p1 p2 p3 p4 ⊢;obtain⟨t1,pp⟩:=P;simp only at p1 p2 p3 p4 ⊢;have p1:TPre t1 (SetTable.insertAt es pp (gU prog w kx,Value.ref ax)):=p1;rw[if_pos (by rw[p4];exact k.pln)]
  refine JG (yf hx ?_);simp only[if_true];have Z:(SetTable.insertAt es pp (gU prog w kx,Value.ref ax)).size=es.size+1:=oj _ _ _;have hlen:=k.len;refine JG (wpAny_storeSet_of k.get k.dat ?_ (by rw[Z,KN];omega))
  have g1:=wK (es':=SetTable.insertAt es pp (gU prog w kx,Value.ref ax)) (t':=t1) k.get k.dat;have b2:=K7 s.heap a (Obj.putSet (SetTable.insertAt es pp (gU prog w kx,Value.ref ax)) t1);have O:(SetTable.insertAt es pp (gU prog w kx,Value.ref ax)).toList=(L.take pp++(kx,ax)::L.drop pp).map (ent prog w):=by
   rw[SetTable.toList_insertAt,k.ents,Kv,J3,List.map_take,List.map_drop];rfl
  have U:(L.take pp++(kx,ax)::L.drop pp).Perm ((kx,ax)::L):=by
   have:=List.perm_middle (a:=(kx,ax)) (l₁:=L.take pp) (l₂:=L.drop pp)
   rwa [List.take_append_drop]at this
  have c4:((kx::L.map (·.1))).Nodup:=Ku.mpr ⟨Y,k.nd⟩;have b3:∀ L':List KA,L'.Perm ((kx,ax)::L)->(L'.map (·.1)).Nodup:=fun L' hp=>(Lx (hp.map (fun p:KA=>p.1))).mpr c4;by_cases hful:t1.tooFull=true
  ·rw [hful];simp only[Bool.not_false,Bool.and_self,if_true];have b0:(es.size+1)*5 ≥ t.mask*3:=by
    unfold SetTable.tooFull SetTable.fill at hful;rw[p1.siz,p1.dum,p2,Z]at hful;simpa using hful
   have h5:es.size+1=5:=by
    have:=k.ok.few;rcases k.ok.msk with z|z<;>rw[z]at b0 this<;>omega
   obtain⟨t2,ord,r1,r2,r3,r4,r5,r6⟩:=ye (t:=t1) (es:=SetTable.insertAt es pp (gU prog w kx,Value.ref ax)) (by rw[Z];exact h5)
   have b4:t1.fits (SetTable.insertAt es pp (gU prog w kx,Value.ref ax)).size=true:=p1.fits (by
    rw[Z,p2];have:=k.ok.few;rcases k.ok.msk with z|z<;>rw[z]at this ⊢<;>omega)
   unfold setRelay;refine JG (JG (K6 (s:={s with heap:=s.heap.update a (Obj.putSet (SetTable.insertAt es pp (gU prog w kx,Value.ref ax)) t1)}) g1 rfl b4 ?_));simp only;rw[h5];rw[if_neg (by rw[KN];decide)]
   rw[r1];refine JG ?_;have step:∀(R:Array Ent×SetTable->Shared->Prop) (s1:Shared),R (ord.filterMap ((SetTable.insertAt es pp (gU prog w kx,Value.ref ax))[·]?),t2) s1->
     wpAny (model prog w) A (if ((ord.filterMap ((SetTable.insertAt es pp (gU prog w kx,Value.ref ax))[·]?)).size !=(SetTable.insertAt es pp (gU prog w kx,Value.ref ax)).size)=true
      then (do unsupported "internal:set-table-lost-an-element";pure (ord.filterMap ((SetTable.insertAt es pp (gU prog w kx,Value.ref ax))[·]?),t2))else pure (ord.filterMap ((SetTable.insertAt es pp (gU prog w kx,Value.ref ax))[·]?),t2)) R E s1:=fun R s1 hR=>by
    rw[if_neg (by rw[r3];simp)]
    exact JJ hR
   refine step _ _ ?_;refine wpAny_storeSet_of (s:={s with heap:=s.heap.update a (Obj.putSet (SetTable.insertAt es pp (gU prog w kx,Value.ref ax)) t1)}) g1 rfl ?_ (by rw[r3,Z,KN];omega)
   have a6:(ord.filterMap ((SetTable.insertAt es pp (gU prog w kx,Value.ref ax))[·]?)).toList=(ord.toList.filterMap ((L.take pp++(kx,ax)::L.drop pp)[·]?)).map (ent prog w):=by
    rw[Array.toList_filterMap,List.map_filterMap];refine gI fun i _=>?_;rw[<-Kc,O,J6]
   have a4:(ord.toList.filterMap ((L.take pp++(kx,ax)::L.drop pp)[·]?)).Perm ((kx,ax)::L):=by
    refine(r2.filterMap _).trans ?_;have e1:(SetTable.insertAt es pp (gU prog w kx,Value.ref ax)).size=(L.take pp++(kx,ax)::L.drop pp).length:=by
     rw[<-Lw,O,JI]
    rw[e1,List.filterMap_getElem?_range_length];exact U
   refine JJ (h _ _ _ _ _ _ _ ⟨wK g1 rfl,k.ex,rfl,r4,by rw[r6,p4];exact k.pln,by rw[r5,p3];exact k.led,a6,b3 _ a4⟩ (b2.trans (K7 _ a _)) (.inr ⟨Y,a4⟩))
  ·simp only[hful,Bool.and_false,Bool.false_eq_true,if_false];refine JJ ?_;refine h _ _ _ _ _ _ _ ⟨g1,k.ex,rfl,⟨p1,?_⟩,by rw[p4];exact k.pln,by rw[p3];exact k.led,O,b3 _ U⟩ b2 (.inr ⟨Y,U⟩)
   unfold SetTable.tooFull SetTable.fill at hful;rw[p1.siz,p1.dum]at hful;have b1:¬ (SetTable.insertAt es pp (gU prog w kx,Value.ref ax)).size*5 ≥ t1.mask*3:=by simpa using hful
   exact Nat.lt_of_not_ge b1
end
theorem vE{h':Heap}(x:IsTupleKey (intKind prog w) h k a)(e:∀ o,h.get? a=some o->h'.get? a=some o):IsTupleKey (intKind prog w) h' k a:=
 let ⟨o,its,n,ho,r⟩:=x
 ⟨o,its,n,e o ho,r⟩
theorem SetAt.at{h':Heap}(k:SetAt prog w h a o es ep t L)(e:∀ o,h.get? a=some o->h'.get? a=some o):SetAt prog w h' a o es ep t L:=
 {k with get:=e o k.get}
structure Folded(kv L:List KA):Prop where
 nd:(L.map (·.1)).Nodup
 mem:∀ k,k∈L.map (·.1)↔k∈kv.map (·.1)
 sub:∀ p∈L,p∈kv
 len:L.length<=kv.length
theorem Folded.nil:Folded [] []:=⟨.nil,fun _=>.rfl,fun _ h=>h,JK _⟩
theorem Folded.add(f:Folded kv L)(h:Hb L p L'):Folded (kv++[p]) L':=by
 rcases h with⟨h1,rfl⟩|⟨h1,h2⟩
 ·refine⟨f.nd,fun k=>?_,fun q hq=>L3 _ (f.sub q hq),by have:=f.len;simp;omega⟩
  rw[f.mem,Kv,LM];refine⟨.inl,fun z=>z.elim id fun z=>?_⟩;have:k=p.1:=by simpa using z
  rw[this];exact(f.mem _).mp h1
 ·have hm:=h2.map (fun q:KA=>q.1);refine⟨(Lx hm).mpr (Ku.mpr ⟨h1,f.nd⟩),fun k=>?_,fun q hq=>?_,by have:=f.len;rw[h2.length_eq];simp;omega⟩
  ·rw[hm.mem_iff,J3,J2,f.mem,Kv,LM];constructor
   ·rintro(rfl|z)
    ·exact .inr (by simp)
    ·exact .inl z
   ·rintro(z|z)
    ·exact .inr z
    ·exact .inl (by simpa using z)
  ·rcases J2.mp (h2.mem_iff.mp hq)with rfl|z
   ·exact J1 _ (List.mem_singleton.mpr rfl)
   ·exact L3 _ (f.sub q z)
section
variable {prog:Program}{w:World}{A:Around}{R:Result->Shared->Prop}{I:Addr}{fp wr:List Addr}{G:Array GenState->Array GenState->Prop}{n:Nat}{P:Nat->Value->Prop}{St:Nat->Shared->Prop}
theorem Cj(W:WalksS prog w A.in1 I fp wr G n P St)(a6:S ∉ fp)(kv:Nat->KA)(b3:∀ i v,P i v->v= .ref (kv i).2)(hn:n<=18)(hu:A.in1.units<cLine)(b0:∀ i,i<n->(kv i).2 ∉ S::wr):
  ∀(c i:Nat) (s:Shared),n - i=c->i<=n->St i s->(∀ j,j<n->IsTupleKey (intKind prog w) s.heap (kv j).1 (kv j).2)->∀ o es ep t L,SetAt prog w s.heap S o es ep t L->Folded ((List.range i).map kv) L->
   (∀ s',Moved (S::wr) G s s'->∀ o es ep t L,SetAt prog w s'.heap S o es ep t L->Folded ((List.range n).map kv) L->R (.ok (.ret .none)) s')->
   codeAny (model prog w) A (.builtin "set.update.loop" ⟨[.ref S,.ref I],[]⟩) R s:=by
 have b1:S ∉ wr:=fun h=>a6 (W.sub _ h);have Y:∀ b∈wr,b∈S::wr:=fun b hb=>JR _ hb;intro c
 induction c with
 |zero=>
  intro i s hc hi a4 hk o es ep t L hS hF hR;obtain rfl:i=n:=by omega
  refine LR F.entry_set_update_loop ?_;rw[Lo Mm _];show wpAny _ A.in1 (pyNext (.ref I)>>=_) _ _ s;refine JG (W.done s _ _ a4 fun s' hm=>?_);show wpAny _ A.in1 (ret Value.none) _ _ s';exact JJ (hR s' (hm.mono Y) o es ep t L (hS.at fun o' e=>hm.heap S o' b1 e) hF)
 | succ c ih=>
  intro i s hc hi a4 hk o es ep t L hS hF hR;have Z:i<n:=by omega
  refine LR F.entry_set_update_loop ?_;rw[Lo Mm _];show wpAny _ A.in1 (pyNext (.ref I)>>=_) _ _ s;refine JG (W.item i s _ _ Z a4 fun v s' hP b2 hm=>?_);cases b3 i v hP;have c0:=hS.at (h':=s'.heap) fun o' e=>hm.heap S o' b1 e;have U:∀ j,j<n->IsTupleKey (intKind prog w) s'.heap (kv j).1 (kv j).2:=fun j hj=>vE (hk j hj) fun o' e=>hm.heap _ o' (fun z=>b0 j hj (Y _ z)) e;show wpAny _ A.in1 (holding [Value.ref (kv i).2] (setAdd S (.ref (kv i).2))>>=_) _ _ s';refine JG (Ko ?_);unfold setAdd;refine Ko ?_;refine JG (wpAny_pyHash_tuple hu (U i Z) ?_);have c2:L.length<=i:=by have:=hF.len;simpa using this
  have b6:vD prog w s'.heap L:=fun p hp=>by
   obtain⟨j,hj,rfl⟩:=Kh.mp (hF.sub p hp);exact U j (MW (J5.mp hj) Z)
  refine E7 (s:={s' with toks:=s'.toks+((kv i).1.length+1)}) hu c0 b6 (U i Z) (by omega) fun b h' o' es' c3 t' L' c1 O hA=>?_
  have b5:Folded ((List.range (i+1)).map kv) L':=by
   rw[List.range_succ,Kv];exact hF.add hA
  refine JJ ⟨Nk Mm _,ih (i+1) _ (by omega) Z (W.frame _ s' _ _ b2 (LC _ _) fun b hb o e=>?_) (fun j hj=>vE (U j hj) fun o e=>?_) _ _ _ _ _ c1 b5 fun s'' b4=>?_⟩
  ·rw[O.2 b (fun h:b=S=>a6 (by rw[<-h];exact hb))];exact e
  ·rw[O.2 _ (fun h=>b0 j hj (by rw[h];exact JX))];exact e
  ·refine hR s'' (Moved.trans W.gtrans ((hm.mono Y).then_heap (LC _ _) fun b o hb e=>?_) b4);rw[O.2 b (fun h:b=S=>hb (by rw[h];exact JX))];exact e
end
section
variable {prog:Program}{w:World}{A:Around}{E:Value->Shared->Prop}{s:Shared}
theorem tX:isSubtype (.type "tuple") (.type "set")=pure false:=by rw[Mz];kernel_rfl
theorem rT:isSubtype (.type "tuple") (.type "frozenset")=pure false:=by rw[Mz];kernel_rfl
def dC(led:Bool):Obj:={cls:=.type "set",dict:=none,data:=.set #[] 0 (.fresh 0 0 led)}
def g9(w:World):Bool:= !(w.params.followText "set-order")
def Src(h:Heap)(x:Addr)(items:Array Value):Prop:=h.IsList x items\/h.IsTuple x items
theorem Src.at{h':Heap}(r:Src h x items)(e:∀ o,h.get? x=some o->h'.get? x=some o):Src h' x items:=by
 rcases r with⟨o,ho,r⟩|⟨o,ho,r⟩
 ·exact .inl ⟨o,e o ho,r⟩
 ·exact .inr ⟨o,e o ho,r⟩
theorem Src.lt(r:Src h x items):x<h.objs.size:=by
 rcases r with⟨o,ho,_⟩|⟨o,ho,_⟩<;>exact JO ho
theorem Ag(r:Src s.heap x items)
  (h:∀(ob:Obj) (St:Nat->Heap->Prop),(∀ A':Around,A'.handled=none->Walks prog w A' s.heap.objs.size [s.heap.objs.size,x] [s.heap.objs.size] items.size (fun i v=>items[i]? =some v) St)->St 0 (s.heap.push ob)->
   Q (.ref s.heap.objs.size) {s with heap:=s.heap.push ob}):wpAny (model prog w) A (pyIter (.ref x)) Q E s:=by
 have Z:x≠s.heap.objs.size:=JT r.lt;rcases r with r|r
 ·refine M4 r (h _ _ (fun A' hh=>Walks.list hh s.heap.objs.size x Z items) ⟨⟨_,JP _ rfl,rfl,rfl⟩,r.push _⟩)
 ·refine Lc r (h _ _ (fun A' hh=>Walks.tuple hh s.heap.objs.size x Z items) ⟨⟨_,JP _ rfl,rfl,rfl⟩,?_⟩);obtain⟨o,ho,q⟩:=r;exact⟨o,JH _ ho,q⟩
theorem IU(a:Value){Q1:Value->Shared->Prop}(h:Q1 (.ref s.heap.objs.size) {s with heap:=s.heap.push (dC (g9 w))}):
  codeAny (model prog w) A (.call (.builtin "set.__new__") ⟨[.type "set",a],[]⟩) (wants Q1 E) s:=by
 refine MM ?_;show wpAny _ A.in1 (do checkBuiltinCall "set.__new__" ⟨[.type "set",a],[]⟩;again (.builtin "set.__new__" ⟨[.type "set",a],[]⟩)) _ _ s
 refine JG (NF (F.newCall_set_1 a) (JJ ⟨Nk F.plain_set_new _,LR F.entry_set_new ?_⟩));rw[Lo F.plain_set_new _];unfold Builtin.«set.__new__» Builtin.Frozenset.newClass;have Z:=sub_set_self;obtain⟨hp,g,d,tk,os⟩:=s;dsimp only
 wp_walk
 refine LD (JJ ?_);dsimp only;simp only[newObj];exact JG (wpAny_alloc (JJ (JJ h)))
theorem Ah(r:Src s.heap x items):∃ T,s.TypeIs (.ref x) T/\isSubtype (.type T) (.type "set")=pure false/\isSubtype (.type T) (.type "frozenset")=pure false/\(Value.type T==Value.type "dict")=false:=by
 rcases r with⟨o,ho,hc,_⟩|⟨o,ho,hc,_⟩
 ·exact⟨"list",⟨o,ho,hc⟩,F.sub_list_set,F.sub_list_frozenset,by decide⟩
 ·exact⟨"tuple",⟨o,ho,hc⟩,tX,rT,by decide⟩
set_option maxHeartbeats 8000000 in
theorem E8(hh:A.handled=none)(hu:A.in1.in1.in1.units<cLine)(r:Src s.heap x items)(kv:Nat->KA)(O:∀(i:Nat) (v:Value),items[i]? =some v->v= .ref (kv i).2)(hn:items.size<=18)
  (hk:∀ j,j<items.size->IsTupleKey (intKind prog w) s.heap (kv j).1 (kv j).2)
  (h:∀(h':Heap) (tk:Nat) o es ep t L,SetAt prog w h' s.heap.objs.size o es ep t L->Folded ((List.range items.size).map kv) L->(∀ b o,b<s.heap.objs.size->s.heap.get? b=some o->h'.get? b=some o)->
   Q (.ref s.heap.objs.size) {s with heap:=h',toks:=tk}):wpAny (model prog w) A (call (.type "set") [.ref x]) Q E s:=by
 obtain⟨c,tl,b6⟩:=F.called_set.mro;have b4:=F.called_set.made;have c0:=F.called_set.sub;refine Mu (MM ?_);show wpAny _ _ (callAny (.type "set") _) _ _ _;refine JJ ⟨MZ _ (by decide+kernel),LR F.entry_type_call ?_⟩
 rw[Around.under_plain (weight_type_call_type "set" [.ref x] []) rfl];have h1:=F.called_set.notType;have h2:=F.called_set.canCreate;have c2:=F.typeCall_set_1 (.ref x)
 repeat (any_goals (first|assumption|wp_step))
 refine Lu (IU (.ref x) (E:=E) (Q1:=fun obj s1=>obj= .ref s.heap.objs.size/\s1={s with heap:=s.heap.push (dC (g9 w))}) ⟨rfl,rfl⟩) fun rr s1 hr=>?_;cases rr with
 |error e=>exact hr
 | ok fl=>
  cases fl with
  | ret obj=>
   obtain⟨rfl,rfl⟩:=hr;have hS:(s.heap.push (dC (g9 w))).get? s.heap.objs.size=some (dC (g9 w)):=JP _ rfl;have hT:Shared.TypeIs {s with heap:=s.heap.push (dC (g9 w))} (.ref s.heap.objs.size) "set":=⟨_,hS,rfl⟩;have c4:=F.called_set.init.lookup;have c3:=F.called_set.init.bind (.ref s.heap.objs.size)
   repeat (any_goals (first|assumption|wp_step))
   refine Lu (MI (R:=wants (fun r s2=>r= .none/\Q (.ref s.heap.objs.size) s2) E) F.called_set.init.plain F.entry_set_init (check_set_init_1 hT ?_)) fun r2 s2 Y=>?_
   ·have r1:Src (s.heap.push (dC (g9 w))) x items:=r.at fun o e=>JH _ e;obtain⟨Tx,c5,c6,c1,hd⟩:=Ah (s:={s with heap:=s.heap.push (dC (g9 w))}) r1;unfold Builtin.«set.__init__» noKeywords Builtin.Frozenset.updateFrom;generalize hPI:pyIter=PI;have c7:=hT;unfold dC at hS
    wp_walk
    subst hPI;refine Ag (s:={s with heap:=s.heap.push (dC (g9 w))}) r1 fun ob St W b5=>?_;refine JG (wpAny_runValue ?_);have b2:x<s.heap.objs.size:=r.lt;have Z:(s.heap.push (dC (g9 w))).objs.size=s.heap.objs.size+1:=KR _ _;have b0:s.heap.objs.size ∉ [(s.heap.push (dC (g9 w))).objs.size,x]:=by
     rw[Z];simp only[List.mem_cons,List.not_mem_nil,or_false,not_or];exact⟨JT (LB _),Lh b2⟩
    have a4:A.in1.in1.in1.handled=none:=by simp[hh]
    have up:∀ b o,s.heap.get? b=some o->((s.heap.push (dC (g9 w))).push ob).get? b=some o:=fun b o e=>JH _ (JH _ e);have U:∀ j,j<items.size->(kv j).2<s.heap.objs.size:=fun j hj=>let ⟨_,_,_,e,_⟩:=hk j hj;JO e;have S0:SetAt prog w ((s.heap.push (dC (g9 w))).push ob) s.heap.objs.size (dC (g9 w)) #[] 0 (.fresh 0 0 (g9 w)) []:=
     ⟨JH _ (JP _ rfl),⟨rfl,rfl,rfl⟩,rfl,Aa _,rfl,rfl,rfl,.nil⟩
    refine Cj ((W _ a4).toS) b0 kv O hn hu (fun j hj=>?_) (items.size - 0) 0 _ rfl (J4 _) b5 (fun j hj=>vE (hk j hj) fun o e=>up _ o e) _ _ _ _ _ S0 .nil fun s' hm o es ep t L a6 hF=>?_
    ·rw[Z];have:=U j hj;simp only[List.mem_cons,List.not_mem_nil,or_false,not_or];exact⟨JT this,JT (KS this)⟩
    ·obtain⟨h',g',d',b3,b1⟩:=s';have eg:g'=s.gens:=hm.gens;have ed:d'=s.drawn:=hm.drawn;have eo:b1=s.os:=hm.os;subst eg ed eo;show wpAny _ _ _ _ _ _;refine JJ ?_;show wpAny _ _ (ret Value.none) _ _ _;refine JJ ⟨rfl,h h' b3 o es ep t L a6 hF fun b o hb e=>?_⟩;refine hm.heap b o ?_ (up b o e);rw[Z];simp only[List.mem_cons,List.not_mem_nil,or_false,not_or];exact⟨JT hb,JT (KS hb)⟩
   ·cases r2 with
    |error e=>exact Y
    | ok fl2=>
     cases fl2 with
     |ret rv=>
      obtain⟨rfl,hq⟩:=Y
      repeat (any_goals (first|assumption|wp_step))
     |_=>exact Y.elim
  |_=>exact hr.elim
end
theorem ot{α:Type}:∀{l:List α} {i:Nat} {x:α},l[i]? =some x->l.Perm (x::l.eraseIdx i)
 |[],_,_,h=>by simp at h
 |y::l,0,x,h=>by simp at h;subst h;exact .refl _
 |y::l,i+1,x,h=>by
  have:=ot (l:=l) (i:=i) (x:=x) (by simpa using h)
  rw[List.eraseIdx_cons_succ];exact(List.Perm.cons y this).trans (.swap _ _ _)
theorem wL{α:Type}(Z:Nat->Nat):∀(fuel k:Nat) (left:List α) (out:Array α),left.length=fuel->(pickOrder.go Z fuel k left out).toList.Perm (out.toList++left)
 |0,k,left,out,h=>by
  have:left=[]:=List.length_eq_zero_iff.mp h;subst this;unfold pickOrder.go;simp
 |fuel+1,k,left,out,h=>by
  unfold pickOrder.go;have Y:Z k % left.length<left.length:=M9 _ (by omega)
  have hq:left[Z k % left.length]? =some left[Z k % left.length]:=JL Y
  rw[hq];simp only;refine(wL Z fuel (k+1) _ _ (by rw[MS Y];omega)).trans ?_
  rw[Array.toList_push,J7];exact List.Perm.append_left _ (ot hq).symm
theorem yg{α:Type}(Z:Nat->Nat)(xs:Array α):(pickOrder Z xs).toList.Perm xs.toList:=by
 have:=wL Z xs.size 0 xs.toList #[] (by simp)
 simpa [pickOrder]using this
def jb(w:World)(a:Addr)(ep:Nat)(es:Array Ent):Array Ent:=if w.params.followText "set-order"=true then pickOrder (w.params.setOrder a ep) es else es
theorem qA(w:World)(a:Addr)(ep:Nat)(es:Array Ent):(jb w a ep es).toList.Perm es.toList:=by
 unfold jb;split
 ·exact yg _ _
 ·exact .refl _
theorem jY(w:World)(a:Addr)(ep:Nat)(es:Array Ent):(jb w a ep es).size=es.size:=by
 have:=(qA w a ep es).length_eq;simpa using this
theorem dW:Slot "set_iterator" "__next__" "set_iterator.__next__":=
 .of (owner:="set_iterator") (n:="__next__") (by rw[NA,MC];kernel_rfl) (by decide+kernel) (by decide+kernel) (by decide+kernel)
  (by first|exact .inl (by decide+kernel)|exact .inr (by decide+kernel)) (by rw[Mz];kernel_rfl)
theorem kf:entryFor table "set_iterator.__next__"=some Builtin.«set_iterator.__next__»:=entryFor_of_fast (by kernel_rfl)
theorem k9(a:Value):argsOk "set_iterator.__next__" ⟨[a],[]⟩:=by unfold argsOk;kernel_rfl
theorem ou:entryFor table "set.__iter__"=some Builtin.«frozenset.__iter__»:=
 entryFor_alias (id':="frozenset.__iter__") (by kernel_rfl) rfl (by decide+kernel) (by kernel_rfl)
section
variable {prog:Program}{w:World}{A:Around}{E:Value->Shared->Prop}{s:Shared}
def gf(w:World)(t:SetTable)(i:Nat):Nat:=if w.params.followText "set-order"=true then 0 else match i with
 |0=>0
 |i+1=>t.place.getD i 0+1
structure IterAt(w:World)(h:Heap)(I a:Addr)(t:SetTable)(sz ep i:Nat):Prop where
 ex:∃ o,h.get? I=some o/\o.cls= .type "set_iterator"/\o.data= .fields #[.int (gf w t i) 0,.int i 0,.ref a,.int sz 0,.int ep 0]
theorem IterAt.typeIs(k:IterAt w s.heap I a t sz ep i):s.TypeIs (.ref I) "set_iterator":=
 let ⟨o,ho,hc,_⟩:=k.ex
 ⟨o,ho,hc⟩
theorem wM(k:SetAt prog w s.heap a o es ep t L)(hi:i<=es.size){Q:Option (Value×Nat)->Shared->Prop}
  (h:Q (((jb w a ep es)[i]?).map fun e=>(e.2,gf w t (i+1))) s):wpAny (model prog w) A (setNext a (gf w t i) i ep) Q E s:=by
 unfold setNext;refine JG (K6 k.get k.dat k.fits ?_);simp only;unfold setsByText;refine JG (JG (LD (JJ ?_)));show wpAny _ _ (if (w.params.followText "set-order")=true then _ else _) _ _ s;by_cases hw:w.params.followText "set-order"=true
 ·rw[if_pos hw];simp only[bne_self_eq_false,Bool.false_eq_true,if_false];unfold setWalk;refine JG (JG (K6 k.get k.dat k.fits ?_));simp only;unfold setsByText;refine JG (JG (LD (JJ ?_)));show wpAny _ _ (if (w.params.followText "set-order")=true then _ else _) _ _ s;rw[if_pos hw];refine JG (LD (JJ ?_));refine JJ ?_;have e1:jb w a ep es=pickOrder (w.params.setOrder a ep) es:=by unfold jb;rw[if_pos hw]
  have e2:∀ j,gf w t j=0:=fun j=>by unfold gf;rw[if_pos hw]
  rw[e1,e2]at h;rw[e2];exact h
 ·rw [if_neg hw];have O:(!t.plain && decide (es.size>1))=false:=by rw[k.pln];rfl
  have hl:t.led=true:=by rw[k.led];simpa using hw
  have e1:jb w a ep es=es:=by unfold jb;rw[if_neg hw]
  have e2:∀ j,gf w t j=match j with|0=>0|j+1=>t.place.getD j 0+1:=fun j=>by unfold gf;rw[if_neg hw]
  have hb:SetTable.below t.place (gf w t i)=i:=by
   obtain⟨b1,b2,b3⟩:=oh k.ok.ris (gf w t i);cases i with
   | zero=>
    rw[e2]at b1 b2 b3 ⊢;simp only at b1 b2 b3 ⊢;rcases Nat.eq_zero_or_pos (SetTable.below t.place 0)with z|z
    ·exact z
    ·have Z:0<t.place.size:=by omega
     have:=b2 0 _ z (JQ Z);omega
   | succ i=>
    have Y:i<t.place.size:=by rw[k.ok.siz];omega
    have hg:t.place.getD i 0=t.place[i]:=by simp[Array.getD,Y]
    rw[e2]at b1 b2 b3 ⊢;simp only[hg]at b1 b2 b3 ⊢;have hq:=JQ Y;rcases Na (SetTable.below t.place (t.place[i]+1)) (i+1)with l|l|l
    ·have:=b3 i _ (by omega) hq
     omega
    ·exact l
    ·have Z:i+1<t.place.size:=by omega
     have q1:=b2 (i+1) _ l (JQ Z);have q2:=k.ok.ris i (i+1) _ _ (by omega) hq (JQ Z)
     omega
  generalize hu:PySem.unsupported=U;show wpAny _ _ (if (!t.plain && decide (es.size>1))=true then _ else _) _ _ s;rw[O];simp only[Bool.false_eq_true,if_false];have hm:∀ R:Unit->Shared->Prop,R () s->wpAny (model prog w) A (if (!t.led && !es.isEmpty)=true then unsupported "set:maker-not-led" else pure ()) R E s:=fun R hR=>by
   rw[hl];simp only[Bool.not_true,Bool.false_and,Bool.false_eq_true,if_false];exact JJ hR
  refine JG (hm _ ?_);refine JJ ?_;rw[hb];rw[e1,e2]at h;simp only at h;by_cases Z:i<es.size
  ·have hp:i<t.place.size:=by rw[k.ok.siz];exact Z
   have hg:t.place.getD i 0=t.place[i]:=by simp[Array.getD,hp]
   rw[JQ Z,hg]at h;rw[JQ Z,JQ hp];exact h
  ·rw[K4 (by omega)]at h
   rw[K4 (by omega)]
   exact h
end
theorem Ai{α β:Type}{f:α->β}{l l':List β}(h:l.Perm l'):∀ L:List α,l'=L.map f->∃ L':List α,L'.Perm L/\l=L'.map f:=by
 induction h with
 |nil=>intro L e;exact⟨[],by rw[List.map_eq_nil_iff.mp e.symm],rfl⟩
 | cons x _ ih=>
  intro L e;cases L with
  |nil=>cases e
  |cons y L=>
   rw[J3]at e;injection e with e1 e2;obtain⟨L',p,q⟩:=ih L e2;exact⟨y::L',p.cons y,by rw[q,e1];rfl⟩
 | swap x y l=>
  intro L e
  match L,e with
  |[],e=>cases e
  |[_],e=>rw[J3]at e;injection e with _ e;cases e
  |a::b::L,e=>
   rw[J3,J3]at e;injection e with e1 e2;injection e2 with e2 e3;exact⟨b::a::L,.swap _ _ _,by rw[e1,e2,e3];rfl⟩
 |trans _ _ ih1 ih2=>
  intro L e;obtain⟨L1,p1,q1⟩:=ih2 L e;obtain⟨L2,p2,q2⟩:=ih1 L1 q1;exact⟨L2,p2.trans p1,q2⟩
section
variable {prog:Program}{w:World}{A:Around}{E:Value->Shared->Prop}{s:Shared}
theorem qB{h:Heap}{g:Array Value->Array Value}(ho:h.get? I=some o)(hd:o.data= .fields fs):
  ∃ o',(h.update I (Obj.mapFields g)).get? I=some o'/\o'.cls=o.cls/\o'.data= .fields (g fs):=
 ⟨_,Kx _ ho (LS (Ld hd _)),Ng ..,Ld hd _⟩
theorem next_item{Q:Option Value->Shared->Prop}(k:SetAt prog w s.heap a o es ep t L)(Z:IterAt w s.heap I a t es.size ep i)(U:I≠a)
  (he:(jb w a ep es)[i]? =some e) (hQ:∀ h',IterAt w h' I a t es.size ep (i+1)->Heap.SameBut I s.heap h'->Q (some e.2) {s with heap:=h'}):wpAny (model prog w) A (pyNext (.ref I)) Q E s:=by
 obtain⟨oi,ho,hc,hd⟩:=Z.ex;have Y:i<es.size:=by rw[<-jY w a ep es];exact(J9.mp he).1
 unfold pyNext;refine JG (LW (wpAny_callSpecial?_slot (name:=Str.ofString "__next__") Z.typeIs dW
  (KB dW Z.typeIs kf ?_ (k9 _))))
 unfold Builtin.«set_iterator.__next__»;refine JG (m:=slotArgs "__next__" 0 _) (JJ ?_);refine JG (wpAny_fieldsOf ho hd ?_);simp only;refine JG (MN k.get k.dat k.fits ?_);rw[if_neg (by simp)]
 refine JG ?_;rw[Kf,Kf,Kf];refine wM k (Lk Y) ?_;rw[he];simp only[Option.map_some];refine JG (LH ho hd (by simp) ?_)
 obtain⟨o1,g1,c1,d1⟩:=qB (g:=fun fs=>fs.set! 0 (rawInt (gf w t (i+1):Nat))) ho hd;refine JG (LH (o:=o1) (s:={s with heap:=_}) g1 d1 (by simp) (JJ ⟨e.2,rfl,JJ (hQ _ ?_ ((K7 ..).trans (K7 ..)))⟩))
 obtain⟨o2,g2,c2,d2⟩:=qB (g:=fun fs=>fs.set! 1 (rawInt ((i:Int)+1))) g1 d1;refine⟨o2,g2,by rw[c2,c1];exact hc,?_⟩
 rw[d2];simp[rawInt]
theorem next_end{Q:Option Value->Shared->Prop}(hh:A.handled=none)(k:SetAt prog w s.heap a o es ep t L)(Z:IterAt w s.heap I a t es.size ep es.size)
  (hQ:∀ h',Heap.ExtBut I s.heap h'->Q none {s with heap:=h'}):wpAny (model prog w) A (pyNext (.ref I)) Q E s:=by
 obtain⟨oi,ho,hc,hd⟩:=Z.ex;unfold pyNext;refine JG (LW (wpAny_callSpecial?_slot (name:=Str.ofString "__next__") Z.typeIs dW
  (KB dW Z.typeIs kf ?_ (k9 _))))
 unfold Builtin.«set_iterator.__next__»;refine JG (m:=slotArgs "__next__" 0 _) (JJ ?_);refine JG (wpAny_fieldsOf ho hd ?_);simp only;refine JG (MN k.get k.dat k.fits ?_);rw[if_neg (by simp)]
 refine JG ?_;rw[Kf,Kf,Kf];refine wM k (JK _) ?_;rw[K4 (by rw[jY];exact JK _)]
 simp only[Option.map_none];refine JG (LH ho hd (by simp) ?_)
 show wpAny _ _ (newExc (.type "StopIteration") []>>=_) _ _ _;refine JG ?_;simp only[newExc,newTuple];refine JG (Kq ?_ (by size_fits))
 refine JG (m:=firstArgMember _ _) (NF (a:=Value.none) (by first|rfl|(simp only[firstArgMember];rfl)) ?_)
 refine Kq ?_ (by size_fits)
 simp only[raiseNew];refine JG (wpAny_handled ?_);first|rw[show A.in1.handled=none from hh]|rw[hh]
 refine JG (JJ (wpAny_throw ?_));refine JG (LF (T:="StopIteration") (b:=true) ⟨_,JP _ rfl,rfl⟩ MA ?_);exact JJ (hQ _ (((K7 ..).extBut.push _).push _))
theorem IterAt.at{h':Heap}(k:IterAt w h I a t sz ep i)(e:∀ o,h.get? I=some o->h'.get? I=some o):IterAt w h' I a t sz ep i:=
 let ⟨o,ho,r⟩:=k.ex
 ⟨⟨o,e o ho,r⟩⟩
theorem la:Slot "set_iterator" "__iter__" "set_iterator.__iter__":=
 .of (owner:="set_iterator") (n:="__iter__") (by rw[NA,MC];kernel_rfl) (by decide+kernel) (by decide+kernel) (by decide+kernel)
  (by first|exact .inl (by decide+kernel)|exact .inr (by decide+kernel)) (by rw[Mz];kernel_rfl)
theorem pS:entryFor table "set_iterator.__iter__"=some Builtin.«dict_keyiterator.__iter__»:=
 entryFor_alias (id':="dict_keyiterator.__iter__") (by kernel_rfl) rfl (by decide+kernel) (by kernel_rfl)
theorem rV(a:Value):argsOk "set_iterator.__iter__" ⟨[a],[]⟩:=by unfold argsOk;kernel_rfl
theorem Aj{Q:Value->Shared->Prop}(k:SetAt prog w s.heap a o es ep t L)
  (hQ:∀ ob,IterAt w (s.heap.push ob) s.heap.objs.size a t es.size ep 0->Q (.ref s.heap.objs.size) {s with heap:=s.heap.push ob}):wpAny (model prog w) A (pyIter (.ref a)) Q E s:=by
 have hT:s.TypeIs (.ref a) "set":=⟨o,k.get,k.ex.1⟩;refine wpAny_pyIter_slot hT F.slot_set_iter (KB F.slot_set_iter hT ou ?_ (F.args_set_iter_1 _));unfold Builtin.«frozenset.__iter__» Builtin.Frozenset.slot0;refine JG (JG (m:=slotArgs "__iter__" 0 _) (JJ ?_));refine JJ ?_;unfold Builtin.Frozenset.sizeOf;refine JG (JG (MN k.get k.dat k.fits (JJ ?_)));unfold setDrawn;refine JG (JG (K6 k.get k.dat k.fits ?_));simp only;unfold setsByText;refine JG (JG (LD (JJ ?_)));refine JJ ?_;have Z:(!(w.params.followText "set-order") && (!t.plain && decide (es.size>1)))=false:=by rw[k.pln];simp
 have U:∀(X Y:Sem Fin) (R:Fin->Shared->Prop),wpAny (model prog w) A.in1 Y R E s->wpAny (model prog w) A.in1 (if (!(w.params.followText "set-order") && (!t.plain && decide (es.size>1)))=true then X else Y) R E s:=fun X Y R hR=>by
  rw[Z];simp only[Bool.false_eq_true,if_false];exact hR
 refine U _ _ _ ?_;refine JG (JJ ?_);refine JG (wpAny_setEpoch_of k.get k.dat k.fits ?_);refine JG (Kq (JJ ⟨_,rfl,"set_iterator",_,⟨_,JP _ rfl,rfl⟩,dW.lookup,hQ _ ⟨⟨_,JP _ rfl,rfl,?_⟩⟩⟩));have e0:gf w t 0=0:=by
  unfold gf;split<;>rfl
 rw[e0];rfl
theorem yh{es:Array Ent}(hh:A.handled=none)(Y:I≠a):Walks prog w A I [I,a] [I] es.size (fun i v=>∃ e,(jb w a ep es)[i]? =some e/\v=e.2)
  (fun i h=>SetAt prog w h a o es ep t L/\IterAt w h I a t es.size ep i) where
 sub:=fun b hb=>by simp at hb;simp[hb]
 frame:=fun i h h' st hk=>⟨st.1.at fun o' e=>hk a (by simp) o' e,st.2.at fun o' e=>hk I (by simp) o' e⟩
 item:=fun i s Q E hi st hQ=>by
  have O:i<(jb w a ep es).size:=by rw[jY];exact hi
  have he:=JQ O;exact next_item st.1 st.2 Y he fun h' U Z=>hQ _ h' s.toks ⟨_,he,rfl⟩ ⟨st.1.at fun o' e=>Z.extBut a o' (Ne.symm Y) e,U⟩ fun b o' hb e=>Z.extBut b o' (fun z=>hb (by simp[z])) e
 done:=fun s Q E st hQ=>next_end hh st.1 st.2 fun h' a4=>hQ h' s.toks fun b o' hb e=>a4 b o' (fun z=>hb (by simp[z])) e
 self:=fun i s Q E st hQ=>by
  refine wpAny_pyIter_slot st.2.typeIs la (KB la st.2.typeIs pS ?_ (rV _));show wpAny _ _ (ret (.ref I)) _ _ s;exact JJ ⟨_,rfl,"set_iterator",_,st.2.typeIs,dW.lookup,hQ⟩
theorem tY{Q:List Value->Shared->Prop}(hh:A.handled=none)(k:SetAt prog w s.heap a o es ep t L)(c1:es.size<=18)
  (hQ:∀(h':Heap) (tk:Nat) (L':List KA),L'.Perm L->(∀ b o,s.heap.get? b=some o->h'.get? b=some o)->Q (L'.map fun p=>Value.ref p.2) {s with heap:=h',toks:=tk}):
  wpAny (model prog w) A (collect (.ref a)) Q E s:=by
 have Z:a<s.heap.objs.size:=JO k.get;unfold collect;refine JG (wpAny_runValue (LR F.entry_proto_collect ?_));rw[Lo F.plain_proto_collect _];show wpAny _ A.in1 (newList []>>=fun l=>again (.builtin "list.__iadd__" ⟨[l,.ref a],[]⟩)) _ _ s;refine JG (Kq ?_);refine JJ ⟨Nk F.plain_list_iadd _,LR F.entry_list_iadd ?_⟩;rw[Lo F.plain_list_iadd _];have k1:SetAt prog w (s.heap.push {cls:=.type "list",data:=.seq ([]:List Value).toArray}) a o es ep t L:=k.at fun o' e=>JH _ e;have b6:(s.heap.push {cls:=.type "list",data:=.seq ([]:List Value).toArray}).get? s.heap.objs.size=some {cls:=.type "list",data:=.seq ([]:List Value).toArray}:=JP _ rfl;have hT:Shared.TypeIs {s with heap:=s.heap.push {cls:=.type "list",data:=.seq ([]:List Value).toArray}} (.ref a) "set":=⟨o,k1.get,k1.ex.1⟩;have U:Builtin.List.listSameRef (.ref s.heap.objs.size) (.ref a)=false:=by simp[Builtin.List.listSameRef,Nat.ne_of_gt Z]
 show wpAny _ A.in1 (Builtin.List.listExtendWith (.ref s.heap.objs.size) (.ref a) (.ref s.heap.objs.size)) _ _ _;unfold Builtin.List.listExtendWith;refine JG (Me hT ?_);rw[if_neg (by rw[U];decide)]
 refine JG (Aj (s:={s with heap:=s.heap.push {cls:=.type "list",data:=.seq ([]:List Value).toArray}}) k1 fun ob hit=>?_);refine JG (Ko ?_);have O:Shared.TypeIs {s with heap:=(s.heap.push {cls:=.type "list",data:=.seq ([]:List Value).toArray}).push ob} (.ref a) "set":=⟨o,JH _ k1.get,k1.ex.1⟩;unfold Builtin.List.listLengthHint;refine JG (wpAny_specialOf O F.slot_set_len.lookup ?_);generalize cK:("set.__len__":String)=id0
 wp_delta
 rw[show splitId id0=some ("set","__len__")from by subst cK;decide+kernel]
 subst cK;refine JG (LF (b:=true) O sub_set_self ?_);rw[if_neg (by decide)]
 rw[if_pos (by decide+kernel)]
 refine JG (Me O ?_);refine JJ ?_;rw[if_pos (by decide+kernel)]
 refine JG (Mc ?_);generalize hg:(s.heap.push {cls:=.type "list",data:=.seq ([]:List Value).toArray}).objs.size=I at hit;have hI:I=s.heap.objs.size+1:=by rw[<-hg];exact KR _ _
 have b4:I≠a:=by rw[hI];exact Lh (KS Z)
 have a6:I≠s.heap.objs.size:=by rw[hI];exact Nu _
 have hD:s.heap.objs.size ∉ [I,a]:=by
  simp only[List.mem_cons,List.not_mem_nil,or_false,not_or];exact⟨Ne.symm a6,Lh Z⟩
 have a4:((s.heap.push {cls:=.type "list",data:=.seq ([]:List Value).toArray}).push ob).get? s.heap.objs.size=some {cls:=.type "list",data:=.seq ([]:List Value).toArray}:=JH _ b6;refine JG ?_;show wpAny _ A.in1 (updateSeq s.heap.objs.size (·.push .none)>>=fun _=>updateSeq s.heap.objs.size (·.pop)) _ _ _;refine JG (wpAny_updateSeq a4 rfl ?_);have b0:=Kx (Obj.mapSeq (·.push Value.none)) a4 rfl;refine wpAny_updateSeq b0 rfl ?_;have b2:=Kx (Obj.mapSeq (·.pop)) b0 rfl;have oth:∀ b o',b≠s.heap.objs.size->((s.heap.push {cls:=.type "list",data:=.seq ([]:List Value).toArray}).push ob).get? b=some o'->
   ((((s.heap.push {cls:=.type "list",data:=.seq ([]:List Value).toArray}).push ob).update s.heap.objs.size (Obj.mapSeq (·.push Value.none))).update s.heap.objs.size (Obj.mapSeq (·.pop))).get? b=some o':=
  fun b o' hb e=>(Kn _ _ (Ne.symm hb)).trans ((Kn _ _ (Ne.symm hb)).trans e)
 have k2:=(k1.at (h':=(s.heap.push {cls:=.type "list",data:=.seq ([]:List Value).toArray}).push ob) fun o' e=>JH _ e);have b1:A.in1.handled=none:=by simp[hh]
 have W:=yh (prog:=prog) (w:=w) (A:=A.in1) (I:=I) (a:=a) (o:=o) (es:=es) (ep:=ep) (t:=t) (L:=L) b1 b4;refine JJ ⟨Nk F.plain_extend_loop _,?_⟩;refine codeAny_extend_loopS W.toS (by rw[KN];omega) _ hD _ es.size 0 _ _ _ rfl (J4 _) ⟨k2.at fun o' e=>oth a o' (JT Z) e,hit.at fun o' e=>oth I o' a6 e⟩ b2 (ItemsOf.nil _) fun s' acc c' hm b3 Y=>?_
 show wpAny _ A (load s.heap.objs.size>>=_) _ _ s';refine JG (wpAny_load b3 ?_);refine JJ ?_;obtain⟨h',g',d',c0,b5⟩:=s';have eg:g'=s.gens:=hm.gens;have ed:d'=s.drawn:=hm.drawn;have eo:b5=s.os:=hm.os;subst eg ed eo;obtain⟨L',p1,p2⟩:=Ai (qA w a ep es) L k.ents;have he:acc.toList=L'.map fun p=>Value.ref p.2:=by
  have e1:acc.toList=(jb w a ep es).toList.map (·.2):=by
   refine Mw fun i=>?_;rw[Kc,J6,Kc];by_cases hi:i<acc.size
   ·obtain⟨e,e1,e2⟩:=Y.2 i _ (JQ hi);rw[JQ hi,e2,e1];rfl
   ·rw[K4 (by omega),K4 (by rw[jY, <-Y.1];omega)];rfl
  rw[e1,p2,KJ];rfl
 rw[he];refine hQ h' c0 L' p1 fun b o' e=>hm.heap b o' ?_ (oth b o' (JT (JO e)) (JH _ (JH _ e)));simp only[List.mem_cons,List.not_mem_nil,or_false,not_or];exact⟨JT (JO e),by rw[hI];exact JT (KS (JO e))⟩
end
end S4
namespace S4
open PySem PySem.Spec PySem.W PyProof.Rows L2 S3
section
variable {prog:Program}{w:World}{A:Around}{E:Value->Shared->Prop}{s:Shared}
theorem vF{vs:List Value}{P:PySem.Fin->Shared->Prop}(ho:s.heap.get? a=some (seqObj "list" vs.toArray n))(h2:vs.length<2)
  (h:∀ h' c,h'.get? a=some (seqObj "list" vs.toArray c)->(∀ b o,b≠a->s.heap.get? b=some o->h'.get? b=some o)->P (.done (.ret .none)) {s with heap:=h'}):
  wpAny (model prog w) A (Builtin.«list.sort» ⟨[.ref a],[]⟩) P E s:=by
 have ha:a<s.heap.objs.size:=JO ho;obtain⟨e1,Y⟩:∃ e1,(s.heap.update a (Obj.mapSeq fun _=>(#[]:Array Value))).get? a=some (seqObj "list" #[] e1):=⟨_,get?_update_seq ho fun _=> #[]⟩;have Z:(((s.heap.update a (Obj.mapSeq fun _=>(#[]:Array Value))).push (seqObj "tuple" vs.toArray 0)).push (seqObj "list" #[] 0)).get? a=some (seqObj "list" #[] e1):=JH _ (JH _ Y);rw[list_sort_plain];refine JG (listItems_at ho rfl ?_);refine JG (listUpdate_at ho rfl ?_ (by rw[JU,KN];omega) (J4 _))
 refine JG (seqEpoch_at Y rfl ?_);refine JG (wpAny_newTuple ?_ (by show vs.length<=_;rw[KN];omega))
 refine JG (wpAny_newList ?_ (J4 _));refine Ko ?_;show wpAny (model prog w) A _ P E {s with heap:=((s.heap.update a (Obj.mapSeq fun _=>(#[]:Array Value))).push (seqObj "tuple" vs.toArray 0)).push (seqObj "list" #[] 0)};dsimp only;have U:vs.toArray.size<2:=by rw[JU];omega
 rw[if_pos U,if_pos U];refine JG (JJ ?_);rw[StateT.run_pure];refine JG (JJ ?_);dsimp only;refine JG (seqEpoch_at Z rfl ?_);have hz:(arrOf (SortSt.mk' general' (vs.toArray.zip vs.toArray) #[] 7 none)).map (·.2)=vs.toArray:=by
  show(vs.toArray.zip vs.toArray).map (·.2)=vs.toArray;rw[Array.map_snd_zip (JK _)]
 rw[hz];refine JG (listUpdate_at Z rfl ?_ (J4 _) (by rw[JU,KN];omega))
 obtain⟨c2,O⟩:∃ c2,((((s.heap.update a (Obj.mapSeq fun _=>(#[]:Array Value))).push (seqObj "tuple" vs.toArray 0)).push (seqObj "list" #[] 0)).update a (Obj.mapSeq fun _=>vs.toArray)).get? a=some (seqObj "list" vs.toArray c2):=⟨_,get?_update_seq Z fun _=>vs.toArray⟩;simp only[bne_self_eq_false,Bool.false_eq_true,if_false];refine JJ (h _ c2 O fun b o hb e=>?_);rw[Ly _ _ _ _ hb];refine JH _ (JH _ ?_);rw[Ly _ _ _ _ hb];exact e
end
section
variable {X:Cx}
structure TRow(H:Hp)(vs:List V)(nss:List (List Int)):Prop where
 len:vs.length=nss.length
 at':∀ i,i<vs.length->∃ a,vs[i]? =some (.ref a)/\H a=some (.tup ((nss.getD i []).map V.int))
 same:∃ c,∀ i,i<vs.length->(nss.getD i []).length=c+1
def gJ(nss:List (List Int))(q:List Nat):Prop:=q.Perm (List.range nss.length)/\∀ i j,i<=j->j<nss.length->HT.lexLt (nss.getD (q.getD j 0) []) (nss.getD (q.getD i 0) [])=false
theorem jc{H:Hp}{Q:VK}(I:L2.Inv X pins σ H s)(Pv:List Value->Prop)
  (hc:∀(R:List Value->Shared->Prop) (E':Value->Shared->Prop),(∀ vs h1 tk,Pv vs->(∀ b o,s.heap.get? b=some o->h1.get? b=some o)->R vs {s with heap:=h1,toks:=tk})->wpAny (model X.prog X.w) X.A.in1 (collect arg) R E' s)
  (hv:∀ us,Pv us->∃(vs:List V) (nss:List (List Int)),bj vs us/\TRow H vs nss/\vs.length<64/\∀ q,gJ nss q->∀ l,H l=none->Q (.ref l) (upd H l (.lst (q.map fun i=>vs.getD i .non)))):
  wpAny (model X.prog X.w) X.A (call (.builtin "sorted") [arg]) (EP X pins σ Q) X.xe s:=by
 refine Calls.call_function_entry kind_sorted plain_sorted entry_sorted (args_sorted1 _) ?_;unfold Builtin.«sorted»;refine JG (m:=checkCount "sorted" 1 1 _) (JJ ?_);refine JG (hc _ _ fun its h1 tk hP keep=>?_);obtain⟨vs,nss,rv,T0,c4,q⟩:=hv its hP;have b3:=rv.length;have I1:L2.Inv X pins σ H {s with heap:=h1,toks:=tk}:=I.kept keep;obtain⟨m,F⟩:=I1.fr;refine JG (wpAny_newList ?_ (by rw[KN];omega))
 have O:(h1.push (seqObj "list" its.toArray 0)).get? h1.objs.size=some (seqObj "list" its.toArray 0):=JP _ rfl;have up:∀ b o,h1.get? b=some o->(h1.push (seqObj "list" its.toArray 0)).get? b=some o:=fun b o e=>JH _ e;have nd:h1.get? h1.objs.size=none:=KG (JK _);have hL:X.env.locals<h1.objs.size:=F.ns.lt;have hH:H h1.objs.size=none:=I1.hok.fresh (JK _);have at':∀ i,i<its.length->∃ a,its[i]? =some (.ref a)/\its.getD i Value.none= .ref a/\H a=some (.tup ((nss.getD i []).map V.int)):=fun i hi=>by
  obtain⟨a,e1,e2⟩:=T0.at' i (by omega)
  obtain⟨u,hu,ru⟩:=rv.get e1;cases (show u=Value.ref a from ru);exact⟨a,hu,by rw[JS,hu];rfl,e2⟩
 have b6:∀ l:List Nat,(∀ x∈l,x<its.length)->bj (l.map fun i=>vs.getD i .non) (l.map fun i=>its.getD i Value.none):=by
  intro l
  induction l with
  |nil=>intro _;exact .nil
  |cons x l ih=>
   intro hx;refine .cons ?_ (ih fun y hy=>hx y (JR _ hy));have a6:x<vs.length:=by have:=hx x JX;omega
   obtain⟨u,hu,ru⟩:=rv.get (JL a6);show L2.RelV (vs.getD x .non) (its.getD x Value.none);rw[JS,JS,hu,JL a6];exact ru
 show wpAny _ _ _ _ _ {s with heap:=h1.push (seqObj "list" its.toArray 0),toks:=tk};refine JG (Ko (KB slot_list_sort ⟨_,O,rfl⟩ entry_list_sort ?body (args_list_sort _)))
 case body=>
  by_cases h2:its.length<2
  ·refine vF (s:={s with heap:=h1.push (seqObj "list" its.toArray 0),toks:=tk}) O h2 fun h' c g1 g2=>?_;refine⟨_,rfl,JJ ⟨_,rfl,?_⟩⟩;have I2:L2.Inv X pins σ (upd H h1.objs.size (.lst vs)) {s with heap:=h',toks:=tk}:=I1.laid (fun b o e=>g2 b o (JT (JO e)) (up b o e)) (JK _) ⟨by rw[KN];omega,its,c,rv,g1⟩
   refine⟨.ref h1.objs.size,_,I2,rfl,?_⟩;have:=q (List.range nss.length) ⟨.refl _,fun i j b2 hj=>?_⟩ _ hH
   ·have e:(List.range nss.length).map (fun i=>vs.getD i .non)=vs:=by
     refine Mw fun i=>?_;rw[J6, <-T0.len];by_cases hi:i<vs.length
     ·rw[Ma hi,JL hi];simp[List.getD_eq_getElem?_getD,hi]
     ·rw[KO (by simpa using hi),KO (by omega)];rfl
    rw[e]at this;exact this
   ·have:i=j:=by have:=T0.len;omega
    subst this;exact jX _
  ·obtain⟨c,c2⟩:=T0.same;refine kat_list_sort (s:={s with heap:=h1.push (seqObj "list" its.toArray 0),toks:=tk}) (F.kept up) (News.grown (nG (g:=X.base) (h:=h1) (L:=X.env.locals)) up) O (Lh hL) (KG (JV F.above (Lk hL)))
    (fun p hp=>JT (JO (nG p hp).1)) (by omega) (by omega) fun e1 h' F' N'=>?_
   have U:∀ h2:Heap,Fr X.base X.env.locals h2 m->News X.base X.env.locals h2 (kL X.base h1 X.env.locals)->∀ b o,b≠X.env.locals->h1.get? b=some o->h2.get? b=some o:=fun h2 F2 N2 b o hb e=>by
    cases z:X.base.get? b with
    |some o'=>
     have:=I1.bk b o' z;rw[show h1.get? b=some o' from this]at e;cases e;exact F2.keep b _ z
    |none=>exact(N2 (b,o) (sY hb z e)).1
   have kp:=U h' F' fun z Y=>N' z (JR _ Y);have T:Tups h1 its nss c:=⟨by have:=T0.len;omega,fun i hi=>by
    obtain⟨a,_,e1,e2⟩:=at' i hi;obtain⟨_,ws,b1,o,ho,b5,n,hd⟩:=(show bo X.prog X.w H h1 a (.tup ((nss.getD i []).map V.int))from I1.hok a _ e2);refine⟨a,o,ws.toArray,n,e1,ho,b5,hd,by simpa using M7 b1,?_⟩
    rw[JU, <-b1.length,JI,c2 i (by omega)]⟩
   have T':Tups h' its nss c:=T.keep fun i a o hi ea ho=>by
    obtain⟨a',_,e1,e2⟩:=at' i hi;rw[ea]at e1;cases e1;refine kp a o (fun z=>?_) ho;rw[z,I1.free]at e2;cases e2
   obtain⟨fs,k1,k2,k3⟩:=n6 (h:=h') (vs:=its) fun v hv=>by
    obtain⟨i,hi,ei⟩:=List.mem_iff_getElem.mp hv;obtain⟨a,o,us,n,f1,f2,f3,f4,f5,f6⟩:=T'.get i hi;have ev:v= .ref a:=by
     rw[JS,JL hi,ei]at f1;exact f1
    generalize nss.getD i []=ns at f5;cases hus:us.toList with
    |nil=>
     have:us.size=0:=by rw[<-Lw,hus];rfl
     omega
    |cons x r'=>
     rw[hus]at f5;cases f5 with
     |cons n' t' _=>exact⟨a,o,us,n,n',t',ev,f2,f3,f4,by rw[<-Kc,hus];rfl⟩
   refine kat_kind k1 (by omega) (T:=.type "int") (fun v hv=>by obtain⟨i,t,rfl⟩:=k3 v hv;exact Looks.of_pure rfl) rfl ?_
   refine zD (n:=its.length) (R:=In its.length) (b:=fun i j=>HT.lexLt (nss.getD i []) (nss.getD j [])) (fun i j C hi hj hC=>T'.ask hi hj hC) (tq (by omega)) ?_
   obtain⟨s1,s2⟩:=B1 (n:=its.length) (b:=fun i j=>HT.lexLt (nss.getD i []) (nss.getD j [])) (by omega) (fun i _=>jX _) (fun i j k _ _ _=>vy) (fun i j k _ _ _=>rQ)
   generalize bp (fun i j=>HT.lexLt (nss.getD i []) (nss.getD j [])) (kas_sort its.length)=pp at s1 s2;have Z:pp.toList.Perm (List.range its.length):=by simpa using Array.Perm.toList s1
   refine KasFin.intro F' N' (.head fun z Y=>JT (JO (nG z Y).1)) fun c1 c' b0 a4=>?_;have c0:=U c1 b0 fun z Y=>a4 z (JR _ Y);obtain⟨g1,g2,g3⟩:=a4 _ JX;have c3:∀ x∈pp.toList,x<its.length:=fun x hx=>J5.mp (Z.mem_iff.mp hx);have b4:(pp.toList.map fun i=>vs.getD i .non).length<=sizeLine:=by
    rw[JI,Z.length_eq,Kj,KN];omega
   have I2:=vz I1 F b0 c0 nd g1 (b6 pp.toList c3) b4;refine⟨_,rfl,JJ ⟨_,rfl,.ref h1.objs.size,_,I2,rfl,q pp.toList ⟨by rw[<-T0.len,b3];exact Z,fun i j b2 hj=>?_⟩ _ hH⟩⟩
   have:=s2 i j b2 (by have:=T0.len;omega)
   rw[Km,Km]at this;rw[JS (l:=pp.toList),JS (l:=pp.toList),Kc,Kc];exact this
end
end S4
namespace S3
open PySem PySem.Spec PySem.W PyProof.Rows L2 S4
def tupI(ns:List Int):D:=.tup (ns.map D.int)
def rowsOf:List D->Option (List (List Int))
 |[]=>some []
 | .tup ds::r=>match intsOf ds,rowsOf r with
  |some ns,some nss=>some (ns::nss)
  |_,_=>none
 |_=>none
theorem nq:∀{a b:List Int},HT.lexLt a b=false->HT.lexLt b a=false->a=b
 |[],[],_,_=>rfl
 |[],_::_,h,_=>by cases h
 |_::_,[],_,h=>by cases h
 | x::a,y::b,h1,h2=>by
  rw[HT.lexLt_cons]at h1 h2;by_cases e:x=y
  ·subst e;rw[if_pos rfl]at h1 h2;rw[nq h1 h2]
  ·rw[if_neg e]at h1;rw[if_neg (Ne.symm e)]at h2;have:=of_decide_eq_false h1;have:=of_decide_eq_false h2;omega
abbrev BD(a b:List Int):Prop:=HT.lexLt b a=false
def vG(x:List Int):List (List Int)->List (List Int)
 |[]=>[x]
 |y::r=>if HT.lexLt y x=true then y::vG x r else x::y::r
def dD:List (List Int)->List (List Int)
 |[]=>[]
 |x::r=>vG x (dD r)
theorem lW(x:List Int):∀ l,(vG x l).Perm (x::l)
 |[]=>.refl _
 |y::r=>by
  unfold vG;split
  ·exact((lW x r).cons y).trans (.swap _ _ _)
  ·exact .refl _
theorem bU:∀ l,(dD l).Perm l
 |[]=>.refl _
 |x::r=>(lW x _).trans ((bU r).cons x)
theorem yi(h1:BD a b)(h2:BD b c):BD a c:=by
 cases q:HT.lexLt c a with
 |false=>exact q
 |true=>
  rcases rQ (b:=b) q with z|z
  ·rw[show HT.lexLt c b=false from h2]at z;cases z
  ·rw[show HT.lexLt b a=false from h1]at z;cases z
theorem tZ(h:HT.lexLt a b=true):HT.lexLt b a=false:=by
 cases q:HT.lexLt b a with
 |false=>rfl
 |true=>
  have:=vy h q;rw[jX]at this;cases this
theorem mD(x:List Int):∀{l:List (List Int)},l.Pairwise BD->(vG x l).Pairwise BD
 |[],_=>by simp[vG]
 | y::r,h=>by
  obtain⟨h1,h2⟩:=Ks.mp h;unfold vG;split
  ·next c=>
   refine Ks.mpr ⟨fun z hz=>?_,mD x h2⟩;rcases J2.mp ((lW x r).mem_iff.mp hz)with rfl|hz
   ·exact tZ c
   ·exact h1 z hz
  ·next c=>
   have c':BD x y:=Nd.mpr c;refine Ks.mpr ⟨fun z hz=>?_,h⟩;rcases J2.mp hz with rfl|hz
   ·exact c'
   ·exact yi c' (h1 z hz)
theorem de:∀ l,(dD l).Pairwise BD
 |[]=>.nil
 |x::r=>mD x (de r)
theorem lX{l:List (List Int)}(h:l.Perm l')(h1:l.Pairwise BD)(h2:l'.Pairwise BD):l=l':=
 List.Perm.eq_of_pairwise (le:=BD) (fun a b _ _ x y=>nq y x) h1 h2 h
theorem oy(h:gJ nss q):q.map (fun i=>nss.getD i [])=dD nss:=by
 have hlen:q.length=nss.length:=by simpa using h.1.length_eq
 have e:(List.range nss.length).map (fun i=>nss.getD i [])=nss:=by
  refine Mw fun i=>?_;rw[J6];by_cases hi:i<nss.length
  ·rw[Ma hi,JL hi];simp[List.getD_eq_getElem?_getD,hi]
  ·rw[KO (by simpa using hi),KO (by omega)];rfl
 have hp:(q.map (fun i=>nss.getD i [])).Perm nss:=by
  have:=h.1.map (fun i=>nss.getD i []);rw[e]at this;exact this
 refine lX (hp.trans (bU nss).symm) ?_ (de _);rw[M1];intro i j hi hj Z;rw[JI]at hi hj;rw[List.getElem_map,List.getElem_map];have:=h.2 i j (Lk Z) (by omega)
 rw[JS (l:=q),JS (l:=q),JL hi,JL hj]at this;exact this
def fM:List (List Int)->List (List Int)
 |[]=>[]
 |x::r=>if x∈fM r then fM r else x::fM r
theorem iI:∀{l:List (List Int)},y∈fM l↔y∈l
 |[]=>.rfl
 | x::r=>by
  unfold fM;split
  ·next h=>
   rw[iI,J2];refine⟨.inr,fun z=>z.elim (fun z=>?_) id⟩;rw[z];exact iI.mp h
  ·rw[J2,J2,iI]
theorem lb:∀ l:List (List Int),(fM l).Nodup
 |[]=>.nil
 |x::r=>by
  unfold fM;split
  ·exact lb r
  ·next h=>exact Ku.mpr ⟨h,lb r⟩
def ez(l:List (List Int)):List (List Int):=dD (fM l)
theorem Ak(f:Folded kv L):dD (L.map (·.1))=ez (kv.map (·.1)):=by
 unfold ez;have hp:(L.map (·.1)).Perm (fM (kv.map (·.1))):=(List.perm_ext_iff_of_nodup f.nd (lb _)).mpr fun a=>by rw[f.mem,iI]
 exact lX ((bU _).trans (hp.trans (bU _).symm)) (de _) (de _)
theorem _root_.S4.Folded.perm{L':List KA}(f:Folded kv L)(h:L'.Perm L):Folded kv L':=
 ⟨(Lx (h.map (fun p:KA=>p.1))).mpr f.nd,fun k=>by rw[(h.map (fun p:KA=>p.1)).mem_iff];exact f.mem k,fun p hp=>f.sub p (h.mem_iff.mp hp),by rw[h.length_eq];exact f.len⟩
section
variable {K:W.Frag}{ι:List Addr}{H:Hp}
theorem oz:∀{ds:List D} {vs:List V} {nss:List (List Int)},RelDs K ι H ds vs->rowsOf ds=some nss->vs.length=nss.length/\∀ i,i<vs.length->∃ a,vs[i]? =some (.ref a)/\H a=some (.tup ((nss.getD i []).map V.int))
 |[],vs,nss,h,e=>by
  cases e;rw[h.nil_inv];exact⟨rfl,fun i hi=>absurd hi (Ny _)⟩
 | .tup ds::r,vs,nss,h,e=>by
  obtain⟨v,ws,rfl,r1,r2⟩:=h.cons_inv;unfold rowsOf at e;cases q:intsOf ds with
  |none=>rw[q]at e;cases e
  | some ns=>
   rw[q]at e;cases q2:rowsOf r with
   |none=>rw[q2]at e;cases e
   | some nss'=>
    rw[q2]at e;cases e;obtain⟨h1,h2⟩:=oz r2 q2;obtain⟨a,us,rfl,g1,g2⟩:=r1.tup_inv;refine⟨by simp[h1],fun i hi=>?_⟩
    cases i with
    |zero=>
     refine⟨a,rfl,?_⟩;rw[gH g2 q]at g1;simpa using g1
    |succ i=>
     obtain⟨a',e1,e2⟩:=h2 i (by simpa using hi)
     exact⟨a',by simpa using e1,by simpa using e2⟩
 | .non::_,_,_,_,e=>by cases e
 | .bl _::_,_,_,_,e=>by cases e
 | .int _::_,_,_,_,e=>by cases e
 | .str _::_,_,_,_,e=>by cases e
 | .lst _::_,_,_,_,e=>by cases e
 | .ro _::_,_,_,_,e=>by cases e
 | .fz _::_,_,_,_,e=>by cases e
 | .emp::_,_,_,_,e=>by cases e
theorem qC:∀ ns:List Int,RelDs K ι H (ns.map D.int) (ns.map V.int)
 |[]=>.nil
 |n::r=>.cons (.int n) (qC r)
theorem oA{vs:List V}{nss:List (List Int)}(h:∀ i,i<vs.length->∃ a,vs[i]? =some (.ref a)/\H a=some (.tup ((nss.getD i []).map V.int))):
  ∀ q:List Nat,(∀ i∈q,i<vs.length)->RelDs K ι H ((q.map fun i=>nss.getD i []).map tupI) (q.map fun i=>vs.getD i .non)
 |[],_=>.nil
 |i::q,hq=>by
  obtain⟨a,e1,e2⟩:=h i (hq i JX);refine .cons ?_ (oA h q fun j hj=>hq j (JR _ hj));show RelD K ι H (tupI (nss.getD i [])) (vs.getD i .non);have e3:vs.getD i .non= .ref a:=by rw[JS,e1];rfl
  rw[e3];exact .tup e2 (qC _)
end
section
variable {X:Cx}{E:XD}{e:Expr}{m:TM}{pos:Pos}
theorem pT:dH X (.builtin "sorted") (fun xs H Q=>∃(p:Addr) (vs:List V) (nss:List (List Int)),xs=[.ref p]/\j7 X.K H p vs/\TRow H vs nss/\vs.length<64/\
  ∀ q,gJ nss q->∀ l,H l=none->Q (.ref l) (upd H l (.lst (q.map fun i=>vs.getD i .non)))):=by
 intro pins s σ H xs us Q I r h;obtain⟨p,vs,nss,rfl,hp,T,Z,q⟩:=h;obtain⟨u,rfl,rx⟩:=vals1 r;cases (show u=Value.ref p from rx);obtain⟨its,rv,pl,hz⟩:=I.list hp;have U:=rv.length;refine jc I (fun us=>us=its) (fun R E' hR=>?_) fun us hu=>⟨vs,nss,by rw[hu];exact rv,T,Z,q⟩
 refine collect_list pl.isList (hR its _ _ rfl fun b o e=>?_) (by rw[KN];omega)
 have Y:b<s.heap.objs.size:=JO e;rw[Ly _ _ _ _ (JT Y)];exact JH _ e
def mT(P:Program)(w:World)(a:Addr)(kv:List KA):Heap->Prop:=fun h=>∃ o es ep t L,SetAt P w h a o es ep t L/\Folded kv L
def kD(vs:List V)(nss:List (List Int)):List KA:=(List.range vs.length).map fun i=>(nss.getD i [],match vs.getD i .non with| .ref a=>a|_=>0)
theorem E9{H:Hp}(ok:fP P w H h){ns:List Int}(e:H a=some (.tup (ns.map V.int))):IsTupleKey (intKind P w) h ns a:=by
 obtain⟨_,ws,Z,o,ho,hc,n,hd⟩:=(show bo P w H h a (.tup (ns.map V.int))from ok a _ e);refine⟨o,ws.toArray,n,ho,hc,hd,?_⟩;have hI:=M7 Z;have go:∀{ws:List Value} {ns:List Int},IntsAre ws ns->ItemsAre (intKind P w) ns ws:=by
  intro ws ns h
  induction h with
  |nil=>exact .nil
  |cons n t _ ih=>exact .cons (intKind_is _ _ _ _) ih
 simpa using go hI
theorem yj(hc:X.calm=true)(hu:X.A.units+8<cLine):dH X (.type "set") (fun xs H Q=>∃(p:Addr) (vs:List V) (nss:List (List Int)),xs=[.ref p]/\(j7 X.K H p vs\/lH X.K H p vs)/\
  (∀ i,i<vs.length->∃ a,vs[i]? =some (.ref a)/\H a=some (.tup ((nss.getD i []).map V.int)))/\vs.length<=18/\∀ l,H l=none->Q (.ref l) (upd H l (.ext (mT X.prog X.w l (kD vs nss))))):=by
 intro pins s σ H xs us Q I r h;obtain⟨p,vs,nss,rfl,hp,T,O,q⟩:=h;obtain⟨u,rfl,rx⟩:=vals1 r;cases (show u=Value.ref p from rx);have src:∃ its,bj vs its/\Src s.heap p its.toArray:=by
  rcases hp with hp|hp
  ·obtain⟨its,rv,pl,hz⟩:=I.list hp;exact⟨its,rv,.inl pl.isList⟩
  ·obtain⟨its,rv,pl,hz⟩:=I.tuple hp;exact⟨its,rv,.inr pl⟩
 obtain⟨its,rv,hs⟩:=src;have Z:=rv.length;have U:∀ A:Around,A.in1.units<=A.units+1:=fun A=>JK _;have at':∀ i,i<vs.length->∃ a,its[i]? =some (.ref a)/\vs.getD i .non= .ref a/\H a=some (.tup ((nss.getD i []).map V.int)):=fun i hi=>by
  obtain⟨a,e1,e2⟩:=T i hi;obtain⟨u,Y,ru⟩:=rv.get e1;cases (show u=Value.ref a from ru);exact⟨a,Y,by rw[JS,e1];rfl,e2⟩
 have hf:H s.heap.objs.size=none:=I.hok.fresh (JK _);refine E8 (I.ok.hd hc) (by show X.A.units+3<cLine;omega) hs (fun i=>(nss.getD i [],match vs.getD i .non with| .ref a=>a|_=>0)) (fun i v hv=>?_) (by rw[JU];omega) (fun j hj=>?_) fun h' tk o es ep t L hS hF kp=>?_
 ·have hi:i<vs.length:=by rw[Z];simpa using(J9.mp hv).1
  obtain⟨a,e1,e2,_⟩:=at' i hi;rw[Ll,e1]at hv;cases hv;simp only[e2]
 ·rw[JU]at hj;obtain⟨a,e1,e2,e3⟩:=at' j (by omega)
  simp only[e2];exact E9 I.hok e3
 ·rw[JU, <-Z]at hF;refine⟨.ref s.heap.objs.size,_,I.laid (o:=.ext (mT X.prog X.w s.heap.objs.size (kD vs nss))) (fun b o e=>kp b o (JO e) e) (JK _) ⟨⟨o,es,ep,t,L,hS,hF⟩,⟨o,hS.get⟩,fun h1 h2 ⟨o,es,ep,t,L,a1,a2⟩ k=>⟨o,es,ep,t,L,a1.at k,a2⟩⟩,rfl,q _ hf⟩
theorem rW(hc:X.calm=true):dH X (.builtin "sorted") (fun xs H Q=>∃(p:Addr) (kv:List KA),xs=[.ref p]/\H p=some (.ext (mT X.prog X.w p kv))/\(∀ k∈kv,H k.2=some (.tup (k.1.map V.int))/\k.1.length=2)/\kv.length<=18/\
  ∀ L q,Folded kv L->gJ (L.map (·.1)) q->∀ l,H l=none->Q (.ref l) (upd H l (.lst (q.map fun i=>(L.map fun k=>V.ref k.2).getD i .non)))):=by
 intro pins s σ H xs us Q I r h;obtain⟨p,kv,rfl,hp,hk,a6,q⟩:=h;obtain⟨u,rfl,rx⟩:=vals1 r;cases (show u=Value.ref p from rx);obtain⟨⟨o,es,ep,t,L,hS,hF⟩,_,_⟩:=(show bo X.prog X.w H s.heap p (.ext (mT X.prog X.w p kv))from I.hok p _ hp);have a4:=hF.len;have U:∀ l:List KA,bj (l.map fun k=>V.ref k.2) (l.map fun k=>Value.ref k.2):=by
  intro l
  induction l with
  |nil=>exact .nil
  |cons k l ih=>exact .cons rfl ih
 refine jc I (fun us=>∃ L':List KA,L'.Perm L/\us=L'.map fun k=>Value.ref k.2) (fun R E' hR=>?_) ?_
 ·refine tY (by show X.A.handled=none;exact I.ok.hd hc) hS (by rw[hS.len];omega) fun h' tk L' Y kp=>hR _ _ _ ⟨L',Y,rfl⟩ kp
 ·rintro us ⟨L',Y,rfl⟩;have Z:=hF.perm Y;have O:=Z.len;refine⟨L'.map fun k=>V.ref k.2,L'.map (·.1),U L',⟨by simp,fun i hi=>?_,1,fun i hi=>?_⟩,by simp;omega,fun qq hq l hl=>q L' qq Z hq l hl⟩
  ·rw[JI]at hi;refine⟨L'[i].2,by rw[J6,JL hi];rfl,?_⟩
   have:=(hk _ (Z.sub _ (KU hi))).1;rw[JS,J6,JL hi];exact this
  ·rw[JI]at hi;rw[JS,J6,JL hi];exact(hk _ (Z.sub _ (KU hi))).2
def two(nss:List (List Int)):Bool:=nss.all fun ns=>ns.length==2
def t4(nss:List (List Int)):M D:=if nss.length<64/\two nss=true then bD ((dD nss).map tupI)else M.fail
def oB(xs:List D):M D:=match intsOf xs with
 |some ns=>if ns.length<64 then bD ((sortI ns).map D.int)else M.fail
 |none=>match rowsOf xs with
  |some nss=>t4 nss
  |none=>M.fail
def bX:List D->M D
 |[.lst k]=>do
  let xs<-getL k
  oB xs
 |[.fz xs]=>oB xs
 |_=>M.fail
theorem Ck{H:Hp}{vs:List V}{nss:List (List Int)}(h:vs.length=nss.length/\∀ i,i<vs.length->∃ a,vs[i]? =some (.ref a)/\H a=some (.tup ((nss.getD i []).map V.int)))(h2:two nss=true):TRow H vs nss:=
 ⟨h.1,h.2,1,fun i hi=>by
  have Z:i<nss.length:=by rw[<-h.1];exact hi
  have:=Kg.mp h2 nss[i] (KU Z);rw[JS,JL Z];simpa using this⟩
theorem rX:mz X.K E bX (fun xs H Q=>(∃(p:Addr) (ns:List Int),xs=[.ref p]/\j7 X.K H p (ns.map V.int)/\ns.length<64/\∀ l,H l=none->Q (.ref l) (upd H l (.lst ((sortI ns).map V.int))))\/
  ∃(p:Addr) (vs:List V) (nss:List (List Int)),xs=[.ref p]/\j7 X.K H p vs/\TRow H vs nss/\vs.length<64/\∀ q,gJ nss q->∀ l,H l=none->Q (.ref l) (upd H l (.lst (q.map fun i=>vs.getD i .non)))):=by
 intro ι S H ds vs Q rep r c;have fin:∀{es:List D} {us:List V} {p:Addr},RelDs X.K ι H es us->Rd H p (.lst us)->cont X.K E (oB es) ι S H (kq X.K Q)->vs=[.ref p]->
   (∃(p:Addr) (ns:List Int),vs=[.ref p]/\j7 X.K H p (ns.map V.int)/\ns.length<64/\∀ l,H l=none->Q (.ref l) (upd H l (.lst ((sortI ns).map V.int))))\/
  ∃(p:Addr) (ws:List V) (nss:List (List Int)),vs=[.ref p]/\j7 X.K H p ws/\TRow H ws nss/\ws.length<64/\∀ q,gJ nss q->∀ l,H l=none->Q (.ref l) (upd H l (.lst (q.map fun i=>ws.getD i .non))):=by
  intro es us p rv hv c4 Z;unfold oB at c4;cases q:intsOf es with
  | some ns=>
   rw[q]at c4;have c5:cont X.K E (if ns.length<64 then bD ((sortI ns).map D.int)else M.fail) ι S H (kq X.K Q):=c4;by_cases h:ns.length<64
   ·rw[if_pos h]at c5;exact .inl ⟨p,ns,Z,.inl (by rw[<-gH rv q];exact hv),h,(bS c5 rep (n5 _)).2⟩
   ·rw[if_neg h]at c5;exact(ag c5).elim
  | none=>
   rw[q]at c4;cases q2:rowsOf es with
   |none=>rw[q2]at c4;exact(ag c4).elim
   | some nss=>
    rw[q2]at c4;have c5:cont X.K E (if nss.length<64/\two nss=true then bD ((dD nss).map tupI)else M.fail) ι S H (kq X.K Q):=c4;by_cases h:nss.length<64/\two nss=true
    ·rw[if_pos h]at c5;obtain⟨g1,g2⟩:=oz rv q2;refine .inr ⟨p,us,nss,Z,.inl hv,Ck ⟨g1,g2⟩ h.2,by omega,fun qq hq l hl=>?_⟩
     have Y:∀ i∈qq,i<us.length:=fun i hi=>by rw[g1];exact J5.mp (hq.1.mem_iff.mp hi)
     have rr:RelDs X.K ι H ((dD nss).map tupI) (qq.map fun i=>us.getD i .non):=by
      rw[<-oy hq];exact oA g2 qq Y
     exact(bS c5 rep rr).2 l hl
    ·rw[if_neg h]at c5;exact(ag c5).elim
 unfold bX at c;split at c
 ·next k=>
  obtain⟨v,ws,rfl,r1,r2⟩:=r.cons_inv;cases r2.nil_inv;obtain⟨p,rfl,h1⟩:=r1.lst_inv;obtain⟨es,us,_,hv,rv,c4⟩:=bu c rep h1;exact fin rv (.inl hv) c4 rfl
 ·next es=>
  obtain⟨v,ws,rfl,r1,r2⟩:=r.cons_inv;cases r2.nil_inv;obtain⟨p,o,us,rfl,h1,rv⟩:=r1.fz_inv;exact fin rv (.inr ⟨o,h1⟩) c rfl
 ·exact(ag c).elim
theorem iJ(hm:X.mg "sorted"=none)(ha:SE X E e m)(hg:Gl X "sorted":=by rfl)(hs:starEach [e] X.env=[(false,eval e X.env)]:=by rfl):SE X E (.Call (.Name "sorted" p) [e] [] pos) (fun ρ=>do let ds<-(do let x<-m ρ;let xs<-pure [];pure (x::xs));bX ds):=
 ju (dH.or rP pT) rX hg hm (by decide+kernel) (af ha aj hs) (by decide) (by decide) hs rfl
def cZ(nss:List (List Int)):M D:=if nss.length<=18/\two nss=true then bD ((ez nss).map tupI)else M.fail
def gK:List D->M D
 |[.lst k]=>do
  let xs<-getL k
  match rowsOf xs with
  |some nss=>cZ nss
  |none=>M.fail
 |[.tup xs]=>match rowsOf xs with
  |some nss=>cZ nss
  |none=>M.fail
 |[.fz xs]=>match rowsOf xs with
  |some nss=>cZ nss
  |none=>M.fail
 |_=>M.fail
theorem Cm{vs:List V}{nss:List (List Int)}(h:vs.length=nss.length):(kD vs nss).map (·.1)=nss:=by
 unfold kD;rw[KJ];refine Mw fun i=>?_;rw[J6,h];by_cases hi:i<nss.length
 ·rw[Ma hi,JL hi];simp[List.getD_eq_getElem?_getD,hi]
 ·rw[KO (by simpa using hi),KO (by omega)];rfl
theorem Hd{K:W.Frag}{ι:List Addr}{H:Hp}{L:List KA}(h:∀ k∈L,H k.2=some (.tup (k.1.map V.int))):∀ q:List Nat,(∀ i∈q,i<L.length)->RelDs K ι H ((q.map fun i=>(L.map (·.1)).getD i []).map tupI) (q.map fun i=>(L.map fun k=>V.ref k.2).getD i .non):=by
 intro q hq;refine oA (fun i hi=>?_) q fun i hi=>by rw[JI];exact hq i hi
 rw[JI]at hi;refine⟨L[i].2,by rw[J6,JL hi];rfl,?_⟩
 rw[JS,J6,JL hi];exact h _ (KU hi)
theorem rY{p q Z:Pos}(hc:X.calm=true)(hu:X.A.units+8<cLine)(hm:X.mg "sorted"=none)(b5:X.mg "set"=none)(ha:SE X E e m)(hg:Gl X "sorted":=by rfl)(a6:Gl X "set":=by rfl)(hs:starEach [e] X.env=[(false,eval e X.env)]:=by rfl)
  (U:starEach [.Call (.Name "set" q) [e] [] Z] X.env=[(false,eval (.Call (.Name "set" q) [e] [] Z) X.env)]:=by rfl):
  SE X E (.Call (.Name "sorted" p) [.Call (.Name "set" q) [e] [] Z] [] pos) (fun ρ=>do let ds<-(do let x<-m ρ;let xs<-pure [];pure (x::xs));gK ds):=by
 refine PE.imp (jo (rW hc) hg hm (by decide+kernel) (eJ (jR (yj hc hu) a6 b5 (by decide+kernel) (af ha aj hs) (by decide) (by decide) hs rfl) jm U) (by decide) (by decide) U rfl) fun σ H Q h=>?_
 obtain⟨ι,S,ρ,rep,re,c⟩:=h;refine⟨ι,S,ρ,rep,re,ak (ai c) fun ds ι1 S1 H1 e1 rep1 c1 vs r=>?_⟩;have fin:∀{xs:List D} {us:List V} {a:Addr} {nss:List (List Int)},RelDs X.K ι1 H1 xs us->rowsOf xs=some nss->(j7 X.K H1 a us\/lH X.K H1 a us)->cont X.K E (cZ nss) ι1 S1 H1 (kq X.K Q)->vs=[.ref a]->
   ∃ (p:Addr) (vs':List V) (nss:List (List Int)),vs=[.ref p]/\(j7 X.K H1 p vs'\/lH X.K H1 p vs')/\
    (∀ i,i<vs'.length->∃ a,vs'[i]? =some (.ref a)/\H1 a=some (.tup ((nss.getD i []).map V.int)))/\vs'.length<=18/\∀ l,H1 l=none->
     ∃(p:Addr) (kv:List KA),[V.ref l]=[.ref p]/\upd H1 l (.ext (mT X.prog X.w l (kD vs' nss))) p=some (.ext (mT X.prog X.w p kv))/\(∀ k∈kv,upd H1 l (.ext (mT X.prog X.w l (kD vs' nss))) k.2=some (.tup (k.1.map V.int))/\k.1.length=2)/\kv.length<=18/\
      ∀ L q,Folded kv L->gJ (L.map (·.1)) q->∀ l',upd H1 l (.ext (mT X.prog X.w l (kD vs' nss))) l'=none->Q (.ref l') (upd (upd H1 l (.ext (mT X.prog X.w l (kD vs' nss)))) l' (.lst (q.map fun i=>(L.map fun k=>V.ref k.2).getD i .non))):=by
  intro xs us a nss rv q2 b0 cc b6;unfold cZ at cc;by_cases h:nss.length<=18/\two nss=true
  ·rw[if_pos h]at cc;obtain⟨g1,g2⟩:=oz rv q2;refine⟨a,us,nss,b6,b0,g2,by omega,fun l hl=>⟨l,kD us nss,rfl,aN,fun k hk=>?_,by unfold kD;simp;omega,fun L qq hF hq l' a4=>?_⟩⟩
   ·unfold kD at hk;obtain⟨i,hi,rfl⟩:=Kh.mp hk;rw[J5]at hi;obtain⟨b,b1,b2⟩:=g2 i hi;have b3:us.getD i .non= .ref b:=by rw[JS,b1];rfl
    simp only[b3];refine⟨by rw[aB (aH b2 hl)];exact b2,?_⟩
    have Y:i<nss.length:=by omega
    have:=Kg.mp h.2 nss[i] (KU Y);rw[JS,JL Y];simpa using this
   ·have hE:Ext ι1 H1 ι1 (upd H1 l (.ext (mT X.prog X.w l (kD us nss)))):=dQ hl;have rep2:=eY (o:=.ext (mT X.prog X.w l (kD us nss))) rep1 hl;have b4:∀ i∈qq,i<L.length:=fun i hi=>by
     have:=J5.mp (hq.1.mem_iff.mp hi);simpa using this
    have hk:∀ k∈L,upd H1 l (.ext (mT X.prog X.w l (kD us nss))) k.2=some (.tup (k.1.map V.int)):=fun k hk=>by
     have O:=hF.sub k hk;unfold kD at O;obtain⟨i,hi,rfl⟩:=Kh.mp O;rw[J5]at hi;obtain⟨b,b1,b2⟩:=g2 i hi;have b3:us.getD i .non= .ref b:=by rw[JS,b1];rfl
     simp only[b3];rw[aB (aH b2 hl)];exact b2
    have rr:=Hd (K:=X.K) (ι:=ι1) hk qq b4;rw[oy hq,Ak hF,Cm g1]at rr;exact(bS (fJ cc hE) rep2 rr).2 l' a4
  ·rw[if_neg h]at cc;exact(ag cc).elim
 unfold gK at c1;split at c1
 ·next k=>
  obtain⟨v,ws,rfl,r1,r2⟩:=r.cons_inv;cases r2.nil_inv;obtain⟨a,rfl,h1⟩:=r1.lst_inv;obtain⟨es,us,_,hv,rv,c4⟩:=bu c1 rep1 h1;cases q2:rowsOf es with
  |none=>rw[q2]at c4;exact(ag c4).elim
  |some nss=>
   rw[q2]at c4;exact fin rv q2 (.inl (.of hv)) c4 rfl
 ·next xs=>
  obtain⟨v,ws,rfl,r1,r2⟩:=r.cons_inv;cases r2.nil_inv;obtain⟨a,us,rfl,h1,rv⟩:=r1.tup_inv;cases q2:rowsOf xs with
  |none=>rw[q2]at c1;exact(ag c1).elim
  |some nss=>
   rw[q2]at c1;exact fin rv q2 (.inr (.of h1)) c1 rfl
 ·next xs=>
  obtain⟨v,ws,rfl,r1,r2⟩:=r.cons_inv;cases r2.nil_inv;obtain⟨a,o,us,rfl,h1,rv⟩:=r1.fz_inv;cases q2:rowsOf xs with
  |none=>rw[q2]at c1;exact(ag c1).elim
  |some nss=>
   rw[q2]at c1;exact fin rv q2 (.inl (.inl (.inr ⟨o,h1⟩))) c1 rfl
 ·exact(ag c1).elim
end
end S3
namespace S4
open PySem PySem.Spec PyProof.Rows L2 S3
section
variable {prog:Program}{w:World}{A:Around}{E:Value->Shared->Prop}{s:Shared}
theorem i3{Q:Value->Shared->Prop}(Z:s.heap.IsTupleIter it t i)(ht:s.heap.IsTuple t items)(hx:items[i]? =some x)
  (hQ:∀ h',h'.IsTupleIter it t (i+1)->Heap.SameBut it s.heap h'->Q x {s with heap:=h'}):wpAny (model prog w) A (Builtin.SmallTypes.nextOf (.ref it)) Q E s:=by
 obtain⟨o,ho,hc,hd⟩:=id Z;obtain⟨ol,Y,_,nl,U⟩:=ht;unfold Builtin.SmallTypes.nextOf;refine JG (wpAny_callSpecial?_slot (name:=Str.ofString "__next__") Z.typeIs Li
  (KB Li Z.typeIs MO ?_ (ML _)))
 show wpAny _ _ (field (.ref it) 0>>=_) _ _ s;refine JG (KL ho hd (x:=.ref t) rfl ?_);show wpAny _ _ (if (Value.ref t==Value.none)=true then _ else _) _ _ s;rw[if_neg (show ¬ ((Value.ref t==Value.none)=true)from La)];show wpAny _ _ (field (.ref it) 1>>=_) _ _ s;refine JG (KL ho hd (x:=.int i 0) rfl ?_);show wpAny _ _ (seqItems? (.ref t)>>=_) _ _ s;refine JG (K8 Y U ?_);simp only[Int.toNat_natCast,hx];refine JG (LH ho hd (by simp) (JJ ⟨x,rfl,JJ (hQ _ ?_ (K7 ..))⟩))
 exact⟨_,Kx _ ho (LS (Ld hd _)),(Ng ..).trans hc,by
  rw[Ld hd];simp[rawInt]⟩
theorem jZ(hh:A.handled=none)(Z:s.heap.IsTupleIter it t i)(ht:s.heap.IsTuple t items)(hx:items[i]? =none)
  (hE:∀ h' e,Heap.ExtBut it s.heap h'->(∃ o,h'.get? e=some o/\o.cls= .type "StopIteration")->E (.ref e) {s with heap:=h'}):wpAny (model prog w) A (Builtin.SmallTypes.nextOf (.ref it)) Q E s:=by
 obtain⟨o,ho,hc,hd⟩:=id Z;obtain⟨ol,Y,_,nl,U⟩:=ht;unfold Builtin.SmallTypes.nextOf;refine JG (wpAny_callSpecial?_slot (name:=Str.ofString "__next__") Z.typeIs Li
  (KB Li Z.typeIs MO ?_ (ML _)))
 show wpAny _ _ (field (.ref it) 0>>=_) _ _ s;refine JG (KL ho hd (x:=.ref t) rfl ?_);show wpAny _ _ (if (Value.ref t==Value.none)=true then _ else _) _ _ s;rw[if_neg (show ¬ ((Value.ref t==Value.none)=true)from La)];show wpAny _ _ (field (.ref it) 1>>=_) _ _ s;refine JG (KL ho hd (x:=.int i 0) rfl ?_);show wpAny _ _ (seqItems? (.ref t)>>=_) _ _ s;refine JG (K8 Y U ?_);simp only[Int.toNat_natCast,hx];refine JG (Mc (JG (LH ho hd (by simp) ?_)))
 show wpAny _ _ (newExc (.type "StopIteration") []>>=_) _ _ _;refine JG ?_;simp only[newExc,newTuple];refine JG (Kq ?_ (by size_fits))
 refine JG (m:=firstArgMember _ _) (NF (a:=Value.none) (by first|rfl|(simp only[firstArgMember];rfl)) ?_)
 refine Kq ?_ (by size_fits)
 simp only[raiseNew];refine JG (wpAny_handled ?_);first|rw[show A.in1.handled=none from hh]|rw[hh]
 refine JG (JJ (wpAny_throw ?_));exact hE _ _ (((K7 ..).extBut.push _).push _) ⟨_,JP _ rfl,rfl⟩
theorem yk{z TI TO i1 i2 l1 l2:Addr}{k:Nat}{xs ys:Array Value}{x y a b:Value}{Q:Option Value->Shared->Prop}(D:ZipApart z TI TO i1 i2 l1 l2)
  (hz:IsZip s.heap z TI TO .none) (e5:IsPair s.heap TI (.ref i1) (.ref i2)) (e8:IsPair s.heap TO a b)
  (h1:s.heap.IsTupleIter i1 l1 k) (h2:s.heap.IsTupleIter i2 l2 k) (e3:s.heap.IsTuple l1 xs) (e0:s.heap.IsTuple l2 ys) (hx:xs[k]? =some x) (hy:ys[k]? =some y)
  (hQ:∀ h',IsZip h' z TI TO (rawInt s.heap.objs.size)->IsPair h' TO x y->h'.IsTupleIter i1 l1 (k+1)->h'.IsTupleIter i2 l2 (k+1)->IsPair h' s.heap.objs.size x y->h'.objs.size=s.heap.objs.size+1->
   (∀ c o,c≠z->c≠TO->c≠i1->c≠i2->s.heap.get? c=some o->h'.get? c=some o)->Q (some (.ref s.heap.objs.size)) {s with heap:=h'}):wpAny (model prog w) A (pyNext (.ref z)) Q E s:=by
 have hT:s.TypeIs (.ref z) "zip":=⟨_,hz,rfl⟩;unfold pyNext;refine JG (LW (wpAny_callSpecial?_slot (name:=Str.ofString "__next__") hT MP (KB MP hT F.entry_zip_next ?_ (F.args_zip_next_1 _))));show wpAny _ _ (field (.ref z) 2>>=_) _ _ _;refine JG (KL hz rfl (x:=.bool false) rfl ?_);show wpAny _ _ (field (.ref z) 3>>=_) _ _ _;refine JG (KL hz rfl (x:=.ref TI) rfl ?_);refine JG (K8 e5 rfl ?_);show wpAny _ _ (Builtin.SmallTypes.ownedTupleIsFree (.ref z)>>=_) _ _ _;refine JG ?_;unfold Builtin.SmallTypes.ownedTupleIsFree;refine JG (KL hz rfl (x:=.none) rfl (JJ ?_));simp only[if_true];refine JG (Mc ?_);refine JG (KL hz rfl (x:=.ref TO) rfl ?_);refine JG (Lm hz (by simp) fun g1 c5 Z=>?_)
 replace c5:IsZip g1 z TI TO .ellipsis:=c5;refine JG ?_;simp only[List.zipIdx_cons,List.zipIdx_nil,List.forIn_cons,List.forIn_nil];refine JG (JG (Nl ?_));show wpAny _ _ (Builtin.SmallTypes.nextOf (.ref i1)>>=_) _ _ _;refine JG (i3 (s:={s with heap:=g1}) (h1.at fun o e=>Z.extBut _ _ D.i1z e) (e3.extBut Z.extBut D.l1z) hx fun g2 f3 O=>JJ ?_);have b2:IsPair g2 TO a b:=O.extBut _ _ D.TOi1 (Z.extBut _ _ D.TOz e8);refine JG (K8 b2 rfl ?_);refine JG (MJ b2 fun g3 a4 U=>?_);replace a4:IsPair g3 TO x b:=a4;refine JG (wpAny_letGo (JJ ?_));refine JG (JG (Nl ?_));show wpAny _ _ (Builtin.SmallTypes.nextOf (.ref i2)>>=_) _ _ _;refine JG (i3 (s:={s with heap:=g3}) (((h2.at fun o e=>Z.extBut _ _ D.i2z e).at fun o e=>O.extBut _ _ D.i12.symm e).at fun o e=>U.extBut _ _ D.TOi2.symm e)
  (((e0.extBut Z.extBut D.l2z).extBut O.extBut D.l2i1).extBut U.extBut D.l2TO) hy fun g4 e6 a6=>JJ ?_)
 have b3:IsPair g4 TO x b:=a6.extBut _ _ D.TOi2 a4;refine JG (K8 b3 rfl ?_);refine JG (MJ b3 fun g5 Y b0=>?_);replace Y:IsPair g5 TO x y:=Y;refine JG (wpAny_letGo (JJ (JJ ?_)));refine JG (K8 Y rfl ?_);refine JG (wpAny_newTuple ?_);have d0:g5.objs.size=s.heap.objs.size:=by rw[b0.1,a6.1,U.1,O.1,Z.1]
 have c7:IsZip g5 z TI TO .ellipsis:=b0.extBut _ _ D.TOz.symm (a6.extBut _ _ D.i2z.symm (U.extBut _ _ D.TOz.symm (O.extBut _ _ D.i1z.symm c5)));have e4:∀ c o,c≠z->c≠TO->c≠i1->c≠i2->s.heap.get? c=some o->g5.get? c=some o:=fun c o c1 c2 c3 c4 e=>
  b0.extBut _ _ c2 (a6.extBut _ _ c4 (U.extBut _ _ c2 (O.extBut _ _ c3 (Z.extBut _ _ c1 e))))
 have d3:g5.IsTupleIter i1 l1 (k+1):=((f3.at fun o e=>U.extBut _ _ D.TOi1.symm e).at fun o e=>a6.extBut _ _ D.i12 e).at fun o e=>b0.extBut _ _ D.TOi1.symm e;have e7:g5.IsTupleIter i2 l2 (k+1):=e6.at fun o e=>b0.extBut _ _ D.TOi2.symm e;have b4:z<g5.objs.size:=JO c7;show wpAny _ _ (Builtin.SmallTypes.ownedTupleHandOut (.ref z) (.ref g5.objs.size)>>=_) _ _ _;refine JG ?_;unfold Builtin.SmallTypes.ownedTupleHandOut;have d2:IsZip (g5.push {cls:=.type "tuple",data:=.seq #[x,y]}) z TI TO .ellipsis:=JH _ c7;refine JG (Lm d2 (by simp) fun g7 b5 c0=>?_)
 replace b5:IsZip g7 z TI TO (rawInt g5.objs.size):=b5;refine Lm b5 (by simp) fun g8 b1 b6=>?_
 replace b1:IsZip g8 z TI TO (rawInt g5.objs.size):=b1;have up:∀ c o,c≠z->g5.get? c=some o->g8.get? c=some o:=fun c o c1 e=>b6.extBut _ _ c1 (c0.extBut _ _ c1 (JH _ e));have c6:IsPair g8 g5.objs.size x y:=b6.extBut _ _ (Lh b4) (c0.extBut _ _ (Lh b4) (JP _ rfl));have d1:g8.objs.size=g5.objs.size+1:=by rw[b6.1,c0.1,KR]
 rw[d0]at b1 c6 d1;refine JJ ⟨_,rfl,?_⟩;refine JJ ?_;show Q (some (.ref g5.objs.size)) _;rw[d0];exact hQ g8 b1 (up _ _ D.TOz Y) (d3.at fun o e=>up _ o D.i1z e) (e7.at fun o e=>up _ o D.i2z e) c6 d1 fun c o c1 c2 c3 c4 e=>up c o c1 (e4 c o c1 c2 c3 c4 e)
theorem Al{z TI TO i1 i2 l1 l2:Addr}{k:Nat}{xs ys:Array Value}{a b:Value}{Q:Option Value->Shared->Prop}(hh:A.handled=none)(D:ZipApart z TI TO i1 i2 l1 l2)
  (hz:IsZip s.heap z TI TO .none) (c5:IsPair s.heap TI (.ref i1) (.ref i2)) (c7:IsPair s.heap TO a b)
  (h1:s.heap.IsTupleIter i1 l1 k) (h2:s.heap.IsTupleIter i2 l2 k) (b6:s.heap.IsTuple l1 xs) (c6:s.heap.IsTuple l2 ys) (c0:xs[k]? =none\/ys[k]? =none)
  (hQ:∀ h',(∀ c o,c≠z->c≠TO->c≠i1->c≠i2->s.heap.get? c=some o->h'.get? c=some o)->Q none {s with heap:=h'}):wpAny (model prog w) A (pyNext (.ref z)) Q E s:=by
 have hT:s.TypeIs (.ref z) "zip":=⟨_,hz,rfl⟩;unfold pyNext;refine JG (LW (wpAny_callSpecial?_slot (name:=Str.ofString "__next__") hT MP (KB MP hT F.entry_zip_next ?_ (F.args_zip_next_1 _))));have stop:∀(g:Heap) (e:Addr),(∃ o,g.get? e=some o/\o.cls= .type "StopIteration")->(∀ c o,c≠z->c≠TO->c≠i1->c≠i2->s.heap.get? c=some o->g.get? c=some o)->∀ R:Value->Shared->Prop,
   (∀ v s',wpAny (model prog w) A (do if<-isInstance v (.type "StopIteration")then pure none else throw v) Q E s'->R v s')->R (.ref e) {s with heap:=g}:=fun g e ⟨o,ho,hc⟩ hk R hR=>hR _ _ (by
  refine JG (LF (T:="StopIteration") (b:=true) ⟨o,ho,hc⟩ MA ?_);exact JJ (hQ _ hk))
 show wpAny _ _ (field (.ref z) 2>>=_) _ _ _;refine JG (KL hz rfl (x:=.bool false) rfl ?_);show wpAny _ _ (field (.ref z) 3>>=_) _ _ _;refine JG (KL hz rfl (x:=.ref TI) rfl ?_);refine JG (K8 c5 rfl ?_);show wpAny _ _ (Builtin.SmallTypes.ownedTupleIsFree (.ref z)>>=_) _ _ _;refine JG ?_;unfold Builtin.SmallTypes.ownedTupleIsFree;refine JG (KL hz rfl (x:=.none) rfl (JJ ?_));simp only[if_true];refine JG (Mc ?_);refine JG (KL hz rfl (x:=.ref TO) rfl ?_);refine JG (Lm hz (by simp) fun g1 a6 Z=>?_)
 replace a6:IsZip g1 z TI TO .ellipsis:=a6;refine JG ?_;simp only[List.zipIdx_cons,List.zipIdx_nil,List.forIn_cons,List.forIn_nil];refine JG (JG (Nl ?_));show wpAny _ _ (Builtin.SmallTypes.nextOf (.ref i1)>>=_) _ _ _;cases hx:xs[k]? with
 |none=>
  refine JG (jZ (s:={s with heap:=g1}) hh (h1.at fun o e=>Z.extBut _ _ D.i1z e) (b6.extBut Z.extBut D.l1z) hx fun g2 e Y he=>?_);obtain⟨oe,U,a4⟩:=he;have b4:IsZip g2 z TI TO .ellipsis:=Y _ _ D.i1z.symm a6;have b1:e≠z:=fun x=>by subst x;rw[b4]at U;cases U;simp at a4
  refine Lm b4 (by simp) fun g3 _ O=>?_
  refine JG (LF (T:="StopIteration") (b:=true) ⟨oe,O.extBut _ _ b1 U,a4⟩ MA ?_);exact JJ (hQ _ fun c o c1 _ c3 _ x=>O.extBut _ _ c1 (Y _ _ c3 (Z.extBut _ _ c1 x)))
 | some x=>
  have hy:ys[k]? =none:=by rcases c0 with h|h;rw[hx]at h;cases h;exact h
  refine JG (i3 (s:={s with heap:=g1}) (h1.at fun o e=>Z.extBut _ _ D.i1z e) (b6.extBut Z.extBut D.l1z) hx fun g2 d1 Y=>JJ ?_);have b0:IsPair g2 TO a b:=Y.extBut _ _ D.TOi1 (Z.extBut _ _ D.TOz c7);refine JG (K8 b0 rfl ?_);refine JG (MJ b0 fun g3 d0 O=>?_);refine JG (wpAny_letGo (JJ ?_));refine JG (JG (Nl ?_));show wpAny _ _ (Builtin.SmallTypes.nextOf (.ref i2)>>=_) _ _ _;refine JG (jZ (s:={s with heap:=g3}) hh (((h2.at fun o e=>Z.extBut _ _ D.i2z e).at fun o e=>Y.extBut _ _ D.i12.symm e).at fun o e=>O.extBut _ _ D.TOi2.symm e)
   (((c6.extBut Z.extBut D.l2z).extBut Y.extBut D.l2i1).extBut O.extBut D.l2TO) hy fun g4 e b5 he=>?_)
  obtain⟨oe,U,a4⟩:=he;have b2:IsZip g4 z TI TO .ellipsis:=b5 _ _ D.i2z.symm (O.extBut _ _ D.TOz.symm (Y.extBut _ _ D.i1z.symm a6));have b1:e≠z:=fun x=>by subst x;rw[b2]at U;cases U;simp at a4
  refine Lm b2 (by simp) fun g5 _ b3=>?_
  refine JG (LF (T:="StopIteration") (b:=true) ⟨oe,b3.extBut _ _ b1 U,a4⟩ MA ?_);exact JJ (hQ _ fun c o c1 c2 c3 c4 x=>b3.extBut _ _ c1 (b5 _ _ c4 (O.extBut _ _ c2 (Y.extBut _ _ c3 (Z.extBut _ _ c1 x)))))
end
def BE(l:Addr):Obj:={cls:=.type "tuple_iterator",data:=.fields #[.ref l,.int 0 0]}
def Fb(h:Heap)(l1:Addr):Heap:=h.push (BE l1)
def Fc(h:Heap)(l1 l2:Addr):Heap:=(Fb h l1).push (BE l2)
def Fd(h:Heap)(l1 l2:Addr):Heap:=(Fc h l1 l2).push {cls:=.type "tuple",data:=.seq #[.ref h.objs.size,.ref (Fb h l1).objs.size]}
def Gb(h:Heap)(l1 l2:Addr):Heap:=(Fd h l1 l2).push {cls:=.type "tuple",data:=.seq #[.none,.none]}
def Fe(h:Heap)(l1 l2:Addr):Heap:=(Gb h l1 l2).push {cls:=.type "zip",data:=.fields #[.none,.bool false,.bool false,.ref (Fc h l1 l2).objs.size,.ref (Fd h l1 l2).objs.size]}
theorem Ff(l1 l2:Addr)(xs ys:Array Value):
  Meets (Builtin.«zip.__new__» ⟨[.type "zip",.ref l1,.ref l2],[]⟩) (fun _ R s=>s.heap.IsTuple l1 xs/\s.heap.IsTuple l2 ys/\R (.ok (.ret (.ref (Gb s.heap l1 l2).objs.size))) {s with heap:=Fe s.heap l1 l2}):=
 .of_wp fun prog w A R s h=>by
  obtain⟨hp,g,d,tk,os⟩:=s;obtain⟨O,Y,h⟩:=h;have a4:=sub_zip;have U:Heap.IsTuple (Shared.heap ⟨hp,g,d,tk,os⟩) l1 xs:=O;have Z:Heap.IsTuple (Shared.heap ⟨hp.push {cls:=.type "tuple_iterator",data:=.fields #[.ref l1,.int 0 0]},g,d,tk,os⟩) l2 ys:=let ⟨o,e,r⟩:=Y;⟨o,JH _ e,r⟩
  wp_walk using Lc U,Lc Z
  exact⟨_,rfl,h⟩
section
variable {prog:Program}{w:World}{A:Around}{E:Value->Shared->Prop}{s:Shared}
theorem ym{Q:Value->Shared->Prop}(Y:s.heap.IsTuple l1 xs)(Z:s.heap.IsTuple l2 ys)
  (h:∀ h',IsZip h' (s.heap.objs.size+4) (s.heap.objs.size+2) (s.heap.objs.size+3) .none->IsPair h' (s.heap.objs.size+2) (.ref s.heap.objs.size) (.ref (s.heap.objs.size+1))->
   IsPair h' (s.heap.objs.size+3) .none .none->h'.IsTupleIter s.heap.objs.size l1 0->h'.IsTupleIter (s.heap.objs.size+1) l2 0->(∀ c o,s.heap.get? c=some o->h'.get? c=some o)->Q (.ref (s.heap.objs.size+4)) {s with heap:=h'}):
  wpAny (model prog w) A (call (.type "zip") [.ref l1,.ref l2]) Q E s:=by
 refine callType_new F.called_zip (by decide) (F.typeCall_zip_2 _ _) (F.newCall_zip_2 _ _) (fun obj=>F.args_object_init_3 obj _ _) F.entry_zip_new (Ff l1 l2 xs ys) ⟨Y,Z,?_⟩
 have z1:(Fb s.heap l1).objs.size=s.heap.objs.size+1:=KR ..;have z2:(Fc s.heap l1 l2).objs.size=s.heap.objs.size+2:=(KR ..).trans (by rw[z1])
 have z3:(Fd s.heap l1 l2).objs.size=s.heap.objs.size+3:=(KR ..).trans (by rw[z2])
 have z4:(Gb s.heap l1 l2).objs.size=s.heap.objs.size+4:=(KR ..).trans (by rw[z3])
 have u5:∀{c o},(Gb s.heap l1 l2).get? c=some o->(Fe s.heap l1 l2).get? c=some o:=fun e=>JH _ e;have u4:∀{c o},(Fd s.heap l1 l2).get? c=some o->(Gb s.heap l1 l2).get? c=some o:=fun e=>JH _ e;have u3:∀{c o},(Fc s.heap l1 l2).get? c=some o->(Fd s.heap l1 l2).get? c=some o:=fun e=>JH _ e;have u2:∀{c o},(Fb s.heap l1).get? c=some o->(Fc s.heap l1 l2).get? c=some o:=fun e=>JH _ e;have u1:∀{c o},s.heap.get? c=some o->(Fb s.heap l1).get? c=some o:=fun e=>JH _ e;have g5:(Fe s.heap l1 l2).get? (Gb s.heap l1 l2).objs.size=some {cls:=.type "zip",data:=.fields #[.none,.bool false,.bool false,.ref (Fc s.heap l1 l2).objs.size,.ref (Fd s.heap l1 l2).objs.size]}:=JP _ rfl;have g4:(Fe s.heap l1 l2).get? (Fd s.heap l1 l2).objs.size=some {cls:=.type "tuple",data:=.seq #[.none,.none]}:=u5 (JP _ rfl);have g3:(Fe s.heap l1 l2).get? (Fc s.heap l1 l2).objs.size=some {cls:=.type "tuple",data:=.seq #[.ref s.heap.objs.size,.ref (Fb s.heap l1).objs.size]}:=u5 (u4 (JP _ rfl));have g2:(Fe s.heap l1 l2).get? (Fb s.heap l1).objs.size=some (BE l2):=u5 (u4 (u3 (JP _ rfl)));have g1:(Fe s.heap l1 l2).get? s.heap.objs.size=some (BE l1):=u5 (u4 (u3 (u2 (JP _ rfl))));show _/\_;rw[z2,z3,z4]at g5;rw[z1,z2]at g3;rw[z3]at g4;rw[z1]at g2;rw[z4];exact⟨⟨_,g5,rfl⟩,h _ g5 g3 g4 ⟨_,g1,rfl,rfl⟩ ⟨_,g2,rfl,rfl⟩ fun c o x=>u5 (u4 (u3 (u2 (u1 x))))⟩
end
def yS(va vb:List V):It:=⟨fun i _=>i<va.length/\i<vb.length,fun i H x H'=>∃ p a b,H p=none/\va[i]? =some a/\vb[i]? =some b/\x= .ref p/\H'=upd H p (.tup [a,b]),fun i _=>va.length<=i\/vb.length<=i⟩
section
variable {X:Cx}{pins:List (Addr×Obj)}{σ:L2.St}{H:Hp}{s:Shared}
theorem rZ{h':Heap}{t':Nat}{ch:List Addr}(I:L2.Inv X pins σ H s)(hf:∀ b∈ch,jl X pins H b)(k:∀ b o,b ∉ ch->s.heap.get? b=some o->h'.get? b=some o):L2.Inv X pins σ H {s with heap:=h',toks:=t'}:=by
 have Z:∀ b u,H b=some u->b ∉ ch:=fun b u e z=>by rw[(hf b z).1]at e;cases e
 refine I.step (g':=s.gens) (d':=s.drawn) (ch:=ch) (fun b hb=>?_) (fun b o _ _ hc e _=>k b o hc e) (fun b o _ _ hc e _=>⟨o.slots,k b o hc e⟩) (fun _ _ _ _ n=>n)
  (fun b o hc e=>⟨o,k b o hc e⟩) (fun _ _ e=>e) (fun _ _ _ e=>e) (fun b ps e=>⟨#[],by rw[e];simp⟩) (fun m hm=>?_) (fun b u e=>?_) I.bare
 ·obtain⟨f0,f1,f2,f3,f4,f5⟩:=hf b hb;exact⟨f3,f1,f4,f5⟩
 ·obtain⟨o,es,ep,ho,r⟩:=hm;exact⟨o,es,ep,k _ o (fun z=>(hf _ z).2.1 rfl) ho,r⟩
 ·refine(I.hok b u e).stay (fun c v hc q=>k c v ?_ q) (fun _ q=>q) fun _ _ q=>q;rcases hc with z|z
  ·rw[z];exact Z b u e
  ·exact Z c _ z
theorem r0{h':Heap}{t':Nat}{ch:List Addr}{a:Addr}{o:HO}(I:L2.Inv X pins σ H s)(hf:∀ b∈ch,jl X pins H b)(k:∀ b o,b ∉ ch->s.heap.get? b=some o->h'.get? b=some o)(hp:s.heap.objs.size<=a)(Y:bo X.prog X.w (upd H a o) h' a o):
  L2.Inv X pins σ (upd H a o) {s with heap:=h',toks:=t'}:=by
 have hn:H a=none:=I.hok.fresh hp;have Z:∀ b u,H b=some u->b ∉ ch:=fun b u e z=>by rw[(hf b z).1]at e;cases e
 have ne:∀ b o,s.heap.get? b=some o->b≠a:=fun b o e=>JT (JW (JO e) hp);refine I.step (g':=s.gens) (d':=s.drawn) (ch:=ch) (fun b hb=>?_) (fun b o _ _ hc e _=>k b o hc e) (fun b o _ _ hc e _=>⟨o.slots,k b o hc e⟩) (fun b o _ e n=>by rw[aB (ne b o e)];exact n)
  (fun b o hc e=>⟨o,k b o hc e⟩) (fun b xs e=>by rw[aB (aH e hn)];exact e) (fun b _ _ e=>by rw[aB (aH e hn)];exact e) (fun b ps e=>⟨#[],by rw[aB (aH e hn),e];simp⟩) (fun m hm=>?_) (fun b u e=>?_) I.bare
 ·obtain⟨f0,f1,f2,f3,f4,f5⟩:=hf b hb;exact⟨f3,f1,f4,f5⟩
 ·obtain⟨o,es,ep,ho,r⟩:=hm;exact⟨o,es,ep,k _ o (fun z=>(hf _ z).2.1 rfl) ho,r⟩
 ·by_cases hb:b=a
  ·subst hb;rw[aN]at e;cases e;exact Y
  ·rw[aB hb]at e;refine(I.hok b u e).stay (fun c v hc q=>k c v ?_ q) (fun c q=>by rw[aB (aH q hn)];exact q) fun c xs q=>by rw[aB (aH q hn)];exact q
   rcases hc with z|z
   ·rw[z];exact Z b u e
   ·exact Z c _ z
end
theorem Am{P:Program}{w:World}{K:W.Frag}{b5:List Expr}{x1}{tp:Pos}{z TI TO i1 i2 l1 l2:Addr}(D:ZipApart z TI TO i1 i2 l1 l2){va vb:List V}(H0:Hp->Prop)(b2:∀ H,H0 H↔(H l1=some (.tup va)/\H l2=some (.tup vb))):
  Turn P w K (.Tuple b5 x1 tp) ⟨fun i H=>(yS va vb).go i H/\H0 H,(yS va vb).yld,fun i H=>(yS va vb).stop i H/\H0 H⟩ [z,TI,TO,i1,i2] z
   (fun i h=>IsZip h z TI TO .none/\IsPair h TI (.ref i1) (.ref i2)/\(∃ a b,IsPair h TO a b)/\h.IsTupleIter i1 l1 i/\h.IsTupleIter i2 l2 i) where
 mem:=by simp
 obj:=fun i h st b hb=>by
  obtain⟨hz,Z,⟨a,c,Y⟩,⟨o1,e1,c1,d1⟩,⟨o2,e2,c2,d2⟩⟩:=st;simp only[List.mem_cons,List.not_mem_nil,or_false]at hb;rcases hb with rfl|rfl|rfl|rfl|rfl
  ·exact⟨_,hz,fun v z=>by cases z⟩
  ·exact⟨_,Z,fun v z=>by cases z⟩
  ·exact⟨_,Y,fun v z=>by cases z⟩
  ·exact⟨_,e1,fun v z=>by rw[d1]at z;cases z⟩
  ·exact⟨_,e2,fun v z=>by rw[d2]at z;cases z⟩
 keep:=fun i h h' st k=>by
  obtain⟨hz,Z,⟨a,c,Y⟩,h1,h2⟩:=st;exact⟨k z (by simp) _ hz,k TI (by simp) _ Z,⟨a,c,k TO (by simp) _ Y⟩,h1.at fun o e=>k i1 (by simp) o e,h2.at fun o e=>k i2 (by simp) o e⟩
 item:=by
  intro X hP hw hK hc i pins s σ H E I hf st hg;subst hP hw hK;obtain⟨hz,Z,⟨a,c,Y⟩,h1,h2⟩:=st;obtain⟨⟨ga,gb⟩,hH⟩:=hg;obtain⟨hA,hB⟩:=(b2 H).mp hH;obtain⟨b4,b0,p1,_⟩:=I.tuple (.of hA);obtain⟨b3,b1,p2,_⟩:=I.tuple (.of hB);obtain⟨u1,c7,c3⟩:=b0.get (JL ga);obtain⟨u2,c6,c4⟩:=b1.get (JL gb);refine yk D hz Z Y h1 h2 p1 p2 (x:=u1) (y:=u2) (by simpa using c7) (by simpa using c6) fun h' a1 a2 a3 a4 a5 a6 hk=>?_
  have d0:H s.heap.objs.size=none:=I.hok.fresh (JK _);have lt:∀{c o},s.heap.get? c=some o->s.heap.objs.size≠c:=fun e=>Lh (JO e);refine⟨_,rfl,M3 a1 fun O c0 U=>?_⟩;have b6:IsPair O TI (.ref i1) (.ref i2):=U.extBut _ _ D.TIz (hk _ _ D.TIz D.TITO D.TIi1 D.TIi2 Z);have kk:∀ b o,b ∉ [z,TI,TO,i1,i2]->s.heap.get? b=some o->O.get? b=some o:=fun b o hb e=>by
   simp only[List.mem_cons,List.not_mem_nil,or_false,not_or]at hb;exact U.extBut _ _ hb.1 (hk b o hb.1 hb.2.2.1 hb.2.2.2.1 hb.2.2.2.2 e)
  have c5:IsPair O s.heap.objs.size u1 u2:=U.extBut _ _ (lt hz) a5;have I2:L2.Inv X pins σ (upd H s.heap.objs.size (.tup [va[i],vb[i]])) {s with heap:=O,toks:=s.toks}:=r0 (o:=.tup [va[i],vb[i]]) I hf kk (JK _) ⟨by show 2<=sizeLine;decide,[u1,u2],.cons c3 (.cons c4 .nil),_,c5,rfl,_,rfl⟩
  refine⟨.ref s.heap.objs.size,_,I2,rfl,
   ⟨_,_,_,d0,JL ga,JL gb,rfl,rfl⟩,⟨c0,b6,⟨_,_,U.extBut _ _ D.TOz a2⟩,a3.at fun o e=>U.extBut _ _ D.i1z e,a4.at fun o e=>U.extBut _ _ D.i2z e⟩,fun b hb=>?_⟩
  obtain⟨ob,ho,_⟩:∃ ob,s.heap.get? b=some ob/\True:=by
   simp only[List.mem_cons,List.not_mem_nil,or_false]at hb;rcases hb with rfl|rfl|rfl|rfl|rfl
   ·exact⟨_,hz,trivial⟩
   ·exact⟨_,Z,trivial⟩
   ·exact⟨_,Y,trivial⟩
   ·obtain⟨o,e,_⟩:=h1;exact⟨_,e,trivial⟩
   ·obtain⟨o,e,_⟩:=h2;exact⟨_,e,trivial⟩
  rw[aB (JT (JO ho))];exact(hf b hb).1
 done:=by
  intro X hP hw hK hc i pins s σ H E I hf st hg;subst hP hw hK;obtain⟨hz,Z,⟨a,c,Y⟩,h1,h2⟩:=st;obtain⟨gs,hH⟩:=hg;obtain⟨hA,hB⟩:=(b2 H).mp hH;obtain⟨b4,b0,p1,_⟩:=I.tuple (.of hA);obtain⟨b3,b1,p2,_⟩:=I.tuple (.of hB);have e0:=b0.length;have d3:=b1.length;refine Al (I.ok.hd hc) D hz Z Y h1 h2 p1 p2 (gs.imp (fun g=>by simp;omega) fun g=>by simp;omega) fun h' hk=>⟨rfl,rZ (t':=s.toks) I hf fun b o hb e=>?_⟩
  simp only[List.mem_cons,List.not_mem_nil,or_false,not_or]at hb;exact hk b o hb.1 hb.2.2.1 hb.2.2.2.1 hb.2.2.2.2 e
 self:=fun _ _ _ _ _ st h=>ME st.1 h
theorem zip_get{xs ys:List D}{i:Nat}{d:D}(h:((xs.zip ys).map fun p=>D.tup [p.1,p.2])[i]? =some d):∃ x y,xs[i]? =some x/\ys[i]? =some y/\d= .tup [x,y]:=by
 rw[J6]at h;cases q:(xs.zip ys)[i]? with
 |none=>rw[q]at h;cases h
 |some p=>
  rw[q]at h;cases h;obtain⟨h1,h2⟩:=L7.mp q;exact⟨p.1,p.2,h1,h2,rfl⟩
theorem vH{K:W.Frag}{ι:List Addr}{H:Hp}{S:aA}{a b:Addr}{va vb:List V}{xs ys:List D}(rep:Rep K ι H S)(hA:H a=some (.tup va))(hB:H b=some (.tup vb))(rx:RelDs K ι H xs va)(ry:RelDs K ι H ys vb):
  iX K ⟨(xs.zip ys).map fun p=>.tup [p.1,p.2],.none⟩ ⟨fun i H=>(yS va vb).go i H/\(H a=some (.tup va)/\H b=some (.tup vb)),(yS va vb).yld,fun i H=>(yS va vb).stop i H/\(H a=some (.tup va)/\H b=some (.tup vb))⟩ ι H:=by
 intro ι2 H2 S2 e rep2 ok i;have O:H2 a=some (.tup va):=(e.oth a _ hA (rep.notIn hA (by intro _ z;cases z)) (by intro _ z;cases z) (by intro _ z;cases z)).1
 have Z:H2 b=some (.tup vb):=(e.oth b _ hB (rep.notIn hB (by intro _ z;cases z)) (by intro _ z;cases z) (by intro _ z;cases z)).1
 have U:=rx.laterN rep e;have Y:=ry.laterN rep e;have lx:=U.length;have ly:=Y.length;refine⟨fun d hd=>?_,fun hlen=>?_⟩
 ·obtain⟨x,y,h1,h2,rfl⟩:=zip_get hd;have i1:=(JN.mp h1).1;have i2:=(JN.mp h2).1;refine⟨⟨⟨by omega,by omega⟩,O,Z⟩,?_⟩
  rintro v H3 ⟨p,a4,a6,hp,g1,g2,rfl,rfl⟩;obtain⟨v1,e1,r1⟩:=U.get' h1;obtain⟨v2,e2,r2⟩:=Y.get' h2;obtain rfl:v1=a4:=J8 (e1.symm.trans g1);obtain rfl:v2=a6:=J8 (e2.symm.trans g2);have hE:Ext ι2 H2 ι2 (upd H2 p (.tup [v1,v2])):=dQ hp;exact⟨hE,eY rep2 hp,.tup aN (.cons (r1.later rep2 hE) (.cons (r2.later rep2 hE) .nil))⟩
 ·have hl:min xs.length ys.length<=i:=by simpa using hlen
  refine⟨?_,O,Z⟩;rcases Nat.le_total xs.length ys.length with z|z
  ·exact .inl (by omega)
  ·exact .inr (by omega)
end S4
namespace S3
open PySem PySem.Spec PyProof.Rows L2 S4
abbrev mV(i:Nat):TM:=fun ρ=>B5 ρ i
abbrev mK(d:D):TM:=fun _=>pure d
abbrev pU(m n:TM):TM:=fun ρ=>do let x<-m ρ;let c<-kc x;if c=true then n ρ else pure (.bl false)
abbrev Jl(m n:TM):TM:=fun ρ=>do let x<-m ρ;let c<-kc x;if c=true then pure (.bl true)else n ρ
abbrev IV(m:TM):TM:=fun ρ=>do let x<-m ρ;let c<-kc x;pure (.bl (!c))
abbrev JA(t:aM->M Bool)(m n:TM):TM:=fun ρ=>do let k<-t ρ;if k=true then m ρ else n ρ
abbrev BF:=aM->M (List D)
abbrev ao:BF:=fun _=>pure []
abbrev aa(m:TM)(ms:BF):BF:=fun ρ=>do let x<-m ρ;let xs<-ms ρ;pure (x::xs)
abbrev dX(ms:BF):TM:=fun ρ=>do let ds<-ms ρ;bQ ds
abbrev bx(ms:BF):TM:=fun ρ=>do let ds<-ms ρ;bD ds
abbrev az(F:List D->M D)(ms:BF):TM:=fun ρ=>do let ds<-ms ρ;F ds
abbrev cG(F:List D->M D)(m:TM):TM:=az F (aa m ao)
abbrev aU(f:D->D->M D)(m n:TM):TM:=fun ρ=>do let x<-m ρ;let y<-n ρ;f x y
abbrev Fg(f g:D->D->M D)(m n l:TM):TM:=fun ρ=>do let x<-m ρ;let y<-n ρ;let z<-f x y;let k<-kc z;if k=true then do let w<-l ρ;g y w else pure (.bl false)
abbrev IW:=aM->M (Option Int)
abbrev oN:IW:=fun _=>pure none
abbrev oS(m:TM):IW:=fun ρ=>do let x<-m ρ;let i<-Jk x;pure (some i)
abbrev DA(m:TM)(lo hi:IW):TM:=fun ρ=>do let x<-m ρ;let i<-lo ρ;let j<-hi ρ;zT x i j
abbrev gh(m:TM)(T:String):TM:=fun ρ=>do let x<-m ρ;zX (fun t=>gT t T) x
abbrev He(m:TM)(T U:String):TM:=fun ρ=>do let x<-m ρ;zX (fun t=>gT t T||gT t U) x
abbrev wN(f:D->List D->M D)(m n:TM):TM:=fun ρ=>do let x<-m ρ;Ga x;let ds<-(do let y<-n ρ;let ys<-pure [];pure (y::ys));f x ds
abbrev cQ(mi:aM->M Iter)(g:lM)(t:aM->M Bool)(m:TM)(js:List (Option Nat)):TM:=fun ρ=>do let it<-mi ρ;let ys<-gZ it g t m (iG js ρ);bD ys
abbrev j8:=aM->M Bool
abbrev bV(m:TM):j8:=fun ρ=>do let x<-m ρ;kc x
abbrev eT(f:D->D->M D)(m n:TM):j8:=fun ρ=>do let z<-(do let x<-m ρ;let y<-n ρ;f x y);kc z
abbrev vI(f g:D->D->M D)(m n l:TM):j8:=fun ρ=>do let v<-(do let x<-m ρ;let y<-n ρ;let z<-f x y;let k<-kc z;if k=true then do let w<-l ρ;g y w else pure (.bl false));kc v
abbrev fU(t:j8):j8:=fun ρ=>do let c<-t ρ;pure (!c)
abbrev Fh(t u:j8):j8:=fun ρ=>do let c<-t ρ;if c=true then u ρ else pure false
abbrev pI(t u:j8):j8:=fun ρ=>do let c<-t ρ;if c=true then pure true else u ρ
abbrev mE:j8:=fun _=>pure true
abbrev lY(m:TM):aM->M Iter:=fun ρ=>do let ds<-aa m ao ρ;kC ds
abbrev t5(m n:TM):aM->M Iter:=fun ρ=>do let ds<-aa m (aa n ao) ρ;iZ ds
abbrev ij(m:TM):aM->M Iter:=fun ρ=>do let x<-m ρ;G8 x
abbrev gN(i:Nat):lM:=fun d ρ=>pure (ρ.set i (some d))
abbrev HL(m n:TM):lM:=fun d ρ=>do let x<-m ρ;let y<-n ρ;jv x y d;pure ρ
abbrev eP:cT:=fun ρ=>pure (.nx ρ)
abbrev aJ(m n:cT):cT:=fun ρ=>do let o<-m ρ;xS o n
abbrev sX(me:TM):cT:=fun ρ=>do let _<-me ρ;pure (.nx ρ)
abbrev bO(me:TM):cT:=fun ρ=>do let d<-me ρ;pure (.ret d)
abbrev jz(t:j8)(m n:cT):cT:=fun ρ=>do let c<-t ρ;if c=true then m ρ else n ρ
abbrev bK(i:Nat)(me:TM):cT:=fun ρ=>do let d<-me ρ;pure (.nx (ρ.set i (some d)))
abbrev mU(me:TM)(g:lM):cT:=fun ρ=>do let d<-me ρ;let ρ'<-g d ρ;pure (.nx ρ')
abbrev Fi(i j:Nat)(ms:BF):cT:=fun ρ=>do let ds<-ms ρ;match ds with|[d1,d2]=>pure (.nx ((ρ.set i (some d1)).set j (some d2)))|_=>M.fail
abbrev kE(mi:aM->M Iter)(g:lM)(b:cT):cT:=fun ρ=>do let it<-mi ρ;fT it g b it.items ρ
abbrev Fj(k:Nat)(t:j8)(b:cT):cT:=fun ρ=>jw t b k ρ
structure DefIs(P:Program)(w:World)(K:W.Frag)(mg:Str->Option Value)(base:Heap)(k:Nat)(x:Str)(ps:List Str)(F:List D->M D):Prop where
 ex:∃ f fd,FnOk P w K mg base Jw k f fd ps (Jy K F)/\mg x=some (.ref f)/\W.keepIn K (.ref f)=true/\Binds K fd ps []
section
variable {X:Cx}{E:XD}{e:Expr}{es:List Expr}{pos:Pos}{ms:BF}
theorem aF{c j p}:starEach (.Constant c j p::es) env=(false,eval (.Constant c j p) env)::starEach es env:=rfl
theorem bz{l k p}:starEach (.Tuple l k p::es) env=(false,eval (.Tuple l k p) env)::starEach es env:=rfl
theorem lg{l p}:starEach (.List l p::es) env=(false,eval (.List l p) env)::starEach es env:=rfl
theorem au{x p}:starEach (.Name x p::es) env=(false,eval (.Name x p) env)::starEach es env:=rfl
theorem aS{f l k p}:starEach (.Call f l k p::es) env=(false,eval (.Call f l k p) env)::starEach es env:=rfl
theorem jA{a o b p}:starEach (.BinOp a o b p::es) env=(false,eval (.BinOp a o b p) env)::starEach es env:=rfl
theorem bf{a b p}:starEach (.Subscript a b p::es) env=(false,eval (.Subscript a b p) env)::starEach es env:=rfl
theorem Cn{a b p}:starEach (.Dict a b p::es) env=(false,eval (.Dict a b p) env)::starEach es env:=rfl
theorem vJ{a b p}:starEach (.UnaryOp a b p::es) env=(false,eval (.UnaryOp a b p) env)::starEach es env:=rfl
theorem An{j p}:SE X E (.UnaryOp .USub (.Constant (.int i) j p) pos) (mK (.int (-i))):=by
 refine PE.imp (GF Em yT) fun σ H Q h=>?_;obtain⟨ι,S,ρ,rep,re,c⟩:=h;exact⟨i,rfl,ah c .refl rep _ (.int _)⟩
theorem oC(hg:Gl X x)(hm:∃ t,X.mg x=some (.int i t))(hd:(x==("__debug__":Str))=false:=by decide):SE X E (.Name x pos) (mK (.int i)):=
 let ⟨_,h⟩:=hm
 B6 hg h hd
def Hf(fs:Scope)(N:List Str)(scope:Scope)(Nc:List Str)(js:List (Option Nat)):Bool:=
 (scope.kind== .function) && scope.names.all (fun y=>y.2 != .cell||scope.names.lookup y.1==some .cell) && scope.names.all (fun y=>y.2 != .local||scope.names.lookup y.1==some .local) &&
  scope.names.all (fun y=>y.2 != .free||(fs.names.lookup y.1==some .cell||fs.names.lookup y.1==some .free)) && (js.length==Nc.length) &&
  (Nc.zip js).all (fun p=>match p.2 with|none=>true|some j=>N[j]? ==some p.1 && scope.names.lookup p.1==some .free)
theorem pV(fs:Scope)(N:List Str)(he:∀ x,X.env.kindOf x=fs.names.lookup x)(hN:X.N=N)(h:Hf fs N scope Nc js=true):CompScope X scope Nc js:=by
 unfold Hf at h;simp only[Bool.and_eq_true,List.all_eq_true,beq_iff_eq,bne_iff_ne,Bool.or_eq_true]at h;obtain⟨⟨⟨⟨⟨h1,h2⟩,h3⟩,h4⟩,h5⟩,h6⟩:=h;refine⟨h1,fun y hy e=>(h2 y hy).resolve_left fun z=>z e,fun y hy e=>(h3 y hy).resolve_left fun z=>z e,fun y hy e=>?_,h5,fun i x j e1 e2=>?_⟩
 ·rw[he];exact(h4 y hy).resolve_left fun z=>z e
 ·have hz:(Nc.zip js)[i]? =some (x,some j):=L7.mpr ⟨e1,e2⟩;have:=h6 _ (Ke hz);simp only[Bool.and_eq_true,beq_iff_eq]at this;rw[hN];exact this
theorem jg(hr:Room k A):A.units+64<cLine:=by have:=hr.un;omega
theorem JB(hr:Room k A):A.units+8<cLine:=by have:=hr.un;omega
theorem Co(hr:Room k A):A.units<cLine:=by have:=hr.un;omega
end
section
variable {P:Program}{w:World}{K:W.Frag}{mg:Str->Option Value}{base:Heap}
end
def runs{α:Type}(c:M α)(S:aA)(Q:α->aA->Prop):Prop:=∃ a S',c S=some (.ok a,S')/\Q a S'
section
variable {α β:Type}{c:M α}{f:α->M β}{S:aA}{Q Q':α->aA->Prop}{R:β->aA->Prop}
theorem sd(h:c S=some (.ok a,S1)):runs c S Q↔Q a S1:=by
 constructor
 ·rintro⟨a',S',e,q⟩;rw[h]at e;cases e;exact q
 ·exact fun q=>⟨a,S1,h,q⟩
theorem Cp(h:c S=none):runs c S Q↔False:=by
 constructor
 ·rintro⟨a',S',e,q⟩;rw[h]at e;cases e
 ·exact fun q=>q.elim
theorem qD(h:runs c S Q)(k:∀ a S',Q a S'->Q' a S'):runs c S Q':=let ⟨a,S',e,q⟩:=h;⟨a,S',e,k a S' q⟩
end
section
variable {S:aA}{Q:D->aA->Prop}
theorem yn:runs (bD ds) S Q↔ds.length<=lim/\Q (.lst S.length) (S++[ds]):=by
 by_cases h:ds.length<=lim
 ·rw[sd (by unfold bD;rw[if_pos h])];simp[h]
 ·rw[Cp (by unfold bD;rw[if_neg h])];simp[h]
theorem i4{f:PyData->PyData->Bool}(h1:kd S 60 a=some p)(h2:kd S 60 b=some q):runs (F9 f a b) S Q↔Q (.bl (f p q)) S:=by
 rw[sd (by unfold F9;rw[h1,h2])]
theorem Cq(h1:kd S 60 a=some p)(h2:kd S 60 b=some q)(h3:IR f p q=some r):runs (G3 f a b) S Q↔Q (.bl r) S:=by
 rw[sd (by unfold G3;rw[h1,h2];simp only[h3];rfl)]
end
end S3
namespace S7
open PySem PySem.Spec PySem.W PyProof.Rows
section
variable {prog:Program}{w:World}{A:Around}{E:Value->Shared->Prop}{s:Shared}{K:Frag}{x C:Addr}{ox:Obj}{od:Option Obj}{name:Str}
theorem wO:Slot "BaseException" "__getattribute__" "BaseException.__getattribute__":=
 .of (owner:="BaseException") (n:="__getattribute__") (by rw[NA,MC];kernel_rfl) (by decide+kernel) (by decide+kernel) (by decide+kernel)
  (by first|exact .inl (by decide+kernel)|exact .inr (by decide+kernel)) (by rw[Mz];kernel_rfl)
theorem Ao{M:Model}{Z:Value}{Q:Unit->Shared->Prop}(X:K.In s.heap)(I:W.InstAt s.heap x ox C od)(hm:mroIn K C (.type "BaseException")=some true)(h:Q () s):
  wpAny M A (checkBuiltinCall "BaseException.__getattribute__" ⟨[.ref x,Z],[]⟩) Q E s:=by
 have hk:builtinKind "BaseException.__getattribute__"=some .slot:=by decide+kernel
 have Y:splitId "BaseException.__getattribute__"=some ("BaseException","__getattribute__"):=by decide+kernel
 have L0:=I.type (M:=M);have L1:=looks_mroIn (M:=M) X hm;have ha:=F.args_bexc_ga (.ref x) Z;obtain⟨hh,g,d,t,os⟩:=s;have LI:Looks M hh (isInstance (.ref x) (.type "BaseException")) true:=L0.andThen L1;simp only[checkBuiltinCall,hk,Y];refine JG (LI.at ?_)
 repeat (first|wp_step)
 exact h
theorem Ap{Y Z:Bool}{tk:Tok}{Q:Value->Shared->Prop}(X:K.In s.heap)(I:W.InstAt s.heap x ox C od)(U:findIn K (.ref C) "__getattribute__"=some (some (.builtin "BaseException.__getattribute__")))
  (a6:findIn K (.ref C) "__getattr__"=some none) (hm:mroIn K C (.type "BaseException")=some true)
  (h:wpAny (model prog w) A.in1 (Builtin.«object.__getattribute__» ⟨[.ref x,.str name tk],[]⟩)
   (fun fin s'=>match fin with| .done (.ret v)=>wpAny (model prog w) A (handedOut v) Q E s'|_=>False) (fun _ _=>False) s):
  wpAny (model prog w) A (getAttrBy (.ref x) (.str name tk) Y Z) Q E s:=by
 obtain⟨hh,g,d,t,os⟩:=s;have L0:=I.type (M:=model prog w);have L1:=looks_findIn (M:=model prog w) X U;have L2:=looks_findIn (M:=model prog w) X a6;have b0:(Z && onTheHeap (Value.builtin "BaseException.__getattribute__"))=false:=by cases Z<;>rfl
 have O:(Value.builtin "BaseException.__getattribute__"==Value.builtin "object.__getattribute__")=false:=by decide+kernel
 have a4:(onTheHeap (Value.ref C) && Value.builtin "BaseException.__getattribute__"==Value.builtin "object.__getattribute__")=false:=by rw[O,ND]
 unfold getAttrBy;refine Ko (JG (L0.at (JG (L1.at ?_))));dsimp only;rw[a4];simp only[Bool.false_eq_true,if_false];unfold getAttrByItsOwn hookBefore;rw[if_pos (show onTheHeap (Value.ref C)=true from rfl)];refine JG (L2.at ?_);unfold callGetattribute;rw[b0];simp only[Bool.false_eq_true,if_false];refine JG (LW (Ko ?_));unfold boundAndCalled;rw[wO.bind];refine JG (JJ ?_);refine Mu (MI wO.plain F.entry_bexc_ga (Ao X I hm (Kb h (fun fin s' z=>?_) fun _ _ z=>z.elim)));rcases fin with(_|_|_|_)|_<;>first|exact z|exact z.elim
theorem oE{g a:Value}{tk:Tok}{P:Value->Shared->Prop}(X:K.In s.heap)(I:W.InstAt s.heap x ox C od)(hf:findObj K C od name=some (.bind g a))
  (h:wpAny (model prog w) A (call g [a,.ref x,.ref C]) P E s):
  wpAny (model prog w) A (Builtin.«object.__getattribute__» ⟨[.ref x,.str name tk],[]⟩) (fun fin s'=>match fin with| .done (.ret v)=>P v s'|_=>False) E s:=by
 obtain⟨hh,gg,d,t,os⟩:=s;have L0:=I.type (M:=model prog w);have L1:=looks_find (M:=model prog w) X I hf;refine JG (JJ (JG (JJ (JG (L0.at (JG (L1.at ?_)))))));show wpAny _ _ (holding [a] (call g [a,.ref x,.ref C])>>=ret) _ _ _;exact JG (Ko (Kb h (fun v s' z=>JJ z) fun _ _ z=>z))
theorem pW{v:Value}{tk:Tok}{P:Value->Shared->Prop}(X:K.In s.heap)(I:W.InstAt s.heap x ox C od)(hf:findObj K C od name=some (.value v))(h:P v s):
  wpAny (model prog w) A (Builtin.«object.__getattribute__» ⟨[.ref x,.str name tk],[]⟩) (fun fin s'=>match fin with| .done (.ret v)=>P v s'|_=>False) E s:=by
 obtain⟨hh,gg,d,t,os⟩:=s;have L0:=I.type (M:=model prog w);have L1:=looks_find (M:=model prog w) X I hf;refine JG (JJ (JG (JJ (JG (L0.at (JG (L1.at ?_)))))));exact JJ h
structure ExcC(K:Frag)(C:Addr):Prop where
 ga:findIn K (.ref C) "__getattribute__"=some (some (.builtin "BaseException.__getattribute__"))
 gt:findIn K (.ref C) "__getattr__"=some none
 be:mroIn K C (.type "BaseException")=some true
 ob:mroIn K C (.type "object")=some true
 cl:findIn K (.ref C) "__class__"=some (some (.builtin "object.__class__"))
 gs:specialIn K (.builtin "object.__class__") "__get__"=some (some (.builtin "getset_descriptor.__get__"))
 tk:takesIn K (.builtin "object.__class__")=some true
 cd:(clsIn K C).isSome=true
 mf:findIn K (.ref C) "many"=some none
 ms:findIn K (.ref C) "most"=some none
def Aq(K:Frag)(C:Addr):Bool:=(findIn K (.ref C) "__getattribute__"==some (some (.builtin "BaseException.__getattribute__"))) && (findIn K (.ref C) "__getattr__"==some none) && (mroIn K C (.type "BaseException")==some true) &&
 (mroIn K C (.type "object")==some true) && (findIn K (.ref C) "__class__"==some (some (.builtin "object.__class__"))) && (specialIn K (.builtin "object.__class__") "__get__"==some (some (.builtin "getset_descriptor.__get__"))) &&
 (takesIn K (.builtin "object.__class__")==some true) && (clsIn K C).isSome && (findIn K (.ref C) "many"==some none) && (findIn K (.ref C) "most"==some none)
theorem ExcC.of(h:Aq K C=true):ExcC K C:=by
 unfold Aq at h;simp only[Bool.and_eq_true,beq_iff_eq]at h;obtain⟨⟨⟨⟨⟨⟨⟨⟨⟨h1,h2⟩,h3⟩,h4⟩,h5⟩,h6⟩,h7⟩,h8⟩,h9⟩,Z⟩:=h;exact⟨h1,h2,h3,h4,h5,h6,h7,h8,h9,Z⟩
theorem yo{Q:Option Value->Shared->Prop}(c:ExcC K C)(X:K.In s.heap)(I:W.InstAt s.heap x ox C od)(h:Q (some (.ref C)) {s with toks:=s.toks+1}):wpAny (model prog w) A (getAttr? (.ref x) "__class__") Q E s:=by
 have hf:findObj K C od "__class__"=some (.bind (.builtin "getset_descriptor.__get__") (.builtin "object.__class__")):=by
  obtain⟨cd,hc⟩:=KY.mp c.cd;unfold findObj;rw[hc,LG,c.cl,LG];simp[c.gs,c.tk]
 unfold getAttr? getAttrBy?;refine JG (wpAny_mkText (JG (LW (Ap (s:={s with toks:=s.toks+1}) X I c.ga c.gt c.be ?_))));refine oE (s:={s with toks:=s.toks+1}) X I hf ?_;exact Mu (class_get (s:={s with toks:=s.toks+1}) (ox:=ox) (od:=od) X I c.ob (handed_on rfl (JJ h)))
theorem Ar(c:ExcC K C):KitX K (.ref x) (.ref C) (fun h=>∃ ox od,W.InstAt h x ox C od) where
 ty:=fun _ _ _ ⟨_,_,I⟩=>I.type
 it:=fun _ _ X _=>by
  have Z:=c.cd;unfold clsIn at Z;split at Z
  ·rename_i c' d' cd' sl' ho
   intro A' Q' E' s' k q;unfold isType loadHead;exact JG (wpAny_loadPart (k _ _ (X _ _ ho)) (JJ q))
  ·cases Z
 ne:=fun h tp dd its n sl X Y=>by
  have Z:=c.cd;refine Nd.mpr fun q=>?_;have e:C=tp:=Value.ref.inj (NK.mp q);subst e;unfold clsIn at Z;split at Z
  ·rename_i c' d' cd' sl' ho
   have z:=(X _ _ ho).symm.trans Y;cases z
  ·cases Z
 ca:=fun X ⟨_,_,I⟩ k=>yo c X I k
end
end S7
namespace S7
open PySem PySem.Spec PyProof.Rows L2 S3
def As(e T C:Addr)(od:Option Addr)(fl:Value)(h:Heap):Prop:=
 ∃ oe vs oT ts,h.get? e=some oe/\oe.cls= .ref C/\oe.dict=od/\oe.data= .fields vs/\vs[1]? =some (.ref T)/\T≠e/\h.get? T=some oT/\oT.data= .fields ts/\ts[3]? =some fl
structure Step(fs:List Addr)(e T:Addr)(h h':Heap):Prop where
 keep:∀ b o,h.get? b=some o->b≠e->b≠T->b ∉ fs->h'.get? b=some o
 slot:∀ b o,h.get? b=some o->b≠e->b≠T->∃ sl,h'.get? b=some {o with slots:=sl}
 size:h.objs.size<=h'.objs.size
section
variable {M:Model}{A:Around}{E:Value->Shared->Prop}{s:Shared}{base:Heap}{env:Env}{outer:List Env}{L e T C:Addr}{od:Option Addr}{fl:Value}{Q:Unit->Shared->Prop}
theorem oF(o:Obj)(f:Array Value->Array Value):(Obj.mapFields f o).dict=o.dict:=by
 obtain⟨c,d,dt,sl⟩:=o;cases dt<;>rfl
theorem entry(b3:A.frames=some (env::outer))(hl:s.heap.FunFrames base (env::outer))(hf:env.frame=some L)
  (he:s.heap.get? e=some oe) (hc:oe.cls= .ref C) (ho:oe.dict=od) (hd:oe.data= .fields vs) (O:1<vs.size)
  (h:∀ h' T',As e T' C od (rawInt L) h'->s.heap.objs.size<=T'->Step (jj (env::outer)) e e s.heap h'->Q () {s with heap:=h'}):
  wpAny M A (do let a<-frameOf env;let pl<-entryPlaceOf L hadNext;let b<-EntryCells.newEntry head a .none (rawInt L) .none pl;setField (.ref e) 1 b) Q E s:=by
 have b0:e ∉ jj (env::outer):=fun hm=>by obtain⟨_,o,q,b2⟩:=hl.mem hm;rw[he]at q;cases q;exact b2 vs hd
 refine JG (wpAny_frameOf_fun b3 hl hf fun h1 Z=>JG (wpAny_entryPlaceOf fun pl Y=>?_));unfold EntryCells.newEntry newFields;refine JG (Kq (?_ :wpAny _ _ _ _ _ _) (Y.sizeOk5 _ _ _ _ _));have b1:h1.get? e=some oe:=(Z.2.1 e b0).trans he;have a4:=JH (h:=h1) {cls:=.type "traceback",dict:=none,data:=.fields ([head,.ref L,.none,rawInt L,.none]++(if pl.isEmpty then List.replicate 6 Value.none else pl)).toArray} b1;have U:h1.objs.size≠e:=Lh (JO b1);have a6:=Ld hd (·.setIfInBounds 1 (Value.ref h1.objs.size));refine LH a4 hd O (h _ h1.objs.size ⟨_,_,_,_,Kx _ a4 (LS a6),?_,?_,a6,by simp[O],U,(Kn _ _ (Ne.symm U)).trans (JP h1 rfl),rfl,?_⟩ (Mf Z.1.symm) ⟨fun b o q n1 _ n3=>?_,fun b o q n1 _=>?_,?_⟩)
 ·rw[Ng];exact hc
 ·rw[oF];exact ho
 ·first|(simp;done)|(rcases Y with rfl|⟨_,_,_,_,_,_,_,rfl⟩<;>simp)
 ·rw[Kn _ _ (Ne.symm n1)];exact JH _ ((Z.2.1 b n3).trans q)
 ·obtain⟨sl,q2⟩:=Z.2.2 b o q;exact⟨sl,by rw[Kn _ _ (Ne.symm n1)];exact JH _ q2⟩
 ·rw[LJ,KR,Z.1];exact LP _
theorem vK(Z:A.frames=some (env::outer))(hl:s.heap.FunFrames base (env::outer))(hf:env.frame=some L)
  (he:s.heap.get? e=some oe) (hc:oe.cls= .ref C) (ho:oe.dict=od) (hd:oe.data= .fields vs) (h1:vs[1]? =some .none)
  (h:∀ h' T',As e T' C od (rawInt L) h'->s.heap.objs.size<=T'->Step (jj (env::outer)) e e s.heap h'->Q () {s with heap:=h'}):wpAny M A (noteFrame (.ref e) env) Q E s:=by
 unfold noteFrame;simp only[hf];refine JG (KL he hd h1 ?_);rw[if_neg (by decide)]
 exact entry Z hl hf he hc ho hd (J9.mp h1).1 h
theorem qE(U:A.frames=some (env::outer))(hl:s.heap.FunFrames base (env::outer))(hf:env.frame=some L)(F:As e T C od .none s.heap)
  (h:∀ h' T',As e T' C od (rawInt L) h'->s.heap.objs.size<=T'->Step (jj (env::outer)) e T s.heap h'->Q () {s with heap:=h'}):wpAny M A (noteFrame (.ref e) env) Q E s:=by
 obtain⟨oe,vs,oT,ts,he,hc,ho,hd,h1,a4,hT,Z,h3⟩:=F;have a6:3<ts.size:=(J9.mp h3).1;unfold noteFrame;simp only[hf];refine JG (KL he hd h1 ?_);rw[if_pos (show(Value.ref T !=Value.none)=true from by simp)]
 refine JG (KL hT Z h3 ?_);rw[if_neg (show ¬ ((Value.none==rawInt L)=true)from by simp[rawInt])]
 refine JG (LH hT Z a6 ?_);have other:∀ b,b≠T->(s.heap.update T (Obj.mapFields (·.setIfInBounds 3 Value.none))).get? b=s.heap.get? b:=fun b hb=>Kn _ _ (Ne.symm hb);have O:(s.heap.update T (Obj.mapFields (·.setIfInBounds 3 Value.none))).FunFrames base (env::outer):=hl.of_keeps fun b o q Y=>⟨o,(other b fun z=>by rw[z,hT]at q;cases q;exact Y ts Z).trans q,rfl⟩
 refine entry (s:={s with heap:=s.heap.update T (Obj.mapFields (·.setIfInBounds 3 Value.none))}) U O hf ((other e (Ne.symm a4)).trans he) hc ho hd (J9.mp h1).1 fun h' T' F' l st=>h h' T' F' ?_ ⟨fun b o q n1 n2 n3=>st.keep b o ((other b n2).trans q) n1 n1 n3,fun b o q n1 n2=>st.slot b o ((other b n2).trans q) n1 n1,?_⟩
 ·have:=l;rwa [LJ]at this
 ·have:=st.size;rwa [LJ]at this
theorem hU(F:As e T C od fl s.heap)(h:∀ h',As e T C od .none h'->Step [] e T s.heap h'->Q () {s with heap:=h'}):wpAny M A (setFlight (.ref e) none) Q E s:=by
 obtain⟨oe,vs,oT,ts,he,hc,ho,hd,h1,Y,hT,Z,h3⟩:=F;have U:3<ts.size:=(J9.mp h3).1;refine wpAny_setFlight_none he hd h1 hT Z U (h _ ⟨oe,vs,_,_,(Kn _ _ Y).trans he,hc,ho,hd,h1,Y,Kx _ hT (LS (Ld Z _)),Ld Z _,by simp[U]⟩
  ⟨fun b o q n1 n2 _=>(Kn _ _ (Ne.symm n2)).trans q,fun b o q n1 n2=>⟨o.slots,(Kn _ _ (Ne.symm n2)).trans q⟩,?_⟩)
 rw[LJ];exact JK _
theorem t6(Y:A.frames=some (env::outer))(hl:s.heap.FunFrames base (env::outer))(hf:env.frame=some L)
  (he:s.heap.get? e=some oe) (hc:oe.cls= .ref C) (ho:oe.dict=od) (hd:oe.data= .fields vs) (h1:vs[1]? =some .none)
  (h:∀ h' T',As e T' C od .none h'->s.heap.objs.size<=T'->Step (jj (env::outer)) e e s.heap h'->Q () {s with heap:=h'}):wpAny M A (leaving env (.ref e)) Q E s:=by
 unfold leaving;refine JG (vK Y hl hf he hc ho hd h1 fun h' T' F l st=>hU (s:={s with heap:=h'}) F fun Z F2 gm=>h Z T' F2 l ⟨fun b o q n1 n2 n3=>?_,fun b o q n1 n2=>?_,JV st.size gm.size⟩)
 ·exact gm.keep b o (st.keep b o q n1 n1 n3) n1 (JT (JW (JO q) l)) (by simp)
 ·obtain⟨sl,q2⟩:=st.slot b o q n1 n1;exact⟨sl,gm.keep b _ q2 n1 (JT (JW (JO q) l)) (by simp)⟩
theorem vL(Y:A.frames=some (env::outer))(hl:s.heap.FunFrames base (env::outer))(hf:env.frame=some L)(F:As e T C od .none s.heap)
  (h:∀ h' T',As e T' C od .none h'->s.heap.objs.size<=T'->Step (jj (env::outer)) e T s.heap h'->Q () {s with heap:=h'}):wpAny M A (leaving env (.ref e)) Q E s:=by
 unfold leaving;refine JG (qE Y hl hf F fun h' T' F l st=>hU (s:={s with heap:=h'}) F fun Z F2 gm=>h Z T' F2 l ⟨fun b o q n1 n2 n3=>?_,fun b o q n1 n2=>?_,JV st.size gm.size⟩)
 ·exact gm.keep b o (st.keep b o q n1 n2 n3) n1 (JT (JW (JO q) l)) (by simp)
 ·obtain⟨sl,q2⟩:=st.slot b o q n1 n2;exact⟨sl,gm.keep b _ q2 n1 (JT (JW (JO q) l)) (by simp)⟩
end
def j9(P:Program)(w:World):yR:=fun outer H s E x s'=>
 ∃(e T C:Addr) (od:Option Addr) (H':Hp),x= .ref e/\s'.os=s.os/\AllBare s'.gens/\Un (jj outer) [] H H' s.heap s'.heap/\fP P w H' s'.heap/\As e T C od .none s'.heap/\
  H' e=none/\H' T=none/\s.heap.get? e=none/\s.heap.get? T=none/\E (.ref C) od H'
theorem qF{X:Cx}:nJ (j9 X.prog X.w) X E0:=fun _ _ _ _ _ _ _ ⟨_,_,_,_,_,_,_,_,_,_,_,_,_,_,_,h⟩=>h.elim
theorem gq{h:Heap}(q:h.get? b=some o)(n:h.get? e=none):b≠e:=fun z=>by rw[z,n]at q;cases q
theorem Un.fly(u:Un fs [] H H' h h1)(st:Step fs e T h1 h2)(he:h.get? e=none)(hT:h.get? T=none):Un fs [] H H' h h2 where
 keep:=fun b o q n hf hx=>st.keep b o (u.keep b o q n hf hx) (gq q he) (gq q hT) hf
 slot:=fun b o q n hf hx=>by
  obtain⟨sl,q1⟩:=u.slot b o q n hf hx;obtain⟨Z,q2⟩:=st.slot b _ q1 (gq q he) (gq q hT);exact⟨Z,q2⟩
 free:=u.free
 there:=fun b o q hx=>by
  obtain⟨o1,q1⟩:=u.there b o q hx;obtain⟨Z,q2⟩:=st.slot b _ q1 (gq q he) (gq q hT);exact⟨_,q2⟩
 tups:=u.tups
 frzs:=u.frzs
 tbls:=u.tbls
theorem fP.fly{H:Hp}(ok:fP P w H h1)(st:Step fs e T h1 h2)(he:H e=none)(hT:H T=none)(hf:∀ b∈fs,H b=none):fP P w H h2:=fun a o q=>by
 have k:∀ b u,H b≠none->h1.get? b=some u->h2.get? b=some u:=fun b u n q=>st.keep b u q (fun z=>n (by rw[z];exact he)) (fun z=>n (by rw[z];exact hT)) fun z=>n (hf b z)
 refine(ok a o q).stay (fun b u hb=>k b u ?_) (fun _ z=>z) fun _ _ z=>z;rcases hb with rfl|hb
 ·rw[q];simp
 ·rw[hb];simp
section
theorem t7(l:List Env)(x:Addr)(env:Env)(h:env.frame=some x):jj (env::l)=x::jj l:=by
 unfold jj;rw[Kt,h]
theorem bo.there(x:bo P w H h a o):∃ ob,h.get? a=some ob:=by
 cases o with
 |lst xs=>obtain⟨_,_,_,_,e⟩:=x;exact⟨_,e⟩
 |tup xs=>obtain⟨_,_,_,ob,e,_⟩:=x;exact⟨_,e⟩
 |dK kvs=>obtain⟨_,_,_,_,o,_,_,e,_⟩:=x;exact⟨_,e⟩
 |dT kvs=>obtain⟨_,_,_,_,o,_,_,e,_⟩:=x;exact⟨_,e⟩
 |set S n=>obtain⟨o,_,_,_,e,_⟩:=x;exact⟨_,e⟩
 |ins C dx fs=>obtain⟨_,_,_,e,_⟩:=x;exact⟨_,e⟩
 |own y=>exact x
 |xd fs=>obtain⟨_,⟨_,_,_,e,_⟩,_⟩:=x;exact⟨_,e⟩
 |rng lo hi=>obtain⟨_,_,_,e⟩:=x;exact⟨_,e⟩
 |frz ob u=>obtain⟨e,_⟩:=x;exact⟨_,e⟩
 |tbl ps=>exact⟨_,(show h.get? a=some _ from x)⟩
 |met f y=>exact⟨_,(show h.get? a=some _ from x)⟩
 |ext φ=>exact x.2.1
theorem fP.gone{H:Hp}(x:fP P w H h)(e:h.get? a=none):H a=none:=by
 cases q:H a with
 |none=>rfl
 |some o=>
  obtain⟨ob,e2⟩:=bo.there (x a o q);rw[e]at e2;cases e2
theorem Un.gone(u:Un fs ex H H' h h')(hx:a ∉ ex)(e:h'.get? a=none):h.get? a=none:=by
 cases q:h.get? a with
 |none=>rfl
 |some o=>
  obtain⟨ob,e2⟩:=u.there a o q hx;rw[e]at e2;cases e2
end
abbrev Cx.hand(X:Cx)(e:Value):Cx:={X with A:=X.A.mark (some e),calm:=false,xe:=fun _ _=>False}
section
variable {X:Cx}{pins:List (Addr×Obj)}{σ:L2.St}{H H':Hp}{s:Shared}{x:Value}
theorem Inv.hand(I:Inv X pins σ H s)(e:Value):Inv (Cx.hand X e) pins σ H s:=
 ⟨⟨I.ok.mod,I.ok.kind,I.ok.glob,I.ok.blt,I.ok.above,I.ok.inj,I.ok.has,I.ok.cab,(fun z=>Bool.noConfusion z),I.ok.frames,I.ok.stk,I.ok.exf,I.ok.bs,I.ok.bsz,I.ok.noex,I.ok.exfs,I.ok.funs,I.ok.frf⟩,
  I.os,I.bare,I.base,I.loc,I.cell,I.free,I.freeC,I.pin,I.hok,I.len⟩
theorem Inv.unhand(ok:X.Ok)(I:Inv (Cx.hand X x) pins σ H s):Inv X pins σ H s:=⟨ok,I.os,I.bare,I.base,I.loc,I.cell,I.free,I.freeC,I.pin,I.hok,I.len⟩
theorem Inv.local{σ':L2.St}(I:Inv X pins σ H s)(hs:Heap.SameBut X.env.locals s.heap h')(hn:h'.Ns X.env.locals m')(Z:σ'.length=X.N.length)
  (hl:∀(i:Nat) (y:Str) (v:V),X.N[i]? =some y->σ'[i]? =some (some v)->xy X.env.scope y->∃ u,RelV v u/\Look X.env h' m' y u):Inv X pins σ' H {s with heap:=h',toks:=t'}:=by
 have ne:∀ b o,X.s₀.heap.get? b=some o->b≠X.env.locals:=fun b o e=>JT (JW (JO e) I.ok.above);refine⟨I.ok,I.os,I.bare,⟨fun b o e n hb hx=>(hs.2 b (ne b o e)).trans (I.base.keep b o e n hb hx),fun b o e n hb hx=>?_,I.base.free,fun b o e hx=>?_,I.base.tups,I.base.frzs,I.base.tbls⟩,⟨m',hn,hl⟩,fun y c e=>?_,I.free,I.freeC,fun p hp=>?_,fun a o e=>?_,Z⟩
 ·obtain⟨sl,e1⟩:=I.base.slot b o e n hb hx;exact⟨sl,(hs.2 b (ne b o e)).trans e1⟩
 ·obtain⟨o',e1⟩:=I.base.there b o e hx;exact⟨o',(hs.2 b (ne b o e)).trans e1⟩
 ·obtain⟨v,z⟩:=I.cell y c e;exact⟨v,z.sameBut hs (I.cne y c e)⟩
 ·obtain⟨e,n,nl,r⟩:=I.pin p hp;exact⟨(hs.2 p.1 nl).trans e,n,nl,r⟩
 ·refine(I.hok a o e).stay (fun c w' hc q=>(hs.2 c ?_).trans q) (fun _ q=>q) fun _ _ q=>q;rintro rfl;rcases hc with hc|hc
  ·subst hc;rw[I.free]at e;cases e
  ·rw[I.free]at hc;cases hc
theorem Cr{M:Model}{A:Around}{E:Value->Shared->Prop}{i:Nat}{y:Str}{pos:Pos}{Q:Unit->Shared->Prop}(I:Inv X pins σ H s)(hN:X.N.Nodup)(hi:X.N[i]? =some y)(hk:X.env.scope.names.lookup y=some .local)
  (h:∀ s',Inv X pins (σ.set i none) H s'->Q () s'):wpAny M A (do bindName X.env y .none;unbindBehindTheSuite X.env y pos) Q E s:=by
 obtain⟨m,hn,hl⟩:=id I.loc;refine wpAny_nameGoes_keeps hk hn (by rw[I.ok.kind];rfl) fun h' v Z hs=>h _ (Inv.local I hs Z (by rw[Mi];exact I.len) fun j z v' e1 e2 e3=>?_)
 have hj:j≠i:=by
  rintro rfl;by_cases hlt:j<σ.length
  ·rw[Ka hlt]at e2;cases e2
  ·rw[KO (by rw[Mi];omega)]at e2;cases e2
 rw[KI (Ne.symm hj)]at e2;obtain⟨u,r,q⟩:=hl j z v' e1 e2 e3;refine⟨u,r,?_⟩;rcases q with⟨k,e⟩|⟨k,c,e,q⟩
 ·refine .inl ⟨k,?_⟩;have:z≠y:=fun e=>hj (nH hN e1 (e ▸ hi));simp[this,e]
 ·exact .inr ⟨k,c,e,q.sameBut hs (I.cne z c e)⟩
end
theorem Un.track{H':Hp}(u:Un fs [] H H' h h')(hn:H' e=none)(he:h.get? e=none):Un fs [] H (upd H' e o) h h' where
 keep:=u.keep
 slot:=u.slot
 free:=fun b ob q n hx=>by rw[aB (gq q he)];exact u.free b ob q n hx
 there:=u.there
 tups:=fun b xs q=>by have:=u.tups b xs q;rw[aB (aH this hn)];exact this
 frzs:=fun b ob x q=>by have:=u.frzs b ob x q;rw[aB (aH this hn)];exact this
 tbls:=fun b ps q=>by
  obtain⟨more,this⟩:=u.tbls b ps q;exact⟨more,by rw[aB (aH this hn)];exact this⟩
theorem fP.track{H:Hp}(ok:fP P w H h)(hn:H e=none)(Z:bo P w (upd H e o) h e o):fP P w (upd H e o) h:=fun b u q=>by
 by_cases hb:b=e
 ·subst hb;rw[aN]at q;cases q;exact Z
 ·rw[aB hb]at q;exact(ok b u q).stay (fun c v _ q=>q) (fun c q=>by rw[aB (aH q hn)];exact q) fun c xs q=>by rw[aB (aH q hn)];exact q
theorem Cs(F:As e T C od fl h):bo P w H h e (.ext (kT C e od)):=by
 obtain⟨oe,vs,oT,ts,he,hc,ho,hd,_⟩:=F;refine⟨⟨oe,vs,he,hc,ho,hd⟩,⟨oe,he⟩,?_⟩;rintro h1 h2 ⟨oe,vs,he,r⟩ k;exact⟨oe,vs,k _ he,r⟩
structure LamOk(P:Program)(w:World)(K:W.Frag)(mg:Str->Option Value)(base:Heap)(k:Nat)(f:Addr)(sp:Hp->VK->XK->Prop):Prop where
 fn:∃ o fd,base.get? f=some o/\o.data= .func fd
 run:∀(A:Around) (outer:List Env) (s:Shared) (H:Hp) (Q:VK) (E:XK),Room k A->aM P w K mg base A outer s H->sp H Q E->codeAny (model P w) A (.call (.ref f) ⟨[],[]⟩) (CR (j9 P w) outer P w H s Q E) s
section
variable {X:Cx}{k i jn jy:Nat}{f CW:Addr}{sp:Hp->VK->XK->Prop}{x c n y:Str}{p cpos epos np p1 p2 p3 hpos tpos:Pos}
theorem qG(a6:X.stack=X.env::X.outer)(d3:X.env.frame=some X.env.locals)(L:LamOk X.prog X.w X.K X.mg X.base k f sp)(hr:Room k X.A)(hN:X.N.Nodup)(hi:X.N[i]? =some x)(hv:xy X.env.scope x)
  (Z:X.N[jn]? =some n) (c3:X.N[jy]? =some y) (Y:X.env.scope.names.lookup n=some .local) (c1:X.env.scope.names.lookup y=some .local) (hg:Gl X c) (hm:X.mg c=some (.ref CW))
  (hd:(x==("__debug__":Str))=false:=by decide) (c7:(x==("__classdict__":Str))=false:=by decide) (d2:(c==("__debug__":Str))=false:=by decide) (d0:(n==("__debug__":Str))=false:=by decide) (c2:(n==("__classdict__":Str))=false:=by decide)
  (c5:swapsWith (.Call (.Name x p) [] [] cpos) none epos.line X.env=pure false:=by rfl) (b1:swapsWith (.Name n p2) (some (.Name y p1)) p3.line X.env=pure false:=by rfl):
  PS X (.Try [.Expr (.Call (.Name x p) [] [] cpos) epos] [.ExceptHandler (some (.Name c np)) (some n) [.Assign [.Name y p1] (.Name n p2) p3] hpos] [] [] tpos)
   (fun D σ H=>σ[i]? =some (some (.ref f))/\sp H (fun _ H1=>D.nx σ H1) (fun cls od H1=>∃ C,cls= .ref C/\W.exmOne X.K (.ref C) (.ref CW)=some true/\∀ e,H1 e=none->D.nx (((σ.set jn (some (.ref e))).set jy (some (.ref e))).set jn none) (upd H1 e (.ext (kT C e od))))):=by
 intro pins s σ H D I ⟨hσ,hsp⟩;refine wpAny_Try_except (Np (wpAny_Expr_any ?_ I.quiet c5));refine LK (Kb (rf (X:=X.nox) hi hv hd c7 pins s σ H (fun v H1=>v= .ref f/\H1=H) (I.wish _) ⟨_,hσ,rfl,rfl⟩) (fun u s1 c4=>?_) fun _ _ z=>False.elim z);obtain⟨v,H1,I1,r1,ev,eH⟩:=c4;subst ev eH;obtain rfl:u=Value.ref f:=r1;have I1:=I1.unwish;obtain⟨o,fd,ho,b6⟩:=L.fn;refine callWith_meth0 b6 (I1.bk f o ho) (Mu (Lu (L.run X.A X.stack s1 H1 _ _ hr I1.env0 hsp) fun r s' hq=>?_));cases r with
 | ok fl=>
  cases fl with
  |ret u=>
   obtain⟨v,H2,I2,_,q⟩:=I1.after hq;exact LN (LN ⟨σ,H2,I2,q⟩)
  |next=>exact False.elim hq
  |brk=>exact False.elim hq
  |cont=>exact False.elim hq
 | error ev=>
  obtain⟨e,T,C',od,H',rfl,os,bare,un,hok,F,ne,nT,le,lT,C,eC,hx,hD⟩:=hq;cases eC;have I2:L2.Inv X pins σ H' s':=I1.call' (ch:=[]) os un hok bare (fun b z=>absurd z (by simp))
  have c6:∀ b∈jj X.stack,H' b=none:=I2.stkFree;refine qE (base:=X.base) (outer:=X.outer) (by rw[I2.ok.frames,a6]) (by rw[<-a6];exact I2.stack) d3 F fun h1 T1 F1 l1 a4=>?_
  rw[<-a6]at a4;have b4:H' T1=none:=hok.fresh l1;refine hU (s:={s' with heap:=h1}) F1 fun h2 F2 gm=>?_;have b3:s1.heap.get? T1=none:=Un.gone un (by simp) (KG l1)
  have c0:fP X.prog X.w H' h1:=fP.fly hok a4 ne nT c6;have O:fP X.prog X.w H' h2:=fP.fly c0 gm ne b4 (fun b z=>absurd z (by simp))
  have e0:Un (jj X.stack) [] H1 H' s1.heap h1:=Un.fly un a4 le lT;have U:∀{h a:Heap} {e T:Addr},Step [] e T h a->Step (jj X.stack) e T h a:=fun st=>⟨fun b o q n1 n2 _=>st.keep b o q n1 n2 (by simp),st.slot,st.size⟩
  have b5:Un (jj X.stack) [] H1 H' s1.heap h2:=Un.fly e0 (U gm) le b3;have I3:L2.Inv X pins σ H' {s' with heap:=h2}:=I1.call' (s':={s' with heap:=h2}) (ch:=[]) os b5 O bare (fun b z=>absurd z (by simp))
  refine wpAny_handleBy_cons (codeAny_handlers_test (jQ (X:=Cx.hand X (.ref e)) (Inv.hand I3 _) hg hm ?_ d2)) (by intro q;cases q)
  have LT:W.Looks (model X.prog X.w) h2 (typeOf (.ref e)) (.ref C'):=by
   obtain⟨oe,vs,oT,ts,he,hc,_⟩:=F2;exact hc ▸ (W.Looks.ld he).andThen .now
  refine(W.exm_one (h:=h2) I3.kIn LT hx).at ?_;refine codeAny_handlers_suite_as (hU (s:={s' with heap:=h2}) F2 fun h3 F3 b0=>?_);have b2:fP X.prog X.w H' h3:=fP.fly O b0 ne b4 (fun b z=>absurd z (by simp))
  have d1:Un (jj X.stack) [] H1 H' s1.heap h3:=Un.fly b5 (U b0) le b3;have I4:L2.Inv X pins σ (upd H' e (.ext (kT C' e od))) {s' with heap:=h3}:=
   I1.call' (s':={s' with heap:=h3}) (ch:=[]) os (Un.track d1 ne le) (fP.track b2 ne (Cs F3)) bare (fun b z=>absurd z (by simp))
  refine jk (X:=X) I4 hN Z (.inl Y) (v:=.ref e) rfl (fun s5 I5=>?_) (.inr Y);have hl:jn<σ.length:=by rw[I.len];exact(JN.mp Z).1
  have ps:=rg (yX (X:=Cx.hand X (.ref e)) (pos:=p3) (pos':=p1) hN c3 (.inl c1) (rf (X:=Cx.hand X (.ref e)) (pos:=p2) Z (.inl Y) d0 c2) b1 (.inr c1));refine Kb (ps pins s5 _ _ {nx:=fun σ6 H6=>σ6=(σ.set jn (some (.ref e))).set jy (some (.ref e))/\H6=upd H' e (.ext (kT C' e od)),rt:=fun _ _=>False} (Inv.hand I5 _) ⟨.ref e,by rw[Ka hl],rfl,rfl⟩) (fun fl s6 hq=>?_) fun _ _ z=>False.elim z
  cases fl with
  |next=>
   obtain⟨σ6,H6,I6,e1,e2⟩:=hq;subst e1 e2;exact Cr (Inv.unhand I.ok I6) hN Z Y fun s7 I7=>⟨_,_,I7,hD e ne⟩
  |ret u=>obtain⟨_,_,_,_,_,z⟩:=hq;exact False.elim z
  |brk=>obtain⟨_,_,_,z⟩:=hq;exact False.elim z
  |cont=>obtain⟨_,_,_,z⟩:=hq;exact False.elim z
end
structure BaseL(K:W.Frag)(mg:Str->Option Value)(base:Heap):Prop where
 bm:∃ bm ob,mg "__builtins__"=some (.ref bm)/\bm≠builtinsNs/\base.get? bm=some ob/\ob.cls= .type "module"/\ob.dict=some builtinsNs/\ob.data= .plain
 cd:∀ x∈cm,∀ c P,W.tabIn K x=some (c,P)->W.CodeHd base c P
def se(K:W.Frag):Prop:=∀ x∈cm,∀ y∈cm,∀ c d P,W.tabIn K x=some (c,P)->W.tabIn K y=some (d,P)->x=y
theorem vM(l:List Value)(h:TriplesOk l)(e:codeAmong pos (l++[rawInt a,rawInt b,c])=some v):codeAmong pos l=some v\/v=c:=by
 fun_induction TriplesOk l with
 |case1=>
  have e':(if a==(pos.line:Int) && b==(pos.col:Int)then some c else none)=some v:=e;split at e'
  ·exact .inr (J8 e').symm
  ·cases e'
 |case2 a' t b' u x rest ih=>
  simp only[List.cons_append,codeAmong]at e ⊢;split at e
  ·next hq=>rw[if_pos hq];exact .inl e
  ·next hq=>rw[if_neg hq];exact ih h e
 |case3 l h1 h2=>exact h.elim
section
variable {X:Cx}{pins:List (Addr×Obj)}{σ:L2.St}{H:Hp}{s:Shared}{x ql:Str}{c P:Addr}{params:Arguments}{body:Expr}{scope:Scope}{pos:Pos}{clos:List (Str×Addr)}{Q:Value->Shared->Prop}{E:Value->Shared->Prop}{A:Around}
theorem Fk(hx:x∈cm)(ht:W.tabIn X.K x=some (c,P))(O:X.env.code= .ref c)(hq:X.env.qual++"<lambda>"=ql)(c0:ql=x++".<locals>.<lambda>")(B:BaseL X.K X.mg X.base)(TI:se X.K)(c7:closureFor scope X.env=pure clos)
  (c4:defaultsOf params X.env=([],[])) (I:L2.Inv X pins σ H s) (T:TabsOk X.K H)
  (h:∀ f c' ctv pm H1 s1,L2.Inv X pins σ H1 s1->s.heap.objs.size<=f->s1.heap.get? f=some (W.kla_obj "<lambda>" ql params body scope clos pm c' ctv)->H1 f=none->H1 c'=some (.ext (pP ql c'))->
   (∀ a o,H a=some o->(∀ ps,o≠ .tbl ps)->H1 a=some o)->(∀ a,H a=none->H1 a≠none->s.heap.objs.size<=a)->TabsOk X.K H1->Q (.ref f) s1):
  wpAny (model X.prog X.w) A (eval (.Lambda params body scope pos) X.env) Q E s:=by
 refine W.kla_eval c4 ?_;rw[hq];obtain⟨ps,hP,hT,hA⟩:=T x hx c P ht;have C:W.CodeHd s.heap c P:=(B.cd x hx c P ht).keeps I.bk;have oP:s.heap.get? P=some (W.tabObj ps):=I.hok P _ hP;have hg:s.heap.Ns mainGlobals X.mg:=I.mod.glob.keeps I.bk;have Z:∀ b,H b=none->b≠P:=fun b n z=>by rw[z,hP]at n;cases n
 have gP:mainGlobals≠P:=by
  obtain⟨o,es,ep,e,_⟩:=I.mod.glob;exact Z _ (I.bs _ _ e).2
 have hb:s.heap.BuiltinsAt X.mg P:=by
  obtain⟨bm,ob,b1,b2,b3,b4,b5,b6⟩:=B.bm;refine⟨bm,ob,b1,b2,fun z=>?_,Z _ (I.bs _ _ b3).2,I.bk _ _ b3,b4,b5,b6⟩;obtain⟨o,es,ep,e,hd,_⟩:=I.mod.glob;rw[z,e]at b3;cases b3;rw[hd]at b6;cases b6
 cases hn:codeAmong pos ps.toList with
 |some cv=>
  obtain⟨c',rfl,c3⟩:=hA pos cv hn;rw[<-c0]at c3;refine W.kla_makeFunctionHit c7 I.ok.glob hg O C oP hT hn hb fun ctv h' tk hk c1=>?_;have Y:∀ b o,s.heap.get? b=some o->(h'.push {cls:=.type "function",data:=.func (W.kla_fn "<lambda>" ql params body scope clos ((X.mg "__name__").getD .none) (.ref c') ctv)}).get? b=some o:=fun b o e=>JH _ (hk b o e);exact h _ c' ctv _ H _ (I.kept (t':=tk) Y) c1 (JP _ rfl) (I.hok.fresh c1) c3 (fun a o e _=>e) (fun a n z=>absurd n z) T
 | none=>
  refine W.kla_makeFunction c7 I.ok.glob hg O C oP hT hn gP hb fun c' ctv h' tk hX a4 b0 c6 d1=>?_;have nc:H c'=none:=I.hok.fresh a4;have cP:P≠c':=fun z=>by rw[<-z,hP]at nc;cases nc
  have Y:∀ b o,b≠P->s.heap.get? b=some o->(h'.push (W.kla_obj "<lambda>" ql params body scope clos ((X.mg "__name__").getD .none) c' ctv)).get? b=some o:=fun b o n e=>JH _ (hX b o n e);have c5:(h'.push (W.kla_obj "<lambda>" ql params body scope clos ((X.mg "__name__").getD .none) c' ctv)).get? P=some (W.tabObj (ps++ #[rawInt pos.line,rawInt pos.col,.ref c'])):=JH _ d1;have old:∀ a o,H a=some o->a≠P->upd (upd H P (.tbl (ps++ #[rawInt pos.line,rawInt pos.col,.ref c']))) c' (.ext (pP ql c')) a=some o:=fun a o e n=>by rw[aB (aH e nc),aB n];exact e
  have d0:∀ b o,s.heap.get? b=some o->b≠c':=fun b o e=>JT (JW (JO e) a4);have un:Un X.fs [] H (upd (upd H P (.tbl (ps++ #[rawInt pos.line,rawInt pos.col,.ref c']))) c' (.ext (pP ql c'))) s.heap (h'.push (W.kla_obj "<lambda>" ql params body scope clos ((X.mg "__name__").getD .none) c' ctv)):=
   ⟨fun b o e n _ _=>Y b o (Z b n) e,fun b o e n _ _=>⟨o.slots,Y b o (Z b n) e⟩,fun b o e n _=>by rw[aB (d0 b o e),aB (Z b n)];exact n,fun b o e _=>(by
    by_cases z:b=P
    ·subst z;exact⟨_,c5⟩
    ·exact⟨o,Y b o z e⟩),fun b xs e=>old b _ e (fun z=>by rw[z,hP]at e;cases e),fun b o u e=>old b _ e (fun z=>by rw[z,hP]at e;cases e),fun b qs e=>(by
    by_cases z:b=P
    ·subst z;rw[hP]at e;cases e;exact⟨_,by rw[aB cP,aN]⟩
    ·exact⟨#[],by rw[old b _ e z];simp⟩)⟩
  have a6:pP ql c' (h'.push (W.kla_obj "<lambda>" ql params body scope clos ((X.mg "__name__").getD .none) c' ctv)):=by
   obtain⟨c2,oc,vs,t,e1,e2,r⟩:=c6;exact⟨c2,oc,vs,t,e1,JH _ e2,r⟩
  have hok:fP X.prog X.w (upd (upd H P (.tbl (ps++ #[rawInt pos.line,rawInt pos.col,.ref c']))) c' (.ext (pP ql c'))) (h'.push (W.kla_obj "<lambda>" ql params body scope clos ((X.mg "__name__").getD .none) c' ctv)):=by
   intro a o e;by_cases za:a=c'
   ·subst za;rw[aN]at e;cases e;refine⟨a6,?_,?_⟩
    ·obtain⟨c2,oc,vs,t,e1,e2,_⟩:=a6;cases e1;exact⟨oc,e2⟩
    ·rintro h1 h2 ⟨c2,oc,vs,t,e1,e2,r⟩ k;cases e1;exact⟨a,oc,vs,t,rfl,k _ e2,r⟩
   ·rw[aB za]at e;by_cases zP:a=P
    ·subst zP;rw[aN]at e;cases e;exact c5
    ·rw[aB zP]at e;refine(I.hok a o e).stay (fun b u U q=>Y b u ?_ q) (fun b q=>old b _ q (fun z=>by rw[z,hP]at q;cases q)) fun b xs q=>old b _ q (fun z=>by rw[z,hP]at q;cases q)
     rintro rfl;rcases U with U|U
     ·exact zP U.symm
     ·rw[hP]at U;cases U
  refine h _ c' ctv _ _ _ (I.un (t':=tk) un hok) (JV a4 (Lk b0)) (JP _ rfl) ?_ aN (fun a o e n=>old a o e (fun z=>by rw[z,hP]at e;cases e;exact n _ rfl)) (fun a n z=>?_) fun y hy d P' e=>?_
  ·have:H h'.objs.size=none:=I.hok.fresh (JV a4 (Lk b0));rw[aB (Ne.symm (JT b0)),aB (Z _ this)];exact this
  ·by_cases za:a=c'
   ·rw[za];exact a4
   ·rw[aB za,aB (Z a n)]at z;exact absurd n z
  ·by_cases zP:P'=P
   ·subst zP;obtain rfl:y=x:=TI y hy x hx d c P' e ht;refine⟨_,by rw[aB cP,aN],?_,fun p cv q=>?_⟩
    ·have:=TriplesOk_snoc pos.line pos.col (.ref c') ps.toList hT;simpa using this
    ·have q':codeAmong p (ps.toList++[rawInt pos.line,rawInt pos.col,.ref c'])=some cv:=by simpa using q
     rcases vM _ hT q' with q2|q2
     ·obtain⟨c2,e1,e2⟩:=hA p cv q2;exact⟨c2,e1,old _ _ e2 (fun z=>by rw[z,hP]at e2;cases e2)⟩
     ·exact⟨c',q2,by rw[<-c0];exact aN⟩
   ·obtain⟨qs,g1,g2,g3⟩:=T y hy d P' e;exact⟨qs,old _ _ g1 zP,g2,fun p cv q=>let ⟨c2,e1,e2⟩:=g3 p cv q;⟨c2,e1,old _ _ e2 (fun z=>by rw[z,hP]at e2;cases e2)⟩⟩
end
def IX(K:W.Frag)(ι:List Addr)(H:Hp)(x:D)(cls:Value)(od:Option Addr):Prop:=
 ∃ n ds C,x= .exc n ds/\W.nsIn K mainGlobals n=some (some (.ref C))/\cls= .ref C/\
  ((od=none/\ds=[])\/∃ dx fs,od=some dx/\H dx=some (.xd fs)/\fs.map (·.1)=([("many":Str),("most":Str)]:List Str)/\RelDs K ι H ds (fs.map (·.2)))
def t8(K:W.Frag)(Ek:XK):XD:=fun x ι _ H=>∀ cls od,IX K ι H x cls od->Ek cls od H
def Au(K:W.Frag)(F:List D->M D):Sp:=fun vs H Q Ek=>∃ ι S ds,Rep K ι H S/\RelDs K ι H ds vs/\cont K (t8 K Ek) (F ds) ι S H (kq K Q)
theorem Av{K:W.Frag}{E E':XD}{α:Type}{c:M α}{ι:List Addr}{S:aA}{H:Hp}{Q:α->List Addr->aA->Hp->Prop}(h:cont K E c ι S H Q)(k:∀ x ι' S' H',E x ι' S' H'->E' x ι' S' H'):cont K E' c ι S H Q:=by
 obtain⟨r,S',e,q⟩:=h;refine⟨r,S',e,fun ι1 H1 x1 rep1=>?_⟩;have:=q ι1 H1 x1 rep1;cases r with
 |ok a=>exact this
 |ex x=>exact k x _ _ _ this
def mW{α:Type}(c:M α):M α:=fun S=>match c S with
 |some (.ok a,S')=>some (.ok a,S')
 |_=>none
theorem qH{K:W.Frag}{E:XD}{α:Type}{c:M α}{ι:List Addr}{S:aA}{H:Hp}{Q:α->List Addr->aA->Hp->Prop}(h:cont K E (mW c) ι S H Q):cont K cb c ι S H Q:=by
 obtain⟨r,S',e,q⟩:=h;unfold mW at e;cases z:c S with
 |none=>rw[z]at e;cases e
 |some p=>
  obtain⟨r1,S1⟩:=p;rw[z]at e;cases r1 with
  |ok a=>cases e;exact⟨_,_,z,q⟩
  |ex x=>cases e
section
variable {X:Cx}{E:XD}
theorem wQ{m:TM}(h:SE X cb e m):SE X E e (fun ρ=>mW (m ρ)):=PE.imp h fun _ _ _ ⟨ι,S,ρ,rep,re,c⟩=>⟨ι,S,ρ,rep,re,qH c⟩
theorem t9{st:List Stmt}{m:cT}(h:tF X cb st m):tF X E st (fun ρ=>mW (m ρ)):=pJ.imp h fun _ _ _ ⟨ι,S,ρ,rep,re,c⟩=>⟨ι,S,ρ,rep,re,qH c⟩
theorem sf{st:List Stmt}{m:cT}(h:tF X.nox cb st m):tF X cb st m:=pJ.nox h
end
structure Leaves(X:Cx)(Ek:XK):Prop where
 st:X.stack=X.env::X.outer
 fm:X.env.frame=some X.env.locals
 ex:X.ex=[]
 xe:∀ e s',wpAny (model X.prog X.w) X.A (leaving X.env e) (fun _ s''=>j9 X.prog X.w X.outer X.H₀ X.s₀ Ek e s'') (fun e' s''=>j9 X.prog X.w X.outer X.H₀ X.s₀ Ek e' s'') s'->X.xe e s'
 ow:PassesOwn (model X.prog X.w) X.A X.env X.xe
section
variable {X:Cx}{Ek:XK}
theorem Leaves.pass(L:Leaves X Ek):nJ (j9 X.prog X.w) X Ek:=by
 rintro pins σ H s x s' I ⟨e,T,C,od,H',rfl,os,bare,un,hok,F,ne,nT,le,lT,hE⟩;have I':L2.Inv X pins σ H' s':=I.call' (ch:=[]) os un hok bare (fun b z=>absurd z (by simp))
 refine L.xe _ _ (vL (base:=X.base) (outer:=X.outer) (by rw[I'.ok.frames,L.st]) (by rw[<-L.st];exact I'.stack) L.fm F fun h' T' F' l st=>?_)
 rw[<-L.st]at st;have Y:fP X.prog X.w H' h':=fP.fly hok st ne nT I'.stkFree;have U:Un (jj X.stack) [] H H' s.heap h':=Un.fly un st le lT;have I2:L2.Inv X pins σ H' {s' with heap:=h'}:=I.call' (s':={s' with heap:=h'}) (ch:=[]) os U Y bare (fun b z=>absurd z (by simp))
 have hb:=I2.base;have h0:=I.base;have Z:=I'.base;rw[L.ex]at hb h0 Z;exact⟨e,T',C,od,H',rfl,I2.os,I2.bare,hb,I2.hok,F',ne,hok.fresh l,Un.gone h0 (by simp) le,Un.gone Z (by simp) (KG l),hE⟩
theorem Leaves.new{H:Hp}(L:Leaves X Ek)
  (I:L2.Inv X pins σ H s') (he:s'.heap.get? e=some oe) (hc:oe.cls= .ref C) (ho:oe.dict=od) (hd:oe.data= .fields vs) (h1:vs[1]? =some .none) (hn:H e=none) (hs:X.s₀.heap.get? e=none) (hE:Ek (.ref C) od H):X.xe (.ref e) s':=by
 refine L.xe _ _ (t6 (base:=X.base) (outer:=X.outer) (by rw[I.ok.frames,L.st]) (by rw[<-L.st];exact I.stack) L.fm he hc ho hd h1 fun h' T' F' l st=>?_)
 have U:∀ b∈jj (X.env::X.outer),H b=none:=by rw[<-L.st];exact I.stkFree
 have Y:fP X.prog X.w H h':=fP.fly I.hok st hn hn U;have hb:=I.base;rw[L.ex]at hb;have gm:∀ b o,X.s₀.heap.get? b=some o->b ∉ jj X.outer->b ∉ jj (X.env::X.outer):=fun b o q n z=>by
  rw[t7 X.outer X.env.locals _ L.fm]at z;rcases J2.mp z with z|z
  ·exact absurd (JO q) (by rw[z];exact NJ.mpr I.ok.above)
  ·exact n z
 have ne:∀ b o,X.s₀.heap.get? b=some o->b≠e:=fun b o q=>gq q hs;refine⟨e,T',C,od,H,rfl,I.os,I.bare,⟨fun b o q n hf hx=>?_,fun b o q n hf hx=>?_,hb.free,fun b o q hx=>?_,hb.tups,hb.frzs,hb.tbls⟩,Y,F',hn,I.hok.fresh l,hs,Un.gone hb (by simp) (KG l),hE⟩
 ·exact st.keep b o (hb.keep b o q n hf hx) (ne b o q) (ne b o q) (gm b o q hf)
 ·obtain⟨sl,q1⟩:=hb.slot b o q n hf hx;obtain⟨Z,q2⟩:=st.slot b _ q1 (ne b o q) (ne b o q);exact⟨Z,q2⟩
 ·obtain⟨o1,q1⟩:=hb.there b o q hx;obtain⟨Z,q2⟩:=st.slot b _ q1 (ne b o q) (ne b o q);exact⟨_,q2⟩
theorem fV{P:Program}{w:World}{K:W.Frag}{mg:Str->Option Value}{base:Heap}{N:List Str}{qual:Str}{scope:Scope}{f:Addr}{cd:Value}{A:Around}{outer:List Env}{s₀:Shared}{H₀:Hp}:
  Leaves (jf (j9 P w) P w K mg base N qual scope f cd A outer s₀ H₀ Ek) Ek:=⟨rfl,rfl,rfl,fun _ _ h=>h,PassesOwn.leaving⟩
end
structure DefX(P:Program)(w:World)(K:W.Frag)(mg:Str->Option Value)(base:Heap)(k:Nat)(x:Str)(ps:List Str)(F:List D->M D):Prop where
 ex:∃ f fd,FnOk P w K mg base (j9 P w) k f fd ps (Au K F)/\mg x=some (.ref f)/\W.keepIn K (.ref f)=true/\Binds K fd ps []
section
variable {P:Program}{w:World}{K:W.Frag}{mg:Str->Option Value}{base:Heap}
theorem Fl{x qual:Str}{st:Stmt}{f:Addr}{fd:FuncData}{N ps:List Str}{k:Nat}{m:cT}(F:Fun K x qual st f fd)(Sc:FnScope N ps (av st))
  (Z:∀(cdv:Value) (A:Around) (outer:List Env) (s:Shared) (H:Hp) (Ek:XK),Room k (A.deeper (envOfC qual (av st) s.heap.objs.size f cdv))->W.codeIn K cdv qual=true->(∃ oc od osl kV doc pm an ct,K.lookup f=some ⟨oc,od,.func (W.fnOf x qual (gX st) (c9 st) (av st) .none kV doc pm an cdv ct),osl⟩)->
   tF (jf (j9 P w) P w K mg base N qual (av st) f cdv A outer s H Ek) (t8 K Ek) (c9 st) m):FnOk P w K mg base (j9 P w) (k+1) f fd ps (Au K (nW N.length ps.length m)):=by
 have key:∀{vs:List V} {H:Hp} {Q:VK} {Ek:XK},Au K (nW N.length ps.length m) vs H Q Ek->vs.length=ps.length/\∃ ι S ds,Rep K ι H S/\RelDs K ι H ds vs/\cont K (t8 K Ek) (do let o<-m (ds.map some++List.replicate (N.length - ps.length) none);outD o) ι S H (kq K Q):=by
  rintro vs H Q Ek ⟨ι,S,ds,rep,r,c⟩;unfold nW at c;by_cases hl:ds.length=ps.length
  ·rw[if_pos hl]at c;exact⟨by rw[<-r.length];exact hl,ι,S,ds,rep,r,c⟩
  ·rw[if_neg hl]at c;exact(ag c).elim
 obtain⟨oc,od,kV,doc,pm,an,cdv,ct,osl,rfl,lk,Y⟩:=F.ex;refine zl lk Y Sc (fun vs H Q Ek h=>(key h).1) fun A outer s H vs Q Ek hr h=>⟨_,Z cdv A outer s H Ek hr Y ⟨oc,od,osl,kV,doc,pm,an,ct,lk⟩,?_⟩;obtain⟨hl,ι,S,ds,rep,r,c⟩:=key h;refine⟨ι,S,_,rep,?_,ak (ai c) fun o ι1 S1 H1 e1 rep1 c1=>?_⟩
 ·have:=RelE.start r (N.length - ps.length);unfold L2.start;rw[hl];exact this
 ·cases o with
  |nx ρ=>exact fun σ' _=>ah c1 .refl rep1 _ .non
  |ret d=>exact ah c1 .refl rep1
  |bk ρ=>exact(ag c1).elim
  |ct ρ=>exact(ag c1).elim
end
section
variable {X:Cx}{Ek:XK}{e:Expr}{es:List Expr}{pos:Pos}{ms:aM->M (List D)}
theorem jB(d:DefX X.prog X.w X.K X.mg X.base k x ps F)(hr:Room k X.A)(hx:nJ (j9 X.prog X.w) X Ek)(ha:SA X (t8 X.K Ek) (e::es) ms)(hg:Gl X x:=by rfl)
  (Z:(x==("__debug__":Str))=false:=by decide) (he:starEach (e::es) X.env=(false,eval e X.env)::starEach es X.env:=by rfl) (Y:(backTo pos (starEach es X.env)).any (·.1)=false:=by rfl):
  SE X (t8 X.K Ek) (.Call (.Name x p) (e::es) [] pos) (az F ms):=by
 obtain⟨f,fd,G,hm,hk,hb⟩:=d.ex;refine PE.imp (rh G hr hg hm hk hb (.nil) (E:=Ek) hx ha Z he Y) fun σ H Q h=>?_;obtain⟨ι,S,ρ,rep,re,c⟩:=h;refine⟨ι,S,ρ,rep,re,ak (ai c) fun ds ι1 S1 H1 e1 rep1 c1 vs r1=>?_⟩;show Au X.K F (vs++[]) H1 Q Ek;rw[Kd];exact⟨ι1,S1,ds,rep1,r1,c1⟩
theorem aO(d:DefX X.prog X.w X.K X.mg X.base k x ps F)(hr:Room k X.A)(ha:SA X cb (e::es) ms)(hg:Gl X x:=by rfl)
  (Z:(x==("__debug__":Str))=false:=by decide) (he:starEach (e::es) X.env=(false,eval e X.env)::starEach es X.env:=by rfl) (Y:(backTo pos (starEach es X.env)).any (·.1)=false:=by rfl):
  SE X cb (.Call (.Name x p) (e::es) [] pos) (az F ms):=by
 obtain⟨f,fd,G,hm,hk,hb⟩:=d.ex;refine PE.imp (rh G hr hg hm hk hb (.nil) (E:=E0) qF ha Z he Y) fun σ H Q h=>?_;obtain⟨ι,S,ρ,rep,re,c⟩:=h;refine⟨ι,S,ρ,rep,re,ak (ai c) fun ds ι1 S1 H1 e1 rep1 c1 vs r1=>?_⟩;show Au X.K F (vs++[]) H1 Q E0;rw[Kd];exact⟨ι1,S1,ds,rep1,r1,Av c1 fun _ _ _ _ z=>z.elim⟩
end
def aW:List Str:=["WebError","NoWeb","NoPlace","NoPlaces","NoMap","NoSharing","NoRoot","NoNumber","NotJoined","NoTie","NoText","NoLine","NoDeed","TooGreat"]
def bh(n y:Str):Bool:=n==y||y=="WebError"
abbrev Gc:List Value:=[.type "ValueError",.type "Exception",.type "BaseException",.type "object"]
def Aw(K:W.Frag)(n:Str):Bool:=match W.nsIn K mainGlobals n with
 | some (some (.ref C))=>Aq K C && (n=="TooGreat"||W.excIn K C Gc "ValueError.__new__") && (W.kitOne K (.ref C) (.type "ValueError")==some true) && (W.kitOne K (.type "NoneType") (.ref C)==some false) &&
  aW.all (fun y=>match W.nsIn K mainGlobals y with
   |some (some (.ref D))=>W.kitOne K (.ref C) (.ref D)==some (bh n y) && W.exmOne K (.ref C) (.ref D)==some (bh n y)
   |_=>false)
 |_=>false
def fF(K:W.Frag):Bool:=aW.all (Aw K) && W.kitOne K (.type "NoneType") (.type "ValueError")==some false
structure ErrAt(K:W.Frag)(n:Str)(C:Addr):Prop where
 ns:W.nsIn K mainGlobals n=some (some (.ref C))
 ck:ExcC K C
 pl:n="TooGreat"\/W.excIn K C Gc "ValueError.__new__"=true
 ve:W.kitOne K (.ref C) (.type "ValueError")=some true
 nn:W.kitOne K (.type "NoneType") (.ref C)=some false
 sub:∀ y∈aW,∃ D,W.nsIn K mainGlobals y=some (some (.ref D))/\W.kitOne K (.ref C) (.ref D)=some (bh n y)/\W.exmOne K (.ref C) (.ref D)=some (bh n y)
theorem ik{K:W.Frag}(h:fF K=true){n:Str}(hn:n∈aW):∃ C,ErrAt K n C:=by
 unfold fF at h;rw[Lf]at h;have h1:=Kg.mp h.1 n hn;unfold Aw at h1;split at h1
 ·next C e=>
  simp only[Bool.and_eq_true,Bool.or_eq_true,beq_iff_eq,List.all_eq_true]at h1;obtain⟨⟨⟨⟨a1,a2⟩,a3⟩,a4⟩,a5⟩:=h1;refine⟨C,e,.of a1,a2,a3,a4,fun y hy=>?_⟩;have:=a5 y hy;split at this
  ·next D eD=>
   simp only[Bool.and_eq_true,beq_iff_eq]at this;exact⟨D,eD,this.1,this.2⟩
  ·cases this
 ·cases h1
theorem Fm{K:W.Frag}(h:fF K=true):W.kitOne K (.type "NoneType") (.type "ValueError")=some false:=by
 unfold fF at h;rw[Lf,NK]at h;exact h.2
theorem Ct{K:W.Frag}(X:K.In h)(q:W.excIn K C Gc "ValueError.__new__"=true):∃ bm N nm qn bs hdct sn sub ab col dd k0 k1 k2 k3 k5 mN,
  h.get? C=some (excClassObj nm qn C N bs bm hdct sn sub ab col dd k0 k1 k2 k3 k5 "ValueError.__new__")/\h.Ns N mN/\mN "__init__"=none/\OwnTail h Gc bm:=by
 unfold W.excIn at q;split at q
 case h_2=>cases q
 case h_1 dd cd sl ho=>
 split at q
 case h_2=>cases q
 case h_1 C' bm k0 k1 k2 k3 n k5 hm hs=>
 simp only[Bool.and_eq_true,beq_iff_eq,Bool.not_eq_true']at q;obtain⟨⟨⟨⟨⟨eC,en⟩,Z⟩,ht⟩,hok⟩,Y⟩:=q;subst eC en;rcases cd with⟨nm,bs,mro,ns,qn,hd,sn,sub,ab,col,del⟩;dsimp only at hm Z hok Y;subst hm Z;obtain rfl:sl= #[k0,k1,k2,k3,some (.builtin "ValueError.__new__"),k5]:=by rcases sl with⟨l⟩;simp only at hs;rw[hs]
 exact⟨bm,ns,nm,qn,bs,hd,sn,sub,ab,col,dd,k0,k1,k2,k3,k5,_,X _ _ ho,.of_isNs (W.isNs_of_in X hok),W.nsMap_none_of_in X hok Y,W.tail_of_in X ht⟩
section
variable {X:Cx}{Ek:XK}{E:XD}
theorem Ax(L:Leaves X Ek)(hc:X.calm=true)(eK:fF X.K=true)(hx:x∈aW)(Y:x≠"TooGreat")(ha:SA X (t8 X.K Ek) (e::es) ms)(hg:Gl X x:=by rfl)
  (O:(x==("__debug__":Str))=false:=by decide) (he:starEach (e::es) X.env=(false,eval e X.env)::starEach es X.env:=by rfl) (a6:(backTo cpos (starEach es X.env)).any (·.1)=false:=by rfl):
  SS X (t8 X.K Ek) (.Raise (some (.Call (.Name x np) (e::es) [] cpos)) none pos) (fun ρ=>do let ds<-ms ρ;if ds.length<=lim then M.raise (.exc x [])else M.fail):=by
 intro pins s σ H T I h;obtain⟨ι,S,ρ,rep,re,c⟩:=h;obtain⟨C,EA⟩:=ik eK hx;have hq:=EA.pl.resolve_left Y;have hm:X.mg x=some (.ref C):=J0 I.mod.kin I.mod.glob EA.ns;obtain⟨bm,N,nm,qn,bs,hdct,sn,sub,ab,col,dd,k0,k1,k2,k3,k5,mN,hC,hN,U,tl⟩:=Ct I.mod.kin hq;refine wpAny_Raise_call_subU (k5:=k5) (k3:=k3) (k2:=k2) (k1:=k1) (k0:=k0) (nm:=nm) (q:=qn) (C:=C) (N:=N) (bm:=bm) (bs:=bs) (hdct:=hdct) (sn:=sn) (sub:=sub) (ab:=ab) (col:=col) (dd:=dd) Lj (by decide) Lj (mN:=mN) (tl.hasType PySem.F.excBase_ValueError.hasBase) (I.ok.hd hc) (by rw[he];show(false||(backTo cpos (starEach es X.env)).any (·.1))=false;rw[a6];rfl) U (jQ I hg hm ⟨rfl,?_⟩ O)
 have Z:=ha cpos pins s σ H _ I ⟨ι,S,ρ,rep,re,ak (ai c) fun ds ι1 S1 H1 e1 rep1 c1 vs r1=>(⟨ι1,S1,ds,rep1,r1,c1⟩:∃ ι1 S1 ds,Rep X.K ι1 H1 S1/\RelDs X.K ι1 H1 ds vs/\cont X.K (t8 X.K Ek) (if ds.length<=lim then M.raise (.exc x [])else M.fail) ι1 S1 H1 _)⟩;rw[he]at Z ⊢;refine MG (Kb Z (fun us s2 a4=>?_) fun _ _ z=>z);obtain⟨vs,H1,I1,rv,ι1,S1,ds,rep1,r1,c1⟩:=a4;by_cases hl:ds.length<=lim
 ·rw[if_pos hl]at c1;refine⟨rfl,?_,I1.bk _ _ hC,hN.keeps I1.bk,tl.keeps I1.bk,fun h' ea hm=>?_⟩
  ·show us.length<=sizeLine;rw[<-rv.length, <-r1.length];exact JV hl f7
  ·obtain⟨t,h1,h2,h3⟩:=hm.there;have I2:L2.Inv X pins σ H1 {s2 with heap:=h'}:=I1.kept (t':=s2.toks) hm.keeps;have hb:=I1.base;rw[L.ex]at hb;obtain⟨r',S',e',q'⟩:=c1;cases e';refine L.new I2 h1 rfl rfl rfl rfl (fP.gone I1.hok hm.new) (Un.gone hb (by simp) hm.new) (q' ι1 H1 .refl rep1 _ _ ⟨x,[],C,rfl,EA.ns,rfl,.inl ⟨rfl,rfl⟩⟩)
 ·rw[if_neg hl]at c1;exact(ag c1).elim
def ua(f:Str->Bool):D->M D
 | .exc n _=>if n∈aW then pure (.bl (f n))else M.fail
 | .non=>pure (.bl false)
 |_=>M.fail
theorem yp(x:kT C a od h)(hd:od=none\/∃ dx fs,od=some dx/\bo P w H h dx (.xd fs)):∃ ox odo,W.InstAt h a ox C odo:=by
 obtain⟨oe,vs,e,hc,ho,hf⟩:=x;have Z:W.notCls oe=true:=by unfold W.notCls;rw[hf]
 rcases hd with rfl|⟨dx,fs,rfl,h2⟩
 ·exact⟨oe,none,e,hc,Z,by rw[ho];trivial⟩
 ·obtain⟨ob,e2⟩:=bo.there h2;exact⟨oe,some ob,e,hc,Z,by rw[ho];exact e2⟩
theorem Cu{Q:Value->Shared->Prop}(I:L2.Inv X pins σ H s)(r:RelD X.K ι H (.exc n ds) v)(ru:RelV v u)
  (eK:fF X.K=true) (hn:n∈aW) (hk:∀ C,ErrAt X.K n C->W.kitOne X.K (.ref C) cv=some b) (h:∀ tk,Q (.bool b) {s with toks:=tk}):wpAny (model X.prog X.w) A (call (.builtin "isinstance") [u,cv]) Q Ex s:=by
 obtain⟨C,EA⟩:=ik eK hn;have fin:∀{a C2:Addr} {od:Option Addr},W.nsIn X.K mainGlobals n=some (some (.ref C2))->v= .ref a->kT C2 a od s.heap->(od=none\/∃ dx fs,od=some dx/\bo X.prog X.w H s.heap dx (.xd fs))->wpAny (model X.prog X.w) A (call (.builtin "isinstance") [u,cv]) Q Ex s:=by
  rintro a C2 od e1 rfl ph hd;rw[EA.ns]at e1;cases e1;obtain rfl:u=Value.ref a:=ru;exact Kz (Ar EA.ck) I.kIn (yp ph hd) (hk C EA) (fun z=>nomatch z) h
 cases r with
 |exc e1 e2=>exact fin e1 rfl (I.hok _ _ e2).1 (.inl rfl)
 |excF e1 e2 e3 e4 e5=>exact fin e1 rfl (I.hok _ _ e2).1 (.inr ⟨_,_,rfl,I.hok _ _ e3⟩)
theorem Ay{Q:Value->Shared->Prop}(I:L2.Inv X pins σ H s)(hk:W.kitOne X.K (.type "NoneType") cv=some false)(h:∀ tk,Q (.bool false) {s with toks:=tk}):
  wpAny (model X.prog X.w) A (call (.builtin "isinstance") [.none,cv]) Q Ex s:=Kz M5 I.kIn True.intro hk (fun z=>nomatch z) h
theorem wR{q:Pos}{f:Str->Bool}(eK:fF X.K=true)(hm:X.mg "isinstance"=none)(he:SE X E e m)(O:PE X ec (tC vc))(a4:∀ u,RelV vc u->u=cv)(hn:W.kitOne X.K (.type "NoneType") cv=some false)
  (hk:∀ n∈aW,∀ C,ErrAt X.K n C->W.kitOne X.K (.ref C) cv=some (f n)) (hg:Gl X "isinstance":=by rfl)
  (hs:starEach [e,ec] X.env=[(false,eval e X.env),(false,eval ec X.env)]:=by rfl) (Z:starEach [ec] X.env=[(false,eval ec X.env)]:=by rfl):
  SE X E (.Call (.Name "isinstance" p) [e,ec] [] pos) (fun ρ=>do let x<-m ρ;ua f x):=by
 have Y:dH X (.builtin "isinstance") (fun xs H Q=>∃ x ι d,xs=[x,vc]/\RelD X.K ι H d x/\((d= .non/\Q (.bl false) H)\/∃ n ds,d= .exc n ds/\n∈aW/\Q (.bl (f n)) H)):=by
  intro pins s σ H xs us Q I r h;obtain⟨x,ι,d,rfl,rd,hq⟩:=h;obtain⟨u,w',rfl,ru,U⟩:=vals2 r;cases a4 _ U;rcases hq with⟨rfl,q⟩|⟨n,ds,rfl,hn',q⟩
  ·cases rd.non_inv;cases (show u=Value.none from ru);exact Ay I hn fun tk=>⟨.bl _,H,I.tok tk,rfl,q⟩
  ·exact Cu I rd ru eK hn' (fun C EA=>hk n hn' C EA) fun tk=>⟨.bl _,H,I.tok tk,rfl,q⟩
 refine PE.imp (jo Y hg hm (by decide+kernel) (eJ he (eJ O jm Z) (by rw[hs,Z])) (by decide) (by decide) (by rw[hs,Z]) (by rw[Z];rfl)) fun σ H Q h=>?_
 obtain⟨ι,S,ρ,rep,re,c⟩:=h;refine⟨ι,S,ρ,rep,re,ak (ai c) fun x ι1 S1 H1 e1 rep1 c1 v r=>?_⟩;refine⟨v,ι1,x,rfl,r,?_⟩;cases x with
 |non=>exact .inl ⟨rfl,ah c1 .refl rep1 _ (.bl _)⟩
 | exc n ds=>
  dsimp only[ua]at c1;by_cases hn':n∈aW
  ·rw[if_pos hn']at c1;exact .inr ⟨n,ds,rfl,hn',ah c1 .refl rep1 _ (.bl _)⟩
  ·rw[if_neg hn']at c1;exact(ag c1).elim
 |_=>exact(ag c1).elim
theorem dY{m:TM}{e:Expr}{y:Str}{p q pos:Pos}(eK:fF X.K=true)(hy:y∈aW)(G:Mod X.K X.mg X.base)(hm:X.mg "isinstance"=none)(he:SE X E e m)(hg:Gl X "isinstance":=by rfl)(Z:Gl X y:=by rfl)(hd:(y==("__debug__":Str))=false:=by decide)
  (hs:starEach [e,.Name y q] X.env=[(false,eval e X.env),(false,eval (.Name y q) X.env)]:=by rfl) (U:starEach [.Name y q] X.env=[(false,eval (.Name y q) X.env)]:=by rfl):
  SE X E (.Call (.Name "isinstance" p) [e,.Name y q] [] pos) (fun ρ=>do let x<-m ρ;ua (fun n=>bh n y) x):=by
 obtain⟨C,EA⟩:=ik eK hy;refine wR (q:=q) (vc:=.ref C) (cv:=.ref C) eK hm he (wc Z (J0 G.kin G.glob EA.ns) rfl hd) (fun u z=>z) EA.nn (fun n hn C2 Y=>?_) hg hs U;obtain⟨D2,e1,e2,_⟩:=Y.sub y hy;rw[EA.ns]at e1;cases e1;exact e2
theorem Cv(eK:fF X.K=true)(hm:X.mg "isinstance"=none)(Z:X.mg "ValueError"=none)(he:SE X E e m)(hg:Gl X "isinstance":=by rfl)(Y:Gl X "ValueError":=by rfl)
  (hs:starEach [e,.Name "ValueError" q] X.env=[(false,eval e X.env),(false,eval (.Name "ValueError" q) X.env)]:=by rfl) (U:starEach [.Name "ValueError" q] X.env=[(false,eval (.Name "ValueError" q) X.env)]:=by rfl):
  SE X E (.Call (.Name "isinstance" p) [e,.Name "ValueError" q] [] pos) (fun ρ=>do let x<-m ρ;ua (fun _=>true) x):=
 wR (q:=q) (vc:=.ty "ValueError") (cv:=.type "ValueError") eK hm he (m7 Y Z (by decide+kernel) rfl) (fun u z=>z) (Fm eK) (fun n hn C2 O=>O.ve) hg hs U
end
abbrev jC(ql:Str)(scope:Scope)(f c':Addr)(cl:List (Str×Addr))(s:Shared):Env:=W.envX ql scope s.heap.objs.size f (.ref c') cl
def ub(P:Program)(w:World)(K:W.Frag)(mg:Str->Option Value)(base:Heap)(N:List Str)(ql:Str)(scope:Scope)(f c':Addr)(cl:List (Str×Addr))(A:Around)(outer:List Env)(s:Shared)(H:Hp)(Ek:XK):Cx where
 prog:=P
 w:=w
 K:=K
 mg:=mg
 base:=base
 A:=A.deeper (jC ql scope f c' cl s)
 N:=N
 s₀:=s
 H₀:=H
 env:=jC ql scope f c' cl s
 outer:=outer
 stack:=jC ql scope f c' cl s::outer
 ex:=[]
 calm:=true
 fn:=fun _=>false
 pn:=[]
 xe:=fun e s'=>wpAny (model P w) (A.deeper (jC ql scope f c' cl s)) (leaving (jC ql scope f c' cl s) e) (fun _ s''=>j9 P w outer H s Ek e s'') (fun e' s''=>j9 P w outer H s Ek e' s'') s'
section
variable {P:Program}{w:World}{K:W.Frag}{mg:Str->Option Value}{base:Heap}{N:List Str}{ql:Str}{scope:Scope}{f c':Addr}{cl:List (Str×Addr)}{params:Arguments}{body:Expr}{pm ctv:Value}
theorem oG:Leaves (ub P w K mg base N ql scope f c' cl A outer s H Ek) Ek:=⟨rfl,rfl,rfl,fun _ _ h=>h,PassesOwn.leaving⟩
structure Caps(base:Heap)(scope:Scope)(cl:List (Str×Addr))(N:List Str)(vs:List V):Prop where
 kind:scope.kind= .function
 nocell:∀ y∈scope.names,y.2≠ .cell
 co:scope.isCoroutine=false
 gen:scope.isGenerator=false
 inj:∀ x y c,cl.lookup x=some c->cl.lookup y=some c->x=y
 has:∀ x,scope.names.lookup x=some .free->∃ c,cl.lookup x=some c
 cell:∀ x c,cl.lookup x=some c->∃ v,base.IsCell c v
 len:vs.length=N.length
 val:∀(i:Nat) (x:Str) (v:V),N[i]? =some x->vs[i]? =some v->scope.names.lookup x=some .free/\∃ c u,cl.lookup x=some c/\RelV v u/\base.IsCell c (some u)
def Fo(K:W.Frag)(c':Addr)(ql:Str)(ds:List D)(vs:List V)(m:TM):Hp->VK->XK->Prop:=fun H Q Ek=>
 ∃ ι S,Rep K ι H S/\H c'=some (.ext (pP ql c'))/\RelDs K ι H ds vs/\cont K (t8 K Ek) (m (ds.map some)) ι S H (kq K Q)
theorem gr{h h':Heap}(x:h.IsCell c v)(k:∀ b o,h.get? b=some o->h'.get? b=some o):h'.IsCell c v:=let ⟨o,e,r⟩:=x;⟨o,k _ _ e,r⟩
theorem uc:∀{ds:List D} {vs:List V},RelDs K ι H ds vs->RelE K ι H (ds.map some) (vs.map some)
 |_,_,.nil=>.nil
 |_,_,.cons r t=>.cons (fun d z=>by cases z;exact⟨_,rfl,r⟩) (uc t)
theorem Fp(ho:base.get? f=some (W.kla_obj "<lambda>" ql params body scope cl pm c' ctv))(cp:Caps base scope cl N vs)
  (Y:bindArgs (W.kla_fn "<lambda>" ql params body scope cl pm (.ref c') ctv) ⟨[],[]⟩=pure [])
  (Z:∀(A:Around) (outer:List Env) (s:Shared) (H:Hp) (Ek:XK),Room k (A.deeper (jC ql scope f c' cl s))->SE (ub P w K mg base N ql scope f c' cl A outer s H Ek) (t8 K Ek) body m):
  LamOk P w K mg base (k+1) f (Fo K c' ql ds vs m):=by
 refine⟨⟨_,_,ho,rfl⟩,fun A outer s H Q Ek hr e0 b2=>?_⟩;obtain⟨ι,S,rep,b1,rd,c⟩:=b2;have bk:∀ b o,base.get? b=some o->s.heap.get? b=some o:=fun b o e=>(e0.bs b o e).1;have a6:s.heap.CodeRec (.ref c') ql:=(e0.hok _ _ b1).1;refine W.kla_callFunE hr.depth (bk _ _ ho) rfl cp.co cp.gen rfl a6 ?_;rw[Y];refine JJ (wpAny_newFunctionEnv cp.nocell (fun y hy=>absurd hy (by simp)) (fun h1 b3 b0=>?_) cp.kind)
 have hk:∀ b o,s.heap.get? b=some o->h1.get? b=some o:=fun b o e=>(b0.2 b (JT (JO e))).trans (JH _ e);refine⟨(e0.mod.nolimit.keeps bk).keeps hk,?_⟩;show codeAny _ _ (.expr body (jC ql scope f c' cl s)) _ _;refine W.kla_codeExpr ?_;have U:∀ b:Addr,b ∉ ([]:List Addr):=fun b z=>by cases z
 have b4:∀ x,scope.names.lookup x≠some .cell:=fun x e=>cp.nocell _ (bt e) rfl;have I:L2.Inv (ub P w K mg base N ql scope f c' cl A outer s H Ek) [] (vs.map some) H {s with heap:=h1,toks:=s.toks+0}:=
  ⟨⟨e0.mod,cp.kind,rfl,rfl,JK _,cp.inj,(fun x hx=>by
    rcases hx with hx|hx
    ·exact absurd hx (b4 x)
    ·exact cp.has x hx),(fun _ _ z=>Bool.noConfusion z),fun _=>hr.hd,Around.frames_deeper e0.frames,.inr ⟨rfl,rfl⟩,fun b z=>absurd z (U b),e0.bs,e0.bsz,fun b _ _=>U b,fun b z=>absurd z (U b),e0.funs,e0.frf⟩,
   rfl,e0.bare,Un.kept hk,⟨_,b3,fun i x v O h2 h3=>(by
    have a4:vs[i]? =some v:=by
     rw[J6]at h2;cases q:vs[i]? with
     |none=>rw[q]at h2;cases h2
     |some a=>rw[q]at h2;cases h2;rfl
    obtain⟨hf,cc,u,e1,e2,e3⟩:=cp.val i x v O a4;exact⟨u,e2,.inr ⟨.inr hf,cc,e1,gr (gr e3 bk) hk⟩⟩)⟩,
   (fun x cc e=>let ⟨v,z⟩:=cp.cell x cc e;⟨v,gr (gr z bk) hk⟩),e0.hok.fresh (JK _),(fun x cc e=>let ⟨v,o,z,_⟩:=cp.cell x cc e;(e0.bs _ _ z).2),
   (fun p hp=>absurd hp (by simp[ub])),e0.hok.kept hk,by rw[JI];exact cp.len⟩
 refine Kb (Z A outer s H Ek (hr.deeper _) [] _ (vs.map some) H Q I ⟨ι,S,ds.map some,rep,uc rd,c⟩) (fun u s' hq=>?_) fun e s' hq=>hq;obtain⟨v,H',J,r,q⟩:=hq;exact⟨v,H',J.os,J.bare,J.base,J.hok,r,q⟩
end
theorem RelE.unset{K:W.Frag}{ι:List Addr}{H:Hp}:∀{ρ:S3.aM} {σ:L2.St} (i:Nat),RelE K ι H ρ σ->RelE K ι H (ρ.set i none) (σ.set i none)
 |_,_,_,.nil=>.nil
 |_,_,0,.cons _ t=>.cons (fun d' z=>by cases z) t
 |_,_,i+1,.cons q t=>.cons q (RelE.unset i t)
def Az(jn jy:Nat)(c:M D)(ρ:S3.aM):M Out:=fun S=>match c S with
 |some (.ok _,S')=>some (.ok (.nx ρ),S')
 |some (.ex (.exc n ds),S')=>if n∈aW then some (.ok (.nx (((ρ.set jn (some (.exc n ds))).set jy (some (.exc n ds))).set jn none)),S')else none
 |_=>none
open Classical in
def ud(i jn jy:Nat)(f:D)(c:M D):cT:=fun ρ=>if ρ[i]? =some (some f)then Az jn jy c ρ else M.fail
section
variable {X:Cx}{E:XD}{k i jn jy:Nat}{a c':Addr}{ql:Str}{ds:List D}{vs:List V}{m:TM}{x n y:Str}{p cpos epos np p1 p2 p3 hpos tpos:Pos}
theorem Fq(b6:X.stack=X.env::X.outer)(b4:X.env.frame=some X.env.locals)(L:LamOk X.prog X.w X.K X.mg X.base k a (Fo X.K c' ql ds vs m))(hr:Room k X.A)(hN:X.N.Nodup)(eK:fF X.K=true)(G:Mod X.K X.mg X.base)(hi:X.N[i]? =some x)(hv:xy X.env.scope x)
  (b2:X.N[jn]? =some n) (a6:X.N[jy]? =some y) (b3:X.env.scope.names.lookup n=some .local) (c0:X.env.scope.names.lookup y=some .local) (hg:Gl X "WebError")
  (hd:(x==("__debug__":Str))=false:=by decide) (a4:(x==("__classdict__":Str))=false:=by decide) (b0:(n==("__debug__":Str))=false:=by decide) (O:(n==("__classdict__":Str))=false:=by decide)
  (b5:swapsWith (.Call (.Name x p) [] [] cpos) none epos.line X.env=pure false:=by rfl) (U:swapsWith (.Name n p2) (some (.Name y p1)) p3.line X.env=pure false:=by rfl):
  SS X E (.Try [.Expr (.Call (.Name x p) [] [] cpos) epos] [.ExceptHandler (some (.Name "WebError" np)) (some n) [.Assign [.Name y p1] (.Name n p2) p3] hpos] [] [] tpos) (ud i jn jy (.fn a c' ql ds vs) (m (ds.map some))):=by
 obtain⟨CW,EW⟩:=ik eK (show("WebError":Str)∈aW from .head _);refine PS.imp (qG b6 b4 L hr hN hi hv b2 a6 b3 c0 hg (J0 G.kin G.glob EW.ns) hd a4 (by decide) b0 O b5 U) fun T σ H h=>?_
 obtain⟨ι,S,ρ,rep,re,r,S',e,q⟩:=h;have e:ud i jn jy (.fn a c' ql ds vs) (m (ds.map some)) ρ S=some (r,S'):=e;unfold ud at e;by_cases hρ:ρ[i]? =some (some (.fn a c' ql ds vs))
 case neg=>rw[if_neg hρ]at e;cases e
 rw[if_pos hρ]at e;unfold Az at e;obtain⟨v,e1,rv⟩:=re.get hρ;cases rv with
 | fn hc' rds=>
  refine⟨e1,ι,S,rep,hc',rds,?_⟩;cases z:m (ds.map some) S with
  |none=>rw[z]at e;cases e
  | some pr=>
   obtain⟨r1,S1⟩:=pr;rw[z]at e;cases r1 with
   |ok d=>
    cases e;exact⟨_,_,z,fun ι1 H1 x1 rep1 v' _=>q ι1 H1 x1 rep1 σ (re.later rep x1)⟩
   | ex xd=>
    cases xd with
    | exc nm es=>
     dsimp only at e;split at e
     case isFalse=>cases e
     case isTrue hnm=>
     cases e;refine⟨_,_,z,fun ι1 H1 x1 rep1 cls od rx=>?_⟩;obtain⟨n2,c1,C,e2,Y,rfl,b1⟩:=rx;cases e2;obtain⟨C2,EA⟩:=ik eK hnm;have:=EA.ns;rw[Y]at this;cases this;obtain⟨D2,f1,f2,f3⟩:=EA.sub "WebError" (.head _);rw[EW.ns]at f1;cases f1;refine⟨C,rfl,by rw[f3];simp[bh],fun ea Z=>?_⟩
     have xe:Ext ι1 H1 ι1 (upd H1 ea (.ext (kT C ea od))):=dQ Z;have rn:RelD X.K ι1 (upd H1 ea (.ext (kT C ea od))) (.exc nm es) (.ref ea):=by
      rcases b1 with⟨rfl,rfl⟩|⟨dx,fs,rfl,g1,g2,g3⟩
      ·exact .exc Y aN
      ·exact .excF Y aN (by rw[aB (aH g1 Z)];exact g1) g2 (g3.later rep1 xe)
     exact q ι1 _ (x1.trans xe) (eY rep1 Z) _ (RelE.unset jn ((((re.later rep x1).later rep1 xe).set rn jn).set rn jy))
    |_=>cases e
end
def vN:List Nat->S3.aM->Option (List D)
 |[],_=>some []
 |j::r,ρ=>match ρ[j]? with
  |some (some d)=>(vN r ρ).map (d::·)
  |_=>none
theorem wU{K:W.Frag}{ι:List Addr}{H:Hp}{ρ:S3.aM}{σ:L2.St}(re:RelE K ι H ρ σ):∀{js:List Nat} {ds:List D},vN js ρ=some ds->∃ vs,RelDs K ι H ds vs/\vs.length=js.length/\∀(i j:Nat) (v:V),js[i]? =some j->vs[i]? =some v->σ[j]? =some (some v)
 |[],ds,e=>by
  cases e;exact⟨[],.nil,rfl,fun i j v h=>by simp at h⟩
 | j ::r,ds,e=>by
  unfold vN at e;cases q:ρ[j]? with
  |none=>rw[q]at e;cases e
  | some o=>
   cases o with
   |none=>rw[q]at e;cases e
   | some d=>
    rw[q]at e;cases q2:vN r ρ with
    |none=>rw[q2]at e;cases e
    |some es=>
     rw[q2]at e;cases e;obtain⟨v,h1,h2⟩:=re.get q;obtain⟨vs,g1,g2,g3⟩:=wU re q2;refine⟨v::vs,.cons h2 g1,by simp[g2],fun i j' v' e1 e2=>?_⟩
     cases i with
     |zero=>simp at e1 e2;subst e1 e2;exact h1
     |succ i=>exact g3 i j' v' (by simpa using e1) (by simpa using e2)
structure LamScope(X:Cx)(scope:Scope)(N3:List Str)(js:List Nat):Prop where
 kind:scope.kind= .function
 nocell:∀ y∈scope.names,y.2≠ .cell
 co:scope.isCoroutine=false
 gen:scope.isGenerator=false
 free:∀ y∈scope.names,y.2= .free->X.env.kindOf y.1=some .cell\/X.env.kindOf y.1=some .free
 len:js.length=N3.length
 ix:∀(i:Nat) (x:Str) (j:Nat),N3[i]? =some x->js[i]? =some j->X.N[j]? =some x/\scope.names.lookup x=some .free
def Hg(fs:Scope)(N:List Str)(scope:Scope)(N3:List Str)(js:List Nat):Bool:=
 (scope.kind== .function) && scope.names.all (fun y=>y.2 != .cell) && !scope.isCoroutine && !scope.isGenerator &&
  scope.names.all (fun y=>y.2 != .free||(fs.names.lookup y.1==some .cell||fs.names.lookup y.1==some .free)) && (js.length==N3.length) &&
  (N3.zip js).all (fun p=>N[p.2]? ==some p.1 && scope.names.lookup p.1==some .free)
theorem Hh{X:Cx}(fs:Scope)(N:List Str)(he:∀ x,X.env.kindOf x=fs.names.lookup x)(hN:X.N=N)(h:Hg fs N scope N3 js=true):LamScope X scope N3 js:=by
 unfold Hg at h;simp only[Bool.and_eq_true,List.all_eq_true,beq_iff_eq,bne_iff_ne,Bool.or_eq_true,Bool.not_eq_true']at h;obtain⟨⟨⟨⟨⟨⟨h1,h2⟩,h3⟩,h4⟩,h5⟩,h6⟩,h7⟩:=h;refine⟨h1,h2,h3,h4,fun y hy e=>?_,h6,fun i x j e1 e2=>?_⟩
 ·rw[he];exact(h5 y hy).resolve_left fun z=>z e
 ·have hz:(N3.zip js)[i]? =some (x,j):=L7.mpr ⟨e1,e2⟩;have:=h7 _ (Ke hz);rw[hN];exact this
def wV(K:W.Frag)(R:D->M D->List D->M D)(a c':Addr)(ql:Str)(ds:List D)(vs:List V)(m:TM):Sp:=fun us H Q _=>
 ∃ ι S rest es,us= .ref a::rest/\Rep K ι H S/\H c'=some (.ext (pP ql c'))/\RelDs K ι H ds vs/\RelDs K ι H es rest/\cont K cb (R (.fn a c' ql ds vs) (m (ds.map some)) es) ι S H (kq K Q)
structure RefX(P:Program)(w:World)(K:W.Frag)(mg:Str->Option Value)(k k0:Nat)(x:Str)(ps:List Str)(R:D->M D->List D->M D):Prop where
 ex:∃ fr fd,mg x=some (.ref fr)/\W.keepIn K (.ref fr)=true/\Binds K fd ps []/\∀ base,Mod K mg base->∀ a c' ql ds vs m,LamOk P w K mg base k0 a (Fo K c' ql ds vs m)->FnOk P w K mg base (j9 P w) k fr fd ps (wV K R a c' ql ds vs m)
abbrev ue(js:List Nat)(ms:aM->M (List D))(m:TM)(R:M D->List D->M D):TM:=fun ρ=>match vN js ρ with
 |some ds=>(do let es<-ms ρ;R (m (ds.map some)) es)
 |none=>M.fail
theorem kg{h Z:Heap}:∀{l:List Env},h.FunFrames base l->(∀ b∈jj l,Z.get? b=none)->h.FunFrames Z l
 |[],_,_=>trivial
 |env::rest,⟨hk,⟨L,o,hf,_,ho,hd⟩,hr⟩,hn=>by
  rw[t7 rest L env hf]at hn;exact⟨hk,⟨L,o,hf,hn L (.head _),ho,hd⟩,kg hr fun b hb=>hn b (.tail _ hb)⟩
abbrev jD(X:Cx)(H:Hp)(h:Heap):Heap:=W.hideAll (j6 h H) (jj X.stack)
theorem kF{X:Cx}{H:Hp}{h:Heap}(e:h.get? b=some o)(n:H b=none)(hf:b ∉ jj X.stack):(jD X H h).get? b=some o:=W.hideAll_get _ (kK e n) hf
section
variable {X:Cx}{pins:List (Addr×Obj)}{σ:L2.St}{H:Hp}{s:Shared}
theorem lh(I:L2.Inv X pins σ H s):∀ b o,X.base.get? b=some o->(jD X H s.heap).get? b=some o:=fun b o e=>by
 obtain⟨h1,h2⟩:=I.bs b o e;refine kF h1 h2 fun z=>?_;have:=(I.stack.mem z).1;rw[e]at this;cases this
theorem il(I:L2.Inv X pins σ H s):Mod X.K X.mg (jD X H s.heap):=
 ⟨I.mod.kin.keeps (lh I),I.mod.glob.keeps (lh I),let ⟨mb,h1,h2⟩:=I.mod.blt;⟨mb,h1.keeps (lh I),h2⟩,I.mod.nolimit.keeps (lh I)⟩
theorem Cw(I:L2.Inv X pins σ H s):L2.aM X.prog X.w X.K X.mg (jD X H s.heap) X.A X.stack s H:=
 ⟨I.ok.frames,il I,fun b o e=>qZ (W.of_hideAll _ e),by rw[W.hideAll_size,lG];exact JK _,kg I.stack fun b hb=>W.hideAll_none _ hb,I.stkFree,I.hok,I.bare⟩
theorem wW(I:L2.Inv X pins σ H s)(Z:∀ x,X.fn x=true)(e:X.env.cells.lookup x=some c)(h:s.heap.IsCell c v):(jD X H s.heap).IsCell c v:=by
 obtain⟨o,h1,h2⟩:=h;refine⟨o,kF h1 (I.freeC x c e) fun z=>?_,h2⟩;rcases J2.mp (I.stkSub c z)with z|z
 ·exact I.cne x c e z
 ·obtain⟨_,ob,q,_⟩:=I.ok.funs.mem z;exact absurd (JO q) (NJ.mpr (I.ok.cab x c (Z x) e))
end
section
variable {X:Cx}{x xl ql:Str}{k k0:Nat}{ps N3:List Str}{js:List Nat}{R:D->M D->List D->M D}{R':M D->List D->M D}{params:Arguments}{body:Expr}{scope:Scope}{lpos p pos:Pos}{es:List Expr}{ms:aM->M (List D)}{m:TM}{c P:Addr}
theorem AA(d:RefX X.prog X.w X.K X.mg k (k0+1) x ps R)(hR:∀ f c es,R f c es=R' c es)(hr:Room k X.A)(c0:∀ x,X.fn x=true)(d0:xl∈cm)(ht:W.tabIn X.K xl=some (c,P))(b0:X.env.code= .ref c)(hq:X.env.qual++"<lambda>"=ql)(d1:ql=xl++".<locals>.<lambda>")
  (B:BaseL X.K X.mg X.base) (TI:se X.K) (b5:defaultsOf params X.env=([],[])) (ls:LamScope X scope N3 js) (ha:SA X cb es ms)
  (b2:∀(c':Addr) (cl:List (Str×Addr)) (pm ctv:Value),bindArgs (W.kla_fn "<lambda>" ql params body scope cl pm (.ref c') ctv) ⟨[],[]⟩=pure [])
  (b3:∀(base:Heap),Mod X.K X.mg base->∀(f c':Addr) (cl:List (Str×Addr)) (A:Around) (outer:List Env) (s:Shared) (H:Hp) (Ek:XK),Room k0 (A.deeper (jC ql scope f c' cl s))->SE (ub X.prog X.w X.K X.mg base N3 ql scope f c' cl A outer s H Ek) (t8 X.K Ek) body m)
  (hg:Gl X x:=by rfl) (e0:(x==("__debug__":Str))=false:=by decide)
  (he:starEach (.Lambda params body scope lpos::es) X.env=(false,eval (.Lambda params body scope lpos) X.env)::starEach es X.env:=by rfl) (e5:(backTo pos (starEach es X.env)).any (·.1)=false:=by rfl):
  SE X cb (.Call (.Name x p) (.Lambda params body scope lpos::es) [] pos) (ue js ms m R'):=by
 intro pins s σ H Q I h;obtain⟨ι,S,ρ,rep,re,cc⟩:=h;obtain⟨fr,fd,hm,hk,hb,F⟩:=d.ex;have cc:cont X.K cb (ue js ms m R' ρ) ι S H (kq X.K Q):=cc;unfold ue at cc;cases hcap:vN js ρ with
 |none=>rw[hcap]at cc;exact(ag cc).elim
 |some ds=>
 rw[hcap]at cc;dsimp only at cc;obtain⟨vs,d2,c3,c6⟩:=wU re hcap;have a6:∀ y∈scope.names,y.2= .free->∃ a,X.env.cells.lookup y.1=some a:=fun y hy e=>I.ok.has y.1 (ls.free y hy e);refine LK (jQ I hg hm ?_ e0);refine W.callWith_K (h₀:=X.base) I.ok.mod.kin hk (spliced_more (Fk d0 ht b0 hq d1 B TI (iT scope X.env a6) b5 I rep.tab fun f c' ctv pm H1 s1 I1 c5 e3 c7 b4 a4 f5 hT=>?_) he) he e5;have x1:Ext ι H ι H1:=⟨⟨[],by simp⟩,fun a o e n t=>⟨a4 a o e t,n⟩⟩
 have rep1:Rep X.K ι H1 S:=⟨rep.nd,rep.len,fun kk a xs e1 e2=>let ⟨ws,g1,g2⟩:=rep.get kk a xs e1 e2;⟨ws,a4 _ _ g1 (by intro _ z;cases z),g2.later rep x1⟩,hT⟩
 have e4:L2.Inv X ((f,W.kla_obj "<lambda>" ql params body scope (jq X.env.cells scope.names []) pm c' ctv)::pins) σ H1 s1:=I1.pins_of fun q Z=>by
  rcases J2.mp Z with rfl|Z
  ·exact⟨e3,c7,Ne.symm (JT (JW I.lt c5)),I.nofs c5,fun v z=>by cases z⟩
  ·exact I1.pin q (J1 _ Z)
 refine dy (ha pos _ s1 σ H1 (fun O H2=>∃ ι2 S2 U,Ext ι H1 ι2 H2/\Rep X.K ι2 H2 S2/\RelDs X.K ι2 H2 U O/\cont X.K cb (R' (m (ds.map some)) U) ι2 S2 H2 (kq X.K Q)) e4 ⟨ι,S,ρ,rep1,re.later rep x1,ak (ai (fJ cc x1)) fun U ι2 S2 H2 e2 rep2 c2 O r2=>⟨ι2,S2,U,e2,rep2,r2,c2⟩⟩) fun us s2 e8=>?_;obtain⟨O,H2,b1,rv,ι2,S2,U,x2,rep2,r2,c2⟩:=e8;have I2:L2.Inv X pins σ H2 s2:=b1.pins_of fun q Z=>b1.pin q (J1 _ (.tail _ Z));refine⟨I2.kIn,?_⟩;show wpAny _ _ (call (.ref fr) (.ref f::us)) _ _ _;obtain⟨po,pn,pl,pf,_⟩:=b1.pin (f,_) (J1 _ (.head _));have d3:H2 c'=some (.ext (pP ql c')):=(x2.oth c' _ b4 (rep1.notIn b4 (by intro _ z;cases z)) (by intro _ z;cases z)).1
 have nf:f ∉ jj X.stack:=fun z=>by
  rcases J2.mp (I2.stkSub f z)with z|z
  ·exact pl z
  ·exact pf z
 have f3:=rA (cells:=X.env.cells) scope.names [] a6 (fun _ z=>nomatch z);have Y:∀ y a,(jq X.env.cells scope.names []).lookup y=some a->X.env.cells.lookup y=some a:=fun y a e=>f3 _ (lookup_mem e);have cp:Caps (jD X H2 s2.heap) scope (jq X.env.cells scope.names []) N3 vs:=by
  refine⟨ls.kind,ls.nocell,ls.co,ls.gen,fun y z a e1 e2=>I.ok.inj y z a (Y y a e1) (Y z a e2),fun y e=>mem_lookup (jr scope.names [] (.inl (bt e))),fun y a e=>?_,by rw[c3];exact ls.len,fun i y v e1 e2=>?_⟩
  ·obtain⟨v,z⟩:=I2.cell y a (Y y a e);exact⟨v,wW I2 c0 (Y y a e) z⟩
  ·have e7:i<js.length:=by rw[<-c3];exact(JN.mp e2).1
   obtain⟨j,hj⟩:∃ j,js[i]? =some j:=⟨_,JL e7⟩;obtain⟨g1,g2⟩:=ls.ix i y j e1 hj;have hv:=c6 i j v hj e2;have c4:=ls.free (y,.free) (bt g2) rfl;have c1:xy X.env.scope y:=by
    rcases c4 with z|z
    ·exact .inr (.inl z)
    ·exact .inr (.inr z)
   obtain⟨mm,f6,hl⟩:=I2.loc;obtain⟨u,ru,lk⟩:=hl j y v g1 hv c1;refine⟨g2,?_⟩;rcases lk with⟨z,_⟩|⟨_,a,ea,hca⟩
   ·have z':X.env.kindOf y=some .local:=z;rcases c4 with w'|w'
    ·have w2:X.env.kindOf y=some .cell:=w';rw[z']at w2;cases w2
    ·have w2:X.env.kindOf y=some .free:=w';rw[z']at w2;cases w2
   ·obtain⟨a2,b6⟩:=mem_lookup (jr (cells:=X.env.cells) scope.names [] (.inl (bt g2)));have:=Y y a2 b6;rw[ea]at this;cases this;exact⟨a,u,b6,ru,wW I2 c0 ea hca⟩
 have LO:LamOk X.prog X.w X.K X.mg (jD X H2 s2.heap) (k0+1) f (Fo X.K c' ql ds vs m):=Fp (kF po pn nf) cp (b2 c' _ pm ctv) fun A outer s H Ek e6=>b3 _ (il I2) f c' _ A outer s H Ek e6;have G:=F (jD X H2 s2.heap) (il I2) f c' ql ds vs m LO;have sp:wV X.K R f c' ql ds vs m (.ref f::O) H2 Q E0:=⟨ι2,S2,O,U,rfl,rep2,d3,(d2.later rep x1).later rep1 x2,r2,by rw[hR];exact c2⟩
 have hlen:(Value.ref f::us).length=ps.length:=by
  have:=G.len _ _ _ _ sp;rw[<-this,JY,JY,rv.length]
 refine Mu (Lu (G.run X.A X.stack s2 H2 ⟨.ref f::us,[]⟩ (.ref f::us) (.ref f::O) Q E0 hr (Cw I2) (by have:=hb s2 (.ref f::us) I2.kIn (by rw[Kd];exact hlen);rw[Kd]at this;exact this) (.cons rfl rv) sp) fun r s' Z=>?_)
 cases r with
 |error e=>obtain⟨_,_,_,_,_,_,_,_,_,_,_,_,_,_,_,z⟩:=Z;exact False.elim z
 |ok fl=>
  cases fl with
  |ret u=>exact I2.after Z
  |next=>exact False.elim Z
  |brk=>exact False.elim Z
  |cont=>exact False.elim Z
end
def jE(K:W.Frag):List Addr:=cm.filterMap fun y=>(W.tabIn K y).map (·.2)
theorem yq{K:W.Frag}{y:Str}{c P:Addr}(hy:y∈cm)(e:W.tabIn K y=some (c,P)):P∈jE K:=K9.mpr ⟨y,hy,by rw[e];rfl⟩
theorem uf{K:W.Frag}{P:Addr}(h:P∈jE K):∃ y c,y∈cm/\W.tabIn K y=some (c,P):=by
 obtain⟨y,hy,e⟩:=K9.mp h;cases q:W.tabIn K y with
 |none=>rw[q]at e;cases e
 |some p=>rw[q]at e;cases e;exact⟨y,p.1,hy,q⟩
theorem Cy{K:W.Frag}{mb:Str->Option Value}{sp:Sp}{s₁:Shared}{vs:List Value}
  (KX:K.In s₁.heap) (nt:W.noTabs K=true) (c3:s₁.heap.Ns mainGlobals mg) (hb:s₁.heap.Ns builtinsNs mb) (c7:∀ x:Str,x≠"__name__"->mb x=bootBuiltins x) (c1:s₁.heap.NoLimit) (hg:s₁.gens= #[])
  (c2:∃ bm ob,mg "__builtins__"=some (.ref bm)/\bm≠builtinsNs/\s₁.heap.get? bm=some ob/\ob.cls= .type "module"/\ob.dict=some builtinsNs/\ob.data= .plain)
  (U:∀ y∈cm,∀ c Q,W.tabIn K y=some (c,Q)->W.CodeHd s₁.heap c Q/\s₁.heap.get? Q=some (W.tabObj #[]))
  (ha:s₁.heap.get? a=some {cls:=.type "list",data:=.seq vs.toArray}) (hi:IntsAre vs ns) (hl:ns.length<=sizeLine) (hr:Room k callerA)
  (F:∀ base:Heap,Mod K mg base->BaseL K mg base->FnOk P w K mg base (j9 P w) k fa fd [x] sp) (b0:∀(s:Shared) (u:Value),BindsTo s fd ⟨[u],[]⟩ [(x,u)])
  (c4:∀ H:Hp,TabsOk K H->BB K H a (ns.map V.int)->sp [.ref a] H (fun v _=>v= .bl true) fun _ _ _=>False):
  codeAny (model P w) callerA (.call (.ref fa) ⟨[.ref a],[]⟩) (fun r s'=>r= .ok (.ret (.bool true))/\OldK s₁.heap s'.heap/\s'.os=s₁.os/\AllBare s'.gens) s₁:=by
 have rv:=jS hi;have Y:∀ Q∈jE K,s₁.heap.get? Q=some (W.tabObj #[]):=fun Q hQ=>let ⟨y,c,hy,e⟩:=uf hQ;(U y hy c Q e).2;have aT:a ∉ jE K:=fun z=>by
  have:=Y a z;rw[ha]at this;cases this
 let H:Hp:=fun b=>if b∈jE K then some (.tbl #[])else if b=a/\K.lookup a=none then some (.frz {cls:=.type "list",data:=.seq vs.toArray} (.lst (ns.map V.int)))else none;have hT:∀ b∈jE K,H b=some (.tbl #[]):=fun b z=>if_pos z;have hA:∀ b,b ∉ jE K->H b=if b=a/\K.lookup a=none then some (.frz {cls:=.type "list",data:=.seq vs.toArray} (.lst (ns.map V.int)))else none:=fun b z=>if_neg z;have free:∀{b:Addr} {o:Obj},s₁.heap.get? b=some o->o≠W.tabObj #[]->(o.cls≠ .type "list"\/K.lookup b=some o)->H b=none:=fun{b o} e n1 n2=>by
  have z:b ∉ jE K:=fun z=>by
   have:=Y b z;rw[e]at this;exact n1 (J8 this)
  rw[hA b z,if_neg];rintro⟨rfl,kn⟩;rcases n2 with n2|n2
  ·rw[ha]at e;cases e;exact n2 rfl
  ·rw[kn]at n2;cases n2
 have a6:∀{b:Addr} {o:Obj},K.lookup b=some o->o≠W.tabObj #[]:=fun{b o} e z=>by
  have h2:=Kg.mp nt (b,o) (W.mem_of_lookupK e);subst z;exact absurd (show false=true from h2) La
 have hok:fP P w H s₁.heap:=fun b u e=>by
  by_cases z:b∈jE K
  ·rw[hT b z]at e;cases e;exact Y b z
  ·rw[hA b z]at e;by_cases q:b=a/\K.lookup a=none
   ·rw[if_pos q]at e;cases e;obtain⟨rfl,_⟩:=q;exact⟨ha,by rw[JI];exact hl,vs,_,rv,ha⟩
   ·rw[if_neg q]at e;cases e
 have Z:∀{b:Addr} {o:Obj},s₁.heap.get? b=some o->o≠W.tabObj #[]->(o.cls≠ .type "list"\/K.lookup b=some o)->(j6 s₁.heap H).get? b=some o:=fun e n1 n2=>kK e (free e n1 n2);have a4:∀{b:Addr} {m:Str->Option Value},s₁.heap.Ns b m->(j6 s₁.heap H).Ns b m:=fun{b m} ⟨o,es,ep,e,d,r⟩=>by
  have z:H b=none:=by
   by_cases zt:b∈jE K
   ·have:=Y b zt;rw[e]at this;cases this;cases d
   ·rw[hA b zt,if_neg];rintro⟨rfl,_⟩;rw[ha]at e;cases e;cases d
  exact⟨o,es,ep,kK e z,d,r⟩
 have d0:K.In (j6 s₁.heap H):=fun b o e=>Z (KX b o e) (a6 e) (.inr e);have hM:Mod K mg (j6 s₁.heap H):=⟨d0,a4 c3,⟨mb,a4 hb,c7⟩,let ⟨mc,h1,h2⟩:=c1;⟨mc,a4 h1,h2⟩⟩;have hB:BaseL K mg (j6 s₁.heap H):=by
  refine⟨?_,fun y hy c Q e=>?_⟩
  ·obtain⟨bm,ob,b1,b2,b3,b4,b5,b6⟩:=c2;exact⟨bm,ob,b1,b2,Z b3 (fun z=>by rw[z]at b4;cases b4) (.inl (by rw[b4];decide)),b4,b5,b6⟩
  ·obtain⟨o,v2,file,tf,flags,tg,c5,text,tt,e1,r1,r⟩:=(U y hy c Q e).1;exact⟨o,v2,file,tf,flags,tg,c5,text,tt,Z e1 (fun z=>by rw[z]at r1;cases r1) (.inl (by rw[r1];decide)),r1,r⟩
 have e0:L2.aM P w K mg (j6 s₁.heap H) callerA [] s₁ H:=⟨rfl,hM,fun b o e=>qZ e,Mf (lG _ _),trivial,fun b hb=>absurd (show b∈([]:List Addr)from hb) (by simp),hok,.of_eq hg⟩
 have c6:TabsOk K H:=fun y hy c Q e=>⟨#[],hT Q (yq hy e),trivial,fun pos cv q=>by cases q⟩
 have c0:BB K H a (ns.map V.int):=by
  cases hk:K.lookup a with
  |some o=>
   have e:=KX a o hk;rw[ha]at e;cases e;exact .inr ⟨_,vs.toArray,_,hk,rfl,rfl,rfl,by rw[JU,hi.length];exact hl,by simpa using rv⟩
  |none=>exact .inl ⟨_,by rw[hA a aT,if_pos ⟨rfl,hk⟩]⟩
 refine Lu ((F _ hM hB).run callerA [] s₁ H ⟨[.ref a],[]⟩ [.ref a] [.ref a] _ _ hr e0 (b0 s₁ (.ref a)) (.cons rfl .nil) (c4 H c6 c0)) fun r s' h=>?_;cases r with
 |error e=>obtain⟨_,_,_,_,_,_,_,_,_,_,_,_,_,_,_,z⟩:=h;exact False.elim z
 | ok fl=>
  cases fl with
  |next=>exact False.elim h
  |brk=>exact False.elim h
  |cont=>exact False.elim h
  | ret u=>
   obtain⟨v,H',os,bare,un,O,r',q⟩:=h;have q':v= .bl true:=q;subst q';obtain rfl:u=Value.bool true:=r';refine⟨rfl,⟨fun b o e=>?_,fun b o e=>un.there b o e (by simp)⟩,os,bare⟩
   by_cases zt:b∈jE K
   ·obtain⟨y,c,hy,et⟩:=uf zt;obtain⟨hc,hP⟩:=U y hy c b et;obtain⟨more,em⟩:=un.tbls b _ (hT b zt);have o2:s'.heap.get? b=some {cls:=.none,data:=.fields (#[]++more)}:=O b _ em;rw[hP]at e;cases e;exact .inr (.inl ⟨(hc.tab hP).isCodeTable,rfl, #[],more,rfl,o2⟩)
   ·by_cases qa:b=a/\K.lookup a=none
    ·have z1:H b=some (.frz {cls:=.type "list",data:=.seq vs.toArray} (.lst (ns.map V.int))):=by rw[hA b zt,if_pos qa]
     obtain⟨e2,_⟩:=O b _ (un.frzs b _ _ z1);obtain⟨e1,_⟩:=hok b _ z1;rw[e]at e1;cases e1;exact .inl e2
    ·exact .inl (un.keep b o e (by rw[hA b zt,if_neg qa]) (by intro z;exact absurd (show b∈([]:List Addr)from z) (by simp)) (by simp))
theorem AB{l:W.OpenLaw}{YP:World->Heap->Prop}{d:DefRec}{K:Params->W.Frag}{sp:World->Sp}
  (hn:l.most=some n) (a6:n<=sizeLine) (b0:d.params.defaults=[]) (hr:Room k callerA)
  (hY:∀(w:World) (h:Heap),YP w h->(K w.params).In h) (nt:∀ w:World,W.noTabs (K w.params)=true)
  (Z:∀(w:World) (h:Heap),YP w h->∀ y∈cm,∀ c Q,W.tabIn (K w.params) y=some (c,Q)->W.CodeHd h c Q/\h.get? Q=some (W.tabObj #[]))
  (F:∀(w:World) (mg:Str->Option Value) (fa:Addr) (h:Heap),(K w.params).In h->h.Ns mainGlobals mg->mg d.name=some (.ref fa)->
   ∃ fd:FuncData,(∀(s:Shared) (u:Value),BindsTo s fd ⟨[u],[]⟩ [(x,u)])/\
    ∀ base:Heap,Mod (K w.params) mg base->BaseL (K w.params) mg base->FnOk l.prog w (K w.params) mg base (j9 l.prog w) k fa fd [x] (sp w))
  (a4:∀(w:World) (H:Hp) (a:Addr) (ns:List Int),ns.length<=n->TabsOk (K w.params) H->BB (K w.params) H a (ns.map V.int)->sp w [.ref a] H (fun v _=>v= .bl true) fun _ _ _=>False):
  W.WalkO q loose XP YP l.row.toRowW d [] (fun f vs=>PySem.call f vs):=by
 refine Att.attach_call hn b0 fun w s₀ s₁ mg mb fa o pm cd doc a vs ns G Y ho hd b1 O U hints hlen hg=>?_;have KX:=hY w _ Y;obtain⟨fd,hb,hF⟩:=F w mg fa _ KX G.T.g O;refine Cy KX (nt w) G.T.g G.T.b G.T.builtins G.T.nolimit hg G.T.bmain (fun y hy c Q e=>Z w _ Y y hy c Q e) U hints (JV hlen a6) hr hF hb fun H hO hS=>a4 w H a ns hlen hO hS
def Hi(K:W.Frag)(ts:List Addr):Bool:=cm.all fun y=>match W.tabIn K y with
 |some (c,Q)=>W.codeHdIn K c Q && ts.contains Q
 |none=>true
theorem IY{K:Params->W.Frag}{e:∀ P,as=(K P).map (·.1)}{w:World}(ck:Hi (K w.params) ts=true)(Y:(W.kmHook K as e ts).says w h):
  ∀ y∈cm,∀ c Q,W.tabIn (K w.params) y=some (c,Q)->W.CodeHd h c Q/\h.get? Q=some (W.tabObj #[]):=fun y hy c Q et=>by
 have:=Kg.mp ck y hy;rw[et]at this;simp only[Bool.and_eq_true]at this;exact⟨W.codeHd_of_K (W.km_in_of Y) this.1,W.km_tabs_of Y Q (List.contains_iff_mem.mp this.2)⟩
def DB(K:W.Frag):Bool:=cm.all fun x=>cm.all fun y=>match W.tabIn K x,W.tabIn K y with
 |some (_,P),some (_,Q)=>P !=Q||x==y
 |_,_=>true
theorem Fs{K:W.Frag}(h:DB K=true):se K:=fun x hx y hy c d P e1 e2=>by
 have:=Kg.mp (Kg.mp h x hx) y hy;rw[e1,e2]at this;simpa using this
def lF(N n:Nat)(m:cT):List D->M D:=nW N n (fun ρ=>mW (m ρ))
section
variable {P:Program}{w:World}{K:W.Frag}{mg:Str->Option Value}{base:Heap}
theorem b9{x qual:Str}{st:Stmt}{f:Addr}{fd:FuncData}{N ps:List Str}{k:Nat}{m:cT}{F0:List D->M D}(F:Fun K x qual st f fd)(hm:mg x=some (.ref f))(hb:Binds K fd ps [])(Sc:FnScope N ps (av st))(hF:F0=lF N.length ps.length m)
  (Z:∀(cdv:Value) (A:Around) (outer:List Env) (s:Shared) (H:Hp) (E:XK),Room k (A.deeper (envOfC qual (av st) s.heap.objs.size f cdv))->
   tF (jf (j9 P w) P w K mg base N qual (av st) f cdv A outer s H E).nox cb (c9 st) m):DefX P w K mg base (k+1) x ps F0:=
 ⟨f,fd,by rw[hF];exact Fl F Sc fun cdv A outer s H Ek hr _ _=>t9 (sf (Z cdv A outer s H Ek hr)),hm,F.kp,hb⟩
theorem sg{x qual:Str}{st:Stmt}{f:Addr}{fd:FuncData}{N ps:List Str}{k:Nat}{m:cT}{F0:List D->M D}(F:Fun K x qual st f fd)(hm:mg x=some (.ref f))(hb:Binds K fd ps [])(Sc:FnScope N ps (av st))(hF:F0=nW N.length ps.length m)
  (Z:∀(cdv:Value) (A:Around) (outer:List Env) (s:Shared) (H:Hp) (E:XK),Room k (A.deeper (envOfC qual (av st) s.heap.objs.size f cdv))->
   tF (jf (j9 P w) P w K mg base N qual (av st) f cdv A outer s H E) (t8 K E) (c9 st) m):DefX P w K mg base (k+1) x ps F0:=
 ⟨f,fd,by rw[hF];exact Fl F Sc fun cdv A outer s H Ek hr _ _=>Z cdv A outer s H Ek hr,hm,F.kp,hb⟩
theorem Cz{x y qual:Str}{f c Pt:Addr}{oc:Value}{od:Option Addr}{osl:Array (Option Value)}{kV doc pm cdv ct dV:Value}{an:Option Addr}{ar:Arguments}{bd:List Stmt}{sc:Scope}(hx:W.nsIn K mainGlobals x=some (some (.ref f)))
  (lk:K.lookup f=some ⟨oc,od,.func (W.fnOf y qual ar bd sc dV kV doc pm an cdv ct),osl⟩) (ht:W.tabIn K x=some (c,Pt)):cdv= .ref c:=by
 unfold W.tabIn at ht;rw[hx]at ht;dsimp only at ht;rw[lk]at ht;dsimp only at ht;cases cdv with
 | ref c2=>
  dsimp only at ht;split at ht
  ·split at ht
   ·cases ht;rfl
   ·cases ht
  ·cases ht
 |_=>cases ht
theorem Ft{x qual:Str}{st:Stmt}{f:Addr}{fd:FuncData}{N ps:List Str}{k:Nat}{m:cT}{F0:List D->M D}{c Pt:Addr}(F:Fun K x qual st f fd)(Sc:FnScope N ps (av st))(hF:F0=lF N.length ps.length m)(hx:W.nsIn K mainGlobals x=some (some (.ref f)))(ht:W.tabIn K x=some (c,Pt))
  (Z:∀(A:Around) (outer:List Env) (s:Shared) (H:Hp) (E:XK),Room k (A.deeper (envOfC qual (av st) s.heap.objs.size f (.ref c)))->
   tF (jf (j9 P w) P w K mg base N qual (av st) f (.ref c) A outer s H E).nox cb (c9 st) m):FnOk P w K mg base (j9 P w) (k+1) f fd ps (Au K F0):=by
 rw[hF];refine Fl F Sc fun cdv A outer s H Ek hr _ Y=>?_;obtain⟨oc,od,osl,kV,doc,pm,an,ct,lk⟩:=Y;have hc:cdv= .ref c:=Cz hx lk ht;subst hc;exact t9 (sf (Z A outer s H Ek hr))
theorem AC{x qual:Str}{st:Stmt}{f:Addr}{fd:FuncData}{N ps:List Str}{k k0:Nat}{m:D->M D->cT}{R:D->M D->List D->M D}(F:Fun K x qual st f fd)(hm:mg x=some (.ref f))(hb:Binds K fd ps [])(Sc:FnScope N ps (av st))(hR:R=fun fv c es=>nW N.length ps.length (m fv c) (fv::es))
  (Z:∀(base:Heap),Mod K mg base->∀(a c':Addr) (ql:Str) (ds:List D) (vs:List V) (mm:TM),LamOk P w K mg base k0 a (Fo K c' ql ds vs mm)->∀(cdv:Value) (A:Around) (outer:List Env) (s:Shared) (H:Hp) (E:XK),Room k (A.deeper (envOfC qual (av st) s.heap.objs.size f cdv))->
   tF (jf (j9 P w) P w K mg base N qual (av st) f cdv A outer s H E).nox cb (c9 st) (m (.fn a c' ql ds vs) (mm (ds.map some)))):RefX P w K mg (k+1) k0 x ps R:=by
 refine⟨f,fd,hm,F.kp,hb,fun base G a c' ql ds vs mm L=>?_⟩;rw[hR];obtain⟨oc,od,kV,doc,pm,an,cdv,ct,osl,rfl,lk,Y⟩:=F.ex;have key:∀{us:List V} {H:Hp} {Q:VK} {Ek:XK},wV K (fun fv c es=>nW N.length ps.length (m fv c) (fv::es)) a c' ql ds vs mm us H Q Ek->us.length=ps.length/\∃ ι S es,Rep K ι H S/\RelDs K ι H es us/\cont K cb (do let o<-m (.fn a c' ql ds vs) (mm (ds.map some)) (es.map some++List.replicate (N.length - ps.length) none);outD o) ι S H (kq K Q):=by
  rintro us H Q Ek ⟨ι,S,rest,es,rfl,rep,hc',rds,res,c⟩;have rr:RelDs K ι H (.fn a c' ql ds vs::es) (.ref a::rest):=.cons (.fn hc' rds) res;unfold nW at c;dsimp only at c;by_cases hl:(D.fn a c' ql ds vs::es).length=ps.length
  ·rw[if_pos hl]at c;exact⟨by rw[<-rr.length];exact hl,ι,S,_,rep,rr,c⟩
  ·rw[if_neg hl]at c;exact(ag c).elim
 refine zl lk Y Sc (fun us H Q Ek h=>(key h).1) fun A outer s H us Q Ek hr h=>⟨_,sf (Z base G a c' ql ds vs mm L cdv A outer s H Ek hr),?_⟩;obtain⟨hl,ι,S,es,rep,r,c⟩:=key h;refine⟨ι,S,_,rep,?_,ak (ai c) fun o ι1 S1 H1 e1 rep1 c1=>?_⟩
 ·have:=RelE.start r (N.length - ps.length);unfold L2.start;rw[hl];exact this
 ·cases o with
  |nx ρ=>exact fun σ' _=>ah c1 .refl rep1 _ .non
  |ret d=>exact ah c1 .refl rep1
  |bk ρ=>exact(ag c1).elim
  |ct ρ=>exact(ag c1).elim
end
end S7
section
namespace S4
open PySem PySem.Spec PyProof.Rows
section
variable {prog:Program}{w:World}{A:Around}{E:Value->Shared->Prop}{s:Shared}
end
end S4
namespace S3
open PySem PySem.Spec PyProof.Rows L2 S4
section
variable {X:Cx}{E:XD}{e:Expr}{m:TM}{pos:Pos}
end
end S3
end
namespace S4
open PySem PySem.Spec PyProof.Rows L2 S3
def CA(l1 l2:Addr):It:=⟨fun i H=>∃ va vb,Rd H l1 (.lst va)/\Rd H l2 (.lst vb)/\i<va.length/\i<vb.length,
 fun i H x H'=>∃ va vb p u v,Rd H l1 (.lst va)/\Rd H l2 (.lst vb)/\H p=none/\va[i]? =some u/\vb[i]? =some v/\x= .ref p/\H'=upd H p (.tup [u,v]),fun i H=>∃ va vb,Rd H l1 (.lst va)/\Rd H l2 (.lst vb)/\(va.length<=i\/vb.length<=i)⟩
theorem yr{P:Program}{w:World}{K:W.Frag}{b4:List Expr}{x1}{tp:Pos}{z TI TO i1 i2 l1 l2:Addr}(D:ZipApart z TI TO i1 i2 l1 l2):
  Turn P w K (.Tuple b4 x1 tp) (CA l1 l2) [z,TI,TO,i1,i2] z
   (fun i h=>IsZip h z TI TO .none/\IsPair h TI (.ref i1) (.ref i2)/\(∃ a b,IsPair h TO a b)/\h.IsListIter i1 l1 i/\h.IsListIter i2 l2 i) where
 mem:=by simp
 obj:=fun i h st b hb=>by
  obtain⟨hz,Z,⟨a,c,Y⟩,⟨o1,e1,c1,d1⟩,⟨o2,e2,c2,d2⟩⟩:=st;simp only[List.mem_cons,List.not_mem_nil,or_false]at hb;rcases hb with rfl|rfl|rfl|rfl|rfl
  ·exact⟨_,hz,fun v z=>by cases z⟩
  ·exact⟨_,Z,fun v z=>by cases z⟩
  ·exact⟨_,Y,fun v z=>by cases z⟩
  ·exact⟨_,e1,fun v z=>by rw[d1]at z;cases z⟩
  ·exact⟨_,e2,fun v z=>by rw[d2]at z;cases z⟩
 keep:=fun i h h' st k=>by
  obtain⟨hz,Z,⟨a,c,Y⟩,h1,h2⟩:=st;exact⟨k z (by simp) _ hz,k TI (by simp) _ Z,⟨a,c,k TO (by simp) _ Y⟩,h1.at fun o e=>k i1 (by simp) o e,h2.at fun o e=>k i2 (by simp) o e⟩
 item:=by
  intro X hP hw hK hc i pins s σ H E I hf st hg;subst hP hw hK;obtain⟨hz,Z,⟨a,c,Y⟩,h1,h2⟩:=st;obtain⟨va,vb,hA,hB,ga,gb⟩:=hg;obtain⟨b3,b0,p1,_⟩:=I.list (.inl hA);obtain⟨b2,b1,p2,_⟩:=I.list (.inl hB);obtain⟨u1,c6,c0⟩:=b0.get (JL ga);obtain⟨u2,c5,c3⟩:=b1.get (JL gb);refine wpAny_pyNext_zip_item D hz Z Y h1 h2 p1.isList p2.isList (x:=u1) (y:=u2) (by simpa using c6) (by simpa using c5) fun h' a1 a2 a3 a4 a5 a6 hk=>?_
  have c7:H s.heap.objs.size=none:=I.hok.fresh (JK _);have lt:∀{c o},s.heap.get? c=some o->s.heap.objs.size≠c:=fun e=>Lh (JO e);refine⟨_,rfl,M3 a1 fun O b6 U=>?_⟩;have b5:IsPair O TI (.ref i1) (.ref i2):=U.extBut _ _ D.TIz (hk _ _ D.TIz D.TITO D.TIi1 D.TIi2 Z);have kk:∀ b o,b ∉ [z,TI,TO,i1,i2]->s.heap.get? b=some o->O.get? b=some o:=fun b o hb e=>by
   simp only[List.mem_cons,List.not_mem_nil,or_false,not_or]at hb;exact U.extBut _ _ hb.1 (hk b o hb.1 hb.2.2.1 hb.2.2.2.1 hb.2.2.2.2 e)
  have c4:IsPair O s.heap.objs.size u1 u2:=U.extBut _ _ (lt hz) a5;have I2:L2.Inv X pins σ (upd H s.heap.objs.size (.tup [va[i],vb[i]])) {s with heap:=O,toks:=s.toks}:=r0 (o:=.tup [va[i],vb[i]]) I hf kk (JK _) ⟨by show 2<=sizeLine;decide,[u1,u2],.cons c0 (.cons c3 .nil),_,c4,rfl,_,rfl⟩
  refine⟨.ref s.heap.objs.size,_,I2,rfl,
   ⟨va,vb,_,_,_,hA,hB,c7,JL ga,JL gb,rfl,rfl⟩,⟨b6,b5,⟨_,_,U.extBut _ _ D.TOz a2⟩,a3.at fun o e=>U.extBut _ _ D.i1z e,a4.at fun o e=>U.extBut _ _ D.i2z e⟩,fun b hb=>?_⟩
  obtain⟨ob,ho,_⟩:∃ ob,s.heap.get? b=some ob/\True:=by
   simp only[List.mem_cons,List.not_mem_nil,or_false]at hb;rcases hb with rfl|rfl|rfl|rfl|rfl
   ·exact⟨_,hz,trivial⟩
   ·exact⟨_,Z,trivial⟩
   ·exact⟨_,Y,trivial⟩
   ·obtain⟨o,e,_⟩:=h1;exact⟨_,e,trivial⟩
   ·obtain⟨o,e,_⟩:=h2;exact⟨_,e,trivial⟩
  rw[aB (JT (JO ho))];exact(hf b hb).1
 done:=by
  intro X hP hw hK hc i pins s σ H E I hf st hg;subst hP hw hK;obtain⟨hz,Z,⟨a,c,Y⟩,h1,h2⟩:=st;obtain⟨va,vb,hA,hB,gs⟩:=hg;obtain⟨b3,b0,p1,_⟩:=I.list (.inl hA);obtain⟨b2,b1,p2,_⟩:=I.list (.inl hB);have d3:=b0.length;have d0:=b1.length;refine wpAny_pyNext_zip_end (I.ok.hd hc) D hz Z Y h1 h2 p1.isList p2.isList (gs.imp (fun g=>by simp;omega) fun g=>by simp;omega) fun h' hk=>⟨rfl,rZ (t':=s.toks) I hf fun b o hb e=>?_⟩
  simp only[List.mem_cons,List.not_mem_nil,or_false,not_or]at hb;exact hk b o hb.1 hb.2.2.1 hb.2.2.2.1 hb.2.2.2.2 e
 self:=fun _ _ _ _ _ st h=>ME st.1 h
theorem CB{X:Cx}{a6:List Expr}{x1}{tp p pos:Pos}{es:List Expr}{e:Expr}{ta:TA}(hg:Gl X "zip")(hm:X.mg "zip"=none)(ha:PA X (e::es) ta)
  (he:starEach (e::es) X.env=(false,eval e X.env)::starEach es X.env:=by rfl) (b4:(backTo pos (starEach es X.env)).any (·.1)=false:=by rfl):
  PI X (.Tuple a6 x1 tp) (.Call (.Name "zip" p) (e::es) [] pos) (fun σ H R=>ta σ H fun xs H1=>(∃ a b va vb,xs=[.ref a,.ref b]/\Rd H1 a (.lst va)/\Rd H1 b (.lst vb)/\R (CA a b) H1)\/
   (∃ a b va vb,xs=[.ref a,.ref b]/\H1 a=some (.tup va)/\H1 b=some (.tup vb)/\
   R ⟨fun i H=>(yS va vb).go i H/\(H a=some (.tup va)/\H b=some (.tup vb)),(yS va vb).yld,fun i H=>(yS va vb).stop i H/\(H a=some (.tup va)/\H b=some (.tup vb))⟩ H1)):=by
 intro pins s σ H R I h;refine Call_ (ko I hg hm (show bootBuiltins "zip"=some (.type "zip") by decide+kernel) (K1 (dy (ha pos pins s σ H _ I h) fun us s1 ⟨vs,H1,I1,r1,q1⟩=>?_) he b4) (by decide) (by decide))
 have fresh:∀ c∈[s1.heap.objs.size+4,s1.heap.objs.size+2,s1.heap.objs.size+3,s1.heap.objs.size,s1.heap.objs.size+1],s1.heap.objs.size<=c:=fun c hc=>by
  simp only[List.mem_cons,List.not_mem_nil,or_false]at hc;omega
 rcases q1 with⟨a,b,va,vb,rfl,hA,hB,q⟩|⟨a,b,va,vb,rfl,hA,hB,q⟩
 ·obtain⟨u,w',rfl,ru,Y⟩:=vals2 r1;cases (show u=Value.ref a from ru);cases (show w'=Value.ref b from Y);obtain⟨b1,b2,p1,_⟩:=I1.list (.inl hA);obtain⟨b0,b3,p2,_⟩:=I1.list (.inl hB);have a1:a<s1.heap.objs.size:=by obtain⟨_,e,_⟩:=p1.isList;exact JO e
  have a2:b<s1.heap.objs.size:=by obtain⟨_,e,_⟩:=p2.isList;exact JO e
  refine call_zip_2 p1.isList p2.isList fun h' hz Z a4 U O _ hk=>ME hz ?_;exact⟨s1.heap.objs.size+4,_,_,_,H1,rfl,I1.kept (t':=s1.toks) hk,yr (zipApart_new a1 a2),⟨hz,Z,⟨_,_,a4⟩,U,O⟩,fun c hc=>I1.fpOk (fresh c hc) (I1.hok.fresh (fresh c hc)),q⟩
 ·obtain⟨u,w',rfl,ru,Y⟩:=vals2 r1;cases (show u=Value.ref a from ru);cases (show w'=Value.ref b from Y);obtain⟨b1,b2,p1,_⟩:=I1.tuple (.of hA);obtain⟨b0,b3,p2,_⟩:=I1.tuple (.of hB);have a1:a<s1.heap.objs.size:=by obtain⟨_,e,_⟩:=p1;exact JO e
  have a2:b<s1.heap.objs.size:=by obtain⟨_,e,_⟩:=p2;exact JO e
  refine ym p1 p2 fun h' hz Z a4 U O hk=>ME hz ?_;exact⟨s1.heap.objs.size+4,_,_,_,H1,rfl,I1.kept (t':=s1.toks) hk,Am (zipApart_new a1 a2) (fun H=>H a=some (.tup va)/\H b=some (.tup vb)) (fun _=>.rfl),⟨hz,Z,⟨_,_,a4⟩,U,O⟩,fun c hc=>I1.fpOk (fresh c hc) (I1.hok.fresh (fresh c hc)),q⟩
theorem Rd.lst_inj(h:Rd H a (.lst xs))(h':Rd H a (.lst ys)):xs=ys:=by
 rcases h with h|⟨o,h⟩<;>rcases h' with h'|⟨o',h'⟩<;>(rw[h]at h';cases h'<;>rfl)
def zL:D->M (List D×Option (Nat×List D))
 | .lst k=>do let xs<-getL k;pure (xs,some (k,xs))
 | .fz xs=>pure (xs,none)
 |_=>M.fail
def Fu:Option (Nat×List D)->Option (Nat×List D)->Chk
 |some (k,xs),some (j,ys)=>.two k j xs ys
 |some (k,xs),none=>.two k k xs xs
 |none,some (j,ys)=>.two j j ys ys
 |none,none=>.none
def AD:List D->M Iter
 |[.tup xs,.tup ys]=>pure ⟨(xs.zip ys).map fun p=>.tup [p.1,p.2],.none⟩
 |[a,b]=>do let x<-zL a;let y<-zL b;pure ⟨(x.1.zip y.1).map fun p=>.tup [p.1,p.2],Fu x.2 y.2⟩
 |_=>M.fail
structure ZOk(K:W.Frag)(x:List D×Option (Nat×List D))(a:Addr)(ι:List Addr)(H:Hp):Prop where
 ok:∀ ι2 H2 S2,ExtN ι H ι2 H2->Rep K ι2 H2 S2->(∀ k xs,x.2=some (k,xs)->S2[k]? =some xs)->∃ va,Rd H2 a (.lst va)/\RelDs K ι2 H2 x.1 va
theorem AE{K:W.Frag}{E:XD}{ι:List Addr}{S:aA}{H:Hp}{d:D}{v:V}{α:Type}{f:List D×Option (Nat×List D)->M α}{Q:α->List Addr->aA->Hp->Prop}(rep:Rep K ι H S)(r:RelD K ι H d v)(c:cont K E (zL d>>=f) ι S H Q):
  ∃ a x va,v= .ref a/\Rd H a (.lst va)/\ZOk K x a ι H/\cont K E (f x) ι S H Q:=by
 cases d with
 | lst k=>
  obtain⟨a,rfl,h1⟩:=r.lst_inv;have c':cont K E (getL k>>=fun xs=>pure (xs,some (k,xs))>>=f) ι S H Q:=by
   rw[<-cH];exact c
  obtain⟨xs,vs,hS,hv,rv,c2⟩:=bu c' rep h1;rw[ay]at c2;refine⟨a,(xs,some (k,xs)),vs,rfl,.inl hv,⟨fun ι2 H2 S2 e rep2 ok=>?_⟩,c2⟩;obtain⟨va,h2,r2⟩:=rep2.get k a xs (e.at h1) (ok k xs rfl);exact⟨va,.inl h2,r2⟩
 |fz xs=>
  obtain⟨a,o,vs,rfl,h1,rv⟩:=r.fz_inv;refine⟨a,(xs,none),vs,rfl,.inr ⟨o,h1⟩,⟨fun ι2 H2 S2 e rep2 ok=>?_⟩,ah (ai c) .refl rep⟩;exact⟨vs,.inr ⟨o,(e.oth _ _ h1 (rep.notIn h1 (by intro _ z;cases z)) (by intro _ z;cases z) (by intro _ z;cases z)).1⟩,rv.laterN rep e⟩
 |_=>exact(ag (ai c)).elim
theorem CC(h:Iter.okS ⟨items,Fu x y⟩ S):(∀ k xs,x=some (k,xs)->S[k]? =some xs)/\∀ k xs,y=some (k,xs)->S[k]? =some xs:=by
 match x,y,h with
 |some (k,xs),some (j,ys),h=>exact⟨fun _ _ e=>(by cases e;exact h.1),fun _ _ e=>(by cases e;exact h.2)⟩
 |some (k,xs),none,h=>exact⟨fun _ _ e=>(by cases e;exact h.1),fun _ _ e=>(by cases e)⟩
 |none,some (j,ys),h=>exact⟨fun _ _ e=>(by cases e),fun _ _ e=>(by cases e;exact h.1)⟩
 |none,none,h=>exact⟨fun _ _ e=>(by cases e),fun _ _ e=>(by cases e)⟩
theorem ug{K:W.Frag}{ι:List Addr}{H:Hp}{a b:Addr}{x y:List D×Option (Nat×List D)}(hx:ZOk K x a ι H)(hy:ZOk K y b ι H):
  iX K ⟨(x.1.zip y.1).map fun p=>.tup [p.1,p.2],Fu x.2 y.2⟩ (CA a b) ι H:=by
 intro ι2 H2 S2 e rep2 ok i;obtain⟨a4,a6⟩:=CC ok;obtain⟨va,Y,O⟩:=hx.ok ι2 H2 S2 e rep2 a4;obtain⟨vb,Z,U⟩:=hy.ok ι2 H2 S2 e rep2 a6;have lx:=O.length;have ly:=U.length;refine⟨fun d hd=>?_,fun hlen=>?_⟩
 ·obtain⟨x',y',h1,h2,rfl⟩:=zip_get hd;have i1:=(JN.mp h1).1;have i2:=(JN.mp h2).1;refine⟨⟨va,vb,Y,Z,by omega,by omega⟩,?_⟩
  rintro v H3 ⟨va',vb',p,u,v',gA,gB,hp,g1,g2,rfl,rfl⟩;cases Rd.lst_inj Y gA;cases Rd.lst_inj Z gB;obtain⟨v1,e1,r1⟩:=O.get' h1;obtain⟨v2,e2,r2⟩:=U.get' h2;obtain rfl:v1=u:=J8 (e1.symm.trans g1);obtain rfl:v2=v':=J8 (e2.symm.trans g2);have hE:Ext ι2 H2 ι2 (upd H2 p (.tup [v1,v2])):=dQ hp;exact⟨hE,eY rep2 hp,.tup aN (.cons (r1.later rep2 hE) (.cons (r2.later rep2 hE) .nil))⟩
 ·have hl:min x.1.length y.1.length<=i:=by simpa using hlen
  refine⟨va,vb,Y,Z,?_⟩;rcases Nat.le_total x.1.length y.1.length with z|z
  ·exact .inl (by omega)
  ·exact .inr (by omega)
theorem wX{X:Cx}{x1}(hm:X.mg "zip"=none)(ha:SE X E a m)(hb:SE X E b n)(hg:Gl X "zip":=by rfl)
  (hs:starEach [a,b] X.env=[(false,eval a X.env),(false,eval b X.env)]:=by rfl) (Z:starEach [b] X.env=[(false,eval b X.env)]:=by rfl):
  SI X E (.Tuple elts x1 tp) (.Call (.Name "zip" p) [a,b] [] pos) (fun ρ=>do let ds<-(do let x<-m ρ;let xs<-(do let y<-n ρ;let ys<-pure [];pure (y::ys));pure (x::xs));AD ds):=by
 intro pins s σ H R I h;have U:PI X (.Tuple elts x1 tp) (.Call (.Name "zip" p) [a,b] [] pos) (fun σ H R=>IL X.K E (aa m (aa n ao)) σ H fun xs H1=>(∃ a b va vb,xs=[.ref a,.ref b]/\Rd H1 a (.lst va)/\Rd H1 b (.lst vb)/\R (CA a b) H1)\/
   (∃ a b va vb,xs=[.ref a,.ref b]/\H1 a=some (.tup va)/\H1 b=some (.tup vb)/\
   R ⟨fun i H=>(yS va vb).go i H/\(H a=some (.tup va)/\H b=some (.tup vb)),(yS va vb).yld,fun i H=>(yS va vb).stop i H/\(H a=some (.tup va)/\H b=some (.tup vb))⟩ H1)):=
  CB hg hm (af ha (af hb aj (by rw[Z];rfl)) (by rw[hs,Z])) (by rw[hs,Z]) (by rw[Z];rfl)
 refine U pins s σ H R I ?_;obtain⟨ι,S,ρ,rep,re,c⟩:=h;refine⟨ι,S,ρ,rep,re,ak (ai c) fun ds ι1 S1 H1 e1 rep1 c1 vs r=>?_⟩;unfold AD at c1;split at c1
 ·next xs ys=>
  obtain⟨v1,ws,rfl,r1,r2⟩:=r.cons_inv;obtain⟨v2,Y,rfl,r3,r4⟩:=r2.cons_inv;cases r4.nil_inv;obtain⟨pa,va,rfl,hA,rx⟩:=r1.tup_inv;obtain⟨pb,vb,rfl,hB,ry⟩:=r3.tup_inv;exact .inr ⟨pa,pb,va,vb,rfl,hA,hB,ah c1 .refl rep1 _ (vH rep1 hA hB rx ry)⟩
 ·next a b _=>
  obtain⟨v1,ws,rfl,r1,r2⟩:=r.cons_inv;obtain⟨v2,Y,rfl,r3,r4⟩:=r2.cons_inv;cases r4.nil_inv;obtain⟨pa,x,va,rfl,hA,hx,c2⟩:=AE rep1 r1 c1;obtain⟨pb,y,vb,rfl,hB,hy,c3⟩:=AE rep1 r3 c2;exact .inl ⟨pa,pb,va,vb,rfl,hA,hB,ah c3 .refl rep1 _ (ug hx hy)⟩
 ·exact(ag c1).elim
abbrev qI(m n:TM):aM->M Iter:=fun ρ=>do let ds<-aa m (aa n ao) ρ;AD ds
end S4
namespace S3
open PySem PySem.Spec PyProof.Rows L2 S4
def lZ(f:Expr->Option D):List Expr->Option (List D)
 |[]=>some []
 |e::es=>match f e,lZ f es with
  |some d,some ds=>some (d::ds)
  |_,_=>none
def litE:Nat->Expr->Option D
 |_,.Constant .none _ _=>some .non
 |_,.Constant (.bool b) _ _=>some (.bl b)
 |_,.Constant (.int i) _ _=>some (.int i)
 |_,.Constant (.str x) _ _=>some (.str x)
 |_,.UnaryOp .USub (.Constant (.int i) _ _) _=>some (.int (-i))
 |n+1,.Tuple es _ _=>match lZ (litE n) es with
  |some ds=>if ds.length<=100 then some (.tup ds)else none
  |none=>none
 |_,_=>none
section
variable {X:Cx}{E:XD}
theorem SE.mono{m m':TM}(h:SE X E e m)(k:∀ ρ S r,m' ρ S=some r->m ρ S=some r):SE X E e m':=PE.imp h fun σ H Q q=>by
 obtain⟨ι,S,ρ,rep,re,r,S',e,c⟩:=q;exact⟨ι,S,ρ,rep,re,r,S',k ρ S _ e,c⟩
theorem AF(h:litE n e=some d)(es:List Expr)(env:Env):starEach (e::es) env=(false,eval e env)::starEach es env:=by
 cases e with
 |Constant c j p=>exact aF
 |UnaryOp o a p=>exact vJ
 |Tuple l k p=>exact bz
 |_=>cases n<;>cases h
theorem wY(ih:∀ e d,litE n e=some d->SE X E e (mK d)):∀{es:List Expr} {ds:List D},lZ (litE n) es=some ds->SA X E es (fun _=>pure ds)
 |[],ds,h=>by cases h;exact aj
 | e::es,ds,h=>by
  unfold lZ at h;cases q:litE n e with
  |none=>rw[q]at h;cases h
  | some d=>
   rw[q]at h;cases q2:lZ (litE n) es with
   |none=>rw[q2]at h;cases h
   |some ds'=>
    rw[q2]at h;cases h;exact af (ih e d q) (wY ih q2) (AF q _ _)
theorem Fv:∀(n:Nat) (e:Expr) (d:D),litE n e=some d->SE X E e (mK d):=by
 intro n
 induction n with
 |zero=>
  intro e d h;unfold litE at h;split at h
  ·cases h;exact ku
  ·cases h;exact gY
  ·cases h;exact aw
  ·cases h;exact rF
  ·cases h;exact An
  ·next h'=>exact absurd h' (by omega)
  ·cases h
 | succ n ih=>
  intro e d h;unfold litE at h;split at h
  ·cases h;exact ku
  ·cases h;exact gY
  ·cases h;exact aw
  ·cases h;exact rF
  ·cases h;exact An
  ·next m es k p hm=>
   cases hm;cases q:lZ (litE n) es with
   |none=>rw[q]at h;cases h
   | some ds=>
    rw[q]at h;simp only at h;split at h
    ·next hl=>
     cases h;refine(bZ (wY ih q)).mono fun ρ S r hr=>?_;have e:(do let ds'<-(pure ds:M (List D));bQ ds')=(pure (.tup ds):M D):=by
      show bQ ds=_;unfold bQ;rw[if_pos (by unfold lim;omega)]
     rw[e];exact hr
    ·cases h
  ·cases h
theorem ef(n:Nat)(h:litE n e=some d):SE X E e (mK d):=Fv n e d h
end
def aZ(m:TM)(ms:BF):BF:=aa m ms
section
variable {X:Cx}{E:XD}
theorem a7(ha:SE X E e m)(hr:SA X E es ms)(hs:starEach (e::es) X.env=(false,eval e X.env)::starEach es X.env):SA X E (e::es) (aZ m ms):=af ha hr hs
theorem gu{l p t n}:swapsWith (.List l p) t n env=pure false:=rfl
theorem AG{l k p t n}:swapsWith (.Tuple l k p) t n env=pure false:=rfl
theorem dg{a o b p t n}:swapsWith (.BinOp a o b p) t n env=pure false:=rfl
theorem gv{f l k p t n}:swapsWith (.Call f l k p) t n env=pure false:=rfl
theorem sh{a b p t n}:swapsWith (.Subscript a b p) t n env=pure false:=rfl
theorem mF{a b p t n}:swapsWith (.Constant a b p) t n env=pure false:=rfl
end
end S3
namespace S7
open PySem PySem.Spec PyProof.Rows L2 S3
theorem lj{a b p}:starEach (.Attribute a b p::es) env=(false,eval (.Attribute a b p) env)::starEach es env:=rfl
abbrev Fw(m:TM):TM:=fun ρ=>mW (m ρ)
abbrev eA(m:TM)(y:Str):TM:=fun ρ=>do let x<-m ρ;ua (fun n=>bh n y) x
abbrev AH(m:TM):TM:=fun ρ=>do let x<-m ρ;ua (fun _=>true) x
abbrev Fx(x:Str)(ms:aM->M (List D)):cT:=fun ρ=>do let ds<-ms ρ;if ds.length<=lim then M.raise (.exc x [])else M.fail
end S7
namespace S3
open PySem PySem.Spec PyProof.Rows L2
mutual
def fW(n:Nat):D->Bool
 | .lst k=>decide (k<n)
 | .tup ds=>cF n ds
 | .ro ds=>cF n ds
 | .fz ds=>cF n ds
 | .fn _ _ _ ds _=>cF n ds
 | .exc _ ds=>cF n ds
 | .non=>true
 | .bl _=>true
 | .int _=>true
 | .str _=>true
 | .emp=>true
def cF(n:Nat):List D->Bool
 |[]=>true
 |d::ds=>fW n d && cF n ds
end
mutual
def iB(n:Nat)(g:Nat->Option (List D)):D->Option D
 | .lst k=>if k<n then some (.lst k)else (g k).map .fz
 | .tup ds=>(fX n g ds).map .tup
 | .ro ds=>(fX n g ds).map .ro
 | .fz ds=>(fX n g ds).map .fz
 | .fn a c q ds vs=>(fX n g ds).map fun es=>.fn a c q es vs
 | .exc x ds=>(fX n g ds).map fun es=>.exc x es
 | .non=>some .non
 | .bl b=>some (.bl b)
 | .int i=>some (.int i)
 | .str x=>some (.str x)
 | .emp=>some .emp
def fX(n:Nat)(g:Nat->Option (List D)):List D->Option (List D)
 |[]=>some []
 |d::ds=>match iB n g d,fX n g ds with
  |some u,some us=>some (u::us)
  |_,_=>none
end
def vO(S:aA)(n:Nat):Nat->Nat->Option (List D)
 |0,_=>none
 |f+1,k=>(S[k]?).bind fun xs=>fX n (vO S n f) xs
def oH(S S':aA):Prop:=∀ k xs,k<S.length->S'[k]? =some xs->S[k]? =some xs\/cF S.length xs=true
open Classical in
def ji(m:M D):M D:=fun S=>match m S with
 | some (.ok d,S')=>if S'.length<=S.length then some (.ok d,S')else
   if oH S S' then (match iB S.length (vO S' S.length 60) d with
    |some u=>some (.ok u,S'.take S.length)
    |none=>none)else none
 |r=>r
abbrev aV(m:TM):TM:=fun ρ=>ji (m ρ)
section
variable {K:W.Frag}{ι ι':List Addr}{H H':Hp}{S S':aA}
mutual
theorem RelD.cl:∀{d:D} {v:V},RelD K ι H d v->fW ι.length d=true
 |_,_,.non=>rfl
 |_,_,.bl b=>rfl
 |_,_,.int i=>rfl
 |_,_,.str x=>rfl
 |_,_,.tup h hs=>by unfold fW;exact RelDs.cl hs
 |_,_,.lst h=>by unfold fW;exact JZ (JN.mp h).1
 |_,_,.ro h hs=>by unfold fW;exact RelDs.cl hs
 |_,_,.emp h=>rfl
 |_,_,.fn h hs=>by unfold fW;exact RelDs.cl hs
 |_,_,.exc n h=>rfl
 |_,_,.excF n h h2 hn hs=>by unfold fW;exact RelDs.cl hs
 |_,_,.fz h hs=>by unfold fW;exact RelDs.cl hs
theorem RelDs.cl:∀{ds:List D} {vs:List V},RelDs K ι H ds vs->cF ι.length ds=true
 |_,_,.nil=>rfl
 |_,_,.cons h hs=>by unfold cF;rw[RelD.cl h,RelDs.cl hs];rfl
end
def nu(P:List Addr)(os:Addr->Obj)(H:Hp):Hp:=fun b=>match H b with
 |some (.lst vs)=>if b∈P then some (.frz (os b) (.lst vs))else some (.lst vs)
 |x=>x
theorem AI{P:List Addr}{os:Addr->Obj}{b:Addr}(h:H b=none):nu P os H b=none:=by unfold nu;rw[h]
theorem bP{P:List Addr}{os:Addr->Obj}{b:Addr}{o:HO}(h:H b=some o)(hn:∀ vs,o≠ .lst vs):nu P os H b=some o:=by
 unfold nu;rw[h];cases o with
 |lst vs=>exact absurd rfl (hn vs)
 |_=>rfl
theorem wZ{P:List Addr}{os:Addr->Obj}{b:Addr}(h:b ∉ P):nu P os H b=H b:=by
 unfold nu;split
 ·next q=>rw[if_neg h,q]
 ·rfl
theorem Fy{os:Addr->Obj}(h:b∈P)(e:H b=some (.lst vs)):nu P os H b=some (.frz (os b) (.lst vs)):=by
 unfold nu;rw[e];exact if_pos h
theorem uh(nd:ι.Nodup)(h:ι[k]? =some a):a∈ι.drop n↔n<=k:=by
 constructor
 ·intro hm;obtain⟨j,hj⟩:=LQ.mp hm;rw[MY]at hj;have:=nS nd h hj;omega
 ·intro hk;refine LQ.mpr ⟨k - n,?_⟩;rw[MY,show n+(k - n)=k by omega];exact h
mutual
theorem RelD.down{n:Nat}{os:Addr->Obj}:∀{d:D} {v:V},RelD K ι H d v->fW n d=true->RelD K (ι.take n) (nu (ι.drop n) os H) d v
 |_,_,.non,_=>.non
 |_,_,.bl b,_=>.bl b
 |_,_,.int i,_=>.int i
 |_,_,.str x,_=>.str x
 |_,_,.tup h hs,c=>.tup (bP h (by intro _ z;cases z)) (RelDs.down hs (by unfold fW at c;exact c))
 |_,_,.lst h,c=>.lst (by unfold fW at c;rw[Mn,if_pos (KD c)];exact h)
 |_,_,.ro h hs,c=>.ro (h.imp (fun⟨o,h⟩=>⟨o,bP h (by intro _ z;cases z)⟩) fun z=>z) (RelDs.down hs (by unfold fW at c;exact c))
 |_,_,.emp h,_=>.emp (bP h (by intro _ z;cases z))
 |_,_,.fn h hs,c=>.fn (bP h (by intro _ z;cases z)) (RelDs.down hs (by unfold fW at c;exact c))
 |_,_,.exc n h,_=>.exc n (bP h (by intro _ z;cases z))
 |_,_,.excF n h h2 hn hs,c=>.excF n (bP h (by intro _ z;cases z)) (bP h2 (by intro _ z;cases z)) hn (RelDs.down hs (by unfold fW at c;exact c))
 |_,_,.fz h hs,c=>.fz (bP h (by intro _ z;cases z)) (RelDs.down hs (by unfold fW at c;exact c))
theorem RelDs.down{n:Nat}{os:Addr->Obj}:∀{ds:List D} {vs:List V},RelDs K ι H ds vs->cF n ds=true->RelDs K (ι.take n) (nu (ι.drop n) os H) ds vs
 |_,_,.nil,_=>.nil
 |_,_,.cons h hs,c=>by
  unfold cF at c;rw[Lf]at c;exact .cons (RelD.down h c.1) (RelDs.down hs c.2)
end
theorem i5{α β:Type}{f:α->β}{o:Option α}{b:β}(h:o.map f=some b):∃ a,o=some a/\f a=b:=by
 cases o with
 |none=>cases h
 |some a=>exact⟨a,rfl,J8 h⟩
theorem AJ(h:fX n g (d::ds)=some us):∃ u us',us=u::us'/\iB n g d=some u/\fX n g ds=some us':=by
 unfold fX at h;split at h
 ·next u us' e1 e2=>cases h;exact⟨u,us',rfl,e1,e2⟩
 ·cases h
mutual
theorem AK{n:Nat}{os:Addr->Obj}{g:Nat->Option (List D)}(hg:∀ k us a,n<=k->g k=some us->ι[k]? =some a->∃ vs,H a=some (.lst vs)/\RelDs K (ι.take n) (nu (ι.drop n) os H) us vs)(nd:ι.Nodup):
  ∀{d:D} {v:V},RelD K ι H d v->∀{u:D},iB n g d=some u->RelD K (ι.take n) (nu (ι.drop n) os H) u v
 |_,_,.non,u,e=>by unfold iB at e;cases e;exact .non
 |_,_,.bl b,u,e=>by unfold iB at e;cases e;exact .bl b
 |_,_,.int i,u,e=>by unfold iB at e;cases e;exact .int i
 |_,_,.str x,u,e=>by unfold iB at e;cases e;exact .str x
 |_,_,.tup h hs,u,e=>by
  unfold iB at e;obtain⟨es,e1,rfl⟩:=i5 e;exact .tup (bP h (by intro _ z;cases z)) (i6 hg nd hs e1)
 | _,_,@RelD.lst _ _ _ a k h,u,e=>by
  unfold iB at e;by_cases hk:k<n
  ·rw[if_pos hk]at e;cases e;exact .lst (by rw[Mn,if_pos hk];exact h)
  ·rw[if_neg hk]at e;obtain⟨us,e1,rfl⟩:=i5 e;obtain⟨vs,h1,h2⟩:=hg k us a (by omega) e1 h
   exact .fz (Fy ((uh nd h).mpr (by omega)) h1) h2
 |_,_,.ro h hs,u,e=>by
  unfold iB at e;obtain⟨es,e1,rfl⟩:=i5 e;exact .ro (h.imp (fun⟨o,h⟩=>⟨o,bP h (by intro _ z;cases z)⟩) fun z=>z) (i6 hg nd hs e1)
 |_,_,.emp h,u,e=>by unfold iB at e;cases e;exact .emp (bP h (by intro _ z;cases z))
 |_,_,.fn h hs,u,e=>by
  unfold iB at e;obtain⟨es,e1,rfl⟩:=i5 e;exact .fn (bP h (by intro _ z;cases z)) (i6 hg nd hs e1)
 |_,_,.exc x h,u,e=>by
  unfold iB at e;obtain⟨es,e1,rfl⟩:=i5 e;unfold fX at e1;cases e1;exact .exc x (bP h (by intro _ z;cases z))
 |_,_,.excF x h h2 hn hs,u,e=>by
  unfold iB at e;obtain⟨es,e1,rfl⟩:=i5 e;exact .excF x (bP h (by intro _ z;cases z)) (bP h2 (by intro _ z;cases z)) hn (i6 hg nd hs e1)
 |_,_,.fz h hs,u,e=>by
  unfold iB at e;obtain⟨es,e1,rfl⟩:=i5 e;exact .fz (bP h (by intro _ z;cases z)) (i6 hg nd hs e1)
theorem i6{n:Nat}{os:Addr->Obj}{g:Nat->Option (List D)}(hg:∀ k us a,n<=k->g k=some us->ι[k]? =some a->∃ vs,H a=some (.lst vs)/\RelDs K (ι.take n) (nu (ι.drop n) os H) us vs)(nd:ι.Nodup):
  ∀{ds:List D} {vs:List V},RelDs K ι H ds vs->∀{us:List D},fX n g ds=some us->RelDs K (ι.take n) (nu (ι.drop n) os H) us vs
 |_,_,.nil,us,e=>by unfold fX at e;cases e;exact .nil
 |_,_,.cons h hs,us,e=>by
  obtain⟨u,Z,rfl,e1,e2⟩:=AJ e;exact .cons (AK hg nd h e1) (i6 hg nd hs e2)
end
theorem CD(rep:Rep K ι H S){n:Nat}{os:Addr->Obj}:∀ f k us a,n<=k->vO S n f k=some us->ι[k]? =some a->∃ vs,H a=some (.lst vs)/\RelDs K (ι.take n) (nu (ι.drop n) os H) us vs:=by
 intro f
 induction f with
 |zero=>intro k us a _ e;cases e
 | succ f ih=>
  intro k us a hk e ha;unfold vO at e;cases z:S[k]? with
  |none=>rw[z]at e;cases e
  |some xs=>
   rw[z]at e;obtain⟨vs,h1,h2⟩:=rep.get k a xs ha z;exact⟨vs,h1,i6 (ih) rep.nd h2 e⟩
theorem AL(rep:Rep K ι H S)(x:Ext ι H ι' H')(Z:Rep K ι' H' S')(kp:oH S S')(os:Addr->Obj):
  Ext ι H ι (nu (ι'.drop ι.length) os H')/\Rep K ι (nu (ι'.drop ι.length) os H') (S'.take ι.length):=by
 obtain⟨more,rfl⟩:=id x.ids;have ht:(ι++more).take ι.length=ι:=by simp
 refine⟨⟨⟨[],by simp⟩,fun a o h n t=>?_⟩,⟨rep.nd,?_,fun k a xs e1 e2=>?_,Z.tab.mono fun a o h n=>bP h n⟩⟩
 ·obtain⟨h1,h2⟩:=x.oth a o h n t;rw[wZ (fun z=>h2 (List.mem_of_mem_drop z))];exact⟨h1,n⟩
 ·have:=Z.len;rw[KQ, <-this,JM];omega
 ·have hk:k<ι.length:=(JN.mp e1).1;rw[Mn,if_pos hk]at e2;have Y:(ι++more)[k]? =some a:=by rw[Kl hk];exact e1
  obtain⟨vs,h1,h2⟩:=Z.get k a xs Y e2;refine⟨vs,?_,?_⟩
  ·rw[wZ (fun z=>by have:=(uh Z.nd Y).mp z;omega)];exact h1
  ·have hc:cF ι.length xs=true:=by
    rcases kp k xs (by rw[<-rep.len];exact hk) e2 with z|z
    ·obtain⟨_,_,h3⟩:=rep.get k a xs e1 z;exact h3.cl
    ·rw[rep.len];exact z
   have:=RelDs.down (n:=ι.length) (os:=os) h2 hc;rw[ht]at this;exact this
end
section
variable {X:Cx}{E:XD}{e:Expr}{m:TM}{pins:List (Addr×Obj)}{σ:L2.St}{H:Hp}{s:Shared}
theorem Inv.fz(I:L2.Inv X pins σ H s)(P:List Addr):∃ os,L2.Inv X pins σ (nu P os H) s:=by
 refine⟨fun a=>(s.heap.get? a).getD {cls:=.none,data:=.fields #[]},?_⟩;have hu:Un X.fs [] H (nu P (fun a=>(s.heap.get? a).getD {cls:=.none,data:=.fields #[]}) H) s.heap s.heap:=
  ⟨fun b o q _ _ _=>q,fun b o q _ _ _=>⟨o.slots,q⟩,fun b o _ n _=>AI n,fun b o q _=>⟨o,q⟩,fun b xs q=>bP q (by intro _ z;cases z),fun b o u q=>bP q (by intro _ z;cases z),fun b ps q=>⟨#[],by rw[bP q (by intro _ z;cases z)];simp⟩⟩
 refine I.un (t':=s.toks) hu fun b o q=>?_;have st:∀ u,H b=some u->bo X.prog X.w (nu P (fun a=>(s.heap.get? a).getD {cls:=.none,data:=.fields #[]}) H) s.heap b u:=fun u hu=>
  (I.hok b u hu).stay (fun _ _ _ z=>z) (fun c z=>bP z (by intro _ z;cases z)) fun c xs z=>bP z (by intro _ z;cases z)
 unfold nu at q;split at q
 ·next vs hb=>
  split at q
  ·cases q;obtain⟨z,its,n,r,e⟩:=(show bo X.prog X.w H s.heap b (.lst vs)from I.hok b _ hb);exact⟨by dsimp only;rw[e];rfl,z,its,n,r,e⟩
  ·cases q;exact st _ hb
 ·exact st _ q
theorem aQ(h:SE X E e m):SE X E e (aV m):=by
 intro pins s σ H Q I ht;obtain⟨ι,S,ρ,rep,re,r,U,ee,k⟩:=ht;have Z:ji (m ρ) S=some (r,U):=ee;unfold ji at Z;cases q:m ρ S with
 |none=>rw[q]at Z;cases Z
 | some p=>
  obtain⟨r1,S'⟩:=p;rw[q]at Z;cases r1 with
  |ex x=>
   cases Z;exact h pins s σ H Q I ⟨ι,S,ρ,rep,re,.ex x,_,q,k⟩
  | ok d=>
   dsimp only at Z;by_cases hl:S'.length<=S.length
   ·rw[if_pos hl]at Z;cases Z;exact h pins s σ H Q I ⟨ι,S,ρ,rep,re,.ok d,_,q,k⟩
   ·rw [if_neg hl]at Z;by_cases hk:oH S S'
    ·rw [if_pos hk]at Z;cases z:iB S.length (vO S' S.length 60) d with
     |none=>rw[z]at Z;cases Z
     | some u=>
      rw[z]at Z;cases Z;refine dy (h pins s σ H (fun v H'=>∃ P:List Addr,∀ os,Q v (nu P os H')) I ⟨ι,S,ρ,rep,re,.ok d,S',q,fun ι' H' x rep' v rv=>?_⟩) fun uv s' ⟨v,H',I',rv,P,hq⟩=>?_
      ·refine⟨ι'.drop ι.length,fun os=>?_⟩;obtain⟨x2,rep2⟩:=AL rep x rep' hk os;have Y:Rep X.K ι (nu (ι'.drop ι.length) os H') (S'.take S.length):=by rw[<-rep.len];exact rep2
       have ht:ι'.take ι.length=ι:=by obtain⟨more,rfl⟩:=x.ids;simp
       have rel:RelD X.K ι (nu (ι'.drop ι.length) os H') u v:=by
        have:=AK (n:=ι.length) (os:=os) (fun k us a=>by rw[rep.len];exact CD rep' 60 k us a) rep'.nd rv (by rw[rep.len];exact z)
        rw[ht]at this;exact this
       exact k ι _ x2 Y v rel
      ·obtain⟨os,I2⟩:=Inv.fz I' P;exact⟨v,_,I2,rv,hq os⟩
    ·rw[if_neg hk]at Z;cases Z
end
end S3
namespace S4
open PySem PySem.Spec PyProof.Rows L2 S3
theorem Fz{A:Around}(hh:A.handled=none)(U:t≠it)(items:Array Value):
  Draws prog w A it [it,t] items.size (fun i v=>items[i]? =some v) (fun i h=>h.IsTupleIter it t i/\h.IsTuple t items) where
 live:=fun _ _ st=>let ⟨⟨o,ho,_⟩,_⟩:=st;⟨o,ho⟩
 frame:=fun _ _ _ st hk=>⟨st.1.at fun o e=>hk it (by simp) o e,let ⟨o,e,r⟩:=st.2;⟨o,hk t (by simp) o e,r⟩⟩
 item:=fun i s Q E hi st hQ=>i3 st.1 st.2 (x:=items[i]) (by simp[hi]) fun h' Y Z=>hQ _ h' s.toks (by simp[hi]) ⟨Y,let ⟨o,e,r⟩:=st.2;⟨o,Z.extBut _ _ U e,r⟩⟩ Z
 done:=fun s Q E st hE=>jZ hh st.1 st.2 (by simp) hE
theorem FA{A:Around}(hh:A.handled=none)(U:t≠it)(items:Array Value):
  Draws prog w A it [it,t] items.size (fun i v=>items[i]? =some v) (fun i h=>h.IsListIter it t i/\h.IsList t items) where
 live:=fun _ _ st=>let ⟨⟨o,ho,_⟩,_⟩:=st;⟨o,ho⟩
 frame:=fun _ _ _ st hk=>⟨st.1.at fun o e=>hk it (by simp) o e,let ⟨o,e,r⟩:=st.2;⟨o,hk t (by simp) o e,r⟩⟩
 item:=fun i s Q E hi st hQ=>wpAny_nextOf_list_item st.1 st.2 (x:=items[i]) (by simp[hi]) fun h' Y Z=>hQ _ h' s.toks (by simp[hi]) ⟨Y,let ⟨o,e,r⟩:=st.2;⟨o,Z.extBut _ _ U e,r⟩⟩ Z
 done:=fun s Q E st hE=>wpAny_nextOf_list_end hh st.1 st.2 (by simp) hE
def HM(rd:Hp->List V->Prop):It:=⟨fun i H=>∃ va,rd H va/\i<va.length,fun i H x H'=>∃ va p v,rd H va/\H p=none/\va[i]? =some v/\x= .ref p/\H'=upd H p (.tup [.int i,v]),fun i H=>∃ va,rd H va/\va.length<=i⟩
theorem qJ{P:Program}{w:World}{K:W.Frag}{a4:List Expr}{x1}{tp:Pos}{e it t:Addr}(U:e≠it)(b5:t≠e)(c4:t≠it){rd:Hp->List V->Prop}{sti:Nat->Heap->Prop}{sq:Array Value->Heap->Prop}
  (so:∀ i h,sti i h->∃ o,h.get? it=some o/\∀ v,o.data≠ .cell v) (sk:∀ i h h',sti i h->(∀ o,h.get? it=some o->h'.get? it=some o)->sti i h')
  (a6:∀(X:Cx) pins s σ H va,X.prog=P->X.w=w->X.K=K->L2.Inv X pins σ H s->rd H va->∃ its:List Value,bj va its/\sq its.toArray s.heap)
  (dr:∀(A:Around) (items:Array Value),A.handled=none->Draws P w A it [it,t] items.size (fun i v=>items[i]? =some v) (fun i h=>sti i h/\sq items h))
  (dn:∀(A:Around) (items:Array Value) (i:Nat) (s:Shared) (Q:Value->Shared->Prop) (E:Value->Shared->Prop),A.handled=none->sti i s.heap->sq items s.heap->items[i]? =none->
   (∀ h' e,Heap.ExtBut it s.heap h'->(∃ o,h'.get? e=some o/\o.cls= .type "StopIteration")->E (.ref e) {s with heap:=h'})->wpAny (model P w) A (Builtin.SmallTypes.nextOf (.ref it)) Q E s):
  Turn P w K (.Tuple a4 x1 tp) (HM rd) [e,it] e (fun i h=>(∃ old,IsEnum h e it i old)/\sti i h) where
 mem:=by simp
 obj:=fun i h st b hb=>by
  obtain⟨⟨old,he⟩,hs⟩:=st;simp only[List.mem_cons,List.not_mem_nil,or_false]at hb;rcases hb with rfl|rfl
  ·exact⟨_,he,fun v z=>by cases z⟩
  ·exact so i h hs
 keep:=fun i h h' st k=>by
  obtain⟨⟨old,he⟩,hs⟩:=st;exact⟨⟨old,k e (by simp) _ he⟩,sk i h h' hs fun o q=>k it (by simp) o q⟩
 item:=by
  intro X hP hw hK hc i pins s σ H E I hf st hg;subst hP hw hK;obtain⟨⟨old,he⟩,hs⟩:=st;obtain⟨va,hA,ga⟩:=hg;obtain⟨its,rv,pl⟩:=a6 X pins s σ H va rfl rfl rfl I hA;have hl:=rv.length;obtain⟨u1,c0,b2⟩:=rv.get (JL ga);have D:=dr X.A.in1 its.toArray (by show X.A.handled=none;exact I.ok.hd hc)
  refine wpAny_pyNext_enum_itemD D he ⟨hs,pl⟩ (by rw[JU];omega) U (by simp[U,Ne.symm b5]) fun x h' tk hx b1 c3 hT hz hk=>?_
  have Y:x=u1:=by
   have:its[i]? =some x:=by simpa using hx
   rw[c0]at this;exact(J8 this).symm
  subst Y;have c1:H s.heap.objs.size=none:=I.hok.fresh (JK _);have lt:∀{c o},s.heap.get? c=some o->s.heap.objs.size≠c:=fun e=>Lh (JO e);obtain⟨oi,b3,_⟩:=so i _ hs;refine⟨_,rfl,wpAny_letOwnedTupleGo_enum b1 fun O b0 Z=>?_⟩;have kk:∀ b o,b ∉ [e,it]->s.heap.get? b=some o->O.get? b=some o:=fun b o hb q=>by
   simp only[List.mem_cons,List.not_mem_nil,or_false,not_or]at hb;exact Z.extBut _ _ hb.1 (hk b o hb.1 hb.2 q)
  have b6:O.get? s.heap.objs.size=some {cls:=.type "tuple",data:=.seq #[.int i tk,x]}:=Z.extBut _ _ (lt he) hT;have I2:L2.Inv X pins σ (upd H s.heap.objs.size (.tup [.int i,va[i]])) {s with heap:=O,toks:=tk+1}:=r0 (o:=.tup [.int i,va[i]]) I hf kk (JK _) ⟨by show 2<=sizeLine;decide,[.int i tk,x],.cons ⟨tk,rfl⟩ (.cons b2 .nil),_,b6,rfl,_,rfl⟩
  refine⟨.ref s.heap.objs.size,_,I2,rfl,⟨va,_,_,hA,c1,JL ga,rfl,rfl⟩,⟨⟨_,b0⟩,sk _ _ _ c3.1 fun o q=>(Z.2 it (Ne.symm U)).trans q⟩,fun b hb=>?_⟩;obtain⟨ob,ho,_⟩:∃ ob,s.heap.get? b=some ob/\True:=by
   simp only[List.mem_cons,List.not_mem_nil,or_false]at hb;rcases hb with rfl|rfl
   ·exact⟨_,he,trivial⟩
   ·exact⟨_,b3,trivial⟩
  rw[aB (JT (JO ho))];exact(hf b hb).1
 done:=by
  intro X hP hw hK hc i pins s σ H E I hf st hg;subst hP hw hK;obtain⟨⟨old,he⟩,hs⟩:=st;obtain⟨va,hA,ga⟩:=hg;obtain⟨its,rv,pl⟩:=a6 X pins s σ H va rfl rfl rfl I hA;have hl:=rv.length;have hT:s.TypeIs (.ref e) "enumerate":=⟨_,he,rfl⟩;unfold pyNext;refine JG (LW (wpAny_callSpecial?_slot (name:=Str.ofString "__next__") hT F.slot_enumerate_next
   (KB F.slot_enumerate_next hT F.entry_enumerate_next ?_ (F.args_enumerate_next_1 _))))
  show wpAny _ _ (field (.ref e) 2>>=_) _ _ _;refine JG (KL he rfl (x:=.ref it) rfl ?_);refine JG (dn X.A.in1 its.toArray i s _ _ (by show X.A.handled=none;exact I.ok.hd hc) hs pl (by simp;omega) fun h' x c2 Y=>?_)
  obtain⟨o,ho,b4⟩:=Y;refine JG (LF (T:="StopIteration") (b:=true) ⟨o,ho,b4⟩ MA ?_);exact JJ ⟨rfl,rZ (t':=s.toks) I hf fun b o hb q=>c2 b o (fun z=>hb (by simp[z])) q⟩
 self:=fun _ _ _ _ _ st h=>by
  obtain⟨⟨old,he⟩,_⟩:=st;exact Nh he h
theorem ui(l:Addr)(items:Array Value):
  Meets (Builtin.«enumerate.__new__» ⟨[.type "enumerate",.ref l],[]⟩) (fun _ R s=>s.heap.IsTuple l items/\
   R (.ok (.ret (.ref (s.heap.push (BE l)).objs.size)))
    {s with heap:=(s.heap.push (BE l)).push {cls:=.type "enumerate",data:=.fields #[.none,.bool false,.ref s.heap.objs.size,rawInt 0,.none,.none]}}):=
 .of_wp fun prog w A R s h=>by
  obtain⟨hp,g,d,tk,os⟩:=s;obtain⟨hl,h⟩:=h;have Y:=sub_enumerate;have hL:Heap.IsTuple (Shared.heap ⟨hp,g,d,tk,os⟩) l items:=hl;obtain⟨⟨c,U,dt,sl⟩,Z,hc,n,hd⟩:=hl;replace hc:c= .type "tuple":=hc;replace hd:dt= .seq items n:=hd;subst hc hd
  wp_walk using Lr Z
  refine wpAny_stack_any fun st=>JJ ?_;split
  ·rename_i c _ _ _ _ _
   cases (c==Value.type "enumerate")
   ·wp_walk using Lr Z,Lc hL
    exact⟨_,rfl,h⟩
   ·wp_walk using Lr Z,Lc hL
    exact⟨_,rfl,h⟩
  ·wp_walk using Lr Z,Lc hL
   exact⟨_,rfl,h⟩
section
variable {prog:Program}{w:World}{A:Around}{E:Value->Shared->Prop}{s:Shared}
theorem vP{Q:Value->Shared->Prop}(hL:s.heap.IsTuple l items)
  (h:∀ h',IsEnum h' (s.heap.objs.size+1) s.heap.objs.size 0 .none->h'.IsTupleIter s.heap.objs.size l 0->(∀ b o,s.heap.get? b=some o->h'.get? b=some o)->Q (.ref (s.heap.objs.size+1)) {s with heap:=h'}):
  wpAny (model prog w) A (call (.type "enumerate") [.ref l]) Q E s:=by
 refine callType_new F.called_enumerate (by decide) (F.typeCall_enumerate_1 _) (F.newCall_enumerate_1 _) (fun obj=>F.args_object_init_2 obj _) F.entry_enumerate_new (ui l items) ⟨hL,?_⟩
 have hz:(s.heap.push (BE l)).objs.size=s.heap.objs.size+1:=KR ..;have g2:=JP (s.heap.push (BE l)) (o:={cls:=.type "enumerate",data:=.fields #[.none,.bool false,.ref s.heap.objs.size,rawInt 0,.none,.none]}) rfl;have g1:((s.heap.push (BE l)).push {cls:=.type "enumerate",data:=.fields #[.none,.bool false,.ref s.heap.objs.size,rawInt 0,.none,.none]}).get? s.heap.objs.size=some (BE l):=JH _ (JP _ rfl);show _/\_;rw[hz]at g2 ⊢;exact⟨⟨_,g2,rfl⟩,h _ g2 ⟨_,g1,rfl,rfl⟩ fun b o q=>JH _ (JH _ q)⟩
end
theorem CF{X:Cx}{Z:List Expr}{x1}{tp p pos:Pos}{e:Expr}{ta:TA}(hg:Gl X "enumerate")(hm:X.mg "enumerate"=none)(ha:PA X [e] ta)(hs:starEach [e] X.env=[(false,eval e X.env)]:=by rfl):
  PI X (.Tuple Z x1 tp) (.Call (.Name "enumerate" p) [e] [] pos) (fun σ H R=>ta σ H fun xs H1=>(∃ a va,xs=[.ref a]/\H1 a=some (.tup va)/\R (HM fun H vb=>H a=some (.tup vb)) H1)\/
   (∃ a va,xs=[.ref a]/\Rd H1 a (.lst va)/\R (HM fun H vb=>Rd H a (.lst vb)) H1)):=by
 intro pins s σ H R I h;refine Call_ (ko I hg hm (show bootBuiltins "enumerate"=some (.type "enumerate") by decide+kernel) (K1 (dy (ha pos pins s σ H _ I h) fun us s1 ⟨vs,H1,I1,r1,q1⟩=>?_) hs (by rfl)) (by decide) (by decide))
 have fresh:∀ c∈[s1.heap.objs.size+1,s1.heap.objs.size],s1.heap.objs.size<=c:=fun c hc=>by
  simp only[List.mem_cons,List.not_mem_nil,or_false]at hc;omega
 rcases q1 with⟨a,va,rfl,hA,q⟩|⟨a,va,rfl,hA,q⟩
 ·obtain⟨u,rfl,ru⟩:=vals1 r1;cases (show u=Value.ref a from ru);obtain⟨Y,U,p1,_⟩:=I1.tuple (.of hA);have a1:a<s1.heap.objs.size:=by obtain⟨_,e,_⟩:=p1;exact JO e
  refine vP p1 fun h' hE hi hk=>Nh hE ?_;refine⟨s1.heap.objs.size+1,_,_,_,H1,rfl,I1.kept (t':=s1.toks) hk,qJ (e:=s1.heap.objs.size+1) (it:=s1.heap.objs.size) (t:=a) (Nu _) (JT (KS a1)) (JT a1) (sti:=fun i h=>h.IsTupleIter s1.heap.objs.size a i) (sq:=fun its h=>h.IsTuple a its)
   (fun i h ⟨o,e,c,d⟩=>⟨o,e,fun v z=>by rw[d]at z;cases z⟩) (fun i h h' st k=>st.at k) (fun X pins s σ H va _ _ _ I hr=>let ⟨its,rv,p,_⟩:=I.tuple (.of hr);⟨its,rv,p⟩)
   (fun A items hh=>Fz hh (JT a1) items) (fun A items i s Q E hh h1 h2 h3 k=>jZ hh h1 h2 h3 k),⟨⟨_,hE⟩,hi⟩,fun c hc=>I1.fpOk (fresh c hc) (I1.hok.fresh (fresh c hc)),q⟩
 ·obtain⟨u,rfl,ru⟩:=vals1 r1;cases (show u=Value.ref a from ru);obtain⟨Y,U,p1,_⟩:=I1.list (.inl hA);have a1:a<s1.heap.objs.size:=by obtain⟨_,e,_⟩:=p1.isList;exact JO e
  refine call_enumerate_list p1.isList fun h' hE hi hz hk=>Nh hE ?_;refine⟨s1.heap.objs.size+1,_,_,_,H1,rfl,I1.kept (t':=s1.toks) hk,qJ (e:=s1.heap.objs.size+1) (it:=s1.heap.objs.size) (t:=a) (Nu _) (JT (KS a1)) (JT a1) (sti:=fun i h=>h.IsListIter s1.heap.objs.size a i) (sq:=fun its h=>h.IsList a its)
   (fun i h ⟨o,e,c,d⟩=>⟨o,e,fun v z=>by rw[d]at z;cases z⟩) (fun i h h' st k=>st.at k) (fun X pins s σ H va _ _ _ I hr=>let ⟨its,rv,p,_⟩:=I.list (.inl hr);⟨its,rv,p.isList⟩)
   (fun A items hh=>FA hh (JT a1) items) (fun A items i s Q E hh h1 h2 h3 k=>wpAny_nextOf_list_end hh h1 h2 h3 k),⟨⟨_,hE⟩,hi⟩,fun c hc=>I1.fpOk (fresh c hc) (I1.hok.fresh (fresh c hc)),q⟩
def mG(xs:List D):List D:=xs.zipIdx.map fun p=>.tup [.int p.2,p.1]
def DC:D->M Iter
 | .tup xs=>pure ⟨mG xs,.none⟩
 | .fz xs=>pure ⟨mG xs,.none⟩
 |_=>M.fail
theorem AM{xs:List D}{i:Nat}{d:D}(h:(mG xs)[i]? =some d):∃ x,xs[i]? =some x/\d= .tup [.int i,x]:=by
 unfold mG at h;rw[J6]at h;cases q:xs.zipIdx[i]? with
 |none=>rw[q]at h;cases h
 |some p=>
  rw[q]at h;cases h;rw[List.getElem?_zipIdx]at q;cases z:xs[i]? with
  |none=>rw[z]at q;cases q
  |some x=>rw[z]at q;cases q;exact⟨x,rfl,by simp⟩
theorem mH{K:W.Frag}{ι:List Addr}{H:Hp}{xs:List D}{rd:Hp->List V->Prop}(inj:∀ H va vb,rd H va->rd H vb->va=vb)
  (Z:∀ ι2 H2 S2,ExtN ι H ι2 H2->Rep K ι2 H2 S2->∃ va,rd H2 va/\RelDs K ι2 H2 xs va):iX K ⟨mG xs,.none⟩ (HM rd) ι H:=by
 intro ι2 H2 S2 e rep2 ok i;obtain⟨va,hA,rv⟩:=Z ι2 H2 S2 e rep2;have lx:=rv.length;refine⟨fun d hd=>?_,fun hlen=>⟨va,hA,by unfold mG at hlen;simp at hlen;omega⟩⟩
 obtain⟨x,h1,rfl⟩:=AM hd;have i1:=(JN.mp h1).1;refine⟨⟨va,hA,by omega⟩,?_⟩
 rintro v H3 ⟨va',p,v1,gA,hp,g1,rfl,rfl⟩;cases inj _ _ _ hA gA;obtain⟨v2,e2,r2⟩:=rv.get' h1;obtain rfl:v2=v1:=J8 (e2.symm.trans g1);have hE:Ext ι2 H2 ι2 (upd H2 p (.tup [.int i,v2])):=dQ hp;exact⟨hE,eY rep2 hp,.tup aN (.cons (.int _) (.cons (r2.later rep2 hE) .nil))⟩
theorem CG{X:Cx}{E:XD}{Z:List Expr}{x1}{tp p pos:Pos}{a:Expr}{m:TM}(hm:X.mg "enumerate"=none)(ha:SE X E a m)(hg:Gl X "enumerate":=by rfl)(hs:starEach [a] X.env=[(false,eval a X.env)]:=by rfl):
  SI X E (.Tuple Z x1 tp) (.Call (.Name "enumerate" p) [a] [] pos) (fun ρ=>do let x<-m ρ;DC x):=by
 intro pins s σ H R I h;refine CF hg hm (eJ ha jm hs) hs pins s σ H R I ?_;obtain⟨ι,S,ρ,rep,re,c⟩:=h;refine⟨ι,S,ρ,rep,re,ak (ai c) fun d ι1 S1 H1 e1 rep1 c1 v r=>?_⟩;show(∃ a va,[v]=[V.ref a]/\_)\/_;cases d with
 |tup xs=>
  obtain⟨a,vs,rfl,h1,h2⟩:=r.tup_inv;refine .inl ⟨a,vs,rfl,h1,ah c1 .refl rep1 _ (mH (fun H va vb e1 e2=>by rw[e1]at e2;cases e2;rfl) fun ι2 H2 S2 e rep2=>?_)⟩
  exact⟨vs,(e.oth _ _ h1 (rep1.notIn h1 (by intro _ z;cases z)) (by intro _ z;cases z) (by intro _ z;cases z)).1,h2.laterN rep1 e⟩
 |fz xs=>
  obtain⟨a,o,vs,rfl,h1,h2⟩:=r.fz_inv;refine .inr ⟨a,vs,rfl,.inr ⟨o,h1⟩,ah c1 .refl rep1 _ (mH (fun H va vb e1 e2=>Rd.lst_inj e1 e2) fun ι2 H2 S2 e rep2=>?_)⟩;exact⟨vs,.inr ⟨o,(e.oth _ _ h1 (rep1.notIn h1 (by intro _ z;cases z)) (by intro _ z;cases z) (by intro _ z;cases z)).1⟩,h2.laterN rep1 e⟩
 |_=>exact(ag c1).elim
abbrev w5(m:TM):aM->M Iter:=fun ρ=>do let x<-m ρ;DC x
end S4
namespace S3
open PySem PySem.Spec PyProof.Rows L2
section
variable {X:Cx}{E:XD}{a b e c o tg:Expr}{m n l:TM}{pos p2:Pos}{es:List Expr}{ms:aM->M (List D)}
end
end S3
section
namespace S3
open PySem PySem.Spec PyProof.Rows L2
section
variable {prog:Program}{w:World}{A:Around}{R:Result->Shared->Prop}{s:Shared}
theorem vQ
  (h0:codeAny (model prog w) A (.compLoop (.ListComp elt [c1,⟨target,iter,ifs,0⟩] scope pos) 1 it acc env) R s)
  (h:wpAny (model prog w) A (pyIter it) (fun Z s'=>codeAny (model prog w) A (.compLoop (.ListComp elt [c1,⟨target,iter,ifs,0⟩] scope pos) 1 Z acc env) R s')
   (notedBy (model prog w) A env fun x s'=>R (.error x) s') s):
  codeAny (model prog w) A (.compStart (.ListComp elt [c1,⟨target,iter,ifs,0⟩] scope pos) 1 it acc env) R s:=by
 refine MM ?_;show wpAny _ _ ((compStart (.ListComp elt [c1,⟨target,iter,ifs,0⟩] scope pos) 1 it acc env).onRaise (fun x=>do noteFrame x env;standAt theWindowsPlace)) _ _ s
 refine wpAny_notedAt ?_;unfold compStart;show wpAny _ _ (ask>>=_) _ _ s;refine JG (LD (wpAny_ite ?_));split
 ·first
   |exact JG (JJ (JJ (And.intro rfl h0)))
   |exact JJ (And.intro rfl h0)
 ·first
   |exact JG (Mc (JG (Ky (JG (Kb h (fun Z s' h'=>JJ (And.intro rfl h')) fun _ _ x=>x)))))
   |(refine JG (Mc ?_);show wpAny _ _ (standAt iter.pos>>=_) _ _ s;exact JG (Ky (JG (Kb h (fun Z s' h'=>JJ (And.intro rfl h')) fun _ _ x=>x))))
end
abbrev FB:=St->Hp->(St->Hp->Prop)->Prop
def xa(J:It)(g:TG)(tt:TT)(tb:FB)(fin:St->Hp->Prop):St->Hp->Prop:=fun σ H=>∃ W:Nat->Nat->St->Hp->Prop,(∃ m,W 0 m σ H)/\∀ i m σc Hc,W i m σc Hc->
  (J.stop i Hc/\fin σc Hc)\/(J.go i Hc/\∃ N:St->Hp->Prop,(∀ σ' H',N σ' H'->∃ m',m'<m/\W (i+1) m' σ' H')/\∀ x H',J.yld i Hc x H'->g x σc H' fun σ2 H2=>tt σ2 H2 fun b H3=>if b=true then tb σ2 H3 N else N σ2 H3)
def IZ(X:Cx)(bd:Sem Unit)(tb:FB):Prop:=∀(pins:List (Addr×Obj)) (s:Shared) (σ:St) (H:Hp) (N:St->Hp->Prop),Inv X pins σ H s->tb σ H N->∀ E,(∀ v s',X.xe v s'->E v s')->wpAny (model X.prog X.w) X.A bd (fun _ s'=>∃ σ' H',Inv X pins σ' H' s'/\N σ' H') E s
def vR(e:Expr)(d:Nat)(ipos:Pos)(tg:Expr)(ifs:List Expr)(it acc:Value)(env:Env)(bd:Sem Unit):Sem Fin:=do
 standAt ipos
 match<-pyNext it with
 |none=>pure (.done .next)
 | some v=>
  letOwnedTupleGo tg it v
  assign tg env v
  let mut ok:=true
  for c in ifs do
   if ok then ok<-isTrue c env (eval c env)
  if ok then bd
  again (.compLoop e d it acc env)
theorem Hj(elt tg iter tg2 iter2:Expr)(ifs ifs2:List Expr)(scope:Scope)(pos:Pos)(it acc:Value)(env:Env):
  compTurn (.ListComp elt [⟨tg,iter,ifs,0⟩,⟨tg2,iter2,ifs2,0⟩] scope pos) 0 it acc env=vR (.ListComp elt [⟨tg,iter,ifs,0⟩,⟨tg2,iter2,ifs2,0⟩] scope pos) 0 iter.pos tg ifs it acc env
  (do let x<-eval iter2 env;standAt iter2.pos;let x<-foldedSetIterable iter2 env x;let _<-runOwn (.compStart (.ListComp elt [⟨tg,iter,ifs,0⟩,⟨tg2,iter2,ifs2,0⟩] scope pos) 1 (<-holding [x] (pyIter x)) acc env) env):=by
 unfold compTurn vR;simp;rfl
section
variable {X:Cx}{pins:List (Addr×Obj)}{σ:St}{H:Hp}{s:Shared}
theorem uj{tn:Nat->Heap->Prop}{O:St->Hp->Prop}{R:Result->Shared->Prop}
  (Y:∀ v s',X.xe v s'->False) (hc:X.calm=true) (T:Turn X.prog X.w X.K tg J fp it tn) (hG:PG X tg g) (hT:BA X ifs tt) (hB:IZ X bd tb)
  (U:compTurn (.ListComp elt gens scope pos) d (.ref it) acc X.env=vR (.ListComp elt gens scope pos) d ipos tg ifs (.ref it) acc X.env bd)
  (I:Inv X pins σ H s) (st:tn 0 s.heap) (f:∀ b∈fp,jl X pins H b) (h:xa J g tt tb O σ H) (a4:∀ s' σ' H',Inv X pins σ' H' s'->O σ' H'->R (.ok .next) s'):
  codeAny (model X.prog X.w) X.A (.compLoop (.ListComp elt gens scope pos) d (.ref it) acc X.env) R s:=by
 obtain⟨W,⟨m0,w0⟩,turn⟩:=h;have Z:∀{H':Hp},(∀ b∈fp,H' b=none)->∀ b∈fp,jl X pins H' b:=fun hn b hb=>⟨hn b hb,(f b hb).2⟩;refine codeAny_loop rfl (fun n s'=>∃ i σ' H',Inv X pins σ' H' s'/\tn i s'.heap/\(∀ b∈fp,H' b=none)/\W i n σ' H') ?_ m0 ⟨0,_,_,I,st,fun b hb=>(f b hb).1,w0⟩;rintro n s4 ⟨i,σ4,H4,I4,st4,fr4,w4⟩;show wpAny _ X.A ((compTurn (.ListComp elt gens scope pos) d (.ref it) acc X.env).onRaise (fun x=>do noteFrame x X.env;theTreesLotGoes x)) _ _ s4
 refine wpAny_noted ?_;rw[U];refine JG (Ky (JG ?_));rcases turn i n σ4 H4 w4 with⟨stop,qn⟩|⟨go,N,hN,step⟩
 ·refine Kb (T.done X rfl rfl rfl hc i pins s4 σ4 H4 (fun _ _=>False) I4 (Z fr4) st4 stop) (fun r s5 ⟨hr,I5⟩=>?_) fun _ _ z=>z.elim;subst hr;exact JJ (a4 s5 σ4 H4 I5 qn)
 ·refine Kb (T.item X rfl rfl rfl hc i pins s4 σ4 H4 (fun _ _=>False) I4 (Z fr4) st4 go) (fun r s5 ⟨u,hr,h5⟩=>?_) fun _ _ z=>z.elim;subst hr;refine JG (Kb h5 (fun _ s6 ⟨x,H6,I6,r6,y6,st6,fr6⟩=>?_) fun _ _ z=>z.elim);have a6:=I6.pinned (Z fr6) (T.obj _ _ st6);refine JG (Kb (hG _ s6 σ4 H6 x u _ a6 r6 (step x H6 y6)) (fun _ s7 ⟨σ7,H7,I7,q7⟩=>?_) fun _ _ z=>(Y _ _ z).elim);refine JG (Kb (hT _ s7 σ7 H7 _ I7 q7) (fun b s8 ⟨H8,I8,q8⟩=>?_) fun _ _ z=>(Y _ _ z).elim);have again:∀{σ9:St} {H9:Hp} {s9:Shared},Inv X (pins++lI fp s6.heap) σ9 H9 s9->N σ9 H9->
    ∃ m,m<n/\∃ i σ' H',Inv X pins σ' H' s9/\tn i s9.heap/\(∀ b∈fp,H' b=none)/\W i m σ' H':=fun{σ9 H9 s9} I9 n9=>by
   obtain⟨m',hm,w9⟩:=hN σ9 H9 n9;refine⟨m',hm,i+1,σ9,H9,I9.unpinned,T.keep _ _ _ st6 fun b hb o e=>(I9.pin (b,o) (J1 _ (J1 _ (fH hb e)))).1,fun b hb=>?_,w9⟩;obtain⟨o,e,d⟩:=T.obj _ _ st6 b hb;exact(I9.pin (b,o) (J1 _ (J1 _ (fH hb e)))).2.1
  cases b with
  |false=>exact JJ ⟨rfl,again I8 q8⟩
  |true=>exact JG (Kb (hB _ s8 σ7 H8 N I8 q8 (fun _ _=>False) fun _ _ z=>(Y _ _ z).elim) (fun _ s9 ⟨σ9,H9,I9,q9⟩=>JJ ⟨rfl,again I9 q9⟩) fun _ _ z=>z.elim)
def yt(p:Addr)(te:TE):FB:=fun σ H N=>te σ H fun y H4=>∃ xs,H4 p=some (.lst xs)/\xs.length<sizeLine/\N σ (upd H4 p (.lst (xs++[y])))
theorem CH(hE:PE X elt te):IZ X (do let _<-call (.builtin "list.append") [.ref p, <-eval elt X.env]) (yt p te):=by
 intro pins s σ H N I h E hx;refine JG (Kb (hE _ s σ H _ I h) (fun y s9 ⟨yv,H9,I9,r9,q9⟩=>?_) hx);obtain⟨xs,Z,hl,n9⟩:=q9;refine JG (Kb (lJ (X:=X) _ s9 σ H9 (.ref p) [yv] (.ref p) [y] (fun _ H'=>N σ H') I9 rfl (.cons r9 .nil) ⟨p,xs,yv,rfl,rfl,Z,hl,n9⟩) (fun _ s10 ⟨_,H10,I10,_,q10⟩=>?_) hx);exact JJ ⟨σ,H10,I10,q10⟩
def HN(wi:TI)(g:TG)(tt:TT)(tb:FB):FB:=fun σ H N=>wi σ H fun J H1=>xa J g tt tb N σ H1
theorem FC(Z:∀ v s',X.xe v s'->False)(hc:X.calm=true)(hi:PI X tg iter wi)(hG:PG X tg g)(hT:BA X ifs tt)(hE:PE X elt te)
  (hs:∀ x,foldedSetIterable iter X.env x=pure x):
  IZ X (do let x<-eval iter X.env;standAt iter.pos;let x<-foldedSetIterable iter X.env x;let _<-runOwn (.compStart (.ListComp elt [c1,⟨tg,iter,ifs,0⟩] scope pos) 1 (<-holding [x] (pyIter x)) (.ref p) X.env) X.env) (HN wi g tt (yt p te)):=by
 intro pins s σ H N I h E hx;refine JG (Kb (hi pins s σ H _ I h) (fun v s1 h1=>?_) hx);refine JG (Ky (JG (NF (hs v) (JG (Ko (Kb h1 (fun Y s2 h2=>?_) hx))))));obtain⟨it,fp,tn,J,H2,e,I2,T,gm,f2,hW⟩:=h2;subst e;have loop:codeAny (model X.prog X.w) X.A (.compLoop (.ListComp elt [c1,⟨tg,iter,ifs,0⟩] scope pos) 1 (.ref it) (.ref p) X.env) (fun r s'=>match r with| .ok f=>wpAny (model X.prog X.w) X.A (pure ()) (fun _ s'=>∃ σ' H',Inv X pins σ' H' s'/\N σ' H') E s'| .error e=>cameBackBy (model X.prog X.w) X.A X.env E e s') s2:=
  uj (ipos:=iter.pos) Z hc T hG hT (CH hE) (by rfl) I2 gm f2 hW fun s' σ' H' I' n'=>JJ ⟨σ',H',I',n'⟩
 exact JG (wpAny_runOwn (vQ loop (T.self _ 0 _ _ _ gm loop)))
end
end S3
namespace S3
open PySem PySem.Spec PyProof.Rows L2
def AN(wi:TI)(js:List (Option Nat))(g:TG)(tt:TT)(tb:Addr->FB):TE:=fun σ H Q=>wi σ H fun J H1=>∀ p,H1 p=none->xa J g tt (tb p) (fun _ H'=>Q (.ref p) H') (mR js σ) (upd H1 p (.lst []))
section
variable {X:Cx}{scope:Scope}{Nc:List Str}{js:List (Option Nat)}{pins:List (Addr×Obj)}{σ:St}{H:Hp}{s:Shared}
theorem AO(c:CompScope X scope Nc js)(hc:X.calm=true)(hi:PI X tg iter wi)
  (b5:∀ C ex s H,PG (aX X scope Nc C ex s H) tg g/\BA (aX X scope Nc C ex s H) ifs tt/\PI (aX X scope Nc C ex s H) tg2 iter2 wi2/\PG (aX X scope Nc C ex s H) tg2 g2/\BA (aX X scope Nc C ex s H) ifs2 tt2/\PE (aX X scope Nc C ex s H) elt te)
  (hs:∀ x,foldedSetIterable iter X.env x=pure x:=by intro _;rfl) (b2:∀ env x,foldedSetIterable iter2 env x=pure x:=by intro _ _;rfl):
  PE X (.ListComp elt [⟨tg,iter,ifs,0⟩,⟨tg2,iter2,ifs2,0⟩] scope pos) (AN wi js g tt fun p=>HN wi2 g2 tt2 (yt p te)):=by
 intro pins s σ H Q I h;rw[eval_ListComp];refine wpAny_comprehension_free rfl hs (iT scope X.env (c.has I.ok)) c.kind c.loc (dy (hi pins s σ H _ I h) fun v s1 h1=>dy h1 fun c6 s2 h2=>?_);obtain⟨it,fp,tn,J,H2,e,I2,T,gm,f2,hW⟩:=h2;subst e;refine Kq (qp fun h1 Y O Z=>?_);dsimp only at Y O Z ⊢;have hW:=hW s2.heap.objs.size (I2.hok.fresh (JK _));have I3:Inv X pins σ (upd H2 s2.heap.objs.size (.lst [])) {s2 with heap:=s2.heap.push {cls:=.type "list",dict:=none,data:=.seq ([]:List Value).toArray}}:=
  I2.laid (t':=s2.toks) (fun _ _ q=>JH _ q) (JK _) ⟨J4 _,[],0,.nil,JP _ rfl⟩
 generalize hS3:({s2 with heap:=s2.heap.push {cls:=.type "list",dict:=none,data:=.seq ([]:List Value).toArray}}:Shared)=s3 at I3;have e3:s3.heap=s2.heap.push {cls:=.type "list",dict:=none,data:=.seq ([]:List Value).toArray}:=by rw[<-hS3]
 rw[<-e3]at Y O Z ⊢;generalize hp:s2.heap.objs.size=p at*;have b1:∀ b∈fp,b<p:=fun b hb=>by
  obtain⟨o,e,_⟩:=T.obj _ _ gm b hb;rw[<-hp];exact JO e
 have b6:∀ b∈fp,b≠p:=fun b hb=>JT (b1 b hb);have f3:∀ b∈fp,jl X pins (upd H2 p (.lst [])) b:=fun b hb=>⟨by rw[aB (b6 b hb)];exact(f2 b hb).1,(f2 b hb).2⟩
 have a6:s3.heap.objs.size=p+1:=by rw[e3,KR,hp]
 have b0:∀ b∈fp,b<s3.heap.objs.size:=fun b hb=>by rw[a6];exact KS (b1 b hb)
 have U:∀ b o,s3.heap.get? b=some o->h1.get? b=some o:=O;have b3:tn 0 h1:=T.keep _ _ _ gm fun b hb o e=>U b o (by rw[e3];exact JH _ e)
 generalize hC:s3.heap.objs.size=C at*;have c0:h1.Ns C (fun _=>none):=by simpa using Y
 have start:∀ tk,Inv (aX X scope Nc C fp s3 (upd H2 p (.lst []))) [] (mR js σ) (upd H2 p (.lst [])) {s3 with heap:=h1,toks:=tk}:=fun tk=>nR c I3 f3 (fun b hb=>by rw[hC];exact b0 b hb) hC.symm c0 U Z
 have ok:=(start 0).ok;have a4:∀ b∈fp,jl (aX X scope Nc C fp s3 (upd H2 p (.lst []))) [] (upd H2 p (.lst [])) b:=fun b hb=>
  ⟨(f3 b hb).1,(ok.exf b hb).1,ok.exfs b hb,.inl hb,(ok.exf b hb).2,fun _ z=>nomatch z⟩
 obtain⟨hG,hT,c3,c4,c2,hE⟩:=b5 C fp s3 (upd H2 p (.lst []));have loop:∀ s':Shared,Inv (aX X scope Nc C fp s3 (upd H2 p (.lst []))) [] (mR js σ) (upd H2 p (.lst [])) s'->tn 0 s'.heap->
   codeAny (model X.prog X.w) X.A (.compLoop (.ListComp elt [⟨tg,iter,ifs,0⟩,⟨tg2,iter2,ifs2,0⟩] scope pos) 0 (.ref it) (.ref p) (aX X scope Nc C fp s3 (upd H2 p (.lst []))).env) (compPost (model X.prog X.w) X.A X.xe none (EP X pins σ Q) (.ref p) C) s':=by
  intro s' I' c5;refine uj (X:=aX X scope Nc C fp s3 (upd H2 p (.lst []))) (ipos:=iter.pos) (fun _ _ z=>z) hc T hG hT (FC (c1:=⟨tg,iter,ifs,0⟩) (scope:=scope) (pos:=pos) (fun _ _ z=>z) hc c3 c4 c2 hE (b2 _)) (Hj ..) I' c5 a4 hW fun s5 σ5 H5 I5 q5=>?_;obtain⟨m,hm,_⟩:=I5.loc;exact⟨m,hm,fun h2 b4=>⟨.ref p,H5,tx I3 hC.symm f3 I5 b4,rfl,q5⟩⟩
 refine codeAny_compStart_list (loop _ ?_ ?_) (T.self _ 0 _ _ _ ?_ (loop _ ?_ ?_))
 all_goals first
  |exact b3
  |(subst hS3;exact start _)
end
end S3
end
namespace S3
open PySem PySem.Spec PyProof.Rows L2
abbrev BM:=aM->M (List D×aM)
def cB(it:Iter)(g:lM)(t:aM->M Bool)(bd:BM):List D->aM->M (List D×aM)
 |[],ρ=>do gp it;pure ([],ρ)
 | d::ds,ρ=>do
  gp it
  let ρ1<-g d ρ;let b<-t ρ1
  if b=true then do
   let x<-bd ρ1;let y<-cB it g t bd ds x.2
   pure (x.1++y.1,y.2)
  else cB it g t bd ds ρ1
def vS(m:TM):BM:=fun ρ=>do let y<-m ρ;pure ([y],ρ)
def CI(mi:aM->M Iter)(g:lM)(t:aM->M Bool)(m:TM):BM:=fun ρ=>do let it<-mi ρ;if it.items.length<=3000 then cB it g t (vS m) it.items ρ else M.fail
abbrev iq(mi:aM->M Iter)(g:lM)(t:aM->M Bool)(mi2:aM->M Iter)(g2:lM)(t2:aM->M Bool)(m:TM)(js:List (Option Nat)):TM:=fun ρ=>do
 let it<-mi ρ;let x<-(if it.items.length<=3000 then cB it g t (CI mi2 g2 t2 m) it.items (iG js ρ)else M.fail)
 bD x.1
section
variable {K:W.Frag}{p:Addr}{Q:D->List Addr->aA->Hp->Prop}
structure MkL(K:W.Frag)(p:Addr)(ι:List Addr)(S:aA)(ρ:aM)(σ:St)(H:Hp)(xs:List D):Prop where
 rep:Rep K ι (cK H p) S
 re:RelE K ι (cK H p) ρ σ
 lst:∃ vs,H p=some (.lst vs)/\RelDs K ι (cK H p) xs vs
 out:p ∉ ι
abbrev KM:=List D->aM->M D
def AQ(K:W.Frag)(p:Addr)(Q:D->List Addr->aA->Hp->Prop)(B:Nat)(bd:BM)(tb:FB):Prop:=
 ∀ ι S ρ σ H xs (k:KM) (N:St->Hp->Prop) (n:Nat),MkL K p ι S ρ σ H xs->xs.length<=n->n+B<=lim->cont K cb (bd ρ>>=fun x=>k (xs++x.1) x.2) ι S (cK H p) Q->
  (∀ ι' S' ρ' σ' H' xs',MkL K p ι' S' ρ' σ' H' xs'->xs'.length<=n+B->Ext ι (cK H p) ι' (cK H' p)->cont K cb (k xs' ρ') ι' S' (cK H' p) Q->N σ' H')->tb σ H N
theorem FD:AQ K p Q 1 (vS m) (yt p (tM K cb m)):=by
 intro ι S ρ σ H xs k N n mk hl hn c hN;obtain⟨vs,hp,rx⟩:=mk.lst;have c':cont K cb (m ρ>>=fun y=>k (xs++[y]) ρ) ι S (cK H p) Q:=by
  have:(vS m ρ>>=fun x=>k (xs++x.1) x.2)=(m ρ>>=fun y=>k (xs++[y]) ρ):=by
   show((m ρ>>=fun y=>pure ([y],ρ))>>=_)=_;rw[cH];rfl
  rw[<-this];exact c
 refine⟨ι,S,ρ,mk.rep.unhide,mk.re.unhide,ak (fK (E:=cb) (ai c') hp mk.out) fun y ι6 S6 H6 e6 rep6 ⟨hp6,hn6,c7⟩ yv ry=>?_⟩;have Z:Ext ι (cK H p) ι6 (cK H6 p):=e6.hide;have Y:=rx.later mk.rep Z;have U:vs.length<sizeLine:=by rw[<-Y.length];exact Nat.lt_of_le_of_lt (by omega) zG
 refine⟨vs,hp6,U,hN ι6 S6 ρ σ _ (xs++[y]) ⟨?_,?_,⟨vs++[yv],aN,?_⟩,hn6⟩ (by simp;omega) ?_ ?_⟩
 ·rw[dI];exact rep6.hide hp6 hn6
 ·rw[dI];exact(mk.re.unhide.later mk.rep.unhide e6).hide hp6
 ·rw[dI];exact Y.append (.cons (ry.hide hp6) .nil)
 ·rw[dI];exact Z
 ·rw[dI];exact c7
theorem uk{k:KM}{b2:St->Hp->Prop}(hJ:iX K it J ι1 H1)(hB:AQ K p Q B bd tb)
  (mk:MkL K p ι S ρ σ H xs) (e1:∀ ι2 Hc,Ext ι (cK H p) ι2 (cK Hc p)->ExtN ι1 H1 ι2 Hc) (hl:xs.length<=n) (hn:n+it.items.length*B<=lim) (c:cont K cb (cB it g t bd it.items ρ>>=fun x=>k (xs++x.1) x.2) ι S (cK H p) Q)
  (hf:∀ ι' S' ρ' σ' H' xs',MkL K p ι' S' ρ' σ' H' xs'->xs'.length<=n+it.items.length*B->Ext ι (cK H p) ι' (cK H' p)->cont K cb (k xs' ρ') ι' S' (cK H' p) Q->b2 σ' H'):
  xa J (BC K cb g) (xP K cb t) tb b2 σ H:=by
 refine⟨fun i m σc Hc=>∃ ι2 S2 ρ2 xs2,m=it.items.length - i/\i<=it.items.length/\MkL K p ι2 S2 ρ2 σc Hc xs2/\xs2.length<=n+i*B/\Ext ι (cK H p) ι2 (cK Hc p)/\
  cont K cb (cB it g t bd (it.items.drop i) ρ2>>=fun x=>k (xs2++x.1) x.2) ι2 S2 (cK Hc p) Q,⟨_,ι,S,ρ,xs,rfl,J4 _,mk,by omega,.refl,c⟩,?_⟩
 rintro i m σc Hc ⟨ι2,S2,ρ2,xs2,hm,hi',mk2,hl2,e2,c2⟩;by_cases hlt:i<it.items.length
 ·have hd:it.items.drop i=it.items[i]::it.items.drop (i+1):=L6 hlt;rw[hd]at c2;have Z:cont K cb (gp it>>=fun _=>g it.items[i] ρ2>>=fun ρ1=>t ρ1>>=fun b=>if b=true then bd ρ1>>=fun x=>(cB it g t bd (it.items.drop (i+1)) x.2>>=fun y=>k (xs2++x.1++y.1) y.2)else cB it g t bd (it.items.drop (i+1)) ρ1>>=fun x=>k (xs2++x.1) x.2) ι2 S2 (cK Hc p) Q:=by
   have:(cB it g t bd (it.items[i]::it.items.drop (i+1)) ρ2>>=fun x=>k (xs2++x.1) x.2)=(gp it>>=fun _=>g it.items[i] ρ2>>=fun ρ1=>t ρ1>>=fun b=>if b=true then bd ρ1>>=fun x=>(cB it g t bd (it.items.drop (i+1)) x.2>>=fun y=>k (xs2++x.1++y.1) y.2)else cB it g t bd (it.items.drop (i+1)) ρ1>>=fun x=>k (xs2++x.1) x.2):=by
    show((gp it>>=fun _=>g it.items[i] ρ2>>=fun ρ1=>t ρ1>>=fun b=>if b=true then bd ρ1>>=fun x=>cB it g t bd (it.items.drop (i+1)) x.2>>=fun y=>pure (x.1++y.1,y.2)else cB it g t bd (it.items.drop (i+1)) ρ1)>>=fun x=>k (xs2++x.1) x.2)=_;simp only[cH,wq,ay,List.append_assoc]
   rw[<-this];exact c2
  obtain⟨ok,c3⟩:=iF Z mk2.rep;obtain⟨d0,d1⟩:=hJ ι2 Hc S2 (e1 _ _ e2) mk2.rep.unhide ok i;obtain⟨go,yl⟩:=d0 it.items[i] (JL hlt);have U:n+i*B+B<=lim:=by
   have:(i+1)*B<=it.items.length*B:=Nat.mul_le_mul_right _ hlt;rw[LU]at this;omega
  refine .inr ⟨go,fun σ' H'=>∃ ι3 S3 ρ3 xs3,MkL K p ι3 S3 ρ3 σ' H' xs3/\xs3.length<=n+(i+1)*B/\Ext ι (cK H p) ι3 (cK H' p)/\cont K cb (cB it g t bd (it.items.drop (i+1)) ρ3>>=fun x=>k (xs3++x.1) x.2) ι3 S3 (cK H' p) Q,?_,fun x H3 hy=>?_⟩
  ·rintro σ' H' ⟨ι3,S3,ρ3,xs3,h1,h2,h3,h4⟩;exact⟨_,by omega,ι3,S3,ρ3,xs3,rfl,hlt,h1,h2,h3,h4⟩
  ·obtain⟨e3,rep3,rd⟩:=yl x H3 hy;obtain⟨vs,b3,rx⟩:=mk2.lst;have a6:=mk2.out;obtain⟨c1,_⟩:=e3.oth p _ b3 a6 (by intro _ z;cases z)
   have b1:Ext ι2 (cK Hc p) ι2 (cK H3 p):=e3.hide;have c4:=ai (fJ c3 b1);refine⟨ι2,S2,ρ2,it.items[i],rep3,mk2.re.unhide.later mk2.rep.unhide e3,rd,ak (fK (E:=cb) c4 c1 a6) fun ρ4 ι4 S4 H4 e4 rep4 ⟨hp4,hn4,c5⟩ σ4 re4=>?_⟩;have b4:Rep K ι4 (cK H4 p) S4:=rep4.hide hp4 hn4;have c0:Ext ι2 (cK Hc p) ι4 (cK H4 p):=b1.trans e4.hide;refine⟨ι4,S4,ρ4,rep4,re4,ak (fK (E:=cb) (ai c5) hp4 hn4) fun b ι5 S5 H5 e5 rep5 ⟨hp5,hn5,c6⟩=>?_⟩;have O:Rep K ι5 (cK H5 p) S5:=rep5.hide hp5 hn5;have Y:Ext ι2 (cK Hc p) ι5 (cK H5 p):=c0.trans e5.hide;have b5:RelE K ι5 H5 ρ4 σ4:=re4.later rep4 e5;have b0:MkL K p ι5 S5 ρ4 σ4 H5 xs2:=⟨O,b5.hide hp5,⟨vs,hp5,rx.later mk2.rep Y⟩,hn5⟩;cases b with
   |false=>
    have a4:cont K cb (cB it g t bd (it.items.drop (i+1)) ρ4>>=fun x=>k (xs2++x.1) x.2) ι5 S5 (cK H5 p) Q:=c6;exact⟨ι5,S5,ρ4,xs2,b0,by rw[LU];omega,e2.trans Y,a4⟩
   |true=>
    have a4:cont K cb (bd ρ4>>=fun x=>(fun ys ρ'=>cB it g t bd (it.items.drop (i+1)) ρ'>>=fun y=>k (ys++y.1) y.2) (xs2++x.1) x.2) ι5 S5 (cK H5 p) Q:=c6;refine hB ι5 S5 ρ4 σ4 H5 xs2 (fun ys ρ'=>cB it g t bd (it.items.drop (i+1)) ρ'>>=fun y=>k (ys++y.1) y.2) _ (n+i*B) b0 hl2 U a4 fun ι6 S6 ρ6 σ6 H6 xs6 mk6 hl6 e6 c7=>?_;exact⟨ι6,S6,ρ6,xs6,mk6,by rw[LU];omega,e2.trans (Y.trans e6),c7⟩
 ·have hd:it.items.drop i=[]:=Mq (by omega)
  rw[hd]at c2;have Z:cont K cb (gp it>>=fun _=>k (xs2++[]) ρ2) ι2 S2 (cK Hc p) Q:=by
   have:(cB it g t bd [] ρ2>>=fun x=>k (xs2++x.1) x.2)=(gp it>>=fun _=>k (xs2++[]) ρ2):=by
    show((gp it>>=fun _=>pure ([],ρ2))>>=fun x=>k (xs2++x.1) x.2)=_;simp only[cH,ay]
   rw[<-this];exact c2
  obtain⟨ok,c3⟩:=iF Z mk2.rep;rw[Kd]at c3;have b6:i=it.items.length:=by omega
  refine .inl ⟨(hJ ι2 Hc S2 (e1 _ _ e2) mk2.rep.unhide ok i).2 (by omega),?_⟩
  exact hf ι2 S2 ρ2 σc Hc xs2 mk2 (by rw[<-b6];exact hl2) e2 c3
theorem Ext.unhideP{H:Hp}(e:Ext ι (cK H p) ι' (cK H' p))(hp:H p=some (.lst ws)):ExtN ι H ι' H':=
 ⟨e.ids,fun a o h n t l=>by
  have Z:a≠p:=fun z=>by subst z;rw[hp]at h;exact l ws (J8 h).symm
  obtain⟨h1,h2⟩:=e.oth a o (by rw[hide_ne Z];exact h) n t
  exact⟨(cw h1).2,h2⟩⟩
theorem Hk:AQ K p Q 3000 (CI mi g t m) (HN (F7 K cb mi) (BC K cb g) (xP K cb t) (yt p (tM K cb m))):=by
 intro ι S ρ σ H xs k N n mk hl hn c hN;obtain⟨vs,hp,rx⟩:=mk.lst;have c':cont K cb (mi ρ>>=fun it=>(if it.items.length<=3000 then cB it g t (vS m) it.items ρ else M.fail)>>=fun x=>k (xs++x.1) x.2) ι S (cK H p) Q:=by
  have:(CI mi g t m ρ>>=fun x=>k (xs++x.1) x.2)=(mi ρ>>=fun it=>(if it.items.length<=3000 then cB it g t (vS m) it.items ρ else M.fail)>>=fun x=>k (xs++x.1) x.2):=by
   show((mi ρ>>=fun it=>_)>>=_)=_;rw[cH]
  rw[<-this];exact c
 refine⟨ι,S,ρ,mk.rep.unhide,mk.re.unhide,ak (fK (E:=cb) (ai c') hp mk.out) fun it ι1 S1 H1 e1 rep1 ⟨hp1,hn1,c1⟩ J hJ=>?_⟩;have Z:Ext ι (cK H p) ι1 (cK H1 p):=e1.hide;have Y:MkL K p ι1 S1 ρ σ H1 xs:=⟨rep1.hide hp1 hn1,(mk.re.unhide.later mk.rep.unhide e1).hide hp1,⟨vs,hp1,rx.later mk.rep Z⟩,hn1⟩;by_cases h:it.items.length<=3000
 ·rw[if_pos h]at c1;exact uk (k:=k) hJ FD Y (fun ι2 Hc e=>e.unhideP hp1) hl (by omega) c1 fun ι' S' ρ' σ' H' xs' mk' hl' e' c''=>hN ι' S' ρ' σ' H' xs' mk' (by omega) (Z.trans e') c''
 ·rw[if_neg h]at c1;exact(ag (ai c1)).elim
section
variable {X:Cx}{scope:Scope}{Nc:List Str}{js:List (Option Nat)}{elt tg iter tg2 iter2:Expr}{ifs ifs2:List Expr}{pos:Pos}{mi mi2:aM->M Iter}{g g2:lM}{t t2:aM->M Bool}{m:TM}
theorem yu{σ:St}{H:Hp}{Q:VK}(h:tM X.K cb (iq mi g t mi2 g2 t2 m js) σ H Q):
  AN (F7 X.K cb mi) js (BC X.K cb g) (xP X.K cb t) (fun p=>HN (F7 X.K cb mi2) (BC X.K cb g2) (xP X.K cb t2) (yt p (tM X.K cb m))) σ H Q:=by
 obtain⟨ι,S,ρ,rep,re,c⟩:=h;refine⟨ι,S,ρ,rep,re,ak (ai c) fun it ι1 S1 H1 e1 rep1 c1 J hJ p hp=>?_⟩;by_cases hl:it.items.length<=3000
 ·rw[if_pos hl]at c1;have hu:cK (upd H1 p (.lst [])) p=H1:=by rw[dI,gG hp]
  refine uk (K:=X.K) (p:=p) (Q:=kq X.K Q) (n:=0) (xs:=[]) (k:=fun xs _=>bD xs) (S:=S1) (ρ:=iG js ρ) hJ Hk ⟨by rw[hu];exact rep1,by rw[hu];exact(re.later rep e1).blk js,⟨[],aN,by rw[hu];exact .nil⟩,rep1.free hp⟩
   (fun ι2 Hc e=>by rw[hu]at e;exact e.unhide.n) (J4 _) (by unfold lim;omega) (by rw[hu];exact c1) fun ι' S' ρ' σ' H' xs' mk' hl' e' c'=>?_
  obtain⟨vs,Z,rx⟩:=mk'.lst;have:=(bS c' mk'.rep rx).2 p jT;rw[tG Z]at this;exact this
 ·rw[if_neg hl]at c1;exact(ag (ai c1)).elim
theorem um(c:CompScope X scope Nc js)(hc:X.calm=true)(hi:SI X cb tg iter mi)
  (Z:∀ C ex s H,SG (aX X scope Nc C ex s H) cb tg g/\F8 (aX X scope Nc C ex s H) cb ifs t/\SI (aX X scope Nc C ex s H) cb tg2 iter2 mi2/\SG (aX X scope Nc C ex s H) cb tg2 g2/\F8 (aX X scope Nc C ex s H) cb ifs2 t2/\SE (aX X scope Nc C ex s H) cb elt m)
  (hs:∀ x,foldedSetIterable iter X.env x=pure x:=by intro _;rfl) (Y:∀ env x,foldedSetIterable iter2 env x=pure x:=by intro _ _;rfl):
  SE X cb (.ListComp elt [⟨tg,iter,ifs,0⟩,⟨tg2,iter2,ifs2,0⟩] scope pos) (iq mi g t mi2 g2 t2 m js):=
 PE.imp (AO (wi2:=F7 X.K cb mi2) (g:=BC X.K cb g) (tt:=xP X.K cb t) (g2:=BC X.K cb g2) (tt2:=xP X.K cb t2) (te:=tM X.K cb m) c hc hi Z hs Y) fun _ _ _ q=>yu q
end
end
end S3
namespace S7
open PySem PySem.Spec PyProof.Rows L2 S3
section
open Sem (wp)
section
variable {prog:Program}{w:World}{A:Around}{E:Value->Shared->Prop}{h:Heap}{g:Array GenState}{d:Drawn}{t:Nat}{os:OsState}
variable {nm q:Str}{C N:Addr}{bs bm bmB:List Value}{hdct:Bool}{sn:List Str}{sub:List Value}{ab:Bool}{col:Option Bool}{dd:Option Addr}{k0 k1 k2 k3 k5:Option Value}{B Bn newId nid initId inN:String}{bmN:List Value}
theorem mX(Fn:ExcBaseFacts Bn newId inN bmN)(U:bmB.contains (.type Bn)=true)(F:ExcBaseFacts B nid initId bmB)(T:OwnTail h bmB bm){mN:Str->Option Value}{rest:List Value}{fI:Addr}{oI:Obj}{Q:Fin->Shared->Prop}
  (hC:h.get? C=some (excClassObj nm q C N bs bm hdct sn sub ab col dd k0 k1 k2 k3 k5 newId)) (hn:h.Ns N mN) (hi:mN "__init__"=some (.ref fI)) (b1:h.get? fI=some oI) (a4:oI.cls= .type "function")
  (hq:∀ h' e,Heap.MadeExcOf h h' e (.ref C) rest->
   wpAny (model prog w) A (call (.ref fI) (.ref e::rest)) (fun r s'=>r= .none/\Q (.done (.ret (.ref e))) s') E ⟨h',g,d,t,os⟩) (hrest:rest.length<=sizeLine:=by size_fits):
  wpAny (model prog w) A (Builtin.«type.__call__» ⟨.ref C::rest,[]⟩) Q E ⟨h,g,d,t,os⟩:=by
 repeat (first|with_reducible refine LX hC ?_ |with_reducible refine wpAny_madeBy_exc hC ?_ |wp_step)
 refine codeAny_call_builtin_code (MZ _ Fn.quiet) (wpAny_check_new_subU Fn U T hC ?_);refine codeAny_exc_new_subU Fn U F T hC ?_ hrest;show wpAny _ _ _ _ _ _;have O:=JH {cls:=.ref C,data:=.fields #[.ref h.objs.size,.none,.none,.none,.bool false,.none]}
  (JH {cls:=.type "tuple",data:=.seq rest.toArray} hC)
 have Y:=JH {cls:=.ref C,data:=.fields #[.ref h.objs.size,.none,.none,.none,.bool false,.none]}
  (JH {cls:=.type "tuple",data:=.seq rest.toArray} b1)
 have b0:((h.push {cls:=.type "tuple",data:=.seq rest.toArray}).push {cls:=.ref C,data:=.fields #[.ref h.objs.size,.none,.none,.none,.bool false,.none]}).Ns N mN:=
  let ⟨o,es,ep,e,r⟩:=hn;⟨o,es,ep,JH _ (JH _ e),r⟩
 have Z:((h.push {cls:=.type "tuple",data:=.seq rest.toArray}).push
   {cls:=.ref C,data:=.fields #[.ref h.objs.size,.none,.none,.none,.bool false,.none]}).get? (h.objs.size+1)=some
   {cls:=.ref C,data:=.fields #[.ref h.objs.size,.none,.none,.none,.bool false,.none]}:=by heap_get
 have a6:(Value.ref C::bm).contains (.ref C)=true:=by simp
 have T₁:=T.keeps (h':=(h.push {cls:=.type "tuple",data:=.seq rest.toArray}).push {cls:=.ref C,data:=.fields #[.ref h.objs.size,.none,.none,.none,.bool false,.none]})
  fun b o e=>JH _ (JH _ e)
 unfold isInstance
 repeat (first|with_reducible refine LX Z ?_ |(with_reducible refine wpAny_isSubtype_exc O ?_;rw[a6])|wp_step)
 show wpAny _ _ (typeLookup (.ref C) _) _ _ _;refine wpAny_typeLookup_tail O b0 T₁ F.mroIs F.init.lookup ?_;rw[hi];refine Ko (JG ?_);unfold bindSpecial;refine JG (Me (T:="function") ⟨_,Y,a4⟩ ?_);rw[if_pos (by decide)]
 refine JJ (JG (Kb (hq _ (h.objs.size+1) ⟨fun b o hb=>JH _ (JH _ hb),KG (LP _),h.objs.size,Z,KG (JK _),?_⟩) (fun r s' hr=>?_) fun _ _ x=>x))
 ·exact JH _ (Heap.get?_push_at rfl rfl)
 ·obtain⟨rfl,hQ⟩:=hr
  wp_walk
  exact hQ
theorem vT(Fn:ExcBaseFacts Bn newId inN bmN)(U:bmB.contains (.type Bn)=true)(F:ExcBaseFacts B nid initId bmB)(T:OwnTail h bmB bm){mN:Str->Option Value}{rest:List Value}{fI:Addr}{oI:Obj}{Q:Value->Shared->Prop}
  (hC:h.get? C=some (excClassObj nm q C N bs bm hdct sn sub ab col dd k0 k1 k2 k3 k5 newId)) (hn:h.Ns N mN) (hi:mN "__init__"=some (.ref fI)) (Y:h.get? fI=some oI) (Z:oI.cls= .type "function")
  (hq:∀ h' e,Heap.MadeExcOf h h' e (.ref C) rest->
   wpAny (model prog w) (A.under (.builtin "type.__call__" ⟨.ref C::rest,[]⟩)) (call (.ref fI) (.ref e::rest)) (fun r s'=>r= .none/\Q (.ref e) s') E ⟨h',g,d,t,os⟩) (hrest:rest.length<=sizeLine:=by size_fits):
  wpAny (model prog w) A (call (.ref C) rest) Q E ⟨h,g,d,t,os⟩:=by
 have f1:=tc_lookup;have f2:=tc_bind (.ref C);have hT:(⟨h,g,d,t,os⟩:Shared).TypeIs (.ref C) "type":=⟨_,hC,rfl⟩;refine Mu (MM ?_);show wpAny _ _ (callAny (.ref C) _) _ _ _
 repeat (any_goals (first|assumption|with_reducible refine LX hC ?_ |wp_step))
 refine⟨rfl,?_⟩;refine codeAny_call_builtin_at (MZ _ (by decide+kernel)) entry_typeCall (wpAny_check_type_call_sub hC (mX (hrest:=hrest) Fn U F T hC hn hi Y Z fun h' e hm=>?_))
 exact hq h' e hm
end
section
variable {M:Model}{A:Around}{E:Value->Shared->Prop}{env:Env}
variable {nm q:Str}{C N:Addr}{bs bm:List Value}{hdct:Bool}{sn:List Str}{sub:List Value}{ab:Bool}{col:Option Bool}{dd:Option Addr}{k0 k1 k2 k3 k5:Option Value}{newId:String}
theorem gL(Z:bm.contains (.type "BaseException")=true)(hh:A.handled=none)
  (h:wpAny M A x (fun v s₁=>∃ e t od,v= .ref e/\s₁.heap.get? C=some (excClassObj nm q C N bs bm hdct sn sub ab col dd k0 k1 k2 k3 k5 newId)/\s₁.heap.get? e=some {cls:=.ref C,dict:=od,data:=.fields #[.ref t,.none,.none,.none,.bool false,.none]}/\E (.ref e) s₁) E s):
  wpAny M A (raiseStmt env (some x) none) Q E s:=by
 have Y:(Value.ref C::bm).contains (.type "BaseException")=true:=by rw[List.contains_cons,Z,Bool.or_true]
 unfold raiseStmt;refine JG (Kb h (fun v s₁ h₁=>?_) fun _ _ x=>x);obtain⟨e,t,od,rfl,hC,he,hE⟩:=h₁;obtain⟨hp,g,d,tk,os⟩:=s₁
 repeat (first|with_reducible refine LX he ?_ |with_reducible refine LX hC ?_ |(with_reducible refine wpAny_isSubtype_exc hC ?_;rw[Y])|wp_step)
 exact wpAny_raiseNew_none hh hE
end
section
variable {prog:Program}{w:World}{A:Around}{E:Value->Shared->Prop}{s:Shared}{env:Env}
variable {nm q:Str}{C N:Addr}{bs bm bmB:List Value}{hdct:Bool}{sn:List Str}{sub:List Value}{ab:Bool}{col:Option Bool}{dd:Option Addr}{k0 k1 k2 k3 k5:Option Value}{B Bn newId nid initId inN:String}{bmN:List Value}
theorem uo(Fn:ExcBaseFacts Bn newId inN bmN)(a4:bmB.contains (.type Bn)=true)(F:ExcBaseFacts B nid initId bmB){mN:Str->Option Value}{x:Str}{np cpos pos:Pos}{args:List Expr}{fI:Addr}{oI:Obj}{Q:Flow->Shared->Prop}
  (Z:bm.contains (.type "BaseException")=true) (hh:A.handled=none) (Y:(backTo cpos (starEach args env)).any (·.1)=false) (hi:mN "__init__"=some (.ref fI)) (U:oI.cls= .type "function")
  (h :wpAny (model prog w) A (eval (.Name x np) env) (fun f s₁=>f= .ref C/\wpAny (model prog w) A (evalArgs (.ref C) true (backTo cpos (starEach args env)) [])
   (fun a s₂=>a.kw=[]/\a.pos.length<=sizeLine/\s₂.heap.get? C=some (excClassObj nm q C N bs bm hdct sn sub ab col dd k0 k1 k2 k3 k5 newId)/\s₂.heap.Ns N mN/\OwnTail s₂.heap bmB bm/\s₂.heap.get? fI=some oI/\
    ∀ h' e,Heap.MadeExcOf s₂.heap h' e (.ref C) a.pos->wpAny (model prog w) (A.under (.builtin "type.__call__" ⟨.ref C::a.pos,[]⟩)) (call (.ref fI) (.ref e::a.pos)) (fun r s'=>r= .none/\
     ∃ t od,s'.heap.get? C=some (excClassObj nm q C N bs bm hdct sn sub ab col dd k0 k1 k2 k3 k5 newId)/\s'.heap.get? e=some {cls:=.ref C,dict:=od,data:=.fields #[.ref t,.none,.none,.none,.bool false,.none]}/\E (.ref e) s') E {s₂ with heap:=h'}) E s₁) E s):
  wpAny (model prog w) A (exec (.Raise (some (.Call (.Name x np) args [] cpos)) none pos) env) Q E s:=by
 rw[arm_exec_Raise];first
  |refine JG (Ky (gL (C:=C) (nm:=nm) (q:=q) (N:=N) (bs:=bs) (bm:=bm) (hdct:=hdct) (sn:=sn) (sub:=sub) (ab:=ab) (col:=col) (dd:=dd) (k0:=k0) (k1:=k1) (k2:=k2) (k3:=k3) (k5:=k5) (newId:=newId) Z hh (JG (Kb (Ni (Kb h (fun f s₁ h₁=>?_) fun _ _ x=>x)) (fun v s₃ h₃=>JG (Ky (JJ h₃))) fun _ _ x=>x))))
  |(simp only[evalOpt,Option.map];refine JG (Ky (gL (C:=C) (nm:=nm) (q:=q) (N:=N) (bs:=bs) (bm:=bm) (hdct:=hdct) (sn:=sn) (sub:=sub) (ab:=ab) (col:=col) (dd:=dd) (k0:=k0) (k1:=k1) (k2:=k2) (k3:=k3) (k5:=k5) (newId:=newId) Z hh (JG (Kb (Ni (Kb h (fun f s₁ h₁=>?_) fun _ _ x=>x)) (fun v s₃ h₃=>JG (Ky (JJ h₃))) fun _ _ x=>x)))))
  |(refine JG (Ky (gL (C:=C) (nm:=nm) (q:=q) (N:=N) (bs:=bs) (bm:=bm) (hdct:=hdct) (sn:=sn) (sub:=sub) (ab:=ab) (col:=col) (dd:=dd) (k0:=k0) (k1:=k1) (k2:=k2) (k3:=k3) (k5:=k5) (newId:=newId) Z hh ?_));refine JG (Kb (Ni (Kb h (fun f s₁ h₁=>?_) fun _ _ x=>x)) (fun v s₃ h₃=>JG (Ky (JJ h₃))) fun _ _ x=>x))
 obtain⟨rfl,h₁⟩:=h₁;unfold callWith;refine JG (Ko (Kb h₁ (fun a s₂ h₂=>JG (Ky ?_)) fun _ _ x=>x));obtain⟨apos,a6⟩:=a;obtain⟨O,hlen,hC,hn,T,b0,h₂⟩:=h₂;obtain rfl:a6=[]:=O;obtain⟨hp,g,d,tk,os⟩:=s₂;simp only[Y];refine JG (wpAny_keeperOf_exc hC ?_);refine JG (vT (hrest:=hlen) Fn a4 F T hC hn hi b0 U fun h' e hm=>Kb (h₂ h' e hm) (fun r s' hr=>⟨hr.1,JG (Ko (wpAny_point (JJ ?_)))⟩) fun _ _ x=>x);obtain⟨_,t,od,h1,h2,h3⟩:=hr;exact⟨e,t,od,rfl,h1,h2,h3⟩
end
end
end S7
namespace S7
open PySem PySem.Spec PySem.W PyProof.Rows
section
open Builtin Builtin.ObjectAttr
def uq:List Value->Bool
 | .ref _:: .ref _::r=>r==[.type "ValueError",.type "Exception",.type "BaseException",.type "object"]
 |_=>false
theorem yw(e:uq l=true):∃ a b,l= .ref a:: .ref b::[.type "ValueError",.type "Exception",.type "BaseException",.type "object"]:=by
 unfold uq at e;split at e
 ·next a b r=>exact⟨a,b,by rw[NK.mp e]⟩
 ·cases e
theorem AR(self:Value)(e:uq l=true):refuseLoop self "__setattr__" l=pure ():=by
 obtain⟨a,b,rfl⟩:=yw e;rw[refuseLoop_ref,refuseLoop_ref];exact PySem.F.store_ValueError.passes self
structure ExcS(K:Frag)(C:Addr):Prop where
 sa:findIn K (.ref C) "__setattr__"=some (some (.builtin "object.__setattr__"))
 ob:mroIn K C (.type "object")=some true
 cd:∃ cd,clsIn K C=some cd/\cd.hasDict=true/\uq cd.mro=true
section
variable {prog:Program}{w:World}{A:Around}{E:Value->Shared->Prop}{s:Shared}{K:Frag}{x C:Addr}{o:Obj}{vs:Array Value}{mA:Str->Option Value}{name:Str}{v:Value}{R:Result->Shared->Prop}
theorem AS{Q:Fin->Shared->Prop}(c:ExcS K C)(X:K.In s.heap)(hx:s.heap.get? x=some o)(hc:o.cls= .ref C)(b2:o.data= .fields vs)
  (hd:(o.dict=none/\∀ n,mA n=none)\/∃ d,o.dict=some d/\d≠x/\s.heap.Ns1 d mA)
  (hq:∀ h' tk' dx,h'.Ns1 dx (fun y=>if y=name then some v else mA y)->dx≠x->h'.get? x=some {o with dict:=some dx}->(o.dict=some dx\/(o.dict=none/\s.heap.get? dx=none))->
   (∀ b o,b≠x->b≠dx->s.heap.get? b=some o->h'.get? b=some o)->Q (.done (.ret .none)) {s with heap:=h',toks:=tk'}) (hw:Within mA ns:=by within_ways) (c5:ns.length<=sizeLine:=by size_fits):
  wpAny (model prog w) A (storeInOwnDict (.ref x) (.ref C) (.str name tk) name v b) Q E s:=by
 obtain⟨cd,b5,c0,_⟩:=c.cd;obtain⟨h,g,d,t,os⟩:=s;obtain⟨oc,od,c4,osl⟩:=o;dsimp only at hx hc b2 hd;subst hc b2;unfold storeInOwnDict;refine JG (JJ ?_);show wpAny _ _ (ownDictForStores (.ref x)>>=_) _ _ _;unfold ownDictForStores instanceDict;refine JG (JG (wpAny_loadPart hx (JG ((looks_clsIn X b5).here ?_))));rw[c0];simp only[Bool.not_true,Bool.false_eq_true,if_false];rcases hd with⟨hdn,hmA⟩|⟨dx,hdx,hne,hns⟩
 ·have b0:od=none:=hdn;subst b0;simp only[typeHasDict,Bool.not_true,Bool.or_self,Bool.false_eq_true,if_false];have b3:(h.push {cls:=.type "dict",data:=.dict #[]}).get? x=some ⟨.ref C,none,.fields vs,osl⟩:=JH _ hx;have U:x≠h.objs.size:=JT (JO hx);refine JG (wpAny_alloc' ?_);refine JG (wpAny_update' b3 ?_);refine JJ ?_;have b6:((h.push {cls:=.type "dict",data:=.dict #[]}).update x fun o=>{cls:=o.cls,dict:=some h.objs.size,data:=o.data,slots:=o.slots}).get? h.objs.size
    =some {cls:=.type "dict",data:=.dict #[]}:=
   (Ly _ _ _ _ U.symm).trans (Heap.get?_push_at rfl rfl)
  have b4:((h.push {cls:=.type "dict",data:=.dict #[]}).update x fun o=>{cls:=o.cls,dict:=some h.objs.size,data:=o.data,slots:=o.slots}).Ns h.objs.size (fun _=>none):=
   ⟨_, #[],_,b6,rfl,fun e he=>absurd he (by simp),fun _=>rfl⟩
  show wpAny _ _ (storeInDict h.objs.size (.str name tk) name v) _ _ _;unfold storeInDict newKeyGuard;refine JG (JJ (JG (wpAny_nsSet1 (Heap.Ns1.of_empty b4) fun h' Z hs=>?_)));obtain⟨oD,c1,c3,a6,Y,O⟩:=Z.count (NG name v Within.nil);refine JG (wpAny_lookBehind a6 (by rw[Y];exact pastItsLine_dict (JV O (by rw[JY,List.length_nil,KN];omega))) ?_)
  wp_walk
  refine hq h' _ h.objs.size ?_ U.symm ?_ (.inr ⟨rfl,KG (JK _)⟩) (fun b ob c2 a4 hb=>?_)
  ·obtain⟨o',es,ep,e1,e2,e3,eu,e4⟩:=Z;exact⟨o',es,ep,e1,e2,e3,eu,fun y=>by rw[e4 y];by_cases hy:y=name<;>simp[hy,hmA]⟩
  ·exact(hs.2 x U).trans (Kx _ b3 rfl)
  ·exact(hs.2 b a4).trans ((Ly _ _ _ _ c2).trans (JH _ hb))
 ·have b1:od=some dx:=hdx;subst b1;refine JJ ?_;show wpAny _ _ (storeInDict dx (.str name tk) name v) _ _ _;unfold storeInDict newKeyGuard;refine JG (JJ (JG (wpAny_nsSet1 hns fun h' Z hs=>?_)));obtain⟨oD,c1,c3,a6,Y,O⟩:=Z.count (NG name v hw);refine JG (wpAny_lookBehind a6 (by rw[Y];exact pastItsLine_dict (JV O (by rw[JY];omega))) ?_)
  wp_walk
  exact hq h' _ dx Z hne ((hs.2 x hne.symm).trans hx) (.inl rfl) (fun b ob _ a4 hb=>(hs.2 b a4).trans hb)
theorem mI{Q:Unit->Shared->Prop}(c:ExcS K C)(X:K.In s.heap)(hx:s.heap.get? x=some o)(hc:o.cls= .ref C)(Y:o.data= .fields vs)(hf:findIn K (.ref C) name=some none)
  (hd:(o.dict=none/\∀ n,mA n=none)\/∃ d,o.dict=some d/\d≠x/\s.heap.Ns1 d mA)
  (hq:∀ h' Z dx,h'.Ns1 dx (fun y=>if y=name then some v else mA y)->dx≠x->h'.get? x=some {o with dict:=some dx}->(o.dict=some dx\/(o.dict=none/\s.heap.get? dx=none))->
   (∀ b o,b≠x->b≠dx->s.heap.get? b=some o->h'.get? b=some o)->Q () {s with heap:=h',toks:=Z}) (hw:Within mA ns:=by within_ways) (O:ns.length<=sizeLine:=by size_fits):
  wpAny (model prog w) A (setAttr (.ref x) name v) Q E s:=by
 obtain⟨cd,b0,b1,a6⟩:=c.cd;have U:notCls o=true:=by unfold notCls;rw[Y]
 have I:∃ od,InstAt s.heap x o C od:=by
  rcases hd with⟨hdn,_⟩|⟨dx,hdx,_,⟨od,es,ep,e1,_⟩⟩
  ·exact⟨none,hx,hc,U,by rw[hdn];trivial⟩
  ·exact⟨some od,hx,hc,U,by rw[hdx];exact e1⟩
 obtain⟨od,I⟩:=I;refine set_plain X I c.sa ?_;have SF:=PySem.F.store_object;have sub:Looks (model prog w) s.heap (isInstance (.ref x) (.type "object")) true:=I.type.andThen (looks_mroIn X c.ob);refine MI SF.slot.plain SF.entry (@check_slot (model prog w) _ _ {s with toks:=s.toks+1} "object.__setattr__" "object" "__setattr__" (.ref x) [.str name s.toks,v] [] _ SF.kind SF.split sub (SF.args (.ref x) (.str name s.toks) v) ?_);have hm:Looks (model prog w) s.heap (mroOf (.ref C)) cd.mro:=(looks_clsIn X b0).andThen .now;rw[osa_eq,refuse_eq];refine JG (JG (I.type _ _ _ _ (fun _ _ e=>e) (JG (hm _ _ _ _ (fun _ _ e=>e) ?_))));rw[AR _ a6];refine JJ (JG (I.type _ _ _ _ (fun _ _ e=>e) (JG (looks_findIn X hf _ _ _ _ (fun _ _ e=>e) (JG (JJ ?_))))));exact AS (s:={s with toks:=s.toks+1}) c X hx hc Y hd (fun h' Z dx a1 a2 a3 a4 a5=>hq h' Z dx a1 a2 a3 a4 a5) hw O
end
end
end S7
namespace S7
open PySem PySem.Spec PyProof.Rows L2 S3
def gi(C a t:Addr)(od:Option Addr):Heap->Prop:=fun h=>h.get? a=some {cls:=.ref C,dict:=od,data:=.fields #[.ref t,.none,.none,.none,.bool false,.none]}
def gW(dx:Addr)(fs:List (Str×V)):Heap->Prop:=fun h=>∃ mA,h.Ns1 dx mA/\(∀ f,qX (fs.lookup f) (mA f))/\PySem.Within mA (fs.map (·.1))
theorem yx{h2:Heap}(p:gi C a t od h1)(k:∀ o,h1.get? a=some o->h2.get? a=some o):gi C a t od h2:=k _ p
theorem yy{h2:Heap}(p:gW dx fs h1)(k:∀ o,h1.get? dx=some o->h2.get? dx=some o):gW dx fs h2:=by
 obtain⟨mA,⟨o,es,ep,e,r⟩,q⟩:=p;exact⟨mA,⟨o,es,ep,k _ e,r⟩,q⟩
theorem AU(p:gi C a t od h):bo P w H h a (.ext (gi C a t od)):=⟨p,⟨_,p⟩,fun _ _ q k=>yx q k⟩
theorem DD(p:gW dx fs h):bo P w H h dx (.ext (gW dx fs)):=⟨p,(let ⟨_,⟨o,_,_,e,_⟩,_⟩:=p;⟨o,e⟩),fun _ _ q k=>yy q k⟩
section
variable {X:Cx}{pins:List (Addr×Obj)}{σ:L2.St}{H:Hp}{s:Shared}{h':Heap}{t':Nat}
theorem Inv.laidG(I:L2.Inv X pins σ H s)(k:∀ b u,s.heap.get? b=some u->h'.get? b=some u)(hp:s.heap.get? a=none)(Z:bo X.prog X.w (upd H a o) h' a o):L2.Inv X pins σ (upd H a o) {s with heap:=h',toks:=t'}:=by
 have hn:H a=none:=fP.gone I.hok hp;have ne:∀ b u,s.heap.get? b=some u->b≠a:=fun b u q=>gq q hp;refine I.un (t':=t') ⟨fun b u q _ _ _=>k b u q,fun b u q _ _ _=>⟨u.slots,k b u q⟩,fun b u q n _=>by rw[aB (ne b u q)];exact n,fun b u q _=>⟨u,k b u q⟩,fun b xs q=>by rw[aB (aH q hn)];exact q,fun b u xs q=>by rw[aB (aH q hn)];exact q,fun b ps q=>⟨#[],by rw[aB (aH q hn),q];simp⟩⟩ fun b u e=>?_
 by_cases hb:b=a
 ·subst hb;rw[aN]at e;cases e;exact Z
 ·rw[aB hb]at e;exact(I.hok b u e).stay (fun c v _ q=>k c v q) (fun c q=>by rw[aB (aH q hn)];exact q) fun c xs q=>by rw[aB (aH q hn)];exact q
theorem Inv.write2(I:L2.Inv X pins σ H s)(ha:H a=some (.ext φ))(hb:(∃ ψ,H b=some (.ext ψ))\/s.heap.get? b=none)(k:∀ c v,c≠a->c≠b->s.heap.get? c=some v->h'.get? c=some v)(U:∃ v,h'.get? a=some v)(Y:∃ v,h'.get? b=some v)
  (O:b≠a) (na:∀ H',bo X.prog X.w H' h' a o) (nb:∀ H',bo X.prog X.w H' h' b u):L2.Inv X pins σ (upd (upd H b u) a o) {s with heap:=h',toks:=t'}:=by
 have Z:∀ c v,H c=some v->(∀ ψ,v≠ .ext ψ)->c≠a/\c≠b:=fun c v e n=>by
  refine⟨fun z=>?_,fun z=>?_⟩
  ·subst z;rw[ha]at e;cases e;exact n _ rfl
  ·subst z;rcases hb with⟨ψ,hb⟩|hb
   ·rw[hb]at e;cases e;exact n _ rfl
   ·rw[fP.gone I.hok hb]at e;cases e
 have free:∀ c v,s.heap.get? c=some v->H c=none->c≠a/\c≠b:=fun c v q n=>by
  refine⟨fun z=>?_,fun z=>?_⟩
  ·subst z;rw[ha]at n;cases n
  ·subst z;rcases hb with⟨ψ,hb⟩|hb
   ·rw[hb]at n;cases n
   ·rw[hb]at q;cases q
 have up:∀ c v,H c=some v->(∀ ψ,v≠ .ext ψ)->upd (upd H b u) a o c=some v:=fun c v e n=>by
  obtain⟨h1,h2⟩:=Z c v e n;rw[aB h1,aB h2];exact e
 refine I.un (t':=t') ⟨fun c v q n _ _=>k c v (free c v q n).1 (free c v q n).2 q,fun c v q n _ _=>⟨v.slots,k c v (free c v q n).1 (free c v q n).2 q⟩,fun c v q n _=>by rw[aB (free c v q n).1,aB (free c v q n).2];exact n,fun c v q _=>?_,fun c xs q=>up c _ q (by intro _ z;cases z),fun c w xs q=>up c _ q (by intro _ z;cases z),fun c ps q=>⟨#[],by rw[up c _ q (by intro _ z;cases z)];simp⟩⟩ fun c v e=>?_
 ·by_cases h1:c=a
  ·subst h1;exact U
  ·by_cases h2:c=b
   ·subst h2;exact Y
   ·exact⟨v,k c v h1 h2 q⟩
 ·by_cases h1:c=a
  ·subst h1;rw[aN]at e;cases e;exact na _
  ·rw[aB h1]at e;by_cases h2:c=b
   ·subst h2;rw[aN]at e;cases e;exact nb _
   ·rw[aB h2]at e;have own:∀ d,H d=some (.own c)->d≠a/\d≠b:=fun d q=>Z d _ q (by intro _ z;cases z)
    refine(I.hok c v e).stay (fun d w hd q=>?_) (fun d q=>up d _ q (by intro _ z;cases z)) fun d xs q=>up d _ q (by intro _ z;cases z)
    rcases hd with rfl|hd
    ·exact k _ w h1 h2 q
    ·exact k d w (own d hd).1 (own d hd).2 q
end
section
variable {X:Cx}{o value:Expr}{ta tv:TE}{f:Str}{pos pos':Pos}
def Hl(K:W.Frag)(ta tv:TE)(f:Str):TS:=fun D σ H=>tv σ H fun y H1=>ta σ H1 fun x H2=>∃ p C t,x= .ref p/\ExcS K C/\W.findIn K (.ref C) f=some none/\
  ((H2 p=some (.ext (gi C p t none))/\∀ dx,H2 dx=none->dx≠p->D.nx σ (upd (upd H2 dx (.ext (gW dx [(f,y)]))) p (.ext (gi C p t (some dx)))))\/
   (∃ dx fs,H2 p=some (.ext (gi C p t (some dx)))/\H2 dx=some (.ext (gW dx fs))/\dx≠p/\fs.lookup f=none/\fs.length<=100/\D.nx σ (upd (upd H2 dx (.ext (gW dx (fs++[(f,y)])))) p (.ext (gi C p t (some dx))))))
theorem mJ{α:Type}{g f:Str}{y:α}:∀{fs:List (Str×α)},fs.lookup f=none->(fs++[(f,y)]).lookup g=if g=f then some y else fs.lookup g
 |[],_=>by
  show(match g==f with|true=>some y|false=>none)=_
  by_cases h:g=f
  ·subst h;simp
  ·rw[if_neg h,MQ h];rfl
 | (a,b)::r,h=>by
  rw[Kk]at h;by_cases hf:f=a
  ·subst hf;simp at h
  ·rw[MQ hf]at h;rw[List.cons_append,Kk,Kk,mJ (fs:=r) h];by_cases hg:g=a
   ·subst hg;have Z:¬ g=f:=fun z=>hf z.symm;simp[Z]
   ·rw[MQ hg]
theorem xb(ha:PE X o ta)(hv:PE X value tv)(hs:swapsWith value (some (.Attribute o f pos')) pos.line X.env=pure false):PS X (.Assign [.Attribute o f pos'] value pos) (Hl X.K ta tv f):=by
 intro pins s σ H D I h;refine plainObj_wpAny_Assign_Attribute (dy (hv pins s σ H _ I h) fun u s1 ⟨y,H1,I1,ry,q⟩=>dy (ha pins s1 σ H1 _ I1 q) fun ov s2 ⟨x,H2,I2,rx,p,C,t,ex,c,hf,q2⟩=>?_) hs;subst ex;obtain rfl:ov=Value.ref p:=rx;rcases q2 with⟨hp,q⟩|⟨dx,fs,hp,hd,Z,hl,hlen,q⟩
 ·have hx:s2.heap.get? p=some {cls:=.ref C,dict:=none,data:=.fields #[.ref t,.none,.none,.none,.bool false,.none]}:=(I2.hok p _ hp).1;refine mI (mA:=fun _=>none) (ns:=[]) c I2.kIn hx rfl rfl hf (.inl ⟨rfl,fun _=>rfl⟩) (fun h' O dx U Z Y ho hk=>?_) Within.nil (by simp)
  rcases ho with ho|⟨_,hnew⟩
  ·cases ho
  have pe:gi C p t (some dx) h':=Y;have pd:gW dx [(f,y)] h':=⟨_,U,fun g=>by
   show qX (match g==f with|true=>some y|false=>none) _
   by_cases hg:g=f
   ·subst hg;simp;exact ry
   ·rw[MQ hg,if_neg hg];exact trivial,NG f u Within.nil⟩
  obtain⟨b0,⟨od,es,ep,e1,_⟩,_⟩:=id pd;have I3:=Inv.write2 (t':=O) (a:=p) (b:=dx) (o:=.ext (gi C p t (some dx))) (u:=.ext (gW dx [(f,y)])) I2 hp (.inr hnew) (fun c v h1 h2 q=>hk c v h1 h2 q) ⟨_,Y⟩ ⟨_,e1⟩ Z (fun _=>AU pe) (fun _=>DD pd);exact⟨σ,_,I3,q dx (fP.gone I2.hok hnew) Z⟩
 ·have hx:s2.heap.get? p=some {cls:=.ref C,dict:=some dx,data:=.fields #[.ref t,.none,.none,.none,.bool false,.none]}:=(I2.hok p _ hp).1;obtain⟨mA,a4,a6,hw⟩:=(I2.hok dx _ hd).1;refine mI (mA:=mA) (ns:=fs.map (·.1)) c I2.kIn hx rfl rfl hf (.inr ⟨dx,rfl,Z,a4⟩) (fun h' O b2 U b3 Y ho hk=>?_) hw (by rw[JI,KN];omega)
  have b1:dx=b2:=by
   rcases ho with ho|⟨ho,_⟩
   ·exact J8 ho
   ·cases ho
  subst b1;have pe:gi C p t (some dx) h':=Y;have pd:gW dx (fs++[(f,y)]) h':=⟨_,U,fun g=>by
   rw[mJ hl];by_cases hg:g=f
   ·subst hg;simp;exact ry
   ·rw[if_neg hg,if_neg hg];exact a6 g,by
   have:=NG f u hw;intro z hz;have:=this z hz;simp only[List.map_append,List.map_cons,List.map_nil,List.mem_append,List.mem_cons,List.not_mem_nil,or_false]at this ⊢;exact this.symm⟩
  obtain⟨b0,⟨od,es,ep,e1,_⟩,_⟩:=id pd;have I3:=Inv.write2 (t':=O) (a:=p) (b:=dx) (o:=.ext (gi C p t (some dx))) (u:=.ext (gW dx (fs++[(f,y)]))) I2 hp (.inl ⟨_,hd⟩) (fun c v h1 h2 q=>hk c v h1 h2 q) ⟨_,Y⟩ ⟨_,e1⟩ Z (fun _=>AU pe) (fun _=>DD pd);exact⟨σ,_,I3,q⟩
end
end S7
section
namespace S7
open PySem PySem.Spec PyProof.Rows L2 S3
theorem CJ{K:W.Frag}{mg:Str->Option Value}(X:K.In h)(G:h.Ns N mg)(e:W.nsIn K N n=some (some v)):mg n=some v:=by
 obtain⟨o,es,ep,ho,hd,_,hf⟩:=G;unfold W.nsIn at e;split at e
 ·rename_i c d es' n' sl q
  have:=X _ _ q;rw[ho]at this;cases this;cases hd;split at e
  ·rename_i en he
   cases e;rw[<-hf];unfold nsFind findBy;rw[<-MU,he];rfl
  ·split at e<;>cases e
 ·cases e
def j3(K:W.Frag)(C f:Addr):Bool:=match K.lookup C with
 |some ⟨.type "type",_,.cls cd,sl⟩=>(match cd.mro,sl.toList with
  | .ref C'::bm,[_,_,_,_,some (.builtin n),_]=>C'==C && n=="ValueError.__new__" && !cd.hasDel && W.tailIn K Gc bm && W.nsOkIn K cd.ns && W.nsIn K cd.ns "__init__"==some (some (.ref f)) && cd.hasDict && uq cd.mro
  |_,_=>false) && (W.findIn K (.ref C) "__setattr__"==some (some (.builtin "object.__setattr__"))) && (match K.lookup f with|some o=>o.cls== .type "function"|none=>false)
 |_=>false
theorem qK{K:W.Frag}(X:K.In h)(c:ExcC K C)(q:j3 K C f=true):ExcS K C/\(∃ o,K.lookup f=some o/\o.cls= .type "function")/\∃ bm N nm qn bs hdct sn sub ab col dd k0 k1 k2 k3 k5 mN,
  h.get? C=some (excClassObj nm qn C N bs bm hdct sn sub ab col dd k0 k1 k2 k3 k5 "ValueError.__new__")/\h.Ns N mN/\mN "__init__"=some (.ref f)/\OwnTail h Gc bm:=by
 unfold j3 at q;split at q
 case h_2=>cases q
 case h_1 dd cd sl ho=>
 simp only[Bool.and_eq_true,beq_iff_eq]at q;obtain⟨⟨q,a6⟩,Y⟩:=q;split at q
 case h_2=>cases q
 case h_1 C' bm k0 k1 k2 k3 n k5 hm hs=>
 simp only[Bool.and_eq_true,beq_iff_eq,Bool.not_eq_true']at q;obtain⟨⟨⟨⟨⟨⟨⟨eC,en⟩,Z⟩,ht⟩,hok⟩,hi⟩,O⟩,U⟩:=q;subst eC en;have a4:W.clsIn K C'=some cd:=by unfold W.clsIn;rw[ho]
 refine⟨⟨a6,c.ob,cd,a4,O,U⟩,?_,?_⟩
 ·split at Y
  ·next o hf=>exact⟨o,hf,NK.mp Y⟩
  ·cases Y
 rcases cd with⟨nm,bs,mro,ns,qn,hd,sn,sub,ab,col,del⟩;dsimp only at hm Z hok hi;subst hm Z;obtain rfl:sl= #[k0,k1,k2,k3,some (.builtin "ValueError.__new__"),k5]:=by rcases sl with⟨l⟩;simp only at hs;rw[hs]
 have hN:h.Ns ns (h.nsMap ns):=.of_isNs (W.isNs_of_in X hok);exact⟨bm,ns,nm,qn,bs,hd,sn,sub,ab,col,dd,k0,k1,k2,k3,k5,_,X _ _ ho,hN,CJ X hN hi,W.tail_of_in X ht⟩
def HP(C:Addr):Sp:=fun vs H Q _=>∃ e t v1 v2,vs=[.ref e,v1,v2]/\H e=some (.ext (gi C e t none))/\∀ dx,H dx=none->dx≠e->Q .non (upd (upd H dx (.ext (gW dx [("many",v1),("most",v2)]))) e (.ext (gi C e t (some dx))))
theorem ur(h:a≠b):upd (upd H a o) b u=upd (upd H b u) a o:=by
 funext c;unfold upd;by_cases h1:c=b
 ·by_cases h2:c=a
  ·exact absurd (h2.symm.trans h1) h
  ·rw[if_pos h1,if_neg h2,if_pos h1]
 ·rw[if_neg h1];by_cases h2:c=a
  ·rw[if_pos h2,if_pos h2]
  ·rw[if_neg h2,if_neg h2,if_neg h1]
theorem CK{P:Program}{w:World}{K:W.Frag}{mg:Str->Option Value}{base:Heap}{C f:Addr}{fd:FuncData}{st:Stmt}{p1 p2 p3 p4 p5 p6 p7 p8:Pos}(F:Fun K "__init__" "TooGreat.__init__" st f fd)(cS:ExcS K C)(c:ExcC K C)
  (Sc:FnScope ["self","many","most"] ["self","many","most"] (av st)) (hl:∀ x∈(["self","many","most"]:List Str),(av st).names.lookup x=some .local)
  (hb:c9 st=[.Assign [.Attribute (.Name "self" p1) "many" p2] (.Name "many" p3) p4,.Assign [.Attribute (.Name "self" p5) "most" p6] (.Name "most" p7) p8]):
  FnOk P w K mg base (j9 P w) 1 f fd ["self","many","most"] (HP C):=by
 obtain⟨oc,od,kV,doc,pm,an,cdv,ct,osl,rfl,lk,Y⟩:=F.ex;refine zl lk Y Sc (fun vs H Q E ⟨_,_,_,_,h,_⟩=>by rw[h];rfl) fun A outer s H vs Q E hr h=>?_
 rw[hb];have v0:xy (jf (j9 P w) P w K mg base ["self","many","most"] "TooGreat.__init__" (av st) f cdv A outer s H E).env.scope "self":=.inl (hl "self" (by simp))
 have v1:xy (jf (j9 P w) P w K mg base ["self","many","most"] "TooGreat.__init__" (av st) f cdv A outer s H E).env.scope "many":=.inl (hl "many" (by simp))
 have v2:xy (jf (j9 P w) P w K mg base ["self","many","most"] "TooGreat.__init__" (av st) f cdv A outer s H E).env.scope "most":=.inl (hl "most" (by simp))
 refine⟨_,td (xb (pv 0 rfl v0) (pv 1 rfl v1) rfl) (rg (xb (pv 0 rfl v0) (pv 2 rfl v2) rfl)),?_⟩;obtain⟨e,t,w1,w2,rfl,he,q⟩:=h;refine⟨w1,rfl,.ref e,rfl,e,C,t,rfl,cS,c.mf,.inl ⟨he,fun dx hd Z=>?_⟩⟩;refine⟨w2,rfl,.ref e,rfl,e,C,t,rfl,cS,c.ms,.inr ⟨dx,[("many",w1)],aN,by rw[aB Z];exact aN,Z,rfl,by simp,?_⟩⟩
 have:=q dx hd Z;have e2:upd (upd (upd (upd H dx (.ext (gW dx [("many",w1)]))) e (.ext (gi C e t (some dx)))) dx (.ext (gW dx [("many",w1),("most",w2)]))) e (.ext (gi C e t (some dx)))=upd (upd H dx (.ext (gW dx [("many",w1),("most",w2)]))) e (.ext (gi C e t (some dx))):=by
  rw[ur Z.symm,qY,qY]
 show Q .non _;rw[<-e2]at this;exact this
end S7
namespace S7
open PySem PySem.Spec PyProof.Rows L2 S3
section
variable {X:Cx}{Ek:XK}
theorem Inv.forget{H:Hp}(I:L2.Inv X pins σ (upd (upd H dx (.ext (gW dx fs))) e (.ext φ)) s)(hd:H dx=none)(he:H e=none)(Y:dx≠e):
  L2.Inv X pins σ (upd H dx (.xd fs)) s:=by
 have oth:∀ b u,upd (upd H dx (.ext (gW dx fs))) e (.ext φ) b=some u->(∀ χ,u≠ .ext χ)->upd H dx (.xd fs) b=some u:=fun b u q n=>by
  by_cases h1:b=e
  ·subst h1;rw[aN]at q;cases q;exact absurd rfl (n _)
  ·rw[aB h1]at q;by_cases h2:b=dx
   ·subst h2;rw[aN]at q;cases q;exact absurd rfl (n _)
   ·rw[aB h2]at q ⊢;exact q
 have Z:∀ b,upd (upd H dx (.ext (gW dx fs))) e (.ext φ) b=none->upd H dx (.xd fs) b=none:=fun b q=>by
  by_cases h1:b=e
  ·subst h1;rw[aN]at q;cases q
  ·rw[aB h1]at q;by_cases h2:b=dx
   ·subst h2;rw[aN]at q;cases q
   ·rw[aB h2]at q ⊢;exact q
 refine I.un (t':=s.toks) ⟨fun b o q _ _ _=>q,fun b o q _ _ _=>⟨o.slots,q⟩,fun b o _ n _=>Z b n,fun b o q _=>⟨o,q⟩,fun b xs q=>oth b _ q (by intro _ z;cases z),fun b o u q=>oth b _ q (by intro _ z;cases z),fun b ps q=>⟨#[],by rw[oth b _ q (by intro _ z;cases z)];simp⟩⟩ fun b u q=>?_
 by_cases h2:b=dx
 ·subst h2;rw[aN]at q;cases q;have hk:=I.hok b (.ext (gW b fs)) (by rw[aB Y];exact aN)
  obtain⟨mA,h1,h2,_⟩:=hk.1;exact⟨mA,h1,h2⟩
 ·rw[aB h2]at q;have h1:b≠e:=fun z=>by rw[z,he]at q;cases q
  exact(I.hok b u (by rw[aB h1,aB h2];exact q)).stay (fun _ _ _ z=>z) (fun c z=>oth c _ z (by intro _ z;cases z)) fun c xs z=>oth c _ z (by intro _ z;cases z)
def AV:List D->M Out
 |[a,b]=>M.raise (.exc "TooGreat" [a,b])
 |_=>M.fail
abbrev nv(ms:aM->M (List D)):cT:=fun ρ=>do let ds<-ms ρ;AV ds
theorem yz(L:Leaves X Ek)(hc:X.calm=true)(eK:fF X.K=true)(b4:W.nsIn X.K mainGlobals "TooGreat"=some (some (.ref C)))(c2:j3 X.K C f=true)
  (F:FnOk X.prog X.w X.K X.mg X.base (j9 X.prog X.w) k f fd ["self","many","most"] (HP C)) (hb:Binds X.K fd ["self","many","most"] []) (hr:Room (k+1) X.A)
  (ha:SA X (t8 X.K Ek) (e::es) ms) (hg:Gl X "TooGreat":=by rfl)
  (he:starEach (e::es) X.env=(false,eval e X.env)::starEach es X.env:=by rfl) (c0:(backTo cpos (starEach es X.env)).any (·.1)=false:=by rfl):
  SS X (t8 X.K Ek) (.Raise (some (.Call (.Name "TooGreat" np) (e::es) [] cpos)) none pos) (nv ms):=by
 intro pins s σ H T I h;obtain⟨ι,S,ρ,rep,re,c⟩:=h;obtain⟨C',EA⟩:=ik eK (show("TooGreat":Str)∈aW by decide)
 have eC:C'=C:=by
  have:=EA.ns.symm.trans b4;cases this;rfl
 subst eC;obtain⟨cS,⟨oI,b3,b6⟩,bm,N,nm,qn,bs,hdct,sn,sub,ab,col,dd,k0,k1,k2,k3,k5,mN,hC,hN,hi,tl⟩:=qK I.mod.kin EA.ck c2;have hm:X.mg "TooGreat"=some (.ref C'):=J0 I.mod.kin I.mod.glob EA.ns;refine uo (k5:=k5) (k3:=k3) (k2:=k2) (k1:=k1) (k0:=k0) (nm:=nm) (q:=qn) (C:=C') (N:=N) (bm:=bm) (bs:=bs) (hdct:=hdct) (sn:=sn) (sub:=sub) (ab:=ab) (col:=col) (dd:=dd) (fI:=f) (oI:=oI) Lj (by decide) Lj (mN:=mN) (tl.hasType PySem.F.excBase_ValueError.hasBase) (I.ok.hd hc) (by rw[he];show(false||(backTo cpos (starEach es X.env)).any (·.1))=false;rw[c0];rfl) hi b6 (jQ I hg hm ⟨rfl,?_⟩ (by decide))
 have U:=ha cpos pins s σ H _ I ⟨ι,S,ρ,rep,re,ak (ai c) fun ds ι1 S1 H1 e1 rep1 c1 vs r1=>(⟨ι1,S1,ds,rep1,r1,c1⟩:∃ ι1 S1 ds,Rep X.K ι1 H1 S1/\RelDs X.K ι1 H1 ds vs/\cont X.K (t8 X.K Ek) (AV ds) ι1 S1 H1 _)⟩;rw[he]at U ⊢;refine MG (Kb U (fun us s2 c3=>?_) fun _ _ z=>z);obtain⟨vs,H1,I1,rv,ι1,S1,ds,rep1,r1,c1⟩:=c3
 match ds,r1,c1 with
 |[],r1,c1=>exact(ag c1).elim
 |[_],r1,c1=>exact(ag c1).elim
 |_::_::_::_,r1,c1=>exact(ag c1).elim
 | [da,db],r1,c1=>
  obtain⟨va,ws,rfl,ra,r2⟩:=r1.cons_inv;obtain⟨vb,c5,rfl,rb,r3⟩:=r2.cons_inv;cases r3.nil_inv;have hlen:us.length=2:=rv.length.symm;refine⟨rfl,?_,I1.bk _ _ hC,hN.keeps I1.bk,tl.keeps I1.bk,I1.bk _ _ (I.mod.kin _ _ b3),fun h' ea hm=>?_⟩
  ·show us.length<=sizeLine;rw[hlen,KN];decide
  ·obtain⟨t,h1,h2,h3⟩:=hm.there;have a6:H1 ea=none:=fP.gone I1.hok hm.new;have I2:L2.Inv X pins σ (upd H1 ea (.ext (gi C' ea t none))) {s2 with heap:=h'}:=Inv.laidG (t':=s2.toks) I1 hm.keeps hm.new (AU h1);have c4:HP C' [.ref ea,va,vb] (upd H1 ea (.ext (gi C' ea t none))) (fun v H'=>v= .non/\∃ dx,upd H1 ea (.ext (gi C' ea t none)) dx=none/\dx≠ea/\H'=upd (upd (upd H1 ea (.ext (gi C' ea t none))) dx (.ext (gW dx [("many",va),("most",vb)]))) ea (.ext (gi C' ea t (some dx)))) Ek:=
    ⟨ea,t,va,vb,rfl,aN,fun dx hd Z=>⟨rfl,dx,hd,Z,rfl⟩⟩
   have b5:bj [V.ref ea,va,vb] (Value.ref ea::us):=.cons rfl rv;refine Mu (Lu (F.run _ X.stack _ _ ⟨Value.ref ea::us,[]⟩ (Value.ref ea::us) _ _ Ek (hr.make C' us []) (I2.env0.make C' us []) ?_ b5 c4) fun r s' O=>?_)
   ·have:=hb {s2 with heap:=h'} (Value.ref ea::us) I2.kIn (by simp[hlen])
    rw[Kd]at this;exact this
   ·cases r with
    |error x=>exact L.pass pins σ _ _ x s' I2 O
    | ok fl=>
     cases fl with
     |next=>exact False.elim O
     |brk=>exact False.elim O
     |cont=>exact False.elim O
     | ret u=>
      obtain⟨v,H',I3,b2,ev,dx,b1,Z,rfl⟩:=I2.after O;subst ev;have Y:H1 dx=none:=by rw[aB Z]at b1;exact b1
      have e2:upd (upd (upd H1 ea (.ext (gi C' ea t none))) dx (.ext (gW dx [("many",va),("most",vb)]))) ea (.ext (gi C' ea t (some dx)))=upd (upd H1 dx (.ext (gW dx [("many",va),("most",vb)]))) ea (.ext (gi C' ea t (some dx))):=by
       rw[ur Z.symm,qY]
      rw[e2]at I3;have a4:s'.heap.get? ea=some {cls:=.ref C',dict:=some dx,data:=.fields #[.ref t,.none,.none,.none,.bool false,.none]}:=(I3.hok ea _ aN).1;have I4:=Inv.forget I3 Y a6 Z;refine⟨b2,t,some dx,I3.bk _ _ hC,a4,?_⟩;obtain⟨r',S',e',q'⟩:=c1;cases e';have b0:=I1.base;rw[L.ex]at b0;refine L.new I4 a4 rfl rfl rfl rfl (by rw[aB (Ne.symm Z)];exact a6) (Un.gone b0 (by simp) hm.new) ?_
      have hE:Ext ι1 H1 ι1 (upd H1 dx (.xd [("many",va),("most",vb)])):=dQ Y;exact q' ι1 _ hE (eY rep1 Y) _ _ ⟨"TooGreat",[da,db],C',rfl,EA.ns,rfl,.inr ⟨dx,_,rfl,aN,rfl,.cons (ra.later rep1 hE) (.cons (rb.later rep1 hE) .nil)⟩⟩
end
end S7
end
namespace S7
open PySem PySem.Spec PyProof.Rows L2 S3
theorem AW{h:Heap}{mA:Str->Option Value}(n:h.Ns1 dx mA)(e:h.get? dx=some od)(hv:mA f=some v):W.lookIn f od=some (some v):=by
 obtain⟨o,es,ep,e1,hd,_,_,hf⟩:=n;rw[e]at e1;cases e1;unfold W.lookIn;rw[hd];have:=hf f;rw[hv]at this;unfold nsFind findBy at this;rw[<-MU]at this;cases q:es.toList.find? (·.key.isStr f)with
 |none=>rw[q]at this;cases this
 |some en=>
  rw[q]at this;have Z:en.val=v:=J8 this;rw[<-Z];dsimp only;rw[q]
section
variable {X:Cx}{E:XD}{pins:List (Addr×Obj)}{σ:L2.St}{H:Hp}{s:Shared}
theorem uu{a C dx:Addr}{fs:List (Str×V)}{f:Str}{v:V}{b:Bool}{Q:Value->Shared->Prop}{A:Around}{E:Value->Shared->Prop}(c:ExcC X.K C)(Y:∀ cd,W.clsIn X.K C=some cd->cd.hasDict=true)(O:W.findIn X.K (.ref C) f=some none)(I:L2.Inv X pins σ H s)(ha:H a=some (.ext (kT C a (some dx))))(hd:H dx=some (.xd fs))(hl:fs.lookup f=some v)
  (a4:W.copiedNames.contains f=false) (h:∀ u s',L2.Inv X pins σ H s'->RelV v u->Q u s'):wpAny (model X.prog X.w) A (getAttr (.ref a) f b) Q E s:=by
 obtain⟨⟨oe,vs,he,hc,ho,U⟩,_⟩:=I.hok a _ ha;obtain⟨mA,n1,hr⟩:=(show ∃ mA,s.heap.Ns1 dx mA/\∀ f,qX (fs.lookup f) (mA f)from I.hok dx _ hd);obtain⟨od,es,ep,e1,_⟩:=id n1;obtain⟨u,hu,ru⟩:=qX.some_of (v:=v) (o:=mA f) (by rw[<-hl];exact hr f)
 have J:W.InstAt s.heap a oe C (some od):=⟨he,hc,by unfold W.notCls;rw[U],by rw[ho];exact e1⟩
 obtain⟨cd,Z⟩:=KY.mp c.cd;have hf:W.findObj X.K C (some od) f=some (.value u):=by
  unfold W.findObj;rw[Z,LG,O,LG];simp only[Option.bind_some];unfold W.ownOf;rw[Y cd Z,if_pos rfl];dsimp only;rw[AW n1 e1 hu];rfl
 unfold getAttr;refine JG (wpAny_mkText ?_);refine Ap (s:={s with toks:=s.toks+1}) I.kIn J c.ga c.gt c.be ?_;refine pW (s:={s with toks:=s.toks+1}) I.kIn J hf ?_;exact W.handed_on (xH ru) (h u _ (I.tok _) ru)
def xc(second:Bool):D->M D
 | .exc n [a,b]=>if n∈aW then pure (if second then b else a)else M.fail
 |_=>M.fail
abbrev jF(second:Bool)(m:TM):TM:=fun ρ=>do let x<-m ρ;xc second x
theorem xf{e:Expr}{m:TM}{pos:Pos}{Z:Bool}{f:Str}(eK:fF X.K=true)(Y:∀ n∈aW,∀ C,W.nsIn X.K mainGlobals n=some (some (.ref C))->∀ cd,W.clsIn X.K C=some cd->cd.hasDict=true)(he:SE X E e m)(hf:f=if Z then "most" else "many")(hb:attributeBase e f X.env (eval e X.env)=eval e X.env:=by rfl):
  SE X E (.Attribute e f pos) (jF Z m):=by
 intro pins s σ H Q I h;refine BU hb (dy (he pins s σ H (fun v H1=>∃ ι d,RelD X.K ι H1 d v/\∃ n a b va vb C dx p,d= .exc n [a,b]/\n∈aW/\v= .ref p/\W.nsIn X.K mainGlobals n=some (some (.ref C))/\H1 p=some (.ext (kT C p (some dx)))/\H1 dx=some (.xd [("many",va),("most",vb)])/\Q (if Z then vb else va) H1) I ?_) fun u s1 ⟨v,H1,I1,rv,ι,d,rd,n,a,b,va,vb,C,dx,p,hd,hn,hp,hns,g1,g2,q⟩=>?_)
 ·obtain⟨ι,S,ρ,rep,re,c⟩:=h;refine⟨ι,S,ρ,rep,re,ak (ai c) fun d ι1 S1 H1 e1 rep1 c1 v r=>⟨ι1,d,r,?_⟩⟩;unfold xc at c1;split at c1
  ·next n a b=>
   split at c1
   ·next hn=>
    cases r with
    | excF hns h1 h2 h3 h4=>
     rename_i p C dx fs
     match fs,h3,h4,h2 with
     |[(f1,va),(f2,vb)],h3,h4,h2=>
      have e1:f1="many":=(LY h3).1;have e2:f2="most":=(LY (LY h3).2).1;subst e1 e2;obtain⟨_,_,e3,ra,r2⟩:=h4.cons_inv;obtain⟨e4,e5⟩:=LY e3;subst e4 e5;obtain⟨_,_,e6,rb,_⟩:=r2.cons_inv;obtain⟨e7,_⟩:=LY e6;subst e7;refine⟨n,a,b,va,vb,C,dx,p,rfl,hn,rfl,hns,h1,h2,?_⟩;have:=ah c1 .refl rep1;cases Z with
      |true=>exact this _ rb
      |false=>exact this _ ra
     |[],h3,_,_=>cases h3
     |[_],h3,_,_=>have:=My List.length h3;simp at this
     |_::_::_::_,h3,_,_=>have:=My List.length h3;simp at this
   ·exact(ag c1).elim
  ·exact(ag c1).elim
 ·subst hp;obtain rfl:u=Value.ref p:=rv;obtain⟨C',EA⟩:=ik eK hn;have:=EA.ns.symm.trans hns;cases this;refine uu (f:=f) (v:=if Z then vb else va) EA.ck (Y n hn C hns) (by rw[hf];cases Z<;>first|exact EA.ck.mf|exact EA.ck.ms) I1 g1 g2 (by rw[hf];cases Z<;>rfl) (by rw[hf];cases Z<;>decide) fun u' s' I' ru=>⟨_,H1,I',ru,q⟩
end
section
variable {X:Cx}{E:XD}{st:Stmt}{m:TM}{i:Nat}
end
def Hm:Stmt->Stmt
 | .ClassDef _ _ _ (b::_) .. =>b
 |s=>s
structure GrX(P:Program)(w:World)(K:W.Frag)(mg:Str->Option Value)(base:Heap):Prop where
 ex:∃ C f fd,W.nsIn K mainGlobals "TooGreat"=some (some (.ref C))/\j3 K C f=true/\FnOk P w K mg base (j9 P w) 1 f fd ["self","many","most"] (HP C)/\Binds K fd ["self","many","most"] []
theorem AX{P:Program}{w:World}{K:W.Frag}{mg:Str->Option Value}{base h:Heap}{C f:Addr}{fd:FuncData}{st:Stmt}{p1 p2 p3 p4 p5 p6 p7 p8:Pos}(F:Fun K "__init__" "TooGreat.__init__" st f fd)(X:K.In h)(eK:fF K=true)(Y:W.nsIn K mainGlobals "TooGreat"=some (some (.ref C)))(Z:j3 K C f=true)
  (Sc:FnScope ["self","many","most"] ["self","many","most"] (av st)) (hl:∀ x∈(["self","many","most"]:List Str),(av st).names.lookup x=some .local) (U:Binds K fd ["self","many","most"] [])
  (hb:c9 st=[.Assign [.Attribute (.Name "self" p1) "many" p2] (.Name "many" p3) p4,.Assign [.Attribute (.Name "self" p5) "most" p6] (.Name "most" p7) p8]):GrX P w K mg base:=by
 obtain⟨C',EA⟩:=ik eK (show("TooGreat":Str)∈aW by decide)
 have:=EA.ns.symm.trans Y;cases this;exact⟨C,f,fd,Y,Z,CK F (qK X EA.ck Z).1 EA.ck Sc hl hb,U⟩
section
variable {X:Cx}{Ek:XK}
theorem AY(L:Leaves X Ek)(hc:X.calm=true)(eK:fF X.K=true)(GR:GrX X.prog X.w X.K X.mg X.base)(hr:Room 2 X.A)
  (ha:SA X (t8 X.K Ek) (e::es) ms) (hg:Gl X "TooGreat":=by rfl)
  (he:starEach (e::es) X.env=(false,eval e X.env)::starEach es X.env:=by rfl) (Z:(backTo cpos (starEach es X.env)).any (·.1)=false:=by rfl):
  SS X (t8 X.K Ek) (.Raise (some (.Call (.Name "TooGreat" np) (e::es) [] cpos)) none pos) (nv ms):=by
 obtain⟨C,f,fd,h1,h2,h3,h4⟩:=GR.ex;exact yz L hc eK h1 h2 h3 h4 hr ha hg he Z
end
theorem DefX.none{P:Program}{w:World}{K:W.Frag}{mg:Str->Option Value}{base:Heap}{k:Nat}{x qual:Str}{st:Stmt}{f:Addr}{fd:FuncData}{ps:List Str}(F:Fun K x qual st f fd)(hm:mg x=some (.ref f))(hb:Binds K fd ps []):DefX P w K mg base k x ps (fun _=>M.fail):=
 ⟨f,fd,⟨fun vs H Q E ⟨_,_,_,_,_,h⟩=>(ag h).elim,fun A outer s H args us vs Q E _ _ _ _ ⟨_,_,_,_,_,h⟩=>(ag h).elim⟩,hm,F.kp,hb⟩
def CL(K:W.Frag):Bool:=aW.all fun n=>match W.nsIn K mainGlobals n with
 |some (some (.ref C))=>(match W.clsIn K C with|some cd=>cd.hasDict|none=>true)
 |_=>true
theorem DE{K:W.Frag}(h:CL K=true):∀ n∈aW,∀ C,W.nsIn K mainGlobals n=some (some (.ref C))->∀ cd,W.clsIn K C=some cd->cd.hasDict=true:=by
 intro n hn C hC cd Z;have:=Kg.mp h n hn;rw[hC]at this;dsimp only at this;rw[Z]at this;exact this
section
variable {X:Cx}{E:XD}
theorem CM(eK:fF X.K=true)(hd:CL X.K=true)(he:SE X E e m)(hb:attributeBase e "many" X.env (eval e X.env)=eval e X.env:=by rfl):SE X E (.Attribute e "many" pos) (jF false m):=xf eK (DE hd) he rfl hb
theorem CN(eK:fF X.K=true)(hd:CL X.K=true)(he:SE X E e m)(hb:attributeBase e "most" X.env (eval e X.env)=eval e X.env:=by rfl):SE X E (.Attribute e "most" pos) (jF true m):=xf eK (DE hd) he rfl hb
end
end S7
namespace S3
open PySem PySem.Spec PyProof.Rows L2 S4
mutual
theorem si:∀ d,fW n d=true->iB n g d=some d
 | .lst k,h=>by unfold fW at h;unfold iB;rw[if_pos (KD h)]
 | .tup ds,h=>by unfold fW at h;unfold iB;rw[hV ds h];rfl
 | .ro ds,h=>by unfold fW at h;unfold iB;rw[hV ds h];rfl
 | .fz ds,h=>by unfold fW at h;unfold iB;rw[hV ds h];rfl
 | .fn _ _ _ ds _,h=>by unfold fW at h;unfold iB;rw[hV ds h];rfl
 | .exc _ ds,h=>by unfold fW at h;unfold iB;rw[hV ds h];rfl
 | .non,_=>by unfold iB;rfl
 | .bl _,_=>by unfold iB;rfl
 | .int _,_=>by unfold iB;rfl
 | .str _,_=>by unfold iB;rfl
 | .emp,_=>by unfold iB;rfl
theorem hV:∀ ds,cF n ds=true->fX n g ds=some ds
 |[],_=>by unfold fX;rfl
 |d::ds,h=>by
  unfold cF at h;rw[Lf]at h;unfold fX;rw[si d h.1,hV ds h.2]
end
mutual
theorem xg(Z:m<=n):∀ d,fW m d=true->fW n d=true
 | .lst k,h=>by unfold fW at h ⊢;exact JZ (JW (KD h) Z)
 | .tup ds,h=>by unfold fW at h ⊢;exact jG Z ds h
 | .ro ds,h=>by unfold fW at h ⊢;exact jG Z ds h
 | .fz ds,h=>by unfold fW at h ⊢;exact jG Z ds h
 | .fn _ _ _ ds _,h=>by unfold fW at h ⊢;exact jG Z ds h
 | .exc _ ds,h=>by unfold fW at h ⊢;exact jG Z ds h
 | .non,_=>by unfold fW;rfl
 | .bl _,_=>by unfold fW;rfl
 | .int _,_=>by unfold fW;rfl
 | .str _,_=>by unfold fW;rfl
 | .emp,_=>by unfold fW;rfl
theorem jG(Z:m<=n):∀ ds,cF m ds=true->cF n ds=true
 |[],_=>by unfold cF;rfl
 |d::ds,h=>by
  unfold cF at h ⊢;rw[Lf]at h ⊢;exact⟨xg Z d h.1,jG Z ds h.2⟩
end
section
variable {c:M D}{S:aA}{Q:D->aA->Prop}{v:D}
theorem xh:ji (pure v)=pure v:=by
 funext S;show(if S.length<=S.length then _ else _)=_;rw[if_pos (JK _)];rfl
theorem AZ:ji (M.raise x)=M.raise x:=rfl
theorem l8(e:c S=some (.ok d,S'))(hk:oH S S')(hl:S.length<S'.length\/u=d)(hn:S.length<=S'.length)(hu:iB S.length (vO S' S.length 60) d=some u):ji c S=some (.ok u,S'.take S.length):=by
 unfold ji;rw[e];dsimp only;by_cases h:S'.length<=S.length
 ·have hd:u=d:=hl.resolve_left (by omega)
  rw[if_pos h,hd,Mr h]
 ·rw[if_neg h,if_pos hk,hu]
theorem CO(h:runs c S fun d S'=>oH S S'/\S.length<=S'.length/\fW S.length d=true/\Q d (S'.take S.length)):runs (ji c) S Q:=by
 obtain⟨d,S',e,hk,hl,hd,q⟩:=h;exact⟨d,_,l8 e hk (.inr rfl) hl (si d hd),q⟩
theorem oJ:oH S (S++G):=fun k xs hk e=>.inl (by rw[Kl hk]at e;exact e)
theorem A0(h:runs c S fun d S'=>(∃ G,S'=S++G)/\fW S.length d=true/\Q d S):runs (ji c) S Q:=by
 obtain⟨d,S',e,⟨G,rfl⟩,hd,q⟩:=h;exact CO ⟨d,_,e,oJ,by simp,hd,by simpa using q⟩
theorem A1(h:runs c S fun d S'=>∃ G p us,d= .lst p/\S'=S++G/\S'[p]? =some us/\S.length<=p/\cF S.length us=true/\Q (.fz us) S):runs (ji c) S Q:=by
 obtain⟨d,S',e,G,p,us,rfl,rfl,hp,hl,hu,q⟩:=h;have Z:=(JN.mp hp).1;refine⟨.fz us,S,?_,q⟩;have:=l8 (u:=.fz us) e oJ (.inl (by omega)) (by simp) (by
  unfold iB;rw[if_neg (by omega)]
  show(((S++G)[p]?).bind fun xs=>fX S.length (vO (S++G) S.length 59) xs).map D.fz=_;rw[hp,LG,hV us hu];rfl)
 rw[this];simp
theorem cN{α:Type}{c:M α}{v:α}(h:∀ S,runs c S fun d S'=>d=v/\S'=S):c=pure v:=by
 funext S;obtain⟨d,S',e,rfl,rfl⟩:=h S;exact e
theorem Hn(hv:fW 0 v=true)(h:∀ S,runs c S fun d S'=>d=v/\∃ G,S'=S++G):ji c=pure v:=
 cN fun S=>A0 (qD (h S) fun d S' ⟨e,g⟩=>⟨g,by rw[e];exact xg (J4 _) v hv,e,rfl⟩)
theorem CP(hv:cF 0 us=true)(h:∀ S,runs c S fun d S'=>∃ G p,d= .lst p/\S'=S++G/\S'[p]? =some us/\S.length<=p):ji c=pure (.fz us):=
 cN fun S=>A1 (qD (h S) fun d S' ⟨G,p,e1,e2,e3,e4⟩=>⟨G,p,us,e1,e2,e3,e4,jG (J4 _) us hv,rfl,rfl⟩)
theorem dZ(hv:cF 0 us=true)(hl:us.length<=lim):ji (bD us)=pure (.fz us):=
 CP hv fun S=>yn.mpr ⟨hl,[us],S.length,rfl,rfl,by simp,JK _⟩
end
theorem eB:gp ⟨its,.none⟩=pure ():=by
 funext S;unfold gp;rw[if_pos (show Iter.okS ⟨its,.none⟩ S from trivial)];rfl
section
variable {its:List D}{g:lM}{t:aM->M Bool}{m:TM}
theorem uw(R:aM->Prop)(q:D->Bool)(f:D->D):∀(items:List D) (ρ:aM),R ρ->(∀ d∈items,∀ ρ,R ρ->∃ ρ1,g d ρ=pure ρ1/\R ρ1/\t ρ1=pure (q d)/\(q d=true->m ρ1=pure (f d)))->
  df ⟨its,.none⟩ g t m items ρ=pure ((items.filter q).map f)
 |[],ρ,_,_=>by unfold df;rw[eB];rfl
 |d::ds,ρ,hR,hb=>by
  obtain⟨ρ1,e1,Z,e2,e3⟩:=hb d (JX ..) ρ hR;have ih:=uw R q f ds ρ1 Z fun x hx=>hb x (JR _ hx);unfold df;rw[eB,ay,e1,ay,e2,ay,ih];cases hq:q d with
  |true=>rw[Lz hq,if_pos rfl,e3 hq,ay];rfl
  |false=>rw[LA (by rw[hq];decide),if_neg (by decide)]
theorem sj(R:aM->Prop)(q:D->Bool)(f:D->D)(hl:its.length<=lim)(hR:R ρ)(hb:∀ d∈its,∀ ρ,R ρ->∃ ρ1,g d ρ=pure ρ1/\R ρ1/\t ρ1=pure (q d)/\(q d=true->m ρ1=pure (f d))):
  gZ ⟨its,.none⟩ g t m ρ=pure ((its.filter q).map f):=by
 unfold gZ;rw[if_pos hl];exact uw R q f its ρ hR hb
theorem qL{bd:BM}(R:aM->Prop)(q:D->Bool)(f:D->List D):∀(items:List D) (ρ:aM),R ρ->(∀ d∈items,∀ ρ,R ρ->∃ ρ1,g d ρ=pure ρ1/\t ρ1=pure (q d)/\(q d=true->∃ ρ2,R ρ2/\bd ρ1=pure (f d,ρ2))/\(q d=false->R ρ1))->
  ∃ ρ',R ρ'/\cB ⟨its,.none⟩ g t bd items ρ=pure ((items.filter q).flatMap f,ρ')
 |[],ρ,hR,_=>⟨ρ,hR,by unfold cB;rw[eB];rfl⟩
 | d::ds,ρ,hR,hb=>by
  obtain⟨ρ1,e1,e2,e3,e4⟩:=hb d (JX ..) ρ hR;have Y:=fun x hx=>hb x (JR d hx);cases hq:q d with
  |true=>
   obtain⟨ρ2,U,e5⟩:=e3 hq;obtain⟨ρ',Z,ih⟩:=qL R q f ds ρ2 U Y;refine⟨ρ',Z,?_⟩;unfold cB;rw[eB,ay,e1,ay,e2,ay,hq,if_pos rfl,e5,ay];show(cB _ g t bd ds ρ2>>=_)=_;rw[ih,ay,Lz hq];rfl
  |false=>
   obtain⟨ρ',Z,ih⟩:=qL R q f ds ρ1 (e4 hq) Y;refine⟨ρ',Z,?_⟩;unfold cB;rw[eB,ay,e1,ay,e2,ay,hq,if_neg (by decide),ih,LA (by rw[hq];decide)]
end
end S3
namespace S7
open PySem PySem.Spec PyProof.Rows L2 S3
def A3(cx:Str)(jn jy:Nat)(c:M D)(ρ:S3.aM):M Out:=fun S=>match c S with
 |some (.ok _,S')=>some (.ok (.nx ρ),S')
 |some (.ex (.exc n ds),S')=>if n∈aW/\bh n cx=true then some (.ok (.nx (((ρ.set jn (some (.exc n ds))).set jy (some (.exc n ds))).set jn none)),S')else none
 |_=>none
open Classical in
def mL(cx:Str)(i jn jy:Nat)(f:D)(c:M D):cT:=fun ρ=>if ρ[i]? =some (some f)then A3 cx jn jy c ρ else M.fail
section
variable {X:Cx}{E:XD}{k i jn jy:Nat}{a c':Addr}{ql:Str}{ds:List D}{vs:List V}{m:TM}{x n y cx:Str}{p cpos epos np p1 p2 p3 hpos tpos:Pos}
theorem CQ(O:cx∈aW)(c1:X.stack=X.env::X.outer)(b6:X.env.frame=some X.env.locals)(L:LamOk X.prog X.w X.K X.mg X.base k a (Fo X.K c' ql ds vs m))(hr:Room k X.A)(hN:X.N.Nodup)(eK:fF X.K=true)(G:Mod X.K X.mg X.base)(hi:X.N[i]? =some x)(hv:xy X.env.scope x)
  (b3:X.N[jn]? =some n) (b0:X.N[jy]? =some y) (b5:X.env.scope.names.lookup n=some .local) (c2:X.env.scope.names.lookup y=some .local) (hg:Gl X cx)
  (hd:(x==("__debug__":Str))=false:=by decide) (a6:(x==("__classdict__":Str))=false:=by decide) (b4:(cx==("__debug__":Str))=false:=by decide) (b1:(n==("__debug__":Str))=false:=by decide) (a4:(n==("__classdict__":Str))=false:=by decide)
  (c0:swapsWith (.Call (.Name x p) [] [] cpos) none epos.line X.env=pure false:=by rfl) (U:swapsWith (.Name n p2) (some (.Name y p1)) p3.line X.env=pure false:=by rfl):
  SS X E (.Try [.Expr (.Call (.Name x p) [] [] cpos) epos] [.ExceptHandler (some (.Name cx np)) (some n) [.Assign [.Name y p1] (.Name n p2) p3] hpos] [] [] tpos) (mL cx i jn jy (.fn a c' ql ds vs) (m (ds.map some))):=by
 obtain⟨CW,EW⟩:=ik eK O;refine PS.imp (qG c1 b6 L hr hN hi hv b3 b0 b5 c2 hg (J0 G.kin G.glob EW.ns) hd a6 b4 b1 a4 c0 U) fun T σ H h=>?_;obtain⟨ι,S,ρ,rep,re,r,S',e,q⟩:=h;have e:mL cx i jn jy (.fn a c' ql ds vs) (m (ds.map some)) ρ S=some (r,S'):=e;unfold mL at e;by_cases hρ:ρ[i]? =some (some (.fn a c' ql ds vs))
 case neg=>rw[if_neg hρ]at e;cases e
 rw[if_pos hρ]at e;unfold A3 at e;obtain⟨v,e1,rv⟩:=re.get hρ;cases rv with
 | fn hc' rds=>
  refine⟨e1,ι,S,rep,hc',rds,?_⟩;cases z:m (ds.map some) S with
  |none=>rw[z]at e;cases e
  | some pr=>
   obtain⟨r1,S1⟩:=pr;rw[z]at e;cases r1 with
   |ok d=>
    cases e;exact⟨_,_,z,fun ι1 H1 x1 rep1 v' _=>q ι1 H1 x1 rep1 σ (re.later rep x1)⟩
   | ex xd=>
    cases xd with
    | exc nm es=>
     dsimp only at e;split at e
     case isFalse=>cases e
     case isTrue hnm=>
     cases e;refine⟨_,_,z,fun ι1 H1 x1 rep1 cls od rx=>?_⟩;obtain⟨n2,c3,C,e2,Y,rfl,b2⟩:=rx;cases e2;obtain⟨C2,EA⟩:=ik eK hnm.1;have:=EA.ns;rw[Y]at this;cases this;obtain⟨D2,f1,f2,f3⟩:=EA.sub cx O;rw[EW.ns]at f1;cases f1;refine⟨C,rfl,by rw[f3,hnm.2],fun ea Z=>?_⟩
     have xe:Ext ι1 H1 ι1 (upd H1 ea (.ext (kT C ea od))):=dQ Z;have rn:RelD X.K ι1 (upd H1 ea (.ext (kT C ea od))) (.exc nm es) (.ref ea):=by
      rcases b2 with⟨rfl,rfl⟩|⟨dx,fs,rfl,g1,g2,g3⟩
      ·exact .exc Y aN
      ·exact .excF Y aN (by rw[aB (aH g1 Z)];exact g1) g2 (g3.later rep1 xe)
     exact q ι1 _ (x1.trans xe) (eY rep1 Z) _ (RelE.unset jn ((((re.later rep x1).later rep1 xe).set rn jn).set rn jy))
    |_=>cases e
end
open Classical in
def ll(i:Nat)(fv:D)(ms:S3.aM->M (List D))(cc:M D)(R:M D->List D->M D):TM:=fun ρ=>if ρ[i]? =some (some fv)then (do let es<-ms ρ;R cc es)else M.fail
section
variable {X:Cx}{x ql:Str}{k k0 i:Nat}{a c':Addr}{ps:List Str}{R:D->M D->List D->M D}{R':M D->List D->M D}{p pos:Pos}{e:Expr}{es:List Expr}{ms:S3.aM->M (List D)}{m:TM}{ds:List D}{vs:List V}
open Classical in
theorem CS(d:RefX X.prog X.w X.K X.mg k k0 x ps R)(hR:∀ f c es,R f c es=R' c es)(G:Mod X.K X.mg X.base)(L:LamOk X.prog X.w X.K X.mg X.base k0 a (Fo X.K c' ql ds vs m))(hr:Room k X.A)(hv:SE X cb e (mV i))(ha:SA X cb es ms)
  (hg:Gl X x:=by rfl) (Y:(x==("__debug__":Str))=false:=by decide) (he:starEach (e::es) X.env=(false,eval e X.env)::starEach es X.env:=by rfl) (Z:(backTo pos (starEach es X.env)).any (·.1)=false:=by rfl):
  SE X cb (.Call (.Name x p) (e::es) [] pos) (ll i (.fn a c' ql ds vs) ms (m (ds.map some)) R'):=by
 obtain⟨fr,fd,hm,hk,hb,F⟩:=d.ex;refine PE.imp (rh (F X.base G a c' ql ds vs m L) hr hg hm hk hb (.nil) (E:=E0) qF (af hv ha he) Y he Z) fun σ H Q h=>?_;obtain⟨ι,S,ρ,rep,re,c⟩:=h;have c:cont X.K cb (ll i (.fn a c' ql ds vs) ms (m (ds.map some)) R' ρ) ι S H (kq X.K Q):=c;have c2:cont X.K cb (aa (mV i) ms ρ>>=fun l=>match l with|d0::es=>(if d0= .fn a c' ql ds vs then R' (m (ds.map some)) es else M.fail)|[]=>M.fail) ι S H (kq X.K Q):=by
  unfold ll at c;by_cases hρ:ρ[i]? =some (some (.fn a c' ql ds vs))
  ·rw[if_pos hρ]at c;have e1:aa (mV i) ms ρ=ms ρ>>=fun es=>pure (.fn a c' ql ds vs::es):=by
    show(B5 ρ i>>=fun x=>ms ρ>>=fun xs=>pure (x::xs))=_;unfold B5;rw[hρ];rfl
   rw[e1,cH];have e2:(fun es=>(pure (D.fn a c' ql ds vs::es):M (List D))>>=fun l=>match l with|d0::es=>(if d0= .fn a c' ql ds vs then R' (m (ds.map some)) es else M.fail)|[]=>M.fail)=fun es=>R' (m (ds.map some)) es:=by
    funext es;rw[ay];exact if_pos rfl
   rw[e2];exact c
  ·rw[if_neg hρ]at c;exact(ag c).elim
 refine⟨ι,S,ρ,rep,re,ak (ai c2) fun l ι1 S1 H1 e1 rep1 c1 us r1=>?_⟩;show wV X.K R a c' ql ds vs m (us++[]) H1 Q E0;rw[Kd]
 match l,c1,r1 with
 |[],c1,_=>exact(ag c1).elim
 | d0::es,c1,r1=>
  dsimp only at c1;by_cases hd:d0= .fn a c' ql ds vs
  ·rw[if_pos hd]at c1;subst hd;obtain⟨v,ws,rfl,r2,r3⟩:=r1.cons_inv;cases r2 with
   |fn hc' rds=>exact⟨ι1,S1,ws,es,rfl,rep1,hc',rds,r3,by rw[hR];exact c1⟩
  ·rw[if_neg hd]at c1;exact(ag c1).elim
end
section
variable {X:Cx}{E:XD}{pos:Pos}
def I0(K:W.Frag)(n:Nat)(t:Dt):TG:=fun v σ H Q=>∃ a xs,v= .ref a/\j7 K H a xs/\xs.length=n/\t xs σ H Q
theorem FE(hc:X.calm=true)(h:yU X es t)
  (hn:(assignEach es X.env).length=n:=by rfl) (Z:(assignEach es X.env).findIdx? (·.1)=none:=by rfl):PG X (.Tuple es k pos) (I0 X.K n t):=by
 intro pins s σ H v u Q I r hw;obtain⟨a,xs,e1,hq,hl,hw⟩:=hw;subst e1;cases r;obtain⟨its,rv,ht,hz⟩:=I.list hq;have hL:s.heap.IsList a its.toArray:=by
  obtain⟨o,n',e1,e2,e3,e4⟩:=ht;exact⟨o,e1,e2,n',e4⟩
 rw[assign_Tuple];refine JG (Ky ?_);unfold unpack;rw[show(assignEach es X.env).length=its.toArray.size by simp[hn, <-hl,rv.length],Z]
 refine JG (Ko (W.kun_itemsOf (I.ok.hd hc) hL fun h' hx=>?_));have I1:L2.Inv X pins σ H {s with heap:=h'}:=I.kept (t':=s.toks) fun b o e=>hx b o (JT (JO e)) e;exact h pins _ σ H xs _ Q I1 (by simpa using rv) hw
def oK(n:Nat)(gs:List D->S3.aM->M S3.aM):lM:=fun d ρ=>match d with
 | .fz ds=>if ds.length=n then gs ds ρ else M.fail
 |_=>M.fail
theorem A4(hc:X.calm=true)(h:GZ X E es gs)(hn:(assignEach es X.env).length=n:=by rfl)(Z:(assignEach es X.env).findIdx? (·.1)=none:=by rfl):
  SG X E (.Tuple es k pos) (oK n gs):=by
 refine PG.imp (FE hc h hn Z) fun v σ H Q q=>?_;obtain⟨ι,S,ρ,d,rep,re,r,c⟩:=q;cases d with
 |fz ds=>
  cases r with
  |fz h1 h2=>
  dsimp only[oK]at c;split at c
  ·next hl=>exact⟨_,_,rfl,.inl (.inr ⟨_,h1⟩),by rw[<-h2.length];exact hl,ι,S,ρ,ds,rep,re,h2,c⟩
  ·exact(ag c).elim
 |_=>exact(ag c).elim
end
end S7
namespace W
open PySem PySem.Spec PyProof.Rows L2 S3 S4 S7
def oM:cT:=bO (pU (gh (mV 0) "int") (IV (gh (mV 0) "bool")))
def cz:List D->M D:=lF 1 1 oM
def qM:cT:=bO (pU (gh (mV 0) "tuple") (aU mS (cG cn (mV 0)) (mK (.int 2))))
def cW:List D->M D:=lF 1 1 qM
def gM:j8:=mE
def gO:TM:=aU ng (mV 0) (mV 1)
def mM:cT:=bO (cG tR (aV (cQ (qI (mV 0) (aV (DA (mV 0) (oS (mK (.int 1))) (oN)))) (fS 2 (ba (gN 0) (ba (gN 1) (eh)))) gM gO [none,none])))
def eU:List D->M D:=lF 1 1 mM
def eE:j8:=mE
def cO:j8:=mE
def bY:TM:=dX (aa (mV 0) (aa (mV 1) (ao)))
def oO:cT:=bO (aV (iq (lY (mV 0)) (gN 0) eE (t5 (aU cq (mV 0) (mK (.int 1))) (mV 2)) (gN 1) cO bY [none,none,some 0]))
def dJ:List D->M D:=lF 1 1 oO
def lp:cT:=bO (Jl (aU mS (aU br (mV 0) (mK (.int 0))) (aU br (mV 1) (mK (.int 0)))) (aU mS (aU br (mV 0) (mK (.int 1))) (aU br (mV 1) (mK (.int 1)))))
def d4:List D->M D:=lF 2 2 lp
def jH:cT:=aJ (jz (eT ng (mV 1) (cG cn (mV 0))) (bO (aU br (mV 0) (mV 1))) (eP)) (bO (mK (.int 0)))
def cX:List D->M D:=lF 2 2 jH
def mO:cT:=aJ (jz (bV (aU br (mV 0) (mK (.int 1)))) (aJ (bK 2 (aU rH (aU br (mV 0) (mK (.int 0))) (mV 1))) (aJ (mU (aU wt (aU br (mV 0) (mK (.int 0))) (mV 1)) (HL (mV 0) (mK (.int 0)))) (bO (mV 2)))) (eP)) (aJ (mU (aU rH (aU cq (aU rG (aU br (mV 0) (mK (.int 0))) (mK (.int 48271))) (mK (.int 29))) (mK (.int 2147483647))) (HL (mV 0) (mK (.int 0)))) (aJ (bK 3 (aU rH (aU cq (aU cq (aU rG (aU br (mV 0) (mK (.int 0))) (aU br (mV 0) (mK (.int 0)))) (aU rG (mK (.int 39373)) (aU br (mV 0) (mK (.int 0))))) (mK (.int 7))) (mK (.int 2147483629)))) (aJ (bK 3 (aU rH (aU cq (aU rG (mV 3) (mV 3)) (aU rG (mK (.int 16807)) (mV 3))) (mK (.int 2147483587)))) (bO (aU rH (aU wt (mV 3) (mK (.int 8))) (mV 1))))))
def aq:List D->M D:=lF 4 2 mO
def dM:cT:=jz (pI (eT inD (aU br (aU br (mV 1) (mV 3)) (mK (.int 0))) (aU br (mV 1) (mV 4))) (eT inD (aU br (aU br (mV 1) (mV 3)) (mK (.int 1))) (aU br (mV 1) (mV 4)))) (sX (wN dR (mV 2) (dX (aa (mV 3) (aa (mV 4) (ao)))))) (eP)
def gQ:cT:=kE (t5 (aU cq (mV 3) (mK (.int 1))) (cG cn (mV 1))) (gN 4) dM
def hZ:cT:=aJ (bK 1 (aU br (mV 0) (mK (.int 1)))) (aJ (bK 2 (bx (ao))) (aJ (kE (lY (cG cn (mV 1))) (gN 3) gQ) (bO (dX (aa (cG cn (mV 1)) (aa (cG dv (mV 2)) (ao)))))))
def eV:List D->M D:=lF 5 1 hZ
def dh:cT:=sX (wN dR (mV 2) (dX (aa (az minD (aa (aU br (mV 1) (mV 3)) (aa (aU br (mV 1) (mV 4)) (ao)))) (aa (az maxD (aa (aU br (mV 1) (mV 3)) (aa (aU br (mV 1) (mV 4)) (ao)))) (ao)))))
def gw:cT:=aJ (bK 2 (bx (ao))) (aJ (kE (ij (aU br (mV 0) (mK (.int 1)))) (fS 2 (ba (gN 3) (ba (gN 4) (eh)))) dh) (bO (dX (aa (aU br (mV 0) (mK (.int 0))) (aa (cG dv (aV (cG bX (mV 2)))) (ao))))))
def d5:List D->M D:=lF 5 2 gw
def gR:cT:=sX (wN jW (mV 1) (aV (bx (aa (dX (aa (mV 2) (aa (aU br (aU br (aU br (mV 0) (mK (.int 1))) (mV 2)) (mK (.int 0))) (ao)))) (aa (dX (aa (mV 2) (aa (aU br (aU br (aU br (mV 0) (mK (.int 1))) (mV 2)) (mK (.int 1))) (ao)))) (ao))))))
def cA:cT:=jz (pI (eT mS (aU br (aU br (mV 1) (mV 4)) (mK (.int 0))) (aU br (aU br (mV 1) (mV 5)) (mK (.int 0)))) (eT mS (aU br (aU br (mV 1) (mV 4)) (mK (.int 1))) (aU br (aU br (mV 1) (mV 5)) (mK (.int 1))))) (sX (wN dR (mV 3) (dX (aa (mV 4) (aa (mV 5) (ao)))))) (eP)
def gS:cT:=kE (t5 (aU cq (mV 4) (mK (.int 1))) (cG cn (mV 1))) (gN 5) cA
def ia:cT:=aJ (bK 1 (bx (ao))) (aJ (kE (lY (cG cn (aU br (mV 0) (mK (.int 1))))) (gN 2) gR) (aJ (bK 3 (bx (ao))) (aJ (kE (lY (cG cn (mV 1))) (gN 4) gS) (bO (dX (aa (cG cn (mV 1)) (aa (cG dv (mV 3)) (ao))))))))
def eW:List D->M D:=lF 6 1 ia
def oQ:cT:=bO (pU (az cz (aa (mV 1) (ao))) (Fg EJ ng (mK (.int 0)) (mV 1) (mV 0)))
def fN:List D->M D:=lF 2 2 oQ
def lq:cT:=aJ (bK 2 (az cX (aa (mV 0) (aa (mV 1) (ao))))) (aJ (jz (eT IQ (mV 2) (aU zJ (mK (.int 10)) (mK (.int 18)))) (bO (bx (aa (aU xT (mV 2) (aU zJ (mK (.int 10)) (mK (.int 18)))) (aa (mK (.bl true)) (ao))))) (eP)) (bO (bx (aa (aU rH (mV 2) (mK (.int 2147483647))) (aa (mK (.bl false)) (ao))))))
def fe:List D->M D:=lF 3 2 lq
def di:cT:=sX (wN dR (mV 3) (wN lS (mV 2) (aV (az aq (aa (mV 0) (aa (cG cn (mV 2)) (ao)))))))
def gx:cT:=aJ (bK 2 (cG eO (mV 1))) (aJ (bK 3 (bx (ao))) (aJ (Fj 64 (eT ke (mV 2) (aV (bx (ao)))) di) (bO (cG dv (mV 3)))))
def bL:List D->M D:=lF 4 2 gx
def eL:j8:=eT ng (aV (az aq (aa (mV 1) (aa (mK (.int 4)) (ao))))) (mV 2)
def eM:TM:=dX (aa (mV 3) (aa (mV 0) (ao)))
def dj:cT:=sX (wN jW (mV 3) (aV (cQ (t5 (aU cq (mV 4) (mK (.int 1))) (mV 1)) (gN 0) eL eM [none,some 0,some 2,some 4])))
def gy:cT:=aJ (bK 3 (bx (ao))) (aJ (kE (lY (mV 1)) (gN 4) dj) (bO (dX (aa (mV 1) (aa (cG dv (mV 3)) (ao))))))
def bB:List D->M D:=lF 5 3 gy
def ff:cT:=aJ (bK 1 (bx (aZ (mK .non) (aZ (mK (.int 0)) (aZ (mK (.tup [])) (aZ (mK (.tup [.int 15,.tup []])) (aZ (mK (.tup [.int (-1),.tup []])) (aZ (mK (.tup [.bl true,.tup []])) (aZ (dX (aa (mK (.int 2)) (aa (bx (ao)) (ao)))) (aZ (bx (aa (mK (.int 2)) (aa (mK (.tup [])) (ao)))) (aZ (mK (.tup [.int 2,.tup [.tup [.int 1,.int 0]]])) (aZ (mK (.tup [.int 2,.tup [.tup [.int 0,.int 0]]])) (ao))))))))))))) (aJ (bK 1 (aU cq (mV 1) (bx (aZ (mK (.tup [.int 3,.tup [.tup [.int 0,.int 2],.tup [.int 0,.int 1]]])) (aZ (mK (.tup [.int 2,.tup [.tup [.int 0,.int 1],.tup [.int 0,.int 1]]])) (aZ (mK (.tup [.int 2,.tup [.tup [.int 0,.int 1,.int 1]]])) (aZ (mK (.tup [.int 2,.tup [.tup [.int 0,.bl true]]])) (aZ (mK (.tup [.int 2])) (ao))))))))) (aJ (bK 1 (aU cq (mV 1) (bx (aa (mK (.tup [.int 2,.tup [.tup [.int 0,.int 2]]])) (aa (mK (.str "2:")) (aa (mK .emp) (ao))))))) (aJ (bK 1 (aU cq (mV 1) (bx (aZ (dX (aa (mK (.int 2)) (aa (dX (aa (bx (aa (mK (.int 0)) (aa (mK (.int 1)) (ao)))) (ao))) (ao)))) (aZ (mK (.tup [.int 2,.tup [],.tup []])) (aZ (mK (.tup [.int 2,.non])) (aZ (mK (.tup [.str "2",.tup []])) (ao)))))))) (bO (aU br (mV 1) (az aq (aa (mV 0) (aa (mK (.int 22)) (ao)))))))))
def dN:List D->M D:=lF 2 1 ff
def oR:cT:=aJ (jz (fU (bV (az cW (aa (mV 1) (ao))))) (bO (mK (.bl false))) (eP)) (aJ (mU (mV 1) (fS 2 (ba (gN 2) (ba (gN 3) (eh))))) (bO (pU (az fN (aa (mV 0) (aa (mV 2) (ao)))) (pU (az fN (aa (mV 0) (aa (mV 3) (ao)))) (aU ng (mV 2) (mV 3))))))
def jI:List D->M D:=lF 4 2 oR
def bF:cT:=jz (eT EK (aV (az aq (aa (mV 0) (aa (mK (.int 8)) (ao))))) (mK (.int 0))) (aJ (Fi 6 7 (aa (aU br (mV 3) (mV 5)) (aa (aU br (mV 3) (aV (az aq (aa (mV 0) (aa (mV 5) (ao)))))) (ao)))) (sX (wN dR (mV 4) (dX (aa (az minD (aa (mV 6) (aa (mV 7) (ao)))) (aa (az maxD (aa (mV 6) (aa (mV 7) (ao)))) (ao))))))) (eP)
def bG:cT:=aJ (mU (aV (cG bX (aV (bx (aa (aV (az aq (aa (mV 0) (aa (mV 2) (ao))))) (aa (aV (az aq (aa (mV 0) (aa (mV 2) (ao))))) (ao))))))) (oK 2 (ba (gN 9) (ba (gN 10) (eh))))) (jz (eT ng (mV 9) (mV 10)) (sX (wN dR (mV 4) (dX (aa (mV 9) (aa (mV 10) (ao)))))) (eP))
def eN:cT:=aJ (bK 2 (aU cq (mK (.int 1)) (aV (az aq (aa (mV 0) (aa (az minD (aa (mK (.int 7)) (aa (aU cq (mV 1) (mK (.int 1))) (ao)))) (ao))))))) (aJ (bK 3 (aV (az bL (aa (mV 0) (aa (mV 2) (ao)))))) (aJ (bK 4 (bx (ao))) (aJ (kE (t5 (mK (.int 1)) (mV 2)) (gN 5) bF) (aJ (kE (lY (aV (az aq (aa (mV 0) (aa (mK (.int 4)) (ao)))))) (gN 8) bG) (bO (dX (aa (mV 2) (aa (cG dv (aV (cG bX (aV (DA (aV (cG gK (mV 4))) (oN) (oS (mV 1))))))) (ao)))))))))
def a9:List D->M D:=lF 11 2 eN
def ib:j8:=mE
def ic:TM:=aV (az jI (aa (mV 1) (aa (mV 0) (ao))))
def oU:cT:=aJ (jz (fU (bV (aV (az cW (aa (mV 0) (ao)))))) (bO (mK (.bl false))) (eP)) (aJ (mU (mV 0) (fS 2 (ba (gN 1) (ba (gN 2) (eh))))) (aJ (jz (pI (fU (bV (aV (az cz (aa (mV 1) (ao)))))) (pI (fU (vI EJ EJ (mK (.int 0)) (mV 1) (mK (.int 14)))) (fU (bV (gh (mV 2) "tuple"))))) (bO (mK (.bl false))) (eP)) (bO (pU (cG tR (aV (cQ (ij (mV 2)) (gN 0) ib ic [none,some 1]))) (aV (az eU (aa (mV 2) (ao))))))))
def iK:List D->M D:=lF 3 1 oU
def eF:j8:=eT ke (mV 0) (dX (aa (mV 1) (aa (mV 2) (ao))))
def eG:TM:=mV 0
def i7:cT:=aJ (bK 2 (aV (az aq (aa (mV 0) (aa (mK (.int 6)) (ao)))))) (aJ (jz (eT ng (mV 2) (mK (.int 3))) (aJ (bK 3 (aU xT (mV 1) (aU br (aV (bx (aZ (mK (.int 0)) (aZ (mK (.int 0)) (aZ (mK (.int 1)) (aZ (mK (.int 2)) (aZ (mK (.int 3)) (aZ (mV 1) (ao))))))))) (aV (az aq (aa (mV 0) (aa (mK (.int 6)) (ao)))))))) (bO (aV (az bB (aa (mV 0) (aa (az maxD (aa (mK (.int 0)) (aa (mV 3) (ao)))) (aa (aU cq (mV 2) (mK (.int 1))) (ao)))))))) (eP)) (aJ (bK 4 (aV (az eV (aa (aV (az a9 (aa (mV 0) (aa (mV 1) (ao))))) (ao))))) (aJ (bK 4 (aV (az d5 (aa (mV 4) (aa (aV (az bL (aa (mV 0) (aa (aU br (mV 4) (mK (.int 0))) (ao))))) (ao)))))) (aJ (jz (pI (eT mS (mV 2) (mK (.int 3))) (eT ng (aU br (mV 4) (mK (.int 0))) (mK (.int 2)))) (bO (mV 4)) (eP)) (aJ (mU (aV (cG bX (aV (bx (aa (aV (az aq (aa (mV 0) (aa (aU br (mV 4) (mK (.int 0))) (ao))))) (aa (aV (az aq (aa (mV 0) (aa (aU br (mV 4) (mK (.int 0))) (ao))))) (ao))))))) (oK 2 (ba (gN 5) (ba (gN 6) (eh))))) (aJ (bK 7 (cQ (ij (aU br (mV 4) (mK (.int 1)))) (gN 0) eF eG [none,some 5,some 6])) (aJ (jz (Fh (eT ng (mV 5) (mV 6)) (eT mS (cG cn (mV 7)) (cG cn (aU br (mV 4) (mK (.int 1)))))) (sX (wN dR (mV 7) (dX (aa (mV 5) (aa (mV 6) (ao)))))) (eP)) (bO (dX (aa (aU br (mV 4) (mK (.int 0))) (aa (cG dv (aV (cG bX (mV 7)))) (ao))))))))))))
def dO:List D->M D:=lF 8 2 i7
def oV:cT:=jz (fU (bV (aV (az iK (aa (mV 0) (ao)))))) (Fx "NoWeb" (aa (mK (.str "this is no web")) (ao))) (eP)
def eQ:List D->M D:=nW 1 1 oV
def dm:cT:=aJ (sX (aV (az eQ (aa (mV 0) (ao))))) (jz (eT EK (cG cn (aU br (mV 0) (mK (.int 1)))) (mK (.int 7))) (nv (aa (cG cn (aU br (mV 0) (mK (.int 1)))) (aa (mK (.int 7)) (ao)))) (eP))
def cf:List D->M D:=nW 1 1 dm
def fh:j8:=mE
def d6:j8:=mE
def cL:TM:=dX (aa (mV 0) (aa (mV 2) (ao)))
def i8:j8:=bV (aV (az d4 (aa (aU br (mV 2) (mV 0)) (aa (aU br (mV 2) (mV 1)) (ao)))))
def i9:TM:=dX (aa (mV 0) (aa (mV 1) (ao)))
def iL:cT:=aJ (sX (aV (az cf (aa (mV 0) (ao))))) (aJ (bK 1 (aV (Fw (iq (w5 (aU br (mV 0) (mK (.int 1)))) (fS 2 (ba (gN 0) (ba (gN 1) (eh)))) fh (ij (mV 1)) (gN 2) d6 cL [none,none,none])))) (aJ (bK 2 (cG cn (mV 1))) (bO (dX (aa (mV 2) (aa (cG dv (aV (Fw (cQ (ij (aV (az dJ (aa (mV 2) (ao))))) (fS 2 (ba (gN 0) (ba (gN 1) (eh)))) i8 i9 [none,none,some 1])))) (ao)))))))
def du:List D->M D:=nW 3 1 iL
def fi(F:List D->M D):j8:=mE
def fj(F:List D->M D):TM:=aV (az F (aa (mV 0) (aa (mV 1) (ao))))
def cM(F:List D->M D):cT:=aJ (jz (bV (He (mV 1) "tuple" "list")) (aJ (jz (pI (eT ke (gh (mV 0) "tuple") (gh (mV 1) "tuple")) (eT ke (gh (mV 0) "list") (gh (mV 1) "list"))) (bO (mK (.bl false))) (eP)) (aJ (jz (eT ke (cG cn (mV 0)) (cG cn (mV 1))) (bO (mK (.bl false))) (eP)) (bO (cG tR (aV (cQ (qI (mV 0) (mV 1)) (fS 2 (ba (gN 0) (ba (gN 1) (eh)))) (fi F) (fj F) [none,none])))))) (eP)) (bO (pU (aU mS (mV 0) (mV 1)) (aU mS (gh (mV 0) "bool") (gh (mV 1) "bool"))))
def bC:Nat->List D->M D
 |0=>fun _=>M.fail
 |n+1=>lF 2 2 (cM (bC n))
def cu:List D->M D:=bC 6
def dE:j8:=bV (aU br (mV 1) (mV 0))
def dF:TM:=mV 0
def fq(fv:D)(cc:M D):cT:=aJ (bK 1 (mK .non)) (aJ (ud 0 2 1 fv cc) (aJ (bK 3 (aV (bx (aa (eA (mV 1) "NoWeb") (aa (eA (mV 1) "NoPlace") (aa (eA (mV 1) "NoPlaces") (ao))))))) (aJ (bK 3 (aV (aU cq (mV 3) (aV (bx (aa (eA (mV 1) "NoSharing") (aa (eA (mV 1) "NoRoot") (aa (eA (mV 1) "NoNumber") (ao))))))))) (aJ (bK 3 (aV (aU cq (mV 3) (aV (bx (aa (eA (mV 1) "NotJoined") (aa (eA (mV 1) "NoTie") (aa (eA (mV 1) "NoText") (ao))))))))) (aJ (bK 3 (aV (aU cq (mV 3) (aV (bx (aa (eA (mV 1) "NoLine") (aa (eA (mV 1) "NoDeed") (aa (eA (mV 1) "TooGreat") (ao))))))))) (aJ (bK 3 (aV (aU cq (mV 3) (aV (bx (aa (eA (mV 1) "NoMap") (ao))))))) (aJ (jz (fU (bV (AH (mV 1)))) (bO (mK .non)) (eP)) (bO (aV (cQ (lY (mK (.int 13))) (gN 0) dE dF [none,some 3]))))))))))
def bg:D->M D->List D->M D:=fun fv cc es=>nW 4 1 (fq fv cc) (fv::es)
def a8:M D->List D->M D:=bg (.fn 0 0 "" [] [])
def d7(fv:D)(cc:M D):cT:=aJ (bK 3 (mK .non)) (aJ (mL "TooGreat" 0 4 3 fv cc) (aJ (jz (pI (eT (G5 id) (mV 3) (mK .non)) (eT ke (aV (ll 0 fv (ao) cc a8)) (aV (bx (aa (mK (.int 11)) (ao)))))) (bO (mK (.bl false))) (eP)) (bO (aV (az cu (aa (aV (bx (aa (jF false (mV 3)) (aa (jF true (mV 3)) (ao))))) (aa (aV (bx (aa (mV 1) (aa (mV 2) (ao))))) (ao))))))))
def bq:D->M D->List D->M D:=fun fv cc es=>nW 5 3 (d7 fv cc) (fv::es)
def bW:M D->List D->M D:=bq (.fn 0 0 "" [] [])
def iM:j8:=mE
def iN:TM:=dX (aa (mV 0) (aa (aU cq (aU cq (mV 0) (mK (.int 1))) (aV (az aq (aa (mV 1) (aa (mK (.int 3)) (ao)))))) (ao)))
def oW:TM:=aV (az du (aa (mV 0) (ao)))
def jJ:cT:=jz (eT EK (cG cn (aU br (mV 4) (mK (.int 1)))) (mK (.int 7))) (jz (fU (bV (aV (ue [4] (aa (cG cn (aU br (mV 4) (mK (.int 1)))) (aa (mK (.int 7)) (ao))) oW bW)))) (bO (mK (.bl false))) (eP)) (jz (fU (bV (aV (az cu (aa (aV (az du (aa (mV 4) (ao)))) (aa (aV (az eW (aa (mV 4) (ao)))) (ao))))))) (bO (mK (.bl false))) (eP))
def oX:TM:=aV (az du (aa (mV 0) (ao)))
def jK:cT:=aJ (bK 2 (az fe (aa (mV 0) (aa (mV 1) (ao))))) (aJ (bK 3 (dX (aa (mK (.int 14)) (aa (cG dv (aV (cQ (lY (aV (az aq (aa (mV 2) (aa (mK (.int 8)) (ao)))))) (gN 0) iM iN [none,some 2]))) (ao))))) (aJ (kE (ij (aV (bx (aZ (aV (az a9 (aa (mV 2) (aa (mK (.int 7)) (ao))))) (aZ (aV (az dO (aa (mV 2) (aa (mK (.int 7)) (ao))))) (aZ (mV 3) (aZ (aV (az bB (aa (mV 2) (aa (mK (.int 5)) (aa (mK (.int 4)) (ao)))))) (ao)))))))) (gN 4) jJ) (aJ (bK 5 (aV (az dN (aa (mV 2) (ao))))) (jz (eT ke (aV (ue [5] (ao) oX a8)) (aV (bx (aa (mK (.int 0)) (ao))))) (bO (mK (.bl false))) (eP)))))
def A5:cT:=aJ (kE (lY (az maxD (aa (mK (.int 1)) (aa (az minD (aa (cG cn (mV 0)) (aa (mK (.int 8)) (ao)))) (ao))))) (gN 1) jK) (bO (mK (.bl true)))
def qN:List D->M D:=lF 6 1 A5
theorem lr:2<=lim:=by unfold lim;omega
theorem Ja:3<=lim:=by unfold lim;omega
theorem DF:B5 (some d::r) 0=pure d:=rfl
theorem DG:B5 (o0::some d::r) 1=pure d:=rfl
theorem DH:B5 (o0::o1::some d::r) 2=pure d:=rfl
theorem DI:B5 (o0::o1::o2::some d::r) 3=pure d:=rfl
theorem j4:kd S n (.int i)=some (.int i):=by cases n<;>rfl
theorem sm:kd S n (.bl b)=some (.bool b):=by cases n<;>rfl
theorem eq_int{Q:D->aA->Prop}:runs (mS (.int a) (.int b)) S Q↔Q (.bl (decide (a=b))) S:=by
 unfold mS;rw[i4 j4 j4];have:PyData.eqv (.int a) (.int b)=decide (a=b):=by
  simp only[PyData.eqv];rw[Bool.eq_iff_iff];simp
 rw[this]
theorem ux(l:List Bool):boolsOf (l.map D.bl)=some l:=by
 induction l with
 |nil=>rfl
 |cons b l ih=>simp[boolsOf,ih]
theorem dq:(S++[xs])[S.length]? =some xs:=by simp
theorem Ho{Q:D->aA->Prop}:runs (mS (.bl a) (.bl b)) S Q↔Q (.bl (a==b)) S:=by
 unfold mS;rw[i4 sm sm];have:PyData.eqv (.bool a) (.bool b)=(a==b):=by cases a<;>cases b<;>simp[PyData.eqv]
 rw[this]
theorem yA{α:Type}(a:α):mW (pure a:M α)=pure a:=rfl
theorem xi{α β:Type}{c:Prop} [Decidable c]{a b:M α}{f:α->M β}:((if c then a else b)>>=f)=if c then a>>=f else b>>=f:=by split<;>rfl
theorem fY{α:Type}(l:List α):l.filter (fun _=>true)=l:=List.filter_eq_self.mpr fun _ _=>rfl
theorem gj{m:cT}{ds:List D}(h:m (ds.map some++List.replicate (N - n) none)=pure o)(ho:outD o=pure d)(hl:ds.length=n:=by rfl):lF N n m ds=pure d:=by
 unfold lF nW;rw[if_pos hl];show(mW (m _)>>=outD)=_;rw[h,yA,ay,ho]
theorem sr{m n:TM}(h1:m ρ=pure x)(h2:n ρ=pure y):t5 m n ρ=iZ [x,y]:=by
 have:aa m (aa n ao) ρ=pure [x,y]:=by unfold aa;rw[h1,ay,h2,ay];rfl
 unfold t5;rw[this,ay]
theorem l9{m:TM}(h1:m ρ=pure x):lY m ρ=kC [x]:=by
 have:aa m ao ρ=pure [x]:=by unfold aa;rw[h1,ay];rfl
 unfold lY;rw[this,ay]
theorem A6(h: -(2 ^ 62)<=i/\i<2 ^ 62/\ -(2 ^ 62)<=j/\j<2 ^ 62):iZ [.int i,.int j]=pure ⟨aR i (j - i).toNat,.none⟩:=by unfold iZ;exact if_pos h
theorem su(h: -(2 ^ 62)<=j/\j<2 ^ 62):kC [.int j]=pure ⟨aR 0 j.toNat,.none⟩:=by unfold kC;exact if_pos h
theorem cC{f:D->D->M D}{m n:TM}(h1:m ρ=pure x)(h2:n ρ=pure y):aU f m n ρ=f x y:=by unfold aU;rw[h1,ay,h2,ay]
theorem fG{f:List D->M D}{m:TM}(h:m ρ=pure x):cG f m ρ=f [x]:=by
 have:aa m ao ρ=pure [x]:=by unfold aa;rw[h,ay];rfl
 unfold cG az;rw[this,ay]
theorem gk{m:TM}(h:m ρ=pure x):bO m ρ=pure (.ret x):=by unfold bO;rw[h];rfl
theorem oY(bs:List Bool):cF 0 (bs.map D.bl)=true:=by
 induction bs with
 |nil=>rfl
 |cons x r ih=>rw[J3];unfold cF;rw[ih];unfold fW;rfl
theorem jL{mi:aM->M Iter}{g:lM}{t:j8}{m:TM}(R:aM->Prop)(q:D->Bool)(f:D->D)(hi:mi ρ=pure ⟨its,.none⟩)(hl:its.length<=lim)(hR:R (iG js ρ))(hb:∀ d∈its,∀ ρ,R ρ->∃ ρ1,g d ρ=pure ρ1/\R ρ1/\t ρ1=pure (q d)/\(q d=true->m ρ1=pure (f d)))
  (hc:cF 0 ((its.filter q).map f)=true):aV (cQ mi g t m js) ρ=pure (.fz ((its.filter q).map f)):=by
 have e:cQ mi g t m js ρ=bD ((its.filter q).map f):=by
  unfold cQ;rw[hi,ay,sj R q f hl hR hb,ay]
 unfold aV;rw[e];exact dZ hc (by rw[JI];exact JV (LV _ _) hl)
section
variable {m n:cT}{ρ ρ':aM}{e e1 e2:TM}{x y d:D}{t:j8}{b:Bool}{o:Out}{N k:Nat}{ds:List D}{F:List D->M D}
theorem bJ(h:m ρ=pure (.nx ρ')):aJ m n ρ=n ρ':=by unfold aJ;rw[h];rfl
theorem jM(h:m ρ=pure (.ret d)):aJ m n ρ=pure (.ret d):=by unfold aJ;rw[h];rfl
theorem kG(h:m ρ=M.raise x):aJ m n ρ=M.raise x:=by unfold aJ;rw[h];rfl
theorem DJ(h:e ρ=pure x):sX e ρ=pure (.nx ρ):=by unfold sX;rw[h];rfl
theorem oZ(h:e ρ=M.raise x):sX e ρ=M.raise x:=by unfold sX;rw[h];rfl
theorem sv(h:e ρ=pure x):bK i e ρ=pure (.nx (ρ.set i (some x))):=by unfold bK;rw[h];rfl
theorem b8(h:t ρ=pure b):jz t m n ρ=if b=true then m ρ else n ρ:=by unfold jz;rw[h];rfl
theorem dw{f:D->D->M D}(h1:e1 ρ=pure x)(h2:e2 ρ=pure y)(h:f x y=pure (.bl b)):eT f e1 e2 ρ=pure b:=by
 unfold eT;rw[h1,ay,h2,ay,h];rfl
theorem ft(h:e ρ=pure x):az F (aa e ao) ρ=F [x]:=fG h
theorem uy(h:e ρ=pure x):aV e ρ=pure x:=by unfold aV;rw[h];exact xh
theorem Hq(h:e ρ=M.raise x):aV e ρ=M.raise x:=by unfold aV;rw[h];exact AZ
theorem vU(h:m (ds.map some++List.replicate (N - k) none)=pure o)(ho:outD o=pure d)(hl:ds.length=k:=by rfl):nW N k m ds=pure d:=by
 unfold nW;rw[if_pos hl,h,ay,ho]
theorem iO(h:m (ds.map some++List.replicate (N - k) none)=M.raise x)(hl:ds.length=k:=by rfl):nW N k m ds=M.raise x:=by
 unfold nW;rw[if_pos hl,h];rfl
end
theorem qO:mW (bD us)=bD us:=by
 funext S;unfold mW bD;by_cases h:us.length<=lim
 ·rw[if_pos h]
 ·rw[if_neg h]
theorem A7{mi:aM->M Iter}{g:lM}{t:j8}{m:TM}(R:aM->Prop)(q:D->Bool)(f:D->D)(hi:mi ρ=pure ⟨its,.none⟩)(hl:its.length<=lim)(hR:R (iG js ρ))(hb:∀ d∈its,∀ ρ,R ρ->∃ ρ1,g d ρ=pure ρ1/\R ρ1/\t ρ1=pure (q d)/\(q d=true->m ρ1=pure (f d)))
  (hc:cF 0 ((its.filter q).map f)=true):aV (Fw (cQ mi g t m js)) ρ=pure (.fz ((its.filter q).map f)):=by
 have e:Fw (cQ mi g t m js) ρ=bD ((its.filter q).map f):=by
  unfold Fw cQ;rw[hi,ay,sj R q f hl hR hb,ay,qO]
 unfold aV;rw[e];exact dZ hc (by rw[JI];exact JV (LV _ _) hl)
theorem call2{F:List D->M D}{e1 e2:TM}(h1:e1 ρ=pure x)(h2:e2 ρ=pure y):az F (aa e1 (aa e2 ao)) ρ=F [x,y]:=by
 have:aa e1 (aa e2 ao) ρ=pure [x,y]:=by unfold aa;rw[h1,ay,h2,ay];rfl
 unfold az;rw[this,ay]
theorem jd{e:TM}(h:e ρ=pure (.bl b)):bV e ρ=pure b:=by unfold bV;rw[h];rfl
theorem o6{us:List D}(h:us.length<=lim):dv [.fz us]=pure (.tup us):=by
 show bQ us=_;unfold bQ;rw[if_pos h]
section
variable {α β:Type}{c:M α}{f:α->M β}{S S1:aA}{a:α}
theorem aL(h:c S=some (.ok a,S1)):(c>>=f) S=f a S1:=by
 show M.bnd c f S=_;unfold M.bnd;rw[h]
end
section
variable {m n:cT}{ρ ρ':aM}{e e1 e2:TM}{x y:D}{S S1 S2:aA}{c:M D}{f:D->List D->M D}{F:List D->M D}
theorem aK(h:m ρ S=some (.ok (.nx ρ'),S1)):aJ m n ρ S=n ρ' S1:=aL h
theorem lu(h:e ρ S=some (.ok x,S1)):sX e ρ S=some (.ok (.nx ρ),S1):=aL h
theorem bH(h:e ρ S=some (.ok x,S1)):bK i e ρ S=some (.ok (.nx (ρ.set i (some x))),S1):=aL h
theorem fu(h:e ρ S=some (.ok x,S1)):bO e ρ S=some (.ok (.ret x),S1):=aL h
theorem cD{us:List D}(h:us.length<=lim):bD us S=some (.ok (.lst S.length),S++[us]):=by unfold bD;exact if_pos h
theorem cR(h:S[p]? =some us):getL p S=some (.ok us,S):=by unfold getL;rw[h];rfl
theorem ny{us:List D}(h:us.length<=lim)(hp:p<S.length):lN p us S=some (.ok .non,S.set p us):=by unfold lN;exact if_pos ⟨h,hp⟩
theorem iP(h:e ρ S=some (.ok x,S1)):cG F e ρ S=F [x] S1:=by
 unfold cG az;rw[aL (a:=[x]) (S1:=S1)];show(e ρ>>=_) S=_;rw[aL h];rfl
theorem fw(h1:e1 ρ S=some (.ok x,S1))(h2:e2 ρ S1=some (.ok y,S2)):dX (aa e1 (aa e2 ao)) ρ S=some (.ok (.tup [x,y]),S2):=by
 unfold dX;rw[aL (a:=[x,y]) (S1:=S2)]
 ·unfold bQ;rw[if_pos (show[x,y].length<=lim from lr)];rfl
 ·show(e1 ρ>>=_) S=_;rw[aL h1];show(((e2 ρ>>=_)>>=_):M (List D)) S1=_;rw[aL (a:=[y]) (S1:=S2)]
  ·rfl
  ·rw[aL h2];rfl
end
theorem fx:fT ⟨its,.none⟩ g b [] ρ=pure (.nx ρ):=by
 unfold fT;rw[eB];rfl
theorem eR{g:lM}{b:cT}(h:g d ρ=pure ρ1)(hb:b ρ1 S=some (.ok (.nx ρ2),S1)):fT ⟨its,.none⟩ g b (d::ds) ρ S=fT ⟨its,.none⟩ g b ds ρ2 S1:=by
 rw[fT,eB,ay,h,ay,aL hb]
theorem eS{m:cT}{ds:List D}(h:m (ds.map some++List.replicate (N - n) none) S=some (.ok o,S1))(ho:outD o=pure d)(hl:ds.length=n:=by rfl):lF N n m ds S=some (.ok d,S1):=by
 unfold lF nW;rw[if_pos hl,aL (a:=o) (S1:=S1),ho]
 ·rfl
 ·show mW (m _) S=_;unfold mW;rw[h]
theorem kH{mi:aM->M Iter}(hi:mi ρ=pure ⟨its,.none⟩)(h:fT ⟨its,.none⟩ g b its ρ S=some (.ok o,S1)):kE mi g b ρ S=some (.ok o,S1):=by
 unfold kE;rw[hi,ay];exact h
theorem JC:mS (.int i) (.int i)=pure (.bl true):=cN fun S=>eq_int.mpr ⟨by rw[JZ rfl],rfl⟩
theorem JD:mS (.bl b) (.bl b)=pure (.bl true):=cN fun S=>Ho.mpr ⟨by rw[beq_self_eq_true],rfl⟩
theorem Jb:ke (.bl b) (.bl b)=pure (.bl false):=cN fun S=>by
 unfold ke;refine(i4 sm sm).mpr ⟨?_,rfl⟩;cases b<;>rfl
theorem Jm:ke (.int i) (.int i)=pure (.bl false):=cN fun S=>by
 unfold ke;refine(i4 j4 j4).mpr ⟨?_,rfl⟩;simp[PyData.eqv]
theorem sx{bs:List Bool}:tR [.fz (bs.map D.bl)]=pure (.bl (bs.all id)):=by
 show(match boolsOf (bs.map D.bl)with|some bs=>(pure (D.bl (bs.all id)):M D)|none=>M.fail)=_
 rw[ux]
theorem o7:∀{xs:List D},d∈(xs.zip xs).map (fun p:D×D=>D.tup [p.1,p.2])->∃ x∈xs,d= .tup [x,x]
 | x::r,h=>by
  rw[MV,J3,J2]at h;rcases h with rfl|h
  ·exact⟨x,.head _,rfl⟩
  ·obtain⟨y,hy,e⟩:=o7 h;exact⟨y,.tail _ hy,e⟩
theorem bM{e:TM}{es:aM->M (List D)}(h1:e ρ=pure x)(h2:es ρ=pure ys):aa e es ρ=pure (x::ys):=by
 unfold aa;rw[h1,ay,h2];rfl
section
variable {e1 e2:TM}{f:D->D->M D}{x y:D}{S S1 S2:aA}{ρ:aM}{F:List D->M D}
theorem ie(h1:e1 ρ S=some (.ok x,S1))(h2:e2 ρ S1=some (.ok y,S2)):aU f e1 e2 ρ S=f x y S2:=by
 unfold aU;rw[aL h1,aL h2]
theorem bI{es:aM->M (List D)}(h1:e1 ρ S=some (.ok x,S1))(h2:es ρ S1=some (.ok ys,S2)):aa e1 es ρ S=some (.ok (x::ys),S2):=by
 unfold aa;rw[aL h1,aL h2];rfl
theorem xj(h:S[p]? =some us)(h2:iS us j=some x):br (.lst p) (.int j) S=some (.ok x,S):=by
 show(getL p>>=fun xs=>match iS xs j with|some d=>(pure d:M D)|none=>M.fail) S=_
 rw[aL (cR h),h2];rfl
theorem jN{es:aM->M (List D)}(h:es ρ S=some (.ok ys,S1))(hl:ys.length<=lim):bx es ρ S=some (.ok (.lst S1.length),S1++[ys]):=by
 unfold bx;rw[aL h];exact cD hl
theorem sy(h1:S[a]? =some xs)(h2:S[b]? =some ys)(hl:(xs++ys).length<=lim):cq (.lst a) (.lst b) S=some (.ok (.lst S.length),S++[xs++ys]):=by
 show(getL a>>=fun xs=>getL b>>=fun ys=>bD (xs++ys)) S=_;rw[aL (cR h1),aL (cR h2)];exact cD hl
end
def vV:D->Bool
 | .int _=>true
 |_=>false
abbrev BG(d:D):Prop:=ES d=true
def o8:D->Bool
 | .tup [_,_]=>true
 |_=>false
def ir(many:Int):D->Bool
 | .int i=>decide (0<=i) && decide (i<many)
 |_=>false
def jh(many:Int):D->Bool
 | .tup [a,b]=>ir many a && (ir many b && match a,b with| .int i,.int j=>decide (i<j)|_,_=>false)
 |_=>false
def Jc(d:D):Prop:=BG d/\∀ ds,d= .tup ds->∀ x∈ds,BG x
theorem j5(h:ir many d=true):∃ i,d= .int i/\0<=i/\i<many:=by
 cases d with
 |int i=>exact⟨i,rfl,by simpa [ir]using h⟩
 |_=>cases h
def sA:D->D->Bool
 | .tup xs,.tup ys=>match intsOf xs,intsOf ys with
  |some a,some b=>HT.lexLt a b
  |_,_=>false
 |_,_=>false
def sC:List D->Bool
 |a::b::r=>sA a b && sC (b::r)
 |_=>true
def xk(d:D):Prop:=∃ ds ns,d= .tup ds/\intsOf ds=some ns
theorem xm:∀ l:List D,((l.zip (l.drop 1)).map fun p=>sA p.1 p.2).all id=sC l
 |[]=>rfl
 |[_]=>rfl
 |a::b::r=>by
  have:=xm (b::r);simp only[List.drop_succ_cons,List.drop_zero,List.zip_cons_cons,List.map_cons,List.all_cons,id]at this ⊢;rw[sC, <-this]
theorem Jd(l:List D):S3.cutD l (some 1) none=l.drop 1:=by
 unfold S3.cutD HT.sIx;cases l with
 |nil=>rfl
 |cons a r=>simp
def HQ(d:D):Prop:=BG d/\∀ ds,d= .tup ds->∀ x∈ds,BG x/\∀ ts,x= .tup ts->∀ t∈ts,Jc t
def iu:D->Bool
 | .tup [.int many,.tup ties]=>decide (0<=many) && (decide (many<=14) && (ties.all (jh many) && sC ties))
 |_=>false
theorem CT(h:jh many d=true):∃ i j,d= .tup [.int i,.int j]/\0<=i/\i<j/\j<many:=by
 unfold jh at h;split at h
 ·next a b=>
  simp only[Bool.and_eq_true]at h;obtain⟨h1,h2,h3⟩:=h;obtain⟨i,rfl,i1,i2⟩:=j5 h1;obtain⟨j,rfl,j1,j2⟩:=j5 h2;simp only[decide_eq_true_eq]at h3;exact⟨i,j,rfl,i1,h3,j2⟩
 ·cases h
theorem yB(h:jh many d=true):xk d:=by
 obtain⟨i,j,rfl,_⟩:=CT h;exact⟨_,[i,j],rfl,rfl⟩
section
variable {many:Int}{d:D}{ρ:aM}{e1 e2:TM}{b:Bool}{y:D}
theorem and_eq(h1:e1 ρ=pure (.bl b))(h2:b=true->e2 ρ=pure y)(h3:b=false->y= .bl false):pU e1 e2 ρ=pure y:=by
 unfold pU;rw[h1];cases b with
 |true=>exact h2 rfl
 |false=>rw[h3 rfl];rfl
theorem FF{a b:Int}:mS (.int a) (.int b)=pure (.bl (decide (a=b))):=cN fun S=>eq_int.mpr ⟨rfl,rfl⟩
theorem xn(h:BG d):cz [d]=pure (.bl (vV d)):=by
 cases d<;>first|rfl|cases h
theorem sD(h:BG d):cW [d]=pure (.bl (o8 d)):=by
 cases d with
 |tup ds=>
  refine gj (gk (and_eq (b:=true) rfl (fun _=>(cC (y:=.int 2) (fG (x:=.tup ds) rfl) rfl).trans FF) (fun e=>by cases e))) ?_
  show pure (D.bl (decide ((ds.length:Int)=2)))=_
  match ds with
  |[]=>rfl
  |[_]=>rfl
  |[_,_]=>rfl
  |_::_::_::r=>rw[Kr (by simp only[List.length_cons];omega)];rfl
 |_=>first|rfl|cases h
theorem xo(h:BG d):fN [.int many,d]=pure (.bl (ir many d)):=by
 cases d with
 |int i=>
  refine gj (gk (and_eq (b:=true) ((ft rfl).trans (xn h)) (fun _=>?_) (fun e=>by cases e))) rfl
  show(if decide (0<=i)=true then (pure (D.bl (decide (i<many))):M D)else pure (.bl false))=pure (.bl (decide (0<=i) && decide (i<many)));by_cases h0:0<=i
  ·rw[if_pos (JZ h0),JZ h0,MK]
  ·rw[if_neg (by rw[KF];exact h0),Kr h0,L5]
 |_=>first|rfl|cases h
theorem xp(h:o8 d=true):∃ a b,d= .tup [a,b]:=by
 unfold o8 at h;split at h
 ·exact⟨_,_,rfl⟩
 ·cases h
theorem sE{b:D}:jh many (.tup [a,b])=(ir many a && (ir many b && match a,b with| .int i,.int j=>decide (i<j)|_,_=>false)):=rfl
theorem FH(h:Jc d):jI [.int many,d]=pure (.bl (jh many d)):=by
 by_cases hp:o8 d=true
 ·obtain⟨a,b,rfl⟩:=xp hp;have ha:BG a:=h.2 _ rfl a (.head _);have hb:BG b:=h.2 _ rfl b (.tail _ (.head _));refine gj (o:=.ret (.bl (jh many (.tup [a,b])))) ?_ rfl;unfold oR;have h1:fU (bV (az cW (aa (mV 1) ao))) [some (.int many),some (.tup [a,b]),none,none]=pure false:=by
   show(bV _ _>>=_)=_;rw[jd ((ft rfl).trans (sD h.1))];rfl
  refine(bJ (ρ':=[some (.int many),some (.tup [a,b]),none,none]) ((b8 h1).trans (if_neg (by decide)))).trans ((bJ (ρ':=[some (.int many),some (.tup [a,b]),some a,some b]) rfl).trans (gk ?_))
  refine and_eq (b:=ir many a) ((call2 rfl rfl).trans (xo ha)) (fun k1=>and_eq (b:=ir many b) ((call2 rfl rfl).trans (xo hb)) (fun k2=>?_) fun k2=>?_) fun k1=>?_
  ·obtain⟨i,rfl,_⟩:=j5 k1;obtain⟨j,rfl,_⟩:=j5 k2;rw[sE,k1,k2];rfl
  ·rw[sE,k2,L5,ND]
  ·rw[sE,k1,L5]
 ·have Z:o8 d=false:=by rw[<-L9];exact hp
  have h1:fU (bV (az cW (aa (mV 1) ao))) [some (.int many),some d,none,none]=pure true:=by
   show(bV _ _>>=_)=_;rw[jd ((ft rfl).trans (sD h.1)),Z];rfl
  refine(gj (o:=.ret (.bl false)) (jM ((b8 h1).trans (if_pos rfl))) rfl).trans ?_;unfold jh;split
  ·cases hp rfl
  ·rfl
theorem FI{a b:D}(ha:xk a)(hb:xk b):ng a b=pure (.bl (sA a b)):=by
 obtain⟨xs,ns,rfl,e1⟩:=ha;obtain⟨ys,ms,rfl,e2⟩:=hb;simp only[ng,e1,e2,sA]
def Jn:D->D
 | .tup [a,b]=>.bl (sA a b)
 |_=>.non
theorem A8(h:∀ t∈ts,xk t)(hl:ts.length<=1000):eU [.tup ts]=pure (.bl (sC ts)):=by
 have em:(((ts.zip (ts.drop 1)).map fun p:D×D=>D.tup [p.1,p.2]).filter fun _=>true).map Jn=((ts.zip (ts.drop 1)).map fun p=>sA p.1 p.2).map D.bl:=by
  rw[fY,KJ,KJ];rfl
 have hs:aV (DA (mV 0) (oS (mK (.int 1))) oN) [some (.tup ts)]=pure (.tup (ts.drop 1)):=by
  refine uy (?_ :bQ (S3.cutD ts (some 1) none)=_);rw[Jd];unfold bQ;exact if_pos (by rw[Nr];unfold lim;omega)
 have hi:qI (mV 0) (aV (DA (mV 0) (oS (mK (.int 1))) oN)) [some (.tup ts)]=pure ⟨(ts.zip (ts.drop 1)).map fun p:D×D=>D.tup [p.1,p.2],.none⟩:=by
  unfold qI;rw[bM (x:=.tup ts) rfl (bM hs rfl)];rfl
 have hc:=jL (g:=fS 2 (ba (gN 0) (ba (gN 1) eh))) (t:=gM) (m:=gO) (js:=[none,none]) (fun ρ=>∃ x y,ρ=[x,y]) (fun _=>true) Jn hi (by rw[JI,NB];unfold lim;omega) ⟨none,none,rfl⟩
  (fun d hd ρ ⟨x,y,hρ⟩=>by
   subst hρ;obtain⟨⟨a,b⟩,hp,rfl⟩:=Kh.mp hd;exact⟨_,rfl,⟨_,_,rfl⟩,rfl,fun _=>(cC (x:=a) (y:=b) rfl rfl).trans (FI (h a (Mg hp).1) (h b (List.mem_of_mem_drop (Mg hp).2)))⟩) (by rw[em];exact oY _)
 rw[em]at hc;refine gj (gk ((fG hc).trans sx)) ?_;rw[xm];rfl
theorem FJ(h:HQ d)(O:∀ m ts,d= .tup [m,.tup ts]->ts.length<=1000):iK [d]=pure (.bl (iu d)):=by
 by_cases hp:o8 d=true
 ·obtain⟨a,t,rfl⟩:=xp hp;obtain⟨ha,_⟩:=h.2 _ rfl a (.head _);obtain⟨ht,a4⟩:=h.2 _ rfl t (.tail _ (.head _));refine gj (o:=.ret (.bl (iu (.tup [a,t])))) ?_ rfl;unfold oU;have h1:fU (bV (aV (az cW (aa (mV 0) ao)))) [some (.tup [a,t]),none,none]=pure false:=by
   show(bV _ _>>=_)=_;rw[jd (uy ((ft rfl).trans (sD h.1)))];rfl
  refine(bJ (ρ':=[some (.tup [a,t]),none,none]) ((b8 h1).trans (if_neg (by decide)))).trans ((bJ (ρ':=[some (.tup [a,t]),some a,some t]) rfl).trans ?_)
  have hw:fU (bV (aV (az cz (aa (mV 1) ao)))) [some (.tup [a,t]),some a,some t]=pure (!vV a):=by
   show(bV _ _>>=_)=_;rw[jd (uy ((ft rfl).trans (xn ha)))];rfl
  have ho:∀{p q:j8} {b:Bool} {ρ:aM},p ρ=pure b->pI p q ρ=if b=true then pure true else q ρ:=fun{p q b ρ} e=>by
   show(p ρ>>=_)=_;rw[e];rfl
  have no:∀{q:j8},pI (fU (bV (aV (az cz (aa (mV 1) ao))))) q [some (.tup [a,t]),some a,some t]=pure true->aJ (jz (pI (fU (bV (aV (az cz (aa (mV 1) ao))))) q) (bO (mK (.bl false))) eP) (bO (pU (cG tR (aV (cQ (ij (mV 2)) (gN 0) ib ic [none,some 1]))) (aV (az eU (aa (mV 2) ao))))) [some (.tup [a,t]),some a,some t]=pure (.ret (.bl false)):=fun e=>jM ((b8 e).trans (if_pos rfl));by_cases ew:vV a=true
  ·cases a with
   | int many=>
    rw[ew]at hw;have hc:fU (vI EJ EJ (mK (.int 0)) (mV 1) (mK (.int 14))) [some (.tup [.int many,t]),some (.int many),some t]=pure (!(decide (0<=many) && decide (many<=14))):=by
     show(((if decide (0<=many)=true then (pure (D.bl (decide (many<=14))):M D)else pure (.bl false))>>=kc)>>=_)=_;by_cases h0:0<=many
     ·rw[if_pos (JZ h0),JZ h0,MK];rfl
     ·rw[if_neg (by rw[KF];exact h0),Kr h0,L5];rfl
    by_cases hr:(decide (0<=many) && decide (many<=14))=true
    ·rw [hr]at hc;cases t with
     | tup ts=>
      have b0:=O _ ts rfl;have hq:pI (fU (bV (aV (az cz (aa (mV 1) ao))))) (pI (fU (vI EJ EJ (mK (.int 0)) (mV 1) (mK (.int 14)))) (fU (bV (gh (mV 2) "tuple")))) [some (.tup [.int many,.tup ts]),some (.int many),some (.tup ts)]=pure false:=by
       rw[ho hw,if_neg (by decide),ho hc,if_neg (by decide)];rfl
      refine(bJ ((b8 hq).trans (if_neg (by decide)))).trans (gk ?_)
      have em:(ts.filter fun _=>true).map (fun d=>D.bl (jh many d))=(ts.map (jh many)).map D.bl:=by rw[fY,KJ];rfl
      have hm:=jL (mi:=ij (mV 2)) (ρ:=[some (.tup [.int many,.tup ts]),some (.int many),some (.tup ts)]) (g:=gN 0) (t:=ib) (m:=ic) (js:=[none,some 1]) (its:=ts) (fun ρ=>∃ x,ρ=[x,some (.int many)]) (fun _=>true) (fun d=>.bl (jh many d)) rfl (by unfold lim;omega) ⟨none,rfl⟩
       (fun d hd ρ ⟨x,hρ⟩=>by
        subst hρ;exact⟨_,rfl,⟨_,rfl⟩,rfl,fun _=>uy ((call2 (x:=.int many) (y:=d) rfl rfl).trans (FH (a4 ts rfl d hd)))⟩) (by rw[em];exact oY _)
      rw[em]at hm;have U:(ts.map (jh many)).all id=ts.all (jh many):=by rw[MX];rfl
      have Y:iu (.tup [.int many,.tup ts])=(ts.all (jh many) && sC ts):=by
       show(decide (0<=many) && (decide (many<=14) && (ts.all (jh many) && sC ts)))=_;rw[<-Bool.and_assoc,hr,MK]
      rw[Y];refine and_eq (b:=ts.all (jh many)) ((fG hm).trans (sx.trans (by rw[U]))) (fun Z=>?_) fun Z=>by rw[Z];rfl
      rw[Z,MK];exact uy ((ft rfl).trans (A8 (fun t ht=>yB (Kg.mp Z t ht)) b0))
     |_=>first|exact no (by rw[ho hw,if_neg (by decide),ho hc,if_neg (by decide)];rfl)|cases ht
    ·have Y:iu (.tup [.int many,t])=false:=by
      cases t<;>first|rfl|(show(decide (0<=many) && (decide (many<=14) && _))=false;rw[<-Bool.and_assoc,L9 _ |>.mp hr,L5])
     rw[Y];rw[L9 _ |>.mp hr]at hc;exact no (by rw[ho hw,if_neg (by decide),ho hc];rfl)
   |_=>cases ew
  ·have Y:iu (.tup [a,t])=false:=by cases a<;>first|rfl|exact absurd rfl ew
   rw[Y];exact no (by rw[ho hw,L9 _ |>.mp ew];rfl)
 ·have a6:o8 d=false:=by rw[<-L9];exact hp
  have h1:fU (bV (aV (az cW (aa (mV 0) ao)))) [some d,none,none]=pure true:=by
   show(bV _ _>>=_)=_;rw[jd (uy ((ft rfl).trans (sD h.1))),a6];rfl
  refine(gj (o:=.ret (.bl false)) (jM ((b8 h1).trans (if_pos rfl))) rfl).trans ?_;unfold iu;split
  ·cases hp rfl
  ·rfl
end
def dG(S:aA)(k:Nat):Prop:=∃ st b,S[k]? =some [.int st,.bl b]/\0<=st/\(b=false->st<2147483647)
theorem dG.lt{S:aA}{k:Nat}(h:dG S k):k<S.length:=let ⟨_,_,e,_⟩:=h;(JN.mp e).1
theorem mP{t:j8}{m n:cT}{ρ:aM}{b:Bool}{S S1:aA}(h:t ρ S=some (.ok b,S1)):jz t m n ρ S=if b=true then m ρ S1 else n ρ S1:=by
 show(t ρ>>=fun c=>if c=true then m ρ else n ρ) S=_;rw[aL h];split<;>rfl
section
variable {S:aA}{k:Nat}{st x y many:Int}{b:Bool}{r:List (Option D)}{e1 e2:TM}{ρ:aM}
theorem Gd(e:S[k]? =some [.int st,.bl b]):aU br (mV 0) (mK (.int 0)) (some (.lst k)::r) S=some (.ok (.int st),S):=xj e rfl
theorem il(h1:e1 ρ S=some (.ok (.int x),S))(h2:e2 ρ S=some (.ok (.int y),S))(h:0<y):aU rH e1 e2 ρ S=some (.ok (.int (x % y)),S):=
 (ie h1 h2).trans (KC (if_pos h:(if 0<y then (pure (D.int (x % y)):M D)else M.fail)=_) S)
theorem o9(h1:e1 ρ S=some (.ok (.int x),S))(h2:e2 ρ S=some (.ok (.int y),S))(h:uV x y):aU rG e1 e2 ρ S=some (.ok (.int (x*y)),S):=
 (ie h1 h2).trans (KC (if_pos h:(if uV x y then (pure (D.int (x*y)):M D)else M.fail)=_) S)
theorem A9(h1:e1 ρ S=some (.ok (.int x),S))(h2:e2 ρ S=some (.ok (.int y),S))(h:y0 x y):aU wt e1 e2 ρ S=some (.ok (.int (x / y)),S):=
 (ie h1 h2).trans (KC (if_pos h:(if y0 x y then (pure (D.int (x / y)):M D)else M.fail)=_) S)
theorem sF(h1:e1 ρ S=some (.ok (.int x),S))(h2:e2 ρ S=some (.ok (.int y),S)):aU cq e1 e2 ρ S=some (.ok (.int (x+y)),S):=(ie h1 h2).trans rfl
theorem Hr(e:S[k]? =some [.int st,.bl b])(h:e1 (some (.lst k)::r) S=some (.ok (.int x),S)):mU e1 (HL (mV 0) (mK (.int 0))) (some (.lst k)::r) S=some (.ok (.nx (some (.lst k)::r)),S.set k [.int x,.bl b]):=by
 have hi:jv (.lst k) (.int 0) (.int x) S=some (.ok (),S.set k [.int x,.bl b]):=by
  show(getL k>>=_) S=_;rw[aL (cR e)];exact aL (ny (us:=[.int x,.bl b]) lr (JN.mp e).1)
 have hg:HL (mV 0) (mK (.int 0)) (.int x) (some (.lst k)::r) S=some (.ok (some (.lst k)::r),S.set k [.int x,.bl b]):=aL hi;show(e1 _>>=_) S=_;rw[aL h];exact aL hg
theorem jO{m n:cT}{d:D}{S1:aA}(h:m ρ S=some (.ok (.ret d),S1)):aJ m n ρ S=some (.ok (.ret d),S1):=aL h
end
theorem FK{S:aA}{k:Nat}{many:Int}{Q:D->aA->Prop}(hs:dG S k)(h0:0<many)(h1:many<1073741824)
  (hQ:∀ j S',0<=j->j<many->S'.length=S.length->(∀ i,i≠k->S'[i]? =S[i]?)->dG S' k->Q (.int j) S'):runs (aq [.lst k,.int many]) S Q:=by
 have hk:=hs.lt;obtain⟨st,b,e,p1,p2⟩:=hs;have q:∀ x:Int,0<=x % many/\x % many<many:=fun x=>⟨Ml _ (by omega),LL _ h0⟩
 have hb:bV (aU br (mV 0) (mK (.int 1))) [some (.lst k),some (.int many),none,none] S=some (.ok b,S):=aL (xj (x:=.bl b) e rfl);have oth:∀(ys:List D) i,i≠k->(S.set k ys)[i]? =S[i]? :=fun ys i hi=>KI (Ne.symm hi);cases b with
 |true=>
  refine⟨_,_,eS (o:=.ret (.int (st % many))) (S1:=S.set k [.int (st / many),.bl true]) ?_ rfl,hQ _ _ (q _).1 (q _).2 (by simp) (oth _) ⟨_,true,Ka hk,Int.ediv_nonneg p1 (by omega),fun z=>by cases z⟩⟩
  exact jO ((mP hb).trans ((aK (bH (il (Gd e) rfl h0))).trans ((aK (Hr e (A9 (Gd e) rfl ⟨h0,h1⟩))).trans (fu rfl))))
 |false=>
  have p3:=p2 rfl;generalize hst:(st*48271+29) % 2147483647=st';have s1:0<=st':=by rw[<-hst];exact Ml _ (by decide)
  have s2:st'<2147483647:=by rw[<-hst];exact LL _ (by decide)
  have e1:(S.set k [.int st',.bl false])[k]? =some [.int st',.bl false]:=Ka hk;have h2:=Hr (r:=[some (.int many),none,none]) e (il (sF (o9 (Gd e) (e2:=mK (.int 48271)) rfl (.inr ⟨by decide,by decide⟩)) (e2:=mK (.int 29)) rfl) (e2:=mK (.int 2147483647)) rfl (by decide))
  rw[hst]at h2;have h3:∀ r,aU rH (aU cq (aU cq (aU rG (aU br (mV 0) (mK (.int 0))) (aU br (mV 0) (mK (.int 0)))) (aU rG (mK (.int 39373)) (aU br (mV 0) (mK (.int 0))))) (mK (.int 7))) (mK (.int 2147483629)) (some (.lst k)::r) (S.set k [.int st',.bl false])=_:=fun r=>il (sF (sF (o9 (Gd e1) (Gd e1) (.inl ⟨by omega,by omega⟩)) (o9 rfl (Gd e1) (.inl ⟨by decide,by decide⟩))) rfl) rfl (by decide)
  generalize hx:(st'*st'+39373*st'+7) % 2147483629=x at h3;have x1:0<=x:=by rw[<-hx];exact Ml _ (by decide)
  have x2:x<2147483629:=by rw[<-hx];exact LL _ (by decide)
  refine⟨_,_,eS (o:=.ret (.int ((x*x+16807*x) % 2147483587 / 8 % many))) (S1:=S.set k [.int st',.bl false]) ?_ rfl,hQ _ _ (q _).1 (q _).2 (by simp) (oth _) ⟨_,false,e1,s1,fun _=>s2⟩⟩
  exact(aK (mP hb)).trans ((aK h2).trans ((aK (bH (h3 _))).trans ((aK (bH (il (sF (o9 rfl rfl (.inl ⟨by omega,by omega⟩)) (o9 rfl rfl (.inl ⟨by decide,by decide⟩))) rfl (by decide)))).trans (fu (il (A9 rfl rfl ⟨by decide,by decide⟩) rfl h0)))))
theorem FL{S:aA}{ns:List Int}{k:Nat}:∃ i,cX [.ro (ns.map D.int),.int k] S=some (.ok (.int i),S):=by
 have hb:eT ng (mV 1) (cG cn (mV 0)) [some (.ro (ns.map D.int)),some (.int k)]=pure (decide ((k:Int)<(ns.map D.int).length)):=dw (x:=.int k) (y:=.int (ns.map D.int).length) rfl rfl rfl;by_cases h:k<ns.length
 ·refine⟨ns[k],eS (o:=.ret (.int ns[k])) (jO ((KC ((b8 hb).trans (if_pos (JZ (by rw[JI];omega)))) S).trans (fu (x:=.int ns[k]) (S1:=S) ?_))) rfl⟩
  have e:iS (ns.map D.int) (k:Int)=some (.int ns[k]):=by
   unfold iS u9;simp[h]
  show(match iS (ns.map D.int) k with|some d=>(pure d:M D)|none=>M.fail) S=_
  rw[e];rfl
 ·exact⟨0,eS (o:=.ret (.int 0)) (KC ((bJ ((b8 hb).trans (if_neg (by rw[KF,JI];omega)))).trans rfl) S) rfl⟩
theorem CU{S:aA}{ns:List Int}{k:Nat}{Q:D->aA->Prop}(hQ:∀ xs,dG (S++[xs]) S.length->Q (.lst S.length) (S++[xs])):runs (fe [.ro (ns.map D.int),.int k]) S Q:=by
 obtain⟨c,hc⟩:=FL (S:=S) (ns:=ns) (k:=k);have h1:bK 2 (az cX (aa (mV 0) (aa (mV 1) ao))) [some (.ro (ns.map D.int)),some (.int k),none] S=some (.ok (.nx [some (.ro (ns.map D.int)),some (.int k),some (.int c)]),S):=bH (x:=.int c) (by rw[call2 (x:=.ro (ns.map D.int)) (y:=.int k) rfl rfl];exact hc)
 have hp:∀ ρ,aU zJ (mK (.int 10)) (mK (.int 18)) ρ=pure (.int 1000000000000000000):=fun ρ=>(cC (x:=.int 10) (y:=.int 18) rfl rfl).trans (if_pos (e:=M.fail) (show BP 10 18 from⟨by decide,by decide,by decide⟩))
 have hb:eT IQ (mV 2) (aU zJ (mK (.int 10)) (mK (.int 18))) [some (.ro (ns.map D.int)),some (.int k),some (.int c)]=pure (decide (1000000000000000000<=c)):=dw (x:=.int c) rfl (hp _) rfl;by_cases h:1000000000000000000<=c
 ·exact⟨_,_,eS (o:=.ret (.lst S.length)) ((aK h1).trans (jO ((KC ((b8 hb).trans (if_pos (JZ h))) S).trans (fu (jN (ys:=[.int (c - 1000000000000000000),.bl true]) (bI (S1:=S) (KC ((cC (x:=.int c) rfl (hp _)).trans rfl) S) (bI rfl rfl)) lr))))) rfl,hQ _ ⟨_,true,dq,by omega,fun z=>by cases z⟩⟩
 ·exact⟨_,_,eS (o:=.ret (.lst S.length)) ((aK h1).trans ((aK (KC ((b8 hb).trans (if_neg (by rw[KF];exact h))) S)).trans (fu (jN (ys:=[.int (c % 2147483647),.bl false]) (bI (il rfl rfl (by decide)) (bI rfl rfl)) lr)))) rfl,hQ _ ⟨_,false,dq,Ml _ (by decide),fun _=>LL _ (by decide)⟩⟩
def iQ(n a:Nat):List (List Int):=(List.range' (a+1) (n - (a+1))).map fun b:Nat=>[(a:Int),(b:Int)]
def cg(n:Nat):List (List Int):=(List.range n).flatMap (iQ n)
theorem pairs_len(hn:n<=14):(cg n).length<=91:=by
 have:∀ m,m<15->(cg m).length<=91:=by decide+kernel
 exact this n (by omega)
structure Kp(k:Nat)(S S':aA):Prop where
 len:S.length<=S'.length
 oth:∀ i,i<S.length->i≠k->S'[i]? =S[i]?
 st:dG S' k
theorem Kp.trans(a:Kp k S S1)(b:Kp k S1 S2):Kp k S S2:=⟨JV a.len b.len,fun i hi hk=>(b.oth i (JW hi a.len) hk).trans (a.oth i hi hk),b.st⟩
theorem Kp.refl(h:dG S k):Kp k S S:=⟨JK _,fun _ _ _=>rfl,h⟩
theorem dG.grow(h:dG S k):dG (S++G) k:=by
 obtain⟨st,b,e,r⟩:=id h;exact⟨st,b,by rw[Kl h.lt];exact e,r⟩
theorem Kp.grow(h:dG S k)(G:aA):Kp k S (S++G):=⟨by simp,fun i hi _=>Kl hi,h.grow⟩
theorem xq{Q:D->aA->Prop}(hs:dG S k)(h0:0<many)(h1:many<1073741824)(hQ:∀ j S',0<=j->j<many->S'.length=S.length->Kp k S S'->Q (.int j) S'):runs (aq [.lst k,.int many]) S Q:=
 FK hs h0 h1 fun j S' a b c d e=>hQ j S' a b c ⟨Mf c.symm,fun i _ hk=>d i hk,e⟩
theorem ma:∀ ns:List Int,mapP (kd S n) (ns.map D.int)=some (ns.map PyData.int)
 |[]=>rfl
 |x::r=>by
  show(match kd S n (D.int x),mapP (kd S n) (r.map D.int)with|some p,some ps=>some (p::ps)|_,_=>none)=_
  rw[j4,ma r];rfl
theorem Ba{ns:List Int}(h:S[k]? =some (ns.map D.int)):kd S (n+1) (.lst k)=some (.list (ns.map PyData.int)):=by
 show((S[k]?).bind fun xs=>(mapP (kd S n) xs).map PyData.list)=_;rw[h];show(mapP (kd S n) (ns.map D.int)).map PyData.list=_;rw[ma];rfl
theorem qP{α β:Type}(f:α->β):∀(l:List α) (i:Nat),(l.map f).eraseIdx i=(l.eraseIdx i).map f
 |[],_=>rfl
 |_::_,0=>rfl
 |a::l,i+1=>by simp[qP f l i]
def CV(r:List Int):PyData:=.tuple (r.map PyData.int)
theorem sG(r:List Int):kd S (n+1) (tupI r)=some (CV r):=by
 show(mapP (kd S n) (r.map D.int)).map PyData.tuple=_;rw[ma];rfl
theorem pj(ns:List Int):intsOf (ns.map D.int)=some ns:=by
 induction ns with
 |nil=>rfl
 |cons x r ih=>simp[intsOf,ih]
theorem pk(rs:List (List Int)):rowsOf (rs.map tupI)=some rs:=by
 induction rs with
 |nil=>rfl
 |cons x r ih=>
  show(match intsOf (x.map D.int),rowsOf (r.map tupI)with|some ns,some nss=>some (ns::nss)|_,_=>none)=_
  rw[pj,ih]
structure WebOk(many:Int)(ts:List (List Int)):Prop where
 el:∀ t∈ts,∃ a b:Int,t=[a,b]/\0<=a/\a<b/\b<many
 ris:ts.Pairwise fun a b=>HT.lexLt a b=true
 few:ts.length<=21
theorem pq:∀ t∈cg n,∃ a b:Int,t=[a,b]/\0<=a/\a<b/\b<n:=by
 intro t ht;unfold cg at ht;obtain⟨a,ha,hb⟩:=Nv.mp ht;unfold iQ at hb;obtain⟨b,Z,rfl⟩:=Kh.mp hb;rw[Lq]at Z;rw[J5]at ha;exact⟨a,b,rfl,by omega,by omega,by omega⟩
theorem md(hn:n<=7):(cg n).Pairwise (fun a b=>HT.lexLt a b=true)/\(cg n).length<=21:=by
 have:∀ m,m<8->(cg m).Pairwise (fun a b=>HT.lexLt a b=true)/\(cg m).length<=21:=by decide+kernel
 exact this n (by omega)
theorem WebOk.of_sub(hn:n<=7){ts:List (List Int)}(h:ts.Sublist (cg n)):WebOk n ts:=
 ⟨fun t ht=>pq t (h.subset ht),List.Pairwise.sublist h (md hn).1,JV h.length_le (md hn).2⟩
theorem yC{ts:List (List Int)}(h:ts.Pairwise fun a b=>HT.lexLt a b=true):dD ts=ts:=
 lX (bU ts) (de ts) (h.imp fun z=>tZ z)
theorem yD:sA (tupI a) (tupI b)=HT.lexLt a b:=by
 simp only[sA,tupI,pj]
theorem uz:∀{ts:List (List Int)},ts.Pairwise (fun a b=>HT.lexLt a b=true)->sC (ts.map tupI)=true
 |[],_=>rfl
 |[_],_=>rfl
 |a::b::r,h=>by
  obtain⟨h1,h2⟩:=Ks.mp h;show(sA (tupI a) (tupI b) && sC ((b::r).map tupI))=true;rw[yD,h1 b (by simp),uz h2];rfl
theorem CY(h0:0<=many)(Z:many<=14)(w:WebOk many ts):iu (.tup [.int many,.tup (ts.map tupI)])=true:=by
 have:(ts.map tupI).all (jh many)=true:=by
  rw[MX,Kg];intro t ht;obtain⟨a,b,rfl,h1,h2,h3⟩:=w.el t ht;simp[tupI,jh,ir,h1,h2,h3];omega
 simp only[iu,h0,Z,this,uz w.ris,decide_true,Bool.and_self]
theorem qQ:t∈ez l↔t∈l:=by
 unfold ez;rw[(bU _).mem_iff,iI]
theorem qR:∀ l:List (List Int),(fM l).length<=l.length
 |[]=>JK _
 |x::r=>by
  unfold fM;have:=qR r;split
  ·simp;omega
  ·simp;omega
theorem yE(l:List (List Int)):(ez l).length<=l.length:=by
 unfold ez;rw[(bU _).length_eq];exact qR l
theorem yF(l:List (List Int)):(ez l).Pairwise fun a b=>HT.lexLt a b=true:=by
 have h1:=de (fM l);have h2:(ez l).Nodup:=(Lx (bU _)).mpr (lb l);unfold ez at h2 ⊢;generalize dD (fM l)=s at h1 h2
 induction s with
 |nil=>exact .nil
 |cons x r ih=>
  obtain⟨a1,a2⟩:=Ks.mp h1;obtain⟨b1,b2⟩:=Ku.mp h2;refine Ks.mpr ⟨fun y hy=>?_,ih a2 b2⟩;cases q:HT.lexLt x y with
  |true=>rfl
  |false=>exact absurd (nq q (a1 y hy) ▸ hy) b1
def Hs:Nat->D->Bool
 |_,.ro _=>false
 |_,.fn _ _ _ _ _=>false
 |_,.exc _ _=>false
 |n+1,.tup ds=>ds.all (Hs n)
 |_,_=>true
theorem xr(h:Hs n d=true):BG d:=by
 cases d<;>first|rfl|(cases n<;>cases h)
theorem Ht(h:Hs (n+1) d=true):Jc d:=⟨xr h,fun ds e x hx=>by
 subst e;exact xr (Kg.mp h x hx)⟩
def Hu:D->Bool
 | .tup ds=>ds.all fun x=>match x with
  | .tup ts=>decide (ts.length<=18)
  |_=>true
 |_=>true
structure Good(d:D):Prop where
 nr:HQ d
 few:∀ m ts,d= .tup [m,.tup ts]->ts.length<=18
theorem CZ(h:Hs 3 d=true)(h2:Hu d=true):Good d:=⟨⟨xr h,fun ds e x hx=>by
  subst e;have Z:=Kg.mp h x hx;refine⟨xr Z,fun ts et t ht=>?_⟩;subst et;exact Ht (Kg.mp Z t ht)⟩,fun m ts e=>by
  subst e;have:=Kg.mp h2 (.tup ts) (by simp)
  simpa using this⟩
def Bb(d:D):Bool:=Hs 3 d && Hu d
theorem lA(h:Bb d=true):Good d:=by
 unfold Bb at h;rw[Lf]at h;exact CZ h.1 h.2
theorem DK{xs:List D}{j:Int}(h0:0<=j)(h1:j<xs.length):∃ d,iS xs j=some d/\d∈xs:=by
 have hk:j.toNat<xs.length:=by omega
 refine⟨xs[j.toNat],?_,KU hk⟩;unfold iS u9;simp[h0,h1,hk]
section
variable {d:D}
theorem Bc(h:HQ d)(hl:∀ m ts,d= .tup [m,.tup ts]->ts.length<=1000):eQ [d]=if iu d=true then pure .non else M.raise (.exc "NoWeb" []):=by
 have hb:fU (bV (aV (az iK (aa (mV 0) ao)))) [some d]=pure (!iu d):=by
  show(bV _ _>>=_)=_;rw[jd (b:=iu d) (uy ((ft rfl).trans (FJ h hl)))];rfl
 cases hw:iu d with
 |true=>exact(vU ((b8 hb).trans (by rw[hw];exact if_neg (by decide))) rfl).trans (if_pos rfl).symm
 |false=>exact(iO ((b8 hb).trans (by rw[hw];exact if_pos rfl))).trans (if_neg (by decide)).symm
end
def Jo(n:Nat):D->List D
 | .int a=>(iQ n a.toNat).map tupI
 |_=>[]
theorem C0(n a:Nat):((aR ((a:Int)+1) ((n:Int) - ((a:Int)+1)).toNat).filter fun _=>true).flatMap (fun d=>[D.tup [.int a,d]])=(iQ n a).map tupI:=by
 have e:((n:Int) - ((a:Int)+1)).toNat=n - (a+1):=by omega
 rw[e,fY];unfold aR iQ;rw[Le,KJ,KJ,Nw]
 induction (List.range (n - (a+1)))with
 |nil=>rfl
 |cons x l ih=>rw[Kw,ih];rfl
theorem C1(n:Nat):((aR 0 n).filter fun _=>true).flatMap (Jo n)=(cg n).map tupI:=by
 rw[fY];unfold aR cg;rw[Nw,List.map_flatMap];congr 1;funext a;show(iQ n (0+(a:Int)).toNat).map tupI=_;congr 2;omega
theorem fy(l:List (List Int)):cF 0 (l.map tupI)=true:=by
 have h:∀ r:List Int,cF 0 (r.map D.int)=true:=fun r=>by
  induction r with
  |nil=>rfl
  |cons x r ih=>rw[J3];unfold cF;rw[ih];unfold fW;rfl
 induction l with
 |nil=>rfl
 |cons x l ih=>rw[J3];unfold cF;rw[ih];unfold tupI fW;rw[h];rfl
theorem pA(hn:n<=50):(cg n).length<=2500:=by
  have:∀ l:List Nat,(l.flatMap (iQ n)).length<=l.length*50:=fun l=>by
    induction l with
    |nil=>exact JK 0
    | cons x l ih => rw[Kw,JM,JY,LU];have:(iQ n x).length<=50:=by unfold iQ;simp;omega
                     omega
  have:=this (List.range n);rw[Kj]at this;unfold cg;exact JV this (Nat.mul_le_mul_right 50 hn)
theorem Hv{n a:Nat}(hn:n<=50)(ha:a<n)(y:Option D):∃ ρ2,(∃ x y,ρ2=[x,y,some (.int n)])/\CI (t5 (aU cq (mV 0) (mK (.int 1))) (mV 2)) (gN 1) cO bY [some (.int a),y,some (.int n)]=pure ((iQ n a).map tupI,ρ2):=by
 obtain⟨ρ',⟨y',rfl⟩,e⟩:=qL (its:=aR ((a:Int)+1) ((n:Int) - ((a:Int)+1)).toNat) (g:=gN 1) (t:=cO) (bd:=vS bY) (fun ρ=>∃ y,ρ=[some (.int a),y,some (.int n)]) (fun _=>true) (fun d=>[D.tup [.int a,d]]) (aR ((a:Int)+1) ((n:Int) - ((a:Int)+1)).toNat) [some (.int a),y,some (.int n)] ⟨y,rfl⟩ fun d hd ρ ⟨y,hρ⟩=>by
  subst hρ;refine⟨_,rfl,rfl,fun _=>⟨[some (.int a),some d,some (.int n)],⟨_,rfl⟩,?_⟩,fun h=>by cases h⟩
  have:bY [some (.int a),some d,some (.int n)]=pure (.tup [.int a,d]):=by
   show bQ [.int a,d]=_;unfold bQ;exact if_pos lr
  show(bY [some (.int a),some d,some (.int n)]>>=_)=_;rw[this];rfl
 refine⟨[some (.int a),y',some (.int n)],⟨some (.int a),y',rfl⟩,?_⟩;have hc: -(2 ^ 62)<=(a:Int)+1/\(a:Int)+1<2 ^ 62/\ -(2 ^ 62)<=(n:Int)/\(n:Int)<2 ^ 62:=by omega
 have hl:(aR ((a:Int)+1) ((n:Int) - ((a:Int)+1)).toNat).length<=3000:=by unfold aR;simp;omega
 rw[C0]at e;have hi:t5 (aU cq (mV 0) (mK (.int 1))) (mV 2) [some (.int a),y,some (.int n)]=pure ⟨aR ((a:Int)+1) ((n:Int) - ((a:Int)+1)).toNat,.none⟩:=by
  exact(sr (cC (x:=.int a) (y:=.int 1) rfl rfl) (y:=.int n) rfl).trans (A6 hc)
 unfold CI;rw[hi,ay];dsimp only;rw[if_pos hl];exact e
theorem C3{n:Nat}(hn:n<=50):ji (dJ [.int n])=pure (.fz ((cg n).map tupI)):=by
 obtain⟨ρ',_,e⟩:=qL (its:=aR 0 n) (g:=gN 0) (t:=eE) (bd:=CI (t5 (aU cq (mV 0) (mK (.int 1))) (mV 2)) (gN 1) cO bY) (fun ρ=>∃ x y,ρ=[x,y,some (.int n)]) (fun _=>true) (Jo n) (aR 0 n) [none,none,some (.int n)] ⟨none,none,rfl⟩ fun d hd ρ ⟨x,y,hρ⟩=>by
  subst hρ;obtain⟨a,ha,rfl⟩:=Kh.mp hd;have Z:=J5.mp ha;refine⟨_,rfl,rfl,fun _=>?_,fun h=>by cases h⟩
  obtain⟨ρ2,h1,h2⟩:=Hv hn Z y;refine⟨ρ2,h1,?_⟩;show CI _ _ _ _ [some (.int (0+(a:Int))),y,some (.int n)]=_;rw[K3,h2];rfl
 rw[C1]at e;have hc: -(2 ^ 62)<=(n:Int)/\(n:Int)<2 ^ 62:=by omega
 have hl:(aR 0 n).length<=3000:=by unfold aR;simp;omega
 have h1:iq (lY (mV 0)) (gN 0) eE (t5 (aU cq (mV 0) (mK (.int 1))) (mV 2)) (gN 1) cO bY [none,none,some 0] [some (.int n)]=bD ((cg n).map tupI):=by
  have hi:lY (mV 0) [some (.int n)]=pure ⟨aR 0 n,.none⟩:=by
   have:=(l9 (m:=mV 0) (ρ:=[some (.int n)]) (x:=.int n) rfl).trans (su hc);rw[Kf]at this;exact this
  have hb:iG [none,none,some 0] [some (D.int n)]=[none,none,some (.int n)]:=rfl;unfold iq;rw[hi,ay];dsimp only;rw[if_pos hl,hb,e,ay]
 have h2:bO (aV (iq (lY (mV 0)) (gN 0) eE (t5 (aU cq (mV 0) (mK (.int 1))) (mV 2)) (gN 1) cO bY [none,none,some 0])) [some (.int n)]=pure (.ret (.fz ((cg n).map tupI))):=by
  unfold bO aV;rw[h1,dZ (fy _) (by rw[JI];exact JV (pA hn) (by unfold lim;omega))]
  rfl
 have h3:dJ [.int n]=pure (.fz ((cg n).map tupI)):=by
  exact gj h2 rfl
 rw[h3];exact xh
abbrev aE(n:Nat)(E:List (List Int)):D:=.tup [.int n,.tup (E.map tupI)]
theorem FM:HQ (aE n E):=by
 refine⟨rfl,?_⟩;intro ds e x hx;cases e;simp only[List.mem_cons,List.not_mem_nil,or_false]at hx;rcases hx with rfl|rfl
 ·exact⟨rfl,fun ts e=>by cases e⟩
 ·refine⟨rfl,fun ts e t ht=>?_⟩;cases e;obtain⟨r,_,rfl⟩:=Kh.mp ht;refine⟨rfl,fun ds e x hx=>?_⟩;cases e;obtain⟨i,_,rfl⟩:=Kh.mp hx;exact rfl
theorem C4{n:Nat}{E:List (List Int)}(w:WebOk n E):∀ m ts,aE n E= .tup [m,.tup ts]->ts.length<=1000:=by
 intro m ts e;cases e;have:=w.few;rw[JI];omega
def great(a:Nat):D:=.exc "TooGreat" [.int a,.int 7]
theorem DL{n:Nat}{E:List (List Int)}(hn:n<=14)(w:WebOk n E):cf [aE n E]=if 7<E.length then M.raise (great E.length)else pure .non:=by
 have hw:iu (aE n E)=true:=CY (by omega) (by omega) w
 have h0:eQ [aE n E]=pure .non:=by rw[Bc FM (C4 w),if_pos hw]
 have hl:cG cn (aU br (mV 0) (mK (.int 1))) [some (aE n E)]=pure (.int E.length):=by
  refine(fG (x:=.tup (E.map tupI)) rfl).trans ?_;show pure (D.int (E.map tupI).length)=_;rw[JI]
 have hb:eT EK (cG cn (aU br (mV 0) (mK (.int 1)))) (mK (.int 7)) [some (aE n E)]=pure (decide (7<(E.length:Int))):=dw hl rfl rfl;have hm:dm [some (aE n E)]=if 7<E.length then M.raise (great E.length)else pure (.nx [some (aE n E)]):=by
  unfold dm;rw[bJ (DJ (uy ((ft rfl).trans h0))),b8 hb];by_cases h:7<E.length
  ·rw[if_pos h,if_pos (JZ (by omega))]
   have ha:aa (cG cn (aU br (mV 0) (mK (.int 1)))) (aa (mK (.int 7)) ao) [some (aE n E)]=pure [.int E.length,.int 7]:=by
    unfold aa;rw[hl];rfl
   unfold nv;rw[ha];rfl
  ·rw[if_neg h,if_neg (by rw[KF];omega)]
 by_cases h:7<E.length
 ·rw[if_pos h]at hm ⊢;exact iO hm
 ·rw[if_neg h]at hm ⊢;exact vU hm rfl
theorem same_int:bC (k+1) [.int i,.int i]=pure (.bl true):=by
 refine gj (o:=.ret (.bl true)) ?_ rfl;show cM _ [some (.int i),some (.int i)]=_;unfold cM;rw[bJ (ρ':=[some (.int i),some (.int i)]) ((b8 (b:=false) (jd rfl)).trans (if_neg (by decide)))]
 refine gk ?_;show(aU mS (mV 0) (mV 1) _>>=_)=_;rw[cC (x:=.int i) (y:=.int i) rfl rfl,JC,ay];rw[show kc (D.bl true)=pure true from rfl,ay,if_pos rfl,cC (x:=.bl false) (y:=.bl false) rfl rfl,JD]
theorem pB{xs:List D}(hl:xs.length<=1000)(h:∀ x∈xs,bC k [x,x]=pure (.bl true)):bC (k+1) [.tup xs,.tup xs]=pure (.bl true):=by
 have em:((((xs.zip xs).map fun p:D×D=>D.tup [p.1,p.2]).filter fun _=>true).map fun _=>D.bl true)=(xs.map fun _=>true).map D.bl:=by
  rw[fY,KJ,KJ];refine Nx (by simp) fun i h1 h2=>by simp
 have hc:=jL (mi:=qI (mV 0) (mV 1)) (g:=fS 2 (ba (gN 0) (ba (gN 1) eh))) (t:=fi (bC k)) (m:=fj (bC k)) (js:=[none,none]) (ρ:=[some (.tup xs),some (.tup xs)])
  (its:=(xs.zip xs).map fun p:D×D=>D.tup [p.1,p.2]) (fun ρ=>∃ x y,ρ=[x,y]) (fun _=>true) (fun _=>.bl true) rfl (by rw[JI,NB];unfold lim;omega) ⟨none,none,rfl⟩
  (fun d hd ρ ⟨x,y,hρ⟩=>by
   subst hρ;obtain⟨z,hz,rfl⟩:=o7 hd;exact⟨_,rfl,⟨_,_,rfl⟩,rfl,fun _=>uy ((call2 rfl rfl).trans (h z hz))⟩) (by rw[em];exact oY _)
 rw[em]at hc;have Z:(xs.map fun _=>true).all id=true:=by rw[MX];exact Kg.mpr fun _ _=>rfl
 have hlen:∀ j,j<2->cG cn (mV j) [some (.tup xs),some (.tup xs)]=pure (.int xs.length):=fun j hj=>by
  match j,hj with
  |0,_=>rfl
  |1,_=>rfl
 refine gj (o:=.ret (.bl true)) ?_ rfl;show cM _ [some (.tup xs),some (.tup xs)]=_;unfold cM;refine jM ?_;refine(b8 (b:=true) (jd rfl)).trans ?_;rw[if_pos rfl];have hi:∀ T,aU ke (gh (mV 0) T) (gh (mV 1) T) [some (.tup xs),some (.tup xs)]=pure (.bl false):=fun T=>(cC (x:=.bl (gT "tuple" T)) (y:=.bl (gT "tuple" T)) rfl rfl).trans Jb;have hb:∀ T,eT ke (gh (mV 0) T) (gh (mV 1) T) [some (.tup xs),some (.tup xs)]=pure false:=fun T=>dw (x:=.bl (gT "tuple" T)) (y:=.bl (gT "tuple" T)) rfl rfl Jb;have ho:pI (eT ke (gh (mV 0) "tuple") (gh (mV 1) "tuple")) (eT ke (gh (mV 0) "list") (gh (mV 1) "list")) [some (.tup xs),some (.tup xs)]=pure false:=by
  show(eT ke _ _ _>>=_)=_;rw[hb "tuple",ay];exact hb "list"
 rw[bJ ((b8 ho).trans (if_neg (by decide))),bJ ((b8 (dw (hlen 0 (by decide)) (hlen 1 (by decide)) Jm)).trans (if_neg (by decide)))]
 refine gk ((fG hc).trans (sx.trans ?_));rw[Z]
theorem FN{E:List (List Int)}(hl:E.length<=1000)(h2:∀ t∈E,t.length<=1000):cu [aE n E,aE n E]=pure (.bl true):=by
 refine pB (k:=5) (by decide:2<=1000) fun x hx=>?_
 simp only[List.mem_cons,List.not_mem_nil,or_false]at hx;rcases hx with rfl|rfl
 ·exact same_int
 ·refine pB (by rw[JI];exact hl) fun x hx=>?_
  obtain⟨r,hr,rfl⟩:=Kh.mp hx;refine pB (by rw[JI];exact h2 r hr) fun x hx=>?_
  obtain⟨i,_,rfl⟩:=Kh.mp hx;exact same_int
def pC(c:M D)(k:D->M D):M D:=fun S=>match c S with
 |some (.ok _,S')=>k .non S'
 |some (.ex (.exc n ds),S')=>if n∈aW then k (.exc n ds) S' else none
 |_=>none
theorem Bd{g:Str->Bool}(hn:n∈aW):ua g (.exc n ds)=pure (.bl (g n)):=if_pos hn
def Ge(bs:List Bool):D->Bool
 | .int k=>bs.getD k.toNat false
 |_=>false
section
variable {S S':aA}{k:Nat}
theorem nz(kp:Kp k S S'):oH S S':=fun i xs hi e=>by
 by_cases h:i=k
 ·subst h;obtain⟨st,b,e2,_⟩:=kp.st;rw[e2]at e;cases e;exact .inr rfl
 ·exact .inl (by rw[<-kp.oth i hi h];exact e)
theorem xt(hs:dG S k)(kp:Kp k S S'):Kp k S (S'.take S.length)/\(S'.take S.length).length=S.length:=by
 have hl:(S'.take S.length).length=S.length:=by rw[KQ];have:=kp.len;omega
 have hg:∀ i,i<S.length->(S'.take S.length)[i]? =S'[i]? :=fun i hi=>by rw[Mn,if_pos hi]
 refine⟨⟨Mf hl.symm,fun i hi hk=>(hg i hi).trans (kp.oth i hi hk),?_⟩,hl⟩;obtain⟨st,b,e,r⟩:=kp.st;exact⟨st,b,(hg k hs.lt).trans e,r⟩
theorem pD{c:M D}(hs:dG S k)(h:c S=some (.ok d,S'))(kp:Kp k S S')(hc:fW 0 d=true):∃ S1,ji c S=some (.ok d,S1)/\Kp k S S1/\S1.length=S.length:=
 ⟨_,l8 h (nz kp) (.inr rfl) kp.len (si d (xg (J4 _) d hc)),xt hs kp⟩
theorem iw:fW 0 (aE n E)=true:=by
 unfold aE fW cF fW cF fW;rw[fy];rfl
theorem sH(hs:dG S k)(h0:0<many)(h1:many<1073741824):∃ j S1,ji (aq [.lst k,.int many]) S=some (.ok (.int j),S1)/\0<=j/\j<many/\Kp k S S1/\S1.length=S.length:=by
 obtain⟨d,S',e,j,rfl,a,b,kp⟩:=xq (Q:=fun d S'=>∃ j,d= .int j/\0<=j/\j<many/\Kp k S S') hs h0 h1 fun j S' a b _ kp=>⟨j,rfl,a,b,kp⟩;obtain⟨S1,e1,k1⟩:=pD hs e kp rfl;exact⟨j,S1,e1,a,b,k1⟩
end
theorem pE(h:n<=k)(hk:S[k]? =some us)(hc:cF 0 us=true):iB n (vO S n (f+1)) (.lst k)=some (.fz us):=by
 unfold iB;rw[if_neg (by omega)]
 show((S[k]?).bind fun xs=>fX n (vO S n f) xs).map D.fz=_;rw[hk,LG,hV us (jG (J4 _) us hc)];rfl
theorem kb{S G:aA}(i:Nat):(S++G)[S.length+i]? =G[i]? :=by rw[LZ (LC _ _),Nat.add_sub_cancel_left]
theorem Hw(h:∀ S,kd S 60 (.fz us)=some p)(he:PyData.eqv p p=true):ke (.fz us) (.fz us)=pure (.bl false):=cN fun S=>by
 unfold ke;exact(i4 (h S) (h S)).mpr ⟨by rw[he];rfl,rfl⟩
theorem Hx:ke (.fz [.int i]) (.fz [.int i])=pure (.bl false):=Hw (p:=.list [.int i]) (fun S=>rfl) (by simp[PyData.eqv,PyData.eqvAll])
theorem Be:aV (bx (aa (mK (.int i)) ao)) ρ=pure (.fz [.int i]):=dZ (us:=[.int i]) rfl (by show 1<=lim;unfold lim;omega)
section
variable {ρ:aM}{js:List Nat}{ds:List D}{m:TM}{c:M D}{R:M D->List D->M D}{x:D}
end
section
variable {me e:TM}{g:lM}{ρ ρ':aM}{S S1 S2:aA}{d:D}{F:List D->M D}{x y:D}
theorem Bg(h1:me ρ S=some (.ok d,S1))(h2:g d ρ S1=some (.ok ρ',S2)):mU me g ρ S=some (.ok (.nx ρ'),S2):=by
 unfold mU;rw[aL h1,aL h2];rfl
end
section
variable {S S1 S2:aA}{k p q:Nat}{e1 e2:TM}{ρ:aM}{x y:D}{f:D->List D->M D}{xs:List D}
theorem kh(h1:e1 ρ=pure x)(hl:Ga x=pure ())(h2:e2 ρ S=some (.ok y,S1)):wN f e1 e2 ρ S=f x [y] S1:=by
 unfold wN;rw[h1,ay,hl,ay,aL (a:=[y]) (S1:=S1)];rw[aL h2];rfl
theorem kI(hp:S[p]? =some xs)(hl:xs.length<=1000):dR (.lst p) [d] S=some (.ok .non,S.set p (xs++[d])):=by
 show(getL p>>=fun xs=>lN p (xs++[d])) S=_;rw[aL (cR hp)];exact ny (by rw[JM];show xs.length+1<=lim;unfold lim;omega) (JN.mp hp).1
theorem pop_at{j:Int}{d:D}(hp:S[p]? =some xs)(hl:xs.length<=1000)(h0:0<=j)(h1:j<xs.length)(hd:xs[j.toNat]? =some d):lS (.lst p) [.int j] S=some (.ok d,S.set p (xs.eraseIdx j.toNat)):=by
 show(getL p>>=fun xs=>if 0<=j/\j<xs.length then (match xs[j.toNat]? with|some y=>(do let _<-lN p (xs.eraseIdx j.toNat);pure y)|none=>M.fail)else M.fail) S=_
 rw[aL (cR hp),if_pos ⟨h0,h1⟩,hd];show(lN p (xs.eraseIdx j.toNat)>>=fun _=>pure d) S=_;rw[aL (ny (by have:=List.length_eraseIdx_le xs j.toNat;unfold lim;omega) (JN.mp hp).1)];rfl
theorem FO{ns:List Int}(hp:S[p]? =some (ns.map D.int)):ke (.lst p) (.fz []) S=some (.ok (.bl (!ns.isEmpty)),S):=by
 have h2:kd S 60 (.fz [])=some (.list []):=rfl;obtain⟨d,S',e,h⟩:=(i4 (f:=fun p q=> !PyData.eqv p q) (Q:=fun d S'=>d= .bl (!ns.isEmpty)/\S'=S) (Ba (n:=59) hp) h2).mpr ⟨by
  have:PyData.eqv (.list (ns.map PyData.int)) (.list [])=ns.isEmpty:=by cases ns<;>simp[PyData.eqv,PyData.eqvAll]
  rw[this],rfl⟩
 obtain⟨rfl,rfl⟩:=h;exact e
end
theorem Kp.set(kp:Kp k S S')(hp:S.length<=p)(hk:k<S.length):Kp k S (S'.set p xs):=by
 refine⟨by rw[Mi];exact kp.len,fun i hi Z=>?_,?_⟩
 ·rw[KI (by omega)];exact kp.oth i hi Z
 ·obtain⟨st,b,e,r⟩:=kp.st;exact⟨st,b,by rw[KI (by omega)];exact e,r⟩
theorem vW{l:List Int}(h:j<l.length):(l[j]::l.eraseIdx j).Perm l:=by
 induction l generalizing j with
 |nil=>cases h
 |cons x l ih=>
  cases j with
  |zero=>exact .refl _
  |succ j=>exact(List.Perm.swap _ _ _).trans ((ih (by simpa using h)).cons _)
theorem uA{S:aA}{k p q:Nat}{a1:Option D}(hk:k<S.length)(hp:S.length<=p)(hq:S.length<=q)(Y:p≠q):∀(f:Nat) (ls ms:List Int) (S':aA),ls.length<f->ls.length+ms.length<=14->S'[p]? =some (ls.map D.int)->S'[q]? =some (ms.map D.int)->Kp k S S'->
  ∃(zs:List Int) (S2:aA),jw (eT ke (mV 2) (aV (bx ao))) di f [some (.lst k),a1,some (.lst p),some (.lst q)] S'=some (.ok (.nx [some (.lst k),a1,some (.lst p),some (.lst q)]),S2)/\S2[q]? =some (zs.map D.int)/\zs.Perm (ms++ls)/\Kp k S S2
 |0,ls,ms,S',h,_,_,_,_=>by omega
 | f +1,ls,ms,S',hf,hl,g1,g2,kp=>by
  have ht:eT ke (mV 2) (aV (bx ao)) [some (.lst k),a1,some (.lst p),some (.lst q)] S'=some (.ok (!ls.isEmpty),S'):=by
   have h2:aV (bx ao) [some (.lst k),a1,some (.lst p),some (.lst q)]=pure (.fz []):=dZ (us:=[]) rfl (J4 _);show((mV 2 _>>=fun x=>aV (bx ao) _>>=fun y=>ke x y)>>=kc) S'=_;rw[h2];show(ke (.lst p) (.fz [])>>=kc) S'=_;rw[aL (FO g1)];rfl
  rw[jw,aL ht];cases ls with
  |nil=>exact⟨ms,S',by rfl,g2,by rw[Kd],kp⟩
  | cons l0 ls0=>
   generalize hL:l0::ls0=ls at*;have a4:(!ls.isEmpty)=true:=by rw[<-hL];rfl
   have hpos:0<ls.length:=by rw[<-hL];exact Nat.succ_pos _
   rw[if_pos a4];obtain⟨j,S1,ej,j0,j1,U,l1⟩:=sH (S:=S') (k:=k) (many:=ls.length) kp.st (by omega) (by omega)
   have pl:=(JN.mp g1).1;have ql:=(JN.mp g2).1;have b1:=(U.oth p pl (by omega)).trans g1
   have b2:=(U.oth q ql (by omega)).trans g2
   have hj:j.toNat<ls.length:=by omega
   have hb:di [some (.lst k),a1,some (.lst p),some (.lst q)] S'=some (.ok (.nx [some (.lst k),a1,some (.lst p),some (.lst q)]),(S1.set p ((ls.eraseIdx j.toNat).map D.int)).set q ((ms++[ls[j.toNat]]).map D.int)):=by
    unfold di;have hlen:cG cn (mV 2) [some (.lst k),a1,some (.lst p),some (.lst q)] S'=some (.ok (.int ls.length),S'):=by
     refine(iP (x:=.lst p) (S1:=S') rfl).trans ?_;show(getL p>>=fun xs=>pure (D.int xs.length)) S'=_;rw[aL (cR g1),JI];rfl
    have a6:aV (az aq (aa (mV 0) (aa (cG cn (mV 2)) ao))) [some (.lst k),a1,some (.lst p),some (.lst q)] S'=some (.ok (.int j),S1):=by
     have hc:az aq (aa (mV 0) (aa (cG cn (mV 2)) ao)) [some (.lst k),a1,some (.lst p),some (.lst q)] S'=aq [.lst k,.int ls.length] S':=aL (bI (x:=.lst k) rfl (bI hlen rfl));unfold aV;rw[<-ej];unfold ji;rw[hc]
    have Z:=(kh (f:=lS) (e1:=mV 2) (ρ:=[some (.lst k),a1,some (.lst p),some (.lst q)]) (x:=.lst p) rfl rfl a6).trans (pop_at (d:=.int ls[j.toNat]) b1 (by rw[JI];omega) j0 (by rw[JI];omega) (by rw[J6,JL hj];rfl))
    rw[qP]at Z;have O:=(kh (f:=dR) (e1:=mV 3) (ρ:=[some (.lst k),a1,some (.lst p),some (.lst q)]) (x:=.lst q) rfl rfl Z).trans (kI (d:=.int ls[j.toNat]) (xs:=ms.map D.int) (by rw[KI Y];exact b2) (by rw[JI];omega))
    refine lu (x:=.non) (O.trans ?_);rw[Kv];rfl
   rw[aL hb];have he:=MS hj;obtain⟨zs,S2,e2,g3,pz,k2⟩:=uA (a1:=a1) hk hp hq Y f (ls.eraseIdx j.toNat) (ms++[ls[j.toNat]]) ((S1.set p ((ls.eraseIdx j.toNat).map D.int)).set q ((ms++[ls[j.toNat]]).map D.int)) (by omega) (by rw[JM];show _+(ms.length+1)<=14;omega)
    (by rw[KI (Ne.symm Y),Ka (by omega)]) (by rw[Ka (by rw[Mi];omega)]) (((kp.trans U).set hp hk).set hq hk)
   refine⟨zs,S2,e2,g3,pz.trans ?_,k2⟩;rw[J7];exact(vW hj).append_left ms
theorem Je{j:Int}(h: -(2 ^ 62)<=j/\j<=lim):eO [.int j]=bD (aR 0 j.toNat):=by unfold eO;exact if_pos h
theorem C5(r:List Int):cF 0 (r.map D.int)=true:=by
 induction r with
 |nil=>rfl
 |cons x r ih=>rw[J3];unfold cF;rw[ih];unfold fW;rfl
theorem FP(r:List Int):fW 0 (tupI r)=true:=by unfold tupI fW;exact C5 r
def gz(n:Nat):List Int:=(List.range n).map fun i:Nat=>(0:Int)+(i:Int)
theorem uB{S:aA}{k n:Nat}(hs:dG S k)(hn:n<=14):∃(zs:List Int) (S1:aA),ji (bL [.lst k,.int n]) S=some (.ok (tupI zs),S1)/\zs.Perm (gz n)/\Kp k S S1/\S1.length=S.length:=by
 have hr:aR 0 n=(gz n).map D.int:=by unfold aR gz;rw[KJ];rfl
 have hlen:(gz n).length=n:=by unfold gz;simp
 obtain⟨zs,S2,e2,g3,pz,k2⟩:=uA (S:=S) (k:=k) (p:=S.length) (q:=S.length+1) (a1:=some (.int n)) hs.lt (JK _) (LP _) (by omega) 64 (gz n) [] (S++[(gz n).map D.int,[]]) (by omega) (by simp;omega) (kb 0) (kb 1) (Kp.grow hs _)
 have lz:(zs.map D.int).length<=lim:=by rw[JI,pz.length_eq,Ls,hlen];unfold lim;omega
 have hm:gx [some (.lst k),some (.int n),none,none] S=some (.ok (.ret (tupI zs)),S2):=by
  unfold gx;have h1:cG eO (mV 1) [some (.lst k),some (.int n),none,none] S=some (.ok (.lst S.length),S++[(gz n).map D.int]):=by
   refine(KC (fG (f:=eO) (m:=mV 1) (ρ:=[some (.lst k),some (.int n),none,none]) (x:=.int n) rfl) S).trans ?_;rw[Je (j:=n) ⟨by omega,by unfold lim;omega⟩,Kf,hr]
   exact cD (by rw[JI,hlen];unfold lim;omega)
  have h2:bK 3 (bx ao) [some (.lst k),some (.int n),some (.lst S.length),none] (S++[(gz n).map D.int])=some (.ok (.nx [some (.lst k),some (.int n),some (.lst S.length),some (.lst (S.length+1))]),S++[(gz n).map D.int,[]]):=by
   refine(bH (cD (S:=S++[(gz n).map D.int]) (us:=[]) (J4 _))).trans ?_;rw[J7,JM];rfl
  refine(aK (bH h1)).trans ((aK h2).trans ((aK e2).trans (fu ((iP (x:=.lst (S.length+1)) (S1:=S2) rfl).trans ?_))));show(getL (S.length+1)>>=fun xs=>bQ xs) S2=_;rw[aL (cR g3)];unfold bQ;rw[if_pos lz];rfl
 obtain⟨S1,e1,k1⟩:=pD (c:=bL [.lst k,.int n]) (d:=tupI zs) hs (eS (o:=.ret (tupI zs)) hm rfl) k2 (FP zs);exact⟨zs,S1,e1,by rw[Ls]at pz;exact pz,k1⟩
inductive Dr(P:D->D->Prop):List D->List D->Prop
 |nil:Dr P [] []
 |skip {d:D} {ds ys:List D}:Dr P ds ys->Dr P (d::ds) ys
 |put {d y:D} {ds ys:List D}:P d y->Dr P ds ys->Dr P (d::ds) (y::ys)
theorem Dr.len:∀{ds ys:List D},Dr P ds ys->ys.length<=ds.length
 |_,_,.nil=>JK _
 |_,_,.skip h=>Nat.le_succ_of_le h.len
 |_,_,.put _ h=>L8 h.len
theorem Dr.cl{P:D->D->Prop}(hP:∀ d y,P d y->fW 0 y=true):∀{ds ys:List D},Dr P ds ys->cF 0 ys=true
 |_,_,.nil=>rfl
 |_,_,.skip h=>h.cl hP
 |_,_,.put p h=>by unfold cF;rw[hP _ _ p,h.cl hP];rfl
theorem ja{g:lM}{t:aM->M Bool}{m:TM}(R:aM->Prop)(P:D->D->Prop):∀(items:List D) (ρ:aM) (S:aA),R ρ->dG S k->
  (∀ d∈items,∀ ρ S,R ρ->dG S k->∃ ρ1 b S1,g d ρ=pure ρ1/\R ρ1/\t ρ1 S=some (.ok b,S1)/\Kp k S S1/\S1.length=S.length/\(b=true->∃ y S2,m ρ1 S1=some (.ok y,S2)/\P d y/\Kp k S1 S2/\S2.length=S1.length))->
  ∃ ys S2,df ⟨its,.none⟩ g t m items ρ S=some (.ok ys,S2)/\Dr P items ys/\Kp k S S2/\S2.length=S.length
 |[],ρ,S,_,hs,_=>⟨[],S,by unfold df;rw[eB];rfl,.nil,.refl hs,rfl⟩
 | d::ds,ρ,S,hR,hs,hb=>by
  obtain⟨ρ1,b,S1,e1,Z,e2,k1,l1,h3⟩:=hb d (JX ..) ρ S hR hs;cases b with
  |false=>
   obtain⟨ys,S2,e4,dr,k2,l2⟩:=ja (its:=its) R P ds ρ1 S1 Z k1.st fun x hx=>hb x (JR _ hx);refine⟨ys,S2,?_,.skip dr,k1.trans k2,l2.trans l1⟩;unfold df;rw[eB,ay,e1,ay,aL e2,if_neg (by decide)]
   exact e4
  |true=>
   obtain⟨y,S2,e3,p3,k2,l2⟩:=h3 rfl;obtain⟨ys,Y,e4,dr,k3,l3⟩:=ja (its:=its) R P ds ρ1 S2 Z k2.st fun x hx=>hb x (JR _ hx);refine⟨y::ys,Y,?_,.put p3 dr,(k1.trans k2).trans k3,l3.trans (l2.trans l1)⟩;unfold df;rw[eB,ay,e1,ay,aL e2,if_pos rfl,aL e3,aL e4];rfl
theorem yG{mi:aM->M Iter}{g:lM}{t:j8}{m:TM}(R:aM->Prop)(P:D->D->Prop)(hi:mi ρ=pure ⟨its,.none⟩)(hl:its.length<=1000)(hR:R (iG js ρ))(hs:dG S k)(hP:∀ d y,P d y->fW 0 y=true)
  (hb:∀ d∈its,∀ ρ S,R ρ->dG S k->∃ ρ1 b S1,g d ρ=pure ρ1/\R ρ1/\t ρ1 S=some (.ok b,S1)/\Kp k S S1/\S1.length=S.length/\(b=true->∃ y S2,m ρ1 S1=some (.ok y,S2)/\P d y/\Kp k S1 S2/\S2.length=S1.length)):
  ∃ ys S2,aV (cQ mi g t m js) ρ S=some (.ok (.fz ys),S2)/\Dr P its ys/\Kp k S S2/\S2.length=S.length:=by
 obtain⟨ys,S2,e,dr,k2,l2⟩:=ja (its:=its) (g:=g) (t:=t) (m:=m) (k:=k) R P its (iG js ρ) S hR hs hb;have hlen:=dr.len;refine⟨ys,S2,?_,dr,k2,l2⟩;have hc:cQ mi g t m js ρ S=some (.ok (.lst S2.length),S2++[ys]):=by
  unfold cQ;rw[hi,ay];unfold gZ;rw[if_pos (show its.length<=lim by unfold lim;omega),aL e]
  exact cD (by unfold lim;omega)
 have:=l8 (u:=.fz ys) hc (nz (k2.trans (Kp.grow k2.st [ys]))) (.inl (by rw[JM,l2];exact LB _)) (by rw[JM,l2];exact LP _) (pE (f:=59) (by omega) dq (dr.cl hP))
 unfold aV;rw[this, <-l2,List.take_left]
theorem pF{f:D->D->M D}{e1 e2:TM}(h1:e1 ρ S=some (.ok x,S1))(h2:e2 ρ S1=some (.ok y,S2))(h:f x y=pure (.bl b)):eT f e1 e2 ρ S=some (.ok b,S2):=by
 have:(e1 ρ>>=fun x=>e2 ρ>>=fun y=>f x y) S=some (.ok (.bl b),S2):=by rw[aL h1,aL h2,h];rfl
 exact aL this
theorem Bh{ys:List D}(hp:S[p]? =some xs)(hl:xs.length+ys.length<=1000):jW (.lst p) [.fz ys] S=some (.ok .non,S.set p (xs++ys)):=by
 show(getL p>>=fun xs=>lN p (xs++ys)) S=_;rw[aL (cR hp)];exact ny (by rw[JM];unfold lim;omega) (JN.mp hp).1
theorem Dr.rows{n:Nat}:∀{l:List Nat} {ys:List D},Dr (fun d y=>y= .tup [.int a,d]) (l.map fun i:Nat=>D.int ((a:Int)+1+(i:Int))) ys->∃ rs:List (List Int),ys=rs.map tupI/\rs.Sublist (l.map fun i:Nat=>[(a:Int),(a:Int)+1+(i:Int)])
 |[],_,.nil=>⟨[],rfl,.slnil⟩
 |i::l,_,.skip h=>by
  obtain⟨rs,e,sb⟩:=Dr.rows (n:=n) h;exact⟨rs,e,sb.cons _⟩
 |i::l,_,.put p h=>by
  obtain⟨rs,e,sb⟩:=Dr.rows (n:=n) h;subst p e;exact⟨[(a:Int),(a:Int)+1+(i:Int)]::rs,rfl,sb.cons₂ _⟩
theorem C6{n a:Nat}:(List.range ((n:Int) - ((a:Int)+1)).toNat).map (fun i:Nat=>[(a:Int),(a:Int)+1+(i:Int)])=iQ n a:=by
 have e:((n:Int) - ((a:Int)+1)).toNat=n - (a+1):=by omega
 rw[e];unfold iQ;rw[Le,KJ];refine Mb fun i _=>?_;show[(a:Int),(a:Int)+1+(i:Int)]=[(a:Int),((a+1+i:Nat):Int)];congr 2
theorem Bi{S:aA}{k n a:Nat}{o:Int}{x3:Option D}(hs:dG S k)(hn:n<=14)(ha:a<n):∃(rs:List (List Int)) (S2:aA),aV (cQ (t5 (aU cq (mV 4) (mK (.int 1))) (mV 1)) (gN 0) eL eM [none,some 0,some 2,some 4]) [some (.lst k),some (.int n),some (.int o),x3,some (.int a)] S=some (.ok (.fz (rs.map tupI)),S2)/\rs.Sublist (iQ n a)/\Kp k S S2/\S2.length=S.length:=by
 have hi:=(sr (cC (f:=cq) (m:=mV 4) (n:=mK (.int 1)) (ρ:=[some (.lst k),some (.int n),some (.int o),x3,some (.int a)]) (x:=.int a) (y:=.int 1) rfl rfl) (n:=mV 1) (y:=.int n) rfl).trans (A6 (i:=(a:Int)+1) (j:=n) (by omega))
 obtain⟨ys,S2,e,dr,kp,l⟩:=yG (g:=gN 0) (t:=eL) (m:=eM) (js:=[none,some 0,some 2,some 4]) (k:=k) (fun ρ=>∃ x,ρ=[x,some (.lst k),some (.int o),some (.int a)]) (fun d y=>y= .tup [.int a,d]/\∃ i:Int,d= .int i) hi (by unfold aR;rw[JI,Kj];omega) ⟨none,rfl⟩ hs (fun d y ⟨e,i,e2⟩=>by subst e e2;rfl)
  (fun d hd ρ S ⟨x,hρ⟩ hs=>by
   subst hρ;obtain⟨i,_,rfl⟩:=Kh.mp hd;obtain⟨j,S1,ej,j0,j1,kp,l⟩:=sH (many:=4) hs (by decide) (by decide)
   refine⟨_,decide (j<o),S1,rfl,⟨_,rfl⟩,?_,kp,l,fun _=>⟨_,S1,rfl,⟨rfl,_,rfl⟩,.refl kp.st,rfl⟩⟩;have ht:aV (az aq (aa (mV 1) (aa (mK (.int 4)) ao))) [some (D.int ((a:Int)+1+(i:Int))),some (.lst k),some (.int o),some (.int a)] S=some (.ok (.int j),S1):=by
    unfold aV;rw[call2 (x:=.lst k) (y:=.int 4) rfl rfl];exact ej
   exact pF (y:=.int o) ht rfl rfl)
 have Z:Dr (fun d y=>y= .tup [.int a,d]) ((List.range ((n:Int) - ((a:Int)+1)).toNat).map fun i:Nat=>D.int ((a:Int)+1+(i:Int))) ys:=by
  have:∀{ds ys:List D},Dr (fun d y=>y= .tup [.int a,d]/\∃ i:Int,d= .int i) ds ys->Dr (fun d y=>y= .tup [.int a,d]) ds ys:=fun{ds ys} h=>by
   induction h with
   |nil=>exact .nil
   |skip _ ih=>exact .skip ih
   |put p _ ih=>exact .put p.1 ih
  exact this dr
 obtain⟨rs,e2,sb⟩:=Dr.rows (n:=n) Z;subst e2;rw[C6]at sb;exact⟨rs,S2,e,sb,kp,l⟩
theorem qS{S:aA}{k n:Nat}{o:Int}{its:List D}(hk:k<S.length)(hn:n<=7):∀(post:List Nat) (acc:List (List Int)) (S':aA) (x:Option D),(∀ a∈post,a<n)->acc.length+post.length*7<=100->S'[S.length]? =some (acc.map tupI)->Kp k S S'->
  ∃(x':Option D) (rs:List (List Int)) (S2:aA),fT ⟨its,.none⟩ (gN 4) dj (post.map fun i:Nat=>.int (0+(i:Int))) [some (.lst k),some (.int n),some (.int o),some (.lst S.length),x] S'=some (.ok (.nx [some (.lst k),some (.int n),some (.int o),some (.lst S.length),x']),S2)/\S2[S.length]? =some ((acc++rs).map tupI)/\rs.Sublist (post.flatMap (iQ n))/\Kp k S S2
 |[],acc,S',x,_,_,g,kp=>⟨x,[],S',by rw[KZ,fx];rfl,by rw[Kd];exact g,.slnil,kp⟩
 | a::post,acc,S',x,ha,hl,g,kp=>by
  have Y:=ha a (.head _);obtain⟨rs,S1,e,sb,k1,l1⟩:=Bi (S:=S') (k:=k) (n:=n) (a:=a) (o:=o) (x3:=some (.lst S.length)) kp.st (by omega) Y
  have O:rs.length<=7:=JV sb.length_le (by unfold iQ;simp;omega)
  rw[JY,LU]at hl;have pl:=(JN.mp g).1;have g1:=(k1.oth S.length pl (by omega)).trans g
  have hb:dj [some (.lst k),some (.int n),some (.int o),some (.lst S.length),some (.int a)] S'=some (.ok (.nx [some (.lst k),some (.int n),some (.int o),some (.lst S.length),some (.int a)]),S1.set S.length ((acc++rs).map tupI)):=by
   unfold dj;refine lu (x:=.non) ((kh (x:=.lst S.length) rfl rfl e).trans ((Bh g1 (by rw[JI,JI];omega)).trans ?_))
   rw[Kv]
  obtain⟨x',Z,S2,e2,g2,U,k2⟩:=qS (its:=its) (o:=o) hk hn post (acc++rs) (S1.set S.length ((acc++rs).map tupI)) (some (.int a)) (fun b hb=>ha b (.tail _ hb)) (by rw[JM];omega) (Ka (by omega)) ((kp.trans k1).set (JK _) hk)
  refine⟨x',rs++Z,S2,?_,by rw[<-J7];exact g2,by rw[Kw];exact sb.append U,k2⟩
  rw[J3,K3];exact(eR rfl hb).trans e2
theorem uC{S:aA}{k n:Nat}{o:Int}(hs:dG S k)(hn:n<=7):∃(E:List (List Int)) (S1:aA),ji (bB [.lst k,.int n,.int o]) S=some (.ok (aE n E),S1)/\WebOk n E/\Kp k S S1/\S1.length=S.length:=by
 obtain⟨x',rs,S2,e,g,sb,kp⟩:=qS (S:=S) (k:=k) (n:=n) (o:=o) (its:=aR 0 n) hs.lt hn (List.range n) [] (S++[[]]) none (fun a ha=>J5.mp ha) (by rw[Kj];simp;omega) dq (Kp.grow hs _)
 rw[Ls]at g;have w:WebOk n rs:=WebOk.of_sub hn sb;have hm:gy [some (.lst k),some (.int n),some (.int o),none,none] S=some (.ok (.ret (aE n rs)),S2):=by
  unfold gy;have h1:bK 3 (bx ao) [some (.lst k),some (.int n),some (.int o),none,none] S=some (.ok (.nx [some (.lst k),some (.int n),some (.int o),some (.lst S.length),none]),S++[[]]):=bH (cD (S:=S) (us:=[]) (J4 _));have hi:lY (mV 1) [some (.lst k),some (.int n),some (.int o),some (.lst S.length),none]=pure ⟨aR 0 n,.none⟩:=by
   have:=(l9 (m:=mV 1) (ρ:=[some (.lst k),some (.int n),some (.int o),some (.lst S.length),none]) (x:=.int n) rfl).trans (su (by omega))
   rw[Kf]at this;exact this
  refine(aK h1).trans ((aK (kH hi e)).trans (fu (fw (x:=.int n) rfl ((iP (x:=.lst S.length) (S1:=S2) rfl).trans ?_))));show(getL S.length>>=fun xs=>bQ xs) S2=_;rw[aL (cR g)];unfold bQ;rw[if_pos (by rw[JI];have:=w.few;unfold lim;omega)];rfl
 obtain⟨S1,e1,k1⟩:=pD (c:=bB [.lst k,.int n,.int o]) (d:=aE n rs) hs (eS (o:=.ret (aE n rs)) hm rfl) kp iw;exact⟨rs,S1,e1,w,k1⟩
def C7(p:Int)(t:List Int):Bool:=t.any (· ==p)
theorem xu(p:Int):∀ t:List Int,((t.map PyData.int).any fun y=>PyData.eqv y (.int p))=C7 p t
 |[]=>rfl
 |x::r=>by
  rw[J3,List.any_cons,xu p r];unfold C7;rw[List.any_cons];congr 1
theorem DM:inD (.int p) (tupI t)=pure (.bl (C7 p t)):=cN fun S=>by
 unfold inD;exact(Cq (j4) (sG t) (r:=C7 p t) (by show some (id ((t.map PyData.int).any fun y=>PyData.eqv y (.int p)))=_;rw[xu];rfl)).mpr ⟨rfl,rfl⟩
theorem vX{E:List (List Int)}(h:a<E.length):br (.tup (E.map tupI)) (.int a)=pure (tupI (E.getD a [])):=by
 show(match iS (E.map tupI) a with|some d=>(pure d:M D)|none=>M.fail)=_
 have:iS (E.map tupI) (a:Int)=some (tupI (E.getD a [])):=by
  unfold iS u9;rw[JI];have h1:¬ ((a:Int)<0):=by omega
  have h2:(a:Int)<E.length:=by omega
  simp[h1,h2,h]
 rw[this]
theorem getD_in{E:List (List Int)}(h:a<E.length):E.getD a []∈E:=by
 rw[JS,JL h];exact KU h
theorem or_eq{p q:j8}(h1:p ρ=pure b)(h2:q ρ=pure c):pI p q ρ=pure (b||c):=by
 show(p ρ>>=_)=_;rw[h1];cases b with
 |true=>rfl
 |false=>exact h2
section
variable {S:aA}{k n:Nat}{E:List (List Int)}{its:List D}
theorem C8(h2:∀ t∈E,∃ x y:Int,t=[x,y])(ha:a<E.length)(hb:b<E.length):∃ c,pI (eT inD (aU br (aU br (mV 1) (mV 3)) (mK (.int 0))) (aU br (mV 1) (mV 4))) (eT inD (aU br (aU br (mV 1) (mV 3)) (mK (.int 1))) (aU br (mV 1) (mV 4))) [some (aE n E),some (.tup (E.map tupI)),some (.lst p),some (.int a),some (.int b)]=pure c:=by
 obtain⟨x,y,e⟩:=h2 _ (getD_in ha);have hr:aU br (mV 1) (mV 3) [some (aE n E),some (.tup (E.map tupI)),some (.lst p),some (.int a),some (.int b)]=pure (tupI [x,y]):=by rw[<-e];exact(cC (x:=.tup (E.map tupI)) (y:=.int a) rfl rfl).trans (vX ha)
 have hu:aU br (mV 1) (mV 4) [some (aE n E),some (.tup (E.map tupI)),some (.lst p),some (.int a),some (.int b)]=pure (tupI (E.getD b [])):=(cC (x:=.tup (E.map tupI)) (y:=.int b) rfl rfl).trans (vX hb);have h0:aU br (aU br (mV 1) (mV 3)) (mK (.int 0)) [some (aE n E),some (.tup (E.map tupI)),some (.lst p),some (.int a),some (.int b)]=pure (.int x):=(cC (y:=.int 0) hr rfl).trans rfl;have h1:aU br (aU br (mV 1) (mV 3)) (mK (.int 1)) [some (aE n E),some (.tup (E.map tupI)),some (.lst p),some (.int a),some (.int b)]=pure (.int y):=(cC (y:=.int 1) hr rfl).trans rfl;exact⟨_,or_eq (dw h0 hu DM) (dw h1 hu DM)⟩
theorem sI(hk:k<S.length)(h2:∀ t∈E,∃ x y:Int,t=[x,y])(ha:a<E.length):∀(post:List Nat) (acc:List (List Int)) (S':aA) (x:Option D),(∀ b∈post,b<E.length)->acc.length+post.length<=500->S'[S.length]? =some (acc.map tupI)->Kp k S S'->
  ∃(x':Option D) (rs:List (List Int)) (S2:aA),fT ⟨its,.none⟩ (gN 4) dM (post.map fun b:Nat=>.int (b:Int)) [some (aE n E),some (.tup (E.map tupI)),some (.lst S.length),some (.int a),x] S'=some (.ok (.nx [some (aE n E),some (.tup (E.map tupI)),some (.lst S.length),some (.int a),x']),S2)/\S2[S.length]? =some ((acc++rs).map tupI)/\rs.Sublist (post.map fun b:Nat=>[(a:Int),(b:Int)])/\Kp k S S2
 |[],acc,S',x,_,_,g,kp=>⟨x,[],S',by rw[KZ,fx];rfl,by rw[Kd];exact g,.slnil,kp⟩
 | b::post,acc,S',x,hb,hl,g,kp=>by
  rw[JY]at hl;obtain⟨c,hc⟩:=C8 (n:=n) (p:=S.length) h2 ha (hb b (.head _));have pl:=(JN.mp g).1;cases c with
  |false=>
   have h1:dM [some (aE n E),some (.tup (E.map tupI)),some (.lst S.length),some (.int a),some (.int b)] S'=some (.ok (.nx [some (aE n E),some (.tup (E.map tupI)),some (.lst S.length),some (.int a),some (.int b)]),S'):=KC ((b8 hc).trans (if_neg (by decide))) S'
   obtain⟨x',rs,S2,e,g2,sb,k2⟩:=sI hk h2 ha post acc S' (some (.int b)) (fun c hc=>hb c (.tail _ hc)) (by omega) g kp
   exact⟨x',rs,S2,(eR rfl h1).trans e,g2,sb.cons _,k2⟩
  | true=>
   have h1:dM [some (aE n E),some (.tup (E.map tupI)),some (.lst S.length),some (.int a),some (.int b)] S'=some (.ok (.nx [some (aE n E),some (.tup (E.map tupI)),some (.lst S.length),some (.int a),some (.int b)]),S'.set S.length ((acc++[[(a:Int),(b:Int)]]).map tupI)):=by
    refine(KC ((b8 hc).trans (if_pos rfl)) S').trans (lu (x:=.non) ((kh (x:=.lst S.length) (y:=.tup [.int a,.int b]) (S1:=S') rfl rfl (fw rfl rfl)).trans ((kI g (by rw[JI];omega)).trans ?_)))
    rw[Kv];rfl
   obtain⟨x',rs,S2,e,g2,sb,k2⟩:=sI hk h2 ha post (acc++[[(a:Int),(b:Int)]]) (S'.set S.length ((acc++[[(a:Int),(b:Int)]]).map tupI)) (some (.int b)) (fun c hc=>hb c (.tail _ hc)) (by rw[JM];show acc.length+1+post.length<=500;omega) (Ka pl) (kp.set (JK _) hk)
   exact⟨x',[(a:Int),(b:Int)]::rs,S2,(eR rfl h1).trans e,by rw[J7]at g2;exact g2,sb.cons₂ _,k2⟩
theorem uD(hk:k<S.length)(hE:E.length<=7)(h2:∀ t∈E,∃ x y:Int,t=[x,y]):∀(post:List Nat) (acc:List (List Int)) (S':aA) (x y:Option D),(∀ b∈post,b<E.length)->acc.length+post.length*7<=100->S'[S.length]? =some (acc.map tupI)->Kp k S S'->
  ∃(x' y':Option D) (rs:List (List Int)) (S2:aA),fT ⟨its,.none⟩ (gN 3) gQ (post.map fun i:Nat=>.int (0+(i:Int))) [some (aE n E),some (.tup (E.map tupI)),some (.lst S.length),x,y] S'=some (.ok (.nx [some (aE n E),some (.tup (E.map tupI)),some (.lst S.length),x',y']),S2)/\S2[S.length]? =some ((acc++rs).map tupI)/\rs.Sublist (post.flatMap (iQ E.length))/\Kp k S S2
 |[],acc,S',x,y,_,_,g,kp=>⟨x,y,[],S',by rw[KZ,fx];rfl,by rw[Kd];exact g,.slnil,kp⟩
 | a::post,acc,S',x,y,ha,hl,g,kp=>by
  rw[JY,LU]at hl;have Y:=ha a (.head _);have hlen:cG cn (mV 1) [some (aE n E),some (.tup (E.map tupI)),some (.lst S.length),some (.int a),y]=pure (.int E.length):=by
   refine(fG (x:=.tup (E.map tupI)) rfl).trans ?_;show pure (D.int (E.map tupI).length)=_;rw[JI]
  have hi:=(sr (cC (f:=cq) (m:=mV 3) (n:=mK (.int 1)) (ρ:=[some (aE n E),some (.tup (E.map tupI)),some (.lst S.length),some (.int a),y]) (x:=.int a) (y:=.int 1) rfl rfl) hlen).trans (A6 (i:=(a:Int)+1) (j:=E.length) (by omega))
  have er:aR ((a:Int)+1) ((E.length:Int) - ((a:Int)+1)).toNat=(List.range' (a+1) (E.length - (a+1))).map fun b:Nat=>.int (b:Int):=by
   have e:((E.length:Int) - ((a:Int)+1)).toNat=E.length - (a+1):=by omega
   rw[e];unfold aR;rw[Le,KJ];refine Mb fun i _=>?_;show D.int ((a:Int)+1+(i:Int))= .int ((a+1+i:Nat):Int);congr 1
  rw[er]at hi;obtain⟨y1,rs,S1,e1,g1,sb,k1⟩:=sI (S:=S) (k:=k) (n:=n) (its:=(List.range' (a+1) (E.length - (a+1))).map fun b:Nat=>.int (b:Int)) hk h2 Y (List.range' (a+1) (E.length - (a+1))) acc S' y (fun b hb=>by have:=Lq.mp hb;omega) (by rw[Ln];omega) g kp
  have O:rs.length<=7:=JV sb.length_le (by rw[JI,Ln];omega)
  obtain⟨x',y',Z,S2,e2,g2,U,k2⟩:=uD hk hE h2 post (acc++rs) S1 (some (.int a)) y1 (fun b hb=>ha b (.tail _ hb)) (by rw[JM];omega) g1 k1
  refine⟨x',y',rs++Z,S2,?_,by rw[<-J7];exact g2,by rw[Kw];exact sb.append U,k2⟩
  rw[J3,K3];exact(eR rfl (kH hi e1)).trans e2
theorem Bj(hs:dG S k)(hE:E.length<=7)(h2:∀ t∈E,∃ x y:Int,t=[x,y]):∃(T:List (List Int)) (S1:aA),eV [aE n E] S=some (.ok (aE E.length T),S1)/\WebOk E.length T/\Kp k S S1:=by
 obtain⟨x',y',rs,S2,e,g,sb,kp⟩:=uD (S:=S) (k:=k) (n:=n) (its:=aR 0 E.length) hs.lt hE h2 (List.range E.length) [] (S++[[]]) none none (fun a ha=>J5.mp ha) (by rw[Kj];simp;omega) dq (Kp.grow hs _)
 rw[Ls]at g;have w:WebOk E.length rs:=WebOk.of_sub hE sb;have hlen:∀{x y z:Option D},cG cn (mV 1) [some (aE n E),some (.tup (E.map tupI)),x,y,z]=pure (.int E.length):=fun{x y z}=>by
  refine(fG (x:=.tup (E.map tupI)) rfl).trans ?_;show pure (D.int (E.map tupI).length)=_;rw[JI]
 have hm:hZ [some (aE n E),none,none,none,none] S=some (.ok (.ret (aE E.length rs)),S2):=by
  unfold hZ;have h0:bK 1 (aU br (mV 0) (mK (.int 1))) [some (aE n E),none,none,none,none] S=some (.ok (.nx [some (aE n E),some (.tup (E.map tupI)),none,none,none]),S):=bH rfl;have h1:bK 2 (bx ao) [some (aE n E),some (.tup (E.map tupI)),none,none,none] S=some (.ok (.nx [some (aE n E),some (.tup (E.map tupI)),some (.lst S.length),none,none]),S++[[]]):=bH (cD (S:=S) (us:=[]) (J4 _));have hi:lY (cG cn (mV 1)) [some (aE n E),some (.tup (E.map tupI)),some (.lst S.length),none,none]=pure ⟨aR 0 E.length,.none⟩:=by
   have:=(l9 hlen (ρ:=[some (aE n E),some (.tup (E.map tupI)),some (.lst S.length),none,none])).trans (su (by omega))
   rw[Kf]at this;exact this
  refine(aK h0).trans ((aK h1).trans ((aK (kH hi e)).trans (fu (fw (x:=.int E.length) (S1:=S2) (by rw[hlen];rfl) ((iP (x:=.lst S.length) (S1:=S2) rfl).trans ?_)))))
  show(getL S.length>>=fun xs=>bQ xs) S2=_;rw[aL (cR g)];unfold bQ;rw[if_pos (by rw[JI];have:=w.few;unfold lim;omega)];rfl
 exact⟨rs,S2,eS (o:=.ret (aE E.length rs)) hm rfl,w,kp⟩
end
theorem FQ{l:List (List Int)}(h:l.Nodup):(dD l).Pairwise fun a b=>HT.lexLt a b=true:=by
 have h1:=de l;have h2:(dD l).Nodup:=(Lx (bU _)).mpr h;generalize dD l=s at h1 h2
 induction s with
 |nil=>exact .nil
 |cons x r ih=>
  obtain⟨a1,a2⟩:=Ks.mp h1;obtain⟨b1,b2⟩:=Ku.mp h2;refine Ks.mpr ⟨fun y hy=>?_,ih a2 b2⟩;cases q:HT.lexLt x y with
  |true=>rfl
  |false=>exact absurd (nq q (a1 y hy) ▸ hy) b1
theorem qT(h2:∀ r∈nss,r.length=2)(hl:nss.length<64):oB (nss.map tupI)=bD ((dD nss).map tupI):=by
 cases nss with
 |nil=>rfl
 |cons r nss=>
  have ht:two (r::nss)=true:=Kg.mpr fun x hx=>by rw[h2 x hx];rfl
  show(match rowsOf ((r::nss).map tupI)with|some nss=>t4 nss|none=>M.fail)=_
  rw[pk];exact if_pos ⟨hl,ht⟩
theorem jP{c:M D}{S2:aA}(h:c S=some (.ok (.lst S2.length),S2++[us]))(kp:Kp k S S2)(l:S2.length=S.length)(hc:cF 0 us=true):ji c S=some (.ok (.fz us),S2):=by
 have:=l8 (u:=.fz us) h (nz (kp.trans (Kp.grow kp.st [us]))) (.inl (by rw[JM,l];exact LB _)) (by rw[JM,l];exact LP _) (pE (f:=59) (by omega) dq hc)
 rw[this, <-l,List.take_left]
theorem qU{nss:List (List Int)}(hs:dG S k)(hp:S[p]? =some (nss.map tupI))(h2:∀ r∈nss,r.length=2)(hl:nss.length<64):ji (bX [.lst p]) S=some (.ok (.fz ((dD nss).map tupI)),S):=by
 refine jP ?_ (Kp.refl hs) rfl (fy _);show(getL p>>=fun xs=>oB xs) S=_;rw[aL (cR hp),qT h2 hl];exact cD (by rw[JI,(bU nss).length_eq];unfold lim;omega)
def Bk(zs:List Int):List Int->List Int
 |[a,b]=>[if zs.getD b.toNat 0<zs.getD a.toNat 0 then zs.getD b.toNat 0 else zs.getD a.toNat 0,if zs.getD b.toNat 0>zs.getD a.toNat 0 then zs.getD b.toNat 0 else zs.getD a.toNat 0]
 |t=>t
theorem nA{zs:List Int}{a:Int}(h0:0<=a)(h:a<zs.length):br (tupI zs) (.int a)=pure (.int (zs.getD a.toNat 0)):=by
 show(match iS (zs.map D.int) a with|some d=>(pure d:M D)|none=>M.fail)=_
 have:iS (zs.map D.int) a=some (.int (zs.getD a.toNat 0)):=by
  unfold iS u9;rw[JI];have h1:¬ (a<0):=by omega
  have h3:a.toNat<zs.length:=by omega
  simp[h0,h,h3]
 rw[this]
theorem qV{S:aA}{k n:Nat}{zs:List Int}{w0:Option D}{its:List D}(hk:k<S.length)(hz:zs.length=n):∀(post acc:List (List Int)) (S':aA) (x y:Option D),(∀ t∈post,∃ a b:Int,t=[a,b]/\0<=a/\a<n/\0<=b/\b<n)->acc.length+post.length<=500->S'[S.length]? =some (acc.map tupI)->Kp k S S'->
  ∃(x' y':Option D) (S2:aA),fT ⟨its,.none⟩ (fS 2 (ba (gN 3) (ba (gN 4) eh))) dh (post.map tupI) [w0,some (tupI zs),some (.lst S.length),x,y] S'=some (.ok (.nx [w0,some (tupI zs),some (.lst S.length),x',y']),S2)/\S2[S.length]? =some ((acc++post.map (Bk zs)).map tupI)/\Kp k S S2
 |[],acc,S',x,y,_,_,g,kp=>⟨x,y,S',by rw[KZ,fx];rfl,by rw[KZ,Kd];exact g,kp⟩
 | t::post,acc,S',x,y,ht,hl,g,kp=>by
  rw[JY]at hl;obtain⟨a,b,rfl,a0,a1,b0,b1⟩:=ht t (.head _);have pl:=(JN.mp g).1;have ha:aU br (mV 1) (mV 3) [w0,some (tupI zs),some (.lst S.length),some (.int a),some (.int b)]=pure (.int (zs.getD a.toNat 0)):=(cC (x:=tupI zs) (y:=.int a) rfl rfl).trans (nA a0 (by omega))
  have hb:aU br (mV 1) (mV 4) [w0,some (tupI zs),some (.lst S.length),some (.int a),some (.int b)]=pure (.int (zs.getD b.toNat 0)):=(cC (x:=tupI zs) (y:=.int b) rfl rfl).trans (nA b0 (by omega))
  have Y:=(call2 (F:=minD) ha hb).trans rfl;have Z:=(call2 (F:=maxD) ha hb).trans rfl;have h1:dh [w0,some (tupI zs),some (.lst S.length),some (.int a),some (.int b)] S'=some (.ok (.nx [w0,some (tupI zs),some (.lst S.length),some (.int a),some (.int b)]),S'.set S.length ((acc++[Bk zs [a,b]]).map tupI)):=by
   unfold dh;refine lu (x:=.non) ((kh (x:=.lst S.length) (y:=tupI (Bk zs [a,b])) (S1:=S') rfl rfl (fw (KC Y S') (KC Z S'))).trans ((kI g (by rw[JI];omega)).trans ?_))
   rw[Kv];rfl
  obtain⟨x',y',S2,e,g2,k2⟩:=qV (its:=its) (w0:=w0) hk hz post (acc++[Bk zs [a,b]]) (S'.set S.length ((acc++[Bk zs [a,b]]).map tupI)) (some (.int a)) (some (.int b)) (fun u hu=>ht u (.tail _ hu)) (by rw[JM];show acc.length+1+post.length<=500;omega) (Ka pl) (kp.set (JK _) hk)
  exact⟨x',y',S2,(eR rfl h1).trans e,by rw[J3, <-List.singleton_append, <-J7];exact g2,k2⟩
section
variable {n:Nat}{zs:List Int}{E:List (List Int)}
theorem nB(hz:zs.Perm (gz n))(hi:i<n):0<=zs.getD i 0/\zs.getD i 0<n:=by
 have hl:zs.length=n:=by rw[hz.length_eq];unfold gz;simp
 have:zs.getD i 0∈gz n:=by
  rw[<-hz.mem_iff,JS,JL (by omega)]
  exact KU _
 unfold gz at this;obtain⟨j,hj,e⟩:=Kh.mp this;have:=J5.mp hj;omega
theorem C9(hz:zs.Perm (gz n)):zs.Nodup:=by
 rw[hz.nodup_iff];unfold gz;exact List.Pairwise.map _ (fun a b h e=>h (by have e2:(0:Int)+(a:Int)=0+(b:Int):=e;omega)) (List.nodup_range (n:=n))
theorem fZ(hz:zs.Perm (gz n))(hi:i<n)(hj:j<n)(h:zs.getD i 0=zs.getD j 0):i=j:=by
 have hl:zs.length=n:=by rw[hz.length_eq];unfold gz;simp
 rw[JS,JS,JL (by omega),JL (by omega)]at h
 exact(List.getElem_inj (C9 hz)).mp h
theorem Hy(hz:zs.Perm (gz n))(w:WebOk n E):(E.map (Bk zs)).Nodup/\∀ t∈E.map (Bk zs),∃ a b:Int,t=[a,b]/\0<=a/\a<b/\b<n:=by
 constructor
 ·have hE:E.Nodup:=w.ris.imp fun{a b} h e=>by subst e;rw[jX]at h;cases h
  refine List.pairwise_map.mpr (List.Pairwise.imp_of_mem (fun{s t} hs ht hne e=>hne ?_) hE);obtain⟨a,b,rfl,a0,ab,bn⟩:=w.el s hs;obtain⟨c,d,rfl,c0,cd,dn⟩:=w.el t ht;have e1:=LY e;have e2:=LY e1.2;have h1:=e1.1;have h2:=e2.1;have k1:zs.getD a.toNat 0≠zs.getD b.toNat 0:=fun z=>by have:=fZ hz (i:=a.toNat) (j:=b.toNat) (by omega) (by omega) z;omega
  have k2:zs.getD c.toNat 0≠zs.getD d.toNat 0:=fun z=>by have:=fZ hz (i:=c.toNat) (j:=d.toNat) (by omega) (by omega) z;omega
  have ac:=fun z=>fZ hz (i:=a.toNat) (j:=c.toNat) (by omega) (by omega) z
  have bd:=fun z=>fZ hz (i:=b.toNat) (j:=d.toNat) (by omega) (by omega) z
  have ad:=fun z=>fZ hz (i:=a.toNat) (j:=d.toNat) (by omega) (by omega) z
  have bc:=fun z=>fZ hz (i:=b.toNat) (j:=c.toNat) (by omega) (by omega) z
  generalize zs.getD a.toNat 0=x at*;generalize zs.getD b.toNat 0=y at*;generalize zs.getD c.toNat 0=u at*;generalize zs.getD d.toNat 0=v at*;have key:(x=u/\y=v)\/(x=v/\y=u):=by
   by_cases q1:y<x<;>by_cases q2:v<u<;>simp only[q1,q2,if_true,if_false]at h1 h2<;>(split at h2<;>split at h2<;>omega)
  rcases key with⟨z1,z2⟩|⟨z1,z2⟩
  ·have:=ac z1;have:=bd z2;have e3:a=c:=by omega
   have e4:b=d:=by omega
   rw[e3,e4]
  ·have:=ad z1;have:=bc z2;omega
 ·intro t ht;obtain⟨s,hs,rfl⟩:=Kh.mp ht;obtain⟨a,b,rfl,a0,ab,bn⟩:=w.el s hs;have k1:zs.getD a.toNat 0≠zs.getD b.toNat 0:=fun z=>by have:=fZ hz (i:=a.toNat) (j:=b.toNat) (by omega) (by omega) z;omega
  obtain⟨p0,p1⟩:=nB hz (i:=a.toNat) (by omega)
  obtain⟨q0,q1⟩:=nB hz (i:=b.toNat) (by omega)
  refine⟨_,_,rfl,?_,?_,?_⟩<;>(generalize zs.getD a.toNat 0=x at*;generalize zs.getD b.toNat 0=y at*;split<;>(try split)<;>omega)
theorem WebOk.sort{T:List (List Int)}(h:T.Nodup)(he:∀ t∈T,∃ a b:Int,t=[a,b]/\0<=a/\a<b/\b<m)(hl:T.length<=21):WebOk m (dD T):=
 ⟨fun t ht=>he t ((bU T).mem_iff.mp ht),FQ h,by rw[(bU T).length_eq];exact hl⟩
theorem yH(hs:dG S k)(hz:zs.Perm (gz n))(w:WebOk n E):∃(T:List (List Int)) (S1:aA),d5 [aE n E,tupI zs] S=some (.ok (aE n T),S1)/\WebOk n T/\T.length=E.length/\Kp k S S1:=by
 have hl:zs.length=n:=by rw[hz.length_eq];unfold gz;simp
 have hf:=w.few;obtain⟨x',y',S2,e,g,kp⟩:=qV (S:=S) (k:=k) (n:=n) (zs:=zs) (w0:=some (aE n E)) (its:=E.map tupI) hs.lt hl E [] (S++[[]]) none none (fun t ht=>by
  obtain⟨a,b,e,h1,h2,h3⟩:=w.el t ht;exact⟨a,b,e,h1,by omega,by omega,h3⟩) (by simp;omega) dq (Kp.grow hs _)
 rw[Ls]at g;obtain⟨nd,el⟩:=Hy hz w;have wT:WebOk n (dD (E.map (Bk zs))):=WebOk.sort nd el (by rw[JI];exact hf)
 have Z:=qU kp.st g (fun r hr=>by obtain⟨a,b,e,_⟩:=el r hr;rw[e];rfl) (by rw[JI];omega)
 have hm:gw [some (aE n E),some (tupI zs),none,none,none] S=some (.ok (.ret (aE n (dD (E.map (Bk zs))))),S2):=by
  unfold gw;have h1:bK 2 (bx ao) [some (aE n E),some (tupI zs),none,none,none] S=some (.ok (.nx [some (aE n E),some (tupI zs),some (.lst S.length),none,none]),S++[[]]):=bH (cD (S:=S) (us:=[]) (J4 _));have hi:ij (aU br (mV 0) (mK (.int 1))) [some (aE n E),some (tupI zs),some (.lst S.length),none,none]=pure ⟨E.map tupI,.none⟩:=rfl;have h3:aV (cG bX (mV 2)) [some (aE n E),some (tupI zs),some (.lst S.length),x',y'] S2=some (.ok (.fz ((dD (E.map (Bk zs))).map tupI)),S2):=by
   unfold aV;rw[fG (f:=bX) (m:=mV 2) (ρ:=[some (aE n E),some (tupI zs),some (.lst S.length),x',y']) (x:=.lst S.length) rfl];exact Z
  refine(aK h1).trans ((aK (kH hi e)).trans (fu (fw (x:=.int n) (S1:=S2) rfl ((iP h3).trans ?_))));rw[o6 (by rw[JI];have:=wT.few;unfold lim;omega)];rfl
 exact⟨_,S2,eS (o:=.ret (aE n (dD (E.map (Bk zs))))) hm rfl,wT,by rw[(bU _).length_eq,JI],kp⟩
end
theorem FR{ms:aM->M (List D)}(h:ms ρ S=some (.ok [d1,d2],S1)):Fi i j ms ρ S=some (.ok (.nx ((ρ.set i (some d1)).set j (some d2))),S1):=by
 unfold Fi;rw[aL h];rfl
theorem ki{e1 e2:TM}(hs:dG S k)(h1:e1 ρ=pure (.lst k))(h2:e2 ρ=pure (.int m))(h0:0<m)(hm:m<1000):∃ j S1,aV (az aq (aa e1 (aa e2 ao))) ρ S=some (.ok (.int j),S1)/\0<=j/\j<m/\Kp k S S1/\S1.length=S.length:=by
 obtain⟨j,S1,e,r⟩:=sH (many:=m) hs h0 (by omega)
 refine⟨j,S1,?_,r⟩;unfold aV;rw[call2 h1 h2];exact e
theorem uE{e:TM}(hs:dG S k)(he:∀ S,dG S k->∃ j S1,e ρ S=some (.ok (.int j),S1)/\0<=j/\j<m/\Kp k S S1/\S1.length=S.length):
  ∃ a b S1,aV (cG bX (aV (bx (aa e (aa e ao))))) ρ S=some (.ok (.fz [.int a,.int b]),S1)/\(0<=a/\a<m)/\(0<=b/\b<m)/\Kp k S S1/\S1.length=S.length:=by
 obtain⟨i,S1,e1,i0,i1,k1,l1⟩:=he S hs;obtain⟨j,S2,e2,j0,j1,k2,l2⟩:=he S1 k1.st;have Z:=k1.trans k2;have Y:=l2.trans l1;have hL:aV (bx (aa e (aa e ao))) ρ S=some (.ok (.fz [.int i,.int j]),S2):=jP (jN (ys:=[.int i,.int j]) (bI e1 (bI e2 rfl)) lr) Z Y rfl;have hp:=sortI_perm [i,j];have hlen:(sortI [i,j]).length=2:=hp.length_eq
 match hq:sortI [i,j],hlen with
 |[a,b],_=>
  rw[hq]at hp;have ha:a=i\/a=j:=by simpa using hp.mem_iff.mp (JX ..)
  have hb:b=i\/b=j:=by simpa using hp.mem_iff.mp (JR _ (JX ..))
  refine⟨a,b,S2,?_,by rcases ha with rfl|rfl<;>exact⟨by assumption,by assumption⟩,by rcases hb with rfl|rfl<;>exact⟨by assumption,by assumption⟩,Z,Y⟩
  refine jP ((iP hL).trans ?_) Z Y rfl;have:bX [.fz [.int i,.int j]]=bD ((sortI [i,j]).map D.int):=rfl;rw[this,hq];exact cD lr
def kj(n:Nat)(T:List (List Int)):Prop:=∀ t∈T,∃ a b:Int,t=[a,b]/\0<=a/\a<b/\b<n
theorem kj.snoc{n:Nat}{T:List (List Int)}{a b:Int}(h:kj n T)(h0:0<=a)(h1:a<b)(h2:b<n):kj n (T++[[a,b]]):=fun t ht=>by
 rcases LM.mp ht with h'|h'
 ·exact h t h'
 ·exact⟨a,b,by simpa using h',h0,h1,h2⟩
section
variable {B:aA}{k n:Nat}{zs:List Int}{its:List D}
abbrev fA(B:aA)(k n:Nat)(zs:List Int)(r:List (Option D)):aM:=some (.lst k)::some (.int 7)::some (.int n)::some (tupI zs)::some (.lst B.length)::r
theorem FS(hk:k<B.length)(hn:n<=7)(hz:zs.Perm (gz n)):∀(post:List Nat) (acc:List (List Int)) (S':aA) (x5 x6 x7 x8 x9 x10:Option D),(∀ a∈post,1<=a/\a<n)->acc.length+post.length<=100->kj n acc->S'[B.length]? =some (acc.map tupI)->Kp k B S'->
  ∃(y5 y6 y7:Option D) (Z:List (List Int)) (S2:aA),fT ⟨its,.none⟩ (gN 5) bF (post.map fun b:Nat=>.int (b:Int)) (fA B k n zs [x5,x6,x7,x8,x9,x10]) S'=some (.ok (.nx (fA B k n zs [y5,y6,y7,x8,x9,x10])),S2)/\S2[B.length]? =some (Z.map tupI)/\kj n Z/\Z.length<=acc.length+post.length/\Kp k B S2
 |[],acc,S',x5,x6,x7,x8,x9,x10,_,_,gt,g,kp=>⟨x5,x6,x7,acc,S',by rw[KZ,fx];rfl,g,gt,JK _,kp⟩
 | a::post,acc,S',x5,x6,x7,x8,x9,x10,ha,hl,gt,g,kp=>by
  rw[JY]at hl ⊢;obtain⟨a1,a2⟩:=ha a (.head _);have a4:zs.length=n:=by rw[hz.length_eq];unfold gz;simp
  obtain⟨j,S1,ej,j0,j1,k1,l1⟩:=ki (e1:=mV 0) (e2:=mK (.int 8)) (ρ:=fA B k n zs [some (.int a),x6,x7,x8,x9,x10]) (m:=8) kp.st rfl rfl (by decide) (by decide)
  have pl:=(JN.mp g).1;have g1:=(k1.oth B.length pl (by omega)).trans g
  have ht:eT EK (aV (az aq (aa (mV 0) (aa (mK (.int 8)) ao)))) (mK (.int 0)) (fA B k n zs [some (.int a),x6,x7,x8,x9,x10]) S'=some (.ok (decide (0<j)),S1):=pF (y:=.int 0) ej rfl rfl;by_cases hj:0<j
  ·obtain⟨i,S2,ei,i0,i1,k2,l2⟩:=ki (e1:=mV 0) (e2:=mV 5) (ρ:=fA B k n zs [some (.int a),x6,x7,x8,x9,x10]) (m:=a) k1.st rfl rfl (by omega) (by omega)
   have g2:=(k2.oth B.length (by omega) (by omega)).trans g1
   have v1:aU br (mV 3) (mV 5) (fA B k n zs [some (.int a),x6,x7,x8,x9,x10]) S1=some (.ok (.int (zs.getD a 0)),S1):=by
    rw[cC (x:=tupI zs) (y:=.int a) rfl rfl,nA (by omega) (by omega),Kf];rfl
   have v2:aU br (mV 3) (aV (az aq (aa (mV 0) (aa (mV 5) ao)))) (fA B k n zs [some (.int a),x6,x7,x8,x9,x10]) S1=some (.ok (.int (zs.getD i.toNat 0)),S2):=by
    rw[ie (f:=br) (x:=tupI zs) (S1:=S1) rfl ei,nA i0 (by omega)];rfl
   have O:zs.getD a 0≠zs.getD i.toNat 0:=fun z=>by have:=fZ hz (i:=a) (j:=i.toNat) a2 (by omega) z;omega
   obtain⟨p0,p1⟩:=nB hz (i:=a) a2;obtain⟨q0,q1⟩:=nB hz (i:=i.toNat) (by omega)
   have h1:bF (fA B k n zs [some (.int a),x6,x7,x8,x9,x10]) S'=some (.ok (.nx (fA B k n zs [some (.int a),some (.int (zs.getD a 0)),some (.int (zs.getD i.toNat 0)),x8,x9,x10])),S2.set B.length ((acc++[[if zs.getD i.toNat 0<zs.getD a 0 then zs.getD i.toNat 0 else zs.getD a 0,if zs.getD i.toNat 0>zs.getD a 0 then zs.getD i.toNat 0 else zs.getD a 0]]).map tupI)):=by
    unfold bF;rw[mP ht,if_pos (JZ hj)];refine(aK (FR (bI v1 (bI v2 rfl)))).trans (lu (x:=.non) ((kh (x:=.lst B.length) (y:=tupI [if zs.getD i.toNat 0<zs.getD a 0 then zs.getD i.toNat 0 else zs.getD a 0,if zs.getD i.toNat 0>zs.getD a 0 then zs.getD i.toNat 0 else zs.getD a 0]) (S1:=S2) rfl rfl (fw rfl rfl)).trans ((kI g2 (by rw[JI];omega)).trans ?_)))
    rw[Kv];rfl
   obtain⟨y5,y6,y7,Z,U,e3,g3,Y,l3,k3⟩:=FS hk hn hz post (acc++[[if zs.getD i.toNat 0<zs.getD a 0 then zs.getD i.toNat 0 else zs.getD a 0,if zs.getD i.toNat 0>zs.getD a 0 then zs.getD i.toNat 0 else zs.getD a 0]]) (S2.set B.length ((acc++[[if zs.getD i.toNat 0<zs.getD a 0 then zs.getD i.toNat 0 else zs.getD a 0,if zs.getD i.toNat 0>zs.getD a 0 then zs.getD i.toNat 0 else zs.getD a 0]]).map tupI)) (some (.int a)) (some (.int (zs.getD a 0))) (some (.int (zs.getD i.toNat 0))) x8 x9 x10 (fun b hb=>ha b (.tail _ hb))
    (by rw[JM];show acc.length+1+post.length<=100;omega) (gt.snoc (by split<;>omega) (by split<;>split<;>omega) (by split<;>omega)) (Ka (by omega)) ((((kp.trans k1).trans k2)).set (JK _) hk)
   refine⟨y5,y6,y7,Z,U,(eR rfl h1).trans e3,g3,Y,?_,k3⟩;rw[JM]at l3;have:[[if zs.getD i.toNat 0<zs.getD a 0 then zs.getD i.toNat 0 else zs.getD a 0,if zs.getD i.toNat 0>zs.getD a 0 then zs.getD i.toNat 0 else zs.getD a 0]].length=1:=rfl;omega
  ·have h1:bF (fA B k n zs [some (.int a),x6,x7,x8,x9,x10]) S'=some (.ok (.nx (fA B k n zs [some (.int a),x6,x7,x8,x9,x10])),S1):=by
    unfold bF;rw[mP ht,if_neg (by rw[KF];exact hj)];rfl
   obtain⟨y5,y6,y7,Z,U,e3,g3,Y,l3,k3⟩:=FS hk hn hz post acc S1 (some (.int a)) x6 x7 x8 x9 x10 (fun b hb=>ha b (.tail _ hb)) (by omega) gt g1 (kp.trans k1)
   exact⟨y5,y6,y7,Z,U,(eR rfl h1).trans e3,g3,Y,by omega,k3⟩
theorem FT(hk:k<B.length)(hn:n<=7)(a4:1<=n):∀(post:List Nat) (acc:List (List Int)) (S':aA) (x5 x6 x7 x8 x9 x10:Option D),acc.length+post.length<=100->kj n acc->S'[B.length]? =some (acc.map tupI)->Kp k B S'->
  ∃(y8 y9 Y:Option D) (Z:List (List Int)) (S2:aA),fT ⟨its,.none⟩ (gN 8) bG (post.map fun b:Nat=>.int (0+(b:Int))) (fA B k n zs [x5,x6,x7,x8,x9,x10]) S'=some (.ok (.nx (fA B k n zs [x5,x6,x7,y8,y9,Y])),S2)/\S2[B.length]? =some (Z.map tupI)/\kj n Z/\Z.length<=acc.length+post.length/\Kp k B S2
 |[],acc,S',x5,x6,x7,x8,x9,x10,_,gt,g,kp=>⟨x8,x9,x10,acc,S',by rw[KZ,fx];rfl,g,gt,JK _,kp⟩
 | t::post,acc,S',x5,x6,x7,x8,x9,x10,hl,gt,g,kp=>by
  rw[JY]at hl ⊢;obtain⟨a,b,S1,e,⟨a0,a1⟩,⟨b0,b1⟩,k1,l1⟩:=uE (e:=aV (az aq (aa (mV 0) (aa (mV 2) ao)))) (ρ:=fA B k n zs [x5,x6,x7,some (.int t),x9,x10]) (m:=n) kp.st fun S hs=>ki hs rfl rfl (by omega) (by omega)
  have pl:=(JN.mp g).1;have g1:=(k1.oth B.length pl (by omega)).trans g
  have h0:mU (aV (cG bX (aV (bx (aa (aV (az aq (aa (mV 0) (aa (mV 2) ao)))) (aa (aV (az aq (aa (mV 0) (aa (mV 2) ao)))) ao)))))) (oK 2 (ba (gN 9) (ba (gN 10) eh))) (fA B k n zs [x5,x6,x7,some (.int t),x9,x10]) S'=some (.ok (.nx (fA B k n zs [x5,x6,x7,some (.int t),some (.int a),some (.int b)])),S1):=Bg e rfl;have ht:eT ng (mV 9) (mV 10) (fA B k n zs [x5,x6,x7,some (.int t),some (.int a),some (.int b)])=pure (decide (a<b)):=dw (x:=.int a) (y:=.int b) rfl rfl rfl;by_cases hab:a<b
  ·have h1:bG (fA B k n zs [x5,x6,x7,some (.int t),x9,x10]) S'=some (.ok (.nx (fA B k n zs [x5,x6,x7,some (.int t),some (.int a),some (.int b)])),S1.set B.length ((acc++[[a,b]]).map tupI)):=by
    unfold bG;refine(aK h0).trans ((KC ((b8 ht).trans (if_pos (JZ hab))) S1).trans (lu (x:=.non) ((kh (x:=.lst B.length) (y:=tupI [a,b]) (S1:=S1) rfl rfl (fw rfl rfl)).trans ((kI g1 (by rw[JI];omega)).trans ?_))))
    rw[Kv];rfl
   obtain⟨y8,y9,Y,Z,O,e3,g3,U,l3,k3⟩:=FT hk hn a4 post (acc++[[a,b]]) (S1.set B.length ((acc++[[a,b]]).map tupI)) x5 x6 x7 (some (.int t)) (some (.int a)) (some (.int b)) (by rw[JM];show acc.length+1+post.length<=100;omega) (gt.snoc a0 hab b1) (Ka (by omega)) ((kp.trans k1).set (JK _) hk)
   refine⟨y8,y9,Y,Z,O,?_,g3,U,?_,k3⟩
   ·rw[J3,K3];exact(eR rfl h1).trans e3
   ·rw[JM]at l3;have:[[a,b]].length=1:=rfl;omega
  ·have h1:bG (fA B k n zs [x5,x6,x7,some (.int t),x9,x10]) S'=some (.ok (.nx (fA B k n zs [x5,x6,x7,some (.int t),some (.int a),some (.int b)])),S1):=by
    unfold bG;exact(aK h0).trans (KC ((b8 ht).trans (if_neg (by rw[KF];exact hab))) S1)
   obtain⟨y8,y9,Y,Z,O,e3,g3,U,l3,k3⟩:=FT hk hn a4 post acc S1 x5 x6 x7 (some (.int t)) (some (.int a)) (some (.int b)) (by omega) gt g1 (kp.trans k1)
   refine⟨y8,y9,Y,Z,O,?_,g3,U,by omega,k3⟩
   rw[J3,K3];exact(eR rfl h1).trans e3
end
theorem vY{e:TM}(h:e ρ S=some (.ok x,S1)):lY e ρ S=kC [x] S1:=by
 unfold lY;rw[aL (bI h rfl)]
theorem nD{mi:aM->M Iter}(hi:mi ρ S=some (.ok ⟨its,.none⟩,S1))(h:fT ⟨its,.none⟩ g b its ρ S1=some (.ok o,S2)):kE mi g b ρ S=some (.ok o,S2):=by
 unfold kE;rw[aL hi];exact h
theorem Jf(l:List D)(m:Nat):S3.cutD l none (some (m:Int))=l.take m:=by
 unfold S3.cutD;rw[HT.sIx_none,HT.sIx_nat,List.drop_zero,Nat.sub_zero];by_cases h:m<=l.length
 ·rw[Nat.min_eq_left h]
 ·rw[Nat.min_eq_right (by omega),Mr (JK _),Mr (by omega)]
theorem kj.two(h:kj n T):∀ r∈T,r.length=2:=fun r hr=>by obtain⟨a,b,rfl,_⟩:=h r hr;rfl
theorem Da{B:aA}{acc:List (List Int)}(hs:dG S k)(g:S[B.length]? =some (acc.map tupI))(gt:kj n acc)(hl:acc.length<=18):
  cG dv (aV (cG bX (aV (DA (aV (cG gK (mV 4))) oN (oS (mV 1)))))) (fA B k n zs r) S=some (.ok (.tup (((ez acc).take 7).map tupI)),S)/\WebOk n ((ez acc).take 7):=by
 have w:WebOk n ((ez acc).take 7):=⟨fun t ht=>gt t (qQ.mp (List.mem_of_mem_take ht)),(yF acc).sublist (List.take_sublist _ _),by rw[KQ];omega⟩
 refine⟨?_,w⟩;have h1:aV (cG gK (mV 4)) (fA B k n zs r) S=some (.ok (.fz ((ez acc).map tupI)),S):=by
  refine jP ((iP (x:=.lst B.length) (S1:=S) rfl).trans ?_) (Kp.refl hs) rfl (fy _);show(getL B.length>>=fun xs=>match rowsOf xs with|some nss=>cZ nss|none=>M.fail) S=_
  rw[aL (cR g),pk];have ht:two acc=true:=Kg.mpr fun x hx=>by rw[gt.two x hx];rfl
  show cZ acc S=_;unfold cZ;rw[if_pos ⟨hl,ht⟩];exact cD (by rw[JI];have:=yE acc;unfold lim;omega)
 have h2:aV (DA (aV (cG gK (mV 4))) oN (oS (mV 1))) (fA B k n zs r) S=some (.ok (.fz (((ez acc).take 7).map tupI)),S):=by
  refine jP ?_ (Kp.refl hs) rfl (fy _);unfold DA;rw[aL h1];show bD (S3.cutD ((ez acc).map tupI) none (some ((7:Nat):Int))) S=_;rw[Jf, <-List.map_take];exact cD (by rw[JI,KQ];unfold lim;omega)
 have h3:aV (cG bX (aV (DA (aV (cG gK (mV 4))) oN (oS (mV 1))))) (fA B k n zs r) S=some (.ok (.fz (((ez acc).take 7).map tupI)),S):=by
  refine jP ((iP h2).trans ?_) (Kp.refl hs) rfl (fy _);show oB (((ez acc).take 7).map tupI) S=_;rw[qT (fun x hx=>gt.two x (qQ.mp (List.mem_of_mem_take hx))) (by rw[KQ];omega),yC w.ris]
  exact cD (by rw[JI,KQ];unfold lim;omega)
 refine(iP h3).trans ?_;rw[o6 (by rw[JI,KQ];unfold lim;omega)];rfl
theorem Bl(hs:dG S k):∃(n:Nat) (E:List (List Int)) (S1:aA),ji (a9 [.lst k,.int 7]) S=some (.ok (aE n E),S1)/\n<=7/\WebOk n E/\E.length<=7/\Kp k S S1/\S1.length=S.length:=by
 obtain⟨j,S1,ej,j0,j1,k1,l1⟩:=ki (e1:=mV 0) (e2:=az minD (aa (mK (.int 7)) (aa (aU cq (mV 1) (mK (.int 1))) ao))) (ρ:=[some (.lst k),some (.int 7),none,none,none,none,none,none,none,none,none]) (m:=7) hs rfl ((call2 (x:=.int 7) (y:=.int 8) rfl rfl).trans rfl) (by decide) (by decide)
 obtain⟨n,hn⟩:∃ n:Nat,1+j=n:=⟨(1+j).toNat,by omega⟩
 have Y:n<=7:=by omega
 obtain⟨zs,B,em,hz,k2,l2⟩:=uB (n:=n) k1.st (by omega)
 have hk:k<B.length:=by have:=hs.lt;omega
 have a4:=k2.st;have b0:t5 (mK (.int 1)) (mV 2) (fA B k n zs [none,none,none,none,none,none])=pure ⟨(List.range' 1 (n - 1)).map fun b:Nat=>.int (b:Int),.none⟩:=by
  refine((sr (x:=.int 1) (y:=.int n) rfl rfl).trans (A6 (by omega))).trans ?_
  congr 2;have e:((n:Int) - 1).toNat=n - 1:=by omega
  rw[e];unfold aR;rw[Le,KJ];refine Mb fun i _=>?_;show D.int (1+(i:Int))= .int ((1+i:Nat):Int);congr 1
 obtain⟨y5,y6,y7,U,b4,e3,g3,a6,l3,k3⟩:=FS (B:=B) (k:=k) (n:=n) (zs:=zs) (its:=(List.range' 1 (n - 1)).map fun b:Nat=>.int (b:Int)) hk Y hz (List.range' 1 (n - 1)) [] (B++[[]]) none none none none none none (fun a ha=>by have:=Lq.mp ha;omega) (by rw[Ln];simp;omega) (fun t ht=>by cases ht) dq (Kp.grow a4 _)
 rw[Ln]at l3;obtain⟨i,O,ei,i0,i1,k4,l4⟩:=ki (e1:=mV 0) (e2:=mK (.int 4)) (ρ:=fA B k n zs [y5,y6,y7,none,none,none]) (m:=4) k3.st rfl rfl (by decide) (by decide)
 have g4:=(k4.oth B.length (JN.mp g3).1 (by omega)).trans g3
 have b2:lY (aV (az aq (aa (mV 0) (aa (mK (.int 4)) ao)))) (fA B k n zs [y5,y6,y7,none,none,none]) b4=some (.ok ⟨aR 0 i.toNat,.none⟩,O):=by
  rw[vY ei,su (by omega)];rfl
 obtain⟨y8,y9,b1,Z,S5,e5,g5,b3,l5,k5⟩:=FT (B:=B) (k:=k) (n:=n) (zs:=zs) (its:=aR 0 i.toNat) hk Y (by omega) (List.range i.toNat) U O y5 y6 y7 none none none (by rw[Kj];simp at l3;omega) a6 g4 (k3.trans k4)
 rw[Kj]at l5;simp at l3;obtain⟨hT,w⟩:=Da (zs:=zs) (r:=[y5,y6,y7,y8,y9,b1]) k5.st g5 b3 (by omega)
 have hm:eN [some (.lst k),some (.int 7),none,none,none,none,none,none,none,none,none] S=some (.ok (.ret (aE n ((ez Z).take 7))),S5):=by
  unfold eN;have s1:aU cq (mK (.int 1)) (aV (az aq (aa (mV 0) (aa (az minD (aa (mK (.int 7)) (aa (aU cq (mV 1) (mK (.int 1))) ao))) ao)))) [some (.lst k),some (.int 7),none,none,none,none,none,none,none,none,none] S=some (.ok (.int n),S1):=by
   rw[ie (f:=cq) (x:=.int 1) (S1:=S) rfl ej, <-hn];rfl
  have s2:aV (az bL (aa (mV 0) (aa (mV 2) ao))) [some (.lst k),some (.int 7),some (.int n),none,none,none,none,none,none,none,none] S1=some (.ok (tupI zs),B):=by
   unfold aV;rw[call2 (x:=.lst k) (y:=.int n) rfl rfl];exact em
  have s3:bK 4 (bx ao) [some (.lst k),some (.int 7),some (.int n),some (tupI zs),none,none,none,none,none,none,none] B=some (.ok (.nx (fA B k n zs [none,none,none,none,none,none])),B++[[]]):=bH (cD (S:=B) (us:=[]) (J4 _));exact(aK (bH s1)).trans ((aK (bH s2)).trans ((aK s3).trans ((aK (kH b0 e3)).trans ((aK (nD b2 e5)).trans (fu (fw (x:=.int n) (S1:=S5) rfl hT))))))
 obtain⟨S6,e6,k6⟩:=pD (c:=a9 [.lst k,.int 7]) (d:=aE n ((ez Z).take 7)) hs (eS (o:=.ret (aE n ((ez Z).take 7))) hm rfl) ((k1.trans k2).trans k5) iw;exact⟨n,_,S6,e6,Y,w,by rw[KQ];omega,k6⟩
theorem DN{F:List D->M D}{e1 e2 e3:TM}(h1:e1 ρ=pure x)(h2:e2 ρ=pure y)(h3:e3 ρ=pure z):az F (aa e1 (aa e2 (aa e3 ao))) ρ=F [x,y,z]:=by
 unfold az;rw[bM h1 (bM h2 (bM h3 rfl)),ay]
theorem uF:∀ s t:List Int,PyData.eqvAll (s.map PyData.int) (t.map PyData.int)=decide (s=t)
 |[],[]=>by simp[PyData.eqvAll]
 |[],_::_=>by simp[PyData.eqvAll]
 |_::_,[]=>by simp[PyData.eqvAll]
 |x::s,y::t=>by
  rw[J3,J3];unfold PyData.eqvAll;rw[uF s t,Bool.eq_iff_iff];simp[PyData.eqv]
theorem FU:ke (tupI s) (tupI t)=pure (.bl (!decide (s=t))):=cN fun S=>by
 unfold ke;refine(i4 (sG s) (sG t)).mpr ⟨?_,rfl⟩;have:PyData.eqv (CV s) (CV t)=decide (s=t):=by
  unfold CV PyData.eqv;exact uF s t
 rw[this]
def Jp(a b:Int):D->Bool
 | .tup [.int x,.int y]=> !decide ([x,y]=[a,b])
 |_=>false
theorem six{v:Int}(i0:0<=i)(i1:i<6):∃ u:Int,iS [D.int 0,.int 0,.int 1,.int 2,.int 3,.int 7] i=some (.int u)/\0<=u/\u<=7:=by
 obtain⟨d,e,hd⟩:=DK (xs:=[D.int 0,.int 0,.int 1,.int 2,.int 3,.int 7]) i0 i1;simp only[List.mem_cons,List.not_mem_nil,or_false]at hd;rcases hd with rfl|rfl|rfl|rfl|rfl|rfl<;>exact⟨_,e,by decide,by decide⟩
abbrev d8(k:Nat)(r:List (Option D)):aM:=some (.lst k)::some (.int 7)::r
abbrev m6:TM:=aV (bx (aZ (mK (.int 0)) (aZ (mK (.int 0)) (aZ (mK (.int 1)) (aZ (mK (.int 2)) (aZ (mK (.int 3)) (aZ (mV 1) ao)))))))
theorem Dc(hs:dG S k):∃(n:Nat) (E:List (List Int)) (S1:aA),aJ (bK 3 (aU xT (mV 1) (aU br m6 (aV (az aq (aa (mV 0) (aa (mK (.int 6)) ao))))))) (bO (aV (az bB (aa (mV 0) (aa (az maxD (aa (mK (.int 0)) (aa (mV 3) ao))) (aa (aU cq (mV 2) (mK (.int 1))) ao)))))) (d8 k [some (.int j),x3,x4,x5,x6,x7]) S=some (.ok (.ret (aE n E)),S1)/\n<=7/\WebOk n E/\Kp k S S1:=by
 obtain⟨i,S1,ei,i0,i1,k1,l1⟩:=ki (e1:=mV 0) (e2:=mK (.int 6)) (ρ:=d8 k [some (.int j),x3,x4,x5,x6,x7]) (m:=6) hs rfl rfl (by decide) (by decide)
 obtain⟨u,hu,u0,u1⟩:=six (v:=0) i0 i1;obtain⟨n,hn⟩:∃ n:Nat,7 - u=n:=⟨(7 - u).toNat,by omega⟩
 obtain⟨E,S2,e2,w,k2,l2⟩:=uC (n:=n) (o:=j+1) k1.st (by omega)
 refine⟨n,E,S2,?_,by omega,w,k1.trans k2⟩
 have hL:m6 (d8 k [some (.int j),x3,x4,x5,x6,x7])=pure (.fz [.int 0,.int 0,.int 1,.int 2,.int 3,.int 7]):=dZ (us:=[.int 0,.int 0,.int 1,.int 2,.int 3,.int 7]) rfl (by show 6<=lim;unfold lim;omega)
 have h1:aU br m6 (aV (az aq (aa (mV 0) (aa (mK (.int 6)) ao)))) (d8 k [some (.int j),x3,x4,x5,x6,x7]) S=some (.ok (.int u),S1):=by
  refine(ie (KC hL S) ei).trans ?_;show(match iS [D.int 0,.int 0,.int 1,.int 2,.int 3,.int 7] i with|some d=>(pure d:M D)|none=>M.fail) S1=_
  rw[hu];rfl
 have h2:aU xT (mV 1) (aU br m6 (aV (az aq (aa (mV 0) (aa (mK (.int 6)) ao))))) (d8 k [some (.int j),x3,x4,x5,x6,x7]) S=some (.ok (.int n),S1):=by
  rw[ie (f:=xT) (x:=.int 7) (S1:=S) rfl h1, <-hn];rfl
 have Z:az maxD (aa (mK (.int 0)) (aa (mV 3) ao)) (d8 k [some (.int j),some (.int n),x4,x5,x6,x7])=pure (.int n):=by
  refine(call2 (x:=.int 0) (y:=.int n) rfl rfl).trans ?_;have:(if (n:Int)>0 then (n:Int)else 0)=n:=by split<;>omega
  show pure (D.int (if (n:Int)>0 then (n:Int)else 0))=pure (D.int n);rw[this]
 exact(aK (bH h2)).trans (fu ((KC (My ji (DN (F:=bB) (e1:=mV 0) (e3:=aU cq (mV 2) (mK (.int 1))) (x:=.lst k) (z:=.int (j+1)) rfl Z rfl)) S1).trans e2))
theorem uG{α:Type}{p:α->Bool}:∀{l:List α},(l.filter p).length=l.length->∀ x∈l,p x=true
 |[],_,x,h=>by cases h
 | a::l,h,x,hx=>by
  cases q:p a with
  |true=>
   rw[Lz q,JY,JY]at h;rcases J2.mp hx with rfl|hx
   ·exact q
   ·exact uG (by omega) x hx
  |false=>
   rw[LA (by rw[q];decide),JY]at h
   have:=LV p l;omega
theorem yI{T:List (List Int)}{a b:Int}(h2:∀ t∈T,∃ x y:Int,t=[x,y]):(T.map tupI).filter (Jp a b)=(T.filter fun t=> !decide (t=[a,b])).map tupI:=by
 rw[NC];congr 1;refine List.filter_congr fun t ht=>?_;obtain⟨x,y,rfl⟩:=h2 t ht;rfl
theorem Bm{α:Type} [DecidableEq α]:∀{l m:List α},l.Nodup->(∀ x∈l,x∈m)->l.length<=m.length
 |[],_,_,_=>J4 _
 |x::l,m,h,hs=>by
  obtain⟨h1,h2⟩:=Ku.mp h;have hx:=hs x (.head _);have:=Bm (l:=l) (m:=m.erase x) h2 fun y hy=>(List.mem_erase_of_ne (fun(e:y=x)=>h1 (by rw[<-e];exact hy))).mpr (hs y (.tail _ hy))
  rw[List.length_erase_of_mem hx]at this;have:=List.length_pos_of_mem hx;rw[JY];omega
theorem yJ{n:Nat}{a b:Int}(h0:0<=a)(h1:a<b)(h2:b<n):[a,b]∈cg n:=by
 unfold cg iQ;refine Nv.mpr ⟨a.toNat,J5.mpr (by omega),Kh.mpr ⟨b.toNat,Lq.mpr (by omega),?_⟩⟩
 rw[Int.toNat_of_nonneg h0,Int.toNat_of_nonneg (by omega)]
theorem Hz{n:Nat}{G:List (List Int)}(hn:n<=7)(nd:G.Nodup)(el:∀ t∈G,∃ a b:Int,t=[a,b]/\0<=a/\a<b/\b<n):G.length<=21:=
 JV (Bm nd fun t ht=>by obtain⟨a,b,rfl,h0,h1,h2⟩:=el t ht;exact yJ h0 h1 h2) (md hn).2
theorem Dd{S:aA}{k n:Nat}{j:Int}{x3 x5 x6 x7:Option D}{T:List (List Int)}(hs:dG S k)(hn:2<=n)(b6:n<=7)(w:WebOk n T):∃(E:List (List Int)) (S1:aA),aJ (mU (aV (cG bX (aV (bx (aa (aV (az aq (aa (mV 0) (aa (aU br (mV 4) (mK (.int 0))) ao)))) (aa (aV (az aq (aa (mV 0) (aa (aU br (mV 4) (mK (.int 0))) ao)))) ao)))))) (oK 2 (ba (gN 5) (ba (gN 6) eh)))) (aJ (bK 7 (cQ (ij (aU br (mV 4) (mK (.int 1)))) (gN 0) eF eG [none,some 5,some 6])) (aJ (jz (Fh (eT ng (mV 5) (mV 6)) (eT mS (cG cn (mV 7)) (cG cn (aU br (mV 4) (mK (.int 1)))))) (sX (wN dR (mV 7) (dX (aa (mV 5) (aa (mV 6) ao))))) eP) (bO (dX (aa (aU br (mV 4) (mK (.int 0))) (aa (cG dv (aV (cG bX (mV 7)))) ao)))))) (d8 k [some (.int j),x3,some (aE n T),x5,x6,x7]) S=some (.ok (.ret (aE n E)),S1)/\WebOk n E/\Kp k S S1:=by
 obtain⟨a,b,S1,e1,⟨a0,a1⟩,⟨b0,b1⟩,k1,l1⟩:=uE (e:=aV (az aq (aa (mV 0) (aa (aU br (mV 4) (mK (.int 0))) ao)))) (ρ:=d8 k [some (.int j),x3,some (aE n T),x5,x6,x7]) (m:=n) hs fun S hs=>ki hs rfl rfl (by omega) (by omega)
 have hT:=w.few;have h2:∀ t∈T,∃ x y:Int,t=[x,y]:=fun t ht=>by obtain⟨x,y,e,_⟩:=w.el t ht;exact⟨x,y,e⟩
 have b2:T.Nodup:=w.ris.imp fun{a b} h e=>by subst e;rw[jX]at h;cases h
 have hc:cQ (ij (aU br (mV 4) (mK (.int 1)))) (gN 0) eF eG [none,some 5,some 6] (d8 k [some (.int j),x3,some (aE n T),some (.int a),some (.int b),x7])=bD ((T.filter fun t=> !decide (t=[a,b])).map tupI):=by
  have hi:ij (aU br (mV 4) (mK (.int 1))) (d8 k [some (.int j),x3,some (aE n T),some (.int a),some (.int b),x7])=pure ⟨T.map tupI,.none⟩:=rfl;unfold cQ;rw[hi,ay,show iG [none,some 5,some 6] (d8 k [some (.int j),x3,some (aE n T),some (.int a),some (.int b),x7])=[none,some (.int a),some (.int b)]from rfl,sj (fun ρ=>∃ x,ρ=[x,some (.int a),some (.int b)]) (Jp a b) id (by rw[JI];unfold lim;omega) ⟨none,rfl⟩,ay,NH,yI h2]
  rintro d hd ρ ⟨x,rfl⟩;obtain⟨t,ht,rfl⟩:=Kh.mp hd;obtain⟨x,y,rfl⟩:=h2 t ht;exact⟨_,rfl,⟨_,rfl⟩,dw (x:=tupI [x,y]) (y:=tupI [a,b]) rfl rfl FU,fun _=>rfl⟩
 generalize hF:(T.filter fun t=> !decide (t=[a,b]))=F at hc;have Z:F.Sublist T:=by rw[<-hF];exact List.filter_sublist
 have c2:=Z.length_le;have hk:k<S1.length:=by have:=hs.lt;omega
 have s1:mU (aV _) (oK 2 (ba (gN 5) (ba (gN 6) eh))) (d8 k [some (.int j),x3,some (aE n T),x5,x6,x7]) S=some (.ok (.nx (d8 k [some (.int j),x3,some (aE n T),some (.int a),some (.int b),x7])),S1):=Bg e1 rfl;have s2:bK 7 (cQ (ij (aU br (mV 4) (mK (.int 1)))) (gN 0) eF eG [none,some 5,some 6]) (d8 k [some (.int j),x3,some (aE n T),some (.int a),some (.int b),x7]) S1=some (.ok (.nx (d8 k [some (.int j),x3,some (aE n T),some (.int a),some (.int b),some (.lst S1.length)])),S1++[F.map tupI]):=bH ((KC hc S1).trans (cD (by rw[JI];unfold lim;omega)))
 have a6:cG cn (mV 7) (d8 k [some (.int j),x3,some (aE n T),some (.int a),some (.int b),some (.lst S1.length)]) (S1++[F.map tupI])=some (.ok (.int F.length),S1++[F.map tupI]):=by
  refine(iP (x:=.lst S1.length) (S1:=S1++[F.map tupI]) rfl).trans ?_;show(getL S1.length>>=fun xs=>pure (D.int xs.length)) _=_;rw[aL (cR dq),JI];rfl
 have a4:cG cn (aU br (mV 4) (mK (.int 1))) (d8 k [some (.int j),x3,some (aE n T),some (.int a),some (.int b),some (.lst S1.length)])=pure (.int T.length):=by
  refine(fG (x:=.tup (T.map tupI)) rfl).trans ?_;show pure (D.int (T.map tupI).length)=_;rw[JI]
 have ht:Fh (eT ng (mV 5) (mV 6)) (eT mS (cG cn (mV 7)) (cG cn (aU br (mV 4) (mK (.int 1))))) (d8 k [some (.int j),x3,some (aE n T),some (.int a),some (.int b),some (.lst S1.length)]) (S1++[F.map tupI])=some (.ok (decide (a<b) && decide ((F.length:Int)=T.length)),S1++[F.map tupI]):=by
  have h1:eT ng (mV 5) (mV 6) (d8 k [some (.int j),x3,some (aE n T),some (.int a),some (.int b),some (.lst S1.length)]) (S1++[F.map tupI])=some (.ok (decide (a<b)),S1++[F.map tupI]):=rfl;have h3:=pF (f:=mS) a6 (KC a4 _) FF;show(eT ng (mV 5) (mV 6) _>>=_) _=_;rw[aL h1];cases decide (a<b)with
  |true=>exact h3
  |false=>rfl
 have fin:∀(G:List (List Int)) (S2:aA),S2[S1.length]? =some (G.map tupI)->Kp k S S2->G.Nodup->(∀ t∈G,∃ a b:Int,t=[a,b]/\0<=a/\a<b/\b<n)->G.length<=21->∃(E:List (List Int)) (Y:aA),bO (dX (aa (aU br (mV 4) (mK (.int 0))) (aa (cG dv (aV (cG bX (mV 7)))) ao))) (d8 k [some (.int j),x3,some (aE n T),some (.int a),some (.int b),some (.lst S1.length)]) S2=some (.ok (.ret (aE n E)),Y)/\WebOk n E/\Kp k S Y:=fun G S2 g kp nd el hl=>by
  have wG:WebOk n (dD G):=WebOk.sort nd el hl;have h3:aV (cG bX (mV 7)) (d8 k [some (.int j),x3,some (aE n T),some (.int a),some (.int b),some (.lst S1.length)]) S2=some (.ok (.fz ((dD G).map tupI)),S2):=by
   unfold aV;rw[fG (f:=bX) (m:=mV 7) (ρ:=d8 k [some (.int j),x3,some (aE n T),some (.int a),some (.int b),some (.lst S1.length)]) (x:=.lst S1.length) rfl];exact qU kp.st g (fun r hr=>by obtain⟨a,b,e,_⟩:=el r hr;rw[e];rfl) (by omega)
  refine⟨dD G,S2,fu (fw (x:=.int n) (S1:=S2) rfl ((iP h3).trans ?_)),wG,kp⟩;rw[o6 (by rw[JI];have:=wG.few;unfold lim;omega)];rfl
 have b4:Kp k S (S1++[F.map tupI]):=k1.trans (Kp.grow k1.st _);by_cases hq:(decide (a<b) && decide ((F.length:Int)=T.length))=true
 ·have c1:a<b:=KD (L4.mp hq).1;have b5:F.length=T.length:=by have:=KD (L4.mp hq).2;omega
  have b3:[a,b] ∉ T:=fun h=>by
   have:=uG (p:=fun t=> !decide (t=[a,b])) (l:=T) (by rw[hF];exact b5) _ h
   simp at this
  have O:(F++[[a,b]]).Nodup:=by
   refine List.nodup_append.mpr ⟨b2.sublist Z,Ku.mpr ⟨by simp,List.nodup_nil⟩,fun x hx y hy e=>?_⟩
   have c0:y=[a,b]:=by simpa using hy
   subst e c0;exact b3 (Z.subset hx)
  have U:∀ t∈F++[[a,b]],∃ a b:Int,t=[a,b]/\0<=a/\a<b/\b<n:=fun t ht=>by
   rcases LM.mp ht with h|h
   ·exact w.el t (Z.subset h)
   ·exact⟨a,b,by simpa using h,a0,c1,b1⟩
  obtain⟨E,Y,e3,w3,k3⟩:=fin (F++[[a,b]]) ((S1++[F.map tupI]).set S1.length ((F++[[a,b]]).map tupI)) (Ka (by rw[JM];exact LB _)) (b4.set (by omega) hs.lt)
   O U (Hz b6 O U)
  refine⟨E,Y,(aK s1).trans ((aK s2).trans ((aK (ρ':=d8 k [some (.int j),x3,some (aE n T),some (.int a),some (.int b),some (.lst S1.length)]) (S1:=(S1++[F.map tupI]).set S1.length ((F++[[a,b]]).map tupI)) ?_).trans e3)),w3,k3⟩;rw[mP ht,if_pos hq];refine lu (x:=.non) ((kh (x:=.lst S1.length) (y:=tupI [a,b]) (S1:=S1++[F.map tupI]) rfl rfl (fw rfl rfl)).trans ((kI dq (by rw[JI];omega)).trans ?_))
  rw[Kv];rfl
 ·obtain⟨E,Y,e3,w3,k3⟩:=fin F (S1++[F.map tupI]) dq b4 (b2.sublist Z) (fun t ht=>w.el t (Z.subset ht)) (by omega)
  refine⟨E,Y,(aK s1).trans ((aK s2).trans ((aK (ρ':=d8 k [some (.int j),x3,some (aE n T),some (.int a),some (.int b),some (.lst S1.length)]) (S1:=S1++[F.map tupI]) ?_).trans e3)),w3,k3⟩;rw[mP ht,if_neg hq];rfl
theorem FV(hs:dG S k):∃(n:Nat) (E:List (List Int)) (S1:aA),ji (dO [.lst k,.int 7]) S=some (.ok (aE n E),S1)/\n<=7/\WebOk n E/\Kp k S S1/\S1.length=S.length:=by
 suffices h:∃(n:Nat) (E:List (List Int)) (S1:aA),i7 (d8 k [none,none,none,none,none,none]) S=some (.ok (.ret (aE n E)),S1)/\n<=7/\WebOk n E/\Kp k S S1 by
  obtain⟨n,E,S1,e,hn,w,kp⟩:=h;obtain⟨S2,e2,k2⟩:=pD (c:=dO [.lst k,.int 7]) (d:=aE n E) hs (eS (o:=.ret (aE n E)) e rfl) kp iw;exact⟨n,E,S2,e2,hn,w,k2⟩
 obtain⟨j,S1,ej,j0,j1,k1,l1⟩:=ki (e1:=mV 0) (e2:=mK (.int 6)) (ρ:=d8 k [none,none,none,none,none,none]) (m:=6) hs rfl rfl (by decide) (by decide)
 have ht:eT ng (mV 2) (mK (.int 3)) (d8 k [some (.int j),none,none,none,none,none])=pure (decide (j<3)):=dw (x:=.int j) (y:=.int 3) rfl rfl rfl;unfold i7;by_cases hj:j<3
 ·obtain⟨n,E,S2,e2,hn,w,k2⟩:=Dc (j:=j) (x3:=none) (x4:=none) (x5:=none) (x6:=none) (x7:=none) k1.st;exact⟨n,E,S2,(aK (bH ej)).trans (jO ((KC ((b8 ht).trans (if_pos (JZ hj))) S1).trans e2)),hn,w,k1.trans k2⟩
 ·obtain⟨n0,E0,S2,e2,a4,w0,Y,k2,l2⟩:=Bl k1.st;obtain⟨T,a6,e3,wT,k3⟩:=Bj (n:=n0) k2.st Y fun t ht=>by obtain⟨x,y,e,_⟩:=w0.el t ht;exact⟨x,y,e⟩
  obtain⟨U,e4,k4,l4⟩:=pD (c:=az eV (aa (aV (az a9 (aa (mV 0) (aa (mV 1) ao)))) ao) (d8 k [some (.int j),none,none,none,none,none])) (d:=aE E0.length T) k1.st (by
   have hf:aV (az a9 (aa (mV 0) (aa (mV 1) ao))) (d8 k [some (.int j),none,none,none,none,none]) S1=some (.ok (aE n0 E0),S2):=by
    unfold aV;rw[call2 (x:=.lst k) (y:=.int 7) rfl rfl];exact e2
   exact(aL (bI hf rfl)).trans e3) (k2.trans k3) iw
  obtain⟨zs,S5,e5,hz,k5,l5⟩:=uB (n:=E0.length) k4.st (by omega)
  obtain⟨T2,S6,e6,w6,l6,k6⟩:=yH k5.st hz wT;obtain⟨Z,e7,k7,l7⟩:=pD (c:=az d5 (aa (mV 4) (aa (aV (az bL (aa (mV 0) (aa (aU br (mV 4) (mK (.int 0))) ao)))) ao)) (d8 k [some (.int j),none,some (aE E0.length T),none,none,none])) (d:=aE E0.length T2) k4.st (by
   have hf:aV (az bL (aa (mV 0) (aa (aU br (mV 4) (mK (.int 0))) ao))) (d8 k [some (.int j),none,some (aE E0.length T),none,none,none]) U=some (.ok (tupI zs),S5):=by
    unfold aV;rw[call2 (x:=.lst k) (y:=.int E0.length) rfl rfl];exact e5
   exact(aL (bI (x:=aE E0.length T) rfl (bI hf rfl))).trans e6) (k5.trans k6) iw
  have kp:=(k1.trans k4).trans k7;have hb:pI (eT mS (mV 2) (mK (.int 3))) (eT ng (aU br (mV 4) (mK (.int 0))) (mK (.int 2))) (d8 k [some (.int j),none,some (aE E0.length T2),none,none,none])=pure (decide (j=3)||decide ((E0.length:Int)<2)):=or_eq (dw (x:=.int j) (y:=.int 3) rfl rfl FF) (dw (x:=.int E0.length) (y:=.int 2) rfl rfl rfl);have s2:∀ A:cT,jz (eT ng (mV 2) (mK (.int 3))) A eP (d8 k [some (.int j),none,none,none,none,none]) S1=some (.ok (.nx (d8 k [some (.int j),none,none,none,none,none])),S1):=fun A=>KC ((b8 ht).trans (if_neg (by rw[KF];exact hj))) S1
  by_cases hq:(decide (j=3)||decide ((E0.length:Int)<2))=true
  ·refine⟨E0.length,T2,Z,(aK (bH ej)).trans ((aK (s2 _)).trans ((aK (bH e4)).trans ((aK (bH e7)).trans (jO (KC ((b8 hb).trans (if_pos hq)) Z))))),by omega,w6,kp⟩
  ·have h2:2<=E0.length:=by
    rw[Bool.or_eq_true,KF,KF]at hq;omega
   obtain⟨E,O,e8,w8,k8⟩:=Dd (j:=j) (x3:=none) (x5:=none) (x6:=none) (x7:=none) k7.st h2 Y w6;exact⟨E0.length,E,O,(aK (bH ej)).trans ((aK (s2 _)).trans ((aK (bH e4)).trans ((aK (bH e7)).trans ((aK (KC ((b8 hb).trans (if_neg hq)) Z)).trans e8)))),by omega,w8,kp.trans k8⟩
def m_find:cT:=aJ (jz (fU (bV (AH (mV 1)))) (bO (mK .non)) (eP)) (bO (aV (cQ (lY (mK (.int 13))) (gN 0) dE dF [none,some 3])))
def iy:cT:=aJ (bK 3 (aV (bx (aa (eA (mV 1) "NoWeb") (aa (eA (mV 1) "NoPlace") (aa (eA (mV 1) "NoPlaces") (ao))))))) (aJ (bK 3 (aV (aU cq (mV 3) (aV (bx (aa (eA (mV 1) "NoSharing") (aa (eA (mV 1) "NoRoot") (aa (eA (mV 1) "NoNumber") (ao))))))))) (aJ (bK 3 (aV (aU cq (mV 3) (aV (bx (aa (eA (mV 1) "NotJoined") (aa (eA (mV 1) "NoTie") (aa (eA (mV 1) "NoText") (ao))))))))) (aJ (bK 3 (aV (aU cq (mV 3) (aV (bx (aa (eA (mV 1) "NoLine") (aa (eA (mV 1) "NoDeed") (aa (eA (mV 1) "TooGreat") (ao))))))))) (aJ (bK 3 (aV (aU cq (mV 3) (aV (bx (aa (eA (mV 1) "NoMap") (ao))))))) m_find))))
theorem Bo(f:D)(c:M D):fq f c=aJ (bK 1 (mK .non)) (aJ (ud 0 2 1 f c) iy):=rfl
theorem yK(f g x:D):(iy [some f,some x,none,none]>>=outD)=(iy [some g,some x,none,none]>>=outD):=by
 unfold iy m_find;simp only[aJ,bK,sX,jz,bO,eP,mV,mK,bx,aU,wN,eA,AH,JA,fU,bV,eT,aa,ao,az,cG,cQ,aV,lY,xS,cH,ay,xi,DF,DG,DH,DI,List.set_cons_succ,List.set_cons_zero,outD,iG,List.map_cons,List.map_nil,Option.bind,List.getElem?_cons_succ,List.getElem?_cons_zero,Option.join]
theorem Bp(f:D)(c:M D):bg f c []=pC c (fun x=>iy [some f,some x,none,none]>>=outD):=by
 funext S;unfold bg nW;rw[if_pos (show[f].length=1 from rfl)];show((fq f c [some f,none,none,none])>>=outD) S=_;rw[Bo,bJ (ρ':=[some f,some .non,none,none]) rfl];have ht:ud 0 2 1 f c [some f,some .non,none,none]=Az 2 1 c [some f,some .non,none,none]:=by
  unfold ud;exact if_pos rfl
 show((ud 0 2 1 f c [some f,some .non,none,none]>>=fun o=>xS o iy)>>=outD) S=_;rw[ht,cH];show M.bnd (Az 2 1 c [some f,some .non,none,none]) _ S=_;unfold M.bnd Az pC;cases h:c S with
 |none=>rfl
 | some p=>
  obtain⟨r,S1⟩:=p;cases r with
  |ok a=>rfl
  | ex x=>
   cases x with
   |exc n ds=>
    dsimp only;by_cases hn:n∈aW
    ·rw[if_pos hn,if_pos hn];rfl
    ·rw[if_neg hn,if_neg hn]
   |_=>rfl
theorem cI:∀ f c es,bg f c es=a8 c es:=by
 intro f c es;unfold a8;cases es with
 |nil=>
  rw[Bp,Bp];congr 1;funext x;exact yK _ _ x
 |cons e es=>
  unfold bg nW;rw[if_neg (by simp),if_neg (by simp)]
section
variable {f:D}{n:Str}{ds:List D}{z:Option D}{bs:List Bool}
theorem nE(hn:n∈aW)(a:Str):eA (mV 1) a [some f,some (.exc n ds),none,z]=pure (.bl (bh n a)):=Bd (ds:=ds) (g:=fun n=>bh n a) hn
theorem three(hn:n∈aW)(a b c:Str):aV (bx (aa (eA (mV 1) a) (aa (eA (mV 1) b) (aa (eA (mV 1) c) ao)))) [some f,some (.exc n ds),none,z]=pure (.fz ([bh n a,bh n b,bh n c].map D.bl)):=by
 have h:=bM (nE (f:=f) (ds:=ds) (z:=z) hn a) (bM (nE (f:=f) (ds:=ds) (z:=z) hn b) (bM (nE (f:=f) (ds:=ds) (z:=z) hn c) (es:=ao) rfl));show ji (aa _ _ _>>=bD)=_;rw[h,ay];exact dZ (us:=[.bl (bh n a),.bl (bh n b),.bl (bh n c)]) rfl Ja
theorem sJ{e:TM}{cs:List Bool}(h:e [some f,some (.exc n ds),none,some (.fz (bs.map D.bl))]=pure (.fz (cs.map D.bl)))(hl:bs.length+cs.length<=100):bK 3 (aV (aU cq (mV 3) e)) [some f,some (.exc n ds),none,some (.fz (bs.map D.bl))]=pure (.nx [some f,some (.exc n ds),none,some (.fz ((bs++cs).map D.bl))]):=by
 refine sv (x:=.fz ((bs++cs).map D.bl)) ?_;show ji (aU cq (mV 3) e _)=_;rw[cC (x:=.fz (bs.map D.bl)) rfl h];show ji (bD (bs.map D.bl++cs.map D.bl))=_;rw[<-Kv];exact dZ (oY _) (by rw[JI,JM];unfold lim;omega)
theorem find_eq(hn:n∈aW)(hl:bs.length=13):m_find [some f,some (.exc n ds),none,some (.fz (bs.map D.bl))]=pure (.ret (.fz ((aR 0 13).filter (Ge bs)))):=by
 have h1:jz (fU (bV (AH (mV 1)))) (bO (mK .non)) eP [some f,some (.exc n ds),none,some (.fz (bs.map D.bl))]=pure (.nx [some f,some (.exc n ds),none,some (.fz (bs.map D.bl))]):=by
  have:fU (bV (AH (mV 1))) [some f,some (.exc n ds),none,some (.fz (bs.map D.bl))]=pure false:=by
   show((ua (fun _=>true) (.exc n ds)>>=kc)>>=_)=_;rw[Bd hn];rfl
  exact(b8 this).trans (if_neg (by decide))
 have hi:lY (mK (.int 13)) [some f,some (.exc n ds),none,some (.fz (bs.map D.bl))]=pure ⟨aR 0 13,.none⟩:=(l9 (x:=.int 13) rfl).trans (su (by omega))
 have Z:cF 0 (((aR 0 13).filter (Ge bs)).map id)=true:=by
  rw[NH];have:∀ l:List Nat,cF 0 ((l.map fun i:Nat=>D.int (0+(i:Int))).filter (Ge bs))=true:=fun l=>by
   induction l with
   |nil=>rfl
   |cons x l ih=>
    rw[J3,List.filter_cons];split
    ·unfold cF;rw[ih];unfold fW;rfl
    ·exact ih
  exact this _
 have hc:=jL (g:=gN 0) (t:=dE) (m:=dF) (js:=[none,some 3]) (fun ρ=>∃ x,ρ=[x,some (.fz (bs.map D.bl))]) (Ge bs) id hi (by unfold aR lim;rw[JI,Kj];omega) ⟨none,rfl⟩
  (fun d hd ρ ⟨x,hρ⟩=>by
   subst hρ;obtain⟨k,hk,rfl⟩:=Kh.mp hd;have hk:k<13:=J5.mp hk;refine⟨_,rfl,⟨_,rfl⟩,?_,fun _=>rfl⟩;have e:iS (bs.map D.bl) (0+(k:Int))=some (.bl (bs.getD k false)):=by
    rw[K3];unfold iS u9;rw[JI];have h1:¬ ((k:Int)<0):=by omega
    have h2:(k:Int)<bs.length:=by omega
    have h3:k<bs.length:=by omega
    simp[h1,h2,h3]
   refine jd ((cC (x:=.fz (bs.map D.bl)) (y:=.int (0+(k:Int))) rfl rfl).trans ?_);show(match iS (bs.map D.bl) (0+(k:Int))with|some d=>(pure d:M D)|none=>M.fail)=_
   rw[e];show pure (D.bl (bs.getD k false))=pure (D.bl (bs.getD (0+(k:Int)).toNat false));rw[K3,Kf]) Z
 rw[NH]at hc;unfold m_find;exact(bJ h1).trans (gk hc)
def marks(n:Str):List Bool:=[bh n "NoWeb",bh n "NoPlace",bh n "NoPlaces",bh n "NoSharing",bh n "NoRoot",bh n "NoNumber",bh n "NotJoined",bh n "NoTie",bh n "NoText",bh n "NoLine",bh n "NoDeed",bh n "TooGreat",bh n "NoMap"]
theorem rest_eq(hn:n∈aW):iy [some f,some (.exc n ds),none,none]=pure (.ret (.fz ((aR 0 13).filter (Ge (marks n))))):=by
 have h1:=sv (i:=3) (three (f:=f) (ds:=ds) (z:=none) hn "NoWeb" "NoPlace" "NoPlaces");have h5:aV (bx (aa (eA (mV 1) "NoMap") ao)) [some f,some (.exc n ds),none,some (.fz (([bh n "NoWeb",bh n "NoPlace",bh n "NoPlaces"]++[bh n "NoSharing",bh n "NoRoot",bh n "NoNumber"]++[bh n "NotJoined",bh n "NoTie",bh n "NoText"]++[bh n "NoLine",bh n "NoDeed",bh n "TooGreat"]).map D.bl))]=pure (.fz ([bh n "NoMap"].map D.bl)):=by
  show ji (aa _ _ _>>=bD)=_;rw[bM (nE hn "NoMap") (es:=ao) rfl,ay];exact dZ (us:=[.bl (bh n "NoMap")]) rfl (by show 1<=lim;unfold lim;omega)
 unfold iy;exact(bJ h1).trans ((bJ (sJ (bs:=[bh n "NoWeb",bh n "NoPlace",bh n "NoPlaces"]) (three hn "NoSharing" "NoRoot" "NoNumber") (by decide:3+3<=100))).trans ((bJ (sJ (bs:=[bh n "NoWeb",bh n "NoPlace",bh n "NoPlaces"]++[bh n "NoSharing",bh n "NoRoot",bh n "NoNumber"]) (three hn "NotJoined" "NoTie" "NoText") (by decide:6+3<=100))).trans ((bJ (sJ (bs:=[bh n "NoWeb",bh n "NoPlace",bh n "NoPlaces"]++[bh n "NoSharing",bh n "NoRoot",bh n "NoNumber"]++[bh n "NotJoined",bh n "NoTie",bh n "NoText"]) (three hn "NoLine" "NoDeed" "TooGreat") (by decide:9+3<=100))).trans ((bJ (sJ (bs:=[bh n "NoWeb",bh n "NoPlace",bh n "NoPlaces"]++[bh n "NoSharing",bh n "NoRoot",bh n "NoNumber"]++[bh n "NotJoined",bh n "NoTie",bh n "NoText"]++[bh n "NoLine",bh n "NoDeed",bh n "TooGreat"]) h5 (by decide:12+1<=100))).trans (find_eq (bs:=marks n) hn rfl)))))
theorem qW(hn:n∈aW)(Z:(aR 0 13).filter (Ge (marks n))=us):a8 (M.raise (.exc n ds)) []=pure (.fz us):=by
 unfold a8;rw[Bp];have:pC (M.raise (.exc n ds)) (fun x=>iy [some (.fn 0 0 "" [] []),some x,none,none]>>=outD)=(iy [some (.fn 0 0 "" [] []),some (.exc n ds),none,none]>>=outD):=by
  funext S;show(if n∈aW then _ else none)=_;rw[if_pos hn]
 rw[this,rest_eq hn,Z];rfl
end
theorem De:a8 (M.raise (.exc "NoWeb" [])) []=pure (.fz [.int 0]):=qW (by decide) (by rfl)
theorem yL:a8 (M.raise (great L)) []=pure (.fz [.int 11]):=qW (n:="TooGreat") (by decide) (by rfl)
def sL(a b:Nat):List D:=[.non,.int 0,.tup [],.tup [.int 15,.tup []],.tup [.int (-1),.tup []],.tup [.bl true,.tup []],.tup [.int 2,.lst a],.lst b,.tup [.int 2,.tup [.tup [.int 1,.int 0]]],.tup [.int 2,.tup [.tup [.int 0,.int 0]]]]
def sM:List D:=[.tup [.int 3,.tup [.tup [.int 0,.int 2],.tup [.int 0,.int 1]]],.tup [.int 2,.tup [.tup [.int 0,.int 1],.tup [.int 0,.int 1]]],.tup [.int 2,.tup [.tup [.int 0,.int 1,.int 1]]],.tup [.int 2,.tup [.tup [.int 0,.bl true]]],.tup [.int 2]]
def vZ:List D:=[.tup [.int 2,.tup [.tup [.int 0,.int 2]]],.str "2:",.emp]
def Bq(c:Nat):List D:=[.tup [.int 2,.tup [.lst c]],.tup [.int 2,.tup [],.tup []],.tup [.int 2,.non],.tup [.str "2",.tup []]]
abbrev yM(a b c:Nat):List D:=sL a b++sM++vZ++Bq c
theorem FW(ha:n<=a)(hb:n<=b)(hc:n<=c)(ga:S[a]? =some [])(gb:S[b]? =some [.int 2,.tup []])(gc:S[c]? =some [.int 0,.int 1]):∀ d∈yM a b c,∃ u,iB n (vO S n 60) d=some u/\Good u/\iu u=false:=by
 have fa:=pE (f:=59) ha ga rfl;have fb:=pE (f:=59) hb gb rfl;have fc:=pE (f:=59) hc gc rfl;have pl:∀ d,fW 0 d=true->Bb d=true->iu d=false->∃ u,iB n (vO S n 60) d=some u/\Good u/\iu u=false:=fun d h1 h2 h3=>⟨d,si d (xg (J4 _) d h1),lA h2,h3⟩;have p1:∃ u,iB n (vO S n 60) (.tup [.int 2,.lst a])=some u/\Good u/\iu u=false:=⟨.tup [.int 2,.fz []],by unfold iB fX fX fX;rw[fa];rfl,lA rfl,rfl⟩
 have p2:∃ u,iB n (vO S n 60) (.lst b)=some u/\Good u/\iu u=false:=⟨_,fb,lA rfl,rfl⟩;have p3:∃ u,iB n (vO S n 60) (.tup [.int 2,.tup [.lst c]])=some u/\Good u/\iu u=false:=⟨.tup [.int 2,.tup [.fz [.int 0,.int 1]]],by
  have:iB n (vO S n 60) (.tup [.lst c])=some (.tup [.fz [.int 0,.int 1]]):=by unfold iB fX fX;rw[fc];rfl
  unfold iB fX fX fX;rw[this];rfl,lA rfl,rfl⟩
 intro d hd;simp only[yM,sL,sM,vZ,Bq,List.mem_append,List.mem_cons,List.not_mem_nil,or_false]at hd;rcases hd with(((rfl|rfl|rfl|rfl|rfl|rfl|rfl|rfl|rfl|rfl)|(rfl|rfl|rfl|rfl|rfl))|(rfl|rfl|rfl))|(rfl|rfl|rfl|rfl)<;>first|exact p1|exact p2|exact p3|exact pl _ rfl rfl rfl
def bT(S:aA):aA:=[[],[.int 2,.tup []],sL S.length (S.length+1),sM,sL S.length (S.length+1)++sM,vZ,sL S.length (S.length+1)++sM++vZ,[.int 0,.int 1],Bq (S.length+7),yM S.length (S.length+1) (S.length+7)]
theorem Df(ej:aq [.lst k,.int 22] (S++bT S)=some (.ok (.int j),S'))(h5:S'[S.length+9]? =some (yM S.length (S.length+1) (S.length+7)))(ed:iS (yM S.length (S.length+1) (S.length+7)) j=some d):
  ff [some (.lst k),none] S=some (.ok (.ret d),S'):=by
 unfold ff;refine(aK (ρ':=[some (.lst k),some (.lst (S.length+2))]) (S1:=S++(bT S).take 3) (bH (x:=.lst (S.length+2)) ?_)).trans ((aK (ρ':=[some (.lst k),some (.lst (S.length+4))]) (S1:=S++(bT S).take 5) (bH (x:=.lst (S.length+4)) ?_)).trans ((aK (ρ':=[some (.lst k),some (.lst (S.length+6))]) (S1:=S++(bT S).take 7) (bH (x:=.lst (S.length+6)) ?_)).trans ((aK (ρ':=[some (.lst k),some (.lst (S.length+9))]) (S1:=S++bT S) (bH (x:=.lst (S.length+9)) ?_)).trans (fu ?_))))
 ·refine(jN (ys:=sL S.length (S++[[]]).length) (S1:=S++[[]]++[[.int 2,.tup []]]) rfl (by show 10<=lim;unfold lim;omega)).trans ?_
  rw[show(S++([[]]:aA)).length=S.length+1 from JM,J7,JM,J7];rfl
 ·refine(ie (x:=.lst (S.length+2)) rfl (jN (ys:=sM) (S1:=S++(bT S).take 3) rfl (by show 5<=lim;unfold lim;omega))).trans ?_
  rw[J7,JM];refine(sy (xs:=sL S.length (S.length+1)) (ys:=sM) (kb 2) (kb 3) (by show 15<=lim;unfold lim;omega)).trans ?_
  rw[J7,JM];rfl
 ·refine(ie (x:=.lst (S.length+4)) rfl (jN (ys:=vZ) (S1:=S++(bT S).take 5) rfl (by show 3<=lim;unfold lim;omega))).trans ?_
  rw[J7,JM];refine(sy (xs:=sL S.length (S.length+1)++sM) (ys:=vZ) (kb 4) (kb 5) (by show 18<=lim;unfold lim;omega)).trans ?_
  rw[J7,JM];rfl
 ·refine(ie (x:=.lst (S.length+6)) rfl (jN (ys:=Bq (S++(bT S).take 7).length) (S1:=S++(bT S).take 7++[[.int 0,.int 1]]) rfl (by show 4<=lim;unfold lim;omega))).trans ?_
  rw[show(S++(bT S).take 7).length=S.length+7 from JM,J7,J7,JM];refine(sy (xs:=sL S.length (S.length+1)++sM++vZ) (ys:=Bq (S.length+7)) (kb 6) (kb 8) (by show 22<=lim;unfold lim;omega)).trans ?_
  rw[JM];exact My (fun x=>some (Res.ok (D.lst (S.length+9)),x)) (J7 _ _ _)
 ·refine(ie (x:=.lst (S.length+9)) (y:=.int j) (S2:=S') rfl ?_).trans (xj h5 ed);exact ej
theorem FX(hs:dG S k):∃ d S1,ji (dN [.lst k]) S=some (.ok d,S1)/\Good d/\iu d=false/\Kp k S S1/\S1.length=S.length:=by
 obtain⟨_,S',ej,j,rfl,j0,j1,Z⟩:=xq (Q:=fun d S'=>∃ j,d= .int j/\0<=j/\j<22/\Kp k (S++bT S) S') hs.grow (many:=22) (by decide) (by decide) fun j S' a b _ kp=>⟨j,rfl,a,b,kp⟩
 have hk:=hs.lt;have gt:∀ i us,(S++bT S)[S.length+i]? =some us->S'[S.length+i]? =some us:=fun i us h=>(Z.oth (S.length+i) (JN.mp h).1 (by omega)).trans h
 obtain⟨d,ed,hd⟩:=DK (xs:=yM S.length (S.length+1) (S.length+7)) j0 j1;have kp:Kp k S S':=(Kp.grow hs _).trans Z;obtain⟨u,hu,hg,hw⟩:=FW (n:=S.length) (a:=S.length) (b:=S.length+1) (c:=S.length+7) (S:=S') (JK _) (LC _ _) (LC _ _) (gt 0 _ (kb 0)) (gt 1 _ (kb 1)) (gt 7 _ (kb 7)) d hd;refine⟨u,_,l8 (eS (Df ej (gt 9 _ (kb 9)) ed) rfl) (nz kp) (.inl ?_) kp.len hu,hg,hw,xt hs kp⟩;have:=Z.len;rw[JM,show(bT S).length=10 from rfl]at this;omega
theorem Dg{xs:List D}(hl:xs.length<=1000)(h:∀ x∈xs,bC k [x,x]=pure (.bl true)):bC (k+1) [.fz xs,.fz xs]=pure (.bl true):=by
 have em:((((xs.zip xs).map fun p:D×D=>D.tup [p.1,p.2]).filter fun _=>true).map fun _=>D.bl true)=(xs.map fun _=>true).map D.bl:=by
  rw[fY,KJ,KJ];refine Nx (by simp) fun i h1 h2=>by simp
 have hc:=jL (mi:=qI (mV 0) (mV 1)) (g:=fS 2 (ba (gN 0) (ba (gN 1) eh))) (t:=fi (bC k)) (m:=fj (bC k)) (js:=[none,none]) (ρ:=[some (.fz xs),some (.fz xs)])
  (its:=(xs.zip xs).map fun p:D×D=>D.tup [p.1,p.2]) (fun ρ=>∃ x y,ρ=[x,y]) (fun _=>true) (fun _=>.bl true) rfl (by rw[JI,NB];unfold lim;omega) ⟨none,none,rfl⟩
  (fun d hd ρ ⟨x,y,hρ⟩=>by
   subst hρ;obtain⟨z,hz,rfl⟩:=o7 hd;exact⟨_,rfl,⟨_,_,rfl⟩,rfl,fun _=>uy ((call2 rfl rfl).trans (h z hz))⟩) (by rw[em];exact oY _)
 rw[em]at hc;have Z:(xs.map fun _=>true).all id=true:=by rw[MX];exact Kg.mpr fun _ _=>rfl
 have hlen:∀ j,j<2->cG cn (mV j) [some (.fz xs),some (.fz xs)]=pure (.int xs.length):=fun j hj=>by
  match j,hj with
  |0,_=>rfl
  |1,_=>rfl
 refine gj (o:=.ret (.bl true)) ?_ rfl;show cM _ [some (.fz xs),some (.fz xs)]=_;unfold cM;refine jM ?_;refine(b8 (b:=true) (jd rfl)).trans ?_;rw[if_pos rfl];have hb:∀ T,eT ke (gh (mV 0) T) (gh (mV 1) T) [some (.fz xs),some (.fz xs)]=pure false:=fun T=>dw (x:=.bl (gT "list" T)) (y:=.bl (gT "list" T)) rfl rfl Jb;have ho:pI (eT ke (gh (mV 0) "tuple") (gh (mV 1) "tuple")) (eT ke (gh (mV 0) "list") (gh (mV 1) "list")) [some (.fz xs),some (.fz xs)]=pure false:=or_eq (hb "tuple") (hb "list");rw[bJ ((b8 ho).trans (if_neg (by decide))),bJ ((b8 (dw (hlen 0 (by decide)) (hlen 1 (by decide)) Jm)).trans (if_neg (by decide)))]
 refine gk ((fG hc).trans (sx.trans ?_));rw[Z]
def lB(fv:D)(cc:M D):cT:=aJ (jz (pI (eT (G5 id) (mV 3) (mK .non)) (eT ke (aV (ll 0 fv (ao) cc a8)) (aV (bx (aa (mK (.int 11)) (ao)))))) (bO (mK (.bl false))) (eP)) (bO (aV (az cu (aa (aV (bx (aa (jF false (mV 3)) (aa (jF true (mV 3)) (ao))))) (aa (aV (bx (aa (mV 1) (aa (mV 2) (ao))))) (ao))))))
theorem Dh(f:D)(c:M D):d7 f c=aJ (bK 3 (mK .non)) (aJ (mL "TooGreat" 0 4 3 f c) (lB f c)):=rfl
theorem xv{R:M D->List D->M D}:ll 0 f ao c R (some f::r)=R c []:=by
 unfold ll;rw[if_pos (show(some f::r:aM)[0]? =some (some f)from rfl)];rfl
theorem Br(f g:D)(c:M D)(a b x:D):(lB f c [some f,some a,some b,some x,none]>>=outD)=(lB g c [some g,some a,some b,some x,none]>>=outD):=by
 unfold lB;simp only[aJ,jz,bO,eP,mV,mK,bx,aU,az,cG,aV,jF,pI,eT,aa,ao,xS,cH,ay,xi,DF,DG,DH,DI,outD,xv]
def v5(c:M D)(k:D->M D):M D:=fun S=>match c S with
 |some (.ok _,S')=>k .non S'
 |some (.ex (.exc n ds),S')=>if n∈aW/\bh n "TooGreat"=true then k (.exc n ds) S' else none
 |_=>none
theorem Bs(f:D)(c:M D)(a b:D):bq f c [a,b]=v5 c (fun x=>lB f c [some f,some a,some b,some x,none]>>=outD):=by
 funext S;unfold bq nW;rw[if_pos (show[f,a,b].length=3 from rfl)];show((d7 f c [some f,some a,some b,none,none])>>=outD) S=_;rw[Dh,bJ (ρ':=[some f,some a,some b,some .non,none]) rfl];have ht:mL "TooGreat" 0 4 3 f c [some f,some a,some b,some .non,none]=A3 "TooGreat" 4 3 c [some f,some a,some b,some .non,none]:=by
  unfold mL;exact if_pos rfl
 show((mL "TooGreat" 0 4 3 f c [some f,some a,some b,some .non,none]>>=fun o=>xS o (lB f c))>>=outD) S=_;rw[ht,cH];show M.bnd (A3 "TooGreat" 4 3 c [some f,some a,some b,some .non,none]) _ S=_;unfold M.bnd A3 v5;cases h:c S with
 |none=>rfl
 | some p=>
  obtain⟨r,S1⟩:=p;cases r with
  |ok a=>rfl
  | ex x=>
   cases x with
   |exc n ds=>
    dsimp only;by_cases hn:n∈aW/\bh n "TooGreat"=true
    ·rw[if_pos hn,if_pos hn];rfl
    ·rw[if_neg hn,if_neg hn]
   |_=>rfl
theorem fB:∀ f c es,bq f c es=bW c es:=by
 intro f c es;unfold bW
 match es with
 |[a,b]=>
  rw[Bs,Bs];congr 1;funext x;exact Br _ _ c a b x
 |[]|[_]|_::_::_::_=>
  unfold bq nW;rw[if_neg (by simp),if_neg (by simp)]
theorem Di:bW (M.raise (great L)) [.int L,.int 7]=pure (.bl true):=by
 unfold bW;rw[Bs];have h0:v5 (M.raise (great L)) (fun x=>lB (.fn 0 0 "" [] []) (M.raise (great L)) [some (.fn 0 0 "" [] []),some (.int L),some (.int 7),some x,none]>>=outD)=(lB (.fn 0 0 "" [] []) (M.raise (great L)) [some (.fn 0 0 "" [] []),some (.int L),some (.int 7),some (great L),none]>>=outD):=by
  funext S;show(if (("TooGreat":Str)∈aW/\bh "TooGreat" "TooGreat"=true)then _ else none)=_;rw[if_pos ⟨by decide,by decide⟩];rfl
 rw[h0];have hr:aV (ll 0 (.fn 0 0 "" [] []) ao (M.raise (great L)) a8) [some (.fn 0 0 "" [] []),some (.int L),some (.int 7),some (great L),none]=pure (.fz [.int 11]):=uy (xv.trans yL);have ho:pI (eT (G5 id) (mV 3) (mK .non)) (eT ke (aV (ll 0 (.fn 0 0 "" [] []) ao (M.raise (great L)) a8)) (aV (bx (aa (mK (.int 11)) ao)))) [some (.fn 0 0 "" [] []),some (.int L),some (.int 7),some (great L),none]=pure false:=or_eq (b:=false) (dw (x:=great L) (y:=.non) rfl rfl rfl) (dw hr Be Hx);have ha:∀ b,jF b (mV 3) [some (.fn 0 0 "" [] []),some (.int L),some (.int 7),some (great L),none]=pure (if b then .int 7 else .int L):=fun b=>by
  show xc b (great L)=_;unfold great xc;exact if_pos (by decide)
 have h1:aV (bx (aa (jF false (mV 3)) (aa (jF true (mV 3)) ao))) [some (.fn 0 0 "" [] []),some (.int L),some (.int 7),some (great L),none]=pure (.fz [.int L,.int 7]):=by
  show ji (aa _ _ _>>=bD)=_;rw[bM (ha false) (bM (ha true) (es:=ao) rfl),ay];exact dZ (us:=[.int L,.int 7]) rfl lr
 have h2:aV (bx (aa (mV 1) (aa (mV 2) ao))) [some (.fn 0 0 "" [] []),some (.int L),some (.int 7),some (great L),none]=pure (.fz [.int L,.int 7]):=dZ (us:=[.int L,.int 7]) rfl lr;have hs:cu [.fz [.int L,.int 7],.fz [.int L,.int 7]]=pure (.bl true):=Dg (k:=5) (by decide:2<=1000) fun x hx=>by
  simp only[List.mem_cons,List.not_mem_nil,or_false]at hx;rcases hx with rfl|rfl<;>exact same_int
 unfold lB;rw[bJ ((b8 ho).trans (if_neg (by decide))),gk (uy ((call2 h1 h2).trans hs))];rfl
def sN(E:List (List Int))(i:Nat):List (List Int):=[[(i:Int),(E.getD i []).getD 0 0],[(i:Int),(E.getD i []).getD 1 0]]
def endsN(E:List (List Int)):List (List Int):=(List.range E.length).flatMap (sN E)
def fO(s t:List Int):Bool:=decide (s.getD 0 0=t.getD 0 0)||decide (s.getD 1 0=t.getD 1 0)
def uH(X:List (List Int))(a:Nat):List (List Int):=((List.range' (a+1) (X.length - (a+1))).filter fun b=>fO (X.getD a []) (X.getD b [])).map fun b:Nat=>[(a:Int),(b:Int)]
def tN(X:List (List Int)):List (List Int):=(List.range X.length).flatMap (uH X)
theorem pG(E:List (List Int)):∀ t∈endsN E,∃ x y:Int,t=[x,y]:=fun t ht=>by
 unfold endsN sN at ht;obtain⟨i,_,h⟩:=Nv.mp ht;simp only[List.mem_cons,List.not_mem_nil,or_false]at h;rcases h with rfl|rfl<;>exact⟨_,_,rfl⟩
theorem lC(E:List (List Int)):(endsN E).length=2*E.length:=by
 have:∀ l:List Nat,(l.flatMap (sN E)).length=2*l.length:=fun l=>by
  induction l with
  |nil=>rfl
  |cons x l ih=>rw[Kw,JM,ih,JY];show 2+_=_;omega
 unfold endsN;rw[this,Kj]
theorem xw(X:List (List Int)):(tN X).Sublist (cg X.length):=by
 have:∀ l:List Nat,(l.flatMap (uH X)).Sublist (l.flatMap (iQ X.length)):=fun l=>by
  induction l with
  |nil=>exact .slnil
  |cons x l ih=>
   rw[Kw,Kw];refine List.Sublist.append ?_ ih;unfold uH iQ;exact List.Sublist.map _ List.filter_sublist
 exact this _
theorem HA{p q:j8}(h1:p ρ S=some (.ok b,S))(h2:q ρ S=some (.ok c,S)):pI p q ρ S=some (.ok (b||c),S):=by
 show(p ρ>>=_) S=_;rw[aL h1];cases b with
 |true=>rfl
 |false=>exact h2
section
variable {S:aA}{n:Nat}{E X:List (List Int)}{its:List D}
theorem Bt(hE:E.length<=7)(h2:∀ t∈E,∃ x y:Int,t=[x,y]):∀(post:List Nat) (acc:List (List Int)) (x:Option D),(∀ a∈post,a<E.length)->acc.length+post.length*2<=100->
  ∃ x',fT ⟨its,.none⟩ (gN 2) gR (post.map fun i:Nat=>.int (0+(i:Int))) [some (aE n E),some (.lst S.length),x,none,none,none] (S++[acc.map tupI])=some (.ok (.nx [some (aE n E),some (.lst S.length),x',none,none,none]),S++[(acc++post.flatMap (sN E)).map tupI])
 |[],acc,x,_,_=>⟨x,by rw[KZ,fx,List.flatMap_nil,Kd];rfl⟩
 | a::post,acc,x,ha,hl=>by
  rw[JY,LU]at hl;have Z:=ha a (.head _);obtain⟨u,v,e⟩:=h2 _ (getD_in Z);obtain⟨x',ih⟩:=Bt hE h2 post (acc++sN E a) (some (.int a)) (fun b hb=>ha b (.tail _ hb)) (by rw[JM];show acc.length+2+_<=100;omega)
  refine⟨x',?_⟩;rw[Kw, <-J7, <-ih,J3,K3];have hr:aU br (aU br (mV 0) (mK (.int 1))) (mV 2) [some (aE n E),some (.lst S.length),some (.int a),none,none,none]=pure (tupI [u,v]):=by rw[<-e];exact(cC (x:=.tup (E.map tupI)) (y:=.int a) rfl rfl).trans (vX Z)
  have hL:aV (bx (aa (dX (aa (mV 2) (aa (aU br (aU br (aU br (mV 0) (mK (.int 1))) (mV 2)) (mK (.int 0))) ao))) (aa (dX (aa (mV 2) (aa (aU br (aU br (aU br (mV 0) (mK (.int 1))) (mV 2)) (mK (.int 1))) ao))) ao))) [some (aE n E),some (.lst S.length),some (.int a),none,none,none]=pure (.fz ((sN E a).map tupI)):=by
   have t1:∀(c:Int) (y:Int),aU br (aU br (aU br (mV 0) (mK (.int 1))) (mV 2)) (mK (.int c)) [some (aE n E),some (.lst S.length),some (.int a),none,none,none]=pure (.int y)->dX (aa (mV 2) (aa (aU br (aU br (aU br (mV 0) (mK (.int 1))) (mV 2)) (mK (.int c))) ao)) [some (aE n E),some (.lst S.length),some (.int a),none,none,none]=pure (tupI [(a:Int),y]):=fun c y h=>by
    show(aa _ _ _>>=bQ)=_;rw[bM (x:=.int a) rfl (bM h (es:=ao) rfl),ay];unfold bQ;exact if_pos lr
   show ji (aa _ _ _>>=bD)=_;rw[bM (t1 0 u ((cC (y:=.int 0) hr rfl).trans rfl)) (bM (t1 1 v ((cC (y:=.int 1) hr rfl).trans rfl)) (es:=ao) rfl),ay];have:(sN E a).map tupI=[tupI [(a:Int),u],tupI [(a:Int),v]]:=by unfold sN;rw[e];rfl
   rw[this];exact dZ (us:=[tupI [(a:Int),u],tupI [(a:Int),v]]) rfl lr
  refine eR rfl (lu (x:=.non) ((kh (x:=.lst S.length) rfl rfl (KC hL _)).trans ((Bh dq (by rw[JI,JI];show acc.length+2<=1000;omega)).trans ?_)))
  rw[<-Kv,List.set_append_right _ _ (JK _),Nat.sub_self];rfl
abbrev gm(S:aA)(X acc:List (List Int)):aA:=S++[X.map tupI,acc.map tupI]
theorem Jq(hX:X.getD a []=[u,v])(ha:a<X.length)(h1:mV 1 ρ=pure (.lst S.length))(h2:mV i ρ=pure (.int a))(c:Bool):aU br (aU br (mV 1) (mV i)) (mK (.int (if c then 1 else 0))) ρ (gm S X acc)=some (.ok (.int (if c then v else u)),gm S X acc):=by
 have h3:aU br (mV 1) (mV i) ρ (gm S X acc)=some (.ok (tupI [u,v]),gm S X acc):=by
  rw[cC h1 h2, <-hX];have e:iS (X.map tupI) (a:Int)=some (tupI (X.getD a [])):=by
   unfold iS u9;rw[JI];have h1:¬ ((a:Int)<0):=by omega
   have h2:(a:Int)<X.length:=by omega
   simp[h1,h2,ha]
  exact xj (kb 0) e
 cases c<;>exact(ie h3 rfl).trans rfl
theorem v7(O:X.length<=14)(h2:∀ t∈X,∃ x y:Int,t=[x,y])(ha:a<X.length):∀(post:List Nat) (acc:List (List Int)) (x:Option D),(∀ b∈post,b<X.length)->acc.length+post.length<=500->
  ∃ x',fT ⟨its,.none⟩ (gN 5) cA (post.map fun b:Nat=>.int (b:Int)) [some (aE n E),some (.lst S.length),x2,some (.lst (S.length+1)),some (.int a),x] (gm S X acc)=some (.ok (.nx [some (aE n E),some (.lst S.length),x2,some (.lst (S.length+1)),some (.int a),x']),gm S X (acc++(post.filter fun b=>fO (X.getD a []) (X.getD b [])).map fun b:Nat=>[(a:Int),(b:Int)]))
 |[],acc,x,_,_=>⟨x,by rw[KZ,fx,List.filter_nil,KZ,Kd];rfl⟩
 | b::post,acc,x,hb,hl=>by
  rw[JY]at hl;have Y:=hb b (.head _);obtain⟨u,v,eu⟩:=h2 _ (getD_in ha);obtain⟨y,z,ey⟩:=h2 _ (getD_in Y);have A:=fun c=>Jq (S:=S) (acc:=acc) (ρ:=[some (aE n E),some (.lst S.length),x2,some (.lst (S.length+1)),some (.int a),some (.int b)]) (i:=4) eu ha rfl rfl c;have B:=fun c=>Jq (S:=S) (acc:=acc) (ρ:=[some (aE n E),some (.lst S.length),x2,some (.lst (S.length+1)),some (.int a),some (.int b)]) (i:=5) ey Y rfl rfl c;have ht:=HA (pF (A false) (B false) FF) (pF (A true) (B true) FF);have et:fO (X.getD a []) (X.getD b [])=(decide (u=y)||decide (v=z)):=by rw[eu,ey];rfl
  have U:pI (eT mS (aU br (aU br (mV 1) (mV 4)) (mK (.int 0))) (aU br (aU br (mV 1) (mV 5)) (mK (.int 0)))) (eT mS (aU br (aU br (mV 1) (mV 4)) (mK (.int 1))) (aU br (aU br (mV 1) (mV 5)) (mK (.int 1)))) [some (aE n E),some (.lst S.length),x2,some (.lst (S.length+1)),some (.int a),some (.int b)] (gm S X acc)=some (.ok (fO (X.getD a []) (X.getD b [])),gm S X acc):=by rw[et];exact ht
  by_cases hq:fO (X.getD a []) (X.getD b [])=true
  ·obtain⟨x',ih⟩:=v7 O h2 ha post (acc++[[(a:Int),(b:Int)]]) (some (.int b)) (fun c hc=>hb c (.tail _ hc)) (by rw[JM];show acc.length+1+post.length<=500;omega)
   have Z:cA [some (aE n E),some (.lst S.length),x2,some (.lst (S.length+1)),some (.int a),some (.int b)] (gm S X acc)=some (.ok (.nx [some (aE n E),some (.lst S.length),x2,some (.lst (S.length+1)),some (.int a),some (.int b)]),gm S X (acc++[[(a:Int),(b:Int)]])):=by
    unfold cA;rw[mP U,if_pos hq];refine lu (x:=.non) ((kh (x:=.lst (S.length+1)) (y:=tupI [(a:Int),(b:Int)]) (S1:=gm S X acc) rfl rfl (fw rfl rfl)).trans ((kI (xs:=acc.map tupI) (kb 1) (by rw[JI];omega)).trans ?_))
    unfold gm;rw[Kv,List.set_append_right _ _ (LP _),show S.length.succ - S.length=1 by omega];rfl
   have ee:acc++((b::post).filter fun b=>fO (X.getD a []) (X.getD b [])).map (fun b:Nat=>[(a:Int),(b:Int)])=(acc++[[(a:Int),(b:Int)]])++(post.filter fun b=>fO (X.getD a []) (X.getD b [])).map fun b:Nat=>[(a:Int),(b:Int)]:=by
    rw[Lz (p:=fun b=>fO (X.getD a []) (X.getD b [])) hq,J3,J7];rfl
   rw[ee];exact⟨x',(eR rfl Z).trans ih⟩
  ·obtain⟨x',ih⟩:=v7 O h2 ha post acc (some (.int b)) (fun c hc=>hb c (.tail _ hc)) (by omega)
   have Z:cA [some (aE n E),some (.lst S.length),x2,some (.lst (S.length+1)),some (.int a),some (.int b)] (gm S X acc)=some (.ok (.nx [some (aE n E),some (.lst S.length),x2,some (.lst (S.length+1)),some (.int a),some (.int b)]),gm S X acc):=by
    unfold cA;rw[mP U,if_neg hq];rfl
   rw[LA (p:=fun b=>fO (X.getD a []) (X.getD b [])) hq];exact⟨x',(eR rfl Z).trans ih⟩
end
theorem Dj{a m:Nat}:aR ((a:Int)+1) ((m:Int) - ((a:Int)+1)).toNat=(List.range' (a+1) (m - (a+1))).map fun b:Nat=>.int (b:Int):=by
 have e:((m:Int) - ((a:Int)+1)).toNat=m - (a+1):=by omega
 rw[e];unfold aR;rw[Le,KJ];refine Mb fun i _=>?_;show D.int ((a:Int)+1+(i:Int))= .int ((a+1+i:Nat):Int);congr 1
section
variable {S:aA}{n:Nat}{E X:List (List Int)}{its:List D}
theorem FY(h1:mV 1 ρ=pure (.lst S.length)):cG cn (mV 1) ρ (gm S X acc)=some (.ok (.int X.length),gm S X acc):=by
 rw[fG h1];show(getL S.length>>=fun xs=>pure (D.int xs.length)) _=_;rw[aL (cR (kb 0)),JI];rfl
theorem FZ{m n:TM}(h1:m ρ S=some (.ok x,S1))(h2:n ρ S1=some (.ok y,S2)):t5 m n ρ S=iZ [x,y] S2:=by
 unfold t5;rw[aL (bI h1 (bI h2 rfl))]
theorem Dk(a:Nat):(uH X a).length<=X.length:=by
 unfold uH;rw[JI];refine JV (LV _ _) ?_;rw[Ln];omega
theorem Bu(Z:X.length<=14)(h2:∀ t∈X,∃ x y:Int,t=[x,y]):∀(post:List Nat) (acc:List (List Int)) (x y:Option D),(∀ b∈post,b<X.length)->acc.length+post.length*14<=300->
  ∃ x' y',fT ⟨its,.none⟩ (gN 4) gS (post.map fun i:Nat=>.int (0+(i:Int))) [some (aE n E),some (.lst S.length),x2,some (.lst (S.length+1)),x,y] (gm S X acc)=some (.ok (.nx [some (aE n E),some (.lst S.length),x2,some (.lst (S.length+1)),x',y']),gm S X (acc++post.flatMap (uH X)))
 |[],acc,x,y,_,_=>⟨x,y,by rw[KZ,fx,List.flatMap_nil,Kd];rfl⟩
 | a::post,acc,x,y,ha,hl=>by
  rw[JY,LU]at hl;have Y:=ha a (.head _);have U:=Dk (X:=X) a;obtain⟨y1,e1⟩:=v7 (S:=S) (n:=n) (E:=E) (its:=(List.range' (a+1) (X.length - (a+1))).map fun b:Nat=>.int (b:Int)) Z h2 Y (x2:=x2) (List.range' (a+1) (X.length - (a+1))) acc y (fun b hb=>by have:=Lq.mp hb;omega) (by rw[Ln];omega)
  obtain⟨x',y',ih⟩:=Bu Z h2 (x2:=x2) post (acc++uH X a) (some (.int a)) y1 (fun b hb=>ha b (.tail _ hb)) (by rw[JM];omega)
  refine⟨x',y',?_⟩;rw[Kw, <-J7, <-ih,J3,K3];have hi:t5 (aU cq (mV 4) (mK (.int 1))) (cG cn (mV 1)) [some (aE n E),some (.lst S.length),x2,some (.lst (S.length+1)),some (.int a),y] (gm S X acc)=some (.ok ⟨(List.range' (a+1) (X.length - (a+1))).map fun b:Nat=>.int (b:Int),.none⟩,gm S X acc):=by
   rw[FZ (x:=.int ((a:Int)+1)) (S1:=gm S X acc) rfl (FY rfl),A6 (by omega),Dj];rfl
  exact eR rfl (nD hi e1)
theorem Dl(hE:E.length<=7)(h2:∀ t∈E,∃ x y:Int,t=[x,y]):ji (eW [aE n E])=pure (aE (endsN E).length (tN (endsN E))):=by
 refine Hn iw fun S=>?_;have Z:(endsN E).length<=14:=by rw[lC];omega
 obtain⟨x',e1⟩:=Bt (S:=S) (n:=n) (its:=aR 0 E.length) hE h2 (List.range E.length) [] none (fun a ha=>J5.mp ha) (by rw[Kj];simp;omega)
 rw[Ls]at e1;obtain⟨y4,y5,e3⟩:=Bu (S:=S) (n:=n) (E:=E) (X:=endsN E) (its:=aR 0 (endsN E).length) Z (pG E) (x2:=x') (List.range (endsN E).length) [] none none (fun a ha=>J5.mp ha) (by rw[Kj];simp;omega)
 rw[Ls]at e3;have hm:ia [some (aE n E),none,none,none,none,none] S=some (.ok (.ret (aE (endsN E).length (tN (endsN E)))),gm S (endsN E) (tN (endsN E))):=by
  unfold ia;have h1:bK 1 (bx ao) [some (aE n E),none,none,none,none,none] S=some (.ok (.nx [some (aE n E),some (.lst S.length),none,none,none,none]),S++[[]]):=bH (cD (S:=S) (us:=[]) (J4 _));have hlen:cG cn (aU br (mV 0) (mK (.int 1))) [some (aE n E),some (.lst S.length),none,none,none,none]=pure (.int E.length):=by
   refine(fG (x:=.tup (E.map tupI)) rfl).trans ?_;show pure (D.int (E.map tupI).length)=_;rw[JI]
  have Y:lY (cG cn (aU br (mV 0) (mK (.int 1)))) [some (aE n E),some (.lst S.length),none,none,none,none]=pure ⟨aR 0 E.length,.none⟩:=by
   have:=(l9 hlen).trans (su (by omega))
   rw[Kf]at this;exact this
  have h3:bK 3 (bx ao) [some (aE n E),some (.lst S.length),x',none,none,none] (S++[(endsN E).map tupI])=some (.ok (.nx [some (aE n E),some (.lst S.length),x',some (.lst (S.length+1)),none,none]),gm S (endsN E) []):=by
   refine(bH (cD (S:=S++[(endsN E).map tupI]) (us:=[]) (J4 _))).trans ?_;rw[J7,JM];rfl
  have U:lY (cG cn (mV 1)) [some (aE n E),some (.lst S.length),x',some (.lst (S.length+1)),none,none] (gm S (endsN E) [])=some (.ok ⟨aR 0 (endsN E).length,.none⟩,gm S (endsN E) []):=by
   rw[vY (FY rfl),su (by omega),Kf];rfl
  have hT:=(xw (endsN E)).length_le;have hp:=pA (n:=(endsN E).length) (by omega)
  refine(aK h1).trans ((aK (kH Y e1)).trans ((aK h3).trans ((aK (nD U e3)).trans (fu (fw (FY rfl) ((iP (x:=.lst (S.length+1)) (S1:=gm S (endsN E) (tN (endsN E))) rfl).trans ?_))))));show(getL (S.length+1)>>=fun xs=>bQ xs) _=_;rw[aL (cR (us:=(tN (endsN E)).map tupI) (kb 1))];unfold bQ;rw[if_pos (by rw[JI];unfold lim;omega)];rfl
 exact⟨_,_,eS (o:=.ret (aE (endsN E).length (tN (endsN E)))) hm rfl,rfl,_,rfl⟩
end
theorem F4{e1 e2:TM}(h1:e1 ρ=pure (.bl b))(h2:e2 ρ=pure (.bl c)):Jl e1 e2 ρ=pure (.bl (b||c)):=by
 show(e1 ρ>>=_)=_;rw[h1];cases b with
 |true=>rfl
 |false=>exact h2
theorem Dm:d4 [tupI [a,b],tupI [c,d]]=pure (.bl (fO [a,b] [c,d])):=by
 refine gj (o:=.ret (.bl (fO [a,b] [c,d]))) (gk (F4 (b:=decide (a=c)) (c:=decide (b=d)) ?_ ?_)) rfl
 ·exact(cC (x:=.int a) (y:=.int c) ((cC (x:=tupI [a,b]) (y:=.int 0) rfl rfl).trans rfl) ((cC (x:=tupI [c,d]) (y:=.int 0) rfl rfl).trans rfl)).trans FF
 ·exact(cC (x:=.int b) (y:=.int d) ((cC (x:=tupI [a,b]) (y:=.int 1) rfl rfl).trans rfl) ((cC (x:=tupI [c,d]) (y:=.int 1) rfl rfl).trans rfl)).trans FF
theorem DO{X:List (List Int)}(h:a<X.length):br (.fz (X.map tupI)) (.int a)=pure (tupI (X.getD a [])):=by
 show(match iS (X.map tupI) a with|some d=>(pure d:M D)|none=>M.fail)=_
 have:iS (X.map tupI) (a:Int)=some (tupI (X.getD a [])):=by
  unfold iS u9;rw[JI];have h1:¬ ((a:Int)<0):=by omega
  have h2:(a:Int)<X.length:=by omega
  simp[h1,h2,h]
 rw[this]
def tQ(X:List (List Int)):D->Bool
 | .tup [.int a,.int b]=>fO (X.getD a.toNat []) (X.getD b.toNat [])
 |_=>false
theorem Bv(X:List (List Int)):(((cg X.length).map tupI).filter (tQ X)).map id=(tN X).map tupI:=by
 rw[NH,NC];congr 1;unfold cg tN;rw[List.filter_flatMap];congr 1;funext a;unfold iQ uH;rw[NC];congr 1
def fE:D->List D
 | .tup [.int i,.tup ps]=>ps.map fun p=>.tup [.int i,p]
 |_=>[]
theorem Dn(E:List (List Int)):mG (E.map tupI)=(List.range E.length).map fun i:Nat=>.tup [.int (i:Int),tupI (E.getD i [])]:=by
 unfold mG;refine Nx (by simp) fun i h1 h2=>?_
 have hi:i<E.length:=by simpa using h2
 simp[List.getD_eq_getElem?_getD,hi]
theorem gI{α β:Type}{f g:α->List β}:∀{l:List α},(∀ x∈l,f x=g x)->l.flatMap f=l.flatMap g
 |[],_=>rfl
 |x::l,h=>by rw[Kw,Kw,h x (.head _),gI fun y hy=>h y (.tail _ hy)]
theorem Bw(h2:∀ t∈E,∃ x y:Int,t=[x,y]):(((List.range E.length).map fun i:Nat=>D.tup [.int (i:Int),tupI (E.getD i [])]).filter fun _=>true).flatMap fE=(endsN E).map tupI:=by
 rw[fY,Nw];unfold endsN;rw[List.map_flatMap];refine gI fun i hi=>?_;have hi:i<E.length:=J5.mp hi;obtain⟨u,v,e⟩:=h2 _ (getD_in hi);unfold sN;rw[e];rfl
theorem HB{E:List (List Int)}(hE:E.length<=7)(h2:∀ t∈E,∃ x y:Int,t=[x,y]):aV (Fw (iq (w5 (aU br (mV 0) (mK (.int 1)))) (fS 2 (ba (gN 0) (ba (gN 1) eh))) fh (ij (mV 1)) (gN 2) d6 cL [none,none,none])) [some (aE n E),x,y]=pure (.fz ((endsN E).map tupI)):=by
 obtain⟨ρ',_,e⟩:=qL (its:=(List.range E.length).map fun i:Nat=>.tup [.int (i:Int),tupI (E.getD i [])]) (g:=fS 2 (ba (gN 0) (ba (gN 1) eh))) (t:=fh) (bd:=CI (ij (mV 1)) (gN 2) d6 cL) (fun ρ=>∃ x y z,ρ=[x,y,z]) (fun _=>true) fE ((List.range E.length).map fun i:Nat=>.tup [.int (i:Int),tupI (E.getD i [])]) [none,none,none] ⟨_,_,_,rfl⟩ fun d hd ρ ⟨x,y,z,hρ⟩=>by
  subst hρ;obtain⟨i,hi,rfl⟩:=Kh.mp hd;have hi:i<E.length:=J5.mp hi;obtain⟨u,v,eu⟩:=h2 _ (getD_in hi);refine⟨[some (.int i),some (tupI (E.getD i [])),z],rfl,rfl,fun _=>?_,fun h=>by cases h⟩
  obtain⟨ρ2,⟨z2,rfl⟩,e2⟩:=qL (its:=(E.getD i []).map D.int) (g:=gN 2) (t:=d6) (bd:=vS cL) (fun ρ=>∃ z,ρ=[some (.int i),some (tupI (E.getD i [])),z]) (fun _=>true) (fun d=>[D.tup [.int i,d]]) ((E.getD i []).map D.int) [some (.int i),some (tupI (E.getD i [])),z] ⟨z,rfl⟩ fun d hd ρ ⟨z,hρ⟩=>by
   subst hρ;refine⟨_,rfl,rfl,fun _=>⟨[some (.int i),some (tupI (E.getD i [])),some d],⟨some d,rfl⟩,?_⟩,fun h=>by cases h⟩
   have:cL [some (.int i),some (tupI (E.getD i [])),some d]=pure (.tup [.int i,d]):=by
    show bQ [.int i,d]=_;unfold bQ;exact if_pos lr
   show(cL [some (.int i),some (tupI (E.getD i [])),some d]>>=_)=_;rw[this];rfl
  refine⟨[some (.int i),some (tupI (E.getD i [])),z2],⟨_,_,_,rfl⟩,?_⟩;have hs:ij (mV 1) [some (.int i),some (tupI (E.getD i [])),z]=pure ⟨(E.getD i []).map D.int,.none⟩:=rfl;unfold CI;rw[hs,ay];dsimp only;rw[if_pos (by rw[JI,eu];exact(by decide:2<=3000)),e2]
  congr 2;show _=((E.getD i []).map D.int).map fun p=>D.tup [.int i,p];rw[fY]
  induction (E.getD i []).map D.int with
  |nil=>rfl
  |cons x l ih=>rw[Kw,ih];rfl
 rw[Bw h2]at e;have hi:w5 (aU br (mV 0) (mK (.int 1))) [some (aE n E),x,y]=pure ⟨(List.range E.length).map fun i:Nat=>.tup [.int (i:Int),tupI (E.getD i [])],.none⟩:=by
  rw[<-Dn];rfl
 have hc:iq (w5 (aU br (mV 0) (mK (.int 1)))) (fS 2 (ba (gN 0) (ba (gN 1) eh))) fh (ij (mV 1)) (gN 2) d6 cL [none,none,none] [some (aE n E),x,y]=bD ((endsN E).map tupI):=by
  unfold iq;rw[hi,ay];dsimp only;rw[if_pos (by rw[JI,Kj];omega),show iG [none,none,none] [some (aE n E),x,y]=[none,none,none]from rfl,e,ay]
 unfold aV Fw;rw[hc,qO];exact dZ (fy _) (by rw[JI,lC];unfold lim;omega)
theorem HC{n:Nat}{E:List (List Int)}(hn:n<=14)(w:WebOk n E)(h7:E.length<=7):du [aE n E]=pure (aE (endsN E).length (tN (endsN E))):=by
 have h2:∀ t∈E,∃ x y:Int,t=[x,y]:=fun t ht=>by obtain⟨x,y,e,_⟩:=w.el t ht;exact⟨x,y,e⟩
 have hf:cf [aE n E]=pure .non:=by rw[DL hn w,if_neg (by omega)]
 have hN:(endsN E).length<=14:=by rw[lC];omega
 have Z:((cg (endsN E).length).map tupI).length<=lim:=by rw[JI];exact JV (pA (by omega)) (by unfold lim;omega)
 have hc:=A7 (mi:=ij (aV (az dJ (aa (mV 2) ao)))) (g:=fS 2 (ba (gN 0) (ba (gN 1) eh))) (t:=i8) (m:=i9) (js:=[none,none,some 1]) (ρ:=[some (aE n E),some (.fz ((endsN E).map tupI)),some (.int (endsN E).length)])
  (its:=(cg (endsN E).length).map tupI) (fun ρ=>∃ x y,ρ=[x,y,some (.fz ((endsN E).map tupI))]) (tQ (endsN E)) id
  (by
   have:aV (az dJ (aa (mV 2) ao)) [some (aE n E),some (.fz ((endsN E).map tupI)),some (.int (endsN E).length)]=pure (.fz ((cg (endsN E).length).map tupI)):=by
    unfold aV;rw[ft (x:=.int (endsN E).length) rfl];exact C3 (by omega)
   unfold ij;rw[this];rfl) Z ⟨none,none,rfl⟩
  (fun d hd ρ ⟨x,y,hρ⟩=>by
   subst hρ;obtain⟨t,ht,rfl⟩:=Kh.mp hd;obtain⟨a,b,rfl,h0,a4,hb⟩:=pq t ht;obtain⟨a,rfl⟩:=Nm h0;obtain⟨b,rfl⟩:=Nm (show 0<=b by omega)
   have Y:a<(endsN E).length:=by omega
   have U:b<(endsN E).length:=by omega
   obtain⟨p,q,ep⟩:=pG E _ (getD_in Y);obtain⟨r,u,er⟩:=pG E _ (getD_in U);refine⟨[some (.int a),some (.int b),some (.fz ((endsN E).map tupI))],rfl,⟨_,_,rfl⟩,?_,fun _=>?_⟩
   ·refine jd (uy ((call2 ((cC (x:=.fz ((endsN E).map tupI)) (y:=.int a) rfl rfl).trans (DO Y)) ((cC (x:=.fz ((endsN E).map tupI)) (y:=.int b) rfl rfl).trans (DO U))).trans ?_));show d4 [tupI ((endsN E).getD a []),tupI ((endsN E).getD b [])]=pure (.bl (fO ((endsN E).getD (a:Int).toNat []) ((endsN E).getD (b:Int).toNat [])));rw[Kf,Kf,ep,er];exact Dm
   ·show bQ [.int a,.int b]=_;unfold bQ;exact if_pos lr) (by rw[Bv];exact fy _)
 rw[Bv]at hc;have O:((tN (endsN E)).map tupI).length<=lim:=by
  have:=(xw (endsN E)).length_le;rw[JI]at Z ⊢;exact JV this Z
 refine vU (o:=.ret (aE (endsN E).length (tN (endsN E)))) ?_ rfl;unfold iL;show aJ _ _ [some (aE n E),none,none]=_;have hlen:cG cn (mV 1) [some (aE n E),some (.fz ((endsN E).map tupI)),none]=pure (.int (endsN E).length):=by
  refine(fG (x:=.fz ((endsN E).map tupI)) rfl).trans ?_;show pure (D.int ((endsN E).map tupI).length)=_;rw[JI]
 refine(bJ (DJ (uy ((ft rfl).trans hf)))).trans ((bJ (sv (HB h7 h2))).trans ((bJ (sv hlen)).trans (gk ?_)));have ht:=(fG (f:=dv) hc).trans (o6 O);show(aa _ _ [some (aE n E),some (.fz ((endsN E).map tupI)),some (.int (endsN E).length)]>>=bQ)=_;rw[bM (x:=.int (endsN E).length) rfl (bM ht (es:=ao) rfl),ay];unfold bQ;exact if_pos lr
theorem xx{ms:aM->M (List D)}{m:TM}{R:M D->List D->M D}(hc:vN js ρ=some ds)(he:ms ρ=pure es)(hm:m (ds.map some)=c)(hR:R c es=pure x):aV (ue js ms m R) ρ=pure x:=by
 refine uy ?_;show ue js ms m R ρ=_;unfold ue;rw[hc];show(ms ρ>>=fun es=>R (m (ds.map some)) es)=_;rw[he,hm,ay,hR]
theorem yN{n:Nat}{E:List (List Int)}(hn:n<=14)(w:WebOk n E)(h:7<E.length):du [aE n E]=M.raise (great E.length):=by
 refine iO ?_;unfold iL;exact kG (oZ (Hq ((ft rfl).trans (by rw[DL hn w,if_pos h]))))
theorem Do(g:Good d)(hw:iu d=false):du [d]=M.raise (.exc "NoWeb" []):=by
 have h0:eQ [d]=M.raise (.exc "NoWeb" []):=by rw[Bc g.nr (fun m ts z=>JV (g.few m ts z) (by decide)),if_neg (by rw[hw];decide)]
 have h1:cf [d]=M.raise (.exc "NoWeb" []):=by
  refine iO ?_;unfold dm;exact kG (oZ (Hq ((ft rfl).trans h0)))
 refine iO ?_;unfold iL;exact kG (oZ (Hq ((ft rfl).trans h1)))
section
variable {a0 a1 a2 a3 a5:Option D}{n:Nat}{E:List (List Int)}
theorem HD(hn:n<=14)(w:WebOk n E):jJ [a0,a1,a2,a3,some (aE n E),a5]=pure (.nx [a0,a1,a2,a3,some (aE n E),a5]):=by
 have hl:cG cn (aU br (mV 4) (mK (.int 1))) [a0,a1,a2,a3,some (aE n E),a5]=pure (.int E.length):=by
  refine(fG (x:=.tup (E.map tupI)) rfl).trans ?_;show pure (D.int (E.map tupI).length)=_;rw[JI]
 have hb:eT EK (cG cn (aU br (mV 4) (mK (.int 1)))) (mK (.int 7)) [a0,a1,a2,a3,some (aE n E),a5]=pure (decide (7<(E.length:Int))):=dw hl rfl rfl;have nb:∀{e:TM},e [a0,a1,a2,a3,some (aE n E),a5]=pure (.bl true)->fU (bV e) [a0,a1,a2,a3,some (aE n E),a5]=pure false:=fun{e} h=>by
  show(bV e _>>=_)=_;rw[jd h];rfl
 unfold jJ;by_cases h:7<E.length
 ·refine(b8 hb).trans ?_;rw[if_pos (JZ (by omega))]
  have hr:=xx (js:=[4]) (ρ:=[a0,a1,a2,a3,some (aE n E),a5]) (ds:=[aE n E]) (m:=oW) (R:=bW) rfl (bM hl (bM (e:=mK (.int 7)) (x:=.int 7) rfl (es:=ao) rfl)) (Hq ((ft rfl).trans (yN hn w h))) Di;exact(b8 (nb hr)).trans (if_neg (by decide))
 ·refine(b8 hb).trans ?_;rw[if_neg (by rw[KF];omega)]
  have h2:∀ t∈E,∃ x y:Int,t=[x,y]:=fun t ht=>by obtain⟨x,y,e,_⟩:=w.el t ht;exact⟨x,y,e⟩
  have he:aV (az du (aa (mV 4) ao)) [a0,a1,a2,a3,some (aE n E),a5]=pure (aE (endsN E).length (tN (endsN E))):=uy ((ft rfl).trans (HC hn w (by omega)))
  have hd:aV (az eW (aa (mV 4) ao)) [a0,a1,a2,a3,some (aE n E),a5]=pure (aE (endsN E).length (tN (endsN E))):=by
   unfold aV;rw[ft (x:=aE n E) rfl];exact Dl (by omega) h2
  have hN:(endsN E).length<=14:=by rw[lC];omega
  have hs:cu [aE (endsN E).length (tN (endsN E)),aE (endsN E).length (tN (endsN E))]=pure (.bl true):=FN (by
   have:=(xw (endsN E)).length_le;have:=pairs_len hN;omega) fun r hr=>by
   obtain⟨a,b,rfl,_⟩:=pq r ((xw (endsN E)).subset hr);exact(by decide:2<=1000)
  exact(b8 (nb (uy ((call2 he hd).trans hs)))).trans (if_neg (by decide))
end
theorem Bx:∀(ws:List (Nat×List (List Int))) (x:Option D),(∀ p∈ws,p.1<=14/\WebOk p.1 p.2)->∃ y,fT ⟨its,.none⟩ (gN 4) jJ (ws.map fun p=>aE p.1 p.2) [a0,a1,a2,a3,x,a5]=pure (.nx [a0,a1,a2,a3,y,a5])
 |[],x,_=>⟨x,fx⟩
 |p::ws,x,h=>by
  obtain⟨y,ih⟩:=Bx (its:=its) (a0:=a0) (a1:=a1) (a2:=a2) (a3:=a3) (a5:=a5) ws (some (aE p.1 p.2)) fun q hq=>h q (.tail _ hq);obtain⟨h1,h2⟩:=h p (.head _);refine⟨y,?_⟩;funext S;rw[J3,eR rfl (KC (HD h1 h2) S),ih]
theorem sO:∀(m lo:Nat) (l:List Nat) (ys:List D),l=List.range' lo m->Dr (fun d y=>∃(i:Nat) (j:Int),d= .int (0+(i:Int))/\y=tupI [(i:Int),(i:Int)+1+j]/\0<=j/\j<3) (l.map fun i:Nat=>.int (0+(i:Int))) ys->
  ∃ E:List (List Int),ys=E.map tupI/\E.length<=m/\(∀ t∈E,∃ a b:Int,t=[a,b]/\(lo:Int)<=a/\a<(lo+m:Nat)/\a<b/\b<=a+3)/\E.Pairwise fun a b=>HT.lexLt a b=true
 |0,lo,l,ys,hl,dr=>by
  subst hl;cases dr;exact⟨[],rfl,J4 _,(fun t ht=>by cases ht),.nil⟩
 | m +1,lo,l,ys,hl,dr=>by
  rw[List.range'_succ]at hl;subst hl;rw[J3]at dr;cases dr with
  |skip h=>
   obtain⟨E,e,l1,el,ri⟩:=sO m (lo+1) _ _ rfl h;exact⟨E,e,by omega,fun t ht=>by obtain⟨a,b,e,h1,h2,h3⟩:=el t ht;exact⟨a,b,e,by omega,by omega,h3⟩,ri⟩
  | put p h=>
   obtain⟨E,e,l1,el,ri⟩:=sO m (lo+1) _ _ rfl h;obtain⟨i,j,e1,e2,j0,j1⟩:=p;have hi:lo=i:=by
    have:=D.int.inj e1;omega
   subst hi e2 e;refine⟨[(lo:Int),(lo:Int)+1+j]::E,rfl,by rw[JY];omega,fun t ht=>?_,Ks.mpr ⟨fun t ht=>?_,ri⟩⟩
   ·rcases J2.mp ht with rfl|ht
    ·exact⟨_,_,rfl,by omega,by omega,by omega,by omega⟩
    ·obtain⟨a,b,e,h1,h2,h3⟩:=el t ht;exact⟨a,b,e,by omega,by omega,h3⟩
   ·obtain⟨a,b,rfl,h1,_⟩:=el t ht;rw[HT.lexLt_cons,if_neg (by omega)]
    exact JZ (by omega)
theorem Dp(hs:dG S k):∃(E:List (List Int)) (S1:aA),dX (aa (mK (.int 14)) (aa (cG dv (aV (cQ (lY (aV (az aq (aa (mV 2) (aa (mK (.int 8)) ao))))) (gN 0) iM iN [none,some 2]))) ao)) [a0,a1,some (.lst k),a3,a4,a5] S=some (.ok (aE 14 E),S1)/\WebOk (14:Nat) E/\Kp k S S1/\S1.length=S.length:=by
 obtain⟨m,S0,em,m0,m1,k0,l0⟩:=ki (e1:=mV 2) (e2:=mK (.int 8)) (ρ:=[a0,a1,some (.lst k),a3,a4,a5]) (m:=8) hs rfl rfl (by decide) (by decide)
 obtain⟨ys,S2,ec,dr,k2,l2⟩:=ja (its:=aR 0 m.toNat) (g:=gN 0) (t:=iM) (m:=iN) (k:=k) (fun ρ=>∃ x,ρ=[x,some (.lst k)]) (fun d y=>∃(i:Nat) (j:Int),d= .int (0+(i:Int))/\y=tupI [(i:Int),(i:Int)+1+j]/\0<=j/\j<3) (aR 0 m.toNat) [none,some (.lst k)] S0 ⟨none,rfl⟩ k0.st
  (fun d hd ρ S ⟨x,hρ⟩ hs=>by
   subst hρ;obtain⟨i,_,rfl⟩:=Kh.mp hd;refine⟨_,true,S,rfl,⟨_,rfl⟩,rfl,.refl hs,rfl,fun _=>?_⟩;obtain⟨j,S1,ej,j0,j1,k1,l1⟩:=ki (e1:=mV 1) (e2:=mK (.int 3)) (ρ:=[some (.int (0+(i:Int))),some (.lst k)]) (m:=3) hs rfl rfl (by decide) (by decide)
   refine⟨tupI [(i:Int),(i:Int)+1+j],S1,?_,⟨i,j,rfl,rfl,j0,j1⟩,k1,l1⟩;have h2:aU cq (aU cq (mV 0) (mK (.int 1))) (aV (az aq (aa (mV 1) (aa (mK (.int 3)) ao)))) [some (.int (0+(i:Int))),some (.lst k)] S=some (.ok (.int ((i:Int)+1+j)),S1):=by
    rw[ie (f:=cq) (x:=.int (0+(i:Int)+1)) (S1:=S) rfl ej,K3];rfl
   have h3:=fw (e1:=mV 0) (x:=.int (0+(i:Int))) (S1:=S) rfl h2;have he:tupI [(i:Int),(i:Int)+1+j]= .tup [.int (0+(i:Int)),.int ((i:Int)+1+j)]:=by rw[K3];rfl
   rw[he];exact h3)
 have hlen:=dr.len;obtain⟨E,rfl,lE,el,ri⟩:=sO m.toNat 0 (List.range m.toNat) ys (by rw[MH]) dr
 have w:WebOk (14:Nat) E:=⟨fun t ht=>by obtain⟨a,b,e,h1,h2,h3,h4⟩:=el t ht;exact⟨a,b,e,by omega,h3,by omega⟩,ri,by omega⟩
 have hg:aV (cQ (lY (aV (az aq (aa (mV 2) (aa (mK (.int 8)) ao))))) (gN 0) iM iN [none,some 2]) [a0,a1,some (.lst k),a3,a4,a5] S=some (.ok (.fz (E.map tupI)),S2):=by
  refine jP ?_ (k0.trans k2) (l2.trans l0) (fy _);have hi:lY (aV (az aq (aa (mV 2) (aa (mK (.int 8)) ao)))) [a0,a1,some (.lst k),a3,a4,a5] S=some (.ok ⟨aR 0 m.toNat,.none⟩,S0):=by
   rw[vY em,su (by omega)];rfl
  unfold cQ;rw[aL hi];unfold gZ;rw[if_pos (show(aR 0 m.toNat).length<=lim by unfold aR lim;rw[JI,Kj];omega)]
  rw[aL (show df ⟨aR 0 m.toNat,.none⟩ (gN 0) iM iN (aR 0 m.toNat) (iG [none,some 2] [a0,a1,some (.lst k),a3,a4,a5]) S0=_ from ec)];exact cD (by rw[JI];unfold lim;omega)
 refine⟨E,S2,fw (x:=.int 14) (S1:=S) rfl ((iP hg).trans ?_),w,k0.trans k2,l2.trans l0⟩;rw[o6 (by rw[JI];unfold lim;omega)];rfl
theorem F5{S:aA}{ns:List Int}{i:Nat}{o2 o3 o4 o5:Option D}:∃ x2 x3 x4 x5 S1,jK [some (.ro (ns.map D.int)),some (.int i),o2,o3,o4,o5] S=some (.ok (.nx [some (.ro (ns.map D.int)),some (.int i),x2,x3,x4,x5]),S1):=by
 obtain⟨_,_,e0,xs,rfl,rfl,hs⟩:=CU (S:=S) (ns:=ns) (k:=i) (Q:=fun d S'=>∃ xs,d= .lst S.length/\S'=S++[xs]/\dG (S++[xs]) S.length) fun xs h=>⟨xs,rfl,rfl,h⟩;generalize S++[xs]=T0 at e0 hs;generalize S.length=k at e0 hs;obtain⟨Ew,T1,e1,w1,k1,l1⟩:=Dp (a0:=some (.ro (ns.map D.int))) (a1:=some (.int i)) (a3:=o3) (a4:=o4) (a5:=o5) hs;obtain⟨n2,E2,T2,e2,m2,w2,_,k2,l2⟩:=Bl k1.st;obtain⟨n3,E3,T3,e3,m3,w3,k3,l3⟩:=FV k2.st;obtain⟨E4,T4,e4,w4,k4,l4⟩:=uC (n:=5) (o:=4) k3.st (by decide)
 have Y:=(k2.trans k3).trans k4;have hL:aV (bx (aZ (aV (az a9 (aa (mV 2) (aa (mK (.int 7)) ao)))) (aZ (aV (az dO (aa (mV 2) (aa (mK (.int 7)) ao)))) (aZ (mV 3) (aZ (aV (az bB (aa (mV 2) (aa (mK (.int 5)) (aa (mK (.int 4)) ao))))) ao))))) [some (.ro (ns.map D.int)),some (.int i),some (.lst k),some (aE 14 Ew),o4,o5] T1=some (.ok (.fz ([(n2,E2),(n3,E3),(14,Ew),(5,E4)].map fun p=>aE p.1 p.2)),T4):=by
  refine jP (jN (S1:=T4) (ys:=[aE n2 E2,aE n3 E3,aE 14 Ew,aE 5 E4]) (bI (S1:=T2) ?_ (bI (S1:=T3) ?_ (bI (x:=aE 14 Ew) (S1:=T3) rfl (bI (S1:=T4) ?_ rfl)))) (by show 4<=lim;unfold lim;omega)) Y (l4.trans (l3.trans l2)) ?_
  ·show ji (az _ _ _) T1=_;rw[call2 (x:=.lst k) (y:=.int 7) rfl rfl];exact e2
  ·show ji (az _ _ _) T2=_;rw[call2 (x:=.lst k) (y:=.int 7) rfl rfl];exact e3
  ·show ji (az _ _ _) T3=_;rw[DN (x:=.lst k) (y:=.int 5) (z:=.int 4) rfl rfl rfl];exact e4
  ·show cF 0 [aE n2 E2,aE n3 E3,aE 14 Ew,aE 5 E4]=true;unfold cF cF cF cF cF;rw[iw,iw,iw,iw];rfl
 obtain⟨y4,hf⟩:=Bx (its:=[(n2,E2),(n3,E3),(14,Ew),(5,E4)].map fun p=>aE p.1 p.2) (a0:=some (.ro (ns.map D.int))) (a1:=some (.int i)) (a2:=some (.lst k)) (a3:=some (aE 14 Ew)) (a5:=o5) [(n2,E2),(n3,E3),(14,Ew),(5,E4)] o4 fun p hp=>by
  simp only[List.mem_cons,List.not_mem_nil,or_false]at hp;rcases hp with rfl|rfl|rfl|rfl
  ·exact⟨by show n2<=14;omega,w2⟩
  ·exact⟨by show n3<=14;omega,w3⟩
  ·exact⟨JK _,w1⟩
  ·exact⟨by show 5<=14;decide,w4⟩
 obtain⟨d,T5,e5,gd,wd,_,_⟩:=FX k4.st;have hr:=xx (js:=[5]) (ρ:=[some (.ro (ns.map D.int)),some (.int i),some (.lst k),some (aE 14 Ew),y4,some d]) (ds:=[d]) (ms:=ao) (m:=oX) (R:=a8) rfl rfl (Hq ((ft rfl).trans (Do gd wd))) De;refine⟨some (.lst k),some (aE 14 Ew),y4,some d,T5,?_⟩;unfold jK;have Z:ij (aV (bx (aZ (aV (az a9 (aa (mV 2) (aa (mK (.int 7)) ao)))) (aZ (aV (az dO (aa (mV 2) (aa (mK (.int 7)) ao)))) (aZ (mV 3) (aZ (aV (az bB (aa (mV 2) (aa (mK (.int 5)) (aa (mK (.int 4)) ao))))) ao)))))) [some (.ro (ns.map D.int)),some (.int i),some (.lst k),some (aE 14 Ew),o4,o5] T1=some (.ok ⟨[(n2,E2),(n3,E3),(14,Ew),(5,E4)].map fun p=>aE p.1 p.2,.none⟩,T4):=by
  unfold ij;rw[aL hL];rfl
 refine(aK (ρ':=[some (.ro (ns.map D.int)),some (.int i),some (.lst k),o3,o4,o5]) (S1:=T0) (bH (x:=.lst k) ?_)).trans ((aK (ρ':=[some (.ro (ns.map D.int)),some (.int i),some (.lst k),some (aE 14 Ew),o4,o5]) (S1:=T1) (bH e1)).trans ((aK (nD Z (KC hf T4))).trans ((aK (ρ':=[some (.ro (ns.map D.int)),some (.int i),some (.lst k),some (aE 14 Ew),y4,some d]) (S1:=T5) (bH (x:=d) ?_)).trans ?_)))
 ·rw[call2 (x:=.ro (ns.map D.int)) (y:=.int i) rfl rfl];exact e0
 ·show ji (az _ _ _) T4=_;rw[ft (x:=.lst k) rfl];exact e5
 ·exact KC ((b8 (dw hr Be Hx)).trans (if_neg (by decide))) T5
theorem uI{ns:List Int}:∀(ts:List Nat) (o1 o2 o3 o4 o5:Option D) (S:aA),∃ ρ S1,fT ⟨its,.none⟩ (gN 1) jK (ts.map fun i:Nat=>.int (0+(i:Int))) [some (.ro (ns.map D.int)),o1,o2,o3,o4,o5] S=some (.ok (.nx ρ),S1)
 |[],o1,o2,o3,o4,o5,S=>⟨_,S,by rw[KZ,fx];rfl⟩
 |t::ts,o1,o2,o3,o4,o5,S=>by
  obtain⟨x2,x3,x4,x5,S1,h⟩:=F5 (S:=S) (ns:=ns) (i:=t) (o2:=o2) (o3:=o3) (o4:=o4) (o5:=o5);obtain⟨ρ,S2,ih⟩:=uI (its:=its) (ns:=ns) ts (some (.int t)) x2 x3 x4 x5 S1;refine⟨ρ,S2,?_⟩;rw[J3,K3];exact(eR rfl h).trans ih
theorem HE{ns:List Int}:runs (qN [.ro (ns.map D.int)]) S (fun d _=>d= .bl true):=by
 have hm:az minD (aa (cG cn (mV 0)) (aa (mK (.int 8)) ao)) [some (.ro (ns.map D.int)),none,none,none,none,none]=pure (.int (if (8:Int)<(ns.map D.int).length then 8 else (ns.map D.int).length)):=(call2 (x:=.int (ns.map D.int).length) (y:=.int 8) rfl rfl).trans rfl;have hM:az maxD (aa (mK (.int 1)) (aa (az minD (aa (cG cn (mV 0)) (aa (mK (.int 8)) ao))) ao)) [some (.ro (ns.map D.int)),none,none,none,none,none]=pure (.int (if (if (8:Int)<(ns.map D.int).length then (8:Int)else (ns.map D.int).length)>1 then (if (8:Int)<(ns.map D.int).length then 8 else (ns.map D.int).length)else 1)):=(call2 (x:=.int 1) rfl hm).trans rfl;generalize hn:(if (if (8:Int)<(ns.map D.int).length then (8:Int)else (ns.map D.int).length)>1 then (if (8:Int)<(ns.map D.int).length then (8:Int)else (ns.map D.int).length)else 1)=n at hM;have Z:n<=8:=by rw[<-hn];split<;>split<;>omega
 have n1:1<=n:=by rw[<-hn];split<;>split<;>omega
 have hi:=(l9 hM).trans (su (by omega))
 obtain⟨ρ,S1,hf⟩:=uI (its:=aR 0 n.toNat) (ns:=ns) (List.range n.toNat) none none none none none S;refine⟨.bl true,S1,eS (o:=.ret (.bl true)) ?_ rfl,rfl⟩;unfold A5;exact(aK (kH hi hf)).trans rfl
def top(i:Nat):Stmt:=PySem.Challenge.pw_tiewebs_k71_end_webs.main.body.getD i (.Pass ⟨0,0,0,0⟩)
structure Txt(K:W.Frag)(mg:Str->Option Value):Prop where
 err:fF K=true
 dk:CL K=true
 b_ValueError:mg "ValueError"=none
 b_all:mg "all"=none
 b_bool:mg "bool"=none
 b_enumerate:mg "enumerate"=none
 b_int:mg "int"=none
 b_isinstance:mg "isinstance"=none
 b_len:mg "len"=none
 b_list:mg "list"=none
 b_max:mg "max"=none
 b_min:mg "min"=none
 b_range:mg "range"=none
 b_set:mg "set"=none
 b_sorted:mg "sorted"=none
 b_tuple:mg "tuple"=none
 b_zip:mg "zip"=none
 g_MOST_PLACES:∃ t,mg "MOST_PLACES"=some (.int 14 t)
 g_MOST_TIES:∃ t,mg "MOST_TIES"=some (.int 7 t)
theorem uJ:FnScope ["thing"] ["thing"] (av (top 17)):=⟨rfl,rfl,rfl,by decide+kernel,rfl,by decide+kernel,by decide+kernel⟩
theorem v8:FnScope ["thing"] ["thing"] (av (top 18)):=⟨rfl,rfl,rfl,by decide+kernel,rfl,by decide+kernel,by decide+kernel⟩
theorem sP:FnScope ["things"] ["things"] (av (top 21)):=⟨rfl,rfl,rfl,by decide+kernel,rfl,by decide+kernel,by decide+kernel⟩
theorem uK:FnScope ["many"] ["many"] (av (top 24)):=⟨rfl,rfl,rfl,by decide+kernel,rfl,by decide+kernel,by decide+kernel⟩
theorem pX:FnScope ["one","other"] ["one","other"] (av (top 29)):=⟨rfl,rfl,rfl,by decide+kernel,rfl,by decide+kernel,by decide+kernel⟩
theorem mY:FnScope ["_law_script","_law_k"] ["_law_script","_law_k"] (av (top 32)):=⟨rfl,rfl,rfl,by decide+kernel,rfl,by decide+kernel,by decide+kernel⟩
theorem gC:FnScope ["_law_state_here","_law_many","_law_found","_law_stirred"] ["_law_state_here","_law_many"] (av (top 34)):=⟨rfl,rfl,rfl,by decide+kernel,rfl,by decide+kernel,by decide+kernel⟩
theorem fC:FnScope ["_law_web_here","_law_ties","_law_found","_law_a","_law_b"] ["_law_web_here"] (av (top 38)):=⟨rfl,rfl,rfl,by decide+kernel,rfl,by decide+kernel,by decide+kernel⟩
theorem fR:FnScope ["_law_web_here","_law_names","_law_ties","_law_a","_law_b"] ["_law_web_here","_law_names"] (av (top 39)):=⟨rfl,rfl,rfl,by decide+kernel,rfl,by decide+kernel,by decide+kernel⟩
theorem d9:FnScope ["_law_web_here","_law_ends_here","_law_k","_law_found","_law_a","_law_b"] ["_law_web_here"] (av (top 45)):=⟨rfl,rfl,rfl,by decide+kernel,rfl,by decide+kernel,by decide+kernel⟩
theorem uL:FnScope ["many","thing"] ["many","thing"] (av (top 19)):=⟨rfl,rfl,rfl,by decide+kernel,rfl,by decide+kernel,by decide+kernel⟩
theorem kl:FnScope ["_law_script","_law_k","_law_cell"] ["_law_script","_law_k"] (av (top 33)):=⟨rfl,rfl,rfl,by decide+kernel,rfl,by decide+kernel,by decide+kernel⟩
theorem iz:FnScope ["_law_state_here","_law_many","_law_left","_law_found"] ["_law_state_here","_law_many"] (av (top 35)):=⟨rfl,rfl,rfl,by decide+kernel,rfl,by decide+kernel,by decide+kernel⟩
theorem iA:FnScope ["_law_state_here","_law_many","_law_often","_law_ties","_law_a"] ["_law_state_here","_law_many","_law_often"] (av (top 37)):=⟨rfl,rfl,rfl,by decide+kernel,rfl,by decide+kernel,by decide+kernel⟩
theorem je:FnScope ["_law_state_here","_law_some"] ["_law_state_here"] (av (top 44)):=⟨rfl,rfl,rfl,by decide+kernel,rfl,by decide+kernel,by decide+kernel⟩
theorem mj:FnScope ["many","thing","low","high"] ["many","thing"] (av (top 20)):=⟨rfl,rfl,rfl,by decide+kernel,rfl,by decide+kernel,by decide+kernel⟩
theorem bw:FnScope ["_law_state_here","_law_most","_law_many","_law_some","_law_ties","_law_at","_law_one","_law_other","_law_turn","_law_a","_law_b"] ["_law_state_here","_law_most"] (av (top 36)):=⟨rfl,rfl,rfl,by decide+kernel,rfl,by decide+kernel,by decide+kernel⟩
theorem mn:FnScope ["thing","many","ties"] ["thing"] (av (top 22)):=⟨rfl,rfl,rfl,by decide+kernel,rfl,by decide+kernel,by decide+kernel⟩
theorem c8:FnScope ["_law_state_here","_law_most","_law_way","_law_many","_law_web_here","_law_a","_law_b","_law_ties"] ["_law_state_here","_law_most"] (av (top 40)):=⟨rfl,rfl,rfl,by decide+kernel,rfl,by decide+kernel,by decide+kernel⟩
theorem uM:FnScope ["thing"] ["thing"] (av (top 23)):=⟨rfl,rfl,rfl,by decide+kernel,rfl,by decide+kernel,by decide+kernel⟩
theorem mq:FnScope ["web"] ["web"] (av (top 27)):=⟨rfl,rfl,rfl,by decide+kernel,rfl,by decide+kernel,by decide+kernel⟩
theorem kJ:FnScope ["web","ends","many"] ["web"] (av (top 30)):=⟨rfl,rfl,rfl,by decide+kernel,rfl,by decide+kernel,by decide+kernel⟩
theorem sQ:FnScope ["_law_found","_law_due"] ["_law_found","_law_due"] (av (top 42)):=⟨rfl,rfl,rfl,by decide+kernel,rfl,by decide+kernel,by decide+kernel⟩
theorem bN:FnScope ["_law_call","_law_error","e","_law_marks"] ["_law_call"] (av (top 41)):=⟨rfl,rfl,rfl,by decide+kernel,rfl,by decide+kernel,by decide+kernel⟩
theorem fD:FnScope ["_law_call","_law_many","_law_most","_law_error","e"] ["_law_call","_law_many","_law_most"] (av (top 43)):=⟨rfl,rfl,rfl,by decide+kernel,rfl,by decide+kernel,by decide+kernel⟩
theorem mr:FnScope ["_law_script","_law_k","_law_state_here","_law_wide","_law_web_here","_law_bad"] ["_law_script"] (av (top 46)):=⟨rfl,rfl,rfl,by decide+kernel,rfl,by decide+kernel,by decide+kernel⟩
section
variable {P:Program}{w:World}{K:W.Frag}{mg:Str->Option Value}{base:Heap}
theorem uN(F:Fun K "is_whole" "is_whole" (top 17) f fd)(hm:mg "is_whole"=some (.ref f))(T:Txt K mg):DefX P w K mg base 1 "is_whole" ["thing"] cz:=
 b9 (m:=oM) F hm (F.binds fun _ _ _ _ _ _ us hl=>match us,hl with|[_],_=>rfl) uJ rfl fun cdv A outer s H E hr=>
  aP (bb (kz (ig (Ts:="int") T.b_isinstance T.b_int (ae 0)) (ky (EG (ig (Ts:="bool") T.b_isinstance T.b_bool (ae 0))))))
end
section
variable {P:Program}{w:World}{K:W.Frag}{mg:Str->Option Value}{base:Heap}
theorem v9(F:Fun K "is_pair" "is_pair" (top 18) f fd)(hm:mg "is_pair"=some (.ref f))(T:Txt K mg):DefX P w K mg base 1 "is_pair" ["thing"] cW:=
 b9 (m:=qM) F hm (F.binds fun _ _ _ _ _ _ us hl=>match us,hl with|[_],_=>rfl) v8 rfl fun cdv A outer s H E hr=>
  aP (bb (kz (ig (Ts:="tuple") T.b_isinstance T.b_tuple (ae 0)) (ky (tJ (jg hr) (cV T.b_len (ae 0)) (aw)))))
end
section
variable {P:Program}{w:World}{K:W.Frag}{mg:Str->Option Value}{base:Heap}
theorem sR(F:Fun K "is_rising" "is_rising" (top 21) f fd)(hm:mg "is_rising"=some (.ref f))(T:Txt K mg):DefX P w K mg base 1 "is_rising" ["things"] eU:=
 b9 (m:=mM) F hm (F.binds fun _ _ _ _ _ _ us hl=>match us,hl with|[_],_=>rfl) sP rfl fun cdv A outer s H E hr=>
  aP (bb (vp rfl T.b_all (aQ (iY (t:=gM) (m:=gO) (pV (Nc:=["ahead","behind"]) (js:=[none,none]) (av (top 21)) ["things"] (fun _=>rfl) rfl (by decide+kernel)) rfl (wX T.b_zip (ae 0) (aQ (tL (ae 0) (wz (aw)) (wy)))) (fun C ex s2 H2=>⟨kB rfl (bR (aY 0 (show(["ahead","behind"]:List Str).Nodup by decide+kernel)) (bR (aY 1 (show(["ahead","behind"]:List Str).Nodup by decide+kernel)) (gn))),g0,Dx (Co hr) (ae 0) (ae 1)⟩)))))
end
section
variable {P:Program}{w:World}{K:W.Frag}{mg:Str->Option Value}{base:Heap}
theorem uO(F:Fun K "pairs_of" "pairs_of" (top 24) f fd)(hm:mg "pairs_of"=some (.ref f))(T:Txt K mg):DefX P w K mg base 1 "pairs_of" ["many"] dJ:=
 b9 (m:=oO) F hm (F.binds fun _ _ _ _ _ _ us hl=>match us,hl with|[_],_=>rfl) uK rfl fun cdv A outer s H E hr=>
  aP (bb (aQ (um (t:=eE) (t2:=cO) (m:=bY) (pV (Nc:=["low","high","many"]) (js:=[none,none,some 0]) (av (top 24)) ["many"] (fun _=>rfl) rfl (by decide+kernel)) rfl (dU T.b_range (ae 0)) (fun C ex s2 H2=>⟨aY 0 (show(["low","high","many"]:List Str).Nodup by decide+kernel),g0,iH T.b_range (cU (ae 0) (aw)) (ae 2),aY 1 (show(["low","high","many"]:List Str).Nodup by decide+kernel),g0,bZ (af (ae 0) (af (ae 1) (aj) au) au)⟩))))
end
section
variable {P:Program}{w:World}{K:W.Frag}{mg:Str->Option Value}{base:Heap}
theorem pY(F:Fun K "ends_touch" "ends_touch" (top 29) f fd)(hm:mg "ends_touch"=some (.ref f))(T:Txt K mg):DefX P w K mg base 1 "ends_touch" ["one","other"] d4:=
 b9 (m:=lp) F hm (F.binds fun _ _ _ _ _ _ us hl=>match us,hl with|[_,_],_=>rfl) pX rfl fun cdv A outer s H E hr=>
  aP (bb (GW (tJ (jg hr) (aI (ae 0) (aw)) (aI (ae 1) (aw))) (ky (tJ (jg hr) (aI (ae 0) (aw)) (aI (ae 1) (aw))))))
end
section
variable {P:Program}{w:World}{K:W.Frag}{mg:Str->Option Value}{base:Heap}
theorem mZ(F:Fun K "_law_cell_at" "_law_cell_at" (top 32) f fd)(hm:mg "_law_cell_at"=some (.ref f))(T:Txt K mg):DefX P w K mg base 1 "_law_cell_at" ["_law_script","_law_k"] cX:=
 b9 (m:=jH) F hm (F.binds fun _ _ _ _ _ _ us hl=>match us,hl with|[_,_],_=>rfl) mY rfl fun cdv A outer s H E hr=>
  aD (dz (qt (Co hr) (ae 1) (cV T.b_len (ae 0))) (aP (bb (aI (ae 0) (ae 1)))) (cy)) (aP (bb (aw)))
end
section
variable {P:Program}{w:World}{K:W.Frag}{mg:Str->Option Value}{base:Heap}
theorem sS(F:Fun K "_law_take" "_law_take" (top 34) f fd)(hm:mg "_law_take"=some (.ref f))(T:Txt K mg):DefX P w K mg base 1 "_law_take" ["_law_state_here","_law_many"] aq:=
 b9 (m:=mO) F hm (F.binds fun _ _ _ _ _ _ us hl=>match us,hl with|[_,_],_=>rfl) gC rfl fun cdv A outer s H E hr=>
  aD (dz (f9 (aI (ae 0) (aw))) (aD (bA 2 gC.nd (lR (aI (ae 0) (aw)) (ae 1)) (hs:=dg)) (aD (lQ (wu (aI (ae 0) (aw)) (ae 1)) (wC (ae 0) (aw))) (aP (bb (ae 2))))) (cy)) (aD (lQ (lR (cU (nX (aI (ae 0) (aw)) (aw)) (aw)) (aw)) (wC (ae 0) (aw))) (aD (bA 3 gC.nd (lR (cU (cU (nX (aI (ae 0) (aw)) (aI (ae 0) (aw))) (nX (aw) (aI (ae 0) (aw)))) (aw)) (aw)) (hs:=dg)) (aD (bA 3 gC.nd (lR (cU (nX (ae 3) (ae 3)) (nX (aw) (ae 3))) (aw)) (hs:=dg)) (aP (bb (lR (wu (ae 3) (aw)) (ae 1)))))))
end
section
variable {P:Program}{w:World}{K:W.Frag}{mg:Str->Option Value}{base:Heap}
theorem sT(F:Fun K "_law_made" "_law_made" (top 38) f fd)(hm:mg "_law_made"=some (.ref f))(T:Txt K mg):DefX P w K mg base 1 "_law_made" ["_law_web_here"] eV:=
 b9 (m:=hZ) F hm (F.binds fun _ _ _ _ _ _ us hl=>match us,hl with|[_],_=>rfl) fC rfl fun cdv A outer s H E hr=>
  aD (bA 1 fC.nd (aI (ae 0) (aw)) (hs:=sh)) (aD (bA 2 fC.nd (bE (aj)) (hs:=gu)) (aD (gF (b:=gQ) KP rfl (dU T.b_range (cV T.b_len (ae 1))) (aY 3 fC.nd) (aP (gF (b:=dM) KP rfl (iH T.b_range (cU (ae 3) (aw)) (cV T.b_len (ae 1))) (aY 4 fC.nd) (aP (dz (vj (nV (Dy (jg hr) (aI (aI (ae 1) (ae 3)) (aw)) (aI (ae 1) (ae 4))) (lO (Dy (jg hr) (aI (aI (ae 1) (ae 3)) (aw)) (aI (ae 1) (ae 4)))))) (aP (eZ (fL (ae 2) (bZ (af (ae 3) (af (ae 4) (aj) au) au))))) (cy)))))) (aP (bb (bZ (af (cV T.b_len (ae 1)) (af (e9 T.b_tuple (ae 2)) (aj) aS) aS))))))
end
section
variable {P:Program}{w:World}{K:W.Frag}{mg:Str->Option Value}{base:Heap}
theorem pZ(F:Fun K "_law_named" "_law_named" (top 39) f fd)(hm:mg "_law_named"=some (.ref f))(T:Txt K mg):DefX P w K mg base 1 "_law_named" ["_law_web_here","_law_names"] d5:=
 b9 (m:=gw) F hm (F.binds fun _ _ _ _ _ _ us hl=>match us,hl with|[_,_],_=>rfl) fR rfl fun cdv A outer s H E hr=>
  aD (bA 2 fR.nd (bE (aj)) (hs:=gu)) (aD (gF (b:=dh) KP rfl (lU (aI (ae 0) (aw))) (kB rfl (bR (aY 3 fR.nd) (bR (aY 4 fR.nd) (gn)))) (aP (eZ (fL (ae 2) (bZ (af (rL rfl T.b_min (af (aI (ae 1) (ae 3)) (af (aI (ae 1) (ae 4)) (aj) bf) bf)) (af (rK rfl T.b_max (af (aI (ae 1) (ae 3)) (af (aI (ae 1) (ae 4)) (aj) bf) bf)) (aj) aS) aS)))))) (aP (bb (bZ (af (aI (ae 0) (aw)) (af (e9 T.b_tuple (aQ (iJ T.b_sorted (ae 2)))) (aj) aS) bf)))))
end
section
variable {P:Program}{w:World}{K:W.Frag}{mg:Str->Option Value}{base:Heap}
theorem sU(F:Fun K "_law_ends" "_law_ends" (top 45) f fd)(hm:mg "_law_ends"=some (.ref f))(T:Txt K mg):DefX P w K mg base 1 "_law_ends" ["_law_web_here"] eW:=
 b9 (m:=ia) F hm (F.binds fun _ _ _ _ _ _ us hl=>match us,hl with|[_],_=>rfl) d9 rfl fun cdv A outer s H E hr=>
  aD (bA 1 d9.nd (bE (aj)) (hs:=gu)) (aD (gF (b:=gR) KP rfl (dU T.b_range (cV T.b_len (aI (ae 0) (aw)))) (aY 2 d9.nd) (aP (eZ (qu (ae 1) (aQ (bE (af (bZ (af (ae 2) (af (aI (aI (aI (ae 0) (aw)) (ae 2)) (aw)) (aj) bf) au)) (af (bZ (af (ae 2) (af (aI (aI (aI (ae 0) (aw)) (ae 2)) (aw)) (aj) bf) au)) (aj) bz) bz))))))) (aD (bA 3 d9.nd (bE (aj)) (hs:=gu)) (aD (gF (b:=gS) KP rfl (dU T.b_range (cV T.b_len (ae 1))) (aY 4 d9.nd) (aP (gF (b:=cA) KP rfl (iH T.b_range (cU (ae 4) (aw)) (cV T.b_len (ae 1))) (aY 5 d9.nd) (aP (dz (vj (nV (wx (jg hr) (aI (aI (ae 1) (ae 4)) (aw)) (aI (aI (ae 1) (ae 5)) (aw))) (lO (wx (jg hr) (aI (aI (ae 1) (ae 4)) (aw)) (aI (aI (ae 1) (ae 5)) (aw)))))) (aP (eZ (fL (ae 3) (bZ (af (ae 4) (af (ae 5) (aj) au) au))))) (cy)))))) (aP (bb (bZ (af (cV T.b_len (ae 1)) (af (e9 T.b_tuple (ae 3)) (aj) aS) aS)))))))
end
section
variable {P:Program}{w:World}{K:W.Frag}{mg:Str->Option Value}{base:Heap}
theorem uP(F:Fun K "is_place" "is_place" (top 19) f fd)(hm:mg "is_place"=some (.ref f))(T:Txt K mg)(Z:DefX P w K mg base 1 "is_whole" ["thing"] cz):DefX P w K mg base 2 "is_place" ["many","thing"] fN:=
 b9 (m:=oQ) F hm (F.binds fun _ _ _ _ _ _ us hl=>match us,hl with|[_,_],_=>rfl) uL rfl fun cdv A outer s H E hr=>
  aP (bb (kz (aO Z (hr.mono (by decide)) (af (ae 1) (aj) au)) (ky (zQ zb (y3.or (u7 (Co hr))) (jU fun _ _ _ _=>.bl _) vm (aw) (ae 1) (ae 0)))))
end
section
variable {P:Program}{w:World}{K:W.Frag}{mg:Str->Option Value}{base:Heap}
theorem p9(F:Fun K "_law_state" "_law_state" (top 33) f fd)(hm:mg "_law_state"=some (.ref f))(T:Txt K mg)(Z:DefX P w K mg base 1 "_law_cell_at" ["_law_script","_law_k"] cX):DefX P w K mg base 2 "_law_state" ["_law_script","_law_k"] fe:=
 b9 (m:=lq) F hm (F.binds fun _ _ _ _ _ _ us hl=>match us,hl with|[_,_],_=>rfl) kl rfl fun cdv A outer s H E hr=>
  aD (bA 2 kl.nd (aO Z (hr.mono (by decide)) (af (ae 0) (af (ae 1) (aj) au) au)) (hs:=gv)) (aD (dz (G1 (ae 2) (zM (aw) (aw))) (aP (bb (bE (af (zK (ae 2) (zM (aw) (aw))) (af (gY) (aj) aF) jA)))) (cy)) (aP (bb (bE (af (lR (ae 2) (aw)) (af (gY) (aj) aF) jA)))))
end
section
variable {P:Program}{w:World}{K:W.Frag}{mg:Str->Option Value}{base:Heap}
theorem qb(F:Fun K "_law_mixed" "_law_mixed" (top 35) f fd)(hm:mg "_law_mixed"=some (.ref f))(T:Txt K mg)(Z:DefX P w K mg base 1 "_law_take" ["_law_state_here","_law_many"] aq):DefX P w K mg base 2 "_law_mixed" ["_law_state_here","_law_many"] bL:=
 b9 (m:=gx) F hm (F.binds fun _ _ _ _ _ _ us hl=>match us,hl with|[_,_],_=>rfl) iz rfl fun cdv A outer s H E hr=>
  aD (bA 2 iz.nd (rO rfl T.b_list T.b_range (ae 1)) (hs:=gv)) (aD (bA 3 iz.nd (bE (aj)) (hs:=gu)) (aD (zI (b:=di) 64 KP (nY (jg hr) (ae 2) (aQ (bE (aj)))) (aP (eZ (fL (ae 3) (z5 (ae 2) (aQ (aO Z (hr.mono (by decide)) (af (ae 0) (af (cV T.b_len (ae 2)) (aj) aS) au)))))))) (aP (bb (e9 T.b_tuple (ae 3))))))
end
section
variable {P:Program}{w:World}{K:W.Frag}{mg:Str->Option Value}{base:Heap}
theorem qc(F:Fun K "_law_drawn" "_law_drawn" (top 37) f fd)(hm:mg "_law_drawn"=some (.ref f))(T:Txt K mg)(Z:DefX P w K mg base 1 "_law_take" ["_law_state_here","_law_many"] aq):DefX P w K mg base 2 "_law_drawn" ["_law_state_here","_law_many","_law_often"] bB:=
 b9 (m:=gy) F hm (F.binds fun _ _ _ _ _ _ us hl=>match us,hl with|[_,_,_],_=>rfl) iA rfl fun cdv A outer s H E hr=>
  aD (bA 3 iA.nd (bE (aj)) (hs:=gu)) (aD (gF (b:=dj) KP rfl (dU T.b_range (ae 1)) (aY 4 iA.nd) (aP (eZ (qu (ae 3) (aQ (iY (t:=eL) (m:=eM) (pV (Nc:=["_law_b","_law_state_here","_law_often","_law_a"]) (js:=[none,some 0,some 2,some 4]) (av (top 37)) ["_law_state_here","_law_many","_law_often","_law_ties","_law_a"] (fun _=>rfl) rfl (by decide+kernel)) rfl (iH T.b_range (cU (ae 4) (aw)) (ae 1)) (fun C ex s2 H2=>⟨aY 0 (show(["_law_b","_law_state_here","_law_often","_law_a"]:List Str).Nodup by decide+kernel),m9 (qt (Co hr) (aQ (aO Z (hr.mono (by decide)) (af (ae 1) (af (aw) (aj) aF) au))) (ae 2)),bZ (af (ae 3) (af (ae 0) (aj) au) au)⟩))))))) (aP (bb (bZ (af (ae 1) (af (e9 T.b_tuple (ae 3)) (aj) aS) au)))))
end
section
variable {P:Program}{w:World}{K:W.Frag}{mg:Str->Option Value}{base:Heap}
theorem m4(F:Fun K "_law_bad_web" "_law_bad_web" (top 44) f fd)(hm:mg "_law_bad_web"=some (.ref f))(T:Txt K mg)(Z:DefX P w K mg base 1 "_law_take" ["_law_state_here","_law_many"] aq):DefX P w K mg base 2 "_law_bad_web" ["_law_state_here"] dN:=by
 refine b9 (m:=ff) F hm (F.binds fun _ _ _ _ _ _ us hl=>match us,hl with|[_],_=>rfl) je rfl fun cdv A outer s H E hr=>?_
 have key:∀ e pos pos' me,SE (jf (j9 P w) P w K mg base ["_law_state_here","_law_some"] "_law_bad_web" (av (top 44)) f cdv A outer s H E).nox cb e me->swapsWith e (some (.Name "_law_some" pos')) pos.line (jf (j9 P w) P w K mg base ["_law_state_here","_law_some"] "_law_bad_web" (av (top 44)) f cdv A outer s H E).nox.env=pure false->SS (jf (j9 P w) P w K mg base ["_law_state_here","_law_some"] "_law_bad_web" (av (top 44)) f cdv A outer s H E).nox cb (.Assign [.Name "_law_some" pos'] e pos) (bK 1 me):=fun e pos pos' me h hs=>bA 1 je.nd h (hs:=hs);have kv:∀ pos,SE (jf (j9 P w) P w K mg base ["_law_state_here","_law_some"] "_law_bad_web" (av (top 44)) f cdv A outer s H E).nox cb (.Name "_law_some" pos) (mV 1):=fun pos=>ae 1;refine aD ?_ ?_
 ·with_reducible refine key _ _ _ _ ?_ gu
  with_reducible refine bE ?_
  with_reducible refine a7 (ku) ?_ aF
  with_reducible refine a7 (aw) ?_ aF
  with_reducible refine a7 (ef 6 ?_) ?_ bz
  case refine_1=>rfl
  with_reducible refine a7 (ef 6 ?_) ?_ bz
  case refine_1=>rfl
  with_reducible refine a7 (ef 6 ?_) ?_ bz
  case refine_1=>rfl
  with_reducible refine a7 (ef 6 ?_) ?_ bz
  case refine_1=>rfl
  with_reducible refine a7 ?_ ?_ bz
  case refine_1=>exact(bZ (af (aw) (af (bE (aj)) (aj) lg) aF))
  with_reducible refine a7 ?_ ?_ lg
  case refine_1=>exact(bE (af (aw) (af (ef 6 rfl) (aj) bz) aF))
  with_reducible refine a7 (ef 6 ?_) ?_ bz
  case refine_1=>rfl
  with_reducible refine a7 (ef 6 ?_) ?_ bz
  case refine_1=>rfl
  exact aj
 refine aD ?_ ?_
 ·with_reducible refine key _ _ _ _ ?_ dg
  with_reducible refine cU (kv _) ?_
  with_reducible refine bE ?_
  with_reducible refine a7 (ef 6 ?_) ?_ bz
  case refine_1=>rfl
  with_reducible refine a7 (ef 6 ?_) ?_ bz
  case refine_1=>rfl
  with_reducible refine a7 (ef 6 ?_) ?_ bz
  case refine_1=>rfl
  with_reducible refine a7 (ef 6 ?_) ?_ bz
  case refine_1=>rfl
  with_reducible refine a7 (ef 6 ?_) ?_ bz
  case refine_1=>rfl
  exact aj
 refine aD ?_ ?_
 ·with_reducible refine key _ _ _ _ ?_ dg
  with_reducible refine cU (kv _) ?_
  exact bE (af (ef 6 rfl) (af (rF) (af (ET) (aj) Cn) aF) bz)
 refine aD ?_ ?_
 ·with_reducible refine key _ _ _ _ ?_ dg
  with_reducible refine cU (kv _) ?_
  with_reducible refine bE ?_
  with_reducible refine a7 ?_ ?_ bz
  case refine_1=>exact(bZ (af (aw) (af (bZ (af (bE (af (aw) (af (aw) (aj) aF) aF)) (aj) lg)) (aj) bz) aF))
  with_reducible refine a7 (ef 6 ?_) ?_ bz
  case refine_1=>rfl
  with_reducible refine a7 (ef 6 ?_) ?_ bz
  case refine_1=>rfl
  with_reducible refine a7 (ef 6 ?_) ?_ bz
  case refine_1=>rfl
  exact aj
 exact(aP (bb (aI (ae 1) (aO Z (hr.mono (by decide)) (af (ae 0) (af (aw) (aj) aF) au)))))
end
section
variable {P:Program}{w:World}{K:W.Frag}{mg:Str->Option Value}{base:Heap}
theorem yO(F:Fun K "is_tie" "is_tie" (top 20) f fd)(hm:mg "is_tie"=some (.ref f))(T:Txt K mg)(Y:DefX P w K mg base 1 "is_pair" ["thing"] cW)(Z:DefX P w K mg base 2 "is_place" ["many","thing"] fN):DefX P w K mg base 3 "is_tie" ["many","thing"] jI:=
 b9 (m:=oR) F hm (F.binds fun _ _ _ _ _ _ us hl=>match us,hl with|[_,_],_=>rfl) mj rfl fun cdv A outer s H E hr=>
  aD (dz (iW (f9 (aO Y (hr.mono (by decide)) (af (ae 1) (aj) au)))) (aP (bb (gY))) (cy)) (aD (lQ (ae 1) (kB rfl (bR (aY 2 mj.nd) (bR (aY 3 mj.nd) (gn))))) (aP (bb (kz (aO Z (hr.mono (by decide)) (af (ae 0) (af (ae 2) (aj) au) au)) (kz (aO Z (hr.mono (by decide)) (af (ae 0) (af (ae 3) (aj) au) au)) (ky (Dx (Co hr) (ae 2) (ae 3))))))))
end
section
variable {P:Program}{w:World}{K:W.Frag}{mg:Str->Option Value}{base:Heap}
theorem mw(F:Fun K "_law_few_ties" "_law_few_ties" (top 36) f fd)(hm:mg "_law_few_ties"=some (.ref f))(T:Txt K mg)(Z:DefX P w K mg base 1 "_law_take" ["_law_state_here","_law_many"] aq)(Y:DefX P w K mg base 2 "_law_mixed" ["_law_state_here","_law_many"] bL):DefX P w K mg base 3 "_law_few_ties" ["_law_state_here","_law_most"] a9:=
 b9 (m:=eN) F hm (F.binds fun _ _ _ _ _ _ us hl=>match us,hl with|[_,_],_=>rfl) bw rfl fun cdv A outer s H E hr=>
  aD (bA 2 bw.nd (cU (aw) (aQ (aO Z (hr.mono (by decide)) (af (ae 0) (af (rL rfl T.b_min (af (aw) (af (cU (ae 1) (aw)) (aj) jA) aF)) (aj) aS) au)))) (hs:=dg)) (aD (bA 3 bw.nd (aQ (aO Y (hr.mono (by decide)) (af (ae 0) (af (ae 2) (aj) au) au))) (hs:=gv)) (aD (bA 4 bw.nd (bE (aj)) (hs:=gu)) (aD (gF (b:=bF) KP rfl (iH T.b_range (aw) (ae 2)) (aY 5 bw.nd) (aP (dz (zO (aQ (aO Z (hr.mono (by decide)) (af (ae 0) (af (aw) (aj) aF) au))) (aw)) (aD (EI 6 7 rfl bw.nd (af (aI (ae 3) (ae 5)) (af (aI (ae 3) (aQ (aO Z (hr.mono (by decide)) (af (ae 0) (af (ae 5) (aj) au) au)))) (aj) bf) bf)) (aP (eZ (fL (ae 4) (bZ (af (rL rfl T.b_min (af (ae 6) (af (ae 7) (aj) au) au)) (af (rK rfl T.b_max (af (ae 6) (af (ae 7) (aj) au) au)) (aj) aS) aS)))))) (cy)))) (aD (gF (b:=bG) KP rfl (dU T.b_range (aQ (aO Z (hr.mono (by decide)) (af (ae 0) (af (aw) (aj) aF) au)))) (aY 8 bw.nd) (aD (lQ (aQ (iJ T.b_sorted (aQ (bE (af (aQ (aO Z (hr.mono (by decide)) (af (ae 0) (af (ae 2) (aj) au) au))) (af (aQ (aO Z (hr.mono (by decide)) (af (ae 0) (af (ae 2) (aj) au) au))) (aj) aS) aS))))) (A4 rfl (bR (aY 9 bw.nd) (bR (aY 10 bw.nd) (gn))))) (aP (dz (qt (Co hr) (ae 9) (ae 10)) (aP (eZ (fL (ae 4) (bZ (af (ae 9) (af (ae 10) (aj) au) au))))) (cy))))) (aP (bb (bZ (af (ae 2) (af (e9 T.b_tuple (aQ (iJ T.b_sorted (aQ (tL (aQ (rY rfl (JB hr) T.b_sorted T.b_set (ae 4))) (wy) (wz (ae 1))))))) (aj) aS) au))))))))
end
section
variable {P:Program}{w:World}{K:W.Frag}{mg:Str->Option Value}{base:Heap}
theorem yP(F:Fun K "is_web" "is_web" (top 22) f fd)(hm:mg "is_web"=some (.ref f))(T:Txt K mg)(Y:DefX P w K mg base 1 "is_whole" ["thing"] cz)(U:DefX P w K mg base 1 "is_pair" ["thing"] cW)(O:DefX P w K mg base 3 "is_tie" ["many","thing"] jI)(Z:DefX P w K mg base 1 "is_rising" ["things"] eU):DefX P w K mg base 4 "is_web" ["thing"] iK:=
 b9 (m:=oU) F hm (F.binds fun _ _ _ _ _ _ us hl=>match us,hl with|[_],_=>rfl) mn rfl fun cdv A outer s H E hr=>
  aD (dz (iW (f9 (aQ (aO U (hr.mono (by decide)) (af (ae 0) (aj) au))))) (aP (bb (gY))) (cy)) (aD (lQ (ae 0) (kB rfl (bR (aY 1 mn.nd) (bR (aY 2 mn.nd) (gn))))) (aD (dz (vj (nV (iW (f9 (aQ (aO Y (hr.mono (by decide)) (af (ae 1) (aj) au))))) (nV (iW (zR zb zb (jU fun _ _ _ _=>.bl _) (jU fun _ _ _ _=>.bl _) (aw) (ae 1) (oC rfl T.g_MOST_PLACES))) (lO (iW (f9 (ig (Ts:="tuple") T.b_isinstance T.b_tuple (ae 2)))))))) (aP (bb (gY))) (cy)) (aP (bb (kz (vp rfl T.b_all (aQ (iY (t:=ib) (m:=ic) (pV (Nc:=["tie","many"]) (js:=[none,some 1]) (av (top 22)) ["thing","many","ties"] (fun _=>rfl) rfl (by decide+kernel)) rfl (lU (ae 2)) (fun C ex s2 H2=>⟨aY 0 (show(["tie","many"]:List Str).Nodup by decide+kernel),g0,aQ (aO O (hr.mono (by decide)) (af (ae 1) (af (ae 0) (aj) au) au))⟩)))) (ky (aQ (aO Z (hr.mono (by decide)) (af (ae 2) (aj) au)))))))))
end
section
variable {P:Program}{w:World}{K:W.Frag}{mg:Str->Option Value}{base:Heap}
theorem uQ(F:Fun K "_law_web" "_law_web" (top 40) f fd)(hm:mg "_law_web"=some (.ref f))(T:Txt K mg)(Z:DefX P w K mg base 1 "_law_take" ["_law_state_here","_law_many"] aq)(a4:DefX P w K mg base 2 "_law_mixed" ["_law_state_here","_law_many"] bL)(Y:DefX P w K mg base 3 "_law_few_ties" ["_law_state_here","_law_most"] a9)(O:DefX P w K mg base 2 "_law_drawn" ["_law_state_here","_law_many","_law_often"] bB)(a6:DefX P w K mg base 1 "_law_made" ["_law_web_here"] eV)(U:DefX P w K mg base 1 "_law_named" ["_law_web_here","_law_names"] d5):DefX P w K mg base 4 "_law_web" ["_law_state_here","_law_most"] dO:=
 b9 (m:=i7) F hm (F.binds fun _ _ _ _ _ _ us hl=>match us,hl with|[_,_],_=>rfl) c8 rfl fun cdv A outer s H E hr=>
  aD (bA 2 c8.nd (aQ (aO Z (hr.mono (by decide)) (af (ae 0) (af (aw) (aj) aF) au))) (hs:=gv)) (aD (dz (qt (Co hr) (ae 2) (aw)) (aD (bA 3 c8.nd (zK (ae 1) (aI (aQ (bE (by (refine a7 (aw) ?_ aF;refine a7 (aw) ?_ aF;refine a7 (aw) ?_ aF;refine a7 (aw) ?_ aF;refine a7 (aw) ?_ aF;refine a7 (ae 1) ?_ au;exact aj)))) (aQ (aO Z (hr.mono (by decide)) (af (ae 0) (af (aw) (aj) aF) au))))) (hs:=dg)) (aP (bb (aQ (aO O (hr.mono (by decide)) (af (ae 0) (af (rK rfl T.b_max (af (aw) (af (ae 3) (aj) au) aF)) (af (cU (ae 2) (aw)) (aj) jA) aS) au)))))) (cy)) (aD (bA 4 c8.nd (aQ (aO a6 (hr.mono (by decide)) (af (aQ (aO Y (hr.mono (by decide)) (af (ae 0) (af (ae 1) (aj) au) au))) (aj) aS))) (hs:=gv)) (aD (bA 4 c8.nd (aQ (aO U (hr.mono (by decide)) (af (ae 4) (af (aQ (aO a4 (hr.mono (by decide)) (af (ae 0) (af (aI (ae 4) (aw)) (aj) bf) au))) (aj) aS) au))) (hs:=gv)) (aD (dz (vj (nV (wx (jg hr) (ae 2) (aw)) (lO (qt (Co hr) (aI (ae 4) (aw)) (aw))))) (aP (bb (ae 4))) (cy)) (aD (lQ (aQ (iJ T.b_sorted (aQ (bE (af (aQ (aO Z (hr.mono (by decide)) (af (ae 0) (af (aI (ae 4) (aw)) (aj) bf) au))) (af (aQ (aO Z (hr.mono (by decide)) (af (ae 0) (af (aI (ae 4) (aw)) (aj) bf) au))) (aj) aS) aS))))) (A4 rfl (bR (aY 5 c8.nd) (bR (aY 6 c8.nd) (gn))))) (aD (vk 7 (t:=eF) (m:=eG) c8.nd (pV (Nc:=["_law_tie","_law_a","_law_b"]) (js:=[none,some 5,some 6]) (av (top 40)) ["_law_state_here","_law_most","_law_way","_law_many","_law_web_here","_law_a","_law_b","_law_ties"] (fun _=>rfl) rfl (by decide+kernel)) rfl (lU (aI (ae 4) (aw))) (fun C ex s2 H2=>⟨aY 0 (show(["_law_tie","_law_a","_law_b"]:List Str).Nodup by decide+kernel),m9 (nY (jg hr) (ae 0) (bZ (af (ae 1) (af (ae 2) (aj) au) au))),ae 0⟩)) (aD (dz (vj (EH (qt (Co hr) (ae 5) (ae 6)) (B8 (wx (jg hr) (cV T.b_len (ae 7)) (cV T.b_len (aI (ae 4) (aw))))))) (aP (eZ (fL (ae 7) (bZ (af (ae 5) (af (ae 6) (aj) au) au))))) (cy)) (aP (bb (bZ (af (aI (ae 4) (aw)) (af (e9 T.b_tuple (aQ (iJ T.b_sorted (ae 7)))) (aj) aS) bf)))))))))))
end
section
variable {P:Program}{w:World}{K:W.Frag}{mg:Str->Option Value}{base:Heap}
theorem uR(F:Fun K "need_web" "need_web" (top 23) f fd)(hm:mg "need_web"=some (.ref f))(T:Txt K mg)(Z:DefX P w K mg base 4 "is_web" ["thing"] iK):DefX P w K mg base 5 "need_web" ["thing"] eQ:=
 sg (m:=oV) F hm (F.binds fun _ _ _ _ _ _ us hl=>match us,hl with|[_],_=>rfl) uM rfl fun cdv A outer s H E hr=>
  aP (dz (iW (f9 (aQ (jB Z (hr.mono (by decide)) fV.pass (af (ae 0) (aj) au))))) (aP (Ax fV rfl T.err (by decide) (by decide) (af (rF) (aj) aF))) (cy))
end
section
variable {P:Program}{w:World}{K:W.Frag}{mg:Str->Option Value}{base:Heap}
theorem mx(F:Fun K "need_few_ties" "need_few_ties" (top 27) f fd)(hm:mg "need_few_ties"=some (.ref f))(T:Txt K mg)(GR:GrX P w K mg base)(Z:DefX P w K mg base 5 "need_web" ["thing"] eQ):DefX P w K mg base 6 "need_few_ties" ["web"] cf:=
 sg (m:=dm) F hm (F.binds fun _ _ _ _ _ _ us hl=>match us,hl with|[_],_=>rfl) mq rfl fun cdv A outer s H E hr=>
  aD (eZ (aQ (jB Z (hr.mono (by decide)) fV.pass (af (ae 0) (aj) au)))) (aP (dz (zO (cV T.b_len (aI (ae 0) (aw))) (oC rfl T.g_MOST_TIES)) (aP (AY fV rfl T.err GR (hr.mono (by decide)) (af (cV T.b_len (aI (ae 0) (aw))) (af (oC rfl T.g_MOST_TIES) (aj) au) aS))) (cy)))
end
section
variable {P:Program}{w:World}{K:W.Frag}{mg:Str->Option Value}{base:Heap}
theorem wa(F:Fun K "end_web" "end_web" (top 30) f fd)(hm:mg "end_web"=some (.ref f))(T:Txt K mg)(U:DefX P w K mg base 1 "pairs_of" ["many"] dJ)(Z:DefX P w K mg base 6 "need_few_ties" ["web"] cf)(Y:DefX P w K mg base 1 "ends_touch" ["one","other"] d4):DefX P w K mg base 7 "end_web" ["web"] du:=
 sg (m:=iL) F hm (F.binds fun _ _ _ _ _ _ us hl=>match us,hl with|[_],_=>rfl) kJ rfl fun cdv A outer s H E hr=>
  aD (eZ (aQ (jB Z (hr.mono (by decide)) fV.pass (af (ae 0) (aj) au)))) (aD (bA 1 kJ.nd (aQ (wQ (um (t:=fh) (t2:=d6) (m:=cL) (pV (Nc:=["number","tie","place"]) (js:=[none,none,none]) (av (top 30)) ["web","ends","many"] (fun _=>rfl) rfl (by decide+kernel)) rfl (CG T.b_enumerate (aI (ae 0) (aw))) (fun C ex s2 H2=>⟨kB rfl (bR (aY 0 (show(["number","tie","place"]:List Str).Nodup by decide+kernel)) (bR (aY 1 (show(["number","tie","place"]:List Str).Nodup by decide+kernel)) (gn))),g0,lU (ae 1),aY 2 (show(["number","tie","place"]:List Str).Nodup by decide+kernel),g0,bZ (af (ae 0) (af (ae 2) (aj) au) au)⟩))))) (aD (bA 2 kJ.nd (cV T.b_len (ae 1)) (hs:=gv)) (aP (bb (bZ (af (ae 2) (af (e9 T.b_tuple (aQ (wQ (iY (t:=i8) (m:=i9) (pV (Nc:=["low","high","ends"]) (js:=[none,none,some 1]) (av (top 30)) ["web","ends","many"] (fun _=>rfl) rfl (by decide+kernel)) rfl (lU (aQ (aO U (hr.mono (by decide)) (af (ae 2) (aj) au)))) (fun C ex s2 H2=>⟨kB rfl (bR (aY 0 (show(["low","high","ends"]:List Str).Nodup by decide+kernel)) (bR (aY 1 (show(["low","high","ends"]:List Str).Nodup by decide+kernel)) (gn))),m9 (f9 (aQ (aO Y (hr.mono (by decide)) (af (aI (ae 2) (ae 0)) (af (aI (ae 2) (ae 1)) (aj) bf) bf)))),bZ (af (ae 0) (af (ae 1) (aj) au) au)⟩))))) (aj) aS) au))))))
end
section
variable {P:Program}{w:World}{K:W.Frag}{mg:Str->Option Value}{base:Heap}
theorem qd(F:Fun K "_law_same" "_law_same" (top 42) f fd)(hm:mg "_law_same"=some (.ref f))(T:Txt K mg)(Z:DefX P w K mg base (1+j) "_law_same" ["_law_found","_law_due"] F0):DefX P w K mg base (1+j+1) "_law_same" ["_law_found","_law_due"] (lF 2 2 (cM F0)):=
 b9 (m:=cM F0) F hm (F.binds fun _ _ _ _ _ _ us hl=>match us,hl with|[_,_],_=>rfl) sQ rfl fun cdv A outer s H E hr=>
  aD (dz (f9 (Cd (Ts:="tuple") (Us:="list") T.b_isinstance T.b_tuple T.b_list (ae 1))) (aD (dz (vj (nV (nY (jg hr) (ig (Ts:="tuple") T.b_isinstance T.b_tuple (ae 0)) (ig (Ts:="tuple") T.b_isinstance T.b_tuple (ae 1))) (lO (nY (jg hr) (ig (Ts:="list") T.b_isinstance T.b_list (ae 0)) (ig (Ts:="list") T.b_isinstance T.b_list (ae 1)))))) (aP (bb (gY))) (cy)) (aD (dz (nY (jg hr) (cV T.b_len (ae 0)) (cV T.b_len (ae 1))) (aP (bb (gY))) (cy)) (aP (bb (vp rfl T.b_all (aQ (iY (t:=fi F0) (m:=fj F0) (pV (Nc:=["_law_one","_law_other"]) (js:=[none,none]) (av (top 42)) ["_law_found","_law_due"] (fun _=>rfl) rfl (by decide+kernel)) rfl (wX T.b_zip (ae 0) (ae 1)) (fun C ex s2 H2=>⟨kB rfl (bR (aY 0 (show(["_law_one","_law_other"]:List Str).Nodup by decide+kernel)) (bR (aY 1 (show(["_law_one","_law_other"]:List Str).Nodup by decide+kernel)) (gn))),g0,aQ (aO Z (hr.mono (JK _)) (af (ae 0) (af (ae 1) (aj) au) au))⟩)))))))) (cy)) (aP (bb (kz (tJ (jg hr) (ae 0) (ae 1)) (ky (tJ (jg hr) (ig (Ts:="bool") T.b_isinstance T.b_bool (ae 0)) (ig (Ts:="bool") T.b_isinstance T.b_bool (ae 1)))))))
theorem km(F:Fun K "_law_same" "_law_same" (top 42) f fd)(hm:mg "_law_same"=some (.ref f))(T:Txt K mg):∀ n,DefX P w K mg base (1+n) "_law_same" ["_law_found","_law_due"] (bC n)
 |0=>DefX.none F hm (F.binds fun _ _ _ _ _ _ us hl=>match us,hl with|[_,_],_=>rfl)
 |n+1=>qd F hm T (km F hm T n)
theorem sV(F:Fun K "_law_same" "_law_same" (top 42) f fd)(hm:mg "_law_same"=some (.ref f))(T:Txt K mg):DefX P w K mg base 7 "_law_same" ["_law_found","_law_due"] cu:=km F hm T 6
end
section
variable {P:Program}{w:World}{K:W.Frag}{mg:Str->Option Value}{base:Heap}
theorem m5(F:Fun K "_law_refused" "_law_refused" (top 41) f fd)(hm:mg "_law_refused"=some (.ref f))(T:Txt K mg):RefX P w K mg 9 8 "_law_refused" ["_law_call"] bg:=
 AC (m:=fq) F hm (F.binds fun _ _ _ _ _ _ us hl=>match us,hl with|[_],_=>rfl) bN rfl fun base G a c2 ql ds vs mm L cdv A outer s H E hr=>
  aD (bA 1 bN.nd (ku) (hs:=mF)) (aD (Fq rfl rfl L (hr.mono (by decide)) bN.nd T.err G rfl (.inl rfl) rfl rfl rfl rfl rfl) (aD (bA 3 bN.nd (aQ (bE (af (dY T.err (by decide) G T.b_isinstance (ae 1)) (af (dY T.err (by decide) G T.b_isinstance (ae 1)) (af (dY T.err (by decide) G T.b_isinstance (ae 1)) (aj) aS) aS) aS))) (hs:=gu)) (aD (bA 3 bN.nd (aQ (cU (ae 3) (aQ (bE (af (dY T.err (by decide) G T.b_isinstance (ae 1)) (af (dY T.err (by decide) G T.b_isinstance (ae 1)) (af (dY T.err (by decide) G T.b_isinstance (ae 1)) (aj) aS) aS) aS))))) (hs:=dg)) (aD (bA 3 bN.nd (aQ (cU (ae 3) (aQ (bE (af (dY T.err (by decide) G T.b_isinstance (ae 1)) (af (dY T.err (by decide) G T.b_isinstance (ae 1)) (af (dY T.err (by decide) G T.b_isinstance (ae 1)) (aj) aS) aS) aS))))) (hs:=dg)) (aD (bA 3 bN.nd (aQ (cU (ae 3) (aQ (bE (af (dY T.err (by decide) G T.b_isinstance (ae 1)) (af (dY T.err (by decide) G T.b_isinstance (ae 1)) (af (dY T.err (by decide) G T.b_isinstance (ae 1)) (aj) aS) aS) aS))))) (hs:=dg)) (aD (bA 3 bN.nd (aQ (cU (ae 3) (aQ (bE (af (dY T.err (by decide) G T.b_isinstance (ae 1)) (aj) aS))))) (hs:=dg)) (aD (dz (iW (f9 (Cv T.err T.b_isinstance T.b_ValueError (ae 1)))) (aP (bb (ku))) (cy)) (aP (bb (aQ (iY (t:=dE) (m:=dF) (pV (Nc:=["_law_k","_law_marks"]) (js:=[none,some 3]) (av (top 41)) ["_law_call","_law_error","e","_law_marks"] (fun _=>rfl) rfl (by decide+kernel)) rfl (dU T.b_range (aw)) (fun C ex s2 H2=>⟨aY 0 (show(["_law_k","_law_marks"]:List Str).Nodup by decide+kernel),m9 (f9 (aI (ae 1) (ae 0))),ae 0⟩))))))))))))
end
section
variable {P:Program}{w:World}{K:W.Frag}{mg:Str->Option Value}{base:Heap}
theorem lD(F:Fun K "_law_too_great" "_law_too_great" (top 43) f fd)(hm:mg "_law_too_great"=some (.ref f))(T:Txt K mg)(Z:RefX P w K mg 9 8 "_law_refused" ["_law_call"] bg)(cI:∀ f c es,bg f c es=a8 c es)(Y:∀ base,Mod K mg base->DefX P w K mg base 7 "_law_same" ["_law_found","_law_due"] cu):RefX P w K mg 10 8 "_law_too_great" ["_law_call","_law_many","_law_most"] bq:=
 AC (m:=d7) F hm (F.binds fun _ _ _ _ _ _ us hl=>match us,hl with|[_,_,_],_=>rfl) fD rfl fun base G a c2 ql ds vs mm L cdv A outer s H E hr=>
  aD (bA 3 fD.nd (ku) (hs:=mF)) (aD (CQ (cx:="TooGreat") (by decide) rfl rfl L (hr.mono (by decide)) fD.nd T.err G rfl (.inl rfl) rfl rfl rfl rfl rfl) (aD (dz (vj (nV (G7 (ae 3) (ku)) (lO (nY (jg hr) (aQ (CS Z cI G L (hr.mono (by decide)) (ae 0) (aj))) (aQ (bE (af (aw) (aj) aF))))))) (aP (bb (gY))) (cy)) (aP (bb (aQ (aO (Y _ G) (hr.mono (by decide)) (af (aQ (bE (af (CM T.err T.dk (ae 3)) (af (CN T.err T.dk (ae 3)) (aj) lj) lj))) (af (aQ (bE (af (ae 1) (af (ae 2) (aj) au) au))) (aj) lg) lg)))))))
end
theorem yQ{P:Program}{w:World}{K:W.Frag}{mg:Str->Option Value}{base:Heap}{f c Pt:Addr}{fd:FuncData}(F:Fun K "law" "law" (top 46) f fd)(T:Txt K mg)(G:Mod K mg base)(BL:BaseL K mg base)(TI:se K)(hx:W.nsIn K mainGlobals "law"=some (some (.ref f)))(b5:W.tabIn K "law"=some (c,Pt))(Z:∀ base,Mod K mg base->DefX P w K mg base 7 "end_web" ["web"] du)(b0:∀ base,Mod K mg base->DefX P w K mg base 2 "_law_state" ["_law_script","_law_k"] fe)(U:∀ base,Mod K mg base->DefX P w K mg base 1 "_law_take" ["_law_state_here","_law_many"] aq)(O:∀ base,Mod K mg base->DefX P w K mg base 3 "_law_few_ties" ["_law_state_here","_law_most"] a9)(b1:∀ base,Mod K mg base->DefX P w K mg base 2 "_law_drawn" ["_law_state_here","_law_many","_law_often"] bB)(b4:∀ base,Mod K mg base->DefX P w K mg base 4 "_law_web" ["_law_state_here","_law_most"] dO)(a6:RefX P w K mg 9 8 "_law_refused" ["_law_call"] bg)(cI:∀ f c es,bg f c es=a8 c es)(b2:∀ base,Mod K mg base->DefX P w K mg base 7 "_law_same" ["_law_found","_law_due"] cu)(Y:RefX P w K mg 10 8 "_law_too_great" ["_law_call","_law_many","_law_most"] bq)(fB:∀ f c es,bq f c es=bW c es)(a4:∀ base,Mod K mg base->DefX P w K mg base 2 "_law_bad_web" ["_law_state_here"] dN)(b3:∀ base,Mod K mg base->DefX P w K mg base 1 "_law_ends" ["_law_web_here"] eW):FnOk P w K mg base (j9 P w) 11 f fd ["_law_script"] (Au K qN):=
 Ft (m:=A5) F mr rfl hx b5 fun A outer s H E hr=>
  aD (gF (b:=jK) KP rfl (dU T.b_range (rK rfl T.b_max (af (aw) (af (rL rfl T.b_min (af (cV T.b_len (ae 0)) (af (aw) (aj) aF) aS)) (aj) aS) aF))) (aY 1 mr.nd) (aD (bA 2 mr.nd (aO (b0 _ G) (hr.mono (by decide)) (af (ae 0) (af (ae 1) (aj) au) au)) (hs:=gv)) (aD (bA 3 mr.nd (bZ (af (aw) (af (e9 T.b_tuple (aQ (iY (t:=iM) (m:=iN) (pV (Nc:=["_law_k","_law_state_here"]) (js:=[none,some 2]) (av (top 46)) ["_law_script","_law_k","_law_state_here","_law_wide","_law_web_here","_law_bad"] (fun _=>rfl) rfl (by decide+kernel)) rfl (dU T.b_range (aQ (aO (U _ G) (hr.mono (by decide)) (af (ae 2) (af (aw) (aj) aF) au)))) (fun C ex s2 H2=>⟨aY 0 (show(["_law_k","_law_state_here"]:List Str).Nodup by decide+kernel),g0,bZ (af (ae 0) (af (cU (cU (ae 0) (aw)) (aQ (aO (U _ G) (hr.mono (by decide)) (af (ae 1) (af (aw) (aj) aF) au)))) (aj) jA) au)⟩)))) (aj) aS) aF)) (hs:=AG)) (aD (gF (b:=jJ) KP rfl (lU (aQ (bE (by (refine a7 (aQ (aO (O _ G) (hr.mono (by decide)) (af (ae 2) (af (aw) (aj) aF) au))) ?_ aS;refine a7 (aQ (aO (b4 _ G) (hr.mono (by decide)) (af (ae 2) (af (aw) (aj) aF) au))) ?_ aS;refine a7 (ae 3) ?_ au;refine a7 (aQ (aO (b1 _ G) (hr.mono (by decide)) (af (ae 2) (af (aw) (af (aw) (aj) aF) aF) au))) ?_ aS;exact aj))))) (aY 4 mr.nd) (aP (dz (zO (cV T.b_len (aI (ae 4) (aw))) (aw)) (aP (dz (iW (f9 (aQ (AA (ql:="law.<locals>.<lambda>") (m:=oW) (xl:="law") Y fB (hr.mono (by decide)) (fun _=>rfl) (by decide) b5 rfl rfl rfl BL TI rfl (Hh (N3:=["_law_web_here"]) (js:=[4]) (av (top 46)) ["_law_script","_law_k","_law_state_here","_law_wide","_law_web_here","_law_bad"] (fun _=>rfl) rfl (by decide+kernel)) (af (cV T.b_len (aI (ae 4) (aw))) (af (aw) (aj) aF) aS) (fun _ _ _ _=>rfl) (fun c0 G2 f2 c2 c4 A2 b6 s2 H2 c3 c1=>aQ (jB (Z _ G2) (c1.mono (by decide)) oG.pass (af (ae 0) (aj) au))))))) (aP (bb (gY))) (cy))) (aP (dz (iW (f9 (aQ (aO (b2 _ G) (hr.mono (by decide)) (af (aQ (aO (Z _ G) (hr.mono (by decide)) (af (ae 4) (aj) au))) (af (aQ (aO (b3 _ G) (hr.mono (by decide)) (af (ae 4) (aj) au))) (aj) aS) aS))))) (aP (bb (gY))) (cy)))))) (aD (bA 5 mr.nd (aQ (aO (a4 _ G) (hr.mono (by decide)) (af (ae 2) (aj) au))) (hs:=gv)) (aP (dz (nY (jg hr) (aQ (AA (ql:="law.<locals>.<lambda>") (m:=oX) (xl:="law") a6 cI (hr.mono (by decide)) (fun _=>rfl) (by decide) b5 rfl rfl rfl BL TI rfl (Hh (N3:=["_law_bad"]) (js:=[5]) (av (top 46)) ["_law_script","_law_k","_law_state_here","_law_wide","_law_web_here","_law_bad"] (fun _=>rfl) rfl (by decide+kernel)) (aj) (fun _ _ _ _=>rfl) (fun c0 G2 f2 c2 c4 A2 b6 s2 H2 c3 c1=>aQ (jB (Z _ G2) (c1.mono (by decide)) oG.pass (af (ae 0) (aj) au))))) (aQ (bE (af (aw) (aj) aF)))) (aP (bb (gY))) (cy)))))))) (aP (bb (gY)))
def DP:Stmt:=Hm (top 14)
theorem Dq:FnScope ["self","many","most"] ["self","many","most"] (av DP):=⟨rfl,rfl,rfl,by decide+kernel,rfl,by decide+kernel,by decide+kernel⟩
abbrev lP:Program:=PySem.Challenge.rw_tiewebs_k71_end_webs.prog
abbrev kW(w:World):W.Frag:=KH.K0 w.params
theorem fk{K:W.Frag}{f c:Addr}{m:Value}(x q:Str)(st:Stmt)(l:K.lookup f=some ⟨.type "function",none,.func (W.fnOf x q (gX st) (c9 st) (av st) .none .none .none m none (.ref c) .none), #[]⟩)(h:W.codeIn K (.ref c) q=true)(k:W.keepIn K (.ref f)=true):Fun K x q st f (W.fnOf x q (gX st) (c9 st) (av st) .none .none .none m none (.ref c) .none):=ED l h k
abbrev nK(w:World)(x:Str):Option (Option Value):=W.nsIn (kW w) mainGlobals x
theorem JE(w:World)(mg:Str->Option Value)(fa:Addr)(h:Heap)(X:(kW w).In h)(G:h.Ns mainGlobals mg)(m2:mg "law"=some (.ref fa)):∃ fd:FuncData,(∀(s:Shared) (u:Value),BindsTo s fd ⟨[u],[]⟩ [("_law_script",u)])/\∀ base:Heap,Mod (kW w) mg base->BaseL (kW w) mg base->FnOk lP w (kW w) mg base (j9 lP w) 11 fa fd ["_law_script"] (Au (kW w) qN):=by
 have aG:nK w "TooGreat"=some (some (.ref 188)):=by kernel_rfl
 have e4:j3 (kW w) 188 185=true:=by kernel_rfl
 have FG:=@fk (kW w) 185 184 (KH.zs "tiewebs.errors" 187) "__init__" "TooGreat.__init__" DP (by kernel_rfl) (by kernel_rfl) (by kernel_rfl)
 have o4:nK w "is_whole"=some (some (.ref 197)):=by kernel_rfl
 have e8:=@fk (kW w) 197 196 (KH.zs "tiewebs.webs" 426) "is_whole" "is_whole" (top 17) (by kernel_rfl) (by kernel_rfl) (by kernel_rfl)
 have i1:nK w "is_pair"=some (some (.ref 204)):=by kernel_rfl
 have o3:=@fk (kW w) 204 203 (KH.zs "tiewebs.webs" 426) "is_pair" "is_pair" (top 18) (by kernel_rfl) (by kernel_rfl) (by kernel_rfl)
 have l4:nK w "is_place"=some (some (.ref 211)):=by kernel_rfl
 have m3:=@fk (kW w) 211 210 (KH.zs "tiewebs.webs" 426) "is_place" "is_place" (top 19) (by kernel_rfl) (by kernel_rfl) (by kernel_rfl)
 have m1:nK w "is_tie"=some (some (.ref 218)):=by kernel_rfl
 have k7:=@fk (kW w) 218 217 (KH.zs "tiewebs.webs" 426) "is_tie" "is_tie" (top 20) (by kernel_rfl) (by kernel_rfl) (by kernel_rfl)
 have o2:nK w "is_rising"=some (some (.ref 223)):=by kernel_rfl
 have g8:=@fk (kW w) 223 222 (KH.zs "tiewebs.webs" 426) "is_rising" "is_rising" (top 21) (by kernel_rfl) (by kernel_rfl) (by kernel_rfl)
 have g4:nK w "is_web"=some (some (.ref 228)):=by kernel_rfl
 have g6:=@fk (kW w) 228 227 (KH.zs "tiewebs.webs" 426) "is_web" "is_web" (top 22) (by kernel_rfl) (by kernel_rfl) (by kernel_rfl)
 have h6:nK w "need_web"=some (some (.ref 235)):=by kernel_rfl
 have o1:=@fk (kW w) 235 234 (KH.zs "tiewebs.webs" 426) "need_web" "need_web" (top 23) (by kernel_rfl) (by kernel_rfl) (by kernel_rfl)
 have n7:nK w "pairs_of"=some (some (.ref 240)):=by kernel_rfl
 have n1:=@fk (kW w) 240 239 (KH.zs "tiewebs.webs" 426) "pairs_of" "pairs_of" (top 24) (by kernel_rfl) (by kernel_rfl) (by kernel_rfl)
 have p0:nK w "need_few_ties"=some (some (.ref 247)):=by kernel_rfl
 have l3:=@fk (kW w) 247 246 (KH.zs "tiewebs.ties" 487) "need_few_ties" "need_few_ties" (top 27) (by kernel_rfl) (by kernel_rfl) (by kernel_rfl)
 have k8:nK w "ends_touch"=some (some (.ref 254)):=by kernel_rfl
 have n2:=@fk (kW w) 254 253 (KH.zs "tiewebs.midsts" 498) "ends_touch" "ends_touch" (top 29) (by kernel_rfl) (by kernel_rfl) (by kernel_rfl)
 have h5:nK w "end_web"=some (some (.ref 259)):=by kernel_rfl
 have h9:=@fk (kW w) 259 258 (KH.zs "tiewebs.midsts" 498) "end_web" "end_web" (top 30) (by kernel_rfl) (by kernel_rfl) (by kernel_rfl)
 have n3:nK w "_law_cell_at"=some (some (.ref 266)):=by kernel_rfl
 have j1:=@fk (kW w) 266 265 (KH.zs "law_tiewebs_k71_end_webs" 514) "_law_cell_at" "_law_cell_at" (top 32) (by kernel_rfl) (by kernel_rfl) (by kernel_rfl)
 have l0:nK w "_law_state"=some (some (.ref 273)):=by kernel_rfl
 have h3:=@fk (kW w) 273 272 (KH.zs "law_tiewebs_k71_end_webs" 514) "_law_state" "_law_state" (top 33) (by kernel_rfl) (by kernel_rfl) (by kernel_rfl)
 have e5:nK w "_law_take"=some (some (.ref 280)):=by kernel_rfl
 have l6:=@fk (kW w) 280 279 (KH.zs "law_tiewebs_k71_end_webs" 514) "_law_take" "_law_take" (top 34) (by kernel_rfl) (by kernel_rfl) (by kernel_rfl)
 have j0:nK w "_law_mixed"=some (some (.ref 287)):=by kernel_rfl
 have i0:=@fk (kW w) 287 286 (KH.zs "law_tiewebs_k71_end_webs" 514) "_law_mixed" "_law_mixed" (top 35) (by kernel_rfl) (by kernel_rfl) (by kernel_rfl)
 have k4:nK w "_law_few_ties"=some (some (.ref 294)):=by kernel_rfl
 have l1:=@fk (kW w) 294 293 (KH.zs "law_tiewebs_k71_end_webs" 514) "_law_few_ties" "_law_few_ties" (top 36) (by kernel_rfl) (by kernel_rfl) (by kernel_rfl)
 have j2:nK w "_law_drawn"=some (some (.ref 299)):=by kernel_rfl
 have n9:=@fk (kW w) 299 298 (KH.zs "law_tiewebs_k71_end_webs" 514) "_law_drawn" "_law_drawn" (top 37) (by kernel_rfl) (by kernel_rfl) (by kernel_rfl)
 have f5:nK w "_law_made"=some (some (.ref 306)):=by kernel_rfl
 have f6:=@fk (kW w) 306 305 (KH.zs "law_tiewebs_k71_end_webs" 514) "_law_made" "_law_made" (top 38) (by kernel_rfl) (by kernel_rfl) (by kernel_rfl)
 have l2:nK w "_law_named"=some (some (.ref 313)):=by kernel_rfl
 have i2:=@fk (kW w) 313 312 (KH.zs "law_tiewebs_k71_end_webs" 514) "_law_named" "_law_named" (top 39) (by kernel_rfl) (by kernel_rfl) (by kernel_rfl)
 have g7:nK w "_law_web"=some (some (.ref 318)):=by kernel_rfl
 have e7:=@fk (kW w) 318 317 (KH.zs "law_tiewebs_k71_end_webs" 514) "_law_web" "_law_web" (top 40) (by kernel_rfl) (by kernel_rfl) (by kernel_rfl)
 have f3:nK w "_law_refused"=some (some (.ref 323)):=by kernel_rfl
 have n0:=@fk (kW w) 323 322 (KH.zs "law_tiewebs_k71_end_webs" 514) "_law_refused" "_law_refused" (top 41) (by kernel_rfl) (by kernel_rfl) (by kernel_rfl)
 have h4:nK w "_law_same"=some (some (.ref 328)):=by kernel_rfl
 have h7:=@fk (kW w) 328 327 (KH.zs "law_tiewebs_k71_end_webs" 514) "_law_same" "_law_same" (top 42) (by kernel_rfl) (by kernel_rfl) (by kernel_rfl)
 have o5:nK w "_law_too_great"=some (some (.ref 335)):=by kernel_rfl
 have l5:=@fk (kW w) 335 334 (KH.zs "law_tiewebs_k71_end_webs" 514) "_law_too_great" "_law_too_great" (top 43) (by kernel_rfl) (by kernel_rfl) (by kernel_rfl)
 have l7:nK w "_law_bad_web"=some (some (.ref 342)):=by kernel_rfl
 have g5:=@fk (kW w) 342 341 (KH.zs "law_tiewebs_k71_end_webs" 514) "_law_bad_web" "_law_bad_web" (top 44) (by kernel_rfl) (by kernel_rfl) (by kernel_rfl)
 have h8:nK w "_law_ends"=some (some (.ref 349)):=by kernel_rfl
 have k6:=@fk (kW w) 349 348 (KH.zs "law_tiewebs_k71_end_webs" 514) "_law_ends" "_law_ends" (top 45) (by kernel_rfl) (by kernel_rfl) (by kernel_rfl)
 have e3:nK w "law"=some (some (.ref 354)):=by kernel_rfl
 have e6:=@fk (kW w) 354 353 (KH.zs "law_tiewebs_k71_end_webs" 514) "law" "law" (top 46) (by kernel_rfl) (by kernel_rfl) (by kernel_rfl)
 obtain⟨⟨ct,Pt⟩,e0⟩:=KY.mp (show(W.tabIn (kW w) "law").isSome=true by kernel_rfl)
 have e:=m2.symm.trans (J0 X G e3);cases e;have T:Txt (kW w) mg:=⟨by kernel_rfl,by kernel_rfl,Ki X G (by kernel_rfl),Ki X G (by kernel_rfl),Ki X G (by kernel_rfl),Ki X G (by kernel_rfl),Ki X G (by kernel_rfl),Ki X G (by kernel_rfl),Ki X G (by kernel_rfl),Ki X G (by kernel_rfl),Ki X G (by kernel_rfl),Ki X G (by kernel_rfl),Ki X G (by kernel_rfl),Ki X G (by kernel_rfl),Ki X G (by kernel_rfl),Ki X G (by kernel_rfl),Ki X G (by kernel_rfl),⟨428,J0 X G (by kernel_rfl)⟩,⟨489,J0 X G (by kernel_rfl)⟩⟩
 have GR:∀ base,GrX lP w (kW w) mg base:=fun base=>AX FG X T.err aG e4 Dq (by decide+kernel) (FG.binds fun _ _ _ _ _ _ us hl=>match us,hl with|[_,_,_],_=>rfl) rfl
 refine⟨W.fnOf "law" "law" (gX (top 46)) (c9 (top 46)) (av (top 46)) .none .none .none (KH.zs "law_tiewebs_k71_end_webs" 514) none (.ref 353) .none,fun s v=>.of_eq rfl,fun base GM BL=>?_⟩;have b2:∀ base,Mod (kW w) mg base->DefX lP w (kW w) mg base 1 "is_whole" ["thing"] cz:=fun base GB=>uN e8 (J0 X G o4) T;have b5:∀ base,Mod (kW w) mg base->DefX lP w (kW w) mg base 1 "is_pair" ["thing"] cW:=fun base GB=>v9 o3 (J0 X G i1) T;have c3:∀ base,Mod (kW w) mg base->DefX lP w (kW w) mg base 1 "is_rising" ["things"] eU:=fun base GB=>sR g8 (J0 X G o2) T;have c5:∀ base,Mod (kW w) mg base->DefX lP w (kW w) mg base 1 "pairs_of" ["many"] dJ:=fun base GB=>uO n1 (J0 X G n7) T;have c0:∀ base,Mod (kW w) mg base->DefX lP w (kW w) mg base 1 "ends_touch" ["one","other"] d4:=fun base GB=>pY n2 (J0 X G k8) T;have b4:∀ base,Mod (kW w) mg base->DefX lP w (kW w) mg base 1 "_law_cell_at" ["_law_script","_law_k"] cX:=fun base GB=>mZ j1 (J0 X G n3) T;have Z:∀ base,Mod (kW w) mg base->DefX lP w (kW w) mg base 1 "_law_take" ["_law_state_here","_law_many"] aq:=fun base GB=>sS l6 (J0 X G e5) T;have c4:∀ base,Mod (kW w) mg base->DefX lP w (kW w) mg base 1 "_law_made" ["_law_web_here"] eV:=fun base GB=>sT f6 (J0 X G f5) T;have c1:∀ base,Mod (kW w) mg base->DefX lP w (kW w) mg base 1 "_law_named" ["_law_web_here","_law_names"] d5:=fun base GB=>pZ i2 (J0 X G l2) T;have c2:∀ base,Mod (kW w) mg base->DefX lP w (kW w) mg base 1 "_law_ends" ["_law_web_here"] eW:=fun base GB=>sU k6 (J0 X G h8) T;have d0:∀ base,Mod (kW w) mg base->DefX lP w (kW w) mg base 2 "is_place" ["many","thing"] fN:=fun base GB=>uP m3 (J0 X G l4) T (b2 base GB);have b6:∀ base,Mod (kW w) mg base->DefX lP w (kW w) mg base 2 "_law_state" ["_law_script","_law_k"] fe:=fun base GB=>p9 h3 (J0 X G l0) T (b4 base GB);have a4:∀ base,Mod (kW w) mg base->DefX lP w (kW w) mg base 2 "_law_mixed" ["_law_state_here","_law_many"] bL:=fun base GB=>qb i0 (J0 X G j0) T (Z base GB);have O:∀ base,Mod (kW w) mg base->DefX lP w (kW w) mg base 2 "_law_drawn" ["_law_state_here","_law_many","_law_often"] bB:=fun base GB=>qc n9 (J0 X G j2) T (Z base GB);have b3:∀ base,Mod (kW w) mg base->DefX lP w (kW w) mg base 2 "_law_bad_web" ["_law_state_here"] dN:=fun base GB=>m4 g5 (J0 X G l7) T (Z base GB);have d3:∀ base,Mod (kW w) mg base->DefX lP w (kW w) mg base 3 "is_tie" ["many","thing"] jI:=fun base GB=>yO k7 (J0 X G m1) T (b5 base GB) (d0 base GB);have Y:∀ base,Mod (kW w) mg base->DefX lP w (kW w) mg base 3 "_law_few_ties" ["_law_state_here","_law_most"] a9:=fun base GB=>mw l1 (J0 X G k4) T (Z base GB) (a4 base GB);have d2:∀ base,Mod (kW w) mg base->DefX lP w (kW w) mg base 4 "is_web" ["thing"] iK:=fun base GB=>yP g6 (J0 X G g4) T (b2 base GB) (b5 base GB) (d3 base GB) (c3 base GB);have c6:∀ base,Mod (kW w) mg base->DefX lP w (kW w) mg base 4 "_law_web" ["_law_state_here","_law_most"] dO:=fun base GB=>uQ e7 (J0 X G g7) T (Z base GB) (a4 base GB) (Y base GB) (O base GB) (c4 base GB) (c1 base GB);have c7:∀ base,Mod (kW w) mg base->DefX lP w (kW w) mg base 5 "need_web" ["thing"] eQ:=fun base GB=>uR o1 (J0 X G h6) T (d2 base GB);have b1:∀ base,Mod (kW w) mg base->DefX lP w (kW w) mg base 6 "need_few_ties" ["web"] cf:=fun base GB=>mx l3 (J0 X G p0) T (GR base) (c7 base GB);have d1:∀ base,Mod (kW w) mg base->DefX lP w (kW w) mg base 7 "end_web" ["web"] du:=fun base GB=>wa h9 (J0 X G h5) T (c5 base GB) (b1 base GB) (c0 base GB);have a6:∀ base,Mod (kW w) mg base->DefX lP w (kW w) mg base 7 "_law_same" ["_law_found","_law_due"] cu:=fun base GB=>sV h7 (J0 X G h4) T;have U:RefX lP w (kW w) mg 9 8 "_law_refused" ["_law_call"] bg:=m5 n0 (J0 X G f3) T;have b0:RefX lP w (kW w) mg 10 8 "_law_too_great" ["_law_call","_law_many","_law_most"] bq:=lD l5 (J0 X G o5) T U cI a6;exact yQ e6 T GM BL (Fs (show DB (kW w)=true by kernel_rfl)) e3 e0 d1 b6 Z Y O c6 U cI a6 b0 fB b3 c2
end W
section
namespace W
open PySem PySem.Spec PyProof.Rows L2 S3 S4 S7
theorem F6(K:W.Frag)(H:Hp)(a:Addr)(ns:List Int)(hT:TabsOk K H)(Z:BB K H a (ns.map V.int)):Au K qN [.ref a] H (fun v _=>v= .bl true) fun _ _ _=>False:=by
 obtain⟨d,S',e,hd⟩:=HE (S:=[]) (ns:=ns);refine⟨[],[],[.ro (ns.map D.int)],⟨.nil,rfl,(fun k a xs h=>by cases h),hT⟩,.cons (.ro Z (n5 ns)) .nil,?_⟩
 refine⟨.ok d,S',e,fun ι' H' _ _=>?_⟩;subst hd;intro v hv;cases hv;rfl
theorem walk{l:W.OpenLaw}{q:Program}{loose:List Str}{XP:(Str->Option Value)->Heap->Prop}{YP:World->Heap->Prop}{d:DefRec}{K:Params->W.Frag}(hn:l.most=some 63)(Y:d.params.defaults=[])
  (hY:∀(w:World) (h:Heap),YP w h->(K w.params).In h) (nt:∀ w:World,W.noTabs (K w.params)=true)
  (Z:∀(w:World) (h:Heap),YP w h->∀ y∈cm,∀ c Q,W.tabIn (K w.params) y=some (c,Q)->W.CodeHd h c Q/\h.get? Q=some (W.tabObj #[]))
  (F:∀(w:World) (mg:Str->Option Value) (fa:Addr) (h:Heap),(K w.params).In h->h.Ns mainGlobals mg->mg d.name=some (.ref fa)->
   ∃ fd:FuncData,(∀(s:Shared) (u:Value),BindsTo s fd ⟨[u],[]⟩ [("_law_script",u)])/\∀ base:Heap,Mod (K w.params) mg base->BaseL (K w.params) mg base->FnOk l.prog w (K w.params) mg base (j9 l.prog w) 11 fa fd ["_law_script"] (Au (K w.params) qN)):
  W.WalkO q loose XP YP l.row.toRowW d [] (fun f vs=>PySem.call f vs):=
 AB (n:=63) (k:=11) (x:="_law_script") (sp:=fun w=>Au (K w.params) qN) hn (by decide) Y ⟨rfl,by decide,by decide⟩ hY nt Z F fun w H a ns _ hO hS=>F6 (K w.params) H a ns hO hS
end W
open PySem PySem.W PyProof.Rows
set_option maxRecDepth 100000 in
set_option maxHeartbeats 0 in
theorem PySem.Challenge.cw_tiewebs_k71_end_webs_holds : PySem.Challenge.rw_tiewebs_k71_end_webs.Holds := by
 w_on;o_law
 refine holds_open (q:=KH.vq) (loose:=[]) (Xt:=KH.Xt0) (XP:=XL KH.vq []) (Yf:=Hook.obs (kmHook KH.K0 KH.as0 KH.as0_eq KH.ts0)) (Ya:=Hook.val (kmHook KH.K0 KH.as0 KH.as0_eq KH.ts0)) (YP:=Hook.says (kmHook KH.K0 KH.as0 KH.as0_eq KH.ts0)) (N:=7768) KH.left0 (Hook.of (kmHook KH.K0 KH.as0 KH.as0_eq KH.ts0)) (Hook.keeps (kmHook KH.K0 KH.as0 KH.as0_eq KH.ts0)) (fun s e=>xl_of s (L4.mp e).1) XL.keeps (by rfl) (by rfl) (by rfl) (fun s e=>recFacts_of (L4.mp e).2) (by rfl) (by first|assumption|decide+kernel) (by decide+kernel) ⟨rfl,rfl,rfl,rfl,rfl,by decide+kernel⟩ ?hw ?hc
 case hw=>w_witness2
 refine W.walk (l:=PySem.Challenge.rw_tiewebs_k71_end_webs) rfl rfl (fun w h Y=>PySem.W.km_in_of Y) ?nt (fun w h Y=>S7.IY (w:=w) ?ck Y) W.JE
 case nt=>intro w;kernel_rfl
 case ck=>kernel_rfl
end
