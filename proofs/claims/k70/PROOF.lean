import PyProof.Rows.All
import Wide.All
import OpenK.AllK
import Wide.FinOn
import PySem.Challenge.RW_tiewebs_k70_midst_and_whole_webs
import Lean
import PyProof.EqAt
import PyProof.EqKinds
import PyProof.TupleCall
import PyProof.SetScanFacts
import PyProof.EnumMake
import PyProof.Draws
import PyProof.ExcInit
import PyProof.ExcClass3
import PyProof.InstStore
import KE.KUnpack
set_option Elab.async false
set_option compiler.extract_closed false
set_option linter.all false
set_option maxRecDepth 100000
set_option maxHeartbeats 8000000
noncomputable section
abbrev Kv:=@PySem.wpAny_bind
abbrev Kw:=@PySem.Heap.get?_push_of_some
abbrev Kx:=@List.length_map
abbrev Ky:=@PySem.wpAny_pure
abbrev Kz:=@Nat.le_refl
abbrev KB:=@List.getElem?_eq_getElem
abbrev KC:=@List.getElem?_eq_some_iff
abbrev KD:=@List.length_append
abbrev KF:=@PySem.Heap.lt_size
abbrev KG:=@PySem.Heap.get?_push_size
abbrev KI:=@Array.getElem?_eq_getElem
abbrev KJ:=@List.mem_cons_of_mem
abbrev KL:=@Nat.ne_of_lt
abbrev KN:=@List.size_toArray
abbrev KO:=@List.getD_eq_getElem?_getD
abbrev KP:=@Nat.le_trans
abbrev KQ:=@Nat.lt_of_lt_of_le
abbrev KR:=@List.mem_cons_self
abbrev KS:=@List.mem_range
abbrev KU:=@decide_eq_true
abbrev KW:=@PySem.W.mg_of
abbrev KY:=@List.length_cons
abbrev KZ:=@List.mem_append_right
abbrev K1:=@List.getElem?_map
abbrev K2:=@List.mem_cons
abbrev K3:=@List.map_cons
abbrev K4:=@List.mem_map
abbrev K5:=@Nat.zero_le
abbrev K6:=@Option.some.inj
abbrev K7:=@Array.getElem?_eq_some_iff
abbrev K8:=@List.getElem?_set_self
abbrev K9:=@List.append_assoc
abbrev La:=@PySem.wpAny_mono
abbrev Lc:=@Array.getElem?_toList
abbrev Ld:=@PySem.W.mg_none_of
abbrev Le:=@List.mem_of_getElem?
abbrev Lf:=@List.all_eq_true
abbrev Lg:=@List.append_nil
abbrev Lh:=@List.lookup_cons
abbrev Li:=@List.getElem?_append_left
abbrev Lj:=@Array.getD_eq_getD_getElem?
abbrev Lk:=@PySem.Heap.get?_update_other
abbrev Ll:=@List.map_map
abbrev Lm:=@PySem.wpAny_holding
abbrev Ln:=@PySem.wpAny_newObj_type
abbrev Lo:=@Int.toNat_natCast
abbrev Lp:=@List.length_range
abbrev Lq:=@decide_eq_true_eq
abbrev Lr:=@decide_eq_false
abbrev Ls:=@List.pairwise_cons
abbrev Lu:=@List.map_append
abbrev Lv:=@List.filterMap_cons
abbrev Lw:=@List.nodup_cons
abbrev Lx:=@of_decide_eq_true
abbrev Ly:=@congrFun
abbrev Lz:=@PySem.Heap.get?_update_self
abbrev LA:=@PySem.wpAny_standAt
abbrev LB:=@PySem.W.kia_one
abbrev LC:=@PySem.wpAny_call_entry
abbrev LD:=@List.flatMap_cons
abbrev LF:=@PySem.Heap.get?_none_of_le
abbrev LG:=@List.getElem?_set_ne
abbrev LH:=@PySem.wpAny_field
abbrev LJ:=@List.cons.inj
abbrev LK:=@PySem.sizeLine_eq
abbrev LL:=@List.getElem?_eq_none
abbrev LM:=@List.length_take
abbrev LN:=@PySem.Heap.size_push
abbrev LP:=@PySem.wpAny_truthy_bool
abbrev LQ:=@Nat.lt_succ_of_lt
abbrev LR:=@List.mem_range'_1
abbrev LS:=@List.mem_append
abbrev LU:=@PySem.PassesOwn.never
abbrev LV:=@List.getElem_mem
abbrev LW:=@Option.isSome_iff_exists
abbrev LX:=@PyProof.Rows.callWith_type1
abbrev LY:=@PySem.W.kia_tup
abbrev LZ:=@Int.eq_ofNat_of_zero_le
abbrev L3:=@List.map_nil
abbrev L4:=@Array.getElem?_eq_none
abbrev L5:=@PyProof.Rows.slot_tuple_getitem
abbrev L6:=@PySem.wpAny_setState_of
abbrev L7:=@PySem.Heap.SameBut.update
abbrev L8:=@PySem.wpAny_seqItems
abbrev L9:=@List.mem_filter
abbrev Ma:=@List.mem_filterMap
abbrev Mb:=@Bool.false_ne_true
abbrev Mc:=@PySem.wpAny_pyIter_tuple
abbrev Md:=@PySem.Obj.data_mapFields
abbrev Me:=@List.range'_eq_map_range
abbrev Mf:=@Bool.and_eq_true
abbrev Mg:=@List.mem_flatMap
abbrev Mh:=@Nat.lt_irrefl
abbrev Mi:=@Nat.ne_of_gt
abbrev Mj:=@PySem.F.slot_tuple_iterator_next
abbrev Ml:=@PySem.F.excBase_ValueError
abbrev Mm:=@Nat.le_of_lt
abbrev Mn:=@Bool.true_and
abbrev Mo:=@Int.zero_add
abbrev Mp:=@List.getElem?_toArray
abbrev Mq:=@List.Pairwise.sublist
abbrev Mr:=@PySem.wpAny_setField_rec
abbrev Ms:=@List.length_range'
abbrev Mt:=@PySem.Around.under_plainId
abbrev Mu:=@PySem.wpAny_passesOwn
abbrev Mv:=@PySem.AutoSeq1.wpAny_loadPart'
abbrev Mw:=@PySem.codeAny_mono
abbrev Mx:=@PySem.mem_of_lookup
abbrev My:=@Array.length_toList
abbrev Mz:=@List.Perm.nodup_iff
abbrev MA:=@PySem.Heap.get?_update_ne
abbrev MB:=@List.filter_cons_of_pos
abbrev MC:=@List.filter_cons_of_neg
abbrev MD:=@Nat.add_sub_cancel_left
abbrev ME:=@List.map_congr_left
abbrev MF:=@Nat.lt_succ_self
abbrev MG:=@Nat.le_add_right
abbrev MH:=@PySem.wpAny_askSetting
abbrev MI:=@PySem.wpAny_isInstance
abbrev MJ:=@Option.bind_some
abbrev MK:=@PySem.wpAny_setField
abbrev ML:=@PySem.Heap.size_after_update
abbrev MM:=@PySem.wpAny_Call_Name_kw
abbrev MN:=@Int.emod_lt_of_pos
abbrev MO:=@PySem.wpAny_execs_nil
abbrev MP:=@List.mem_iff_getElem?
abbrev MQ:=@PySem.codeAny_builtin
abbrev MR:=@PySem.Obj.isFreed_of_fields
abbrev MS:=@List.length_filter_le
abbrev MT:=@List.nil_append
abbrev MU:=@PySem.wpAny_attempt
abbrev MV:=@PySem.wpAny_loadPart_at
abbrev MW:=@List.getElem?_append_right
abbrev MX:=@List.mem_append_left
abbrev MY:=@Bool.and_eq_true_iff
abbrev MZ:=@Bool.false_and
abbrev M0:=@List.drop_eq_getElem_cons
abbrev M1:=@List.getElem?_zip_eq_some
abbrev M3:=@Nat.succ_le_succ
abbrev M4:=@Bool.not_eq_true
abbrev M5:=@Nat.le_succ
abbrev M6:=@List.getElem?_range
abbrev M7:=@Nat.add_sub_cancel'
abbrev M8:=@PySem.wpAny_rule
abbrev M9:=@PySem.F.args_tuple_add_2
abbrev Na:=@PySem.wpAny_typeOf
abbrev Nb:=@Nat.le_of_eq
abbrev Nd:=@Nat.succ_mul
abbrev Nf:=@List.Pairwise.imp_of_mem
abbrev Ng:=@List.of_mem_zip
abbrev Nh:=@PySem.F.entry_tuple_add
abbrev Ni:=@List.length_set
abbrev Nj:=@Array.Perm.refl
abbrev Nk:=@Int.emod_nonneg
abbrev Nl:=@List.mem_singleton
abbrev Nm:=@PyProof.Rows.F.plain_set_update_loop
abbrev Nn:=@List.getElem?_take
abbrev Np:=@List.any_cons
abbrev Nq:=@PySem.W.cellsFrom_some
abbrev Nr:=@PySem.F.slot_tuple_add
abbrev Nt:=@List.drop_eq_nil_of_le
abbrev Nu:=@List.range_succ_eq_map
abbrev Nv:=@List.take_of_length_le
abbrev Nw:=@PySem.wpAny_pyIter_list
abbrev Nx:=@PySem.W.kitx_list
abbrev Ny:=@PySem.W.kitx_dict
abbrev Nz:=@PySem.wpAny_call
abbrev NA:=@Nat.le_of_succ_le
abbrev NB:=@List.nodup_append
abbrev NC:=@List.ext_getElem?
abbrev ND:=@Prod.ext
abbrev NF:=@congrArg
abbrev NG:=@PySem.isSubtype_type
abbrev NH:=@PySem.isSubtype_stop
abbrev NI:=@List.length_singleton
abbrev NJ:=@PySem.builtinLookup_eq_fast
abbrev NK:=@PySem.wpAny_forIn_list
abbrev NL:=@PySem.wpAny_pyIter_zip
abbrev NM:=@Array.mem_toList_iff
abbrev NN:=@PySem.Calls.evalArgs_plain
abbrev NO:=@PySem.codeAny_call_builtin
abbrev NP:=@PySem.wpAny_updateSeq_pair
abbrev NQ:=@PySem.F.args_tuple_iterator_next_1
abbrev NR:=@PySem.codeAny_of_tree
abbrev NS:=@PySem.wpAny_setEntries_of
abbrev NT:=@PySem.F.entry_tuple_iterator_next
abbrev NU:=@PySem.F.slot_zip_next
abbrev NV:=@beq_false_of_ne
abbrev NW:=@List.filter_sublist
abbrev NX:=@PySem.Calls.Name_function_global
abbrev NY:=@List.length_eraseIdx_of_lt
abbrev NZ:=@List.perm_ext_iff_of_nodup
abbrev N0:=@PyProof.Rows.assignInOrder_cons
abbrev N1:=@Array.find?_toList
abbrev N4:=@List.zip_cons_cons
abbrev N5:=@Nat.lt_trans
abbrev N6:=@List.all_map
abbrev N7:=@List.getElem?_drop
abbrev N8:=@PySem.Code.quiet_builtin
abbrev N9:=@Classical.byContradiction
abbrev Oa:=@List.pairwise_iff_getElem
abbrev Ob:=@PySem.wpAny_letOwnedTupleGo_zip
abbrev Oc:=@PySem.W.kitx_none
abbrev Od:=@List.getElem?_take_of_lt
abbrev Oe:=@PyProof.Rows.intsAre_of
abbrev Og:=@Nat.mod_lt
abbrev Oh:=@Nat.lt_trichotomy
abbrev Oj:=@Bool.eq_false_iff
abbrev Ol:=@Array.getElem?_replicate
abbrev Om:=@PySem.Obj.cls_mapFields
abbrev On:=@PySem.wpAny_pyIter_enum
abbrev Oo:=@PySem.wpAny_Call_ofName
abbrev Os:=@PySem.plainId_quiet
abbrev Ot:=@PySem.wpAny_onRaise
abbrev Ou:=@List.pairwise_singleton
abbrev Ov:=@PySem.wpAny_eqBool_int
abbrev Ow:=@PySem.wpAny_execs_cons
abbrev Ox:=@PySem.noFill_tuple_add
abbrev Oy:=@List.length_drop
abbrev Oz:=@Nat.le_of_not_lt
abbrev OA:=@Nat.succ_ne_self
abbrev OB:=@List.flatMap_map
abbrev OC:=@List.ext_getElem
abbrev OD:=@Nat.not_lt_zero
abbrev OE:=@PySem.pushCells_keeps
abbrev OF:=@PySem.typeLookup_type
abbrev OG:=@Bool.eq_iff_iff
abbrev OH:=@List.length_zip
abbrev OI:=@Bool.and_false
abbrev OJ:=@PySem.wpAny_of_eq
abbrev OK:=@PySem.Within.cons
abbrev OM:=@Nat.not_lt
abbrev ON:=@beq_iff_eq
namespace KH
open PySem PySem.W PySem.Spec PyProof.Rows
def tp(i:Nat):Stmt:=PySem.Challenge.pw_tiewebs_k70_midst_and_whole_webs.main.body.getD i (.Pass ⟨0,0,0,0⟩)
def iC:Stmt->Stmt
 | .ClassDef _ _ _ (b::_) .. =>b
 |s=>s
def dA(s:Stmt):Arguments:=match s with
 | .FunctionDef _ a _ _ _ _ _ _ _ _=>a
 |_=>{posonlyargs:=[],args:=[],vararg:=none,kwonlyargs:=[],kw_defaults:=[],kwarg:=none,defaults:=[]}
def dB(s:Stmt):List Stmt:=match s with
 | .FunctionDef _ _ b _ _ _ _ _ _ _=>b
 |_=>[]
def dS(s:Stmt):Scope:=match s with
 | .FunctionDef _ _ _ _ _ _ sc _ _ _=>sc
 |_=>{kind:=.function,names:=[],isGenerator:=false,isCoroutine:=false}
def zs(x:String)(t:Nat):Value:=.str (Str.ofString x) t
def ze(P:Params)(x:String)(t:Nat)(v:Value):DictEntry:=⟨PyData.keyHash P (Str.ofString x),zs x t,v⟩
def zt(xs:Array Value):Obj:=⟨.type "tuple",none,.seq xs, #[]⟩
def zc(n q:String)(a:Nat)(l ac p5 p6 fl:Int)(r8:Value)(p10:Int)(r11 r13 r14 r15:Value)(p16:Int)(t:Nat):Obj:=⟨.type "code",none,.fields #[zs n a,zs q (a+1),zs "/claim/cut.py" (a+2),.int l 0,.int ac 0,.int p5 0,.int p6 0,.int fl 0,r8,.bool true,.int p10 0,r11,.none,r13,r14,r15,.int p16 0,.int l 0,zs "/claim/cut.py" t], #[]⟩
def zf(n q:String)(st:Stmt)(kV dc pm:Value)(an:Option Addr)(cd ct:Value):Data:=.func (W.fnOf (Str.ofString n) (Str.ofString q) (dA st) (dB st) (dS st) .none kV dc pm an cd ct)
def zg(n q:String)(st:Stmt):Obj:=⟨.none,none,.func {name:=Str.ofString n,qualname:=Str.ofString q,params:=dA st,body:=.stmts (dB st),scope:=dS st,globals:=0,closure:=[],defaults:=.none,kwdefaults:=.none}, #[]⟩
def z0:Obj:=⟨.none,none,.fields #[],#[]⟩
def zp:Obj:=⟨.type "builtin_function_or_method",none,.fields #[.builtin "type.__prepare__",.type "type"],#[]⟩
def zu(a:Nat):Obj:=⟨.type "super",none,.fields #[.ref a,.ref a,.ref a],#[]⟩
def zi(a:Nat):Obj:=⟨.type "builtin_function_or_method",none,.fields #[.builtin "object.__init_subclass__",.ref a],#[]⟩
def zr(a b:Nat)(v:Value):Obj:=⟨.type "frame",none,.plain,#[some (.ref a),some (.ref 3),some (.ref b),none,some v,none,some (.ref 0)]⟩
def zk(n:String)(a b c:Nat)(l:Int)(r:Nat)(m:Int)(s:Nat)(x y:Int)(t:Nat):Obj:=⟨.type "code",none,.fields #[zs n a,zs n b,zs "/claim/cut.py" c,.int l 0,.int 0 0,.int 0 0,.int 0 0,.int 0 0,.ref r,.bool false,.int m 0,.ref s,.none,.none,.none,.none,.int x 0,.int y 0,zs "/claim/cut.py" t],#[]⟩
def zE(n:String)(i x a:Nat)(l ac fl:Int)(md:String)(m t:Nat):List Obj:=[zt #[],z0,zg n n (tp i),zc n n a l ac 0 0 fl (.ref x) 181 (.ref (x+1)) .none .none (.ref (x+2)) t (t+1),⟨.type "function",none,zf n n (tp i) .none .none (zs md m) none (.ref (x+3)) .none,#[]⟩]
def zD(n:String)(i x a:Nat)(l ac fl:Int)(v:Array Value)(md:String)(m t:Nat):List Obj:=[zt #[],z0,zt v,zt #[],zg n n (tp i),zc n n a l ac 0 0 fl (.ref x) 181 (.ref (x+1)) (.ref (x+2)) (.ref (x+3)) (.ref (x+4)) t (t+1),⟨.type "function",none,zf n n (tp i) .none .none (zs md m) none (.ref (x+5)) .none,#[]⟩]
def zC(P:Params)(n:String)(a t l:Nat):List Obj:=[zp,⟨(.type "dict"),none,(.dict #[ze P "__module__" (t+5) (zs "tiewebs.errors" 187),ze P "__qualname__" (t+7) (zs n (t+6)),ze P "__firstlineno__" (t+9) (.int l (t+8)),ze P "__static_attributes__" (t+10) (.ref (a+6))] 4),#[]⟩,zt #[],z0,zk n t (t+1) (t+2) l (a+2) 181 (a+3) (t+3) l (t+4),zr (a+4) (a+1) (zs "tiewebs.errors" 187),zt #[],⟨(.type "dict"),none,(.dict #[ze P "__module__" (t+5) (zs "tiewebs.errors" 187),ze P "__firstlineno__" (t+9) (.int l (t+8)),ze P "__static_attributes__" (t+10) (.ref (a+6)),ze P "__doc__" (t+11) .none] 2),#[]⟩,⟨(.type "type"),none,(.cls ⟨(Str.ofString n),[(.ref 24)],[(.ref (a+8)),(.ref 24),(.type "ValueError"),(.type "Exception"),(.type "BaseException"),(.type "object")],(a+7),(Str.ofString n),true,[],[],false,none,false⟩),#[some (.ref (a-1)),none,some (zs n (t-2)),some (zs n (t+6)),some (.builtin "ValueError.__new__"),some (.bool true)]⟩,zu (a+8),zi (a+8),zt #[(.ref 24)]]
def ml:String:="law_tiewebs_k70_midst_and_whole_webs"
def L1(P:Params):List Obj:=[boot_o_0 P,boot_o_1 P,boot_o_2 P,⟨(.type "dict"),none,(.dict #[ze P "__name__" 165 (zs ml 532),ze P "__doc__" 166 .none,ze P "__package__" 167 .none,ze P "__loader__" 168 (.builtin "__main__.__loader__#opaque"),ze P "__spec__" 169 .none,ze P "__annotations__" 170 (.ref 6),ze P "__builtins__" 171 (.ref 4),ze P "__file__" 173 (zs "/claim/cut.py" 172),ze P "__cached__" 174 .none,ze P "WebError" 206 (.ref 24),ze P "NoWeb" 222 (.ref 37),ze P "NoPlace" 238 (.ref 49),ze P "NoPlaces" 254 (.ref 61),ze P "NoMap" 270 (.ref 73),ze P "NoSharing" 286 (.ref 85),ze P "NoRoot" 302 (.ref 97),ze P "NoNumber" 318 (.ref 109),ze P "NotJoined" 334 (.ref 121),ze P "NoTie" 350 (.ref 133),ze P "NoText" 366 (.ref 145),ze P "NoLine" 382 (.ref 157),ze P "NoDeed" 398 (.ref 169),ze P "TooGreat" 425 (.ref 188),ze P "MOST_PLACES" 429 (.int 14 428),ze P "is_whole" 436 (.ref 197),ze P "is_pair" 443 (.ref 204),ze P "is_place" 451 (.ref 211),ze P "is_tie" 461 (.ref 218),ze P "is_rising" 467 (.ref 223),ze P "is_web" 473 (.ref 228),ze P "need_web" 480 (.ref 235),ze P "pairs_of" 486 (.ref 240),ze P "ties_meet" 494 (.ref 245),ze P "need_room" 504 (.ref 252),ze P "ties_to_midsts" 510 (.ref 257),ze P "ties_of_midsts" 516 (.ref 262),ze P "midst_web" 523 (.ref 269),ze P "whole_web" 531 (.ref 276),ze P "_law_cell_at" 541 (.ref 283),ze P "_law_state" 550 (.ref 290),ze P "_law_take" 560 (.ref 297),ze P "_law_drawn" 566 (.ref 302),ze P "_law_made" 577 (.ref 309),ze P "_law_mixed" 587 (.ref 316),ze P "_law_few_ties" 604 (.ref 323),ze P "_law_named" 615 (.ref 330),ze P "_law_web" 621 (.ref 335),ze P "_law_refused" 627 (.ref 340),ze P "_law_same" 633 (.ref 345),ze P "_law_too_great" 644 (.ref 352),ze P "_law_bad_web" 652 (.ref 359),ze P "_law_midst" 667 (.ref 366),ze P "law" 680 (.ref 373)] 53),#[]⟩,boot_o_4 P,boot_o_5 P,boot_o_6 P,boot_o_7 P,boot_o_8 P,boot_o_9 P,boot_o_10 P,zt #[],⟨.none,none,(.fields #[(.int 2 0),(.int 0 0),(.ref 20),(.int 4 0),(.int 0 0),(.ref 33),(.int 6 0),(.int 0 0),(.ref 45),(.int 8 0),(.int 0 0),(.ref 57),(.int 10 0),(.int 0 0),(.ref 69),(.int 12 0),(.int 0 0),(.ref 81),(.int 14 0),(.int 0 0),(.ref 93),(.int 16 0),(.int 0 0),(.ref 105),(.int 18 0),(.int 0 0),(.ref 117),(.int 20 0),(.int 0 0),(.ref 129),(.int 22 0),(.int 0 0),(.ref 141),(.int 24 0),(.int 0 0),(.ref 153),(.int 26 0),(.int 0 0),(.ref 165),(.int 28 0),(.int 0 0),(.ref 177),(.int 35 0),(.int 0 0),(.ref 196),(.int 37 0),(.int 0 0),(.ref 203),(.int 39 0),(.int 0 0),(.ref 210),(.int 41 0),(.int 0 0),(.ref 217),(.int 46 0),(.int 0 0),(.ref 222),(.int 48 0),(.int 0 0),(.ref 227),(.int 55 0),(.int 0 0),(.ref 234),(.int 58 0),(.int 0 0),(.ref 239),(.int 61 0),(.int 0 0),(.ref 244),(.int 64 0),(.int 0 0),(.ref 251),(.int 69 0),(.int 0 0),(.ref 256),(.int 72 0),(.int 0 0),(.ref 261),(.int 76 0),(.int 0 0),(.ref 268),(.int 79 0),(.int 0 0),(.ref 275),(.int 84 0),(.int 0 0),(.ref 282),(.int 88 0),(.int 0 0),(.ref 289),(.int 93 0),(.int 0 0),(.ref 296),(.int 102 0),(.int 0 0),(.ref 301),(.int 107 0),(.int 0 0),(.ref 308),(.int 115 0),(.int 0 0),(.ref 315),(.int 121 0),(.int 0 0),(.ref 322),(.int 134 0),(.int 0 0),(.ref 329),(.int 139 0),(.int 0 0),(.ref 334),(.int 153 0),(.int 0 0),(.ref 339),(.int 167 0),(.int 0 0),(.ref 344),(.int 175 0),(.int 0 0),(.ref 351),(.int 184 0),(.int 0 0),(.ref 358),(.int 190 0),(.int 0 0),(.ref 365),(.int 207 0),(.int 0 0),(.ref 372)]),#[]⟩,⟨(.type "code"),none,(.fields #[(zs "<module>" 182),(zs "<module>" 183),(zs "/claim/cut.py" 184),(.int 1 0),(.int 0 0),(.int 0 0),(.int 0 0),(.int 0 0),(.ref 11),(.bool false),(.int 181 0),(.ref 12),.none,.none,.none,.none,(.int 185 0),(.int 1 0),(zs "/claim/cut.py" 186)]),#[]⟩,zr 13 3 (zs "__main__" 164),zt #[(.type "ValueError")],zp,⟨(.type "dict"),none,(.dict #[ze P "__module__" 196 (zs "tiewebs.errors" 187),ze P "__qualname__" 198 (zs "WebError" 197),ze P "__firstlineno__" 200 (.int 2 199),ze P "__static_attributes__" 201 (.ref 22)] 4),#[]⟩,zt #[],z0,zk "WebError" 191 192 193 2 18 181 19 194 2 195,zr 20 17 (zs "tiewebs.errors" 187),zt #[],⟨(.type "dict"),none,(.dict #[ze P "__module__" 196 (zs "tiewebs.errors" 187),ze P "__firstlineno__" 200 (.int 2 199),ze P "__static_attributes__" 201 (.ref 22),ze P "__weakref__" 203 (.ref 25),ze P "__doc__" 204 .none] 3),#[]⟩,⟨(.type "type"),none,(.cls ⟨(Str.ofString "WebError"),[(.type "ValueError")],[(.ref 24),(.type "ValueError"),(.type "Exception"),(.type "BaseException"),(.type "object")],23,(Str.ofString "WebError"),true,[],[(.ref 37),(.ref 49),(.ref 61),(.ref 73),(.ref 85),(.ref 97),(.ref 109),(.ref 121),(.ref 133),(.ref 145),(.ref 157),(.ref 169),(.ref 188)],false,none,false⟩),#[some (.ref 15),none,some (zs "WebError" 189),some (zs "WebError" 197),some (.builtin "ValueError.__new__"),some (.bool true)]⟩,⟨(.type "getset_descriptor"),none,(.fields #[(zs "__weakref__" 202),(.ref 24),(.builtin "ExceptionGroup.__weakref__"),.none]),#[]⟩,zu 24,zi 24,zt #[(.ref 24)]]++zC P "NoWeb" 29 209 4++zC P "NoPlace" 41 225 6++zC P "NoPlaces" 53 241 8++zC P "NoMap" 65 257 10++zC P "NoSharing" 77 273 12++zC P "NoRoot" 89 289 14++zC P "NoNumber" 101 305 16++zC P "NotJoined" 113 321 18++zC P "NoTie" 125 337 20++zC P "NoText" 137 353 22++zC P "NoLine" 149 369 24++zC P "NoDeed" 161 385 26++[zp,⟨(.type "dict"),none,(.dict #[ze P "__module__" 406 (zs "tiewebs.errors" 187),ze P "__qualname__" 408 (zs "TooGreat" 407),ze P "__firstlineno__" 410 (.int 28 409),ze P "__init__" 419 (.ref 185),ze P "__static_attributes__" 422 (.ref 186)] 5),#[]⟩,zt #[],⟨.none,none,(.fields #[(.int 30 0),(.int 4 0),(.ref 184)]),#[]⟩,zk "TooGreat" 401 402 403 28 175 181 176 404 28 405,zr 177 174 (zs "tiewebs.errors" 187),zt #[],z0,zt #[(zs "self" 414),(zs "many" 415),(zs "most" 416)],zt #[],zg "__init__" "TooGreat.__init__" (iC (tp 14)),zc "__init__" "TooGreat.__init__" 411 30 3 0 0 3 (.ref 179) 181 (.ref 180) (.ref 181) (.ref 182) (.ref 183) 417 418,⟨.type "function",none,(zf "__init__" "TooGreat.__init__" (iC (tp 14)) .none .none (zs "tiewebs.errors" 187) none (.ref 184) .none),#[]⟩,zt #[(zs "many" 420),(zs "most" 421)],⟨(.type "dict"),none,(.dict #[ze P "__module__" 406 (zs "tiewebs.errors" 187),ze P "__firstlineno__" 410 (.int 28 409),ze P "__init__" 419 (.ref 185),ze P "__static_attributes__" 422 (.ref 186),ze P "__doc__" 423 .none] 2),#[]⟩,⟨(.type "type"),none,(.cls ⟨(Str.ofString "TooGreat"),[(.ref 24)],[(.ref 188),(.ref 24),(.type "ValueError"),(.type "Exception"),(.type "BaseException"),(.type "object")],187,(Str.ofString "TooGreat"),true,[],[],false,none,false⟩),#[some (.ref 172),none,some (zs "TooGreat" 399),some (zs "TooGreat" 407),some (.builtin "ValueError.__new__"),some (.bool true)]⟩,zu 188,zi 188]++zD "is_whole" 17 191 430 35 1 3 #[zs "thing" 433] "tiewebs.webs" 426 434++zD "is_pair" 18 198 437 37 1 3 #[zs "thing" 440] "tiewebs.webs" 426 441++zD "is_place" 19 205 444 39 2 3 #[zs "many" 447,zs "thing" 448] "tiewebs.webs" 426 449++zD "is_tie" 20 212 452 41 2 3 #[zs "many" 455,zs "thing" 456,zs "low" 457,zs "high" 458] "tiewebs.webs" 426 459++zE "is_rising" 21 219 462 46 1 3 "tiewebs.webs" 426 465++zE "is_web" 22 224 468 48 1 3 "tiewebs.webs" 426 471++zD "need_web" 23 229 474 55 1 3 #[zs "thing" 477] "tiewebs.webs" 426 478++zE "pairs_of" 24 236 481 58 1 3 "tiewebs.webs" 426 484++zE "ties_meet" 26 241 489 61 2 3 "tiewebs.ties" 487 492++zD "need_room" 28 246 497 64 1 3 #[zs "web" 500,zs "many" 501] "tiewebs.midsts" 495 502++zE "ties_to_midsts" 29 253 505 69 1 3 "tiewebs.midsts" 495 508++zE "ties_of_midsts" 30 258 511 72 1 3 "tiewebs.midsts" 495 514++zD "midst_web" 31 263 517 76 1 3 #[zs "web" 520] "tiewebs.midsts" 495 521++zD "whole_web" 32 270 524 79 1 3 #[zs "web" 527,zs "ties" 528] "tiewebs.midsts" 495 529++zD "_law_cell_at" 34 277 534 84 2 3 #[zs "_law_script" 537,zs "_law_k" 538] ml 532 539++zD "_law_state" 35 284 542 88 2 3 #[zs "_law_script" 545,zs "_law_k" 546,zs "_law_cell" 547] ml 532 548++zD "_law_take" 36 291 551 93 2 3 #[zs "_law_state_here" 554,zs "_law_many" 555,zs "_law_found" 556,zs "_law_stirred" 557] ml 532 558++zE "_law_drawn" 37 298 561 102 3 3 ml 532 564++zD "_law_made" 38 303 567 107 1 3 #[zs "_law_web_here" 570,zs "_law_ties" 571,zs "_law_found" 572,zs "_law_a" 573,zs "_law_b" 574] ml 532 575++zD "_law_mixed" 39 310 578 115 2 3 #[zs "_law_state_here" 581,zs "_law_many" 582,zs "_law_left" 583,zs "_law_found" 584] ml 532 585++zD "_law_few_ties" 40 317 588 121 2 3 #[zs "_law_state_here" 591,zs "_law_most" 592,zs "_law_many" 593,zs "_law_some" 594,zs "_law_ties" 595,zs "_law_at" 596,zs "_law_one" 597,zs "_law_other" 598,zs "_law_turn" 599,zs "_law_a" 600,zs "_law_b" 601] ml 532 602++zD "_law_named" 41 324 605 134 2 3 #[zs "_law_web_here" 608,zs "_law_names" 609,zs "_law_ties" 610,zs "_law_a" 611,zs "_law_b" 612] ml 532 613++zE "_law_web" 42 331 616 139 2 3 ml 532 619++zE "_law_refused" 43 336 622 153 1 3 ml 532 625++zE "_law_same" 44 341 628 167 2 3 ml 532 631++zD "_law_too_great" 45 346 634 175 3 3 #[zs "_law_call" 637,zs "_law_many" 638,zs "_law_most" 639,zs "_law_error" 640,zs "e" 641] ml 532 642++zD "_law_bad_web" 46 353 645 184 1 3 #[zs "_law_state_here" 648,zs "_law_some" 649] ml 532 650++zD "_law_midst" 47 360 653 190 2 3 #[zs "_law_web_here" 656,zs "_law_whole" 657,zs "_law_many" 658,zs "_law_found" 659,zs "_law_a" 660,zs "_law_b" 661,zs "_law_goes" 662,zs "_law_one" 663,zs "_law_other" 664] ml 532 665++[zt #[],z0,zt #[(zs "_law_script" 671),(zs "_law_k" 672),(zs "_law_state_here" 673),(zs "_law_some" 674),(zs "_law_many" 675)],zt #[(zs "_law_bad" 676),(zs "_law_web_here" 677)],zg "law" "law" (tp 48),zc "law" "law" 668 207 1 0 0 3 (.ref 367) 181 (.ref 368) (.ref 369) (.ref 370) (.ref 371) 678 679,⟨.type "function",none,(zf "law" "law" (tp 48) .none .none (zs ml 532) none (.ref 372) .none),#[]⟩]
def Lb(P:Params):List Obj:=[boot_o_0 P,boot_o_1 P,boot_o_2 P,boot_o_3 P,boot_o_4 P,boot_o_5 P,boot_o_6 P,boot_o_7 P,boot_o_8 P,boot_o_9 P,boot_o_10 P,zt #[],z0,⟨(.type "code"),none,(.fields #[(zs "<module>" 182),(zs "<module>" 183),(zs "/claim/cut.py" 184),(.int 1 0),(.int 0 0),(.int 0 0),(.int 0 0),(.int 0 0),(.ref 11),(.bool false),(.int 181 0),(.ref 12),.none,.none,.none,.none,(.int 185 0),(.int 1 0),(zs "/claim/cut.py" 186)]),#[]⟩,zr 13 3 (zs "__main__" 164)]
def as0:List Addr:=[2,3,15,22,23,24,25,28,35,36,37,40,47,48,49,52,59,60,61,64,71,72,73,76,83,84,85,88,95,96,97,100,107,108,109,112,119,120,121,124,131,132,133,136,143,144,145,148,155,156,157,160,167,168,169,172,179,181,182,184,185,186,187,188,191,193,194,196,197,198,200,201,203,204,205,207,208,210,211,212,214,215,217,218,219,222,223,224,227,228,229,231,232,234,235,236,239,240,241,244,245,246,248,249,251,252,253,256,257,258,261,262,263,265,266,268,269,270,272,273,275,276,277,279,280,282,283,284,286,287,289,290,291,293,294,296,297,298,301,302,303,305,306,308,309,310,312,313,315,316,317,319,320,322,323,324,326,327,329,330,331,334,335,336,339,340,341,344,345,346,348,349,351,352,353,355,356,358,359,360,362,363,365,366,367,369,370,372,373]
def ts0:List Addr:=[368]
def vq:Program:={PySem.Challenge.pw_tiewebs_k70_midst_and_whole_webs with main:={PySem.Challenge.pw_tiewebs_k70_midst_and_whole_webs.main with body:=[tp 1,tp 2,tp 3,tp 4,tp 5,tp 6,tp 7,tp 8,tp 9,tp 10,tp 11,tp 12,tp 13,tp 14,tp 16,tp 17,tp 18,tp 19,tp 20,tp 21,tp 22,tp 23,tp 24,tp 26,tp 28,tp 29,tp 30,tp 31,tp 32,tp 34,tp 35,tp 36,tp 37,tp 38,tp 39,tp 40,tp 41,tp 42,tp 43,tp 44,tp 45,tp 46,tp 47,tp 48]}}
def alt:Bool->List Obj->List Obj
 |_,[]=>[]
 |true,a::r=>a::alt false r
 |false,_::r=>alt true r
def toT:Nat->List Obj->BT
 |0,_=>.nil
 |_+1,[]=>.nil
 |f+1,o::r=>.node o (toT f (alt true r)) (toT f (alt false r))
def pick:Nat->List Addr->List Obj->W.Frag
 |i,as,o::os=>match as with
  |a::r=>if Nat.beq i a then (a,o)::pick (i+1) r os else pick (i+1) (a::r) os
  |[]=>[]
 |_,_,[]=>[]
def K0(P:Params):W.Frag:=pick 0 as0 (L1 P)
theorem as0_eq:∀ P,as0=(K0 P).map (·.1):=fun _=>by kernel_rfl
abbrev pw:Program:=PySem.Challenge.pw_tiewebs_k70_midst_and_whole_webs
abbrev Xt0(s:Shared):Bool:=xlAt vq [] s && recOk (RowW.records (OpenRow.toRowW (OpenLaw.row PySem.Challenge.rw_tiewebs_k70_midst_and_whole_webs))) s
def lf:Life:={}
def en:Env:={scope:=pw.main.scope,locals:=mainNs,globals:=mainNs,cells:=[],code:=(.ref 13),frame:=some 14}
abbrev cE:Code:=.body (behindTheImports pw) en
abbrev Bf:List Frame:=[topFrame ⟨0,0,0,0⟩]
abbrev S0(w:World)(os:OsState):Shared:=⟨boot_heap w.params,Array.mk [],boot_drawn,boot_toks,os⟩
abbrev Sb(w:World)(os:OsState):SharedT:=⟨toT 12 (Lb w.params),15,lf,Array.mk [],⟨0,0,0,0⟩,187,os⟩
abbrev Sm(w:World)(os:OsState):SharedT:=⟨toT 12 (L1 w.params),374,lf,Array.mk [],⟨0,0,0,0⟩,681,os⟩
abbrev Sf(w:World)(os:OsState):Shared:=⟨⟨Array.mk (L1 w.params),lf⟩,Array.mk [],⟨0,0,0,0⟩,681,os⟩
theorem IU:∀ w,(fun os=>topGo treeTable pw w 11 (some (.ref 6)) 12 (S0 w os) (topStub pw))=fun os=>some ((Sb w os).abs,⟨denote treeTable cE,cE,⟨0,0,0,0⟩,Bf⟩):=fun w=>by kernel_rfl
theorem EF:∀ w,(fun os=>segRun treeTable pw w 11 (some (.ref 6)) 1 1 (Sb w os).abs (blockOf (behindTheImports pw) en cE ⟨0,0,0,0⟩ Bf))=fun os=>some (.next,(Sb w os).abs,cE,⟨0,0,0,0⟩):=fun w=>by kernel_rfl
theorem G9:∀ w,(fun os=>segRunT treeTable pw w 11 (some (.ref 6)) 1 3907 (Sb w os) (piecesOf (behindTheImports pw) en cE ⟨0,0,0,0⟩ Bf))=fun os=>some (.next,Sm w os,cE,⟨207,0,229,15⟩):=fun w=>by kernel_rfl
theorem IV:∀ w,(fun os=>topRun treeTable pw w 11 (some (.ref 6)) 2 (Sm w os).abs ⟨doneF .next,cE,⟨207,0,229,15⟩,Bf⟩)=fun os=>some (Sf w os):=fun w=>by kernel_rfl
theorem IW(w:World)(os:OsState):topRun treeTable pw w 11 (some (.ref 6)) (12+(1+(3907+2))) (S0 w os) (topStub pw)=some (Sf w os):=
 go_top (Ly (IU w) os) (piece_block (Ly (EF w) os) (by
  have:=piece_app (rest:=[]) (segRun_of (Ly (G9 w) os)) (piece_nil (Ly (IV w) os));rw[Lg]at this;exact this))
theorem Ha:∀ w:World,((boot_heap w.params).isNs mainGlobals && (Array.mk []:Array GenState).size==0,(boot_heap w.params).objs.size,(boot_heap w.params).nsMap mainGlobals "__annotations__")=(true,11,(some (.ref 6))):=fun w=>by kernel_rfl
theorem Hb:∀ w os,(staticsOk (importedModules pw.main.body) (boot_heap w.params) (Sf w os).heap && namesBound pw (Sf w os).heap && gensDone (Sf w os) && laidKept (boot_heap w.params) (Sf w os).heap)=true:=fun w os=>by kernel_rfl
theorem IX:∀ w os,(openSeen vq [] (importedModules pw.main.body) Xt0 true (Sf w os)).1=(openGood vq []).1:=fun w os=>by kernel_rfl
theorem IY:∀ w os,(openSeen vq [] (importedModules pw.main.body) Xt0 true (Sf w os)).2.1=(openGood vq []).2.1:=fun w os=>by kernel_rfl
theorem IZ:∀ w os,(openSeen vq [] (importedModules pw.main.body) Xt0 true (Sf w os)).2.2.1=(openGood vq []).2.2.1:=fun w os=>by kernel_rfl
theorem I0:∀ w os,(openSeen vq [] (importedModules pw.main.body) Xt0 true (Sf w os)).2.2.2.1=(openGood vq []).2.2.2.1:=fun w os=>by kernel_rfl
theorem Ja:∀ w os,(openSeen vq [] (importedModules pw.main.body) Xt0 true (Sf w os)).2.2.2.2.1=(openGood vq []).2.2.2.2.1:=fun w os=>by kernel_rfl
theorem Jb:∀ w os,(openSeen vq [] (importedModules pw.main.body) Xt0 true (Sf w os)).2.2.2.2.2.1=(openGood vq []).2.2.2.2.2.1:=fun w os=>by kernel_rfl
theorem Jc:∀ w os,(openSeen vq [] (importedModules pw.main.body) Xt0 true (Sf w os)).2.2.2.2.2.2.1=(openGood vq []).2.2.2.2.2.2.1:=fun w os=>by kernel_rfl
theorem Jd:∀ w os,(openSeen vq [] (importedModules pw.main.body) Xt0 true (Sf w os)).2.2.2.2.2.2.2.1=(openGood vq []).2.2.2.2.2.2.2.1:=fun w os=>by kernel_rfl
theorem Je:∀ w os,(openSeen vq [] (importedModules pw.main.body) Xt0 true (Sf w os)).2.2.2.2.2.2.2.2=(openGood vq []).2.2.2.2.2.2.2.2:=fun w os=>by kernel_rfl
theorem Hd:∀ w os,Hook.obs (kmHook K0 as0 as0_eq ts0) (Sf w os)=Hook.val (kmHook K0 as0 as0_eq ts0) w:=fun w os=>by kernel_rfl
theorem He(w:World)(os:OsState):openSeen vq [] (importedModules pw.main.body) Xt0 true (Sf w os)=openGood vq []:=ND (IX w os) (ND (IY w os) (ND (IZ w os) (ND (I0 w os) (ND (Ja w os) (ND (Jb w os) (ND (Jc w os) (ND (Jd w os) (Je w os))))))))
theorem left0:LeftO (OpenLaw.row PySem.Challenge.rw_tiewebs_k70_midst_and_whole_webs).prog vq [] Xt0 (Hook.obs (kmHook K0 as0 as0_eq ts0)) (Hook.val (kmHook K0 as0 as0_eq ts0)) 7938:=
 LeftO.of_pieces (p:=pw) (H₀:=boot_heap) (H₁:=fun P=>⟨Array.mk (L1 P),lf⟩) (gs₀:=Array.mk []) (gs₁:=Array.mk []) (d₀:=boot_drawn) (d₁:=⟨0,0,0,0⟩) (k₀:=boot_toks) (k₁:=681) (M:=12+(1+(3907+2))) (boot_open (p:=pw) (by kernel_rfl) (by decide) (fun s=>by kernel_rfl)) Ha IW (by decide) fun w=>funext fun os=>ND (Hb w os) (ND (He w os) (Hd w os))
end KH
section
namespace L2
open PySem PySem.Spec PyProof.Rows
abbrev Key:=Sum Int Str
def Ee:Key->Value->Bool
 | .inl k,v=>Value.isInt k v
 | .inr x,v=>Value.isStrOf x v
def Jf(w:World):Key->Int
 | .inl k=>hashInt k
 | .inr x=>hashStr w x
theorem cN:∀{k:Key} {v:Value},Ee k v=true->(∃ i t,k=Sum.inl i/\v=Value.int i t)\/(∃ x t,k=Sum.inr x/\v=Value.str x t)
 | .inl i,v,h=>by
  obtain⟨t,e⟩:=Value.isInt_shape (k:=i) (v:=v) h;exact .inl ⟨i,t,rfl,e⟩
 | .inr x,v,h=>by
  obtain⟨t,e⟩:=Value.isStrOf_shape (x:=x) (v:=v) h;exact .inr ⟨x,t,rfl,e⟩
theorem EG(a b:Int):decide ((Sum.inl a:Key)=Sum.inl b)=(a==b):=by
 by_cases e:a=b
 ·subst e;simp
 ·have h:¬ (Sum.inl a:Key)=Sum.inl b:=fun q=>e (Sum.inl.inj q);rw[Lr h];exact(beq_eq_false_iff_ne.mpr e).symm
theorem EH(a b:Str):decide ((Sum.inr a:Key)=Sum.inr b)=decide (a=b):=by
 by_cases e:a=b
 ·subst e;simp
 ·have h:¬ (Sum.inr a:Key)=Sum.inr b:=fun q=>e (Sum.inr.inj q);rw[Lr h,Lr e]
theorem EI(a:Int)(b:Str):decide ((Sum.inl a:Key)=Sum.inr b)=false:=Lr (fun q=>nomatch q)
theorem EJ(a:Str)(b:Int):decide ((Sum.inr a:Key)=Sum.inl b)=false:=Lr (fun q=>nomatch q)
def wR(prog:Program)(w:World):PySem.KeyKind prog w Key where
 is:=Ee
 hash:=Jf w
 inj:=fun v a b ha hb=>by
  rcases cN ha with⟨i,t,rfl,rfl⟩|⟨x,t,rfl,rfl⟩
  ·rcases cN hb with⟨j,u,rfl,e⟩|⟨y,u,rfl,e⟩
   ·injection e with e1 _;rw[e1]
   ·exact nomatch e
  ·rcases cN hb with⟨j,u,rfl,e⟩|⟨y,u,rfl,e⟩
   ·exact nomatch e
   ·injection e with e1 _;rw[e1]
 byValue:=fun k v h=>by
  rcases cN h with⟨i,t,rfl,rfl⟩|⟨x,t,rfl,rfl⟩<;>rfl
 pyHash:=fun hv h=>by
  rcases cN hv with⟨i,t,rfl,rfl⟩|⟨x,t,rfl,rfl⟩
  ·exact wpAny_pyHash_int h
  ·exact wpAny_pyHash_str h
 eqBool:=fun hu hv h=>by
  rcases cN hu with⟨i,t,rfl,rfl⟩|⟨x,t,rfl,rfl⟩
  ·rcases cN hv with⟨j,u,rfl,rfl⟩|⟨y,u,rfl,rfl⟩
   ·rw[EG]at h;exact Ov h
   ·rw[EI]at h;exact SeqAt.EqAt.int_str i t y u _ _ _ _ h
  ·rcases cN hv with⟨j,u,rfl,rfl⟩|⟨y,u,rfl,rfl⟩
   ·rw[EJ]at h;exact SeqAt.EqAt.str_int x t j u _ _ _ _ h
   ·rw[EH]at h;exact wpAny_eqBool_str h
 «strs»:=fun k x t v h=>by
  rcases cN h with⟨i,u,rfl,e⟩|⟨y,u,rfl,e⟩
  ·exact nomatch e
  ·injection e with e1 _;subst e1;cases v<;>rfl
end L2
namespace L2
open PySem PySem.Spec PyProof.Rows
inductive V where
 |non|bl (b:Bool)|int (i:Int)|str (x:Str)|byt (b:Array UInt8)|flt (b:UInt64)|ref (a:Addr)|ty (n:String)
 deriving DecidableEq
def RelV:V->Value->Prop
 | .non,u=>u=Value.none
 | .bl b,u=>u=Value.bool b
 | .int i,u=>∃ t,u=Value.int i t
 | .str x,u=>∃ t,u=Value.str x t
 | .byt b,u=>∃ t,u=Value.bytes b t
 | .flt b,u=>∃ t,u=Value.float b t
 | .ref a,u=>u=Value.ref a
 | .ty n,u=>u=Value.type n
abbrev bo:List V->List Value->Prop:=Paired RelV
theorem bo.length{xs:List V}{us:List Value}(r:bo xs us):xs.length=us.length:=Paired.length r
theorem bo.get:∀{xs:List V} {us:List Value} {i:Nat} {x:V},bo xs us->xs[i]? =some x->∃ u,us[i]? =some u/\RelV x u
 |_,_,_,_,.nil,e=>by simp at e
 |_,_,0,_,.cons r _,e=>by simp at e;subst e;exact⟨_,rfl,r⟩
 |_,_,i+1,x,.cons _ t,e=>by
  obtain⟨u,Y,Z⟩:=bo.get (i:=i) (x:=x) t (by simpa using e)
  exact⟨u,by simpa using Y,Z⟩
theorem bo.set(r:RelV x u):∀{xs:List V} {us:List Value} (i:Nat),bo xs us->bo (xs.set i x) (us.set i u)
 |_,_,_,.nil=>.nil
 |_,_,0,.cons _ t=>.cons r t
 |_,_,i+1,.cons q t=>.cons q (bo.set r i t)
theorem bo.append:∀{xs ys:List V} {us ws:List Value},bo xs us->bo ys ws->bo (xs++ys) (us++ws)
 |_,_,_,_,.nil,s=>s
 |_,_,_,_,.cons r t,s=>.cons r (bo.append t s)
theorem bo.take:∀{xs:List V} {us:List Value} (n:Nat),bo xs us->bo (xs.take n) (us.take n)
 |_,_,0,_=>.nil
 |_,_,_+1,.nil=>.nil
 |_,_,n+1,.cons r t=>.cons r (bo.take n t)
theorem bo.drop:∀{xs:List V} {us:List Value} (n:Nat),bo xs us->bo (xs.drop n) (us.drop n)
 |_,_,0,r=>r
 |_,_,_+1,.nil=>.nil
 |_,_,n+1,.cons _ t=>bo.drop n t
def rJ:Option V->Option Value->Prop
 |some v,some u=>RelV v u
 |none,none=>True
 |_,_=>False
def KV{κ:Type}:List (κ×V)->List (κ×Value)->Prop:=Paired fun(p:κ×V) (q:κ×Value)=>p.1=q.1/\RelV p.2 q.2
def kV:Key->V
 | .inl i=>.int i
 | .inr x=>.str x
inductive HO where
 |lst (xs:List V)
 |tup (xs:List V)
 |dK (kvs:List (Key×V))|dT (kvs:List (List Key×V))
 |set (S:Int->Bool) (n:Nat)
 |ins (C dx:Addr) (fs:List (Str×V))
 |own (x:Addr)
 |xd (fs:List (Str×V))
 |met (f x:Addr)
 |rng (lo hi:Int)
 |frz (o:Obj) (u:HO)
 |tbl (ps:Array Value)
 |ext (φ:Heap->Prop)
abbrev Hp:=Addr->Option HO
def upd(H:Hp)(a:Addr)(o:HO):Hp:=fun b=>if b=a then some o else H b
theorem aN:upd H a o a=some o:=by unfold upd;rw[if_pos rfl]
theorem aE{H:Hp}(h:b≠a):upd H a o b=H b:=by unfold upd;rw[if_neg h]
theorem rK:upd (upd H a o) a u=upd H a u:=by
 funext b;unfold upd;split<;>rfl
theorem aK{H:Hp}(h:H a=some o)(h':H b=none):a≠b:=by
 intro e;subst e;rw[h]at h';cases h'
section
variable (P:Program)(w:World)
def bj(H:Hp)(h:Heap)(a:Addr):HO->Prop
 | .lst xs=>xs.length<=sizeLine/\∃(its:List Value) (n:Nat),bo xs its/\h.get? a=some {cls:=.type "list",data:=.seq its.toArray n}
 | .tup xs=>xs.length<=sizeLine/\∃ its:List Value,bo xs its/\IsTup h a its.toArray
 | .dK kvs=>kvs.length<=sizeLine/\(a==sysModules)=false/\∃ vs,KV kvs vs/\h.DictOf (wR P w) a vs
 | .dT kvs=>kvs.length<=sizeLine/\(a==sysModules)=false/\∃ xs:List (List Key×Addr×Value),
   Paired (fun(p:List Key×V) (q:List Key×Addr×Value)=>p.1=q.1/\H q.2.1=some (.tup (p.1.map kV))/\RelV p.2 q.2.2) kvs xs/\
   ∃ o es ep,h.get? a=some o/\o.ExactDict/\o.data= .dict es ep/\es.toList=xs.map (entryOfKey (tupleKind (wR P w)))/\(xs.map (·.1)).Nodup
 | .set S n=>h.SetOf (intKind P w) a S n
 | .ins C dx fs=>H dx=some (.own a)/\fs.length<=1000/\dx≠a/\h.get? a=some (W.instObj C dx)/\
   ∃ mA,h.Ns1 dx mA/\(∀ f,rJ (fs.lookup f) (mA f))/\PySem.Within mA (fs.map (·.1))
 | .own _=>∃ o,h.get? a=some o
 | .xd fs=>∃ mA,h.Ns1 a mA/\∀ f,rJ (fs.lookup f) (mA f)
 | .rng lo hi=>∃ t u v,h.get? a=some {cls:=.type "range",data:=.fields #[.int lo t,.int hi u,.int 1 v]}
 | .frz o u=>h.get? a=some o/\bj H h a u
 | .tbl ps=>h.get? a=some {cls:=.none,data:=.fields ps}
 | .met f x=>h.get? a=some (W.methodObj (.ref f) (.ref x))
 | .ext φ=>φ h/\(∃ o,h.get? a=some o)/\∀ h1 h2:Heap,φ h1->(∀ o,h1.get? a=some o->h2.get? a=some o)->φ h2
def gk(H:Hp)(h:Heap):Prop:=∀ a o,H a=some o->bj P w H h a o
end
section
variable {P:Program}{w:World}{H H':Hp}{h h':Heap}{a:Addr}{o:HO}
theorem bj.lt(x:bj P w H h a o):a<h.objs.size:=by
 cases o with
 |lst xs=>obtain⟨_,_,_,_,e⟩:=x;exact KF e
 |tup xs=>obtain⟨_,_,_,p⟩:=x;exact p.lt
 |dK kvs=>obtain⟨_,_,_,_,o,_,_,e,_⟩:=x;exact KF e
 |dT kvs=>obtain⟨_,_,_,_,o,_,_,e,_⟩:=x;exact KF e
 |set S n=>obtain⟨o,_,_,_,e,_⟩:=x;exact KF e
 |ins C dx fs=>obtain⟨_,_,_,e,_⟩:=x;exact KF e
 |own y=>obtain⟨_,e⟩:=x;exact KF e
 |xd fs=>obtain⟨_,⟨_,_,_,e,_⟩,_⟩:=x;exact KF e
 |rng lo hi=>obtain⟨_,_,_,e⟩:=x;exact KF e
 |frz ob u=>obtain⟨e,_⟩:=x;exact KF e
 |tbl ps=>exact KF (show h.get? a=some _ from x)
 |met f y=>exact KF (show h.get? a=some _ from x)
 |ext φ=>obtain⟨_,⟨_,e⟩,_⟩:=x;exact KF e
theorem Paired.mapP{Z Y:Type}{F G:Z->Y->Prop}:∀{l₁:List Z} {l₂:List Y},Paired F l₁ l₂->(∀ a b,F a b->G a b)->Paired G l₁ l₂
 |_,_,.nil,_=>.nil
 |_,_,.cons r t,f=>.cons (f _ _ r) (Paired.mapP t f)
theorem bj.stay(x:bj P w H h a o)(k:∀ b u,(b=a\/H b=some (.own a))->h.get? b=some u->h'.get? b=some u)
  (Y:∀ b,H b=some (.own a)->H' b=some (.own a)) (X:∀ b xs,H b=some (.tup xs)->H' b=some (.tup xs)):bj P w H' h' a o:=by
 induction o with
 |lst xs=>obtain⟨z,its,n,r,e⟩:=x;exact⟨z,its,n,r,k _ _ (.inl rfl) e⟩
 |tup xs=>obtain⟨z,its,r,Z,e,c⟩:=x;exact⟨z,its,r,Z,k _ _ (.inl rfl) e,c⟩
 |dK kvs=>obtain⟨z,y,vs,r,Z,es,ep,e,c⟩:=x;exact⟨z,y,vs,r,Z,es,ep,k _ _ (.inl rfl) e,c⟩
 |dT kvs=>
  obtain⟨z,y,xs,r,Z,es,ep,e,c⟩:=x;exact⟨z,y,xs,Paired.mapP r fun p q z=>⟨z.1,X _ _ z.2.1,z.2.2⟩,Z,es,ep,k _ _ (.inl rfl) e,c⟩
 |set S n=>obtain⟨Z,es,ep,t,e,c⟩:=x;exact⟨Z,es,ep,t,k _ _ (.inl rfl) e,c⟩
 |ins C dx fs=>
  obtain⟨d,z,ne,e,mA,⟨od,es,ep,e2,c⟩,r⟩:=x;exact⟨Y _ d,z,ne,k _ _ (.inl rfl) e,mA,⟨od,es,ep,k _ _ (.inr d) e2,c⟩,r⟩
 |own y=>obtain⟨Z,e⟩:=x;exact⟨Z,k _ _ (.inl rfl) e⟩
 |xd fs=>obtain⟨mA,⟨od,es,ep,e,c⟩,r⟩:=x;exact⟨mA,⟨od,es,ep,k _ _ (.inl rfl) e,c⟩,r⟩
 |rng lo hi=>obtain⟨t,u,v,e⟩:=x;exact⟨t,u,v,k _ _ (.inl rfl) e⟩
 |frz Z u ih=>obtain⟨e,q⟩:=x;exact⟨k _ _ (.inl rfl) e,ih q⟩
 |tbl ps=>
  have e:h.get? a=some {cls:=.none,data:=.fields ps}:=x;show h'.get? a=some {cls:=.none,data:=.fields ps};exact k a _ (.inl rfl) e
 |met f y=>
  have e:h.get? a=some (W.methodObj (.ref f) (.ref y)):=x;show h'.get? a=some (W.methodObj (.ref f) (.ref y));exact k a _ (.inl rfl) e
 |ext φ=>obtain⟨p,⟨o,e⟩,st⟩:=x;exact⟨st _ _ p fun o q=>k _ _ (.inl rfl) q,⟨o,k _ _ (.inl rfl) e⟩,st⟩
theorem gk.lt(x:gk P w H h)(e:H a=some o):a<h.objs.size:=(x a o e).lt
theorem gk.fresh(x:gk P w H h)(e:h.objs.size<=a):H a=none:=by
 cases q:H a with
 |none=>rfl
 |some u=>exact absurd (KQ (x.lt q) e) (Mh _)
theorem gk.kept(x:gk P w H h)(k:∀ b u,h.get? b=some u->h'.get? b=some u):gk P w H h':=fun a o e=>
 (x a o e).stay (fun b u _ q=>k b u q) (fun _ q=>q) fun _ _ q=>q
theorem gk.laid(x:gk P w H h)(k:∀ b u,h.get? b=some u->h'.get? b=some u)(X:h.objs.size<=a)(Z:bj P w (upd H a o) h' a o):gk P w (upd H a o) h':=fun b u e=>by
 have Y:=x.fresh X;by_cases hb:b=a
 ·subst hb;rw[aN]at e;cases e;exact Z
 ·rw[aE hb]at e;exact(x b u e).stay (fun c v _ q=>k c v q) (fun c q=>by rw[aE (aK q Y)];exact q) fun c xs q=>by rw[aE (aK q Y)];exact q
end
def Rd(H:Hp)(a:Addr)(u:HO):Prop:=H a=some u\/∃ o,H a=some (.frz o u)
theorem Rd.ok{P:Program}{w:World}{H:Hp}{h:Heap}{a:Addr}{u:HO}(r:Rd H a u)(x:gk P w H h):bj P w H h a u:=by
 rcases r with r|⟨o,r⟩
 ·exact x a u r
 ·obtain⟨_,q⟩:=x a _ r;exact q
def IH:Option HO->Prop
 |some (.lst _)=>True
 |some (.dK _)=>True
 |some (.dT _)=>True
 |some (.set _ _)=>True
 |some (.ins _ _ _)=>True
 |some (.ext _)=>True
 |_=>False
section
variable {P:Program}{w:World}{H:Hp}{h h':Heap}{x e:Addr}{o':HO}
theorem gk.write(Q:gk P w H h)(X:IH (H x))(S:e=x\/H e=some (.own x))(k:∀ b u,b≠e->h.get? b=some u->h'.get? b=some u)(T:∃ u,h'.get? e=some u)
  (U:bj P w (upd H x o') h' x o'):gk P w (upd H x o') h':=fun b u q=>by
 have Z:∀ c y,H c=some (.own y)->c≠x:=fun c y r z=>by subst z;rw[r]at X;exact X
 have Y:∀ c xs,H c=some (.tup xs)->c≠x:=fun c xs r z=>by subst z;rw[r]at X;exact X
 by_cases hb:b=x
 ·subst hb;rw[aN]at q;cases q;exact U
 ·rw[aE hb]at q;by_cases hbe:b=e
  ·have R:H b=some (.own x):=by
    rcases S with z|z
    ·exact absurd (hbe.trans z) hb
    ·rw[hbe];exact z
   rw[q]at R;cases R;obtain⟨v,O⟩:=T;exact⟨v,by rw[hbe];exact O⟩
  ·refine(Q b u q).stay (fun c v W r=>k c v ?_ r) (fun c r=>by rw[aE (Z c b r)];exact r) fun c xs r=>by rw[aE (Y c xs r)];exact r
   rcases W with rfl|W
   ·exact hbe
   ·rintro rfl;rcases S with z|z
    ·exact Z c b W z
    ·rw[W]at z;cases z;exact hb rfl
end
structure Un(fs ex:List Addr)(H H':Hp)(h h':Heap):Prop where
 keep:∀ b o,h.get? b=some o->H b=none->b ∉ fs->b ∉ ex->h'.get? b=some o
 slot:∀ b o,h.get? b=some o->H b=none->b∈fs->b ∉ ex->∃ sl,h'.get? b=some {o with slots:=sl}
 free:∀ b o,h.get? b=some o->H b=none->b ∉ ex->H' b=none
 there:∀ b o,h.get? b=some o->b ∉ ex->∃ o',h'.get? b=some o'
 tups:∀ b xs,H b=some (.tup xs)->H' b=some (.tup xs)
 frzs:∀ b o u,H b=some (.frz o u)->H' b=some (.frz o u)
 tbls:∀ b ps,H b=some (.tbl ps)->∃ more,H' b=some (.tbl (ps++more))
section
variable {fs fs' ex ex':List Addr}{H H1 H2:Hp}{h h1 h2 h':Heap}{a x e:Addr}{o:HO}
theorem Un.any(u:Un fs ex H H1 h h1)(q:h.get? b=some ob)(n:H b=none)(Z:b ∉ ex):∃ sl,h1.get? b=some {ob with slots:=sl}:=by
 by_cases hb:b∈fs
 ·exact u.slot b ob q n hb Z
 ·exact⟨ob.slots,u.keep b ob q n hb Z⟩
theorem Un.kept(k:∀ b u,h.get? b=some u->h'.get? b=some u):Un fs ex H H h h':=
 ⟨fun b Z q _ _ _=>k b Z q,fun b Z q _ _ _=>⟨Z.slots,k b Z q⟩,fun _ _ _ n _=>n,fun b Z q _=>⟨Z,k b Z q⟩,fun _ _ q=>q,fun _ _ _ q=>q,fun _ Y q=>⟨#[],by rw[q];simp⟩⟩
theorem Un.refl:Un fs ex H H h h:=Un.kept fun _ _ q=>q
theorem Un.laid(k:∀ b u,h.get? b=some u->h'.get? b=some u)(Y:h.objs.size<=a)(Z:H a=none):Un fs ex H (upd H a o) h h' where
 keep:=fun b u q _ _ _=>k b u q
 slot:=fun b u q _ _ _=>⟨u.slots,k b u q⟩
 free:=fun b u q n _=>by rw[aE (KL (KQ (KF q) Y))];exact n
 there:=fun b u q _=>⟨u,k b u q⟩
 tups:=fun b xs q=>by rw[aE (aK q Z)];exact q
 frzs:=fun b u xs q=>by rw[aE (aK q Z)];exact q
 tbls:=fun b X q=>⟨#[],by rw[aE (aK q Z),q];simp⟩
theorem Un.write(Z:IH (H x))(U:e=x\/H e=some (.own x))(k:∀ b u,b≠e->h.get? b=some u->h'.get? b=some u)(Y:∃ u,h'.get? e=some u):Un fs ex H (upd H x o) h h':=by
 have X:∀ b,H b=none->b≠x:=fun b n z=>by subst z;rw[n]at Z;exact Z
 have W:∀ b,H b=none->b≠e:=fun b n z=>by
  subst z;rcases U with r|r
  ·exact X b n r
  ·rw[n]at r;cases r
 have hm:∀ b u,H b=some u->¬ IH (some u)->b≠x:=fun b u q nm z=>by subst z;rw[q]at Z;exact nm Z
 refine⟨fun b u q n _ _=>k b u (W b n) q,fun b u q n _ _=>⟨u.slots,k b u (W b n) q⟩,fun b u q n _=>by rw[aE (X b n)];exact n,fun b u q _=>?_,
  fun b xs q=>by rw[aE (hm b _ q fun z=>z)];exact q,fun b u xs q=>by rw[aE (hm b _ q fun z=>z)];exact q,fun b T q=>⟨#[],by rw[aE (hm b _ q fun z=>z),q];simp⟩⟩
 by_cases hbe:b=e
 ·subst hbe;exact Y
 ·exact⟨u,k b u hbe q⟩
end
def II(h:Heap)(H:Hp):List Addr:=(List.range h.objs.size).filter fun a=>(H a).isSome
def kq(h:Heap)(H:Hp):Heap:=W.hideAll h (II h H)
theorem l8(h:Heap)(H:Hp):(kq h H).objs.size=h.objs.size:=W.hideAll_size _ _
theorem kZ{h:Heap}{H:Hp}(e:h.get? b=some o)(n:H b=none):(kq h H).get? b=some o:=
 W.hideAll_get _ e fun hm=>by
  have q:(H b).isSome=true:=(L9.mp hm).2;rw[n]at q;simp at q
theorem rL{H:Hp}(e:(kq h H).get? b=some o):h.get? b=some o/\H b=none:=by
 have Z:h.get? b=some o:=W.of_hideAll (II h H) e;refine⟨Z,?_⟩;cases q:H b with
 |none=>rfl
 |some x=>
  have hm:b∈II h H:=L9.mpr ⟨KS.mpr (KF Z),by simp[q]⟩
  have z:(kq h H).get? b=none:=W.hideAll_none (II h H) hm;rw[z]at e;cases e
def k9(g h:Heap)(L:Addr):List (Addr×Obj):=(List.range h.objs.size).filterMap fun a=>if a=L\/(g.get? a).isSome=true then none else (h.get? a).map fun o=>(a,o)
theorem tV{g h:Heap}(X:a≠L)(Y:g.get? a=none)(Z:h.get? a=some o):(a,o)∈k9 g h L:=
 Ma.mpr ⟨a,KS.mpr (KF Z),by simp[X,Y,Z]⟩
theorem nZ(Z:p∈k9 g h L):p.1≠L/\g.get? p.1=none/\h.get? p.1=some p.2:=by
 obtain⟨b,_,e⟩:=Ma.mp Z;split at e
 ·cases e
 ·rename_i hn
  cases q:h.get? b with
  |none=>rw[q]at e;simp at e
  |some u=>
   rw[q]at e;simp only[Option.map_some,Option.some.injEq]at e;subst e;refine⟨fun z=>hn (.inl z),?_,q⟩;show g.get? b=none;cases r:g.get? b with
   |none=>rfl
   |some v=>exact(hn (.inr (by simp[r]))).elim
def rest(g h:Heap)(L d:Addr):List (Addr×Obj):=(k9 g h L).filter fun p=>decide (p.1≠d)
theorem n4:News g L h (k9 g h L):=fun p Z=>let ⟨a,b,c⟩:=nZ Z;⟨c,a,b⟩
end L2
namespace L2
open PySem PySem.Spec PyProof.Rows
structure Mod(K:W.Frag)(mg:Str->Option Value)(base:Heap):Prop where
 kin:K.In base
 glob:base.Ns mainGlobals mg
 blt:∃ mb,base.Ns builtinsNs mb/\∀ x:Str,x≠"__name__"->mb x=bootBuiltins x
 nolimit:base.NoLimit
structure Cx where
 prog:Program
 w:World
 K:W.Frag
 mg:Str->Option Value
 base:Heap
 A:Around
 N:List Str
 s₀:Shared
 H₀:Hp
 env:Env
 outer:List Env
 stack:List Env
 ex:List Addr
 fn:Str->Bool
 calm:Bool
 pn:List (Addr×Obj)
 xe:Value->Shared->Prop
def jG(l:List Env):List Addr:=l.filterMap (·.frame)
abbrev Cx.fs(X:Cx):List Addr:=jG X.outer
def yf(sc:Scope)(x:Str):Prop:=sc.names.lookup x=some .local\/sc.names.lookup x=some .cell\/sc.names.lookup x=some .free
def Loc(sc:Scope)(x:Str):Prop:=sc.names.lookup x=some .local\/sc.names.lookup x=some .cell
def Look(env:Env)(h:Heap)(m:Str->Option Value)(x:Str)(u:Value):Prop:=
 (env.kindOf x=some .local/\m x=some u)\/((env.kindOf x=some .cell\/env.kindOf x=some .free)/\∃ c,env.cells.lookup x=some c/\h.IsCell c (some u))
structure Cx.Ok(X:Cx):Prop where
 mod:Mod X.K X.mg X.base
 kind:X.env.scope.kind= .function
 glob:X.env.globals=mainGlobals
 blt:X.env.builtins=builtinsNs
 above:X.s₀.heap.objs.size<=X.env.locals
 inj:∀ x y c,X.env.cells.lookup x=some c->X.env.cells.lookup y=some c->x=y
 has:∀ x,(X.env.kindOf x=some .cell\/X.env.kindOf x=some .free)->∃ c,X.env.cells.lookup x=some c
 cab:∀ x c,X.fn x=true->X.env.cells.lookup x=some c->X.s₀.heap.objs.size<=c
 hd:X.calm=true->X.A.handled=none
 frames:X.A.frames=some X.stack
 stk:X.stack=X.outer\/(X.stack=X.env::X.outer/\X.env.frame=some X.env.locals)
 exf:∀ b∈X.ex,b≠X.env.locals/\∀ x c,X.env.cells.lookup x=some c->c≠b
 bs:∀ b o,X.base.get? b=some o->X.s₀.heap.get? b=some o/\X.H₀ b=none
 bsz:X.base.objs.size<=X.s₀.heap.objs.size
 noex:∀ b o,X.base.get? b=some o->b ∉ X.ex
 exfs:∀ b∈X.ex,b ∉ X.fs
 funs:X.s₀.heap.FunFrames X.base X.outer
 frf:∀ b∈X.fs,X.H₀ b=none
structure Inv(X:Cx)(pins:List (Addr×Obj))(σ:List (Option V))(H:Hp)(s:Shared):Prop where
 ok:X.Ok
 os:s.os=X.s₀.os
 bare:AllBare s.gens
 base:Un X.fs X.ex X.H₀ H X.s₀.heap s.heap
 loc:∃ m,s.heap.Ns X.env.locals m/\∀(i:Nat) (x:Str) (v:V),X.N[i]? =some x->σ[i]? =some (some v)->yf X.env.scope x->∃ u,RelV v u/\Look X.env s.heap m x u
 cell:∀ x c,X.env.cells.lookup x=some c->∃ v,s.heap.IsCell c v
 free:H X.env.locals=none
 freeC:∀ x c,X.env.cells.lookup x=some c->H c=none
 pin:∀ p∈X.pn++pins,s.heap.get? p.1=some p.2/\H p.1=none/\p.1≠X.env.locals/\p.1 ∉ X.fs/\∀ v,p.2.data≠ .cell v
 hok:gk X.prog X.w H s.heap
 len:σ.length=X.N.length
section
variable {X:Cx}{pins:List (Addr×Obj)}{σ:List (Option V)}{H H':Hp}{s:Shared}{h':Heap}
theorem Cx.Ok.nofr(Z:X.Ok)(e:X.base.get? b=some o):b ∉ X.fs:=fun Y=>by
 have:=(Z.funs.mem Y).1;rw[e]at this;cases this
theorem Inv.bs(I:Inv X pins σ H s):∀ b o,X.base.get? b=some o->s.heap.get? b=some o/\H b=none:=fun b o e=>
 ⟨I.base.keep b o (I.ok.bs b o e).1 (I.ok.bs b o e).2 (I.ok.nofr e) (I.ok.noex b o e),I.base.free b o (I.ok.bs b o e).1 (I.ok.bs b o e).2 (I.ok.noex b o e)⟩
theorem Inv.bk(I:Inv X pins σ H s):∀ b o,X.base.get? b=some o->s.heap.get? b=some o:=fun b o e=>(I.bs b o e).1
theorem Inv.mod(I:Inv X pins σ H s):Mod X.K X.mg X.base:=I.ok.mod
theorem Inv.kIn(I:Inv X pins σ H s):X.K.In s.heap:=I.ok.mod.kin.keeps I.bk
theorem Inv.fr(I:Inv X pins σ H s):∃ m,Fr X.base X.env.locals s.heap m:=
 let ⟨m,hn,_⟩:=I.loc
 ⟨m,hn,I.bk,KP I.ok.bsz I.ok.above⟩
theorem Inv.lt(I:Inv X pins σ H s):X.env.locals<s.heap.objs.size:=let ⟨_,hn,_⟩:=I.loc;hn.lt
theorem Inv.sz(I:Inv X pins σ H s):X.s₀.heap.objs.size<=s.heap.objs.size:=KP I.ok.above (Mm I.lt)
theorem Inv.nofs(I:Inv X pins σ H s)(h:s.heap.objs.size<=a):a ∉ X.fs:=fun Y=>by
 obtain⟨_,o,Z,_⟩:=I.ok.funs.mem Y;exact absurd (KQ (KF Z) (KP I.sz h)) (Mh _)
theorem Inv.cne(I:Inv X pins σ H s):∀ x c,X.env.cells.lookup x=some c->c≠X.env.locals:=fun x c e z=>by
 obtain⟨v,o,W,hd⟩:=I.cell x c e;obtain⟨m,⟨U,es,ep,Z,Y,_⟩,_⟩:=I.loc;rw[z,Z]at W;cases W;rw[Y]at hd;cases hd
theorem Inv.funs(I:Inv X pins σ H s):s.heap.FunFrames X.base X.outer:=by
 have all:∀(l:List Env),(∀ b∈jG l,b∈X.fs)->X.s₀.heap.FunFrames X.base l->s.heap.FunFrames X.base l:=by
  intro l
  induction l with
  |nil=>intro _ _;trivial
  |cons env r ih=>
   intro hs T;obtain⟨U,⟨L,o,hf,R,W,hd⟩,S⟩:=T;have Z:L∈X.fs:=hs L (by unfold jG;rw[Lv,hf];exact KR)
   obtain⟨Q,e⟩:=I.base.slot L o W (I.ok.frf L Z) Z fun z=>I.ok.exfs L z Z;exact⟨U,⟨L,_,hf,R,e,hd⟩,ih (fun b Y=>hs b (by unfold jG;rw[Lv,hf];exact KJ _ Y)) S⟩
 exact all X.outer (fun _ Y=>Y) I.ok.funs
theorem Inv.stack(I:Inv X pins σ H s):s.heap.FunFrames X.base X.stack:=by
 rcases I.ok.stk with e|⟨e,hf⟩
 ·rw[e];exact I.funs
 ·rw[e];obtain⟨m,Z,_⟩:=I.loc;refine .cons (by rw[I.ok.kind];decide) hf Z ?_ I.funs
  exact LF (KP I.ok.bsz I.ok.above)
theorem Inv.stkSub(I:Inv X pins σ H s):∀ b∈jG X.stack,b∈X.env.locals::X.fs:=fun b Z=>by
 rcases I.ok.stk with e|⟨e,hf⟩
 ·rw[e]at Z;exact KJ _ Z
 ·rw[e]at Z;unfold jG at Z;rw[Lv,hf]at Z;exact Z
theorem Inv.stkFree(I:Inv X pins σ H s):∀ b∈jG X.stack,H b=none:=fun b Z=>by
 rcases K2.mp (I.stkSub b Z)with e|Z
 ·rw[e];exact I.free
 ·obtain⟨_,o,Y,_⟩:=I.ok.funs.mem Z;exact I.base.free b o Y (I.ok.frf b Z) fun z=>I.ok.exfs b z Z
theorem Inv.step{g':Array GenState}{t':Nat}{d':Drawn}{ch:List Addr}(I:Inv X pins σ H s)
  (U:∀ b∈ch,(b∈X.ex\/X.s₀.heap.objs.size<=b)/\b≠X.env.locals/\(∀ x c,X.env.cells.lookup x=some c->c≠b)/\∀ p∈X.pn++pins,p.1≠b)
  (keep:∀ b o,b≠X.env.locals->b ∉ X.fs->b ∉ ch->s.heap.get? b=some o->H b=none->h'.get? b=some o)
  (S:∀ b o,b≠X.env.locals->b∈X.fs->b ∉ ch->s.heap.get? b=some o->H b=none->∃ E,h'.get? b=some {o with slots:=E}) (Y:∀ b o,b ∉ ch->s.heap.get? b=some o->H b=none->H' b=none)
  (R:∀ b o,b ∉ ch->s.heap.get? b=some o->∃ J,h'.get? b=some J)
  (N:∀ b xs,H b=some (.tup xs)->H' b=some (.tup xs)) (O:∀ b o u,H b=some (.frz o u)->H' b=some (.frz o u)) (K:∀ b G,H b=some (.tbl G)->∃ more,H' b=some (.tbl (G++more)))
  (ns:∀ m,s.heap.Ns X.env.locals m->h'.Ns X.env.locals m) (C:gk X.prog X.w H' h') (h:AllBare g'):
  Inv X pins σ H' {s with heap:=h',gens:=g',drawn:=d',toks:=t'}:=by
 have L:∀ b o,X.s₀.heap.get? b=some o->b≠X.env.locals:=fun b o e=>KL (KQ (KF e) I.ok.above);have T:∀ b o,X.s₀.heap.get? b=some o->b ∉ X.ex->b ∉ ch:=fun b o e Z Q=>by
  rcases (U b Q).1 with z|z
  ·exact Z z
  ·exact absurd (KQ (KF e) z) (Mh _)
 have cellK:∀ x c,X.env.cells.lookup x=some c->∀ v,s.heap.IsCell c v->h'.IsCell c v:=fun x c e v ⟨o,P,hd⟩=>by
  have W:c ∉ ch:=fun z=>(U c z).2.2.1 x c e rfl;by_cases hc:c∈X.fs
  ·obtain⟨E,q⟩:=S c o (I.cne x c e) hc W P (I.freeC x c e);exact⟨_,q,hd⟩
  ·exact⟨o,keep c o (I.cne x c e) hc W P (I.freeC x c e),hd⟩
 refine⟨I.ok,I.os,h,⟨fun b o e n Q Z=>?_,fun b o e n Q Z=>?_,fun b o e n Z=>?_,fun b o e Z=>?_,fun b xs e=>N b xs (I.base.tups b xs e),fun b o xs e=>O b o xs (I.base.frzs b o xs e),fun b G e=>?_⟩,?_,fun x c e=>?_,?_,fun x c e=>?_,fun p B=>?_,C,I.len⟩
 ·exact keep b o (L b o e) Q (T b o e Z) (I.base.keep b o e n Q Z) (I.base.free b o e n Z)
 ·obtain⟨E,e1⟩:=I.base.slot b o e n Q Z;obtain⟨F,e2⟩:=S b _ (L b o e) Q (T b o e Z) e1 (I.base.free b o e n Z);exact⟨F,e2⟩
 ·obtain⟨J,e1⟩:=I.base.there b o e Z;exact Y b J (T b o e Z) e1 (I.base.free b o e n Z)
 ·obtain⟨J,e1⟩:=I.base.there b o e Z;exact R b J (T b o e Z) e1
 ·obtain⟨j,e1⟩:=I.base.tbls b G e;obtain⟨t,e2⟩:=K b _ e1;exact⟨j++t,by rw[e2,Array.append_assoc]⟩
 ·obtain⟨m,g,y⟩:=I.loc;refine⟨m,ns m g,fun i x v e1 e2 e3=>?_⟩;obtain⟨u,r,l⟩:=y i x v e1 e2 e3;refine⟨u,r,?_⟩;rcases l with l|⟨k,c,e,z⟩
  ·exact .inl l
  ·exact .inr ⟨k,c,e,cellK x c e _ z⟩
 ·obtain⟨v,z⟩:=I.cell x c e;exact⟨v,cellK x c e v z⟩
 ·obtain⟨m,⟨o,_,_,P,_⟩,_⟩:=I.loc;exact Y _ o (fun z=>(U _ z).2.1 rfl) P I.free
 ·obtain⟨v,o,P,hd⟩:=I.cell x c e;exact Y c o (fun z=>(U c z).2.2.1 x c e rfl) P (I.freeC x c e)
 ·obtain⟨e,n,ne,A,d⟩:=I.pin p B;have W:p.1 ∉ ch:=fun z=>(U p.1 z).2.2.2 p B rfl;exact⟨keep p.1 p.2 ne A W e n,Y p.1 p.2 W e n,ne,A,d⟩
theorem Inv.un{t':Nat}(I:Inv X pins σ H s)(u:Un X.fs [] H H' s.heap h')(W:gk X.prog X.w H' h'):Inv X pins σ H' {s with heap:=h',toks:=t'}:=by
 obtain⟨m,⟨o,es,ep,T,r⟩,_⟩:=id I.loc;obtain⟨Q,R⟩:=u.any T I.free (by simp)
 exact I.step (g':=s.gens) (d':=s.drawn) (ch:=[]) (fun _ z=>nomatch z) (fun b o _ U _ e n=>u.keep b o e n U (by simp)) (fun b o _ U _ e n=>u.slot b o e n U (by simp)) (fun b o _ e n=>u.free b o e n (by simp)) (fun b o _ e=>u.there b o e (by simp)) u.tups u.frzs u.tbls (fun O hm=>by
  obtain⟨P,es',Y,Z,S⟩:=hm;rw[T]at Z;cases Z;exact⟨_,es',Y,R,S⟩) W I.bare
theorem Inv.call{g':Array GenState}{t':Nat}{d':Drawn}{ch:List Addr}(I:Inv X pins σ H s)(u:Un (jG X.stack) ch H H' s.heap h')(S:gk X.prog X.w H' h')(P:AllBare g')
  (W:∀ b∈ch,(b∈X.ex\/X.s₀.heap.objs.size<=b)/\b≠X.env.locals/\(∀ x c,X.env.cells.lookup x=some c->c≠b)/\∀ p∈X.pn++pins,p.1≠b):
  Inv X pins σ H' {s with heap:=h',gens:=g',drawn:=d',toks:=t'}:=by
 obtain⟨m,⟨o,es,ep,R,r⟩,_⟩:=id I.loc;obtain⟨N,T⟩:=u.any R I.free fun z=>(W _ z).2.1 rfl;exact I.step (ch:=ch) W (fun b o T O Z e n=>u.keep b o e n (fun z=>(K2.mp (I.stkSub b z)).elim T O) Z) (fun b o _ _ Z e n=>u.any e n Z) (fun b o Z e n=>u.free b o e n Z) (fun b o Z e=>u.there b o e Z) u.tups u.frzs u.tbls (fun K hm=>by
  obtain⟨L,es',U,Y,Q⟩:=hm;rw[R]at Y;cases Y;exact⟨_,es',U,T,Q⟩) S P
theorem Inv.turned{t':Nat}{it:Addr}(I:Inv X pins σ H s)(k:∀ b o,b≠it->s.heap.get? b=some o->h'.get? b=some o)(R:H it=none)(W:it≠X.env.locals)
  (S:it∈X.ex\/X.s₀.heap.objs.size<=it) (T:∀ x c,X.env.cells.lookup x=some c->c≠it) (Q:∀ p∈X.pn++pins,p.1≠it):Inv X pins σ H {s with heap:=h',toks:=t'}:=by
 have Y:∀ b u,H b=some u->b≠it:=fun b u e z=>by rw[z,R]at e;cases e
 refine I.step (g':=s.gens) (d':=s.drawn) (ch:=[it]) (fun b P=>?_) (fun b o _ _ Z e _=>k b o (fun z=>Z (by simp[z])) e) (fun b o _ _ Z e _=>⟨o.slots,k b o (fun z=>Z (by simp[z])) e⟩) (fun _ _ _ _ n=>n)
  (fun b o Z e=>⟨o,k b o (fun z=>Z (by simp[z])) e⟩) (fun _ _ e=>e) (fun _ _ _ e=>e) (fun b O e=>⟨#[],by rw[e];simp⟩) (fun m hm=>?_) (fun b u e=>?_) I.bare
 ·have e:b=it:=by simpa using P
  subst e;exact⟨S,W,T,Q⟩
 ·obtain⟨o,es,ep,U,r⟩:=hm;exact⟨o,es,ep,k _ o (Ne.symm W) U,r⟩
 ·refine(I.hok b u e).stay (fun c v Z q=>k c v ?_ q) (fun _ q=>q) fun _ _ q=>q;rcases Z with z|z
  ·rw[z];exact Y b u e
  ·exact Y c _ z
theorem Inv.tok(I:Inv X pins σ H s)(t:Nat):Inv X pins σ H {s with toks:=t}:=I.un (h':=s.heap) (t':=t) Un.refl I.hok
theorem Inv.kept(I:Inv X pins σ H s)(k:∀ b u,s.heap.get? b=some u->h'.get? b=some u):Inv X pins σ H {s with heap:=h',toks:=t'}:=I.un (Un.kept k) (I.hok.kept k)
theorem Inv.laid(I:Inv X pins σ H s)(k:∀ b u,s.heap.get? b=some u->h'.get? b=some u)(Y:s.heap.objs.size<=a)(Z:bj X.prog X.w (upd H a o) h' a o):
  Inv X pins σ (upd H a o) {s with heap:=h',toks:=t'}:=I.un (Un.laid k Y (I.hok.fresh Y)) (I.hok.laid k Y Z)
theorem Inv.write(I:Inv X pins σ H s)(U:IH (H x))(W:e=x\/H e=some (.own x))(k:∀ b u,b≠e->s.heap.get? b=some u->h'.get? b=some u)(Z:∃ u,h'.get? e=some u)
  (Y:bj X.prog X.w (upd H x o) h' x o):Inv X pins σ (upd H x o) {s with heap:=h',toks:=t'}:=I.un (Un.write U W k Z) (I.hok.write U W k Z Y)
theorem Inv.pins_of(I:Inv X pins σ H s)(h:∀ p∈pins',s.heap.get? p.1=some p.2/\H p.1=none/\p.1≠X.env.locals/\p.1 ∉ X.fs/\∀ v,p.2.data≠ .cell v):Inv X pins' σ H s:=
 ⟨I.ok,I.os,I.bare,I.base,I.loc,I.cell,I.free,I.freeC,fun p Z=>(LS.mp Z).elim (fun z=>I.pin p (MX _ z)) (h p),I.hok,I.len⟩
theorem n5{N:List Str}(Z:N.Nodup){i j:Nat}{x:Str}(a:N[i]? =some x)(b:N[j]? =some x):i=j:=by
 obtain⟨W,e1⟩:=KC.mp a;obtain⟨Y,e2⟩:=KC.mp b;exact(List.getElem_inj Z).mp (e1.trans e2.symm)
theorem qA{M:Model}{A:Around}{E:Value->Shared->Prop}{i:Nat}{x:Str}{v:V}{u:Value}{Q:Unit->Shared->Prop}(I:Inv X pins σ H s)(hN:X.N.Nodup)(P:X.N[i]? =some x)(Y:Loc X.env.scope x)(r:RelV v u)
  (h:∀ s',Inv X pins (σ.set i (some v)) H s'->(∃ a,Heap.SameBut a s.heap s'.heap/\(a=X.env.locals\/X.env.cells.lookup x=some a))->Q () s') (hf:X.fn x=true\/X.env.scope.names.lookup x=some .local:=by first|exact .inl rfl|exact .inr rfl|assumption):wpAny M A (storeName X.env x u) Q E s:=by
 obtain⟨m,hn,hl⟩:=id I.loc;have K:(X.env.scope.kind== .class||(X.env.scope.kind== .module && X.env.locals !=X.env.globals))=false:=by rw[I.ok.kind];rfl
 have U:i<σ.length:=by rw[I.len];exact(KC.mp P).1
 have S:=I.cne;have tracked:∀{a:Addr} {h':Heap},(∃ o,s.heap.get? a=some o/\H a=none)->Heap.SameBut a s.heap h'->gk X.prog X.w H h':=fun{a h'} ha hs b ob e=>by
  obtain⟨_,_,W⟩:=ha;refine(I.hok b ob e).stay (fun c F Z q=>(hs.2 c ?_).trans q) (fun _ q=>q) fun _ _ q=>q;rintro rfl;rcases Z with rfl|Z
  ·rw[W]at e;cases e
  ·rw[W]at Z;cases Z
 rcases Y with hk|hk
 ·refine wpAny_storeName_local hk hn (fun h' f hs=>?_) K;obtain⟨oL,_,_,g,_⟩:=id hn;refine h _ ⟨I.ok,I.os,I.bare,⟨fun b o e n R Y=>?_,fun b o e n R Y=>?_,I.base.free,fun b o e Y=>?_,I.base.tups,I.base.frzs,I.base.tbls⟩,⟨_,f,fun j y v' e1 e2 e3=>?_⟩,fun y c e=>?_,I.free,I.freeC,fun p C=>?_,tracked ⟨oL,g,I.free⟩ hs,by simpa using I.len⟩ ⟨_,hs,.inl rfl⟩
  ·exact(hs.2 b (KL (KQ (KF e) I.ok.above))).trans (I.base.keep b o e n R Y)
  ·obtain⟨t,e1⟩:=I.base.slot b o e n R Y;exact⟨t,(hs.2 b (KL (KQ (KF e) I.ok.above))).trans e1⟩
  ·obtain⟨o',e1⟩:=I.base.there b o e Y;exact⟨o',(hs.2 b (KL (KQ (KF e) I.ok.above))).trans e1⟩
  ·by_cases hj:j=i
   ·subst hj;rw[P]at e1;cases e1;rw[K8 U]at e2;cases e2;exact⟨u,r,.inl ⟨hk,by simp⟩⟩
   ·rw[LG (Ne.symm hj)]at e2;obtain⟨B,r',q⟩:=hl j y v' e1 e2 e3;refine⟨B,r',?_⟩;rcases q with⟨k,e⟩|⟨k,c,e,z⟩
    ·refine .inl ⟨k,?_⟩;have:y≠x:=fun e=>hj (n5 hN e1 (e ▸ P));simp[this,e]
    ·exact .inr ⟨k,c,e,z.sameBut hs (S y c e)⟩
  ·obtain⟨F,z⟩:=I.cell y c e;exact⟨F,z.sameBut hs (S y c e)⟩
  ·obtain⟨e,n,ne,l,d⟩:=I.pin p C;exact⟨(hs.2 p.1 ne).trans e,n,ne,l,d⟩
 ·have T:X.fn x=true:=by
   rcases hf with z|z
   ·exact z
   ·rw[z]at hk;cases hk
  obtain⟨c,Z⟩:=I.ok.has x (.inl hk);obtain⟨F,z⟩:=I.cell x c Z;refine wpAny_storeName_cell I.ok.kind hk Z z (fun h' L hs=>?_);obtain⟨oc,O,J⟩:=id z;refine h {s with heap:=h'} ⟨I.ok,I.os,I.bare,⟨fun b o e n R Y=>?_,fun b o e n R Y=>?_,I.base.free,fun b o e Y=>?_,I.base.tups,I.base.frzs,I.base.tbls⟩,⟨m,hn.sameBut hs (Ne.symm (S x c Z)),fun j y v' e1 e2 e3=>?_⟩,fun y G e=>?_,I.free,I.freeC,fun p C=>?_,tracked ⟨oc,O,I.freeC x c Z⟩ hs,by simpa using I.len⟩ ⟨c,hs,.inr Z⟩
  ·exact(hs.2 b (KL (KQ (KF e) (I.ok.cab x c T Z)))).trans (I.base.keep b o e n R Y)
  ·obtain⟨t,e1⟩:=I.base.slot b o e n R Y;exact⟨t,(hs.2 b (KL (KQ (KF e) (I.ok.cab x c T Z)))).trans e1⟩
  ·obtain⟨o',e1⟩:=I.base.there b o e Y;exact⟨o',(hs.2 b (KL (KQ (KF e) (I.ok.cab x c T Z)))).trans e1⟩
  ·by_cases hj:j=i
   ·subst hj;rw[P]at e1;cases e1;rw[K8 U]at e2;cases e2;exact⟨u,r,.inr ⟨.inl hk,c,Z,L⟩⟩
   ·rw[LG (Ne.symm hj)]at e2;obtain⟨B,r',q⟩:=hl j y v' e1 e2 e3;refine⟨B,r',?_⟩;rcases q with q|⟨k,G,e,z'⟩
    ·exact .inl q
    ·refine .inr ⟨k,G,e,z'.sameBut hs ?_⟩;rintro rfl;exact hj (n5 hN e1 (I.ok.inj _ _ _ e Z ▸ P))
  ·by_cases hcc:G=c
   ·subst hcc;exact⟨_,L⟩
   ·obtain⟨w2,z2⟩:=I.cell y G e;exact⟨w2,z2.sameBut hs hcc⟩
  ·obtain⟨e,n,ne,l,d⟩:=I.pin p C;refine⟨(hs.2 p.1 ?_).trans e,n,ne,l,d⟩;intro q;rw[q,O]at e;have q':oc=p.2:=K6 e;exact d F (by rw[<-q'];exact J)
theorem jH{Q:Unit->Shared->Prop}(I:Inv X pins σ H s)(Y:X.N.Nodup)(Z:X.N[i]? =some x)(W:Loc X.env.scope x)(r:RelV v u)
  (h:∀ s',Inv X pins (σ.set i (some v)) H s'->Q () s') (U:X.fn x=true\/X.env.scope.names.lookup x=some .local:=by first|exact .inl rfl|exact .inr rfl|assumption):wpAny M A (storeName X.env x u) Q E s:=
 qA I Y Z W r (fun s' T _=>h s' T) U
theorem Inv.call'{s':Shared}(I:Inv X pins σ H s)(W:s'.os=s.os)(u:Un (jG X.stack) ch H H' s.heap s'.heap)(Y:gk X.prog X.w H' s'.heap)(U:AllBare s'.gens)
  (Z:∀ b∈ch,(b∈X.ex\/X.s₀.heap.objs.size<=b)/\b≠X.env.locals/\(∀ x c,X.env.cells.lookup x=some c->c≠b)/\∀ p∈X.pn++pins,p.1≠b):Inv X pins σ H' s':=by
 obtain⟨h',g',d',t',T⟩:=s';have e:T=s.os:=W;subst e;exact I.call (g':=g') (t':=t') (d':=d') u Y U Z
end
abbrev XK:=Value->Option Addr->Hp->Prop
abbrev St:=List (Option V)
abbrev VK:=V->Hp->Prop
abbrev TE:=St->Hp->VK->Prop
abbrev TT:=St->Hp->(Bool->Hp->Prop)->Prop
abbrev TA:=St->Hp->(List V->Hp->Prop)->Prop
structure Ends where
 nx:St->Hp->Prop
 rt:VK
 bk:St->Hp->Prop:=fun _ _=>False
 ct:St->Hp->Prop:=fun _ _=>False
abbrev TS:=Ends->St->Hp->Prop
def EP(X:Cx)(pins:List (Addr×Obj))(σ:St)(Q:VK)(u:Value)(s':Shared):Prop:=∃ v H',Inv X pins σ H' s'/\RelV v u/\Q v H'
def TP(X:Cx)(pins:List (Addr×Obj))(σ:St)(Q:Bool->Hp->Prop)(b:Bool)(s':Shared):Prop:=∃ H',Inv X pins σ H' s'/\Q b H'
def AP(X:Cx)(pins:List (Addr×Obj))(σ:St)(Q:List V->Hp->Prop)(us:List Value)(s':Shared):Prop:=∃ vs H',Inv X pins σ H' s'/\bo vs us/\Q vs H'
def SP(X:Cx)(pins:List (Addr×Obj))(D:Ends)(f:Flow)(s':Shared):Prop:=
 match f with
 | .next=>∃ σ' H',Inv X pins σ' H' s'/\D.nx σ' H'
 | .brk=>∃ σ' H',Inv X pins σ' H' s'/\D.bk σ' H'
 | .cont=>∃ σ' H',Inv X pins σ' H' s'/\D.ct σ' H'
 | .ret u=>∃ v σ' H',Inv X pins σ' H' s'/\RelV v u/\D.rt v H'
def PE(X:Cx)(e:Expr)(t:TE):Prop:=
 ∀(pins:List (Addr×Obj)) (s:Shared) (σ:St) (H:Hp) (Q:VK),Inv X pins σ H s->t σ H Q->wpAny (model X.prog X.w) X.A (eval e X.env) (EP X pins σ Q) X.xe s
def PT(X:Cx)(e:Expr)(t:TT):Prop:=
 ∀(pins:List (Addr×Obj)) (s:Shared) (σ:St) (H:Hp) (Q:Bool->Hp->Prop),Inv X pins σ H s->t σ H Q->wpAny (model X.prog X.w) X.A (isTrue e X.env (eval e X.env)) (TP X pins σ Q) X.xe s
def PW(X:Cx)(e:Expr)(t:TT):Prop:=
 ∀(whole:Sem Value) (pins:List (Addr×Obj)) (s:Shared) (σ:St) (H:Hp) (Q:Bool->Hp->Prop),Inv X pins σ H s->t σ H Q->wpAny (model X.prog X.w) X.A (isTrue e X.env whole) (TP X pins σ Q) X.xe s
theorem PW.pt(h:PW X e t):PT X e t:=h _
def PA(X:Cx)(es:List Expr)(t:TA):Prop:=
 ∀(pos:Pos) (pins:List (Addr×Obj)) (s:Shared) (σ:St) (H:Hp) (Q:List V->Hp->Prop),Inv X pins σ H s->t σ H Q->wpAny (model X.prog X.w) X.A (spliced (backTo pos (starEach es X.env))) (AP X pins σ Q) X.xe s
def PS(X:Cx)(st:Stmt)(t:TS):Prop:=
 ∀(pins:List (Addr×Obj)) (s:Shared) (σ:St) (H:Hp) (D:Ends),Inv X pins σ H s->t D σ H->wpAny (model X.prog X.w) X.A (exec st X.env) (SP X pins D) X.xe s
def qb(X:Cx)(st:List Stmt)(t:TS):Prop:=
 ∀(pins:List (Addr×Obj)) (s:Shared) (σ:St) (H:Hp) (D:Ends),Inv X pins σ H s->t D σ H->wpAny (model X.prog X.w) X.A (execs st X.env) (SP X pins D) X.xe s
theorem dN{Z:Type}{t:Sem Z}{Q Y:Z->Shared->Prop}{M:Model}{A:Around}{E:Value->Shared->Prop}{s:Shared}(h:wpAny M A t Q E s)(X:∀ a s,Q a s->Y a s):wpAny M A t Y E s:=La h X fun _ _ x=>x
end L2
namespace L2
open PySem PySem.Spec PyProof.Rows
section
variable {X:Cx}
def Hf(i:Nat):TE:=fun σ H Q=>∃ v,σ[i]? =some (some v)/\Q v H
def tC(v:V):TE:=fun _ H Q=>Q v H
theorem rM(T:X.N[i]? =some x)(W:yf X.env.scope x)(Z:(x==("__debug__":Str))=false:=by decide)(Y:(x==("__classdict__":Str))=false:=by decide):PE X (.Name x pos) (Hf i):=by
 intro pins s σ H Q I h;obtain⟨v,e,h⟩:=h;obtain⟨m,S,U⟩:=I.loc;obtain⟨u,r,l⟩:=U i x v T e W;have fin:EP X pins σ Q u s:=⟨v,H,I,r,h⟩;rcases l with⟨hk,hm⟩|⟨hk,c,hc,hcell⟩
 ·exact wpAny_Name (wpAny_loadName_local I.ok.kind hk S hm fin) Z
 ·rcases hk with hk|hk
  ·exact wpAny_Name (wpAny_loadName_cell I.ok.kind hk hc hcell fin) Z
  ·exact wpAny_Name (wpAny_loadName_free I.ok.kind hk hc hcell fin Y) Z
theorem zU{i j pos}:PE X (.Constant (.int i) j pos) (tC (.int i)):=fun _ _ _ H _ I h=>wpAny_Constant_int ⟨.int i,H,I.tok _,⟨_,rfl⟩,h⟩
theorem Hg{b j pos}:PE X (.Constant (.bool b) j pos) (tC (.bl b)):=fun _ _ _ H _ I h=>Constant_bool ⟨.bl b,H,I,rfl,h⟩
theorem EK{j pos}:PE X (.Constant .none j pos) (tC .non):=fun _ _ _ H _ I h=>Constant_none ⟨.non,H,I,rfl,h⟩
theorem EL{x j pos}:PE X (.Constant (.str x) j pos) (tC (.str x)):=fun _ _ _ H _ I h=>Calls.Constant_str ⟨.str x,H,I.tok _,⟨_,rfl⟩,h⟩
def Gl(X:Cx)(x:Str):Prop:=X.env.kindOf x=some .globalImplicit
theorem j9{Q:Value->Shared->Prop}(I:Inv X pins σ H s)(W:Gl X x)(Z:X.mg x=some u)(h:Q u s)
  (Y:(x==("__debug__":Str))=false:=by decide):wpAny (model X.prog X.w) X.A (eval (.Name x pos) X.env) Q E s:=
 NX I.ok.kind W (Calls.loadGlobal_global (by rw[I.ok.glob];exact I.mod.glob.keeps I.bk) Z h) Y
theorem kG{Q:Value->Shared->Prop}(I:Inv X pins σ H s)(U:Gl X x)(Z:X.mg x=none)(Y:bootBuiltins x=some u)(h:Q u s)
  (R:x≠"__name__":=by decide) (S:(x==("__debug__":Str))=false:=by decide):wpAny (model X.prog X.w) X.A (eval (.Name x pos) X.env) Q E s:=by
 obtain⟨P,T,W⟩:=I.mod.blt;exact NX I.ok.kind U (Calls.loadGlobal_builtin (by rw[I.ok.glob];exact I.mod.glob.keeps I.bk) Z (by rw[I.ok.blt];exact T.keeps I.bk) ((W x R).trans Y) h) S
theorem wU(Y:Gl X x)(Z:X.mg x=some u)(r:RelV v u)(W:(x==("__debug__":Str))=false:=by decide):PE X (.Name x pos) (tC v):=
 fun _ _ _ H _ I h=>j9 I Y Z ⟨v,H,I,r,h⟩ W
theorem nF(W:Gl X x)(Z:X.mg x=none)(Y:bootBuiltins x=some u)(r:RelV v u)(T:x≠"__name__":=by decide)(U:(x==("__debug__":Str))=false:=by decide):PE X (.Name x pos) (tC v):=
 fun _ _ _ H _ I h=>kG I W Z Y ⟨v,H,I,r,h⟩ T U
variable {a b:Expr}{ta tb:TE}{pos:Pos}
theorem tW(b:Expr)(h:op≠ .In)(Z:op≠ .NotIn):behindInMarks op b=false:=by
 have e1:(op==CmpOp.In)=false:=by cases op<;>first|rfl|exact absurd rfl h
 have e2:(op==CmpOp.NotIn)=false:=by cases op<;>first|rfl|exact absurd rfl Z
 cases b<;>simp[behindInMarks,e1,e2]
def tB(t:TE):TT:=fun σ H Q=>t σ H fun x H1=>∃ c,x= .bl c/\Q c H1
theorem EM(h:PE X e t)(Z:∀ whole,isTrue e X.env whole=(do let v<-whole;standAt e.pos;holding [v] (truthy v)):=by intro _;rfl):PT X e (tB t):=by
 intro pins s σ H Q I hw;refine isTrue_plain (dN (h pins s σ H _ I hw) fun v s1 ⟨x,H1,I1,r1,q1⟩=>?_) (Z _);obtain⟨d,rfl,q⟩:=q1;cases r1;exact LP ⟨H1,I1,q⟩
variable {tA tB':TT}{rest:List Expr}
def Jg(t u:TT):TT:=fun σ H Q=>t σ H fun c H1=>if c=true then u σ H1 Q else Q false H1
def Kf(t u:TT):TT:=fun σ H Q=>t σ H fun c H1=>if c=true then Q true H1 else u σ H1 Q
def Jh(t:TT):TT:=fun σ H Q=>t σ H fun c H1=>Q (!c) H1
theorem Cz(Z:PT X a tA):PW X (.BoolOp .And [a] pos) tA:=by
 intro wh pins s σ H Q I h;refine isTrue_and (dN (Z pins s σ H Q I h) fun c s1 e=>?_);cases c with
 |true=>exact isTrue_and_nil e
 |false=>exact e
theorem EN(Z:PT X a tA):PW X (.BoolOp .Or [a] pos) tA:=by
 intro wh pins s σ H Q I h;refine isTrue_or (dN (Z pins s σ H Q I h) fun c s1 e=>?_);cases c with
 |false=>exact isTrue_or_nil e
 |true=>exact e
theorem EO(Z:PT X a tA)(Y:PW X (.BoolOp .And (b::rest) pos) tB'):PW X (.BoolOp .And (a::b::rest) pos) (Jg tA tB'):=by
 intro wh pins s σ H Q I h;refine isTrue_and (dN (Z pins s σ H _ I h) fun c s1 ⟨H1,I1,q1⟩=>?_);cases c with
 |true=>exact Y wh pins s1 σ H1 Q I1 q1
 |false=>exact⟨H1,I1,q1⟩
theorem Hh(Z:PT X a tA)(Y:PW X (.BoolOp .Or (b::rest) pos) tB'):PW X (.BoolOp .Or (a::b::rest) pos) (Kf tA tB'):=by
 intro wh pins s σ H Q I h;refine isTrue_or (dN (Z pins s σ H _ I h) fun c s1 ⟨H1,I1,q1⟩=>?_);cases c with
 |true=>exact⟨H1,I1,q1⟩
 |false=>exact Y wh pins s1 σ H1 Q I1 q1
theorem ER(Z:PT X a tA):PT X (.UnaryOp .Not a pos) (Jh tA):=by
 intro pins s σ H Q I h;exact isTrue_not (Z pins s σ H (fun c Y=>Q (!c) Y) I h)
def Hi(ta tb:TE):TE:=fun σ H Q=>ta σ H fun x H1=>∃ c,x= .bl c/\if c=true then tb σ H1 Q else Q (.bl false) H1
def Ji(ta tb:TE):TE:=fun σ H Q=>ta σ H fun x H1=>∃ c,x= .bl c/\if c=true then Q (.bl true) H1 else tb σ H1 Q
def Hj(ta:TE):TE:=fun σ H Q=>ta σ H fun x H1=>∃ c,x= .bl c/\Q (.bl (!c)) H1
theorem ES{op}(h:PE X a t):PE X (.BoolOp op [a] pos) t:=fun pins s σ H Q I hw=>BoolOp_one (h pins s σ H Q I hw)
theorem ET(Y:PE X a ta)(W:PE X (.BoolOp .And (b::rest) pos) tb):PE X (.BoolOp .And (a::b::rest) pos) (Hi ta tb):=by
 intro pins s σ H Q I h;refine BoolOp_and (dN (Y pins s σ H _ I h) fun v s1 ⟨x,H1,I1,r1,Z⟩=>?_);obtain⟨c,rfl,Z⟩:=Z;cases r1;refine LP ?_;cases c with
 |true=>exact W pins s1 σ H1 Q I1 Z
 |false=>exact⟨.bl false,H1,I1,rfl,Z⟩
theorem Hk(Y:PE X a ta)(W:PE X (.BoolOp .Or (b::rest) pos) tb):PE X (.BoolOp .Or (a::b::rest) pos) (Ji ta tb):=by
 intro pins s σ H Q I h;refine BoolOp_or (dN (Y pins s σ H _ I h) fun v s1 ⟨x,H1,I1,r1,Z⟩=>?_);obtain⟨c,rfl,Z⟩:=Z;cases r1;refine LP ?_;cases c with
 |false=>exact W pins s1 σ H1 Q I1 Z
 |true=>exact⟨.bl true,H1,I1,rfl,Z⟩
theorem EU(Y:PE X a ta):PE X (.UnaryOp .Not a pos) (Hj ta):=by
 intro pins s σ H Q I h;refine UnaryOp_ (dN (Y pins s σ H _ I h) fun v s1 ⟨x,H1,I1,r1,Z⟩=>?_);obtain⟨c,rfl,Z⟩:=Z;cases r1;exact not_of (LP ⟨.bl (!c),H1,I1,rfl,Z⟩)
end
end L2
namespace L2
open PySem PySem.Spec PyProof.Rows
def jB(K:W.Frag)(H:Hp)(a:Addr)(xs:List V):Prop:=
 Rd H a (.lst xs)\/
  ∃(o:Obj) (its:Array Value) (n:Nat),K.lookup a=some o/\o.cls= .type "list"/\o.dict=none/\o.data= .seq its n/\its.size<=sizeLine/\bo xs its.toList
def la(K:W.Frag)(H:Hp)(a:Addr)(xs:List V):Prop:=
 Rd H a (.tup xs)\/
  ∃(o:Obj) (its:Array Value) (n:Nat),K.lookup a=some o/\o.cls= .type "tuple"/\o.data= .seq its n/\its.size<=sizeLine/\bo xs its.toList
def Jj:Value->Option V
 | .none=>some .non
 | .bool b=>some (.bl b)
 | .int i _=>some (.int i)
 | .str x _=>some (.str x)
 | .bytes b _=>some (.byt b)
 | .float b _=>some (.flt b)
 | .ref a=>some (.ref a)
 | .type n=>some (.ty n)
 |_=>none
theorem RelV.abs(r:RelV x u):Jj u=some x:=by
 cases x with
 |non=>cases r;rfl
 |bl _=>cases r;rfl
 |int _=>obtain⟨t,rfl⟩:=r;rfl
 |str _=>obtain⟨t,rfl⟩:=r;rfl
 |byt _=>obtain⟨t,rfl⟩:=r;rfl
 |flt _=>obtain⟨t,rfl⟩:=r;rfl
 |ref _=>cases r;rfl
 |ty _=>cases r;rfl
theorem RelV.inj(r:RelV x u)(q:RelV y u):x=y:=K6 (r.abs.symm.trans q.abs)
theorem bo.inj:∀{xs ys:List V} {us:List Value},bo xs us->bo ys us->xs=ys
 |_,_,_,.nil,.nil=>rfl
 |_,_,_,.cons r t,.cons r' t'=>by rw[r.inj r',bo.inj t t']
section
variable {X:Cx}{pins:List (Addr×Obj)}{σ:St}{H:Hp}{s:Shared}{a:Addr}{xs ys:List V}
theorem jB.of{K:W.Frag}(h:H a=some (.lst xs)):jB K H a xs:=.inl (.inl h)
theorem la.of{K:W.Frag}(h:H a=some (.tup xs)):la K H a xs:=.inl (.inl h)
theorem Inv.list(I:Inv X pins σ H s)(h:jB X.K H a xs):∃ its:List Value,bo xs its/\PlainL s.heap a its.toArray/\xs.length<=sizeLine:=by
 rcases h with h|⟨o,its,n,hk,hc,hd,hs,hz,r⟩
 ·obtain⟨z,its,n,r,e⟩:=h.ok I.hok;exact⟨its,r,⟨_,n,e,rfl,rfl,rfl⟩,z⟩
 ·refine⟨its.toList,r,⟨o,n,I.kIn a o hk,hc,hd,by simpa using hs⟩,?_⟩
  have e:=r.length;simp only[Array.length_toList]at e;omega
theorem Inv.tuple(I:Inv X pins σ H s)(h:la X.K H a xs):∃ its:List Value,bo xs its/\IsTup s.heap a its.toArray/\xs.length<=sizeLine:=by
 rcases h with h|⟨o,its,n,hk,hc,hs,hz,r⟩
 ·obtain⟨z,its,r,p⟩:=h.ok I.hok;exact⟨its,r,p,z⟩
 ·refine⟨its.toList,r,⟨o,I.kIn a o hk,hc,n,by simpa using hs⟩,?_⟩
  have e:=r.length;simp only[Array.length_toList]at e;omega
theorem Inv.list_inj(I:Inv X pins σ H s)(h:jB X.K H a xs)(h':jB X.K H a ys):xs=ys:=by
 obtain⟨its,r,⟨o,n,e,_,_,d⟩,_⟩:=I.list h;obtain⟨its',Y,⟨U,W,Z,_,_,d'⟩,_⟩:=I.list h';rw[e]at Z;cases Z;rw[d]at d';injection d' with d1 _;have:its=its':=by simpa using NF Array.toList d1
 subst this;exact r.inj Y
theorem Inv.tuple_inj(I:Inv X pins σ H s)(h:la X.K H a xs)(h':la X.K H a ys):xs=ys:=by
 obtain⟨its,r,⟨o,e,_,n,d⟩,_⟩:=I.tuple h;obtain⟨its',Y,⟨U,Z,_,W,d'⟩,_⟩:=I.tuple h';rw[e]at Z;cases Z;rw[d]at d';injection d' with d1 _;have:its=its':=by simpa using NF Array.toList d1
 subst this;exact r.inj Y
end
abbrev Cx.wish(X:Cx)(E:Value->Shared->Prop):Cx:={X with xe:=E}
abbrev Cx.nox(X:Cx):Cx:=X.wish fun _ _=>False
theorem Cx.Ok.wish{X:Cx}(Z:X.Ok)(E:Value->Shared->Prop):(X.wish E).Ok:=
 ⟨Z.mod,Z.kind,Z.glob,Z.blt,Z.above,Z.inj,Z.has,Z.cab,Z.hd,Z.frames,Z.stk,Z.exf,Z.bs,Z.bsz,Z.noex,Z.exfs,Z.funs,Z.frf⟩
theorem Cx.Ok.unwish{X:Cx}(Z:(X.wish E).Ok):X.Ok:=
 ⟨Z.mod,Z.kind,Z.glob,Z.blt,Z.above,Z.inj,Z.has,Z.cab,Z.hd,Z.frames,Z.stk,Z.exf,Z.bs,Z.bsz,Z.noex,Z.exfs,Z.funs,Z.frf⟩
section
variable {X:Cx}{pins:List (Addr×Obj)}{σ:St}{H:Hp}{s:Shared}{E:Value->Shared->Prop}
theorem Inv.wish(I:Inv X pins σ H s)(E:Value->Shared->Prop):Inv (X.wish E) pins σ H s:=⟨I.ok.wish E,I.os,I.bare,I.base,I.loc,I.cell,I.free,I.freeC,I.pin,I.hok,I.len⟩
theorem Inv.unwish(I:Inv (X.wish E) pins σ H s):Inv X pins σ H s:=⟨I.ok.unwish,I.os,I.bare,I.base,I.loc,I.cell,I.free,I.freeC,I.pin,I.hok,I.len⟩
theorem SP.unwish(h:SP (X.wish E) pins D f s'):SP X pins D f s':=by
 cases f with
 |next=>obtain⟨Z,Y,I,q⟩:=h;exact⟨Z,Y,I.unwish,q⟩
 |brk=>obtain⟨Z,Y,I,q⟩:=h;exact⟨Z,Y,I.unwish,q⟩
 |cont=>obtain⟨Z,Y,I,q⟩:=h;exact⟨Z,Y,I.unwish,q⟩
 |ret u=>obtain⟨v,Z,Y,I,r,q⟩:=h;exact⟨v,Z,Y,I.unwish,r,q⟩
theorem qb.nox{Z:List Stmt}{t:TS}(h:qb X.nox Z t):qb X Z t:=fun pins s σ H D I hw=>
 La (h pins s σ H D (I.wish _) hw) (fun _ _ q=>q.unwish) fun _ _ z=>False.elim z
end
section
variable {X:Cx}{st:Stmt}{rest:List Stmt}{t u:TS}{e:Expr}{te:TE}{pos:Pos}
def Hl:TS:=fun D σ H=>D.nx σ H
def Jk(t u:TS):TS:=fun D σ H=>t {D with nx:=u D} σ H
theorem CA:qb X [] Hl:=fun _ _ σ H _ I h=>MO ⟨σ,H,I,h⟩
theorem tX(U:PS X st t)(Y:qb X rest u):qb X (st::rest) (Jk t u):=by
 intro pins s σ H D I h;refine Ow (dN (U pins s σ H {D with nx:=u D} I h) fun f s1 q=>?_);cases f with
 |next=>
  obtain⟨Z,W,T,q⟩:=q;exact Y pins s1 Z W D T q
 |ret v=>exact q
 |brk=>exact q
 |cont=>exact q
theorem rN(Z:PS X st t):qb X [st] t:=by
 intro pins s σ H D I h;refine Ow (dN (Z pins s σ H D I h) fun f s1 q=>?_);cases f with
 |next=>exact MO q
 |ret v=>exact q
 |brk=>exact q
 |cont=>exact q
theorem Inv.quiet(I:Inv X pins σ H s):interactive X.env=false:=by simp[interactive,I.ok.kind]
def Hm(te:TE):TS:=fun D σ H=>te σ H fun _ H1=>D.nx σ H1
theorem CB(Z:PE X e te)(hs:swapsWith e none pos.line X.env=pure false:=by rfl):PS X (.Expr e pos) (Hm te):=by
 intro pins s σ H D I h;exact wpAny_Expr_any (dN (Z pins s σ H _ I h) fun v s1 ⟨x,H1,I1,r1,q1⟩=>⟨σ,H1,I1,q1⟩) I.quiet hs
def Jl(te:TE):TS:=fun D σ H=>te σ H D.rt
theorem EV(Z:PE X e te):PS X (.Return (some e) pos) (Jl te):=by
 intro pins s σ H D I h;exact wpAny_Return_some (dN (Z pins s σ H _ I h) fun v s1 ⟨x,H1,I1,r1,q1⟩=>⟨x,σ,H1,I1,r1,q1⟩)
def Jm(c:TT)(t u:TS):TS:=fun D σ H=>c σ H fun b H1=>if b=true then t D σ H1 else u D σ H1
theorem Hn(Z:PT X c tc)(Y:qb X a t)(W:qb X b u):PS X (.If c a b pos) (Jm tc t u):=by
 intro pins s σ H D I h;refine wpAny_If (dN (Z pins s σ H _ I h) fun d s1 ⟨H1,I1,q1⟩=>?_);cases d with
 |true=>exact Y pins s1 σ H1 D I1 q1
 |false=>exact W pins s1 σ H1 D I1 q1
end
abbrev TG:=V->St->Hp->(St->Hp->Prop)->Prop
abbrev Ef:=List V->St->Hp->(St->Hp->Prop)->Prop
def PG(X:Cx)(target:Expr)(t:TG):Prop:=
 ∀(pins:List (Addr×Obj)) (s:Shared) (σ:St) (H:Hp) (v:V) (u:Value) (Q:St->Hp->Prop),Inv X pins σ H s->RelV v u->t v σ H Q->
  wpAny (model X.prog X.w) X.A (assign target X.env u) (fun _ s'=>∃ σ' H',Inv X pins σ' H' s'/\Q σ' H') X.xe s
def zV(X:Cx)(ts:List Expr)(t:Ef):Prop:=
 ∀(pins:List (Addr×Obj)) (s:Shared) (σ:St) (H:Hp) (vs:List V) (us:List Value) (Q:St->Hp->Prop),Inv X pins σ H s->bo vs us->t vs σ H Q->
  wpAny (model X.prog X.w) X.A (assignInOrder ((assignEach ts X.env).map (·.2)) us) (fun _ s'=>∃ σ' H',Inv X pins σ' H' s'/\Q σ' H') X.xe s
abbrev EX:=V->V->V->Hp->(Hp->Prop)->Prop
def Ho(X:Cx)(t:EX):Prop:=
 ∀(pins:List (Addr×Obj)) (s:Shared) (σ:St) (H:Hp) (o i v:V) (ov iv u:Value) (Q:Hp->Prop),Inv X pins σ H s->RelV o ov->RelV i iv->RelV v u->t o i v H Q->
  wpAny (model X.prog X.w) X.A (setItem ov iv u) (fun _ s'=>∃ H',Inv X pins σ H' s'/\Q H') X.xe s
section
variable {X:Cx}{pos:Pos}
def zW(i:Nat):TG:=fun v σ H Q=>Q (σ.set i (some v)) H
theorem CC(Y:X.N.Nodup)(Z:X.N[i]? =some x)(W:Loc X.env.scope x)(U:X.fn x=true\/X.env.scope.names.lookup x=some .local:=by first|exact .inl rfl|exact .inr rfl|assumption):PG X (.Name x pos) (zW i):=by
 intro pins s σ H v u Q I r h;exact wpAny_assign_Name (jH I Y Z W r (fun s' T=>⟨_,H,T,h⟩) U)
def Jn:Ef:=fun vs σ H Q=>vs=[]/\Q σ H
def Hq(t:TG)(u:Ef):Ef:=fun vs σ H Q=>∃ v r,vs=v::r/\t v σ H fun σ' H'=>u r σ' H' Q
theorem CD:zV X [] Jn:=by
 intro pins s σ H vs us Q I r h;obtain⟨e,h⟩:=h;subst e;cases r;exact assignInOrder_nil ⟨σ,H,I,h⟩
theorem zX(Y:PG X e t)(Z:zV X es u)
  (hs:(assignEach (e::es) X.env).map (·.2)=assign e X.env::(assignEach es X.env).map (·.2):=by rfl):zV X (e::es) (Hq t u):=by
 intro pins s σ H vs us Q I r h;obtain⟨v,W,e1,h⟩:=h;subst e1;cases r with
 |cons r rr=>
  rw[hs];refine N0 (dN (Y pins s σ H _ _ _ I r h) fun _ s1 ⟨σ1,H1,I1,q1⟩=>?_);exact Z pins s1 σ1 H1 _ _ Q I1 rr q1
def Jo(K:W.Frag)(n:Nat)(t:Ef):TG:=fun v σ H Q=>∃ a xs,v= .ref a/\la K H a xs/\xs.length=n/\t xs σ H Q
theorem EY(U:X.calm=true)(h:zV X es t)
  (P:(assignEach es X.env).length=n:=by rfl) (Z:(assignEach es X.env).findIdx? (·.1)=none:=by rfl):PG X (.Tuple es k pos) (Jo X.K n t):=by
 intro pins s σ H v u Q I r hw;obtain⟨a,xs,e1,W,S,hw⟩:=hw;subst e1;cases r;obtain⟨its,Y,T,N⟩:=I.tuple W;refine assign_Tuple_tuple (I.ok.hd U) T (by simp[P, <-S,Y.length]) Z fun h' O=>?_
 have R:Inv X pins σ H {s with heap:=h'}:=I.kept (t':=s.toks) fun b o e=>O b o (KL (KF e)) e;exact h pins _ σ H xs _ Q R (by simpa using Y) hw
def Jp(to ti:TE)(t:EX):TG:=fun v σ H Q=>to σ H fun o H1=>ti σ H1 fun i H2=>t o i v H2 fun H3=>Q σ H3
theorem EZ(Z:PE X o to)(Y:PE X i ti)(hs:Ho X t)
  (W:∀ v,assign (.Subscript o i pos) X.env v=(do
   let ov<-holding [v] (eval o X.env);let iv<-holding [v,ov] (eval i X.env)
   standAt pos
   holding [v,ov,iv] (setItem ov iv v)
   release [v,ov,iv] []):=by intro _;rfl):PG X (.Subscript o i pos) (Jp to ti t):=by
 intro pins s σ H v u Q I r h;rw[W];refine Kv (Lm (dN (Z pins s σ H _ I h) fun ov s1 ⟨x,H1,I1,r1,q1⟩=>?_));refine Kv (Lm (dN (Y pins s1 σ H1 _ I1 q1) fun iv s2 ⟨y,H2,I2,r2,q2⟩=>?_));refine Kv (LA (Kv (Lm (dN (hs pins s2 σ H2 x y v ov iv u _ I2 r1 r2 r q2) fun _ s3 ⟨H3,I3,q3⟩=>?_))));exact wpAny_release ⟨σ,H3,I3,q3⟩
def E5(te:TE)(g:TG):TS:=fun D σ H=>te σ H fun x H1=>g x σ H1 D.nx
theorem E6(Z:PE X e te)(W:PG X tg g)(hs:swapsWithSole [tg] e pos.line X.env=pure false:=by rfl)(U:swappedStores [tg] e X.env=pure none:=by rfl)
  (Y:(assignEach [tg] X.env).map (·.2)=[assign tg X.env]:=by rfl):PS X (.Assign [tg] e pos) (E5 te g):=by
 intro pins s σ H D I h;refine wpAny_Assign_stores (dN (Z pins s σ H _ I h) fun v s1 ⟨x,H1,I1,r1,q1⟩=>?_) hs U;rw[Y];exact dN (W pins s1 σ H1 x v _ I1 r1 q1) fun _ s2 q=>q
theorem zY(U:X.N.Nodup)(W:X.N[i]? =some x)(T:Loc X.env.scope x)(Z:PE X e te)(hs:swapsWith e (some (.Name x pos')) pos.line X.env=pure false:=by rfl)(S:X.fn x=true\/X.env.scope.names.lookup x=some .local:=by first|exact .inl rfl|exact .inr rfl|assumption):
  PS X (.Assign [.Name x pos'] e pos) (E5 te (zW i)):=by
 intro pins s σ H D I h;refine wpAny_Assign_Name (dN (Z pins s σ H _ I h) fun v s1 ⟨y,H1,I1,r1,q1⟩=>?_) hs;exact jH I1 U W T r1 (fun s2 Y=>⟨_,H1,Y,q1⟩) S
def Jq(i j:Nat)(ta:TA):TS:=fun D σ H=>ta σ H fun vs H1=>∃ v w,vs=[v,w]/\D.nx ((σ.set i (some v)).set j (some w)) H1
theorem E7{kt k2 pt2}(L:X.calm=true)(Q:X.N.Nodup)(K:X.N[i]? =some x)(G:X.N[j]? =some y)(S:i≠j)
  (P:X.env.scope.names.lookup x=some .local) (R:X.env.scope.names.lookup y=some .local) (J:PA X [a,b] ta)
  (C:swappedStores [.Tuple [.Name x px,.Name y py] kt pt] (.Tuple [a,b] k2 pt2) X.env=pure (some [x,y]))
  (hs:swapsWithSole [.Tuple [.Name x px,.Name y py] kt pt] (.Tuple [a,b] k2 pt2) pos.line X.env=pure false:=by rfl):
  PS X (.Assign [.Tuple [.Name x px,.Name y py] kt pt] (.Tuple [a,b] k2 pt2) pos) (Jq i j ta):=by
 intro pins s σ H D I h;rw[exec_Assign_arm];refine Kv (LA ?_);rw[hs];refine Kv (Ky ?_);rw[if_neg (by decide)]
 refine Kv (Tuple_ (dN (J _ pins s σ H _ I h) fun us s1 ⟨vs,H1,I1,r1,U⟩=>?_));obtain⟨v,w,e1,U⟩:=U;subst e1;obtain⟨Z,Y,rfl,z,W⟩:∃ Z Y,us=[Z,Y]/\RelV v Z/\RelV w Y:=by
  cases r1 with
  | cons p q=>
   cases q with
   |cons p' q'=>
    cases q';exact⟨_,_,rfl,p,p'⟩
 refine Ln ?_ (by show 2<=sizeLine;decide)
 have E:Inv X pins σ H1 {s1 with heap:=s1.heap.push {cls:=.type "tuple",data:=.seq [Z,Y].toArray}}:=I1.kept (t':=s1.toks) fun b o e=>Kw _ e;rw[C];refine Kv (Ky ?_);show wpAny (model X.prog X.w) X.A (do rule "assign.swapped-stores";let items<-unpackItems (.ref s1.heap.objs.size) 2 none;assignInOrder [fun v=>bindName X.env y v,fun v=>bindName X.env x v] items.reverse;pure Flow.next) _ _ _
 refine Kv (M8 (Kv (unpackItems_tuple (items:= #[Z,Y]) (I.ok.hd L) (IsTup.new s1.heap _) fun h' T=>?_)));have B:=E.kept (h':=h') (t':=s1.toks) fun b o e=>T b o (KL (KF e)) e;show wpAny _ _ (assignInOrder [fun v=>bindName X.env y v,fun v=>bindName X.env x v] [Y,Z]>>=fun _=>pure Flow.next) _ _ _;refine Kv (N0 (wpAny_bindName (jH B Q G (.inl R) W (fun s2 F=>?_) (.inr R))));refine N0 (wpAny_bindName (jH F Q K (.inl P) z (fun s3 O=>assignInOrder_nil (Ky ?_)) (.inr P)));rw[List.set_comm _ _ (Ne.symm S)]at O;exact⟨_,H1,O,U⟩
end
section
variable {X:Cx}{pos:Pos}
def E8(c:TT)(tb:TS):TS:=fun D σ H=>∃ W:Nat->St->Hp->Prop,(∃ m,W m σ H)/\∀ m σ H,W m σ H->
 c σ H fun b H1=>if b=true then ∃ N:St->Hp->Prop,(∀ σ' H',N σ' H'->∃ m',m'<m/\W m' σ' H')/\tb {D with nx:=N,ct:=N,bk:=D.nx} σ H1 else D.nx σ H1
theorem zZ{c:Expr}{body:List Stmt}{O:TT}{tb:TS}(L:PassesOwn (model X.prog X.w) X.A X.env X.xe)(J:PT X c O)(G:qb X body tb):PS X (.While c body [] pos) (E8 O tb):=by
 intro pins s σ H D I h;obtain⟨W,⟨m0,w0⟩,turn⟩:=h;refine wpAny_While (codeAny_whileLoop (fun n s'=>∃ σ' H',Inv X pins σ' H' s'/\W n σ' H') ?_ m0 ⟨σ,H,I,w0⟩);rintro n s1 ⟨σ1,H1,I1,w1⟩;refine Mu L (dN (J pins s1 σ1 H1 _ I1 (turn n σ1 H1 w1)) fun b s2 ⟨H2,I2,T⟩=>?_);cases b with
 | true=>
  obtain⟨N,K,T⟩:=T;rw[if_pos rfl];refine Mu L (dN (G pins s2 σ1 H2 _ I2 T) fun f s3 U=>?_);cases f with
  |next=>
   obtain⟨Z,Y,R,Q⟩:=U;obtain⟨P,hm,S⟩:=K Z Y Q;exact⟨P,hm,Z,Y,R,S⟩
  |cont=>
   obtain⟨Z,Y,R,Q⟩:=U;obtain⟨P,hm,S⟩:=K Z Y Q;exact⟨P,hm,Z,Y,R,S⟩
  |brk=>exact U
  |ret v=>exact U
 |false=>
  rw[if_neg Mb];exact MO ⟨σ1,H2,I2,T⟩
end
structure It where
 go:Nat->Hp->Prop
 yld:Nat->Hp->V->Hp->Prop
 stop:Nat->Hp->Prop
def jI(X:Cx)(pins:List (Addr×Obj))(H:Hp)(b:Addr):Prop:=
 H b=none/\b≠X.env.locals/\b ∉ X.fs/\(b∈X.ex\/X.s₀.heap.objs.size<=b)/\(∀ x c,X.env.cells.lookup x=some c->c≠b)/\∀ p∈X.pn++pins,p.1≠b
theorem Inv.fpOk{Y:Hp}(I:Inv X pins σ H s)(Z:s.heap.objs.size<=b)(U:Y b=none):jI X pins Y b:=by
 refine⟨U,Mi (KQ I.lt Z),I.nofs Z,.inr (KP I.sz Z),fun x c e z=>?_,fun p W z=>?_⟩
 ·obtain⟨v,q⟩:=I.cell x c e;exact absurd (KQ q.lt (by rw[z];exact Z)) (Mh _)
 ·exact absurd (KQ (KF (I.pin p W).1) (by rw[z];exact Z)) (Mh _)
structure Turn(P:Program)(w:World)(K:W.Frag)(tg:Expr)(J:It)(fp:List Addr)(it:Addr)(tn:Nat->Heap->Prop):Prop where
 mem:it∈fp
 obj:∀ i h,tn i h->∀ b∈fp,∃ o,h.get? b=some o/\∀ v,o.data≠ .cell v
 keep:∀ i h h',tn i h->(∀ b∈fp,∀ o,h.get? b=some o->h'.get? b=some o)->tn i h'
 item:∀(X:Cx),X.prog=P->X.w=w->X.K=K->X.calm=true->∀(i:Nat) (pins:List (Addr×Obj)) (s:Shared) (σ:St) (H:Hp) (E:Value->Shared->Prop),Inv X pins σ H s->(∀ b∈fp,jI X pins H b)->tn i s.heap->J.go i H->
  wpAny (model P w) X.A (pyNext (.ref it)) (fun r s1=>∃ u,r=some u/\
   wpAny (model P w) X.A (letOwnedTupleGo tg (.ref it) u) (fun _ s2=>∃ x H',Inv X pins σ H' s2/\RelV x u/\J.yld i H x H'/\tn (i+1) s2.heap/\∀ b∈fp,H' b=none) E s1) E s
 done:∀(X:Cx),X.prog=P->X.w=w->X.K=K->X.calm=true->∀(i:Nat) (pins:List (Addr×Obj)) (s:Shared) (σ:St) (H:Hp) (E:Value->Shared->Prop),Inv X pins σ H s->(∀ b∈fp,jI X pins H b)->tn i s.heap->J.stop i H->
  wpAny (model P w) X.A (pyNext (.ref it)) (fun r s1=>r=none/\Inv X pins σ H s1) E s
 self:∀(A:Around) (i:Nat) (s:Shared) (Q:Value->Shared->Prop) (E:Value->Shared->Prop),tn i s.heap->Q (.ref it) s->wpAny (model P w) A (pyIter (.ref it)) Q E s
abbrev TI:=St->Hp->(It->Hp->Prop)->Prop
def J3(X:Cx)(pins:List (Addr×Obj))(σ:St)(tg:Expr)(R:It->Hp->Prop)(itv:Value)(s2:Shared):Prop:=
 ∃(it:Addr) (fp:List Addr) (tn:Nat->Heap->Prop) (J:It) (H':Hp),itv= .ref it/\Inv X pins σ H' s2/\Turn X.prog X.w X.K tg J fp it tn/\tn 0 s2.heap/\(∀ b∈fp,jI X pins H' b)/\R J H'
def PI(X:Cx)(tg iter:Expr)(wi:TI):Prop:=
 ∀(pins:List (Addr×Obj)) (s:Shared) (σ:St) (H:Hp) (R:It->Hp->Prop),Inv X pins σ H s->wi σ H R->
  wpAny (model X.prog X.w) X.A (eval iter X.env) (fun v s1=>wpAny (model X.prog X.w) X.A (pyIter v) (J3 X pins σ tg R) X.xe s1) X.xe s
theorem z9{s:Shared}{Q:Unit->Shared->Prop}(W:s.heap.get? it=some o)(U:o.cls= .type n)(Y:o.data= .fields vs)
    (X:["enumerate","zip","dict_itemiterator","dict_reverseitemiterator","odict_iterator","itertools.zip_longest","itertools.pairwise"].contains n=false) (Z:Q () s):wpAny M A (letOwnedTupleGo tg (.ref it) u) Q E s:=by
  unfold letOwnedTupleGo;cases tg <;>first
    |exact Ky Z
    |(cases u<;>first
        |exact Ky Z
        | (refine Kv (wpAny_load W ?_)
           rw[U,Y];show wpAny M A (if (["enumerate","zip","dict_itemiterator","dict_reverseitemiterator","odict_iterator","itertools.zip_longest","itertools.pairwise"].contains n && vs[0]? ==some (rawInt _))=true then _ else _) Q E s;rw[if_neg (by intro h;rw[X,MZ]at h;cases h)]
           exact Ky Z))
def IJ(K:W.Frag)(a:Addr):It:=
 ⟨fun i H=>∃ xs x,jB K H a xs/\xs[i]? =some x,fun i H x H'=>H'=H/\∀ xs,jB K H a xs->xs[i]? =some x,fun i H=>∃ xs,jB K H a xs/\xs.length<=i⟩
def Jr(K:W.Frag)(a:Addr):It:=
 ⟨fun i H=>∃ xs x,la K H a xs/\xs[i]? =some x,fun i H x H'=>H'=H/\∀ xs,la K H a xs->xs[i]? =some x,fun i H=>∃ xs,la K H a xs/\xs.length<=i⟩
def Hr(lo:Int)(n:Nat):It:=⟨fun i _=>i<n,fun i H x H'=>H'=H/\x= .int (lo+i),fun i _=>n<=i⟩
theorem yg{P:Program}{w:World}{K:W.Frag}{r:Expr}(a it:Addr):Turn P w K r (IJ K a) [it] it (fun i h=>h.IsListIter it a i) where
 mem:=by simp
 obj:=fun i h st b Z=>by
  have e:b=it:=by simpa using Z
  subst e;obtain⟨o,e,c,d⟩:=st;exact⟨o,e,fun v z=>by rw[d]at z;cases z⟩
 keep:=fun i h h' st k=>st.at fun o e=>k it (by simp) o e
 item:=by
  intro X O hw R J i pins s σ H E I hf st L;subst O hw R;obtain⟨xs,x,U,Q⟩:=L;obtain⟨its,N,p,y⟩:=I.list U;obtain⟨u,t,A⟩:=N.get Q;obtain⟨f0,f1,f2,S,f4,T⟩:=hf it (by simp)
  refine wpAny_pyNext_list_item st p.isList (x:=u) (by simpa using t) fun h' Y F=>?_
  have B:Inv X pins σ H {s with heap:=h'}:=I.turned (t':=s.toks) (fun b o Z e=>(F.2 b Z).trans e) f0 f1 S f4 T;obtain⟨o,e,c,d⟩:=id Y;exact⟨u,rfl,z9 (s:={s with heap:=h'}) e c d (by decide) ⟨x,H,B,A,⟨rfl,fun ys G=>by rw[I.list_inj G U];exact Q⟩,Y,fun b Z=>(hf b Z).1⟩⟩
 done:=by
  intro X O hw R J i pins s σ H E I hf st L;subst O hw R;obtain⟨xs,U,Q⟩:=L;obtain⟨its,N,p,y⟩:=I.list U;obtain⟨f0,f1,f2,S,f4,T⟩:=hf it (by simp)
  have q:=N.length;exact wpAny_pyNext_list_end (I.ok.hd J) st p.isList (by simp;omega) fun h' C=>⟨rfl,I.turned (t':=s.toks) (fun b o Z e=>C b o Z e) f0 f1 S f4 T⟩
 self:=fun _ _ _ _ _ st h=>wpAny_pyIter_listiter st h
theorem vw{P:Program}{w:World}{K:W.Frag}{r:Expr}(a it:Addr):Turn P w K r (Jr K a) [it] it (fun i h=>h.IsTupleIter it a i) where
 mem:=by simp
 obj:=fun i h st b Z=>by
  have e:b=it:=by simpa using Z
  subst e;obtain⟨o,e,c,d⟩:=st;exact⟨o,e,fun v z=>by rw[d]at z;cases z⟩
 keep:=fun i h h' st k=>st.at fun o e=>k it (by simp) o e
 item:=by
  intro X O hw R J i pins s σ H E I hf st L;subst O hw R;obtain⟨xs,x,U,Q⟩:=L;obtain⟨its,N,p,y⟩:=I.tuple U;obtain⟨u,t,A⟩:=N.get Q;obtain⟨f0,f1,f2,S,f4,T⟩:=hf it (by simp)
  refine wpAny_pyNext_tuple_item st (show s.heap.IsTuple a its.toArray from p) (x:=u) (by simpa using t) fun h' Y F=>?_
  have B:Inv X pins σ H {s with heap:=h'}:=I.turned (t':=s.toks) (fun b o Z e=>(F.2 b Z).trans e) f0 f1 S f4 T;obtain⟨o,e,c,d⟩:=id Y;exact⟨u,rfl,z9 (s:={s with heap:=h'}) e c d (by decide) ⟨x,H,B,A,⟨rfl,fun ys G=>by rw[I.tuple_inj G U];exact Q⟩,Y,fun b Z=>(hf b Z).1⟩⟩
 done:=by
  intro X O hw R J i pins s σ H E I hf st L;subst O hw R;obtain⟨xs,U,Q⟩:=L;obtain⟨its,N,p,y⟩:=I.tuple U;obtain⟨f0,f1,f2,S,f4,T⟩:=hf it (by simp)
  have q:=N.length;exact wpAny_pyNext_tuple_end (I.ok.hd J) st (show s.heap.IsTuple a its.toArray from p) (by simp;omega) fun h' C=>⟨rfl,I.turned (t':=s.toks) (fun b o Z e=>C b o Z e) f0 f1 S f4 T⟩
 self:=fun _ _ _ _ _ st h=>wpAny_pyIter_tupleiter st h
theorem vx{P:Program}{w:World}{K:W.Frag}{A:Expr}(it:Addr)(U:Int)(n:Nat):Turn P w K A (Hr U n) [it] it (fun i h=>IsRangeIter h it (U+(i:Nat)*1) ((n:Int) - (i:Nat)) 1) where
 mem:=by simp
 obj:=fun i h st b Z=>by
  have e:b=it:=by simpa using Z
  subst e;exact⟨_,st,fun v z=>by
   have C:Data.fields _=Data.cell v:=z;cases C⟩
 keep:=fun i h h' st k=>k it (by simp) _ st
 item:=by
  intro X O hw Q T i pins s σ H E I hf st N;subst O hw Q;obtain⟨f0,f1,f2,R,f4,S⟩:=hf it (by simp)
  have W:=Walks.range (prog:=X.prog) (w:=X.w) (I.ok.hd T) it U 1 n;refine W.item i s _ _ N st fun v h' L F Y B=>?_;obtain⟨t,rfl⟩:=F;have G:Inv X pins σ H {s with heap:=h',toks:=L}:=I.turned (fun b o Z e=>B b o (by simpa using Z) e) f0 f1 R f4 S
  refine⟨_,rfl,z9 (s:={s with heap:=h',toks:=L}) (n:="range_iterator") Y rfl rfl (by decide) ⟨.int (U+i),H,G,⟨t,?_⟩,⟨rfl,rfl⟩,Y,fun b Z=>(hf b Z).1⟩⟩
  rw[Int.mul_one]
 done:=by
  intro X O hw Q T i pins s σ H E I hf st N;subst O hw Q;obtain⟨f0,f1,f2,R,f4,S⟩:=hf it (by simp)
  exact wpAny_pyNext_range_end (I.ok.hd T) st (by have:n<=i:=N;omega) fun h' J=>⟨rfl,I.turned (t':=s.toks) (fun b o Z e=>J b o Z e) f0 f1 R f4 S⟩
 self:=fun _ _ _ _ _ st h=>wpAny_pyIter_rangeiter st h
end L2
namespace L2
open PySem PySem.Spec PyProof.Rows
section
variable {X:Cx}{tg:Expr}
def Hs(K:W.Frag)(tl:TE):TI:=fun σ H R=>tl σ H fun x H1=>∃ a,x= .ref a/\(∃ xs,jB K H1 a xs)/\R (IJ K a) H1
def Js(K:W.Frag)(tl:TE):TI:=fun σ H R=>tl σ H fun x H1=>∃ a,x= .ref a/\(∃ xs,la K H1 a xs)/\R (Jr K a) H1
theorem lb{l:Expr}{Z:TE}(W:PE X l Z):PI X tg l (Hs X.K Z):=by
 intro pins s σ H R I h;refine dN (W pins s σ H _ I h) fun v s1 ⟨x,H1,I1,r1,q1⟩=>?_;obtain⟨a,e,⟨xs,Y⟩,q⟩:=q1;subst e;cases r1;obtain⟨its,T,p,S⟩:=I1.list Y;refine Nw p.isList ?_;refine⟨s1.heap.objs.size,[s1.heap.objs.size],_,_,H1,rfl,I1.kept (t':=s1.toks) fun b o e=>Kw _ e,yg a _,⟨_,KG _ rfl,rfl,rfl⟩,fun b U=>?_,q⟩;have e:b=s1.heap.objs.size:=by simpa using U
 subst e;exact I1.fpOk (Kz _) (I1.hok.fresh (Kz _))
theorem E9{l:Expr}{Z:TE}(W:PE X l Z):PI X tg l (Js X.K Z):=by
 intro pins s σ H R I h;refine dN (W pins s σ H _ I h) fun v s1 ⟨x,H1,I1,r1,q1⟩=>?_;obtain⟨a,e,⟨xs,Y⟩,q⟩:=q1;subst e;cases r1;obtain⟨its,T,p,S⟩:=I1.tuple Y;refine Mc (show s1.heap.IsTuple a its.toArray from p) ?_;refine⟨s1.heap.objs.size,[s1.heap.objs.size],_,_,H1,rfl,I1.kept (t':=s1.toks) fun b o e=>Kw _ e,vw a _,⟨_,KG _ rfl,rfl,rfl⟩,fun b U=>?_,q⟩;have e:b=s1.heap.objs.size:=by simpa using U
 subst e;exact I1.fpOk (Kz _) (I1.hok.fresh (Kz _))
theorem tY{W:List (Addr×Obj)}{T:St}{H:Hp}{s:Shared}{R:It->Hp->Prop}{E:Value->Shared->Prop}{Z Y:Int}{t u v:Tok}{S:Nat}(I:Inv X W T H s)(O: -(2 ^ 62)<=Z)(Q:Z<2 ^ 62)(N: -(2 ^ 62)<=Y)(P:Y<2 ^ 62)
  (q:R (Hr Z (Y - Z).toNat) H):wpAny (model X.prog X.w) X.A (pyIter (.ref s.heap.objs.size)) (J3 X W T tg R) E {s with heap:=s.heap.push {cls:=.type "range",data:=.fields #[.int Z t,.int Y u,.int 1 v]},toks:=S}:=by
 refine wpAny_pyIter_range (IsRange.new ..) (small_one O Q N P) ?_;have U:Inv X W T H {s with heap:=s.heap.push {cls:=.type "range",data:=.fields #[.int Z t,.int Y u,.int 1 v]},toks:=S}:=I.kept fun b o e=>Kw _ e;refine⟨(s.heap.push {cls:=.type "range",data:=.fields #[.int Z t,.int Y u,.int 1 v]}).objs.size,[(s.heap.push {cls:=.type "range",data:=.fields #[.int Z t,.int Y u,.int 1 v]}).objs.size],_,_,H,rfl,
  U.kept (t':=S) fun b o e=>Kw _ e,vx _ Z (Y - Z).toNat,?_,fun b L=>?_,q⟩
 ·have e1:Z+((0:Nat):Int)*1=Z:=by simp
  have e2:(((Y - Z).toNat:Nat):Int) - ((0:Nat):Int)=Builtin.Range.rangeSize Z Y 1:=by rw[rangeSize_one];split<;>omega
  show IsRangeIter _ _ (Z+((0:Nat):Int)*1) ((((Y - Z).toNat:Nat):Int) - ((0:Nat):Int)) 1;rw[e1,e2];exact KG _ rfl
 ·have e:b=(s.heap.push {cls:=.type "range",data:=.fields #[.int Z t,.int Y u,.int 1 v]}).objs.size:=by simpa using L
  subst e;exact U.fpOk (Kz _) (U.hok.fresh (Kz _))
def Ht(ta:TA):TI:=fun σ H R=>ta σ H fun vs H1=>∃ j:Int,vs=[.int j]/\ -(2 ^ 62)<=j/\j<2 ^ 62/\R (Hr 0 j.toNat) H1
def Hu(ta:TA):TI:=fun σ H R=>ta σ H fun vs H1=>∃ i j:Int,vs=[.int i,.int j]/\(-(2 ^ 62)<=i/\i<2 ^ 62/\ -(2 ^ 62)<=j/\j<2 ^ 62)/\R (Hr i (j - i).toNat) H1
theorem yh{a:Expr}{Y:TA}{p pos:Pos}(S:Gl X "range")(W:X.mg "range"=none)(U:PA X [a] Y)(hs:starEach [a] X.env=[(false,eval a X.env)]:=by rfl):PI X tg (.Call (.Name "range" p) [a] [] pos) (Ht Y):=by
 intro pins s σ H R I h;refine Call_ (kG I S W boot_range (LX (dN (U pos pins s σ H _ I h) fun us s1 ⟨vs,H1,I1,r1,Z⟩=>?_) hs rfl));obtain⟨j,e,Z,T,q⟩:=Z;subst e;cases r1 with
 |cons r rr=>
  cases rr;obtain⟨t,rfl⟩:=r;exact call_range_1 (tY I1 (by omega) (by omega) Z T (by simpa using q))
theorem yi(P:Gl X "range")(W:X.mg "range"=none)(U:PA X [a,b] ta)(hs:starEach [a,b] X.env=[(false,eval a X.env),(false,eval b X.env)]:=by rfl)(Z:starEach [b] X.env=[(false,eval b X.env)]:=by rfl):
  PI X tg (.Call (.Name "range" p) [a,b] [] pos) (Hu ta):=by
 intro pins s σ H R I h;refine Call_ (kG I P W boot_range (LX (dN (U pos pins s σ H _ I h) fun us s1 ⟨vs,H1,I1,r1,Y⟩=>?_) (by rw[hs,Z]) (by rw[Z];rfl)))
 obtain⟨i,j,e,⟨Y,Q,T,S⟩,q⟩:=Y;subst e;cases r1 with
 | cons r rr=>
  cases rr with
  |cons r' rr=>
   cases rr;obtain⟨t,rfl⟩:=r;obtain⟨t',rfl⟩:=r';exact call_range_2 (tY I1 Y Q T S q)
def Jt(wi:TI)(g:TG)(tb:TS):TS:=fun D σ H=>wi σ H fun J H1=>∃ W:Nat->Nat->St->Hp->Prop,(∃ m,W 0 m σ H1)/\∀ i m σ H,W i m σ H->
 (J.stop i H/\D.nx σ H)\/(J.go i H/\∃ N:St->Hp->Prop,(∀ σ' H',N σ' H'->∃ m',m'<m/\W (i+1) m' σ' H')/\∀ x H',J.yld i H x H'->g x σ H' fun σ2 H2=>tb {D with nx:=N,ct:=N,bk:=D.nx} σ2 H2)
def l9(fp:List Addr)(h:Heap):List (Addr×Obj):=fp.filterMap fun b=>(h.get? b).map fun o=>(b,o)
theorem fU{h:Heap}(Z:b∈fp)(e:h.get? b=some o):(b,o)∈l9 fp h:=Ma.mpr ⟨b,Z,by rw[e];rfl⟩
theorem yj(Z:p∈l9 fp h):p.1∈fp/\h.get? p.1=some p.2:=by
 obtain⟨b,W,e⟩:=Ma.mp Z;cases q:h.get? b with
 |none=>rw[q]at e;cases e
 |some o=>
  rw[q]at e;have Y:(b,o)=p:=K6 e;subst Y;exact⟨W,q⟩
theorem Inv.pinned(I:Inv X pins σ H s)(T:∀ b∈fp,jI X pins H b)(W:∀ b∈fp,∃ o,s.heap.get? b=some o/\∀ v,o.data≠ .cell v):Inv X (pins++l9 fp s.heap) σ H s:=
 I.pins_of fun p U=>(LS.mp U).elim (fun z=>I.pin p (KZ _ z)) fun z=>by
  obtain⟨Y,e⟩:=yj z;obtain⟨f0,f1,f2,_⟩:=T p.1 Y;obtain⟨o,Z,d⟩:=W p.1 Y;rw[e]at Z;cases Z;exact⟨e,f0,f1,f2,d⟩
theorem Inv.unpinned(I:Inv X (pins++pl) σ H s):Inv X pins σ H s:=I.pins_of fun p Z=>I.pin p (KZ _ (MX _ Z))
theorem Fb{Y:Expr}{body:List Stmt}{z:TI}{g:TG}{tb:TS}{pos:Pos}(L:PassesOwn (model X.prog X.w) X.A X.env X.xe)(C:X.calm=true)(y:PI X tg Y z)(j:PG X tg g)(Q:qb X body tb)
  (hs:∀ x,foldedSetIterable Y X.env x=pure x:=by intro _;rfl):PS X (.For tg Y body [] pos) (Jt z g tb):=by
 intro pins s σ H D I h;refine wpAny_For (dN (y pins s σ H _ I h) fun v s1 c=>dN c fun l s2 k=>?_) hs;obtain⟨it,K,B,J,t,e,q,T,F,f2,W,⟨m0,w0⟩,turn⟩:=k;subst e;have U:∀{H':Hp},(∀ b∈K,H' b=none)->∀ b∈K,jI X pins H' b:=fun a b Q=>⟨a b Q,(f2 b Q).2⟩;refine codeAny_forLoop_any (fun n s'=>∃ i σ' H',Inv X pins σ' H' s'/\B i s'.heap/\(∀ b∈K,H' b=none)/\W i n σ' H') ?_ m0 ⟨0,σ,t,q,F,fun b Q=>(f2 b Q).1,w0⟩;rintro n s3 ⟨i,σ3,H3,I3,st3,fr3,w3⟩;rcases turn i n σ3 H3 w3 with⟨stop,qn⟩|⟨go,N,hN,step⟩
 ·refine Mu L (dN (T.done X rfl rfl rfl C i pins s3 σ3 H3 X.xe I3 (U fr3) st3 stop) fun r s4 ⟨hr,I4⟩=>?_);subst hr;exact MO ⟨σ3,H3,I4,qn⟩
 ·refine Mu L (dN (T.item X rfl rfl rfl C i pins s3 σ3 H3 X.xe I3 (U fr3) st3 go) fun r s4 ⟨u,hr,h4⟩=>?_);subst hr;refine Mu L (dN h4 fun _ s5 ⟨x,H5,I5,r5,y5,st5,fr5⟩=>?_);have G:=I5.pinned (U fr5) (T.obj _ _ st5);refine Mu L (dN (j _ s5 σ3 H5 x u _ G r5 (step x H5 y5)) fun _ s6 ⟨σ6,H6,I6,q6⟩=>?_);refine Mu L (dN (Q _ s6 σ6 H6 _ I6 q6) fun f E P=>?_);have again:∀{Z:St} {S:Hp},Inv X (pins++l9 K s5.heap) Z S E->N Z S->∃ m,m<n/\∃ i σ' H',Inv X pins σ' H' E/\B i E.heap/\(∀ b∈K,H' b=none)/\W i m σ' H':=fun{Z S} R O=>by
   obtain⟨p,hm,w7⟩:=hN Z S O;refine⟨p,hm,i+1,Z,S,R.unpinned,T.keep _ _ _ st5 fun b Q o e=>(R.pin (b,o) (KZ _ (KZ _ (fU Q e)))).1,fun b Q=>?_,w7⟩;obtain⟨o,e,d⟩:=T.obj _ _ st5 b Q;exact(R.pin (b,o) (KZ _ (KZ _ (fU Q e)))).2.1
  cases f with
  |next=>obtain⟨Z,S,R,O⟩:=P;exact again R O
  |cont=>obtain⟨Z,S,R,O⟩:=P;exact again R O
  |brk=>obtain⟨Z,S,R,P⟩:=P;exact⟨Z,S,R.unpinned,P⟩
  |ret v=>obtain⟨x7,Z,S,R,r7,P⟩:=P;exact⟨x7,Z,S,R.unpinned,r7,P⟩
end
end L2
namespace L2
open PySem PySem.Spec PyProof.Rows
abbrev R2:=V->V->Hp->VK->Prop
def i6(X:Cx)(f:Value->Value->Sem Value)(r:R2):Prop:=
 ∀(pins:List (Addr×Obj)) (s:Shared) (σ:St) (H:Hp) (x y:V) (v u:Value) (Q:VK),Inv X pins σ H s->RelV x v->RelV y u->r x y H Q->
  wpAny (model X.prog X.w) X.A (f v u) (EP X pins σ Q) X.xe s
def Ju(X:Cx)(f:Value->Sem Value)(r:V->Hp->VK->Prop):Prop:=
 ∀(pins:List (Addr×Obj)) (s:Shared) (σ:St) (H:Hp) (x:V) (v:Value) (Q:VK),Inv X pins σ H s->RelV x v->r x H Q->
  wpAny (model X.prog X.w) X.A (f v) (EP X pins σ Q) X.xe s
def dF(X:Cx)(f:Value)(r:List V->Hp->VK->Prop):Prop:=
 ∀(pins:List (Addr×Obj)) (s:Shared) (σ:St) (H:Hp) (xs:List V) (us:List Value) (Q:VK),Inv X pins σ H s->bo xs us->r xs H Q->
  wpAny (model X.prog X.w) X.A (call f us) (EP X pins σ Q) X.xe s
def Hv(r:R2)(ta tb:TE):TE:=fun σ H Q=>ta σ H fun x H1=>tb σ H1 fun y H2=>r x y H2 Q
def Kg(r:V->Hp->VK->Prop)(ta:TE):TE:=fun σ H Q=>ta σ H fun x H1=>r x H1 Q
def rI(C:Int->Int->Prop)(g:Int->Int->V):R2:=fun x y H Q=>∃ i j,x= .int i/\y= .int j/\C i j/\Q (g i j) H
def Cp(g:Int->Int->V):R2:=fun x y H Q=>∃ i j,x= .int i/\y= .int j/\Q (g i j) H
def rU(g:Int->V):V->Hp->VK->Prop:=fun x H Q=>∃ i,x= .int i/\Q (g i) H
section
variable {X:Cx}{a b c:Expr}{ta tb tc:TE}{pos:Pos}
theorem Fc(T:PE X a ta)(S:PE X b tb){R:V->V->Hp->Prop}(I:Inv X pins σ H s)
  (h:ta σ H fun x U=>tb σ U fun y Z=>R x y Z) {f:Value->Value->Sem Value}
  (P:∀ v u s2 x y Z,Inv X pins σ Z s2->RelV x v->RelV y u->R x y Z->wpAny (model X.prog X.w) X.A (f v u) Q X.xe s2):
  wpAny (model X.prog X.w) X.A (eval a X.env) (fun v W=>wpAny (model X.prog X.w) X.A (eval b X.env) (fun u Y=>wpAny (model X.prog X.w) X.A (f v u) Q X.xe Y) X.xe W) X.xe s:=by
 refine dN (T pins s σ H _ I h) fun v s1 ⟨x,U,I1,r1,q1⟩=>?_;refine dN (S pins s1 σ U _ I1 q1) fun u s2 ⟨y,Z,I2,r2,q2⟩=>?_;exact P v u s2 x y Z I2 r1 r2 q2
theorem Hw(Z:i6 X (binaryOp op) r)(Y:PE X a ta)(S:PE X b tb):PE X (.BinOp a op b pos) (Hv r ta tb):=by
 intro pins s σ H Q I h;exact wpAny_BinOp (Fc Y S I h fun v u s2 x y W U T R q=>Z pins s2 σ W x y v u Q U T R q)
theorem Hx(Z:Ju X (unaryOp op) r)(Y:PE X a ta):PE X (.UnaryOp op a pos) (Kg r ta):=by
 intro pins s σ H Q I h;exact UnaryOp_ (dN (Y pins s σ H _ I h) fun v s1 ⟨x,H1,I1,r1,q1⟩=>Z pins s1 σ H1 x v Q I1 r1 q1)
theorem IK{f:Value->Value->Sem Value}{C:Int->Int->Prop}{g:Int->Int->Int}
  (Z:∀(i j:Int) (t u:Tok) (s:Shared) (Q:Value->Shared->Prop) (E:Value->Shared->Prop),C i j->Q (.int (g i j) s.toks) {s with toks:=s.toks+1}->wpAny (model X.prog X.w) X.A (f (.int i t) (.int j u)) Q E s):
  i6 X f (rI C fun i j=>.int (g i j)):=by
 intro pins s σ H x y v u Q I W U h;obtain⟨i,j,rfl,rfl,Y,q⟩:=h;obtain⟨t,rfl⟩:=W;obtain⟨t',rfl⟩:=U;exact Z i j t t' s _ _ Y ⟨.int (g i j),H,I.tok _,⟨_,rfl⟩,q⟩
theorem Hy{f:Value->Value->Sem Value}{g:Int->Int->Int}
  (Z:∀(i j:Int) (t u:Tok) (s:Shared) (Q:Value->Shared->Prop) (E:Value->Shared->Prop),Q (.int (g i j) s.toks) {s with toks:=s.toks+1}->wpAny (model X.prog X.w) X.A (f (.int i t) (.int j u)) Q E s):
  i6 X f (Cp fun i j=>.int (g i j)):=by
 intro pins s σ H x y v u Q I Y W h;obtain⟨i,j,rfl,rfl,q⟩:=h;obtain⟨t,rfl⟩:=Y;obtain⟨t',rfl⟩:=W;exact Z i j t t' s _ _ ⟨.int (g i j),H,I.tok _,⟨_,rfl⟩,q⟩
theorem CF{f:Value->Value->Sem Value}{g:Int->Int->Bool}
  (Z:∀(i j:Int) (t u:Tok) (s:Shared) (Q:Value->Shared->Prop) (E:Value->Shared->Prop),Q (.bool (g i j)) s->wpAny (model X.prog X.w) X.A (f (.int i t) (.int j u)) Q E s):
  i6 X f (Cp fun i j=>.bl (g i j)):=by
 intro pins s σ H x y v u Q I Y W h;obtain⟨i,j,rfl,rfl,q⟩:=h;obtain⟨t,rfl⟩:=Y;obtain⟨t',rfl⟩:=W;exact Z i j t t' s _ _ ⟨.bl (g i j),H,I,rfl,q⟩
def Aa(i j:Int):Prop:=0<j/\j<1073741824
def CG(i j:Int):Prop:=0<=j/\j<=1000000/\i.natAbs<2 ^ 64
def vy(i j:Int):Prop:=(-(2 ^ 64)<i/\i<2 ^ 64)\/(-(2 ^ 64)<j/\j<2 ^ 64)
theorem vy.ok{i j:Int}(h:vy i j):IntMulOk i j:=by
 rcases h with⟨h1,h2⟩|⟨h1,h2⟩
 ·exact .of_left (intBits_le_64 h1 h2)
 ·exact .of_right (intBits_le_64 h1 h2)
theorem Fd:i6 X (binaryOp .Add) (Cp fun i j=>.int (i+j)):=Hy fun _ _ _ _ _ _ _ q=>add_int q
theorem Fe:i6 X (binaryOp .Sub) (Cp fun i j=>.int (i - j)):=Hy fun _ _ _ _ _ _ _ q=>sub_int q
theorem Ff:i6 X (binaryOp .Mult) (rI vy fun i j=>.int (i*j)):=IK fun _ _ _ _ _ _ _ Z q=>mul_int q Z.ok
theorem CH:i6 X (binaryOp .FloorDiv) (rI Aa fun i j=>.int (i / j)):=IK fun i j _ _ _ _ _ Z q=>by
 have W:(0:Int)<j:=Z.1;have Y:j<1073741824:=Z.2;exact floordiv_int (by omega) (by rw[Int.fdiv_eq_ediv_of_nonneg i (by omega)];exact q) (.inl (PyProof.noPylong_small (by omega)))
theorem Fg:i6 X (binaryOp .Mod) (rI (fun _ j=>0<j) fun i j=>.int (i % j)):=IK fun i j _ _ _ _ _ Z q=>by
 have Y:(0:Int)<j:=Z;exact mod_int' (by omega) (by rw[Int.fmod_eq_emod_of_nonneg i (by omega)];exact q)
theorem Fh:i6 X (binaryOp .Pow) (rI CG fun i j=>.int (i ^ j.toNat)):=IK fun _ _ _ _ _ _ _ Z q=>pow_int_small Z.1 Z.2.1 Z.2.2 q
theorem Kh{f:Value->Sem Value}{g:Int->Int}
  (Z:∀(i:Int) (t:Tok) (s:Shared) (Q:Value->Shared->Prop) (E:Value->Shared->Prop),Q (.int (g i) s.toks) {s with toks:=s.toks+1}->wpAny (model X.prog X.w) X.A (f (.int i t)) Q E s):
  Ju X f (rU fun i=>.int (g i)):=by
 intro pins s σ H x v Q I Y h;obtain⟨i,rfl,q⟩:=h;obtain⟨t,rfl⟩:=Y;exact Z i t s _ _ ⟨.int (g i),H,I.tok _,⟨_,rfl⟩,q⟩
theorem Fi:Ju X (unaryOp .USub) (rU fun i=>.int (-i)):=Kh fun _ _ _ _ _ q=>neg_int q
end
section
variable {X:Cx}{a b c:Expr}{ta tb tc:TE}{pos:Pos}
theorem Fj{Q:VK}(I:Inv X pins σ H s)(q:Q (.bl k) H)(e:k=k'):EP X pins σ Q (.bool k') s:=by
 subst e;exact⟨.bl k,H,I,rfl,q⟩
theorem Ab:i6 X (compareOp .Lt) (Cp fun i j=>.bl (decide (i<j))):=CF fun _ _ _ _ _ _ _ q=>lt_int q
theorem Ac:i6 X (compareOp .LtE) (Cp fun i j=>.bl (decide (i<=j))):=CF fun _ _ _ _ _ _ _ q=>le_int q
theorem Hz:i6 X (compareOp .Gt) (Cp fun i j=>.bl (decide (j<i))):=CF fun _ _ _ _ _ _ _ q=>gt_int q
theorem HA:i6 X (compareOp .GtE) (Cp fun i j=>.bl (decide (j<=i))):=CF fun _ _ _ _ _ _ _ q=>ge_int q
theorem Fk:i6 X (compareOp .Is) (fun x y H Q=>y= .non/\Q (.bl (decide (x= .non))) H):=by
 intro pins s σ H x y v u Q I Z Y h;obtain⟨rfl,q⟩:=h;cases Y;refine is_none_gen (Fj I q ?_);cases x<;>first
  |(cases Z;rfl)
  |(obtain⟨t,rfl⟩:=Z;rfl)
theorem i6.or{r Z:R2}(h:i6 X f r)(h':i6 X f Z):i6 X f (fun x y H Q=>r x y H Q\/Z x y H Q):=by
 intro pins s σ H x y v u Q I Y W q;rcases q with q|q
 ·exact h pins s σ H x y v u Q I Y W q
 ·exact h' pins s σ H x y v u Q I Y W q
theorem Jv(b:Expr)(h:op≠ .In:=by decide)(Z:op≠ .NotIn:=by decide):behindInMarks op b=false:=by
 have e1:(op==CmpOp.In)=false:=by cases op<;>first|rfl|exact absurd rfl h
 have e2:(op==CmpOp.NotIn)=false:=by cases op<;>first|rfl|exact absurd rfl Z
 cases b<;>simp[behindInMarks,e1,e2]
theorem CI(Y:i6 X (compareOp op) r)(W:PE X a ta)(R:PE X b tb)(Z:behindInMarks op b=false):PE X (.Compare a [op] [b] pos) (Hv r ta tb):=by
 intro pins s σ H Q I h;exact wpAny_Compare1 (Fc W R I h fun v u s2 x y U T S P q=>Y pins s2 σ U x y v u Q T S P q) Z
def Eg(t:TE):TT:=fun σ H Q=>t σ H fun x H'=>∃ k,x= .bl k/\Q k H'
theorem CJ(Y:i6 X (compareOp op) r)(W:PE X a ta)(U:PE X b tb)(Z:behindInMarks op b=false):PT X (.Compare a [op] [b] pos) (Eg (Hv r ta tb)):=by
 intro pins s σ H Q I h;refine wpAny_isTrue_Compare1 (dN (W pins s σ H _ I h) fun v s1 ⟨x,H1,I1,r1,q1⟩=>dN (U pins s1 σ H1 _ I1 q1) fun u s2 ⟨y,H2,I2,r2,q2⟩=>
  dN (Y pins s2 σ H2 x y v u _ I2 r1 r2 q2) fun c s3 ⟨z,H3,I3,r3,k,e,q3⟩=>?_) Z
 subst e;cases r3;exact LP ⟨H3,I3,q3⟩
def vz(r r':R2)(ta tb tc:TE):TE:=fun σ H Q=>ta σ H fun x H1=>tb σ H1 fun y H2=>r x y H2 fun z H3=>∃ k,z= .bl k/\
 (if k=true then tc σ H3 fun w' H4=>r' y w' H4 Q else Q (.bl false) H3)
theorem Ad(W:i6 X (compareOp op) r)(Z:i6 X (compareOp op') r')(T:PE X a ta)(S:PE X b tb)(U:PE X c tc)
  (Y:lastMarks [op,op'] [b,c]=false:=by with_unfolding_all rfl):PE X (.Compare a [op,op'] [b,c] pos) (vz r r' ta tb tc):=by
 intro pins s σ H Q I h;refine Compare_chain (dN (T pins s σ H _ I h) fun v s1 ⟨x,H1,I1,r1,q1⟩=>chain_link (dN (S pins s1 σ H1 _ I1 q1) fun u s2 ⟨y,H2,I2,r2,q2⟩=>
  dN (W pins s2 σ H2 x y v u _ I2 r1 r2 q2) fun d s3 ⟨z,H3,I3,r3,k,e,q3⟩=>?_)) Y
 subst e;cases r3;refine LP ?_;cases k with
 |false=>exact ite_ff ⟨.bl false,H3,I3,rfl,q3⟩
 |true=>exact ite_tt (chain_last (dN (U pins s3 σ H3 _ I3 q3) fun w' s4 ⟨z',H4,I4,r4,q4⟩=>Z pins s4 σ H4 y z' u w' Q I4 r2 r4 q4))
theorem Ae(W:i6 X (compareOp op) r)(Z:i6 X (compareOp op') r')(T:PE X a ta)(P:PE X b tb)(U:PE X c tc)
  (Y:lastMarks [op,op'] [b,c]=false:=by with_unfolding_all rfl):PT X (.Compare a [op,op'] [b,c] pos) (Eg (vz r r' ta tb tc)):=by
 intro pins s σ H Q I h;refine isTrue_chain (dN (T pins s σ H _ I h) fun v s1 ⟨x,H1,I1,r1,q1⟩=>test_link (dN (P pins s1 σ H1 _ I1 q1) fun u s2 ⟨y,H2,I2,r2,q2⟩=>
  dN (W pins s2 σ H2 x y v u _ I2 r1 r2 q2) fun d s3 ⟨z,H3,I3,r3,k,e,q3⟩=>?_)) Y
 subst e;cases r3;refine LP ?_;cases k with
 |false=>
  obtain⟨O,S,R⟩:=q3;cases S;exact ite_ff ⟨H3,I3,R⟩
 |true=>
  refine ite_tt (test_last (dN (U pins s3 σ H3 _ I3 q3) fun w' s4 ⟨z',H4,I4,r4,q4⟩=>dN (Z pins s4 σ H4 y z' u w' _ I4 r2 r4 q4) fun d' s5 ⟨z2,H5,I5,r5,k2,e2,q5⟩=>?_));subst e2;cases r5;exact LP ⟨H5,I5,q5⟩
theorem n6:(sizeLine:Nat)<2 ^ 63:=by rw[LK];decide
theorem vals1(r:bo [x] us):∃ u,us=[u]/\RelV x u:=by
 cases r with
 |cons r1 r2=>cases r2;exact⟨_,rfl,r1⟩
theorem vals2(r:bo [x,y] us):∃ u w',us=[u,w']/\RelV x u/\RelV y w':=by
 cases r with
 |cons r1 r2=>
  cases r2 with
  |cons r3 r4=>cases r4;exact⟨_,_,rfl,r1,r3⟩
theorem yk(Z:X.calm=true):dF X (.builtin "max") (fun xs H Q=>∃ i j,xs=[.int i,.int j]/\Q (.int (if j>i then j else i)) H):=by
 intro pins s σ H xs us Q I r h;obtain⟨i,j,rfl,q⟩:=h;obtain⟨u,Y,rfl,⟨t,rfl⟩,⟨t',rfl⟩⟩:=vals2 r;refine max_two_ints (I.ok.hd Z) fun h' W k=>⟨_,H,I.kept k,?_,q⟩;by_cases hj:j>i
 ·rw[if_pos hj,if_pos hj];exact⟨_,rfl⟩
 ·rw[if_neg hj,if_neg hj];exact⟨_,rfl⟩
theorem ym(Z:X.calm=true):dF X (.builtin "min") (fun xs H Q=>∃ i j,xs=[.int i,.int j]/\Q (.int (if j<i then j else i)) H):=by
 intro pins s σ H xs us Q I r h;obtain⟨i,j,rfl,q⟩:=h;obtain⟨u,Y,rfl,⟨t,rfl⟩,⟨t',rfl⟩⟩:=vals2 r;refine min_two_ints (I.ok.hd Z) fun h' W k=>⟨_,H,I.kept k,?_,q⟩;by_cases hj:j<i
 ·rw[if_pos hj,if_pos hj];exact⟨_,rfl⟩
 ·rw[if_neg hj,if_neg hj];exact⟨_,rfl⟩
end
end L2
namespace L2
open PySem PySem.Spec PyProof.Rows
structure ObjM(h:Heap)(x dx C:Addr)(mA:Str->Option Value):Prop where
 obj:h.get? x=some (W.instObj C dx)
 ns:h.Ns1 dx mA
 ne:dx≠x
theorem yo{h:Heap}{mA:Str->Option Value}(n:h.Ns1 dx mA):∃ od,h.get? dx=some od/\∀ name,W.lookIn name od=some (mA name):=by
 obtain⟨o,es,ep,Y,hd,U,_,hm⟩:=n;refine⟨o,Y,fun name=>?_⟩;have e:=hm name;unfold nsFind findBy at e;rw[<-N1]at e;unfold W.lookIn;rw[hd];dsimp only;split
 ·rename_i y q
  rw[q]at e;exact NF some e
 ·rename_i q
  rw[q]at e;have a:es.toList.any (·.refKey)=false:=by
   rw[List.any_eq_false];intro y T;obtain⟨z,t,Z⟩:=U y (NM.mp T);simp[DictEntry.refKey,Z]
  have X:¬ es.toList.any (·.refKey)=true:=by rw[a];exact Mb
  rw[if_neg X];exact NF some e
theorem ObjM.look{mA:Str->Option Value}(I:ObjM h x dx C mA):∃ od,W.InstAt h x (W.instObj C dx) C (some od)/\∀ name,W.lookIn name od=some (mA name):=
 let ⟨od,ho,hl⟩:=yo I.ns
 ⟨od,⟨I.obj,rfl,rfl,ho⟩,hl⟩
section
variable {prog:Program}{w:World}{A:Around}{E:Value->Shared->Prop}{s:Shared}{K:W.Frag}{x dx C f:Addr}{mA:Str->Option Value}{name:Str}{v:Value}
end
theorem rJ.some_of(r:rJ (some v) o):∃ u,o=some u/\RelV v u:=by
 cases o with
 |none=>exact(show False from r).elim
 |some u=>exact⟨u,rfl,r⟩
theorem yp(r:RelV v u):W.handedIn u=true:=by
 cases v with
 |non=>cases (show u=Value.none from r);rfl
 |bl b=>cases (show u=Value.bool b from r);rfl
 |int i=>obtain⟨t,e⟩:=(show ∃ t,u=Value.int i t from r);cases e;rfl
 |str x=>obtain⟨t,e⟩:=(show ∃ t,u=Value.str x t from r);cases e;rfl
 |byt b=>obtain⟨t,e⟩:=(show ∃ t,u=Value.bytes b t from r);cases e;rfl
 |flt b=>obtain⟨t,e⟩:=(show ∃ t,u=Value.float b t from r);cases e;rfl
 |ref a=>cases (show u=Value.ref a from r);rfl
 |ty n=>cases (show u=Value.type n from r);rfl
section
variable {P:Program}{w:World}{H H':Hp}{h h':Heap}{a C dx:Addr}{fs fs':List (Str×V)}
theorem eU(Z:gk P w H h)(e:H a=some (.ins C dx fs)):∃ mA,ObjM h a dx C mA/\(∀ f,rJ (fs.lookup f) (mA f))/\PySem.Within mA (fs.map (·.1))/\fs.length<=1000/\H dx=some (.own a):=by
 obtain⟨d,z,ne,Y,mA,n,r,q⟩:=(show bj P w H h a (.ins C dx fs)from Z a _ e);exact⟨mA,⟨Y,n,ne⟩,r,q,z,d⟩
end
structure Cls(K:W.Frag)(C:Addr):Prop where
 pg:W.plainGet K C Str.empty=true
 hd:W.hasDictIn K C=true
 po:W.plainOver K C=true
 sa:W.findIn K (.ref C) "__setattr__"=some (some (.builtin "object.__setattr__"))
theorem Cls.get{K:W.Frag}{C:Addr}(c:Cls K C)(f:Str):W.plainGet K C f=true:=c.pg
structure Con(K:W.Frag)(C:Addr)(f:Str)(v:V)(u:Value):Prop where
 at_:W.findIn K (.ref C) f=some (some u)
 rel:RelV v u
 get:W.specialIn K u "__get__"=some none
 cp:W.copiedNames.contains f=false
structure Meth(K:W.Frag)(C:Addr)(m:Str)(f:Addr):Prop where
 at_:W.findIn K (.ref C) m=some (some (.ref f))
 fn:W.isFn K (.ref f)=true
 kp:W.keepIn K (.ref f)=true
section
variable {X:Cx}{pins:List (Addr×Obj)}{σ:St}{H:Hp}{s:Shared}{a C dx:Addr}{fs:List (Str×V)}{f:Str}{v:V}{A:Around}{E:Value->Shared->Prop}
theorem CK(Y:attributeBase e f env (eval e env)=eval e env)
  (h:wpAny (model prog w) A (eval e env) (fun o Z=>wpAny (model prog w) A (getAttr o f true) Q E Z) E s):wpAny (model prog w) A (eval (.Attribute e f pos) env) Q E s:=
 Attribute_any_ h (by rw[arm_eval_Attribute,Y])
end
section
variable {X:Cx}{o e value:Expr}{f:Str}{pos pos' tpos:Pos}{ta tv:TE}
end
section
variable {X:Cx}{pins:List (Addr×Obj)}{σ:St}{H:Hp}{s:Shared}{A:Around}{E:Value->Shared->Prop}{Q:Value->Shared->Prop}{c:Value}{b:Bool}
inductive TyOf(K:W.Frag)(H:Hp):V->Value->Prop where
 |non:TyOf K H .non (.type "NoneType")
 |bl (x:Bool):TyOf K H (.bl x) (.type "bool")
 |int (i:Int):TyOf K H (.int i) (.type "int")
 |str (x:Str):TyOf K H (.str x) (.type "str")
 |flt (x:UInt64):TyOf K H (.flt x) (.type "float")
 |lst {a:Addr} {xs:List V} (e:H a=some (.lst xs)):TyOf K H (.ref a) (.type "list")
 |frz {a:Addr} {o:Obj} {xs:List V} (e:H a=some (.frz o (.lst xs))):TyOf K H (.ref a) (.type "list")
 |tup {a:Addr} {xs:List V} (e:H a=some (.tup xs)):TyOf K H (.ref a) (.type "tuple")
 |dK {a:Addr} {kvs:List (Key×V)} (e:H a=some (.dK kvs)):TyOf K H (.ref a) (.type "dict")
 |dT {a:Addr} {kvs:List (List Key×V)} (e:H a=some (.dT kvs)):TyOf K H (.ref a) (.type "dict")
 | ins {a C dx:Addr} {fs:List (Str×V)} (e:H a=some (.ins C dx fs)) (cl:Cls K C) (ha:W.findIn K (.ref C) "__class__"=some (some (.builtin "object.__class__")))
   (hn:W.specialIn K (.builtin "object.__class__") "__get__"=some (some (.builtin "getset_descriptor.__get__"))) (htk:W.takesIn K (.builtin "object.__class__")=some true)
   (hm:W.mroIn K C (.type "object")=some true):TyOf K H (.ref a) (.ref C)
theorem yq(I:Inv X pins σ H s)(Z:RelV x u)(T:TyOf X.K H x t)(e:W.kitOne X.K t c=some b)(h:∀ tk,Q (.bool b) {s with toks:=tk}):
  wpAny (model X.prog X.w) A (call (.builtin "isinstance") [u,c]) Q E s:=by
 cases T with
 |non=>cases (show u=Value.none from Z);exact LB Oc I.kIn True.intro e (fun z=>nomatch z) h
 |bl y=>cases (show u=Value.bool y from Z);exact LB W.kitx_bool I.kIn True.intro e (fun z=>nomatch z) h
 |int i=>obtain⟨t,q⟩:=(show ∃ t,u=Value.int i t from Z);cases q;exact LB W.kitx_int I.kIn True.intro e (fun z=>nomatch z) h
 |str y=>obtain⟨t,q⟩:=(show ∃ t,u=Value.str y t from Z);cases q;exact LB W.kitx_str I.kIn True.intro e (fun z=>nomatch z) h
 |flt y=>obtain⟨t,q⟩:=(show ∃ t,u=Value.float y t from Z);cases q;exact LB W.kitx_float I.kIn True.intro e (fun z=>nomatch z) h
 | @lst a xs ea=>
  cases (show u=Value.ref a from Z);obtain⟨_,_,n,_,Y⟩:=(show bj X.prog X.w H s.heap a (.lst xs)from I.hok a _ ea);exact LB Nx I.kIn ⟨_,Y,rfl⟩ e (fun z=>nomatch z) h
 | @frz a ob xs ea=>
  cases (show u=Value.ref a from Z);obtain⟨_,_,_,n,_,Y⟩:=(show bj X.prog X.w H s.heap a (.frz ob (.lst xs))from I.hok a _ ea);exact LB Nx I.kIn ⟨_,Y,rfl⟩ e (fun z=>nomatch z) h
 | @tup a xs ea=>
  cases (show u=Value.ref a from Z);obtain⟨_,_,_,p⟩:=(show bj X.prog X.w H s.heap a (.tup xs)from I.hok a _ ea);obtain⟨o,Y,U,_⟩:=p;exact LB W.kitx_tuple I.kIn ⟨o,Y,U⟩ e (fun z=>nomatch z) h
 | @dK a kvs ea=>
  cases (show u=Value.ref a from Z);obtain⟨_,_,vs,_,p⟩:=(show bj X.prog X.w H s.heap a (.dK kvs)from I.hok a _ ea);obtain⟨o,es,ep,Y,U,_⟩:=p;exact LB Ny I.kIn ⟨o,Y,U.1⟩ e (fun z=>nomatch z) h
 | @dT a kvs ea=>
  cases (show u=Value.ref a from Z);obtain⟨_,_,xs,_,o,es,ep,Y,U,_⟩:=(show bj X.prog X.w H s.heap a (.dT kvs)from I.hok a _ ea);exact LB Ny I.kIn ⟨o,Y,U.1⟩ e (fun z=>nomatch z) h
 | @ins a C dx fs ea cl ha hn htk hm=>
  cases (show u=Value.ref a from Z);obtain⟨mA,O,_⟩:=eU I.hok ea;obtain⟨od,J,_⟩:=O.look;exact LB (W.kitx_own (cl.get _) cl.hd ha hn htk hm) I.kIn J e (fun z=>nomatch z) h
end
end L2
namespace L2
open PySem PySem.Spec PyProof.Rows
structure Room(k:Nat)(A:Around):Prop where
 hd:A.handled=none
 dp:A.depth+3*k+5<recursionLimit
 un:A.units+16*k+200<cLine
theorem Room.mono(r:Room k A)(h:j<=k):Room j A:=⟨r.hd,by have:=r.dp;omega,by have:=r.un;omega⟩
theorem Room.deeper(r:Room (k+1) A)(env:Env):Room k (A.deeper env):=
 ⟨r.hd,by have:=r.dp;show A.depth+1+3*k+5<_;omega,by have:=r.un;show A.units+3+16*k+200<_;omega⟩
theorem vA{A:Around}:(A.under (.builtin "type.__call__" ⟨.ref C::us,kw⟩)).depth=A.depth+1:=by
 first|rfl|simp[Around.under,Code.weight,Code.isCreation,Code.isGuard,Code.isCaller,Code.frames,Code.isFrame,guardIds]
theorem vB{A:Around}:(A.under (.builtin "type.__call__" ⟨.ref C::us,kw⟩)).units=A.units+1:=by
 first|rfl|simp[Around.under,Code.cUnits,Code.frames,Code.isFrame]
theorem Room.make(r:Room (k+1) A)(C:Addr)(us:List Value)(Z:List (Str×Value)):Room k (A.under (.builtin "type.__call__" ⟨.ref C::us,Z⟩)):=
 ⟨r.hd,by have:=r.dp;rw[vA];omega,by have:=r.un;rw[vB];omega⟩
theorem Room.depth(r:Room k A):A.depth<recursionLimit:=by have:=r.dp;omega
def Jw:TA:=fun _ H Q=>Q [] H
def HB(ta:TE)(tr:TA):TA:=fun σ H Q=>ta σ H fun x H1=>tr σ H1 fun xs H2=>Q (x::xs) H2
section
variable {X:Cx}{e:Expr}{es:List Expr}{te:TE}{t:TA}{pos:Pos}
theorem jJ:PA X [] Jw:=fun _ _ _ _ H Q I h=>Calls.spliced_nil ⟨[],H,I,.nil,h⟩
theorem eV(Z:PE X e te)(Y:PA X es t)(hs:starEach (e::es) X.env=(false,eval e X.env)::starEach es X.env:=by rfl):PA X (e::es) (HB te t):=by
 intro pos pins s σ H Q I h;rw[hs];show wpAny _ _ (spliced ((false,eval e X.env)::backTo pos (starEach es X.env))) _ _ s;refine Calls.spliced_cons (dN (Z pins s σ H _ I h) fun u s1 ⟨x,H1,I1,r1,q1⟩=>?_);exact dN (Y pos pins s1 σ H1 _ I1 q1) fun us s2 ⟨xs,H2,I2,r2,q2⟩=>⟨x::xs,H2,I2,.cons r1 r2,q2⟩
def Jx(t:TA):TE:=fun σ H Q=>t σ H fun xs H1=>xs.length<=sizeLine/\∀ p,H1 p=none->Q (.ref p) (upd H1 p (.tup xs))
def Jy(t:TA):TE:=fun σ H Q=>t σ H fun xs H1=>xs.length<=sizeLine/\∀ p,H1 p=none->Q (.ref p) (upd H1 p (.lst xs))
theorem Af{x1}(h:PA X es t):PE X (.Tuple es x1 pos) (Jx t):=by
 intro pins s σ H Q I Z;refine wpAny_Tuple_spliced (dN (h pos pins s σ H _ I Z) fun us s1 ⟨xs,H1,I1,r,z,q⟩=>⟨by rw[<-r.length];exact z,?_⟩)
 have hf:H1 s1.heap.objs.size=none:=I1.hok.fresh (Kz _);refine⟨.ref s1.heap.objs.size,upd H1 s1.heap.objs.size (.tup xs),I1.laid (t':=s1.toks) (fun b u e=>Kw _ e) (Kz _) ?_,rfl,q _ hf⟩;exact⟨z,us,r,⟨_,KG _ rfl,rfl,_,rfl⟩⟩
theorem Fl(h:PA X es t):PE X (.List es pos) (Jy t):=by
 intro pins s σ H Q I Z;refine wpAny_List_spliced (dN (h pos pins s σ H _ I Z) fun us s1 ⟨xs,H1,I1,r,z,q⟩=>⟨by rw[<-r.length];exact z,?_⟩)
 have hf:H1 s1.heap.objs.size=none:=I1.hok.fresh (Kz _);refine⟨.ref s1.heap.objs.size,upd H1 s1.heap.objs.size (.lst xs),I1.laid (t':=s1.toks) (fun b u e=>Kw _ e) (Kz _) ?_,rfl,q _ hf⟩;exact⟨z,us,0,r,KG _ rfl⟩
end
abbrev Sp:=List V->Hp->VK->XK->Prop
abbrev zR:=List Env->Hp->Shared->XK->Value->Shared->Prop
structure aO(P:Program)(w:World)(K:W.Frag)(mg:Str->Option Value)(base:Heap)(A:Around)(outer:List Env)(s:Shared)(H:Hp):Prop where
 frames:A.frames=some outer
 mod:Mod K mg base
 bs:∀ b o,base.get? b=some o->s.heap.get? b=some o/\H b=none
 bsz:base.objs.size<=s.heap.objs.size
 funs:s.heap.FunFrames base outer
 frf:∀ b∈jG outer,H b=none
 hok:gk P w H s.heap
 bare:AllBare s.gens
def CE(outer:List Env)(P:Program)(w:World)(H:Hp)(s:Shared)(Q:VK)(u:Value)(s':Shared):Prop:=
 ∃ v H',s'.os=s.os/\AllBare s'.gens/\Un (jG outer) [] H H' s.heap s'.heap/\gk P w H' s'.heap/\RelV v u/\Q v H'
def CR(CX:zR)(outer:List Env)(P:Program)(w:World)(H:Hp)(s:Shared)(Q:VK)(E:XK)(r:Result)(s':Shared):Prop:=
 match r with
 | .ok (.ret u)=>CE outer P w H s Q u s'
 | .ok _=>False
 | .error e=>CX outer H s E e s'
structure FnOk(P:Program)(w:World)(K:W.Frag)(mg:Str->Option Value)(base:Heap)(CX:zR)(k:Nat)(f:Addr)(fd:FuncData)(ps:List Str)(sp:Sp):Prop where
 len:∀ vs H Q E,sp vs H Q E->vs.length=ps.length
 run:∀(A:Around) (outer:List Env) (s:Shared) (H:Hp) (args:Args) (us:List Value) (vs:List V) (Q:VK) (E:XK),Room k A->aO P w K mg base A outer s H->BindsTo s fd args (ps.zip us)->bo vs us->sp vs H Q E->
  codeAny (model P w) A (.call (.ref f) args) (CR CX outer P w H s Q E) s
theorem aO.make{P:Program}{w:World}{K:W.Frag}{Z:Str->Option Value}{base:Heap}{A:Around}{outer:List Env}{s:Shared}{H:Hp}(e:aO P w K Z base A outer s H)(C:Addr)(us:List Value)(Y:List (Str×Value)):
  aO P w K Z base (A.under (.builtin "type.__call__" ⟨.ref C::us,Y⟩)) outer s H:=⟨by first|exact e.frames|(simpa [Around.under,Code.envs,Code.isFrame,pushEnvs]using e.frames),e.mod,e.bs,e.bsz,e.funs,e.frf,e.hok,e.bare⟩
section
variable {X:Cx}{pins:List (Addr×Obj)}{σ:St}{H:Hp}{s s':Shared}
theorem Inv.env0(I:Inv X pins σ H s):aO X.prog X.w X.K X.mg X.base X.A X.stack s H:=
 ⟨I.ok.frames,I.ok.mod,I.bs,KP I.ok.bsz I.sz,I.stack,I.stkFree,I.hok,I.bare⟩
theorem Inv.after(I:Inv X pins σ H s)(h:CE X.stack X.prog X.w H s Q u s'):EP X pins σ Q u s':=by
 obtain⟨v,W,os,bare,un,Y,r,q⟩:=h;obtain⟨U,g,d,t,Z⟩:=s';obtain rfl:Z=s.os:=os;exact⟨v,W,I.call (h':=U) (g':=g) (d':=d) (t':=t) (ch:=[]) un Y bare (fun b z=>absurd z (by simp)),r,q⟩
end
def HC(sp:Sp)(dvs:List V)(E:XK)(t:TA):TE:=fun σ H Q=>t σ H fun vs H1=>sp (vs++dvs) H1 Q E
def Binds(K:W.Frag)(fd:FuncData)(ps:List Str)(ds:List Value):Prop:=
 ∀(s:Shared) (us:List Value),K.In s.heap->(us++ds).length=ps.length->BindsTo s fd ⟨us,[]⟩ (ps.zip (us++ds))
theorem Binds.all{K:W.Frag}{Y:FuncData}{Z:List Str}(h:∀ us:List Value,us.length=Z.length->bindArgs Y ⟨us,[]⟩=pure (Z.zip us)):Binds K Y Z []:=fun s us _ X=>by
 rw[Lg]at X ⊢;exact .of_eq (h us X)
def n8(CX:zR)(X:Cx)(E:XK):Prop:=∀(pins:List (Addr×Obj)) (σ:St) (H:Hp) (s:Shared) (e:Value) (s':Shared),Inv X pins σ H s->CX X.stack H s E e s'->X.xe e s'
section
variable {X:Cx}{CX:zR}{k:Nat}{f C:Addr}{fd:FuncData}{ps:List Str}{sp:Sp}{dvs:List V}{ds:List Value}{E:XK}{x m:Str}{p pos apos:Pos}{e o:Expr}{es:List Expr}{ta:TE}{t:TA}
theorem Fm(F:FnOk X.prog X.w X.K X.mg X.base CX k f fd ps sp)(S:Room k X.A)(R:Binds X.K fd ps ds)(W:bo dvs ds)(U:n8 CX X E)
  (I:Inv X pins σ H s) (r:bo vs us) (h:sp (vs++dvs) H Q E):wpAny (model X.prog X.w) X.A (call (.ref f) us) (EP X pins σ Q) X.xe s:=by
 have Y:bo (vs++dvs) (us++ds):=r.append W;have T:(us++ds).length=ps.length:=by rw[<-Y.length];exact F.len _ _ _ _ h
 refine Nz (Mw (F.run X.A X.stack s H ⟨us,[]⟩ (us++ds) (vs++dvs) Q E S I.env0 (R s us I.kIn T) Y h) fun r s' Z=>?_);cases r with
 |error e=>exact U pins σ H s e s' I Z
 |ok fl=>
  cases fl with
  |ret u=>exact I.after Z
  |next=>exact False.elim Z
  |brk=>exact False.elim Z
  |cont=>exact False.elim Z
theorem rO(F:FnOk X.prog X.w X.K X.mg X.base CX k f fd ps sp)(P:Room k X.A)(O:Gl X x)(U:X.mg x=some (.ref f))(R:W.keepIn X.K (.ref f)=true)(J:Binds X.K fd ps ds)(N:bo dvs ds)(L:n8 CX X E)
  (S:PA X (e::es) t) (Y:(x==("__debug__":Str))=false:=by decide) (T:starEach (e::es) X.env=(false,eval e X.env)::starEach es X.env:=by rfl) (Z:(backTo pos (starEach es X.env)).any (·.1)=false:=by rfl):
  PE X (.Call (.Name x p) (e::es) [] pos) (HC sp dvs E t):=by
 intro pins s σ H Q I h;refine MM (j9 I O U ?_ Y);refine W.callWith_K (h₀:=X.base) I.ok.mod.kin R (dN (S pos pins s σ H _ I h) fun us s1 ⟨vs,H1,I1,r,q⟩=>⟨I1.kIn,?_⟩) T Z;exact Fm F P J N L I1 r q
structure Mk(K:W.Frag)(C f:Addr):Prop where
 makes:W.makesIn K C=true
 init:W.findIn K (.ref C) "__init__"=some (some (.ref f))
 fn:W.isFn K (.ref f)=true
 kp:W.keepIn K (.ref C)=true
end
section
variable {X:Cx}{CX:zR}{k:Nat}{f C:Addr}{fd:FuncData}{ps ks:List Str}{sp:Sp}{E:XK}{x m:Str}{p pos apos kpos:Pos}{e o:Expr}{es:List Expr}{kws:List Keyword}{te ta:TE}{t tk:TA}{nm:Option Str}
structure KBinds(K:W.Frag)(fd:FuncData)(ps ks:List Str)(g:List Value->List Value->List Value)(gV:List V->List V->List V):Prop where
 to:∀(s:Shared) (us ws:List Value),K.In s.heap->(g us ws).length=ps.length->BindsTo s fd ⟨us,ks.zip ws⟩ (ps.zip (g us ws))
 rel:∀{vs:List V} {us:List Value} {zs:List V} {ws:List Value},bo vs us->bo zs ws->bo (gV vs zs) (g us ws)
variable {g:List Value->List Value->List Value}{gV:List V->List V->List V}
end
structure FnScope(N P:List Str)(sc:Scope):Prop where
 kind:sc.kind= .function
 co:sc.isCoroutine=false
 gen:sc.isGenerator=false
 nd:N.Nodup
 pre:N.take P.length=P
 par:∀ x∈P,sc.names.lookup x=some .local\/sc.names.lookup x=some .cell
 nofree:∀ y∈sc.names,y.2≠ .free
theorem qB{Z:Str->Option NameKind}{x:Str}:∀{binds:List (Str×Value)} {m:Str->Option Value},(∀ v,(x,v) ∉ binds)->bindL Z binds m x=m x
 |[],_,_=>rfl
 | (n,v)::r,m,h=>by
  unfold bindL;rw[qB fun w hw=>h w (KJ _ hw)];split
  ·have:x≠n:=by rintro rfl;exact h v KR
   simp[this]
  ·rfl
theorem qC{Z:Str->Option NameKind}{x:Str}:∀{binds:List (Str×Value)} {m:Str->Option Value},(∀ v,(x,v) ∉ binds)->bindC Z binds m x=m x
 |[],_,_=>rfl
 | (n,v)::r,m,h=>by
  unfold bindC;rw[qC fun w hw=>h w (KJ _ hw)];split
  ·rfl
  ·have:x≠n:=by rintro rfl;exact h v KR
   simp[this]
theorem qD{Z:Str->Option NameKind}:∀{P:List Str} {vs:List Value} {i:Nat} {m:Str->Option Value},P.Nodup->P[i]? =some x->vs[i]? =some v->Z x=some .local->
  bindL Z (P.zip vs) m x=some v
 |[],_,_,_,_,h,_,_=>by simp at h
 |_::_,[],_,_,_,_,h,_=>by simp at h
 |p::P,w::vs,0,m,nd,h1,h2,hk=>by
  simp at h1 h2;subst h1;subst h2;show bindL Z ((p,w)::P.zip vs) m p=_;unfold bindL;rw[qB fun v Y=>(Lw.mp nd).1 (Ng Y).1,if_pos hk];simp
 |p::P,w::vs,i+1,m,nd,h1,h2,hk=>by
  show bindL Z ((p,w)::P.zip vs) m x=_;unfold bindL;exact qD (i:=i) (Lw.mp nd).2 (by simpa using h1) (by simpa using h2) hk
theorem qE{Z:Str->Option NameKind}:∀{P:List Str} {vs:List Value} {i:Nat} {m:Str->Option Value},P.Nodup->P[i]? =some x->vs[i]? =some v->Z x≠some .local->
  bindC Z (P.zip vs) m x=some v
 |[],_,_,_,_,h,_,_=>by simp at h
 |_::_,[],_,_,_,_,h,_=>by simp at h
 |p::P,w::vs,0,m,nd,h1,h2,hk=>by
  simp at h1 h2;subst h1;subst h2;show bindC Z ((p,w)::P.zip vs) m p=_;unfold bindC;rw[qC fun v Y=>(Lw.mp nd).1 (Ng Y).1,if_neg hk];simp
 |p::P,w::vs,i+1,m,nd,h1,h2,hk=>by
  show bindC Z ((p,w)::P.zip vs) m x=_;unfold bindC;exact qE (i:=i) (Lw.mp nd).2 (by simpa using h1) (by simpa using h2) hk
def start(N:List Str)(vs:List V):St:=vs.map some++List.replicate (N.length - vs.length) none
def jC(CX:zR)(P:Program)(w:World)(K:W.Frag)(mg:Str->Option Value)(base:Heap)(N:List Str)(qual:Str)(scope:Scope)(f:Addr)(cd:Value)(A:Around)(outer:List Env)(s:Shared)(H:Hp)(E:XK):Cx where
 prog:=P
 w:=w
 K:=K
 mg:=mg
 base:=base
 A:=A.deeper (envOfC qual scope s.heap.objs.size f cd)
 N:=N
 s₀:=s
 H₀:=H
 env:=envOfC qual scope s.heap.objs.size f cd
 outer:=outer
 stack:=envOfC qual scope s.heap.objs.size f cd::outer
 ex:=[]
 calm:=true
 fn:=fun _=>true
 pn:=[]
 xe:=fun e s'=>wpAny (model P w) (A.deeper (envOfC qual scope s.heap.objs.size f cd)) (leaving (envOfC qual scope s.heap.objs.size f cd) e) (fun _ s''=>CX outer H s E e s'') (fun e' s''=>CX outer H s E e' s'') s'
theorem tZ{Z:Scope}(h:Z.names.lookup x=some .cell):∃ c,(cellsFrom n Z.names []).lookup x=some c:=by
 have q:=Nq Z.names n [] (.inl h);exact LW.mp q
theorem yr{F:zR}{P:Program}{w:World}{K:W.Frag}{I:Str->Option Value}{base:Heap}{N U:List Str}{qual:Str}{scope:Scope}{f:Addr}{L:Value}{A:Around}{outer:List Env}{s C:Shared}{H:Hp}{E:XK}{us:List Value}{vs:List V}
  (S:FnScope N U scope) (l:A.handled=none) (Y:aO P w K I base A outer s H) (j:vs.length=U.length) (r:bo vs us)
  (x:InCallC s s.heap.objs.size (bindL (envOfC qual scope s.heap.objs.size f L).kindOf (U.zip us) fun _=>none) (cellsFrom (s.heap.objs.size+1) scope.names []) (bindC (envOfC qual scope s.heap.objs.size f L).kindOf (U.zip us) fun _=>none) C):
  Inv (jC F P w K I base N qual scope f L A outer s H E) [] (start N vs) H C:=by
 have o:U.length<=N.length:=by have:=NF List.length S.pre;rw[LM]at this;omega
 obtain⟨J,d,rfl,G⟩:=x.done;have T:∀ b:Addr,b ∉ (jC F P w K I base N qual scope f L A outer s H E).ex:=fun b z=>absurd (show b∈([]:List Addr)from z) (by simp)
 refine⟨⟨Y.mod,S.kind,rfl,rfl,Kz _,fun y z c J Z=>?_,fun y X=>?_,fun y c _ h=>?_,fun _=>l,Around.frames_deeper Y.frames,.inr ⟨rfl,rfl⟩,fun b z=>absurd z (T b),Y.bs,Y.bsz,fun b _ _=>T b,fun b z=>absurd z (T b),Y.funs,Y.frf⟩,
  rfl,Y.bare,Un.kept G,⟨_,x.toInCall.ns,fun i y v J Z g=>?_⟩,fun y c h=>⟨_,x.cell y c h⟩,Y.hok.fresh (Kz _),fun y c h=>?_,fun p R=>absurd (show p∈([]:List (Addr×Obj))from R) (by simp),Y.hok.kept G,?_⟩
 ·exact name_of_addr x.apart (Mx J) (Mx Z)
 ·have X:scope.names.lookup y=some .cell\/scope.names.lookup y=some .free:=X;rcases X with X|X
  ·exact tZ X
  ·exact absurd rfl (S.nofree _ (Mx X))
 ·exact Mm (x.above y c (Mx h))
 ·have O:i<vs.length:=by
   unfold start at Z;by_cases O:i<vs.length
   ·exact O
   ·rw[MW (by simpa using O)]at Z
    rw[List.getElem?_replicate]at Z;split at Z<;>cases Z
  have t:vs[i]? =some v:=by
   unfold start at Z;rw[Li (by simpa using O),K1]at Z
   cases e:vs[i]? with
   |none=>rw[e]at Z;cases Z
   |some a=>rw[e]at Z;cases Z;rfl
  obtain⟨u,B,m⟩:=r.get t;have R:U[i]? =some y:=by
   rw[<-S.pre,Od (by omega)];exact J
  have Q:U.Nodup:=by rw[<-S.pre];exact S.nd.sublist (List.take_sublist _ _)
  refine⟨u,m,?_⟩;rcases S.par y (Le R)with k|k
  ·exact .inl ⟨k,qD Q R B k⟩
  ·obtain⟨c,e⟩:=tZ (n:=s.heap.objs.size+1) k;refine .inr ⟨.inl k,c,e,?_⟩;have q:=x.cell y c e;rw[qE Q R B (by show scope.names.lookup y≠_;rw[k];decide)]at q
   exact q
 ·exact Y.hok.fresh (Mm (x.above y c (Mx h)))
 ·unfold start;show _=N.length;rw[KD,Kx,List.length_replicate];omega
theorem Ag{F:zR}{P:Program}{w:World}{K:W.Frag}{C:Str->Option Value}{base:Heap}{k:Nat}{f:Addr}{name qual:Str}{params:Arguments}{body:List Stmt}{scope:Scope}{j kV G g Z ct oc:Value}{h od:Option Addr}
  {p:Array (Option Value)} {N B:List Str} {sp:Sp} (lk:K.lookup f=some ⟨oc,od,.func (W.fnOf name qual params body scope j kV G g h Z ct),p⟩) (l:W.codeIn K Z qual=true) (S:FnScope N B scope)
  (O:∀ vs H Q E,sp vs H Q E->vs.length=B.length)
  (T:∀(A:Around) (outer:List Env) (s:Shared) (H:Hp) (vs:List V) (Q:VK) (E:XK),Room k (A.deeper (envOfC qual scope s.heap.objs.size f Z))->sp vs H Q E->
   ∃ t,qb (jC F P w K C base N qual scope f Z A outer s H E) body t/\t {nx:=fun _ X=>Q .non X,rt:=Q} (start N vs) H):
  FnOk P w K C base F (k+1) f (W.fnOf name qual params body scope j kV G g h Z ct) B sp:=by
 refine⟨O,fun A outer s H args us vs Q E z L hb r R=>?_⟩;have a:=O _ _ _ _ R;have i:K.In s.heap:=L.mod.kin.keeps fun b o e=>(L.bs b o e).1;have lim:s.heap.NoLimit:=L.mod.nolimit.keeps fun b o e=>(L.bs b o e).1;have U:∀ y∈B.zip us,scope.names.lookup y.1=some .local\/(scope.names.lookup y.1=some .cell/\((cellsFrom (s.heap.objs.size+1) scope.names []).lookup y.1).isSome=true):=fun⟨n,v⟩ hy=>by
  rcases S.par n (Ng hy).1 with q|q
  ·exact .inl q
  ·exact .inr ⟨q,Nq _ _ _ (.inl q)⟩
 refine codeAny_call_function z.depth (i _ _ lk) rfl S.co S.gen rfl (W.codeRec_of i l) (hb _ _ _ _ ?_);refine wpAny_newFunctionEnv_cells S.kind U fun env he s1 x=>?_;subst he;refine⟨lim.keeps x.toInCall.keep,codeAny_func ?_⟩;obtain⟨t,c,d⟩:=T A outer s H vs Q E (z.deeper _) R;have I:Inv (jC F P w K C base N qual scope f Z A outer s H E) [] (start N vs) H s1:=yr S z.hd L a r x;refine La (c [] s1 (start N vs) H _ I d) (fun fl s' hs=>?_) fun e s' hs=>hs;have fin:∀{Y:St} {X:Hp} {v:V} {u:Value},Inv (jC F P w K C base N qual scope f Z A outer s H E) [] Y X s'->RelV v u->Q v X->CE outer P w H s Q u s':=
  fun{Y X v u} J m q=>⟨v,X,J.os,J.bare,J.base,J.hok,m,q⟩
 cases fl with
 |ret u=>
  obtain⟨v,Y,X,J,m,q⟩:=hs;exact fin J m q
 |next=>
  obtain⟨Y,X,J,q⟩:=hs;exact fin (v:=V.non) (u:=Value.none) J rfl q
 |brk=>
  obtain⟨_,_,_,q⟩:=hs;exact False.elim q
 |cont=>
  obtain⟨_,_,_,q⟩:=hs;exact False.elim q
end L2
namespace L2
open PySem PySem.Spec PyProof.Rows
section
variable {X:Cx}{x:Str}{p pos:Pos}{e:Expr}{es:List Expr}{t:TA}{id T:String}{r:List V->Hp->VK->Prop}
def Jz(r:List V->Hp->VK->Prop)(t:TA):TE:=fun σ H Q=>t σ H fun vs H1=>r vs H1 Q
theorem jK(R:dF X (.builtin id) r)(O:Gl X x)(W:X.mg x=none)(S:bootBuiltins x=some (.builtin id))(P:PA X (e::es) t)(N:x≠"__name__":=by decide)(Y:(x==("__debug__":Str))=false:=by decide)
  (U:starEach (e::es) X.env=(false,eval e X.env)::starEach es X.env:=by rfl) (Z:(backTo pos (starEach es X.env)).any (·.1)=false:=by rfl):PE X (.Call (.Name x p) (e::es) [] pos) (Jz r t):=by
 intro pins s σ H Q I h;refine MM (kG I O W S ?_ N Y);exact PyProof.Rows.callWith_builtin1 (dN (P pos pins s σ H _ I h) fun us s1 ⟨vs,H1,I1,r1,q1⟩=>R pins s1 σ H1 vs us Q I1 r1 q1) U Z
theorem kb(R:dF X (.type T) r)(O:Gl X x)(W:X.mg x=none)(S:bootBuiltins x=some (.type T))(P:PA X (e::es) t)(N:x≠"__name__":=by decide)(Y:(x==("__debug__":Str))=false:=by decide)
  (U:starEach (e::es) X.env=(false,eval e X.env)::starEach es X.env:=by rfl) (Z:(backTo pos (starEach es X.env)).any (·.1)=false:=by rfl):PE X (.Call (.Name x p) (e::es) [] pos) (Jz r t):=by
 intro pins s σ H Q I h;refine MM (kG I O W S ?_ N Y);exact LX (dN (P pos pins s σ H _ I h) fun us s1 ⟨vs,H1,I1,r1,q1⟩=>R pins s1 σ H1 vs us Q I1 r1 q1) U Z
end
end L2
namespace HT
open PySem PyProof.Rows
def lexLt:List Int->List Int->Bool
 |[],[]=>false
 |[],_::_=>true
 |_::_,[]=>false
 |x::xs,y::ys=>if x=y then lexLt xs ys else decide (x<y)
theorem lexLt_cons(x y:Int)(xs ys:List Int):lexLt (x::xs) (y::ys)=if x=y then lexLt xs ys else decide (x<y):=rfl
theorem qc:lexLt [] []=false:=rfl
theorem oa(y:Int)(ys:List Int):lexLt [] (y::ys)=true:=rfl
theorem og(x:Int)(xs:List Int):lexLt (x::xs) []=false:=rfl
theorem Ah(A:Around)(s:Shared)(a:Int)(t:Tok)(c:Int)(u:Tok):∃ e,SeqAt.EqAt A s (.int a t) (.int c u) e/\(e=true↔a=c):=
 ⟨(a==c),SeqAt.EqAt.int_int a t c u,by simp⟩
theorem Ai(A:Around)(s:Shared)(a:Int)(t:Tok)(c:Int)(u:Tok)(prog:Program)(w:World)(E:Value->Shared->Prop)(Q:Value->Shared->Prop)(h:Q (.bool (decide (a<c))) s):
  wpAny (model prog w) A (richCompare .Lt (.int a t) (.int c u)) Q E s:=
 (PyProof.Rows.lt_int h:wpAny (model prog w) A (compareOp .Lt (.int a t) (.int c u)) Q E s)
section
open PySem.SeqAt
open PySem.AutoSeq1 (wpAny_loadPart')
open PySem.MeetsSeq PySem.MeetsSeq2 PySem.MeetsSeq3
theorem qd(l b:Addr)(items Z:Array Value)(n N:Nat)(dd U:Option Addr)(K T:Array (Option Value))(ns ms:List Int)(Q:IntsAre items.toList ns)(P:IntsAre Z.toList ms):
  Meets (Builtin.«tuple.__lt__» ⟨[.ref l,.ref b],[]⟩)
   (fun _ R s=>s.heap.get? l=some {cls:=.type "tuple",dict:=dd,data:=.seq items n,slots:=K}/\s.heap.get? b=some {cls:=.type "tuple",dict:=U,data:=.seq Z N,slots:=T}/\
    R (.ok (.ret (.bool (lexLt ns ms)))) s):=
 .of_wp fun prog w A R s h=>by
  obtain⟨X,g,d,W,os⟩:=s;obtain⟨L,J,h⟩:=h;have f2:=AutoSeq1.sub_tuple_tuple;have H:items.size=ns.length:=by rw[<-Q.length];simp
  have I:Z.size=ms.length:=by rw[<-P.length];simp
  wp_walk using wpAny_loadPart' L,wpAny_loadPart' J,NK _ (fun rest b s'=>b.1=none/\s'=⟨X,g,d,W,os⟩/\∃(vs ws:List Value) (ns' ms':List Int),rest=vs.zip ws/\
   IntsAre vs ns'/\IntsAre ws ms'/\ns'.length+Z.size=ms'.length+items.size/\R (.ok (.ret (.bool (lexLt ns' ms')))) ⟨X,g,d,W,os⟩) _
  case turn=>
   rintro⟨y,x⟩ rest b s' ⟨hb',rfl,vs,ws,ns',ms',hz,hvi,hwi,hlen,hR⟩;cases hvi with
   |nil=>rw[List.zip_nil_left]at hz;cases hz
   | cons a t hvi'=>
    cases hwi with
    |nil=>rw[List.zip_nil_right]at hz;cases hz
    | cons c u hwi'=>
     rw[N4]at hz;injection hz with hyx hrest;injection hyx with hy hx;subst hy hx;rw[lexLt_cons]at hR;simp only[List.length_cons]at hlen;obtain⟨e,he,Y⟩:=Ah A.in1 ⟨X,g,d,W,os⟩ a t c u;refine Kv (he prog w _ _ ?_);cases e with
     |true=>
      rw[if_pos (Y.mp rfl)]at hR
      wp_walk
      exact⟨rfl,rfl,_,_,_,_,hrest,hvi',hwi',by omega,hR⟩
     |false=>
      rw[if_neg (fun q=>absurd (Y.mpr q) Mb)]at hR;have S:=Ai A.in1 ⟨X,g,d,W,os⟩ a t c u prog w
      wp_walk using S
      exact⟨_,rfl,by simpa using hR⟩
  case fin=>
   rintro⟨b1,b2⟩ s' ⟨hb',rfl,vs,ws,ns',ms',hz,hvi,hwi,hlen,hR⟩;simp only at hb';subst hb';have O:lexLt ns' ms'=decide (items.size<Z.size):=by
    cases hvi with
    | nil=>
     cases hwi with
     |nil=>
      simp only[List.length_nil]at hlen;rw[qc];exact(Lr (by omega)).symm
     |cons c u hw=>
      simp only[List.length_nil,List.length_cons]at hlen;rw[oa];exact(KU (by omega)).symm
    | cons a t O=>
     cases hwi with
     |nil=>
      simp only[List.length_nil,List.length_cons]at hlen;rw[og];exact(Lr (by omega)).symm
     |cons c u hw=>
      rw[N4]at hz;cases hz
   rw[O]at hR
   wp_walk
   exact⟨_,rfl,by simpa [Builtin.Tuple.tupleCompareSizes]using hR⟩
  case h=>
   exact⟨rfl,rfl,items.toList,Z.toList,ns,ms,rfl,Q,P,by omega,h⟩
end
section
variable {prog:Program}{w:World}{A:Around}{E:Value->Shared->Prop}{s:Shared}
theorem lt_tupInts{Q:Value->Shared->Prop}(N:IsTup s.heap l items)(J:IsTup s.heap b items2)(R:IntsAre items.toList ns)(O:IntsAre items2.toList ms)
  (K:A.units<cLine) (h:Q (.bool (lexLt ns ms)) s):wpAny (model prog w) A (compareOp .Lt (.ref l) (.ref b)) Q E s:=by
 obtain⟨⟨cls,dd,data,L⟩,U,T,n,hd⟩:=id N;obtain⟨⟨S,X,data2,W⟩,Z,Y,P,hd2⟩:=id J;simp only at T hd Y hd2;subst T hd Y hd2;exact richCompare_meets_room (op:=.Lt) ⟨_,U,rfl⟩ ⟨_,Z,rfl⟩ PySem.F.slot_tuple_lt PySem.F.entry_tuple_lt (PySem.F.args_tuple_lt_2 _ _) (qd l b items items2 n P dd X L W ns ms R O)
  ⟨U,Z,show Value.bool (lexLt ns ms)≠Value.notImplemented/\Q (.bool (lexLt ns ms)) s from⟨(fun x=>nomatch x),h⟩⟩ K
theorem cat_tup{vs Z:List Value}{Q:Value->Shared->Prop}(J:IsTup s.heap t vs.toArray)(H:IsTup s.heap b Z.toArray)(R:vs≠[])
  (I:Z=[]->Q (.ref t) s) (K:Z≠[]->Q (.ref s.heap.objs.size) {s with heap:=s.heap.push {cls:=.type "tuple",data:=.seq (vs++Z).toArray}})
  (S:vs.length+Z.length<=sizeLine):wpAny (model prog w) A (binaryOp .Add (.ref t) (.ref b)) Q E s:=by
 obtain⟨⟨cls,dd,data,L⟩,T,P,n,hd⟩:=id J;obtain⟨⟨N,X,data2,U⟩,Y,W,O,hd2⟩:=id H;simp only at P hd W hd2;subst P hd W hd2;have e:vs.toArray++Z.toArray=(vs++Z).toArray:=by simp
 by_cases hw:Z=[]
 ·exact concat_meets ⟨_,T,rfl⟩ ⟨_,Y,rfl⟩ Ox seq_tuple_add Nr Nh (M9 _ _)
   (tuple_addW1 t b vs.toArray Z.toArray n O dd X L U (by simpa using R) (by simp[hw])) ⟨T,Y,I hw⟩
 ·refine concat_meets ⟨_,T,rfl⟩ ⟨_,Y,rfl⟩ Ox seq_tuple_add Nr Nh (M9 _ _)
   (tuple_addW2 t b vs.toArray Z.toArray n O dd X L U (by simpa using R) (by simpa using hw) (by rw[KN,KN];exact S)) ⟨T,Y,?_⟩
  rw[e];exact K hw
def sIx(n d:Nat):Option Int->Nat
 |none=>d
 |some v=>if v<0 then (v+(n:Int)).toNat else min v.toNat n
theorem sIx_none(n d:Nat):sIx n d none=d:=rfl
theorem sIx_nat(n d k:Nat):sIx n d (some (k:Int))=min k n:=by
 show(if (k:Int)<0 then ((k:Int)+(n:Int)).toNat else min (k:Int).toNat n)=min k n;rw[if_neg (by omega),Lo]
theorem Fo(n d:Nat)(Z:d<=n)(o:Option Int):sIx n d o<=n:=by
 cases o with
 |none=>exact Z
 |some v=>
  show(if v<0 then (v+(n:Int)).toNat else min v.toNat n)<=n;by_cases hv:v<0
  ·rw[if_pos hv];omega
  ·rw[if_neg hv];exact Nat.min_le_right _ _
theorem wV(v:Int)(n d:Nat):(if v<0 then max (v+(n:Int)) 0 else min v (n:Int))=((sIx n d (some v):Nat):Int):=by
 show(if v<0 then max (v+(n:Int)) 0 else min v (n:Int))=(((if v<0 then (v+(n:Int)).toNat else min v.toNat n):Nat):Int);by_cases hv:v<0
 ·simp only[if_pos hv];omega
 ·simp only[if_neg hv];omega
theorem vC(Z Y:Option Int)(n:Nat):Builtin.Slice.sliceAdjust Z Y 1 (n:Int)=(((sIx n 0 Z:Nat):Int),((sIx n n Y:Nat):Int)):=by
 have X:¬ ((1:Int)<0):=by omega
 unfold Builtin.Slice.sliceAdjust;simp only[X,if_false];refine ND ?_ ?_
 ·cases Z with
  |none=>rfl
  |some v=>exact wV v n 0
 ·cases Y with
  |none=>rfl
  |some v=>exact wV v n n
theorem vD(i j:Nat):Builtin.Slice.slicePlaces (i:Int) (j:Int) 1=j - i:=by
 unfold Builtin.Slice.slicePlaces;have Z:(1:Int)>0:=by omega
 simp only[Z,if_true,Int.ediv_one];split<;>omega
theorem oh{Q:Option Int->Shared->Prop}(p:IsPart v o)(h:Q o s):wpAny (model prog w) A (Builtin.Slice.slicePartIndex v) Q E s:=by
 cases p with
 |none=>exact slicePart_none h
 |int i t=>exact slicePart_int h
theorem sliceApplied_gen{S:Addr}{T U:Value}{Z X:Option Int}{n:Nat}{Q:Int×Int×Nat->Shared->Prop}(hs:s.heap.IsSliceOf S T U .none)(O:IsPart T Z)(P:IsPart U X)
  (h:Q (((sIx n 0 Z:Nat):Int),1,sIx n n X - sIx n 0 Z) s):wpAny (model prog w) A (Builtin.Slice.sliceApplied (.ref S) (pure (n:Int))) Q E s:=by
 obtain⟨os,Y,R,W⟩:=id hs;unfold Builtin.Slice.sliceApplied Builtin.Slice.sliceFields;refine Kv (Kv (LH Y W (x:=T) rfl (Kv (LH Y W (x:=U) rfl (Kv (LH Y W (x:=.none) rfl (Ky ?_)))))));refine Kv (slicePart_none ?_);show wpAny _ _ (if ((1:Int)==0)=true then _ else _) _ _ s;rw[if_neg (by decide)]
 refine Kv (oh O (Kv (oh P (Kv (Ky ?_)))));show wpAny _ _ (match Builtin.Slice.sliceAdjust Z X 1 (n:Int)with|(Z,X)=>pure (Z,(1:Int),Builtin.Slice.slicePlaces Z X 1)) _ _ s
 rw[vC Z X n];show wpAny _ _ (pure (((sIx n 0 Z:Nat):Int),(1:Int),Builtin.Slice.slicePlaces ((sIx n 0 Z:Nat):Int) ((sIx n n X:Nat):Int) 1)) _ _ s;rw[vD];exact Ky h
theorem Aj(xs:Array Value)(i k:Nat):((List.range k).filterMap fun(m:Nat)=>xs[((i:Int)+(m:Int)*1).toNat]?).toArray=((xs.toList.drop i).take k).toArray:=by
 have e:(fun(m:Nat)=>xs[((i:Int)+(m:Int)*1).toNat]?)=fun m=>xs[i+m]? :=by
  funext m;have:((i:Int)+(m:Int)*1).toNat=i+m:=by omega
  rw[this]
 rw[e];have:=pick_run xs i k;rw[List.filterMap_map]at this;have e2:((fun x=>xs[x]?)∘fun x=>i+x)=fun m=>xs[i+m]? :=rfl;rw[e2]at this;rw[this]
theorem getItem_tuple_cut{t U:Addr}{items:Array Value}{N O:Value}{Y X:Option Int}{Q:Value->Shared->Prop}(W:IsTup s.heap t items)(hs:s.heap.IsSliceOf U N O .none)(H:IsPart N Y)(K:IsPart O X)
  (I:¬ (sIx items.size 0 Y=0/\sIx items.size items.size X=items.size))
  (h:Q (.ref s.heap.objs.size) {s with heap:=s.heap.push {cls:=.type "tuple",data:=.seq ((items.toList.drop (sIx items.size 0 Y)).take (sIx items.size items.size X - sIx items.size 0 Y)).toArray}})
  (J:items.size<=sizeLine):wpAny (model prog w) A (getItem (.ref t) (.ref U)) Q E s:=by
 have Z:sizeOk (.seq ((items.toList.drop (sIx items.size 0 Y)).take (sIx items.size items.size X - sIx items.size 0 Y)).toArray):=by
  show((items.toList.drop (sIx items.size 0 Y)).take (sIx items.size items.size X - sIx items.size 0 Y)).toArray.size<=sizeLine;rw[KN,LM,Oy,My];omega
 have F:sIx items.size items.size X<=items.size:=Fo _ _ (Kz _) X;obtain⟨os,T,S,L⟩:=id hs;have P:s.TypeIs (.ref U) "slice":=⟨os,T,S⟩;unfold getItem
 try with_reducible refine Lm ?_
 first|refine Kv (Ky ?_)|skip
 refine Kv (wpAny_sequenceKey W.typeIs (by decide) ?_)
 refine Kv (wpAny_callSpecial?_slot (name:=Str.ofString "__getitem__") W.typeIs L5
  (LC L5 W.typeIs entry_tuple_getitem ?_ (args_tuple_getitem _ _)))
 show wpAny _ _ (Builtin.Tuple.tupleItemsOf (.ref t)>>=_) _ _ s;refine Kv (tupleItemsOf_ W ?_);refine Kv (Na P ?_);rw[if_pos (by decide)]
 refine Kv (sliceApplied_gen hs H K ?_);have R:¬ ((((sIx items.size 0 Y:Nat):Int)==0 && (1:Int)==1 && (sIx items.size items.size X - sIx items.size 0 Y)==items.size)=true):=by
  intro q;rw[Mf,Mf]at q;have G:((sIx items.size 0 Y:Nat):Int)=0:=eq_of_beq q.1.1;have C:sIx items.size items.size X - sIx items.size 0 Y=items.size:=eq_of_beq q.2;exact I ⟨by omega,by omega⟩
 show wpAny _ _ (if (((sIx items.size 0 Y:Nat):Int)==0 && (1:Int)==1 && (sIx items.size items.size X - sIx items.size 0 Y)==items.size)=true then _ else _) _ _ s;rw[if_neg R,Aj];first
  |exact Kv (m:=Builtin.Tuple.tupleExact _) (Ln (Ky ⟨_,rfl,Ky h⟩) Z)
  |exact Kv (m:=Builtin.Tuple.tupleExact _) (Ln (Kv (Ky (Ky ⟨_,rfl,Ky h⟩))) Z)
  |exact Kv (Kv (m:=Builtin.Tuple.tupleExact _) (Ln (Ky (Ky ⟨_,rfl,Ky h⟩)) Z))
  |exact Kv (Kv (m:=Builtin.Tuple.tupleExact _) (Ln (Ky ⟨_,rfl,Ky h⟩) Z))
end
end HT
namespace L2
open PySem PySem.Spec PyProof.Rows
abbrev TO:=St->Hp->(Option Int->Hp->Prop)->Prop
def PO(X:Cx)(e:Option Expr)(t:TO):Prop:=
 ∀(pins:List (Addr×Obj)) (s:Shared) (σ:St) (H:Hp) (Q:Option Int->Hp->Prop),Inv X pins σ H s->t σ H Q->
  wpAny (model X.prog X.w) X.A (evalPart e X.env) (fun u s'=>∃ o H',Inv X pins σ H' s'/\IsPart u o/\Q o H') X.xe s
def CL:TO:=fun _ H Q=>Q none H
def HD(t:TE):TO:=fun σ H Q=>t σ H fun x H1=>∃ i,x= .int i/\Q (some i) H1
theorem Oe{ns:List Int}:∀{us:List Value},bo (ns.map V.int) us->IntsAre us ns:=by
 induction ns with
 |nil=>intro us r;rw[L3]at r;cases r;exact .nil
 | cons n ns ih=>
  intro us r;rw[K3]at r;cases r with
  |cons r1 r2=>
   obtain⟨t,e⟩:=r1;subst e;exact .cons n t (ih r2)
section
variable {X:Cx}{e:Expr}{te:TE}{lo hi:Option Expr}{tl th:TO}{pos p2:Pos}
theorem CM:PO X none CL:=by
 intro pins s σ H Q I h;rw[evalPart_none];exact Ky ⟨none,H,I,.none,h⟩
theorem CN(h:PE X e te):PO X (some e) (HD te):=by
 intro pins s σ H Q I hw;rw[evalPart_some];refine dN (h pins s σ H _ I hw) fun u s1 ⟨x,H1,I1,r1,q1⟩=>?_;obtain⟨i,rfl,q⟩:=q1;obtain⟨t,rfl⟩:=r1;exact⟨some i,H1,I1,.int i t,q⟩
def Eh(X:Cx)(r:V->Option Int->Option Int->Hp->VK->Prop):Prop:=
 ∀(pins:List (Addr×Obj)) (s:Shared) (σ:St) (H:Hp) (x:V) (v vl vu:Value) (lo hi:Option Int) (sl:Addr) (Q:VK),Inv X pins σ H s->RelV x v->s.heap.IsSliceOf sl vl vu .none->IsPart vl lo->IsPart vu hi->r x lo hi H Q->
  ∃ T id,typeLookup (.type T) "__getitem__"=pure (some (.builtin id))/\s.TypeIs v T/\wpAny (model X.prog X.w) X.A (getItem v (.ref sl)) (EP X pins σ Q) X.xe s
theorem Eh.or{r T:V->Option Int->Option Int->Hp->VK->Prop}(h:Eh X r)(h':Eh X T):Eh X (fun x lo hi H Q=>r x lo hi H Q\/T x lo hi H Q):=by
 intro pins s σ H x v Y Z lo hi U Q I S hs W pu q;rcases q with q|q
 ·exact h pins s σ H x v Y Z lo hi U Q I S hs W pu q
 ·exact h' pins s σ H x v Y Z lo hi U Q I S hs W pu q
def Ki(r:V->Option Int->Option Int->Hp->VK->Prop)(te:TE)(tl th:TO):TE:=fun σ H Q=>te σ H fun x H1=>tl σ H1 fun l H2=>th σ H2 fun u H3=>r x l u H3 Q
theorem Ak(R:Eh X r)(Z:PE X e te)(U:PO X lo tl)(O:PO X hi th):PE X (.Subscript e (.Slice lo hi none p2) pos) (Ki r te tl th):=by
 intro pins s σ H Q I h;refine Subscript_ (dN (Z pins s σ H _ I h) fun v s1 ⟨x,H1,I1,r1,q1⟩=>?_);refine wpAny_Slice (dN (U pins s1 σ H1 _ I1 q1) fun vl s2 ⟨l,H2,I2,pl,q2⟩=>dN (O pins s2 σ H2 _ I2 q2) fun vu s3 ⟨u,H3,I3,pu,q3⟩=>?_);rw[evalPart_none];refine Ky ?_;have S:Inv X pins σ H3 {s3 with heap:=s3.heap.push {cls:=.type "slice",data:=.fields #[vl,vu,.none]}}:=I3.kept (t':=s3.toks) fun b N q=>Kw _ q;obtain⟨T,id,Y,W,P⟩:=R pins {s3 with heap:=s3.heap.push {cls:=.type "slice",data:=.fields #[vl,vu,.none]}} σ H3 x v vl vu l u s3.heap.objs.size Q S r1 (Heap.IsSliceOf.new ..) pl pu q3;show wpAny (model X.prog X.w) X.A (subscriptTail e (.Slice lo hi none p2) v (.ref s3.heap.objs.size)) (EP X pins σ Q) X.xe {s3 with heap:=s3.heap.push {cls:=.type "slice",data:=.fields #[vl,vu,.none]}};exact tail_any (ops:=[.ref s3.heap.objs.size,v]) W Y P (by with_unfolding_all rfl)
def qe(xs:List V)(lo hi:Option Int):List V:=(xs.drop (HT.sIx xs.length 0 lo)).take (HT.sIx xs.length xs.length hi - HT.sIx xs.length 0 lo)
theorem mO(xs:List V)(lo hi:Option Int):(qe xs lo hi).length<=xs.length:=by
 unfold qe;rw[LM,Oy];omega
def JA(K:W.Frag):V->Option Int->Option Int->Hp->VK->Prop:=fun x lo hi H Q=>∃ a xs,x= .ref a/\la K H a xs/\
 ¬ (HT.sIx xs.length 0 lo=0/\HT.sIx xs.length xs.length hi=xs.length)/\∀ p,H p=none->Q (.ref p) (upd H p (.tup (qe xs lo hi)))
theorem Fp:Eh X (JA X.K):=by
 intro pins s σ H x v R S lo hi P Q I W hs U pu h;obtain⟨a,xs,rfl,T,hw,q⟩:=h;cases W;obtain⟨its,r,Z,Y⟩:=I.tuple T;have hlen:its.toArray.size=xs.length:=by rw[KN];exact r.length.symm
 refine⟨"tuple",_,PyProof.Rows.slot_tuple_getitem.lookup,Z.typeIs,?_⟩;refine HT.getItem_tuple_cut Z hs U pu (by rw[hlen];exact hw) ?_ (by rw[hlen];exact Y)
 rw[hlen];refine⟨.ref s.heap.objs.size,_,I.laid (t':=s.toks) (o:=.tup (qe xs lo hi)) (fun b O q=>Kw _ q) (Kz _) ?_,rfl,q _ (I.hok.fresh (Kz _))⟩;exact⟨KP (mO xs lo hi) Y,_,(r.drop (HT.sIx xs.length 0 lo)).take (HT.sIx xs.length xs.length hi - HT.sIx xs.length 0 lo),IsTup.new _ _⟩
def HE(K:W.Frag):R2:=fun x y H Q=>∃ a b ns ms,x= .ref a/\y= .ref b/\la K H a (ns.map V.int)/\la K H b (ms.map V.int)/\Q (.bl (HT.lexLt ns ms)) H
theorem vE(N:X.A.units<cLine):i6 X (compareOp .Lt) (HE X.K):=by
 intro pins s σ H x y v u Q I Y T h;obtain⟨a,b,ns,ms,rfl,rfl,W,L,q⟩:=h;cases Y;cases T;obtain⟨its,O,U,_⟩:=I.tuple W;obtain⟨Z,S,p2,_⟩:=I.tuple L;have R:IntsAre its.toArray.toList ns:=Oe O;have P:IntsAre Z.toArray.toList ms:=Oe S;exact HT.lt_tupInts U p2 R P N ⟨.bl (HT.lexLt ns ms),H,I,rfl,q⟩
def HF(K:W.Frag):R2:=fun x y H Q=>∃ a b xs ys,x= .ref a/\y= .ref b/\la K H a xs/\la K H b ys/\xs≠[]/\xs.length+ys.length<=sizeLine/\
 (ys=[]->Q (.ref a) H)/\(ys≠[]->∀ p,H p=none->Q (.ref p) (upd H p (.tup (xs++ys))))
theorem bo.nil_iff(r:bo xs us):us=[]↔xs=[]:=by
 cases r with
 |nil=>simp
 |cons _ _=>simp
theorem CO:i6 X (binaryOp .Add) (HF X.K):=by
 intro pins s σ H x y v u Q I T J h;obtain⟨a,b,xs,ys,rfl,rfl,S,L,N,W,P,O⟩:=h;cases T;cases J;obtain⟨its,Y,R,_⟩:=I.tuple S;obtain⟨U,Z,p2,_⟩:=I.tuple L;refine HT.cat_tup R p2 (fun z=>N (Y.nil_iff.mp z)) (fun z=>⟨.ref a,H,I,rfl,P (Z.nil_iff.mp z)⟩) (fun z=>?_) (by rw[<-Y.length, <-Z.length];exact W)
 refine⟨.ref s.heap.objs.size,_,I.laid (t':=s.toks) (o:=.tup (xs++ys)) (fun b G q=>Kw _ q) (Kz _) ?_,rfl,O (fun w=>z (Z.nil_iff.mpr w)) _ (I.hok.fresh (Kz _))⟩;exact⟨by rw[KD];exact W,_,Y.append Z,IsTup.new _ _⟩
end
end L2
namespace L2
open PySem PySem.Spec PyProof.Rows
def yt(n:Nat)(i:Int):Option Nat:=if 0<=i then (if i<n then some i.toNat else none)else if -(n:Int)<=i then some (i+n).toNat else none
def jL{α:Type}(xs:List α)(i:Int):Option α:=(yt xs.length i).bind fun j=>xs[j]?
theorem wW(h:yt n i=some j):seqIndex? i n=some j/\j<n/\ -(n:Int)<=i/\i<n:=by
 unfold yt at h;by_cases h0:0<=i
 ·rw[if_pos h0]at h;by_cases h1:i<n
  ·rw[if_pos h1]at h;have e:i.toNat=j:=K6 h;exact⟨by rw[seqIndex_of h0 h1,e],by omega,by omega,h1⟩
  ·rw[if_neg h1]at h;cases h
 ·rw[if_neg h0]at h;by_cases h1: -(n:Int)<=i
  ·rw[if_pos h1]at h;have e:(i+n).toNat=j:=K6 h;exact⟨by rw[seqIndex_neg (by omega) h1,e],by omega,h1,by omega⟩
  ·rw[if_neg h1]at h;cases h
theorem rP{Z:Type}{xs:List Z}{i:Int}{v:Z}(h:jL xs i=some v):∃ j,seqIndex? i xs.length=some j/\xs[j]? =some v/\j<xs.length/\ -(xs.length:Int)<=i/\i<xs.length:=by
 unfold jL at h;cases e:yt xs.length i with
 |none=>rw[e]at h;cases h
 |some j=>
  rw[e]at h;obtain⟨X,Y,U,W⟩:=wW e;exact⟨j,X,h,Y,U,W⟩
def rQ(b:Expr):Prop:=∀ o i,subscripted b false o i=operate [o,i] (getItem o i)
def Cq(X:Cx)(r:R2):Prop:=
 ∀(value slice:Expr) (pins:List (Addr×Obj)) (s:Shared) (σ:St) (H:Hp) (x y:V) (v u:Value) (Q:VK),Inv X pins σ H s->RelV x v->RelV y u->r x y H Q->
  subscripted slice false v u=operate [v,u] (getItem v u)->wpAny (model X.prog X.w) X.A (subscriptTail value slice v u) (EP X pins σ Q) X.xe s
def JB(X:Cx)(id:String)(r:V->List V->Hp->VK->Prop):Prop:=
 ∀(pins:List (Addr×Obj)) (s:Shared) (σ:St) (H:Hp) (x:V) (xs:List V) (v:Value) (us:List Value) (Q:VK),Inv X pins σ H s->RelV x v->bo xs us->r x xs H Q->
  wpAny (model X.prog X.w) X.A (call (.builtin id) (v::us)) (EP X pins σ Q) X.xe s
section
variable {X:Cx}{a b:Expr}{ta tb:TE}{pos:Pos}
theorem Cq.or{r Z:R2}(h:Cq X r)(h':Cq X Z):Cq X (fun x y H Q=>r x y H Q\/Z x y H Q):=by
 intro value slice pins s σ H x y v u Q I Y W q hs;rcases q with q|q
 ·exact h value slice pins s σ H x y v u Q I Y W q hs
 ·exact h' value slice pins s σ H x y v u Q I Y W q hs
theorem HG(W:Cq X r)(Z:PE X a ta)(S:PE X b tb)(hs:rQ b):PE X (.Subscript a b pos) (Hv r ta tb):=by
 intro pins s σ H Q I h;exact Subscript_ (Fc Z S I h fun v u s2 x y Y U T R q=>W a b pins s2 σ Y x y v u Q U T R q (hs _ _))
def HH(K:W.Frag):R2:=fun x y H Q=>∃ p xs i v,x= .ref p/\y= .int i/\jB K H p xs/\jL xs i=some v/\Q v H
def HI(K:W.Frag):R2:=fun x y H Q=>∃ p xs i v,x= .ref p/\y= .int i/\la K H p xs/\jL xs i=some v/\Q v H
def HJ:R2:=fun x y H Q=>∃ z i c,x= .str z/\y= .int i/\z.length<=sizeLine/\jL z.cps.toList i=some c/\Q (.str ⟨#[c]⟩) H
theorem CP:Cq X (HH X.K):=by
 intro value slice pins s σ H x y v u Q I O J h hs;obtain⟨p,xs,i,z,rfl,rfl,S,he,q⟩:=h;cases O;obtain⟨t,rfl⟩:=J;obtain⟨its,r,U,F⟩:=I.list S;obtain⟨j,Z,N,G,R,L⟩:=rP he;obtain⟨w,T,Y⟩:=r.get N;have P:=r.length;have E:=n6;have fin:EP X pins σ Q w s:=⟨z,H,I,Y,q⟩;by_cases h0:0<=i
 ·have W:i.toNat=j:=by
   rw[seqIndex_of h0 L]at Z;exact K6 Z
  exact item_listR U.isList h0 (by omega) (by rw[W];simpa using T) fin hs
 ·have W:(i+(its.toArray.size:Int)).toNat=j:=by
   rw[seqIndex_neg (by omega) R]at Z
   rw[KN, <-P];exact K6 Z
  exact subscriptTail_builtinR (x:=w) U.isList.typeIs slot_list_getitem.lookup
   (wpAny_getItem_list_neg (Q:=fun r s'=>r=w/\EP X pins σ Q r s') U.isList (by omega) (by rw[KN]<;>omega) (by omega) (by rw[W];simpa using T) ⟨rfl,fin⟩) hs
theorem Fq:Cq X (HI X.K):=by
 intro value slice pins s σ H x y v u Q I S O h hs;obtain⟨p,xs,i,z,rfl,rfl,W,he,q⟩:=h;cases S;obtain⟨t,rfl⟩:=O;obtain⟨its,r,Y,G⟩:=I.tuple W;obtain⟨j,P,R,L,N,J⟩:=rP he;obtain⟨w,T,Z⟩:=r.get R;have U:=r.length;have F:=n6;have fin:EP X pins σ Q w s:=⟨z,H,I,Z,q⟩;exact subscriptTail_builtinR (x:=w) Y.typeIs slot_tuple_getitem.lookup
  (getItem_tuple (j:=j) (Q:=fun r s'=>r=w/\EP X pins σ Q r s') Y (by omega) (by omega) (by rw[KN, <-U];exact P) (by simpa using T) ⟨rfl,fin⟩) hs
theorem Fs:Cq X HJ:=by
 intro value slice pins s σ H x y v u Q I S R h hs;obtain⟨z,i,c,rfl,rfl,P,he,q⟩:=h;obtain⟨t,rfl⟩:=S;obtain⟨t',rfl⟩:=R;obtain⟨j,Z,Y,N,W,T⟩:=rP he;have U:z.cps.toList.length=z.length:=by simp[Str.length]
 rw[U]at Z W T;have O:=n6;exact tail_any (typeIs_str s z t) slot_str_getitem.lookup (getItem_str (c:=c) (by
  have e1:decide (i< -(2 ^ 63:Int))=false:=Lr (by omega)
  have e2:decide (i ≥ 2 ^ 63)=false:=Lr (by omega)
  rw[e1,e2,Bool.or_false]) (by rw[Z];simpa using Y) ⟨.str ⟨#[c]⟩,H,I.tok _,⟨_,rfl⟩,q⟩) hs
def J4(K:W.Frag):R2:=fun x y H Q=>HH K x y H Q\/HI K x y H Q\/HJ x y H Q
theorem Ft:Cq X (J4 X.K):=CP.or (Fq.or Fs)
theorem vF(its:List Value)(n j:Nat)(u:Value):Obj.mapSeq (·.setIfInBounds j u) {cls:=.type "list",data:=.seq its.toArray n}={cls:=.type "list",data:=.seq (its.set j u).toArray n}:=by
 simp[Obj.mapSeq]
theorem Inv.lst{Z:List (Addr×Obj)}{Y:St}{H:Hp}{s:Shared}{p:Addr}{xs:List V}(I:Inv X Z Y H s)(h:H p=some (.lst xs)):
  ∃(its:List Value) (n:Nat),bo xs its/\s.heap.get? p=some {cls:=.type "list",data:=.seq its.toArray n}/\xs.length<=sizeLine:=by
 obtain⟨z,its,n,r,e⟩:=I.hok p _ h;exact⟨its,n,r,e,z⟩
theorem Inv.lstUpd{H:Hp}{its its':List Value}{f:Obj->Obj}(I:Inv X pins σ H s)(h:H p=some (.lst xs))
  (Y:s.heap.get? p=some {cls:=.type "list",data:=.seq its.toArray n}) (Z:f {cls:=.type "list",data:=.seq its.toArray n}={cls:=.type "list",data:=.seq its'.toArray n'}) (r:bo ys its') (W:ys.length<=sizeLine) (t:Nat):
  Inv X pins σ (upd H p (.lst ys)) {s with heap:=s.heap.update p f,toks:=t}:=by
 have e:(s.heap.update p f).get? p=some {cls:=.type "list",data:=.seq its'.toArray n'}:=by
  rw[Lz f Y (by rw[Z]<;>rfl),Z]
 refine I.write (x:=p) (e:=p) (by rw[h];trivial) (.inl rfl) (fun b u U q=>(Lk _ _ (Ne.symm U)).trans q) ⟨_,e⟩ ?_
 exact⟨W,its',n',r,e⟩
def Ei:V->V->V->Hp->(Hp->Prop)->Prop:=fun o i v H Q=>∃ p xs k j,o= .ref p/\i= .int k/\H p=some (.lst xs)/\yt xs.length k=some j/\Q (upd H p (.lst (xs.set j v)))
theorem set_list:Ho X Ei:=by
 intro pins s σ H o i v C E u Q I L K J h;obtain⟨p,xs,k,j,rfl,rfl,S,N,q⟩:=h;cases L;obtain⟨t,rfl⟩:=K;obtain⟨its,n,r,T,G⟩:=I.lst S;obtain⟨Z,F,P,R⟩:=wW N;have U:=r.length;have B:=n6;have O:Inv X pins σ (upd H p (.lst (xs.set j v))) {s with heap:=s.heap.update p (Obj.mapSeq (·.setIfInBounds j u))}:=
  I.lstUpd S T (vF its n j u) (r.set J j) (by rw[Ni];exact G) s.toks
 by_cases h0:0<=k
 ·have Y:k.toNat=j:=by
   rw[seqIndex_of h0 R]at Z;exact K6 Z
  exact W.ki_setAt T h0 (by omega) (by rw[KN, <-U];exact R) (by rw[Y];exact⟨_,O,q⟩)
 ·have Y:(k+(its.toArray.size:Int)).toNat=j:=by
   rw[seqIndex_neg (by omega) P]at Z
   rw[KN, <-U];exact K6 Z
  exact W.ki_setBack T (by omega) (by rw[KN, <-U];exact P) (by omega) (by rw[Y];exact⟨_,O,q⟩)
theorem rR(Z Y:Option Int)(n:Nat):(sliceBounds Z Y none n).1=((HT.sIx n 0 Z:Nat):Int)/\(sliceBounds Z Y none n).2.1=((HT.sIx n n Y:Nat):Int)/\(sliceBounds Z Y none n).2.2=1:=by
 refine⟨?_,?_,rfl⟩
 ·cases Z with
  |none=>simp[sliceBounds,HT.sIx]
  |some i=>
   simp only[sliceBounds,HT.sIx,Option.getD_none,show(1:Int)>0 by decide,if_true]
   by_cases h:i<0
   ·simp only[h,if_true]<;>omega
   ·simp only[h,if_false]<;>omega
 ·cases Y with
  |none=>simp[sliceBounds,HT.sIx]
  |some i=>
   simp only[sliceBounds,HT.sIx,Option.getD_none,show(1:Int)>0 by decide,if_true]
   by_cases h:i<0
   ·simp only[h,if_true]<;>omega
   ·simp only[h,if_false]<;>omega
theorem qf(its:List Value)(Z Y:Option Int):slicePick its.toArray Z Y none=((its.drop (HT.sIx its.length 0 Z)).take (HT.sIx its.length its.length Y - HT.sIx its.length 0 Z)).toArray:=by
 obtain⟨T,W,U⟩:=rR Z Y its.toArray.size;unfold slicePick;rw[T,W,U];simp only[sliceRange_one,pick_run,List.size_toArray]<;>rfl
def JC(K:W.Frag):V->Option Int->Option Int->Hp->VK->Prop:=fun x lo hi H Q=>∃ a xs,x= .ref a/\jB K H a xs/\∀ p,H p=none->Q (.ref p) (upd H p (.lst (qe xs lo hi)))
theorem CQ:Eh X (JC X.K):=by
 intro pins s σ H x v P R lo Z O Q I W hs U pu h;obtain⟨a,xs,rfl,S,q⟩:=h;cases W;obtain⟨its,r,Y,T⟩:=I.list S;have hlen:=r.length;refine⟨"list",_,slot_list_getitem.lookup,Y.isList.typeIs,?_⟩;refine wpAny_getItem_list_slice Y.isList hs U pu .none (by simp) ?_ (by rw[KN]<;>omega)
 rw[qf, <-hlen];refine⟨.ref s.heap.objs.size,_,I.laid (t':=s.toks) (o:=.lst (qe xs lo Z)) (fun b N q=>Kw _ q) (Kz _) ?_,rfl,q _ (I.hok.fresh (Kz _))⟩;exact⟨KP (mO xs lo Z) T,_,0,(r.drop (HT.sIx xs.length 0 lo)).take (HT.sIx xs.length xs.length Z - HT.sIx xs.length 0 lo),KG _ rfl⟩
theorem rS:dF X (.builtin "len") (fun xs H Q=>∃ p ys,xs=[.ref p]/\(jB X.K H p ys\/la X.K H p ys)/\Q (.int ys.length) H):=by
 intro pins s σ H xs us Q I r h;obtain⟨p,ys,rfl,Z,q⟩:=h;obtain⟨u,rfl,U⟩:=vals1 r;cases U;have S:=n6;rcases Z with Z|Z
 ·obtain⟨its,Y,W,T⟩:=I.list Z;have hlen:=Y.length;exact Calls.call_len_list W.isList (by simp only[List.size_toArray]<;>omega) ⟨.int ys.length,H,I.tok _,⟨s.toks+1,by rw[KN,hlen]⟩,q⟩
 ·obtain⟨its,Y,W,T⟩:=I.tuple Z;have hlen:=Y.length;exact len_tuple W (by simp only[List.size_toArray]<;>omega) ⟨.int ys.length,H,I.tok _,⟨s.toks+1,by rw[KN,hlen]⟩,q⟩
theorem dF.or{r Z:List V->Hp->VK->Prop}(h:dF X f r)(h':dF X f Z):dF X f (fun xs H Q=>r xs H Q\/Z xs H Q):=by
 intro pins s σ H xs us Q I rs q;rcases q with q|q
 ·exact h pins s σ H xs us Q I rs q
 ·exact h' pins s σ H xs us Q I rs q
theorem rT:dF X (.type "list") (fun xs H Q=>∃ p ys,xs=[.ref p]/\(jB X.K H p ys\/la X.K H p ys)/\∀ l,H l=none->Q (.ref l) (upd H l (.lst ys))):=by
 intro pins s σ H xs us Q I r h;obtain⟨p,ys,rfl,W,q⟩:=h;obtain⟨u,rfl,O⟩:=vals1 r;cases O;have fin:∀(its:List Value),bo ys its->ys.length<=sizeLine->∀(h':Heap) (Y:Nat),(∀ b o',s.heap.get? b=some o'->h'.get? b=some o')->
   h'.get? s.heap.objs.size=some {cls:=.type "list",dict:=none,data:=.seq its.toArray Y,slots:= #[]}->EP X pins σ Q (.ref s.heap.objs.size) {s with heap:=h'}:=fun its Z T h' Y U e=>
  ⟨.ref s.heap.objs.size,_,I.laid (t':=s.toks) U (Kz _) (show bj X.prog X.w _ h' _ (.lst ys)from⟨T,its,Y,Z,e⟩),rfl,q _ (I.hok.fresh (Kz _))⟩
 rcases W with W|W
 ·obtain⟨its,Z,P,T⟩:=I.list W;have hlen:=Z.length;obtain⟨o,S,R,n,hd⟩:=P.isList;exact call_list_seq p (.inl rfl) S R hd (fun h' Y U e=>fin its Z T h' Y U e) (by simp only[List.size_toArray]<;>omega)
 ·obtain⟨its,Z,P,T⟩:=I.tuple W;have hlen:=Z.length;obtain⟨o,S,R,n,hd⟩:=P;exact call_list_seq p (.inr rfl) S R hd (fun h' Y U e=>fin its Z T h' Y U e) (by simp only[List.size_toArray]<;>omega)
theorem qg:dF X (.type "tuple") (fun xs H Q=>∃ p ys,xs=[.ref p]/\((jB X.K H p ys/\∀ l,H l=none->Q (.ref l) (upd H l (.tup ys)))\/(la X.K H p ys/\Q (.ref p) H))):=by
 intro pins s σ H xs us Q I r h;obtain⟨p,ys,rfl,h⟩:=h;obtain⟨u,rfl,T⟩:=vals1 r;cases T;rcases h with⟨hq,q⟩|⟨hq,q⟩
 ·obtain⟨its,Z,Y,W⟩:=I.list hq;have hlen:=Z.length;refine call_tuple_list Y.isList (fun h' S=>?_) (by simp only[List.size_toArray]<;>omega)
  have U:Inv X pins σ H {s with heap:=h'}:=I.kept (t':=s.toks) S;have R:Inv X pins σ (upd H h'.objs.size (.tup ys)) {s with heap:=h'.push {cls:=.type "tuple",data:=.seq its.toArray}}:=
   U.laid (t':=s.toks) (fun b o e=>Kw _ e) (Kz _) (show bj X.prog X.w _ _ _ (.tup ys)from⟨W,its,Z,IsTup.new _ _⟩)
  exact⟨.ref h'.objs.size,_,R,rfl,q _ (U.hok.fresh (Kz _))⟩
 ·obtain⟨its,Z,Y,W⟩:=I.tuple hq;exact call_tuple_same Y ⟨.ref p,H,I,rfl,q⟩
def JD(K:W.Frag)(T:String)(x:V)(H:Hp):Prop:=match x with
 | .str _=>T="str"
 | .int _=>T="int"
 | .ref p=>(T="list"/\∃ xs,jB K H p xs)\/(T="tuple"/\∃ o,K.lookup p=some o/\o.cls= .type "tuple"/\o.dict=none)\/
   (T="dict"/\((∃ kvs,H p=some (.dK kvs))\/∃ kvs,H p=some (.dT kvs)))\/(T="set"/\∃ S n,H p=some (.set S n))
 |_=>False
theorem Fu(I:Inv X pins σ H s)(r:RelV x v)(Z:JD X.K T x H):
  s.TypeIs v T/\∀ a,v= .ref a->∃ ob,s.heap.get? a=some ob/\ob.dict=none:=by
 cases x with
 |str z=>
  obtain⟨t,rfl⟩:=r;cases (show T="str" from Z);exact⟨typeIs_str s z t,fun _ e=>nomatch e⟩
 |int i=>
  obtain⟨t,rfl⟩:=r;cases (show T="int" from Z);exact⟨typeIs_int s i t,fun _ e=>nomatch e⟩
 | ref p=>
  cases r;rcases Z with⟨rfl,xs,hq⟩|⟨rfl,o,hk,hc,hd⟩|⟨rfl,hk⟩|⟨rfl,S,n,hk⟩
  ·obtain⟨its,_,Y,_⟩:=I.list hq;refine⟨Y.isList.typeIs,fun a e=>?_⟩;cases e;obtain⟨o,n,e,c,hd,_⟩:=Y;exact⟨o,e,hd⟩
  ·refine⟨⟨o,I.kIn p o hk,hc⟩,fun a e=>?_⟩;cases e;exact⟨o,I.kIn _ o hk,hd⟩
  ·have z:∃ o,s.heap.get? p=some o/\o.ExactDict:=by
    rcases hk with⟨kvs,hk⟩|⟨kvs,hk⟩
    ·obtain⟨_,_,_,_,o,_,_,e,ex,_⟩:=I.hok p _ hk;exact⟨o,e,ex⟩
    ·obtain⟨_,_,_,_,o,_,_,e,ex,_⟩:=I.hok p _ hk;exact⟨o,e,ex⟩
   obtain⟨o,e,ex⟩:=z;refine⟨⟨o,e,ex.1⟩,fun a e2=>?_⟩;cases e2;exact⟨o,e,ex.2.1⟩
  ·obtain⟨o,_,_,_,e,ex,_⟩:=I.hok p _ hk;refine⟨⟨o,e,ex.1⟩,fun a e2=>?_⟩;cases e2;exact⟨o,e,ex.2.1⟩
 |_=>exact False.elim Z
def Kj(K:W.Frag)(T:String)(r:V->List V->Hp->VK->Prop)(to:TE)(t:TA):TE:=fun σ H Q=>to σ H fun x H1=>JD K T x H1/\t σ H1 fun xs H2=>r x xs H2 Q
variable {o e:Expr}{es:List Expr}{to:TE}{t:TA}{name:Str}{apos cpos:Pos}{T id:String}{r:V->List V->Hp->VK->Prop}
theorem HK(F:PlainAttrs T)(U:Slot T name id)(R:typeOf (.builtin id)=pure (.type "method_descriptor"))(O:JB X id r)(N:PE X o to)(J:PA X (e::es) t)
  (Y:attributeBase o name X.env (eval o X.env)=eval o X.env:=by rfl)
  (S:((backTo cpos (starEach (e::es) X.env)).all (fun x=> !x.1) && (backToKw cpos (keywordEach [] X.env)).all (fun x=>x.1.isSome)
   && decide ((e::es).length+([]:List Keyword).length+(if ([]:List Keyword).isEmpty then 0 else 1)<30))=true:=by rfl)
  (W:(apos.endLine==cpos.line)=true:=by rfl) (hs:starEach (e::es) X.env=(false,eval e X.env)::starEach es X.env:=by rfl) (Z:(backTo cpos (starEach es X.env)).any (·.1)=false:=by rfl):
  PE X (.Call (.Attribute o name apos) (e::es) [] cpos) (Kj X.K T r to t):=by
 intro pins s σ H Q I h;refine wpAny_Call_method_late Y S W rfl (dN (N pins s σ H _ I h) fun v s1 ⟨x,H1,I1,r1,ty,q1⟩=>?_);obtain⟨G,L⟩:=Fu I1 r1 ty;refine⟨T,id,F,U,R,G,L,?_⟩;have P:=J cpos pins s1 σ H1 _ I1 q1;rw[hs]at P ⊢;refine Calls.callWith_builtin (by show(false||(backTo cpos (starEach es X.env)).any (·.1))=false;rw[Z]<;>rfl) (NN ?_)
 exact dN P fun us s2 ⟨vs,H2,I2,r2,q2⟩=>O pins s2 σ H2 x vs v us Q I2 r1 r2 q2
end
end L2
namespace L2
open PySem PySem.Spec PyProof.Rows
def J5(X:Cx)(id:String)(r:V->List V->Hp->VK->Prop):Prop:=
 ∀(pins:List (Addr×Obj)) (s:Shared) (σ:St) (H:Hp) (x:V) (xs:List V) (v:Value) (us:List Value) (Q:VK),Inv X pins σ H s->RelV x v->bo xs us->r x xs H Q->
  wpAny (model X.prog X.w) X.A (call (.builtin id) (v::us)) (EP X pins σ Q) X.xe s
theorem bo.one:∀{x:V} {us:List Value},bo [x] us->∃ u,us=[u]/\RelV x u
 |_,_,.cons r .nil=>⟨_,rfl,r⟩
theorem bo.eraseIdx:∀{xs:List V} {us:List Value} (i:Nat),bo xs us->bo (xs.eraseIdx i) (us.eraseIdx i)
 |_,_,_,.nil=>.nil
 |_,_,0,.cons _ t=>t
 |_,_,i+1,.cons r t=>.cons r (bo.eraseIdx i t)
theorem qF{Z:Type}:∀(l:List Z) (i:Nat),(l.eraseIdx i).length<=l.length
 |[],_=>Kz _
 |_::_,0=>M5 _
 |_::r,i+1=>M3 (qF r i)
section
variable {X:Cx}{pins:List (Addr×Obj)}{σ:St}{H:Hp}{s:Shared}{l b:Addr}{xs ys zs:List V}
theorem Inv.lset{its its':List Value}{f:Array Value->Array Value}(I:Inv X pins σ H s)(W:H l=some (.lst xs))
  (e:s.heap.get? l=some {cls:=.type "list",data:=.seq its.toArray n}) (T:f its.toArray=its'.toArray) (Z:bo ys its') (Y:ys.length<=sizeLine):
  Inv X pins σ (upd H l (.lst ys)) {s with heap:=s.heap.update l (Obj.mapSeq f),toks:=t'}:=by
 have q:=PySem.IsL.update e f;rw[T]at q;refine I.write (x:=l) (e:=l) (by rw[W];exact trivial) (.inl rfl) (fun R u U S=>(Lk s.heap (Obj.mapSeq f) (Ne.symm U)).trans S) ⟨_,q⟩ ?_
 exact⟨Y,its',_,Z,q⟩
theorem Inv.lnew(I:Inv X pins σ H s)(Z:bo ys its)(Y:ys.length<=sizeLine):
  Inv X pins σ (upd H s.heap.objs.size (.lst ys)) {s with heap:=s.heap.push {cls:=.type "list",data:=.seq its.toArray},toks:=t'}:=
 I.laid (fun _ _ q=>Kw _ q) (Kz _) ⟨Y,its,0,Z,KG _ rfl⟩
theorem Inv.fresh(I:Inv X pins σ H s):H s.heap.objs.size=none:=I.hok.fresh (Kz _)
theorem Inv.lstM(I:Inv X pins σ H s)(Z:H l=some (.lst xs)):xs.length<=sizeLine/\∃(its:List Value) (n:Nat),bo xs its/\xs.length=its.length/\s.heap.get? l=some {cls:=.type "list",data:=.seq its.toArray n}:=by
 obtain⟨z,its,n,r,e⟩:=I.hok l _ Z;exact⟨z,its,n,r,r.length,e⟩
theorem Al(h:n<=sizeLine):Builtin.List.listTooLong n=false:=by
 unfold Builtin.List.listTooLong;exact Lr (by omega)
end
section
variable {X:Cx}
def wX:V->List V->Hp->VK->Prop:=fun x vs H Q=>∃ l xs y,x= .ref l/\vs=[y]/\H l=some (.lst xs)/\xs.length<sizeLine/\Q .non (upd H l (.lst (xs++[y])))
theorem ma:J5 X "list.append" wX:=by
 intro pins s σ H x vs v us Q I U Y h;obtain⟨l,xs,y,rfl,rfl,Z,S,q⟩:=h;cases U;obtain⟨u,rfl,W⟩:=Y.one;obtain⟨z,its,n,r,T,e⟩:=I.lstM Z;refine call_meets F.slot_list_append ⟨_,e,rfl⟩ F.entry_list_append (F.args_list_append_2 _ _) (PySem.list_append l its.toArray n u (by rw[KN];omega)) ⟨e,?_⟩
 refine⟨.non,_,I.lset (its':=its++[u]) Z e (by simp) (r.append (.cons W .nil)) ?_,rfl,q⟩
 rw[KD,NI];omega
def Am:V->List V->Hp->VK->Prop:=fun x vs H Q=>∃ l xs i k y,x= .ref l/\vs=[.int i]/\H l=some (.lst xs)/\ -(2 ^ 63)<=i/\i<2 ^ 63/\seqIndex? i xs.length=some k/\xs[k]? =some y/\Q y (upd H l (.lst (xs.eraseIdx k)))
theorem An:J5 X "list.pop" Am:=by
 intro pins s σ H x vs v us Q I N S h;obtain⟨l,xs,i,k,y,rfl,rfl,Y,O,W,U,R,q⟩:=h;cases N;obtain⟨u,rfl,P⟩:=S.one;obtain⟨t,rfl⟩:=P;obtain⟨z,its,n,r,T,e⟩:=I.lstM Y;obtain⟨w,hw,Z⟩:=r.get R;refine call_meets F.slot_list_pop ⟨_,e,rfl⟩ F.entry_list_pop (F.args_list_pop_2 _ _)
  (MeetsSeq.list_pop_at l its.toArray n i t k w (fitsIndex_both O W) (by rw[KN, <-T];exact U) (by rw[<-Lc];exact hw) (by rw[KN];omega)) ⟨e,?_⟩
 refine⟨y,_,I.lset (its':=its.eraseIdx k) Y e ?_ (r.eraseIdx k) ?_,Z,q⟩
 ·show its.toArray.eraseIdxIfInBounds k=(its.eraseIdx k).toArray;rw[List.eraseIdxIfInBounds_toArray]
 ·have:=qF xs k;omega
end
section
variable {prog:Program}{w:World}{A:Around}{E:Value->Shared->Prop}{s:Shared}
end
section
variable {X:Cx}
end
end L2
namespace Att
open PySem PySem.W PySem.Calls PyProof.Rows
theorem nq:∀(ns:List Int) (vs:List Value),WellAll P h vs (ns.map WData.int)->IntsAre vs ns:=by
 intro ns
 induction ns with
 |nil=>
  intro vs w;rw[L3]at w;cases w;exact .nil
 | cons n ns ih=>
  intro vs w;rw[K3]at w;cases w with
  |cons a b=>
   cases a;exact .cons _ _ (ih _ b)
theorem yu{l:OpenLaw}(Q:l.most=some n)
  (Z:l.row.toRowW.claim.pre args=true) (W:WellAll P h vals args):
  ∃ a vs ns,vals=[Value.ref a]/\args=[WData.list (ns.map WData.int)]/\h.get? a=some {cls:=.type "list",data:=.seq vs.toArray}/\IntsAre vs ns/\ns.length<=n:=by
 have ik:WShape.hasAll [] args [.list .int]=true:=(pre_splitW Z).1;have U:l.pre.holds [] {args:=args}=true:=(pre_splitW Z).2;obtain⟨d,r,rfl,R,T⟩:=hasAllW_cons ik;obtain rfl:=hasAllW_nil T;obtain⟨xs,rfl,O⟩:=hasW_list R;obtain⟨ns,rfl⟩:=items_int O;have hlen:ns.length<=n:=by
  unfold OpenLaw.pre at U;have Y:(WTm.not (.lt (.lit (.int (n:Int))) (.len (.arg 0)))).holds [] {args:=[.list (ns.map .int)]}=true:=by
   have Y:=(holds_andW U).1;rw[Q]at Y;exact Y
  have X:=condW_of Y (w_not (w_lt w_lit (w_len_list (w_arg rfl))));rw[Kx]at X;refine Oz fun q=>?_;have S:(n:Int)<((ns.length:Nat):Int):=by omega
  first
   |(rw[KU S]at X;exact absurd X (by decide))
   |(simp at X;omega)
 cases W with
 |cons w1 w2=>
  cases w2;cases w1 with
  |list ho hall=>exact⟨_,_,ns,rfl,rfl,ho,nq ns _ hall,hlen⟩
theorem yw(l:OpenLaw)(args:List WData):l.row.toRowW.claim.post args (.bool true) args=true:=
 postW_of (r:=l.row.toRowW) (X:=(true==true))
  (show WShape.has [] (.bool true) .bool=true by first|rfl|decide|simp[WShape.has,WShape.arms,WShape.armsAll])
  (show(WTm.eq .res (.lit (.bool true))).value [] {args:=args,res:=some (.bool true),after:=args}=some (.bool (true==true))from w_eq_bool (w_res rfl) w_lit) rfl
theorem attach_call{l:OpenLaw}{YP:World->Heap->Prop}{d:DefRec}
  (y:l.most=some n) (Q:d.params.defaults=[])
  (X:∀(w:World) (s₀ Z:Shared) (S O:Str->Option Value) (T:Addr) (o:Obj) (pm cd doc:Value) (a:Addr) (vs:List Value) (ns:List Int),
   Ground q loose [] XP w s₀ S O Z.heap->YP w Z.heap->
   Z.heap.get? T=some o->o.data= .func (docDef d.name d.params d.body d.scope pm cd doc)->Z.heap.CodeRec cd d.name->S d.name=some (.ref T)->
   Z.heap.get? a=some {cls:=.type "list",data:=.seq vs.toArray}->IntsAre vs ns->ns.length<=n->Z.gens= #[]->
   codeAny (model l.prog w) callerA (.call (.ref T) ⟨[.ref a],[]⟩) (fun r s'=>r= .ok (.ret (.bool true))/\OldK Z.heap s'.heap/\s'.os=Z.os/\AllBare s'.gens) Z):
  WalkO q loose XP YP l.row.toRowW d [] (fun f vs=>PySem.call f vs):=by
 intro w s₀ Z S O G Y T o pm cd doc H kV C hd P L R z args vals as W K E N A;obtain rfl:H= .none:=Dflts.none L Q;obtain rfl:kV= .none:=Dflts.noKw L;obtain⟨a,vs,ns,rfl,rfl,U,hints,hlen⟩:=yu y W N;refine enter_call (Mw (X w s₀ Z S O T o pm cd doc a vs ns G Y C (fd_plain hd) P R U hints hlen z) fun r s' J=>?_);obtain⟨rfl,B,F,I⟩:=J;exact⟨.inl ⟨.bool true,.bool true,[],rfl,fun _=>rfl,.bool true,yw l _,fun _=>⟨List.Pairwise.nil,fun _ hm=>(nomatch hm)⟩⟩,B,F,I⟩
section
variable {prog:Program}{w:World}{A:Around}{E:Value->Shared->Prop}{s:Shared}{K:Frag}
def ledger(h:Heap)(L d:Addr):List (Addr×Obj):=(List.range h.objs.size).filterMap fun a=>if a=L\/a=d then none else (h.get? a).map fun o=>(a,o)
end
end Att
namespace L2
open PySem PySem.Spec PyProof.Rows
theorem kc:∀{vs:List Value} {ns:List Int},IntsAre vs ns->bo (ns.map V.int) vs
 |_,_,.nil=>.nil
 |_,_,.cons n t h=>.cons ⟨t,rfl⟩ (kc h)
def Fv(H:Hp):Prop:=∀ b,H b=none\/∃ o xs,H b=some (.frz o (.lst xs))
theorem Ao{K:W.Frag}{E:Str->Option Value}{j:zR}{sp:Sp}{Z:Shared}{vs:List Value}
  (g:K.In Z.heap) (N:Z.heap.Ns mainGlobals mg) (X:Z.heap.Ns builtinsNs E) (A:∀ x:Str,x≠"__name__"->E x=bootBuiltins x) (S:Z.heap.NoLimit) (hg:Z.gens= #[])
  (I:Z.heap.get? a=some {cls:=.type "list",data:=.seq vs.toArray}) (p:IntsAre vs ns) (l:ns.length<=sizeLine) (hr:Room k callerA)
  (F:∀ base:Heap,K.In base->base.Ns mainGlobals mg->FnOk P w K mg base j k fa fd [x] sp) (T:∀(s:Shared) (u:Value),BindsTo s fd ⟨[u],[]⟩ [(x,u)])
  (G:∀ H:Hp,Fv H->jB K H a (ns.map V.int)->sp [.ref a] H (fun v _=>v= .bl true) fun _ _ _=>False)
  (y:∀ H e s',j [] H Z (fun _ _ _=>False) e s'->False):
  codeAny (model P w) callerA (.call (.ref fa) ⟨[.ref a],[]⟩) (fun r s'=>r= .ok (.ret (.bool true))/\OldK Z.heap s'.heap/\s'.os=Z.os/\AllBare s'.gens) Z:=by
 have f:=kc p;have Q:=p.length;have core:∀ H:Hp,Fv H->jB K H a (ns.map V.int)->gk P w H Z.heap->(∀ b,H b≠none->b=a)->(H a≠none->K.lookup a=none)->
   codeAny (model P w) callerA (.call (.ref fa) ⟨[.ref a],[]⟩) (fun r s'=>r= .ok (.ret (.bool true))/\OldK Z.heap s'.heap/\s'.os=Z.os/\AllBare s'.gens) Z:=by
  intro H t hS O i hK;have Y:∀{b:Addr} {o:Obj},Z.heap.get? b=some o->H b=none->(kq Z.heap H).get? b=some o:=fun e n=>kZ e n;have C:∀{b:Addr} {o:Obj} {es:Array DictEntry} {ep:Nat},Z.heap.get? b=some o->o.data= .dict es ep->H b=none:=fun{b o es ep} e d=>by
   cases q:H b with
   |none=>rfl
   |some u=>
    have B:b=a:=i b (by rw[q];simp)
    subst B;rw[I]at e;cases e;have d':Data.seq vs.toArray _=Data.dict es ep:=d;cases d'
  have U:∀{b:Addr} {m:Str->Option Value},Z.heap.Ns b m->(kq Z.heap H).Ns b m:=fun{b m} ⟨o,es,ep,e,d,r⟩=>⟨o,es,ep,Y e (C e d),d,r⟩;have R:K.In (kq Z.heap H):=fun b o e=>Y (g b o e) (by
   cases q:H b with
   |none=>rfl
   |some u=>
    have B:b=a:=i b (by rw[q];simp)
    subst B;rw[hK (by rw[q];simp)]at e;cases e)
  have hM:Mod K mg (kq Z.heap H):=⟨R,U N,⟨E,U X,A⟩,let ⟨mc,h1,h2⟩:=S;⟨mc,U h1,h2⟩⟩;have e0:aO P w K mg (kq Z.heap H) callerA [] Z H:=⟨rfl,hM,fun b o e=>rL e,Nb (l8 _ _),trivial,fun b X=>absurd (show b∈([]:List Addr)from X) (by simp),O,.of_eq hg⟩
  refine Mw ((F _ R (U N)).run callerA [] Z H ⟨[.ref a],[]⟩ [.ref a] [.ref a] _ _ hr e0 (T Z (.ref a)) (.cons rfl .nil) (G H t hS)) fun r s' h=>?_;cases r with
  |error e=>exact(y H e s' h).elim
  | ok fl=>
   cases fl with
   |next=>exact False.elim h
   |brk=>exact False.elim h
   |cont=>exact False.elim h
   | ret u=>
    obtain⟨v,H',os,bare,un,L,r',q⟩:=h;have c:v= .bl true:=q;subst c;obtain rfl:u=Value.bool true:=r';refine⟨rfl,OldK.of_keep fun b o e=>?_,os,bare⟩;cases q:H b with
    |none=>exact un.keep b o e q (by intro z;exact absurd (show b∈([]:List Addr)from z) (by simp)) (by simp)
    | some u=>
     rcases t b with z|⟨ob,xs,z⟩
     ·rw[q]at z;cases z
     ·have z2:=un.frzs b ob _ z;obtain⟨e1,_⟩:=O b _ z;obtain⟨e2,_⟩:=L b _ z2;rw[e]at e1;cases e1;exact e2
 cases hk:K.lookup a with
 |some o=>
  have e:=g a o hk;rw[I]at e;cases e;refine core (fun _=>none) (fun _=>.inl rfl) (.inr ⟨_,vs.toArray,_,hk,rfl,rfl,rfl,by rw[KN,Q];exact l,by simpa using f⟩) (fun b u z=>by have J:(none:Option HO)=some u:=z;cases J) (fun b z=>absurd rfl z) fun z=>absurd rfl z
 | none=>
  refine core (fun b=>if b=a then some (.frz {cls:=.type "list",data:=.seq vs.toArray} (.lst (ns.map V.int)))else none) (fun b=>?_) (.inl (.inr ⟨{cls:=.type "list",data:=.seq vs.toArray},if_pos rfl⟩)) (fun b u z=>?_) (fun b z=>?_) fun _=>hk
  ·by_cases X:b=a
   ·exact .inr ⟨_,_,if_pos X⟩
   ·exact .inl (if_neg X)
  ·by_cases X:b=a
   ·have J:=(if_pos X).symm.trans z;cases J;subst X;exact⟨I,by rw[Kx];exact l,vs,_,f,I⟩
   ·have J:=(if_neg X).symm.trans z;cases J
  ·by_cases X:b=a
   ·exact X
   ·exact absurd (if_neg X) z
end L2
namespace L2
open PySem PySem.Spec PyProof.Rows
abbrev Ku{K:W.Frag}{h:Heap}(_:K.In h):W.Frag:=K
theorem IL{l:W.OpenLaw}{YP:World->Heap->Prop}{d:DefRec}{K:Params->W.Frag}{L:World->zR}{sp:World->Sp}
  (y:l.most=some n) (O:n<=sizeLine) (P:d.params.defaults=[]) (E:Room k callerA)
  (A:∀(w:World) (h:Heap),YP w h->(K w.params).In h)
  (F:∀(w:World) (Z:Str->Option Value) (S:Addr) (h:Heap),(K w.params).In h->h.Ns mainGlobals Z->Z d.name=some (.ref S)->
   ∃ fd:FuncData,(∀(s:Shared) (u:Value),BindsTo s fd ⟨[u],[]⟩ [(x,u)])/\
    ∀ base:Heap,(K w.params).In base->base.Ns mainGlobals Z->FnOk l.prog w (K w.params) Z base (L w) k S fd [x] (sp w))
  (R:∀(w:World) (H:Hp) (a:Addr) (ns:List Int),ns.length<=n->Fv H->jB (K w.params) H a (ns.map V.int)->sp w [.ref a] H (fun v _=>v= .bl true) fun _ _ _=>False)
  (N:∀(w:World) (H:Hp) (s:Shared) (e:Value) (s':Shared),L w [] H s (fun _ _ _=>False) e s'->False):
  W.WalkO q loose XP YP l.row.toRowW d [] (fun f vs=>PySem.call f vs):=by
 refine Att.attach_call y P fun w s₀ X Z m S o pm cd doc a vs ns G Y p hd t Q U hints hlen z=>?_;have J:=A w _ Y;obtain⟨fd,r,B⟩:=F w Z S _ J G.T.g Q;exact Ao J G.T.g G.T.b G.T.builtins G.T.nolimit z U hints (KP hlen O) E B r (fun H I C=>R w H a ns hlen I C) fun H e s'=>N w H X e s'
end L2
namespace L2
open PySem PySem.Spec PyProof.Rows
def iq(s:Stmt):Arguments:=match s with
 | .FunctionDef _ a _ _ _ _ _ _ _ _=>a
 |_=>{posonlyargs:=[],args:=[],vararg:=none,kwonlyargs:=[],kw_defaults:=[],kwarg:=none,defaults:=[]}
def dw(s:Stmt):List Stmt:=match s with
 | .FunctionDef _ _ b _ _ _ _ _ _ _=>b
 |_=>[]
def aq(s:Stmt):Scope:=match s with
 | .FunctionDef _ _ _ _ _ _ sc _ _ _=>sc
 |_=>{kind:=.function,names:=[],isGenerator:=false,isCoroutine:=false}
abbrev Kk:zR:=fun _ _ _ _ _ _=>False
abbrev E0:XK:=fun _ _ _=>False
structure Fun(K:W.Frag)(x qual:Str)(st:Stmt)(f:Addr)(fd:FuncData):Prop where
 ex:∃(oc:Value) (od:Option Addr) (kV doc pm:Value) (an:Option Addr) (cdv ct:Value) (osl:Array (Option Value)),
  fd=W.fnOf x qual (iq st) (dw st) (aq st) .none kV doc pm an cdv ct/\K.lookup f=some ⟨oc,od,.func fd,osl⟩/\W.codeIn K cdv qual=true
 kp:W.keepIn K (.ref f)=true
section
variable {P:Program}{w:World}{K:W.Frag}{mg:Str->Option Value}{base:Heap}
theorem Fun.binds{x qual:Str}{Y:Stmt}{f:Addr}{U:FuncData}{X:List Str}(F:Fun K x qual Y f U)
  (h:∀(kV doc pm:Value) (an:Option Addr) (Z ct:Value) (us:List Value),us.length=X.length->bindArgs (W.fnOf x qual (iq Y) (dw Y) (aq Y) .none kV doc pm an Z ct) ⟨us,[]⟩=pure (X.zip us)):Binds K U X []:=by
 obtain⟨Q,od,kV,doc,pm,an,Z,ct,S,rfl,R,T⟩:=F.ex;exact .all (h kV doc pm an Z ct)
theorem Fw{x qual:Str}{X:Stmt}{f:Addr}{R:Value}{od T:Option Addr}{U:Array (Option Value)}{kV Y S Z ct:Value}(l:K.lookup f=some ⟨R,od,.func (W.fnOf x qual (iq X) (dw X) (aq X) .none kV Y S T Z ct),U⟩)
  (c:W.codeIn K Z qual=true) (k:W.keepIn K (.ref f)=true):Fun K x qual X f (W.fnOf x qual (iq X) (dw X) (aq X) .none kV Y S T Z ct):=⟨⟨R,od,kV,Y,S,T,Z,ct,U,rfl,l,c⟩,k⟩
end
section
variable {X:Cx}
theorem pv(i:Nat)(W:X.N[i]? =some x:=by rfl)(U:yf X.env.scope x:=by first|exact Or.inl rfl|exact Or.inr (Or.inl rfl)|exact Or.inr (Or.inr rfl))(Y:(x==("__debug__":Str))=false:=by decide)
  (Z:(x==("__classdict__":Str))=false:=by decide):PE X (.Name x pos) (Hf i):=rM W U Y Z
end
end L2
end
namespace S3
open PySem PySem.W PyProof.Rows
def bq{α:Type}(b:Nat->Nat->Bool):KasT α->α
 | .ret a=>a
 | .ask i j k=>bq b (k (b i j))
theorem gU{Z Y:Type}(b:Nat->Nat->Bool)(f:Z->KasT Y):∀ t:KasT Z,bq b (t.bind f)=bq b (f (bq b t))
 | .ret _=>rfl
 | .ask i j k=>gU b f (k (b i j))
section
variable (r:Nat->Nat)
abbrev d9:Nat->Nat->Bool:=fun i j=>decide (r i<r j)
def ka(p:Array Nat)(k:Nat):Nat:=r (p.getD k 0)
def Ap(p:Array Nat)(n:Nat):Prop:=∀ i j,i<=j->j<n->ka r p i<=ka r p j
def JE(p:Array Nat)(n:Nat):Prop:=∀ i j,i<=j->j<n->ka r p j<=ka r p i
variable {r}
theorem lg{p q:Array Nat}{i j:Nat}(h:p[i]? =q[j]?):p.getD i 0=q.getD j 0:=by
 rw[Lj,Lj,h]
theorem rV{p:Array Nat}{i j:Nat}(Z:j<=p.size)(k:Nat):ka r (kas_rev p i j) k=if i<=k/\k<j then ka r p (i+j - 1 - k)else ka r p k:=by
 have h:=getElem?_mirror_all (i:=i) Z k;unfold ka kas_rev;by_cases c:i<=k/\k<j
 ·rw[if_pos c]at h ⊢;rw[lg h]
 ·rw[if_neg c]at h ⊢;rw[lg h]
theorem qG{p:Array Nat}{Z d:Nat}(hs:Z<p.size)(Y:d<=Z)(k:Nat):ka r (bubble p Z d) k=if k=Z - d then ka r p Z else if Z - d<k/\k<=Z then ka r p (k - 1)else ka r p k:=by
 have h:=getElem?_bubble hs d Y k;unfold ka;by_cases c:k=Z - d
 ·rw[if_pos c]at h ⊢;rw[lg h]
 ·rw[if_neg c]at h ⊢;by_cases c2:Z - d<k/\k<=Z
  ·rw[if_pos c2]at h ⊢;rw[lg h]
  ·rw[if_neg c2]at h ⊢;rw[lg h]
theorem oj:(kas_rev p i j).size=p.size:=mirror_size _ _ _ _
theorem fu:(kas_rev p i j).Perm p:=mirror_perm _ _ _ _
theorem rW:∀(f n:Nat),1<=n->Ap r p n->n<=bq (d9 r) (kas_asc p f n)/\bq (d9 r) (kas_asc p f n)<=n+f/\Ap r p (bq (d9 r) (kas_asc p f n))
 |0,n,h1,h=>⟨Kz _,Kz _,h⟩
 | f +1,n,h1,h=>by
  show n<=bq (d9 r) (if (d9 r) (p.getD n 0) (p.getD (n - 1) 0)=true then KasT.ret n else kas_asc p f (n+1))/\bq (d9 r) (if (d9 r) (p.getD n 0) (p.getD (n - 1) 0)=true then KasT.ret n else kas_asc p f (n+1))<=n+(f+1)/\Ap r p (bq (d9 r) (if (d9 r) (p.getD n 0) (p.getD (n - 1) 0)=true then KasT.ret n else kas_asc p f (n+1)));by_cases c:(d9 r) (p.getD n 0) (p.getD (n - 1) 0)=true
  ·rw[if_pos c];exact⟨Kz _,by show n<=n+(f+1);omega,h⟩
  ·rw[if_neg c];have Y:ka r p (n - 1)<=ka r p n:=by
    exact Oz fun z=>c (KU z)
   obtain⟨a1,a2,a3⟩:=rW f (n+1) (by omega) (fun i j Z X=>by
    by_cases e:j=n
    ·subst e;by_cases e2:i=j
     ·subst e2;exact Kz _
     ·exact KP (h i (j - 1) (by omega) (by omega)) Y
    ·exact h i j Z (by omega))
   exact⟨by omega,by omega,a3⟩
structure Down(r:Nat->Nat)(p:Array Nat)(n q:Nat):Prop where
 dsc:JE r p n
 q1:q+1<=n
 eqs:∀ k,n - (q+1)<=k->k<n->ka r p k=ka r p (n - 1)
theorem om{p:Array Nat}(Z:n<=p.size)(h:Down r p n q):∀ k,ka r (kas_rev p (n - (q+1)) n) k=ka r p k:=fun k=>by
 rw[rV Z];split
 ·next c=>rw[h.eqs k c.1 c.2,h.eqs _ (by omega) (by omega)]
 ·rfl
theorem lh:∀(f:Nat) (p:Array Nat) (n q:Nat),n+f<=p.size->Down r p n q->
  Down r (bq (d9 r) (kas_desc f p n q)).1 (bq (d9 r) (kas_desc f p n q)).2.1 (bq (d9 r) (kas_desc f p n q)).2.2/\(bq (d9 r) (kas_desc f p n q)).1.Perm p/\n<=(bq (d9 r) (kas_desc f p n q)).2.1/\(bq (d9 r) (kas_desc f p n q)).2.1<=n+f
 |0,p,n,q,hs,h=>⟨h,Nj _,Kz _,Kz _⟩
 | f +1,p,n,q,hs,h=>by
  have e:bq (d9 r) (kas_desc (f+1) p n q)=if ka r p n<ka r p (n - 1)then (if q>0 then bq (d9 r) (kas_desc f (kas_rev p (n - (q+1)) n) (n+1) 0)else bq (d9 r) (kas_desc f p (n+1) 0))
    else if ka r p (n - 1)<ka r p n then (p,n,q)else bq (d9 r) (kas_desc f p (n+1) (q+1)):=by
   show bq (d9 r) (if (d9 r) (p.getD n 0) (p.getD (n - 1) 0)=true then _ else _)=_;unfold ka;by_cases c:r (p.getD n 0)<r (p.getD (n - 1) 0)
   ·rw[if_pos (by simpa using c),if_pos c]
    split<;>rfl
   ·rw[if_neg (by simpa using c),if_neg c]
    show bq (d9 r) (if (d9 r) (p.getD (n - 1) 0) (p.getD n 0)=true then _ else _)=_;by_cases c2:r (p.getD (n - 1) 0)<r (p.getD n 0)
    ·rw[if_pos (by simpa using c2),if_pos c2];rfl
    ·rw[if_neg (by simpa using c2),if_neg c2]
  have U:=h.q1;have ext:∀{p':Array Nat} {q':Nat},(∀ k,ka r p' k=ka r p k)->ka r p n<=ka r p (n - 1)->(q'=0\/(q'=q+1/\ka r p n=ka r p (n - 1)))->Down r p' (n+1) q':=fun{p' q'} hk hle hq=>by
   refine⟨fun i j Z T=>?_,by omega,fun k W X=>?_⟩
   ·rw[hk,hk];by_cases ej:j=n
    ·subst ej;by_cases e2:i=j
     ·subst e2;exact Kz _
     ·exact KP hle (h.dsc i (j - 1) (by omega) (by omega))
    ·exact h.dsc i j Z (by omega)
   ·rw[hk,hk,show n+1 - 1=n by omega]
    rcases hq with rfl|⟨rfl,he⟩
    ·have:k=n:=by omega
     subst this;rfl
    ·by_cases ek:k=n
     ·subst ek;rfl
     ·rw[he];exact h.eqs k (by omega) (by omega)
  rw[e];by_cases c:ka r p n<ka r p (n - 1)
  ·rw[if_pos c];by_cases hq:q>0
   ·rw[if_pos hq];obtain⟨a1,a2,a3,Y⟩:=lh f (kas_rev p (n - (q+1)) n) (n+1) 0 (by rw[oj];omega) (ext (om (by omega) h) (by omega) (.inl rfl))
    exact⟨a1,a2.trans fu,by omega,by omega⟩
   ·rw[if_neg hq];obtain⟨a1,a2,a3,Y⟩:=lh f p (n+1) 0 (by omega) (ext (fun _=>rfl) (by omega) (.inl rfl))
    exact⟨a1,a2,by omega,by omega⟩
  ·rw[if_neg c];by_cases c2:ka r p (n - 1)<ka r p n
   ·rw[if_pos c2];exact⟨h,Nj _,Kz _,by show n<=n+(f+1);omega⟩
   ·rw[if_neg c2];obtain⟨a1,a2,a3,Y⟩:=lh f p (n+1) (q+1) (by omega) (ext (fun _=>rfl) (by omega) (.inr ⟨rfl,by omega⟩))
    exact⟨a1,a2,by omega,by omega⟩
structure Got(r:Nat->Nat)(nrem:Nat)(p:Array Nat)(g:Nat×Array Nat):Prop where
 asc:Ap r g.2 g.1
 le:g.1<=nrem
 pos:1<=g.1
 perm:g.2.Perm p
theorem qH{p:Array Nat}(Y:1<=n)(W:n<=nrem)(hs:nrem<=p.size)(h:JE r p n):Got r nrem p (bq (d9 r) (kas_tail3 n nrem p)):=by
 unfold kas_tail3;rw[gU];have Z:Ap r (kas_rev p 0 n) n:=fun i j X U=>by
  rw[rV (by omega),rV (by omega),if_pos ⟨by omega,by omega⟩,if_pos ⟨by omega,by omega⟩]
  exact h _ _ (by omega) (by omega)
 obtain⟨a1,a2,a3⟩:=rW (p:=kas_rev p 0 n) (nrem - n) n Y Z;exact⟨a3,by show bq (d9 r) (kas_asc (kas_rev p 0 n) (nrem - n) n)<=nrem;omega,by show 1<=bq (d9 r) (kas_asc (kas_rev p 0 n) (nrem - n) n);omega,fu⟩
theorem lj{p:Array Nat}(R:n<nrem)(hs:nrem<=p.size)(h:Down r p (n+1) 0):Got r nrem p (bq (d9 r) (kas_descPart n nrem p)):=by
 unfold kas_descPart;rw[gU];obtain⟨a1,a2,a3,T⟩:=lh (nrem - (n+1)) p (n+1) 0 (by omega) h
 generalize bq (d9 r) (kas_desc (nrem - (n+1)) p (n+1) 0)=d at a1 a2 a3 T;obtain⟨W,Z,X⟩:=d;dsimp only at a1 a2 a3 T;have Y:W.size=p.size:=a2.size_eq;by_cases hq:X>0
 ·show Got r nrem p (bq (d9 r) (if X>0 then _ else _));rw[if_pos hq];have hd:JE r (kas_rev W (Z - (X+1)) Z) Z:=fun i j U S=>by
   rw[om (show Z<=W.size by omega) a1,om (show Z<=W.size by omega) a1]
   exact a1.dsc i j U S
  have:=qH (n:=Z) (nrem:=nrem) (by omega) (by omega) (by rw[oj,Y];exact hs) hd
  exact⟨this.asc,this.le,this.pos,(this.perm.trans fu).trans a2⟩
 ·show Got r nrem p (bq (d9 r) (if X>0 then _ else _));rw[if_neg hq];have:=qH (n:=Z) (nrem:=nrem) (by omega) (by omega) (by rw[Y];exact hs) a1.dsc
  exact⟨this.asc,this.le,this.pos,this.perm.trans a2⟩
theorem yx{p:Array Nat}(P:2<=nrem)(hs:nrem<=p.size):Got r nrem p (bq (d9 r) (kas_count nrem p)):=by
 unfold kas_count;rw[gU];obtain⟨a1,a2,a3⟩:=rW (r:=r) (p:=p) (nrem - 1) 1 (Kz _) (fun i j Y U=>by
  have:i=j:=by omega
  subst this;exact Kz _)
 have stop:∀(f n:Nat),1<=n->bq (d9 r) (kas_asc p f n)<n+f->ka r p (bq (d9 r) (kas_asc p f n))<ka r p (bq (d9 r) (kas_asc p f n) - 1):=by
  intro f
  induction f with
  |zero=>intro n _ h;exact absurd h (Mh _)
  | succ f ih=>
   intro n X h;have e:bq (d9 r) (kas_asc p (f+1) n)=if ka r p n<ka r p (n - 1)then n else bq (d9 r) (kas_asc p f (n+1)):=by
    show bq (d9 r) (if (d9 r) (p.getD n 0) (p.getD (n - 1) 0)=true then _ else _)=_;unfold ka;by_cases c:r (p.getD n 0)<r (p.getD (n - 1) 0)
    ·rw[if_pos (KU c),if_pos c];rfl
    ·rw[if_neg (fun z=>c (Lx z)),if_neg c]
   rw[e]at h ⊢;by_cases c:ka r p n<ka r p (n - 1)
   ·rw[if_pos c];exact c
   ·rw[if_neg c]at h ⊢;exact ih (n+1) (by omega) (by omega)
 have Z:=stop (nrem - 1) 1 (Kz _);generalize bq (d9 r) (kas_asc p (nrem - 1) 1)=n at a1 a2 a3 Z;by_cases hn:n=nrem
 ·show Got r nrem p (bq (d9 r) (if (n==nrem)=true then _ else _));rw[if_pos (by simp[hn])]
  exact⟨a3,by show n<=nrem;omega,a1,Nj _⟩
 ·show Got r nrem p (bq (d9 r) (if (n==nrem)=true then _ else _));rw[if_neg (by simp[hn])]
  have Q:=Z (by omega)
  by_cases X:n>1
  ·rw [if_pos X];show Got r nrem p (bq (d9 r) (if (d9 r) (p.getD 0 0) (p.getD (n - 1) 0)=true then _ else _));by_cases c:r (p.getD 0 0)<r (p.getD (n - 1) 0)
   ·rw[if_pos (KU c)];exact⟨a3,by show n<=nrem;omega,a1,Nj _⟩
   ·rw [if_neg (fun z=>c (Lx z))];have all:∀ k,k<n->ka r p k=ka r p (n - 1):=fun k R=>by
     have S:=a3 0 k (by omega) R
     have W:=a3 k (n - 1) (by omega) (by omega)
     have O:ka r p (n - 1)<=ka r p 0:=Oz c;omega
    have T:∀ k,ka r (kas_rev p 0 n) k=ka r p k:=fun k=>by
     rw[rV (by omega)]
     split
     ·next h=>rw[all k h.2,all _ (by omega)]
     ·rfl
    have:=lj (r:=r) (n:=n) (nrem:=nrem) (p:=kas_rev p 0 n) (by omega) (by rw[oj];exact hs) ⟨fun i j Y U=>by
      rw[T,T];by_cases ej:j=n
      ·subst ej;by_cases ei:i=j
       ·subst ei;exact Kz _
       ·rw[all i (by omega)];omega
      ·rw[all i (by omega),all j (by omega)];exact Kz _,by omega,fun k S W=>by rw[show k=n+1 - 1 by omega]⟩
    exact⟨this.asc,this.le,this.pos,this.perm.trans fu⟩
  ·rw [if_neg X];have e1:n=1:=by omega
   subst e1;exact lj (by omega) hs ⟨fun i j Y U=>by
     by_cases ej:j=1
     ·subst ej;by_cases ei:i=1
      ·subst ei;exact Kz _
      ·rw[show i=1 - 1 by omega];omega
     ·rw[show i=j by omega];exact Kz _,by omega,fun k S W=>by rw[show k=1+1 - 1 by omega]⟩
theorem mj(Z:Ap r p k):∀(f l m:Nat),m - l<=f->l<=m->m<=k->(∀ i,i<l->ka r p i<=ka r p k)->(∀ i,m<=i->i<k->ka r p k<=ka r p i)->
  bq (d9 r) (kas_place p k f l m)<=k/\(∀ i,i<bq (d9 r) (kas_place p k f l m)->ka r p i<=ka r p k)/\∀ i,bq (d9 r) (kas_place p k f l m)<=i->i<k->ka r p k<=ka r p i
 |0,l,m,hf,hl,hm,h1,h2=>by
  have:l=m:=by omega
  subst this;exact⟨by show l<=k;omega,h1,h2⟩
 | f+1,l,m,hf,hl,hm,h1,h2=>by
  by_cases c:l ≥ m
  ·have e:bq (d9 r) (kas_place p k (f+1) l m)=l:=by
    show bq (d9 r) (if l ≥ m then _ else _)=l;rw[if_pos c];rfl
   rw[e];have:l=m:=by omega
   subst this;exact⟨by omega,h1,h2⟩
  ·have e:bq (d9 r) (kas_place p k (f+1) l m)=if ka r p k<ka r p ((l+m) / 2)then bq (d9 r) (kas_place p k f l ((l+m) / 2))else bq (d9 r) (kas_place p k f ((l+m) / 2+1) m):=by
    show bq (d9 r) (if l ≥ m then _ else _)=_;rw[if_neg c];show bq (d9 r) (if (d9 r) (p.getD k 0) (p.getD ((l+m) / 2) 0)=true then _ else _)=_;unfold ka;by_cases d:r (p.getD k 0)<r (p.getD ((l+m) / 2) 0)
    ·rw[if_pos (KU d),if_pos d]
    ·rw[if_neg (fun z=>d (Lx z)),if_neg d]
   rw[e];by_cases d:ka r p k<ka r p ((l+m) / 2)
   ·rw[if_pos d];exact mj Z f l ((l+m) / 2) (by omega) (by omega) (by omega) h1 fun i Y X=>KP (Mm d) (Z _ i Y X)
   ·rw[if_neg d];exact mj Z f ((l+m) / 2+1) m (by omega) (by omega) hm (fun i Y=>KP (Z i ((l+m) / 2) (by omega) (by omega)) (by omega)) h2
theorem wY:∀(f:Nat) (p:Array Nat) (k:Nat),k+f<=p.size->Ap r p k->Ap r (bq (d9 r) (kas_bin f p k)) (k+f)/\(bq (d9 r) (kas_bin f p k)).Perm p
 |0,p,k,hs,h=>⟨h,Nj _⟩
 | f +1,p,k,hs,h=>by
  have e:bq (d9 r) (kas_bin (f+1) p k)=bq (d9 r) (kas_bin f (bubble p k (k - bq (d9 r) (kas_place p k k 0 k))) (k+1)):=by
   show bq (d9 r) ((kas_place p k k 0 k).bind _)=_;rw[gU]
  rw[e];obtain⟨R,X,U⟩:=mj (r:=r) h k 0 k (by omega) (by omega) (Kz _) (fun i W=>absurd W (OD _)) (fun i W S=>absurd S (by omega))
  generalize bq (d9 r) (kas_place p k k 0 k)=l at R X U;have P:Ap r (bubble p k (k - l)) (k+1):=fun i j Z O=>by
   rw[qG (by omega) (by omega),qG (by omega) (by omega)]
   have Y:k - (k - l)=l:=by omega
   rw[Y];by_cases ei:i=l
   ·rw[if_pos ei];by_cases ej:j=l
    ·rw[if_pos ej];exact Kz _
    ·rw[if_neg ej,if_pos ⟨by omega,by omega⟩];exact U (j - 1) (by omega) (by omega)
   ·rw[if_neg ei];by_cases ci:l<i/\i<=k
    ·rw[if_pos ci,if_neg (by omega),if_pos ⟨by omega,by omega⟩];exact h _ _ (by omega) (by omega)
    ·rw[if_neg ci];by_cases ej:j=l
     ·rw[if_pos ej];exact X i (by omega)
     ·rw[if_neg ej];by_cases cj:l<j/\j<=k
      ·rw[if_pos cj];exact h _ _ (by omega) (by omega)
      ·rw[if_neg cj];exact h _ _ Z (by omega)
  obtain⟨T,Q⟩:=wY f (bubble p k (k - l)) (k+1) (by rw[bubble_size];omega) P
  refine⟨?_,Q.trans (bubble_perm _ _ _)⟩;rw[show k+(f+1)=k+1+f by omega];exact T
theorem Aq(X:2<=n):Ap r (bq (d9 r) (kas_sort n)) n/\(bq (d9 r) (kas_sort n)).Perm (List.toArray (List.range n)):=by
 unfold kas_sort;rw[gU];have G:=yx (r:=r) (nrem:=n) (p:=List.toArray (List.range n)) X (by simp)
 generalize bq (d9 r) (kas_count n (List.toArray (List.range n)))=g at G;obtain⟨m,p⟩:=g;have U:p.size=n:=by rw[G.perm.size_eq];simp
 have hle:m<=n:=G.le;have Y:1<=m:=G.pos;show Ap r (bq (d9 r) (if m<n then kas_bin (n - max m 1) p (max m 1)else KasT.ret p)) n/\Array.Perm (bq (d9 r) (if m<n then kas_bin (n - max m 1) p (max m 1)else KasT.ret p)) (List.toArray (List.range n));by_cases c:m<n
 ·rw[if_pos c];have em:max m 1=m:=by omega
  rw[em];obtain⟨Z,W⟩:=wY (r:=r) (n - m) p m (by omega) G.asc
  refine⟨?_,W.trans G.perm⟩;rw[show m+(n - m)=n by omega]at Z;exact Z
 ·rw[if_neg c];have em:m=n:=by omega
  subst em;exact⟨G.asc,G.perm⟩
end
def vv(n:Nat){α:Type}(R:α->Prop):KasT α->Prop
 | .ret a=>R a
 | .ask i j k=>i<n/\j<n/\∀ b,vv n R (k b)
theorem iR{n:Nat}{Z X:Type}{R:Z->Prop}{Y:X->Prop}{f:Z->KasT X}:∀{t:KasT Z},vv n R t->(∀ a,R a->vv n Y (f a))->vv n Y (t.bind f)
 | .ret a,h,k=>k a h
 | .ask i j g,h,k=>⟨h.1,h.2.1,fun b=>iR (h.2.2 b) k⟩
theorem Ar{n:Nat}{Y:Type}{R:Y->Prop}{Z:Nat->Nat->(Bool->Shared->Prop)->Shared->Prop}{b:Nat->Nat->Bool}{s:Shared}{Q:Y->Shared->Prop}(h:∀ i j C,i<n->j<n->C (b i j) s->Z i j C s):
  ∀{t:KasT Y},vv n R t->Q (bq b t) s->t.kasWp Z Q s
 | .ret a,_,q=>q
 | .ask i j k,o,q=>h i j _ o.1 o.2.1 (Ar h (o.2.2 (b i j)) q)
theorem oo{n:Nat}{Y:Type}{R:Y->Prop}{b Z:Nat->Nat->Bool}(h:∀ i j,i<n->j<n->b i j=Z i j):∀{t:KasT Y},vv n R t->bq b t=bq Z t
 | .ret a,_=>rfl
 | .ask i j k,o=>by
  show bq b (k (b i j))=bq Z (k (Z i j));rw[h i j o.1 o.2.1];exact oo h (o.2.2 _)
def In(n:Nat)(p:Array Nat):Prop:=0<n/\∀ x∈p.toList,x<n
theorem In.get(h:In n p)(k:Nat):p.getD k 0<n:=by
 rw[Lj];cases e:p[k]? with
 |none=>exact h.1
 |some x=>exact h.2 x (by rw[<-Lc]at e;exact Le e)
theorem In.perm{q:Array Nat}(h:In n p)(e:q.Perm p):In n q:=⟨h.1,fun x Z=>h.2 x ((Array.Perm.toList e).mem_iff.mp Z)⟩
theorem rX(h:In n p):∀(f m:Nat),vv n (fun _=>True) (kas_asc p f m)
 |0,m=>trivial
 | f+1,m=>⟨h.get _,h.get _,fun b=>by
   cases b with
   |true=>exact trivial
   |false=>exact rX h f (m+1)⟩
theorem ll:∀(f:Nat) (p:Array Nat) (m q:Nat),In n p->vv n (fun r=>In n r.1) (kas_desc f p m q)
 |0,p,m,q,h=>h
 | f+1,p,m,q,h=>⟨h.get _,h.get _,fun b=>by
   cases b with
   |true=>
    show vv n _ (if q>0 then _ else _);split
    ·exact ll f _ _ _ (h.perm fu)
    ·exact ll f _ _ _ h
   |false=>
    refine⟨h.get _,h.get _,fun b=>?_⟩;cases b with
    |true=>exact h
    |false=>exact ll f _ _ _ h⟩
theorem qI(h:In n p):vv n (fun r:Nat×Array Nat=>In n r.2) (kas_tail3 m nrem p):=
 iR (rX (h.perm fu) _ _) fun _ _=>h.perm fu
theorem lp(h:In n p):vv n (fun r:Nat×Array Nat=>In n r.2) (kas_descPart m nrem p):=
 iR (ll _ _ _ _ h) fun a Z=>by
  split
  ·exact qI (Z.perm fu)
  ·exact qI Z
theorem yy(h:In n p):vv n (fun r:Nat×Array Nat=>In n r.2) (kas_count nrem p):=
 iR (rX h _ _) fun a _=>by
  split
  ·exact h
  ·split
   ·refine⟨h.get _,h.get _,fun b=>?_⟩;cases b with
    |true=>exact h
    |false=>exact lp (h.perm fu)
   ·exact lp h
theorem mn(h:In n p):∀(f l m:Nat),vv n (fun _=>True) (kas_place p k f l m)
 |0,l,m=>trivial
 | f+1,l,m=>by
  show vv n _ (if l ≥ m then _ else _);split
  ·exact trivial
  ·refine⟨h.get _,h.get _,fun b=>?_⟩;cases b with
   |true=>exact mn h f _ _
   |false=>exact mn h f _ _
theorem wZ:∀(f:Nat) (p:Array Nat) (k:Nat),In n p->vv n (In n) (kas_bin f p k)
 |0,p,k,h=>h
 |f+1,p,k,h=>iR (mn h _ _ _) fun l _=>wZ f _ _ (h.perm (bubble_perm _ _ _))
theorem t4(Y:0<n):vv n (In n) (kas_sort n):=
 iR (yy ⟨Y,fun x X=>by simpa using X⟩) fun a Z=>by
  split
  ·exact wZ _ _ _ Z
  ·exact Z
theorem t5{Y:Type}{p q:Y->Bool}:∀{l:List Y} {x:Y},(∀ y∈l,p y=true->q y=true)->x∈l->p x=false->q x=true->l.countP p<l.countP q
 | y::l,x,h,hx,hp,hq=>by
  have U:l.countP p<=l.countP q:=List.countP_mono_left fun z Z=>h z (KJ _ Z);rw[List.countP_cons,List.countP_cons];rcases K2.mp hx with e|hx'
  ·subst e;rw[hp,hq];simp;omega
  ·have W:=t5 (fun z Z=>h z (KJ _ Z)) hx' hp hq;have X:=h y KR;cases e1:p y with
   |true=>rw[X e1];simp;omega
   |false=>simp;split<;>omega
theorem CS{b:Nat->Nat->Bool}(Q:2<=n)(S:∀ i,i<n->b i i=false)(N:∀ i j k,i<n->j<n->k<n->b i j=true->b j k=true->b i k=true)(U:∀ i j k,i<n->j<n->k<n->b i k=true->b i j=true\/b j k=true):
  (bq b (kas_sort n)).Perm (List.toArray (List.range n))/\∀ i j,i<=j->j<n->b ((bq b (kas_sort n)).getD j 0) ((bq b (kas_sort n)).getD i 0)=false:=by
 let r:Nat->Nat:=fun i=>(List.range n).countP fun j=>b j i;have R:∀ i j,i<n->j<n->b i j=decide (r i<r j):=fun i j Y X=>by
  cases e:b i j with
  |true=>
   refine(KU ?_).symm;exact t5 (x:=i) (fun y T h=>N y i j (KS.mp T) Y X h e) (KS.mpr Y) (S i Y) e
  |false=>
   refine(Lr (OM.mpr ?_)).symm;refine List.countP_mono_left fun y T h=>?_;rcases U y i j (KS.mp T) Y X h with z|z
   ·exact z
   ·rw[e]at z;cases z
 have P:bq b (kas_sort n)=bq (d9 r) (kas_sort n):=oo R (t4 (by omega))
 obtain⟨a1,a2⟩:=Aq (r:=r) Q;rw[P];refine⟨a2,fun i j W X=>?_⟩;have Z:In n (bq (d9 r) (kas_sort n)):=In.perm ⟨by omega,fun x O=>by simpa using O⟩ a2
 rw[R _ _ (Z.get j) (Z.get i)];exact Lr (OM.mpr (a1 i j W X))
end S3
namespace S3
open PySem PySem.Spec PySem.W PyProof.Rows L2
section
variable {prog:Program}{w:World}{A:Around}{E:Value->Shared->Prop}{s:Shared}{Q:Bool->Shared->Prop}
theorem t6:∀{us ws:List Value} {ns ms:List Int} (i:Nat),(b=true\/0<i\/True)->IntsAre us ns->IntsAre ws ms->Q (HT.lexLt ns ms) s->
  KatLex prog w A b (decide (us.length<ws.length)) Q (us.zip ws) i s\/us.length≠ws.length
 |[],[],ns,ms,i,_,h1,h2,q=>by
  cases h1;cases h2;exact .inl q
 |[],_::_,_,_,_,_,_,_,_=>.inr (by simp)
 |_::_,[],_,_,_,_,_,_,_=>.inr (by simp)
 | u ::us,v::ws,ns,ms,i,hb,h1,h2,q=>by
  cases h1 with
  |cons n t h1=>
  cases h2 with
  | cons k t' h2=>
   rw[HT.lexLt_cons]at q;by_cases e:n=k
   ·rw[if_pos e]at q;rcases t6 (b:=b) (i+1) (.inr (.inr trivial)) h1 h2 q with z|z
    ·refine .inl (kat_cons (Ov ?_));have:(n==k)=true:=by simp[e]
     rw[this];refine kat_yes ?_;show KatLex prog w A b (decide (us.length+1<ws.length+1)) Q (us.zip ws) (i+1) s;rw[show decide (us.length+1<ws.length+1)=decide (us.length<ws.length) by simp]
     exact z
    ·exact .inr (by simpa using z)
   ·rw[if_neg e]at q;refine .inl (kat_cons (Ov ?_));have:(n==k)=false:=by simp[e]
    rw[this];refine kat_no ?_;cases hbi:(b && i==0)with
    |true=>exact oneLt_int q
    |false=>exact kat_one _ _ (lt_int q)
end
structure Tups(h:Heap)(vs:List Value)(nss:List (List Int))(c:Nat):Prop where
 len:vs.length=nss.length
 get:∀(i:Nat),i<vs.length->∃ a o us n,vs.getD i Value.none= .ref a/\h.get? a=some o/\o.cls= .type "tuple"/\o.data= .seq us n/\IntsAre us.toList (nss.getD i [])/\us.size=c+1
theorem Tups.keep{h':Heap}(t:Tups h vs nss c)(k:∀ i a o,i<vs.length->vs.getD i Value.none= .ref a->h.get? a=some o->h'.get? a=some o):Tups h' vs nss c:=
 ⟨t.len,fun i Z=>let ⟨a,o,us,n,e1,e2,r⟩:=t.get i Z;⟨a,o,us,n,e1,k i a o Z e1 e2,r⟩⟩
theorem Tups.ask{s:Shared}(t:Tups s.heap vs nss c){C:Bool->Shared->Prop}(X:i<vs.length)(U:j<vs.length)
  (q:C (HT.lexLt (nss.getD i []) (nss.getD j [])) s):kas_ask prog w A (tuples' b) vs i j C s:=by
 obtain⟨a,o,us,n,e1,e2,e3,Q,Y,T⟩:=t.get i X;obtain⟨P,L,Z,N,f1,f2,O,f4,W,S⟩:=t.get j U;unfold kas_ask;rw[e1,f1];refine kat_lt e2 Q f2 f4 ?_;have R:us.toList.length=Z.toList.length:=by simp[T,S]
 rcases t6 (prog:=prog) (w:=w) (A:=A) (b:=b) 0 (.inr (.inr trivial)) Y W q with z|z
 ·simpa using z
 ·exact absurd R z
end S3
namespace S3
open PySem PySem.Spec PyProof.Rows L2
abbrev St:=L2.St
def jM(cells:List (Str×Addr)):List (Str×NameKind)->List (Str×Addr)->List (Str×Addr)
 |[],cs=>cs
 |(n,k)::r,cs=>jM cells r (if k== .free then (n,(cells.lookup n).getD 0)::cs else cs)
theorem i7(scope:Scope)(env:Env)(h:∀ y∈scope.names,y.2= .free->∃ c,env.cells.lookup y.1=some c):closureFor scope env=pure (jM env.cells scope.names []):=by
 have go:∀(names:List (Str×NameKind)) (cs:List (Str×Addr)),(∀ y∈names,y.2= .free->∃ c,env.cells.lookup y.1=some c)->
   (forIn names cs (fun(x:Str×NameKind) (r:List (Str×Addr))=>(if (x.2==NameKind.free)=true then do let a<-cellOf env x.1;pure (ForInStep.yield ((x.1,a)::r))else pure (ForInStep.yield r):Sem (ForInStep (List (Str×Addr))))):Sem (List (Str×Addr)))=pure (jM env.cells names cs):=by
  intro names
  induction names with
  |nil=>intro cs _;rfl
  | cons y r ih=>
   intro cs X;obtain⟨n,k⟩:=y;have U:∀ y∈r,y.2= .free->∃ c,env.cells.lookup y.1=some c:=fun y hm=>X y (KJ _ hm);rw[List.forIn_cons];by_cases hk:(k==NameKind.free)=true
   ·have Y:k= .free:=by simpa using hk
    obtain⟨c,W⟩:=X (n,k) KR Y;have e:cellOf env n=pure c:=by unfold cellOf;rw[W]
    simp only[hk,if_true,e,pure_bind];rw[ih _ U];simp only[jM,hk,if_true,W,Option.getD_some]
   ·have Z:(k==NameKind.free)=false:=by simpa using hk
    simp only[Z,Bool.false_eq_true,if_false,pure_bind];rw[ih _ U];simp only[jM,Z,Bool.false_eq_true,if_false]
 have:=go scope.names [] h;unfold closureFor;simp only[bind_pure]at*;exact this
theorem rY{cells:List (Str×Addr)}:∀(names:List (Str×NameKind)) (cs:List (Str×Addr)),(∀ y∈names,y.2= .free->∃ c,cells.lookup y.1=some c)->(∀ p∈cs,cells.lookup p.1=some p.2)->
  ∀ p∈jM cells names cs,cells.lookup p.1=some p.2
 |[],cs,_,h=>h
 | (n,k)::r,cs,hy,h=>by
  refine rY r _ (fun y hm=>hy y (KJ _ hm)) fun p Z=>?_;by_cases hk:(k==NameKind.free)=true
  ·rw[if_pos hk]at Z;rcases K2.mp Z with rfl|Z
   ·obtain⟨c,X⟩:=hy (n,k) KR (by simpa using hk)
    show cells.lookup n=some ((cells.lookup n).getD 0);have Y:cells.lookup n=some c:=X;rw[Y];rfl
   ·exact h p Z
  ·rw[if_neg hk]at Z;exact h p Z
theorem jN:∀(names:List (Str×NameKind)) (cs:List (Str×Addr)),(x,NameKind.free)∈names\/x∈cs.map (·.1)->x∈(jM cells names cs).map (·.1)
 |[],cs,h=>by
  rcases h with h|h
  ·cases h
  ·exact h
 | (n,k)::r,cs,h=>by
  refine jN r _ ?_;rcases h with h|h
  ·rcases K2.mp h with e|h
   ·cases e;refine .inr ?_;simp
   ·exact .inl h
  ·refine .inr ?_;by_cases hk:(k==NameKind.free)=true
   ·rw[if_pos hk];exact KJ _ h
   ·rw[if_neg hk];exact h
theorem lookup_mem:∀{l:List (Str×Addr)},l.lookup x=some c->(x,c)∈l
 |[],h=>by cases h
 | (n,a)::r,h=>by
  by_cases e:x==n
  ·have Z:x=n:=by simpa using e
   rw[Lh,e]at h;have h':some a=some c:=h;cases h';subst Z;exact KR
  ·have e2:(x==n)=false:=by simpa using e
   rw[Lh,e2]at h;exact KJ _ (lookup_mem h)
theorem mem_lookup:∀{l:List (Str×Addr)},x∈l.map (·.1)->∃ c,l.lookup x=some c
 |[],h=>by cases h
 | (n,a)::r,h=>by
  by_cases e:x==n
  ·exact⟨a,by rw[Lh,e]⟩
  ·have e2:(x==n)=false:=by simpa using e
   rw[Lh,e2];refine mem_lookup ?_;rcases K2.mp h with z|z
   ·have Z:x=n:=z;subst Z;simp at e
   ·exact z
theorem bx:∀{l:List (Str×NameKind)},l.lookup x=some k->(x,k)∈l
 |[],h=>by cases h
 | (n,a)::r,h=>by
  by_cases e:x==n
  ·have Z:x=n:=by simpa using e
   rw[Lh,e]at h;have h':some a=some k:=h;cases h';subst Z;exact KR
  ·have e2:(x==n)=false:=by simpa using e
   rw[Lh,e2]at h;exact KJ _ (bx h)
theorem i8{env:Env}:∀{names:List (Str×NameKind)} {k:NameKind},
  (names.map fun(n,k)=>if (k==NameKind.free && env.scope.kind== .function && env.kindOf n==some .cell)then (n,NameKind.cell)else (n,k)).lookup x=some k->
   names.lookup x=some k\/(k= .cell/\names.lookup x=some .free)
 |[],k,h=>by cases h
 | (n,a)::r,k,h=>by
  by_cases e:x==n
  ·rw[K3]at h;by_cases c:(a==NameKind.free && env.scope.kind== .function && env.kindOf n==some .cell)=true
   ·have Y:a= .free:=by
     simp only[Bool.and_eq_true,beq_iff_eq]at c;exact c.1.1
    simp only[c,if_true,List.lookup_cons,e]at h;cases h;refine .inr ⟨rfl,?_⟩;rw[Lh,e,Y]
   ·have Z:(a==NameKind.free && env.scope.kind== .function && env.kindOf n==some .cell)=false:=by simpa using c
    simp only[Z,Bool.false_eq_true,if_false,List.lookup_cons,e]at h;refine .inl ?_;rw[Lh,e];exact h
  ·have e2:(x==n)=false:=by simpa using e
   rw[Lh,e2];refine i8 (env:=env) (names:=r) ?_;rw[K3]at h;by_cases c:(a==NameKind.free && env.scope.kind== .function && env.kindOf n==some .cell)=true
   ·simp only[c,if_true,List.lookup_cons,e2]at h;exact h
   ·have Z:(a==NameKind.free && env.scope.kind== .function && env.kindOf n==some .cell)=false:=by simpa using c
    simp only[Z,Bool.false_eq_true,if_false,List.lookup_cons,e2]at h;exact h
theorem lq{env:Env}:∀{names:List (Str×NameKind)},names.lookup x=some .free->
  (names.map fun(n,k)=>if (k==NameKind.free && env.scope.kind== .function && env.kindOf n==some .cell)then (n,NameKind.cell)else (n,k)).lookup x=some .cell\/
  (names.map fun(n,k)=>if (k==NameKind.free && env.scope.kind== .function && env.kindOf n==some .cell)then (n,NameKind.cell)else (n,k)).lookup x=some .free
 |[],h=>by cases h
 | (n,a)::r,h=>by
  rw[K3];by_cases e:x==n
  ·rw[Lh,e]at h;have X:some a=some NameKind.free:=h;cases X;by_cases c:(NameKind.free==NameKind.free && env.scope.kind== .function && env.kindOf n==some .cell)=true
   ·refine .inl ?_;simp only[c,if_true,List.lookup_cons,e]
   ·have Z:(NameKind.free==NameKind.free && env.scope.kind== .function && env.kindOf n==some .cell)=false:=by simpa using c
    refine .inr ?_;simp only[Z,Bool.false_eq_true,if_false,List.lookup_cons,e]
  ·have e2:(x==n)=false:=by simpa using e
   rw[Lh,e2]at h;have Y:=lq (env:=env) h;by_cases c:(a==NameKind.free && env.scope.kind== .function && env.kindOf n==some .cell)=true
   ·simp only[c,if_true,List.lookup_cons,e2];exact Y
   ·have Z:(a==NameKind.free && env.scope.kind== .function && env.kindOf n==some .cell)=false:=by simpa using c
    simp only[Z,Bool.false_eq_true,if_false,List.lookup_cons,e2];exact Y
theorem vG:∀{names:List (Str×NameKind)} {n:Nat} {acc:List (Str×Addr)} {p:Str×Addr},p∈cellsFrom n names acc->p∈acc\/n<=p.2
 |[],n,acc,p,h=>.inl h
 | (x,k)::r,n,acc,p,h=>by
  unfold cellsFrom at h;split at h
  ·rcases vG h with h|h
   ·rcases K2.mp h with rfl|h
    ·exact .inr (Kz _)
    ·exact .inl h
   ·exact .inr (NA h)
  ·exact vG h
theorem vH:∀{names:List (Str×NameKind)} {n:Nat} {acc:List (Str×Addr)},(∀ p∈acc,p.2<n)->(∀ x y c,(x,c)∈acc->(y,c)∈acc->x=y)->∀ x y c,(x,c)∈cellsFrom n names acc->(y,c)∈cellsFrom n names acc->x=y
 |[],n,acc,_,hi,x,y,c,h1,h2=>hi x y c h1 h2
 | (z,k)::r,n,acc,hl,hi,x,y,c,h1,h2=>by
  unfold cellsFrom at h1 h2;by_cases hk:(k==NameKind.cell)=true
  ·rw[if_pos hk]at h1 h2;refine vH (fun p Z=>?_) (fun x y c g1 g2=>?_) x y c h1 h2
   ·rcases K2.mp Z with rfl|Z
    ·exact MF _
    ·exact LQ (hl p Z)
   ·rcases K2.mp g1 with g1|g1<;>rcases K2.mp g2 with g2|g2
    ·rw[<-g2]at g1;exact(Prod.mk.inj g1).1
    ·cases g1;exact absurd (hl _ g2) (Mh _)
    ·cases g2;exact absurd (hl _ g1) (Mh _)
    ·exact hi x y c g1 g2
  ·rw[if_neg hk]at h1 h2;exact vH hl hi x y c h1 h2
theorem rZ:∀{names:List (Str×NameKind)} {n:Nat} {acc:List (Str×Addr)},(∀ y∈names,y.2= .cell->y.1≠x)->(cellsFrom n names acc).lookup x=acc.lookup x
 |[],_,_,_=>rfl
 | (z,k)::r,n,acc,h=>by
  unfold cellsFrom;split
  ·next hk=>
   rw[rZ fun y Z=>h y (KJ _ Z),Lh];have:(x==z)=false:=by
    have:=h (z,k) KR (by simpa using hk)
    simpa using Ne.symm this
   rw[this]
  ·exact rZ fun y Z=>h y (KJ _ Z)
theorem r0:∀{names:List (Str×NameKind)} {h:Heap} {acc:List (Str×Addr)} {p:Str×Addr},p∈cellsFrom h.objs.size names acc->p∈acc\/(pushCells h names).IsCell p.2 none
 |[],h,acc,p,q=>.inl q
 | (x,k)::r,h,acc,p,q=>by
  unfold cellsFrom at q;unfold pushCells;split at q
  ·next hk=>
   rw[if_pos hk];have Z:p∈cellsFrom (h.push {cls:=.type "cell",data:=.cell none}).objs.size r ((x,h.objs.size)::acc):=by rw[LN];exact q
   rcases r0 Z with Z|Z
   ·rcases K2.mp Z with rfl|Z
    ·exact .inr ⟨_,OE _ _ _ _ (KG _ rfl),rfl⟩
    ·exact .inl Z
   ·exact .inr Z
  ·next hk=>
   rw[if_neg hk];exact r0 q
theorem vI:∀(names:List (Str×NameKind)) (n:Nat) (acc:List (Str×Addr)),((x,NameKind.cell)∈names\/∃ c,acc.lookup x=some c/\m<=c)->m<=n->(cellsFrom n names acc).lookup x=some a->m<=a
 | [],n,acc,h,hm,e=>by
  rcases h with h|⟨c,h2,h3⟩
  ·cases h
  ·have Y:acc.lookup x=some a:=e;rw[h2]at Y;cases Y;exact h3
 | (z,k)::r,n,acc,h,hm,e=>by
  unfold cellsFrom at e;by_cases hk:(k==NameKind.cell)=true
  ·rw[if_pos hk]at e;refine vI r (n+1) _ ?_ (Nat.le_succ_of_le hm) e;by_cases hz:(x==z)=true
   ·exact .inr ⟨n,by rw[Lh,hz],hm⟩
   ·have Z:(x==z)=false:=by simpa using hz
    rcases h with h|⟨c,h2,h3⟩
    ·rcases K2.mp h with h|h
     ·cases h;simp at hz
     ·exact .inl h
    ·exact .inr ⟨c,by rw[Lh,Z];exact h2,h3⟩
  ·rw[if_neg hk]at e;refine vI r n acc ?_ hm e;rcases h with h|h
   ·rcases K2.mp h with h|h
    ·cases h;simp at hk
    ·exact .inl h
   ·exact .inr h
theorem qJ{s:Shared}{scope:Scope}{env:Env}
  (h:∀ h1,h1.Ns s.heap.objs.size (fun _=>none)->(∀ b o,s.heap.get? b=some o->h1.get? b=some o)->(∀ p∈cellsFrom (s.heap.objs.size+1) scope.names cl,p∈cl\/h1.IsCell p.2 none)->
   Q {scope,locals:=s.heap.objs.size,globals:=env.globals,cells:=cellsFrom (s.heap.objs.size+1) scope.names cl,qual:=env.qual,func:=none,code:=env.code,frame:=env.frame,builtins:=env.builtins} {s with heap:=h1}):
  wpAny M A (newFunctionEnv scope env.globals cl [] env.qual none .none (some env)) Q E s:=by
 simp only[newFunctionEnv,Option.isSome_some,if_true];refine Kv (wpAny_alloc (Kv (wpAny_layCells _ (fun name kind cells=>by cases hkc:kind==NameKind.cell<;>simp[hkc]) _ _ _ _ ?_)))
 have e:({s with heap:=s.heap.push {cls:=.type "dict",data:=.dict #[]}}:Shared).heap.objs.size=s.heap.objs.size+1:=LN ..;rw[e];refine Kv (m:=forIn [] _ _) (Ky (Ky (h _ ((Heap.Ns.new s.heap (.type "dict")).keeps (OE _ _)) (fun b o q=>OE _ _ b o (Kw _ q)) fun p Z=>?_)));exact r0 (h:=s.heap.push {cls:=.type "dict",data:=.dict #[]}) (by rw[e];exact Z)
def aZ(X:Cx)(scope:Scope)(Nc:List Str)(C:Addr)(ex:List Addr)(s:Shared)(H:Hp):Cx:=
 {X with N:=Nc,s₀:=s,H₀:=H,env:=compEnvC scope (cellsFrom (C+1) scope.names (jM X.env.cells scope.names [])) C X.env,outer:=X.stack,stack:=X.stack,ex:=ex,fn:=fun x=>scope.names.lookup x==some .cell,pn:=[],xe:=fun _ _=>False}
structure CompScope(X:Cx)(scope:Scope)(Nc:List Str)(js:List (Option Nat)):Prop where
 kind:scope.kind= .function
 cel:∀ y∈scope.names,y.2= .cell->scope.names.lookup y.1=some .cell
 loc:∀ y∈scope.names,y.2= .local->scope.names.lookup y.1=some .local
 free:∀ y∈scope.names,y.2= .free->X.env.kindOf y.1=some .cell\/X.env.kindOf y.1=some .free
 len:js.length=Nc.length
 ix:∀(i:Nat) (x:Str) (j:Nat),Nc[i]? =some x->js[i]? =some (some j)->X.N[j]? =some x/\scope.names.lookup x=some .free
def nu(js:List (Option Nat))(σ:St):St:=js.map fun o=>o.bind fun j=>(σ[j]?).join
def Cr(X:Cx)(ifs:List Expr)(t:TT):Prop:=
 ∀(pins:List (Addr×Obj)) (s:Shared) (σ:St) (H:Hp) (Q:Bool->Hp->Prop),Inv X pins σ H s->t σ H Q->
  wpAny (model X.prog X.w) X.A (forIn ifs true fun c r=>if r=true then do let ok<-isTrue c X.env (eval c X.env);pure (ForInStep.yield ok)else pure (ForInStep.yield r)) (TP X pins σ Q) X.xe s
theorem CT:Cr X [] (fun _ H Q=>Q true H):=fun pins s σ H Q I h=>wpAny_tests_nil ⟨H,I,h⟩
theorem CU(h:PT X c t):Cr X [c] t:=fun pins s σ H Q I hw=>wpAny_tests_one (h pins s σ H Q I hw)
def w5(wi:TI)(js:List (Option Nat))(g:TG)(tt:TT)(te:TE):TE:=fun σ H Q=>wi σ H fun J H1=>∀ p,H1 p=none->
 ∃ W:Nat->Nat->St->Hp->Prop,(∃ m,W 0 m (nu js σ) (upd H1 p (.lst [])))/\∀ i m σc Hc,W i m σc Hc->
  (J.stop i Hc/\Q (.ref p) Hc)\/(J.go i Hc/\∃ N:St->Hp->Prop,(∀ σ' H',N σ' H'->∃ m',m'<m/\W (i+1) m' σ' H')/\∀ x H',J.yld i Hc x H'->g x σc H' fun σ2 H2=>tt σ2 H2 fun b H3=>
   if b=true then te σ2 H3 fun y H4=>∃ xs,H4 p=some (.lst xs)/\xs.length<sizeLine/\N σ2 (upd H4 p (.lst (xs++[y])))else N σ2 H3)
section
variable {X:Cx}{scope:Scope}{Nc:List Str}{js:List (Option Nat)}{pins:List (Addr×Obj)}{σ:St}{H:Hp}{s:Shared}
theorem CompScope.has(c:CompScope X scope Nc js)(Z:X.Ok):∀ y∈scope.names,y.2= .free->∃ a,X.env.cells.lookup y.1=some a:=fun y Y e=>Z.has y.1 (c.free y Y e)
theorem oq{G:Heap}(c:CompScope X scope Nc js)(I:Inv X pins σ H s)(T:∀ b∈ex,jI X pins H b)(N:∀ b∈ex,b<s.heap.objs.size)
  (R:C=s.heap.objs.size) (hn:G.Ns C (fun _=>none)) (hs:∀ b o,s.heap.get? b=some o->G.get? b=some o)
  (w:∀ p∈cellsFrom (C+1) scope.names (jM X.env.cells scope.names []),p∈jM X.env.cells scope.names []\/G.IsCell p.2 none):
  Inv (aZ X scope Nc C ex s H) [] (nu js σ) H {s with heap:=G,toks:=tk}:=by
 have Y:=rY (cells:=X.env.cells) scope.names [] (c.has I.ok) (fun _ z=>nomatch z);have Q:∀ x a,(jM X.env.cells scope.names []).lookup x=some a->X.env.cells.lookup x=some a:=fun x a e=>Y _ (lookup_mem e);have A:∀ b o,s.heap.get? b=some o->b≠C:=fun b o e=>by rw[R];exact KL (KF e)
 have P:∀ p∈jM X.env.cells scope.names [],p.2<C+1:=fun p B=>by
  obtain⟨v,F,K,_⟩:=I.cell p.1 p.2 (Y p B);rw[R];exact LQ (KF K)
 have Z:∀ x a,(cellsFrom (C+1) scope.names (jM X.env.cells scope.names [])).lookup x=some a->X.env.cells.lookup x=some a\/(C<a/\G.IsCell a none):=fun x a e=>by
  have hm:=lookup_mem e;rcases w _ hm with z|z
  ·exact .inl (Y _ z)
  ·rcases vG hm with y|y
   ·exact .inl (Y _ y)
   ·exact .inr ⟨y,z⟩
 refine⟨⟨I.ok.mod,c.kind,I.ok.glob,I.ok.blt,Nb R.symm,fun x y a e1 e2=>vH P (fun x y a e1 e2=>I.ok.inj x y a (Y _ e1) (Y _ e2)) x y a (lookup_mem e1) (lookup_mem e2),fun x O=>?_,fun x a z e=>?_,I.ok.hd,I.ok.frames,.inl rfl,fun b W=>⟨?_,fun x a e z=>?_⟩,
  I.bs,KP I.ok.bsz I.sz,fun b o e W=>?_,fun b W z=>?_,I.stack,I.stkFree⟩,rfl,I.bare,Un.kept hs,⟨_,hn,fun i x v e1 e2 e3=>?_⟩,fun x a e=>?_,?_,fun x a e=>?_,(fun p B=>nomatch B),I.hok.kept hs,?_⟩
 ·-- names that are cells here have one
  have t:scope.names.lookup x=some .free\/scope.names.lookup x=some .cell:=by
   rcases O with O|O
   ·rcases i8 (env:=X.env) (names:=scope.names) O with z|⟨_,z⟩
    ·exact .inr z
    ·exact .inl z
   ·rcases i8 (env:=X.env) (names:=scope.names) O with z|⟨z,_⟩
    ·exact .inl z
    ·cases z
  refine LW.mp (Nq scope.names (C+1) _ ?_);rcases t with z|z
  ·exact .inr (LW.mpr (mem_lookup (jN scope.names [] (.inl (bx z)))))
  ·exact .inl z
 ·-- the block's own cells are new
  have z':scope.names.lookup x=some .cell:=by
   have:(scope.names.lookup x==some .cell)=true:=z;simpa using this
  show s.heap.objs.size<=a;rw[<-R];exact NA (vI (m:=C+1) scope.names (C+1) _ (.inl (bx z')) (Kz _) e)
 ·show b≠C;rw[R];exact KL (N b W)
 ·rcases Z x a e with y|⟨y,_⟩
  ·exact(T b W).2.2.2.2.1 x a y z
  ·rw[z,R]at y;exact Mh _ (N5 y (N b W))
 ·have:b<X.base.objs.size:=KF e;rcases (T b W).2.2.2.1 with z|z
  ·exact I.ok.noex b o e z
  ·exact absurd (KQ this (KP I.ok.bsz z)) (Mh _)
 ·rcases K2.mp (I.stkSub b z)with e|e
  ·exact(T b W).2.1 e
  ·exact(T b W).2.2.1 e
 ·-- the names that are read from around
  have E:Nc[i]? =some x:=e1;have:∃ j,js[i]? =some (some j)/\σ[j]? =some (some v):=by
   unfold nu at e2;rw[K1]at e2;cases q:js[i]? with
   |none=>rw[q]at e2;cases e2
   | some o=>
    rw[q]at e2;cases o with
    |none=>cases e2
    |some j=>
     refine⟨j,rfl,?_⟩;have S:(σ[j]?).join=some v:=K6 e2;cases r:σ[j]? with
     |none=>rw[r]at S;cases S
     |some z=>rw[r]at S;exact NF some S
  obtain⟨j,n,d⟩:=this;obtain⟨g,U⟩:=c.ix i x j E n;obtain⟨m,h,l⟩:=I.loc;have L:=c.free (x,.free) (bx U) rfl;have J:yf X.env.scope x:=by
   rcases L with z|z
   ·exact .inr (.inl z)
   ·exact .inr (.inr z)
  obtain⟨u,ru,f⟩:=l j x v g d J;refine⟨u,ru,.inr ⟨?_,?_⟩⟩
  ·rcases lq (env:=X.env) U with z|z
   ·exact .inl z
   ·exact .inr z
  ·rcases f with⟨z,_⟩|⟨_,a,ea,ha⟩
   ·rcases L with y|y
    ·rw[show X.env.kindOf x=some NameKind.cell from y]at z;cases z
    ·rw[show X.env.kindOf x=some NameKind.free from y]at z;cases z
   ·obtain⟨b,W⟩:=mem_lookup (jN (cells:=X.env.cells) scope.names [] (.inl (bx U)));have:=Q x b W;rw[ea]at this;cases this;obtain⟨F,K,hd⟩:=ha;refine⟨a,?_,F,hs _ _ K,hd⟩;show(cellsFrom (C+1) scope.names (jM X.env.cells scope.names [])).lookup x=some a;rw[rZ fun y k e z=>by have:=c.cel y k e;rw[z,U]at this;cases this]
    exact W
 ·rcases Z x a e with y|⟨_,y⟩
  ·obtain⟨v,F,K,hd⟩:=I.cell x a y;exact⟨v,F,hs _ _ K,hd⟩
  ·exact⟨_,y⟩
 ·show H C=none;rw[R];exact I.hok.fresh (Kz _)
 ·rcases Z x a e with y|⟨y,_⟩
  ·exact I.freeC x a y
  ·exact I.hok.fresh (by rw[<-R];exact Mm y)
 ·show(nu js σ).length=Nc.length;unfold nu;rw[Kx];exact c.len
theorem t7(I:Inv X pins σ H s)(P:C=s.heap.objs.size)(Z:∀ b∈ex,jI X pins H b)
  (U:Inv (aZ X scope Nc C ex s H) [] σc H' s') (hs:Heap.SameBut C s'.heap h2):Inv X pins σ H' {s' with heap:=h2}:=by
 have W:∀ b o,s.heap.get? b=some o->b≠C:=fun b o e=>by rw[P];exact KL (KF e)
 have B:=U.base;have u:Un (jG X.stack) ex H H' s.heap h2:={
  keep:=fun b o e n Y T=>(hs.2 b (W b o e)).trans (B.keep b o e n Y T)
  slot:=fun b o e n Y T=>by
   obtain⟨R,q⟩:=B.slot b o e n Y T;exact⟨R,(hs.2 b (W b o e)).trans q⟩
  free:=B.free
  there:=fun b o e T=>by
   obtain⟨Q,q⟩:=B.there b o e T;exact⟨Q,(hs.2 b (W b o e)).trans q⟩
  tups:=B.tups
  frzs:=B.frzs
  tbls:=B.tbls}
 refine I.call' (s':={s' with heap:=h2}) (ch:=ex) U.os u (fun b o e=>?_) U.bare fun b Y=>⟨(Z b Y).2.2.2.1,(Z b Y).2.1,(Z b Y).2.2.2.2.1,(Z b Y).2.2.2.2.2⟩;have S:∀ b o,H' b=some o->b≠C:=fun b o e z=>by
  have hf:H' C=none:=U.free;rw[z,hf]at e;cases e
 refine(U.hok b o e).stay (fun d v hd q=>?_) (fun _ q=>q) fun _ _ q=>q;refine(hs.2 d ?_).trans q;rcases hd with z|z
 ·subst z;exact S _ _ e
 ·exact S _ _ z
theorem t8{Q:VK}(G:Option (Value->Sem Unit))(Qr:Value->Shared->Prop)(c:CompScope X scope Nc js)(hc:X.calm=true)(hi:PI X tg iter wi)
  (b3:∀ C ex s H,PG (aZ X scope Nc C ex s H) tg g/\Cr (aZ X scope Nc C ex s H) ifs tt/\PE (aZ X scope Nc C ex s H) elt te)
  (I:Inv X pins σ H s) (h:w5 wi js g tt te σ H Q)
  (t:∀ p C s' S,Q (.ref p) S->(∀ B,Heap.SameBut C s'.heap B->Inv X pins σ S {s' with heap:=B})->(∃ m,s'.heap.Ns C m)->jI X pins S C->
   compPost (model X.prog X.w) X.A X.xe G Qr (.ref p) C (.ok .next) s')
  (hs:∀ x,foldedSetIterable iter X.env x=pure x:=by intro _;rfl):
  wpAny (model X.prog X.w) X.A (comprehension (.ListComp elt [⟨tg,iter,ifs,0⟩] scope pos) scope X.env pos' (newList []) false (eval iter X.env) G) Qr X.xe s:=by
 refine wpAny_comprehension_free rfl hs (i7 scope X.env (c.has I.ok)) c.kind c.loc (dN (hi pins s σ H _ I h) fun v s1 F=>dN F fun c4 s2 B=>?_);obtain⟨it,Y,a,J,U,e,I2,T,l,f2,hW⟩:=B;subst e;refine Ln (qJ fun F O K R=>?_);dsimp only at O K R ⊢;obtain⟨W,⟨m0,w0⟩,turn⟩:=hW s2.heap.objs.size (I2.hok.fresh (Kz _));have f:Inv X pins σ (upd U s2.heap.objs.size (.lst [])) {s2 with heap:=s2.heap.push {cls:=.type "list",dict:=none,data:=.seq ([]:List Value).toArray}}:=
  I2.laid (t':=s2.toks) (fun _ _ q=>Kw _ q) (Kz _) ⟨K5 _,[],0,.nil,KG _ rfl⟩
 generalize hS3:({s2 with heap:=s2.heap.push {cls:=.type "list",dict:=none,data:=.seq ([]:List Value).toArray}}:Shared)=s3 at f;have e3:s3.heap=s2.heap.push {cls:=.type "list",dict:=none,data:=.seq ([]:List Value).toArray}:=by rw[<-hS3]
 rw[<-e3]at O K R ⊢;generalize hp:s2.heap.objs.size=p at*;have k:∀ b∈Y,b<p:=fun b Z=>by
  obtain⟨o,e,_⟩:=T.obj _ _ l b Z;rw[<-hp];exact KF e
 have b0:∀ b∈Y,b≠p:=fun b Z=>KL (k b Z);have f3:∀ b∈Y,jI X pins (upd U p (.lst [])) b:=fun b Z=>⟨by rw[aE (b0 b Z)];exact(f2 b Z).1,(f2 b Z).2⟩
 have E:s3.heap.objs.size=p+1:=by rw[e3,LN,hp]
 have j:∀ b∈Y,b<s3.heap.objs.size:=fun b Z=>by rw[E];exact LQ (k b Z)
 have L:∀ b o,s3.heap.get? b=some o->F.get? b=some o:=K;have b4:a 0 F:=T.keep _ _ _ l fun b Z o e=>L b o (by rw[e3];exact Kw _ e)
 generalize hC:s3.heap.objs.size=C at*;have a0:F.Ns C (fun _=>none):=by simpa using O
 have start:∀ tk,Inv (aZ X scope Nc C Y s3 (upd U p (.lst []))) [] (nu js σ) (upd U p (.lst [])) {s3 with heap:=F,toks:=tk}:=fun tk=>oq c f f3 (fun b Z=>by rw[hC];exact j b Z) hC.symm a0 L R
 have ok:=(start 0).ok;have P:∀{S:Hp},(∀ b∈Y,S b=none)->∀ b∈Y,jI (aZ X scope Nc C Y s3 (upd U p (.lst []))) [] S b:=fun hn b Z=>
  ⟨hn b Z,(ok.exf b Z).1,ok.exfs b Z,.inl Z,(ok.exf b Z).2,fun _ z=>nomatch z⟩
 obtain⟨hG,hT,hE⟩:=b3 C Y s3 (upd U p (.lst []));have loop:∀ s':Shared,Inv (aZ X scope Nc C Y s3 (upd U p (.lst []))) [] (nu js σ) (upd U p (.lst [])) s'->a 0 s'.heap->
   codeAny (model X.prog X.w) X.A (.compLoop (.ListComp elt [⟨tg,iter,ifs,0⟩] scope pos) 0 (.ref it) (.ref p) (aZ X scope Nc C Y s3 (upd U p (.lst []))).env) (compPost (model X.prog X.w) X.A X.xe G Qr (.ref p) C) s':=by
  intro s' I' a3;refine codeAny_loop rfl (fun n s'=>∃ i σ' S,Inv (aZ X scope Nc C Y s3 (upd U p (.lst []))) [] σ' S s'/\a i s'.heap/\(∀ b∈Y,S b=none)/\W i n σ' S) ?_ m0 ⟨0,_,_,I',a3,fun b Z=>(f3 b Z).1,w0⟩;rintro n s4 ⟨i,σ4,H4,I4,st4,fr4,w4⟩;show wpAny _ X.A ((compTurn (.ListComp elt [⟨tg,iter,ifs,0⟩] scope pos) 0 (.ref it) (.ref p) (aZ X scope Nc C Y s3 (upd U p (.lst []))).env).onRaise (fun x=>do noteFrame x (aZ X scope Nc C Y s3 (upd U p (.lst []))).env;theTreesLotGoes x)) _ _ s4
  refine wpAny_noted ?_;rw[compTurn_list];refine Kv (LA (Kv ?_));rcases turn i n σ4 H4 w4 with⟨stop,qn⟩|⟨go,N,hN,step⟩
  ·refine La (T.done (aZ X scope Nc C Y s3 (upd U p (.lst []))) rfl rfl rfl hc i [] s4 σ4 H4 (fun _ _=>False) I4 (P fr4) st4 stop) (fun r s5 ⟨hr,I5⟩=>?_) fun _ _ z=>z.elim;subst hr;refine Ky (t p C s5 H4 qn (fun B a5=>t7 f hC.symm f3 I5 a5) ?_ (f.fpOk (Nb hC) I5.free));obtain⟨m,hm,_⟩:=I5.loc;exact⟨m,hm⟩
  ·refine La (T.item (aZ X scope Nc C Y s3 (upd U p (.lst []))) rfl rfl rfl hc i [] s4 σ4 H4 (fun _ _=>False) I4 (P fr4) st4 go) (fun r s5 ⟨u,hr,h5⟩=>?_) fun _ _ z=>z.elim;subst hr;refine Kv (La h5 (fun _ s6 ⟨x,H6,I6,r6,y6,st6,fr6⟩=>?_) fun _ _ z=>z.elim);have a4:=I6.pinned (P fr6) (T.obj _ _ st6);refine Kv (La (hG _ s6 σ4 H6 x u _ a4 r6 (step x H6 y6)) (fun _ s7 ⟨σ7,H7,I7,q7⟩=>?_) fun _ _ z=>z.elim);refine Kv (La (hT _ s7 σ7 H7 _ I7 q7) (fun b s8 ⟨H8,I8,q8⟩=>?_) fun _ _ z=>z.elim);have again:∀{σ9:St} {H9:Hp} {s9:Shared},Inv (aZ X scope Nc C Y s3 (upd U p (.lst []))) ([]++l9 Y s6.heap) σ9 H9 s9->N σ9 H9->
     ∃ m,m<n/\∃ i σ' S,Inv (aZ X scope Nc C Y s3 (upd U p (.lst []))) [] σ' S s9/\a i s9.heap/\(∀ b∈Y,S b=none)/\W i m σ' S:=fun{σ9 H9 s9} I9 n9=>by
    obtain⟨m',hm,w9⟩:=hN σ9 H9 n9;refine⟨m',hm,i+1,σ9,H9,I9.unpinned,T.keep _ _ _ st6 fun b Z o e=>(I9.pin (b,o) (KZ _ (KZ _ (fU Z e)))).1,fun b Z=>?_,w9⟩;obtain⟨o,e,d⟩:=T.obj _ _ st6 b Z;exact(I9.pin (b,o) (KZ _ (KZ _ (fU Z e)))).2.1
   cases b with
   |false=>exact Ky ⟨rfl,again I8 q8⟩
   |true=>
    refine Kv (Kv (La (hE _ s8 σ7 H8 _ I8 q8) (fun y s9 ⟨yv,H9,I9,r9,q9⟩=>?_) fun _ _ z=>z.elim));obtain⟨xs,hx,hl,n9⟩:=q9;refine Kv (La (ma (X:=aZ X scope Nc C Y s3 (upd U p (.lst []))) _ s9 σ7 H9 (.ref p) [yv] (.ref p) [y] (fun _ S=>N σ7 S) I9 rfl (.cons r9 .nil) ⟨p,xs,yv,rfl,rfl,hx,hl,n9⟩) (fun _ s10 ⟨_,H10,I10,_,q10⟩=>?_) fun _ _ z=>z.elim);exact Ky (Ky ⟨rfl,again I10 q10⟩)
 refine codeAny_compStart_list (loop _ ?_ ?_) (T.self _ 0 _ _ _ ?_ (loop _ ?_ ?_))
 all_goals first
  |exact b4
  |(subst hS3;exact start _)
theorem CV(c:CompScope X scope Nc js)(W:X.calm=true)(U:PI X tg iter wi)
  (Y:∀ C ex s H,PG (aZ X scope Nc C ex s H) tg g/\Cr (aZ X scope Nc C ex s H) ifs tt/\PE (aZ X scope Nc C ex s H) elt te)
  (hs:∀ x,foldedSetIterable iter X.env x=pure x:=by intro _;rfl):PE X (.ListComp elt [⟨tg,iter,ifs,0⟩] scope pos) (w5 wi js g tt te):=by
 intro pins s σ H Q I h;rw[eval_ListComp];refine t8 none _ c W U Y I h (fun p C s' R q S P _=>?_) hs;obtain⟨m,hm⟩:=P;exact⟨m,hm,fun T Z=>⟨.ref p,R,S T Z,rfl,q⟩⟩
theorem vJ{pos:Pos}(L:X.N.Nodup)(T:X.N[i]? =some x)(K:Loc X.env.scope x)
  (c:CompScope X scope Nc js) (R:X.calm=true) (Q:PI X tg iter wi)
  (U:∀ C ex s H,PG (aZ X scope Nc C ex s H) tg g/\Cr (aZ X scope Nc C ex s H) ifs tt/\PE (aZ X scope Nc C ex s H) elt te)
  (W:swapsWith (.ListComp elt [⟨tg,iter,ifs,0⟩] scope cpos) (some (.Name x pos')) pos.line X.env=pure true:=by rfl)
  (F:X.fn x=true\/X.env.scope.names.lookup x=some .local:=by first|exact .inl rfl|exact .inr rfl|assumption)
  (hs:∀ x,foldedSetIterable iter X.env x=pure x:=by intro _;rfl):PS X (.Assign [.Name x pos'] (.ListComp elt [⟨tg,iter,ifs,0⟩] scope cpos) pos) (E5 (w5 wi js g tt te) (zW i)):=by
 intro pins s σ H D I h;rw[exec_Assign_Name_used _ _ _ _ W];refine Kv (LA (Kv ?_));show wpAny _ X.A (do let _<-comprehension (.ListComp elt [⟨tg,iter,ifs,0⟩] scope cpos) scope X.env _ (newList []) false (eval iter X.env) (some (assign (.Name x pos') X.env))) _ _ s
 refine Kv (dN (t8 (some (assign (.Name x pos') X.env)) (fun _ s'=>SP X pins D .next s') c R Q U I h (fun p C s' S q P G Z=>?_) hs) fun _ s' q=>Ky (Ky q));obtain⟨m,hm⟩:=G;have J:Inv X pins σ S s':=P s'.heap (.refl ..);refine wpAny_assign_Name (qA J L T K (v:=.ref p) rfl (fun s'' I'' ⟨a,hsb,ha⟩=>?_) F);have O:C≠a:=by
  rcases ha with z|z
  ·rw[z];exact Z.2.1
  ·exact fun e=>Z.2.2.2.2.1 x a z e.symm
 refine⟨m,hm.sameBut hsb O,fun B Y=>?_⟩;exact⟨_,S,I''.turned (t':=s''.toks) (it:=C) (fun b o E e=>(Y.2 b E).trans e) Z.1 Z.2.1 Z.2.2.2.1 Z.2.2.2.2.1 Z.2.2.2.2.2,q⟩
end
inductive D where
 |non|bl (b:Bool)|int (i:Int)|str (x:Str)|tup (ds:List D)|lst (k:Nat)|ro (ds:List D)|emp
 |fn (a c:Addr) (q:Str) (ds:List D) (vs:List V)|exc (x:Str) (ds:List D)
 |fz (ds:List D)
abbrev aB:=List (List D)
inductive Res(α:Type) where
 |ok (a:α)|ex (x:D)
def M(α:Type):=aB->Option (Res α×aB)
namespace M
def ret{α:Type}(a:α):M α:=fun S=>some (.ok a,S)
def bnd{α β:Type}(m:M α)(f:α->M β):M β:=fun S=>match m S with
 |some (.ok a,S')=>f a S'
 |some (.ex x,S')=>some (.ex x,S')
 |none=>none
def fail{α:Type}:M α:=fun _=>none
def raise{α:Type}(x:D):M α:=fun S=>some (.ex x,S)
noncomputable instance:Monad M where
 pure:=ret
 bind:=bnd
end M
def Kl(K:W.Frag)(a:Addr)(xs:List V):Prop:=∃(o:Obj) (its:Array Value) (n:Nat),K.lookup a=some o/\o.cls= .type "list"/\o.dict=none/\o.data= .seq its n/\its.size<=sizeLine/\bo xs its.toList
def Cs(K:W.Frag)(H:Hp)(a:Addr)(vs:List V):Prop:=(∃ o,H a=some (.frz o (.lst vs)))\/Kl K a vs
theorem Cs.sq{K:W.Frag}{H:Hp}{a:Addr}{vs:List V}(h:Cs K H a vs):jB K H a vs:=h.imp (fun⟨o,e⟩=>.inr ⟨o,e⟩) fun z=>z
def lr(C a:Addr)(od:Option Addr):Heap->Prop:=fun h=>∃ oe vs,h.get? a=some oe/\oe.cls= .ref C/\oe.dict=od/\oe.data= .fields vs
def qh(qual:Str)(c:Addr):Heap->Prop:=fun h=>h.CodeRec (.ref c) qual
def cC:List Str:=["law","_law_within_right","_law_refusals_right","_law_sharings_right","_law_right","_law_lists_right","_law_papers_right","_law_great_right","_law_told_right","_law_desks_right","_law_texts_right"]
def TabsOk(K:W.Frag)(H:Hp):Prop:=∀ x∈cC,∀ c P,W.tabIn K x=some (c,P)->∃ ps,H P=some (.tbl ps)/\TriplesOk ps.toList/\
 ∀ pos cv,codeAmong pos ps.toList=some cv->∃ c',cv= .ref c'/\H c'=some (.ext (qh (x++".<locals>.<lambda>") c'))
theorem TabsOk.mono{K:W.Frag}{H Z:Hp}(h:TabsOk K H)(k:∀ a o,H a=some o->(∀ vs,o≠ .lst vs)->Z a=some o):TabsOk K Z:=fun x Y c P e=>
 let ⟨ps,h1,h2,h3⟩:=h x Y c P e
 ⟨ps,k _ _ h1 (by intro _ z;cases z),h2,fun pos cv q=>let ⟨c',e1,e2⟩:=h3 pos cv q;⟨c',e1,k _ _ e2 (by intro _ z;cases z)⟩⟩
mutual
inductive RelD(K:W.Frag)(ι:List Addr)(H:Hp):D->V->Prop where
 |non:RelD K ι H .non .non
 |bl (b:Bool):RelD K ι H (.bl b) (.bl b)
 |int (i:Int):RelD K ι H (.int i) (.int i)
 |str (x:Str):RelD K ι H (.str x) (.str x)
 |tup {a:Addr} {ds:List D} {vs:List V}:H a=some (.tup vs)->RelDs K ι H ds vs->RelD K ι H (.tup ds) (.ref a)
 |lst {a:Addr} {k:Nat}:ι[k]? =some a->RelD K ι H (.lst k) (.ref a)
 |ro {a:Addr} {ds:List D} {vs:List V}:Cs K H a vs->RelDs K ι H ds vs->RelD K ι H (.ro ds) (.ref a)
 |emp {a:Addr}:H a=some (.dK [])->RelD K ι H .emp (.ref a)
 |fn {a c:Addr} {q:Str} {ds:List D} {vs:List V}:H c=some (.ext (qh q c))->RelDs K ι H ds vs->RelD K ι H (.fn a c q ds vs) (.ref a)
 |exc {a C:Addr} {x:Str}:W.nsIn K mainGlobals x=some (some (.ref C))->H a=some (.ext (lr C a none))->RelD K ι H (.exc x []) (.ref a)
 |excF {a C dx:Addr} {x:Str} {fs:List (Str×V)} {ds:List D}:W.nsIn K mainGlobals x=some (some (.ref C))->H a=some (.ext (lr C a (some dx)))->H dx=some (.xd fs)->fs.map (·.1)=([("many":Str),("most":Str)]:List Str)->RelDs K ι H ds (fs.map (·.2))->RelD K ι H (.exc x ds) (.ref a)
 |fz {a:Addr} {o:Obj} {ds:List D} {vs:List V}:H a=some (.frz o (.lst vs))->RelDs K ι H ds vs->RelD K ι H (.fz ds) (.ref a)
inductive RelDs(K:W.Frag)(ι:List Addr)(H:Hp):List D->List V->Prop where
 |nil:RelDs K ι H [] []
 |cons {d:D} {v:V} {ds:List D} {vs:List V}:RelD K ι H d v->RelDs K ι H ds vs->RelDs K ι H (d::ds) (v::vs)
end
structure Rep(K:W.Frag)(ι:List Addr)(H:Hp)(S:aB):Prop where
 nd:ι.Nodup
 len:ι.length=S.length
 get:∀(k:Nat) (a:Addr) (xs:List D),ι[k]? =some a->S[k]? =some xs->∃ vs,H a=some (.lst vs)/\RelDs K ι H xs vs
 tab:TabsOk K H
structure Ext(ι:List Addr)(H:Hp)(ι':List Addr)(H':Hp):Prop where
 ids:∃ more,ι'=ι++more
 oth:∀ a o,H a=some o->a ∉ ι->(∀ ps,o≠ .tbl ps)->H' a=some o/\a ∉ ι'
structure ExtN(ι:List Addr)(H:Hp)(ι':List Addr)(H':Hp):Prop where
 ids:∃ more,ι'=ι++more
 oth:∀ a o,H a=some o->a ∉ ι->(∀ ps,o≠ .tbl ps)->(∀ vs,o≠ .lst vs)->H' a=some o/\a ∉ ι'
theorem Ext.n{ι Z:List Addr}{H Y:Hp}(e:Ext ι H Z Y):ExtN ι H Z Y:=⟨e.ids,fun a o h n t _=>e.oth a o h n t⟩
theorem Ext.refl{ι:List Addr}{H:Hp}:Ext ι H ι H:=⟨⟨[],by simp⟩,fun _ _ h n _=>⟨h,n⟩⟩
theorem Ext.trans{ι Y Z:List Addr}{H X W:Hp}(a:Ext ι H Y X)(b:Ext Y X Z W):Ext ι H Z W:=by
 obtain⟨U,e1⟩:=a.ids;obtain⟨T,e2⟩:=b.ids;exact⟨⟨U++T,by rw[e2,e1,K9]⟩,fun c o h n t=>let ⟨h1,n1⟩:=a.oth c o h n t;b.oth c o h1 n1 t⟩
theorem ExtN.at{ι Z:List Addr}{H Y:Hp}(e:ExtN ι H Z Y){k:Nat}{a:Addr}(h:ι[k]? =some a):Z[k]? =some a:=by
 obtain⟨m,rfl⟩:=e.ids;have X:k<ι.length:=(KC.mp h).1;rw[Li X];exact h
section
variable {K:W.Frag}{ι ι':List Addr}{H H':Hp}{S:aB}
theorem Rep.isL(r:Rep K ι H S)(h:a∈ι):∃ vs,H a=some (.lst vs):=by
 obtain⟨k,Y,e⟩:=List.mem_iff_getElem.mp h;have Z:k<S.length:=by rw[<-r.len];exact Y
 obtain⟨vs,X,_⟩:=r.get k a (S[k]) (by rw[KB Y,e]) (KB Z)
 exact⟨vs,X⟩
theorem Rep.notIn(r:Rep K ι H S)(h:H a=some o)(Z:∀ vs,o≠ .lst vs):a ∉ ι:=fun z=>by
 obtain⟨vs,e⟩:=r.isL z;rw[h]at e;exact Z vs (K6 e)
theorem Rep.free(r:Rep K ι H S)(h:H a=none):a ∉ ι:=fun z=>by
 obtain⟨vs,e⟩:=r.isL z;rw[h]at e;cases e
mutual
theorem RelD.laterN(r:Rep K ι H S)(e:ExtN ι H ι' H'):∀{d:D} {v:V},RelD K ι H d v->RelD K ι' H' d v
 |_,_,.non=>.non
 |_,_,.bl b=>.bl b
 |_,_,.int i=>.int i
 |_,_,.str x=>.str x
 |_,_,.tup h hs=>.tup (e.oth _ _ h (r.notIn h (by intro _ z;cases z)) (by intro _ z;cases z) (by intro _ z;cases z)).1 (RelDs.laterN r e hs)
 |_,_,.lst h=>.lst (e.at h)
 |_,_,.ro h hs=>.ro (h.imp (fun⟨o,h⟩=>⟨o,(e.oth _ _ h (r.notIn h (by intro _ z;cases z)) (by intro _ z;cases z) (by intro _ z;cases z)).1⟩) fun z=>z) (RelDs.laterN r e hs)
 |_,_,.emp h=>.emp (e.oth _ _ h (r.notIn h (by intro _ z;cases z)) (by intro _ z;cases z) (by intro _ z;cases z)).1
 |_,_,.fn h hs=>.fn (e.oth _ _ h (r.notIn h (by intro _ z;cases z)) (by intro _ z;cases z) (by intro _ z;cases z)).1 (RelDs.laterN r e hs)
 |_,_,.exc n h=>.exc n (e.oth _ _ h (r.notIn h (by intro _ z;cases z)) (by intro _ z;cases z) (by intro _ z;cases z)).1
 |_,_,.excF n h h2 hn hs=>.excF n (e.oth _ _ h (r.notIn h (by intro _ z;cases z)) (by intro _ z;cases z) (by intro _ z;cases z)).1 (e.oth _ _ h2 (r.notIn h2 (by intro _ z;cases z)) (by intro _ z;cases z) (by intro _ z;cases z)).1 hn (RelDs.laterN r e hs)
 |_,_,.fz h hs=>.fz (e.oth _ _ h (r.notIn h (by intro _ z;cases z)) (by intro _ z;cases z) (by intro _ z;cases z)).1 (RelDs.laterN r e hs)
theorem RelDs.laterN(r:Rep K ι H S)(e:ExtN ι H ι' H'):∀{ds:List D} {vs:List V},RelDs K ι H ds vs->RelDs K ι' H' ds vs
 |_,_,.nil=>.nil
 |_,_,.cons h hs=>.cons (RelD.laterN r e h) (RelDs.laterN r e hs)
end
theorem RelD.later(r:Rep K ι H S)(e:Ext ι H ι' H'){d:D}{v:V}(h:RelD K ι H d v):RelD K ι' H' d v:=RelD.laterN r e.n h
theorem RelDs.later(r:Rep K ι H S)(e:Ext ι H ι' H'){ds:List D}{vs:List V}(h:RelDs K ι H ds vs):RelDs K ι' H' ds vs:=RelDs.laterN r e.n h
theorem RelDs.length:∀{ds:List D} {vs:List V},RelDs K ι H ds vs->ds.length=vs.length
 |_,_,.nil=>rfl
 |_,_,.cons _ t=>by rw[KY,KY,RelDs.length t]
theorem RelDs.append:∀{ds es:List D} {vs ws:List V},RelDs K ι H ds vs->RelDs K ι H es ws->RelDs K ι H (ds++es) (vs++ws)
 |_,_,_,_,.nil,s=>s
 |_,_,_,_,.cons r t,s=>.cons r (RelDs.append t s)
theorem RelDs.get':∀{ds:List D} {vs:List V} {i:Nat} {d:D},RelDs K ι H ds vs->ds[i]? =some d->∃ v,vs[i]? =some v/\RelD K ι H d v
 |_,_,_,_,.nil,e=>by simp at e
 |_,_,0,_,.cons r _,e=>by simp at e;subst e;exact⟨_,rfl,r⟩
 |_,_,i+1,v,.cons _ t,e=>by
  obtain⟨u,Y,Z⟩:=RelDs.get' (i:=i) t (by simpa using e)
  exact⟨u,by simpa using Y,Z⟩
theorem RelDs.take:∀{ds:List D} {vs:List V} (n:Nat),RelDs K ι H ds vs->RelDs K ι H (ds.take n) (vs.take n)
 |_,_,0,_=>.nil
 |_,_,_+1,.nil=>.nil
 |_,_,n+1,.cons r t=>.cons r (RelDs.take n t)
theorem RelDs.drop:∀{ds:List D} {vs:List V} (n:Nat),RelDs K ι H ds vs->RelDs K ι H (ds.drop n) (vs.drop n)
 |_,_,0,r=>r
 |_,_,_+1,.nil=>.nil
 |_,_,n+1,.cons _ t=>RelDs.drop n t
theorem RelDs.set(r:RelD K ι H d v):∀{ds:List D} {vs:List V} (i:Nat),RelDs K ι H ds vs->RelDs K ι H (ds.set i d) (vs.set i v)
 |_,_,_,.nil=>.nil
 |_,_,0,.cons _ t=>.cons r t
 |_,_,i+1,.cons q t=>.cons q (RelDs.set r i t)
theorem RelDs.eraseIdx:∀{ds:List D} {vs:List V} (i:Nat),RelDs K ι H ds vs->RelDs K ι H (ds.eraseIdx i) (vs.eraseIdx i)
 |_,_,_,.nil=>.nil
 |_,_,0,.cons _ t=>t
 |_,_,i+1,.cons q t=>.cons q (RelDs.eraseIdx i t)
theorem ef(Z:H p=none):Ext ι H ι (upd H p o):=⟨⟨[],by simp⟩,fun a Y h n _=>⟨by rw[aE (aK h Z)];exact h,n⟩⟩
theorem fw{p:Addr}{o:HO}(r:Rep K ι H S)(Z:H p=none):Rep K ι (upd H p o) S:=by
 refine⟨r.nd,r.len,fun k a xs e1 e2=>?_,r.tab.mono fun b o h _=>by rw[aE (aK h Z)];exact h⟩
 obtain⟨vs,Y,X⟩:=r.get k a xs e1 e2;exact⟨vs,by rw[aE (aK Y Z)];exact Y,RelDs.later r (ef Z) X⟩
theorem t9(Z:H p=none):Ext ι H (ι++[p]) (upd H p o):=⟨⟨[p],rfl⟩,fun a Y h n _=>⟨by rw[aE (aK h Z)];exact h,by
 have:a≠p:=aK h Z;simp[n,this]⟩⟩
theorem As{p:Addr}{xs:List D}{vs:List V}(r:Rep K ι H S)(Z:H p=none)(h:RelDs K ι H xs vs):Rep K (ι++[p]) (upd H p (.lst vs)) (S++[xs]):=by
 have X:Ext ι H (ι++[p]) (upd H p (.lst vs)):=t9 Z;refine⟨?_,by simp[r.len],fun k a ys e1 e2=>?_,r.tab.mono fun b o h _=>by rw[aE (aK h Z)];exact h⟩
 ·rw[NB];refine⟨r.nd,by simp,fun a R b Q=>?_⟩
  have:b=p:=by simpa using Q
  subst this;rintro rfl;exact r.free Z R
 ·by_cases hk:k<ι.length
  ·rw[Li hk]at e1;rw[Li (by rw[<-r.len];exact hk)]at e2
   obtain⟨ws,U,T⟩:=r.get k a ys e1 e2;exact⟨ws,by rw[aE (aK U Z)];exact U,RelDs.later r X T⟩
  ·have Y:k<(ι++[p]).length:=(KC.mp e1).1;have:k=ι.length:=by simp at Y;omega
   subst this;simp at e1;rw[r.len]at e2;simp at e2;subst e1 e2;exact⟨vs,aN,RelDs.later r X h⟩
theorem ot:∀{l:List Addr} {i j:Nat} {a:Addr},l.Nodup->l[i]? =some a->l[j]? =some a->i=j
 |[],i,j,a,_,h,_=>by simp at h
 |x::r,0,0,a,_,_,_=>rfl
 |x::r,0,j+1,a,hn,h1,h2=>by
  simp at h1 h2;subst h1;exact absurd (Le h2) (Lw.mp hn).1
 |x::r,i+1,0,a,hn,h1,h2=>by
  simp at h1 h2;subst h2;exact absurd (Le h1) (Lw.mp hn).1
 |x::r,i+1,j+1,a,hn,h1,h2=>by
  simp at h1 h2;rw[ot (Lw.mp hn).2 h1 h2]
theorem sd(Z:a∈ι):Ext ι H ι (upd H a o):=⟨⟨[],by simp⟩,fun b Y h n _=>⟨by rw[aE (fun z=>n (by rw[z];exact Z))];exact h,n⟩⟩
theorem se{a:Addr}{k:Nat}{xs:List D}{vs:List V}(r:Rep K ι H S)(Z:ι[k]? =some a)(h:RelDs K ι H xs vs):Rep K ι (upd H a (.lst vs)) (S.set k xs):=by
 have X:a∈ι:=Le Z;have Y:Ext ι H ι (upd H a (.lst vs)):=sd X;refine⟨r.nd,by simp[r.len],fun j b ys e1 e2=>?_,r.tab.mono fun b o h n=>by
  obtain⟨ws,hw⟩:=r.isL X;rw[aE (fun z=>by subst z;rw[h]at hw;exact n ws (K6 hw))];exact h⟩
 by_cases hj:j=k
 ·subst hj;rw[Z]at e1;cases e1;have T:j<S.length:=by rw[<-r.len];exact(KC.mp Z).1
  rw[K8 T]at e2;cases e2;exact⟨vs,aN,RelDs.later r Y h⟩
 ·rw[LG (Ne.symm hj)]at e2;obtain⟨ws,R,U⟩:=r.get j b ys e1 e2;have Q:b≠a:=by
   rintro rfl;exact hj (ot r.nd e1 Z)
  exact⟨ws,by rw[aE Q];exact R,RelDs.later r Y U⟩
end
abbrev XD:=D->List Addr->aB->Hp->Prop
def cont(K:W.Frag)(E:XD){α:Type}(c:M α)(ι:List Addr)(S:aB)(H:Hp)(Q:α->List Addr->aB->Hp->Prop):Prop:=
 ∃ r S',c S=some (r,S')/\∀ ι' H',Ext ι H ι' H'->Rep K ι' H' S'->match r with
  | .ok a=>Q a ι' S' H'
  | .ex x=>E x ι' S' H'
section
variable {K:W.Frag}{E:XD}{ι:List Addr}{S:aB}{H:Hp}{α β:Type}
theorem ai{c:M α}{f:α->M β}{Q:β->List Addr->aB->Hp->Prop}(h:cont K E (c>>=f) ι S H Q):cont K E c ι S H (fun a Z S1 X=>cont K E (f a) Z S1 X Q):=by
 obtain⟨r,R,e,k⟩:=h;have Y:M.bnd c f S=some (r,R):=e;unfold M.bnd at Y;cases q:c S with
 |none=>rw[q]at Y;cases Y
 | some p=>
  obtain⟨O,S1⟩:=p;rw[q]at Y;cases O with
  |ok a=>exact⟨.ok a,S1,q,fun Z X T rep1=>⟨r,R,Y,fun U P x2 rep2=>k U P (T.trans x2) rep2⟩⟩
  |ex x=>
   cases Y;exact⟨.ex x,_,q,fun Z X T rep1=>k Z X T rep1⟩
theorem ak{c:M α}{Q U:α->List Addr->aB->Hp->Prop}(h:cont K E c ι S H Q)(k:∀ a ι' Z H',Ext ι H ι' H'->Rep K ι' H' Z->Q a ι' Z H'->U a ι' Z H'):cont K E c ι S H U:=by
 obtain⟨r,Z,e,q⟩:=h;refine⟨r,Z,e,fun Y T X rep1=>?_⟩;have:=q Y T X rep1;cases r with
 |ok a=>exact k a Y Z T X rep1 this
 |ex x=>exact this
theorem ah{a:α}{Q:α->List Addr->aB->Hp->Prop}(h:cont K E (pure a) ι S H Q){Z:List Addr}{Y:Hp}(x:Ext ι H Z Y)(r:Rep K Z Y S):Q a Z S Y:=by
 obtain⟨X,U,e,q⟩:=h;cases e;exact q Z Y x r
theorem ag{Q:α->List Addr->aB->Hp->Prop}(h:cont K E (M.fail) ι S H Q):False:=by
 obtain⟨Z,Y,e,q⟩:=h;cases e
end
abbrev aO:=List (Option D)
inductive RelE(K:W.Frag)(ι:List Addr)(H:Hp):aO->St->Prop where
 |nil:RelE K ι H [] []
 |cons {o:Option D} {u:Option V} {ρ:aO} {σ:St}:(∀ d,o=some d->∃ v,u=some v/\RelD K ι H d v)->RelE K ι H ρ σ->RelE K ι H (o::ρ) (u::σ)
section
variable {K:W.Frag}{ι ι':List Addr}{S:aB}{H H':Hp}
theorem RelE.later(r:Rep K ι H S)(e:Ext ι H ι' H'):∀{ρ:aO} {σ:St},RelE K ι H ρ σ->RelE K ι' H' ρ σ
 |_,_,.nil=>.nil
 |_,_,.cons h t=>.cons (fun d z=>let ⟨v,e1,e2⟩:=h d z;⟨v,e1,RelD.later r e e2⟩) (RelE.later r e t)
theorem RelE.get:∀{ρ:aO} {σ:St} {i:Nat} {d:D},RelE K ι H ρ σ->ρ[i]? =some (some d)->∃ v,σ[i]? =some (some v)/\RelD K ι H d v
 |_,_,_,_,.nil,e=>by simp at e
 |_,_,0,_,.cons h _,e=>by
  simp at e;obtain⟨v,e1,e2⟩:=h _ e;exact⟨v,by simp[e1],e2⟩
 |_,_,i+1,_,.cons _ t,e=>by
  obtain⟨v,Y,Z⟩:=RelE.get (i:=i) t (by simpa using e)
  exact⟨v,by simpa using Y,Z⟩
theorem RelE.set(r:RelD K ι H d v):∀{ρ:aO} {σ:St} (i:Nat),RelE K ι H ρ σ->RelE K ι H (ρ.set i (some d)) (σ.set i (some v))
 |_,_,_,.nil=>.nil
 |_,_,0,.cons _ t=>.cons (fun d' z=>by cases z;exact⟨v,rfl,r⟩) t
 |_,_,i+1,.cons q t=>.cons q (RelE.set r i t)
theorem RelE.start:∀{ds:List D} {vs:List V},RelDs K ι H ds vs->∀ n,RelE K ι H (ds.map some++List.replicate n none) (vs.map some++List.replicate n none)
 |_,_,.nil,n=>by
  induction n with
  |zero=>exact .nil
  |succ n ih=>exact .cons (fun d z=>by cases z) ih
 |_,_,.cons r t,n=>.cons (fun d z=>by cases z;exact⟨_,rfl,r⟩) (RelE.start t n)
end
abbrev TM:=aO->M D
def kH(K:W.Frag)(Q:VK):D->List Addr->aB->Hp->Prop:=fun d ι' _ H'=>∀ v,RelD K ι' H' d v->Q v H'
def tM(K:W.Frag)(E:XD)(m:TM):TE:=fun σ H Q=>∃ ι S ρ,Rep K ι H S/\RelE K ι H ρ σ/\cont K E (m ρ) ι S H (kH K Q)
def SE(X:Cx)(E:XD)(e:Expr)(m:TM):Prop:=PE X e (tM X.K E m)
def yz(K:W.Frag)(E:XD)(m:aO->M Bool):TT:=fun σ H Q=>∃ ι S ρ,Rep K ι H S/\RelE K ι H ρ σ/\cont K E (m ρ) ι S H (fun b _ _ H'=>Q b H')
def SB(X:Cx)(E:XD)(e:Expr)(m:aO->M Bool):Prop:=PT X e (yz X.K E m)
def Fx(X:Cx)(E:XD)(e:Expr)(m:aO->M Bool):Prop:=PW X e (yz X.K E m)
def JF(K:W.Frag)(E:XD)(m:aO->M (List D)):TA:=fun σ H Q=>∃ ι S ρ,Rep K ι H S/\RelE K ι H ρ σ/\cont K E (m ρ) ι S H (fun ds ι' _ H'=>∀ vs,RelDs K ι' H' ds vs->Q vs H')
def SA(X:Cx)(E:XD)(es:List Expr)(m:aO->M (List D)):Prop:=PA X es (JF X.K E m)
inductive Out where
 |nx (ρ:aO)|ret (d:D)|bk (ρ:aO)|ct (ρ:aO)
abbrev cW:=aO->M Out
def Fy(K:W.Frag)(T:Ends):Out->List Addr->aB->Hp->Prop:=fun o ι' _ H'=>match o with
 | .nx ρ=>∀ σ,RelE K ι' H' ρ σ->T.nx σ H'
 | .ret d=>∀ v,RelD K ι' H' d v->T.rt v H'
 | .bk ρ=>∀ σ,RelE K ι' H' ρ σ->T.bk σ H'
 | .ct ρ=>∀ σ,RelE K ι' H' ρ σ->T.ct σ H'
def J6(K:W.Frag)(E:XD)(m:cW):TS:=fun T σ H=>∃ ι S ρ,Rep K ι H S/\RelE K ι H ρ σ/\cont K E (m ρ) ι S H (Fy K T)
def SS(X:Cx)(E:XD)(st:Stmt)(m:cW):Prop:=PS X st (J6 X.K E m)
def ua(X:Cx)(E:XD)(st:List Stmt)(m:cW):Prop:=qb X st (J6 X.K E m)
abbrev mP:=D->aO->M aO
def Ct(K:W.Frag)(E:XD)(m:mP):TG:=fun v σ H Q=>∃ ι S ρ d,Rep K ι H S/\RelE K ι H ρ σ/\RelD K ι H d v/\cont K E (m d ρ) ι S H (fun ρ' ι' _ H'=>∀ σ',RelE K ι' H' ρ' σ'->Q σ' H')
def SG(X:Cx)(E:XD)(tg:Expr)(m:mP):Prop:=PG X tg (Ct X.K E m)
theorem PE.imp{X:Cx}{e:Expr}{t t':TE}(h:PE X e t)(k:∀ σ H Q,t' σ H Q->t σ H Q):PE X e t':=fun pins s σ H Q I hw=>h pins s σ H Q I (k σ H Q hw)
theorem PT.imp{X:Cx}{e:Expr}{t t':TT}(h:PT X e t)(k:∀ σ H Q,t' σ H Q->t σ H Q):PT X e t':=fun pins s σ H Q I hw=>h pins s σ H Q I (k σ H Q hw)
theorem PW.imp{X:Cx}{e:Expr}{t t':TT}(h:PW X e t)(k:∀ σ H Q,t' σ H Q->t σ H Q):PW X e t':=fun wh pins s σ H Q I hw=>h wh pins s σ H Q I (k σ H Q hw)
theorem PA.imp{X:Cx}{e:List Expr}{t t':TA}(h:PA X e t)(k:∀ σ H Q,t' σ H Q->t σ H Q):PA X e t':=fun pos pins s σ H Q I hw=>h pos pins s σ H Q I (k σ H Q hw)
theorem PS.imp{X:Cx}{e:Stmt}{t t':TS}(h:PS X e t)(k:∀ D σ H,t' D σ H->t D σ H):PS X e t':=fun pins s σ H D I hw=>h pins s σ H D I (k D σ H hw)
theorem qb.imp{X:Cx}{e:List Stmt}{t t':TS}(h:qb X e t)(k:∀ D σ H,t' D σ H->t D σ H):qb X e t':=fun pins s σ H D I hw=>h pins s σ H D I (k D σ H hw)
theorem PG.imp{X:Cx}{e:Expr}{t t':TG}(h:PG X e t)(k:∀ v σ H Q,t' v σ H Q->t v σ H Q):PG X e t':=fun pins s σ H v u Q I r hw=>h pins s σ H v u Q I r (k v σ H Q hw)
section
variable {X:Cx}{E:XD}{a b e:Expr}{m n:TM}{pos:Pos}
def CY(ρ:aO)(i:Nat):M D:=match ρ[i]? with
 |some (some d)=>pure d
 |_=>M.fail
theorem aa(i:Nat)(U:X.N[i]? =some x:=by rfl)(W:yf X.env.scope x:=by first|exact Or.inl rfl|exact Or.inr (Or.inl rfl)|exact Or.inr (Or.inr rfl))(Z:(x==("__debug__":Str))=false:=by decide)
  (Y:(x==("__classdict__":Str))=false:=by decide):SE X E (.Name x pos) (fun ρ=>CY ρ i):=by
 refine PE.imp (rM U W Z Y) fun σ H Q h=>?_;obtain⟨ι,S,ρ,rep,re,c⟩:=h;unfold CY at c;dsimp only at c;split at c
 ·next d Z=>
  obtain⟨v,e1,e2⟩:=re.get Z;exact⟨v,e1,ah c .refl rep v e2⟩
 ·exact(ag c).elim
theorem jO(h:PE X e (tC v))(Z:∀ ι H,RelD X.K ι H d v):SE X E e (fun _=>pure d):=by
 refine PE.imp h fun σ H Q h=>?_;obtain⟨ι,S,ρ,rep,re,c⟩:=h;exact ah c .refl rep v (Z _ _)
theorem av{j}:SE X E (.Constant (.int i) j pos) (fun _=>pure (.int i)):=jO zU fun _ _=>.int i
theorem fj{j}:SE X E (.Constant (.bool i) j pos) (fun _=>pure (.bl i)):=jO Hg fun _ _=>.bl i
theorem kI{j}:SE X E (.Constant .none j pos) (fun _=>pure .non):=jO EK fun _ _=>.non
theorem sf{j}:SE X E (.Constant (.str x) j pos) (fun _=>pure (.str x)):=jO EL fun _ _=>.str x
theorem CZ(W:Gl X x)(Z:X.mg x=some (.int i t))(Y:(x==("__debug__":Str))=false:=by decide):SE X E (.Name x pos) (fun _=>pure (.int i)):=
 jO (wU W Z (v:=.int i) ⟨t,rfl⟩ Y) fun _ _=>.int i
def tU(K:W.Frag)(E:XD)(f:D->D->M D)(r:R2):Prop:=
 ∀ ι S H d1 d2 v1 v2 Q,Rep K ι H S->RelD K ι H d1 v1->RelD K ι H d2 v2->cont K E (f d1 d2) ι S H (kH K Q)->r v1 v2 H Q
theorem C0(W:tU X.K E f r)(h:tM X.K E (fun ρ=>do let x<-m ρ;let y<-n ρ;f x y) σ H Q):Hv r (tM X.K E m) (tM X.K E n) σ H Q:=by
 obtain⟨ι,S,ρ,rep,re,c⟩:=h;refine⟨ι,S,ρ,rep,re,ak (ai c) fun x Y S1 O e1 rep1 c1 v1 P=>?_⟩;refine⟨Y,S1,ρ,rep1,re.later rep e1,ak (ai c1) fun y Z S2 T e2 rep2 U v2 R=>?_⟩;exact W Z S2 T x y v1 v2 Q rep2 (P.later rep1 e2) R U
theorem qK(h:i6 X (binaryOp op) r)(Z:tU X.K E f r)(Y:SE X E a m)(W:SE X E b n):SE X E (.BinOp a op b pos) (fun ρ=>do let x<-m ρ;let y<-n ρ;f x y):=
 PE.imp (Hw h Y W) fun _ _ _ q=>C0 Z q
theorem vK(h:i6 X (compareOp op) r)(Y:tU X.K E f r)(W:SE X E a m)(U:SE X E b n)(Z:behindInMarks op b=false:=by first|exact tW _ (by decide) (by decide)|rfl):
  SE X E (.Compare a [op] [b] pos) (fun ρ=>do let x<-m ρ;let y<-n ρ;f x y):=
 PE.imp (CI h W U Z) fun _ _ _ q=>C0 Y q
theorem HL(h:Cq X r)(Z:tU X.K E f r)(Y:SE X E a m)(W:SE X E b n)(hs:rQ b:=by intro _ _;rfl):SE X E (.Subscript a b pos) (fun ρ=>do let x<-m ρ;let y<-n ρ;f x y):=
 PE.imp (HG h Y W hs) fun _ _ _ q=>C0 Z q
end
def lim:Nat:=10000000
theorem gy:lim<=sizeLine:=by rw[LK];decide
theorem Au:lim<sizeLine:=by rw[LK];decide
section
variable {K:W.Frag}{ι:List Addr}{H:Hp}
theorem RelD.bl_inv(h:RelD K ι H (.bl b) v):v= .bl b:=by cases h;rfl
theorem RelD.int_inv(h:RelD K ι H (.int b) v):v= .int b:=by cases h;rfl
theorem RelD.str_inv(h:RelD K ι H (.str b) v):v= .str b:=by cases h;rfl
theorem RelD.non_inv(h:RelD K ι H .non v):v= .non:=by cases h;rfl
theorem RelD.tup_inv(h:RelD K ι H (.tup ds) v):∃ a vs,v= .ref a/\H a=some (.tup vs)/\RelDs K ι H ds vs:=by
 cases h with
 |tup h1 h2=>exact⟨_,_,rfl,h1,h2⟩
theorem RelD.lst_inv(h:RelD K ι H (.lst k) v):∃ a,v= .ref a/\ι[k]? =some a:=by
 cases h with
 |lst h1=>exact⟨_,rfl,h1⟩
theorem RelD.ro_inv(h:RelD K ι H (.ro ds) v):∃ a vs,v= .ref a/\Cs K H a vs/\RelDs K ι H ds vs:=by
 cases h with
 |ro h1 h2=>exact⟨_,_,rfl,h1,h2⟩
theorem RelD.fz_inv(h:RelD K ι H (.fz ds) v):∃ a o vs,v= .ref a/\H a=some (.frz o (.lst vs))/\RelDs K ι H ds vs:=by
 cases h with
 |fz h1 h2=>exact⟨_,_,_,rfl,h1,h2⟩
theorem RelDs.nil_inv(h:RelDs K ι H [] vs):vs=[]:=by cases h;rfl
theorem RelDs.cons_inv(h:RelDs K ι H (d::ds) vs):∃ v ws,vs=v::ws/\RelD K ι H d v/\RelDs K ι H ds ws:=by
 cases h with
 |cons h1 h2=>exact⟨_,_,rfl,h1,h2⟩
end
def kz:D->M Bool
 | .bl b=>pure b
 |_=>M.fail
def getL(k:Nat):M (List D):=fun S=>(S[k]?).bind fun xs=>some (.ok xs,S)
def bM(ds:List D):M D:=fun S=>if ds.length<=lim then some (.ok (.lst S.length),S++[ds])else none
def mq(k:Nat)(ds:List D):M D:=fun S=>if ds.length<=lim/\k<S.length then some (.ok .non,S.set k ds)else none
def cf(ds:List D):M D:=if ds.length<=lim then pure (.tup ds)else M.fail
section
variable {K:W.Frag}{E:XD}{ι:List Addr}{S:aB}{H:Hp}{α:Type}
theorem nG{f:Bool->M α}(Z:Rep K ι H S)(r:RelD K ι H x v)(c:cont K E (kz x>>=f) ι S H Q):∃ b,v= .bl b/\x= .bl b/\cont K E (f b) ι S H Q:=by
 cases x with
 |bl b=>exact⟨b,r.bl_inv,rfl,ah (ai c) .refl Z⟩
 |_=>exact(ag (ai c)).elim
theorem ou{Q:Bool->List Addr->aB->Hp->Prop}(Z:Rep K ι H S)(r:RelD K ι H x v)(c:cont K E (kz x) ι S H Q):∃ b,v= .bl b/\x= .bl b/\Q b ι S H:=by
 cases x with
 |bl b=>exact⟨b,r.bl_inv,rfl,ah c .refl Z⟩
 |_=>exact(ag c).elim
theorem yA{Q:D->List Addr->aB->Hp->Prop}(c:cont K E (bM ds) ι S H Q)(Z:Rep K ι H S)(r:RelDs K ι H ds vs):
  vs.length<=lim/\∀ p,H p=none->Q (.lst S.length) (ι++[p]) (S++[ds]) (upd H p (.lst vs)):=by
 obtain⟨X,U,e,q⟩:=c;unfold bM at e;split at e
 ·next hl=>
  cases e;exact⟨by rw[<-r.length];exact hl,fun p Y=>q _ _ (t9 Y) (As Z Y r)⟩
 ·cases e
theorem Av(Z:Rep K ι H S):RelD K (ι++[p]) H' (.lst S.length) (.ref p):=.lst (by rw[<-Z.len];simp)
theorem bt{Q:VK}(c:cont K E (bM ds) ι S H (kH K Q))(Z:Rep K ι H S)(r:RelDs K ι H ds vs):vs.length<=lim/\∀ p,H p=none->Q (.ref p) (upd H p (.lst vs)):=
 let ⟨h1,h2⟩:=yA c Z r
 ⟨h1,fun p Y=>h2 p Y _ (Av Z)⟩
theorem gW{Q:VK}(c:cont K E (cf ds) ι S H (kH K Q))(Z:Rep K ι H S)(r:RelDs K ι H ds vs):vs.length<=lim/\∀ p,H p=none->Q (.ref p) (upd H p (.tup vs)):=by
 unfold cf at c;split at c
 ·next hl=>
  refine⟨by rw[<-r.length];exact hl,fun p Y=>?_⟩
  exact ah c (ef Y) (fw Z Y) _ (.tup aN (r.later Z (ef Y)))
 ·exact(ag c).elim
theorem i9{Q:VK}(c:cont K E (cf ds) ι S H (kH K Q))(Z:Rep K ι H S)(h:H a=some (.tup vs))(r:RelDs K ι H ds vs):Q (.ref a) H:=by
 unfold cf at c;split at c
 ·exact ah c .refl Z _ (.tup h r)
 ·exact(ag c).elim
theorem bg{f:List D->M α}(c:cont K E (getL k>>=f) ι S H Q)(Z:Rep K ι H S)(X:ι[k]? =some a):
  ∃ ds vs,S[k]? =some ds/\H a=some (.lst vs)/\RelDs K ι H ds vs/\cont K E (f ds) ι S H Q:=by
 obtain⟨T,R,e,q⟩:=ai c;unfold getL at e;cases z:S[k]? with
 |none=>rw[z]at e;cases e
 |some ds=>
  rw[z]at e;cases e;obtain⟨vs,U,Y⟩:=Z.get k a ds X z;exact⟨ds,vs,rfl,U,Y,q ι H .refl Z⟩
theorem iS{Q:D->List Addr->aB->Hp->Prop}(c:cont K E (mq k ds) ι S H Q)(Z:Rep K ι H S)(Y:ι[k]? =some a)(r:RelDs K ι H ds vs):
  vs.length<=lim/\Q .non ι (S.set k ds) (upd H a (.lst vs)):=by
 obtain⟨X,U,e,q⟩:=c;unfold mq at e;split at e
 ·next hl=>
  cases e;exact⟨by rw[<-r.length];exact hl.1,q _ _ (sd (Le Y)) (se Z Y r)⟩
 ·cases e
end
section
variable {X:Cx}{E:XD}{a b e:Expr}{m n:TM}{pos:Pos}{rest es:List Expr}{ms:aO->M (List D)}{t u:aO->M Bool}
theorem ja{op}(h:SE X E a m):SE X E (.BoolOp op [a] pos) m:=ES h
theorem jb(W:SE X E a m)(T:SE X E (.BoolOp .And (b::rest) pos) n):SE X E (.BoolOp .And (a::b::rest) pos) (fun ρ=>do let x<-m ρ;let c<-kz x;if c=true then n ρ else pure (.bl false)):=by
 refine PE.imp (ET W T) fun σ H Q h=>?_;obtain⟨ι,S,ρ,rep,re,c⟩:=h;refine⟨ι,S,ρ,rep,re,ak (ai c) fun x Z S1 R e1 rep1 c1 v1 U=>?_⟩;obtain⟨k,rfl,rfl,Y⟩:=nG rep1 U c1;refine⟨k,rfl,?_⟩;cases k with
 |true=>exact⟨Z,S1,ρ,rep1,re.later rep e1,Y⟩
 |false=>exact ah Y .refl rep1 _ (.bl false)
theorem HM(W:SE X E a m)(T:SE X E (.BoolOp .Or (b::rest) pos) n):SE X E (.BoolOp .Or (a::b::rest) pos) (fun ρ=>do let x<-m ρ;let c<-kz x;if c=true then pure (.bl true)else n ρ):=by
 refine PE.imp (Hk W T) fun σ H Q h=>?_;obtain⟨ι,S,ρ,rep,re,c⟩:=h;refine⟨ι,S,ρ,rep,re,ak (ai c) fun x Z S1 R e1 rep1 c1 v1 U=>?_⟩;obtain⟨k,rfl,rfl,Y⟩:=nG rep1 U c1;refine⟨k,rfl,?_⟩;cases k with
 |false=>exact⟨Z,S1,ρ,rep1,re.later rep e1,Y⟩
 |true=>exact ah Y .refl rep1 _ (.bl true)
theorem Fz(Y:SE X E a m):SE X E (.UnaryOp .Not a pos) (fun ρ=>do let x<-m ρ;let c<-kz x;pure (.bl (!c))):=by
 refine PE.imp (EU Y) fun σ H Q h=>?_;obtain⟨ι,S,ρ,rep,re,c⟩:=h;refine⟨ι,S,ρ,rep,re,ak (ai c) fun x U S1 T e1 rep1 c1 v1 W=>?_⟩;obtain⟨k,rfl,rfl,Z⟩:=nG rep1 W c1;exact⟨k,rfl,ah Z .refl rep1 _ (.bl _)⟩
theorem HN(h:yz X.K E (fun ρ=>do let x<-m ρ;kz x) σ H Q):tB (tM X.K E m) σ H Q:=by
 obtain⟨ι,S,ρ,rep,re,c⟩:=h;refine⟨ι,S,ρ,rep,re,ak (ai c) fun x W S1 U e1 rep1 c1 v1 Y=>?_⟩;obtain⟨k,rfl,rfl,Z⟩:=ou rep1 Y c1;exact⟨k,rfl,Z⟩
theorem eZ(h:SE X E e m)(Z:∀ whole,isTrue e X.env whole=(do let v<-whole;standAt e.pos;holding [v] (truthy v)):=by intro _;rfl):SB X E e (fun ρ=>do let x<-m ρ;kz x):=
 PT.imp (EM h Z) fun _ _ _ q=>HN q
theorem kJ(h:i6 X (compareOp op) r)(Y:tU X.K E f r)(U:SE X E a m)(O:SE X E b n)(Z:behindInMarks op b=false:=by first|exact tW _ (by decide) (by decide)|rfl):
  SB X E (.Compare a [op] [b] pos) (fun ρ=>do let z<-(do let x<-m ρ;let y<-n ρ;f x y);kz z):=
 PT.imp (CJ h U O Z) fun σ H Q q=>by
  obtain⟨ι,S,ρ,rep,re,c⟩:=q;refine C0 Y (Q:=fun x T=>∃ k,x= .bl k/\Q k T) ⟨ι,S,ρ,rep,re,ak (ai c) fun x P S1 N e1 rep1 c1 v1 R=>?_⟩;obtain⟨k,rfl,rfl,W⟩:=ou rep1 R c1;exact⟨k,rfl,W⟩
theorem gX(h:SB X E a t):SB X E (.UnaryOp .Not a pos) (fun ρ=>do let c<-t ρ;pure (!c)):=by
 refine PT.imp (ER h) fun σ H Q q=>?_;obtain⟨ι,S,ρ,rep,re,c⟩:=q;exact⟨ι,S,ρ,rep,re,ak (ai c) fun k Z S1 Y e1 rep1 c1=>ah c1 .refl rep1⟩
theorem C1(h:SB X E a t):Fx X E (.BoolOp .And [a] pos) t:=Cz h
theorem oy(h:SB X E a t):Fx X E (.BoolOp .Or [a] pos) t:=EN h
theorem FA(Y:SB X E a t)(W:Fx X E (.BoolOp .And (b::rest) pos) u):Fx X E (.BoolOp .And (a::b::rest) pos) (fun ρ=>do let c<-t ρ;if c=true then u ρ else pure false):=by
 refine PW.imp (EO Y W) fun σ H Q q=>?_;obtain⟨ι,S,ρ,rep,re,c⟩:=q;refine⟨ι,S,ρ,rep,re,ak (ai c) fun k Z S1 U e1 rep1 c1=>?_⟩;cases k with
 |true=>exact⟨Z,S1,ρ,rep1,re.later rep e1,c1⟩
 |false=>exact ah c1 .refl rep1
theorem qL(Y:SB X E a t)(W:Fx X E (.BoolOp .Or (b::rest) pos) u):Fx X E (.BoolOp .Or (a::b::rest) pos) (fun ρ=>do let c<-t ρ;if c=true then pure true else u ρ):=by
 refine PW.imp (Hh Y W) fun σ H Q q=>?_;obtain⟨ι,S,ρ,rep,re,c⟩:=q;refine⟨ι,S,ρ,rep,re,ak (ai c) fun k Z S1 U e1 rep1 c1=>?_⟩;cases k with
 |false=>exact⟨Z,S1,ρ,rep1,re.later rep e1,c1⟩
 |true=>exact ah c1 .refl rep1
theorem yB(h:Fx X E e t):SB X E e t:=PW.pt h
theorem aj:SA X E [] (fun _=>pure []):=by
 refine PA.imp jJ fun σ H Q q=>?_;obtain⟨ι,S,ρ,rep,re,c⟩:=q;exact ah c .refl rep _ .nil
theorem af(W:SE X E e m)(T:SA X E es ms)(hs:starEach (e::es) X.env=(false,eval e X.env)::starEach es X.env:=by rfl):SA X E (e::es) (fun ρ=>do let x<-m ρ;let xs<-ms ρ;pure (x::xs)):=by
 refine PA.imp (eV W T hs) fun σ H Q q=>?_;obtain⟨ι,S,ρ,rep,re,c⟩:=q;refine⟨ι,S,ρ,rep,re,ak (ai c) fun x Z S1 N e1 rep1 c1 v1 P=>?_⟩;refine⟨Z,S1,ρ,rep1,re.later rep e1,ak (ai c1) fun xs Y S2 O e2 rep2 U vs R=>?_⟩;exact ah U .refl rep2 _ (.cons (P.later rep1 e2) R)
theorem cG{x1}(h:SA X E es ms):SE X E (.Tuple es x1 pos) (fun ρ=>do let ds<-ms ρ;cf ds):=by
 refine PE.imp (Af h) fun σ H Q q=>?_;obtain⟨ι,S,ρ,rep,re,c⟩:=q;refine⟨ι,S,ρ,rep,re,ak (ai c) fun x U S1 T e1 rep1 c1 vs W=>?_⟩;obtain⟨Y,Z⟩:=gW c1 rep1 W;exact⟨KP Y gy,Z⟩
theorem bI(h:SA X E es ms):SE X E (.List es pos) (fun ρ=>do let ds<-ms ρ;bM ds):=by
 refine PE.imp (Fl h) fun σ H Q q=>?_;obtain⟨ι,S,ρ,rep,re,c⟩:=q;refine⟨ι,S,ρ,rep,re,ak (ai c) fun x U S1 T e1 rep1 c1 vs W=>?_⟩;obtain⟨Y,Z⟩:=bt c1 rep1 W;exact⟨KP Y gy,Z⟩
def kA(K:W.Frag)(E:XD)(f:List D->M D)(r:List V->Hp->VK->Prop):Prop:=
 ∀ ι S H ds vs Q,Rep K ι H S->RelDs K ι H ds vs->cont K E (f ds) ι S H (kH K Q)->r vs H Q
theorem HP(Y:kA X.K E f r)(h:tM X.K E (fun ρ=>do let ds<-ms ρ;f ds) σ H Q):Jz r (JF X.K E ms) σ H Q:=by
 obtain⟨ι,S,ρ,rep,re,c⟩:=h;exact⟨ι,S,ρ,rep,re,ak (ai c) fun ds Z S1 W e1 rep1 c1 vs U=>Y Z S1 W ds vs Q rep1 U c1⟩
theorem iT{x:Str}{W:String}{f:List D->M D}{r:List V->Hp->VK->Prop}{p:Pos}(Q:dF X (.builtin W) r)(S:kA X.K E f r)(O:Gl X x)(U:X.mg x=none)(R:bootBuiltins x=some (.builtin W))(P:SA X E (e::es) ms)
  (N:x≠"__name__":=by decide) (Y:(x==("__debug__":Str))=false:=by decide) (T:starEach (e::es) X.env=(false,eval e X.env)::starEach es X.env:=by rfl) (Z:(backTo pos (starEach es X.env)).any (·.1)=false:=by rfl):
  SE X E (.Call (.Name x p) (e::es) [] pos) (fun ρ=>do let ds<-ms ρ;f ds):=
 PE.imp (jK Q O U R P N Y T Z) fun _ _ _ q=>HP S q
theorem qM(Q:dF X (.type T) r)(S:kA X.K E f r)(O:Gl X x)(W:X.mg x=none)(R:bootBuiltins x=some (.type T))(P:SA X E (e::es) ms)
  (N:x≠"__name__":=by decide) (Y:(x==("__debug__":Str))=false:=by decide) (U:starEach (e::es) X.env=(false,eval e X.env)::starEach es X.env:=by rfl) (Z:(backTo pos (starEach es X.env)).any (·.1)=false:=by rfl):
  SE X E (.Call (.Name x p) (e::es) [] pos) (fun ρ=>do let ds<-ms ρ;f ds):=
 PE.imp (kb Q O W R P N Y U Z) fun _ _ _ q=>HP S q
abbrev cA:XD:=fun _ _ _ _=>False
def Km(K:W.Frag)(F:List D->M D):Sp:=fun vs H Q _=>∃ ι S ds,Rep K ι H S/\RelDs K ι H ds vs/\cont K cA (F ds) ι S H (kH K Q)
def IM(K:W.Frag)(E:XD)(f:D->List D->M D)(r:V->List V->Hp->VK->Prop):Prop:=
 ∀ ι S H d ds v vs Q,Rep K ι H S->RelD K ι H d v->RelDs K ι H ds vs->cont K E (f d ds) ι S H (kH K Q)->r v vs H Q
end
theorem fV{K:W.Frag}{E:XD}{X:Type}{c:M X}{ι Z:List Addr}{S:aB}{H U:Hp}{Q:X->List Addr->aB->Hp->Prop}(h:cont K E c ι S H Q)(e:Ext ι H Z U):cont K E c Z S U Q:=by
 obtain⟨r,R,q,k⟩:=h;exact⟨r,R,q,fun Y T x2 rep2=>k Y T (e.trans x2) rep2⟩
section
variable {X:Cx}{E:XD}{st:Stmt}{sts:List Stmt}{m n:cW}{e:Expr}{me:TM}{t:aO->M Bool}{pos:Pos}{g:mP}
def yC(o:Out)(n:cW):M Out:=match o with
 | .nx ρ=>n ρ
 | .ret d=>pure (.ret d)
 | .bk ρ=>pure (.bk ρ)
 | .ct ρ=>pure (.ct ρ)
theorem cy:ua X E [] (fun ρ=>pure (.nx ρ)):=by
 refine qb.imp CA fun T σ H h=>?_;obtain⟨ι,S,ρ,rep,re,c⟩:=h;exact ah c .refl rep σ re
theorem aw(U:SS X E st m)(W:ua X E sts n):ua X E (st::sts) (fun ρ=>do let o<-m ρ;yC o n):=by
 refine qb.imp (tX U W) fun T σ H h=>?_;obtain⟨ι,S,ρ,rep,re,c⟩:=h;refine⟨ι,S,ρ,rep,re,ak (ai c) fun o Y S1 Q e1 rep1 c1=>?_⟩;cases o with
 |nx ρ'=>exact fun R Z=>⟨Y,S1,ρ',rep1,Z,c1⟩
 |ret d=>exact ah c1 .refl rep1
 |bk ρ'=>exact ah c1 .refl rep1
 |ct ρ'=>exact ah c1 .refl rep1
theorem aL(Z:SS X E st m):ua X E [st] m:=by
 refine qb.imp (rN Z) fun T σ H h=>h
theorem fx(Z:SE X E e me)(hs:swapsWith e none pos.line X.env=pure false:=by rfl):SS X E (.Expr e pos) (fun ρ=>do let _<-me ρ;pure (.nx ρ)):=by
 refine PS.imp (CB Z hs) fun T σ H h=>?_;obtain⟨ι,S,ρ,rep,re,c⟩:=h;refine⟨ι,S,ρ,rep,re,ak (ai c) fun d Y S1 W e1 rep1 c1 v r=>?_⟩;exact ah c1 .refl rep1 σ (re.later rep e1)
theorem a7(Z:SE X E e me):SS X E (.Return (some e) pos) (fun ρ=>do let d<-me ρ;pure (.ret d)):=by
 refine PS.imp (EV Z) fun T σ H h=>?_;obtain⟨ι,S,ρ,rep,re,c⟩:=h;exact⟨ι,S,ρ,rep,re,ak (ai c) fun d Y S1 W e1 rep1 c1=>ah c1 .refl rep1⟩
theorem cO(Y:SB X E e t)(W:ua X E a m)(U:ua X E b n):SS X E (.If e a b pos) (fun ρ=>do let c<-t ρ;if c=true then m ρ else n ρ):=by
 refine PS.imp (Hn Y W U) fun T σ H h=>?_;obtain⟨ι,S,ρ,rep,re,c⟩:=h;refine⟨ι,S,ρ,rep,re,ak (ai c) fun k Z S1 R e1 rep1 c1=>?_⟩;cases k with
 |true=>exact⟨Z,S1,ρ,rep1,re.later rep e1,c1⟩
 |false=>exact⟨Z,S1,ρ,rep1,re.later rep e1,c1⟩
theorem aW(i:Nat)(Y:X.N.Nodup)(Z:X.N[i]? =some x:=by rfl)(W:Loc X.env.scope x:=by first|exact Or.inl rfl|exact Or.inr rfl)(U:X.fn x=true\/X.env.scope.names.lookup x=some .local:=by first|exact .inl rfl|exact .inr rfl|assumption):
  SG X E (.Name x pos) (fun d ρ=>pure (ρ.set i (some d))):=by
 refine PG.imp (CC Y Z W U) fun v σ H Q h=>?_;obtain⟨ι,S,ρ,d,rep,re,r,c⟩:=h;exact ah c .refl rep _ (re.set r i)
def JG(K:W.Frag)(E:XD)(m:List D->aO->M aO):Ef:=fun vs σ H Q=>∃ ι S ρ ds,Rep K ι H S/\RelE K ι H ρ σ/\RelDs K ι H ds vs/\cont K E (m ds ρ) ι S H (fun ρ' ι' _ H'=>∀ σ',RelE K ι' H' ρ' σ'->Q σ' H')
def HQ(X:Cx)(E:XD)(ts:List Expr)(m:List D->aO->M aO):Prop:=zV X ts (JG X.K E m)
theorem zV.imp{X:Cx}{e:List Expr}{t t':Ef}(h:zV X e t)(k:∀ v σ H Q,t' v σ H Q->t v σ H Q):zV X e t':=fun pins s σ H v u Q I r hw=>h pins s σ H v u Q I r (k v σ H Q hw)
def eF:List D->aO->M aO:=fun ds ρ=>match ds with
 |[]=>pure ρ
 |_=>M.fail
def a9(g:mP)(gs:List D->aO->M aO):List D->aO->M aO:=fun ds ρ=>match ds with
 |d::r=>do let ρ1<-g d ρ;gs r ρ1
 |_=>M.fail
theorem fy:HQ X E [] eF:=by
 refine zV.imp CD fun vs σ H Q h=>?_;obtain⟨ι,S,ρ,ds,rep,re,r,c⟩:=h;cases ds with
 |nil=>exact⟨r.nil_inv,ah c .refl rep σ re⟩
 |cons d ds=>exact(ag c).elim
theorem bE(P:SG X E e g)(U:HQ X E es gs)(hs:(assignEach (e::es) X.env).map (·.2)=assign e X.env::(assignEach es X.env).map (·.2):=by rfl):HQ X E (e::es) (a9 g gs):=by
 refine zV.imp (zX P U hs) fun vs σ H Q h=>?_;obtain⟨ι,S,ρ,ds,rep,re,r,c⟩:=h;cases ds with
 |nil=>exact(ag c).elim
 |cons d ds=>
  obtain⟨v,ws,rfl,O,T⟩:=r.cons_inv;refine⟨v,ws,rfl,ι,S,ρ,d,rep,re,O,ak (ai c) fun Y W S1 N e1 rep1 c1 R Z=>?_⟩;exact⟨W,S1,Y,ds,rep1,Z,T.later rep e1,c1⟩
def fS(n:Nat)(gs:List D->aO->M aO):mP:=fun d ρ=>match d with
 | .tup ds=>if ds.length=n then gs ds ρ else M.fail
 |_=>M.fail
theorem jc{es:List Expr}{k:Nat}{n:Nat}{W:List D->aO->M aO}(U:X.calm=true)(h:HQ X E es W)(R:(assignEach es X.env).length=n:=by rfl)(Z:(assignEach es X.env).findIdx? (·.1)=none:=by rfl):
  SG X E (.Tuple es k pos) (fS n W):=by
 refine PG.imp (EY U h R Z) fun v σ H Q q=>?_;obtain⟨ι,S,ρ,d,rep,re,r,c⟩:=q;cases d with
 |tup ds=>
  obtain⟨a,vs,rfl,T,Y⟩:=r.tup_inv;dsimp only[fS]at c;split at c
  ·next hl=>exact⟨a,vs,rfl,la.of T,by rw[<-Y.length];exact hl,ι,S,ρ,ds,rep,re,Y,c⟩
  ·exact(ag c).elim
 |_=>exact(ag c).elim
theorem jP(Y:SE X E e me)(Q:SG X E tg g)(hs:swapsWithSole [tg] e pos.line X.env=pure false:=by rfl)(P:swappedStores [tg] e X.env=pure none:=by rfl)
  (R:(assignEach [tg] X.env).map (·.2)=[assign tg X.env]:=by rfl):SS X E (.Assign [tg] e pos) (fun ρ=>do let d<-me ρ;let ρ'<-g d ρ;pure (.nx ρ')):=by
 refine PS.imp (E6 Y Q hs P R) fun T σ H h=>?_;obtain⟨ι,S,ρ,rep,re,c⟩:=h;refine⟨ι,S,ρ,rep,re,ak (ai c) fun d Z S1 N e1 rep1 c1 v r=>?_⟩;exact⟨Z,S1,ρ,d,rep1,re.later rep e1,r,ak (ai c1) fun ρ' W S2 O e2 rep2 U=>ah U .refl rep2⟩
theorem ba(i:Nat)(U:X.N.Nodup)(Z:SE X E e me)(Y:X.N[i]? =some x:=by rfl)(R:Loc X.env.scope x:=by first|exact Or.inl rfl|exact Or.inr rfl)(hs:swapsWith e (some (.Name x pos')) pos.line X.env=pure false:=by rfl)
  (Q:X.fn x=true\/X.env.scope.names.lookup x=some .local:=by first|exact .inl rfl|exact .inr rfl|assumption):SS X E (.Assign [.Name x pos'] e pos) (fun ρ=>do let d<-me ρ;pure (.nx (ρ.set i (some d)))):=by
 refine PS.imp (zY U Y R Z hs Q) fun T σ H h=>?_;obtain⟨ι,S,ρ,rep,re,c⟩:=h;refine⟨ι,S,ρ,rep,re,ak (ai c) fun d W S1 P e1 rep1 c1 v r=>?_⟩;exact ah c1 .refl rep1 _ ((re.later rep e1).set r i)
theorem FB(i j:Nat){kt k2 pt2}(W:X.calm=true)(L:X.N.Nodup)(R:SA X E [a,b] ms)(U:X.N[i]? =some x:=by rfl)(Q:X.N[j]? =some y:=by rfl)(Z:i≠j:=by decide)
  (K:X.env.scope.names.lookup x=some .local:=by rfl) (P:X.env.scope.names.lookup y=some .local:=by rfl)
  (J:swappedStores [.Tuple [.Name x px,.Name y py] kt pt] (.Tuple [a,b] k2 pt2) X.env=pure (some [x,y]):=by rfl)
  (hs:swapsWithSole [.Tuple [.Name x px,.Name y py] kt pt] (.Tuple [a,b] k2 pt2) pos.line X.env=pure false:=by rfl):
  SS X E (.Assign [.Tuple [.Name x px,.Name y py] kt pt] (.Tuple [a,b] k2 pt2) pos) (fun ρ=>do let ds<-ms ρ;match ds with|[d1,d2]=>pure (.nx ((ρ.set i (some d1)).set j (some d2)))|_=>M.fail):=by
 refine PS.imp (E7 W L U Q Z K P R J hs) fun T σ H h=>?_;obtain⟨ι,S,ρ,rep,re,c⟩:=h;refine⟨ι,S,ρ,rep,re,ak (ai c) fun ds G S1 B e1 rep1 c1 vs r=>?_⟩
 match ds,r,c1 with
 |[d1,d2],r,c1=>
  obtain⟨v1,ws,rfl,I,F⟩:=r.cons_inv;obtain⟨v2,O,rfl,C,Y⟩:=F.cons_inv;cases Y.nil_inv;exact⟨v1,v2,rfl,ah c1 .refl rep1 _ (((re.later rep e1).set I i).set C j)⟩
 |[],r,c1=>exact(ag c1).elim
 |[d],r,c1=>exact(ag c1).elim
 |d1::d2::d3::r',r,c1=>exact(ag c1).elim
def JH(K:W.Frag)(E:XD)(f:D->D->D->M Unit)(r:EX):Prop:=
 ∀ ι S H d1 d2 d3 v1 v2 v3 Q,Rep K ι H S->RelD K ι H d1 v1->RelD K ι H d2 v2->RelD K ι H d3 v3->cont K E (f d1 d2 d3) ι S H (fun _ _ _ H'=>Q H')->r v1 v2 v3 H Q
def jQ:D->D->D->M Unit:=fun o i v=>match o,i with
 | .lst k,.int j=>do
  let xs<-getL k
  match yt xs.length j with
  |some at'=>do let _<-mq k (xs.set at' v);pure ()
  |none=>M.fail
 |_,_=>M.fail
inductive Chk where
 |none|some (k:Nat)|two (k j:Nat) (xs ys:List D)
structure Iter where
 items:List D
 chk:Chk
def Iter.okS(it:Iter)(S:aB):Prop:=match it.chk with
 | .none=>True
 | .some k=>S[k]? = .some it.items
 | .two k j xs ys=>S[k]? = .some xs/\S[j]? = .some ys
open Classical in
def gH(it:Iter):M Unit:=fun S=>if it.okS S then some (.ok (),S)else none
def jd(K:W.Frag)(it:Iter)(J:It)(ι:List Addr)(H:Hp):Prop:=
 ∀ ι2 H2 S2,ExtN ι H ι2 H2->Rep K ι2 H2 S2->it.okS S2->∀ i,(∀ d,it.items[i]? =some d->J.go i H2/\∀ x H3,J.yld i H2 x H3->Ext ι2 H2 ι2 H3/\Rep K ι2 H3 S2/\RelD K ι2 H3 d x)/\(it.items.length<=i->J.stop i H2)
def G0(K:W.Frag)(E:XD)(mi:aO->M Iter):TI:=fun σ H R=>∃ ι S ρ,Rep K ι H S/\RelE K ι H ρ σ/\cont K E (mi ρ) ι S H (fun it ι' _ H'=>∀ J,jd K it J ι' H'->R J H')
def SI(X:Cx)(E:XD)(tg iter:Expr)(mi:aO->M Iter):Prop:=PI X tg iter (G0 X.K E mi)
def gz(it:Iter)(g:mP)(b:cW):List D->aO->M Out
 |[],ρ=>do gH it;pure (.nx ρ)
 |d::ds,ρ=>do
  gH it
  let ρ1<-g d ρ;let o<-b ρ1
  match o with
  | .nx ρ'=>gz it g b ds ρ'
  | .ct ρ'=>gz it g b ds ρ'
  | .bk ρ'=>pure (.nx ρ')
  | .ret r=>pure (.ret r)
theorem iU{K:W.Frag}{ι:List Addr}{S:aB}{H:Hp}{Y:Type}{it:Iter}{f:Unit->M Y}{Q:Y->List Addr->aB->Hp->Prop}(h:cont K E (gH it>>=f) ι S H Q)(Z:Rep K ι H S):it.okS S/\cont K E (f ()) ι S H Q:=by
 obtain⟨r,U,e,k⟩:=ai h;unfold gH at e;split at e
 ·next ho=>cases e;exact⟨ho,k ι H .refl Z⟩
 ·cases e
theorem iH(l:PassesOwn (model X.prog X.w) X.A X.env X.xe)(k:X.calm=true)(j:SI X E tg iter mi)(hg:SG X E tg g)(hb:ua X E body b)
  (hs:∀ x,foldedSetIterable iter X.env x=pure x:=by intro _;rfl):SS X E (.For tg iter body [] pos) (fun ρ=>do let it<-mi ρ;gz it g b it.items ρ):=by
 refine PS.imp (Fb l k j hg hb hs) fun T σ H h=>?_;obtain⟨ι,S,ρ,rep,re,c⟩:=h;refine⟨ι,S,ρ,rep,re,ak (ai c) fun it U S1 C e1 rep1 c1 J p=>?_⟩;refine⟨fun i n N W=>∃ ι2 S2 ρ2,n=it.items.length - i/\i<=it.items.length/\Ext U C ι2 W/\Rep X.K ι2 W S2/\RelE X.K ι2 W ρ2 N/\cont X.K E (gz it g b (it.items.drop i) ρ2) ι2 S2 W (Fy X.K T),⟨_,U,S1,ρ,rfl,K5 _,.refl,rep1,re.later rep e1,c1⟩,?_⟩;rintro i n N W ⟨ι2,S2,ρ2,hn,hi',e2,rep2,re2,c2⟩;by_cases hlt:i<it.items.length
 ·have hd:it.items.drop i=it.items[i]::it.items.drop (i+1):=M0 hlt;rw[hd]at c2;have P:cont X.K E (do gH it;let ρ1<-g it.items[i] ρ2;let o<-b ρ1;match o with| .nx ρ'=>gz it g b (it.items.drop (i+1)) ρ'| .ct ρ'=>gz it g b (it.items.drop (i+1)) ρ'| .bk ρ'=>pure (.nx ρ')| .ret r=>pure (.ret r)) ι2 S2 W (Fy X.K T):=c2
  obtain⟨ok,F⟩:=iU P rep2;obtain⟨v,f⟩:=p ι2 W S2 e2.n rep2 ok i;obtain⟨go,a⟩:=v it.items[i] (KB hlt);refine .inr ⟨go,fun R Y=>∃ ι3 S3 ρ3,Ext U C ι3 Y/\Rep X.K ι3 Y S3/\RelE X.K ι3 Y ρ3 R/\cont X.K E (gz it g b (it.items.drop (i+1)) ρ3) ι3 S3 Y (Fy X.K T),?_,fun x H3 hy=>?_⟩
  ·rintro R Y ⟨ι3,S3,ρ3,e3,rep3,re3,y⟩;exact⟨_,by omega,ι3,S3,ρ3,rfl,hlt,e3,rep3,re3,y⟩
  ·obtain⟨e3,rep3,rd⟩:=a x H3 hy;refine⟨ι2,S2,ρ2,it.items[i],rep3,re2.later rep2 e3,rd,ak (ai (fV F e3)) fun u z S4 H4 e4 I y b0 B=>?_⟩;refine⟨z,S4,u,I,B,ak (ai y) fun o Q q H5 e5 Z G=>?_⟩;have L:Ext U C Q H5:=e2.trans (e3.trans (e4.trans e5));cases o with
   |nx ρ'=>exact fun s O=>⟨Q,q,ρ',L,Z,O,G⟩
   |ct ρ'=>exact fun s O=>⟨Q,q,ρ',L,Z,O,G⟩
   |bk ρ'=>exact ah G .refl Z
   |ret d=>exact ah G .refl Z
 ·have hd:it.items.drop i=[]:=Nt (by omega)
  rw[hd]at c2;have P:cont X.K E (do gH it;pure (.nx ρ2)) ι2 S2 W (Fy X.K T):=c2
  obtain⟨ok,F⟩:=iU P rep2;exact .inl ⟨(p ι2 W S2 e2.n rep2 ok i).2 (by omega),ah F .refl rep2 N re2⟩
def jR(t:aO->M Bool)(b:cW):Nat->aO->M Out
 |0,_=>M.fail
 | k+1,ρ=>do
  let c<-t ρ
  if c=true then do
   let o<-b ρ
   match o with
   | .nx ρ'=>jR t b k ρ'
   | .ct ρ'=>jR t b k ρ'
   | .bk ρ'=>pure (.nx ρ')
   | .ret r=>pure (.ret r)
  else pure (.nx ρ)
theorem Aw(k:Nat)(F:PassesOwn (model X.prog X.w) X.A X.env X.xe)(G:SB X E e t)(B:ua X E body b):SS X E (.While e body [] pos) (fun ρ=>jR t b k ρ):=by
 refine PS.imp (zZ F G B) fun T σ H h=>?_;obtain⟨ι,S,ρ,rep,re,c⟩:=h;refine⟨fun n R O=>∃ ι2 S2 ρ2,Rep X.K ι2 O S2/\RelE X.K ι2 O ρ2 R/\cont X.K E (jR t b n ρ2) ι2 S2 O (Fy X.K T),⟨k,ι,S,ρ,rep,re,c⟩,?_⟩;rintro n R O ⟨ι2,S2,ρ2,rep2,re2,c2⟩;cases n with
 |zero=>exact(ag c2).elim
 | succ n=>
  refine⟨ι2,S2,ρ2,rep2,re2,ak (ai c2) fun k L C y e3 rep3 I=>?_⟩;cases k with
  |false=>exact ah I .refl rep3 R (re2.later rep2 e3)
  |true=>
   refine⟨fun W Y=>∃ ι2 S2 ρ2,Rep X.K ι2 Y S2/\RelE X.K ι2 Y ρ2 W/\cont X.K E (jR t b n ρ2) ι2 S2 Y (Fy X.K T),fun W Y h=>⟨n,MF _,h⟩,?_⟩;refine⟨L,C,ρ2,rep3,re2.later rep2 e3,ak (ai I) fun o Q J x z Z P=>?_⟩;cases o with
   |nx ρ'=>exact fun N U=>⟨Q,J,ρ',Z,U,P⟩
   |ct ρ'=>exact fun N U=>⟨Q,J,ρ',Z,U,P⟩
   |bk ρ'=>exact ah P .refl Z
   |ret d=>exact ah P .refl Z
end
def cQ(H:Hp)(p:Addr):Hp:=fun a=>if a=p then none else H a
theorem hide_ne{H:Hp}(h:a≠p):cQ H p a=H a:=if_neg h
theorem kd:cQ H p p=none:=if_pos rfl
theorem cH{H:Hp}(h:cQ H p a=some o):a≠p/\H a=some o:=by
 by_cases e:a=p
 ·rw[e,kd]at h;cases h
 ·rw[hide_ne e]at h;exact⟨e,h⟩
theorem ub{H:Hp}(h:H p=some o):upd (cQ H p) p o=H:=by
 funext a;by_cases e:a=p
 ·rw[e,aN,h]
 ·rw[aE e,hide_ne e]
theorem dX:cQ (upd H p o) p=cQ H p:=by
 funext a;by_cases e:a=p
 ·rw[e,kd,kd]
 ·rw[hide_ne e,hide_ne e,aE e]
theorem gY{H:Hp}(h:H p=none):cQ H p=H:=by
 funext a;by_cases e:a=p
 ·rw[e,kd,h]
 ·rw[hide_ne e]
section
variable {K:W.Frag}{ι ι':List Addr}{H H':Hp}{S:aB}{p:Addr}
mutual
theorem RelD.hide(Z:H p=some (.lst ws)):∀{d:D} {v:V},RelD K ι H d v->RelD K ι (cQ H p) d v
 |_,_,.non=>.non
 |_,_,.bl b=>.bl b
 |_,_,.int i=>.int i
 |_,_,.str x=>.str x
 |_,_,.tup h hs=>.tup (by rw[hide_ne (fun z=>by rw[z,Z]at h;cases h)];exact h) (RelDs.hide Z hs)
 |_,_,.lst h=>.lst h
 |_,_,.ro h hs=>.ro (h.imp (fun⟨o,h⟩=>⟨o,by rw[hide_ne (fun z=>by rw[z,Z]at h;cases h)];exact h⟩) fun z=>z) (RelDs.hide Z hs)
 |_,_,.emp h=>.emp (by rw[hide_ne (fun z=>by rw[z,Z]at h;cases h)];exact h)
 |_,_,.fn h hs=>.fn (by rw[hide_ne (fun z=>by rw[z,Z]at h;cases h)];exact h) (RelDs.hide Z hs)
 |_,_,.exc n h=>.exc n (by rw[hide_ne (fun z=>by rw[z,Z]at h;cases h)];exact h)
 |_,_,.excF n h h2 hn hs=>.excF n (by rw[hide_ne (fun z=>by rw[z,Z]at h;cases h)];exact h) (by rw[hide_ne (fun z=>by rw[z,Z]at h2;cases h2)];exact h2) hn (RelDs.hide Z hs)
 |_,_,.fz h hs=>.fz (by rw[hide_ne (fun z=>by rw[z,Z]at h;cases h)];exact h) (RelDs.hide Z hs)
theorem RelDs.hide(Z:H p=some (.lst ws)):∀{ds:List D} {vs:List V},RelDs K ι H ds vs->RelDs K ι (cQ H p) ds vs
 |_,_,.nil=>.nil
 |_,_,.cons h hs=>.cons (RelD.hide Z h) (RelDs.hide Z hs)
end
mutual
theorem RelD.unhide:∀{d:D} {v:V},RelD K ι (cQ H p) d v->RelD K ι H d v
 |_,_,.non=>.non
 |_,_,.bl b=>.bl b
 |_,_,.int i=>.int i
 |_,_,.str x=>.str x
 |_,_,.tup h hs=>.tup (cH h).2 (RelDs.unhide hs)
 |_,_,.lst h=>.lst h
 |_,_,.ro h hs=>.ro (h.imp (fun⟨o,h⟩=>⟨o,(cH h).2⟩) fun z=>z) (RelDs.unhide hs)
 |_,_,.emp h=>.emp (cH h).2
 |_,_,.fn h hs=>.fn (cH h).2 (RelDs.unhide hs)
 |_,_,.exc n h=>.exc n (cH h).2
 |_,_,.excF n h h2 hn hs=>.excF n (cH h).2 (cH h2).2 hn (RelDs.unhide hs)
 |_,_,.fz h hs=>.fz (cH h).2 (RelDs.unhide hs)
theorem RelDs.unhide:∀{ds:List D} {vs:List V},RelDs K ι (cQ H p) ds vs->RelDs K ι H ds vs
 |_,_,.nil=>.nil
 |_,_,.cons h hs=>.cons (RelD.unhide h) (RelDs.unhide hs)
end
theorem RelE.hide(Z:H p=some (.lst ws)):∀{ρ:aO} {σ:St},RelE K ι H ρ σ->RelE K ι (cQ H p) ρ σ
 |_,_,.nil=>.nil
 |_,_,.cons h t=>.cons (fun d z=>let ⟨v,e1,e2⟩:=h d z;⟨v,e1,e2.hide Z⟩) (RelE.hide Z t)
theorem RelE.unhide:∀{ρ:aO} {σ:St},RelE K ι (cQ H p) ρ σ->RelE K ι H ρ σ
 |_,_,.nil=>.nil
 |_,_,.cons h t=>.cons (fun d z=>let ⟨v,e1,e2⟩:=h d z;⟨v,e1,e2.unhide⟩) (RelE.unhide t)
theorem Rep.hide(Z:H p=some (.lst ws))(Y:p ∉ ι)(r:Rep K ι H S):Rep K ι (cQ H p) S:=
 ⟨r.nd,r.len,fun k a xs e1 e2=>let ⟨vs,h1,h2⟩:=r.get k a xs e1 e2;⟨vs,by rw[hide_ne (fun z=>Y (by rw[<-z];exact Le e1))];exact h1,h2.hide Z⟩,r.tab.mono fun b o h n=>by rw[hide_ne (fun z=>by subst z;rw[h]at Z;exact n ws (K6 Z))];exact h⟩
theorem Rep.unhide(r:Rep K ι (cQ H p) S):Rep K ι H S:=
 ⟨r.nd,r.len,fun k a xs e1 e2=>let ⟨vs,h1,h2⟩:=r.get k a xs e1 e2;⟨vs,(cH h1).2,h2.unhide⟩,r.tab.mono fun b o h _=>(cH h).2⟩
theorem Ext.hide(e:Ext ι H ι' H'):Ext ι (cQ H p) ι' (cQ H' p):=
 ⟨e.ids,fun a o h n t=>by
  obtain⟨Y,Z⟩:=cH h;obtain⟨U,X⟩:=e.oth a o Z n t;exact⟨by rw[hide_ne Y];exact U,X⟩⟩
theorem Ext.unhide(e:Ext ι H ι' (cQ H' p)):Ext ι H ι' H':=
 ⟨e.ids,fun a o h n t=>by
  obtain⟨Y,Z⟩:=e.oth a o h n t;exact⟨(cH Y).2,Z⟩⟩
theorem fW{E:XD}{U:Type}{c:M U}{X:List V}{Q:U->List Addr->aB->Hp->Prop}(h:cont K cA c ι S (cQ H p) Q)(R:H p=some (.lst X))(P:p ∉ ι):
  cont K E c ι S H (fun a ι' Z H'=>H' p=some (.lst X)/\p ∉ ι'/\Q a ι' Z (cQ H' p)):=by
 obtain⟨r,Z,e,k⟩:=h;refine⟨r,Z,e,fun ι' H' x rep=>?_⟩;obtain⟨T,Y⟩:=x.oth p _ R P (by intro _ z;cases z)
 have:=k ι' (cQ H' p) x.hide (rep.hide T Y);cases r with
 |ok a=>exact⟨T,Y,this⟩
 |ex y=>exact this.elim
end
def jD(js:List (Option Nat))(ρ:aO):aO:=js.map fun o=>o.bind fun j=>(ρ[j]?).join
theorem RelE.blk{K:W.Frag}{ι:List Addr}{H:Hp}{ρ:aO}{X:St}(Y:RelE K ι H ρ X):∀ js:List (Option Nat),RelE K ι H (jD js ρ) (nu js X)
 |[]=>.nil
 |none::js=>.cons (fun d z=>by cases z) (RelE.blk Y js)
 | some j::js=>.cons (fun d z=>by
   have Z:(ρ[j]?).join=some d:=z;have:ρ[j]? =some (some d):=by
    cases q:ρ[j]? with
    |none=>rw[q]at Z;cases Z
    |some o=>rw[q]at Z;exact NF some Z
   obtain⟨v,e1,e2⟩:=Y.get this;refine⟨v,?_,e2⟩;show(X[j]?).join=some v;rw[e1];rfl) (RelE.blk Y js)
def dO(it:Iter)(g:mP)(t:aO->M Bool)(m:TM):List D->aO->M (List D)
 |[],ρ=>do gH it;pure []
 | d::ds,ρ=>do
  gH it
  let ρ1<-g d ρ;let b<-t ρ1
  if b=true then do
   let y<-m ρ1;let ys<-dO it g t m ds ρ1
   pure (y::ys)
  else dO it g t m ds ρ1
def je(it:Iter)(g:mP)(t:aO->M Bool)(m:TM)(ρ:aO):M (List D):=if it.items.length<=lim then dO it g t m it.items ρ else M.fail
def G1(X:Cx)(E:XD)(ifs:List Expr)(t:aO->M Bool):Prop:=Cr X ifs (yz X.K E t)
theorem ir:G1 X E [] (fun _=>pure true):=fun pins s σ H Q I h=>CT pins s σ H Q I (by
 obtain⟨ι,S,ρ,rep,re,c⟩:=h;exact ah c .refl rep)
theorem nH(h:SB X E c t):G1 X E [c] t:=CU h
section
variable {X:Cx}{scope:Scope}{Nc:List Str}{js:List (Option Nat)}{elt tg iter:Expr}{ifs:List Expr}{pos:Pos}{mi:aO->M Iter}{g:mP}{t:aO->M Bool}{m:TM}
theorem cM{Z Y W:Type}(c:M Z)(f:Z->M Y)(h:Y->M W):((c>>=f)>>=h)=(c>>=fun a=>f a>>=h):=by
 funext S;show M.bnd (M.bnd c f) h S=M.bnd c (fun a=>M.bnd (f a) h) S;unfold M.bnd;cases c S with
 |none=>rfl
 |some r=>
  obtain⟨r,U⟩:=r;cases r<;>rfl
theorem ay{Z Y:Type}(a:Z)(f:Z->M Y):(pure a>>=f)=f a:=rfl
theorem xa{Z Y:Type}{c:Prop} [Decidable c](x y:M Z)(f:Z->M Y):((if c then x else y)>>=f)=if c then x>>=f else y>>=f:=by split<;>rfl
theorem uc(h:tM X.K cA (fun ρ=>do let it<-mi ρ;let ys<-je it g t m (jD js ρ);bM ys) σ H Q):
  w5 (G0 X.K cA mi) js (Ct X.K cA g) (yz X.K cA t) (tM X.K cA m) σ H Q:=by
 obtain⟨ι,S,ρ,rep,re,c⟩:=h;refine⟨ι,S,ρ,rep,re,ak (ai c) fun it W S1 B e1 rep1 c1 J f p G=>?_⟩;have q:it.items.length<=lim/\cont X.K cA (dO it g t m it.items (jD js ρ)>>=fun ys=>bM ys) W S1 B (kH X.K Q):=by
  have U:cont X.K cA ((if it.items.length<=lim then dO it g t m it.items (jD js ρ)else M.fail)>>=fun ys=>bM ys) W S1 B (kH X.K Q):=c1;by_cases h:it.items.length<=lim
  ·rw[if_pos h]at U;exact⟨h,U⟩
  ·rw[if_neg h]at U;exact(ag (ai U)).elim
 obtain⟨hlen,c1⟩:=q;have o:RelE X.K W B (jD js ρ) (nu js σ):=(re.later rep e1).blk js;refine⟨fun i n w Y=>∃ ι2 S2 ρ2 xs vs,n=it.items.length - i/\i<=it.items.length/\Ext W B ι2 (cQ Y p)/\Rep X.K ι2 (cQ Y p) S2/\RelE X.K ι2 (cQ Y p) ρ2 w/\Y p=some (.lst vs)/\p ∉ ι2/\RelDs X.K ι2 (cQ Y p) xs vs/\xs.length<=i/\
  cont X.K cA (dO it g t m (it.items.drop i) ρ2>>=fun ys=>bM (xs++ys)) ι2 S2 (cQ Y p) (kH X.K Q),⟨_,W,S1,jD js ρ,[],[],rfl,K5 _,?_,?_,?_,aN,rep1.free G,.nil,K5 _,?_⟩,?_⟩
 ·rw[dX,gY G];exact .refl
 ·rw[dX,gY G];exact rep1
 ·rw[dX,gY G];exact o
 ·rw[dX,gY G];exact c1
 rintro i n w Y ⟨ι2,S2,ρ2,xs,vs,hn,hi',e2,rep2,re2,hpc,hpn,rx,hlim,c2⟩;by_cases hlt:i<it.items.length
 ·have hd:it.items.drop i=it.items[i]::it.items.drop (i+1):=M0 hlt;rw[hd]at c2;have O:cont X.K cA (gH it>>=fun _=>g it.items[i] ρ2>>=fun Z=>t Z>>=fun b=>if b=true then m Z>>=fun y=>dO it g t m (it.items.drop (i+1)) Z>>=fun ys=>bM (xs++y::ys)else dO it g t m (it.items.drop (i+1)) Z>>=fun ys=>bM (xs++ys)) ι2 S2 (cQ Y p) (kH X.K Q):=by
   have:(dO it g t m (it.items[i]::it.items.drop (i+1)) ρ2>>=fun ys=>bM (xs++ys))=(gH it>>=fun _=>g it.items[i] ρ2>>=fun Z=>t Z>>=fun b=>if b=true then m Z>>=fun y=>dO it g t m (it.items.drop (i+1)) Z>>=fun ys=>bM (xs++y::ys)else dO it g t m (it.items.drop (i+1)) Z>>=fun ys=>bM (xs++ys)):=by
    show((gH it>>=fun _=>g it.items[i] ρ2>>=fun Z=>t Z>>=fun b=>if b=true then m Z>>=fun y=>dO it g t m (it.items.drop (i+1)) Z>>=fun ys=>pure (y::ys)else dO it g t m (it.items.drop (i+1)) Z)>>=fun ys=>bM (xs++ys))=_;simp only[cM,xa,ay]
   rw[<-this];exact c2
  obtain⟨ok,u⟩:=iU O rep2;obtain⟨l,e⟩:=f ι2 Y S2 e2.unhide.n rep2.unhide ok i;obtain⟨go,d⟩:=l it.items[i] (KB hlt);refine .inr ⟨go,fun v P=>∃ ι3 S3 ρ3 xs3 vs3,Ext W B ι3 (cQ P p)/\Rep X.K ι3 (cQ P p) S3/\RelE X.K ι3 (cQ P p) ρ3 v/\P p=some (.lst vs3)/\p ∉ ι3/\RelDs X.K ι3 (cQ P p) xs3 vs3/\xs3.length<=i+1/\
   cont X.K cA (dO it g t m (it.items.drop (i+1)) ρ3>>=fun ys=>bM (xs3++ys)) ι3 S3 (cQ P p) (kH X.K Q),?_,fun x j hy=>?_⟩
  ·rintro v P ⟨ι3,S3,ρ3,xs3,vs3,h1,h2,h3,h4,h5,h6,h7,h8⟩;exact⟨_,by omega,ι3,S3,ρ3,xs3,vs3,rfl,hlt,h1,h2,h3,h4,h5,h6,h7,h8⟩
  ·obtain⟨e3,rep3,rd⟩:=d x j hy;obtain⟨r,_⟩:=e3.oth p _ hpc hpn (by intro _ z;cases z)
   have A:Ext ι2 (cQ Y p) ι2 (cQ j p):=e3.hide;have c4:=ai (fV u A);refine⟨ι2,S2,ρ2,it.items[i],rep3,re2.unhide.later rep2.unhide e3,rd,ak (fW (E:=cA) c4 r hpn) fun ρ4 ι4 S4 H4 e4 rep4 ⟨hp4,hn4,c5⟩ σ4 re4=>?_⟩;have k:Rep X.K ι4 (cQ H4 p) S4:=rep4.hide hp4 hn4;have s:Ext ι2 (cQ Y p) ι4 (cQ H4 p):=A.trans e4.hide;refine⟨ι4,S4,ρ4,rep4,re4,ak (fW (E:=cA) (ai c5) hp4 hn4) fun b ι5 S5 H5 e5 rep5 ⟨hp5,hn5,c6⟩=>?_⟩;have L:Rep X.K ι5 (cQ H5 p) S5:=rep5.hide hp5 hn5;have T:Ext ι2 (cQ Y p) ι5 (cQ H5 p):=s.trans e5.hide;have I:RelE X.K ι5 H5 ρ4 σ4:=re4.later rep4 e5;cases b with
   |false=>
    have R:cont X.K cA (dO it g t m (it.items.drop (i+1)) ρ4>>=fun ys=>bM (xs++ys)) ι5 S5 (cQ H5 p) (kH X.K Q):=c6;exact⟨ι5,S5,ρ4,xs,vs,e2.trans T,L,I.hide hp5,hp5,hn5,rx.later rep2 T,by omega,R⟩
   |true=>
    have R:cont X.K cA (m ρ4>>=fun y=>dO it g t m (it.items.drop (i+1)) ρ4>>=fun ys=>bM (xs++y::ys)) ι5 S5 (cQ H5 p) (kH X.K Q):=c6;refine⟨ι5,S5,ρ4,rep5,I,ak (fW (E:=cA) (ai R) hp5 hn5) fun y ι6 S6 H6 e6 rep6 ⟨hp6,hn6,c7⟩ yv ry=>?_⟩;have C:Ext ι2 (cQ Y p) ι6 (cQ H6 p):=T.trans e6.hide;have N:Rep X.K ι6 (cQ H6 p) S6:=rep6.hide hp6 hn6;have F:=rx.later rep2 C;have a:vs.length<sizeLine:=by rw[<-F.length];exact Nat.lt_of_le_of_lt (by omega) Au
    refine⟨vs,hp6,a,ι6,S6,ρ4,xs++[y],vs++[yv],?_⟩;rw[dX];refine⟨e2.trans C,N,(I.later rep5 e6).hide hp6,aN,hn6,F.append (.cons (ry.hide hp6) .nil),by simp;omega,by simpa using c7⟩
 ·have hd:it.items.drop i=[]:=Nt (by omega)
  rw[hd]at c2;have O:cont X.K cA (gH it>>=fun _=>bM (xs++[])) ι2 S2 (cQ Y p) (kH X.K Q):=by
   have:(dO it g t m [] ρ2>>=fun ys=>bM (xs++ys))=(gH it>>=fun _=>bM (xs++[])):=by
    show((gH it>>=fun _=>pure [])>>=fun ys=>bM (xs++ys))=_;simp only[cM,ay]
   rw[<-this];exact c2
  obtain⟨ok,u⟩:=iU O rep2;rw[Lg]at u;refine .inl ⟨(f ι2 Y S2 e2.unhide.n rep2.unhide ok i).2 (by omega),?_⟩
  have:=(bt u rep2 rx).2 p kd;rw[ub hpc]at this;exact this
theorem jf(c:CompScope X scope Nc js)(Y:X.calm=true)(W:SI X cA tg iter mi)
  (Z:∀ C ex s H,SG (aZ X scope Nc C ex s H) cA tg g/\G1 (aZ X scope Nc C ex s H) cA ifs t/\SE (aZ X scope Nc C ex s H) cA elt m)
  (hs:∀ x,foldedSetIterable iter X.env x=pure x:=by intro _;rfl):SE X cA (.ListComp elt [⟨tg,iter,ifs,0⟩] scope pos) (fun ρ=>do let it<-mi ρ;let ys<-je it g t m (jD js ρ);bM ys):=
 PE.imp (CV (g:=Ct X.K cA g) (tt:=yz X.K cA t) (te:=tM X.K cA m) c Y W Z hs) fun _ _ _ q=>uc q
theorem vL(i:Nat)(P:X.N.Nodup)(c:CompScope X scope Nc js)(U:X.calm=true)(R:SI X cA tg iter mi)
  (Y:∀ C ex s H,SG (aZ X scope Nc C ex s H) cA tg g/\G1 (aZ X scope Nc C ex s H) cA ifs t/\SE (aZ X scope Nc C ex s H) cA elt m)
  (W:X.N[i]? =some x:=by rfl) (O:Loc X.env.scope x:=by first|exact Or.inl rfl|exact Or.inr rfl)
  (Z:swapsWith (.ListComp elt [⟨tg,iter,ifs,0⟩] scope cpos) (some (.Name x pos')) pos.line X.env=pure true:=by rfl)
  (L:X.fn x=true\/X.env.scope.names.lookup x=some .local:=by first|exact .inl rfl|exact .inr rfl|assumption)
  (hs:∀ x,foldedSetIterable iter X.env x=pure x:=by intro _;rfl):SS X cA (.Assign [.Name x pos'] (.ListComp elt [⟨tg,iter,ifs,0⟩] scope cpos) pos)
   (fun ρ=>do let d<-(do let it<-mi ρ;let ys<-je it g t m (jD js ρ);bM ys);pure (.nx (ρ.set i (some d)))):=by
 refine PS.imp (vJ (g:=Ct X.K cA g) (tt:=yz X.K cA t) (te:=tM X.K cA m) P W O c U R Y Z L hs) fun T σ H h=>?_;obtain⟨ι,S,ρ,rep,re,c⟩:=h;refine uc ⟨ι,S,ρ,rep,re,ak (ai c) fun d Q S1 J e1 rep1 c1 v r=>?_⟩;exact ah c1 .refl rep1 _ ((re.later rep e1).set r i)
end
section
variable {P:Program}{w:World}{K:W.Frag}{mg:Str->Option Value}{base:Heap}
def outD:Out->M D
 | .nx _=>pure .non
 | .ret d=>pure d
 |_=>M.fail
def nI(N n:Nat)(m:cW):List D->M D:=fun ds=>if ds.length=n then do let o<-m (ds.map some++List.replicate (N - n) none);outD o else M.fail
end
def qi(f:Int->Int->M D):D->D->M D
 | .int i,.int j=>f i j
 |_,_=>M.fail
theorem ke{K:W.Frag}{E:XD}{g:Int->Int->V}{f:Int->Int->D}(U:∀ ι H i j,RelD K ι H (f i j) (g i j)):tU K E (qi fun i j=>pure (f i j)) (Cp g):=by
 intro ι S H X Z v1 v2 Q rep T Y c;cases X<;>cases Z<;>first
  |exact(ag c).elim
  |exact⟨_,_,T.int_inv,Y.int_inv,ah c .refl rep _ (U _ _ _ _)⟩
theorem lu{K:W.Frag}{E:XD}{C:Int->Int->Prop} [∀ i j,Decidable (C i j)]{g:Int->Int->V}{f:Int->Int->D}(T:∀ ι H i j,RelD K ι H (f i j) (g i j)):tU K E (qi fun i j=>if C i j then pure (f i j)else M.fail) (rI C g):=by
 intro ι S H U Y v1 v2 Q rep R X c;cases U<;>cases Y<;>first
  |exact(ag c).elim
  | (next i j=>
    have Z:cont K E (if C i j then pure (f i j)else M.fail) ι S H (kH K Q):=c;by_cases h:C i j
    ·rw[if_pos h]at Z;exact⟨_,_,R.int_inv,X.int_inv,h,ah Z .refl rep _ (T _ _ _ _)⟩
    ·rw[if_neg h]at Z;exact(ag Z).elim)
def lA:D->D->M D:=qi fun i j=>pure (.int (i - j))
instance:∀ i j,Decidable (vy i j):=fun i j=>inferInstanceAs (Decidable (_\/_))
instance:∀ i j,Decidable (Aa i j):=fun i j=>inferInstanceAs (Decidable (_/\_))
instance:∀ i j,Decidable (CG i j):=fun i j=>inferInstanceAs (Decidable (_/\_))
def sg:D->D->M D:=qi fun i j=>if vy i j then pure (.int (i*j))else M.fail
def xb:D->D->M D:=qi fun i j=>if Aa i j then pure (.int (i / j))else M.fail
def sh:D->D->M D:=qi fun i j=>if 0<j then pure (.int (i % j))else M.fail
def Ax:D->D->M D:=qi fun i j=>if CG i j then pure (.int (i ^ j.toNat))else M.fail
def bO:D->D->M D
 | .int i,.int j=>pure (.int (i+j))
 | .tup xs,.tup ys=>cf (xs++ys)
 | .lst a,.lst b=>do let xs<-getL a;let ys<-getL b;bM (xs++ys)
 | .lst a,.fz ys=>do let xs<-getL a;bM (xs++ys)
 | .fz xs,.lst b=>do let ys<-getL b;bM (xs++ys)
 | .fz xs,.fz ys=>bM (xs++ys)
 |_,_=>M.fail
def FC:D->D->M D:=qi fun i j=>pure (.bl (decide (i<=j)))
def FD:D->D->M D:=qi fun i j=>pure (.bl (decide (j<i)))
def JI:D->D->M D:=qi fun i j=>pure (.bl (decide (j<=i)))
section
variable {X:Cx}{E:XD}{a b e c:Expr}{m n l:TM}{pos:Pos}
theorem oz(Z:SE X E a m)(Y:SE X E b n):SE X E (.BinOp a .Sub b pos) (fun ρ=>do let x<-m ρ;let y<-n ρ;lA x y):=qK Fe (ke fun _ _ _ _=>.int _) Z Y
theorem oA(Z:SE X E a m)(Y:SE X E b n):SE X E (.BinOp a .Mult b pos) (fun ρ=>do let x<-m ρ;let y<-n ρ;sg x y):=qK Ff (lu fun _ _ _ _=>.int _) Z Y
theorem xc(Z:SE X E a m)(Y:SE X E b n):SE X E (.BinOp a .FloorDiv b pos) (fun ρ=>do let x<-m ρ;let y<-n ρ;xb x y):=qK CH (lu fun _ _ _ _=>.int _) Z Y
theorem mr(Z:SE X E a m)(Y:SE X E b n):SE X E (.BinOp a .Mod b pos) (fun ρ=>do let x<-m ρ;let y<-n ρ;sh x y):=qK Fg (lu (C:=fun _ j=>0<j) fun _ _ _ _=>.int _) Z Y
theorem Ay(Z:SE X E a m)(Y:SE X E b n):SE X E (.BinOp a .Pow b pos) (fun ρ=>do let x<-m ρ;let y<-n ρ;Ax x y):=qK Fh (lu fun _ _ _ _=>.int _) Z Y
theorem Az:i6 X (binaryOp .Add) (fun x y H Q=>∃ a b ys,x= .ref a/\y= .ref b/\la X.K H a []/\la X.K H b ys/\Q (.ref b) H):=by
 intro pins s σ H x y v u Q I B G h;obtain⟨a,b,ys,rfl,rfl,N,A,q⟩:=h;cases B;cases G;obtain⟨its,C,J,_⟩:=I.tuple N;obtain⟨W,z,L,_⟩:=I.tuple A;cases C;obtain⟨⟨cls,dd,data,F⟩,R,S,n,hd⟩:=id J;obtain⟨⟨P,U,data2,T⟩,Z,Y,O,hd2⟩:=id L;simp only at S hd Y hd2;subst S hd Y hd2;exact concat_meets ⟨_,R,rfl⟩ ⟨_,Z,rfl⟩ Ox seq_tuple_add Nr Nh (M9 _ _)
  (tuple_addW0 a b #[] W.toArray n O dd U F T (by simp)) ⟨R,Z,⟨.ref b,H,I,rfl,q⟩⟩
theorem Inv.lstR{X:Cx}{Z:List (Addr×Obj)}{W:L2.St}{H:Hp}{s:Shared}{l:Addr}{xs:List V}(I:L2.Inv X Z W H s)(Y:Rd H l (.lst xs)):xs.length<=sizeLine/\∃(its:List Value) (n:Nat),bo xs its/\xs.length=its.length/\s.heap.get? l=some {cls:=.type "list",data:=.seq its.toArray n}:=by
 obtain⟨z,its,n,r,e⟩:=Y.ok I.hok;exact⟨z,its,n,r,r.length,e⟩
def HR:R2:=fun x y H Q=>∃ l b xs zs,x= .ref l/\y= .ref b/\Rd H l (.lst xs)/\Rd H b (.lst zs)/\xs.length+zs.length<=sizeLine/\∀ p,H p=none->Q (.ref p) (upd H p (.lst (xs++zs)))
theorem C3:i6 X (binaryOp .Add) HR:=by
 intro pins s σ H x y v u Q I R O h;obtain⟨l,b,xs,zs,rfl,rfl,Y,W,J,q⟩:=h;cases R;cases O;obtain⟨z,its,n,r,K,e⟩:=Inv.lstR I Y;obtain⟨N,Z,L,U,S,e2⟩:=Inv.lstR I W;refine PySem.P.add_list e e2 ?_ (by rw[KN,KN];omega)
 have T:its.toArray++Z.toArray=(its++Z).toArray:=by simp
 rw[T];exact⟨.ref _,_,I.lnew (t':=s.toks) (r.append U) (by rw[KD];omega),rfl,q _ I.fresh⟩
theorem bW(G:SE X E a m)(B:SE X E b n):SE X E (.BinOp a .Add b pos) (fun ρ=>do let x<-m ρ;let y<-n ρ;bO x y):=by
 refine qK (Fd.or (CO.or (Az.or C3))) ?_ G B;intro ι S H C F v1 v2 Q rep P O c;cases C<;>cases F<;>first
  |exact(ag c).elim
  |exact .inl ⟨_,_,P.int_inv,O.int_inv,ah c .refl rep _ (.int _)⟩
  | (next xs ys=>
    obtain⟨p,vs,rfl,U,N⟩:=P.tup_inv;obtain⟨q,ws,rfl,W,J⟩:=O.tup_inv;obtain⟨Y,T⟩:=gW c rep (N.append J);rw[KD]at Y;cases vs with
    |nil=>
     refine .inr (.inr (.inl ⟨p,q,ws,rfl,rfl,.of U,.of W,?_⟩));exact i9 c rep W (N.append J)
    |cons v vs=>
     refine .inr (.inl ⟨p,q,v::vs,ws,rfl,rfl,.of U,.of W,by simp,KP Y gy,fun z=>?_,fun _=>T⟩)
     subst z;have:=N.append J;rw[Lg]at this;exact i9 c rep U this)
  | (next j k=>
    obtain⟨p,rfl,U⟩:=P.lst_inv;obtain⟨q,rfl,W⟩:=O.lst_inv;obtain⟨ds,vs,_,L,R,c1⟩:=bg c rep U;obtain⟨es,ws,_,hw,Z,K⟩:=bg c1 rep W;obtain⟨Y,T⟩:=bt K rep (R.append Z);rw[KD]at Y;exact .inr (.inr (.inr ⟨p,q,vs,ws,rfl,rfl,.inl L,.inl hw,KP Y gy,T⟩)))
  | (next j ys=>
    obtain⟨p,rfl,U⟩:=P.lst_inv;obtain⟨q,o2,ws,rfl,W,Z⟩:=O.fz_inv;obtain⟨ds,vs,_,L,R,c1⟩:=bg c rep U;obtain⟨Y,T⟩:=bt c1 rep (R.append Z);rw[KD]at Y;exact .inr (.inr (.inr ⟨p,q,vs,ws,rfl,rfl,.inl L,.inr ⟨o2,W⟩,KP Y gy,T⟩)))
  | (next xs k=>
    obtain⟨p,I,vs,rfl,U,R⟩:=P.fz_inv;obtain⟨q,rfl,W⟩:=O.lst_inv;obtain⟨es,ws,_,hw,Z,K⟩:=bg c rep W;obtain⟨Y,T⟩:=bt K rep (R.append Z);rw[KD]at Y;exact .inr (.inr (.inr ⟨p,q,vs,ws,rfl,rfl,.inr ⟨I,U⟩,.inl hw,KP Y gy,T⟩)))
  | (next xs ys=>
    obtain⟨p,I,vs,rfl,U,R⟩:=P.fz_inv;obtain⟨q,o2,ws,rfl,W,Z⟩:=O.fz_inv;obtain⟨Y,T⟩:=bt c rep (R.append Z);rw[KD]at Y;exact .inr (.inr (.inr ⟨p,q,vs,ws,rfl,rfl,.inr ⟨I,U⟩,.inr ⟨o2,W⟩,KP Y gy,T⟩)))
theorem AA(Z:SE X E a m)(Y:SE X E b n):SB X E (.Compare a [.Gt] [b] pos) (fun ρ=>do let z<-(do let x<-m ρ;let y<-n ρ;FD x y);kz z):=kJ Hz (ke fun _ _ _ _=>.bl _) Z Y
theorem HS(Z:SE X E a m)(Y:SE X E b n):SB X E (.Compare a [.GtE] [b] pos) (fun ρ=>do let z<-(do let x<-m ρ;let y<-n ρ;JI x y);kz z):=kJ HA (ke fun _ _ _ _=>.bl _) Z Y
def intsOf:List D->Option (List Int)
 |[]=>some []
 | .int i::r=>(intsOf r).map (i::·)
 |_=>none
theorem gZ{K:W.Frag}{ι:List Addr}{H:Hp}:∀{ds:List D} {vs:List V} {ns:List Int},RelDs K ι H ds vs->intsOf ds=some ns->vs=ns.map V.int
 |[],vs,ns,h,e=>by cases e;rw[h.nil_inv];rfl
 | .int i::ds,vs,ns,h,e=>by
  obtain⟨v,ws,rfl,Z,Y⟩:=h.cons_inv;cases q:intsOf ds with
  |none=>simp[intsOf,q]at e
  |some ks=>
   simp[intsOf,q]at e;subst e;rw[Z.int_inv,gZ Y q];rfl
 | .non::_,_,_,_,e=>by cases e
 | .bl _::_,_,_,_,e=>by cases e
 | .str _::_,_,_,_,e=>by cases e
 | .tup _::_,_,_,_,e=>by cases e
 | .lst _::_,_,_,_,e=>by cases e
 | .ro _::_,_,_,_,e=>by cases e
 | .fz _::_,_,_,_,e=>by cases e
 | .emp::_,_,_,_,e=>by cases e
def kX:D->D->M D
 | .int i,.int j=>pure (.bl (decide (i<j)))
 | .tup xs,.tup ys=>match intsOf xs,intsOf ys with
  |some ns,some ms=>pure (.bl (HT.lexLt ns ms))
  |_,_=>M.fail
 |_,_=>M.fail
theorem vM:tU X.K E kX (fun x y H Q=>Cp (fun i j=>.bl (decide (i<j))) x y H Q\/HE X.K x y H Q):=by
 intro ι S H P U v1 v2 Q rep Y Z c;cases P<;>cases U<;>first
  |exact(ag c).elim
  |exact .inl ⟨_,_,Y.int_inv,Z.int_inv,ah c .refl rep _ (.bl _)⟩
  | (next xs ys=>
    obtain⟨p,vs,rfl,O,T⟩:=Y.tup_inv;obtain⟨q,ws,rfl,W,R⟩:=Z.tup_inv;dsimp only[kX]at c;split at c
    ·next ns ms e1 e2=>
     refine .inr ⟨p,q,ns,ms,rfl,rfl,.of (by rw[<-gZ T e1];exact O),.of (by rw[<-gZ R e2];exact W),ah c .refl rep _ (.bl _)⟩
    ·exact(ag c).elim)
theorem Ej(Y:X.A.units<cLine)(Z:SE X E a m)(W:SE X E b n):SE X E (.Compare a [.Lt] [b] pos) (fun ρ=>do let x<-m ρ;let y<-n ρ;kX x y):=vK (Ab.or (vE Y)) vM Z W
theorem mR(Y:X.A.units<cLine)(Z:SE X E a m)(W:SE X E b n):SB X E (.Compare a [.Lt] [b] pos) (fun ρ=>do let z<-(do let x<-m ρ;let y<-n ρ;kX x y);kz z):=kJ (Ab.or (vE Y)) vM Z W
theorem ud(t:tU X.K E f r)(u:tU X.K E g r')
  (h:tM X.K E (fun ρ=>do let x<-m ρ;let y<-n ρ;let z<-f x y;let k<-kz z;if k=true then do let w<-l ρ;g y w else pure (.bl false)) σ H Q):vz r r' (tM X.K E m) (tM X.K E n) (tM X.K E l) σ H Q:=by
 obtain⟨ι,S,ρ,rep,re,c⟩:=h;refine⟨ι,S,ρ,rep,re,ak (ai c) fun x U S1 q e1 rep1 c1 v1 I=>?_⟩;refine⟨U,S1,ρ,rep1,re.later rep e1,ak (ai c1) fun y Y S2 N e2 rep2 B v2 R=>?_⟩;refine t Y S2 N x y v1 v2 _ rep2 (I.later rep1 e2) R (ak (ai B) fun z W G p e3 rep3 L s v=>?_);obtain⟨k,rfl,rfl,P⟩:=nG rep3 v L;refine⟨k,rfl,?_⟩;cases k with
 |true=>
  exact⟨W,G,ρ,rep3,((re.later rep e1).later rep1 e2).later rep2 e3,ak (ai P) fun w T J A F Z C v4 O=>u T J A y w v2 v4 Q Z ((R.later rep2 e3).later rep3 F) O C⟩
 |false=>exact ah P .refl rep3 _ (.bl false)
theorem AB(h:i6 X (compareOp op) r)(h':i6 X (compareOp op') r')(T:tU X.K E f r)(U:tU X.K E g r')(W:SE X E a m)(S:SE X E b n)(Y:SE X E c l)
  (Z:lastMarks [op,op'] [b,c]=false:=by with_unfolding_all rfl):
  SE X E (.Compare a [op,op'] [b,c] pos) (fun ρ=>do let x<-m ρ;let y<-n ρ;let z<-f x y;let k<-kz z;if k=true then do let w<-l ρ;g y w else pure (.bl false)):=
 PE.imp (Ad h h' W S Y Z) fun _ _ _ q=>ud T U q
theorem AC(h:i6 X (compareOp op) r)(h':i6 X (compareOp op') r')(P:tU X.K E f r)(T:tU X.K E g r')(U:SE X E a m)(L:SE X E b n)(Y:SE X E c l)
  (Z:lastMarks [op,op'] [b,c]=false:=by with_unfolding_all rfl):
  SB X E (.Compare a [op,op'] [b,c] pos) (fun ρ=>do let v<-(do let x<-m ρ;let y<-n ρ;let z<-f x y;let k<-kz z;if k=true then do let w<-l ρ;g y w else pure (.bl false));kz v):=
 PT.imp (Ae h h' U L Y Z) fun σ H Q q=>by
  obtain⟨ι,S,ρ,rep,re,c⟩:=q;refine ud P T (Q:=fun x R=>∃ k,x= .bl k/\Q k R) ⟨ι,S,ρ,rep,re,ak (ai c) fun x N S1 J e1 rep1 c1 v1 O=>?_⟩;obtain⟨k,rfl,rfl,W⟩:=ou rep1 O c1;exact⟨k,rfl,W⟩
def bz:D->D->M D
 | .lst k,.int i=>do
  let xs<-getL k
  match jL xs i with
  |some d=>pure d
  |none=>M.fail
 | .tup xs,.int i=>match jL xs i with
  |some d=>pure d
  |none=>M.fail
 | .ro xs,.int i=>match jL xs i with
  |some d=>pure d
  |none=>M.fail
 | .fz xs,.int i=>match jL xs i with
  |some d=>pure d
  |none=>M.fail
 |_,_=>M.fail
theorem nJ{K:W.Frag}{ι:List Addr}{H:Hp}{ds:List D}{vs:List V}{i:Int}{d:D}(h:RelDs K ι H ds vs)(e:jL ds i=some d):∃ v,jL vs i=some v/\RelD K ι H d v:=by
 unfold jL at e ⊢;rw[h.length]at e;cases q:yt vs.length i with
 |none=>rw[q]at e;cases e
 |some j=>
  rw[q]at e;exact h.get' e
theorem FE:tU X.K E bz (J4 X.K):=by
 intro ι S H P R v1 v2 Q rep U W c;cases P<;>cases R<;>first
  |exact(ag c).elim
  | (next k i=>
    obtain⟨p,rfl,Y⟩:=U.lst_inv;obtain⟨ds,vs,_,T,Z,c1⟩:=bg c rep Y;cases q:jL ds i with
    |none=>rw[q]at c1;exact(ag c1).elim
    |some d=>
     rw[q]at c1;obtain⟨v,e1,e2⟩:=nJ Z q;exact .inl ⟨p,vs,i,v,rfl,W.int_inv,.of T,e1,ah c1 .refl rep _ e2⟩)
  | (next ds i=>
    obtain⟨p,vs,rfl,Y,Z⟩:=U.tup_inv;dsimp only[bz]at c;cases q:jL ds i with
    |none=>rw[q]at c;exact(ag c).elim
    |some d=>
     rw[q]at c;obtain⟨v,e1,e2⟩:=nJ Z q;exact .inr (.inl ⟨p,vs,i,v,rfl,W.int_inv,.of Y,e1,ah c .refl rep _ e2⟩))
  | (next ds i=>
    obtain⟨p,vs,rfl,Y,Z⟩:=U.ro_inv;dsimp only[bz]at c;cases q:jL ds i with
    |none=>rw[q]at c;exact(ag c).elim
    |some d=>
     rw[q]at c;obtain⟨v,e1,e2⟩:=nJ Z q;exact .inl ⟨p,vs,i,v,rfl,W.int_inv,Y.sq,e1,ah c .refl rep _ e2⟩)
  | (next ds i=>
    obtain⟨p,o,vs,rfl,Y,Z⟩:=U.fz_inv;dsimp only[bz]at c;cases q:jL ds i with
    |none=>rw[q]at c;exact(ag c).elim
    |some d=>
     rw[q]at c;obtain⟨v,e1,e2⟩:=nJ Z q;exact .inl ⟨p,vs,i,v,rfl,W.int_inv,.inl (.inr ⟨o,Y⟩),e1,ah c .refl rep _ e2⟩)
theorem aJ(Y:SE X E a m)(Z:SE X E b n)(hs:rQ b:=by intro _ _;rfl):SE X E (.Subscript a b pos) (fun ρ=>do let x<-m ρ;let y<-n ρ;bz x y):=HL Ft FE Y Z hs
end
mutual
inductive ReadsV(H:Hp):V->PyData->Prop where
 |non:ReadsV H .non .none
 |bl (b:Bool):ReadsV H (.bl b) (.bool b)
 |int (i:Int):ReadsV H (.int i) (.int i)
 |str (x:Str):ReadsV H (.str x) (.str x)
 |lst {a:Addr} {vs:List V} {ps:List PyData}:Rd H a (.lst vs)->ReadsVs H vs ps->ReadsV H (.ref a) (.list ps)
 |tup {a:Addr} {vs:List V} {ps:List PyData}:H a=some (.tup vs)->ReadsVs H vs ps->ReadsV H (.ref a) (.tuple ps)
inductive ReadsVs(H:Hp):List V->List PyData->Prop where
 |nil:ReadsVs H [] []
 |cons {v:V} {p:PyData} {vs:List V} {ps:List PyData}:ReadsV H v p->ReadsVs H vs ps->ReadsVs H (v::vs) (p::ps)
end
mutual
theorem ReadsV.heap(Z:gk P w H h):∀{v:V} {p:PyData},ReadsV H v p->∀{u:Value},RelV v u->∃ as,Reads h u p as
 |_,_,.non,u,r=>by cases (show u=Value.none from r);exact⟨_,.none⟩
 |_,_,.bl b,u,r=>by cases (show u=Value.bool b from r);exact⟨_,.bool b⟩
 |_,_,.int i,u,r=>by obtain⟨t,rfl⟩:=(show ∃ t,u=Value.int i t from r);exact⟨_,.int i t⟩
 |_,_,.str x,u,r=>by obtain⟨t,rfl⟩:=(show ∃ t,u=Value.str x t from r);exact⟨_,.str x t⟩
 |_,_,@ReadsV.lst _ a vs ps h1 h2,u,r=>by
  cases (show u=Value.ref a from r);obtain⟨_,its,n,Y,e⟩:=(show bj P w H h a (.lst vs)from h1.ok Z);obtain⟨as,q⟩:=ReadsVs.heap Z h2 Y;exact⟨_,.list e rfl rfl (by simpa using q)⟩
 |_,_,@ReadsV.tup _ a vs ps h1 h2,u,r=>by
  cases (show u=Value.ref a from r);obtain⟨_,its,Y,o,e,c,n,d⟩:=(show bj P w H h a (.tup vs)from Z a _ h1);obtain⟨as,q⟩:=ReadsVs.heap Z h2 Y;exact⟨_,.tuple e c d (by simpa using q)⟩
theorem ReadsVs.heap(Z:gk P w H h):∀{vs:List V} {ps:List PyData},ReadsVs H vs ps->∀{us:List Value},bo vs us->∃ as,ReadsAll h us ps as
 |_,_,.nil,us,r=>by cases r;exact⟨_,.nil⟩
 | _,_,.cons h1 h2,us,r=>by
  cases r with
  |cons r1 r2=>
   obtain⟨as,q⟩:=ReadsV.heap Z h1 r1;obtain⟨bs,Y⟩:=ReadsVs.heap Z h2 r2;exact⟨_,.cons q Y⟩
end
def mapP(f:D->Option PyData):List D->Option (List PyData)
 |[]=>some []
 |d::ds=>match f d,mapP f ds with
  |some p,some ps=>some (p::ps)
  |_,_=>none
def jE(S:aB):Nat->D->Option PyData
 |_,.non=>some .none
 |_,.bl b=>some (.bool b)
 |_,.int i=>some (.int i)
 |_,.str x=>if PyData.strOk x=true then some (.str x)else none
 |n+1,.tup ds=>(mapP (jE S n) ds).map .tuple
 |n+1,.lst k=>(S[k]?).bind fun xs=>(mapP (jE S n) xs).map .list
 |n+1,.fz ds=>(mapP (jE S n) ds).map .list
 |_,_=>none
section
variable {K:W.Frag}{ι:List Addr}{S:aB}{H:Hp}
theorem lB{f:D->Option PyData}(Z:∀ d p v,f d=some p->RelD K ι H d v->ReadsV H v p/\p.canLay0=true/\p.depth<=n):
  ∀{ds:List D} {ps:List PyData} {vs:List V},mapP f ds=some ps->RelDs K ι H ds vs->ReadsVs H vs ps/\PyData.canLayAll0 ps=true/\PyData.depthAll ps<=n
 |[],ps,vs,e,r=>by
  cases e;rw[r.nil_inv];exact⟨.nil,rfl,K5 _⟩
 | d ::ds,ps,vs,e,r=>by
  obtain⟨v,ws,rfl,U,R⟩:=r.cons_inv;unfold mapP at e;cases q:f d with
  |none=>rw[q]at e;cases e
  | some p=>
   rw[q]at e;cases q2:mapP f ds with
   |none=>rw[q2]at e;cases e
   | some ps'=>
    rw[q2]at e;cases e;obtain⟨X,Y,T⟩:=Z d p v q U;obtain⟨k1,k2,k3⟩:=lB Z q2 R;refine⟨.cons X k1,?_,?_⟩
    ·show(PyData.canLay0 p && PyData.canLayAll0 ps')=true;rw[Y,k2];rfl
    ·show max p.depth (PyData.depthAll ps')<=n;exact Nat.max_le.mpr ⟨T,k3⟩
theorem nL(X:Rep K ι H S):∀(n:Nat) (d:D) (p:PyData) (v:V),jE S n d=some p->RelD K ι H d v->ReadsV H v p/\p.canLay0=true/\p.depth<=n:=by
 intro n
 induction n with
 | zero=>
  intro d p v e r;cases d with
  |non=>cases e;rw[r.non_inv];exact⟨.non,rfl,Kz _⟩
  |bl b=>cases e;rw[r.bl_inv];exact⟨.bl b,rfl,Kz _⟩
  |int i=>cases e;rw[r.int_inv];exact⟨.int i,rfl,Kz _⟩
  |str x=>
   unfold jE at e;split at e
   ·next hs=>cases e;rw[r.str_inv];exact⟨.str x,hs,Kz _⟩
   ·cases e
  |_=>cases e
 | succ n ih=>
  intro d p v e r;cases d with
  |non=>cases e;rw[r.non_inv];exact⟨.non,rfl,K5 _⟩
  |bl b=>cases e;rw[r.bl_inv];exact⟨.bl b,rfl,K5 _⟩
  |int i=>cases e;rw[r.int_inv];exact⟨.int i,rfl,K5 _⟩
  |str x=>
   unfold jE at e;split at e
   ·next hs=>cases e;rw[r.str_inv];exact⟨.str x,hs,K5 _⟩
   ·cases e
  | tup ds=>
   obtain⟨a,vs,rfl,Y,Z⟩:=r.tup_inv;unfold jE at e;cases q:mapP (jE S n) ds with
   |none=>rw[q]at e;cases e
   |some ps=>
    rw[q]at e;cases e;obtain⟨k1,k2,k3⟩:=lB ih q Z;exact⟨.tup Y k1,k2,M3 k3⟩
  | lst k=>
   obtain⟨a,rfl,Y⟩:=r.lst_inv;unfold jE at e;cases z:S[k]? with
   |none=>rw[z]at e;cases e
   | some xs=>
    rw[z]at e;obtain⟨vs,U,Z⟩:=X.get k a xs Y z;cases q:mapP (jE S n) xs with
    |none=>simp[q]at e
    |some ps=>
     simp[q]at e;subst e;obtain⟨k1,k2,k3⟩:=lB ih q Z;exact⟨.lst (.inl U) k1,k2,M3 k3⟩
  |ro ds=>cases e
  | fz ds=>
   obtain⟨a,o,vs,rfl,Y,Z⟩:=r.fz_inv;unfold jE at e;cases q:mapP (jE S n) ds with
   |none=>rw[q]at e;cases e
   |some ps=>
    rw[q]at e;cases e;obtain⟨k1,k2,k3⟩:=lB ih q Z;exact⟨.lst (.inr ⟨o,Y⟩) k1,k2,M3 k3⟩
  |emp=>cases e
  |fn a c q ds vs=>cases e
  |exc x ds=>cases e
end
def G3(f:PyData->PyData->Bool):D->D->M D:=fun a b S=>match jE S 60 a,jE S 60 b with
 |some p,some q=>some (.ok (.bl (f p q)),S)
 |_,_=>none
def si:D->D->M D:=G3 PyData.eqv
def ku:D->D->M D:=G3 fun p q=> !PyData.eqv p q
def JJ(f:Bool->Bool):PyData->PyData->Option Bool
 |d,.list xs=>some (f (xs.any fun y=>PyData.eqv y d))
 |d,.tuple xs=>some (f (xs.any fun y=>PyData.eqv y d))
 |_,_=>none
def HU(f:Bool->Bool):D->D->M D:=fun a b S=>match jE S 60 a,jE S 60 b with
 |some p,some q=>match JJ f p q with
  |some r=>some (.ok (.bl r),S)
  |none=>none
 |_,_=>none
def inD:D->D->M D:=HU id
section
variable {X:Cx}{E:XD}{a b e:Expr}{m n:TM}{pos:Pos}
def FF(f:PyData->PyData->Bool):R2:=fun x y H Q=>∃ p q,(ReadsV H x p/\p.canLay0=true/\p.depth<=60)/\(ReadsV H y q/\q.canLay0=true/\q.depth<=60)/\Q (.bl (f p q)) H
theorem kf{p:PyData}(h:p.canLay0=true)(Z:p.depth<=60):SeqAt.shaped p=true:=by
 unfold SeqAt.shaped;rw[h,Mn];exact KU (by omega)
theorem AD(P:X.A.units+64<cLine):i6 X (compareOp .Eq) (FF PyData.eqv):=by
 intro pins s σ H x y v u Q I N L h;obtain⟨p,q,⟨U,W,Z⟩,⟨T,R,S⟩,h⟩:=h;obtain⟨as,O⟩:=U.heap I.hok N;obtain⟨bs,Y⟩:=T.heap I.hok L;exact eq_dataH O Y (kf W Z) (kf R S) P ⟨.bl _,H,I,rfl,h⟩
theorem FH(P:X.A.units+64<cLine):i6 X (compareOp .NotEq) (FF fun p q=> !PyData.eqv p q):=by
 intro pins s σ H x y v u Q I N L h;obtain⟨p,q,⟨U,W,Z⟩,⟨T,R,S⟩,h⟩:=h;obtain⟨as,O⟩:=U.heap I.hok N;obtain⟨bs,Y⟩:=T.heap I.hok L;exact ne_dataH O Y (kf W Z) (kf R S) P ⟨.bl _,H,I,rfl,h⟩
theorem sj:tU X.K E (G3 f) (FF f):=by
 intro ι S H W Z v1 v2 Q rep U Y c;obtain⟨r,T,e,k⟩:=c;unfold G3 at e;split at e
 ·next p q hp hq=>
  cases e;exact⟨p,q,nL rep 60 W p v1 hp U,nL rep 60 Z q v2 hq Y,k ι H .refl rep _ (.bl _)⟩
 ·cases e
theorem AE(Y:X.A.units+64<cLine)(Z:SE X E a m)(W:SE X E b n):SE X E (.Compare a [.Eq] [b] pos) (fun ρ=>do let x<-m ρ;let y<-n ρ;si x y):=vK (AD Y) sj Z W
theorem El(Y:X.A.units+64<cLine)(Z:SE X E a m)(W:SE X E b n):SB X E (.Compare a [.Eq] [b] pos) (fun ρ=>do let z<-(do let x<-m ρ;let y<-n ρ;si x y);kz z):=kJ (AD Y) sj Z W
theorem mS(Y:X.A.units+64<cLine)(Z:SE X E a m)(W:SE X E b n):SB X E (.Compare a [.NotEq] [b] pos) (fun ρ=>do let z<-(do let x<-m ρ;let y<-n ρ;ku x y);kz z):=kJ (FH Y) sj Z W
def HV(f:Bool->Bool):R2:=fun x y H Q=>∃ p q r,(ReadsV H x p/\p.canLay0=true/\p.depth<=60)/\(ReadsV H y q/\q.canLay0=true/\q.depth<=60)/\JJ f p q=some r/\Q (.bl r) H
theorem xf:tU X.K E (HU f) (HV f):=by
 intro ι S H W Z v1 v2 Q rep U Y c;obtain⟨r,T,e,k⟩:=c;unfold HU at e;split at e
 ·next p q hp hq=>
  split at e
  ·next r hr=>
   cases e;exact⟨p,q,r,nL rep 60 W p v1 hp U,nL rep 60 Z q v2 hq Y,hr,k ι H .refl rep _ (.bl _)⟩
  ·cases e
 ·cases e
theorem vN(h:(PyData.list xs).depth<=60):PyData.depthAll xs<=60:=NA h
theorem ue(h:(PyData.tuple xs).depth<=60):PyData.depthAll xs<=60:=NA h
theorem AF(K:X.A.units+64<cLine):i6 X (compareOp .In) (HV id):=by
 intro pins s σ H x y v u Q I O N h;obtain⟨p,q,r,⟨R,W,L⟩,⟨P,T,U⟩,Z,h⟩:=h;obtain⟨as,S⟩:=R.heap I.hok O;obtain⟨bs,Y⟩:=P.heap I.hok N;cases q with
 |list xs=>
  cases Z;exact SeqAt.in_list_reads Y S T W (by have:=vN U;have:min (PyData.depthAll xs) p.depth<=60:=KP (Nat.min_le_left _ _) this;omega) ⟨.bl _,H,I,rfl,h⟩
 |tuple xs=>
  cases Z;exact SeqAt.in_tuple_reads Y S T W (by have:=ue U;have:min (PyData.depthAll xs) p.depth<=60:=KP (Nat.min_le_left _ _) this;omega) ⟨.bl _,H,I,rfl,h⟩
 |_=>cases Z
theorem uf(Y:X.A.units+64<cLine)(W:SE X E a m)(U:SE X E b n)(Z:behindInMarks .In b=false:=by rfl):SE X E (.Compare a [.In] [b] pos) (fun ρ=>do let x<-m ρ;let y<-n ρ;inD x y):=vK (AF Y) xf W U Z
theorem Em(Y:X.A.units+64<cLine)(W:SE X E a m)(U:SE X E b n)(Z:behindInMarks .In b=false:=by rfl):SB X E (.Compare a [.In] [b] pos) (fun ρ=>do let z<-(do let x<-m ρ;let y<-n ρ;inD x y);kz z):=kJ (AF Y) xf W U Z
end
section
variable {X:Cx}{E:XD}{a b e c:Expr}{m n l:TM}{pos p2:Pos}{es:List Expr}{ms:aO->M (List D)}
def HW(f:Bool->Bool):D->D->M D
 | .bl i,.bl j=>pure (.bl (f (i==j)))
 |d,.non=>match d with
  | .non=>pure (.bl (f true))
  |_=>pure (.bl (f false))
 |_,_=>M.fail
theorem HX:i6 X (compareOp .Is) (fun x y H Q=>∃ i j,x= .bl i/\y= .bl j/\Q (.bl (i==j)) H):=by
 intro pins s σ H x y v u Q I Z Y h;obtain⟨i,j,rfl,rfl,q⟩:=h;cases Z;cases Y;exact is_bool ⟨.bl _,H,I,rfl,q⟩
theorem FI{f:Bool->Bool}:tU X.K E (HW f) (fun x y H Q=>(∃ i j,x= .bl i/\y= .bl j/\Q (.bl (f (i==j))) H)\/(y= .non/\Q (.bl (f (decide (x= .non)))) H)):=by
 intro ι S H Y U v1 v2 Q rep Z W c;cases U with
 |non=>
  refine .inr ⟨W.non_inv,?_⟩;cases Y with
  |non=>rw[Z.non_inv];exact ah c .refl rep _ (.bl _)
  |bl i=>rw[Z.bl_inv];exact ah c .refl rep _ (.bl _)
  |int i=>rw[Z.int_inv];exact ah c .refl rep _ (.bl _)
  |str i=>rw[Z.str_inv];exact ah c .refl rep _ (.bl _)
  |tup ds=>obtain⟨p,vs,rfl,_,_⟩:=Z.tup_inv;exact ah c .refl rep _ (.bl _)
  |lst k=>obtain⟨p,rfl,_⟩:=Z.lst_inv;exact ah c .refl rep _ (.bl _)
  |ro ds=>obtain⟨p,vs,rfl,_,_⟩:=Z.ro_inv;exact ah c .refl rep _ (.bl _)
  |fz ds=>obtain⟨p,_,vs,rfl,_,_⟩:=Z.fz_inv;exact ah c .refl rep _ (.bl _)
  |emp=>cases Z;exact ah c .refl rep _ (.bl _)
  |fn a c q ds vs=>cases Z;exact ah c .refl rep _ (.bl _)
  |exc x ds=>cases Z<;>exact ah c .refl rep _ (.bl _)
 |bl j=>
  cases Y with
  |bl i=>exact .inl ⟨i,j,Z.bl_inv,W.bl_inv,ah c .refl rep _ (.bl _)⟩
  |_=>exact(ag c).elim
 |_=>cases Y<;>exact(ag c).elim
theorem HY(Z:SE X E a m)(Y:SE X E b n):SB X E (.Compare a [.Is] [b] pos) (fun ρ=>do let z<-(do let x<-m ρ;let y<-n ρ;HW id x y);kz z):=kJ (HX.or Fk) (FI (f:=id)) Z Y
def J7:D->M Int
 | .int i=>pure i
 |_=>M.fail
def Kn(K:W.Frag)(E:XD)(m:aO->M (Option Int)):TO:=fun σ H Q=>∃ ι S ρ,Rep K ι H S/\RelE K ι H ρ σ/\cont K E (m ρ) ι S H (fun o _ _ H'=>Q o H')
def SO(X:Cx)(E:XD)(o:Option Expr)(m:aO->M (Option Int)):Prop:=PO X o (Kn X.K E m)
theorem PO.imp{X:Cx}{e:Option Expr}{t t':TO}(h:PO X e t)(k:∀ σ H Q,t' σ H Q->t σ H Q):PO X e t':=fun pins s σ H Q I hw=>h pins s σ H Q I (k σ H Q hw)
theorem xg:SO X E none (fun _=>pure none):=by
 refine PO.imp CM fun σ H Q h=>?_;obtain⟨ι,S,ρ,rep,re,c⟩:=h;exact ah c .refl rep
theorem xh(h:SE X E e m):SO X E (some e) (fun ρ=>do let x<-m ρ;let i<-J7 x;pure (some i)):=by
 refine PO.imp (CN h) fun σ H Q h=>?_;obtain⟨ι,S,ρ,rep,re,c⟩:=h;refine⟨ι,S,ρ,rep,re,ak (ai c) fun x Z S1 Y e1 rep1 c1 v r=>?_⟩;cases x with
 |int i=>exact⟨i,r.int_inv,ah (ah (ai c1) .refl rep1) .refl rep1⟩
 |_=>exact(ag (ai c1)).elim
def cutD(xs:List D)(lo hi:Option Int):List D:=(xs.drop (HT.sIx xs.length 0 lo)).take (HT.sIx xs.length xs.length hi - HT.sIx xs.length 0 lo)
theorem nM{K:W.Frag}{ι:List Addr}{H:Hp}{ds:List D}{vs:List V}(Y Z:Option Int)(h:RelDs K ι H ds vs):RelDs K ι H (cutD ds Y Z) (qe vs Y Z):=by
 unfold cutD qe;rw[h.length];exact(h.drop _).take _
def AG:D->Option Int->Option Int->M D
 | .tup xs,lo,hi=>cf (cutD xs lo hi)
 | .lst k,lo,hi=>do let xs<-getL k;bM (cutD xs lo hi)
 | .fz xs,lo,hi=>bM (cutD xs lo hi)
 |_,_,_=>M.fail
theorem C4:Eh X (fun x lo T H Q=>∃ a xs,x= .ref a/\la X.K H a xs/\(HT.sIx xs.length 0 lo=0/\HT.sIx xs.length xs.length T=xs.length)/\Q (.ref a) H):=by
 intro pins s σ H x v J L lo T R Q I O hs N pu h;obtain⟨a,xs,rfl,P,hw,q⟩:=h;cases O;obtain⟨its,r,Z,G⟩:=I.tuple P;have hlen:its.toArray.size=xs.length:=by rw[KN];exact r.length.symm
 refine⟨"tuple",_,PyProof.Rows.slot_tuple_getitem.lookup,Z.typeIs,?_⟩;have fin:EP X pins σ Q (.ref a) s:=⟨.ref a,H,I,rfl,q⟩;obtain⟨os,Y,W,S⟩:=id hs;have U:s.TypeIs (.ref R) "slice":=⟨os,Y,W⟩;unfold getItem
 try with_reducible refine Lm ?_
 first|refine Kv (Ky ?_)|skip
 refine Kv (wpAny_sequenceKey Z.typeIs (by decide) ?_)
 refine Kv (wpAny_callSpecial?_slot (name:=Str.ofString "__getitem__") Z.typeIs L5
  (LC L5 Z.typeIs entry_tuple_getitem ?_ (args_tuple_getitem _ _)))
 show wpAny _ _ (Builtin.Tuple.tupleItemsOf (.ref a)>>=_) _ _ s;refine Kv (tupleItemsOf_ Z (Kv (Na U ?_)));rw[if_pos (by decide)]
 refine Kv (HT.sliceApplied_gen hs N pu ?_);rw[hlen,hw.1,hw.2];show wpAny _ _ (if ((((0:Nat):Int))==0 && (1:Int)==1 && (xs.length - 0)==xs.length)=true then _ else _) _ _ s;rw[if_pos (by simp)]
 unfold Builtin.Tuple.tupleIsExact;refine Kv (Kv (Na Z.typeIs (Ky ?_)));rw[if_pos (by decide)]
 first
  |exact Kv (M8 (Ky ⟨_,rfl,Ky fin⟩))
  |exact Kv (M8 (Kv (Ky (Ky ⟨_,rfl,Ky fin⟩))))
theorem vO{xs:List V}{Z Y:Option Int}(h:HT.sIx xs.length 0 Z=0/\HT.sIx xs.length xs.length Y=xs.length):qe xs Z Y=xs:=by
 unfold qe;rw[h.1,h.2,List.drop_zero,Nat.sub_zero,List.take_length]
theorem ug{L P:Option Expr}{ml O:aO->M (Option Int)}(K:SE X E e m)(J:SO X E L ml)(I:SO X E P O):
  SE X E (.Subscript e (.Slice L P none p2) pos) (fun ρ=>do let x<-m ρ;let i<-ml ρ;let j<-O ρ;AG x i j):=by
 refine PE.imp (Ak (Fp.or (C4.or CQ)) K J I) fun σ H Q h=>?_;obtain⟨ι,S,ρ,rep,re,c⟩:=h;refine⟨ι,S,ρ,rep,re,ak (ai c) fun x U S1 z e1 rep1 c1 v r=>?_⟩;refine⟨U,S1,ρ,rep1,re.later rep e1,ak (ai c1) fun i W S2 A e2 rep2 C=>?_⟩;refine⟨W,S2,ρ,rep2,(re.later rep e1).later rep1 e2,ak (ai C) fun j G y w e3 rep3 Y=>?_⟩;have R:=(r.later rep1 e2).later rep2 e3;cases x with
 | tup ds=>
  obtain⟨p,vs,rfl,Z,N⟩:=R.tup_inv;by_cases hw:HT.sIx vs.length 0 i=0/\HT.sIx vs.length vs.length j=vs.length
  ·refine .inr (.inl ⟨p,vs,rfl,.of Z,hw,i9 Y rep3 Z ?_⟩);have:=nM i j N;rw[vO hw]at this;exact this
  ·exact .inl ⟨p,vs,rfl,.of Z,hw,(gW Y rep3 (nM i j N)).2⟩
 |lst k=>
  obtain⟨p,rfl,Z⟩:=R.lst_inv;obtain⟨ds,vs,_,F,T,B⟩:=bg Y rep3 Z;exact .inr (.inr ⟨p,vs,rfl,.of F,(bt B rep3 (nM i j T)).2⟩)
 |fz ds=>
  obtain⟨p,o,vs,rfl,Z,T⟩:=R.fz_inv;exact .inr (.inr ⟨p,vs,rfl,.inl (.inr ⟨o,Z⟩),(bt Y rep3 (nM i j T)).2⟩)
 |_=>exact(ag Y).elim
end
section
variable {X:Cx}{E:XD}{a b e c o:Expr}{m n l:TM}{pos p2:Pos}{es:List Expr}{ms:aO->M (List D)}
def cZ:List D->M D
 |[.lst k]=>do let xs<-getL k;pure (.int xs.length)
 |[.tup ds]=>pure (.int ds.length)
 |[.ro ds]=>pure (.int ds.length)
 |[.fz ds]=>pure (.int ds.length)
 |_=>M.fail
theorem yD:kA X.K E cZ (fun xs H Q=>∃ p ys,xs=[.ref p]/\(jB X.K H p ys\/la X.K H p ys)/\Q (.int ys.length) H):=by
 intro ι S H ds vs Q rep r c
 match ds,r,c with
 |[.lst k],r,c=>
  obtain⟨v,ws,rfl,U,Y⟩:=r.cons_inv;cases Y.nil_inv;obtain⟨p,rfl,W⟩:=U.lst_inv;obtain⟨es,us,_,T,Z,R⟩:=bg c rep W;refine⟨p,us,rfl,.inl (.of T),?_⟩;have:=ah R .refl rep _ (.int _);rw[Z.length]at this;exact this
 |[.tup es],r,c=>
  obtain⟨v,ws,rfl,U,Y⟩:=r.cons_inv;cases Y.nil_inv;obtain⟨p,us,rfl,W,Z⟩:=U.tup_inv;refine⟨p,us,rfl,.inr (.of W),?_⟩;have:=ah c .refl rep _ (.int _);rw[Z.length]at this;exact this
 |[.ro es],r,c=>
  obtain⟨v,ws,rfl,U,Y⟩:=r.cons_inv;cases Y.nil_inv;obtain⟨p,us,rfl,W,Z⟩:=U.ro_inv;refine⟨p,us,rfl,.inl W.sq,?_⟩;have:=ah c .refl rep _ (.int _);rw[Z.length]at this;exact this
 |[.fz es],r,c=>
  obtain⟨v,ws,rfl,U,Y⟩:=r.cons_inv;cases Y.nil_inv;obtain⟨p,o,us,rfl,W,Z⟩:=U.fz_inv;refine⟨p,us,rfl,.inl (.inl (.inr ⟨o,W⟩)),?_⟩;have:=ah c .refl rep _ (.int _);rw[Z.length]at this;exact this
 |[],r,c=>exact(ag c).elim
 |[.non],r,c=>exact(ag c).elim
 |[.bl _],r,c=>exact(ag c).elim
 |[.int _],r,c=>exact(ag c).elim
 |[.str _],r,c=>exact(ag c).elim
 |[.emp],r,c=>exact(ag c).elim
 |d::d2::r',r,c=>cases d<;>exact(ag c).elim
theorem dY(Z:X.mg "len"=none)(Y:SE X E e m)(W:Gl X "len":=by rfl)(hs:starEach [e] X.env=[(false,eval e X.env)]:=by rfl):SE X E (.Call (.Name "len" p) [e] [] pos) (fun ρ=>do let ds<-(do let x<-m ρ;let xs<-pure [];pure (x::xs));cZ ds):=
 iT rS yD W Z PySem.boot_len (af Y aj hs) (by decide) (by decide) hs rfl
def xi(f:Int->Int->Int):List D->M D
 |[.int i,.int j]=>pure (.int (f i j))
 |_=>M.fail
theorem oB{f:Int->Int->Int}:kA X.K E (xi f) (fun xs H Q=>∃ i j,xs=[.int i,.int j]/\Q (.int (f i j)) H):=by
 intro ι S H ds vs Q rep r c;unfold xi at c;split at c
 ·next i j=>
  obtain⟨v,ws,rfl,T,Y⟩:=r.cons_inv;obtain⟨R,W,rfl,U,Z⟩:=Y.cons_inv;cases Z.nil_inv;rw[T.int_inv,U.int_inv];exact⟨i,j,rfl,ah c .refl rep _ (.int _)⟩
 ·exact(ag c).elim
def maxD:List D->M D:=xi fun i j=>if j>i then j else i
def minD:List D->M D:=xi fun i j=>if j<i then j else i
theorem sm(W:X.calm=true)(Y:X.mg "max"=none)(U:SA X E [a,b] ms)(T:Gl X "max":=by rfl)(hs:starEach [a,b] X.env=[(false,eval a X.env),(false,eval b X.env)]:=by rfl)(Z:starEach [b] X.env=[(false,eval b X.env)]:=by rfl):
  SE X E (.Call (.Name "max" p) [a,b] [] pos) (fun ρ=>do let ds<-ms ρ;maxD ds):=
 iT (yk W) oB T Y (by decide+kernel) U (by decide) (by decide) (by rw[hs,Z]) (by rw[Z];rfl)
theorem sr(W:X.calm=true)(Y:X.mg "min"=none)(U:SA X E [a,b] ms)(T:Gl X "min":=by rfl)(hs:starEach [a,b] X.env=[(false,eval a X.env),(false,eval b X.env)]:=by rfl)(Z:starEach [b] X.env=[(false,eval b X.env)]:=by rfl):
  SE X E (.Call (.Name "min" p) [a,b] [] pos) (fun ρ=>do let ds<-ms ρ;minD ds):=
 iT (ym W) oB T Y (by decide+kernel) U (by decide) (by decide) (by rw[hs,Z]) (by rw[Z];rfl)
def uh:List D->M D
 |[.lst k]=>do let xs<-getL k;bM xs
 |[.tup ds]=>bM ds
 |[.ro ds]=>bM ds
 |[.fz ds]=>bM ds
 |_=>M.fail
def dZ:List D->M D
 |[.lst k]=>do let xs<-getL k;cf xs
 |[.tup ds]=>cf ds
 |[.fz ds]=>cf ds
 |_=>M.fail
theorem vP:kA X.K E uh (fun xs H Q=>∃ p ys,xs=[.ref p]/\(jB X.K H p ys\/la X.K H p ys)/\∀ l,H l=none->Q (.ref l) (upd H l (.lst ys))):=by
 intro ι S H ds vs Q rep r c;unfold uh at c;split at c
 ·next k=>
  obtain⟨v,ws,rfl,U,Y⟩:=r.cons_inv;cases Y.nil_inv;obtain⟨p,rfl,W⟩:=U.lst_inv;obtain⟨es,us,_,T,Z,R⟩:=bg c rep W;exact⟨p,us,rfl,.inl (.of T),(bt R rep Z).2⟩
 ·next es=>
  obtain⟨v,ws,rfl,U,Y⟩:=r.cons_inv;cases Y.nil_inv;obtain⟨p,us,rfl,W,Z⟩:=U.tup_inv;exact⟨p,us,rfl,.inr (.of W),(bt c rep Z).2⟩
 ·next es=>
  obtain⟨v,ws,rfl,U,Y⟩:=r.cons_inv;cases Y.nil_inv;obtain⟨p,us,rfl,W,Z⟩:=U.ro_inv;exact⟨p,us,rfl,.inl W.sq,(bt c rep Z).2⟩
 ·next es=>
  obtain⟨v,ws,rfl,U,Y⟩:=r.cons_inv;cases Y.nil_inv;obtain⟨p,o,us,rfl,W,Z⟩:=U.fz_inv;exact⟨p,us,rfl,.inl (.inl (.inr ⟨o,W⟩)),(bt c rep Z).2⟩
 ·exact(ag c).elim
theorem ui:kA X.K E dZ (fun xs H Q=>∃ p ys,xs=[.ref p]/\((jB X.K H p ys/\∀ l,H l=none->Q (.ref l) (upd H l (.tup ys)))\/(la X.K H p ys/\Q (.ref p) H))):=by
 intro ι S H ds vs Q rep r c;unfold dZ at c;split at c
 ·next k=>
  obtain⟨v,ws,rfl,U,W⟩:=r.cons_inv;cases W.nil_inv;obtain⟨p,rfl,Z⟩:=U.lst_inv;obtain⟨es,us,_,T,Y,R⟩:=bg c rep Z;exact⟨p,us,rfl,.inl ⟨.of T,(gW R rep Y).2⟩⟩
 ·next es=>
  obtain⟨v,ws,rfl,U,W⟩:=r.cons_inv;cases W.nil_inv;obtain⟨p,us,rfl,Z,Y⟩:=U.tup_inv;exact⟨p,us,rfl,.inr ⟨.of Z,i9 c rep Z Y⟩⟩
 ·next es=>
  obtain⟨v,ws,rfl,U,W⟩:=r.cons_inv;cases W.nil_inv;obtain⟨p,o,us,rfl,Z,Y⟩:=U.fz_inv;exact⟨p,us,rfl,.inl ⟨.inl (.inr ⟨o,Z⟩),(gW c rep Y).2⟩⟩
 ·exact(ag c).elim
theorem C5(Z:X.mg "list"=none)(Y:SE X E e m)(W:Gl X "list":=by rfl)(hs:starEach [e] X.env=[(false,eval e X.env)]:=by rfl):SE X E (.Call (.Name "list" p) [e] [] pos) (fun ρ=>do let ds<-(do let x<-m ρ;let xs<-pure [];pure (x::xs));uh ds):=
 qM rT vP W Z (by decide+kernel) (af Y aj hs) (by decide) (by decide) hs rfl
theorem fA(Z:X.mg "tuple"=none)(Y:SE X E e m)(W:Gl X "tuple":=by rfl)(hs:starEach [e] X.env=[(false,eval e X.env)]:=by rfl):SE X E (.Call (.Name "tuple" p) [e] [] pos) (fun ρ=>do let ds<-(do let x<-m ρ;let xs<-pure [];pure (x::xs));dZ ds):=
 qM qg ui W Z (by decide+kernel) (af Y aj hs) (by decide) (by decide) hs rfl
def C6(H:Hp):V->Option String
 | .non=>some "NoneType"
 | .bl _=>some "bool"
 | .int _=>some "int"
 | .str _=>some "str"
 | .ref a=>match H a with
  |some (.lst _)=>some "list"
  |some (.frz _ (.lst _))=>some "list"
  |some (.tup _)=>some "tuple"
  |some (.dK _)=>some "dict"
  |_=>none
 |_=>none
theorem AH{K:W.Frag}{H:Hp}{v:V}{T:String}(h:C6 H v=some T):TyOf K H v (.type T):=by
 cases v with
 |non=>cases h;exact .non
 |bl b=>cases h;exact .bl b
 |int i=>cases h;exact .int i
 |str x=>cases h;exact .str x
 |ref a=>
  simp only[C6]at h;split at h
  ·next q=>cases h;exact .lst q
  ·next q=>cases h;exact .frz q
  ·next q=>cases h;exact .tup q
  ·next q=>cases h;exact .dK q
  ·cases h
 |_=>cases h
def AI:D->String
 | .non=>"NoneType"
 | .bl _=>"bool"
 | .int _=>"int"
 | .str _=>"str"
 | .tup _=>"tuple"
 | .lst _=>"list"
 | .ro _=>"list"
 | .fz _=>"list"
 | .emp=>"dict"
 | .fn _ _ _ _ _=>"NoneType"
 | .exc _ _=>"NoneType"
def FJ:D->Bool
 | .ro _=>false
 | .fn _ _ _ _ _=>false
 | .exc _ _=>false
 |_=>true
theorem AJ{K:W.Frag}{ι:List Addr}{S:aB}{H:Hp}{d:D}{v:V}(Y:Rep K ι H S)(r:RelD K ι H d v)(Z:FJ d=true):C6 H v=some (AI d):=by
 cases r with
 |non=>rfl
 |bl=>rfl
 |int=>rfl
 |str=>rfl
 |tup h _=>simp[C6,h,AI]
 |lst h=>
  obtain⟨vs,e⟩:=Y.isL (Le h);simp[C6,e,AI]
 |ro h _=>cases Z
 |fz h _=>simp[C6,h,AI]
 |emp h=>simp[C6,h,AI]
 |fn=>cases Z
 |exc=>cases Z
 |excF=>cases Z
def AK(f:String->Bool):D->M D
 | .ro _=>M.fail
 | .fn _ _ _ _ _=>M.fail
 | .exc _ _=>M.fail
 |d=>pure (.bl (f (AI d)))
theorem uj{K:W.Frag}{E:XD}{ι:List Addr}{S:aB}{H:Hp}{f:String->Bool}{d:D}{Q:D->List Addr->aB->Hp->Prop}(c:cont K E (AK f d) ι S H Q):FJ d=true/\cont K E (pure (.bl (f (AI d)))) ι S H Q:=by
 cases d with
 |ro ds=>exact(ag c).elim
 |fn a c' q ds vs=>exact(ag c).elim
 |exc x ds=>exact(ag c).elim
 |_=>exact⟨rfl,c⟩
def ij(t T:String):Bool:=t==T||(t=="bool" && T=="int")
theorem su(K:W.Frag)(t:String)(Y:t∈["NoneType","bool","int","str","tuple","list","dict"])(T:String)(Z:T∈["bool","int","str","tuple","list"]):W.kitOne K (.type t) (.type T)=some (ij t T):=by
 simp only[List.mem_cons,List.not_mem_nil,or_false]at Y Z;rcases Y with rfl|rfl|rfl|rfl|rfl|rfl|rfl<;>rcases Z with rfl|rfl|rfl|rfl|rfl<;>rfl
theorem xj(d:D):AI d∈["NoneType","bool","int","str","tuple","list","dict"]:=by cases d<;>simp[AI]
theorem AL:dF X (.builtin "isinstance") (fun xs H Q=>∃ x t T,xs=[x,.ty T]/\C6 H x=some t/\t∈["NoneType","bool","int","str","tuple","list","dict"]/\T∈["bool","int","str","tuple","list"]/\Q (.bl (ij t T)) H):=by
 intro pins s σ H xs us Q I r h;obtain⟨x,t,T,rfl,U,Y,R,q⟩:=h;obtain⟨u,S,rfl,W,Z⟩:=vals2 r;cases (show S=Value.type T from Z);exact yq I W (AH U) (su X.K t Y T R) fun P=>⟨.bl _,H,I.tok P,rfl,q⟩
theorem iI{p q:Pos}{T:Str}{Ts:String}(P:X.mg "isinstance"=none)(Y:X.mg T=none)(O:SE X E e m)(N:bootBuiltins T=some (.type Ts):=by decide+kernel)(R:Ts∈["bool","int","str","tuple","list"]:=by decide)(K:Gl X "isinstance":=by rfl)(U:Gl X T:=by rfl)
  (J:T≠"__name__":=by decide) (W:(T==("__debug__":Str))=false:=by decide)
  (hs:starEach [e,.Name T q] X.env=[(false,eval e X.env),(false,eval (.Name T q) X.env)]:=by rfl) (Z:starEach [.Name T q] X.env=[(false,eval (.Name T q) X.env)]:=by rfl):
  SE X E (.Call (.Name "isinstance" p) [e,.Name T q] [] pos) (fun ρ=>do let x<-m ρ;AK (fun t=>ij t Ts) x):=by
 refine PE.imp (jK AL K P (by decide+kernel) (eV O (eV (nF U Y N (v:=.ty Ts) rfl J W) jJ Z) (by rw[hs,Z])) (by decide) (by decide) (by rw[hs,Z]) (by rw[Z];rfl)) fun σ H Q h=>?_
 obtain⟨ι,S,ρ,rep,re,c⟩:=h;refine⟨ι,S,ρ,rep,re,ak (ai c) fun x L S1 I e1 rep1 c1 v r=>?_⟩;obtain⟨W,c1⟩:=uj c1;exact⟨v,AI x,Ts,rfl,AJ rep1 r W,xj x,R,ah c1 .refl rep1 _ (.bl _)⟩
theorem yE:dF X (.builtin "isinstance") (fun xs H Q=>∃ x t p T U,xs=[x,.ref p]/\H p=some (.tup [.ty T,.ty U])/\C6 H x=some t/\t∈["NoneType","bool","int","str","tuple","list","dict"]/\T∈["bool","int","str","tuple","list"]/\U∈["bool","int","str","tuple","list"]/\
  Q (.bl (ij t T||ij t U)) H):=by
 intro pins s σ H xs us Q I r h;obtain⟨x,t,p,T,U,rfl,L,Z,R,G,J,q⟩:=h;obtain⟨u,v,rfl,S,P⟩:=vals2 r;cases (show v=Value.ref p from P);obtain⟨_,its,B,⟨cls,dd,data,j⟩,Y,N,n,hd⟩:=(show bj X.prog X.w H s.heap p (.tup [.ty T,.ty U])from I.hok p _ L);simp only at N hd;subst N hd;obtain⟨k,C,rfl,F,A⟩:=vals2 B;cases (show k=Value.type T from F);cases (show C=Value.type U from A);have e:W.kitAny X.K (.type t) [.type T,.type U]=some (ij t T||ij t U):=by
  unfold W.kitAny W.kitAny W.kitAny;rw[su X.K t R T G,su X.K t R U J];cases ij t T<;>cases ij t U<;>rfl
 have fin:∀ O,EP X pins σ Q (.bool (ij t T||ij t U)) {s with toks:=O}:=fun O=>⟨.bl _,H,I.tok O,rfl,q⟩;have ty:=AH (K:=X.K) Z;generalize hT:Value.type t=tv at ty e;cases ty with
 |non=>cases (show u=Value.none from S);exact LY Oc I.kIn True.intro Y e (fun z=>nomatch z) fin
 |bl y=>cases (show u=Value.bool y from S);exact LY W.kitx_bool I.kIn True.intro Y e (fun z=>nomatch z) fin
 |int i=>obtain⟨t,q⟩:=(show ∃ t,u=Value.int i t from S);cases q;exact LY W.kitx_int I.kIn True.intro Y e (fun z=>nomatch z) fin
 |str y=>obtain⟨t,q⟩:=(show ∃ t,u=Value.str y t from S);cases q;exact LY W.kitx_str I.kIn True.intro Y e (fun z=>nomatch z) fin
 |flt y=>obtain⟨t,q⟩:=(show ∃ t,u=Value.float y t from S);cases q;exact LY W.kitx_float I.kIn True.intro Y e (fun z=>nomatch z) fin
 | @lst a xs ea=>
  cases (show u=Value.ref a from S);obtain⟨_,_,n,_,Z⟩:=(show bj X.prog X.w H s.heap a (.lst xs)from I.hok a _ ea);exact LY Nx I.kIn ⟨_,Z,rfl⟩ Y e (fun z=>nomatch z) fin
 | @frz a ob xs ea=>
  cases (show u=Value.ref a from S);obtain⟨_,_,_,n,_,Z⟩:=(show bj X.prog X.w H s.heap a (.frz ob (.lst xs))from I.hok a _ ea);exact LY Nx I.kIn ⟨_,Z,rfl⟩ Y e (fun z=>nomatch z) fin
 | @tup a xs ea=>
  cases (show u=Value.ref a from S);obtain⟨_,_,_,o,Z,R,_⟩:=(show bj X.prog X.w H s.heap a (.tup xs)from I.hok a _ ea);exact LY W.kitx_tuple I.kIn ⟨o,Z,R⟩ Y e (fun z=>nomatch z) fin
 | @dK a kvs ea=>
  cases (show u=Value.ref a from S);obtain⟨_,_,vs,_,o,es,ep,Z,R,_⟩:=(show bj X.prog X.w H s.heap a (.dK kvs)from I.hok a _ ea);exact LY Ny I.kIn ⟨o,Z,R.1⟩ Y e (fun z=>nomatch z) fin
 | @dT a kvs ea=>
  cases (show u=Value.ref a from S);obtain⟨_,_,xs,_,o,es,ep,Z,R,_⟩:=(show bj X.prog X.w H s.heap a (.dT kvs)from I.hok a _ ea);exact LY Ny I.kIn ⟨o,Z,R.1⟩ Y e (fun z=>nomatch z) fin
 |ins=>cases hT
theorem C7{p q R W:Pos}{x1}{T U:Str}{Ts Us:String}(y:X.mg "isinstance"=none)(I:X.mg T=none)(K:X.mg U=none)(z:SE X E e m)(w:bootBuiltins T=some (.type Ts):=by decide+kernel)(G:bootBuiltins U=some (.type Us):=by decide+kernel)
  (C:Ts∈["bool","int","str","tuple","list"]:=by decide) (O:Us∈["bool","int","str","tuple","list"]:=by decide) (u:Gl X "isinstance":=by rfl) (L:Gl X T:=by rfl) (N:Gl X U:=by rfl)
  (s:T≠"__name__":=by decide) (F:(T==("__debug__":Str))=false:=by decide) (J:U≠"__name__":=by decide) (P:(U==("__debug__":Str))=false:=by decide)
  (hs:starEach [e,.Tuple [.Name T q,.Name U R] x1 W] X.env=[(false,eval e X.env),(false,eval (.Tuple [.Name T q,.Name U R] x1 W) X.env)]:=by rfl) (Z:starEach [.Tuple [.Name T q,.Name U R] x1 W] X.env=[(false,eval (.Tuple [.Name T q,.Name U R] x1 W) X.env)]:=by rfl):
  SE X E (.Call (.Name "isinstance" p) [e,.Tuple [.Name T q,.Name U R] x1 W] [] pos) (fun ρ=>do let x<-m ρ;AK (fun t=>ij t Ts||ij t Us) x):=by
 refine PE.imp (jK yE u y (by decide+kernel) (eV z (eV (Af (eV (nF L I w (v:=.ty Ts) rfl s F) (eV (nF N K G (v:=.ty Us) rfl J P) jJ rfl) rfl)) jJ Z) (by rw[hs,Z])) (by decide) (by decide) (by rw[hs,Z]) (by rw[Z];rfl)) fun σ H Q h=>?_
 obtain⟨ι,S,ρ,rep,re,c⟩:=h;refine⟨ι,S,ρ,rep,re,ak (ai c) fun x Y S1 A e1 rep1 c1 v r=>?_⟩;obtain⟨F,c1⟩:=uj c1;refine⟨by show 2<=sizeLine;decide,fun p B=>?_⟩
 have rep2:=fw (o:=.tup [.ty Ts,.ty Us]) rep1 B;have e2:Ext Y A Y (upd A p (.tup [.ty Ts,.ty Us])):=ef B;exact⟨v,AI x,p,Ts,Us,rfl,aN,AJ rep2 (r.later rep1 e2) F,xj x,C,O,ah c1 e2 rep2 _ (.bl _)⟩
end
section
variable {X:Cx}{E:XD}{a b e c o tg:Expr}{m n l:TM}{pos p2:Pos}{es:List Expr}{ms:aO->M (List D)}
theorem range_all{bs:List Bool}:(List.range bs.length).all (fun i=>bs.getD i false)=bs.all id:=by
 induction bs with
 |nil=>rfl
 |cons b bs ih=>
  rw[KY,Nu,List.all_cons,N6];simp only[List.getD_cons_zero,List.all_cons,id];congr 1
theorem yF(P:X.calm=true):dF X (.builtin "all") (fun xs H Q=>∃(p:Addr) (bs:List Bool),xs=[.ref p]/\jB X.K H p (bs.map V.bl)/\Q (.bl (bs.all id)) H):=by
 intro pins s σ H xs us Q I r h;obtain⟨p,bs,rfl,O,q⟩:=h;obtain⟨u,rfl,L⟩:=vals1 r;cases (show u=Value.ref p from L);obtain⟨its,S,N,y⟩:=I.list O;have W:=N.isList;refine call_all_walk (Nw W ?_);have U:p<s.heap.objs.size:=by obtain⟨o,J,_⟩:=W;exact KF J
 have hlen:=S.length;refine⟨s.heap.objs.size,_,_,_,_,_,fun i=>bs.getD i false,rfl,Walks.list (A:=X.A.in1) (by show X.A.handled=none;exact I.ok.hd P) s.heap.objs.size p (KL U) its.toArray,⟨⟨_,KG _ rfl,rfl,rfl⟩,W.push _⟩,?_,fun h' z G=>?_⟩
 ·intro i v s' w x F T;have Z:its[i]? =some v:=by simpa using F
  have B:i<its.length:=(KC.mp Z).1;have Y:i<bs.length:=by rw[Kx]at hlen;omega
  have:(bs.map V.bl)[i]? =some (.bl bs[i]):=by rw[K1,KB Y];rfl
  obtain⟨u,R,C⟩:=S.get this;rw[Z]at R;cases R;cases (show v=Value.bool bs[i]from C);have:bs.getD i false=bs[i]:=by simp[List.getD,Y]
  dsimp only at T;rw[this]at T;exact LP T
 ·have e1:its.toArray.size=bs.length:=by rw[KN, <-hlen,Kx]
  rw[e1,range_all];refine⟨.bl _,H,I.kept (fun b o e=>G b o ?_ (Kw _ e)),rfl,q⟩;have:b≠s.heap.objs.size:=KL (KF e);simpa using this
def boolsOf:List D->Option (List Bool)
 |[]=>some []
 | .bl i::r=>(boolsOf r).map (i::·)
 |_=>none
theorem gq{K:W.Frag}{ι:List Addr}{H:Hp}:∀{ds:List D} {vs:List V} {ns:List Bool},RelDs K ι H ds vs->boolsOf ds=some ns->vs=ns.map V.bl
 |[],vs,ns,h,e=>by cases e;rw[h.nil_inv];rfl
 | .bl i::ds,vs,ns,h,e=>by
  obtain⟨v,ws,rfl,Z,Y⟩:=h.cons_inv;cases q:boolsOf ds with
  |none=>simp[boolsOf,q]at e
  |some ks=>
   simp[boolsOf,q]at e;subst e;rw[Z.bl_inv,gq Y q];rfl
 | .non::_,_,_,_,e=>by cases e
 | .int _::_,_,_,_,e=>by cases e
 | .str _::_,_,_,_,e=>by cases e
 | .tup _::_,_,_,_,e=>by cases e
 | .lst _::_,_,_,_,e=>by cases e
 | .ro _::_,_,_,_,e=>by cases e
 | .fz _::_,_,_,_,e=>by cases e
 | .emp::_,_,_,_,e=>by cases e
def uk:List D->M D
 |[.lst k]=>do
  let xs<-getL k
  match boolsOf xs with
  |some bs=>pure (.bl (bs.all id))
  |none=>M.fail
 |[.fz xs]=>match boolsOf xs with
  |some bs=>pure (.bl (bs.all id))
  |none=>M.fail
 |_=>M.fail
theorem yG:kA X.K E uk (fun xs H Q=>∃(p:Addr) (bs:List Bool),xs=[.ref p]/\jB X.K H p (bs.map V.bl)/\Q (.bl (bs.all id)) H):=by
 intro ι S H ds vs Q rep r c;unfold uk at c;split at c
 ·next k=>
  obtain⟨v,ws,rfl,T,W⟩:=r.cons_inv;cases W.nil_inv;obtain⟨p,rfl,U⟩:=T.lst_inv;obtain⟨es,us,_,R,Y,Z⟩:=bg c rep U;cases q:boolsOf es with
  |none=>rw[q]at Z;exact(ag Z).elim
  |some bs=>
   rw[q]at Z;refine⟨p,bs,rfl,.of ?_,ah Z .refl rep _ (.bl _)⟩;rw[<-gq Y q];exact R
 ·next es=>
  obtain⟨v,ws,rfl,T,W⟩:=r.cons_inv;cases W.nil_inv;obtain⟨p,o,us,rfl,U,Y⟩:=T.fz_inv;cases q:boolsOf es with
  |none=>rw[q]at c;exact(ag c).elim
  |some bs=>
   rw[q]at c;refine⟨p,bs,rfl,.inl (.inr ⟨o,?_⟩),ah c .refl rep _ (.bl _)⟩;rw[<-gq Y q];exact U
 ·exact(ag c).elim
theorem vQ(Y:X.calm=true)(Z:X.mg "all"=none)(W:SE X E e m)(U:Gl X "all":=by rfl)(hs:starEach [e] X.env=[(false,eval e X.env)]:=by rfl):SE X E (.Call (.Name "all" p) [e] [] pos) (fun ρ=>do let ds<-(do let x<-m ρ;let xs<-pure [];pure (x::xs));uk ds):=
 iT (yF Y) yG U Z (by decide+kernel) (af W aj hs) (by decide) (by decide) hs rfl
def dy:D->List D->M D
 | .lst k,[d]=>do let xs<-getL k;mq k (xs++[d])
 |_,_=>M.fail
def lC:D->List D->M D
 | .lst k,[.lst j]=>do let xs<-getL k;let ys<-getL j;mq k (xs++ys)
 | .lst k,[.fz ys]=>do let xs<-getL k;mq k (xs++ys)
 |_,_=>M.fail
def mw:D->List D->M D
 | .lst k,[.int i]=>do
  let xs<-getL k
  if 0<=i/\i<xs.length then
   match xs[i.toNat]? with
   |some y=>do let _<-mq k (xs.eraseIdx i.toNat);pure y
   |none=>M.fail
  else M.fail
 |_,_=>M.fail
theorem AM{K:W.Frag}{H:Hp}{p:Addr}{xs:List V}(h:H p=some (.lst xs)):JD K "list" (.ref p) H:=.inl ⟨rfl,xs,.of h⟩
def G4:D->M Unit
 | .lst _=>pure ()
 |_=>M.fail
theorem sv{name:Str}{L:String}{f:D->List D->M D}{r:V->List V->Hp->VK->Prop}{Y:Pos}(R:Slot "list" name L)(O:typeOf (.builtin L)=pure (.type "method_descriptor"))(B:JB X L r)
  (t:IM X.K E f r) (A:SE X E o m) (I:SA X E (e::es) ms)
  (W:attributeBase o name X.env (eval o X.env)=eval o X.env:=by rfl)
  (T:((backTo pos (starEach (e::es) X.env)).all (fun x=> !x.1) && (backToKw pos (keywordEach [] X.env)).all (fun x=>x.1.isSome)
   && decide ((e::es).length+([]:List Keyword).length+(if ([]:List Keyword).isEmpty then 0 else 1)<30))=true:=by rfl)
  (U:(Y.endLine==pos.line)=true:=by rfl) (hs:starEach (e::es) X.env=(false,eval e X.env)::starEach es X.env:=by rfl) (Z:(backTo pos (starEach es X.env)).any (·.1)=false:=by rfl):
  SE X E (.Call (.Attribute o name Y) (e::es) [] pos) (fun ρ=>do let x<-m ρ;G4 x;let ds<-ms ρ;f x ds):=by
 refine PE.imp (HK PySem.F.plainAttrs_list R O B A I W T U hs Z) fun σ H Q h=>?_;obtain⟨ι,S,ρ,rep,re,c⟩:=h;refine⟨ι,S,ρ,rep,re,ak (ai c) fun x N S1 s e1 rep1 c1 v J=>?_⟩;cases x with
 |lst k=>
  obtain⟨p,rfl,u⟩:=J.lst_inv;obtain⟨vs,z⟩:=rep1.isL (Le u);have y:=ah (ai c1) .refl rep1;exact⟨AM z,N,S1,ρ,rep1,re.later rep e1,ak (ai y) fun ds P S2 G e2 rep2 C vs w=>t P S2 G (.lst k) ds (.ref p) vs Q rep2 (J.later rep1 e2) w C⟩
 |_=>exact(ag (ai c1)).elim
theorem vR:IM X.K E dy wX:=by
 intro ι S H d ds v vs Q rep r rs c;unfold dy at c;split at c
 ·next k d=>
  obtain⟨p,rfl,Y⟩:=r.lst_inv;obtain⟨w,ws,rfl,O,R⟩:=rs.cons_inv;cases R.nil_inv;obtain⟨es,us,_,U,T,P⟩:=bg c rep Y;obtain⟨Z,W⟩:=iS P rep Y (T.append (.cons O .nil));rw[KD]at Z;exact⟨p,us,w,rfl,rfl,U,KQ (by simp at Z;omega) gy,W _ .non⟩
 ·exact(ag c).elim
def um:V->List V->Hp->VK->Prop:=fun x vs H Q=>∃ l b xs zs,x= .ref l/\vs=[.ref b]/\H l=some (.lst xs)/\Rd H b (.lst zs)/\xs.length+zs.length<=sizeLine/\Q .non (upd H l (.lst (xs++zs)))
theorem vS:JB X "list.extend" um:=by
 intro pins s σ H x vs v us Q I R P h;obtain⟨l,b,xs,zs,rfl,rfl,U,S,G,q⟩:=h;cases R;obtain⟨u,rfl,N⟩:=P.one;cases N;obtain⟨z,its,n,r,K,e⟩:=I.lstM U;obtain⟨J,Z,T,O,L,e2⟩:=Inv.lstR I S;have W:its.toArray.size+Z.toArray.size<=sizeLine:=by rw[KN,KN];omega
 have Y:¬ (!its.toArray.isEmpty && Builtin.List.listTooLong (its.toArray.size+Z.toArray.size))=true:=by
  rw[Al W,OI];exact Mb
 refine call_meets F.slot_list_extend ⟨_,e,rfl⟩ F.entry_list_extend (F.args_list_extend_2 _ _)
  (AutoSeq1.list_extend_list_list_0 l its.toArray n b Z.toArray T Y (by rw[KN];omega) (by omega)) ⟨e,e2,?_⟩
 refine⟨.non,_,I.lset (its':=its++Z) U e (by simp) (r.append O) ?_,rfl,q⟩
 rw[KD];omega
theorem vT:IM X.K E lC um:=by
 intro ι S H d ds v vs Q rep r rs c;unfold lC at c;split at c
 ·next k j=>
  obtain⟨p,rfl,Y⟩:=r.lst_inv;obtain⟨w,ws,rfl,N,P⟩:=rs.cons_inv;cases P.nil_inv;obtain⟨q,rfl,T⟩:=N.lst_inv;obtain⟨es,us,_,U,R,O⟩:=bg c rep Y;obtain⟨fs,ys,_,I,L,J⟩:=bg O rep T;obtain⟨Z,W⟩:=iS J rep Y (R.append L);rw[KD]at Z;exact⟨p,q,us,ys,rfl,rfl,U,.inl I,KP Z gy,W _ .non⟩
 ·next k fs=>
  obtain⟨p,rfl,Y⟩:=r.lst_inv;obtain⟨w,ws,rfl,N,P⟩:=rs.cons_inv;cases P.nil_inv;obtain⟨q,o,ys,rfl,T,L⟩:=N.fz_inv;obtain⟨es,us,_,U,R,O⟩:=bg c rep Y;obtain⟨Z,W⟩:=iS O rep Y (R.append L);rw[KD]at Z;exact⟨p,q,us,ys,rfl,rfl,U,.inr ⟨o,T⟩,KP Z gy,W _ .non⟩
 ·exact(ag c).elim
theorem yH:IM X.K E mw Am:=by
 intro ι S H d ds v vs Q rep r rs c;unfold mw at c;split at c
 ·next k i=>
  obtain⟨p,rfl,W⟩:=r.lst_inv;obtain⟨w,ws,rfl,F,G⟩:=rs.cons_inv;cases G.nil_inv;rw[F.int_inv];obtain⟨es,us,I,L,R,Z⟩:=bg c rep W;split at Z
  ·next hb=>
   cases q:es[i.toNat]? with
   |none=>rw[q]at Z;exact(ag Z).elim
   | some y=>
    rw[q]at Z;obtain⟨J,P,U⟩:=R.get' q;have hlen:=R.length;have N:Ext ι H ι (upd H p (.lst (us.eraseIdx i.toNat))):=sd (Le W);have Y:=RelDs.eraseIdx i.toNat R;have O:=iS (ai Z) rep W Y;have T:us.length<=lim+1:=by
     have:=O.1;rw[List.length_eraseIdx]at this;split at this<;>omega
    refine⟨p,us,i,i.toNat,J,rfl,rfl,L,by omega,by unfold lim at T;omega,?_,P,?_⟩
    ·unfold seqIndex?;simp only[show ¬ i<0 by omega,if_false]
     first|(rw[if_pos (by omega)])|(rw[if_pos (by simp;omega)])|(simp;omega)
    ·exact ah O.2 .refl (se rep W Y) _ (U.later rep N)
  ·exact(ag Z).elim
 ·exact(ag c).elim
theorem fX{Z:Pos}(U:SE X E o m)(T:SE X E e n)
  (W:attributeBase o "append" X.env (eval o X.env)=eval o X.env:=by rfl)
  (Y:(Z.endLine==pos.line)=true:=by rfl) (hs:starEach [e] X.env=[(false,eval e X.env)]:=by rfl):
  SE X E (.Call (.Attribute o "append" Z) [e] [] pos) (fun ρ=>do let x<-m ρ;G4 x;let ds<-(do let y<-n ρ;let ys<-pure [];pure (y::ys));dy x ds):=
 sv PySem.F.slot_list_append PySem.F.type_list_append ma vR U (af T aj hs) W (by rw[hs];rfl) Y hs rfl
theorem yI{Z:Pos}(U:SE X E o m)(T:SE X E e n)
  (W:attributeBase o "extend" X.env (eval o X.env)=eval o X.env:=by rfl)
  (Y:(Z.endLine==pos.line)=true:=by rfl) (hs:starEach [e] X.env=[(false,eval e X.env)]:=by rfl):
  SE X E (.Call (.Attribute o "extend" Z) [e] [] pos) (fun ρ=>do let x<-m ρ;G4 x;let ds<-(do let y<-n ρ;let ys<-pure [];pure (y::ys));lC x ds):=
 sv PySem.F.slot_list_extend PySem.F.type_list_extend vS vT U (af T aj hs) W (by rw[hs];rfl) Y hs rfl
theorem AN{Z:Pos}(U:SE X E o m)(T:SE X E e n)
  (W:attributeBase o "pop" X.env (eval o X.env)=eval o X.env:=by rfl)
  (Y:(Z.endLine==pos.line)=true:=by rfl) (hs:starEach [e] X.env=[(false,eval e X.env)]:=by rfl):
  SE X E (.Call (.Attribute o "pop" Z) [e] [] pos) (fun ρ=>do let x<-m ρ;G4 x;let ds<-(do let y<-n ρ;let ys<-pure [];pure (y::ys));mw x ds):=
 sv PySem.F.slot_list_pop PySem.F.type_list_pop An yH U (af T aj hs) W (by rw[hs];rfl) Y hs rfl
theorem yJ:JH X.K E jQ Ei:=by
 intro ι S H I L G v1 v2 N Q rep O P U c;unfold jQ at c;split at c
 ·next k j=>
  obtain⟨p,rfl,W⟩:=O.lst_inv;obtain⟨es,us,_,R,Y,Z⟩:=bg c rep W;cases q:yt es.length j with
  |none=>rw[q]at Z;exact(ag Z).elim
  |some at'=>
   rw[q]at Z;obtain⟨J,T⟩:=iS (ai Z) rep W (RelDs.set U at' Y);refine⟨p,us,j,at',rfl,P.int_inv,R,by rw[<-Y.length];exact q,?_⟩
   exact ah T .refl (se rep W (RelDs.set U at' Y))
 ·exact(ag c).elim
theorem xk(L:SE X E o m)(U:SE X E i n)(T:∀ v,assign (.Subscript o i pos) X.env v=(do
   let ov<-holding [v] (eval o X.env);let iv<-holding [v,ov] (eval i X.env)
   standAt pos
   holding [v,ov,iv] (setItem ov iv v)
   release [v,ov,iv] []):=by intro _;rfl):SG X E (.Subscript o i pos) (fun d ρ=>do let x<-m ρ;let y<-n ρ;jQ x y d;pure ρ):=by
 refine PG.imp (EZ L U set_list T) fun v σ H Q h=>?_;obtain⟨ι,S,ρ,d,rep,re,r,c⟩:=h;refine⟨ι,S,ρ,rep,re,ak (ai c) fun x W S1 I e1 rep1 c1 v1 O=>?_⟩;refine⟨W,S1,ρ,rep1,re.later rep e1,ak (ai c1) fun y Z S2 R e2 rep2 K v2 J=>?_⟩;have Y:=(re.later rep e1).later rep1 e2;refine yJ (E:=E) Z S2 R x y d v1 v2 v _ rep2 (O.later rep1 e2) J ((r.later rep e1).later rep1 e2) (ak (ai K) fun _ N G F e3 rep3 P=>?_);exact ah P .refl rep3 σ (Y.later rep2 e3)
def aX(lo:Int)(n:Nat):List D:=(List.range n).map fun i=>.int (lo+(i:Nat))
def kK:List D->M Iter
 |[.int j]=>if -(2 ^ 62)<=j/\j<2 ^ 62 then pure ⟨aX 0 j.toNat,.none⟩else M.fail
 |_=>M.fail
def kg:List D->M Iter
 |[.int i,.int j]=>if -(2 ^ 62)<=i/\i<2 ^ 62/\ -(2 ^ 62)<=j/\j<2 ^ 62 then pure ⟨aX i (j - i).toNat,.none⟩else M.fail
 |_=>M.fail
theorem lD{K:W.Frag}{Y:Int}{n:Nat}{ι:List Addr}{H:Hp}:jd K ⟨aX Y n,.none⟩ (Hr Y n) ι H:=by
 intro T R S2 e rep ok i;refine⟨fun d hd=>?_,fun h=>?_⟩
 ·have Z:((List.range n)[i]?).map (fun i:Nat=>D.int (Y+(i:Nat)))=some d:=by
   have:(aX Y n)[i]? =some d:=hd;unfold aX at this;rw[K1]at this;exact this
  have U:i<n:=by
   by_cases h:i<n
   ·exact h
   ·rw[LL (by simp;omega)]at Z;cases Z
  rw[M6 U]at Z;cases Z;exact⟨U,fun x Q S=>by obtain⟨rfl,rfl⟩:=S;exact⟨.refl,rep,.int _⟩⟩
 ·have h':(aX Y n).length<=i:=h;unfold aX at h';rw[Kx,Lp]at h';exact h'
theorem fY(Z:X.mg "range"=none)(Y:SE X E a m)(U:Gl X "range":=by rfl)(hs:starEach [a] X.env=[(false,eval a X.env)]:=by rfl):
  SI X E tg (.Call (.Name "range" p) [a] [] pos) (fun ρ=>do let ds<-(do let x<-m ρ;let xs<-pure [];pure (x::xs));kK ds):=by
 intro pins s σ H R I h;refine yh U Z (af Y aj hs) hs pins s σ H R I ?_;obtain⟨ι,S,ρ,rep,re,c⟩:=h;refine⟨ι,S,ρ,rep,re,ak (ai c) fun ds Q S1 P e1 rep1 c1 vs r=>?_⟩;unfold kK at c1;split at c1
 ·next j=>
  obtain⟨w,ws,rfl,T,W⟩:=r.cons_inv;cases W.nil_inv;split at c1
  ·next hb=>rw[T.int_inv];exact⟨j,rfl,hb.1,hb.2,ah c1 .refl rep1 _ lD⟩
  ·exact(ag c1).elim
 ·exact(ag c1).elim
theorem iV(W:X.mg "range"=none)(T:SE X E a m)(Y:SE X E b n)(N:Gl X "range":=by rfl)(hs:starEach [a,b] X.env=[(false,eval a X.env),(false,eval b X.env)]:=by rfl)(Z:starEach [b] X.env=[(false,eval b X.env)]:=by rfl):
  SI X E tg (.Call (.Name "range" p) [a,b] [] pos) (fun ρ=>do let ds<-(do let x<-m ρ;let xs<-(do let y<-n ρ;let ys<-pure [];pure (y::ys));pure (x::xs));kg ds):=by
 intro pins s σ H R I h;refine yi N W (af T (af Y aj Z) (by rw[hs,Z])) hs Z pins s σ H R I ?_
 obtain⟨ι,S,ρ,rep,re,c⟩:=h;refine⟨ι,S,ρ,rep,re,ak (ai c) fun ds K S1 J e1 rep1 c1 vs r=>?_⟩;unfold kg at c1;split at c1
 ·next i j=>
  obtain⟨w,ws,rfl,L,Q⟩:=r.cons_inv;obtain⟨G,P,rfl,O,U⟩:=Q.cons_inv;cases U.nil_inv;split at c1
  ·next Y=>rw[L.int_inv,O.int_inv];exact⟨i,j,rfl,Y,ah c1 .refl rep1 _ lD⟩
  ·exact(ag c1).elim
 ·exact(ag c1).elim
def HZ:D->M Iter
 | .lst k=>do let xs<-getL k;pure ⟨xs,.some k⟩
 | .tup ds=>pure ⟨ds,.none⟩
 | .ro ds=>pure ⟨ds,.none⟩
 | .fz ds=>pure ⟨ds,.none⟩
 |_=>M.fail
theorem uo{K:W.Frag}{k:Nat}{a:Addr}{xs:List D}{ι:List Addr}{H:Hp}(Q:ι[k]? =some a):jd K ⟨xs,.some k⟩ (IJ K a) ι H:=by
 intro S P S2 e rep ok i;obtain⟨vs,Z,U⟩:=rep.get k a xs (e.at Q) ok;refine⟨fun d hd=>?_,fun h=>⟨vs,.of Z,by rw[<-U.length];exact h⟩⟩
 obtain⟨v,T,R⟩:=U.get' hd;refine⟨⟨vs,v,.of Z,T⟩,fun x O Y=>?_⟩;obtain⟨rfl,Y⟩:=Y;have:=Y vs (.of Z);rw[T]at this;cases this;exact⟨.refl,rep,R⟩
theorem vU{K:W.Frag}{a:Addr}{ds:List D}{vs:List V}{ι:List Addr}{S:aB}{H:Hp}(Y:Rep K ι H S)(T:H a=some (.tup vs))(r:RelDs K ι H ds vs):jd K ⟨ds,.none⟩ (Jr K a) ι H:=by
 intro Q N S2 e rep2 ok i;have Z:=(e.oth a _ T (Y.notIn T (by intro _ z;cases z)) (by intro _ z;cases z) (by intro _ z;cases z)).1
 have O:=r.laterN Y e;refine⟨fun d hd=>?_,fun h=>⟨vs,.of Z,by rw[<-r.length];exact h⟩⟩
 obtain⟨v,R,P⟩:=O.get' hd;refine⟨⟨vs,v,.of Z,R⟩,fun x L U=>?_⟩;obtain⟨rfl,U⟩:=U;have:=U vs (.of Z);rw[R]at this;cases this;exact⟨.refl,rep2,P⟩
theorem qN{K:W.Frag}{a:Addr}{ds:List D}{vs:List V}{ι:List Addr}{S:aB}{H:Hp}(Z:Rep K ι H S)(O:Cs K H a vs)(r:RelDs K ι H ds vs):jd K ⟨ds,.none⟩ (IJ K a) ι H:=by
 intro Q T S2 e rep2 ok i;have Y:Cs K T a vs:=O.imp (fun⟨o,h⟩=>⟨o,(e.oth a _ h (Z.notIn h (by intro _ z;cases z)) (by intro _ z;cases z) (by intro _ z;cases z)).1⟩) fun z=>z
 have N:=r.laterN Z e;have sq:jB K T a vs:=Y.sq;refine⟨fun d hd=>?_,fun h=>⟨vs,sq,by rw[<-r.length];exact h⟩⟩
 obtain⟨v,R,P⟩:=N.get' hd;refine⟨⟨vs,v,sq,R⟩,fun x L U=>?_⟩;obtain⟨rfl,U⟩:=U;have:=U vs sq;rw[R]at this;cases this;exact⟨.refl,rep2,P⟩
theorem kL(T:SE X E e m):SI X E tg e (fun ρ=>do let x<-m ρ;HZ x):=by
 intro pins s σ H R I h;obtain⟨ι,S,ρ,rep,re,c⟩:=h;obtain⟨r,Q,P,k⟩:=id (ai c);cases r with
 |ex x=>
  refine lb T pins s σ H R I ⟨ι,S,ρ,rep,re,.ex x,Q,P,k⟩
 | ok d=>
  cases d with
  |tup ds=>
   refine E9 T pins s σ H R I ⟨ι,S,ρ,rep,re,.ok (.tup ds),Q,P,fun Z W e1 rep1 v U=>?_⟩;obtain⟨p,vs,rfl,Y,O⟩:=U.tup_inv;exact⟨p,rfl,⟨vs,.of Y⟩,ah (k Z W e1 rep1) .refl rep1 _ (vU rep1 Y O)⟩
  |lst j=>
   refine lb T pins s σ H R I ⟨ι,S,ρ,rep,re,.ok (.lst j),Q,P,fun Z W e1 rep1 v U=>?_⟩;obtain⟨p,rfl,Y⟩:=U.lst_inv;obtain⟨es,us,_,N,K,L⟩:=bg (k Z W e1 rep1) rep1 Y;exact⟨p,rfl,⟨us,.of N⟩,ah L .refl rep1 _ (uo Y)⟩
  |ro ds=>
   refine lb T pins s σ H R I ⟨ι,S,ρ,rep,re,.ok (.ro ds),Q,P,fun Z W e1 rep1 v U=>?_⟩;obtain⟨p,vs,rfl,Y,O⟩:=U.ro_inv;exact⟨p,rfl,⟨vs,Y.sq⟩,ah (k Z W e1 rep1) .refl rep1 _ (qN rep1 Y O)⟩
  |fz ds=>
   refine lb T pins s σ H R I ⟨ι,S,ρ,rep,re,.ok (.fz ds),Q,P,fun Z W e1 rep1 v U=>?_⟩;obtain⟨p,o,vs,rfl,Y,O⟩:=U.fz_inv;exact⟨p,rfl,⟨vs,.inl (.inr ⟨o,Y⟩)⟩,ah (k Z W e1 rep1) .refl rep1 _ (qN rep1 (.inl ⟨o,Y⟩) O)⟩
  |_=>exact lb T pins s σ H R I ⟨ι,S,ρ,rep,re,.ok _,Q,P,fun Z W e1 rep1 v U=>(ag (k Z W e1 rep1)).elim⟩
theorem uq:dF X (.type "range") (fun xs H Q=>∃ j,xs=[.int j]/\∀ p,H p=none->Q (.ref p) (upd H p (.rng 0 j))):=by
 intro pins s σ H xs us Q I r h;obtain⟨j,rfl,q⟩:=h;obtain⟨u,rfl,Z⟩:=vals1 r;obtain⟨t,rfl⟩:=(show ∃ t,u=Value.int j t from Z);refine call_range_1 ⟨.ref s.heap.objs.size,_,I.laid (o:=.rng 0 j) (fun b o e=>Kw _ e) (Kz _) ⟨_,_,_,KG _ rfl⟩,rfl,q _ (I.hok.fresh (Kz _))⟩
theorem qj(T:X.calm=true):dF X (.type "list") (fun xs H Q=>∃(p:Addr) (j:Int),xs=[.ref p]/\H p=some (.rng 0 j)/\ -(2 ^ 62)<=j/\j<=lim/\∀ l,H l=none->Q (.ref l) (upd H l (.lst ((List.range j.toNat).map fun i:Nat=>V.int (i:Nat))))):=by
 intro pins s σ H xs us Q I r h;obtain⟨p,j,rfl,S,F,J,q⟩:=h;obtain⟨u,rfl,N⟩:=vals1 r;cases (show u=Value.ref p from N);obtain⟨t,u,v,P⟩:=(show bj X.prog X.w H s.heap p (.rng 0 j)from I.hok p _ S);have W:Builtin.Range.rangeSize 0 j 1=(j.toNat:Int):=by rw[rangeSize_one];split<;>omega
 have Z:j.toNat<=lim:=by omega
 refine call_list_range (I.ok.hd T) P (small_one (by omega) (by omega) F (by unfold lim at J;omega)) W (by unfold lim at Z;omega) fun h' L acc O G K hit=>?_
 refine⟨.ref s.heap.objs.size,_,I.laid (t':=L) G (Kz _) (o:=.lst ((List.range j.toNat).map fun i:Nat=>V.int (i:Nat))) ?_,rfl,q _ (I.hok.fresh (Kz _))⟩;refine⟨by rw[Kx,Lp];exact KP Z gy,acc.toList,O,?_,by simpa using K⟩
 obtain⟨hs,R⟩:=hit;have gen:∀(l:List Value) (f:Nat->Int),(∀ i v,l[i]? =some v->∃ t,v=Value.int (f i) t)->bo ((List.range l.length).map fun i:Nat=>V.int (f i)) l:=by
  intro l
  induction l with
  |nil=>intro f _;exact .nil
  |cons x l ih=>
   intro f hf;rw[KY,Nu,K3,Ll];obtain⟨t,Y⟩:=hf 0 x rfl;refine .cons ⟨t,Y⟩ ?_;exact ih (fun i=>f (i+1)) fun i v U=>hf (i+1) v (by simpa using U)
 have:=gen acc.toList (fun i=>(i:Int)) fun i v U=>by
  obtain⟨t,Y⟩:=R i v (by simpa using U)
  exact⟨t,by rw[Y];congr 1;omega⟩
 rw[My,hs]at this;exact this
def e9:List D->M D
 |[.int j]=>if -(2 ^ 62)<=j/\j<=lim then bM (aX 0 j.toNat)else M.fail
 |_=>M.fail
theorem oC{K:W.Frag}{ι:List Addr}{H:Hp}:∀(l:List Nat),RelDs K ι H (l.map fun i:Nat=>D.int (0+(i:Nat))) (l.map fun i:Nat=>V.int (i:Nat))
 |[]=>.nil
 |x::l=>.cons (by show RelD K ι H (D.int (0+(x:Int))) (V.int (x:Int));rw[Mo];exact .int _) (oC l)
theorem sx(R:X.calm=true)(T:X.mg "list"=none)(Y:X.mg "range"=none)(O:SE X E a m)(L:Gl X "list":=by rfl)(W:Gl X "range":=by rfl)(hs:starEach [a] X.env=[(false,eval a X.env)]:=by rfl)
  (Z:starEach [.Call (.Name "range" q) [a] [] pos2] X.env=[(false,eval (.Call (.Name "range" q) [a] [] pos2) X.env)]:=by rfl):
  SE X E (.Call (.Name "list" p) [.Call (.Name "range" q) [a] [] pos2] [] pos) (fun ρ=>do let ds<-(do let x<-m ρ;let xs<-pure [];pure (x::xs));e9 ds):=by
 refine PE.imp (kb (qj R) L T (by decide+kernel) (eV (kb uq W Y (by decide+kernel) (af O aj hs) (by decide) (by decide) hs rfl) jJ Z) (by decide) (by decide) Z rfl) fun σ H Q h=>?_
 obtain⟨ι,S,ρ,rep,re,c⟩:=h;refine⟨ι,S,ρ,rep,re,ak (ai c) fun ds J S1 I e1 rep1 c1 vs r=>?_⟩;unfold e9 at c1;split at c1
 ·next j=>
  obtain⟨w,ws,rfl,K,N⟩:=r.cons_inv;cases N.nil_inv;split at c1
  ·next hb=>
   rw[K.int_inv];refine⟨j,rfl,fun p U=>?_⟩;have rep2:=fw (o:=.rng 0 j) rep1 U;refine⟨p,j,rfl,aN,hb.1,hb.2,?_⟩;have P:=fV c1 (ef (o:=.rng 0 j) U);exact(bt P rep2 (oC (List.range j.toNat))).2
  ·exact(ag c1).elim
 ·exact(ag c1).elim
end
section
variable {X:Cx}{E:XD}{a b c d e:Expr}{m n l k:TM}{pos p2:Pos}
theorem FK:SE X E (.Dict [] [] pos) (fun _=>pure .emp):=by
 intro pins s σ H Q I h;obtain⟨ι,S,ρ,rep,re,Y⟩:=h;have big:sysModules<s.heap.objs.size:=N5 (by decide) (I.mod.glob.keeps I.bk).lt
 have hf:H s.heap.objs.size=none:=I.hok.fresh (Kz _);have Z:bj X.prog X.w (upd H s.heap.objs.size (.dK [])) (s.heap.push {cls:=.type "dict",data:=.dict #[]}) s.heap.objs.size (.dK []):=⟨K5 _,beq_eq_false_iff_ne.mpr (Ne.symm (KL big)),[],.nil,Heap.DictOf.new s.heap⟩;refine wpAny_Dict_empty ⟨.ref s.heap.objs.size,upd H s.heap.objs.size (.dK []),I.laid (t':=s.toks) (fun _ _ q=>Kw _ q) (Kz _) Z,rfl,?_⟩;exact ah Y (ef hf) (fw rep hf) _ (.emp aN)
end
section
variable {X:Cx}{E:XD}{e:Expr}{m:TM}{te:TE}{pos p1 p2 p3:Pos}{j:Nat}
end
def insI(x:Int):List Int->List Int
 |[]=>[x]
 |y::r=>if x<=y then x::y::r else y::insI x r
def sortI:List Int->List Int
 |[]=>[]
 |x::r=>insI x (sortI r)
theorem insI_perm(x:Int):∀ l,(insI x l).Perm (x::l)
 |[]=>.refl _
 |y::r=>by
  unfold insI;split
  ·exact .refl _
  ·exact(List.Perm.cons y (insI_perm x r)).trans (List.Perm.swap x y r)
theorem sortI_perm:∀ l,(sortI l).Perm l
 |[]=>.refl _
 |x::r=>(insI_perm x _).trans (List.Perm.cons x (sortI_perm r))
theorem mT(x:Int):∀{l:List Int},l.Pairwise (· <=·)->(insI x l).Pairwise (· <=·)
 |[],_=>by simp[insI]
 | y::r,h=>by
  obtain⟨Y,X⟩:=Ls.mp h;unfold insI;split
  ·next c=>
   refine Ls.mpr ⟨fun z Z=>?_,h⟩;rcases K2.mp Z with rfl|Z
   ·exact c
   ·exact Int.le_trans c (Y z Z)
  ·next c=>
   refine Ls.mpr ⟨fun z Z=>?_,mT x X⟩;rcases K2.mp ((insI_perm x r).mem_iff.mp Z)with rfl|Z
   ·omega
   ·exact Y z Z
theorem lE:∀ l,(sortI l).Pairwise (· <=·)
 |[]=>.nil
 |x::r=>mT x (lE r)
section
variable {X:Cx}{E:XD}{e:Expr}{m:TM}{pos:Pos}
theorem sy:dF X (.builtin "sorted") (fun xs H Q=>∃(p:Addr) (ns:List Int),xs=[.ref p]/\jB X.K H p (ns.map V.int)/\ns.length<64/\∀ l,H l=none->Q (.ref l) (upd H l (.lst ((sortI ns).map V.int)))):=by
 intro pins s σ H xs us Q I r h;obtain⟨p,ns,rfl,U,S,q⟩:=h;obtain⟨u,rfl,O⟩:=vals1 r;cases (show u=Value.ref p from O);obtain⟨its,Y,R,N⟩:=I.list U;have P:IntsAre its ns:=Oe Y;have hlen:=Y.length;rw[Kx]at hlen;refine sorted_ints R.isList P (by omega) fun out Z a1 a2 a3=>?_
 have en:Z=sortI ns:=W.lks_uniq (a2.trans (sortI_perm ns).symm) a3 (lE ns);subst en;obtain⟨c,T⟩:=sortedAll_at s.heap its out;have hf:H (s.heap.objs.size+1)=none:=I.hok.fresh (M5 _);refine⟨.ref (s.heap.objs.size+1),_,I.laid (t':=s.toks) (o:=.lst ((sortI ns).map V.int)) (fun b o e=>sortedAll_old e) (M5 _) ⟨?_,out.toList,c,kc a1,T⟩,rfl,q _ hf⟩;rw[Kx,(sortI_perm ns).length_eq,LK];omega
theorem oE{K:W.Frag}{ι:List Addr}{H:Hp}:∀ ns:List Int,RelDs K ι H (ns.map D.int) (ns.map V.int)
 |[]=>.nil
 |n::r=>.cons (.int n) (oE r)
end
end S3
namespace S3
open PySem PySem.Spec PySem.W PyProof.Rows L2
theorem oF{h:Heap}:∀{vs:List Value},(∀ v∈vs,∃ a o us n i t,v= .ref a/\h.get? a=some o/\o.cls= .type "tuple"/\o.data= .seq us n/\us[0]? =some (Value.int i t))->
  ∃ fs,KatTups h vs fs/\fs.length=vs.length/\∀ f∈fs,∃ i t,f=Value.int i t
 |[],_=>⟨[],.nil,rfl,fun _ z=>nomatch z⟩
 |v::vs,hv=>by
  obtain⟨a,o,us,n,i,t,rfl,e1,e2,e3,Z⟩:=hv v KR;obtain⟨fs,k1,k2,k3⟩:=oF fun Y h'=>hv Y (KJ _ h');refine⟨_::fs,.cons e1 e2 e3 Z k1,by simp[k2],fun f hf=>?_⟩
  rcases K2.mp hf with rfl|hf
  ·exact⟨i,t,rfl⟩
  ·exact k3 f hf
theorem jg:∀ ns:List Int,HT.lexLt ns ns=false
 |[]=>rfl
 |n::r=>by rw[HT.lexLt_cons,if_pos rfl];exact jg r
theorem vV:∀{a b c:List Int},HT.lexLt a b=true->HT.lexLt b c=true->HT.lexLt a c=true
 |[],[],c,h,_=>by cases h
 |[],_::_,[],_,h=>by cases h
 |[],_::_,_::_,_,_=>rfl
 |_::_,[],c,h,_=>by cases h
 |_::_,_::_,[],_,h=>by cases h
 | x::a,y::b,z::c,h1,h2=>by
  rw[HT.lexLt_cons]at h1 h2 ⊢;split at h1
  ·next e=>
   subst e;split at h2
   ·next e2=>subst e2;rw[if_pos rfl];exact vV h1 h2
   ·next e2=>rw[if_neg e2];exact h2
  ·next e=>
   have Y:x<y:=Lx h1;split at h2
   ·next e2=>subst e2;rw[if_neg e];exact h1
   ·next e2=>
    have Z:y<z:=Lx h2;rw[if_neg (by omega)];exact KU (by omega)
theorem sA:∀{a b c:List Int},HT.lexLt a c=true->HT.lexLt a b=true\/HT.lexLt b c=true
 |a,b,[],h=>by cases a<;>cases h
 |[],[],_::_,_=>.inr rfl
 |[],_::_,_::_,_=>.inl rfl
 |_::_,[],_::_,_=>.inr rfl
 | x ::a,y::b,z::c,h=>by
  rw[HT.lexLt_cons]at h;rw[HT.lexLt_cons,HT.lexLt_cons];split at h
  ·next e=>
   subst e;by_cases e2:x=y
   ·subst e2;rw[if_pos rfl,if_pos rfl];exact sA h
   ·rw[if_neg e2,if_neg (Ne.symm e2)];rcases Int.lt_or_gt_of_ne e2 with l|l
    ·exact .inl (KU l)
    ·exact .inr (KU l)
  ·next e=>
   have h':x<z:=Lx h;by_cases e2:x=y
   ·subst e2;rw[if_neg e];exact .inr (KU h')
   ·rw[if_neg e2];by_cases l:x<y
    ·exact .inl (KU l)
    ·refine .inr ?_;rw[if_neg (by omega)];exact KU (by omega)
theorem AO(x:bj P w H h a o):∃ Z,h.get? a=some Z:=by
 cases o with
 |lst xs=>obtain⟨_,_,_,_,e⟩:=x;exact⟨_,e⟩
 |tup xs=>obtain⟨_,_,_,Z,e,_⟩:=x;exact⟨_,e⟩
 |dK kvs=>obtain⟨_,_,_,_,o,_,_,e,_⟩:=x;exact⟨_,e⟩
 |dT kvs=>obtain⟨_,_,_,_,o,_,_,e,_⟩:=x;exact⟨_,e⟩
 |set S n=>obtain⟨o,_,_,_,e,_⟩:=x;exact⟨_,e⟩
 |ins C dx fs=>obtain⟨_,_,_,e,_⟩:=x;exact⟨_,e⟩
 |own y=>exact x
 |xd fs=>obtain⟨_,⟨_,_,_,e,_⟩,_⟩:=x;exact⟨_,e⟩
 |rng lo hi=>obtain⟨_,_,_,e⟩:=x;exact⟨_,e⟩
 |frz Z u=>exact⟨_,x.1⟩
 |tbl ps=>exact⟨_,show h.get? a=some _ from x⟩
 |met f y=>exact⟨_,show h.get? a=some _ from x⟩
 |ext φ=>exact x.2.1
section
variable {X:Cx}{pins:List (Addr×Obj)}{σ:L2.St}{H:Hp}{s:Shared}
theorem vW{us:List Value}(I:L2.Inv X pins σ H s)(K:Fr X.base X.env.locals s.heap m)(F:Fr X.base X.env.locals h2 m)
  (U:∀ b o,b≠X.env.locals->s.heap.get? b=some o->h2.get? b=some o) (R:s.heap.get? d=none) (C:h2.get? d=some {cls:=.type "list",data:=.seq us.toArray n}) (J:bo ys us) (G:ys.length<=sizeLine):
  L2.Inv X pins σ (upd H d (.lst ys)) {s with heap:=h2}:=by
 have Y:H d=none:=by
  cases e:H d with
  |none=>rfl
  |some o=>obtain⟨E,q⟩:=AO (I.hok d o e);rw[R]at q;cases q
 have W:∀ b o,H b=some o->b≠X.env.locals:=fun b o e z=>by rw[z,I.free]at e;cases e
 have old:∀ b o,s.heap.get? b=some o->b≠d:=fun b o e z=>by rw[z,R]at e;cases e
 refine I.step (g':=s.gens) (d':=s.drawn) (t':=s.toks) (ch:=[]) (fun _ z=>nomatch z) (fun b o Z _ _ e _=>U b o Z e) (fun b o Z _ _ e _=>⟨o.slots,U b o Z e⟩)
  (fun b o _ e n=>by rw[aE (old b o e)];exact n) (fun b o _ e=>?_) (fun b xs e=>by rw[aE (aK e Y)];exact e) (fun b E u e=>by rw[aE (aK e Y)];exact e)
  (fun b A e=>⟨#[],by rw[aE (aK e Y),e];simp⟩) (fun P hm=>?_) (fun b u e=>?_) I.bare
 ·by_cases Z:b=X.env.locals
  ·obtain⟨B,_,_,N,_⟩:=F.ns;exact⟨B,by rw[Z];exact N⟩
  ·exact⟨o,U b o Z e⟩
 ·have:P=m:=by
   obtain⟨y,es,ep,e1,Q,_,g1⟩:=hm;obtain⟨o2,L,O,e2,S,_,g2⟩:=K.ns;rw[e1]at e2;cases e2;rw[Q]at S;cases S;funext x;rw[<-g1 x, <-g2 x]
  rw[this];exact F.ns
 ·by_cases Z:b=d
  ·subst Z;rw[aN]at e;cases e;exact⟨G,us,n,J,C⟩
  ·rw[aE Z]at e;refine(I.hok b u e).stay (fun c v T z=>U c v ?_ z) (fun c z=>by rw[aE (aK z Y)];exact z) fun c xs z=>by rw[aE (aK z Y)];exact z
   rcases T with rfl|T
   ·exact W _ _ e
   ·exact W _ _ T
end
section
variable {X:Cx}
end
end S3
namespace S4
open PySem PySem.SetTable
def tb(m:Nat):SetTable:=⟨m, #[], #[],0,true,0,true⟩
def cq(m:Nat)(h:Int):Nat->Probe
 |0=>(tb m).probeStart h
 |k+1=>(tb m).advance (cq m h k)
theorem FL(t:SetTable)(h:Int)(k:Nat):t.advance (cq t.mask h k)=cq t.mask h (k+1):=rfl
theorem yK(t:SetTable)(p:Probe)(Z:p.dummy=none):(t.advance p).dummy=none:=by
 unfold advance;split
 ·exact Z
 ·exact Z
theorem oG(m:Nat)(h:Int):∀ k,(cq m h k).dummy=none
 |0=>rfl
 |k+1=>yK _ _ (oG m h k)
def gm(m:Nat)(h:Int):Nat->Nat×Nat
 |0=>(bits h % (m+1),bits h)
 |n+1=>leap m (gm m h n).1 (gm m h n).2
def run(m i:Nat):Nat:=runEnd m i - i
theorem FM(m i:Nat):run m i<=9:=by
 unfold run runEnd;split<;>omega
def p9(m:Nat)(h:Int):Nat->Nat
 |0=>0
 |n+1=>p9 m h n+run m (gm m h n).1+1
theorem AQ(m:Nat)(h:Int):∀ n,p9 m h n<=10*n
 |0=>Kz _
 |n+1=>by
  have:=AQ m h n;have:=FM m (gm m h n).1;show p9 m h n+run m (gm m h n).1+1<=10*(n+1);omega
theorem sC(m:Nat)(h:Int)(n:Nat)(e:cq m h (p9 m h n)=⟨(gm m h n).1,run m (gm m h n).1,(gm m h n).1,(gm m h n).2,none⟩):
  ∀ r,r<=run m (gm m h n).1->cq m h (p9 m h n+r)=⟨(gm m h n).1+r,run m (gm m h n).1 - r,(gm m h n).1,(gm m h n).2,none⟩
 |0,_=>e
 |r+1,hr=>by
  have Z:=sC m h n e r (by omega)
  show(tb m).advance (cq m h (p9 m h n+r))=_;rw[Z];unfold advance;simp only;rw[if_pos (by omega)]
  simp only[Probe.mk.injEq,and_true,true_and];omega
theorem oH(m:Nat)(h:Int):∀ n,cq m h (p9 m h n)=⟨(gm m h n).1,run m (gm m h n).1,(gm m h n).1,(gm m h n).2,none⟩
 |0=>rfl
 |n+1=>by
  have e:=sC m h n (oH m h n) _ (Kz _);show(tb m).advance (cq m h (p9 m h n+run m (gm m h n).1))=_;rw[e];unfold advance;simp only;rw[if_neg (by omega)]
  rfl
theorem sD(m:Nat)(h:Int)(n r:Nat)(Z:r<=run m (gm m h n).1):(cq m h (p9 m h n+r)).j=(gm m h n).1+r:=by
 rw[sC m h n (oH m h n) r Z]
theorem xm(m:Nat)(h:Int):∀ n,(gm m h n).2=bits h / 32 ^ n
 |0=>by simp[gm]
 |n+1=>by
  show(gm m h n).2 / 32=_;rw[xm m h n,Nat.div_div_eq_div_mul,Nat.pow_succ]
theorem C8(h:Int):bits h<2 ^ 64:=by
 unfold bits;have Y:0<=h % (2 ^ 64:Int):=Nk _ (by decide)
 have Z:h % (2 ^ 64:Int)<2 ^ 64:=MN _ (by decide)
 omega
theorem JK(m:Nat)(h:Int)(n:Nat):(gm m h (13+n)).2=0:=by
 rw[xm];refine Nat.div_eq_of_lt (KQ (C8 h) ?_);have:(2:Nat) ^ 64<=32 ^ 13:=by decide
 exact KP this (Nat.pow_le_pow_right (by decide) (by omega))
def Ia(m:Nat):Nat->Nat->Nat
 |0,a=>a
 |n+1,a=>(Ia m n a*5+1) % (m+1)
theorem vX(m:Nat)(h:Int):∀ n,(gm m h (13+n)).1=Ia m n (gm m h 13).1
 |0=>rfl
 |n+1=>by
  show((gm m h (13+n)).1*5+1+(gm m h (13+n)).2 / 32) % (m+1)=(Ia m n (gm m h 13).1*5+1) % (m+1);rw[JK,vX m h n]
theorem AR(m:Nat)(h:Int):∀ n,(gm m h n).1<m+1
 |0=>Og _ (by omega)
 |n+1=>Og _ (by omega)
theorem JL:∀ a,a<8->∀ j,j<8->∃ n,n<8/\Ia 7 n a=j:=by decide+kernel
theorem Ib:∀ a,a<32->∀ j,j<32->∃ n,n<32/\Ia 31 n a=j:=by decide+kernel
def En(m:Nat):Prop:=m=7\/m=31
theorem AS(Y:En m)(h:Int)(j:Nat)(W:j<=m):∃ n,n<m+14/\(gm m h n).1=j:=by
 rcases Y with rfl|rfl
 ·obtain⟨n,X,Z⟩:=JL _ (AR 7 h 13) j (by omega)
  exact⟨13+n,by omega,by rw[vX];exact Z⟩
 ·obtain⟨n,X,Z⟩:=Ib _ (AR 31 h 13) j (by omega)
  exact⟨13+n,by omega,by rw[vX];exact Z⟩
theorem cover(Z:En m)(h:Int)(j:Nat)(Y:j<=m):∃ K,K<10*turns m/\(cq m h K).j=j:=by
 obtain⟨n,W,X⟩:=AS Z h j Y;refine⟨p9 m h n,?_,by rw[oH];exact X⟩
 have:=AQ m h n;unfold turns;omega
theorem qO(h:i<m+1):i+run m i<=m:=by
 unfold run runEnd;split<;>omega
theorem FN{p:Probe}(h:p.j+p.more<=m):((tb m).advance p).j+((tb m).advance p).more<=m:=by
 unfold advance;split
 ·simp only;omega
 ·simp only[leap];exact qO (Og _ (by omega))
theorem qP(m:Nat)(h:Int):∀ k,(cq m h k).j+(cq m h k).more<=m
 |0=>qO (Og _ (by omega))
 |k+1=>FN (qP m h k)
theorem C9(m:Nat)(h:Int)(k:Nat)(_:En m):(cq m h k).j<=m:=KP (MG _ _) (qP m h k)
def Da(xs:Array Nat):Prop:=∀(i j a b:Nat),i<j->xs[i]? =some a->xs[j]? =some b->a<b
theorem oJ(X:Da xs):∀(fuel lo hi:Nat),lo<=hi->hi<=xs.size->hi - lo<=fuel->(∀(i a:Nat),i<lo->xs[i]? =some a->a<j)->(∀(i a:Nat),hi<=i->xs[i]? =some a->j<=a)->
  below.go xs j fuel lo hi<=xs.size/\(∀(i a:Nat),i<below.go xs j fuel lo hi->xs[i]? =some a->a<j)/\(∀(i a:Nat),below.go xs j fuel lo hi<=i->xs[i]? =some a->j<=a)
 |0,lo,hi,h1,h2,h3,h4,h5=>by
  have:lo=hi:=by omega
  subst this;exact⟨h2,h4,h5⟩
 | fuel+1,lo,hi,h1,h2,h3,h4,h5=>by
  unfold below.go;by_cases hlt:lo<hi
  ·rw[if_pos hlt];simp only;have Z:(lo+hi) / 2<xs.size:=by omega
   have U:xs.getD ((lo+hi) / 2) j=xs[(lo+hi) / 2]:=by simp[Array.getD,Z]
   have Y:xs[(lo+hi) / 2]? =some xs[(lo+hi) / 2]:=KI Z;rw[U];split
   ·next hc=>
    refine oJ X fuel _ hi (by omega) h2 (by omega) (fun i a W e=>?_) h5
    by_cases he:i=(lo+hi) / 2
    ·subst he;rw[Y]at e;cases e;exact hc
    ·exact N5 (X i _ a _ (by omega) e Y) hc
   ·next hc=>
    refine oJ X fuel lo _ (by omega) (by omega) (by omega) h4 (fun i a W e=>?_)
    by_cases he:i=(lo+hi) / 2
    ·subst he;rw[Y]at e;cases e;omega
    ·have:=X _ i _ a (by omega) Y e
     omega
  ·rw[if_neg hlt];have:lo=hi:=by omega
   subst this;exact⟨h2,h4,h5⟩
theorem oK(Y:Da xs)(j:Nat):below xs j<=xs.size/\(∀(i a:Nat),i<below xs j->xs[i]? =some a->a<j)/\(∀(i a:Nat),below xs j<=i->xs[i]? =some a->j<=a):=
 oJ Y xs.size 0 xs.size (K5 _) (Kz _) (by omega) (fun _ _ h=>absurd h (OD _)) fun i a Z e=>by
  rw[L4 Z]at e;cases e
theorem vY(Z:Da xs)(h:xs[i]? =some j):below xs j=i:=by
 obtain⟨_,Y,X⟩:=oK Z j;rcases Oh (below xs j) i with l|l|l
 ·have W:below xs j<xs.size:=N5 l (K7.mp h).1;have e:xs[below xs j]? =some xs[below xs j]:=KI W;have T:=Z _ _ _ _ l e h;have U:=X _ _ (Kz _) e;omega
 ·exact l
 ·have:=Y i j l h;omega
theorem mx{t:SetTable}(h:t.slot j= .live i):t.place[i]? =some j:=by
 unfold slot at h;simp only at h;split at h
 ·next hc=>cases h;exact eq_of_beq hc
 ·split at h<;>cases h
theorem nN{t:SetTable}(Z:Da t.place)(h:t.place[i]? =some j):t.slot j= .live i:=by
 unfold slot;simp only;rw[vY Z h,h];simp
theorem xn{t:SetTable}(Z:t.dummies= #[])(j:Nat):(∃ i,t.slot j= .live i)\/t.slot j= .empty:=by
 unfold slot;simp only;rw[Z];split
 ·exact .inl ⟨_,rfl⟩
 ·exact .inr (by simp[has])
theorem vZ{t:SetTable}(Z:Da t.place)(h:t.slot j= .empty):∀(i:Nat),t.place[i]? ≠some j:=fun i e=>by
 rw[nN Z e]at h;cases h
theorem xo(X:Da xs)(h:∀(j:Nat),j<n->∃ i:Nat,xs[i]? =some j):∀(j:Nat),j<n->∃ i:Nat,j<=i/\xs[i]? =some j
 |0,hj=>by obtain⟨i,e⟩:=h 0 hj;exact⟨i,K5 _,e⟩
 |j+1,hj=>by
  obtain⟨i,W,Y⟩:=xo X h j (by omega)
  obtain⟨Z,e⟩:=h (j+1) hj;refine⟨Z,?_,e⟩;rcases Oh i Z with l|l|l
  ·omega
  ·subst l;rw[Y]at e;cases e
  ·have:=X _ _ _ _ l e Y;omega
theorem yL{t:SetTable}(W:Da t.place)(Y:t.dummies= #[])(hs:t.place.size<=t.mask):∃ j,j<=t.mask/\t.slot j= .empty:=by
 apply N9;intro X;have:∀(j:Nat),j<t.mask+1->∃ i:Nat,t.place[i]? =some j:=fun j T=>by
  rcases xn Y j with⟨i,e⟩|e
  ·exact⟨i,mx e⟩
  ·exact absurd ⟨j,by omega,e⟩ X
 obtain⟨i,U,Z⟩:=xo W this t.mask (by omega)
 have:=(K7.mp Z).1;omega
theorem xp{t:SetTable}(W:t.dummies= #[])(Y:Nat->Int)(h:Int)(K:Nat)(X:t.slot (cq t.mask h K).j= .empty):∀(fuel k:Nat),k<=K->K - k<fuel->
    ∃ Z,k<=Z/\Z<=K/\(∀ m,k<=m->m<Z->∃ i,t.slot (cq t.mask h m).j= .live i/\Y i≠h)/\
      ((t.slot (cq t.mask h Z).j= .empty/\probe.go t Y h fuel (cq t.mask h k)=some (.empty (cq t.mask h Z).j none))\/
       (∃ i,t.slot (cq t.mask h Z).j= .live i/\Y i=h/\probe.go t Y h fuel (cq t.mask h k)=some (.candidate (cq t.mask h Z).j i (cq t.mask h (Z+1)))))
  |0,k,h1,h2=>by omega
  | fuel+1,k,h1,h2=>by
    unfold probe.go;rcases xn W (cq t.mask h k).j with⟨i,e⟩|e
    · rw[e]
      simp only;by_cases hh:Y i=h
      · rw[if_pos (by simpa using hh)]
        exact⟨k,Kz _,h1,fun m a b=>by omega,.inr ⟨i,e,hh,rfl⟩⟩
      · rw[if_neg (by simpa using hh)]
        have T:k≠K:=fun z=>by subst z;rw[X]at e;cases e
        obtain⟨Z,g1,g2,g3,U⟩:=xp W Y h K X fuel (k+1) (by omega) (by omega)
        refine⟨Z,by omega,g2,fun m a b=>?_,?_⟩
        · by_cases hm:m=k
          · subst hm;exact⟨i,e,hh⟩
          · exact g3 m (by omega) b
        · rw[FL];exact U
    · rw[e]
      simp only[oG];exact⟨k,Kz _,h1,fun m a b=>by omega,.inl ⟨e,rfl⟩⟩
abbrev Ent:=Int×Value
def At(pl:Array Nat)(es:Array Ent)(j:Nat)(e:Ent):Prop:=∃ i:Nat,pl[i]? =some j/\es[i]? =some e
structure TPre(t:SetTable)(es:Array Ent):Prop where
 msk:En t.mask
 dum:t.dummies= #[]
 siz:t.place.size=es.size
 ris:Da t.place
 inb:∀(i a:Nat),t.place[i]? =some a->a<=t.mask
 way:∀(j:Nat) (e:Ent),At t.place es j e->∃ k,(cq t.mask e.1 k).j=j/\∀ m,m<k->∃ e',At t.place es (cq t.mask e.1 m).j e'
structure TOk(t:SetTable)(es:Array Ent):Prop extends TPre t es where
 few:es.size*5<t.mask*3
theorem TPre.fits(k:TPre t es)(h:es.size<=t.mask):t.fits es.size=true:=by
 unfold SetTable.fits fill;rw[k.siz,k.dum];simpa using h
theorem TOk.le(k:TOk t es):es.size<=t.mask:=by
 have:=k.few;omega
theorem TPre.at_of{t:SetTable}{es:Array Ent}(k:TPre t es){i j:Nat}(h:t.place[i]? =some j):∃ e,es[i]? =some e/\At t.place es j e:=by
 have Z:i<es.size:=by rw[<-k.siz];exact(K7.mp h).1
 exact⟨es[i],KI Z,i,h,KI Z⟩
theorem AU(Z:Bool):TOk (SetTable.fresh 0 0 Z) #[] where
 msk:=.inl rfl
 dum:=rfl
 siz:=rfl
 ris:=fun i j a b _ h _=>by simp[SetTable.fresh]at h
 inb:=fun i a h=>by simp[SetTable.fresh]at h
 way:=fun j e ⟨i,h,_⟩=>by simp[SetTable.fresh]at h
 few:=by show 0*5<7*3;decide
theorem eU{Z:Type}(xs:Array Z)(p:Nat)(x:Z)(Y:p<=xs.size)(i:Nat):(SetTable.insertAt xs p x)[i]? =if i<p then xs[i]? else if i=p then some x else xs[i - 1]? :=by
 rw[<-Lc,SetTable.toList_insertAt];have X:(xs.toList.take p).length=p:=by simp[Y]
 by_cases h1:i<p
 ·rw[if_pos h1,Li (by omega),Od h1,Lc]
 ·rw[if_neg h1,MW (by omega),X]
  by_cases h2:i=p
  ·subst h2;simp
  ·rw[if_neg h2];obtain⟨d,hd⟩:∃ d,i - p=d+1:=⟨i - p - 1,by omega⟩
   rw[hd,List.getElem?_cons_succ,N7,show p+d=i - 1 by omega,Lc]
theorem oM{Z:Type}(xs:Array Z)(p:Nat)(x:Z):(SetTable.insertAt xs p x).size=xs.size+1:=by
 have:=(SetTable.insertAt_perm xs p x).length_eq;simpa using this
theorem AV{X:Array Nat}{es:Array Ent}(hs:X.size=es.size)(Y:p<=X.size)(W:Nat)(U:Ent):
  At (SetTable.insertAt X p j) (SetTable.insertAt es p e) W U↔At X es W U\/(W=j/\U=e):=by
 have Z:p<=es.size:=by rw[<-hs];exact Y
 constructor
 ·rintro⟨i,h1,h2⟩;rw[eU _ _ _ Y]at h1;rw[eU _ _ _ Z]at h2;by_cases c1:i<p
  ·rw[if_pos c1]at h1 h2;exact .inl ⟨i,h1,h2⟩
  ·rw[if_neg c1]at h1 h2;by_cases c2:i=p
   ·rw[if_pos c2]at h1 h2;cases h1;cases h2;exact .inr ⟨rfl,rfl⟩
   ·rw[if_neg c2]at h1 h2;exact .inl ⟨_,h1,h2⟩
 ·rintro(⟨i,h1,h2⟩|⟨rfl,rfl⟩)
  ·by_cases c1:i<p
   ·exact⟨i,by rw[eU _ _ _ Y,if_pos c1];exact h1,by rw[eU _ _ _ Z,if_pos c1];exact h2⟩
   ·exact⟨i+1,by rw[eU _ _ _ Y,if_neg (by omega),if_neg (by omega)];exact h1,by rw[eU _ _ _ Z,if_neg (by omega),if_neg (by omega)];exact h2⟩
  ·exact⟨p,by rw[eU _ _ _ Y,if_neg (by omega),if_pos rfl],by rw[eU _ _ _ Z,if_neg (by omega),if_pos rfl]⟩
theorem FO{t:SetTable}(Z:t.dummies= #[])(j:Nat):t.put j=({t with place:=SetTable.insertAt t.place (below t.place j) j},below t.place j):=by
 unfold put;simp only;rw[Z];have:has (#[]:Array Nat) j=false:=by simp[has]
 rw[this];cases t;simp only at Z;subst Z;rfl
theorem FP(k:TPre t es){e:Ent}(L:j<=t.mask)(I:t.slot j= .empty)(J:(cq t.mask e.1 K).j=j)(G:∀ m,m<K->∃ U,At t.place es (cq t.mask e.1 m).j U):
  TPre (t.put j).1 (SetTable.insertAt es (t.put j).2 e)/\(t.put j).1.mask=t.mask/\(t.put j).1.led=t.led/\(t.put j).1.plain=t.plain:=by
 obtain⟨X,H,O⟩:=oK k.ris j;have T:=vZ k.ris I;rw[FO k.dum];refine⟨⟨k.msk,k.dum,?_,?_,?_,?_⟩,rfl,rfl,rfl⟩
 ·show(SetTable.insertAt t.place (below t.place j) j).size=_;rw[oM,oM,k.siz]
 ·intro S R a b P Q W;have Y:(SetTable.insertAt t.place (below t.place j) j)[S]? =some a:=Q;have Z:(SetTable.insertAt t.place (below t.place j) j)[R]? =some b:=W;rw[eU _ _ _ X]at Y Z;by_cases c1:S<below t.place j
  ·rw[if_pos c1]at Y;by_cases c2:R<below t.place j
   ·rw[if_pos c2]at Z;exact k.ris _ _ _ _ P Y Z
   ·rw[if_neg c2]at Z;by_cases c3:R=below t.place j
    ·rw[if_pos c3]at Z;cases Z;exact H _ _ c1 Y
    ·rw[if_neg c3]at Z;exact k.ris _ _ _ _ (by omega) Y Z
  ·rw[if_neg c1]at Y;rw[if_neg (by omega),if_neg (by omega)]at Z
   by_cases c3:S=below t.place j
   ·rw[if_pos c3]at Y;cases Y;have q:=O _ _ (by omega) Z
    have:b≠j:=fun z=>by subst z;exact T _ Z
    omega
   ·rw[if_neg c3]at Y;exact k.ris _ _ _ _ (by omega) Y Z
 ·intro i a h;have h':(SetTable.insertAt t.place (below t.place j) j)[i]? =some a:=h;rw[eU _ _ _ X]at h';by_cases c1:i<below t.place j
  ·rw[if_pos c1]at h';exact k.inb _ _ h'
  ·rw[if_neg c1]at h';by_cases c3:i=below t.place j
   ·rw[if_pos c3]at h';cases h';exact L
   ·rw[if_neg c3]at h';exact k.inb _ _ h'
 ·intro N U h;have up:∀{a b},At t.place es a b->At (SetTable.insertAt t.place (below t.place j) j) (SetTable.insertAt es (below t.place j) e) a b:=fun z=>(AV k.siz X _ _).mpr (.inl z);rcases (AV k.siz X N U).mp h with h'|⟨rfl,rfl⟩
  ·obtain⟨n,Q,W⟩:=k.way _ _ h';exact⟨n,Q,fun m hm=>let ⟨x,hx⟩:=W m hm;⟨x,up hx⟩⟩
  ·exact⟨K,J,fun m hm=>let ⟨x,hx⟩:=G m hm;⟨x,up hx⟩⟩
abbrev FQ:=Array (Option Nat)
def yM(o:FQ)(j:Nat):Prop:=∃ k,o[j]? =some (some k)
structure Laid(m:Nat)(hs:List Int)(o:FQ):Prop where
 siz:o.size=m+1
 way:∀(j k:Nat),o[j]? =some (some k)->∃ x,hs[k]? =some x/\∃ n,(cq m x n).j=j/\∀ i,i<n->yM o (cq m x i).j
theorem qQ{o:FQ}(Q:o.size=m+1)(h:Int)(R:Nat)(O:o[(gm m h R).1]? =some none):∀(fuel n:Nat),n<=R->R - n<fuel->
  ∃ idx,p9 m h n<=idx/\layClean.free m o fuel (gm m h n).1 (gm m h n).2=some (cq m h idx).j/\o[(cq m h idx).j]? =some none/\∀ i,p9 m h n<=i->i<idx->yM o (cq m h i).j
 |0,n,h1,h2=>by omega
 | fuel+1,n,h1,h2=>by
  have T:runEnd m (gm m h n).1+1 - (gm m h n).1=run m (gm m h n).1+1:=by
   unfold run runEnd;split<;>omega
  have N:(gm m h n).1+run m (gm m h n).1<=m:=by
   have:=AR m h n;unfold run runEnd;split<;>omega
  have get:∀ k,k<=run m (gm m h n).1->o.getD ((gm m h n).1+k) (some 0)=o[(gm m h n).1+k]?.getD (some 0):=fun k _=>by simp
  have S:∀ k,k<=run m (gm m h n).1->(o.getD ((gm m h n).1+k) (some 0)).isNone=false->yM o (cq m h (p9 m h n+k)).j:=fun k U P=>by
   rw[sD m h n k U];have Z:(gm m h n).1+k<o.size:=by omega
   rw[get k U,KI Z]at P;cases e:o[(gm m h n).1+k]with
   |none=>simp[e]at P
   |some z=>exact⟨z,by rw[KI Z,e]⟩
  unfold layClean.free;rw[T];cases q:(List.range (run m (gm m h n).1+1)).find? (fun k=>(o.getD ((gm m h n).1+k) (some 0)).isNone)with
  | some k=>
   simp only;have U:=List.find?_some q;have Y:k<=run m (gm m h n).1:=by
    have:=List.mem_of_find?_eq_some q;rw[KS]at this;omega
   refine⟨p9 m h n+k,by omega,by rw[sD m h n k Y],?_,fun i a b=>?_⟩
   ·rw[sD m h n k Y];have Z:(gm m h n).1+k<o.size:=by omega
    rw[get k Y,KI Z]at U;rw[KI Z];cases e:o[(gm m h n).1+k]with
    |none=>rfl
    |some z=>simp[e]at U
   ·obtain⟨d,rfl⟩:∃ d,i=p9 m h n+d:=⟨i - p9 m h n,by omega⟩
    refine S d (by omega) ?_
    have X:=List.find?_eq_some_iff_getElem.mp q;obtain⟨_,I,L,e1,e2⟩:=X;simp at e1;subst e1;have:=e2 d (by omega)
    simpa using this
  | none=>
   simp only;have X:=List.find?_eq_none.mp q;have W:∀ k,k<=run m (gm m h n).1->yM o (cq m h (p9 m h n+k)).j:=fun k U=>S k U (by
    have:=X k (KS.mpr (by omega))
    exact Oj.mpr this)
   have J:n≠R:=fun z=>by
    subst z;obtain⟨k,e⟩:=W 0 (K5 _);rw[sD m h n 0 (K5 _)]at e;rw[Nat.add_zero,O]at e;cases e
   obtain⟨idx,g1,g2,g3,K⟩:=qQ Q h R O fuel (n+1) (by omega) (by omega)
   have H:p9 m h (n+1)=p9 m h n+run m (gm m h n).1+1:=rfl;refine⟨idx,by omega,g2,g3,fun i a b=>?_⟩
   by_cases hi:p9 m h (n+1)<=i
   ·exact K i hi b
   ·obtain⟨d,rfl⟩:∃ d,i=p9 m h n+d:=⟨i - p9 m h n,by omega⟩
    exact W d (by omega)
def dj(m:Nat)(f:Nat->Option Nat):List (Nat×Nat):=(List.range (m+1)).filterMap fun j=>(f j).map fun k=>(j,k)
theorem g0{Z X:Type}{f g:Z->Option X}:∀{l:List Z},(∀ x∈l,f x=g x)->l.filterMap f=l.filterMap g
 |[],_=>rfl
 |x::l,h=>by rw[Lv,Lv,h x KR,g0 fun y Y=>h y (KJ _ Y)]
theorem AW{f g:Nat->Option Nat}(U:j<m+1)(W:f j=none)(X:g j=some k)(Y:∀ i,i≠j->g i=f i):(dj m g).Perm ((j,k)::dj m f):=by
 unfold dj;have e:List.range (m+1)=List.range j++j::(List.range' (j+1) (m - j)):=by
  rw[List.range_eq_range',List.range_eq_range',show m+1=j+(1+(m - j)) by omega, <-List.range'_append_1, <-List.range'_append_1]
  simp
 rw[e,List.filterMap_append,List.filterMap_append,Lv,Lv,W,X];simp only[Option.map_some,Option.map_none];rw[g0 (l:=List.range j) (g:=fun j=>(f j).map fun k=>(j,k)) fun x Z=>by rw[Y x (by rw[KS]at Z;omega)],
  g0 (l:=List.range' (j+1) (m - j)) (g:=fun j=>(f j).map fun k=>(j,k)) fun x Z=>by rw[Y x (by rw[LR]at Z;omega)]]
 exact List.perm_middle
def fo(o:FQ)(j:Nat):Option Nat:=o.getD j none
theorem oO:fo o j=some k↔o[j]? =some (some k):=by
 unfold fo;rw[Lj];cases o[j]? with
 |none=>simp
 |some z=>simp
structure LaidN(m:Nat)(hs:List Int)(o:FQ):Prop extends Laid m hs o where
 all:((dj m (fo o)).map (·.2)).Perm (List.range hs.length)
theorem ur(L:LaidN m hs o):(dj m (fo o)).length=hs.length:=by
 have:=L.all.length_eq;simpa using this
theorem uu(L:LaidN m hs o)(S:hs.length<=m):∃ j,j<=m/\o[j]? =some none:=by
 apply N9;intro T;have Z:∀ j,j∈List.range (m+1)->∃ k,fo o j=some k:=fun j X=>by
  rw[KS]at X;have Y:j<o.size:=by rw[L.siz];exact X
  cases e:o[j]with
  |none=>exact absurd ⟨j,by omega,by rw[KI Y,e]⟩ T
  |some k=>exact⟨k,oO.mpr (by rw[KI Y,e])⟩
 have:∀ l:List Nat,(∀ j∈l,∃ k,fo o j=some k)->(l.filterMap fun j=>(fo o j).map fun k=>(j,k)).length=l.length:=by
  intro l
  induction l with
  |nil=>intro _;rfl
  |cons x l ih=>
   intro h;obtain⟨k,e⟩:=h x KR;rw[Lv,e];simp only[Option.map_some,List.length_cons];rw[ih fun j X=>h j (KJ _ X)]
 have U:=this _ Z;have W:=ur L;unfold dj at W;rw[U,Lp]at W;omega
theorem AX(Q:En m)(L:LaidN m hs o)(J:hs.length<=m)(x:Int):
  ∃ j,layClean.free m o (turns m) (bits x % (m+1)) (bits x)=some j/\LaidN m (hs++[x]) (o.setIfInBounds j (some hs.length)):=by
 obtain⟨P,S,T⟩:=uu L J;obtain⟨H,K,U⟩:=AS Q x P S;obtain⟨idx,_,g2,g3,I⟩:=qQ L.siz x H (by rw[U];exact T) (turns m) 0 (K5 _) (by unfold turns;omega)
 refine⟨(cq m x idx).j,g2,?_⟩;generalize hj:(cq m x idx).j=j at g3 ⊢;have Y:j<o.size:=(K7.mp g3).1;have self:(o.setIfInBounds j (some hs.length))[j]? =some (some hs.length):=by simp[Y]
 have X:∀ i,i≠j->(o.setIfInBounds j (some hs.length))[i]? =o[i]? :=fun i Z=>by
  rw[Array.getElem?_setIfInBounds_ne (Ne.symm Z)]
 have up:∀ i,yM o i->yM (o.setIfInBounds j (some hs.length)) i:=fun i ⟨k,e⟩=>by
  by_cases Z:i=j
  ·subst Z;exact⟨_,self⟩
  ·exact⟨k,by rw[X i Z];exact e⟩
 refine⟨⟨by rw[Array.size_setIfInBounds];exact L.siz,fun i k e=>?_⟩,?_⟩
 ·by_cases Z:i=j
  ·subst Z;rw[self]at e;cases e;exact⟨x,by simp,idx,hj,fun q W=>up _ (I q (K5 _) W)⟩
  ·rw[X i Z]at e;obtain⟨y,R,n,N,G⟩:=L.way i k e;refine⟨y,?_,n,N,fun q W=>up _ (G q W)⟩;rw[Li (KC.mp R).1];exact R
 ·have O:=AW (m:=m) (j:=j) (k:=hs.length) (f:=fo o) (g:=fo (o.setIfInBounds j (some hs.length))) (by rw[<-L.siz];exact Y)
   (by unfold fo;rw[Lj,g3];rfl) (oO.mpr self) (fun i Z=>by unfold fo;rw[Lj,Lj,X i Z])
  refine(O.map (·.2)).trans ?_;rw[KD,NI,List.range_succ];exact(List.Perm.cons _ L.all).trans (List.perm_append_singleton _ _).symm
theorem xq(W:En m):∀(rest hs:List Int) (o:FQ),LaidN m hs o->hs.length+rest.length<=m+1->
  ∃ Y,rest.foldl (fun(acc:Option (FQ×Nat)) h=>do
   let (owner,k)<-acc;let j<-layClean.free m owner (turns m) (bits h % (m+1)) (bits h)
   pure (owner.setIfInBounds j (some k),k+1)) (some (o,hs.length))=some (Y,hs.length+rest.length)/\LaidN m (hs++rest) Y
 |[],hs,o,L,_=>⟨o,rfl,by rw[Lg];exact L⟩
 |x::rest,hs,o,L,hl=>by
  rw[KY]at hl;obtain⟨j,e,U⟩:=AX W L (by omega) x
  obtain⟨Y,X,Z⟩:=xq W rest (hs++[x]) _ U (by simp;omega)
  refine⟨Y,?_,by rw[K9]at Z;exact Z⟩
  rw[List.foldl_cons];simp only[Option.bind_eq_bind,Option.bind_some,e];rw[KD,NI]at X;simp only[Option.bind_eq_bind]at X;rw[KY,show hs.length+(rest.length+1)=hs.length+1+rest.length by omega]
  exact X
theorem yN(Y:En m)(Z:Array Int)(W:Z.size<=m+1):∃ o,layClean m Z=some o/\LaidN m Z.toList o:=by
 have X:LaidN m [] (Array.replicate (m+1) none):=by
  refine⟨⟨by simp,fun j k e=>?_⟩,?_⟩
  ·rw[Ol]at e;split at e<;>cases e
  ·have:dj m (fo (Array.replicate (m+1) none))=[]:=by
    unfold dj;rw[List.filterMap_eq_nil_iff];intro j _;have:fo (Array.replicate (m+1) none) j=none:=by
     cases e:fo (Array.replicate (m+1) none) j with
     |none=>rfl
     |some k=>
      rw[oO,Ol]at e;split at e<;>cases e
    rw[this];rfl
   rw[this];exact .refl _
 obtain⟨o,e,L⟩:=xq Y Z.toList [] _ X (by simpa using W)
 refine⟨o,?_,by simpa using L⟩
 unfold layClean;rw[<-Array.foldl_toList];rw[show(Array.replicate (m+1) (none:Option Nat),0)=(Array.replicate (m+1) none,([]:List Int).length)from rfl];rw[e];rfl
theorem oQ(f:Nat->Option Nat):∀ l:List Nat,((l.filterMap fun j=>(f j).map fun k=>(j,k)).map (·.1)).Sublist l
 |[]=>.slnil
 |x::l=>by
  rw[Lv];cases f x with
  |none=>exact .cons _ (oQ f l)
  |some k=>exact .cons₂ _ (oQ f l)
theorem oR{f:Nat->Option Nat}:(j,k)∈dj m f↔j<m+1/\f j=some k:=by
 unfold dj;rw[Ma];constructor
 ·rintro⟨a,h1,h2⟩;cases e:f a with
  |none=>rw[e]at h2;cases h2
  |some b=>
   rw[e]at h2;cases h2;exact⟨KS.mp h1,e⟩
 ·rintro⟨h1,h2⟩;exact⟨j,KS.mpr h1,by rw[h2];rfl⟩
theorem FR{l:List Nat}(h:l.Pairwise (· <·)):Da l.toArray:=by
 intro i j a b Z Y X;rw[Mp]at Y X;obtain⟨U,W⟩:=KC.mp Y;obtain⟨S,T⟩:=KC.mp X;have:=Oa.mp h i j U S Z;rw[W,T]at this;exact this
theorem AY{Z X:Type}{f:Z->Option X}:∀{l:List Z},(∀ x∈l,∃ y,f x=some y)->∀ i:Nat,(l.filterMap f)[i]? =l[i]?.bind f
 |[],_,i=>by simp
 |x::l,h,i=>by
  obtain⟨y,e⟩:=h x KR;rw[Lv,e];cases i with
  |zero=>simp[e]
  |succ i=>simpa using AY (fun z Y=>h z (KJ _ Y)) i
theorem Dc{es:Array Ent}(H:En m)(t:es.size*5<m*3)(G I:Nat)(O K:Bool):
  ∃(t':SetTable) (order:Array Nat),laid m G I O K (es.map (·.1))=some (t',order)/\order.toList.Perm (List.range es.size)/\(order.filterMap (es[·]?)).size=es.size/\TOk t' (order.filterMap (es[·]?))/\t'.led=O/\t'.plain=K/\t'.mask=m:=by
 obtain⟨o,e,L⟩:=yN H (es.map (·.1)) (by rw[Array.size_map];omega)
 have hlen:(es.map (·.1)).toList.length=es.size:=by simp
 have Z:=L.all;rw[hlen]at Z;have J:∀ p∈dj m (fo o),∃ y,es[p.2]? =some y:=fun p S=>by
  have:p.2∈List.range es.size:=Z.mem_iff.mp (List.mem_map_of_mem S);rw[KS]at this;exact⟨es[p.2],KI this⟩
 have R:(((dj m (fo o)).map (·.2)).toArray.filterMap (es[·]?)).toList=((dj m (fo o)).map (·.2)).filterMap (es[·]?):=by
  rw[Array.toList_filterMap]
 have W:(((dj m (fo o)).map (·.2)).toArray.filterMap (es[·]?)).toList.Perm es.toList:=by
  rw[R];exact(Z.filterMap _).trans (by rw[filterMap_getElem?_range])
 have X:(((dj m (fo o)).map (·.2)).toArray.filterMap (es[·]?)).size=es.size:=by
  have:=W.length_eq;simpa using this
 have Q:∀(j:Nat) (x:Ent),At (((dj m (fo o)).map (·.1)).toArray) (((dj m (fo o)).map (·.2)).toArray.filterMap (es[·]?)) j x↔∃ k,(j,k)∈dj m (fo o)/\es[k]? =some x:=by
  intro j x;have key:∀ i:Nat,(((dj m (fo o)).map (·.2)).toArray.filterMap (es[·]?))[i]? =((dj m (fo o))[i]?).bind fun p=>es[p.2]? :=fun i=>by
   rw[<-Lc,R,AY (fun z u=>by
    obtain⟨p,S,rfl⟩:=K4.mp u;exact J p S) i,K1]
   cases (dj m (fo o))[i]? <;>rfl
  constructor
  ·rintro⟨i,Y,U⟩;rw[Mp,K1]at Y;rw[key]at U;cases q:(dj m (fo o))[i]? with
   |none=>rw[q]at Y;cases Y
   |some p=>
    rw[q]at Y U;cases Y;exact⟨p.2,Le q,U⟩
  ·rintro⟨k,Y,U⟩;obtain⟨i,P⟩:=MP.mp Y;exact⟨i,by rw[Mp,K1,P];rfl,by rw[key,P];exact U⟩
 refine⟨⟨m,((dj m (fo o)).map (·.1)).toArray, #[],G,O,I,K⟩,((dj m (fo o)).map (·.2)).toArray,?_,by simpa using Z,X,⟨⟨H,rfl,?_,?_,?_,?_⟩,?_⟩,rfl,rfl,rfl⟩
 ·unfold laid;rw[e];rfl
 ·rw[X];show(((dj m (fo o)).map (·.1)).toArray).size=_;rw[KN,Kx,ur L,hlen]
 ·exact FR (Mq (oQ _ _) List.pairwise_lt_range)
 ·intro i a h;have h':(((dj m (fo o)).map (·.1)).toArray)[i]? =some a:=h;rw[Mp]at h';obtain⟨p,S,rfl⟩:=K4.mp (Le h');have:=(oR.mp S).1;show p.1<=m;omega
 ·intro j x w;obtain⟨k,Y,U⟩:=(Q j x).mp w;obtain⟨s,B⟩:=oR.mp Y;obtain⟨y,g1,n,g2,g3⟩:=L.way j k (oO.mp B);have C:y=x.1:=by
   rw[Lc,Array.getElem?_map,U]at g1;cases g1;rfl
  subst C;refine⟨n,g2,fun i P=>?_⟩;obtain⟨A,F⟩:=g3 i P;have N:(cq m x.1 i).j<m+1:=by rw[<-L.siz];exact(K7.mp F).1
  have T:=oR.mpr ⟨N,oO.mpr F⟩;obtain⟨v,E⟩:=J _ T;exact⟨v,(Q _ _).mpr ⟨A,T,E⟩⟩
 ·rw[X];exact t
theorem yO{t:SetTable}{es:Array Ent}(W:es.size=5):∃(t':SetTable) (order:Array Nat),t.relaid (es.map (·.1)) (SetTable.grown 5)=some (t',order)/\order.toList.Perm (List.range es.size)/\(order.filterMap (es[·]?)).size=es.size/\
  TOk t' (order.filterMap (es[·]?))/\t'.led=t.led/\t'.plain=t.plain:=by
 obtain⟨t',o,X,Y,Z,T,U,S,_⟩:=Dc (es:=es) (m:=31) (.inr rfl) (by rw[W];decide) t.finger (t.movedTo 31) t.led t.plain
 exact⟨t',o,X,Y,Z,T,U,S⟩
end S4
namespace S4
open PySem PySem.Spec PyProof.Rows
section
variable {prog:Program}{w:World}{A:Around}{E:Value->Shared->Prop}{s:Shared}
theorem items_int(h:ItemsAre (intKind prog w) ks vs):∀ v∈vs,∃ n t,v=Value.int n t:=by
 induction h with
 |nil=>intro v Z;cases Z
 | cons h1 _ ih=>
  intro v Z;rcases K2.mp Z with rfl|Z
  ·obtain⟨t,e⟩:=Value.isInt_shape h1;exact⟨_,t,e⟩
  ·exact ih v Z
theorem yP{Q:Bool->Shared->Prop}(Y:IsTupleKey (intKind prog w) s.heap ks a)(h:Q true s):wpAny (model prog w) A (hashByValue 8 (.ref a)) Q E s:=by
 have W:=Y.typeIs;obtain⟨o,items,n,X,_,hd,U⟩:=Y;unfold hashByValue;refine Kv (wpAny_specialOf W F.slot_tuple_hash.lookup ?_);show wpAny _ _ (seqItems? (.ref a)>>=_) _ _ s;refine Kv (L8 X hd ?_);refine Kv ?_;show wpAny _ _ (forIn items _ _) _ _ s;rw[<-Array.forIn_toList];refine NK _ (fun rest r s'=>r.1=none/\s'=s/\∀ v∈rest,∃ n t,v=Value.int n t) _ ?_ ?_ _ _ ⟨rfl,rfl,items_int U⟩
 ·rintro v rest r s' ⟨hr,rfl,hall⟩;obtain⟨i,t,rfl⟩:=hall v KR;refine Kv ?_;unfold hashByValue;refine Ky ?_;simp only[Bool.not_true,Bool.false_eq_true,if_false];exact Ky ⟨rfl,rfl,fun u Z=>hall u (KJ _ Z)⟩
 ·rintro⟨r1,r2⟩ s' ⟨hr,rfl,_⟩;simp only at hr;subst hr;exact Ky h
theorem mU{Q:Bool->Shared->Prop}(Y:IsTupleKey (intKind prog w) s.heap ks a)(h:Q false s):wpAny (model prog w) A (ofAClassStatement 8 (.ref a)) Q E s:=by
 have W:=Y.typeIs;obtain⟨o,items,n,X,_,hd,U⟩:=Y;unfold ofAClassStatement;refine Kv (Na W ?_);simp only;rw[if_pos (by decide)]
 refine Kv (Ky ?_);simp only[Bool.not_true,Bool.false_eq_true,if_false];refine Kv (L8 X hd ?_);simp only;refine Kv ?_;show wpAny _ _ (forIn items _ _) _ _ s;rw[<-Array.forIn_toList];refine NK _ (fun rest r s'=>r.1=none/\s'=s/\∀ v∈rest,∃ n t,v=Value.int n t) _ ?_ ?_ _ _ ⟨rfl,rfl,items_int U⟩
 ·rintro v rest r s' ⟨hr,rfl,hall⟩;obtain⟨i,t,rfl⟩:=hall v KR;refine Kv ?_;unfold ofAClassStatement;refine Ky ?_;simp only[Bool.false_eq_true,if_false];exact Ky ⟨rfl,rfl,fun u Z=>hall u (KJ _ Z)⟩
 ·rintro⟨r1,r2⟩ s' ⟨hr,rfl,_⟩;simp only at hr;subst hr;exact Ky h
theorem FS(X:IsTupleKey (intKind prog w) s.heap kx ax)(U:∀ y∈ys,∃ k a,y= .ref a/\IsTupleKey (intKind prog w) s.heap k a){Q:Bool->Shared->Prop}(h:Q false s):
  wpAny (model prog w) A (searchCouldBeSeen (.ref ax) ys) Q E s:=by
 unfold searchCouldBeSeen;refine Kv ?_;refine NK _ (fun rest r s'=>r.1=none/\s'=s/\∀ v∈rest,∃ k a,v= .ref a/\IsTupleKey (intKind prog w) s.heap k a) _ ?_ ?_ _ _ ⟨rfl,rfl,U⟩
 ·rintro v rest r s' ⟨hr,rfl,hall⟩;obtain⟨k,a,rfl,Y⟩:=hall v KR;have W:∀ u∈rest,∃ k a,u= .ref a/\IsTupleKey (intKind prog w) s'.heap k a:=fun u Z=>hall u (KJ _ Z);simp only;split
  ·exact Ky ⟨rfl,rfl,W⟩
  ·refine Kv (wpAny_eqIsQuiet_tuple X ?_);simp only[Bool.not_true,Bool.false_eq_true,if_false];refine Kv (wpAny_eqIsQuiet_tuple Y ?_);simp only[Bool.not_true,Bool.false_eq_true,if_false];refine Kv (mU X ?_);simp only[Bool.false_eq_true,if_false];refine Kv (mU Y ?_);simp only[Bool.false_eq_true,if_false];exact Ky ⟨rfl,rfl,W⟩
 ·rintro⟨r1,r2⟩ s' ⟨hr,rfl,_⟩;simp only at hr;subst hr;exact Ky h
abbrev KA:=List Int×Addr
def ik(prog:Program)(w:World)(k:List Int):Int:=tupleKeyHash (intKind prog w) k
def ent(prog:Program)(w:World)(p:KA):Ent:=(ik prog w p.1,.ref p.2)
def v5(prog:Program)(w:World)(h:Heap)(L:List KA):Prop:=∀ p∈L,IsTupleKey (intKind prog w) h p.1 p.2
structure SetAt(prog:Program)(w:World)(h:Heap)(a:Addr)(o:Obj)(es:Array Ent)(ep:Nat)(t:SetTable)(L:List KA):Prop where
 get:h.get? a=some o
 ex:o.ExactSet
 dat:o.data= .set es ep t
 ok:TOk t es
 pln:t.plain=true
 led:t.led= !(w.params.followText "set-order")
 ents:es.toList=L.map (ent prog w)
 nd:(L.map (·.1)).Nodup
theorem SetAt.fits(k:SetAt prog w h a o es ep t L):t.fits es.size=true:=k.ok.fits k.ok.le
theorem SetAt.ent_at(k:SetAt prog w h a o es ep t L)(i:Nat):es[i]? =(L[i]?).map (ent prog w):=by
 rw[<-Lc,k.ents,K1]
theorem SetAt.len(k:SetAt prog w h a o es ep t L):es.size=L.length:=by
 rw[<-My,k.ents,Kx]
theorem AZ{t:SetTable}:t.sameMemory t.moves t.mask=some true:=by
 unfold SetTable.sameMemory;simp
theorem qR{a ax:Addr}{o:Obj}{es:Array Ent}{ep:Nat}{t:SetTable}{L:List KA}{Z:List Int}(hu:A.units<cLine)(k:SetAt prog w s.heap a o es ep t L)(b:v5 prog w s.heap L)(r:IsTupleKey (intKind prog w) s.heap Z ax)
  {K:Nat} (B:t.slot (cq t.mask (ik prog w Z) K).j= .empty) (N:K<10*SetTable.turns t.mask) {Q:SetFound->Shared->Prop}
  (U:Z∈L.map (·.1)->Q (.there none) s)
  (G:Z ∉ L.map (·.1)->∀ n,t.slot (cq t.mask (ik prog w Z) n).j= .empty->(∀ m,m<n->∃ i,t.slot (cq t.mask (ik prog w Z) m).j= .live i)->Q (.free (cq t.mask (ik prog w Z) n).j false) s):
  ∀(fuel n:Nat) (st:Option SetTable.Probe),st.getD (t.probeStart (ik prog w Z))=cq t.mask (ik prog w Z) n->n<=K->K - n<fuel->
   (∀ m,m<n->∃ i,t.slot (cq t.mask (ik prog w Z) m).j= .live i/\∀ p,L[i]? =some p->p.1≠Z)->wpAny (model prog w) A (setSearchFrom a (.ref ax) (ik prog w Z) true fuel st) Q E s
 |0,n,st,e,v,h2,h3=>by omega
 | fuel+1,n,st,e,v,h2,h3=>by
  have odd:t.gaveWay=false:=by
   unfold SetTable.gaveWay;rcases k.ok.msk with h|h<;>rw[h]<;>rfl
  unfold setSearchFrom;refine Kv (L6 k.get k.dat k.fits ?_);simp only;rw[odd];simp only[Bool.false_eq_true,if_false];rw[e];obtain⟨Y,g1,g2,g3,g4⟩:=xp k.ok.dum (fun i=>(es[i]?.map (·.1)).getD 0) (ik prog w Z) K B (10*SetTable.turns t.mask) n v (by omega)
  have stored:∀(i:Nat) (p:KA),L[i]? =some p->(es[i]?.map (·.1)).getD 0=ik prog w p.1:=fun i p W=>by
   rw[k.ent_at,W];rfl
  have before:∀ m,m<Y->∃ i,t.slot (cq t.mask (ik prog w Z) m).j= .live i/\∀ p,L[i]? =some p->p.1≠Z:=fun m hm=>by
   by_cases hmn:m<n
   ·exact h3 m hmn
   ·obtain⟨i,R,d⟩:=g3 m (by omega) hm
    refine⟨i,R,fun p W z=>d ?_⟩;rw[stored i p W,z]
  rcases g4 with⟨c1,c2⟩|⟨i,c1,c2,c3⟩
  ·generalize hpr:t.probe _ (ik prog w Z) (cq t.mask (ik prog w Z) n)=pr;have ep:pr=some (.empty (cq t.mask (ik prog w Z) Y).j none):=hpr.symm.trans c2;subst ep;simp only;refine Ky (G (fun H=>?_) Y c1 fun m hm=>let ⟨i,q,_⟩:=before m hm;⟨i,q⟩);obtain⟨p,W,rfl⟩:=K4.mp H;obtain⟨P,C⟩:=MP.mp W;have X:es[P]? =some (ent prog w p):=by rw[k.ent_at,C];rfl
   have T:P<t.place.size:=by rw[k.ok.siz];exact(K7.mp X).1
   have g:At t.place es t.place[P] (ent prog w p):=⟨P,KI T,X⟩;obtain⟨c,w1,w2⟩:=k.ok.way _ _ g;have J:(cq t.mask (ik prog w p.1) c).j=t.place[P]:=w1;rcases Nat.lt_or_ge c Y with l|l
   ·obtain⟨i,R,d⟩:=before c l;rw[J,nN k.ok.ris (KI T)]at R;cases R;exact d p C rfl
   ·rcases Nat.eq_or_lt_of_le l with l|l
    ·subst l;rw[J,nN k.ok.ris (KI T)]at c1;cases c1
    ·obtain⟨e',i',R,_⟩:=w2 Y l;have f:t.place[i']? =some (cq t.mask (ik prog w p.1) Y).j:=R;rw[nN k.ok.ris f]at c1;cases c1
  ·generalize hpr:t.probe _ (ik prog w Z) (cq t.mask (ik prog w Z) n)=pr;have ep:pr=some (.candidate (cq t.mask (ik prog w Z) Y).j i (cq t.mask (ik prog w Z) (Y+1))):=hpr.symm.trans c3;subst ep;simp only;have hi:i<es.size:=by rw[<-k.ok.siz];exact(K7.mp (mx c1)).1
   have S:i<L.length:=by rw[<-k.len];exact hi
   have W:L[i]? =some L[i]:=KB S;have X:es[i]? =some (ent prog w L[i]):=by rw[k.ent_at,W];rfl
   have I:IsTupleKey (intKind prog w) s.heap L[i].1 L[i].2:=b _ (LV S);have u:∀ y∈List.map (fun x:Ent=>x.snd) (Array.filter (fun x:Ent=>x.fst==ik prog w Z) es).toList,∃ k a,y= .ref a/\IsTupleKey (intKind prog w) s.heap k a:=fun y hy=>by
    obtain⟨e1,v,rfl⟩:=K4.mp hy;have O:e1∈es.toList:=by
     have:=NM.mp v;exact NM.mpr (Array.mem_filter.mp this).1
    rw[k.ents]at O;obtain⟨p,W,rfl⟩:=K4.mp O;exact⟨p.1,p.2,rfl,b p W⟩
   split
   case' isTrue=>
    refine Kv (FS r u ?_);simp only[Bool.false_eq_true,if_false]
   all_goals
    rw[X];simp only[ent];refine Kv (Lm (wpAny_eqBool_tuple hu I r ?_));refine Kv (L6 k.get k.dat k.fits ?_);by_cases hq:L[i].1=Z
    ·rw[KU hq];simp only[Bool.and_self,if_true];exact Ky (U (K4.mpr ⟨_,LV S,hq⟩))
    ·rw[Lr hq];simp only[Bool.and_false,Bool.false_eq_true,if_false];rw[AZ];simp only[if_true];rw[c1];simp only;rw[X];simp only[ent];refine Kv (wpAny_isSame_ref_self (Kv (Ky ?_)));simp only[if_true];refine qR hu k b r B N U G fuel (Y+1) _ rfl ?_ ?_ fun m hm=>?_
     ·have:Y≠K:=fun z=>by subst z;rw[B]at c1;cases c1
      omega
     ·have:Y≠K:=fun z=>by subst z;rw[B]at c1;cases c1
      omega
     ·by_cases hmn:m<Y
      ·exact before m hmn
      ·have:m=Y:=by omega
       subst this;exact⟨i,c1,fun p F=>by rw[W]at F;cases F;exact hq⟩
end
def Ie(L:List KA)(p:KA)(L':List KA):Prop:=(p.1∈L.map (·.1)/\L'=L)\/(p.1 ∉ L.map (·.1)/\L'.Perm (p::L))
section
variable {prog:Program}{w:World}{A:Around}{E:Value->Shared->Prop}{s:Shared}
theorem xr{h:Heap}(Y:h.get? a=some o)(Z:o.data= .set es ep t):(h.update a (Obj.putSet es' t')).get? a=some {o with data:=.set es' (ep+1) t'}:=by
 have:=Lz (Obj.putSet es' t') Y (by rw[putSet_of es' t' Z];rfl)
 rw[putSet_of es' t' Z]at this;exact this
theorem FT(hu:A.units<cLine)(k:SetAt prog w s.heap a o es ep t L)(hL:v5 prog w s.heap L)(f:IsTupleKey (intKind prog w) s.heap kx ax)
  (c:L.length<18) {Q:Bool->Shared->Prop}
  (h:∀ b h' o' es' ep' t' J,SetAt prog w h' a o' es' ep' t' J->Heap.SameBut a s.heap h'->Ie L (kx,ax) J->Q b {s with heap:=h'}):
  wpAny (model prog w) A (setAddHashed a (.ref ax) (ik prog w kx)) Q E s:=by
 obtain⟨j0,g,r⟩:=yL k.ok.ris k.ok.dum (by rw[k.ok.siz];exact k.ok.le)
 obtain⟨K,u,l⟩:=cover k.ok.msk (ik prog w kx) j0 g;have d:10*SetTable.turns t.mask<=100000:=by
  unfold SetTable.turns;rcases k.ok.msk with z|z<;>rw[z]<;>decide
 unfold setAddHashed setAddHashedIn;refine Lm (Kv (L6 k.get k.dat k.fits ?_));have x:byScan (.ref ax) es=false:=by simp[byScan,Value.scannable]
 simp only[x,Bool.false_eq_true,if_false];unfold setSearch;refine Kv ?_;refine qR hu k hL f (by rw[l];exact r) u ?_ ?_ 100000 0 none rfl (K5 _) (by omega) (fun m hm=>by omega)
 ·intro Z;simp only;refine Ky ?_;have e:s={s with heap:=s.heap}:=by cases s;rfl
  rw[e];exact h _ s.heap o es ep t L k (Heap.SameBut.refl a s.heap) (.inl ⟨Z,rfl⟩)
 ·intro Z n hn hb;simp only;refine Kv (L6 k.get k.dat k.fits ?_);generalize hj:(cq t.mask (ik prog w kx) n).j=j at hn;have H:j<=t.mask:=by
   rw[<-hj];rcases Nat.eq_zero_or_pos n with z|z
   ·subst z;show SetTable.bits _ % (t.mask+1)<=t.mask;have:=Og (SetTable.bits (ik prog w kx)) (show t.mask+1>0 by omega)
    omega
   ·exact C9 _ _ _ k.ok.msk
  obtain⟨T,y,B,I⟩:=FP (e:=ent prog w (kx,ax)) (K:=n) k.ok.toTPre H hn hj fun m hm=>by
   obtain⟨i,q⟩:=hb m hm;obtain⟨e',_,q'⟩:=k.ok.toTPre.at_of (mx q);exact⟨e',q'⟩
  generalize hP:t.put j=P at T y B I ⊢;obtain⟨t1,pp⟩:=P;simp only at T y B I ⊢;have T:TPre t1 (SetTable.insertAt es pp (ik prog w kx,Value.ref ax)):=T;rw[if_pos (by rw[I];exact k.pln)]
  refine Kv (yP f ?_);simp only[if_true];have Y:(SetTable.insertAt es pp (ik prog w kx,Value.ref ax)).size=es.size+1:=oM _ _ _;have hlen:=k.len;refine Kv (wpAny_storeSet_of k.get k.dat ?_ (by rw[Y,LK];omega))
  have g1:=xr (es':=SetTable.insertAt es pp (ik prog w kx,Value.ref ax)) (t':=t1) k.get k.dat;have C:=L7 s.heap a (Obj.putSet (SetTable.insertAt es pp (ik prog w kx,Value.ref ax)) t1);have X:(SetTable.insertAt es pp (ik prog w kx,Value.ref ax)).toList=(L.take pp++(kx,ax)::L.drop pp).map (ent prog w):=by
   rw[SetTable.toList_insertAt,k.ents,Lu,K3,List.map_take,List.map_drop];rfl
  have W:(L.take pp++(kx,ax)::L.drop pp).Perm ((kx,ax)::L):=by
   have:=List.perm_middle (a:=(kx,ax)) (l₁:=L.take pp) (l₂:=L.drop pp)
   rwa [List.take_append_drop]at this
  have v:((kx::L.map (·.1))).Nodup:=Lw.mpr ⟨Z,k.nd⟩;have F:∀ J:List KA,J.Perm ((kx,ax)::L)->(J.map (·.1)).Nodup:=fun J hp=>(Mz (hp.map (fun p:KA=>p.1))).mpr v;by_cases hful:t1.tooFull=true
  ·rw [hful];simp only[Bool.not_false,Bool.and_self,if_true];have O:(es.size+1)*5 ≥ t.mask*3:=by
    unfold SetTable.tooFull SetTable.fill at hful;rw[T.siz,T.dum,y,Y]at hful;simpa using hful
   have h5:es.size+1=5:=by
    have:=k.ok.few;rcases k.ok.msk with z|z<;>rw[z]at O this<;>omega
   obtain⟨t2,ord,r1,r2,r3,r4,r5,r6⟩:=yO (t:=t1) (es:=SetTable.insertAt es pp (ik prog w kx,Value.ref ax)) (by rw[Y];exact h5)
   have G:t1.fits (SetTable.insertAt es pp (ik prog w kx,Value.ref ax)).size=true:=T.fits (by
    rw[Y,y];have:=k.ok.few;rcases k.ok.msk with z|z<;>rw[z]at this ⊢<;>omega)
   unfold setRelay;refine Kv (Kv (L6 (s:={s with heap:=s.heap.update a (Obj.putSet (SetTable.insertAt es pp (ik prog w kx,Value.ref ax)) t1)}) g1 rfl G ?_));simp only;rw[h5];rw[if_neg (by rw[LK];decide)]
   rw[r1];refine Kv ?_;have step:∀(R:Array Ent×SetTable->Shared->Prop) (s1:Shared),R (ord.filterMap ((SetTable.insertAt es pp (ik prog w kx,Value.ref ax))[·]?),t2) s1->
     wpAny (model prog w) A (if ((ord.filterMap ((SetTable.insertAt es pp (ik prog w kx,Value.ref ax))[·]?)).size !=(SetTable.insertAt es pp (ik prog w kx,Value.ref ax)).size)=true
      then (do unsupported "internal:set-table-lost-an-element";pure (ord.filterMap ((SetTable.insertAt es pp (ik prog w kx,Value.ref ax))[·]?),t2))else pure (ord.filterMap ((SetTable.insertAt es pp (ik prog w kx,Value.ref ax))[·]?),t2)) R E s1:=fun R s1 hR=>by
    rw[if_neg (by rw[r3];simp)]
    exact Ky hR
   refine step _ _ ?_;refine wpAny_storeSet_of (s:={s with heap:=s.heap.update a (Obj.putSet (SetTable.insertAt es pp (ik prog w kx,Value.ref ax)) t1)}) g1 rfl ?_ (by rw[r3,Y,LK];omega)
   have N:(ord.filterMap ((SetTable.insertAt es pp (ik prog w kx,Value.ref ax))[·]?)).toList=(ord.toList.filterMap ((L.take pp++(kx,ax)::L.drop pp)[·]?)).map (ent prog w):=by
    rw[Array.toList_filterMap,List.map_filterMap];refine g0 fun i _=>?_;rw[<-Lc,X,K1]
   have U:(ord.toList.filterMap ((L.take pp++(kx,ax)::L.drop pp)[·]?)).Perm ((kx,ax)::L):=by
    refine(r2.filterMap _).trans ?_;have e1:(SetTable.insertAt es pp (ik prog w kx,Value.ref ax)).size=(L.take pp++(kx,ax)::L.drop pp).length:=by
     rw[<-My,X,Kx]
    rw[e1,List.filterMap_getElem?_range_length];exact W
   refine Ky (h _ _ _ _ _ _ _ ⟨xr g1 rfl,k.ex,rfl,r4,by rw[r6,I];exact k.pln,by rw[r5,B];exact k.led,N,F _ U⟩ (C.trans (L7 _ a _)) (.inr ⟨Z,U⟩))
  ·simp only[hful,Bool.and_false,Bool.false_eq_true,if_false];refine Ky ?_;refine h _ _ _ _ _ _ _ ⟨g1,k.ex,rfl,⟨T,?_⟩,by rw[I];exact k.pln,by rw[B];exact k.led,X,F _ W⟩ C (.inr ⟨Z,W⟩)
   unfold SetTable.tooFull SetTable.fill at hful;rw[T.siz,T.dum]at hful;have S:¬ (SetTable.insertAt es pp (ik prog w kx,Value.ref ax)).size*5 ≥ t1.mask*3:=by simpa using hful
   exact Nat.lt_of_not_ge S
end
theorem v7{h':Heap}(x:IsTupleKey (intKind prog w) h k a)(e:∀ o,h.get? a=some o->h'.get? a=some o):IsTupleKey (intKind prog w) h' k a:=
 let ⟨o,its,n,ho,r⟩:=x
 ⟨o,its,n,e o ho,r⟩
theorem SetAt.at{h':Heap}(k:SetAt prog w h a o es ep t L)(e:∀ o,h.get? a=some o->h'.get? a=some o):SetAt prog w h' a o es ep t L:=
 {k with get:=e o k.get}
structure Folded(kv L:List KA):Prop where
 nd:(L.map (·.1)).Nodup
 mem:∀ k,k∈L.map (·.1)↔k∈kv.map (·.1)
 sub:∀ p∈L,p∈kv
 len:L.length<=kv.length
theorem Folded.nil:Folded [] []:=⟨.nil,fun _=>.rfl,fun _ h=>h,Kz _⟩
theorem Folded.add(f:Folded kv L)(h:Ie L p L'):Folded (kv++[p]) L':=by
 rcases h with⟨h1,rfl⟩|⟨h1,h2⟩
 ·refine⟨f.nd,fun k=>?_,fun q Z=>MX _ (f.sub q Z),by have:=f.len;simp;omega⟩
  rw[f.mem,Lu,LS];refine⟨.inl,fun z=>z.elim id fun z=>?_⟩;have:k=p.1:=by simpa using z
  rw[this];exact(f.mem _).mp h1
 ·have hm:=h2.map (fun q:KA=>q.1);refine⟨(Mz hm).mpr (Lw.mpr ⟨h1,f.nd⟩),fun k=>?_,fun q Z=>?_,by have:=f.len;rw[h2.length_eq];simp;omega⟩
  ·rw[hm.mem_iff,K3,K2,f.mem,Lu,LS];constructor
   ·rintro(rfl|z)
    ·exact .inr (by simp)
    ·exact .inl z
   ·rintro(z|z)
    ·exact .inr z
    ·exact .inl (by simpa using z)
  ·rcases K2.mp (h2.mem_iff.mp Z)with rfl|z
   ·exact KZ _ (Nl.mpr rfl)
   ·exact MX _ (f.sub q z)
section
variable {prog:Program}{w:World}{A:Around}{R:Result->Shared->Prop}{I:Addr}{fp wr:List Addr}{G:Array GenState->Array GenState->Prop}{n:Nat}{P:Nat->Value->Prop}{St:Nat->Shared->Prop}
theorem Dd(W:WalksS prog w A.in1 I fp wr G n P St)(C:S ∉ fp)(Z:Nat->KA)(y:∀ i v,P i v->v= .ref (Z i).2)(hn:n<=18)(d:A.in1.units<cLine)(K:∀ i,i<n->(Z i).2 ∉ S::wr):
  ∀(c i:Nat) (s:Shared),n - i=c->i<=n->St i s->(∀ j,j<n->IsTupleKey (intKind prog w) s.heap (Z j).1 (Z j).2)->∀ o es ep t L,SetAt prog w s.heap S o es ep t L->Folded ((List.range i).map Z) L->
   (∀ s',Moved (S::wr) G s s'->∀ o es ep t L,SetAt prog w s'.heap S o es ep t L->Folded ((List.range n).map Z) L->R (.ok (.ret .none)) s')->
   codeAny (model prog w) A (.builtin "set.update.loop" ⟨[.ref S,.ref I],[]⟩) R s:=by
 have J:S ∉ wr:=fun h=>C (W.sub _ h);have X:∀ b∈wr,b∈S::wr:=fun b x=>KJ _ x;intro c
 induction c with
 |zero=>
  intro i s a hi Q f o es ep t L m B r;obtain rfl:i=n:=by omega
  refine MQ F.entry_set_update_loop ?_;rw[Mt Nm _];show wpAny _ A.in1 (pyNext (.ref I)>>=_) _ _ s;refine Kv (W.done s _ _ Q fun s' hm=>?_);show wpAny _ A.in1 (ret Value.none) _ _ s';exact Ky (r s' (hm.mono X) o es ep t L (m.at fun N e=>hm.heap S N J e) B)
 | succ c ih=>
  intro i s a hi Q f o es ep t L m B r;have Y:i<n:=by omega
  refine MQ F.entry_set_update_loop ?_;rw[Mt Nm _];show wpAny _ A.in1 (pyNext (.ref I)>>=_) _ _ s;refine Kv (W.item i s _ _ Y Q fun v s' hP E hm=>?_);cases y i v hP;have u:=m.at (h':=s'.heap) fun N e=>hm.heap S N J e;have U:∀ j,j<n->IsTupleKey (intKind prog w) s'.heap (Z j).1 (Z j).2:=fun j O=>v7 (f j O) fun N e=>hm.heap _ N (fun z=>K j O (X _ z)) e;show wpAny _ A.in1 (holding [Value.ref (Z i).2] (setAdd S (.ref (Z i).2))>>=_) _ _ s';refine Kv (Lm ?_);unfold setAdd;refine Lm ?_;refine Kv (wpAny_pyHash_tuple d (U i Y) ?_);have b0:L.length<=i:=by have:=B.len;simpa using this
  have l:v5 prog w s'.heap L:=fun p hp=>by
   obtain⟨j,O,rfl⟩:=K4.mp (B.sub p hp);exact U j (N5 (KS.mp O) Y)
  refine FT (s:={s' with toks:=s'.toks+((Z i).1.length+1)}) d u l (U i Y) (by omega) fun b h' N es' a5 t' L' g T hA=>?_
  have q:Folded ((List.range (i+1)).map Z) L':=by
   rw[List.range_succ,Lu];exact B.add hA
  refine Ky ⟨Os Nm _,ih (i+1) _ (by omega) Y (W.frame _ s' _ _ E (MG _ _) fun b x o e=>?_) (fun j O=>v7 (U j O) fun o e=>?_) _ _ _ _ _ g q fun k H=>?_⟩
  ·rw[T.2 b (fun h:b=S=>C (by rw[<-h];exact x))];exact e
  ·rw[T.2 _ (fun h=>K j O (by rw[h];exact KR))];exact e
  ·refine r k (Moved.trans W.gtrans ((hm.mono X).then_heap (MG _ _) fun b o x e=>?_) H);rw[T.2 b (fun h:b=S=>x (by rw[h];exact KR))];exact e
end
section
variable {prog:Program}{w:World}{A:Around}{E:Value->Shared->Prop}{s:Shared}
theorem uw:isSubtype (.type "tuple") (.type "set")=pure false:=by rw[NG];kernel_rfl
theorem sE:isSubtype (.type "tuple") (.type "frozenset")=pure false:=by rw[NG];kernel_rfl
def dP(led:Bool):Obj:={cls:=.type "set",dict:=none,data:=.set #[] 0 (.fresh 0 0 led)}
def iu(w:World):Bool:= !(w.params.followText "set-order")
def Src(h:Heap)(x:Addr)(items:Array Value):Prop:=h.IsList x items\/h.IsTuple x items
theorem Src.at{h':Heap}(r:Src h x items)(e:∀ o,h.get? x=some o->h'.get? x=some o):Src h' x items:=by
 rcases r with⟨o,ho,r⟩|⟨o,ho,r⟩
 ·exact .inl ⟨o,e o ho,r⟩
 ·exact .inr ⟨o,e o ho,r⟩
theorem Src.lt(r:Src h x items):x<h.objs.size:=by
 rcases r with⟨o,ho,_⟩|⟨o,ho,_⟩<;>exact KF ho
theorem A0(r:Src s.heap x items)
  (h:∀(ob:Obj) (St:Nat->Heap->Prop),(∀ Y:Around,Y.handled=none->Walks prog w Y s.heap.objs.size [s.heap.objs.size,x] [s.heap.objs.size] items.size (fun i v=>items[i]? =some v) St)->St 0 (s.heap.push ob)->
   Q (.ref s.heap.objs.size) {s with heap:=s.heap.push ob}):wpAny (model prog w) A (pyIter (.ref x)) Q E s:=by
 have Z:x≠s.heap.objs.size:=KL r.lt;rcases r with r|r
 ·refine Nw r (h _ _ (fun Y X=>Walks.list X s.heap.objs.size x Z items) ⟨⟨_,KG _ rfl,rfl,rfl⟩,r.push _⟩)
 ·refine Mc r (h _ _ (fun Y X=>Walks.tuple X s.heap.objs.size x Z items) ⟨⟨_,KG _ rfl,rfl,rfl⟩,?_⟩);obtain⟨o,W,q⟩:=r;exact⟨o,Kw _ W,q⟩
theorem JM(a:Value){Q1:Value->Shared->Prop}(h:Q1 (.ref s.heap.objs.size) {s with heap:=s.heap.push (dP (iu w))}):
  codeAny (model prog w) A (.call (.builtin "set.__new__") ⟨[.type "set",a],[]⟩) (wants Q1 E) s:=by
 refine NR ?_;show wpAny _ A.in1 (do checkBuiltinCall "set.__new__" ⟨[.type "set",a],[]⟩;again (.builtin "set.__new__" ⟨[.type "set",a],[]⟩)) _ _ s
 refine Kv (OJ (F.newCall_set_1 a) (Ky ⟨Os F.plain_set_new _,MQ F.entry_set_new ?_⟩));rw[Mt F.plain_set_new _];unfold Builtin.«set.__new__» Builtin.Frozenset.newClass;have Z:=sub_set_self;obtain⟨Y,g,d,X,os⟩:=s;dsimp only
 wp_walk
 refine MH (Ky ?_);dsimp only;simp only[newObj];exact Kv (wpAny_alloc (Ky (Ky h)))
theorem A1(r:Src s.heap x items):∃ T,s.TypeIs (.ref x) T/\isSubtype (.type T) (.type "set")=pure false/\isSubtype (.type T) (.type "frozenset")=pure false/\(Value.type T==Value.type "dict")=false:=by
 rcases r with⟨o,ho,hc,_⟩|⟨o,ho,hc,_⟩
 ·exact⟨"list",⟨o,ho,hc⟩,F.sub_list_set,F.sub_list_frozenset,by decide⟩
 ·exact⟨"tuple",⟨o,ho,hc⟩,uw,sE,by decide⟩
set_option maxHeartbeats 8000000 in
theorem FU(a:A.handled=none)(hu:A.in1.in1.in1.units<cLine)(r:Src s.heap x items)(X:Nat->KA)(S:∀(i:Nat) (v:Value),items[i]? =some v->v= .ref (X i).2)(hn:items.size<=18)
  (z:∀ j,j<items.size->IsTupleKey (intKind prog w) s.heap (X j).1 (X j).2)
  (h:∀(h':Heap) (tk:Nat) o es ep t L,SetAt prog w h' s.heap.objs.size o es ep t L->Folded ((List.range items.size).map X) L->(∀ b o,b<s.heap.objs.size->s.heap.get? b=some o->h'.get? b=some o)->
   Q (.ref s.heap.objs.size) {s with heap:=h',toks:=tk}):wpAny (model prog w) A (call (.type "set") [.ref x]) Q E s:=by
 obtain⟨c,tl,m⟩:=F.called_set.mro;have G:=F.called_set.made;have p:=F.called_set.sub;refine Nz (NR ?_);show wpAny _ _ (callAny (.type "set") _) _ _ _;refine Ky ⟨N8 _ (by decide+kernel),MQ F.entry_type_call ?_⟩
 rw[Around.under_plain (weight_type_call_type "set" [.ref x] []) rfl];have h1:=F.called_set.notType;have h2:=F.called_set.canCreate;have a6:=F.typeCall_set_1 (.ref x)
 repeat (any_goals (first|assumption|wp_step))
 refine Mw (JM (.ref x) (E:=E) (Q1:=fun obj s1=>obj= .ref s.heap.objs.size/\s1={s with heap:=s.heap.push (dP (iu w))}) ⟨rfl,rfl⟩) fun g s1 K=>?_;cases g with
 |error e=>exact K
 | ok fl=>
  cases fl with
  | ret obj=>
   obtain⟨rfl,rfl⟩:=K;have y:(s.heap.push (dP (iu w))).get? s.heap.objs.size=some (dP (iu w)):=KG _ rfl;have B:Shared.TypeIs {s with heap:=s.heap.push (dP (iu w))} (.ref s.heap.objs.size) "set":=⟨_,y,rfl⟩;have d:=F.called_set.init.lookup;have b0:=F.called_set.init.bind (.ref s.heap.objs.size)
   repeat (any_goals (first|assumption|wp_step))
   refine Mw (NO (R:=wants (fun r s2=>r= .none/\Q (.ref s.heap.objs.size) s2) E) F.called_set.init.plain F.entry_set_init (check_set_init_1 B ?_)) fun r2 s2 Y=>?_
   ·have u:Src (s.heap.push (dP (iu w))) x items:=r.at fun o e=>Kw _ e;obtain⟨Tx,k,f,a3,hd⟩:=A1 (s:={s with heap:=s.heap.push (dP (iu w))}) u;unfold Builtin.«set.__init__» noKeywords Builtin.Frozenset.updateFrom;generalize hPI:pyIter=PI;have b3:=B;unfold dP at y
    wp_walk
    subst hPI;refine A0 (s:={s with heap:=s.heap.push (dP (iu w))}) u fun q St W O=>?_;refine Kv (wpAny_runValue ?_);have P:x<s.heap.objs.size:=r.lt;have Z:(s.heap.push (dP (iu w))).objs.size=s.heap.objs.size+1:=LN _ _;have I:s.heap.objs.size ∉ [(s.heap.push (dP (iu w))).objs.size,x]:=by
     rw[Z];simp only[List.mem_cons,List.not_mem_nil,or_false,not_or];exact⟨KL (MF _),Mi P⟩
    have C:A.in1.in1.in1.handled=none:=by simp[a]
    have up:∀ b o,s.heap.get? b=some o->((s.heap.push (dP (iu w))).push q).get? b=some o:=fun b o e=>Kw _ (Kw _ e);have T:∀ j,j<items.size->(X j).2<s.heap.objs.size:=fun j U=>let ⟨_,_,_,e,_⟩:=z j U;KF e;have S0:SetAt prog w ((s.heap.push (dP (iu w))).push q) s.heap.objs.size (dP (iu w)) #[] 0 (.fresh 0 0 (iu w)) []:=
     ⟨Kw _ (KG _ rfl),⟨rfl,rfl,rfl⟩,rfl,AU _,rfl,rfl,rfl,.nil⟩
    refine Dd ((W _ C).toS) I X S hn hu (fun j U=>?_) (items.size - 0) 0 _ rfl (K5 _) O (fun j U=>v7 (z j U) fun o e=>up _ o e) _ _ _ _ _ S0 .nil fun s' hm o es ep t L N hF=>?_
    ·rw[Z];have:=T j U;simp only[List.mem_cons,List.not_mem_nil,or_false,not_or];exact⟨KL this,KL (LQ this)⟩
    ·obtain⟨h',g',d',H,J⟩:=s';have eg:g'=s.gens:=hm.gens;have ed:d'=s.drawn:=hm.drawn;have l:J=s.os:=hm.os;subst eg ed l;show wpAny _ _ _ _ _ _;refine Ky ?_;show wpAny _ _ (ret Value.none) _ _ _;refine Ky ⟨rfl,h h' H o es ep t L N hF fun b o n e=>?_⟩;refine hm.heap b o ?_ (up b o e);rw[Z];simp only[List.mem_cons,List.not_mem_nil,or_false,not_or];exact⟨KL n,KL (LQ n)⟩
   ·cases r2 with
    |error e=>exact Y
    | ok fl2=>
     cases fl2 with
     |ret rv=>
      obtain⟨rfl,hq⟩:=Y
      repeat (any_goals (first|assumption|wp_step))
     |_=>exact Y.elim
  |_=>exact K.elim
end
theorem oU{Z:Type}:∀{l:List Z} {i:Nat} {x:Z},l[i]? =some x->l.Perm (x::l.eraseIdx i)
 |[],_,_,h=>by simp at h
 |y::l,0,x,h=>by simp at h;subst h;exact .refl _
 |y::l,i+1,x,h=>by
  have:=oU (l:=l) (i:=i) (x:=x) (by simpa using h)
  rw[List.eraseIdx_cons_succ];exact(List.Perm.cons y this).trans (.swap _ _ _)
theorem xt{W:Type}(Z:Nat->Nat):∀(fuel k:Nat) (left:List W) (out:Array W),left.length=fuel->(pickOrder.go Z fuel k left out).toList.Perm (out.toList++left)
 |0,k,left,out,h=>by
  have:left=[]:=List.length_eq_zero_iff.mp h;subst this;unfold pickOrder.go;simp
 |fuel+1,k,left,out,h=>by
  unfold pickOrder.go;have Y:Z k % left.length<left.length:=Og _ (by omega)
  have X:left[Z k % left.length]? =some left[Z k % left.length]:=KB Y
  rw[X];simp only;refine(xt Z fuel (k+1) _ _ (by rw[NY Y];omega)).trans ?_
  rw[Array.toList_push,K9];exact List.Perm.append_left _ (oU X).symm
theorem yQ{Y:Type}(Z:Nat->Nat)(xs:Array Y):(pickOrder Z xs).toList.Perm xs.toList:=by
 have:=xt Z xs.size 0 xs.toList #[] (by simp)
 simpa [pickOrder]using this
def jw(w:World)(a:Addr)(ep:Nat)(es:Array Ent):Array Ent:=if w.params.followText "set-order"=true then pickOrder (w.params.setOrder a ep) es else es
theorem qS(w:World)(a:Addr)(ep:Nat)(es:Array Ent):(jw w a ep es).toList.Perm es.toList:=by
 unfold jw;split
 ·exact yQ _ _
 ·exact .refl _
theorem kh(w:World)(a:Addr)(ep:Nat)(es:Array Ent):(jw w a ep es).size=es.size:=by
 have:=(qS w a ep es).length_eq;simpa using this
theorem eh:Slot "set_iterator" "__next__" "set_iterator.__next__":=
 .of (owner:="set_iterator") (n:="__next__") (by rw[OF,NJ];kernel_rfl) (by decide+kernel) (by decide+kernel) (by decide+kernel)
  (by first|exact .inl (by decide+kernel)|exact .inr (by decide+kernel)) (by rw[NG];kernel_rfl)
theorem kB:entryFor table "set_iterator.__next__"=some Builtin.«set_iterator.__next__»:=entryFor_of_fast (by kernel_rfl)
theorem lF(a:Value):argsOk "set_iterator.__next__" ⟨[a],[]⟩:=by unfold argsOk;kernel_rfl
theorem oV:entryFor table "set.__iter__"=some Builtin.«frozenset.__iter__»:=
 entryFor_alias (id':="frozenset.__iter__") (by kernel_rfl) rfl (by decide+kernel) (by kernel_rfl)
section
variable {prog:Program}{w:World}{A:Around}{E:Value->Shared->Prop}{s:Shared}
def gC(w:World)(t:SetTable)(i:Nat):Nat:=if w.params.followText "set-order"=true then 0 else match i with
 |0=>0
 |i+1=>t.place.getD i 0+1
structure IterAt(w:World)(h:Heap)(I a:Addr)(t:SetTable)(sz ep i:Nat):Prop where
 ex:∃ o,h.get? I=some o/\o.cls= .type "set_iterator"/\o.data= .fields #[.int (gC w t i) 0,.int i 0,.ref a,.int sz 0,.int ep 0]
theorem IterAt.typeIs(k:IterAt w s.heap I a t sz ep i):s.TypeIs (.ref I) "set_iterator":=
 let ⟨o,ho,hc,_⟩:=k.ex
 ⟨o,ho,hc⟩
theorem xu(k:SetAt prog w s.heap a o es ep t L)(H:i<=es.size){Q:Option (Value×Nat)->Shared->Prop}
  (h:Q (((jw w a ep es)[i]?).map fun e=>(e.2,gC w t (i+1))) s):wpAny (model prog w) A (setNext a (gC w t i) i ep) Q E s:=by
 unfold setNext;refine Kv (L6 k.get k.dat k.fits ?_);simp only;unfold setsByText;refine Kv (Kv (MH (Ky ?_)));show wpAny _ _ (if (w.params.followText "set-order")=true then _ else _) _ _ s;by_cases hw:w.params.followText "set-order"=true
 ·rw[if_pos hw];simp only[bne_self_eq_false,Bool.false_eq_true,if_false];unfold setWalk;refine Kv (Kv (L6 k.get k.dat k.fits ?_));simp only;unfold setsByText;refine Kv (Kv (MH (Ky ?_)));show wpAny _ _ (if (w.params.followText "set-order")=true then _ else _) _ _ s;rw[if_pos hw];refine Kv (MH (Ky ?_));refine Ky ?_;have e1:jw w a ep es=pickOrder (w.params.setOrder a ep) es:=by unfold jw;rw[if_pos hw]
  have e2:∀ j,gC w t j=0:=fun j=>by unfold gC;rw[if_pos hw]
  rw[e1,e2]at h;rw[e2];exact h
 ·rw [if_neg hw];have P:(!t.plain && decide (es.size>1))=false:=by rw[k.pln];rfl
  have K:t.led=true:=by rw[k.led];simpa using hw
  have e1:jw w a ep es=es:=by unfold jw;rw[if_neg hw]
  have e2:∀ j,gC w t j=match j with|0=>0|j+1=>t.place.getD j 0+1:=fun j=>by unfold gC;rw[if_neg hw]
  have I:SetTable.below t.place (gC w t i)=i:=by
   obtain⟨T,Y,X⟩:=oK k.ok.ris (gC w t i);cases i with
   | zero=>
    rw[e2]at T Y X ⊢;simp only at T Y X ⊢;rcases Nat.eq_zero_or_pos (SetTable.below t.place 0)with z|z
    ·exact z
    ·have Z:0<t.place.size:=by omega
     have:=Y 0 _ z (KI Z);omega
   | succ i=>
    have W:i<t.place.size:=by rw[k.ok.siz];omega
    have S:t.place.getD i 0=t.place[i]:=by simp[Array.getD,W]
    rw[e2]at T Y X ⊢;simp only[S]at T Y X ⊢;have O:=KI W;rcases Oh (SetTable.below t.place (t.place[i]+1)) (i+1)with l|l|l
    ·have:=X i _ (by omega) O
     omega
    ·exact l
    ·have Z:i+1<t.place.size:=by omega
     have G:=Y (i+1) _ l (KI Z);have F:=k.ok.ris i (i+1) _ _ (by omega) O (KI Z)
     omega
  generalize hu:PySem.unsupported=U;show wpAny _ _ (if (!t.plain && decide (es.size>1))=true then _ else _) _ _ s;rw[P];simp only[Bool.false_eq_true,if_false];have hm:∀ R:Unit->Shared->Prop,R () s->wpAny (model prog w) A (if (!t.led && !es.isEmpty)=true then unsupported "set:maker-not-led" else pure ()) R E s:=fun R J=>by
   rw[K];simp only[Bool.not_true,Bool.false_and,Bool.false_eq_true,if_false];exact Ky J
  refine Kv (hm _ ?_);refine Ky ?_;rw[I];rw[e1,e2]at h;simp only at h;by_cases Z:i<es.size
  ·have N:i<t.place.size:=by rw[k.ok.siz];exact Z
   have S:t.place.getD i 0=t.place[i]:=by simp[Array.getD,N]
   rw[KI Z,S]at h;rw[KI Z,KI N];exact h
  ·rw[L4 (by omega)]at h
   rw[L4 (by omega)]
   exact h
end
theorem A3{Y X:Type}{f:Y->X}{l W:List X}(h:l.Perm W):∀ L:List Y,W=L.map f->∃ Z:List Y,Z.Perm L/\l=Z.map f:=by
 induction h with
 |nil=>intro L e;exact⟨[],by rw[List.map_eq_nil_iff.mp e.symm],rfl⟩
 | cons x _ ih=>
  intro L e;cases L with
  |nil=>cases e
  |cons y L=>
   rw[K3]at e;injection e with e1 e2;obtain⟨Z,p,q⟩:=ih L e2;exact⟨y::Z,p.cons y,by rw[q,e1];rfl⟩
 | swap x y l=>
  intro L e
  match L,e with
  |[],e=>cases e
  |[_],e=>rw[K3]at e;injection e with _ e;cases e
  |a::b::L,e=>
   rw[K3,K3]at e;injection e with e1 e2;injection e2 with e2 e3;exact⟨b::a::L,.swap _ _ _,by rw[e1,e2,e3];rfl⟩
 |trans _ _ ih1 ih2=>
  intro L e;obtain⟨L1,S,R⟩:=ih2 L e;obtain⟨U,T,Q⟩:=ih1 L1 R;exact⟨U,T.trans S,Q⟩
section
variable {prog:Program}{w:World}{A:Around}{E:Value->Shared->Prop}{s:Shared}
theorem qT{h:Heap}{g:Array Value->Array Value}(Y:h.get? I=some o)(Z:o.data= .fields fs):
  ∃ o',(h.update I (Obj.mapFields g)).get? I=some o'/\o'.cls=o.cls/\o'.data= .fields (g fs):=
 ⟨_,Lz _ Y (MR (Md Z _)),Om ..,Md Z _⟩
theorem next_item{Q:Option Value->Shared->Prop}(k:SetAt prog w s.heap a o es ep t L)(Z:IterAt w s.heap I a t es.size ep i)(N:I≠a)
  (W:(jw w a ep es)[i]? =some e) (R:∀ h',IterAt w h' I a t es.size ep (i+1)->Heap.SameBut I s.heap h'->Q (some e.2) {s with heap:=h'}):wpAny (model prog w) A (pyNext (.ref I)) Q E s:=by
 obtain⟨K,Y,T,hd⟩:=Z.ex;have X:i<es.size:=by rw[<-kh w a ep es];exact(K7.mp W).1
 unfold pyNext;refine Kv (MU (wpAny_callSpecial?_slot (name:=Str.ofString "__next__") Z.typeIs eh
  (LC eh Z.typeIs kB ?_ (lF _))))
 unfold Builtin.«set_iterator.__next__»;refine Kv (m:=slotArgs "__next__" 0 _) (Ky ?_);refine Kv (wpAny_fieldsOf Y hd ?_);simp only;refine Kv (NS k.get k.dat k.fits ?_);rw[if_neg (by simp)]
 refine Kv ?_;rw[Lo,Lo,Lo];refine xu k (Mm X) ?_;rw[W];simp only[Option.map_some];refine Kv (MK Y hd (by simp) ?_)
 obtain⟨O,g1,c1,U⟩:=qT (g:=fun fs=>fs.set! 0 (rawInt (gC w t (i+1):Nat))) Y hd;refine Kv (MK (o:=O) (s:={s with heap:=_}) g1 U (by simp) (Ky ⟨e.2,rfl,Ky (R _ ?_ ((L7 ..).trans (L7 ..)))⟩))
 obtain⟨o2,g2,S,P⟩:=qT (g:=fun fs=>fs.set! 1 (rawInt ((i:Int)+1))) g1 U;refine⟨o2,g2,by rw[S,c1];exact T,?_⟩
 rw[P];simp[rawInt]
theorem next_end{Q:Option Value->Shared->Prop}(X:A.handled=none)(k:SetAt prog w s.heap a o es ep t L)(Z:IterAt w s.heap I a t es.size ep es.size)
  (W:∀ h',Heap.ExtBut I s.heap h'->Q none {s with heap:=h'}):wpAny (model prog w) A (pyNext (.ref I)) Q E s:=by
 obtain⟨S,Y,U,hd⟩:=Z.ex;unfold pyNext;refine Kv (MU (wpAny_callSpecial?_slot (name:=Str.ofString "__next__") Z.typeIs eh
  (LC eh Z.typeIs kB ?_ (lF _))))
 unfold Builtin.«set_iterator.__next__»;refine Kv (m:=slotArgs "__next__" 0 _) (Ky ?_);refine Kv (wpAny_fieldsOf Y hd ?_);simp only;refine Kv (NS k.get k.dat k.fits ?_);rw[if_neg (by simp)]
 refine Kv ?_;rw[Lo,Lo,Lo];refine xu k (Kz _) ?_;rw[L4 (by rw[kh];exact Kz _)]
 simp only[Option.map_none];refine Kv (MK Y hd (by simp) ?_)
 show wpAny _ _ (newExc (.type "StopIteration") []>>=_) _ _ _;refine Kv ?_;simp only[newExc,newTuple];refine Kv (Ln ?_ (by size_fits))
 refine Kv (m:=firstArgMember _ _) (OJ (a:=Value.none) (by first|rfl|(simp only[firstArgMember];rfl)) ?_)
 refine Ln ?_ (by size_fits)
 simp only[raiseNew];refine Kv (wpAny_handled ?_);first|rw[show A.in1.handled=none from X]|rw[X]
 refine Kv (Ky (wpAny_throw ?_));refine Kv (MI (T:="StopIteration") (b:=true) ⟨_,KG _ rfl,rfl⟩ NH ?_);exact Ky (W _ (((L7 ..).extBut.push _).push _))
theorem IterAt.at{h':Heap}(k:IterAt w h I a t sz ep i)(e:∀ o,h.get? I=some o->h'.get? I=some o):IterAt w h' I a t sz ep i:=
 let ⟨o,ho,r⟩:=k.ex
 ⟨⟨o,e o ho,r⟩⟩
theorem lG:Slot "set_iterator" "__iter__" "set_iterator.__iter__":=
 .of (owner:="set_iterator") (n:="__iter__") (by rw[OF,NJ];kernel_rfl) (by decide+kernel) (by decide+kernel) (by decide+kernel)
  (by first|exact .inl (by decide+kernel)|exact .inr (by decide+kernel)) (by rw[NG];kernel_rfl)
theorem qk:entryFor table "set_iterator.__iter__"=some Builtin.«dict_keyiterator.__iter__»:=
 entryFor_alias (id':="dict_keyiterator.__iter__") (by kernel_rfl) rfl (by decide+kernel) (by kernel_rfl)
theorem sF(a:Value):argsOk "set_iterator.__iter__" ⟨[a],[]⟩:=by unfold argsOk;kernel_rfl
theorem A4{Q:Value->Shared->Prop}(k:SetAt prog w s.heap a o es ep t L)
  (T:∀ ob,IterAt w (s.heap.push ob) s.heap.objs.size a t es.size ep 0->Q (.ref s.heap.objs.size) {s with heap:=s.heap.push ob}):wpAny (model prog w) A (pyIter (.ref a)) Q E s:=by
 have U:s.TypeIs (.ref a) "set":=⟨o,k.get,k.ex.1⟩;refine wpAny_pyIter_slot U F.slot_set_iter (LC F.slot_set_iter U oV ?_ (F.args_set_iter_1 _));unfold Builtin.«frozenset.__iter__» Builtin.Frozenset.slot0;refine Kv (Kv (m:=slotArgs "__iter__" 0 _) (Ky ?_));refine Ky ?_;unfold Builtin.Frozenset.sizeOf;refine Kv (Kv (NS k.get k.dat k.fits (Ky ?_)));unfold setDrawn;refine Kv (Kv (L6 k.get k.dat k.fits ?_));simp only;unfold setsByText;refine Kv (Kv (MH (Ky ?_)));refine Ky ?_;have W:(!(w.params.followText "set-order") && (!t.plain && decide (es.size>1)))=false:=by rw[k.pln];simp
 have Z:∀(X Y:Sem Fin) (R:Fin->Shared->Prop),wpAny (model prog w) A.in1 Y R E s->wpAny (model prog w) A.in1 (if (!(w.params.followText "set-order") && (!t.plain && decide (es.size>1)))=true then X else Y) R E s:=fun X Y R P=>by
  rw[W];simp only[Bool.false_eq_true,if_false];exact P
 refine Z _ _ _ ?_;refine Kv (Ky ?_);refine Kv (wpAny_setEpoch_of k.get k.dat k.fits ?_);refine Kv (Ln (Ky ⟨_,rfl,"set_iterator",_,⟨_,KG _ rfl,rfl⟩,eh.lookup,T _ ⟨⟨_,KG _ rfl,rfl,?_⟩⟩⟩));have S:gC w t 0=0:=by
  unfold gC;split<;>rfl
 rw[S];rfl
theorem yR{es:Array Ent}(N:A.handled=none)(T:I≠a):Walks prog w A I [I,a] [I] es.size (fun i v=>∃ e,(jw w a ep es)[i]? =some e/\v=e.2)
  (fun i h=>SetAt prog w h a o es ep t L/\IterAt w h I a t es.size ep i) where
 sub:=fun b Y=>by simp at Y;simp[Y]
 frame:=fun i h h' st P=>⟨st.1.at fun Z e=>P a (by simp) Z e,st.2.at fun Z e=>P I (by simp) Z e⟩
 item:=fun i s Q E O st X=>by
  have R:i<(jw w a ep es).size:=by rw[kh];exact O
  have he:=KI R;exact next_item st.1 st.2 T he fun h' U W=>X _ h' s.toks ⟨_,he,rfl⟩ ⟨st.1.at fun Z e=>W.extBut a Z (Ne.symm T) e,U⟩ fun b Z Y e=>W.extBut b Z (fun z=>Y (by simp[z])) e
 done:=fun s Q E st X=>next_end N st.1 st.2 fun h' S=>X h' s.toks fun b Z Y e=>S b Z (fun z=>Y (by simp[z])) e
 self:=fun i s Q E st X=>by
  refine wpAny_pyIter_slot st.2.typeIs lG (LC lG st.2.typeIs qk ?_ (sF _));show wpAny _ _ (ret (.ref I)) _ _ s;exact Ky ⟨_,rfl,"set_iterator",_,st.2.typeIs,eh.lookup,X⟩
theorem ux{Q:List Value->Shared->Prop}(h:A.handled=none)(k:SetAt prog w s.heap a o es ep t L)(j:es.size<=18)
  (g:∀(h':Heap) (tk:Nat) (K:List KA),K.Perm L->(∀ b o,s.heap.get? b=some o->h'.get? b=some o)->Q (K.map fun p=>Value.ref p.2) {s with heap:=h',toks:=tk}):
  wpAny (model prog w) A (collect (.ref a)) Q E s:=by
 have Y:a<s.heap.objs.size:=KF k.get;unfold collect;refine Kv (wpAny_runValue (MQ F.entry_proto_collect ?_));rw[Mt F.plain_proto_collect _];show wpAny _ A.in1 (newList []>>=fun l=>again (.builtin "list.__iadd__" ⟨[l,.ref a],[]⟩)) _ _ s;refine Kv (Ln ?_);refine Ky ⟨Os F.plain_list_iadd _,MQ F.entry_list_iadd ?_⟩;rw[Mt F.plain_list_iadd _];have k1:SetAt prog w (s.heap.push {cls:=.type "list",data:=.seq ([]:List Value).toArray}) a o es ep t L:=k.at fun Z e=>Kw _ e;have C:(s.heap.push {cls:=.type "list",data:=.seq ([]:List Value).toArray}).get? s.heap.objs.size=some {cls:=.type "list",data:=.seq ([]:List Value).toArray}:=KG _ rfl;have r:Shared.TypeIs {s with heap:=s.heap.push {cls:=.type "list",data:=.seq ([]:List Value).toArray}} (.ref a) "set":=⟨o,k1.get,k1.ex.1⟩;have S:Builtin.List.listSameRef (.ref s.heap.objs.size) (.ref a)=false:=by simp[Builtin.List.listSameRef,Nat.ne_of_gt Y]
 show wpAny _ A.in1 (Builtin.List.listExtendWith (.ref s.heap.objs.size) (.ref a) (.ref s.heap.objs.size)) _ _ _;unfold Builtin.List.listExtendWith;refine Kv (Na r ?_);rw[if_neg (by rw[S];decide)]
 refine Kv (A4 (s:={s with heap:=s.heap.push {cls:=.type "list",data:=.seq ([]:List Value).toArray}}) k1 fun O hit=>?_);refine Kv (Lm ?_);have T:Shared.TypeIs {s with heap:=(s.heap.push {cls:=.type "list",data:=.seq ([]:List Value).toArray}).push O} (.ref a) "set":=⟨o,Kw _ k1.get,k1.ex.1⟩;unfold Builtin.List.listLengthHint;refine Kv (wpAny_specialOf T F.slot_set_len.lookup ?_);generalize cQ:("set.__len__":String)=id0
 wp_delta
 rw[show splitId id0=some ("set","__len__")from by subst cQ;decide+kernel]
 subst cQ;refine Kv (MI (b:=true) T sub_set_self ?_);rw[if_neg (by decide)]
 rw[if_pos (by decide+kernel)]
 refine Kv (Na T ?_);refine Ky ?_;rw[if_pos (by decide+kernel)]
 refine Kv (M8 ?_);generalize hg:(s.heap.push {cls:=.type "list",data:=.seq ([]:List Value).toArray}).objs.size=I at hit;have z:I=s.heap.objs.size+1:=by rw[<-hg];exact LN _ _
 have y:I≠a:=by rw[z];exact Mi (LQ Y)
 have R:I≠s.heap.objs.size:=by rw[z];exact OA _
 have m:s.heap.objs.size ∉ [I,a]:=by
  simp only[List.mem_cons,List.not_mem_nil,or_false,not_or];exact⟨Ne.symm R,Mi Y⟩
 have P:((s.heap.push {cls:=.type "list",data:=.seq ([]:List Value).toArray}).push O).get? s.heap.objs.size=some {cls:=.type "list",data:=.seq ([]:List Value).toArray}:=Kw _ C;refine Kv ?_;show wpAny _ A.in1 (updateSeq s.heap.objs.size (·.push .none)>>=fun _=>updateSeq s.heap.objs.size (·.pop)) _ _ _;refine Kv (wpAny_updateSeq P rfl ?_);have N:=Lz (Obj.mapSeq (·.push Value.none)) P rfl;refine wpAny_updateSeq N rfl ?_;have G:=Lz (Obj.mapSeq (·.pop)) N rfl;have U:∀ b Z,b≠s.heap.objs.size->((s.heap.push {cls:=.type "list",data:=.seq ([]:List Value).toArray}).push O).get? b=some Z->
   ((((s.heap.push {cls:=.type "list",data:=.seq ([]:List Value).toArray}).push O).update s.heap.objs.size (Obj.mapSeq (·.push Value.none))).update s.heap.objs.size (Obj.mapSeq (·.pop))).get? b=some Z:=
  fun b Z v e=>(Lk _ _ (Ne.symm v)).trans ((Lk _ _ (Ne.symm v)).trans e)
 have k2:=(k1.at (h':=(s.heap.push {cls:=.type "list",data:=.seq ([]:List Value).toArray}).push O) fun Z e=>Kw _ e);have H:A.in1.handled=none:=by simp[h]
 have W:=yR (prog:=prog) (w:=w) (A:=A.in1) (I:=I) (a:=a) (o:=o) (es:=es) (ep:=ep) (t:=t) (L:=L) H y;refine Ky ⟨Os F.plain_extend_loop _,?_⟩;refine codeAny_extend_loopS W.toS (by rw[LK];omega) _ m _ es.size 0 _ _ _ rfl (K5 _) ⟨k2.at fun Z e=>U a Z (KL Y) e,hit.at fun Z e=>U I Z R e⟩ G (ItemsOf.nil _) fun s' acc c hm J X=>?_
 show wpAny _ A (load s.heap.objs.size>>=_) _ _ s';refine Kv (wpAny_load J ?_);refine Ky ?_;obtain⟨h',g',d',x,B⟩:=s';have f:g'=s.gens:=hm.gens;have d:d'=s.drawn:=hm.drawn;have u:B=s.os:=hm.os;subst f d u;obtain⟨K,n,q⟩:=A3 (qS w a ep es) L k.ents;have he:acc.toList=K.map fun p=>Value.ref p.2:=by
  have e1:acc.toList=(jw w a ep es).toList.map (·.2):=by
   refine NC fun i=>?_;rw[Lc,K1,Lc];by_cases hi:i<acc.size
   ·obtain⟨e,e1,e2⟩:=X.2 i _ (KI hi);rw[KI hi,e2,e1];rfl
   ·rw[L4 (by omega),L4 (by rw[kh, <-X.1];omega)];rfl
  rw[e1,q,Ll];rfl
 rw[he];refine g h' x K n fun b Z e=>hm.heap b Z ?_ (U b Z (KL (KF e)) (Kw _ (Kw _ e)));simp only[List.mem_cons,List.not_mem_nil,or_false,not_or];exact⟨KL (KF e),by rw[z];exact KL (LQ (KF e))⟩
end
end S4
namespace S4
open PySem PySem.Spec PySem.W PyProof.Rows L2 S3
section
variable {prog:Program}{w:World}{A:Around}{E:Value->Shared->Prop}{s:Shared}
theorem v8{vs:List Value}{P:PySem.Fin->Shared->Prop}(W:s.heap.get? a=some (seqObj "list" vs.toArray n))(O:vs.length<2)
  (h:∀ h' c,h'.get? a=some (seqObj "list" vs.toArray c)->(∀ b o,b≠a->s.heap.get? b=some o->h'.get? b=some o)->P (.done (.ret .none)) {s with heap:=h'}):
  wpAny (model prog w) A (Builtin.«list.sort» ⟨[.ref a],[]⟩) P E s:=by
 have Q:a<s.heap.objs.size:=KF W;obtain⟨e1,X⟩:∃ e1,(s.heap.update a (Obj.mapSeq fun _=>(#[]:Array Value))).get? a=some (seqObj "list" #[] e1):=⟨_,get?_update_seq W fun _=> #[]⟩;have Z:(((s.heap.update a (Obj.mapSeq fun _=>(#[]:Array Value))).push (seqObj "tuple" vs.toArray 0)).push (seqObj "list" #[] 0)).get? a=some (seqObj "list" #[] e1):=Kw _ (Kw _ X);rw[list_sort_plain];refine Kv (listItems_at W rfl ?_);refine Kv (listUpdate_at W rfl ?_ (by rw[KN,LK];omega) (K5 _))
 refine Kv (seqEpoch_at X rfl ?_);refine Kv (wpAny_newTuple ?_ (by show vs.length<=_;rw[LK];omega))
 refine Kv (wpAny_newList ?_ (K5 _));refine Lm ?_;show wpAny (model prog w) A _ P E {s with heap:=((s.heap.update a (Obj.mapSeq fun _=>(#[]:Array Value))).push (seqObj "tuple" vs.toArray 0)).push (seqObj "list" #[] 0)};dsimp only;have Y:vs.toArray.size<2:=by rw[KN];omega
 rw[if_pos Y,if_pos Y];refine Kv (Ky ?_);rw[StateT.run_pure];refine Kv (Ky ?_);dsimp only;refine Kv (seqEpoch_at Z rfl ?_);have R:(arrOf (SortSt.mk' general' (vs.toArray.zip vs.toArray) #[] 7 none)).map (·.2)=vs.toArray:=by
  show(vs.toArray.zip vs.toArray).map (·.2)=vs.toArray;rw[Array.map_snd_zip (Kz _)]
 rw[R];refine Kv (listUpdate_at Z rfl ?_ (K5 _) (by rw[KN,LK];omega))
 obtain⟨U,T⟩:∃ U,((((s.heap.update a (Obj.mapSeq fun _=>(#[]:Array Value))).push (seqObj "tuple" vs.toArray 0)).push (seqObj "list" #[] 0)).update a (Obj.mapSeq fun _=>vs.toArray)).get? a=some (seqObj "list" vs.toArray U):=⟨_,get?_update_seq Z fun _=>vs.toArray⟩;simp only[bne_self_eq_false,Bool.false_eq_true,if_false];refine Ky (h _ U T fun b o S e=>?_);rw[MA _ _ _ _ S];refine Kw _ (Kw _ ?_);rw[MA _ _ _ _ S];exact e
end
section
variable {X:Cx}
structure TRow(H:Hp)(vs:List V)(nss:List (List Int)):Prop where
 len:vs.length=nss.length
 at':∀ i,i<vs.length->∃ a,vs[i]? =some (.ref a)/\H a=some (.tup ((nss.getD i []).map V.int))
 same:∃ c,∀ i,i<vs.length->(nss.getD i []).length=c+1
def g9(nss:List (List Int))(q:List Nat):Prop:=q.Perm (List.range nss.length)/\∀ i j,i<=j->j<nss.length->HT.lexLt (nss.getD (q.getD j 0) []) (nss.getD (q.getD i 0) [])=false
theorem jx{H:Hp}{Q:VK}(I:L2.Inv X pins σ H s)(Pv:List Value->Prop)
  (hc:∀(R:List Value->Shared->Prop) (E':Value->Shared->Prop),(∀ vs Y O,Pv vs->(∀ b o,s.heap.get? b=some o->Y.get? b=some o)->R vs {s with heap:=Y,toks:=O})->wpAny (model X.prog X.w) X.A.in1 (collect arg) R E' s)
  (E:∀ us,Pv us->∃(vs:List V) (Z:List (List Int)),bo vs us/\TRow H vs Z/\vs.length<64/\∀ q,g9 Z q->∀ l,H l=none->Q (.ref l) (upd H l (.lst (q.map fun i=>vs.getD i .non)))):
  wpAny (model X.prog X.w) X.A (call (.builtin "sorted") [arg]) (EP X pins σ Q) X.xe s:=by
 refine Calls.call_function_entry kind_sorted plain_sorted entry_sorted (args_sorted1 _) ?_;unfold Builtin.«sorted»;refine Kv (m:=checkCount "sorted" 1 1 _) (Ky ?_);refine Kv (hc _ _ fun its Y O hP keep=>?_);obtain⟨vs,Z,rv,T0,g6,q⟩:=E its hP;have a6:=rv.length;have N:L2.Inv X pins σ H {s with heap:=Y,toks:=O}:=I.kept keep;obtain⟨m,F⟩:=N.fr;refine Kv (wpAny_newList ?_ (by rw[LK];omega))
 have K:(Y.push (seqObj "list" its.toArray 0)).get? Y.objs.size=some (seqObj "list" its.toArray 0):=KG _ rfl;have up:∀ b o,Y.get? b=some o->(Y.push (seqObj "list" its.toArray 0)).get? b=some o:=fun b o e=>Kw _ e;have nd:Y.get? Y.objs.size=none:=LF (Kz _);have hL:X.env.locals<Y.objs.size:=F.ns.lt;have hH:H Y.objs.size=none:=N.hok.fresh (Kz _);have at':∀ i,i<its.length->∃ a,its[i]? =some (.ref a)/\its.getD i Value.none= .ref a/\H a=some (.tup ((Z.getD i []).map V.int)):=fun i U=>by
  obtain⟨a,e1,e2⟩:=T0.at' i (by omega)
  obtain⟨u,hu,ru⟩:=rv.get e1;cases (show u=Value.ref a from ru);exact⟨a,hu,by rw[KO,hu];rfl,e2⟩
 have b5:∀ l:List Nat,(∀ x∈l,x<its.length)->bo (l.map fun i=>vs.getD i .non) (l.map fun i=>its.getD i Value.none):=by
  intro l
  induction l with
  |nil=>intro _;exact .nil
  |cons x l ih=>
   intro hx;refine .cons ?_ (ih fun y hy=>hx y (KJ _ hy));have B:x<vs.length:=by have:=hx x KR;omega
   obtain⟨u,hu,ru⟩:=rv.get (KB B);show L2.RelV (vs.getD x .non) (its.getD x Value.none);rw[KO,KO,hu,KB B];exact ru
 show wpAny _ _ _ _ _ {s with heap:=Y.push (seqObj "list" its.toArray 0),toks:=O};refine Kv (Lm (LC slot_list_sort ⟨_,K,rfl⟩ entry_list_sort ?body (args_list_sort _)))
 case body=>
  by_cases J:its.length<2
  ·refine v8 (s:={s with heap:=Y.push (seqObj "list" its.toArray 0),toks:=O}) K J fun h' c g1 g2=>?_;refine⟨_,rfl,Ky ⟨_,rfl,?_⟩⟩;have I2:L2.Inv X pins σ (upd H Y.objs.size (.lst vs)) {s with heap:=h',toks:=O}:=N.laid (fun b o e=>g2 b o (KL (KF e)) (up b o e)) (Kz _) ⟨by rw[LK];omega,its,c,rv,g1⟩
   refine⟨.ref Y.objs.size,_,I2,rfl,?_⟩;have:=q (List.range Z.length) ⟨.refl _,fun i j d hj=>?_⟩ _ hH
   ·have e:(List.range Z.length).map (fun i=>vs.getD i .non)=vs:=by
     refine NC fun i=>?_;rw[K1, <-T0.len];by_cases U:i<vs.length
     ·rw[M6 U,KB U];simp[List.getD_eq_getElem?_getD,U]
     ·rw[LL (by simpa using U),LL (by omega)];rfl
    rw[e]at this;exact this
   ·have:i=j:=by have:=T0.len;omega
    subst this;exact jg _
  ·obtain⟨c,b3⟩:=T0.same;refine kat_list_sort (s:={s with heap:=Y.push (seqObj "list" its.toArray 0),toks:=O}) (F.kept up) (News.grown (n4 (g:=X.base) (h:=Y) (L:=X.env.locals)) up) K (Mi hL) (LF (KP F.above (Mm hL)))
    (fun p hp=>KL (KF (n4 p hp).1)) (by omega) (by omega) fun e1 h' F' N'=>?_
   have P:∀ J:Heap,Fr X.base X.env.locals J m->News X.base X.env.locals J (k9 X.base Y X.env.locals)->∀ b o,b≠X.env.locals->Y.get? b=some o->J.get? b=some o:=fun J F2 N2 b o hb e=>by
    cases z:X.base.get? b with
    |some o'=>
     have:=N.bk b o' z;rw[show Y.get? b=some o' from this]at e;cases e;exact F2.keep b _ z
    |none=>exact(N2 (b,o) (tV hb z e)).1
   have kp:=P h' F' fun z S=>N' z (KJ _ S);have T:Tups Y its Z c:=⟨by have:=T0.len;omega,fun i U=>by
    obtain⟨a,_,e1,e2⟩:=at' i U;obtain⟨_,ws,r,o,ho,b4,n,hd⟩:=(show bj X.prog X.w H Y a (.tup ((Z.getD i []).map V.int))from N.hok a _ e2);refine⟨a,o,ws.toArray,n,e1,ho,b4,hd,by simpa using Oe r,?_⟩
    rw[KN, <-r.length,Kx,b3 i (by omega)]⟩
   have T':Tups h' its Z c:=T.keep fun i a o U ea ho=>by
    obtain⟨a',_,e1,e2⟩:=at' i U;rw[ea]at e1;cases e1;refine kp a o (fun z=>?_) ho;rw[z,N.free]at e2;cases e2
   obtain⟨fs,k1,k2,k3⟩:=oF (h:=h') (vs:=its) fun v E=>by
    obtain⟨i,U,ei⟩:=List.mem_iff_getElem.mp E;obtain⟨a,o,us,n,f1,f2,f3,f4,f5,f6⟩:=T'.get i U;have ev:v= .ref a:=by
     rw[KO,KB U,ei]at f1;exact f1
    generalize Z.getD i []=ns at f5;cases hus:us.toList with
    |nil=>
     have:us.size=0:=by rw[<-My,hus];rfl
     omega
    |cons x r'=>
     rw[hus]at f5;cases f5 with
     |cons n' t' _=>exact⟨a,o,us,n,n',t',ev,f2,f3,f4,by rw[<-Lc,hus];rfl⟩
   refine kat_kind k1 (by omega) (T:=.type "int") (fun v E=>by obtain⟨i,t,rfl⟩:=k3 v E;exact Looks.of_pure rfl) rfl ?_
   refine Ar (n:=its.length) (R:=In its.length) (b:=fun i j=>HT.lexLt (Z.getD i []) (Z.getD j [])) (fun i j C U hj hC=>T'.ask U hj hC) (t4 (by omega)) ?_
   obtain⟨s1,s2⟩:=CS (n:=its.length) (b:=fun i j=>HT.lexLt (Z.getD i []) (Z.getD j [])) (by omega) (fun i _=>jg _) (fun i j k _ _ _=>vV) (fun i j k _ _ _=>sA)
   generalize bq (fun i j=>HT.lexLt (Z.getD i []) (Z.getD j [])) (kas_sort its.length)=pp at s1 s2;have W:pp.toList.Perm (List.range its.length):=by simpa using Array.Perm.toList s1
   refine KasFin.intro F' N' (.head fun z S=>KL (KF (n4 z S).1)) fun b1 c' G f=>?_;have b2:=P b1 G fun z S=>f z (KJ _ S);obtain⟨g1,g2,g3⟩:=f _ KR;have c2:∀ x∈pp.toList,x<its.length:=fun x hx=>KS.mp (W.mem_iff.mp hx);have c0:(pp.toList.map fun i=>vs.getD i .non).length<=sizeLine:=by
    rw[Kx,W.length_eq,Lp,LK];omega
   have I2:=vW N F G b2 nd g1 (b5 pp.toList c2) c0;refine⟨_,rfl,Ky ⟨_,rfl,.ref Y.objs.size,_,I2,rfl,q pp.toList ⟨by rw[<-T0.len,a6];exact W,fun i j d hj=>?_⟩ _ hH⟩⟩
   have:=s2 i j d (by have:=T0.len;omega)
   rw[Lj,Lj]at this;rw[KO (l:=pp.toList),KO (l:=pp.toList),Lc,Lc];exact this
end
end S4
namespace S3
open PySem PySem.Spec PySem.W PyProof.Rows L2 S4
def tupI(ns:List Int):D:=.tup (ns.map D.int)
def rowsOf:List D->Option (List (List Int))
 |[]=>some []
 | .tup ds::r=>match intsOf ds,rowsOf r with
  |some ns,some nss=>some (ns::nss)
  |_,_=>none
 |_=>none
theorem nO:∀{a b:List Int},HT.lexLt a b=false->HT.lexLt b a=false->a=b
 |[],[],_,_=>rfl
 |[],_::_,h,_=>by cases h
 |_::_,[],_,h=>by cases h
 | x::a,y::b,h1,h2=>by
  rw[HT.lexLt_cons]at h1 h2;by_cases e:x=y
  ·subst e;rw[if_pos rfl]at h1 h2;rw[nO h1 h2]
  ·rw[if_neg e]at h1;rw[if_neg (Ne.symm e)]at h2;have:=of_decide_eq_false h1;have:=of_decide_eq_false h2;omega
abbrev Cu(a b:List Int):Prop:=HT.lexLt b a=false
def v9(x:List Int):List (List Int)->List (List Int)
 |[]=>[x]
 |y::r=>if HT.lexLt y x=true then y::v9 x r else x::y::r
def cK:List (List Int)->List (List Int)
 |[]=>[]
 |x::r=>v9 x (cK r)
theorem my(x:List Int):∀ l,(v9 x l).Perm (x::l)
 |[]=>.refl _
 |y::r=>by
  unfold v9;split
  ·exact((my x r).cons y).trans (.swap _ _ _)
  ·exact .refl _
theorem bF:∀ l,(cK l).Perm l
 |[]=>.refl _
 |x::r=>(my x _).trans ((bF r).cons x)
theorem yS(Y:Cu a b)(Z:Cu b c):Cu a c:=by
 cases q:HT.lexLt c a with
 |false=>exact q
 |true=>
  rcases sA (b:=b) q with z|z
  ·rw[show HT.lexLt c b=false from Z]at z;cases z
  ·rw[show HT.lexLt b a=false from Y]at z;cases z
theorem oW(h:HT.lexLt a b=true):HT.lexLt b a=false:=by
 cases q:HT.lexLt b a with
 |false=>rfl
 |true=>
  have:=vV h q;rw[jg]at this;cases this
theorem mW(x:List Int):∀{l:List (List Int)},l.Pairwise Cu->(v9 x l).Pairwise Cu
 |[],_=>by simp[v9]
 | y::r,h=>by
  obtain⟨X,W⟩:=Ls.mp h;unfold v9;split
  ·next c=>
   refine Ls.mpr ⟨fun z Z=>?_,mW x W⟩;rcases K2.mp ((my x r).mem_iff.mp Z)with rfl|Z
   ·exact oW c
   ·exact X z Z
  ·next c=>
   have Y:Cu x y:=Oj.mpr c;refine Ls.mpr ⟨fun z Z=>?_,h⟩;rcases K2.mp Z with rfl|Z
   ·exact Y
   ·exact yS Y (X z Z)
theorem cR:∀ l,(cK l).Pairwise Cu
 |[]=>.nil
 |x::r=>mW x (cR r)
theorem ki{l:List (List Int)}(h:l.Perm l')(Y:l.Pairwise Cu)(Z:l'.Pairwise Cu):l=l':=
 List.Perm.eq_of_pairwise (le:=Cu) (fun a b _ _ x y=>nO y x) Y Z h
theorem oX(h:g9 nss q):q.map (fun i=>nss.getD i [])=cK nss:=by
 have hlen:q.length=nss.length:=by simpa using h.1.length_eq
 have e:(List.range nss.length).map (fun i=>nss.getD i [])=nss:=by
  refine NC fun i=>?_;rw[K1];by_cases Z:i<nss.length
  ·rw[M6 Z,KB Z];simp[List.getD_eq_getElem?_getD,Z]
  ·rw[LL (by simpa using Z),LL (by omega)];rfl
 have W:(q.map (fun i=>nss.getD i [])).Perm nss:=by
  have:=h.1.map (fun i=>nss.getD i []);rw[e]at this;exact this
 refine ki (W.trans (bF nss).symm) ?_ (cR _);rw[Oa];intro i j Z X Y;rw[Kx]at Z X;rw[List.getElem_map,List.getElem_map];have:=h.2 i j (Mm Y) (by omega)
 rw[KO (l:=q),KO (l:=q),KB Z,KB X]at this;exact this
def fZ:List (List Int)->List (List Int)
 |[]=>[]
 |x::r=>if x∈fZ r then fZ r else x::fZ r
theorem iW:∀{l:List (List Int)},y∈fZ l↔y∈l
 |[]=>.rfl
 | x::r=>by
  unfold fZ;split
  ·next h=>
   rw[iW,K2];refine⟨.inr,fun z=>z.elim (fun z=>?_) id⟩;rw[z];exact iW.mp h
  ·rw[K2,K2,iW]
theorem lH:∀ l:List (List Int),(fZ l).Nodup
 |[]=>.nil
 |x::r=>by
  unfold fZ;split
  ·exact lH r
  ·next h=>exact Lw.mpr ⟨h,lH r⟩
def eL(l:List (List Int)):List (List Int):=cK (fZ l)
theorem A5(f:Folded kv L):cK (L.map (·.1))=eL (kv.map (·.1)):=by
 unfold eL;have Z:(L.map (·.1)).Perm (fZ (kv.map (·.1))):=(NZ f.nd (lH _)).mpr fun a=>by rw[f.mem,iW]
 exact ki ((bF _).trans (Z.trans (bF _).symm)) (cR _) (cR _)
theorem _root_.S4.Folded.perm{Z:List KA}(f:Folded kv L)(h:Z.Perm L):Folded kv Z:=
 ⟨(Mz (h.map (fun p:KA=>p.1))).mpr f.nd,fun k=>by rw[(h.map (fun p:KA=>p.1)).mem_iff];exact f.mem k,fun p Y=>f.sub p (h.mem_iff.mp Y),by rw[h.length_eq];exact f.len⟩
section
variable {K:W.Frag}{ι:List Addr}{H:Hp}
theorem oY:∀{ds:List D} {vs:List V} {nss:List (List Int)},RelDs K ι H ds vs->rowsOf ds=some nss->vs.length=nss.length/\∀ i,i<vs.length->∃ a,vs[i]? =some (.ref a)/\H a=some (.tup ((nss.getD i []).map V.int))
 |[],vs,nss,h,e=>by
  cases e;rw[h.nil_inv];exact⟨rfl,fun i Z=>absurd Z (OD _)⟩
 | .tup ds::r,vs,nss,h,e=>by
  obtain⟨v,ws,rfl,T,S⟩:=h.cons_inv;unfold rowsOf at e;cases q:intsOf ds with
  |none=>rw[q]at e;cases e
  | some ns=>
   rw[q]at e;cases q2:rowsOf r with
   |none=>rw[q2]at e;cases e
   | some nss'=>
    rw[q2]at e;cases e;obtain⟨U,Y⟩:=oY S q2;obtain⟨a,us,rfl,g1,g2⟩:=T.tup_inv;refine⟨by simp[U],fun i Z=>?_⟩
    cases i with
    |zero=>
     refine⟨a,rfl,?_⟩;rw[gZ g2 q]at g1;simpa using g1
    |succ i=>
     obtain⟨X,e1,e2⟩:=Y i (by simpa using Z)
     exact⟨X,by simpa using e1,by simpa using e2⟩
 | .non::_,_,_,_,e=>by cases e
 | .bl _::_,_,_,_,e=>by cases e
 | .int _::_,_,_,_,e=>by cases e
 | .str _::_,_,_,_,e=>by cases e
 | .lst _::_,_,_,_,e=>by cases e
 | .ro _::_,_,_,_,e=>by cases e
 | .fz _::_,_,_,_,e=>by cases e
 | .emp::_,_,_,_,e=>by cases e
theorem qU:∀ ns:List Int,RelDs K ι H (ns.map D.int) (ns.map V.int)
 |[]=>.nil
 |n::r=>.cons (.int n) (qU r)
theorem oZ{vs:List V}{Z:List (List Int)}(h:∀ i,i<vs.length->∃ a,vs[i]? =some (.ref a)/\H a=some (.tup ((Z.getD i []).map V.int))):
  ∀ q:List Nat,(∀ i∈q,i<vs.length)->RelDs K ι H ((q.map fun i=>Z.getD i []).map tupI) (q.map fun i=>vs.getD i .non)
 |[],_=>.nil
 |i::q,hq=>by
  obtain⟨a,e1,e2⟩:=h i (hq i KR);refine .cons ?_ (oZ h q fun j Y=>hq j (KJ _ Y));show RelD K ι H (tupI (Z.getD i [])) (vs.getD i .non);have e3:vs.getD i .non= .ref a:=by rw[KO,e1];rfl
  rw[e3];exact .tup e2 (qU _)
end
section
variable {X:Cx}{E:XD}{e:Expr}{m:TM}{pos:Pos}
theorem qm:dF X (.builtin "sorted") (fun xs H Q=>∃(p:Addr) (vs:List V) (Z:List (List Int)),xs=[.ref p]/\jB X.K H p vs/\TRow H vs Z/\vs.length<64/\
  ∀ q,g9 Z q->∀ l,H l=none->Q (.ref l) (upd H l (.lst (q.map fun i=>vs.getD i .non)))):=by
 intro pins s σ H xs us Q I r h;obtain⟨p,vs,Z,rfl,P,T,Y,q⟩:=h;obtain⟨u,rfl,S⟩:=vals1 r;cases (show u=Value.ref p from S);obtain⟨its,U,J,G⟩:=I.list P;have N:=U.length;refine jx I (fun us=>us=its) (fun R F O=>?_) fun us L=>⟨vs,Z,by rw[L];exact U,T,Y,q⟩
 refine collect_list J.isList (O its _ _ rfl fun b o e=>?_) (by rw[LK];omega)
 have W:b<s.heap.objs.size:=KF e;rw[MA _ _ _ _ (KL W)];exact Kw _ e
def nv(P:Program)(w:World)(a:Addr)(kv:List KA):Heap->Prop:=fun h=>∃ o es ep t L,SetAt P w h a o es ep t L/\Folded kv L
def kM(vs:List V)(nss:List (List Int)):List KA:=(List.range vs.length).map fun i=>(nss.getD i [],match vs.getD i .non with| .ref a=>a|_=>0)
theorem FV{H:Hp}(Y:gk P w H h){ns:List Int}(e:H a=some (.tup (ns.map V.int))):IsTupleKey (intKind P w) h ns a:=by
 obtain⟨_,ws,Z,o,W,U,n,hd⟩:=(show bj P w H h a (.tup (ns.map V.int))from Y a _ e);refine⟨o,ws.toArray,n,W,U,hd,?_⟩;have T:=Oe Z;have go:∀{ws:List Value} {ns:List Int},IntsAre ws ns->ItemsAre (intKind P w) ns ws:=by
  intro ws ns h
  induction h with
  |nil=>exact .nil
  |cons n t _ ih=>exact .cons (intKind_is _ _ _ _) ih
 simpa using go T
theorem yT(F:X.calm=true)(f:X.A.units+8<cLine):dF X (.type "set") (fun xs H Q=>∃(p:Addr) (vs:List V) (Z:List (List Int)),xs=[.ref p]/\(jB X.K H p vs\/la X.K H p vs)/\
  (∀ i,i<vs.length->∃ a,vs[i]? =some (.ref a)/\H a=some (.tup ((Z.getD i []).map V.int)))/\vs.length<=18/\∀ l,H l=none->Q (.ref l) (upd H l (.ext (nv X.prog X.w l (kM vs Z))))):=by
 intro pins s σ H xs us Q I r h;obtain⟨p,vs,Z,rfl,W,T,C,q⟩:=h;obtain⟨u,rfl,z⟩:=vals1 r;cases (show u=Value.ref p from z);have src:∃ its,bo vs its/\Src s.heap p its.toArray:=by
  rcases W with W|W
  ·obtain⟨its,Y,R,n⟩:=I.list W;exact⟨its,Y,.inl R.isList⟩
  ·obtain⟨its,Y,R,n⟩:=I.tuple W;exact⟨its,Y,.inr R⟩
 obtain⟨its,Y,hs⟩:=src;have U:=Y.length;have G:∀ A:Around,A.in1.units<=A.units+1:=fun A=>Kz _;have at':∀ i,i<vs.length->∃ a,its[i]? =some (.ref a)/\vs.getD i .non= .ref a/\H a=some (.tup ((Z.getD i []).map V.int)):=fun i S=>by
  obtain⟨a,e1,e2⟩:=T i S;obtain⟨u,O,x⟩:=Y.get e1;cases (show u=Value.ref a from x);exact⟨a,O,by rw[KO,e1];rfl,e2⟩
 have hf:H s.heap.objs.size=none:=I.hok.fresh (Kz _);refine FU (I.ok.hd F) (by show X.A.units+3<cLine;omega) hs (fun i=>(Z.getD i [],match vs.getD i .non with| .ref a=>a|_=>0)) (fun i v P=>?_) (by rw[KN];omega) (fun j B=>?_) fun h' g o es ep t L N J y=>?_
 ·have S:i<vs.length:=by rw[U];simpa using(K7.mp P).1
  obtain⟨a,e1,e2,_⟩:=at' i S;rw[Mp,e1]at P;cases P;simp only[e2]
 ·rw[KN]at B;obtain⟨a,e1,e2,e3⟩:=at' j (by omega)
  simp only[e2];exact FV I.hok e3
 ·rw[KN, <-U]at J;refine⟨.ref s.heap.objs.size,_,I.laid (o:=.ext (nv X.prog X.w s.heap.objs.size (kM vs Z))) (fun b o e=>y b o (KF e) e) (Kz _) ⟨⟨o,es,ep,t,L,N,J⟩,⟨o,N.get⟩,fun h1 h2 ⟨o,es,ep,t,L,a1,a2⟩ k=>⟨o,es,ep,t,L,a1.at k,a2⟩⟩,rfl,q _ hf⟩
theorem sG(J:X.calm=true):dF X (.builtin "sorted") (fun xs H Q=>∃(p:Addr) (T:List KA),xs=[.ref p]/\H p=some (.ext (nv X.prog X.w p T))/\(∀ k∈T,H k.2=some (.tup (k.1.map V.int))/\k.1.length=2)/\T.length<=18/\
  ∀ L q,Folded T L->g9 (L.map (·.1)) q->∀ l,H l=none->Q (.ref l) (upd H l (.lst (q.map fun i=>(L.map fun k=>V.ref k.2).getD i .non)))):=by
 intro pins s σ H xs us Q I r h;obtain⟨p,T,rfl,G,P,F,q⟩:=h;obtain⟨u,rfl,y⟩:=vals1 r;cases (show u=Value.ref p from y);obtain⟨⟨o,es,ep,t,L,O,N⟩,_,_⟩:=(show bj X.prog X.w H s.heap p (.ext (nv X.prog X.w p T))from I.hok p _ G);have n:=N.len;have S:∀ l:List KA,bo (l.map fun k=>V.ref k.2) (l.map fun k=>Value.ref k.2):=by
  intro l
  induction l with
  |nil=>exact .nil
  |cons k l ih=>exact .cons rfl ih
 refine jx I (fun us=>∃ Z:List KA,Z.Perm L/\us=Z.map fun k=>Value.ref k.2) (fun R g B=>?_) ?_
 ·refine ux (by show X.A.handled=none;exact I.ok.hd J) O (by rw[O.len];omega) fun h' j Z U v=>B _ _ _ ⟨Z,U,rfl⟩ v
 ·rintro us ⟨Z,U,rfl⟩;have Y:=N.perm U;have z:=Y.len;refine⟨Z.map fun k=>V.ref k.2,Z.map (·.1),S Z,⟨by simp,fun i W=>?_,1,fun i W=>?_⟩,by simp;omega,fun x K l C=>q Z x Y K l C⟩
  ·rw[Kx]at W;refine⟨Z[i].2,by rw[K1,KB W];rfl,?_⟩
   have:=(P _ (Y.sub _ (LV W))).1;rw[KO,K1,KB W];exact this
  ·rw[Kx]at W;rw[KO,K1,KB W];exact(P _ (Y.sub _ (LV W))).2
def two(nss:List (List Int)):Bool:=nss.all fun ns=>ns.length==2
def uy(nss:List (List Int)):M D:=if nss.length<64/\two nss=true then bM ((cK nss).map tupI)else M.fail
def mX(xs:List D):M D:=match intsOf xs with
 |some ns=>if ns.length<64 then bM ((sortI ns).map D.int)else M.fail
 |none=>match rowsOf xs with
  |some nss=>uy nss
  |none=>M.fail
def bU:List D->M D
 |[.lst k]=>do
  let xs<-getL k
  mX xs
 |[.fz xs]=>mX xs
 |_=>M.fail
theorem De{H:Hp}{vs:List V}{Z:List (List Int)}(h:vs.length=Z.length/\∀ i,i<vs.length->∃ a,vs[i]? =some (.ref a)/\H a=some (.tup ((Z.getD i []).map V.int)))(W:two Z=true):TRow H vs Z:=
 ⟨h.1,h.2,1,fun i U=>by
  have Y:i<Z.length:=by rw[<-h.1];exact U
  have:=Lf.mp W Z[i] (LV Y);rw[KO,KB Y];simpa using this⟩
theorem sH:kA X.K E bU (fun xs H Q=>(∃(p:Addr) (ns:List Int),xs=[.ref p]/\jB X.K H p (ns.map V.int)/\ns.length<64/\∀ l,H l=none->Q (.ref l) (upd H l (.lst ((sortI ns).map V.int))))\/
  ∃(p:Addr) (vs:List V) (nss:List (List Int)),xs=[.ref p]/\jB X.K H p vs/\TRow H vs nss/\vs.length<64/\∀ q,g9 nss q->∀ l,H l=none->Q (.ref l) (upd H l (.lst (q.map fun i=>vs.getD i .non)))):=by
 intro ι S H ds vs Q rep r c;have fin:∀{es:List D} {us:List V} {p:Addr},RelDs X.K ι H es us->Rd H p (.lst us)->cont X.K E (mX es) ι S H (kH X.K Q)->vs=[.ref p]->
   (∃(p:Addr) (ns:List Int),vs=[.ref p]/\jB X.K H p (ns.map V.int)/\ns.length<64/\∀ l,H l=none->Q (.ref l) (upd H l (.lst ((sortI ns).map V.int))))\/
  ∃(p:Addr) (ws:List V) (nss:List (List Int)),vs=[.ref p]/\jB X.K H p ws/\TRow H ws nss/\ws.length<64/\∀ q,g9 nss q->∀ l,H l=none->Q (.ref l) (upd H l (.lst (q.map fun i=>ws.getD i .non))):=by
  intro es us p W T Z U;unfold mX at Z;cases q:intsOf es with
  | some ns=>
   rw[q]at Z;have Y:cont X.K E (if ns.length<64 then bM ((sortI ns).map D.int)else M.fail) ι S H (kH X.K Q):=Z;by_cases h:ns.length<64
   ·rw[if_pos h]at Y;exact .inl ⟨p,ns,U,.inl (by rw[<-gZ W q];exact T),h,(bt Y rep (oE _)).2⟩
   ·rw[if_neg h]at Y;exact(ag Y).elim
  | none=>
   rw[q]at Z;cases q2:rowsOf es with
   |none=>rw[q2]at Z;exact(ag Z).elim
   | some nss=>
    rw[q2]at Z;have Y:cont X.K E (if nss.length<64/\two nss=true then bM ((cK nss).map tupI)else M.fail) ι S H (kH X.K Q):=Z;by_cases h:nss.length<64/\two nss=true
    ·rw[if_pos h]at Y;obtain⟨g1,g2⟩:=oY W q2;refine .inr ⟨p,us,nss,U,.inl T,De ⟨g1,g2⟩ h.2,by omega,fun P J l F=>?_⟩
     have O:∀ i∈P,i<us.length:=fun i G=>by rw[g1];exact KS.mp (J.1.mem_iff.mp G)
     have I:RelDs X.K ι H ((cK nss).map tupI) (P.map fun i=>us.getD i .non):=by
      rw[<-oX J];exact oZ g2 P O
     exact(bt Y rep I).2 l F
    ·rw[if_neg h]at Y;exact(ag Y).elim
 unfold bU at c;split at c
 ·next k=>
  obtain⟨v,ws,rfl,R,N⟩:=r.cons_inv;cases N.nil_inv;obtain⟨p,rfl,L⟩:=R.lst_inv;obtain⟨es,us,_,T,W,Z⟩:=bg c rep L;exact fin W (.inl T) Z rfl
 ·next es=>
  obtain⟨v,ws,rfl,R,N⟩:=r.cons_inv;cases N.nil_inv;obtain⟨p,o,us,rfl,L,W⟩:=R.fz_inv;exact fin W (.inr ⟨o,L⟩) c rfl
 ·exact(ag c).elim
theorem f7(Z:X.mg "sorted"=none)(Y:SE X E e m)(W:Gl X "sorted":=by rfl)(hs:starEach [e] X.env=[(false,eval e X.env)]:=by rfl):SE X E (.Call (.Name "sorted" p) [e] [] pos) (fun ρ=>do let ds<-(do let x<-m ρ;let xs<-pure [];pure (x::xs));bU ds):=
 iT (dF.or sy qm) sH W Z (by decide+kernel) (af Y aj hs) (by decide) (by decide) hs rfl
def dm(nss:List (List Int)):M D:=if nss.length<=18/\two nss=true then bM ((eL nss).map tupI)else M.fail
def hU:List D->M D
 |[.lst k]=>do
  let xs<-getL k
  match rowsOf xs with
  |some nss=>dm nss
  |none=>M.fail
 |[.tup xs]=>match rowsOf xs with
  |some nss=>dm nss
  |none=>M.fail
 |[.fz xs]=>match rowsOf xs with
  |some nss=>dm nss
  |none=>M.fail
 |_=>M.fail
theorem Df{vs:List V}{Z:List (List Int)}(h:vs.length=Z.length):(kM vs Z).map (·.1)=Z:=by
 unfold kM;rw[Ll];refine NC fun i=>?_;rw[K1,h];by_cases hi:i<Z.length
 ·rw[M6 hi,KB hi];simp[List.getD_eq_getElem?_getD,hi]
 ·rw[LL (by simpa using hi),LL (by omega)];rfl
theorem Ig{K:W.Frag}{ι:List Addr}{H:Hp}{L:List KA}(h:∀ k∈L,H k.2=some (.tup (k.1.map V.int))):∀ q:List Nat,(∀ i∈q,i<L.length)->RelDs K ι H ((q.map fun i=>(L.map (·.1)).getD i []).map tupI) (q.map fun i=>(L.map fun k=>V.ref k.2).getD i .non):=by
 intro q Y;refine oZ (fun i Z=>?_) q fun i Z=>by rw[Kx];exact Y i Z
 rw[Kx]at Z;refine⟨L[i].2,by rw[K1,KB Z];rfl,?_⟩
 rw[KO,K1,KB Z];exact h _ (LV Z)
theorem sI{p q T:Pos}(hc:X.calm=true)(hu:X.A.units+8<cLine)(hm:X.mg "sorted"=none)(s:X.mg "set"=none)(ha:SE X E e m)(hg:Gl X "sorted":=by rfl)(j:Gl X "set":=by rfl)(hs:starEach [e] X.env=[(false,eval e X.env)]:=by rfl)
  (N:starEach [.Call (.Name "set" q) [e] [] T] X.env=[(false,eval (.Call (.Name "set" q) [e] [] T) X.env)]:=by rfl):
  SE X E (.Call (.Name "sorted" p) [.Call (.Name "set" q) [e] [] T] [] pos) (fun ρ=>do let ds<-(do let x<-m ρ;let xs<-pure [];pure (x::xs));hU ds):=by
 refine PE.imp (jK (sG hc) hg hm (by decide+kernel) (eV (kb (yT hc hu) j s (by decide+kernel) (af ha aj hs) (by decide) (by decide) hs rfl) jJ N) (by decide) (by decide) N rfl) fun σ H Q h=>?_
 obtain⟨ι,S,ρ,rep,re,c⟩:=h;refine⟨ι,S,ρ,rep,re,ak (ai c) fun ds U S1 Y e1 rep1 c1 vs r=>?_⟩;have fin:∀{xs:List D} {us:List V} {a:Addr} {Z:List (List Int)},RelDs X.K U Y xs us->rowsOf xs=some Z->(jB X.K Y a us\/la X.K Y a us)->cont X.K E (dm Z) U S1 Y (kH X.K Q)->vs=[.ref a]->
   ∃ (p:Addr) (vs':List V) (Z:List (List Int)),vs=[.ref p]/\(jB X.K Y p vs'\/la X.K Y p vs')/\
    (∀ i,i<vs'.length->∃ a,vs'[i]? =some (.ref a)/\Y a=some (.tup ((Z.getD i []).map V.int)))/\vs'.length<=18/\∀ l,Y l=none->
     ∃(p:Addr) (kv:List KA),[V.ref l]=[.ref p]/\upd Y l (.ext (nv X.prog X.w l (kM vs' Z))) p=some (.ext (nv X.prog X.w p kv))/\(∀ k∈kv,upd Y l (.ext (nv X.prog X.w l (kM vs' Z))) k.2=some (.tup (k.1.map V.int))/\k.1.length=2)/\kv.length<=18/\
      ∀ L q,Folded kv L->g9 (L.map (·.1)) q->∀ F,upd Y l (.ext (nv X.prog X.w l (kM vs' Z))) F=none->Q (.ref F) (upd (upd Y l (.ext (nv X.prog X.w l (kM vs' Z)))) F (.lst (q.map fun i=>(L.map fun k=>V.ref k.2).getD i .non))):=by
  intro xs us a Z P W f y g;unfold dm at y;by_cases h:Z.length<=18/\two Z=true
  ·rw[if_pos h]at y;obtain⟨g1,g2⟩:=oY P W;refine⟨a,us,Z,g,f,g2,by omega,fun l u=>⟨l,kM us Z,rfl,aN,fun k O=>?_,by unfold kM;simp;omega,fun L qq hF hq F d=>?_⟩⟩
   ·unfold kM at O;obtain⟨i,R,rfl⟩:=K4.mp O;rw[KS]at R;obtain⟨b,n,G⟩:=g2 i R;have b3:us.getD i .non= .ref b:=by rw[KO,n];rfl
    simp only[b3];refine⟨by rw[aE (aK G u)];exact G,?_⟩
    have B:i<Z.length:=by omega
    have:=Lf.mp h.2 Z[i] (LV B);rw[KO,KB B];simpa using this
   ·have hE:Ext U Y U (upd Y l (.ext (nv X.prog X.w l (kM us Z)))):=ef u;have rep2:=fw (o:=.ext (nv X.prog X.w l (kM us Z))) rep1 u;have a3:∀ i∈qq,i<L.length:=fun i R=>by
     have:=KS.mp (hq.1.mem_iff.mp R);simpa using this
    have O:∀ k∈L,upd Y l (.ext (nv X.prog X.w l (kM us Z))) k.2=some (.tup (k.1.map V.int)):=fun k O=>by
     have I:=hF.sub k O;unfold kM at I;obtain⟨i,R,rfl⟩:=K4.mp I;rw[KS]at R;obtain⟨b,n,G⟩:=g2 i R;have b3:us.getD i .non= .ref b:=by rw[KO,n];rfl
     simp only[b3];rw[aE (aK G u)];exact G
    have rr:=Ig (K:=X.K) (ι:=U) O qq a3;rw[oX hq,A5 hF,Df g1]at rr;exact(bt (fV y hE) rep2 rr).2 F d
  ·rw[if_neg h]at y;exact(ag y).elim
 unfold hU at c1;split at c1
 ·next k=>
  obtain⟨v,ws,rfl,C,J⟩:=r.cons_inv;cases J.nil_inv;obtain⟨a,rfl,z⟩:=C.lst_inv;obtain⟨es,us,_,hv,P,t⟩:=bg c1 rep1 z;cases W:rowsOf es with
  |none=>rw[W]at t;exact(ag t).elim
  |some Z=>
   rw[W]at t;exact fin P W (.inl (.of hv)) t rfl
 ·next xs=>
  obtain⟨v,ws,rfl,C,J⟩:=r.cons_inv;cases J.nil_inv;obtain⟨a,us,rfl,z,P⟩:=C.tup_inv;cases W:rowsOf xs with
  |none=>rw[W]at c1;exact(ag c1).elim
  |some Z=>
   rw[W]at c1;exact fin P W (.inr (.of z)) c1 rfl
 ·next xs=>
  obtain⟨v,ws,rfl,C,J⟩:=r.cons_inv;cases J.nil_inv;obtain⟨a,o,us,rfl,z,P⟩:=C.fz_inv;cases W:rowsOf xs with
  |none=>rw[W]at c1;exact(ag c1).elim
  |some Z=>
   rw[W]at c1;exact fin P W (.inl (.inl (.inr ⟨o,z⟩))) c1 rfl
 ·exact(ag c1).elim
end
end S3
namespace S4
open PySem PySem.Spec PyProof.Rows L2 S3
section
variable {prog:Program}{w:World}{A:Around}{E:Value->Shared->Prop}{s:Shared}
theorem jh{Q:Value->Shared->Prop}(Z:s.heap.IsTupleIter it t i)(S:s.heap.IsTuple t items)(R:items[i]? =some x)
  (T:∀ h',h'.IsTupleIter it t (i+1)->Heap.SameBut it s.heap h'->Q x {s with heap:=h'}):wpAny (model prog w) A (Builtin.SmallTypes.nextOf (.ref it)) Q E s:=by
 obtain⟨o,Y,U,hd⟩:=id Z;obtain⟨ol,X,_,nl,W⟩:=S;unfold Builtin.SmallTypes.nextOf;refine Kv (wpAny_callSpecial?_slot (name:=Str.ofString "__next__") Z.typeIs Mj
  (LC Mj Z.typeIs NT ?_ (NQ _)))
 show wpAny _ _ (field (.ref it) 0>>=_) _ _ s;refine Kv (LH Y hd (x:=.ref t) rfl ?_);show wpAny _ _ (if (Value.ref t==Value.none)=true then _ else _) _ _ s;rw[if_neg (show ¬ ((Value.ref t==Value.none)=true)from Mb)];show wpAny _ _ (field (.ref it) 1>>=_) _ _ s;refine Kv (LH Y hd (x:=.int i 0) rfl ?_);show wpAny _ _ (seqItems? (.ref t)>>=_) _ _ s;refine Kv (L8 X W ?_);simp only[Int.toNat_natCast,R];refine Kv (MK Y hd (by simp) (Ky ⟨x,rfl,Ky (T _ ?_ (L7 ..))⟩))
 exact⟨_,Lz _ Y (MR (Md hd _)),(Om ..).trans U,by
  rw[Md hd];simp[rawInt]⟩
theorem kj(U:A.handled=none)(Z:s.heap.IsTupleIter it t i)(S:s.heap.IsTuple t items)(R:items[i]? =none)
  (T:∀ h' e,Heap.ExtBut it s.heap h'->(∃ o,h'.get? e=some o/\o.cls= .type "StopIteration")->E (.ref e) {s with heap:=h'}):wpAny (model prog w) A (Builtin.SmallTypes.nextOf (.ref it)) Q E s:=by
 obtain⟨o,X,P,hd⟩:=id Z;obtain⟨ol,Y,_,nl,W⟩:=S;unfold Builtin.SmallTypes.nextOf;refine Kv (wpAny_callSpecial?_slot (name:=Str.ofString "__next__") Z.typeIs Mj
  (LC Mj Z.typeIs NT ?_ (NQ _)))
 show wpAny _ _ (field (.ref it) 0>>=_) _ _ s;refine Kv (LH X hd (x:=.ref t) rfl ?_);show wpAny _ _ (if (Value.ref t==Value.none)=true then _ else _) _ _ s;rw[if_neg (show ¬ ((Value.ref t==Value.none)=true)from Mb)];show wpAny _ _ (field (.ref it) 1>>=_) _ _ s;refine Kv (LH X hd (x:=.int i 0) rfl ?_);show wpAny _ _ (seqItems? (.ref t)>>=_) _ _ s;refine Kv (L8 Y W ?_);simp only[Int.toNat_natCast,R];refine Kv (M8 (Kv (MK X hd (by simp) ?_)))
 show wpAny _ _ (newExc (.type "StopIteration") []>>=_) _ _ _;refine Kv ?_;simp only[newExc,newTuple];refine Kv (Ln ?_ (by size_fits))
 refine Kv (m:=firstArgMember _ _) (OJ (a:=Value.none) (by first|rfl|(simp only[firstArgMember];rfl)) ?_)
 refine Ln ?_ (by size_fits)
 simp only[raiseNew];refine Kv (wpAny_handled ?_);first|rw[show A.in1.handled=none from U]|rw[U]
 refine Kv (Ky (wpAny_throw ?_));exact T _ _ (((L7 ..).extBut.push _).push _) ⟨_,KG _ rfl,rfl⟩
theorem yU{z TI TO K L q v:Addr}{k:Nat}{xs ys:Array Value}{x y a b:Value}{Q:Option Value->Shared->Prop}(D:ZipApart z TI TO K L q v)
  (B:IsZip s.heap z TI TO .none) (a6:IsPair s.heap TI (.ref K) (.ref L)) (h:IsPair s.heap TO a b)
  (h1:s.heap.IsTupleIter K q k) (h2:s.heap.IsTupleIter L v k) (f:s.heap.IsTuple q xs) (g:s.heap.IsTuple v ys) (hx:xs[k]? =some x) (hy:ys[k]? =some y)
  (hQ:∀ h',IsZip h' z TI TO (rawInt s.heap.objs.size)->IsPair h' TO x y->h'.IsTupleIter K q (k+1)->h'.IsTupleIter L v (k+1)->IsPair h' s.heap.objs.size x y->h'.objs.size=s.heap.objs.size+1->
   (∀ c o,c≠z->c≠TO->c≠K->c≠L->s.heap.get? c=some o->h'.get? c=some o)->Q (some (.ref s.heap.objs.size)) {s with heap:=h'}):wpAny (model prog w) A (pyNext (.ref z)) Q E s:=by
 have hT:s.TypeIs (.ref z) "zip":=⟨_,B,rfl⟩;unfold pyNext;refine Kv (MU (wpAny_callSpecial?_slot (name:=Str.ofString "__next__") hT NU (LC NU hT F.entry_zip_next ?_ (F.args_zip_next_1 _))));show wpAny _ _ (field (.ref z) 2>>=_) _ _ _;refine Kv (LH B rfl (x:=.bool false) rfl ?_);show wpAny _ _ (field (.ref z) 3>>=_) _ _ _;refine Kv (LH B rfl (x:=.ref TI) rfl ?_);refine Kv (L8 a6 rfl ?_);show wpAny _ _ (Builtin.SmallTypes.ownedTupleIsFree (.ref z)>>=_) _ _ _;refine Kv ?_;unfold Builtin.SmallTypes.ownedTupleIsFree;refine Kv (LH B rfl (x:=.none) rfl (Ky ?_));simp only[if_true];refine Kv (M8 ?_);refine Kv (LH B rfl (x:=.ref TO) rfl ?_);refine Kv (Mr B (by simp) fun g1 G Z=>?_)
 replace G:IsZip g1 z TI TO .ellipsis:=G;refine Kv ?_;simp only[List.zipIdx_cons,List.zipIdx_nil,List.forIn_cons,List.forIn_nil];refine Kv (Kv (Ot ?_));show wpAny _ _ (Builtin.SmallTypes.nextOf (.ref K)>>=_) _ _ _;refine Kv (jh (s:={s with heap:=g1}) (h1.at fun o e=>Z.extBut _ _ D.i1z e) (f.extBut Z.extBut D.l1z) hx fun g2 a0 U=>Ky ?_);have N:IsPair g2 TO a b:=U.extBut _ _ D.TOi1 (Z.extBut _ _ D.TOz h);refine Kv (L8 N rfl ?_);refine Kv (NP N fun g3 T W=>?_);replace T:IsPair g3 TO x b:=T;refine Kv (wpAny_letGo (Ky ?_));refine Kv (Kv (Ot ?_));show wpAny _ _ (Builtin.SmallTypes.nextOf (.ref L)>>=_) _ _ _;refine Kv (jh (s:={s with heap:=g3}) (((h2.at fun o e=>Z.extBut _ _ D.i2z e).at fun o e=>U.extBut _ _ D.i12.symm e).at fun o e=>W.extBut _ _ D.TOi2.symm e)
  (((g.extBut Z.extBut D.l2z).extBut U.extBut D.l2i1).extBut W.extBut D.l2TO) hy fun g4 i S=>Ky ?_)
 have J:IsPair g4 TO x b:=S.extBut _ _ D.TOi2 T;refine Kv (L8 J rfl ?_);refine Kv (NP J fun Y X R=>?_);replace X:IsPair Y TO x y:=X;refine Kv (wpAny_letGo (Ky (Ky ?_)));refine Kv (L8 X rfl ?_);refine Kv (wpAny_newTuple ?_);have t:Y.objs.size=s.heap.objs.size:=by rw[R.1,S.1,W.1,U.1,Z.1]
 have p:IsZip Y z TI TO .ellipsis:=R.extBut _ _ D.TOz.symm (S.extBut _ _ D.i2z.symm (W.extBut _ _ D.TOz.symm (U.extBut _ _ D.i1z.symm G)));have d:∀ c o,c≠z->c≠TO->c≠K->c≠L->s.heap.get? c=some o->Y.get? c=some o:=fun c o c1 m j c4 e=>
  R.extBut _ _ m (S.extBut _ _ c4 (W.extBut _ _ m (U.extBut _ _ j (Z.extBut _ _ c1 e))))
 have a5:Y.IsTupleIter K q (k+1):=((a0.at fun o e=>W.extBut _ _ D.TOi1.symm e).at fun o e=>S.extBut _ _ D.i12 e).at fun o e=>R.extBut _ _ D.TOi1.symm e;have a3:Y.IsTupleIter L v (k+1):=i.at fun o e=>R.extBut _ _ D.TOi2.symm e;have O:z<Y.objs.size:=KF p;show wpAny _ _ (Builtin.SmallTypes.ownedTupleHandOut (.ref z) (.ref Y.objs.size)>>=_) _ _ _;refine Kv ?_;unfold Builtin.SmallTypes.ownedTupleHandOut;have l:IsZip (Y.push {cls:=.type "tuple",data:=.seq #[x,y]}) z TI TO .ellipsis:=Kw _ p;refine Kv (Mr l (by simp) fun g7 H I=>?_)
 replace H:IsZip g7 z TI TO (rawInt Y.objs.size):=H;refine Mr H (by simp) fun n P C=>?_
 replace P:IsZip n z TI TO (rawInt Y.objs.size):=P;have up:∀ c o,c≠z->Y.get? c=some o->n.get? c=some o:=fun c o c1 e=>C.extBut _ _ c1 (I.extBut _ _ c1 (Kw _ e));have r:IsPair n Y.objs.size x y:=C.extBut _ _ (Mi O) (I.extBut _ _ (Mi O) (KG _ rfl));have u:n.objs.size=Y.objs.size+1:=by rw[C.1,I.1,LN]
 rw[t]at P r u;refine Ky ⟨_,rfl,?_⟩;refine Ky ?_;show Q (some (.ref Y.objs.size)) _;rw[t];exact hQ n P (up _ _ D.TOz X) (a5.at fun o e=>up _ o D.i1z e) (a3.at fun o e=>up _ o D.i2z e) r u fun c o c1 m j c4 e=>up c o c1 (d c o c1 m j c4 e)
theorem A6{z TI TO L N p y:Addr}{k:Nat}{xs ys:Array Value}{a b:Value}{Q:Option Value->Shared->Prop}(i:A.handled=none)(D:ZipApart z TI TO L N p y)
  (K:IsZip s.heap z TI TO .none) (m:IsPair s.heap TI (.ref L) (.ref N)) (t:IsPair s.heap TO a b)
  (f:s.heap.IsTupleIter L p k) (h2:s.heap.IsTupleIter N y k) (I:s.heap.IsTuple p xs) (n:s.heap.IsTuple y ys) (B:xs[k]? =none\/ys[k]? =none)
  (r:∀ h',(∀ c o,c≠z->c≠TO->c≠L->c≠N->s.heap.get? c=some o->h'.get? c=some o)->Q none {s with heap:=h'}):wpAny (model prog w) A (pyNext (.ref z)) Q E s:=by
 have l:s.TypeIs (.ref z) "zip":=⟨_,K,rfl⟩;unfold pyNext;refine Kv (MU (wpAny_callSpecial?_slot (name:=Str.ofString "__next__") l NU (LC NU l F.entry_zip_next ?_ (F.args_zip_next_1 _))));have stop:∀(g:Heap) (e:Addr),(∃ o,g.get? e=some o/\o.cls= .type "StopIteration")->(∀ c o,c≠z->c≠TO->c≠L->c≠N->s.heap.get? c=some o->g.get? c=some o)->∀ R:Value->Shared->Prop,
   (∀ v s',wpAny (model prog w) A (do if<-isInstance v (.type "StopIteration")then pure none else throw v) Q E s'->R v s')->R (.ref e) {s with heap:=g}:=fun g e ⟨o,ho,hc⟩ hk R hR=>hR _ _ (by
  refine Kv (MI (T:="StopIteration") (b:=true) ⟨o,ho,hc⟩ NH ?_);exact Ky (r _ hk))
 show wpAny _ _ (field (.ref z) 2>>=_) _ _ _;refine Kv (LH K rfl (x:=.bool false) rfl ?_);show wpAny _ _ (field (.ref z) 3>>=_) _ _ _;refine Kv (LH K rfl (x:=.ref TI) rfl ?_);refine Kv (L8 m rfl ?_);show wpAny _ _ (Builtin.SmallTypes.ownedTupleIsFree (.ref z)>>=_) _ _ _;refine Kv ?_;unfold Builtin.SmallTypes.ownedTupleIsFree;refine Kv (LH K rfl (x:=.none) rfl (Ky ?_));simp only[if_true];refine Kv (M8 ?_);refine Kv (LH K rfl (x:=.ref TO) rfl ?_);refine Kv (Mr K (by simp) fun g1 S Z=>?_)
 replace S:IsZip g1 z TI TO .ellipsis:=S;refine Kv ?_;simp only[List.zipIdx_cons,List.zipIdx_nil,List.forIn_cons,List.forIn_nil];refine Kv (Kv (Ot ?_));show wpAny _ _ (Builtin.SmallTypes.nextOf (.ref L)>>=_) _ _ _;cases hx:xs[k]? with
 |none=>
  refine Kv (kj (s:={s with heap:=g1}) i (f.at fun o e=>Z.extBut _ _ D.i1z e) (I.extBut Z.extBut D.l1z) hx fun g2 e Y he=>?_);obtain⟨q,W,U⟩:=he;have G:IsZip g2 z TI TO .ellipsis:=Y _ _ D.i1z.symm S;have O:e≠z:=fun x=>by subst x;rw[G]at W;cases W;simp at U
  refine Mr G (by simp) fun g3 _ X=>?_
  refine Kv (MI (T:="StopIteration") (b:=true) ⟨q,X.extBut _ _ O W,U⟩ NH ?_);exact Ky (r _ fun c o c1 _ u _ x=>X.extBut _ _ c1 (Y _ _ u (Z.extBut _ _ c1 x)))
 | some x=>
  have hy:ys[k]? =none:=by rcases B with h|h;rw[hx]at h;cases h;exact h
  refine Kv (jh (s:={s with heap:=g1}) (f.at fun o e=>Z.extBut _ _ D.i1z e) (I.extBut Z.extBut D.l1z) hx fun g2 d Y=>Ky ?_);have P:IsPair g2 TO a b:=Y.extBut _ _ D.TOi1 (Z.extBut _ _ D.TOz t);refine Kv (L8 P rfl ?_);refine Kv (NP P fun g3 j X=>?_);refine Kv (wpAny_letGo (Ky ?_));refine Kv (Kv (Ot ?_));show wpAny _ _ (Builtin.SmallTypes.nextOf (.ref N)>>=_) _ _ _;refine Kv (kj (s:={s with heap:=g3}) i (((h2.at fun o e=>Z.extBut _ _ D.i2z e).at fun o e=>Y.extBut _ _ D.i12.symm e).at fun o e=>X.extBut _ _ D.TOi2.symm e)
   (((n.extBut Z.extBut D.l2z).extBut Y.extBut D.l2i1).extBut X.extBut D.l2TO) hy fun g4 e C he=>?_)
  obtain⟨q,W,U⟩:=he;have J:IsZip g4 z TI TO .ellipsis:=C _ _ D.i2z.symm (X.extBut _ _ D.TOz.symm (Y.extBut _ _ D.i1z.symm S));have O:e≠z:=fun x=>by subst x;rw[J]at W;cases W;simp at U
  refine Mr J (by simp) fun g5 _ H=>?_
  refine Kv (MI (T:="StopIteration") (b:=true) ⟨q,H.extBut _ _ O W,U⟩ NH ?_);exact Ky (r _ fun c o c1 c2 u c4 x=>H.extBut _ _ c1 (C _ _ c4 (X.extBut _ _ c2 (Y.extBut _ _ u (Z.extBut _ _ c1 x)))))
end
def Cv(l:Addr):Obj:={cls:=.type "tuple_iterator",data:=.fields #[.ref l,.int 0 0]}
def FW(h:Heap)(l1:Addr):Heap:=h.push (Cv l1)
def FX(h:Heap)(l1 l2:Addr):Heap:=(FW h l1).push (Cv l2)
def FY(h:Heap)(l1 l2:Addr):Heap:=(FX h l1 l2).push {cls:=.type "tuple",data:=.seq #[.ref h.objs.size,.ref (FW h l1).objs.size]}
def G5(h:Heap)(l1 l2:Addr):Heap:=(FY h l1 l2).push {cls:=.type "tuple",data:=.seq #[.none,.none]}
def FZ(h:Heap)(l1 l2:Addr):Heap:=(G5 h l1 l2).push {cls:=.type "zip",data:=.fields #[.none,.bool false,.bool false,.ref (FX h l1 l2).objs.size,.ref (FY h l1 l2).objs.size]}
theorem F4(Z Y:Addr)(xs ys:Array Value):
  Meets (Builtin.«zip.__new__» ⟨[.type "zip",.ref Z,.ref Y],[]⟩) (fun _ R s=>s.heap.IsTuple Z xs/\s.heap.IsTuple Y ys/\R (.ok (.ret (.ref (G5 s.heap Z Y).objs.size))) {s with heap:=FZ s.heap Z Y}):=
 .of_wp fun prog w A R s h=>by
  obtain⟨S,g,d,P,os⟩:=s;obtain⟨X,U,h⟩:=h;have Q:=sub_zip;have W:Heap.IsTuple (Shared.heap ⟨S,g,d,P,os⟩) Z xs:=X;have T:Heap.IsTuple (Shared.heap ⟨S.push {cls:=.type "tuple_iterator",data:=.fields #[.ref Z,.int 0 0]},g,d,P,os⟩) Y ys:=let ⟨o,e,r⟩:=U;⟨o,Kw _ e,r⟩
  wp_walk using Mc W,Mc T
  exact⟨_,rfl,h⟩
section
variable {prog:Program}{w:World}{A:Around}{E:Value->Shared->Prop}{s:Shared}
theorem yV{Q:Value->Shared->Prop}(W:s.heap.IsTuple l1 xs)(U:s.heap.IsTuple l2 ys)
  (h:∀ h',IsZip h' (s.heap.objs.size+4) (s.heap.objs.size+2) (s.heap.objs.size+3) .none->IsPair h' (s.heap.objs.size+2) (.ref s.heap.objs.size) (.ref (s.heap.objs.size+1))->
   IsPair h' (s.heap.objs.size+3) .none .none->h'.IsTupleIter s.heap.objs.size l1 0->h'.IsTupleIter (s.heap.objs.size+1) l2 0->(∀ c o,s.heap.get? c=some o->h'.get? c=some o)->Q (.ref (s.heap.objs.size+4)) {s with heap:=h'}):
  wpAny (model prog w) A (call (.type "zip") [.ref l1,.ref l2]) Q E s:=by
 refine callType_new F.called_zip (by decide) (F.typeCall_zip_2 _ _) (F.newCall_zip_2 _ _) (fun obj=>F.args_object_init_3 obj _ _) F.entry_zip_new (F4 l1 l2 xs ys) ⟨W,U,?_⟩
 have P:(FW s.heap l1).objs.size=s.heap.objs.size+1:=LN ..;have X:(FX s.heap l1 l2).objs.size=s.heap.objs.size+2:=(LN ..).trans (by rw[P])
 have T:(FY s.heap l1 l2).objs.size=s.heap.objs.size+3:=(LN ..).trans (by rw[X])
 have O:(G5 s.heap l1 l2).objs.size=s.heap.objs.size+4:=(LN ..).trans (by rw[T])
 have Z:∀{c o},(G5 s.heap l1 l2).get? c=some o->(FZ s.heap l1 l2).get? c=some o:=fun e=>Kw _ e;have Y:∀{c o},(FY s.heap l1 l2).get? c=some o->(G5 s.heap l1 l2).get? c=some o:=fun e=>Kw _ e;have S:∀{c o},(FX s.heap l1 l2).get? c=some o->(FY s.heap l1 l2).get? c=some o:=fun e=>Kw _ e;have L:∀{c o},(FW s.heap l1).get? c=some o->(FX s.heap l1 l2).get? c=some o:=fun e=>Kw _ e;have K:∀{c o},s.heap.get? c=some o->(FW s.heap l1).get? c=some o:=fun e=>Kw _ e;have R:(FZ s.heap l1 l2).get? (G5 s.heap l1 l2).objs.size=some {cls:=.type "zip",data:=.fields #[.none,.bool false,.bool false,.ref (FX s.heap l1 l2).objs.size,.ref (FY s.heap l1 l2).objs.size]}:=KG _ rfl;have N:(FZ s.heap l1 l2).get? (FY s.heap l1 l2).objs.size=some {cls:=.type "tuple",data:=.seq #[.none,.none]}:=Z (KG _ rfl);have g3:(FZ s.heap l1 l2).get? (FX s.heap l1 l2).objs.size=some {cls:=.type "tuple",data:=.seq #[.ref s.heap.objs.size,.ref (FW s.heap l1).objs.size]}:=Z (Y (KG _ rfl));have g2:(FZ s.heap l1 l2).get? (FW s.heap l1).objs.size=some (Cv l2):=Z (Y (S (KG _ rfl)));have g1:(FZ s.heap l1 l2).get? s.heap.objs.size=some (Cv l1):=Z (Y (S (L (KG _ rfl))));show _/\_;rw[X,T,O]at R;rw[P,X]at g3;rw[T]at N;rw[P]at g2;rw[O];exact⟨⟨_,R,rfl⟩,h _ R g3 N ⟨_,g1,rfl,rfl⟩ ⟨_,g2,rfl,rfl⟩ fun c o x=>Z (Y (S (L (K x))))⟩
end
def zS(va vb:List V):It:=⟨fun i _=>i<va.length/\i<vb.length,fun i H x H'=>∃ p a b,H p=none/\va[i]? =some a/\vb[i]? =some b/\x= .ref p/\H'=upd H p (.tup [a,b]),fun i _=>va.length<=i\/vb.length<=i⟩
section
variable {X:Cx}{pins:List (Addr×Obj)}{σ:L2.St}{H:Hp}{s:Shared}
theorem sJ{h':Heap}{t':Nat}{ch:List Addr}(I:L2.Inv X pins σ H s)(W:∀ b∈ch,jI X pins H b)(k:∀ b o,b ∉ ch->s.heap.get? b=some o->h'.get? b=some o):L2.Inv X pins σ H {s with heap:=h',toks:=t'}:=by
 have Y:∀ b u,H b=some u->b ∉ ch:=fun b u e z=>by rw[(W b z).1]at e;cases e
 refine I.step (g':=s.gens) (d':=s.drawn) (ch:=ch) (fun b R=>?_) (fun b o _ _ Z e _=>k b o Z e) (fun b o _ _ Z e _=>⟨o.slots,k b o Z e⟩) (fun _ _ _ _ n=>n)
  (fun b o Z e=>⟨o,k b o Z e⟩) (fun _ _ e=>e) (fun _ _ _ e=>e) (fun b Q e=>⟨#[],by rw[e];simp⟩) (fun m hm=>?_) (fun b u e=>?_) I.bare
 ·obtain⟨f0,f1,f2,S,f4,T⟩:=W b R;exact⟨S,f1,f4,T⟩
 ·obtain⟨o,es,ep,U,r⟩:=hm;exact⟨o,es,ep,k _ o (fun z=>(W _ z).2.1 rfl) U,r⟩
 ·refine(I.hok b u e).stay (fun c v Z q=>k c v ?_ q) (fun _ q=>q) fun _ _ q=>q;rcases Z with z|z
  ·rw[z];exact Y b u e
  ·exact Y c _ z
theorem sL{h':Heap}{t':Nat}{ch:List Addr}{a:Addr}{o:HO}(I:L2.Inv X pins σ H s)(S:∀ b∈ch,jI X pins H b)(k:∀ b o,b ∉ ch->s.heap.get? b=some o->h'.get? b=some o)(R:s.heap.objs.size<=a)(T:bj X.prog X.w (upd H a o) h' a o):
  L2.Inv X pins σ (upd H a o) {s with heap:=h',toks:=t'}:=by
 have W:H a=none:=I.hok.fresh R;have Y:∀ b u,H b=some u->b ∉ ch:=fun b u e z=>by rw[(S b z).1]at e;cases e
 have ne:∀ b o,s.heap.get? b=some o->b≠a:=fun b o e=>KL (KQ (KF e) R);refine I.step (g':=s.gens) (d':=s.drawn) (ch:=ch) (fun b U=>?_) (fun b o _ _ Z e _=>k b o Z e) (fun b o _ _ Z e _=>⟨o.slots,k b o Z e⟩) (fun b o _ e n=>by rw[aE (ne b o e)];exact n)
  (fun b o Z e=>⟨o,k b o Z e⟩) (fun b xs e=>by rw[aE (aK e W)];exact e) (fun b _ _ e=>by rw[aE (aK e W)];exact e) (fun b N e=>⟨#[],by rw[aE (aK e W),e];simp⟩) (fun m hm=>?_) (fun b u e=>?_) I.bare
 ·obtain⟨f0,f1,f2,P,f4,Q⟩:=S b U;exact⟨P,f1,f4,Q⟩
 ·obtain⟨o,es,ep,O,r⟩:=hm;exact⟨o,es,ep,k _ o (fun z=>(S _ z).2.1 rfl) O,r⟩
 ·by_cases U:b=a
  ·subst U;rw[aN]at e;cases e;exact T
  ·rw[aE U]at e;refine(I.hok b u e).stay (fun c v Z q=>k c v ?_ q) (fun c q=>by rw[aE (aK q W)];exact q) fun c xs q=>by rw[aE (aK q W)];exact q
   rcases Z with z|z
   ·rw[z];exact Y b u e
   ·exact Y c _ z
end
theorem A7{P:Program}{w:World}{K:W.Frag}{t:List Expr}{x1}{tp:Pos}{z TI TO O Q l1 p:Addr}(D:ZipApart z TI TO O Q l1 p){G C:List V}(n:Hp->Prop)(B:∀ H,n H↔(H l1=some (.tup G)/\H p=some (.tup C))):
  Turn P w K (.Tuple t x1 tp) ⟨fun i H=>(zS G C).go i H/\n H,(zS G C).yld,fun i H=>(zS G C).stop i H/\n H⟩ [z,TI,TO,O,Q] z
   (fun i h=>IsZip h z TI TO .none/\IsPair h TI (.ref O) (.ref Q)/\(∃ a b,IsPair h TO a b)/\h.IsTupleIter O l1 i/\h.IsTupleIter Q p i) where
 mem:=by simp
 obj:=fun i h st b Z=>by
  obtain⟨R,Y,⟨a,c,U⟩,⟨o1,e1,c1,d1⟩,⟨o2,e2,c2,d2⟩⟩:=st;simp only[List.mem_cons,List.not_mem_nil,or_false]at Z;rcases Z with rfl|rfl|rfl|rfl|rfl
  ·exact⟨_,R,fun v z=>by cases z⟩
  ·exact⟨_,Y,fun v z=>by cases z⟩
  ·exact⟨_,U,fun v z=>by cases z⟩
  ·exact⟨_,e1,fun v z=>by rw[d1]at z;cases z⟩
  ·exact⟨_,e2,fun v z=>by rw[d2]at z;cases z⟩
 keep:=fun i h h' st k=>by
  obtain⟨R,Y,⟨a,c,U⟩,F,J⟩:=st;exact⟨k z (by simp) _ R,k TI (by simp) _ Y,⟨a,c,k TO (by simp) _ U⟩,F.at fun o e=>k O (by simp) o e,J.at fun o e=>k Q (by simp) o e⟩
 item:=by
  intro X hP hw j hc i pins s σ H E I hf st hg;subst hP hw j;obtain⟨R,Y,⟨a,c,U⟩,F,J⟩:=st;obtain⟨⟨ga,gb⟩,l⟩:=hg;obtain⟨hA,hB⟩:=(B H).mp l;obtain⟨A,L,p1,_⟩:=I.tuple (.of hA);obtain⟨r,N,m,_⟩:=I.tuple (.of hB);obtain⟨u1,b0,c4⟩:=L.get (KB ga);obtain⟨u2,c3,b5⟩:=N.get (KB gb);refine yU D R Y U F J p1 m (x:=u1) (y:=u2) (by simpa using b0) (by simpa using c3) fun h' a1 a2 a3 a4 a5 a6 q=>?_
  have d:H s.heap.objs.size=none:=I.hok.fresh (Kz _);have lt:∀{c o},s.heap.get? c=some o->s.heap.objs.size≠c:=fun e=>Mi (KF e);refine⟨_,rfl,Ob a1 fun S f T=>?_⟩;have u:IsPair S TI (.ref O) (.ref Q):=T.extBut _ _ D.TIz (q _ _ D.TIz D.TITO D.TIi1 D.TIi2 Y);have kk:∀ b o,b ∉ [z,TI,TO,O,Q]->s.heap.get? b=some o->S.get? b=some o:=fun b o Z e=>by
   simp only[List.mem_cons,List.not_mem_nil,or_false,not_or]at Z;exact T.extBut _ _ Z.1 (q b o Z.1 Z.2.2.1 Z.2.2.2.1 Z.2.2.2.2 e)
  have b4:IsPair S s.heap.objs.size u1 u2:=T.extBut _ _ (lt R) a5;have I2:L2.Inv X pins σ (upd H s.heap.objs.size (.tup [G[i],C[i]])) {s with heap:=S,toks:=s.toks}:=sL (o:=.tup [G[i],C[i]]) I hf kk (Kz _) ⟨by show 2<=sizeLine;decide,[u1,u2],.cons c4 (.cons b5 .nil),_,b4,rfl,_,rfl⟩
  refine⟨.ref s.heap.objs.size,_,I2,rfl,
   ⟨_,_,_,d,KB ga,KB gb,rfl,rfl⟩,⟨f,u,⟨_,_,T.extBut _ _ D.TOz a2⟩,a3.at fun o e=>T.extBut _ _ D.i1z e,a4.at fun o e=>T.extBut _ _ D.i2z e⟩,fun b Z=>?_⟩
  obtain⟨ob,ho,_⟩:∃ ob,s.heap.get? b=some ob/\True:=by
   simp only[List.mem_cons,List.not_mem_nil,or_false]at Z;rcases Z with rfl|rfl|rfl|rfl|rfl
   ·exact⟨_,R,trivial⟩
   ·exact⟨_,Y,trivial⟩
   ·exact⟨_,U,trivial⟩
   ·obtain⟨o,e,_⟩:=F;exact⟨_,e,trivial⟩
   ·obtain⟨o,e,_⟩:=J;exact⟨_,e,trivial⟩
  rw[aE (KL (KF ho))];exact(hf b Z).1
 done:=by
  intro X hP hw j hc i pins s σ H E I hf st hg;subst hP hw j;obtain⟨R,Y,⟨a,c,U⟩,F,J⟩:=st;obtain⟨gs,l⟩:=hg;obtain⟨hA,hB⟩:=(B H).mp l;obtain⟨A,L,p1,_⟩:=I.tuple (.of hA);obtain⟨r,N,m,_⟩:=I.tuple (.of hB);have f6:=L.length;have e6:=N.length;refine A6 (I.ok.hd hc) D R Y U F J p1 m (gs.imp (fun g=>by simp;omega) fun g=>by simp;omega) fun h' q=>⟨rfl,sJ (t':=s.toks) I hf fun b o Z e=>?_⟩
  simp only[List.mem_cons,List.not_mem_nil,or_false,not_or]at Z;exact q b o Z.1 Z.2.2.1 Z.2.2.2.1 Z.2.2.2.2 e
 self:=fun _ _ _ _ _ st h=>NL st.1 h
theorem zip_get{xs ys:List D}{i:Nat}{d:D}(h:((xs.zip ys).map fun p=>D.tup [p.1,p.2])[i]? =some d):∃ x y,xs[i]? =some x/\ys[i]? =some y/\d= .tup [x,y]:=by
 rw[K1]at h;cases q:(xs.zip ys)[i]? with
 |none=>rw[q]at h;cases h
 |some p=>
  rw[q]at h;cases h;obtain⟨Y,Z⟩:=M1.mp q;exact⟨p.1,p.2,Y,Z,rfl⟩
theorem wa{K:W.Frag}{ι:List Addr}{H:Hp}{S:aB}{a b:Addr}{Y X:List V}{xs ys:List D}(Z:Rep K ι H S)(G:H a=some (.tup Y))(I:H b=some (.tup X))(B:RelDs K ι H xs Y)(w:RelDs K ι H ys X):
  jd K ⟨(xs.zip ys).map fun p=>.tup [p.1,p.2],.none⟩ ⟨fun i H=>(zS Y X).go i H/\(H a=some (.tup Y)/\H b=some (.tup X)),(zS Y X).yld,fun i H=>(zS Y X).stop i H/\(H a=some (.tup Y)/\H b=some (.tup X))⟩ ι H:=by
 intro U O S2 e rep2 ok i;have P:O a=some (.tup Y):=(e.oth a _ G (Z.notIn G (by intro _ z;cases z)) (by intro _ z;cases z) (by intro _ z;cases z)).1
 have T:O b=some (.tup X):=(e.oth b _ I (Z.notIn I (by intro _ z;cases z)) (by intro _ z;cases z) (by intro _ z;cases z)).1
 have Q:=B.laterN Z e;have R:=w.laterN Z e;have t:=Q.length;have s:=R.length;refine⟨fun d hd=>?_,fun hlen=>?_⟩
 ·obtain⟨x,y,E,F,rfl⟩:=zip_get hd;have r:=(KC.mp E).1;have q:=(KC.mp F).1;refine⟨⟨⟨by omega,by omega⟩,P,T⟩,?_⟩
  rintro v H3 ⟨p,J,L,hp,g1,g2,rfl,rfl⟩;obtain⟨v1,e1,C⟩:=Q.get' E;obtain⟨v2,e2,A⟩:=R.get' F;obtain rfl:v1=J:=K6 (e1.symm.trans g1);obtain rfl:v2=L:=K6 (e2.symm.trans g2);have N:Ext U O U (upd O p (.tup [v1,v2])):=ef hp;exact⟨N,fw rep2 hp,.tup aN (.cons (C.later rep2 N) (.cons (A.later rep2 N) .nil))⟩
 ·have u:min xs.length ys.length<=i:=by simpa using hlen
  refine⟨?_,P,T⟩;rcases Nat.le_total xs.length ys.length with z|z
  ·exact .inl (by omega)
  ·exact .inr (by omega)
end S4
namespace S3
open PySem PySem.Spec PyProof.Rows L2 S4
abbrev mV(i:Nat):TM:=fun ρ=>CY ρ i
abbrev mK(d:D):TM:=fun _=>pure d
abbrev kN(m n:TM):TM:=fun ρ=>do let x<-m ρ;let c<-kz x;if c=true then n ρ else pure (.bl false)
abbrev JN(m n:TM):TM:=fun ρ=>do let x<-m ρ;let c<-kz x;if c=true then pure (.bl true)else n ρ
abbrev JO(m:TM):TM:=fun ρ=>do let x<-m ρ;let c<-kz x;pure (.bl (!c))
abbrev Ko(t:aO->M Bool)(m n:TM):TM:=fun ρ=>do let k<-t ρ;if k=true then m ρ else n ρ
abbrev Cw:=aO->M (List D)
abbrev ao:Cw:=fun _=>pure []
abbrev ae(m:TM)(ms:Cw):Cw:=fun ρ=>do let x<-m ρ;let xs<-ms ρ;pure (x::xs)
abbrev eM(ms:Cw):TM:=fun ρ=>do let ds<-ms ρ;cf ds
abbrev bH(ms:Cw):TM:=fun ρ=>do let ds<-ms ρ;bM ds
abbrev aA(F:List D->M D)(ms:Cw):TM:=fun ρ=>do let ds<-ms ρ;F ds
abbrev cL(F:List D->M D)(m:TM):TM:=aA F (ae m ao)
abbrev aR(f:D->D->M D)(m n:TM):TM:=fun ρ=>do let x<-m ρ;let y<-n ρ;f x y
abbrev F5(f g:D->D->M D)(m n l:TM):TM:=fun ρ=>do let x<-m ρ;let y<-n ρ;let z<-f x y;let k<-kz z;if k=true then do let w<-l ρ;g y w else pure (.bl false)
abbrev JP:=aO->M (Option Int)
abbrev oN:JP:=fun _=>pure none
abbrev oS(m:TM):JP:=fun ρ=>do let x<-m ρ;let i<-J7 x;pure (some i)
abbrev Eo(m:TM)(lo hi:JP):TM:=fun ρ=>do let x<-m ρ;let i<-lo ρ;let j<-hi ρ;AG x i j
abbrev gD(m:TM)(T:String):TM:=fun ρ=>do let x<-m ρ;AK (fun t=>ij t T) x
abbrev Ih(m:TM)(T U:String):TM:=fun ρ=>do let x<-m ρ;AK (fun t=>ij t T||ij t U) x
abbrev wb(f:D->List D->M D)(m n:TM):TM:=fun ρ=>do let x<-m ρ;G4 x;let ds<-(do let y<-n ρ;let ys<-pure [];pure (y::ys));f x ds
abbrev eG(mi:aO->M Iter)(g:mP)(t:aO->M Bool)(m:TM)(js:List (Option Nat)):TM:=fun ρ=>do let it<-mi ρ;let ys<-je it g t m (jD js ρ);bM ys
abbrev kO:=aO->M Bool
abbrev bV(m:TM):kO:=fun ρ=>do let x<-m ρ;kz x
abbrev eN(f:D->D->M D)(m n:TM):kO:=fun ρ=>do let z<-(do let x<-m ρ;let y<-n ρ;f x y);kz z
abbrev wc(f g:D->D->M D)(m n l:TM):kO:=fun ρ=>do let v<-(do let x<-m ρ;let y<-n ρ;let z<-f x y;let k<-kz z;if k=true then do let w<-l ρ;g y w else pure (.bl false));kz v
abbrev fB(t:kO):kO:=fun ρ=>do let c<-t ρ;pure (!c)
abbrev F6(t u:kO):kO:=fun ρ=>do let c<-t ρ;if c=true then u ρ else pure false
abbrev sM(t u:kO):kO:=fun ρ=>do let c<-t ρ;if c=true then pure true else u ρ
abbrev mY:kO:=fun _=>pure true
abbrev qo(m:TM):aO->M Iter:=fun ρ=>do let ds<-ae m ao ρ;kK ds
abbrev we(m n:TM):aO->M Iter:=fun ρ=>do let ds<-ae m (ae n ao) ρ;kg ds
abbrev ji(m:TM):aO->M Iter:=fun ρ=>do let x<-m ρ;HZ x
abbrev gN(i:Nat):mP:=fun d ρ=>pure (ρ.set i (some d))
abbrev IP(m n:TM):mP:=fun d ρ=>do let x<-m ρ;let y<-n ρ;jQ x y d;pure ρ
abbrev d4:cW:=fun ρ=>pure (.nx ρ)
abbrev aF(m n:cW):cW:=fun ρ=>do let o<-m ρ;yC o n
abbrev qV(me:TM):cW:=fun ρ=>do let _<-me ρ;pure (.nx ρ)
abbrev bP(me:TM):cW:=fun ρ=>do let d<-me ρ;pure (.ret d)
abbrev iw(t:kO)(m n:cW):cW:=fun ρ=>do let c<-t ρ;if c=true then m ρ else n ρ
abbrev bp(i:Nat)(me:TM):cW:=fun ρ=>do let d<-me ρ;pure (.nx (ρ.set i (some d)))
abbrev lI(me:TM)(g:mP):cW:=fun ρ=>do let d<-me ρ;let ρ'<-g d ρ;pure (.nx ρ')
abbrev F7(i j:Nat)(ms:Cw):cW:=fun ρ=>do let ds<-ms ρ;match ds with|[d1,d2]=>pure (.nx ((ρ.set i (some d1)).set j (some d2)))|_=>M.fail
abbrev lJ(mi:aO->M Iter)(g:mP)(b:cW):cW:=fun ρ=>do let it<-mi ρ;gz it g b it.items ρ
abbrev F8(k:Nat)(t:kO)(b:cW):cW:=fun ρ=>jR t b k ρ
structure DefIs(P:Program)(w:World)(K:W.Frag)(mg:Str->Option Value)(base:Heap)(k:Nat)(x:Str)(ps:List Str)(F:List D->M D):Prop where
 ex:∃ f fd,FnOk P w K mg base Kk k f fd ps (Km K F)/\mg x=some (.ref f)/\W.keepIn K (.ref f)=true/\Binds K fd ps []
section
variable {X:Cx}{E:XD}{e:Expr}{es:List Expr}{pos:Pos}{ms:Cw}
theorem aD{c j p}:starEach (.Constant c j p::es) env=(false,eval (.Constant c j p) env)::starEach es env:=rfl
theorem bu{l k p}:starEach (.Tuple l k p::es) env=(false,eval (.Tuple l k p) env)::starEach es env:=rfl
theorem lK{l p}:starEach (.List l p::es) env=(false,eval (.List l p) env)::starEach es env:=rfl
theorem au{x p}:starEach (.Name x p::es) env=(false,eval (.Name x p) env)::starEach es env:=rfl
theorem aS{f l k p}:starEach (.Call f l k p::es) env=(false,eval (.Call f l k p) env)::starEach es env:=rfl
theorem fC{a o b p}:starEach (.BinOp a o b p::es) env=(false,eval (.BinOp a o b p) env)::starEach es env:=rfl
theorem bA{a b p}:starEach (.Subscript a b p::es) env=(false,eval (.Subscript a b p) env)::starEach es env:=rfl
theorem Dg{a b p}:starEach (.Dict a b p::es) env=(false,eval (.Dict a b p) env)::starEach es env:=rfl
theorem wg{a b p}:starEach (.UnaryOp a b p::es) env=(false,eval (.UnaryOp a b p) env)::starEach es env:=rfl
theorem A8{j p}:SE X E (.UnaryOp .USub (.Constant (.int i) j p) pos) (mK (.int (-i))):=by
 refine PE.imp (Hx Fi zU) fun σ H Q h=>?_;obtain⟨ι,S,ρ,rep,re,c⟩:=h;exact⟨i,rfl,ah c .refl rep _ (.int _)⟩
theorem o7(W:Gl X x)(Z:∃ t,X.mg x=some (.int i t))(Y:(x==("__debug__":Str))=false:=by decide):SE X E (.Name x pos) (mK (.int i)):=
 let ⟨_,h⟩:=Z
 CZ W h Y
def Ii(fs:Scope)(N:List Str)(scope:Scope)(Nc:List Str)(js:List (Option Nat)):Bool:=
 (scope.kind== .function) && scope.names.all (fun y=>y.2 != .cell||scope.names.lookup y.1==some .cell) && scope.names.all (fun y=>y.2 != .local||scope.names.lookup y.1==some .local) &&
  scope.names.all (fun y=>y.2 != .free||(fs.names.lookup y.1==some .cell||fs.names.lookup y.1==some .free)) && (js.length==Nc.length) &&
  (Nc.zip js).all (fun p=>match p.2 with|none=>true|some j=>N[j]? ==some p.1 && scope.names.lookup p.1==some .free)
theorem qp(fs:Scope)(N:List Str)(Y:∀ x,X.env.kindOf x=fs.names.lookup x)(P:X.N=N)(h:Ii fs N scope Nc js=true):CompScope X scope Nc js:=by
 unfold Ii at h;simp only[Bool.and_eq_true,List.all_eq_true,beq_iff_eq,bne_iff_ne,Bool.or_eq_true]at h;obtain⟨⟨⟨⟨⟨Q,U⟩,O⟩,T⟩,S⟩,W⟩:=h;refine⟨Q,fun y Z e=>(U y Z).resolve_left fun z=>z e,fun y Z e=>(O y Z).resolve_left fun z=>z e,fun y Z e=>?_,S,fun i x j e1 e2=>?_⟩
 ·rw[Y];exact(T y Z).resolve_left fun z=>z e
 ·have R:(Nc.zip js)[i]? =some (x,some j):=M1.mpr ⟨e1,e2⟩;have:=W _ (Le R);simp only[Bool.and_eq_true,beq_iff_eq]at this;rw[P];exact this
theorem iX(Z:Room k A):A.units+64<cLine:=by have:=Z.un;omega
theorem Kq(Z:Room k A):A.units+8<cLine:=by have:=Z.un;omega
theorem A9(Z:Room k A):A.units<cLine:=by have:=Z.un;omega
end
section
variable {P:Program}{w:World}{K:W.Frag}{mg:Str->Option Value}{base:Heap}
end
def runs{α:Type}(c:M α)(S:aB)(Q:α->aB->Prop):Prop:=∃ a S',c S=some (.ok a,S')/\Q a S'
section
variable {α β:Type}{c:M α}{f:α->M β}{S:aB}{Q Q':α->aB->Prop}{R:β->aB->Prop}
theorem sN(h:c S=some (.ok a,S1)):runs c S Q↔Q a S1:=by
 constructor
 ·rintro⟨a',S',e,q⟩;rw[h]at e;cases e;exact q
 ·exact fun q=>⟨a,S1,h,q⟩
theorem Dh(h:c S=none):runs c S Q↔False:=by
 constructor
 ·rintro⟨a',S',e,q⟩;rw[h]at e;cases e
 ·exact fun q=>q.elim
theorem qW(h:runs c S Q)(k:∀ a S',Q a S'->Q' a S'):runs c S Q':=let ⟨a,S',e,q⟩:=h;⟨a,S',e,k a S' q⟩
end
section
variable {S:aB}{Q:D->aB->Prop}
theorem yW:runs (bM ds) S Q↔ds.length<=lim/\Q (.lst S.length) (S++[ds]):=by
 by_cases h:ds.length<=lim
 ·rw[sN (by unfold bM;rw[if_pos h])];simp[h]
 ·rw[Dh (by unfold bM;rw[if_neg h])];simp[h]
theorem jj{f:PyData->PyData->Bool}(Y:jE S 60 a=some p)(Z:jE S 60 b=some q):runs (G3 f a b) S Q↔Q (.bl (f p q)) S:=by
 rw[sN (by unfold G3;rw[Y,Z])]
theorem xv(Y:jE S 60 a=some p)(Z:jE S 60 b=some q)(X:JJ f p q=some r):runs (HU f a b) S Q↔Q (.bl r) S:=by
 rw[sN (by unfold HU;rw[Y,Z];simp only[X];rfl)]
end
end S3
namespace S7
open PySem PySem.Spec PySem.W PyProof.Rows
section
variable {prog:Program}{w:World}{A:Around}{E:Value->Shared->Prop}{s:Shared}{K:Frag}{x C:Addr}{ox:Obj}{od:Option Obj}{name:Str}
theorem xw:Slot "BaseException" "__getattribute__" "BaseException.__getattribute__":=
 .of (owner:="BaseException") (n:="__getattribute__") (by rw[OF,NJ];kernel_rfl) (by decide+kernel) (by decide+kernel) (by decide+kernel)
  (by first|exact .inl (by decide+kernel)|exact .inr (by decide+kernel)) (by rw[NG];kernel_rfl)
theorem Ba{M:Model}{Z:Value}{Q:Unit->Shared->Prop}(X:K.In s.heap)(I:W.InstAt s.heap x ox C od)(U:mroIn K C (.type "BaseException")=some true)(h:Q () s):
  wpAny M A (checkBuiltinCall "BaseException.__getattribute__" ⟨[.ref x,Z],[]⟩) Q E s:=by
 have T:builtinKind "BaseException.__getattribute__"=some .slot:=by decide+kernel
 have Y:splitId "BaseException.__getattribute__"=some ("BaseException","__getattribute__"):=by decide+kernel
 have S:=I.type (M:=M);have L1:=looks_mroIn (M:=M) X U;have O:=F.args_bexc_ga (.ref x) Z;obtain⟨P,g,d,t,os⟩:=s;have R:Looks M P (isInstance (.ref x) (.type "BaseException")) true:=S.andThen L1;simp only[checkBuiltinCall,T,Y];refine Kv (R.at ?_)
 repeat (first|wp_step)
 exact h
theorem Bb{Y Z:Bool}{O:Tok}{Q:Value->Shared->Prop}(X:K.In s.heap)(I:W.InstAt s.heap x ox C od)(P:findIn K (.ref C) "__getattribute__"=some (some (.builtin "BaseException.__getattribute__")))
  (S:findIn K (.ref C) "__getattr__"=some none) (N:mroIn K C (.type "BaseException")=some true)
  (h:wpAny (model prog w) A.in1 (Builtin.«object.__getattribute__» ⟨[.ref x,.str name O],[]⟩)
   (fun fin s'=>match fin with| .done (.ret v)=>wpAny (model prog w) A (handedOut v) Q E s'|_=>False) (fun _ _=>False) s):
  wpAny (model prog w) A (getAttrBy (.ref x) (.str name O) Y Z) Q E s:=by
 obtain⟨H,g,d,t,os⟩:=s;have J:=I.type (M:=model prog w);have L1:=looks_findIn (M:=model prog w) X P;have L:=looks_findIn (M:=model prog w) X S;have U:(Z && onTheHeap (Value.builtin "BaseException.__getattribute__"))=false:=by cases Z<;>rfl
 have R:(Value.builtin "BaseException.__getattribute__"==Value.builtin "object.__getattribute__")=false:=by decide+kernel
 have T:(onTheHeap (Value.ref C) && Value.builtin "BaseException.__getattribute__"==Value.builtin "object.__getattribute__")=false:=by rw[R,OI]
 unfold getAttrBy;refine Lm (Kv (J.at (Kv (L1.at ?_))));dsimp only;rw[T];simp only[Bool.false_eq_true,if_false];unfold getAttrByItsOwn hookBefore;rw[if_pos (show onTheHeap (Value.ref C)=true from rfl)];refine Kv (L.at ?_);unfold callGetattribute;rw[U];simp only[Bool.false_eq_true,if_false];refine Kv (MU (Lm ?_));unfold boundAndCalled;rw[xw.bind];refine Kv (Ky ?_);refine Nz (NO xw.plain F.entry_bexc_ga (Ba X I N (La h (fun fin s' z=>?_) fun _ _ z=>z.elim)));rcases fin with(_|_|_|_)|_<;>first|exact z|exact z.elim
theorem o8{g a:Value}{U:Tok}{P:Value->Shared->Prop}(X:K.In s.heap)(I:W.InstAt s.heap x ox C od)(Y:findObj K C od name=some (.bind g a))
  (h:wpAny (model prog w) A (call g [a,.ref x,.ref C]) P E s):
  wpAny (model prog w) A (Builtin.«object.__getattribute__» ⟨[.ref x,.str name U],[]⟩) (fun fin s'=>match fin with| .done (.ret v)=>P v s'|_=>False) E s:=by
 obtain⟨S,T,d,t,os⟩:=s;have Z:=I.type (M:=model prog w);have L1:=looks_find (M:=model prog w) X I Y;refine Kv (Ky (Kv (Ky (Kv (Z.at (Kv (L1.at ?_)))))));show wpAny _ _ (holding [a] (call g [a,.ref x,.ref C])>>=ret) _ _ _;exact Kv (Lm (La h (fun v s' z=>Ky z) fun _ _ z=>z))
theorem qr{v:Value}{Y:Tok}{P:Value->Shared->Prop}(X:K.In s.heap)(I:W.InstAt s.heap x ox C od)(U:findObj K C od name=some (.value v))(h:P v s):
  wpAny (model prog w) A (Builtin.«object.__getattribute__» ⟨[.ref x,.str name Y],[]⟩) (fun fin s'=>match fin with| .done (.ret v)=>P v s'|_=>False) E s:=by
 obtain⟨S,T,d,t,os⟩:=s;have Z:=I.type (M:=model prog w);have L1:=looks_find (M:=model prog w) X I U;refine Kv (Ky (Kv (Ky (Kv (Z.at (Kv (L1.at ?_)))))));exact Ky h
structure ExcC(K:Frag)(C:Addr):Prop where
 ga:findIn K (.ref C) "__getattribute__"=some (some (.builtin "BaseException.__getattribute__"))
 gt:findIn K (.ref C) "__getattr__"=some none
 be:mroIn K C (.type "BaseException")=some true
 ob:mroIn K C (.type "object")=some true
 cl:findIn K (.ref C) "__class__"=some (some (.builtin "object.__class__"))
 gs:specialIn K (.builtin "object.__class__") "__get__"=some (some (.builtin "getset_descriptor.__get__"))
 tk:takesIn K (.builtin "object.__class__")=some true
 cd:(clsIn K C).isSome=true
 mf:findIn K (.ref C) "many"=some none
 ms:findIn K (.ref C) "most"=some none
def Bc(K:Frag)(C:Addr):Bool:=(findIn K (.ref C) "__getattribute__"==some (some (.builtin "BaseException.__getattribute__"))) && (findIn K (.ref C) "__getattr__"==some none) && (mroIn K C (.type "BaseException")==some true) &&
 (mroIn K C (.type "object")==some true) && (findIn K (.ref C) "__class__"==some (some (.builtin "object.__class__"))) && (specialIn K (.builtin "object.__class__") "__get__"==some (some (.builtin "getset_descriptor.__get__"))) &&
 (takesIn K (.builtin "object.__class__")==some true) && (clsIn K C).isSome && (findIn K (.ref C) "many"==some none) && (findIn K (.ref C) "most"==some none)
theorem ExcC.of(h:Bc K C=true):ExcC K C:=by
 unfold Bc at h;simp only[Bool.and_eq_true,beq_iff_eq]at h;obtain⟨⟨⟨⟨⟨⟨⟨⟨⟨W,X⟩,Q⟩,R⟩,P⟩,Y⟩,U⟩,T⟩,S⟩,Z⟩:=h;exact⟨W,X,Q,R,P,Y,U,T,S,Z⟩
theorem yX{Q:Option Value->Shared->Prop}(c:ExcC K C)(X:K.In s.heap)(I:W.InstAt s.heap x ox C od)(h:Q (some (.ref C)) {s with toks:=s.toks+1}):wpAny (model prog w) A (getAttr? (.ref x) "__class__") Q E s:=by
 have hf:findObj K C od "__class__"=some (.bind (.builtin "getset_descriptor.__get__") (.builtin "object.__class__")):=by
  obtain⟨cd,Z⟩:=LW.mp c.cd;unfold findObj;rw[Z,MJ,c.cl,MJ];simp[c.gs,c.tk]
 unfold getAttr? getAttrBy?;refine Kv (wpAny_mkText (Kv (MU (Bb (s:={s with toks:=s.toks+1}) X I c.ga c.gt c.be ?_))));refine o8 (s:={s with toks:=s.toks+1}) X I hf ?_;exact Nz (class_get (s:={s with toks:=s.toks+1}) (ox:=ox) (od:=od) X I c.ob (handed_on rfl (Ky h)))
theorem Bd(c:ExcC K C):KitX K (.ref x) (.ref C) (fun h=>∃ ox od,W.InstAt h x ox C od) where
 ty:=fun _ _ _ ⟨_,_,I⟩=>I.type
 it:=fun _ _ X _=>by
  have Z:=c.cd;unfold clsIn at Z;split at Z
  ·rename_i c' d' cd' sl' ho
   intro R S T s' k q;unfold isType loadHead;exact Kv (wpAny_loadPart (k _ _ (X _ _ ho)) (Ky q))
  ·cases Z
 ne:=fun h tp dd its n U X Y=>by
  have Z:=c.cd;refine Oj.mpr fun q=>?_;have e:C=tp:=Value.ref.inj (ON.mp q);subst e;unfold clsIn at Z;split at Z
  ·rename_i c' d' cd' sl' ho
   have z:=(X _ _ ho).symm.trans Y;cases z
  ·cases Z
 ca:=fun X ⟨_,_,I⟩ k=>yX c X I k
end
end S7
namespace S7
open PySem PySem.Spec PyProof.Rows L2 S3
def Be(e T C:Addr)(od:Option Addr)(fl:Value)(h:Heap):Prop:=
 ∃ oe vs oT ts,h.get? e=some oe/\oe.cls= .ref C/\oe.dict=od/\oe.data= .fields vs/\vs[1]? =some (.ref T)/\T≠e/\h.get? T=some oT/\oT.data= .fields ts/\ts[3]? =some fl
structure Step(fs:List Addr)(e T:Addr)(h h':Heap):Prop where
 keep:∀ b o,h.get? b=some o->b≠e->b≠T->b ∉ fs->h'.get? b=some o
 slot:∀ b o,h.get? b=some o->b≠e->b≠T->∃ sl,h'.get? b=some {o with slots:=sl}
 size:h.objs.size<=h'.objs.size
section
variable {M:Model}{A:Around}{E:Value->Shared->Prop}{s:Shared}{base:Heap}{env:Env}{outer:List Env}{L e T C:Addr}{od:Option Addr}{fl:Value}{Q:Unit->Shared->Prop}
theorem o9(o:Obj)(f:Array Value->Array Value):(Obj.mapFields f o).dict=o.dict:=by
 obtain⟨c,d,Z,Y⟩:=o;cases Z<;>rfl
theorem entry(K:A.frames=some (env::outer))(F:s.heap.FunFrames base (env::outer))(v:env.frame=some L)
  (G:s.heap.get? e=some oe) (z:oe.cls= .ref C) (B:oe.dict=od) (H:oe.data= .fields vs) (U:1<vs.size)
  (h:∀ h' T',Be e T' C od (rawInt L) h'->s.heap.objs.size<=T'->Step (jG (env::outer)) e e s.heap h'->Q () {s with heap:=h'}):
  wpAny M A (do let a<-frameOf env;let N<-entryPlaceOf L hadNext;let b<-EntryCells.newEntry head a .none (rawInt L) .none N;setField (.ref e) 1 b) Q E s:=by
 have O:e ∉ jG (env::outer):=fun hm=>by obtain⟨_,o,q,I⟩:=F.mem hm;rw[G]at q;cases q;exact I vs H
 refine Kv (wpAny_frameOf_fun K F v fun Y Z=>Kv (wpAny_entryPlaceOf fun N W=>?_));unfold EntryCells.newEntry newFields;refine Kv (Ln (?_ :wpAny _ _ _ _ _ _) (W.sizeOk5 _ _ _ _ _));have P:Y.get? e=some oe:=(Z.2.1 e O).trans G;have R:=Kw (h:=Y) {cls:=.type "traceback",dict:=none,data:=.fields ([head,.ref L,.none,rawInt L,.none]++(if N.isEmpty then List.replicate 6 Value.none else N)).toArray} P;have X:Y.objs.size≠e:=Mi (KF P);have S:=Md H (·.setIfInBounds 1 (Value.ref Y.objs.size));refine MK R H U (h _ Y.objs.size ⟨_,_,_,_,Lz _ R (MR S),?_,?_,S,by simp[U],X,(Lk _ _ (Ne.symm X)).trans (KG Y rfl),rfl,?_⟩ (Nb Z.1.symm) ⟨fun b o q J _ w=>?_,fun b o q J _=>?_,?_⟩)
 ·rw[Om];exact z
 ·rw[o9];exact B
 ·first|(simp;done)|(rcases W with rfl|⟨_,_,_,_,_,_,_,rfl⟩<;>simp)
 ·rw[Lk _ _ (Ne.symm J)];exact Kw _ ((Z.2.1 b w).trans q)
 ·obtain⟨y,x⟩:=Z.2.2 b o q;exact⟨y,by rw[Lk _ _ (Ne.symm J)];exact Kw _ x⟩
 ·rw[ML,LN,Z.1];exact M5 _
theorem wj(Z:A.frames=some (env::outer))(P:s.heap.FunFrames base (env::outer))(U:env.frame=some L)
  (Y:s.heap.get? e=some oe) (R:oe.cls= .ref C) (S:oe.dict=od) (W:oe.data= .fields vs) (X:vs[1]? =some .none)
  (h:∀ h' T',Be e T' C od (rawInt L) h'->s.heap.objs.size<=T'->Step (jG (env::outer)) e e s.heap h'->Q () {s with heap:=h'}):wpAny M A (noteFrame (.ref e) env) Q E s:=by
 unfold noteFrame;simp only[U];refine Kv (LH Y W X ?_);rw[if_neg (by decide)]
 exact entry Z P U Y R S W (K7.mp X).1 h
theorem qX(W:A.frames=some (env::outer))(y:s.heap.FunFrames base (env::outer))(H:env.frame=some L)(F:Be e T C od .none s.heap)
  (h:∀ h' X,Be e X C od (rawInt L) h'->s.heap.objs.size<=X->Step (jG (env::outer)) e T s.heap h'->Q () {s with heap:=h'}):wpAny M A (noteFrame (.ref e) env) Q E s:=by
 obtain⟨t,vs,u,K,he,G,x,hd,I,R,U,Z,J⟩:=F;have P:3<K.size:=(K7.mp J).1;unfold noteFrame;simp only[H];refine Kv (LH he hd I ?_);rw[if_pos (show(Value.ref T !=Value.none)=true from by simp)]
 refine Kv (LH U Z J ?_);rw[if_neg (show ¬ ((Value.none==rawInt L)=true)from by simp[rawInt])]
 refine Kv (MK U Z P ?_);have other:∀ b,b≠T->(s.heap.update T (Obj.mapFields (·.setIfInBounds 3 Value.none))).get? b=s.heap.get? b:=fun b v=>Lk _ _ (Ne.symm v);have N:(s.heap.update T (Obj.mapFields (·.setIfInBounds 3 Value.none))).FunFrames base (env::outer):=y.of_keeps fun b o q O=>⟨o,(other b fun z=>by rw[z,U]at q;cases q;exact O K Z).trans q,rfl⟩
 refine entry (s:={s with heap:=s.heap.update T (Obj.mapFields (·.setIfInBounds 3 Value.none))}) W N H ((other e (Ne.symm R)).trans he) G x hd (K7.mp I).1 fun h' X B l st=>h h' X B ?_ ⟨fun b o q Y S w=>st.keep b o ((other b S).trans q) Y Y w,fun b o q Y S=>st.slot b o ((other b S).trans q) Y Y,?_⟩
 ·have:=l;rwa [ML]at this
 ·have:=st.size;rwa [ML]at this
theorem iy(F:Be e T C od fl s.heap)(h:∀ h',Be e T C od .none h'->Step [] e T s.heap h'->Q () {s with heap:=h'}):wpAny M A (setFlight (.ref e) none) Q E s:=by
 obtain⟨O,vs,I,K,he,P,R,hd,S,Y,U,Z,J⟩:=F;have X:3<K.size:=(K7.mp J).1;refine wpAny_setFlight_none he hd S U Z X (h _ ⟨O,vs,_,_,(Lk _ _ Y).trans he,P,R,hd,S,Y,Lz _ U (MR (Md Z _)),Md Z _,by simp[X]⟩
  ⟨fun b o q N W _=>(Lk _ _ (Ne.symm W)).trans q,fun b o q N W=>⟨o.slots,(Lk _ _ (Ne.symm W)).trans q⟩,?_⟩)
 rw[ML];exact Kz _
theorem uz(W:A.frames=some (env::outer))(N:s.heap.FunFrames base (env::outer))(z:env.frame=some L)
  (S:s.heap.get? e=some oe) (P:oe.cls= .ref C) (R:oe.dict=od) (G:oe.data= .fields vs) (H:vs[1]? =some .none)
  (h:∀ h' X,Be e X C od .none h'->s.heap.objs.size<=X->Step (jG (env::outer)) e e s.heap h'->Q () {s with heap:=h'}):wpAny M A (leaving env (.ref e)) Q E s:=by
 unfold leaving;refine Kv (wj W N z S P R G H fun h' X F l st=>iy (s:={s with heap:=h'}) F fun U B Y=>h U X B l ⟨fun b o q Z O I=>?_,fun b o q Z O=>?_,KP st.size Y.size⟩)
 ·exact Y.keep b o (st.keep b o q Z Z I) Z (KL (KQ (KF q) l)) (by simp)
 ·obtain⟨K,J⟩:=st.slot b o q Z Z;exact⟨K,Y.keep b _ J Z (KL (KQ (KF q) l)) (by simp)⟩
theorem wk(W:A.frames=some (env::outer))(R:s.heap.FunFrames base (env::outer))(J:env.frame=some L)(F:Be e T C od .none s.heap)
  (h:∀ h' X,Be e X C od .none h'->s.heap.objs.size<=X->Step (jG (env::outer)) e T s.heap h'->Q () {s with heap:=h'}):wpAny M A (leaving env (.ref e)) Q E s:=by
 unfold leaving;refine Kv (qX W R J F fun h' X F l st=>iy (s:={s with heap:=h'}) F fun S K Z=>h S X K l ⟨fun b o q Y U N=>?_,fun b o q Y U=>?_,KP st.size Z.size⟩)
 ·exact Z.keep b o (st.keep b o q Y U N) Y (KL (KQ (KF q) l)) (by simp)
 ·obtain⟨P,O⟩:=st.slot b o q Y U;exact⟨P,Z.keep b _ O Y (KL (KQ (KF q) l)) (by simp)⟩
end
def ky(P:Program)(w:World):zR:=fun outer H s E x s'=>
 ∃(e T C:Addr) (od:Option Addr) (H':Hp),x= .ref e/\s'.os=s.os/\AllBare s'.gens/\Un (jG outer) [] H H' s.heap s'.heap/\gk P w H' s'.heap/\Be e T C od .none s'.heap/\
  H' e=none/\H' T=none/\s.heap.get? e=none/\s.heap.get? T=none/\E (.ref C) od H'
theorem qY{X:Cx}:n8 (ky X.prog X.w) X E0:=fun _ _ _ _ _ _ _ ⟨_,_,_,_,_,_,_,_,_,_,_,_,_,_,_,h⟩=>h.elim
theorem gI{h:Heap}(q:h.get? b=some o)(n:h.get? e=none):b≠e:=fun z=>by rw[z,n]at q;cases q
theorem Un.fly(u:Un fs [] H H' h h1)(S:Step fs e T h1 h2)(X:h.get? e=none)(W:h.get? T=none):Un fs [] H H' h h2 where
 keep:=fun b o q n hf Y=>S.keep b o (u.keep b o q n hf Y) (gI q X) (gI q W) hf
 slot:=fun b o q n hf Y=>by
  obtain⟨Q,U⟩:=u.slot b o q n hf Y;obtain⟨Z,R⟩:=S.slot b _ U (gI q X) (gI q W);exact⟨Z,R⟩
 free:=u.free
 there:=fun b o q Y=>by
  obtain⟨P,U⟩:=u.there b o q Y;obtain⟨Z,R⟩:=S.slot b _ U (gI q X) (gI q W);exact⟨_,R⟩
 tups:=u.tups
 frzs:=u.frzs
 tbls:=u.tbls
theorem gk.fly{H:Hp}(Y:gk P w H h1)(S:Step fs e T h1 h2)(X:H e=none)(W:H T=none)(U:∀ b∈fs,H b=none):gk P w H h2:=fun a o q=>by
 have k:∀ b u,H b≠none->h1.get? b=some u->h2.get? b=some u:=fun b u n q=>S.keep b u q (fun z=>n (by rw[z];exact X)) (fun z=>n (by rw[z];exact W)) fun z=>n (U b z)
 refine(Y a o q).stay (fun b u Z=>k b u ?_) (fun _ z=>z) fun _ _ z=>z;rcases Z with rfl|Z
 ·rw[q];simp
 ·rw[Z];simp
section
theorem uA(l:List Env)(x:Addr)(env:Env)(h:env.frame=some x):jG (env::l)=x::jG l:=by
 unfold jG;rw[Lv,h]
theorem bj.there(x:bj P w H h a o):∃ Z,h.get? a=some Z:=by
 cases o with
 |lst xs=>obtain⟨_,_,_,_,e⟩:=x;exact⟨_,e⟩
 |tup xs=>obtain⟨_,_,_,Z,e,_⟩:=x;exact⟨_,e⟩
 |dK kvs=>obtain⟨_,_,_,_,o,_,_,e,_⟩:=x;exact⟨_,e⟩
 |dT kvs=>obtain⟨_,_,_,_,o,_,_,e,_⟩:=x;exact⟨_,e⟩
 |set S n=>obtain⟨o,_,_,_,e,_⟩:=x;exact⟨_,e⟩
 |ins C dx fs=>obtain⟨_,_,_,e,_⟩:=x;exact⟨_,e⟩
 |own y=>exact x
 |xd fs=>obtain⟨_,⟨_,_,_,e,_⟩,_⟩:=x;exact⟨_,e⟩
 |rng lo hi=>obtain⟨_,_,_,e⟩:=x;exact⟨_,e⟩
 |frz Z u=>obtain⟨e,_⟩:=x;exact⟨_,e⟩
 |tbl ps=>exact⟨_,(show h.get? a=some _ from x)⟩
 |met f y=>exact⟨_,(show h.get? a=some _ from x)⟩
 |ext φ=>exact x.2.1
theorem gk.gone{H:Hp}(x:gk P w H h)(e:h.get? a=none):H a=none:=by
 cases q:H a with
 |none=>rfl
 |some o=>
  obtain⟨Z,e2⟩:=bj.there (x a o q);rw[e]at e2;cases e2
theorem Un.gone(u:Un fs ex H H' h h')(Z:a ∉ ex)(e:h'.get? a=none):h.get? a=none:=by
 cases q:h.get? a with
 |none=>rfl
 |some o=>
  obtain⟨Y,e2⟩:=u.there a o q Z;rw[e]at e2;cases e2
end
abbrev Cx.hand(X:Cx)(e:Value):Cx:={X with A:=X.A.mark (some e),calm:=false,xe:=fun _ _=>False}
section
variable {X:Cx}{pins:List (Addr×Obj)}{σ:L2.St}{H H':Hp}{s:Shared}{x:Value}
theorem Inv.hand(I:Inv X pins σ H s)(e:Value):Inv (Cx.hand X e) pins σ H s:=
 ⟨⟨I.ok.mod,I.ok.kind,I.ok.glob,I.ok.blt,I.ok.above,I.ok.inj,I.ok.has,I.ok.cab,(fun z=>Bool.noConfusion z),I.ok.frames,I.ok.stk,I.ok.exf,I.ok.bs,I.ok.bsz,I.ok.noex,I.ok.exfs,I.ok.funs,I.ok.frf⟩,
  I.os,I.bare,I.base,I.loc,I.cell,I.free,I.freeC,I.pin,I.hok,I.len⟩
theorem Inv.unhand(Z:X.Ok)(I:Inv (Cx.hand X x) pins σ H s):Inv X pins σ H s:=⟨Z,I.os,I.bare,I.base,I.loc,I.cell,I.free,I.freeC,I.pin,I.hok,I.len⟩
theorem Inv.local{Z:L2.St}(I:Inv X pins σ H s)(hs:Heap.SameBut X.env.locals s.heap h')(P:h'.Ns X.env.locals m')(W:Z.length=X.N.length)
  (R:∀(i:Nat) (y:Str) (v:V),X.N[i]? =some y->Z[i]? =some (some v)->yf X.env.scope y->∃ u,RelV v u/\Look X.env h' m' y u):Inv X pins Z H {s with heap:=h',toks:=t'}:=by
 have ne:∀ b o,X.s₀.heap.get? b=some o->b≠X.env.locals:=fun b o e=>KL (KQ (KF e) I.ok.above);refine⟨I.ok,I.os,I.bare,⟨fun b o e n T U=>(hs.2 b (ne b o e)).trans (I.base.keep b o e n T U),fun b o e n T U=>?_,I.base.free,fun b o e U=>?_,I.base.tups,I.base.frzs,I.base.tbls⟩,⟨m',P,R⟩,fun y c e=>?_,I.free,I.freeC,fun p S=>?_,fun a o e=>?_,W⟩
 ·obtain⟨Q,e1⟩:=I.base.slot b o e n T U;exact⟨Q,(hs.2 b (ne b o e)).trans e1⟩
 ·obtain⟨O,e1⟩:=I.base.there b o e U;exact⟨O,(hs.2 b (ne b o e)).trans e1⟩
 ·obtain⟨v,z⟩:=I.cell y c e;exact⟨v,z.sameBut hs (I.cne y c e)⟩
 ·obtain⟨e,n,nl,r⟩:=I.pin p S;exact⟨(hs.2 p.1 nl).trans e,n,nl,r⟩
 ·refine(I.hok a o e).stay (fun c L Y q=>(hs.2 c ?_).trans q) (fun _ q=>q) fun _ _ q=>q;rintro rfl;rcases Y with Y|Y
  ·subst Y;rw[I.free]at e;cases e
  ·rw[I.free]at Y;cases Y
theorem Di{M:Model}{A:Around}{E:Value->Shared->Prop}{i:Nat}{y:Str}{pos:Pos}{Q:Unit->Shared->Prop}(I:Inv X pins σ H s)(R:X.N.Nodup)(W:X.N[i]? =some y)(U:X.env.scope.names.lookup y=some .local)
  (h:∀ s',Inv X pins (σ.set i none) H s'->Q () s'):wpAny M A (do bindName X.env y .none;unbindBehindTheSuite X.env y pos) Q E s:=by
 obtain⟨m,P,T⟩:=id I.loc;refine wpAny_nameGoes_keeps U P (by rw[I.ok.kind];rfl) fun h' v Z hs=>h _ (Inv.local I hs Z (by rw[Ni];exact I.len) fun j z S e1 e2 e3=>?_)
 have Y:j≠i:=by
  rintro rfl;by_cases hlt:j<σ.length
  ·rw[K8 hlt]at e2;cases e2
  ·rw[LL (by rw[Ni];omega)]at e2;cases e2
 rw[LG (Ne.symm Y)]at e2;obtain⟨u,r,q⟩:=T j z S e1 e2 e3;refine⟨u,r,?_⟩;rcases q with⟨k,e⟩|⟨k,c,e,q⟩
 ·refine .inl ⟨k,?_⟩;have:z≠y:=fun e=>Y (n5 R e1 (e ▸ W));simp[this,e]
 ·exact .inr ⟨k,c,e,q.sameBut hs (I.cne z c e)⟩
end
theorem Un.track{Z:Hp}(u:Un fs [] H Z h h')(X:Z e=none)(W:h.get? e=none):Un fs [] H (upd Z e o) h h' where
 keep:=u.keep
 slot:=u.slot
 free:=fun b Y q n T=>by rw[aE (gI q W)];exact u.free b Y q n T
 there:=u.there
 tups:=fun b xs q=>by have:=u.tups b xs q;rw[aE (aK this X)];exact this
 frzs:=fun b Y x q=>by have:=u.frzs b Y x q;rw[aE (aK this X)];exact this
 tbls:=fun b U q=>by
  obtain⟨more,this⟩:=u.tbls b U q;exact⟨more,by rw[aE (aK this X)];exact this⟩
theorem gk.track{H:Hp}(X:gk P w H h)(Y:H e=none)(Z:bj P w (upd H e o) h e o):gk P w (upd H e o) h:=fun b u q=>by
 by_cases hb:b=e
 ·subst hb;rw[aN]at q;cases q;exact Z
 ·rw[aE hb]at q;exact(X b u q).stay (fun c v _ q=>q) (fun c q=>by rw[aE (aK q Y)];exact q) fun c xs q=>by rw[aE (aK q Y)];exact q
theorem Dj(F:Be e T C od fl h):bj P w H h e (.ext (lr C e od)):=by
 obtain⟨Z,vs,U,W,he,X,Y,hd,_⟩:=F;refine⟨⟨Z,vs,he,X,Y,hd⟩,⟨Z,he⟩,?_⟩;rintro h1 h2 ⟨Z,vs,he,r⟩ k;exact⟨Z,vs,k _ he,r⟩
structure LamOk(P:Program)(w:World)(K:W.Frag)(mg:Str->Option Value)(base:Heap)(k:Nat)(f:Addr)(sp:Hp->VK->XK->Prop):Prop where
 fn:∃ o fd,base.get? f=some o/\o.data= .func fd
 run:∀(A:Around) (outer:List Env) (s:Shared) (H:Hp) (Q:VK) (E:XK),Room k A->aO P w K mg base A outer s H->sp H Q E->codeAny (model P w) A (.call (.ref f) ⟨[],[]⟩) (CR (ky P w) outer P w H s Q E) s
section
variable {X:Cx}{k i jn jy:Nat}{f CW:Addr}{sp:Hp->VK->XK->Prop}{x c n y:Str}{p cpos epos np p1 p2 p3 hpos tpos:Pos}
theorem qZ(E:X.stack=X.env::X.outer)(c1:X.env.frame=some X.env.locals)(L:LamOk X.prog X.w X.K X.mg X.base k f sp)(hr:Room k X.A)(hN:X.N.Nodup)(hi:X.N[i]? =some x)(hv:yf X.env.scope x)
  (S:X.N[jn]? =some n) (c4:X.N[jy]? =some y) (R:X.env.scope.names.lookup n=some .local) (l:X.env.scope.names.lookup y=some .local) (hg:Gl X c) (hm:X.mg c=some (.ref CW))
  (hd:(x==("__debug__":Str))=false:=by decide) (d0:(x==("__classdict__":Str))=false:=by decide) (c2:(c==("__debug__":Str))=false:=by decide) (c5:(n==("__debug__":Str))=false:=by decide) (a5:(n==("__classdict__":Str))=false:=by decide)
  (b4:swapsWith (.Call (.Name x p) [] [] cpos) none epos.line X.env=pure false:=by rfl) (a6:swapsWith (.Name n p2) (some (.Name y p1)) p3.line X.env=pure false:=by rfl):
  PS X (.Try [.Expr (.Call (.Name x p) [] [] cpos) epos] [.ExceptHandler (some (.Name c np)) (some n) [.Assign [.Name y p1] (.Name n p2) p3] hpos] [] [] tpos)
   (fun D σ H=>σ[i]? =some (some (.ref f))/\sp H (fun _ Y=>D.nx σ Y) (fun cls od Y=>∃ C,cls= .ref C/\W.exmOne X.K (.ref C) (.ref CW)=some true/\∀ e,Y e=none->D.nx (((σ.set jn (some (.ref e))).set jy (some (.ref e))).set jn none) (upd Y e (.ext (lr C e od))))):=by
 intro pins s σ H D I ⟨hσ,hsp⟩;refine wpAny_Try_except (Ow (wpAny_Expr_any ?_ I.quiet b4));refine MM (La (rM (X:=X.nox) hi hv hd d0 pins s σ H (fun v Y=>v= .ref f/\Y=H) (I.wish _) ⟨_,hσ,rfl,rfl⟩) (fun u s1 b5=>?_) fun _ _ z=>False.elim z);obtain⟨v,Y,O,r1,ev,eH⟩:=b5;subst ev eH;obtain rfl:u=Value.ref f:=r1;have O:=O.unwish;obtain⟨o,fd,ho,d⟩:=L.fn;refine callWith_meth0 d (O.bk f o ho) (Nz (Mw (L.run X.A X.stack s1 Y _ _ hr O.env0 hsp) fun r s' U=>?_));cases r with
 | ok fl=>
  cases fl with
  |ret u=>
   obtain⟨v,H2,m,_,q⟩:=O.after U;exact MO (MO ⟨σ,H2,m,q⟩)
  |next=>exact False.elim U
  |brk=>exact False.elim U
  |cont=>exact False.elim U
 | error ev=>
  obtain⟨e,T,C',od,Z,rfl,os,bare,un,J,F,ne,nT,le,lT,C,eC,hx,hD⟩:=U;cases eC;have m:L2.Inv X pins σ Z s':=O.call' (ch:=[]) os un J bare (fun b z=>absurd z (by simp))
  have c0:∀ b∈jG X.stack,Z b=none:=m.stkFree;refine qX (base:=X.base) (outer:=X.outer) (by rw[m.ok.frames,E]) (by rw[<-E];exact m.stack) c1 F fun h1 T1 F1 l1 B=>?_
  rw[<-E]at B;have t:Z T1=none:=J.fresh l1;refine iy (s:={s' with heap:=h1}) F1 fun G F2 a0=>?_;have b0:s1.heap.get? T1=none:=Un.gone un (by simp) (LF l1)
  have j:gk X.prog X.w Z h1:=gk.fly J B ne nT c0;have P:gk X.prog X.w Z G:=gk.fly j a0 ne t (fun b z=>absurd z (by simp))
  have b3:Un (jG X.stack) [] Y Z s1.heap h1:=Un.fly un B le lT;have Q:∀{h a:Heap} {e T:Addr},Step [] e T h a->Step (jG X.stack) e T h a:=fun st=>⟨fun b o q n1 n2 _=>st.keep b o q n1 n2 (by simp),st.slot,st.size⟩
  have a4:Un (jG X.stack) [] Y Z s1.heap G:=Un.fly b3 (Q a0) le b0;have I3:L2.Inv X pins σ Z {s' with heap:=G}:=O.call' (s':={s' with heap:=G}) (ch:=[]) os a4 P bare (fun b z=>absurd z (by simp))
  refine wpAny_handleBy_cons (codeAny_handlers_test (j9 (X:=Cx.hand X (.ref e)) (Inv.hand I3 _) hg hm ?_ c2)) (by intro q;cases q)
  have LT:W.Looks (model X.prog X.w) G (typeOf (.ref e)) (.ref C'):=by
   obtain⟨oe,vs,oT,ts,he,hc,_⟩:=F2;exact hc ▸ (W.Looks.ld he).andThen .now
  refine(W.exm_one (h:=G) I3.kIn LT hx).at ?_;refine codeAny_handlers_suite_as (iy (s:={s' with heap:=G}) F2 fun h3 F3 g=>?_);have b1:gk X.prog X.w Z h3:=gk.fly P g ne t (fun b z=>absurd z (by simp))
  have b6:Un (jG X.stack) [] Y Z s1.heap h3:=Un.fly a4 (Q g) le b0;have I4:L2.Inv X pins σ (upd Z e (.ext (lr C' e od))) {s' with heap:=h3}:=
   O.call' (s':={s' with heap:=h3}) (ch:=[]) os (Un.track b6 ne le) (gk.track b1 ne (Dj F3)) bare (fun b z=>absurd z (by simp))
  refine jH (X:=X) I4 hN S (.inl R) (v:=.ref e) rfl (fun s5 I5=>?_) (.inr R);have hl:jn<σ.length:=by rw[I.len];exact(KC.mp S).1
  have ps:=rN (zY (X:=Cx.hand X (.ref e)) (pos:=p3) (pos':=p1) hN c4 (.inl l) (rM (X:=Cx.hand X (.ref e)) (pos:=p2) S (.inl R) c5 a5) a6 (.inr l));refine La (ps pins s5 _ _ {nx:=fun a3 H6=>a3=(σ.set jn (some (.ref e))).set jy (some (.ref e))/\H6=upd Z e (.ext (lr C' e od)),rt:=fun _ _=>False} (Inv.hand I5 _) ⟨.ref e,by rw[K8 hl],rfl,rfl⟩) (fun fl s6 U=>?_) fun _ _ z=>False.elim z
  cases fl with
  |next=>
   obtain⟨a3,H6,I6,e1,e2⟩:=U;subst e1 e2;exact Di (Inv.unhand I.ok I6) hN S R fun s7 I7=>⟨_,_,I7,hD e ne⟩
  |ret u=>obtain⟨_,_,_,_,_,z⟩:=U;exact False.elim z
  |brk=>obtain⟨_,_,_,z⟩:=U;exact False.elim z
  |cont=>obtain⟨_,_,_,z⟩:=U;exact False.elim z
end
structure BaseL(K:W.Frag)(mg:Str->Option Value)(base:Heap):Prop where
 bm:∃ bm ob,mg "__builtins__"=some (.ref bm)/\bm≠builtinsNs/\base.get? bm=some ob/\ob.cls= .type "module"/\ob.dict=some builtinsNs/\ob.data= .plain
 cd:∀ x∈cC,∀ c P,W.tabIn K x=some (c,P)->W.CodeHd base c P
def sO(K:W.Frag):Prop:=∀ x∈cC,∀ y∈cC,∀ c d P,W.tabIn K x=some (c,P)->W.tabIn K y=some (d,P)->x=y
theorem wm(l:List Value)(h:TriplesOk l)(e:codeAmong pos (l++[rawInt a,rawInt b,c])=some v):codeAmong pos l=some v\/v=c:=by
 fun_induction TriplesOk l with
 |case1=>
  have Z:(if a==(pos.line:Int) && b==(pos.col:Int)then some c else none)=some v:=e;split at Z
  ·exact .inr (K6 Z).symm
  ·cases Z
 |case2 a' t b' u x rest ih=>
  simp only[List.cons_append,codeAmong]at e ⊢;split at e
  ·next hq=>rw[if_pos hq];exact .inl e
  ·next hq=>rw[if_neg hq];exact ih h e
 |case3 l h1 h2=>exact h.elim
section
variable {X:Cx}{pins:List (Addr×Obj)}{σ:L2.St}{H:Hp}{s:Shared}{x ql:Str}{c P:Addr}{params:Arguments}{body:Expr}{scope:Scope}{pos:Pos}{clos:List (Str×Addr)}{Q:Value->Shared->Prop}{E:Value->Shared->Prop}{A:Around}
theorem F9(hx:x∈cC)(ht:W.tabIn X.K x=some (c,P))(L:X.env.code= .ref c)(hq:X.env.qual++"<lambda>"=ql)(m:ql=x++".<locals>.<lambda>")(B:BaseL X.K X.mg X.base)(TI:sO X.K)(i:closureFor scope X.env=pure clos)
  (j:defaultsOf params X.env=([],[])) (I:L2.Inv X pins σ H s) (T:TabsOk X.K H)
  (h:∀ f Z Y pm H1 s1,L2.Inv X pins σ H1 s1->s.heap.objs.size<=f->s1.heap.get? f=some (W.kla_obj "<lambda>" ql params body scope clos pm Z Y)->H1 f=none->H1 Z=some (.ext (qh ql Z))->
   (∀ a o,H a=some o->(∀ G,o≠ .tbl G)->H1 a=some o)->(∀ a,H a=none->H1 a≠none->s.heap.objs.size<=a)->TabsOk X.K H1->Q (.ref f) s1):
  wpAny (model X.prog X.w) A (eval (.Lambda params body scope pos) X.env) Q E s:=by
 refine W.kla_eval j ?_;rw[hq];obtain⟨G,O,hT,hA⟩:=T x hx c P ht;have C:W.CodeHd s.heap c P:=(B.cd x hx c P ht).keeps I.bk;have oP:s.heap.get? P=some (W.tabObj G):=I.hok P _ O;have hg:s.heap.Ns mainGlobals X.mg:=I.mod.glob.keeps I.bk;have U:∀ b,H b=none->b≠P:=fun b n z=>by rw[z,O]at n;cases n
 have gP:mainGlobals≠P:=by
  obtain⟨o,es,ep,e,_⟩:=I.mod.glob;exact U _ (I.bs _ _ e).2
 have hb:s.heap.BuiltinsAt X.mg P:=by
  obtain⟨bm,ob,b1,b2,b3,b4,b5,b6⟩:=B.bm;refine⟨bm,ob,b1,b2,fun z=>?_,U _ (I.bs _ _ b3).2,I.bk _ _ b3,b4,b5,b6⟩;obtain⟨o,es,ep,e,hd,_⟩:=I.mod.glob;rw[z,e]at b3;cases b3;rw[hd]at b6;cases b6
 cases hn:codeAmong pos G.toList with
 |some cv=>
  obtain⟨Z,rfl,g⟩:=hA pos cv hn;rw[<-m]at g;refine W.kla_makeFunctionHit i I.ok.glob hg L C oP hT hn hb fun Y h' tk hk a0=>?_;have R:∀ b o,s.heap.get? b=some o->(h'.push {cls:=.type "function",data:=.func (W.kla_fn "<lambda>" ql params body scope clos ((X.mg "__name__").getD .none) (.ref Z) Y)}).get? b=some o:=fun b o e=>Kw _ (hk b o e);exact h _ Z Y _ H _ (I.kept (t':=tk) R) a0 (KG _ rfl) (I.hok.fresh a0) g (fun a o e _=>e) (fun a n z=>absurd n z) T
 | none=>
  refine W.kla_makeFunction i I.ok.glob hg L C oP hT hn gP hb fun Z Y h' tk hX J F a3 c7=>?_;have nc:H Z=none:=I.hok.fresh J;have cP:P≠Z:=fun z=>by rw[<-z,O]at nc;cases nc
  have R:∀ b o,b≠P->s.heap.get? b=some o->(h'.push (W.kla_obj "<lambda>" ql params body scope clos ((X.mg "__name__").getD .none) Z Y)).get? b=some o:=fun b o n e=>Kw _ (hX b o n e);have a5:(h'.push (W.kla_obj "<lambda>" ql params body scope clos ((X.mg "__name__").getD .none) Z Y)).get? P=some (W.tabObj (G++ #[rawInt pos.line,rawInt pos.col,.ref Z])):=Kw _ c7;have old:∀ a o,H a=some o->a≠P->upd (upd H P (.tbl (G++ #[rawInt pos.line,rawInt pos.col,.ref Z]))) Z (.ext (qh ql Z)) a=some o:=fun a o e n=>by rw[aE (aK e nc),aE n];exact e
  have a4:∀ b o,s.heap.get? b=some o->b≠Z:=fun b o e=>KL (KQ (KF e) J);have un:Un X.fs [] H (upd (upd H P (.tbl (G++ #[rawInt pos.line,rawInt pos.col,.ref Z]))) Z (.ext (qh ql Z))) s.heap (h'.push (W.kla_obj "<lambda>" ql params body scope clos ((X.mg "__name__").getD .none) Z Y)):=
   ⟨fun b o e n _ _=>R b o (U b n) e,fun b o e n _ _=>⟨o.slots,R b o (U b n) e⟩,fun b o e n _=>by rw[aE (a4 b o e),aE (U b n)];exact n,fun b o e _=>(by
    by_cases z:b=P
    ·subst z;exact⟨_,a5⟩
    ·exact⟨o,R b o z e⟩),fun b xs e=>old b _ e (fun z=>by rw[z,O]at e;cases e),fun b o u e=>old b _ e (fun z=>by rw[z,O]at e;cases e),fun b qs e=>(by
    by_cases z:b=P
    ·subst z;rw[O]at e;cases e;exact⟨_,by rw[aE cP,aN]⟩
    ·exact⟨#[],by rw[old b _ e z];simp⟩)⟩
  have N:qh ql Z (h'.push (W.kla_obj "<lambda>" ql params body scope clos ((X.mg "__name__").getD .none) Z Y)):=by
   obtain⟨v,l,vs,t,e1,e2,r⟩:=a3;exact⟨v,l,vs,t,e1,Kw _ e2,r⟩
  have c4:gk X.prog X.w (upd (upd H P (.tbl (G++ #[rawInt pos.line,rawInt pos.col,.ref Z]))) Z (.ext (qh ql Z))) (h'.push (W.kla_obj "<lambda>" ql params body scope clos ((X.mg "__name__").getD .none) Z Y)):=by
   intro a o e;by_cases za:a=Z
   ·subst za;rw[aN]at e;cases e;refine⟨N,?_,?_⟩
    ·obtain⟨v,l,vs,t,e1,e2,_⟩:=N;cases e1;exact⟨l,e2⟩
    ·rintro h1 h2 ⟨v,l,vs,t,e1,e2,r⟩ k;cases e1;exact⟨a,l,vs,t,rfl,k _ e2,r⟩
   ·rw[aE za]at e;by_cases zP:a=P
    ·subst zP;rw[aN]at e;cases e;exact a5
    ·rw[aE zP]at e;refine(I.hok a o e).stay (fun b u S q=>R b u ?_ q) (fun b q=>old b _ q (fun z=>by rw[z,O]at q;cases q)) fun b xs q=>old b _ q (fun z=>by rw[z,O]at q;cases q)
     rintro rfl;rcases S with S|S
     ·exact zP S.symm
     ·rw[O]at S;cases S
  refine h _ Z Y _ _ _ (I.un (t':=tk) un c4) (KP J (Mm F)) (KG _ rfl) ?_ aN (fun a o e n=>old a o e (fun z=>by rw[z,O]at e;cases e;exact n _ rfl)) (fun a n z=>?_) fun y hy d P' e=>?_
  ·have:H h'.objs.size=none:=I.hok.fresh (KP J (Mm F));rw[aE (Ne.symm (KL F)),aE (U _ this)];exact this
  ·by_cases za:a=Z
   ·rw[za];exact J
   ·rw[aE za,aE (U a n)]at z;exact absurd n z
  ·by_cases zP:P'=P
   ·subst zP;obtain rfl:y=x:=TI y hy x hx d c P' e ht;refine⟨_,by rw[aE cP,aN],?_,fun p cv q=>?_⟩
    ·have:=TriplesOk_snoc pos.line pos.col (.ref Z) G.toList hT;simpa using this
    ·have q':codeAmong p (G.toList++[rawInt pos.line,rawInt pos.col,.ref Z])=some cv:=by simpa using q
     rcases wm _ hT q' with q2|q2
     ·obtain⟨v,e1,e2⟩:=hA p cv q2;exact⟨v,e1,old _ _ e2 (fun z=>by rw[z,O]at e2;cases e2)⟩
     ·exact⟨Z,q2,by rw[<-m];exact aN⟩
   ·obtain⟨qs,g1,g2,g3⟩:=T y hy d P' e;exact⟨qs,old _ _ g1 zP,g2,fun p cv q=>let ⟨v,e1,e2⟩:=g3 p cv q;⟨v,e1,old _ _ e2 (fun z=>by rw[z,O]at e2;cases e2)⟩⟩
end
def JQ(K:W.Frag)(ι:List Addr)(H:Hp)(x:D)(cls:Value)(od:Option Addr):Prop:=
 ∃ n ds C,x= .exc n ds/\W.nsIn K mainGlobals n=some (some (.ref C))/\cls= .ref C/\
  ((od=none/\ds=[])\/∃ dx fs,od=some dx/\H dx=some (.xd fs)/\fs.map (·.1)=([("many":Str),("most":Str)]:List Str)/\RelDs K ι H ds (fs.map (·.2)))
def uB(K:W.Frag)(Ek:XK):XD:=fun x ι _ H=>∀ cls od,JQ K ι H x cls od->Ek cls od H
def Bg(K:W.Frag)(F:List D->M D):Sp:=fun vs H Q Ek=>∃ ι S ds,Rep K ι H S/\RelDs K ι H ds vs/\cont K (uB K Ek) (F ds) ι S H (kH K Q)
theorem Bh{K:W.Frag}{E X:XD}{U:Type}{c:M U}{ι:List Addr}{S:aB}{H:Hp}{Q:U->List Addr->aB->Hp->Prop}(h:cont K E c ι S H Q)(k:∀ x ι' Z H',E x ι' Z H'->X x ι' Z H'):cont K X c ι S H Q:=by
 obtain⟨r,Z,e,q⟩:=h;refine⟨r,Z,e,fun Y R T rep1=>?_⟩;have:=q Y R T rep1;cases r with
 |ok a=>exact this
 |ex x=>exact k x _ _ _ this
def uC{α:Type}(c:M α):M α:=fun S=>match c S with
 |some (.ok a,S')=>some (.ok a,S')
 |_=>none
theorem yY{K:W.Frag}{E:XD}{Z:Type}{c:M Z}{ι:List Addr}{S:aB}{H:Hp}{Q:Z->List Addr->aB->Hp->Prop}(h:cont K E (uC c) ι S H Q):cont K cA c ι S H Q:=by
 obtain⟨r,X,e,q⟩:=h;unfold uC at e;cases z:c S with
 |none=>rw[z]at e;cases e
 |some p=>
  obtain⟨Y,S1⟩:=p;rw[z]at e;cases Y with
  |ok a=>cases e;exact⟨_,_,z,q⟩
  |ex x=>cases e
section
variable {X:Cx}{E:XD}
theorem uD{Z:List Stmt}{m:cW}(h:ua X cA Z m):ua X E Z (fun ρ=>uC (m ρ)):=qb.imp h fun _ _ _ ⟨ι,S,ρ,rep,re,c⟩=>⟨ι,S,ρ,rep,re,yY c⟩
theorem sP{Z:List Stmt}{m:cW}(h:ua X.nox cA Z m):ua X cA Z m:=qb.nox h
end
structure Leaves(X:Cx)(Ek:XK):Prop where
 st:X.stack=X.env::X.outer
 fm:X.env.frame=some X.env.locals
 ex:X.ex=[]
 xe:∀ e s',wpAny (model X.prog X.w) X.A (leaving X.env e) (fun _ s''=>ky X.prog X.w X.outer X.H₀ X.s₀ Ek e s'') (fun e' s''=>ky X.prog X.w X.outer X.H₀ X.s₀ Ek e' s'') s'->X.xe e s'
 ow:PassesOwn (model X.prog X.w) X.A X.env X.xe
section
variable {X:Cx}{Ek:XK}
theorem Leaves.pass(L:Leaves X Ek):n8 (ky X.prog X.w) X Ek:=by
 rintro pins σ H s x s' I ⟨e,T,C,od,H',rfl,os,bare,un,hok,F,ne,nT,le,lT,hE⟩;have U:L2.Inv X pins σ H' s':=I.call' (ch:=[]) os un hok bare (fun b z=>absurd z (by simp))
 refine L.xe _ _ (wk (base:=X.base) (outer:=X.outer) (by rw[U.ok.frames,L.st]) (by rw[<-L.st];exact U.stack) L.fm F fun h' P Q l st=>?_)
 rw[<-L.st]at st;have Y:gk X.prog X.w H' h':=gk.fly hok st ne nT U.stkFree;have S:Un (jG X.stack) [] H H' s.heap h':=Un.fly un st le lT;have W:L2.Inv X pins σ H' {s' with heap:=h'}:=I.call' (s':={s' with heap:=h'}) (ch:=[]) os S Y bare (fun b z=>absurd z (by simp))
 have R:=W.base;have h0:=I.base;have Z:=U.base;rw[L.ex]at R h0 Z;exact⟨e,P,C,od,H',rfl,W.os,W.bare,R,W.hok,Q,ne,hok.fresh l,Un.gone h0 (by simp) le,Un.gone Z (by simp) (LF l),hE⟩
theorem Leaves.new{H:Hp}(L:Leaves X Ek)
  (I:L2.Inv X pins σ H s') (N:s'.heap.get? e=some oe) (K:oe.cls= .ref C) (G:oe.dict=od) (B:oe.data= .fields vs) (E:vs[1]? =some .none) (P:H e=none) (hs:X.s₀.heap.get? e=none) (O:Ek (.ref C) od H):X.xe (.ref e) s':=by
 refine L.xe _ _ (uz (base:=X.base) (outer:=X.outer) (by rw[I.ok.frames,L.st]) (by rw[<-L.st];exact I.stack) L.fm N K G B E fun h' F J l st=>?_)
 have R:∀ b∈jG (X.env::X.outer),H b=none:=by rw[<-L.st];exact I.stkFree
 have U:gk X.prog X.w H h':=gk.fly I.hok st P P R;have Z:=I.base;rw[L.ex]at Z;have S:∀ b o,X.s₀.heap.get? b=some o->b ∉ jG X.outer->b ∉ jG (X.env::X.outer):=fun b o q n z=>by
  rw[uA X.outer X.env.locals _ L.fm]at z;rcases K2.mp z with z|z
  ·exact absurd (KF q) (by rw[z];exact OM.mpr I.ok.above)
  ·exact n z
 have ne:∀ b o,X.s₀.heap.get? b=some o->b≠e:=fun b o q=>gI q hs;refine⟨e,F,C,od,H,rfl,I.os,I.bare,⟨fun b o q n hf W=>?_,fun b o q n hf W=>?_,Z.free,fun b o q W=>?_,Z.tups,Z.frzs,Z.tbls⟩,U,J,P,I.hok.fresh l,hs,Un.gone Z (by simp) (LF l),O⟩
 ·exact st.keep b o (Z.keep b o q n hf W) (ne b o q) (ne b o q) (S b o q hf)
 ·obtain⟨A,T⟩:=Z.slot b o q n hf W;obtain⟨Y,Q⟩:=st.slot b _ T (ne b o q) (ne b o q);exact⟨Y,Q⟩
 ·obtain⟨y,T⟩:=Z.there b o q W;obtain⟨Y,Q⟩:=st.slot b _ T (ne b o q) (ne b o q);exact⟨_,Q⟩
theorem cT{P:Program}{w:World}{K:W.Frag}{Y:Str->Option Value}{base:Heap}{N:List Str}{qual:Str}{scope:Scope}{f:Addr}{Z:Value}{A:Around}{outer:List Env}{s₀:Shared}{H₀:Hp}:
  Leaves (jC (ky P w) P w K Y base N qual scope f Z A outer s₀ H₀ Ek) Ek:=⟨rfl,rfl,rfl,fun _ _ h=>h,PassesOwn.leaving⟩
end
structure DefX(P:Program)(w:World)(K:W.Frag)(mg:Str->Option Value)(base:Heap)(k:Nat)(x:Str)(ps:List Str)(F:List D->M D):Prop where
 ex:∃ f fd,FnOk P w K mg base (ky P w) k f fd ps (Bg K F)/\mg x=some (.ref f)/\W.keepIn K (.ref f)=true/\Binds K fd ps []
section
variable {P:Program}{w:World}{K:W.Frag}{mg:Str->Option Value}{base:Heap}
theorem Ga{x qual:Str}{U:Stmt}{f:Addr}{I:FuncData}{N X:List Str}{k:Nat}{m:cW}(F:Fun K x qual U f I)(B:FnScope N X (aq U))
  (R:∀(Z:Value) (A:Around) (outer:List Env) (s:Shared) (H:Hp) (Y:XK),Room k (A.deeper (envOfC qual (aq U) s.heap.objs.size f Z))->W.codeIn K Z qual=true->(∃ J od T kV doc pm an ct,K.lookup f=some ⟨J,od,.func (W.fnOf x qual (iq U) (dw U) (aq U) .none kV doc pm an Z ct),T⟩)->
   ua (jC (ky P w) P w K mg base N qual (aq U) f Z A outer s H Y) (uB K Y) (dw U) m):FnOk P w K mg base (ky P w) (k+1) f I X (Bg K (nI N.length X.length m)):=by
 have key:∀{vs:List V} {H:Hp} {Q:VK} {Y:XK},Bg K (nI N.length X.length m) vs H Q Y->vs.length=X.length/\∃ ι S ds,Rep K ι H S/\RelDs K ι H ds vs/\cont K (uB K Y) (do let o<-m (ds.map some++List.replicate (N.length - X.length) none);outD o) ι S H (kH K Q):=by
  rintro vs H Q Y ⟨ι,S,ds,rep,r,c⟩;unfold nI at c;by_cases O:ds.length=X.length
  ·rw[if_pos O]at c;exact⟨by rw[<-r.length];exact O,ι,S,ds,rep,r,c⟩
  ·rw[if_neg O]at c;exact(ag c).elim
 obtain⟨J,od,kV,doc,pm,an,Z,ct,T,rfl,G,L⟩:=F.ex;refine Ag G L B (fun vs H Q Y h=>(key h).1) fun A outer s H vs Q Y E h=>⟨_,R Z A outer s H Y E L ⟨J,od,T,kV,doc,pm,an,ct,G⟩,?_⟩;obtain⟨O,ι,S,ds,rep,r,c⟩:=key h;refine⟨ι,S,_,rep,?_,ak (ai c) fun o C S1 y e1 rep1 c1=>?_⟩
 ·have:=RelE.start r (N.length - X.length);unfold L2.start;rw[O];exact this
 ·cases o with
  |nx ρ=>exact fun z _=>ah c1 .refl rep1 _ .non
  |ret d=>exact ah c1 .refl rep1
  |bk ρ=>exact(ag c1).elim
  |ct ρ=>exact(ag c1).elim
end
section
variable {X:Cx}{Ek:XK}{e:Expr}{es:List Expr}{pos:Pos}{ms:aO->M (List D)}
theorem d5(d:DefX X.prog X.w X.K X.mg X.base k x ps F)(P:Room k X.A)(N:n8 (ky X.prog X.w) X Ek)(T:SA X (uB X.K Ek) (e::es) ms)(O:Gl X x:=by rfl)
  (Y:(x==("__debug__":Str))=false:=by decide) (U:starEach (e::es) X.env=(false,eval e X.env)::starEach es X.env:=by rfl) (Z:(backTo pos (starEach es X.env)).any (·.1)=false:=by rfl):
  SE X (uB X.K Ek) (.Call (.Name x p) (e::es) [] pos) (aA F ms):=by
 obtain⟨f,fd,G,hm,R,I⟩:=d.ex;refine PE.imp (rO G P O hm R I (.nil) (E:=Ek) N T Y U Z) fun σ H Q h=>?_;obtain⟨ι,S,ρ,rep,re,c⟩:=h;refine⟨ι,S,ρ,rep,re,ak (ai c) fun ds W S1 L e1 rep1 c1 vs J=>?_⟩;show Bg X.K F (vs++[]) L Q Ek;rw[Lg];exact⟨W,S1,ds,rep1,J,c1⟩
theorem aP(d:DefX X.prog X.w X.K X.mg X.base k x ps F)(P:Room k X.A)(T:SA X cA (e::es) ms)(O:Gl X x:=by rfl)
  (Y:(x==("__debug__":Str))=false:=by decide) (U:starEach (e::es) X.env=(false,eval e X.env)::starEach es X.env:=by rfl) (Z:(backTo pos (starEach es X.env)).any (·.1)=false:=by rfl):
  SE X cA (.Call (.Name x p) (e::es) [] pos) (aA F ms):=by
 obtain⟨f,fd,G,hm,R,J⟩:=d.ex;refine PE.imp (rO G P O hm R J (.nil) (E:=E0) qY T Y U Z) fun σ H Q h=>?_;obtain⟨ι,S,ρ,rep,re,c⟩:=h;refine⟨ι,S,ρ,rep,re,ak (ai c) fun ds W S1 N e1 rep1 c1 vs L=>?_⟩;show Bg X.K F (vs++[]) N Q E0;rw[Lg];exact⟨W,S1,ds,rep1,L,Bh c1 fun _ _ _ _ z=>z.elim⟩
end
def aV:List Str:=["WebError","NoWeb","NoPlace","NoPlaces","NoMap","NoSharing","NoRoot","NoNumber","NotJoined","NoTie","NoText","NoLine","NoDeed","TooGreat"]
def bh(n y:Str):Bool:=n==y||y=="WebError"
abbrev G6:List Value:=[.type "ValueError",.type "Exception",.type "BaseException",.type "object"]
def Bi(K:W.Frag)(n:Str):Bool:=match W.nsIn K mainGlobals n with
 | some (some (.ref C))=>Bc K C && (n=="TooGreat"||W.excIn K C G6 "ValueError.__new__") && (W.kitOne K (.ref C) (.type "ValueError")==some true) && (W.kitOne K (.type "NoneType") (.ref C)==some false) &&
  aV.all (fun y=>match W.nsIn K mainGlobals y with
   |some (some (.ref D))=>W.kitOne K (.ref C) (.ref D)==some (bh n y) && W.exmOne K (.ref C) (.ref D)==some (bh n y)
   |_=>false)
 |_=>false
def fT(K:W.Frag):Bool:=aV.all (Bi K) && W.kitOne K (.type "NoneType") (.type "ValueError")==some false
structure ErrAt(K:W.Frag)(n:Str)(C:Addr):Prop where
 ns:W.nsIn K mainGlobals n=some (some (.ref C))
 ck:ExcC K C
 pl:n="TooGreat"\/W.excIn K C G6 "ValueError.__new__"=true
 ve:W.kitOne K (.ref C) (.type "ValueError")=some true
 nn:W.kitOne K (.type "NoneType") (.ref C)=some false
 sub:∀ y∈aV,∃ D,W.nsIn K mainGlobals y=some (some (.ref D))/\W.kitOne K (.ref C) (.ref D)=some (bh n y)/\W.exmOne K (.ref C) (.ref D)=some (bh n y)
theorem iJ{K:W.Frag}(h:fT K=true){n:Str}(U:n∈aV):∃ C,ErrAt K n C:=by
 unfold fT at h;rw[Mf]at h;have Z:=Lf.mp h.1 n U;unfold Bi at Z;split at Z
 ·next C e=>
  simp only[Bool.and_eq_true,Bool.or_eq_true,beq_iff_eq,List.all_eq_true]at Z;obtain⟨⟨⟨⟨a1,a2⟩,a3⟩,X⟩,T⟩:=Z;refine⟨C,e,.of a1,a2,a3,X,fun y Y=>?_⟩;have:=T y Y;split at this
  ·next D eD=>
   simp only[Bool.and_eq_true,beq_iff_eq]at this;exact⟨D,eD,this.1,this.2⟩
  ·cases this
 ·cases Z
theorem Gb{K:W.Frag}(h:fT K=true):W.kitOne K (.type "NoneType") (.type "ValueError")=some false:=by
 unfold fT at h;rw[Mf,ON]at h;exact h.2
theorem Dk{K:W.Frag}(X:K.In h)(q:W.excIn K C G6 "ValueError.__new__"=true):∃ bm N nm qn bs hdct sn sub ab col dd k0 k1 k2 k3 k5 mN,
  h.get? C=some (excClassObj nm qn C N bs bm hdct sn sub ab col dd k0 k1 k2 k3 k5 "ValueError.__new__")/\h.Ns N mN/\mN "__init__"=none/\OwnTail h G6 bm:=by
 unfold W.excIn at q;split at q
 case h_2=>cases q
 case h_1 dd cd T ho=>
 split at q
 case h_2=>cases q
 case h_1 C' bm k0 k1 k2 k3 n k5 hm hs=>
 simp only[Bool.and_eq_true,beq_iff_eq,Bool.not_eq_true']at q;obtain⟨⟨⟨⟨⟨R,en⟩,Z⟩,S⟩,Y⟩,U⟩:=q;subst R en;rcases cd with⟨nm,bs,mro,ns,qn,hd,sn,sub,ab,col,del⟩;dsimp only at hm Z Y U;subst hm Z;obtain rfl:T= #[k0,k1,k2,k3,some (.builtin "ValueError.__new__"),k5]:=by rcases T with⟨l⟩;simp only at hs;rw[hs]
 exact⟨bm,ns,nm,qn,bs,hd,sn,sub,ab,col,dd,k0,k1,k2,k3,k5,_,X _ _ ho,.of_isNs (W.isNs_of_in X Y),W.nsMap_none_of_in X Y U,W.tail_of_in X S⟩
section
variable {X:Cx}{Ek:XK}{E:XD}
theorem Bj(L:Leaves X Ek)(m:X.calm=true)(u:fT X.K=true)(j:x∈aV)(O:x≠"TooGreat")(l:SA X (uB X.K Ek) (e::es) ms)(g:Gl X x:=by rfl)
  (J:(x==("__debug__":Str))=false:=by decide) (y:starEach (e::es) X.env=(false,eval e X.env)::starEach es X.env:=by rfl) (B:(backTo cpos (starEach es X.env)).any (·.1)=false:=by rfl):
  SS X (uB X.K Ek) (.Raise (some (.Call (.Name x np) (e::es) [] cpos)) none pos) (fun ρ=>do let ds<-ms ρ;if ds.length<=lim then M.raise (.exc x [])else M.fail):=by
 intro pins s σ H T I h;obtain⟨ι,S,ρ,rep,re,c⟩:=h;obtain⟨C,P⟩:=iJ u j;have o:=P.pl.resolve_left O;have hm:X.mg x=some (.ref C):=KW I.mod.kin I.mod.glob P.ns;obtain⟨bm,N,nm,n,bs,hdct,sn,sub,ab,col,dd,k0,k1,k2,k3,k5,mN,d,i,Q,w⟩:=Dk I.mod.kin o;refine wpAny_Raise_call_subU (k5:=k5) (k3:=k3) (k2:=k2) (k1:=k1) (k0:=k0) (nm:=nm) (q:=n) (C:=C) (N:=N) (bm:=bm) (bs:=bs) (hdct:=hdct) (sn:=sn) (sub:=sub) (ab:=ab) (col:=col) (dd:=dd) Ml (by decide) Ml (mN:=mN) (w.hasType PySem.F.excBase_ValueError.hasBase) (I.ok.hd m) (by rw[y];show(false||(backTo cpos (starEach es X.env)).any (·.1))=false;rw[B];rfl) Q (j9 I g hm ⟨rfl,?_⟩ J)
 have Y:=l cpos pins s σ H _ I ⟨ι,S,ρ,rep,re,ak (ai c) fun ds Z S1 W e1 rep1 c1 vs G=>(⟨Z,S1,ds,rep1,G,c1⟩:∃ Z S1 ds,Rep X.K Z W S1/\RelDs X.K Z W ds vs/\cont X.K (uB X.K Ek) (if ds.length<=lim then M.raise (.exc x [])else M.fail) Z S1 W _)⟩;rw[y]at Y ⊢;refine NN (La Y (fun us s2 R=>?_) fun _ _ z=>z);obtain⟨vs,W,U,p,Z,S1,ds,rep1,G,c1⟩:=R;by_cases hl:ds.length<=lim
 ·rw[if_pos hl]at c1;refine⟨rfl,?_,U.bk _ _ d,i.keeps U.bk,w.keeps U.bk,fun h' ea hm=>?_⟩
  ·show us.length<=sizeLine;rw[<-p.length, <-G.length];exact KP hl gy
  ·obtain⟨t,f,a,b⟩:=hm.there;have v:L2.Inv X pins σ W {s2 with heap:=h'}:=U.kept (t':=s2.toks) hm.keeps;have A:=U.base;rw[L.ex]at A;obtain⟨r',S',r,k⟩:=c1;cases r;refine L.new v f rfl rfl rfl rfl (gk.gone U.hok hm.new) (Un.gone A (by simp) hm.new) (k Z W .refl rep1 _ _ ⟨x,[],C,rfl,P.ns,rfl,.inl ⟨rfl,rfl⟩⟩)
 ·rw[if_neg hl]at c1;exact(ag c1).elim
def uE(f:Str->Bool):D->M D
 | .exc n _=>if n∈aV then pure (.bl (f n))else M.fail
 | .non=>pure (.bl false)
 |_=>M.fail
theorem yZ(x:lr C a od h)(R:od=none\/∃ dx fs,od=some dx/\bj P w H h dx (.xd fs)):∃ ox odo,W.InstAt h a ox C odo:=by
 obtain⟨Y,vs,e,T,U,hf⟩:=x;have Z:W.notCls Y=true:=by unfold W.notCls;rw[hf]
 rcases R with rfl|⟨dx,fs,rfl,h2⟩
 ·exact⟨Y,none,e,T,Z,by rw[U];trivial⟩
 ·obtain⟨S,e2⟩:=bj.there h2;exact⟨Y,some S,e,T,Z,by rw[U];exact e2⟩
theorem Dl{Q:Value->Shared->Prop}(I:L2.Inv X pins σ H s)(r:RelD X.K ι H (.exc n ds) v)(Y:RelV v u)
  (U:fT X.K=true) (S:n∈aV) (T:∀ C,ErrAt X.K n C->W.kitOne X.K (.ref C) cv=some b) (h:∀ tk,Q (.bool b) {s with toks:=tk}):wpAny (model X.prog X.w) A (call (.builtin "isinstance") [u,cv]) Q Ex s:=by
 obtain⟨C,Z⟩:=iJ U S;have fin:∀{a C2:Addr} {od:Option Addr},W.nsIn X.K mainGlobals n=some (some (.ref C2))->v= .ref a->lr C2 a od s.heap->(od=none\/∃ dx fs,od=some dx/\bj X.prog X.w H s.heap dx (.xd fs))->wpAny (model X.prog X.w) A (call (.builtin "isinstance") [u,cv]) Q Ex s:=by
  rintro a C2 od e1 rfl ph hd;rw[Z.ns]at e1;cases e1;obtain rfl:u=Value.ref a:=Y;exact LB (Bd Z.ck) I.kIn (yZ ph hd) (T C Z) (fun z=>nomatch z) h
 cases r with
 |exc e1 e2=>exact fin e1 rfl (I.hok _ _ e2).1 (.inl rfl)
 |excF e1 e2 e3 e4 e5=>exact fin e1 rfl (I.hok _ _ e2).1 (.inr ⟨_,_,rfl,I.hok _ _ e3⟩)
theorem Bk{Q:Value->Shared->Prop}(I:L2.Inv X pins σ H s)(Z:W.kitOne X.K (.type "NoneType") cv=some false)(h:∀ tk,Q (.bool false) {s with toks:=tk}):
  wpAny (model X.prog X.w) A (call (.builtin "isinstance") [.none,cv]) Q Ex s:=LB Oc I.kIn True.intro Z (fun z=>nomatch z) h
theorem xx{q:Pos}{f:Str->Bool}(A:fT X.K=true)(B:X.mg "isinstance"=none)(J:SE X E e m)(P:PE X ec (tC vc))(O:∀ u,RelV vc u->u=cv)(w:W.kitOne X.K (.type "NoneType") cv=some false)
  (F:∀ n∈aV,∀ C,ErrAt X.K n C->W.kitOne X.K (.ref C) cv=some (f n)) (y:Gl X "isinstance":=by rfl)
  (hs:starEach [e,ec] X.env=[(false,eval e X.env),(false,eval ec X.env)]:=by rfl) (Z:starEach [ec] X.env=[(false,eval ec X.env)]:=by rfl):
  SE X E (.Call (.Name "isinstance" p) [e,ec] [] pos) (fun ρ=>do let x<-m ρ;uE f x):=by
 have Y:dF X (.builtin "isinstance") (fun xs H Q=>∃ x ι d,xs=[x,vc]/\RelD X.K ι H d x/\((d= .non/\Q (.bl false) H)\/∃ n ds,d= .exc n ds/\n∈aV/\Q (.bl (f n)) H)):=by
  intro pins s σ H xs us Q I r h;obtain⟨x,ι,d,rfl,N,G⟩:=h;obtain⟨u,o,rfl,L,U⟩:=vals2 r;cases O _ U;rcases G with⟨rfl,q⟩|⟨n,ds,rfl,hn',q⟩
  ·cases N.non_inv;cases (show u=Value.none from L);exact Bk I w fun R=>⟨.bl _,H,I.tok R,rfl,q⟩
  ·exact Dl I N L A hn' (fun C z=>F n hn' C z) fun R=>⟨.bl _,H,I.tok R,rfl,q⟩
 refine PE.imp (jK Y y B (by decide+kernel) (eV J (eV P jJ Z) (by rw[hs,Z])) (by decide) (by decide) (by rw[hs,Z]) (by rw[Z];rfl)) fun σ H Q h=>?_
 obtain⟨ι,S,ρ,rep,re,c⟩:=h;refine⟨ι,S,ρ,rep,re,ak (ai c) fun x T S1 t e1 rep1 c1 v r=>?_⟩;refine⟨v,T,x,rfl,r,?_⟩;cases x with
 |non=>exact .inl ⟨rfl,ah c1 .refl rep1 _ (.bl _)⟩
 | exc n ds=>
  dsimp only[uE]at c1;by_cases hn':n∈aV
  ·rw[if_pos hn']at c1;exact .inr ⟨n,ds,rfl,hn',ah c1 .refl rep1 _ (.bl _)⟩
  ·rw[if_neg hn']at c1;exact(ag c1).elim
 |_=>exact(ag c1).elim
theorem ez{m:TM}{e:Expr}{y:Str}{p q pos:Pos}(T:fT X.K=true)(S:y∈aV)(G:Mod X.K X.mg X.base)(R:X.mg "isinstance"=none)(Q:SE X E e m)(P:Gl X "isinstance":=by rfl)(U:Gl X y:=by rfl)(O:(y==("__debug__":Str))=false:=by decide)
  (hs:starEach [e,.Name y q] X.env=[(false,eval e X.env),(false,eval (.Name y q) X.env)]:=by rfl) (Z:starEach [.Name y q] X.env=[(false,eval (.Name y q) X.env)]:=by rfl):
  SE X E (.Call (.Name "isinstance" p) [e,.Name y q] [] pos) (fun ρ=>do let x<-m ρ;uE (fun n=>bh n y) x):=by
 obtain⟨C,W⟩:=iJ T S;refine xx (q:=q) (vc:=.ref C) (cv:=.ref C) T R Q (wU U (KW G.kin G.glob W.ns) rfl O) (fun u z=>z) W.nn (fun n L N Y=>?_) P hs Z;obtain⟨J,e1,e2,_⟩:=Y.sub y S;rw[W.ns]at e1;cases e1;exact e2
theorem Dm(T:fT X.K=true)(S:X.mg "isinstance"=none)(U:X.mg "ValueError"=none)(R:SE X E e m)(Q:Gl X "isinstance":=by rfl)(Z:Gl X "ValueError":=by rfl)
  (hs:starEach [e,.Name "ValueError" q] X.env=[(false,eval e X.env),(false,eval (.Name "ValueError" q) X.env)]:=by rfl) (Y:starEach [.Name "ValueError" q] X.env=[(false,eval (.Name "ValueError" q) X.env)]:=by rfl):
  SE X E (.Call (.Name "isinstance" p) [e,.Name "ValueError" q] [] pos) (fun ρ=>do let x<-m ρ;uE (fun _=>true) x):=
 xx (q:=q) (vc:=.ty "ValueError") (cv:=.type "ValueError") T S R (nF Z U (by decide+kernel) rfl) (fun u z=>z) (Gb T) (fun n P O W=>W.ve) Q hs Y
end
abbrev jS(ql:Str)(scope:Scope)(f c':Addr)(cl:List (Str×Addr))(s:Shared):Env:=W.envX ql scope s.heap.objs.size f (.ref c') cl
def uF(P:Program)(w:World)(K:W.Frag)(mg:Str->Option Value)(base:Heap)(N:List Str)(ql:Str)(scope:Scope)(f c':Addr)(cl:List (Str×Addr))(A:Around)(outer:List Env)(s:Shared)(H:Hp)(Ek:XK):Cx where
 prog:=P
 w:=w
 K:=K
 mg:=mg
 base:=base
 A:=A.deeper (jS ql scope f c' cl s)
 N:=N
 s₀:=s
 H₀:=H
 env:=jS ql scope f c' cl s
 outer:=outer
 stack:=jS ql scope f c' cl s::outer
 ex:=[]
 calm:=true
 fn:=fun _=>false
 pn:=[]
 xe:=fun e s'=>wpAny (model P w) (A.deeper (jS ql scope f c' cl s)) (leaving (jS ql scope f c' cl s) e) (fun _ s''=>ky P w outer H s Ek e s'') (fun e' s''=>ky P w outer H s Ek e' s'') s'
section
variable {P:Program}{w:World}{K:W.Frag}{mg:Str->Option Value}{base:Heap}{N:List Str}{ql:Str}{scope:Scope}{f c':Addr}{cl:List (Str×Addr)}{params:Arguments}{body:Expr}{pm ctv:Value}
theorem jk:Leaves (uF P w K mg base N ql scope f c' cl A outer s H Ek) Ek:=⟨rfl,rfl,rfl,fun _ _ h=>h,PassesOwn.leaving⟩
structure Caps(base:Heap)(scope:Scope)(cl:List (Str×Addr))(N:List Str)(vs:List V):Prop where
 kind:scope.kind= .function
 nocell:∀ y∈scope.names,y.2≠ .cell
 co:scope.isCoroutine=false
 gen:scope.isGenerator=false
 inj:∀ x y c,cl.lookup x=some c->cl.lookup y=some c->x=y
 has:∀ x,scope.names.lookup x=some .free->∃ c,cl.lookup x=some c
 cell:∀ x c,cl.lookup x=some c->∃ v,base.IsCell c v
 len:vs.length=N.length
 val:∀(i:Nat) (x:Str) (v:V),N[i]? =some x->vs[i]? =some v->scope.names.lookup x=some .free/\∃ c u,cl.lookup x=some c/\RelV v u/\base.IsCell c (some u)
def Gc(K:W.Frag)(c':Addr)(ql:Str)(ds:List D)(vs:List V)(m:TM):Hp->VK->XK->Prop:=fun H Q Ek=>
 ∃ ι S,Rep K ι H S/\H c'=some (.ext (qh ql c'))/\RelDs K ι H ds vs/\cont K (uB K Ek) (m (ds.map some)) ι S H (kH K Q)
theorem gJ{h h':Heap}(x:h.IsCell c v)(k:∀ b o,h.get? b=some o->h'.get? b=some o):h'.IsCell c v:=let ⟨o,e,r⟩:=x;⟨o,k _ _ e,r⟩
theorem uG:∀{ds:List D} {vs:List V},RelDs K ι H ds vs->RelE K ι H (ds.map some) (vs.map some)
 |_,_,.nil=>.nil
 |_,_,.cons r t=>.cons (fun d z=>by cases z;exact⟨_,rfl,r⟩) (uG t)
theorem Gd(ho:base.get? f=some (W.kla_obj "<lambda>" ql params body scope cl pm c' ctv))(Y:Caps base scope cl N vs)
  (X:bindArgs (W.kla_fn "<lambda>" ql params body scope cl pm (.ref c') ctv) ⟨[],[]⟩=pure [])
  (U:∀(A:Around) (outer:List Env) (s:Shared) (H:Hp) (G:XK),Room k (A.deeper (jS ql scope f c' cl s))->SE (uF P w K mg base N ql scope f c' cl A outer s H G) (uB K G) body m):
  LamOk P w K mg base (k+1) f (Gc K c' ql ds vs m):=by
 refine⟨⟨_,_,ho,rfl⟩,fun A outer s H Q G n Z B=>?_⟩;obtain⟨ι,S,rep,g,rd,c⟩:=B;have bk:∀ b o,base.get? b=some o->s.heap.get? b=some o:=fun b o e=>(Z.bs b o e).1;have d:s.heap.CodeRec (.ref c') ql:=(Z.hok _ _ g).1;refine W.kla_callFunE n.depth (bk _ _ ho) rfl Y.co Y.gen rfl d ?_;rw[X];refine Ky (wpAny_newFunctionEnv Y.nocell (fun y hy=>absurd hy (by simp)) (fun h1 h C=>?_) Y.kind)
 have R:∀ b o,s.heap.get? b=some o->h1.get? b=some o:=fun b o e=>(C.2 b (KL (KF e))).trans (Kw _ e);refine⟨(Z.mod.nolimit.keeps bk).keeps R,?_⟩;show codeAny _ _ (.expr body (jS ql scope f c' cl s)) _ _;refine W.kla_codeExpr ?_;have T:∀ b:Addr,b ∉ ([]:List Addr):=fun b z=>by cases z
 have t:∀ x,scope.names.lookup x≠some .cell:=fun x e=>Y.nocell _ (bx e) rfl;have I:L2.Inv (uF P w K mg base N ql scope f c' cl A outer s H G) [] (vs.map some) H {s with heap:=h1,toks:=s.toks+0}:=
  ⟨⟨Z.mod,Y.kind,rfl,rfl,Kz _,Y.inj,(fun x O=>by
    rcases O with O|O
    ·exact absurd O (t x)
    ·exact Y.has x O),(fun _ _ z=>Bool.noConfusion z),fun _=>n.hd,Around.frames_deeper Z.frames,.inr ⟨rfl,rfl⟩,fun b z=>absurd z (T b),Z.bs,Z.bsz,fun b _ _=>T b,fun b z=>absurd z (T b),Z.funs,Z.frf⟩,
   rfl,Z.bare,Un.kept R,⟨_,h,fun i x v l L h3=>(by
    have j:vs[i]? =some v:=by
     rw[K1]at L;cases q:vs[i]? with
     |none=>rw[q]at L;cases L
     |some a=>rw[q]at L;cases L;rfl
    obtain⟨hf,F,u,e1,e2,e3⟩:=Y.val i x v l j;exact⟨u,e2,.inr ⟨.inr hf,F,e1,gJ (gJ e3 bk) R⟩⟩)⟩,
   (fun x F e=>let ⟨v,z⟩:=Y.cell x F e;⟨v,gJ (gJ z bk) R⟩),Z.hok.fresh (Kz _),(fun x F e=>let ⟨v,o,z,_⟩:=Y.cell x F e;(Z.bs _ _ z).2),
   (fun p hp=>absurd hp (by simp[uF])),Z.hok.kept R,by rw[Kx];exact Y.len⟩
 refine La (U A outer s H G (n.deeper _) [] _ (vs.map some) H Q I ⟨ι,S,ds.map some,rep,uG rd,c⟩) (fun u s' E=>?_) fun e s' E=>E;obtain⟨v,H',J,r,q⟩:=E;exact⟨v,H',J.os,J.bare,J.base,J.hok,r,q⟩
end
theorem RelE.unset{K:W.Frag}{ι:List Addr}{H:Hp}:∀{ρ:S3.aO} {σ:L2.St} (i:Nat),RelE K ι H ρ σ->RelE K ι H (ρ.set i none) (σ.set i none)
 |_,_,_,.nil=>.nil
 |_,_,0,.cons _ t=>.cons (fun d' z=>by cases z) t
 |_,_,i+1,.cons q t=>.cons q (RelE.unset i t)
def Bl(jn jy:Nat)(c:M D)(ρ:S3.aO):M Out:=fun S=>match c S with
 |some (.ok _,S')=>some (.ok (.nx ρ),S')
 |some (.ex (.exc n ds),S')=>if n∈aV then some (.ok (.nx (((ρ.set jn (some (.exc n ds))).set jy (some (.exc n ds))).set jn none)),S')else none
 |_=>none
open Classical in
def uH(i jn jy:Nat)(f:D)(c:M D):cW:=fun ρ=>if ρ[i]? =some (some f)then Bl jn jy c ρ else M.fail
section
variable {X:Cx}{E:XD}{k i jn jy:Nat}{a c':Addr}{ql:Str}{ds:List D}{vs:List V}{m:TM}{x n y:Str}{p cpos epos np p1 p2 p3 hpos tpos:Pos}
theorem Ge(J:X.stack=X.env::X.outer)(s:X.env.frame=some X.env.locals)(L:LamOk X.prog X.w X.K X.mg X.base k a (Gc X.K c' ql ds vs m))(hr:Room k X.A)(hN:X.N.Nodup)(f:fT X.K=true)(G:Mod X.K X.mg X.base)(hi:X.N[i]? =some x)(hv:yf X.env.scope x)
  (B:X.N[jn]? =some n) (l:X.N[jy]? =some y) (o:X.env.scope.names.lookup n=some .local) (t:X.env.scope.names.lookup y=some .local) (hg:Gl X "WebError")
  (hd:(x==("__debug__":Str))=false:=by decide) (j:(x==("__classdict__":Str))=false:=by decide) (F:(n==("__debug__":Str))=false:=by decide) (R:(n==("__classdict__":Str))=false:=by decide)
  (I:swapsWith (.Call (.Name x p) [] [] cpos) none epos.line X.env=pure false:=by rfl) (P:swapsWith (.Name n p2) (some (.Name y p1)) p3.line X.env=pure false:=by rfl):
  SS X E (.Try [.Expr (.Call (.Name x p) [] [] cpos) epos] [.ExceptHandler (some (.Name "WebError" np)) (some n) [.Assign [.Name y p1] (.Name n p2) p3] hpos] [] [] tpos) (uH i jn jy (.fn a c' ql ds vs) (m (ds.map some))):=by
 obtain⟨CW,c⟩:=iJ f (show("WebError":Str)∈aV from .head _);refine PS.imp (qZ J s L hr hN hi hv B l o t hg (KW G.kin G.glob c.ns) hd j (by decide) F R I P) fun T σ H h=>?_
 obtain⟨ι,S,ρ,rep,re,r,S',e,q⟩:=h;have e:uH i jn jy (.fn a c' ql ds vs) (m (ds.map some)) ρ S=some (r,S'):=e;unfold uH at e;by_cases hρ:ρ[i]? =some (some (.fn a c' ql ds vs))
 case neg=>rw[if_neg hρ]at e;cases e
 rw[if_pos hρ]at e;unfold Bl at e;obtain⟨v,e1,rv⟩:=re.get hρ;cases rv with
 | fn hc' rds=>
  refine⟨e1,ι,S,rep,hc',rds,?_⟩;cases z:m (ds.map some) S with
  |none=>rw[z]at e;cases e
  | some pr=>
   obtain⟨r1,S1⟩:=pr;rw[z]at e;cases r1 with
   |ok d=>
    cases e;exact⟨_,_,z,fun Z Q U rep1 v' _=>q Z Q U rep1 σ (re.later rep U)⟩
   | ex xd=>
    cases xd with
    | exc nm es=>
     dsimp only at e;split at e
     case isFalse=>cases e
     case isTrue hnm=>
     cases e;refine⟨_,_,z,fun Z Q U rep1 cls od rx=>?_⟩;obtain⟨n2,a4,C,e2,Y,rfl,u⟩:=rx;cases e2;obtain⟨C2,b⟩:=iJ f hnm;have:=b.ns;rw[Y]at this;cases this;obtain⟨D2,f1,f2,f3⟩:=b.sub "WebError" (.head _);rw[c.ns]at f1;cases f1;refine⟨C,rfl,by rw[f3];simp[bh],fun O W=>?_⟩
     have xe:Ext Z Q Z (upd Q O (.ext (lr C O od))):=ef W;have g:RelD X.K Z (upd Q O (.ext (lr C O od))) (.exc nm es) (.ref O):=by
      rcases u with⟨rfl,rfl⟩|⟨dx,fs,rfl,g1,g2,g3⟩
      ·exact .exc Y aN
      ·exact .excF Y aN (by rw[aE (aK g1 W)];exact g1) g2 (g3.later rep1 xe)
     exact q Z _ (U.trans xe) (fw rep1 W) _ (RelE.unset jn ((((re.later rep U).later rep1 xe).set g jn).set g jy))
    |_=>cases e
end
def wo:List Nat->S3.aO->Option (List D)
 |[],_=>some []
 |j::r,ρ=>match ρ[j]? with
  |some (some d)=>(wo r ρ).map (d::·)
  |_=>none
theorem xA{K:W.Frag}{ι:List Addr}{H:Hp}{ρ:S3.aO}{Y:L2.St}(Z:RelE K ι H ρ Y):∀{js:List Nat} {ds:List D},wo js ρ=some ds->∃ vs,RelDs K ι H ds vs/\vs.length=js.length/\∀(i j:Nat) (v:V),js[i]? =some j->vs[i]? =some v->Y[j]? =some (some v)
 |[],ds,e=>by
  cases e;exact⟨[],.nil,rfl,fun i j v h=>by simp at h⟩
 | j ::r,ds,e=>by
  unfold wo at e;cases q:ρ[j]? with
  |none=>rw[q]at e;cases e
  | some o=>
   cases o with
   |none=>rw[q]at e;cases e
   | some d=>
    rw[q]at e;cases q2:wo r ρ with
    |none=>rw[q2]at e;cases e
    |some es=>
     rw[q2]at e;cases e;obtain⟨v,S,X⟩:=Z.get q;obtain⟨vs,g1,g2,g3⟩:=xA Z q2;refine⟨v::vs,.cons X g1,by simp[g2],fun i U T e1 e2=>?_⟩
     cases i with
     |zero=>simp at e1 e2;subst e1 e2;exact S
     |succ i=>exact g3 i U T (by simpa using e1) (by simpa using e2)
structure LamScope(X:Cx)(scope:Scope)(N3:List Str)(js:List Nat):Prop where
 kind:scope.kind= .function
 nocell:∀ y∈scope.names,y.2≠ .cell
 co:scope.isCoroutine=false
 gen:scope.isGenerator=false
 free:∀ y∈scope.names,y.2= .free->X.env.kindOf y.1=some .cell\/X.env.kindOf y.1=some .free
 len:js.length=N3.length
 ix:∀(i:Nat) (x:Str) (j:Nat),N3[i]? =some x->js[i]? =some j->X.N[j]? =some x/\scope.names.lookup x=some .free
def Ij(fs:Scope)(N:List Str)(scope:Scope)(N3:List Str)(js:List Nat):Bool:=
 (scope.kind== .function) && scope.names.all (fun y=>y.2 != .cell) && !scope.isCoroutine && !scope.isGenerator &&
  scope.names.all (fun y=>y.2 != .free||(fs.names.lookup y.1==some .cell||fs.names.lookup y.1==some .free)) && (js.length==N3.length) &&
  (N3.zip js).all (fun p=>N[p.2]? ==some p.1 && scope.names.lookup p.1==some .free)
theorem Dn{X:Cx}(fs:Scope)(N:List Str)(Z:∀ x,X.env.kindOf x=fs.names.lookup x)(O:X.N=N)(h:Ij fs N scope N3 js=true):LamScope X scope N3 js:=by
 unfold Ij at h;simp only[Bool.and_eq_true,List.all_eq_true,beq_iff_eq,bne_iff_ne,Bool.or_eq_true,Bool.not_eq_true']at h;obtain⟨⟨⟨⟨⟨⟨Q,W⟩,L⟩,U⟩,T⟩,Y⟩,P⟩:=h;refine⟨Q,W,L,U,fun y S e=>?_,Y,fun i x j e1 e2=>?_⟩
 ·rw[Z];exact(T y S).resolve_left fun z=>z e
 ·have R:(N3.zip js)[i]? =some (x,j):=M1.mpr ⟨e1,e2⟩;have:=P _ (Le R);rw[O];exact this
def xB(K:W.Frag)(R:D->M D->List D->M D)(a c':Addr)(ql:Str)(ds:List D)(vs:List V)(m:TM):Sp:=fun us H Q _=>
 ∃ ι S rest es,us= .ref a::rest/\Rep K ι H S/\H c'=some (.ext (qh ql c'))/\RelDs K ι H ds vs/\RelDs K ι H es rest/\cont K cA (R (.fn a c' ql ds vs) (m (ds.map some)) es) ι S H (kH K Q)
structure RefX(P:Program)(w:World)(K:W.Frag)(mg:Str->Option Value)(k k0:Nat)(x:Str)(ps:List Str)(R:D->M D->List D->M D):Prop where
 ex:∃ fr fd,mg x=some (.ref fr)/\W.keepIn K (.ref fr)=true/\Binds K fd ps []/\∀ base,Mod K mg base->∀ a c' ql ds vs m,LamOk P w K mg base k0 a (Gc K c' ql ds vs m)->FnOk P w K mg base (ky P w) k fr fd ps (xB K R a c' ql ds vs m)
abbrev qt(js:List Nat)(ms:aO->M (List D))(m:TM)(R:M D->List D->M D):TM:=fun ρ=>match wo js ρ with
 |some ds=>(do let es<-ms ρ;R (m (ds.map some)) es)
 |none=>M.fail
theorem kC{h Z:Heap}:∀{l:List Env},h.FunFrames base l->(∀ b∈jG l,Z.get? b=none)->h.FunFrames Z l
 |[],_,_=>trivial
 |env::rest,⟨hk,⟨L,o,hf,_,ho,hd⟩,hr⟩,hn=>by
  rw[uA rest L env hf]at hn;exact⟨hk,⟨L,o,hf,hn L (.head _),ho,hd⟩,kC hr fun b Y=>hn b (.tail _ Y)⟩
abbrev jT(X:Cx)(H:Hp)(h:Heap):Heap:=W.hideAll (kq h H) (jG X.stack)
theorem kP{X:Cx}{H:Hp}{h:Heap}(e:h.get? b=some o)(n:H b=none)(Z:b ∉ jG X.stack):(jT X H h).get? b=some o:=W.hideAll_get _ (kZ e n) Z
section
variable {X:Cx}{pins:List (Addr×Obj)}{σ:L2.St}{H:Hp}{s:Shared}
theorem lL(I:L2.Inv X pins σ H s):∀ b o,X.base.get? b=some o->(jT X H s.heap).get? b=some o:=fun b o e=>by
 obtain⟨Y,Z⟩:=I.bs b o e;refine kP Y Z fun z=>?_;have:=(I.stack.mem z).1;rw[e]at this;cases this
theorem iK(I:L2.Inv X pins σ H s):Mod X.K X.mg (jT X H s.heap):=
 ⟨I.mod.kin.keeps (lL I),I.mod.glob.keeps (lL I),let ⟨mb,h1,h2⟩:=I.mod.blt;⟨mb,h1.keeps (lL I),h2⟩,I.mod.nolimit.keeps (lL I)⟩
theorem Do(I:L2.Inv X pins σ H s):L2.aO X.prog X.w X.K X.mg (jT X H s.heap) X.A X.stack s H:=
 ⟨I.ok.frames,iK I,fun b o e=>rL (W.of_hideAll _ e),by rw[W.hideAll_size,l8];exact Kz _,kC I.stack fun b Z=>W.hideAll_none _ Z,I.stkFree,I.hok,I.bare⟩
theorem xC(I:L2.Inv X pins σ H s)(Z:∀ x,X.fn x=true)(e:X.env.cells.lookup x=some c)(h:s.heap.IsCell c v):(jT X H s.heap).IsCell c v:=by
 obtain⟨o,W,Y⟩:=h;refine⟨o,kP W (I.freeC x c e) fun z=>?_,Y⟩;rcases K2.mp (I.stkSub c z)with z|z
 ·exact I.cne x c e z
 ·obtain⟨_,U,q,_⟩:=I.ok.funs.mem z;exact absurd (KF q) (OM.mpr (I.ok.cab x c (Z x) e))
end
section
variable {X:Cx}{x xl ql:Str}{k k0:Nat}{ps N3:List Str}{js:List Nat}{R:D->M D->List D->M D}{R':M D->List D->M D}{params:Arguments}{body:Expr}{scope:Scope}{lpos p pos:Pos}{es:List Expr}{ms:aO->M (List D)}{m:TM}{c P:Addr}
theorem sQ(d:RefX X.prog X.w X.K X.mg k (k0+1) x ps R)(hR:∀ f c es,R f c es=R' c es)(hr:Room k X.A)(b2:∀ x,X.fn x=true)(d2:xl∈cC)(ht:W.tabIn X.K xl=some (c,P))(a3:X.env.code= .ref c)(hq:X.env.qual++"<lambda>"=ql)(c5:ql=xl++".<locals>.<lambda>")
  (B:BaseL X.K X.mg X.base) (TI:sO X.K) (a6:defaultsOf params X.env=([],[])) (l:LamScope X scope N3 js) (ha:SA X cA es ms)
  (a0:∀(T:Addr) (cl:List (Str×Addr)) (pm C:Value),bindArgs (W.kla_fn "<lambda>" ql params body scope cl pm (.ref T) C) ⟨[],[]⟩=pure [])
  (b0:∀(base:Heap),Mod X.K X.mg base->∀(f T:Addr) (cl:List (Str×Addr)) (A:Around) (outer:List Env) (s:Shared) (H:Hp) (Ek:XK),Room k0 (A.deeper (jS ql scope f T cl s))->SE (uF X.prog X.w X.K X.mg base N3 ql scope f T cl A outer s H Ek) (uB X.K Ek) body m)
  (hg:Gl X x:=by rfl) (e4:(x==("__debug__":Str))=false:=by decide)
  (he:starEach (.Lambda params body scope lpos::es) X.env=(false,eval (.Lambda params body scope lpos) X.env)::starEach es X.env:=by rfl) (e7:(backTo pos (starEach es X.env)).any (·.1)=false:=by rfl):
  SE X cA (.Call (.Name x p) (.Lambda params body scope lpos::es) [] pos) (qt js ms m R'):=by
 intro pins s σ H Q I h;obtain⟨ι,S,ρ,rep,re,b⟩:=h;obtain⟨fr,fd,hm,hk,hb,F⟩:=d.ex;have b:cont X.K cA (qt js ms m R' ρ) ι S H (kH X.K Q):=b;unfold qt at b;cases hcap:wo js ρ with
 |none=>rw[hcap]at b;exact(ag b).elim
 |some ds=>
 rw[hcap]at b;dsimp only at b;obtain⟨vs,e3,b1,d3⟩:=xA re hcap;have g:∀ y∈scope.names,y.2= .free->∃ a,X.env.cells.lookup y.1=some a:=fun y hy e=>I.ok.has y.1 (l.free y hy e);refine MM (j9 I hg hm ?_ e4);refine W.callWith_K (h₀:=X.base) I.ok.mod.kin hk (spliced_more (F9 d2 ht a3 hq c5 B TI (i7 scope X.env g) a6 I rep.tab fun f T C pm H1 s1 I1 c1 f3 e0 b3 E g4 hT=>?_) he) he e7;have x1:Ext ι H ι H1:=⟨⟨[],by simp⟩,fun a o e n t=>⟨E a o e t,n⟩⟩
 have rep1:Rep X.K ι H1 S:=⟨rep.nd,rep.len,fun kk a xs e1 e2=>let ⟨ws,g1,g2⟩:=rep.get kk a xs e1 e2;⟨ws,E _ _ g1 (by intro _ z;cases z),g2.later rep x1⟩,hT⟩
 have f5:L2.Inv X ((f,W.kla_obj "<lambda>" ql params body scope (jM X.env.cells scope.names []) pm T C)::pins) σ H1 s1:=I1.pins_of fun q Y=>by
  rcases K2.mp Y with rfl|Y
  ·exact⟨f3,e0,Ne.symm (KL (KQ I.lt c1)),I.nofs c1,fun v z=>by cases z⟩
  ·exact I1.pin q (KZ _ Y)
 refine dN (ha pos _ s1 σ H1 (fun L O=>∃ U S2 N,Ext ι H1 U O/\Rep X.K U O S2/\RelDs X.K U O N L/\cont X.K cA (R' (m (ds.map some)) N) U S2 O (kH X.K Q)) f5 ⟨ι,S,ρ,rep1,re.later rep x1,ak (ai (fV b x1)) fun N U S2 O e2 rep2 c2 L r2=>⟨U,S2,N,e2,rep2,r2,c2⟩⟩) fun us s2 c6=>?_;obtain⟨L,O,a4,rv,U,S2,N,x2,rep2,r2,c2⟩:=c6;have J:L2.Inv X pins σ O s2:=a4.pins_of fun q Y=>a4.pin q (KZ _ (.tail _ Y));refine⟨J.kIn,?_⟩;show wpAny _ _ (call (.ref fr) (.ref f::us)) _ _ _;obtain⟨po,pn,pl,pf,_⟩:=a4.pin (f,_) (KZ _ (.head _));have e8:O T=some (.ext (qh ql T)):=(x2.oth T _ b3 (rep1.notIn b3 (by intro _ z;cases z)) (by intro _ z;cases z)).1
 have nf:f ∉ jG X.stack:=fun z=>by
  rcases K2.mp (J.stkSub f z)with z|z
  ·exact pl z
  ·exact pf z
 have d0:=rY (cells:=X.env.cells) scope.names [] g (fun _ z=>nomatch z);have Z:∀ y a,(jM X.env.cells scope.names []).lookup y=some a->X.env.cells.lookup y=some a:=fun y a e=>d0 _ (lookup_mem e);have cp:Caps (jT X O s2.heap) scope (jM X.env.cells scope.names []) N3 vs:=by
  refine⟨l.kind,l.nocell,l.co,l.gen,fun y z a e1 e2=>I.ok.inj y z a (Z y a e1) (Z z a e2),fun y e=>mem_lookup (jN scope.names [] (.inl (bx e))),fun y a e=>?_,by rw[b1];exact l.len,fun i y v e1 e2=>?_⟩
  ·obtain⟨v,z⟩:=J.cell y a (Z y a e);exact⟨v,xC J b2 (Z y a e) z⟩
  ·have c7:i<js.length:=by rw[<-b1];exact(KC.mp e2).1
   obtain⟨j,hj⟩:∃ j,js[i]? =some j:=⟨_,KB c7⟩;obtain⟨g1,g2⟩:=l.ix i y j e1 hj;have hv:=d3 i j v hj e2;have b4:=l.free (y,.free) (bx g2) rfl;have c0:yf X.env.scope y:=by
    rcases b4 with z|z
    ·exact .inr (.inl z)
    ·exact .inr (.inr z)
   obtain⟨mm,k2,hl⟩:=J.loc;obtain⟨u,ru,lk⟩:=hl j y v g1 hv c0;refine⟨g2,?_⟩;rcases lk with⟨z,_⟩|⟨_,a,ea,hca⟩
   ·have z':X.env.kindOf y=some .local:=z;rcases b4 with w'|w'
    ·have w2:X.env.kindOf y=some .cell:=w';rw[z']at w2;cases w2
    ·have w2:X.env.kindOf y=some .free:=w';rw[z']at w2;cases w2
   ·obtain⟨a2,b6⟩:=mem_lookup (jN (cells:=X.env.cells) scope.names [] (.inl (bx g2)));have:=Z y a2 b6;rw[ea]at this;cases this;exact⟨a,u,b6,ru,xC J b2 ea hca⟩
 have LO:LamOk X.prog X.w X.K X.mg (jT X O s2.heap) (k0+1) f (Gc X.K T ql ds vs m):=Gd (kP po pn nf) cp (a0 T _ pm C) fun A outer s H Ek e5=>b0 _ (iK J) f T _ A outer s H Ek e5;have G:=F (jT X O s2.heap) (iK J) f T ql ds vs m LO;have sp:xB X.K R f T ql ds vs m (.ref f::L) O Q E0:=⟨U,S2,L,N,rfl,rep2,e8,(e3.later rep x1).later rep1 x2,r2,by rw[hR];exact c2⟩
 have hlen:(Value.ref f::us).length=ps.length:=by
  have:=G.len _ _ _ _ sp;rw[<-this,KY,KY,rv.length]
 refine Nz (Mw (G.run X.A X.stack s2 O ⟨.ref f::us,[]⟩ (.ref f::us) (.ref f::L) Q E0 hr (Do J) (by have:=hb s2 (.ref f::us) J.kIn (by rw[Lg];exact hlen);rw[Lg]at this;exact this) (.cons rfl rv) sp) fun r s' Y=>?_)
 cases r with
 |error e=>obtain⟨_,_,_,_,_,_,_,_,_,_,_,_,_,_,_,z⟩:=Y;exact False.elim z
 |ok fl=>
  cases fl with
  |ret u=>exact J.after Y
  |next=>exact False.elim Y
  |brk=>exact False.elim Y
  |cont=>exact False.elim Y
end
def jU(K:W.Frag):List Addr:=cC.filterMap fun y=>(W.tabIn K y).map (·.2)
theorem y0{K:W.Frag}{y:Str}{c P:Addr}(Z:y∈cC)(e:W.tabIn K y=some (c,P)):P∈jU K:=Ma.mpr ⟨y,Z,by rw[e];rfl⟩
theorem uI{K:W.Frag}{P:Addr}(h:P∈jU K):∃ y c,y∈cC/\W.tabIn K y=some (c,P):=by
 obtain⟨y,Z,e⟩:=Ma.mp h;cases q:W.tabIn K y with
 |none=>rw[q]at e;cases e
 |some p=>rw[q]at e;cases e;exact⟨y,p.1,Z,q⟩
theorem Dp{K:W.Frag}{l:Str->Option Value}{sp:Sp}{Z:Shared}{vs:List Value}
  (KX:K.In Z.heap) (nt:W.noTabs K=true) (g:Z.heap.Ns mainGlobals mg) (hb:Z.heap.Ns builtinsNs l) (a0:∀ x:Str,x≠"__name__"->l x=bootBuiltins x) (E:Z.heap.NoLimit) (hg:Z.gens= #[])
  (a4:∃ bm J,mg "__builtins__"=some (.ref bm)/\bm≠builtinsNs/\Z.heap.get? bm=some J/\J.cls= .type "module"/\J.dict=some builtinsNs/\J.data= .plain)
  (U:∀ y∈cC,∀ c Q,W.tabIn K y=some (c,Q)->W.CodeHd Z.heap c Q/\Z.heap.get? Q=some (W.tabObj #[]))
  (I:Z.heap.get? a=some {cls:=.type "list",data:=.seq vs.toArray}) (hi:IntsAre vs ns) (hl:ns.length<=sizeLine) (hr:Room k callerA)
  (F:∀ base:Heap,Mod K mg base->BaseL K mg base->FnOk P w K mg base (ky P w) k fa fd [x] sp) (R:∀(s:Shared) (u:Value),BindsTo s fd ⟨[u],[]⟩ [(x,u)])
  (n:∀ H:Hp,TabsOk K H->Cs K H a (ns.map V.int)->sp [.ref a] H (fun v _=>v= .bl true) fun _ _ _=>False):
  codeAny (model P w) callerA (.call (.ref fa) ⟨[.ref a],[]⟩) (fun r s'=>r= .ok (.ret (.bool true))/\OldK Z.heap s'.heap/\s'.os=Z.os/\AllBare s'.gens) Z:=by
 have rv:=kc hi;have X:∀ Q∈jU K,Z.heap.get? Q=some (W.tabObj #[]):=fun Q hQ=>let ⟨y,c,N,e⟩:=uI hQ;(U y N c Q e).2;have aT:a ∉ jU K:=fun z=>by
  have:=X a z;rw[I]at this;cases this
 let H:Hp:=fun b=>if b∈jU K then some (.tbl #[])else if b=a/\K.lookup a=none then some (.frz {cls:=.type "list",data:=.seq vs.toArray} (.lst (ns.map V.int)))else none;have p:∀ b∈jU K,H b=some (.tbl #[]):=fun b z=>if_pos z;have G:∀ b,b ∉ jU K->H b=if b=a/\K.lookup a=none then some (.frz {cls:=.type "list",data:=.seq vs.toArray} (.lst (ns.map V.int)))else none:=fun b z=>if_neg z;have free:∀{b:Addr} {o:Obj},Z.heap.get? b=some o->o≠W.tabObj #[]->(o.cls≠ .type "list"\/K.lookup b=some o)->H b=none:=fun{b o} e n1 S=>by
  have z:b ∉ jU K:=fun z=>by
   have:=X b z;rw[e]at this;exact n1 (K6 this)
  rw[G b z,if_neg];rintro⟨rfl,kn⟩;rcases S with S|S
  ·rw[I]at e;cases e;exact S rfl
  ·rw[kn]at S;cases S
 have O:∀{b:Addr} {o:Obj},K.lookup b=some o->o≠W.tabObj #[]:=fun{b o} e z=>by
  have f:=Lf.mp nt (b,o) (W.mem_of_lookupK e);subst z;exact absurd (show false=true from f) Mb
 have C:gk P w H Z.heap:=fun b u e=>by
  by_cases z:b∈jU K
  ·rw[p b z]at e;cases e;exact X b z
  ·rw[G b z]at e;by_cases q:b=a/\K.lookup a=none
   ·rw[if_pos q]at e;cases e;obtain⟨rfl,_⟩:=q;exact⟨I,by rw[Kx];exact hl,vs,_,rv,I⟩
   ·rw[if_neg q]at e;cases e
 have Y:∀{b:Addr} {o:Obj},Z.heap.get? b=some o->o≠W.tabObj #[]->(o.cls≠ .type "list"\/K.lookup b=some o)->(kq Z.heap H).get? b=some o:=fun e n1 S=>kZ e (free e n1 S);have L:∀{b:Addr} {m:Str->Option Value},Z.heap.Ns b m->(kq Z.heap H).Ns b m:=fun{b m} ⟨o,es,ep,e,d,r⟩=>by
  have z:H b=none:=by
   by_cases zt:b∈jU K
   ·have:=X b zt;rw[e]at this;cases this;cases d
   ·rw[G b zt,if_neg];rintro⟨rfl,_⟩;rw[I]at e;cases e;cases d
  exact⟨o,es,ep,kZ e z,d,r⟩
 have i:K.In (kq Z.heap H):=fun b o e=>Y (KX b o e) (O e) (.inr e);have hM:Mod K mg (kq Z.heap H):=⟨i,L g,⟨l,L hb,a0⟩,let ⟨mc,h1,f⟩:=E;⟨mc,L h1,f⟩⟩;have hB:BaseL K mg (kq Z.heap H):=by
  refine⟨?_,fun y N c Q e=>?_⟩
  ·obtain⟨bm,J,b1,b2,b3,t,b5,b6⟩:=a4;exact⟨bm,J,b1,b2,Y b3 (fun z=>by rw[z]at t;cases t) (.inl (by rw[t];decide)),t,b5,b6⟩
  ·obtain⟨o,v2,file,tf,flags,tg,a5,text,tt,e1,A,r⟩:=(U y N c Q e).1;exact⟨o,v2,file,tf,flags,tg,a5,text,tt,Y e1 (fun z=>by rw[z]at A;cases A) (.inl (by rw[A];decide)),A,r⟩
 have e0:L2.aO P w K mg (kq Z.heap H) callerA [] Z H:=⟨rfl,hM,fun b o e=>rL e,Nb (l8 _ _),trivial,fun b hb=>absurd (show b∈([]:List Addr)from hb) (by simp),C,.of_eq hg⟩
 have j:TabsOk K H:=fun y N c Q e=>⟨#[],p Q (y0 N e),trivial,fun pos cv q=>by cases q⟩
 have B:Cs K H a (ns.map V.int):=by
  cases hk:K.lookup a with
  |some o=>
   have e:=KX a o hk;rw[I]at e;cases e;exact .inr ⟨_,vs.toArray,_,hk,rfl,rfl,rfl,by rw[KN,hi.length];exact hl,by simpa using rv⟩
  |none=>exact .inl ⟨_,by rw[G a aT,if_pos ⟨rfl,hk⟩]⟩
 refine Mw ((F _ hM hB).run callerA [] Z H ⟨[.ref a],[]⟩ [.ref a] [.ref a] _ _ hr e0 (R Z (.ref a)) (.cons rfl .nil) (n H j B)) fun r s' h=>?_;cases r with
 |error e=>obtain⟨_,_,_,_,_,_,_,_,_,_,_,_,_,_,_,z⟩:=h;exact False.elim z
 | ok fl=>
  cases fl with
  |next=>exact False.elim h
  |brk=>exact False.elim h
  |cont=>exact False.elim h
  | ret u=>
   obtain⟨v,H',os,bare,un,T,r',q⟩:=h;have q':v= .bl true:=q;subst q';obtain rfl:u=Value.bool true:=r';refine⟨rfl,⟨fun b o e=>?_,fun b o e=>un.there b o e (by simp)⟩,os,bare⟩
   by_cases zt:b∈jU K
   ·obtain⟨y,c,N,et⟩:=uI zt;obtain⟨hc,hP⟩:=U y N c b et;obtain⟨more,em⟩:=un.tbls b _ (p b zt);have o2:s'.heap.get? b=some {cls:=.none,data:=.fields (#[]++more)}:=T b _ em;rw[hP]at e;cases e;exact .inr (.inl ⟨(hc.tab hP).isCodeTable,rfl, #[],more,rfl,o2⟩)
   ·by_cases qa:b=a/\K.lookup a=none
    ·have z1:H b=some (.frz {cls:=.type "list",data:=.seq vs.toArray} (.lst (ns.map V.int))):=by rw[G b zt,if_pos qa]
     obtain⟨e2,_⟩:=T b _ (un.frzs b _ _ z1);obtain⟨e1,_⟩:=C b _ z1;rw[e]at e1;cases e1;exact .inl e2
    ·exact .inl (un.keep b o e (by rw[G b zt,if_neg qa]) (by intro z;exact absurd (show b∈([]:List Addr)from z) (by simp)) (by simp))
theorem Bm{l:W.OpenLaw}{YP:World->Heap->Prop}{d:DefRec}{K:Params->W.Frag}{sp:World->Sp}
  (p:l.most=some n) (N:n<=sizeLine) (O:d.params.defaults=[]) (E:Room k callerA)
  (z:∀(w:World) (h:Heap),YP w h->(K w.params).In h) (t:∀ w:World,W.noTabs (K w.params)=true)
  (X:∀(w:World) (h:Heap),YP w h->∀ y∈cC,∀ c Q,W.tabIn (K w.params) y=some (c,Q)->W.CodeHd h c Q/\h.get? Q=some (W.tabObj #[]))
  (F:∀(w:World) (Z:Str->Option Value) (S:Addr) (h:Heap),(K w.params).In h->h.Ns mainGlobals Z->Z d.name=some (.ref S)->
   ∃ fd:FuncData,(∀(s:Shared) (u:Value),BindsTo s fd ⟨[u],[]⟩ [(x,u)])/\
    ∀ base:Heap,Mod (K w.params) Z base->BaseL (K w.params) Z base->FnOk l.prog w (K w.params) Z base (ky l.prog w) k S fd [x] (sp w))
  (R:∀(w:World) (H:Hp) (a:Addr) (ns:List Int),ns.length<=n->TabsOk (K w.params) H->Cs (K w.params) H a (ns.map V.int)->sp w [.ref a] H (fun v _=>v= .bl true) fun _ _ _=>False):
  W.WalkO q loose XP YP l.row.toRowW d [] (fun f vs=>PySem.call f vs):=by
 refine Att.attach_call p O fun w s₀ L Z mb S o pm cd doc a vs ns G Y i hd m P U hints hlen r=>?_;have J:=z w _ Y;obtain⟨fd,j,A⟩:=F w Z S _ J G.T.g P;refine Dp J (t w) G.T.g G.T.b G.T.builtins G.T.nolimit r G.T.bmain (fun y C c Q e=>X w _ Y y C c Q e) U hints (KP hlen N) E A j fun H I B=>R w H a ns hlen I B
def Ik(K:W.Frag)(ts:List Addr):Bool:=cC.all fun y=>match W.tabIn K y with
 |some (c,Q)=>W.codeHdIn K c Q && ts.contains Q
 |none=>true
theorem JR{K:Params->W.Frag}{e:∀ P,as=(K P).map (·.1)}{w:World}(X:Ik (K w.params) ts=true)(Y:(W.kmHook K as e ts).says w h):
  ∀ y∈cC,∀ c Q,W.tabIn (K w.params) y=some (c,Q)->W.CodeHd h c Q/\h.get? Q=some (W.tabObj #[]):=fun y Z c Q U=>by
 have:=Lf.mp X y Z;rw[U]at this;simp only[Bool.and_eq_true]at this;exact⟨W.codeHd_of_K (W.km_in_of Y) this.1,W.km_tabs_of Y Q (List.contains_iff_mem.mp this.2)⟩
def Ep(K:W.Frag):Bool:=cC.all fun x=>cC.all fun y=>match W.tabIn K x,W.tabIn K y with
 |some (_,P),some (_,Q)=>P !=Q||x==y
 |_,_=>true
theorem Gf{K:W.Frag}(h:Ep K=true):sO K:=fun x Y y Z c d P e1 e2=>by
 have:=Lf.mp (Lf.mp h x Y) y Z;rw[e1,e2]at this;simpa using this
def kY(N n:Nat)(m:cW):List D->M D:=nI N n (fun ρ=>uC (m ρ))
section
variable {P:Program}{w:World}{K:W.Frag}{mg:Str->Option Value}{base:Heap}
theorem b9{x qual:Str}{X:Stmt}{f:Addr}{T:FuncData}{N U:List Str}{k:Nat}{m:cW}{S:List D->M D}(F:Fun K x qual X f T)(R:mg x=some (.ref f))(I:Binds K T U [])(J:FnScope N U (aq X))(Q:S=kY N.length U.length m)
  (Y:∀(Z:Value) (A:Around) (outer:List Env) (s:Shared) (H:Hp) (E:XK),Room k (A.deeper (envOfC qual (aq X) s.heap.objs.size f Z))->
   ua (jC (ky P w) P w K mg base N qual (aq X) f Z A outer s H E).nox cA (dw X) m):DefX P w K mg base (k+1) x U S:=
 ⟨f,T,by rw[Q];exact Ga F J fun Z A outer s H L O _ _=>uD (sP (Y Z A outer s H L O)),R,F.kp,I⟩
theorem nP{x qual:Str}{X:Stmt}{f:Addr}{T:FuncData}{N U:List Str}{k:Nat}{m:cW}{S:List D->M D}(F:Fun K x qual X f T)(R:mg x=some (.ref f))(I:Binds K T U [])(J:FnScope N U (aq X))(Q:S=nI N.length U.length m)
  (Y:∀(Z:Value) (A:Around) (outer:List Env) (s:Shared) (H:Hp) (E:XK),Room k (A.deeper (envOfC qual (aq X) s.heap.objs.size f Z))->
   ua (jC (ky P w) P w K mg base N qual (aq X) f Z A outer s H E) (uB K E) (dw X) m):DefX P w K mg base (k+1) x U S:=
 ⟨f,T,by rw[Q];exact Ga F J fun Z A outer s H L O _ _=>Y Z A outer s H L O,R,F.kp,I⟩
theorem Dq{x y qual:Str}{f c S:Addr}{L:Value}{od:Option Addr}{U:Array (Option Value)}{kV X J Y ct Q:Value}{R:Option Addr}{I:Arguments}{bd:List Stmt}{T:Scope}(O:W.nsIn K mainGlobals x=some (some (.ref f)))
  (N:K.lookup f=some ⟨L,od,.func (W.fnOf y qual I bd T Q kV X J R Y ct),U⟩) (Z:W.tabIn K x=some (c,S)):Y= .ref c:=by
 unfold W.tabIn at Z;rw[O]at Z;dsimp only at Z;rw[N]at Z;dsimp only at Z;cases Y with
 | ref c2=>
  dsimp only at Z;split at Z
  ·split at Z
   ·cases Z;rfl
   ·cases Z
  ·cases Z
 |_=>cases Z
theorem Gg{x qual:Str}{Y:Stmt}{f:Addr}{R:FuncData}{N X:List Str}{k:Nat}{m:cW}{S:List D->M D}{c O:Addr}(F:Fun K x qual Y f R)(C:FnScope N X (aq Y))(Q:S=kY N.length X.length m)(B:W.nsIn K mainGlobals x=some (some (.ref f)))(L:W.tabIn K x=some (c,O))
  (Z:∀(A:Around) (outer:List Env) (s:Shared) (H:Hp) (E:XK),Room k (A.deeper (envOfC qual (aq Y) s.heap.objs.size f (.ref c)))->
   ua (jC (ky P w) P w K mg base N qual (aq Y) f (.ref c) A outer s H E).nox cA (dw Y) m):FnOk P w K mg base (ky P w) (k+1) f R X (Bg K S):=by
 rw[Q];refine Ga F C fun U A outer s H G I _ T=>?_;obtain⟨v,od,y,kV,doc,pm,an,ct,z⟩:=T;have J:U= .ref c:=Dq B z L;subst J;exact uD (sP (Z A outer s H G I))
theorem Bo{x qual:Str}{I:Stmt}{f:Addr}{B:FuncData}{N Z:List Str}{k k0:Nat}{m:D->M D->cW}{R:D->M D->List D->M D}(F:Fun K x qual I f B)(n:mg x=some (.ref f))(i:Binds K B Z [])(l:FnScope N Z (aq I))(v:R=fun J c es=>nI N.length Z.length (m J c) (J::es))
  (U:∀(base:Heap),Mod K mg base->∀(a X:Addr) (ql:Str) (ds:List D) (vs:List V) (T:TM),LamOk P w K mg base k0 a (Gc K X ql ds vs T)->∀(Y:Value) (A:Around) (outer:List Env) (s:Shared) (H:Hp) (E:XK),Room k (A.deeper (envOfC qual (aq I) s.heap.objs.size f Y))->
   ua (jC (ky P w) P w K mg base N qual (aq I) f Y A outer s H E).nox cA (dw I) (m (.fn a X ql ds vs) (T (ds.map some)))):RefX P w K mg (k+1) k0 x Z R:=by
 refine⟨f,B,n,F.kp,i,fun base G a X ql ds vs T L=>?_⟩;rw[v];obtain⟨e,od,kV,doc,pm,an,Y,ct,p,rfl,t,z⟩:=F.ex;have key:∀{us:List V} {H:Hp} {Q:VK} {C:XK},xB K (fun J c es=>nI N.length Z.length (m J c) (J::es)) a X ql ds vs T us H Q C->us.length=Z.length/\∃ ι S es,Rep K ι H S/\RelDs K ι H es us/\cont K cA (do let o<-m (.fn a X ql ds vs) (T (ds.map some)) (es.map some++List.replicate (N.length - Z.length) none);outD o) ι S H (kH K Q):=by
  rintro us H Q C ⟨ι,S,rest,es,rfl,rep,hc',rds,res,c⟩;have y:RelDs K ι H (.fn a X ql ds vs::es) (.ref a::rest):=.cons (.fn hc' rds) res;unfold nI at c;dsimp only at c;by_cases O:(D.fn a X ql ds vs::es).length=Z.length
  ·rw[if_pos O]at c;exact⟨by rw[<-y.length];exact O,ι,S,_,rep,y,c⟩
  ·rw[if_neg O]at c;exact(ag c).elim
 refine Ag t z l (fun us H Q C h=>(key h).1) fun A outer s H us Q C u h=>⟨_,sP (U base G a X ql ds vs T L Y A outer s H C u),?_⟩;obtain⟨O,ι,S,es,rep,r,c⟩:=key h;refine⟨ι,S,_,rep,?_,ak (ai c) fun o q S1 g e1 rep1 c1=>?_⟩
 ·have:=RelE.start r (N.length - Z.length);unfold L2.start;rw[O];exact this
 ·cases o with
  |nx ρ=>exact fun j _=>ah c1 .refl rep1 _ .non
  |ret d=>exact ah c1 .refl rep1
  |bk ρ=>exact(ag c1).elim
  |ct ρ=>exact(ag c1).elim
end
end S7
section
namespace S4
open PySem PySem.Spec PyProof.Rows
section
variable {prog:Program}{w:World}{A:Around}{E:Value->Shared->Prop}{s:Shared}
end
end S4
namespace S3
open PySem PySem.Spec PyProof.Rows L2 S4
section
variable {X:Cx}{E:XD}{e:Expr}{m:TM}{pos:Pos}
end
end S3
end
namespace S4
open PySem PySem.Spec PyProof.Rows L2 S3
def Ds(l1 l2:Addr):It:=⟨fun i H=>∃ va vb,Rd H l1 (.lst va)/\Rd H l2 (.lst vb)/\i<va.length/\i<vb.length,
 fun i H x H'=>∃ va vb p u v,Rd H l1 (.lst va)/\Rd H l2 (.lst vb)/\H p=none/\va[i]? =some u/\vb[i]? =some v/\x= .ref p/\H'=upd H p (.tup [u,v]),fun i H=>∃ va vb,Rd H l1 (.lst va)/\Rd H l2 (.lst vb)/\(va.length<=i\/vb.length<=i)⟩
theorem y3{P:Program}{w:World}{K:W.Frag}{B:List Expr}{x1}{tp:Pos}{z TI TO O Q l1 n:Addr}(D:ZipApart z TI TO O Q l1 n):
  Turn P w K (.Tuple B x1 tp) (Ds l1 n) [z,TI,TO,O,Q] z
   (fun i h=>IsZip h z TI TO .none/\IsPair h TI (.ref O) (.ref Q)/\(∃ a b,IsPair h TO a b)/\h.IsListIter O l1 i/\h.IsListIter Q n i) where
 mem:=by simp
 obj:=fun i h st b Z=>by
  obtain⟨R,Y,⟨a,c,U⟩,⟨o1,e1,c1,d1⟩,⟨o2,e2,c2,d2⟩⟩:=st;simp only[List.mem_cons,List.not_mem_nil,or_false]at Z;rcases Z with rfl|rfl|rfl|rfl|rfl
  ·exact⟨_,R,fun v z=>by cases z⟩
  ·exact⟨_,Y,fun v z=>by cases z⟩
  ·exact⟨_,U,fun v z=>by cases z⟩
  ·exact⟨_,e1,fun v z=>by rw[d1]at z;cases z⟩
  ·exact⟨_,e2,fun v z=>by rw[d2]at z;cases z⟩
 keep:=fun i h h' st k=>by
  obtain⟨R,Y,⟨a,c,U⟩,G,J⟩:=st;exact⟨k z (by simp) _ R,k TI (by simp) _ Y,⟨a,c,k TO (by simp) _ U⟩,G.at fun o e=>k O (by simp) o e,J.at fun o e=>k Q (by simp) o e⟩
 item:=by
  intro X d hw l hc i pins s σ H E I hf st hg;subst d hw l;obtain⟨R,Y,⟨a,c,U⟩,G,J⟩:=st;obtain⟨q,p,r,t,ga,gb⟩:=hg;obtain⟨F,L,p1,_⟩:=I.list (.inl r);obtain⟨A,N,m,_⟩:=I.list (.inl t);obtain⟨u1,a0,b6⟩:=L.get (KB ga);obtain⟨u2,b5,b3⟩:=N.get (KB gb);refine wpAny_pyNext_zip_item D R Y U G J p1.isList m.isList (x:=u1) (y:=u2) (by simpa using a0) (by simpa using b5) fun h' a1 a2 a3 a4 a5 a6 u=>?_
  have f:H s.heap.objs.size=none:=I.hok.fresh (Kz _);have lt:∀{c o},s.heap.get? c=some o->s.heap.objs.size≠c:=fun e=>Mi (KF e);refine⟨_,rfl,Ob a1 fun S j T=>?_⟩;have C:IsPair S TI (.ref O) (.ref Q):=T.extBut _ _ D.TIz (u _ _ D.TIz D.TITO D.TIi1 D.TIi2 Y);have kk:∀ b o,b ∉ [z,TI,TO,O,Q]->s.heap.get? b=some o->S.get? b=some o:=fun b o Z e=>by
   simp only[List.mem_cons,List.not_mem_nil,or_false,not_or]at Z;exact T.extBut _ _ Z.1 (u b o Z.1 Z.2.2.1 Z.2.2.2.1 Z.2.2.2.2 e)
  have b2:IsPair S s.heap.objs.size u1 u2:=T.extBut _ _ (lt R) a5;have I2:L2.Inv X pins σ (upd H s.heap.objs.size (.tup [q[i],p[i]])) {s with heap:=S,toks:=s.toks}:=sL (o:=.tup [q[i],p[i]]) I hf kk (Kz _) ⟨by show 2<=sizeLine;decide,[u1,u2],.cons b6 (.cons b3 .nil),_,b2,rfl,_,rfl⟩
  refine⟨.ref s.heap.objs.size,_,I2,rfl,
   ⟨q,p,_,_,_,r,t,f,KB ga,KB gb,rfl,rfl⟩,⟨j,C,⟨_,_,T.extBut _ _ D.TOz a2⟩,a3.at fun o e=>T.extBut _ _ D.i1z e,a4.at fun o e=>T.extBut _ _ D.i2z e⟩,fun b Z=>?_⟩
  obtain⟨ob,ho,_⟩:∃ ob,s.heap.get? b=some ob/\True:=by
   simp only[List.mem_cons,List.not_mem_nil,or_false]at Z;rcases Z with rfl|rfl|rfl|rfl|rfl
   ·exact⟨_,R,trivial⟩
   ·exact⟨_,Y,trivial⟩
   ·exact⟨_,U,trivial⟩
   ·obtain⟨o,e,_⟩:=G;exact⟨_,e,trivial⟩
   ·obtain⟨o,e,_⟩:=J;exact⟨_,e,trivial⟩
  rw[aE (KL (KF ho))];exact(hf b Z).1
 done:=by
  intro X d hw l hc i pins s σ H E I hf st hg;subst d hw l;obtain⟨R,Y,⟨a,c,U⟩,G,J⟩:=st;obtain⟨q,p,r,t,gs⟩:=hg;obtain⟨F,L,p1,_⟩:=I.list (.inl r);obtain⟨A,N,m,_⟩:=I.list (.inl t);have e8:=L.length;have e3:=N.length;refine wpAny_pyNext_zip_end (I.ok.hd hc) D R Y U G J p1.isList m.isList (gs.imp (fun g=>by simp;omega) fun g=>by simp;omega) fun h' u=>⟨rfl,sJ (t':=s.toks) I hf fun b o Z e=>?_⟩
  simp only[List.mem_cons,List.not_mem_nil,or_false,not_or]at Z;exact u b o Z.1 Z.2.2.1 Z.2.2.2.1 Z.2.2.2.2 e
 self:=fun _ _ _ _ _ st h=>NL st.1 h
theorem Dt{X:Cx}{L:List Expr}{x1}{tp p pos:Pos}{es:List Expr}{e:Expr}{z:TA}(v:Gl X "zip")(w:X.mg "zip"=none)(x:PA X (e::es) z)
  (y:starEach (e::es) X.env=(false,eval e X.env)::starEach es X.env:=by rfl) (E:(backTo pos (starEach es X.env)).any (·.1)=false:=by rfl):
  PI X (.Tuple L x1 tp) (.Call (.Name "zip" p) (e::es) [] pos) (fun σ H R=>z σ H fun xs Z=>(∃ a b va vb,xs=[.ref a,.ref b]/\Rd Z a (.lst va)/\Rd Z b (.lst vb)/\R (Ds a b) Z)\/
   (∃ a b va vb,xs=[.ref a,.ref b]/\Z a=some (.tup va)/\Z b=some (.tup vb)/\
   R ⟨fun i H=>(zS va vb).go i H/\(H a=some (.tup va)/\H b=some (.tup vb)),(zS va vb).yld,fun i H=>(zS va vb).stop i H/\(H a=some (.tup va)/\H b=some (.tup vb))⟩ Z)):=by
 intro pins s σ H R I h;refine Call_ (kG I v w (show bootBuiltins "zip"=some (.type "zip") by decide+kernel) (LX (dN (x pos pins s σ H _ I h) fun us s1 ⟨vs,Z,I1,r1,q1⟩=>?_) y E) (by decide) (by decide))
 have fresh:∀ c∈[s1.heap.objs.size+4,s1.heap.objs.size+2,s1.heap.objs.size+3,s1.heap.objs.size,s1.heap.objs.size+1],s1.heap.objs.size<=c:=fun c W=>by
  simp only[List.mem_cons,List.not_mem_nil,or_false]at W;omega
 rcases q1 with⟨a,b,va,vb,rfl,hA,hB,q⟩|⟨a,b,va,vb,rfl,hA,hB,q⟩
 ·obtain⟨u,A,rfl,C,Y⟩:=vals2 r1;cases (show u=Value.ref a from C);cases (show A=Value.ref b from Y);obtain⟨N,F,O,_⟩:=I1.list (.inl hA);obtain⟨J,B,P,_⟩:=I1.list (.inl hB);have a1:a<s1.heap.objs.size:=by obtain⟨_,e,_⟩:=O.isList;exact KF e
  have a2:b<s1.heap.objs.size:=by obtain⟨_,e,_⟩:=P.isList;exact KF e
  refine call_zip_2 O.isList P.isList fun h' K S U Q T _ G=>NL K ?_;exact⟨s1.heap.objs.size+4,_,_,_,Z,rfl,I1.kept (t':=s1.toks) G,y3 (zipApart_new a1 a2),⟨K,S,⟨_,_,U⟩,Q,T⟩,fun c W=>I1.fpOk (fresh c W) (I1.hok.fresh (fresh c W)),q⟩
 ·obtain⟨u,A,rfl,C,Y⟩:=vals2 r1;cases (show u=Value.ref a from C);cases (show A=Value.ref b from Y);obtain⟨N,F,O,_⟩:=I1.tuple (.of hA);obtain⟨J,B,P,_⟩:=I1.tuple (.of hB);have a1:a<s1.heap.objs.size:=by obtain⟨_,e,_⟩:=O;exact KF e
  have a2:b<s1.heap.objs.size:=by obtain⟨_,e,_⟩:=P;exact KF e
  refine yV O P fun h' K S U Q T G=>NL K ?_;exact⟨s1.heap.objs.size+4,_,_,_,Z,rfl,I1.kept (t':=s1.toks) G,A7 (zipApart_new a1 a2) (fun H=>H a=some (.tup va)/\H b=some (.tup vb)) (fun _=>.rfl),⟨K,S,⟨_,_,U⟩,Q,T⟩,fun c W=>I1.fpOk (fresh c W) (I1.hok.fresh (fresh c W)),q⟩
theorem Rd.lst_inj(h:Rd H a (.lst xs))(h':Rd H a (.lst ys)):xs=ys:=by
 rcases h with h|⟨o,h⟩<;>rcases h' with h'|⟨o',h'⟩<;>(rw[h]at h';cases h'<;>rfl)
def zL:D->M (List D×Option (Nat×List D))
 | .lst k=>do let xs<-getL k;pure (xs,some (k,xs))
 | .fz xs=>pure (xs,none)
 |_=>M.fail
def Gh:Option (Nat×List D)->Option (Nat×List D)->Chk
 |some (k,xs),some (j,ys)=>.two k j xs ys
 |some (k,xs),none=>.two k k xs xs
 |none,some (j,ys)=>.two j j ys ys
 |none,none=>.none
def Bp:List D->M Iter
 |[.tup xs,.tup ys]=>pure ⟨(xs.zip ys).map fun p=>.tup [p.1,p.2],.none⟩
 |[a,b]=>do let x<-zL a;let y<-zL b;pure ⟨(x.1.zip y.1).map fun p=>.tup [p.1,p.2],Gh x.2 y.2⟩
 |_=>M.fail
structure ZOk(K:W.Frag)(x:List D×Option (Nat×List D))(a:Addr)(ι:List Addr)(H:Hp):Prop where
 ok:∀ ι2 H2 S2,ExtN ι H ι2 H2->Rep K ι2 H2 S2->(∀ k xs,x.2=some (k,xs)->S2[k]? =some xs)->∃ va,Rd H2 a (.lst va)/\RelDs K ι2 H2 x.1 va
theorem Bq{K:W.Frag}{E:XD}{ι:List Addr}{S:aB}{H:Hp}{d:D}{v:V}{P:Type}{f:List D×Option (Nat×List D)->M P}{Q:P->List Addr->aB->Hp->Prop}(Z:Rep K ι H S)(r:RelD K ι H d v)(c:cont K E (zL d>>=f) ι S H Q):
  ∃ a x U,v= .ref a/\Rd H a (.lst U)/\ZOk K x a ι H/\cont K E (f x) ι S H Q:=by
 cases d with
 | lst k=>
  obtain⟨a,rfl,Y⟩:=r.lst_inv;have N:cont K E (getL k>>=fun xs=>pure (xs,some (k,xs))>>=f) ι S H Q:=by
   rw[<-cM];exact c
  obtain⟨xs,vs,G,L,R,T⟩:=bg N Z Y;rw[ay]at T;refine⟨a,(xs,some (k,xs)),vs,rfl,.inl L,⟨fun X O S2 e rep2 ok=>?_⟩,T⟩;obtain⟨U,J,I⟩:=rep2.get k a xs (e.at Y) (ok k xs rfl);exact⟨U,.inl J,I⟩
 |fz xs=>
  obtain⟨a,o,vs,rfl,Y,R⟩:=r.fz_inv;refine⟨a,(xs,none),vs,rfl,.inr ⟨o,Y⟩,⟨fun X O S2 e rep2 ok=>?_⟩,ah (ai c) .refl Z⟩;exact⟨vs,.inr ⟨o,(e.oth _ _ Y (Z.notIn Y (by intro _ z;cases z)) (by intro _ z;cases z) (by intro _ z;cases z)).1⟩,R.laterN Z e⟩
 |_=>exact(ag (ai c)).elim
theorem Du(h:Iter.okS ⟨items,Gh x y⟩ S):(∀ k xs,x=some (k,xs)->S[k]? =some xs)/\∀ k xs,y=some (k,xs)->S[k]? =some xs:=by
 match x,y,h with
 |some (k,xs),some (j,ys),h=>exact⟨fun _ _ e=>(by cases e;exact h.1),fun _ _ e=>(by cases e;exact h.2)⟩
 |some (k,xs),none,h=>exact⟨fun _ _ e=>(by cases e;exact h.1),fun _ _ e=>(by cases e)⟩
 |none,some (j,ys),h=>exact⟨fun _ _ e=>(by cases e),fun _ _ e=>(by cases e;exact h.1)⟩
 |none,none,h=>exact⟨fun _ _ e=>(by cases e),fun _ _ e=>(by cases e)⟩
theorem uJ{K:W.Frag}{ι:List Addr}{H:Hp}{a b:Addr}{x y:List D×Option (Nat×List D)}(G:ZOk K x a ι H)(I:ZOk K y b ι H):
  jd K ⟨(x.1.zip y.1).map fun p=>.tup [p.1,p.2],Gh x.2 y.2⟩ (Ds a b) ι H:=by
 intro Z S S2 e rep2 ok i;obtain⟨Q,P⟩:=Du ok;obtain⟨N,X,T⟩:=G.ok Z S S2 e rep2 Q;obtain⟨J,Y,U⟩:=I.ok Z S S2 e rep2 P;have t:=T.length;have s:=U.length;refine⟨fun d hd=>?_,fun hlen=>?_⟩
 ·obtain⟨A,B,L,O,rfl⟩:=zip_get hd;have r:=(KC.mp L).1;have q:=(KC.mp O).1;refine⟨⟨N,J,X,Y,by omega,by omega⟩,?_⟩
  rintro v H3 ⟨va',vb',p,u,E,gA,gB,hp,g1,g2,rfl,rfl⟩;cases Rd.lst_inj X gA;cases Rd.lst_inj Y gB;obtain⟨v1,e1,F⟩:=T.get' L;obtain⟨v2,e2,C⟩:=U.get' O;obtain rfl:v1=u:=K6 (e1.symm.trans g1);obtain rfl:v2=E:=K6 (e2.symm.trans g2);have R:Ext Z S Z (upd S p (.tup [v1,v2])):=ef hp;exact⟨R,fw rep2 hp,.tup aN (.cons (F.later rep2 R) (.cons (C.later rep2 R) .nil))⟩
 ·have w:min x.1.length y.1.length<=i:=by simpa using hlen
  refine⟨N,J,X,Y,?_⟩;rcases Nat.le_total x.1.length y.1.length with z|z
  ·exact .inl (by omega)
  ·exact .inr (by omega)
theorem xD{X:Cx}{x1}(t:X.mg "zip"=none)(B:SE X E a m)(l:SE X E b n)(o:Gl X "zip":=by rfl)
  (hs:starEach [a,b] X.env=[(false,eval a X.env),(false,eval b X.env)]:=by rfl) (W:starEach [b] X.env=[(false,eval b X.env)]:=by rfl):
  SI X E (.Tuple elts x1 tp) (.Call (.Name "zip" p) [a,b] [] pos) (fun ρ=>do let ds<-(do let x<-m ρ;let xs<-(do let y<-n ρ;let ys<-pure [];pure (y::ys));pure (x::xs));Bp ds):=by
 intro pins s σ H R I h;have O:PI X (.Tuple elts x1 tp) (.Call (.Name "zip" p) [a,b] [] pos) (fun σ H R=>JF X.K E (ae m (ae n ao)) σ H fun xs U=>(∃ a b Z Y,xs=[.ref a,.ref b]/\Rd U a (.lst Z)/\Rd U b (.lst Y)/\R (Ds a b) U)\/
   (∃ a b Z Y,xs=[.ref a,.ref b]/\U a=some (.tup Z)/\U b=some (.tup Y)/\
   R ⟨fun i H=>(zS Z Y).go i H/\(H a=some (.tup Z)/\H b=some (.tup Y)),(zS Z Y).yld,fun i H=>(zS Z Y).stop i H/\(H a=some (.tup Z)/\H b=some (.tup Y))⟩ U)):=
  Dt o t (af B (af l aj (by rw[W];rfl)) (by rw[hs,W])) (by rw[hs,W]) (by rw[W];rfl)
 refine O pins s σ H R I ?_;obtain⟨ι,S,ρ,rep,re,c⟩:=h;refine⟨ι,S,ρ,rep,re,ak (ai c) fun ds v S1 U e1 rep1 c1 vs r=>?_⟩;unfold Bp at c1;split at c1
 ·next xs ys=>
  obtain⟨v1,ws,rfl,G,F⟩:=r.cons_inv;obtain⟨v2,N,rfl,C,P⟩:=F.cons_inv;cases P.nil_inv;obtain⟨L,Z,rfl,Q,u⟩:=G.tup_inv;obtain⟨J,Y,rfl,T,k⟩:=C.tup_inv;exact .inr ⟨L,J,Z,Y,rfl,Q,T,ah c1 .refl rep1 _ (wa rep1 Q T u k)⟩
 ·next a b _=>
  obtain⟨v1,ws,rfl,G,F⟩:=r.cons_inv;obtain⟨v2,N,rfl,C,P⟩:=F.cons_inv;cases P.nil_inv;obtain⟨L,x,Z,rfl,Q,w,q⟩:=Bq rep1 G c1;obtain⟨J,y,Y,rfl,T,z,A⟩:=Bq rep1 C q;exact .inl ⟨L,J,Z,Y,rfl,Q,T,ah A .refl rep1 _ (uJ w z)⟩
 ·exact(ag c1).elim
abbrev rf(m n:TM):aO->M Iter:=fun ρ=>do let ds<-ae m (ae n ao) ρ;Bp ds
end S4
namespace S3
open PySem PySem.Spec PyProof.Rows L2 S4
def mz(f:Expr->Option D):List Expr->Option (List D)
 |[]=>some []
 |e::es=>match f e,mz f es with
  |some d,some ds=>some (d::ds)
  |_,_=>none
def litE:Nat->Expr->Option D
 |_,.Constant .none _ _=>some .non
 |_,.Constant (.bool b) _ _=>some (.bl b)
 |_,.Constant (.int i) _ _=>some (.int i)
 |_,.Constant (.str x) _ _=>some (.str x)
 |_,.UnaryOp .USub (.Constant (.int i) _ _) _=>some (.int (-i))
 |n+1,.Tuple es _ _=>match mz (litE n) es with
  |some ds=>if ds.length<=100 then some (.tup ds)else none
  |none=>none
 |_,_=>none
section
variable {X:Cx}{E:XD}
theorem SE.mono{m Z:TM}(h:SE X E e m)(k:∀ ρ S r,Z ρ S=some r->m ρ S=some r):SE X E e Z:=PE.imp h fun σ H Q q=>by
 obtain⟨ι,S,ρ,rep,re,r,Y,e,c⟩:=q;exact⟨ι,S,ρ,rep,re,r,Y,k ρ S _ e,c⟩
theorem Br(h:litE n e=some d)(es:List Expr)(env:Env):starEach (e::es) env=(false,eval e env)::starEach es env:=by
 cases e with
 |Constant c j p=>exact aD
 |UnaryOp o a p=>exact wg
 |Tuple l k p=>exact bu
 |_=>cases n<;>cases h
theorem xE(Z:∀ e d,litE n e=some d->SE X E e (mK d)):∀{es:List Expr} {ds:List D},mz (litE n) es=some ds->SA X E es (fun _=>pure ds)
 |[],ds,h=>by cases h;exact aj
 | e::es,ds,h=>by
  unfold mz at h;cases q:litE n e with
  |none=>rw[q]at h;cases h
  | some d=>
   rw[q]at h;cases q2:mz (litE n) es with
   |none=>rw[q2]at h;cases h
   |some ds'=>
    rw[q2]at h;cases h;exact af (Z e d q) (xE Z q2) (Br q _ _)
theorem Gi:∀(n:Nat) (e:Expr) (d:D),litE n e=some d->SE X E e (mK d):=by
 intro n
 induction n with
 |zero=>
  intro e d h;unfold litE at h;split at h
  ·cases h;exact kI
  ·cases h;exact fj
  ·cases h;exact av
  ·cases h;exact sf
  ·cases h;exact A8
  ·next h'=>exact absurd h' (by omega)
  ·cases h
 | succ n ih=>
  intro e d h;unfold litE at h;split at h
  ·cases h;exact kI
  ·cases h;exact fj
  ·cases h;exact av
  ·cases h;exact sf
  ·cases h;exact A8
  ·next m es k p hm=>
   cases hm;cases q:mz (litE n) es with
   |none=>rw[q]at h;cases h
   | some ds=>
    rw[q]at h;simp only at h;split at h
    ·next hl=>
     cases h;refine(cG (xE ih q)).mono fun ρ S r Z=>?_;have e:(do let ds'<-(pure ds:M (List D));cf ds')=(pure (.tup ds):M D):=by
      show cf ds=_;unfold cf;rw[if_pos (by unfold lim;omega)]
     rw[e];exact Z
    ·cases h
  ·cases h
theorem dz(n:Nat)(h:litE n e=some d):SE X E e (mK d):=Gi n e d h
end
def bJ(m:TM)(ms:Cw):Cw:=ae m ms
section
variable {X:Cx}{E:XD}
theorem bb(Z:SE X E e m)(Y:SA X E es ms)(hs:starEach (e::es) X.env=(false,eval e X.env)::starEach es X.env):SA X E (e::es) (bJ m ms):=af Z Y hs
theorem gK{l p t n}:swapsWith (.List l p) t n env=pure false:=rfl
theorem cg{a o b p t n}:swapsWith (.BinOp a o b p) t n env=pure false:=rfl
theorem gL{f l k p t n}:swapsWith (.Call f l k p) t n env=pure false:=rfl
theorem jl{a b p t n}:swapsWith (.Subscript a b p) t n env=pure false:=rfl
theorem jV{a b p t n}:swapsWith (.Constant a b p) t n env=pure false:=rfl
end
end S3
namespace S7
open PySem PySem.Spec PyProof.Rows L2 S3
theorem lM{a b p}:starEach (.Attribute a b p::es) env=(false,eval (.Attribute a b p) env)::starEach es env:=rfl
abbrev eO(m:TM)(y:Str):TM:=fun ρ=>do let x<-m ρ;uE (fun n=>bh n y) x
abbrev Bs(m:TM):TM:=fun ρ=>do let x<-m ρ;uE (fun _=>true) x
abbrev Gj(x:Str)(ms:aO->M (List D)):cW:=fun ρ=>do let ds<-ms ρ;if ds.length<=lim then M.raise (.exc x [])else M.fail
end S7
namespace S3
open PySem PySem.Spec PyProof.Rows L2
mutual
def gr(n:Nat):D->Bool
 | .lst k=>decide (k<n)
 | .tup ds=>c9 n ds
 | .ro ds=>c9 n ds
 | .fz ds=>c9 n ds
 | .fn _ _ _ ds _=>c9 n ds
 | .exc _ ds=>c9 n ds
 | .non=>true
 | .bl _=>true
 | .int _=>true
 | .str _=>true
 | .emp=>true
def c9(n:Nat):List D->Bool
 |[]=>true
 |d::ds=>gr n d && c9 n ds
end
mutual
def iQ(n:Nat)(g:Nat->Option (List D)):D->Option D
 | .lst k=>if k<n then some (.lst k)else (g k).map .fz
 | .tup ds=>(gu n g ds).map .tup
 | .ro ds=>(gu n g ds).map .ro
 | .fz ds=>(gu n g ds).map .fz
 | .fn a c q ds vs=>(gu n g ds).map fun es=>.fn a c q es vs
 | .exc x ds=>(gu n g ds).map fun es=>.exc x es
 | .non=>some .non
 | .bl b=>some (.bl b)
 | .int i=>some (.int i)
 | .str x=>some (.str x)
 | .emp=>some .emp
def gu(n:Nat)(g:Nat->Option (List D)):List D->Option (List D)
 |[]=>some []
 |d::ds=>match iQ n g d,gu n g ds with
  |some u,some us=>some (u::us)
  |_,_=>none
end
def wq(S:aB)(n:Nat):Nat->Nat->Option (List D)
 |0,_=>none
 |f+1,k=>(S[k]?).bind fun xs=>gu n (wq S n f) xs
def pj(S S':aB):Prop:=∀ k xs,k<S.length->S'[k]? =some xs->S[k]? =some xs\/c9 S.length xs=true
open Classical in
def jm(m:M D):M D:=fun S=>match m S with
 | some (.ok d,S')=>if S'.length<=S.length then some (.ok d,S')else
   if pj S S' then (match iQ S.length (wq S' S.length 60) d with
    |some u=>some (.ok u,S'.take S.length)
    |none=>none)else none
 |r=>r
abbrev aU(m:TM):TM:=fun ρ=>jm (m ρ)
section
variable {K:W.Frag}{ι ι':List Addr}{H H':Hp}{S S':aB}
mutual
theorem RelD.cl:∀{d:D} {v:V},RelD K ι H d v->gr ι.length d=true
 |_,_,.non=>rfl
 |_,_,.bl b=>rfl
 |_,_,.int i=>rfl
 |_,_,.str x=>rfl
 |_,_,.tup h hs=>by unfold gr;exact RelDs.cl hs
 |_,_,.lst h=>by unfold gr;exact KU (KC.mp h).1
 |_,_,.ro h hs=>by unfold gr;exact RelDs.cl hs
 |_,_,.emp h=>rfl
 |_,_,.fn h hs=>by unfold gr;exact RelDs.cl hs
 |_,_,.exc n h=>rfl
 |_,_,.excF n h h2 hn hs=>by unfold gr;exact RelDs.cl hs
 |_,_,.fz h hs=>by unfold gr;exact RelDs.cl hs
theorem RelDs.cl:∀{ds:List D} {vs:List V},RelDs K ι H ds vs->c9 ι.length ds=true
 |_,_,.nil=>rfl
 |_,_,.cons h hs=>by unfold c9;rw[RelD.cl h,RelDs.cl hs];rfl
end
def nQ(P:List Addr)(os:Addr->Obj)(H:Hp):Hp:=fun b=>match H b with
 |some (.lst vs)=>if b∈P then some (.frz (os b) (.lst vs))else some (.lst vs)
 |x=>x
theorem Bt{P:List Addr}{os:Addr->Obj}{b:Addr}(h:H b=none):nQ P os H b=none:=by unfold nQ;rw[h]
theorem cb{P:List Addr}{os:Addr->Obj}{b:Addr}{o:HO}(h:H b=some o)(Z:∀ vs,o≠ .lst vs):nQ P os H b=some o:=by
 unfold nQ;rw[h];cases o with
 |lst vs=>exact absurd rfl (Z vs)
 |_=>rfl
theorem xF{P:List Addr}{os:Addr->Obj}{b:Addr}(h:b ∉ P):nQ P os H b=H b:=by
 unfold nQ;split
 ·next q=>rw[if_neg h,q]
 ·rfl
theorem Gk{os:Addr->Obj}(h:b∈P)(e:H b=some (.lst vs)):nQ P os H b=some (.frz (os b) (.lst vs)):=by
 unfold nQ;rw[e];exact if_pos h
theorem uK(Y:ι.Nodup)(h:ι[k]? =some a):a∈ι.drop n↔n<=k:=by
 constructor
 ·intro hm;obtain⟨j,Z⟩:=MP.mp hm;rw[N7]at Z;have:=ot Y h Z;omega
 ·intro X;refine MP.mpr ⟨k - n,?_⟩;rw[N7,show n+(k - n)=k by omega];exact h
mutual
theorem RelD.down{n:Nat}{os:Addr->Obj}:∀{d:D} {v:V},RelD K ι H d v->gr n d=true->RelD K (ι.take n) (nQ (ι.drop n) os H) d v
 |_,_,.non,_=>.non
 |_,_,.bl b,_=>.bl b
 |_,_,.int i,_=>.int i
 |_,_,.str x,_=>.str x
 |_,_,.tup h hs,c=>.tup (cb h (by intro _ z;cases z)) (RelDs.down hs (by unfold gr at c;exact c))
 |_,_,.lst h,c=>.lst (by unfold gr at c;rw[Nn,if_pos (Lx c)];exact h)
 |_,_,.ro h hs,c=>.ro (h.imp (fun⟨o,h⟩=>⟨o,cb h (by intro _ z;cases z)⟩) fun z=>z) (RelDs.down hs (by unfold gr at c;exact c))
 |_,_,.emp h,_=>.emp (cb h (by intro _ z;cases z))
 |_,_,.fn h hs,c=>.fn (cb h (by intro _ z;cases z)) (RelDs.down hs (by unfold gr at c;exact c))
 |_,_,.exc n h,_=>.exc n (cb h (by intro _ z;cases z))
 |_,_,.excF n h h2 hn hs,c=>.excF n (cb h (by intro _ z;cases z)) (cb h2 (by intro _ z;cases z)) hn (RelDs.down hs (by unfold gr at c;exact c))
 |_,_,.fz h hs,c=>.fz (cb h (by intro _ z;cases z)) (RelDs.down hs (by unfold gr at c;exact c))
theorem RelDs.down{n:Nat}{os:Addr->Obj}:∀{ds:List D} {vs:List V},RelDs K ι H ds vs->c9 n ds=true->RelDs K (ι.take n) (nQ (ι.drop n) os H) ds vs
 |_,_,.nil,_=>.nil
 |_,_,.cons h hs,c=>by
  unfold c9 at c;rw[Mf]at c;exact .cons (RelD.down h c.1) (RelDs.down hs c.2)
end
theorem jo{Z Y:Type}{f:Z->Y}{o:Option Z}{b:Y}(h:o.map f=some b):∃ a,o=some a/\f a=b:=by
 cases o with
 |none=>cases h
 |some a=>exact⟨a,rfl,K6 h⟩
theorem Bu(h:gu n g (d::ds)=some us):∃ u us',us=u::us'/\iQ n g d=some u/\gu n g ds=some us':=by
 unfold gu at h;split at h
 ·next u us' e1 e2=>cases h;exact⟨u,us',rfl,e1,e2⟩
 ·cases h
mutual
theorem Bv{n:Nat}{os:Addr->Obj}{g:Nat->Option (List D)}(Z:∀ k us a,n<=k->g k=some us->ι[k]? =some a->∃ vs,H a=some (.lst vs)/\RelDs K (ι.take n) (nQ (ι.drop n) os H) us vs)(Y:ι.Nodup):
  ∀{d:D} {v:V},RelD K ι H d v->∀{u:D},iQ n g d=some u->RelD K (ι.take n) (nQ (ι.drop n) os H) u v
 |_,_,.non,u,e=>by unfold iQ at e;cases e;exact .non
 |_,_,.bl b,u,e=>by unfold iQ at e;cases e;exact .bl b
 |_,_,.int i,u,e=>by unfold iQ at e;cases e;exact .int i
 |_,_,.str x,u,e=>by unfold iQ at e;cases e;exact .str x
 |_,_,.tup h hs,u,e=>by
  unfold iQ at e;obtain⟨es,e1,rfl⟩:=jo e;exact .tup (cb h (by intro _ z;cases z)) (jq Z Y hs e1)
 | _,_,@RelD.lst _ _ _ a k h,u,e=>by
  unfold iQ at e;by_cases hk:k<n
  ·rw[if_pos hk]at e;cases e;exact .lst (by rw[Nn,if_pos hk];exact h)
  ·rw[if_neg hk]at e;obtain⟨us,e1,rfl⟩:=jo e;obtain⟨vs,U,X⟩:=Z k us a (by omega) e1 h
   exact .fz (Gk ((uK Y h).mpr (by omega)) U) X
 |_,_,.ro h hs,u,e=>by
  unfold iQ at e;obtain⟨es,e1,rfl⟩:=jo e;exact .ro (h.imp (fun⟨o,h⟩=>⟨o,cb h (by intro _ z;cases z)⟩) fun z=>z) (jq Z Y hs e1)
 |_,_,.emp h,u,e=>by unfold iQ at e;cases e;exact .emp (cb h (by intro _ z;cases z))
 |_,_,.fn h hs,u,e=>by
  unfold iQ at e;obtain⟨es,e1,rfl⟩:=jo e;exact .fn (cb h (by intro _ z;cases z)) (jq Z Y hs e1)
 |_,_,.exc x h,u,e=>by
  unfold iQ at e;obtain⟨es,e1,rfl⟩:=jo e;unfold gu at e1;cases e1;exact .exc x (cb h (by intro _ z;cases z))
 |_,_,.excF x h X hn hs,u,e=>by
  unfold iQ at e;obtain⟨es,e1,rfl⟩:=jo e;exact .excF x (cb h (by intro _ z;cases z)) (cb X (by intro _ z;cases z)) hn (jq Z Y hs e1)
 |_,_,.fz h hs,u,e=>by
  unfold iQ at e;obtain⟨es,e1,rfl⟩:=jo e;exact .fz (cb h (by intro _ z;cases z)) (jq Z Y hs e1)
theorem jq{n:Nat}{os:Addr->Obj}{g:Nat->Option (List D)}(Z:∀ k us a,n<=k->g k=some us->ι[k]? =some a->∃ vs,H a=some (.lst vs)/\RelDs K (ι.take n) (nQ (ι.drop n) os H) us vs)(Y:ι.Nodup):
  ∀{ds:List D} {vs:List V},RelDs K ι H ds vs->∀{us:List D},gu n g ds=some us->RelDs K (ι.take n) (nQ (ι.drop n) os H) us vs
 |_,_,.nil,us,e=>by unfold gu at e;cases e;exact .nil
 |_,_,.cons h hs,us,e=>by
  obtain⟨u,X,rfl,e1,e2⟩:=Bu e;exact .cons (Bv Z Y h e1) (jq Z Y hs e2)
end
theorem Dv(Z:Rep K ι H S){n:Nat}{os:Addr->Obj}:∀ f k us a,n<=k->wq S n f k=some us->ι[k]? =some a->∃ vs,H a=some (.lst vs)/\RelDs K (ι.take n) (nQ (ι.drop n) os H) us vs:=by
 intro f
 induction f with
 |zero=>intro k us a _ e;cases e
 | succ f ih=>
  intro k us a T e X;unfold wq at e;cases z:S[k]? with
  |none=>rw[z]at e;cases e
  |some xs=>
   rw[z]at e;obtain⟨vs,U,Y⟩:=Z.get k a xs X z;exact⟨vs,U,jq (ih) Z.nd Y e⟩
theorem Bw(Y:Rep K ι H S)(x:Ext ι H ι' H')(Z:Rep K ι' H' S')(O:pj S S')(os:Addr->Obj):
  Ext ι H ι (nQ (ι'.drop ι.length) os H')/\Rep K ι (nQ (ι'.drop ι.length) os H') (S'.take ι.length):=by
 obtain⟨more,rfl⟩:=id x.ids;have P:(ι++more).take ι.length=ι:=by simp
 refine⟨⟨⟨[],by simp⟩,fun a o h n t=>?_⟩,⟨Y.nd,?_,fun k a xs e1 e2=>?_,Z.tab.mono fun a o h n=>cb h n⟩⟩
 ·obtain⟨R,U⟩:=x.oth a o h n t;rw[xF (fun z=>U (List.mem_of_mem_drop z))];exact⟨R,n⟩
 ·have:=Z.len;rw[LM, <-this,KD];omega
 ·have T:k<ι.length:=(KC.mp e1).1;rw[Nn,if_pos T]at e2;have X:(ι++more)[k]? =some a:=by rw[Li T];exact e1
  obtain⟨vs,R,U⟩:=Z.get k a xs X e2;refine⟨vs,?_,?_⟩
  ·rw[xF (fun z=>by have:=(uK Z.nd X).mp z;omega)];exact R
  ·have Q:c9 ι.length xs=true:=by
    rcases O k xs (by rw[<-Y.len];exact T) e2 with z|z
    ·obtain⟨_,_,N⟩:=Y.get k a xs e1 z;exact N.cl
    ·rw[Y.len];exact z
   have:=RelDs.down (n:=ι.length) (os:=os) U Q;rw[P]at this;exact this
end
section
variable {X:Cx}{E:XD}{e:Expr}{m:TM}{pins:List (Addr×Obj)}{σ:L2.St}{H:Hp}{s:Shared}
theorem Inv.fz(I:L2.Inv X pins σ H s)(P:List Addr):∃ os,L2.Inv X pins σ (nQ P os H) s:=by
 refine⟨fun a=>(s.heap.get? a).getD {cls:=.none,data:=.fields #[]},?_⟩;have Z:Un X.fs [] H (nQ P (fun a=>(s.heap.get? a).getD {cls:=.none,data:=.fields #[]}) H) s.heap s.heap:=
  ⟨fun b o q _ _ _=>q,fun b o q _ _ _=>⟨o.slots,q⟩,fun b o _ n _=>Bt n,fun b o q _=>⟨o,q⟩,fun b xs q=>cb q (by intro _ z;cases z),fun b o u q=>cb q (by intro _ z;cases z),fun b Y q=>⟨#[],by rw[cb q (by intro _ z;cases z)];simp⟩⟩
 refine I.un (t':=s.toks) Z fun b o q=>?_;have st:∀ u,H b=some u->bj X.prog X.w (nQ P (fun a=>(s.heap.get? a).getD {cls:=.none,data:=.fields #[]}) H) s.heap b u:=fun u Z=>
  (I.hok b u Z).stay (fun _ _ _ z=>z) (fun c z=>cb z (by intro _ z;cases z)) fun c xs z=>cb z (by intro _ z;cases z)
 unfold nQ at q;split at q
 ·next vs hb=>
  split at q
  ·cases q;obtain⟨z,its,n,r,e⟩:=(show bj X.prog X.w H s.heap b (.lst vs)from I.hok b _ hb);exact⟨by dsimp only;rw[e];rfl,z,its,n,r,e⟩
  ·cases q;exact st _ hb
 ·exact st _ q
theorem aI(h:SE X E e m):SE X E e (aU m):=by
 intro pins s σ H Q I O;obtain⟨ι,S,ρ,rep,re,r,N,J,k⟩:=O;have Z:jm (m ρ) S=some (r,N):=J;unfold jm at Z;cases q:m ρ S with
 |none=>rw[q]at Z;cases Z
 | some p=>
  obtain⟨F,T⟩:=p;rw[q]at Z;cases F with
  |ex x=>
   cases Z;exact h pins s σ H Q I ⟨ι,S,ρ,rep,re,.ex x,_,q,k⟩
  | ok d=>
   dsimp only at Z;by_cases hl:T.length<=S.length
   ·rw[if_pos hl]at Z;cases Z;exact h pins s σ H Q I ⟨ι,S,ρ,rep,re,.ok d,_,q,k⟩
   ·rw [if_neg hl]at Z;by_cases hk:pj S T
    ·rw [if_pos hk]at Z;cases z:iQ S.length (wq T S.length 60) d with
     |none=>rw[z]at Z;cases Z
     | some u=>
      rw[z]at Z;cases Z;refine dN (h pins s σ H (fun v R=>∃ P:List Addr,∀ os,Q v (nQ P os R)) I ⟨ι,S,ρ,rep,re,.ok d,T,q,fun W R x Y v L=>?_⟩) fun uv s' ⟨v,R,I',L,P,hq⟩=>?_
      ·refine⟨W.drop ι.length,fun os=>?_⟩;obtain⟨x2,rep2⟩:=Bw rep x Y hk os;have U:Rep X.K ι (nQ (W.drop ι.length) os R) (T.take S.length):=by rw[<-rep.len];exact rep2
       have O:W.take ι.length=ι:=by obtain⟨more,rfl⟩:=x.ids;simp
       have rel:RelD X.K ι (nQ (W.drop ι.length) os R) u v:=by
        have:=Bv (n:=ι.length) (os:=os) (fun k us a=>by rw[rep.len];exact Dv Y 60 k us a) Y.nd L (by rw[rep.len];exact z)
        rw[O]at this;exact this
       exact k ι _ x2 U v rel
      ·obtain⟨os,G⟩:=Inv.fz I' P;exact⟨v,_,G,L,hq os⟩
    ·rw[if_neg hk]at Z;cases Z
end
end S3
namespace S4
open PySem PySem.Spec PyProof.Rows L2 S3
theorem Gm{A:Around}(R:A.handled=none)(X:t≠it)(items:Array Value):
  Draws prog w A it [it,t] items.size (fun i v=>items[i]? =some v) (fun i h=>h.IsTupleIter it t i/\h.IsTuple t items) where
 live:=fun _ _ st=>let ⟨⟨o,ho,_⟩,_⟩:=st;⟨o,ho⟩
 frame:=fun _ _ _ st U=>⟨st.1.at fun o e=>U it (by simp) o e,let ⟨o,e,r⟩:=st.2;⟨o,U t (by simp) o e,r⟩⟩
 item:=fun i s Q E W st S=>jh st.1 st.2 (x:=items[i]) (by simp[W]) fun h' Y Z=>S _ h' s.toks (by simp[W]) ⟨Y,let ⟨o,e,r⟩:=st.2;⟨o,Z.extBut _ _ X e,r⟩⟩ Z
 done:=fun s Q E st T=>kj R st.1 st.2 (by simp) T
theorem Gn{A:Around}(R:A.handled=none)(X:t≠it)(items:Array Value):
  Draws prog w A it [it,t] items.size (fun i v=>items[i]? =some v) (fun i h=>h.IsListIter it t i/\h.IsList t items) where
 live:=fun _ _ st=>let ⟨⟨o,ho,_⟩,_⟩:=st;⟨o,ho⟩
 frame:=fun _ _ _ st U=>⟨st.1.at fun o e=>U it (by simp) o e,let ⟨o,e,r⟩:=st.2;⟨o,U t (by simp) o e,r⟩⟩
 item:=fun i s Q E W st S=>wpAny_nextOf_list_item st.1 st.2 (x:=items[i]) (by simp[W]) fun h' Y Z=>S _ h' s.toks (by simp[W]) ⟨Y,let ⟨o,e,r⟩:=st.2;⟨o,Z.extBut _ _ X e,r⟩⟩ Z
 done:=fun s Q E st T=>wpAny_nextOf_list_end R st.1 st.2 (by simp) T
def IQ(rd:Hp->List V->Prop):It:=⟨fun i H=>∃ va,rd H va/\i<va.length,fun i H x H'=>∃ va p v,rd H va/\H p=none/\va[i]? =some v/\x= .ref p/\H'=upd H p (.tup [.int i,v]),fun i H=>∃ va,rd H va/\va.length<=i⟩
theorem rg{P:Program}{w:World}{K:W.Frag}{J:List Expr}{x1}{tp:Pos}{e it t:Addr}(R:e≠it)(r:t≠e)(c4:t≠it){rd:Hp->List V->Prop}{sti:Nat->Heap->Prop}{sq:Array Value->Heap->Prop}
  (so:∀ i h,sti i h->∃ o,h.get? it=some o/\∀ v,o.data≠ .cell v) (sk:∀ i h h',sti i h->(∀ o,h.get? it=some o->h'.get? it=some o)->sti i h')
  (N:∀(X:Cx) pins s σ H U,X.prog=P->X.w=w->X.K=K->L2.Inv X pins σ H s->rd H U->∃ its:List Value,bo U its/\sq its.toArray s.heap)
  (dr:∀(A:Around) (items:Array Value),A.handled=none->Draws P w A it [it,t] items.size (fun i v=>items[i]? =some v) (fun i h=>sti i h/\sq items h))
  (dn:∀(A:Around) (items:Array Value) (i:Nat) (s:Shared) (Q:Value->Shared->Prop) (E:Value->Shared->Prop),A.handled=none->sti i s.heap->sq items s.heap->items[i]? =none->
   (∀ h' e,Heap.ExtBut it s.heap h'->(∃ o,h'.get? e=some o/\o.cls= .type "StopIteration")->E (.ref e) {s with heap:=h'})->wpAny (model P w) A (Builtin.SmallTypes.nextOf (.ref it)) Q E s):
  Turn P w K (.Tuple J x1 tp) (IQ rd) [e,it] e (fun i h=>(∃ old,IsEnum h e it i old)/\sti i h) where
 mem:=by simp
 obj:=fun i h st b Z=>by
  obtain⟨⟨old,he⟩,hs⟩:=st;simp only[List.mem_cons,List.not_mem_nil,or_false]at Z;rcases Z with rfl|rfl
  ·exact⟨_,he,fun v z=>by cases z⟩
  ·exact so i h hs
 keep:=fun i h h' st k=>by
  obtain⟨⟨old,he⟩,hs⟩:=st;exact⟨⟨old,k e (by simp) _ he⟩,sk i h h' hs fun o q=>k it (by simp) o q⟩
 item:=by
  intro X n hw u d i pins s σ H E I hf st hg;subst n hw u;obtain⟨⟨old,he⟩,hs⟩:=st;obtain⟨U,y,ga⟩:=hg;obtain⟨its,B,pl⟩:=N X pins s σ H U rfl rfl rfl I y;have hl:=B.length;obtain⟨u1,g,a5⟩:=B.get (KB ga);have D:=dr X.A.in1 its.toArray (by show X.A.handled=none;exact I.ok.hd d)
  refine wpAny_pyNext_enum_itemD D he ⟨hs,pl⟩ (by rw[KN];omega) R (by simp[R,Ne.symm r]) fun x h' C hx j l G hz hk=>?_
  have O:x=u1:=by
   have:its[i]? =some x:=by simpa using hx
   rw[g]at this;exact(K6 this).symm
  subst O;have p:H s.heap.objs.size=none:=I.hok.fresh (Kz _);have lt:∀{c o},s.heap.get? c=some o->s.heap.objs.size≠c:=fun e=>Mi (KF e);obtain⟨oi,f,_⟩:=so i _ hs;refine⟨_,rfl,wpAny_letOwnedTupleGo_enum j fun S L Y=>?_⟩;have kk:∀ b o,b ∉ [e,it]->s.heap.get? b=some o->S.get? b=some o:=fun b o Z q=>by
   simp only[List.mem_cons,List.not_mem_nil,or_false,not_or]at Z;exact Y.extBut _ _ Z.1 (hk b o Z.1 Z.2 q)
  have a0:S.get? s.heap.objs.size=some {cls:=.type "tuple",data:=.seq #[.int i C,x]}:=Y.extBut _ _ (lt he) G;have I2:L2.Inv X pins σ (upd H s.heap.objs.size (.tup [.int i,U[i]])) {s with heap:=S,toks:=C+1}:=sL (o:=.tup [.int i,U[i]]) I hf kk (Kz _) ⟨by show 2<=sizeLine;decide,[.int i C,x],.cons ⟨C,rfl⟩ (.cons a5 .nil),_,a0,rfl,_,rfl⟩
  refine⟨.ref s.heap.objs.size,_,I2,rfl,⟨U,_,_,y,p,KB ga,rfl,rfl⟩,⟨⟨_,L⟩,sk _ _ _ l.1 fun o q=>(Y.2 it (Ne.symm R)).trans q⟩,fun b Z=>?_⟩;obtain⟨ob,ho,_⟩:∃ ob,s.heap.get? b=some ob/\True:=by
   simp only[List.mem_cons,List.not_mem_nil,or_false]at Z;rcases Z with rfl|rfl
   ·exact⟨_,he,trivial⟩
   ·exact⟨_,f,trivial⟩
  rw[aE (KL (KF ho))];exact(hf b Z).1
 done:=by
  intro X n hw u d i pins s σ H E I hf st hg;subst n hw u;obtain⟨⟨old,he⟩,hs⟩:=st;obtain⟨U,y,ga⟩:=hg;obtain⟨its,B,pl⟩:=N X pins s σ H U rfl rfl rfl I y;have hl:=B.length;have G:s.TypeIs (.ref e) "enumerate":=⟨_,he,rfl⟩;unfold pyNext;refine Kv (MU (wpAny_callSpecial?_slot (name:=Str.ofString "__next__") G F.slot_enumerate_next
   (LC F.slot_enumerate_next G F.entry_enumerate_next ?_ (F.args_enumerate_next_1 _))))
  show wpAny _ _ (field (.ref e) 2>>=_) _ _ _;refine Kv (LH he rfl (x:=.ref it) rfl ?_);refine Kv (dn X.A.in1 its.toArray i s _ _ (by show X.A.handled=none;exact I.ok.hd d) hs pl (by simp;omega) fun h' x a O=>?_)
  obtain⟨o,ho,m⟩:=O;refine Kv (MI (T:="StopIteration") (b:=true) ⟨o,ho,m⟩ NH ?_);exact Ky ⟨rfl,sJ (t':=s.toks) I hf fun b o Z q=>a b o (fun z=>Z (by simp[z])) q⟩
 self:=fun _ _ _ _ _ st h=>by
  obtain⟨⟨old,he⟩,_⟩:=st;exact On he h
theorem uL(l:Addr)(items:Array Value):
  Meets (Builtin.«enumerate.__new__» ⟨[.type "enumerate",.ref l],[]⟩) (fun _ R s=>s.heap.IsTuple l items/\
   R (.ok (.ret (.ref (s.heap.push (Cv l)).objs.size)))
    {s with heap:=(s.heap.push (Cv l)).push {cls:=.type "enumerate",data:=.fields #[.none,.bool false,.ref s.heap.objs.size,rawInt 0,.none,.none]}}):=
 .of_wp fun prog w A R s h=>by
  obtain⟨Q,g,d,P,os⟩:=s;obtain⟨W,h⟩:=h;have U:=sub_enumerate;have X:Heap.IsTuple (Shared.heap ⟨Q,g,d,P,os⟩) l items:=W;obtain⟨⟨c,S,T,O⟩,Z,Y,n,hd⟩:=W;replace Y:c= .type "tuple":=Y;replace hd:T= .seq items n:=hd;subst Y hd
  wp_walk using Mv Z
  refine wpAny_stack_any fun st=>Ky ?_;split
  ·rename_i c _ _ _ _ _
   cases (c==Value.type "enumerate")
   ·wp_walk using Mv Z,Mc X
    exact⟨_,rfl,h⟩
   ·wp_walk using Mv Z,Mc X
    exact⟨_,rfl,h⟩
  ·wp_walk using Mv Z,Mc X
   exact⟨_,rfl,h⟩
section
variable {prog:Program}{w:World}{A:Around}{E:Value->Shared->Prop}{s:Shared}
theorem wt{Q:Value->Shared->Prop}(Y:s.heap.IsTuple l items)
  (h:∀ h',IsEnum h' (s.heap.objs.size+1) s.heap.objs.size 0 .none->h'.IsTupleIter s.heap.objs.size l 0->(∀ b o,s.heap.get? b=some o->h'.get? b=some o)->Q (.ref (s.heap.objs.size+1)) {s with heap:=h'}):
  wpAny (model prog w) A (call (.type "enumerate") [.ref l]) Q E s:=by
 refine callType_new F.called_enumerate (by decide) (F.typeCall_enumerate_1 _) (F.newCall_enumerate_1 _) (fun obj=>F.args_object_init_2 obj _) F.entry_enumerate_new (uL l items) ⟨Y,?_⟩
 have Z:(s.heap.push (Cv l)).objs.size=s.heap.objs.size+1:=LN ..;have g2:=KG (s.heap.push (Cv l)) (o:={cls:=.type "enumerate",data:=.fields #[.none,.bool false,.ref s.heap.objs.size,rawInt 0,.none,.none]}) rfl;have g1:((s.heap.push (Cv l)).push {cls:=.type "enumerate",data:=.fields #[.none,.bool false,.ref s.heap.objs.size,rawInt 0,.none,.none]}).get? s.heap.objs.size=some (Cv l):=Kw _ (KG _ rfl);show _/\_;rw[Z]at g2 ⊢;exact⟨⟨_,g2,rfl⟩,h _ g2 ⟨_,g1,rfl,rfl⟩ fun b o q=>Kw _ (Kw _ q)⟩
end
theorem Dw{X:Cx}{O:List Expr}{x1}{tp p pos:Pos}{e:Expr}{x:TA}(n:Gl X "enumerate")(r:X.mg "enumerate"=none)(w:PA X [e] x)(hs:starEach [e] X.env=[(false,eval e X.env)]:=by rfl):
  PI X (.Tuple O x1 tp) (.Call (.Name "enumerate" p) [e] [] pos) (fun σ H R=>x σ H fun xs Y=>(∃ a U,xs=[.ref a]/\Y a=some (.tup U)/\R (IQ fun H y=>H a=some (.tup y)) Y)\/
   (∃ a U,xs=[.ref a]/\Rd Y a (.lst U)/\R (IQ fun H y=>Rd H a (.lst y)) Y)):=by
 intro pins s σ H R I h;refine Call_ (kG I n r (show bootBuiltins "enumerate"=some (.type "enumerate") by decide+kernel) (LX (dN (w pos pins s σ H _ I h) fun us s1 ⟨vs,Y,I1,r1,q1⟩=>?_) hs (by rfl)) (by decide) (by decide))
 have fresh:∀ c∈[s1.heap.objs.size+1,s1.heap.objs.size],s1.heap.objs.size<=c:=fun c Z=>by
  simp only[List.mem_cons,List.not_mem_nil,or_false]at Z;omega
 rcases q1 with⟨a,U,rfl,hA,q⟩|⟨a,U,rfl,hA,q⟩
 ·obtain⟨u,rfl,C⟩:=vals1 r1;cases (show u=Value.ref a from C);obtain⟨P,G,S,_⟩:=I1.tuple (.of hA);have a1:a<s1.heap.objs.size:=by obtain⟨_,e,_⟩:=S;exact KF e
  refine wt S fun h' T N L=>On T ?_;refine⟨s1.heap.objs.size+1,_,_,_,Y,rfl,I1.kept (t':=s1.toks) L,rg (e:=s1.heap.objs.size+1) (it:=s1.heap.objs.size) (t:=a) (OA _) (KL (LQ a1)) (KL a1) (sti:=fun i h=>h.IsTupleIter s1.heap.objs.size a i) (sq:=fun its h=>h.IsTuple a its)
   (fun i h ⟨o,e,c,d⟩=>⟨o,e,fun v z=>by rw[d]at z;cases z⟩) (fun i h h' st k=>st.at k) (fun X pins s σ H U _ _ _ I K=>let ⟨its,rv,p,_⟩:=I.tuple (.of K);⟨its,rv,p⟩)
   (fun A items W=>Gm W (KL a1) items) (fun A items i s Q E W B F J k=>kj W B F J k),⟨⟨_,T⟩,N⟩,fun c Z=>I1.fpOk (fresh c Z) (I1.hok.fresh (fresh c Z)),q⟩
 ·obtain⟨u,rfl,C⟩:=vals1 r1;cases (show u=Value.ref a from C);obtain⟨P,G,S,_⟩:=I1.list (.inl hA);have a1:a<s1.heap.objs.size:=by obtain⟨_,e,_⟩:=S.isList;exact KF e
  refine call_enumerate_list S.isList fun h' T N m L=>On T ?_;refine⟨s1.heap.objs.size+1,_,_,_,Y,rfl,I1.kept (t':=s1.toks) L,rg (e:=s1.heap.objs.size+1) (it:=s1.heap.objs.size) (t:=a) (OA _) (KL (LQ a1)) (KL a1) (sti:=fun i h=>h.IsListIter s1.heap.objs.size a i) (sq:=fun its h=>h.IsList a its)
   (fun i h ⟨o,e,c,d⟩=>⟨o,e,fun v z=>by rw[d]at z;cases z⟩) (fun i h h' st k=>st.at k) (fun X pins s σ H U _ _ _ I K=>let ⟨its,rv,p,_⟩:=I.list (.inl K);⟨its,rv,p.isList⟩)
   (fun A items W=>Gn W (KL a1) items) (fun A items i s Q E W B F J k=>wpAny_nextOf_list_end W B F J k),⟨⟨_,T⟩,N⟩,fun c Z=>I1.fpOk (fresh c Z) (I1.hok.fresh (fresh c Z)),q⟩
def mZ(xs:List D):List D:=xs.zipIdx.map fun p=>.tup [.int p.2,p.1]
def Er:D->M Iter
 | .tup xs=>pure ⟨mZ xs,.none⟩
 | .fz xs=>pure ⟨mZ xs,.none⟩
 |_=>M.fail
theorem Bx{xs:List D}{i:Nat}{d:D}(h:(mZ xs)[i]? =some d):∃ x,xs[i]? =some x/\d= .tup [.int i,x]:=by
 unfold mZ at h;rw[K1]at h;cases q:xs.zipIdx[i]? with
 |none=>rw[q]at h;cases h
 |some p=>
  rw[q]at h;cases h;rw[List.getElem?_zipIdx]at q;cases z:xs[i]? with
  |none=>rw[z]at q;cases q
  |some x=>rw[z]at q;cases q;exact⟨x,rfl,by simp⟩
theorem m3{K:W.Frag}{ι:List Addr}{H:Hp}{xs:List D}{T:Hp->List V->Prop}(R:∀ H X vb,T H X->T H vb->X=vb)
  (U:∀ Z Y S2,ExtN ι H Z Y->Rep K Z Y S2->∃ X,T Y X/\RelDs K Z Y xs X):jd K ⟨mZ xs,.none⟩ (IQ T) ι H:=by
 intro Z Y S2 e rep2 ok i;obtain⟨X,S,P⟩:=U Z Y S2 e rep2;have J:=P.length;refine⟨fun d hd=>?_,fun hlen=>⟨X,S,by unfold mZ at hlen;simp at hlen;omega⟩⟩
 obtain⟨x,O,rfl⟩:=Bx hd;have L:=(KC.mp O).1;refine⟨⟨X,S,by omega⟩,?_⟩
 rintro v H3 ⟨va',p,v1,gA,hp,g1,rfl,rfl⟩;cases R _ _ _ S gA;obtain⟨v2,e2,N⟩:=P.get' O;obtain rfl:v2=v1:=K6 (e2.symm.trans g1);have Q:Ext Z Y Z (upd Y p (.tup [.int i,v2])):=ef hp;exact⟨Q,fw rep2 hp,.tup aN (.cons (.int _) (.cons (N.later rep2 Q) .nil))⟩
theorem Dx{X:Cx}{E:XD}{Y:List Expr}{x1}{tp p pos:Pos}{a:Expr}{m:TM}(N:X.mg "enumerate"=none)(Q:SE X E a m)(L:Gl X "enumerate":=by rfl)(hs:starEach [a] X.env=[(false,eval a X.env)]:=by rfl):
  SI X E (.Tuple Y x1 tp) (.Call (.Name "enumerate" p) [a] [] pos) (fun ρ=>do let x<-m ρ;Er x):=by
 intro pins s σ H R I h;refine Dw L N (eV Q jJ hs) hs pins s σ H R I ?_;obtain⟨ι,S,ρ,rep,re,c⟩:=h;refine⟨ι,S,ρ,rep,re,ak (ai c) fun d O S1 J e1 rep1 c1 v r=>?_⟩;show(∃ a T,[v]=[V.ref a]/\_)\/_;cases d with
 |tup xs=>
  obtain⟨a,vs,rfl,Z,U⟩:=r.tup_inv;refine .inl ⟨a,vs,rfl,Z,ah c1 .refl rep1 _ (m3 (fun H T K e1 e2=>by rw[e1]at e2;cases e2;rfl) fun W P S2 e rep2=>?_)⟩
  exact⟨vs,(e.oth _ _ Z (rep1.notIn Z (by intro _ z;cases z)) (by intro _ z;cases z) (by intro _ z;cases z)).1,U.laterN rep1 e⟩
 |fz xs=>
  obtain⟨a,o,vs,rfl,Z,U⟩:=r.fz_inv;refine .inr ⟨a,vs,rfl,.inr ⟨o,Z⟩,ah c1 .refl rep1 _ (m3 (fun H T K e1 e2=>Rd.lst_inj e1 e2) fun W P S2 e rep2=>?_)⟩;exact⟨vs,.inr ⟨o,(e.oth _ _ Z (rep1.notIn Z (by intro _ z;cases z)) (by intro _ z;cases z) (by intro _ z;cases z)).1⟩,U.laterN rep1 e⟩
 |_=>exact(ag c1).elim
abbrev By(m:TM):aO->M Iter:=fun ρ=>do let x<-m ρ;Er x
end S4
namespace S3
open PySem PySem.Spec PyProof.Rows L2
section
variable {X:Cx}{E:XD}{a b e c o tg:Expr}{m n l:TM}{pos p2:Pos}{es:List Expr}{ms:aO->M (List D)}
theorem range_any{bs:List Bool}:(List.range bs.length).any (fun i=>bs.getD i false)=bs.any id:=by
 induction bs with
 |nil=>rfl
 |cons b bs ih=>
  rw[KY,Nu,Np,List.any_map];simp only[List.getD_cons_zero,List.any_cons,id];congr 1
theorem zb(P:X.calm=true):dF X (.builtin "any") (fun xs H Q=>∃(p:Addr) (bs:List Bool),xs=[.ref p]/\jB X.K H p (bs.map V.bl)/\Q (.bl (bs.any id)) H):=by
 intro pins s σ H xs us Q I r h;obtain⟨p,bs,rfl,O,q⟩:=h;obtain⟨u,rfl,L⟩:=vals1 r;cases (show u=Value.ref p from L);obtain⟨its,S,N,y⟩:=I.list O;have W:=N.isList;refine call_any_walk (Nw W ?_);have U:p<s.heap.objs.size:=by obtain⟨o,J,_⟩:=W;exact KF J
 have hlen:=S.length;refine⟨s.heap.objs.size,_,_,_,_,_,fun i=>bs.getD i false,rfl,Walks.list (A:=X.A.in1) (by show X.A.handled=none;exact I.ok.hd P) s.heap.objs.size p (KL U) its.toArray,⟨⟨_,KG _ rfl,rfl,rfl⟩,W.push _⟩,?_,fun h' z G=>?_⟩
 ·intro i v s' w x F T;have Z:its[i]? =some v:=by simpa using F
  have B:i<its.length:=(KC.mp Z).1;have Y:i<bs.length:=by rw[Kx]at hlen;omega
  have:(bs.map V.bl)[i]? =some (.bl bs[i]):=by rw[K1,KB Y];rfl
  obtain⟨u,R,C⟩:=S.get this;rw[Z]at R;cases R;cases (show v=Value.bool bs[i]from C);have:bs.getD i false=bs[i]:=by simp[List.getD,Y]
  dsimp only at T;rw[this]at T;exact LP T
 ·have e1:its.toArray.size=bs.length:=by rw[KN, <-hlen,Kx]
  rw[e1,range_any];refine⟨.bl _,H,I.kept (fun b o e=>G b o ?_ (Kw _ e)),rfl,q⟩;have:b≠s.heap.objs.size:=KL (KF e);simpa using this
def Bz:List D->M D
 |[.lst k]=>do
  let xs<-getL k
  match boolsOf xs with
  |some bs=>pure (.bl (bs.any id))
  |none=>M.fail
 |[.fz xs]=>match boolsOf xs with
  |some bs=>pure (.bl (bs.any id))
  |none=>M.fail
 |_=>M.fail
theorem zd:kA X.K E Bz (fun xs H Q=>∃(p:Addr) (bs:List Bool),xs=[.ref p]/\jB X.K H p (bs.map V.bl)/\Q (.bl (bs.any id)) H):=by
 intro ι S H ds vs Q rep r c;unfold Bz at c;split at c
 ·next k=>
  obtain⟨v,ws,rfl,T,W⟩:=r.cons_inv;cases W.nil_inv;obtain⟨p,rfl,U⟩:=T.lst_inv;obtain⟨es,us,_,R,Y,Z⟩:=bg c rep U;cases q:boolsOf es with
  |none=>rw[q]at Z;exact(ag Z).elim
  |some bs=>
   rw[q]at Z;refine⟨p,bs,rfl,.of ?_,ah Z .refl rep _ (.bl _)⟩;rw[<-gq Y q];exact R
 ·next es=>
  obtain⟨v,ws,rfl,T,W⟩:=r.cons_inv;cases W.nil_inv;obtain⟨p,o,us,rfl,U,Y⟩:=T.fz_inv;cases q:boolsOf es with
  |none=>rw[q]at c;exact(ag c).elim
  |some bs=>
   rw[q]at c;refine⟨p,bs,rfl,.inl (.inr ⟨o,?_⟩),ah c .refl rep _ (.bl _)⟩;rw[<-gq Y q];exact U
 ·exact(ag c).elim
theorem Gp(Y:X.calm=true)(Z:X.mg "any"=none)(W:SE X E e m)(U:Gl X "any":=by rfl)(hs:starEach [e] X.env=[(false,eval e X.env)]:=by rfl):SE X E (.Call (.Name "any" p) [e] [] pos) (cL Bz m):=
 iT (zb Y) zd U Z (by decide+kernel) (af W aj hs) (by decide) (by decide) hs rfl
end
end S3
section
namespace S3
open PySem PySem.Spec PyProof.Rows L2
section
variable {prog:Program}{w:World}{A:Around}{R:Result->Shared->Prop}{s:Shared}
theorem wu
  (Y:codeAny (model prog w) A (.compLoop (.ListComp elt [c1,⟨target,iter,ifs,0⟩] scope pos) 1 it acc env) R s)
  (h:wpAny (model prog w) A (pyIter it) (fun Z s'=>codeAny (model prog w) A (.compLoop (.ListComp elt [c1,⟨target,iter,ifs,0⟩] scope pos) 1 Z acc env) R s')
   (notedBy (model prog w) A env fun x s'=>R (.error x) s') s):
  codeAny (model prog w) A (.compStart (.ListComp elt [c1,⟨target,iter,ifs,0⟩] scope pos) 1 it acc env) R s:=by
 refine NR ?_;show wpAny _ _ ((compStart (.ListComp elt [c1,⟨target,iter,ifs,0⟩] scope pos) 1 it acc env).onRaise (fun x=>do noteFrame x env;standAt theWindowsPlace)) _ _ s
 refine wpAny_notedAt ?_;unfold compStart;show wpAny _ _ (ask>>=_) _ _ s;refine Kv (MH (wpAny_ite ?_));split
 ·first
   |exact Kv (Ky (Ky (And.intro rfl Y)))
   |exact Ky (And.intro rfl Y)
 ·first
   |exact Kv (M8 (Kv (LA (Kv (La h (fun Z s' h'=>Ky (And.intro rfl h')) fun _ _ x=>x)))))
   |(refine Kv (M8 ?_);show wpAny _ _ (standAt iter.pos>>=_) _ _ s;exact Kv (LA (Kv (La h (fun Z s' h'=>Ky (And.intro rfl h')) fun _ _ x=>x))))
end
abbrev Gq:=St->Hp->(St->Hp->Prop)->Prop
def xG(J:It)(g:TG)(tt:TT)(tb:Gq)(fin:St->Hp->Prop):St->Hp->Prop:=fun σ H=>∃ W:Nat->Nat->St->Hp->Prop,(∃ m,W 0 m σ H)/\∀ i m σc Hc,W i m σc Hc->
  (J.stop i Hc/\fin σc Hc)\/(J.go i Hc/\∃ N:St->Hp->Prop,(∀ σ' H',N σ' H'->∃ m',m'<m/\W (i+1) m' σ' H')/\∀ x H',J.yld i Hc x H'->g x σc H' fun σ2 H2=>tt σ2 H2 fun b H3=>if b=true then tb σ2 H3 N else N σ2 H3)
def JS(X:Cx)(bd:Sem Unit)(tb:Gq):Prop:=∀(pins:List (Addr×Obj)) (s:Shared) (σ:St) (H:Hp) (N:St->Hp->Prop),Inv X pins σ H s->tb σ H N->∀ E,(∀ v s',X.xe v s'->E v s')->wpAny (model X.prog X.w) X.A bd (fun _ s'=>∃ σ' H',Inv X pins σ' H' s'/\N σ' H') E s
def wx(e:Expr)(d:Nat)(ipos:Pos)(tg:Expr)(ifs:List Expr)(it acc:Value)(env:Env)(bd:Sem Unit):Sem Fin:=do
 standAt ipos
 match<-pyNext it with
 |none=>pure (.done .next)
 | some v=>
  letOwnedTupleGo tg it v
  assign tg env v
  let mut ok:=true
  for c in ifs do
   if ok then ok<-isTrue c env (eval c env)
  if ok then bd
  again (.compLoop e d it acc env)
theorem Il(S R Y U Z:Expr)(W X:List Expr)(scope:Scope)(pos:Pos)(it T:Value)(env:Env):
  compTurn (.ListComp S [⟨R,Y,W,0⟩,⟨U,Z,X,0⟩] scope pos) 0 it T env=wx (.ListComp S [⟨R,Y,W,0⟩,⟨U,Z,X,0⟩] scope pos) 0 Y.pos R W it T env
  (do let x<-eval Z env;standAt Z.pos;let x<-foldedSetIterable Z env x;let _<-runOwn (.compStart (.ListComp S [⟨R,Y,W,0⟩,⟨U,Z,X,0⟩] scope pos) 1 (<-holding [x] (pyIter x)) T env) env):=by
 unfold compTurn wx;simp;rfl
section
variable {X:Cx}{pins:List (Addr×Obj)}{σ:St}{H:Hp}{s:Shared}
theorem uM{O:Nat->Heap->Prop}{Q:St->Hp->Prop}{R:Result->Shared->Prop}
  (S:∀ v s',X.xe v s'->False) (G:X.calm=true) (T:Turn X.prog X.w X.K tg J fp it O) (C:PG X tg g) (F:Cr X ifs tt) (E:JS X bd tb)
  (U:compTurn (.ListComp elt gens scope pos) d (.ref it) acc X.env=wx (.ListComp elt gens scope pos) d ipos tg ifs (.ref it) acc X.env bd)
  (I:Inv X pins σ H s) (t:O 0 s.heap) (f:∀ b∈fp,jI X pins H b) (h:xG J g tt tb Q σ H) (P:∀ s' σ' H',Inv X pins σ' H' s'->Q σ' H'->R (.ok .next) s'):
  codeAny (model X.prog X.w) X.A (.compLoop (.ListComp elt gens scope pos) d (.ref it) acc X.env) R s:=by
 obtain⟨W,⟨m0,w0⟩,turn⟩:=h;have Z:∀{H':Hp},(∀ b∈fp,H' b=none)->∀ b∈fp,jI X pins H' b:=fun q b Y=>⟨q b Y,(f b Y).2⟩;refine codeAny_loop rfl (fun n s'=>∃ i σ' H',Inv X pins σ' H' s'/\O i s'.heap/\(∀ b∈fp,H' b=none)/\W i n σ' H') ?_ m0 ⟨0,_,_,I,t,fun b Y=>(f b Y).1,w0⟩;rintro n s4 ⟨i,σ4,H4,I4,st4,fr4,w4⟩;show wpAny _ X.A ((compTurn (.ListComp elt gens scope pos) d (.ref it) acc X.env).onRaise (fun x=>do noteFrame x X.env;theTreesLotGoes x)) _ _ s4
 refine wpAny_noted ?_;rw[U];refine Kv (LA (Kv ?_));rcases turn i n σ4 H4 w4 with⟨stop,qn⟩|⟨go,N,hN,step⟩
 ·refine La (T.done X rfl rfl rfl G i pins s4 σ4 H4 (fun _ _=>False) I4 (Z fr4) st4 stop) (fun r s5 ⟨hr,I5⟩=>?_) fun _ _ z=>z.elim;subst hr;exact Ky (P s5 σ4 H4 I5 qn)
 ·refine La (T.item X rfl rfl rfl G i pins s4 σ4 H4 (fun _ _=>False) I4 (Z fr4) st4 go) (fun r s5 ⟨u,hr,h5⟩=>?_) fun _ _ z=>z.elim;subst hr;refine Kv (La h5 (fun _ s6 ⟨x,H6,I6,r6,y6,st6,fr6⟩=>?_) fun _ _ z=>z.elim);have L:=I6.pinned (Z fr6) (T.obj _ _ st6);refine Kv (La (C _ s6 σ4 H6 x u _ L r6 (step x H6 y6)) (fun _ s7 ⟨σ7,H7,I7,q7⟩=>?_) fun _ _ z=>(S _ _ z).elim);refine Kv (La (F _ s7 σ7 H7 _ I7 q7) (fun b s8 ⟨H8,I8,q8⟩=>?_) fun _ _ z=>(S _ _ z).elim);have again:∀{σ9:St} {H9:Hp} {s9:Shared},Inv X (pins++l9 fp s6.heap) σ9 H9 s9->N σ9 H9->
    ∃ m,m<n/\∃ i σ' H',Inv X pins σ' H' s9/\O i s9.heap/\(∀ b∈fp,H' b=none)/\W i m σ' H':=fun{σ9 H9 s9} I9 n9=>by
   obtain⟨B,hm,y⟩:=hN σ9 H9 n9;refine⟨B,hm,i+1,σ9,H9,I9.unpinned,T.keep _ _ _ st6 fun b Y o e=>(I9.pin (b,o) (KZ _ (KZ _ (fU Y e)))).1,fun b Y=>?_,y⟩;obtain⟨o,e,d⟩:=T.obj _ _ st6 b Y;exact(I9.pin (b,o) (KZ _ (KZ _ (fU Y e)))).2.1
  cases b with
  |false=>exact Ky ⟨rfl,again I8 q8⟩
  |true=>exact Kv (La (E _ s8 σ7 H8 N I8 q8 (fun _ _=>False) fun _ _ z=>(S _ _ z).elim) (fun _ s9 ⟨σ9,H9,I9,q9⟩=>Ky ⟨rfl,again I9 q9⟩) fun _ _ z=>z.elim)
def zh(p:Addr)(te:TE):Gq:=fun σ H N=>te σ H fun y H4=>∃ xs,H4 p=some (.lst xs)/\xs.length<sizeLine/\N σ (upd H4 p (.lst (xs++[y])))
theorem Dy(W:PE X elt te):JS X (do let _<-call (.builtin "list.append") [.ref p, <-eval elt X.env]) (zh p te):=by
 intro pins s σ H N I h E Y;refine Kv (La (W _ s σ H _ I h) (fun y s9 ⟨yv,H9,I9,r9,q9⟩=>?_) Y);obtain⟨xs,Z,S,T⟩:=q9;refine Kv (La (ma (X:=X) _ s9 σ H9 (.ref p) [yv] (.ref p) [y] (fun _ U=>N σ U) I9 rfl (.cons r9 .nil) ⟨p,xs,yv,rfl,rfl,Z,S,T⟩) (fun _ s10 ⟨_,H10,I10,_,q10⟩=>?_) Y);exact Ky ⟨σ,H10,I10,q10⟩
def IR(wi:TI)(g:TG)(tt:TT)(tb:Gq):Gq:=fun σ H N=>wi σ H fun J H1=>xG J g tt tb N σ H1
theorem Gr(U:∀ v s',X.xe v s'->False)(Q:X.calm=true)(O:PI X tg iter wi)(L:PG X tg g)(P:Cr X ifs tt)(R:PE X elt te)
  (hs:∀ x,foldedSetIterable iter X.env x=pure x):
  JS X (do let x<-eval iter X.env;standAt iter.pos;let x<-foldedSetIterable iter X.env x;let _<-runOwn (.compStart (.ListComp elt [c1,⟨tg,iter,ifs,0⟩] scope pos) 1 (<-holding [x] (pyIter x)) (.ref p) X.env) X.env) (IR wi g tt (zh p te)):=by
 intro pins s σ H N I h E S;refine Kv (La (O pins s σ H _ I h) (fun v s1 y=>?_) S);refine Kv (LA (Kv (OJ (hs v) (Kv (Lm (La y (fun G s2 F=>?_) S))))));obtain⟨it,q,t,J,u,e,K,T,Y,f2,B⟩:=F;subst e;have loop:codeAny (model X.prog X.w) X.A (.compLoop (.ListComp elt [c1,⟨tg,iter,ifs,0⟩] scope pos) 1 (.ref it) (.ref p) X.env) (fun r s'=>match r with| .ok f=>wpAny (model X.prog X.w) X.A (pure ()) (fun _ s'=>∃ Z W,Inv X pins Z W s'/\N Z W) E s'| .error e=>cameBackBy (model X.prog X.w) X.A X.env E e s') s2:=
  uM (ipos:=iter.pos) U Q T L P (Dy R) (by rfl) K Y f2 B fun s' Z W C z=>Ky ⟨Z,W,C,z⟩
 exact Kv (wpAny_runOwn (wu loop (T.self _ 0 _ _ _ Y loop)))
end
end S3
namespace S3
open PySem PySem.Spec PyProof.Rows L2
def BA(wi:TI)(js:List (Option Nat))(g:TG)(tt:TT)(tb:Addr->Gq):TE:=fun σ H Q=>wi σ H fun J H1=>∀ p,H1 p=none->xG J g tt (tb p) (fun _ H'=>Q (.ref p) H') (nu js σ) (upd H1 p (.lst []))
section
variable {X:Cx}{scope:Scope}{Nc:List Str}{js:List (Option Nat)}{pins:List (Addr×Obj)}{σ:St}{H:Hp}{s:Shared}
theorem BB(c:CompScope X scope Nc js)(a:X.calm=true)(hi:PI X tg iter wi)
  (j:∀ C ex s H,PG (aZ X scope Nc C ex s H) tg g/\Cr (aZ X scope Nc C ex s H) ifs tt/\PI (aZ X scope Nc C ex s H) tg2 iter2 wi2/\PG (aZ X scope Nc C ex s H) tg2 g2/\Cr (aZ X scope Nc C ex s H) ifs2 tt2/\PE (aZ X scope Nc C ex s H) elt te)
  (hs:∀ x,foldedSetIterable iter X.env x=pure x:=by intro _;rfl) (l:∀ env x,foldedSetIterable iter2 env x=pure x:=by intro _ _;rfl):
  PE X (.ListComp elt [⟨tg,iter,ifs,0⟩,⟨tg2,iter2,ifs2,0⟩] scope pos) (BA wi js g tt fun p=>IR wi2 g2 tt2 (zh p te)):=by
 intro pins s σ H Q I h;rw[eval_ListComp];refine wpAny_comprehension_free rfl hs (i7 scope X.env (c.has I.ok)) c.kind c.loc (dN (hi pins s σ H _ I h) fun v s1 O=>dN O fun b6 s2 h2=>?_);obtain⟨it,U,tn,J,Y,e,I2,T,N,f2,i⟩:=h2;subst e;refine Ln (qJ fun O S R W=>?_);dsimp only at S R W ⊢;have i:=i s2.heap.objs.size (I2.hok.fresh (Kz _));have k:Inv X pins σ (upd Y s2.heap.objs.size (.lst [])) {s2 with heap:=s2.heap.push {cls:=.type "list",dict:=none,data:=.seq ([]:List Value).toArray}}:=
  I2.laid (t':=s2.toks) (fun _ _ q=>Kw _ q) (Kz _) ⟨K5 _,[],0,.nil,KG _ rfl⟩
 generalize hS3:({s2 with heap:=s2.heap.push {cls:=.type "list",dict:=none,data:=.seq ([]:List Value).toArray}}:Shared)=s3 at k;have e3:s3.heap=s2.heap.push {cls:=.type "list",dict:=none,data:=.seq ([]:List Value).toArray}:=by rw[<-hS3]
 rw[<-e3]at S R W ⊢;generalize hp:s2.heap.objs.size=p at*;have K:∀ b∈U,b<p:=fun b Z=>by
  obtain⟨o,e,_⟩:=T.obj _ _ N b Z;rw[<-hp];exact KF e
 have t:∀ b∈U,b≠p:=fun b Z=>KL (K b Z);have u:∀ b∈U,jI X pins (upd Y p (.lst [])) b:=fun b Z=>⟨by rw[aE (t b Z)];exact(f2 b Z).1,(f2 b Z).2⟩
 have L:s3.heap.objs.size=p+1:=by rw[e3,LN,hp]
 have F:∀ b∈U,b<s3.heap.objs.size:=fun b Z=>by rw[L];exact LQ (K b Z)
 have P:∀ b o,s3.heap.get? b=some o->O.get? b=some o:=R;have d:tn 0 O:=T.keep _ _ _ N fun b Z o e=>P b o (by rw[e3];exact Kw _ e)
 generalize hC:s3.heap.objs.size=C at*;have n:O.Ns C (fun _=>none):=by simpa using S
 have start:∀ tk,Inv (aZ X scope Nc C U s3 (upd Y p (.lst []))) [] (nu js σ) (upd Y p (.lst [])) {s3 with heap:=O,toks:=tk}:=fun tk=>oq c k u (fun b Z=>by rw[hC];exact F b Z) hC.symm n P W
 have ok:=(start 0).ok;have G:∀ b∈U,jI (aZ X scope Nc C U s3 (upd Y p (.lst []))) [] (upd Y p (.lst [])) b:=fun b Z=>
  ⟨(u b Z).1,(ok.exf b Z).1,ok.exfs b Z,.inl Z,(ok.exf b Z).2,fun _ z=>nomatch z⟩
 obtain⟨hG,hT,E,y,r,hE⟩:=j C U s3 (upd Y p (.lst []));have loop:∀ s':Shared,Inv (aZ X scope Nc C U s3 (upd Y p (.lst []))) [] (nu js σ) (upd Y p (.lst [])) s'->tn 0 s'.heap->
   codeAny (model X.prog X.w) X.A (.compLoop (.ListComp elt [⟨tg,iter,ifs,0⟩,⟨tg2,iter2,ifs2,0⟩] scope pos) 0 (.ref it) (.ref p) (aZ X scope Nc C U s3 (upd Y p (.lst []))).env) (compPost (model X.prog X.w) X.A X.xe none (EP X pins σ Q) (.ref p) C) s':=by
  intro s' I' f;refine uM (X:=aZ X scope Nc C U s3 (upd Y p (.lst []))) (ipos:=iter.pos) (fun _ _ z=>z) a T hG hT (Gr (c1:=⟨tg,iter,ifs,0⟩) (scope:=scope) (pos:=pos) (fun _ _ z=>z) a E y r hE (l _)) (Il ..) I' f G i fun s5 c2 H5 I5 q5=>?_;obtain⟨m,hm,_⟩:=I5.loc;exact⟨m,hm,fun h2 B=>⟨.ref p,H5,t7 k hC.symm u I5 B,rfl,q5⟩⟩
 refine codeAny_compStart_list (loop _ ?_ ?_) (T.self _ 0 _ _ _ ?_ (loop _ ?_ ?_))
 all_goals first
  |exact d
  |(subst hS3;exact start _)
end
end S3
end
namespace S3
open PySem PySem.Spec PyProof.Rows L2
abbrev BM:=aO->M (List D×aO)
def cB(it:Iter)(g:mP)(t:aO->M Bool)(bd:BM):List D->aO->M (List D×aO)
 |[],ρ=>do gH it;pure ([],ρ)
 | d::ds,ρ=>do
  gH it
  let ρ1<-g d ρ;let b<-t ρ1
  if b=true then do
   let x<-bd ρ1;let y<-cB it g t bd ds x.2
   pure (x.1++y.1,y.2)
  else cB it g t bd ds ρ1
def wy(m:TM):BM:=fun ρ=>do let y<-m ρ;pure ([y],ρ)
def Dz(mi:aO->M Iter)(g:mP)(t:aO->M Bool)(m:TM):BM:=fun ρ=>do let it<-mi ρ;if it.items.length<=3000 then cB it g t (wy m) it.items ρ else M.fail
abbrev jr(mi:aO->M Iter)(g:mP)(t:aO->M Bool)(mi2:aO->M Iter)(g2:mP)(t2:aO->M Bool)(m:TM)(js:List (Option Nat)):TM:=fun ρ=>do
 let it<-mi ρ;let x<-(if it.items.length<=3000 then cB it g t (Dz mi2 g2 t2 m) it.items (jD js ρ)else M.fail)
 bM x.1
section
variable {K:W.Frag}{p:Addr}{Q:D->List Addr->aB->Hp->Prop}
structure MkL(K:W.Frag)(p:Addr)(ι:List Addr)(S:aB)(ρ:aO)(σ:St)(H:Hp)(xs:List D):Prop where
 rep:Rep K ι (cQ H p) S
 re:RelE K ι (cQ H p) ρ σ
 lst:∃ vs,H p=some (.lst vs)/\RelDs K ι (cQ H p) xs vs
 out:p ∉ ι
abbrev KM:=List D->aO->M D
def BC(K:W.Frag)(p:Addr)(Q:D->List Addr->aB->Hp->Prop)(B:Nat)(bd:BM)(tb:Gq):Prop:=
 ∀ ι S ρ σ H xs (k:KM) (N:St->Hp->Prop) (n:Nat),MkL K p ι S ρ σ H xs->xs.length<=n->n+B<=lim->cont K cA (bd ρ>>=fun x=>k (xs++x.1) x.2) ι S (cQ H p) Q->
  (∀ ι' S' ρ' σ' H' xs',MkL K p ι' S' ρ' σ' H' xs'->xs'.length<=n+B->Ext ι (cQ H p) ι' (cQ H' p)->cont K cA (k xs' ρ') ι' S' (cQ H' p) Q->N σ' H')->tb σ H N
theorem Gs:BC K p Q 1 (wy m) (zh p (tM K cA m)):=by
 intro ι S ρ σ H xs k N n mk O L c R;obtain⟨vs,U,P⟩:=mk.lst;have T:cont K cA (m ρ>>=fun y=>k (xs++[y]) ρ) ι S (cQ H p) Q:=by
  have:(wy m ρ>>=fun x=>k (xs++x.1) x.2)=(m ρ>>=fun y=>k (xs++[y]) ρ):=by
   show((m ρ>>=fun y=>pure ([y],ρ))>>=_)=_;rw[cM];rfl
  rw[<-this];exact c
 refine⟨ι,S,ρ,mk.rep.unhide,mk.re.unhide,ak (fW (E:=cA) (ai T) U mk.out) fun y ι6 S6 H6 e6 rep6 ⟨hp6,hn6,c7⟩ yv ry=>?_⟩;have Y:Ext ι (cQ H p) ι6 (cQ H6 p):=e6.hide;have Z:=P.later mk.rep Y;have X:vs.length<sizeLine:=by rw[<-Z.length];exact Nat.lt_of_le_of_lt (by omega) Au
 refine⟨vs,hp6,X,R ι6 S6 ρ σ _ (xs++[y]) ⟨?_,?_,⟨vs++[yv],aN,?_⟩,hn6⟩ (by simp;omega) ?_ ?_⟩
 ·rw[dX];exact rep6.hide hp6 hn6
 ·rw[dX];exact(mk.re.unhide.later mk.rep.unhide e6).hide hp6
 ·rw[dX];exact Z.append (.cons (ry.hide hp6) .nil)
 ·rw[dX];exact Y
 ·rw[dX];exact c7
theorem uN{k:KM}{F:St->Hp->Prop}(d:jd K it J ι1 H1)(hB:BC K p Q B bd tb)
  (mk:MkL K p ι S ρ σ H xs) (e1:∀ ι2 Y,Ext ι (cQ H p) ι2 (cQ Y p)->ExtN ι1 H1 ι2 Y) (hl:xs.length<=n) (hn:n+it.items.length*B<=lim) (c:cont K cA (cB it g t bd it.items ρ>>=fun x=>k (xs++x.1) x.2) ι S (cQ H p) Q)
  (hf:∀ ι' S' ρ' X U xs',MkL K p ι' S' ρ' X U xs'->xs'.length<=n+it.items.length*B->Ext ι (cQ H p) ι' (cQ U p)->cont K cA (k xs' ρ') ι' S' (cQ U p) Q->F X U):
  xG J (Ct K cA g) (yz K cA t) tb F σ H:=by
 refine⟨fun i m L Y=>∃ ι2 S2 ρ2 xs2,m=it.items.length - i/\i<=it.items.length/\MkL K p ι2 S2 ρ2 L Y xs2/\xs2.length<=n+i*B/\Ext ι (cQ H p) ι2 (cQ Y p)/\
  cont K cA (cB it g t bd (it.items.drop i) ρ2>>=fun x=>k (xs2++x.1) x.2) ι2 S2 (cQ Y p) Q,⟨_,ι,S,ρ,xs,rfl,K5 _,mk,by omega,.refl,c⟩,?_⟩
 rintro i m L Y ⟨ι2,S2,ρ2,xs2,hm,hi',mk2,hl2,e2,c2⟩;by_cases hlt:i<it.items.length
 ·have hd:it.items.drop i=it.items[i]::it.items.drop (i+1):=M0 hlt;rw[hd]at c2;have O:cont K cA (gH it>>=fun _=>g it.items[i] ρ2>>=fun Z=>t Z>>=fun b=>if b=true then bd Z>>=fun x=>(cB it g t bd (it.items.drop (i+1)) x.2>>=fun y=>k (xs2++x.1++y.1) y.2)else cB it g t bd (it.items.drop (i+1)) Z>>=fun x=>k (xs2++x.1) x.2) ι2 S2 (cQ Y p) Q:=by
   have:(cB it g t bd (it.items[i]::it.items.drop (i+1)) ρ2>>=fun x=>k (xs2++x.1) x.2)=(gH it>>=fun _=>g it.items[i] ρ2>>=fun Z=>t Z>>=fun b=>if b=true then bd Z>>=fun x=>(cB it g t bd (it.items.drop (i+1)) x.2>>=fun y=>k (xs2++x.1++y.1) y.2)else cB it g t bd (it.items.drop (i+1)) Z>>=fun x=>k (xs2++x.1) x.2):=by
    show((gH it>>=fun _=>g it.items[i] ρ2>>=fun Z=>t Z>>=fun b=>if b=true then bd Z>>=fun x=>cB it g t bd (it.items.drop (i+1)) x.2>>=fun y=>pure (x.1++y.1,y.2)else cB it g t bd (it.items.drop (i+1)) Z)>>=fun x=>k (xs2++x.1) x.2)=_;simp only[cM,xa,ay,List.append_assoc]
   rw[<-this];exact c2
  obtain⟨ok,A⟩:=iU O mk2.rep;obtain⟨l,a⟩:=d ι2 Y S2 (e1 _ _ e2) mk2.rep.unhide ok i;obtain⟨go,yl⟩:=l it.items[i] (KB hlt);have P:n+i*B+B<=lim:=by
   have:(i+1)*B<=it.items.length*B:=Nat.mul_le_mul_right _ hlt;rw[Nd]at this;omega
  refine .inr ⟨go,fun X U=>∃ ι3 S3 ρ3 xs3,MkL K p ι3 S3 ρ3 X U xs3/\xs3.length<=n+(i+1)*B/\Ext ι (cQ H p) ι3 (cQ U p)/\cont K cA (cB it g t bd (it.items.drop (i+1)) ρ3>>=fun x=>k (xs3++x.1) x.2) ι3 S3 (cQ U p) Q,?_,fun x e hy=>?_⟩
  ·rintro X U ⟨ι3,S3,ρ3,xs3,h1,h2,h3,h4⟩;exact⟨_,by omega,ι3,S3,ρ3,xs3,rfl,hlt,h1,h2,h3,h4⟩
  ·obtain⟨e3,rep3,rd⟩:=yl x e hy;obtain⟨vs,r,rx⟩:=mk2.lst;have I:=mk2.out;obtain⟨u,_⟩:=e3.oth p _ r I (by intro _ z;cases z)
   have C:Ext ι2 (cQ Y p) ι2 (cQ e p):=e3.hide;have c4:=ai (fV A C);refine⟨ι2,S2,ρ2,it.items[i],rep3,mk2.re.unhide.later mk2.rep.unhide e3,rd,ak (fW (E:=cA) c4 u I) fun ρ4 ι4 S4 H4 e4 rep4 ⟨hp4,hn4,c5⟩ σ4 re4=>?_⟩;have j:Rep K ι4 (cQ H4 p) S4:=rep4.hide hp4 hn4;have v:Ext ι2 (cQ Y p) ι4 (cQ H4 p):=C.trans e4.hide;refine⟨ι4,S4,ρ4,rep4,re4,ak (fW (E:=cA) (ai c5) hp4 hn4) fun b ι5 S5 H5 e5 rep5 ⟨hp5,hn5,c6⟩=>?_⟩;have N:Rep K ι5 (cQ H5 p) S5:=rep5.hide hp5 hn5;have T:Ext ι2 (cQ Y p) ι5 (cQ H5 p):=v.trans e5.hide;have o:RelE K ι5 H5 ρ4 σ4:=re4.later rep4 e5;have G:MkL K p ι5 S5 ρ4 σ4 H5 xs2:=⟨N,o.hide hp5,⟨vs,hp5,rx.later mk2.rep T⟩,hn5⟩;cases b with
   |false=>
    have R:cont K cA (cB it g t bd (it.items.drop (i+1)) ρ4>>=fun x=>k (xs2++x.1) x.2) ι5 S5 (cQ H5 p) Q:=c6;exact⟨ι5,S5,ρ4,xs2,G,by rw[Nd];omega,e2.trans T,R⟩
   |true=>
    have R:cont K cA (bd ρ4>>=fun x=>(fun ys ρ'=>cB it g t bd (it.items.drop (i+1)) ρ'>>=fun y=>k (ys++y.1) y.2) (xs2++x.1) x.2) ι5 S5 (cQ H5 p) Q:=c6;refine hB ι5 S5 ρ4 σ4 H5 xs2 (fun ys ρ'=>cB it g t bd (it.items.drop (i+1)) ρ'>>=fun y=>k (ys++y.1) y.2) _ (n+i*B) G hl2 P R fun s S6 q a6 H6 f h a3 e6 c7=>?_;exact⟨s,S6,q,f,h,by rw[Nd];omega,e2.trans (T.trans e6),c7⟩
 ·have hd:it.items.drop i=[]:=Nt (by omega)
  rw[hd]at c2;have O:cont K cA (gH it>>=fun _=>k (xs2++[]) ρ2) ι2 S2 (cQ Y p) Q:=by
   have:(cB it g t bd [] ρ2>>=fun x=>k (xs2++x.1) x.2)=(gH it>>=fun _=>k (xs2++[]) ρ2):=by
    show((gH it>>=fun _=>pure ([],ρ2))>>=fun x=>k (xs2++x.1) x.2)=_;simp only[cM,ay]
   rw[<-this];exact c2
  obtain⟨ok,A⟩:=iU O mk2.rep;rw[Lg]at A;have w:i=it.items.length:=by omega
  refine .inl ⟨(d ι2 Y S2 (e1 _ _ e2) mk2.rep.unhide ok i).2 (by omega),?_⟩
  exact hf ι2 S2 ρ2 L Y xs2 mk2 (by rw[<-w];exact hl2) e2 A
theorem Ext.unhideP{H:Hp}(e:Ext ι (cQ H p) ι' (cQ H' p))(Y:H p=some (.lst ws)):ExtN ι H ι' H':=
 ⟨e.ids,fun a o h n t l=>by
  have Z:a≠p:=fun z=>by subst z;rw[Y]at h;exact l ws (K6 h).symm
  obtain⟨U,X⟩:=e.oth a o (by rw[hide_ne Z];exact h) n t
  exact⟨(cH U).2,X⟩⟩
theorem Im:BC K p Q 3000 (Dz mi g t m) (IR (G0 K cA mi) (Ct K cA g) (yz K cA t) (zh p (tM K cA m))):=by
 intro ι S ρ σ H xs k N n mk G w c A;obtain⟨vs,L,z⟩:=mk.lst;have C:cont K cA (mi ρ>>=fun it=>(if it.items.length<=3000 then cB it g t (wy m) it.items ρ else M.fail)>>=fun x=>k (xs++x.1) x.2) ι S (cQ H p) Q:=by
  have:(Dz mi g t m ρ>>=fun x=>k (xs++x.1) x.2)=(mi ρ>>=fun it=>(if it.items.length<=3000 then cB it g t (wy m) it.items ρ else M.fail)>>=fun x=>k (xs++x.1) x.2):=by
   show((mi ρ>>=fun it=>_)>>=_)=_;rw[cM]
  rw[<-this];exact c
 refine⟨ι,S,ρ,mk.rep.unhide,mk.re.unhide,ak (fW (E:=cA) (ai C) L mk.out) fun it ι1 S1 H1 e1 rep1 ⟨hp1,hn1,c1⟩ J hJ=>?_⟩;have Z:Ext ι (cQ H p) ι1 (cQ H1 p):=e1.hide;have X:MkL K p ι1 S1 ρ σ H1 xs:=⟨rep1.hide hp1 hn1,(mk.re.unhide.later mk.rep.unhide e1).hide hp1,⟨vs,hp1,z.later mk.rep Z⟩,hn1⟩;by_cases h:it.items.length<=3000
 ·rw[if_pos h]at c1;exact uN (k:=k) hJ Gs X (fun O y e=>e.unhideP hp1) G (by omega) c1 fun U F ρ' T B Y mk' P I R=>A U F ρ' T B Y mk' (by omega) (Z.trans I) R
 ·rw[if_neg h]at c1;exact(ag (ai c1)).elim
section
variable {X:Cx}{scope:Scope}{Nc:List Str}{js:List (Option Nat)}{elt tg iter tg2 iter2:Expr}{ifs ifs2:List Expr}{pos:Pos}{mi mi2:aO->M Iter}{g g2:mP}{t t2:aO->M Bool}{m:TM}
theorem zj{R:St}{H:Hp}{Q:VK}(h:tM X.K cA (jr mi g t mi2 g2 t2 m js) R H Q):
  BA (G0 X.K cA mi) js (Ct X.K cA g) (yz X.K cA t) (fun p=>IR (G0 X.K cA mi2) (Ct X.K cA g2) (yz X.K cA t2) (zh p (tM X.K cA m))) R H Q:=by
 obtain⟨ι,S,ρ,rep,re,c⟩:=h;refine⟨ι,S,ρ,rep,re,ak (ai c) fun it N S1 T e1 rep1 c1 J E p U=>?_⟩;by_cases hl:it.items.length<=3000
 ·rw[if_pos hl]at c1;have Z:cQ (upd T p (.lst [])) p=T:=by rw[dX,gY U]
  refine uN (K:=X.K) (p:=p) (Q:=kH X.K Q) (n:=0) (xs:=[]) (k:=fun xs _=>bM xs) (S:=S1) (ρ:=jD js ρ) E Im ⟨by rw[Z];exact rep1,by rw[Z];exact(re.later rep e1).blk js,⟨[],aN,by rw[Z];exact .nil⟩,rep1.free U⟩
   (fun P y e=>by rw[Z]at e;exact e.unhide.n) (K5 _) (by unfold lim;omega) (by rw[Z];exact c1) fun F B ρ' C A G mk' L z O=>?_
  obtain⟨vs,Y,I⟩:=mk'.lst;have:=(bt O mk'.rep I).2 p kd;rw[ub Y]at this;exact this
 ·rw[if_neg hl]at c1;exact(ag (ai c1)).elim
theorem uO(c:CompScope X scope Nc js)(U:X.calm=true)(T:SI X cA tg iter mi)
  (Y:∀ C ex s H,SG (aZ X scope Nc C ex s H) cA tg g/\G1 (aZ X scope Nc C ex s H) cA ifs t/\SI (aZ X scope Nc C ex s H) cA tg2 iter2 mi2/\SG (aZ X scope Nc C ex s H) cA tg2 g2/\G1 (aZ X scope Nc C ex s H) cA ifs2 t2/\SE (aZ X scope Nc C ex s H) cA elt m)
  (hs:∀ x,foldedSetIterable iter X.env x=pure x:=by intro _;rfl) (Z:∀ env x,foldedSetIterable iter2 env x=pure x:=by intro _ _;rfl):
  SE X cA (.ListComp elt [⟨tg,iter,ifs,0⟩,⟨tg2,iter2,ifs2,0⟩] scope pos) (jr mi g t mi2 g2 t2 m js):=
 PE.imp (BB (wi2:=G0 X.K cA mi2) (g:=Ct X.K cA g) (tt:=yz X.K cA t) (g2:=Ct X.K cA g2) (tt2:=yz X.K cA t2) (te:=tM X.K cA m) c U T Y hs Z) fun _ _ _ q=>zj q
end
end
end S3
namespace S7
open PySem PySem.Spec PyProof.Rows L2 S3
section
open Sem (wp)
section
variable {prog:Program}{w:World}{A:Around}{E:Value->Shared->Prop}{h:Heap}{g:Array GenState}{d:Drawn}{t:Nat}{os:OsState}
variable {nm q:Str}{C N:Addr}{bs bm bmB:List Value}{hdct:Bool}{sn:List Str}{sub:List Value}{ab:Bool}{col:Option Bool}{dd:Option Addr}{k0 k1 k2 k3 k5:Option Value}{B Bn newId nid initId inN:String}{bmN:List Value}
theorem ny(O:ExcBaseFacts Bn newId inN bmN)(S:bmB.contains (.type Bn)=true)(F:ExcBaseFacts B nid initId bmB)(T:OwnTail h bmB bm){mN:Str->Option Value}{rest:List Value}{fI:Addr}{oI:Obj}{Q:Fin->Shared->Prop}
  (R:h.get? C=some (excClassObj nm q C N bs bm hdct sn sub ab col dd k0 k1 k2 k3 k5 newId)) (z:h.Ns N mN) (I:mN "__init__"=some (.ref fI)) (P:h.get? fI=some oI) (L:oI.cls= .type "function")
  (J:∀ h' e,Heap.MadeExcOf h h' e (.ref C) rest->
   wpAny (model prog w) A (call (.ref fI) (.ref e::rest)) (fun r s'=>r= .none/\Q (.done (.ret (.ref e))) s') E ⟨h',g,d,t,os⟩) (hrest:rest.length<=sizeLine:=by size_fits):
  wpAny (model prog w) A (Builtin.«type.__call__» ⟨.ref C::rest,[]⟩) Q E ⟨h,g,d,t,os⟩:=by
 repeat (first|with_reducible refine MV R ?_ |with_reducible refine wpAny_madeBy_exc R ?_ |wp_step)
 refine codeAny_call_builtin_code (N8 _ O.quiet) (wpAny_check_new_subU O S T R ?_);refine codeAny_exc_new_subU O S F T R ?_ hrest;show wpAny _ _ _ _ _ _;have Z:=Kw {cls:=.ref C,data:=.fields #[.ref h.objs.size,.none,.none,.none,.bool false,.none]}
  (Kw {cls:=.type "tuple",data:=.seq rest.toArray} R)
 have Y:=Kw {cls:=.ref C,data:=.fields #[.ref h.objs.size,.none,.none,.none,.bool false,.none]}
  (Kw {cls:=.type "tuple",data:=.seq rest.toArray} P)
 have W:((h.push {cls:=.type "tuple",data:=.seq rest.toArray}).push {cls:=.ref C,data:=.fields #[.ref h.objs.size,.none,.none,.none,.bool false,.none]}).Ns N mN:=
  let ⟨o,es,ep,e,r⟩:=z;⟨o,es,ep,Kw _ (Kw _ e),r⟩
 have X:((h.push {cls:=.type "tuple",data:=.seq rest.toArray}).push
   {cls:=.ref C,data:=.fields #[.ref h.objs.size,.none,.none,.none,.bool false,.none]}).get? (h.objs.size+1)=some
   {cls:=.ref C,data:=.fields #[.ref h.objs.size,.none,.none,.none,.bool false,.none]}:=by heap_get
 have K:(Value.ref C::bm).contains (.ref C)=true:=by simp
 have U:=T.keeps (h':=(h.push {cls:=.type "tuple",data:=.seq rest.toArray}).push {cls:=.ref C,data:=.fields #[.ref h.objs.size,.none,.none,.none,.bool false,.none]})
  fun b o e=>Kw _ (Kw _ e)
 unfold isInstance
 repeat (first|with_reducible refine MV X ?_ |(with_reducible refine wpAny_isSubtype_exc Z ?_;rw[K])|wp_step)
 show wpAny _ _ (typeLookup (.ref C) _) _ _ _;refine wpAny_typeLookup_tail Z W U F.mroIs F.init.lookup ?_;rw[I];refine Lm (Kv ?_);unfold bindSpecial;refine Kv (Na (T:="function") ⟨_,Y,L⟩ ?_);rw[if_pos (by decide)]
 refine Ky (Kv (La (J _ (h.objs.size+1) ⟨fun b o y=>Kw _ (Kw _ y),LF (M5 _),h.objs.size,X,LF (Kz _),?_⟩) (fun r s' G=>?_) fun _ _ x=>x))
 ·exact Kw _ (Heap.get?_push_at rfl rfl)
 ·obtain⟨rfl,H⟩:=G
  wp_walk
  exact H
theorem wz(R:ExcBaseFacts Bn newId inN bmN)(Y:bmB.contains (.type Bn)=true)(F:ExcBaseFacts B nid initId bmB)(T:OwnTail h bmB bm){mN:Str->Option Value}{rest:List Value}{fI:Addr}{oI:Obj}{Q:Value->Shared->Prop}
  (Z:h.get? C=some (excClassObj nm q C N bs bm hdct sn sub ab col dd k0 k1 k2 k3 k5 newId)) (P:h.Ns N mN) (S:mN "__init__"=some (.ref fI)) (X:h.get? fI=some oI) (W:oI.cls= .type "function")
  (U:∀ h' e,Heap.MadeExcOf h h' e (.ref C) rest->
   wpAny (model prog w) (A.under (.builtin "type.__call__" ⟨.ref C::rest,[]⟩)) (call (.ref fI) (.ref e::rest)) (fun r s'=>r= .none/\Q (.ref e) s') E ⟨h',g,d,t,os⟩) (hrest:rest.length<=sizeLine:=by size_fits):
  wpAny (model prog w) A (call (.ref C) rest) Q E ⟨h,g,d,t,os⟩:=by
 have f1:=tc_lookup;have f2:=tc_bind (.ref C);have O:(⟨h,g,d,t,os⟩:Shared).TypeIs (.ref C) "type":=⟨_,Z,rfl⟩;refine Nz (NR ?_);show wpAny _ _ (callAny (.ref C) _) _ _ _
 repeat (any_goals (first|assumption|with_reducible refine MV Z ?_ |wp_step))
 refine⟨rfl,?_⟩;refine codeAny_call_builtin_at (N8 _ (by decide+kernel)) entry_typeCall (wpAny_check_type_call_sub Z (ny (hrest:=hrest) R Y F T Z P S X W fun h' e hm=>?_))
 exact U h' e hm
end
section
variable {M:Model}{A:Around}{E:Value->Shared->Prop}{env:Env}
variable {nm q:Str}{C N:Addr}{bs bm:List Value}{hdct:Bool}{sn:List Str}{sub:List Value}{ab:Bool}{col:Option Bool}{dd:Option Addr}{k0 k1 k2 k3 k5:Option Value}{newId:String}
theorem hV(Y:bm.contains (.type "BaseException")=true)(S:A.handled=none)
  (h:wpAny M A x (fun v Z=>∃ e t od,v= .ref e/\Z.heap.get? C=some (excClassObj nm q C N bs bm hdct sn sub ab col dd k0 k1 k2 k3 k5 newId)/\Z.heap.get? e=some {cls:=.ref C,dict:=od,data:=.fields #[.ref t,.none,.none,.none,.bool false,.none]}/\E (.ref e) Z) E s):
  wpAny M A (raiseStmt env (some x) none) Q E s:=by
 have W:(Value.ref C::bm).contains (.type "BaseException")=true:=by rw[List.contains_cons,Y,Bool.or_true]
 unfold raiseStmt;refine Kv (La h (fun v Z X=>?_) fun _ _ x=>x);obtain⟨e,t,od,rfl,U,he,T⟩:=X;obtain⟨R,g,d,P,os⟩:=Z
 repeat (first|with_reducible refine MV he ?_ |with_reducible refine MV U ?_ |(with_reducible refine wpAny_isSubtype_exc U ?_;rw[W])|wp_step)
 exact wpAny_raiseNew_none S T
end
section
variable {prog:Program}{w:World}{A:Around}{E:Value->Shared->Prop}{s:Shared}{env:Env}
variable {nm q:Str}{C N:Addr}{bs bm bmB:List Value}{hdct:Bool}{sn:List Str}{sub:List Value}{ab:Bool}{col:Option Bool}{dd:Option Addr}{k0 k1 k2 k3 k5:Option Value}{B Bn newId nid initId inN:String}{bmN:List Value}
theorem uP(o:ExcBaseFacts Bn newId inN bmN)(H:bmB.contains (.type Bn)=true)(F:ExcBaseFacts B nid initId bmB){mN:Str->Option Value}{x:Str}{z R pos:Pos}{args:List Expr}{fI:Addr}{oI:Obj}{Q:Flow->Shared->Prop}
  (W:bm.contains (.type "BaseException")=true) (I:A.handled=none) (P:(backTo R (starEach args env)).any (·.1)=false) (p:mN "__init__"=some (.ref fI)) (J:oI.cls= .type "function")
  (h :wpAny (model prog w) A (eval (.Name x z) env) (fun f U=>f= .ref C/\wpAny (model prog w) A (evalArgs (.ref C) true (backTo R (starEach args env)) [])
   (fun a Z=>a.kw=[]/\a.pos.length<=sizeLine/\Z.heap.get? C=some (excClassObj nm q C N bs bm hdct sn sub ab col dd k0 k1 k2 k3 k5 newId)/\Z.heap.Ns N mN/\OwnTail Z.heap bmB bm/\Z.heap.get? fI=some oI/\
    ∀ h' e,Heap.MadeExcOf Z.heap h' e (.ref C) a.pos->wpAny (model prog w) (A.under (.builtin "type.__call__" ⟨.ref C::a.pos,[]⟩)) (call (.ref fI) (.ref e::a.pos)) (fun r s'=>r= .none/\
     ∃ t od,s'.heap.get? C=some (excClassObj nm q C N bs bm hdct sn sub ab col dd k0 k1 k2 k3 k5 newId)/\s'.heap.get? e=some {cls:=.ref C,dict:=od,data:=.fields #[.ref t,.none,.none,.none,.bool false,.none]}/\E (.ref e) s') E {Z with heap:=h'}) E U) E s):
  wpAny (model prog w) A (exec (.Raise (some (.Call (.Name x z) args [] R)) none pos) env) Q E s:=by
 rw[arm_exec_Raise];first
  |refine Kv (LA (hV (C:=C) (nm:=nm) (q:=q) (N:=N) (bs:=bs) (bm:=bm) (hdct:=hdct) (sn:=sn) (sub:=sub) (ab:=ab) (col:=col) (dd:=dd) (k0:=k0) (k1:=k1) (k2:=k2) (k3:=k3) (k5:=k5) (newId:=newId) W I (Kv (La (Oo (La h (fun f U X=>?_) fun _ _ x=>x)) (fun v O Y=>Kv (LA (Ky Y))) fun _ _ x=>x))))
  |(simp only[evalOpt,Option.map];refine Kv (LA (hV (C:=C) (nm:=nm) (q:=q) (N:=N) (bs:=bs) (bm:=bm) (hdct:=hdct) (sn:=sn) (sub:=sub) (ab:=ab) (col:=col) (dd:=dd) (k0:=k0) (k1:=k1) (k2:=k2) (k3:=k3) (k5:=k5) (newId:=newId) W I (Kv (La (Oo (La h (fun f U X=>?_) fun _ _ x=>x)) (fun v O Y=>Kv (LA (Ky Y))) fun _ _ x=>x)))))
  |(refine Kv (LA (hV (C:=C) (nm:=nm) (q:=q) (N:=N) (bs:=bs) (bm:=bm) (hdct:=hdct) (sn:=sn) (sub:=sub) (ab:=ab) (col:=col) (dd:=dd) (k0:=k0) (k1:=k1) (k2:=k2) (k3:=k3) (k5:=k5) (newId:=newId) W I ?_));refine Kv (La (Oo (La h (fun f U X=>?_) fun _ _ x=>x)) (fun v O Y=>Kv (LA (Ky Y))) fun _ _ x=>x))
 obtain⟨rfl,X⟩:=X;unfold callWith;refine Kv (Lm (La X (fun a Z S=>Kv (LA ?_)) fun _ _ x=>x));obtain⟨apos,K⟩:=a;obtain⟨L,hlen,u,k,T,G,S⟩:=S;obtain rfl:K=[]:=L;obtain⟨j,g,d,i,os⟩:=Z;simp only[P];refine Kv (wpAny_keeperOf_exc u ?_);refine Kv (wz (hrest:=hlen) o H F T u k p G J fun h' e hm=>La (S h' e hm) (fun r s' y=>⟨y.1,Kv (Lm (wpAny_point (Ky ?_)))⟩) fun _ _ x=>x);obtain⟨_,t,od,l,m,n⟩:=y;exact⟨e,t,od,rfl,l,m,n⟩
end
end
end S7
namespace S7
open PySem PySem.Spec PySem.W PyProof.Rows
section
open Builtin Builtin.ObjectAttr
def uQ:List Value->Bool
 | .ref _:: .ref _::r=>r==[.type "ValueError",.type "Exception",.type "BaseException",.type "object"]
 |_=>false
theorem zl(e:uQ l=true):∃ a b,l= .ref a:: .ref b::[.type "ValueError",.type "Exception",.type "BaseException",.type "object"]:=by
 unfold uQ at e;split at e
 ·next a b r=>exact⟨a,b,by rw[ON.mp e]⟩
 ·cases e
theorem BD(Z:Value)(e:uQ l=true):refuseLoop Z "__setattr__" l=pure ():=by
 obtain⟨a,b,rfl⟩:=zl e;rw[refuseLoop_ref,refuseLoop_ref];exact PySem.F.store_ValueError.passes Z
structure ExcS(K:Frag)(C:Addr):Prop where
 sa:findIn K (.ref C) "__setattr__"=some (some (.builtin "object.__setattr__"))
 ob:mroIn K C (.type "object")=some true
 cd:∃ cd,clsIn K C=some cd/\cd.hasDict=true/\uQ cd.mro=true
section
variable {prog:Program}{w:World}{A:Around}{E:Value->Shared->Prop}{s:Shared}{K:Frag}{x C:Addr}{o:Obj}{vs:Array Value}{mA:Str->Option Value}{name:Str}{v:Value}{R:Result->Shared->Prop}
theorem BE{Q:Fin->Shared->Prop}(c:ExcS K C)(X:K.In s.heap)(L:s.heap.get? x=some o)(m:o.cls= .ref C)(N:o.data= .fields vs)
  (l:(o.dict=none/\∀ n,mA n=none)\/∃ d,o.dict=some d/\d≠x/\s.heap.Ns1 d mA)
  (p:∀ h' tk' dx,h'.Ns1 dx (fun y=>if y=name then some v else mA y)->dx≠x->h'.get? x=some {o with dict:=some dx}->(o.dict=some dx\/(o.dict=none/\s.heap.get? dx=none))->
   (∀ b o,b≠x->b≠dx->s.heap.get? b=some o->h'.get? b=some o)->Q (.done (.ret .none)) {s with heap:=h',toks:=tk'}) (j:Within mA ns:=by within_ways) (k:ns.length<=sizeLine:=by size_fits):
  wpAny (model prog w) A (storeInOwnDict (.ref x) (.ref C) (.str name tk) name v b) Q E s:=by
 obtain⟨cd,r,G,_⟩:=c.cd;obtain⟨h,g,d,t,os⟩:=s;obtain⟨oc,od,a3,B⟩:=o;dsimp only at L m N l;subst m N;unfold storeInOwnDict;refine Kv (Ky ?_);show wpAny _ _ (ownDictForStores (.ref x)>>=_) _ _ _;unfold ownDictForStores instanceDict;refine Kv (Kv (wpAny_loadPart L (Kv ((looks_clsIn X r).here ?_))));rw[G];simp only[Bool.not_true,Bool.false_eq_true,if_false];rcases l with⟨hdn,hmA⟩|⟨dx,hdx,hne,hns⟩
 ·have J:od=none:=hdn;subst J;simp only[typeHasDict,Bool.not_true,Bool.or_self,Bool.false_eq_true,if_false];have Z:(h.push {cls:=.type "dict",data:=.dict #[]}).get? x=some ⟨.ref C,none,.fields vs,B⟩:=Kw _ L;have T:x≠h.objs.size:=KL (KF L);refine Kv (wpAny_alloc' ?_);refine Kv (wpAny_update' Z ?_);refine Ky ?_;have H:((h.push {cls:=.type "dict",data:=.dict #[]}).update x fun o=>{cls:=o.cls,dict:=some h.objs.size,data:=o.data,slots:=o.slots}).get? h.objs.size
    =some {cls:=.type "dict",data:=.dict #[]}:=
   (MA _ _ _ _ T.symm).trans (Heap.get?_push_at rfl rfl)
  have I:((h.push {cls:=.type "dict",data:=.dict #[]}).update x fun o=>{cls:=o.cls,dict:=some h.objs.size,data:=o.data,slots:=o.slots}).Ns h.objs.size (fun _=>none):=
   ⟨_, #[],_,H,rfl,fun e he=>absurd he (by simp),fun _=>rfl⟩
  show wpAny _ _ (storeInDict h.objs.size (.str name tk) name v) _ _ _;unfold storeInDict newKeyGuard;refine Kv (Ky (Kv (wpAny_nsSet1 (Heap.Ns1.of_empty I) fun h' Y hs=>?_)));obtain⟨oD,F,z,W,S,P⟩:=Y.count (OK name v Within.nil);refine Kv (wpAny_lookBehind W (by rw[S];exact pastItsLine_dict (KP P (by rw[KY,List.length_nil,LK];omega))) ?_)
  wp_walk
  refine p h' _ h.objs.size ?_ T.symm ?_ (.inr ⟨rfl,LF (Kz _)⟩) (fun b a u U q=>?_)
  ·obtain⟨o',es,ep,e1,e2,e3,f,i⟩:=Y;exact⟨o',es,ep,e1,e2,e3,f,fun y=>by rw[i y];by_cases hy:y=name<;>simp[hy,hmA]⟩
  ·exact(hs.2 x T).trans (Lz _ Z rfl)
  ·exact(hs.2 b U).trans ((MA _ _ _ _ u).trans (Kw _ q))
 ·have O:od=some dx:=hdx;subst O;refine Ky ?_;show wpAny _ _ (storeInDict dx (.str name tk) name v) _ _ _;unfold storeInDict newKeyGuard;refine Kv (Ky (Kv (wpAny_nsSet1 hns fun h' Y hs=>?_)));obtain⟨oD,F,z,W,S,P⟩:=Y.count (OK name v j);refine Kv (wpAny_lookBehind W (by rw[S];exact pastItsLine_dict (KP P (by rw[KY];omega))) ?_)
  wp_walk
  exact p h' _ dx Y hne ((hs.2 x hne.symm).trans L) (.inl rfl) (fun b a _ U q=>(hs.2 b U).trans q)
theorem m4{Q:Unit->Shared->Prop}(c:ExcS K C)(X:K.In s.heap)(N:s.heap.get? x=some o)(S:o.cls= .ref C)(W:o.data= .fields vs)(G:findIn K (.ref C) name=some none)
  (J:(o.dict=none/\∀ n,mA n=none)\/∃ d,o.dict=some d/\d≠x/\s.heap.Ns1 d mA)
  (H:∀ h' Y Z,h'.Ns1 Z (fun y=>if y=name then some v else mA y)->Z≠x->h'.get? x=some {o with dict:=some Z}->(o.dict=some Z\/(o.dict=none/\s.heap.get? Z=none))->
   (∀ b o,b≠x->b≠Z->s.heap.get? b=some o->h'.get? b=some o)->Q () {s with heap:=h',toks:=Y}) (B:Within mA ns:=by within_ways) (O:ns.length<=sizeLine:=by size_fits):
  wpAny (model prog w) A (setAttr (.ref x) name v) Q E s:=by
 obtain⟨cd,L,u,P⟩:=c.cd;have U:notCls o=true:=by unfold notCls;rw[W]
 have I:∃ od,InstAt s.heap x o C od:=by
  rcases J with⟨hdn,_⟩|⟨Z,hdx,_,⟨od,es,ep,e1,_⟩⟩
  ·exact⟨none,N,S,U,by rw[hdn];trivial⟩
  ·exact⟨some od,N,S,U,by rw[hdx];exact e1⟩
 obtain⟨od,I⟩:=I;refine set_plain X I c.sa ?_;have T:=PySem.F.store_object;have sub:Looks (model prog w) s.heap (isInstance (.ref x) (.type "object")) true:=I.type.andThen (looks_mroIn X c.ob);refine NO T.slot.plain T.entry (@check_slot (model prog w) _ _ {s with toks:=s.toks+1} "object.__setattr__" "object" "__setattr__" (.ref x) [.str name s.toks,v] [] _ T.kind T.split sub (T.args (.ref x) (.str name s.toks) v) ?_);have hm:Looks (model prog w) s.heap (mroOf (.ref C)) cd.mro:=(looks_clsIn X L).andThen .now;rw[osa_eq,refuse_eq];refine Kv (Kv (I.type _ _ _ _ (fun _ _ e=>e) (Kv (hm _ _ _ _ (fun _ _ e=>e) ?_))));rw[BD _ P];refine Ky (Kv (I.type _ _ _ _ (fun _ _ e=>e) (Kv (looks_findIn X G _ _ _ _ (fun _ _ e=>e) (Kv (Ky ?_))))));exact BE (s:={s with toks:=s.toks+1}) c X N S W J (fun h' Y Z a1 a2 a3 z t=>H h' Y Z a1 a2 a3 z t) B O
end
end
end S7
namespace S7
open PySem PySem.Spec PyProof.Rows L2 S3
def gE(C a t:Addr)(od:Option Addr):Heap->Prop:=fun h=>h.get? a=some {cls:=.ref C,dict:=od,data:=.fields #[.ref t,.none,.none,.none,.bool false,.none]}
def il(dx:Addr)(fs:List (Str×V)):Heap->Prop:=fun h=>∃ mA,h.Ns1 dx mA/\(∀ f,rJ (fs.lookup f) (mA f))/\PySem.Within mA (fs.map (·.1))
theorem zm{Z:Heap}(p:gE C a t od h1)(k:∀ o,h1.get? a=some o->Z.get? a=some o):gE C a t od Z:=k _ p
theorem zo{Z:Heap}(p:il dx fs h1)(k:∀ o,h1.get? dx=some o->Z.get? dx=some o):il dx fs Z:=by
 obtain⟨mA,⟨o,es,ep,e,r⟩,q⟩:=p;exact⟨mA,⟨o,es,ep,k _ e,r⟩,q⟩
theorem BF(p:gE C a t od h):bj P w H h a (.ext (gE C a t od)):=⟨p,⟨_,p⟩,fun _ _ q k=>zm q k⟩
theorem Es(p:il dx fs h):bj P w H h dx (.ext (il dx fs)):=⟨p,(let ⟨_,⟨o,_,_,e,_⟩,_⟩:=p;⟨o,e⟩),fun _ _ q k=>zo q k⟩
section
variable {X:Cx}{pins:List (Addr×Obj)}{σ:L2.St}{H:Hp}{s:Shared}{h':Heap}{t':Nat}
theorem Inv.laidG(I:L2.Inv X pins σ H s)(k:∀ b u,s.heap.get? b=some u->h'.get? b=some u)(W:s.heap.get? a=none)(Y:bj X.prog X.w (upd H a o) h' a o):L2.Inv X pins σ (upd H a o) {s with heap:=h',toks:=t'}:=by
 have Z:H a=none:=gk.gone I.hok W;have ne:∀ b u,s.heap.get? b=some u->b≠a:=fun b u q=>gI q W;refine I.un (t':=t') ⟨fun b u q _ _ _=>k b u q,fun b u q _ _ _=>⟨u.slots,k b u q⟩,fun b u q n _=>by rw[aE (ne b u q)];exact n,fun b u q _=>⟨u,k b u q⟩,fun b xs q=>by rw[aE (aK q Z)];exact q,fun b u xs q=>by rw[aE (aK q Z)];exact q,fun b U q=>⟨#[],by rw[aE (aK q Z),q];simp⟩⟩ fun b u e=>?_
 by_cases hb:b=a
 ·subst hb;rw[aN]at e;cases e;exact Y
 ·rw[aE hb]at e;exact(I.hok b u e).stay (fun c v _ q=>k c v q) (fun c q=>by rw[aE (aK q Z)];exact q) fun c xs q=>by rw[aE (aK q Z)];exact q
theorem Inv.write2(I:L2.Inv X pins σ H s)(R:H a=some (.ext φ))(Z:(∃ ψ,H b=some (.ext ψ))\/s.heap.get? b=none)(k:∀ c v,c≠a->c≠b->s.heap.get? c=some v->h'.get? c=some v)(T:∃ v,h'.get? a=some v)(S:∃ v,h'.get? b=some v)
  (O:b≠a) (Q:∀ H',bj X.prog X.w H' h' a o) (P:∀ H',bj X.prog X.w H' h' b u):L2.Inv X pins σ (upd (upd H b u) a o) {s with heap:=h',toks:=t'}:=by
 have U:∀ c v,H c=some v->(∀ ψ,v≠ .ext ψ)->c≠a/\c≠b:=fun c v e n=>by
  refine⟨fun z=>?_,fun z=>?_⟩
  ·subst z;rw[R]at e;cases e;exact n _ rfl
  ·subst z;rcases Z with⟨ψ,Z⟩|Z
   ·rw[Z]at e;cases e;exact n _ rfl
   ·rw[gk.gone I.hok Z]at e;cases e
 have free:∀ c v,s.heap.get? c=some v->H c=none->c≠a/\c≠b:=fun c v q n=>by
  refine⟨fun z=>?_,fun z=>?_⟩
  ·subst z;rw[R]at n;cases n
  ·subst z;rcases Z with⟨ψ,Z⟩|Z
   ·rw[Z]at n;cases n
   ·rw[Z]at q;cases q
 have up:∀ c v,H c=some v->(∀ ψ,v≠ .ext ψ)->upd (upd H b u) a o c=some v:=fun c v e n=>by
  obtain⟨W,Y⟩:=U c v e n;rw[aE W,aE Y];exact e
 refine I.un (t':=t') ⟨fun c v q n _ _=>k c v (free c v q n).1 (free c v q n).2 q,fun c v q n _ _=>⟨v.slots,k c v (free c v q n).1 (free c v q n).2 q⟩,fun c v q n _=>by rw[aE (free c v q n).1,aE (free c v q n).2];exact n,fun c v q _=>?_,fun c xs q=>up c _ q (by intro _ z;cases z),fun c w xs q=>up c _ q (by intro _ z;cases z),fun c N q=>⟨#[],by rw[up c _ q (by intro _ z;cases z)];simp⟩⟩ fun c v e=>?_
 ·by_cases W:c=a
  ·subst W;exact T
  ·by_cases Y:c=b
   ·subst Y;exact S
   ·exact⟨v,k c v W Y q⟩
 ·by_cases W:c=a
  ·subst W;rw[aN]at e;cases e;exact Q _
  ·rw[aE W]at e;by_cases Y:c=b
   ·subst Y;rw[aN]at e;cases e;exact P _
   ·rw[aE Y]at e;have own:∀ d,H d=some (.own c)->d≠a/\d≠b:=fun d q=>U d _ q (by intro _ z;cases z)
    refine(I.hok c v e).stay (fun d w hd q=>?_) (fun d q=>up d _ q (by intro _ z;cases z)) fun d xs q=>up d _ q (by intro _ z;cases z)
    rcases hd with rfl|hd
    ·exact k _ w W Y q
    ·exact k d w (own d hd).1 (own d hd).2 q
end
section
variable {X:Cx}{o value:Expr}{ta tv:TE}{f:Str}{pos pos':Pos}
def Io(K:W.Frag)(ta tv:TE)(f:Str):TS:=fun D σ H=>tv σ H fun y H1=>ta σ H1 fun x H2=>∃ p C t,x= .ref p/\ExcS K C/\W.findIn K (.ref C) f=some none/\
  ((H2 p=some (.ext (gE C p t none))/\∀ dx,H2 dx=none->dx≠p->D.nx σ (upd (upd H2 dx (.ext (il dx [(f,y)]))) p (.ext (gE C p t (some dx)))))\/
   (∃ dx fs,H2 p=some (.ext (gE C p t (some dx)))/\H2 dx=some (.ext (il dx fs))/\dx≠p/\fs.lookup f=none/\fs.length<=100/\D.nx σ (upd (upd H2 dx (.ext (il dx (fs++[(f,y)])))) p (.ext (gE C p t (some dx))))))
theorem m5{Y:Type}{g f:Str}{y:Y}:∀{fs:List (Str×Y)},fs.lookup f=none->(fs++[(f,y)]).lookup g=if g=f then some y else fs.lookup g
 |[],_=>by
  show(match g==f with|true=>some y|false=>none)=_
  by_cases h:g=f
  ·subst h;simp
  ·rw[if_neg h,NV h];rfl
 | (a,b)::r,h=>by
  rw[Lh]at h;by_cases hf:f=a
  ·subst hf;simp at h
  ·rw[NV hf]at h;rw[List.cons_append,Lh,Lh,m5 (fs:=r) h];by_cases hg:g=a
   ·subst hg;have Z:¬ g=f:=fun z=>hf z.symm;simp[Z]
   ·rw[NV hg]
theorem xH(r:PE X o ta)(n:PE X value tv)(hs:swapsWith value (some (.Attribute o f pos')) pos.line X.env=pure false):PS X (.Assign [.Attribute o f pos'] value pos) (Io X.K ta tv f):=by
 intro pins s σ H D I h;refine plainObj_wpAny_Assign_Attribute (dN (n pins s σ H _ I h) fun u s1 ⟨y,H1,I1,ry,q⟩=>dN (r pins s1 σ H1 _ I1 q) fun m s2 ⟨x,H2,I2,rx,p,C,t,ex,c,hf,q2⟩=>?_) hs;subst ex;obtain rfl:m=Value.ref p:=rx;rcases q2 with⟨hp,q⟩|⟨Z,fs,hp,hd,W,hl,hlen,q⟩
 ·have L:s2.heap.get? p=some {cls:=.ref C,dict:=none,data:=.fields #[.ref t,.none,.none,.none,.bool false,.none]}:=(I2.hok p _ hp).1;refine m4 (mA:=fun _=>none) (ns:=[]) c I2.kIn L rfl rfl hf (.inl ⟨rfl,fun _=>rfl⟩) (fun h' T Z S W Y U O=>?_) Within.nil (by simp)
  rcases U with U|⟨_,hnew⟩
  ·cases U
  have J:gE C p t (some Z) h':=Y;have Q:il Z [(f,y)] h':=⟨_,S,fun g=>by
   show rJ (match g==f with|true=>some y|false=>none) _
   by_cases hg:g=f
   ·subst hg;simp;exact ry
   ·rw[NV hg,if_neg hg];exact trivial,OK f u Within.nil⟩
  obtain⟨E,⟨od,es,ep,e1,_⟩,_⟩:=id Q;have F:=Inv.write2 (t':=T) (a:=p) (b:=Z) (o:=.ext (gE C p t (some Z))) (u:=.ext (il Z [(f,y)])) I2 hp (.inr hnew) (fun c v B G q=>O c v B G q) ⟨_,Y⟩ ⟨_,e1⟩ W (fun _=>BF J) (fun _=>Es Q);exact⟨σ,_,F,q Z (gk.gone I2.hok hnew) W⟩
 ·have L:s2.heap.get? p=some {cls:=.ref C,dict:=some Z,data:=.fields #[.ref t,.none,.none,.none,.bool false,.none]}:=(I2.hok p _ hp).1;obtain⟨mA,P,R,hw⟩:=(I2.hok Z _ hd).1;refine m4 (mA:=mA) (ns:=fs.map (·.1)) c I2.kIn L rfl rfl hf (.inr ⟨Z,rfl,W,P⟩) (fun h' T N S w Y U O=>?_) hw (by rw[Kx,LK];omega)
  have A:Z=N:=by
   rcases U with U|⟨U,_⟩
   ·exact K6 U
   ·cases U
  subst A;have J:gE C p t (some Z) h':=Y;have Q:il Z (fs++[(f,y)]) h':=⟨_,S,fun g=>by
   rw[m5 hl];by_cases hg:g=f
   ·subst hg;simp;exact ry
   ·rw[if_neg hg,if_neg hg];exact R g,by
   have:=OK f u hw;intro z l;have:=this z l;simp only[List.map_append,List.map_cons,List.map_nil,List.mem_append,List.mem_cons,List.not_mem_nil,or_false]at this ⊢;exact this.symm⟩
  obtain⟨E,⟨od,es,ep,e1,_⟩,_⟩:=id Q;have F:=Inv.write2 (t':=T) (a:=p) (b:=Z) (o:=.ext (gE C p t (some Z))) (u:=.ext (il Z (fs++[(f,y)]))) I2 hp (.inl ⟨_,hd⟩) (fun c v B G q=>O c v B G q) ⟨_,Y⟩ ⟨_,e1⟩ W (fun _=>BF J) (fun _=>Es Q);exact⟨σ,_,F,q⟩
end
end S7
section
namespace S7
open PySem PySem.Spec PyProof.Rows L2 S3
theorem DA{K:W.Frag}{Z:Str->Option Value}(X:K.In h)(G:h.Ns N Z)(e:W.nsIn K N n=some (some v)):Z n=some v:=by
 obtain⟨o,es,ep,Y,hd,_,hf⟩:=G;unfold W.nsIn at e;split at e
 ·rename_i c d es' n' sl q
  have:=X _ _ q;rw[Y]at this;cases this;cases hd;split at e
  ·rename_i en he
   cases e;rw[<-hf];unfold nsFind findBy;rw[<-N1,he];rfl
  ·split at e<;>cases e
 ·cases e
def kl(K:W.Frag)(C f:Addr):Bool:=match K.lookup C with
 |some ⟨.type "type",_,.cls cd,sl⟩=>(match cd.mro,sl.toList with
  | .ref C'::bm,[_,_,_,_,some (.builtin n),_]=>C'==C && n=="ValueError.__new__" && !cd.hasDel && W.tailIn K G6 bm && W.nsOkIn K cd.ns && W.nsIn K cd.ns "__init__"==some (some (.ref f)) && cd.hasDict && uQ cd.mro
  |_,_=>false) && (W.findIn K (.ref C) "__setattr__"==some (some (.builtin "object.__setattr__"))) && (match K.lookup f with|some o=>o.cls== .type "function"|none=>false)
 |_=>false
theorem rh{K:W.Frag}(X:K.In h)(c:ExcC K C)(q:kl K C f=true):ExcS K C/\(∃ o,K.lookup f=some o/\o.cls= .type "function")/\∃ bm N nm qn bs hdct sn sub ab col dd k0 k1 k2 k3 k5 mN,
  h.get? C=some (excClassObj nm qn C N bs bm hdct sn sub ab col dd k0 k1 k2 k3 k5 "ValueError.__new__")/\h.Ns N mN/\mN "__init__"=some (.ref f)/\OwnTail h G6 bm:=by
 unfold kl at q;split at q
 case h_2=>cases q
 case h_1 dd cd O ho=>
 simp only[Bool.and_eq_true,beq_iff_eq]at q;obtain⟨⟨q,Q⟩,Y⟩:=q;split at q
 case h_2=>cases q
 case h_1 C' bm k0 k1 k2 k3 n k5 hm hs=>
 simp only[Bool.and_eq_true,beq_iff_eq,Bool.not_eq_true']at q;obtain⟨⟨⟨⟨⟨⟨⟨I,en⟩,Z⟩,J⟩,U⟩,P⟩,R⟩,S⟩:=q;subst I en;have T:W.clsIn K C'=some cd:=by unfold W.clsIn;rw[ho]
 refine⟨⟨Q,c.ob,cd,T,R,S⟩,?_,?_⟩
 ·split at Y
  ·next o hf=>exact⟨o,hf,ON.mp Y⟩
  ·cases Y
 rcases cd with⟨nm,bs,mro,ns,qn,hd,sn,sub,ab,col,del⟩;dsimp only at hm Z U P;subst hm Z;obtain rfl:O= #[k0,k1,k2,k3,some (.builtin "ValueError.__new__"),k5]:=by rcases O with⟨l⟩;simp only at hs;rw[hs]
 have L:h.Ns ns (h.nsMap ns):=.of_isNs (W.isNs_of_in X U);exact⟨bm,ns,nm,qn,bs,hd,sn,sub,ab,col,dd,k0,k1,k2,k3,k5,_,X _ _ ho,L,DA X L P,W.tail_of_in X J⟩
def IS(C:Addr):Sp:=fun vs H Q _=>∃ e t v1 v2,vs=[.ref e,v1,v2]/\H e=some (.ext (gE C e t none))/\∀ dx,H dx=none->dx≠e->Q .non (upd (upd H dx (.ext (il dx [("many",v1),("most",v2)]))) e (.ext (gE C e t (some dx))))
theorem uR(h:a≠b):upd (upd H a o) b u=upd (upd H b u) a o:=by
 funext c;unfold upd;by_cases h1:c=b
 ·by_cases h2:c=a
  ·exact absurd (h2.symm.trans h1) h
  ·rw[if_pos h1,if_neg h2,if_pos h1]
 ·rw[if_neg h1];by_cases h2:c=a
  ·rw[if_pos h2,if_pos h2]
  ·rw[if_neg h2,if_neg h2,if_neg h1]
theorem DB{P:Program}{w:World}{K:W.Frag}{S:Str->Option Value}{base:Heap}{C f:Addr}{L:FuncData}{U:Stmt}{B G I z u y o p:Pos}(F:Fun K "__init__" "TooGreat.__init__" U f L)(J:ExcS K C)(c:ExcC K C)
  (n:FnScope ["self","many","most"] ["self","many","most"] (aq U)) (R:∀ x∈(["self","many","most"]:List Str),(aq U).names.lookup x=some .local)
  (m:dw U=[.Assign [.Attribute (.Name "self" B) "many" G] (.Name "many" I) z,.Assign [.Attribute (.Name "self" u) "most" y] (.Name "most" o) p]):
  FnOk P w K S base (ky P w) 1 f L ["self","many","most"] (IS C):=by
 obtain⟨k,od,kV,doc,pm,an,X,ct,r,rfl,v,N⟩:=F.ex;refine Ag v N n (fun vs H Q E ⟨_,_,_,_,h,_⟩=>by rw[h];rfl) fun A outer s H vs Q E l h=>?_
 rw[m];have v0:yf (jC (ky P w) P w K S base ["self","many","most"] "TooGreat.__init__" (aq U) f X A outer s H E).env.scope "self":=.inl (R "self" (by simp))
 have v1:yf (jC (ky P w) P w K S base ["self","many","most"] "TooGreat.__init__" (aq U) f X A outer s H E).env.scope "many":=.inl (R "many" (by simp))
 have v2:yf (jC (ky P w) P w K S base ["self","many","most"] "TooGreat.__init__" (aq U) f X A outer s H E).env.scope "most":=.inl (R "most" (by simp))
 refine⟨_,tX (xH (pv 0 rfl v0) (pv 1 rfl v1) rfl) (rN (xH (pv 0 rfl v0) (pv 2 rfl v2) rfl)),?_⟩;obtain⟨e,t,T,O,rfl,he,q⟩:=h;refine⟨T,rfl,.ref e,rfl,e,C,t,rfl,J,c.mf,.inl ⟨he,fun Z hd Y=>?_⟩⟩;refine⟨O,rfl,.ref e,rfl,e,C,t,rfl,J,c.ms,.inr ⟨Z,[("many",T)],aN,by rw[aE Y];exact aN,Y,rfl,by simp,?_⟩⟩
 have:=q Z hd Y;have e2:upd (upd (upd (upd H Z (.ext (il Z [("many",T)]))) e (.ext (gE C e t (some Z)))) Z (.ext (il Z [("many",T),("most",O)]))) e (.ext (gE C e t (some Z)))=upd (upd H Z (.ext (il Z [("many",T),("most",O)]))) e (.ext (gE C e t (some Z))):=by
  rw[uR Y.symm,rK,rK]
 show Q .non _;rw[<-e2]at this;exact this
end S7
namespace S7
open PySem PySem.Spec PyProof.Rows L2 S3
section
variable {X:Cx}{Ek:XK}
theorem Inv.forget{H:Hp}(I:L2.Inv X pins σ (upd (upd H dx (.ext (il dx fs))) e (.ext φ)) s)(P:H dx=none)(S:H e=none)(T:dx≠e):
  L2.Inv X pins σ (upd H dx (.xd fs)) s:=by
 have Y:∀ b u,upd (upd H dx (.ext (il dx fs))) e (.ext φ) b=some u->(∀ χ,u≠ .ext χ)->upd H dx (.xd fs) b=some u:=fun b u q n=>by
  by_cases W:b=e
  ·subst W;rw[aN]at q;cases q;exact absurd rfl (n _)
  ·rw[aE W]at q;by_cases Z:b=dx
   ·subst Z;rw[aN]at q;cases q;exact absurd rfl (n _)
   ·rw[aE Z]at q ⊢;exact q
 have U:∀ b,upd (upd H dx (.ext (il dx fs))) e (.ext φ) b=none->upd H dx (.xd fs) b=none:=fun b q=>by
  by_cases W:b=e
  ·subst W;rw[aN]at q;cases q
  ·rw[aE W]at q;by_cases Z:b=dx
   ·subst Z;rw[aN]at q;cases q
   ·rw[aE Z]at q ⊢;exact q
 refine I.un (t':=s.toks) ⟨fun b o q _ _ _=>q,fun b o q _ _ _=>⟨o.slots,q⟩,fun b o _ n _=>U b n,fun b o q _=>⟨o,q⟩,fun b xs q=>Y b _ q (by intro _ z;cases z),fun b o u q=>Y b _ q (by intro _ z;cases z),fun b Q q=>⟨#[],by rw[Y b _ q (by intro _ z;cases z)];simp⟩⟩ fun b u q=>?_
 by_cases Z:b=dx
 ·subst Z;rw[aN]at q;cases q;have R:=I.hok b (.ext (il b fs)) (by rw[aE T];exact aN)
  obtain⟨mA,W,Z,_⟩:=R.1;exact⟨mA,W,Z⟩
 ·rw[aE Z]at q;have W:b≠e:=fun z=>by rw[z,S]at q;cases q
  exact(I.hok b u (by rw[aE W,aE Z];exact q)).stay (fun _ _ _ z=>z) (fun c z=>Y c _ z (by intro _ z;cases z)) fun c xs z=>Y c _ z (by intro _ z;cases z)
def BG:List D->M Out
 |[a,b]=>M.raise (.exc "TooGreat" [a,b])
 |_=>M.fail
abbrev sR(ms:aO->M (List D)):cW:=fun ρ=>do let ds<-ms ρ;BG ds
theorem zq(L:Leaves X Ek)(hc:X.calm=true)(eK:fT X.K=true)(a3:W.nsIn X.K mainGlobals "TooGreat"=some (some (.ref C)))(b0:kl X.K C f=true)
  (F:FnOk X.prog X.w X.K X.mg X.base (ky X.prog X.w) k f fd ["self","many","most"] (IS C)) (hb:Binds X.K fd ["self","many","most"] []) (hr:Room (k+1) X.A)
  (ha:SA X (uB X.K Ek) (e::es) ms) (hg:Gl X "TooGreat":=by rfl)
  (he:starEach (e::es) X.env=(false,eval e X.env)::starEach es X.env:=by rfl) (b1:(backTo cpos (starEach es X.env)).any (·.1)=false:=by rfl):
  SS X (uB X.K Ek) (.Raise (some (.Call (.Name "TooGreat" np) (e::es) [] cpos)) none pos) (sR ms):=by
 intro pins s σ H T I h;obtain⟨ι,S,ρ,rep,re,c⟩:=h;obtain⟨R,g⟩:=iJ eK (show("TooGreat":Str)∈aV by decide)
 have eC:R=C:=by
  have:=g.ns.symm.trans a3;cases this;rfl
 subst eC;obtain⟨cS,⟨oI,a,b⟩,bm,N,nm,qn,bs,hdct,sn,sub,ab,col,dd,k0,k1,k2,k3,k5,mN,hC,hN,hi,tl⟩:=rh I.mod.kin g.ck b0;have hm:X.mg "TooGreat"=some (.ref R):=KW I.mod.kin I.mod.glob g.ns;refine uP (k5:=k5) (k3:=k3) (k2:=k2) (k1:=k1) (k0:=k0) (nm:=nm) (q:=qn) (C:=R) (N:=N) (bm:=bm) (bs:=bs) (hdct:=hdct) (sn:=sn) (sub:=sub) (ab:=ab) (col:=col) (dd:=dd) (fI:=f) (oI:=oI) Ml (by decide) Ml (mN:=mN) (tl.hasType PySem.F.excBase_ValueError.hasBase) (I.ok.hd hc) (by rw[he];show(false||(backTo cpos (starEach es X.env)).any (·.1))=false;rw[b1];rfl) hi b (j9 I hg hm ⟨rfl,?_⟩ (by decide))
 have G:=ha cpos pins s σ H _ I ⟨ι,S,ρ,rep,re,ak (ai c) fun ds Y S1 Q e1 rep1 c1 vs E=>(⟨Y,S1,ds,rep1,E,c1⟩:∃ Y S1 ds,Rep X.K Y Q S1/\RelDs X.K Y Q ds vs/\cont X.K (uB X.K Ek) (BG ds) Y S1 Q _)⟩;rw[he]at G ⊢;refine NN (La G (fun us s2 a0=>?_) fun _ _ z=>z);obtain⟨vs,Q,y,rv,Y,S1,ds,rep1,E,c1⟩:=a0
 match ds,E,c1 with
 |[],E,c1=>exact(ag c1).elim
 |[_],E,c1=>exact(ag c1).elim
 |_::_::_::_,E,c1=>exact(ag c1).elim
 | [da,db],E,c1=>
  obtain⟨p,ws,rfl,ra,r2⟩:=E.cons_inv;obtain⟨o,c3,rfl,rb,r3⟩:=r2.cons_inv;cases r3.nil_inv;have hlen:us.length=2:=rv.length.symm;refine⟨rfl,?_,y.bk _ _ hC,hN.keeps y.bk,tl.keeps y.bk,y.bk _ _ (I.mod.kin _ _ a),fun h' Z hm=>?_⟩
  ·show us.length<=sizeLine;rw[hlen,LK];decide
  ·obtain⟨t,h1,h2,h3⟩:=hm.there;have l:Q Z=none:=gk.gone y.hok hm.new;have j:L2.Inv X pins σ (upd Q Z (.ext (gE R Z t none))) {s2 with heap:=h'}:=Inv.laidG (t':=s2.toks) y hm.keeps hm.new (BF h1);have d:IS R [.ref Z,p,o] (upd Q Z (.ext (gE R Z t none))) (fun v H'=>v= .non/\∃ U,upd Q Z (.ext (gE R Z t none)) U=none/\U≠Z/\H'=upd (upd (upd Q Z (.ext (gE R Z t none))) U (.ext (il U [("many",p),("most",o)]))) Z (.ext (gE R Z t (some U)))) Ek:=
    ⟨Z,t,p,o,rfl,aN,fun U hd P=>⟨rfl,U,hd,P,rfl⟩⟩
   have a5:bo [V.ref Z,p,o] (Value.ref Z::us):=.cons rfl rv;refine Nz (Mw (F.run _ X.stack _ _ ⟨Value.ref Z::us,[]⟩ (Value.ref Z::us) _ _ Ek (hr.make R us []) (j.env0.make R us []) ?_ a5 d) fun r s' J=>?_)
   ·have:=hb {s2 with heap:=h'} (Value.ref Z::us) j.kIn (by simp[hlen])
    rw[Lg]at this;exact this
   ·cases r with
    |error x=>exact L.pass pins σ _ _ x s' j J
    | ok fl=>
     cases fl with
     |next=>exact False.elim J
     |brk=>exact False.elim J
     |cont=>exact False.elim J
     | ret u=>
      obtain⟨v,H',i,a4,ev,U,m,P,rfl⟩:=j.after J;subst ev;have O:Q U=none:=by rw[aE P]at m;exact m
      have e2:upd (upd (upd Q Z (.ext (gE R Z t none))) U (.ext (il U [("many",p),("most",o)]))) Z (.ext (gE R Z t (some U)))=upd (upd Q U (.ext (il U [("many",p),("most",o)]))) Z (.ext (gE R Z t (some U))):=by
       rw[uR P.symm,rK]
      rw[e2]at i;have B:s'.heap.get? Z=some {cls:=.ref R,dict:=some U,data:=.fields #[.ref t,.none,.none,.none,.bool false,.none]}:=(i.hok Z _ aN).1;have I4:=Inv.forget i O l P;refine⟨a4,t,some U,i.bk _ _ hC,B,?_⟩;obtain⟨r',S',e',q'⟩:=c1;cases e';have n:=y.base;rw[L.ex]at n;refine L.new I4 B rfl rfl rfl rfl (by rw[aE (Ne.symm P)];exact l) (Un.gone n (by simp) hm.new) ?_
      have hE:Ext Y Q Y (upd Q U (.xd [("many",p),("most",o)])):=ef O;exact q' Y _ hE (fw rep1 O) _ _ ⟨"TooGreat",[da,db],R,rfl,g.ns,rfl,.inr ⟨U,_,rfl,aN,rfl,.cons (ra.later rep1 hE) (.cons (rb.later rep1 hE) .nil)⟩⟩
end
end S7
end
namespace S7
open PySem PySem.Spec PyProof.Rows L2 S3
theorem BH{h:Heap}{mA:Str->Option Value}(n:h.Ns1 dx mA)(e:h.get? dx=some od)(Y:mA f=some v):W.lookIn f od=some (some v):=by
 obtain⟨o,es,ep,e1,hd,_,_,hf⟩:=n;rw[e]at e1;cases e1;unfold W.lookIn;rw[hd];have:=hf f;rw[Y]at this;unfold nsFind findBy at this;rw[<-N1]at this;cases q:es.toList.find? (·.key.isStr f)with
 |none=>rw[q]at this;cases this
 |some en=>
  rw[q]at this;have Z:en.val=v:=K6 this;rw[<-Z];dsimp only;rw[q]
section
variable {X:Cx}{E:XD}{pins:List (Addr×Obj)}{σ:L2.St}{H:Hp}{s:Shared}
theorem uS{a C Y:Addr}{fs:List (Str×V)}{f:Str}{v:V}{b:Bool}{Q:Value->Shared->Prop}{A:Around}{E:Value->Shared->Prop}(c:ExcC X.K C)(S:∀ cd,W.clsIn X.K C=some cd->cd.hasDict=true)(T:W.findIn X.K (.ref C) f=some none)(I:L2.Inv X pins σ H s)(N:H a=some (.ext (lr C a (some Y))))(y:H Y=some (.xd fs))(L:fs.lookup f=some v)
  (z:W.copiedNames.contains f=false) (h:∀ u s',L2.Inv X pins σ H s'->RelV v u->Q u s'):wpAny (model X.prog X.w) A (getAttr (.ref a) f b) Q E s:=by
 obtain⟨⟨B,vs,he,O,F,U⟩,_⟩:=I.hok a _ N;obtain⟨mA,R,G⟩:=(show ∃ mA,s.heap.Ns1 Y mA/\∀ f,rJ (fs.lookup f) (mA f)from I.hok Y _ y);obtain⟨od,es,ep,e1,_⟩:=id R;obtain⟨u,x,P⟩:=rJ.some_of (v:=v) (o:=mA f) (by rw[<-L];exact G f)
 have J:W.InstAt s.heap a B C (some od):=⟨he,O,by unfold W.notCls;rw[U],by rw[F];exact e1⟩
 obtain⟨cd,Z⟩:=LW.mp c.cd;have hf:W.findObj X.K C (some od) f=some (.value u):=by
  unfold W.findObj;rw[Z,MJ,T,MJ];simp only[Option.bind_some];unfold W.ownOf;rw[S cd Z,if_pos rfl];dsimp only;rw[BH R e1 x];rfl
 unfold getAttr;refine Kv (wpAny_mkText ?_);refine Bb (s:={s with toks:=s.toks+1}) I.kIn J c.ga c.gt c.be ?_;refine qr (s:={s with toks:=s.toks+1}) I.kIn J hf ?_;exact W.handed_on (yp P) (h u _ (I.tok _) P)
def xI(second:Bool):D->M D
 | .exc n [a,b]=>if n∈aV then pure (if second then b else a)else M.fail
 |_=>M.fail
abbrev jW(second:Bool)(m:TM):TM:=fun ρ=>do let x<-m ρ;xI second x
theorem xJ{e:Expr}{m:TM}{pos:Pos}{Z:Bool}{f:Str}(J:fT X.K=true)(R:∀ n∈aV,∀ C,W.nsIn X.K mainGlobals n=some (some (.ref C))->∀ cd,W.clsIn X.K C=some cd->cd.hasDict=true)(O:SE X E e m)(P:f=if Z then "most" else "many")(w:attributeBase e f X.env (eval e X.env)=eval e X.env:=by rfl):
  SE X E (.Attribute e f pos) (jW Z m):=by
 intro pins s σ H Q I h;refine CK w (dN (O pins s σ H (fun v Y=>∃ ι d,RelD X.K ι Y d v/\∃ n a b va vb C dx p,d= .exc n [a,b]/\n∈aV/\v= .ref p/\W.nsIn X.K mainGlobals n=some (some (.ref C))/\Y p=some (.ext (lr C p (some dx)))/\Y dx=some (.xd [("many",va),("most",vb)])/\Q (if Z then vb else va) Y) I ?_) fun u s1 ⟨v,Y,I1,rv,ι,d,rd,n,a,b,va,vb,C,dx,p,hd,hn,hp,hns,g1,g2,q⟩=>?_)
 ·obtain⟨ι,S,ρ,rep,re,c⟩:=h;refine⟨ι,S,ρ,rep,re,ak (ai c) fun d T S1 Y e1 rep1 c1 v r=>⟨T,d,r,?_⟩⟩;unfold xI at c1;split at c1
  ·next n a b=>
   split at c1
   ·next hn=>
    cases r with
    | excF hns h1 h2 h3 h4=>
     rename_i p C dx fs
     match fs,h3,h4,h2 with
     |[(f1,va),(f2,vb)],h3,h4,h2=>
      have e1:f1="many":=(LJ h3).1;have e2:f2="most":=(LJ (LJ h3).2).1;subst e1 e2;obtain⟨_,_,e3,x,z⟩:=h4.cons_inv;obtain⟨L,G⟩:=LJ e3;subst L G;obtain⟨_,_,N,F,_⟩:=z.cons_inv;obtain⟨B,_⟩:=LJ N;subst B;refine⟨n,a,b,va,vb,C,dx,p,rfl,hn,rfl,hns,h1,h2,?_⟩;have:=ah c1 .refl rep1;cases Z with
      |true=>exact this _ F
      |false=>exact this _ x
     |[],h3,_,_=>cases h3
     |[_],h3,_,_=>have:=NF List.length h3;simp at this
     |_::_::_::_,h3,_,_=>have:=NF List.length h3;simp at this
   ·exact(ag c1).elim
  ·exact(ag c1).elim
 ·subst hp;obtain rfl:u=Value.ref p:=rv;obtain⟨o,U⟩:=iJ J hn;have:=U.ns.symm.trans hns;cases this;refine uS (f:=f) (v:=if Z then vb else va) U.ck (R n hn C hns) (by rw[P];cases Z<;>first|exact U.ck.mf|exact U.ck.ms) I1 g1 g2 (by rw[P];cases Z<;>rfl) (by rw[P];cases Z<;>decide) fun t s' A y=>⟨_,Y,A,y,q⟩
end
section
variable {X:Cx}{E:XD}{st:Stmt}{m:TM}{i:Nat}
end
def Ip:Stmt->Stmt
 | .ClassDef _ _ _ (b::_) .. =>b
 |s=>s
structure GrX(P:Program)(w:World)(K:W.Frag)(mg:Str->Option Value)(base:Heap):Prop where
 ex:∃ C f fd,W.nsIn K mainGlobals "TooGreat"=some (some (.ref C))/\kl K C f=true/\FnOk P w K mg base (ky P w) 1 f fd ["self","many","most"] (IS C)/\Binds K fd ["self","many","most"] []
theorem BI{P:Program}{w:World}{K:W.Frag}{J:Str->Option Value}{base h:Heap}{C f:Addr}{R:FuncData}{U:Stmt}{H I Q G y B L O:Pos}(F:Fun K "__init__" "TooGreat.__init__" U f R)(X:K.In h)(N:fT K=true)(Z:W.nsIn K mainGlobals "TooGreat"=some (some (.ref C)))(Y:kl K C f=true)
  (A:FnScope ["self","many","most"] ["self","many","most"] (aq U)) (E:∀ x∈(["self","many","most"]:List Str),(aq U).names.lookup x=some .local) (T:Binds K R ["self","many","most"] [])
  (z:dw U=[.Assign [.Attribute (.Name "self" H) "many" I] (.Name "many" Q) G,.Assign [.Attribute (.Name "self" y) "most" B] (.Name "most" L) O]):GrX P w K J base:=by
 obtain⟨v,S⟩:=iJ N (show("TooGreat":Str)∈aV by decide)
 have:=S.ns.symm.trans Z;cases this;exact⟨C,f,R,Z,Y,DB F (rh X S.ck Y).1 S.ck A E z,T⟩
section
variable {X:Cx}{Ek:XK}
theorem BJ(L:Leaves X Ek)(U:X.calm=true)(W:fT X.K=true)(P:GrX X.prog X.w X.K X.mg X.base)(J:Room 2 X.A)
  (S:SA X (uB X.K Ek) (e::es) ms) (R:Gl X "TooGreat":=by rfl)
  (Y:starEach (e::es) X.env=(false,eval e X.env)::starEach es X.env:=by rfl) (Z:(backTo cpos (starEach es X.env)).any (·.1)=false:=by rfl):
  SS X (uB X.K Ek) (.Raise (some (.Call (.Name "TooGreat" np) (e::es) [] cpos)) none pos) (sR ms):=by
 obtain⟨C,f,fd,Q,T,N,O⟩:=P.ex;exact zq L U W Q T N O J S R Y Z
end
theorem DefX.none{P:Program}{w:World}{K:W.Frag}{Y:Str->Option Value}{base:Heap}{k:Nat}{x qual:Str}{S:Stmt}{f:Addr}{Z:FuncData}{X:List Str}(F:Fun K x qual S f Z)(U:Y x=some (.ref f))(T:Binds K Z X []):DefX P w K Y base k x X (fun _=>M.fail):=
 ⟨f,Z,⟨fun vs H Q E ⟨_,_,_,_,_,h⟩=>(ag h).elim,fun A outer s H args us vs Q E _ _ _ _ ⟨_,_,_,_,_,h⟩=>(ag h).elim⟩,U,F.kp,T⟩
def DC(K:W.Frag):Bool:=aV.all fun n=>match W.nsIn K mainGlobals n with
 |some (some (.ref C))=>(match W.clsIn K C with|some cd=>cd.hasDict|none=>true)
 |_=>true
theorem Et{K:W.Frag}(h:DC K=true):∀ n∈aV,∀ C,W.nsIn K mainGlobals n=some (some (.ref C))->∀ cd,W.clsIn K C=some cd->cd.hasDict=true:=by
 intro n Y C X cd Z;have:=Lf.mp h n Y;rw[X]at this;dsimp only at this;rw[Z]at this;exact this
section
variable {X:Cx}{E:XD}
theorem DD(W:fT X.K=true)(Z:DC X.K=true)(Y:SE X E e m)(U:attributeBase e "many" X.env (eval e X.env)=eval e X.env:=by rfl):SE X E (.Attribute e "many" pos) (jW false m):=xJ W (Et Z) Y rfl U
theorem DE(W:fT X.K=true)(Z:DC X.K=true)(Y:SE X E e m)(U:attributeBase e "most" X.env (eval e X.env)=eval e X.env:=by rfl):SE X E (.Attribute e "most" pos) (jW true m):=xJ W (Et Z) Y rfl U
end
end S7
namespace S3
open PySem PySem.Spec PyProof.Rows L2 S4
mutual
theorem sS:∀ d,gr n d=true->iQ n g d=some d
 | .lst k,h=>by unfold gr at h;unfold iQ;rw[if_pos (Lx h)]
 | .tup ds,h=>by unfold gr at h;unfold iQ;rw[iz ds h];rfl
 | .ro ds,h=>by unfold gr at h;unfold iQ;rw[iz ds h];rfl
 | .fz ds,h=>by unfold gr at h;unfold iQ;rw[iz ds h];rfl
 | .fn _ _ _ ds _,h=>by unfold gr at h;unfold iQ;rw[iz ds h];rfl
 | .exc _ ds,h=>by unfold gr at h;unfold iQ;rw[iz ds h];rfl
 | .non,_=>by unfold iQ;rfl
 | .bl _,_=>by unfold iQ;rfl
 | .int _,_=>by unfold iQ;rfl
 | .str _,_=>by unfold iQ;rfl
 | .emp,_=>by unfold iQ;rfl
theorem iz:∀ ds,c9 n ds=true->gu n g ds=some ds
 |[],_=>by unfold gu;rfl
 |d::ds,h=>by
  unfold c9 at h;rw[Mf]at h;unfold gu;rw[sS d h.1,iz ds h.2]
end
mutual
theorem xK(Z:m<=n):∀ d,gr m d=true->gr n d=true
 | .lst k,h=>by unfold gr at h ⊢;exact KU (KQ (Lx h) Z)
 | .tup ds,h=>by unfold gr at h ⊢;exact jX Z ds h
 | .ro ds,h=>by unfold gr at h ⊢;exact jX Z ds h
 | .fz ds,h=>by unfold gr at h ⊢;exact jX Z ds h
 | .fn _ _ _ ds _,h=>by unfold gr at h ⊢;exact jX Z ds h
 | .exc _ ds,h=>by unfold gr at h ⊢;exact jX Z ds h
 | .non,_=>by unfold gr;rfl
 | .bl _,_=>by unfold gr;rfl
 | .int _,_=>by unfold gr;rfl
 | .str _,_=>by unfold gr;rfl
 | .emp,_=>by unfold gr;rfl
theorem jX(Z:m<=n):∀ ds,c9 m ds=true->c9 n ds=true
 |[],_=>by unfold c9;rfl
 |d::ds,h=>by
  unfold c9 at h ⊢;rw[Mf]at h ⊢;exact⟨xK Z d h.1,jX Z ds h.2⟩
end
section
variable {c:M D}{S:aB}{Q:D->aB->Prop}{v:D}
theorem xM:jm (pure v)=pure v:=by
 funext S;show(if S.length<=S.length then _ else _)=_;rw[if_pos (Kz _)];rfl
theorem BK:jm (M.raise x)=M.raise x:=rfl
theorem mB(e:c S=some (.ok d,S'))(X:pj S S')(Z:S.length<S'.length\/u=d)(W:S.length<=S'.length)(Y:iQ S.length (wq S' S.length 60) d=some u):jm c S=some (.ok u,S'.take S.length):=by
 unfold jm;rw[e];dsimp only;by_cases h:S'.length<=S.length
 ·have hd:u=d:=Z.resolve_left (by omega)
  rw[if_pos h,hd,Nv h]
 ·rw[if_neg h,if_pos X,Y]
theorem DF(h:runs c S fun d Z=>pj S Z/\S.length<=Z.length/\gr S.length d=true/\Q d (Z.take S.length)):runs (jm c) S Q:=by
 obtain⟨d,Z,e,Y,X,hd,q⟩:=h;exact⟨d,_,mB e Y (.inr rfl) X (sS d hd),q⟩
theorem pk:pj S (S++G):=fun k xs Z e=>.inl (by rw[Li Z]at e;exact e)
theorem BN(h:runs c S fun d Z=>(∃ G,Z=S++G)/\gr S.length d=true/\Q d S):runs (jm c) S Q:=by
 obtain⟨d,Z,e,⟨G,rfl⟩,hd,q⟩:=h;exact DF ⟨d,_,e,pk,by simp,hd,by simpa using q⟩
theorem BO(h:runs c S fun d Z=>∃ G p us,d= .lst p/\Z=S++G/\Z[p]? =some us/\S.length<=p/\c9 S.length us=true/\Q (.fz us) S):runs (jm c) S Q:=by
 obtain⟨d,Z,e,G,p,us,rfl,rfl,Y,U,W,q⟩:=h;have X:=(KC.mp Y).1;refine⟨.fz us,S,?_,q⟩;have:=mB (u:=.fz us) e pk (.inl (by omega)) (by simp) (by
  unfold iQ;rw[if_neg (by omega)]
  show(((S++G)[p]?).bind fun xs=>gu S.length (wq (S++G) S.length 59) xs).map D.fz=_;rw[Y,MJ,iz us W];rfl)
 rw[this];simp
theorem cI{Z:Type}{c:M Z}{v:Z}(h:∀ S,runs c S fun d Y=>d=v/\Y=S):c=pure v:=by
 funext S;obtain⟨d,Y,e,rfl,rfl⟩:=h S;exact e
theorem Iq(Y:gr 0 v=true)(h:∀ S,runs c S fun d Z=>d=v/\∃ G,Z=S++G):jm c=pure v:=
 cI fun S=>BN (qW (h S) fun d Z ⟨e,g⟩=>⟨g,by rw[e];exact xK (K5 _) v Y,e,rfl⟩)
theorem DG(Y:c9 0 us=true)(h:∀ S,runs c S fun d Z=>∃ G p,d= .lst p/\Z=S++G/\Z[p]? =some us/\S.length<=p):jm c=pure (.fz us):=
 cI fun S=>BO (qW (h S) fun d Z ⟨G,p,e1,e2,e3,e4⟩=>⟨G,p,us,e1,e2,e3,e4,jX (K5 _) us Y,rfl,rfl⟩)
theorem dC(Y:c9 0 us=true)(Z:us.length<=lim):jm (bM us)=pure (.fz us):=
 DG Y fun S=>yW.mpr ⟨Z,[us],S.length,rfl,rfl,by simp,Kz _⟩
end
theorem eP:gH ⟨its,.none⟩=pure ():=by
 funext S;unfold gH;rw[if_pos (show Iter.okS ⟨its,.none⟩ S from trivial)];rfl
section
variable {its:List D}{g:mP}{t:aO->M Bool}{m:TM}
theorem uT(R:aO->Prop)(q:D->Bool)(f:D->D):∀(items:List D) (ρ:aO),R ρ->(∀ d∈items,∀ ρ,R ρ->∃ Z,g d ρ=pure Z/\R Z/\t Z=pure (q d)/\(q d=true->m Z=pure (f d)))->
  dO ⟨its,.none⟩ g t m items ρ=pure ((items.filter q).map f)
 |[],ρ,_,_=>by unfold dO;rw[eP];rfl
 |d::ds,ρ,hR,hb=>by
  obtain⟨Z,e1,Y,e2,e3⟩:=hb d (KR ..) ρ hR;have X:=uT R q f ds Z Y fun x W=>hb x (KJ _ W);unfold dO;rw[eP,ay,e1,ay,e2,ay,X];cases hq:q d with
  |true=>rw[MB hq,if_pos rfl,e3 hq,ay];rfl
  |false=>rw[MC (by rw[hq];decide),if_neg (by decide)]
theorem xN(R:aO->Prop)(q:D->Bool)(f:D->D)(Y:its.length<=lim)(X:R ρ)(Z:∀ d∈its,∀ ρ,R ρ->∃ ρ1,g d ρ=pure ρ1/\R ρ1/\t ρ1=pure (q d)/\(q d=true->m ρ1=pure (f d))):
  je ⟨its,.none⟩ g t m ρ=pure ((its.filter q).map f):=by
 unfold je;rw[if_pos Y];exact uT R q f its ρ X Z
theorem rj{bd:BM}(R:aO->Prop)(q:D->Bool)(f:D->List D):∀(items:List D) (ρ:aO),R ρ->(∀ d∈items,∀ ρ,R ρ->∃ Z,g d ρ=pure Z/\t Z=pure (q d)/\(q d=true->∃ Y,R Y/\bd Z=pure (f d,Y))/\(q d=false->R Z))->
  ∃ ρ',R ρ'/\cB ⟨its,.none⟩ g t bd items ρ=pure ((items.filter q).flatMap f,ρ')
 |[],ρ,hR,_=>⟨ρ,hR,by unfold cB;rw[eP];rfl⟩
 | d::ds,ρ,hR,hb=>by
  obtain⟨Z,e1,e2,e3,P⟩:=hb d (KR ..) ρ hR;have W:=fun x Q=>hb x (KJ d Q);cases hq:q d with
  |true=>
   obtain⟨Y,T,S⟩:=e3 hq;obtain⟨ρ',X,U⟩:=rj R q f ds Y T W;refine⟨ρ',X,?_⟩;unfold cB;rw[eP,ay,e1,ay,e2,ay,hq,if_pos rfl,S,ay];show(cB _ g t bd ds Y>>=_)=_;rw[U,ay,MB hq];rfl
  |false=>
   obtain⟨ρ',X,U⟩:=rj R q f ds Z (P hq) W;refine⟨ρ',X,?_⟩;unfold cB;rw[eP,ay,e1,ay,e2,ay,hq,if_neg (by decide),U,MC (by rw[hq];decide)]
end
end S3
namespace S7
open PySem PySem.Spec PyProof.Rows L2 S3
def BP(cx:Str)(jn jy:Nat)(c:M D)(ρ:S3.aO):M Out:=fun S=>match c S with
 |some (.ok _,S')=>some (.ok (.nx ρ),S')
 |some (.ex (.exc n ds),S')=>if n∈aV/\bh n cx=true then some (.ok (.nx (((ρ.set jn (some (.exc n ds))).set jy (some (.exc n ds))).set jn none)),S')else none
 |_=>none
open Classical in
def m7(cx:Str)(i jn jy:Nat)(f:D)(c:M D):cW:=fun ρ=>if ρ[i]? =some (some f)then BP cx jn jy c ρ else M.fail
section
variable {X:Cx}{E:XD}{k i jn jy:Nat}{a c':Addr}{ql:Str}{ds:List D}{vs:List V}{m:TM}{x n y cx:Str}{p cpos epos np p1 p2 p3 hpos tpos:Pos}
theorem DH(P:cx∈aV)(I:X.stack=X.env::X.outer)(o:X.env.frame=some X.env.locals)(L:LamOk X.prog X.w X.K X.mg X.base k a (Gc X.K c' ql ds vs m))(hr:Room k X.A)(hN:X.N.Nodup)(b:fT X.K=true)(G:Mod X.K X.mg X.base)(hi:X.N[i]? =some x)(hv:yf X.env.scope x)
  (u:X.N[jn]? =some n) (g:X.N[jy]? =some y) (l:X.env.scope.names.lookup n=some .local) (s:X.env.scope.names.lookup y=some .local) (hg:Gl X cx)
  (hd:(x==("__debug__":Str))=false:=by decide) (f:(x==("__classdict__":Str))=false:=by decide) (j:(cx==("__debug__":Str))=false:=by decide) (B:(n==("__debug__":Str))=false:=by decide) (R:(n==("__classdict__":Str))=false:=by decide)
  (F:swapsWith (.Call (.Name x p) [] [] cpos) none epos.line X.env=pure false:=by rfl) (O:swapsWith (.Name n p2) (some (.Name y p1)) p3.line X.env=pure false:=by rfl):
  SS X E (.Try [.Expr (.Call (.Name x p) [] [] cpos) epos] [.ExceptHandler (some (.Name cx np)) (some n) [.Assign [.Name y p1] (.Name n p2) p3] hpos] [] [] tpos) (m7 cx i jn jy (.fn a c' ql ds vs) (m (ds.map some))):=by
 obtain⟨CW,EW⟩:=iJ b P;refine PS.imp (qZ I o L hr hN hi hv u g l s hg (KW G.kin G.glob EW.ns) hd f j B R F O) fun T σ H h=>?_;obtain⟨ι,S,ρ,rep,re,r,S',e,q⟩:=h;have e:m7 cx i jn jy (.fn a c' ql ds vs) (m (ds.map some)) ρ S=some (r,S'):=e;unfold m7 at e;by_cases hρ:ρ[i]? =some (some (.fn a c' ql ds vs))
 case neg=>rw[if_neg hρ]at e;cases e
 rw[if_pos hρ]at e;unfold BP at e;obtain⟨v,e1,rv⟩:=re.get hρ;cases rv with
 | fn hc' rds=>
  refine⟨e1,ι,S,rep,hc',rds,?_⟩;cases z:m (ds.map some) S with
  |none=>rw[z]at e;cases e
  | some pr=>
   obtain⟨r1,S1⟩:=pr;rw[z]at e;cases r1 with
   |ok d=>
    cases e;exact⟨_,_,z,fun Z Q U rep1 v' _=>q Z Q U rep1 σ (re.later rep U)⟩
   | ex xd=>
    cases xd with
    | exc nm es=>
     dsimp only at e;split at e
     case isFalse=>cases e
     case isTrue hnm=>
     cases e;refine⟨_,_,z,fun Z Q U rep1 cls od rx=>?_⟩;obtain⟨n2,a6,C,e2,Y,rfl,t⟩:=rx;cases e2;obtain⟨C2,EA⟩:=iJ b hnm.1;have:=EA.ns;rw[Y]at this;cases this;obtain⟨D2,f1,f2,f3⟩:=EA.sub cx P;rw[EW.ns]at f1;cases f1;refine⟨C,rfl,by rw[f3,hnm.2],fun J W=>?_⟩
     have xe:Ext Z Q Z (upd Q J (.ext (lr C J od))):=ef W;have c:RelD X.K Z (upd Q J (.ext (lr C J od))) (.exc nm es) (.ref J):=by
      rcases t with⟨rfl,rfl⟩|⟨dx,fs,rfl,g1,g2,g3⟩
      ·exact .exc Y aN
      ·exact .excF Y aN (by rw[aE (aK g1 W)];exact g1) g2 (g3.later rep1 xe)
     exact q Z _ (U.trans xe) (fw rep1 W) _ (RelE.unset jn ((((re.later rep U).later rep1 xe).set c jn).set c jy))
    |_=>cases e
end
open Classical in
def lN(i:Nat)(fv:D)(ms:S3.aO->M (List D))(cc:M D)(R:M D->List D->M D):TM:=fun ρ=>if ρ[i]? =some (some fv)then (do let es<-ms ρ;R cc es)else M.fail
section
variable {X:Cx}{x ql:Str}{k k0 i:Nat}{a c':Addr}{ps:List Str}{R:D->M D->List D->M D}{R':M D->List D->M D}{p pos:Pos}{e:Expr}{es:List Expr}{ms:S3.aO->M (List D)}{m:TM}{ds:List D}{vs:List V}
open Classical in
theorem DI(d:RefX X.prog X.w X.K X.mg k k0 x ps R)(N:∀ f c es,R f c es=R' c es)(G:Mod X.K X.mg X.base)(L:LamOk X.prog X.w X.K X.mg X.base k0 a (Gc X.K c' ql ds vs m))(J:Room k X.A)(C:SE X cA e (mV i))(P:SA X cA es ms)
  (u:Gl X x:=by rfl) (Z:(x==("__debug__":Str))=false:=by decide) (T:starEach (e::es) X.env=(false,eval e X.env)::starEach es X.env:=by rfl) (U:(backTo pos (starEach es X.env)).any (·.1)=false:=by rfl):
  SE X cA (.Call (.Name x p) (e::es) [] pos) (lN i (.fn a c' ql ds vs) ms (m (ds.map some)) R'):=by
 obtain⟨fr,fd,hm,O,t,F⟩:=d.ex;refine PE.imp (rO (F X.base G a c' ql ds vs m L) J u hm O t (.nil) (E:=E0) qY (af C P T) Z T U) fun σ H Q h=>?_;obtain⟨ι,S,ρ,rep,re,c⟩:=h;have c:cont X.K cA (lN i (.fn a c' ql ds vs) ms (m (ds.map some)) R' ρ) ι S H (kH X.K Q):=c;have B:cont X.K cA (ae (mV i) ms ρ>>=fun l=>match l with|d0::es=>(if d0= .fn a c' ql ds vs then R' (m (ds.map some)) es else M.fail)|[]=>M.fail) ι S H (kH X.K Q):=by
  unfold lN at c;by_cases hρ:ρ[i]? =some (some (.fn a c' ql ds vs))
  ·rw[if_pos hρ]at c;have e1:ae (mV i) ms ρ=ms ρ>>=fun es=>pure (.fn a c' ql ds vs::es):=by
    show(CY ρ i>>=fun x=>ms ρ>>=fun xs=>pure (x::xs))=_;unfold CY;rw[hρ];rfl
   rw[e1,cM];have e2:(fun es=>(pure (D.fn a c' ql ds vs::es):M (List D))>>=fun l=>match l with|d0::es=>(if d0= .fn a c' ql ds vs then R' (m (ds.map some)) es else M.fail)|[]=>M.fail)=fun es=>R' (m (ds.map some)) es:=by
    funext es;rw[ay];exact if_pos rfl
   rw[e2];exact c
  ·rw[if_neg hρ]at c;exact(ag c).elim
 refine⟨ι,S,ρ,rep,re,ak (ai B) fun l W S1 I e1 rep1 c1 us Y=>?_⟩;show xB X.K R a c' ql ds vs m (us++[]) I Q E0;rw[Lg]
 match l,c1,Y with
 |[],c1,_=>exact(ag c1).elim
 | d0::es,c1,Y=>
  dsimp only at c1;by_cases hd:d0= .fn a c' ql ds vs
  ·rw[if_pos hd]at c1;subst hd;obtain⟨v,ws,rfl,z,y⟩:=Y.cons_inv;cases z with
   |fn hc' rds=>exact⟨W,S1,ws,es,rfl,rep1,hc',rds,y,by rw[N];exact c1⟩
  ·rw[if_neg hd]at c1;exact(ag c1).elim
end
section
variable {X:Cx}{E:XD}{pos:Pos}
def JT(K:W.Frag)(n:Nat)(t:Ef):TG:=fun v σ H Q=>∃ a xs,v= .ref a/\jB K H a xs/\xs.length=n/\t xs σ H Q
theorem Gu(S:X.calm=true)(h:zV X es t)
  (J:(assignEach es X.env).length=n:=by rfl) (Z:(assignEach es X.env).findIdx? (·.1)=none:=by rfl):PG X (.Tuple es k pos) (JT X.K n t):=by
 intro pins s σ H v u Q I r hw;obtain⟨a,xs,e1,U,P,hw⟩:=hw;subst e1;cases r;obtain⟨its,Y,R,F⟩:=I.list U;have N:s.heap.IsList a its.toArray:=by
  obtain⟨o,O,e1,e2,e3,T⟩:=R;exact⟨o,e1,e2,O,T⟩
 rw[assign_Tuple];refine Kv (LA ?_);unfold unpack;rw[show(assignEach es X.env).length=its.toArray.size by simp[J, <-P,Y.length],Z]
 refine Kv (Lm (W.kun_itemsOf (I.ok.hd S) N fun h' G=>?_));have L:L2.Inv X pins σ H {s with heap:=h'}:=I.kept (t':=s.toks) fun b o e=>G b o (KL (KF e)) e;exact h pins _ σ H xs _ Q L (by simpa using Y) hw
def pq(n:Nat)(gs:List D->S3.aO->M S3.aO):mP:=fun d ρ=>match d with
 | .fz ds=>if ds.length=n then gs ds ρ else M.fail
 |_=>M.fail
theorem BQ(Y:X.calm=true)(h:HQ X E es gs)(W:(assignEach es X.env).length=n:=by rfl)(Z:(assignEach es X.env).findIdx? (·.1)=none:=by rfl):
  SG X E (.Tuple es k pos) (pq n gs):=by
 refine PG.imp (Gu Y h W Z) fun v σ H Q q=>?_;obtain⟨ι,S,ρ,d,rep,re,r,c⟩:=q;cases d with
 |fz ds=>
  cases r with
  |fz h1 h2=>
  dsimp only[pq]at c;split at c
  ·next hl=>exact⟨_,_,rfl,.inl (.inr ⟨_,h1⟩),by rw[<-h2.length];exact hl,ι,S,ρ,ds,rep,re,h2,c⟩
  ·exact(ag c).elim
 |_=>exact(ag c).elim
end
end S7
namespace W
open PySem PySem.Spec PyProof.Rows L2 S3 S4 S7
def pA:cW:=bP (kN (gD (mV 0) "int") (JO (gD (mV 0) "bool")))
def cJ:List D->M D:=kY 1 1 pA
def rk:cW:=bP (kN (gD (mV 0) "tuple") (aR si (cL cZ (mV 0)) (mK (.int 2))))
def de:List D->M D:=kY 1 1 rk
def hZ:kO:=mY
def ia:TM:=aR kX (mV 0) (mV 1)
def m8:cW:=bP (cL uk (aU (eG (rf (mV 0) (aU (Eo (mV 0) (oS (mK (.int 1))) (oN)))) (fS 2 (a9 (gN 0) (a9 (gN 1) (eF)))) hZ ia [none,none])))
def fq:List D->M D:=kY 1 1 m8
def eQ:kO:=mY
def cX:kO:=mY
def cn:TM:=eM (ae (mV 0) (ae (mV 1) (ao)))
def pB:cW:=bP (aU (jr (qo (mV 0)) (gN 0) eQ (we (aR bO (mV 0) (mK (.int 1))) (mV 2)) (gN 1) cX cn [none,none,some 0]))
def fe:List D->M D:=kY 1 1 pB
def ib:kO:=mY
def ic:TM:=aR inD (mV 0) (mV 1)
def m9:cW:=bP (cL Bz (aU (eG (ji (mV 0)) (gN 0) ib ic [none,some 1])))
def gv:List D->M D:=kY 2 2 m9
def c8:kO:=mY
def cD:kO:=mY
def bG:TM:=eM (ae (mV 2) (ae (aU (aR bO (mV 3) (mV 0))) (ao)))
def f9:cW:=aF (lI (mV 0) (fS 2 (a9 (gN 1) (a9 (gN 2) (eF))))) (bP (aU (jr (By (mV 2)) (fS 2 (a9 (gN 0) (a9 (gN 1) (eF)))) c8 (ji (mV 1)) (gN 2) cD bG [none,none,none,some 1])))
def cm:List D->M D:=kY 3 1 f9
def jY:cW:=aF (iw (eN kX (mV 1) (cL cZ (mV 0))) (bP (aR bz (mV 0) (mV 1))) (d4)) (bP (mK (.int 0)))
def df:List D->M D:=kY 2 2 jY
def ng:cW:=aF (iw (bV (aR bz (mV 0) (mK (.int 1)))) (aF (bp 2 (aR sh (aR bz (mV 0) (mK (.int 0))) (mV 1))) (aF (lI (aR xb (aR bz (mV 0) (mK (.int 0))) (mV 1)) (IP (mV 0) (mK (.int 0)))) (bP (mV 2)))) (d4)) (aF (lI (aR sh (aR bO (aR sg (aR bz (mV 0) (mK (.int 0))) (mK (.int 48271))) (mK (.int 29))) (mK (.int 2147483647))) (IP (mV 0) (mK (.int 0)))) (aF (bp 3 (aR sh (aR bO (aR bO (aR sg (aR bz (mV 0) (mK (.int 0))) (aR bz (mV 0) (mK (.int 0)))) (aR sg (mK (.int 39373)) (aR bz (mV 0) (mK (.int 0))))) (mK (.int 7))) (mK (.int 2147483629)))) (aF (bp 3 (aR sh (aR bO (aR sg (mV 3) (mV 3)) (aR sg (mK (.int 16807)) (mV 3))) (mK (.int 2147483587)))) (bP (aR sh (aR xb (mV 3) (mK (.int 8))) (mV 1))))))
def az:List D->M D:=kY 4 2 ng
def d6:cW:=iw (sM (eN inD (aR bz (aR bz (mV 1) (mV 3)) (mK (.int 0))) (aR bz (mV 1) (mV 4))) (eN inD (aR bz (aR bz (mV 1) (mV 3)) (mK (.int 1))) (aR bz (mV 1) (mV 4)))) (qV (wb dy (mV 2) (eM (ae (mV 3) (ae (mV 4) (ao)))))) (d4)
def ie:cW:=lJ (we (aR bO (mV 3) (mK (.int 1))) (cL cZ (mV 1))) (gN 4) d6
def iA:cW:=aF (bp 1 (aR bz (mV 0) (mK (.int 1)))) (aF (bp 2 (bH (ao))) (aF (lJ (qo (cL cZ (mV 1))) (gN 3) ie) (bP (eM (ae (cL cZ (mV 1)) (ae (cL dZ (mV 2)) (ao)))))))
def ft:List D->M D:=kY 5 1 iA
def dG:cW:=qV (wb dy (mV 2) (eM (ae (aA minD (ae (aR bz (mV 1) (mV 3)) (ae (aR bz (mV 1) (mV 4)) (ao)))) (ae (aA maxD (ae (aR bz (mV 1) (mV 3)) (ae (aR bz (mV 1) (mV 4)) (ao)))) (ao)))))
def gM:cW:=aF (bp 2 (bH (ao))) (aF (lJ (ji (aR bz (mV 0) (mK (.int 1)))) (fS 2 (a9 (gN 3) (a9 (gN 4) (eF)))) dG) (bP (eM (ae (aR bz (mV 0) (mK (.int 0))) (ae (cL dZ (aU (cL bU (mV 2)))) (ao))))))
def eA:List D->M D:=kY 5 2 gM
def dH:cW:=aF (bp 6 (mK (.bl false))) (aF (iw (eN kX (mV 5) (aR bz (mV 0) (mK (.int 0)))) (bp 6 (kN (mV 1) (aR inD (eM (ae (mV 4) (ae (mV 5) (ao)))) (aR bz (mV 0) (mK (.int 1)))))) (iw (eN kX (mV 4) (aR bz (mV 0) (mK (.int 0)))) (bp 6 (aR inD (mV 4) (aR bz (aR bz (mV 0) (mK (.int 1))) (aR lA (mV 5) (aR bz (mV 0) (mK (.int 0))))))) (aF (bp 7 (aR bz (aR bz (mV 0) (mK (.int 1))) (aR lA (mV 4) (aR bz (mV 0) (mK (.int 0)))))) (aF (bp 8 (aR bz (aR bz (mV 0) (mK (.int 1))) (aR lA (mV 5) (aR bz (mV 0) (mK (.int 0)))))) (bp 6 (kN (mV 1) (JN (aR inD (aR bz (mV 7) (mK (.int 0))) (mV 8)) (aR inD (aR bz (mV 7) (mK (.int 1))) (mV 8))))))))) (iw (bV (mV 6)) (qV (wb dy (mV 3) (eM (ae (mV 4) (ae (mV 5) (ao)))))) (d4)))
def gF:cW:=lJ (we (aR bO (mV 4) (mK (.int 1))) (mV 2)) (gN 5) dH
def gO:cW:=aF (bp 2 (aR bO (aR bz (mV 0) (mK (.int 0))) (cL cZ (aR bz (mV 0) (mK (.int 1)))))) (aF (bp 3 (bH (ao))) (aF (lJ (qo (mV 2)) (gN 4) gF) (bP (eM (ae (mV 2) (ae (cL dZ (mV 3)) (ao)))))))
def dD:List D->M D:=kY 9 2 gO
def pC:cW:=bP (kN (aA cJ (ae (mV 1) (ao))) (F5 FC kX (mK (.int 0)) (mV 1) (mV 0)))
def gf:List D->M D:=kY 2 2 pC
def eI:kO:=bV (aU (aA gv (ae (aR bz (mV 2) (mV 0)) (ae (aR bz (mV 2) (mV 1)) (ao)))))
def eJ:TM:=eM (ae (aU (aR bO (mV 3) (mV 0))) (ae (aU (aR bO (mV 3) (mV 1))) (ao)))
def gh:cW:=aF (lI (mV 0) (fS 2 (a9 (gN 1) (a9 (gN 2) (eF))))) (aF (bp 3 (aU (aA fe (ae (cL cZ (mV 2)) (ao))))) (bP (aU (eG (ji (mV 3)) (fS 2 (a9 (gN 0) (a9 (gN 1) (eF)))) eI eJ [none,none,some 2,some 1]))))
def dg:List D->M D:=kY 4 1 gh
def lO:cW:=aF (bp 2 (aA df (ae (mV 0) (ae (mV 1) (ao))))) (aF (iw (eN JI (mV 2) (aR Ax (mK (.int 10)) (mK (.int 18)))) (bP (bH (ae (aR lA (mV 2) (aR Ax (mK (.int 10)) (mK (.int 18)))) (ae (mK (.bl true)) (ao))))) (d4)) (bP (bH (ae (aR sh (mV 2) (mK (.int 2147483647))) (ae (mK (.bl false)) (ao))))))
def fD:List D->M D:=kY 3 2 lO
def eW:kO:=eN kX (aU (aA az (ae (mV 1) (ae (mK (.int 4)) (ao))))) (mV 2)
def eX:TM:=eM (ae (mV 3) (ae (mV 0) (ao)))
def dI:cW:=qV (wb lC (mV 3) (aU (eG (we (aR bO (mV 4) (mK (.int 1))) (mV 1)) (gN 0) eW eX [none,some 0,some 2,some 4])))
def gQ:cW:=aF (bp 3 (bH (ao))) (aF (lJ (qo (mV 1)) (gN 4) dI) (bP (eM (ae (mV 1) (ae (cL dZ (mV 3)) (ao))))))
def bB:List D->M D:=kY 5 3 gQ
def dJ:cW:=qV (wb dy (mV 3) (wb mw (mV 2) (aU (aA az (ae (mV 0) (ae (cL cZ (mV 2)) (ao)))))))
def gR:cW:=aF (bp 2 (cL e9 (mV 1))) (aF (bp 3 (bH (ao))) (aF (F8 64 (eN ku (mV 2) (aU (bH (ao)))) dJ) (bP (cL dZ (mV 3)))))
def bY:List D->M D:=kY 4 2 gR
def fF:cW:=aF (bp 1 (bH (bJ (mK .non) (bJ (mK (.int 0)) (bJ (mK (.tup [])) (bJ (mK (.tup [.int 15,.tup []])) (bJ (mK (.tup [.int (-1),.tup []])) (bJ (mK (.tup [.bl true,.tup []])) (bJ (eM (ae (mK (.int 2)) (ae (bH (ao)) (ao)))) (bJ (bH (ae (mK (.int 2)) (ae (mK (.tup [])) (ao)))) (bJ (mK (.tup [.int 2,.tup [.tup [.int 1,.int 0]]])) (bJ (mK (.tup [.int 2,.tup [.tup [.int 0,.int 0]]])) (ao))))))))))))) (aF (bp 1 (aR bO (mV 1) (bH (bJ (mK (.tup [.int 3,.tup [.tup [.int 0,.int 2],.tup [.int 0,.int 1]]])) (bJ (mK (.tup [.int 2,.tup [.tup [.int 0,.int 1],.tup [.int 0,.int 1]]])) (bJ (mK (.tup [.int 2,.tup [.tup [.int 0,.int 1,.int 1]]])) (bJ (mK (.tup [.int 2,.tup [.tup [.int 0,.bl true]]])) (bJ (mK (.tup [.int 2])) (ao))))))))) (aF (bp 1 (aR bO (mV 1) (bH (ae (mK (.tup [.int 2,.tup [.tup [.int 0,.int 2]]])) (ae (mK (.str "2:")) (ae (mK .emp) (ao))))))) (aF (bp 1 (aR bO (mV 1) (bH (bJ (eM (ae (mK (.int 2)) (ae (eM (ae (bH (ae (mK (.int 0)) (ae (mK (.int 1)) (ao)))) (ao))) (ao)))) (bJ (mK (.tup [.int 2,.tup [],.tup []])) (bJ (mK (.tup [.int 2,.non])) (bJ (mK (.tup [.str "2",.tup []])) (ao)))))))) (bP (aR bz (mV 1) (aA az (ae (mV 0) (ae (mK (.int 22)) (ao)))))))))
def dh:List D->M D:=kY 2 1 fF
def pD:cW:=aF (iw (fB (bV (aA de (ae (mV 1) (ao))))) (bP (mK (.bl false))) (d4)) (aF (lI (mV 1) (fS 2 (a9 (gN 2) (a9 (gN 3) (eF))))) (bP (kN (aA gf (ae (mV 0) (ae (mV 2) (ao)))) (kN (aA gf (ae (mV 0) (ae (mV 3) (ao)))) (aR kX (mV 2) (mV 3))))))
def jZ:List D->M D:=kY 4 2 pD
def bQ:cW:=iw (eN FD (aU (aA az (ae (mV 0) (ae (mK (.int 8)) (ao))))) (mK (.int 0))) (aF (F7 6 7 (ae (aR bz (mV 3) (mV 5)) (ae (aR bz (mV 3) (aU (aA az (ae (mV 0) (ae (mV 5) (ao)))))) (ao)))) (qV (wb dy (mV 4) (eM (ae (aA minD (ae (mV 6) (ae (mV 7) (ao)))) (ae (aA maxD (ae (mV 6) (ae (mV 7) (ao)))) (ao))))))) (d4)
def bR:cW:=aF (lI (aU (cL bU (aU (bH (ae (aU (aA az (ae (mV 0) (ae (mV 2) (ao))))) (ae (aU (aA az (ae (mV 0) (ae (mV 2) (ao))))) (ao))))))) (pq 2 (a9 (gN 9) (a9 (gN 10) (eF))))) (iw (eN kX (mV 9) (mV 10)) (qV (wb dy (mV 4) (eM (ae (mV 9) (ae (mV 10) (ao)))))) (d4))
def eY:cW:=aF (bp 2 (aR bO (mK (.int 1)) (aU (aA az (ae (mV 0) (ae (aA minD (ae (mK (.int 7)) (ae (aR bO (mV 1) (mK (.int 1))) (ao)))) (ao))))))) (aF (bp 3 (aU (aA bY (ae (mV 0) (ae (mV 2) (ao)))))) (aF (bp 4 (bH (ao))) (aF (lJ (we (mK (.int 1)) (mV 2)) (gN 5) bQ) (aF (lJ (qo (aU (aA az (ae (mV 0) (ae (mK (.int 4)) (ao)))))) (gN 8) bR) (bP (eM (ae (mV 2) (ae (cL dZ (aU (cL bU (aU (Eo (aU (cL hU (mV 4))) (oN) (oS (mV 1))))))) (ao)))))))))
def bw:List D->M D:=kY 11 2 eY
def iB:kO:=mY
def iD:TM:=aU (aA jZ (ae (mV 1) (ae (mV 0) (ao))))
def pE:cW:=aF (iw (fB (bV (aU (aA de (ae (mV 0) (ao)))))) (bP (mK (.bl false))) (d4)) (aF (lI (mV 0) (fS 2 (a9 (gN 1) (a9 (gN 2) (eF))))) (aF (iw (sM (fB (bV (aU (aA cJ (ae (mV 1) (ao)))))) (sM (fB (wc FC FC (mK (.int 0)) (mV 1) (mK (.int 14)))) (fB (bV (gD (mV 2) "tuple"))))) (bP (mK (.bl false))) (d4)) (bP (kN (cL uk (aU (eG (ji (mV 2)) (gN 0) iB iD [none,some 1]))) (aU (aA fq (ae (mV 2) (ao))))))))
def iY:List D->M D:=kY 3 1 pE
def eR:kO:=eN ku (mV 0) (eM (ae (mV 1) (ae (mV 2) (ao))))
def eS:TM:=mV 0
def jt:cW:=aF (bp 2 (aU (aA az (ae (mV 0) (ae (mK (.int 6)) (ao)))))) (aF (iw (eN kX (mV 2) (mK (.int 3))) (aF (bp 3 (aR lA (mV 1) (aR bz (aU (bH (bJ (mK (.int 0)) (bJ (mK (.int 0)) (bJ (mK (.int 1)) (bJ (mK (.int 2)) (bJ (mK (.int 3)) (bJ (mV 1) (ao))))))))) (aU (aA az (ae (mV 0) (ae (mK (.int 6)) (ao)))))))) (bP (aU (aA bB (ae (mV 0) (ae (aA maxD (ae (mK (.int 0)) (ae (mV 3) (ao)))) (ae (aR bO (mV 2) (mK (.int 1))) (ao)))))))) (d4)) (aF (bp 4 (aU (aA ft (ae (aU (aA bw (ae (mV 0) (ae (mV 1) (ao))))) (ao))))) (aF (bp 4 (aU (aA eA (ae (mV 4) (ae (aU (aA bY (ae (mV 0) (ae (aR bz (mV 4) (mK (.int 0))) (ao))))) (ao)))))) (aF (iw (sM (eN si (mV 2) (mK (.int 3))) (eN kX (aR bz (mV 4) (mK (.int 0))) (mK (.int 2)))) (bP (mV 4)) (d4)) (aF (lI (aU (cL bU (aU (bH (ae (aU (aA az (ae (mV 0) (ae (aR bz (mV 4) (mK (.int 0))) (ao))))) (ae (aU (aA az (ae (mV 0) (ae (aR bz (mV 4) (mK (.int 0))) (ao))))) (ao))))))) (pq 2 (a9 (gN 5) (a9 (gN 6) (eF))))) (aF (bp 7 (eG (ji (aR bz (mV 4) (mK (.int 1)))) (gN 0) eR eS [none,some 5,some 6])) (aF (iw (F6 (eN kX (mV 5) (mV 6)) (eN si (cL cZ (mV 7)) (cL cZ (aR bz (mV 4) (mK (.int 1)))))) (qV (wb dy (mV 7) (eM (ae (mV 5) (ae (mV 6) (ao)))))) (d4)) (bP (eM (ae (aR bz (mV 4) (mK (.int 0))) (ae (cL dZ (aU (cL bU (mV 7)))) (ao))))))))))))
def gi:List D->M D:=kY 8 2 jt
def pF:cW:=iw (fB (bV (aU (aA iY (ae (mV 0) (ao)))))) (Gj "NoWeb" (ae (mK (.str "this is no web")) (ao))) (d4)
def ff:List D->M D:=nI 1 1 pF
def gw:cW:=aF (qV (aU (aA ff (ae (mV 0) (ao))))) (aF (bp 1 (aR bO (aR bz (mV 0) (mK (.int 0))) (cL cZ (aR bz (mV 0) (mK (.int 1)))))) (iw (eN FD (mV 1) (mK (.int 14))) (sR (ae (mV 1) (ae (mK (.int 14)) (ao)))) (d4)))
def cu:List D->M D:=nI 2 1 gw
def iE:cW:=aF (qV (aU (aA cu (ae (mV 0) (ao))))) (bP (eM (ae (aR bO (aR bz (mV 0) (mK (.int 0))) (cL cZ (aR bz (mV 0) (mK (.int 1))))) (ae (cL dZ (aU (cL bU (aU (aA cm (ae (mV 0) (ao))))))) (ao)))))
def dq:List D->M D:=nI 1 1 iE
def iF:cW:=aF (qV (aU (aA cu (ae (mV 0) (ao))))) (aF (bp 1 (aU (aR bO (aU (aR bO (aU (cL uh (aR bz (mV 0) (mK (.int 1))))) (aU (aA cm (ae (mV 0) (ao)))))) (aU (aA dg (ae (mV 0) (ao))))))) (bP (eM (ae (aR bO (aR bz (mV 0) (mK (.int 0))) (cL cZ (aR bz (mV 0) (mK (.int 1))))) (ae (cL dZ (aU (cL bU (mV 1)))) (ao))))))
def du:List D->M D:=nI 2 1 iF
def fG(F:List D->M D):kO:=mY
def fH(F:List D->M D):TM:=aU (aA F (ae (mV 0) (ae (mV 1) (ao))))
def cU(F:List D->M D):cW:=aF (iw (bV (Ih (mV 1) "tuple" "list")) (aF (iw (sM (eN ku (gD (mV 0) "tuple") (gD (mV 1) "tuple")) (eN ku (gD (mV 0) "list") (gD (mV 1) "list"))) (bP (mK (.bl false))) (d4)) (aF (iw (eN ku (cL cZ (mV 0)) (cL cZ (mV 1))) (bP (mK (.bl false))) (d4)) (bP (cL uk (aU (eG (rf (mV 0) (mV 1)) (fS 2 (a9 (gN 0) (a9 (gN 1) (eF)))) (fG F) (fH F) [none,none])))))) (d4)) (bP (kN (aR si (mV 0) (mV 1)) (aR si (gD (mV 0) "bool") (gD (mV 1) "bool"))))
def bN:Nat->List D->M D
 |0=>fun _=>M.fail
 |n+1=>kY 2 2 (cU (bN n))
def cw:List D->M D:=bN 6
def dQ:kO:=bV (aR bz (mV 1) (mV 0))
def dR:TM:=mV 0
def fJ(fv:D)(cc:M D):cW:=aF (bp 1 (mK .non)) (aF (uH 0 2 1 fv cc) (aF (bp 3 (aU (bH (ae (eO (mV 1) "NoWeb") (ae (eO (mV 1) "NoPlace") (ae (eO (mV 1) "NoPlaces") (ao))))))) (aF (bp 3 (aU (aR bO (mV 3) (aU (bH (ae (eO (mV 1) "NoSharing") (ae (eO (mV 1) "NoRoot") (ae (eO (mV 1) "NoNumber") (ao))))))))) (aF (bp 3 (aU (aR bO (mV 3) (aU (bH (ae (eO (mV 1) "NotJoined") (ae (eO (mV 1) "NoTie") (ae (eO (mV 1) "NoText") (ao))))))))) (aF (bp 3 (aU (aR bO (mV 3) (aU (bH (ae (eO (mV 1) "NoLine") (ae (eO (mV 1) "NoDeed") (ae (eO (mV 1) "TooGreat") (ao))))))))) (aF (bp 3 (aU (aR bO (mV 3) (aU (bH (ae (eO (mV 1) "NoMap") (ao))))))) (aF (iw (fB (bV (Bs (mV 1)))) (bP (mK .non)) (d4)) (bP (aU (eG (qo (mK (.int 13))) (gN 0) dQ dR [none,some 3]))))))))))
def bf:D->M D->List D->M D:=fun fv cc es=>nI 4 1 (fJ fv cc) (fv::es)
def aY:M D->List D->M D:=bf (.fn 0 0 "" [] [])
def eB(fv:D)(cc:M D):cW:=aF (bp 3 (mK .non)) (aF (m7 "TooGreat" 0 4 3 fv cc) (aF (iw (sM (eN (HW id) (mV 3) (mK .non)) (eN ku (aU (lN 0 fv (ao) cc aY)) (aU (bH (ae (mK (.int 11)) (ao)))))) (bP (mK (.bl false))) (d4)) (bP (aU (aA cw (ae (aU (bH (ae (jW false (mV 3)) (ae (jW true (mV 3)) (ao))))) (ae (aU (bH (ae (mV 1) (ae (mV 2) (ao))))) (ao))))))))
def br:D->M D->List D->M D:=fun fv cc es=>nI 5 3 (eB fv cc) (fv::es)
def bS:M D->List D->M D:=br (.fn 0 0 "" [] [])
def pG:TM:=aU (aA dq (ae (mV 0) (ao)))
def pH:TM:=aU (aA du (ae (mV 0) (ao)))
def j3:cW:=aF (bp 5 (aR bO (aR bz (mV 4) (mK (.int 0))) (cL cZ (aR bz (mV 4) (mK (.int 1)))))) (iw (eN FD (mV 5) (mK (.int 14))) (aF (iw (fB (bV (aU (qt [4] (ae (mV 5) (ae (mK (.int 14)) (ao))) pG bS)))) (bP (mK (.bl false))) (d4)) (iw (fB (bV (aU (qt [4] (ae (mV 5) (ae (mK (.int 14)) (ao))) pH bS)))) (bP (mK (.bl false))) (d4))) (iw (fB (bV (aU (aA cw (ae (aU (aA dq (ae (mV 4) (ao)))) (ae (aU (aA dD (ae (mV 4) (ae (mK (.bl false)) (ao))))) (ao))))))) (bP (mK (.bl false))) (iw (fB (bV (aU (aA cw (ae (aU (aA du (ae (mV 4) (ao)))) (ae (aU (aA dD (ae (mV 4) (ae (mK (.bl true)) (ao))))) (ao))))))) (bP (mK (.bl false))) (d4))))
def pI:TM:=aU (aA dq (ae (mV 0) (ao)))
def pJ:TM:=aU (aA du (ae (mV 0) (ao)))
def j4:cW:=aF (bp 2 (aA fD (ae (mV 0) (ae (mV 1) (ao))))) (aF (bp 3 (aU (bH (ae (aU (aA gi (ae (mV 2) (ae (mK (.int 7)) (ao))))) (ae (aU (aA bw (ae (mV 2) (ae (mK (.int 7)) (ao))))) (ao)))))) (aF (bp 3 (aU (aR bO (mV 3) (aU (bH (ae (aU (aA bB (ae (mV 2) (ae (mK (.int 4)) (ae (mK (.int 4)) (ao)))))) (ae (aU (aA bB (ae (mV 2) (ae (mK (.int 5)) (ae (mK (.int 4)) (ao)))))) (ao)))))))) (aF (bp 3 (aU (aR bO (mV 3) (aU (bH (ae (mK (.tup [.int 14,.tup []])) (ae (mK (.tup [.int 13,.tup [.tup [.int 0,.int 12]]])) (ae (mK (.tup [.int 13,.tup [.tup [.int 0,.int 12],.tup [.int 1,.int 2]]])) (ao))))))))) (aF (lJ (ji (mV 3)) (gN 4) j3) (aF (bp 6 (aU (aA dh (ae (mV 2) (ao))))) (aF (iw (eN ku (aU (qt [6] (ao) pI aY)) (aU (bH (ae (mK (.int 0)) (ao))))) (bP (mK (.bl false))) (d4)) (iw (eN ku (aU (qt [6] (ao) pJ aY)) (aU (bH (ae (mK (.int 0)) (ao))))) (bP (mK (.bl false))) (d4))))))))
def BR:cW:=aF (lJ (qo (aA maxD (ae (mK (.int 1)) (ae (aA minD (ae (cL cZ (mV 0)) (ae (mK (.int 8)) (ao)))) (ao))))) (gN 1) j4) (bP (mK (.bl true)))
def rl:List D->M D:=kY 7 1 BR
theorem mC:2<=lim:=by unfold lim;omega
theorem JU:3<=lim:=by unfold lim;omega
theorem Eu:CY (some d::r) 0=pure d:=rfl
theorem Ew:CY (o0::some d::r) 1=pure d:=rfl
theorem Ey:CY (o0::o1::some d::r) 2=pure d:=rfl
theorem Ez:CY (o0::o1::o2::some d::r) 3=pure d:=rfl
theorem km:jE S n (.int i)=some (.int i):=by cases n<;>rfl
theorem sT:jE S n (.bl b)=some (.bool b):=by cases n<;>rfl
theorem eq_int{Q:D->aB->Prop}:runs (si (.int a) (.int b)) S Q↔Q (.bl (decide (a=b))) S:=by
 unfold si;rw[jj km km];have:PyData.eqv (.int a) (.int b)=decide (a=b):=by
  simp only[PyData.eqv];rw[OG];simp
 rw[this]
theorem nh(l:List Bool):boolsOf (l.map D.bl)=some l:=by
 induction l with
 |nil=>rfl
 |cons b l ih=>simp[boolsOf,ih]
theorem di:(S++[xs])[S.length]? =some xs:=by simp
theorem Ir{Q:D->aB->Prop}:runs (si (.bl a) (.bl b)) S Q↔Q (.bl (a==b)) S:=by
 unfold si;rw[jj sT sT];have:PyData.eqv (.bool a) (.bool b)=(a==b):=by cases a<;>cases b<;>simp[PyData.eqv]
 rw[this]
theorem zv{Z:Type}(a:Z):uC (pure a:M Z)=pure a:=rfl
theorem xO{Z Y:Type}{c:Prop} [Decidable c]{a b:M Z}{f:Z->M Y}:((if c then a else b)>>=f)=if c then a>>=f else b>>=f:=by split<;>rfl
theorem fK{Z:Type}(l:List Z):l.filter (fun _=>true)=l:=List.filter_eq_self.mpr fun _ _=>rfl
theorem fL{m:cW}{ds:List D}(h:m (ds.map some++List.replicate (N - n) none)=pure o)(Z:outD o=pure d)(Y:ds.length=n:=by rfl):kY N n m ds=pure d:=by
 unfold kY nI;rw[if_pos Y];show(uC (m _)>>=outD)=_;rw[h,zv,ay,Z]
theorem pK{m n:TM}(Y:m ρ=pure x)(Z:n ρ=pure y):we m n ρ=kg [x,y]:=by
 have:ae m (ae n ao) ρ=pure [x,y]:=by unfold ae;rw[Y,ay,Z,ay];rfl
 unfold we;rw[this,ay]
theorem mD{m:TM}(Z:m ρ=pure x):qo m ρ=kK [x]:=by
 have:ae m ao ρ=pure [x]:=by unfold ae;rw[Z,ay];rfl
 unfold qo;rw[this,ay]
theorem BS(h: -(2 ^ 62)<=i/\i<2 ^ 62/\ -(2 ^ 62)<=j/\j<2 ^ 62):kg [.int i,.int j]=pure ⟨aX i (j - i).toNat,.none⟩:=by unfold kg;exact if_pos h
theorem wA(h: -(2 ^ 62)<=j/\j<2 ^ 62):kK [.int j]=pure ⟨aX 0 j.toNat,.none⟩:=by unfold kK;exact if_pos h
theorem b7{f:D->D->M D}{m n:TM}(Y:m ρ=pure x)(Z:n ρ=pure y):aR f m n ρ=f x y:=by unfold aR;rw[Y,ay,Z,ay]
theorem Gv{bs:List Bool}:Bz [.fz (bs.map D.bl)]=pure (.bl (bs.any id)):=by
 show(match boolsOf (bs.map D.bl)with|some bs=>(pure (D.bl (bs.any id)):M D)|none=>M.fail)=_
 rw[nh]
theorem eT{f:List D->M D}{m:TM}(h:m ρ=pure x):cL f m ρ=f [x]:=by
 have:ae m ao ρ=pure [x]:=by unfold ae;rw[h,ay];rfl
 unfold cL aA;rw[this,ay]
theorem fh{m:TM}(h:m ρ=pure x):bP m ρ=pure (.ret x):=by unfold bP;rw[h];rfl
theorem mE(bs:List Bool):c9 0 (bs.map D.bl)=true:=by
 induction bs with
 |nil=>rfl
 |cons x r ih=>rw[K3];unfold c9;rw[ih];unfold gr;rfl
theorem ig{mi:aO->M Iter}{g:mP}{t:kO}{m:TM}(R:aO->Prop)(q:D->Bool)(f:D->D)(X:mi ρ=pure ⟨its,.none⟩)(Z:its.length<=lim)(U:R (jD js ρ))(W:∀ d∈its,∀ ρ,R ρ->∃ ρ1,g d ρ=pure ρ1/\R ρ1/\t ρ1=pure (q d)/\(q d=true->m ρ1=pure (f d)))
  (Y:c9 0 ((its.filter q).map f)=true):aU (eG mi g t m js) ρ=pure (.fz ((its.filter q).map f)):=by
 have e:eG mi g t m js ρ=bM ((its.filter q).map f):=by
  unfold eG;rw[X,ay,xN R q f Z U W,ay]
 unfold aU;rw[e];exact dC Y (by rw[Kx];exact KP (MS _ _) Z)
section
variable {m n:cW}{ρ ρ':aO}{e e1 e2:TM}{x y d:D}{t:kO}{b:Bool}{o:Out}{N k:Nat}{ds:List D}{F:List D->M D}
theorem a8(h:m ρ=pure (.nx ρ')):aF m n ρ=n ρ':=by unfold aF;rw[h];rfl
theorem j5(h:m ρ=pure (.ret d)):aF m n ρ=pure (.ret d):=by unfold aF;rw[h];rfl
theorem kQ(h:m ρ=M.raise x):aF m n ρ=M.raise x:=by unfold aF;rw[h];rfl
theorem BU(h:e ρ=pure x):qV e ρ=pure (.nx ρ):=by unfold qV;rw[h];rfl
theorem pL(h:e ρ=M.raise x):qV e ρ=M.raise x:=by unfold qV;rw[h];rfl
theorem gj(h:e ρ=pure x):bp i e ρ=pure (.nx (ρ.set i (some x))):=by unfold bp;rw[h];rfl
theorem bX(h:t ρ=pure b):iw t m n ρ=if b=true then m ρ else n ρ:=by unfold iw;rw[h];rfl
theorem cY{f:D->D->M D}(Y:e1 ρ=pure x)(Z:e2 ρ=pure y)(h:f x y=pure (.bl b)):eN f e1 e2 ρ=pure b:=by
 unfold eN;rw[Y,ay,Z,ay,h];rfl
theorem dM(h:e ρ=pure x):aA F (ae e ao) ρ=F [x]:=eT h
theorem ni(h:e ρ=pure x):aU e ρ=pure x:=by unfold aU;rw[h];exact xM
theorem Gw(h:e ρ=M.raise x):aU e ρ=M.raise x:=by unfold aU;rw[h];exact BK
theorem sU(h:m (ds.map some++List.replicate (N - k) none)=pure o)(Y:outD o=pure d)(Z:ds.length=k:=by rfl):nI N k m ds=pure d:=by
 unfold nI;rw[if_pos Z,h,ay,Y]
theorem iZ(h:m (ds.map some++List.replicate (N - k) none)=M.raise x)(Z:ds.length=k:=by rfl):nI N k m ds=M.raise x:=by
 unfold nI;rw[if_pos Z,h];rfl
end
theorem call2{F:List D->M D}{e1 e2:TM}(Y:e1 ρ=pure x)(Z:e2 ρ=pure y):aA F (ae e1 (ae e2 ao)) ρ=F [x,y]:=by
 have:ae e1 (ae e2 ao) ρ=pure [x,y]:=by unfold ae;rw[Y,ay,Z,ay];rfl
 unfold aA;rw[this,ay]
theorem i3{e:TM}(h:e ρ=pure (.bl b)):bV e ρ=pure b:=by unfold bV;rw[h];rfl
theorem sV{us:List D}(h:us.length<=lim):dZ [.fz us]=pure (.tup us):=by
 show cf us=_;unfold cf;rw[if_pos h]
section
variable {α β:Type}{c:M α}{f:α->M β}{S S1:aB}{a:α}
theorem aQ(h:c S=some (.ok a,S1)):(c>>=f) S=f a S1:=by
 show M.bnd c f S=_;unfold M.bnd;rw[h]
end
section
variable {m n:cW}{ρ ρ':aO}{e e1 e2:TM}{x y:D}{S S1 S2:aB}{c:M D}{f:D->List D->M D}{F:List D->M D}
theorem aM(h:m ρ S=some (.ok (.nx ρ'),S1)):aF m n ρ S=n ρ' S1:=aQ h
theorem nj(h:e ρ S=some (.ok x,S1)):qV e ρ S=some (.ok (.nx ρ),S1):=aQ h
theorem bK(h:e ρ S=some (.ok x,S1)):bp i e ρ S=some (.ok (.nx (ρ.set i (some x))),S1):=aQ h
theorem fM(h:e ρ S=some (.ok x,S1)):bP e ρ S=some (.ok (.ret x),S1):=aQ h
theorem cV{us:List D}(h:us.length<=lim):bM us S=some (.ok (.lst S.length),S++[us]):=by unfold bM;exact if_pos h
theorem dE(h:S[p]? =some us):getL p S=some (.ok us,S):=by unfold getL;rw[h];rfl
theorem nR{us:List D}(h:us.length<=lim)(Z:p<S.length):mq p us S=some (.ok .non,S.set p us):=by unfold mq;exact if_pos ⟨h,Z⟩
theorem jz(h:e ρ S=some (.ok x,S1)):cL F e ρ S=F [x] S1:=by
 unfold cL aA;rw[aQ (a:=[x]) (S1:=S1)];show(e ρ>>=_) S=_;rw[aQ h];rfl
theorem gG(Y:e1 ρ S=some (.ok x,S1))(Z:e2 ρ S1=some (.ok y,S2)):eM (ae e1 (ae e2 ao)) ρ S=some (.ok (.tup [x,y]),S2):=by
 unfold eM;rw[aQ (a:=[x,y]) (S1:=S2)]
 ·unfold cf;rw[if_pos (show[x,y].length<=lim from mC)];rfl
 ·show(e1 ρ>>=_) S=_;rw[aQ Y];show(((e2 ρ>>=_)>>=_):M (List D)) S1=_;rw[aQ (a:=[y]) (S1:=S2)]
  ·rfl
  ·rw[aQ Z];rfl
end
theorem gn:gz ⟨its,.none⟩ g b [] ρ=pure (.nx ρ):=by
 unfold gz;rw[eP];rfl
theorem fN{g:mP}{b:cW}(h:g d ρ=pure ρ1)(Z:b ρ1 S=some (.ok (.nx ρ2),S1)):gz ⟨its,.none⟩ g b (d::ds) ρ S=gz ⟨its,.none⟩ g b ds ρ2 S1:=by
 rw[gz,eP,ay,h,ay,aQ Z]
theorem fi{m:cW}{ds:List D}(h:m (ds.map some++List.replicate (N - n) none) S=some (.ok o,S1))(Z:outD o=pure d)(Y:ds.length=n:=by rfl):kY N n m ds S=some (.ok d,S1):=by
 unfold kY nI;rw[if_pos Y,aQ (a:=o) (S1:=S1),Z]
 ·rfl
 ·show uC (m _) S=_;unfold uC;rw[h]
theorem ju{mi:aO->M Iter}(Z:mi ρ=pure ⟨its,.none⟩)(h:gz ⟨its,.none⟩ g b its ρ S=some (.ok o,S1)):lJ mi g b ρ S=some (.ok o,S1):=by
 unfold lJ;rw[Z,ay];exact h
theorem Kr:si (.int i) (.int i)=pure (.bl true):=cI fun S=>eq_int.mpr ⟨by rw[KU rfl],rfl⟩
theorem Ks:si (.bl b) (.bl b)=pure (.bl true):=cI fun S=>Ir.mpr ⟨by rw[beq_self_eq_true],rfl⟩
theorem JV:ku (.bl b) (.bl b)=pure (.bl false):=cI fun S=>by
 unfold ku;refine(jj sT sT).mpr ⟨?_,rfl⟩;cases b<;>rfl
theorem J8:ku (.int i) (.int i)=pure (.bl false):=cI fun S=>by
 unfold ku;refine(jj km km).mpr ⟨?_,rfl⟩;simp[PyData.eqv]
theorem sW{bs:List Bool}:uk [.fz (bs.map D.bl)]=pure (.bl (bs.all id)):=by
 show(match boolsOf (bs.map D.bl)with|some bs=>(pure (D.bl (bs.all id)):M D)|none=>M.fail)=_
 rw[nh]
theorem pM:∀{xs:List D},d∈(xs.zip xs).map (fun p:D×D=>D.tup [p.1,p.2])->∃ x∈xs,d= .tup [x,x]
 | x::r,h=>by
  rw[N4,K3,K2]at h;rcases h with rfl|h
  ·exact⟨x,.head _,rfl⟩
  ·obtain⟨y,Z,e⟩:=pM h;exact⟨y,.tail _ Z,e⟩
theorem bZ{e:TM}{es:aO->M (List D)}(Y:e ρ=pure x)(Z:es ρ=pure ys):ae e es ρ=pure (x::ys):=by
 unfold ae;rw[Y,ay,Z];rfl
section
variable {e1 e2:TM}{f:D->D->M D}{x y:D}{S S1 S2:aB}{ρ:aO}{F:List D->M D}
theorem i4(Y:e1 ρ S=some (.ok x,S1))(Z:e2 ρ S1=some (.ok y,S2)):aR f e1 e2 ρ S=f x y S2:=by
 unfold aR;rw[aQ Y,aQ Z]
theorem cF{es:aO->M (List D)}(Y:e1 ρ S=some (.ok x,S1))(Z:es ρ S1=some (.ok ys,S2)):ae e1 es ρ S=some (.ok (x::ys),S2):=by
 unfold ae;rw[aQ Y,aQ Z];rfl
theorem BV(h:S[p]? =some us)(Z:jL us j=some x):bz (.lst p) (.int j) S=some (.ok x,S):=by
 show(getL p>>=fun xs=>match jL xs j with|some d=>(pure d:M D)|none=>M.fail) S=_
 rw[aQ (dE h),Z];rfl
theorem j6{es:aO->M (List D)}(h:es ρ S=some (.ok ys,S1))(Z:ys.length<=lim):bH es ρ S=some (.ok (.lst S1.length),S1++[ys]):=by
 unfold bH;rw[aQ h];exact cV Z
theorem sX(X:S[a]? =some xs)(Y:S[b]? =some ys)(Z:(xs++ys).length<=lim):bO (.lst a) (.lst b) S=some (.ok (.lst S.length),S++[xs++ys]):=by
 show(getL a>>=fun xs=>getL b>>=fun ys=>bM (xs++ys)) S=_;rw[aQ (dE X),aQ (dE Y)];exact cV Z
end
def wB:D->Bool
 | .int _=>true
 |_=>false
abbrev Cy(d:D):Prop:=FJ d=true
def pN:D->Bool
 | .tup [_,_]=>true
 |_=>false
def iL(many:Int):D->Bool
 | .int i=>decide (0<=i) && decide (i<many)
 |_=>false
def jF(many:Int):D->Bool
 | .tup [a,b]=>iL many a && (iL many b && match a,b with| .int i,.int j=>decide (i<j)|_,_=>false)
 |_=>false
def JW(d:D):Prop:=Cy d/\∀ ds,d= .tup ds->∀ x∈ds,Cy x
theorem ko(h:iL many d=true):∃ i,d= .int i/\0<=i/\i<many:=by
 cases d with
 |int i=>exact⟨i,rfl,by simpa [iL]using h⟩
 |_=>cases h
def sY:D->D->Bool
 | .tup xs,.tup ys=>match intsOf xs,intsOf ys with
  |some a,some b=>HT.lexLt a b
  |_,_=>false
 |_,_=>false
def sZ:List D->Bool
 |a::b::r=>sY a b && sZ (b::r)
 |_=>true
def xP(d:D):Prop:=∃ ds ns,d= .tup ds/\intsOf ds=some ns
theorem xQ:∀ l:List D,((l.zip (l.drop 1)).map fun p=>sY p.1 p.2).all id=sZ l
 |[]=>rfl
 |[_]=>rfl
 |a::b::r=>by
  have:=xQ (b::r);simp only[List.drop_succ_cons,List.drop_zero,List.zip_cons_cons,List.map_cons,List.all_cons,id]at this ⊢;rw[sZ, <-this]
theorem JX(l:List D):S3.cutD l (some 1) none=l.drop 1:=by
 unfold S3.cutD HT.sIx;cases l with
 |nil=>rfl
 |cons a r=>simp
def IT(d:D):Prop:=Cy d/\∀ ds,d= .tup ds->∀ x∈ds,Cy x/\∀ ts,x= .tup ts->∀ t∈ts,JW t
def iM:D->Bool
 | .tup [.int many,.tup ties]=>decide (0<=many) && (decide (many<=14) && (ties.all (jF many) && sZ ties))
 |_=>false
theorem DJ(h:jF many d=true):∃ i j,d= .tup [.int i,.int j]/\0<=i/\i<j/\j<many:=by
 unfold jF at h;split at h
 ·next a b=>
  simp only[Bool.and_eq_true]at h;obtain⟨W,X,Z⟩:=h;obtain⟨i,rfl,Y,T⟩:=ko W;obtain⟨j,rfl,S,U⟩:=ko X;simp only[decide_eq_true_eq]at Z;exact⟨i,j,rfl,Y,Z,U⟩
 ·cases h
theorem zw(h:jF many d=true):xP d:=by
 obtain⟨i,j,rfl,_⟩:=DJ h;exact⟨_,[i,j],rfl,rfl⟩
section
variable {many:Int}{d:D}{ρ:aO}{e1 e2:TM}{b:Bool}{y:D}
theorem and_eq(Y:e1 ρ=pure (.bl b))(Z:b=true->e2 ρ=pure y)(X:b=false->y= .bl false):kN e1 e2 ρ=pure y:=by
 unfold kN;rw[Y];cases b with
 |true=>exact Z rfl
 |false=>rw[X rfl];rfl
theorem JY{a b:Int}:si (.int a) (.int b)=pure (.bl (decide (a=b))):=cI fun S=>eq_int.mpr ⟨rfl,rfl⟩
theorem xR(h:Cy d):cJ [d]=pure (.bl (wB d)):=by
 cases d<;>first|rfl|cases h
theorem td(h:Cy d):de [d]=pure (.bl (pN d)):=by
 cases d with
 |tup ds=>
  refine fL (fh (and_eq (b:=true) rfl (fun _=>(b7 (y:=.int 2) (eT (x:=.tup ds) rfl) rfl).trans JY) (fun e=>by cases e))) ?_
  show pure (D.bl (decide ((ds.length:Int)=2)))=_
  match ds with
  |[]=>rfl
  |[_]=>rfl
  |[_,_]=>rfl
  |_::_::_::r=>rw[Lr (by simp only[List.length_cons];omega)];rfl
 |_=>first|rfl|cases h
theorem xS(h:Cy d):gf [.int many,d]=pure (.bl (iL many d)):=by
 cases d with
 |int i=>
  refine fL (fh (and_eq (b:=true) ((dM rfl).trans (xR h)) (fun _=>?_) (fun e=>by cases e))) rfl
  show(if decide (0<=i)=true then (pure (D.bl (decide (i<many))):M D)else pure (.bl false))=pure (.bl (decide (0<=i) && decide (i<many)));by_cases h0:0<=i
  ·rw[if_pos (KU h0),KU h0,Mn]
  ·rw[if_neg (by rw[Lq];exact h0),Lr h0,MZ]
 |_=>first|rfl|cases h
theorem xT(h:pN d=true):∃ a b,d= .tup [a,b]:=by
 unfold pN at h;split at h
 ·exact⟨_,_,rfl⟩
 ·cases h
theorem tj{b:D}:jF many (.tup [a,b])=(iL many a && (iL many b && match a,b with| .int i,.int j=>decide (i<j)|_,_=>false)):=rfl
theorem Gx(h:JW d):jZ [.int many,d]=pure (.bl (jF many d)):=by
 by_cases hp:pN d=true
 ·obtain⟨a,b,rfl⟩:=xT hp;have X:Cy a:=h.2 _ rfl a (.head _);have W:Cy b:=h.2 _ rfl b (.tail _ (.head _));refine fL (o:=.ret (.bl (jF many (.tup [a,b])))) ?_ rfl;unfold pD;have Y:fB (bV (aA de (ae (mV 1) ao))) [some (.int many),some (.tup [a,b]),none,none]=pure false:=by
   show(bV _ _>>=_)=_;rw[i3 ((dM rfl).trans (td h.1))];rfl
  refine(a8 (ρ':=[some (.int many),some (.tup [a,b]),none,none]) ((bX Y).trans (if_neg (by decide)))).trans ((a8 (ρ':=[some (.int many),some (.tup [a,b]),some a,some b]) rfl).trans (fh ?_))
  refine and_eq (b:=iL many a) ((call2 rfl rfl).trans (xS X)) (fun k1=>and_eq (b:=iL many b) ((call2 rfl rfl).trans (xS W)) (fun k2=>?_) fun k2=>?_) fun k1=>?_
  ·obtain⟨i,rfl,_⟩:=ko k1;obtain⟨j,rfl,_⟩:=ko k2;rw[tj,k1,k2];rfl
  ·rw[tj,k2,MZ,OI]
  ·rw[tj,k1,MZ]
 ·have Z:pN d=false:=by rw[<-M4];exact hp
  have Y:fB (bV (aA de (ae (mV 1) ao))) [some (.int many),some d,none,none]=pure true:=by
   show(bV _ _>>=_)=_;rw[i3 ((dM rfl).trans (td h.1)),Z];rfl
  refine(fL (o:=.ret (.bl false)) (j5 ((bX Y).trans (if_pos rfl))) rfl).trans ?_;unfold jF;split
  ·cases hp rfl
  ·rfl
theorem Gy{a b:D}(Z:xP a)(Y:xP b):kX a b=pure (.bl (sY a b)):=by
 obtain⟨xs,ns,rfl,e1⟩:=Z;obtain⟨ys,ms,rfl,e2⟩:=Y;simp only[kX,e1,e2,sY]
def J9:D->D
 | .tup [a,b]=>.bl (sY a b)
 |_=>.non
theorem BW(h:∀ t∈ts,xP t)(W:ts.length<=1000):fq [.tup ts]=pure (.bl (sZ ts)):=by
 have em:(((ts.zip (ts.drop 1)).map fun p:D×D=>D.tup [p.1,p.2]).filter fun _=>true).map J9=((ts.zip (ts.drop 1)).map fun p=>sY p.1 p.2).map D.bl:=by
  rw[fK,Ll,Ll];rfl
 have hs:aU (Eo (mV 0) (oS (mK (.int 1))) oN) [some (.tup ts)]=pure (.tup (ts.drop 1)):=by
  refine ni (?_ :cf (S3.cutD ts (some 1) none)=_);rw[JX];unfold cf;exact if_pos (by rw[Oy];unfold lim;omega)
 have X:rf (mV 0) (aU (Eo (mV 0) (oS (mK (.int 1))) oN)) [some (.tup ts)]=pure ⟨(ts.zip (ts.drop 1)).map fun p:D×D=>D.tup [p.1,p.2],.none⟩:=by
  unfold rf;rw[bZ (x:=.tup ts) rfl (bZ hs rfl)];rfl
 have Z:=ig (g:=fS 2 (a9 (gN 0) (a9 (gN 1) eF))) (t:=hZ) (m:=ia) (js:=[none,none]) (fun ρ=>∃ x y,ρ=[x,y]) (fun _=>true) J9 X (by rw[Kx,OH];unfold lim;omega) ⟨none,none,rfl⟩
  (fun d hd ρ ⟨x,y,hρ⟩=>by
   subst hρ;obtain⟨⟨a,b⟩,Y,rfl⟩:=K4.mp hd;exact⟨_,rfl,⟨_,_,rfl⟩,rfl,fun _=>(b7 (x:=a) (y:=b) rfl rfl).trans (Gy (h a (Ng Y).1) (h b (List.mem_of_mem_drop (Ng Y).2)))⟩) (by rw[em];exact mE _)
 rw[em]at Z;refine fL (fh ((eT Z).trans sW)) ?_;rw[xQ];rfl
theorem Gz(h:IT d)(T:∀ m ts,d= .tup [m,.tup ts]->ts.length<=1000):iY [d]=pure (.bl (iM d)):=by
 by_cases hp:pN d=true
 ·obtain⟨a,t,rfl⟩:=xT hp;obtain⟨L,_⟩:=h.2 _ rfl a (.head _);obtain⟨R,S⟩:=h.2 _ rfl t (.tail _ (.head _));refine fL (o:=.ret (.bl (iM (.tup [a,t])))) ?_ rfl;unfold pE;have P:fB (bV (aU (aA de (ae (mV 0) ao)))) [some (.tup [a,t]),none,none]=pure false:=by
   show(bV _ _>>=_)=_;rw[i3 (ni ((dM rfl).trans (td h.1)))];rfl
  refine(a8 (ρ':=[some (.tup [a,t]),none,none]) ((bX P).trans (if_neg (by decide)))).trans ((a8 (ρ':=[some (.tup [a,t]),some a,some t]) rfl).trans ?_)
  have hw:fB (bV (aU (aA cJ (ae (mV 1) ao)))) [some (.tup [a,t]),some a,some t]=pure (!wB a):=by
   show(bV _ _>>=_)=_;rw[i3 (ni ((dM rfl).trans (xR L)))];rfl
  have X:∀{p q:kO} {b:Bool} {ρ:aO},p ρ=pure b->sM p q ρ=if b=true then pure true else q ρ:=fun{p q b ρ} e=>by
   show(p ρ>>=_)=_;rw[e];rfl
  have no:∀{q:kO},sM (fB (bV (aU (aA cJ (ae (mV 1) ao))))) q [some (.tup [a,t]),some a,some t]=pure true->aF (iw (sM (fB (bV (aU (aA cJ (ae (mV 1) ao))))) q) (bP (mK (.bl false))) d4) (bP (kN (cL uk (aU (eG (ji (mV 2)) (gN 0) iB iD [none,some 1]))) (aU (aA fq (ae (mV 2) ao))))) [some (.tup [a,t]),some a,some t]=pure (.ret (.bl false)):=fun e=>j5 ((bX e).trans (if_pos rfl));by_cases ew:wB a=true
  ·cases a with
   | int many=>
    rw[ew]at hw;have U:fB (wc FC FC (mK (.int 0)) (mV 1) (mK (.int 14))) [some (.tup [.int many,t]),some (.int many),some t]=pure (!(decide (0<=many) && decide (many<=14))):=by
     show(((if decide (0<=many)=true then (pure (D.bl (decide (many<=14))):M D)else pure (.bl false))>>=kz)>>=_)=_;by_cases h0:0<=many
     ·rw[if_pos (KU h0),KU h0,Mn];rfl
     ·rw[if_neg (by rw[Lq];exact h0),Lr h0,MZ];rfl
    by_cases hr:(decide (0<=many) && decide (many<=14))=true
    ·rw [hr]at U;cases t with
     | tup ts=>
      have O:=T _ ts rfl;have N:sM (fB (bV (aU (aA cJ (ae (mV 1) ao))))) (sM (fB (wc FC FC (mK (.int 0)) (mV 1) (mK (.int 14)))) (fB (bV (gD (mV 2) "tuple")))) [some (.tup [.int many,.tup ts]),some (.int many),some (.tup ts)]=pure false:=by
       rw[X hw,if_neg (by decide),X U,if_neg (by decide)];rfl
      refine(a8 ((bX N).trans (if_neg (by decide)))).trans (fh ?_)
      have em:(ts.filter fun _=>true).map (fun d=>D.bl (jF many d))=(ts.map (jF many)).map D.bl:=by rw[fK,Ll];rfl
      have hm:=ig (mi:=ji (mV 2)) (ρ:=[some (.tup [.int many,.tup ts]),some (.int many),some (.tup ts)]) (g:=gN 0) (t:=iB) (m:=iD) (js:=[none,some 1]) (its:=ts) (fun ρ=>∃ x,ρ=[x,some (.int many)]) (fun _=>true) (fun d=>.bl (jF many d)) rfl (by unfold lim;omega) ⟨none,rfl⟩
       (fun d hd ρ ⟨x,hρ⟩=>by
        subst hρ;exact⟨_,rfl,⟨_,rfl⟩,rfl,fun _=>ni ((call2 (x:=.int many) (y:=d) rfl rfl).trans (Gx (S ts rfl d hd)))⟩) (by rw[em];exact mE _)
      rw[em]at hm;have W:(ts.map (jF many)).all id=ts.all (jF many):=by rw[N6];rfl
      have Y:iM (.tup [.int many,.tup ts])=(ts.all (jF many) && sZ ts):=by
       show(decide (0<=many) && (decide (many<=14) && (ts.all (jF many) && sZ ts)))=_;rw[<-Bool.and_assoc,hr,Mn]
      rw[Y];refine and_eq (b:=ts.all (jF many)) ((eT hm).trans (sW.trans (by rw[W]))) (fun Z=>?_) fun Z=>by rw[Z];rfl
      rw[Z,Mn];exact ni ((dM rfl).trans (BW (fun t R=>zw (Lf.mp Z t R)) O))
     |_=>first|exact no (by rw[X hw,if_neg (by decide),X U,if_neg (by decide)];rfl)|cases R
    ·have Y:iM (.tup [.int many,t])=false:=by
      cases t<;>first|rfl|(show(decide (0<=many) && (decide (many<=14) && _))=false;rw[<-Bool.and_assoc,M4 _ |>.mp hr,MZ])
     rw[Y];rw[M4 _ |>.mp hr]at U;exact no (by rw[X hw,if_neg (by decide),X U];rfl)
   |_=>cases ew
  ·have Y:iM (.tup [a,t])=false:=by cases a<;>first|rfl|exact absurd rfl ew
   rw[Y];exact no (by rw[X hw,M4 _ |>.mp ew];rfl)
 ·have Q:pN d=false:=by rw[<-M4];exact hp
  have P:fB (bV (aU (aA de (ae (mV 0) ao)))) [some d,none,none]=pure true:=by
   show(bV _ _>>=_)=_;rw[i3 (ni ((dM rfl).trans (td h.1))),Q];rfl
  refine(fL (o:=.ret (.bl false)) (j5 ((bX P).trans (if_pos rfl))) rfl).trans ?_;unfold iM;split
  ·cases hp rfl
  ·rfl
end
def d7(S:aB)(k:Nat):Prop:=∃ st b,S[k]? =some [.int st,.bl b]/\0<=st/\(b=false->st<2147483647)
theorem d7.lt{S:aB}{k:Nat}(h:d7 S k):k<S.length:=let ⟨_,_,e,_⟩:=h;(KC.mp e).1
theorem rm{t:kO}{m n:cW}{ρ:aO}{b:Bool}{S S1:aB}(h:t ρ S=some (.ok b,S1)):iw t m n ρ S=if b=true then m ρ S1 else n ρ S1:=by
 show(t ρ>>=fun c=>if c=true then m ρ else n ρ) S=_;rw[aQ h];split<;>rfl
section
variable {S:aB}{k:Nat}{st x y many:Int}{b:Bool}{r:List (Option D)}{e1 e2:TM}{ρ:aO}
theorem G7(e:S[k]? =some [.int st,.bl b]):aR bz (mV 0) (mK (.int 0)) (some (.lst k)::r) S=some (.ok (.int st),S):=BV e rfl
theorem iK(Y:e1 ρ S=some (.ok (.int x),S))(Z:e2 ρ S=some (.ok (.int y),S))(h:0<y):aR sh e1 e2 ρ S=some (.ok (.int (x % y)),S):=
 (i4 Y Z).trans (Ly (if_pos h:(if 0<y then (pure (D.int (x % y)):M D)else M.fail)=_) S)
theorem pO(Y:e1 ρ S=some (.ok (.int x),S))(Z:e2 ρ S=some (.ok (.int y),S))(h:vy x y):aR sg e1 e2 ρ S=some (.ok (.int (x*y)),S):=
 (i4 Y Z).trans (Ly (if_pos h:(if vy x y then (pure (D.int (x*y)):M D)else M.fail)=_) S)
theorem BX(Y:e1 ρ S=some (.ok (.int x),S))(Z:e2 ρ S=some (.ok (.int y),S))(h:Aa x y):aR xb e1 e2 ρ S=some (.ok (.int (x / y)),S):=
 (i4 Y Z).trans (Ly (if_pos h:(if Aa x y then (pure (D.int (x / y)):M D)else M.fail)=_) S)
theorem tm(Y:e1 ρ S=some (.ok (.int x),S))(Z:e2 ρ S=some (.ok (.int y),S)):aR bO e1 e2 ρ S=some (.ok (.int (x+y)),S):=(i4 Y Z).trans rfl
theorem Iu(e:S[k]? =some [.int st,.bl b])(h:e1 (some (.lst k)::r) S=some (.ok (.int x),S)):lI e1 (IP (mV 0) (mK (.int 0))) (some (.lst k)::r) S=some (.ok (.nx (some (.lst k)::r)),S.set k [.int x,.bl b]):=by
 have Z:jQ (.lst k) (.int 0) (.int x) S=some (.ok (),S.set k [.int x,.bl b]):=by
  show(getL k>>=_) S=_;rw[aQ (dE e)];exact aQ (nR (us:=[.int x,.bl b]) mC (KC.mp e).1)
 have Y:IP (mV 0) (mK (.int 0)) (.int x) (some (.lst k)::r) S=some (.ok (some (.lst k)::r),S.set k [.int x,.bl b]):=aQ Z;show(e1 _>>=_) S=_;rw[aQ h];exact aQ Y
theorem j7{m n:cW}{d:D}{S1:aB}(h:m ρ S=some (.ok (.ret d),S1)):aF m n ρ S=some (.ok (.ret d),S1):=aQ h
end
theorem GA{S:aB}{k:Nat}{many:Int}{Q:D->aB->Prop}(hs:d7 S k)(Y:0<many)(L:many<1073741824)
  (T:∀ j S',0<=j->j<many->S'.length=S.length->(∀ i,i≠k->S'[i]? =S[i]?)->d7 S' k->Q (.int j) S'):runs (az [.lst k,.int many]) S Q:=by
 have X:=hs.lt;obtain⟨st,b,e,N,O⟩:=hs;have q:∀ x:Int,0<=x % many/\x % many<many:=fun x=>⟨Nk _ (by omega),MN _ Y⟩
 have R:bV (aR bz (mV 0) (mK (.int 1))) [some (.lst k),some (.int many),none,none] S=some (.ok b,S):=aQ (BV (x:=.bl b) e rfl);have Z:∀(ys:List D) i,i≠k->(S.set k ys)[i]? =S[i]? :=fun ys i P=>LG (Ne.symm P);cases b with
 |true=>
  refine⟨_,_,fi (o:=.ret (.int (st % many))) (S1:=S.set k [.int (st / many),.bl true]) ?_ rfl,T _ _ (q _).1 (q _).2 (by simp) (Z _) ⟨_,true,K8 X,Int.ediv_nonneg N (by omega),fun z=>by cases z⟩⟩
  exact j7 ((rm R).trans ((aM (bK (iK (G7 e) rfl Y))).trans ((aM (Iu e (BX (G7 e) rfl ⟨Y,L⟩))).trans (fM rfl))))
 |false=>
  have K:=O rfl;generalize hst:(st*48271+29) % 2147483647=st';have s1:0<=st':=by rw[<-hst];exact Nk _ (by decide)
  have s2:st'<2147483647:=by rw[<-hst];exact MN _ (by decide)
  have e1:(S.set k [.int st',.bl false])[k]? =some [.int st',.bl false]:=K8 X;have U:=Iu (r:=[some (.int many),none,none]) e (iK (tm (pO (G7 e) (e2:=mK (.int 48271)) rfl (.inr ⟨by decide,by decide⟩)) (e2:=mK (.int 29)) rfl) (e2:=mK (.int 2147483647)) rfl (by decide))
  rw[hst]at U;have W:∀ r,aR sh (aR bO (aR bO (aR sg (aR bz (mV 0) (mK (.int 0))) (aR bz (mV 0) (mK (.int 0)))) (aR sg (mK (.int 39373)) (aR bz (mV 0) (mK (.int 0))))) (mK (.int 7))) (mK (.int 2147483629)) (some (.lst k)::r) (S.set k [.int st',.bl false])=_:=fun r=>iK (tm (tm (pO (G7 e1) (G7 e1) (.inl ⟨by omega,by omega⟩)) (pO rfl (G7 e1) (.inl ⟨by decide,by decide⟩))) rfl) rfl (by decide)
  generalize hx:(st'*st'+39373*st'+7) % 2147483629=x at W;have J:0<=x:=by rw[<-hx];exact Nk _ (by decide)
  have x2:x<2147483629:=by rw[<-hx];exact MN _ (by decide)
  refine⟨_,_,fi (o:=.ret (.int ((x*x+16807*x) % 2147483587 / 8 % many))) (S1:=S.set k [.int st',.bl false]) ?_ rfl,T _ _ (q _).1 (q _).2 (by simp) (Z _) ⟨_,false,e1,s1,fun _=>s2⟩⟩
  exact(aM (rm R)).trans ((aM U).trans ((aM (bK (W _))).trans ((aM (bK (iK (tm (pO rfl rfl (.inl ⟨by omega,by omega⟩)) (pO rfl rfl (.inl ⟨by decide,by decide⟩))) rfl (by decide)))).trans (fM (iK (BX rfl rfl ⟨by decide,by decide⟩) rfl Y)))))
theorem GC{S:aB}{ns:List Int}{k:Nat}:∃ i,df [.ro (ns.map D.int),.int k] S=some (.ok (.int i),S):=by
 have Z:eN kX (mV 1) (cL cZ (mV 0)) [some (.ro (ns.map D.int)),some (.int k)]=pure (decide ((k:Int)<(ns.map D.int).length)):=cY (x:=.int k) (y:=.int (ns.map D.int).length) rfl rfl rfl;by_cases h:k<ns.length
 ·refine⟨ns[k],fi (o:=.ret (.int ns[k])) (j7 ((Ly ((bX Z).trans (if_pos (KU (by rw[Kx];omega)))) S).trans (fM (x:=.int ns[k]) (S1:=S) ?_))) rfl⟩
  have e:jL (ns.map D.int) (k:Int)=some (.int ns[k]):=by
   unfold jL yt;simp[h]
  show(match jL (ns.map D.int) k with|some d=>(pure d:M D)|none=>M.fail) S=_
  rw[e];rfl
 ·exact⟨0,fi (o:=.ret (.int 0)) (Ly ((a8 ((bX Z).trans (if_neg (by rw[Lq,Kx];omega)))).trans rfl) S) rfl⟩
theorem DK{S:aB}{ns:List Int}{k:Nat}{Q:D->aB->Prop}(Y:∀ xs,d7 (S++[xs]) S.length->Q (.lst S.length) (S++[xs])):runs (fD [.ro (ns.map D.int),.int k]) S Q:=by
 obtain⟨c,U⟩:=GC (S:=S) (ns:=ns) (k:=k);have X:bp 2 (aA df (ae (mV 0) (ae (mV 1) ao))) [some (.ro (ns.map D.int)),some (.int k),none] S=some (.ok (.nx [some (.ro (ns.map D.int)),some (.int k),some (.int c)]),S):=bK (x:=.int c) (by rw[call2 (x:=.ro (ns.map D.int)) (y:=.int k) rfl rfl];exact U)
 have Z:∀ ρ,aR Ax (mK (.int 10)) (mK (.int 18)) ρ=pure (.int 1000000000000000000):=fun ρ=>(b7 (x:=.int 10) (y:=.int 18) rfl rfl).trans (if_pos (e:=M.fail) (show CG 10 18 from⟨by decide,by decide,by decide⟩))
 have W:eN JI (mV 2) (aR Ax (mK (.int 10)) (mK (.int 18))) [some (.ro (ns.map D.int)),some (.int k),some (.int c)]=pure (decide (1000000000000000000<=c)):=cY (x:=.int c) rfl (Z _) rfl;by_cases h:1000000000000000000<=c
 ·exact⟨_,_,fi (o:=.ret (.lst S.length)) ((aM X).trans (j7 ((Ly ((bX W).trans (if_pos (KU h))) S).trans (fM (j6 (ys:=[.int (c - 1000000000000000000),.bl true]) (cF (S1:=S) (Ly ((b7 (x:=.int c) rfl (Z _)).trans rfl) S) (cF rfl rfl)) mC))))) rfl,Y _ ⟨_,true,di,by omega,fun z=>by cases z⟩⟩
 ·exact⟨_,_,fi (o:=.ret (.lst S.length)) ((aM X).trans ((aM (Ly ((bX W).trans (if_neg (by rw[Lq];exact h))) S)).trans (fM (j6 (ys:=[.int (c % 2147483647),.bl false]) (cF (iK rfl rfl (by decide)) (cF rfl rfl)) mC)))) rfl,Y _ ⟨_,false,di,Nk _ (by decide),fun _=>MN _ (by decide)⟩⟩
def i5(n a:Nat):List (List Int):=(List.range' (a+1) (n - (a+1))).map fun b:Nat=>[(a:Int),(b:Int)]
def bC(n:Nat):List (List Int):=(List.range n).flatMap (i5 n)
theorem pairs_len(Z:n<=14):(bC n).length<=91:=by
 have:∀ m,m<15->(bC m).length<=91:=by decide+kernel
 exact this n (by omega)
structure Kp(k:Nat)(S S':aB):Prop where
 len:S.length<=S'.length
 oth:∀ i,i<S.length->i≠k->S'[i]? =S[i]?
 st:d7 S' k
theorem Kp.trans(a:Kp k S S1)(b:Kp k S1 S2):Kp k S S2:=⟨KP a.len b.len,fun i Z Y=>(b.oth i (KQ Z a.len) Y).trans (a.oth i Z Y),b.st⟩
theorem Kp.refl(h:d7 S k):Kp k S S:=⟨Kz _,fun _ _ _=>rfl,h⟩
theorem d7.grow(h:d7 S k):d7 (S++G) k:=by
 obtain⟨st,b,e,r⟩:=id h;exact⟨st,b,by rw[Li h.lt];exact e,r⟩
theorem Kp.grow(h:d7 S k)(G:aB):Kp k S (S++G):=⟨by simp,fun i Z _=>Li Z,h.grow⟩
theorem xU{Q:D->aB->Prop}(hs:d7 S k)(U:0<many)(W:many<1073741824)(Y:∀ j Z,0<=j->j<many->Z.length=S.length->Kp k S Z->Q (.int j) Z):runs (az [.lst k,.int many]) S Q:=
 GA hs U W fun j Z a b c d e=>Y j Z a b c ⟨Nb c.symm,fun i _ X=>d i X,e⟩
theorem mF:∀ ns:List Int,mapP (jE S n) (ns.map D.int)=some (ns.map PyData.int)
 |[]=>rfl
 |x::r=>by
  show(match jE S n (D.int x),mapP (jE S n) (r.map D.int)with|some p,some ps=>some (p::ps)|_,_=>none)=_
  rw[km,mF r];rfl
theorem BY{ns:List Int}(h:S[k]? =some (ns.map D.int)):jE S (n+1) (.lst k)=some (.list (ns.map PyData.int)):=by
 show((S[k]?).bind fun xs=>(mapP (jE S n) xs).map PyData.list)=_;rw[h];show(mapP (jE S n) (ns.map D.int)).map PyData.list=_;rw[mF];rfl
theorem rp{Z Y:Type}(f:Z->Y):∀(l:List Z) (i:Nat),(l.map f).eraseIdx i=(l.eraseIdx i).map f
 |[],_=>rfl
 |_::_,0=>rfl
 |a::l,i+1=>by simp[rp f l i]
def mG(r:List Int):PyData:=.tuple (r.map PyData.int)
theorem lQ(r:List Int):jE S (n+1) (tupI r)=some (mG r):=by
 show(mapP (jE S n) (r.map D.int)).map PyData.tuple=_;rw[mF];rfl
theorem rq:∀ rs:List (List Int),mapP (jE S (n+1)) (rs.map tupI)=some (rs.map mG)
 |[]=>rfl
 |x::r=>by
  show(match jE S (n+1) (tupI x),mapP (jE S (n+1)) (r.map tupI)with|some p,some ps=>some (p::ps)|_,_=>none)=_
  rw[lQ,rq r];rfl
theorem pP(ns:List Int):intsOf (ns.map D.int)=some ns:=by
 induction ns with
 |nil=>rfl
 |cons x r ih=>simp[intsOf,ih]
theorem pQ(Z:List (List Int)):rowsOf (Z.map tupI)=some Z:=by
 induction Z with
 |nil=>rfl
 |cons x r ih=>
  show(match intsOf (x.map D.int),rowsOf (r.map tupI)with|some ns,some nss=>some (ns::nss)|_,_=>none)=_
  rw[pP,ih]
structure WebOk(many:Int)(ts:List (List Int)):Prop where
 el:∀ t∈ts,∃ a b:Int,t=[a,b]/\0<=a/\a<b/\b<many
 ris:ts.Pairwise fun a b=>HT.lexLt a b=true
 few:ts.length<=21
theorem BZ:∀ t∈bC n,∃ a b:Int,t=[a,b]/\0<=a/\a<b/\b<n:=by
 intro t Y;unfold bC at Y;obtain⟨a,W,X⟩:=Mg.mp Y;unfold i5 at X;obtain⟨b,Z,rfl⟩:=K4.mp X;rw[LR]at Z;rw[KS]at W;exact⟨a,b,rfl,by omega,by omega,by omega⟩
theorem mH(Z:n<=7):(bC n).Pairwise (fun a b=>HT.lexLt a b=true)/\(bC n).length<=21:=by
 have:∀ m,m<8->(bC m).Pairwise (fun a b=>HT.lexLt a b=true)/\(bC m).length<=21:=by decide+kernel
 exact this n (by omega)
theorem WebOk.of_sub(Z:n<=7){Y:List (List Int)}(h:Y.Sublist (bC n)):WebOk n Y:=
 ⟨fun t X=>BZ t (h.subset X),Mq h (mH Z).1,KP h.length_le (mH Z).2⟩
theorem zx{Z:List (List Int)}(h:Z.Pairwise fun a b=>HT.lexLt a b=true):cK Z=Z:=
 ki (bF Z) (cR Z) (h.imp fun z=>oW z)
theorem zy:sY (tupI a) (tupI b)=HT.lexLt a b:=by
 simp only[sY,tupI,pP]
theorem uU:∀{ts:List (List Int)},ts.Pairwise (fun a b=>HT.lexLt a b=true)->sZ (ts.map tupI)=true
 |[],_=>rfl
 |[_],_=>rfl
 |a::b::r,h=>by
  obtain⟨Y,Z⟩:=Ls.mp h;show(sY (tupI a) (tupI b) && sZ ((b::r).map tupI))=true;rw[zy,Y b (by simp),uU Z];rfl
theorem DL(U:0<=many)(Z:many<=14)(w:WebOk many ts):iM (.tup [.int many,.tup (ts.map tupI)])=true:=by
 have:(ts.map tupI).all (jF many)=true:=by
  rw[N6,Lf];intro t X;obtain⟨a,b,rfl,W,Y,T⟩:=w.el t X;simp[tupI,jF,iL,W,Y,T];omega
 simp only[iM,U,Z,this,uU w.ris,decide_true,Bool.and_self]
theorem rz:t∈eL l↔t∈l:=by
 unfold eL;rw[(bF _).mem_iff,iW]
theorem rA:∀ l:List (List Int),(fZ l).length<=l.length
 |[]=>Kz _
 |x::r=>by
  unfold fZ;have:=rA r;split
  ·simp;omega
  ·simp;omega
theorem zz(l:List (List Int)):(eL l).length<=l.length:=by
 unfold eL;rw[(bF _).length_eq];exact rA l
theorem zA(l:List (List Int)):(eL l).Pairwise fun a b=>HT.lexLt a b=true:=by
 have X:=cR (fZ l);have Z:(eL l).Nodup:=(Mz (bF _)).mpr (lH l);unfold eL at Z ⊢;generalize cK (fZ l)=s at X Z
 induction s with
 |nil=>exact .nil
 |cons x r ih=>
  obtain⟨a1,a2⟩:=Ls.mp X;obtain⟨W,U⟩:=Lw.mp Z;refine Ls.mpr ⟨fun y Y=>?_,ih a2 U⟩;cases q:HT.lexLt x y with
  |true=>rfl
  |false=>exact absurd (nO q (a1 y Y) ▸ Y) W
def Iv:Nat->D->Bool
 |_,.ro _=>false
 |_,.fn _ _ _ _ _=>false
 |_,.exc _ _=>false
 |n+1,.tup ds=>ds.all (Iv n)
 |_,_=>true
theorem xV(h:Iv n d=true):Cy d:=by
 cases d<;>first|rfl|(cases n<;>cases h)
theorem Iw(h:Iv (n+1) d=true):JW d:=⟨xV h,fun ds e x Z=>by
 subst e;exact xV (Lf.mp h x Z)⟩
def Iy:D->Bool
 | .tup ds=>ds.all fun x=>match x with
  | .tup ts=>decide (ts.length<=18)
  |_=>true
 |_=>true
structure Good(d:D):Prop where
 nr:IT d
 few:∀ m ts,d= .tup [m,.tup ts]->ts.length<=18
theorem DM(h:Iv 3 d=true)(X:Iy d=true):Good d:=⟨⟨xV h,fun ds e x U=>by
  subst e;have Z:=Lf.mp h x U;refine⟨xV Z,fun Y T t W=>?_⟩;subst T;exact Iw (Lf.mp Z t W)⟩,fun m Y e=>by
  subst e;have:=Lf.mp X (.tup Y) (by simp)
  simpa using this⟩
def B0(d:D):Bool:=Iv 3 d && Iy d
theorem lR(h:B0 d=true):Good d:=by
 unfold B0 at h;rw[Mf]at h;exact DM h.1 h.2
theorem EB{xs:List D}{j:Int}(X:0<=j)(Y:j<xs.length):∃ d,jL xs j=some d/\d∈xs:=by
 have Z:j.toNat<xs.length:=by omega
 refine⟨xs[j.toNat],?_,LV Z⟩;unfold jL yt;simp[X,Y,Z]
section
variable {d:D}
theorem B1(h:IT d)(Y:∀ m ts,d= .tup [m,.tup ts]->ts.length<=1000):ff [d]=if iM d=true then pure .non else M.raise (.exc "NoWeb" []):=by
 have Z:fB (bV (aU (aA iY (ae (mV 0) ao)))) [some d]=pure (!iM d):=by
  show(bV _ _>>=_)=_;rw[i3 (b:=iM d) (ni ((dM rfl).trans (Gz h Y)))];rfl
 cases hw:iM d with
 |true=>exact(sU ((bX Z).trans (by rw[hw];exact if_neg (by decide))) rfl).trans (if_pos rfl).symm
 |false=>exact(iZ ((bX Z).trans (by rw[hw];exact if_pos rfl))).trans (if_neg (by decide)).symm
end
def Ka(n:Nat):D->List D
 | .int a=>(i5 n a.toNat).map tupI
 |_=>[]
theorem DN(n a:Nat):((aX ((a:Int)+1) ((n:Int) - ((a:Int)+1)).toNat).filter fun _=>true).flatMap (fun d=>[D.tup [.int a,d]])=(i5 n a).map tupI:=by
 have e:((n:Int) - ((a:Int)+1)).toNat=n - (a+1):=by omega
 rw[e,fK];unfold aX i5;rw[Me,Ll,Ll,OB]
 induction (List.range (n - (a+1)))with
 |nil=>rfl
 |cons x l ih=>rw[LD,ih];rfl
theorem DO(n:Nat):((aX 0 n).filter fun _=>true).flatMap (Ka n)=(bC n).map tupI:=by
 rw[fK];unfold aX bC;rw[OB,List.map_flatMap];congr 1;funext a;show(i5 n (0+(a:Int)).toNat).map tupI=_;congr 2;omega
theorem d8(l:List (List Int)):c9 0 (l.map tupI)=true:=by
 have h:∀ r:List Int,c9 0 (r.map D.int)=true:=fun r=>by
  induction r with
  |nil=>rfl
  |cons x r ih=>rw[K3];unfold c9;rw[ih];unfold gr;rfl
 induction l with
 |nil=>rfl
 |cons x l ih=>rw[K3];unfold c9;rw[ih];unfold tupI gr;rw[h];rfl
theorem pR(Z:n<=50):(bC n).length<=2500:=by
  have:∀ l:List Nat,(l.flatMap (i5 n)).length<=l.length*50:=fun l=>by
    induction l with
    |nil=>exact Kz 0
    | cons x l ih => rw[LD,KD,KY,Nd];have:(i5 n x).length<=50:=by unfold i5;simp;omega
                     omega
  have:=this (List.range n);rw[Lp]at this;unfold bC;exact KP this (Nat.mul_le_mul_right 50 Z)
theorem Iz{n a:Nat}(T:n<=50)(U:a<n)(y:Option D):∃ ρ2,(∃ x y,ρ2=[x,y,some (.int n)])/\Dz (we (aR bO (mV 0) (mK (.int 1))) (mV 2)) (gN 1) cX cn [some (.int a),y,some (.int n)]=pure ((i5 n a).map tupI,ρ2):=by
 obtain⟨ρ',⟨Z,rfl⟩,e⟩:=rj (its:=aX ((a:Int)+1) ((n:Int) - ((a:Int)+1)).toNat) (g:=gN 1) (t:=cX) (bd:=wy cn) (fun ρ=>∃ y,ρ=[some (.int a),y,some (.int n)]) (fun _=>true) (fun d=>[D.tup [.int a,d]]) (aX ((a:Int)+1) ((n:Int) - ((a:Int)+1)).toNat) [some (.int a),y,some (.int n)] ⟨y,rfl⟩ fun d hd ρ ⟨y,hρ⟩=>by
  subst hρ;refine⟨_,rfl,rfl,fun _=>⟨[some (.int a),some d,some (.int n)],⟨_,rfl⟩,?_⟩,fun h=>by cases h⟩
  have:cn [some (.int a),some d,some (.int n)]=pure (.tup [.int a,d]):=by
   show cf [.int a,d]=_;unfold cf;exact if_pos mC
  show(cn [some (.int a),some d,some (.int n)]>>=_)=_;rw[this];rfl
 refine⟨[some (.int a),Z,some (.int n)],⟨some (.int a),Z,rfl⟩,?_⟩;have Y: -(2 ^ 62)<=(a:Int)+1/\(a:Int)+1<2 ^ 62/\ -(2 ^ 62)<=(n:Int)/\(n:Int)<2 ^ 62:=by omega
 have W:(aX ((a:Int)+1) ((n:Int) - ((a:Int)+1)).toNat).length<=3000:=by unfold aX;simp;omega
 rw[DN]at e;have X:we (aR bO (mV 0) (mK (.int 1))) (mV 2) [some (.int a),y,some (.int n)]=pure ⟨aX ((a:Int)+1) ((n:Int) - ((a:Int)+1)).toNat,.none⟩:=by
  exact(pK (b7 (x:=.int a) (y:=.int 1) rfl rfl) (y:=.int n) rfl).trans (BS Y)
 unfold Dz;rw[X,ay];dsimp only;rw[if_pos W];exact e
theorem DP{n:Nat}(U:n<=50):jm (fe [.int n])=pure (.fz ((bC n).map tupI)):=by
 obtain⟨ρ',_,e⟩:=rj (its:=aX 0 n) (g:=gN 0) (t:=eQ) (bd:=Dz (we (aR bO (mV 0) (mK (.int 1))) (mV 2)) (gN 1) cX cn) (fun ρ=>∃ x y,ρ=[x,y,some (.int n)]) (fun _=>true) (Ka n) (aX 0 n) [none,none,some (.int n)] ⟨none,none,rfl⟩ fun d hd ρ ⟨x,y,hρ⟩=>by
  subst hρ;obtain⟨a,R,rfl⟩:=K4.mp hd;have X:=KS.mp R;refine⟨_,rfl,rfl,fun _=>?_,fun h=>by cases h⟩
  obtain⟨Y,W,Z⟩:=Iz U X y;refine⟨Y,W,?_⟩;show Dz _ _ _ _ [some (.int (0+(a:Int))),y,some (.int n)]=_;rw[Mo,Z];rfl
 rw[DO]at e;have T: -(2 ^ 62)<=(n:Int)/\(n:Int)<2 ^ 62:=by omega
 have Q:(aX 0 n).length<=3000:=by unfold aX;simp;omega
 have W:jr (qo (mV 0)) (gN 0) eQ (we (aR bO (mV 0) (mK (.int 1))) (mV 2)) (gN 1) cX cn [none,none,some 0] [some (.int n)]=bM ((bC n).map tupI):=by
  have S:qo (mV 0) [some (.int n)]=pure ⟨aX 0 n,.none⟩:=by
   have:=(mD (m:=mV 0) (ρ:=[some (.int n)]) (x:=.int n) rfl).trans (wA T);rw[Lo]at this;exact this
  have O:jD [none,none,some 0] [some (D.int n)]=[none,none,some (.int n)]:=rfl;unfold jr;rw[S,ay];dsimp only;rw[if_pos Q,O,e,ay]
 have Z:bP (aU (jr (qo (mV 0)) (gN 0) eQ (we (aR bO (mV 0) (mK (.int 1))) (mV 2)) (gN 1) cX cn [none,none,some 0])) [some (.int n)]=pure (.ret (.fz ((bC n).map tupI))):=by
  unfold bP aU;rw[W,dC (d8 _) (by rw[Kx];exact KP (pR U) (by unfold lim;omega))]
  rfl
 have P:fe [.int n]=pure (.fz ((bC n).map tupI)):=by
  exact fL Z rfl
 rw[P];exact xM
abbrev aH(n:Nat)(E:List (List Int)):D:=.tup [.int n,.tup (E.map tupI)]
theorem GD:IT (aH n E):=by
 refine⟨rfl,?_⟩;intro ds e x Z;cases e;simp only[List.mem_cons,List.not_mem_nil,or_false]at Z;rcases Z with rfl|rfl
 ·exact⟨rfl,fun X e=>by cases e⟩
 ·refine⟨rfl,fun X e t Y=>?_⟩;cases e;obtain⟨r,_,rfl⟩:=K4.mp Y;refine⟨rfl,fun ds e x Z=>?_⟩;cases e;obtain⟨i,_,rfl⟩:=K4.mp Z;exact rfl
theorem DQ{n:Nat}{E:List (List Int)}(w:WebOk n E):∀ m Z,aH n E= .tup [m,.tup Z]->Z.length<=1000:=by
 intro m Z e;cases e;have:=w.few;rw[Kx];omega
def great(a:Nat):D:=.exc "TooGreat" [.int a,.int 14]
theorem wC{n:Nat}{E:List (List Int)}(X:n<=14)(w:WebOk n E):cu [aH n E]=if 14<n+E.length then M.raise (great (n+E.length))else pure .non:=by
 have hw:iM (aH n E)=true:=DL (by omega) (by omega) w
 have h0:ff [aH n E]=pure .non:=by rw[B1 GD (DQ w),if_pos hw]
 have Z:∀ r,aR bO (aR bz (mV 0) (mK (.int 0))) (cL cZ (aR bz (mV 0) (mK (.int 1)))) (some (aH n E)::r)=pure (.int (n+E.length:Nat)):=fun r=>by
  refine(b7 (x:=.int n) (y:=.int E.length) rfl ((eT (x:=.tup (E.map tupI)) rfl).trans ?_)).trans rfl;show pure (D.int (E.map tupI).length)=_;rw[Kx]
 have Y:eN FD (mV 1) (mK (.int 14)) [some (aH n E),some (.int (n+E.length:Nat))]=pure (decide (14<((n+E.length:Nat):Int))):=cY (x:=.int (n+E.length:Nat)) (y:=.int 14) rfl rfl rfl;have hm:gw [some (aH n E),none]=if 14<n+E.length then M.raise (great (n+E.length))else pure (.nx [some (aH n E),some (.int (n+E.length:Nat))]):=by
  unfold gw;refine(a8 (BU (ni ((dM rfl).trans h0)))).trans ((a8 (gj (Z _))).trans ((bX Y).trans ?_));by_cases h:14<n+E.length
  ·rw[if_pos h,if_pos (KU (by omega))];rfl
  ·rw[if_neg h,if_neg (by rw[Lq];omega)]
 by_cases h:14<n+E.length
 ·rw[if_pos h]at hm ⊢;exact iZ hm
 ·rw[if_neg h]at hm ⊢;exact sU hm rfl
theorem same_int:bN (k+1) [.int i,.int i]=pure (.bl true):=by
 refine fL (o:=.ret (.bl true)) ?_ rfl;show cU _ [some (.int i),some (.int i)]=_;unfold cU;rw[a8 (ρ':=[some (.int i),some (.int i)]) ((bX (b:=false) (i3 rfl)).trans (if_neg (by decide)))]
 refine fh ?_;show(aR si (mV 0) (mV 1) _>>=_)=_;rw[b7 (x:=.int i) (y:=.int i) rfl rfl,Kr,ay];rw[show kz (D.bl true)=pure true from rfl,ay,if_pos rfl,b7 (x:=.bl false) (y:=.bl false) rfl rfl,Ks]
theorem pS{xs:List D}(P:xs.length<=1000)(h:∀ x∈xs,bN k [x,x]=pure (.bl true)):bN (k+1) [.tup xs,.tup xs]=pure (.bl true):=by
 have em:((((xs.zip xs).map fun p:D×D=>D.tup [p.1,p.2]).filter fun _=>true).map fun _=>D.bl true)=(xs.map fun _=>true).map D.bl:=by
  rw[fK,Ll,Ll];refine OC (by simp) fun i O Q=>by simp
 have Y:=ig (mi:=rf (mV 0) (mV 1)) (g:=fS 2 (a9 (gN 0) (a9 (gN 1) eF))) (t:=fG (bN k)) (m:=fH (bN k)) (js:=[none,none]) (ρ:=[some (.tup xs),some (.tup xs)])
  (its:=(xs.zip xs).map fun p:D×D=>D.tup [p.1,p.2]) (fun ρ=>∃ x y,ρ=[x,y]) (fun _=>true) (fun _=>.bl true) rfl (by rw[Kx,OH];unfold lim;omega) ⟨none,none,rfl⟩
  (fun d hd ρ ⟨x,y,hρ⟩=>by
   subst hρ;obtain⟨z,S,rfl⟩:=pM hd;exact⟨_,rfl,⟨_,_,rfl⟩,rfl,fun _=>ni ((call2 rfl rfl).trans (h z S))⟩) (by rw[em];exact mE _)
 rw[em]at Y;have Z:(xs.map fun _=>true).all id=true:=by rw[N6];exact Lf.mpr fun _ _=>rfl
 have hlen:∀ j,j<2->cL cZ (mV j) [some (.tup xs),some (.tup xs)]=pure (.int xs.length):=fun j U=>by
  match j,U with
  |0,_=>rfl
  |1,_=>rfl
 refine fL (o:=.ret (.bl true)) ?_ rfl;show cU _ [some (.tup xs),some (.tup xs)]=_;unfold cU;refine j5 ?_;refine(bX (b:=true) (i3 rfl)).trans ?_;rw[if_pos rfl];have R:∀ T,aR ku (gD (mV 0) T) (gD (mV 1) T) [some (.tup xs),some (.tup xs)]=pure (.bl false):=fun T=>(b7 (x:=.bl (ij "tuple" T)) (y:=.bl (ij "tuple" T)) rfl rfl).trans JV;have X:∀ T,eN ku (gD (mV 0) T) (gD (mV 1) T) [some (.tup xs),some (.tup xs)]=pure false:=fun T=>cY (x:=.bl (ij "tuple" T)) (y:=.bl (ij "tuple" T)) rfl rfl JV;have W:sM (eN ku (gD (mV 0) "tuple") (gD (mV 1) "tuple")) (eN ku (gD (mV 0) "list") (gD (mV 1) "list")) [some (.tup xs),some (.tup xs)]=pure false:=by
  show(eN ku _ _ _>>=_)=_;rw[X "tuple",ay];exact X "list"
 rw[a8 ((bX W).trans (if_neg (by decide))),a8 ((bX (cY (hlen 0 (by decide)) (hlen 1 (by decide)) J8)).trans (if_neg (by decide)))]
 refine fh ((eT Y).trans (sW.trans ?_));rw[Z]
theorem GE{E:List (List Int)}(X:E.length<=1000)(Y:∀ t∈E,t.length<=1000):cw [aH n E,aH n E]=pure (.bl true):=by
 refine pS (k:=5) (by decide:2<=1000) fun x Z=>?_
 simp only[List.mem_cons,List.not_mem_nil,or_false]at Z;rcases Z with rfl|rfl
 ·exact same_int
 ·refine pS (by rw[Kx];exact X) fun x Z=>?_
  obtain⟨r,W,rfl⟩:=K4.mp Z;refine pS (by rw[Kx];exact Y r W) fun x Z=>?_
  obtain⟨i,_,rfl⟩:=K4.mp Z;exact same_int
def pT(c:M D)(k:D->M D):M D:=fun S=>match c S with
 |some (.ok _,S')=>k .non S'
 |some (.ex (.exc n ds),S')=>if n∈aV then k (.exc n ds) S' else none
 |_=>none
theorem B2{g:Str->Bool}(Z:n∈aV):uE g (.exc n ds)=pure (.bl (g n)):=if_pos Z
def G8(bs:List Bool):D->Bool
 | .int k=>bs.getD k.toNat false
 |_=>false
section
variable {S S':aB}{k:Nat}
theorem nS(Z:Kp k S S'):pj S S':=fun i xs Y e=>by
 by_cases h:i=k
 ·subst h;obtain⟨st,b,e2,_⟩:=Z.st;rw[e2]at e;cases e;exact .inr rfl
 ·exact .inl (by rw[<-Z.oth i Y h];exact e)
theorem xW(hs:d7 S k)(Y:Kp k S S'):Kp k S (S'.take S.length)/\(S'.take S.length).length=S.length:=by
 have W:(S'.take S.length).length=S.length:=by rw[LM];have:=Y.len;omega
 have X:∀ i,i<S.length->(S'.take S.length)[i]? =S'[i]? :=fun i Z=>by rw[Nn,if_pos Z]
 refine⟨⟨Nb W.symm,fun i Z U=>(X i Z).trans (Y.oth i Z U),?_⟩,W⟩;obtain⟨st,b,e,r⟩:=Y.st;exact⟨st,b,(X k hs.lt).trans e,r⟩
theorem pU{c:M D}(hs:d7 S k)(h:c S=some (.ok d,S'))(Z:Kp k S S')(Y:gr 0 d=true):∃ S1,jm c S=some (.ok d,S1)/\Kp k S S1/\S1.length=S.length:=
 ⟨_,mB h (nS Z) (.inr rfl) Z.len (sS d (xK (K5 _) d Y)),xW hs Z⟩
theorem kR:gr 0 (aH n E)=true:=by
 unfold aH gr c9 gr c9 gr;rw[d8];rfl
theorem tq(hs:d7 S k)(Y:0<many)(X:many<1073741824):∃ j S1,jm (az [.lst k,.int many]) S=some (.ok (.int j),S1)/\0<=j/\j<many/\Kp k S S1/\S1.length=S.length:=by
 obtain⟨d,S',e,j,rfl,a,b,Z⟩:=xU (Q:=fun d S'=>∃ j,d= .int j/\0<=j/\j<many/\Kp k S S') hs Y X fun j S' a b _ Z=>⟨j,rfl,a,b,Z⟩;obtain⟨S1,e1,k1⟩:=pU hs e Z rfl;exact⟨j,S1,e1,a,b,k1⟩
end
theorem pV(h:n<=k)(Z:S[k]? =some us)(Y:c9 0 us=true):iQ n (wq S n (f+1)) (.lst k)=some (.fz us):=by
 unfold iQ;rw[if_neg (by omega)]
 show((S[k]?).bind fun xs=>gu n (wq S n f) xs).map D.fz=_;rw[Z,MJ,iz us (jX (K5 _) us Y)];rfl
theorem nz{S G:aB}(i:Nat):(S++G)[S.length+i]? =G[i]? :=by rw[MW (MG _ _),MD]
theorem IA(h:∀ S,jE S 60 (.fz us)=some p)(Z:PyData.eqv p p=true):ku (.fz us) (.fz us)=pure (.bl false):=cI fun S=>by
 unfold ku;exact(jj (h S) (h S)).mpr ⟨by rw[Z];rfl,rfl⟩
theorem GF:ku (.fz [.int i]) (.fz [.int i])=pure (.bl false):=IA (p:=.list [.int i]) (fun S=>rfl) (by simp[PyData.eqv,PyData.eqvAll])
theorem wD:aU (bH (ae (mK (.int i)) ao)) ρ=pure (.fz [.int i]):=dC (us:=[.int i]) rfl (by show 1<=lim;unfold lim;omega)
section
variable {ρ:aO}{js:List Nat}{ds:List D}{m:TM}{c:M D}{R:M D->List D->M D}{x:D}
end
section
variable {me e:TM}{g:mP}{ρ ρ':aO}{S S1 S2:aB}{d:D}{F:List D->M D}{x y:D}
theorem B3(Y:me ρ S=some (.ok d,S1))(Z:g d ρ S1=some (.ok ρ',S2)):lI me g ρ S=some (.ok (.nx ρ'),S2):=by
 unfold lI;rw[aQ Y,aQ Z];rfl
end
section
variable {S S1 S2:aB}{k p q:Nat}{e1 e2:TM}{ρ:aO}{x y:D}{f:D->List D->M D}{xs:List D}
theorem lS(Y:e1 ρ=pure x)(X:G4 x=pure ())(Z:e2 ρ S=some (.ok y,S1)):wb f e1 e2 ρ S=f x [y] S1:=by
 unfold wb;rw[Y,ay,X,ay,aQ (a:=[y]) (S1:=S1)];rw[aQ Z];rfl
theorem kS(Z:S[p]? =some xs)(Y:xs.length<=1000):dy (.lst p) [d] S=some (.ok .non,S.set p (xs++[d])):=by
 show(getL p>>=fun xs=>mq p (xs++[d])) S=_;rw[aQ (dE Z)];exact nR (by rw[KD];show xs.length+1<=lim;unfold lim;omega) (KC.mp Z).1
theorem pop_at{j:Int}{d:D}(Z:S[p]? =some xs)(U:xs.length<=1000)(W:0<=j)(Y:j<xs.length)(X:xs[j.toNat]? =some d):mw (.lst p) [.int j] S=some (.ok d,S.set p (xs.eraseIdx j.toNat)):=by
 show(getL p>>=fun xs=>if 0<=j/\j<xs.length then (match xs[j.toNat]? with|some y=>(do let _<-mq p (xs.eraseIdx j.toNat);pure y)|none=>M.fail)else M.fail) S=_
 rw[aQ (dE Z),if_pos ⟨W,Y⟩,X];show(mq p (xs.eraseIdx j.toNat)>>=fun _=>pure d) S=_;rw[aQ (nR (by have:=List.length_eraseIdx_le xs j.toNat;unfold lim;omega) (KC.mp Z).1)];rfl
theorem GG{ns:List Int}(Y:S[p]? =some (ns.map D.int)):ku (.lst p) (.fz []) S=some (.ok (.bl (!ns.isEmpty)),S):=by
 have X:jE S 60 (.fz [])=some (.list []):=rfl;obtain⟨d,Z,e,h⟩:=(jj (f:=fun p q=> !PyData.eqv p q) (Q:=fun d Z=>d= .bl (!ns.isEmpty)/\Z=S) (BY (n:=59) Y) X).mpr ⟨by
  have:PyData.eqv (.list (ns.map PyData.int)) (.list [])=ns.isEmpty:=by cases ns<;>simp[PyData.eqv,PyData.eqvAll]
  rw[this],rfl⟩
 obtain⟨rfl,rfl⟩:=h;exact e
end
theorem Kp.set(Y:Kp k S S')(W:S.length<=p)(U:k<S.length):Kp k S (S'.set p xs):=by
 refine⟨by rw[Ni];exact Y.len,fun i X Z=>?_,?_⟩
 ·rw[LG (by omega)];exact Y.oth i X Z
 ·obtain⟨st,b,e,r⟩:=Y.st;exact⟨st,b,by rw[LG (by omega)];exact e,r⟩
theorem wF{l:List Int}(h:j<l.length):(l[j]::l.eraseIdx j).Perm l:=by
 induction l generalizing j with
 |nil=>cases h
 |cons x l ih=>
  cases j with
  |zero=>exact .refl _
  |succ j=>exact(List.Perm.swap _ _ _).trans ((ih (by simpa using h)).cons _)
theorem uV{S:aB}{k p q:Nat}{a1:Option D}(T:k<S.length)(O:S.length<=p)(P:S.length<=q)(Y:p≠q):∀(f:Nat) (ls ms:List Int) (S':aB),ls.length<f->ls.length+ms.length<=14->S'[p]? =some (ls.map D.int)->S'[q]? =some (ms.map D.int)->Kp k S S'->
  ∃(zs:List Int) (S2:aB),jR (eN ku (mV 2) (aU (bH ao))) dJ f [some (.lst k),a1,some (.lst p),some (.lst q)] S'=some (.ok (.nx [some (.lst k),a1,some (.lst p),some (.lst q)]),S2)/\S2[q]? =some (zs.map D.int)/\zs.Perm (ms++ls)/\Kp k S S2
 |0,ls,ms,S',h,_,_,_,_=>by omega
 | f +1,ls,ms,S',hf,hl,g1,g2,kp=>by
  have J:eN ku (mV 2) (aU (bH ao)) [some (.lst k),a1,some (.lst p),some (.lst q)] S'=some (.ok (!ls.isEmpty),S'):=by
   have F:aU (bH ao) [some (.lst k),a1,some (.lst p),some (.lst q)]=pure (.fz []):=dC (us:=[]) rfl (K5 _);show((mV 2 _>>=fun x=>aU (bH ao) _>>=fun y=>ku x y)>>=kz) S'=_;rw[F];show(ku (.lst p) (.fz [])>>=kz) S'=_;rw[aQ (GG g1)];rfl
  rw[jR,aQ J];cases ls with
  |nil=>exact⟨ms,S',by rfl,g2,by rw[Lg],kp⟩
  | cons l0 ls0=>
   generalize hL:l0::ls0=ls at*;have Q:(!ls.isEmpty)=true:=by rw[<-hL];rfl
   have N:0<ls.length:=by rw[<-hL];exact Nat.succ_pos _
   rw[if_pos Q];obtain⟨j,S1,I,L,A,X,z⟩:=tq (S:=S') (k:=k) (many:=ls.length) kp.st (by omega) (by omega)
   have H:=(KC.mp g1).1;have ql:=(KC.mp g2).1;have G:=(X.oth p H (by omega)).trans g1
   have C:=(X.oth q ql (by omega)).trans g2
   have R:j.toNat<ls.length:=by omega
   have B:dJ [some (.lst k),a1,some (.lst p),some (.lst q)] S'=some (.ok (.nx [some (.lst k),a1,some (.lst p),some (.lst q)]),(S1.set p ((ls.eraseIdx j.toNat).map D.int)).set q ((ms++[ls[j.toNat]]).map D.int)):=by
    unfold dJ;have hlen:cL cZ (mV 2) [some (.lst k),a1,some (.lst p),some (.lst q)] S'=some (.ok (.int ls.length),S'):=by
     refine(jz (x:=.lst p) (S1:=S') rfl).trans ?_;show(getL p>>=fun xs=>pure (D.int xs.length)) S'=_;rw[aQ (dE g1),Kx];rfl
    have U:aU (aA az (ae (mV 0) (ae (cL cZ (mV 2)) ao))) [some (.lst k),a1,some (.lst p),some (.lst q)] S'=some (.ok (.int j),S1):=by
     have K:aA az (ae (mV 0) (ae (cL cZ (mV 2)) ao)) [some (.lst k),a1,some (.lst p),some (.lst q)] S'=az [.lst k,.int ls.length] S':=aQ (cF (x:=.lst k) rfl (cF hlen rfl));unfold aU;rw[<-I];unfold jm;rw[K]
    have Z:=(lS (f:=mw) (e1:=mV 2) (ρ:=[some (.lst k),a1,some (.lst p),some (.lst q)]) (x:=.lst p) rfl rfl U).trans (pop_at (d:=.int ls[j.toNat]) G (by rw[Kx];omega) L (by rw[Kx];omega) (by rw[K1,KB R];rfl))
    rw[rp]at Z;have W:=(lS (f:=dy) (e1:=mV 3) (ρ:=[some (.lst k),a1,some (.lst p),some (.lst q)]) (x:=.lst q) rfl rfl Z).trans (kS (d:=.int ls[j.toNat]) (xs:=ms.map D.int) (by rw[LG Y];exact C) (by rw[Kx];omega))
    refine nj (x:=.non) (W.trans ?_);rw[Lu];rfl
   rw[aQ B];have he:=NY R;obtain⟨zs,S2,e2,g3,E,k2⟩:=uV (a1:=a1) T O P Y f (ls.eraseIdx j.toNat) (ms++[ls[j.toNat]]) ((S1.set p ((ls.eraseIdx j.toNat).map D.int)).set q ((ms++[ls[j.toNat]]).map D.int)) (by omega) (by rw[KD];show _+(ms.length+1)<=14;omega)
    (by rw[LG (Ne.symm Y),K8 (by omega)]) (by rw[K8 (by rw[Ni];omega)]) (((kp.trans X).set O T).set P T)
   refine⟨zs,S2,e2,g3,E.trans ?_,k2⟩;rw[K9];exact(wF R).append_left ms
theorem JZ{j:Int}(h: -(2 ^ 62)<=j/\j<=lim):e9 [.int j]=bM (aX 0 j.toNat):=by unfold e9;exact if_pos h
theorem DR(r:List Int):c9 0 (r.map D.int)=true:=by
 induction r with
 |nil=>rfl
 |cons x r ih=>rw[K3];unfold c9;rw[ih];unfold gr;rfl
theorem GH(r:List Int):gr 0 (tupI r)=true:=by unfold tupI gr;exact DR r
def gS(n:Nat):List Int:=(List.range n).map fun i:Nat=>(0:Int)+(i:Int)
theorem uW{S:aB}{k n:Nat}(hs:d7 S k)(T:n<=14):∃(zs:List Int) (S1:aB),jm (bY [.lst k,.int n]) S=some (.ok (tupI zs),S1)/\zs.Perm (gS n)/\Kp k S S1/\S1.length=S.length:=by
 have W:aX 0 n=(gS n).map D.int:=by unfold aX gS;rw[Ll];rfl
 have hlen:(gS n).length=n:=by unfold gS;simp
 obtain⟨zs,S2,e2,g3,Z,k2⟩:=uV (S:=S) (k:=k) (p:=S.length) (q:=S.length+1) (a1:=some (.int n)) hs.lt (Kz _) (M5 _) (by omega) 64 (gS n) [] (S++[(gS n).map D.int,[]]) (by omega) (by simp;omega) (nz 0) (nz 1) (Kp.grow hs _)
 have Y:(zs.map D.int).length<=lim:=by rw[Kx,Z.length_eq,MT,hlen];unfold lim;omega
 have hm:gR [some (.lst k),some (.int n),none,none] S=some (.ok (.ret (tupI zs)),S2):=by
  unfold gR;have U:cL e9 (mV 1) [some (.lst k),some (.int n),none,none] S=some (.ok (.lst S.length),S++[(gS n).map D.int]):=by
   refine(Ly (eT (f:=e9) (m:=mV 1) (ρ:=[some (.lst k),some (.int n),none,none]) (x:=.int n) rfl) S).trans ?_;rw[JZ (j:=n) ⟨by omega,by unfold lim;omega⟩,Lo,W]
   exact cV (by rw[Kx,hlen];unfold lim;omega)
  have X:bp 3 (bH ao) [some (.lst k),some (.int n),some (.lst S.length),none] (S++[(gS n).map D.int])=some (.ok (.nx [some (.lst k),some (.int n),some (.lst S.length),some (.lst (S.length+1))]),S++[(gS n).map D.int,[]]):=by
   refine(bK (cV (S:=S++[(gS n).map D.int]) (us:=[]) (K5 _))).trans ?_;rw[K9,KD];rfl
  refine(aM (bK U)).trans ((aM X).trans ((aM e2).trans (fM ((jz (x:=.lst (S.length+1)) (S1:=S2) rfl).trans ?_))));show(getL (S.length+1)>>=fun xs=>cf xs) S2=_;rw[aQ (dE g3)];unfold cf;rw[if_pos Y];rfl
 obtain⟨S1,e1,k1⟩:=pU (c:=bY [.lst k,.int n]) (d:=tupI zs) hs (fi (o:=.ret (tupI zs)) hm rfl) k2 (GH zs);exact⟨zs,S1,e1,by rw[MT]at Z;exact Z,k1⟩
inductive Dr(P:D->D->Prop):List D->List D->Prop
 |nil:Dr P [] []
 |skip {d:D} {ds ys:List D}:Dr P ds ys->Dr P (d::ds) ys
 |put {d y:D} {ds ys:List D}:P d y->Dr P ds ys->Dr P (d::ds) (y::ys)
theorem Dr.len:∀{ds ys:List D},Dr P ds ys->ys.length<=ds.length
 |_,_,.nil=>Kz _
 |_,_,.skip h=>Nat.le_succ_of_le h.len
 |_,_,.put _ h=>M3 h.len
theorem Dr.cl{P:D->D->Prop}(Z:∀ d y,P d y->gr 0 y=true):∀{ds ys:List D},Dr P ds ys->c9 0 ys=true
 |_,_,.nil=>rfl
 |_,_,.skip h=>h.cl Z
 |_,_,.put p h=>by unfold c9;rw[Z _ _ p,h.cl Z];rfl
theorem kT{g:mP}{t:aO->M Bool}{m:TM}(R:aO->Prop)(P:D->D->Prop):∀(items:List D) (ρ:aO) (S:aB),R ρ->d7 S k->
  (∀ d∈items,∀ ρ S,R ρ->d7 S k->∃ Z b S1,g d ρ=pure Z/\R Z/\t Z S=some (.ok b,S1)/\Kp k S S1/\S1.length=S.length/\(b=true->∃ y S2,m Z S1=some (.ok y,S2)/\P d y/\Kp k S1 S2/\S2.length=S1.length))->
  ∃ ys S2,dO ⟨its,.none⟩ g t m items ρ S=some (.ok ys,S2)/\Dr P items ys/\Kp k S S2/\S2.length=S.length
 |[],ρ,S,_,hs,_=>⟨[],S,by unfold dO;rw[eP];rfl,.nil,.refl hs,rfl⟩
 | d::ds,ρ,S,hR,hs,hb=>by
  obtain⟨Z,b,S1,e1,Y,e2,k1,O,K⟩:=hb d (KR ..) ρ S hR hs;cases b with
  |false=>
   obtain⟨ys,S2,W,U,k2,X⟩:=kT (its:=its) R P ds Z S1 Y k1.st fun x Q=>hb x (KJ _ Q);refine⟨ys,S2,?_,.skip U,k1.trans k2,X.trans O⟩;unfold dO;rw[eP,ay,e1,ay,aQ e2,if_neg (by decide)]
   exact W
  |true=>
   obtain⟨y,S2,e3,N,k2,X⟩:=K rfl;obtain⟨ys,T,W,U,k3,L⟩:=kT (its:=its) R P ds Z S2 Y k2.st fun x Q=>hb x (KJ _ Q);refine⟨y::ys,T,?_,.put N U,(k1.trans k2).trans k3,L.trans (X.trans O)⟩;unfold dO;rw[eP,ay,e1,ay,aQ e2,if_pos rfl,aQ e3,aQ W];rfl
theorem zB{mi:aO->M Iter}{g:mP}{t:kO}{m:TM}(R:aO->Prop)(P:D->D->Prop)(W:mi ρ=pure ⟨its,.none⟩)(O:its.length<=1000)(T:R (jD js ρ))(hs:d7 S k)(U:∀ d y,P d y->gr 0 y=true)
  (Q:∀ d∈its,∀ ρ S,R ρ->d7 S k->∃ ρ1 b S1,g d ρ=pure ρ1/\R ρ1/\t ρ1 S=some (.ok b,S1)/\Kp k S S1/\S1.length=S.length/\(b=true->∃ y S2,m ρ1 S1=some (.ok y,S2)/\P d y/\Kp k S1 S2/\S2.length=S1.length)):
  ∃ ys S2,aU (eG mi g t m js) ρ S=some (.ok (.fz ys),S2)/\Dr P its ys/\Kp k S S2/\S2.length=S.length:=by
 obtain⟨ys,S2,e,Y,k2,Z⟩:=kT (its:=its) (g:=g) (t:=t) (m:=m) (k:=k) R P its (jD js ρ) S T hs Q;have hlen:=Y.len;refine⟨ys,S2,?_,Y,k2,Z⟩;have X:eG mi g t m js ρ S=some (.ok (.lst S2.length),S2++[ys]):=by
  unfold eG;rw[W,ay];unfold je;rw[if_pos (show its.length<=lim by unfold lim;omega),aQ e]
  exact cV (by unfold lim;omega)
 have:=mB (u:=.fz ys) X (nS (k2.trans (Kp.grow k2.st [ys]))) (.inl (by rw[KD,Z];exact MF _)) (by rw[KD,Z];exact M5 _) (pV (f:=59) (by omega) di (Y.cl U))
 unfold aU;rw[this, <-Z,List.take_left]
theorem wH{f:D->D->M D}{e1 e2:TM}(Y:e1 ρ S=some (.ok x,S1))(Z:e2 ρ S1=some (.ok y,S2))(h:f x y=pure (.bl b)):eN f e1 e2 ρ S=some (.ok b,S2):=by
 have:(e1 ρ>>=fun x=>e2 ρ>>=fun y=>f x y) S=some (.ok (.bl b),S2):=by rw[aQ Y,aQ Z,h];rfl
 exact aQ this
theorem GI{ys:List D}(Z:S[p]? =some xs)(Y:xs.length+ys.length<=1000):lC (.lst p) [.fz ys] S=some (.ok .non,S.set p (xs++ys)):=by
 show(getL p>>=fun xs=>mq p (xs++ys)) S=_;rw[aQ (dE Z)];exact nR (by rw[KD];unfold lim;omega) (KC.mp Z).1
theorem Dr.rows{n:Nat}:∀{l:List Nat} {ys:List D},Dr (fun d y=>y= .tup [.int a,d]) (l.map fun i:Nat=>D.int ((a:Int)+1+(i:Int))) ys->∃ rs:List (List Int),ys=rs.map tupI/\rs.Sublist (l.map fun i:Nat=>[(a:Int),(a:Int)+1+(i:Int)])
 |[],_,.nil=>⟨[],rfl,.slnil⟩
 |i::l,_,.skip h=>by
  obtain⟨rs,e,Z⟩:=Dr.rows (n:=n) h;exact⟨rs,e,Z.cons _⟩
 |i::l,_,.put p h=>by
  obtain⟨rs,e,Z⟩:=Dr.rows (n:=n) h;subst p e;exact⟨[(a:Int),(a:Int)+1+(i:Int)]::rs,rfl,Z.cons₂ _⟩
theorem DS{n a:Nat}:(List.range ((n:Int) - ((a:Int)+1)).toNat).map (fun i:Nat=>[(a:Int),(a:Int)+1+(i:Int)])=i5 n a:=by
 have e:((n:Int) - ((a:Int)+1)).toNat=n - (a+1):=by omega
 rw[e];unfold i5;rw[Me,Ll];refine ME fun i _=>?_;show[(a:Int),(a:Int)+1+(i:Int)]=[(a:Int),((a+1+i:Nat):Int)];congr 2
theorem B4{S:aB}{k n a:Nat}{o:Int}{x3:Option D}(hs:d7 S k)(N:n<=14)(P:a<n):∃(rs:List (List Int)) (S2:aB),aU (eG (we (aR bO (mV 4) (mK (.int 1))) (mV 1)) (gN 0) eW eX [none,some 0,some 2,some 4]) [some (.lst k),some (.int n),some (.int o),x3,some (.int a)] S=some (.ok (.fz (rs.map tupI)),S2)/\rs.Sublist (i5 n a)/\Kp k S S2/\S2.length=S.length:=by
 have W:=(pK (b7 (f:=bO) (m:=mV 4) (n:=mK (.int 1)) (ρ:=[some (.lst k),some (.int n),some (.int o),x3,some (.int a)]) (x:=.int a) (y:=.int 1) rfl rfl) (n:=mV 1) (y:=.int n) rfl).trans (BS (i:=(a:Int)+1) (j:=n) (by omega))
 obtain⟨ys,S2,e,R,Z,l⟩:=zB (g:=gN 0) (t:=eW) (m:=eX) (js:=[none,some 0,some 2,some 4]) (k:=k) (fun ρ=>∃ x,ρ=[x,some (.lst k),some (.int o),some (.int a)]) (fun d y=>y= .tup [.int a,d]/\∃ i:Int,d= .int i) W (by unfold aX;rw[Kx,Lp];omega) ⟨none,rfl⟩ hs (fun d y ⟨e,i,e2⟩=>by subst e e2;rfl)
  (fun d hd ρ S ⟨x,hρ⟩ hs=>by
   subst hρ;obtain⟨i,_,rfl⟩:=K4.mp hd;obtain⟨j,S1,T,Q,O,Z,l⟩:=tq (many:=4) hs (by decide) (by decide)
   refine⟨_,decide (j<o),S1,rfl,⟨_,rfl⟩,?_,Z,l,fun _=>⟨_,S1,rfl,⟨rfl,_,rfl⟩,.refl Z.st,rfl⟩⟩;have U:aU (aA az (ae (mV 1) (ae (mK (.int 4)) ao))) [some (D.int ((a:Int)+1+(i:Int))),some (.lst k),some (.int o),some (.int a)] S=some (.ok (.int j),S1):=by
    unfold aU;rw[call2 (x:=.lst k) (y:=.int 4) rfl rfl];exact T
   exact wH (y:=.int o) U rfl rfl)
 have Y:Dr (fun d y=>y= .tup [.int a,d]) ((List.range ((n:Int) - ((a:Int)+1)).toNat).map fun i:Nat=>D.int ((a:Int)+1+(i:Int))) ys:=by
  have:∀{ds ys:List D},Dr (fun d y=>y= .tup [.int a,d]/\∃ i:Int,d= .int i) ds ys->Dr (fun d y=>y= .tup [.int a,d]) ds ys:=fun{ds ys} h=>by
   induction h with
   |nil=>exact .nil
   |skip _ ih=>exact .skip ih
   |put p _ ih=>exact .put p.1 ih
  exact this R
 obtain⟨rs,e2,X⟩:=Dr.rows (n:=n) Y;subst e2;rw[DS]at X;exact⟨rs,S2,e,X,Z,l⟩
theorem rB{S:aB}{k n:Nat}{o:Int}{its:List D}(T:k<S.length)(Q:n<=7):∀(post:List Nat) (acc:List (List Int)) (S':aB) (x:Option D),(∀ a∈post,a<n)->acc.length+post.length*7<=100->S'[S.length]? =some (acc.map tupI)->Kp k S S'->
  ∃(Z:Option D) (rs:List (List Int)) (S2:aB),gz ⟨its,.none⟩ (gN 4) dI (post.map fun i:Nat=>.int (0+(i:Int))) [some (.lst k),some (.int n),some (.int o),some (.lst S.length),x] S'=some (.ok (.nx [some (.lst k),some (.int n),some (.int o),some (.lst S.length),Z]),S2)/\S2[S.length]? =some ((acc++rs).map tupI)/\rs.Sublist (post.flatMap (i5 n))/\Kp k S S2
 |[],acc,S',x,_,_,g,kp=>⟨x,[],S',by rw[L3,gn];rfl,by rw[Lg];exact g,.slnil,kp⟩
 | a::post,acc,S',x,ha,hl,g,kp=>by
  have X:=ha a (.head _);obtain⟨rs,S1,e,R,k1,N⟩:=B4 (S:=S') (k:=k) (n:=n) (a:=a) (o:=o) (x3:=some (.lst S.length)) kp.st (by omega) X
  have P:rs.length<=7:=KP R.length_le (by unfold i5;simp;omega)
  rw[KY,Nd]at hl;have O:=(KC.mp g).1;have g1:=(k1.oth S.length O (by omega)).trans g
  have U:dI [some (.lst k),some (.int n),some (.int o),some (.lst S.length),some (.int a)] S'=some (.ok (.nx [some (.lst k),some (.int n),some (.int o),some (.lst S.length),some (.int a)]),S1.set S.length ((acc++rs).map tupI)):=by
   unfold dI;refine nj (x:=.non) ((lS (x:=.lst S.length) rfl rfl e).trans ((GI g1 (by rw[Kx,Kx];omega)).trans ?_))
   rw[Lu]
  obtain⟨Z,W,S2,e2,g2,Y,k2⟩:=rB (its:=its) (o:=o) T Q post (acc++rs) (S1.set S.length ((acc++rs).map tupI)) (some (.int a)) (fun b U=>ha b (.tail _ U)) (by rw[KD];omega) (K8 (by omega)) ((kp.trans k1).set (Kz _) T)
  refine⟨Z,rs++W,S2,?_,by rw[<-K9];exact g2,by rw[LD];exact R.append Y,k2⟩
  rw[K3,Mo];exact(fN rfl U).trans e2
theorem pW{S:aB}{k n:Nat}{o:Int}(hs:d7 S k)(Z:n<=7):∃(E:List (List Int)) (S1:aB),jm (bB [.lst k,.int n,.int o]) S=some (.ok (aH n E),S1)/\WebOk n E/\Kp k S S1/\S1.length=S.length:=by
 obtain⟨R,rs,S2,e,g,U,X⟩:=rB (S:=S) (k:=k) (n:=n) (o:=o) (its:=aX 0 n) hs.lt Z (List.range n) [] (S++[[]]) none (fun a W=>KS.mp W) (by rw[Lp];simp;omega) di (Kp.grow hs _)
 rw[MT]at g;have w:WebOk n rs:=WebOk.of_sub Z U;have hm:gQ [some (.lst k),some (.int n),some (.int o),none,none] S=some (.ok (.ret (aH n rs)),S2):=by
  unfold gQ;have T:bp 3 (bH ao) [some (.lst k),some (.int n),some (.int o),none,none] S=some (.ok (.nx [some (.lst k),some (.int n),some (.int o),some (.lst S.length),none]),S++[[]]):=bK (cV (S:=S) (us:=[]) (K5 _));have Y:qo (mV 1) [some (.lst k),some (.int n),some (.int o),some (.lst S.length),none]=pure ⟨aX 0 n,.none⟩:=by
   have:=(mD (m:=mV 1) (ρ:=[some (.lst k),some (.int n),some (.int o),some (.lst S.length),none]) (x:=.int n) rfl).trans (wA (by omega))
   rw[Lo]at this;exact this
  refine(aM T).trans ((aM (ju Y e)).trans (fM (gG (x:=.int n) rfl ((jz (x:=.lst S.length) (S1:=S2) rfl).trans ?_))));show(getL S.length>>=fun xs=>cf xs) S2=_;rw[aQ (dE g)];unfold cf;rw[if_pos (by rw[Kx];have:=w.few;unfold lim;omega)];rfl
 obtain⟨S1,e1,k1⟩:=pU (c:=bB [.lst k,.int n,.int o]) (d:=aH n rs) hs (fi (o:=.ret (aH n rs)) hm rfl) X kR;exact⟨rs,S1,e1,w,k1⟩
def kU(p:Int)(t:List Int):Bool:=t.any (· ==p)
theorem xX(p:Int):∀ t:List Int,((t.map PyData.int).any fun y=>PyData.eqv y (.int p))=kU p t
 |[]=>rfl
 |x::r=>by
  rw[K3,Np,xX p r];unfold kU;rw[Np];congr 1
theorem rC:inD (.int p) (tupI t)=pure (.bl (kU p t)):=cI fun S=>by
 unfold inD;exact(xv (km) (lQ t) (r:=kU p t) (by show some (id ((t.map PyData.int).any fun y=>PyData.eqv y (.int p)))=_;rw[xX];rfl)).mpr ⟨rfl,rfl⟩
theorem pX{E:List (List Int)}(h:a<E.length):bz (.tup (E.map tupI)) (.int a)=pure (tupI (E.getD a [])):=by
 show(match jL (E.map tupI) a with|some d=>(pure d:M D)|none=>M.fail)=_
 have:jL (E.map tupI) (a:Int)=some (tupI (E.getD a [])):=by
  unfold jL yt;rw[Kx];have Y:¬ ((a:Int)<0):=by omega
  have Z:(a:Int)<E.length:=by omega
  simp[Y,Z,h]
 rw[this]
theorem getD_in{E:List (List Int)}(h:a<E.length):E.getD a []∈E:=by
 rw[KO,KB h];exact LV h
theorem or_eq{p q:kO}(Y:p ρ=pure b)(Z:q ρ=pure c):sM p q ρ=pure (b||c):=by
 show(p ρ>>=_)=_;rw[Y];cases b with
 |true=>rfl
 |false=>exact Z
section
variable {S:aB}{k n:Nat}{E:List (List Int)}{its:List D}
theorem DT(W:∀ t∈E,∃ x y:Int,t=[x,y])(Z:a<E.length)(T:b<E.length):∃ c,sM (eN inD (aR bz (aR bz (mV 1) (mV 3)) (mK (.int 0))) (aR bz (mV 1) (mV 4))) (eN inD (aR bz (aR bz (mV 1) (mV 3)) (mK (.int 1))) (aR bz (mV 1) (mV 4))) [some (aH n E),some (.tup (E.map tupI)),some (.lst p),some (.int a),some (.int b)]=pure c:=by
 obtain⟨x,y,e⟩:=W _ (getD_in Z);have X:aR bz (mV 1) (mV 3) [some (aH n E),some (.tup (E.map tupI)),some (.lst p),some (.int a),some (.int b)]=pure (tupI [x,y]):=by rw[<-e];exact(b7 (x:=.tup (E.map tupI)) (y:=.int a) rfl rfl).trans (pX Z)
 have Y:aR bz (mV 1) (mV 4) [some (aH n E),some (.tup (E.map tupI)),some (.lst p),some (.int a),some (.int b)]=pure (tupI (E.getD b [])):=(b7 (x:=.tup (E.map tupI)) (y:=.int b) rfl rfl).trans (pX T);have h0:aR bz (aR bz (mV 1) (mV 3)) (mK (.int 0)) [some (aH n E),some (.tup (E.map tupI)),some (.lst p),some (.int a),some (.int b)]=pure (.int x):=(b7 (y:=.int 0) X rfl).trans rfl;have U:aR bz (aR bz (mV 1) (mV 3)) (mK (.int 1)) [some (aH n E),some (.tup (E.map tupI)),some (.lst p),some (.int a),some (.int b)]=pure (.int y):=(b7 (y:=.int 1) X rfl).trans rfl;exact⟨_,or_eq (cY h0 Y rC) (cY U Y rC)⟩
theorem tu(U:k<S.length)(X:∀ t∈E,∃ x y:Int,t=[x,y])(W:a<E.length):∀(post:List Nat) (acc:List (List Int)) (S':aB) (x:Option D),(∀ b∈post,b<E.length)->acc.length+post.length<=500->S'[S.length]? =some (acc.map tupI)->Kp k S S'->
  ∃(Y:Option D) (rs:List (List Int)) (S2:aB),gz ⟨its,.none⟩ (gN 4) d6 (post.map fun b:Nat=>.int (b:Int)) [some (aH n E),some (.tup (E.map tupI)),some (.lst S.length),some (.int a),x] S'=some (.ok (.nx [some (aH n E),some (.tup (E.map tupI)),some (.lst S.length),some (.int a),Y]),S2)/\S2[S.length]? =some ((acc++rs).map tupI)/\rs.Sublist (post.map fun b:Nat=>[(a:Int),(b:Int)])/\Kp k S S2
 |[],acc,S',x,_,_,g,kp=>⟨x,[],S',by rw[L3,gn];rfl,by rw[Lg];exact g,.slnil,kp⟩
 | b::post,acc,S',x,hb,hl,g,kp=>by
  rw[KY]at hl;obtain⟨c,Z⟩:=DT (n:=n) (p:=S.length) X W (hb b (.head _));have Q:=(KC.mp g).1;cases c with
  |false=>
   have R:d6 [some (aH n E),some (.tup (E.map tupI)),some (.lst S.length),some (.int a),some (.int b)] S'=some (.ok (.nx [some (aH n E),some (.tup (E.map tupI)),some (.lst S.length),some (.int a),some (.int b)]),S'):=Ly ((bX Z).trans (if_neg (by decide))) S'
   obtain⟨Y,rs,S2,e,g2,T,k2⟩:=tu U X W post acc S' (some (.int b)) (fun c Z=>hb c (.tail _ Z)) (by omega) g kp
   exact⟨Y,rs,S2,(fN rfl R).trans e,g2,T.cons _,k2⟩
  | true=>
   have R:d6 [some (aH n E),some (.tup (E.map tupI)),some (.lst S.length),some (.int a),some (.int b)] S'=some (.ok (.nx [some (aH n E),some (.tup (E.map tupI)),some (.lst S.length),some (.int a),some (.int b)]),S'.set S.length ((acc++[[(a:Int),(b:Int)]]).map tupI)):=by
    refine(Ly ((bX Z).trans (if_pos rfl)) S').trans (nj (x:=.non) ((lS (x:=.lst S.length) (y:=.tup [.int a,.int b]) (S1:=S') rfl rfl (gG rfl rfl)).trans ((kS g (by rw[Kx];omega)).trans ?_)))
    rw[Lu];rfl
   obtain⟨Y,rs,S2,e,g2,T,k2⟩:=tu U X W post (acc++[[(a:Int),(b:Int)]]) (S'.set S.length ((acc++[[(a:Int),(b:Int)]]).map tupI)) (some (.int b)) (fun c Z=>hb c (.tail _ Z)) (by rw[KD];show acc.length+1+post.length<=500;omega) (K8 Q) (kp.set (Kz _) U)
   exact⟨Y,[(a:Int),(b:Int)]::rs,S2,(fN rfl R).trans e,by rw[K9]at g2;exact g2,T.cons₂ _,k2⟩
theorem uX(P:k<S.length)(N:E.length<=7)(R:∀ t∈E,∃ x y:Int,t=[x,y]):∀(post:List Nat) (acc:List (List Int)) (S':aB) (x y:Option D),(∀ b∈post,b<E.length)->acc.length+post.length*7<=100->S'[S.length]? =some (acc.map tupI)->Kp k S S'->
  ∃(Y Z:Option D) (rs:List (List Int)) (S2:aB),gz ⟨its,.none⟩ (gN 3) ie (post.map fun i:Nat=>.int (0+(i:Int))) [some (aH n E),some (.tup (E.map tupI)),some (.lst S.length),x,y] S'=some (.ok (.nx [some (aH n E),some (.tup (E.map tupI)),some (.lst S.length),Y,Z]),S2)/\S2[S.length]? =some ((acc++rs).map tupI)/\rs.Sublist (post.flatMap (i5 E.length))/\Kp k S S2
 |[],acc,S',x,y,_,_,g,kp=>⟨x,y,[],S',by rw[L3,gn];rfl,by rw[Lg];exact g,.slnil,kp⟩
 | a::post,acc,S',x,y,ha,hl,g,kp=>by
  rw[KY,Nd]at hl;have W:=ha a (.head _);have hlen:cL cZ (mV 1) [some (aH n E),some (.tup (E.map tupI)),some (.lst S.length),some (.int a),y]=pure (.int E.length):=by
   refine(eT (x:=.tup (E.map tupI)) rfl).trans ?_;show pure (D.int (E.map tupI).length)=_;rw[Kx]
  have Q:=(pK (b7 (f:=bO) (m:=mV 3) (n:=mK (.int 1)) (ρ:=[some (aH n E),some (.tup (E.map tupI)),some (.lst S.length),some (.int a),y]) (x:=.int a) (y:=.int 1) rfl rfl) hlen).trans (BS (i:=(a:Int)+1) (j:=E.length) (by omega))
  have K:aX ((a:Int)+1) ((E.length:Int) - ((a:Int)+1)).toNat=(List.range' (a+1) (E.length - (a+1))).map fun b:Nat=>.int (b:Int):=by
   have e:((E.length:Int) - ((a:Int)+1)).toNat=E.length - (a+1):=by omega
   rw[e];unfold aX;rw[Me,Ll];refine ME fun i _=>?_;show D.int ((a:Int)+1+(i:Int))= .int ((a+1+i:Nat):Int);congr 1
  rw[K]at Q;obtain⟨L,rs,S1,e1,g1,O,k1⟩:=tu (S:=S) (k:=k) (n:=n) (its:=(List.range' (a+1) (E.length - (a+1))).map fun b:Nat=>.int (b:Int)) P R W (List.range' (a+1) (E.length - (a+1))) acc S' y (fun b T=>by have:=LR.mp T;omega) (by rw[Ms];omega) g kp
  have J:rs.length<=7:=KP O.length_le (by rw[Kx,Ms];omega)
  obtain⟨Y,Z,U,S2,e2,g2,X,k2⟩:=uX P N R post (acc++rs) S1 (some (.int a)) L (fun b T=>ha b (.tail _ T)) (by rw[KD];omega) g1 k1
  refine⟨Y,Z,rs++U,S2,?_,by rw[<-K9];exact g2,by rw[LD];exact O.append X,k2⟩
  rw[K3,Mo];exact(fN rfl (ju Q e1)).trans e2
theorem B5(hs:d7 S k)(Z:E.length<=7)(Y:∀ t∈E,∃ x y:Int,t=[x,y]):∃(T:List (List Int)) (S1:aB),ft [aH n E] S=some (.ok (aH E.length T),S1)/\WebOk E.length T/\Kp k S S1:=by
 obtain⟨O,P,rs,S2,e,g,R,W⟩:=uX (S:=S) (k:=k) (n:=n) (its:=aX 0 E.length) hs.lt Z Y (List.range E.length) [] (S++[[]]) none none (fun a U=>KS.mp U) (by rw[Lp];simp;omega) di (Kp.grow hs _)
 rw[MT]at g;have w:WebOk E.length rs:=WebOk.of_sub Z R;have hlen:∀{x y z:Option D},cL cZ (mV 1) [some (aH n E),some (.tup (E.map tupI)),x,y,z]=pure (.int E.length):=fun{x y z}=>by
  refine(eT (x:=.tup (E.map tupI)) rfl).trans ?_;show pure (D.int (E.map tupI).length)=_;rw[Kx]
 have hm:iA [some (aH n E),none,none,none,none] S=some (.ok (.ret (aH E.length rs)),S2):=by
  unfold iA;have h0:bp 1 (aR bz (mV 0) (mK (.int 1))) [some (aH n E),none,none,none,none] S=some (.ok (.nx [some (aH n E),some (.tup (E.map tupI)),none,none,none]),S):=bK rfl;have Q:bp 2 (bH ao) [some (aH n E),some (.tup (E.map tupI)),none,none,none] S=some (.ok (.nx [some (aH n E),some (.tup (E.map tupI)),some (.lst S.length),none,none]),S++[[]]):=bK (cV (S:=S) (us:=[]) (K5 _));have X:qo (cL cZ (mV 1)) [some (aH n E),some (.tup (E.map tupI)),some (.lst S.length),none,none]=pure ⟨aX 0 E.length,.none⟩:=by
   have:=(mD hlen (ρ:=[some (aH n E),some (.tup (E.map tupI)),some (.lst S.length),none,none])).trans (wA (by omega))
   rw[Lo]at this;exact this
  refine(aM h0).trans ((aM Q).trans ((aM (ju X e)).trans (fM (gG (x:=.int E.length) (S1:=S2) (by rw[hlen];rfl) ((jz (x:=.lst S.length) (S1:=S2) rfl).trans ?_)))))
  show(getL S.length>>=fun xs=>cf xs) S2=_;rw[aQ (dE g)];unfold cf;rw[if_pos (by rw[Kx];have:=w.few;unfold lim;omega)];rfl
 exact⟨rs,S2,fi (o:=.ret (aH E.length rs)) hm rfl,w,W⟩
end
theorem GJ{l:List (List Int)}(h:l.Nodup):(cK l).Pairwise fun a b=>HT.lexLt a b=true:=by
 have X:=cR l;have Y:(cK l).Nodup:=(Mz (bF _)).mpr h;generalize cK l=s at X Y
 induction s with
 |nil=>exact .nil
 |cons x r ih=>
  obtain⟨a1,a2⟩:=Ls.mp X;obtain⟨W,U⟩:=Lw.mp Y;refine Ls.mpr ⟨fun y Z=>?_,ih a2 U⟩;cases q:HT.lexLt x y with
  |true=>rfl
  |false=>exact absurd (nO q (a1 y Z) ▸ Z) W
theorem mI(X:∀ r∈nss,r.length=2)(Y:nss.length<64):mX (nss.map tupI)=bM ((cK nss).map tupI):=by
 cases nss with
 |nil=>rfl
 |cons r nss=>
  have W:two (r::nss)=true:=Lf.mpr fun x Z=>by rw[X x Z];rfl
  show(match rowsOf ((r::nss).map tupI)with|some nss=>uy nss|none=>M.fail)=_
  rw[pQ];exact if_pos ⟨Y,W⟩
theorem j8{c:M D}{S2:aB}(h:c S=some (.ok (.lst S2.length),S2++[us]))(Z:Kp k S S2)(l:S2.length=S.length)(Y:c9 0 us=true):jm c S=some (.ok (.fz us),S2):=by
 have:=mB (u:=.fz us) h (nS (Z.trans (Kp.grow Z.st [us]))) (.inl (by rw[KD,l];exact MF _)) (by rw[KD,l];exact M5 _) (pV (f:=59) (by omega) di Y)
 rw[this, <-l,List.take_left]
theorem rD{Z:List (List Int)}(hs:d7 S k)(Y:S[p]? =some (Z.map tupI))(W:∀ r∈Z,r.length=2)(X:Z.length<64):jm (bU [.lst p]) S=some (.ok (.fz ((cK Z).map tupI)),S):=by
 refine j8 ?_ (Kp.refl hs) rfl (d8 _);show(getL p>>=fun xs=>mX xs) S=_;rw[aQ (dE Y),mI W X];exact cV (by rw[Kx,(bF Z).length_eq];unfold lim;omega)
def B6(zs:List Int):List Int->List Int
 |[a,b]=>[if zs.getD b.toNat 0<zs.getD a.toNat 0 then zs.getD b.toNat 0 else zs.getD a.toNat 0,if zs.getD b.toNat 0>zs.getD a.toNat 0 then zs.getD b.toNat 0 else zs.getD a.toNat 0]
 |t=>t
theorem nU{zs:List Int}{a:Int}(Z:0<=a)(h:a<zs.length):bz (tupI zs) (.int a)=pure (.int (zs.getD a.toNat 0)):=by
 show(match jL (zs.map D.int) a with|some d=>(pure d:M D)|none=>M.fail)=_
 have:jL (zs.map D.int) a=some (.int (zs.getD a.toNat 0)):=by
  unfold jL yt;rw[Kx];have X:¬ (a<0):=by omega
  have Y:a.toNat<zs.length:=by omega
  simp[Z,h,Y]
 rw[this]
theorem rE{S:aB}{k n:Nat}{zs:List Int}{w0:Option D}{its:List D}(T:k<S.length)(Q:zs.length=n):∀(post acc:List (List Int)) (S':aB) (x y:Option D),(∀ t∈post,∃ a b:Int,t=[a,b]/\0<=a/\a<n/\0<=b/\b<n)->acc.length+post.length<=500->S'[S.length]? =some (acc.map tupI)->Kp k S S'->
  ∃(X Z:Option D) (S2:aB),gz ⟨its,.none⟩ (fS 2 (a9 (gN 3) (a9 (gN 4) eF))) dG (post.map tupI) [w0,some (tupI zs),some (.lst S.length),x,y] S'=some (.ok (.nx [w0,some (tupI zs),some (.lst S.length),X,Z]),S2)/\S2[S.length]? =some ((acc++post.map (B6 zs)).map tupI)/\Kp k S S2
 |[],acc,S',x,y,_,_,g,kp=>⟨x,y,S',by rw[L3,gn];rfl,by rw[L3,Lg];exact g,kp⟩
 | t::post,acc,S',x,y,ht,hl,g,kp=>by
  rw[KY]at hl;obtain⟨a,b,rfl,a0,a1,O,K⟩:=ht t (.head _);have L:=(KC.mp g).1;have U:aR bz (mV 1) (mV 3) [w0,some (tupI zs),some (.lst S.length),some (.int a),some (.int b)]=pure (.int (zs.getD a.toNat 0)):=(b7 (x:=tupI zs) (y:=.int a) rfl rfl).trans (nU a0 (by omega))
  have R:aR bz (mV 1) (mV 4) [w0,some (tupI zs),some (.lst S.length),some (.int a),some (.int b)]=pure (.int (zs.getD b.toNat 0)):=(b7 (x:=tupI zs) (y:=.int b) rfl rfl).trans (nU O (by omega))
  have W:=(call2 (F:=minD) U R).trans rfl;have Y:=(call2 (F:=maxD) U R).trans rfl;have P:dG [w0,some (tupI zs),some (.lst S.length),some (.int a),some (.int b)] S'=some (.ok (.nx [w0,some (tupI zs),some (.lst S.length),some (.int a),some (.int b)]),S'.set S.length ((acc++[B6 zs [a,b]]).map tupI)):=by
   unfold dG;refine nj (x:=.non) ((lS (x:=.lst S.length) (y:=tupI (B6 zs [a,b])) (S1:=S') rfl rfl (gG (Ly W S') (Ly Y S'))).trans ((kS g (by rw[Kx];omega)).trans ?_))
   rw[Lu];rfl
  obtain⟨X,Z,S2,e,g2,k2⟩:=rE (its:=its) (w0:=w0) T Q post (acc++[B6 zs [a,b]]) (S'.set S.length ((acc++[B6 zs [a,b]]).map tupI)) (some (.int a)) (some (.int b)) (fun u N=>ht u (.tail _ N)) (by rw[KD];show acc.length+1+post.length<=500;omega) (K8 L) (kp.set (Kz _) T)
  exact⟨X,Z,S2,(fN rfl P).trans e,by rw[K3, <-List.singleton_append, <-K9];exact g2,k2⟩
section
variable {n:Nat}{zs:List Int}{E:List (List Int)}
theorem nV(Z:zs.Perm (gS n))(W:i<n):0<=zs.getD i 0/\zs.getD i 0<n:=by
 have X:zs.length=n:=by rw[Z.length_eq];unfold gS;simp
 have:zs.getD i 0∈gS n:=by
  rw[<-Z.mem_iff,KO,KB (by omega)]
  exact LV _
 unfold gS at this;obtain⟨j,Y,e⟩:=K4.mp this;have:=KS.mp Y;omega
theorem DU(Z:zs.Perm (gS n)):zs.Nodup:=by
 rw[Z.nodup_iff];unfold gS;exact List.Pairwise.map _ (fun a b h e=>h (by have e2:(0:Int)+(a:Int)=0+(b:Int):=e;omega)) (List.nodup_range (n:=n))
theorem gx(Z:zs.Perm (gS n))(Y:i<n)(X:j<n)(h:zs.getD i 0=zs.getD j 0):i=j:=by
 have W:zs.length=n:=by rw[Z.length_eq];unfold gS;simp
 rw[KO,KO,KB (by omega),KB (by omega)]at h
 exact(List.getElem_inj (DU Z)).mp h
theorem IB(Z:zs.Perm (gS n))(w:WebOk n E):(E.map (B6 zs)).Nodup/\∀ t∈E.map (B6 zs),∃ a b:Int,t=[a,b]/\0<=a/\a<b/\b<n:=by
 constructor
 ·have U:E.Nodup:=w.ris.imp fun{a b} h e=>by subst e;rw[jg]at h;cases h
  refine List.pairwise_map.mpr (Nf (fun{s t} hs X hne e=>hne ?_) U);obtain⟨a,b,rfl,a0,ab,bn⟩:=w.el s hs;obtain⟨c,d,rfl,Q,cd,L⟩:=w.el t X;have e1:=LJ e;have e2:=LJ e1.2;have S:=e1.1;have Y:=e2.1;have k1:zs.getD a.toNat 0≠zs.getD b.toNat 0:=fun z=>by have:=gx Z (i:=a.toNat) (j:=b.toNat) (by omega) (by omega) z;omega
  have k2:zs.getD c.toNat 0≠zs.getD d.toNat 0:=fun z=>by have:=gx Z (i:=c.toNat) (j:=d.toNat) (by omega) (by omega) z;omega
  have ac:=fun z=>gx Z (i:=a.toNat) (j:=c.toNat) (by omega) (by omega) z
  have bd:=fun z=>gx Z (i:=b.toNat) (j:=d.toNat) (by omega) (by omega) z
  have ad:=fun z=>gx Z (i:=a.toNat) (j:=d.toNat) (by omega) (by omega) z
  have T:=fun z=>gx Z (i:=b.toNat) (j:=c.toNat) (by omega) (by omega) z
  generalize zs.getD a.toNat 0=x at*;generalize zs.getD b.toNat 0=y at*;generalize zs.getD c.toNat 0=u at*;generalize zs.getD d.toNat 0=v at*;have key:(x=u/\y=v)\/(x=v/\y=u):=by
   by_cases W:y<x<;>by_cases q2:v<u<;>simp only[W,q2,if_true,if_false]at S Y<;>(split at Y<;>split at Y<;>omega)
  rcases key with⟨z1,z2⟩|⟨z1,z2⟩
  ·have:=ac z1;have:=bd z2;have e3:a=c:=by omega
   have R:b=d:=by omega
   rw[e3,R]
  ·have:=ad z1;have:=T z2;omega
 ·intro t X;obtain⟨s,hs,rfl⟩:=K4.mp X;obtain⟨a,b,rfl,a0,ab,bn⟩:=w.el s hs;have k1:zs.getD a.toNat 0≠zs.getD b.toNat 0:=fun z=>by have:=gx Z (i:=a.toNat) (j:=b.toNat) (by omega) (by omega) z;omega
  obtain⟨O,P⟩:=nV Z (i:=a.toNat) (by omega)
  obtain⟨N,W⟩:=nV Z (i:=b.toNat) (by omega)
  refine⟨_,_,rfl,?_,?_,?_⟩<;>(generalize zs.getD a.toNat 0=x at*;generalize zs.getD b.toNat 0=y at*;split<;>(try split)<;>omega)
theorem WebOk.sort{T:List (List Int)}(h:T.Nodup)(Z:∀ t∈T,∃ a b:Int,t=[a,b]/\0<=a/\a<b/\b<m)(Y:T.length<=21):WebOk m (cK T):=
 ⟨fun t X=>Z t ((bF T).mem_iff.mp X),GJ h,by rw[(bF T).length_eq];exact Y⟩
theorem zF(hs:d7 S k)(Q:zs.Perm (gS n))(w:WebOk n E):∃(T:List (List Int)) (S1:aB),eA [aH n E,tupI zs] S=some (.ok (aH n T),S1)/\WebOk n T/\T.length=E.length/\Kp k S S1:=by
 have L:zs.length=n:=by rw[Q.length_eq];unfold gS;simp
 have hf:=w.few;obtain⟨R,W,S2,e,g,U⟩:=rE (S:=S) (k:=k) (n:=n) (zs:=zs) (w0:=some (aH n E)) (its:=E.map tupI) hs.lt L E [] (S++[[]]) none none (fun t N=>by
  obtain⟨a,b,e,Y,I,X⟩:=w.el t N;exact⟨a,b,e,Y,by omega,by omega,X⟩) (by simp;omega) di (Kp.grow hs _)
 rw[MT]at g;obtain⟨J,P⟩:=IB Q w;have wT:WebOk n (cK (E.map (B6 zs))):=WebOk.sort J P (by rw[Kx];exact hf)
 have Z:=rD U.st g (fun r K=>by obtain⟨a,b,e,_⟩:=P r K;rw[e];rfl) (by rw[Kx];omega)
 have hm:gM [some (aH n E),some (tupI zs),none,none,none] S=some (.ok (.ret (aH n (cK (E.map (B6 zs))))),S2):=by
  unfold gM;have Y:bp 2 (bH ao) [some (aH n E),some (tupI zs),none,none,none] S=some (.ok (.nx [some (aH n E),some (tupI zs),some (.lst S.length),none,none]),S++[[]]):=bK (cV (S:=S) (us:=[]) (K5 _));have O:ji (aR bz (mV 0) (mK (.int 1))) [some (aH n E),some (tupI zs),some (.lst S.length),none,none]=pure ⟨E.map tupI,.none⟩:=rfl;have X:aU (cL bU (mV 2)) [some (aH n E),some (tupI zs),some (.lst S.length),R,W] S2=some (.ok (.fz ((cK (E.map (B6 zs))).map tupI)),S2):=by
   unfold aU;rw[eT (f:=bU) (m:=mV 2) (ρ:=[some (aH n E),some (tupI zs),some (.lst S.length),R,W]) (x:=.lst S.length) rfl];exact Z
  refine(aM Y).trans ((aM (ju O e)).trans (fM (gG (x:=.int n) (S1:=S2) rfl ((jz X).trans ?_))));rw[sV (by rw[Kx];have:=wT.few;unfold lim;omega)];rfl
 exact⟨_,S2,fi (o:=.ret (aH n (cK (E.map (B6 zs))))) hm rfl,wT,by rw[(bF _).length_eq,Kx],U⟩
end
theorem GK{ms:aO->M (List D)}(h:ms ρ S=some (.ok [d1,d2],S1)):F7 i j ms ρ S=some (.ok (.nx ((ρ.set i (some d1)).set j (some d2))),S1):=by
 unfold F7;rw[aQ h];rfl
theorem nk{e1 e2:TM}(hs:d7 S k)(Y:e1 ρ=pure (.lst k))(Z:e2 ρ=pure (.int m))(X:0<m)(W:m<1000):∃ j S1,aU (aA az (ae e1 (ae e2 ao))) ρ S=some (.ok (.int j),S1)/\0<=j/\j<m/\Kp k S S1/\S1.length=S.length:=by
 obtain⟨j,S1,e,r⟩:=tq (many:=m) hs X (by omega)
 refine⟨j,S1,?_,r⟩;unfold aU;rw[call2 Y Z];exact e
theorem uY{e:TM}(hs:d7 S k)(W:∀ S,d7 S k->∃ j S1,e ρ S=some (.ok (.int j),S1)/\0<=j/\j<m/\Kp k S S1/\S1.length=S.length):
  ∃ a b S1,aU (cL bU (aU (bH (ae e (ae e ao))))) ρ S=some (.ok (.fz [.int a,.int b]),S1)/\(0<=a/\a<m)/\(0<=b/\b<m)/\Kp k S S1/\S1.length=S.length:=by
 obtain⟨i,S1,e1,K,L,k1,R⟩:=W S hs;obtain⟨j,S2,e2,O,N,k2,U⟩:=W S1 k1.st;have Z:=k1.trans k2;have Y:=U.trans R;have Q:aU (bH (ae e (ae e ao))) ρ S=some (.ok (.fz [.int i,.int j]),S2):=j8 (j6 (ys:=[.int i,.int j]) (cF e1 (cF e2 rfl)) mC) Z Y rfl;have X:=sortI_perm [i,j];have hlen:(sortI [i,j]).length=2:=X.length_eq
 match hq:sortI [i,j],hlen with
 |[a,b],_=>
  rw[hq]at X;have T:a=i\/a=j:=by simpa using X.mem_iff.mp (KR ..)
  have P:b=i\/b=j:=by simpa using X.mem_iff.mp (KJ _ (KR ..))
  refine⟨a,b,S2,?_,by rcases T with rfl|rfl<;>exact⟨by assumption,by assumption⟩,by rcases P with rfl|rfl<;>exact⟨by assumption,by assumption⟩,Z,Y⟩
  refine j8 ((jz Q).trans ?_) Z Y rfl;have:bU [.fz [.int i,.int j]]=bM ((sortI [i,j]).map D.int):=rfl;rw[this,hq];exact cV mC
def kD(n:Nat)(T:List (List Int)):Prop:=∀ t∈T,∃ a b:Int,t=[a,b]/\0<=a/\a<b/\b<n
theorem kD.snoc{n:Nat}{T:List (List Int)}{a b:Int}(h:kD n T)(W:0<=a)(X:a<b)(Z:b<n):kD n (T++[[a,b]]):=fun t Y=>by
 rcases LS.mp Y with h'|h'
 ·exact h t h'
 ·exact⟨a,b,by simpa using h',W,X,Z⟩
section
variable {B:aB}{k n:Nat}{zs:List Int}{its:List D}
abbrev fO(B:aB)(k n:Nat)(zs:List Int)(r:List (Option D)):aO:=some (.lst k)::some (.int 7)::some (.int n)::some (tupI zs)::some (.lst B.length)::r
theorem GL(R:k<B.length)(L:n<=7)(W:zs.Perm (gS n)):∀(post:List Nat) (acc:List (List Int)) (S':aB) (x5 x6 x7 x8 x9 x10:Option D),(∀ a∈post,1<=a/\a<n)->acc.length+post.length<=100->kD n acc->S'[B.length]? =some (acc.map tupI)->Kp k B S'->
  ∃(T S U:Option D) (Z:List (List Int)) (S2:aB),gz ⟨its,.none⟩ (gN 5) bQ (post.map fun b:Nat=>.int (b:Int)) (fO B k n zs [x5,x6,x7,x8,x9,x10]) S'=some (.ok (.nx (fO B k n zs [T,S,U,x8,x9,x10])),S2)/\S2[B.length]? =some (Z.map tupI)/\kD n Z/\Z.length<=acc.length+post.length/\Kp k B S2
 |[],acc,S',x5,x6,x7,x8,x9,x10,_,_,gt,g,kp=>⟨x5,x6,x7,acc,S',by rw[L3,gn];rfl,g,gt,Kz _,kp⟩
 | a::post,acc,S',x5,x6,x7,x8,x9,x10,ha,hl,gt,g,kp=>by
  rw[KY]at hl ⊢;obtain⟨a1,a2⟩:=ha a (.head _);have G:zs.length=n:=by rw[W.length_eq];unfold gS;simp
  obtain⟨j,S1,J,C,A,k1,u⟩:=nk (e1:=mV 0) (e2:=mK (.int 8)) (ρ:=fO B k n zs [some (.int a),x6,x7,x8,x9,x10]) (m:=8) kp.st rfl rfl (by decide) (by decide)
  have H:=(KC.mp g).1;have g1:=(k1.oth B.length H (by omega)).trans g
  have O:eN FD (aU (aA az (ae (mV 0) (ae (mK (.int 8)) ao)))) (mK (.int 0)) (fO B k n zs [some (.int a),x6,x7,x8,x9,x10]) S'=some (.ok (decide (0<j)),S1):=wH (y:=.int 0) J rfl rfl;by_cases hj:0<j
  ·obtain⟨i,S2,K,I,t,k2,E⟩:=nk (e1:=mV 0) (e2:=mV 5) (ρ:=fO B k n zs [some (.int a),x6,x7,x8,x9,x10]) (m:=a) k1.st rfl rfl (by omega) (by omega)
   have g2:=(k2.oth B.length (by omega) (by omega)).trans g1
   have v1:aR bz (mV 3) (mV 5) (fO B k n zs [some (.int a),x6,x7,x8,x9,x10]) S1=some (.ok (.int (zs.getD a 0)),S1):=by
    rw[b7 (x:=tupI zs) (y:=.int a) rfl rfl,nU (by omega) (by omega),Lo];rfl
   have v2:aR bz (mV 3) (aU (aA az (ae (mV 0) (ae (mV 5) ao)))) (fO B k n zs [some (.int a),x6,x7,x8,x9,x10]) S1=some (.ok (.int (zs.getD i.toNat 0)),S2):=by
    rw[i4 (f:=bz) (x:=tupI zs) (S1:=S1) rfl K,nU I (by omega)];rfl
   have F:zs.getD a 0≠zs.getD i.toNat 0:=fun z=>by have:=gx W (i:=a) (j:=i.toNat) a2 (by omega) z;omega
   obtain⟨s,w⟩:=nV W (i:=a) a2;obtain⟨r,v⟩:=nV W (i:=i.toNat) (by omega)
   have Q:bQ (fO B k n zs [some (.int a),x6,x7,x8,x9,x10]) S'=some (.ok (.nx (fO B k n zs [some (.int a),some (.int (zs.getD a 0)),some (.int (zs.getD i.toNat 0)),x8,x9,x10])),S2.set B.length ((acc++[[if zs.getD i.toNat 0<zs.getD a 0 then zs.getD i.toNat 0 else zs.getD a 0,if zs.getD i.toNat 0>zs.getD a 0 then zs.getD i.toNat 0 else zs.getD a 0]]).map tupI)):=by
    unfold bQ;rw[rm O,if_pos (KU hj)];refine(aM (GK (cF v1 (cF v2 rfl)))).trans (nj (x:=.non) ((lS (x:=.lst B.length) (y:=tupI [if zs.getD i.toNat 0<zs.getD a 0 then zs.getD i.toNat 0 else zs.getD a 0,if zs.getD i.toNat 0>zs.getD a 0 then zs.getD i.toNat 0 else zs.getD a 0]) (S1:=S2) rfl rfl (gG rfl rfl)).trans ((kS g2 (by rw[Kx];omega)).trans ?_)))
    rw[Lu];rfl
   obtain⟨T,S,U,Z,X,e3,g3,Y,N,k3⟩:=GL R L W post (acc++[[if zs.getD i.toNat 0<zs.getD a 0 then zs.getD i.toNat 0 else zs.getD a 0,if zs.getD i.toNat 0>zs.getD a 0 then zs.getD i.toNat 0 else zs.getD a 0]]) (S2.set B.length ((acc++[[if zs.getD i.toNat 0<zs.getD a 0 then zs.getD i.toNat 0 else zs.getD a 0,if zs.getD i.toNat 0>zs.getD a 0 then zs.getD i.toNat 0 else zs.getD a 0]]).map tupI)) (some (.int a)) (some (.int (zs.getD a 0))) (some (.int (zs.getD i.toNat 0))) x8 x9 x10 (fun b P=>ha b (.tail _ P))
    (by rw[KD];show acc.length+1+post.length<=100;omega) (gt.snoc (by split<;>omega) (by split<;>split<;>omega) (by split<;>omega)) (K8 (by omega)) ((((kp.trans k1).trans k2)).set (Kz _) R)
   refine⟨T,S,U,Z,X,(fN rfl Q).trans e3,g3,Y,?_,k3⟩;rw[KD]at N;have:[[if zs.getD i.toNat 0<zs.getD a 0 then zs.getD i.toNat 0 else zs.getD a 0,if zs.getD i.toNat 0>zs.getD a 0 then zs.getD i.toNat 0 else zs.getD a 0]].length=1:=rfl;omega
  ·have Q:bQ (fO B k n zs [some (.int a),x6,x7,x8,x9,x10]) S'=some (.ok (.nx (fO B k n zs [some (.int a),x6,x7,x8,x9,x10])),S1):=by
    unfold bQ;rw[rm O,if_neg (by rw[Lq];exact hj)];rfl
   obtain⟨T,S,U,Z,X,e3,g3,Y,N,k3⟩:=GL R L W post acc S1 (some (.int a)) x6 x7 x8 x9 x10 (fun b P=>ha b (.tail _ P)) (by omega) gt g1 (kp.trans k1)
   exact⟨T,S,U,Z,X,(fN rfl Q).trans e3,g3,Y,by omega,k3⟩
theorem GN(Q:k<B.length)(L:n<=7)(U:1<=n):∀(post:List Nat) (acc:List (List Int)) (S':aB) (x5 x6 x7 x8 x9 x10:Option D),acc.length+post.length<=100->kD n acc->S'[B.length]? =some (acc.map tupI)->Kp k B S'->
  ∃(R T Y:Option D) (Z:List (List Int)) (S2:aB),gz ⟨its,.none⟩ (gN 8) bR (post.map fun b:Nat=>.int (0+(b:Int))) (fO B k n zs [x5,x6,x7,x8,x9,x10]) S'=some (.ok (.nx (fO B k n zs [x5,x6,x7,R,T,Y])),S2)/\S2[B.length]? =some (Z.map tupI)/\kD n Z/\Z.length<=acc.length+post.length/\Kp k B S2
 |[],acc,S',x5,x6,x7,x8,x9,x10,_,gt,g,kp=>⟨x8,x9,x10,acc,S',by rw[L3,gn];rfl,g,gt,Kz _,kp⟩
 | t::post,acc,S',x5,x6,x7,x8,x9,x10,hl,gt,g,kp=>by
  rw[KY]at hl ⊢;obtain⟨a,b,S1,e,⟨a0,a1⟩,⟨H,J⟩,k1,I⟩:=uY (e:=aU (aA az (ae (mV 0) (ae (mV 2) ao)))) (ρ:=fO B k n zs [x5,x6,x7,some (.int t),x9,x10]) (m:=n) kp.st fun S hs=>nk hs rfl rfl (by omega) (by omega)
  have K:=(KC.mp g).1;have g1:=(k1.oth B.length K (by omega)).trans g
  have h0:lI (aU (cL bU (aU (bH (ae (aU (aA az (ae (mV 0) (ae (mV 2) ao)))) (ae (aU (aA az (ae (mV 0) (ae (mV 2) ao)))) ao)))))) (pq 2 (a9 (gN 9) (a9 (gN 10) eF))) (fO B k n zs [x5,x6,x7,some (.int t),x9,x10]) S'=some (.ok (.nx (fO B k n zs [x5,x6,x7,some (.int t),some (.int a),some (.int b)])),S1):=B3 e rfl;have O:eN kX (mV 9) (mV 10) (fO B k n zs [x5,x6,x7,some (.int t),some (.int a),some (.int b)])=pure (decide (a<b)):=cY (x:=.int a) (y:=.int b) rfl rfl rfl;by_cases hab:a<b
  ·have P:bR (fO B k n zs [x5,x6,x7,some (.int t),x9,x10]) S'=some (.ok (.nx (fO B k n zs [x5,x6,x7,some (.int t),some (.int a),some (.int b)])),S1.set B.length ((acc++[[a,b]]).map tupI)):=by
    unfold bR;refine(aM h0).trans ((Ly ((bX O).trans (if_pos (KU hab))) S1).trans (nj (x:=.non) ((lS (x:=.lst B.length) (y:=tupI [a,b]) (S1:=S1) rfl rfl (gG rfl rfl)).trans ((kS g1 (by rw[Kx];omega)).trans ?_))))
    rw[Lu];rfl
   obtain⟨R,T,Y,Z,X,e3,g3,W,N,k3⟩:=GN Q L U post (acc++[[a,b]]) (S1.set B.length ((acc++[[a,b]]).map tupI)) x5 x6 x7 (some (.int t)) (some (.int a)) (some (.int b)) (by rw[KD];show acc.length+1+post.length<=100;omega) (gt.snoc a0 hab J) (K8 (by omega)) ((kp.trans k1).set (Kz _) Q)
   refine⟨R,T,Y,Z,X,?_,g3,W,?_,k3⟩
   ·rw[K3,Mo];exact(fN rfl P).trans e3
   ·rw[KD]at N;have:[[a,b]].length=1:=rfl;omega
  ·have P:bR (fO B k n zs [x5,x6,x7,some (.int t),x9,x10]) S'=some (.ok (.nx (fO B k n zs [x5,x6,x7,some (.int t),some (.int a),some (.int b)])),S1):=by
    unfold bR;exact(aM h0).trans (Ly ((bX O).trans (if_neg (by rw[Lq];exact hab))) S1)
   obtain⟨R,T,Y,Z,X,e3,g3,W,N,k3⟩:=GN Q L U post acc S1 x5 x6 x7 (some (.int t)) (some (.int a)) (some (.int b)) (by omega) gt g1 (kp.trans k1)
   refine⟨R,T,Y,Z,X,?_,g3,W,by omega,k3⟩
   rw[K3,Mo];exact(fN rfl P).trans e3
end
theorem GO{e:TM}(h:e ρ S=some (.ok x,S1)):qo e ρ S=kK [x] S1:=by
 unfold qo;rw[aQ (cF h rfl)]
theorem DV{mi:aO->M Iter}(Z:mi ρ S=some (.ok ⟨its,.none⟩,S1))(h:gz ⟨its,.none⟩ g b its ρ S1=some (.ok o,S2)):lJ mi g b ρ S=some (.ok o,S2):=by
 unfold lJ;rw[aQ Z];exact h
theorem J0(l:List D)(m:Nat):S3.cutD l none (some (m:Int))=l.take m:=by
 unfold S3.cutD;rw[HT.sIx_none,HT.sIx_nat,List.drop_zero,Nat.sub_zero];by_cases h:m<=l.length
 ·rw[Nat.min_eq_left h]
 ·rw[Nat.min_eq_right (by omega),Nv (Kz _),Nv (by omega)]
theorem kD.two(h:kD n T):∀ r∈T,r.length=2:=fun r Z=>by obtain⟨a,b,rfl,_⟩:=h r Z;rfl
theorem DW{B:aB}{Z:List (List Int)}(hs:d7 S k)(g:S[B.length]? =some (Z.map tupI))(W:kD n Z)(T:Z.length<=18):
  cL dZ (aU (cL bU (aU (Eo (aU (cL hU (mV 4))) oN (oS (mV 1)))))) (fO B k n zs r) S=some (.ok (.tup (((eL Z).take 7).map tupI)),S)/\WebOk n ((eL Z).take 7):=by
 have w:WebOk n ((eL Z).take 7):=⟨fun t Y=>W t (rz.mp (List.mem_of_mem_take Y)),(zA Z).sublist (List.take_sublist _ _),by rw[LM];omega⟩
 refine⟨?_,w⟩;have R:aU (cL hU (mV 4)) (fO B k n zs r) S=some (.ok (.fz ((eL Z).map tupI)),S):=by
  refine j8 ((jz (x:=.lst B.length) (S1:=S) rfl).trans ?_) (Kp.refl hs) rfl (d8 _);show(getL B.length>>=fun xs=>match rowsOf xs with|some nss=>dm nss|none=>M.fail) S=_
  rw[aQ (dE g),pQ];have Y:two Z=true:=Lf.mpr fun x X=>by rw[W.two x X];rfl
  show dm Z S=_;unfold dm;rw[if_pos ⟨T,Y⟩];exact cV (by rw[Kx];have:=zz Z;unfold lim;omega)
 have U:aU (Eo (aU (cL hU (mV 4))) oN (oS (mV 1))) (fO B k n zs r) S=some (.ok (.fz (((eL Z).take 7).map tupI)),S):=by
  refine j8 ?_ (Kp.refl hs) rfl (d8 _);unfold Eo;rw[aQ R];show bM (S3.cutD ((eL Z).map tupI) none (some ((7:Nat):Int))) S=_;rw[J0, <-List.map_take];exact cV (by rw[Kx,LM];unfold lim;omega)
 have Q:aU (cL bU (aU (Eo (aU (cL hU (mV 4))) oN (oS (mV 1))))) (fO B k n zs r) S=some (.ok (.fz (((eL Z).take 7).map tupI)),S):=by
  refine j8 ((jz U).trans ?_) (Kp.refl hs) rfl (d8 _);show mX (((eL Z).take 7).map tupI) S=_;rw[mI (fun x X=>W.two x (rz.mp (List.mem_of_mem_take X))) (by rw[LM];omega),zx w.ris]
  exact cV (by rw[Kx,LM];unfold lim;omega)
 refine(jz Q).trans ?_;rw[sV (by rw[Kx,LM];unfold lim;omega)];rfl
theorem B7(hs:d7 S k):∃(n:Nat) (E:List (List Int)) (S1:aB),jm (bw [.lst k,.int 7]) S=some (.ok (aH n E),S1)/\n<=7/\WebOk n E/\E.length<=7/\Kp k S S1/\S1.length=S.length:=by
 obtain⟨j,S1,s,j0,j1,k1,l1⟩:=nk (e1:=mV 0) (e2:=aA minD (ae (mK (.int 7)) (ae (aR bO (mV 1) (mK (.int 1))) ao))) (ρ:=[some (.lst k),some (.int 7),none,none,none,none,none,none,none,none,none]) (m:=7) hs rfl ((call2 (x:=.int 7) (y:=.int 8) rfl rfl).trans rfl) (by decide) (by decide)
 obtain⟨n,hn⟩:∃ n:Nat,1+j=n:=⟨(1+j).toNat,by omega⟩
 have Y:n<=7:=by omega
 obtain⟨zs,B,em,hz,k2,l2⟩:=uW (n:=n) k1.st (by omega)
 have H:k<B.length:=by have:=hs.lt;omega
 have L:=k2.st;have I:we (mK (.int 1)) (mV 2) (fO B k n zs [none,none,none,none,none,none])=pure ⟨(List.range' 1 (n - 1)).map fun b:Nat=>.int (b:Int),.none⟩:=by
  refine((pK (x:=.int 1) (y:=.int n) rfl rfl).trans (BS (by omega))).trans ?_
  congr 2;have e:((n:Int) - 1).toNat=n - 1:=by omega
  rw[e];unfold aX;rw[Me,Ll];refine ME fun i _=>?_;show D.int (1+(i:Int))= .int ((1+i:Nat):Int);congr 1
 obtain⟨T,R,U,X,K,e3,g3,N,Q,k3⟩:=GL (B:=B) (k:=k) (n:=n) (zs:=zs) (its:=(List.range' 1 (n - 1)).map fun b:Nat=>.int (b:Int)) H Y hz (List.range' 1 (n - 1)) [] (B++[[]]) none none none none none none (fun a A=>by have:=LR.mp A;omega) (by rw[Ms];simp;omega) (fun t z=>by cases z) di (Kp.grow L _)
 rw[Ms]at Q;obtain⟨i,W,u,i0,i1,F,l4⟩:=nk (e1:=mV 0) (e2:=mK (.int 4)) (ρ:=fO B k n zs [T,R,U,none,none,none]) (m:=4) k3.st rfl rfl (by decide) (by decide)
 have g4:=(F.oth B.length (KC.mp g3).1 (by omega)).trans g3
 have J:qo (aU (aA az (ae (mV 0) (ae (mK (.int 4)) ao)))) (fO B k n zs [T,R,U,none,none,none]) K=some (.ok ⟨aX 0 i.toNat,.none⟩,W):=by
  rw[GO u,wA (by omega)];rfl
 obtain⟨g,h,O,Z,G,q,g5,P,l,k5⟩:=GN (B:=B) (k:=k) (n:=n) (zs:=zs) (its:=aX 0 i.toNat) H Y (by omega) (List.range i.toNat) X W T R U none none none (by rw[Lp];simp at Q;omega) N g4 (k3.trans F)
 rw[Lp]at l;simp at Q;obtain⟨C,w⟩:=DW (zs:=zs) (r:=[T,R,U,g,h,O]) k5.st g5 P (by omega)
 have hm:eY [some (.lst k),some (.int 7),none,none,none,none,none,none,none,none,none] S=some (.ok (.ret (aH n ((eL Z).take 7))),G):=by
  unfold eY;have s1:aR bO (mK (.int 1)) (aU (aA az (ae (mV 0) (ae (aA minD (ae (mK (.int 7)) (ae (aR bO (mV 1) (mK (.int 1))) ao))) ao)))) [some (.lst k),some (.int 7),none,none,none,none,none,none,none,none,none] S=some (.ok (.int n),S1):=by
   rw[i4 (f:=bO) (x:=.int 1) (S1:=S) rfl s, <-hn];rfl
  have s2:aU (aA bY (ae (mV 0) (ae (mV 2) ao))) [some (.lst k),some (.int 7),some (.int n),none,none,none,none,none,none,none,none] S1=some (.ok (tupI zs),B):=by
   unfold aU;rw[call2 (x:=.lst k) (y:=.int n) rfl rfl];exact em
  have s3:bp 4 (bH ao) [some (.lst k),some (.int 7),some (.int n),some (tupI zs),none,none,none,none,none,none,none] B=some (.ok (.nx (fO B k n zs [none,none,none,none,none,none])),B++[[]]):=bK (cV (S:=B) (us:=[]) (K5 _));exact(aM (bK s1)).trans ((aM (bK s2)).trans ((aM s3).trans ((aM (ju I e3)).trans ((aM (DV J q)).trans (fM (gG (x:=.int n) (S1:=G) rfl C))))))
 obtain⟨p,v,k6⟩:=pU (c:=bw [.lst k,.int 7]) (d:=aH n ((eL Z).take 7)) hs (fi (o:=.ret (aH n ((eL Z).take 7))) hm rfl) ((k1.trans k2).trans k5) kR;exact⟨n,_,p,v,Y,w,by rw[LM];omega,k6⟩
theorem EC{F:List D->M D}{e1 e2 e3:TM}(X:e1 ρ=pure x)(Y:e2 ρ=pure y)(Z:e3 ρ=pure z):aA F (ae e1 (ae e2 (ae e3 ao))) ρ=F [x,y,z]:=by
 unfold aA;rw[bZ X (bZ Y (bZ Z rfl)),ay]
theorem pY:∀ s t:List Int,PyData.eqvAll (s.map PyData.int) (t.map PyData.int)=decide (s=t)
 |[],[]=>by simp[PyData.eqvAll]
 |[],_::_=>by simp[PyData.eqvAll]
 |_::_,[]=>by simp[PyData.eqvAll]
 |x::s,y::t=>by
  rw[K3,K3];unfold PyData.eqvAll;rw[pY s t,OG];simp[PyData.eqv]
theorem GP:ku (tupI s) (tupI t)=pure (.bl (!decide (s=t))):=cI fun S=>by
 unfold ku;refine(jj (lQ s) (lQ t)).mpr ⟨?_,rfl⟩;have:PyData.eqv (mG s) (mG t)=decide (s=t):=by
  unfold mG PyData.eqv;exact pY s t
 rw[this]
def Kb(a b:Int):D->Bool
 | .tup [.int x,.int y]=> !decide ([x,y]=[a,b])
 |_=>false
theorem six{v:Int}(Y:0<=i)(Z:i<6):∃ u:Int,jL [D.int 0,.int 0,.int 1,.int 2,.int 3,.int 7] i=some (.int u)/\0<=u/\u<=7:=by
 obtain⟨d,e,hd⟩:=EB (xs:=[D.int 0,.int 0,.int 1,.int 2,.int 3,.int 7]) Y Z;simp only[List.mem_cons,List.not_mem_nil,or_false]at hd;rcases hd with rfl|rfl|rfl|rfl|rfl|rfl<;>exact⟨_,e,by decide,by decide⟩
abbrev eE(k:Nat)(r:List (Option D)):aO:=some (.lst k)::some (.int 7)::r
abbrev m6:TM:=aU (bH (bJ (mK (.int 0)) (bJ (mK (.int 0)) (bJ (mK (.int 1)) (bJ (mK (.int 2)) (bJ (mK (.int 3)) (bJ (mV 1) ao)))))))
theorem DX(hs:d7 S k):∃(n:Nat) (E:List (List Int)) (S1:aB),aF (bp 3 (aR lA (mV 1) (aR bz m6 (aU (aA az (ae (mV 0) (ae (mK (.int 6)) ao))))))) (bP (aU (aA bB (ae (mV 0) (ae (aA maxD (ae (mK (.int 0)) (ae (mV 3) ao))) (ae (aR bO (mV 2) (mK (.int 1))) ao)))))) (eE k [some (.int j),x3,x4,x5,x6,x7]) S=some (.ok (.ret (aH n E)),S1)/\n<=7/\WebOk n E/\Kp k S S1:=by
 obtain⟨i,S1,X,P,W,k1,N⟩:=nk (e1:=mV 0) (e2:=mK (.int 6)) (ρ:=eE k [some (.int j),x3,x4,x5,x6,x7]) (m:=6) hs rfl rfl (by decide) (by decide)
 obtain⟨u,Q,K,L⟩:=six (v:=0) P W;obtain⟨n,R⟩:∃ n:Nat,7 - u=n:=⟨(7 - u).toNat,by omega⟩
 obtain⟨E,S2,e2,w,k2,O⟩:=pW (n:=n) (o:=j+1) k1.st (by omega)
 refine⟨n,E,S2,?_,by omega,w,k1.trans k2⟩
 have U:m6 (eE k [some (.int j),x3,x4,x5,x6,x7])=pure (.fz [.int 0,.int 0,.int 1,.int 2,.int 3,.int 7]):=dC (us:=[.int 0,.int 0,.int 1,.int 2,.int 3,.int 7]) rfl (by show 6<=lim;unfold lim;omega)
 have T:aR bz m6 (aU (aA az (ae (mV 0) (ae (mK (.int 6)) ao)))) (eE k [some (.int j),x3,x4,x5,x6,x7]) S=some (.ok (.int u),S1):=by
  refine(i4 (Ly U S) X).trans ?_;show(match jL [D.int 0,.int 0,.int 1,.int 2,.int 3,.int 7] i with|some d=>(pure d:M D)|none=>M.fail) S1=_
  rw[Q];rfl
 have Y:aR lA (mV 1) (aR bz m6 (aU (aA az (ae (mV 0) (ae (mK (.int 6)) ao))))) (eE k [some (.int j),x3,x4,x5,x6,x7]) S=some (.ok (.int n),S1):=by
  rw[i4 (f:=lA) (x:=.int 7) (S1:=S) rfl T, <-R];rfl
 have Z:aA maxD (ae (mK (.int 0)) (ae (mV 3) ao)) (eE k [some (.int j),some (.int n),x4,x5,x6,x7])=pure (.int n):=by
  refine(call2 (x:=.int 0) (y:=.int n) rfl rfl).trans ?_;have:(if (n:Int)>0 then (n:Int)else 0)=n:=by split<;>omega
  show pure (D.int (if (n:Int)>0 then (n:Int)else 0))=pure (D.int n);rw[this]
 exact(aM (bK Y)).trans (fM ((Ly (NF jm (EC (F:=bB) (e1:=mV 0) (e3:=aR bO (mV 2) (mK (.int 1))) (x:=.lst k) (z:=.int (j+1)) rfl Z rfl)) S1).trans e2))
theorem uZ{Z:Type}{p:Z->Bool}:∀{l:List Z},(l.filter p).length=l.length->∀ x∈l,p x=true
 |[],_,x,h=>by cases h
 | a::l,h,x,hx=>by
  cases q:p a with
  |true=>
   rw[MB q,KY,KY]at h;rcases K2.mp hx with rfl|hx
   ·exact q
   ·exact uZ (by omega) x hx
  |false=>
   rw[MC (by rw[q];decide),KY]at h
   have:=MS p l;omega
theorem zG{T:List (List Int)}{a b:Int}(Z:∀ t∈T,∃ x y:Int,t=[x,y]):(T.map tupI).filter (Kb a b)=(T.filter fun t=> !decide (t=[a,b])).map tupI:=by
 rw[List.filter_map];congr 1;refine List.filter_congr fun t Y=>?_;obtain⟨x,y,rfl⟩:=Z t Y;rfl
theorem wI{X:Type} [DecidableEq X]:∀{l m:List X},l.Nodup->(∀ x∈l,x∈m)->l.length<=m.length
 |[],_,_,_=>K5 _
 |x::l,m,h,hs=>by
  obtain⟨U,W⟩:=Lw.mp h;have Z:=hs x (.head _);have:=wI (l:=l) (m:=m.erase x) W fun y Y=>(List.mem_erase_of_ne (fun(e:y=x)=>U (by rw[<-e];exact Y))).mpr (hs y (.tail _ Y))
  rw[List.length_erase_of_mem Z]at this;have:=List.length_pos_of_mem Z;rw[KY];omega
theorem zH{n:Nat}{a b:Int}(Z:0<=a)(Y:a<b)(X:b<n):[a,b]∈bC n:=by
 unfold bC i5;refine Mg.mpr ⟨a.toNat,KS.mpr (by omega),K4.mpr ⟨b.toNat,LR.mpr (by omega),?_⟩⟩
 rw[Int.toNat_of_nonneg Z,Int.toNat_of_nonneg (by omega)]
theorem IC{n:Nat}{G:List (List Int)}(U:n<=7)(T:G.Nodup)(X:∀ t∈G,∃ a b:Int,t=[a,b]/\0<=a/\a<b/\b<n):G.length<=21:=
 KP (wI T fun t Y=>by obtain⟨a,b,rfl,h0,W,Z⟩:=X t Y;exact zH h0 W Z) (mH U).2
theorem DY{S:aB}{k n:Nat}{j:Int}{x3 x5 x6 x7:Option D}{T:List (List Int)}(hs:d7 S k)(hn:2<=n)(H:n<=7)(w:WebOk n T):∃(E:List (List Int)) (S1:aB),aF (lI (aU (cL bU (aU (bH (ae (aU (aA az (ae (mV 0) (ae (aR bz (mV 4) (mK (.int 0))) ao)))) (ae (aU (aA az (ae (mV 0) (ae (aR bz (mV 4) (mK (.int 0))) ao)))) ao)))))) (pq 2 (a9 (gN 5) (a9 (gN 6) eF)))) (aF (bp 7 (eG (ji (aR bz (mV 4) (mK (.int 1)))) (gN 0) eR eS [none,some 5,some 6])) (aF (iw (F6 (eN kX (mV 5) (mV 6)) (eN si (cL cZ (mV 7)) (cL cZ (aR bz (mV 4) (mK (.int 1)))))) (qV (wb dy (mV 7) (eM (ae (mV 5) (ae (mV 6) ao))))) d4) (bP (eM (ae (aR bz (mV 4) (mK (.int 0))) (ae (cL dZ (aU (cL bU (mV 7)))) ao)))))) (eE k [some (.int j),x3,some (aH n T),x5,x6,x7]) S=some (.ok (.ret (aH n E)),S1)/\WebOk n E/\Kp k S S1:=by
 obtain⟨a,b,S1,e1,⟨a0,a1⟩,⟨b0,b1⟩,k1,l1⟩:=uY (e:=aU (aA az (ae (mV 0) (ae (aR bz (mV 4) (mK (.int 0))) ao)))) (ρ:=eE k [some (.int j),x3,some (aH n T),x5,x6,x7]) (m:=n) hs fun S hs=>nk hs rfl rfl (by omega) (by omega)
 have hT:=w.few;have v:∀ t∈T,∃ x y:Int,t=[x,y]:=fun t X=>by obtain⟨x,y,e,_⟩:=w.el t X;exact⟨x,y,e⟩
 have P:T.Nodup:=w.ris.imp fun{a b} h e=>by subst e;rw[jg]at h;cases h
 have B:eG (ji (aR bz (mV 4) (mK (.int 1)))) (gN 0) eR eS [none,some 5,some 6] (eE k [some (.int j),x3,some (aH n T),some (.int a),some (.int b),x7])=bM ((T.filter fun t=> !decide (t=[a,b])).map tupI):=by
  have s:ji (aR bz (mV 4) (mK (.int 1))) (eE k [some (.int j),x3,some (aH n T),some (.int a),some (.int b),x7])=pure ⟨T.map tupI,.none⟩:=rfl;unfold eG;rw[s,ay,show jD [none,some 5,some 6] (eE k [some (.int j),x3,some (aH n T),some (.int a),some (.int b),x7])=[none,some (.int a),some (.int b)]from rfl,xN (fun ρ=>∃ x,ρ=[x,some (.int a),some (.int b)]) (Kb a b) id (by rw[Kx];unfold lim;omega) ⟨none,rfl⟩,ay,List.map_id,zG v]
  rintro d hd ρ ⟨x,rfl⟩;obtain⟨t,X,rfl⟩:=K4.mp hd;obtain⟨x,y,rfl⟩:=v t X;exact⟨_,rfl,⟨_,rfl⟩,cY (x:=tupI [x,y]) (y:=tupI [a,b]) rfl rfl GP,fun _=>rfl⟩
 generalize hF:(T.filter fun t=> !decide (t=[a,b]))=F at B;have Z:F.Sublist T:=by rw[<-hF];exact NW
 have a3:=Z.length_le;have hk:k<S1.length:=by have:=hs.lt;omega
 have s1:lI (aU _) (pq 2 (a9 (gN 5) (a9 (gN 6) eF))) (eE k [some (.int j),x3,some (aH n T),x5,x6,x7]) S=some (.ok (.nx (eE k [some (.int j),x3,some (aH n T),some (.int a),some (.int b),x7])),S1):=B3 e1 rfl;have s2:bp 7 (eG (ji (aR bz (mV 4) (mK (.int 1)))) (gN 0) eR eS [none,some 5,some 6]) (eE k [some (.int j),x3,some (aH n T),some (.int a),some (.int b),x7]) S1=some (.ok (.nx (eE k [some (.int j),x3,some (aH n T),some (.int a),some (.int b),some (.lst S1.length)])),S1++[F.map tupI]):=bK ((Ly B S1).trans (cV (by rw[Kx];unfold lim;omega)))
 have Q:cL cZ (mV 7) (eE k [some (.int j),x3,some (aH n T),some (.int a),some (.int b),some (.lst S1.length)]) (S1++[F.map tupI])=some (.ok (.int F.length),S1++[F.map tupI]):=by
  refine(jz (x:=.lst S1.length) (S1:=S1++[F.map tupI]) rfl).trans ?_;show(getL S1.length>>=fun xs=>pure (D.int xs.length)) _=_;rw[aQ (dE di),Kx];rfl
 have R:cL cZ (aR bz (mV 4) (mK (.int 1))) (eE k [some (.int j),x3,some (aH n T),some (.int a),some (.int b),some (.lst S1.length)])=pure (.int T.length):=by
  refine(eT (x:=.tup (T.map tupI)) rfl).trans ?_;show pure (D.int (T.map tupI).length)=_;rw[Kx]
 have X:F6 (eN kX (mV 5) (mV 6)) (eN si (cL cZ (mV 7)) (cL cZ (aR bz (mV 4) (mK (.int 1))))) (eE k [some (.int j),x3,some (aH n T),some (.int a),some (.int b),some (.lst S1.length)]) (S1++[F.map tupI])=some (.ok (decide (a<b) && decide ((F.length:Int)=T.length)),S1++[F.map tupI]):=by
  have h1:eN kX (mV 5) (mV 6) (eE k [some (.int j),x3,some (aH n T),some (.int a),some (.int b),some (.lst S1.length)]) (S1++[F.map tupI])=some (.ok (decide (a<b)),S1++[F.map tupI]):=rfl;have J:=wH (f:=si) Q (Ly R _) JY;show(eN kX (mV 5) (mV 6) _>>=_) _=_;rw[aQ h1];cases decide (a<b)with
  |true=>exact J
  |false=>rfl
 have fin:∀(G:List (List Int)) (S2:aB),S2[S1.length]? =some (G.map tupI)->Kp k S S2->G.Nodup->(∀ t∈G,∃ a b:Int,t=[a,b]/\0<=a/\a<b/\b<n)->G.length<=21->∃(E:List (List Int)) (Y:aB),bP (eM (ae (aR bz (mV 4) (mK (.int 0))) (ae (cL dZ (aU (cL bU (mV 7)))) ao))) (eE k [some (.int j),x3,some (aH n T),some (.int a),some (.int b),some (.lst S1.length)]) S2=some (.ok (.ret (aH n E)),Y)/\WebOk n E/\Kp k S Y:=fun G S2 g u nd z o=>by
  have A:WebOk n (cK G):=WebOk.sort nd z o;have J:aU (cL bU (mV 7)) (eE k [some (.int j),x3,some (aH n T),some (.int a),some (.int b),some (.lst S1.length)]) S2=some (.ok (.fz ((cK G).map tupI)),S2):=by
   unfold aU;rw[eT (f:=bU) (m:=mV 7) (ρ:=eE k [some (.int j),x3,some (aH n T),some (.int a),some (.int b),some (.lst S1.length)]) (x:=.lst S1.length) rfl];exact rD u.st g (fun r i=>by obtain⟨a,b,e,_⟩:=z r i;rw[e];rfl) (by omega)
  refine⟨cK G,S2,fM (gG (x:=.int n) (S1:=S2) rfl ((jz J).trans ?_)),A,u⟩;rw[sV (by rw[Kx];have:=A.few;unfold lim;omega)];rfl
 have N:Kp k S (S1++[F.map tupI]):=k1.trans (Kp.grow k1.st _);by_cases hq:(decide (a<b) && decide ((F.length:Int)=T.length))=true
 ·have K:a<b:=Lx (MY.mp hq).1;have C:F.length=T.length:=by have:=Lx (MY.mp hq).2;omega
  have O:[a,b] ∉ T:=fun h=>by
   have:=uZ (p:=fun t=> !decide (t=[a,b])) (l:=T) (by rw[hF];exact C) _ h
   simp at this
  have W:(F++[[a,b]]).Nodup:=by
   refine NB.mpr ⟨P.sublist Z,Lw.mpr ⟨by simp,List.nodup_nil⟩,fun x q y c e=>?_⟩
   have L:y=[a,b]:=by simpa using c
   subst e L;exact O (Z.subset q)
  have U:∀ t∈F++[[a,b]],∃ a b:Int,t=[a,b]/\0<=a/\a<b/\b<n:=fun t X=>by
   rcases LS.mp X with h|h
   ·exact w.el t (Z.subset h)
   ·exact⟨a,b,by simpa using h,a0,K,b1⟩
  obtain⟨E,Y,e3,I,k3⟩:=fin (F++[[a,b]]) ((S1++[F.map tupI]).set S1.length ((F++[[a,b]]).map tupI)) (K8 (by rw[KD];exact MF _)) (N.set (by omega) hs.lt)
   W U (IC H W U)
  refine⟨E,Y,(aM s1).trans ((aM s2).trans ((aM (ρ':=eE k [some (.int j),x3,some (aH n T),some (.int a),some (.int b),some (.lst S1.length)]) (S1:=(S1++[F.map tupI]).set S1.length ((F++[[a,b]]).map tupI)) ?_).trans e3)),I,k3⟩;rw[rm X,if_pos hq];refine nj (x:=.non) ((lS (x:=.lst S1.length) (y:=tupI [a,b]) (S1:=S1++[F.map tupI]) rfl rfl (gG rfl rfl)).trans ((kS di (by rw[Kx];omega)).trans ?_))
  rw[Lu];rfl
 ·obtain⟨E,Y,e3,I,k3⟩:=fin F (S1++[F.map tupI]) di N (P.sublist Z) (fun t X=>w.el t (Z.subset X)) (by omega)
  refine⟨E,Y,(aM s1).trans ((aM s2).trans ((aM (ρ':=eE k [some (.int j),x3,some (aH n T),some (.int a),some (.int b),some (.lst S1.length)]) (S1:=S1++[F.map tupI]) ?_).trans e3)),I,k3⟩;rw[rm X,if_neg hq];rfl
theorem GQ(hs:d7 S k):∃(n:Nat) (E:List (List Int)) (S1:aB),jm (gi [.lst k,.int 7]) S=some (.ok (aH n E),S1)/\n<=7/\WebOk n E/\Kp k S S1/\S1.length=S.length:=by
 suffices h:∃(n:Nat) (E:List (List Int)) (S1:aB),jt (eE k [none,none,none,none,none,none]) S=some (.ok (.ret (aH n E)),S1)/\n<=7/\WebOk n E/\Kp k S S1 by
  obtain⟨n,E,S1,e,N,w,W⟩:=h;obtain⟨S2,e2,k2⟩:=pU (c:=gi [.lst k,.int 7]) (d:=aH n E) hs (fi (o:=.ret (aH n E)) e rfl) W kR;exact⟨n,E,S2,e2,N,w,k2⟩
 obtain⟨j,S1,Q,g,f,k1,l1⟩:=nk (e1:=mV 0) (e2:=mK (.int 6)) (ρ:=eE k [none,none,none,none,none,none]) (m:=6) hs rfl rfl (by decide) (by decide)
 have X:eN kX (mV 2) (mK (.int 3)) (eE k [some (.int j),none,none,none,none,none])=pure (decide (j<3)):=cY (x:=.int j) (y:=.int 3) rfl rfl rfl;unfold jt;by_cases hj:j<3
 ·obtain⟨n,E,S2,e2,N,w,k2⟩:=DX (j:=j) (x3:=none) (x4:=none) (x5:=none) (x6:=none) (x7:=none) k1.st;exact⟨n,E,S2,(aM (bK Q)).trans (j7 ((Ly ((bX X).trans (if_pos (KU hj))) S1).trans e2)),N,w,k1.trans k2⟩
 ·obtain⟨I,E0,S2,e2,B,w0,Y,k2,i⟩:=B7 k1.st;obtain⟨T,p,e3,wT,k3⟩:=B5 (n:=I) k2.st Y fun t X=>by obtain⟨x,y,e,_⟩:=w0.el t X;exact⟨x,y,e⟩
  obtain⟨P,K,R,l4⟩:=pU (c:=aA ft (ae (aU (aA bw (ae (mV 0) (ae (mV 1) ao)))) ao) (eE k [some (.int j),none,none,none,none,none])) (d:=aH E0.length T) k1.st (by
   have hf:aU (aA bw (ae (mV 0) (ae (mV 1) ao))) (eE k [some (.int j),none,none,none,none,none]) S1=some (.ok (aH I E0),S2):=by
    unfold aU;rw[call2 (x:=.lst k) (y:=.int 7) rfl rfl];exact e2
   exact(aQ (cF hf rfl)).trans e3) (k2.trans k3) kR
  obtain⟨zs,C,v,l,k5,l5⟩:=uW (n:=E0.length) R.st (by omega)
  obtain⟨U,S6,F,L,a,q⟩:=zF k5.st l wT;obtain⟨Z,J,H,b⟩:=pU (c:=aA eA (ae (mV 4) (ae (aU (aA bY (ae (mV 0) (ae (aR bz (mV 4) (mK (.int 0))) ao)))) ao)) (eE k [some (.int j),none,some (aH E0.length T),none,none,none])) (d:=aH E0.length U) R.st (by
   have hf:aU (aA bY (ae (mV 0) (ae (aR bz (mV 4) (mK (.int 0))) ao))) (eE k [some (.int j),none,some (aH E0.length T),none,none,none]) P=some (.ok (tupI zs),C):=by
    unfold aU;rw[call2 (x:=.lst k) (y:=.int E0.length) rfl rfl];exact v
   exact(aQ (cF (x:=aH E0.length T) rfl (cF hf rfl))).trans F) (k5.trans q) kR
  have W:=(k1.trans R).trans H;have G:sM (eN si (mV 2) (mK (.int 3))) (eN kX (aR bz (mV 4) (mK (.int 0))) (mK (.int 2))) (eE k [some (.int j),none,some (aH E0.length U),none,none,none])=pure (decide (j=3)||decide ((E0.length:Int)<2)):=or_eq (cY (x:=.int j) (y:=.int 3) rfl rfl JY) (cY (x:=.int E0.length) (y:=.int 2) rfl rfl rfl);have s2:∀ A:cW,iw (eN kX (mV 2) (mK (.int 3))) A d4 (eE k [some (.int j),none,none,none,none,none]) S1=some (.ok (.nx (eE k [some (.int j),none,none,none,none,none])),S1):=fun A=>Ly ((bX X).trans (if_neg (by rw[Lq];exact hj))) S1
  by_cases hq:(decide (j=3)||decide ((E0.length:Int)<2))=true
  ·refine⟨E0.length,U,Z,(aM (bK Q)).trans ((aM (s2 _)).trans ((aM (bK K)).trans ((aM (bK J)).trans (j7 (Ly ((bX G).trans (if_pos hq)) Z))))),by omega,L,W⟩
  ·have u:2<=E0.length:=by
    rw[Bool.or_eq_true,Lq,Lq]at hq;omega
   obtain⟨E,O,z,r,s⟩:=DY (j:=j) (x3:=none) (x5:=none) (x6:=none) (x7:=none) H.st u Y L;exact⟨E0.length,E,O,(aM (bK Q)).trans ((aM (s2 _)).trans ((aM (bK K)).trans ((aM (bK J)).trans ((aM (Ly ((bX G).trans (if_neg hq)) Z)).trans z)))),by omega,r,W.trans s⟩
def m_find:cW:=aF (iw (fB (bV (Bs (mV 1)))) (bP (mK .non)) (d4)) (bP (aU (eG (qo (mK (.int 13))) (gN 0) dQ dR [none,some 3])))
def iN:cW:=aF (bp 3 (aU (bH (ae (eO (mV 1) "NoWeb") (ae (eO (mV 1) "NoPlace") (ae (eO (mV 1) "NoPlaces") (ao))))))) (aF (bp 3 (aU (aR bO (mV 3) (aU (bH (ae (eO (mV 1) "NoSharing") (ae (eO (mV 1) "NoRoot") (ae (eO (mV 1) "NoNumber") (ao))))))))) (aF (bp 3 (aU (aR bO (mV 3) (aU (bH (ae (eO (mV 1) "NotJoined") (ae (eO (mV 1) "NoTie") (ae (eO (mV 1) "NoText") (ao))))))))) (aF (bp 3 (aU (aR bO (mV 3) (aU (bH (ae (eO (mV 1) "NoLine") (ae (eO (mV 1) "NoDeed") (ae (eO (mV 1) "TooGreat") (ao))))))))) (aF (bp 3 (aU (aR bO (mV 3) (aU (bH (ae (eO (mV 1) "NoMap") (ao))))))) m_find))))
theorem B8(f:D)(c:M D):fJ f c=aF (bp 1 (mK .non)) (aF (uH 0 2 1 f c) iN):=rfl
theorem zI(f g x:D):(iN [some f,some x,none,none]>>=outD)=(iN [some g,some x,none,none]>>=outD):=by
 unfold iN m_find;simp only[aF,bp,qV,iw,bP,d4,mV,mK,bH,aR,wb,eO,Bs,Ko,fB,bV,eN,ae,ao,aA,cL,eG,aU,qo,yC,cM,ay,xO,Eu,Ew,Ey,Ez,List.set_cons_succ,List.set_cons_zero,outD,jD,List.map_cons,List.map_nil,Option.bind,List.getElem?_cons_succ,List.getElem?_cons_zero,Option.join]
theorem B9(f:D)(c:M D):bf f c []=pT c (fun x=>iN [some f,some x,none,none]>>=outD):=by
 funext S;unfold bf nI;rw[if_pos (show[f].length=1 from rfl)];show((fJ f c [some f,none,none,none])>>=outD) S=_;rw[B8,a8 (ρ':=[some f,some .non,none,none]) rfl];have Z:uH 0 2 1 f c [some f,some .non,none,none]=Bl 2 1 c [some f,some .non,none,none]:=by
  unfold uH;exact if_pos rfl
 show((uH 0 2 1 f c [some f,some .non,none,none]>>=fun o=>yC o iN)>>=outD) S=_;rw[Z,cM];show M.bnd (Bl 2 1 c [some f,some .non,none,none]) _ S=_;unfold M.bnd Bl pT;cases h:c S with
 |none=>rfl
 | some p=>
  obtain⟨r,S1⟩:=p;cases r with
  |ok a=>rfl
  | ex x=>
   cases x with
   |exc n ds=>
    dsimp only;by_cases hn:n∈aV
    ·rw[if_pos hn,if_pos hn];rfl
    ·rw[if_neg hn,if_neg hn]
   |_=>rfl
theorem cz:∀ f c es,bf f c es=aY c es:=by
 intro f c es;unfold aY;cases es with
 |nil=>
  rw[B9,B9];congr 1;funext x;exact zI _ _ x
 |cons e es=>
  unfold bf nI;rw[if_neg (by simp),if_neg (by simp)]
section
variable {f:D}{n:Str}{ds:List D}{z:Option D}{bs:List Bool}
theorem nW(Z:n∈aV)(a:Str):eO (mV 1) a [some f,some (.exc n ds),none,z]=pure (.bl (bh n a)):=B2 (ds:=ds) (g:=fun n=>bh n a) Z
theorem three(Z:n∈aV)(a b c:Str):aU (bH (ae (eO (mV 1) a) (ae (eO (mV 1) b) (ae (eO (mV 1) c) ao)))) [some f,some (.exc n ds),none,z]=pure (.fz ([bh n a,bh n b,bh n c].map D.bl)):=by
 have h:=bZ (nW (f:=f) (ds:=ds) (z:=z) Z a) (bZ (nW (f:=f) (ds:=ds) (z:=z) Z b) (bZ (nW (f:=f) (ds:=ds) (z:=z) Z c) (es:=ao) rfl));show jm (ae _ _ _>>=bM)=_;rw[h,ay];exact dC (us:=[.bl (bh n a),.bl (bh n b),.bl (bh n c)]) rfl JU
theorem tw{e:TM}{Z:List Bool}(h:e [some f,some (.exc n ds),none,some (.fz (bs.map D.bl))]=pure (.fz (Z.map D.bl)))(Y:bs.length+Z.length<=100):bp 3 (aU (aR bO (mV 3) e)) [some f,some (.exc n ds),none,some (.fz (bs.map D.bl))]=pure (.nx [some f,some (.exc n ds),none,some (.fz ((bs++Z).map D.bl))]):=by
 refine gj (x:=.fz ((bs++Z).map D.bl)) ?_;show jm (aR bO (mV 3) e _)=_;rw[b7 (x:=.fz (bs.map D.bl)) rfl h];show jm (bM (bs.map D.bl++Z.map D.bl))=_;rw[<-Lu];exact dC (mE _) (by rw[Kx,KD];unfold lim;omega)
theorem find_eq(S:n∈aV)(Q:bs.length=13):m_find [some f,some (.exc n ds),none,some (.fz (bs.map D.bl))]=pure (.ret (.fz ((aX 0 13).filter (G8 bs)))):=by
 have Y:iw (fB (bV (Bs (mV 1)))) (bP (mK .non)) d4 [some f,some (.exc n ds),none,some (.fz (bs.map D.bl))]=pure (.nx [some f,some (.exc n ds),none,some (.fz (bs.map D.bl))]):=by
  have:fB (bV (Bs (mV 1))) [some f,some (.exc n ds),none,some (.fz (bs.map D.bl))]=pure false:=by
   show((uE (fun _=>true) (.exc n ds)>>=kz)>>=_)=_;rw[B2 S];rfl
  exact(bX this).trans (if_neg (by decide))
 have U:qo (mK (.int 13)) [some f,some (.exc n ds),none,some (.fz (bs.map D.bl))]=pure ⟨aX 0 13,.none⟩:=(mD (x:=.int 13) rfl).trans (wA (by omega))
 have Z:c9 0 (((aX 0 13).filter (G8 bs)).map id)=true:=by
  rw[List.map_id];have:∀ l:List Nat,c9 0 ((l.map fun i:Nat=>D.int (0+(i:Int))).filter (G8 bs))=true:=fun l=>by
   induction l with
   |nil=>rfl
   |cons x l ih=>
    rw[K3,List.filter_cons];split
    ·unfold c9;rw[ih];unfold gr;rfl
    ·exact ih
  exact this _
 have X:=ig (g:=gN 0) (t:=dQ) (m:=dR) (js:=[none,some 3]) (fun ρ=>∃ x,ρ=[x,some (.fz (bs.map D.bl))]) (G8 bs) id U (by unfold aX lim;rw[Kx,Lp];omega) ⟨none,rfl⟩
  (fun d hd ρ ⟨x,hρ⟩=>by
   subst hρ;obtain⟨k,W,rfl⟩:=K4.mp hd;have W:k<13:=KS.mp W;refine⟨_,rfl,⟨_,rfl⟩,?_,fun _=>rfl⟩;have e:jL (bs.map D.bl) (0+(k:Int))=some (.bl (bs.getD k false)):=by
    rw[Mo];unfold jL yt;rw[Kx];have Y:¬ ((k:Int)<0):=by omega
    have T:(k:Int)<bs.length:=by omega
    have R:k<bs.length:=by omega
    simp[Y,T,R]
   refine i3 ((b7 (x:=.fz (bs.map D.bl)) (y:=.int (0+(k:Int))) rfl rfl).trans ?_);show(match jL (bs.map D.bl) (0+(k:Int))with|some d=>(pure d:M D)|none=>M.fail)=_
   rw[e];show pure (D.bl (bs.getD k false))=pure (D.bl (bs.getD (0+(k:Int)).toNat false));rw[Mo,Lo]) Z
 rw[List.map_id]at X;unfold m_find;exact(a8 Y).trans (fh X)
def marks(n:Str):List Bool:=[bh n "NoWeb",bh n "NoPlace",bh n "NoPlaces",bh n "NoSharing",bh n "NoRoot",bh n "NoNumber",bh n "NotJoined",bh n "NoTie",bh n "NoText",bh n "NoLine",bh n "NoDeed",bh n "TooGreat",bh n "NoMap"]
theorem rest_eq(Z:n∈aV):iN [some f,some (.exc n ds),none,none]=pure (.ret (.fz ((aX 0 13).filter (G8 (marks n))))):=by
 have X:=gj (i:=3) (three (f:=f) (ds:=ds) (z:=none) Z "NoWeb" "NoPlace" "NoPlaces");have Y:aU (bH (ae (eO (mV 1) "NoMap") ao)) [some f,some (.exc n ds),none,some (.fz (([bh n "NoWeb",bh n "NoPlace",bh n "NoPlaces"]++[bh n "NoSharing",bh n "NoRoot",bh n "NoNumber"]++[bh n "NotJoined",bh n "NoTie",bh n "NoText"]++[bh n "NoLine",bh n "NoDeed",bh n "TooGreat"]).map D.bl))]=pure (.fz ([bh n "NoMap"].map D.bl)):=by
  show jm (ae _ _ _>>=bM)=_;rw[bZ (nW Z "NoMap") (es:=ao) rfl,ay];exact dC (us:=[.bl (bh n "NoMap")]) rfl (by show 1<=lim;unfold lim;omega)
 unfold iN;exact(a8 X).trans ((a8 (tw (bs:=[bh n "NoWeb",bh n "NoPlace",bh n "NoPlaces"]) (three Z "NoSharing" "NoRoot" "NoNumber") (by decide:3+3<=100))).trans ((a8 (tw (bs:=[bh n "NoWeb",bh n "NoPlace",bh n "NoPlaces"]++[bh n "NoSharing",bh n "NoRoot",bh n "NoNumber"]) (three Z "NotJoined" "NoTie" "NoText") (by decide:6+3<=100))).trans ((a8 (tw (bs:=[bh n "NoWeb",bh n "NoPlace",bh n "NoPlaces"]++[bh n "NoSharing",bh n "NoRoot",bh n "NoNumber"]++[bh n "NotJoined",bh n "NoTie",bh n "NoText"]) (three Z "NoLine" "NoDeed" "TooGreat") (by decide:9+3<=100))).trans ((a8 (tw (bs:=[bh n "NoWeb",bh n "NoPlace",bh n "NoPlaces"]++[bh n "NoSharing",bh n "NoRoot",bh n "NoNumber"]++[bh n "NotJoined",bh n "NoTie",bh n "NoText"]++[bh n "NoLine",bh n "NoDeed",bh n "TooGreat"]) Y (by decide:12+1<=100))).trans (find_eq (bs:=marks n) Z rfl)))))
theorem rF(Y:n∈aV)(Z:(aX 0 13).filter (G8 (marks n))=us):aY (M.raise (.exc n ds)) []=pure (.fz us):=by
 unfold aY;rw[B9];have:pT (M.raise (.exc n ds)) (fun x=>iN [some (.fn 0 0 "" [] []),some x,none,none]>>=outD)=(iN [some (.fn 0 0 "" [] []),some (.exc n ds),none,none]>>=outD):=by
  funext S;show(if n∈aV then _ else none)=_;rw[if_pos Y]
 rw[this,rest_eq Y,Z];rfl
end
theorem DZ:aY (M.raise (.exc "NoWeb" [])) []=pure (.fz [.int 0]):=rF (by decide) (by rfl)
theorem zJ:aY (M.raise (great L)) []=pure (.fz [.int 11]):=rF (n:="TooGreat") (by decide) (by rfl)
def tx(a b:Nat):List D:=[.non,.int 0,.tup [],.tup [.int 15,.tup []],.tup [.int (-1),.tup []],.tup [.bl true,.tup []],.tup [.int 2,.lst a],.lst b,.tup [.int 2,.tup [.tup [.int 1,.int 0]]],.tup [.int 2,.tup [.tup [.int 0,.int 0]]]]
def tD:List D:=[.tup [.int 3,.tup [.tup [.int 0,.int 2],.tup [.int 0,.int 1]]],.tup [.int 2,.tup [.tup [.int 0,.int 1],.tup [.int 0,.int 1]]],.tup [.int 2,.tup [.tup [.int 0,.int 1,.int 1]]],.tup [.int 2,.tup [.tup [.int 0,.bl true]]],.tup [.int 2]]
def wJ:List D:=[.tup [.int 2,.tup [.tup [.int 0,.int 2]]],.str "2:",.emp]
def Ca(c:Nat):List D:=[.tup [.int 2,.tup [.lst c]],.tup [.int 2,.tup [],.tup []],.tup [.int 2,.non],.tup [.str "2",.tup []]]
abbrev zK(a b c:Nat):List D:=tx a b++tD++wJ++Ca c
theorem GS(T:n<=a)(N:n<=b)(W:n<=c)(Y:S[a]? =some [])(X:S[b]? =some [.int 2,.tup []])(K:S[c]? =some [.int 0,.int 1]):∀ d∈zK a b c,∃ u,iQ n (wq S n 60) d=some u/\Good u/\iM u=false:=by
 have H:=pV (f:=59) T Y rfl;have L:=pV (f:=59) N X rfl;have P:=pV (f:=59) W K rfl;have I:∀ d,gr 0 d=true->B0 d=true->iM d=false->∃ u,iQ n (wq S n 60) d=some u/\Good u/\iM u=false:=fun d O U J=>⟨d,sS d (xK (K5 _) d O),lR U,J⟩;have Q:∃ u,iQ n (wq S n 60) (.tup [.int 2,.lst a])=some u/\Good u/\iM u=false:=⟨.tup [.int 2,.fz []],by unfold iQ gu gu gu;rw[H];rfl,lR rfl,rfl⟩
 have R:∃ u,iQ n (wq S n 60) (.lst b)=some u/\Good u/\iM u=false:=⟨_,L,lR rfl,rfl⟩;have Z:∃ u,iQ n (wq S n 60) (.tup [.int 2,.tup [.lst c]])=some u/\Good u/\iM u=false:=⟨.tup [.int 2,.tup [.fz [.int 0,.int 1]]],by
  have:iQ n (wq S n 60) (.tup [.lst c])=some (.tup [.fz [.int 0,.int 1]]):=by unfold iQ gu gu;rw[P];rfl
  unfold iQ gu gu gu;rw[this];rfl,lR rfl,rfl⟩
 intro d hd;simp only[zK,tx,tD,wJ,Ca,List.mem_append,List.mem_cons,List.not_mem_nil,or_false]at hd;rcases hd with(((rfl|rfl|rfl|rfl|rfl|rfl|rfl|rfl|rfl|rfl)|(rfl|rfl|rfl|rfl|rfl))|(rfl|rfl|rfl))|(rfl|rfl|rfl|rfl)<;>first|exact Q|exact R|exact Z|exact I _ rfl rfl rfl
def bT(S:aB):aB:=[[],[.int 2,.tup []],tx S.length (S.length+1),tD,tx S.length (S.length+1)++tD,wJ,tx S.length (S.length+1)++tD++wJ,[.int 0,.int 1],Ca (S.length+7),zK S.length (S.length+1) (S.length+7)]
theorem D0(Z:az [.lst k,.int 22] (S++bT S)=some (.ok (.int j),S'))(Y:S'[S.length+9]? =some (zK S.length (S.length+1) (S.length+7)))(X:jL (zK S.length (S.length+1) (S.length+7)) j=some d):
  fF [some (.lst k),none] S=some (.ok (.ret d),S'):=by
 unfold fF;refine(aM (ρ':=[some (.lst k),some (.lst (S.length+2))]) (S1:=S++(bT S).take 3) (bK (x:=.lst (S.length+2)) ?_)).trans ((aM (ρ':=[some (.lst k),some (.lst (S.length+4))]) (S1:=S++(bT S).take 5) (bK (x:=.lst (S.length+4)) ?_)).trans ((aM (ρ':=[some (.lst k),some (.lst (S.length+6))]) (S1:=S++(bT S).take 7) (bK (x:=.lst (S.length+6)) ?_)).trans ((aM (ρ':=[some (.lst k),some (.lst (S.length+9))]) (S1:=S++bT S) (bK (x:=.lst (S.length+9)) ?_)).trans (fM ?_))))
 ·refine(j6 (ys:=tx S.length (S++[[]]).length) (S1:=S++[[]]++[[.int 2,.tup []]]) rfl (by show 10<=lim;unfold lim;omega)).trans ?_
  rw[show(S++([[]]:aB)).length=S.length+1 from KD,K9,KD,K9];rfl
 ·refine(i4 (x:=.lst (S.length+2)) rfl (j6 (ys:=tD) (S1:=S++(bT S).take 3) rfl (by show 5<=lim;unfold lim;omega))).trans ?_
  rw[K9,KD];refine(sX (xs:=tx S.length (S.length+1)) (ys:=tD) (nz 2) (nz 3) (by show 15<=lim;unfold lim;omega)).trans ?_
  rw[K9,KD];rfl
 ·refine(i4 (x:=.lst (S.length+4)) rfl (j6 (ys:=wJ) (S1:=S++(bT S).take 5) rfl (by show 3<=lim;unfold lim;omega))).trans ?_
  rw[K9,KD];refine(sX (xs:=tx S.length (S.length+1)++tD) (ys:=wJ) (nz 4) (nz 5) (by show 18<=lim;unfold lim;omega)).trans ?_
  rw[K9,KD];rfl
 ·refine(i4 (x:=.lst (S.length+6)) rfl (j6 (ys:=Ca (S++(bT S).take 7).length) (S1:=S++(bT S).take 7++[[.int 0,.int 1]]) rfl (by show 4<=lim;unfold lim;omega))).trans ?_
  rw[show(S++(bT S).take 7).length=S.length+7 from KD,K9,K9,KD];refine(sX (xs:=tx S.length (S.length+1)++tD++wJ) (ys:=Ca (S.length+7)) (nz 6) (nz 8) (by show 22<=lim;unfold lim;omega)).trans ?_
  rw[KD];exact NF (fun x=>some (Res.ok (D.lst (S.length+9)),x)) (K9 _ _ _)
 ·refine(i4 (x:=.lst (S.length+9)) (y:=.int j) (S2:=S') rfl ?_).trans (BV Y X);exact Z
theorem GT(hs:d7 S k):∃ d S1,jm (dh [.lst k]) S=some (.ok d,S1)/\Good d/\iM d=false/\Kp k S S1/\S1.length=S.length:=by
 obtain⟨_,Y,T,j,rfl,W,U,Z⟩:=xU (Q:=fun d Y=>∃ j,d= .int j/\0<=j/\j<22/\Kp k (S++bT S) Y) hs.grow (many:=22) (by decide) (by decide) fun j Y a b _ X=>⟨j,rfl,a,b,X⟩
 have N:=hs.lt;have gt:∀ i us,(S++bT S)[S.length+i]? =some us->Y[S.length+i]? =some us:=fun i us h=>(Z.oth (S.length+i) (KC.mp h).1 (by omega)).trans h
 obtain⟨d,O,hd⟩:=EB (xs:=zK S.length (S.length+1) (S.length+7)) W U;have X:Kp k S Y:=(Kp.grow hs _).trans Z;obtain⟨u,P,R,hw⟩:=GS (n:=S.length) (a:=S.length) (b:=S.length+1) (c:=S.length+7) (S:=Y) (Kz _) (MG _ _) (MG _ _) (gt 0 _ (nz 0)) (gt 1 _ (nz 1)) (gt 7 _ (nz 7)) d hd;refine⟨u,_,mB (fi (D0 T (gt 9 _ (nz 9)) O) rfl) (nS X) (.inl ?_) X.len P,R,hw,xW hs X⟩;have:=Z.len;rw[KD,show(bT S).length=10 from rfl]at this;omega
theorem D1{xs:List D}(Q:xs.length<=1000)(h:∀ x∈xs,bN k [x,x]=pure (.bl true)):bN (k+1) [.fz xs,.fz xs]=pure (.bl true):=by
 have em:((((xs.zip xs).map fun p:D×D=>D.tup [p.1,p.2]).filter fun _=>true).map fun _=>D.bl true)=(xs.map fun _=>true).map D.bl:=by
  rw[fK,Ll,Ll];refine OC (by simp) fun i P R=>by simp
 have Y:=ig (mi:=rf (mV 0) (mV 1)) (g:=fS 2 (a9 (gN 0) (a9 (gN 1) eF))) (t:=fG (bN k)) (m:=fH (bN k)) (js:=[none,none]) (ρ:=[some (.fz xs),some (.fz xs)])
  (its:=(xs.zip xs).map fun p:D×D=>D.tup [p.1,p.2]) (fun ρ=>∃ x y,ρ=[x,y]) (fun _=>true) (fun _=>.bl true) rfl (by rw[Kx,OH];unfold lim;omega) ⟨none,none,rfl⟩
  (fun d hd ρ ⟨x,y,hρ⟩=>by
   subst hρ;obtain⟨z,S,rfl⟩:=pM hd;exact⟨_,rfl,⟨_,_,rfl⟩,rfl,fun _=>ni ((call2 rfl rfl).trans (h z S))⟩) (by rw[em];exact mE _)
 rw[em]at Y;have Z:(xs.map fun _=>true).all id=true:=by rw[N6];exact Lf.mpr fun _ _=>rfl
 have hlen:∀ j,j<2->cL cZ (mV j) [some (.fz xs),some (.fz xs)]=pure (.int xs.length):=fun j U=>by
  match j,U with
  |0,_=>rfl
  |1,_=>rfl
 refine fL (o:=.ret (.bl true)) ?_ rfl;show cU _ [some (.fz xs),some (.fz xs)]=_;unfold cU;refine j5 ?_;refine(bX (b:=true) (i3 rfl)).trans ?_;rw[if_pos rfl];have X:∀ T,eN ku (gD (mV 0) T) (gD (mV 1) T) [some (.fz xs),some (.fz xs)]=pure false:=fun T=>cY (x:=.bl (ij "list" T)) (y:=.bl (ij "list" T)) rfl rfl JV;have W:sM (eN ku (gD (mV 0) "tuple") (gD (mV 1) "tuple")) (eN ku (gD (mV 0) "list") (gD (mV 1) "list")) [some (.fz xs),some (.fz xs)]=pure false:=or_eq (X "tuple") (X "list");rw[a8 ((bX W).trans (if_neg (by decide))),a8 ((bX (cY (hlen 0 (by decide)) (hlen 1 (by decide)) J8)).trans (if_neg (by decide)))]
 refine fh ((eT Y).trans (sW.trans ?_));rw[Z]
def lU(fv:D)(cc:M D):cW:=aF (iw (sM (eN (HW id) (mV 3) (mK .non)) (eN ku (aU (lN 0 fv (ao) cc aY)) (aU (bH (ae (mK (.int 11)) (ao)))))) (bP (mK (.bl false))) (d4)) (bP (aU (aA cw (ae (aU (bH (ae (jW false (mV 3)) (ae (jW true (mV 3)) (ao))))) (ae (aU (bH (ae (mV 1) (ae (mV 2) (ao))))) (ao))))))
theorem D3(f:D)(c:M D):eB f c=aF (bp 3 (mK .non)) (aF (m7 "TooGreat" 0 4 3 f c) (lU f c)):=rfl
theorem xY{R:M D->List D->M D}:lN 0 f ao c R (some f::r)=R c []:=by
 unfold lN;rw[if_pos (show(some f::r:aO)[0]? =some (some f)from rfl)];rfl
theorem Cb(f g:D)(c:M D)(a b x:D):(lU f c [some f,some a,some b,some x,none]>>=outD)=(lU g c [some g,some a,some b,some x,none]>>=outD):=by
 unfold lU;simp only[aF,iw,bP,d4,mV,mK,bH,aR,aA,cL,aU,jW,sM,eN,ae,ao,yC,cM,ay,xO,Eu,Ew,Ey,Ez,outD,xY]
def wK(c:M D)(k:D->M D):M D:=fun S=>match c S with
 |some (.ok _,S')=>k .non S'
 |some (.ex (.exc n ds),S')=>if n∈aV/\bh n "TooGreat"=true then k (.exc n ds) S' else none
 |_=>none
theorem Cc(f:D)(c:M D)(a b:D):br f c [a,b]=wK c (fun x=>lU f c [some f,some a,some b,some x,none]>>=outD):=by
 funext S;unfold br nI;rw[if_pos (show[f,a,b].length=3 from rfl)];show((eB f c [some f,some a,some b,none,none])>>=outD) S=_;rw[D3,a8 (ρ':=[some f,some a,some b,some .non,none]) rfl];have Z:m7 "TooGreat" 0 4 3 f c [some f,some a,some b,some .non,none]=BP "TooGreat" 4 3 c [some f,some a,some b,some .non,none]:=by
  unfold m7;exact if_pos rfl
 show((m7 "TooGreat" 0 4 3 f c [some f,some a,some b,some .non,none]>>=fun o=>yC o (lU f c))>>=outD) S=_;rw[Z,cM];show M.bnd (BP "TooGreat" 4 3 c [some f,some a,some b,some .non,none]) _ S=_;unfold M.bnd BP wK;cases h:c S with
 |none=>rfl
 | some p=>
  obtain⟨r,S1⟩:=p;cases r with
  |ok a=>rfl
  | ex x=>
   cases x with
   |exc n ds=>
    dsimp only;by_cases hn:n∈aV/\bh n "TooGreat"=true
    ·rw[if_pos hn,if_pos hn];rfl
    ·rw[if_neg hn,if_neg hn]
   |_=>rfl
theorem dU:∀ f c es,br f c es=bS c es:=by
 intro f c es;unfold bS
 match es with
 |[a,b]=>
  rw[Cc,Cc];congr 1;funext x;exact Cb _ _ c a b x
 |[]|[_]|_::_::_::_=>
  unfold br nI;rw[if_neg (by simp),if_neg (by simp)]
theorem D4:bS (M.raise (great L)) [.int L,.int 14]=pure (.bl true):=by
 unfold bS;rw[Cc];have h0:wK (M.raise (great L)) (fun x=>lU (.fn 0 0 "" [] []) (M.raise (great L)) [some (.fn 0 0 "" [] []),some (.int L),some (.int 14),some x,none]>>=outD)=(lU (.fn 0 0 "" [] []) (M.raise (great L)) [some (.fn 0 0 "" [] []),some (.int L),some (.int 14),some (great L),none]>>=outD):=by
  funext S;show(if (("TooGreat":Str)∈aV/\bh "TooGreat" "TooGreat"=true)then _ else none)=_;rw[if_pos ⟨by decide,by decide⟩];rfl
 rw[h0];have T:aU (lN 0 (.fn 0 0 "" [] []) ao (M.raise (great L)) aY) [some (.fn 0 0 "" [] []),some (.int L),some (.int 14),some (great L),none]=pure (.fz [.int 11]):=ni (xY.trans zJ);have X:sM (eN (HW id) (mV 3) (mK .non)) (eN ku (aU (lN 0 (.fn 0 0 "" [] []) ao (M.raise (great L)) aY)) (aU (bH (ae (mK (.int 11)) ao)))) [some (.fn 0 0 "" [] []),some (.int L),some (.int 14),some (great L),none]=pure false:=or_eq (b:=false) (cY (x:=great L) (y:=.non) rfl rfl rfl) (cY T wD GF);have Z:∀ b,jW b (mV 3) [some (.fn 0 0 "" [] []),some (.int L),some (.int 14),some (great L),none]=pure (if b then .int 14 else .int L):=fun b=>by
  show xI b (great L)=_;unfold great xI;exact if_pos (by decide)
 have U:aU (bH (ae (jW false (mV 3)) (ae (jW true (mV 3)) ao))) [some (.fn 0 0 "" [] []),some (.int L),some (.int 14),some (great L),none]=pure (.fz [.int L,.int 14]):=by
  show jm (ae _ _ _>>=bM)=_;rw[bZ (Z false) (bZ (Z true) (es:=ao) rfl),ay];exact dC (us:=[.int L,.int 14]) rfl mC
 have W:aU (bH (ae (mV 1) (ae (mV 2) ao))) [some (.fn 0 0 "" [] []),some (.int L),some (.int 14),some (great L),none]=pure (.fz [.int L,.int 14]):=dC (us:=[.int L,.int 14]) rfl mC;have hs:cw [.fz [.int L,.int 14],.fz [.int L,.int 14]]=pure (.bl true):=D1 (k:=5) (by decide:2<=1000) fun x Y=>by
  simp only[List.mem_cons,List.not_mem_nil,or_false]at Y;rcases Y with rfl|rfl<;>exact same_int
 unfold lU;rw[a8 ((bX X).trans (if_neg (by decide))),fh (ni ((call2 U W).trans hs))];rfl
def mQ(wh:Bool)(n:Nat)(E:List (List Int))(a b:Nat):Bool:=
 if b<n then wh && decide ([(a:Int),(b:Int)]∈E)else if a<n then kU a (E.getD (b - n) [])else wh && (kU ((E.getD (a - n) []).getD 0 0) (E.getD (b - n) [])||kU ((E.getD (a - n) []).getD 1 0) (E.getD (b - n) []))
def u6(wh:Bool)(n:Nat)(E:List (List Int))(N a:Nat):List (List Int):=((List.range' (a+1) (N - (a+1))).filter (mQ wh n E a)).map fun b:Nat=>[(a:Int),(b:Int)]
def mN(wh:Bool)(n:Nat)(E:List (List Int)):List (List Int):=(List.range (n+E.length)).flatMap (u6 wh n E (n+E.length))
def toN(n:Nat)(E:List (List Int)):List (List Int):=(List.range E.length).flatMap fun k=>(E.getD k []).map fun p=>[p,((n+k:Nat):Int)]
def rG(E:List (List Int))(i j:Nat):Bool:=(E.getD i []).any fun p=>kU p (E.getD j [])
def zT(n:Nat)(E:List (List Int)):List (List Int):=((bC E.length).filter fun t=>rG E (t.getD 0 0).toNat (t.getD 1 0).toNat).map fun t=>[(n:Int)+t.getD 0 0,(n:Int)+t.getD 1 0]
theorem xZ(wh:Bool)(n:Nat)(E:List (List Int)):(mN wh n E).Sublist (bC (n+E.length)):=by
 have:∀ l:List Nat,(l.flatMap (u6 wh n E (n+E.length))).Sublist (l.flatMap (i5 (n+E.length))):=fun l=>by
  induction l with
  |nil=>exact .slnil
  |cons x l ih=>
   rw[LD,LD];refine List.Sublist.append ?_ ih;unfold u6 i5;exact List.Sublist.map _ NW
 exact this _
theorem Cd(Z:n<=14):(bC n).Pairwise (fun a b=>HT.lexLt a b=true):=by
 have:∀ m,m<15->(bC m).Pairwise (fun a b=>HT.lexLt a b=true):=by decide+kernel
 exact this n (by omega)
theorem tE{l:List (List Int)}(h:l.Pairwise fun a b=>HT.lexLt a b=true):l.Nodup:=h.imp fun{a b} h e=>by subst e;rw[jg]at h;cases h
theorem ya{L F:List (List Int)}(X:L.Nodup)(Z:F.Pairwise fun a b=>HT.lexLt a b=true)(Y:∀ t,t∈L↔t∈F):cK L=F:=
 ki ((bF L).trans ((NZ X (tE Z)).mpr Y)) (cR L) (Z.imp fun z=>oW z)
section
variable {n:Nat}{E:List (List Int)}{wh:Bool}{t:List Int}
theorem tF:t∈mN wh n E↔∃ a b:Nat,a<b/\b<n+E.length/\mQ wh n E a b=true/\t=[(a:Int),(b:Int)]:=by
 unfold mN u6;constructor
 ·intro h;obtain⟨a,X,h⟩:=Mg.mp h;obtain⟨b,Y,rfl⟩:=K4.mp h;obtain⟨Y,Z⟩:=L9.mp Y;have:=LR.mp Y;have:=KS.mp X;exact⟨a,b,by omega,by omega,Z,rfl⟩
 ·rintro⟨a,b,h1,h2,Z,rfl⟩;exact Mg.mpr ⟨a,KS.mpr (by omega),K4.mpr ⟨b,L9.mpr ⟨LR.mpr (by omega),Z⟩,rfl⟩⟩
theorem nX:t∈toN n E↔∃ k,k<E.length/\∃ p∈E.getD k [],t=[p,((n+k:Nat):Int)]:=by
 unfold toN;constructor
 ·intro h;obtain⟨k,Y,h⟩:=Mg.mp h;obtain⟨p,Z,rfl⟩:=K4.mp h;exact⟨k,KS.mp Y,p,Z,rfl⟩
 ·rintro⟨k,Y,p,Z,rfl⟩;exact Mg.mpr ⟨k,KS.mpr Y,K4.mpr ⟨p,Z,rfl⟩⟩
theorem iG:t∈bC m↔∃ a b:Nat,a<b/\b<m/\t=[(a:Int),(b:Int)]:=by
 unfold bC i5;constructor
 ·intro h;obtain⟨a,Z,h⟩:=Mg.mp h;obtain⟨b,Y,rfl⟩:=K4.mp h;have:=LR.mp Y;have:=KS.mp Z;exact⟨a,b,by omega,by omega,rfl⟩
 ·rintro⟨a,b,h1,h2,rfl⟩;exact Mg.mpr ⟨a,KS.mpr (by omega),K4.mpr ⟨b,LR.mpr (by omega),rfl⟩⟩
theorem nY:t∈zT n E↔∃ i j:Nat,i<j/\j<E.length/\rG E i j=true/\t=[((n+i:Nat):Int),((n+j:Nat):Int)]:=by
 unfold zT;constructor
 ·intro h;obtain⟨s,hs,rfl⟩:=K4.mp h;obtain⟨hs,Z⟩:=L9.mp hs;obtain⟨a,b,X,Y,rfl⟩:=iG.mp hs;exact⟨a,b,X,Y,Z,rfl⟩
 ·rintro⟨a,b,X,Y,Z,rfl⟩;exact K4.mpr ⟨[(a:Int),(b:Int)],L9.mpr ⟨iG.mpr ⟨a,b,X,Y,rfl⟩,Z⟩,rfl⟩
theorem tG:kU p t=true↔p∈t:=by
 unfold kU;rw[List.any_eq_true];exact⟨fun⟨x,hx,e⟩=>by rw[<-eq_of_beq e];exact hx,fun h=>⟨p,h,beq_self_eq_true p⟩⟩
theorem ED(w:WebOk n E):(toN n E).Nodup:=by
 unfold toN;refine List.pairwise_flatMap.mpr ⟨fun k Y=>?_,Nf (fun{a b} ha hb hab x hx y Z e=>?_) (List.nodup_range (n:=E.length))⟩
 ·obtain⟨u,v,e,_,h,_⟩:=w.el _ (getD_in (KS.mp Y));rw[e];refine Ls.mpr ⟨fun y Z z=>?_,Ou _ _⟩;have:=Nl.mp Z;subst this;have:=(LJ z).1;omega
 ·obtain⟨p,_,rfl⟩:=K4.mp hx;obtain⟨q,_,rfl⟩:=K4.mp Z;have:=(LJ (LJ e).2).1;exact hab (by omega)
theorem ID(Z:E.length<=14):(zT n E).Nodup:=by
 unfold zT;refine List.pairwise_map.mpr (Nf (fun{s t} hs ht hne e=>hne ?_) (Mq NW (tE (Cd Z))));obtain⟨a,b,_,_,rfl⟩:=iG.mp (L9.mp hs).1;obtain⟨c,d,_,_,rfl⟩:=iG.mp (L9.mp ht).1;have e1:=LJ e;have e2:=(LJ e1.2).1;have e3:=e1.1;have X:(n:Int)+a=n+c:=e3;have Y:(n:Int)+b=n+d:=e2;have:a=c:=by omega
 have:b=d:=by omega
 subst_vars;rfl
theorem u7(w:WebOk n E)(X:n+E.length<=14):cK (toN n E)=mN false n E:=by
 refine ya (ED w) (Mq (xZ _ _ _) (Cd X)) fun t=>?_;rw[nX,tF];constructor
 ·rintro⟨k,hk,p,hp,rfl⟩;obtain⟨u,v,e,W,T,U⟩:=w.el _ (getD_in hk);have Z:=hp;rw[e]at Z;have Y:0<=p/\p<n:=by
   simp only[List.mem_cons,List.not_mem_nil,or_false]at Z;omega
  obtain⟨p,rfl⟩:=LZ Y.1;refine⟨p,n+k,by omega,by omega,?_,rfl⟩
  unfold mQ;rw[if_neg (by omega),if_pos (by omega),MD]
  exact tG.mpr hp
 ·rintro⟨a,b,h1,h2,hq,rfl⟩;unfold mQ at hq;by_cases Y:b<n
  ·rw[if_pos Y]at hq;cases hq
  ·rw[if_neg Y]at hq;by_cases ha:a<n
   ·rw[if_pos ha]at hq;refine⟨b - n,by omega,a,tG.mp hq,?_⟩
    rw[M7 (by omega)]
   ·rw[if_neg ha]at hq;cases hq
theorem Ce(w:WebOk n E)(T:n+E.length<=14):cK (E++toN n E++zT n E)=mN true n E:=by
 have W:∀ t∈toN n E,∃ p k:Nat,p<n/\t=[(p:Int),((n+k:Nat):Int)]:=fun t N=>by
  obtain⟨k,L,p,S,rfl⟩:=nX.mp N;obtain⟨u,v,e,J,H,I⟩:=w.el _ (getD_in L);rw[e]at S;have Y:0<=p/\p<n:=by
   simp only[List.mem_cons,List.not_mem_nil,or_false]at S;omega
  obtain⟨p,rfl⟩:=LZ Y.1;exact⟨p,k,by omega,rfl⟩
 refine ya (NB.mpr ⟨NB.mpr ⟨tE w.ris,ED w,fun a X b Y e=>?_⟩,ID (by omega),fun a X b Y e=>?_⟩) (Mq (xZ _ _ _) (Cd T)) fun t=>?_
 ·obtain⟨x,y,rfl,_,_,O⟩:=w.el a X;obtain⟨p,k,_,rfl⟩:=W b Y;have:=(LJ (LJ e).2).1;omega
 ·obtain⟨i,j,_,_,_,rfl⟩:=nY.mp Y;have R:∃ p y:Int,p<n/\a=[p,y]:=by
   rcases LS.mp X with h|h
   ·obtain⟨x,y,rfl,_,K,O⟩:=w.el a h;exact⟨x,y,by omega,rfl⟩
   ·obtain⟨p,k,S,rfl⟩:=W a h;exact⟨p,_,by omega,rfl⟩
  obtain⟨p,y,S,rfl⟩:=R;have:=(LJ e).1;omega
 ·have U:∀{i j:Nat},i<E.length->(rG E i j=true↔(kU ((E.getD i []).getD 0 0) (E.getD j [])||kU ((E.getD i []).getD 1 0) (E.getD j []))=true):=fun{i j} hi=>by
   obtain⟨u,v,e,_⟩:=w.el _ (getD_in hi);unfold rG;rw[e,Np,Np,List.any_nil,Bool.or_false];rfl
  rw[LS,LS,tF];constructor
  ·rintro((h|h)|h)
   ·obtain⟨x,y,rfl,x0,K,O⟩:=w.el t h;obtain⟨x,rfl⟩:=LZ x0;obtain⟨y,rfl⟩:=LZ (show 0<=y by omega)
    refine⟨x,y,by omega,by omega,?_,rfl⟩
    unfold mQ;rw[if_pos (by omega),Mn]
    exact KU h
   ·have:=(bF _).mem_iff.mpr h;rw[u7 w T]at this;obtain⟨a,b,P,Q,Z,rfl⟩:=tF.mp this;refine⟨a,b,P,Q,?_,rfl⟩;unfold mQ at Z ⊢;by_cases Y:b<n
    ·rw[if_pos Y]at Z;cases Z
    ·rw[if_neg Y]at Z ⊢;by_cases X:a<n
     ·rw[if_pos X]at Z ⊢;exact Z
     ·rw[if_neg X]at Z;cases Z
   ·obtain⟨i,j,P,Q,Z,rfl⟩:=nY.mp h;refine⟨n+i,n+j,by omega,by omega,?_,rfl⟩
    unfold mQ;rw[if_neg (by omega),if_neg (by omega),MD,MD,Mn]
    exact(U (by omega)).mp Z
  ·rintro⟨a,b,P,Q,Z,rfl⟩;unfold mQ at Z;by_cases Y:b<n
   ·rw[if_pos Y,Mn]at Z;exact .inl (.inl (Lx Z))
   ·rw[if_neg Y]at Z;by_cases X:a<n
    ·rw[if_pos X]at Z;exact .inl (.inr (nX.mpr ⟨b - n,by omega,a,tG.mp Z,by rw[M7 (by omega)]⟩))
    ·rw[if_neg X,Mn]at Z;exact .inr (nY.mpr ⟨a - n,b - n,by omega,by omega,(U (by omega)).mpr Z,by rw[M7 (by omega),M7 (by omega)]⟩)
theorem GU:(zT n E).length<=(bC E.length).length:=by
 unfold zT;rw[Kx];exact MS _ _
theorem wL(w:WebOk n E):(toN n E).length=2*E.length:=by
 have:∀ l:List Nat,(∀ k∈l,k<E.length)->(l.flatMap fun k=>(E.getD k []).map fun p=>[p,((n+k:Nat):Int)]).length=2*l.length:=fun l=>by
  induction l with
  |nil=>intro _;rfl
  |cons x l ih=>
   intro h;obtain⟨u,v,e,_⟩:=w.el _ (getD_in (h x (.head _)));rw[LD,KD,ih fun k Z=>h k (.tail _ Z),Kx,e,KY (a:=x)];show 2+_=_;omega
 unfold toN;rw[this _ fun k Z=>KS.mp Z,Lp]
theorem J1(w:WebOk n E)(X:n+E.length<=14):E.length<=9:=by
 by_cases h:n<=4
 ·have Y:E.length<=(bC n).length:=wI (tE w.ris) fun t Z=>by
   obtain⟨x,y,rfl,x0,U,W⟩:=w.el t Z;obtain⟨x,rfl⟩:=LZ x0;obtain⟨y,rfl⟩:=LZ (show 0<=y by omega)
   exact iG.mpr ⟨x,y,by omega,by omega,rfl⟩
  have:∀ m,m<5->(bC m).length<=9:=by decide+kernel
  exact KP Y (this n (by omega))
 ·omega
theorem zM(w:WebOk n E)(Z:n+E.length<=14):(E++toN n E++zT n E).length<64:=by
 have Y:=J1 w Z;have:∀ m,m<10->m+2*m+(bC m).length<64:=by decide+kernel
 have:=this _ (Nat.lt_succ_of_le Y);have:=GU (n:=n) (E:=E);rw[KD,KD,wL w];omega
end
theorem GV{e1 e2:TM}(Z:e1 ρ=pure (.bl b))(Y:e2 ρ=pure (.bl c)):JN e1 e2 ρ=pure (.bl (b||c)):=by
 show(e1 ρ>>=_)=_;rw[Z];cases b with
 |true=>rfl
 |false=>exact Y
theorem yb(s:List Int):∀ rs:List (List Int),((rs.map mG).any fun y=>PyData.eqv y (mG s))=decide (s∈rs)
 |[]=>by simp
 | r::rs=>by
  rw[K3,Np,yb s rs];have:PyData.eqv (mG r) (mG s)=decide (r=s):=by
   unfold mG PyData.eqv;exact pY r s
  rw[this,OG];simp only[Bool.or_eq_true,decide_eq_true_eq,List.mem_cons];exact or_congr ⟨Eq.symm,Eq.symm⟩ Iff.rfl
theorem D5{Z:List (List Int)}:inD (tupI s) (.tup (Z.map tupI))=pure (.bl (decide (s∈Z))):=cI fun S=>by
 unfold inD;have Y:jE S 60 (.tup (Z.map tupI))=some (.tuple (Z.map mG)):=by
  show(mapP (jE S 59) (Z.map tupI)).map PyData.tuple=_;rw[rq];rfl
 exact(xv (lQ s) Y (r:=decide (s∈Z)) (by show some (id ((Z.map mG).any fun y=>PyData.eqv y (mG s)))=_;rw[yb];rfl)).mpr ⟨rfl,rfl⟩
def wM:cW:=iw (eN kX (mV 5) (aR bz (mV 0) (mK (.int 0)))) (bp 6 (kN (mV 1) (aR inD (eM (ae (mV 4) (ae (mV 5) (ao)))) (aR bz (mV 0) (mK (.int 1)))))) (iw (eN kX (mV 4) (aR bz (mV 0) (mK (.int 0)))) (bp 6 (aR inD (mV 4) (aR bz (aR bz (mV 0) (mK (.int 1))) (aR lA (mV 5) (aR bz (mV 0) (mK (.int 0))))))) (aF (bp 7 (aR bz (aR bz (mV 0) (mK (.int 1))) (aR lA (mV 4) (aR bz (mV 0) (mK (.int 0)))))) (aF (bp 8 (aR bz (aR bz (mV 0) (mK (.int 1))) (aR lA (mV 5) (aR bz (mV 0) (mK (.int 0)))))) (bp 6 (kN (mV 1) (JN (aR inD (aR bz (mV 7) (mK (.int 0))) (mV 8)) (aR inD (aR bz (mV 7) (mK (.int 1))) (mV 8))))))))
theorem D6:dH=aF (bp 6 (mK (.bl false))) (aF wM (iw (bV (mV 6)) (qV (wb dy (mV 3) (eM (ae (mV 4) (ae (mV 5) (ao)))))) (d4))):=rfl
section
variable {S:aB}{n:Nat}{E:List (List Int)}{its:List D}{wh:Bool}{x2 x3:Option D}
theorem rowAt{r:List (Option D)}{v:TM}{j:Nat}(Y:v (some (aH n E)::r)=pure (.int j))(X:n<=j)(Z:j<n+E.length):aR bz (aR bz (mV 0) (mK (.int 1))) (aR lA v (aR bz (mV 0) (mK (.int 0)))) (some (aH n E)::r)=pure (tupI (E.getD (j - n) [])):=by
 have hs:aR lA v (aR bz (mV 0) (mK (.int 0))) (some (aH n E)::r)=pure (.int ((j - n:Nat):Int)):=by
  refine(b7 (y:=.int n) Y rfl).trans ?_;show pure (D.int ((j:Int) - n))=_;rw[show((j - n:Nat):Int)=(j:Int) - n by omega]
 exact(b7 (x:=.tup (E.map tupI)) rfl hs).trans (pX (by omega))
theorem D7(w:WebOk n E){a b:Nat}(U:a<b)(W:b<n+E.length)(x7 Y:Option D):∃ y7 y8,wM [some (aH n E),some (.bl wh),x2,x3,some (.int a),some (.int b),some (.bl false),x7,Y]=pure (.nx [some (aH n E),some (.bl wh),x2,x3,some (.int a),some (.int b),some (.bl (mQ wh n E a b)),y7,y8]):=by
 have Z:∀ z:List (Option D),eN kX (mV 5) (aR bz (mV 0) (mK (.int 0))) (some (aH n E)::some (.bl wh)::x2::x3::some (.int a)::some (.int b)::z)=pure (decide ((b:Int)<n)):=fun z=>cY (x:=.int b) (y:=.int n) rfl rfl rfl;have X:∀ z:List (Option D),eN kX (mV 4) (aR bz (mV 0) (mK (.int 0))) (some (aH n E)::some (.bl wh)::x2::x3::some (.int a)::some (.int b)::z)=pure (decide ((a:Int)<n)):=fun z=>cY (x:=.int a) (y:=.int n) rfl rfl rfl;have hand:∀{e:TM} {ρ:aO} {c:Bool},mV 1 ρ=pure (.bl wh)->e ρ=pure (.bl c)->kN (mV 1) e ρ=pure (.bl (wh && c)):=fun h k=>and_eq h (fun z=>by rw[z];exact k) fun z=>by rw[z];rfl
 unfold wM mQ;by_cases hbn:b<n
 ·refine⟨x7,Y,?_⟩;rw[if_pos hbn];refine(bX (Z _)).trans ((if_pos (KU (by omega))).trans (gj (hand rfl ((b7 (x:=tupI [(a:Int),(b:Int)]) (y:=.tup (E.map tupI)) ?_ rfl).trans D5))))
  show cf [.int a,.int b]=_;unfold cf;exact if_pos mC
 ·rw[if_neg hbn];by_cases han:a<n
  ·refine⟨x7,Y,?_⟩;rw[if_pos han];exact(bX (Z _)).trans ((if_neg (by rw[Lq];omega)).trans ((bX (X _)).trans ((if_pos (KU (by omega))).trans (gj ((b7 (x:=.int a) rfl (rowAt (j:=b) rfl (by omega) W)).trans rC)))))
  ·obtain⟨u,v,e,_⟩:=w.el _ (getD_in (show a - n<E.length by omega))
   refine⟨some (tupI (E.getD (a - n) [])),some (tupI (E.getD (b - n) [])),?_⟩;rw[if_neg han];refine(bX (Z _)).trans ((if_neg (by rw[Lq];omega)).trans ((bX (X _)).trans ((if_neg (by rw[Lq];omega)).trans ((a8 (gj (rowAt (j:=a) rfl (by omega) (by omega)))).trans ((a8 (gj (rowAt (j:=b) rfl (by omega) W))).trans (gj (hand rfl (GV ?_ ?_))))))))
   ·exact(b7 (x:=.int ((E.getD (a - n) []).getD 0 0)) (y:=tupI (E.getD (b - n) [])) (by rw[e];exact(b7 (x:=tupI [u,v]) (y:=.int 0) rfl rfl).trans rfl) rfl).trans rC
   ·exact(b7 (x:=.int ((E.getD (a - n) []).getD 1 0)) (y:=tupI (E.getD (b - n) [])) (by rw[e];exact(b7 (x:=tupI [u,v]) (y:=.int 1) rfl rfl).trans rfl) rfl).trans rC
theorem wN(w:WebOk n E):∀(post:List Nat) (acc:List (List Int)) (x5 x6 x7 x8:Option D),(∀ b∈post,a<b/\b<n+E.length)->acc.length+post.length<=500->
  ∃ y5 y6 Y X,gz ⟨its,.none⟩ (gN 5) dH (post.map fun b:Nat=>.int (b:Int)) [some (aH n E),some (.bl wh),x2,some (.lst S.length),some (.int a),x5,x6,x7,x8] (S++[acc.map tupI])=some (.ok (.nx [some (aH n E),some (.bl wh),x2,some (.lst S.length),some (.int a),y5,y6,Y,X]),S++[(acc++(post.filter (mQ wh n E a)).map fun b:Nat=>[(a:Int),(b:Int)]).map tupI])
 |[],acc,x5,x6,x7,x8,_,_=>⟨x5,x6,x7,x8,by rw[L3,gn,List.filter_nil,L3,Lg];rfl⟩
 | b::post,acc,x5,x6,x7,x8,hb,hl=>by
  rw[KY]at hl;obtain⟨L,N⟩:=hb b (.head _);obtain⟨Y,X,K⟩:=D7 (wh:=wh) (x2:=x2) (x3:=some (.lst S.length)) w L N x7 x8;have Z:∀ T,dH [some (aH n E),some (.bl wh),x2,some (.lst S.length),some (.int a),some (.int b),x6,x7,x8] T=(if mQ wh n E a b=true then qV (wb dy (mV 3) (eM (ae (mV 4) (ae (mV 5) (ao)))))else d4) [some (aH n E),some (.bl wh),x2,some (.lst S.length),some (.int a),some (.int b),some (.bl (mQ wh n E a b)),Y,X] T:=fun T=>by
   rw[D6];refine Ly ((a8 (gj (x:=.bl false) rfl)).trans ((a8 K).trans ((bX (i3 (b:=mQ wh n E a b) rfl)).trans ?_))) T;split<;>rfl
  by_cases hq:mQ wh n E a b=true
  ·obtain⟨U,R,Q,P,W⟩:=wN w (a:=a) post (acc++[[(a:Int),(b:Int)]]) (some (.int b)) (some (.bl (mQ wh n E a b))) Y X (fun c Z=>hb c (.tail _ Z)) (by rw[KD];show acc.length+1+post.length<=500;omega)
   refine⟨U,R,Q,P,?_⟩;have O:acc++((b::post).filter (mQ wh n E a)).map (fun b:Nat=>[(a:Int),(b:Int)])=(acc++[[(a:Int),(b:Int)]])++(post.filter (mQ wh n E a)).map fun b:Nat=>[(a:Int),(b:Int)]:=by
    rw[MB hq,K3,K9];rfl
   rw[O];refine(fN rfl ((Z _).trans ?_)).trans W;rw[if_pos hq];refine nj (x:=.non) ((lS (x:=.lst S.length) (y:=tupI [(a:Int),(b:Int)]) (S1:=S++[acc.map tupI]) rfl rfl (gG rfl rfl)).trans ((kS di (by rw[Kx];omega)).trans ?_))
   rw[Lu,List.set_append_right _ _ (Kz _),Nat.sub_self];rfl
  ·obtain⟨U,R,Q,P,W⟩:=wN w (a:=a) post acc (some (.int b)) (some (.bl (mQ wh n E a b))) Y X (fun c Z=>hb c (.tail _ Z)) (by omega)
   refine⟨U,R,Q,P,?_⟩;rw[MC hq];refine(fN rfl ((Z _).trans ?_)).trans W;rw[if_neg hq];rfl
theorem D8{a m:Nat}:aX ((a:Int)+1) ((m:Int) - ((a:Int)+1)).toNat=(List.range' (a+1) (m - (a+1))).map fun b:Nat=>.int (b:Int):=by
 have e:((m:Int) - ((a:Int)+1)).toNat=m - (a+1):=by omega
 rw[e];unfold aX;rw[Me,Ll];refine ME fun i _=>?_;show D.int ((a:Int)+1+(i:Int))= .int ((a+1+i:Nat):Int);congr 1
theorem D9(N a:Nat):(u6 wh n E N a).length<=N:=by
 unfold u6;rw[Kx];refine KP (MS _ _) ?_;rw[Ms];omega
theorem Cf(w:WebOk n E)(U:n+E.length<=14):∀(post:List Nat) (acc:List (List Int)) (x4 x5 x6 x7 x8:Option D),(∀ a∈post,a<n+E.length)->acc.length+post.length*14<=300->
  ∃ y4 X W Y Z,gz ⟨its,.none⟩ (gN 4) gF (post.map fun i:Nat=>.int (0+(i:Int))) [some (aH n E),some (.bl wh),some (.int (n+E.length:Nat)),some (.lst S.length),x4,x5,x6,x7,x8] (S++[acc.map tupI])=some (.ok (.nx [some (aH n E),some (.bl wh),some (.int (n+E.length:Nat)),some (.lst S.length),y4,X,W,Y,Z]),S++[(acc++post.flatMap (u6 wh n E (n+E.length))).map tupI])
 |[],acc,x4,x5,x6,x7,x8,_,_=>⟨x4,x5,x6,x7,x8,by rw[L3,gn,List.flatMap_nil,Lg];rfl⟩
 | a::post,acc,x4,x5,x6,x7,x8,ha,hl=>by
  have K:=ha a (.head _);rw[KY,Nd]at hl;have J:=D9 (wh:=wh) (n:=n) (E:=E) (n+E.length) a;obtain⟨X,W,Y,Z,e1⟩:=wN (S:=S) (wh:=wh) (x2:=some (.int (n+E.length:Nat))) (its:=(List.range' (a+1) (n+E.length - (a+1))).map fun b:Nat=>.int (b:Int)) w (a:=a) (List.range' (a+1) (n+E.length - (a+1))) acc x5 x6 x7 x8 (fun b T=>by have:=LR.mp T;omega) (by rw[Ms];omega)
  obtain⟨N,P,O,L,I,R⟩:=Cf w U post (acc++u6 wh n E (n+E.length) a) (some (.int a)) X W Y Z (fun b T=>ha b (.tail _ T)) (by rw[KD];omega)
  refine⟨N,P,O,L,I,?_⟩;rw[LD, <-K9, <-R,K3,Mo];have Q:we (aR bO (mV 4) (mK (.int 1))) (mV 2) [some (aH n E),some (.bl wh),some (.int (n+E.length:Nat)),some (.lst S.length),some (.int a),x5,x6,x7,x8]=pure ⟨(List.range' (a+1) (n+E.length - (a+1))).map fun b:Nat=>.int (b:Int),.none⟩:=by
   rw[pK (x:=.int ((a:Int)+1)) (y:=.int (n+E.length:Nat)) rfl rfl,BS (by omega),D8]
  exact fN rfl (ju Q e1)
theorem Cg(w:WebOk n E)(Z:n+E.length<=14):jm (dD [aH n E,.bl wh])=pure (aH (n+E.length) (mN wh n E)):=by
 refine Iq kR fun S=>?_;obtain⟨R,P,N,Q,O,e⟩:=Cf (S:=S) (wh:=wh) (its:=aX 0 (n+E.length)) w Z (List.range (n+E.length)) [] none none none none none (fun a W=>KS.mp W) (by rw[Lp];simp;omega)
 rw[MT]at e;have hm:gO [some (aH n E),some (.bl wh),none,none,none,none,none,none,none] S=some (.ok (.ret (aH (n+E.length) (mN wh n E))),S++[(mN wh n E).map tupI]):=by
  unfold gO;have X:aR bO (aR bz (mV 0) (mK (.int 0))) (cL cZ (aR bz (mV 0) (mK (.int 1)))) [some (aH n E),some (.bl wh),none,none,none,none,none,none,none]=pure (.int (n+E.length:Nat)):=by
   refine(b7 (x:=.int n) (y:=.int E.length) rfl ((eT (x:=.tup (E.map tupI)) rfl).trans ?_)).trans rfl;show pure (D.int (E.map tupI).length)=_;rw[Kx]
  have Y:qo (mV 2) [some (aH n E),some (.bl wh),some (.int (n+E.length:Nat)),some (.lst S.length),none,none,none,none,none]=pure ⟨aX 0 (n+E.length),.none⟩:=by
   have:=(mD (m:=mV 2) (ρ:=[some (aH n E),some (.bl wh),some (.int (n+E.length:Nat)),some (.lst S.length),none,none,none,none,none]) (x:=.int (n+E.length:Nat)) rfl).trans (wA (by omega))
   rw[Lo]at this;exact this
  have T:=(xZ wh n E).length_le;have U:=pR (n:=n+E.length) (by omega)
  refine(aM (Ly (gj X) S)).trans ((aM (bK (cV (S:=S) (us:=[]) (K5 _)))).trans ((aM (ju Y e)).trans (fM (gG (x:=.int (n+E.length:Nat)) (S1:=S++[(mN wh n E).map tupI]) rfl ((jz (x:=.lst S.length) (S1:=S++[(mN wh n E).map tupI]) rfl).trans ?_)))));show(getL S.length>>=fun xs=>cf xs) _=_;rw[aQ (dE (us:=(mN wh n E).map tupI) di)];unfold cf;rw[if_pos (by rw[Kx];unfold lim;omega)];rfl
 exact⟨_,_,fi (o:=.ret (aH (n+E.length) (mN wh n E))) hm rfl,rfl,_,rfl⟩
end
def Kc(t:List Int):D->D
 | .int p=>.bl (kU p t)
 |d=>d
theorem GW{s:List Int}(hs:s.length<=1000):gv [tupI s,tupI t]=pure (.bl (s.any fun p=>kU p t)):=by
 have Z:(s.map D.int).length<=lim:=by rw[Kx];unfold lim;omega
 have em:((s.map D.int).filter fun _=>true).map (Kc t)=(s.map fun p=>kU p t).map D.bl:=by
  rw[fK,Ll,Ll];rfl
 have h:=ig (mi:=ji (mV 0)) (g:=gN 0) (t:=ib) (m:=ic) (js:=[none,some 1]) (ρ:=[some (tupI s),some (tupI t)]) (its:=s.map D.int) (fun ρ=>∃ x,ρ=[x,some (tupI t)]) (fun _=>true) (Kc t) rfl Z ⟨none,rfl⟩ (fun d hd ρ ⟨x,hρ⟩=>by
  subst hρ;obtain⟨p,_,rfl⟩:=K4.mp hd;exact⟨_,rfl,⟨_,rfl⟩,rfl,fun _=>(b7 (x:=.int p) (y:=tupI t) rfl rfl).trans rC⟩) (by rw[em];exact mE _)
 rw[em]at h;refine fL (fh ((eT h).trans Gv)) ?_;show pure _=pure _;rw[List.any_map];rfl
def fE(n:Nat):D->List D
 | .tup [.int i,.tup ps]=>ps.map fun p=>.tup [p,.int ((n:Int)+i)]
 |_=>[]
theorem Ea(E:List (List Int)):mZ (E.map tupI)=(List.range E.length).map fun i:Nat=>.tup [.int (i:Int),tupI (E.getD i [])]:=by
 unfold mZ;refine OC (by simp) fun i X Z=>?_
 have Y:i<E.length:=by simpa using Z
 simp[List.getD_eq_getElem?_getD,Y]
theorem g0{Z X:Type}{f g:Z->List X}:∀{l:List Z},(∀ x∈l,f x=g x)->l.flatMap f=l.flatMap g
 |[],_=>rfl
 |x::l,h=>by rw[LD,LD,h x (.head _),g0 fun y Y=>h y (.tail _ Y)]
section
variable {n:Nat}{E:List (List Int)}
theorem GX:(((List.range E.length).map fun i:Nat=>D.tup [.int (i:Int),tupI (E.getD i [])]).filter fun _=>true).flatMap (fE n)=(toN n E).map tupI:=by
 rw[fK,OB];unfold toN;rw[List.map_flatMap];refine g0 fun i Z=>?_;show((E.getD i []).map D.int).map _=_;rw[Ll,Ll];rfl
theorem IE(w:WebOk n E):cm [aH n E]=pure (.fz ((toN n E).map tupI)):=by
 have T:=w.few;obtain⟨ρ',_,e⟩:=rj (its:=(List.range E.length).map fun i:Nat=>.tup [.int (i:Int),tupI (E.getD i [])]) (g:=fS 2 (a9 (gN 0) (a9 (gN 1) eF))) (t:=c8) (bd:=Dz (ji (mV 1)) (gN 2) cD bG) (fun ρ=>∃ x y z,ρ=[x,y,z,some (.int n)]) (fun _=>true) (fE n) ((List.range E.length).map fun i:Nat=>.tup [.int (i:Int),tupI (E.getD i [])]) [none,none,none,some (.int n)] ⟨_,_,_,rfl⟩ fun d hd ρ ⟨x,y,z,hρ⟩=>by
  subst hρ;obtain⟨i,Z,rfl⟩:=K4.mp hd;have Z:i<E.length:=KS.mp Z;obtain⟨u,v,W,_⟩:=w.el _ (getD_in Z);refine⟨[some (.int i),some (tupI (E.getD i [])),z,some (.int n)],rfl,rfl,fun _=>?_,fun h=>by cases h⟩
  obtain⟨U,⟨X,rfl⟩,e2⟩:=rj (its:=(E.getD i []).map D.int) (g:=gN 2) (t:=cD) (bd:=wy bG) (fun ρ=>∃ z,ρ=[some (.int i),some (tupI (E.getD i [])),z,some (.int n)]) (fun _=>true) (fun d=>[D.tup [d,.int ((n:Int)+i)]]) ((E.getD i []).map D.int) [some (.int i),some (tupI (E.getD i [])),z,some (.int n)] ⟨z,rfl⟩ fun d hd ρ ⟨z,hρ⟩=>by
   subst hρ;refine⟨_,rfl,rfl,fun _=>⟨[some (.int i),some (tupI (E.getD i [])),some d,some (.int n)],⟨some d,rfl⟩,?_⟩,fun h=>by cases h⟩
   have:bG [some (.int i),some (tupI (E.getD i [])),some d,some (.int n)]=pure (.tup [d,.int ((n:Int)+i)]):=by
    show(ae _ _ _>>=cf)=_;rw[bZ (x:=d) rfl (bZ (x:=.int ((n:Int)+i)) (ni ((b7 (x:=.int n) (y:=.int i) rfl rfl).trans rfl)) (es:=ao) rfl),ay];unfold cf;exact if_pos mC
   show(bG [some (.int i),some (tupI (E.getD i [])),some d,some (.int n)]>>=_)=_;rw[this];rfl
  refine⟨[some (.int i),some (tupI (E.getD i [])),X,some (.int n)],⟨_,_,_,rfl⟩,?_⟩;have hs:ji (mV 1) [some (.int i),some (tupI (E.getD i [])),z,some (.int n)]=pure ⟨(E.getD i []).map D.int,.none⟩:=rfl;unfold Dz;rw[hs,ay];dsimp only;rw[if_pos (by rw[Kx,W];exact(by decide:2<=3000)),e2]
  congr 2;show _=((E.getD i []).map D.int).map fun p=>D.tup [p,.int ((n:Int)+i)];rw[fK]
  induction (E.getD i []).map D.int with
  |nil=>rfl
  |cons x l ih=>rw[LD,ih];rfl
 rw[GX]at e;have Z:By (mV 2) [some (aH n E),some (.int n),some (.tup (E.map tupI))]=pure ⟨(List.range E.length).map fun i:Nat=>.tup [.int (i:Int),tupI (E.getD i [])],.none⟩:=by
  rw[<-Ea];rfl
 have Y:jr (By (mV 2)) (fS 2 (a9 (gN 0) (a9 (gN 1) eF))) c8 (ji (mV 1)) (gN 2) cD bG [none,none,none,some 1] [some (aH n E),some (.int n),some (.tup (E.map tupI))]=bM ((toN n E).map tupI):=by
  unfold jr;rw[Z,ay];dsimp only;rw[if_pos (by rw[Kx,Lp];omega),show jD [none,none,none,some 1] [some (aH n E),some (.int n),some (.tup (E.map tupI))]=[none,none,none,some (.int n)]from rfl,e,ay]
 refine fL (o:=.ret (.fz ((toN n E).map tupI))) ?_ rfl;unfold f9;refine(a8 (ρ':=[some (aH n E),some (.int n),some (.tup (E.map tupI))]) rfl).trans (fh ?_);unfold aU;rw[Y];exact dC (d8 _) (by rw[Kx,wL w];unfold lim;omega)
def Kd(E:List (List Int)):D->Bool
 | .tup [.int a,.int b]=>rG E a.toNat b.toNat
 |_=>false
def Ke(n:Nat):D->D
 | .tup [.int a,.int b]=>.tup [.int ((n:Int)+a),.int ((n:Int)+b)]
 |d=>d
theorem of_map:(((bC E.length).map tupI).filter (Kd E)).map (Ke n)=(zT n E).map tupI:=by
 rw[List.filter_map,Ll];unfold zT;rw[Ll,List.filter_congr (q:=fun t=>rG E (t.getD 0 0).toNat (t.getD 1 0).toNat) fun t Z=>by obtain⟨a,b,_,_,rfl⟩:=iG.mp Z;rfl]
 refine ME fun t Z=>?_;obtain⟨a,b,_,_,rfl⟩:=iG.mp (L9.mp Z).1;rfl
theorem J2(w:WebOk n E)(U:E.length<=14):dg [aH n E]=pure (.fz ((zT n E).map tupI)):=by
 have Z:((bC E.length).map tupI).length<=lim:=by rw[Kx];exact KP (pR (by omega)) (by unfold lim;omega)
 have Y:=ig (mi:=ji (mV 3)) (g:=fS 2 (a9 (gN 0) (a9 (gN 1) eF))) (t:=eI) (m:=eJ) (js:=[none,none,some 2,some 1]) (ρ:=[some (aH n E),some (.int n),some (.tup (E.map tupI)),some (.fz ((bC E.length).map tupI))])
  (its:=(bC E.length).map tupI) (fun ρ=>∃ x y,ρ=[x,y,some (.tup (E.map tupI)),some (.int n)]) (Kd E) (Ke n) rfl Z ⟨none,none,rfl⟩
  (fun d hd ρ ⟨x,y,hρ⟩=>by
   subst hρ;obtain⟨t,W,rfl⟩:=K4.mp hd;obtain⟨a,b,T,S,rfl⟩:=iG.mp W;obtain⟨p,q,ep,_⟩:=w.el (E.getD a []) (getD_in (by omega))
   refine⟨[some (.int a),some (.int b),some (.tup (E.map tupI)),some (.int n)],rfl,⟨_,_,rfl⟩,?_,fun _=>?_⟩
   ·refine i3 (ni ((call2 ((b7 (x:=.tup (E.map tupI)) (y:=.int a) rfl rfl).trans (pX (by omega))) ((b7 (x:=.tup (E.map tupI)) (y:=.int b) rfl rfl).trans (pX S))).trans ?_))
    rw[GW (by rw[ep];exact(by decide:2<=1000))]
    rfl
   ·show(ae _ _ _>>=cf)=_;rw[bZ (x:=.int ((n:Int)+a)) (ni ((b7 (x:=.int n) (y:=.int a) rfl rfl).trans rfl)) (bZ (x:=.int ((n:Int)+b)) (ni ((b7 (x:=.int n) (y:=.int b) rfl rfl).trans rfl)) (es:=ao) rfl),ay];unfold cf;exact if_pos mC) (by rw[of_map];exact d8 _)
 rw[of_map]at Y;refine fL (o:=.ret (.fz ((zT n E).map tupI))) ?_ rfl;unfold gh;have hlen:cL cZ (mV 2) [some (aH n E),some (.int n),some (.tup (E.map tupI)),none]=pure (.int E.length):=by
  refine(eT (x:=.tup (E.map tupI)) rfl).trans ?_;show pure (D.int (E.map tupI).length)=_;rw[Kx]
 have X:aU (aA fe (ae (cL cZ (mV 2)) ao)) [some (aH n E),some (.int n),some (.tup (E.map tupI)),none]=pure (.fz ((bC E.length).map tupI)):=by
  unfold aU;rw[dM hlen];exact DP (by omega)
 exact(a8 (ρ':=[some (aH n E),some (.int n),some (.tup (E.map tupI)),none]) rfl).trans ((a8 (gj X)).trans (fh Y))
theorem yc{L:List (List Int)}{e:TM}(h:e ρ=pure (.fz (L.map tupI)))(X:∀ r∈L,r.length=2)(Y:L.length<64):cL dZ (aU (cL bU e)) ρ=pure (.tup ((cK L).map tupI)):=by
 have Z:((cK L).map tupI).length<=lim:=by rw[Kx,(bF L).length_eq];unfold lim;omega
 refine(eT (x:=.fz ((cK L).map tupI)) ?_).trans (sV Z);unfold aU;rw[eT h];show jm (mX (L.map tupI))=_;rw[mI X Y];exact dC (d8 _) Z
theorem Ci:aR bO (aR bz (mV 0) (mK (.int 0))) (cL cZ (aR bz (mV 0) (mK (.int 1)))) (some (aH n E)::r)=pure (.int (n+E.length:Nat)):=by
 refine(b7 (x:=.int n) (y:=.int E.length) rfl ((eT (x:=.tup (E.map tupI)) rfl).trans ?_)).trans rfl;show pure (D.int (E.map tupI).length)=_;rw[Kx]
theorem Cj(w:WebOk n E):∀ r∈toN n E,r.length=2:=fun r Z=>by
 obtain⟨k,_,p,_,rfl⟩:=nX.mp Z;rfl
theorem Ck{e1 e2:TM}(Z:e1 ρ=pure x)(Y:e2 ρ=pure y):eM (ae e1 (ae e2 ao)) ρ=pure (.tup [x,y]):=by
 show(ae _ _ _>>=cf)=_;rw[bZ Z (bZ Y (es:=ao) rfl),ay];unfold cf;exact if_pos mC
theorem Eb(Y:n<=14)(w:WebOk n E)(Z:n+E.length<=14):dq [aH n E]=pure (aH (n+E.length) (mN false n E)):=by
 have hf:cu [aH n E]=pure .non:=by rw[wC Y w,if_neg (by omega)]
 refine sU (o:=.ret (aH (n+E.length) (mN false n E))) ?_ rfl;unfold iE;refine(a8 (BU (ni ((dM rfl).trans hf)))).trans (fh (Ck Ci ?_));rw[<-u7 w Z];exact yc (ni ((dM rfl).trans (IE w))) (Cj w) (by rw[wL w];omega)
theorem yd{e1 e2:TM}{A B:List (List Int)}(Y:e1 ρ=pure (.fz (A.map tupI)))(Z:e2 ρ=pure (.fz (B.map tupI)))(X:(A++B).length<=100):aU (aR bO e1 e2) ρ=pure (.fz ((A++B).map tupI)):=by
 show jm (aR bO e1 e2 _)=_;rw[b7 Y Z];show jm (bM (A.map tupI++B.map tupI))=_;rw[<-Lu];exact dC (d8 _) (by rw[Kx];unfold lim;omega)
theorem Cm(U:n<=14)(w:WebOk n E)(Z:n+E.length<=14):du [aH n E]=pure (aH (n+E.length) (mN true n E)):=by
 have hf:cu [aH n E]=pure .non:=by rw[wC U w,if_neg (by omega)]
 have X:=zM w Z;have Y:(E++toN n E).length<=100:=by rw[KD]at X;omega
 refine sU (o:=.ret (aH (n+E.length) (mN true n E))) ?_ rfl;unfold iF;have W:aU (cL uh (aR bz (mV 0) (mK (.int 1)))) [some (aH n E),none]=pure (.fz (E.map tupI)):=by
  unfold aU;rw[eT (x:=.tup (E.map tupI)) rfl];exact dC (d8 _) (by rw[Kx];have:=w.few;unfold lim;omega)
 refine(a8 (BU (ni ((dM rfl).trans hf)))).trans ((a8 (gj (yd (yd W (ni ((dM rfl).trans (IE w))) Y) (ni ((dM rfl).trans (J2 w (by omega)))) (by omega)))).trans (fh (Ck Ci ?_)))
 rw[<-Ce w Z];refine yc rfl (fun r T=>?_) X;rcases LS.mp T with h|h
 ·rcases LS.mp h with h|h
  ·obtain⟨x,y,rfl,_⟩:=w.el r h;rfl
  ·exact Cj w r h
 ·obtain⟨i,j,_,_,_,rfl⟩:=nY.mp h;rfl
end
abbrev Ec(A:List (Nat×List (List Int))):List D:=A.map fun p=>aH p.1 p.2
abbrev w7(n1 n2:Nat)(E1 E2 E3 E4:List (List Int)):List (Nat×List (List Int)):=[(n1,E1),(n2,E2)]++[(4,E3),(5,E4)]++[(14,[]),(13,[[0,12]]),(13,[[0,12],[1,2]])]
theorem ye{ms:aO->M (List D)}{m:TM}{R:M D->List D->M D}(X:wo js ρ=some ds)(Y:ms ρ=pure es)(Z:m (ds.map some)=c)(W:R c es=pure x):aU (qt js ms m R) ρ=pure x:=by
 refine ni ?_;show qt js ms m R ρ=_;unfold qt;rw[X];show(ms ρ>>=fun es=>R (m (ds.map some)) es)=_;rw[Y,Z,ay,W]
theorem rH(h:cu [d]=M.raise x):dq [d]=M.raise x/\du [d]=M.raise x:=by
 refine⟨iZ ?_,iZ ?_⟩
 ·unfold iE;exact kQ (pL (Gw ((dM rfl).trans h)))
 ·unfold iF;exact kQ (pL (Gw ((dM rfl).trans h)))
theorem Cn(g:Good d)(Z:iM d=false):cu [d]=M.raise (.exc "NoWeb" []):=by
 have h0:ff [d]=M.raise (.exc "NoWeb" []):=by rw[B1 g.nr (fun m Y z=>KP (g.few m Y z) (by decide)),if_neg (by rw[Z];decide)]
 refine iZ ?_;unfold gw;exact kQ (pL (Gw ((dM rfl).trans h0)))
section
variable {a0 a1 a2 a3 a5 a6:Option D}{n:Nat}{E:List (List Int)}
theorem IF(U:n<=14)(w:WebOk n E):j3 [a0,a1,a2,a3,some (aH n E),a5,a6]=pure (.nx [a0,a1,a2,a3,some (aH n E),some (.int (n+E.length:Nat)),a6]):=by
 have hs:aR bO (aR bz (mV 4) (mK (.int 0))) (cL cZ (aR bz (mV 4) (mK (.int 1)))) [a0,a1,a2,a3,some (aH n E),a5,a6]=pure (.int (n+E.length:Nat)):=by
  refine(b7 (x:=.int n) (y:=.int E.length) rfl ((eT (x:=.tup (E.map tupI)) rfl).trans ?_)).trans rfl;show pure (D.int (E.map tupI).length)=_;rw[Kx]
 have Q:eN FD (mV 5) (mK (.int 14)) [a0,a1,a2,a3,some (aH n E),some (.int (n+E.length:Nat)),a6]=pure (decide (14<((n+E.length:Nat):Int))):=cY (x:=.int (n+E.length:Nat)) (y:=.int 14) rfl rfl rfl;have nb:∀{e:TM},e [a0,a1,a2,a3,some (aH n E),some (.int (n+E.length:Nat)),a6]=pure (.bl true)->fB (bV e) [a0,a1,a2,a3,some (aH n E),some (.int (n+E.length:Nat)),a6]=pure false:=fun{e} h=>by
  show(bV e _>>=_)=_;rw[i3 h];rfl
 have X:∀{e:TM} {p q:cW},e [a0,a1,a2,a3,some (aH n E),some (.int (n+E.length:Nat)),a6]=pure (.bl true)->iw (fB (bV e)) p q [a0,a1,a2,a3,some (aH n E),some (.int (n+E.length:Nat)),a6]=q [a0,a1,a2,a3,some (aH n E),some (.int (n+E.length:Nat)),a6]:=fun h=>(bX (nb h)).trans (if_neg (by decide))
 unfold j3;refine(a8 (gj hs)).trans ((bX Q).trans ?_);by_cases h:14<n+E.length
 ·rw[if_pos (KU (by omega))]
  obtain⟨S,T⟩:=rH (d:=aH n E) (x:=great (n+E.length)) (by rw[wC U w,if_pos h])
  have W:=fun(m:TM) (h:m [some (aH n E)]=M.raise (great (n+E.length)))=>ye (js:=[4]) (ρ:=[a0,a1,a2,a3,some (aH n E),some (.int (n+E.length:Nat)),a6]) (ds:=[aH n E]) (m:=m) (R:=bS) rfl (bZ (e:=mV 5) (x:=.int (n+E.length:Nat)) rfl (bZ (e:=mK (.int 14)) (x:=.int 14) rfl (es:=ao) rfl)) h D4;exact(a8 (X (W pG (Gw ((dM rfl).trans S))))).trans (X (W pH (Gw ((dM rfl).trans T))))
 ·rw[if_neg (by rw[Lq];omega)]
  have Z:n+E.length<=14:=by omega
  have hd:∀ wh,aU (aA dD (ae (mV 4) (ae (mK (.bl wh)) ao))) [a0,a1,a2,a3,some (aH n E),some (.int (n+E.length:Nat)),a6]=pure (aH (n+E.length) (mN wh n E)):=fun wh=>by
   unfold aU;rw[call2 (x:=aH n E) (y:=.bl wh) rfl rfl];exact Cg w Z
  have Y:∀ wh,cw [aH (n+E.length) (mN wh n E),aH (n+E.length) (mN wh n E)]=pure (.bl true):=fun wh=>GE (by
   have:=(xZ wh n E).length_le;have:=pairs_len Z;omega) fun r W=>by
   obtain⟨a,b,_,_,_,rfl⟩:=tF.mp W;exact(by decide:2<=1000)
  exact(X (ni ((call2 (ni ((dM rfl).trans (Eb U w Z))) (hd false)).trans (Y false)))).trans (X (ni ((call2 (ni ((dM rfl).trans (Cm U w Z))) (hd true)).trans (Y true))))
end
theorem Co:∀(ws:List (Nat×List (List Int))) (x y:Option D),(∀ p∈ws,p.1<=14/\WebOk p.1 p.2)->∃ Z Y,gz ⟨its,.none⟩ (gN 4) j3 (ws.map fun p=>aH p.1 p.2) [a0,a1,a2,a3,x,y,a6]=pure (.nx [a0,a1,a2,a3,Z,Y,a6])
 |[],x,y,_=>⟨x,y,gn⟩
 |p::ws,x,y,h=>by
  obtain⟨T,U⟩:=h p (.head _);obtain⟨Z,Y,W⟩:=Co (its:=its) (a0:=a0) (a1:=a1) (a2:=a2) (a3:=a3) (a6:=a6) ws (some (aH p.1 p.2)) (some (.int (p.1+p.2.length:Nat))) fun q X=>h q (.tail _ X);refine⟨Z,Y,?_⟩;funext S;rw[K3,fN rfl (Ly (IF T U) S),W]
theorem pZ:∀ ws:List (Nat×List (List Int)),c9 0 (ws.map fun p=>aH p.1 p.2)=true
 |[]=>rfl
 |p::ws=>by rw[K3];unfold c9;rw[kR,pZ ws];rfl
theorem u9{e:TM}{A B:List (Nat×List (List Int))}(Z:e (a0::a1::a2::some (.fz (A.map fun p=>aH p.1 p.2))::r) S=some (.ok (.fz (B.map fun p=>aH p.1 p.2)),S1))(Y:Kp k S S1)(l:S1.length=S.length)(X:(A++B).length<=100):
  aU (aR bO (mV 3) e) (a0::a1::a2::some (.fz (A.map fun p=>aH p.1 p.2))::r) S=some (.ok (.fz ((A++B).map fun p=>aH p.1 p.2)),S1):=by
 refine j8 (S2:=S1) ?_ Y l (pZ _);refine(i4 (x:=.fz (A.map fun p=>aH p.1 p.2)) (S1:=S) rfl Z).trans ?_;show bM (A.map (fun p=>aH p.1 p.2)++B.map fun p=>aH p.1 p.2) S1=_;rw[<-Lu];exact cV (by rw[Kx];unfold lim;omega)
theorem vd{e1 e2:TM}(X:e1 ρ S=some (.ok (aH n1 E1),S1))(Z:e2 ρ S1=some (.ok (aH n2 E2),S2))(Y:Kp k S S2)(l:S2.length=S.length):aU (bH (ae e1 (ae e2 ao))) ρ S=some (.ok (.fz ([(n1,E1),(n2,E2)].map fun p=>aH p.1 p.2)),S2):=
 j8 (j6 (S1:=S2) (ys:=[aH n1 E1,aH n2 E2]) (cF X (cF Z rfl)) (by show 2<=lim;unfold lim;omega)) Y l (pZ _)
theorem GY{S:aB}{ns:List Int}{i:Nat}{o2 o3 o4 o5 o6:Option D}:∃ x2 x3 x4 x5 x6 S1,j4 [some (.ro (ns.map D.int)),some (.int i),o2,o3,o4,o5,o6] S=some (.ok (.nx [some (.ro (ns.map D.int)),some (.int i),x2,x3,x4,x5,x6]),S1):=by
 obtain⟨_,_,H,xs,rfl,rfl,hs⟩:=DK (S:=S) (ns:=ns) (k:=i) (Q:=fun d b=>∃ xs,d= .lst S.length/\b=S++[xs]/\d7 (S++[xs]) S.length) fun xs h=>⟨xs,rfl,rfl,h⟩;generalize S++[xs]=T0 at H hs;generalize S.length=k at H hs;obtain⟨Y,X,T1,e1,m1,c,k1,l1⟩:=GQ hs;obtain⟨Z,P,T2,e2,m2,w2,_,k2,g⟩:=B7 k1.st;obtain⟨O,T3,e3,f,k3,s⟩:=pW (n:=4) (o:=4) k2.st (by decide)
 obtain⟨U,N,e4,w4,J,j⟩:=pW (n:=5) (o:=4) k3.st (by decide)
 have K:∀{F:List D->M D} {x3:Option D} {T T':aB} {v:D},jm (F [.lst k,.int 7]) T=some (.ok v,T')->aU (aA F (ae (mV 2) (ae (mK (.int 7)) ao))) [some (.ro (ns.map D.int)),some (.int i),some (.lst k),x3,o4,o5,o6] T=some (.ok v,T'):=fun{F x3 T T' v} h=>by
  show jm (aA _ _ _) T=_;rw[call2 (x:=.lst k) (y:=.int 7) rfl rfl];exact h
 have L:∀{m:Int} {x3:Option D} {T T':aB} {v:D},jm (bB [.lst k,.int m,.int 4]) T=some (.ok v,T')->aU (aA bB (ae (mV 2) (ae (mK (.int m)) (ae (mK (.int 4)) ao)))) [some (.ro (ns.map D.int)),some (.int i),some (.lst k),x3,o4,o5,o6] T=some (.ok v,T'):=fun{m x3 T T' v} h=>by
  show jm (aA _ _ _) T=_;rw[EC (x:=.lst k) (y:=.int m) (z:=.int 4) rfl rfl rfl];exact h
 have G:=vd (K (x3:=o3) e1) (K (x3:=o3) e2) (k1.trans k2) (g.trans l1);have C:=u9 (A:=[(Y,X),(Z,P)]) (B:=[(4,O),(5,U)]) (vd (L e3) (L e4) (k3.trans J) (j.trans s)) (k3.trans J) (j.trans s) (by show 4<=100;decide)
 have I:=u9 (S:=N) (S1:=N) (k:=k) (a0:=some (.ro (ns.map D.int))) (a1:=some (.int i)) (a2:=some (.lst k)) (r:=[o4,o5,o6]) (e:=aU (bH (ae (mK (.tup [.int 14,.tup []])) (ae (mK (.tup [.int 13,.tup [.tup [.int 0,.int 12]]])) (ae (mK (.tup [.int 13,.tup [.tup [.int 0,.int 12],.tup [.int 1,.int 2]]])) (ao)))))) (A:=[(Y,X),(Z,P)]++[(4,O),(5,U)]) (B:=[(14,[]),(13,[[0,12]]),(13,[[0,12],[1,2]])])
  (Ly (dC (us:=[.tup [.int 14,.tup []],.tup [.int 13,.tup [.tup [.int 0,.int 12]]],.tup [.int 13,.tup [.tup [.int 0,.int 12],.tup [.int 1,.int 2]]]]) rfl (by show 3<=lim;unfold lim;omega)) N) (.refl J.st) rfl (by show 7<=100;decide)
 obtain⟨E,w,hf⟩:=Co (its:=Ec (w7 Y Z X P O U)) (a0:=some (.ro (ns.map D.int))) (a1:=some (.int i)) (a2:=some (.lst k)) (a3:=some (.fz (Ec (w7 Y Z X P O U)))) (a6:=o6) (w7 Y Z X P O U) o4 o5 fun p q=>by
  simp only[List.mem_append,List.mem_cons,List.not_mem_nil,or_false]at q;rcases q with((rfl|rfl)|(rfl|rfl))|(rfl|rfl|rfl)
  ·exact⟨by show Y<=14;omega,c⟩
  ·exact⟨by show Z<=14;omega,w2⟩
  ·exact⟨by show 4<=14;decide,f⟩
  ·exact⟨by show 5<=14;decide,w4⟩
  ·exact⟨Kz _,⟨(fun t W=>by cases W),.nil,by decide⟩⟩
  ·exact⟨by show 13<=14;decide,⟨fun t W=>by rw[Nl.mp W];exact⟨0,12,rfl,by decide,by decide,by decide⟩,Ou _ _,by decide⟩⟩
  ·refine⟨by show 13<=14;decide,⟨fun t W=>?_,by decide,by decide⟩⟩
   rcases K2.mp W with rfl|W
   ·exact⟨0,12,rfl,by decide,by decide,by decide⟩
   ·rw[Nl.mp W];exact⟨1,2,rfl,by decide,by decide,by decide⟩
 obtain⟨d,u,e5,a,wd,_,_⟩:=GT J.st;obtain⟨r1,r2⟩:=rH (Cn a wd);have l:=fun(x:D) (m:TM) (h:m [some d]=M.raise (.exc "NoWeb" []))=>ye (js:=[6]) (ρ:=[some (.ro (ns.map D.int)),some (.int i),some (.lst k),some x,E,w,some d]) (ds:=[d]) (ms:=ao) (m:=m) (R:=aY) rfl rfl h DZ;refine⟨some (.lst k),some (.fz (Ec (w7 Y Z X P O U))),E,w,some d,u,?_⟩;unfold j4;have h5:aU (aA dh (ae (mV 2) ao)) [some (.ro (ns.map D.int)),some (.int i),some (.lst k),some (.fz (Ec (w7 Y Z X P O U))),E,w,o6] N=some (.ok d,u):=by
  show jm (aA _ _ _) N=_;rw[dM (x:=.lst k) rfl];exact e5
 refine(aM (ρ':=[some (.ro (ns.map D.int)),some (.int i),some (.lst k),o3,o4,o5,o6]) (S1:=T0) (bK (x:=.lst k) ?_)).trans ((aM (bK G)).trans ((aM (bK C)).trans ((aM (bK I)).trans ((aM (ju rfl (Ly hf N))).trans ((aM (bK h5)).trans ?_)))))
 ·rw[call2 (x:=.ro (ns.map D.int)) (y:=.int i) rfl rfl];exact H
 ·exact Ly ((a8 ((bX (cY (l _ pI (Gw ((dM rfl).trans r1))) wD GF)).trans (if_neg (by decide)))).trans ((bX (cY (l _ pJ (Gw ((dM rfl).trans r2))) wD GF)).trans (if_neg (by decide)))) u
theorem vf{ns:List Int}:∀(ts:List Nat) (o1 o2 o3 o4 o5 o6:Option D) (S:aB),∃ ρ S1,gz ⟨its,.none⟩ (gN 1) j4 (ts.map fun i:Nat=>.int (0+(i:Int))) [some (.ro (ns.map D.int)),o1,o2,o3,o4,o5,o6] S=some (.ok (.nx ρ),S1)
 |[],o1,o2,o3,o4,o5,o6,S=>⟨_,S,by rw[L3,gn];rfl⟩
 |t::ts,o1,o2,o3,o4,o5,o6,S=>by
  obtain⟨x2,x3,x4,x5,x6,S1,h⟩:=GY (S:=S) (ns:=ns) (i:=t) (o2:=o2) (o3:=o3) (o4:=o4) (o5:=o5) (o6:=o6);obtain⟨ρ,S2,Z⟩:=vf (its:=its) (ns:=ns) ts (some (.int t)) x2 x3 x4 x5 x6 S1;refine⟨ρ,S2,?_⟩;rw[K3,Mo];exact(fN rfl h).trans Z
theorem IG{ns:List Int}:runs (rl [.ro (ns.map D.int)]) S (fun d _=>d= .bl true):=by
 have hm:aA minD (ae (cL cZ (mV 0)) (ae (mK (.int 8)) ao)) [some (.ro (ns.map D.int)),none,none,none,none,none,none]=pure (.int (if (8:Int)<(ns.map D.int).length then 8 else (ns.map D.int).length)):=(call2 (x:=.int (ns.map D.int).length) (y:=.int 8) rfl rfl).trans rfl;have Z:aA maxD (ae (mK (.int 1)) (ae (aA minD (ae (cL cZ (mV 0)) (ae (mK (.int 8)) ao))) ao)) [some (.ro (ns.map D.int)),none,none,none,none,none,none]=pure (.int (if (if (8:Int)<(ns.map D.int).length then (8:Int)else (ns.map D.int).length)>1 then (if (8:Int)<(ns.map D.int).length then 8 else (ns.map D.int).length)else 1)):=(call2 (x:=.int 1) rfl hm).trans rfl;generalize hn:(if (if (8:Int)<(ns.map D.int).length then (8:Int)else (ns.map D.int).length)>1 then (if (8:Int)<(ns.map D.int).length then (8:Int)else (ns.map D.int).length)else 1)=n at Z;have Y:n<=8:=by rw[<-hn];split<;>split<;>omega
 have W:1<=n:=by rw[<-hn];split<;>split<;>omega
 have X:=(mD Z).trans (wA (by omega))
 obtain⟨ρ,S1,hf⟩:=vf (its:=aX 0 n.toNat) (ns:=ns) (List.range n.toNat) none none none none none none S;refine⟨.bl true,S1,fi (o:=.ret (.bl true)) ?_ rfl,rfl⟩;unfold BR;exact(aM (ju X hf)).trans rfl
def top(i:Nat):Stmt:=PySem.Challenge.pw_tiewebs_k70_midst_and_whole_webs.main.body.getD i (.Pass ⟨0,0,0,0⟩)
structure Txt(K:W.Frag)(mg:Str->Option Value):Prop where
 err:fT K=true
 dk:DC K=true
 b_ValueError:mg "ValueError"=none
 b_all:mg "all"=none
 b_any:mg "any"=none
 b_bool:mg "bool"=none
 b_enumerate:mg "enumerate"=none
 b_int:mg "int"=none
 b_isinstance:mg "isinstance"=none
 b_len:mg "len"=none
 b_list:mg "list"=none
 b_max:mg "max"=none
 b_min:mg "min"=none
 b_range:mg "range"=none
 b_set:mg "set"=none
 b_sorted:mg "sorted"=none
 b_tuple:mg "tuple"=none
 b_zip:mg "zip"=none
 g_MOST_PLACES:∃ t,mg "MOST_PLACES"=some (.int 14 t)
theorem vg:FnScope ["thing"] ["thing"] (aq (top 17)):=⟨rfl,rfl,rfl,by decide+kernel,rfl,by decide+kernel,by decide+kernel⟩
theorem wO:FnScope ["thing"] ["thing"] (aq (top 18)):=⟨rfl,rfl,rfl,by decide+kernel,rfl,by decide+kernel,by decide+kernel⟩
theorem tH:FnScope ["things"] ["things"] (aq (top 21)):=⟨rfl,rfl,rfl,by decide+kernel,rfl,by decide+kernel,by decide+kernel⟩
theorem vh:FnScope ["many"] ["many"] (aq (top 24)):=⟨rfl,rfl,rfl,by decide+kernel,rfl,by decide+kernel,by decide+kernel⟩
theorem tI:FnScope ["one","other"] ["one","other"] (aq (top 26)):=⟨rfl,rfl,rfl,by decide+kernel,rfl,by decide+kernel,by decide+kernel⟩
theorem fP:FnScope ["web","many","ties"] ["web"] (aq (top 29)):=⟨rfl,rfl,rfl,by decide+kernel,rfl,by decide+kernel,by decide+kernel⟩
theorem nA:FnScope ["_law_script","_law_k"] ["_law_script","_law_k"] (aq (top 34)):=⟨rfl,rfl,rfl,by decide+kernel,rfl,by decide+kernel,by decide+kernel⟩
theorem gT:FnScope ["_law_state_here","_law_many","_law_found","_law_stirred"] ["_law_state_here","_law_many"] (aq (top 36)):=⟨rfl,rfl,rfl,by decide+kernel,rfl,by decide+kernel,by decide+kernel⟩
theorem fQ:FnScope ["_law_web_here","_law_ties","_law_found","_law_a","_law_b"] ["_law_web_here"] (aq (top 38)):=⟨rfl,rfl,rfl,by decide+kernel,rfl,by decide+kernel,by decide+kernel⟩
theorem gp:FnScope ["_law_web_here","_law_names","_law_ties","_law_a","_law_b"] ["_law_web_here","_law_names"] (aq (top 41)):=⟨rfl,rfl,rfl,by decide+kernel,rfl,by decide+kernel,by decide+kernel⟩
theorem bL:FnScope ["_law_web_here","_law_whole","_law_many","_law_found","_law_a","_law_b","_law_goes","_law_one","_law_other"] ["_law_web_here","_law_whole"] (aq (top 47)):=⟨rfl,rfl,rfl,by decide+kernel,rfl,by decide+kernel,by decide+kernel⟩
theorem vi:FnScope ["many","thing"] ["many","thing"] (aq (top 19)):=⟨rfl,rfl,rfl,by decide+kernel,rfl,by decide+kernel,by decide+kernel⟩
theorem dW:FnScope ["web","many","ties","pairs"] ["web"] (aq (top 30)):=⟨rfl,rfl,rfl,by decide+kernel,rfl,by decide+kernel,by decide+kernel⟩
theorem kE:FnScope ["_law_script","_law_k","_law_cell"] ["_law_script","_law_k"] (aq (top 35)):=⟨rfl,rfl,rfl,by decide+kernel,rfl,by decide+kernel,by decide+kernel⟩
theorem iO:FnScope ["_law_state_here","_law_many","_law_often","_law_ties","_law_a"] ["_law_state_here","_law_many","_law_often"] (aq (top 37)):=⟨rfl,rfl,rfl,by decide+kernel,rfl,by decide+kernel,by decide+kernel⟩
theorem iP:FnScope ["_law_state_here","_law_many","_law_left","_law_found"] ["_law_state_here","_law_many"] (aq (top 39)):=⟨rfl,rfl,rfl,by decide+kernel,rfl,by decide+kernel,by decide+kernel⟩
theorem jA:FnScope ["_law_state_here","_law_some"] ["_law_state_here"] (aq (top 46)):=⟨rfl,rfl,rfl,by decide+kernel,rfl,by decide+kernel,by decide+kernel⟩
theorem mJ:FnScope ["many","thing","low","high"] ["many","thing"] (aq (top 20)):=⟨rfl,rfl,rfl,by decide+kernel,rfl,by decide+kernel,by decide+kernel⟩
theorem bD:FnScope ["_law_state_here","_law_most","_law_many","_law_some","_law_ties","_law_at","_law_one","_law_other","_law_turn","_law_a","_law_b"] ["_law_state_here","_law_most"] (aq (top 40)):=⟨rfl,rfl,rfl,by decide+kernel,rfl,by decide+kernel,by decide+kernel⟩
theorem mL:FnScope ["thing","many","ties"] ["thing"] (aq (top 22)):=⟨rfl,rfl,rfl,by decide+kernel,rfl,by decide+kernel,by decide+kernel⟩
theorem dv:FnScope ["_law_state_here","_law_most","_law_way","_law_many","_law_web_here","_law_a","_law_b","_law_ties"] ["_law_state_here","_law_most"] (aq (top 42)):=⟨rfl,rfl,rfl,by decide+kernel,rfl,by decide+kernel,by decide+kernel⟩
theorem vj:FnScope ["thing"] ["thing"] (aq (top 23)):=⟨rfl,rfl,rfl,by decide+kernel,rfl,by decide+kernel,by decide+kernel⟩
theorem lV:FnScope ["web","many"] ["web"] (aq (top 28)):=⟨rfl,rfl,rfl,by decide+kernel,rfl,by decide+kernel,by decide+kernel⟩
theorem tJ:FnScope ["web"] ["web"] (aq (top 31)):=⟨rfl,rfl,rfl,by decide+kernel,rfl,by decide+kernel,by decide+kernel⟩
theorem lW:FnScope ["web","ties"] ["web"] (aq (top 32)):=⟨rfl,rfl,rfl,by decide+kernel,rfl,by decide+kernel,by decide+kernel⟩
theorem tK:FnScope ["_law_found","_law_due"] ["_law_found","_law_due"] (aq (top 44)):=⟨rfl,rfl,rfl,by decide+kernel,rfl,by decide+kernel,by decide+kernel⟩
theorem b8:FnScope ["_law_call","_law_error","e","_law_marks"] ["_law_call"] (aq (top 43)):=⟨rfl,rfl,rfl,by decide+kernel,rfl,by decide+kernel,by decide+kernel⟩
theorem fR:FnScope ["_law_call","_law_many","_law_most","_law_error","e"] ["_law_call","_law_many","_law_most"] (aq (top 45)):=⟨rfl,rfl,rfl,by decide+kernel,rfl,by decide+kernel,by decide+kernel⟩
theorem jv:FnScope ["_law_script","_law_k","_law_state_here","_law_some","_law_web_here","_law_many","_law_bad"] ["_law_script"] (aq (top 48)):=⟨rfl,rfl,rfl,by decide+kernel,rfl,by decide+kernel,by decide+kernel⟩
section
variable {P:Program}{w:World}{K:W.Frag}{mg:Str->Option Value}{base:Heap}
theorem vk(F:Fun K "is_whole" "is_whole" (top 17) f fd)(Z:mg "is_whole"=some (.ref f))(T:Txt K mg):DefX P w K mg base 1 "is_whole" ["thing"] cJ:=
 b9 (m:=pA) F Z (F.binds fun _ _ _ _ _ _ us Y=>match us,Y with|[_],_=>rfl) vg rfl fun X A outer s H E U=>
  aL (a7 (jb (iI (Ts:="int") T.b_isinstance T.b_int (aa 0)) (ja (Fz (iI (Ts:="bool") T.b_isinstance T.b_bool (aa 0))))))
end
section
variable {P:Program}{w:World}{K:W.Frag}{mg:Str->Option Value}{base:Heap}
theorem wQ(F:Fun K "is_pair" "is_pair" (top 18) f fd)(Z:mg "is_pair"=some (.ref f))(T:Txt K mg):DefX P w K mg base 1 "is_pair" ["thing"] de:=
 b9 (m:=rk) F Z (F.binds fun _ _ _ _ _ _ us Y=>match us,Y with|[_],_=>rfl) wO rfl fun X A outer s H E U=>
  aL (a7 (jb (iI (Ts:="tuple") T.b_isinstance T.b_tuple (aa 0)) (ja (AE (iX U) (dY T.b_len (aa 0)) (av)))))
end
section
variable {P:Program}{w:World}{K:W.Frag}{mg:Str->Option Value}{base:Heap}
theorem tL(F:Fun K "is_rising" "is_rising" (top 21) f fd)(Z:mg "is_rising"=some (.ref f))(T:Txt K mg):DefX P w K mg base 1 "is_rising" ["things"] fq:=
 b9 (m:=m8) F Z (F.binds fun _ _ _ _ _ _ us Y=>match us,Y with|[_],_=>rfl) tH rfl fun X A outer s H E U=>
  aL (a7 (vQ rfl T.b_all (aI (jf (t:=hZ) (m:=ia) (qp (Nc:=["ahead","behind"]) (js:=[none,none]) (aq (top 21)) ["things"] (fun _=>rfl) rfl (by decide+kernel)) rfl (xD T.b_zip (aa 0) (aI (ug (aa 0) (xh (av)) (xg)))) (fun C ex s2 S=>⟨jc rfl (bE (aW 0 (show(["ahead","behind"]:List Str).Nodup by decide+kernel)) (bE (aW 1 (show(["ahead","behind"]:List Str).Nodup by decide+kernel)) (fy))),ir,Ej (A9 U) (aa 0) (aa 1)⟩)))))
end
section
variable {P:Program}{w:World}{K:W.Frag}{mg:Str->Option Value}{base:Heap}
theorem vm(F:Fun K "pairs_of" "pairs_of" (top 24) f fd)(Z:mg "pairs_of"=some (.ref f))(T:Txt K mg):DefX P w K mg base 1 "pairs_of" ["many"] fe:=
 b9 (m:=pB) F Z (F.binds fun _ _ _ _ _ _ us Y=>match us,Y with|[_],_=>rfl) vh rfl fun X A outer s H E S=>
  aL (a7 (aI (uO (t:=eQ) (t2:=cX) (m:=cn) (qp (Nc:=["low","high","many"]) (js:=[none,none,some 0]) (aq (top 24)) ["many"] (fun _=>rfl) rfl (by decide+kernel)) rfl (fY T.b_range (aa 0)) (fun C ex s2 U=>⟨aW 0 (show(["low","high","many"]:List Str).Nodup by decide+kernel),ir,iV T.b_range (bW (aa 0) (av)) (aa 2),aW 1 (show(["low","high","many"]:List Str).Nodup by decide+kernel),ir,cG (af (aa 0) (af (aa 1) (aj) au) au)⟩))))
end
section
variable {P:Program}{w:World}{K:W.Frag}{mg:Str->Option Value}{base:Heap}
theorem tN(F:Fun K "ties_meet" "ties_meet" (top 26) f fd)(Z:mg "ties_meet"=some (.ref f))(T:Txt K mg):DefX P w K mg base 1 "ties_meet" ["one","other"] gv:=
 b9 (m:=m9) F Z (F.binds fun _ _ _ _ _ _ us Y=>match us,Y with|[_,_],_=>rfl) tI rfl fun X A outer s H E U=>
  aL (a7 (Gp rfl T.b_any (aI (jf (t:=ib) (m:=ic) (qp (Nc:=["place","other"]) (js:=[none,some 1]) (aq (top 26)) ["one","other"] (fun _=>rfl) rfl (by decide+kernel)) rfl (kL (aa 0)) (fun C ex s2 S=>⟨aW 0 (show(["place","other"]:List Str).Nodup by decide+kernel),ir,uf (iX U) (aa 0) (aa 1)⟩)))))
end
section
variable {P:Program}{w:World}{K:W.Frag}{mg:Str->Option Value}{base:Heap}
theorem lX(F:Fun K "ties_to_midsts" "ties_to_midsts" (top 29) f fd)(Z:mg "ties_to_midsts"=some (.ref f))(T:Txt K mg):DefX P w K mg base 1 "ties_to_midsts" ["web"] cm:=
 b9 (m:=f9) F Z (F.binds fun _ _ _ _ _ _ us Y=>match us,Y with|[_],_=>rfl) fP rfl fun X A outer s H E S=>
  aw (jP (aa 0) (jc rfl (bE (aW 1 fP.nd) (bE (aW 2 fP.nd) (fy))))) (aL (a7 (aI (uO (t:=c8) (t2:=cD) (m:=bG) (qp (Nc:=["number","tie","place","many"]) (js:=[none,none,none,some 1]) (aq (top 29)) ["web","many","ties"] (fun _=>rfl) rfl (by decide+kernel)) rfl (Dx T.b_enumerate (aa 2)) (fun C ex s2 U=>⟨jc rfl (bE (aW 0 (show(["number","tie","place","many"]:List Str).Nodup by decide+kernel)) (bE (aW 1 (show(["number","tie","place","many"]:List Str).Nodup by decide+kernel)) (fy))),ir,kL (aa 1),aW 2 (show(["number","tie","place","many"]:List Str).Nodup by decide+kernel),ir,cG (af (aa 2) (af (aI (bW (aa 3) (aa 0))) (aj) fC) au)⟩)))))
end
section
variable {P:Program}{w:World}{K:W.Frag}{mg:Str->Option Value}{base:Heap}
theorem nB(F:Fun K "_law_cell_at" "_law_cell_at" (top 34) f fd)(Z:mg "_law_cell_at"=some (.ref f))(T:Txt K mg):DefX P w K mg base 1 "_law_cell_at" ["_law_script","_law_k"] df:=
 b9 (m:=jY) F Z (F.binds fun _ _ _ _ _ _ us Y=>match us,Y with|[_,_],_=>rfl) nA rfl fun X A outer s H E U=>
  aw (cO (mR (A9 U) (aa 1) (dY T.b_len (aa 0))) (aL (a7 (aJ (aa 0) (aa 1)))) (cy)) (aL (a7 (av)))
end
section
variable {P:Program}{w:World}{K:W.Frag}{mg:Str->Option Value}{base:Heap}
theorem tO(F:Fun K "_law_take" "_law_take" (top 36) f fd)(Z:mg "_law_take"=some (.ref f))(T:Txt K mg):DefX P w K mg base 1 "_law_take" ["_law_state_here","_law_many"] az:=
 b9 (m:=ng) F Z (F.binds fun _ _ _ _ _ _ us Y=>match us,Y with|[_,_],_=>rfl) gT rfl fun X A outer s H E U=>
  aw (cO (eZ (aJ (aa 0) (av))) (aw (ba 2 gT.nd (mr (aJ (aa 0) (av)) (aa 1)) (hs:=cg)) (aw (jP (xc (aJ (aa 0) (av)) (aa 1)) (xk (aa 0) (av))) (aL (a7 (aa 2))))) (cy)) (aw (jP (mr (bW (oA (aJ (aa 0) (av)) (av)) (av)) (av)) (xk (aa 0) (av))) (aw (ba 3 gT.nd (mr (bW (bW (oA (aJ (aa 0) (av)) (aJ (aa 0) (av))) (oA (av) (aJ (aa 0) (av)))) (av)) (av)) (hs:=cg)) (aw (ba 3 gT.nd (mr (bW (oA (aa 3) (aa 3)) (oA (av) (aa 3))) (av)) (hs:=cg)) (aL (a7 (mr (xc (aa 3) (av)) (aa 1)))))))
end
section
variable {P:Program}{w:World}{K:W.Frag}{mg:Str->Option Value}{base:Heap}
theorem tP(F:Fun K "_law_made" "_law_made" (top 38) f fd)(Y:mg "_law_made"=some (.ref f))(T:Txt K mg):DefX P w K mg base 1 "_law_made" ["_law_web_here"] ft:=
 b9 (m:=iA) F Y (F.binds fun _ _ _ _ _ _ us X=>match us,X with|[_],_=>rfl) fQ rfl fun U A outer s H E Z=>
  aw (ba 1 fQ.nd (aJ (aa 0) (av)) (hs:=jl)) (aw (ba 2 fQ.nd (bI (aj)) (hs:=gK)) (aw (iH (b:=ie) LU rfl (fY T.b_range (dY T.b_len (aa 1))) (aW 3 fQ.nd) (aL (iH (b:=d6) LU rfl (iV T.b_range (bW (aa 3) (av)) (dY T.b_len (aa 1))) (aW 4 fQ.nd) (aL (cO (yB (qL (Em (iX Z) (aJ (aJ (aa 1) (aa 3)) (av)) (aJ (aa 1) (aa 4))) (oy (Em (iX Z) (aJ (aJ (aa 1) (aa 3)) (av)) (aJ (aa 1) (aa 4)))))) (aL (fx (fX (aa 2) (cG (af (aa 3) (af (aa 4) (aj) au) au))))) (cy)))))) (aL (a7 (cG (af (dY T.b_len (aa 1)) (af (fA T.b_tuple (aa 2)) (aj) aS) aS))))))
end
section
variable {P:Program}{w:World}{K:W.Frag}{mg:Str->Option Value}{base:Heap}
theorem qu(F:Fun K "_law_named" "_law_named" (top 41) f fd)(Z:mg "_law_named"=some (.ref f))(T:Txt K mg):DefX P w K mg base 1 "_law_named" ["_law_web_here","_law_names"] eA:=
 b9 (m:=gM) F Z (F.binds fun _ _ _ _ _ _ us Y=>match us,Y with|[_,_],_=>rfl) gp rfl fun X A outer s H E U=>
  aw (ba 2 gp.nd (bI (aj)) (hs:=gK)) (aw (iH (b:=dG) LU rfl (kL (aJ (aa 0) (av))) (jc rfl (bE (aW 3 gp.nd) (bE (aW 4 gp.nd) (fy)))) (aL (fx (fX (aa 2) (cG (af (sr rfl T.b_min (af (aJ (aa 1) (aa 3)) (af (aJ (aa 1) (aa 4)) (aj) bA) bA)) (af (sm rfl T.b_max (af (aJ (aa 1) (aa 3)) (af (aJ (aa 1) (aa 4)) (aj) bA) bA)) (aj) aS) aS)))))) (aL (a7 (cG (af (aJ (aa 0) (av)) (af (fA T.b_tuple (aI (f7 T.b_sorted (aa 2)))) (aj) aS) bA)))))
end
section
variable {P:Program}{w:World}{K:W.Frag}{mg:Str->Option Value}{base:Heap}
theorem qv(F:Fun K "_law_midst" "_law_midst" (top 47) f fd)(Y:mg "_law_midst"=some (.ref f))(T:Txt K mg):DefX P w K mg base 1 "_law_midst" ["_law_web_here","_law_whole"] dD:=
 b9 (m:=gO) F Y (F.binds fun _ _ _ _ _ _ us X=>match us,X with|[_,_],_=>rfl) bL rfl fun U A outer s H E Z=>
  aw (ba 2 bL.nd (bW (aJ (aa 0) (av)) (dY T.b_len (aJ (aa 0) (av)))) (hs:=cg)) (aw (ba 3 bL.nd (bI (aj)) (hs:=gK)) (aw (iH (b:=gF) LU rfl (fY T.b_range (aa 2)) (aW 4 bL.nd) (aL (iH (b:=dH) LU rfl (iV T.b_range (bW (aa 4) (av)) (aa 2)) (aW 5 bL.nd) (aw (ba 6 bL.nd (fj) (hs:=jV)) (aw (cO (mR (A9 Z) (aa 5) (aJ (aa 0) (av))) (aL (ba 6 bL.nd (jb (aa 1) (ja (uf (iX Z) (cG (af (aa 4) (af (aa 5) (aj) au) au)) (aJ (aa 0) (av))))))) (aL (cO (mR (A9 Z) (aa 4) (aJ (aa 0) (av))) (aL (ba 6 bL.nd (uf (iX Z) (aa 4) (aJ (aJ (aa 0) (av)) (oz (aa 5) (aJ (aa 0) (av))))))) (aw (ba 7 bL.nd (aJ (aJ (aa 0) (av)) (oz (aa 4) (aJ (aa 0) (av)))) (hs:=jl)) (aw (ba 8 bL.nd (aJ (aJ (aa 0) (av)) (oz (aa 5) (aJ (aa 0) (av)))) (hs:=jl)) (aL (ba 6 bL.nd (jb (aa 1) (ja (HM (uf (iX Z) (aJ (aa 7) (av)) (aa 8)) (ja (uf (iX Z) (aJ (aa 7) (av)) (aa 8))))))))))))) (aL (cO (eZ (aa 6)) (aL (fx (fX (aa 3) (cG (af (aa 4) (af (aa 5) (aj) au) au))))) (cy)))))))) (aL (a7 (cG (af (aa 2) (af (fA T.b_tuple (aa 3)) (aj) aS) au))))))
end
section
variable {P:Program}{w:World}{K:W.Frag}{mg:Str->Option Value}{base:Heap}
theorem vo(F:Fun K "is_place" "is_place" (top 19) f fd)(X:mg "is_place"=some (.ref f))(T:Txt K mg)(Z:DefX P w K mg base 1 "is_whole" ["thing"] cJ):DefX P w K mg base 2 "is_place" ["many","thing"] gf:=
 b9 (m:=pC) F X (F.binds fun _ _ _ _ _ _ us U=>match us,U with|[_,_],_=>rfl) vi rfl fun S A outer s H E Y=>
  aL (a7 (jb (aP Z (Y.mono (by decide)) (af (aa 1) (aj) au)) (ja (AB Ac (Ab.or (vE (A9 Y))) (ke fun _ _ _ _=>.bl _) vM (av) (aa 1) (aa 0)))))
end
section
variable {P:Program}{w:World}{K:W.Frag}{mg:Str->Option Value}{base:Heap}
theorem lY(F:Fun K "ties_of_midsts" "ties_of_midsts" (top 30) f fd)(U:mg "ties_of_midsts"=some (.ref f))(T:Txt K mg)(Y:DefX P w K mg base 1 "pairs_of" ["many"] fe)(Z:DefX P w K mg base 1 "ties_meet" ["one","other"] gv):DefX P w K mg base 2 "ties_of_midsts" ["web"] dg:=
 b9 (m:=gh) F U (F.binds fun _ _ _ _ _ _ us R=>match us,R with|[_],_=>rfl) dW rfl fun S A outer s H E X=>
  aw (jP (aa 0) (jc rfl (bE (aW 1 dW.nd) (bE (aW 2 dW.nd) (fy))))) (aw (ba 3 dW.nd (aI (aP Y (X.mono (by decide)) (af (dY T.b_len (aa 2)) (aj) aS))) (hs:=gL)) (aL (a7 (aI (jf (t:=eI) (m:=eJ) (qp (Nc:=["low","high","ties","many"]) (js:=[none,none,some 2,some 1]) (aq (top 30)) ["web","many","ties","pairs"] (fun _=>rfl) rfl (by decide+kernel)) rfl (kL (aa 3)) (fun C ex s2 Q=>⟨jc rfl (bE (aW 0 (show(["low","high","ties","many"]:List Str).Nodup by decide+kernel)) (bE (aW 1 (show(["low","high","ties","many"]:List Str).Nodup by decide+kernel)) (fy))),nH (eZ (aI (aP Z (X.mono (by decide)) (af (aJ (aa 2) (aa 0)) (af (aJ (aa 2) (aa 1)) (aj) bA) bA)))),cG (af (aI (bW (aa 3) (aa 0))) (af (aI (bW (aa 3) (aa 1))) (aj) fC) fC)⟩))))))
end
section
variable {P:Program}{w:World}{K:W.Frag}{mg:Str->Option Value}{base:Heap}
theorem qw(F:Fun K "_law_state" "_law_state" (top 35) f fd)(Y:mg "_law_state"=some (.ref f))(T:Txt K mg)(Z:DefX P w K mg base 1 "_law_cell_at" ["_law_script","_law_k"] df):DefX P w K mg base 2 "_law_state" ["_law_script","_law_k"] fD:=
 b9 (m:=lO) F Y (F.binds fun _ _ _ _ _ _ us X=>match us,X with|[_,_],_=>rfl) kE rfl fun U A outer s H E S=>
  aw (ba 2 kE.nd (aP Z (S.mono (by decide)) (af (aa 0) (af (aa 1) (aj) au) au)) (hs:=gL)) (aw (cO (HS (aa 2) (Ay (av) (av))) (aL (a7 (bI (af (oz (aa 2) (Ay (av) (av))) (af (fj) (aj) aD) fC)))) (cy)) (aL (a7 (bI (af (mr (aa 2) (av)) (af (fj) (aj) aD) fC)))))
end
section
variable {P:Program}{w:World}{K:W.Frag}{mg:Str->Option Value}{base:Heap}
theorem qx(F:Fun K "_law_drawn" "_law_drawn" (top 37) f fd)(X:mg "_law_drawn"=some (.ref f))(T:Txt K mg)(Z:DefX P w K mg base 1 "_law_take" ["_law_state_here","_law_many"] az):DefX P w K mg base 2 "_law_drawn" ["_law_state_here","_law_many","_law_often"] bB:=
 b9 (m:=gQ) F X (F.binds fun _ _ _ _ _ _ us U=>match us,U with|[_,_,_],_=>rfl) iO rfl fun S A outer s H E Y=>
  aw (ba 3 iO.nd (bI (aj)) (hs:=gK)) (aw (iH (b:=dI) LU rfl (fY T.b_range (aa 1)) (aW 4 iO.nd) (aL (fx (yI (aa 3) (aI (jf (t:=eW) (m:=eX) (qp (Nc:=["_law_b","_law_state_here","_law_often","_law_a"]) (js:=[none,some 0,some 2,some 4]) (aq (top 37)) ["_law_state_here","_law_many","_law_often","_law_ties","_law_a"] (fun _=>rfl) rfl (by decide+kernel)) rfl (iV T.b_range (bW (aa 4) (av)) (aa 1)) (fun C ex s2 R=>⟨aW 0 (show(["_law_b","_law_state_here","_law_often","_law_a"]:List Str).Nodup by decide+kernel),nH (mR (A9 Y) (aI (aP Z (Y.mono (by decide)) (af (aa 1) (af (av) (aj) aD) au))) (aa 2)),cG (af (aa 3) (af (aa 0) (aj) au) au)⟩))))))) (aL (a7 (cG (af (aa 1) (af (fA T.b_tuple (aa 3)) (aj) aS) au)))))
end
section
variable {P:Program}{w:World}{K:W.Frag}{mg:Str->Option Value}{base:Heap}
theorem qy(F:Fun K "_law_mixed" "_law_mixed" (top 39) f fd)(X:mg "_law_mixed"=some (.ref f))(T:Txt K mg)(Z:DefX P w K mg base 1 "_law_take" ["_law_state_here","_law_many"] az):DefX P w K mg base 2 "_law_mixed" ["_law_state_here","_law_many"] bY:=
 b9 (m:=gR) F X (F.binds fun _ _ _ _ _ _ us U=>match us,U with|[_,_],_=>rfl) iP rfl fun S A outer s H E Y=>
  aw (ba 2 iP.nd (sx rfl T.b_list T.b_range (aa 1)) (hs:=gL)) (aw (ba 3 iP.nd (bI (aj)) (hs:=gK)) (aw (Aw (b:=dJ) 64 LU (mS (iX Y) (aa 2) (aI (bI (aj)))) (aL (fx (fX (aa 3) (AN (aa 2) (aI (aP Z (Y.mono (by decide)) (af (aa 0) (af (dY T.b_len (aa 2)) (aj) aS) au)))))))) (aL (a7 (fA T.b_tuple (aa 3))))))
end
section
variable {P:Program}{w:World}{K:W.Frag}{mg:Str->Option Value}{base:Heap}
theorem nD(F:Fun K "_law_bad_web" "_law_bad_web" (top 46) f fd)(S:mg "_law_bad_web"=some (.ref f))(T:Txt K mg)(Z:DefX P w K mg base 1 "_law_take" ["_law_state_here","_law_many"] az):DefX P w K mg base 2 "_law_bad_web" ["_law_state_here"] dh:=by
 refine b9 (m:=fF) F S (F.binds fun _ _ _ _ _ _ us R=>match us,R with|[_],_=>rfl) jA rfl fun Y A outer s H E Q=>?_
 have key:∀ e pos pos' X,SE (jC (ky P w) P w K mg base ["_law_state_here","_law_some"] "_law_bad_web" (aq (top 46)) f Y A outer s H E).nox cA e X->swapsWith e (some (.Name "_law_some" pos')) pos.line (jC (ky P w) P w K mg base ["_law_state_here","_law_some"] "_law_bad_web" (aq (top 46)) f Y A outer s H E).nox.env=pure false->SS (jC (ky P w) P w K mg base ["_law_state_here","_law_some"] "_law_bad_web" (aq (top 46)) f Y A outer s H E).nox cA (.Assign [.Name "_law_some" pos'] e pos) (bp 1 X):=fun e pos pos' X h hs=>ba 1 jA.nd h (hs:=hs);have U:∀ pos,SE (jC (ky P w) P w K mg base ["_law_state_here","_law_some"] "_law_bad_web" (aq (top 46)) f Y A outer s H E).nox cA (.Name "_law_some" pos) (mV 1):=fun pos=>aa 1;refine aw ?_ ?_
 ·with_reducible refine key _ _ _ _ ?_ gK
  with_reducible refine bI ?_
  with_reducible refine bb (kI) ?_ aD
  with_reducible refine bb (av) ?_ aD
  with_reducible refine bb (dz 6 ?_) ?_ bu
  case refine_1=>rfl
  with_reducible refine bb (dz 6 ?_) ?_ bu
  case refine_1=>rfl
  with_reducible refine bb (dz 6 ?_) ?_ bu
  case refine_1=>rfl
  with_reducible refine bb (dz 6 ?_) ?_ bu
  case refine_1=>rfl
  with_reducible refine bb ?_ ?_ bu
  case refine_1=>exact(cG (af (av) (af (bI (aj)) (aj) lK) aD))
  with_reducible refine bb ?_ ?_ lK
  case refine_1=>exact(bI (af (av) (af (dz 6 rfl) (aj) bu) aD))
  with_reducible refine bb (dz 6 ?_) ?_ bu
  case refine_1=>rfl
  with_reducible refine bb (dz 6 ?_) ?_ bu
  case refine_1=>rfl
  exact aj
 refine aw ?_ ?_
 ·with_reducible refine key _ _ _ _ ?_ cg
  with_reducible refine bW (U _) ?_
  with_reducible refine bI ?_
  with_reducible refine bb (dz 6 ?_) ?_ bu
  case refine_1=>rfl
  with_reducible refine bb (dz 6 ?_) ?_ bu
  case refine_1=>rfl
  with_reducible refine bb (dz 6 ?_) ?_ bu
  case refine_1=>rfl
  with_reducible refine bb (dz 6 ?_) ?_ bu
  case refine_1=>rfl
  with_reducible refine bb (dz 6 ?_) ?_ bu
  case refine_1=>rfl
  exact aj
 refine aw ?_ ?_
 ·with_reducible refine key _ _ _ _ ?_ cg
  with_reducible refine bW (U _) ?_
  exact bI (af (dz 6 rfl) (af (sf) (af (FK) (aj) Dg) aD) bu)
 refine aw ?_ ?_
 ·with_reducible refine key _ _ _ _ ?_ cg
  with_reducible refine bW (U _) ?_
  with_reducible refine bI ?_
  with_reducible refine bb ?_ ?_ bu
  case refine_1=>exact(cG (af (av) (af (cG (af (bI (af (av) (af (av) (aj) aD) aD)) (aj) lK)) (aj) bu) aD))
  with_reducible refine bb (dz 6 ?_) ?_ bu
  case refine_1=>rfl
  with_reducible refine bb (dz 6 ?_) ?_ bu
  case refine_1=>rfl
  with_reducible refine bb (dz 6 ?_) ?_ bu
  case refine_1=>rfl
  exact aj
 exact(aL (a7 (aJ (aa 1) (aP Z (Q.mono (by decide)) (af (aa 0) (af (av) (aj) aD) au)))))
end
section
variable {P:Program}{w:World}{K:W.Frag}{mg:Str->Option Value}{base:Heap}
theorem zN(F:Fun K "is_tie" "is_tie" (top 20) f fd)(U:mg "is_tie"=some (.ref f))(T:Txt K mg)(Y:DefX P w K mg base 1 "is_pair" ["thing"] de)(Z:DefX P w K mg base 2 "is_place" ["many","thing"] gf):DefX P w K mg base 3 "is_tie" ["many","thing"] jZ:=
 b9 (m:=pD) F U (F.binds fun _ _ _ _ _ _ us S=>match us,S with|[_,_],_=>rfl) mJ rfl fun R A outer s H E X=>
  aw (cO (gX (eZ (aP Y (X.mono (by decide)) (af (aa 1) (aj) au)))) (aL (a7 (fj))) (cy)) (aw (jP (aa 1) (jc rfl (bE (aW 2 mJ.nd) (bE (aW 3 mJ.nd) (fy))))) (aL (a7 (jb (aP Z (X.mono (by decide)) (af (aa 0) (af (aa 2) (aj) au) au)) (jb (aP Z (X.mono (by decide)) (af (aa 0) (af (aa 3) (aj) au) au)) (ja (Ej (A9 X) (aa 2) (aa 3))))))))
end
section
variable {P:Program}{w:World}{K:W.Frag}{mg:Str->Option Value}{base:Heap}
theorem mM(F:Fun K "_law_few_ties" "_law_few_ties" (top 40) f fd)(U:mg "_law_few_ties"=some (.ref f))(T:Txt K mg)(Z:DefX P w K mg base 1 "_law_take" ["_law_state_here","_law_many"] az)(Y:DefX P w K mg base 2 "_law_mixed" ["_law_state_here","_law_many"] bY):DefX P w K mg base 3 "_law_few_ties" ["_law_state_here","_law_most"] bw:=
 b9 (m:=eY) F U (F.binds fun _ _ _ _ _ _ us S=>match us,S with|[_,_],_=>rfl) bD rfl fun R A outer s H E X=>
  aw (ba 2 bD.nd (bW (av) (aI (aP Z (X.mono (by decide)) (af (aa 0) (af (sr rfl T.b_min (af (av) (af (bW (aa 1) (av)) (aj) fC) aD)) (aj) aS) au)))) (hs:=cg)) (aw (ba 3 bD.nd (aI (aP Y (X.mono (by decide)) (af (aa 0) (af (aa 2) (aj) au) au))) (hs:=gL)) (aw (ba 4 bD.nd (bI (aj)) (hs:=gK)) (aw (iH (b:=bQ) LU rfl (iV T.b_range (av) (aa 2)) (aW 5 bD.nd) (aL (cO (AA (aI (aP Z (X.mono (by decide)) (af (aa 0) (af (av) (aj) aD) au))) (av)) (aw (FB 6 7 rfl bD.nd (af (aJ (aa 3) (aa 5)) (af (aJ (aa 3) (aI (aP Z (X.mono (by decide)) (af (aa 0) (af (aa 5) (aj) au) au)))) (aj) bA) bA)) (aL (fx (fX (aa 4) (cG (af (sr rfl T.b_min (af (aa 6) (af (aa 7) (aj) au) au)) (af (sm rfl T.b_max (af (aa 6) (af (aa 7) (aj) au) au)) (aj) aS) aS)))))) (cy)))) (aw (iH (b:=bR) LU rfl (fY T.b_range (aI (aP Z (X.mono (by decide)) (af (aa 0) (af (av) (aj) aD) au)))) (aW 8 bD.nd) (aw (jP (aI (f7 T.b_sorted (aI (bI (af (aI (aP Z (X.mono (by decide)) (af (aa 0) (af (aa 2) (aj) au) au))) (af (aI (aP Z (X.mono (by decide)) (af (aa 0) (af (aa 2) (aj) au) au))) (aj) aS) aS))))) (BQ rfl (bE (aW 9 bD.nd) (bE (aW 10 bD.nd) (fy))))) (aL (cO (mR (A9 X) (aa 9) (aa 10)) (aL (fx (fX (aa 4) (cG (af (aa 9) (af (aa 10) (aj) au) au))))) (cy))))) (aL (a7 (cG (af (aa 2) (af (fA T.b_tuple (aI (f7 T.b_sorted (aI (ug (aI (sI rfl (Kq X) T.b_sorted T.b_set (aa 4))) (xg) (xh (aa 1))))))) (aj) aS) au))))))))
end
section
variable {P:Program}{w:World}{K:W.Frag}{mg:Str->Option Value}{base:Heap}
theorem zO(F:Fun K "is_web" "is_web" (top 22) f fd)(R:mg "is_web"=some (.ref f))(T:Txt K mg)(Y:DefX P w K mg base 1 "is_whole" ["thing"] cJ)(X:DefX P w K mg base 1 "is_pair" ["thing"] de)(U:DefX P w K mg base 3 "is_tie" ["many","thing"] jZ)(Z:DefX P w K mg base 1 "is_rising" ["things"] fq):DefX P w K mg base 4 "is_web" ["thing"] iY:=
 b9 (m:=pE) F R (F.binds fun _ _ _ _ _ _ us O=>match us,O with|[_],_=>rfl) mL rfl fun Q A outer s H E S=>
  aw (cO (gX (eZ (aI (aP X (S.mono (by decide)) (af (aa 0) (aj) au))))) (aL (a7 (fj))) (cy)) (aw (jP (aa 0) (jc rfl (bE (aW 1 mL.nd) (bE (aW 2 mL.nd) (fy))))) (aw (cO (yB (qL (gX (eZ (aI (aP Y (S.mono (by decide)) (af (aa 1) (aj) au))))) (qL (gX (AC Ac Ac (ke fun _ _ _ _=>.bl _) (ke fun _ _ _ _=>.bl _) (av) (aa 1) (o7 rfl T.g_MOST_PLACES))) (oy (gX (eZ (iI (Ts:="tuple") T.b_isinstance T.b_tuple (aa 2)))))))) (aL (a7 (fj))) (cy)) (aL (a7 (jb (vQ rfl T.b_all (aI (jf (t:=iB) (m:=iD) (qp (Nc:=["tie","many"]) (js:=[none,some 1]) (aq (top 22)) ["thing","many","ties"] (fun _=>rfl) rfl (by decide+kernel)) rfl (kL (aa 2)) (fun C ex s2 N=>⟨aW 0 (show(["tie","many"]:List Str).Nodup by decide+kernel),ir,aI (aP U (S.mono (by decide)) (af (aa 1) (af (aa 0) (aj) au) au))⟩)))) (ja (aI (aP Z (S.mono (by decide)) (af (aa 2) (aj) au)))))))))
end
section
variable {P:Program}{w:World}{K:W.Frag}{mg:Str->Option Value}{base:Heap}
theorem vp(F:Fun K "_law_web" "_law_web" (top 42) f fd)(O:mg "_law_web"=some (.ref f))(T:Txt K mg)(Z:DefX P w K mg base 1 "_law_take" ["_law_state_here","_law_many"] az)(U:DefX P w K mg base 2 "_law_drawn" ["_law_state_here","_law_many","_law_often"] bB)(R:DefX P w K mg base 1 "_law_made" ["_law_web_here"] ft)(X:DefX P w K mg base 2 "_law_mixed" ["_law_state_here","_law_many"] bY)(Y:DefX P w K mg base 3 "_law_few_ties" ["_law_state_here","_law_most"] bw)(S:DefX P w K mg base 1 "_law_named" ["_law_web_here","_law_names"] eA):DefX P w K mg base 4 "_law_web" ["_law_state_here","_law_most"] gi:=
 b9 (m:=jt) F O (F.binds fun _ _ _ _ _ _ us L=>match us,L with|[_,_],_=>rfl) dv rfl fun N A outer s H E Q=>
  aw (ba 2 dv.nd (aI (aP Z (Q.mono (by decide)) (af (aa 0) (af (av) (aj) aD) au))) (hs:=gL)) (aw (cO (mR (A9 Q) (aa 2) (av)) (aw (ba 3 dv.nd (oz (aa 1) (aJ (aI (bI (by (refine bb (av) ?_ aD;refine bb (av) ?_ aD;refine bb (av) ?_ aD;refine bb (av) ?_ aD;refine bb (av) ?_ aD;refine bb (aa 1) ?_ au;exact aj)))) (aI (aP Z (Q.mono (by decide)) (af (aa 0) (af (av) (aj) aD) au))))) (hs:=cg)) (aL (a7 (aI (aP U (Q.mono (by decide)) (af (aa 0) (af (sm rfl T.b_max (af (av) (af (aa 3) (aj) au) aD)) (af (bW (aa 2) (av)) (aj) fC) aS) au)))))) (cy)) (aw (ba 4 dv.nd (aI (aP R (Q.mono (by decide)) (af (aI (aP Y (Q.mono (by decide)) (af (aa 0) (af (aa 1) (aj) au) au))) (aj) aS))) (hs:=gL)) (aw (ba 4 dv.nd (aI (aP S (Q.mono (by decide)) (af (aa 4) (af (aI (aP X (Q.mono (by decide)) (af (aa 0) (af (aJ (aa 4) (av)) (aj) bA) au))) (aj) aS) au))) (hs:=gL)) (aw (cO (yB (qL (El (iX Q) (aa 2) (av)) (oy (mR (A9 Q) (aJ (aa 4) (av)) (av))))) (aL (a7 (aa 4))) (cy)) (aw (jP (aI (f7 T.b_sorted (aI (bI (af (aI (aP Z (Q.mono (by decide)) (af (aa 0) (af (aJ (aa 4) (av)) (aj) bA) au))) (af (aI (aP Z (Q.mono (by decide)) (af (aa 0) (af (aJ (aa 4) (av)) (aj) bA) au))) (aj) aS) aS))))) (BQ rfl (bE (aW 5 dv.nd) (bE (aW 6 dv.nd) (fy))))) (aw (vL 7 (t:=eR) (m:=eS) dv.nd (qp (Nc:=["_law_tie","_law_a","_law_b"]) (js:=[none,some 5,some 6]) (aq (top 42)) ["_law_state_here","_law_most","_law_way","_law_many","_law_web_here","_law_a","_law_b","_law_ties"] (fun _=>rfl) rfl (by decide+kernel)) rfl (kL (aJ (aa 4) (av))) (fun C ex s2 J=>⟨aW 0 (show(["_law_tie","_law_a","_law_b"]:List Str).Nodup by decide+kernel),nH (mS (iX Q) (aa 0) (cG (af (aa 1) (af (aa 2) (aj) au) au))),aa 0⟩)) (aw (cO (yB (FA (mR (A9 Q) (aa 5) (aa 6)) (C1 (El (iX Q) (dY T.b_len (aa 7)) (dY T.b_len (aJ (aa 4) (av))))))) (aL (fx (fX (aa 7) (cG (af (aa 5) (af (aa 6) (aj) au) au))))) (cy)) (aL (a7 (cG (af (aJ (aa 4) (av)) (af (fA T.b_tuple (aI (f7 T.b_sorted (aa 7)))) (aj) aS) bA)))))))))))
end
section
variable {P:Program}{w:World}{K:W.Frag}{mg:Str->Option Value}{base:Heap}
theorem vt(F:Fun K "need_web" "need_web" (top 23) f fd)(Y:mg "need_web"=some (.ref f))(T:Txt K mg)(Z:DefX P w K mg base 4 "is_web" ["thing"] iY):DefX P w K mg base 5 "need_web" ["thing"] ff:=
 nP (m:=pF) F Y (F.binds fun _ _ _ _ _ _ us X=>match us,X with|[_],_=>rfl) vj rfl fun U A outer s H E S=>
  aL (cO (gX (eZ (aI (d5 Z (S.mono (by decide)) cT.pass (af (aa 0) (aj) au))))) (aL (Bj cT rfl T.err (by decide) (by decide) (af (sf) (aj) aD))) (cy))
end
section
variable {P:Program}{w:World}{K:W.Frag}{mg:Str->Option Value}{base:Heap}
theorem tQ(F:Fun K "need_room" "need_room" (top 28) f fd)(X:mg "need_room"=some (.ref f))(T:Txt K mg)(U:GrX P w K mg base)(Z:DefX P w K mg base 5 "need_web" ["thing"] ff):DefX P w K mg base 6 "need_room" ["web"] cu:=
 nP (m:=gw) F X (F.binds fun _ _ _ _ _ _ us S=>match us,S with|[_],_=>rfl) lV rfl fun R A outer s H E Y=>
  aw (fx (aI (d5 Z (Y.mono (by decide)) cT.pass (af (aa 0) (aj) au)))) (aw (ba 1 lV.nd (bW (aJ (aa 0) (av)) (dY T.b_len (aJ (aa 0) (av)))) (hs:=cg)) (aL (cO (AA (aa 1) (o7 rfl T.g_MOST_PLACES)) (aL (BJ cT rfl T.err U (Y.mono (by decide)) (af (aa 1) (af (o7 rfl T.g_MOST_PLACES) (aj) au) au))) (cy))))
end
section
variable {P:Program}{w:World}{K:W.Frag}{mg:Str->Option Value}{base:Heap}
theorem tR(F:Fun K "midst_web" "midst_web" (top 31) f fd)(U:mg "midst_web"=some (.ref f))(T:Txt K mg)(Y:DefX P w K mg base 6 "need_room" ["web"] cu)(Z:DefX P w K mg base 1 "ties_to_midsts" ["web"] cm):DefX P w K mg base 7 "midst_web" ["web"] dq:=
 nP (m:=iE) F U (F.binds fun _ _ _ _ _ _ us S=>match us,S with|[_],_=>rfl) tJ rfl fun R A outer s H E X=>
  aw (fx (aI (d5 Y (X.mono (by decide)) cT.pass (af (aa 0) (aj) au)))) (aL (a7 (cG (af (bW (aJ (aa 0) (av)) (dY T.b_len (aJ (aa 0) (av)))) (af (fA T.b_tuple (aI (f7 T.b_sorted (aI (d5 Z (X.mono (by decide)) cT.pass (af (aa 0) (aj) au)))))) (aj) aS) fC))))
end
section
variable {P:Program}{w:World}{K:W.Frag}{mg:Str->Option Value}{base:Heap}
theorem tS(F:Fun K "whole_web" "whole_web" (top 32) f fd)(S:mg "whole_web"=some (.ref f))(T:Txt K mg)(X:DefX P w K mg base 6 "need_room" ["web"] cu)(Y:DefX P w K mg base 1 "ties_to_midsts" ["web"] cm)(Z:DefX P w K mg base 2 "ties_of_midsts" ["web"] dg):DefX P w K mg base 7 "whole_web" ["web"] du:=
 nP (m:=iF) F S (F.binds fun _ _ _ _ _ _ us R=>match us,R with|[_],_=>rfl) lW rfl fun Q A outer s H E U=>
  aw (fx (aI (d5 X (U.mono (by decide)) cT.pass (af (aa 0) (aj) au)))) (aw (ba 1 lW.nd (aI (bW (aI (bW (aI (C5 T.b_list (aJ (aa 0) (av)))) (aI (d5 Y (U.mono (by decide)) cT.pass (af (aa 0) (aj) au))))) (aI (d5 Z (U.mono (by decide)) cT.pass (af (aa 0) (aj) au))))) (hs:=cg)) (aL (a7 (cG (af (bW (aJ (aa 0) (av)) (dY T.b_len (aJ (aa 0) (av)))) (af (fA T.b_tuple (aI (f7 T.b_sorted (aa 1)))) (aj) aS) fC)))))
end
section
variable {P:Program}{w:World}{K:W.Frag}{mg:Str->Option Value}{base:Heap}
theorem qz(F:Fun K "_law_same" "_law_same" (top 44) f fd)(X:mg "_law_same"=some (.ref f))(T:Txt K mg)(Z:DefX P w K mg base (1+j) "_law_same" ["_law_found","_law_due"] F0):DefX P w K mg base (1+j+1) "_law_same" ["_law_found","_law_due"] (kY 2 2 (cU F0)):=
 b9 (m:=cU F0) F X (F.binds fun _ _ _ _ _ _ us U=>match us,U with|[_,_],_=>rfl) tK rfl fun S A outer s H E Y=>
  aw (cO (eZ (C7 (Ts:="tuple") (Us:="list") T.b_isinstance T.b_tuple T.b_list (aa 1))) (aw (cO (yB (qL (mS (iX Y) (iI (Ts:="tuple") T.b_isinstance T.b_tuple (aa 0)) (iI (Ts:="tuple") T.b_isinstance T.b_tuple (aa 1))) (oy (mS (iX Y) (iI (Ts:="list") T.b_isinstance T.b_list (aa 0)) (iI (Ts:="list") T.b_isinstance T.b_list (aa 1)))))) (aL (a7 (fj))) (cy)) (aw (cO (mS (iX Y) (dY T.b_len (aa 0)) (dY T.b_len (aa 1))) (aL (a7 (fj))) (cy)) (aL (a7 (vQ rfl T.b_all (aI (jf (t:=fG F0) (m:=fH F0) (qp (Nc:=["_law_one","_law_other"]) (js:=[none,none]) (aq (top 44)) ["_law_found","_law_due"] (fun _=>rfl) rfl (by decide+kernel)) rfl (xD T.b_zip (aa 0) (aa 1)) (fun C ex s2 R=>⟨jc rfl (bE (aW 0 (show(["_law_one","_law_other"]:List Str).Nodup by decide+kernel)) (bE (aW 1 (show(["_law_one","_law_other"]:List Str).Nodup by decide+kernel)) (fy))),ir,aI (aP Z (Y.mono (Kz _)) (af (aa 0) (af (aa 1) (aj) au) au))⟩)))))))) (cy)) (aL (a7 (jb (AE (iX Y) (aa 0) (aa 1)) (ja (AE (iX Y) (iI (Ts:="bool") T.b_isinstance T.b_bool (aa 0)) (iI (Ts:="bool") T.b_isinstance T.b_bool (aa 1)))))))
theorem kF(F:Fun K "_law_same" "_law_same" (top 44) f fd)(Z:mg "_law_same"=some (.ref f))(T:Txt K mg):∀ n,DefX P w K mg base (1+n) "_law_same" ["_law_found","_law_due"] (bN n)
 |0=>DefX.none F Z (F.binds fun _ _ _ _ _ _ us Y=>match us,Y with|[_,_],_=>rfl)
 |n+1=>qz F Z T (kF F Z T n)
theorem tT(F:Fun K "_law_same" "_law_same" (top 44) f fd)(Z:mg "_law_same"=some (.ref f))(T:Txt K mg):DefX P w K mg base 7 "_law_same" ["_law_found","_law_due"] cw:=kF F Z T 6
end
section
variable {P:Program}{w:World}{K:W.Frag}{mg:Str->Option Value}{base:Heap}
theorem nE(F:Fun K "_law_refused" "_law_refused" (top 43) f fd)(Z:mg "_law_refused"=some (.ref f))(T:Txt K mg):RefX P w K mg 9 8 "_law_refused" ["_law_call"] bf:=
 Bo (m:=fJ) F Z (F.binds fun _ _ _ _ _ _ us X=>match us,X with|[_],_=>rfl) b8 rfl fun base G a R ql ds vs S L Y A outer s H E U=>
  aw (ba 1 b8.nd (kI) (hs:=jV)) (aw (Ge rfl rfl L (U.mono (by decide)) b8.nd T.err G rfl (.inl rfl) rfl rfl rfl rfl rfl) (aw (ba 3 b8.nd (aI (bI (af (ez T.err (by decide) G T.b_isinstance (aa 1)) (af (ez T.err (by decide) G T.b_isinstance (aa 1)) (af (ez T.err (by decide) G T.b_isinstance (aa 1)) (aj) aS) aS) aS))) (hs:=gK)) (aw (ba 3 b8.nd (aI (bW (aa 3) (aI (bI (af (ez T.err (by decide) G T.b_isinstance (aa 1)) (af (ez T.err (by decide) G T.b_isinstance (aa 1)) (af (ez T.err (by decide) G T.b_isinstance (aa 1)) (aj) aS) aS) aS))))) (hs:=cg)) (aw (ba 3 b8.nd (aI (bW (aa 3) (aI (bI (af (ez T.err (by decide) G T.b_isinstance (aa 1)) (af (ez T.err (by decide) G T.b_isinstance (aa 1)) (af (ez T.err (by decide) G T.b_isinstance (aa 1)) (aj) aS) aS) aS))))) (hs:=cg)) (aw (ba 3 b8.nd (aI (bW (aa 3) (aI (bI (af (ez T.err (by decide) G T.b_isinstance (aa 1)) (af (ez T.err (by decide) G T.b_isinstance (aa 1)) (af (ez T.err (by decide) G T.b_isinstance (aa 1)) (aj) aS) aS) aS))))) (hs:=cg)) (aw (ba 3 b8.nd (aI (bW (aa 3) (aI (bI (af (ez T.err (by decide) G T.b_isinstance (aa 1)) (aj) aS))))) (hs:=cg)) (aw (cO (gX (eZ (Dm T.err T.b_isinstance T.b_ValueError (aa 1)))) (aL (a7 (kI))) (cy)) (aL (a7 (aI (jf (t:=dQ) (m:=dR) (qp (Nc:=["_law_k","_law_marks"]) (js:=[none,some 3]) (aq (top 43)) ["_law_call","_law_error","e","_law_marks"] (fun _=>rfl) rfl (by decide+kernel)) rfl (fY T.b_range (av)) (fun C ex s2 Q=>⟨aW 0 (show(["_law_k","_law_marks"]:List Str).Nodup by decide+kernel),nH (eZ (aJ (aa 1) (aa 0))),aa 0⟩))))))))))))
end
section
variable {P:Program}{w:World}{K:W.Frag}{mg:Str->Option Value}{base:Heap}
theorem lZ(F:Fun K "_law_too_great" "_law_too_great" (top 45) f fd)(U:mg "_law_too_great"=some (.ref f))(T:Txt K mg)(Z:RefX P w K mg 9 8 "_law_refused" ["_law_call"] bf)(cz:∀ f c es,bf f c es=aY c es)(Y:∀ base,Mod K mg base->DefX P w K mg base 7 "_law_same" ["_law_found","_law_due"] cw):RefX P w K mg 10 8 "_law_too_great" ["_law_call","_law_many","_law_most"] br:=
 Bo (m:=eB) F U (F.binds fun _ _ _ _ _ _ us R=>match us,R with|[_,_,_],_=>rfl) fR rfl fun base G a O ql ds vs Q L S A outer s H E X=>
  aw (ba 3 fR.nd (kI) (hs:=jV)) (aw (DH (cx:="TooGreat") (by decide) rfl rfl L (X.mono (by decide)) fR.nd T.err G rfl (.inl rfl) rfl rfl rfl rfl rfl) (aw (cO (yB (qL (HY (aa 3) (kI)) (oy (mS (iX X) (aI (DI Z cz G L (X.mono (by decide)) (aa 0) (aj))) (aI (bI (af (av) (aj) aD))))))) (aL (a7 (fj))) (cy)) (aL (a7 (aI (aP (Y _ G) (X.mono (by decide)) (af (aI (bI (af (DD T.err T.dk (aa 3)) (af (DE T.err T.dk (aa 3)) (aj) lM) lM))) (af (aI (bI (af (aa 1) (af (aa 2) (aj) au) au))) (aj) lK) lK)))))))
end
theorem zQ{P:Program}{w:World}{K:W.Frag}{L:Str->Option Value}{base:Heap}{f c k:Addr}{n:FuncData}(F:Fun K "law" "law" (top 48) f n)(T:Txt K L)(G:Mod K L base)(r:BaseL K L base)(TI:sO K)(l:W.nsIn K mainGlobals "law"=some (some (.ref f)))(B:W.tabIn K "law"=some (c,k))(X:∀ base,Mod K L base->DefX P w K L base 7 "midst_web" ["web"] dq)(Y:∀ base,Mod K L base->DefX P w K L base 7 "whole_web" ["web"] du)(J:∀ base,Mod K L base->DefX P w K L base 2 "_law_state" ["_law_script","_law_k"] fD)(S:∀ base,Mod K L base->DefX P w K L base 2 "_law_drawn" ["_law_state_here","_law_many","_law_often"] bB)(O:∀ base,Mod K L base->DefX P w K L base 3 "_law_few_ties" ["_law_state_here","_law_most"] bw)(z:∀ base,Mod K L base->DefX P w K L base 4 "_law_web" ["_law_state_here","_law_most"] gi)(U:RefX P w K L 9 8 "_law_refused" ["_law_call"] bf)(cz:∀ f c es,bf f c es=aY c es)(Q:∀ base,Mod K L base->DefX P w K L base 7 "_law_same" ["_law_found","_law_due"] cw)(Z:RefX P w K L 10 8 "_law_too_great" ["_law_call","_law_many","_law_most"] br)(dU:∀ f c es,br f c es=bS c es)(N:∀ base,Mod K L base->DefX P w K L base 2 "_law_bad_web" ["_law_state_here"] dh)(R:∀ base,Mod K L base->DefX P w K L base 1 "_law_midst" ["_law_web_here","_law_whole"] dD):FnOk P w K L base (ky P w) 11 f n ["_law_script"] (Bg K rl):=
 Gg (m:=BR) F jv rfl l B fun A outer s H E C=>
  aw (iH (b:=j4) LU rfl (fY T.b_range (sm rfl T.b_max (af (av) (af (sr rfl T.b_min (af (dY T.b_len (aa 0)) (af (av) (aj) aD) aS)) (aj) aS) aD))) (aW 1 jv.nd) (aw (ba 2 jv.nd (aP (J _ G) (C.mono (by decide)) (af (aa 0) (af (aa 1) (aj) au) au)) (hs:=gL)) (aw (ba 3 jv.nd (aI (bI (af (aI (aP (z _ G) (C.mono (by decide)) (af (aa 2) (af (av) (aj) aD) au))) (af (aI (aP (O _ G) (C.mono (by decide)) (af (aa 2) (af (av) (aj) aD) au))) (aj) aS) aS))) (hs:=gK)) (aw (ba 3 jv.nd (aI (bW (aa 3) (aI (bI (af (aI (aP (S _ G) (C.mono (by decide)) (af (aa 2) (af (av) (af (av) (aj) aD) aD) au))) (af (aI (aP (S _ G) (C.mono (by decide)) (af (aa 2) (af (av) (af (av) (aj) aD) aD) au))) (aj) aS) aS))))) (hs:=cg)) (aw (ba 3 jv.nd (by
   with_reducible refine aI (bW ?_ (aI (bI (af (dz 6 ?_) (af (dz 6 ?_) (af (dz 6 ?_) aj bu) bu) bu))))
   ·exact aa 3
   all_goals rfl) (hs:=cg)) (aw (iH (b:=j3) LU rfl (kL (aa 3)) (aW 4 jv.nd) (aw (ba 5 jv.nd (bW (aJ (aa 4) (av)) (dY T.b_len (aJ (aa 4) (av)))) (hs:=cg)) (aL (cO (AA (aa 5) (av)) (aw (cO (gX (eZ (aI (sQ (ql:="law.<locals>.<lambda>") (m:=pG) (xl:="law") Z dU (C.mono (by decide)) (fun _=>rfl) (by decide) B rfl rfl rfl r TI rfl (Dn (N3:=["_law_web_here"]) (js:=[4]) (aq (top 48)) ["_law_script","_law_k","_law_state_here","_law_some","_law_web_here","_law_many","_law_bad"] (fun _=>rfl) rfl (by decide+kernel)) (af (aa 5) (af (av) (aj) aD) au) (fun _ _ _ _=>rfl) (fun y v f2 o u p I s2 q t x=>aI (d5 (X _ v) (x.mono (by decide)) jk.pass (af (aa 0) (aj) au))))))) (aL (a7 (fj))) (cy)) (aL (cO (gX (eZ (aI (sQ (ql:="law.<locals>.<lambda>") (m:=pH) (xl:="law") Z dU (C.mono (by decide)) (fun _=>rfl) (by decide) B rfl rfl rfl r TI rfl (Dn (N3:=["_law_web_here"]) (js:=[4]) (aq (top 48)) ["_law_script","_law_k","_law_state_here","_law_some","_law_web_here","_law_many","_law_bad"] (fun _=>rfl) rfl (by decide+kernel)) (af (aa 5) (af (av) (aj) aD) au) (fun _ _ _ _=>rfl) (fun y v f2 o u p I s2 q t x=>aI (d5 (Y _ v) (x.mono (by decide)) jk.pass (af (aa 0) (aj) au))))))) (aL (a7 (fj))) (cy)))) (aL (cO (gX (eZ (aI (aP (Q _ G) (C.mono (by decide)) (af (aI (aP (X _ G) (C.mono (by decide)) (af (aa 4) (aj) au))) (af (aI (aP (R _ G) (C.mono (by decide)) (af (aa 4) (af (fj) (aj) aD) au))) (aj) aS) aS))))) (aL (a7 (fj))) (aL (cO (gX (eZ (aI (aP (Q _ G) (C.mono (by decide)) (af (aI (aP (Y _ G) (C.mono (by decide)) (af (aa 4) (aj) au))) (af (aI (aP (R _ G) (C.mono (by decide)) (af (aa 4) (af (fj) (aj) aD) au))) (aj) aS) aS))))) (aL (a7 (fj))) (cy))))))))) (aw (ba 6 jv.nd (aI (aP (N _ G) (C.mono (by decide)) (af (aa 2) (aj) au))) (hs:=gL)) (aw (cO (mS (iX C) (aI (sQ (ql:="law.<locals>.<lambda>") (m:=pI) (xl:="law") U cz (C.mono (by decide)) (fun _=>rfl) (by decide) B rfl rfl rfl r TI rfl (Dn (N3:=["_law_bad"]) (js:=[6]) (aq (top 48)) ["_law_script","_law_k","_law_state_here","_law_some","_law_web_here","_law_many","_law_bad"] (fun _=>rfl) rfl (by decide+kernel)) (aj) (fun _ _ _ _=>rfl) (fun y v f2 o u p I s2 q t x=>aI (d5 (X _ v) (x.mono (by decide)) jk.pass (af (aa 0) (aj) au))))) (aI (bI (af (av) (aj) aD)))) (aL (a7 (fj))) (cy)) (aL (cO (mS (iX C) (aI (sQ (ql:="law.<locals>.<lambda>") (m:=pJ) (xl:="law") U cz (C.mono (by decide)) (fun _=>rfl) (by decide) B rfl rfl rfl r TI rfl (Dn (N3:=["_law_bad"]) (js:=[6]) (aq (top 48)) ["_law_script","_law_k","_law_state_here","_law_some","_law_web_here","_law_many","_law_bad"] (fun _=>rfl) rfl (by decide+kernel)) (aj) (fun _ _ _ _=>rfl) (fun y v f2 o u p I s2 q t x=>aI (d5 (Y _ v) (x.mono (by decide)) jk.pass (af (aa 0) (aj) au))))) (aI (bI (af (av) (aj) aD)))) (aL (a7 (fj))) (cy))))))))))) (aL (a7 (fj)))
def EE:Stmt:=Ip (top 14)
theorem Ed:FnScope ["self","many","most"] ["self","many","most"] (aq EE):=⟨rfl,rfl,rfl,by decide+kernel,rfl,by decide+kernel,by decide+kernel⟩
abbrev lP:Program:=PySem.Challenge.rw_tiewebs_k70_midst_and_whole_webs.prog
abbrev kW(w:World):W.Frag:=KH.K0 w.params
theorem fk{K:W.Frag}{f c:Addr}{m:Value}(x q:Str)(Z:Stmt)(l:K.lookup f=some ⟨.type "function",none,.func (W.fnOf x q (iq Z) (dw Z) (aq Z) .none .none .none m none (.ref c) .none), #[]⟩)(h:W.codeIn K (.ref c) q=true)(k:W.keepIn K (.ref f)=true):Fun K x q Z f (W.fnOf x q (iq Z) (dw Z) (aq Z) .none .none .none m none (.ref c) .none):=Fw l h k
abbrev nK(w:World)(x:Str):Option (Option Value):=W.nsIn (kW w) mainGlobals x
theorem Kt(w:World)(Z:Str->Option Value)(fa:Addr)(h:Heap)(X:(kW w).In h)(G:h.Ns mainGlobals Z)(c1:Z "law"=some (.ref fa)):∃ fd:FuncData,(∀(s:Shared) (u:Value),BindsTo s fd ⟨[u],[]⟩ [("_law_script",u)])/\∀ base:Heap,Mod (kW w) Z base->BaseL (kW w) Z base->FnOk lP w (kW w) Z base (ky lP w) 11 fa fd ["_law_script"] (Bg (kW w) rl):=by
 have aG:nK w "TooGreat"=some (some (.ref 188)):=by kernel_rfl
 have j:kl (kW w) 188 185=true:=by kernel_rfl
 have FG:=@fk (kW w) 185 184 (KH.zs "tiewebs.errors" 187) "__init__" "TooGreat.__init__" EE (by kernel_rfl) (by kernel_rfl) (by kernel_rfl)
 have b6:nK w "is_whole"=some (some (.ref 197)):=by kernel_rfl
 have c4:=@fk (kW w) 197 196 (KH.zs "tiewebs.webs" 426) "is_whole" "is_whole" (top 17) (by kernel_rfl) (by kernel_rfl) (by kernel_rfl)
 have a3:nK w "is_pair"=some (some (.ref 204)):=by kernel_rfl
 have b3:=@fk (kW w) 204 203 (KH.zs "tiewebs.webs" 426) "is_pair" "is_pair" (top 18) (by kernel_rfl) (by kernel_rfl) (by kernel_rfl)
 have b1:nK w "is_place"=some (some (.ref 211)):=by kernel_rfl
 have a5:=@fk (kW w) 211 210 (KH.zs "tiewebs.webs" 426) "is_place" "is_place" (top 19) (by kernel_rfl) (by kernel_rfl) (by kernel_rfl)
 have h1:nK w "is_tie"=some (some (.ref 218)):=by kernel_rfl
 have e0:=@fk (kW w) 218 217 (KH.zs "tiewebs.webs" 426) "is_tie" "is_tie" (top 20) (by kernel_rfl) (by kernel_rfl) (by kernel_rfl)
 have d0:nK w "is_rising"=some (some (.ref 223)):=by kernel_rfl
 have c0:=@fk (kW w) 223 222 (KH.zs "tiewebs.webs" 426) "is_rising" "is_rising" (top 21) (by kernel_rfl) (by kernel_rfl) (by kernel_rfl)
 have g5:nK w "is_web"=some (some (.ref 228)):=by kernel_rfl
 have a0:=@fk (kW w) 228 227 (KH.zs "tiewebs.webs" 426) "is_web" "is_web" (top 22) (by kernel_rfl) (by kernel_rfl) (by kernel_rfl)
 have e7:nK w "need_web"=some (some (.ref 235)):=by kernel_rfl
 have h6:=@fk (kW w) 235 234 (KH.zs "tiewebs.webs" 426) "need_web" "need_web" (top 23) (by kernel_rfl) (by kernel_rfl) (by kernel_rfl)
 have a4:nK w "pairs_of"=some (some (.ref 240)):=by kernel_rfl
 have i1:=@fk (kW w) 240 239 (KH.zs "tiewebs.webs" 426) "pairs_of" "pairs_of" (top 24) (by kernel_rfl) (by kernel_rfl) (by kernel_rfl)
 have h3:nK w "ties_meet"=some (some (.ref 245)):=by kernel_rfl
 have f6:=@fk (kW w) 245 244 (KH.zs "tiewebs.ties" 487) "ties_meet" "ties_meet" (top 26) (by kernel_rfl) (by kernel_rfl) (by kernel_rfl)
 have i0:nK w "need_room"=some (some (.ref 252)):=by kernel_rfl
 have e1:=@fk (kW w) 252 251 (KH.zs "tiewebs.midsts" 495) "need_room" "need_room" (top 28) (by kernel_rfl) (by kernel_rfl) (by kernel_rfl)
 have d2:nK w "ties_to_midsts"=some (some (.ref 257)):=by kernel_rfl
 have c3:=@fk (kW w) 257 256 (KH.zs "tiewebs.midsts" 495) "ties_to_midsts" "ties_to_midsts" (top 29) (by kernel_rfl) (by kernel_rfl) (by kernel_rfl)
 have h8:nK w "ties_of_midsts"=some (some (.ref 262)):=by kernel_rfl
 have h9:=@fk (kW w) 262 261 (KH.zs "tiewebs.midsts" 495) "ties_of_midsts" "ties_of_midsts" (top 30) (by kernel_rfl) (by kernel_rfl) (by kernel_rfl)
 have d1:nK w "midst_web"=some (some (.ref 269)):=by kernel_rfl
 have e5:=@fk (kW w) 269 268 (KH.zs "tiewebs.midsts" 495) "midst_web" "midst_web" (top 31) (by kernel_rfl) (by kernel_rfl) (by kernel_rfl)
 have e2:nK w "whole_web"=some (some (.ref 276)):=by kernel_rfl
 have b4:=@fk (kW w) 276 275 (KH.zs "tiewebs.midsts" 495) "whole_web" "whole_web" (top 32) (by kernel_rfl) (by kernel_rfl) (by kernel_rfl)
 have f:nK w "_law_cell_at"=some (some (.ref 283)):=by kernel_rfl
 have b:=@fk (kW w) 283 282 (KH.zs "law_tiewebs_k70_midst_and_whole_webs" 532) "_law_cell_at" "_law_cell_at" (top 34) (by kernel_rfl) (by kernel_rfl) (by kernel_rfl)
 have g4:nK w "_law_state"=some (some (.ref 290)):=by kernel_rfl
 have c7:=@fk (kW w) 290 289 (KH.zs "law_tiewebs_k70_midst_and_whole_webs" 532) "_law_state" "_law_state" (top 35) (by kernel_rfl) (by kernel_rfl) (by kernel_rfl)
 have e8:nK w "_law_take"=some (some (.ref 297)):=by kernel_rfl
 have h4:=@fk (kW w) 297 296 (KH.zs "law_tiewebs_k70_midst_and_whole_webs" 532) "_law_take" "_law_take" (top 36) (by kernel_rfl) (by kernel_rfl) (by kernel_rfl)
 have e3:nK w "_law_drawn"=some (some (.ref 302)):=by kernel_rfl
 have f5:=@fk (kW w) 302 301 (KH.zs "law_tiewebs_k70_midst_and_whole_webs" 532) "_law_drawn" "_law_drawn" (top 37) (by kernel_rfl) (by kernel_rfl) (by kernel_rfl)
 have f3:nK w "_law_made"=some (some (.ref 309)):=by kernel_rfl
 have h7:=@fk (kW w) 309 308 (KH.zs "law_tiewebs_k70_midst_and_whole_webs" 532) "_law_made" "_law_made" (top 38) (by kernel_rfl) (by kernel_rfl) (by kernel_rfl)
 have h5:nK w "_law_mixed"=some (some (.ref 316)):=by kernel_rfl
 have b0:=@fk (kW w) 316 315 (KH.zs "law_tiewebs_k70_midst_and_whole_webs" 532) "_law_mixed" "_law_mixed" (top 39) (by kernel_rfl) (by kernel_rfl) (by kernel_rfl)
 have g8:nK w "_law_few_ties"=some (some (.ref 323)):=by kernel_rfl
 have g7:=@fk (kW w) 323 322 (KH.zs "law_tiewebs_k70_midst_and_whole_webs" 532) "_law_few_ties" "_law_few_ties" (top 40) (by kernel_rfl) (by kernel_rfl) (by kernel_rfl)
 have a:nK w "_law_named"=some (some (.ref 330)):=by kernel_rfl
 have g6:=@fk (kW w) 330 329 (KH.zs "law_tiewebs_k70_midst_and_whole_webs" 532) "_law_named" "_law_named" (top 41) (by kernel_rfl) (by kernel_rfl) (by kernel_rfl)
 have c2:nK w "_law_web"=some (some (.ref 335)):=by kernel_rfl
 have b2:=@fk (kW w) 335 334 (KH.zs "law_tiewebs_k70_midst_and_whole_webs" 532) "_law_web" "_law_web" (top 42) (by kernel_rfl) (by kernel_rfl) (by kernel_rfl)
 have c6:nK w "_law_refused"=some (some (.ref 340)):=by kernel_rfl
 have c5:=@fk (kW w) 340 339 (KH.zs "law_tiewebs_k70_midst_and_whole_webs" 532) "_law_refused" "_law_refused" (top 43) (by kernel_rfl) (by kernel_rfl) (by kernel_rfl)
 have e4:nK w "_law_same"=some (some (.ref 345)):=by kernel_rfl
 have d:=@fk (kW w) 345 344 (KH.zs "law_tiewebs_k70_midst_and_whole_webs" 532) "_law_same" "_law_same" (top 44) (by kernel_rfl) (by kernel_rfl) (by kernel_rfl)
 have c:nK w "_law_too_great"=some (some (.ref 352)):=by kernel_rfl
 have d3:=@fk (kW w) 352 351 (KH.zs "law_tiewebs_k70_midst_and_whole_webs" 532) "_law_too_great" "_law_too_great" (top 45) (by kernel_rfl) (by kernel_rfl) (by kernel_rfl)
 have h2:nK w "_law_bad_web"=some (some (.ref 359)):=by kernel_rfl
 have a6:=@fk (kW w) 359 358 (KH.zs "law_tiewebs_k70_midst_and_whole_webs" 532) "_law_bad_web" "_law_bad_web" (top 46) (by kernel_rfl) (by kernel_rfl) (by kernel_rfl)
 have g:nK w "_law_midst"=some (some (.ref 366)):=by kernel_rfl
 have b5:=@fk (kW w) 366 365 (KH.zs "law_tiewebs_k70_midst_and_whole_webs" 532) "_law_midst" "_law_midst" (top 47) (by kernel_rfl) (by kernel_rfl) (by kernel_rfl)
 have i:nK w "law"=some (some (.ref 373)):=by kernel_rfl
 have e6:=@fk (kW w) 373 372 (KH.zs "law_tiewebs_k70_midst_and_whole_webs" 532) "law" "law" (top 48) (by kernel_rfl) (by kernel_rfl) (by kernel_rfl)
 obtain⟨⟨ct,Pt⟩,k⟩:=LW.mp (show(W.tabIn (kW w) "law").isSome=true by kernel_rfl)
 have e:=c1.symm.trans (KW X G i);cases e;have T:Txt (kW w) Z:=⟨by kernel_rfl,by kernel_rfl,Ld X G (by kernel_rfl),Ld X G (by kernel_rfl),Ld X G (by kernel_rfl),Ld X G (by kernel_rfl),Ld X G (by kernel_rfl),Ld X G (by kernel_rfl),Ld X G (by kernel_rfl),Ld X G (by kernel_rfl),Ld X G (by kernel_rfl),Ld X G (by kernel_rfl),Ld X G (by kernel_rfl),Ld X G (by kernel_rfl),Ld X G (by kernel_rfl),Ld X G (by kernel_rfl),Ld X G (by kernel_rfl),Ld X G (by kernel_rfl),⟨428,KW X G (by kernel_rfl)⟩⟩
 have GR:∀ base,GrX lP w (kW w) Z base:=fun base=>BI FG X T.err aG j Ed (by decide+kernel) (FG.binds fun _ _ _ _ _ _ us hl=>match us,hl with|[_,_,_],_=>rfl) rfl
 refine⟨W.fnOf "law" "law" (iq (top 48)) (dw (top 48)) (aq (top 48)) .none .none .none (KH.zs "law_tiewebs_k70_midst_and_whole_webs" 532) none (.ref 372) .none,fun s v=>.of_eq rfl,fun base GM BL=>?_⟩;have I:∀ base,Mod (kW w) Z base->DefX lP w (kW w) Z base 1 "is_whole" ["thing"] cJ:=fun base U=>vk c4 (KW X G b6) T;have E:∀ base,Mod (kW w) Z base->DefX lP w (kW w) Z base 1 "is_pair" ["thing"] de:=fun base U=>wQ b3 (KW X G a3) T;have r:∀ base,Mod (kW w) Z base->DefX lP w (kW w) Z base 1 "is_rising" ["things"] fq:=fun base U=>tL c0 (KW X G d0) T;have p:∀ base,Mod (kW w) Z base->DefX lP w (kW w) Z base 1 "pairs_of" ["many"] fe:=fun base U=>vm i1 (KW X G a4) T;have t:∀ base,Mod (kW w) Z base->DefX lP w (kW w) Z base 1 "ties_meet" ["one","other"] gv:=fun base U=>tN f6 (KW X G h3) T;have S:∀ base,Mod (kW w) Z base->DefX lP w (kW w) Z base 1 "ties_to_midsts" ["web"] cm:=fun base U=>lX c3 (KW X G d2) T;have H:∀ base,Mod (kW w) Z base->DefX lP w (kW w) Z base 1 "_law_cell_at" ["_law_script","_law_k"] df:=fun base U=>nB b (KW X G f) T;have Y:∀ base,Mod (kW w) Z base->DefX lP w (kW w) Z base 1 "_law_take" ["_law_state_here","_law_many"] az:=fun base U=>tO h4 (KW X G e8) T;have x:∀ base,Mod (kW w) Z base->DefX lP w (kW w) Z base 1 "_law_made" ["_law_web_here"] ft:=fun base U=>tP h7 (KW X G f3) T;have B:∀ base,Mod (kW w) Z base->DefX lP w (kW w) Z base 1 "_law_named" ["_law_web_here","_law_names"] eA:=fun base U=>qu g6 (KW X G a) T;have A:∀ base,Mod (kW w) Z base->DefX lP w (kW w) Z base 1 "_law_midst" ["_law_web_here","_law_whole"] dD:=fun base U=>qv b5 (KW X G g) T;have n:∀ base,Mod (kW w) Z base->DefX lP w (kW w) Z base 2 "is_place" ["many","thing"] gf:=fun base U=>vo a5 (KW X G b1) T (I base U);have K:∀ base,Mod (kW w) Z base->DefX lP w (kW w) Z base 2 "ties_of_midsts" ["web"] dg:=fun base U=>lY h9 (KW X G h8) T (p base U) (t base U);have C:∀ base,Mod (kW w) Z base->DefX lP w (kW w) Z base 2 "_law_state" ["_law_script","_law_k"] fD:=fun base U=>qw c7 (KW X G g4) T (H base U);have P:∀ base,Mod (kW w) Z base->DefX lP w (kW w) Z base 2 "_law_drawn" ["_law_state_here","_law_many","_law_often"] bB:=fun base U=>qx f5 (KW X G e3) T (Y base U);have O:∀ base,Mod (kW w) Z base->DefX lP w (kW w) Z base 2 "_law_mixed" ["_law_state_here","_law_many"] bY:=fun base U=>qy b0 (KW X G h5) T (Y base U);have F:∀ base,Mod (kW w) Z base->DefX lP w (kW w) Z base 2 "_law_bad_web" ["_law_state_here"] dh:=fun base U=>nD a6 (KW X G h2) T (Y base U);have m:∀ base,Mod (kW w) Z base->DefX lP w (kW w) Z base 3 "is_tie" ["many","thing"] jZ:=fun base U=>zN e0 (KW X G h1) T (E base U) (n base U);have R:∀ base,Mod (kW w) Z base->DefX lP w (kW w) Z base 3 "_law_few_ties" ["_law_state_here","_law_most"] bw:=fun base U=>mM g7 (KW X G g8) T (Y base U) (O base U);have l:∀ base,Mod (kW w) Z base->DefX lP w (kW w) Z base 4 "is_web" ["thing"] iY:=fun base U=>zO a0 (KW X G g5) T (I base U) (E base U) (m base U) (r base U);have q:∀ base,Mod (kW w) Z base->DefX lP w (kW w) Z base 4 "_law_web" ["_law_state_here","_law_most"] gi:=fun base U=>vp b2 (KW X G c2) T (Y base U) (P base U) (x base U) (O base U) (R base U) (B base U);have o:∀ base,Mod (kW w) Z base->DefX lP w (kW w) Z base 5 "need_web" ["thing"] ff:=fun base U=>vt h6 (KW X G e7) T (l base U);have N:∀ base,Mod (kW w) Z base->DefX lP w (kW w) Z base 6 "need_room" ["web"] cu:=fun base U=>tQ e1 (KW X G i0) T (GR base) (o base U);have y:∀ base,Mod (kW w) Z base->DefX lP w (kW w) Z base 7 "midst_web" ["web"] dq:=fun base U=>tR e5 (KW X G d1) T (N base U) (S base U);have z:∀ base,Mod (kW w) Z base->DefX lP w (kW w) Z base 7 "whole_web" ["web"] du:=fun base U=>tS b4 (KW X G e2) T (N base U) (S base U) (K base U);have J:∀ base,Mod (kW w) Z base->DefX lP w (kW w) Z base 7 "_law_same" ["_law_found","_law_due"] cw:=fun base U=>tT d (KW X G e4) T;have Q:RefX lP w (kW w) Z 9 8 "_law_refused" ["_law_call"] bf:=nE c5 (KW X G c6) T;have L:RefX lP w (kW w) Z 10 8 "_law_too_great" ["_law_call","_law_many","_law_most"] br:=lZ d3 (KW X G c) T Q cz J;exact zQ e6 T GM BL (Gf (show Ep (kW w)=true by kernel_rfl)) i k y z C P R q Q cz J L dU F A
end W
section
namespace W
open PySem PySem.Spec PyProof.Rows L2 S3 S4 S7
theorem GZ(K:W.Frag)(H:Hp)(a:Addr)(ns:List Int)(X:TabsOk K H)(Z:Cs K H a (ns.map V.int)):Bg K rl [.ref a] H (fun v _=>v= .bl true) fun _ _ _=>False:=by
 obtain⟨d,U,e,hd⟩:=IG (S:=[]) (ns:=ns);refine⟨[],[],[.ro (ns.map D.int)],⟨.nil,rfl,(fun k a xs h=>by cases h),X⟩,.cons (.ro Z (oE ns)) .nil,?_⟩
 refine⟨.ok d,U,e,fun T R _ _=>?_⟩;subst hd;intro v Y;cases Y;rfl
theorem walk{l:W.OpenLaw}{q:Program}{loose:List Str}{XP:(Str->Option Value)->Heap->Prop}{YP:World->Heap->Prop}{d:DefRec}{K:Params->W.Frag}(R:l.most=some 63)(Y:d.params.defaults=[])
  (U:∀(w:World) (h:Heap),YP w h->(K w.params).In h) (S:∀ w:World,W.noTabs (K w.params)=true)
  (Z:∀(w:World) (h:Heap),YP w h->∀ y∈cC,∀ c Q,W.tabIn (K w.params) y=some (c,Q)->W.CodeHd h c Q/\h.get? Q=some (W.tabObj #[]))
  (F:∀(w:World) (mg:Str->Option Value) (fa:Addr) (h:Heap),(K w.params).In h->h.Ns mainGlobals mg->mg d.name=some (.ref fa)->
   ∃ fd:FuncData,(∀(s:Shared) (u:Value),BindsTo s fd ⟨[u],[]⟩ [("_law_script",u)])/\∀ base:Heap,Mod (K w.params) mg base->BaseL (K w.params) mg base->FnOk l.prog w (K w.params) mg base (ky l.prog w) 11 fa fd ["_law_script"] (Bg (K w.params) rl)):
  W.WalkO q loose XP YP l.row.toRowW d [] (fun f vs=>PySem.call f vs):=
 Bm (n:=63) (k:=11) (x:="_law_script") (sp:=fun w=>Bg (K w.params) rl) R (by decide) Y ⟨rfl,by decide,by decide⟩ U S Z F fun w H a ns _ X T=>GZ (K w.params) H a ns X T
end W
open PySem PySem.W PyProof.Rows
set_option maxRecDepth 100000 in
set_option maxHeartbeats 0 in
theorem PySem.Challenge.cw_tiewebs_k70_midst_and_whole_webs_holds : PySem.Challenge.rw_tiewebs_k70_midst_and_whole_webs.Holds := by
 w_on;o_law
 refine holds_open (q:=KH.vq) (loose:=[]) (Xt:=KH.Xt0) (XP:=XL KH.vq []) (Yf:=Hook.obs (kmHook KH.K0 KH.as0 KH.as0_eq KH.ts0)) (Ya:=Hook.val (kmHook KH.K0 KH.as0 KH.as0_eq KH.ts0)) (YP:=Hook.says (kmHook KH.K0 KH.as0 KH.as0_eq KH.ts0)) (N:=7938) KH.left0 (Hook.of (kmHook KH.K0 KH.as0 KH.as0_eq KH.ts0)) (Hook.keeps (kmHook KH.K0 KH.as0 KH.as0_eq KH.ts0)) (fun s e=>xl_of s (MY.mp e).1) XL.keeps (by rfl) (by rfl) (by rfl) (fun s e=>recFacts_of (MY.mp e).2) (by rfl) (by first|assumption|decide+kernel) (by decide+kernel) ⟨rfl,rfl,rfl,rfl,rfl,by decide+kernel⟩ ?hw ?hc
 case hw=>w_witness2
 refine W.walk (l:=PySem.Challenge.rw_tiewebs_k70_midst_and_whole_webs) rfl rfl (fun w h Y=>PySem.W.km_in_of Y) ?nt (fun w h Y=>S7.JR (w:=w) ?ck Y) W.Kt
 case nt=>intro w;kernel_rfl
 case ck=>kernel_rfl
end
