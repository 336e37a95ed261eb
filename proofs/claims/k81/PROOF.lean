import PyProof.Rows.All
import Wide.All
import OpenK.AllK
import Wide.FinOn
import PySem.Challenge.RW_tiewebs_k81_sizes_told_ahead
import Lean
import PyProof.EqAt
import PyProof.EqKinds
import PyProof.TupleCall
import PyProof.SetScanFacts
set_option Elab.async false
set_option linter.all false
set_option maxRecDepth 100000
set_option maxHeartbeats 8000000
section
namespace KH
open PySem PySem.W PySem.Spec PyProof.Rows
def tp (i : Nat) : Stmt := PySem.Challenge.pw_tiewebs_k81_sizes_told_ahead.main.body.getD i (.Pass ⟨0, 0, 0, 0⟩)
def iC : Stmt -> Stmt
 | .ClassDef _ _ _ (b :: _) .. => b
 | s => s
def dA (s : Stmt) : Arguments := match s with
 | .FunctionDef _ a _ _ _ _ _ _ _ _ => a
 | _ => { posonlyargs := [], args := [], vararg := none, kwonlyargs := [], kw_defaults := [], kwarg := none, defaults := [] }
def dB (s : Stmt) : List Stmt := match s with
 | .FunctionDef _ _ b _ _ _ _ _ _ _ => b
 | _ => []
def dS (s : Stmt) : Scope := match s with
 | .FunctionDef _ _ _ _ _ _ sc _ _ _ => sc
 | _ => { kind := .function, names := [], isGenerator := false, isCoroutine := false }
def zs (x : String) (t : Nat) : Value := .str (Str.ofString x) t
def ze (P : Params) (x : String) (t : Nat) (v : Value) : DictEntry := ⟨PyData.keyHash P (Str.ofString x), zs x t, v⟩
def zt (xs : Array Value) : Obj := ⟨.type "tuple", none, .seq xs, #[]⟩
def zc (n q : String) (a : Nat) (l ac p5 p6 fl : Int) (r8 : Value) (p10 : Int) (r11 r13 r14 r15 : Value) (p16 : Int) (t : Nat) : Obj := ⟨.type "code", none, .fields #[zs n a, zs q (a + 1), zs "/claim/cut.py" (a + 2), .int l 0, .int ac 0, .int p5 0, .int p6 0, .int fl 0, r8, .bool true, .int p10 0, r11, .none, r13, r14, r15, .int p16 0, .int l 0, zs "/claim/cut.py" t], #[]⟩
def zf (n q : String) (st : Stmt) (kV dc pm : Value) (an : Option Addr) (cd ct : Value) : Data := .func (PySem.W.fnOf (Str.ofString n) (Str.ofString q) (dA st) (dB st) (dS st) .none kV dc pm an cd ct)
def K0 (P : Params) : PySem.W.Frag := [
(2,⟨.none,none,(.dict #[] 0),#[]⟩),
(3,⟨(.type "dict"),none,(.dict #[ze P "__name__" 165 (zs "law_tiewebs_k81_sizes_told_ahead" 503),ze P "__doc__" 166 .none,ze P "__package__" 167 .none,ze P "__loader__" 168 (.builtin "__main__.__loader__#opaque"),ze P "__spec__" 169 .none,ze P "__annotations__" 170 (.ref 6),ze P "__builtins__" 171 (.ref 4),ze P "__file__" 173 (zs "/claim/cut.py" 172),ze P "__cached__" 174 .none,ze P "WebError" 206 (.ref 24),ze P "NoWeb" 222 (.ref 37),ze P "NoPlace" 238 (.ref 49),ze P "NoPlaces" 254 (.ref 61),ze P "NoMap" 270 (.ref 73),ze P "NoSharing" 286 (.ref 85),ze P "NoRoot" 302 (.ref 97),ze P "NoNumber" 318 (.ref 109),ze P "NotJoined" 334 (.ref 121),ze P "NoTie" 350 (.ref 133),ze P "NoText" 366 (.ref 145),ze P "NoLine" 382 (.ref 157),ze P "NoDeed" 398 (.ref 169),ze P "TooGreat" 425 (.ref 188),ze P "MOST_PLACES" 429 (.int 14 428),ze P "is_whole" 436 (.ref 197),ze P "is_pair" 443 (.ref 204),ze P "is_place" 451 (.ref 211),ze P "is_tie" 461 (.ref 218),ze P "is_rising" 467 (.ref 223),ze P "is_web" 473 (.ref 228),ze P "need_web" 480 (.ref 235),ze P "degrees" 486 (.ref 240),ze P "ties_ahead" 494 (.ref 245),ze P "sizes_ahead" 502 (.ref 250),ze P "_law_cell_at" 512 (.ref 257),ze P "_law_state" 521 (.ref 264),ze P "_law_take" 531 (.ref 271),ze P "_law_pairs" 537 (.ref 276),ze P "_law_mixed_row" 547 (.ref 283),ze P "_law_web" 553 (.ref 288),ze P "_law_great_web" 565 (.ref 295),ze P "_law_made" 571 (.ref 300),ze P "_law_bad_web" 579 (.ref 307),ze P "_law_same" 585 (.ref 312),ze P "_law_refused" 591 (.ref 317),ze P "law" 606 (.ref 324)] 46),#[]⟩),
(15,zt #[(.type "ValueError")]),
(22,zt #[]),
(23,⟨(.type "dict"),none,(.dict #[ze P "__module__" 196 (zs "tiewebs.errors" 187),ze P "__firstlineno__" 200 (.int 2 199),ze P "__static_attributes__" 201 (.ref 22),ze P "__weakref__" 203 (.ref 25),ze P "__doc__" 204 .none] 3),#[]⟩),
(24,⟨(.type "type"),none,(.cls ⟨(Str.ofString "WebError"),[(.type "ValueError")],[(.ref 24),(.type "ValueError"),(.type "Exception"),(.type "BaseException"),(.type "object")],23,(Str.ofString "WebError"),true,[],[(.ref 37),(.ref 49),(.ref 61),(.ref 73),(.ref 85),(.ref 97),(.ref 109),(.ref 121),(.ref 133),(.ref 145),(.ref 157),(.ref 169),(.ref 188)],false,none,false⟩),#[some (.ref 15),none,some (zs "WebError" 189),some (zs "WebError" 197),some (.builtin "ValueError.__new__"),some (.bool true)]⟩),
(25,⟨(.type "getset_descriptor"),none,(.fields #[(zs "__weakref__" 202),(.ref 24),(.builtin "ExceptionGroup.__weakref__"),.none]),#[]⟩),
(28,zt #[(.ref 24)]),
(35,zt #[]),
(36,⟨(.type "dict"),none,(.dict #[ze P "__module__" 214 (zs "tiewebs.errors" 187),ze P "__firstlineno__" 218 (.int 4 217),ze P "__static_attributes__" 219 (.ref 35),ze P "__doc__" 220 .none] 2),#[]⟩),
(37,⟨(.type "type"),none,(.cls ⟨(Str.ofString "NoWeb"),[(.ref 24)],[(.ref 37),(.ref 24),(.type "ValueError"),(.type "Exception"),(.type "BaseException"),(.type "object")],36,(Str.ofString "NoWeb"),true,[],[],false,none,false⟩),#[some (.ref 28),none,some (zs "NoWeb" 207),some (zs "NoWeb" 215),some (.builtin "ValueError.__new__"),some (.bool true)]⟩),
(40,zt #[(.ref 24)]),
(47,zt #[]),
(48,⟨(.type "dict"),none,(.dict #[ze P "__module__" 230 (zs "tiewebs.errors" 187),ze P "__firstlineno__" 234 (.int 6 233),ze P "__static_attributes__" 235 (.ref 47),ze P "__doc__" 236 .none] 2),#[]⟩),
(49,⟨(.type "type"),none,(.cls ⟨(Str.ofString "NoPlace"),[(.ref 24)],[(.ref 49),(.ref 24),(.type "ValueError"),(.type "Exception"),(.type "BaseException"),(.type "object")],48,(Str.ofString "NoPlace"),true,[],[],false,none,false⟩),#[some (.ref 40),none,some (zs "NoPlace" 223),some (zs "NoPlace" 231),some (.builtin "ValueError.__new__"),some (.bool true)]⟩),
(52,zt #[(.ref 24)]),
(59,zt #[]),
(60,⟨(.type "dict"),none,(.dict #[ze P "__module__" 246 (zs "tiewebs.errors" 187),ze P "__firstlineno__" 250 (.int 8 249),ze P "__static_attributes__" 251 (.ref 59),ze P "__doc__" 252 .none] 2),#[]⟩),
(61,⟨(.type "type"),none,(.cls ⟨(Str.ofString "NoPlaces"),[(.ref 24)],[(.ref 61),(.ref 24),(.type "ValueError"),(.type "Exception"),(.type "BaseException"),(.type "object")],60,(Str.ofString "NoPlaces"),true,[],[],false,none,false⟩),#[some (.ref 52),none,some (zs "NoPlaces" 239),some (zs "NoPlaces" 247),some (.builtin "ValueError.__new__"),some (.bool true)]⟩),
(64,zt #[(.ref 24)]),
(71,zt #[]),
(72,⟨(.type "dict"),none,(.dict #[ze P "__module__" 262 (zs "tiewebs.errors" 187),ze P "__firstlineno__" 266 (.int 10 265),ze P "__static_attributes__" 267 (.ref 71),ze P "__doc__" 268 .none] 2),#[]⟩),
(73,⟨(.type "type"),none,(.cls ⟨(Str.ofString "NoMap"),[(.ref 24)],[(.ref 73),(.ref 24),(.type "ValueError"),(.type "Exception"),(.type "BaseException"),(.type "object")],72,(Str.ofString "NoMap"),true,[],[],false,none,false⟩),#[some (.ref 64),none,some (zs "NoMap" 255),some (zs "NoMap" 263),some (.builtin "ValueError.__new__"),some (.bool true)]⟩),
(76,zt #[(.ref 24)]),
(83,zt #[]),
(84,⟨(.type "dict"),none,(.dict #[ze P "__module__" 278 (zs "tiewebs.errors" 187),ze P "__firstlineno__" 282 (.int 12 281),ze P "__static_attributes__" 283 (.ref 83),ze P "__doc__" 284 .none] 2),#[]⟩),
(85,⟨(.type "type"),none,(.cls ⟨(Str.ofString "NoSharing"),[(.ref 24)],[(.ref 85),(.ref 24),(.type "ValueError"),(.type "Exception"),(.type "BaseException"),(.type "object")],84,(Str.ofString "NoSharing"),true,[],[],false,none,false⟩),#[some (.ref 76),none,some (zs "NoSharing" 271),some (zs "NoSharing" 279),some (.builtin "ValueError.__new__"),some (.bool true)]⟩),
(88,zt #[(.ref 24)]),
(95,zt #[]),
(96,⟨(.type "dict"),none,(.dict #[ze P "__module__" 294 (zs "tiewebs.errors" 187),ze P "__firstlineno__" 298 (.int 14 297),ze P "__static_attributes__" 299 (.ref 95),ze P "__doc__" 300 .none] 2),#[]⟩),
(97,⟨(.type "type"),none,(.cls ⟨(Str.ofString "NoRoot"),[(.ref 24)],[(.ref 97),(.ref 24),(.type "ValueError"),(.type "Exception"),(.type "BaseException"),(.type "object")],96,(Str.ofString "NoRoot"),true,[],[],false,none,false⟩),#[some (.ref 88),none,some (zs "NoRoot" 287),some (zs "NoRoot" 295),some (.builtin "ValueError.__new__"),some (.bool true)]⟩),
(100,zt #[(.ref 24)]),
(107,zt #[]),
(108,⟨(.type "dict"),none,(.dict #[ze P "__module__" 310 (zs "tiewebs.errors" 187),ze P "__firstlineno__" 314 (.int 16 313),ze P "__static_attributes__" 315 (.ref 107),ze P "__doc__" 316 .none] 2),#[]⟩),
(109,⟨(.type "type"),none,(.cls ⟨(Str.ofString "NoNumber"),[(.ref 24)],[(.ref 109),(.ref 24),(.type "ValueError"),(.type "Exception"),(.type "BaseException"),(.type "object")],108,(Str.ofString "NoNumber"),true,[],[],false,none,false⟩),#[some (.ref 100),none,some (zs "NoNumber" 303),some (zs "NoNumber" 311),some (.builtin "ValueError.__new__"),some (.bool true)]⟩),
(112,zt #[(.ref 24)]),
(119,zt #[]),
(120,⟨(.type "dict"),none,(.dict #[ze P "__module__" 326 (zs "tiewebs.errors" 187),ze P "__firstlineno__" 330 (.int 18 329),ze P "__static_attributes__" 331 (.ref 119),ze P "__doc__" 332 .none] 2),#[]⟩),
(121,⟨(.type "type"),none,(.cls ⟨(Str.ofString "NotJoined"),[(.ref 24)],[(.ref 121),(.ref 24),(.type "ValueError"),(.type "Exception"),(.type "BaseException"),(.type "object")],120,(Str.ofString "NotJoined"),true,[],[],false,none,false⟩),#[some (.ref 112),none,some (zs "NotJoined" 319),some (zs "NotJoined" 327),some (.builtin "ValueError.__new__"),some (.bool true)]⟩),
(124,zt #[(.ref 24)]),
(131,zt #[]),
(132,⟨(.type "dict"),none,(.dict #[ze P "__module__" 342 (zs "tiewebs.errors" 187),ze P "__firstlineno__" 346 (.int 20 345),ze P "__static_attributes__" 347 (.ref 131),ze P "__doc__" 348 .none] 2),#[]⟩),
(133,⟨(.type "type"),none,(.cls ⟨(Str.ofString "NoTie"),[(.ref 24)],[(.ref 133),(.ref 24),(.type "ValueError"),(.type "Exception"),(.type "BaseException"),(.type "object")],132,(Str.ofString "NoTie"),true,[],[],false,none,false⟩),#[some (.ref 124),none,some (zs "NoTie" 335),some (zs "NoTie" 343),some (.builtin "ValueError.__new__"),some (.bool true)]⟩),
(136,zt #[(.ref 24)]),
(143,zt #[]),
(144,⟨(.type "dict"),none,(.dict #[ze P "__module__" 358 (zs "tiewebs.errors" 187),ze P "__firstlineno__" 362 (.int 22 361),ze P "__static_attributes__" 363 (.ref 143),ze P "__doc__" 364 .none] 2),#[]⟩),
(145,⟨(.type "type"),none,(.cls ⟨(Str.ofString "NoText"),[(.ref 24)],[(.ref 145),(.ref 24),(.type "ValueError"),(.type "Exception"),(.type "BaseException"),(.type "object")],144,(Str.ofString "NoText"),true,[],[],false,none,false⟩),#[some (.ref 136),none,some (zs "NoText" 351),some (zs "NoText" 359),some (.builtin "ValueError.__new__"),some (.bool true)]⟩),
(148,zt #[(.ref 24)]),
(155,zt #[]),
(156,⟨(.type "dict"),none,(.dict #[ze P "__module__" 374 (zs "tiewebs.errors" 187),ze P "__firstlineno__" 378 (.int 24 377),ze P "__static_attributes__" 379 (.ref 155),ze P "__doc__" 380 .none] 2),#[]⟩),
(157,⟨(.type "type"),none,(.cls ⟨(Str.ofString "NoLine"),[(.ref 24)],[(.ref 157),(.ref 24),(.type "ValueError"),(.type "Exception"),(.type "BaseException"),(.type "object")],156,(Str.ofString "NoLine"),true,[],[],false,none,false⟩),#[some (.ref 148),none,some (zs "NoLine" 367),some (zs "NoLine" 375),some (.builtin "ValueError.__new__"),some (.bool true)]⟩),
(160,zt #[(.ref 24)]),
(167,zt #[]),
(168,⟨(.type "dict"),none,(.dict #[ze P "__module__" 390 (zs "tiewebs.errors" 187),ze P "__firstlineno__" 394 (.int 26 393),ze P "__static_attributes__" 395 (.ref 167),ze P "__doc__" 396 .none] 2),#[]⟩),
(169,⟨(.type "type"),none,(.cls ⟨(Str.ofString "NoDeed"),[(.ref 24)],[(.ref 169),(.ref 24),(.type "ValueError"),(.type "Exception"),(.type "BaseException"),(.type "object")],168,(Str.ofString "NoDeed"),true,[],[],false,none,false⟩),#[some (.ref 160),none,some (zs "NoDeed" 383),some (zs "NoDeed" 391),some (.builtin "ValueError.__new__"),some (.bool true)]⟩),
(172,zt #[(.ref 24)]),
(179,zt #[]),
(181,zt #[(zs "self" 414),(zs "many" 415),(zs "most" 416)]),
(182,zt #[]),
(184,zc "__init__" "TooGreat.__init__" 411 30 3 0 0 3 (.ref 179) 181 (.ref 180) (.ref 181) (.ref 182) (.ref 183) 417 418),
(185,⟨.type "function",none,(zf "__init__" "TooGreat.__init__" (iC (tp 14)) .none .none (zs "tiewebs.errors" 187) none (.ref 184) .none),#[]⟩),
(186,zt #[(zs "many" 420),(zs "most" 421)]),
(187,⟨(.type "dict"),none,(.dict #[ze P "__module__" 406 (zs "tiewebs.errors" 187),ze P "__firstlineno__" 410 (.int 28 409),ze P "__init__" 419 (.ref 185),ze P "__static_attributes__" 422 (.ref 186),ze P "__doc__" 423 .none] 2),#[]⟩),
(188,⟨(.type "type"),none,(.cls ⟨(Str.ofString "TooGreat"),[(.ref 24)],[(.ref 188),(.ref 24),(.type "ValueError"),(.type "Exception"),(.type "BaseException"),(.type "object")],187,(Str.ofString "TooGreat"),true,[],[],false,none,false⟩),#[some (.ref 172),none,some (zs "TooGreat" 399),some (zs "TooGreat" 407),some (.builtin "ValueError.__new__"),some (.bool true)]⟩),
(191,zt #[]),
(193,zt #[(zs "thing" 433)]),
(194,zt #[]),
(196,zc "is_whole" "is_whole" 430 35 1 0 0 3 (.ref 191) 181 (.ref 192) (.ref 193) (.ref 194) (.ref 195) 434 435),
(197,⟨.type "function",none,(zf "is_whole" "is_whole" (tp 17) .none .none (zs "tiewebs.webs" 426) none (.ref 196) .none),#[]⟩),
(198,zt #[]),
(200,zt #[(zs "thing" 440)]),
(201,zt #[]),
(203,zc "is_pair" "is_pair" 437 37 1 0 0 3 (.ref 198) 181 (.ref 199) (.ref 200) (.ref 201) (.ref 202) 441 442),
(204,⟨.type "function",none,(zf "is_pair" "is_pair" (tp 18) .none .none (zs "tiewebs.webs" 426) none (.ref 203) .none),#[]⟩),
(205,zt #[]),
(207,zt #[(zs "many" 447),(zs "thing" 448)]),
(208,zt #[]),
(210,zc "is_place" "is_place" 444 39 2 0 0 3 (.ref 205) 181 (.ref 206) (.ref 207) (.ref 208) (.ref 209) 449 450),
(211,⟨.type "function",none,(zf "is_place" "is_place" (tp 19) .none .none (zs "tiewebs.webs" 426) none (.ref 210) .none),#[]⟩),
(212,zt #[]),
(214,zt #[(zs "many" 455),(zs "thing" 456),(zs "low" 457),(zs "high" 458)]),
(215,zt #[]),
(217,zc "is_tie" "is_tie" 452 41 2 0 0 3 (.ref 212) 181 (.ref 213) (.ref 214) (.ref 215) (.ref 216) 459 460),
(218,⟨.type "function",none,(zf "is_tie" "is_tie" (tp 20) .none .none (zs "tiewebs.webs" 426) none (.ref 217) .none),#[]⟩),
(219,zt #[]),
(222,zc "is_rising" "is_rising" 462 46 1 0 0 3 (.ref 219) 181 (.ref 220) .none .none (.ref 221) 465 466),
(223,⟨.type "function",none,(zf "is_rising" "is_rising" (tp 21) .none .none (zs "tiewebs.webs" 426) none (.ref 222) .none),#[]⟩),
(224,zt #[]),
(227,zc "is_web" "is_web" 468 48 1 0 0 3 (.ref 224) 181 (.ref 225) .none .none (.ref 226) 471 472),
(228,⟨.type "function",none,(zf "is_web" "is_web" (tp 22) .none .none (zs "tiewebs.webs" 426) none (.ref 227) .none),#[]⟩),
(229,zt #[]),
(231,zt #[(zs "thing" 477)]),
(232,zt #[]),
(234,zc "need_web" "need_web" 474 55 1 0 0 3 (.ref 229) 181 (.ref 230) (.ref 231) (.ref 232) (.ref 233) 478 479),
(235,⟨.type "function",none,(zf "need_web" "need_web" (tp 23) .none .none (zs "tiewebs.webs" 426) none (.ref 234) .none),#[]⟩),
(236,zt #[]),
(239,zc "degrees" "degrees" 481 58 1 0 0 3 (.ref 236) 181 (.ref 237) .none .none (.ref 238) 484 485),
(240,⟨.type "function",none,(zf "degrees" "degrees" (tp 24) .none .none (zs "tiewebs.webs" 426) none (.ref 239) .none),#[]⟩),
(241,zt #[]),
(244,zc "ties_ahead" "ties_ahead" 489 63 1 0 0 3 (.ref 241) 181 (.ref 242) .none .none (.ref 243) 492 493),
(245,⟨.type "function",none,(zf "ties_ahead" "ties_ahead" (tp 26) .none .none (zs "tiewebs.ties" 487) none (.ref 244) .none),#[]⟩),
(246,zt #[]),
(249,zc "sizes_ahead" "sizes_ahead" 497 66 1 0 0 3 (.ref 246) 181 (.ref 247) .none .none (.ref 248) 500 501),
(250,⟨.type "function",none,(zf "sizes_ahead" "sizes_ahead" (tp 28) .none .none (zs "tiewebs.again" 495) none (.ref 249) .none),#[]⟩),
(251,zt #[]),
(253,zt #[(zs "_law_script" 508),(zs "_law_k" 509)]),
(254,zt #[]),
(256,zc "_law_cell_at" "_law_cell_at" 505 71 2 0 0 3 (.ref 251) 181 (.ref 252) (.ref 253) (.ref 254) (.ref 255) 510 511),
(257,⟨.type "function",none,(zf "_law_cell_at" "_law_cell_at" (tp 30) .none .none (zs "law_tiewebs_k81_sizes_told_ahead" 503) none (.ref 256) .none),#[]⟩),
(258,zt #[]),
(260,zt #[(zs "_law_script" 516),(zs "_law_k" 517),(zs "_law_cell" 518)]),
(261,zt #[]),
(263,zc "_law_state" "_law_state" 513 75 2 0 0 3 (.ref 258) 181 (.ref 259) (.ref 260) (.ref 261) (.ref 262) 519 520),
(264,⟨.type "function",none,(zf "_law_state" "_law_state" (tp 31) .none .none (zs "law_tiewebs_k81_sizes_told_ahead" 503) none (.ref 263) .none),#[]⟩),
(265,zt #[]),
(267,zt #[(zs "_law_state_here" 525),(zs "_law_many" 526),(zs "_law_found" 527),(zs "_law_stirred" 528)]),
(268,zt #[]),
(270,zc "_law_take" "_law_take" 522 80 2 0 0 3 (.ref 265) 181 (.ref 266) (.ref 267) (.ref 268) (.ref 269) 529 530),
(271,⟨.type "function",none,(zf "_law_take" "_law_take" (tp 32) .none .none (zs "law_tiewebs_k81_sizes_told_ahead" 503) none (.ref 270) .none),#[]⟩),
(272,zt #[]),
(275,zc "_law_pairs" "_law_pairs" 532 89 1 0 0 3 (.ref 272) 181 (.ref 273) .none .none (.ref 274) 535 536),
(276,⟨.type "function",none,(zf "_law_pairs" "_law_pairs" (tp 33) .none .none (zs "law_tiewebs_k81_sizes_told_ahead" 503) none (.ref 275) .none),#[]⟩),
(277,zt #[]),
(279,zt #[(zs "_law_state_here" 541),(zs "_law_things" 542),(zs "_law_left" 543),(zs "_law_found" 544)]),
(280,zt #[]),
(282,zc "_law_mixed_row" "_law_mixed_row" 538 94 2 0 0 3 (.ref 277) 181 (.ref 278) (.ref 279) (.ref 280) (.ref 281) 545 546),
(283,⟨.type "function",none,(zf "_law_mixed_row" "_law_mixed_row" (tp 34) .none .none (zs "law_tiewebs_k81_sizes_told_ahead" 503) none (.ref 282) .none),#[]⟩),
(284,zt #[]),
(287,zc "_law_web" "_law_web" 548 100 2 0 0 3 (.ref 284) 181 (.ref 285) .none .none (.ref 286) 551 552),
(288,⟨.type "function",none,(zf "_law_web" "_law_web" (tp 35) .none .none (zs "law_tiewebs_k81_sizes_told_ahead" 503) none (.ref 287) .none),#[]⟩),
(289,zt #[]),
(291,zt #[(zs "_law_state_here" 557),(zs "_law_many" 558),(zs "_law_ties" 559),(zs "_law_turn" 560),(zs "_law_one" 561),(zs "_law_other" 562)]),
(292,zt #[]),
(294,zc "_law_great_web" "_law_great_web" 554 114 1 0 0 3 (.ref 289) 181 (.ref 290) (.ref 291) (.ref 292) (.ref 293) 563 564),
(295,⟨.type "function",none,(zf "_law_great_web" "_law_great_web" (tp 36) .none .none (zs "law_tiewebs_k81_sizes_told_ahead" 503) none (.ref 294) .none),#[]⟩),
(296,zt #[]),
(299,zc "_law_made" "_law_made" 566 122 1 0 0 3 (.ref 296) 181 (.ref 297) .none .none (.ref 298) 569 570),
(300,⟨.type "function",none,(zf "_law_made" "_law_made" (tp 37) .none .none (zs "law_tiewebs_k81_sizes_told_ahead" 503) none (.ref 299) .none),#[]⟩),
(301,zt #[]),
(303,zt #[(zs "_law_state_here" 575),(zs "_law_some" 576)]),
(304,zt #[]),
(306,zc "_law_bad_web" "_law_bad_web" 572 128 1 0 0 3 (.ref 301) 181 (.ref 302) (.ref 303) (.ref 304) (.ref 305) 577 578),
(307,⟨.type "function",none,(zf "_law_bad_web" "_law_bad_web" (tp 38) .none .none (zs "law_tiewebs_k81_sizes_told_ahead" 503) none (.ref 306) .none),#[]⟩),
(308,zt #[]),
(311,zc "_law_same" "_law_same" 580 133 2 0 0 3 (.ref 308) 181 (.ref 309) .none .none (.ref 310) 583 584),
(312,⟨.type "function",none,(zf "_law_same" "_law_same" (tp 39) .none .none (zs "law_tiewebs_k81_sizes_told_ahead" 503) none (.ref 311) .none),#[]⟩),
(313,zt #[]),
(316,zc "_law_refused" "_law_refused" 586 141 1 0 0 3 (.ref 313) 181 (.ref 314) .none .none (.ref 315) 589 590),
(317,⟨.type "function",none,(zf "_law_refused" "_law_refused" (tp 40) .none .none (zs "law_tiewebs_k81_sizes_told_ahead" 503) none (.ref 316) .none),#[]⟩),
(318,zt #[]),
(320,zt #[(zs "_law_script" 595),(zs "_law_k" 596),(zs "_law_state_here" 597),(zs "_law_web_here" 598),(zs "_law_later" 599),(zs "_law_due" 600),(zs "_law_turn" 601),(zs "_law_found" 602)]),
(321,zt #[(zs "_law_bad" 603)]),
(323,zc "law" "law" 592 156 1 0 0 3 (.ref 318) 181 (.ref 319) (.ref 320) (.ref 321) (.ref 322) 604 605),
(324,⟨.type "function",none,(zf "law" "law" (tp 41) .none .none (zs "law_tiewebs_k81_sizes_told_ahead" 503) none (.ref 323) .none),#[]⟩)]
def as0 : List Addr := [2,3,15,22,23,24,25,28,35,36,37,40,47,48,49,52,59,60,61,64,71,72,73,76,83,84,85,88,95,96,97,100,107,108,109,112,119,120,121,124,131,132,133,136,143,144,145,148,155,156,157,160,167,168,169,172,179,181,182,184,185,186,187,188,191,193,194,196,197,198,200,201,203,204,205,207,208,210,211,212,214,215,217,218,219,222,223,224,227,228,229,231,232,234,235,236,239,240,241,244,245,246,249,250,251,253,254,256,257,258,260,261,263,264,265,267,268,270,271,272,275,276,277,279,280,282,283,284,287,288,289,291,292,294,295,296,299,300,301,303,304,306,307,308,311,312,313,316,317,318,320,321,323,324]
def ts0 : List Addr := [319]
def vq : Program := { PySem.Challenge.pw_tiewebs_k81_sizes_told_ahead with main := { PySem.Challenge.pw_tiewebs_k81_sizes_told_ahead.main with body := [tp 1,tp 2,tp 3,tp 4,tp 5,tp 6,tp 7,tp 8,tp 9,tp 10,tp 11,tp 12,tp 13,tp 14,tp 16,tp 17,tp 18,tp 19,tp 20,tp 21,tp 22,tp 23,tp 24,tp 26,tp 28,tp 30,tp 31,tp 32,tp 33,tp 34,tp 35,tp 36,tp 37,tp 38,tp 39,tp 40,tp 41] } }
theorem as0_eq : ∀ P, as0 = (K0 P).map (·.1) := fun _ => by kernel_rfl
theorem two_looks {α β γ : Type} {f : α -> β} {g : α -> γ} {o : Option α} {a : β} {b : γ} (h1 : o.map f = some a) (h2 : o.map g = some b) : o.map (fun s => (f s, g s)) = some (a, b) := by
 cases o with
 | none => cases h1
 | some s => cases h1; cases h2; rfl
abbrev Xt0 (s : Shared) : Bool := xlAt vq [] s && recOk (RowW.records (OpenRow.toRowW (OpenLaw.row PySem.Challenge.rw_tiewebs_k81_sizes_told_ahead))) s
theorem AJ : ∀ w, (openEnds treeTable (OpenLaw.row PySem.Challenge.rw_tiewebs_k81_sizes_told_ahead).prog w 7482).map (fun s => openSeen vq [] (importedModules (OpenLaw.row PySem.Challenge.rw_tiewebs_k81_sizes_told_ahead).prog.main.body) Xt0 true s) = some (openGood vq []) := fun w => by kernel_rfl
theorem AK : ∀ w, (openEnds treeTable (OpenLaw.row PySem.Challenge.rw_tiewebs_k81_sizes_told_ahead).prog w 7482).map (Hook.obs (kmHook K0 as0 as0_eq ts0)) = some (Hook.val (kmHook K0 as0 as0_eq ts0) w) := fun w => by kernel_rfl
theorem left0 : LeftO (OpenLaw.row PySem.Challenge.rw_tiewebs_k81_sizes_told_ahead).prog vq [] Xt0 (Hook.obs (kmHook K0 as0 as0_eq ts0)) (Hook.val (kmHook K0 as0 as0_eq ts0)) 7482 := fun w => two_looks (AJ w) (AK w)
end KH
end
section
namespace L2
open PySem PySem.Spec PyProof.Rows
abbrev Key := Sum Int Str
def yg : Key -> Value -> Bool
 | .inl k, v => Value.isInt k v
 | .inr x, v => Value.isStrOf x v
def Ci (w : World) : Key -> Int
 | .inl k => hashInt k
 | .inr x => hashStr w x
theorem bx : ∀ {k : Key} {v : Value}, yg k v = true -> (∃ i t, k = Sum.inl i /\ v = Value.int i t) \/ (∃ x t, k = Sum.inr x /\ v = Value.str x t)
 | .inl i, v, h => by
  obtain ⟨t, e⟩ := Value.isInt_shape (k := i) (v := v) h
  exact .inl ⟨i, t, rfl, e⟩
 | .inr x, v, h => by
  obtain ⟨t, e⟩ := Value.isStrOf_shape (x := x) (v := v) h
  exact .inr ⟨x, t, rfl, e⟩
theorem yF (a b : Int) : decide ((Sum.inl a : Key) = Sum.inl b) = (a == b) := by
 by_cases e : a = b
 ·subst e; simp
 ·have h : ¬ (Sum.inl a : Key) = Sum.inl b := fun q => e (Sum.inl.inj q)
  rw [decide_eq_false h]
  exact (beq_eq_false_iff_ne.mpr e).symm
theorem yG (a b : Str) : decide ((Sum.inr a : Key) = Sum.inr b) = decide (a = b) := by
 by_cases e : a = b
 ·subst e; simp
 ·have h : ¬ (Sum.inr a : Key) = Sum.inr b := fun q => e (Sum.inr.inj q)
  rw [decide_eq_false h, decide_eq_false e]
theorem yH (a : Int) (b : Str) : decide ((Sum.inl a : Key) = Sum.inr b) = false := decide_eq_false (fun q => nomatch q)
theorem yI (a : Str) (b : Int) : decide ((Sum.inr a : Key) = Sum.inl b) = false := decide_eq_false (fun q => nomatch q)
def rV (prog : Program) (w : World) : PySem.KeyKind prog w Key where
 is := yg
 hash := Ci w
 inj := fun v a b ha hb => by
  rcases bx ha with ⟨i, t, rfl, rfl⟩ | ⟨x, t, rfl, rfl⟩
  ·rcases bx hb with ⟨j, u, rfl, e⟩ | ⟨y, u, rfl, e⟩
   ·injection e with e1 _; rw [e1]
   ·exact nomatch e
  ·rcases bx hb with ⟨j, u, rfl, e⟩ | ⟨y, u, rfl, e⟩
   ·exact nomatch e
   ·injection e with e1 _; rw [e1]
 byValue := fun k v h => by
  rcases bx h with ⟨i, t, rfl, rfl⟩ | ⟨x, t, rfl, rfl⟩ <;> rfl
 pyHash := fun hv h => by
  rcases bx hv with ⟨i, t, rfl, rfl⟩ | ⟨x, t, rfl, rfl⟩
  ·exact wpAny_pyHash_int h
  ·exact wpAny_pyHash_str h
 eqBool := fun hu hv h => by
  rcases bx hu with ⟨i, t, rfl, rfl⟩ | ⟨x, t, rfl, rfl⟩
  ·rcases bx hv with ⟨j, u, rfl, rfl⟩ | ⟨y, u, rfl, rfl⟩
   ·rw [yF] at h; exact wpAny_eqBool_int h
   ·rw [yH] at h; exact SeqAt.EqAt.int_str i t y u _ _ _ _ h
  ·rcases bx hv with ⟨j, u, rfl, rfl⟩ | ⟨y, u, rfl, rfl⟩
   ·rw [yI] at h; exact SeqAt.EqAt.str_int x t j u _ _ _ _ h
   ·rw [yG] at h; exact wpAny_eqBool_str h
 «strs» := fun k x t v h => by
  rcases bx h with ⟨i, u, rfl, e⟩ | ⟨y, u, rfl, e⟩
  ·exact nomatch e
  ·injection e with e1 _
   subst e1
   cases v <;> rfl
end L2
namespace L2
open PySem PySem.Spec PyProof.Rows
inductive V where
 | non | bl (b : Bool) | int (i : Int) | str (x : Str) | byt (b : Array UInt8) | flt (b : UInt64) | ref (a : Addr) | ty (n : String)
 deriving DecidableEq
def RelV : V -> Value -> Prop
 | .non, u => u = Value.none
 | .bl b, u => u = Value.bool b
 | .int i, u => ∃ t, u = Value.int i t
 | .str x, u => ∃ t, u = Value.str x t
 | .byt b, u => ∃ t, u = Value.bytes b t
 | .flt b, u => ∃ t, u = Value.float b t
 | .ref a, u => u = Value.ref a
 | .ty n, u => u = Value.type n
abbrev aI : List V -> List Value -> Prop := Paired RelV
theorem aI.length {xs : List V} {us : List Value} (r : aI xs us) : xs.length = us.length := Paired.length r
theorem aI.get : ∀ {xs : List V} {us : List Value} {i : Nat} {x : V}, aI xs us -> xs[i]? = some x -> ∃ u, us[i]? = some u /\ RelV x u
 | _, _, _, _, .nil, e => by simp at e
 | _, _, 0, _, .cons r _, e => by simp at e; subst e; exact ⟨_, rfl, r⟩
 | _, _, i + 1, x, .cons _ t, e => by
  obtain ⟨u, h1, h2⟩ := aI.get (i := i) (x := x) t (by simpa using e)
  exact ⟨u, by simpa using h1, h2⟩
theorem aI.set {x : V} {u : Value} (r : RelV x u) : ∀ {xs : List V} {us : List Value} (i : Nat), aI xs us -> aI (xs.set i x) (us.set i u)
 | _, _, _, .nil => .nil
 | _, _, 0, .cons _ t => .cons r t
 | _, _, i + 1, .cons q t => .cons q (aI.set r i t)
theorem aI.append : ∀ {xs ys : List V} {us ws : List Value}, aI xs us -> aI ys ws -> aI (xs ++ ys) (us ++ ws)
 | _, _, _, _, .nil, s => s
 | _, _, _, _, .cons r t, s => .cons r (aI.append t s)
theorem aI.take : ∀ {xs : List V} {us : List Value} (n : Nat), aI xs us -> aI (xs.take n) (us.take n)
 | _, _, 0, _ => .nil
 | _, _, _ + 1, .nil => .nil
 | _, _, n + 1, .cons r t => .cons r (aI.take n t)
theorem aI.drop : ∀ {xs : List V} {us : List Value} (n : Nat), aI xs us -> aI (xs.drop n) (us.drop n)
 | _, _, 0, r => r
 | _, _, _ + 1, .nil => .nil
 | _, _, n + 1, .cons _ t => aI.drop n t
def yJ : Option V -> Option Value -> Prop
 | some v, some u => RelV v u
 | none, none => True
 | _, _ => False
def KV {κ : Type} : List (κ × V) -> List (κ × Value) -> Prop := Paired fun (p : κ × V) (q : κ × Value) => p.1 = q.1 /\ RelV p.2 q.2
def kV : Key -> V
 | .inl i => .int i
 | .inr x => .str x
inductive HO where
 /-- a list -/
 | lst (xs : List V)
 /-- a tuple (never changes) -/
 | tup (xs : List V)
 /-- a dict whose keys are ints and texts; one whose keys are tuples of ints and texts (the empty one is both) -/
 | dK (kvs : List (Key × V)) | dT (kvs : List (List Key × V))
 /-- a set of ints: its members, its size -/
 | set (S : Int -> Bool) (n : Nat)
 /-- an instance of the class at C, its dict at dx, its attributes -/
 | ins (C dx : Addr) (fs : List (Str × V))
 /-- the dict of the instance at x -/
 | own (x : Addr)
 /-- the dict of an exception -/
 | xd (fs : List (Str × V))
 /-- a bound method, f of x -/
 | met (f x : Addr)
 /-- a range object lo, lo + 1, .. below hi -/
 | rng (lo hi : Int)
 /-- a thing that is known to the object (the script; a dict while a loop walks it): read, never written while it is so -/
 | frz (o : Obj) (u : HO)
 /-- a code object's table -/
 | tbl (ps : Array Value)
 /-- any other thing, by what is true of its one object (a def of one's own: SetO a S n := HO.ext fun h => ..) -/
 | ext (φ : Heap -> Prop)
abbrev Hp := Addr -> Option HO
def upd (H : Hp) (a : Addr) (o : HO) : Hp := fun b => if b = a then some o else H b
theorem aK {H : Hp} {a : Addr} {o : HO} : upd H a o a = some o := by unfold upd; rw [if_pos rfl]
theorem aw {H : Hp} {a b : Addr} {o : HO} (h : b ≠ a) : upd H a o b = H b := by unfold upd; rw [if_neg h]
theorem ay {H : Hp} {a b : Addr} {o : HO} (h : H a = some o) (h' : H b = none) : a ≠ b := by
 intro e; subst e; rw [h] at h'; cases h'
section
variable (P : Program) (w : World)
def aW (H : Hp) (h : Heap) (a : Addr) : HO -> Prop
 | .lst xs => xs.length <= sizeLine /\ ∃ (its : List Value) (n : Nat), aI xs its /\ h.get? a = some { cls := .type "list", data := .seq its.toArray n }
 | .tup xs => xs.length <= sizeLine /\ ∃ its : List Value, aI xs its /\ IsTup h a its.toArray
 | .dK kvs => kvs.length <= sizeLine /\ (a == sysModules) = false /\ ∃ vs, KV kvs vs /\ h.DictOf (rV P w) a vs
 | .dT kvs => kvs.length <= sizeLine /\ (a == sysModules) = false /\ ∃ xs : List (List Key × Addr × Value),
   Paired (fun (p : List Key × V) (q : List Key × Addr × Value) => p.1 = q.1 /\ H q.2.1 = some (.tup (p.1.map kV)) /\ RelV p.2 q.2.2) kvs xs /\
   ∃ o es ep, h.get? a = some o /\ o.ExactDict /\ o.data = .dict es ep /\ es.toList = xs.map (entryOfKey (tupleKind (rV P w))) /\ (xs.map (·.1)).Nodup
 | .set S n => h.SetOf (intKind P w) a S n
 | .ins C dx fs => H dx = some (.own a) /\ fs.length <= 1000 /\ dx ≠ a /\ h.get? a = some (PySem.W.instObj C dx) /\
   ∃ mA, h.Ns1 dx mA /\ (∀ f, yJ (fs.lookup f) (mA f)) /\ PySem.Within mA (fs.map (·.1))
 | .own _ => ∃ o, h.get? a = some o
 | .xd fs => ∃ mA, h.Ns1 a mA /\ ∀ f, yJ (fs.lookup f) (mA f)
 | .rng lo hi => ∃ t u v, h.get? a = some { cls := .type "range", data := .fields #[.int lo t, .int hi u, .int 1 v] }
 | .frz o u => h.get? a = some o /\ aW H h a u
 | .tbl ps => h.get? a = some { cls := .none, data := .fields ps }
 | .met f x => h.get? a = some (PySem.W.methodObj (.ref f) (.ref x))
 | .ext φ => φ h /\ (∃ o, h.get? a = some o) /\ ∀ h1 h2 : Heap, φ h1 -> (∀ o, h1.get? a = some o -> h2.get? a = some o) -> φ h2
def dJ (H : Hp) (h : Heap) : Prop := ∀ a o, H a = some o -> aW P w H h a o
end
section
variable {P : Program} {w : World} {H H' : Hp} {h h' : Heap} {a : Addr} {o : HO}
theorem aW.lt (x : aW P w H h a o) : a < h.objs.size := by
 cases o with
 | lst xs => obtain ⟨_, _, _, _, e⟩ := x; exact Heap.lt_size e
 | tup xs => obtain ⟨_, _, _, p⟩ := x; exact p.lt
 | dK kvs => obtain ⟨_, _, _, _, o, _, _, e, _⟩ := x; exact Heap.lt_size e
 | dT kvs => obtain ⟨_, _, _, _, o, _, _, e, _⟩ := x; exact Heap.lt_size e
 | set S n => obtain ⟨o, _, _, _, e, _⟩ := x; exact Heap.lt_size e
 | ins C dx fs => obtain ⟨_, _, _, e, _⟩ := x; exact Heap.lt_size e
 | own y => obtain ⟨_, e⟩ := x; exact Heap.lt_size e
 | xd fs => obtain ⟨_, ⟨_, _, _, e, _⟩, _⟩ := x; exact Heap.lt_size e
 | rng lo hi => obtain ⟨_, _, _, e⟩ := x; exact Heap.lt_size e
 | frz ob u => obtain ⟨e, _⟩ := x; exact Heap.lt_size e
 | tbl ps => exact Heap.lt_size (show h.get? a = some _ from x)
 | met f y => exact Heap.lt_size (show h.get? a = some _ from x)
 | ext φ => obtain ⟨_, ⟨_, e⟩, _⟩ := x; exact Heap.lt_size e
theorem Paired.mapP {α β : Type} {F G : α -> β -> Prop} : ∀ {l₁ : List α} {l₂ : List β}, Paired F l₁ l₂ -> (∀ a b, F a b -> G a b) -> Paired G l₁ l₂
 | _, _, .nil, _ => .nil
 | _, _, .cons r t, f => .cons (f _ _ r) (Paired.mapP t f)
theorem aW.stay (x : aW P w H h a o) (k : ∀ b u, (b = a \/ H b = some (.own a)) -> h.get? b = some u -> h'.get? b = some u)
  (ho : ∀ b, H b = some (.own a) -> H' b = some (.own a)) (ht : ∀ b xs, H b = some (.tup xs) -> H' b = some (.tup xs)) : aW P w H' h' a o := by
 induction o with
 | lst xs => obtain ⟨z, its, n, r, e⟩ := x; exact ⟨z, its, n, r, k _ _ (.inl rfl) e⟩
 | tup xs => obtain ⟨z, its, r, ob, e, c⟩ := x; exact ⟨z, its, r, ob, k _ _ (.inl rfl) e, c⟩
 | dK kvs => obtain ⟨z, y, vs, r, ob, es, ep, e, c⟩ := x; exact ⟨z, y, vs, r, ob, es, ep, k _ _ (.inl rfl) e, c⟩
 | dT kvs =>
  obtain ⟨z, y, xs, r, ob, es, ep, e, c⟩ := x
  exact ⟨z, y, xs, Paired.mapP r fun p q z => ⟨z.1, ht _ _ z.2.1, z.2.2⟩, ob, es, ep, k _ _ (.inl rfl) e, c⟩
 | set S n => obtain ⟨ob, es, ep, t, e, c⟩ := x; exact ⟨ob, es, ep, t, k _ _ (.inl rfl) e, c⟩
 | ins C dx fs =>
  obtain ⟨d, z, ne, e, mA, ⟨od, es, ep, e2, c⟩, r⟩ := x
  exact ⟨ho _ d, z, ne, k _ _ (.inl rfl) e, mA, ⟨od, es, ep, k _ _ (.inr d) e2, c⟩, r⟩
 | own y => obtain ⟨ob, e⟩ := x; exact ⟨ob, k _ _ (.inl rfl) e⟩
 | xd fs => obtain ⟨mA, ⟨od, es, ep, e, c⟩, r⟩ := x; exact ⟨mA, ⟨od, es, ep, k _ _ (.inl rfl) e, c⟩, r⟩
 | rng lo hi => obtain ⟨t, u, v, e⟩ := x; exact ⟨t, u, v, k _ _ (.inl rfl) e⟩
 | frz ob u ih => obtain ⟨e, q⟩ := x; exact ⟨k _ _ (.inl rfl) e, ih q⟩
 | tbl ps =>
  have e : h.get? a = some { cls := .none, data := .fields ps } := x
  show h'.get? a = some { cls := .none, data := .fields ps }
  exact k a _ (.inl rfl) e
 | met f y =>
  have e : h.get? a = some (PySem.W.methodObj (.ref f) (.ref y)) := x
  show h'.get? a = some (PySem.W.methodObj (.ref f) (.ref y))
  exact k a _ (.inl rfl) e
 | ext φ => obtain ⟨p, ⟨o, e⟩, st⟩ := x; exact ⟨st _ _ p fun o q => k _ _ (.inl rfl) q, ⟨o, k _ _ (.inl rfl) e⟩, st⟩
theorem dJ.lt (x : dJ P w H h) (e : H a = some o) : a < h.objs.size := (x a o e).lt
theorem dJ.fresh (x : dJ P w H h) (e : h.objs.size <= a) : H a = none := by
 cases q : H a with
 | none => rfl
 | some u => exact absurd (Nat.lt_of_lt_of_le (x.lt q) e) (Nat.lt_irrefl _)
theorem dJ.kept (x : dJ P w H h) (k : ∀ b u, h.get? b = some u -> h'.get? b = some u) : dJ P w H h' := fun a o e =>
 (x a o e).stay (fun b u _ q => k b u q) (fun _ q => q) fun _ _ q => q
theorem dJ.laid (x : dJ P w H h) (k : ∀ b u, h.get? b = some u -> h'.get? b = some u) (hp : h.objs.size <= a) (new : aW P w (upd H a o) h' a o) : dJ P w (upd H a o) h' := fun b u e => by
 have hn := x.fresh hp
 by_cases hb : b = a
 ·subst hb; rw [aK] at e; cases e; exact new
 ·rw [aw hb] at e
  exact (x b u e).stay (fun c v _ q => k c v q) (fun c q => by rw [aw (ay q hn)]; exact q) fun c xs q => by rw [aw (ay q hn)]; exact q
end
def Rd (H : Hp) (a : Addr) (u : HO) : Prop := H a = some u \/ ∃ o, H a = some (.frz o u)
theorem Rd.of {H : Hp} {a : Addr} {u : HO} (h : H a = some u) : Rd H a u := .inl h
theorem Rd.ok {P : Program} {w : World} {H : Hp} {h : Heap} {a : Addr} {u : HO} (r : Rd H a u) (x : dJ P w H h) : aW P w H h a u := by
 rcases r with r | ⟨o, r⟩
 ·exact x a u r
 ·obtain ⟨_, q⟩ := x a _ r
  exact q
def BU : Option HO -> Prop
 | some (.lst _) => True
 | some (.dK _) => True
 | some (.dT _) => True
 | some (.set _ _) => True
 | some (.ins _ _ _) => True
 | some (.ext _) => True
 | _ => False
section
variable {P : Program} {w : World} {H : Hp} {h h' : Heap} {x e : Addr} {o' : HO}
theorem dJ.write (ok : dJ P w H h) (mu : BU (H x)) (he : e = x \/ H e = some (.own x)) (k : ∀ b u, b ≠ e -> h.get? b = some u -> h'.get? b = some u) (heo : ∃ u, h'.get? e = some u)
  (new : aW P w (upd H x o') h' x o') : dJ P w (upd H x o') h' := fun b u q => by
 have nown : ∀ c y, H c = some (.own y) -> c ≠ x := fun c y r z => by subst z; rw [r] at mu; exact mu
 have ntup : ∀ c xs, H c = some (.tup xs) -> c ≠ x := fun c xs r z => by subst z; rw [r] at mu; exact mu
 by_cases hb : b = x
 ·subst hb; rw [aK] at q; cases q; exact new
 ·rw [aw hb] at q
  by_cases hbe : b = e
  ·have q' : H b = some (.own x) := by
    rcases he with z | z
    ·exact absurd (hbe.trans z) hb
    ·rw [hbe]; exact z
   rw [q] at q'; cases q'
   obtain ⟨v, hv⟩ := heo
   exact ⟨v, by rw [hbe]; exact hv⟩
  ·refine (ok b u q).stay (fun c v hc r => k c v ?_ r) (fun c r => by rw [aw (nown c b r)]; exact r) fun c xs r => by rw [aw (ntup c xs r)]; exact r
   rcases hc with rfl | hc
   ·exact hbe
   ·rintro rfl
    rcases he with z | z
    ·exact nown c b hc z
    ·rw [hc] at z; cases z; exact hb rfl
end
structure Un (fs ex : List Addr) (H H' : Hp) (h h' : Heap) : Prop where
 keep : ∀ b o, h.get? b = some o -> H b = none -> b ∉ fs -> b ∉ ex -> h'.get? b = some o
 slot : ∀ b o, h.get? b = some o -> H b = none -> b ∈ fs -> b ∉ ex -> ∃ sl, h'.get? b = some { o with slots := sl }
 free : ∀ b o, h.get? b = some o -> H b = none -> b ∉ ex -> H' b = none
 there : ∀ b o, h.get? b = some o -> b ∉ ex -> ∃ o', h'.get? b = some o'
 tups : ∀ b xs, H b = some (.tup xs) -> H' b = some (.tup xs)
 frzs : ∀ b o u, H b = some (.frz o u) -> H' b = some (.frz o u)
 tbls : ∀ b ps, H b = some (.tbl ps) -> ∃ more, H' b = some (.tbl (ps ++ more))
section
variable {fs fs' ex ex' : List Addr} {H H1 H2 : Hp} {h h1 h2 h' : Heap} {a x e : Addr} {o : HO}
theorem Un.any (u : Un fs ex H H1 h h1) {b : Addr} {ob : Obj} (q : h.get? b = some ob) (n : H b = none) (hx : b ∉ ex) : ∃ sl, h1.get? b = some { ob with slots := sl } := by
 by_cases hb : b ∈ fs
 ·exact u.slot b ob q n hb hx
 ·exact ⟨ob.slots, u.keep b ob q n hb hx⟩
theorem Un.trans (a : Un fs ex H H1 h h1) (b : Un fs ex H1 H2 h1 h2) : Un fs ex H H2 h h2 where
 keep := fun c ob q n hc hx => b.keep c ob (a.keep c ob q n hc hx) (a.free c ob q n hx) hc hx
 slot := fun c ob q n hc hx => by
  obtain ⟨sl, e1⟩ := a.slot c ob q n hc hx
  obtain ⟨sl', e2⟩ := b.slot c _ e1 (a.free c ob q n hx) hc hx
  exact ⟨sl', e2⟩
 free := fun c ob q n hx => by
  obtain ⟨o', e1⟩ := a.there c ob q hx
  exact b.free c o' e1 (a.free c ob q n hx) hx
 there := fun c ob q hx => by
  obtain ⟨o', e1⟩ := a.there c ob q hx
  exact b.there c o' e1 hx
 tups := fun c xs q => b.tups c xs (a.tups c xs q)
 frzs := fun c ob xs q => b.frzs c ob xs (a.frzs c ob xs q)
 tbls := fun c ps q => by
  obtain ⟨m1, e1⟩ := a.tbls c ps q
  obtain ⟨m2, e2⟩ := b.tbls c _ e1
  exact ⟨m1 ++ m2, by rw [e2, Array.append_assoc]⟩
theorem Un.kept (k : ∀ b u, h.get? b = some u -> h'.get? b = some u) : Un fs ex H H h h' :=
 ⟨fun b ob q _ _ _ => k b ob q, fun b ob q _ _ _ => ⟨ob.slots, k b ob q⟩, fun _ _ _ n _ => n, fun b ob q _ => ⟨ob, k b ob q⟩, fun _ _ q => q, fun _ _ _ q => q, fun _ ps q => ⟨#[], by rw [q]; simp⟩⟩
theorem Un.refl : Un fs ex H H h h := Un.kept fun _ _ q => q
theorem Un.laid (k : ∀ b u, h.get? b = some u -> h'.get? b = some u) (hp : h.objs.size <= a) (hn : H a = none) : Un fs ex H (upd H a o) h h' where
 keep := fun b u q _ _ _ => k b u q
 slot := fun b u q _ _ _ => ⟨u.slots, k b u q⟩
 free := fun b u q n _ => by rw [aw (Nat.ne_of_lt (Nat.lt_of_lt_of_le (Heap.lt_size q) hp))]; exact n
 there := fun b u q _ => ⟨u, k b u q⟩
 tups := fun b xs q => by rw [aw (ay q hn)]; exact q
 frzs := fun b u xs q => by rw [aw (ay q hn)]; exact q
 tbls := fun b ps q => ⟨#[], by rw [aw (ay q hn), q]; simp⟩
theorem Un.write (mu : BU (H x)) (he : e = x \/ H e = some (.own x)) (k : ∀ b u, b ≠ e -> h.get? b = some u -> h'.get? b = some u) (heo : ∃ u, h'.get? e = some u) : Un fs ex H (upd H x o) h h' := by
 have hx : ∀ b, H b = none -> b ≠ x := fun b n z => by subst z; rw [n] at mu; exact mu
 have hb : ∀ b, H b = none -> b ≠ e := fun b n z => by
  subst z
  rcases he with r | r
  ·exact hx b n r
  ·rw [n] at r; cases r
 have hm : ∀ b u, H b = some u -> ¬ BU (some u) -> b ≠ x := fun b u q nm z => by subst z; rw [q] at mu; exact nm mu
 refine ⟨fun b u q n _ _ => k b u (hb b n) q, fun b u q n _ _ => ⟨u.slots, k b u (hb b n) q⟩, fun b u q n _ => by rw [aw (hx b n)]; exact n, fun b u q _ => ?_,
  fun b xs q => by rw [aw (hm b _ q fun z => z)]; exact q, fun b u xs q => by rw [aw (hm b _ q fun z => z)]; exact q, fun b ps q => ⟨#[], by rw [aw (hm b _ q fun z => z), q]; simp⟩⟩
 by_cases hbe : b = e
 ·subst hbe; exact heo
 ·exact ⟨u, k b u hbe q⟩
theorem Un.mono (u : Un fs ex H H1 h h1) (hs : ∀ b ∈ fs, b ∈ fs') (hx : ∀ b ∈ ex, b ∈ ex') : Un fs' ex' H H1 h h1 :=
 ⟨fun b ob q n hb he => u.keep b ob q n (fun z => hb (hs b z)) fun z => he (hx b z), fun _ _ q n _ he => u.any q n fun z => he (hx _ z), fun b ob q n he => u.free b ob q n fun z => he (hx b z), fun b ob q he => u.there b ob q fun z => he (hx b z), u.tups, u.frzs, u.tbls⟩
end
def BV (h : Heap) (H : Hp) : List Addr := (List.range h.objs.size).filter fun a => (H a).isSome
def iy (h : Heap) (H : Hp) : Heap := PySem.W.hideAll h (BV h H)
theorem jD (h : Heap) (H : Hp) : (iy h H).objs.size = h.objs.size := PySem.W.hideAll_size _ _
theorem iX {h : Heap} {H : Hp} {b : Addr} {o : Obj} (e : h.get? b = some o) (n : H b = none) : (iy h H).get? b = some o :=
 PySem.W.hideAll_get _ e fun hm => by
  have q : (H b).isSome = true := (List.mem_filter.mp hm).2
  rw [n] at q; simp at q
theorem nj {h : Heap} {H : Hp} {b : Addr} {o : Obj} (e : (iy h H).get? b = some o) : h.get? b = some o /\ H b = none := by
 have e' : h.get? b = some o := PySem.W.of_hideAll (BV h H) e
 refine ⟨e', ?_⟩
 cases q : H b with
 | none => rfl
 | some x =>
  have hm : b ∈ BV h H := List.mem_filter.mpr ⟨List.mem_range.mpr (Heap.lt_size e'), by simp [q]⟩
  have z : (iy h H).get? b = none := PySem.W.hideAll_none (BV h H) hm
  rw [z] at e; cases e
def iY (g h : Heap) (L : Addr) : List (Addr × Obj) := (List.range h.objs.size).filterMap fun a => if a = L \/ (g.get? a).isSome = true then none else (h.get? a).map fun o => (a, o)
theorem oU {g h : Heap} {L a : Addr} {o : Obj} (h1 : a ≠ L) (h2 : g.get? a = none) (h3 : h.get? a = some o) : (a, o) ∈ iY g h L :=
 List.mem_filterMap.mpr ⟨a, List.mem_range.mpr (Heap.lt_size h3), by simp [h1, h2, h3]⟩
theorem kC {g h : Heap} {L : Addr} {p : Addr × Obj} (hp : p ∈ iY g h L) : p.1 ≠ L /\ g.get? p.1 = none /\ h.get? p.1 = some p.2 := by
 obtain ⟨b, _, e⟩ := List.mem_filterMap.mp hp
 split at e
 ·cases e
 ·rename_i hn
  cases q : h.get? b with
  | none => rw [q] at e; simp at e
  | some u =>
   rw [q] at e
   simp only [Option.map_some, Option.some.injEq] at e
   subst e
   refine ⟨fun z => hn (.inl z), ?_, q⟩
   show g.get? b = none
   cases r : g.get? b with
   | none => rfl
   | some v => exact (hn (.inr (by simp [r]))).elim
def rest (g h : Heap) (L d : Addr) : List (Addr × Obj) := (iY g h L).filter fun p => decide (p.1 ≠ d)
theorem kD {g h : Heap} {L : Addr} : News g L h (iY g h L) := fun p hp => let ⟨a, b, c⟩ := kC hp; ⟨c, a, b⟩
end L2
namespace L2
open PySem PySem.Spec PyProof.Rows
structure Mod (K : PySem.W.Frag) (mg : Str -> Option Value) (base : Heap) : Prop where
 kin : K.In base
 glob : base.Ns mainGlobals mg
 blt : ∃ mb, base.Ns builtinsNs mb /\ ∀ x : Str, x ≠ "__name__" -> mb x = bootBuiltins x
 nolimit : base.NoLimit
structure Cx where
 prog : Program
 w : World
 K : PySem.W.Frag
 mg : Str -> Option Value
 base : Heap
 A : Around
 N : List Str
 s₀ : Shared
 H₀ : Hp
 env : Env
 outer : List Env
 stack : List Env
 ex : List Addr
 fn : Str -> Bool
 calm : Bool
 pn : List (Addr × Obj)
 xe : Value -> Shared -> Prop
def gr (l : List Env) : List Addr := l.filterMap (·.frame)
abbrev Cx.fs (X : Cx) : List Addr := gr X.outer
def yh (sc : Scope) (x : Str) : Prop := sc.names.lookup x = some .local \/ sc.names.lookup x = some .cell \/ sc.names.lookup x = some .free
def Loc (sc : Scope) (x : Str) : Prop := sc.names.lookup x = some .local \/ sc.names.lookup x = some .cell
def Look (env : Env) (h : Heap) (m : Str -> Option Value) (x : Str) (u : Value) : Prop :=
 (env.kindOf x = some .local /\ m x = some u) \/ ((env.kindOf x = some .cell \/ env.kindOf x = some .free) /\ ∃ c, env.cells.lookup x = some c /\ h.IsCell c (some u))
structure Cx.Ok (X : Cx) : Prop where
 mod : Mod X.K X.mg X.base
 kind : X.env.scope.kind = .function
 glob : X.env.globals = mainGlobals
 blt : X.env.builtins = builtinsNs
 above : X.s₀.heap.objs.size <= X.env.locals
 inj : ∀ x y c, X.env.cells.lookup x = some c -> X.env.cells.lookup y = some c -> x = y
 has : ∀ x, (X.env.kindOf x = some .cell \/ X.env.kindOf x = some .free) -> ∃ c, X.env.cells.lookup x = some c
 cab : ∀ x c, X.fn x = true -> X.env.cells.lookup x = some c -> X.s₀.heap.objs.size <= c
 hd : X.calm = true -> X.A.handled = none
 frames : X.A.frames = some X.stack
 stk : X.stack = X.outer \/ (X.stack = X.env :: X.outer /\ X.env.frame = some X.env.locals)
 exf : ∀ b ∈ X.ex, b ≠ X.env.locals /\ ∀ x c, X.env.cells.lookup x = some c -> c ≠ b
 bs : ∀ b o, X.base.get? b = some o -> X.s₀.heap.get? b = some o /\ X.H₀ b = none
 bsz : X.base.objs.size <= X.s₀.heap.objs.size
 noex : ∀ b o, X.base.get? b = some o -> b ∉ X.ex
 exfs : ∀ b ∈ X.ex, b ∉ X.fs
 funs : X.s₀.heap.FunFrames X.base X.outer
 frf : ∀ b ∈ X.fs, X.H₀ b = none
structure Inv (X : Cx) (pins : List (Addr × Obj)) (σ : List (Option V)) (H : Hp) (s : Shared) : Prop where
 ok : X.Ok
 os : s.os = X.s₀.os
 bare : AllBare s.gens
 base : Un X.fs X.ex X.H₀ H X.s₀.heap s.heap
 loc : ∃ m, s.heap.Ns X.env.locals m /\ ∀ (i : Nat) (x : Str) (v : V), X.N[i]? = some x -> σ[i]? = some (some v) -> yh X.env.scope x -> ∃ u, RelV v u /\ Look X.env s.heap m x u
 cell : ∀ x c, X.env.cells.lookup x = some c -> ∃ v, s.heap.IsCell c v
 free : H X.env.locals = none
 freeC : ∀ x c, X.env.cells.lookup x = some c -> H c = none
 pin : ∀ p ∈ X.pn ++ pins, s.heap.get? p.1 = some p.2 /\ H p.1 = none /\ p.1 ≠ X.env.locals /\ p.1 ∉ X.fs /\ ∀ v, p.2.data ≠ .cell v
 hok : dJ X.prog X.w H s.heap
 len : σ.length = X.N.length
section
variable {X : Cx} {pins : List (Addr × Obj)} {σ : List (Option V)} {H H' : Hp} {s : Shared} {h' : Heap}
theorem Cx.Ok.nofr (ok : X.Ok) {b : Addr} {o : Obj} (e : X.base.get? b = some o) : b ∉ X.fs := fun hb => by
 have := (ok.funs.mem hb).1
 rw [e] at this; cases this
theorem Inv.bs (I : Inv X pins σ H s) : ∀ b o, X.base.get? b = some o -> s.heap.get? b = some o /\ H b = none := fun b o e =>
 ⟨I.base.keep b o (I.ok.bs b o e).1 (I.ok.bs b o e).2 (I.ok.nofr e) (I.ok.noex b o e), I.base.free b o (I.ok.bs b o e).1 (I.ok.bs b o e).2 (I.ok.noex b o e)⟩
theorem Inv.bk (I : Inv X pins σ H s) : ∀ b o, X.base.get? b = some o -> s.heap.get? b = some o := fun b o e => (I.bs b o e).1
theorem Inv.mod (I : Inv X pins σ H s) : Mod X.K X.mg X.base := I.ok.mod
theorem Inv.kIn (I : Inv X pins σ H s) : X.K.In s.heap := I.ok.mod.kin.keeps I.bk
theorem Inv.nolimit (I : Inv X pins σ H s) : s.heap.NoLimit := I.ok.mod.nolimit.keeps I.bk
theorem Inv.fr (I : Inv X pins σ H s) : ∃ m, Fr X.base X.env.locals s.heap m :=
 let ⟨m, hn, _⟩ := I.loc
 ⟨m, hn, I.bk, Nat.le_trans I.ok.bsz I.ok.above⟩
theorem Inv.lt (I : Inv X pins σ H s) : X.env.locals < s.heap.objs.size := let ⟨_, hn, _⟩ := I.loc; hn.lt
theorem Inv.sz (I : Inv X pins σ H s) : X.s₀.heap.objs.size <= s.heap.objs.size := Nat.le_trans I.ok.above (Nat.le_of_lt I.lt)
theorem Inv.nofs (I : Inv X pins σ H s) {a : Addr} (h : s.heap.objs.size <= a) : a ∉ X.fs := fun hb => by
 obtain ⟨_, o, ho, _⟩ := I.ok.funs.mem hb
 exact absurd (Nat.lt_of_lt_of_le (Heap.lt_size ho) (Nat.le_trans I.sz h)) (Nat.lt_irrefl _)
theorem Inv.cne (I : Inv X pins σ H s) : ∀ x c, X.env.cells.lookup x = some c -> c ≠ X.env.locals := fun x c e z => by
 obtain ⟨v, o, ho, hd⟩ := I.cell x c e
 obtain ⟨m, ⟨o', es, ep, ho', hd', _⟩, _⟩ := I.loc
 rw [z, ho'] at ho; cases ho; rw [hd'] at hd; cases hd
theorem Inv.funs (I : Inv X pins σ H s) : s.heap.FunFrames X.base X.outer := by
 have all : ∀ (l : List Env), (∀ b ∈ gr l, b ∈ X.fs) -> X.s₀.heap.FunFrames X.base l -> s.heap.FunFrames X.base l := by
  intro l
  induction l with
  | nil => intro _ _; trivial
  | cons env r ih =>
   intro hs hl
   obtain ⟨hk, ⟨L, o, hf, hn, ho, hd⟩, hr⟩ := hl
   have hL : L ∈ X.fs := hs L (by unfold gr; rw [List.filterMap_cons, hf]; exact List.mem_cons_self)
   obtain ⟨sl, e⟩ := I.base.slot L o ho (I.ok.frf L hL) hL fun z => I.ok.exfs L z hL
   exact ⟨hk, ⟨L, _, hf, hn, e, hd⟩, ih (fun b hb => hs b (by unfold gr; rw [List.filterMap_cons, hf]; exact List.mem_cons_of_mem _ hb)) hr⟩
 exact all X.outer (fun _ hb => hb) I.ok.funs
theorem Inv.stack (I : Inv X pins σ H s) : s.heap.FunFrames X.base X.stack := by
 rcases I.ok.stk with e | ⟨e, hf⟩
 ·rw [e]; exact I.funs
 ·rw [e]
  obtain ⟨m, hn, _⟩ := I.loc
  refine .cons (by rw [I.ok.kind]; decide) hf hn ?_ I.funs
  exact Heap.get?_none_of_le (Nat.le_trans I.ok.bsz I.ok.above)
theorem Inv.stkSub (I : Inv X pins σ H s) : ∀ b ∈ gr X.stack, b ∈ X.env.locals :: X.fs := fun b hb => by
 rcases I.ok.stk with e | ⟨e, hf⟩
 ·rw [e] at hb; exact List.mem_cons_of_mem _ hb
 ·rw [e] at hb
  unfold gr at hb
  rw [List.filterMap_cons, hf] at hb
  exact hb
theorem Inv.stkFree (I : Inv X pins σ H s) : ∀ b ∈ gr X.stack, H b = none := fun b hb => by
 rcases List.mem_cons.mp (I.stkSub b hb) with e | hb
 ·rw [e]; exact I.free
 ·obtain ⟨_, o, ho, _⟩ := I.ok.funs.mem hb
  exact I.base.free b o ho (I.ok.frf b hb) fun z => I.ok.exfs b z hb
theorem Inv.step {g' : Array GenState} {t' : Nat} {d' : Drawn} {ch : List Addr} (I : Inv X pins σ H s)
  (hch : ∀ b ∈ ch, (b ∈ X.ex \/ X.s₀.heap.objs.size <= b) /\ b ≠ X.env.locals /\ (∀ x c, X.env.cells.lookup x = some c -> c ≠ b) /\ ∀ p ∈ X.pn ++ pins, p.1 ≠ b)
  (keep : ∀ b o, b ≠ X.env.locals -> b ∉ X.fs -> b ∉ ch -> s.heap.get? b = some o -> H b = none -> h'.get? b = some o)
  (slot : ∀ b o, b ≠ X.env.locals -> b ∈ X.fs -> b ∉ ch -> s.heap.get? b = some o -> H b = none -> ∃ sl, h'.get? b = some { o with slots := sl }) (free : ∀ b o, b ∉ ch -> s.heap.get? b = some o -> H b = none -> H' b = none)
  (there : ∀ b o, b ∉ ch -> s.heap.get? b = some o -> ∃ o', h'.get? b = some o')
  (tups : ∀ b xs, H b = some (.tup xs) -> H' b = some (.tup xs)) (frzs : ∀ b o u, H b = some (.frz o u) -> H' b = some (.frz o u)) (tbls : ∀ b ps, H b = some (.tbl ps) -> ∃ more, H' b = some (.tbl (ps ++ more)))
  (ns : ∀ m, s.heap.Ns X.env.locals m -> h'.Ns X.env.locals m) (hok : dJ X.prog X.w H' h') (hg : AllBare g') :
  Inv X pins σ H' { s with heap := h', gens := g', drawn := d', toks := t' } := by
 have neL : ∀ b o, X.s₀.heap.get? b = some o -> b ≠ X.env.locals := fun b o e => Nat.ne_of_lt (Nat.lt_of_lt_of_le (Heap.lt_size e) I.ok.above)
 have neC : ∀ b o, X.s₀.heap.get? b = some o -> b ∉ X.ex -> b ∉ ch := fun b o e hx hb => by
  rcases (hch b hb).1 with z | z
  ·exact hx z
  ·exact absurd (Nat.lt_of_lt_of_le (Heap.lt_size e) z) (Nat.lt_irrefl _)
 have cellK : ∀ x c, X.env.cells.lookup x = some c -> ∀ v, s.heap.IsCell c v -> h'.IsCell c v := fun x c e v ⟨o, ho, hd⟩ => by
  have nch : c ∉ ch := fun z => (hch c z).2.2.1 x c e rfl
  by_cases hc : c ∈ X.fs
  ·obtain ⟨sl, q⟩ := slot c o (I.cne x c e) hc nch ho (I.freeC x c e)
   exact ⟨_, q, hd⟩
  ·exact ⟨o, keep c o (I.cne x c e) hc nch ho (I.freeC x c e), hd⟩
 refine ⟨I.ok, I.os, hg, ⟨fun b o e n hb hx => ?_, fun b o e n hb hx => ?_, fun b o e n hx => ?_, fun b o e hx => ?_, fun b xs e => tups b xs (I.base.tups b xs e), fun b o xs e => frzs b o xs (I.base.frzs b o xs e), fun b ps e => ?_⟩, ?_, fun x c e => ?_, ?_, fun x c e => ?_, fun p hp => ?_, hok, I.len⟩
 ·exact keep b o (neL b o e) hb (neC b o e hx) (I.base.keep b o e n hb hx) (I.base.free b o e n hx)
 ·obtain ⟨sl, e1⟩ := I.base.slot b o e n hb hx
  obtain ⟨sl', e2⟩ := slot b _ (neL b o e) hb (neC b o e hx) e1 (I.base.free b o e n hx)
  exact ⟨sl', e2⟩
 ·obtain ⟨o', e1⟩ := I.base.there b o e hx
  exact free b o' (neC b o e hx) e1 (I.base.free b o e n hx)
 ·obtain ⟨o', e1⟩ := I.base.there b o e hx
  exact there b o' (neC b o e hx) e1
 ·obtain ⟨m1, e1⟩ := I.base.tbls b ps e
  obtain ⟨m2, e2⟩ := tbls b _ e1
  exact ⟨m1 ++ m2, by rw [e2, Array.append_assoc]⟩
 ·obtain ⟨m, hn, hl⟩ := I.loc
  refine ⟨m, ns m hn, fun i x v e1 e2 e3 => ?_⟩
  obtain ⟨u, r, l⟩ := hl i x v e1 e2 e3
  refine ⟨u, r, ?_⟩
  rcases l with l | ⟨k, c, e, z⟩
  ·exact .inl l
  ·exact .inr ⟨k, c, e, cellK x c e _ z⟩
 ·obtain ⟨v, z⟩ := I.cell x c e
  exact ⟨v, cellK x c e v z⟩
 ·obtain ⟨m, ⟨o, _, _, ho, _⟩, _⟩ := I.loc
  exact free _ o (fun z => (hch _ z).2.1 rfl) ho I.free
 ·obtain ⟨v, o, ho, hd⟩ := I.cell x c e
  exact free c o (fun z => (hch c z).2.2.1 x c e rfl) ho (I.freeC x c e)
 ·obtain ⟨e, n, ne, nf, d⟩ := I.pin p hp
  have nch : p.1 ∉ ch := fun z => (hch p.1 z).2.2.2 p hp rfl
  exact ⟨keep p.1 p.2 ne nf nch e n, free p.1 p.2 nch e n, ne, nf, d⟩
theorem Inv.un {t' : Nat} (I : Inv X pins σ H s) (u : Un X.fs [] H H' s.heap h') (hok : dJ X.prog X.w H' h') : Inv X pins σ H' { s with heap := h', toks := t' } := by
 obtain ⟨m, ⟨o, es, ep, ho, r⟩, _⟩ := id I.loc
 obtain ⟨sl, hL⟩ := u.any ho I.free (by simp)
 exact I.step (g' := s.gens) (d' := s.drawn) (ch := []) (fun _ z => nomatch z) (fun b o _ hb _ e n => u.keep b o e n hb (by simp)) (fun b o _ hb _ e n => u.slot b o e n hb (by simp)) (fun b o _ e n => u.free b o e n (by simp)) (fun b o _ e => u.there b o e (by simp)) u.tups u.frzs u.tbls (fun m' hm => by
  obtain ⟨o', es', ep', ho', r'⟩ := hm
  rw [ho] at ho'; cases ho'
  exact ⟨_, es', ep', hL, r'⟩) hok I.bare
theorem Inv.call {g' : Array GenState} {t' : Nat} {d' : Drawn} {ch : List Addr} (I : Inv X pins σ H s) (u : Un (gr X.stack) ch H H' s.heap h') (hok : dJ X.prog X.w H' h') (hg : AllBare g')
  (hch : ∀ b ∈ ch, (b ∈ X.ex \/ X.s₀.heap.objs.size <= b) /\ b ≠ X.env.locals /\ (∀ x c, X.env.cells.lookup x = some c -> c ≠ b) /\ ∀ p ∈ X.pn ++ pins, p.1 ≠ b) :
  Inv X pins σ H' { s with heap := h', gens := g', drawn := d', toks := t' } := by
 obtain ⟨m, ⟨o, es, ep, ho, r⟩, _⟩ := id I.loc
 obtain ⟨sl, hL⟩ := u.any ho I.free fun z => (hch _ z).2.1 rfl
 exact I.step (ch := ch) hch (fun b o hL hb hc e n => u.keep b o e n (fun z => (List.mem_cons.mp (I.stkSub b z)).elim hL hb) hc) (fun b o _ _ hc e n => u.any e n hc) (fun b o hc e n => u.free b o e n hc) (fun b o hc e => u.there b o e hc) u.tups u.frzs u.tbls (fun m' hm => by
  obtain ⟨o', es', ep', ho', r'⟩ := hm
  rw [ho] at ho'; cases ho'
  exact ⟨_, es', ep', hL, r'⟩) hok hg
theorem Inv.turned {t' : Nat} {it : Addr} (I : Inv X pins σ H s) (k : ∀ b o, b ≠ it -> s.heap.get? b = some o -> h'.get? b = some o) (hn : H it = none) (hL : it ≠ X.env.locals)
  (h1 : it ∈ X.ex \/ X.s₀.heap.objs.size <= it) (h2 : ∀ x c, X.env.cells.lookup x = some c -> c ≠ it) (h3 : ∀ p ∈ X.pn ++ pins, p.1 ≠ it) : Inv X pins σ H { s with heap := h', toks := t' } := by
 have nit : ∀ b u, H b = some u -> b ≠ it := fun b u e z => by rw [z, hn] at e; cases e
 refine I.step (g' := s.gens) (d' := s.drawn) (ch := [it]) (fun b hb => ?_) (fun b o _ _ hc e _ => k b o (fun z => hc (by simp [z])) e) (fun b o _ _ hc e _ => ⟨o.slots, k b o (fun z => hc (by simp [z])) e⟩) (fun _ _ _ _ n => n)
  (fun b o hc e => ⟨o, k b o (fun z => hc (by simp [z])) e⟩) (fun _ _ e => e) (fun _ _ _ e => e) (fun b ps e => ⟨#[], by rw [e]; simp⟩) (fun m hm => ?_) (fun b u e => ?_) I.bare
 ·have e : b = it := by simpa using hb
  subst e
  exact ⟨h1, hL, h2, h3⟩
 ·obtain ⟨o, es, ep, ho, r⟩ := hm
  exact ⟨o, es, ep, k _ o (Ne.symm hL) ho, r⟩
 ·refine (I.hok b u e).stay (fun c v hc q => k c v ?_ q) (fun _ q => q) fun _ _ q => q
  rcases hc with z | z
  ·rw [z]; exact nit b u e
  ·exact nit c _ z
theorem Inv.tok (I : Inv X pins σ H s) (t : Nat) : Inv X pins σ H { s with toks := t } := I.un (h' := s.heap) (t' := t) Un.refl I.hok
theorem Inv.kept {t' : Nat} (I : Inv X pins σ H s) (k : ∀ b u, s.heap.get? b = some u -> h'.get? b = some u) : Inv X pins σ H { s with heap := h', toks := t' } := I.un (Un.kept k) (I.hok.kept k)
theorem Inv.laid {a : Addr} {o : HO} {t' : Nat} (I : Inv X pins σ H s) (k : ∀ b u, s.heap.get? b = some u -> h'.get? b = some u) (hp : s.heap.objs.size <= a) (new : aW X.prog X.w (upd H a o) h' a o) :
  Inv X pins σ (upd H a o) { s with heap := h', toks := t' } := I.un (Un.laid k hp (I.hok.fresh hp)) (I.hok.laid k hp new)
theorem Inv.write {x e : Addr} {o : HO} {t' : Nat} (I : Inv X pins σ H s) (mu : BU (H x)) (he : e = x \/ H e = some (.own x)) (k : ∀ b u, b ≠ e -> s.heap.get? b = some u -> h'.get? b = some u) (heo : ∃ u, h'.get? e = some u)
  (new : aW X.prog X.w (upd H x o) h' x o) : Inv X pins σ (upd H x o) { s with heap := h', toks := t' } := I.un (Un.write mu he k heo) (I.hok.write mu he k heo new)
theorem Inv.pins_of {pins' : List (Addr × Obj)} (I : Inv X pins σ H s) (h : ∀ p ∈ pins', s.heap.get? p.1 = some p.2 /\ H p.1 = none /\ p.1 ≠ X.env.locals /\ p.1 ∉ X.fs /\ ∀ v, p.2.data ≠ .cell v) : Inv X pins' σ H s :=
 ⟨I.ok, I.os, I.bare, I.base, I.loc, I.cell, I.free, I.freeC, fun p hp => (List.mem_append.mp hp).elim (fun z => I.pin p (List.mem_append_left _ z)) (h p), I.hok, I.len⟩
theorem kE {N : List Str} (hN : N.Nodup) {i j : Nat} {x : Str} (a : N[i]? = some x) (b : N[j]? = some x) : i = j := by
 obtain ⟨h1, e1⟩ := List.getElem?_eq_some_iff.mp a
 obtain ⟨h2, e2⟩ := List.getElem?_eq_some_iff.mp b
 exact (List.getElem_inj hN).mp (e1.trans e2.symm)
theorem mz {M : Model} {A : Around} {E : Value -> Shared -> Prop} {i : Nat} {x : Str} {v : V} {u : Value} {Q : Unit -> Shared -> Prop} (I : Inv X pins σ H s) (hN : X.N.Nodup) (hi : X.N[i]? = some x) (hx : Loc X.env.scope x) (r : RelV v u)
  (h : ∀ s', Inv X pins (σ.set i (some v)) H s' -> (∃ a, Heap.SameBut a s.heap s'.heap /\ (a = X.env.locals \/ X.env.cells.lookup x = some a)) -> Q () s') (hf : X.fn x = true \/ X.env.scope.names.lookup x = some .local := by first | exact .inl rfl | exact .inr rfl | assumption) : wpAny M A (storeName X.env x u) Q E s := by
 obtain ⟨m, hn, hl⟩ := id I.loc
 have hcls : (X.env.scope.kind == .class || (X.env.scope.kind == .module && X.env.locals != X.env.globals)) = false := by rw [I.ok.kind]; rfl
 have hiσ : i < σ.length := by rw [I.len]; exact (List.getElem?_eq_some_iff.mp hi).1
 have cne := I.cne
 have tracked : ∀ {a : Addr} {h' : Heap}, (∃ o, s.heap.get? a = some o /\ H a = none) -> Heap.SameBut a s.heap h' -> dJ X.prog X.w H h' := fun {a h'} ha hs b ob e => by
  obtain ⟨_, _, hfree⟩ := ha
  refine (I.hok b ob e).stay (fun c w' hc q => (hs.2 c ?_).trans q) (fun _ q => q) fun _ _ q => q
  rintro rfl
  rcases hc with rfl | hc
  ·rw [hfree] at e; cases e
  ·rw [hfree] at hc; cases hc
 rcases hx with hk | hk
 ·refine wpAny_storeName_local hk hn (fun h' hn' hs => ?_) hcls
  obtain ⟨oL, _, _, hoL, _⟩ := id hn
  refine h _ ⟨I.ok, I.os, I.bare, ⟨fun b o e n hb hx => ?_, fun b o e n hb hx => ?_, I.base.free, fun b o e hx => ?_, I.base.tups, I.base.frzs, I.base.tbls⟩, ⟨_, hn', fun j y v' e1 e2 e3 => ?_⟩, fun y c e => ?_, I.free, I.freeC, fun p hp => ?_, tracked ⟨oL, hoL, I.free⟩ hs, by simpa using I.len⟩ ⟨_, hs, .inl rfl⟩
  ·exact (hs.2 b (Nat.ne_of_lt (Nat.lt_of_lt_of_le (Heap.lt_size e) I.ok.above))).trans (I.base.keep b o e n hb hx)
  ·obtain ⟨sl, e1⟩ := I.base.slot b o e n hb hx
   exact ⟨sl, (hs.2 b (Nat.ne_of_lt (Nat.lt_of_lt_of_le (Heap.lt_size e) I.ok.above))).trans e1⟩
  ·obtain ⟨o', e1⟩ := I.base.there b o e hx
   exact ⟨o', (hs.2 b (Nat.ne_of_lt (Nat.lt_of_lt_of_le (Heap.lt_size e) I.ok.above))).trans e1⟩
  ·by_cases hj : j = i
   ·subst hj
    rw [hi] at e1; cases e1
    rw [List.getElem?_set_self hiσ] at e2
    cases e2
    exact ⟨u, r, .inl ⟨hk, by simp⟩⟩
   ·rw [List.getElem?_set_ne (Ne.symm hj)] at e2
    obtain ⟨u', r', q⟩ := hl j y v' e1 e2 e3
    refine ⟨u', r', ?_⟩
    rcases q with ⟨k, e⟩ | ⟨k, c, e, z⟩
    ·refine .inl ⟨k, ?_⟩
     have : y ≠ x := fun e => hj (kE hN e1 (e ▸ hi))
     simp [this, e]
    ·exact .inr ⟨k, c, e, z.sameBut hs (cne y c e)⟩
  ·obtain ⟨w', z⟩ := I.cell y c e
   exact ⟨w', z.sameBut hs (cne y c e)⟩
  ·obtain ⟨e, n, ne, nf, d⟩ := I.pin p hp
   exact ⟨(hs.2 p.1 ne).trans e, n, ne, nf, d⟩
 ·have hfn : X.fn x = true := by
   rcases hf with z | z
   ·exact z
   ·rw [z] at hk; cases hk
  obtain ⟨c, hc⟩ := I.ok.has x (.inl hk)
  obtain ⟨w', z⟩ := I.cell x c hc
  refine wpAny_storeName_cell I.ok.kind hk hc z (fun h' hc' hs => ?_)
  obtain ⟨oc, hoc, hocd⟩ := id z
  refine h { s with heap := h' } ⟨I.ok, I.os, I.bare, ⟨fun b o e n hb hx => ?_, fun b o e n hb hx => ?_, I.base.free, fun b o e hx => ?_, I.base.tups, I.base.frzs, I.base.tbls⟩, ⟨m, hn.sameBut hs (Ne.symm (cne x c hc)), fun j y v' e1 e2 e3 => ?_⟩, fun y c' e => ?_, I.free, I.freeC, fun p hp => ?_, tracked ⟨oc, hoc, I.freeC x c hc⟩ hs, by simpa using I.len⟩ ⟨c, hs, .inr hc⟩
  ·exact (hs.2 b (Nat.ne_of_lt (Nat.lt_of_lt_of_le (Heap.lt_size e) (I.ok.cab x c hfn hc)))).trans (I.base.keep b o e n hb hx)
  ·obtain ⟨sl, e1⟩ := I.base.slot b o e n hb hx
   exact ⟨sl, (hs.2 b (Nat.ne_of_lt (Nat.lt_of_lt_of_le (Heap.lt_size e) (I.ok.cab x c hfn hc)))).trans e1⟩
  ·obtain ⟨o', e1⟩ := I.base.there b o e hx
   exact ⟨o', (hs.2 b (Nat.ne_of_lt (Nat.lt_of_lt_of_le (Heap.lt_size e) (I.ok.cab x c hfn hc)))).trans e1⟩
  ·by_cases hj : j = i
   ·subst hj
    rw [hi] at e1; cases e1
    rw [List.getElem?_set_self hiσ] at e2
    cases e2
    exact ⟨u, r, .inr ⟨.inl hk, c, hc, hc'⟩⟩
   ·rw [List.getElem?_set_ne (Ne.symm hj)] at e2
    obtain ⟨u', r', q⟩ := hl j y v' e1 e2 e3
    refine ⟨u', r', ?_⟩
    rcases q with q | ⟨k, c', e, z'⟩
    ·exact .inl q
    ·refine .inr ⟨k, c', e, z'.sameBut hs ?_⟩
     rintro rfl
     exact hj (kE hN e1 (I.ok.inj _ _ _ e hc ▸ hi))
  ·by_cases hcc : c' = c
   ·subst hcc; exact ⟨_, hc'⟩
   ·obtain ⟨w2, z2⟩ := I.cell y c' e
    exact ⟨w2, z2.sameBut hs hcc⟩
  ·obtain ⟨e, n, ne, nf, d⟩ := I.pin p hp
   refine ⟨(hs.2 p.1 ?_).trans e, n, ne, nf, d⟩
   intro q
   rw [q, hoc] at e
   have q' : oc = p.2 := Option.some.inj e
   exact d w' (by rw [<- q']; exact hocd)
theorem kF {M : Model} {A : Around} {E : Value -> Shared -> Prop} {i : Nat} {x : Str} {v : V} {u : Value} {Q : Unit -> Shared -> Prop} (I : Inv X pins σ H s) (hN : X.N.Nodup) (hi : X.N[i]? = some x) (hx : Loc X.env.scope x) (r : RelV v u)
  (h : ∀ s', Inv X pins (σ.set i (some v)) H s' -> Q () s') (hf : X.fn x = true \/ X.env.scope.names.lookup x = some .local := by first | exact .inl rfl | exact .inr rfl | assumption) : wpAny M A (storeName X.env x u) Q E s :=
 mz I hN hi hx r (fun s' I' _ => h s' I') hf
theorem Inv.call' {s' : Shared} {ch : List Addr} (I : Inv X pins σ H s) (ho : s'.os = s.os) (u : Un (gr X.stack) ch H H' s.heap s'.heap) (hok : dJ X.prog X.w H' s'.heap) (hg : AllBare s'.gens)
  (hch : ∀ b ∈ ch, (b ∈ X.ex \/ X.s₀.heap.objs.size <= b) /\ b ≠ X.env.locals /\ (∀ x c, X.env.cells.lookup x = some c -> c ≠ b) /\ ∀ p ∈ X.pn ++ pins, p.1 ≠ b) : Inv X pins σ H' s' := by
 obtain ⟨h', g', d', t', o'⟩ := s'
 have e : o' = s.os := ho
 subst e
 exact I.call (g' := g') (t' := t') (d' := d') u hok hg hch
end
abbrev XK := Value -> Option Addr -> Hp -> Prop
abbrev St := List (Option V)
abbrev VK := V -> Hp -> Prop
abbrev TE := St -> Hp -> VK -> Prop
abbrev TT := St -> Hp -> (Bool -> Hp -> Prop) -> Prop
abbrev TA := St -> Hp -> (List V -> Hp -> Prop) -> Prop
structure Ends where
 nx : St -> Hp -> Prop
 rt : VK
 bk : St -> Hp -> Prop := fun _ _ => False
 ct : St -> Hp -> Prop := fun _ _ => False
abbrev TS := Ends -> St -> Hp -> Prop
def EP (X : Cx) (pins : List (Addr × Obj)) (σ : St) (Q : VK) (u : Value) (s' : Shared) : Prop := ∃ v H', Inv X pins σ H' s' /\ RelV v u /\ Q v H'
def TP (X : Cx) (pins : List (Addr × Obj)) (σ : St) (Q : Bool -> Hp -> Prop) (b : Bool) (s' : Shared) : Prop := ∃ H', Inv X pins σ H' s' /\ Q b H'
def AP (X : Cx) (pins : List (Addr × Obj)) (σ : St) (Q : List V -> Hp -> Prop) (us : List Value) (s' : Shared) : Prop := ∃ vs H', Inv X pins σ H' s' /\ aI vs us /\ Q vs H'
def SP (X : Cx) (pins : List (Addr × Obj)) (D : Ends) (f : Flow) (s' : Shared) : Prop :=
 match f with
 | .next => ∃ σ' H', Inv X pins σ' H' s' /\ D.nx σ' H'
 | .brk => ∃ σ' H', Inv X pins σ' H' s' /\ D.bk σ' H'
 | .cont => ∃ σ' H', Inv X pins σ' H' s' /\ D.ct σ' H'
 | .ret u => ∃ v σ' H', Inv X pins σ' H' s' /\ RelV v u /\ D.rt v H'
def PE (X : Cx) (e : Expr) (t : TE) : Prop :=
 ∀ (pins : List (Addr × Obj)) (s : Shared) (σ : St) (H : Hp) (Q : VK), Inv X pins σ H s -> t σ H Q -> wpAny (model X.prog X.w) X.A (eval e X.env) (EP X pins σ Q) X.xe s
def PT (X : Cx) (e : Expr) (t : TT) : Prop :=
 ∀ (pins : List (Addr × Obj)) (s : Shared) (σ : St) (H : Hp) (Q : Bool -> Hp -> Prop), Inv X pins σ H s -> t σ H Q -> wpAny (model X.prog X.w) X.A (isTrue e X.env (eval e X.env)) (TP X pins σ Q) X.xe s
def PW (X : Cx) (e : Expr) (t : TT) : Prop :=
 ∀ (whole : Sem Value) (pins : List (Addr × Obj)) (s : Shared) (σ : St) (H : Hp) (Q : Bool -> Hp -> Prop), Inv X pins σ H s -> t σ H Q -> wpAny (model X.prog X.w) X.A (isTrue e X.env whole) (TP X pins σ Q) X.xe s
theorem PW.pt {X : Cx} {e : Expr} {t : TT} (h : PW X e t) : PT X e t := h _
def PA (X : Cx) (es : List Expr) (t : TA) : Prop :=
 ∀ (pos : Pos) (pins : List (Addr × Obj)) (s : Shared) (σ : St) (H : Hp) (Q : List V -> Hp -> Prop), Inv X pins σ H s -> t σ H Q -> wpAny (model X.prog X.w) X.A (spliced (backTo pos (starEach es X.env))) (AP X pins σ Q) X.xe s
def PS (X : Cx) (st : Stmt) (t : TS) : Prop :=
 ∀ (pins : List (Addr × Obj)) (s : Shared) (σ : St) (H : Hp) (D : Ends), Inv X pins σ H s -> t D σ H -> wpAny (model X.prog X.w) X.A (exec st X.env) (SP X pins D) X.xe s
def lO (X : Cx) (st : List Stmt) (t : TS) : Prop :=
 ∀ (pins : List (Addr × Obj)) (s : Shared) (σ : St) (H : Hp) (D : Ends), Inv X pins σ H s -> t D σ H -> wpAny (model X.prog X.w) X.A (execs st X.env) (SP X pins D) X.xe s
theorem cB {α : Type} {t : Sem α} {Q Q' : α -> Shared -> Prop} {M : Model} {A : Around} {E : Value -> Shared -> Prop} {s : Shared} (h : wpAny M A t Q E s) (hQ : ∀ a s, Q a s -> Q' a s) : wpAny M A t Q' E s := wpAny_mono h hQ fun _ _ x => x
end L2
namespace L2
open PySem PySem.Spec PyProof.Rows
section
variable {X : Cx}
def Cj (i : Nat) : TE := fun σ H Q => ∃ v, σ[i]? = some (some v) /\ Q v H
def tC (v : V) : TE := fun _ H Q => Q v H
theorem qy {i : Nat} {x : Str} {pos : Pos} (hN : X.N[i]? = some x) (hv : yh X.env.scope x) (hd : (x == ("__debug__" : Str)) = false := by decide) (hcd : (x == ("__classdict__" : Str)) = false := by decide) : PE X (.Name x pos) (Cj i) := by
 intro pins s σ H Q I h
 obtain ⟨v, e, h⟩ := h
 obtain ⟨m, hn, hl⟩ := I.loc
 obtain ⟨u, r, l⟩ := hl i x v hN e hv
 have fin : EP X pins σ Q u s := ⟨v, H, I, r, h⟩
 rcases l with ⟨hk, hm⟩ | ⟨hk, c, hc, hcell⟩
 ·exact wpAny_Name (wpAny_loadName_local I.ok.kind hk hn hm fin) hd
 ·rcases hk with hk | hk
  ·exact wpAny_Name (wpAny_loadName_cell I.ok.kind hk hc hcell fin) hd
  ·exact wpAny_Name (wpAny_loadName_free I.ok.kind hk hc hcell fin hcd) hd
theorem uJ {i j pos} : PE X (.Constant (.int i) j pos) (tC (.int i)) := fun _ _ _ H _ I h => wpAny_Constant_int ⟨.int i, H, I.tok _, ⟨_, rfl⟩, h⟩
theorem AL {b j pos} : PE X (.Constant (.bool b) j pos) (tC (.bl b)) := fun _ _ _ H _ I h => Constant_bool ⟨.bl b, H, I, rfl, h⟩
theorem yK {j pos} : PE X (.Constant .none j pos) (tC .non) := fun _ _ _ H _ I h => Constant_none ⟨.non, H, I, rfl, h⟩
theorem yL {x j pos} : PE X (.Constant (.str x) j pos) (tC (.str x)) := fun _ _ _ H _ I h => Calls.Constant_str ⟨.str x, H, I.tok _, ⟨_, rfl⟩, h⟩
def Gl (X : Cx) (x : Str) : Prop := X.env.kindOf x = some .globalImplicit
theorem iZ {E : Value -> Shared -> Prop} {pins : List (Addr × Obj)} {s : Shared} {σ : St} {H : Hp} {x : Str} {u : Value} {pos : Pos} {Q : Value -> Shared -> Prop} (I : Inv X pins σ H s) (hg : Gl X x) (hm : X.mg x = some u) (h : Q u s)
  (hd : (x == ("__debug__" : Str)) = false := by decide) : wpAny (model X.prog X.w) X.A (eval (.Name x pos) X.env) Q E s :=
 Calls.Name_function_global I.ok.kind hg (Calls.loadGlobal_global (by rw [I.ok.glob]; exact I.mod.glob.keeps I.bk) hm h) hd
theorem jE {E : Value -> Shared -> Prop} {pins : List (Addr × Obj)} {s : Shared} {σ : St} {H : Hp} {x : Str} {u : Value} {pos : Pos} {Q : Value -> Shared -> Prop} (I : Inv X pins σ H s) (hg : Gl X x) (hm : X.mg x = none) (hv : bootBuiltins x = some u) (h : Q u s)
  (hn : x ≠ "__name__" := by decide) (hd : (x == ("__debug__" : Str)) = false := by decide) : wpAny (model X.prog X.w) X.A (eval (.Name x pos) X.env) Q E s := by
 obtain ⟨mb, h1, h2⟩ := I.mod.blt
 exact Calls.Name_function_global I.ok.kind hg (Calls.loadGlobal_builtin (by rw [I.ok.glob]; exact I.mod.glob.keeps I.bk) hm (by rw [I.ok.blt]; exact h1.keeps I.bk) ((h2 x hn).trans hv) h) hd
theorem rW {x : Str} {v : V} {u : Value} {pos : Pos} (hg : Gl X x) (hm : X.mg x = some u) (r : RelV v u) (hd : (x == ("__debug__" : Str)) = false := by decide) : PE X (.Name x pos) (tC v) :=
 fun _ _ _ H _ I h => iZ I hg hm ⟨v, H, I, r, h⟩ hd
theorem ku {x : Str} {v : V} {u : Value} {pos : Pos} (hg : Gl X x) (hm : X.mg x = none) (hv : bootBuiltins x = some u) (r : RelV v u) (hn : x ≠ "__name__" := by decide) (hd : (x == ("__debug__" : Str)) = false := by decide) : PE X (.Name x pos) (tC v) :=
 fun _ _ _ H _ I h => jE I hg hm hv ⟨v, H, I, r, h⟩ hn hd
def BW (ta tb : TE) (k : Int -> Int -> Hp -> Prop) : St -> Hp -> Prop := fun σ H => ta σ H fun x H1 => tb σ H1 fun y H2 => ∃ i j, x = .int i /\ y = .int j /\ k i j H2
def DF (ta tb : TE) : TE := fun σ H Q => BW ta tb (fun i j H2 => Q (.int (i + j)) H2) σ H
def DG (ta tb : TE) : TE := fun σ H Q => BW ta tb (fun i j H2 => Q (.int (i - j)) H2) σ H
def DH (ta tb : TE) : TE := fun σ H Q => BW ta tb (fun i j H2 => (-(2 ^ 64) < i /\ i < 2 ^ 64) /\ Q (.int (i * j)) H2) σ H
variable {a b : Expr} {ta tb : TE} {pos : Pos}
def PC (X : Cx) (op : CmpOp) (a b : Expr) (t : TE) : Prop :=
 ∀ (pins : List (Addr × Obj)) (s : Shared) (σ : St) (H : Hp) (Q : VK), Inv X pins σ H s -> t σ H Q ->
  wpAny (model X.prog X.w) X.A (eval a X.env) (fun v s₁ => wpAny (model X.prog X.w) X.A (eval b X.env) (fun u s₂ => wpAny (model X.prog X.w) X.A (compareOp op v u) (EP X pins σ Q) X.xe s₂) X.xe s₁) X.xe s
theorem oV (b : Expr) {op : CmpOp} (h : op ≠ .In) (h2 : op ≠ .NotIn) : behindInMarks op b = false := by
 have e1 : (op == CmpOp.In) = false := by cases op <;> first | rfl | exact absurd rfl h
 have e2 : (op == CmpOp.NotIn) = false := by cases op <;> first | rfl | exact absurd rfl h2
 cases b <;> simp [behindInMarks, e1, e2]
def tj (p : Int -> Int -> Bool) (ta tb : TE) : TE := fun σ H Q => BW ta tb (fun i j H2 => Q (.bl (p i j)) H2) σ H
abbrev Ep : TE -> TE -> TE := tj fun i j => decide (i < j)
abbrev Er : TE -> TE -> TE := tj fun i j => decide (i <= j)
abbrev Es : TE -> TE -> TE := tj fun i j => decide (j < i)
abbrev Et : TE -> TE -> TE := tj fun i j => decide (j <= i)
abbrev DI : TE -> TE -> TE := tj fun i j => decide (i = j)
abbrev DJ : TE -> TE -> TE := tj fun i j => !decide (i = j)
def DK (ta : TE) : TE := fun σ H Q => ta σ H fun x H1 => Q (.bl (decide (x = .non))) H1
def Di (ta : TE) : TE := fun σ H Q => ta σ H fun x H1 => Q (.bl (!decide (x = .non))) H1
def tB (t : TE) : TT := fun σ H Q => t σ H fun x H1 => ∃ c, x = .bl c /\ Q c H1
theorem yM {e : Expr} {t : TE} (h : PE X e t) (he : ∀ whole, isTrue e X.env whole = (do let v <- whole; standAt e.pos; holding [v] (truthy v)) := by intro _; rfl) : PT X e (tB t) := by
 intro pins s σ H Q I hw
 refine isTrue_plain (cB (h pins s σ H _ I hw) fun v s1 ⟨x, H1, I1, r1, q1⟩ => ?_) (he _)
 obtain ⟨d, rfl, q⟩ := q1
 cases r1
 exact wpAny_truthy_bool ⟨H1, I1, q⟩
variable {tA tB' : TT} {rest : List Expr}
def Ck (t u : TT) : TT := fun σ H Q => t σ H fun c H1 => if c = true then u σ H1 Q else Q false H1
def DL (t u : TT) : TT := fun σ H Q => t σ H fun c H1 => if c = true then Q true H1 else u σ H1 Q
def Cl (t : TT) : TT := fun σ H Q => t σ H fun c H1 => Q (!c) H1
theorem wO (ha : PT X a tA) : PW X (.BoolOp .And [a] pos) tA := by
 intro wh pins s σ H Q I h
 refine isTrue_and (cB (ha pins s σ H Q I h) fun c s1 e => ?_)
 cases c with
 | true => exact isTrue_and_nil e
 | false => exact e
theorem yN (ha : PT X a tA) : PW X (.BoolOp .Or [a] pos) tA := by
 intro wh pins s σ H Q I h
 refine isTrue_or (cB (ha pins s σ H Q I h) fun c s1 e => ?_)
 cases c with
 | false => exact isTrue_or_nil e
 | true => exact e
theorem yO (ha : PT X a tA) (hb : PW X (.BoolOp .And (b :: rest) pos) tB') : PW X (.BoolOp .And (a :: b :: rest) pos) (Ck tA tB') := by
 intro wh pins s σ H Q I h
 refine isTrue_and (cB (ha pins s σ H _ I h) fun c s1 ⟨H1, I1, q1⟩ => ?_)
 cases c with
 | true => exact hb wh pins s1 σ H1 Q I1 q1
 | false => exact ⟨H1, I1, q1⟩
theorem AM (ha : PT X a tA) (hb : PW X (.BoolOp .Or (b :: rest) pos) tB') : PW X (.BoolOp .Or (a :: b :: rest) pos) (DL tA tB') := by
 intro wh pins s σ H Q I h
 refine isTrue_or (cB (ha pins s σ H _ I h) fun c s1 ⟨H1, I1, q1⟩ => ?_)
 cases c with
 | true => exact ⟨H1, I1, q1⟩
 | false => exact hb wh pins s1 σ H1 Q I1 q1
theorem yP (ha : PT X a tA) : PT X (.UnaryOp .Not a pos) (Cl tA) := by
 intro pins s σ H Q I h
 exact isTrue_not (ha pins s σ H (fun c H1 => Q (!c) H1) I h)
def AN (ta tb : TE) : TE := fun σ H Q => ta σ H fun x H1 => ∃ c, x = .bl c /\ if c = true then tb σ H1 Q else Q (.bl false) H1
def DM (ta tb : TE) : TE := fun σ H Q => ta σ H fun x H1 => ∃ c, x = .bl c /\ if c = true then Q (.bl true) H1 else tb σ H1 Q
def AO (ta : TE) : TE := fun σ H Q => ta σ H fun x H1 => ∃ c, x = .bl c /\ Q (.bl (!c)) H1
theorem yQ {op} {t : TE} (h : PE X a t) : PE X (.BoolOp op [a] pos) t := fun pins s σ H Q I hw => BoolOp_one (h pins s σ H Q I hw)
theorem yR (ha : PE X a ta) (hb : PE X (.BoolOp .And (b :: rest) pos) tb) : PE X (.BoolOp .And (a :: b :: rest) pos) (AN ta tb) := by
 intro pins s σ H Q I h
 refine BoolOp_and (cB (ha pins s σ H _ I h) fun v s1 ⟨x, H1, I1, r1, q1⟩ => ?_)
 obtain ⟨c, rfl, q1⟩ := q1
 cases r1
 refine wpAny_truthy_bool ?_
 cases c with
 | true => exact hb pins s1 σ H1 Q I1 q1
 | false => exact ⟨.bl false, H1, I1, rfl, q1⟩
theorem yS (ha : PE X a ta) : PE X (.UnaryOp .Not a pos) (AO ta) := by
 intro pins s σ H Q I h
 refine UnaryOp_ (cB (ha pins s σ H _ I h) fun v s1 ⟨x, H1, I1, r1, q1⟩ => ?_)
 obtain ⟨c, rfl, q1⟩ := q1
 cases r1
 exact not_of (wpAny_truthy_bool ⟨.bl (!c), H1, I1, rfl, q1⟩)
def DN (t : TT) (ta tb : TE) : TE := fun σ H Q => t σ H fun c H1 => if c = true then ta σ H1 Q else tb σ H1 Q
theorem uK {c : Expr} (hc : PT X c tA) (ha : PE X a ta) (hb : PE X b tb) : PE X (.IfExp c a b pos) (DN tA ta tb) := by
 intro pins s σ H Q I h
 refine wpAny_IfExp (cB (hc pins s σ H _ I h) fun d s1 ⟨H1, I1, q1⟩ => ?_)
 cases d with
 | true => exact ha pins s1 σ H1 Q I1 q1
 | false => exact hb pins s1 σ H1 Q I1 q1
end
end L2
namespace L2
open PySem PySem.Spec PyProof.Rows
def fE (K : PySem.W.Frag) (H : Hp) (a : Addr) (xs : List V) : Prop :=
 Rd H a (.lst xs) \/
  ∃ (o : Obj) (its : Array Value) (n : Nat), K.lookup a = some o /\ o.cls = .type "list" /\ o.dict = none /\ o.data = .seq its n /\ its.size <= sizeLine /\ aI xs its.toList
def hV (K : PySem.W.Frag) (H : Hp) (a : Addr) (xs : List V) : Prop :=
 Rd H a (.tup xs) \/
  ∃ (o : Obj) (its : Array Value) (n : Nat), K.lookup a = some o /\ o.cls = .type "tuple" /\ o.data = .seq its n /\ its.size <= sizeLine /\ aI xs its.toList
def Cm : Value -> Option V
 | .none => some .non
 | .bool b => some (.bl b)
 | .int i _ => some (.int i)
 | .str x _ => some (.str x)
 | .bytes b _ => some (.byt b)
 | .float b _ => some (.flt b)
 | .ref a => some (.ref a)
 | .type n => some (.ty n)
 | _ => none
theorem RelV.abs {x : V} {u : Value} (r : RelV x u) : Cm u = some x := by
 cases x with
 | non => cases r; rfl
 | bl _ => cases r; rfl
 | int _ => obtain ⟨t, rfl⟩ := r; rfl
 | str _ => obtain ⟨t, rfl⟩ := r; rfl
 | byt _ => obtain ⟨t, rfl⟩ := r; rfl
 | flt _ => obtain ⟨t, rfl⟩ := r; rfl
 | ref _ => cases r; rfl
 | ty _ => cases r; rfl
theorem RelV.inj {x y : V} {u : Value} (r : RelV x u) (q : RelV y u) : x = y := Option.some.inj (r.abs.symm.trans q.abs)
theorem aI.inj : ∀ {xs ys : List V} {us : List Value}, aI xs us -> aI ys us -> xs = ys
 | _, _, _, .nil, .nil => rfl
 | _, _, _, .cons r t, .cons r' t' => by rw [r.inj r', aI.inj t t']
section
variable {X : Cx} {pins : List (Addr × Obj)} {σ : St} {H : Hp} {s : Shared} {a : Addr} {xs ys : List V}
theorem fE.of {K : PySem.W.Frag} (h : H a = some (.lst xs)) : fE K H a xs := .inl (.inl h)
theorem hV.of {K : PySem.W.Frag} (h : H a = some (.tup xs)) : hV K H a xs := .inl (.inl h)
theorem Inv.list (I : Inv X pins σ H s) (h : fE X.K H a xs) : ∃ its : List Value, aI xs its /\ PlainL s.heap a its.toArray /\ xs.length <= sizeLine := by
 rcases h with h | ⟨o, its, n, hk, hc, hd, hs, hz, r⟩
 ·obtain ⟨z, its, n, r, e⟩ := h.ok I.hok
  exact ⟨its, r, ⟨_, n, e, rfl, rfl, rfl⟩, z⟩
 ·refine ⟨its.toList, r, ⟨o, n, I.kIn a o hk, hc, hd, by simpa using hs⟩, ?_⟩
  have e := r.length
  simp only [Array.length_toList] at e
  omega
theorem Inv.tuple (I : Inv X pins σ H s) (h : hV X.K H a xs) : ∃ its : List Value, aI xs its /\ IsTup s.heap a its.toArray /\ xs.length <= sizeLine := by
 rcases h with h | ⟨o, its, n, hk, hc, hs, hz, r⟩
 ·obtain ⟨z, its, r, p⟩ := h.ok I.hok
  exact ⟨its, r, p, z⟩
 ·refine ⟨its.toList, r, ⟨o, I.kIn a o hk, hc, n, by simpa using hs⟩, ?_⟩
  have e := r.length
  simp only [Array.length_toList] at e
  omega
theorem Inv.list_inj (I : Inv X pins σ H s) (h : fE X.K H a xs) (h' : fE X.K H a ys) : xs = ys := by
 obtain ⟨its, r, ⟨o, n, e, _, _, d⟩, _⟩ := I.list h
 obtain ⟨its', r', ⟨o', n', e', _, _, d'⟩, _⟩ := I.list h'
 rw [e] at e'; cases e'
 rw [d] at d'
 injection d' with d1 _
 have : its = its' := by simpa using congrArg Array.toList d1
 subst this
 exact r.inj r'
theorem Inv.tuple_inj (I : Inv X pins σ H s) (h : hV X.K H a xs) (h' : hV X.K H a ys) : xs = ys := by
 obtain ⟨its, r, ⟨o, e, _, n, d⟩, _⟩ := I.tuple h
 obtain ⟨its', r', ⟨o', e', _, n', d'⟩, _⟩ := I.tuple h'
 rw [e] at e'; cases e'
 rw [d] at d'
 injection d' with d1 _
 have : its = its' := by simpa using congrArg Array.toList d1
 subst this
 exact r.inj r'
end
abbrev Cx.wish (X : Cx) (E : Value -> Shared -> Prop) : Cx := { X with xe := E }
abbrev Cx.nox (X : Cx) : Cx := X.wish fun _ _ => False
theorem Cx.Ok.wish {X : Cx} (ok : X.Ok) (E : Value -> Shared -> Prop) : (X.wish E).Ok :=
 ⟨ok.mod, ok.kind, ok.glob, ok.blt, ok.above, ok.inj, ok.has, ok.cab, ok.hd, ok.frames, ok.stk, ok.exf, ok.bs, ok.bsz, ok.noex, ok.exfs, ok.funs, ok.frf⟩
theorem Cx.Ok.unwish {X : Cx} {E : Value -> Shared -> Prop} (ok : (X.wish E).Ok) : X.Ok :=
 ⟨ok.mod, ok.kind, ok.glob, ok.blt, ok.above, ok.inj, ok.has, ok.cab, ok.hd, ok.frames, ok.stk, ok.exf, ok.bs, ok.bsz, ok.noex, ok.exfs, ok.funs, ok.frf⟩
section
variable {X : Cx} {pins : List (Addr × Obj)} {σ : St} {H : Hp} {s : Shared} {E : Value -> Shared -> Prop}
theorem Inv.wish (I : Inv X pins σ H s) (E : Value -> Shared -> Prop) : Inv (X.wish E) pins σ H s := ⟨I.ok.wish E, I.os, I.bare, I.base, I.loc, I.cell, I.free, I.freeC, I.pin, I.hok, I.len⟩
theorem Inv.unwish (I : Inv (X.wish E) pins σ H s) : Inv X pins σ H s := ⟨I.ok.unwish, I.os, I.bare, I.base, I.loc, I.cell, I.free, I.freeC, I.pin, I.hok, I.len⟩
theorem SP.unwish {D : Ends} {f : Flow} {s' : Shared} (h : SP (X.wish E) pins D f s') : SP X pins D f s' := by
 cases f with
 | next => obtain ⟨σ', H', I, q⟩ := h; exact ⟨σ', H', I.unwish, q⟩
 | brk => obtain ⟨σ', H', I, q⟩ := h; exact ⟨σ', H', I.unwish, q⟩
 | cont => obtain ⟨σ', H', I, q⟩ := h; exact ⟨σ', H', I.unwish, q⟩
 | ret u => obtain ⟨v, σ', H', I, r, q⟩ := h; exact ⟨v, σ', H', I.unwish, r, q⟩
theorem PE.nox {e : Expr} {t : TE} (h : PE X.nox e t) : PE X e t := fun pins s σ H Q I hw =>
 wpAny_mono (h pins s σ H Q (I.wish _) hw) (fun _ _ ⟨v, H', I', r, q⟩ => ⟨v, H', I'.unwish, r, q⟩) fun _ _ z => False.elim z
theorem PT.nox {e : Expr} {t : TT} (h : PT X.nox e t) : PT X e t := fun pins s σ H Q I hw =>
 wpAny_mono (h pins s σ H Q (I.wish _) hw) (fun _ _ ⟨H', I', q⟩ => ⟨H', I'.unwish, q⟩) fun _ _ z => False.elim z
theorem lO.nox {st : List Stmt} {t : TS} (h : lO X.nox st t) : lO X st t := fun pins s σ H D I hw =>
 wpAny_mono (h pins s σ H D (I.wish _) hw) (fun _ _ q => q.unwish) fun _ _ z => False.elim z
end
section
variable {X : Cx} {st : Stmt} {rest : List Stmt} {t u : TS} {e : Expr} {te : TE} {pos : Pos}
def AQ : TS := fun D σ H => D.nx σ H
def Cn (t u : TS) : TS := fun D σ H => t { D with nx := u D } σ H
theorem wP : lO X [] AQ := fun _ _ σ H _ I h => wpAny_execs_nil ⟨σ, H, I, h⟩
theorem uL (h1 : PS X st t) (h2 : lO X rest u) : lO X (st :: rest) (Cn t u) := by
 intro pins s σ H D I h
 refine wpAny_execs_cons (cB (h1 pins s σ H { D with nx := u D } I h) fun f s1 q => ?_)
 cases f with
 | next =>
  obtain ⟨σ', H', I', q⟩ := q
  exact h2 pins s1 σ' H' D I' q
 | ret v => exact q
 | brk => exact q
 | cont => exact q
theorem rX (h1 : PS X st t) : lO X [st] t := by
 intro pins s σ H D I h
 refine wpAny_execs_cons (cB (h1 pins s σ H D I h) fun f s1 q => ?_)
 cases f with
 | next => exact wpAny_execs_nil q
 | ret v => exact q
 | brk => exact q
 | cont => exact q
def Co : TS := fun D σ H => D.bk σ H
def Dj : TS := fun D σ H => D.ct σ H
theorem Inv.quiet {pins : List (Addr × Obj)} {σ : St} {H : Hp} {s : Shared} (I : Inv X pins σ H s) : interactive X.env = false := by simp [interactive, I.ok.kind]
def AR (te : TE) : TS := fun D σ H => te σ H fun _ H1 => D.nx σ H1
theorem wQ (he : PE X e te) (hs : swapsWith e none pos.line X.env = pure false := by rfl) : PS X (.Expr e pos) (AR te) := by
 intro pins s σ H D I h
 exact wpAny_Expr_any (cB (he pins s σ H _ I h) fun v s1 ⟨x, H1, I1, r1, q1⟩ => ⟨σ, H1, I1, q1⟩) I.quiet hs
def Cp (te : TE) : TS := fun D σ H => te σ H D.rt
theorem yT (he : PE X e te) : PS X (.Return (some e) pos) (Cp te) := by
 intro pins s σ H D I h
 exact wpAny_Return_some (cB (he pins s σ H _ I h) fun v s1 ⟨x, H1, I1, r1, q1⟩ => ⟨x, σ, H1, I1, r1, q1⟩)
def Dk : TS := fun D _ H => D.rt .non H
def Cq (c : TT) (t u : TS) : TS := fun D σ H => c σ H fun b H1 => if b = true then t D σ H1 else u D σ H1
theorem AS {c : Expr} {a b : List Stmt} {tc : TT} (hc : PT X c tc) (ha : lO X a t) (hb : lO X b u) : PS X (.If c a b pos) (Cq tc t u) := by
 intro pins s σ H D I h
 refine wpAny_If (cB (hc pins s σ H _ I h) fun d s1 ⟨H1, I1, q1⟩ => ?_)
 cases d with
 | true => exact ha pins s1 σ H1 D I1 q1
 | false => exact hb pins s1 σ H1 D I1 q1
def Cr : TS := fun _ _ _ => False
end
abbrev TG := V -> St -> Hp -> (St -> Hp -> Prop) -> Prop
abbrev wR := List V -> St -> Hp -> (St -> Hp -> Prop) -> Prop
def PG (X : Cx) (target : Expr) (t : TG) : Prop :=
 ∀ (pins : List (Addr × Obj)) (s : Shared) (σ : St) (H : Hp) (v : V) (u : Value) (Q : St -> Hp -> Prop), Inv X pins σ H s -> RelV v u -> t v σ H Q ->
  wpAny (model X.prog X.w) X.A (assign target X.env u) (fun _ s' => ∃ σ' H', Inv X pins σ' H' s' /\ Q σ' H') X.xe s
def wI (X : Cx) (ts : List Expr) (t : wR) : Prop :=
 ∀ (pins : List (Addr × Obj)) (s : Shared) (σ : St) (H : Hp) (vs : List V) (us : List Value) (Q : St -> Hp -> Prop), Inv X pins σ H s -> aI vs us -> t vs σ H Q ->
  wpAny (model X.prog X.w) X.A (assignInOrder ((assignEach ts X.env).map (·.2)) us) (fun _ s' => ∃ σ' H', Inv X pins σ' H' s' /\ Q σ' H') X.xe s
abbrev uM := V -> V -> V -> Hp -> (Hp -> Prop) -> Prop
def AT (X : Cx) (t : uM) : Prop :=
 ∀ (pins : List (Addr × Obj)) (s : Shared) (σ : St) (H : Hp) (o i v : V) (ov iv u : Value) (Q : Hp -> Prop), Inv X pins σ H s -> RelV o ov -> RelV i iv -> RelV v u -> t o i v H Q ->
  wpAny (model X.prog X.w) X.A (setItem ov iv u) (fun _ s' => ∃ H', Inv X pins σ H' s' /\ Q H') X.xe s
abbrev BX := V -> V -> Hp -> VK -> Prop
def Eu (X : Cx) (op : Operator) (t : BX) : Prop :=
 ∀ (pins : List (Addr × Obj)) (s : Shared) (σ : St) (H : Hp) (x y : V) (v u : Value) (Q : VK), Inv X pins σ H s -> RelV x v -> RelV y u -> t x y H Q ->
  wpAny (model X.prog X.w) X.A (inplaceOp op v u) (EP X pins σ Q) X.xe s
section
variable {X : Cx} {pos : Pos}
def uN (i : Nat) : TG := fun v σ H Q => Q (σ.set i (some v)) H
theorem wS {i : Nat} {x : Str} (hN : X.N.Nodup) (hi : X.N[i]? = some x) (hx : Loc X.env.scope x) (hf : X.fn x = true \/ X.env.scope.names.lookup x = some .local := by first | exact .inl rfl | exact .inr rfl | assumption) : PG X (.Name x pos) (uN i) := by
 intro pins s σ H v u Q I r h
 exact wpAny_assign_Name (kF I hN hi hx r (fun s' I' => ⟨_, H, I', h⟩) hf)
def Cs : wR := fun vs σ H Q => vs = [] /\ Q σ H
def AU (t : TG) (u : wR) : wR := fun vs σ H Q => ∃ v r, vs = v :: r /\ t v σ H fun σ' H' => u r σ' H' Q
theorem wT : wI X [] Cs := by
 intro pins s σ H vs us Q I r h
 obtain ⟨e, h⟩ := h
 subst e
 cases r
 exact assignInOrder_nil ⟨σ, H, I, h⟩
theorem uO {e : Expr} {es : List Expr} {t : TG} {u : wR} (h1 : PG X e t) (h2 : wI X es u)
  (hs : (assignEach (e :: es) X.env).map (·.2) = assign e X.env :: (assignEach es X.env).map (·.2) := by rfl) : wI X (e :: es) (AU t u) := by
 intro pins s σ H vs us Q I r h
 obtain ⟨v, vr, e1, h⟩ := h
 subst e1
 cases r with
 | cons r rr =>
  rw [hs]
  refine assignInOrder_cons (cB (h1 pins s σ H _ _ _ I r h) fun _ s1 ⟨σ1, H1, I1, q1⟩ => ?_)
  exact h2 pins s1 σ1 H1 _ _ Q I1 rr q1
def Ct (K : PySem.W.Frag) (n : Nat) (t : wR) : TG := fun v σ H Q => ∃ a xs, v = .ref a /\ hV K H a xs /\ xs.length = n /\ t xs σ H Q
theorem yU {es : List Expr} {k : Nat} {t : wR} {n : Nat} (hc : X.calm = true) (h : wI X es t)
  (hn : (assignEach es X.env).length = n := by rfl) (hst : (assignEach es X.env).findIdx? (·.1) = none := by rfl) : PG X (.Tuple es k pos) (Ct X.K n t) := by
 intro pins s σ H v u Q I r hw
 obtain ⟨a, xs, e1, hq, hl, hw⟩ := hw
 subst e1
 cases r
 obtain ⟨its, rv, ht, hz⟩ := I.tuple hq
 refine assign_Tuple_tuple (I.ok.hd hc) ht (by simp [hn, <- hl, rv.length]) hst fun h' hx => ?_
 have I1 : Inv X pins σ H { s with heap := h' } := I.kept (t' := s.toks) fun b o e => hx b o (Nat.ne_of_lt (Heap.lt_size e)) e
 exact h pins _ σ H xs _ Q I1 (by simpa using rv) hw
def Cu (to ti : TE) (t : uM) : TG := fun v σ H Q => to σ H fun o H1 => ti σ H1 fun i H2 => t o i v H2 fun H3 => Q σ H3
theorem yV {o i : Expr} {to ti : TE} {t : uM} (ho : PE X o to) (hi : PE X i ti) (hs : AT X t)
  (ha : ∀ v, assign (.Subscript o i pos) X.env v = (do
   let ov <- holding [v] (eval o X.env)
   let iv <- holding [v, ov] (eval i X.env)
   standAt pos
   holding [v, ov, iv] (setItem ov iv v)
   release [v, ov, iv] []) := by intro _; rfl) : PG X (.Subscript o i pos) (Cu to ti t) := by
 intro pins s σ H v u Q I r h
 rw [ha]
 refine wpAny_bind (wpAny_holding (cB (ho pins s σ H _ I h) fun ov s1 ⟨x, H1, I1, r1, q1⟩ => ?_))
 refine wpAny_bind (wpAny_holding (cB (hi pins s1 σ H1 _ I1 q1) fun iv s2 ⟨y, H2, I2, r2, q2⟩ => ?_))
 refine wpAny_bind (wpAny_standAt (wpAny_bind (wpAny_holding (cB (hs pins s2 σ H2 x y v ov iv u _ I2 r1 r2 r q2) fun _ s3 ⟨H3, I3, q3⟩ => ?_))))
 exact wpAny_release ⟨σ, H3, I3, q3⟩
def yW (te : TE) (g : TG) : TS := fun D σ H => te σ H fun x H1 => g x σ H1 D.nx
theorem yX {tg e : Expr} {te : TE} {g : TG} (he : PE X e te) (hg : PG X tg g) (hs : swapsWithSole [tg] e pos.line X.env = pure false := by rfl) (hw : swappedStores [tg] e X.env = pure none := by rfl)
  (h1 : (assignEach [tg] X.env).map (·.2) = [assign tg X.env] := by rfl) : PS X (.Assign [tg] e pos) (yW te g) := by
 intro pins s σ H D I h
 refine wpAny_Assign_stores (cB (he pins s σ H _ I h) fun v s1 ⟨x, H1, I1, r1, q1⟩ => ?_) hs hw
 rw [h1]
 exact cB (hg pins s1 σ H1 x v _ I1 r1 q1) fun _ s2 q => q
theorem uP {i : Nat} {x : Str} {e : Expr} {te : TE} {pos' : Pos} (hN : X.N.Nodup) (hi : X.N[i]? = some x) (hx : Loc X.env.scope x) (he : PE X e te) (hs : swapsWith e (some (.Name x pos')) pos.line X.env = pure false := by rfl) (hf : X.fn x = true \/ X.env.scope.names.lookup x = some .local := by first | exact .inl rfl | exact .inr rfl | assumption) :
  PS X (.Assign [.Name x pos'] e pos) (yW te (uN i)) := by
 intro pins s σ H D I h
 refine wpAny_Assign_Name (cB (he pins s σ H _ I h) fun v s1 ⟨y, H1, I1, r1, q1⟩ => ?_) hs
 exact kF I1 hN hi hx r1 (fun s2 I2 => ⟨_, H1, I2, q1⟩) hf
def DO (i j : Nat) (ta : TA) : TS := fun D σ H => ta σ H fun vs H1 => ∃ v w, vs = [v, w] /\ D.nx ((σ.set i (some v)).set j (some w)) H1
def DP (i : Nat) (te : TE) (ti : BX) : TS := fun D σ H => ∃ x, σ[i]? = some (some x) /\ te σ H fun y H1 => ti x y H1 fun z H2 => D.nx (σ.set i (some z)) H2
def Dl (to ti te : TE) (tget : V -> V -> Hp -> VK -> Prop) (tip : BX) (tset : uM) : TS := fun D σ H => to σ H fun o H1 => ti σ H1 fun i H2 => tget o i H2 fun x H3 => te σ H3 fun y H4 => tip x y H4 fun z H5 => tset o i z H5 fun H6 => D.nx σ H6
def DQ (X : Cx) (t : V -> V -> Hp -> VK -> Prop) : Prop :=
 ∀ (pins : List (Addr × Obj)) (s : Shared) (σ : St) (H : Hp) (o i : V) (ov iv : Value) (Q : VK), Inv X pins σ H s -> RelV o ov -> RelV i iv -> t o i H Q ->
  wpAny (model X.prog X.w) X.A (getItem ov iv) (EP X pins σ Q) X.xe s
def Ev (f : Int -> Int -> Int) : BX := fun x y H Q => ∃ i j, x = .int i /\ y = .int j /\ Q (.int (f i j)) H
end
section
variable {X : Cx} {pos : Pos}
def yY (c : TT) (tb : TS) : TS := fun D σ H => ∃ W : Nat -> St -> Hp -> Prop, (∃ m, W m σ H) /\ ∀ m σ H, W m σ H ->
 c σ H fun b H1 => if b = true then ∃ N : St -> Hp -> Prop, (∀ σ' H', N σ' H' -> ∃ m', m' < m /\ W m' σ' H') /\ tb { D with nx := N, ct := N, bk := D.nx } σ H1 else D.nx σ H1
theorem uQ {c : Expr} {body : List Stmt} {tc : TT} {tb : TS} (hp : PassesOwn (model X.prog X.w) X.A X.env X.xe) (hc : PT X c tc) (hb : lO X body tb) : PS X (.While c body [] pos) (yY tc tb) := by
 intro pins s σ H D I h
 obtain ⟨W, ⟨m0, w0⟩, turn⟩ := h
 refine wpAny_While (codeAny_whileLoop (fun n s' => ∃ σ' H', Inv X pins σ' H' s' /\ W n σ' H') ?_ m0 ⟨σ, H, I, w0⟩)
 rintro n s1 ⟨σ1, H1, I1, w1⟩
 refine wpAny_passesOwn hp (cB (hc pins s1 σ1 H1 _ I1 (turn n σ1 H1 w1)) fun b s2 ⟨H2, I2, q2⟩ => ?_)
 cases b with
 | true =>
  obtain ⟨N, hN, q2⟩ := q2
  rw [if_pos rfl]
  refine wpAny_passesOwn hp (cB (hb pins s2 σ1 H2 _ I2 q2) fun f s3 q3 => ?_)
  cases f with
  | next =>
   obtain ⟨σ3, H3, I3, n3⟩ := q3
   obtain ⟨m', hm, w3⟩ := hN σ3 H3 n3
   exact ⟨m', hm, σ3, H3, I3, w3⟩
  | cont =>
   obtain ⟨σ3, H3, I3, n3⟩ := q3
   obtain ⟨m', hm, w3⟩ := hN σ3 H3 n3
   exact ⟨m', hm, σ3, H3, I3, w3⟩
  | brk => exact q3
  | ret v => exact q3
 | false =>
  rw [if_neg Bool.false_ne_true]
  exact wpAny_execs_nil ⟨σ1, H2, I2, q2⟩
end
structure It where
 go : Nat -> Hp -> Prop
 yld : Nat -> Hp -> V -> Hp -> Prop
 stop : Nat -> Hp -> Prop
def jF (X : Cx) (pins : List (Addr × Obj)) (H : Hp) (b : Addr) : Prop :=
 H b = none /\ b ≠ X.env.locals /\ b ∉ X.fs /\ (b ∈ X.ex \/ X.s₀.heap.objs.size <= b) /\ (∀ x c, X.env.cells.lookup x = some c -> c ≠ b) /\ ∀ p ∈ X.pn ++ pins, p.1 ≠ b
theorem Inv.fpOk {X : Cx} {pins : List (Addr × Obj)} {σ : St} {H H' : Hp} {s : Shared} {b : Addr} (I : Inv X pins σ H s) (hb : s.heap.objs.size <= b) (hn : H' b = none) : jF X pins H' b := by
 refine ⟨hn, Nat.ne_of_gt (Nat.lt_of_lt_of_le I.lt hb), I.nofs hb, .inr (Nat.le_trans I.sz hb), fun x c e z => ?_, fun p hp z => ?_⟩
 ·obtain ⟨v, q⟩ := I.cell x c e
  exact absurd (Nat.lt_of_lt_of_le q.lt (by rw [z]; exact hb)) (Nat.lt_irrefl _)
 ·exact absurd (Nat.lt_of_lt_of_le (Heap.lt_size (I.pin p hp).1) (by rw [z]; exact hb)) (Nat.lt_irrefl _)
structure Turn (P : Program) (w : World) (K : PySem.W.Frag) (tg : Expr) (J : It) (fp : List Addr) (it : Addr) (tn : Nat -> Heap -> Prop) : Prop where
 mem : it ∈ fp
 obj : ∀ i h, tn i h -> ∀ b ∈ fp, ∃ o, h.get? b = some o /\ ∀ v, o.data ≠ .cell v
 keep : ∀ i h h', tn i h -> (∀ b ∈ fp, ∀ o, h.get? b = some o -> h'.get? b = some o) -> tn i h'
 item : ∀ (X : Cx), X.prog = P -> X.w = w -> X.K = K -> X.calm = true -> ∀ (i : Nat) (pins : List (Addr × Obj)) (s : Shared) (σ : St) (H : Hp) (E : Value -> Shared -> Prop), Inv X pins σ H s -> (∀ b ∈ fp, jF X pins H b) -> tn i s.heap -> J.go i H ->
  wpAny (model P w) X.A (pyNext (.ref it)) (fun r s1 => ∃ u, r = some u /\
   wpAny (model P w) X.A (letOwnedTupleGo tg (.ref it) u) (fun _ s2 => ∃ x H', Inv X pins σ H' s2 /\ RelV x u /\ J.yld i H x H' /\ tn (i + 1) s2.heap /\ ∀ b ∈ fp, H' b = none) E s1) E s
 done : ∀ (X : Cx), X.prog = P -> X.w = w -> X.K = K -> X.calm = true -> ∀ (i : Nat) (pins : List (Addr × Obj)) (s : Shared) (σ : St) (H : Hp) (E : Value -> Shared -> Prop), Inv X pins σ H s -> (∀ b ∈ fp, jF X pins H b) -> tn i s.heap -> J.stop i H ->
  wpAny (model P w) X.A (pyNext (.ref it)) (fun r s1 => r = none /\ Inv X pins σ H s1) E s
 self : ∀ (A : Around) (i : Nat) (s : Shared) (Q : Value -> Shared -> Prop) (E : Value -> Shared -> Prop), tn i s.heap -> Q (.ref it) s -> wpAny (model P w) A (pyIter (.ref it)) Q E s
abbrev TI := St -> Hp -> (It -> Hp -> Prop) -> Prop
def Dm (X : Cx) (pins : List (Addr × Obj)) (σ : St) (tg : Expr) (R : It -> Hp -> Prop) (itv : Value) (s2 : Shared) : Prop :=
 ∃ (it : Addr) (fp : List Addr) (tn : Nat -> Heap -> Prop) (J : It) (H' : Hp), itv = .ref it /\ Inv X pins σ H' s2 /\ Turn X.prog X.w X.K tg J fp it tn /\ tn 0 s2.heap /\ (∀ b ∈ fp, jF X pins H' b) /\ R J H'
def PI (X : Cx) (tg iter : Expr) (wi : TI) : Prop :=
 ∀ (pins : List (Addr × Obj)) (s : Shared) (σ : St) (H : Hp) (R : It -> Hp -> Prop), Inv X pins σ H s -> wi σ H R ->
  wpAny (model X.prog X.w) X.A (eval iter X.env) (fun v s1 => wpAny (model X.prog X.w) X.A (pyIter v) (Dm X pins σ tg R) X.xe s1) X.xe s
theorem uR {M : Model} {A : Around} {E : Value -> Shared -> Prop} {s : Shared} {tg : Expr} {it : Addr} {u : Value} {o : Obj} {n : String} {vs : Array Value} {Q : Unit -> Shared -> Prop} (ho : s.heap.get? it = some o) (hc : o.cls = .type n) (hd : o.data = .fields vs)
    (hn : ["enumerate", "zip", "dict_itemiterator", "dict_reverseitemiterator", "odict_iterator", "itertools.zip_longest", "itertools.pairwise"].contains n = false) (hQ : Q () s) : wpAny M A (letOwnedTupleGo tg (.ref it) u) Q E s := by
  unfold letOwnedTupleGo
  cases tg <;> first
    | exact wpAny_pure hQ
    | (cases u <;> first
        | exact wpAny_pure hQ
        | (refine wpAny_bind (wpAny_load ho ?_)
           rw [hc, hd]
           show wpAny M A (if (["enumerate", "zip", "dict_itemiterator", "dict_reverseitemiterator", "odict_iterator", "itertools.zip_longest", "itertools.pairwise"].contains n && vs[0]? == some (rawInt _)) = true then _ else _) Q E s
           rw [if_neg (by intro h; rw [hn, Bool.false_and] at h; cases h)]
           exact wpAny_pure hQ))
def BY (K : PySem.W.Frag) (a : Addr) : It :=
 ⟨fun i H => ∃ xs x, fE K H a xs /\ xs[i]? = some x, fun i H x H' => H' = H /\ ∀ xs, fE K H a xs -> xs[i]? = some x, fun i H => ∃ xs, fE K H a xs /\ xs.length <= i⟩
def Cv (K : PySem.W.Frag) (a : Addr) : It :=
 ⟨fun i H => ∃ xs x, hV K H a xs /\ xs[i]? = some x, fun i H x H' => H' = H /\ ∀ xs, hV K H a xs -> xs[i]? = some x, fun i H => ∃ xs, hV K H a xs /\ xs.length <= i⟩
def AV (lo : Int) (n : Nat) : It := ⟨fun i _ => i < n, fun i H x H' => H' = H /\ x = .int (lo + i), fun i _ => n <= i⟩
theorem tm {P : Program} {w : World} {K : PySem.W.Frag} {tg : Expr} (a it : Addr) : Turn P w K tg (BY K a) [it] it (fun i h => h.IsListIter it a i) where
 mem := by simp
 obj := fun i h st b hb => by
  have e : b = it := by simpa using hb
  subst e
  obtain ⟨o, e, c, d⟩ := st
  exact ⟨o, e, fun v z => by rw [d] at z; cases z⟩
 keep := fun i h h' st k => st.at fun o e => k it (by simp) o e
 item := by
  intro X hP hw hK hc i pins s σ H E I hf st hg
  subst hP hw hK
  obtain ⟨xs, x, hq, hx⟩ := hg
  obtain ⟨its, rv, p, hz⟩ := I.list hq
  obtain ⟨u, hu, ru⟩ := rv.get hx
  obtain ⟨f0, f1, f2, f3, f4, f5⟩ := hf it (by simp)
  refine wpAny_pyNext_list_item st p.isList (x := u) (by simpa using hu) fun h' st' sb => ?_
  have I1 : Inv X pins σ H { s with heap := h' } := I.turned (t' := s.toks) (fun b o hb e => (sb.2 b hb).trans e) f0 f1 f3 f4 f5
  obtain ⟨o, e, c, d⟩ := id st'
  exact ⟨u, rfl, uR (s := { s with heap := h' }) e c d (by decide) ⟨x, H, I1, ru, ⟨rfl, fun ys hy => by rw [I.list_inj hy hq]; exact hx⟩, st', fun b hb => (hf b hb).1⟩⟩
 done := by
  intro X hP hw hK hc i pins s σ H E I hf st hg
  subst hP hw hK
  obtain ⟨xs, hq, hx⟩ := hg
  obtain ⟨its, rv, p, hz⟩ := I.list hq
  obtain ⟨f0, f1, f2, f3, f4, f5⟩ := hf it (by simp)
  have hl := rv.length
  exact wpAny_pyNext_list_end (I.ok.hd hc) st p.isList (by simp; omega) fun h' eb => ⟨rfl, I.turned (t' := s.toks) (fun b o hb e => eb b o hb e) f0 f1 f3 f4 f5⟩
 self := fun _ _ _ _ _ st h => wpAny_pyIter_listiter st h
theorem qz {P : Program} {w : World} {K : PySem.W.Frag} {tg : Expr} (a it : Addr) : Turn P w K tg (Cv K a) [it] it (fun i h => h.IsTupleIter it a i) where
 mem := by simp
 obj := fun i h st b hb => by
  have e : b = it := by simpa using hb
  subst e
  obtain ⟨o, e, c, d⟩ := st
  exact ⟨o, e, fun v z => by rw [d] at z; cases z⟩
 keep := fun i h h' st k => st.at fun o e => k it (by simp) o e
 item := by
  intro X hP hw hK hc i pins s σ H E I hf st hg
  subst hP hw hK
  obtain ⟨xs, x, hq, hx⟩ := hg
  obtain ⟨its, rv, p, hz⟩ := I.tuple hq
  obtain ⟨u, hu, ru⟩ := rv.get hx
  obtain ⟨f0, f1, f2, f3, f4, f5⟩ := hf it (by simp)
  refine wpAny_pyNext_tuple_item st (show s.heap.IsTuple a its.toArray from p) (x := u) (by simpa using hu) fun h' st' sb => ?_
  have I1 : Inv X pins σ H { s with heap := h' } := I.turned (t' := s.toks) (fun b o hb e => (sb.2 b hb).trans e) f0 f1 f3 f4 f5
  obtain ⟨o, e, c, d⟩ := id st'
  exact ⟨u, rfl, uR (s := { s with heap := h' }) e c d (by decide) ⟨x, H, I1, ru, ⟨rfl, fun ys hy => by rw [I.tuple_inj hy hq]; exact hx⟩, st', fun b hb => (hf b hb).1⟩⟩
 done := by
  intro X hP hw hK hc i pins s σ H E I hf st hg
  subst hP hw hK
  obtain ⟨xs, hq, hx⟩ := hg
  obtain ⟨its, rv, p, hz⟩ := I.tuple hq
  obtain ⟨f0, f1, f2, f3, f4, f5⟩ := hf it (by simp)
  have hl := rv.length
  exact wpAny_pyNext_tuple_end (I.ok.hd hc) st (show s.heap.IsTuple a its.toArray from p) (by simp; omega) fun h' eb => ⟨rfl, I.turned (t' := s.toks) (fun b o hb e => eb b o hb e) f0 f1 f3 f4 f5⟩
 self := fun _ _ _ _ _ st h => wpAny_pyIter_tupleiter st h
theorem qA {P : Program} {w : World} {K : PySem.W.Frag} {tg : Expr} (it : Addr) (lo : Int) (n : Nat) : Turn P w K tg (AV lo n) [it] it (fun i h => IsRangeIter h it (lo + (i : Nat) * 1) ((n : Int) - (i : Nat)) 1) where
 mem := by simp
 obj := fun i h st b hb => by
  have e : b = it := by simpa using hb
  subst e
  exact ⟨_, st, fun v z => by
   have z' : Data.fields _ = Data.cell v := z
   cases z'⟩
 keep := fun i h h' st k => k it (by simp) _ st
 item := by
  intro X hP hw hK hc i pins s σ H E I hf st hg
  subst hP hw hK
  obtain ⟨f0, f1, f2, f3, f4, f5⟩ := hf it (by simp)
  have W := Walks.range (prog := X.prog) (w := X.w) (I.ok.hd hc) it lo 1 n
  refine W.item i s _ _ hg st fun v h' tk hv st' kk => ?_
  obtain ⟨t, rfl⟩ := hv
  have I1 : Inv X pins σ H { s with heap := h', toks := tk } := I.turned (fun b o hb e => kk b o (by simpa using hb) e) f0 f1 f3 f4 f5
  refine ⟨_, rfl, uR (s := { s with heap := h', toks := tk }) (n := "range_iterator") st' rfl rfl (by decide) ⟨.int (lo + i), H, I1, ⟨t, ?_⟩, ⟨rfl, rfl⟩, st', fun b hb => (hf b hb).1⟩⟩
  rw [Int.mul_one]
 done := by
  intro X hP hw hK hc i pins s σ H E I hf st hg
  subst hP hw hK
  obtain ⟨f0, f1, f2, f3, f4, f5⟩ := hf it (by simp)
  exact wpAny_pyNext_range_end (I.ok.hd hc) st (by have : n <= i := hg; omega) fun h' eb => ⟨rfl, I.turned (t' := s.toks) (fun b o hb e => eb b o hb e) f0 f1 f3 f4 f5⟩
 self := fun _ _ _ _ _ st h => wpAny_pyIter_rangeiter st h
end L2
namespace L2
open PySem PySem.Spec PyProof.Rows
section
variable {X : Cx} {tg : Expr}
def AW (K : PySem.W.Frag) (tl : TE) : TI := fun σ H R => tl σ H fun x H1 => ∃ a, x = .ref a /\ (∃ xs, fE K H1 a xs) /\ R (BY K a) H1
def Cw (K : PySem.W.Frag) (tl : TE) : TI := fun σ H R => tl σ H fun x H1 => ∃ a, x = .ref a /\ (∃ xs, hV K H1 a xs) /\ R (Cv K a) H1
theorem ky {l : Expr} {tl : TE} (hl : PE X l tl) : PI X tg l (AW X.K tl) := by
 intro pins s σ H R I h
 refine cB (hl pins s σ H _ I h) fun v s1 ⟨x, H1, I1, r1, q1⟩ => ?_
 obtain ⟨a, e, ⟨xs, hq⟩, q⟩ := q1
 subst e
 cases r1
 obtain ⟨its, rv, p, hz⟩ := I1.list hq
 refine wpAny_pyIter_list p.isList ?_
 refine ⟨s1.heap.objs.size, [s1.heap.objs.size], _, _, H1, rfl, I1.kept (t' := s1.toks) fun b o e => Heap.get?_push_of_some _ e, tm a _, ⟨_, Heap.get?_push_size _ rfl, rfl, rfl⟩, fun b hb => ?_, q⟩
 have e : b = s1.heap.objs.size := by simpa using hb
 subst e
 exact I1.fpOk (Nat.le_refl _) (I1.hok.fresh (Nat.le_refl _))
theorem yZ {l : Expr} {tl : TE} (hl : PE X l tl) : PI X tg l (Cw X.K tl) := by
 intro pins s σ H R I h
 refine cB (hl pins s σ H _ I h) fun v s1 ⟨x, H1, I1, r1, q1⟩ => ?_
 obtain ⟨a, e, ⟨xs, hq⟩, q⟩ := q1
 subst e
 cases r1
 obtain ⟨its, rv, p, hz⟩ := I1.tuple hq
 refine wpAny_pyIter_tuple (show s1.heap.IsTuple a its.toArray from p) ?_
 refine ⟨s1.heap.objs.size, [s1.heap.objs.size], _, _, H1, rfl, I1.kept (t' := s1.toks) fun b o e => Heap.get?_push_of_some _ e, qz a _, ⟨_, Heap.get?_push_size _ rfl, rfl, rfl⟩, fun b hb => ?_, q⟩
 have e : b = s1.heap.objs.size := by simpa using hb
 subst e
 exact I1.fpOk (Nat.le_refl _) (I1.hok.fresh (Nat.le_refl _))
theorem oW {pins : List (Addr × Obj)} {σ : St} {H : Hp} {s : Shared} {R : It -> Hp -> Prop} {E : Value -> Shared -> Prop} {lo hi : Int} {t u v : Tok} {tk : Nat} (I : Inv X pins σ H s) (h1 : -(2 ^ 62) <= lo) (h2 : lo < 2 ^ 62) (h3 : -(2 ^ 62) <= hi) (h4 : hi < 2 ^ 62)
  (q : R (AV lo (hi - lo).toNat) H) : wpAny (model X.prog X.w) X.A (pyIter (.ref s.heap.objs.size)) (Dm X pins σ tg R) E { s with heap := s.heap.push { cls := .type "range", data := .fields #[.int lo t, .int hi u, .int 1 v] }, toks := tk } := by
 refine wpAny_pyIter_range (IsRange.new ..) (small_one h1 h2 h3 h4) ?_
 have I1 : Inv X pins σ H { s with heap := s.heap.push { cls := .type "range", data := .fields #[.int lo t, .int hi u, .int 1 v] }, toks := tk } := I.kept fun b o e => Heap.get?_push_of_some _ e
 refine ⟨(s.heap.push { cls := .type "range", data := .fields #[.int lo t, .int hi u, .int 1 v] }).objs.size, [(s.heap.push { cls := .type "range", data := .fields #[.int lo t, .int hi u, .int 1 v] }).objs.size], _, _, H, rfl,
  I1.kept (t' := tk) fun b o e => Heap.get?_push_of_some _ e, qA _ lo (hi - lo).toNat, ?_, fun b hb => ?_, q⟩
 ·have e1 : lo + ((0 : Nat) : Int) * 1 = lo := by simp
  have e2 : (((hi - lo).toNat : Nat) : Int) - ((0 : Nat) : Int) = Builtin.Range.rangeSize lo hi 1 := by rw [rangeSize_one]; split <;> omega
  show IsRangeIter _ _ (lo + ((0 : Nat) : Int) * 1) ((((hi - lo).toNat : Nat) : Int) - ((0 : Nat) : Int)) 1
  rw [e1, e2]
  exact Heap.get?_push_size _ rfl
 ·have e : b = (s.heap.push { cls := .type "range", data := .fields #[.int lo t, .int hi u, .int 1 v] }).objs.size := by simpa using hb
  subst e
  exact I1.fpOk (Nat.le_refl _) (I1.hok.fresh (Nat.le_refl _))
def AX (ta : TA) : TI := fun σ H R => ta σ H fun vs H1 => ∃ j : Int, vs = [.int j] /\ -(2 ^ 62) <= j /\ j < 2 ^ 62 /\ R (AV 0 j.toNat) H1
def AY (ta : TA) : TI := fun σ H R => ta σ H fun vs H1 => ∃ i j : Int, vs = [.int i, .int j] /\ (-(2 ^ 62) <= i /\ i < 2 ^ 62 /\ -(2 ^ 62) <= j /\ j < 2 ^ 62) /\ R (AV i (j - i).toNat) H1
theorem tq {a : Expr} {ta : TA} {p pos : Pos} (hg : Gl X "range") (hm : X.mg "range" = none) (ha : PA X [a] ta) (hs : starEach [a] X.env = [(false, eval a X.env)] := by rfl) : PI X tg (.Call (.Name "range" p) [a] [] pos) (AX ta) := by
 intro pins s σ H R I h
 refine Call_ (jE I hg hm boot_range (PyProof.Rows.callWith_type1 (cB (ha pos pins s σ H _ I h) fun us s1 ⟨vs, H1, I1, r1, q1⟩ => ?_) hs rfl))
 obtain ⟨j, e, q1, q2, q⟩ := q1
 subst e
 cases r1 with
 | cons r rr =>
  cases rr
  obtain ⟨t, rfl⟩ := r
  exact call_range_1 (oW I1 (by omega) (by omega) q1 q2 (by simpa using q))
theorem tu {a b : Expr} {ta : TA} {p pos : Pos} (hg : Gl X "range") (hm : X.mg "range" = none) (ha : PA X [a, b] ta) (hs : starEach [a, b] X.env = [(false, eval a X.env), (false, eval b X.env)] := by rfl) (hs2 : starEach [b] X.env = [(false, eval b X.env)] := by rfl) :
  PI X tg (.Call (.Name "range" p) [a, b] [] pos) (AY ta) := by
 intro pins s σ H R I h
 refine Call_ (jE I hg hm boot_range (PyProof.Rows.callWith_type1 (cB (ha pos pins s σ H _ I h) fun us s1 ⟨vs, H1, I1, r1, q1⟩ => ?_) (by rw [hs, hs2]) (by rw [hs2]; rfl)))
 obtain ⟨i, j, e, ⟨q1, q2, q3, q4⟩, q⟩ := q1
 subst e
 cases r1 with
 | cons r rr =>
  cases rr with
  | cons r' rr =>
   cases rr
   obtain ⟨t, rfl⟩ := r
   obtain ⟨t', rfl⟩ := r'
   exact call_range_2 (oW I1 q1 q2 q3 q4 q)
def Cy (wi : TI) (g : TG) (tb : TS) : TS := fun D σ H => wi σ H fun J H1 => ∃ W : Nat -> Nat -> St -> Hp -> Prop, (∃ m, W 0 m σ H1) /\ ∀ i m σ H, W i m σ H ->
 (J.stop i H /\ D.nx σ H) \/ (J.go i H /\ ∃ N : St -> Hp -> Prop, (∀ σ' H', N σ' H' -> ∃ m', m' < m /\ W (i + 1) m' σ' H') /\ ∀ x H', J.yld i H x H' -> g x σ H' fun σ2 H2 => tb { D with nx := N, ct := N, bk := D.nx } σ2 H2)
def kG (fp : List Addr) (h : Heap) : List (Addr × Obj) := fp.filterMap fun b => (h.get? b).map fun o => (b, o)
theorem fF {fp : List Addr} {h : Heap} {b : Addr} {o : Obj} (hb : b ∈ fp) (e : h.get? b = some o) : (b, o) ∈ kG fp h := List.mem_filterMap.mpr ⟨b, hb, by rw [e]; rfl⟩
theorem tw {fp : List Addr} {h : Heap} {p : Addr × Obj} (hp : p ∈ kG fp h) : p.1 ∈ fp /\ h.get? p.1 = some p.2 := by
 obtain ⟨b, hb, e⟩ := List.mem_filterMap.mp hp
 cases q : h.get? b with
 | none => rw [q] at e; cases e
 | some o =>
  rw [q] at e
  have e' : (b, o) = p := Option.some.inj e
  subst e'
  exact ⟨hb, q⟩
theorem Inv.pinned {pins : List (Addr × Obj)} {σ : St} {H : Hp} {s : Shared} {fp : List Addr} (I : Inv X pins σ H s) (hf : ∀ b ∈ fp, jF X pins H b) (ho : ∀ b ∈ fp, ∃ o, s.heap.get? b = some o /\ ∀ v, o.data ≠ .cell v) : Inv X (pins ++ kG fp s.heap) σ H s :=
 I.pins_of fun p hp => (List.mem_append.mp hp).elim (fun z => I.pin p (List.mem_append_right _ z)) fun z => by
  obtain ⟨hb, e⟩ := tw z
  obtain ⟨f0, f1, f2, _⟩ := hf p.1 hb
  obtain ⟨o, e', d⟩ := ho p.1 hb
  rw [e] at e'; cases e'
  exact ⟨e, f0, f1, f2, d⟩
theorem Inv.unpinned {pins pl : List (Addr × Obj)} {σ : St} {H : Hp} {s : Shared} (I : Inv X (pins ++ pl) σ H s) : Inv X pins σ H s := I.pins_of fun p hp => I.pin p (List.mem_append_right _ (List.mem_append_left _ hp))
theorem y0 {iter : Expr} {body : List Stmt} {wi : TI} {g : TG} {tb : TS} {pos : Pos} (hp : PassesOwn (model X.prog X.w) X.A X.env X.xe) (hc : X.calm = true) (hi : PI X tg iter wi) (hg : PG X tg g) (hb : lO X body tb)
  (hs : ∀ x, foldedSetIterable iter X.env x = pure x := by intro _; rfl) : PS X (.For tg iter body [] pos) (Cy wi g tb) := by
 intro pins s σ H D I h
 refine wpAny_For (cB (hi pins s σ H _ I h) fun v s1 h1 => cB h1 fun itv s2 h2 => ?_) hs
 obtain ⟨it, fp, tn, J, H2, e, I2, T, st2, f2, W, ⟨m0, w0⟩, turn⟩ := h2
 subst e
 have stat : ∀ {H' : Hp}, (∀ b ∈ fp, H' b = none) -> ∀ b ∈ fp, jF X pins H' b := fun hn b hb => ⟨hn b hb, (f2 b hb).2⟩
 refine codeAny_forLoop_any (fun n s' => ∃ i σ' H', Inv X pins σ' H' s' /\ tn i s'.heap /\ (∀ b ∈ fp, H' b = none) /\ W i n σ' H') ?_ m0 ⟨0, σ, H2, I2, st2, fun b hb => (f2 b hb).1, w0⟩
 rintro n s3 ⟨i, σ3, H3, I3, st3, fr3, w3⟩
 rcases turn i n σ3 H3 w3 with ⟨stop, qn⟩ | ⟨go, N, hN, step⟩
 ·refine wpAny_passesOwn hp (cB (T.done X rfl rfl rfl hc i pins s3 σ3 H3 X.xe I3 (stat fr3) st3 stop) fun r s4 ⟨hr, I4⟩ => ?_)
  subst hr
  exact wpAny_execs_nil ⟨σ3, H3, I4, qn⟩
 ·refine wpAny_passesOwn hp (cB (T.item X rfl rfl rfl hc i pins s3 σ3 H3 X.xe I3 (stat fr3) st3 go) fun r s4 ⟨u, hr, h4⟩ => ?_)
  subst hr
  refine wpAny_passesOwn hp (cB h4 fun _ s5 ⟨x, H5, I5, r5, y5, st5, fr5⟩ => ?_)
  have I5' := I5.pinned (stat fr5) (T.obj _ _ st5)
  refine wpAny_passesOwn hp (cB (hg _ s5 σ3 H5 x u _ I5' r5 (step x H5 y5)) fun _ s6 ⟨σ6, H6, I6, q6⟩ => ?_)
  refine wpAny_passesOwn hp (cB (hb _ s6 σ6 H6 _ I6 q6) fun f s7 q7 => ?_)
  have again : ∀ {σ7 : St} {H7 : Hp}, Inv X (pins ++ kG fp s5.heap) σ7 H7 s7 -> N σ7 H7 -> ∃ m, m < n /\ ∃ i σ' H', Inv X pins σ' H' s7 /\ tn i s7.heap /\ (∀ b ∈ fp, H' b = none) /\ W i m σ' H' := fun {σ7 H7} I7 n7 => by
   obtain ⟨m', hm, w7⟩ := hN σ7 H7 n7
   refine ⟨m', hm, i + 1, σ7, H7, I7.unpinned, T.keep _ _ _ st5 fun b hb o e => (I7.pin (b, o) (List.mem_append_right _ (List.mem_append_right _ (fF hb e)))).1, fun b hb => ?_, w7⟩
   obtain ⟨o, e, d⟩ := T.obj _ _ st5 b hb
   exact (I7.pin (b, o) (List.mem_append_right _ (List.mem_append_right _ (fF hb e)))).2.1
  cases f with
  | next => obtain ⟨σ7, H7, I7, n7⟩ := q7; exact again I7 n7
  | cont => obtain ⟨σ7, H7, I7, n7⟩ := q7; exact again I7 n7
  | brk => obtain ⟨σ7, H7, I7, q7⟩ := q7; exact ⟨σ7, H7, I7.unpinned, q7⟩
  | ret v => obtain ⟨x7, σ7, H7, I7, r7, q7⟩ := q7; exact ⟨x7, σ7, H7, I7.unpinned, r7, q7⟩
end
end L2
namespace L2
open PySem PySem.Spec PyProof.Rows
abbrev R2 := V -> V -> Hp -> VK -> Prop
def gf (X : Cx) (f : Value -> Value -> Sem Value) (r : R2) : Prop :=
 ∀ (pins : List (Addr × Obj)) (s : Shared) (σ : St) (H : Hp) (x y : V) (v u : Value) (Q : VK), Inv X pins σ H s -> RelV x v -> RelV y u -> r x y H Q ->
  wpAny (model X.prog X.w) X.A (f v u) (EP X pins σ Q) X.xe s
def Cz (X : Cx) (f : Value -> Sem Value) (r : V -> Hp -> VK -> Prop) : Prop :=
 ∀ (pins : List (Addr × Obj)) (s : Shared) (σ : St) (H : Hp) (x : V) (v : Value) (Q : VK), Inv X pins σ H s -> RelV x v -> r x H Q ->
  wpAny (model X.prog X.w) X.A (f v) (EP X pins σ Q) X.xe s
def bD (X : Cx) (f : Value) (r : List V -> Hp -> VK -> Prop) : Prop :=
 ∀ (pins : List (Addr × Obj)) (s : Shared) (σ : St) (H : Hp) (xs : List V) (us : List Value) (Q : VK), Inv X pins σ H s -> aI xs us -> r xs H Q ->
  wpAny (model X.prog X.w) X.A (call f us) (EP X pins σ Q) X.xe s
def DR (X : Cx) (r : V -> Hp -> (Bool -> Hp -> Prop) -> Prop) : Prop :=
 ∀ (pins : List (Addr × Obj)) (s : Shared) (σ : St) (H : Hp) (x : V) (v : Value) (Q : Bool -> Hp -> Prop), Inv X pins σ H s -> RelV x v -> r x H Q ->
  wpAny (model X.prog X.w) X.A (truthy v) (TP X pins σ Q) X.xe s
def AZ (r : R2) (ta tb : TE) : TE := fun σ H Q => ta σ H fun x H1 => tb σ H1 fun y H2 => r x y H2 Q
def DS (r : V -> Hp -> VK -> Prop) (ta : TE) : TE := fun σ H Q => ta σ H fun x H1 => r x H1 Q
def rI (C : Int -> Int -> Prop) (g : Int -> Int -> V) : R2 := fun x y H Q => ∃ i j, x = .int i /\ y = .int j /\ C i j /\ Q (g i j) H
def wJ (g : Int -> Int -> V) : R2 := fun x y H Q => ∃ i j, x = .int i /\ y = .int j /\ Q (g i j) H
def rU (g : Int -> V) : V -> Hp -> VK -> Prop := fun x H Q => ∃ i, x = .int i /\ Q (g i) H
section
variable {X : Cx} {a b c : Expr} {ta tb tc : TE} {pos : Pos}
theorem y3 (ha : PE X a ta) (hb : PE X b tb) {pins : List (Addr × Obj)} {s : Shared} {σ : St} {H : Hp} {R : V -> V -> Hp -> Prop} (I : Inv X pins σ H s)
  (h : ta σ H fun x H1 => tb σ H1 fun y H2 => R x y H2) {Q : Value -> Shared -> Prop} {f : Value -> Value -> Sem Value}
  (hf : ∀ v u s2 x y H2, Inv X pins σ H2 s2 -> RelV x v -> RelV y u -> R x y H2 -> wpAny (model X.prog X.w) X.A (f v u) Q X.xe s2) :
  wpAny (model X.prog X.w) X.A (eval a X.env) (fun v s₁ => wpAny (model X.prog X.w) X.A (eval b X.env) (fun u s₂ => wpAny (model X.prog X.w) X.A (f v u) Q X.xe s₂) X.xe s₁) X.xe s := by
 refine cB (ha pins s σ H _ I h) fun v s1 ⟨x, H1, I1, r1, q1⟩ => ?_
 refine cB (hb pins s1 σ H1 _ I1 q1) fun u s2 ⟨y, H2, I2, r2, q2⟩ => ?_
 exact hf v u s2 x y H2 I2 r1 r2 q2
theorem A0 {op : Operator} {r : R2} (ho : gf X (binaryOp op) r) (ha : PE X a ta) (hb : PE X b tb) : PE X (.BinOp a op b pos) (AZ r ta tb) := by
 intro pins s σ H Q I h
 exact wpAny_BinOp (y3 ha hb I h fun v u s2 x y H2 I2 rx ry q => ho pins s2 σ H2 x y v u Q I2 rx ry q)
theorem A1 {op : UnaryOp} {r : V -> Hp -> VK -> Prop} (ho : Cz X (unaryOp op) r) (ha : PE X a ta) : PE X (.UnaryOp op a pos) (DS r ta) := by
 intro pins s σ H Q I h
 exact UnaryOp_ (cB (ha pins s σ H _ I h) fun v s1 ⟨x, H1, I1, r1, q1⟩ => ho pins s1 σ H1 x v Q I1 r1 q1)
theorem BZ {f : Value -> Value -> Sem Value} {C : Int -> Int -> Prop} {g : Int -> Int -> Int}
  (rule : ∀ (i j : Int) (t u : Tok) (s : Shared) (Q : Value -> Shared -> Prop) (E : Value -> Shared -> Prop), C i j -> Q (.int (g i j) s.toks) { s with toks := s.toks + 1 } -> wpAny (model X.prog X.w) X.A (f (.int i t) (.int j u)) Q E s) :
  gf X f (rI C fun i j => .int (g i j)) := by
 intro pins s σ H x y v u Q I rx ry h
 obtain ⟨i, j, rfl, rfl, hc, q⟩ := h
 obtain ⟨t, rfl⟩ := rx
 obtain ⟨t', rfl⟩ := ry
 exact rule i j t t' s _ _ hc ⟨.int (g i j), H, I.tok _, ⟨_, rfl⟩, q⟩
theorem A3 {f : Value -> Value -> Sem Value} {g : Int -> Int -> Int}
  (rule : ∀ (i j : Int) (t u : Tok) (s : Shared) (Q : Value -> Shared -> Prop) (E : Value -> Shared -> Prop), Q (.int (g i j) s.toks) { s with toks := s.toks + 1 } -> wpAny (model X.prog X.w) X.A (f (.int i t) (.int j u)) Q E s) :
  gf X f (wJ fun i j => .int (g i j)) := by
 intro pins s σ H x y v u Q I rx ry h
 obtain ⟨i, j, rfl, rfl, q⟩ := h
 obtain ⟨t, rfl⟩ := rx
 obtain ⟨t', rfl⟩ := ry
 exact rule i j t t' s _ _ ⟨.int (g i j), H, I.tok _, ⟨_, rfl⟩, q⟩
theorem wU {f : Value -> Value -> Sem Value} {g : Int -> Int -> Bool}
  (rule : ∀ (i j : Int) (t u : Tok) (s : Shared) (Q : Value -> Shared -> Prop) (E : Value -> Shared -> Prop), Q (.bool (g i j)) s -> wpAny (model X.prog X.w) X.A (f (.int i t) (.int j u)) Q E s) :
  gf X f (wJ fun i j => .bl (g i j)) := by
 intro pins s σ H x y v u Q I rx ry h
 obtain ⟨i, j, rfl, rfl, q⟩ := h
 obtain ⟨t, rfl⟩ := rx
 obtain ⟨t', rfl⟩ := ry
 exact rule i j t t' s _ _ ⟨.bl (g i j), H, I, rfl, q⟩
def nk (i j : Int) : Prop := 0 < j /\ j < 1073741824
def Dn (i j : Int) : Prop := j ≠ 0 /\ j.natAbs < 1073741824
def wV (i j : Int) : Prop := 0 <= j /\ j <= 1000000 /\ i.natAbs < 2 ^ 64
def kh (i j : Int) : Prop := (-(2 ^ 64) < i /\ i < 2 ^ 64) \/ (-(2 ^ 64) < j /\ j < 2 ^ 64)
theorem kh.ok {i j : Int} (h : kh i j) : IntMulOk i j := by
 rcases h with ⟨h1, h2⟩ | ⟨h1, h2⟩
 ·exact .of_left (intBits_le_64 h1 h2)
 ·exact .of_right (intBits_le_64 h1 h2)
theorem y8 : gf X (binaryOp .Add) (wJ fun i j => .int (i + j)) := A3 fun _ _ _ _ _ _ _ q => add_int q
theorem y9 : gf X (binaryOp .Sub) (wJ fun i j => .int (i - j)) := A3 fun _ _ _ _ _ _ _ q => sub_int q
theorem zb : gf X (binaryOp .Mult) (rI kh fun i j => .int (i * j)) := BZ fun _ _ _ _ _ _ _ hc q => mul_int q hc.ok
theorem wW : gf X (binaryOp .FloorDiv) (rI nk fun i j => .int (i / j)) := BZ fun i j _ _ _ _ _ hc q => by
 have h1 : (0 : Int) < j := hc.1
 have h2 : j < 1073741824 := hc.2
 exact floordiv_int (by omega) (by rw [Int.fdiv_eq_ediv_of_nonneg i (by omega)]; exact q) (.inl (PyProof.noPylong_small (by omega)))
theorem zd : gf X (binaryOp .Mod) (rI (fun _ j => 0 < j) fun i j => .int (i % j)) := BZ fun i j _ _ _ _ _ hc q => by
 have h1 : (0 : Int) < j := hc
 exact mod_int' (by omega) (by rw [Int.fmod_eq_emod_of_nonneg i (by omega)]; exact q)
theorem zg : gf X (binaryOp .Pow) (rI wV fun i j => .int (i ^ j.toNat)) := BZ fun _ _ _ _ _ _ _ hc q => pow_int_small hc.1 hc.2.1 hc.2.2 q
theorem DT {f : Value -> Sem Value} {g : Int -> Int}
  (rule : ∀ (i : Int) (t : Tok) (s : Shared) (Q : Value -> Shared -> Prop) (E : Value -> Shared -> Prop), Q (.int (g i) s.toks) { s with toks := s.toks + 1 } -> wpAny (model X.prog X.w) X.A (f (.int i t)) Q E s) :
  Cz X f (rU fun i => .int (g i)) := by
 intro pins s σ H x v Q I rx h
 obtain ⟨i, rfl, q⟩ := h
 obtain ⟨t, rfl⟩ := rx
 exact rule i t s _ _ ⟨.int (g i), H, I.tok _, ⟨_, rfl⟩, q⟩
theorem zh : Cz X (unaryOp .USub) (rU fun i => .int (-i)) := DT fun _ _ _ _ _ q => neg_int q
end
def A4 : V -> V -> Bool
 | .non, .non => true | .non, .int _ => true | .int _, .non => true | .non, .bl _ => true | .bl _, .non => true | .non, .str _ => true | .str _, .non => true
 | .int _, .int _ => true | .bl _, .bl _ => true | .str _, .str _ => true | .byt _, .byt _ => true
 | .int _, .str _ => true | .str _, .int _ => true | .bl _, .str _ => true | .str _, .bl _ => true
 | _, _ => false
def Ew : R2 := fun x y H Q => A4 x y = true /\ Q (.bl (decide (x = y))) H
def Ey : R2 := fun x y H Q => A4 x y = true /\ Q (.bl (!decide (x = y))) H
section
variable {X : Cx} {a b c : Expr} {ta tb tc : TE} {pos : Pos}
theorem uS : gf X (compareOp .Lt) (wJ fun i j => .bl (decide (i < j))) := wU fun _ _ _ _ _ _ _ q => lt_int q
theorem uT : gf X (compareOp .LtE) (wJ fun i j => .bl (decide (i <= j))) := wU fun _ _ _ _ _ _ _ q => le_int q
theorem A5 : gf X (compareOp .Gt) (wJ fun i j => .bl (decide (j < i))) := wU fun _ _ _ _ _ _ _ q => gt_int q
theorem A6 : gf X (compareOp .GtE) (wJ fun i j => .bl (decide (j <= i))) := wU fun _ _ _ _ _ _ _ q => ge_int q
def isObj : HO -> Bool
 | .lst _ => true
 | .ins _ _ _ => true
 | _ => false
theorem gf.or {f : Value -> Value -> Sem Value} {r r' : R2} (h : gf X f r) (h' : gf X f r') : gf X f (fun x y H Q => r x y H Q \/ r' x y H Q) := by
 intro pins s σ H x y v u Q I rx ry q
 rcases q with q | q
 ·exact h pins s σ H x y v u Q I rx ry q
 ·exact h' pins s σ H x y v u Q I rx ry q
theorem CA (b : Expr) {op : CmpOp} (h : op ≠ .In := by decide) (h2 : op ≠ .NotIn := by decide) : behindInMarks op b = false := by
 have e1 : (op == CmpOp.In) = false := by cases op <;> first | rfl | exact absurd rfl h
 have e2 : (op == CmpOp.NotIn) = false := by cases op <;> first | rfl | exact absurd rfl h2
 cases b <;> simp [behindInMarks, e1, e2]
theorem wX {op : CmpOp} {r : R2} (ho : gf X (compareOp op) r) (ha : PE X a ta) (hb : PE X b tb) (hm : behindInMarks op b = false) : PE X (.Compare a [op] [b] pos) (AZ r ta tb) := by
 intro pins s σ H Q I h
 exact wpAny_Compare1 (y3 ha hb I h fun v u s2 x y H2 I2 rx ry q => ho pins s2 σ H2 x y v u Q I2 rx ry q) hm
def yi (t : TE) : TT := fun σ H Q => t σ H fun x H' => ∃ k, x = .bl k /\ Q k H'
theorem wY {op : CmpOp} {r : R2} (ho : gf X (compareOp op) r) (ha : PE X a ta) (hb : PE X b tb) (hm : behindInMarks op b = false) : PT X (.Compare a [op] [b] pos) (yi (AZ r ta tb)) := by
 intro pins s σ H Q I h
 refine wpAny_isTrue_Compare1 (cB (ha pins s σ H _ I h) fun v s1 ⟨x, H1, I1, r1, q1⟩ => cB (hb pins s1 σ H1 _ I1 q1) fun u s2 ⟨y, H2, I2, r2, q2⟩ =>
  cB (ho pins s2 σ H2 x y v u _ I2 r1 r2 q2) fun c s3 ⟨z, H3, I3, r3, k, e, q3⟩ => ?_) hm
 subst e
 cases r3
 exact wpAny_truthy_bool ⟨H3, I3, q3⟩
def qB (r r' : R2) (ta tb tc : TE) : TE := fun σ H Q => ta σ H fun x H1 => tb σ H1 fun y H2 => r x y H2 fun z H3 => ∃ k, z = .bl k /\
 (if k = true then tc σ H3 fun w' H4 => r' y w' H4 Q else Q (.bl false) H3)
theorem uU {op op' : CmpOp} {r r' : R2} (ho : gf X (compareOp op) r) (ho' : gf X (compareOp op') r') (ha : PE X a ta) (hb : PE X b tb) (hc : PE X c tc)
  (hm : lastMarks [op, op'] [b, c] = false := by with_unfolding_all rfl) : PE X (.Compare a [op, op'] [b, c] pos) (qB r r' ta tb tc) := by
 intro pins s σ H Q I h
 refine Compare_chain (cB (ha pins s σ H _ I h) fun v s1 ⟨x, H1, I1, r1, q1⟩ => chain_link (cB (hb pins s1 σ H1 _ I1 q1) fun u s2 ⟨y, H2, I2, r2, q2⟩ =>
  cB (ho pins s2 σ H2 x y v u _ I2 r1 r2 q2) fun d s3 ⟨z, H3, I3, r3, k, e, q3⟩ => ?_)) hm
 subst e
 cases r3
 refine wpAny_truthy_bool ?_
 cases k with
 | false => exact ite_ff ⟨.bl false, H3, I3, rfl, q3⟩
 | true => exact ite_tt (chain_last (cB (hc pins s3 σ H3 _ I3 q3) fun w' s4 ⟨z', H4, I4, r4, q4⟩ => ho' pins s4 σ H4 y z' u w' Q I4 r2 r4 q4))
theorem uV {op op' : CmpOp} {r r' : R2} (ho : gf X (compareOp op) r) (ho' : gf X (compareOp op') r') (ha : PE X a ta) (hb : PE X b tb) (hc : PE X c tc)
  (hm : lastMarks [op, op'] [b, c] = false := by with_unfolding_all rfl) : PT X (.Compare a [op, op'] [b, c] pos) (yi (qB r r' ta tb tc)) := by
 intro pins s σ H Q I h
 refine isTrue_chain (cB (ha pins s σ H _ I h) fun v s1 ⟨x, H1, I1, r1, q1⟩ => test_link (cB (hb pins s1 σ H1 _ I1 q1) fun u s2 ⟨y, H2, I2, r2, q2⟩ =>
  cB (ho pins s2 σ H2 x y v u _ I2 r1 r2 q2) fun d s3 ⟨z, H3, I3, r3, k, e, q3⟩ => ?_)) hm
 subst e
 cases r3
 refine wpAny_truthy_bool ?_
 cases k with
 | false =>
  obtain ⟨k', e', q'⟩ := q3
  cases e'
  exact ite_ff ⟨H3, I3, q'⟩
 | true =>
  refine ite_tt (test_last (cB (hc pins s3 σ H3 _ I3 q3) fun w' s4 ⟨z', H4, I4, r4, q4⟩ => cB (ho' pins s4 σ H4 y z' u w' _ I4 r2 r4 q4) fun d' s5 ⟨z2, H5, I5, r5, k2, e2, q5⟩ => ?_))
  subst e2
  cases r5
  exact wpAny_truthy_bool ⟨H5, I5, q5⟩
def DU (K : PySem.W.Frag) (x : V) (H : Hp) (k : Bool) : Prop :=
 match x with
 | .non => k = false
 | .bl b => k = b
 | .int i => k = (i != 0)
 | .str y => y.length <= sizeLine /\ k = ((y.length : Int) != 0)
 | .byt y => y.size <= sizeLine /\ k = ((y.size : Int) != 0)
 | .ref p => (∃ xs, fE K H p xs /\ k = !xs.isEmpty) \/ (∃ xs, hV K H p xs /\ k = !xs.isEmpty) \/ ∃ kvs, H p = some (.dK kvs) /\ k = !kvs.isEmpty
 | _ => False
theorem kH : (sizeLine : Nat) < 2 ^ 63 := by rw [sizeLine_eq]; decide
def A7 (b : Expr) : Prop := ∀ o i, subscripted b false o i = operate [o, i] (getItem o i)
theorem vals1 {x : V} {us : List Value} (r : aI [x] us) : ∃ u, us = [u] /\ RelV x u := by
 cases r with
 | cons r1 r2 => cases r2; exact ⟨_, rfl, r1⟩
theorem vals2 {x y : V} {us : List Value} (r : aI [x, y] us) : ∃ u w', us = [u, w'] /\ RelV x u /\ RelV y w' := by
 cases r with
 | cons r1 r2 =>
  cases r2 with
  | cons r3 r4 => cases r4; exact ⟨_, _, rfl, r1, r3⟩
theorem tx (hc : X.calm = true) : bD X (.builtin "max") (fun xs H Q => ∃ i j, xs = [.int i, .int j] /\ Q (.int (if j > i then j else i)) H) := by
 intro pins s σ H xs us Q I r h
 obtain ⟨i, j, rfl, q⟩ := h
 obtain ⟨u, w', rfl, ⟨t, rfl⟩, ⟨t', rfl⟩⟩ := vals2 r
 refine max_two_ints (I.ok.hd hc) fun h' tk k => ⟨_, H, I.kept k, ?_, q⟩
 by_cases hj : j > i
 ·rw [if_pos hj, if_pos hj]; exact ⟨_, rfl⟩
 ·rw [if_neg hj, if_neg hj]; exact ⟨_, rfl⟩
theorem tz (hc : X.calm = true) : bD X (.builtin "min") (fun xs H Q => ∃ i j, xs = [.int i, .int j] /\ Q (.int (if j < i then j else i)) H) := by
 intro pins s σ H xs us Q I r h
 obtain ⟨i, j, rfl, q⟩ := h
 obtain ⟨u, w', rfl, ⟨t, rfl⟩, ⟨t', rfl⟩⟩ := vals2 r
 refine min_two_ints (I.ok.hd hc) fun h' tk k => ⟨_, H, I.kept k, ?_, q⟩
 by_cases hj : j < i
 ·rw [if_pos hj, if_pos hj]; exact ⟨_, rfl⟩
 ·rw [if_neg hj, if_neg hj]; exact ⟨_, rfl⟩
def DV (K : PySem.W.Frag) (x : V) (H : Hp) (n : Nat) : Prop :=
 match x with
 | .str y => y.length <= sizeLine /\ n = y.length
 | .byt y => y.size <= sizeLine /\ n = y.size
 | .ref p => (∃ xs, fE K H p xs /\ n = xs.length) \/ ∃ xs, hV K H p xs /\ n = xs.length
 | _ => False
end
end L2
namespace L2
open PySem PySem.Spec PyProof.Rows
structure ObjM (h : Heap) (x dx C : Addr) (mA : Str -> Option Value) : Prop where
 obj : h.get? x = some (PySem.W.instObj C dx)
 ns : h.Ns1 dx mA
 ne : dx ≠ x
theorem tD {h : Heap} {dx : Addr} {mA : Str -> Option Value} (n : h.Ns1 dx mA) : ∃ od, h.get? dx = some od /\ ∀ name, PySem.W.lookIn name od = some (mA name) := by
 obtain ⟨o, es, ep, ho, hd, hk, _, hm⟩ := n
 refine ⟨o, ho, fun name => ?_⟩
 have e := hm name
 unfold nsFind findBy at e
 rw [<- Array.find?_toList] at e
 unfold PySem.W.lookIn
 rw [hd]
 dsimp only
 split
 ·rename_i y q
  rw [q] at e
  exact congrArg some e
 ·rename_i q
  rw [q] at e
  have a : es.toList.any (·.refKey) = false := by
   rw [List.any_eq_false]
   intro y hy
   obtain ⟨z, t, hkey⟩ := hk y (Array.mem_toList_iff.mp hy)
   simp [DictEntry.refKey, hkey]
  have a' : ¬ es.toList.any (·.refKey) = true := by rw [a]; exact Bool.false_ne_true
  rw [if_neg a']
  exact congrArg some e
theorem ObjM.look {h : Heap} {x dx C : Addr} {mA : Str -> Option Value} (I : ObjM h x dx C mA) : ∃ od, PySem.W.InstAt h x (PySem.W.instObj C dx) C (some od) /\ ∀ name, PySem.W.lookIn name od = some (mA name) :=
 let ⟨od, ho, hl⟩ := tD I.ns
 ⟨od, ⟨I.obj, rfl, rfl, ho⟩, hl⟩
section
variable {prog : Program} {w : World} {A : Around} {E : Value -> Shared -> Prop} {s : Shared} {K : PySem.W.Frag} {x dx C f : Addr} {mA : Str -> Option Value} {name : Str} {v : Value}
end
def zi (f : Str) (v : V) : List (Str × V) -> List (Str × V)
 | [] => [(f, v)]
 | (g, x) :: r => if g = f then (g, v) :: r else (g, x) :: zi f v r
section
variable {P : Program} {w : World} {H H' : Hp} {h h' : Heap} {a C dx : Addr} {fs fs' : List (Str × V)}
theorem cD (hok : dJ P w H h) (e : H a = some (.ins C dx fs)) : ∃ mA, ObjM h a dx C mA /\ (∀ f, yJ (fs.lookup f) (mA f)) /\ PySem.Within mA (fs.map (·.1)) /\ fs.length <= 1000 /\ H dx = some (.own a) := by
 obtain ⟨d, z, ne, ob, mA, n, r, q⟩ := (show aW P w H h a (.ins C dx fs) from hok a _ e)
 exact ⟨mA, ⟨ob, n, ne⟩, r, q, z, d⟩
end
structure Cls (K : PySem.W.Frag) (C : Addr) : Prop where
 pg : PySem.W.plainGet K C Str.empty = true
 hd : PySem.W.hasDictIn K C = true
 po : PySem.W.plainOver K C = true
 sa : PySem.W.findIn K (.ref C) "__setattr__" = some (some (.builtin "object.__setattr__"))
theorem Cls.get {K : PySem.W.Frag} {C : Addr} (c : Cls K C) (f : Str) : PySem.W.plainGet K C f = true := c.pg
def qC (K : PySem.W.Frag) (C : Addr) (f : Str) : Prop := PySem.W.findIn K (.ref C) f = some none
structure Con (K : PySem.W.Frag) (C : Addr) (f : Str) (v : V) (u : Value) : Prop where
 at_ : PySem.W.findIn K (.ref C) f = some (some u)
 rel : RelV v u
 get : PySem.W.specialIn K u "__get__" = some none
 cp : PySem.W.copiedNames.contains f = false
structure Meth (K : PySem.W.Frag) (C : Addr) (m : Str) (f : Addr) : Prop where
 at_ : PySem.W.findIn K (.ref C) m = some (some (.ref f))
 fn : PySem.W.isFn K (.ref f) = true
 kp : PySem.W.keepIn K (.ref f) = true
section
variable {X : Cx} {pins : List (Addr × Obj)} {σ : St} {H : Hp} {s : Shared} {a C dx : Addr} {fs : List (Str × V)} {f : Str} {v : V} {A : Around} {E : Value -> Shared -> Prop}
theorem Inv.made (I : Inv X pins σ H s) : Inv X pins σ (upd (upd H s.heap.objs.size (.own (s.heap.objs.size + 1))) (s.heap.objs.size + 1) (.ins C s.heap.objs.size []))
  { s with heap := (s.heap.push PySem.W.emptyDict).push (PySem.W.instObj C s.heap.objs.size) } := by
 have e1 : (s.heap.push PySem.W.emptyDict).get? s.heap.objs.size = some PySem.W.emptyDict := Heap.get?_push_size s.heap rfl
 have e2 : ((s.heap.push PySem.W.emptyDict).push (PySem.W.instObj C s.heap.objs.size)).get? (s.heap.objs.size + 1) = some (PySem.W.instObj C s.heap.objs.size) := by
  have := Heap.get?_push_size (s.heap.push PySem.W.emptyDict) (o := PySem.W.instObj C s.heap.objs.size) rfl
  rwa [Heap.size_push] at this
 have e3 : (s.heap.push PySem.W.emptyDict).Ns s.heap.objs.size (fun _ => none) := ⟨PySem.W.emptyDict, #[], _, e1, rfl, (fun e he => absurd he (by simp)), fun _ => rfl⟩
 have I1 := I.laid (a := s.heap.objs.size) (o := .own (s.heap.objs.size + 1)) (h' := s.heap.push PySem.W.emptyDict) (t' := s.toks) (fun b u q => Heap.get?_push_of_some _ q) (Nat.le_refl _) ⟨_, e1⟩
 refine I1.laid (a := s.heap.objs.size + 1) (o := .ins C s.heap.objs.size []) (t' := s.toks) (fun b u q => Heap.get?_push_of_some _ q) (Nat.le_of_eq (Heap.size_push _ _)) ?_
 have ne : s.heap.objs.size ≠ s.heap.objs.size + 1 := Nat.ne_of_lt (Nat.lt_succ_self _)
 refine ⟨by rw [aw ne, aK], Nat.zero_le _, ne, e2, fun _ => none, (Heap.Ns1.of_empty e3).at fun o q => Heap.get?_push_of_some _ q, fun _ => True.intro, fun y hy => absurd rfl hy⟩
end
def DW (K : PySem.W.Frag) (ta : TE) (f : Str) : TE := fun σ H Q => ta σ H fun x H1 => ∃ a C dx fs v, x = .ref a /\ H1 a = some (.ins C dx fs) /\ Cls K C /\ qC K C f /\ fs.lookup f = some v /\ Q v H1
def DX (K : PySem.W.Frag) (ta : TE) (f : Str) : TE := fun σ H Q => ta σ H fun x H1 => ∃ a C dx fs v u, x = .ref a /\ H1 a = some (.ins C dx fs) /\ Cls K C /\ Con K C f v u /\ fs.lookup f = none /\ Q v H1
def DY (K : PySem.W.Frag) (ta tv : TE) (f : Str) : TS := fun D σ H => tv σ H fun y H1 => ta σ H1 fun x H2 => ∃ a C dx fs, x = .ref a /\ H2 a = some (.ins C dx fs) /\ Cls K C /\ qC K C f /\ fs.length < 1000 /\
 D.nx σ (upd H2 a (.ins C dx (zi f y fs)))
def DZ (X : Cx) (op : Operator) (rd : V -> V -> Hp -> VK -> Prop) : Prop :=
 ∀ (pins : List (Addr × Obj)) (s : Shared) (σ : St) (H : Hp) (x y : V) (u v : Value) (Q : VK), Inv X pins σ H s -> RelV x u -> RelV y v -> rd x y H Q -> wpAny (model X.prog X.w) X.A (inplaceOp op u v) (EP X pins σ Q) X.xe s
def B0 (K : PySem.W.Frag) (ta tv : TE) (rd : V -> V -> Hp -> VK -> Prop) (f : Str) : TS := fun D σ H => ta σ H fun x H1 => ∃ a C dx fs v, x = .ref a /\ H1 a = some (.ins C dx fs) /\ Cls K C /\ qC K C f /\ fs.lookup f = some v /\
 tv σ H1 fun y H2 => rd v y H2 fun z H3 => ∃ dx' fs', H3 a = some (.ins C dx' fs') /\ fs'.length < 1000 /\ D.nx σ (upd H3 a (.ins C dx' (zi f z fs')))
section
variable {X : Cx} {o e value : Expr} {f : Str} {pos pos' tpos : Pos} {ta tv : TE}
def D0 : V -> V -> Hp -> VK -> Prop := fun x y H Q => ∃ i j, x = .int i /\ y = .int j /\ Q (.int (i + j)) H
def D1 : V -> V -> Hp -> VK -> Prop := fun x y H Q => ∃ i j, x = .int i /\ y = .int j /\ Q (.int (i - j)) H
end
section
variable {X : Cx} {pins : List (Addr × Obj)} {σ : St} {H : Hp} {s : Shared} {A : Around} {E : Value -> Shared -> Prop} {Q : Value -> Shared -> Prop} {c : Value} {b : Bool}
inductive TyOf (K : PySem.W.Frag) (H : Hp) : V -> Value -> Prop where
 | non : TyOf K H .non (.type "NoneType")
 | bl (x : Bool) : TyOf K H (.bl x) (.type "bool")
 | int (i : Int) : TyOf K H (.int i) (.type "int")
 | str (x : Str) : TyOf K H (.str x) (.type "str")
 | flt (x : UInt64) : TyOf K H (.flt x) (.type "float")
 | lst {a : Addr} {xs : List V} (e : H a = some (.lst xs)) : TyOf K H (.ref a) (.type "list")
 | frz {a : Addr} {o : Obj} {xs : List V} (e : H a = some (.frz o (.lst xs))) : TyOf K H (.ref a) (.type "list")
 | tup {a : Addr} {xs : List V} (e : H a = some (.tup xs)) : TyOf K H (.ref a) (.type "tuple")
 | dK {a : Addr} {kvs : List (Key × V)} (e : H a = some (.dK kvs)) : TyOf K H (.ref a) (.type "dict")
 | dT {a : Addr} {kvs : List (List Key × V)} (e : H a = some (.dT kvs)) : TyOf K H (.ref a) (.type "dict")
 | ins {a C dx : Addr} {fs : List (Str × V)} (e : H a = some (.ins C dx fs)) (cl : Cls K C) (ha : PySem.W.findIn K (.ref C) "__class__" = some (some (.builtin "object.__class__")))
   (hn : PySem.W.specialIn K (.builtin "object.__class__") "__get__" = some (some (.builtin "getset_descriptor.__get__"))) (htk : PySem.W.takesIn K (.builtin "object.__class__") = some true)
   (hm : PySem.W.mroIn K C (.type "object") = some true) : TyOf K H (.ref a) (.ref C)
theorem tE {x : V} {u t : Value} (I : Inv X pins σ H s) (rx : RelV x u) (ty : TyOf X.K H x t) (e : PySem.W.kitOne X.K t c = some b) (h : ∀ tk, Q (.bool b) { s with toks := tk }) :
  wpAny (model X.prog X.w) A (call (.builtin "isinstance") [u, c]) Q E s := by
 cases ty with
 | non => cases (show u = Value.none from rx); exact PySem.W.kia_one PySem.W.kitx_none I.kIn True.intro e (fun z => nomatch z) h
 | bl y => cases (show u = Value.bool y from rx); exact PySem.W.kia_one PySem.W.kitx_bool I.kIn True.intro e (fun z => nomatch z) h
 | int i => obtain ⟨t, q⟩ := (show ∃ t, u = Value.int i t from rx); cases q; exact PySem.W.kia_one PySem.W.kitx_int I.kIn True.intro e (fun z => nomatch z) h
 | str y => obtain ⟨t, q⟩ := (show ∃ t, u = Value.str y t from rx); cases q; exact PySem.W.kia_one PySem.W.kitx_str I.kIn True.intro e (fun z => nomatch z) h
 | flt y => obtain ⟨t, q⟩ := (show ∃ t, u = Value.float y t from rx); cases q; exact PySem.W.kia_one PySem.W.kitx_float I.kIn True.intro e (fun z => nomatch z) h
 | @lst a xs ea =>
  cases (show u = Value.ref a from rx)
  obtain ⟨_, _, n, _, h1⟩ := (show aW X.prog X.w H s.heap a (.lst xs) from I.hok a _ ea)
  exact PySem.W.kia_one PySem.W.kitx_list I.kIn ⟨_, h1, rfl⟩ e (fun z => nomatch z) h
 | @frz a ob xs ea =>
  cases (show u = Value.ref a from rx)
  obtain ⟨_, _, _, n, _, h1⟩ := (show aW X.prog X.w H s.heap a (.frz ob (.lst xs)) from I.hok a _ ea)
  exact PySem.W.kia_one PySem.W.kitx_list I.kIn ⟨_, h1, rfl⟩ e (fun z => nomatch z) h
 | @tup a xs ea =>
  cases (show u = Value.ref a from rx)
  obtain ⟨_, _, _, p⟩ := (show aW X.prog X.w H s.heap a (.tup xs) from I.hok a _ ea)
  obtain ⟨o, h1, h2, _⟩ := p
  exact PySem.W.kia_one PySem.W.kitx_tuple I.kIn ⟨o, h1, h2⟩ e (fun z => nomatch z) h
 | @dK a kvs ea =>
  cases (show u = Value.ref a from rx)
  obtain ⟨_, _, vs, _, p⟩ := (show aW X.prog X.w H s.heap a (.dK kvs) from I.hok a _ ea)
  obtain ⟨o, es, ep, h1, h2, _⟩ := p
  exact PySem.W.kia_one PySem.W.kitx_dict I.kIn ⟨o, h1, h2.1⟩ e (fun z => nomatch z) h
 | @dT a kvs ea =>
  cases (show u = Value.ref a from rx)
  obtain ⟨_, _, xs, _, o, es, ep, h1, h2, _⟩ := (show aW X.prog X.w H s.heap a (.dT kvs) from I.hok a _ ea)
  exact PySem.W.kia_one PySem.W.kitx_dict I.kIn ⟨o, h1, h2.1⟩ e (fun z => nomatch z) h
 | @ins a C dx fs ea cl ha hn htk hm =>
  cases (show u = Value.ref a from rx)
  obtain ⟨mA, O, _⟩ := cD I.hok ea
  obtain ⟨od, J, _⟩ := O.look
  exact PySem.W.kia_one (PySem.W.kitx_own (cl.get _) cl.hd ha hn htk hm) I.kIn J e (fun z => nomatch z) h
end
end L2
namespace L2
open PySem PySem.Spec PyProof.Rows
structure Room (k : Nat) (A : Around) : Prop where
 hd : A.handled = none
 dp : A.depth + 3 * k + 5 < recursionLimit
 un : A.units + 16 * k + 200 < cLine
theorem Room.mono {j k : Nat} {A : Around} (r : Room k A) (h : j <= k) : Room j A := ⟨r.hd, by have := r.dp; omega, by have := r.un; omega⟩
theorem Room.deeper {k : Nat} {A : Around} (r : Room (k + 1) A) (env : Env) : Room k (A.deeper env) :=
 ⟨r.hd, by have := r.dp; show A.depth + 1 + 3 * k + 5 < _; omega, by have := r.un; show A.units + 3 + 16 * k + 200 < _; omega⟩
theorem Room.in1 {k : Nat} {A : Around} (r : Room (k + 1) A) : Room k A.in1 :=
 ⟨r.hd, by have := r.dp; show A.depth + 3 * k + 5 < _; omega, by have := r.un; show A.units + 1 + 16 * k + 200 < _; omega⟩
theorem qD {A : Around} {C : Addr} {us : List Value} {kw : List (Str × Value)} : (A.under (.builtin "type.__call__" ⟨.ref C :: us, kw⟩)).depth = A.depth + 1 := by
 first | rfl | simp [Around.under, Code.weight, Code.isCreation, Code.isGuard, Code.isCaller, Code.frames, Code.isFrame, guardIds]
theorem qE {A : Around} {C : Addr} {us : List Value} {kw : List (Str × Value)} : (A.under (.builtin "type.__call__" ⟨.ref C :: us, kw⟩)).units = A.units + 1 := by
 first | rfl | simp [Around.under, Code.cUnits, Code.frames, Code.isFrame]
theorem Room.make {k : Nat} {A : Around} (r : Room (k + 1) A) (C : Addr) (us : List Value) (kw : List (Str × Value)) : Room k (A.under (.builtin "type.__call__" ⟨.ref C :: us, kw⟩)) :=
 ⟨r.hd, by have := r.dp; rw [qD]; omega, by have := r.un; rw [qE]; omega⟩
theorem Room.depth {k : Nat} {A : Around} (r : Room k A) : A.depth < recursionLimit := by have := r.dp; omega
theorem Room.units {k : Nat} {A : Around} (r : Room k A) : A.units + 64 < cLine := by have := r.un; omega
def CB : TA := fun _ H Q => Q [] H
def A8 (ta : TE) (tr : TA) : TA := fun σ H Q => ta σ H fun x H1 => tr σ H1 fun xs H2 => Q (x :: xs) H2
section
variable {X : Cx} {e : Expr} {es : List Expr} {te : TE} {t : TA} {pos : Pos}
theorem fG : PA X [] CB := fun _ _ _ _ H Q I h => Calls.spliced_nil ⟨[], H, I, .nil, h⟩
theorem b7 (ha : PE X e te) (hr : PA X es t) (hs : starEach (e :: es) X.env = (false, eval e X.env) :: starEach es X.env := by rfl) : PA X (e :: es) (A8 te t) := by
 intro pos pins s σ H Q I h
 rw [hs]
 show wpAny _ _ (spliced ((false, eval e X.env) :: backTo pos (starEach es X.env))) _ _ s
 refine Calls.spliced_cons (cB (ha pins s σ H _ I h) fun u s1 ⟨x, H1, I1, r1, q1⟩ => ?_)
 exact cB (hr pos pins s1 σ H1 _ I1 q1) fun us s2 ⟨xs, H2, I2, r2, q2⟩ => ⟨x :: xs, H2, I2, .cons r1 r2, q2⟩
def CC (t : TA) : TE := fun σ H Q => t σ H fun xs H1 => xs.length <= sizeLine /\ ∀ p, H1 p = none -> Q (.ref p) (upd H1 p (.tup xs))
def CD (t : TA) : TE := fun σ H Q => t σ H fun xs H1 => xs.length <= sizeLine /\ ∀ p, H1 p = none -> Q (.ref p) (upd H1 p (.lst xs))
theorem uW {x1} (h : PA X es t) : PE X (.Tuple es x1 pos) (CC t) := by
 intro pins s σ H Q I hq
 refine wpAny_Tuple_spliced (cB (h pos pins s σ H _ I hq) fun us s1 ⟨xs, H1, I1, r, z, q⟩ => ⟨by rw [<- r.length]; exact z, ?_⟩)
 have hf : H1 s1.heap.objs.size = none := I1.hok.fresh (Nat.le_refl _)
 refine ⟨.ref s1.heap.objs.size, upd H1 s1.heap.objs.size (.tup xs), I1.laid (t' := s1.toks) (fun b u e => Heap.get?_push_of_some _ e) (Nat.le_refl _) ?_, rfl, q _ hf⟩
 exact ⟨z, us, r, ⟨_, Heap.get?_push_size _ rfl, rfl, _, rfl⟩⟩
theorem zj (h : PA X es t) : PE X (.List es pos) (CD t) := by
 intro pins s σ H Q I hq
 refine wpAny_List_spliced (cB (h pos pins s σ H _ I hq) fun us s1 ⟨xs, H1, I1, r, z, q⟩ => ⟨by rw [<- r.length]; exact z, ?_⟩)
 have hf : H1 s1.heap.objs.size = none := I1.hok.fresh (Nat.le_refl _)
 refine ⟨.ref s1.heap.objs.size, upd H1 s1.heap.objs.size (.lst xs), I1.laid (t' := s1.toks) (fun b u e => Heap.get?_push_of_some _ e) (Nat.le_refl _) ?_, rfl, q _ hf⟩
 exact ⟨z, us, 0, r, Heap.get?_push_size _ rfl⟩
end
abbrev Sp := List V -> Hp -> VK -> XK -> Prop
abbrev rY := List Env -> Hp -> Shared -> XK -> Value -> Shared -> Prop
structure aA (P : Program) (w : World) (K : PySem.W.Frag) (mg : Str -> Option Value) (base : Heap) (A : Around) (outer : List Env) (s : Shared) (H : Hp) : Prop where
 frames : A.frames = some outer
 mod : Mod K mg base
 bs : ∀ b o, base.get? b = some o -> s.heap.get? b = some o /\ H b = none
 bsz : base.objs.size <= s.heap.objs.size
 funs : s.heap.FunFrames base outer
 frf : ∀ b ∈ gr outer, H b = none
 hok : dJ P w H s.heap
 bare : AllBare s.gens
def CE (outer : List Env) (P : Program) (w : World) (H : Hp) (s : Shared) (Q : VK) (u : Value) (s' : Shared) : Prop :=
 ∃ v H', s'.os = s.os /\ AllBare s'.gens /\ Un (gr outer) [] H H' s.heap s'.heap /\ dJ P w H' s'.heap /\ RelV v u /\ Q v H'
def CR (CX : rY) (outer : List Env) (P : Program) (w : World) (H : Hp) (s : Shared) (Q : VK) (E : XK) (r : Result) (s' : Shared) : Prop :=
 match r with
 | .ok (.ret u) => CE outer P w H s Q u s'
 | .ok _ => False
 | .error e => CX outer H s E e s'
structure FnOk (P : Program) (w : World) (K : PySem.W.Frag) (mg : Str -> Option Value) (base : Heap) (CX : rY) (k : Nat) (f : Addr) (fd : FuncData) (ps : List Str) (sp : Sp) : Prop where
 len : ∀ vs H Q E, sp vs H Q E -> vs.length = ps.length
 run : ∀ (A : Around) (outer : List Env) (s : Shared) (H : Hp) (args : Args) (us : List Value) (vs : List V) (Q : VK) (E : XK), Room k A -> aA P w K mg base A outer s H -> BindsTo s fd args (ps.zip us) -> aI vs us -> sp vs H Q E ->
  codeAny (model P w) A (.call (.ref f) args) (CR CX outer P w H s Q E) s
theorem FnOk.mono {P : Program} {w : World} {K : PySem.W.Frag} {mg : Str -> Option Value} {base : Heap} {CX : rY} {j k : Nat} {f : Addr} {fd : FuncData} {ps : List Str} {sp : Sp} (F : FnOk P w K mg base CX j f fd ps sp) (h : j <= k) :
  FnOk P w K mg base CX k f fd ps sp := ⟨F.len, fun A outer s H args us vs Q E hr => F.run A outer s H args us vs Q E (hr.mono h)⟩
theorem FnOk.imp {P : Program} {w : World} {K : PySem.W.Frag} {mg : Str -> Option Value} {base : Heap} {CX : rY} {k : Nat} {f : Addr} {fd : FuncData} {ps : List Str} {sp sp' : Sp} (F : FnOk P w K mg base CX k f fd ps sp)
  (h : ∀ vs H Q E, sp' vs H Q E -> sp vs H Q E) : FnOk P w K mg base CX k f fd ps sp' :=
 ⟨fun vs H Q E q => F.len vs H Q E (h _ _ _ _ q), fun A outer s H args us vs Q E hr he hb hv hs => F.run A outer s H args us vs Q E hr he hb hv (h _ _ _ _ hs)⟩
theorem aA.make {P : Program} {w : World} {K : PySem.W.Frag} {mg : Str -> Option Value} {base : Heap} {A : Around} {outer : List Env} {s : Shared} {H : Hp} (e : aA P w K mg base A outer s H) (C : Addr) (us : List Value) (kw : List (Str × Value)) :
  aA P w K mg base (A.under (.builtin "type.__call__" ⟨.ref C :: us, kw⟩)) outer s H := ⟨by first | exact e.frames | (simpa [Around.under, Code.envs, Code.isFrame, pushEnvs] using e.frames), e.mod, e.bs, e.bsz, e.funs, e.frf, e.hok, e.bare⟩
theorem aA.in1 {P : Program} {w : World} {K : PySem.W.Frag} {mg : Str -> Option Value} {base : Heap} {A : Around} {outer : List Env} {s : Shared} {H : Hp} (e : aA P w K mg base A outer s H) :
  aA P w K mg base A.in1 outer s H := ⟨e.frames, e.mod, e.bs, e.bsz, e.funs, e.frf, e.hok, e.bare⟩
section
variable {X : Cx} {pins : List (Addr × Obj)} {σ : St} {H : Hp} {s s' : Shared}
theorem Inv.env0 (I : Inv X pins σ H s) : aA X.prog X.w X.K X.mg X.base X.A X.stack s H :=
 ⟨I.ok.frames, I.ok.mod, I.bs, Nat.le_trans I.ok.bsz I.sz, I.stack, I.stkFree, I.hok, I.bare⟩
theorem Inv.after {Q : VK} {u : Value} (I : Inv X pins σ H s) (h : CE X.stack X.prog X.w H s Q u s') : EP X pins σ Q u s' := by
 obtain ⟨v, H', os, bare, un, hok, r, q⟩ := h
 obtain ⟨hh, g, d, t, os'⟩ := s'
 obtain rfl : os' = s.os := os
 exact ⟨v, H', I.call (h' := hh) (g' := g) (d' := d) (t' := t) (ch := []) un hok bare (fun b z => absurd z (by simp)), r, q⟩
end
def A9 (sp : Sp) (dvs : List V) (E : XK) (t : TA) : TE := fun σ H Q => t σ H fun vs H1 => sp (vs ++ dvs) H1 Q E
def Do (C : Addr) (m : Str) (sp : Sp) (dvs : List V) (E : XK) (ta : TE) (t : TA) : TE := fun σ H Q => ta σ H fun x H1 => ∃ a dx fs, x = .ref a /\ H1 a = some (.ins C dx fs) /\ fs.lookup m = none /\
 t σ H1 fun vs H2 => sp (x :: (vs ++ dvs)) H2 Q E
def Dp (C : Addr) (sp : Sp) (dvs : List V) (E : XK) (t : TA) : TE := fun σ H Q => t σ H fun vs H1 => ∀ x dx, H1 x = none -> H1 dx = none -> dx ≠ x ->
 sp (.ref x :: (vs ++ dvs)) (upd (upd H1 dx (.own x)) x (.ins C dx [])) (fun v H2 => v = .non /\ Q (.ref x) H2) E
def Binds (K : PySem.W.Frag) (fd : FuncData) (ps : List Str) (ds : List Value) : Prop :=
 ∀ (s : Shared) (us : List Value), K.In s.heap -> (us ++ ds).length = ps.length -> BindsTo s fd ⟨us, []⟩ (ps.zip (us ++ ds))
theorem Binds.all {K : PySem.W.Frag} {fd : FuncData} {ps : List Str} (h : ∀ us : List Value, us.length = ps.length -> bindArgs fd ⟨us, []⟩ = pure (ps.zip us)) : Binds K fd ps [] := fun s us _ hl => by
 rw [List.append_nil] at hl ⊢
 exact .of_eq (h us hl)
def kI (CX : rY) (X : Cx) (E : XK) : Prop := ∀ (pins : List (Addr × Obj)) (σ : St) (H : Hp) (s : Shared) (e : Value) (s' : Shared), Inv X pins σ H s -> CX X.stack H s E e s' -> X.xe e s'
section
variable {X : Cx} {CX : rY} {k : Nat} {f C : Addr} {fd : FuncData} {ps : List Str} {sp : Sp} {dvs : List V} {ds : List Value} {E : XK} {x m : Str} {p pos apos : Pos} {e o : Expr} {es : List Expr} {ta : TE} {t : TA}
theorem zk {pins : List (Addr × Obj)} {σ : St} {H : Hp} {s : Shared} {Q : VK} {us : List Value} {vs : List V} (F : FnOk X.prog X.w X.K X.mg X.base CX k f fd ps sp) (hr : Room k X.A) (hb : Binds X.K fd ps ds) (hd : aI dvs ds) (hx : kI CX X E)
  (I : Inv X pins σ H s) (r : aI vs us) (h : sp (vs ++ dvs) H Q E) : wpAny (model X.prog X.w) X.A (call (.ref f) us) (EP X pins σ Q) X.xe s := by
 have r2 : aI (vs ++ dvs) (us ++ ds) := r.append hd
 have hl : (us ++ ds).length = ps.length := by rw [<- r2.length]; exact F.len _ _ _ _ h
 refine wpAny_call (codeAny_mono (F.run X.A X.stack s H ⟨us, []⟩ (us ++ ds) (vs ++ dvs) Q E hr I.env0 (hb s us I.kIn hl) r2 h) fun r s' hq => ?_)
 cases r with
 | error e => exact hx pins σ H s e s' I hq
 | ok fl =>
  cases fl with
  | ret u => exact I.after hq
  | next => exact False.elim hq
  | brk => exact False.elim hq
  | cont => exact False.elim hq
theorem rZ (F : FnOk X.prog X.w X.K X.mg X.base CX k f fd ps sp) (hr : Room k X.A) (hg : Gl X x) (hm : X.mg x = some (.ref f)) (hk : PySem.W.keepIn X.K (.ref f) = true) (hb : Binds X.K fd ps ds) (hd : aI dvs ds) (hx : kI CX X E)
  (ha : PA X (e :: es) t) (hdb : (x == ("__debug__" : Str)) = false := by decide) (he : starEach (e :: es) X.env = (false, eval e X.env) :: starEach es X.env := by rfl) (hpl : (backTo pos (starEach es X.env)).any (·.1) = false := by rfl) :
  PE X (.Call (.Name x p) (e :: es) [] pos) (A9 sp dvs E t) := by
 intro pins s σ H Q I h
 refine wpAny_Call_Name_kw (iZ I hg hm ?_ hdb)
 refine PySem.W.callWith_K (h₀ := X.base) I.ok.mod.kin hk (cB (ha pos pins s σ H _ I h) fun us s1 ⟨vs, H1, I1, r, q⟩ => ⟨I1.kIn, ?_⟩) he hpl
 exact zk F hr hb hd hx I1 r q
structure Mk (K : PySem.W.Frag) (C f : Addr) : Prop where
 makes : PySem.W.makesIn K C = true
 init : PySem.W.findIn K (.ref C) "__init__" = some (some (.ref f))
 fn : PySem.W.isFn K (.ref f) = true
 kp : PySem.W.keepIn K (.ref C) = true
end
def PK (X : Cx) (kws : List Keyword) (t : TA) : Prop :=
 ∀ (pos : Pos) (pins : List (Addr × Obj)) (s : Shared) (σ : St) (H : Hp) (Q : List V -> Hp -> Prop), Inv X pins σ H s -> t σ H Q -> wpAny (model X.prog X.w) X.A (evalAll ((backToKw pos (keywordEach kws X.env)).map (·.2))) (AP X pins σ Q) X.xe s
section
variable {X : Cx} {CX : rY} {k : Nat} {f C : Addr} {fd : FuncData} {ps ks : List Str} {sp : Sp} {E : XK} {x m : Str} {p pos apos kpos : Pos} {e o : Expr} {es : List Expr} {kws : List Keyword} {te ta : TE} {t tk : TA} {nm : Option Str}
structure KBinds (K : PySem.W.Frag) (fd : FuncData) (ps ks : List Str) (g : List Value -> List Value -> List Value) (gV : List V -> List V -> List V) : Prop where
 to : ∀ (s : Shared) (us ws : List Value), K.In s.heap -> (g us ws).length = ps.length -> BindsTo s fd ⟨us, ks.zip ws⟩ (ps.zip (g us ws))
 rel : ∀ {vs : List V} {us : List Value} {zs : List V} {ws : List Value}, aI vs us -> aI zs ws -> aI (gV vs zs) (g us ws)
def CF (sp : Sp) (gV : List V -> List V -> List V) (E : XK) (t tk : TA) : TE := fun σ H Q => t σ H fun vs H1 => tk σ H1 fun zs H2 => sp (gV vs zs) H2 Q E
variable {g : List Value -> List Value -> List Value} {gV : List V -> List V -> List V}
end
structure FnScope (N P : List Str) (sc : Scope) : Prop where
 kind : sc.kind = .function
 co : sc.isCoroutine = false
 gen : sc.isGenerator = false
 nd : N.Nodup
 pre : N.take P.length = P
 par : ∀ x ∈ P, sc.names.lookup x = some .local \/ sc.names.lookup x = some .cell
 nofree : ∀ y ∈ sc.names, y.2 ≠ .free
theorem mB {kindOf : Str -> Option NameKind} {x : Str} : ∀ {binds : List (Str × Value)} {m : Str -> Option Value}, (∀ v, (x, v) ∉ binds) -> bindL kindOf binds m x = m x
 | [], _, _ => rfl
 | (n, v) :: r, m, h => by
  unfold bindL
  rw [mB fun w hw => h w (List.mem_cons_of_mem _ hw)]
  split
  ·have : x ≠ n := by rintro rfl; exact h v List.mem_cons_self
   simp [this]
  ·rfl
theorem mC {kindOf : Str -> Option NameKind} {x : Str} : ∀ {binds : List (Str × Value)} {m : Str -> Option Value}, (∀ v, (x, v) ∉ binds) -> bindC kindOf binds m x = m x
 | [], _, _ => rfl
 | (n, v) :: r, m, h => by
  unfold bindC
  rw [mC fun w hw => h w (List.mem_cons_of_mem _ hw)]
  split
  ·rfl
  ·have : x ≠ n := by rintro rfl; exact h v List.mem_cons_self
   simp [this]
theorem mD {kindOf : Str -> Option NameKind} {x : Str} {v : Value} : ∀ {P : List Str} {vs : List Value} {i : Nat} {m : Str -> Option Value}, P.Nodup -> P[i]? = some x -> vs[i]? = some v -> kindOf x = some .local ->
  bindL kindOf (P.zip vs) m x = some v
 | [], _, _, _, _, h, _, _ => by simp at h
 | _ :: _, [], _, _, _, _, h, _ => by simp at h
 | p :: P, w :: vs, 0, m, nd, h1, h2, hk => by
  simp at h1 h2; subst h1; subst h2
  show bindL kindOf ((p, w) :: P.zip vs) m p = _
  unfold bindL
  rw [mB fun v hv => (List.nodup_cons.mp nd).1 (List.of_mem_zip hv).1, if_pos hk]
  simp
 | p :: P, w :: vs, i + 1, m, nd, h1, h2, hk => by
  show bindL kindOf ((p, w) :: P.zip vs) m x = _
  unfold bindL
  exact mD (i := i) (List.nodup_cons.mp nd).2 (by simpa using h1) (by simpa using h2) hk
theorem mE {kindOf : Str -> Option NameKind} {x : Str} {v : Value} : ∀ {P : List Str} {vs : List Value} {i : Nat} {m : Str -> Option Value}, P.Nodup -> P[i]? = some x -> vs[i]? = some v -> kindOf x ≠ some .local ->
  bindC kindOf (P.zip vs) m x = some v
 | [], _, _, _, _, h, _, _ => by simp at h
 | _ :: _, [], _, _, _, _, h, _ => by simp at h
 | p :: P, w :: vs, 0, m, nd, h1, h2, hk => by
  simp at h1 h2; subst h1; subst h2
  show bindC kindOf ((p, w) :: P.zip vs) m p = _
  unfold bindC
  rw [mC fun v hv => (List.nodup_cons.mp nd).1 (List.of_mem_zip hv).1, if_neg hk]
  simp
 | p :: P, w :: vs, i + 1, m, nd, h1, h2, hk => by
  show bindC kindOf ((p, w) :: P.zip vs) m x = _
  unfold bindC
  exact mE (i := i) (List.nodup_cons.mp nd).2 (by simpa using h1) (by simpa using h2) hk
def start (N : List Str) (vs : List V) : St := vs.map some ++ List.replicate (N.length - vs.length) none
def iz (CX : rY) (P : Program) (w : World) (K : PySem.W.Frag) (mg : Str -> Option Value) (base : Heap) (N : List Str) (qual : Str) (scope : Scope) (f : Addr) (cd : Value) (A : Around) (outer : List Env) (s : Shared) (H : Hp) (E : XK) : Cx where
 prog := P
 w := w
 K := K
 mg := mg
 base := base
 A := A.deeper (envOfC qual scope s.heap.objs.size f cd)
 N := N
 s₀ := s
 H₀ := H
 env := envOfC qual scope s.heap.objs.size f cd
 outer := outer
 stack := envOfC qual scope s.heap.objs.size f cd :: outer
 ex := []
 calm := true
 fn := fun _ => true
 pn := []
 xe := fun e s' => wpAny (model P w) (A.deeper (envOfC qual scope s.heap.objs.size f cd)) (leaving (envOfC qual scope s.heap.objs.size f cd) e) (fun _ s'' => CX outer H s E e s'') (fun e' s'' => CX outer H s E e' s'') s'
theorem oX {sc : Scope} {n : Nat} {x : Str} (h : sc.names.lookup x = some .cell) : ∃ c, (cellsFrom n sc.names []).lookup x = some c := by
 have q := PySem.W.cellsFrom_some sc.names n [] (.inl h)
 exact Option.isSome_iff_exists.mp q
theorem tF {CX : rY} {P : Program} {w : World} {K : PySem.W.Frag} {mg : Str -> Option Value} {base : Heap} {N ps : List Str} {qual : Str} {scope : Scope} {f : Addr} {cd : Value} {A : Around} {outer : List Env} {s s1 : Shared} {H : Hp} {E : XK} {us : List Value} {vs : List V}
  (S : FnScope N ps scope) (hd : A.handled = none) (e0 : aA P w K mg base A outer s H) (hl : vs.length = ps.length) (r : aI vs us)
  (x : InCallC s s.heap.objs.size (bindL (envOfC qual scope s.heap.objs.size f cd).kindOf (ps.zip us) fun _ => none) (cellsFrom (s.heap.objs.size + 1) scope.names []) (bindC (envOfC qual scope s.heap.objs.size f cd).kindOf (ps.zip us) fun _ => none) s1) :
  Inv (iz CX P w K mg base N qual scope f cd A outer s H E) [] (start N vs) H s1 := by
 have hpl : ps.length <= N.length := by have := congrArg List.length S.pre; rw [List.length_take] at this; omega
 obtain ⟨h1, tk, rfl, hk⟩ := x.done
 have noA : ∀ b : Addr, b ∉ (iz CX P w K mg base N qual scope f cd A outer s H E).ex := fun b z => absurd (show b ∈ ([] : List Addr) from z) (by simp)
 refine ⟨⟨e0.mod, S.kind, rfl, rfl, Nat.le_refl _, fun y z c h1 h2 => ?_, fun y hy => ?_, fun y c _ h => ?_, fun _ => hd, Around.frames_deeper e0.frames, .inr ⟨rfl, rfl⟩, fun b z => absurd z (noA b), e0.bs, e0.bsz, fun b _ _ => noA b, fun b z => absurd z (noA b), e0.funs, e0.frf⟩,
  rfl, e0.bare, Un.kept hk, ⟨_, x.toInCall.ns, fun i y v h1 h2 h3 => ?_⟩, fun y c h => ⟨_, x.cell y c h⟩, e0.hok.fresh (Nat.le_refl _), fun y c h => ?_, fun p hp => absurd (show p ∈ ([] : List (Addr × Obj)) from hp) (by simp), e0.hok.kept hk, ?_⟩
 ·exact name_of_addr x.apart (PySem.mem_of_lookup h1) (PySem.mem_of_lookup h2)
 ·have hy : scope.names.lookup y = some .cell \/ scope.names.lookup y = some .free := hy
  rcases hy with hy | hy
  ·exact oX hy
  ·exact absurd rfl (S.nofree _ (PySem.mem_of_lookup hy))
 ·exact Nat.le_of_lt (x.above y c (PySem.mem_of_lookup h))
 ·have hi : i < vs.length := by
   unfold start at h2
   by_cases hi : i < vs.length
   ·exact hi
   ·rw [List.getElem?_append_right (by simpa using hi)] at h2
    rw [List.getElem?_replicate] at h2
    split at h2 <;> cases h2
  have ha : vs[i]? = some v := by
   unfold start at h2
   rw [List.getElem?_append_left (by simpa using hi), List.getElem?_map] at h2
   cases e : vs[i]? with
   | none => rw [e] at h2; cases h2
   | some a => rw [e] at h2; cases h2; rfl
  obtain ⟨u, hu, rv⟩ := r.get ha
  have hp : ps[i]? = some y := by
   rw [<- S.pre, List.getElem?_take_of_lt (by omega)]; exact h1
  have ndP : ps.Nodup := by rw [<- S.pre]; exact S.nd.sublist (List.take_sublist _ _)
  refine ⟨u, rv, ?_⟩
  rcases S.par y (List.mem_of_getElem? hp) with k | k
  ·exact .inl ⟨k, mD ndP hp hu k⟩
  ·obtain ⟨c, e⟩ := oX (n := s.heap.objs.size + 1) k
   refine .inr ⟨.inl k, c, e, ?_⟩
   have q := x.cell y c e
   rw [mE ndP hp hu (by show scope.names.lookup y ≠ _; rw [k]; decide)] at q
   exact q
 ·exact e0.hok.fresh (Nat.le_of_lt (x.above y c (PySem.mem_of_lookup h)))
 ·unfold start
  show _ = N.length
  rw [List.length_append, List.length_map, List.length_replicate]
  omega
theorem uX {CX : rY} {P : Program} {w : World} {K : PySem.W.Frag} {mg : Str -> Option Value} {base : Heap} {k : Nat} {f : Addr} {name qual : Str} {params : Arguments} {body : List Stmt} {scope : Scope} {dV kV doc pm cdv ct oc : Value} {an od : Option Addr}
  {osl : Array (Option Value)} {N ps : List Str} {sp : Sp} (lk : K.lookup f = some ⟨oc, od, .func (PySem.W.fnOf name qual params body scope dV kV doc pm an cdv ct), osl⟩) (hcd : PySem.W.codeIn K cdv qual = true) (S : FnScope N ps scope)
  (len : ∀ vs H Q E, sp vs H Q E -> vs.length = ps.length)
  (hbody : ∀ (A : Around) (outer : List Env) (s : Shared) (H : Hp) (vs : List V) (Q : VK) (E : XK), Room k (A.deeper (envOfC qual scope s.heap.objs.size f cdv)) -> sp vs H Q E ->
   ∃ t, lO (iz CX P w K mg base N qual scope f cdv A outer s H E) body t /\ t { nx := fun _ H' => Q .non H', rt := Q } (start N vs) H) :
  FnOk P w K mg base CX (k + 1) f (PySem.W.fnOf name qual params body scope dV kV doc pm an cdv ct) ps sp := by
 refine ⟨len, fun A outer s H args us vs Q E hr e0 hb r hsp => ?_⟩
 have hl := len _ _ _ _ hsp
 have KX : K.In s.heap := e0.mod.kin.keeps fun b o e => (e0.bs b o e).1
 have lim : s.heap.NoLimit := e0.mod.nolimit.keeps fun b o e => (e0.bs b o e).1
 have hkind : ∀ y ∈ ps.zip us, scope.names.lookup y.1 = some .local \/ (scope.names.lookup y.1 = some .cell /\ ((cellsFrom (s.heap.objs.size + 1) scope.names []).lookup y.1).isSome = true) := fun ⟨n, v⟩ hy => by
  rcases S.par n (List.of_mem_zip hy).1 with q | q
  ·exact .inl q
  ·exact .inr ⟨q, PySem.W.cellsFrom_some _ _ _ (.inl q)⟩
 refine codeAny_call_function hr.depth (KX _ _ lk) rfl S.co S.gen rfl (PySem.W.codeRec_of KX hcd) (hb _ _ _ _ ?_)
 refine wpAny_newFunctionEnv_cells S.kind hkind fun env he s1 x => ?_
 subst he
 refine ⟨lim.keeps x.toInCall.keep, codeAny_func ?_⟩
 obtain ⟨t, ht, hq⟩ := hbody A outer s H vs Q E (hr.deeper _) hsp
 have I : Inv (iz CX P w K mg base N qual scope f cdv A outer s H E) [] (start N vs) H s1 := tF S hr.hd e0 hl r x
 refine wpAny_mono (ht [] s1 (start N vs) H _ I hq) (fun fl s' hs => ?_) fun e s' hs => hs
 have fin : ∀ {σ' : St} {H' : Hp} {v : V} {u : Value}, Inv (iz CX P w K mg base N qual scope f cdv A outer s H E) [] σ' H' s' -> RelV v u -> Q v H' -> CE outer P w H s Q u s' :=
  fun {σ' H' v u} J rv q => ⟨v, H', J.os, J.bare, J.base, J.hok, rv, q⟩
 cases fl with
 | ret u =>
  obtain ⟨v, σ', H', J, rv, q⟩ := hs
  exact fin J rv q
 | next =>
  obtain ⟨σ', H', J, q⟩ := hs
  exact fin (v := V.non) (u := Value.none) J rfl q
 | brk =>
  obtain ⟨_, _, _, q⟩ := hs
  exact False.elim q
 | cont =>
  obtain ⟨_, _, _, q⟩ := hs
  exact False.elim q
end L2
namespace L2
open PySem PySem.Spec PyProof.Rows
section
variable {X : Cx} {x : Str} {p pos : Pos} {e : Expr} {es : List Expr} {t : TA} {id T : String} {r : List V -> Hp -> VK -> Prop}
def CG (r : List V -> Hp -> VK -> Prop) (t : TA) : TE := fun σ H Q => t σ H fun vs H1 => r vs H1 Q
theorem e8 (hc : bD X (.builtin id) r) (hg : Gl X x) (hm : X.mg x = none) (hv : bootBuiltins x = some (.builtin id)) (ha : PA X (e :: es) t) (hn : x ≠ "__name__" := by decide) (hdb : (x == ("__debug__" : Str)) = false := by decide)
  (he : starEach (e :: es) X.env = (false, eval e X.env) :: starEach es X.env := by rfl) (hpl : (backTo pos (starEach es X.env)).any (·.1) = false := by rfl) : PE X (.Call (.Name x p) (e :: es) [] pos) (CG r t) := by
 intro pins s σ H Q I h
 refine wpAny_Call_Name_kw (jE I hg hm hv ?_ hn hdb)
 exact PyProof.Rows.callWith_builtin1 (cB (ha pos pins s σ H _ I h) fun us s1 ⟨vs, H1, I1, r1, q1⟩ => hc pins s1 σ H1 vs us Q I1 r1 q1) he hpl
theorem e9 (hc : bD X (.type T) r) (hg : Gl X x) (hm : X.mg x = none) (hv : bootBuiltins x = some (.type T)) (ha : PA X (e :: es) t) (hn : x ≠ "__name__" := by decide) (hdb : (x == ("__debug__" : Str)) = false := by decide)
  (he : starEach (e :: es) X.env = (false, eval e X.env) :: starEach es X.env := by rfl) (hpl : (backTo pos (starEach es X.env)).any (·.1) = false := by rfl) : PE X (.Call (.Name x p) (e :: es) [] pos) (CG r t) := by
 intro pins s σ H Q I h
 refine wpAny_Call_Name_kw (jE I hg hm hv ?_ hn hdb)
 exact PyProof.Rows.callWith_type1 (cB (ha pos pins s σ H _ I h) fun us s1 ⟨vs, H1, I1, r1, q1⟩ => hc pins s1 σ H1 vs us Q I1 r1 q1) he hpl
end
end L2
namespace HT
open PySem PyProof.Rows
def lexLt : List Int -> List Int -> Bool
 | [], [] => false
 | [], _ :: _ => true
 | _ :: _, [] => false
 | x :: xs, y :: ys => if x = y then lexLt xs ys else decide (x < y)
theorem lexLt_cons (x y : Int) (xs ys : List Int) : lexLt (x :: xs) (y :: ys) = if x = y then lexLt xs ys else decide (x < y) := rfl
theorem lR : lexLt [] [] = false := rfl
theorem kJ (y : Int) (ys : List Int) : lexLt [] (y :: ys) = true := rfl
theorem kK (x : Int) (xs : List Int) : lexLt (x :: xs) [] = false := rfl
theorem uY (A : Around) (s : Shared) (a : Int) (t : Tok) (c : Int) (u : Tok) : ∃ e, SeqAt.EqAt A s (.int a t) (.int c u) e /\ (e = true ↔ a = c) :=
 ⟨(a == c), SeqAt.EqAt.int_int a t c u, by simp⟩
theorem uZ (A : Around) (s : Shared) (a : Int) (t : Tok) (c : Int) (u : Tok) (prog : Program) (w : World) (E : Value -> Shared -> Prop) (Q : Value -> Shared -> Prop) (h : Q (.bool (decide (a < c))) s) :
  wpAny (model prog w) A (richCompare .Lt (.int a t) (.int c u)) Q E s :=
 (PyProof.Rows.lt_int h : wpAny (model prog w) A (compareOp .Lt (.int a t) (.int c u)) Q E s)
section
open PySem.SeqAt
open PySem.AutoSeq1 (wpAny_loadPart')
open PySem.MeetsSeq PySem.MeetsSeq2 PySem.MeetsSeq3
theorem lS (l b : Addr) (items items2 : Array Value) (n n2 : Nat) (dd dd2 : Option Addr) (sl sl2 : Array (Option Value)) (ns ms : List Int) (hi : IntsAre items.toList ns) (hj : IntsAre items2.toList ms) :
  Meets (Builtin.«tuple.__lt__» ⟨[.ref l, .ref b], []⟩)
   (fun _ R s => s.heap.get? l = some { cls := .type "tuple", dict := dd, data := .seq items n, slots := sl } /\ s.heap.get? b = some { cls := .type "tuple", dict := dd2, data := .seq items2 n2, slots := sl2 } /\
    R (.ok (.ret (.bool (lexLt ns ms)))) s) :=
 .of_wp fun prog w A R s h => by
  obtain ⟨hp, g, d, tk, os⟩ := s; obtain ⟨hl, hb, h⟩ := h
  have f2 := AutoSeq1.sub_tuple_tuple
  have z1 : items.size = ns.length := by rw [<- hi.length]; simp
  have z2 : items2.size = ms.length := by rw [<- hj.length]; simp
  wp_walk using wpAny_loadPart' hl, wpAny_loadPart' hb, wpAny_forIn_list _ (fun rest b s' => b.1 = none /\ s' = ⟨hp, g, d, tk, os⟩ /\ ∃ (vs ws : List Value) (ns' ms' : List Int), rest = vs.zip ws /\
   IntsAre vs ns' /\ IntsAre ws ms' /\ ns'.length + items2.size = ms'.length + items.size /\ R (.ok (.ret (.bool (lexLt ns' ms')))) ⟨hp, g, d, tk, os⟩) _
  case turn =>
   rintro ⟨y, x⟩ rest b s' ⟨hb', rfl, vs, ws, ns', ms', hz, hvi, hwi, hlen, hR⟩
   cases hvi with
   | nil => rw [List.zip_nil_left] at hz; cases hz
   | cons a t hvi' =>
    cases hwi with
    | nil => rw [List.zip_nil_right] at hz; cases hz
    | cons c u hwi' =>
     rw [List.zip_cons_cons] at hz
     injection hz with hyx hrest
     injection hyx with hy hx
     subst hy hx
     rw [lexLt_cons] at hR
     simp only [List.length_cons] at hlen
     obtain ⟨e, he, hiff⟩ := uY A.in1 ⟨hp, g, d, tk, os⟩ a t c u
     refine wpAny_bind (he prog w _ _ ?_)
     cases e with
     | true =>
      rw [if_pos (hiff.mp rfl)] at hR
      wp_walk
      exact ⟨rfl, rfl, _, _, _, _, hrest, hvi', hwi', by omega, hR⟩
     | false =>
      rw [if_neg (fun q => absurd (hiff.mpr q) Bool.false_ne_true)] at hR
      have hri := uZ A.in1 ⟨hp, g, d, tk, os⟩ a t c u prog w
      wp_walk using hri
      exact ⟨_, rfl, by simpa using hR⟩
  case fin =>
   rintro ⟨b1, b2⟩ s' ⟨hb', rfl, vs, ws, ns', ms', hz, hvi, hwi, hlen, hR⟩
   simp only at hb'
   subst hb'
   have hv : lexLt ns' ms' = decide (items.size < items2.size) := by
    cases hvi with
    | nil =>
     cases hwi with
     | nil =>
      simp only [List.length_nil] at hlen
      rw [lR]
      exact (decide_eq_false (by omega)).symm
     | cons c u hw =>
      simp only [List.length_nil, List.length_cons] at hlen
      rw [kJ]
      exact (decide_eq_true (by omega)).symm
    | cons a t hv =>
     cases hwi with
     | nil =>
      simp only [List.length_nil, List.length_cons] at hlen
      rw [kK]
      exact (decide_eq_false (by omega)).symm
     | cons c u hw =>
      rw [List.zip_cons_cons] at hz
      cases hz
   rw [hv] at hR
   wp_walk
   exact ⟨_, rfl, by simpa [Builtin.Tuple.tupleCompareSizes] using hR⟩
  case h =>
   exact ⟨rfl, rfl, items.toList, items2.toList, ns, ms, rfl, hi, hj, by omega, h⟩
end
section
variable {prog : Program} {w : World} {A : Around} {E : Value -> Shared -> Prop} {s : Shared}
theorem lt_tupInts {l b : Addr} {items items2 : Array Value} {ns ms : List Int} {Q : Value -> Shared -> Prop} (hl : IsTup s.heap l items) (hb : IsTup s.heap b items2) (hi : IntsAre items.toList ns) (hj : IntsAre items2.toList ms)
  (hu : A.units < cLine) (h : Q (.bool (lexLt ns ms)) s) : wpAny (model prog w) A (compareOp .Lt (.ref l) (.ref b)) Q E s := by
 obtain ⟨⟨cls, dd, data, sl⟩, ho, hc, n, hd⟩ := id hl
 obtain ⟨⟨cls2, dd2, data2, sl2⟩, ho2, hc2, n2, hd2⟩ := id hb
 simp only at hc hd hc2 hd2
 subst hc hd hc2 hd2
 exact richCompare_meets_room (op := .Lt) ⟨_, ho, rfl⟩ ⟨_, ho2, rfl⟩ PySem.F.slot_tuple_lt PySem.F.entry_tuple_lt (PySem.F.args_tuple_lt_2 _ _) (lS l b items items2 n n2 dd dd2 sl sl2 ns ms hi hj)
  ⟨ho, ho2, show Value.bool (lexLt ns ms) ≠ Value.notImplemented /\ Q (.bool (lexLt ns ms)) s from ⟨(fun x => nomatch x), h⟩⟩ hu
theorem cat_tup {t b : Addr} {vs ws : List Value} {Q : Value -> Shared -> Prop} (ht : IsTup s.heap t vs.toArray) (hb : IsTup s.heap b ws.toArray) (hv : vs ≠ [])
  (h1 : ws = [] -> Q (.ref t) s) (h2 : ws ≠ [] -> Q (.ref s.heap.objs.size) { s with heap := s.heap.push { cls := .type "tuple", data := .seq (vs ++ ws).toArray } })
  (hsz : vs.length + ws.length <= sizeLine) : wpAny (model prog w) A (binaryOp .Add (.ref t) (.ref b)) Q E s := by
 obtain ⟨⟨cls, dd, data, sl⟩, ho, hc, n, hd⟩ := id ht
 obtain ⟨⟨cls2, dd2, data2, sl2⟩, ho2, hc2, n2, hd2⟩ := id hb
 simp only at hc hd hc2 hd2
 subst hc hd hc2 hd2
 have e : vs.toArray ++ ws.toArray = (vs ++ ws).toArray := by simp
 by_cases hw : ws = []
 ·exact concat_meets ⟨_, ho, rfl⟩ ⟨_, ho2, rfl⟩ noFill_tuple_add seq_tuple_add PySem.F.slot_tuple_add PySem.F.entry_tuple_add (PySem.F.args_tuple_add_2 _ _)
   (tuple_addW1 t b vs.toArray ws.toArray n n2 dd dd2 sl sl2 (by simpa using hv) (by simp [hw])) ⟨ho, ho2, h1 hw⟩
 ·refine concat_meets ⟨_, ho, rfl⟩ ⟨_, ho2, rfl⟩ noFill_tuple_add seq_tuple_add PySem.F.slot_tuple_add PySem.F.entry_tuple_add (PySem.F.args_tuple_add_2 _ _)
   (tuple_addW2 t b vs.toArray ws.toArray n n2 dd dd2 sl sl2 (by simpa using hv) (by simpa using hw) (by rw [List.size_toArray, List.size_toArray]; exact hsz)) ⟨ho, ho2, ?_⟩
  rw [e]
  exact h2 hw
def sIx (n d : Nat) : Option Int -> Nat
 | none => d
 | some v => if v < 0 then (v + (n : Int)).toNat else min v.toNat n
theorem zl (n d : Nat) (hd : d <= n) (o : Option Int) : sIx n d o <= n := by
 cases o with
 | none => exact hd
 | some v =>
  show (if v < 0 then (v + (n : Int)).toNat else min v.toNat n) <= n
  by_cases hv : v < 0
  ·rw [if_pos hv]; omega
  ·rw [if_neg hv]; exact Nat.min_le_right _ _
theorem r0 (v : Int) (n d : Nat) : (if v < 0 then max (v + (n : Int)) 0 else min v (n : Int)) = ((sIx n d (some v) : Nat) : Int) := by
 show (if v < 0 then max (v + (n : Int)) 0 else min v (n : Int)) = (((if v < 0 then (v + (n : Int)).toNat else min v.toNat n) : Nat) : Int)
 by_cases hv : v < 0
 ·simp only [if_pos hv]; omega
 ·simp only [if_neg hv]; omega
theorem qF (lo hi : Option Int) (n : Nat) : Builtin.Slice.sliceAdjust lo hi 1 (n : Int) = (((sIx n 0 lo : Nat) : Int), ((sIx n n hi : Nat) : Int)) := by
 have h1 : ¬ ((1 : Int) < 0) := by omega
 unfold Builtin.Slice.sliceAdjust
 simp only [h1, if_false]
 refine Prod.ext ?_ ?_
 ·cases lo with
  | none => rfl
  | some v => exact r0 v n 0
 ·cases hi with
  | none => rfl
  | some v => exact r0 v n n
theorem qG (i j : Nat) : Builtin.Slice.slicePlaces (i : Int) (j : Int) 1 = j - i := by
 unfold Builtin.Slice.slicePlaces
 have h1 : (1 : Int) > 0 := by omega
 simp only [h1, if_true, Int.ediv_one]
 split <;> omega
theorem kL {v : Value} {o : Option Int} {Q : Option Int -> Shared -> Prop} (p : IsPart v o) (h : Q o s) : wpAny (model prog w) A (Builtin.Slice.slicePartIndex v) Q E s := by
 cases p with
 | none => exact slicePart_none h
 | int i t => exact slicePart_int h
theorem sliceApplied_gen {sl : Addr} {vl vu : Value} {lo hi : Option Int} {n : Nat} {Q : Int × Int × Nat -> Shared -> Prop} (hs : s.heap.IsSliceOf sl vl vu .none) (pl : IsPart vl lo) (pu : IsPart vu hi)
  (h : Q (((sIx n 0 lo : Nat) : Int), 1, sIx n n hi - sIx n 0 lo) s) : wpAny (model prog w) A (Builtin.Slice.sliceApplied (.ref sl) (pure (n : Int))) Q E s := by
 obtain ⟨os, hos, hcs, hds⟩ := id hs
 unfold Builtin.Slice.sliceApplied Builtin.Slice.sliceFields
 refine wpAny_bind (wpAny_bind (wpAny_field hos hds (x := vl) rfl (wpAny_bind (wpAny_field hos hds (x := vu) rfl (wpAny_bind (wpAny_field hos hds (x := .none) rfl (wpAny_pure ?_)))))))
 refine wpAny_bind (slicePart_none ?_)
 show wpAny _ _ (if ((1 : Int) == 0) = true then _ else _) _ _ s
 rw [if_neg (by decide)]
 refine wpAny_bind (kL pl (wpAny_bind (kL pu (wpAny_bind (wpAny_pure ?_)))))
 show wpAny _ _ (match Builtin.Slice.sliceAdjust lo hi 1 (n : Int) with | (lo, hi) => pure (lo, (1 : Int), Builtin.Slice.slicePlaces lo hi 1)) _ _ s
 rw [qF lo hi n]
 show wpAny _ _ (pure (((sIx n 0 lo : Nat) : Int), (1 : Int), Builtin.Slice.slicePlaces ((sIx n 0 lo : Nat) : Int) ((sIx n n hi : Nat) : Int) 1)) _ _ s
 rw [qG]
 exact wpAny_pure h
theorem u0 (xs : Array Value) (i k : Nat) : ((List.range k).filterMap fun (m : Nat) => xs[((i : Int) + (m : Int) * 1).toNat]?).toArray = ((xs.toList.drop i).take k).toArray := by
 have e : (fun (m : Nat) => xs[((i : Int) + (m : Int) * 1).toNat]?) = fun m => xs[i + m]? := by
  funext m
  have : ((i : Int) + (m : Int) * 1).toNat = i + m := by omega
  rw [this]
 rw [e]
 have := pick_run xs i k
 rw [List.filterMap_map] at this
 have e2 : ((fun x => xs[x]?) ∘ fun x => i + x) = fun m => xs[i + m]? := rfl
 rw [e2] at this
 rw [this]
theorem getItem_tuple_cut {t sl : Addr} {items : Array Value} {vl vu : Value} {lo hi : Option Int} {Q : Value -> Shared -> Prop} (ht : IsTup s.heap t items) (hs : s.heap.IsSliceOf sl vl vu .none) (pl : IsPart vl lo) (pu : IsPart vu hi)
  (hw : ¬ (sIx items.size 0 lo = 0 /\ sIx items.size items.size hi = items.size))
  (h : Q (.ref s.heap.objs.size) { s with heap := s.heap.push { cls := .type "tuple", data := .seq ((items.toList.drop (sIx items.size 0 lo)).take (sIx items.size items.size hi - sIx items.size 0 lo)).toArray } })
  (hsz : items.size <= sizeLine) : wpAny (model prog w) A (getItem (.ref t) (.ref sl)) Q E s := by
 have htake : sizeOk (.seq ((items.toList.drop (sIx items.size 0 lo)).take (sIx items.size items.size hi - sIx items.size 0 lo)).toArray) := by
  show ((items.toList.drop (sIx items.size 0 lo)).take (sIx items.size items.size hi - sIx items.size 0 lo)).toArray.size <= sizeLine
  rw [List.size_toArray, List.length_take, List.length_drop, Array.length_toList]
  omega
 have hj : sIx items.size items.size hi <= items.size := zl _ _ (Nat.le_refl _) hi
 obtain ⟨os, hos, hcs, hds⟩ := id hs
 have hTs : s.TypeIs (.ref sl) "slice" := ⟨os, hos, hcs⟩
 unfold getItem
 try with_reducible refine wpAny_holding ?_
 first | refine wpAny_bind (wpAny_pure ?_) | skip
 refine wpAny_bind (wpAny_sequenceKey ht.typeIs (by decide) ?_)
 refine wpAny_bind (wpAny_callSpecial?_slot (name := Str.ofString "__getitem__") ht.typeIs PyProof.Rows.slot_tuple_getitem
  (wpAny_call_entry PyProof.Rows.slot_tuple_getitem ht.typeIs entry_tuple_getitem ?_ (args_tuple_getitem _ _)))
 show wpAny _ _ (Builtin.Tuple.tupleItemsOf (.ref t) >>= _) _ _ s
 refine wpAny_bind (tupleItemsOf_ ht ?_)
 refine wpAny_bind (wpAny_typeOf hTs ?_)
 rw [if_pos (by decide)]
 refine wpAny_bind (sliceApplied_gen hs pl pu ?_)
 have hno : ¬ ((((sIx items.size 0 lo : Nat) : Int) == 0 && (1 : Int) == 1 && (sIx items.size items.size hi - sIx items.size 0 lo) == items.size) = true) := by
  intro q
  rw [Bool.and_eq_true, Bool.and_eq_true] at q
  have q1 : ((sIx items.size 0 lo : Nat) : Int) = 0 := eq_of_beq q.1.1
  have q2 : sIx items.size items.size hi - sIx items.size 0 lo = items.size := eq_of_beq q.2
  exact hw ⟨by omega, by omega⟩
 show wpAny _ _ (if (((sIx items.size 0 lo : Nat) : Int) == 0 && (1 : Int) == 1 && (sIx items.size items.size hi - sIx items.size 0 lo) == items.size) = true then _ else _) _ _ s
 rw [if_neg hno, u0]
 first
  | exact wpAny_bind (m := Builtin.Tuple.tupleExact _) (wpAny_newObj_type (wpAny_pure ⟨_, rfl, wpAny_pure h⟩) htake)
  | exact wpAny_bind (m := Builtin.Tuple.tupleExact _) (wpAny_newObj_type (wpAny_bind (wpAny_pure (wpAny_pure ⟨_, rfl, wpAny_pure h⟩))) htake)
  | exact wpAny_bind (wpAny_bind (m := Builtin.Tuple.tupleExact _) (wpAny_newObj_type (wpAny_pure (wpAny_pure ⟨_, rfl, wpAny_pure h⟩)) htake))
  | exact wpAny_bind (wpAny_bind (m := Builtin.Tuple.tupleExact _) (wpAny_newObj_type (wpAny_pure ⟨_, rfl, wpAny_pure h⟩) htake))
end
end HT
namespace L2
open PySem PySem.Spec PyProof.Rows
abbrev TO := St -> Hp -> (Option Int -> Hp -> Prop) -> Prop
def PO (X : Cx) (e : Option Expr) (t : TO) : Prop :=
 ∀ (pins : List (Addr × Obj)) (s : Shared) (σ : St) (H : Hp) (Q : Option Int -> Hp -> Prop), Inv X pins σ H s -> t σ H Q ->
  wpAny (model X.prog X.w) X.A (evalPart e X.env) (fun u s' => ∃ o H', Inv X pins σ H' s' /\ IsPart u o /\ Q o H') X.xe s
def wZ : TO := fun _ H Q => Q none H
def Ba (t : TE) : TO := fun σ H Q => t σ H fun x H1 => ∃ i, x = .int i /\ Q (some i) H1
theorem intsAre_of {ns : List Int} : ∀ {us : List Value}, aI (ns.map V.int) us -> IntsAre us ns := by
 induction ns with
 | nil => intro us r; rw [List.map_nil] at r; cases r; exact .nil
 | cons n ns ih =>
  intro us r
  rw [List.map_cons] at r
  cases r with
  | cons r1 r2 =>
   obtain ⟨t, e⟩ := r1
   subst e
   exact .cons n t (ih r2)
section
variable {X : Cx} {e : Expr} {te : TE} {lo hi : Option Expr} {tl th : TO} {pos p2 : Pos}
theorem w5 : PO X none wZ := by
 intro pins s σ H Q I h
 rw [evalPart_none]
 exact wpAny_pure ⟨none, H, I, .none, h⟩
theorem w6 (h : PE X e te) : PO X (some e) (Ba te) := by
 intro pins s σ H Q I hw
 rw [evalPart_some]
 refine cB (h pins s σ H _ I hw) fun u s1 ⟨x, H1, I1, r1, q1⟩ => ?_
 obtain ⟨i, rfl, q⟩ := q1
 obtain ⟨t, rfl⟩ := r1
 exact ⟨some i, H1, I1, .int i t, q⟩
def yj (X : Cx) (r : V -> Option Int -> Option Int -> Hp -> VK -> Prop) : Prop :=
 ∀ (pins : List (Addr × Obj)) (s : Shared) (σ : St) (H : Hp) (x : V) (v vl vu : Value) (lo hi : Option Int) (sl : Addr) (Q : VK), Inv X pins σ H s -> RelV x v -> s.heap.IsSliceOf sl vl vu .none -> IsPart vl lo -> IsPart vu hi -> r x lo hi H Q ->
  ∃ T id, typeLookup (.type T) "__getitem__" = pure (some (.builtin id)) /\ s.TypeIs v T /\ wpAny (model X.prog X.w) X.A (getItem v (.ref sl)) (EP X pins σ Q) X.xe s
theorem yj.or {r r' : V -> Option Int -> Option Int -> Hp -> VK -> Prop} (h : yj X r) (h' : yj X r') : yj X (fun x lo hi H Q => r x lo hi H Q \/ r' x lo hi H Q) := by
 intro pins s σ H x v vl vu lo hi sl Q I rx hs pl pu q
 rcases q with q | q
 ·exact h pins s σ H x v vl vu lo hi sl Q I rx hs pl pu q
 ·exact h' pins s σ H x v vl vu lo hi sl Q I rx hs pl pu q
def D3 (r : V -> Option Int -> Option Int -> Hp -> VK -> Prop) (te : TE) (tl th : TO) : TE := fun σ H Q => te σ H fun x H1 => tl σ H1 fun l H2 => th σ H2 fun u H3 => r x l u H3 Q
theorem u6 {r : V -> Option Int -> Option Int -> Hp -> VK -> Prop} (hr : yj X r) (he : PE X e te) (hl : PO X lo tl) (hu : PO X hi th) : PE X (.Subscript e (.Slice lo hi none p2) pos) (D3 r te tl th) := by
 intro pins s σ H Q I h
 refine Subscript_ (cB (he pins s σ H _ I h) fun v s1 ⟨x, H1, I1, r1, q1⟩ => ?_)
 refine wpAny_Slice (cB (hl pins s1 σ H1 _ I1 q1) fun vl s2 ⟨l, H2, I2, pl, q2⟩ => cB (hu pins s2 σ H2 _ I2 q2) fun vu s3 ⟨u, H3, I3, pu, q3⟩ => ?_)
 rw [evalPart_none]
 refine wpAny_pure ?_
 have I4 : Inv X pins σ H3 { s3 with heap := s3.heap.push { cls := .type "slice", data := .fields #[vl, vu, .none] } } := I3.kept (t' := s3.toks) fun b ob q => Heap.get?_push_of_some _ q
 obtain ⟨T, id, hT, ht, hg⟩ := hr pins { s3 with heap := s3.heap.push { cls := .type "slice", data := .fields #[vl, vu, .none] } } σ H3 x v vl vu l u s3.heap.objs.size Q I4 r1 (Heap.IsSliceOf.new ..) pl pu q3
 show wpAny (model X.prog X.w) X.A (subscriptTail e (.Slice lo hi none p2) v (.ref s3.heap.objs.size)) (EP X pins σ Q) X.xe { s3 with heap := s3.heap.push { cls := .type "slice", data := .fields #[vl, vu, .none] } }
 exact tail_any (ops := [.ref s3.heap.objs.size, v]) ht hT hg (by with_unfolding_all rfl)
def lU (xs : List V) (lo hi : Option Int) : List V := (xs.drop (HT.sIx xs.length 0 lo)).take (HT.sIx xs.length xs.length hi - HT.sIx xs.length 0 lo)
theorem j8 (xs : List V) (lo hi : Option Int) : (lU xs lo hi).length <= xs.length := by
 unfold lU
 rw [List.length_take, List.length_drop]
 omega
def CH (K : PySem.W.Frag) : V -> Option Int -> Option Int -> Hp -> VK -> Prop := fun x lo hi H Q => ∃ a xs, x = .ref a /\ hV K H a xs /\
 ¬ (HT.sIx xs.length 0 lo = 0 /\ HT.sIx xs.length xs.length hi = xs.length) /\ ∀ p, H p = none -> Q (.ref p) (upd H p (.tup (lU xs lo hi)))
theorem zm : yj X (CH X.K) := by
 intro pins s σ H x v vl vu lo hi sl Q I rx hs pl pu h
 obtain ⟨a, xs, rfl, hx, hw, q⟩ := h
 cases rx
 obtain ⟨its, r, ht, hz⟩ := I.tuple hx
 have hlen : its.toArray.size = xs.length := by rw [List.size_toArray]; exact r.length.symm
 refine ⟨"tuple", _, PyProof.Rows.slot_tuple_getitem.lookup, ht.typeIs, ?_⟩
 refine HT.getItem_tuple_cut ht hs pl pu (by rw [hlen]; exact hw) ?_ (by rw [hlen]; exact hz)
 rw [hlen]
 refine ⟨.ref s.heap.objs.size, _, I.laid (t' := s.toks) (o := .tup (lU xs lo hi)) (fun b ob q => Heap.get?_push_of_some _ q) (Nat.le_refl _) ?_, rfl, q _ (I.hok.fresh (Nat.le_refl _))⟩
 exact ⟨Nat.le_trans (j8 xs lo hi) hz, _, (r.drop (HT.sIx xs.length 0 lo)).take (HT.sIx xs.length xs.length hi - HT.sIx xs.length 0 lo), IsTup.new _ _⟩
def Bb (K : PySem.W.Frag) : R2 := fun x y H Q => ∃ a b ns ms, x = .ref a /\ y = .ref b /\ hV K H a (ns.map V.int) /\ hV K H b (ms.map V.int) /\ Q (.bl (HT.lexLt ns ms)) H
theorem qH (hu : X.A.units < cLine) : gf X (compareOp .Lt) (Bb X.K) := by
 intro pins s σ H x y v u Q I rx ry h
 obtain ⟨a, b, ns, ms, rfl, rfl, ha, hb, q⟩ := h
 cases rx
 cases ry
 obtain ⟨its, r1, p1, _⟩ := I.tuple ha
 obtain ⟨its2, r2, p2, _⟩ := I.tuple hb
 have i1 : IntsAre its.toArray.toList ns := intsAre_of r1
 have i2 : IntsAre its2.toArray.toList ms := intsAre_of r2
 exact HT.lt_tupInts p1 p2 i1 i2 hu ⟨.bl (HT.lexLt ns ms), H, I, rfl, q⟩
def Bc (K : PySem.W.Frag) : R2 := fun x y H Q => ∃ a b xs ys, x = .ref a /\ y = .ref b /\ hV K H a xs /\ hV K H b ys /\ xs ≠ [] /\ xs.length + ys.length <= sizeLine /\
 (ys = [] -> Q (.ref a) H) /\ (ys ≠ [] -> ∀ p, H p = none -> Q (.ref p) (upd H p (.tup (xs ++ ys))))
theorem aI.nil_iff {xs : List V} {us : List Value} (r : aI xs us) : us = [] ↔ xs = [] := by
 cases r with
 | nil => simp
 | cons _ _ => simp
theorem w8 : gf X (binaryOp .Add) (Bc X.K) := by
 intro pins s σ H x y v u Q I rx ry h
 obtain ⟨a, b, xs, ys, rfl, rfl, ha, hb, hx, hz, q1, q2⟩ := h
 cases rx
 cases ry
 obtain ⟨its, r1, p1, _⟩ := I.tuple ha
 obtain ⟨its2, r2, p2, _⟩ := I.tuple hb
 refine HT.cat_tup p1 p2 (fun z => hx (r1.nil_iff.mp z)) (fun z => ⟨.ref a, H, I, rfl, q1 (r2.nil_iff.mp z)⟩) (fun z => ?_) (by rw [<- r1.length, <- r2.length]; exact hz)
 refine ⟨.ref s.heap.objs.size, _, I.laid (t' := s.toks) (o := .tup (xs ++ ys)) (fun b ob q => Heap.get?_push_of_some _ q) (Nat.le_refl _) ?_, rfl, q2 (fun w => z (r2.nil_iff.mpr w)) _ (I.hok.fresh (Nat.le_refl _))⟩
 exact ⟨by rw [List.length_append]; exact hz, _, r1.append r2, IsTup.new _ _⟩
end
end L2
namespace L2
open PySem PySem.Spec PyProof.Rows
def qI (n : Nat) (i : Int) : Option Nat := if 0 <= i then (if i < n then some i.toNat else none) else if -(n : Int) <= i then some (i + n).toNat else none
def gh {α : Type} (xs : List α) (i : Int) : Option α := (qI xs.length i).bind fun j => xs[j]?
theorem sd {n : Nat} {i : Int} {j : Nat} (h : qI n i = some j) : seqIndex? i n = some j /\ j < n /\ -(n : Int) <= i /\ i < n := by
 unfold qI at h
 by_cases h0 : 0 <= i
 ·rw [if_pos h0] at h
  by_cases h1 : i < n
  ·rw [if_pos h1] at h
   have e : i.toNat = j := Option.some.inj h
   exact ⟨by rw [seqIndex_of h0 h1, e], by omega, by omega, h1⟩
  ·rw [if_neg h1] at h; cases h
 ·rw [if_neg h0] at h
  by_cases h1 : -(n : Int) <= i
  ·rw [if_pos h1] at h
   have e : (i + n).toNat = j := Option.some.inj h
   exact ⟨by rw [seqIndex_neg (by omega) h1, e], by omega, h1, by omega⟩
  ·rw [if_neg h1] at h; cases h
theorem nq {α : Type} {xs : List α} {i : Int} {v : α} (h : gh xs i = some v) : ∃ j, seqIndex? i xs.length = some j /\ xs[j]? = some v /\ j < xs.length /\ -(xs.length : Int) <= i /\ i < xs.length := by
 unfold gh at h
 cases e : qI xs.length i with
 | none => rw [e] at h; cases h
 | some j =>
  rw [e] at h
  obtain ⟨h1, h2, h3, h4⟩ := sd e
  exact ⟨j, h1, h, h2, h3, h4⟩
def nu (b : Expr) : Prop := ∀ o i, subscripted b false o i = operate [o, i] (getItem o i)
def wK (X : Cx) (r : R2) : Prop :=
 ∀ (value slice : Expr) (pins : List (Addr × Obj)) (s : Shared) (σ : St) (H : Hp) (x y : V) (v u : Value) (Q : VK), Inv X pins σ H s -> RelV x v -> RelV y u -> r x y H Q ->
  subscripted slice false v u = operate [v, u] (getItem v u) -> wpAny (model X.prog X.w) X.A (subscriptTail value slice v u) (EP X pins σ Q) X.xe s
def zn (X : Cx) (id : String) (r : V -> List V -> Hp -> VK -> Prop) : Prop :=
 ∀ (pins : List (Addr × Obj)) (s : Shared) (σ : St) (H : Hp) (x : V) (xs : List V) (v : Value) (us : List Value) (Q : VK), Inv X pins σ H s -> RelV x v -> aI xs us -> r x xs H Q ->
  wpAny (model X.prog X.w) X.A (call (.builtin id) (v :: us)) (EP X pins σ Q) X.xe s
section
variable {X : Cx} {a b : Expr} {ta tb : TE} {pos : Pos}
theorem wK.or {r r' : R2} (h : wK X r) (h' : wK X r') : wK X (fun x y H Q => r x y H Q \/ r' x y H Q) := by
 intro value slice pins s σ H x y v u Q I rx ry q hs
 rcases q with q | q
 ·exact h value slice pins s σ H x y v u Q I rx ry q hs
 ·exact h' value slice pins s σ H x y v u Q I rx ry q hs
theorem zn.or {id : String} {r r' : V -> List V -> Hp -> VK -> Prop} (h : zn X id r) (h' : zn X id r') : zn X id (fun x xs H Q => r x xs H Q \/ r' x xs H Q) := by
 intro pins s σ H x xs v us Q I rx rs q
 rcases q with q | q
 ·exact h pins s σ H x xs v us Q I rx rs q
 ·exact h' pins s σ H x xs v us Q I rx rs q
theorem Bd {r : R2} (hr : wK X r) (ha : PE X a ta) (hb : PE X b tb) (hs : nu b) : PE X (.Subscript a b pos) (AZ r ta tb) := by
 intro pins s σ H Q I h
 exact Subscript_ (y3 ha hb I h fun v u s2 x y H2 I2 rx ry q => hr a b pins s2 σ H2 x y v u Q I2 rx ry q (hs _ _))
def Be (K : PySem.W.Frag) : R2 := fun x y H Q => ∃ p xs i v, x = .ref p /\ y = .int i /\ fE K H p xs /\ gh xs i = some v /\ Q v H
def Bf (K : PySem.W.Frag) : R2 := fun x y H Q => ∃ p xs i v, x = .ref p /\ y = .int i /\ hV K H p xs /\ gh xs i = some v /\ Q v H
def Bg : R2 := fun x y H Q => ∃ z i c, x = .str z /\ y = .int i /\ z.length <= sizeLine /\ gh z.cps.toList i = some c /\ Q (.str ⟨#[c]⟩) H
theorem xa : wK X (Be X.K) := by
 intro value slice pins s σ H x y v u Q I rx ry h hs
 obtain ⟨p, xs, i, z, rfl, rfl, hq, he, q⟩ := h
 cases rx
 obtain ⟨t, rfl⟩ := ry
 obtain ⟨its, r, pl, hz⟩ := I.list hq
 obtain ⟨j, h1, h2, h3, h4, h5⟩ := nq he
 obtain ⟨w, ew, rw'⟩ := r.get h2
 have hl := r.length
 have hn := kH
 have fin : EP X pins σ Q w s := ⟨z, H, I, rw', q⟩
 by_cases h0 : 0 <= i
 ·have hj : i.toNat = j := by
   rw [seqIndex_of h0 h5] at h1
   exact Option.some.inj h1
  exact item_listR pl.isList h0 (by omega) (by rw [hj]; simpa using ew) fin hs
 ·have hj : (i + (its.toArray.size : Int)).toNat = j := by
   rw [seqIndex_neg (by omega) h4] at h1
   rw [List.size_toArray, <- hl]
   exact Option.some.inj h1
  exact subscriptTail_builtinR (x := w) pl.isList.typeIs slot_list_getitem.lookup
   (wpAny_getItem_list_neg (Q := fun r s' => r = w /\ EP X pins σ Q r s') pl.isList (by omega) (by rw [List.size_toArray] <;> omega) (by omega) (by rw [hj]; simpa using ew) ⟨rfl, fin⟩) hs
theorem zo : wK X (Bf X.K) := by
 intro value slice pins s σ H x y v u Q I rx ry h hs
 obtain ⟨p, xs, i, z, rfl, rfl, hq, he, q⟩ := h
 cases rx
 obtain ⟨t, rfl⟩ := ry
 obtain ⟨its, r, pl, hz⟩ := I.tuple hq
 obtain ⟨j, h1, h2, h3, h4, h5⟩ := nq he
 obtain ⟨w, ew, rw'⟩ := r.get h2
 have hl := r.length
 have hn := kH
 have fin : EP X pins σ Q w s := ⟨z, H, I, rw', q⟩
 exact subscriptTail_builtinR (x := w) pl.typeIs slot_tuple_getitem.lookup
  (getItem_tuple (j := j) (Q := fun r s' => r = w /\ EP X pins σ Q r s') pl (by omega) (by omega) (by rw [List.size_toArray, <- hl]; exact h1) (by simpa using ew) ⟨rfl, fin⟩) hs
theorem zp : wK X Bg := by
 intro value slice pins s σ H x y v u Q I rx ry h hs
 obtain ⟨z, i, c, rfl, rfl, hz, he, q⟩ := h
 obtain ⟨t, rfl⟩ := rx
 obtain ⟨t', rfl⟩ := ry
 obtain ⟨j, h1, h2, h3, h4, h5⟩ := nq he
 have hl : z.cps.toList.length = z.length := by simp [Str.length]
 rw [hl] at h1 h4 h5
 have hn := kH
 exact tail_any (typeIs_str s z t) slot_str_getitem.lookup (getItem_str (c := c) (by
  have e1 : decide (i < -(2 ^ 63 : Int)) = false := decide_eq_false (by omega)
  have e2 : decide (i ≥ 2 ^ 63) = false := decide_eq_false (by omega)
  rw [e1, e2, Bool.or_false]) (by rw [h1]; simpa using h2) ⟨.str ⟨#[c]⟩, H, I.tok _, ⟨_, rfl⟩, q⟩) hs
def Dq (K : PySem.W.Frag) : R2 := fun x y H Q => Be K x y H Q \/ Bf K x y H Q \/ Bg x y H Q
theorem zq : wK X (Dq X.K) := xa.or (zo.or zp)
theorem qJ (its : List Value) (n j : Nat) (u : Value) : Obj.mapSeq (·.setIfInBounds j u) { cls := .type "list", data := .seq its.toArray n } = { cls := .type "list", data := .seq (its.set j u).toArray n } := by
 simp [Obj.mapSeq]
theorem Inv.lst {pins : List (Addr × Obj)} {σ : St} {H : Hp} {s : Shared} {p : Addr} {xs : List V} (I : Inv X pins σ H s) (h : H p = some (.lst xs)) :
  ∃ (its : List Value) (n : Nat), aI xs its /\ s.heap.get? p = some { cls := .type "list", data := .seq its.toArray n } /\ xs.length <= sizeLine := by
 obtain ⟨z, its, n, r, e⟩ := I.hok p _ h
 exact ⟨its, n, r, e, z⟩
theorem Inv.lstUpd {pins : List (Addr × Obj)} {σ : St} {H : Hp} {s : Shared} {p : Addr} {xs ys : List V} {its its' : List Value} {n n' : Nat} {f : Obj -> Obj} (I : Inv X pins σ H s) (h : H p = some (.lst xs))
  (ho : s.heap.get? p = some { cls := .type "list", data := .seq its.toArray n }) (hf : f { cls := .type "list", data := .seq its.toArray n } = { cls := .type "list", data := .seq its'.toArray n' }) (r : aI ys its') (hz : ys.length <= sizeLine) (t : Nat) :
  Inv X pins σ (upd H p (.lst ys)) { s with heap := s.heap.update p f, toks := t } := by
 have e : (s.heap.update p f).get? p = some { cls := .type "list", data := .seq its'.toArray n' } := by
  rw [Heap.get?_update_self f ho (by rw [hf] <;> rfl), hf]
 refine I.write (x := p) (e := p) (by rw [h]; trivial) (.inl rfl) (fun b u hb q => (Heap.get?_update_other _ _ (Ne.symm hb)).trans q) ⟨_, e⟩ ?_
 exact ⟨hz, its', n', r, e⟩
def yk : V -> V -> V -> Hp -> (Hp -> Prop) -> Prop := fun o i v H Q => ∃ p xs k j, o = .ref p /\ i = .int k /\ H p = some (.lst xs) /\ qI xs.length k = some j /\ Q (upd H p (.lst (xs.set j v)))
theorem set_list : AT X yk := by
 intro pins s σ H o i v ov iv u Q I ro ri rv h
 obtain ⟨p, xs, k, j, rfl, rfl, hp, hj, q⟩ := h
 cases ro
 obtain ⟨t, rfl⟩ := ri
 obtain ⟨its, n, r, ho, hz⟩ := I.lst hp
 obtain ⟨h1, h2, h3, h4⟩ := sd hj
 have hl := r.length
 have hn := kH
 have I' : Inv X pins σ (upd H p (.lst (xs.set j v))) { s with heap := s.heap.update p (Obj.mapSeq (·.setIfInBounds j u)) } :=
  I.lstUpd hp ho (qJ its n j u) (r.set rv j) (by rw [List.length_set]; exact hz) s.toks
 by_cases h0 : 0 <= k
 ·have hk : k.toNat = j := by
   rw [seqIndex_of h0 h4] at h1
   exact Option.some.inj h1
  exact PySem.W.ki_setAt ho h0 (by omega) (by rw [List.size_toArray, <- hl]; exact h4) (by rw [hk]; exact ⟨_, I', q⟩)
 ·have hk : (k + (its.toArray.size : Int)).toNat = j := by
   rw [seqIndex_neg (by omega) h3] at h1
   rw [List.size_toArray, <- hl]
   exact Option.some.inj h1
  exact PySem.W.ki_setBack ho (by omega) (by rw [List.size_toArray, <- hl]; exact h3) (by omega) (by rw [hk]; exact ⟨_, I', q⟩)
theorem nv (lo hi : Option Int) (n : Nat) : (sliceBounds lo hi none n).1 = ((HT.sIx n 0 lo : Nat) : Int) /\ (sliceBounds lo hi none n).2.1 = ((HT.sIx n n hi : Nat) : Int) /\ (sliceBounds lo hi none n).2.2 = 1 := by
 refine ⟨?_, ?_, rfl⟩
 ·cases lo with
  | none => simp [sliceBounds, HT.sIx]
  | some i =>
   simp only [sliceBounds, HT.sIx, Option.getD_none, show (1 : Int) > 0 by decide, if_true]
   by_cases h : i < 0
   ·simp only [h, if_true] <;> omega
   ·simp only [h, if_false] <;> omega
 ·cases hi with
  | none => simp [sliceBounds, HT.sIx]
  | some i =>
   simp only [sliceBounds, HT.sIx, Option.getD_none, show (1 : Int) > 0 by decide, if_true]
   by_cases h : i < 0
   ·simp only [h, if_true] <;> omega
   ·simp only [h, if_false] <;> omega
theorem lV (its : List Value) (lo hi : Option Int) : slicePick its.toArray lo hi none = ((its.drop (HT.sIx its.length 0 lo)).take (HT.sIx its.length its.length hi - HT.sIx its.length 0 lo)).toArray := by
 obtain ⟨h1, h2, h3⟩ := nv lo hi its.toArray.size
 unfold slicePick
 rw [h1, h2, h3]
 simp only [sliceRange_one, pick_run, List.size_toArray] <;> rfl
def CI (K : PySem.W.Frag) : V -> Option Int -> Option Int -> Hp -> VK -> Prop := fun x lo hi H Q => ∃ a xs, x = .ref a /\ fE K H a xs /\ ∀ p, H p = none -> Q (.ref p) (upd H p (.lst (lU xs lo hi)))
theorem xb : yj X (CI X.K) := by
 intro pins s σ H x v vl vu lo hi sl Q I rx hs pl pu h
 obtain ⟨a, xs, rfl, hx, q⟩ := h
 cases rx
 obtain ⟨its, r, ht, hz⟩ := I.list hx
 have hlen := r.length
 refine ⟨"list", _, slot_list_getitem.lookup, ht.isList.typeIs, ?_⟩
 refine wpAny_getItem_list_slice ht.isList hs pl pu .none (by simp) ?_ (by rw [List.size_toArray] <;> omega)
 rw [lV, <- hlen]
 refine ⟨.ref s.heap.objs.size, _, I.laid (t' := s.toks) (o := .lst (lU xs lo hi)) (fun b ob q => Heap.get?_push_of_some _ q) (Nat.le_refl _) ?_, rfl, q _ (I.hok.fresh (Nat.le_refl _))⟩
 exact ⟨Nat.le_trans (j8 xs lo hi) hz, _, 0, (r.drop (HT.sIx xs.length 0 lo)).take (HT.sIx xs.length xs.length hi - HT.sIx xs.length 0 lo), Heap.get?_push_size _ rfl⟩
def ym : V -> Bool
 | .non => true
 | .bl _ => true
 | .int _ => true
 | .str _ => true
 | _ => false
def Bh : V -> V -> Bool
 | .non, .non => true
 | .bl a, .bl b => a == b
 | .bl a, .int b => (if a then 1 else 0) == b
 | .int a, .bl b => a == (if b then 1 else 0)
 | .int a, .int b => a == b
 | .str a, .str b => a == b
 | _, _ => false
def Ez (x : V) (u : Value) : Bool := match u with
 | .none => Bh .non x
 | .bool b => Bh (.bl b) x
 | .int i _ => Bh (.int i) x
 | .str z _ => Bh (.str z) x
 | _ => false
def Dr (x : V) (xs : List V) : Bool := xs.any fun y => Bh y x
def EB (K : PySem.W.Frag) (neg : Bool) : R2 := fun x y H Q => ∃ p xs, y = .ref p /\ (fE K H p xs \/ hV K H p xs) /\ ym x = true /\ xs.all ym = true /\ Q (.bl (if neg then !Dr x xs else Dr x xs)) H
theorem nw : bD X (.builtin "len") (fun xs H Q => ∃ p ys, xs = [.ref p] /\ (fE X.K H p ys \/ hV X.K H p ys) /\ Q (.int ys.length) H) := by
 intro pins s σ H xs us Q I r h
 obtain ⟨p, ys, rfl, hq, q⟩ := h
 obtain ⟨u, rfl, rx⟩ := vals1 r
 cases rx
 have hn := kH
 rcases hq with hq | hq
 ·obtain ⟨its, r', pl, hz⟩ := I.list hq
  have hlen := r'.length
  exact Calls.call_len_list pl.isList (by simp only [List.size_toArray] <;> omega) ⟨.int ys.length, H, I.tok _, ⟨s.toks + 1, by rw [List.size_toArray, hlen]⟩, q⟩
 ·obtain ⟨its, r', pl, hz⟩ := I.tuple hq
  have hlen := r'.length
  exact len_tuple pl (by simp only [List.size_toArray] <;> omega) ⟨.int ys.length, H, I.tok _, ⟨s.toks + 1, by rw [List.size_toArray, hlen]⟩, q⟩
theorem bD.or {f : Value} {r r' : List V -> Hp -> VK -> Prop} (h : bD X f r) (h' : bD X f r') : bD X f (fun xs H Q => r xs H Q \/ r' xs H Q) := by
 intro pins s σ H xs us Q I rs q
 rcases q with q | q
 ·exact h pins s σ H xs us Q I rs q
 ·exact h' pins s σ H xs us Q I rs q
theorem ny : bD X (.type "list") (fun xs H Q => ∃ p ys, xs = [.ref p] /\ (fE X.K H p ys \/ hV X.K H p ys) /\ ∀ l, H l = none -> Q (.ref l) (upd H l (.lst ys))) := by
 intro pins s σ H xs us Q I r h
 obtain ⟨p, ys, rfl, hq, q⟩ := h
 obtain ⟨u, rfl, rx⟩ := vals1 r
 cases rx
 have fin : ∀ (its : List Value), aI ys its -> ys.length <= sizeLine -> ∀ (h' : Heap) (c' : Nat), (∀ b o', s.heap.get? b = some o' -> h'.get? b = some o') ->
   h'.get? s.heap.objs.size = some { cls := .type "list", dict := none, data := .seq its.toArray c', slots := #[] } -> EP X pins σ Q (.ref s.heap.objs.size) { s with heap := h' } := fun its r' hz h' c' kp e =>
  ⟨.ref s.heap.objs.size, _, I.laid (t' := s.toks) kp (Nat.le_refl _) (show aW X.prog X.w _ h' _ (.lst ys) from ⟨hz, its, c', r', e⟩), rfl, q _ (I.hok.fresh (Nat.le_refl _))⟩
 rcases hq with hq | hq
 ·obtain ⟨its, r', pl, hz⟩ := I.list hq
  have hlen := r'.length
  obtain ⟨o, ho, hc, n, hd⟩ := pl.isList
  exact call_list_seq p (.inl rfl) ho hc hd (fun h' c' kp e => fin its r' hz h' c' kp e) (by simp only [List.size_toArray] <;> omega)
 ·obtain ⟨its, r', pl, hz⟩ := I.tuple hq
  have hlen := r'.length
  obtain ⟨o, ho, hc, n, hd⟩ := pl
  exact call_list_seq p (.inr rfl) ho hc hd (fun h' c' kp e => fin its r' hz h' c' kp e) (by simp only [List.size_toArray] <;> omega)
theorem lW : bD X (.type "tuple") (fun xs H Q => ∃ p ys, xs = [.ref p] /\ ((fE X.K H p ys /\ ∀ l, H l = none -> Q (.ref l) (upd H l (.tup ys))) \/ (hV X.K H p ys /\ Q (.ref p) H))) := by
 intro pins s σ H xs us Q I r h
 obtain ⟨p, ys, rfl, h⟩ := h
 obtain ⟨u, rfl, rx⟩ := vals1 r
 cases rx
 rcases h with ⟨hq, q⟩ | ⟨hq, q⟩
 ·obtain ⟨its, r', pl, hz⟩ := I.list hq
  have hlen := r'.length
  refine call_tuple_list pl.isList (fun h' kp => ?_) (by simp only [List.size_toArray] <;> omega)
  have I1 : Inv X pins σ H { s with heap := h' } := I.kept (t' := s.toks) kp
  have I2 : Inv X pins σ (upd H h'.objs.size (.tup ys)) { s with heap := h'.push { cls := .type "tuple", data := .seq its.toArray } } :=
   I1.laid (t' := s.toks) (fun b o e => Heap.get?_push_of_some _ e) (Nat.le_refl _) (show aW X.prog X.w _ _ _ (.tup ys) from ⟨hz, its, r', IsTup.new _ _⟩)
  exact ⟨.ref h'.objs.size, _, I2, rfl, q _ (I1.hok.fresh (Nat.le_refl _))⟩
 ·obtain ⟨its, r', pl, hz⟩ := I.tuple hq
  exact call_tuple_same pl ⟨.ref p, H, I, rfl, q⟩
def B1 (K : PySem.W.Frag) (T : String) (x : V) (H : Hp) : Prop := match x with
 | .str _ => T = "str"
 | .int _ => T = "int"
 | .ref p => (T = "list" /\ ∃ xs, fE K H p xs) \/ (T = "tuple" /\ ∃ o, K.lookup p = some o /\ o.cls = .type "tuple" /\ o.dict = none) \/
   (T = "dict" /\ ((∃ kvs, H p = some (.dK kvs)) \/ ∃ kvs, H p = some (.dT kvs))) \/ (T = "set" /\ ∃ S n, H p = some (.set S n))
 | _ => False
theorem zr {pins : List (Addr × Obj)} {σ : St} {H : Hp} {s : Shared} {T : String} {x : V} {v : Value} (I : Inv X pins σ H s) (r : RelV x v) (ty : B1 X.K T x H) :
  s.TypeIs v T /\ ∀ a, v = .ref a -> ∃ ob, s.heap.get? a = some ob /\ ob.dict = none := by
 cases x with
 | str z =>
  obtain ⟨t, rfl⟩ := r
  cases (show T = "str" from ty)
  exact ⟨typeIs_str s z t, fun _ e => nomatch e⟩
 | int i =>
  obtain ⟨t, rfl⟩ := r
  cases (show T = "int" from ty)
  exact ⟨typeIs_int s i t, fun _ e => nomatch e⟩
 | ref p =>
  cases r
  rcases ty with ⟨rfl, xs, hq⟩ | ⟨rfl, o, hk, hc, hd⟩ | ⟨rfl, hk⟩ | ⟨rfl, S, n, hk⟩
  ·obtain ⟨its, _, pl, _⟩ := I.list hq
   refine ⟨pl.isList.typeIs, fun a e => ?_⟩
   cases e
   obtain ⟨o, n, e, c, hd, _⟩ := pl
   exact ⟨o, e, hd⟩
  ·refine ⟨⟨o, I.kIn p o hk, hc⟩, fun a e => ?_⟩
   cases e
   exact ⟨o, I.kIn _ o hk, hd⟩
  ·have z : ∃ o, s.heap.get? p = some o /\ o.ExactDict := by
    rcases hk with ⟨kvs, hk⟩ | ⟨kvs, hk⟩
    ·obtain ⟨_, _, _, _, o, _, _, e, ex, _⟩ := I.hok p _ hk
     exact ⟨o, e, ex⟩
    ·obtain ⟨_, _, _, _, o, _, _, e, ex, _⟩ := I.hok p _ hk
     exact ⟨o, e, ex⟩
   obtain ⟨o, e, ex⟩ := z
   refine ⟨⟨o, e, ex.1⟩, fun a e2 => ?_⟩
   cases e2
   exact ⟨o, e, ex.2.1⟩
  ·obtain ⟨o, _, _, _, e, ex, _⟩ := I.hok p _ hk
   refine ⟨⟨o, e, ex.1⟩, fun a e2 => ?_⟩
   cases e2
   exact ⟨o, e, ex.2.1⟩
 | _ => exact False.elim ty
def D4 (K : PySem.W.Frag) (T : String) (r : V -> List V -> Hp -> VK -> Prop) (to : TE) : TE := fun σ H Q => to σ H fun x H1 => B1 K T x H1 /\ r x [] H1 Q
def D5 (K : PySem.W.Frag) (T : String) (r : V -> List V -> Hp -> VK -> Prop) (to : TE) (t : TA) : TE := fun σ H Q => to σ H fun x H1 => B1 K T x H1 /\ t σ H1 fun xs H2 => r x xs H2 Q
variable {o e : Expr} {es : List Expr} {to : TE} {t : TA} {name : Str} {apos cpos : Pos} {T id : String} {r : V -> List V -> Hp -> VK -> Prop}
theorem Bi (pa : PlainAttrs T) (slot : Slot T name id) (hty : typeOf (.builtin id) = pure (.type "method_descriptor")) (hm : zn X id r) (ho : PE X o to) (ha : PA X (e :: es) t)
  (hbase : attributeBase o name X.env (eval o X.env) = eval o X.env := by rfl)
  (hfew : ((backTo cpos (starEach (e :: es) X.env)).all (fun x => !x.1) && (backToKw cpos (keywordEach [] X.env)).all (fun x => x.1.isSome)
   && decide ((e :: es).length + ([] : List Keyword).length + (if ([] : List Keyword).isEmpty then 0 else 1) < 30)) = true := by rfl)
  (hline : (apos.endLine == cpos.line) = true := by rfl) (hs : starEach (e :: es) X.env = (false, eval e X.env) :: starEach es X.env := by rfl) (hplain : (backTo cpos (starEach es X.env)).any (·.1) = false := by rfl) :
  PE X (.Call (.Attribute o name apos) (e :: es) [] cpos) (D5 X.K T r to t) := by
 intro pins s σ H Q I h
 refine wpAny_Call_method_late hbase hfew hline rfl (cB (ho pins s σ H _ I h) fun v s1 ⟨x, H1, I1, r1, ty, q1⟩ => ?_)
 obtain ⟨h1, h2⟩ := zr I1 r1 ty
 refine ⟨T, id, pa, slot, hty, h1, h2, ?_⟩
 have hA := ha cpos pins s1 σ H1 _ I1 q1
 rw [hs] at hA ⊢
 refine Calls.callWith_builtin (by show (false || (backTo cpos (starEach es X.env)).any (·.1)) = false; rw [hplain] <;> rfl) (Calls.evalArgs_plain ?_)
 exact cB hA fun us s2 ⟨vs, H2, I2, r2, q2⟩ => hm pins s2 σ H2 x vs v us Q I2 r1 r2 q2
/- xs.append(e), list.index on a module's tuple .. are zn facts of 06m -/
end
end L2
namespace L2
open PySem PySem.Spec PyProof.Rows
def CJ (X : Cx) (id : String) (r : V -> List V -> Hp -> VK -> Prop) : Prop :=
 ∀ (pins : List (Addr × Obj)) (s : Shared) (σ : St) (H : Hp) (x : V) (xs : List V) (v : Value) (us : List Value) (Q : VK), Inv X pins σ H s -> RelV x v -> aI xs us -> r x xs H Q ->
  wpAny (model X.prog X.w) X.A (call (.builtin id) (v :: us)) (EP X pins σ Q) X.xe s
theorem aI.one : ∀ {x : V} {us : List Value}, aI [x] us -> ∃ u, us = [u] /\ RelV x u
 | _, _, .cons r .nil => ⟨_, rfl, r⟩
theorem aI.two : ∀ {x y : V} {us : List Value}, aI [x, y] us -> ∃ u v, us = [u, v] /\ RelV x u /\ RelV y v
 | _, _, _, .cons r (.cons q .nil) => ⟨_, _, rfl, r, q⟩
theorem aI.zero : ∀ {us : List Value}, aI [] us -> us = []
 | _, .nil => rfl
theorem aI.dropLast {xs : List V} {us : List Value} (h : aI xs us) : aI xs.dropLast us.dropLast := by
 induction h with
 | nil => exact .nil
 | cons r t ih =>
  cases t with
  | nil => exact .nil
  | cons q t' => exact .cons r ih
theorem aI.eraseIdx : ∀ {xs : List V} {us : List Value} (i : Nat), aI xs us -> aI (xs.eraseIdx i) (us.eraseIdx i)
 | _, _, _, .nil => .nil
 | _, _, 0, .cons _ t => t
 | _, _, i + 1, .cons r t => .cons r (aI.eraseIdx i t)
theorem aI.reverse {xs : List V} {us : List Value} (h : aI xs us) : aI xs.reverse us.reverse := by
 induction h with
 | nil => exact .nil
 | cons r t ih => rw [List.reverse_cons, List.reverse_cons]; exact aI.append ih (.cons r .nil)
theorem aI.rep {xs : List V} {us : List Value} (h : aI xs us) : ∀ k : Nat, aI (List.replicate k xs).flatten (List.replicate k us).flatten
 | 0 => .nil
 | k + 1 => by
  rw [List.replicate_succ, List.replicate_succ, List.flatten_cons, List.flatten_cons]
  exact aI.append h (aI.rep h k)
theorem mF {α : Type} : ∀ (l : List α) (i : Nat), (l.eraseIdx i).length <= l.length
 | [], _ => Nat.le_refl _
 | _ :: _, 0 => Nat.le_succ _
 | _ :: r, i + 1 => Nat.succ_le_succ (mF r i)
section
variable {X : Cx} {pins : List (Addr × Obj)} {σ : St} {H : Hp} {s : Shared} {l b : Addr} {xs ys zs : List V}
theorem Inv.lset {its its' : List Value} {n : Nat} {f : Array Value -> Array Value} {t' : Nat} (I : Inv X pins σ H s) (hH : H l = some (.lst xs))
  (e : s.heap.get? l = some { cls := .type "list", data := .seq its.toArray n }) (hf : f its.toArray = its'.toArray) (hv : aI ys its') (hz : ys.length <= sizeLine) :
  Inv X pins σ (upd H l (.lst ys)) { s with heap := s.heap.update l (Obj.mapSeq f), toks := t' } := by
 have q := PySem.IsL.update e f
 rw [hf] at q
 refine I.write (x := l) (e := l) (by rw [hH]; exact trivial) (.inl rfl) (fun b' u hb hu => (Heap.get?_update_other s.heap (Obj.mapSeq f) (Ne.symm hb)).trans hu) ⟨_, q⟩ ?_
 exact ⟨hz, its', _, hv, q⟩
theorem Inv.lnew {its : List Value} {t' : Nat} (I : Inv X pins σ H s) (hv : aI ys its) (hz : ys.length <= sizeLine) :
  Inv X pins σ (upd H s.heap.objs.size (.lst ys)) { s with heap := s.heap.push { cls := .type "list", data := .seq its.toArray }, toks := t' } :=
 I.laid (fun _ _ q => Heap.get?_push_of_some _ q) (Nat.le_refl _) ⟨hz, its, 0, hv, Heap.get?_push_size _ rfl⟩
theorem Inv.fresh (I : Inv X pins σ H s) : H s.heap.objs.size = none := I.hok.fresh (Nat.le_refl _)
theorem Inv.lstM (I : Inv X pins σ H s) (hH : H l = some (.lst xs)) : xs.length <= sizeLine /\ ∃ (its : List Value) (n : Nat), aI xs its /\ xs.length = its.length /\ s.heap.get? l = some { cls := .type "list", data := .seq its.toArray n } := by
 obtain ⟨z, its, n, r, e⟩ := I.hok l _ hH
 exact ⟨z, its, n, r, r.length, e⟩
theorem u7 {n : Nat} (h : n <= sizeLine) : Builtin.List.listTooLong n = false := by
 unfold Builtin.List.listTooLong
 exact decide_eq_false (by omega)
end
section
variable {X : Cx}
def se : V -> List V -> Hp -> VK -> Prop := fun x vs H Q => ∃ l xs y, x = .ref l /\ vs = [y] /\ H l = some (.lst xs) /\ xs.length < sizeLine /\ Q .non (upd H l (.lst (xs ++ [y])))
theorem mG : CJ X "list.append" se := by
 intro pins s σ H x vs v us Q I rx rv h
 obtain ⟨l, xs, y, rfl, rfl, hH, hz, q⟩ := h
 cases rx
 obtain ⟨u, rfl, ru⟩ := rv.one
 obtain ⟨z, its, n, r, hl, e⟩ := I.lstM hH
 refine call_meets F.slot_list_append ⟨_, e, rfl⟩ F.entry_list_append (F.args_list_append_2 _ _) (PySem.list_append l its.toArray n u (by rw [List.size_toArray]; omega)) ⟨e, ?_⟩
 refine ⟨.non, _, I.lset (its' := its ++ [u]) hH e (by simp) (r.append (.cons ru .nil)) ?_, rfl, q⟩
 rw [List.length_append, List.length_singleton]
 omega
def sf : V -> List V -> Hp -> VK -> Prop := fun x vs H Q => ∃ l b xs zs, x = .ref l /\ vs = [.ref b] /\ H l = some (.lst xs) /\ H b = some (.lst zs) /\ xs.length + zs.length <= sizeLine /\ Q .non (upd H l (.lst (xs ++ zs)))
theorem tG : CJ X "list.extend" sf := by
 intro pins s σ H x vs v us Q I rx rv h
 obtain ⟨l, b, xs, zs, rfl, rfl, hH, hB, hz, q⟩ := h
 cases rx
 obtain ⟨u, rfl, ru⟩ := rv.one
 cases ru
 obtain ⟨z, its, n, r, hl, e⟩ := I.lstM hH
 obtain ⟨z2, its2, n2, r2, hl2, e2⟩ := I.lstM hB
 have hsz : its.toArray.size + its2.toArray.size <= sizeLine := by rw [List.size_toArray, List.size_toArray]; omega
 have hlong : ¬ (!its.toArray.isEmpty && Builtin.List.listTooLong (its.toArray.size + its2.toArray.size)) = true := by
  rw [u7 hsz, Bool.and_false]
  exact Bool.false_ne_true
 refine call_meets F.slot_list_extend ⟨_, e, rfl⟩ F.entry_list_extend (F.args_list_extend_2 _ _)
  (AutoSeq1.list_extend_list_list_0 l its.toArray n b its2.toArray n2 hlong (by rw [List.size_toArray]; omega) (by omega)) ⟨e, e2, ?_⟩
 refine ⟨.non, _, I.lset (its' := its ++ its2) hH e (by simp) (r.append r2) ?_, rfl, q⟩
 rw [List.length_append]
 omega
def D6 : V -> List V -> Hp -> VK -> Prop := fun x vs H Q => ∃ l xs y, x = .ref l /\ vs = [] /\ H l = some (.lst xs) /\ xs[xs.length - 1]? = some y /\ Q y (upd H l (.lst xs.dropLast))
def u8 : V -> List V -> Hp -> VK -> Prop := fun x vs H Q => ∃ l xs i k y, x = .ref l /\ vs = [.int i] /\ H l = some (.lst xs) /\ -(2 ^ 63) <= i /\ i < 2 ^ 63 /\ seqIndex? i xs.length = some k /\ xs[k]? = some y /\ Q y (upd H l (.lst (xs.eraseIdx k)))
theorem u9 : CJ X "list.pop" u8 := by
 intro pins s σ H x vs v us Q I rx rv h
 obtain ⟨l, xs, i, k, y, rfl, rfl, hH, h1, h2, hk, hy, q⟩ := h
 cases rx
 obtain ⟨u, rfl, ru⟩ := rv.one
 obtain ⟨t, rfl⟩ := ru
 obtain ⟨z, its, n, r, hl, e⟩ := I.lstM hH
 obtain ⟨w, hw, rw'⟩ := r.get hy
 refine call_meets F.slot_list_pop ⟨_, e, rfl⟩ F.entry_list_pop (F.args_list_pop_2 _ _)
  (MeetsSeq.list_pop_at l its.toArray n i t k w (fitsIndex_both h1 h2) (by rw [List.size_toArray, <- hl]; exact hk) (by rw [<- Array.getElem?_toList]; exact hw) (by rw [List.size_toArray]; omega)) ⟨e, ?_⟩
 refine ⟨y, _, I.lset (its' := its.eraseIdx k) hH e ?_ (r.eraseIdx k) ?_, rw', q⟩
 ·show its.toArray.eraseIdxIfInBounds k = (its.eraseIdx k).toArray
  rw [List.eraseIdxIfInBounds_toArray]
 ·have := mF xs k
  omega
def Bj : V -> List V -> Hp -> VK -> Prop := fun x vs H Q => ∃ l xs, x = .ref l /\ vs = [] /\ H l = some (.lst xs) /\ Q .non (upd H l (.lst xs.reverse))
def CK : V -> List V -> Hp -> VK -> Prop := fun x vs H Q => ∃ l xs, x = .ref l /\ vs = [] /\ H l = some (.lst xs) /\ Q .non (upd H l (.lst []))
def CL : R2 := fun x y H Q => ∃ l b xs zs, x = .ref l /\ y = .ref b /\ H l = some (.lst xs) /\ H b = some (.lst zs) /\ xs.length + zs.length <= sizeLine /\ ∀ p, H p = none -> Q (.ref p) (upd H p (.lst (xs ++ zs)))
theorem zu : gf X (binaryOp .Add) CL := by
 intro pins s σ H x y v u Q I rx ry h
 obtain ⟨l, b, xs, zs, rfl, rfl, hH, hB, hz, q⟩ := h
 cases rx
 cases ry
 obtain ⟨z, its, n, r, hl, e⟩ := I.lstM hH
 obtain ⟨z2, its2, n2, r2, hl2, e2⟩ := I.lstM hB
 refine PySem.P.add_list e e2 ?_ (by rw [List.size_toArray, List.size_toArray]; omega)
 have ea : its.toArray ++ its2.toArray = (its ++ its2).toArray := by simp
 rw [ea]
 exact ⟨.ref _, _, I.lnew (t' := s.toks) (r.append r2) (by rw [List.length_append]; omega), rfl, q _ I.fresh⟩
def D7 : R2 := fun x y H Q => ∃ l k xs, x = .ref l /\ y = .int k /\ H l = some (.lst xs) /\ -(2 ^ 63) <= k /\ k < 2 ^ 63 /\ xs.length * k.toNat <= sizeLine /\
 ∀ p, H p = none -> Q (.ref p) (upd H p (.lst (List.replicate k.toNat xs).flatten))
end
section
variable {prog : Program} {w : World} {A : Around} {E : Value -> Shared -> Prop} {s : Shared}
end
section
variable {X : Cx}
end
end L2
namespace Att
open PySem PySem.W PySem.Calls PyProof.Rows
theorem ki {P : Params} {h : Heap} : ∀ (ns : List Int) (vs : List Value), WellAll P h vs (ns.map WData.int) -> IntsAre vs ns := by
 intro ns
 induction ns with
 | nil =>
  intro vs w
  rw [List.map_nil] at w
  cases w
  exact .nil
 | cons n ns ih =>
  intro vs w
  rw [List.map_cons] at w
  cases w with
  | cons a b =>
   cases a
   exact .cons _ _ (ih _ b)
theorem tH {l : OpenLaw} {n : Nat} (hn : l.most = some n) {P : Params} {h : Heap} {args : List WData} {vals : List Value}
  (hpre : l.row.toRowW.claim.pre args = true) (hwl : WellAll P h vals args) :
  ∃ a vs ns, vals = [Value.ref a] /\ args = [WData.list (ns.map WData.int)] /\ h.get? a = some { cls := .type "list", data := .seq vs.toArray } /\ IntsAre vs ns /\ ns.length <= n := by
 have eF : WShape.hasAll [] args [.list .int] = true := (pre_splitW hpre).1
 have hc : l.pre.holds [] { args := args } = true := (pre_splitW hpre).2
 obtain ⟨d, r, rfl, h1, h2⟩ := hasAllW_cons eF
 obtain rfl := hasAllW_nil h2
 obtain ⟨xs, rfl, h3⟩ := hasW_list h1
 obtain ⟨ns, rfl⟩ := items_int h3
 have hlen : ns.length <= n := by
  unfold OpenLaw.pre at hc
  have h4 : (WTm.not (.lt (.lit (.int (n : Int))) (.len (.arg 0)))).holds [] { args := [.list (ns.map .int)] } = true := by
   have h4 := (holds_andW hc).1
   rw [hn] at h4
   exact h4
  have h5 := condW_of h4 (w_not (w_lt w_lit (w_len_list (w_arg rfl))))
  rw [List.length_map] at h5
  refine Nat.le_of_not_lt fun q => ?_
  have q' : (n : Int) < ((ns.length : Nat) : Int) := by omega
  first
   | (rw [decide_eq_true q'] at h5; exact absurd h5 (by decide))
   | (simp at h5; omega)
 cases hwl with
 | cons w1 w2 =>
  cases w2
  cases w1 with
  | list ho hall => exact ⟨_, _, ns, rfl, rfl, ho, ki ns _ hall, hlen⟩
theorem tI (l : OpenLaw) (args : List WData) : l.row.toRowW.claim.post args (.bool true) args = true :=
 postW_of (r := l.row.toRowW) (X := (true == true))
  (show WShape.has [] (.bool true) .bool = true by first | rfl | decide | simp [WShape.has, WShape.arms, WShape.armsAll])
  (show (WTm.eq .res (.lit (.bool true))).value [] { args := args, res := some (.bool true), after := args } = some (.bool (true == true)) from w_eq_bool (w_res rfl) w_lit) rfl
theorem attach_call {l : OpenLaw} {n : Nat} {q : Program} {loose : List Str} {XP : (Str -> Option Value) -> Heap -> Prop} {YP : World -> Heap -> Prop} {d : DefRec}
  (hn : l.most = some n) (hdf : d.params.defaults = [])
  (call : ∀ (w : World) (s₀ s₁ : Shared) (mg mb : Str -> Option Value) (fa : Addr) (o : Obj) (pm cd doc : Value) (a : Addr) (vs : List Value) (ns : List Int),
   Ground q loose [] XP w s₀ mg mb s₁.heap -> YP w s₁.heap ->
   s₁.heap.get? fa = some o -> o.data = .func (docDef d.name d.params d.body d.scope pm cd doc) -> s₁.heap.CodeRec cd d.name -> mg d.name = some (.ref fa) ->
   s₁.heap.get? a = some { cls := .type "list", data := .seq vs.toArray } -> IntsAre vs ns -> ns.length <= n -> s₁.gens = #[] ->
   codeAny (model l.prog w) callerA (.call (.ref fa) ⟨[.ref a], []⟩) (fun r s' => r = .ok (.ret (.bool true)) /\ OldK s₁.heap s'.heap /\ s'.os = s₁.os /\ AllBare s'.gens) s₁) :
  WalkO q loose XP YP l.row.toRowW d [] (fun f vs => PySem.call f vs) := by
 intro w s₀ s₁ mg mb G Y fa o pm cd doc dV kV ho hd hcd hD hmg hg args vals as hpre hlay hrd hwl hlo
 obtain rfl : dV = .none := Dflts.none hD hdf
 obtain rfl : kV = .none := Dflts.noKw hD
 obtain ⟨a, vs, ns, rfl, rfl, hobj, hints, hlen⟩ := tH hn hpre hwl
 refine enter_call (codeAny_mono (call w s₀ s₁ mg mb fa o pm cd doc a vs ns G Y ho (fd_plain hd) hcd hmg hobj hints hlen hg) fun r s' hq => ?_)
 obtain ⟨rfl, h2, h3, h4⟩ := hq
 exact ⟨.inl ⟨.bool true, .bool true, [], rfl, fun _ => rfl, .bool true, tI l _, fun _ => ⟨List.Pairwise.nil, fun _ hm => (nomatch hm)⟩⟩, h2, h3, h4⟩
section
variable {prog : Program} {w : World} {A : Around} {E : Value -> Shared -> Prop} {s : Shared} {K : Frag}
def CM (h : Heap) : Heap := { h with objs := #[] }
def ledger (h : Heap) (L d : Addr) : List (Addr × Obj) := (List.range h.objs.size).filterMap fun a => if a = L \/ a = d then none else (h.get? a).map fun o => (a, o)
end
end Att
namespace L2
open PySem PySem.Spec PyProof.Rows
theorem hZ : ∀ {vs : List Value} {ns : List Int}, IntsAre vs ns -> aI (ns.map V.int) vs
 | _, _, .nil => .nil
 | _, _, .cons n t h => .cons ⟨t, rfl⟩ (hZ h)
def zv (H : Hp) : Prop := ∀ b, H b = none \/ ∃ o xs, H b = some (.frz o (.lst xs))
theorem vd {P : Program} {w : World} {K : PySem.W.Frag} {mg mb : Str -> Option Value} {CX : rY} {k : Nat} {fa a : Addr} {fd : FuncData} {x : Str} {sp : Sp} {s₁ : Shared} {vs : List Value} {ns : List Int}
  (KX : K.In s₁.heap) (hns : s₁.heap.Ns mainGlobals mg) (hb : s₁.heap.Ns builtinsNs mb) (hbb : ∀ x : Str, x ≠ "__name__" -> mb x = bootBuiltins x) (hlim : s₁.heap.NoLimit) (hg : s₁.gens = #[])
  (ha : s₁.heap.get? a = some { cls := .type "list", data := .seq vs.toArray }) (hi : IntsAre vs ns) (hl : ns.length <= sizeLine) (hr : Room k callerA)
  (F : ∀ base : Heap, K.In base -> base.Ns mainGlobals mg -> FnOk P w K mg base CX k fa fd [x] sp) (hbind : ∀ (s : Shared) (u : Value), BindsTo s fd ⟨[u], []⟩ [(x, u)])
  (hsp : ∀ H : Hp, zv H -> fE K H a (ns.map V.int) -> sp [.ref a] H (fun v _ => v = .bl true) fun _ _ _ => False)
  (hCX : ∀ H e s', CX [] H s₁ (fun _ _ _ => False) e s' -> False) :
  codeAny (model P w) callerA (.call (.ref fa) ⟨[.ref a], []⟩) (fun r s' => r = .ok (.ret (.bool true)) /\ OldK s₁.heap s'.heap /\ s'.os = s₁.os /\ AllBare s'.gens) s₁ := by
 have rv := hZ hi
 have lenV := hi.length
 have core : ∀ H : Hp, zv H -> fE K H a (ns.map V.int) -> dJ P w H s₁.heap -> (∀ b, H b ≠ none -> b = a) -> (H a ≠ none -> K.lookup a = none) ->
   codeAny (model P w) callerA (.call (.ref fa) ⟨[.ref a], []⟩) (fun r s' => r = .ok (.ret (.bool true)) /\ OldK s₁.heap s'.heap /\ s'.os = s₁.os /\ AllBare s'.gens) s₁ := by
  intro H hO hS hok hA hK
  have base_of : ∀ {b : Addr} {o : Obj}, s₁.heap.get? b = some o -> H b = none -> (iy s₁.heap H).get? b = some o := fun e n => iX e n
  have noA : ∀ {b : Addr} {o : Obj} {es : Array DictEntry} {ep : Nat}, s₁.heap.get? b = some o -> o.data = .dict es ep -> H b = none := fun {b o es ep} e d => by
   cases q : H b with
   | none => rfl
   | some u =>
    have e' : b = a := hA b (by rw [q]; simp)
    subst e'
    rw [ha] at e; cases e
    have d' : Data.seq vs.toArray _ = Data.dict es ep := d
    cases d'
  have nsK : ∀ {b : Addr} {m : Str -> Option Value}, s₁.heap.Ns b m -> (iy s₁.heap H).Ns b m := fun {b m} ⟨o, es, ep, e, d, r⟩ => ⟨o, es, ep, base_of e (noA e d), d, r⟩
  have hKb : K.In (iy s₁.heap H) := fun b o e => base_of (KX b o e) (by
   cases q : H b with
   | none => rfl
   | some u =>
    have e' : b = a := hA b (by rw [q]; simp)
    subst e'
    rw [hK (by rw [q]; simp)] at e; cases e)
  have hM : Mod K mg (iy s₁.heap H) := ⟨hKb, nsK hns, ⟨mb, nsK hb, hbb⟩, let ⟨mc, h1, h2⟩ := hlim; ⟨mc, nsK h1, h2⟩⟩
  have e0 : aA P w K mg (iy s₁.heap H) callerA [] s₁ H := ⟨rfl, hM, fun b o e => nj e, Nat.le_of_eq (jD _ _), trivial, fun b hb => absurd (show b ∈ ([] : List Addr) from hb) (by simp), hok, .of_eq hg⟩
  refine codeAny_mono ((F _ hKb (nsK hns)).run callerA [] s₁ H ⟨[.ref a], []⟩ [.ref a] [.ref a] _ _ hr e0 (hbind s₁ (.ref a)) (.cons rfl .nil) (hsp H hO hS)) fun r s' h => ?_
  cases r with
  | error e => exact (hCX H e s' h).elim
  | ok fl =>
   cases fl with
   | next => exact False.elim h
   | brk => exact False.elim h
   | cont => exact False.elim h
   | ret u =>
    obtain ⟨v, H', os, bare, un, hok', r', q⟩ := h
    have q' : v = .bl true := q
    subst q'
    obtain rfl : u = Value.bool true := r'
    refine ⟨rfl, OldK.of_keep fun b o e => ?_, os, bare⟩
    cases q : H b with
    | none => exact un.keep b o e q (by intro z; exact absurd (show b ∈ ([] : List Addr) from z) (by simp)) (by simp)
    | some u =>
     rcases hO b with z | ⟨ob, xs, z⟩
     ·rw [q] at z; cases z
     ·have z2 := un.frzs b ob _ z
      obtain ⟨e1, _⟩ := hok b _ z
      obtain ⟨e2, _⟩ := hok' b _ z2
      rw [e] at e1; cases e1
      exact e2
 cases hk : K.lookup a with
 | some o =>
  have e := KX a o hk
  rw [ha] at e
  cases e
  refine core (fun _ => none) (fun _ => .inl rfl) (.inr ⟨_, vs.toArray, _, hk, rfl, rfl, rfl, by rw [List.size_toArray, lenV]; exact hl, by simpa using rv⟩) (fun b u z => by have z' : (none : Option HO) = some u := z; cases z') (fun b z => absurd rfl z) fun z => absurd rfl z
 | none =>
  refine core (fun b => if b = a then some (.frz { cls := .type "list", data := .seq vs.toArray } (.lst (ns.map V.int))) else none) (fun b => ?_) (.inl (.inr ⟨{ cls := .type "list", data := .seq vs.toArray }, if_pos rfl⟩)) (fun b u z => ?_) (fun b z => ?_) fun _ => hk
  ·by_cases hb : b = a
   ·exact .inr ⟨_, _, if_pos hb⟩
   ·exact .inl (if_neg hb)
  ·by_cases hb : b = a
   ·have z' := (if_pos hb).symm.trans z
    cases z'
    subst hb
    exact ⟨ha, by rw [List.length_map]; exact hl, vs, _, rv, ha⟩
   ·have z' := (if_neg hb).symm.trans z
    cases z'
  ·by_cases hb : b = a
   ·exact hb
   ·exact absurd (if_neg hb) z
end L2
namespace L2
open PySem PySem.Spec PyProof.Rows
abbrev EC {K : PySem.W.Frag} {h : Heap} (_ : K.In h) : PySem.W.Frag := K
theorem B2 {l : PySem.W.OpenLaw} {n k : Nat} {q : Program} {loose : List Str} {XP : (Str -> Option Value) -> Heap -> Prop} {YP : World -> Heap -> Prop} {d : DefRec} {K : Params -> PySem.W.Frag} {CX : World -> rY} {sp : World -> Sp} {x : Str}
  (hn : l.most = some n) (hn2 : n <= sizeLine) (hdf : d.params.defaults = []) (hr : Room k callerA)
  (hY : ∀ (w : World) (h : Heap), YP w h -> (K w.params).In h)
  (F : ∀ (w : World) (mg : Str -> Option Value) (fa : Addr) (h : Heap), (K w.params).In h -> h.Ns mainGlobals mg -> mg d.name = some (.ref fa) ->
   ∃ fd : FuncData, (∀ (s : Shared) (u : Value), BindsTo s fd ⟨[u], []⟩ [(x, u)]) /\
    ∀ base : Heap, (K w.params).In base -> base.Ns mainGlobals mg -> FnOk l.prog w (K w.params) mg base (CX w) k fa fd [x] (sp w))
  (hsp : ∀ (w : World) (H : Hp) (a : Addr) (ns : List Int), ns.length <= n -> zv H -> fE (K w.params) H a (ns.map V.int) -> sp w [.ref a] H (fun v _ => v = .bl true) fun _ _ _ => False)
  (hCX : ∀ (w : World) (H : Hp) (s : Shared) (e : Value) (s' : Shared), CX w [] H s (fun _ _ _ => False) e s' -> False) :
  PySem.W.WalkO q loose XP YP l.row.toRowW d [] (fun f vs => PySem.call f vs) := by
 refine Att.attach_call hn hdf fun w s₀ s₁ mg mb fa o pm cd doc a vs ns G Y ho hd hcd hmg hobj hints hlen hg => ?_
 have KX := hY w _ Y
 obtain ⟨fd, hb, hF⟩ := F w mg fa _ KX G.T.g hmg
 exact vd KX G.T.g G.T.b G.T.builtins G.T.nolimit hg hobj hints (Nat.le_trans hlen hn2) hr hF hb (fun H hO hS => hsp w H a ns hlen hO hS) fun H e s' => hCX w H s₁ e s'
end L2
/- THE LAST THEOREM (shape; LID, My.* are yours):
   My.Adr: a structure of the addresses that your layer names (classes, functions); My.Txt K t: a structure (Prop) of the equations over K;
   My.txt_mk : {K} {implicit addresses ..} (e1 : nsIn K mainGlobals "law" = some (some (.ref f))) (e2 : K.lookup f = some ⟨oc, od, .func (fnOf "law" "law" params body scope dV kV doc pm an cdv ct), sl⟩) (e3 : codeIn K cdv "law" = true) .. : ∃ t, My.Txt K t
set_option maxRecDepth 100000 in
set_option maxHeartbeats 0 in
theorem PySem.Challenge.cw_LID_holds : PySem.Challenge.rw_LID.Holds := by
 w_on; o_law; k_head; (case hw => w_witness2)
 k_fill
 refine L2.B2 (l := PySem.Challenge.rw_LID) (n := 63) (k := 40) (x := "script") (CX := fun w => ..) (sp := fun _ => My.sp_law) rfl (by decide) rfl ⟨rfl, by decide, by decide⟩ (fun w h Y => PySem.W.kIn_of Y) ?F ?S ?C
 case F =>
  intro w mg fa h KX G hmg
  have T : ∃ t, My.Txt (L2.EC KX) t := by
   dsimp only [L2.EC]                          -- K must stand as «<heap const> w.params» for k_is
   refine' My.txt_mk ?e1 ?e2 ?e3 ..
   (case e1 => PySem.W.k_is)                    -- in the order: a name -> its address -> its object -> its parts
   (case e2 => PySem.W.k_is)
   ..
  obtain ⟨t, T⟩ := T
  have e0 := hmg.symm.trans (PySem.W.mg_of KX G T.law)
  cases e0                                       -- fa is the law's own address
  exact ⟨_, fun s u => .of_eq rfl, fun base kb nb => My.law_fn T kb nb⟩     -- if «.of_eq rfl» comes too early: refine' ⟨_, ?b, fun base kb nb => My.law_fn T kb nb⟩; exact fun s u => .of_eq rfl
 case S => exact fun w H a ns hl hO hS => ..
 case C => exact ..
(the tactic k_is has no namespace: write k_is) -/
namespace L2
open PySem PySem.Spec PyProof.Rows
def inClass (s : Stmt) (j : Nat) : Stmt := match s with
 | .ClassDef _ _ _ body _ _ _ _ _ _ _ => body.getD j (.Pass ⟨0, 0, 0, 0⟩)
 | _ => .Pass ⟨0, 0, 0, 0⟩
def eI (s : Stmt) : Arguments := match s with
 | .FunctionDef _ a _ _ _ _ _ _ _ _ => a
 | _ => { posonlyargs := [], args := [], vararg := none, kwonlyargs := [], kw_defaults := [], kwarg := none, defaults := [] }
def bR (s : Stmt) : List Stmt := match s with
 | .FunctionDef _ _ b _ _ _ _ _ _ _ => b
 | _ => []
def ak (s : Stmt) : Scope := match s with
 | .FunctionDef _ _ _ _ _ _ sc _ _ _ => sc
 | _ => { kind := .function, names := [], isGenerator := false, isCoroutine := false }
abbrev CN : rY := fun _ _ _ _ _ _ => False
abbrev E0 : XK := fun _ _ _ => False
structure Fun (K : PySem.W.Frag) (x qual : Str) (st : Stmt) (f : Addr) (fd : FuncData) : Prop where
 ex : ∃ (oc : Value) (od : Option Addr) (kV doc pm : Value) (an : Option Addr) (cdv ct : Value) (osl : Array (Option Value)),
  fd = PySem.W.fnOf x qual (eI st) (bR st) (ak st) .none kV doc pm an cdv ct /\ K.lookup f = some ⟨oc, od, .func fd, osl⟩ /\ PySem.W.codeIn K cdv qual = true
 kp : PySem.W.keepIn K (.ref f) = true
section
variable {P : Program} {w : World} {K : PySem.W.Frag} {mg : Str -> Option Value} {base : Heap}
theorem Fun.ok {x qual : Str} {st : Stmt} {f : Addr} {fd : FuncData} {N ps : List Str} {k : Nat} {sp : Sp} (F : Fun K x qual st f fd) (S : FnScope N ps (ak st)) (len : ∀ vs H Q E, sp vs H Q E -> vs.length = ps.length)
  (hbody : ∀ (cdv : Value) (A : Around) (outer : List Env) (s : Shared) (H : Hp) (vs : List V) (Q : VK) (E : XK), Room k (A.deeper (envOfC qual (ak st) s.heap.objs.size f cdv)) -> sp vs H Q E ->
   ∃ t, lO (iz CN P w K mg base N qual (ak st) f cdv A outer s H E).nox (bR st) t /\ t { nx := fun _ H' => Q .non H', rt := Q } (start N vs) H) : FnOk P w K mg base CN (k + 1) f fd ps sp := by
 obtain ⟨oc, od, kV, doc, pm, an, cdv, ct, osl, rfl, lk, hcd⟩ := F.ex
 refine uX lk hcd S len fun A outer s H vs Q E hr hsp => ?_
 obtain ⟨t, h, q⟩ := hbody cdv A outer s H vs Q E hr hsp
 exact ⟨t, h.nox, q⟩
theorem Fun.binds {x qual : Str} {st : Stmt} {f : Addr} {fd : FuncData} {ps : List Str} (F : Fun K x qual st f fd)
  (h : ∀ (kV doc pm : Value) (an : Option Addr) (cdv ct : Value) (us : List Value), us.length = ps.length -> bindArgs (PySem.W.fnOf x qual (eI st) (bR st) (ak st) .none kV doc pm an cdv ct) ⟨us, []⟩ = pure (ps.zip us)) : Binds K fd ps [] := by
 obtain ⟨oc, od, kV, doc, pm, an, cdv, ct, osl, rfl, lk, hcd⟩ := F.ex
 exact .all (h kV doc pm an cdv ct)
theorem zw {x qual : Str} {st : Stmt} {f : Addr} {oc : Value} {od an : Option Addr} {osl : Array (Option Value)} {kV doc pm cdv ct : Value} (l : K.lookup f = some ⟨oc, od, .func (PySem.W.fnOf x qual (eI st) (bR st) (ak st) .none kV doc pm an cdv ct), osl⟩)
  (c : PySem.W.codeIn K cdv qual = true) (k : PySem.W.keepIn K (.ref f) = true) : Fun K x qual st f (PySem.W.fnOf x qual (eI st) (bR st) (ak st) .none kV doc pm an cdv ct) := ⟨⟨oc, od, kV, doc, pm, an, cdv, ct, osl, rfl, l, c⟩, k⟩
end
section
variable {X : Cx}
end
def lX (H H' : Hp) : Prop := ∀ b o, H b = some o -> H' b = some o
theorem lX.refl (H : Hp) : lX H H := fun _ _ h => h
theorem lX.trans {H H1 H2 : Hp} (a : lX H H1) (b : lX H1 H2) : lX H H2 := fun c o h => b c o (a c o h)
theorem lX.free {H H' : Hp} (e : lX H H') {l : Addr} (h : H' l = Option.none) : H l = Option.none := by
 cases q : H l with
 | none => rfl
 | some o =>
  rw [e l o q] at h
  cases h
theorem lX.seq {K : PySem.W.Frag} {H H' : Hp} {a : Addr} {xs : List V} (e : lX H H') (h : fE K H a xs) : fE K H' a xs := by
 rcases h with (h | ⟨o, h⟩) | h
 ·exact .inl (.inl (e _ _ h))
 ·exact .inl (.inr ⟨o, e _ _ h⟩)
 ·exact .inr h
end L2
end
section
namespace S3
open PySem PySem.W PyProof.Rows
def aN {α : Type} (b : Nat -> Nat -> Bool) : KasT α -> α
 | .ret a => a
 | .ask i j k => aN b (k (b i j))
theorem dX {α β : Type} (b : Nat -> Nat -> Bool) (f : α -> KasT β) : ∀ t : KasT α, aN b (t.bind f) = aN b (f (aN b t))
 | .ret _ => rfl
 | .ask i j k => dX b f (k (b i j))
section
variable (r : Nat -> Nat)
abbrev b8 : Nat -> Nat -> Bool := fun i j => decide (r i < r j)
def ka (p : Array Nat) (k : Nat) : Nat := r (p.getD k 0)
def vf (p : Array Nat) (n : Nat) : Prop := ∀ i j, i <= j -> j < n -> ka r p i <= ka r p j
def CO (p : Array Nat) (n : Nat) : Prop := ∀ i j, i <= j -> j < n -> ka r p j <= ka r p i
variable {r}
theorem i3 {p q : Array Nat} {i j : Nat} (h : p[i]? = q[j]?) : p.getD i 0 = q.getD j 0 := by
 rw [Array.getD_eq_getD_getElem?, Array.getD_eq_getD_getElem?, h]
theorem nz {p : Array Nat} {i j : Nat} (hj : j <= p.size) (k : Nat) : ka r (kas_rev p i j) k = if i <= k /\ k < j then ka r p (i + j - 1 - k) else ka r p k := by
 have h := getElem?_mirror_all (i := i) hj k
 unfold ka kas_rev
 by_cases c : i <= k /\ k < j
 ·rw [if_pos c] at h ⊢; rw [i3 h]
 ·rw [if_neg c] at h ⊢; rw [i3 h]
theorem mH {p : Array Nat} {src d : Nat} (hs : src < p.size) (hd : d <= src) (k : Nat) : ka r (bubble p src d) k = if k = src - d then ka r p src else if src - d < k /\ k <= src then ka r p (k - 1) else ka r p k := by
 have h := getElem?_bubble hs d hd k
 unfold ka
 by_cases c : k = src - d
 ·rw [if_pos c] at h ⊢; rw [i3 h]
 ·rw [if_neg c] at h ⊢
  by_cases c2 : src - d < k /\ k <= src
  ·rw [if_pos c2] at h ⊢; rw [i3 h]
  ·rw [if_neg c2] at h ⊢; rw [i3 h]
theorem kM {p : Array Nat} {i j : Nat} : (kas_rev p i j).size = p.size := mirror_size _ _ _ _
theorem cQ {p : Array Nat} {i j : Nat} : (kas_rev p i j).Perm p := mirror_perm _ _ _ _
theorem nA {p : Array Nat} : ∀ (f n : Nat), 1 <= n -> vf r p n -> n <= aN (b8 r) (kas_asc p f n) /\ aN (b8 r) (kas_asc p f n) <= n + f /\ vf r p (aN (b8 r) (kas_asc p f n))
 | 0, n, h1, h => ⟨Nat.le_refl _, Nat.le_refl _, h⟩
 | f + 1, n, h1, h => by
  show n <= aN (b8 r) (if (b8 r) (p.getD n 0) (p.getD (n - 1) 0) = true then KasT.ret n else kas_asc p f (n + 1)) /\ aN (b8 r) (if (b8 r) (p.getD n 0) (p.getD (n - 1) 0) = true then KasT.ret n else kas_asc p f (n + 1)) <= n + (f + 1) /\ vf r p (aN (b8 r) (if (b8 r) (p.getD n 0) (p.getD (n - 1) 0) = true then KasT.ret n else kas_asc p f (n + 1)))
  by_cases c : (b8 r) (p.getD n 0) (p.getD (n - 1) 0) = true
  ·rw [if_pos c]; exact ⟨Nat.le_refl _, by show n <= n + (f + 1); omega, h⟩
  ·rw [if_neg c]
   have c' : ka r p (n - 1) <= ka r p n := by
    exact Nat.le_of_not_lt fun z => c (decide_eq_true z)
   obtain ⟨a1, a2, a3⟩ := nA f (n + 1) (by omega) (fun i j hij hj => by
    by_cases e : j = n
    ·subst e
     by_cases e2 : i = j
     ·subst e2; exact Nat.le_refl _
     ·exact Nat.le_trans (h i (j - 1) (by omega) (by omega)) c'
    ·exact h i j hij (by omega))
   exact ⟨by omega, by omega, a3⟩
structure Down (r : Nat -> Nat) (p : Array Nat) (n q : Nat) : Prop where
 dsc : CO r p n
 q1 : q + 1 <= n
 eqs : ∀ k, n - (q + 1) <= k -> k < n -> ka r p k = ka r p (n - 1)
theorem kN {p : Array Nat} {n q : Nat} (hn : n <= p.size) (h : Down r p n q) : ∀ k, ka r (kas_rev p (n - (q + 1)) n) k = ka r p k := fun k => by
 rw [nz hn]
 split
 ·next c => rw [h.eqs k c.1 c.2, h.eqs _ (by omega) (by omega)]
 ·rfl
theorem i4 : ∀ (f : Nat) (p : Array Nat) (n q : Nat), n + f <= p.size -> Down r p n q ->
  Down r (aN (b8 r) (kas_desc f p n q)).1 (aN (b8 r) (kas_desc f p n q)).2.1 (aN (b8 r) (kas_desc f p n q)).2.2 /\ (aN (b8 r) (kas_desc f p n q)).1.Perm p /\ n <= (aN (b8 r) (kas_desc f p n q)).2.1 /\ (aN (b8 r) (kas_desc f p n q)).2.1 <= n + f
 | 0, p, n, q, hs, h => ⟨h, Array.Perm.refl _, Nat.le_refl _, Nat.le_refl _⟩
 | f + 1, p, n, q, hs, h => by
  have e : aN (b8 r) (kas_desc (f + 1) p n q) = if ka r p n < ka r p (n - 1) then (if q > 0 then aN (b8 r) (kas_desc f (kas_rev p (n - (q + 1)) n) (n + 1) 0) else aN (b8 r) (kas_desc f p (n + 1) 0))
    else if ka r p (n - 1) < ka r p n then (p, n, q) else aN (b8 r) (kas_desc f p (n + 1) (q + 1)) := by
   show aN (b8 r) (if (b8 r) (p.getD n 0) (p.getD (n - 1) 0) = true then _ else _) = _
   unfold ka
   by_cases c : r (p.getD n 0) < r (p.getD (n - 1) 0)
   ·rw [if_pos (by simpa using c), if_pos c]
    split <;> rfl
   ·rw [if_neg (by simpa using c), if_neg c]
    show aN (b8 r) (if (b8 r) (p.getD (n - 1) 0) (p.getD n 0) = true then _ else _) = _
    by_cases c2 : r (p.getD (n - 1) 0) < r (p.getD n 0)
    ·rw [if_pos (by simpa using c2), if_pos c2]; rfl
    ·rw [if_neg (by simpa using c2), if_neg c2]
  have q1 := h.q1
  have ext : ∀ {p' : Array Nat} {q' : Nat}, (∀ k, ka r p' k = ka r p k) -> ka r p n <= ka r p (n - 1) -> (q' = 0 \/ (q' = q + 1 /\ ka r p n = ka r p (n - 1))) -> Down r p' (n + 1) q' := fun {p' q'} hk hle hq => by
   refine ⟨fun i j hij hj => ?_, by omega, fun k h1 h2 => ?_⟩
   ·rw [hk, hk]
    by_cases ej : j = n
    ·subst ej
     by_cases e2 : i = j
     ·subst e2; exact Nat.le_refl _
     ·exact Nat.le_trans hle (h.dsc i (j - 1) (by omega) (by omega))
    ·exact h.dsc i j hij (by omega)
   ·rw [hk, hk, show n + 1 - 1 = n by omega]
    rcases hq with rfl | ⟨rfl, he⟩
    ·have : k = n := by omega
     subst this; rfl
    ·by_cases ek : k = n
     ·subst ek; rfl
     ·rw [he]; exact h.eqs k (by omega) (by omega)
  rw [e]
  by_cases c : ka r p n < ka r p (n - 1)
  ·rw [if_pos c]
   by_cases hq : q > 0
   ·rw [if_pos hq]
    obtain ⟨a1, a2, a3, a4⟩ := i4 f (kas_rev p (n - (q + 1)) n) (n + 1) 0 (by rw [kM]; omega) (ext (kN (by omega) h) (by omega) (.inl rfl))
    exact ⟨a1, a2.trans cQ, by omega, by omega⟩
   ·rw [if_neg hq]
    obtain ⟨a1, a2, a3, a4⟩ := i4 f p (n + 1) 0 (by omega) (ext (fun _ => rfl) (by omega) (.inl rfl))
    exact ⟨a1, a2, by omega, by omega⟩
  ·rw [if_neg c]
   by_cases c2 : ka r p (n - 1) < ka r p n
   ·rw [if_pos c2]; exact ⟨h, Array.Perm.refl _, Nat.le_refl _, by show n <= n + (f + 1); omega⟩
   ·rw [if_neg c2]
    obtain ⟨a1, a2, a3, a4⟩ := i4 f p (n + 1) (q + 1) (by omega) (ext (fun _ => rfl) (by omega) (.inr ⟨rfl, by omega⟩))
    exact ⟨a1, a2, by omega, by omega⟩
structure Got (r : Nat -> Nat) (nrem : Nat) (p : Array Nat) (g : Nat × Array Nat) : Prop where
 asc : vf r g.2 g.1
 le : g.1 <= nrem
 pos : 1 <= g.1
 perm : g.2.Perm p
theorem mI {n nrem : Nat} {p : Array Nat} (h1 : 1 <= n) (hn : n <= nrem) (hs : nrem <= p.size) (h : CO r p n) : Got r nrem p (aN (b8 r) (kas_tail3 n nrem p)) := by
 unfold kas_tail3
 rw [dX]
 have ha : vf r (kas_rev p 0 n) n := fun i j hij hj => by
  rw [nz (by omega), nz (by omega), if_pos ⟨by omega, by omega⟩, if_pos ⟨by omega, by omega⟩]
  exact h _ _ (by omega) (by omega)
 obtain ⟨a1, a2, a3⟩ := nA (p := kas_rev p 0 n) (nrem - n) n h1 ha
 exact ⟨a3, by show aN (b8 r) (kas_asc (kas_rev p 0 n) (nrem - n) n) <= nrem; omega, by show 1 <= aN (b8 r) (kas_asc (kas_rev p 0 n) (nrem - n) n); omega, cQ⟩
theorem i5 {n nrem : Nat} {p : Array Nat} (hn : n < nrem) (hs : nrem <= p.size) (h : Down r p (n + 1) 0) : Got r nrem p (aN (b8 r) (kas_descPart n nrem p)) := by
 unfold kas_descPart
 rw [dX]
 obtain ⟨a1, a2, a3, a4⟩ := i4 (nrem - (n + 1)) p (n + 1) 0 (by omega) h
 generalize aN (b8 r) (kas_desc (nrem - (n + 1)) p (n + 1) 0) = d at a1 a2 a3 a4
 obtain ⟨p', n', q'⟩ := d
 dsimp only at a1 a2 a3 a4
 have hsz : p'.size = p.size := a2.size_eq
 by_cases hq : q' > 0
 ·show Got r nrem p (aN (b8 r) (if q' > 0 then _ else _))
  rw [if_pos hq]
  have hd : CO r (kas_rev p' (n' - (q' + 1)) n') n' := fun i j hij hj => by
   rw [kN (show n' <= p'.size by omega) a1, kN (show n' <= p'.size by omega) a1]
   exact a1.dsc i j hij hj
  have := mI (n := n') (nrem := nrem) (by omega) (by omega) (by rw [kM, hsz]; exact hs) hd
  exact ⟨this.asc, this.le, this.pos, (this.perm.trans cQ).trans a2⟩
 ·show Got r nrem p (aN (b8 r) (if q' > 0 then _ else _))
  rw [if_neg hq]
  have := mI (n := n') (nrem := nrem) (by omega) (by omega) (by rw [hsz]; exact hs) a1.dsc
  exact ⟨this.asc, this.le, this.pos, this.perm.trans a2⟩
theorem tJ {nrem : Nat} {p : Array Nat} (h2 : 2 <= nrem) (hs : nrem <= p.size) : Got r nrem p (aN (b8 r) (kas_count nrem p)) := by
 unfold kas_count
 rw [dX]
 obtain ⟨a1, a2, a3⟩ := nA (r := r) (p := p) (nrem - 1) 1 (Nat.le_refl _) (fun i j hij hj => by
  have : i = j := by omega
  subst this; exact Nat.le_refl _)
 have stop : ∀ (f n : Nat), 1 <= n -> aN (b8 r) (kas_asc p f n) < n + f -> ka r p (aN (b8 r) (kas_asc p f n)) < ka r p (aN (b8 r) (kas_asc p f n) - 1) := by
  intro f
  induction f with
  | zero => intro n _ h; exact absurd h (Nat.lt_irrefl _)
  | succ f ih =>
   intro n h1 h
   have e : aN (b8 r) (kas_asc p (f + 1) n) = if ka r p n < ka r p (n - 1) then n else aN (b8 r) (kas_asc p f (n + 1)) := by
    show aN (b8 r) (if (b8 r) (p.getD n 0) (p.getD (n - 1) 0) = true then _ else _) = _
    unfold ka
    by_cases c : r (p.getD n 0) < r (p.getD (n - 1) 0)
    ·rw [if_pos (decide_eq_true c), if_pos c]; rfl
    ·rw [if_neg (fun z => c (of_decide_eq_true z)), if_neg c]
   rw [e] at h ⊢
   by_cases c : ka r p n < ka r p (n - 1)
   ·rw [if_pos c]; exact c
   ·rw [if_neg c] at h ⊢; exact ih (n + 1) (by omega) (by omega)
 have stop1 := stop (nrem - 1) 1 (Nat.le_refl _)
 generalize aN (b8 r) (kas_asc p (nrem - 1) 1) = n at a1 a2 a3 stop1
 by_cases hn : n = nrem
 ·show Got r nrem p (aN (b8 r) (if (n == nrem) = true then _ else _))
  rw [if_pos (by simp [hn])]
  exact ⟨a3, by show n <= nrem; omega, a1, Array.Perm.refl _⟩
 ·show Got r nrem p (aN (b8 r) (if (n == nrem) = true then _ else _))
  rw [if_neg (by simp [hn])]
  have hlt := stop1 (by omega)
  by_cases h1 : n > 1
  ·rw [if_pos h1]
   show Got r nrem p (aN (b8 r) (if (b8 r) (p.getD 0 0) (p.getD (n - 1) 0) = true then _ else _))
   by_cases c : r (p.getD 0 0) < r (p.getD (n - 1) 0)
   ·rw [if_pos (decide_eq_true c)]
    exact ⟨a3, by show n <= nrem; omega, a1, Array.Perm.refl _⟩
   ·rw [if_neg (fun z => c (of_decide_eq_true z))]
    have all : ∀ k, k < n -> ka r p k = ka r p (n - 1) := fun k hk => by
     have h3 := a3 0 k (by omega) hk
     have h4 := a3 k (n - 1) (by omega) (by omega)
     have h5 : ka r p (n - 1) <= ka r p 0 := Nat.le_of_not_lt c
     omega
    have kr : ∀ k, ka r (kas_rev p 0 n) k = ka r p k := fun k => by
     rw [nz (by omega)]
     split
     ·next h => rw [all k h.2, all _ (by omega)]
     ·rfl
    have := i5 (r := r) (n := n) (nrem := nrem) (p := kas_rev p 0 n) (by omega) (by rw [kM]; exact hs) ⟨fun i j hij hj => by
      rw [kr, kr]
      by_cases ej : j = n
      ·subst ej
       by_cases ei : i = j
       ·subst ei; exact Nat.le_refl _
       ·rw [all i (by omega)]; omega
      ·rw [all i (by omega), all j (by omega)]; exact Nat.le_refl _, by omega, fun k h3 h4 => by rw [show k = n + 1 - 1 by omega]⟩
    exact ⟨this.asc, this.le, this.pos, this.perm.trans cQ⟩
  ·rw [if_neg h1]
   have e1 : n = 1 := by omega
   subst e1
   exact i5 (by omega) hs ⟨fun i j hij hj => by
     by_cases ej : j = 1
     ·subst ej
      by_cases ei : i = 1
      ·subst ei; exact Nat.le_refl _
      ·rw [show i = 1 - 1 by omega]; omega
     ·rw [show i = j by omega]; exact Nat.le_refl _, by omega, fun k h3 h4 => by rw [show k = 1 + 1 - 1 by omega]⟩
theorem jG {p : Array Nat} {k : Nat} (hp : vf r p k) : ∀ (f l m : Nat), m - l <= f -> l <= m -> m <= k -> (∀ i, i < l -> ka r p i <= ka r p k) -> (∀ i, m <= i -> i < k -> ka r p k <= ka r p i) ->
  aN (b8 r) (kas_place p k f l m) <= k /\ (∀ i, i < aN (b8 r) (kas_place p k f l m) -> ka r p i <= ka r p k) /\ ∀ i, aN (b8 r) (kas_place p k f l m) <= i -> i < k -> ka r p k <= ka r p i
 | 0, l, m, hf, hl, hm, h1, h2 => by
  have : l = m := by omega
  subst this
  exact ⟨by show l <= k; omega, h1, h2⟩
 | f + 1, l, m, hf, hl, hm, h1, h2 => by
  by_cases c : l ≥ m
  ·have e : aN (b8 r) (kas_place p k (f + 1) l m) = l := by
    show aN (b8 r) (if l ≥ m then _ else _) = l
    rw [if_pos c]; rfl
   rw [e]
   have : l = m := by omega
   subst this
   exact ⟨by omega, h1, h2⟩
  ·have e : aN (b8 r) (kas_place p k (f + 1) l m) = if ka r p k < ka r p ((l + m) / 2) then aN (b8 r) (kas_place p k f l ((l + m) / 2)) else aN (b8 r) (kas_place p k f ((l + m) / 2 + 1) m) := by
    show aN (b8 r) (if l ≥ m then _ else _) = _
    rw [if_neg c]
    show aN (b8 r) (if (b8 r) (p.getD k 0) (p.getD ((l + m) / 2) 0) = true then _ else _) = _
    unfold ka
    by_cases d : r (p.getD k 0) < r (p.getD ((l + m) / 2) 0)
    ·rw [if_pos (decide_eq_true d), if_pos d]
    ·rw [if_neg (fun z => d (of_decide_eq_true z)), if_neg d]
   rw [e]
   by_cases d : ka r p k < ka r p ((l + m) / 2)
   ·rw [if_pos d]
    exact jG hp f l ((l + m) / 2) (by omega) (by omega) (by omega) h1 fun i hi hk => Nat.le_trans (Nat.le_of_lt d) (hp _ i hi hk)
   ·rw [if_neg d]
    exact jG hp f ((l + m) / 2 + 1) m (by omega) (by omega) hm (fun i hi => Nat.le_trans (hp i ((l + m) / 2) (by omega) (by omega)) (by omega)) h2
theorem sg : ∀ (f : Nat) (p : Array Nat) (k : Nat), k + f <= p.size -> vf r p k -> vf r (aN (b8 r) (kas_bin f p k)) (k + f) /\ (aN (b8 r) (kas_bin f p k)).Perm p
 | 0, p, k, hs, h => ⟨h, Array.Perm.refl _⟩
 | f + 1, p, k, hs, h => by
  have e : aN (b8 r) (kas_bin (f + 1) p k) = aN (b8 r) (kas_bin f (bubble p k (k - aN (b8 r) (kas_place p k k 0 k))) (k + 1)) := by
   show aN (b8 r) ((kas_place p k k 0 k).bind _) = _
   rw [dX]
  rw [e]
  obtain ⟨l1, l2, l3⟩ := jG (r := r) h k 0 k (by omega) (by omega) (Nat.le_refl _) (fun i hi => absurd hi (Nat.not_lt_zero _)) (fun i hi hk => absurd hk (by omega))
  generalize aN (b8 r) (kas_place p k k 0 k) = l at l1 l2 l3
  have hb : vf r (bubble p k (k - l)) (k + 1) := fun i j hij hj => by
   rw [mH (by omega) (by omega), mH (by omega) (by omega)]
   have ekl : k - (k - l) = l := by omega
   rw [ekl]
   by_cases ei : i = l
   ·rw [if_pos ei]
    by_cases ej : j = l
    ·rw [if_pos ej]; exact Nat.le_refl _
    ·rw [if_neg ej, if_pos ⟨by omega, by omega⟩]; exact l3 (j - 1) (by omega) (by omega)
   ·rw [if_neg ei]
    by_cases ci : l < i /\ i <= k
    ·rw [if_pos ci, if_neg (by omega), if_pos ⟨by omega, by omega⟩]; exact h _ _ (by omega) (by omega)
    ·rw [if_neg ci]
     by_cases ej : j = l
     ·rw [if_pos ej]; exact l2 i (by omega)
     ·rw [if_neg ej]
      by_cases cj : l < j /\ j <= k
      ·rw [if_pos cj]; exact h _ _ (by omega) (by omega)
      ·rw [if_neg cj]; exact h _ _ hij (by omega)
  obtain ⟨b1, b2⟩ := sg f (bubble p k (k - l)) (k + 1) (by rw [bubble_size]; omega) hb
  refine ⟨?_, b2.trans (bubble_perm _ _ _)⟩
  rw [show k + (f + 1) = k + 1 + f by omega]; exact b1
theorem vg {n : Nat} (h2 : 2 <= n) : vf r (aN (b8 r) (kas_sort n)) n /\ (aN (b8 r) (kas_sort n)).Perm (List.toArray (List.range n)) := by
 unfold kas_sort
 rw [dX]
 have G := tJ (r := r) (nrem := n) (p := List.toArray (List.range n)) h2 (by simp)
 generalize aN (b8 r) (kas_count n (List.toArray (List.range n))) = g at G
 obtain ⟨m, p⟩ := g
 have hsz : p.size = n := by rw [G.perm.size_eq]; simp
 have hle : m <= n := G.le
 have hpos : 1 <= m := G.pos
 show vf r (aN (b8 r) (if m < n then kas_bin (n - max m 1) p (max m 1) else KasT.ret p)) n /\ Array.Perm (aN (b8 r) (if m < n then kas_bin (n - max m 1) p (max m 1) else KasT.ret p)) (List.toArray (List.range n))
 by_cases c : m < n
 ·rw [if_pos c]
  have em : max m 1 = m := by omega
  rw [em]
  obtain ⟨b1, b2⟩ := sg (r := r) (n - m) p m (by omega) G.asc
  refine ⟨?_, b2.trans G.perm⟩
  rw [show m + (n - m) = n by omega] at b1; exact b1
 ·rw [if_neg c]
  have em : m = n := by omega
  subst em
  exact ⟨G.asc, G.perm⟩
end
end S3
end
section
namespace S3
open PySem PySem.W PyProof.Rows
def qv (n : Nat) {α : Type} (R : α -> Prop) : KasT α -> Prop
 | .ret a => R a
 | .ask i j k => i < n /\ j < n /\ ∀ b, qv n R (k b)
theorem fb {n : Nat} {α β : Type} {R : α -> Prop} {R' : β -> Prop} {f : α -> KasT β} : ∀ {t : KasT α}, qv n R t -> (∀ a, R a -> qv n R' (f a)) -> qv n R' (t.bind f)
 | .ret a, h, k => k a h
 | .ask i j g, h, k => ⟨h.1, h.2.1, fun b => fb (h.2.2 b) k⟩
theorem vh {n : Nat} {α : Type} {R : α -> Prop} {cmp : Nat -> Nat -> (Bool -> Shared -> Prop) -> Shared -> Prop} {b : Nat -> Nat -> Bool} {s : Shared} {Q : α -> Shared -> Prop} (h : ∀ i j C, i < n -> j < n -> C (b i j) s -> cmp i j C s) :
  ∀ {t : KasT α}, qv n R t -> Q (aN b t) s -> t.kasWp cmp Q s
 | .ret a, _, q => q
 | .ask i j k, o, q => h i j _ o.1 o.2.1 (vh h (o.2.2 (b i j)) q)
theorem kO {n : Nat} {α : Type} {R : α -> Prop} {b b' : Nat -> Nat -> Bool} (h : ∀ i j, i < n -> j < n -> b i j = b' i j) : ∀ {t : KasT α}, qv n R t -> aN b t = aN b' t
 | .ret a, _ => rfl
 | .ask i j k, o => by
  show aN b (k (b i j)) = aN b' (k (b' i j))
  rw [h i j o.1 o.2.1]
  exact kO h (o.2.2 _)
def In (n : Nat) (p : Array Nat) : Prop := 0 < n /\ ∀ x ∈ p.toList, x < n
theorem In.get {n : Nat} {p : Array Nat} (h : In n p) (k : Nat) : p.getD k 0 < n := by
 rw [Array.getD_eq_getD_getElem?]
 cases e : p[k]? with
 | none => exact h.1
 | some x => exact h.2 x (by rw [<- Array.getElem?_toList] at e; exact List.mem_of_getElem? e)
theorem In.perm {n : Nat} {p q : Array Nat} (h : In n p) (e : q.Perm p) : In n q := ⟨h.1, fun x hx => h.2 x ((Array.Perm.toList e).mem_iff.mp hx)⟩
theorem nB {n : Nat} {p : Array Nat} (h : In n p) : ∀ (f m : Nat), qv n (fun _ => True) (kas_asc p f m)
 | 0, m => trivial
 | f + 1, m => ⟨h.get _, h.get _, fun b => by
   cases b with
   | true => exact trivial
   | false => exact nB h f (m + 1)⟩
theorem i6 {n : Nat} : ∀ (f : Nat) (p : Array Nat) (m q : Nat), In n p -> qv n (fun r => In n r.1) (kas_desc f p m q)
 | 0, p, m, q, h => h
 | f + 1, p, m, q, h => ⟨h.get _, h.get _, fun b => by
   cases b with
   | true =>
    show qv n _ (if q > 0 then _ else _)
    split
    ·exact i6 f _ _ _ (h.perm cQ)
    ·exact i6 f _ _ _ h
   | false =>
    refine ⟨h.get _, h.get _, fun b => ?_⟩
    cases b with
    | true => exact h
    | false => exact i6 f _ _ _ h⟩
theorem mJ {n m nrem : Nat} {p : Array Nat} (h : In n p) : qv n (fun r : Nat × Array Nat => In n r.2) (kas_tail3 m nrem p) :=
 fb (nB (h.perm cQ) _ _) fun _ _ => h.perm cQ
theorem i7 {n m nrem : Nat} {p : Array Nat} (h : In n p) : qv n (fun r : Nat × Array Nat => In n r.2) (kas_descPart m nrem p) :=
 fb (i6 _ _ _ _ h) fun a ha => by
  split
  ·exact mJ (ha.perm cQ)
  ·exact mJ ha
theorem tK {n nrem : Nat} {p : Array Nat} (h : In n p) : qv n (fun r : Nat × Array Nat => In n r.2) (kas_count nrem p) :=
 fb (nB h _ _) fun a _ => by
  split
  ·exact h
  ·split
   ·refine ⟨h.get _, h.get _, fun b => ?_⟩
    cases b with
    | true => exact h
    | false => exact i7 (h.perm cQ)
   ·exact i7 h
theorem jH {n k : Nat} {p : Array Nat} (h : In n p) : ∀ (f l m : Nat), qv n (fun _ => True) (kas_place p k f l m)
 | 0, l, m => trivial
 | f + 1, l, m => by
  show qv n _ (if l ≥ m then _ else _)
  split
  ·exact trivial
  ·refine ⟨h.get _, h.get _, fun b => ?_⟩
   cases b with
   | true => exact jH h f _ _
   | false => exact jH h f _ _
theorem sh {n : Nat} : ∀ (f : Nat) (p : Array Nat) (k : Nat), In n p -> qv n (In n) (kas_bin f p k)
 | 0, p, k, h => h
 | f + 1, p, k, h => fb (jH h _ _ _) fun l _ => sh f _ _ (h.perm (bubble_perm _ _ _))
theorem oY {n : Nat} (hn : 0 < n) : qv n (In n) (kas_sort n) :=
 fb (tK ⟨hn, fun x hx => by simpa using hx⟩) fun a ha => by
  split
  ·exact sh _ _ _ ha
  ·exact ha
theorem oZ {α : Type} {p q : α -> Bool} : ∀ {l : List α} {x : α}, (∀ y ∈ l, p y = true -> q y = true) -> x ∈ l -> p x = false -> q x = true -> l.countP p < l.countP q
 | y :: l, x, h, hx, hp, hq => by
  have hl : l.countP p <= l.countP q := List.countP_mono_left fun z hz => h z (List.mem_cons_of_mem _ hz)
  rw [List.countP_cons, List.countP_cons]
  rcases List.mem_cons.mp hx with e | hx'
  ·subst e
   rw [hp, hq]; simp; omega
  ·have ih := oZ (fun z hz => h z (List.mem_cons_of_mem _ hz)) hx' hp hq
   have hy := h y List.mem_cons_self
   cases e1 : p y with
   | true => rw [hy e1]; simp; omega
   | false => simp; split <;> omega
theorem xc {n : Nat} {b : Nat -> Nat -> Bool} (h2 : 2 <= n) (irr : ∀ i, i < n -> b i i = false) (tr : ∀ i j k, i < n -> j < n -> k < n -> b i j = true -> b j k = true -> b i k = true) (neg : ∀ i j k, i < n -> j < n -> k < n -> b i k = true -> b i j = true \/ b j k = true) :
  (aN b (kas_sort n)).Perm (List.toArray (List.range n)) /\ ∀ i j, i <= j -> j < n -> b ((aN b (kas_sort n)).getD j 0) ((aN b (kas_sort n)).getD i 0) = false := by
 let r : Nat -> Nat := fun i => (List.range n).countP fun j => b j i
 have hr : ∀ i j, i < n -> j < n -> b i j = decide (r i < r j) := fun i j hi hj => by
  cases e : b i j with
  | true =>
   refine (decide_eq_true ?_).symm
   exact oZ (x := i) (fun y hy h => tr y i j (List.mem_range.mp hy) hi hj h e) (List.mem_range.mpr hi) (irr i hi) e
  | false =>
   refine (decide_eq_false (Nat.not_lt.mpr ?_)).symm
   refine List.countP_mono_left fun y hy h => ?_
   rcases neg y i j (List.mem_range.mp hy) hi hj h with z | z
   ·exact z
   ·rw [e] at z; cases z
 have ek : aN b (kas_sort n) = aN (b8 r) (kas_sort n) := kO hr (oY (by omega))
 obtain ⟨a1, a2⟩ := vg (r := r) h2
 rw [ek]
 refine ⟨a2, fun i j hij hj => ?_⟩
 have hin : In n (aN (b8 r) (kas_sort n)) := In.perm ⟨by omega, fun x hx => by simpa using hx⟩ a2
 rw [hr _ _ (hin.get j) (hin.get i)]
 exact decide_eq_false (Nat.not_lt.mpr (a1 i j hij hj))
end S3
end
section
namespace S3
open PySem PySem.Spec PySem.W PyProof.Rows L2
section
variable {prog : Program} {w : World} {A : Around} {E : Value -> Shared -> Prop} {s : Shared} {Q : Bool -> Shared -> Prop}
theorem pd {b : Bool} : ∀ {us ws : List Value} {ns ms : List Int} (i : Nat), (b = true \/ 0 < i \/ True) -> IntsAre us ns -> IntsAre ws ms -> Q (HT.lexLt ns ms) s ->
  KatLex prog w A b (decide (us.length < ws.length)) Q (us.zip ws) i s \/ us.length ≠ ws.length
 | [], [], ns, ms, i, _, h1, h2, q => by
  cases h1
  cases h2
  exact .inl q
 | [], _ :: _, _, _, _, _, _, _, _ => .inr (by simp)
 | _ :: _, [], _, _, _, _, _, _, _ => .inr (by simp)
 | u :: us, v :: ws, ns, ms, i, hb, h1, h2, q => by
  cases h1 with
  | cons n t h1 =>
  cases h2 with
  | cons k t' h2 =>
   rw [HT.lexLt_cons] at q
   by_cases e : n = k
   ·rw [if_pos e] at q
    rcases pd (b := b) (i + 1) (.inr (.inr trivial)) h1 h2 q with z | z
    ·refine .inl (kat_cons (wpAny_eqBool_int ?_))
     have : (n == k) = true := by simp [e]
     rw [this]
     refine kat_yes ?_
     show KatLex prog w A b (decide (us.length + 1 < ws.length + 1)) Q (us.zip ws) (i + 1) s
     rw [show decide (us.length + 1 < ws.length + 1) = decide (us.length < ws.length) by simp]
     exact z
    ·exact .inr (by simpa using z)
   ·rw [if_neg e] at q
    refine .inl (kat_cons (wpAny_eqBool_int ?_))
    have : (n == k) = false := by simp [e]
    rw [this]
    refine kat_no ?_
    cases hbi : (b && i == 0) with
    | true => exact oneLt_int q
    | false => exact kat_one _ _ (lt_int q)
end
structure Tups (h : Heap) (vs : List Value) (nss : List (List Int)) (c : Nat) : Prop where
 len : vs.length = nss.length
 get : ∀ (i : Nat), i < vs.length -> ∃ a o us n, vs.getD i Value.none = .ref a /\ h.get? a = some o /\ o.cls = .type "tuple" /\ o.data = .seq us n /\ IntsAre us.toList (nss.getD i []) /\ us.size = c + 1
theorem Tups.keep {h h' : Heap} {vs : List Value} {nss : List (List Int)} {c : Nat} (t : Tups h vs nss c) (k : ∀ i a o, i < vs.length -> vs.getD i Value.none = .ref a -> h.get? a = some o -> h'.get? a = some o) : Tups h' vs nss c :=
 ⟨t.len, fun i hi => let ⟨a, o, us, n, e1, e2, r⟩ := t.get i hi; ⟨a, o, us, n, e1, k i a o hi e1 e2, r⟩⟩
theorem Tups.ask {prog : Program} {w : World} {A : Around} {s : Shared} {vs : List Value} {nss : List (List Int)} {c : Nat} (t : Tups s.heap vs nss c) {b : Bool} {i j : Nat} {C : Bool -> Shared -> Prop} (hi : i < vs.length) (hj : j < vs.length)
  (q : C (HT.lexLt (nss.getD i []) (nss.getD j [])) s) : kas_ask prog w A (tuples' b) vs i j C s := by
 obtain ⟨a, o, us, n, e1, e2, e3, e4, e5, e6⟩ := t.get i hi
 obtain ⟨a', o', us', n', f1, f2, f3, f4, f5, f6⟩ := t.get j hj
 unfold kas_ask
 rw [e1, f1]
 refine kat_lt e2 e4 f2 f4 ?_
 have hz : us.toList.length = us'.toList.length := by simp [e6, f6]
 rcases pd (prog := prog) (w := w) (A := A) (b := b) 0 (.inr (.inr trivial)) e5 f5 q with z | z
 ·simpa using z
 ·exact absurd hz z
end S3
end
section
namespace S3
open PySem PySem.Spec PyProof.Rows L2
abbrev St := L2.St
def gu (cells : List (Str × Addr)) : List (Str × NameKind) -> List (Str × Addr) -> List (Str × Addr)
 | [], cs => cs
 | (n, k) :: r, cs => gu cells r (if k == .free then (n, (cells.lookup n).getD 0) :: cs else cs)
theorem i8 (scope : Scope) (env : Env) (h : ∀ y ∈ scope.names, y.2 = .free -> ∃ c, env.cells.lookup y.1 = some c) : closureFor scope env = pure (gu env.cells scope.names []) := by
 have go : ∀ (names : List (Str × NameKind)) (cs : List (Str × Addr)), (∀ y ∈ names, y.2 = .free -> ∃ c, env.cells.lookup y.1 = some c) ->
   (forIn names cs (fun (x : Str × NameKind) (r : List (Str × Addr)) => (if (x.2 == NameKind.free) = true then do let a <- cellOf env x.1; pure (ForInStep.yield ((x.1, a) :: r)) else pure (ForInStep.yield r) : Sem (ForInStep (List (Str × Addr))))) : Sem (List (Str × Addr))) = pure (gu env.cells names cs) := by
  intro names
  induction names with
  | nil => intro cs _; rfl
  | cons y r ih =>
   intro cs hy
   obtain ⟨n, k⟩ := y
   have hr : ∀ y ∈ r, y.2 = .free -> ∃ c, env.cells.lookup y.1 = some c := fun y hm => hy y (List.mem_cons_of_mem _ hm)
   rw [List.forIn_cons]
   by_cases hk : (k == NameKind.free) = true
   ·have hk' : k = .free := by simpa using hk
    obtain ⟨c, hc⟩ := hy (n, k) List.mem_cons_self hk'
    have e : cellOf env n = pure c := by unfold cellOf; rw [hc]
    simp only [hk, if_true, e, pure_bind]
    rw [ih _ hr]
    simp only [gu, hk, if_true, hc, Option.getD_some]
   ·have hk2 : (k == NameKind.free) = false := by simpa using hk
    simp only [hk2, Bool.false_eq_true, if_false, pure_bind]
    rw [ih _ hr]
    simp only [gu, hk2, Bool.false_eq_true, if_false]
 have := go scope.names [] h
 unfold closureFor
 simp only [bind_pure] at *
 exact this
theorem nD {cells : List (Str × Addr)} : ∀ (names : List (Str × NameKind)) (cs : List (Str × Addr)), (∀ y ∈ names, y.2 = .free -> ∃ c, cells.lookup y.1 = some c) -> (∀ p ∈ cs, cells.lookup p.1 = some p.2) ->
  ∀ p ∈ gu cells names cs, cells.lookup p.1 = some p.2
 | [], cs, _, h => h
 | (n, k) :: r, cs, hy, h => by
  refine nD r _ (fun y hm => hy y (List.mem_cons_of_mem _ hm)) fun p hp => ?_
  by_cases hk : (k == NameKind.free) = true
  ·rw [if_pos hk] at hp
   rcases List.mem_cons.mp hp with rfl | hp
   ·obtain ⟨c, hc⟩ := hy (n, k) List.mem_cons_self (by simpa using hk)
    show cells.lookup n = some ((cells.lookup n).getD 0)
    have hc' : cells.lookup n = some c := hc
    rw [hc']; rfl
   ·exact h p hp
  ·rw [if_neg hk] at hp; exact h p hp
theorem gv {cells : List (Str × Addr)} {x : Str} : ∀ (names : List (Str × NameKind)) (cs : List (Str × Addr)), (x, NameKind.free) ∈ names \/ x ∈ cs.map (·.1) -> x ∈ (gu cells names cs).map (·.1)
 | [], cs, h => by
  rcases h with h | h
  ·cases h
  ·exact h
 | (n, k) :: r, cs, h => by
  refine gv r _ ?_
  rcases h with h | h
  ·rcases List.mem_cons.mp h with e | h
   ·cases e
    refine .inr ?_
    simp
   ·exact .inl h
  ·refine .inr ?_
   by_cases hk : (k == NameKind.free) = true
   ·rw [if_pos hk]; exact List.mem_cons_of_mem _ h
   ·rw [if_neg hk]; exact h
theorem lookup_mem {x : Str} {c : Addr} : ∀ {l : List (Str × Addr)}, l.lookup x = some c -> (x, c) ∈ l
 | [], h => by cases h
 | (n, a) :: r, h => by
  by_cases e : x == n
  ·have e' : x = n := by simpa using e
   rw [List.lookup_cons, e] at h
   have h' : some a = some c := h
   cases h'; subst e'; exact List.mem_cons_self
  ·have e2 : (x == n) = false := by simpa using e
   rw [List.lookup_cons, e2] at h
   exact List.mem_cons_of_mem _ (lookup_mem h)
theorem mem_lookup {x : Str} : ∀ {l : List (Str × Addr)}, x ∈ l.map (·.1) -> ∃ c, l.lookup x = some c
 | [], h => by cases h
 | (n, a) :: r, h => by
  by_cases e : x == n
  ·exact ⟨a, by rw [List.lookup_cons, e]⟩
  ·have e2 : (x == n) = false := by simpa using e
   rw [List.lookup_cons, e2]
   refine mem_lookup ?_
   rcases List.mem_cons.mp h with z | z
   ·have z' : x = n := z
    subst z'; simp at e
   ·exact z
theorem aS {x : Str} {k : NameKind} : ∀ {l : List (Str × NameKind)}, l.lookup x = some k -> (x, k) ∈ l
 | [], h => by cases h
 | (n, a) :: r, h => by
  by_cases e : x == n
  ·have e' : x = n := by simpa using e
   rw [List.lookup_cons, e] at h
   have h' : some a = some k := h
   cases h'; subst e'; exact List.mem_cons_self
  ·have e2 : (x == n) = false := by simpa using e
   rw [List.lookup_cons, e2] at h
   exact List.mem_cons_of_mem _ (aS h)
theorem fH {env : Env} {x : Str} : ∀ {names : List (Str × NameKind)} {k : NameKind},
  (names.map fun (n, k) => if (k == NameKind.free && env.scope.kind == .function && env.kindOf n == some .cell) then (n, NameKind.cell) else (n, k)).lookup x = some k ->
   names.lookup x = some k \/ (k = .cell /\ names.lookup x = some .free)
 | [], k, h => by cases h
 | (n, a) :: r, k, h => by
  by_cases e : x == n
  ·rw [List.map_cons] at h
   by_cases c : (a == NameKind.free && env.scope.kind == .function && env.kindOf n == some .cell) = true
   ·have ha : a = .free := by
     simp only [Bool.and_eq_true, beq_iff_eq] at c; exact c.1.1
    simp only [c, if_true, List.lookup_cons, e] at h
    cases h
    refine .inr ⟨rfl, ?_⟩
    rw [List.lookup_cons, e, ha]
   ·have c' : (a == NameKind.free && env.scope.kind == .function && env.kindOf n == some .cell) = false := by simpa using c
    simp only [c', Bool.false_eq_true, if_false, List.lookup_cons, e] at h
    refine .inl ?_
    rw [List.lookup_cons, e]; exact h
  ·have e2 : (x == n) = false := by simpa using e
   rw [List.lookup_cons, e2]
   refine fH (env := env) (names := r) ?_
   rw [List.map_cons] at h
   by_cases c : (a == NameKind.free && env.scope.kind == .function && env.kindOf n == some .cell) = true
   ·simp only [c, if_true, List.lookup_cons, e2] at h; exact h
   ·have c' : (a == NameKind.free && env.scope.kind == .function && env.kindOf n == some .cell) = false := by simpa using c
    simp only [c', Bool.false_eq_true, if_false, List.lookup_cons, e2] at h; exact h
theorem i9 {env : Env} {x : Str} : ∀ {names : List (Str × NameKind)}, names.lookup x = some .free ->
  (names.map fun (n, k) => if (k == NameKind.free && env.scope.kind == .function && env.kindOf n == some .cell) then (n, NameKind.cell) else (n, k)).lookup x = some .cell \/
  (names.map fun (n, k) => if (k == NameKind.free && env.scope.kind == .function && env.kindOf n == some .cell) then (n, NameKind.cell) else (n, k)).lookup x = some .free
 | [], h => by cases h
 | (n, a) :: r, h => by
  rw [List.map_cons]
  by_cases e : x == n
  ·rw [List.lookup_cons, e] at h
   have ha : some a = some NameKind.free := h
   cases ha
   by_cases c : (NameKind.free == NameKind.free && env.scope.kind == .function && env.kindOf n == some .cell) = true
   ·refine .inl ?_
    simp only [c, if_true, List.lookup_cons, e]
   ·have c' : (NameKind.free == NameKind.free && env.scope.kind == .function && env.kindOf n == some .cell) = false := by simpa using c
    refine .inr ?_
    simp only [c', Bool.false_eq_true, if_false, List.lookup_cons, e]
  ·have e2 : (x == n) = false := by simpa using e
   rw [List.lookup_cons, e2] at h
   have ih := i9 (env := env) h
   by_cases c : (a == NameKind.free && env.scope.kind == .function && env.kindOf n == some .cell) = true
   ·simp only [c, if_true, List.lookup_cons, e2]; exact ih
   ·have c' : (a == NameKind.free && env.scope.kind == .function && env.kindOf n == some .cell) = false := by simpa using c
    simp only [c', Bool.false_eq_true, if_false, List.lookup_cons, e2]; exact ih
theorem qK : ∀ {names : List (Str × NameKind)} {n : Nat} {acc : List (Str × Addr)} {p : Str × Addr}, p ∈ cellsFrom n names acc -> p ∈ acc \/ n <= p.2
 | [], n, acc, p, h => .inl h
 | (x, k) :: r, n, acc, p, h => by
  unfold cellsFrom at h
  split at h
  ·rcases qK h with h | h
   ·rcases List.mem_cons.mp h with rfl | h
    ·exact .inr (Nat.le_refl _)
    ·exact .inl h
   ·exact .inr (Nat.le_of_succ_le h)
  ·exact qK h
theorem qL : ∀ {names : List (Str × NameKind)} {n : Nat} {acc : List (Str × Addr)}, (∀ p ∈ acc, p.2 < n) -> (∀ x y c, (x, c) ∈ acc -> (y, c) ∈ acc -> x = y) -> ∀ x y c, (x, c) ∈ cellsFrom n names acc -> (y, c) ∈ cellsFrom n names acc -> x = y
 | [], n, acc, _, hi, x, y, c, h1, h2 => hi x y c h1 h2
 | (z, k) :: r, n, acc, hl, hi, x, y, c, h1, h2 => by
  unfold cellsFrom at h1 h2
  by_cases hk : (k == NameKind.cell) = true
  ·rw [if_pos hk] at h1 h2
   refine qL (fun p hp => ?_) (fun x y c g1 g2 => ?_) x y c h1 h2
   ·rcases List.mem_cons.mp hp with rfl | hp
    ·exact Nat.lt_succ_self _
    ·exact Nat.lt_succ_of_lt (hl p hp)
   ·rcases List.mem_cons.mp g1 with g1 | g1 <;> rcases List.mem_cons.mp g2 with g2 | g2
    ·rw [<- g2] at g1; exact (Prod.mk.inj g1).1
    ·cases g1; exact absurd (hl _ g2) (Nat.lt_irrefl _)
    ·cases g2; exact absurd (hl _ g1) (Nat.lt_irrefl _)
    ·exact hi x y c g1 g2
  ·rw [if_neg hk] at h1 h2
   exact qL hl hi x y c h1 h2
theorem nE {x : Str} : ∀ {names : List (Str × NameKind)} {n : Nat} {acc : List (Str × Addr)}, (∀ y ∈ names, y.2 = .cell -> y.1 ≠ x) -> (cellsFrom n names acc).lookup x = acc.lookup x
 | [], _, _, _ => rfl
 | (z, k) :: r, n, acc, h => by
  unfold cellsFrom
  split
  ·next hk =>
   rw [nE fun y hy => h y (List.mem_cons_of_mem _ hy), List.lookup_cons]
   have : (x == z) = false := by
    have := h (z, k) List.mem_cons_self (by simpa using hk)
    simpa using Ne.symm this
   rw [this]
  ·exact nE fun y hy => h y (List.mem_cons_of_mem _ hy)
theorem nF : ∀ {names : List (Str × NameKind)} {h : Heap} {acc : List (Str × Addr)} {p : Str × Addr}, p ∈ cellsFrom h.objs.size names acc -> p ∈ acc \/ (pushCells h names).IsCell p.2 none
 | [], h, acc, p, q => .inl q
 | (x, k) :: r, h, acc, p, q => by
  unfold cellsFrom at q
  unfold pushCells
  split at q
  ·next hk =>
   rw [if_pos hk]
   have q' : p ∈ cellsFrom (h.push { cls := .type "cell", data := .cell none }).objs.size r ((x, h.objs.size) :: acc) := by rw [Heap.size_push]; exact q
   rcases nF q' with q' | q'
   ·rcases List.mem_cons.mp q' with rfl | q'
    ·exact .inr ⟨_, pushCells_keeps _ _ _ _ (Heap.get?_push_size _ rfl), rfl⟩
    ·exact .inl q'
   ·exact .inr q'
  ·next hk =>
   rw [if_neg hk]
   exact nF q
theorem qM {x : Str} {a : Addr} {m : Nat} : ∀ (names : List (Str × NameKind)) (n : Nat) (acc : List (Str × Addr)), ((x, NameKind.cell) ∈ names \/ ∃ c, acc.lookup x = some c /\ m <= c) -> m <= n -> (cellsFrom n names acc).lookup x = some a -> m <= a
 | [], n, acc, h, hm, e => by
  rcases h with h | ⟨c, h2, h3⟩
  ·cases h
  ·have e' : acc.lookup x = some a := e
   rw [h2] at e'; cases e'; exact h3
 | (z, k) :: r, n, acc, h, hm, e => by
  unfold cellsFrom at e
  by_cases hk : (k == NameKind.cell) = true
  ·rw [if_pos hk] at e
   refine qM r (n + 1) _ ?_ (Nat.le_succ_of_le hm) e
   by_cases hz : (x == z) = true
   ·exact .inr ⟨n, by rw [List.lookup_cons, hz], hm⟩
   ·have hz' : (x == z) = false := by simpa using hz
    rcases h with h | ⟨c, h2, h3⟩
    ·rcases List.mem_cons.mp h with h | h
     ·cases h; simp at hz
     ·exact .inl h
    ·exact .inr ⟨c, by rw [List.lookup_cons, hz']; exact h2, h3⟩
  ·rw [if_neg hk] at e
   refine qM r n acc ?_ hm e
   rcases h with h | h
   ·rcases List.mem_cons.mp h with h | h
    ·cases h; simp at hk
    ·exact .inl h
   ·exact .inr h
theorem tL {M : Model} {A : Around} {E : Value -> Shared -> Prop} {s : Shared} {scope : Scope} {cl : List (Str × Addr)} {env : Env} {Q : Env -> Shared -> Prop}
  (h : ∀ h1, h1.Ns s.heap.objs.size (fun _ => none) -> (∀ b o, s.heap.get? b = some o -> h1.get? b = some o) -> (∀ p ∈ cellsFrom (s.heap.objs.size + 1) scope.names cl, p ∈ cl \/ h1.IsCell p.2 none) ->
   Q { scope, locals := s.heap.objs.size, globals := env.globals, cells := cellsFrom (s.heap.objs.size + 1) scope.names cl, qual := env.qual, func := none, code := env.code, frame := env.frame, builtins := env.builtins } { s with heap := h1 }) :
  wpAny M A (newFunctionEnv scope env.globals cl [] env.qual none .none (some env)) Q E s := by
 simp only [newFunctionEnv, Option.isSome_some, if_true]
 refine wpAny_bind (wpAny_alloc (wpAny_bind (wpAny_layCells _ (fun name kind cells => by cases hkc : kind == NameKind.cell <;> simp [hkc]) _ _ _ _ ?_)))
 have e : ({ s with heap := s.heap.push { cls := .type "dict", data := .dict #[] } } : Shared).heap.objs.size = s.heap.objs.size + 1 := Heap.size_push ..
 rw [e]
 refine wpAny_bind (m := forIn [] _ _) (wpAny_pure (wpAny_pure (h _ ((Heap.Ns.new s.heap (.type "dict")).keeps (pushCells_keeps _ _)) (fun b o q => pushCells_keeps _ _ b o (Heap.get?_push_of_some _ q)) fun p hp => ?_)))
 exact nF (h := s.heap.push { cls := .type "dict", data := .dict #[] }) (by rw [e]; exact hp)
def a7 (X : Cx) (scope : Scope) (Nc : List Str) (C : Addr) (ex : List Addr) (s : Shared) (H : Hp) : Cx :=
 { X with N := Nc, s₀ := s, H₀ := H, env := compEnvC scope (cellsFrom (C + 1) scope.names (gu X.env.cells scope.names [])) C X.env, outer := X.stack, stack := X.stack, ex := ex, fn := fun x => scope.names.lookup x == some .cell, pn := [], xe := fun _ _ => False }
structure CompScope (X : Cx) (scope : Scope) (Nc : List Str) (js : List (Option Nat)) : Prop where
 kind : scope.kind = .function
 cel : ∀ y ∈ scope.names, y.2 = .cell -> scope.names.lookup y.1 = some .cell
 loc : ∀ y ∈ scope.names, y.2 = .local -> scope.names.lookup y.1 = some .local
 free : ∀ y ∈ scope.names, y.2 = .free -> X.env.kindOf y.1 = some .cell \/ X.env.kindOf y.1 = some .free
 len : js.length = Nc.length
 ix : ∀ (i : Nat) (x : Str) (j : Nat), Nc[i]? = some x -> js[i]? = some (some j) -> X.N[j]? = some x /\ scope.names.lookup x = some .free
def nG (js : List (Option Nat)) (σ : St) : St := js.map fun o => o.bind fun j => (σ[j]?).join
def AE (X : Cx) (ifs : List Expr) (t : TT) : Prop :=
 ∀ (pins : List (Addr × Obj)) (s : Shared) (σ : St) (H : Hp) (Q : Bool -> Hp -> Prop), Inv X pins σ H s -> t σ H Q ->
  wpAny (model X.prog X.w) X.A (forIn ifs true fun c r => if r = true then do let ok <- isTrue c X.env (eval c X.env); pure (ForInStep.yield ok) else pure (ForInStep.yield r)) (TP X pins σ Q) X.xe s
theorem xf {X : Cx} : AE X [] (fun _ H Q => Q true H) := fun pins s σ H Q I h => wpAny_tests_nil ⟨H, I, h⟩
theorem xg {X : Cx} {c : Expr} {t : TT} (h : PT X c t) : AE X [c] t := fun pins s σ H Q I hw => wpAny_tests_one (h pins s σ H Q I hw)
def si (wi : TI) (js : List (Option Nat)) (g : TG) (tt : TT) (te : TE) : TE := fun σ H Q => wi σ H fun J H1 => ∀ p, H1 p = none ->
 ∃ W : Nat -> Nat -> St -> Hp -> Prop, (∃ m, W 0 m (nG js σ) (upd H1 p (.lst []))) /\ ∀ i m σc Hc, W i m σc Hc ->
  (J.stop i Hc /\ Q (.ref p) Hc) \/ (J.go i Hc /\ ∃ N : St -> Hp -> Prop, (∀ σ' H', N σ' H' -> ∃ m', m' < m /\ W (i + 1) m' σ' H') /\ ∀ x H', J.yld i Hc x H' -> g x σc H' fun σ2 H2 => tt σ2 H2 fun b H3 =>
   if b = true then te σ2 H3 fun y H4 => ∃ xs, H4 p = some (.lst xs) /\ xs.length < sizeLine /\ N σ2 (upd H4 p (.lst (xs ++ [y]))) else N σ2 H3)
section
variable {X : Cx} {scope : Scope} {Nc : List Str} {js : List (Option Nat)} {pins : List (Addr × Obj)} {σ : St} {H : Hp} {s : Shared}
theorem CompScope.has (c : CompScope X scope Nc js) (ok : X.Ok) : ∀ y ∈ scope.names, y.2 = .free -> ∃ a, X.env.cells.lookup y.1 = some a := fun y hy e => ok.has y.1 (c.free y hy e)
theorem qN {C : Addr} {ex : List Addr} {h1 : Heap} {tk : Nat} (c : CompScope X scope Nc js) (I : Inv X pins σ H s) (hex : ∀ b ∈ ex, jF X pins H b) (hlt : ∀ b ∈ ex, b < s.heap.objs.size)
  (hC : C = s.heap.objs.size) (hn : h1.Ns C (fun _ => none)) (hs : ∀ b o, s.heap.get? b = some o -> h1.get? b = some o)
  (hcs : ∀ p ∈ cellsFrom (C + 1) scope.names (gu X.env.cells scope.names []), p ∈ gu X.env.cells scope.names [] \/ h1.IsCell p.2 none) :
  Inv (a7 X scope Nc C ex s H) [] (nG js σ) H { s with heap := h1, toks := tk } := by
 have hcl := nD (cells := X.env.cells) scope.names [] (c.has I.ok) (fun _ z => nomatch z)
 have cl_lk : ∀ x a, (gu X.env.cells scope.names []).lookup x = some a -> X.env.cells.lookup x = some a := fun x a e => hcl _ (lookup_mem e)
 have lt_ne : ∀ b o, s.heap.get? b = some o -> b ≠ C := fun b o e => by rw [hC]; exact Nat.ne_of_lt (Heap.lt_size e)
 have cl_lt : ∀ p ∈ gu X.env.cells scope.names [], p.2 < C + 1 := fun p hp => by
  obtain ⟨v, oc, ho, _⟩ := I.cell p.1 p.2 (hcl p hp)
  rw [hC]; exact Nat.lt_succ_of_lt (Heap.lt_size ho)
 have cf_cases : ∀ x a, (cellsFrom (C + 1) scope.names (gu X.env.cells scope.names [])).lookup x = some a -> X.env.cells.lookup x = some a \/ (C < a /\ h1.IsCell a none) := fun x a e => by
  have hm := lookup_mem e
  rcases hcs _ hm with z | z
  ·exact .inl (hcl _ z)
  ·rcases qK hm with y | y
   ·exact .inl (hcl _ y)
   ·exact .inr ⟨y, z⟩
 refine ⟨⟨I.ok.mod, c.kind, I.ok.glob, I.ok.blt, Nat.le_of_eq hC.symm, fun x y a e1 e2 => qL cl_lt (fun x y a e1 e2 => I.ok.inj x y a (hcl _ e1) (hcl _ e2)) x y a (lookup_mem e1) (lookup_mem e2), fun x hk => ?_, fun x a z e => ?_, I.ok.hd, I.ok.frames, .inl rfl, fun b hb => ⟨?_, fun x a e z => ?_⟩,
  I.bs, Nat.le_trans I.ok.bsz I.sz, fun b o e hb => ?_, fun b hb z => ?_, I.stack, I.stkFree⟩, rfl, I.bare, Un.kept hs, ⟨_, hn, fun i x v e1 e2 e3 => ?_⟩, fun x a e => ?_, ?_, fun x a e => ?_, (fun p hp => nomatch hp), I.hok.kept hs, ?_⟩
 ·-- names that are cells here have one
  have hk' : scope.names.lookup x = some .free \/ scope.names.lookup x = some .cell := by
   rcases hk with hk | hk
   ·rcases fH (env := X.env) (names := scope.names) hk with z | ⟨_, z⟩
    ·exact .inr z
    ·exact .inl z
   ·rcases fH (env := X.env) (names := scope.names) hk with z | ⟨z, _⟩
    ·exact .inl z
    ·cases z
  refine Option.isSome_iff_exists.mp (PySem.W.cellsFrom_some scope.names (C + 1) _ ?_)
  rcases hk' with z | z
  ·exact .inr (Option.isSome_iff_exists.mpr (mem_lookup (gv scope.names [] (.inl (aS z)))))
  ·exact .inl z
 ·-- the block's own cells are new
  have z' : scope.names.lookup x = some .cell := by
   have : (scope.names.lookup x == some .cell) = true := z
   simpa using this
  show s.heap.objs.size <= a
  rw [<- hC]; exact Nat.le_of_succ_le (qM (m := C + 1) scope.names (C + 1) _ (.inl (aS z')) (Nat.le_refl _) e)
 ·show b ≠ C
  rw [hC]; exact Nat.ne_of_lt (hlt b hb)
 ·rcases cf_cases x a e with y | ⟨y, _⟩
  ·exact (hex b hb).2.2.2.2.1 x a y z
  ·rw [z, hC] at y; exact Nat.lt_irrefl _ (Nat.lt_trans y (hlt b hb))
 ·have : b < X.base.objs.size := Heap.lt_size e
  rcases (hex b hb).2.2.2.1 with z | z
  ·exact I.ok.noex b o e z
  ·exact absurd (Nat.lt_of_lt_of_le this (Nat.le_trans I.ok.bsz z)) (Nat.lt_irrefl _)
 ·rcases List.mem_cons.mp (I.stkSub b z) with e | e
  ·exact (hex b hb).2.1 e
  ·exact (hex b hb).2.2.1 e
 ·-- the names that are read from around
  have e1' : Nc[i]? = some x := e1
  have : ∃ j, js[i]? = some (some j) /\ σ[j]? = some (some v) := by
   unfold nG at e2
   rw [List.getElem?_map] at e2
   cases q : js[i]? with
   | none => rw [q] at e2; cases e2
   | some o =>
    rw [q] at e2
    cases o with
    | none => cases e2
    | some j =>
     refine ⟨j, rfl, ?_⟩
     have e2' : (σ[j]?).join = some v := Option.some.inj e2
     cases r : σ[j]? with
     | none => rw [r] at e2'; cases e2'
     | some z => rw [r] at e2'; exact congrArg some e2'
  obtain ⟨j, hj, hv⟩ := this
  obtain ⟨hN, hfr⟩ := c.ix i x j e1' hj
  obtain ⟨m, hnm, hl⟩ := I.loc
  have hkf := c.free (x, .free) (aS hfr) rfl
  have hvis : yh X.env.scope x := by
   rcases hkf with z | z
   ·exact .inr (.inl z)
   ·exact .inr (.inr z)
  obtain ⟨u, ru, lk⟩ := hl j x v hN hv hvis
  refine ⟨u, ru, .inr ⟨?_, ?_⟩⟩
  ·rcases i9 (env := X.env) hfr with z | z
   ·exact .inl z
   ·exact .inr z
  ·rcases lk with ⟨z, _⟩ | ⟨_, a, ea, ha⟩
   ·rcases hkf with y | y
    ·rw [show X.env.kindOf x = some NameKind.cell from y] at z; cases z
    ·rw [show X.env.kindOf x = some NameKind.free from y] at z; cases z
   ·obtain ⟨b, hb⟩ := mem_lookup (gv (cells := X.env.cells) scope.names [] (.inl (aS hfr)))
    have := cl_lk x b hb
    rw [ea] at this; cases this
    obtain ⟨oc, ho, hd⟩ := ha
    refine ⟨a, ?_, oc, hs _ _ ho, hd⟩
    show (cellsFrom (C + 1) scope.names (gu X.env.cells scope.names [])).lookup x = some a
    rw [nE fun y hy e z => by have := c.cel y hy e; rw [z, hfr] at this; cases this]
    exact hb
 ·rcases cf_cases x a e with y | ⟨_, y⟩
  ·obtain ⟨v, oc, ho, hd⟩ := I.cell x a y
   exact ⟨v, oc, hs _ _ ho, hd⟩
  ·exact ⟨_, y⟩
 ·show H C = none
  rw [hC]; exact I.hok.fresh (Nat.le_refl _)
 ·rcases cf_cases x a e with y | ⟨y, _⟩
  ·exact I.freeC x a y
  ·exact I.hok.fresh (by rw [<- hC]; exact Nat.le_of_lt y)
 ·show (nG js σ).length = Nc.length
  unfold nG
  rw [List.length_map]; exact c.len
theorem vi {C : Addr} {ex : List Addr} {σc : St} {H' : Hp} {s' : Shared} {h2 : Heap} (I : Inv X pins σ H s) (hC : C = s.heap.objs.size) (hex : ∀ b ∈ ex, jF X pins H b)
  (Ic : Inv (a7 X scope Nc C ex s H) [] σc H' s') (hs : Heap.SameBut C s'.heap h2) : Inv X pins σ H' { s' with heap := h2 } := by
 have hne : ∀ b o, s.heap.get? b = some o -> b ≠ C := fun b o e => by rw [hC]; exact Nat.ne_of_lt (Heap.lt_size e)
 have B := Ic.base
 have u : Un (gr X.stack) ex H H' s.heap h2 := {
  keep := fun b o e n hb hx => (hs.2 b (hne b o e)).trans (B.keep b o e n hb hx)
  slot := fun b o e n hb hx => by
   obtain ⟨sl, q⟩ := B.slot b o e n hb hx
   exact ⟨sl, (hs.2 b (hne b o e)).trans q⟩
  free := B.free
  there := fun b o e hx => by
   obtain ⟨o', q⟩ := B.there b o e hx
   exact ⟨o', (hs.2 b (hne b o e)).trans q⟩
  tups := B.tups
  frzs := B.frzs
  tbls := B.tbls }
 refine I.call' (s' := { s' with heap := h2 }) (ch := ex) Ic.os u (fun b o e => ?_) Ic.bare fun b hb => ⟨(hex b hb).2.2.2.1, (hex b hb).2.1, (hex b hb).2.2.2.2.1, (hex b hb).2.2.2.2.2⟩
 have nC : ∀ b o, H' b = some o -> b ≠ C := fun b o e z => by
  have hf : H' C = none := Ic.free
  rw [z, hf] at e; cases e
 refine (Ic.hok b o e).stay (fun d v hd q => ?_) (fun _ q => q) fun _ _ q => q
 refine (hs.2 d ?_).trans q
 rcases hd with z | z
 ·subst z; exact nC _ _ e
 ·exact nC _ _ z
theorem pe {elt tg iter : Expr} {ifs : List Expr} {pos pos' : Pos} {wi : TI} {g : TG} {tt : TT} {te : TE} {Q : VK} (use : Option (Value -> Sem Unit)) (Qr : Value -> Shared -> Prop) (c : CompScope X scope Nc js) (hc : X.calm = true) (hi : PI X tg iter wi)
  (hin : ∀ C ex s H, PG (a7 X scope Nc C ex s H) tg g /\ AE (a7 X scope Nc C ex s H) ifs tt /\ PE (a7 X scope Nc C ex s H) elt te)
  (I : Inv X pins σ H s) (h : si wi js g tt te σ H Q)
  (hfin : ∀ p C s' H', Q (.ref p) H' -> (∀ h2, Heap.SameBut C s'.heap h2 -> Inv X pins σ H' { s' with heap := h2 }) -> (∃ m, s'.heap.Ns C m) -> jF X pins H' C ->
   compPost (model X.prog X.w) X.A X.xe use Qr (.ref p) C (.ok .next) s')
  (hs : ∀ x, foldedSetIterable iter X.env x = pure x := by intro _; rfl) :
  wpAny (model X.prog X.w) X.A (comprehension (.ListComp elt [⟨tg, iter, ifs, 0⟩] scope pos) scope X.env pos' (newList []) false (eval iter X.env) use) Qr X.xe s := by
 refine wpAny_comprehension_free rfl hs (i8 scope X.env (c.has I.ok)) c.kind c.loc (cB (hi pins s σ H _ I h) fun v s1 h1 => cB h1 fun itv s2 h2 => ?_)
 obtain ⟨it, fp, tn, J, H2, e, I2, T, st2, f2, hW⟩ := h2
 subst e
 refine wpAny_newObj_type (tL fun h1 hns1 hsb1 hcs1 => ?_)
 dsimp only at hns1 hsb1 hcs1 ⊢
 obtain ⟨W, ⟨m0, w0⟩, turn⟩ := hW s2.heap.objs.size (I2.hok.fresh (Nat.le_refl _))
 have I3 : Inv X pins σ (upd H2 s2.heap.objs.size (.lst [])) { s2 with heap := s2.heap.push { cls := .type "list", dict := none, data := .seq ([] : List Value).toArray } } :=
  I2.laid (t' := s2.toks) (fun _ _ q => Heap.get?_push_of_some _ q) (Nat.le_refl _) ⟨Nat.zero_le _, [], 0, .nil, Heap.get?_push_size _ rfl⟩
 generalize hS3 : ({ s2 with heap := s2.heap.push { cls := .type "list", dict := none, data := .seq ([] : List Value).toArray } } : Shared) = s3 at I3
 have e3 : s3.heap = s2.heap.push { cls := .type "list", dict := none, data := .seq ([] : List Value).toArray } := by rw [<- hS3]
 rw [<- e3] at hns1 hsb1 hcs1 ⊢
 generalize hp : s2.heap.objs.size = p at *
 have flt : ∀ b ∈ fp, b < p := fun b hb => by
  obtain ⟨o, e, _⟩ := T.obj _ _ st2 b hb
  rw [<- hp]; exact Heap.lt_size e
 have fne : ∀ b ∈ fp, b ≠ p := fun b hb => Nat.ne_of_lt (flt b hb)
 have f3 : ∀ b ∈ fp, jF X pins (upd H2 p (.lst [])) b := fun b hb => ⟨by rw [aw (fne b hb)]; exact (f2 b hb).1, (f2 b hb).2⟩
 have hsz3 : s3.heap.objs.size = p + 1 := by rw [e3, Heap.size_push, hp]
 have flt3 : ∀ b ∈ fp, b < s3.heap.objs.size := fun b hb => by rw [hsz3]; exact Nat.lt_succ_of_lt (flt b hb)
 have keep1 : ∀ b o, s3.heap.get? b = some o -> h1.get? b = some o := hsb1
 have st1 : tn 0 h1 := T.keep _ _ _ st2 fun b hb o e => keep1 b o (by rw [e3]; exact Heap.get?_push_of_some _ e)
 generalize hC : s3.heap.objs.size = C at *
 have hns : h1.Ns C (fun _ => none) := by simpa using hns1
 have start : ∀ tk, Inv (a7 X scope Nc C fp s3 (upd H2 p (.lst []))) [] (nG js σ) (upd H2 p (.lst [])) { s3 with heap := h1, toks := tk } := fun tk => qN c I3 f3 (fun b hb => by rw [hC]; exact flt3 b hb) hC.symm hns keep1 hcs1
 have ok := (start 0).ok
 have stat : ∀ {H' : Hp}, (∀ b ∈ fp, H' b = none) -> ∀ b ∈ fp, jF (a7 X scope Nc C fp s3 (upd H2 p (.lst []))) [] H' b := fun hn b hb =>
  ⟨hn b hb, (ok.exf b hb).1, ok.exfs b hb, .inl hb, (ok.exf b hb).2, fun _ z => nomatch z⟩
 obtain ⟨hG, hT, hE⟩ := hin C fp s3 (upd H2 p (.lst []))
 have loop : ∀ s' : Shared, Inv (a7 X scope Nc C fp s3 (upd H2 p (.lst []))) [] (nG js σ) (upd H2 p (.lst [])) s' -> tn 0 s'.heap ->
   codeAny (model X.prog X.w) X.A (.compLoop (.ListComp elt [⟨tg, iter, ifs, 0⟩] scope pos) 0 (.ref it) (.ref p) (a7 X scope Nc C fp s3 (upd H2 p (.lst []))).env) (compPost (model X.prog X.w) X.A X.xe use Qr (.ref p) C) s' := by
  intro s' I' st'
  refine codeAny_loop rfl (fun n s' => ∃ i σ' H', Inv (a7 X scope Nc C fp s3 (upd H2 p (.lst []))) [] σ' H' s' /\ tn i s'.heap /\ (∀ b ∈ fp, H' b = none) /\ W i n σ' H') ?_ m0 ⟨0, _, _, I', st', fun b hb => (f3 b hb).1, w0⟩
  rintro n s4 ⟨i, σ4, H4, I4, st4, fr4, w4⟩
  show wpAny _ X.A ((compTurn (.ListComp elt [⟨tg, iter, ifs, 0⟩] scope pos) 0 (.ref it) (.ref p) (a7 X scope Nc C fp s3 (upd H2 p (.lst []))).env).onRaise (fun x => do noteFrame x (a7 X scope Nc C fp s3 (upd H2 p (.lst []))).env; theTreesLotGoes x)) _ _ s4
  refine wpAny_noted ?_
  rw [compTurn_list]
  refine wpAny_bind (wpAny_standAt (wpAny_bind ?_))
  rcases turn i n σ4 H4 w4 with ⟨stop, qn⟩ | ⟨go, N, hN, step⟩
  ·refine wpAny_mono (T.done (a7 X scope Nc C fp s3 (upd H2 p (.lst []))) rfl rfl rfl hc i [] s4 σ4 H4 (fun _ _ => False) I4 (stat fr4) st4 stop) (fun r s5 ⟨hr, I5⟩ => ?_) fun _ _ z => z.elim
   subst hr
   refine wpAny_pure (hfin p C s5 H4 qn (fun h2 hsb => vi I3 hC.symm f3 I5 hsb) ?_ (I3.fpOk (Nat.le_of_eq hC) I5.free))
   obtain ⟨m, hm, _⟩ := I5.loc
   exact ⟨m, hm⟩
  ·refine wpAny_mono (T.item (a7 X scope Nc C fp s3 (upd H2 p (.lst []))) rfl rfl rfl hc i [] s4 σ4 H4 (fun _ _ => False) I4 (stat fr4) st4 go) (fun r s5 ⟨u, hr, h5⟩ => ?_) fun _ _ z => z.elim
   subst hr
   refine wpAny_bind (wpAny_mono h5 (fun _ s6 ⟨x, H6, I6, r6, y6, st6, fr6⟩ => ?_) fun _ _ z => z.elim)
   have I6' := I6.pinned (stat fr6) (T.obj _ _ st6)
   refine wpAny_bind (wpAny_mono (hG _ s6 σ4 H6 x u _ I6' r6 (step x H6 y6)) (fun _ s7 ⟨σ7, H7, I7, q7⟩ => ?_) fun _ _ z => z.elim)
   refine wpAny_bind (wpAny_mono (hT _ s7 σ7 H7 _ I7 q7) (fun b s8 ⟨H8, I8, q8⟩ => ?_) fun _ _ z => z.elim)
   have again : ∀ {σ9 : St} {H9 : Hp} {s9 : Shared}, Inv (a7 X scope Nc C fp s3 (upd H2 p (.lst []))) ([] ++ kG fp s6.heap) σ9 H9 s9 -> N σ9 H9 ->
     ∃ m, m < n /\ ∃ i σ' H', Inv (a7 X scope Nc C fp s3 (upd H2 p (.lst []))) [] σ' H' s9 /\ tn i s9.heap /\ (∀ b ∈ fp, H' b = none) /\ W i m σ' H' := fun {σ9 H9 s9} I9 n9 => by
    obtain ⟨m', hm, w9⟩ := hN σ9 H9 n9
    refine ⟨m', hm, i + 1, σ9, H9, I9.unpinned, T.keep _ _ _ st6 fun b hb o e => (I9.pin (b, o) (List.mem_append_right _ (List.mem_append_right _ (fF hb e)))).1, fun b hb => ?_, w9⟩
    obtain ⟨o, e, d⟩ := T.obj _ _ st6 b hb
    exact (I9.pin (b, o) (List.mem_append_right _ (List.mem_append_right _ (fF hb e)))).2.1
   cases b with
   | false => exact wpAny_pure ⟨rfl, again I8 q8⟩
   | true =>
    refine wpAny_bind (wpAny_bind (wpAny_mono (hE _ s8 σ7 H8 _ I8 q8) (fun y s9 ⟨yv, H9, I9, r9, q9⟩ => ?_) fun _ _ z => z.elim))
    obtain ⟨xs, hx, hl, n9⟩ := q9
    refine wpAny_bind (wpAny_mono (mG (X := a7 X scope Nc C fp s3 (upd H2 p (.lst []))) _ s9 σ7 H9 (.ref p) [yv] (.ref p) [y] (fun _ H' => N σ7 H') I9 rfl (.cons r9 .nil) ⟨p, xs, yv, rfl, rfl, hx, hl, n9⟩) (fun _ s10 ⟨_, H10, I10, _, q10⟩ => ?_) fun _ _ z => z.elim)
    exact wpAny_pure (wpAny_pure ⟨rfl, again I10 q10⟩)
 refine codeAny_compStart_list (loop _ ?_ ?_) (T.self _ 0 _ _ _ ?_ (loop _ ?_ ?_))
 all_goals first
  | exact st1
  | (subst hS3; exact start _)
theorem xh {elt tg iter : Expr} {ifs : List Expr} {pos : Pos} {wi : TI} {g : TG} {tt : TT} {te : TE} (c : CompScope X scope Nc js) (hc : X.calm = true) (hi : PI X tg iter wi)
  (hin : ∀ C ex s H, PG (a7 X scope Nc C ex s H) tg g /\ AE (a7 X scope Nc C ex s H) ifs tt /\ PE (a7 X scope Nc C ex s H) elt te)
  (hs : ∀ x, foldedSetIterable iter X.env x = pure x := by intro _; rfl) : PE X (.ListComp elt [⟨tg, iter, ifs, 0⟩] scope pos) (si wi js g tt te) := by
 intro pins s σ H Q I h
 rw [eval_ListComp]
 refine pe none _ c hc hi hin I h (fun p C s' H' q hI hn _ => ?_) hs
 obtain ⟨m, hm⟩ := hn
 exact ⟨m, hm, fun h2 hsb => ⟨.ref p, H', hI h2 hsb, rfl, q⟩⟩
theorem qO {i : Nat} {x : Str} {elt tg iter : Expr} {ifs : List Expr} {pos pos' cpos : Pos} {wi : TI} {g : TG} {tt : TT} {te : TE} (hN : X.N.Nodup) (hi' : X.N[i]? = some x) (hx : Loc X.env.scope x)
  (c : CompScope X scope Nc js) (hc : X.calm = true) (hi : PI X tg iter wi)
  (hin : ∀ C ex s H, PG (a7 X scope Nc C ex s H) tg g /\ AE (a7 X scope Nc C ex s H) ifs tt /\ PE (a7 X scope Nc C ex s H) elt te)
  (hsw : swapsWith (.ListComp elt [⟨tg, iter, ifs, 0⟩] scope cpos) (some (.Name x pos')) pos.line X.env = pure true := by rfl)
  (hf : X.fn x = true \/ X.env.scope.names.lookup x = some .local := by first | exact .inl rfl | exact .inr rfl | assumption)
  (hs : ∀ x, foldedSetIterable iter X.env x = pure x := by intro _; rfl) : PS X (.Assign [.Name x pos'] (.ListComp elt [⟨tg, iter, ifs, 0⟩] scope cpos) pos) (yW (si wi js g tt te) (uN i)) := by
 intro pins s σ H D I h
 rw [exec_Assign_Name_used _ _ _ _ hsw]
 refine wpAny_bind (wpAny_standAt (wpAny_bind ?_))
 show wpAny _ X.A (do let _ <- comprehension (.ListComp elt [⟨tg, iter, ifs, 0⟩] scope cpos) scope X.env _ (newList []) false (eval iter X.env) (some (assign (.Name x pos') X.env))) _ _ s
 refine wpAny_bind (cB (pe (some (assign (.Name x pos') X.env)) (fun _ s' => SP X pins D .next s') c hc hi hin I h (fun p C s' H' q hI hn hF => ?_) hs) fun _ s' q => wpAny_pure (wpAny_pure q))
 obtain ⟨m, hm⟩ := hn
 have I' : Inv X pins σ H' s' := hI s'.heap (.refl ..)
 refine wpAny_assign_Name (mz I' hN hi' hx (v := .ref p) rfl (fun s'' I'' ⟨a, hsb, ha⟩ => ?_) hf)
 have aC : C ≠ a := by
  rcases ha with z | z
  ·rw [z]; exact hF.2.1
  ·exact fun e => hF.2.2.2.2.1 x a z e.symm
 refine ⟨m, hm.sameBut hsb aC, fun h2 hsb2 => ?_⟩
 exact ⟨_, H', I''.turned (t' := s''.toks) (it := C) (fun b o hb e => (hsb2.2 b hb).trans e) hF.1 hF.2.1 hF.2.2.2.1 hF.2.2.2.2.1 hF.2.2.2.2.2, q⟩
end
end S3
end
section
namespace S3
open PySem PySem.Spec PyProof.Rows L2
inductive D where
 | non | bl (b : Bool) | int (i : Int) | str (x : Str) | tup (ds : List D) | lst (k : Nat) | ro (ds : List D) | emp
 /-- a function object that the law makes (a lambda): its code, and the values of its free names; a refusal: the name of its class, its own values -/
 | fn (a c : Addr) (q : Str) (ds : List D) (vs : List V) | exc (x : Str) (ds : List D)
abbrev ae := List (List D)
inductive Res (α : Type) where
 | ok (a : α) | ex (x : D)
def M (α : Type) := ae -> Option (Res α × ae)
namespace M
def ret {α : Type} (a : α) : M α := fun S => some (.ok a, S)
def bnd {α β : Type} (m : M α) (f : α -> M β) : M β := fun S => match m S with
 | some (.ok a, S') => f a S'
 | some (.ex x, S') => some (.ex x, S')
 | none => none
def fail {α : Type} : M α := fun _ => none
def raise {α : Type} (x : D) : M α := fun S => some (.ex x, S)
instance : Monad M where
 pure := ret
 bind := bnd
end M
def D8 (K : PySem.W.Frag) (a : Addr) (xs : List V) : Prop := ∃ (o : Obj) (its : Array Value) (n : Nat), K.lookup a = some o /\ o.cls = .type "list" /\ o.dict = none /\ o.data = .seq its n /\ its.size <= sizeLine /\ aI xs its.toList
def wL (K : PySem.W.Frag) (H : Hp) (a : Addr) (vs : List V) : Prop := (∃ o, H a = some (.frz o (.lst vs))) \/ D8 K a vs
theorem wL.sq {K : PySem.W.Frag} {H : Hp} {a : Addr} {vs : List V} (h : wL K H a vs) : fE K H a vs := h.imp (fun ⟨o, e⟩ => .inr ⟨o, e⟩) fun z => z
def lY (C a : Addr) (od : Option Addr) : Heap -> Prop := fun h => ∃ oe vs, h.get? a = some oe /\ oe.cls = .ref C /\ oe.dict = od /\ oe.data = .fields vs
def lZ (qual : Str) (c : Addr) : Heap -> Prop := fun h => h.CodeRec (.ref c) qual
def bj : List Str := ["law", "_law_within_right", "_law_refusals_right", "_law_sharings_right", "_law_right", "_law_lists_right", "_law_papers_right", "_law_great_right", "_law_told_right", "_law_desks_right", "_law_texts_right"]
def TabsOk (K : PySem.W.Frag) (H : Hp) : Prop := ∀ x ∈ bj, ∀ c P, PySem.W.tabIn K x = some (c, P) -> ∃ ps, H P = some (.tbl ps) /\ TriplesOk ps.toList /\
 ∀ pos cv, codeAmong pos ps.toList = some cv -> ∃ c', cv = .ref c' /\ H c' = some (.ext (lZ (x ++ ".<locals>.<lambda>") c'))
theorem TabsOk.mono {K : PySem.W.Frag} {H H' : Hp} (h : TabsOk K H) (k : ∀ a o, H a = some o -> (∀ vs, o ≠ .lst vs) -> H' a = some o) : TabsOk K H' := fun x hx c P e =>
 let ⟨ps, h1, h2, h3⟩ := h x hx c P e
 ⟨ps, k _ _ h1 (by intro _ z; cases z), h2, fun pos cv q => let ⟨c', e1, e2⟩ := h3 pos cv q; ⟨c', e1, k _ _ e2 (by intro _ z; cases z)⟩⟩
mutual
inductive RelD (K : PySem.W.Frag) (ι : List Addr) (H : Hp) : D -> V -> Prop where
 | non : RelD K ι H .non .non
 | bl (b : Bool) : RelD K ι H (.bl b) (.bl b)
 | int (i : Int) : RelD K ι H (.int i) (.int i)
 | str (x : Str) : RelD K ι H (.str x) (.str x)
 | tup {a : Addr} {ds : List D} {vs : List V} : H a = some (.tup vs) -> RelDs K ι H ds vs -> RelD K ι H (.tup ds) (.ref a)
 | lst {a : Addr} {k : Nat} : ι[k]? = some a -> RelD K ι H (.lst k) (.ref a)
 | ro {a : Addr} {ds : List D} {vs : List V} : wL K H a vs -> RelDs K ι H ds vs -> RelD K ι H (.ro ds) (.ref a)
 | emp {a : Addr} : H a = some (.dK []) -> RelD K ι H .emp (.ref a)
 | fn {a c : Addr} {q : Str} {ds : List D} {vs : List V} : H c = some (.ext (lZ q c)) -> RelDs K ι H ds vs -> RelD K ι H (.fn a c q ds vs) (.ref a)
 | exc {a C : Addr} {x : Str} : PySem.W.nsIn K mainGlobals x = some (some (.ref C)) -> H a = some (.ext (lY C a none)) -> RelD K ι H (.exc x []) (.ref a)
 | excF {a C dx : Addr} {x : Str} {fs : List (Str × V)} {ds : List D} : PySem.W.nsIn K mainGlobals x = some (some (.ref C)) -> H a = some (.ext (lY C a (some dx))) -> H dx = some (.xd fs) -> fs.map (·.1) = ([("many" : Str), ("most" : Str)] : List Str) -> RelDs K ι H ds (fs.map (·.2)) -> RelD K ι H (.exc x ds) (.ref a)
inductive RelDs (K : PySem.W.Frag) (ι : List Addr) (H : Hp) : List D -> List V -> Prop where
 | nil : RelDs K ι H [] []
 | cons {d : D} {v : V} {ds : List D} {vs : List V} : RelD K ι H d v -> RelDs K ι H ds vs -> RelDs K ι H (d :: ds) (v :: vs)
end
structure Rep (K : PySem.W.Frag) (ι : List Addr) (H : Hp) (S : ae) : Prop where
 nd : ι.Nodup
 len : ι.length = S.length
 get : ∀ (k : Nat) (a : Addr) (xs : List D), ι[k]? = some a -> S[k]? = some xs -> ∃ vs, H a = some (.lst vs) /\ RelDs K ι H xs vs
 tab : TabsOk K H
structure Ext (ι : List Addr) (H : Hp) (ι' : List Addr) (H' : Hp) : Prop where
 ids : ∃ more, ι' = ι ++ more
 oth : ∀ a o, H a = some o -> a ∉ ι -> (∀ ps, o ≠ .tbl ps) -> H' a = some o /\ a ∉ ι'
theorem Ext.refl {ι : List Addr} {H : Hp} : Ext ι H ι H := ⟨⟨[], by simp⟩, fun _ _ h n _ => ⟨h, n⟩⟩
theorem Ext.trans {ι ι1 ι2 : List Addr} {H H1 H2 : Hp} (a : Ext ι H ι1 H1) (b : Ext ι1 H1 ι2 H2) : Ext ι H ι2 H2 := by
 obtain ⟨m1, e1⟩ := a.ids
 obtain ⟨m2, e2⟩ := b.ids
 exact ⟨⟨m1 ++ m2, by rw [e2, e1, List.append_assoc]⟩, fun c o h n t => let ⟨h1, n1⟩ := a.oth c o h n t; b.oth c o h1 n1 t⟩
theorem Ext.at {ι ι' : List Addr} {H H' : Hp} (e : Ext ι H ι' H') {k : Nat} {a : Addr} (h : ι[k]? = some a) : ι'[k]? = some a := by
 obtain ⟨m, rfl⟩ := e.ids
 have hl : k < ι.length := (List.getElem?_eq_some_iff.mp h).1
 rw [List.getElem?_append_left hl]; exact h
section
variable {K : PySem.W.Frag} {ι ι' : List Addr} {H H' : Hp} {S : ae}
theorem Rep.isL (r : Rep K ι H S) {a : Addr} (h : a ∈ ι) : ∃ vs, H a = some (.lst vs) := by
 obtain ⟨k, hk, e⟩ := List.mem_iff_getElem.mp h
 have hk' : k < S.length := by rw [<- r.len]; exact hk
 obtain ⟨vs, h1, _⟩ := r.get k a (S[k]) (by rw [List.getElem?_eq_getElem hk, e]) (List.getElem?_eq_getElem hk')
 exact ⟨vs, h1⟩
theorem Rep.notIn (r : Rep K ι H S) {a : Addr} {o : HO} (h : H a = some o) (hn : ∀ vs, o ≠ .lst vs) : a ∉ ι := fun z => by
 obtain ⟨vs, e⟩ := r.isL z
 rw [h] at e; exact hn vs (Option.some.inj e)
theorem Rep.free (r : Rep K ι H S) {a : Addr} (h : H a = none) : a ∉ ι := fun z => by
 obtain ⟨vs, e⟩ := r.isL z
 rw [h] at e; cases e
mutual
theorem RelD.later (r : Rep K ι H S) (e : Ext ι H ι' H') : ∀ {d : D} {v : V}, RelD K ι H d v -> RelD K ι' H' d v
 | _, _, .non => .non
 | _, _, .bl b => .bl b
 | _, _, .int i => .int i
 | _, _, .str x => .str x
 | _, _, .tup h hs => .tup (e.oth _ _ h (r.notIn h (by intro _ z; cases z)) (by intro _ z; cases z)).1 (RelDs.later r e hs)
 | _, _, .lst h => .lst (e.at h)
 | _, _, .ro h hs => .ro (h.imp (fun ⟨o, h⟩ => ⟨o, (e.oth _ _ h (r.notIn h (by intro _ z; cases z)) (by intro _ z; cases z)).1⟩) fun z => z) (RelDs.later r e hs)
 | _, _, .emp h => .emp (e.oth _ _ h (r.notIn h (by intro _ z; cases z)) (by intro _ z; cases z)).1
 | _, _, .fn h hs => .fn (e.oth _ _ h (r.notIn h (by intro _ z; cases z)) (by intro _ z; cases z)).1 (RelDs.later r e hs)
 | _, _, .exc n h => .exc n (e.oth _ _ h (r.notIn h (by intro _ z; cases z)) (by intro _ z; cases z)).1
 | _, _, .excF n h h2 hn hs => .excF n (e.oth _ _ h (r.notIn h (by intro _ z; cases z)) (by intro _ z; cases z)).1 (e.oth _ _ h2 (r.notIn h2 (by intro _ z; cases z)) (by intro _ z; cases z)).1 hn (RelDs.later r e hs)
theorem RelDs.later (r : Rep K ι H S) (e : Ext ι H ι' H') : ∀ {ds : List D} {vs : List V}, RelDs K ι H ds vs -> RelDs K ι' H' ds vs
 | _, _, .nil => .nil
 | _, _, .cons h hs => .cons (RelD.later r e h) (RelDs.later r e hs)
end
theorem RelDs.length : ∀ {ds : List D} {vs : List V}, RelDs K ι H ds vs -> ds.length = vs.length
 | _, _, .nil => rfl
 | _, _, .cons _ t => by rw [List.length_cons, List.length_cons, RelDs.length t]
theorem RelDs.append : ∀ {ds es : List D} {vs ws : List V}, RelDs K ι H ds vs -> RelDs K ι H es ws -> RelDs K ι H (ds ++ es) (vs ++ ws)
 | _, _, _, _, .nil, s => s
 | _, _, _, _, .cons r t, s => .cons r (RelDs.append t s)
theorem RelDs.get : ∀ {ds : List D} {vs : List V} {i : Nat} {v : V}, RelDs K ι H ds vs -> vs[i]? = some v -> ∃ d, ds[i]? = some d /\ RelD K ι H d v
 | _, _, _, _, .nil, e => by simp at e
 | _, _, 0, _, .cons r _, e => by simp at e; subst e; exact ⟨_, rfl, r⟩
 | _, _, i + 1, v, .cons _ t, e => by
  obtain ⟨u, h1, h2⟩ := RelDs.get (i := i) (v := v) t (by simpa using e)
  exact ⟨u, by simpa using h1, h2⟩
theorem RelDs.get' : ∀ {ds : List D} {vs : List V} {i : Nat} {d : D}, RelDs K ι H ds vs -> ds[i]? = some d -> ∃ v, vs[i]? = some v /\ RelD K ι H d v
 | _, _, _, _, .nil, e => by simp at e
 | _, _, 0, _, .cons r _, e => by simp at e; subst e; exact ⟨_, rfl, r⟩
 | _, _, i + 1, v, .cons _ t, e => by
  obtain ⟨u, h1, h2⟩ := RelDs.get' (i := i) t (by simpa using e)
  exact ⟨u, by simpa using h1, h2⟩
theorem RelDs.take : ∀ {ds : List D} {vs : List V} (n : Nat), RelDs K ι H ds vs -> RelDs K ι H (ds.take n) (vs.take n)
 | _, _, 0, _ => .nil
 | _, _, _ + 1, .nil => .nil
 | _, _, n + 1, .cons r t => .cons r (RelDs.take n t)
theorem RelDs.drop : ∀ {ds : List D} {vs : List V} (n : Nat), RelDs K ι H ds vs -> RelDs K ι H (ds.drop n) (vs.drop n)
 | _, _, 0, r => r
 | _, _, _ + 1, .nil => .nil
 | _, _, n + 1, .cons _ t => RelDs.drop n t
theorem RelDs.set {d : D} {v : V} (r : RelD K ι H d v) : ∀ {ds : List D} {vs : List V} (i : Nat), RelDs K ι H ds vs -> RelDs K ι H (ds.set i d) (vs.set i v)
 | _, _, _, .nil => .nil
 | _, _, 0, .cons _ t => .cons r t
 | _, _, i + 1, .cons q t => .cons q (RelDs.set r i t)
theorem RelDs.eraseIdx : ∀ {ds : List D} {vs : List V} (i : Nat), RelDs K ι H ds vs -> RelDs K ι H (ds.eraseIdx i) (vs.eraseIdx i)
 | _, _, _, .nil => .nil
 | _, _, 0, .cons _ t => t
 | _, _, i + 1, .cons q t => .cons q (RelDs.eraseIdx i t)
theorem RelDs.reverse : ∀ {ds : List D} {vs : List V}, RelDs K ι H ds vs -> RelDs K ι H ds.reverse vs.reverse
 | _, _, .nil => .nil
 | _, _, .cons r t => by rw [List.reverse_cons, List.reverse_cons]; exact (RelDs.reverse t).append (.cons r .nil)
theorem cR {p : Addr} {o : HO} (hp : H p = none) : Ext ι H ι (upd H p o) := ⟨⟨[], by simp⟩, fun a o' h n _ => ⟨by rw [aw (ay h hp)]; exact h, n⟩⟩
theorem dL {p : Addr} {o : HO} (r : Rep K ι H S) (hp : H p = none) : Rep K ι (upd H p o) S := by
 refine ⟨r.nd, r.len, fun k a xs e1 e2 => ?_, r.tab.mono fun b o h _ => by rw [aw (ay h hp)]; exact h⟩
 obtain ⟨vs, h1, h2⟩ := r.get k a xs e1 e2
 exact ⟨vs, by rw [aw (ay h1 hp)]; exact h1, RelDs.later r (cR hp) h2⟩
theorem pi {p : Addr} {o : HO} (hp : H p = none) : Ext ι H (ι ++ [p]) (upd H p o) := ⟨⟨[p], rfl⟩, fun a o' h n _ => ⟨by rw [aw (ay h hp)]; exact h, by
 have : a ≠ p := ay h hp
 simp [n, this]⟩⟩
theorem vj {p : Addr} {xs : List D} {vs : List V} (r : Rep K ι H S) (hp : H p = none) (h : RelDs K ι H xs vs) : Rep K (ι ++ [p]) (upd H p (.lst vs)) (S ++ [xs]) := by
 have hE : Ext ι H (ι ++ [p]) (upd H p (.lst vs)) := pi hp
 refine ⟨?_, by simp [r.len], fun k a ys e1 e2 => ?_, r.tab.mono fun b o h _ => by rw [aw (ay h hp)]; exact h⟩
 ·rw [List.nodup_append]
  refine ⟨r.nd, by simp, fun a ha b hb => ?_⟩
  have : b = p := by simpa using hb
  subst this
  rintro rfl
  exact r.free hp ha
 ·by_cases hk : k < ι.length
  ·rw [List.getElem?_append_left hk] at e1
   rw [List.getElem?_append_left (by rw [<- r.len]; exact hk)] at e2
   obtain ⟨ws, h1, h2⟩ := r.get k a ys e1 e2
   exact ⟨ws, by rw [aw (ay h1 hp)]; exact h1, RelDs.later r hE h2⟩
  ·have hk1 : k < (ι ++ [p]).length := (List.getElem?_eq_some_iff.mp e1).1
   have : k = ι.length := by simp at hk1; omega
   subst this
   simp at e1
   rw [r.len] at e2
   simp at e2
   subst e1 e2
   exact ⟨vs, aK, RelDs.later r hE h⟩
theorem pj : ∀ {l : List Addr} {i j : Nat} {a : Addr}, l.Nodup -> l[i]? = some a -> l[j]? = some a -> i = j
 | [], i, j, a, _, h, _ => by simp at h
 | x :: r, 0, 0, a, _, _, _ => rfl
 | x :: r, 0, j + 1, a, hn, h1, h2 => by
  simp at h1 h2
  subst h1
  exact absurd (List.mem_of_getElem? h2) (List.nodup_cons.mp hn).1
 | x :: r, i + 1, 0, a, hn, h1, h2 => by
  simp at h1 h2
  subst h2
  exact absurd (List.mem_of_getElem? h1) (List.nodup_cons.mp hn).1
 | x :: r, i + 1, j + 1, a, hn, h1, h2 => by
  simp at h1 h2
  rw [pj (List.nodup_cons.mp hn).2 h1 h2]
theorem nH {a : Addr} {o : HO} (ha : a ∈ ι) : Ext ι H ι (upd H a o) := ⟨⟨[], by simp⟩, fun b o' h n _ => ⟨by rw [aw (fun z => n (by rw [z]; exact ha))]; exact h, n⟩⟩
theorem nI {a : Addr} {k : Nat} {xs : List D} {vs : List V} (r : Rep K ι H S) (hk : ι[k]? = some a) (h : RelDs K ι H xs vs) : Rep K ι (upd H a (.lst vs)) (S.set k xs) := by
 have ha : a ∈ ι := List.mem_of_getElem? hk
 have hE : Ext ι H ι (upd H a (.lst vs)) := nH ha
 refine ⟨r.nd, by simp [r.len], fun j b ys e1 e2 => ?_, r.tab.mono fun b o h n => by
  obtain ⟨ws, hw⟩ := r.isL ha
  rw [aw (fun z => by subst z; rw [h] at hw; exact n ws (Option.some.inj hw))]; exact h⟩
 by_cases hj : j = k
 ·subst hj
  rw [hk] at e1; cases e1
  have hl : j < S.length := by rw [<- r.len]; exact (List.getElem?_eq_some_iff.mp hk).1
  rw [List.getElem?_set_self hl] at e2; cases e2
  exact ⟨vs, aK, RelDs.later r hE h⟩
 ·rw [List.getElem?_set_ne (Ne.symm hj)] at e2
  obtain ⟨ws, h1, h2⟩ := r.get j b ys e1 e2
  have hb : b ≠ a := by
   rintro rfl
   exact hj (pj r.nd e1 hk)
  exact ⟨ws, by rw [aw hb]; exact h1, RelDs.later r hE h2⟩
end
abbrev XD := D -> List Addr -> ae -> Hp -> Prop
def cont (K : PySem.W.Frag) (E : XD) {α : Type} (c : M α) (ι : List Addr) (S : ae) (H : Hp) (Q : α -> List Addr -> ae -> Hp -> Prop) : Prop :=
 ∃ r S', c S = some (r, S') /\ ∀ ι' H', Ext ι H ι' H' -> Rep K ι' H' S' -> match r with
  | .ok a => Q a ι' S' H'
  | .ex x => E x ι' S' H'
section
variable {K : PySem.W.Frag} {E : XD} {ι : List Addr} {S : ae} {H : Hp} {α β : Type}
theorem ag {c : M α} {f : α -> M β} {Q : β -> List Addr -> ae -> Hp -> Prop} (h : cont K E (c >>= f) ι S H Q) : cont K E c ι S H (fun a ι1 S1 H1 => cont K E (f a) ι1 S1 H1 Q) := by
 obtain ⟨r, S', e, k⟩ := h
 have e' : M.bnd c f S = some (r, S') := e
 unfold M.bnd at e'
 cases q : c S with
 | none => rw [q] at e'; cases e'
 | some p =>
  obtain ⟨r1, S1⟩ := p
  rw [q] at e'
  cases r1 with
  | ok a => exact ⟨.ok a, S1, q, fun ι1 H1 x1 rep1 => ⟨r, S', e', fun ι2 H2 x2 rep2 => k ι2 H2 (x1.trans x2) rep2⟩⟩
  | ex x =>
   cases e'
   exact ⟨.ex x, _, q, fun ι1 H1 x1 rep1 => k ι1 H1 x1 rep1⟩
theorem aj {c : M α} {Q Q' : α -> List Addr -> ae -> Hp -> Prop} (h : cont K E c ι S H Q) (k : ∀ a ι' S' H', Ext ι H ι' H' -> Rep K ι' H' S' -> Q a ι' S' H' -> Q' a ι' S' H') : cont K E c ι S H Q' := by
 obtain ⟨r, S', e, q⟩ := h
 refine ⟨r, S', e, fun ι1 H1 x1 rep1 => ?_⟩
 have := q ι1 H1 x1 rep1
 cases r with
 | ok a => exact k a ι1 S' H1 x1 rep1 this
 | ex x => exact this
theorem ah {a : α} {Q : α -> List Addr -> ae -> Hp -> Prop} (h : cont K E (pure a) ι S H Q) {ι' : List Addr} {H' : Hp} (x : Ext ι H ι' H') (r : Rep K ι' H' S) : Q a ι' S H' := by
 obtain ⟨r', S', e, q⟩ := h
 cases e
 exact q ι' H' x r
theorem af {Q : α -> List Addr -> ae -> Hp -> Prop} (h : cont K E (M.fail) ι S H Q) : False := by
 obtain ⟨r', S', e, q⟩ := h
 cases e
end
abbrev aA := List (Option D)
inductive RelE (K : PySem.W.Frag) (ι : List Addr) (H : Hp) : aA -> St -> Prop where
 | nil : RelE K ι H [] []
 | cons {o : Option D} {u : Option V} {ρ : aA} {σ : St} : (∀ d, o = some d -> ∃ v, u = some v /\ RelD K ι H d v) -> RelE K ι H ρ σ -> RelE K ι H (o :: ρ) (u :: σ)
section
variable {K : PySem.W.Frag} {ι ι' : List Addr} {S : ae} {H H' : Hp}
theorem RelE.later (r : Rep K ι H S) (e : Ext ι H ι' H') : ∀ {ρ : aA} {σ : St}, RelE K ι H ρ σ -> RelE K ι' H' ρ σ
 | _, _, .nil => .nil
 | _, _, .cons h t => .cons (fun d z => let ⟨v, e1, e2⟩ := h d z; ⟨v, e1, RelD.later r e e2⟩) (RelE.later r e t)
theorem RelE.get : ∀ {ρ : aA} {σ : St} {i : Nat} {d : D}, RelE K ι H ρ σ -> ρ[i]? = some (some d) -> ∃ v, σ[i]? = some (some v) /\ RelD K ι H d v
 | _, _, _, _, .nil, e => by simp at e
 | _, _, 0, _, .cons h _, e => by
  simp at e
  obtain ⟨v, e1, e2⟩ := h _ e
  exact ⟨v, by simp [e1], e2⟩
 | _, _, i + 1, _, .cons _ t, e => by
  obtain ⟨v, h1, h2⟩ := RelE.get (i := i) t (by simpa using e)
  exact ⟨v, by simpa using h1, h2⟩
theorem RelE.set {d : D} {v : V} (r : RelD K ι H d v) : ∀ {ρ : aA} {σ : St} (i : Nat), RelE K ι H ρ σ -> RelE K ι H (ρ.set i (some d)) (σ.set i (some v))
 | _, _, _, .nil => .nil
 | _, _, 0, .cons _ t => .cons (fun d' z => by cases z; exact ⟨v, rfl, r⟩) t
 | _, _, i + 1, .cons q t => .cons q (RelE.set r i t)
theorem RelE.length : ∀ {ρ : aA} {σ : St}, RelE K ι H ρ σ -> ρ.length = σ.length
 | _, _, .nil => rfl
 | _, _, .cons _ t => by rw [List.length_cons, List.length_cons, RelE.length t]
theorem RelE.start : ∀ {ds : List D} {vs : List V}, RelDs K ι H ds vs -> ∀ n, RelE K ι H (ds.map some ++ List.replicate n none) (vs.map some ++ List.replicate n none)
 | _, _, .nil, n => by
  induction n with
  | zero => exact .nil
  | succ n ih => exact .cons (fun d z => by cases z) ih
 | _, _, .cons r t, n => .cons (fun d z => by cases z; exact ⟨_, rfl, r⟩) (RelE.start t n)
end
abbrev TM := aA -> M D
def ja (K : PySem.W.Frag) (Q : VK) : D -> List Addr -> ae -> Hp -> Prop := fun d ι' _ H' => ∀ v, RelD K ι' H' d v -> Q v H'
def tM (K : PySem.W.Frag) (E : XD) (m : TM) : TE := fun σ H Q => ∃ ι S ρ, Rep K ι H S /\ RelE K ι H ρ σ /\ cont K E (m ρ) ι S H (ja K Q)
def SE (X : Cx) (E : XD) (e : Expr) (m : TM) : Prop := PE X e (tM X.K E m)
def zx (K : PySem.W.Frag) (E : XD) (m : aA -> M Bool) : TT := fun σ H Q => ∃ ι S ρ, Rep K ι H S /\ RelE K ι H ρ σ /\ cont K E (m ρ) ι S H (fun b _ _ H' => Q b H')
def SB (X : Cx) (E : XD) (e : Expr) (m : aA -> M Bool) : Prop := PT X e (zx X.K E m)
def zy (X : Cx) (E : XD) (e : Expr) (m : aA -> M Bool) : Prop := PW X e (zx X.K E m)
def CP (K : PySem.W.Frag) (E : XD) (m : aA -> M (List D)) : TA := fun σ H Q => ∃ ι S ρ, Rep K ι H S /\ RelE K ι H ρ σ /\ cont K E (m ρ) ι S H (fun ds ι' _ H' => ∀ vs, RelDs K ι' H' ds vs -> Q vs H')
def SA (X : Cx) (E : XD) (es : List Expr) (m : aA -> M (List D)) : Prop := PA X es (CP X.K E m)
inductive Out where
 | nx (ρ : aA) | ret (d : D) | bk (ρ : aA) | ct (ρ : aA)
abbrev bN := aA -> M Out
def zz (K : PySem.W.Frag) (T : Ends) : Out -> List Addr -> ae -> Hp -> Prop := fun o ι' _ H' => match o with
 | .nx ρ => ∀ σ, RelE K ι' H' ρ σ -> T.nx σ H'
 | .ret d => ∀ v, RelD K ι' H' d v -> T.rt v H'
 | .bk ρ => ∀ σ, RelE K ι' H' ρ σ -> T.bk σ H'
 | .ct ρ => ∀ σ, RelE K ι' H' ρ σ -> T.ct σ H'
def Ds (K : PySem.W.Frag) (E : XD) (m : bN) : TS := fun T σ H => ∃ ι S ρ, Rep K ι H S /\ RelE K ι H ρ σ /\ cont K E (m ρ) ι S H (zz K T)
def SS (X : Cx) (E : XD) (st : Stmt) (m : bN) : Prop := PS X st (Ds X.K E m)
def pk (X : Cx) (E : XD) (st : List Stmt) (m : bN) : Prop := lO X st (Ds X.K E m)
abbrev l5 := D -> aA -> M aA
def B3 (K : PySem.W.Frag) (E : XD) (m : l5) : TG := fun v σ H Q => ∃ ι S ρ d, Rep K ι H S /\ RelE K ι H ρ σ /\ RelD K ι H d v /\ cont K E (m d ρ) ι S H (fun ρ' ι' _ H' => ∀ σ', RelE K ι' H' ρ' σ' -> Q σ' H')
def SG (X : Cx) (E : XD) (tg : Expr) (m : l5) : Prop := PG X tg (B3 X.K E m)
theorem PE.imp {X : Cx} {e : Expr} {t t' : TE} (h : PE X e t) (k : ∀ σ H Q, t' σ H Q -> t σ H Q) : PE X e t' := fun pins s σ H Q I hw => h pins s σ H Q I (k σ H Q hw)
theorem PT.imp {X : Cx} {e : Expr} {t t' : TT} (h : PT X e t) (k : ∀ σ H Q, t' σ H Q -> t σ H Q) : PT X e t' := fun pins s σ H Q I hw => h pins s σ H Q I (k σ H Q hw)
theorem PW.imp {X : Cx} {e : Expr} {t t' : TT} (h : PW X e t) (k : ∀ σ H Q, t' σ H Q -> t σ H Q) : PW X e t' := fun wh pins s σ H Q I hw => h wh pins s σ H Q I (k σ H Q hw)
theorem PA.imp {X : Cx} {e : List Expr} {t t' : TA} (h : PA X e t) (k : ∀ σ H Q, t' σ H Q -> t σ H Q) : PA X e t' := fun pos pins s σ H Q I hw => h pos pins s σ H Q I (k σ H Q hw)
theorem PS.imp {X : Cx} {e : Stmt} {t t' : TS} (h : PS X e t) (k : ∀ D σ H, t' D σ H -> t D σ H) : PS X e t' := fun pins s σ H D I hw => h pins s σ H D I (k D σ H hw)
theorem lO.imp {X : Cx} {e : List Stmt} {t t' : TS} (h : lO X e t) (k : ∀ D σ H, t' D σ H -> t D σ H) : lO X e t' := fun pins s σ H D I hw => h pins s σ H D I (k D σ H hw)
theorem PG.imp {X : Cx} {e : Expr} {t t' : TG} (h : PG X e t) (k : ∀ v σ H Q, t' v σ H Q -> t v σ H Q) : PG X e t' := fun pins s σ H v u Q I r hw => h pins s σ H v u Q I r (k v σ H Q hw)
section
variable {X : Cx} {E : XD} {a b e : Expr} {m n : TM} {pos : Pos}
def qP (ρ : aA) (i : Nat) : M D := match ρ[i]? with
 | some (some d) => pure d
 | _ => M.fail
theorem aa (i : Nat) {x : Str} (hN : X.N[i]? = some x := by rfl) (hv : yh X.env.scope x := by first | exact Or.inl rfl | exact Or.inr (Or.inl rfl) | exact Or.inr (Or.inr rfl)) (hd : (x == ("__debug__" : Str)) = false := by decide)
  (hcd : (x == ("__classdict__" : Str)) = false := by decide) : SE X E (.Name x pos) (fun ρ => qP ρ i) := by
 refine PE.imp (qy hN hv hd hcd) fun σ H Q h => ?_
 obtain ⟨ι, S, ρ, rep, re, c⟩ := h
 unfold qP at c
 dsimp only at c
 split at c
 ·next d hd =>
  obtain ⟨v, e1, e2⟩ := re.get hd
  exact ⟨v, e1, ah c .refl rep v e2⟩
 ·exact (af c).elim
theorem gw {v : V} {d : D} (h : PE X e (tC v)) (hd : ∀ ι H, RelD X.K ι H d v) : SE X E e (fun _ => pure d) := by
 refine PE.imp h fun σ H Q h => ?_
 obtain ⟨ι, S, ρ, rep, re, c⟩ := h
 exact ah c .refl rep v (hd _ _)
theorem am {i : Int} {j} : SE X E (.Constant (.int i) j pos) (fun _ => pure (.int i)) := gw uJ fun _ _ => .int i
theorem eJ {i : Bool} {j} : SE X E (.Constant (.bool i) j pos) (fun _ => pure (.bl i)) := gw AL fun _ _ => .bl i
theorem kP {j} : SE X E (.Constant .none j pos) (fun _ => pure .non) := gw yK fun _ _ => .non
theorem nJ {x : Str} {j} : SE X E (.Constant (.str x) j pos) (fun _ => pure (.str x)) := gw yL fun _ _ => .str x
theorem xi {x : Str} {i : Int} {t : Tok} (hg : Gl X x) (hm : X.mg x = some (.int i t)) (hd : (x == ("__debug__" : Str)) = false := by decide) : SE X E (.Name x pos) (fun _ => pure (.int i)) :=
 gw (rW hg hm (v := .int i) ⟨t, rfl⟩ hd) fun _ _ => .int i
def nL (K : PySem.W.Frag) (E : XD) (f : D -> D -> M D) (r : R2) : Prop :=
 ∀ ι S H d1 d2 v1 v2 Q, Rep K ι H S -> RelD K ι H d1 v1 -> RelD K ι H d2 v2 -> cont K E (f d1 d2) ι S H (ja K Q) -> r v1 v2 H Q
theorem xj {f : D -> D -> M D} {r : R2} (ho : nL X.K E f r) {σ : St} {H : Hp} {Q : VK} (h : tM X.K E (fun ρ => do let x <- m ρ; let y <- n ρ; f x y) σ H Q) : AZ r (tM X.K E m) (tM X.K E n) σ H Q := by
 obtain ⟨ι, S, ρ, rep, re, c⟩ := h
 refine ⟨ι, S, ρ, rep, re, aj (ag c) fun x ι1 S1 H1 e1 rep1 c1 v1 r1 => ?_⟩
 refine ⟨ι1, S1, ρ, rep1, re.later rep e1, aj (ag c1) fun y ι2 S2 H2 e2 rep2 c2 v2 r2 => ?_⟩
 exact ho ι2 S2 H2 x y v1 v2 Q rep2 (r1.later rep1 e2) r2 c2
theorem mL {op : Operator} {f : D -> D -> M D} {r : R2} (h : gf X (binaryOp op) r) (ho : nL X.K E f r) (ha : SE X E a m) (hb : SE X E b n) : SE X E (.BinOp a op b pos) (fun ρ => do let x <- m ρ; let y <- n ρ; f x y) :=
 PE.imp (A0 h ha hb) fun _ _ _ q => xj ho q
theorem qQ {op : CmpOp} {f : D -> D -> M D} {r : R2} (h : gf X (compareOp op) r) (ho : nL X.K E f r) (ha : SE X E a m) (hb : SE X E b n) (hm : behindInMarks op b = false := by first | exact oV _ (by decide) (by decide) | rfl) :
  SE X E (.Compare a [op] [b] pos) (fun ρ => do let x <- m ρ; let y <- n ρ; f x y) :=
 PE.imp (wX h ha hb hm) fun _ _ _ q => xj ho q
theorem Bk {f : D -> D -> M D} {r : R2} (h : wK X r) (ho : nL X.K E f r) (ha : SE X E a m) (hb : SE X E b n) (hs : nu b := by intro _ _; rfl) : SE X E (.Subscript a b pos) (fun ρ => do let x <- m ρ; let y <- n ρ; f x y) :=
 PE.imp (Bd h ha hb hs) fun _ _ _ q => xj ho q
end
end S3
end
section
namespace S3
open PySem PySem.Spec PyProof.Rows L2
def lim : Nat := 10000000
theorem gx : lim <= sizeLine := by rw [sizeLine_eq]; decide
theorem zA : lim < sizeLine := by rw [sizeLine_eq]; decide
section
variable {K : PySem.W.Frag} {ι : List Addr} {H : Hp}
theorem RelD.bl_inv {b : Bool} {v : V} (h : RelD K ι H (.bl b) v) : v = .bl b := by cases h; rfl
theorem RelD.int_inv {b : Int} {v : V} (h : RelD K ι H (.int b) v) : v = .int b := by cases h; rfl
theorem RelD.str_inv {b : Str} {v : V} (h : RelD K ι H (.str b) v) : v = .str b := by cases h; rfl
theorem RelD.non_inv {v : V} (h : RelD K ι H .non v) : v = .non := by cases h; rfl
theorem RelD.tup_inv {ds : List D} {v : V} (h : RelD K ι H (.tup ds) v) : ∃ a vs, v = .ref a /\ H a = some (.tup vs) /\ RelDs K ι H ds vs := by
 cases h with
 | tup h1 h2 => exact ⟨_, _, rfl, h1, h2⟩
theorem RelD.lst_inv {k : Nat} {v : V} (h : RelD K ι H (.lst k) v) : ∃ a, v = .ref a /\ ι[k]? = some a := by
 cases h with
 | lst h1 => exact ⟨_, rfl, h1⟩
theorem RelD.ro_inv {ds : List D} {v : V} (h : RelD K ι H (.ro ds) v) : ∃ a vs, v = .ref a /\ wL K H a vs /\ RelDs K ι H ds vs := by
 cases h with
 | ro h1 h2 => exact ⟨_, _, rfl, h1, h2⟩
theorem RelDs.nil_inv {vs : List V} (h : RelDs K ι H [] vs) : vs = [] := by cases h; rfl
theorem RelDs.cons_inv {d : D} {ds : List D} {vs : List V} (h : RelDs K ι H (d :: ds) vs) : ∃ v ws, vs = v :: ws /\ RelD K ι H d v /\ RelDs K ι H ds ws := by
 cases h with
 | cons h1 h2 => exact ⟨_, _, rfl, h1, h2⟩
end
def jb : D -> M Bool
 | .bl b => pure b
 | _ => M.fail
def getL (k : Nat) : M (List D) := fun S => (S[k]?).bind fun xs => some (.ok xs, S)
def bJ (ds : List D) : M D := fun S => if ds.length <= lim then some (.ok (.lst S.length), S ++ [ds]) else none
def nM (k : Nat) (ds : List D) : M D := fun S => if ds.length <= lim /\ k < S.length then some (.ok .non, S.set k ds) else none
def dz (ds : List D) : M D := if ds.length <= lim then pure (.tup ds) else M.fail
section
variable {K : PySem.W.Frag} {E : XD} {ι : List Addr} {S : ae} {H : Hp} {α : Type}
theorem nN {x : D} {v : V} {f : Bool -> M α} {Q : α -> List Addr -> ae -> Hp -> Prop} (rep : Rep K ι H S) (r : RelD K ι H x v) (c : cont K E (jb x >>= f) ι S H Q) : ∃ b, v = .bl b /\ x = .bl b /\ cont K E (f b) ι S H Q := by
 cases x with
 | bl b => exact ⟨b, r.bl_inv, rfl, ah (ag c) .refl rep⟩
 | _ => exact (af (ag c)).elim
theorem kQ {x : D} {v : V} {Q : Bool -> List Addr -> ae -> Hp -> Prop} (rep : Rep K ι H S) (r : RelD K ι H x v) (c : cont K E (jb x) ι S H Q) : ∃ b, v = .bl b /\ x = .bl b /\ Q b ι S H := by
 cases x with
 | bl b => exact ⟨b, r.bl_inv, rfl, ah c .refl rep⟩
 | _ => exact (af c).elim
theorem tN {ds : List D} {vs : List V} {Q : D -> List Addr -> ae -> Hp -> Prop} (c : cont K E (bJ ds) ι S H Q) (rep : Rep K ι H S) (r : RelDs K ι H ds vs) :
  vs.length <= lim /\ ∀ p, H p = none -> Q (.lst S.length) (ι ++ [p]) (S ++ [ds]) (upd H p (.lst vs)) := by
 obtain ⟨r', S', e, q⟩ := c
 unfold bJ at e
 split at e
 ·next hl =>
  cases e
  exact ⟨by rw [<- r.length]; exact hl, fun p hp => q _ _ (pi hp) (vj rep hp r)⟩
 ·cases e
theorem vk (rep : Rep K ι H S) {p : Addr} {H' : Hp} : RelD K (ι ++ [p]) H' (.lst S.length) (.ref p) := .lst (by rw [<- rep.len]; simp)
theorem bq {ds : List D} {vs : List V} {Q : VK} (c : cont K E (bJ ds) ι S H (ja K Q)) (rep : Rep K ι H S) (r : RelDs K ι H ds vs) : vs.length <= lim /\ ∀ p, H p = none -> Q (.ref p) (upd H p (.lst vs)) :=
 let ⟨h1, h2⟩ := tN c rep r
 ⟨h1, fun p hp => h2 p hp _ (vk rep)⟩
theorem fI {ds : List D} {vs : List V} {Q : VK} (c : cont K E (dz ds) ι S H (ja K Q)) (rep : Rep K ι H S) (r : RelDs K ι H ds vs) : vs.length <= lim /\ ∀ p, H p = none -> Q (.ref p) (upd H p (.tup vs)) := by
 unfold dz at c
 split at c
 ·next hl =>
  refine ⟨by rw [<- r.length]; exact hl, fun p hp => ?_⟩
  exact ah c (cR hp) (dL rep hp) _ (.tup aK (r.later rep (cR hp)))
 ·exact (af c).elim
theorem fJ {ds : List D} {vs : List V} {a : Addr} {Q : VK} (c : cont K E (dz ds) ι S H (ja K Q)) (rep : Rep K ι H S) (h : H a = some (.tup vs)) (r : RelDs K ι H ds vs) : Q (.ref a) H := by
 unfold dz at c
 split at c
 ·exact ah c .refl rep _ (.tup h r)
 ·exact (af c).elim
theorem aU {k : Nat} {a : Addr} {f : List D -> M α} {Q : α -> List Addr -> ae -> Hp -> Prop} (c : cont K E (getL k >>= f) ι S H Q) (rep : Rep K ι H S) (hk : ι[k]? = some a) :
  ∃ ds vs, S[k]? = some ds /\ H a = some (.lst vs) /\ RelDs K ι H ds vs /\ cont K E (f ds) ι S H Q := by
 obtain ⟨r', S', e, q⟩ := ag c
 unfold getL at e
 cases z : S[k]? with
 | none => rw [z] at e; cases e
 | some ds =>
  rw [z] at e
  cases e
  obtain ⟨vs, h1, h2⟩ := rep.get k a ds hk z
  exact ⟨ds, vs, rfl, h1, h2, q ι H .refl rep⟩
theorem ia {k : Nat} {a : Addr} {ds : List D} {vs : List V} {Q : D -> List Addr -> ae -> Hp -> Prop} (c : cont K E (nM k ds) ι S H Q) (rep : Rep K ι H S) (hk : ι[k]? = some a) (r : RelDs K ι H ds vs) :
  vs.length <= lim /\ Q .non ι (S.set k ds) (upd H a (.lst vs)) := by
 obtain ⟨r', S', e, q⟩ := c
 unfold nM at e
 split at e
 ·next hl =>
  cases e
  exact ⟨by rw [<- r.length]; exact hl.1, q _ _ (nH (List.mem_of_getElem? hk)) (nI rep hk r)⟩
 ·cases e
end
section
variable {X : Cx} {E : XD} {a b e : Expr} {m n : TM} {pos : Pos} {rest es : List Expr} {ms : aA -> M (List D)} {t u : aA -> M Bool}
theorem iJ {op} (h : SE X E a m) : SE X E (.BoolOp op [a] pos) m := yQ h
theorem gy (ha : SE X E a m) (hb : SE X E (.BoolOp .And (b :: rest) pos) n) : SE X E (.BoolOp .And (a :: b :: rest) pos) (fun ρ => do let x <- m ρ; let c <- jb x; if c = true then n ρ else pure (.bl false)) := by
 refine PE.imp (yR ha hb) fun σ H Q h => ?_
 obtain ⟨ι, S, ρ, rep, re, c⟩ := h
 refine ⟨ι, S, ρ, rep, re, aj (ag c) fun x ι1 S1 H1 e1 rep1 c1 v1 r1 => ?_⟩
 obtain ⟨k, rfl, rfl, c2⟩ := nN rep1 r1 c1
 refine ⟨k, rfl, ?_⟩
 cases k with
 | true => exact ⟨ι1, S1, ρ, rep1, re.later rep e1, c2⟩
 | false => exact ah c2 .refl rep1 _ (.bl false)
theorem zB (ha : SE X E a m) : SE X E (.UnaryOp .Not a pos) (fun ρ => do let x <- m ρ; let c <- jb x; pure (.bl (!c))) := by
 refine PE.imp (yS ha) fun σ H Q h => ?_
 obtain ⟨ι, S, ρ, rep, re, c⟩ := h
 refine ⟨ι, S, ρ, rep, re, aj (ag c) fun x ι1 S1 H1 e1 rep1 c1 v1 r1 => ?_⟩
 obtain ⟨k, rfl, rfl, c2⟩ := nN rep1 r1 c1
 exact ⟨k, rfl, ah c2 .refl rep1 _ (.bl _)⟩
theorem Bl {c : Expr} (hc : SB X E c t) (ha : SE X E a m) (hb : SE X E b n) : SE X E (.IfExp c a b pos) (fun ρ => do let k <- t ρ; if k = true then m ρ else n ρ) := by
 refine PE.imp (uK hc ha hb) fun σ H Q h => ?_
 obtain ⟨ι, S, ρ, rep, re, c⟩ := h
 refine ⟨ι, S, ρ, rep, re, aj (ag c) fun k ι1 S1 H1 e1 rep1 c1 => ?_⟩
 cases k with
 | true => exact ⟨ι1, S1, ρ, rep1, re.later rep e1, c1⟩
 | false => exact ⟨ι1, S1, ρ, rep1, re.later rep e1, c1⟩
theorem Bm {σ : St} {H : Hp} {Q : Bool -> Hp -> Prop} (h : zx X.K E (fun ρ => do let x <- m ρ; jb x) σ H Q) : tB (tM X.K E m) σ H Q := by
 obtain ⟨ι, S, ρ, rep, re, c⟩ := h
 refine ⟨ι, S, ρ, rep, re, aj (ag c) fun x ι1 S1 H1 e1 rep1 c1 v1 r1 => ?_⟩
 obtain ⟨k, rfl, rfl, c2⟩ := kQ rep1 r1 c1
 exact ⟨k, rfl, c2⟩
theorem d0 (h : SE X E e m) (he : ∀ whole, isTrue e X.env whole = (do let v <- whole; standAt e.pos; holding [v] (truthy v)) := by intro _; rfl) : SB X E e (fun ρ => do let x <- m ρ; jb x) :=
 PT.imp (yM h he) fun _ _ _ q => Bm q
theorem jI {op : CmpOp} {f : D -> D -> M D} {r : R2} (h : gf X (compareOp op) r) (ho : nL X.K E f r) (ha : SE X E a m) (hb : SE X E b n) (hm : behindInMarks op b = false := by first | exact oV _ (by decide) (by decide) | rfl) :
  SB X E (.Compare a [op] [b] pos) (fun ρ => do let z <- (do let x <- m ρ; let y <- n ρ; f x y); jb z) :=
 PT.imp (wY h ha hb hm) fun σ H Q q => by
  obtain ⟨ι, S, ρ, rep, re, c⟩ := q
  refine xj ho (Q := fun x H' => ∃ k, x = .bl k /\ Q k H') ⟨ι, S, ρ, rep, re, aj (ag c) fun x ι1 S1 H1 e1 rep1 c1 v1 r1 => ?_⟩
  obtain ⟨k, rfl, rfl, c2⟩ := kQ rep1 r1 c1
  exact ⟨k, rfl, c2⟩
theorem gz (h : SB X E a t) : SB X E (.UnaryOp .Not a pos) (fun ρ => do let c <- t ρ; pure (!c)) := by
 refine PT.imp (yP h) fun σ H Q q => ?_
 obtain ⟨ι, S, ρ, rep, re, c⟩ := q
 exact ⟨ι, S, ρ, rep, re, aj (ag c) fun k ι1 S1 H1 e1 rep1 c1 => ah c1 .refl rep1⟩
theorem xk (h : SB X E a t) : zy X E (.BoolOp .And [a] pos) t := wO h
theorem qR (h : SB X E a t) : zy X E (.BoolOp .Or [a] pos) t := yN h
theorem zC (ha : SB X E a t) (hb : zy X E (.BoolOp .And (b :: rest) pos) u) : zy X E (.BoolOp .And (a :: b :: rest) pos) (fun ρ => do let c <- t ρ; if c = true then u ρ else pure false) := by
 refine PW.imp (yO ha hb) fun σ H Q q => ?_
 obtain ⟨ι, S, ρ, rep, re, c⟩ := q
 refine ⟨ι, S, ρ, rep, re, aj (ag c) fun k ι1 S1 H1 e1 rep1 c1 => ?_⟩
 cases k with
 | true => exact ⟨ι1, S1, ρ, rep1, re.later rep e1, c1⟩
 | false => exact ah c1 .refl rep1
theorem sj (ha : SB X E a t) (hb : zy X E (.BoolOp .Or (b :: rest) pos) u) : zy X E (.BoolOp .Or (a :: b :: rest) pos) (fun ρ => do let c <- t ρ; if c = true then pure true else u ρ) := by
 refine PW.imp (AM ha hb) fun σ H Q q => ?_
 obtain ⟨ι, S, ρ, rep, re, c⟩ := q
 refine ⟨ι, S, ρ, rep, re, aj (ag c) fun k ι1 S1 H1 e1 rep1 c1 => ?_⟩
 cases k with
 | false => exact ⟨ι1, S1, ρ, rep1, re.later rep e1, c1⟩
 | true => exact ah c1 .refl rep1
theorem xm (h : zy X E e t) : SB X E e t := PW.pt h
theorem al : SA X E [] (fun _ => pure []) := by
 refine PA.imp fG fun σ H Q q => ?_
 obtain ⟨ι, S, ρ, rep, re, c⟩ := q
 exact ah c .refl rep _ .nil
theorem ad (ha : SE X E e m) (hr : SA X E es ms) (hs : starEach (e :: es) X.env = (false, eval e X.env) :: starEach es X.env := by rfl) : SA X E (e :: es) (fun ρ => do let x <- m ρ; let xs <- ms ρ; pure (x :: xs)) := by
 refine PA.imp (b7 ha hr hs) fun σ H Q q => ?_
 obtain ⟨ι, S, ρ, rep, re, c⟩ := q
 refine ⟨ι, S, ρ, rep, re, aj (ag c) fun x ι1 S1 H1 e1 rep1 c1 v1 r1 => ?_⟩
 refine ⟨ι1, S1, ρ, rep1, re.later rep e1, aj (ag c1) fun xs ι2 S2 H2 e2 rep2 c2 vs r2 => ?_⟩
 exact ah c2 .refl rep2 _ (.cons (r1.later rep1 e2) r2)
theorem eQ {x1} (h : SA X E es ms) : SE X E (.Tuple es x1 pos) (fun ρ => do let ds <- ms ρ; dz ds) := by
 refine PE.imp (uW h) fun σ H Q q => ?_
 obtain ⟨ι, S, ρ, rep, re, c⟩ := q
 refine ⟨ι, S, ρ, rep, re, aj (ag c) fun x ι1 S1 H1 e1 rep1 c1 vs r1 => ?_⟩
 obtain ⟨h1, h2⟩ := fI c1 rep1 r1
 exact ⟨Nat.le_trans h1 gx, h2⟩
theorem a8 (h : SA X E es ms) : SE X E (.List es pos) (fun ρ => do let ds <- ms ρ; bJ ds) := by
 refine PE.imp (zj h) fun σ H Q q => ?_
 obtain ⟨ι, S, ρ, rep, re, c⟩ := q
 refine ⟨ι, S, ρ, rep, re, aj (ag c) fun x ι1 S1 H1 e1 rep1 c1 vs r1 => ?_⟩
 obtain ⟨h1, h2⟩ := bq c1 rep1 r1
 exact ⟨Nat.le_trans h1 gx, h2⟩
def iF (K : PySem.W.Frag) (E : XD) (f : List D -> M D) (r : List V -> Hp -> VK -> Prop) : Prop :=
 ∀ ι S H ds vs Q, Rep K ι H S -> RelDs K ι H ds vs -> cont K E (f ds) ι S H (ja K Q) -> r vs H Q
theorem Bn {f : List D -> M D} {r : List V -> Hp -> VK -> Prop} (ho : iF X.K E f r) {σ : St} {H : Hp} {Q : VK} (h : tM X.K E (fun ρ => do let ds <- ms ρ; f ds) σ H Q) : CG r (CP X.K E ms) σ H Q := by
 obtain ⟨ι, S, ρ, rep, re, c⟩ := h
 exact ⟨ι, S, ρ, rep, re, aj (ag c) fun ds ι1 S1 H1 e1 rep1 c1 vs r1 => ho ι1 S1 H1 ds vs Q rep1 r1 c1⟩
theorem fc {x : Str} {id : String} {f : List D -> M D} {r : List V -> Hp -> VK -> Prop} {p : Pos} (hc : bD X (.builtin id) r) (ho : iF X.K E f r) (hg : Gl X x) (hm : X.mg x = none) (hv : bootBuiltins x = some (.builtin id)) (ha : SA X E (e :: es) ms)
  (hn : x ≠ "__name__" := by decide) (hdb : (x == ("__debug__" : Str)) = false := by decide) (he : starEach (e :: es) X.env = (false, eval e X.env) :: starEach es X.env := by rfl) (hpl : (backTo pos (starEach es X.env)).any (·.1) = false := by rfl) :
  SE X E (.Call (.Name x p) (e :: es) [] pos) (fun ρ => do let ds <- ms ρ; f ds) :=
 PE.imp (e8 hc hg hm hv ha hn hdb he hpl) fun _ _ _ q => Bn ho q
theorem mM {x : Str} {T : String} {f : List D -> M D} {r : List V -> Hp -> VK -> Prop} {p : Pos} (hc : bD X (.type T) r) (ho : iF X.K E f r) (hg : Gl X x) (hm : X.mg x = none) (hv : bootBuiltins x = some (.type T)) (ha : SA X E (e :: es) ms)
  (hn : x ≠ "__name__" := by decide) (hdb : (x == ("__debug__" : Str)) = false := by decide) (he : starEach (e :: es) X.env = (false, eval e X.env) :: starEach es X.env := by rfl) (hpl : (backTo pos (starEach es X.env)).any (·.1) = false := by rfl) :
  SE X E (.Call (.Name x p) (e :: es) [] pos) (fun ρ => do let ds <- ms ρ; f ds) :=
 PE.imp (e9 hc hg hm hv ha hn hdb he hpl) fun _ _ _ q => Bn ho q
abbrev dm : XD := fun _ _ _ _ => False
def D9 (K : PySem.W.Frag) (F : List D -> M D) : Sp := fun vs H Q _ => ∃ ι S ds, Rep K ι H S /\ RelDs K ι H ds vs /\ cont K dm (F ds) ι S H (ja K Q)
def B4 (K : PySem.W.Frag) (E : XD) (f : D -> List D -> M D) (r : V -> List V -> Hp -> VK -> Prop) : Prop :=
 ∀ ι S H d ds v vs Q, Rep K ι H S -> RelD K ι H d v -> RelDs K ι H ds vs -> cont K E (f d ds) ι S H (ja K Q) -> r v vs H Q
end
end S3
end
section
namespace S3
open PySem PySem.Spec PyProof.Rows L2
theorem d4 {K : PySem.W.Frag} {E : XD} {α : Type} {c : M α} {ι ι' : List Addr} {S : ae} {H H' : Hp} {Q : α -> List Addr -> ae -> Hp -> Prop} (h : cont K E c ι S H Q) (e : Ext ι H ι' H') : cont K E c ι' S H' Q := by
 obtain ⟨r, S', q, k⟩ := h
 exact ⟨r, S', q, fun ι2 H2 x2 rep2 => k ι2 H2 (e.trans x2) rep2⟩
section
variable {X : Cx} {E : XD} {st : Stmt} {sts : List Stmt} {m n : bN} {e : Expr} {me : TM} {t : aA -> M Bool} {pos : Pos} {g : l5}
def nO (o : Out) (n : bN) : M Out := match o with
 | .nx ρ => n ρ
 | .ret d => pure (.ret d)
 | .bk ρ => pure (.bk ρ)
 | .ct ρ => pure (.ct ρ)
theorem bQ : pk X E [] (fun ρ => pure (.nx ρ)) := by
 refine lO.imp wP fun T σ H h => ?_
 obtain ⟨ι, S, ρ, rep, re, c⟩ := h
 exact ah c .refl rep σ re
theorem ao (h1 : SS X E st m) (h2 : pk X E sts n) : pk X E (st :: sts) (fun ρ => do let o <- m ρ; nO o n) := by
 refine lO.imp (uL h1 h2) fun T σ H h => ?_
 obtain ⟨ι, S, ρ, rep, re, c⟩ := h
 refine ⟨ι, S, ρ, rep, re, aj (ag c) fun o ι1 S1 H1 e1 rep1 c1 => ?_⟩
 cases o with
 | nx ρ' => exact fun σ' re' => ⟨ι1, S1, ρ', rep1, re', c1⟩
 | ret d => exact ah c1 .refl rep1
 | bk ρ' => exact ah c1 .refl rep1
 | ct ρ' => exact ah c1 .refl rep1
theorem aE (h1 : SS X E st m) : pk X E [st] m := by
 refine lO.imp (rX h1) fun T σ H h => h
theorem dM (he : SE X E e me) (hs : swapsWith e none pos.line X.env = pure false := by rfl) : SS X E (.Expr e pos) (fun ρ => do let _ <- me ρ; pure (.nx ρ)) := by
 refine PS.imp (wQ he hs) fun T σ H h => ?_
 obtain ⟨ι, S, ρ, rep, re, c⟩ := h
 refine ⟨ι, S, ρ, rep, re, aj (ag c) fun d ι1 S1 H1 e1 rep1 c1 v r => ?_⟩
 exact ah c1 .refl rep1 σ (re.later rep e1)
theorem aQ (he : SE X E e me) : SS X E (.Return (some e) pos) (fun ρ => do let d <- me ρ; pure (.ret d)) := by
 refine PS.imp (yT he) fun T σ H h => ?_
 obtain ⟨ι, S, ρ, rep, re, c⟩ := h
 exact ⟨ι, S, ρ, rep, re, aj (ag c) fun d ι1 S1 H1 e1 rep1 c1 => ah c1 .refl rep1⟩
theorem cY {a b : List Stmt} (hc : SB X E e t) (ha : pk X E a m) (hb : pk X E b n) : SS X E (.If e a b pos) (fun ρ => do let c <- t ρ; if c = true then m ρ else n ρ) := by
 refine PS.imp (AS hc ha hb) fun T σ H h => ?_
 obtain ⟨ι, S, ρ, rep, re, c⟩ := h
 refine ⟨ι, S, ρ, rep, re, aj (ag c) fun k ι1 S1 H1 e1 rep1 c1 => ?_⟩
 cases k with
 | true => exact ⟨ι1, S1, ρ, rep1, re.later rep e1, c1⟩
 | false => exact ⟨ι1, S1, ρ, rep1, re.later rep e1, c1⟩
theorem aL (i : Nat) {x : Str} (hN : X.N.Nodup) (hi : X.N[i]? = some x := by rfl) (hx : Loc X.env.scope x := by first | exact Or.inl rfl | exact Or.inr rfl) (hf : X.fn x = true \/ X.env.scope.names.lookup x = some .local := by first | exact .inl rfl | exact .inr rfl | assumption) :
  SG X E (.Name x pos) (fun d ρ => pure (ρ.set i (some d))) := by
 refine PG.imp (wS hN hi hx hf) fun v σ H Q h => ?_
 obtain ⟨ι, S, ρ, d, rep, re, r, c⟩ := h
 exact ah c .refl rep _ (re.set r i)
def CQ (K : PySem.W.Frag) (E : XD) (m : List D -> aA -> M aA) : wR := fun vs σ H Q => ∃ ι S ρ ds, Rep K ι H S /\ RelE K ι H ρ σ /\ RelDs K ι H ds vs /\ cont K E (m ds ρ) ι S H (fun ρ' ι' _ H' => ∀ σ', RelE K ι' H' ρ' σ' -> Q σ' H')
def B5 (X : Cx) (E : XD) (ts : List Expr) (m : List D -> aA -> M aA) : Prop := wI X ts (CQ X.K E m)
theorem wI.imp {X : Cx} {e : List Expr} {t t' : wR} (h : wI X e t) (k : ∀ v σ H Q, t' v σ H Q -> t v σ H Q) : wI X e t' := fun pins s σ H v u Q I r hw => h pins s σ H v u Q I r (k v σ H Q hw)
def kR : List D -> aA -> M aA := fun ds ρ => match ds with
 | [] => pure ρ
 | _ => M.fail
def c9 (g : l5) (gs : List D -> aA -> M aA) : List D -> aA -> M aA := fun ds ρ => match ds with
 | d :: r => do let ρ1 <- g d ρ; gs r ρ1
 | _ => M.fail
theorem ib : B5 X E [] kR := by
 refine wI.imp wT fun vs σ H Q h => ?_
 obtain ⟨ι, S, ρ, ds, rep, re, r, c⟩ := h
 cases ds with
 | nil => exact ⟨r.nil_inv, ah c .refl rep σ re⟩
 | cons d ds => exact (af c).elim
theorem bO {es : List Expr} {gs : List D -> aA -> M aA} (h1 : SG X E e g) (h2 : B5 X E es gs) (hs : (assignEach (e :: es) X.env).map (·.2) = assign e X.env :: (assignEach es X.env).map (·.2) := by rfl) : B5 X E (e :: es) (c9 g gs) := by
 refine wI.imp (uO h1 h2 hs) fun vs σ H Q h => ?_
 obtain ⟨ι, S, ρ, ds, rep, re, r, c⟩ := h
 cases ds with
 | nil => exact (af c).elim
 | cons d ds =>
  obtain ⟨v, ws, rfl, r1, r2⟩ := r.cons_inv
  refine ⟨v, ws, rfl, ι, S, ρ, d, rep, re, r1, aj (ag c) fun ρ1 ι1 S1 H1 e1 rep1 c1 σ1 re1 => ?_⟩
  exact ⟨ι1, S1, ρ1, ds, rep1, re1, r2.later rep e1, c1⟩
def j9 (n : Nat) (gs : List D -> aA -> M aA) : l5 := fun d ρ => match d with
 | .tup ds => if ds.length = n then gs ds ρ else M.fail
 | _ => M.fail
theorem jJ {es : List Expr} {k : Nat} {n : Nat} {gs : List D -> aA -> M aA} (hc : X.calm = true) (h : B5 X E es gs) (hn : (assignEach es X.env).length = n := by rfl) (hst : (assignEach es X.env).findIdx? (·.1) = none := by rfl) :
  SG X E (.Tuple es k pos) (j9 n gs) := by
 refine PG.imp (yU hc h hn hst) fun v σ H Q q => ?_
 obtain ⟨ι, S, ρ, d, rep, re, r, c⟩ := q
 cases d with
 | tup ds =>
  obtain ⟨a, vs, rfl, h1, h2⟩ := r.tup_inv
  dsimp only [j9] at c
  split at c
  ·next hl => exact ⟨a, vs, rfl, hV.of h1, by rw [<- h2.length]; exact hl, ι, S, ρ, ds, rep, re, h2, c⟩
  ·exact (af c).elim
 | _ => exact (af c).elim
theorem kS {tg : Expr} (he : SE X E e me) (hg : SG X E tg g) (hs : swapsWithSole [tg] e pos.line X.env = pure false := by rfl) (hw : swappedStores [tg] e X.env = pure none := by rfl)
  (h1 : (assignEach [tg] X.env).map (·.2) = [assign tg X.env] := by rfl) : SS X E (.Assign [tg] e pos) (fun ρ => do let d <- me ρ; let ρ' <- g d ρ; pure (.nx ρ')) := by
 refine PS.imp (yX he hg hs hw h1) fun T σ H h => ?_
 obtain ⟨ι, S, ρ, rep, re, c⟩ := h
 refine ⟨ι, S, ρ, rep, re, aj (ag c) fun d ι1 S1 H1 e1 rep1 c1 v r => ?_⟩
 exact ⟨ι1, S1, ρ, d, rep1, re.later rep e1, r, aj (ag c1) fun ρ' ι2 S2 H2 e2 rep2 c2 => ah c2 .refl rep2⟩
theorem aX (i : Nat) {x : Str} {pos' : Pos} (hN : X.N.Nodup) (he : SE X E e me) (hi : X.N[i]? = some x := by rfl) (hx : Loc X.env.scope x := by first | exact Or.inl rfl | exact Or.inr rfl) (hs : swapsWith e (some (.Name x pos')) pos.line X.env = pure false := by rfl)
  (hf : X.fn x = true \/ X.env.scope.names.lookup x = some .local := by first | exact .inl rfl | exact .inr rfl | assumption) : SS X E (.Assign [.Name x pos'] e pos) (fun ρ => do let d <- me ρ; pure (.nx (ρ.set i (some d)))) := by
 refine PS.imp (uP hN hi hx he hs hf) fun T σ H h => ?_
 obtain ⟨ι, S, ρ, rep, re, c⟩ := h
 refine ⟨ι, S, ρ, rep, re, aj (ag c) fun d ι1 S1 H1 e1 rep1 c1 v r => ?_⟩
 exact ah c1 .refl rep1 _ ((re.later rep e1).set r i)
def CS (K : PySem.W.Frag) (E : XD) (f : D -> D -> D -> M Unit) (r : uM) : Prop :=
 ∀ ι S H d1 d2 d3 v1 v2 v3 Q, Rep K ι H S -> RelD K ι H d1 v1 -> RelD K ι H d2 v2 -> RelD K ι H d3 v3 -> cont K E (f d1 d2 d3) ι S H (fun _ _ _ H' => Q H') -> r v1 v2 v3 H Q
def fe : D -> D -> D -> M Unit := fun o i v => match o, i with
 | .lst k, .int j => do
  let xs <- getL k
  match qI xs.length j with
  | some at' => do let _ <- nM k (xs.set at' v); pure ()
  | none => M.fail
 | _, _ => M.fail
inductive Chk where
 | none | some (k : Nat) | two (k j : Nat) (xs ys : List D)
structure Iter where
 items : List D
 chk : Chk
def Iter.okS (it : Iter) (S : ae) : Prop := match it.chk with
 | .none => True
 | .some k => S[k]? = .some it.items
 | .two k j xs ys => S[k]? = .some xs /\ S[j]? = .some ys
open Classical in
noncomputable def gC (it : Iter) : M Unit := fun S => if it.okS S then some (.ok (), S) else none
def iK (K : PySem.W.Frag) (it : Iter) (J : It) (ι : List Addr) (H : Hp) : Prop :=
 ∀ ι2 H2 S2, Ext ι H ι2 H2 -> Rep K ι2 H2 S2 -> it.okS S2 -> ∀ i, (∀ d, it.items[i]? = some d -> J.go i H2 /\ ∀ x H3, J.yld i H2 x H3 -> Ext ι2 H2 ι2 H3 /\ Rep K ι2 H3 S2 /\ RelD K ι2 H3 d x) /\ (it.items.length <= i -> J.stop i H2)
def Dt (K : PySem.W.Frag) (E : XD) (mi : aA -> M Iter) : TI := fun σ H R => ∃ ι S ρ, Rep K ι H S /\ RelE K ι H ρ σ /\ cont K E (mi ρ) ι S H (fun it ι' _ H' => ∀ J, iK K it J ι' H' -> R J H')
def SI (X : Cx) (E : XD) (tg iter : Expr) (mi : aA -> M Iter) : Prop := PI X tg iter (Dt X.K E mi)
noncomputable def jK (it : Iter) (g : l5) (b : bN) : List D -> aA -> M Out
 | [], ρ => do gC it; pure (.nx ρ)
 | d :: ds, ρ => do
  gC it
  let ρ1 <- g d ρ
  let o <- b ρ1
  match o with
  | .nx ρ' => jK it g b ds ρ'
  | .ct ρ' => jK it g b ds ρ'
  | .bk ρ' => pure (.nx ρ')
  | .ret r => pure (.ret r)
theorem jc {K : PySem.W.Frag} {ι : List Addr} {S : ae} {H : Hp} {α : Type} {it : Iter} {f : Unit -> M α} {Q : α -> List Addr -> ae -> Hp -> Prop} (h : cont K E (gC it >>= f) ι S H Q) (rep : Rep K ι H S) : it.okS S /\ cont K E (f ()) ι S H Q := by
 obtain ⟨r, S', e, k⟩ := ag h
 unfold gC at e
 split at e
 ·next ho => cases e; exact ⟨ho, k ι H .refl rep⟩
 ·cases e
theorem iL {iter tg : Expr} {body : List Stmt} {mi : aA -> M Iter} {b : bN} (hp : PassesOwn (model X.prog X.w) X.A X.env X.xe) (hc : X.calm = true) (hi : SI X E tg iter mi) (hg : SG X E tg g) (hb : pk X E body b)
  (hs : ∀ x, foldedSetIterable iter X.env x = pure x := by intro _; rfl) : SS X E (.For tg iter body [] pos) (fun ρ => do let it <- mi ρ; jK it g b it.items ρ) := by
 refine PS.imp (y0 hp hc hi hg hb hs) fun T σ H h => ?_
 obtain ⟨ι, S, ρ, rep, re, c⟩ := h
 refine ⟨ι, S, ρ, rep, re, aj (ag c) fun it ι1 S1 H1 e1 rep1 c1 J hJ => ?_⟩
 refine ⟨fun i n σ' H' => ∃ ι2 S2 ρ2, n = it.items.length - i /\ i <= it.items.length /\ Ext ι1 H1 ι2 H' /\ Rep X.K ι2 H' S2 /\ RelE X.K ι2 H' ρ2 σ' /\ cont X.K E (jK it g b (it.items.drop i) ρ2) ι2 S2 H' (zz X.K T), ⟨_, ι1, S1, ρ, rfl, Nat.zero_le _, .refl, rep1, re.later rep e1, c1⟩, ?_⟩
 rintro i n σ' H' ⟨ι2, S2, ρ2, hn, hi', e2, rep2, re2, c2⟩
 by_cases hlt : i < it.items.length
 ·have hd : it.items.drop i = it.items[i] :: it.items.drop (i + 1) := List.drop_eq_getElem_cons hlt
  rw [hd] at c2
  have c2' : cont X.K E (do gC it; let ρ1 <- g it.items[i] ρ2; let o <- b ρ1; match o with | .nx ρ' => jK it g b (it.items.drop (i + 1)) ρ' | .ct ρ' => jK it g b (it.items.drop (i + 1)) ρ' | .bk ρ' => pure (.nx ρ') | .ret r => pure (.ret r)) ι2 S2 H' (zz X.K T) := c2
  obtain ⟨ok, c3⟩ := jc c2' rep2
  obtain ⟨hgo, hst⟩ := hJ ι2 H' S2 e2 rep2 ok i
  obtain ⟨go, yl⟩ := hgo it.items[i] (List.getElem?_eq_getElem hlt)
  refine .inr ⟨go, fun σ'' H'' => ∃ ι3 S3 ρ3, Ext ι1 H1 ι3 H'' /\ Rep X.K ι3 H'' S3 /\ RelE X.K ι3 H'' ρ3 σ'' /\ cont X.K E (jK it g b (it.items.drop (i + 1)) ρ3) ι3 S3 H'' (zz X.K T), ?_, fun x H3 hy => ?_⟩
  ·rintro σ'' H'' ⟨ι3, S3, ρ3, e3, rep3, re3, c4⟩
   exact ⟨_, by omega, ι3, S3, ρ3, rfl, hlt, e3, rep3, re3, c4⟩
  ·obtain ⟨e3, rep3, rd⟩ := yl x H3 hy
   refine ⟨ι2, S2, ρ2, it.items[i], rep3, re2.later rep2 e3, rd, aj (ag (d4 c3 e3)) fun ρ4 ι4 S4 H4 e4 rep4 c4 σ4 re4 => ?_⟩
   refine ⟨ι4, S4, ρ4, rep4, re4, aj (ag c4) fun o ι5 S5 H5 e5 rep5 c5 => ?_⟩
   have e15 : Ext ι1 H1 ι5 H5 := e2.trans (e3.trans (e4.trans e5))
   cases o with
   | nx ρ' => exact fun σ5 re5 => ⟨ι5, S5, ρ', e15, rep5, re5, c5⟩
   | ct ρ' => exact fun σ5 re5 => ⟨ι5, S5, ρ', e15, rep5, re5, c5⟩
   | bk ρ' => exact ah c5 .refl rep5
   | ret d => exact ah c5 .refl rep5
 ·have hd : it.items.drop i = [] := List.drop_eq_nil_of_le (by omega)
  rw [hd] at c2
  have c2' : cont X.K E (do gC it; pure (.nx ρ2)) ι2 S2 H' (zz X.K T) := c2
  obtain ⟨ok, c3⟩ := jc c2' rep2
  exact .inl ⟨(hJ ι2 H' S2 e2 rep2 ok i).2 (by omega), ah c3 .refl rep2 σ' re2⟩
def gD (t : aA -> M Bool) (b : bN) : Nat -> aA -> M Out
 | 0, _ => M.fail
 | k + 1, ρ => do
  let c <- t ρ
  if c = true then do
   let o <- b ρ
   match o with
   | .nx ρ' => gD t b k ρ'
   | .ct ρ' => gD t b k ρ'
   | .bk ρ' => pure (.nx ρ')
   | .ret r => pure (.ret r)
  else pure (.nx ρ)
theorem vm (k : Nat) {body : List Stmt} {b : bN} (hp : PassesOwn (model X.prog X.w) X.A X.env X.xe) (hc : SB X E e t) (hb : pk X E body b) : SS X E (.While e body [] pos) (fun ρ => gD t b k ρ) := by
 refine PS.imp (uQ hp hc hb) fun T σ H h => ?_
 obtain ⟨ι, S, ρ, rep, re, c⟩ := h
 refine ⟨fun n σ' H' => ∃ ι2 S2 ρ2, Rep X.K ι2 H' S2 /\ RelE X.K ι2 H' ρ2 σ' /\ cont X.K E (gD t b n ρ2) ι2 S2 H' (zz X.K T), ⟨k, ι, S, ρ, rep, re, c⟩, ?_⟩
 rintro n σ' H' ⟨ι2, S2, ρ2, rep2, re2, c2⟩
 cases n with
 | zero => exact (af c2).elim
 | succ n =>
  refine ⟨ι2, S2, ρ2, rep2, re2, aj (ag c2) fun k ι3 S3 H3 e3 rep3 c3 => ?_⟩
  cases k with
  | false => exact ah c3 .refl rep3 σ' (re2.later rep2 e3)
  | true =>
   refine ⟨fun σ'' H'' => ∃ ι2 S2 ρ2, Rep X.K ι2 H'' S2 /\ RelE X.K ι2 H'' ρ2 σ'' /\ cont X.K E (gD t b n ρ2) ι2 S2 H'' (zz X.K T), fun σ'' H'' h => ⟨n, Nat.lt_succ_self _, h⟩, ?_⟩
   refine ⟨ι3, S3, ρ2, rep3, re2.later rep2 e3, aj (ag c3) fun o ι5 S5 H5 e5 rep5 c5 => ?_⟩
   cases o with
   | nx ρ' => exact fun σ5 re5 => ⟨ι5, S5, ρ', rep5, re5, c5⟩
   | ct ρ' => exact fun σ5 re5 => ⟨ι5, S5, ρ', rep5, re5, c5⟩
   | bk ρ' => exact ah c5 .refl rep5
   | ret d => exact ah c5 .refl rep5
end
end S3
end
section
namespace S3
open PySem PySem.Spec PyProof.Rows L2
def dN (H : Hp) (p : Addr) : Hp := fun a => if a = p then none else H a
theorem hide_ne {H : Hp} {p a : Addr} (h : a ≠ p) : dN H p a = H a := if_neg h
theorem jd {H : Hp} {p : Addr} : dN H p p = none := if_pos rfl
theorem bE {H : Hp} {p a : Addr} {o : HO} (h : dN H p a = some o) : a ≠ p /\ H a = some o := by
 by_cases e : a = p
 ·rw [e, jd] at h; cases h
 ·rw [hide_ne e] at h; exact ⟨e, h⟩
theorem vn {H : Hp} {p : Addr} {o : HO} (h : H p = some o) : upd (dN H p) p o = H := by
 funext a
 by_cases e : a = p
 ·rw [e, aK, h]
 ·rw [aw e, hide_ne e]
theorem gE {H : Hp} {p : Addr} {o : HO} : dN (upd H p o) p = dN H p := by
 funext a
 by_cases e : a = p
 ·rw [e, jd, jd]
 ·rw [hide_ne e, hide_ne e, aw e]
theorem fK {H : Hp} {p : Addr} (h : H p = none) : dN H p = H := by
 funext a
 by_cases e : a = p
 ·rw [e, jd, h]
 ·rw [hide_ne e]
section
variable {K : PySem.W.Frag} {ι ι' : List Addr} {H H' : Hp} {S : ae} {p : Addr}
mutual
theorem RelD.hide {ws : List V} (hp : H p = some (.lst ws)) : ∀ {d : D} {v : V}, RelD K ι H d v -> RelD K ι (dN H p) d v
 | _, _, .non => .non
 | _, _, .bl b => .bl b
 | _, _, .int i => .int i
 | _, _, .str x => .str x
 | _, _, .tup h hs => .tup (by rw [hide_ne (fun z => by rw [z, hp] at h; cases h)]; exact h) (RelDs.hide hp hs)
 | _, _, .lst h => .lst h
 | _, _, .ro h hs => .ro (h.imp (fun ⟨o, h⟩ => ⟨o, by rw [hide_ne (fun z => by rw [z, hp] at h; cases h)]; exact h⟩) fun z => z) (RelDs.hide hp hs)
 | _, _, .emp h => .emp (by rw [hide_ne (fun z => by rw [z, hp] at h; cases h)]; exact h)
 | _, _, .fn h hs => .fn (by rw [hide_ne (fun z => by rw [z, hp] at h; cases h)]; exact h) (RelDs.hide hp hs)
 | _, _, .exc n h => .exc n (by rw [hide_ne (fun z => by rw [z, hp] at h; cases h)]; exact h)
 | _, _, .excF n h h2 hn hs => .excF n (by rw [hide_ne (fun z => by rw [z, hp] at h; cases h)]; exact h) (by rw [hide_ne (fun z => by rw [z, hp] at h2; cases h2)]; exact h2) hn (RelDs.hide hp hs)
theorem RelDs.hide {ws : List V} (hp : H p = some (.lst ws)) : ∀ {ds : List D} {vs : List V}, RelDs K ι H ds vs -> RelDs K ι (dN H p) ds vs
 | _, _, .nil => .nil
 | _, _, .cons h hs => .cons (RelD.hide hp h) (RelDs.hide hp hs)
end
mutual
theorem RelD.unhide : ∀ {d : D} {v : V}, RelD K ι (dN H p) d v -> RelD K ι H d v
 | _, _, .non => .non
 | _, _, .bl b => .bl b
 | _, _, .int i => .int i
 | _, _, .str x => .str x
 | _, _, .tup h hs => .tup (bE h).2 (RelDs.unhide hs)
 | _, _, .lst h => .lst h
 | _, _, .ro h hs => .ro (h.imp (fun ⟨o, h⟩ => ⟨o, (bE h).2⟩) fun z => z) (RelDs.unhide hs)
 | _, _, .emp h => .emp (bE h).2
 | _, _, .fn h hs => .fn (bE h).2 (RelDs.unhide hs)
 | _, _, .exc n h => .exc n (bE h).2
 | _, _, .excF n h h2 hn hs => .excF n (bE h).2 (bE h2).2 hn (RelDs.unhide hs)
theorem RelDs.unhide : ∀ {ds : List D} {vs : List V}, RelDs K ι (dN H p) ds vs -> RelDs K ι H ds vs
 | _, _, .nil => .nil
 | _, _, .cons h hs => .cons (RelD.unhide h) (RelDs.unhide hs)
end
theorem RelE.hide {ws : List V} (hp : H p = some (.lst ws)) : ∀ {ρ : aA} {σ : St}, RelE K ι H ρ σ -> RelE K ι (dN H p) ρ σ
 | _, _, .nil => .nil
 | _, _, .cons h t => .cons (fun d z => let ⟨v, e1, e2⟩ := h d z; ⟨v, e1, e2.hide hp⟩) (RelE.hide hp t)
theorem RelE.unhide : ∀ {ρ : aA} {σ : St}, RelE K ι (dN H p) ρ σ -> RelE K ι H ρ σ
 | _, _, .nil => .nil
 | _, _, .cons h t => .cons (fun d z => let ⟨v, e1, e2⟩ := h d z; ⟨v, e1, e2.unhide⟩) (RelE.unhide t)
theorem Rep.hide {ws : List V} (hp : H p = some (.lst ws)) (hn : p ∉ ι) (r : Rep K ι H S) : Rep K ι (dN H p) S :=
 ⟨r.nd, r.len, fun k a xs e1 e2 => let ⟨vs, h1, h2⟩ := r.get k a xs e1 e2; ⟨vs, by rw [hide_ne (fun z => hn (by rw [<- z]; exact List.mem_of_getElem? e1))]; exact h1, h2.hide hp⟩, r.tab.mono fun b o h n => by rw [hide_ne (fun z => by subst z; rw [h] at hp; exact n ws (Option.some.inj hp))]; exact h⟩
theorem Rep.unhide (r : Rep K ι (dN H p) S) : Rep K ι H S :=
 ⟨r.nd, r.len, fun k a xs e1 e2 => let ⟨vs, h1, h2⟩ := r.get k a xs e1 e2; ⟨vs, (bE h1).2, h2.unhide⟩, r.tab.mono fun b o h _ => (bE h).2⟩
theorem Ext.hide (e : Ext ι H ι' H') : Ext ι (dN H p) ι' (dN H' p) :=
 ⟨e.ids, fun a o h n t => by
  obtain ⟨h1, h2⟩ := bE h
  obtain ⟨h3, h4⟩ := e.oth a o h2 n t
  exact ⟨by rw [hide_ne h1]; exact h3, h4⟩⟩
theorem Ext.unhide (e : Ext ι H ι' (dN H' p)) : Ext ι H ι' H' :=
 ⟨e.ids, fun a o h n t => by
  obtain ⟨h3, h4⟩ := e.oth a o h n t
  exact ⟨(bE h3).2, h4⟩⟩
theorem jL {E : XD} {α : Type} {c : M α} {ws : List V} {Q : α -> List Addr -> ae -> Hp -> Prop} (h : cont K dm c ι S (dN H p) Q) (hp : H p = some (.lst ws)) (hn : p ∉ ι) :
  cont K E c ι S H (fun a ι' S' H' => H' p = some (.lst ws) /\ p ∉ ι' /\ Q a ι' S' (dN H' p)) := by
 obtain ⟨r, S', e, k⟩ := h
 refine ⟨r, S', e, fun ι' H' x rep => ?_⟩
 obtain ⟨h1, h2⟩ := x.oth p _ hp hn (by intro _ z; cases z)
 have := k ι' (dN H' p) x.hide (rep.hide h1 h2)
 cases r with
 | ok a => exact ⟨h1, h2, this⟩
 | ex y => exact this.elim
end
def iA (js : List (Option Nat)) (ρ : aA) : aA := js.map fun o => o.bind fun j => (ρ[j]?).join
theorem RelE.blk {K : PySem.W.Frag} {ι : List Addr} {H : Hp} {ρ : aA} {σ : St} (re : RelE K ι H ρ σ) : ∀ js : List (Option Nat), RelE K ι H (iA js ρ) (nG js σ)
 | [] => .nil
 | none :: js => .cons (fun d z => by cases z) (RelE.blk re js)
 | some j :: js => .cons (fun d z => by
   have z' : (ρ[j]?).join = some d := z
   have : ρ[j]? = some (some d) := by
    cases q : ρ[j]? with
    | none => rw [q] at z'; cases z'
    | some o => rw [q] at z'; exact congrArg some z'
   obtain ⟨v, e1, e2⟩ := re.get this
   refine ⟨v, ?_, e2⟩
   show (σ[j]?).join = some v
   rw [e1]; rfl) (RelE.blk re js)
noncomputable def cK (it : Iter) (g : l5) (t : aA -> M Bool) (m : TM) : List D -> aA -> M (List D)
 | [], ρ => do gC it; pure []
 | d :: ds, ρ => do
  gC it
  let ρ1 <- g d ρ
  let b <- t ρ1
  if b = true then do
   let y <- m ρ1
   let ys <- cK it g t m ds ρ1
   pure (y :: ys)
  else cK it g t m ds ρ1
noncomputable def cS (it : Iter) (g : l5) (t : aA -> M Bool) (m : TM) (ρ : aA) : M (List D) := if it.items.length <= lim then cK it g t m it.items ρ else M.fail
def B6 (X : Cx) (E : XD) (ifs : List Expr) (t : aA -> M Bool) : Prop := AE X ifs (zx X.K E t)
theorem eL {X : Cx} {E : XD} : B6 X E [] (fun _ => pure true) := fun pins s σ H Q I h => xf pins s σ H Q I (by
 obtain ⟨ι, S, ρ, rep, re, c⟩ := h
 exact ah c .refl rep)
theorem ic {X : Cx} {E : XD} {c : Expr} {t : aA -> M Bool} (h : SB X E c t) : B6 X E [c] t := xg h
section
variable {X : Cx} {scope : Scope} {Nc : List Str} {js : List (Option Nat)} {elt tg iter : Expr} {ifs : List Expr} {pos : Pos} {mi : aA -> M Iter} {g : l5} {t : aA -> M Bool} {m : TM}
theorem ff {α β γ : Type} (c : M α) (f : α -> M β) (h : β -> M γ) : ((c >>= f) >>= h) = (c >>= fun a => f a >>= h) := by
 funext S
 show M.bnd (M.bnd c f) h S = M.bnd c (fun a => M.bnd (f a) h) S
 unfold M.bnd
 cases c S with
 | none => rfl
 | some r =>
  obtain ⟨r, S'⟩ := r
  cases r <;> rfl
theorem gF {α β : Type} (a : α) (f : α -> M β) : (pure a >>= f) = f a := rfl
theorem nP {α β : Type} {c : Prop} [Decidable c] (x y : M α) (f : α -> M β) : ((if c then x else y) >>= f) = if c then x >>= f else y >>= f := by split <;> rfl
theorem pq {σ : St} {H : Hp} {Q : VK} (h : tM X.K dm (fun ρ => do let it <- mi ρ; let ys <- cS it g t m (iA js ρ); bJ ys) σ H Q) :
  si (Dt X.K dm mi) js (B3 X.K dm g) (zx X.K dm t) (tM X.K dm m) σ H Q := by
 obtain ⟨ι, S, ρ, rep, re, c⟩ := h
 refine ⟨ι, S, ρ, rep, re, aj (ag c) fun it ι1 S1 H1 e1 rep1 c1 J hJ p hp => ?_⟩
 have hcl : it.items.length <= lim /\ cont X.K dm (cK it g t m it.items (iA js ρ) >>= fun ys => bJ ys) ι1 S1 H1 (ja X.K Q) := by
  have c1' : cont X.K dm ((if it.items.length <= lim then cK it g t m it.items (iA js ρ) else M.fail) >>= fun ys => bJ ys) ι1 S1 H1 (ja X.K Q) := c1
  by_cases h : it.items.length <= lim
  ·rw [if_pos h] at c1'; exact ⟨h, c1'⟩
  ·rw [if_neg h] at c1'; exact (af (ag c1')).elim
 obtain ⟨hlen, c1⟩ := hcl
 have re1 : RelE X.K ι1 H1 (iA js ρ) (nG js σ) := (re.later rep e1).blk js
 refine ⟨fun i n σc Hc => ∃ ι2 S2 ρ2 xs vs, n = it.items.length - i /\ i <= it.items.length /\ Ext ι1 H1 ι2 (dN Hc p) /\ Rep X.K ι2 (dN Hc p) S2 /\ RelE X.K ι2 (dN Hc p) ρ2 σc /\ Hc p = some (.lst vs) /\ p ∉ ι2 /\ RelDs X.K ι2 (dN Hc p) xs vs /\ xs.length <= i /\
  cont X.K dm (cK it g t m (it.items.drop i) ρ2 >>= fun ys => bJ (xs ++ ys)) ι2 S2 (dN Hc p) (ja X.K Q), ⟨_, ι1, S1, iA js ρ, [], [], rfl, Nat.zero_le _, ?_, ?_, ?_, aK, rep1.free hp, .nil, Nat.zero_le _, ?_⟩, ?_⟩
 ·rw [gE, fK hp]; exact .refl
 ·rw [gE, fK hp]; exact rep1
 ·rw [gE, fK hp]; exact re1
 ·rw [gE, fK hp]; exact c1
 rintro i n σc Hc ⟨ι2, S2, ρ2, xs, vs, hn, hi', e2, rep2, re2, hpc, hpn, rx, hlim, c2⟩
 by_cases hlt : i < it.items.length
 ·have hd : it.items.drop i = it.items[i] :: it.items.drop (i + 1) := List.drop_eq_getElem_cons hlt
  rw [hd] at c2
  have c2' : cont X.K dm (gC it >>= fun _ => g it.items[i] ρ2 >>= fun ρ1 => t ρ1 >>= fun b => if b = true then m ρ1 >>= fun y => cK it g t m (it.items.drop (i + 1)) ρ1 >>= fun ys => bJ (xs ++ y :: ys) else cK it g t m (it.items.drop (i + 1)) ρ1 >>= fun ys => bJ (xs ++ ys)) ι2 S2 (dN Hc p) (ja X.K Q) := by
   have : (cK it g t m (it.items[i] :: it.items.drop (i + 1)) ρ2 >>= fun ys => bJ (xs ++ ys)) = (gC it >>= fun _ => g it.items[i] ρ2 >>= fun ρ1 => t ρ1 >>= fun b => if b = true then m ρ1 >>= fun y => cK it g t m (it.items.drop (i + 1)) ρ1 >>= fun ys => bJ (xs ++ y :: ys) else cK it g t m (it.items.drop (i + 1)) ρ1 >>= fun ys => bJ (xs ++ ys)) := by
    show ((gC it >>= fun _ => g it.items[i] ρ2 >>= fun ρ1 => t ρ1 >>= fun b => if b = true then m ρ1 >>= fun y => cK it g t m (it.items.drop (i + 1)) ρ1 >>= fun ys => pure (y :: ys) else cK it g t m (it.items.drop (i + 1)) ρ1) >>= fun ys => bJ (xs ++ ys)) = _
    simp only [ff, nP, gF]
   rw [<- this]; exact c2
  obtain ⟨ok, c3⟩ := jc c2' rep2
  obtain ⟨hgo, hst⟩ := hJ ι2 Hc S2 e2.unhide rep2.unhide ok i
  obtain ⟨go, yl⟩ := hgo it.items[i] (List.getElem?_eq_getElem hlt)
  refine .inr ⟨go, fun σ' H' => ∃ ι3 S3 ρ3 xs3 vs3, Ext ι1 H1 ι3 (dN H' p) /\ Rep X.K ι3 (dN H' p) S3 /\ RelE X.K ι3 (dN H' p) ρ3 σ' /\ H' p = some (.lst vs3) /\ p ∉ ι3 /\ RelDs X.K ι3 (dN H' p) xs3 vs3 /\ xs3.length <= i + 1 /\
   cont X.K dm (cK it g t m (it.items.drop (i + 1)) ρ3 >>= fun ys => bJ (xs3 ++ ys)) ι3 S3 (dN H' p) (ja X.K Q), ?_, fun x H3 hy => ?_⟩
  ·rintro σ' H' ⟨ι3, S3, ρ3, xs3, vs3, h1, h2, h3, h4, h5, h6, h7, h8⟩
   exact ⟨_, by omega, ι3, S3, ρ3, xs3, vs3, rfl, hlt, h1, h2, h3, h4, h5, h6, h7, h8⟩
  ·obtain ⟨e3, rep3, rd⟩ := yl x H3 hy
   obtain ⟨hp3, _⟩ := e3.oth p _ hpc hpn (by intro _ z; cases z)
   have e3h : Ext ι2 (dN Hc p) ι2 (dN H3 p) := e3.hide
   have c4 := ag (d4 c3 e3h)
   refine ⟨ι2, S2, ρ2, it.items[i], rep3, re2.unhide.later rep2.unhide e3, rd, aj (jL (E := dm) c4 hp3 hpn) fun ρ4 ι4 S4 H4 e4 rep4 ⟨hp4, hn4, c5⟩ σ4 re4 => ?_⟩
   have rep4h : Rep X.K ι4 (dN H4 p) S4 := rep4.hide hp4 hn4
   have e24 : Ext ι2 (dN Hc p) ι4 (dN H4 p) := e3h.trans e4.hide
   refine ⟨ι4, S4, ρ4, rep4, re4, aj (jL (E := dm) (ag c5) hp4 hn4) fun b ι5 S5 H5 e5 rep5 ⟨hp5, hn5, c6⟩ => ?_⟩
   have rep5h : Rep X.K ι5 (dN H5 p) S5 := rep5.hide hp5 hn5
   have e25 : Ext ι2 (dN Hc p) ι5 (dN H5 p) := e24.trans e5.hide
   have re5 : RelE X.K ι5 H5 ρ4 σ4 := re4.later rep4 e5
   cases b with
   | false =>
    have c6' : cont X.K dm (cK it g t m (it.items.drop (i + 1)) ρ4 >>= fun ys => bJ (xs ++ ys)) ι5 S5 (dN H5 p) (ja X.K Q) := c6
    exact ⟨ι5, S5, ρ4, xs, vs, e2.trans e25, rep5h, re5.hide hp5, hp5, hn5, rx.later rep2 e25, by omega, c6'⟩
   | true =>
    have c6' : cont X.K dm (m ρ4 >>= fun y => cK it g t m (it.items.drop (i + 1)) ρ4 >>= fun ys => bJ (xs ++ y :: ys)) ι5 S5 (dN H5 p) (ja X.K Q) := c6
    refine ⟨ι5, S5, ρ4, rep5, re5, aj (jL (E := dm) (ag c6') hp5 hn5) fun y ι6 S6 H6 e6 rep6 ⟨hp6, hn6, c7⟩ yv ry => ?_⟩
    have e26 : Ext ι2 (dN Hc p) ι6 (dN H6 p) := e25.trans e6.hide
    have rep6h : Rep X.K ι6 (dN H6 p) S6 := rep6.hide hp6 hn6
    have rx6 := rx.later rep2 e26
    have hl : vs.length < sizeLine := by rw [<- rx6.length]; exact Nat.lt_of_le_of_lt (by omega) zA
    refine ⟨vs, hp6, hl, ι6, S6, ρ4, xs ++ [y], vs ++ [yv], ?_⟩
    rw [gE]
    refine ⟨e2.trans e26, rep6h, (re5.later rep5 e6).hide hp6, aK, hn6, rx6.append (.cons (ry.hide hp6) .nil), by simp; omega, by simpa using c7⟩
 ·have hd : it.items.drop i = [] := List.drop_eq_nil_of_le (by omega)
  rw [hd] at c2
  have c2' : cont X.K dm (gC it >>= fun _ => bJ (xs ++ [])) ι2 S2 (dN Hc p) (ja X.K Q) := by
   have : (cK it g t m [] ρ2 >>= fun ys => bJ (xs ++ ys)) = (gC it >>= fun _ => bJ (xs ++ [])) := by
    show ((gC it >>= fun _ => pure []) >>= fun ys => bJ (xs ++ ys)) = _
    simp only [ff, gF]
   rw [<- this]; exact c2
  obtain ⟨ok, c3⟩ := jc c2' rep2
  rw [List.append_nil] at c3
  refine .inl ⟨(hJ ι2 Hc S2 e2.unhide rep2.unhide ok i).2 (by omega), ?_⟩
  have := (bq c3 rep2 rx).2 p jd
  rw [vn hpc] at this
  exact this
theorem cE (c : CompScope X scope Nc js) (hc : X.calm = true) (hi : SI X dm tg iter mi)
  (hin : ∀ C ex s H, SG (a7 X scope Nc C ex s H) dm tg g /\ B6 (a7 X scope Nc C ex s H) dm ifs t /\ SE (a7 X scope Nc C ex s H) dm elt m)
  (hs : ∀ x, foldedSetIterable iter X.env x = pure x := by intro _; rfl) : SE X dm (.ListComp elt [⟨tg, iter, ifs, 0⟩] scope pos) (fun ρ => do let it <- mi ρ; let ys <- cS it g t m (iA js ρ); bJ ys) :=
 PE.imp (xh (g := B3 X.K dm g) (tt := zx X.K dm t) (te := tM X.K dm m) c hc hi hin hs) fun _ _ _ q => pq q
theorem kT (i : Nat) {x : Str} {pos' cpos : Pos} (hN : X.N.Nodup) (c : CompScope X scope Nc js) (hc : X.calm = true) (hi : SI X dm tg iter mi)
  (hin : ∀ C ex s H, SG (a7 X scope Nc C ex s H) dm tg g /\ B6 (a7 X scope Nc C ex s H) dm ifs t /\ SE (a7 X scope Nc C ex s H) dm elt m)
  (hi' : X.N[i]? = some x := by rfl) (hx : Loc X.env.scope x := by first | exact Or.inl rfl | exact Or.inr rfl)
  (hsw : swapsWith (.ListComp elt [⟨tg, iter, ifs, 0⟩] scope cpos) (some (.Name x pos')) pos.line X.env = pure true := by rfl)
  (hf : X.fn x = true \/ X.env.scope.names.lookup x = some .local := by first | exact .inl rfl | exact .inr rfl | assumption)
  (hs : ∀ x, foldedSetIterable iter X.env x = pure x := by intro _; rfl) : SS X dm (.Assign [.Name x pos'] (.ListComp elt [⟨tg, iter, ifs, 0⟩] scope cpos) pos)
   (fun ρ => do let d <- (do let it <- mi ρ; let ys <- cS it g t m (iA js ρ); bJ ys); pure (.nx (ρ.set i (some d)))) := by
 refine PS.imp (qO (g := B3 X.K dm g) (tt := zx X.K dm t) (te := tM X.K dm m) hN hi' hx c hc hi hin hsw hf hs) fun T σ H h => ?_
 obtain ⟨ι, S, ρ, rep, re, c⟩ := h
 refine pq ⟨ι, S, ρ, rep, re, aj (ag c) fun d ι1 S1 H1 e1 rep1 c1 v r => ?_⟩
 exact ah c1 .refl rep1 _ ((re.later rep e1).set r i)
end
section
variable {P : Program} {w : World} {K : PySem.W.Frag} {mg : Str -> Option Value} {base : Heap}
def outD : Out -> M D
 | .nx _ => pure .non
 | .ret d => pure d
 | _ => M.fail
def nQ (N n : Nat) (m : bN) : List D -> M D := fun ds => if ds.length = n then do let o <- m (ds.map some ++ List.replicate (N - n) none); outD o else M.fail
end
end S3
end
section
namespace S3
open PySem PySem.Spec PyProof.Rows L2
theorem nL.or {K : PySem.W.Frag} {E : XD} {f : D -> D -> M D} {r r' : R2} (h : ∀ ι S H d1 d2 v1 v2 Q, Rep K ι H S -> RelD K ι H d1 v1 -> RelD K ι H d2 v2 -> cont K E (f d1 d2) ι S H (ja K Q) -> r v1 v2 H Q \/ r' v1 v2 H Q) : nL K E f (fun x y H Q => r x y H Q \/ r' x y H Q) := h
def cF (f : Int -> Int -> M D) : D -> D -> M D
 | .int i, .int j => f i j
 | _, _ => M.fail
theorem ie {K : PySem.W.Frag} {E : XD} {g : Int -> Int -> V} {f : Int -> Int -> D} (hg : ∀ ι H i j, RelD K ι H (f i j) (g i j)) : nL K E (cF fun i j => pure (f i j)) (wJ g) := by
 intro ι S H d1 d2 v1 v2 Q rep r1 r2 c
 cases d1 <;> cases d2 <;> first
  | exact (af c).elim
  | exact ⟨_, _, r1.int_inv, r2.int_inv, ah c .refl rep _ (hg _ _ _ _)⟩
theorem je {K : PySem.W.Frag} {E : XD} {C : Int -> Int -> Prop} [∀ i j, Decidable (C i j)] {g : Int -> Int -> V} {f : Int -> Int -> D} (hg : ∀ ι H i j, RelD K ι H (f i j) (g i j)) : nL K E (cF fun i j => if C i j then pure (f i j) else M.fail) (rI C g) := by
 intro ι S H d1 d2 v1 v2 Q rep r1 r2 c
 cases d1 <;> cases d2 <;> first
  | exact (af c).elim
  | (next i j =>
    have c' : cont K E (if C i j then pure (f i j) else M.fail) ι S H (ja K Q) := c
    by_cases h : C i j
    ·rw [if_pos h] at c'
     exact ⟨_, _, r1.int_inv, r2.int_inv, h, ah c' .refl rep _ (hg _ _ _ _)⟩
    ·rw [if_neg h] at c'
     exact (af c').elim)
def fL : D -> D -> M D := cF fun i j => pure (.int (i - j))
instance : ∀ i j, Decidable (kh i j) := fun i j => inferInstanceAs (Decidable (_ \/ _))
instance : ∀ i j, Decidable (nk i j) := fun i j => inferInstanceAs (Decidable (_ /\ _))
instance : ∀ i j, Decidable (wV i j) := fun i j => inferInstanceAs (Decidable (_ /\ _))
def kj : D -> D -> M D := cF fun i j => if kh i j then pure (.int (i * j)) else M.fail
def gi : D -> D -> M D := cF fun i j => if nk i j then pure (.int (i / j)) else M.fail
def jf : D -> D -> M D := cF fun i j => if 0 < j then pure (.int (i % j)) else M.fail
def xn : D -> D -> M D := cF fun i j => if wV i j then pure (.int (i ^ j.toNat)) else M.fail
def b9 : D -> D -> M D
 | .int i, .int j => pure (.int (i + j))
 | .tup xs, .tup ys => dz (xs ++ ys)
 | .lst a, .lst b => do let xs <- getL a; let ys <- getL b; bJ (xs ++ ys)
 | _, _ => M.fail
def Ea : D -> D -> M D := cF fun i j => pure (.bl (decide (i < j)))
def yn : D -> D -> M D := cF fun i j => pure (.bl (decide (i <= j)))
def Bo : D -> D -> M D := cF fun i j => pure (.bl (decide (j < i)))
def CT : D -> D -> M D := cF fun i j => pure (.bl (decide (j <= i)))
section
variable {X : Cx} {E : XD} {a b e c : Expr} {m n l : TM} {pos : Pos}
theorem eR (ha : SE X E a m) (hb : SE X E b n) : SE X E (.BinOp a .Sub b pos) (fun ρ => do let x <- m ρ; let y <- n ρ; fL x y) := mL y9 (ie fun _ _ _ _ => .int _) ha hb
theorem iM (ha : SE X E a m) (hb : SE X E b n) : SE X E (.BinOp a .Mult b pos) (fun ρ => do let x <- m ρ; let y <- n ρ; kj x y) := mL zb (je fun _ _ _ _ => .int _) ha hb
theorem jg (ha : SE X E a m) (hb : SE X E b n) : SE X E (.BinOp a .FloorDiv b pos) (fun ρ => do let x <- m ρ; let y <- n ρ; gi x y) := mL wW (je fun _ _ _ _ => .int _) ha hb
theorem gG (ha : SE X E a m) (hb : SE X E b n) : SE X E (.BinOp a .Mod b pos) (fun ρ => do let x <- m ρ; let y <- n ρ; jf x y) := mL zd (je (C := fun _ j => 0 < j) fun _ _ _ _ => .int _) ha hb
theorem vo (ha : SE X E a m) (hb : SE X E b n) : SE X E (.BinOp a .Pow b pos) (fun ρ => do let x <- m ρ; let y <- n ρ; xn x y) := mL zg (je fun _ _ _ _ => .int _) ha hb
theorem vp : gf X (binaryOp .Add) (fun x y H Q => ∃ a b ys, x = .ref a /\ y = .ref b /\ hV X.K H a [] /\ hV X.K H b ys /\ Q (.ref b) H) := by
 intro pins s σ H x y v u Q I rx ry h
 obtain ⟨a, b, ys, rfl, rfl, ha, hb, q⟩ := h
 cases rx
 cases ry
 obtain ⟨its, r1, p1, _⟩ := I.tuple ha
 obtain ⟨its2, r2, p2, _⟩ := I.tuple hb
 cases r1
 obtain ⟨⟨cls, dd, data, sl⟩, ho, hc, n, hd⟩ := id p1
 obtain ⟨⟨cls2, dd2, data2, sl2⟩, ho2, hc2, n2, hd2⟩ := id p2
 simp only at hc hd hc2 hd2
 subst hc hd hc2 hd2
 exact concat_meets ⟨_, ho, rfl⟩ ⟨_, ho2, rfl⟩ noFill_tuple_add seq_tuple_add PySem.F.slot_tuple_add PySem.F.entry_tuple_add (PySem.F.args_tuple_add_2 _ _)
  (tuple_addW0 a b #[] its2.toArray n n2 dd dd2 sl sl2 (by simp)) ⟨ho, ho2, ⟨.ref b, H, I, rfl, q⟩⟩
theorem bT (ha : SE X E a m) (hb : SE X E b n) : SE X E (.BinOp a .Add b pos) (fun ρ => do let x <- m ρ; let y <- n ρ; b9 x y) := by
 refine mL (y8.or (w8.or (vp.or zu))) ?_ ha hb
 intro ι S H d1 d2 v1 v2 Q rep r1 r2 c
 cases d1 <;> cases d2 <;> first
  | exact (af c).elim
  | exact .inl ⟨_, _, r1.int_inv, r2.int_inv, ah c .refl rep _ (.int _)⟩
  | (next xs ys =>
    obtain ⟨p, vs, rfl, h1, q1⟩ := r1.tup_inv
    obtain ⟨q, ws, rfl, h2, q2⟩ := r2.tup_inv
    obtain ⟨hl, hq⟩ := fI c rep (q1.append q2)
    rw [List.length_append] at hl
    cases vs with
    | nil =>
     refine .inr (.inr (.inl ⟨p, q, ws, rfl, rfl, .of h1, .of h2, ?_⟩))
     exact fJ c rep h2 (q1.append q2)
    | cons v vs =>
     refine .inr (.inl ⟨p, q, v :: vs, ws, rfl, rfl, .of h1, .of h2, by simp, Nat.le_trans hl gx, fun z => ?_, fun _ => hq⟩)
     subst z
     have := q1.append q2
     rw [List.append_nil] at this
     exact fJ c rep h1 this)
  | (next j k =>
    obtain ⟨p, rfl, h1⟩ := r1.lst_inv
    obtain ⟨q, rfl, h2⟩ := r2.lst_inv
    obtain ⟨ds, vs, _, hv, rv, c1⟩ := aU c rep h1
    obtain ⟨es, ws, _, hw, rw', c2⟩ := aU c1 rep h2
    obtain ⟨hl, hq⟩ := bq c2 rep (rv.append rw')
    rw [List.length_append] at hl
    exact .inr (.inr (.inr ⟨p, q, vs, ws, rfl, rfl, hv, hw, Nat.le_trans hl gx, hq⟩)))
theorem yo (ha : SE X E a m) (hb : SE X E b n) : SB X E (.Compare a [.Gt] [b] pos) (fun ρ => do let z <- (do let x <- m ρ; let y <- n ρ; Bo x y); jb z) := jI A5 (ie fun _ _ _ _ => .bl _) ha hb
theorem Bp (ha : SE X E a m) (hb : SE X E b n) : SB X E (.Compare a [.GtE] [b] pos) (fun ρ => do let z <- (do let x <- m ρ; let y <- n ρ; CT x y); jb z) := jI A6 (ie fun _ _ _ _ => .bl _) ha hb
def intsOf : List D -> Option (List Int)
 | [] => some []
 | .int i :: r => (intsOf r).map (i :: ·)
 | _ => none
theorem cG {K : PySem.W.Frag} {ι : List Addr} {H : Hp} : ∀ {ds : List D} {vs : List V} {ns : List Int}, RelDs K ι H ds vs -> intsOf ds = some ns -> vs = ns.map V.int
 | [], vs, ns, h, e => by cases e; rw [h.nil_inv]; rfl
 | .int i :: ds, vs, ns, h, e => by
  obtain ⟨v, ws, rfl, r1, r2⟩ := h.cons_inv
  cases q : intsOf ds with
  | none => simp [intsOf, q] at e
  | some ks =>
   simp [intsOf, q] at e
   subst e
   rw [r1.int_inv, cG r2 q]; rfl
 | .non :: _, _, _, _, e => by cases e
 | .bl _ :: _, _, _, _, e => by cases e
 | .str _ :: _, _, _, _, e => by cases e
 | .tup _ :: _, _, _, _, e => by cases e
 | .lst _ :: _, _, _, _, e => by cases e
 | .ro _ :: _, _, _, _, e => by cases e
 | .emp :: _, _, _, _, e => by cases e
def oR : D -> D -> M D
 | .int i, .int j => pure (.bl (decide (i < j)))
 | .tup xs, .tup ys => match intsOf xs, intsOf ys with
  | some ns, some ms => pure (.bl (HT.lexLt ns ms))
  | _, _ => M.fail
 | _, _ => M.fail
theorem qS : nL X.K E oR (fun x y H Q => wJ (fun i j => .bl (decide (i < j))) x y H Q \/ Bb X.K x y H Q) := by
 intro ι S H d1 d2 v1 v2 Q rep r1 r2 c
 cases d1 <;> cases d2 <;> first
  | exact (af c).elim
  | exact .inl ⟨_, _, r1.int_inv, r2.int_inv, ah c .refl rep _ (.bl _)⟩
  | (next xs ys =>
    obtain ⟨p, vs, rfl, h1, q1⟩ := r1.tup_inv
    obtain ⟨q, ws, rfl, h2, q2⟩ := r2.tup_inv
    dsimp only [oR] at c
    split at c
    ·next ns ms e1 e2 =>
     refine .inr ⟨p, q, ns, ms, rfl, rfl, .of (by rw [<- cG q1 e1]; exact h1), .of (by rw [<- cG q2 e2]; exact h2), ah c .refl rep _ (.bl _)⟩
    ·exact (af c).elim)
theorem yp (hu : X.A.units < cLine) (ha : SE X E a m) (hb : SE X E b n) : SE X E (.Compare a [.Lt] [b] pos) (fun ρ => do let x <- m ρ; let y <- n ρ; oR x y) := qQ (uS.or (qH hu)) qS ha hb
theorem vt (hu : X.A.units < cLine) (ha : SE X E a m) (hb : SE X E b n) : SB X E (.Compare a [.Lt] [b] pos) (fun ρ => do let z <- (do let x <- m ρ; let y <- n ρ; oR x y); jb z) := jI (uS.or (qH hu)) qS ha hb
def Eb (f : Int -> Int -> Bool) : D -> D -> M D := cF fun i j => pure (.bl (f i j))
theorem pv {f g : D -> D -> M D} {r r' : R2} (hf : nL X.K E f r) (hg : nL X.K E g r') {σ : St} {H : Hp} {Q : VK}
  (h : tM X.K E (fun ρ => do let x <- m ρ; let y <- n ρ; let z <- f x y; let k <- jb z; if k = true then do let w <- l ρ; g y w else pure (.bl false)) σ H Q) : qB r r' (tM X.K E m) (tM X.K E n) (tM X.K E l) σ H Q := by
 obtain ⟨ι, S, ρ, rep, re, c⟩ := h
 refine ⟨ι, S, ρ, rep, re, aj (ag c) fun x ι1 S1 H1 e1 rep1 c1 v1 r1 => ?_⟩
 refine ⟨ι1, S1, ρ, rep1, re.later rep e1, aj (ag c1) fun y ι2 S2 H2 e2 rep2 c2 v2 r2 => ?_⟩
 refine hf ι2 S2 H2 x y v1 v2 _ rep2 (r1.later rep1 e2) r2 (aj (ag c2) fun z ι3 S3 H3 e3 rep3 c3 v3 r3 => ?_)
 obtain ⟨k, rfl, rfl, c4⟩ := nN rep3 r3 c3
 refine ⟨k, rfl, ?_⟩
 cases k with
 | true =>
  exact ⟨ι3, S3, ρ, rep3, ((re.later rep e1).later rep1 e2).later rep2 e3, aj (ag c4) fun w ι4 S4 H4 e4 rep4 c5 v4 r4 => hg ι4 S4 H4 y w v2 v4 Q rep4 ((r2.later rep2 e3).later rep3 e4) r4 c5⟩
 | false => exact ah c4 .refl rep3 _ (.bl false)
theorem vv {op op' : CmpOp} {f g : D -> D -> M D} {r r' : R2} (h : gf X (compareOp op) r) (h' : gf X (compareOp op') r') (hf : nL X.K E f r) (hg : nL X.K E g r') (ha : SE X E a m) (hb : SE X E b n) (hc : SE X E c l)
  (hm : lastMarks [op, op'] [b, c] = false := by with_unfolding_all rfl) :
  SE X E (.Compare a [op, op'] [b, c] pos) (fun ρ => do let x <- m ρ; let y <- n ρ; let z <- f x y; let k <- jb z; if k = true then do let w <- l ρ; g y w else pure (.bl false)) :=
 PE.imp (uU h h' ha hb hc hm) fun _ _ _ q => pv hf hg q
theorem vw {op op' : CmpOp} {f g : D -> D -> M D} {r r' : R2} (h : gf X (compareOp op) r) (h' : gf X (compareOp op') r') (hf : nL X.K E f r) (hg : nL X.K E g r') (ha : SE X E a m) (hb : SE X E b n) (hc : SE X E c l)
  (hm : lastMarks [op, op'] [b, c] = false := by with_unfolding_all rfl) :
  SB X E (.Compare a [op, op'] [b, c] pos) (fun ρ => do let v <- (do let x <- m ρ; let y <- n ρ; let z <- f x y; let k <- jb z; if k = true then do let w <- l ρ; g y w else pure (.bl false)); jb v) :=
 PT.imp (uV h h' ha hb hc hm) fun σ H Q q => by
  obtain ⟨ι, S, ρ, rep, re, c⟩ := q
  refine pv hf hg (Q := fun x H' => ∃ k, x = .bl k /\ Q k H') ⟨ι, S, ρ, rep, re, aj (ag c) fun x ι1 S1 H1 e1 rep1 c1 v1 r1 => ?_⟩
  obtain ⟨k, rfl, rfl, c2⟩ := kQ rep1 r1 c1
  exact ⟨k, rfl, c2⟩
def dO : D -> D -> M D
 | .lst k, .int i => do
  let xs <- getL k
  match gh xs i with
  | some d => pure d
  | none => M.fail
 | .tup xs, .int i => match gh xs i with
  | some d => pure d
  | none => M.fail
 | .ro xs, .int i => match gh xs i with
  | some d => pure d
  | none => M.fail
 | _, _ => M.fail
theorem nR {K : PySem.W.Frag} {ι : List Addr} {H : Hp} {ds : List D} {vs : List V} {i : Int} {d : D} (h : RelDs K ι H ds vs) (e : gh ds i = some d) : ∃ v, gh vs i = some v /\ RelD K ι H d v := by
 unfold gh at e ⊢
 rw [h.length] at e
 cases q : qI vs.length i with
 | none => rw [q] at e; cases e
 | some j =>
  rw [q] at e
  exact h.get' e
theorem zD : nL X.K E dO (Dq X.K) := by
 intro ι S H d1 d2 v1 v2 Q rep r1 r2 c
 cases d1 <;> cases d2 <;> first
  | exact (af c).elim
  | (next k i =>
    obtain ⟨p, rfl, h1⟩ := r1.lst_inv
    obtain ⟨ds, vs, _, hv, rv, c1⟩ := aU c rep h1
    cases q : gh ds i with
    | none => rw [q] at c1; exact (af c1).elim
    | some d =>
     rw [q] at c1
     obtain ⟨v, e1, e2⟩ := nR rv q
     exact .inl ⟨p, vs, i, v, rfl, r2.int_inv, .of hv, e1, ah c1 .refl rep _ e2⟩)
  | (next ds i =>
    obtain ⟨p, vs, rfl, h1, rv⟩ := r1.tup_inv
    dsimp only [dO] at c
    cases q : gh ds i with
    | none => rw [q] at c; exact (af c).elim
    | some d =>
     rw [q] at c
     obtain ⟨v, e1, e2⟩ := nR rv q
     exact .inr (.inl ⟨p, vs, i, v, rfl, r2.int_inv, .of h1, e1, ah c .refl rep _ e2⟩))
  | (next ds i =>
    obtain ⟨p, vs, rfl, h1, rv⟩ := r1.ro_inv
    dsimp only [dO] at c
    cases q : gh ds i with
    | none => rw [q] at c; exact (af c).elim
    | some d =>
     rw [q] at c
     obtain ⟨v, e1, e2⟩ := nR rv q
     exact .inl ⟨p, vs, i, v, rfl, r2.int_inv, h1.sq, e1, ah c .refl rep _ e2⟩)
theorem aO (ha : SE X E a m) (hb : SE X E b n) (hs : nu b := by intro _ _; rfl) : SE X E (.Subscript a b pos) (fun ρ => do let x <- m ρ; let y <- n ρ; dO x y) := Bk zq zD ha hb hs
end
end S3
end
section
namespace S3
open PySem PySem.Spec PyProof.Rows L2
mutual
inductive ReadsV (H : Hp) : V -> PyData -> Prop where
 | non : ReadsV H .non .none
 | bl (b : Bool) : ReadsV H (.bl b) (.bool b)
 | int (i : Int) : ReadsV H (.int i) (.int i)
 | str (x : Str) : ReadsV H (.str x) (.str x)
 | lst {a : Addr} {vs : List V} {ps : List PyData} : Rd H a (.lst vs) -> ReadsVs H vs ps -> ReadsV H (.ref a) (.list ps)
 | tup {a : Addr} {vs : List V} {ps : List PyData} : H a = some (.tup vs) -> ReadsVs H vs ps -> ReadsV H (.ref a) (.tuple ps)
inductive ReadsVs (H : Hp) : List V -> List PyData -> Prop where
 | nil : ReadsVs H [] []
 | cons {v : V} {p : PyData} {vs : List V} {ps : List PyData} : ReadsV H v p -> ReadsVs H vs ps -> ReadsVs H (v :: vs) (p :: ps)
end
mutual
theorem ReadsV.heap {P : Program} {w : World} {H : Hp} {h : Heap} (ok : dJ P w H h) : ∀ {v : V} {p : PyData}, ReadsV H v p -> ∀ {u : Value}, RelV v u -> ∃ as, Reads h u p as
 | _, _, .non, u, r => by cases (show u = Value.none from r); exact ⟨_, .none⟩
 | _, _, .bl b, u, r => by cases (show u = Value.bool b from r); exact ⟨_, .bool b⟩
 | _, _, .int i, u, r => by obtain ⟨t, rfl⟩ := (show ∃ t, u = Value.int i t from r); exact ⟨_, .int i t⟩
 | _, _, .str x, u, r => by obtain ⟨t, rfl⟩ := (show ∃ t, u = Value.str x t from r); exact ⟨_, .str x t⟩
 | _, _, @ReadsV.lst _ a vs ps h1 h2, u, r => by
  cases (show u = Value.ref a from r)
  obtain ⟨_, its, n, rv, e⟩ := (show aW P w H h a (.lst vs) from h1.ok ok)
  obtain ⟨as, q⟩ := ReadsVs.heap ok h2 rv
  exact ⟨_, .list e rfl rfl (by simpa using q)⟩
 | _, _, @ReadsV.tup _ a vs ps h1 h2, u, r => by
  cases (show u = Value.ref a from r)
  obtain ⟨_, its, rv, o, e, c, n, d⟩ := (show aW P w H h a (.tup vs) from ok a _ h1)
  obtain ⟨as, q⟩ := ReadsVs.heap ok h2 rv
  exact ⟨_, .tuple e c d (by simpa using q)⟩
theorem ReadsVs.heap {P : Program} {w : World} {H : Hp} {h : Heap} (ok : dJ P w H h) : ∀ {vs : List V} {ps : List PyData}, ReadsVs H vs ps -> ∀ {us : List Value}, aI vs us -> ∃ as, ReadsAll h us ps as
 | _, _, .nil, us, r => by cases r; exact ⟨_, .nil⟩
 | _, _, .cons h1 h2, us, r => by
  cases r with
  | cons r1 r2 =>
   obtain ⟨as, q⟩ := ReadsV.heap ok h1 r1
   obtain ⟨bs, q'⟩ := ReadsVs.heap ok h2 r2
   exact ⟨_, .cons q q'⟩
end
def mapP (f : D -> Option PyData) : List D -> Option (List PyData)
 | [] => some []
 | d :: ds => match f d, mapP f ds with
  | some p, some ps => some (p :: ps)
  | _, _ => none
def iB (S : ae) : Nat -> D -> Option PyData
 | _, .non => some .none
 | _, .bl b => some (.bool b)
 | _, .int i => some (.int i)
 | _, .str x => if PyData.strOk x = true then some (.str x) else none
 | n + 1, .tup ds => (mapP (iB S n) ds).map .tuple
 | n + 1, .lst k => (S[k]?).bind fun xs => (mapP (iB S n) xs).map .list
 | _, _ => none
section
variable {K : PySem.W.Frag} {ι : List Addr} {S : ae} {H : Hp}
theorem kU {f : D -> Option PyData} {n : Nat} (hf : ∀ d p v, f d = some p -> RelD K ι H d v -> ReadsV H v p /\ p.canLay0 = true /\ p.depth <= n) :
  ∀ {ds : List D} {ps : List PyData} {vs : List V}, mapP f ds = some ps -> RelDs K ι H ds vs -> ReadsVs H vs ps /\ PyData.canLayAll0 ps = true /\ PyData.depthAll ps <= n
 | [], ps, vs, e, r => by
  cases e
  rw [r.nil_inv]
  exact ⟨.nil, rfl, Nat.zero_le _⟩
 | d :: ds, ps, vs, e, r => by
  obtain ⟨v, ws, rfl, r1, r2⟩ := r.cons_inv
  unfold mapP at e
  cases q : f d with
  | none => rw [q] at e; cases e
  | some p =>
   rw [q] at e
   cases q2 : mapP f ds with
   | none => rw [q2] at e; cases e
   | some ps' =>
    rw [q2] at e
    cases e
    obtain ⟨h1, h2, h3⟩ := hf d p v q r1
    obtain ⟨k1, k2, k3⟩ := kU hf q2 r2
    refine ⟨.cons h1 k1, ?_, ?_⟩
    ·show (PyData.canLay0 p && PyData.canLayAll0 ps') = true
     rw [h2, k2]; rfl
    ·show max p.depth (PyData.depthAll ps') <= n
     exact Nat.max_le.mpr ⟨h3, k3⟩
theorem kz (rep : Rep K ι H S) : ∀ (n : Nat) (d : D) (p : PyData) (v : V), iB S n d = some p -> RelD K ι H d v -> ReadsV H v p /\ p.canLay0 = true /\ p.depth <= n := by
 intro n
 induction n with
 | zero =>
  intro d p v e r
  cases d with
  | non => cases e; rw [r.non_inv]; exact ⟨.non, rfl, Nat.le_refl _⟩
  | bl b => cases e; rw [r.bl_inv]; exact ⟨.bl b, rfl, Nat.le_refl _⟩
  | int i => cases e; rw [r.int_inv]; exact ⟨.int i, rfl, Nat.le_refl _⟩
  | str x =>
   unfold iB at e
   split at e
   ·next hs => cases e; rw [r.str_inv]; exact ⟨.str x, hs, Nat.le_refl _⟩
   ·cases e
  | _ => cases e
 | succ n ih =>
  intro d p v e r
  cases d with
  | non => cases e; rw [r.non_inv]; exact ⟨.non, rfl, Nat.zero_le _⟩
  | bl b => cases e; rw [r.bl_inv]; exact ⟨.bl b, rfl, Nat.zero_le _⟩
  | int i => cases e; rw [r.int_inv]; exact ⟨.int i, rfl, Nat.zero_le _⟩
  | str x =>
   unfold iB at e
   split at e
   ·next hs => cases e; rw [r.str_inv]; exact ⟨.str x, hs, Nat.zero_le _⟩
   ·cases e
  | tup ds =>
   obtain ⟨a, vs, rfl, h1, h2⟩ := r.tup_inv
   unfold iB at e
   cases q : mapP (iB S n) ds with
   | none => rw [q] at e; cases e
   | some ps =>
    rw [q] at e; cases e
    obtain ⟨k1, k2, k3⟩ := kU ih q h2
    exact ⟨.tup h1 k1, k2, Nat.succ_le_succ k3⟩
  | lst k =>
   obtain ⟨a, rfl, h1⟩ := r.lst_inv
   unfold iB at e
   cases z : S[k]? with
   | none => rw [z] at e; cases e
   | some xs =>
    rw [z] at e
    obtain ⟨vs, h3, h2⟩ := rep.get k a xs h1 z
    cases q : mapP (iB S n) xs with
    | none => simp [q] at e
    | some ps =>
     simp [q] at e
     subst e
     obtain ⟨k1, k2, k3⟩ := kU ih q h2
     exact ⟨.lst (.inl h3) k1, k2, Nat.succ_le_succ k3⟩
  | ro ds => cases e
  | emp => cases e
  | fn a c q ds vs => cases e
  | exc x ds => cases e
end
def AF (f : PyData -> PyData -> Bool) : D -> D -> M D := fun a b S => match iB S 60 a, iB S 60 b with
 | some p, some q => some (.ok (.bl (f p q)), S)
 | _, _ => none
def qw : D -> D -> M D := AF PyData.eqv
def nS : D -> D -> M D := AF fun p q => !PyData.eqv p q
def CU (f : Bool -> Bool) : PyData -> PyData -> Option Bool
 | d, .list xs => some (f (xs.any fun y => PyData.eqv y d))
 | d, .tuple xs => some (f (xs.any fun y => PyData.eqv y d))
 | _, _ => none
def AG (f : Bool -> Bool) : D -> D -> M D := fun a b S => match iB S 60 a, iB S 60 b with
 | some p, some q => match CU f p q with
  | some r => some (.ok (.bl r), S)
  | none => none
 | _, _ => none
def inD : D -> D -> M D := AG id
def CV : D -> D -> M D := AG (!·)
section
variable {X : Cx} {E : XD} {a b e : Expr} {m n : TM} {pos : Pos}
def zE (f : PyData -> PyData -> Bool) : R2 := fun x y H Q => ∃ p q, (ReadsV H x p /\ p.canLay0 = true /\ p.depth <= 60) /\ (ReadsV H y q /\ q.canLay0 = true /\ q.depth <= 60) /\ Q (.bl (f p q)) H
theorem ig {p : PyData} (h : p.canLay0 = true) (hd : p.depth <= 60) : SeqAt.shaped p = true := by
 unfold SeqAt.shaped
 rw [h, Bool.true_and]
 exact decide_eq_true (by omega)
theorem vx (hu : X.A.units + 64 < cLine) : gf X (compareOp .Eq) (zE PyData.eqv) := by
 intro pins s σ H x y v u Q I rx ry h
 obtain ⟨p, q, ⟨p1, p2, p3⟩, ⟨q1, q2, q3⟩, h⟩ := h
 obtain ⟨as, ra⟩ := p1.heap I.hok rx
 obtain ⟨bs, rb⟩ := q1.heap I.hok ry
 exact eq_dataH ra rb (ig p2 p3) (ig q2 q3) hu ⟨.bl _, H, I, rfl, h⟩
theorem zF (hu : X.A.units + 64 < cLine) : gf X (compareOp .NotEq) (zE fun p q => !PyData.eqv p q) := by
 intro pins s σ H x y v u Q I rx ry h
 obtain ⟨p, q, ⟨p1, p2, p3⟩, ⟨q1, q2, q3⟩, h⟩ := h
 obtain ⟨as, ra⟩ := p1.heap I.hok rx
 obtain ⟨bs, rb⟩ := q1.heap I.hok ry
 exact ne_dataH ra rb (ig p2 p3) (ig q2 q3) hu ⟨.bl _, H, I, rfl, h⟩
theorem nU {f : PyData -> PyData -> Bool} : nL X.K E (AF f) (zE f) := by
 intro ι S H d1 d2 v1 v2 Q rep r1 r2 c
 obtain ⟨r, S', e, k⟩ := c
 unfold AF at e
 split at e
 ·next p q hp hq =>
  cases e
  exact ⟨p, q, kz rep 60 d1 p v1 hp r1, kz rep 60 d2 q v2 hq r2, k ι H .refl rep _ (.bl _)⟩
 ·cases e
theorem pw (hu : X.A.units + 64 < cLine) (ha : SE X E a m) (hb : SE X E b n) : SE X E (.Compare a [.Eq] [b] pos) (fun ρ => do let x <- m ρ; let y <- n ρ; qw x y) := qQ (vx hu) nU ha hb
theorem vy (hu : X.A.units + 64 < cLine) (ha : SE X E a m) (hb : SE X E b n) : SB X E (.Compare a [.Eq] [b] pos) (fun ρ => do let z <- (do let x <- m ρ; let y <- n ρ; qw x y); jb z) := jI (vx hu) nU ha hb
theorem jh (hu : X.A.units + 64 < cLine) (ha : SE X E a m) (hb : SE X E b n) : SB X E (.Compare a [.NotEq] [b] pos) (fun ρ => do let z <- (do let x <- m ρ; let y <- n ρ; nS x y); jb z) := jI (zF hu) nU ha hb
def Bq (f : Bool -> Bool) : R2 := fun x y H Q => ∃ p q r, (ReadsV H x p /\ p.canLay0 = true /\ p.depth <= 60) /\ (ReadsV H y q /\ q.canLay0 = true /\ q.depth <= 60) /\ CU f p q = some r /\ Q (.bl r) H
theorem sk {f : Bool -> Bool} : nL X.K E (AG f) (Bq f) := by
 intro ι S H d1 d2 v1 v2 Q rep r1 r2 c
 obtain ⟨r, S', e, k⟩ := c
 unfold AG at e
 split at e
 ·next p q hp hq =>
  split at e
  ·next r hr =>
   cases e
   exact ⟨p, q, r, kz rep 60 d1 p v1 hp r1, kz rep 60 d2 q v2 hq r2, hr, k ι H .refl rep _ (.bl _)⟩
  ·cases e
 ·cases e
theorem qT {xs : List PyData} (h : (PyData.list xs).depth <= 60) : PyData.depthAll xs <= 60 := Nat.le_of_succ_le h
theorem px {xs : List PyData} (h : (PyData.tuple xs).depth <= 60) : PyData.depthAll xs <= 60 := Nat.le_of_succ_le h
theorem vz (hu : X.A.units + 64 < cLine) : gf X (compareOp .In) (Bq id) := by
 intro pins s σ H x y v u Q I rx ry h
 obtain ⟨p, q, r, ⟨p1, p2, p3⟩, ⟨q1, q2, q3⟩, hr, h⟩ := h
 obtain ⟨as, ra⟩ := p1.heap I.hok rx
 obtain ⟨bs, rb⟩ := q1.heap I.hok ry
 cases q with
 | list xs =>
  cases hr
  exact SeqAt.in_list_reads rb ra q2 p2 (by have := qT q3; have : min (PyData.depthAll xs) p.depth <= 60 := Nat.le_trans (Nat.min_le_left _ _) this; omega) ⟨.bl _, H, I, rfl, h⟩
 | tuple xs =>
  cases hr
  exact SeqAt.in_tuple_reads rb ra q2 p2 (by have := px q3; have : min (PyData.depthAll xs) p.depth <= 60 := Nat.le_trans (Nat.min_le_left _ _) this; omega) ⟨.bl _, H, I, rfl, h⟩
 | _ => cases hr
theorem yq (hu : X.A.units + 64 < cLine) (ha : SE X E a m) (hb : SE X E b n) (hm : behindInMarks .In b = false := by rfl) : SE X E (.Compare a [.In] [b] pos) (fun ρ => do let x <- m ρ; let y <- n ρ; inD x y) := qQ (vz hu) sk ha hb hm
theorem Br (hu : X.A.units + 64 < cLine) (ha : SE X E a m) (hb : SE X E b n) (hm : behindInMarks .In b = false := by rfl) : SB X E (.Compare a [.In] [b] pos) (fun ρ => do let z <- (do let x <- m ρ; let y <- n ρ; inD x y); jb z) := jI (vz hu) sk ha hb hm
end
end S3
end
section
namespace S3
open PySem PySem.Spec PyProof.Rows L2
section
variable {X : Cx} {E : XD} {a b e c : Expr} {m n l : TM} {pos p2 : Pos} {es : List Expr} {ms : aA -> M (List D)}
def ED (f : Bool -> Bool) : D -> D -> M D
 | .bl i, .bl j => pure (.bl (f (i == j)))
 | d, .non => match d with
  | .non => pure (.bl (f true))
  | _ => pure (.bl (f false))
 | _, _ => M.fail
def CY : D -> M Int
 | .int i => pure i
 | _ => M.fail
def Ec (K : PySem.W.Frag) (E : XD) (m : aA -> M (Option Int)) : TO := fun σ H Q => ∃ ι S ρ, Rep K ι H S /\ RelE K ι H ρ σ /\ cont K E (m ρ) ι S H (fun o _ _ H' => Q o H')
def SO (X : Cx) (E : XD) (o : Option Expr) (m : aA -> M (Option Int)) : Prop := PO X o (Ec X.K E m)
theorem PO.imp {X : Cx} {e : Option Expr} {t t' : TO} (h : PO X e t) (k : ∀ σ H Q, t' σ H Q -> t σ H Q) : PO X e t' := fun pins s σ H Q I hw => h pins s σ H Q I (k σ H Q hw)
theorem xo : SO X E none (fun _ => pure none) := by
 refine PO.imp w5 fun σ H Q h => ?_
 obtain ⟨ι, S, ρ, rep, re, c⟩ := h
 exact ah c .refl rep
theorem xp (h : SE X E e m) : SO X E (some e) (fun ρ => do let x <- m ρ; let i <- CY x; pure (some i)) := by
 refine PO.imp (w6 h) fun σ H Q h => ?_
 obtain ⟨ι, S, ρ, rep, re, c⟩ := h
 refine ⟨ι, S, ρ, rep, re, aj (ag c) fun x ι1 S1 H1 e1 rep1 c1 v r => ?_⟩
 cases x with
 | int i => exact ⟨i, r.int_inv, ah (ah (ag c1) .refl rep1) .refl rep1⟩
 | _ => exact (af (ag c1)).elim
def cutD (xs : List D) (lo hi : Option Int) : List D := (xs.drop (HT.sIx xs.length 0 lo)).take (HT.sIx xs.length xs.length hi - HT.sIx xs.length 0 lo)
theorem nV {K : PySem.W.Frag} {ι : List Addr} {H : Hp} {ds : List D} {vs : List V} (lo hi : Option Int) (h : RelDs K ι H ds vs) : RelDs K ι H (cutD ds lo hi) (lU vs lo hi) := by
 unfold cutD lU
 rw [h.length]
 exact (h.drop _).take _
def qU : D -> Option Int -> Option Int -> M D
 | .tup xs, lo, hi => dz (cutD xs lo hi)
 | .lst k, lo, hi => do let xs <- getL k; bJ (cutD xs lo hi)
 | _, _, _ => M.fail
theorem xq : yj X (fun x lo hi H Q => ∃ a xs, x = .ref a /\ hV X.K H a xs /\ (HT.sIx xs.length 0 lo = 0 /\ HT.sIx xs.length xs.length hi = xs.length) /\ Q (.ref a) H) := by
 intro pins s σ H x v vl vu lo hi sl Q I rx hs pl pu h
 obtain ⟨a, xs, rfl, hx, hw, q⟩ := h
 cases rx
 obtain ⟨its, r, ht, hz⟩ := I.tuple hx
 have hlen : its.toArray.size = xs.length := by rw [List.size_toArray]; exact r.length.symm
 refine ⟨"tuple", _, PyProof.Rows.slot_tuple_getitem.lookup, ht.typeIs, ?_⟩
 have fin : EP X pins σ Q (.ref a) s := ⟨.ref a, H, I, rfl, q⟩
 obtain ⟨os, hos, hcs, hds⟩ := id hs
 have hTs : s.TypeIs (.ref sl) "slice" := ⟨os, hos, hcs⟩
 unfold getItem
 try with_reducible refine wpAny_holding ?_
 first | refine wpAny_bind (wpAny_pure ?_) | skip
 refine wpAny_bind (wpAny_sequenceKey ht.typeIs (by decide) ?_)
 refine wpAny_bind (wpAny_callSpecial?_slot (name := Str.ofString "__getitem__") ht.typeIs PyProof.Rows.slot_tuple_getitem
  (wpAny_call_entry PyProof.Rows.slot_tuple_getitem ht.typeIs entry_tuple_getitem ?_ (args_tuple_getitem _ _)))
 show wpAny _ _ (Builtin.Tuple.tupleItemsOf (.ref a) >>= _) _ _ s
 refine wpAny_bind (tupleItemsOf_ ht (wpAny_bind (wpAny_typeOf hTs ?_)))
 rw [if_pos (by decide)]
 refine wpAny_bind (HT.sliceApplied_gen hs pl pu ?_)
 rw [hlen, hw.1, hw.2]
 show wpAny _ _ (if ((((0 : Nat) : Int)) == 0 && (1 : Int) == 1 && (xs.length - 0) == xs.length) = true then _ else _) _ _ s
 rw [if_pos (by simp)]
 unfold Builtin.Tuple.tupleIsExact
 refine wpAny_bind (wpAny_bind (wpAny_typeOf ht.typeIs (wpAny_pure ?_)))
 rw [if_pos (by decide)]
 first
  | exact wpAny_bind (wpAny_rule (wpAny_pure ⟨_, rfl, wpAny_pure fin⟩))
  | exact wpAny_bind (wpAny_rule (wpAny_bind (wpAny_pure (wpAny_pure ⟨_, rfl, wpAny_pure fin⟩))))
theorem qV {xs : List V} {lo hi : Option Int} (h : HT.sIx xs.length 0 lo = 0 /\ HT.sIx xs.length xs.length hi = xs.length) : lU xs lo hi = xs := by
 unfold lU
 rw [h.1, h.2, List.drop_zero, Nat.sub_zero, List.take_length]
theorem vA {lo hi : Option Expr} {ml mh : aA -> M (Option Int)} (he : SE X E e m) (hl : SO X E lo ml) (hh : SO X E hi mh) :
  SE X E (.Subscript e (.Slice lo hi none p2) pos) (fun ρ => do let x <- m ρ; let i <- ml ρ; let j <- mh ρ; qU x i j) := by
 refine PE.imp (u6 (zm.or (xq.or xb)) he hl hh) fun σ H Q h => ?_
 obtain ⟨ι, S, ρ, rep, re, c⟩ := h
 refine ⟨ι, S, ρ, rep, re, aj (ag c) fun x ι1 S1 H1 e1 rep1 c1 v r => ?_⟩
 refine ⟨ι1, S1, ρ, rep1, re.later rep e1, aj (ag c1) fun i ι2 S2 H2 e2 rep2 c2 => ?_⟩
 refine ⟨ι2, S2, ρ, rep2, (re.later rep e1).later rep1 e2, aj (ag c2) fun j ι3 S3 H3 e3 rep3 c3 => ?_⟩
 have r3 := (r.later rep1 e2).later rep2 e3
 cases x with
 | tup ds =>
  obtain ⟨p, vs, rfl, h1, h2⟩ := r3.tup_inv
  by_cases hw : HT.sIx vs.length 0 i = 0 /\ HT.sIx vs.length vs.length j = vs.length
  ·refine .inr (.inl ⟨p, vs, rfl, .of h1, hw, fJ c3 rep3 h1 ?_⟩)
   have := nV i j h2
   rw [qV hw] at this
   exact this
  ·exact .inl ⟨p, vs, rfl, .of h1, hw, (fI c3 rep3 (nV i j h2)).2⟩
 | lst k =>
  obtain ⟨p, rfl, h1⟩ := r3.lst_inv
  obtain ⟨ds, vs, _, hv, rv, c4⟩ := aU c3 rep3 h1
  exact .inr (.inr ⟨p, vs, rfl, .of hv, (bq c4 rep3 (nV i j rv)).2⟩)
 | _ => exact (af c3).elim
end
end S3
end
section
namespace S3
open PySem PySem.Spec PyProof.Rows L2
section
variable {X : Cx} {E : XD} {a b e c o : Expr} {m n l : TM} {pos p2 : Pos} {es : List Expr} {ms : aA -> M (List D)}
def cO : List D -> M D
 | [.lst k] => do let xs <- getL k; pure (.int xs.length)
 | [.tup ds] => pure (.int ds.length)
 | [.ro ds] => pure (.int ds.length)
 | _ => M.fail
theorem tO : iF X.K E cO (fun xs H Q => ∃ p ys, xs = [.ref p] /\ (fE X.K H p ys \/ hV X.K H p ys) /\ Q (.int ys.length) H) := by
 intro ι S H ds vs Q rep r c
 match ds, r, c with
 | [.lst k], r, c =>
  obtain ⟨v, ws, rfl, r1, r2⟩ := r.cons_inv
  cases r2.nil_inv
  obtain ⟨p, rfl, h1⟩ := r1.lst_inv
  obtain ⟨es, us, _, hv, rv, c4⟩ := aU c rep h1
  refine ⟨p, us, rfl, .inl (.of hv), ?_⟩
  have := ah c4 .refl rep _ (.int _)
  rw [rv.length] at this; exact this
 | [.tup es], r, c =>
  obtain ⟨v, ws, rfl, r1, r2⟩ := r.cons_inv
  cases r2.nil_inv
  obtain ⟨p, us, rfl, h1, rv⟩ := r1.tup_inv
  refine ⟨p, us, rfl, .inr (.of h1), ?_⟩
  have := ah c .refl rep _ (.int _)
  rw [rv.length] at this; exact this
 | [.ro es], r, c =>
  obtain ⟨v, ws, rfl, r1, r2⟩ := r.cons_inv
  cases r2.nil_inv
  obtain ⟨p, us, rfl, h1, rv⟩ := r1.ro_inv
  refine ⟨p, us, rfl, .inl h1.sq, ?_⟩
  have := ah c .refl rep _ (.int _)
  rw [rv.length] at this; exact this
 | [], r, c => exact (af c).elim
 | [.non], r, c => exact (af c).elim
 | [.bl _], r, c => exact (af c).elim
 | [.int _], r, c => exact (af c).elim
 | [.str _], r, c => exact (af c).elim
 | [.emp], r, c => exact (af c).elim
 | d :: d2 :: r', r, c => cases d <;> exact (af c).elim
theorem cx {p : Pos} (hm : X.mg "len" = none) (ha : SE X E e m) (hg : Gl X "len" := by rfl) (hs : starEach [e] X.env = [(false, eval e X.env)] := by rfl) : SE X E (.Call (.Name "len" p) [e] [] pos) (fun ρ => do let ds <- (do let x <- m ρ; let xs <- pure []; pure (x :: xs)); cO ds) :=
 fc nw tO hg hm PySem.boot_len (ad ha al hs) (by decide) (by decide) hs rfl
def kX (f : Int -> Int -> Int) : List D -> M D
 | [.int i, .int j] => pure (.int (f i j))
 | _ => M.fail
theorem kY {f : Int -> Int -> Int} : iF X.K E (kX f) (fun xs H Q => ∃ i j, xs = [.int i, .int j] /\ Q (.int (f i j)) H) := by
 intro ι S H ds vs Q rep r c
 unfold kX at c
 split at c
 ·next i j =>
  obtain ⟨v, ws, rfl, r1, r2⟩ := r.cons_inv
  obtain ⟨v', ws', rfl, r3, r4⟩ := r2.cons_inv
  cases r4.nil_inv
  rw [r1.int_inv, r3.int_inv]
  exact ⟨i, j, rfl, ah c .refl rep _ (.int _)⟩
 ·exact (af c).elim
def maxD : List D -> M D := kX fun i j => if j > i then j else i
def minD : List D -> M D := kX fun i j => if j < i then j else i
theorem qW {p : Pos} (hc : X.calm = true) (hm : X.mg "max" = none) (ha : SA X E [a, b] ms) (hg : Gl X "max" := by rfl) (hs : starEach [a, b] X.env = [(false, eval a X.env), (false, eval b X.env)] := by rfl) (hs2 : starEach [b] X.env = [(false, eval b X.env)] := by rfl) :
  SE X E (.Call (.Name "max" p) [a, b] [] pos) (fun ρ => do let ds <- ms ρ; maxD ds) :=
 fc (tx hc) kY hg hm (by decide +kernel) ha (by decide) (by decide) (by rw [hs, hs2]) (by rw [hs2]; rfl)
theorem vB {p : Pos} (hc : X.calm = true) (hm : X.mg "min" = none) (ha : SA X E [a, b] ms) (hg : Gl X "min" := by rfl) (hs : starEach [a, b] X.env = [(false, eval a X.env), (false, eval b X.env)] := by rfl) (hs2 : starEach [b] X.env = [(false, eval b X.env)] := by rfl) :
  SE X E (.Call (.Name "min" p) [a, b] [] pos) (fun ρ => do let ds <- ms ρ; minD ds) :=
 fc (tz hc) kY hg hm (by decide +kernel) ha (by decide) (by decide) (by rw [hs, hs2]) (by rw [hs2]; rfl)
def pz : List D -> M D
 | [.lst k] => do let xs <- getL k; bJ xs
 | [.tup ds] => bJ ds
 | [.ro ds] => bJ ds
 | _ => M.fail
def bU : List D -> M D
 | [.lst k] => do let xs <- getL k; dz xs
 | [.tup ds] => dz ds
 | _ => M.fail
theorem qX : iF X.K E pz (fun xs H Q => ∃ p ys, xs = [.ref p] /\ (fE X.K H p ys \/ hV X.K H p ys) /\ ∀ l, H l = none -> Q (.ref l) (upd H l (.lst ys))) := by
 intro ι S H ds vs Q rep r c
 unfold pz at c
 split at c
 ·next k =>
  obtain ⟨v, ws, rfl, r1, r2⟩ := r.cons_inv
  cases r2.nil_inv
  obtain ⟨p, rfl, h1⟩ := r1.lst_inv
  obtain ⟨es, us, _, hv, rv, c4⟩ := aU c rep h1
  exact ⟨p, us, rfl, .inl (.of hv), (bq c4 rep rv).2⟩
 ·next es =>
  obtain ⟨v, ws, rfl, r1, r2⟩ := r.cons_inv
  cases r2.nil_inv
  obtain ⟨p, us, rfl, h1, rv⟩ := r1.tup_inv
  exact ⟨p, us, rfl, .inr (.of h1), (bq c rep rv).2⟩
 ·next es =>
  obtain ⟨v, ws, rfl, r1, r2⟩ := r.cons_inv
  cases r2.nil_inv
  obtain ⟨p, us, rfl, h1, rv⟩ := r1.ro_inv
  exact ⟨p, us, rfl, .inl h1.sq, (bq c rep rv).2⟩
 ·exact (af c).elim
theorem pA : iF X.K E bU (fun xs H Q => ∃ p ys, xs = [.ref p] /\ ((fE X.K H p ys /\ ∀ l, H l = none -> Q (.ref l) (upd H l (.tup ys))) \/ (hV X.K H p ys /\ Q (.ref p) H))) := by
 intro ι S H ds vs Q rep r c
 unfold bU at c
 split at c
 ·next k =>
  obtain ⟨v, ws, rfl, r1, r2⟩ := r.cons_inv
  cases r2.nil_inv
  obtain ⟨p, rfl, h1⟩ := r1.lst_inv
  obtain ⟨es, us, _, hv, rv, c4⟩ := aU c rep h1
  exact ⟨p, us, rfl, .inl ⟨.of hv, (fI c4 rep rv).2⟩⟩
 ·next es =>
  obtain ⟨v, ws, rfl, r1, r2⟩ := r.cons_inv
  cases r2.nil_inv
  obtain ⟨p, us, rfl, h1, rv⟩ := r1.tup_inv
  exact ⟨p, us, rfl, .inr ⟨.of h1, fJ c rep h1 rv⟩⟩
 ·exact (af c).elim
theorem xr {p : Pos} (hm : X.mg "list" = none) (ha : SE X E e m) (hg : Gl X "list" := by rfl) (hs : starEach [e] X.env = [(false, eval e X.env)] := by rfl) : SE X E (.Call (.Name "list" p) [e] [] pos) (fun ρ => do let ds <- (do let x <- m ρ; let xs <- pure []; pure (x :: xs)); pz ds) :=
 mM ny qX hg hm (by decide +kernel) (ad ha al hs) (by decide) (by decide) hs rfl
theorem gH {p : Pos} (hm : X.mg "tuple" = none) (ha : SE X E e m) (hg : Gl X "tuple" := by rfl) (hs : starEach [e] X.env = [(false, eval e X.env)] := by rfl) : SE X E (.Call (.Name "tuple" p) [e] [] pos) (fun ρ => do let ds <- (do let x <- m ρ; let xs <- pure []; pure (x :: xs)); bU ds) :=
 mM lW pA hg hm (by decide +kernel) (ad ha al hs) (by decide) (by decide) hs rfl
def Ed : List D -> M D
 | [.int i] => if i.natAbs.log2 < 1920 then pure (.str (toString i)) else M.fail
 | _ => M.fail
def yr (H : Hp) : V -> Option String
 | .non => some "NoneType"
 | .bl _ => some "bool"
 | .int _ => some "int"
 | .str _ => some "str"
 | .ref a => match H a with
  | some (.lst _) => some "list"
  | some (.frz _ (.lst _)) => some "list"
  | some (.tup _) => some "tuple"
  | some (.dK _) => some "dict"
  | _ => none
 | _ => none
theorem vC {K : PySem.W.Frag} {H : Hp} {v : V} {T : String} (h : yr H v = some T) : TyOf K H v (.type T) := by
 cases v with
 | non => cases h; exact .non
 | bl b => cases h; exact .bl b
 | int i => cases h; exact .int i
 | str x => cases h; exact .str x
 | ref a =>
  simp only [yr] at h
  split at h
  ·next q => cases h; exact .lst q
  ·next q => cases h; exact .frz q
  ·next q => cases h; exact .tup q
  ·next q => cases h; exact .dK q
  ·cases h
 | _ => cases h
def qx : D -> String
 | .non => "NoneType"
 | .bl _ => "bool"
 | .int _ => "int"
 | .str _ => "str"
 | .tup _ => "tuple"
 | .lst _ => "list"
 | .ro _ => "list"
 | .emp => "dict"
 | .fn _ _ _ _ _ => "NoneType"
 | .exc _ _ => "NoneType"
def xt : D -> Bool
 | .ro _ => false
 | .fn _ _ _ _ _ => false
 | .exc _ _ => false
 | _ => true
theorem vD {K : PySem.W.Frag} {ι : List Addr} {S : ae} {H : Hp} {d : D} {v : V} (rep : Rep K ι H S) (r : RelD K ι H d v) (hd : xt d = true) : yr H v = some (qx d) := by
 cases r with
 | non => rfl
 | bl => rfl
 | int => rfl
 | str => rfl
 | tup h _ => simp [yr, h, qx]
 | lst h =>
  obtain ⟨vs, e⟩ := rep.isL (List.mem_of_getElem? h)
  simp [yr, e, qx]
 | ro h _ => cases hd
 | emp h => simp [yr, h, qx]
 | fn => cases hd
 | exc => cases hd
 | excF => cases hd
def pB (f : String -> Bool) : D -> M D
 | .ro _ => M.fail
 | .fn _ _ _ _ _ => M.fail
 | .exc _ _ => M.fail
 | d => pure (.bl (f (qx d)))
theorem pC {K : PySem.W.Frag} {E : XD} {ι : List Addr} {S : ae} {H : Hp} {f : String -> Bool} {d : D} {Q : D -> List Addr -> ae -> Hp -> Prop} (c : cont K E (pB f d) ι S H Q) : xt d = true /\ cont K E (pure (.bl (f (qx d)))) ι S H Q := by
 cases d with
 | ro ds => exact (af c).elim
 | fn a c' q ds vs => exact (af c).elim
 | exc x ds => exact (af c).elim
 | _ => exact ⟨rfl, c⟩
def dC (t T : String) : Bool := t == T || (t == "bool" && T == "int")
theorem nW (K : PySem.W.Frag) (t : String) (ht : t ∈ ["NoneType", "bool", "int", "str", "tuple", "list", "dict"]) (T : String) (hT : T ∈ ["bool", "int", "str", "tuple", "list"]) : PySem.W.kitOne K (.type t) (.type T) = some (dC t T) := by
 simp only [List.mem_cons, List.not_mem_nil, or_false] at ht hT
 rcases ht with rfl | rfl | rfl | rfl | rfl | rfl | rfl <;> rcases hT with rfl | rfl | rfl | rfl | rfl <;> rfl
theorem sr (d : D) : qx d ∈ ["NoneType", "bool", "int", "str", "tuple", "list", "dict"] := by cases d <;> simp [qx]
theorem vE : bD X (.builtin "isinstance") (fun xs H Q => ∃ x t T, xs = [x, .ty T] /\ yr H x = some t /\ t ∈ ["NoneType", "bool", "int", "str", "tuple", "list", "dict"] /\ T ∈ ["bool", "int", "str", "tuple", "list"] /\ Q (.bl (dC t T)) H) := by
 intro pins s σ H xs us Q I r h
 obtain ⟨x, t, T, rfl, h1, h2, h3, q⟩ := h
 obtain ⟨u, w', rfl, ru, rw'⟩ := vals2 r
 cases (show w' = Value.type T from rw')
 exact tE I ru (vC h1) (nW X.K t h2 T h3) fun tk => ⟨.bl _, H, I.tok tk, rfl, q⟩
theorem cy {p q : Pos} {T : Str} {Ts : String} (hm : X.mg "isinstance" = none) (hmT : X.mg T = none) (he : SE X E e m) (hv : bootBuiltins T = some (.type Ts) := by decide +kernel) (hTs : Ts ∈ ["bool", "int", "str", "tuple", "list"] := by decide) (hg : Gl X "isinstance" := by rfl) (hgT : Gl X T := by rfl)
  (hn : T ≠ "__name__" := by decide) (hd : (T == ("__debug__" : Str)) = false := by decide)
  (hs : starEach [e, .Name T q] X.env = [(false, eval e X.env), (false, eval (.Name T q) X.env)] := by rfl) (hs2 : starEach [.Name T q] X.env = [(false, eval (.Name T q) X.env)] := by rfl) :
  SE X E (.Call (.Name "isinstance" p) [e, .Name T q] [] pos) (fun ρ => do let x <- m ρ; pB (fun t => dC t Ts) x) := by
 refine PE.imp (e8 vE hg hm (by decide +kernel) (b7 he (b7 (ku hgT hmT hv (v := .ty Ts) rfl hn hd) fG hs2) (by rw [hs, hs2])) (by decide) (by decide) (by rw [hs, hs2]) (by rw [hs2]; rfl)) fun σ H Q h => ?_
 obtain ⟨ι, S, ρ, rep, re, c⟩ := h
 refine ⟨ι, S, ρ, rep, re, aj (ag c) fun x ι1 S1 H1 e1 rep1 c1 v r => ?_⟩
 obtain ⟨hd, c1⟩ := pC c1
 exact ⟨v, qx x, Ts, rfl, vD rep1 r hd, sr x, hTs, ah c1 .refl rep1 _ (.bl _)⟩
theorem tP : bD X (.builtin "isinstance") (fun xs H Q => ∃ x t p T U, xs = [x, .ref p] /\ H p = some (.tup [.ty T, .ty U]) /\ yr H x = some t /\ t ∈ ["NoneType", "bool", "int", "str", "tuple", "list", "dict"] /\ T ∈ ["bool", "int", "str", "tuple", "list"] /\ U ∈ ["bool", "int", "str", "tuple", "list"] /\
  Q (.bl (dC t T || dC t U)) H) := by
 intro pins s σ H xs us Q I r h
 obtain ⟨x, t, p, T, U, rfl, hp, h1, h2, h3, h4, q⟩ := h
 obtain ⟨u, w', rfl, ru, rw'⟩ := vals2 r
 cases (show w' = Value.ref p from rw')
 obtain ⟨_, its, rv, ⟨cls, dd, data, sl⟩, ho, hc, n, hd⟩ := (show aW X.prog X.w H s.heap p (.tup [.ty T, .ty U]) from I.hok p _ hp)
 simp only at hc hd
 subst hc hd
 obtain ⟨z1, z2, rfl, y1, y2⟩ := vals2 rv
 cases (show z1 = Value.type T from y1)
 cases (show z2 = Value.type U from y2)
 have e : PySem.W.kitAny X.K (.type t) [.type T, .type U] = some (dC t T || dC t U) := by
  unfold PySem.W.kitAny PySem.W.kitAny PySem.W.kitAny
  rw [nW X.K t h2 T h3, nW X.K t h2 U h4]
  cases dC t T <;> cases dC t U <;> rfl
 have fin : ∀ tk, EP X pins σ Q (.bool (dC t T || dC t U)) { s with toks := tk } := fun tk => ⟨.bl _, H, I.tok tk, rfl, q⟩
 have ty := vC (K := X.K) h1
 generalize hT : Value.type t = tv at ty e
 cases ty with
 | non => cases (show u = Value.none from ru); exact PySem.W.kia_tup PySem.W.kitx_none I.kIn True.intro ho e (fun z => nomatch z) fin
 | bl y => cases (show u = Value.bool y from ru); exact PySem.W.kia_tup PySem.W.kitx_bool I.kIn True.intro ho e (fun z => nomatch z) fin
 | int i => obtain ⟨t, q⟩ := (show ∃ t, u = Value.int i t from ru); cases q; exact PySem.W.kia_tup PySem.W.kitx_int I.kIn True.intro ho e (fun z => nomatch z) fin
 | str y => obtain ⟨t, q⟩ := (show ∃ t, u = Value.str y t from ru); cases q; exact PySem.W.kia_tup PySem.W.kitx_str I.kIn True.intro ho e (fun z => nomatch z) fin
 | flt y => obtain ⟨t, q⟩ := (show ∃ t, u = Value.float y t from ru); cases q; exact PySem.W.kia_tup PySem.W.kitx_float I.kIn True.intro ho e (fun z => nomatch z) fin
 | @lst a xs ea =>
  cases (show u = Value.ref a from ru)
  obtain ⟨_, _, n, _, h1⟩ := (show aW X.prog X.w H s.heap a (.lst xs) from I.hok a _ ea)
  exact PySem.W.kia_tup PySem.W.kitx_list I.kIn ⟨_, h1, rfl⟩ ho e (fun z => nomatch z) fin
 | @frz a ob xs ea =>
  cases (show u = Value.ref a from ru)
  obtain ⟨_, _, _, n, _, h1⟩ := (show aW X.prog X.w H s.heap a (.frz ob (.lst xs)) from I.hok a _ ea)
  exact PySem.W.kia_tup PySem.W.kitx_list I.kIn ⟨_, h1, rfl⟩ ho e (fun z => nomatch z) fin
 | @tup a xs ea =>
  cases (show u = Value.ref a from ru)
  obtain ⟨_, _, _, o, h1, h2, _⟩ := (show aW X.prog X.w H s.heap a (.tup xs) from I.hok a _ ea)
  exact PySem.W.kia_tup PySem.W.kitx_tuple I.kIn ⟨o, h1, h2⟩ ho e (fun z => nomatch z) fin
 | @dK a kvs ea =>
  cases (show u = Value.ref a from ru)
  obtain ⟨_, _, vs, _, o, es, ep, h1, h2, _⟩ := (show aW X.prog X.w H s.heap a (.dK kvs) from I.hok a _ ea)
  exact PySem.W.kia_tup PySem.W.kitx_dict I.kIn ⟨o, h1, h2.1⟩ ho e (fun z => nomatch z) fin
 | @dT a kvs ea =>
  cases (show u = Value.ref a from ru)
  obtain ⟨_, _, xs, _, o, es, ep, h1, h2, _⟩ := (show aW X.prog X.w H s.heap a (.dT kvs) from I.hok a _ ea)
  exact PySem.W.kia_tup PySem.W.kitx_dict I.kIn ⟨o, h1, h2.1⟩ ho e (fun z => nomatch z) fin
 | ins => cases hT
theorem ss {p q q2 q3 : Pos} {x1} {T U : Str} {Ts Us : String} (hm : X.mg "isinstance" = none) (hmT : X.mg T = none) (hmU : X.mg U = none) (he : SE X E e m) (hv : bootBuiltins T = some (.type Ts) := by decide +kernel) (hv' : bootBuiltins U = some (.type Us) := by decide +kernel)
  (hTs : Ts ∈ ["bool", "int", "str", "tuple", "list"] := by decide) (hUs : Us ∈ ["bool", "int", "str", "tuple", "list"] := by decide) (hg : Gl X "isinstance" := by rfl) (hgT : Gl X T := by rfl) (hgU : Gl X U := by rfl)
  (hn : T ≠ "__name__" := by decide) (hd : (T == ("__debug__" : Str)) = false := by decide) (hn' : U ≠ "__name__" := by decide) (hd' : (U == ("__debug__" : Str)) = false := by decide)
  (hs : starEach [e, .Tuple [.Name T q, .Name U q2] x1 q3] X.env = [(false, eval e X.env), (false, eval (.Tuple [.Name T q, .Name U q2] x1 q3) X.env)] := by rfl) (hs2 : starEach [.Tuple [.Name T q, .Name U q2] x1 q3] X.env = [(false, eval (.Tuple [.Name T q, .Name U q2] x1 q3) X.env)] := by rfl) :
  SE X E (.Call (.Name "isinstance" p) [e, .Tuple [.Name T q, .Name U q2] x1 q3] [] pos) (fun ρ => do let x <- m ρ; pB (fun t => dC t Ts || dC t Us) x) := by
 refine PE.imp (e8 tP hg hm (by decide +kernel) (b7 he (b7 (uW (b7 (ku hgT hmT hv (v := .ty Ts) rfl hn hd) (b7 (ku hgU hmU hv' (v := .ty Us) rfl hn' hd') fG rfl) rfl)) fG hs2) (by rw [hs, hs2])) (by decide) (by decide) (by rw [hs, hs2]) (by rw [hs2]; rfl)) fun σ H Q h => ?_
 obtain ⟨ι, S, ρ, rep, re, c⟩ := h
 refine ⟨ι, S, ρ, rep, re, aj (ag c) fun x ι1 S1 H1 e1 rep1 c1 v r => ?_⟩
 obtain ⟨hd, c1⟩ := pC c1
 refine ⟨by show 2 <= sizeLine; decide, fun p hp => ?_⟩
 have rep2 := dL (o := .tup [.ty Ts, .ty Us]) rep1 hp
 have e2 : Ext ι1 H1 ι1 (upd H1 p (.tup [.ty Ts, .ty Us])) := cR hp
 exact ⟨v, qx x, p, Ts, Us, rfl, aK, vD rep2 (r.later rep1 e2) hd, sr x, hTs, hUs, ah c1 e2 rep2 _ (.bl _)⟩
end
end S3
end
section
namespace S3
open PySem PySem.Spec PyProof.Rows L2
section
variable {X : Cx} {E : XD} {a b e c o tg : Expr} {m n l : TM} {pos p2 : Pos} {es : List Expr} {ms : aA -> M (List D)}
theorem range_all {bs : List Bool} : (List.range bs.length).all (fun i => bs.getD i false) = bs.all id := by
 induction bs with
 | nil => rfl
 | cons b bs ih =>
  rw [List.length_cons, List.range_succ_eq_map, List.all_cons, List.all_map]
  simp only [List.getD_cons_zero, List.all_cons, id]
  congr 1
theorem tQ (hc : X.calm = true) : bD X (.builtin "all") (fun xs H Q => ∃ (p : Addr) (bs : List Bool), xs = [.ref p] /\ fE X.K H p (bs.map V.bl) /\ Q (.bl (bs.all id)) H) := by
 intro pins s σ H xs us Q I r h
 obtain ⟨p, bs, rfl, hp, q⟩ := h
 obtain ⟨u, rfl, rx⟩ := vals1 r
 cases (show u = Value.ref p from rx)
 obtain ⟨its, rv, pl, hz⟩ := I.list hp
 have hl := pl.isList
 refine call_all_walk (wpAny_pyIter_list hl ?_)
 have hlt : p < s.heap.objs.size := by obtain ⟨o, ho, _⟩ := hl; exact Heap.lt_size ho
 have hlen := rv.length
 refine ⟨s.heap.objs.size, _, _, _, _, _, fun i => bs.getD i false, rfl, Walks.list (A := X.A.in1) (by show X.A.handled = none; exact I.ok.hd hc) s.heap.objs.size p (Nat.ne_of_lt hlt) its.toArray, ⟨⟨_, Heap.get?_push_size _ rfl, rfl, rfl⟩, hl.push _⟩, ?_, fun h' tk kp => ?_⟩
 ·intro i v s' Q' E' hP hQ
  have hP' : its[i]? = some v := by simpa using hP
  have hi : i < its.length := (List.getElem?_eq_some_iff.mp hP').1
  have hib : i < bs.length := by rw [List.length_map] at hlen; omega
  have : (bs.map V.bl)[i]? = some (.bl bs[i]) := by rw [List.getElem?_map, List.getElem?_eq_getElem hib]; rfl
  obtain ⟨u, hu, ru⟩ := rv.get this
  rw [hP'] at hu
  cases hu
  cases (show v = Value.bool bs[i] from ru)
  have : bs.getD i false = bs[i] := by simp [List.getD, hib]
  dsimp only at hQ
  rw [this] at hQ
  exact wpAny_truthy_bool hQ
 ·have e1 : its.toArray.size = bs.length := by rw [List.size_toArray, <- hlen, List.length_map]
  rw [e1, range_all]
  refine ⟨.bl _, H, I.kept (fun b o e => kp b o ?_ (Heap.get?_push_of_some _ e)), rfl, q⟩
  have : b ≠ s.heap.objs.size := Nat.ne_of_lt (Heap.lt_size e)
  simpa using this
def boolsOf : List D -> Option (List Bool)
 | [] => some []
 | .bl i :: r => (boolsOf r).map (i :: ·)
 | _ => none
theorem kc {K : PySem.W.Frag} {ι : List Addr} {H : Hp} : ∀ {ds : List D} {vs : List V} {ns : List Bool}, RelDs K ι H ds vs -> boolsOf ds = some ns -> vs = ns.map V.bl
 | [], vs, ns, h, e => by cases e; rw [h.nil_inv]; rfl
 | .bl i :: ds, vs, ns, h, e => by
  obtain ⟨v, ws, rfl, r1, r2⟩ := h.cons_inv
  cases q : boolsOf ds with
  | none => simp [boolsOf, q] at e
  | some ks =>
   simp [boolsOf, q] at e
   subst e
   rw [r1.bl_inv, kc r2 q]; rfl
 | .non :: _, _, _, _, e => by cases e
 | .int _ :: _, _, _, _, e => by cases e
 | .str _ :: _, _, _, _, e => by cases e
 | .tup _ :: _, _, _, _, e => by cases e
 | .lst _ :: _, _, _, _, e => by cases e
 | .ro _ :: _, _, _, _, e => by cases e
 | .emp :: _, _, _, _, e => by cases e
def pD : List D -> M D
 | [.lst k] => do
  let xs <- getL k
  match boolsOf xs with
  | some bs => pure (.bl (bs.all id))
  | none => M.fail
 | _ => M.fail
theorem tR : iF X.K E pD (fun xs H Q => ∃ (p : Addr) (bs : List Bool), xs = [.ref p] /\ fE X.K H p (bs.map V.bl) /\ Q (.bl (bs.all id)) H) := by
 intro ι S H ds vs Q rep r c
 unfold pD at c
 split at c
 ·next k =>
  obtain ⟨v, ws, rfl, r1, r2⟩ := r.cons_inv
  cases r2.nil_inv
  obtain ⟨p, rfl, h1⟩ := r1.lst_inv
  obtain ⟨es, us, _, hv, rv, c4⟩ := aU c rep h1
  cases q : boolsOf es with
  | none => rw [q] at c4; exact (af c4).elim
  | some bs =>
   rw [q] at c4
   refine ⟨p, bs, rfl, .of ?_, ah c4 .refl rep _ (.bl _)⟩
   rw [<- kc rv q]; exact hv
 ·exact (af c).elim
theorem qY {p : Pos} (hc : X.calm = true) (hm : X.mg "all" = none) (ha : SE X E e m) (hg : Gl X "all" := by rfl) (hs : starEach [e] X.env = [(false, eval e X.env)] := by rfl) : SE X E (.Call (.Name "all" p) [e] [] pos) (fun ρ => do let ds <- (do let x <- m ρ; let xs <- pure []; pure (x :: xs)); pD ds) :=
 fc (tQ hc) tR hg hm (by decide +kernel) (ad ha al hs) (by decide) (by decide) hs rfl
def bC : D -> List D -> M D
 | .lst k, [d] => do let xs <- getL k; nM k (xs ++ [d])
 | _, _ => M.fail
def fM : D -> List D -> M D
 | .lst k, [.lst j] => do let xs <- getL k; let ys <- getL j; nM k (xs ++ ys)
 | _, _ => M.fail
def kZ : D -> List D -> M D
 | .lst k, [.int i] => do
  let xs <- getL k
  if 0 <= i /\ i < xs.length then
   match xs[i.toNat]? with
   | some y => do let _ <- nM k (xs.eraseIdx i.toNat); pure y
   | none => M.fail
  else M.fail
 | _, _ => M.fail
theorem vF {K : PySem.W.Frag} {H : Hp} {p : Addr} {xs : List V} (h : H p = some (.lst xs)) : B1 K "list" (.ref p) H := .inl ⟨rfl, xs, .of h⟩
def tS : D -> M Unit
 | .lst _ => pure ()
 | _ => M.fail
theorem nX {name : Str} {id : String} {f : D -> List D -> M D} {r : V -> List V -> Hp -> VK -> Prop} {apos : Pos} (slot : Slot "list" name id) (hty : typeOf (.builtin id) = pure (.type "method_descriptor")) (hm : zn X id r)
  (hf : B4 X.K E f r) (ho : SE X E o m) (ha : SA X E (e :: es) ms)
  (hbase : attributeBase o name X.env (eval o X.env) = eval o X.env := by rfl)
  (hfew : ((backTo pos (starEach (e :: es) X.env)).all (fun x => !x.1) && (backToKw pos (keywordEach [] X.env)).all (fun x => x.1.isSome)
   && decide ((e :: es).length + ([] : List Keyword).length + (if ([] : List Keyword).isEmpty then 0 else 1) < 30)) = true := by rfl)
  (hline : (apos.endLine == pos.line) = true := by rfl) (hs : starEach (e :: es) X.env = (false, eval e X.env) :: starEach es X.env := by rfl) (hplain : (backTo pos (starEach es X.env)).any (·.1) = false := by rfl) :
  SE X E (.Call (.Attribute o name apos) (e :: es) [] pos) (fun ρ => do let x <- m ρ; tS x; let ds <- ms ρ; f x ds) := by
 refine PE.imp (Bi PySem.F.plainAttrs_list slot hty hm ho ha hbase hfew hline hs hplain) fun σ H Q h => ?_
 obtain ⟨ι, S, ρ, rep, re, c⟩ := h
 refine ⟨ι, S, ρ, rep, re, aj (ag c) fun x ι1 S1 H1 e1 rep1 c1 v r1 => ?_⟩
 cases x with
 | lst k =>
  obtain ⟨p, rfl, h1⟩ := r1.lst_inv
  obtain ⟨vs, hv⟩ := rep1.isL (List.mem_of_getElem? h1)
  have c2 := ah (ag c1) .refl rep1
  exact ⟨vF hv, ι1, S1, ρ, rep1, re.later rep e1, aj (ag c2) fun ds ι2 S2 H2 e2 rep2 c3 vs r2 => hf ι2 S2 H2 (.lst k) ds (.ref p) vs Q rep2 (r1.later rep1 e2) r2 c3⟩
 | _ => exact (af (ag c1)).elim
theorem qZ : B4 X.K E bC se := by
 intro ι S H d ds v vs Q rep r rs c
 unfold bC at c
 split at c
 ·next k d =>
  obtain ⟨p, rfl, h1⟩ := r.lst_inv
  obtain ⟨w, ws, rfl, r1, r2⟩ := rs.cons_inv
  cases r2.nil_inv
  obtain ⟨es, us, _, hv, rv, c4⟩ := aU c rep h1
  obtain ⟨hl, hq⟩ := ia c4 rep h1 (rv.append (.cons r1 .nil))
  rw [List.length_append] at hl
  exact ⟨p, us, w, rfl, rfl, hv, Nat.lt_of_lt_of_le (by simp at hl; omega) gx, hq _ .non⟩
 ·exact (af c).elim
theorem rc : B4 X.K E fM sf := by
 intro ι S H d ds v vs Q rep r rs c
 unfold fM at c
 split at c
 ·next k j =>
  obtain ⟨p, rfl, h1⟩ := r.lst_inv
  obtain ⟨w, ws, rfl, r1, r2⟩ := rs.cons_inv
  cases r2.nil_inv
  obtain ⟨q, rfl, h2⟩ := r1.lst_inv
  obtain ⟨es, us, _, hv, rv, c4⟩ := aU c rep h1
  obtain ⟨fs, ys, _, hy, ry, c5⟩ := aU c4 rep h2
  obtain ⟨hl, hq⟩ := ia c5 rep h1 (rv.append ry)
  rw [List.length_append] at hl
  exact ⟨p, q, us, ys, rfl, rfl, hv, hy, Nat.le_trans hl gx, hq _ .non⟩
 ·exact (af c).elim
theorem tT : B4 X.K E kZ u8 := by
 intro ι S H d ds v vs Q rep r rs c
 unfold kZ at c
 split at c
 ·next k i =>
  obtain ⟨p, rfl, h1⟩ := r.lst_inv
  obtain ⟨w, ws, rfl, r1, r2⟩ := rs.cons_inv
  cases r2.nil_inv
  rw [r1.int_inv]
  obtain ⟨es, us, hSk, hv, rv, c4⟩ := aU c rep h1
  split at c4
  ·next hb =>
   cases q : es[i.toNat]? with
   | none => rw [q] at c4; exact (af c4).elim
   | some y =>
    rw [q] at c4
    obtain ⟨yv, hy1, hy2⟩ := rv.get' q
    have hlen := rv.length
    have hE : Ext ι H ι (upd H p (.lst (us.eraseIdx i.toNat))) := nH (List.mem_of_getElem? h1)
    have rv' := RelDs.eraseIdx i.toNat rv
    have c5 := ia (ag c4) rep h1 rv'
    have hus : us.length <= lim + 1 := by
     have := c5.1
     rw [List.length_eraseIdx] at this
     split at this <;> omega
    refine ⟨p, us, i, i.toNat, yv, rfl, rfl, hv, by omega, by unfold lim at hus; omega, ?_, hy1, ?_⟩
    ·unfold seqIndex?
     simp only [show ¬ i < 0 by omega, if_false]
     first | (rw [if_pos (by omega)]) | (rw [if_pos (by simp; omega)]) | (simp; omega)
    ·exact ah c5.2 .refl (nI rep h1 rv') _ (hy2.later rep hE)
  ·exact (af c4).elim
 ·exact (af c).elim
theorem dY {apos : Pos} (ho : SE X E o m) (ha : SE X E e n)
  (hbase : attributeBase o "append" X.env (eval o X.env) = eval o X.env := by rfl)
  (hline : (apos.endLine == pos.line) = true := by rfl) (hs : starEach [e] X.env = [(false, eval e X.env)] := by rfl) :
  SE X E (.Call (.Attribute o "append" apos) [e] [] pos) (fun ρ => do let x <- m ρ; tS x; let ds <- (do let y <- n ρ; let ys <- pure []; pure (y :: ys)); bC x ds) :=
 nX PySem.F.slot_list_append PySem.F.type_list_append mG qZ ho (ad ha al hs) hbase (by rw [hs]; rfl) hline hs rfl
theorem mO {apos : Pos} (ho : SE X E o m) (ha : SE X E e n)
  (hbase : attributeBase o "extend" X.env (eval o X.env) = eval o X.env := by rfl)
  (hline : (apos.endLine == pos.line) = true := by rfl) (hs : starEach [e] X.env = [(false, eval e X.env)] := by rfl) :
  SE X E (.Call (.Attribute o "extend" apos) [e] [] pos) (fun ρ => do let x <- m ρ; tS x; let ds <- (do let y <- n ρ; let ys <- pure []; pure (y :: ys)); fM x ds) :=
 nX PySem.F.slot_list_extend PySem.F.type_list_extend tG rc ho (ad ha al hs) hbase (by rw [hs]; rfl) hline hs rfl
theorem vG {apos : Pos} (ho : SE X E o m) (ha : SE X E e n)
  (hbase : attributeBase o "pop" X.env (eval o X.env) = eval o X.env := by rfl)
  (hline : (apos.endLine == pos.line) = true := by rfl) (hs : starEach [e] X.env = [(false, eval e X.env)] := by rfl) :
  SE X E (.Call (.Attribute o "pop" apos) [e] [] pos) (fun ρ => do let x <- m ρ; tS x; let ds <- (do let y <- n ρ; let ys <- pure []; pure (y :: ys)); kZ x ds) :=
 nX PySem.F.slot_list_pop PySem.F.type_list_pop u9 tT ho (ad ha al hs) hbase (by rw [hs]; rfl) hline hs rfl
theorem tU : CS X.K E fe yk := by
 intro ι S H d1 d2 d3 v1 v2 v3 Q rep r1 r2 r3 c
 unfold fe at c
 split at c
 ·next k j =>
  obtain ⟨p, rfl, h1⟩ := r1.lst_inv
  obtain ⟨es, us, _, hv, rv, c4⟩ := aU c rep h1
  cases q : qI es.length j with
  | none => rw [q] at c4; exact (af c4).elim
  | some at' =>
   rw [q] at c4
   obtain ⟨hl, hq⟩ := ia (ag c4) rep h1 (RelDs.set r3 at' rv)
   refine ⟨p, us, j, at', rfl, r2.int_inv, hv, by rw [<- rv.length]; exact q, ?_⟩
   exact ah hq .refl (nI rep h1 (RelDs.set r3 at' rv))
 ·exact (af c).elim
theorem su {i : Expr} (ho : SE X E o m) (hi : SE X E i n) (ha : ∀ v, assign (.Subscript o i pos) X.env v = (do
   let ov <- holding [v] (eval o X.env)
   let iv <- holding [v, ov] (eval i X.env)
   standAt pos
   holding [v, ov, iv] (setItem ov iv v)
   release [v, ov, iv] []) := by intro _; rfl) : SG X E (.Subscript o i pos) (fun d ρ => do let x <- m ρ; let y <- n ρ; fe x y d; pure ρ) := by
 refine PG.imp (yV ho hi set_list ha) fun v σ H Q h => ?_
 obtain ⟨ι, S, ρ, d, rep, re, r, c⟩ := h
 refine ⟨ι, S, ρ, rep, re, aj (ag c) fun x ι1 S1 H1 e1 rep1 c1 v1 r1 => ?_⟩
 refine ⟨ι1, S1, ρ, rep1, re.later rep e1, aj (ag c1) fun y ι2 S2 H2 e2 rep2 c2 v2 r2 => ?_⟩
 have re2 := (re.later rep e1).later rep1 e2
 refine tU (E := E) ι2 S2 H2 x y d v1 v2 v _ rep2 (r1.later rep1 e2) r2 ((r.later rep e1).later rep1 e2) (aj (ag c2) fun _ ι3 S3 H3 e3 rep3 c3 => ?_)
 exact ah c3 .refl rep3 σ (re2.later rep2 e3)
def aY (lo : Int) (n : Nat) : List D := (List.range n).map fun i => .int (lo + (i : Nat))
def eS : List D -> M Iter
 | [.int j] => if -(2 ^ 62) <= j /\ j < 2 ^ 62 then pure ⟨aY 0 j.toNat, .none⟩ else M.fail
 | _ => M.fail
def ii : List D -> M Iter
 | [.int i, .int j] => if -(2 ^ 62) <= i /\ i < 2 ^ 62 /\ -(2 ^ 62) <= j /\ j < 2 ^ 62 then pure ⟨aY i (j - i).toNat, .none⟩ else M.fail
 | _ => M.fail
theorem ji {K : PySem.W.Frag} {lo : Int} {n : Nat} {ι : List Addr} {H : Hp} : iK K ⟨aY lo n, .none⟩ (AV lo n) ι H := by
 intro ι2 H2 S2 e rep ok i
 refine ⟨fun d hd => ?_, fun h => ?_⟩
 ·have hd' : ((List.range n)[i]?).map (fun i : Nat => D.int (lo + (i : Nat))) = some d := by
   have : (aY lo n)[i]? = some d := hd
   unfold aY at this
   rw [List.getElem?_map] at this; exact this
  have hi : i < n := by
   by_cases h : i < n
   ·exact h
   ·rw [List.getElem?_eq_none (by simp; omega)] at hd'; cases hd'
  rw [List.getElem?_range hi] at hd'
  cases hd'
  exact ⟨hi, fun x H3 hy => by obtain ⟨rfl, rfl⟩ := hy; exact ⟨.refl, rep, .int _⟩⟩
 ·have h' : (aY lo n).length <= i := h
  unfold aY at h'
  rw [List.length_map, List.length_range] at h'
  exact h'
theorem da {p : Pos} (hm : X.mg "range" = none) (ha : SE X E a m) (hg : Gl X "range" := by rfl) (hs : starEach [a] X.env = [(false, eval a X.env)] := by rfl) :
  SI X E tg (.Call (.Name "range" p) [a] [] pos) (fun ρ => do let ds <- (do let x <- m ρ; let xs <- pure []; pure (x :: xs)); eS ds) := by
 intro pins s σ H R I h
 refine tq hg hm (ad ha al hs) hs pins s σ H R I ?_
 obtain ⟨ι, S, ρ, rep, re, c⟩ := h
 refine ⟨ι, S, ρ, rep, re, aj (ag c) fun ds ι1 S1 H1 e1 rep1 c1 vs r => ?_⟩
 unfold eS at c1
 split at c1
 ·next j =>
  obtain ⟨w, ws, rfl, r1, r2⟩ := r.cons_inv
  cases r2.nil_inv
  split at c1
  ·next hb => rw [r1.int_inv]; exact ⟨j, rfl, hb.1, hb.2, ah c1 .refl rep1 _ ji⟩
  ·exact (af c1).elim
 ·exact (af c1).elim
theorem jM {p : Pos} (hm : X.mg "range" = none) (ha : SE X E a m) (hb : SE X E b n) (hg : Gl X "range" := by rfl) (hs : starEach [a, b] X.env = [(false, eval a X.env), (false, eval b X.env)] := by rfl) (hs2 : starEach [b] X.env = [(false, eval b X.env)] := by rfl) :
  SI X E tg (.Call (.Name "range" p) [a, b] [] pos) (fun ρ => do let ds <- (do let x <- m ρ; let xs <- (do let y <- n ρ; let ys <- pure []; pure (y :: ys)); pure (x :: xs)); ii ds) := by
 intro pins s σ H R I h
 refine tu hg hm (ad ha (ad hb al hs2) (by rw [hs, hs2])) hs hs2 pins s σ H R I ?_
 obtain ⟨ι, S, ρ, rep, re, c⟩ := h
 refine ⟨ι, S, ρ, rep, re, aj (ag c) fun ds ι1 S1 H1 e1 rep1 c1 vs r => ?_⟩
 unfold ii at c1
 split at c1
 ·next i j =>
  obtain ⟨w, ws, rfl, r1, r2⟩ := r.cons_inv
  obtain ⟨w', ws', rfl, r3, r4⟩ := r2.cons_inv
  cases r4.nil_inv
  split at c1
  ·next hb => rw [r1.int_inv, r3.int_inv]; exact ⟨i, j, rfl, hb, ah c1 .refl rep1 _ ji⟩
  ·exact (af c1).elim
 ·exact (af c1).elim
def l6 : D -> M Iter
 | .lst k => do let xs <- getL k; pure ⟨xs, .some k⟩
 | .tup ds => pure ⟨ds, .none⟩
 | .ro ds => pure ⟨ds, .none⟩
 | _ => M.fail
theorem pE {K : PySem.W.Frag} {k : Nat} {a : Addr} {xs : List D} {ι : List Addr} {H : Hp} (hk : ι[k]? = some a) : iK K ⟨xs, .some k⟩ (BY K a) ι H := by
 intro ι2 H2 S2 e rep ok i
 obtain ⟨vs, hv, rv⟩ := rep.get k a xs (e.at hk) ok
 refine ⟨fun d hd => ?_, fun h => ⟨vs, .of hv, by rw [<- rv.length]; exact h⟩⟩
 obtain ⟨v, h1, h2⟩ := rv.get' hd
 refine ⟨⟨vs, v, .of hv, h1⟩, fun x H3 hy => ?_⟩
 obtain ⟨rfl, hy⟩ := hy
 have := hy vs (.of hv)
 rw [h1] at this; cases this
 exact ⟨.refl, rep, h2⟩
theorem rf {K : PySem.W.Frag} {a : Addr} {ds : List D} {vs : List V} {ι : List Addr} {S : ae} {H : Hp} (rep : Rep K ι H S) (ha : H a = some (.tup vs)) (r : RelDs K ι H ds vs) : iK K ⟨ds, .none⟩ (Cv K a) ι H := by
 intro ι2 H2 S2 e rep2 ok i
 have ha2 := (e.oth a _ ha (rep.notIn ha (by intro _ z; cases z)) (by intro _ z; cases z)).1
 have r2 := r.later rep e
 refine ⟨fun d hd => ?_, fun h => ⟨vs, .of ha2, by rw [<- r.length]; exact h⟩⟩
 obtain ⟨v, h1, h2⟩ := r2.get' hd
 refine ⟨⟨vs, v, .of ha2, h1⟩, fun x H3 hy => ?_⟩
 obtain ⟨rfl, hy⟩ := hy
 have := hy vs (.of ha2)
 rw [h1] at this; cases this
 exact ⟨.refl, rep2, h2⟩
theorem tV {K : PySem.W.Frag} {a : Addr} {ds : List D} {vs : List V} {ι : List Addr} {S : ae} {H : Hp} (rep : Rep K ι H S) (ha : wL K H a vs) (r : RelDs K ι H ds vs) : iK K ⟨ds, .none⟩ (BY K a) ι H := by
 intro ι2 H2 S2 e rep2 ok i
 have ha2 : wL K H2 a vs := ha.imp (fun ⟨o, h⟩ => ⟨o, (e.oth a _ h (rep.notIn h (by intro _ z; cases z)) (by intro _ z; cases z)).1⟩) fun z => z
 have r2 := r.later rep e
 have sq : fE K H2 a vs := ha2.sq
 refine ⟨fun d hd => ?_, fun h => ⟨vs, sq, by rw [<- r.length]; exact h⟩⟩
 obtain ⟨v, h1, h2⟩ := r2.get' hd
 refine ⟨⟨vs, v, sq, h1⟩, fun x H3 hy => ?_⟩
 obtain ⟨rfl, hy⟩ := hy
 have := hy vs sq
 rw [h1] at this; cases this
 exact ⟨.refl, rep2, h2⟩
theorem fN (he : SE X E e m) : SI X E tg e (fun ρ => do let x <- m ρ; l6 x) := by
 intro pins s σ H R I h
 obtain ⟨ι, S, ρ, rep, re, c⟩ := h
 obtain ⟨r, S', er, k⟩ := id (ag c)
 cases r with
 | ex x =>
  refine ky he pins s σ H R I ⟨ι, S, ρ, rep, re, .ex x, S', er, k⟩
 | ok d =>
  cases d with
  | tup ds =>
   refine yZ he pins s σ H R I ⟨ι, S, ρ, rep, re, .ok (.tup ds), S', er, fun ι1 H1 e1 rep1 v r1 => ?_⟩
   obtain ⟨p, vs, rfl, h1, h2⟩ := r1.tup_inv
   exact ⟨p, rfl, ⟨vs, .of h1⟩, ah (k ι1 H1 e1 rep1) .refl rep1 _ (rf rep1 h1 h2)⟩
  | lst j =>
   refine ky he pins s σ H R I ⟨ι, S, ρ, rep, re, .ok (.lst j), S', er, fun ι1 H1 e1 rep1 v r1 => ?_⟩
   obtain ⟨p, rfl, h1⟩ := r1.lst_inv
   obtain ⟨es, us, _, hv, rv, c4⟩ := aU (k ι1 H1 e1 rep1) rep1 h1
   exact ⟨p, rfl, ⟨us, .of hv⟩, ah c4 .refl rep1 _ (pE h1)⟩
  | ro ds =>
   refine ky he pins s σ H R I ⟨ι, S, ρ, rep, re, .ok (.ro ds), S', er, fun ι1 H1 e1 rep1 v r1 => ?_⟩
   obtain ⟨p, vs, rfl, h1, h2⟩ := r1.ro_inv
   exact ⟨p, rfl, ⟨vs, h1.sq⟩, ah (k ι1 H1 e1 rep1) .refl rep1 _ (tV rep1 h1 h2)⟩
  | _ => exact ky he pins s σ H R I ⟨ι, S, ρ, rep, re, .ok _, S', er, fun ι1 H1 e1 rep1 v r1 => (af (k ι1 H1 e1 rep1)).elim⟩
theorem pF : bD X (.type "range") (fun xs H Q => ∃ j, xs = [.int j] /\ ∀ p, H p = none -> Q (.ref p) (upd H p (.rng 0 j))) := by
 intro pins s σ H xs us Q I r h
 obtain ⟨j, rfl, q⟩ := h
 obtain ⟨u, rfl, rx⟩ := vals1 r
 obtain ⟨t, rfl⟩ := (show ∃ t, u = Value.int j t from rx)
 refine call_range_1 ⟨.ref s.heap.objs.size, _, I.laid (o := .rng 0 j) (fun b o e => Heap.get?_push_of_some _ e) (Nat.le_refl _) ⟨_, _, _, Heap.get?_push_size _ rfl⟩, rfl, q _ (I.hok.fresh (Nat.le_refl _))⟩
theorem l7 (hc : X.calm = true) : bD X (.type "list") (fun xs H Q => ∃ (p : Addr) (j : Int), xs = [.ref p] /\ H p = some (.rng 0 j) /\ -(2 ^ 62) <= j /\ j <= lim /\ ∀ l, H l = none -> Q (.ref l) (upd H l (.lst ((List.range j.toNat).map fun i : Nat => V.int (i : Nat))))) := by
 intro pins s σ H xs us Q I r h
 obtain ⟨p, j, rfl, hp, h1, h2, q⟩ := h
 obtain ⟨u, rfl, rx⟩ := vals1 r
 cases (show u = Value.ref p from rx)
 obtain ⟨t, u, v, hr⟩ := (show aW X.prog X.w H s.heap p (.rng 0 j) from I.hok p _ hp)
 have hsz : Builtin.Range.rangeSize 0 j 1 = (j.toNat : Int) := by rw [rangeSize_one]; split <;> omega
 have hlim : j.toNat <= lim := by omega
 refine call_list_range (I.ok.hd hc) hr (small_one (by omega) (by omega) h1 (by unfold lim at h2; omega)) hsz (by unfold lim at hlim; omega) fun h' tk acc c' kp ho hit => ?_
 refine ⟨.ref s.heap.objs.size, _, I.laid (t' := tk) kp (Nat.le_refl _) (o := .lst ((List.range j.toNat).map fun i : Nat => V.int (i : Nat))) ?_, rfl, q _ (I.hok.fresh (Nat.le_refl _))⟩
 refine ⟨by rw [List.length_map, List.length_range]; exact Nat.le_trans hlim gx, acc.toList, c', ?_, by simpa using ho⟩
 obtain ⟨hs, hi⟩ := hit
 have gen : ∀ (l : List Value) (f : Nat -> Int) , (∀ i v, l[i]? = some v -> ∃ t, v = Value.int (f i) t) -> aI ((List.range l.length).map fun i : Nat => V.int (f i)) l := by
  intro l
  induction l with
  | nil => intro f _; exact .nil
  | cons x l ih =>
   intro f hf
   rw [List.length_cons, List.range_succ_eq_map, List.map_cons, List.map_map]
   obtain ⟨t, ht⟩ := hf 0 x rfl
   refine .cons ⟨t, ht⟩ ?_
   exact ih (fun i => f (i + 1)) fun i v hv => hf (i + 1) v (by simpa using hv)
 have := gen acc.toList (fun i => (i : Int)) fun i v hv => by
  obtain ⟨t, ht⟩ := hi i v (by simpa using hv)
  exact ⟨t, by rw [ht]; congr 1; omega⟩
 rw [Array.length_toList, hs] at this
 exact this
def fO : List D -> M D
 | [.int j] => if -(2 ^ 62) <= j /\ j <= lim then bJ (aY 0 j.toNat) else M.fail
 | _ => M.fail
theorem k8 {K : PySem.W.Frag} {ι : List Addr} {H : Hp} : ∀ (l : List Nat), RelDs K ι H (l.map fun i : Nat => D.int (0 + (i : Nat))) (l.map fun i : Nat => V.int (i : Nat))
 | [] => .nil
 | x :: l => .cons (by show RelD K ι H (D.int (0 + (x : Int))) (V.int (x : Int)); rw [Int.zero_add]; exact .int _) (k8 l)
theorem nY {p q : Pos} {pos2 : Pos} (hc : X.calm = true) (hm : X.mg "list" = none) (hm2 : X.mg "range" = none) (ha : SE X E a m) (hg : Gl X "list" := by rfl) (hg2 : Gl X "range" := by rfl) (hs : starEach [a] X.env = [(false, eval a X.env)] := by rfl)
  (hs2 : starEach [.Call (.Name "range" q) [a] [] pos2] X.env = [(false, eval (.Call (.Name "range" q) [a] [] pos2) X.env)] := by rfl) :
  SE X E (.Call (.Name "list" p) [.Call (.Name "range" q) [a] [] pos2] [] pos) (fun ρ => do let ds <- (do let x <- m ρ; let xs <- pure []; pure (x :: xs)); fO ds) := by
 refine PE.imp (e9 (l7 hc) hg hm (by decide +kernel) (b7 (e9 pF hg2 hm2 (by decide +kernel) (ad ha al hs) (by decide) (by decide) hs rfl) fG hs2) (by decide) (by decide) hs2 rfl) fun σ H Q h => ?_
 obtain ⟨ι, S, ρ, rep, re, c⟩ := h
 refine ⟨ι, S, ρ, rep, re, aj (ag c) fun ds ι1 S1 H1 e1 rep1 c1 vs r => ?_⟩
 unfold fO at c1
 split at c1
 ·next j =>
  obtain ⟨w, ws, rfl, r1, r2⟩ := r.cons_inv
  cases r2.nil_inv
  split at c1
  ·next hb =>
   rw [r1.int_inv]
   refine ⟨j, rfl, fun p hp => ?_⟩
   have rep2 := dL (o := .rng 0 j) rep1 hp
   refine ⟨p, j, rfl, aK, hb.1, hb.2, ?_⟩
   have c2 := d4 c1 (cR (o := .rng 0 j) hp)
   exact (bq c2 rep2 (k8 (List.range j.toNat))).2
  ·exact (af c1).elim
 ·exact (af c1).elim
end
end S3
end
section
namespace S3
open PySem PySem.Spec PyProof.Rows L2
section
variable {X : Cx} {E : XD} {a b c d e : Expr} {m n l k : TM} {pos p2 : Pos}
theorem zG : SE X E (.Dict [] [] pos) (fun _ => pure .emp) := by
 intro pins s σ H Q I h
 obtain ⟨ι, S, ρ, rep, re, cc⟩ := h
 have big : sysModules < s.heap.objs.size := Nat.lt_trans (by decide) (I.mod.glob.keeps I.bk).lt
 have hf : H s.heap.objs.size = none := I.hok.fresh (Nat.le_refl _)
 have ob : aW X.prog X.w (upd H s.heap.objs.size (.dK [])) (s.heap.push { cls := .type "dict", data := .dict #[] }) s.heap.objs.size (.dK []) := ⟨Nat.zero_le _, beq_eq_false_iff_ne.mpr (Ne.symm (Nat.ne_of_lt big)), [], .nil, Heap.DictOf.new s.heap⟩
 refine wpAny_Dict_empty ⟨.ref s.heap.objs.size, upd H s.heap.objs.size (.dK []), I.laid (t' := s.toks) (fun _ _ q => Heap.get?_push_of_some _ q) (Nat.le_refl _) ob, rfl, ?_⟩
 exact ah cc (cR hf) (dL rep hf) _ (.emp aK)
def B7 (r1 r2 r3 : R2) (ta tb tc td : TE) : TT := fun σ H Q => ta σ H fun x H1 => tb σ H1 fun y H2 => r1 x y H2 fun z H3 => ∃ i, z = .bl i /\
 (if i = true then tc σ H3 fun w H4 => r2 y w H4 fun z2 H5 => ∃ j, z2 = .bl j /\ (if j = true then td σ H5 fun v H6 => r3 w v H6 fun z3 H7 => ∃ g, z3 = .bl g /\ Q g H7 else Q false H5) else Q false H3)
end
end S3
end
section
namespace S3
open PySem PySem.Spec PyProof.Rows L2
section
variable {X : Cx} {E : XD} {e : Expr} {m : TM} {te : TE} {pos p1 p2 p3 : Pos} {j : Nat}
def CZ : D -> M D
 | .tup xs => dz xs.reverse
 | _ => M.fail
end
end S3
end
section
namespace S3
open PySem PySem.Spec PyProof.Rows L2
def insI (x : Int) : List Int -> List Int
 | [] => [x]
 | y :: r => if x <= y then x :: y :: r else y :: insI x r
def sortI : List Int -> List Int
 | [] => []
 | x :: r => insI x (sortI r)
theorem insI_perm (x : Int) : ∀ l, (insI x l).Perm (x :: l)
 | [] => .refl _
 | y :: r => by
  unfold insI
  split
  ·exact .refl _
  ·exact (List.Perm.cons y (insI_perm x r)).trans (List.Perm.swap x y r)
theorem sortI_perm : ∀ l, (sortI l).Perm l
 | [] => .refl _
 | x :: r => (insI_perm x _).trans (List.Perm.cons x (sortI_perm r))
theorem kd (x : Int) : ∀ {l : List Int}, l.Pairwise (· <= ·) -> (insI x l).Pairwise (· <= ·)
 | [], _ => by simp [insI]
 | y :: r, h => by
  obtain ⟨h1, h2⟩ := List.pairwise_cons.mp h
  unfold insI
  split
  ·next c =>
   refine List.pairwise_cons.mpr ⟨fun z hz => ?_, h⟩
   rcases List.mem_cons.mp hz with rfl | hz
   ·exact c
   ·exact Int.le_trans c (h1 z hz)
  ·next c =>
   refine List.pairwise_cons.mpr ⟨fun z hz => ?_, kd x h2⟩
   rcases List.mem_cons.mp ((insI_perm x r).mem_iff.mp hz) with rfl | hz
   ·omega
   ·exact h1 z hz
theorem jj : ∀ l, (sortI l).Pairwise (· <= ·)
 | [] => .nil
 | x :: r => kd x (jj r)
section
variable {X : Cx} {E : XD} {e : Expr} {m : TM} {pos : Pos}
theorem nZ : bD X (.builtin "sorted") (fun xs H Q => ∃ (p : Addr) (ns : List Int), xs = [.ref p] /\ fE X.K H p (ns.map V.int) /\ ns.length < 64 /\ ∀ l, H l = none -> Q (.ref l) (upd H l (.lst ((sortI ns).map V.int)))) := by
 intro pins s σ H xs us Q I r h
 obtain ⟨p, ns, rfl, hp, h64, q⟩ := h
 obtain ⟨u, rfl, rx⟩ := vals1 r
 cases (show u = Value.ref p from rx)
 obtain ⟨its, rv, pl, hz⟩ := I.list hp
 have hI : IntsAre its ns := intsAre_of rv
 have hlen := rv.length
 rw [List.length_map] at hlen
 refine sorted_ints pl.isList hI (by omega) fun out ns' a1 a2 a3 => ?_
 have en : ns' = sortI ns := PySem.W.lks_uniq (a2.trans (sortI_perm ns).symm) a3 (jj ns)
 subst en
 obtain ⟨c, hc⟩ := sortedAll_at s.heap its out
 have hf : H (s.heap.objs.size + 1) = none := I.hok.fresh (Nat.le_succ _)
 refine ⟨.ref (s.heap.objs.size + 1), _, I.laid (t' := s.toks) (o := .lst ((sortI ns).map V.int)) (fun b o e => sortedAll_old e) (Nat.le_succ _) ⟨?_, out.toList, c, hZ a1, hc⟩, rfl, q _ hf⟩
 rw [List.length_map, (sortI_perm ns).length_eq, sizeLine_eq]; omega
def B8 : List D -> M D
 | [.lst k] => do
  let xs <- getL k
  match intsOf xs with
  | some ns => if ns.length < 64 then bJ ((sortI ns).map D.int) else M.fail
  | none => M.fail
 | _ => M.fail
theorem gI {K : PySem.W.Frag} {ι : List Addr} {H : Hp} : ∀ ns : List Int, RelDs K ι H (ns.map D.int) (ns.map V.int)
 | [] => .nil
 | n :: r => .cons (.int n) (gI r)
end
end S3
end
section
namespace S3
open PySem PySem.Spec PySem.W PyProof.Rows L2
theorem k9 {h : Heap} : ∀ {vs : List Value}, (∀ v ∈ vs, ∃ a o us n i t, v = .ref a /\ h.get? a = some o /\ o.cls = .type "tuple" /\ o.data = .seq us n /\ us[0]? = some (Value.int i t)) ->
  ∃ fs, KatTups h vs fs /\ fs.length = vs.length /\ ∀ f ∈ fs, ∃ i t, f = Value.int i t
 | [], _ => ⟨[], .nil, rfl, fun _ z => nomatch z⟩
 | v :: vs, hv => by
  obtain ⟨a, o, us, n, i, t, rfl, e1, e2, e3, e4⟩ := hv v List.mem_cons_self
  obtain ⟨fs, k1, k2, k3⟩ := k9 fun v' h' => hv v' (List.mem_cons_of_mem _ h')
  refine ⟨_ :: fs, .cons e1 e2 e3 e4 k1, by simp [k2], fun f hf => ?_⟩
  rcases List.mem_cons.mp hf with rfl | hf
  ·exact ⟨i, t, rfl⟩
  ·exact k3 f hf
theorem kA : ∀ ns : List Int, HT.lexLt ns ns = false
 | [] => rfl
 | n :: r => by rw [HT.lexLt_cons, if_pos rfl]; exact kA r
theorem rg : ∀ {a b c : List Int}, HT.lexLt a b = true -> HT.lexLt b c = true -> HT.lexLt a c = true
 | [], [], c, h, _ => by cases h
 | [], _ :: _, [], _, h => by cases h
 | [], _ :: _, _ :: _, _, _ => rfl
 | _ :: _, [], c, h, _ => by cases h
 | _ :: _, _ :: _, [], _, h => by cases h
 | x :: a, y :: b, z :: c, h1, h2 => by
  rw [HT.lexLt_cons] at h1 h2 ⊢
  split at h1
  ·next e =>
   subst e
   split at h2
   ·next e2 => subst e2; rw [if_pos rfl]; exact rg h1 h2
   ·next e2 => rw [if_neg e2]; exact h2
  ·next e =>
   have h1' : x < y := of_decide_eq_true h1
   split at h2
   ·next e2 => subst e2; rw [if_neg e]; exact h1
   ·next e2 =>
    have h2' : y < z := of_decide_eq_true h2
    rw [if_neg (by omega)]; exact decide_eq_true (by omega)
theorem n0 : ∀ {a b c : List Int}, HT.lexLt a c = true -> HT.lexLt a b = true \/ HT.lexLt b c = true
 | a, b, [], h => by cases a <;> cases h
 | [], [], _ :: _, _ => .inr rfl
 | [], _ :: _, _ :: _, _ => .inl rfl
 | _ :: _, [], _ :: _, _ => .inr rfl
 | x :: a, y :: b, z :: c, h => by
  rw [HT.lexLt_cons] at h
  rw [HT.lexLt_cons, HT.lexLt_cons]
  split at h
  ·next e =>
   subst e
   by_cases e2 : x = y
   ·subst e2
    rw [if_pos rfl, if_pos rfl]; exact n0 h
   ·rw [if_neg e2, if_neg (Ne.symm e2)]
    rcases Int.lt_or_gt_of_ne e2 with l | l
    ·exact .inl (decide_eq_true l)
    ·exact .inr (decide_eq_true l)
  ·next e =>
   have h' : x < z := of_decide_eq_true h
   by_cases e2 : x = y
   ·subst e2
    rw [if_neg e]; exact .inr (decide_eq_true h')
   ·rw [if_neg e2]
    by_cases l : x < y
    ·exact .inl (decide_eq_true l)
    ·refine .inr ?_
     rw [if_neg (by omega)]; exact decide_eq_true (by omega)
end S3
end
section
namespace S3
open PySem PySem.Spec PySem.W PyProof.Rows L2
theorem vH {P : Program} {w : World} {H : Hp} {h : Heap} {a : Addr} {o : HO} (x : aW P w H h a o) : ∃ ob, h.get? a = some ob := by
 cases o with
 | lst xs => obtain ⟨_, _, _, _, e⟩ := x; exact ⟨_, e⟩
 | tup xs => obtain ⟨_, _, _, ob, e, _⟩ := x; exact ⟨_, e⟩
 | dK kvs => obtain ⟨_, _, _, _, o, _, _, e, _⟩ := x; exact ⟨_, e⟩
 | dT kvs => obtain ⟨_, _, _, _, o, _, _, e, _⟩ := x; exact ⟨_, e⟩
 | set S n => obtain ⟨o, _, _, _, e, _⟩ := x; exact ⟨_, e⟩
 | ins C dx fs => obtain ⟨_, _, _, e, _⟩ := x; exact ⟨_, e⟩
 | own y => exact x
 | xd fs => obtain ⟨_, ⟨_, _, _, e, _⟩, _⟩ := x; exact ⟨_, e⟩
 | rng lo hi => obtain ⟨_, _, _, e⟩ := x; exact ⟨_, e⟩
 | frz ob u => exact ⟨_, x.1⟩
 | tbl ps => exact ⟨_, show h.get? a = some _ from x⟩
 | met f y => exact ⟨_, show h.get? a = some _ from x⟩
 | ext φ => exact x.2.1
section
variable {X : Cx} {pins : List (Addr × Obj)} {σ : L2.St} {H : Hp} {s : Shared}
theorem rh {h2 : Heap} {d : Addr} {m : Str -> Option Value} {ys : List V} {us : List Value} {n : Nat} (I : L2.Inv X pins σ H s) (F0 : Fr X.base X.env.locals s.heap m) (F : Fr X.base X.env.locals h2 m)
  (kp : ∀ b o, b ≠ X.env.locals -> s.heap.get? b = some o -> h2.get? b = some o) (nd : s.heap.get? d = none) (hd : h2.get? d = some { cls := .type "list", data := .seq us.toArray n }) (rv : aI ys us) (hz : ys.length <= sizeLine) :
  L2.Inv X pins σ (upd H d (.lst ys)) { s with heap := h2 } := by
 have hH : H d = none := by
  cases e : H d with
  | none => rfl
  | some o => obtain ⟨ob, q⟩ := vH (I.hok d o e); rw [nd] at q; cases q
 have neL : ∀ b o, H b = some o -> b ≠ X.env.locals := fun b o e z => by rw [z, I.free] at e; cases e
 have old : ∀ b o, s.heap.get? b = some o -> b ≠ d := fun b o e z => by rw [z, nd] at e; cases e
 refine I.step (g' := s.gens) (d' := s.drawn) (t' := s.toks) (ch := []) (fun _ z => nomatch z) (fun b o hb _ _ e _ => kp b o hb e) (fun b o hb _ _ e _ => ⟨o.slots, kp b o hb e⟩)
  (fun b o _ e n => by rw [aw (old b o e)]; exact n) (fun b o _ e => ?_) (fun b xs e => by rw [aw (ay e hH)]; exact e) (fun b ob u e => by rw [aw (ay e hH)]; exact e)
  (fun b ps e => ⟨#[], by rw [aw (ay e hH), e]; simp⟩) (fun m' hm => ?_) (fun b u e => ?_) I.bare
 ·by_cases hb : b = X.env.locals
  ·obtain ⟨o', _, _, e', _⟩ := F.ns
   exact ⟨o', by rw [hb]; exact e'⟩
  ·exact ⟨o, kp b o hb e⟩
 ·have : m' = m := by
   obtain ⟨o1, es, ep, e1, d1, _, g1⟩ := hm
   obtain ⟨o2, es2, ep2, e2, d2, _, g2⟩ := F0.ns
   rw [e1] at e2; cases e2
   rw [d1] at d2; cases d2
   funext x
   rw [<- g1 x, <- g2 x]
  rw [this]; exact F.ns
 ·by_cases hb : b = d
  ·subst hb
   rw [aK] at e; cases e
   exact ⟨hz, us, n, rv, hd⟩
  ·rw [aw hb] at e
   refine (I.hok b u e).stay (fun c v hc z => kp c v ?_ z) (fun c z => by rw [aw (ay z hH)]; exact z) fun c xs z => by rw [aw (ay z hH)]; exact z
   rcases hc with rfl | hc
   ·exact neL _ _ e
   ·exact neL _ _ hc
end
end S3
end
section
namespace S3
open PySem PySem.Spec PySem.W PyProof.Rows L2
section
variable {X : Cx}
end
end S3
end
section
namespace S4
open PySem PySem.SetTable
def tb (m : Nat) : SetTable := ⟨m, #[], #[], 0, true, 0, true⟩
def bf (m : Nat) (h : Int) : Nat -> Probe
 | 0 => (tb m).probeStart h
 | k + 1 => (tb m).advance (bf m h k)
theorem zH (t : SetTable) (h : Int) (k : Nat) : t.advance (bf t.mask h k) = bf t.mask h (k + 1) := rfl
theorem tW (t : SetTable) (p : Probe) (hp : p.dummy = none) : (t.advance p).dummy = none := by
 unfold advance
 split
 ·exact hp
 ·exact hp
theorem la (m : Nat) (h : Int) : ∀ k, (bf m h k).dummy = none
 | 0 => rfl
 | k + 1 => tW _ _ (la m h k)
def dn (m : Nat) (h : Int) : Nat -> Nat × Nat
 | 0 => (bits h % (m + 1), bits h)
 | n + 1 => leap m (dn m h n).1 (dn m h n).2
def run (m i : Nat) : Nat := runEnd m i - i
theorem zI (m i : Nat) : run m i <= 9 := by
 unfold run runEnd
 split <;> omega
def lQ (m : Nat) (h : Int) : Nat -> Nat
 | 0 => 0
 | n + 1 => lQ m h n + run m (dn m h n).1 + 1
theorem vI (m : Nat) (h : Int) : ∀ n, lQ m h n <= 10 * n
 | 0 => Nat.le_refl _
 | n + 1 => by
  have := vI m h n
  have := zI m (dn m h n).1
  show lQ m h n + run m (dn m h n).1 + 1 <= 10 * (n + 1)
  omega
theorem n4 (m : Nat) (h : Int) (n : Nat) (e : bf m h (lQ m h n) = ⟨(dn m h n).1, run m (dn m h n).1, (dn m h n).1, (dn m h n).2, none⟩) :
  ∀ r, r <= run m (dn m h n).1 -> bf m h (lQ m h n + r) = ⟨(dn m h n).1 + r, run m (dn m h n).1 - r, (dn m h n).1, (dn m h n).2, none⟩
 | 0, _ => e
 | r + 1, hr => by
  have ih := n4 m h n e r (by omega)
  show (tb m).advance (bf m h (lQ m h n + r)) = _
  rw [ih]
  unfold advance
  simp only
  rw [if_pos (by omega)]
  simp only [Probe.mk.injEq, and_true, true_and]
  omega
theorem lb (m : Nat) (h : Int) : ∀ n, bf m h (lQ m h n) = ⟨(dn m h n).1, run m (dn m h n).1, (dn m h n).1, (dn m h n).2, none⟩
 | 0 => rfl
 | n + 1 => by
  have e := n4 m h n (lb m h n) _ (Nat.le_refl _)
  show (tb m).advance (bf m h (lQ m h n + run m (dn m h n).1)) = _
  rw [e]
  unfold advance
  simp only
  rw [if_neg (by omega)]
  rfl
theorem n5 (m : Nat) (h : Int) (n r : Nat) (hr : r <= run m (dn m h n).1) : (bf m h (lQ m h n + r)).j = (dn m h n).1 + r := by
 rw [n4 m h n (lb m h n) r hr]
theorem sv (m : Nat) (h : Int) : ∀ n, (dn m h n).2 = bits h / 32 ^ n
 | 0 => by simp [dn]
 | n + 1 => by
  show (dn m h n).2 / 32 = _
  rw [sv m h n, Nat.div_div_eq_div_mul, Nat.pow_succ]
theorem xu (h : Int) : bits h < 2 ^ 64 := by
 unfold bits
 have h1 : 0 <= h % (2 ^ 64 : Int) := Int.emod_nonneg _ (by decide)
 have h2 : h % (2 ^ 64 : Int) < 2 ^ 64 := Int.emod_lt_of_pos _ (by decide)
 omega
theorem C0 (m : Nat) (h : Int) (n : Nat) : (dn m h (13 + n)).2 = 0 := by
 rw [sv]
 refine Nat.div_eq_of_lt (Nat.lt_of_lt_of_le (xu h) ?_)
 have : (2 : Nat) ^ 64 <= 32 ^ 13 := by decide
 exact Nat.le_trans this (Nat.pow_le_pow_right (by decide) (by omega))
def Bs (m : Nat) : Nat -> Nat -> Nat
 | 0, a => a
 | n + 1, a => (Bs m n a * 5 + 1) % (m + 1)
theorem rj (m : Nat) (h : Int) : ∀ n, (dn m h (13 + n)).1 = Bs m n (dn m h 13).1
 | 0 => rfl
 | n + 1 => by
  show ((dn m h (13 + n)).1 * 5 + 1 + (dn m h (13 + n)).2 / 32) % (m + 1) = (Bs m n (dn m h 13).1 * 5 + 1) % (m + 1)
  rw [C0, rj m h n]
theorem vJ (m : Nat) (h : Int) : ∀ n, (dn m h n).1 < m + 1
 | 0 => Nat.mod_lt _ (by omega)
 | n + 1 => Nat.mod_lt _ (by omega)
theorem C1 : ∀ a, a < 8 -> ∀ j, j < 8 -> ∃ n, n < 8 /\ Bs 7 n a = j := by decide +kernel
theorem Bt : ∀ a, a < 32 -> ∀ j, j < 32 -> ∃ n, n < 32 /\ Bs 31 n a = j := by decide +kernel
def yt (m : Nat) : Prop := m = 7 \/ m = 31
theorem vK {m : Nat} (hm : yt m) (h : Int) (j : Nat) (hj : j <= m) : ∃ n, n < m + 14 /\ (dn m h n).1 = j := by
 rcases hm with rfl | rfl
 ·obtain ⟨n, h1, h2⟩ := C1 _ (vJ 7 h 13) j (by omega)
  exact ⟨13 + n, by omega, by rw [rj]; exact h2⟩
 ·obtain ⟨n, h1, h2⟩ := Bt _ (vJ 31 h 13) j (by omega)
  exact ⟨13 + n, by omega, by rw [rj]; exact h2⟩
theorem cover {m : Nat} (hm : yt m) (h : Int) (j : Nat) (hj : j <= m) : ∃ K, K < 10 * turns m /\ (bf m h K).j = j := by
 obtain ⟨n, h1, h2⟩ := vK hm h j hj
 refine ⟨lQ m h n, ?_, by rw [lb]; exact h2⟩
 have := vI m h n
 unfold turns
 omega
theorem mP {m i : Nat} (h : i < m + 1) : i + run m i <= m := by
 unfold run runEnd
 split <;> omega
theorem zJ {m : Nat} {p : Probe} (h : p.j + p.more <= m) : ((tb m).advance p).j + ((tb m).advance p).more <= m := by
 unfold advance
 split
 ·simp only; omega
 ·simp only [leap]
  exact mP (Nat.mod_lt _ (by omega))
theorem mQ (m : Nat) (h : Int) : ∀ k, (bf m h k).j + (bf m h k).more <= m
 | 0 => mP (Nat.mod_lt _ (by omega))
 | k + 1 => zJ (mQ m h k)
theorem xv (m : Nat) (h : Int) (k : Nat) (_ : yt m) : (bf m h k).j <= m := Nat.le_trans (Nat.le_add_right _ _) (mQ m h k)
def xw (xs : Array Nat) : Prop := ∀ (i j a b : Nat), i < j -> xs[i]? = some a -> xs[j]? = some b -> a < b
theorem lc {xs : Array Nat} {j : Nat} (hr : xw xs) : ∀ (fuel lo hi : Nat), lo <= hi -> hi <= xs.size -> hi - lo <= fuel -> (∀ (i a : Nat), i < lo -> xs[i]? = some a -> a < j) -> (∀ (i a : Nat), hi <= i -> xs[i]? = some a -> j <= a) ->
  below.go xs j fuel lo hi <= xs.size /\ (∀ (i a : Nat), i < below.go xs j fuel lo hi -> xs[i]? = some a -> a < j) /\ (∀ (i a : Nat), below.go xs j fuel lo hi <= i -> xs[i]? = some a -> j <= a)
 | 0, lo, hi, h1, h2, h3, h4, h5 => by
  have : lo = hi := by omega
  subst this
  exact ⟨h2, h4, h5⟩
 | fuel + 1, lo, hi, h1, h2, h3, h4, h5 => by
  unfold below.go
  by_cases hlt : lo < hi
  ·rw [if_pos hlt]
   simp only
   have hmid : (lo + hi) / 2 < xs.size := by omega
   have hg : xs.getD ((lo + hi) / 2) j = xs[(lo + hi) / 2] := by simp [Array.getD, hmid]
   have hq : xs[(lo + hi) / 2]? = some xs[(lo + hi) / 2] := Array.getElem?_eq_getElem hmid
   rw [hg]
   split
   ·next hc =>
    refine lc hr fuel _ hi (by omega) h2 (by omega) (fun i a hi' e => ?_) h5
    by_cases he : i = (lo + hi) / 2
    ·subst he; rw [hq] at e; cases e; exact hc
    ·exact Nat.lt_trans (hr i _ a _ (by omega) e hq) hc
   ·next hc =>
    refine lc hr fuel lo _ (by omega) (by omega) (by omega) h4 (fun i a hi' e => ?_)
    by_cases he : i = (lo + hi) / 2
    ·subst he; rw [hq] at e; cases e; omega
    ·have := hr _ i _ a (by omega) hq e
     omega
  ·rw [if_neg hlt]
   have : lo = hi := by omega
   subst this
   exact ⟨h2, h4, h5⟩
theorem lf {xs : Array Nat} (hr : xw xs) (j : Nat) : below xs j <= xs.size /\ (∀ (i a : Nat), i < below xs j -> xs[i]? = some a -> a < j) /\ (∀ (i a : Nat), below xs j <= i -> xs[i]? = some a -> j <= a) :=
 lc hr xs.size 0 xs.size (Nat.zero_le _) (Nat.le_refl _) (by omega) (fun _ _ h => absurd h (Nat.not_lt_zero _)) fun i a hi e => by
  rw [Array.getElem?_eq_none hi] at e; cases e
theorem rk {xs : Array Nat} (hr : xw xs) {i j : Nat} (h : xs[i]? = some j) : below xs j = i := by
 obtain ⟨_, h2, h3⟩ := lf hr j
 rcases Nat.lt_trichotomy (below xs j) i with l | l | l
 ·have hb : below xs j < xs.size := Nat.lt_trans l (Array.getElem?_eq_some_iff.mp h).1
  have e : xs[below xs j]? = some xs[below xs j] := Array.getElem?_eq_getElem hb
  have q1 := hr _ _ _ _ l e h
  have q2 := h3 _ _ (Nat.le_refl _) e
  omega
 ·exact l
 ·have := h2 i j l h
  omega
theorem jN {t : SetTable} {i j : Nat} (h : t.slot j = .live i) : t.place[i]? = some j := by
 unfold slot at h
 simp only at h
 split at h
 ·next hc => cases h; exact eq_of_beq hc
 ·split at h <;> cases h
theorem kB {t : SetTable} (hr : xw t.place) {i j : Nat} (h : t.place[i]? = some j) : t.slot j = .live i := by
 unfold slot
 simp only
 rw [rk hr h, h]
 simp
theorem sw {t : SetTable} (hd : t.dummies = #[]) (j : Nat) : (∃ i, t.slot j = .live i) \/ t.slot j = .empty := by
 unfold slot
 simp only
 rw [hd]
 split
 ·exact .inl ⟨_, rfl⟩
 ·exact .inr (by simp [has])
theorem rm {t : SetTable} (hr : xw t.place) {j : Nat} (h : t.slot j = .empty) : ∀ (i : Nat), t.place[i]? ≠ some j := fun i e => by
 rw [kB hr e] at h; cases h
theorem sx {xs : Array Nat} (hr : xw xs) {n : Nat} (h : ∀ (j : Nat), j < n -> ∃ i : Nat, xs[i]? = some j) : ∀ (j : Nat), j < n -> ∃ i : Nat, j <= i /\ xs[i]? = some j
 | 0, hj => by obtain ⟨i, e⟩ := h 0 hj; exact ⟨i, Nat.zero_le _, e⟩
 | j + 1, hj => by
  obtain ⟨i, h1, h2⟩ := sx hr h j (by omega)
  obtain ⟨i', e⟩ := h (j + 1) hj
  refine ⟨i', ?_, e⟩
  rcases Nat.lt_trichotomy i i' with l | l | l
  ·omega
  ·subst l; rw [h2] at e; cases e
  ·have := hr _ _ _ _ l e h2; omega
theorem tX {t : SetTable} (hr : xw t.place) (hd : t.dummies = #[]) (hs : t.place.size <= t.mask) : ∃ j, j <= t.mask /\ t.slot j = .empty := by
 apply Classical.byContradiction
 intro hn
 have : ∀ (j : Nat), j < t.mask + 1 -> ∃ i : Nat, t.place[i]? = some j := fun j hj => by
  rcases sw hd j with ⟨i, e⟩ | e
  ·exact ⟨i, jN e⟩
  ·exact absurd ⟨j, by omega, e⟩ hn
 obtain ⟨i, h1, h2⟩ := sx hr this t.mask (by omega)
 have := (Array.getElem?_eq_some_iff.mp h2).1
 omega
theorem sy {t : SetTable} (hd : t.dummies = #[]) (ha : Nat -> Int) (h : Int) (K : Nat) (hK : t.slot (bf t.mask h K).j = .empty) : ∀ (fuel k : Nat), k <= K -> K - k < fuel ->
    ∃ k', k <= k' /\ k' <= K /\ (∀ m, k <= m -> m < k' -> ∃ i, t.slot (bf t.mask h m).j = .live i /\ ha i ≠ h) /\
      ((t.slot (bf t.mask h k').j = .empty /\ probe.go t ha h fuel (bf t.mask h k) = some (.empty (bf t.mask h k').j none)) \/
       (∃ i, t.slot (bf t.mask h k').j = .live i /\ ha i = h /\ probe.go t ha h fuel (bf t.mask h k) = some (.candidate (bf t.mask h k').j i (bf t.mask h (k' + 1)))))
  | 0, k, h1, h2 => by omega
  | fuel + 1, k, h1, h2 => by
    unfold probe.go
    rcases sw hd (bf t.mask h k).j with ⟨i, e⟩ | e
    · rw [e]
      simp only
      by_cases hh : ha i = h
      · rw [if_pos (by simpa using hh)]
        exact ⟨k, Nat.le_refl _, h1, fun m a b => by omega, .inr ⟨i, e, hh, rfl⟩⟩
      · rw [if_neg (by simpa using hh)]
        have hne : k ≠ K := fun z => by subst z; rw [hK] at e; cases e
        obtain ⟨k', g1, g2, g3, g4⟩ := sy hd ha h K hK fuel (k + 1) (by omega) (by omega)
        refine ⟨k', by omega, g2, fun m a b => ?_, ?_⟩
        · by_cases hm : m = k
          · subst hm; exact ⟨i, e, hh⟩
          · exact g3 m (by omega) b
        · rw [zH]; exact g4
    · rw [e]
      simp only [la]
      exact ⟨k, Nat.le_refl _, h1, fun m a b => by omega, .inl ⟨e, rfl⟩⟩
end S4
end
section
namespace S4
open PySem PySem.SetTable
abbrev Ent := Int × Value
def At (pl : Array Nat) (es : Array Ent) (j : Nat) (e : Ent) : Prop := ∃ i : Nat, pl[i]? = some j /\ es[i]? = some e
structure TPre (t : SetTable) (es : Array Ent) : Prop where
 msk : yt t.mask
 dum : t.dummies = #[]
 siz : t.place.size = es.size
 ris : xw t.place
 inb : ∀ (i a : Nat), t.place[i]? = some a -> a <= t.mask
 way : ∀ (j : Nat) (e : Ent), At t.place es j e -> ∃ k, (bf t.mask e.1 k).j = j /\ ∀ m, m < k -> ∃ e', At t.place es (bf t.mask e.1 m).j e'
structure TOk (t : SetTable) (es : Array Ent) : Prop extends TPre t es where
 few : es.size * 5 < t.mask * 3
theorem TPre.fits {t : SetTable} {es : Array Ent} (k : TPre t es) (h : es.size <= t.mask) : t.fits es.size = true := by
 unfold SetTable.fits fill
 rw [k.siz, k.dum]
 simpa using h
theorem TOk.le {t : SetTable} {es : Array Ent} (k : TOk t es) : es.size <= t.mask := by
 have := k.few
 omega
theorem TPre.at_of {t : SetTable} {es : Array Ent} (k : TPre t es) {i j : Nat} (h : t.place[i]? = some j) : ∃ e, es[i]? = some e /\ At t.place es j e := by
 have hi : i < es.size := by rw [<- k.siz]; exact (Array.getElem?_eq_some_iff.mp h).1
 exact ⟨es[i], Array.getElem?_eq_getElem hi, i, h, Array.getElem?_eq_getElem hi⟩
theorem vL (led : Bool) : TOk (SetTable.fresh 0 0 led) #[] where
 msk := .inl rfl
 dum := rfl
 siz := rfl
 ris := fun i j a b _ h _ => by simp [SetTable.fresh] at h
 inb := fun i a h => by simp [SetTable.fresh] at h
 way := fun j e ⟨i, h, _⟩ => by simp [SetTable.fresh] at h
 few := by show 0 * 5 < 7 * 3; decide
theorem cD {α : Type} (xs : Array α) (p : Nat) (x : α) (hp : p <= xs.size) (i : Nat) : (SetTable.insertAt xs p x)[i]? = if i < p then xs[i]? else if i = p then some x else xs[i - 1]? := by
 rw [<- Array.getElem?_toList, SetTable.toList_insertAt]
 have hl : (xs.toList.take p).length = p := by simp [hp]
 by_cases h1 : i < p
 ·rw [if_pos h1, List.getElem?_append_left (by omega), List.getElem?_take_of_lt h1, Array.getElem?_toList]
 ·rw [if_neg h1, List.getElem?_append_right (by omega), hl]
  by_cases h2 : i = p
  ·subst h2; simp
  ·rw [if_neg h2]
   obtain ⟨d, hd⟩ : ∃ d, i - p = d + 1 := ⟨i - p - 1, by omega⟩
   rw [hd, List.getElem?_cons_succ, List.getElem?_drop, show p + d = i - 1 by omega, Array.getElem?_toList]
theorem lg {α : Type} (xs : Array α) (p : Nat) (x : α) : (SetTable.insertAt xs p x).size = xs.size + 1 := by
 have := (SetTable.insertAt_perm xs p x).length_eq
 simpa using this
theorem vM {pl : Array Nat} {es : Array Ent} {p j : Nat} {e : Ent} (hs : pl.size = es.size) (hp : p <= pl.size) (j' : Nat) (e' : Ent) :
  At (SetTable.insertAt pl p j) (SetTable.insertAt es p e) j' e' ↔ At pl es j' e' \/ (j' = j /\ e' = e) := by
 have hp2 : p <= es.size := by rw [<- hs]; exact hp
 constructor
 ·rintro ⟨i, h1, h2⟩
  rw [cD _ _ _ hp] at h1
  rw [cD _ _ _ hp2] at h2
  by_cases c1 : i < p
  ·rw [if_pos c1] at h1 h2; exact .inl ⟨i, h1, h2⟩
  ·rw [if_neg c1] at h1 h2
   by_cases c2 : i = p
   ·rw [if_pos c2] at h1 h2; cases h1; cases h2; exact .inr ⟨rfl, rfl⟩
   ·rw [if_neg c2] at h1 h2; exact .inl ⟨_, h1, h2⟩
 ·rintro (⟨i, h1, h2⟩ | ⟨rfl, rfl⟩)
  ·by_cases c1 : i < p
   ·exact ⟨i, by rw [cD _ _ _ hp, if_pos c1]; exact h1, by rw [cD _ _ _ hp2, if_pos c1]; exact h2⟩
   ·exact ⟨i + 1, by rw [cD _ _ _ hp, if_neg (by omega), if_neg (by omega)]; exact h1, by rw [cD _ _ _ hp2, if_neg (by omega), if_neg (by omega)]; exact h2⟩
  ·exact ⟨p, by rw [cD _ _ _ hp, if_neg (by omega), if_pos rfl], by rw [cD _ _ _ hp2, if_neg (by omega), if_pos rfl]⟩
theorem zK {t : SetTable} (hd : t.dummies = #[]) (j : Nat) : t.put j = ({ t with place := SetTable.insertAt t.place (below t.place j) j }, below t.place j) := by
 unfold put
 simp only
 rw [hd]
 have : has (#[] : Array Nat) j = false := by simp [has]
 rw [this]
 cases t
 simp only at hd
 subst hd
 rfl
theorem zL {t : SetTable} {es : Array Ent} (k : TPre t es) {j : Nat} {e : Ent} {K : Nat} (hj : j <= t.mask) (hf : t.slot j = .empty) (hK : (bf t.mask e.1 K).j = j) (hb : ∀ m, m < K -> ∃ e', At t.place es (bf t.mask e.1 m).j e') :
  TPre (t.put j).1 (SetTable.insertAt es (t.put j).2 e) /\ (t.put j).1.mask = t.mask /\ (t.put j).1.led = t.led /\ (t.put j).1.plain = t.plain := by
 obtain ⟨b1, b2, b3⟩ := lf k.ris j
 have hno := rm k.ris hf
 rw [zK k.dum]
 refine ⟨⟨k.msk, k.dum, ?_, ?_, ?_, ?_⟩, rfl, rfl, rfl⟩
 ·show (SetTable.insertAt t.place (below t.place j) j).size = _
  rw [lg, lg, k.siz]
 ·intro i1 i2 a b hlt h1 h2
  have h1' : (SetTable.insertAt t.place (below t.place j) j)[i1]? = some a := h1
  have h2' : (SetTable.insertAt t.place (below t.place j) j)[i2]? = some b := h2
  rw [cD _ _ _ b1] at h1' h2'
  by_cases c1 : i1 < below t.place j
  ·rw [if_pos c1] at h1'
   by_cases c2 : i2 < below t.place j
   ·rw [if_pos c2] at h2'; exact k.ris _ _ _ _ hlt h1' h2'
   ·rw [if_neg c2] at h2'
    by_cases c3 : i2 = below t.place j
    ·rw [if_pos c3] at h2'; cases h2'; exact b2 _ _ c1 h1'
    ·rw [if_neg c3] at h2'; exact k.ris _ _ _ _ (by omega) h1' h2'
  ·rw [if_neg c1] at h1'
   rw [if_neg (by omega), if_neg (by omega)] at h2'
   by_cases c3 : i1 = below t.place j
   ·rw [if_pos c3] at h1'; cases h1'
    have q := b3 _ _ (by omega) h2'
    have : b ≠ j := fun z => by subst z; exact hno _ h2'
    omega
   ·rw [if_neg c3] at h1'; exact k.ris _ _ _ _ (by omega) h1' h2'
 ·intro i a h
  have h' : (SetTable.insertAt t.place (below t.place j) j)[i]? = some a := h
  rw [cD _ _ _ b1] at h'
  by_cases c1 : i < below t.place j
  ·rw [if_pos c1] at h'; exact k.inb _ _ h'
  ·rw [if_neg c1] at h'
   by_cases c3 : i = below t.place j
   ·rw [if_pos c3] at h'; cases h'; exact hj
   ·rw [if_neg c3] at h'; exact k.inb _ _ h'
 ·intro j' e' h
  have up : ∀ {a b}, At t.place es a b -> At (SetTable.insertAt t.place (below t.place j) j) (SetTable.insertAt es (below t.place j) e) a b := fun z => (vM k.siz b1 _ _).mpr (.inl z)
  rcases (vM k.siz b1 j' e').mp h with h' | ⟨rfl, rfl⟩
  ·obtain ⟨n, h1, h2⟩ := k.way _ _ h'
   exact ⟨n, h1, fun m hm => let ⟨x, hx⟩ := h2 m hm; ⟨x, up hx⟩⟩
  ·exact ⟨K, hK, fun m hm => let ⟨x, hx⟩ := hb m hm; ⟨x, up hx⟩⟩
abbrev vN := Array (Option Nat)
def tY (o : vN) (j : Nat) : Prop := ∃ k, o[j]? = some (some k)
structure Laid (m : Nat) (hs : List Int) (o : vN) : Prop where
 siz : o.size = m + 1
 way : ∀ (j k : Nat), o[j]? = some (some k) -> ∃ x, hs[k]? = some x /\ ∃ n, (bf m x n).j = j /\ ∀ i, i < n -> tY o (bf m x i).j
theorem mR {m : Nat} {o : vN} (hsz : o.size = m + 1) (h : Int) (n' : Nat) (hn : o[(dn m h n').1]? = some none) : ∀ (fuel n : Nat), n <= n' -> n' - n < fuel ->
  ∃ idx, lQ m h n <= idx /\ layClean.free m o fuel (dn m h n).1 (dn m h n).2 = some (bf m h idx).j /\ o[(bf m h idx).j]? = some none /\ ∀ i, lQ m h n <= i -> i < idx -> tY o (bf m h i).j
 | 0, n, h1, h2 => by omega
 | fuel + 1, n, h1, h2 => by
  have hrun : runEnd m (dn m h n).1 + 1 - (dn m h n).1 = run m (dn m h n).1 + 1 := by
   unfold run runEnd
   split <;> omega
  have hend : (dn m h n).1 + run m (dn m h n).1 <= m := by
   have := vJ m h n
   unfold run runEnd
   split <;> omega
  have get : ∀ k, k <= run m (dn m h n).1 -> o.getD ((dn m h n).1 + k) (some 0) = o[(dn m h n).1 + k]?.getD (some 0) := fun k _ => by simp
  have occ : ∀ k, k <= run m (dn m h n).1 -> (o.getD ((dn m h n).1 + k) (some 0)).isNone = false -> tY o (bf m h (lQ m h n + k)).j := fun k hk hq => by
   rw [n5 m h n k hk]
   have hlt : (dn m h n).1 + k < o.size := by omega
   rw [get k hk, Array.getElem?_eq_getElem hlt] at hq
   cases e : o[(dn m h n).1 + k] with
   | none => simp [e] at hq
   | some z => exact ⟨z, by rw [Array.getElem?_eq_getElem hlt, e]⟩
  unfold layClean.free
  rw [hrun]
  cases q : (List.range (run m (dn m h n).1 + 1)).find? (fun k => (o.getD ((dn m h n).1 + k) (some 0)).isNone) with
  | some k =>
   simp only
   have hk := List.find?_some q
   have hmem : k <= run m (dn m h n).1 := by
    have := List.mem_of_find?_eq_some q
    rw [List.mem_range] at this; omega
   refine ⟨lQ m h n + k, by omega, by rw [n5 m h n k hmem], ?_, fun i a b => ?_⟩
   ·rw [n5 m h n k hmem]
    have hlt : (dn m h n).1 + k < o.size := by omega
    rw [get k hmem, Array.getElem?_eq_getElem hlt] at hk
    rw [Array.getElem?_eq_getElem hlt]
    cases e : o[(dn m h n).1 + k] with
    | none => rfl
    | some z => simp [e] at hk
   ·obtain ⟨d, rfl⟩ : ∃ d, i = lQ m h n + d := ⟨i - lQ m h n, by omega⟩
    refine occ d (by omega) ?_
    have hall := List.find?_eq_some_iff_getElem.mp q
    obtain ⟨_, ix, hix, e1, e2⟩ := hall
    simp at e1
    subst e1
    have := e2 d (by omega)
    simpa using this
  | none =>
   simp only
   have hall := List.find?_eq_none.mp q
   have occ' : ∀ k, k <= run m (dn m h n).1 -> tY o (bf m h (lQ m h n + k)).j := fun k hk => occ k hk (by
    have := hall k (List.mem_range.mpr (by omega))
    exact Bool.eq_false_iff.mpr this)
   have hne : n ≠ n' := fun z => by
    subst z
    obtain ⟨k, e⟩ := occ' 0 (Nat.zero_le _)
    rw [n5 m h n 0 (Nat.zero_le _)] at e
    rw [Nat.add_zero, hn] at e; cases e
   obtain ⟨idx, g1, g2, g3, g4⟩ := mR hsz h n' hn fuel (n + 1) (by omega) (by omega)
   have hK : lQ m h (n + 1) = lQ m h n + run m (dn m h n).1 + 1 := rfl
   refine ⟨idx, by omega, g2, g3, fun i a b => ?_⟩
   by_cases hi : lQ m h (n + 1) <= i
   ·exact g4 i hi b
   ·obtain ⟨d, rfl⟩ : ∃ d, i = lQ m h n + d := ⟨i - lQ m h n, by omega⟩
    exact occ' d (by omega)
def bL (m : Nat) (f : Nat -> Option Nat) : List (Nat × Nat) := (List.range (m + 1)).filterMap fun j => (f j).map fun k => (j, k)
theorem jk {α β : Type} {f g : α -> Option β} : ∀ {l : List α}, (∀ x ∈ l, f x = g x) -> l.filterMap f = l.filterMap g
 | [], _ => rfl
 | x :: l, h => by rw [List.filterMap_cons, List.filterMap_cons, h x List.mem_cons_self, jk fun y hy => h y (List.mem_cons_of_mem _ hy)]
theorem vO {m j k : Nat} {f g : Nat -> Option Nat} (hj : j < m + 1) (hf : f j = none) (hg : g j = some k) (ho : ∀ i, i ≠ j -> g i = f i) : (bL m g).Perm ((j, k) :: bL m f) := by
 unfold bL
 have e : List.range (m + 1) = List.range j ++ j :: (List.range' (j + 1) (m - j)) := by
  rw [List.range_eq_range', List.range_eq_range', show m + 1 = j + (1 + (m - j)) by omega, <- List.range'_append_1, <- List.range'_append_1]
  simp
 rw [e, List.filterMap_append, List.filterMap_append, List.filterMap_cons, List.filterMap_cons, hf, hg]
 simp only [Option.map_some, Option.map_none]
 rw [jk (l := List.range j) (g := fun j => (f j).map fun k => (j, k)) fun x hx => by rw [ho x (by rw [List.mem_range] at hx; omega)],
  jk (l := List.range' (j + 1) (m - j)) (g := fun j => (f j).map fun k => (j, k)) fun x hx => by rw [ho x (by rw [List.mem_range'_1] at hx; omega)]]
 exact List.perm_middle
def fo (o : vN) (j : Nat) : Option Nat := o.getD j none
theorem lh {o : vN} {j k : Nat} : fo o j = some k ↔ o[j]? = some (some k) := by
 unfold fo
 rw [Array.getD_eq_getD_getElem?]
 cases o[j]? with
 | none => simp
 | some z => simp
structure LaidN (m : Nat) (hs : List Int) (o : vN) : Prop extends Laid m hs o where
 all : ((bL m (fo o)).map (·.2)).Perm (List.range hs.length)
theorem pG {m : Nat} {hs : List Int} {o : vN} (L : LaidN m hs o) : (bL m (fo o)).length = hs.length := by
 have := L.all.length_eq
 simpa using this
theorem pH {m : Nat} {hs : List Int} {o : vN} (L : LaidN m hs o) (hl : hs.length <= m) : ∃ j, j <= m /\ o[j]? = some none := by
 apply Classical.byContradiction
 intro hn
 have hocc : ∀ j, j ∈ List.range (m + 1) -> ∃ k, fo o j = some k := fun j hj => by
  rw [List.mem_range] at hj
  have hlt : j < o.size := by rw [L.siz]; exact hj
  cases e : o[j] with
  | none => exact absurd ⟨j, by omega, by rw [Array.getElem?_eq_getElem hlt, e]⟩ hn
  | some k => exact ⟨k, lh.mpr (by rw [Array.getElem?_eq_getElem hlt, e])⟩
 have : ∀ l : List Nat, (∀ j ∈ l, ∃ k, fo o j = some k) -> (l.filterMap fun j => (fo o j).map fun k => (j, k)).length = l.length := by
  intro l
  induction l with
  | nil => intro _; rfl
  | cons x l ih =>
   intro h
   obtain ⟨k, e⟩ := h x List.mem_cons_self
   rw [List.filterMap_cons, e]
   simp only [Option.map_some, List.length_cons]
   rw [ih fun j hj => h j (List.mem_cons_of_mem _ hj)]
 have h1 := this _ hocc
 have h2 := pG L
 unfold bL at h2
 rw [h1, List.length_range] at h2
 omega
theorem vP {m : Nat} (hm : yt m) {hs : List Int} {o : vN} (L : LaidN m hs o) (hl : hs.length <= m) (x : Int) :
  ∃ j, layClean.free m o (turns m) (bits x % (m + 1)) (bits x) = some j /\ LaidN m (hs ++ [x]) (o.setIfInBounds j (some hs.length)) := by
 obtain ⟨j0, hj0, hf0⟩ := pH L hl
 obtain ⟨n', hn1, hn2⟩ := vK hm x j0 hj0
 obtain ⟨idx, _, g2, g3, g4⟩ := mR L.siz x n' (by rw [hn2]; exact hf0) (turns m) 0 (Nat.zero_le _) (by unfold turns; omega)
 refine ⟨(bf m x idx).j, g2, ?_⟩
 generalize hj : (bf m x idx).j = j at g3 ⊢
 have hjlt : j < o.size := (Array.getElem?_eq_some_iff.mp g3).1
 have self : (o.setIfInBounds j (some hs.length))[j]? = some (some hs.length) := by simp [hjlt]
 have oth : ∀ i, i ≠ j -> (o.setIfInBounds j (some hs.length))[i]? = o[i]? := fun i hi => by
  rw [Array.getElem?_setIfInBounds_ne (Ne.symm hi)]
 have up : ∀ i, tY o i -> tY (o.setIfInBounds j (some hs.length)) i := fun i ⟨k, e⟩ => by
  by_cases hi : i = j
  ·subst hi; exact ⟨_, self⟩
  ·exact ⟨k, by rw [oth i hi]; exact e⟩
 refine ⟨⟨by rw [Array.size_setIfInBounds]; exact L.siz, fun i k e => ?_⟩, ?_⟩
 ·by_cases hi : i = j
  ·subst hi
   rw [self] at e; cases e
   exact ⟨x, by simp, idx, hj, fun q hq => up _ (g4 q (Nat.zero_le _) hq)⟩
  ·rw [oth i hi] at e
   obtain ⟨y, h1, n, h2, h3⟩ := L.way i k e
   refine ⟨y, ?_, n, h2, fun q hq => up _ (h3 q hq)⟩
   rw [List.getElem?_append_left (List.getElem?_eq_some_iff.mp h1).1]; exact h1
 ·have hp := vO (m := m) (j := j) (k := hs.length) (f := fo o) (g := fo (o.setIfInBounds j (some hs.length))) (by rw [<- L.siz]; exact hjlt)
   (by unfold fo; rw [Array.getD_eq_getD_getElem?, g3]; rfl) (lh.mpr self) (fun i hi => by unfold fo; rw [Array.getD_eq_getD_getElem?, Array.getD_eq_getD_getElem?, oth i hi])
  refine (hp.map (·.2)).trans ?_
  rw [List.length_append, List.length_singleton, List.range_succ]
  exact (List.Perm.cons _ L.all).trans (List.perm_append_singleton _ _).symm
theorem sA {m : Nat} (hm : yt m) : ∀ (rest hs : List Int) (o : vN), LaidN m hs o -> hs.length + rest.length <= m + 1 ->
  ∃ o', rest.foldl (fun (acc : Option (vN × Nat)) h => do
   let (owner, k) <- acc
   let j <- layClean.free m owner (turns m) (bits h % (m + 1)) (bits h)
   pure (owner.setIfInBounds j (some k), k + 1)) (some (o, hs.length)) = some (o', hs.length + rest.length) /\ LaidN m (hs ++ rest) o'
 | [], hs, o, L, _ => ⟨o, rfl, by rw [List.append_nil]; exact L⟩
 | x :: rest, hs, o, L, hl => by
  rw [List.length_cons] at hl
  obtain ⟨j, e, L'⟩ := vP hm L (by omega) x
  obtain ⟨o', e', L''⟩ := sA hm rest (hs ++ [x]) _ L' (by simp; omega)
  refine ⟨o', ?_, by rw [List.append_assoc] at L''; exact L''⟩
  rw [List.foldl_cons]
  simp only [Option.bind_eq_bind, Option.bind_some, e]
  rw [List.length_append, List.length_singleton] at e'
  simp only [Option.bind_eq_bind] at e'
  rw [List.length_cons, show hs.length + (rest.length + 1) = hs.length + 1 + rest.length by omega]
  exact e'
theorem tZ {m : Nat} (hm : yt m) (hashes : Array Int) (hl : hashes.size <= m + 1) : ∃ o, layClean m hashes = some o /\ LaidN m hashes.toList o := by
 have L0 : LaidN m [] (Array.replicate (m + 1) none) := by
  refine ⟨⟨by simp, fun j k e => ?_⟩, ?_⟩
  ·rw [Array.getElem?_replicate] at e
   split at e <;> cases e
  ·have : bL m (fo (Array.replicate (m + 1) none)) = [] := by
    unfold bL
    rw [List.filterMap_eq_nil_iff]
    intro j _
    have : fo (Array.replicate (m + 1) none) j = none := by
     cases e : fo (Array.replicate (m + 1) none) j with
     | none => rfl
     | some k =>
      rw [lh, Array.getElem?_replicate] at e
      split at e <;> cases e
    rw [this]; rfl
   rw [this]
   exact .refl _
 obtain ⟨o, e, L⟩ := sA hm hashes.toList [] _ L0 (by simpa using hl)
 refine ⟨o, ?_, by simpa using L⟩
 unfold layClean
 rw [<- Array.foldl_toList]
 rw [show (Array.replicate (m + 1) (none : Option Nat), 0) = (Array.replicate (m + 1) none, ([] : List Int).length) from rfl]
 rw [e]
 rfl
end S4
end
section
namespace S4
open PySem PySem.SetTable
theorem li (f : Nat -> Option Nat) : ∀ l : List Nat, ((l.filterMap fun j => (f j).map fun k => (j, k)).map (·.1)).Sublist l
 | [] => .slnil
 | x :: l => by
  rw [List.filterMap_cons]
  cases f x with
  | none => exact .cons _ (li f l)
  | some k => exact .cons₂ _ (li f l)
theorem lj {m : Nat} {f : Nat -> Option Nat} {j k : Nat} : (j, k) ∈ bL m f ↔ j < m + 1 /\ f j = some k := by
 unfold bL
 rw [List.mem_filterMap]
 constructor
 ·rintro ⟨a, h1, h2⟩
  cases e : f a with
  | none => rw [e] at h2; cases h2
  | some b =>
   rw [e] at h2
   cases h2
   exact ⟨List.mem_range.mp h1, e⟩
 ·rintro ⟨h1, h2⟩
  exact ⟨j, List.mem_range.mpr h1, by rw [h2]; rfl⟩
theorem zM {l : List Nat} (h : l.Pairwise (· < ·)) : xw l.toArray := by
 intro i j a b hij ha hb
 rw [List.getElem?_toArray] at ha hb
 obtain ⟨hi, ea⟩ := List.getElem?_eq_some_iff.mp ha
 obtain ⟨hj, eb⟩ := List.getElem?_eq_some_iff.mp hb
 have := List.pairwise_iff_getElem.mp h i j hi hj hij
 rw [ea, eb] at this; exact this
theorem vQ {α β : Type} {f : α -> Option β} : ∀ {l : List α}, (∀ x ∈ l, ∃ y, f x = some y) -> ∀ i : Nat, (l.filterMap f)[i]? = l[i]?.bind f
 | [], _, i => by simp
 | x :: l, h, i => by
  obtain ⟨y, e⟩ := h x List.mem_cons_self
  rw [List.filterMap_cons, e]
  cases i with
  | zero => simp [e]
  | succ i => simpa using vQ (fun z hz => h z (List.mem_cons_of_mem _ hz)) i
theorem xx {es : Array Ent} {m : Nat} (hm : yt m) (hf : es.size * 5 < m * 3) (fg mv : Nat) (ld pl : Bool) :
  ∃ (t' : SetTable) (order : Array Nat), laid m fg mv ld pl (es.map (·.1)) = some (t', order) /\ order.toList.Perm (List.range es.size) /\ (order.filterMap (es[·]?)).size = es.size /\ TOk t' (order.filterMap (es[·]?)) /\ t'.led = ld /\ t'.plain = pl /\ t'.mask = m := by
 obtain ⟨o, e, L⟩ := tZ hm (es.map (·.1)) (by rw [Array.size_map]; omega)
 have hlen : (es.map (·.1)).toList.length = es.size := by simp
 have hall := L.all
 rw [hlen] at hall
 have hk : ∀ p ∈ bL m (fo o), ∃ y, es[p.2]? = some y := fun p hp => by
  have : p.2 ∈ List.range es.size := hall.mem_iff.mp (List.mem_map_of_mem hp)
  rw [List.mem_range] at this
  exact ⟨es[p.2], Array.getElem?_eq_getElem this⟩
 have hes : (((bL m (fo o)).map (·.2)).toArray.filterMap (es[·]?)).toList = ((bL m (fo o)).map (·.2)).filterMap (es[·]?) := by
  rw [Array.toList_filterMap]
 have hperm : (((bL m (fo o)).map (·.2)).toArray.filterMap (es[·]?)).toList.Perm es.toList := by
  rw [hes]
  exact (hall.filterMap _).trans (by rw [filterMap_getElem?_range])
 have hsz : (((bL m (fo o)).map (·.2)).toArray.filterMap (es[·]?)).size = es.size := by
  have := hperm.length_eq
  simpa using this
 have hat : ∀ (j : Nat) (x : Ent), At (((bL m (fo o)).map (·.1)).toArray) (((bL m (fo o)).map (·.2)).toArray.filterMap (es[·]?)) j x ↔ ∃ k, (j, k) ∈ bL m (fo o) /\ es[k]? = some x := by
  intro j x
  have key : ∀ i : Nat, (((bL m (fo o)).map (·.2)).toArray.filterMap (es[·]?))[i]? = ((bL m (fo o))[i]?).bind fun p => es[p.2]? := fun i => by
   rw [<- Array.getElem?_toList, hes, vQ (fun z hz => by
    obtain ⟨p, hp, rfl⟩ := List.mem_map.mp hz
    exact hk p hp) i, List.getElem?_map]
   cases (bL m (fo o))[i]? <;> rfl
  constructor
  ·rintro ⟨i, h1, h2⟩
   rw [List.getElem?_toArray, List.getElem?_map] at h1
   rw [key] at h2
   cases q : (bL m (fo o))[i]? with
   | none => rw [q] at h1; cases h1
   | some p =>
    rw [q] at h1 h2
    cases h1
    exact ⟨p.2, List.mem_of_getElem? q, h2⟩
  ·rintro ⟨k, h1, h2⟩
   obtain ⟨i, hi⟩ := List.mem_iff_getElem?.mp h1
   exact ⟨i, by rw [List.getElem?_toArray, List.getElem?_map, hi]; rfl, by rw [key, hi]; exact h2⟩
 refine ⟨⟨m, ((bL m (fo o)).map (·.1)).toArray, #[], fg, ld, mv, pl⟩, ((bL m (fo o)).map (·.2)).toArray, ?_, by simpa using hall, hsz, ⟨⟨hm, rfl, ?_, ?_, ?_, ?_⟩, ?_⟩, rfl, rfl, rfl⟩
 ·unfold laid
  rw [e]
  rfl
 ·rw [hsz]
  show (((bL m (fo o)).map (·.1)).toArray).size = _
  rw [List.size_toArray, List.length_map, pG L, hlen]
 ·exact zM (List.Pairwise.sublist (li _ _) List.pairwise_lt_range)
 ·intro i a h
  have h' : (((bL m (fo o)).map (·.1)).toArray)[i]? = some a := h
  rw [List.getElem?_toArray] at h'
  obtain ⟨p, hp, rfl⟩ := List.mem_map.mp (List.mem_of_getElem? h')
  have := (lj.mp hp).1
  show p.1 <= m
  omega
 ·intro j x hx
  obtain ⟨k, h1, h2⟩ := (hat j x).mp hx
  obtain ⟨h3, h4⟩ := lj.mp h1
  obtain ⟨y, g1, n, g2, g3⟩ := L.way j k (lh.mp h4)
  have ey : y = x.1 := by
   rw [Array.getElem?_toList, Array.getElem?_map, h2] at g1
   cases g1; rfl
  subst ey
  refine ⟨n, g2, fun i hi => ?_⟩
  obtain ⟨k', g5⟩ := g3 i hi
  have hlt : (bf m x.1 i).j < m + 1 := by rw [<- L.siz]; exact (Array.getElem?_eq_some_iff.mp g5).1
  have hm' := lj.mpr ⟨hlt, lh.mpr g5⟩
  obtain ⟨e', g6⟩ := hk _ hm'
  exact ⟨e', (hat _ _).mpr ⟨k', hm', g6⟩⟩
 ·rw [hsz]; exact hf
theorem t3 {t : SetTable} {es : Array Ent} (hn : es.size = 5) : ∃ (t' : SetTable) (order : Array Nat), t.relaid (es.map (·.1)) (SetTable.grown 5) = some (t', order) /\ order.toList.Perm (List.range es.size) /\ (order.filterMap (es[·]?)).size = es.size /\
  TOk t' (order.filterMap (es[·]?)) /\ t'.led = t.led /\ t'.plain = t.plain := by
 obtain ⟨t', o, h1, h2, h2', h3, h4, h5, _⟩ := xx (es := es) (m := 31) (.inr rfl) (by rw [hn]; decide) t.finger (t.movedTo 31) t.led t.plain
 exact ⟨t', o, h1, h2, h2', h3, h4, h5⟩
end S4
end
section
namespace S4
open PySem PySem.Spec PyProof.Rows
section
variable {prog : Program} {w : World} {A : Around} {E : Value -> Shared -> Prop} {s : Shared}
theorem items_int {ks : List Int} {vs : List Value} (h : ItemsAre (intKind prog w) ks vs) : ∀ v ∈ vs, ∃ n t, v = Value.int n t := by
 induction h with
 | nil => intro v hv; cases hv
 | cons h1 _ ih =>
  intro v hv
  rcases List.mem_cons.mp hv with rfl | hv
  ·obtain ⟨t, e⟩ := Value.isInt_shape h1
   exact ⟨_, t, e⟩
  ·exact ih v hv
theorem t4 {ks : List Int} {a : Addr} {Q : Bool -> Shared -> Prop} (hk : IsTupleKey (intKind prog w) s.heap ks a) (h : Q true s) : wpAny (model prog w) A (hashByValue 8 (.ref a)) Q E s := by
 have hT := hk.typeIs
 obtain ⟨o, items, n, ho, _, hd, hi⟩ := hk
 unfold hashByValue
 refine wpAny_bind (wpAny_specialOf hT F.slot_tuple_hash.lookup ?_)
 show wpAny _ _ (seqItems? (.ref a) >>= _) _ _ s
 refine wpAny_bind (wpAny_seqItems ho hd ?_)
 refine wpAny_bind ?_
 show wpAny _ _ (forIn items _ _) _ _ s
 rw [<- Array.forIn_toList]
 refine wpAny_forIn_list _ (fun rest r s' => r.1 = none /\ s' = s /\ ∀ v ∈ rest, ∃ n t, v = Value.int n t) _ ?_ ?_ _ _ ⟨rfl, rfl, items_int hi⟩
 ·rintro v rest r s' ⟨hr, rfl, hall⟩
  obtain ⟨i, t, rfl⟩ := hall v List.mem_cons_self
  refine wpAny_bind ?_
  unfold hashByValue
  refine wpAny_pure ?_
  simp only [Bool.not_true, Bool.false_eq_true, if_false]
  exact wpAny_pure ⟨rfl, rfl, fun u hu' => hall u (List.mem_cons_of_mem _ hu')⟩
 ·rintro ⟨r1, r2⟩ s' ⟨hr, rfl, _⟩
  simp only at hr
  subst hr
  exact wpAny_pure h
theorem ke {ks : List Int} {a : Addr} {Q : Bool -> Shared -> Prop} (hk : IsTupleKey (intKind prog w) s.heap ks a) (h : Q false s) : wpAny (model prog w) A (ofAClassStatement 8 (.ref a)) Q E s := by
 have hT := hk.typeIs
 obtain ⟨o, items, n, ho, _, hd, hi⟩ := hk
 unfold ofAClassStatement
 refine wpAny_bind (wpAny_typeOf hT ?_)
 simp only
 rw [if_pos (by decide)]
 refine wpAny_bind (wpAny_pure ?_)
 simp only [Bool.not_true, Bool.false_eq_true, if_false]
 refine wpAny_bind (wpAny_seqItems ho hd ?_)
 simp only
 refine wpAny_bind ?_
 show wpAny _ _ (forIn items _ _) _ _ s
 rw [<- Array.forIn_toList]
 refine wpAny_forIn_list _ (fun rest r s' => r.1 = none /\ s' = s /\ ∀ v ∈ rest, ∃ n t, v = Value.int n t) _ ?_ ?_ _ _ ⟨rfl, rfl, items_int hi⟩
 ·rintro v rest r s' ⟨hr, rfl, hall⟩
  obtain ⟨i, t, rfl⟩ := hall v List.mem_cons_self
  refine wpAny_bind ?_
  unfold ofAClassStatement
  refine wpAny_pure ?_
  simp only [Bool.false_eq_true, if_false]
  exact wpAny_pure ⟨rfl, rfl, fun u hu' => hall u (List.mem_cons_of_mem _ hu')⟩
 ·rintro ⟨r1, r2⟩ s' ⟨hr, rfl, _⟩
  simp only at hr
  subst hr
  exact wpAny_pure h
theorem zN {kx : List Int} {ax : Addr} (hx : IsTupleKey (intKind prog w) s.heap kx ax) {ys : List Value} (hy : ∀ y ∈ ys, ∃ k a, y = .ref a /\ IsTupleKey (intKind prog w) s.heap k a) {Q : Bool -> Shared -> Prop} (h : Q false s) :
  wpAny (model prog w) A (searchCouldBeSeen (.ref ax) ys) Q E s := by
 unfold searchCouldBeSeen
 refine wpAny_bind ?_
 refine wpAny_forIn_list _ (fun rest r s' => r.1 = none /\ s' = s /\ ∀ v ∈ rest, ∃ k a, v = .ref a /\ IsTupleKey (intKind prog w) s.heap k a) _ ?_ ?_ _ _ ⟨rfl, rfl, hy⟩
 ·rintro v rest r s' ⟨hr, rfl, hall⟩
  obtain ⟨k, a, rfl, hk⟩ := hall v List.mem_cons_self
  have tl : ∀ u ∈ rest, ∃ k a, u = .ref a /\ IsTupleKey (intKind prog w) s'.heap k a := fun u hu' => hall u (List.mem_cons_of_mem _ hu')
  simp only
  split
  ·exact wpAny_pure ⟨rfl, rfl, tl⟩
  ·refine wpAny_bind (wpAny_eqIsQuiet_tuple hx ?_)
   simp only [Bool.not_true, Bool.false_eq_true, if_false]
   refine wpAny_bind (wpAny_eqIsQuiet_tuple hk ?_)
   simp only [Bool.not_true, Bool.false_eq_true, if_false]
   refine wpAny_bind (ke hx ?_)
   simp only [Bool.false_eq_true, if_false]
   refine wpAny_bind (ke hk ?_)
   simp only [Bool.false_eq_true, if_false]
   exact wpAny_pure ⟨rfl, rfl, tl⟩
 ·rintro ⟨r1, r2⟩ s' ⟨hr, rfl, _⟩
  simp only at hr
  subst hr
  exact wpAny_pure h
abbrev KA := List Int × Addr
def eF (prog : Program) (w : World) (k : List Int) : Int := tupleKeyHash (intKind prog w) k
def ent (prog : Program) (w : World) (p : KA) : Ent := (eF prog w p.1, .ref p.2)
def rp (prog : Program) (w : World) (h : Heap) (L : List KA) : Prop := ∀ p ∈ L, IsTupleKey (intKind prog w) h p.1 p.2
structure SetAt (prog : Program) (w : World) (h : Heap) (a : Addr) (o : Obj) (es : Array Ent) (ep : Nat) (t : SetTable) (L : List KA) : Prop where
 get : h.get? a = some o
 ex : o.ExactSet
 dat : o.data = .set es ep t
 ok : TOk t es
 pln : t.plain = true
 led : t.led = !(w.params.followText "set-order")
 ents : es.toList = L.map (ent prog w)
 nd : (L.map (·.1)).Nodup
theorem SetAt.fits {h : Heap} {a : Addr} {o : Obj} {es : Array Ent} {ep : Nat} {t : SetTable} {L : List KA} (k : SetAt prog w h a o es ep t L) : t.fits es.size = true := k.ok.fits k.ok.le
theorem SetAt.ent_at {h : Heap} {a : Addr} {o : Obj} {es : Array Ent} {ep : Nat} {t : SetTable} {L : List KA} (k : SetAt prog w h a o es ep t L) (i : Nat) : es[i]? = (L[i]?).map (ent prog w) := by
 rw [<- Array.getElem?_toList, k.ents, List.getElem?_map]
theorem SetAt.len {h : Heap} {a : Addr} {o : Obj} {es : Array Ent} {ep : Nat} {t : SetTable} {L : List KA} (k : SetAt prog w h a o es ep t L) : es.size = L.length := by
 rw [<- Array.length_toList, k.ents, List.length_map]
theorem vR {t : SetTable} : t.sameMemory t.moves t.mask = some true := by
 unfold SetTable.sameMemory
 simp
theorem mS {a ax : Addr} {o : Obj} {es : Array Ent} {ep : Nat} {t : SetTable} {L : List KA} {kx : List Int} (hu : A.units < cLine) (k : SetAt prog w s.heap a o es ep t L) (hL : rp prog w s.heap L) (hx : IsTupleKey (intKind prog w) s.heap kx ax)
  {K : Nat} (hK : t.slot (bf t.mask (eF prog w kx) K).j = .empty) (hlim : K < 10 * SetTable.turns t.mask) {Q : SetFound -> Shared -> Prop}
  (hyes : kx ∈ L.map (·.1) -> Q (.there none) s)
  (hno : kx ∉ L.map (·.1) -> ∀ n, t.slot (bf t.mask (eF prog w kx) n).j = .empty -> (∀ m, m < n -> ∃ i, t.slot (bf t.mask (eF prog w kx) m).j = .live i) -> Q (.free (bf t.mask (eF prog w kx) n).j false) s) :
  ∀ (fuel n : Nat) (st : Option SetTable.Probe), st.getD (t.probeStart (eF prog w kx)) = bf t.mask (eF prog w kx) n -> n <= K -> K - n < fuel ->
   (∀ m, m < n -> ∃ i, t.slot (bf t.mask (eF prog w kx) m).j = .live i /\ ∀ p, L[i]? = some p -> p.1 ≠ kx) -> wpAny (model prog w) A (setSearchFrom a (.ref ax) (eF prog w kx) true fuel st) Q E s
 | 0, n, st, e, h1, h2, h3 => by omega
 | fuel + 1, n, st, e, h1, h2, h3 => by
  have odd : t.gaveWay = false := by
   unfold SetTable.gaveWay
   rcases k.ok.msk with h | h <;> rw [h] <;> rfl
  unfold setSearchFrom
  refine wpAny_bind (wpAny_setState_of k.get k.dat k.fits ?_)
  simp only
  rw [odd]
  simp only [Bool.false_eq_true, if_false]
  rw [e]
  obtain ⟨n', g1, g2, g3, g4⟩ := sy k.ok.dum (fun i => (es[i]?.map (·.1)).getD 0) (eF prog w kx) K hK (10 * SetTable.turns t.mask) n h1 (by omega)
  have stored : ∀ (i : Nat) (p : KA), L[i]? = some p -> (es[i]?.map (·.1)).getD 0 = eF prog w p.1 := fun i p hp => by
   rw [k.ent_at, hp]; rfl
  have before : ∀ m, m < n' -> ∃ i, t.slot (bf t.mask (eF prog w kx) m).j = .live i /\ ∀ p, L[i]? = some p -> p.1 ≠ kx := fun m hm => by
   by_cases hmn : m < n
   ·exact h3 m hmn
   ·obtain ⟨i, q1, q2⟩ := g3 m (by omega) hm
    refine ⟨i, q1, fun p hp z => q2 ?_⟩
    rw [stored i p hp, z]
  rcases g4 with ⟨c1, c2⟩ | ⟨i, c1, c2, c3⟩
  ·generalize hpr : t.probe _ (eF prog w kx) (bf t.mask (eF prog w kx) n) = pr
   have ep : pr = some (.empty (bf t.mask (eF prog w kx) n').j none) := hpr.symm.trans c2
   subst ep
   simp only
   refine wpAny_pure (hno (fun hmem => ?_) n' c1 fun m hm => let ⟨i, q, _⟩ := before m hm; ⟨i, q⟩)
   obtain ⟨p, hp, rfl⟩ := List.mem_map.mp hmem
   obtain ⟨ip, hip⟩ := List.mem_iff_getElem?.mp hp
   have hes : es[ip]? = some (ent prog w p) := by rw [k.ent_at, hip]; rfl
   have hpl : ip < t.place.size := by rw [k.ok.siz]; exact (Array.getElem?_eq_some_iff.mp hes).1
   have hat : At t.place es t.place[ip] (ent prog w p) := ⟨ip, Array.getElem?_eq_getElem hpl, hes⟩
   obtain ⟨kk, w1, w2⟩ := k.ok.way _ _ hat
   have w1' : (bf t.mask (eF prog w p.1) kk).j = t.place[ip] := w1
   rcases Nat.lt_or_ge kk n' with l | l
   ·obtain ⟨i, q1, q2⟩ := before kk l
    rw [w1', kB k.ok.ris (Array.getElem?_eq_getElem hpl)] at q1
    cases q1
    exact q2 p hip rfl
   ·rcases Nat.eq_or_lt_of_le l with l | l
    ·subst l
     rw [w1', kB k.ok.ris (Array.getElem?_eq_getElem hpl)] at c1
     cases c1
    ·obtain ⟨e', i', q1, _⟩ := w2 n' l
     have q1' : t.place[i']? = some (bf t.mask (eF prog w p.1) n').j := q1
     rw [kB k.ok.ris q1'] at c1
     cases c1
  ·generalize hpr : t.probe _ (eF prog w kx) (bf t.mask (eF prog w kx) n) = pr
   have ep : pr = some (.candidate (bf t.mask (eF prog w kx) n').j i (bf t.mask (eF prog w kx) (n' + 1))) := hpr.symm.trans c3
   subst ep
   simp only
   have hi : i < es.size := by rw [<- k.ok.siz]; exact (Array.getElem?_eq_some_iff.mp (jN c1)).1
   have hiL : i < L.length := by rw [<- k.len]; exact hi
   have hp : L[i]? = some L[i] := List.getElem?_eq_getElem hiL
   have hes : es[i]? = some (ent prog w L[i]) := by rw [k.ent_at, hp]; rfl
   have hkey : IsTupleKey (intKind prog w) s.heap L[i].1 L[i].2 := hL _ (List.getElem_mem hiL)
   have hys : ∀ y ∈ List.map (fun x : Ent => x.snd) (Array.filter (fun x : Ent => x.fst == eF prog w kx) es).toList, ∃ k a, y = .ref a /\ IsTupleKey (intKind prog w) s.heap k a := fun y hy => by
    obtain ⟨e1, h1, rfl⟩ := List.mem_map.mp hy
    have h1' : e1 ∈ es.toList := by
     have := Array.mem_toList_iff.mp h1
     exact Array.mem_toList_iff.mpr (Array.mem_filter.mp this).1
    rw [k.ents] at h1'
    obtain ⟨p, hp, rfl⟩ := List.mem_map.mp h1'
    exact ⟨p.1, p.2, rfl, hL p hp⟩
   split
   case' isTrue =>
    refine wpAny_bind (zN hx hys ?_)
    simp only [Bool.false_eq_true, if_false]
   all_goals
    rw [hes]
    simp only [ent]
    refine wpAny_bind (wpAny_holding (wpAny_eqBool_tuple hu hkey hx ?_))
    refine wpAny_bind (wpAny_setState_of k.get k.dat k.fits ?_)
    by_cases hq : L[i].1 = kx
    ·rw [decide_eq_true hq]
     simp only [Bool.and_self, if_true]
     exact wpAny_pure (hyes (List.mem_map.mpr ⟨_, List.getElem_mem hiL, hq⟩))
    ·rw [decide_eq_false hq]
     simp only [Bool.and_false, Bool.false_eq_true, if_false]
     rw [vR]
     simp only [if_true]
     rw [c1]
     simp only
     rw [hes]
     simp only [ent]
     refine wpAny_bind (wpAny_isSame_ref_self (wpAny_bind (wpAny_pure ?_)))
     simp only [if_true]
     refine mS hu k hL hx hK hlim hyes hno fuel (n' + 1) _ rfl ?_ ?_ fun m hm => ?_
     ·have : n' ≠ K := fun z => by subst z; rw [hK] at c1; cases c1
      omega
     ·have : n' ≠ K := fun z => by subst z; rw [hK] at c1; cases c1
      omega
     ·by_cases hmn : m < n'
      ·exact before m hmn
      ·have : m = n' := by omega
       subst this
       exact ⟨i, c1, fun p hp' => by rw [hp] at hp'; cases hp'; exact hq⟩
end
end S4
end
section
namespace S4
open PySem PySem.Spec PyProof.Rows
def Bu (L : List KA) (p : KA) (L' : List KA) : Prop := (p.1 ∈ L.map (·.1) /\ L' = L) \/ (p.1 ∉ L.map (·.1) /\ L'.Perm (p :: L))
section
variable {prog : Program} {w : World} {A : Around} {E : Value -> Shared -> Prop} {s : Shared}
theorem sB {h : Heap} {a : Addr} {o : Obj} {es es' : Array Ent} {ep : Nat} {t t' : SetTable} (ho : h.get? a = some o) (hd : o.data = .set es ep t) : (h.update a (Obj.putSet es' t')).get? a = some { o with data := .set es' (ep + 1) t' } := by
 have := Heap.get?_update_self (Obj.putSet es' t') ho (by rw [putSet_of es' t' hd]; rfl)
 rw [putSet_of es' t' hd] at this; exact this
theorem zO {a ax : Addr} {o : Obj} {es : Array Ent} {ep : Nat} {t : SetTable} {L : List KA} {kx : List Int} (hu : A.units < cLine) (k : SetAt prog w s.heap a o es ep t L) (hL : rp prog w s.heap L) (hx : IsTupleKey (intKind prog w) s.heap kx ax)
  (hfew : L.length < 18) {Q : Bool -> Shared -> Prop}
  (h : ∀ b h' o' es' ep' t' L', SetAt prog w h' a o' es' ep' t' L' -> Heap.SameBut a s.heap h' -> Bu L (kx, ax) L' -> Q b { s with heap := h' }) :
  wpAny (model prog w) A (setAddHashed a (.ref ax) (eF prog w kx)) Q E s := by
 obtain ⟨j0, hj0, hf0⟩ := tX k.ok.ris k.ok.dum (by rw [k.ok.siz]; exact k.ok.le)
 obtain ⟨K, hK1, hK2⟩ := cover k.ok.msk (eF prog w kx) j0 hj0
 have hlim : 10 * SetTable.turns t.mask <= 100000 := by
  unfold SetTable.turns
  rcases k.ok.msk with z | z <;> rw [z] <;> decide
 unfold setAddHashed setAddHashedIn
 refine wpAny_holding (wpAny_bind (wpAny_setState_of k.get k.dat k.fits ?_))
 have hsc : byScan (.ref ax) es = false := by simp [byScan, Value.scannable]
 simp only [hsc, Bool.false_eq_true, if_false]
 unfold setSearch
 refine wpAny_bind ?_
 refine mS hu k hL hx (by rw [hK2]; exact hf0) hK1 ?_ ?_ 100000 0 none rfl (Nat.zero_le _) (by omega) (fun m hm => by omega)
 ·intro hmem
  simp only
  refine wpAny_pure ?_
  have e : s = { s with heap := s.heap } := by cases s; rfl
  rw [e]
  exact h _ s.heap o es ep t L k (Heap.SameBut.refl a s.heap) (.inl ⟨hmem, rfl⟩)
 ·intro hmem n hn hb
  simp only
  refine wpAny_bind (wpAny_setState_of k.get k.dat k.fits ?_)
  generalize hj : (bf t.mask (eF prog w kx) n).j = j at hn
  have hjle : j <= t.mask := by
   rw [<- hj]
   rcases Nat.eq_zero_or_pos n with z | z
   ·subst z
    show SetTable.bits _ % (t.mask + 1) <= t.mask
    have := Nat.mod_lt (SetTable.bits (eF prog w kx)) (show t.mask + 1 > 0 by omega)
    omega
   ·exact xv _ _ _ k.ok.msk
  obtain ⟨p1, p2, p3, p4⟩ := zL (e := ent prog w (kx, ax)) (K := n) k.ok.toTPre hjle hn hj fun m hm => by
   obtain ⟨i, q⟩ := hb m hm
   obtain ⟨e', _, q'⟩ := k.ok.toTPre.at_of (jN q)
   exact ⟨e', q'⟩
  generalize hP : t.put j = P at p1 p2 p3 p4 ⊢
  obtain ⟨t1, pp⟩ := P
  simp only at p1 p2 p3 p4 ⊢
  have p1 : TPre t1 (SetTable.insertAt es pp (eF prog w kx, Value.ref ax)) := p1
  rw [if_pos (by rw [p4]; exact k.pln)]
  refine wpAny_bind (t4 hx ?_)
  simp only [if_true]
  have hsz1 : (SetTable.insertAt es pp (eF prog w kx, Value.ref ax)).size = es.size + 1 := lg _ _ _
  have hlen := k.len
  refine wpAny_bind (wpAny_storeSet_of k.get k.dat ?_ (by rw [hsz1, sizeLine_eq]; omega))
  have g1 := sB (es' := SetTable.insertAt es pp (eF prog w kx, Value.ref ax)) (t' := t1) k.get k.dat
  have sb1 := Heap.SameBut.update s.heap a (Obj.putSet (SetTable.insertAt es pp (eF prog w kx, Value.ref ax)) t1)
  have ents1 : (SetTable.insertAt es pp (eF prog w kx, Value.ref ax)).toList = (L.take pp ++ (kx, ax) :: L.drop pp).map (ent prog w) := by
   rw [SetTable.toList_insertAt, k.ents, List.map_append, List.map_cons, List.map_take, List.map_drop]; rfl
  have perm1 : (L.take pp ++ (kx, ax) :: L.drop pp).Perm ((kx, ax) :: L) := by
   have := List.perm_middle (a := (kx, ax)) (l₁ := L.take pp) (l₂ := L.drop pp)
   rwa [List.take_append_drop] at this
  have nd1 : ((kx :: L.map (·.1))).Nodup := List.nodup_cons.mpr ⟨hmem, k.nd⟩
  have ndP : ∀ L' : List KA, L'.Perm ((kx, ax) :: L) -> (L'.map (·.1)).Nodup := fun L' hp => (List.Perm.nodup_iff (hp.map (fun p : KA => p.1))).mpr nd1
  by_cases hful : t1.tooFull = true
  ·rw [hful]
   simp only [Bool.not_false, Bool.and_self, if_true]
   have hfull : (es.size + 1) * 5 ≥ t.mask * 3 := by
    unfold SetTable.tooFull SetTable.fill at hful
    rw [p1.siz, p1.dum, p2, hsz1] at hful
    simpa using hful
   have h5 : es.size + 1 = 5 := by
    have := k.ok.few
    rcases k.ok.msk with z | z <;> rw [z] at hfull this <;> omega
   obtain ⟨t2, ord, r1, r2, r3, r4, r5, r6⟩ := t3 (t := t1) (es := SetTable.insertAt es pp (eF prog w kx, Value.ref ax)) (by rw [hsz1]; exact h5)
   have fit1 : t1.fits (SetTable.insertAt es pp (eF prog w kx, Value.ref ax)).size = true := p1.fits (by
    rw [hsz1, p2]
    have := k.ok.few
    rcases k.ok.msk with z | z <;> rw [z] at this ⊢ <;> omega)
   unfold setRelay
   refine wpAny_bind (wpAny_bind (wpAny_setState_of (s := { s with heap := s.heap.update a (Obj.putSet (SetTable.insertAt es pp (eF prog w kx, Value.ref ax)) t1) }) g1 rfl fit1 ?_))
   simp only
   rw [h5]
   rw [if_neg (by rw [sizeLine_eq]; decide)]
   rw [r1]
   refine wpAny_bind ?_
   have step : ∀ (R : Array Ent × SetTable -> Shared -> Prop) (s1 : Shared), R (ord.filterMap ((SetTable.insertAt es pp (eF prog w kx, Value.ref ax))[·]?), t2) s1 ->
     wpAny (model prog w) A (if ((ord.filterMap ((SetTable.insertAt es pp (eF prog w kx, Value.ref ax))[·]?)).size != (SetTable.insertAt es pp (eF prog w kx, Value.ref ax)).size) = true
      then (do unsupported "internal:set-table-lost-an-element"; pure (ord.filterMap ((SetTable.insertAt es pp (eF prog w kx, Value.ref ax))[·]?), t2)) else pure (ord.filterMap ((SetTable.insertAt es pp (eF prog w kx, Value.ref ax))[·]?), t2)) R E s1 := fun R s1 hR => by
    rw [if_neg (by rw [r3]; simp)]
    exact wpAny_pure hR
   refine step _ _ ?_
   refine wpAny_storeSet_of (s := { s with heap := s.heap.update a (Obj.putSet (SetTable.insertAt es pp (eF prog w kx, Value.ref ax)) t1) }) g1 rfl ?_ (by rw [r3, hsz1, sizeLine_eq]; omega)
   have ents2 : (ord.filterMap ((SetTable.insertAt es pp (eF prog w kx, Value.ref ax))[·]?)).toList = (ord.toList.filterMap ((L.take pp ++ (kx, ax) :: L.drop pp)[·]?)).map (ent prog w) := by
    rw [Array.toList_filterMap, List.map_filterMap]
    refine jk fun i _ => ?_
    rw [<- Array.getElem?_toList, ents1, List.getElem?_map]
   have perm2 : (ord.toList.filterMap ((L.take pp ++ (kx, ax) :: L.drop pp)[·]?)).Perm ((kx, ax) :: L) := by
    refine (r2.filterMap _).trans ?_
    have e1 : (SetTable.insertAt es pp (eF prog w kx, Value.ref ax)).size = (L.take pp ++ (kx, ax) :: L.drop pp).length := by
     rw [<- Array.length_toList, ents1, List.length_map]
    rw [e1, List.filterMap_getElem?_range_length]
    exact perm1
   refine wpAny_pure (h _ _ _ _ _ _ _ ⟨sB g1 rfl, k.ex, rfl, r4, by rw [r6, p4]; exact k.pln, by rw [r5, p3]; exact k.led, ents2, ndP _ perm2⟩ (sb1.trans (Heap.SameBut.update _ a _)) (.inr ⟨hmem, perm2⟩))
  ·simp only [hful, Bool.and_false, Bool.false_eq_true, if_false]
   refine wpAny_pure ?_
   refine h _ _ _ _ _ _ _ ⟨g1, k.ex, rfl, ⟨p1, ?_⟩, by rw [p4]; exact k.pln, by rw [p3]; exact k.led, ents1, ndP _ perm1⟩ sb1 (.inr ⟨hmem, perm1⟩)
   unfold SetTable.tooFull SetTable.fill at hful
   rw [p1.siz, p1.dum] at hful
   have hful' : ¬ (SetTable.insertAt es pp (eF prog w kx, Value.ref ax)).size * 5 ≥ t1.mask * 3 := by simpa using hful
   exact Nat.lt_of_not_ge hful'
end
end S4
end
section
namespace S4
open PySem PySem.Spec PyProof.Rows
theorem rq {prog : Program} {w : World} {h h' : Heap} {k : List Int} {a : Addr} (x : IsTupleKey (intKind prog w) h k a) (e : ∀ o, h.get? a = some o -> h'.get? a = some o) : IsTupleKey (intKind prog w) h' k a :=
 let ⟨o, its, n, ho, r⟩ := x
 ⟨o, its, n, e o ho, r⟩
theorem SetAt.at {prog : Program} {w : World} {h h' : Heap} {a : Addr} {o : Obj} {es : Array Ent} {ep : Nat} {t : SetTable} {L : List KA} (k : SetAt prog w h a o es ep t L) (e : ∀ o, h.get? a = some o -> h'.get? a = some o) : SetAt prog w h' a o es ep t L :=
 { k with get := e o k.get }
structure Folded (kv L : List KA) : Prop where
 nd : (L.map (·.1)).Nodup
 mem : ∀ k, k ∈ L.map (·.1) ↔ k ∈ kv.map (·.1)
 sub : ∀ p ∈ L, p ∈ kv
 len : L.length <= kv.length
theorem Folded.nil : Folded [] [] := ⟨.nil, fun _ => .rfl, fun _ h => h, Nat.le_refl _⟩
theorem Folded.add {kv L L' : List KA} {p : KA} (f : Folded kv L) (h : Bu L p L') : Folded (kv ++ [p]) L' := by
 rcases h with ⟨h1, rfl⟩ | ⟨h1, h2⟩
 ·refine ⟨f.nd, fun k => ?_, fun q hq => List.mem_append_left _ (f.sub q hq), by have := f.len; simp; omega⟩
  rw [f.mem, List.map_append, List.mem_append]
  refine ⟨.inl, fun z => z.elim id fun z => ?_⟩
  have : k = p.1 := by simpa using z
  rw [this]; exact (f.mem _).mp h1
 ·have hm := h2.map (fun q : KA => q.1)
  refine ⟨(List.Perm.nodup_iff hm).mpr (List.nodup_cons.mpr ⟨h1, f.nd⟩), fun k => ?_, fun q hq => ?_, by have := f.len; rw [h2.length_eq]; simp; omega⟩
  ·rw [hm.mem_iff, List.map_cons, List.mem_cons, f.mem, List.map_append, List.mem_append]
   constructor
   ·rintro (rfl | z)
    ·exact .inr (by simp)
    ·exact .inl z
   ·rintro (z | z)
    ·exact .inr z
    ·exact .inl (by simpa using z)
  ·rcases List.mem_cons.mp (h2.mem_iff.mp hq) with rfl | z
   ·exact List.mem_append_right _ (List.mem_singleton.mpr rfl)
   ·exact List.mem_append_left _ (f.sub q z)
section
variable {prog : Program} {w : World} {A : Around} {R : Result -> Shared -> Prop} {I : Addr} {fp wr : List Addr} {G : Array GenState -> Array GenState -> Prop} {n : Nat} {P : Nat -> Value -> Prop} {St : Nat -> Shared -> Prop}
theorem xy (W : WalksS prog w A.in1 I fp wr G n P St) {S : Addr} (hSf : S ∉ fp) (kv : Nat -> KA) (hval : ∀ i v, P i v -> v = .ref (kv i).2) (hn : n <= 18) (hu : A.in1.units < cLine) (hkw : ∀ i, i < n -> (kv i).2 ∉ S :: wr) :
  ∀ (c i : Nat) (s : Shared), n - i = c -> i <= n -> St i s -> (∀ j, j < n -> IsTupleKey (intKind prog w) s.heap (kv j).1 (kv j).2) -> ∀ o es ep t L, SetAt prog w s.heap S o es ep t L -> Folded ((List.range i).map kv) L ->
   (∀ s', Moved (S :: wr) G s s' -> ∀ o es ep t L, SetAt prog w s'.heap S o es ep t L -> Folded ((List.range n).map kv) L -> R (.ok (.ret .none)) s') ->
   codeAny (model prog w) A (.builtin "set.update.loop" ⟨[.ref S, .ref I], []⟩) R s := by
 have hSw : S ∉ wr := fun h => hSf (W.sub _ h)
 have hsub : ∀ b ∈ wr, b ∈ S :: wr := fun b hb => List.mem_cons_of_mem _ hb
 intro c
 induction c with
 | zero =>
  intro i s hc hi hst hk o es ep t L hS hF hR
  obtain rfl : i = n := by omega
  refine codeAny_builtin F.entry_set_update_loop ?_
  rw [Around.under_plainId F.plain_set_update_loop _]
  show wpAny _ A.in1 (pyNext (.ref I) >>= _) _ _ s
  refine wpAny_bind (W.done s _ _ hst fun s' hm => ?_)
  show wpAny _ A.in1 (ret Value.none) _ _ s'
  exact wpAny_pure (hR s' (hm.mono hsub) o es ep t L (hS.at fun o' e => hm.heap S o' hSw e) hF)
 | succ c ih =>
  intro i s hc hi hst hk o es ep t L hS hF hR
  have hlt : i < n := by omega
  refine codeAny_builtin F.entry_set_update_loop ?_
  rw [Around.under_plainId F.plain_set_update_loop _]
  show wpAny _ A.in1 (pyNext (.ref I) >>= _) _ _ s
  refine wpAny_bind (W.item i s _ _ hlt hst fun v s' hP hst' hm => ?_)
  cases hval i v hP
  have hS' := hS.at (h' := s'.heap) fun o' e => hm.heap S o' hSw e
  have hk' : ∀ j, j < n -> IsTupleKey (intKind prog w) s'.heap (kv j).1 (kv j).2 := fun j hj => rq (hk j hj) fun o' e => hm.heap _ o' (fun z => hkw j hj (hsub _ z)) e
  show wpAny _ A.in1 (holding [Value.ref (kv i).2] (setAdd S (.ref (kv i).2)) >>= _) _ _ s'
  refine wpAny_bind (wpAny_holding ?_)
  unfold setAdd
  refine wpAny_holding ?_
  refine wpAny_bind (wpAny_pyHash_tuple hu (hk' i hlt) ?_)
  have hLn : L.length <= i := by have := hF.len; simpa using this
  have hKL : rp prog w s'.heap L := fun p hp => by
   obtain ⟨j, hj, rfl⟩ := List.mem_map.mp (hF.sub p hp)
   exact hk' j (Nat.lt_trans (List.mem_range.mp hj) hlt)
  refine zO (s := { s' with toks := s'.toks + ((kv i).1.length + 1) }) hu hS' hKL (hk' i hlt) (by omega) fun b h' o' es' ep' t' L' hS2 hsb hA => ?_
  have hF' : Folded ((List.range (i + 1)).map kv) L' := by
   rw [List.range_succ, List.map_append]
   exact hF.add hA
  refine wpAny_pure ⟨plainId_quiet F.plain_set_update_loop _, ih (i + 1) _ (by omega) hlt (W.frame _ s' _ _ hst' (Nat.le_add_right _ _) fun b hb o e => ?_) (fun j hj => rq (hk' j hj) fun o e => ?_) _ _ _ _ _ hS2 hF' fun s'' hm'' => ?_⟩
  ·rw [hsb.2 b (fun h : b = S => hSf (by rw [<- h]; exact hb))]; exact e
  ·rw [hsb.2 _ (fun h => hkw j hj (by rw [h]; exact List.mem_cons_self))]; exact e
  ·refine hR s'' (Moved.trans W.gtrans ((hm.mono hsub).then_heap (Nat.le_add_right _ _) fun b o hb e => ?_) hm'')
   rw [hsb.2 b (fun h : b = S => hb (by rw [h]; exact List.mem_cons_self))]; exact e
end
section
variable {prog : Program} {w : World} {A : Around} {E : Value -> Shared -> Prop} {s : Shared}
theorem pI : isSubtype (.type "tuple") (.type "set") = pure false := by rw [isSubtype_type]; kernel_rfl
theorem n6 : isSubtype (.type "tuple") (.type "frozenset") = pure false := by rw [isSubtype_type]; kernel_rfl
def aV (led : Bool) : Obj := { cls := .type "set", dict := none, data := .set #[] 0 (.fresh 0 0 led) }
def bF (w : World) : Bool := !(w.params.followText "set-order")
def Src (h : Heap) (x : Addr) (items : Array Value) : Prop := h.IsList x items \/ h.IsTuple x items
theorem Src.at {h h' : Heap} {x : Addr} {items : Array Value} (r : Src h x items) (e : ∀ o, h.get? x = some o -> h'.get? x = some o) : Src h' x items := by
 rcases r with ⟨o, ho, r⟩ | ⟨o, ho, r⟩
 ·exact .inl ⟨o, e o ho, r⟩
 ·exact .inr ⟨o, e o ho, r⟩
theorem Src.lt {h : Heap} {x : Addr} {items : Array Value} (r : Src h x items) : x < h.objs.size := by
 rcases r with ⟨o, ho, _⟩ | ⟨o, ho, _⟩ <;> exact Heap.lt_size ho
theorem pJ {x : Addr} {items : Array Value} (r : Src s.heap x items) {Q : Value -> Shared -> Prop}
  (h : ∀ (ob : Obj) (St : Nat -> Heap -> Prop), (∀ A' : Around, A'.handled = none -> Walks prog w A' s.heap.objs.size [s.heap.objs.size, x] [s.heap.objs.size] items.size (fun i v => items[i]? = some v) St) -> St 0 (s.heap.push ob) ->
   Q (.ref s.heap.objs.size) { s with heap := s.heap.push ob }) : wpAny (model prog w) A (pyIter (.ref x)) Q E s := by
 have hne : x ≠ s.heap.objs.size := Nat.ne_of_lt r.lt
 rcases r with r | r
 ·refine wpAny_pyIter_list r (h _ _ (fun A' hh => Walks.list hh s.heap.objs.size x hne items) ⟨⟨_, Heap.get?_push_size _ rfl, rfl, rfl⟩, r.push _⟩)
 ·refine wpAny_pyIter_tuple r (h _ _ (fun A' hh => Walks.tuple hh s.heap.objs.size x hne items) ⟨⟨_, Heap.get?_push_size _ rfl, rfl, rfl⟩, ?_⟩)
  obtain ⟨o, ho, q⟩ := r
  exact ⟨o, Heap.get?_push_of_some _ ho, q⟩
theorem Bv (a : Value) {Q1 : Value -> Shared -> Prop} (h : Q1 (.ref s.heap.objs.size) { s with heap := s.heap.push (aV (bF w)) }) :
  codeAny (model prog w) A (.call (.builtin "set.__new__") ⟨[.type "set", a], []⟩) (wants Q1 E) s := by
 refine codeAny_of_tree ?_
 show wpAny _ A.in1 (do checkBuiltinCall "set.__new__" ⟨[.type "set", a], []⟩; again (.builtin "set.__new__" ⟨[.type "set", a], []⟩)) _ _ s
 refine wpAny_bind (wpAny_of_eq (F.newCall_set_1 a) (wpAny_pure ⟨plainId_quiet F.plain_set_new _, codeAny_builtin F.entry_set_new ?_⟩))
 rw [Around.under_plainId F.plain_set_new _]
 unfold Builtin.«set.__new__» Builtin.Frozenset.newClass
 have hsub := sub_set_self
 obtain ⟨hp, g, d, tk, os⟩ := s
 dsimp only
 wp_walk
 refine wpAny_askSetting (wpAny_pure ?_)
 dsimp only
 simp only [newObj]
 exact wpAny_bind (wpAny_alloc (wpAny_pure (wpAny_pure h)))
theorem pK {x : Addr} {items : Array Value} (r : Src s.heap x items) : ∃ T, s.TypeIs (.ref x) T /\ isSubtype (.type T) (.type "set") = pure false /\ isSubtype (.type T) (.type "frozenset") = pure false /\ (Value.type T == Value.type "dict") = false := by
 rcases r with ⟨o, ho, hc, _⟩ | ⟨o, ho, hc, _⟩
 ·exact ⟨"list", ⟨o, ho, hc⟩, F.sub_list_set, F.sub_list_frozenset, by decide⟩
 ·exact ⟨"tuple", ⟨o, ho, hc⟩, pI, n6, by decide⟩
set_option maxHeartbeats 8000000 in
theorem zQ {x : Addr} {items : Array Value} (hh : A.handled = none) (hu : A.in1.in1.in1.units < cLine) (r : Src s.heap x items) (kv : Nat -> KA) (hval : ∀ (i : Nat) (v : Value), items[i]? = some v -> v = .ref (kv i).2) (hn : items.size <= 18)
  (hk : ∀ j, j < items.size -> IsTupleKey (intKind prog w) s.heap (kv j).1 (kv j).2) {Q : Value -> Shared -> Prop}
  (h : ∀ (h' : Heap) (tk : Nat) o es ep t L, SetAt prog w h' s.heap.objs.size o es ep t L -> Folded ((List.range items.size).map kv) L -> (∀ b o, b < s.heap.objs.size -> s.heap.get? b = some o -> h'.get? b = some o) ->
   Q (.ref s.heap.objs.size) { s with heap := h', toks := tk }) : wpAny (model prog w) A (call (.type "set") [.ref x]) Q E s := by
 obtain ⟨c, tl, hmro⟩ := F.called_set.mro
 have hmade := F.called_set.made
 have hsub := F.called_set.sub
 refine wpAny_call (codeAny_of_tree ?_)
 show wpAny _ _ (callAny (.type "set") _) _ _ _
 refine wpAny_pure ⟨Code.quiet_builtin _ (by decide +kernel), codeAny_builtin F.entry_type_call ?_⟩
 rw [Around.under_plain (weight_type_call_type "set" [.ref x] []) rfl]
 have h1 := F.called_set.notType
 have h2 := F.called_set.canCreate
 have hct := F.typeCall_set_1 (.ref x)
 repeat (any_goals (first | assumption | wp_step))
 refine codeAny_mono (Bv (.ref x) (E := E) (Q1 := fun obj s1 => obj = .ref s.heap.objs.size /\ s1 = { s with heap := s.heap.push (aV (bF w)) }) ⟨rfl, rfl⟩) fun rr s1 hr => ?_
 cases rr with
 | error e => exact hr
 | ok fl =>
  cases fl with
  | ret obj =>
   obtain ⟨rfl, rfl⟩ := hr
   have hS : (s.heap.push (aV (bF w))).get? s.heap.objs.size = some (aV (bF w)) := Heap.get?_push_size _ rfl
   have hT : Shared.TypeIs { s with heap := s.heap.push (aV (bF w)) } (.ref s.heap.objs.size) "set" := ⟨_, hS, rfl⟩
   have hli := F.called_set.init.lookup
   have hbi := F.called_set.init.bind (.ref s.heap.objs.size)
   repeat (any_goals (first | assumption | wp_step))
   refine codeAny_mono (codeAny_call_builtin (R := wants (fun r s2 => r = .none /\ Q (.ref s.heap.objs.size) s2) E) F.called_set.init.plain F.entry_set_init (check_set_init_1 hT ?_)) fun r2 s2 hr2 => ?_
   ·have r1 : Src (s.heap.push (aV (bF w))) x items := r.at fun o e => Heap.get?_push_of_some _ e
    obtain ⟨Tx, hTx, hs1, hs2, hd⟩ := pK (s := { s with heap := s.heap.push (aV (bF w)) }) r1
    unfold Builtin.«set.__init__» noKeywords Builtin.Frozenset.updateFrom
    generalize hPI : pyIter = PI
    have hTs := hT
    unfold aV at hS
    wp_walk
    subst hPI
    refine pJ (s := { s with heap := s.heap.push (aV (bF w)) }) r1 fun ob St W hst => ?_
    refine wpAny_bind (wpAny_runValue ?_)
    have hxS : x < s.heap.objs.size := r.lt
    have hsz : (s.heap.push (aV (bF w))).objs.size = s.heap.objs.size + 1 := Heap.size_push _ _
    have hSf : s.heap.objs.size ∉ [(s.heap.push (aV (bF w))).objs.size, x] := by
     rw [hsz]
     simp only [List.mem_cons, List.not_mem_nil, or_false, not_or]
     exact ⟨Nat.ne_of_lt (Nat.lt_succ_self _), Nat.ne_of_gt hxS⟩
    have hh3 : A.in1.in1.in1.handled = none := by simp [hh]
    have up : ∀ b o, s.heap.get? b = some o -> ((s.heap.push (aV (bF w))).push ob).get? b = some o := fun b o e => Heap.get?_push_of_some _ (Heap.get?_push_of_some _ e)
    have hklt : ∀ j, j < items.size -> (kv j).2 < s.heap.objs.size := fun j hj => let ⟨_, _, _, e, _⟩ := hk j hj; Heap.lt_size e
    have S0 : SetAt prog w ((s.heap.push (aV (bF w))).push ob) s.heap.objs.size (aV (bF w)) #[] 0 (.fresh 0 0 (bF w)) [] :=
     ⟨Heap.get?_push_of_some _ (Heap.get?_push_size _ rfl), ⟨rfl, rfl, rfl⟩, rfl, vL _, rfl, rfl, rfl, .nil⟩
    refine xy ((W _ hh3).toS) hSf kv hval hn hu (fun j hj => ?_) (items.size - 0) 0 _ rfl (Nat.zero_le _) hst (fun j hj => rq (hk j hj) fun o e => up _ o e) _ _ _ _ _ S0 .nil fun s' hm o es ep t L hS' hF => ?_
    ·rw [hsz]
     have := hklt j hj
     simp only [List.mem_cons, List.not_mem_nil, or_false, not_or]
     exact ⟨Nat.ne_of_lt this, Nat.ne_of_lt (Nat.lt_succ_of_lt this)⟩
    ·obtain ⟨h', g', d', tk', os'⟩ := s'
     have eg : g' = s.gens := hm.gens
     have ed : d' = s.drawn := hm.drawn
     have eo : os' = s.os := hm.os
     subst eg ed eo
     show wpAny _ _ _ _ _ _
     refine wpAny_pure ?_
     show wpAny _ _ (ret Value.none) _ _ _
     refine wpAny_pure ⟨rfl, h h' tk' o es ep t L hS' hF fun b o hb e => ?_⟩
     refine hm.heap b o ?_ (up b o e)
     rw [hsz]
     simp only [List.mem_cons, List.not_mem_nil, or_false, not_or]
     exact ⟨Nat.ne_of_lt hb, Nat.ne_of_lt (Nat.lt_succ_of_lt hb)⟩
   ·cases r2 with
    | error e => exact hr2
    | ok fl2 =>
     cases fl2 with
     | ret rv =>
      obtain ⟨rfl, hq⟩ := hr2
      repeat (any_goals (first | assumption | wp_step))
     | _ => exact hr2.elim
  | _ => exact hr.elim
end
end S4
end
section
namespace S4
open PySem PySem.Spec PyProof.Rows
theorem ll {α : Type} : ∀ {l : List α} {i : Nat} {x : α}, l[i]? = some x -> l.Perm (x :: l.eraseIdx i)
 | [], _, _, h => by simp at h
 | y :: l, 0, x, h => by simp at h; subst h; exact .refl _
 | y :: l, i + 1, x, h => by
  have := ll (l := l) (i := i) (x := x) (by simpa using h)
  rw [List.eraseIdx_cons_succ]
  exact (List.Perm.cons y this).trans (.swap _ _ _)
theorem sC {α : Type} (next : Nat -> Nat) : ∀ (fuel k : Nat) (left : List α) (out : Array α), left.length = fuel -> (pickOrder.go next fuel k left out).toList.Perm (out.toList ++ left)
 | 0, k, left, out, h => by
  have : left = [] := List.length_eq_zero_iff.mp h
  subst this
  unfold pickOrder.go
  simp
 | fuel + 1, k, left, out, h => by
  unfold pickOrder.go
  have hlt : next k % left.length < left.length := Nat.mod_lt _ (by omega)
  have hq : left[next k % left.length]? = some left[next k % left.length] := List.getElem?_eq_getElem hlt
  rw [hq]
  simp only
  refine (sC next fuel (k + 1) _ _ (by rw [List.length_eraseIdx_of_lt hlt]; omega)).trans ?_
  rw [Array.toList_push, List.append_assoc]
  exact List.Perm.append_left _ (ll hq).symm
theorem t5 {α : Type} (next : Nat -> Nat) (xs : Array α) : (pickOrder next xs).toList.Perm xs.toList := by
 have := sC next xs.size 0 xs.toList #[] (by simp)
 simpa [pickOrder] using this
def gj (w : World) (a : Addr) (ep : Nat) (es : Array Ent) : Array Ent := if w.params.followText "set-order" = true then pickOrder (w.params.setOrder a ep) es else es
theorem mT (w : World) (a : Addr) (ep : Nat) (es : Array Ent) : (gj w a ep es).toList.Perm es.toList := by
 unfold gj
 split
 ·exact t5 _ _
 ·exact .refl _
theorem ij (w : World) (a : Addr) (ep : Nat) (es : Array Ent) : (gj w a ep es).size = es.size := by
 have := (mT w a ep es).length_eq
 simpa using this
theorem cb : Slot "set_iterator" "__next__" "set_iterator.__next__" :=
 .of (owner := "set_iterator") (n := "__next__") (by rw [typeLookup_type, builtinLookup_eq_fast]; kernel_rfl) (by decide +kernel) (by decide +kernel) (by decide +kernel)
  (by first | exact .inl (by decide +kernel) | exact .inr (by decide +kernel)) (by rw [isSubtype_type]; kernel_rfl)
theorem iG : entryFor table "set_iterator.__next__" = some Builtin.«set_iterator.__next__» := entryFor_of_fast (by kernel_rfl)
theorem jl (a : Value) : argsOk "set_iterator.__next__" ⟨[a], []⟩ := by unfold argsOk; kernel_rfl
theorem ln : entryFor table "set.__iter__" = some Builtin.«frozenset.__iter__» :=
 entryFor_alias (id' := "frozenset.__iter__") (by kernel_rfl) rfl (by decide +kernel) (by kernel_rfl)
section
variable {prog : Program} {w : World} {A : Around} {E : Value -> Shared -> Prop} {s : Shared}
def db (w : World) (t : SetTable) (i : Nat) : Nat := if w.params.followText "set-order" = true then 0 else match i with
 | 0 => 0
 | i + 1 => t.place.getD i 0 + 1
def B9 (w : World) (a : Addr) (t : SetTable) (sz ep i : Nat) (tk : Tok) : Array Value := #[.int (db w t i) 0, .int i 0, .ref a, .int sz 0, .int ep 0]
structure IterAt (w : World) (h : Heap) (I a : Addr) (t : SetTable) (sz ep i : Nat) : Prop where
 ex : ∃ o, h.get? I = some o /\ o.cls = .type "set_iterator" /\ o.data = .fields #[.int (db w t i) 0, .int i 0, .ref a, .int sz 0, .int ep 0]
theorem IterAt.typeIs {I a : Addr} {t : SetTable} {sz ep i : Nat} (k : IterAt w s.heap I a t sz ep i) : s.TypeIs (.ref I) "set_iterator" :=
 let ⟨o, ho, hc, _⟩ := k.ex
 ⟨o, ho, hc⟩
theorem sD {a : Addr} {o : Obj} {es : Array Ent} {ep : Nat} {t : SetTable} {L : List KA} (k : SetAt prog w s.heap a o es ep t L) {i : Nat} (hi : i <= es.size) {Q : Option (Value × Nat) -> Shared -> Prop}
  (h : Q (((gj w a ep es)[i]?).map fun e => (e.2, db w t (i + 1))) s) : wpAny (model prog w) A (setNext a (db w t i) i ep) Q E s := by
 unfold setNext
 refine wpAny_bind (wpAny_setState_of k.get k.dat k.fits ?_)
 simp only
 unfold setsByText
 refine wpAny_bind (wpAny_bind (wpAny_askSetting (wpAny_pure ?_)))
 show wpAny _ _ (if (w.params.followText "set-order") = true then _ else _) _ _ s
 by_cases hw : w.params.followText "set-order" = true
 ·rw [if_pos hw]
  simp only [bne_self_eq_false, Bool.false_eq_true, if_false]
  unfold setWalk
  refine wpAny_bind (wpAny_bind (wpAny_setState_of k.get k.dat k.fits ?_))
  simp only
  unfold setsByText
  refine wpAny_bind (wpAny_bind (wpAny_askSetting (wpAny_pure ?_)))
  show wpAny _ _ (if (w.params.followText "set-order") = true then _ else _) _ _ s
  rw [if_pos hw]
  refine wpAny_bind (wpAny_askSetting (wpAny_pure ?_))
  refine wpAny_pure ?_
  have e1 : gj w a ep es = pickOrder (w.params.setOrder a ep) es := by unfold gj; rw [if_pos hw]
  have e2 : ∀ j, db w t j = 0 := fun j => by unfold db; rw [if_pos hw]
  rw [e1, e2] at h
  rw [e2]
  exact h
 ·rw [if_neg hw]
  have hdr : (!t.plain && decide (es.size > 1)) = false := by rw [k.pln]; rfl
  have hl : t.led = true := by rw [k.led]; simpa using hw
  have e1 : gj w a ep es = es := by unfold gj; rw [if_neg hw]
  have e2 : ∀ j, db w t j = match j with | 0 => 0 | j + 1 => t.place.getD j 0 + 1 := fun j => by unfold db; rw [if_neg hw]
  have hb : SetTable.below t.place (db w t i) = i := by
   obtain ⟨b1, b2, b3⟩ := lf k.ok.ris (db w t i)
   cases i with
   | zero =>
    rw [e2] at b1 b2 b3 ⊢
    simp only at b1 b2 b3 ⊢
    rcases Nat.eq_zero_or_pos (SetTable.below t.place 0) with z | z
    ·exact z
    ·have hlt : 0 < t.place.size := by omega
     have := b2 0 _ z (Array.getElem?_eq_getElem hlt)
     omega
   | succ i =>
    have hip : i < t.place.size := by rw [k.ok.siz]; omega
    have hg : t.place.getD i 0 = t.place[i] := by simp [Array.getD, hip]
    rw [e2] at b1 b2 b3 ⊢
    simp only [hg] at b1 b2 b3 ⊢
    have hq := Array.getElem?_eq_getElem hip
    rcases Nat.lt_trichotomy (SetTable.below t.place (t.place[i] + 1)) (i + 1) with l | l | l
    ·have := b3 i _ (by omega) hq
     omega
    ·exact l
    ·have hlt : i + 1 < t.place.size := by omega
     have q1 := b2 (i + 1) _ l (Array.getElem?_eq_getElem hlt)
     have q2 := k.ok.ris i (i + 1) _ _ (by omega) hq (Array.getElem?_eq_getElem hlt)
     omega
  generalize hu : PySem.unsupported = U
  show wpAny _ _ (if (!t.plain && decide (es.size > 1)) = true then _ else _) _ _ s
  rw [hdr]
  simp only [Bool.false_eq_true, if_false]
  have hm : ∀ R : Unit -> Shared -> Prop, R () s -> wpAny (model prog w) A (if (!t.led && !es.isEmpty) = true then unsupported "set:maker-not-led" else pure ()) R E s := fun R hR => by
   rw [hl]
   simp only [Bool.not_true, Bool.false_and, Bool.false_eq_true, if_false]
   exact wpAny_pure hR
  refine wpAny_bind (hm _ ?_)
  refine wpAny_pure ?_
  rw [hb]
  rw [e1, e2] at h
  simp only at h
  by_cases hlt : i < es.size
  ·have hp : i < t.place.size := by rw [k.ok.siz]; exact hlt
   have hg : t.place.getD i 0 = t.place[i] := by simp [Array.getD, hp]
   rw [Array.getElem?_eq_getElem hlt, hg] at h
   rw [Array.getElem?_eq_getElem hlt, Array.getElem?_eq_getElem hp]
   exact h
  ·rw [Array.getElem?_eq_none (by omega)] at h
   rw [Array.getElem?_eq_none (by omega)]
   exact h
end
end S4
end
section
namespace S4
open PySem PySem.Spec PyProof.Rows
theorem vS {α β : Type} {f : α -> β} {l l' : List β} (h : l.Perm l') : ∀ L : List α, l' = L.map f -> ∃ L' : List α, L'.Perm L /\ l = L'.map f := by
 induction h with
 | nil => intro L e; exact ⟨[], by rw [List.map_eq_nil_iff.mp e.symm], rfl⟩
 | cons x _ ih =>
  intro L e
  cases L with
  | nil => cases e
  | cons y L =>
   rw [List.map_cons] at e
   injection e with e1 e2
   obtain ⟨L', p, q⟩ := ih L e2
   exact ⟨y :: L', p.cons y, by rw [q, e1]; rfl⟩
 | swap x y l =>
  intro L e
  match L, e with
  | [], e => cases e
  | [_], e => rw [List.map_cons] at e; injection e with _ e; cases e
  | a :: b :: L, e =>
   rw [List.map_cons, List.map_cons] at e
   injection e with e1 e2
   injection e2 with e2 e3
   exact ⟨b :: a :: L, .swap _ _ _, by rw [e1, e2, e3]; rfl⟩
 | trans _ _ ih1 ih2 =>
  intro L e
  obtain ⟨L1, p1, q1⟩ := ih2 L e
  obtain ⟨L2, p2, q2⟩ := ih1 L1 q1
  exact ⟨L2, p2.trans p1, q2⟩
section
variable {prog : Program} {w : World} {A : Around} {E : Value -> Shared -> Prop} {s : Shared}
theorem mU {h : Heap} {I : Addr} {o : Obj} {fs : Array Value} {g : Array Value -> Array Value} (ho : h.get? I = some o) (hd : o.data = .fields fs) :
  ∃ o', (h.update I (Obj.mapFields g)).get? I = some o' /\ o'.cls = o.cls /\ o'.data = .fields (g fs) :=
 ⟨_, Heap.get?_update_self _ ho (Obj.isFreed_of_fields (Obj.data_mapFields hd _)), Obj.cls_mapFields .., Obj.data_mapFields hd _⟩
theorem next_item {I a : Addr} {o : Obj} {es : Array Ent} {ep : Nat} {t : SetTable} {L : List KA} {i : Nat} {e : Ent} {Q : Option Value -> Shared -> Prop} (k : SetAt prog w s.heap a o es ep t L) (hit : IterAt w s.heap I a t es.size ep i) (hne : I ≠ a)
  (he : (gj w a ep es)[i]? = some e) (hQ : ∀ h', IterAt w h' I a t es.size ep (i + 1) -> Heap.SameBut I s.heap h' -> Q (some e.2) { s with heap := h' }) : wpAny (model prog w) A (pyNext (.ref I)) Q E s := by
 obtain ⟨oi, ho, hc, hd⟩ := hit.ex
 have hlt : i < es.size := by rw [<- ij w a ep es]; exact (Array.getElem?_eq_some_iff.mp he).1
 unfold pyNext
 refine wpAny_bind (wpAny_attempt (wpAny_callSpecial?_slot (name := Str.ofString "__next__") hit.typeIs cb
  (wpAny_call_entry cb hit.typeIs iG ?_ (jl _))))
 unfold Builtin.«set_iterator.__next__»
 refine wpAny_bind (m := slotArgs "__next__" 0 _) (wpAny_pure ?_)
 refine wpAny_bind (wpAny_fieldsOf ho hd ?_)
 simp only
 refine wpAny_bind (wpAny_setEntries_of k.get k.dat k.fits ?_)
 rw [if_neg (by simp)]
 refine wpAny_bind ?_
 rw [Int.toNat_natCast, Int.toNat_natCast, Int.toNat_natCast]
 refine sD k (Nat.le_of_lt hlt) ?_
 rw [he]
 simp only [Option.map_some]
 refine wpAny_bind (wpAny_setField ho hd (by simp) ?_)
 obtain ⟨o1, g1, c1, d1⟩ := mU (g := fun fs => fs.set! 0 (rawInt (db w t (i + 1) : Nat))) ho hd
 refine wpAny_bind (wpAny_setField (o := o1) (s := { s with heap := _ }) g1 d1 (by simp) (wpAny_pure ⟨e.2, rfl, wpAny_pure (hQ _ ?_ ((Heap.SameBut.update ..).trans (Heap.SameBut.update ..)))⟩))
 obtain ⟨o2, g2, c2, d2⟩ := mU (g := fun fs => fs.set! 1 (rawInt ((i : Int) + 1))) g1 d1
 refine ⟨o2, g2, by rw [c2, c1]; exact hc, ?_⟩
 rw [d2]
 simp [rawInt]
theorem next_end {I a : Addr} {o : Obj} {es : Array Ent} {ep : Nat} {t : SetTable} {L : List KA} {Q : Option Value -> Shared -> Prop} (hh : A.handled = none) (k : SetAt prog w s.heap a o es ep t L) (hit : IterAt w s.heap I a t es.size ep es.size)
  (hQ : ∀ h', Heap.ExtBut I s.heap h' -> Q none { s with heap := h' }) : wpAny (model prog w) A (pyNext (.ref I)) Q E s := by
 obtain ⟨oi, ho, hc, hd⟩ := hit.ex
 unfold pyNext
 refine wpAny_bind (wpAny_attempt (wpAny_callSpecial?_slot (name := Str.ofString "__next__") hit.typeIs cb
  (wpAny_call_entry cb hit.typeIs iG ?_ (jl _))))
 unfold Builtin.«set_iterator.__next__»
 refine wpAny_bind (m := slotArgs "__next__" 0 _) (wpAny_pure ?_)
 refine wpAny_bind (wpAny_fieldsOf ho hd ?_)
 simp only
 refine wpAny_bind (wpAny_setEntries_of k.get k.dat k.fits ?_)
 rw [if_neg (by simp)]
 refine wpAny_bind ?_
 rw [Int.toNat_natCast, Int.toNat_natCast, Int.toNat_natCast]
 refine sD k (Nat.le_refl _) ?_
 rw [Array.getElem?_eq_none (by rw [ij]; exact Nat.le_refl _)]
 simp only [Option.map_none]
 refine wpAny_bind (wpAny_setField ho hd (by simp) ?_)
 show wpAny _ _ (newExc (.type "StopIteration") [] >>= _) _ _ _
 refine wpAny_bind ?_
 simp only [newExc, newTuple]
 refine wpAny_bind (wpAny_newObj_type ?_ (by size_fits))
 refine wpAny_bind (m := firstArgMember _ _) (wpAny_of_eq (a := Value.none) (by first | rfl | (simp only [firstArgMember]; rfl)) ?_)
 refine wpAny_newObj_type ?_ (by size_fits)
 simp only [raiseNew]
 refine wpAny_bind (wpAny_handled ?_)
 first | rw [show A.in1.handled = none from hh] | rw [hh]
 refine wpAny_bind (wpAny_pure (wpAny_throw ?_))
 refine wpAny_bind (wpAny_isInstance (T := "StopIteration") (b := true) ⟨_, Heap.get?_push_size _ rfl, rfl⟩ isSubtype_stop ?_)
 exact wpAny_pure (hQ _ (((Heap.SameBut.update ..).extBut.push _).push _))
theorem IterAt.at {h h' : Heap} {I a : Addr} {t : SetTable} {sz ep i : Nat} (k : IterAt w h I a t sz ep i) (e : ∀ o, h.get? I = some o -> h'.get? I = some o) : IterAt w h' I a t sz ep i :=
 let ⟨o, ho, r⟩ := k.ex
 ⟨⟨o, e o ho, r⟩⟩
theorem jm : Slot "set_iterator" "__iter__" "set_iterator.__iter__" :=
 .of (owner := "set_iterator") (n := "__iter__") (by rw [typeLookup_type, builtinLookup_eq_fast]; kernel_rfl) (by decide +kernel) (by decide +kernel) (by decide +kernel)
  (by first | exact .inl (by decide +kernel) | exact .inr (by decide +kernel)) (by rw [isSubtype_type]; kernel_rfl)
theorem l8 : entryFor table "set_iterator.__iter__" = some Builtin.«dict_keyiterator.__iter__» :=
 entryFor_alias (id' := "dict_keyiterator.__iter__") (by kernel_rfl) rfl (by decide +kernel) (by kernel_rfl)
theorem n8 (a : Value) : argsOk "set_iterator.__iter__" ⟨[a], []⟩ := by unfold argsOk; kernel_rfl
theorem vT {a : Addr} {o : Obj} {es : Array Ent} {ep : Nat} {t : SetTable} {L : List KA} {Q : Value -> Shared -> Prop} (k : SetAt prog w s.heap a o es ep t L)
  (hQ : ∀ ob, IterAt w (s.heap.push ob) s.heap.objs.size a t es.size ep 0 -> Q (.ref s.heap.objs.size) { s with heap := s.heap.push ob }) : wpAny (model prog w) A (pyIter (.ref a)) Q E s := by
 have hT : s.TypeIs (.ref a) "set" := ⟨o, k.get, k.ex.1⟩
 refine wpAny_pyIter_slot hT F.slot_set_iter (wpAny_call_entry F.slot_set_iter hT ln ?_ (F.args_set_iter_1 _))
 unfold Builtin.«frozenset.__iter__» Builtin.Frozenset.slot0
 refine wpAny_bind (wpAny_bind (m := slotArgs "__iter__" 0 _) (wpAny_pure ?_))
 refine wpAny_pure ?_
 unfold Builtin.Frozenset.sizeOf
 refine wpAny_bind (wpAny_bind (wpAny_setEntries_of k.get k.dat k.fits (wpAny_pure ?_)))
 unfold setDrawn
 refine wpAny_bind (wpAny_bind (wpAny_setState_of k.get k.dat k.fits ?_))
 simp only
 unfold setsByText
 refine wpAny_bind (wpAny_bind (wpAny_askSetting (wpAny_pure ?_)))
 refine wpAny_pure ?_
 have hdr : (!(w.params.followText "set-order") && (!t.plain && decide (es.size > 1))) = false := by rw [k.pln]; simp
 have hgo : ∀ (X Y : Sem Fin) (R : Fin -> Shared -> Prop), wpAny (model prog w) A.in1 Y R E s -> wpAny (model prog w) A.in1 (if (!(w.params.followText "set-order") && (!t.plain && decide (es.size > 1))) = true then X else Y) R E s := fun X Y R hR => by
  rw [hdr]
  simp only [Bool.false_eq_true, if_false]
  exact hR
 refine hgo _ _ _ ?_
 refine wpAny_bind (wpAny_pure ?_)
 refine wpAny_bind (wpAny_setEpoch_of k.get k.dat k.fits ?_)
 refine wpAny_bind (wpAny_newObj_type (wpAny_pure ⟨_, rfl, "set_iterator", _, ⟨_, Heap.get?_push_size _ rfl, rfl⟩, cb.lookup, hQ _ ⟨⟨_, Heap.get?_push_size _ rfl, rfl, ?_⟩⟩⟩))
 have e0 : db w t 0 = 0 := by
  unfold db
  split <;> rfl
 rw [e0]
 rfl
theorem t6 {I a : Addr} {o : Obj} {es : Array Ent} {ep : Nat} {t : SetTable} {L : List KA} (hh : A.handled = none) (hne : I ≠ a) : Walks prog w A I [I, a] [I] es.size (fun i v => ∃ e, (gj w a ep es)[i]? = some e /\ v = e.2)
  (fun i h => SetAt prog w h a o es ep t L /\ IterAt w h I a t es.size ep i) where
 sub := fun b hb => by simp at hb; simp [hb]
 frame := fun i h h' st hk => ⟨st.1.at fun o' e => hk a (by simp) o' e, st.2.at fun o' e => hk I (by simp) o' e⟩
 item := fun i s Q E hi st hQ => by
  have hlt : i < (gj w a ep es).size := by rw [ij]; exact hi
  have he := Array.getElem?_eq_getElem hlt
  exact next_item st.1 st.2 hne he fun h' hit' hs' => hQ _ h' s.toks ⟨_, he, rfl⟩ ⟨st.1.at fun o' e => hs'.extBut a o' (Ne.symm hne) e, hit'⟩ fun b o' hb e => hs'.extBut b o' (fun z => hb (by simp [z])) e
 done := fun s Q E st hQ => next_end hh st.1 st.2 fun h' he' => hQ h' s.toks fun b o' hb e => he' b o' (fun z => hb (by simp [z])) e
 self := fun i s Q E st hQ => by
  refine wpAny_pyIter_slot st.2.typeIs jm (wpAny_call_entry jm st.2.typeIs l8 ?_ (n8 _))
  show wpAny _ _ (ret (.ref I)) _ _ s
  exact wpAny_pure ⟨_, rfl, "set_iterator", _, st.2.typeIs, cb.lookup, hQ⟩
theorem pL {a : Addr} {o : Obj} {es : Array Ent} {ep : Nat} {t : SetTable} {L : List KA} {Q : List Value -> Shared -> Prop} (hh : A.handled = none) (k : SetAt prog w s.heap a o es ep t L) (hsz : es.size <= 18)
  (hQ : ∀ (h' : Heap) (tk : Nat) (L' : List KA), L'.Perm L -> (∀ b o, s.heap.get? b = some o -> h'.get? b = some o) -> Q (L'.map fun p => Value.ref p.2) { s with heap := h', toks := tk }) :
  wpAny (model prog w) A (collect (.ref a)) Q E s := by
 have hlt : a < s.heap.objs.size := Heap.lt_size k.get
 unfold collect
 refine wpAny_bind (wpAny_runValue (codeAny_builtin F.entry_proto_collect ?_))
 rw [Around.under_plainId F.plain_proto_collect _]
 show wpAny _ A.in1 (newList [] >>= fun l => again (.builtin "list.__iadd__" ⟨[l, .ref a], []⟩)) _ _ s
 refine wpAny_bind (wpAny_newObj_type ?_)
 refine wpAny_pure ⟨plainId_quiet F.plain_list_iadd _, codeAny_builtin F.entry_list_iadd ?_⟩
 rw [Around.under_plainId F.plain_list_iadd _]
 have k1 : SetAt prog w (s.heap.push { cls := .type "list", data := .seq ([] : List Value).toArray }) a o es ep t L := k.at fun o' e => Heap.get?_push_of_some _ e
 have hS1 : (s.heap.push { cls := .type "list", data := .seq ([] : List Value).toArray }).get? s.heap.objs.size = some { cls := .type "list", data := .seq ([] : List Value).toArray } := Heap.get?_push_size _ rfl
 have hT : Shared.TypeIs { s with heap := s.heap.push { cls := .type "list", data := .seq ([] : List Value).toArray } } (.ref a) "set" := ⟨o, k1.get, k1.ex.1⟩
 have hsame : Builtin.List.listSameRef (.ref s.heap.objs.size) (.ref a) = false := by simp [Builtin.List.listSameRef, Nat.ne_of_gt hlt]
 show wpAny _ A.in1 (Builtin.List.listExtendWith (.ref s.heap.objs.size) (.ref a) (.ref s.heap.objs.size)) _ _ _
 unfold Builtin.List.listExtendWith
 refine wpAny_bind (wpAny_typeOf hT ?_)
 rw [if_neg (by rw [hsame]; decide)]
 refine wpAny_bind (vT (s := { s with heap := s.heap.push { cls := .type "list", data := .seq ([] : List Value).toArray } }) k1 fun ob hit => ?_)
 refine wpAny_bind (wpAny_holding ?_)
 have hT2 : Shared.TypeIs { s with heap := (s.heap.push { cls := .type "list", data := .seq ([] : List Value).toArray }).push ob } (.ref a) "set" := ⟨o, Heap.get?_push_of_some _ k1.get, k1.ex.1⟩
 unfold Builtin.List.listLengthHint
 refine wpAny_bind (wpAny_specialOf hT2 F.slot_set_len.lookup ?_)
 generalize dN : ("set.__len__" : String) = id0
 wp_delta
 rw [show splitId id0 = some ("set", "__len__") from by subst dN; decide +kernel]
 subst dN
 refine wpAny_bind (wpAny_isInstance (b := true) hT2 sub_set_self ?_)
 rw [if_neg (by decide)]
 rw [if_pos (by decide +kernel)]
 refine wpAny_bind (wpAny_typeOf hT2 ?_)
 refine wpAny_pure ?_
 rw [if_pos (by decide +kernel)]
 refine wpAny_bind (wpAny_rule ?_)
 generalize hg : (s.heap.push { cls := .type "list", data := .seq ([] : List Value).toArray }).objs.size = I at hit
 have hI : I = s.heap.objs.size + 1 := by rw [<- hg]; exact Heap.size_push _ _
 have hIa : I ≠ a := by rw [hI]; exact Nat.ne_of_gt (Nat.lt_succ_of_lt hlt)
 have hID : I ≠ s.heap.objs.size := by rw [hI]; exact Nat.succ_ne_self _
 have hD : s.heap.objs.size ∉ [I, a] := by
  simp only [List.mem_cons, List.not_mem_nil, or_false, not_or]
  exact ⟨Ne.symm hID, Nat.ne_of_gt hlt⟩
 have hS2 : ((s.heap.push { cls := .type "list", data := .seq ([] : List Value).toArray }).push ob).get? s.heap.objs.size = some { cls := .type "list", data := .seq ([] : List Value).toArray } := Heap.get?_push_of_some _ hS1
 refine wpAny_bind ?_
 show wpAny _ A.in1 (updateSeq s.heap.objs.size (·.push .none) >>= fun _ => updateSeq s.heap.objs.size (·.pop)) _ _ _
 refine wpAny_bind (wpAny_updateSeq hS2 rfl ?_)
 have hS3 := Heap.get?_update_self (Obj.mapSeq (·.push Value.none)) hS2 rfl
 refine wpAny_updateSeq hS3 rfl ?_
 have hS4 := Heap.get?_update_self (Obj.mapSeq (·.pop)) hS3 rfl
 have oth : ∀ b o', b ≠ s.heap.objs.size -> ((s.heap.push { cls := .type "list", data := .seq ([] : List Value).toArray }).push ob).get? b = some o' ->
   ((((s.heap.push { cls := .type "list", data := .seq ([] : List Value).toArray }).push ob).update s.heap.objs.size (Obj.mapSeq (·.push Value.none))).update s.heap.objs.size (Obj.mapSeq (·.pop))).get? b = some o' :=
  fun b o' hb e => (Heap.get?_update_other _ _ (Ne.symm hb)).trans ((Heap.get?_update_other _ _ (Ne.symm hb)).trans e)
 have k2 := (k1.at (h' := (s.heap.push { cls := .type "list", data := .seq ([] : List Value).toArray }).push ob) fun o' e => Heap.get?_push_of_some _ e)
 have hh1 : A.in1.handled = none := by simp [hh]
 have W := t6 (prog := prog) (w := w) (A := A.in1) (I := I) (a := a) (o := o) (es := es) (ep := ep) (t := t) (L := L) hh1 hIa
 refine wpAny_pure ⟨plainId_quiet F.plain_extend_loop _, ?_⟩
 refine codeAny_extend_loopS W.toS (by rw [sizeLine_eq]; omega) _ hD _ es.size 0 _ _ _ rfl (Nat.zero_le _) ⟨k2.at fun o' e => oth a o' (Nat.ne_of_lt hlt) e, hit.at fun o' e => oth I o' hID e⟩ hS4 (ItemsOf.nil _) fun s' acc c' hm hS' hacc => ?_
 show wpAny _ A (load s.heap.objs.size >>= _) _ _ s'
 refine wpAny_bind (wpAny_load hS' ?_)
 refine wpAny_pure ?_
 obtain ⟨h', g', d', tk', os'⟩ := s'
 have eg : g' = s.gens := hm.gens
 have ed : d' = s.drawn := hm.drawn
 have eo : os' = s.os := hm.os
 subst eg ed eo
 obtain ⟨L', p1, p2⟩ := vS (mT w a ep es) L k.ents
 have he : acc.toList = L'.map fun p => Value.ref p.2 := by
  have e1 : acc.toList = (gj w a ep es).toList.map (·.2) := by
   refine List.ext_getElem? fun i => ?_
   rw [Array.getElem?_toList, List.getElem?_map, Array.getElem?_toList]
   by_cases hi : i < acc.size
   ·obtain ⟨e, e1, e2⟩ := hacc.2 i _ (Array.getElem?_eq_getElem hi)
    rw [Array.getElem?_eq_getElem hi, e2, e1]; rfl
   ·rw [Array.getElem?_eq_none (by omega), Array.getElem?_eq_none (by rw [ij, <- hacc.1]; omega)]; rfl
  rw [e1, p2, List.map_map]
  rfl
 rw [he]
 refine hQ h' tk' L' p1 fun b o' e => hm.heap b o' ?_ (oth b o' (Nat.ne_of_lt (Heap.lt_size e)) (Heap.get?_push_of_some _ (Heap.get?_push_of_some _ e)))
 simp only [List.mem_cons, List.not_mem_nil, or_false, not_or]
 exact ⟨Nat.ne_of_lt (Heap.lt_size e), by rw [hI]; exact Nat.ne_of_lt (Nat.lt_succ_of_lt (Heap.lt_size e))⟩
end
end S4
end
section
namespace S4
open PySem PySem.Spec PySem.W PyProof.Rows L2 S3
section
variable {prog : Program} {w : World} {A : Around} {E : Value -> Shared -> Prop} {s : Shared}
theorem rz {a : Addr} {vs : List Value} {n : Nat} {P : PySem.Fin -> Shared -> Prop} (ho : s.heap.get? a = some (seqObj "list" vs.toArray n)) (h2 : vs.length < 2)
  (h : ∀ h' c, h'.get? a = some (seqObj "list" vs.toArray c) -> (∀ b o, b ≠ a -> s.heap.get? b = some o -> h'.get? b = some o) -> P (.done (.ret .none)) { s with heap := h' }) :
  wpAny (model prog w) A (Builtin.«list.sort» ⟨[.ref a], []⟩) P E s := by
 have ha : a < s.heap.objs.size := Heap.lt_size ho
 obtain ⟨e1, ho1⟩ : ∃ e1, (s.heap.update a (Obj.mapSeq fun _ => (#[] : Array Value))).get? a = some (seqObj "list" #[] e1) := ⟨_, get?_update_seq ho fun _ => #[]⟩
 have ho3 : (((s.heap.update a (Obj.mapSeq fun _ => (#[] : Array Value))).push (seqObj "tuple" vs.toArray 0)).push (seqObj "list" #[] 0)).get? a = some (seqObj "list" #[] e1) := Heap.get?_push_of_some _ (Heap.get?_push_of_some _ ho1)
 rw [list_sort_plain]
 refine wpAny_bind (listItems_at ho rfl ?_)
 refine wpAny_bind (listUpdate_at ho rfl ?_ (by rw [List.size_toArray, sizeLine_eq]; omega) (Nat.zero_le _))
 refine wpAny_bind (seqEpoch_at ho1 rfl ?_)
 refine wpAny_bind (wpAny_newTuple ?_ (by show vs.length <= _; rw [sizeLine_eq]; omega))
 refine wpAny_bind (wpAny_newList ?_ (Nat.zero_le _))
 refine wpAny_holding ?_
 show wpAny (model prog w) A _ P E { s with heap := ((s.heap.update a (Obj.mapSeq fun _ => (#[] : Array Value))).push (seqObj "tuple" vs.toArray 0)).push (seqObj "list" #[] 0) }
 dsimp only
 have hn2 : vs.toArray.size < 2 := by rw [List.size_toArray]; omega
 rw [if_pos hn2, if_pos hn2]
 refine wpAny_bind (wpAny_pure ?_)
 rw [StateT.run_pure]
 refine wpAny_bind (wpAny_pure ?_)
 dsimp only
 refine wpAny_bind (seqEpoch_at ho3 rfl ?_)
 have hz : (arrOf (SortSt.mk' general' (vs.toArray.zip vs.toArray) #[] 7 none)).map (·.2) = vs.toArray := by
  show (vs.toArray.zip vs.toArray).map (·.2) = vs.toArray
  rw [Array.map_snd_zip (Nat.le_refl _)]
 rw [hz]
 refine wpAny_bind (listUpdate_at ho3 rfl ?_ (Nat.zero_le _) (by rw [List.size_toArray, sizeLine_eq]; omega))
 obtain ⟨c2, hc2⟩ : ∃ c2, ((((s.heap.update a (Obj.mapSeq fun _ => (#[] : Array Value))).push (seqObj "tuple" vs.toArray 0)).push (seqObj "list" #[] 0)).update a (Obj.mapSeq fun _ => vs.toArray)).get? a = some (seqObj "list" vs.toArray c2) := ⟨_, get?_update_seq ho3 fun _ => vs.toArray⟩
 simp only [bne_self_eq_false, Bool.false_eq_true, if_false]
 refine wpAny_pure (h _ c2 hc2 fun b o hb e => ?_)
 rw [Heap.get?_update_ne _ _ _ _ hb]
 refine Heap.get?_push_of_some _ (Heap.get?_push_of_some _ ?_)
 rw [Heap.get?_update_ne _ _ _ _ hb]
 exact e
end
section
variable {X : Cx}
structure TRow (H : Hp) (vs : List V) (nss : List (List Int)) : Prop where
 len : vs.length = nss.length
 at' : ∀ i, i < vs.length -> ∃ a, vs[i]? = some (.ref a) /\ H a = some (.tup ((nss.getD i []).map V.int))
 same : ∃ c, ∀ i, i < vs.length -> (nss.getD i []).length = c + 1
def fh (nss : List (List Int)) (q : List Nat) : Prop := q.Perm (List.range nss.length) /\ ∀ i j, i <= j -> j < nss.length -> HT.lexLt (nss.getD (q.getD j 0) []) (nss.getD (q.getD i 0) []) = false
theorem gk {pins : List (Addr × Obj)} {σ : L2.St} {H : Hp} {s : Shared} {Q : VK} {arg : Value} (I : L2.Inv X pins σ H s) (Pv : List Value -> Prop)
  (hc : ∀ (R : List Value -> Shared -> Prop) (E' : Value -> Shared -> Prop), (∀ vs h1 tk, Pv vs -> (∀ b o, s.heap.get? b = some o -> h1.get? b = some o) -> R vs { s with heap := h1, toks := tk }) -> wpAny (model X.prog X.w) X.A.in1 (collect arg) R E' s)
  (hv : ∀ us, Pv us -> ∃ (vs : List V) (nss : List (List Int)), aI vs us /\ TRow H vs nss /\ vs.length < 64 /\ ∀ q, fh nss q -> ∀ l, H l = none -> Q (.ref l) (upd H l (.lst (q.map fun i => vs.getD i .non)))) :
  wpAny (model X.prog X.w) X.A (call (.builtin "sorted") [arg]) (EP X pins σ Q) X.xe s := by
 refine Calls.call_function_entry kind_sorted plain_sorted entry_sorted (args_sorted1 _) ?_
 unfold Builtin.«sorted»
 refine wpAny_bind (m := checkCount "sorted" 1 1 _) (wpAny_pure ?_)
 refine wpAny_bind (hc _ _ fun its h1 tk hP keep => ?_)
 obtain ⟨vs, nss, rv, T0, h64, q⟩ := hv its hP
 have hli := rv.length
 have I1 : L2.Inv X pins σ H { s with heap := h1, toks := tk } := I.kept keep
 obtain ⟨m, F⟩ := I1.fr
 refine wpAny_bind (wpAny_newList ?_ (by rw [sizeLine_eq]; omega))
 have hoL : (h1.push (seqObj "list" its.toArray 0)).get? h1.objs.size = some (seqObj "list" its.toArray 0) := Heap.get?_push_size _ rfl
 have up : ∀ b o, h1.get? b = some o -> (h1.push (seqObj "list" its.toArray 0)).get? b = some o := fun b o e => Heap.get?_push_of_some _ e
 have nd : h1.get? h1.objs.size = none := Heap.get?_none_of_le (Nat.le_refl _)
 have hL : X.env.locals < h1.objs.size := F.ns.lt
 have hH : H h1.objs.size = none := I1.hok.fresh (Nat.le_refl _)
 have at' : ∀ i, i < its.length -> ∃ a, its[i]? = some (.ref a) /\ its.getD i Value.none = .ref a /\ H a = some (.tup ((nss.getD i []).map V.int)) := fun i hi => by
  obtain ⟨a, e1, e2⟩ := T0.at' i (by omega)
  obtain ⟨u, hu, ru⟩ := rv.get e1
  cases (show u = Value.ref a from ru)
  exact ⟨a, hu, by rw [List.getD_eq_getElem?_getD, hu]; rfl, e2⟩
 have rv2 : ∀ l : List Nat, (∀ x ∈ l, x < its.length) -> aI (l.map fun i => vs.getD i .non) (l.map fun i => its.getD i Value.none) := by
  intro l
  induction l with
  | nil => intro _; exact .nil
  | cons x l ih =>
   intro hx
   refine .cons ?_ (ih fun y hy => hx y (List.mem_cons_of_mem _ hy))
   have hxl : x < vs.length := by have := hx x List.mem_cons_self; omega
   obtain ⟨u, hu, ru⟩ := rv.get (List.getElem?_eq_getElem hxl)
   show L2.RelV (vs.getD x .non) (its.getD x Value.none)
   rw [List.getD_eq_getElem?_getD, List.getD_eq_getElem?_getD, hu, List.getElem?_eq_getElem hxl]
   exact ru
 show wpAny _ _ _ _ _ { s with heap := h1.push (seqObj "list" its.toArray 0), toks := tk }
 refine wpAny_bind (wpAny_holding (wpAny_call_entry slot_list_sort ⟨_, hoL, rfl⟩ entry_list_sort ?body (args_list_sort _)))
 case body =>
  by_cases h2 : its.length < 2
  ·refine rz (s := { s with heap := h1.push (seqObj "list" its.toArray 0), toks := tk }) hoL h2 fun h' c g1 g2 => ?_
   refine ⟨_, rfl, wpAny_pure ⟨_, rfl, ?_⟩⟩
   have I2 : L2.Inv X pins σ (upd H h1.objs.size (.lst vs)) { s with heap := h', toks := tk } := I1.laid (fun b o e => g2 b o (Nat.ne_of_lt (Heap.lt_size e)) (up b o e)) (Nat.le_refl _) ⟨by rw [sizeLine_eq]; omega, its, c, rv, g1⟩
   refine ⟨.ref h1.objs.size, _, I2, rfl, ?_⟩
   have := q (List.range nss.length) ⟨.refl _, fun i j hij hj => ?_⟩ _ hH
   ·have e : (List.range nss.length).map (fun i => vs.getD i .non) = vs := by
     refine List.ext_getElem? fun i => ?_
     rw [List.getElem?_map, <- T0.len]
     by_cases hi : i < vs.length
     ·rw [List.getElem?_range hi, List.getElem?_eq_getElem hi]
      simp [List.getD_eq_getElem?_getD, hi]
     ·rw [List.getElem?_eq_none (by simpa using hi), List.getElem?_eq_none (by omega)]; rfl
    rw [e] at this; exact this
   ·have : i = j := by have := T0.len; omega
    subst this
    exact kA _
  ·obtain ⟨c, hcs⟩ := T0.same
   refine kat_list_sort (s := { s with heap := h1.push (seqObj "list" its.toArray 0), toks := tk }) (F.kept up) (News.grown (kD (g := X.base) (h := h1) (L := X.env.locals)) up) hoL (Nat.ne_of_gt hL) (Heap.get?_none_of_le (Nat.le_trans F.above (Nat.le_of_lt hL)))
    (fun p hp => Nat.ne_of_lt (Heap.lt_size (kD p hp).1)) (by omega) (by omega) fun e1 h' F' N' => ?_
   have keepB : ∀ h2 : Heap, Fr X.base X.env.locals h2 m -> News X.base X.env.locals h2 (iY X.base h1 X.env.locals) -> ∀ b o, b ≠ X.env.locals -> h1.get? b = some o -> h2.get? b = some o := fun h2 F2 N2 b o hb e => by
    cases z : X.base.get? b with
    | some o' =>
     have := I1.bk b o' z
     rw [show h1.get? b = some o' from this] at e; cases e
     exact F2.keep b _ z
    | none => exact (N2 (b, o) (oU hb z e)).1
   have kp := keepB h' F' fun z hz' => N' z (List.mem_cons_of_mem _ hz')
   have T : Tups h1 its nss c := ⟨by have := T0.len; omega, fun i hi => by
    obtain ⟨a, _, e1, e2⟩ := at' i hi
    obtain ⟨_, ws, rw', o, ho, hc', n, hd⟩ := (show aW X.prog X.w H h1 a (.tup ((nss.getD i []).map V.int)) from I1.hok a _ e2)
    refine ⟨a, o, ws.toArray, n, e1, ho, hc', hd, by simpa using intsAre_of rw', ?_⟩
    rw [List.size_toArray, <- rw'.length, List.length_map, hcs i (by omega)]⟩
   have T' : Tups h' its nss c := T.keep fun i a o hi ea ho => by
    obtain ⟨a', _, e1, e2⟩ := at' i hi
    rw [ea] at e1; cases e1
    refine kp a o (fun z => ?_) ho
    rw [z, I1.free] at e2; cases e2
   obtain ⟨fs, k1, k2, k3⟩ := k9 (h := h') (vs := its) fun v hv => by
    obtain ⟨i, hi, ei⟩ := List.mem_iff_getElem.mp hv
    obtain ⟨a, o, us, n, f1, f2, f3, f4, f5, f6⟩ := T'.get i hi
    have ev : v = .ref a := by
     rw [List.getD_eq_getElem?_getD, List.getElem?_eq_getElem hi, ei] at f1; exact f1
    generalize nss.getD i [] = ns at f5
    cases hus : us.toList with
    | nil =>
     have : us.size = 0 := by rw [<- Array.length_toList, hus]; rfl
     omega
    | cons x r' =>
     rw [hus] at f5
     cases f5 with
     | cons n' t' _ => exact ⟨a, o, us, n, n', t', ev, f2, f3, f4, by rw [<- Array.getElem?_toList, hus]; rfl⟩
   refine kat_kind k1 (by omega) (T := .type "int") (fun v hv => by obtain ⟨i, t, rfl⟩ := k3 v hv; exact Looks.of_pure rfl) rfl ?_
   refine vh (n := its.length) (R := In its.length) (b := fun i j => HT.lexLt (nss.getD i []) (nss.getD j [])) (fun i j C hi hj hC => T'.ask hi hj hC) (oY (by omega)) ?_
   obtain ⟨s1, s2⟩ := xc (n := its.length) (b := fun i j => HT.lexLt (nss.getD i []) (nss.getD j [])) (by omega) (fun i _ => kA _) (fun i j k _ _ _ => rg) (fun i j k _ _ _ => n0)
   generalize aN (fun i j => HT.lexLt (nss.getD i []) (nss.getD j [])) (kas_sort its.length) = pp at s1 s2
   have hperm : pp.toList.Perm (List.range its.length) := by simpa using Array.Perm.toList s1
   refine KasFin.intro F' N' (.head fun z hz' => Nat.ne_of_lt (Heap.lt_size (kD z hz').1)) fun h'' c' F'' N'' => ?_
   have kp2 := keepB h'' F'' fun z hz' => N'' z (List.mem_cons_of_mem _ hz')
   obtain ⟨g1, g2, g3⟩ := N'' _ List.mem_cons_self
   have hin : ∀ x ∈ pp.toList, x < its.length := fun x hx => List.mem_range.mp (hperm.mem_iff.mp hx)
   have hsz : (pp.toList.map fun i => vs.getD i .non).length <= sizeLine := by
    rw [List.length_map, hperm.length_eq, List.length_range, sizeLine_eq]; omega
   have I2 := rh I1 F F'' kp2 nd g1 (rv2 pp.toList hin) hsz
   refine ⟨_, rfl, wpAny_pure ⟨_, rfl, .ref h1.objs.size, _, I2, rfl, q pp.toList ⟨by rw [<- T0.len, hli]; exact hperm, fun i j hij hj => ?_⟩ _ hH⟩⟩
   have := s2 i j hij (by have := T0.len; omega)
   rw [Array.getD_eq_getD_getElem?, Array.getD_eq_getD_getElem?] at this
   rw [List.getD_eq_getElem?_getD (l := pp.toList), List.getD_eq_getElem?_getD (l := pp.toList), Array.getElem?_toList, Array.getElem?_toList]
   exact this
end
end S4
end
section
namespace S3
open PySem PySem.Spec PySem.W PyProof.Rows L2 S4
def tupI (ns : List Int) : D := .tup (ns.map D.int)
def rowsOf : List D -> Option (List (List Int))
 | [] => some []
 | .tup ds :: r => match intsOf ds, rowsOf r with
  | some ns, some nss => some (ns :: nss)
  | _, _ => none
 | _ => none
theorem oa : ∀ {a b : List Int}, HT.lexLt a b = false -> HT.lexLt b a = false -> a = b
 | [], [], _, _ => rfl
 | [], _ :: _, h, _ => by cases h
 | _ :: _, [], _, h => by cases h
 | x :: a, y :: b, h1, h2 => by
  rw [HT.lexLt_cons] at h1 h2
  by_cases e : x = y
  ·subst e
   rw [if_pos rfl] at h1 h2
   rw [oa h1 h2]
  ·rw [if_neg e] at h1
   rw [if_neg (Ne.symm e)] at h2
   have := of_decide_eq_false h1
   have := of_decide_eq_false h2
   omega
abbrev wM (a b : List Int) : Prop := HT.lexLt b a = false
def rA (x : List Int) : List (List Int) -> List (List Int)
 | [] => [x]
 | y :: r => if HT.lexLt y x = true then y :: rA x r else x :: y :: r
def gJ : List (List Int) -> List (List Int)
 | [] => []
 | x :: r => rA x (gJ r)
theorem jO (x : List Int) : ∀ l, (rA x l).Perm (x :: l)
 | [] => .refl _
 | y :: r => by
  unfold rA
  split
  ·exact ((jO x r).cons y).trans (.swap _ _ _)
  ·exact .refl _
theorem bW : ∀ l, (gJ l).Perm l
 | [] => .refl _
 | x :: r => (jO x _).trans ((bW r).cons x)
theorem t7 {a b c : List Int} (h1 : wM a b) (h2 : wM b c) : wM a c := by
 cases q : HT.lexLt c a with
 | false => exact q
 | true =>
  rcases n0 (b := b) q with z | z
  ·rw [show HT.lexLt c b = false from h2] at z; cases z
  ·rw [show HT.lexLt b a = false from h1] at z; cases z
theorem pM {a b : List Int} (h : HT.lexLt a b = true) : HT.lexLt b a = false := by
 cases q : HT.lexLt b a with
 | false => rfl
 | true =>
  have := rg h q
  rw [kA] at this; cases this
theorem kf (x : List Int) : ∀ {l : List (List Int)}, l.Pairwise wM -> (rA x l).Pairwise wM
 | [], _ => by simp [rA]
 | y :: r, h => by
  obtain ⟨h1, h2⟩ := List.pairwise_cons.mp h
  unfold rA
  split
  ·next c =>
   refine List.pairwise_cons.mpr ⟨fun z hz => ?_, kf x h2⟩
   rcases List.mem_cons.mp ((jO x r).mem_iff.mp hz) with rfl | hz
   ·exact pM c
   ·exact h1 z hz
  ·next c =>
   have c' : wM x y := Bool.eq_false_iff.mpr c
   refine List.pairwise_cons.mpr ⟨fun z hz => ?_, h⟩
   rcases List.mem_cons.mp hz with rfl | hz
   ·exact c'
   ·exact t7 c' (h1 z hz)
theorem ce : ∀ l, (gJ l).Pairwise wM
 | [] => .nil
 | x :: r => kf x (ce r)
theorem jP {l l' : List (List Int)} (h : l.Perm l') (h1 : l.Pairwise wM) (h2 : l'.Pairwise wM) : l = l' :=
 List.Perm.eq_of_pairwise (le := wM) (fun a b _ _ x y => oa y x) h1 h2 h
theorem lp {nss : List (List Int)} {q : List Nat} (h : fh nss q) : q.map (fun i => nss.getD i []) = gJ nss := by
 have hlen : q.length = nss.length := by simpa using h.1.length_eq
 have e : (List.range nss.length).map (fun i => nss.getD i []) = nss := by
  refine List.ext_getElem? fun i => ?_
  rw [List.getElem?_map]
  by_cases hi : i < nss.length
  ·rw [List.getElem?_range hi, List.getElem?_eq_getElem hi]
   simp [List.getD_eq_getElem?_getD, hi]
  ·rw [List.getElem?_eq_none (by simpa using hi), List.getElem?_eq_none (by omega)]; rfl
 have hp : (q.map (fun i => nss.getD i [])).Perm nss := by
  have := h.1.map (fun i => nss.getD i [])
  rw [e] at this; exact this
 refine jP (hp.trans (bW nss).symm) ?_ (ce _)
 rw [List.pairwise_iff_getElem]
 intro i j hi hj hij
 rw [List.length_map] at hi hj
 rw [List.getElem_map, List.getElem_map]
 have := h.2 i j (Nat.le_of_lt hij) (by omega)
 rw [List.getD_eq_getElem?_getD (l := q), List.getD_eq_getElem?_getD (l := q), List.getElem?_eq_getElem hi, List.getElem?_eq_getElem hj] at this
 exact this
def de : List (List Int) -> List (List Int)
 | [] => []
 | x :: r => if x ∈ de r then de r else x :: de r
theorem fi {y : List Int} : ∀ {l : List (List Int)}, y ∈ de l ↔ y ∈ l
 | [] => .rfl
 | x :: r => by
  unfold de
  split
  ·next h =>
   rw [fi, List.mem_cons]
   refine ⟨.inr, fun z => z.elim (fun z => ?_) id⟩
   rw [z]; exact fi.mp h
  ·rw [List.mem_cons, List.mem_cons, fi]
theorem jo : ∀ l : List (List Int), (de l).Nodup
 | [] => .nil
 | x :: r => by
  unfold de
  split
  ·exact jo r
  ·next h => exact List.nodup_cons.mpr ⟨h, jo r⟩
def gl (l : List (List Int)) : List (List Int) := gJ (de l)
theorem vU {kv L : List KA} (f : Folded kv L) : gJ (L.map (·.1)) = gl (kv.map (·.1)) := by
 unfold gl
 have hp : (L.map (·.1)).Perm (de (kv.map (·.1))) := (List.perm_ext_iff_of_nodup f.nd (jo _)).mpr fun a => by rw [f.mem, fi]
 exact jP ((bW _).trans (hp.trans (bW _).symm)) (ce _) (ce _)
theorem _root_.S4.Folded.perm {kv L L' : List KA} (f : Folded kv L) (h : L'.Perm L) : Folded kv L' :=
 ⟨(List.Perm.nodup_iff (h.map (fun p : KA => p.1))).mpr f.nd, fun k => by rw [(h.map (fun p : KA => p.1)).mem_iff]; exact f.mem k, fun p hp => f.sub p (h.mem_iff.mp hp), by rw [h.length_eq]; exact f.len⟩
section
variable {K : PySem.W.Frag} {ι : List Addr} {H : Hp}
theorem lq : ∀ {ds : List D} {vs : List V} {nss : List (List Int)}, RelDs K ι H ds vs -> rowsOf ds = some nss -> vs.length = nss.length /\ ∀ i, i < vs.length -> ∃ a, vs[i]? = some (.ref a) /\ H a = some (.tup ((nss.getD i []).map V.int))
 | [], vs, nss, h, e => by
  cases e
  rw [h.nil_inv]
  exact ⟨rfl, fun i hi => absurd hi (Nat.not_lt_zero _)⟩
 | .tup ds :: r, vs, nss, h, e => by
  obtain ⟨v, ws, rfl, r1, r2⟩ := h.cons_inv
  unfold rowsOf at e
  cases q : intsOf ds with
  | none => rw [q] at e; cases e
  | some ns =>
   rw [q] at e
   cases q2 : rowsOf r with
   | none => rw [q2] at e; cases e
   | some nss' =>
    rw [q2] at e
    cases e
    obtain ⟨h1, h2⟩ := lq r2 q2
    obtain ⟨a, us, rfl, g1, g2⟩ := r1.tup_inv
    refine ⟨by simp [h1], fun i hi => ?_⟩
    cases i with
    | zero =>
     refine ⟨a, rfl, ?_⟩
     rw [cG g2 q] at g1
     simpa using g1
    | succ i =>
     obtain ⟨a', e1, e2⟩ := h2 i (by simpa using hi)
     exact ⟨a', by simpa using e1, by simpa using e2⟩
 | .non :: _, _, _, _, e => by cases e
 | .bl _ :: _, _, _, _, e => by cases e
 | .int _ :: _, _, _, _, e => by cases e
 | .str _ :: _, _, _, _, e => by cases e
 | .lst _ :: _, _, _, _, e => by cases e
 | .ro _ :: _, _, _, _, e => by cases e
 | .emp :: _, _, _, _, e => by cases e
theorem mW : ∀ ns : List Int, RelDs K ι H (ns.map D.int) (ns.map V.int)
 | [] => .nil
 | n :: r => .cons (.int n) (mW r)
theorem lr {vs : List V} {nss : List (List Int)} (h : ∀ i, i < vs.length -> ∃ a, vs[i]? = some (.ref a) /\ H a = some (.tup ((nss.getD i []).map V.int))) :
  ∀ q : List Nat, (∀ i ∈ q, i < vs.length) -> RelDs K ι H ((q.map fun i => nss.getD i []).map tupI) (q.map fun i => vs.getD i .non)
 | [], _ => .nil
 | i :: q, hq => by
  obtain ⟨a, e1, e2⟩ := h i (hq i List.mem_cons_self)
  refine .cons ?_ (lr h q fun j hj => hq j (List.mem_cons_of_mem _ hj))
  show RelD K ι H (tupI (nss.getD i [])) (vs.getD i .non)
  have e3 : vs.getD i .non = .ref a := by rw [List.getD_eq_getElem?_getD, e1]; rfl
  rw [e3]
  exact .tup e2 (mW _)
end
end S3
end
section
namespace S3
open PySem PySem.Spec PySem.W PyProof.Rows L2 S4
section
variable {X : Cx} {E : XD} {e : Expr} {m : TM} {pos : Pos}
theorem l9 : bD X (.builtin "sorted") (fun xs H Q => ∃ (p : Addr) (vs : List V) (nss : List (List Int)), xs = [.ref p] /\ fE X.K H p vs /\ TRow H vs nss /\ vs.length < 64 /\
  ∀ q, fh nss q -> ∀ l, H l = none -> Q (.ref l) (upd H l (.lst (q.map fun i => vs.getD i .non)))) := by
 intro pins s σ H xs us Q I r h
 obtain ⟨p, vs, nss, rfl, hp, T, h64, q⟩ := h
 obtain ⟨u, rfl, rx⟩ := vals1 r
 cases (show u = Value.ref p from rx)
 obtain ⟨its, rv, pl, hz⟩ := I.list hp
 have hli := rv.length
 refine gk I (fun us => us = its) (fun R E' hR => ?_) fun us hu => ⟨vs, nss, by rw [hu]; exact rv, T, h64, q⟩
 refine collect_list pl.isList (hR its _ _ rfl fun b o e => ?_) (by rw [sizeLine_eq]; omega)
 have hlt : b < s.heap.objs.size := Heap.lt_size e
 rw [Heap.get?_update_ne _ _ _ _ (Nat.ne_of_lt hlt)]
 exact Heap.get?_push_of_some _ e
def kl (P : Program) (w : World) (a : Addr) (kv : List KA) : Heap -> Prop := fun h => ∃ o es ep t L, SetAt P w h a o es ep t L /\ Folded kv L
def iN (vs : List V) (nss : List (List Int)) : List KA := (List.range vs.length).map fun i => (nss.getD i [], match vs.getD i .non with | .ref a => a | _ => 0)
theorem zR {P : Program} {w : World} {H : Hp} {h : Heap} (ok : dJ P w H h) {a : Addr} {ns : List Int} (e : H a = some (.tup (ns.map V.int))) : IsTupleKey (intKind P w) h ns a := by
 obtain ⟨_, ws, rw', o, ho, hc, n, hd⟩ := (show aW P w H h a (.tup (ns.map V.int)) from ok a _ e)
 refine ⟨o, ws.toArray, n, ho, hc, hd, ?_⟩
 have hI := intsAre_of rw'
 have go : ∀ {ws : List Value} {ns : List Int}, IntsAre ws ns -> ItemsAre (intKind P w) ns ws := by
  intro ws ns h
  induction h with
  | nil => exact .nil
  | cons n t _ ih => exact .cons (intKind_is _ _ _ _) ih
 simpa using go hI
theorem t8 (hc : X.calm = true) (hu : X.A.units + 8 < cLine) : bD X (.type "set") (fun xs H Q => ∃ (p : Addr) (vs : List V) (nss : List (List Int)), xs = [.ref p] /\ (fE X.K H p vs \/ hV X.K H p vs) /\
  (∀ i, i < vs.length -> ∃ a, vs[i]? = some (.ref a) /\ H a = some (.tup ((nss.getD i []).map V.int))) /\ vs.length <= 18 /\ ∀ l, H l = none -> Q (.ref l) (upd H l (.ext (kl X.prog X.w l (iN vs nss))))) := by
 intro pins s σ H xs us Q I r h
 obtain ⟨p, vs, nss, rfl, hp, T, h18, q⟩ := h
 obtain ⟨u, rfl, rx⟩ := vals1 r
 cases (show u = Value.ref p from rx)
 have src : ∃ its, aI vs its /\ Src s.heap p its.toArray := by
  rcases hp with hp | hp
  ·obtain ⟨its, rv, pl, hz⟩ := I.list hp
   exact ⟨its, rv, .inl pl.isList⟩
  ·obtain ⟨its, rv, pl, hz⟩ := I.tuple hp
   exact ⟨its, rv, .inr pl⟩
 obtain ⟨its, rv, hs⟩ := src
 have hli := rv.length
 have hun : ∀ A : Around, A.in1.units <= A.units + 1 := fun A => Nat.le_refl _
 have at' : ∀ i, i < vs.length -> ∃ a, its[i]? = some (.ref a) /\ vs.getD i .non = .ref a /\ H a = some (.tup ((nss.getD i []).map V.int)) := fun i hi => by
  obtain ⟨a, e1, e2⟩ := T i hi
  obtain ⟨u, hu', ru⟩ := rv.get e1
  cases (show u = Value.ref a from ru)
  exact ⟨a, hu', by rw [List.getD_eq_getElem?_getD, e1]; rfl, e2⟩
 have hf : H s.heap.objs.size = none := I.hok.fresh (Nat.le_refl _)
 refine zQ (I.ok.hd hc) (by show X.A.units + 3 < cLine; omega) hs (fun i => (nss.getD i [], match vs.getD i .non with | .ref a => a | _ => 0)) (fun i v hv => ?_) (by rw [List.size_toArray]; omega) (fun j hj => ?_) fun h' tk o es ep t L hS hF kp => ?_
 ·have hi : i < vs.length := by rw [hli]; simpa using (Array.getElem?_eq_some_iff.mp hv).1
  obtain ⟨a, e1, e2, _⟩ := at' i hi
  rw [List.getElem?_toArray, e1] at hv
  cases hv
  simp only [e2]
 ·rw [List.size_toArray] at hj
  obtain ⟨a, e1, e2, e3⟩ := at' j (by omega)
  simp only [e2]
  exact zR I.hok e3
 ·rw [List.size_toArray, <- hli] at hF
  refine ⟨.ref s.heap.objs.size, _, I.laid (o := .ext (kl X.prog X.w s.heap.objs.size (iN vs nss))) (fun b o e => kp b o (Heap.lt_size e) e) (Nat.le_refl _) ⟨⟨o, es, ep, t, L, hS, hF⟩, ⟨o, hS.get⟩, fun h1 h2 ⟨o, es, ep, t, L, a1, a2⟩ k => ⟨o, es, ep, t, L, a1.at k, a2⟩⟩, rfl, q _ hf⟩
theorem og (hc : X.calm = true) : bD X (.builtin "sorted") (fun xs H Q => ∃ (p : Addr) (kv : List KA), xs = [.ref p] /\ H p = some (.ext (kl X.prog X.w p kv)) /\ (∀ k ∈ kv, H k.2 = some (.tup (k.1.map V.int)) /\ k.1.length = 2) /\ kv.length <= 18 /\
  ∀ L q, Folded kv L -> fh (L.map (·.1)) q -> ∀ l, H l = none -> Q (.ref l) (upd H l (.lst (q.map fun i => (L.map fun k => V.ref k.2).getD i .non)))) := by
 intro pins s σ H xs us Q I r h
 obtain ⟨p, kv, rfl, hp, hk, h18, q⟩ := h
 obtain ⟨u, rfl, rx⟩ := vals1 r
 cases (show u = Value.ref p from rx)
 obtain ⟨⟨o, es, ep, t, L, hS, hF⟩, _, _⟩ := (show aW X.prog X.w H s.heap p (.ext (kl X.prog X.w p kv)) from I.hok p _ hp)
 have hLn := hF.len
 have rvL : ∀ l : List KA, aI (l.map fun k => V.ref k.2) (l.map fun k => Value.ref k.2) := by
  intro l
  induction l with
  | nil => exact .nil
  | cons k l ih => exact .cons rfl ih
 refine gk I (fun us => ∃ L' : List KA, L'.Perm L /\ us = L'.map fun k => Value.ref k.2) (fun R E' hR => ?_) ?_
 ·refine pL (by show X.A.handled = none; exact I.ok.hd hc) hS (by rw [hS.len]; omega) fun h' tk L' hp' kp => hR _ _ _ ⟨L', hp', rfl⟩ kp
 ·rintro us ⟨L', hp', rfl⟩
  have hF' := hF.perm hp'
  have hl' := hF'.len
  refine ⟨L'.map fun k => V.ref k.2, L'.map (·.1), rvL L', ⟨by simp, fun i hi => ?_, 1, fun i hi => ?_⟩, by simp; omega, fun qq hq l hl => q L' qq hF' hq l hl⟩
  ·rw [List.length_map] at hi
   refine ⟨L'[i].2, by rw [List.getElem?_map, List.getElem?_eq_getElem hi]; rfl, ?_⟩
   have := (hk _ (hF'.sub _ (List.getElem_mem hi))).1
   rw [List.getD_eq_getElem?_getD, List.getElem?_map, List.getElem?_eq_getElem hi]
   exact this
  ·rw [List.length_map] at hi
   rw [List.getD_eq_getElem?_getD, List.getElem?_map, List.getElem?_eq_getElem hi]
   exact (hk _ (hF'.sub _ (List.getElem_mem hi))).2
def two (nss : List (List Int)) : Bool := nss.all fun ns => ns.length == 2
def pN (nss : List (List Int)) : M D := if nss.length < 64 /\ two nss = true then bJ ((gJ nss).map tupI) else M.fail
def cf : List D -> M D
 | [.lst k] => do
  let xs <- getL k
  match intsOf xs with
  | some ns => if ns.length < 64 then bJ ((sortI ns).map D.int) else M.fail
  | none => match rowsOf xs with
   | some nss => pN nss
   | none => M.fail
 | _ => M.fail
theorem xz {H : Hp} {vs : List V} {nss : List (List Int)} (h : vs.length = nss.length /\ ∀ i, i < vs.length -> ∃ a, vs[i]? = some (.ref a) /\ H a = some (.tup ((nss.getD i []).map V.int))) (h2 : two nss = true) : TRow H vs nss :=
 ⟨h.1, h.2, 1, fun i hi => by
  have hi' : i < nss.length := by rw [<- h.1]; exact hi
  have := List.all_eq_true.mp h2 nss[i] (List.getElem_mem hi')
  rw [List.getD_eq_getElem?_getD, List.getElem?_eq_getElem hi']
  simpa using this⟩
theorem oh : iF X.K E cf (fun xs H Q => (∃ (p : Addr) (ns : List Int), xs = [.ref p] /\ fE X.K H p (ns.map V.int) /\ ns.length < 64 /\ ∀ l, H l = none -> Q (.ref l) (upd H l (.lst ((sortI ns).map V.int)))) \/
  ∃ (p : Addr) (vs : List V) (nss : List (List Int)), xs = [.ref p] /\ fE X.K H p vs /\ TRow H vs nss /\ vs.length < 64 /\ ∀ q, fh nss q -> ∀ l, H l = none -> Q (.ref l) (upd H l (.lst (q.map fun i => vs.getD i .non)))) := by
 intro ι S H ds vs Q rep r c
 unfold cf at c
 split at c
 ·next k =>
  obtain ⟨v, ws, rfl, r1, r2⟩ := r.cons_inv
  cases r2.nil_inv
  obtain ⟨p, rfl, h1⟩ := r1.lst_inv
  obtain ⟨es, us, _, hv, rv, c4⟩ := aU c rep h1
  cases q : intsOf es with
  | some ns =>
   rw [q] at c4
   have c5 : cont X.K E (if ns.length < 64 then bJ ((sortI ns).map D.int) else M.fail) ι S H (ja X.K Q) := c4
   by_cases h : ns.length < 64
   ·rw [if_pos h] at c5
    exact .inl ⟨p, ns, rfl, .of (by rw [<- cG rv q]; exact hv), h, (bq c5 rep (gI _)).2⟩
   ·rw [if_neg h] at c5; exact (af c5).elim
  | none =>
   rw [q] at c4
   cases q2 : rowsOf es with
   | none => rw [q2] at c4; exact (af c4).elim
   | some nss =>
    rw [q2] at c4
    have c5 : cont X.K E (if nss.length < 64 /\ two nss = true then bJ ((gJ nss).map tupI) else M.fail) ι S H (ja X.K Q) := c4
    by_cases h : nss.length < 64 /\ two nss = true
    ·rw [if_pos h] at c5
     obtain ⟨g1, g2⟩ := lq rv q2
     refine .inr ⟨p, us, nss, rfl, .of hv, xz ⟨g1, g2⟩ h.2, by omega, fun qq hq l hl => ?_⟩
     have hin : ∀ i ∈ qq, i < us.length := fun i hi => by rw [g1]; exact List.mem_range.mp (hq.1.mem_iff.mp hi)
     have rr : RelDs X.K ι H ((gJ nss).map tupI) (qq.map fun i => us.getD i .non) := by
      rw [<- lp hq]
      exact lr g2 qq hin
     exact (bq c5 rep rr).2 l hl
    ·rw [if_neg h] at c5; exact (af c5).elim
 ·exact (af c).elim
theorem jQ {p : Pos} (hm : X.mg "sorted" = none) (ha : SE X E e m) (hg : Gl X "sorted" := by rfl) (hs : starEach [e] X.env = [(false, eval e X.env)] := by rfl) : SE X E (.Call (.Name "sorted" p) [e] [] pos) (fun ρ => do let ds <- (do let x <- m ρ; let xs <- pure []; pure (x :: xs)); cf ds) :=
 fc (bD.or nZ l9) oh hg hm (by decide +kernel) (ad ha al hs) (by decide) (by decide) hs rfl
def dD (nss : List (List Int)) : M D := if nss.length <= 18 /\ two nss = true then bJ ((gl nss).map tupI) else M.fail
def jp : List D -> M D
 | [.lst k] => do
  let xs <- getL k
  match rowsOf xs with
  | some nss => dD nss
  | none => M.fail
 | [.tup xs] => match rowsOf xs with
  | some nss => dD nss
  | none => M.fail
 | _ => M.fail
theorem xA {vs : List V} {nss : List (List Int)} (h : vs.length = nss.length) : (iN vs nss).map (·.1) = nss := by
 unfold iN
 rw [List.map_map]
 refine List.ext_getElem? fun i => ?_
 rw [List.getElem?_map, h]
 by_cases hi : i < nss.length
 ·rw [List.getElem?_range hi, List.getElem?_eq_getElem hi]
  simp [List.getD_eq_getElem?_getD, hi]
 ·rw [List.getElem?_eq_none (by simpa using hi), List.getElem?_eq_none (by omega)]; rfl
theorem Bw {K : PySem.W.Frag} {ι : List Addr} {H : Hp} {L : List KA} (h : ∀ k ∈ L, H k.2 = some (.tup (k.1.map V.int))) : ∀ q : List Nat, (∀ i ∈ q, i < L.length) -> RelDs K ι H ((q.map fun i => (L.map (·.1)).getD i []).map tupI) (q.map fun i => (L.map fun k => V.ref k.2).getD i .non) := by
 intro q hq
 refine lr (fun i hi => ?_) q fun i hi => by rw [List.length_map]; exact hq i hi
 rw [List.length_map] at hi
 refine ⟨L[i].2, by rw [List.getElem?_map, List.getElem?_eq_getElem hi]; rfl, ?_⟩
 rw [List.getD_eq_getElem?_getD, List.getElem?_map, List.getElem?_eq_getElem hi]
 exact h _ (List.getElem_mem hi)
theorem oj {p q pos2 : Pos} (hc : X.calm = true) (hu : X.A.units + 8 < cLine) (hm : X.mg "sorted" = none) (hm2 : X.mg "set" = none) (ha : SE X E e m) (hg : Gl X "sorted" := by rfl) (hg2 : Gl X "set" := by rfl) (hs : starEach [e] X.env = [(false, eval e X.env)] := by rfl)
  (hs2 : starEach [.Call (.Name "set" q) [e] [] pos2] X.env = [(false, eval (.Call (.Name "set" q) [e] [] pos2) X.env)] := by rfl) :
  SE X E (.Call (.Name "sorted" p) [.Call (.Name "set" q) [e] [] pos2] [] pos) (fun ρ => do let ds <- (do let x <- m ρ; let xs <- pure []; pure (x :: xs)); jp ds) := by
 refine PE.imp (e8 (og hc) hg hm (by decide +kernel) (b7 (e9 (t8 hc hu) hg2 hm2 (by decide +kernel) (ad ha al hs) (by decide) (by decide) hs rfl) fG hs2) (by decide) (by decide) hs2 rfl) fun σ H Q h => ?_
 obtain ⟨ι, S, ρ, rep, re, c⟩ := h
 refine ⟨ι, S, ρ, rep, re, aj (ag c) fun ds ι1 S1 H1 e1 rep1 c1 vs r => ?_⟩
 have fin : ∀ {xs : List D} {us : List V} {a : Addr} {nss : List (List Int)}, RelDs X.K ι1 H1 xs us -> rowsOf xs = some nss -> (fE X.K H1 a us \/ hV X.K H1 a us) -> cont X.K E (dD nss) ι1 S1 H1 (ja X.K Q) -> vs = [.ref a] ->
   ∃ (p : Addr) (vs' : List V) (nss : List (List Int)), vs = [.ref p] /\ (fE X.K H1 p vs' \/ hV X.K H1 p vs') /\
    (∀ i, i < vs'.length -> ∃ a, vs'[i]? = some (.ref a) /\ H1 a = some (.tup ((nss.getD i []).map V.int))) /\ vs'.length <= 18 /\ ∀ l, H1 l = none ->
     ∃ (p : Addr) (kv : List KA), [V.ref l] = [.ref p] /\ upd H1 l (.ext (kl X.prog X.w l (iN vs' nss))) p = some (.ext (kl X.prog X.w p kv)) /\ (∀ k ∈ kv, upd H1 l (.ext (kl X.prog X.w l (iN vs' nss))) k.2 = some (.tup (k.1.map V.int)) /\ k.1.length = 2) /\ kv.length <= 18 /\
      ∀ L q, Folded kv L -> fh (L.map (·.1)) q -> ∀ l', upd H1 l (.ext (kl X.prog X.w l (iN vs' nss))) l' = none -> Q (.ref l') (upd (upd H1 l (.ext (kl X.prog X.w l (iN vs' nss)))) l' (.lst (q.map fun i => (L.map fun k => V.ref k.2).getD i .non))) := by
  intro xs us a nss rv q2 hsq cc hvs
  unfold dD at cc
  by_cases h : nss.length <= 18 /\ two nss = true
  ·rw [if_pos h] at cc
   obtain ⟨g1, g2⟩ := lq rv q2
   refine ⟨a, us, nss, hvs, hsq, g2, by omega, fun l hl => ⟨l, iN us nss, rfl, aK, fun k hk => ?_, by unfold iN; simp; omega, fun L qq hF hq l' hl' => ?_⟩⟩
   ·unfold iN at hk
    obtain ⟨i, hi, rfl⟩ := List.mem_map.mp hk
    rw [List.mem_range] at hi
    obtain ⟨b, b1, b2⟩ := g2 i hi
    have b3 : us.getD i .non = .ref b := by rw [List.getD_eq_getElem?_getD, b1]; rfl
    simp only [b3]
    refine ⟨by rw [aw (ay b2 hl)]; exact b2, ?_⟩
    have hi' : i < nss.length := by omega
    have := List.all_eq_true.mp h.2 nss[i] (List.getElem_mem hi')
    rw [List.getD_eq_getElem?_getD, List.getElem?_eq_getElem hi']
    simpa using this
   ·have hE : Ext ι1 H1 ι1 (upd H1 l (.ext (kl X.prog X.w l (iN us nss)))) := cR hl
    have rep2 := dL (o := .ext (kl X.prog X.w l (iN us nss))) rep1 hl
    have hin : ∀ i ∈ qq, i < L.length := fun i hi => by
     have := List.mem_range.mp (hq.1.mem_iff.mp hi)
     simpa using this
    have hk : ∀ k ∈ L, upd H1 l (.ext (kl X.prog X.w l (iN us nss))) k.2 = some (.tup (k.1.map V.int)) := fun k hk => by
     have hk' := hF.sub k hk
     unfold iN at hk'
     obtain ⟨i, hi, rfl⟩ := List.mem_map.mp hk'
     rw [List.mem_range] at hi
     obtain ⟨b, b1, b2⟩ := g2 i hi
     have b3 : us.getD i .non = .ref b := by rw [List.getD_eq_getElem?_getD, b1]; rfl
     simp only [b3]
     rw [aw (ay b2 hl)]; exact b2
    have rr := Bw (K := X.K) (ι := ι1) hk qq hin
    rw [lp hq, vU hF, xA g1] at rr
    exact (bq (d4 cc hE) rep2 rr).2 l' hl'
  ·rw [if_neg h] at cc; exact (af cc).elim
 unfold jp at c1
 split at c1
 ·next k =>
  obtain ⟨v, ws, rfl, r1, r2⟩ := r.cons_inv
  cases r2.nil_inv
  obtain ⟨a, rfl, h1⟩ := r1.lst_inv
  obtain ⟨es, us, _, hv, rv, c4⟩ := aU c1 rep1 h1
  cases q2 : rowsOf es with
  | none => rw [q2] at c4; exact (af c4).elim
  | some nss =>
   rw [q2] at c4
   exact fin rv q2 (.inl (.of hv)) c4 rfl
 ·next xs =>
  obtain ⟨v, ws, rfl, r1, r2⟩ := r.cons_inv
  cases r2.nil_inv
  obtain ⟨a, us, rfl, h1, rv⟩ := r1.tup_inv
  cases q2 : rowsOf xs with
  | none => rw [q2] at c1; exact (af c1).elim
  | some nss =>
   rw [q2] at c1
   exact fin rv q2 (.inr (.of h1)) c1 rfl
 ·exact (af c1).elim
end
end S3
end
section
namespace S4
open PySem PySem.Spec PyProof.Rows L2 S3
section
variable {prog : Program} {w : World} {A : Around} {E : Value -> Shared -> Prop} {s : Shared}
theorem iO {it t : Addr} {i : Nat} {items : Array Value} {x : Value} {Q : Value -> Shared -> Prop} (hit : s.heap.IsTupleIter it t i) (ht : s.heap.IsTuple t items) (hx : items[i]? = some x)
  (hQ : ∀ h', h'.IsTupleIter it t (i + 1) -> Heap.SameBut it s.heap h' -> Q x { s with heap := h' }) : wpAny (model prog w) A (Builtin.SmallTypes.nextOf (.ref it)) Q E s := by
 obtain ⟨o, ho, hc, hd⟩ := id hit
 obtain ⟨ol, hol, _, nl, hdl⟩ := ht
 unfold Builtin.SmallTypes.nextOf
 refine wpAny_bind (wpAny_callSpecial?_slot (name := Str.ofString "__next__") hit.typeIs F.slot_tuple_iterator_next
  (wpAny_call_entry F.slot_tuple_iterator_next hit.typeIs F.entry_tuple_iterator_next ?_ (F.args_tuple_iterator_next_1 _)))
 show wpAny _ _ (field (.ref it) 0 >>= _) _ _ s
 refine wpAny_bind (wpAny_field ho hd (x := .ref t) rfl ?_)
 show wpAny _ _ (if (Value.ref t == Value.none) = true then _ else _) _ _ s
 rw [if_neg (show ¬ ((Value.ref t == Value.none) = true) from Bool.false_ne_true)]
 show wpAny _ _ (field (.ref it) 1 >>= _) _ _ s
 refine wpAny_bind (wpAny_field ho hd (x := .int i 0) rfl ?_)
 show wpAny _ _ (seqItems? (.ref t) >>= _) _ _ s
 refine wpAny_bind (wpAny_seqItems hol hdl ?_)
 simp only [Int.toNat_natCast, hx]
 refine wpAny_bind (wpAny_setField ho hd (by simp) (wpAny_pure ⟨x, rfl, wpAny_pure (hQ _ ?_ (Heap.SameBut.update ..))⟩))
 exact ⟨_, Heap.get?_update_self _ ho (Obj.isFreed_of_fields (Obj.data_mapFields hd _)), (Obj.cls_mapFields ..).trans hc, by
  rw [Obj.data_mapFields hd]; simp [rawInt]⟩
theorem mX {it t : Addr} {i : Nat} {items : Array Value} {Q : Value -> Shared -> Prop} (hh : A.handled = none) (hit : s.heap.IsTupleIter it t i) (ht : s.heap.IsTuple t items) (hx : items[i]? = none)
  (hE : ∀ h' e, Heap.ExtBut it s.heap h' -> (∃ o, h'.get? e = some o /\ o.cls = .type "StopIteration") -> E (.ref e) { s with heap := h' }) : wpAny (model prog w) A (Builtin.SmallTypes.nextOf (.ref it)) Q E s := by
 obtain ⟨o, ho, hc, hd⟩ := id hit
 obtain ⟨ol, hol, _, nl, hdl⟩ := ht
 unfold Builtin.SmallTypes.nextOf
 refine wpAny_bind (wpAny_callSpecial?_slot (name := Str.ofString "__next__") hit.typeIs F.slot_tuple_iterator_next
  (wpAny_call_entry F.slot_tuple_iterator_next hit.typeIs F.entry_tuple_iterator_next ?_ (F.args_tuple_iterator_next_1 _)))
 show wpAny _ _ (field (.ref it) 0 >>= _) _ _ s
 refine wpAny_bind (wpAny_field ho hd (x := .ref t) rfl ?_)
 show wpAny _ _ (if (Value.ref t == Value.none) = true then _ else _) _ _ s
 rw [if_neg (show ¬ ((Value.ref t == Value.none) = true) from Bool.false_ne_true)]
 show wpAny _ _ (field (.ref it) 1 >>= _) _ _ s
 refine wpAny_bind (wpAny_field ho hd (x := .int i 0) rfl ?_)
 show wpAny _ _ (seqItems? (.ref t) >>= _) _ _ s
 refine wpAny_bind (wpAny_seqItems hol hdl ?_)
 simp only [Int.toNat_natCast, hx]
 refine wpAny_bind (wpAny_rule (wpAny_bind (wpAny_setField ho hd (by simp) ?_)))
 show wpAny _ _ (newExc (.type "StopIteration") [] >>= _) _ _ _
 refine wpAny_bind ?_
 simp only [newExc, newTuple]
 refine wpAny_bind (wpAny_newObj_type ?_ (by size_fits))
 refine wpAny_bind (m := firstArgMember _ _) (wpAny_of_eq (a := Value.none) (by first | rfl | (simp only [firstArgMember]; rfl)) ?_)
 refine wpAny_newObj_type ?_ (by size_fits)
 simp only [raiseNew]
 refine wpAny_bind (wpAny_handled ?_)
 first | rw [show A.in1.handled = none from hh] | rw [hh]
 refine wpAny_bind (wpAny_pure (wpAny_throw ?_))
 exact hE _ _ (((Heap.SameBut.update ..).extBut.push _).push _) ⟨_, Heap.get?_push_size _ rfl, rfl⟩
theorem t9 {z TI TO i1 i2 l1 l2 : Addr} {k : Nat} {xs ys : Array Value} {x y a b : Value} {Q : Option Value -> Shared -> Prop} (D : ZipApart z TI TO i1 i2 l1 l2)
  (hz : IsZip s.heap z TI TO .none) (hTI : IsPair s.heap TI (.ref i1) (.ref i2)) (hTO : IsPair s.heap TO a b)
  (h1 : s.heap.IsTupleIter i1 l1 k) (h2 : s.heap.IsTupleIter i2 l2 k) (hl1 : s.heap.IsTuple l1 xs) (hl2 : s.heap.IsTuple l2 ys) (hx : xs[k]? = some x) (hy : ys[k]? = some y)
  (hQ : ∀ h', IsZip h' z TI TO (rawInt s.heap.objs.size) -> IsPair h' TO x y -> h'.IsTupleIter i1 l1 (k + 1) -> h'.IsTupleIter i2 l2 (k + 1) -> IsPair h' s.heap.objs.size x y -> h'.objs.size = s.heap.objs.size + 1 ->
   (∀ c o, c ≠ z -> c ≠ TO -> c ≠ i1 -> c ≠ i2 -> s.heap.get? c = some o -> h'.get? c = some o) -> Q (some (.ref s.heap.objs.size)) { s with heap := h' }) : wpAny (model prog w) A (pyNext (.ref z)) Q E s := by
 have hT : s.TypeIs (.ref z) "zip" := ⟨_, hz, rfl⟩
 unfold pyNext
 refine wpAny_bind (wpAny_attempt (wpAny_callSpecial?_slot (name := Str.ofString "__next__") hT F.slot_zip_next (wpAny_call_entry F.slot_zip_next hT F.entry_zip_next ?_ (F.args_zip_next_1 _))))
 show wpAny _ _ (field (.ref z) 2 >>= _) _ _ _
 refine wpAny_bind (wpAny_field hz rfl (x := .bool false) rfl ?_)
 show wpAny _ _ (field (.ref z) 3 >>= _) _ _ _
 refine wpAny_bind (wpAny_field hz rfl (x := .ref TI) rfl ?_)
 refine wpAny_bind (wpAny_seqItems hTI rfl ?_)
 show wpAny _ _ (Builtin.SmallTypes.ownedTupleIsFree (.ref z) >>= _) _ _ _
 refine wpAny_bind ?_
 unfold Builtin.SmallTypes.ownedTupleIsFree
 refine wpAny_bind (wpAny_field hz rfl (x := .none) rfl (wpAny_pure ?_))
 simp only [if_true]
 refine wpAny_bind (wpAny_rule ?_)
 refine wpAny_bind (wpAny_field hz rfl (x := .ref TO) rfl ?_)
 refine wpAny_bind (wpAny_setField_rec hz (by simp) fun g1 hz1 hs1 => ?_)
 replace hz1 : IsZip g1 z TI TO .ellipsis := hz1
 refine wpAny_bind ?_
 simp only [List.zipIdx_cons, List.zipIdx_nil, List.forIn_cons, List.forIn_nil]
 refine wpAny_bind (wpAny_bind (wpAny_onRaise ?_))
 show wpAny _ _ (Builtin.SmallTypes.nextOf (.ref i1) >>= _) _ _ _
 refine wpAny_bind (iO (s := { s with heap := g1 }) (h1.at fun o e => hs1.extBut _ _ D.i1z e) (hl1.extBut hs1.extBut D.l1z) hx fun g2 h12 hs2 => wpAny_pure ?_)
 have hTO2 : IsPair g2 TO a b := hs2.extBut _ _ D.TOi1 (hs1.extBut _ _ D.TOz hTO)
 refine wpAny_bind (wpAny_seqItems hTO2 rfl ?_)
 refine wpAny_bind (wpAny_updateSeq_pair hTO2 fun g3 hTO3 hs3 => ?_)
 replace hTO3 : IsPair g3 TO x b := hTO3
 refine wpAny_bind (wpAny_letGo (wpAny_pure ?_))
 refine wpAny_bind (wpAny_bind (wpAny_onRaise ?_))
 show wpAny _ _ (Builtin.SmallTypes.nextOf (.ref i2) >>= _) _ _ _
 refine wpAny_bind (iO (s := { s with heap := g3 }) (((h2.at fun o e => hs1.extBut _ _ D.i2z e).at fun o e => hs2.extBut _ _ D.i12.symm e).at fun o e => hs3.extBut _ _ D.TOi2.symm e)
  (((hl2.extBut hs1.extBut D.l2z).extBut hs2.extBut D.l2i1).extBut hs3.extBut D.l2TO) hy fun g4 h24 hs4 => wpAny_pure ?_)
 have hTO4 : IsPair g4 TO x b := hs4.extBut _ _ D.TOi2 hTO3
 refine wpAny_bind (wpAny_seqItems hTO4 rfl ?_)
 refine wpAny_bind (wpAny_updateSeq_pair hTO4 fun g5 hTO5 hs5 => ?_)
 replace hTO5 : IsPair g5 TO x y := hTO5
 refine wpAny_bind (wpAny_letGo (wpAny_pure (wpAny_pure ?_)))
 refine wpAny_bind (wpAny_seqItems hTO5 rfl ?_)
 refine wpAny_bind (wpAny_newTuple ?_)
 have hsz : g5.objs.size = s.heap.objs.size := by rw [hs5.1, hs4.1, hs3.1, hs2.1, hs1.1]
 have hz5 : IsZip g5 z TI TO .ellipsis := hs5.extBut _ _ D.TOz.symm (hs4.extBut _ _ D.i2z.symm (hs3.extBut _ _ D.TOz.symm (hs2.extBut _ _ D.i1z.symm hz1)))
 have hk5 : ∀ c o, c ≠ z -> c ≠ TO -> c ≠ i1 -> c ≠ i2 -> s.heap.get? c = some o -> g5.get? c = some o := fun c o c1 c2 c3 c4 e =>
  hs5.extBut _ _ c2 (hs4.extBut _ _ c4 (hs3.extBut _ _ c2 (hs2.extBut _ _ c3 (hs1.extBut _ _ c1 e))))
 have h15 : g5.IsTupleIter i1 l1 (k + 1) := ((h12.at fun o e => hs3.extBut _ _ D.TOi1.symm e).at fun o e => hs4.extBut _ _ D.i12 e).at fun o e => hs5.extBut _ _ D.TOi1.symm e
 have h25 : g5.IsTupleIter i2 l2 (k + 1) := h24.at fun o e => hs5.extBut _ _ D.TOi2.symm e
 have hzlt : z < g5.objs.size := Heap.lt_size hz5
 show wpAny _ _ (Builtin.SmallTypes.ownedTupleHandOut (.ref z) (.ref g5.objs.size) >>= _) _ _ _
 refine wpAny_bind ?_
 unfold Builtin.SmallTypes.ownedTupleHandOut
 have hz6 : IsZip (g5.push { cls := .type "tuple", data := .seq #[x, y] }) z TI TO .ellipsis := Heap.get?_push_of_some _ hz5
 refine wpAny_bind (wpAny_setField_rec hz6 (by simp) fun g7 hz7 hs7 => ?_)
 replace hz7 : IsZip g7 z TI TO (rawInt g5.objs.size) := hz7
 refine wpAny_setField_rec hz7 (by simp) fun g8 hz8 hs8 => ?_
 replace hz8 : IsZip g8 z TI TO (rawInt g5.objs.size) := hz8
 have up : ∀ c o, c ≠ z -> g5.get? c = some o -> g8.get? c = some o := fun c o c1 e => hs8.extBut _ _ c1 (hs7.extBut _ _ c1 (Heap.get?_push_of_some _ e))
 have hT8 : IsPair g8 g5.objs.size x y := hs8.extBut _ _ (Nat.ne_of_gt hzlt) (hs7.extBut _ _ (Nat.ne_of_gt hzlt) (Heap.get?_push_size _ rfl))
 have hz9 : g8.objs.size = g5.objs.size + 1 := by rw [hs8.1, hs7.1, Heap.size_push]
 rw [hsz] at hz8 hT8 hz9
 refine wpAny_pure ⟨_, rfl, ?_⟩
 refine wpAny_pure ?_
 show Q (some (.ref g5.objs.size)) _
 rw [hsz]
 exact hQ g8 hz8 (up _ _ D.TOz hTO5) (h15.at fun o e => up _ o D.i1z e) (h25.at fun o e => up _ o D.i2z e) hT8 hz9 fun c o c1 c2 c3 c4 e => up c o c1 (hk5 c o c1 c2 c3 c4 e)
theorem vV {z TI TO i1 i2 l1 l2 : Addr} {k : Nat} {xs ys : Array Value} {a b : Value} {Q : Option Value -> Shared -> Prop} (hh : A.handled = none) (D : ZipApart z TI TO i1 i2 l1 l2)
  (hz : IsZip s.heap z TI TO .none) (hTI : IsPair s.heap TI (.ref i1) (.ref i2)) (hTO : IsPair s.heap TO a b)
  (h1 : s.heap.IsTupleIter i1 l1 k) (h2 : s.heap.IsTupleIter i2 l2 k) (hl1 : s.heap.IsTuple l1 xs) (hl2 : s.heap.IsTuple l2 ys) (hend : xs[k]? = none \/ ys[k]? = none)
  (hQ : ∀ h', (∀ c o, c ≠ z -> c ≠ TO -> c ≠ i1 -> c ≠ i2 -> s.heap.get? c = some o -> h'.get? c = some o) -> Q none { s with heap := h' }) : wpAny (model prog w) A (pyNext (.ref z)) Q E s := by
 have hT : s.TypeIs (.ref z) "zip" := ⟨_, hz, rfl⟩
 unfold pyNext
 refine wpAny_bind (wpAny_attempt (wpAny_callSpecial?_slot (name := Str.ofString "__next__") hT F.slot_zip_next (wpAny_call_entry F.slot_zip_next hT F.entry_zip_next ?_ (F.args_zip_next_1 _))))
 have stop : ∀ (g : Heap) (e : Addr), (∃ o, g.get? e = some o /\ o.cls = .type "StopIteration") -> (∀ c o, c ≠ z -> c ≠ TO -> c ≠ i1 -> c ≠ i2 -> s.heap.get? c = some o -> g.get? c = some o) -> ∀ R : Value -> Shared -> Prop,
   (∀ v s', wpAny (model prog w) A (do if <- isInstance v (.type "StopIteration") then pure none else throw v) Q E s' -> R v s') -> R (.ref e) { s with heap := g } := fun g e ⟨o, ho, hc⟩ hk R hR => hR _ _ (by
  refine wpAny_bind (wpAny_isInstance (T := "StopIteration") (b := true) ⟨o, ho, hc⟩ isSubtype_stop ?_)
  exact wpAny_pure (hQ _ hk))
 show wpAny _ _ (field (.ref z) 2 >>= _) _ _ _
 refine wpAny_bind (wpAny_field hz rfl (x := .bool false) rfl ?_)
 show wpAny _ _ (field (.ref z) 3 >>= _) _ _ _
 refine wpAny_bind (wpAny_field hz rfl (x := .ref TI) rfl ?_)
 refine wpAny_bind (wpAny_seqItems hTI rfl ?_)
 show wpAny _ _ (Builtin.SmallTypes.ownedTupleIsFree (.ref z) >>= _) _ _ _
 refine wpAny_bind ?_
 unfold Builtin.SmallTypes.ownedTupleIsFree
 refine wpAny_bind (wpAny_field hz rfl (x := .none) rfl (wpAny_pure ?_))
 simp only [if_true]
 refine wpAny_bind (wpAny_rule ?_)
 refine wpAny_bind (wpAny_field hz rfl (x := .ref TO) rfl ?_)
 refine wpAny_bind (wpAny_setField_rec hz (by simp) fun g1 hz1 hs1 => ?_)
 replace hz1 : IsZip g1 z TI TO .ellipsis := hz1
 refine wpAny_bind ?_
 simp only [List.zipIdx_cons, List.zipIdx_nil, List.forIn_cons, List.forIn_nil]
 refine wpAny_bind (wpAny_bind (wpAny_onRaise ?_))
 show wpAny _ _ (Builtin.SmallTypes.nextOf (.ref i1) >>= _) _ _ _
 cases hx : xs[k]? with
 | none =>
  refine wpAny_bind (mX (s := { s with heap := g1 }) hh (h1.at fun o e => hs1.extBut _ _ D.i1z e) (hl1.extBut hs1.extBut D.l1z) hx fun g2 e hs2 he => ?_)
  obtain ⟨oe, hoe, hce⟩ := he
  have hz2 : IsZip g2 z TI TO .ellipsis := hs2 _ _ D.i1z.symm hz1
  have hez : e ≠ z := fun x => by subst x; rw [hz2] at hoe; cases hoe; simp at hce
  refine wpAny_setField_rec hz2 (by simp) fun g3 _ hs3 => ?_
  refine wpAny_bind (wpAny_isInstance (T := "StopIteration") (b := true) ⟨oe, hs3.extBut _ _ hez hoe, hce⟩ isSubtype_stop ?_)
  exact wpAny_pure (hQ _ fun c o c1 _ c3 _ x => hs3.extBut _ _ c1 (hs2 _ _ c3 (hs1.extBut _ _ c1 x)))
 | some x =>
  have hy : ys[k]? = none := by rcases hend with h | h; rw [hx] at h; cases h; exact h
  refine wpAny_bind (iO (s := { s with heap := g1 }) (h1.at fun o e => hs1.extBut _ _ D.i1z e) (hl1.extBut hs1.extBut D.l1z) hx fun g2 h12 hs2 => wpAny_pure ?_)
  have hTO2 : IsPair g2 TO a b := hs2.extBut _ _ D.TOi1 (hs1.extBut _ _ D.TOz hTO)
  refine wpAny_bind (wpAny_seqItems hTO2 rfl ?_)
  refine wpAny_bind (wpAny_updateSeq_pair hTO2 fun g3 hTO3 hs3 => ?_)
  refine wpAny_bind (wpAny_letGo (wpAny_pure ?_))
  refine wpAny_bind (wpAny_bind (wpAny_onRaise ?_))
  show wpAny _ _ (Builtin.SmallTypes.nextOf (.ref i2) >>= _) _ _ _
  refine wpAny_bind (mX (s := { s with heap := g3 }) hh (((h2.at fun o e => hs1.extBut _ _ D.i2z e).at fun o e => hs2.extBut _ _ D.i12.symm e).at fun o e => hs3.extBut _ _ D.TOi2.symm e)
   (((hl2.extBut hs1.extBut D.l2z).extBut hs2.extBut D.l2i1).extBut hs3.extBut D.l2TO) hy fun g4 e hs4 he => ?_)
  obtain ⟨oe, hoe, hce⟩ := he
  have hz4 : IsZip g4 z TI TO .ellipsis := hs4 _ _ D.i2z.symm (hs3.extBut _ _ D.TOz.symm (hs2.extBut _ _ D.i1z.symm hz1))
  have hez : e ≠ z := fun x => by subst x; rw [hz4] at hoe; cases hoe; simp at hce
  refine wpAny_setField_rec hz4 (by simp) fun g5 _ hs5 => ?_
  refine wpAny_bind (wpAny_isInstance (T := "StopIteration") (b := true) ⟨oe, hs5.extBut _ _ hez hoe, hce⟩ isSubtype_stop ?_)
  exact wpAny_pure (hQ _ fun c o c1 c2 c3 c4 x => hs5.extBut _ _ c1 (hs4 _ _ c4 (hs3.extBut _ _ c2 (hs2.extBut _ _ c3 (hs1.extBut _ _ c1 x)))))
end
end S4
end
section
namespace S4
open PySem PySem.Spec PyProof.Rows L2 S3
def Ca (l : Addr) : Obj := { cls := .type "tuple_iterator", data := .fields #[.ref l, .int 0 0] }
def zS (h : Heap) (l1 : Addr) : Heap := h.push (Ca l1)
def zT (h : Heap) (l1 l2 : Addr) : Heap := (zS h l1).push (Ca l2)
def zU (h : Heap) (l1 l2 : Addr) : Heap := (zT h l1 l2).push { cls := .type "tuple", data := .seq #[.ref h.objs.size, .ref (zS h l1).objs.size] }
def AH (h : Heap) (l1 l2 : Addr) : Heap := (zU h l1 l2).push { cls := .type "tuple", data := .seq #[.none, .none] }
def zV (h : Heap) (l1 l2 : Addr) : Heap := (AH h l1 l2).push { cls := .type "zip", data := .fields #[.none, .bool false, .bool false, .ref (zT h l1 l2).objs.size, .ref (zU h l1 l2).objs.size] }
theorem zW (l1 l2 : Addr) (xs ys : Array Value) :
  Meets (Builtin.«zip.__new__» ⟨[.type "zip", .ref l1, .ref l2], []⟩) (fun _ R s => s.heap.IsTuple l1 xs /\ s.heap.IsTuple l2 ys /\ R (.ok (.ret (.ref (AH s.heap l1 l2).objs.size))) { s with heap := zV s.heap l1 l2 }) :=
 .of_wp fun prog w A R s h => by
  obtain ⟨hp, g, d, tk, os⟩ := s
  obtain ⟨hl1, hl2, h⟩ := h
  have hsub := sub_zip
  have hL1 : Heap.IsTuple (Shared.heap ⟨hp, g, d, tk, os⟩) l1 xs := hl1
  have hL2 : Heap.IsTuple (Shared.heap ⟨hp.push { cls := .type "tuple_iterator", data := .fields #[.ref l1, .int 0 0] }, g, d, tk, os⟩) l2 ys := let ⟨o, e, r⟩ := hl2; ⟨o, Heap.get?_push_of_some _ e, r⟩
  wp_walk using wpAny_pyIter_tuple hL1, wpAny_pyIter_tuple hL2
  exact ⟨_, rfl, h⟩
section
variable {prog : Program} {w : World} {A : Around} {E : Value -> Shared -> Prop} {s : Shared}
theorem ua {l1 l2 : Addr} {xs ys : Array Value} {Q : Value -> Shared -> Prop} (hl1 : s.heap.IsTuple l1 xs) (hl2 : s.heap.IsTuple l2 ys)
  (h : ∀ h', IsZip h' (s.heap.objs.size + 4) (s.heap.objs.size + 2) (s.heap.objs.size + 3) .none -> IsPair h' (s.heap.objs.size + 2) (.ref s.heap.objs.size) (.ref (s.heap.objs.size + 1)) ->
   IsPair h' (s.heap.objs.size + 3) .none .none -> h'.IsTupleIter s.heap.objs.size l1 0 -> h'.IsTupleIter (s.heap.objs.size + 1) l2 0 -> (∀ c o, s.heap.get? c = some o -> h'.get? c = some o) -> Q (.ref (s.heap.objs.size + 4)) { s with heap := h' }) :
  wpAny (model prog w) A (call (.type "zip") [.ref l1, .ref l2]) Q E s := by
 refine callType_new F.called_zip (by decide) (F.typeCall_zip_2 _ _) (F.newCall_zip_2 _ _) (fun obj => F.args_object_init_3 obj _ _) F.entry_zip_new (zW l1 l2 xs ys) ⟨hl1, hl2, ?_⟩
 have z1 : (zS s.heap l1).objs.size = s.heap.objs.size + 1 := Heap.size_push ..
 have z2 : (zT s.heap l1 l2).objs.size = s.heap.objs.size + 2 := (Heap.size_push ..).trans (by rw [z1])
 have z3 : (zU s.heap l1 l2).objs.size = s.heap.objs.size + 3 := (Heap.size_push ..).trans (by rw [z2])
 have z4 : (AH s.heap l1 l2).objs.size = s.heap.objs.size + 4 := (Heap.size_push ..).trans (by rw [z3])
 have u5 : ∀ {c o}, (AH s.heap l1 l2).get? c = some o -> (zV s.heap l1 l2).get? c = some o := fun e => Heap.get?_push_of_some _ e
 have u4 : ∀ {c o}, (zU s.heap l1 l2).get? c = some o -> (AH s.heap l1 l2).get? c = some o := fun e => Heap.get?_push_of_some _ e
 have u3 : ∀ {c o}, (zT s.heap l1 l2).get? c = some o -> (zU s.heap l1 l2).get? c = some o := fun e => Heap.get?_push_of_some _ e
 have u2 : ∀ {c o}, (zS s.heap l1).get? c = some o -> (zT s.heap l1 l2).get? c = some o := fun e => Heap.get?_push_of_some _ e
 have u1 : ∀ {c o}, s.heap.get? c = some o -> (zS s.heap l1).get? c = some o := fun e => Heap.get?_push_of_some _ e
 have g5 : (zV s.heap l1 l2).get? (AH s.heap l1 l2).objs.size = some { cls := .type "zip", data := .fields #[.none, .bool false, .bool false, .ref (zT s.heap l1 l2).objs.size, .ref (zU s.heap l1 l2).objs.size] } := Heap.get?_push_size _ rfl
 have g4 : (zV s.heap l1 l2).get? (zU s.heap l1 l2).objs.size = some { cls := .type "tuple", data := .seq #[.none, .none] } := u5 (Heap.get?_push_size _ rfl)
 have g3 : (zV s.heap l1 l2).get? (zT s.heap l1 l2).objs.size = some { cls := .type "tuple", data := .seq #[.ref s.heap.objs.size, .ref (zS s.heap l1).objs.size] } := u5 (u4 (Heap.get?_push_size _ rfl))
 have g2 : (zV s.heap l1 l2).get? (zS s.heap l1).objs.size = some (Ca l2) := u5 (u4 (u3 (Heap.get?_push_size _ rfl)))
 have g1 : (zV s.heap l1 l2).get? s.heap.objs.size = some (Ca l1) := u5 (u4 (u3 (u2 (Heap.get?_push_size _ rfl))))
 show _ /\ _
 rw [z2, z3, z4] at g5
 rw [z1, z2] at g3
 rw [z3] at g4
 rw [z1] at g2
 rw [z4]
 exact ⟨⟨_, g5, rfl⟩, h _ g5 g3 g4 ⟨_, g1, rfl, rfl⟩ ⟨_, g2, rfl, rfl⟩ fun c o x => u5 (u4 (u3 (u2 (u1 x))))⟩
end
def uH (va vb : List V) : It := ⟨fun i _ => i < va.length /\ i < vb.length, fun i H x H' => ∃ p a b, H p = none /\ va[i]? = some a /\ vb[i]? = some b /\ x = .ref p /\ H' = upd H p (.tup [a, b]), fun i _ => va.length <= i \/ vb.length <= i⟩
section
variable {X : Cx} {pins : List (Addr × Obj)} {σ : L2.St} {H : Hp} {s : Shared}
theorem sE {h' : Heap} {t' : Nat} {ch : List Addr} (I : L2.Inv X pins σ H s) (hf : ∀ b ∈ ch, jF X pins H b) (k : ∀ b o, b ∉ ch -> s.heap.get? b = some o -> h'.get? b = some o) : L2.Inv X pins σ H { s with heap := h', toks := t' } := by
 have nch : ∀ b u, H b = some u -> b ∉ ch := fun b u e z => by rw [(hf b z).1] at e; cases e
 refine I.step (g' := s.gens) (d' := s.drawn) (ch := ch) (fun b hb => ?_) (fun b o _ _ hc e _ => k b o hc e) (fun b o _ _ hc e _ => ⟨o.slots, k b o hc e⟩) (fun _ _ _ _ n => n)
  (fun b o hc e => ⟨o, k b o hc e⟩) (fun _ _ e => e) (fun _ _ _ e => e) (fun b ps e => ⟨#[], by rw [e]; simp⟩) (fun m hm => ?_) (fun b u e => ?_) I.bare
 ·obtain ⟨f0, f1, f2, f3, f4, f5⟩ := hf b hb
  exact ⟨f3, f1, f4, f5⟩
 ·obtain ⟨o, es, ep, ho, r⟩ := hm
  exact ⟨o, es, ep, k _ o (fun z => (hf _ z).2.1 rfl) ho, r⟩
 ·refine (I.hok b u e).stay (fun c v hc q => k c v ?_ q) (fun _ q => q) fun _ _ q => q
  rcases hc with z | z
  ·rw [z]; exact nch b u e
  ·exact nch c _ z
theorem sF {h' : Heap} {t' : Nat} {ch : List Addr} {a : Addr} {o : HO} (I : L2.Inv X pins σ H s) (hf : ∀ b ∈ ch, jF X pins H b) (k : ∀ b o, b ∉ ch -> s.heap.get? b = some o -> h'.get? b = some o) (hp : s.heap.objs.size <= a) (new : aW X.prog X.w (upd H a o) h' a o) :
  L2.Inv X pins σ (upd H a o) { s with heap := h', toks := t' } := by
 have hn : H a = none := I.hok.fresh hp
 have nch : ∀ b u, H b = some u -> b ∉ ch := fun b u e z => by rw [(hf b z).1] at e; cases e
 have ne : ∀ b o, s.heap.get? b = some o -> b ≠ a := fun b o e => Nat.ne_of_lt (Nat.lt_of_lt_of_le (Heap.lt_size e) hp)
 refine I.step (g' := s.gens) (d' := s.drawn) (ch := ch) (fun b hb => ?_) (fun b o _ _ hc e _ => k b o hc e) (fun b o _ _ hc e _ => ⟨o.slots, k b o hc e⟩) (fun b o _ e n => by rw [aw (ne b o e)]; exact n)
  (fun b o hc e => ⟨o, k b o hc e⟩) (fun b xs e => by rw [aw (ay e hn)]; exact e) (fun b _ _ e => by rw [aw (ay e hn)]; exact e) (fun b ps e => ⟨#[], by rw [aw (ay e hn), e]; simp⟩) (fun m hm => ?_) (fun b u e => ?_) I.bare
 ·obtain ⟨f0, f1, f2, f3, f4, f5⟩ := hf b hb
  exact ⟨f3, f1, f4, f5⟩
 ·obtain ⟨o, es, ep, ho, r⟩ := hm
  exact ⟨o, es, ep, k _ o (fun z => (hf _ z).2.1 rfl) ho, r⟩
 ·by_cases hb : b = a
  ·subst hb; rw [aK] at e; cases e; exact new
  ·rw [aw hb] at e
   refine (I.hok b u e).stay (fun c v hc q => k c v ?_ q) (fun c q => by rw [aw (ay q hn)]; exact q) fun c xs q => by rw [aw (ay q hn)]; exact q
   rcases hc with z | z
   ·rw [z]; exact nch b u e
   ·exact nch c _ z
end
theorem vW {P : Program} {w : World} {K : PySem.W.Frag} {elts : List Expr} {x1} {tp : Pos} {z TI TO i1 i2 l1 l2 : Addr} (D : ZipApart z TI TO i1 i2 l1 l2) {va vb : List V} (H0 : Hp -> Prop) (hH0 : ∀ H, H0 H ↔ (H l1 = some (.tup va) /\ H l2 = some (.tup vb))) :
  Turn P w K (.Tuple elts x1 tp) ⟨fun i H => (uH va vb).go i H /\ H0 H, (uH va vb).yld, fun i H => (uH va vb).stop i H /\ H0 H⟩ [z, TI, TO, i1, i2] z
   (fun i h => IsZip h z TI TO .none /\ IsPair h TI (.ref i1) (.ref i2) /\ (∃ a b, IsPair h TO a b) /\ h.IsTupleIter i1 l1 i /\ h.IsTupleIter i2 l2 i) where
 mem := by simp
 obj := fun i h st b hb => by
  obtain ⟨hz, hTI, ⟨a, c, hTO⟩, ⟨o1, e1, c1, d1⟩, ⟨o2, e2, c2, d2⟩⟩ := st
  simp only [List.mem_cons, List.not_mem_nil, or_false] at hb
  rcases hb with rfl | rfl | rfl | rfl | rfl
  ·exact ⟨_, hz, fun v z => by cases z⟩
  ·exact ⟨_, hTI, fun v z => by cases z⟩
  ·exact ⟨_, hTO, fun v z => by cases z⟩
  ·exact ⟨_, e1, fun v z => by rw [d1] at z; cases z⟩
  ·exact ⟨_, e2, fun v z => by rw [d2] at z; cases z⟩
 keep := fun i h h' st k => by
  obtain ⟨hz, hTI, ⟨a, c, hTO⟩, h1, h2⟩ := st
  exact ⟨k z (by simp) _ hz, k TI (by simp) _ hTI, ⟨a, c, k TO (by simp) _ hTO⟩, h1.at fun o e => k i1 (by simp) o e, h2.at fun o e => k i2 (by simp) o e⟩
 item := by
  intro X hP hw hK hc i pins s σ H E I hf st hg
  subst hP hw hK
  obtain ⟨hz, hTI, ⟨a, c, hTO⟩, h1, h2⟩ := st
  obtain ⟨⟨ga, gb⟩, hH⟩ := hg
  obtain ⟨hA, hB⟩ := (hH0 H).mp hH
  obtain ⟨its1, rv1, p1, _⟩ := I.tuple (.of hA)
  obtain ⟨its2, rv2, p2, _⟩ := I.tuple (.of hB)
  obtain ⟨u1, hu1, ru1⟩ := rv1.get (List.getElem?_eq_getElem ga)
  obtain ⟨u2, hu2, ru2⟩ := rv2.get (List.getElem?_eq_getElem gb)
  refine t9 D hz hTI hTO h1 h2 p1 p2 (x := u1) (y := u2) (by simpa using hu1) (by simpa using hu2) fun h' a1 a2 a3 a4 a5 a6 hk => ?_
  have hTn : H s.heap.objs.size = none := I.hok.fresh (Nat.le_refl _)
  have lt : ∀ {c o}, s.heap.get? c = some o -> s.heap.objs.size ≠ c := fun e => Nat.ne_of_gt (Heap.lt_size e)
  refine ⟨_, rfl, wpAny_letOwnedTupleGo_zip a1 fun h'' hz' hs' => ?_⟩
  have hTI' : IsPair h'' TI (.ref i1) (.ref i2) := hs'.extBut _ _ D.TIz (hk _ _ D.TIz D.TITO D.TIi1 D.TIi2 hTI)
  have kk : ∀ b o, b ∉ [z, TI, TO, i1, i2] -> s.heap.get? b = some o -> h''.get? b = some o := fun b o hb e => by
   simp only [List.mem_cons, List.not_mem_nil, or_false, not_or] at hb
   exact hs'.extBut _ _ hb.1 (hk b o hb.1 hb.2.2.1 hb.2.2.2.1 hb.2.2.2.2 e)
  have T'' : IsPair h'' s.heap.objs.size u1 u2 := hs'.extBut _ _ (lt hz) a5
  have I2 : L2.Inv X pins σ (upd H s.heap.objs.size (.tup [va[i], vb[i]])) { s with heap := h'', toks := s.toks } := sF (o := .tup [va[i], vb[i]]) I hf kk (Nat.le_refl _) ⟨by show 2 <= sizeLine; decide, [u1, u2], .cons ru1 (.cons ru2 .nil), _, T'', rfl, _, rfl⟩
  refine ⟨.ref s.heap.objs.size, _, I2, rfl,
   ⟨_, _, _, hTn, List.getElem?_eq_getElem ga, List.getElem?_eq_getElem gb, rfl, rfl⟩, ⟨hz', hTI', ⟨_, _, hs'.extBut _ _ D.TOz a2⟩, a3.at fun o e => hs'.extBut _ _ D.i1z e, a4.at fun o e => hs'.extBut _ _ D.i2z e⟩, fun b hb => ?_⟩
  obtain ⟨ob, ho, _⟩ : ∃ ob, s.heap.get? b = some ob /\ True := by
   simp only [List.mem_cons, List.not_mem_nil, or_false] at hb
   rcases hb with rfl | rfl | rfl | rfl | rfl
   ·exact ⟨_, hz, trivial⟩
   ·exact ⟨_, hTI, trivial⟩
   ·exact ⟨_, hTO, trivial⟩
   ·obtain ⟨o, e, _⟩ := h1; exact ⟨_, e, trivial⟩
   ·obtain ⟨o, e, _⟩ := h2; exact ⟨_, e, trivial⟩
  rw [aw (Nat.ne_of_lt (Heap.lt_size ho))]
  exact (hf b hb).1
 done := by
  intro X hP hw hK hc i pins s σ H E I hf st hg
  subst hP hw hK
  obtain ⟨hz, hTI, ⟨a, c, hTO⟩, h1, h2⟩ := st
  obtain ⟨gs, hH⟩ := hg
  obtain ⟨hA, hB⟩ := (hH0 H).mp hH
  obtain ⟨its1, rv1, p1, _⟩ := I.tuple (.of hA)
  obtain ⟨its2, rv2, p2, _⟩ := I.tuple (.of hB)
  have l1' := rv1.length
  have l2' := rv2.length
  refine vV (I.ok.hd hc) D hz hTI hTO h1 h2 p1 p2 (gs.imp (fun g => by simp; omega) fun g => by simp; omega) fun h' hk => ⟨rfl, sE (t' := s.toks) I hf fun b o hb e => ?_⟩
  simp only [List.mem_cons, List.not_mem_nil, or_false, not_or] at hb
  exact hk b o hb.1 hb.2.2.1 hb.2.2.2.1 hb.2.2.2.2 e
 self := fun _ _ _ _ _ st h => wpAny_pyIter_zip st.1 h
def C3 : List D -> M Iter
 | [.tup xs, .tup ys] => pure ⟨(xs.zip ys).map fun p => .tup [p.1, p.2], .none⟩
 | _ => M.fail
theorem zip_get {xs ys : List D} {i : Nat} {d : D} (h : ((xs.zip ys).map fun p => D.tup [p.1, p.2])[i]? = some d) : ∃ x y, xs[i]? = some x /\ ys[i]? = some y /\ d = .tup [x, y] := by
 rw [List.getElem?_map] at h
 cases q : (xs.zip ys)[i]? with
 | none => rw [q] at h; cases h
 | some p =>
  rw [q] at h
  cases h
  obtain ⟨h1, h2⟩ := List.getElem?_zip_eq_some.mp q
  exact ⟨p.1, p.2, h1, h2, rfl⟩
theorem rB {K : PySem.W.Frag} {ι : List Addr} {H : Hp} {S : ae} {a b : Addr} {va vb : List V} {xs ys : List D} (rep : Rep K ι H S) (hA : H a = some (.tup va)) (hB : H b = some (.tup vb)) (rx : RelDs K ι H xs va) (ry : RelDs K ι H ys vb) :
  iK K ⟨(xs.zip ys).map fun p => .tup [p.1, p.2], .none⟩ ⟨fun i H => (uH va vb).go i H /\ (H a = some (.tup va) /\ H b = some (.tup vb)), (uH va vb).yld, fun i H => (uH va vb).stop i H /\ (H a = some (.tup va) /\ H b = some (.tup vb))⟩ ι H := by
 intro ι2 H2 S2 e rep2 ok i
 have hA2 : H2 a = some (.tup va) := (e.oth a _ hA (rep.notIn hA (by intro _ z; cases z)) (by intro _ z; cases z)).1
 have hB2 : H2 b = some (.tup vb) := (e.oth b _ hB (rep.notIn hB (by intro _ z; cases z)) (by intro _ z; cases z)).1
 have rx2 := rx.later rep e
 have ry2 := ry.later rep e
 have lx := rx2.length
 have ly := ry2.length
 refine ⟨fun d hd => ?_, fun hlen => ?_⟩
 ·obtain ⟨x, y, h1, h2, rfl⟩ := zip_get hd
  have i1 := (List.getElem?_eq_some_iff.mp h1).1
  have i2 := (List.getElem?_eq_some_iff.mp h2).1
  refine ⟨⟨⟨by omega, by omega⟩, hA2, hB2⟩, ?_⟩
  rintro v H3 ⟨p, va', vb', hp, g1, g2, rfl, rfl⟩
  obtain ⟨v1, e1, r1⟩ := rx2.get' h1
  obtain ⟨v2, e2, r2⟩ := ry2.get' h2
  obtain rfl : v1 = va' := Option.some.inj (e1.symm.trans g1)
  obtain rfl : v2 = vb' := Option.some.inj (e2.symm.trans g2)
  have hE : Ext ι2 H2 ι2 (upd H2 p (.tup [v1, v2])) := cR hp
  exact ⟨hE, dL rep2 hp, .tup aK (.cons (r1.later rep2 hE) (.cons (r2.later rep2 hE) .nil))⟩
 ·have hl : min xs.length ys.length <= i := by simpa using hlen
  refine ⟨?_, hA2, hB2⟩
  rcases Nat.le_total xs.length ys.length with z | z
  ·exact .inl (by omega)
  ·exact .inr (by omega)
end S4
end
section
namespace S3
open PySem PySem.Spec PyProof.Rows L2 S4
abbrev mV (i : Nat) : TM := fun ρ => qP ρ i
abbrev mK (d : D) : TM := fun _ => pure d
abbrev pO (m n : TM) : TM := fun ρ => do let x <- m ρ; let c <- jb x; if c = true then n ρ else pure (.bl false)
abbrev EE (m n : TM) : TM := fun ρ => do let x <- m ρ; let c <- jb x; if c = true then pure (.bl true) else n ρ
abbrev C4 (m : TM) : TM := fun ρ => do let x <- m ρ; let c <- jb x; pure (.bl (!c))
abbrev C5 (t : aA -> M Bool) (m n : TM) : TM := fun ρ => do let k <- t ρ; if k = true then m ρ else n ρ
abbrev vX := aA -> M (List D)
abbrev aF : vX := fun _ => pure []
abbrev ai (m : TM) (ms : vX) : vX := fun ρ => do let x <- m ρ; let xs <- ms ρ; pure (x :: xs)
abbrev ma (ms : vX) : TM := fun ρ => do let ds <- ms ρ; dz ds
abbrev bS (ms : vX) : TM := fun ρ => do let ds <- ms ρ; bJ ds
abbrev aP (F : List D -> M D) (ms : vX) : TM := fun ρ => do let ds <- ms ρ; F ds
abbrev gm (F : List D -> M D) (m : TM) : TM := aP F (ai m aF)
abbrev br (f : D -> D -> M D) (m n : TM) : TM := fun ρ => do let x <- m ρ; let y <- n ρ; f x y
abbrev zX (f g : D -> D -> M D) (m n l : TM) : TM := fun ρ => do let x <- m ρ; let y <- n ρ; let z <- f x y; let k <- jb z; if k = true then do let w <- l ρ; g y w else pure (.bl false)
abbrev C6 := aA -> M (Option Int)
abbrev oN : C6 := fun _ => pure none
abbrev oS (m : TM) : C6 := fun ρ => do let x <- m ρ; let i <- CY x; pure (some i)
abbrev Ee (m : TM) (lo hi : C6) : TM := fun ρ => do let x <- m ρ; let i <- lo ρ; let j <- hi ρ; qU x i j
abbrev Ef (m : TM) : TM := fun ρ => do let x <- m ρ; CZ x
abbrev iD (m : TM) (T : String) : TM := fun ρ => do let x <- m ρ; pB (fun t => dC t T) x
abbrev yu (m : TM) (T U : String) : TM := fun ρ => do let x <- m ρ; pB (fun t => dC t T || dC t U) x
abbrev vY (f : D -> List D -> M D) (m n : TM) : TM := fun ρ => do let x <- m ρ; tS x; let ds <- (do let y <- n ρ; let ys <- pure []; pure (y :: ys)); f x ds
noncomputable abbrev cZ (mi : aA -> M Iter) (g : l5) (t : aA -> M Bool) (m : TM) (js : List (Option Nat)) : TM := fun ρ => do let it <- mi ρ; let ys <- cS it g t m (iA js ρ); bJ ys
abbrev ik := aA -> M Bool
abbrev bV (m : TM) : ik := fun ρ => do let x <- m ρ; jb x
abbrev md (f : D -> D -> M D) (m n : TM) : ik := fun ρ => do let z <- (do let x <- m ρ; let y <- n ρ; f x y); jb z
abbrev zY (f g : D -> D -> M D) (m n l : TM) : ik := fun ρ => do let v <- (do let x <- m ρ; let y <- n ρ; let z <- f x y; let k <- jb z; if k = true then do let w <- l ρ; g y w else pure (.bl false)); jb v
abbrev Cb (f g h : D -> D -> M D) (m n l k : TM) : ik := fun ρ => do
 let x <- m ρ
 let y <- n ρ
 let z <- f x y
 let i <- jb z
 if i = true then do
  let w <- l ρ
  let z2 <- g y w
  let j <- jb z2
  if j = true then do
   let v <- k ρ
   let z3 <- h w v
   jb z3
  else pure false
 else pure false
abbrev mj (t : ik) : ik := fun ρ => do let c <- t ρ; pure (!c)
abbrev C7 (t u : ik) : ik := fun ρ => do let c <- t ρ; if c = true then u ρ else pure false
abbrev Cc (t u : ik) : ik := fun ρ => do let c <- t ρ; if c = true then pure true else u ρ
abbrev jq : ik := fun _ => pure true
abbrev xB (m : TM) : aA -> M Iter := fun ρ => do let ds <- ai m aF ρ; eS ds
abbrev C8 (m n : TM) : aA -> M Iter := fun ρ => do let ds <- ai m (ai n aF) ρ; ii ds
abbrev lu (m : TM) : aA -> M Iter := fun ρ => do let x <- m ρ; l6 x
abbrev Eg (m n : TM) : aA -> M Iter := fun ρ => do let ds <- ai m (ai n aF) ρ; C3 ds
abbrev gN (i : Nat) : l5 := fun d ρ => pure (ρ.set i (some d))
abbrev Du (m n : TM) : l5 := fun d ρ => do let x <- m ρ; let y <- n ρ; fe x y d; pure ρ
abbrev fj : bN := fun ρ => pure (.nx ρ)
abbrev az (m n : bN) : bN := fun ρ => do let o <- m ρ; nO o n
abbrev vZ (me : TM) : bN := fun ρ => do let _ <- me ρ; pure (.nx ρ)
abbrev bK (me : TM) : bN := fun ρ => do let d <- me ρ; pure (.ret d)
abbrev mY (t : ik) (m n : bN) : bN := fun ρ => do let c <- t ρ; if c = true then m ρ else n ρ
abbrev bt (i : Nat) (me : TM) : bN := fun ρ => do let d <- me ρ; pure (.nx (ρ.set i (some d)))
abbrev v5 (me : TM) (g : l5) : bN := fun ρ => do let d <- me ρ; let ρ' <- g d ρ; pure (.nx ρ')
abbrev Eh (i j : Nat) (ms : vX) : bN := fun ρ => do let ds <- ms ρ; match ds with | [d1, d2] => pure (.nx ((ρ.set i (some d1)).set j (some d2))) | _ => M.fail
noncomputable abbrev rC (mi : aA -> M Iter) (g : l5) (b : bN) : bN := fun ρ => do let it <- mi ρ; jK it g b it.items ρ
abbrev zZ (k : Nat) (t : ik) (b : bN) : bN := fun ρ => gD t b k ρ
abbrev yw : bN := fun _ => M.fail
structure DefIs (P : Program) (w : World) (K : PySem.W.Frag) (mg : Str -> Option Value) (base : Heap) (k : Nat) (x : Str) (ps : List Str) (F : List D -> M D) : Prop where
 ex : ∃ f fd, FnOk P w K mg base CN k f fd ps (D9 K F) /\ mg x = some (.ref f) /\ PySem.W.keepIn K (.ref f) = true /\ Binds K fd ps []
section
variable {X : Cx} {E : XD} {e : Expr} {es : List Expr} {pos : Pos} {ms : vX}
theorem ap {c j p} {env : Env} : starEach (.Constant c j p :: es) env = (false, eval (.Constant c j p) env) :: starEach es env := rfl
theorem aR {l k p} {env : Env} : starEach (.Tuple l k p :: es) env = (false, eval (.Tuple l k p) env) :: starEach es env := rfl
theorem om {l p} {env : Env} : starEach (.List l p :: es) env = (false, eval (.List l p) env) :: starEach es env := rfl
theorem aq {x p} {env : Env} : starEach (.Name x p :: es) env = (false, eval (.Name x p) env) :: starEach es env := rfl
theorem aM {f l k p} {env : Env} : starEach (.Call f l k p :: es) env = (false, eval (.Call f l k p) env) :: starEach es env := rfl
theorem d5 {a o b p} {env : Env} : starEach (.BinOp a o b p :: es) env = (false, eval (.BinOp a o b p) env) :: starEach es env := rfl
theorem cg {a b p} {env : Env} : starEach (.Subscript a b p :: es) env = (false, eval (.Subscript a b p) env) :: starEach es env := rfl
theorem xC {a b p} {env : Env} : starEach (.Dict a b p :: es) env = (false, eval (.Dict a b p) env) :: starEach es env := rfl
theorem rD {a b p} {env : Env} : starEach (.UnaryOp a b p :: es) env = (false, eval (.UnaryOp a b p) env) :: starEach es env := rfl
theorem v7 {i : Int} {j p} : SE X E (.UnaryOp .USub (.Constant (.int i) j p) pos) (mK (.int (-i))) := by
 refine PE.imp (A1 zh uJ) fun σ H Q h => ?_
 obtain ⟨ι, S, ρ, rep, re, c⟩ := h
 exact ⟨i, rfl, ah c .refl rep _ (.int _)⟩
theorem v8 {x : Str} {i : Int} (hg : Gl X x) (hm : ∃ t, X.mg x = some (.int i t)) (hd : (x == ("__debug__" : Str)) = false := by decide) : SE X E (.Name x pos) (mK (.int i)) :=
 let ⟨_, h⟩ := hm
 xi hg h hd
theorem z0 {st : Stmt} : SS X E st yw := by
 intro pins s σ H T I h
 obtain ⟨ι, S, ρ, rep, re, c⟩ := h
 exact (af c).elim
def Bx (fs : Scope) (N : List Str) (scope : Scope) (Nc : List Str) (js : List (Option Nat)) : Bool :=
 (scope.kind == .function) && scope.names.all (fun y => y.2 != .cell || scope.names.lookup y.1 == some .cell) && scope.names.all (fun y => y.2 != .local || scope.names.lookup y.1 == some .local) &&
  scope.names.all (fun y => y.2 != .free || (fs.names.lookup y.1 == some .cell || fs.names.lookup y.1 == some .free)) && (js.length == Nc.length) &&
  (Nc.zip js).all (fun p => match p.2 with | none => true | some j => N[j]? == some p.1 && scope.names.lookup p.1 == some .free)
theorem jr {scope : Scope} {Nc : List Str} {js : List (Option Nat)} (fs : Scope) (N : List Str) (he : ∀ x, X.env.kindOf x = fs.names.lookup x) (hN : X.N = N) (h : Bx fs N scope Nc js = true) : CompScope X scope Nc js := by
 unfold Bx at h
 simp only [Bool.and_eq_true, List.all_eq_true, beq_iff_eq, bne_iff_ne, Bool.or_eq_true] at h
 obtain ⟨⟨⟨⟨⟨h1, h2⟩, h3⟩, h4⟩, h5⟩, h6⟩ := h
 refine ⟨h1, fun y hy e => (h2 y hy).resolve_left fun z => z e, fun y hy e => (h3 y hy).resolve_left fun z => z e, fun y hy e => ?_, h5, fun i x j e1 e2 => ?_⟩
 ·rw [he]
  exact (h4 y hy).resolve_left fun z => z e
 ·have hz : (Nc.zip js)[i]? = some (x, some j) := List.getElem?_zip_eq_some.mpr ⟨e1, e2⟩
  have := h6 _ (List.mem_of_getElem? hz)
  simp only [Bool.and_eq_true, beq_iff_eq] at this
  rw [hN]
  exact this
theorem fq {A : Around} {k : Nat} (hr : Room k A) : A.units + 64 < cLine := by have := hr.un; omega
theorem Ei {A : Around} {k : Nat} (hr : Room k A) : A.units + 8 < cLine := by have := hr.un; omega
theorem AI {A : Around} {k : Nat} (hr : Room k A) : A.units < cLine := by have := hr.un; omega
end
section
variable {P : Program} {w : World} {K : PySem.W.Frag} {mg : Str -> Option Value} {base : Heap}
end
end S3
end
section
namespace S3
open PySem PySem.Spec PyProof.Rows L2 S4
def runs {α : Type} (c : M α) (S : ae) (Q : α -> ae -> Prop) : Prop := ∃ a S', c S = some (.ok a, S') /\ Q a S'
section
variable {α β : Type} {c : M α} {f : α -> M β} {S : ae} {Q Q' : α -> ae -> Prop} {R : β -> ae -> Prop}
theorem fP {a : α} {S1 : ae} (h : c S = some (.ok a, S1)) : runs c S Q ↔ Q a S1 := by
 constructor
 ·rintro ⟨a', S', e, q⟩
  rw [h] at e; cases e; exact q
 ·exact fun q => ⟨a, S1, h, q⟩
theorem il (h : c S = none) : runs c S Q ↔ False := by
 constructor
 ·rintro ⟨a', S', e, q⟩
  rw [h] at e; cases e
 ·exact fun q => q.elim
theorem aG : runs (c >>= f) S R ↔ runs c S (fun a S1 => runs (f a) S1 R) := by
 have e : ∀ r, c S = r -> (c >>= f) S = (match r with | some (.ok a, S') => f a S' | some (.ex x, S') => some (.ex x, S') | none => none) := fun r h => by rw [<- h]; rfl
 cases q : c S with
 | none => rw [il q, il (e _ q)]
 | some p =>
  obtain ⟨r, S1⟩ := p
  cases r with
  | ok a =>
   rw [fP q]
   unfold runs
   rw [e _ q]
  | ex x =>
   constructor
   ·rintro ⟨a', S', e', _⟩
    rw [e _ q] at e'; cases e'
   ·rintro ⟨a', S', e', _⟩
    rw [q] at e'; cases e'
theorem av {a : α} : runs (pure a) S Q ↔ Q a S := by
 show (∃ a' S', some (Res.ok a, S) = some (.ok a', S') /\ Q a' S') ↔ Q a S
 constructor
 ·rintro ⟨a', S', e, h⟩
  cases e; exact h
 ·exact fun h => ⟨a, S, rfl, h⟩
theorem ub : runs (M.fail : M α) S Q ↔ False := by
 constructor
 ·rintro ⟨_, _, e, _⟩; cases e
 ·exact fun h => h.elim
theorem a9 (h : runs c S Q) (k : ∀ a S', Q a S' -> Q' a S') : runs c S Q' := let ⟨a, S', e, q⟩ := h; ⟨a, S', e, k a S' q⟩
theorem gK {p : Prop} [Decidable p] {x y : M α} : runs (if p then x else y) S Q ↔ if p then runs x S Q else runs y S Q := by split <;> exact .rfl
end
section
variable {S : ae} {Q : D -> ae -> Prop}
theorem df {k : Nat} {Q : List D -> ae -> Prop} : runs (getL k) S Q ↔ ∃ xs, S[k]? = some xs /\ Q xs S := by
 cases q : S[k]? with
 | none =>
  rw [il (by unfold getL; rw [q]; rfl)]
  simp
 | some xs =>
  rw [fP (a := xs) (S1 := S) (by unfold getL; rw [q]; rfl)]
  simp
theorem uc {ds : List D} : runs (bJ ds) S Q ↔ ds.length <= lim /\ Q (.lst S.length) (S ++ [ds]) := by
 by_cases h : ds.length <= lim
 ·rw [fP (by unfold bJ; rw [if_pos h])]; simp [h]
 ·rw [il (by unfold bJ; rw [if_neg h])]; simp [h]
theorem mZ {k : Nat} {ds : List D} : runs (nM k ds) S Q ↔ (ds.length <= lim /\ k < S.length) /\ Q .non (S.set k ds) := by
 by_cases h : ds.length <= lim /\ k < S.length
 ·rw [fP (by unfold nM; rw [if_pos h])]; simp [h]
 ·rw [il (by unfold nM; rw [if_neg h])]; simp only [h, false_and]
theorem rE {ds : List D} : runs (dz ds) S Q ↔ ds.length <= lim /\ Q (.tup ds) S := by
 unfold dz
 rw [gK]
 by_cases h : ds.length <= lim
 ·rw [if_pos h, av]; simp [h]
 ·rw [if_neg h, ub]; simp [h]
theorem ft {b : Bool} {Q : Bool -> ae -> Prop} : runs (jb (.bl b)) S Q ↔ Q b S := av
theorem By {b : Int} {Q : Int -> ae -> Prop} : runs (CY (.int b)) S Q ↔ Q b S := av
theorem im {it : Iter} {Q : Unit -> ae -> Prop} : runs (gC it) S Q ↔ it.okS S /\ Q () S := by
 by_cases h : it.okS S
 ·rw [fP (by unfold gC; rw [if_pos h])]; simp [h]
 ·rw [il (by unfold gC; rw [if_neg h])]; simp [h]
theorem fu {f : String -> Bool} {d : D} (h : xt d = true) : runs (pB f d) S Q ↔ Q (.bl (f (qx d))) S := by
 cases d with
 | ro ds => cases h
 | fn a c q ds vs => cases h
 | exc x ds => cases h
 | _ => exact av
theorem eM {f : PyData -> PyData -> Bool} {a b : D} {p q : PyData} (h1 : iB S 60 a = some p) (h2 : iB S 60 b = some q) : runs (AF f a b) S Q ↔ Q (.bl (f p q)) S := by
 rw [fP (by unfold AF; rw [h1, h2])]
theorem sG {f : Bool -> Bool} {a b : D} {p q : PyData} {r : Bool} (h1 : iB S 60 a = some p) (h2 : iB S 60 b = some q) (h3 : CU f p q = some r) : runs (AG f a b) S Q ↔ Q (.bl r) S := by
 rw [fP (by unfold AG; rw [h1, h2]; simp only [h3]; rfl)]
theorem jt {it : Iter} {g : l5} {b : bN} {Q : Out -> ae -> Prop} (I : List D -> aA -> ae -> Prop) (hchk : ∀ ds ρ S, I ds ρ S -> it.okS S)
  (hend : ∀ ρ S, I [] ρ S -> Q (.nx ρ) S)
  (hturn : ∀ d ds ρ S, I (d :: ds) ρ S -> runs (g d ρ) S (fun ρ1 S1 => runs (b ρ1) S1 (fun o S2 => match o with | .nx ρ' => I ds ρ' S2 | .ct ρ' => I ds ρ' S2 | .bk ρ' => Q (.nx ρ') S2 | .ret r => Q (.ret r) S2))) :
  ∀ ds ρ S, I ds ρ S -> runs (jK it g b ds ρ) S Q
 | [], ρ, S, h => by
  unfold jK
  rw [aG, im]
  exact ⟨hchk _ _ _ h, av.mpr (hend _ _ h)⟩
 | d :: ds, ρ, S, h => by
  unfold jK
  rw [aG, im]
  refine ⟨hchk _ _ _ h, ?_⟩
  rw [aG]
  refine a9 (hturn d ds ρ S h) fun ρ1 S1 h1 => ?_
  rw [aG]
  refine a9 h1 fun o S2 h2 => ?_
  cases o with
  | nx ρ' => exact jt I hchk hend hturn ds ρ' S2 h2
  | ct ρ' => exact jt I hchk hend hturn ds ρ' S2 h2
  | bk ρ' => exact av.mpr h2
  | ret r => exact av.mpr h2
theorem iP {it : Iter} {g : l5} {t : ik} {m : TM} {Q : List D -> ae -> Prop} (I : List D -> aA -> List D -> ae -> Prop) (hchk : ∀ ds ρ ys S, I ds ρ ys S -> it.okS S)
  (hturn : ∀ d ds ρ ys S, I (d :: ds) ρ ys S -> runs (g d ρ) S (fun ρ1 S1 => runs (t ρ1) S1 (fun k S2 => if k = true then runs (m ρ1) S2 (fun y S3 => I ds ρ1 (ys ++ [y]) S3) else I ds ρ1 ys S2))) :
  ∀ ds ρ ys S, I ds ρ ys S -> (∀ ρ zs S', I [] ρ (ys ++ zs) S' -> Q zs S') -> runs (cK it g t m ds ρ) S Q
 | [], ρ, ys, S, h, hq => by
  unfold cK
  rw [aG, im]
  exact ⟨hchk _ _ _ _ h, av.mpr (hq ρ [] S (by rw [List.append_nil]; exact h))⟩
 | d :: ds, ρ, ys, S, h, hq => by
  unfold cK
  rw [aG, im]
  refine ⟨hchk _ _ _ _ h, ?_⟩
  rw [aG]
  refine a9 (hturn d ds ρ ys S h) fun ρ1 S1 h1 => ?_
  rw [aG]
  refine a9 h1 fun k S2 h2 => ?_
  cases k with
  | false => exact iP I hchk hturn ds ρ1 ys S2 h2 hq
  | true =>
   rw [if_pos rfl] at h2
   rw [if_pos rfl, aG]
   refine a9 h2 fun y S3 h3 => ?_
   rw [aG]
   refine iP I hchk hturn ds ρ1 (ys ++ [y]) S3 h3 fun ρ' zs S' h4 => ?_
   exact av.mpr (hq ρ' (y :: zs) S' (by rw [List.append_assoc] at h4; exact h4))
theorem dP {it : Iter} {g : l5} {t : ik} {m : TM} {ρ : aA} {Q : List D -> ae -> Prop} (hl : it.items.length <= lim) (I : List D -> aA -> List D -> ae -> Prop) (hchk : ∀ ds ρ ys S, I ds ρ ys S -> it.okS S)
  (hturn : ∀ d ds ρ ys S, I (d :: ds) ρ ys S -> runs (g d ρ) S (fun ρ1 S1 => runs (t ρ1) S1 (fun k S2 => if k = true then runs (m ρ1) S2 (fun y S3 => I ds ρ1 (ys ++ [y]) S3) else I ds ρ1 ys S2)))
  (h : I it.items ρ [] S) (hq : ∀ ρ zs S', I [] ρ zs S' -> Q zs S') : runs (cS it g t m ρ) S Q := by
 unfold cS
 rw [if_pos hl]
 exact iP I hchk hturn it.items ρ [] S h fun ρ' zs S' h' => hq ρ' zs S' h'
end
end S3
end
section
namespace S7
open PySem PySem.Spec PySem.W PyProof.Rows
section
variable {prog : Program} {w : World} {A : Around} {E : Value -> Shared -> Prop} {s : Shared} {K : Frag} {x C : Addr} {ox : Obj} {od : Option Obj} {name : Str}
theorem sH : Slot "BaseException" "__getattribute__" "BaseException.__getattribute__" :=
 .of (owner := "BaseException") (n := "__getattribute__") (by rw [typeLookup_type, builtinLookup_eq_fast]; kernel_rfl) (by decide +kernel) (by decide +kernel) (by decide +kernel)
  (by first | exact .inl (by decide +kernel) | exact .inr (by decide +kernel)) (by rw [isSubtype_type]; kernel_rfl)
theorem v9 {M : Model} {nameV : Value} {Q : Unit -> Shared -> Prop} (X : K.In s.heap) (I : PySem.W.InstAt s.heap x ox C od) (hm : mroIn K C (.type "BaseException") = some true) (h : Q () s) :
  wpAny M A (checkBuiltinCall "BaseException.__getattribute__" ⟨[.ref x, nameV], []⟩) Q E s := by
 have hk : builtinKind "BaseException.__getattribute__" = some .slot := by decide +kernel
 have hsplit : splitId "BaseException.__getattribute__" = some ("BaseException", "__getattribute__") := by decide +kernel
 have L0 := I.type (M := M)
 have L1 := looks_mroIn (M := M) X hm
 have ha := F.args_bexc_ga (.ref x) nameV
 obtain ⟨hh, g, d, t, os⟩ := s
 have LI : Looks M hh (isInstance (.ref x) (.type "BaseException")) true := L0.andThen L1
 simp only [checkBuiltinCall, hk, hsplit]
 refine wpAny_bind (LI.at ?_)
 repeat (first | wp_step)
 exact h
theorem z5 {fill expr : Bool} {tk : Tok} {Q : Value -> Shared -> Prop} (X : K.In s.heap) (I : PySem.W.InstAt s.heap x ox C od) (hga : findIn K (.ref C) "__getattribute__" = some (some (.builtin "BaseException.__getattribute__")))
  (hgt : findIn K (.ref C) "__getattr__" = some none) (hm : mroIn K C (.type "BaseException") = some true)
  (h : wpAny (model prog w) A.in1 (Builtin.«object.__getattribute__» ⟨[.ref x, .str name tk], []⟩)
   (fun fin s' => match fin with | .done (.ret v) => wpAny (model prog w) A (handedOut v) Q E s' | _ => False) (fun _ _ => False) s) :
  wpAny (model prog w) A (getAttrBy (.ref x) (.str name tk) fill expr) Q E s := by
 obtain ⟨hh, g, d, t, os⟩ := s
 have L0 := I.type (M := model prog w)
 have L1 := looks_findIn (M := model prog w) X hga
 have L2 := looks_findIn (M := model prog w) X hgt
 have hx0 : (expr && onTheHeap (Value.builtin "BaseException.__getattribute__")) = false := by cases expr <;> rfl
 have hx2 : (Value.builtin "BaseException.__getattribute__" == Value.builtin "object.__getattribute__") = false := by decide +kernel
 have hx1 : (onTheHeap (Value.ref C) && Value.builtin "BaseException.__getattribute__" == Value.builtin "object.__getattribute__") = false := by rw [hx2, Bool.and_false]
 unfold getAttrBy
 refine wpAny_holding (wpAny_bind (L0.at (wpAny_bind (L1.at ?_))))
 dsimp only
 rw [hx1]
 simp only [Bool.false_eq_true, if_false]
 unfold getAttrByItsOwn hookBefore
 rw [if_pos (show onTheHeap (Value.ref C) = true from rfl)]
 refine wpAny_bind (L2.at ?_)
 unfold callGetattribute
 rw [hx0]
 simp only [Bool.false_eq_true, if_false]
 refine wpAny_bind (wpAny_attempt (wpAny_holding ?_))
 unfold boundAndCalled
 rw [sH.bind]
 refine wpAny_bind (wpAny_pure ?_)
 refine wpAny_call (codeAny_call_builtin sH.plain F.entry_bexc_ga (v9 X I hm (wpAny_mono h (fun fin s' z => ?_) fun _ _ z => z.elim)))
 rcases fin with (_ | _ | _ | _) | _ <;> first | exact z | exact z.elim
theorem lv {g a : Value} {tk : Tok} {P : Value -> Shared -> Prop} (X : K.In s.heap) (I : PySem.W.InstAt s.heap x ox C od) (hf : findObj K C od name = some (.bind g a))
  (h : wpAny (model prog w) A (call g [a, .ref x, .ref C]) P E s) :
  wpAny (model prog w) A (Builtin.«object.__getattribute__» ⟨[.ref x, .str name tk], []⟩) (fun fin s' => match fin with | .done (.ret v) => P v s' | _ => False) E s := by
 obtain ⟨hh, gg, d, t, os⟩ := s
 have L0 := I.type (M := model prog w)
 have L1 := looks_find (M := model prog w) X I hf
 refine wpAny_bind (wpAny_pure (wpAny_bind (wpAny_pure (wpAny_bind (L0.at (wpAny_bind (L1.at ?_)))))))
 show wpAny _ _ (holding [a] (call g [a, .ref x, .ref C]) >>= ret) _ _ _
 exact wpAny_bind (wpAny_holding (wpAny_mono h (fun v s' z => wpAny_pure z) fun _ _ z => z))
structure ExcC (K : Frag) (C : Addr) : Prop where
 ga : findIn K (.ref C) "__getattribute__" = some (some (.builtin "BaseException.__getattribute__"))
 gt : findIn K (.ref C) "__getattr__" = some none
 be : mroIn K C (.type "BaseException") = some true
 ob : mroIn K C (.type "object") = some true
 cl : findIn K (.ref C) "__class__" = some (some (.builtin "object.__class__"))
 gs : specialIn K (.builtin "object.__class__") "__get__" = some (some (.builtin "getset_descriptor.__get__"))
 tk : takesIn K (.builtin "object.__class__") = some true
 cd : (clsIn K C).isSome = true
 mf : findIn K (.ref C) "many" = some none
 ms : findIn K (.ref C) "most" = some none
def wa (K : Frag) (C : Addr) : Bool := (findIn K (.ref C) "__getattribute__" == some (some (.builtin "BaseException.__getattribute__"))) && (findIn K (.ref C) "__getattr__" == some none) && (mroIn K C (.type "BaseException") == some true) &&
 (mroIn K C (.type "object") == some true) && (findIn K (.ref C) "__class__" == some (some (.builtin "object.__class__"))) && (specialIn K (.builtin "object.__class__") "__get__" == some (some (.builtin "getset_descriptor.__get__"))) &&
 (takesIn K (.builtin "object.__class__") == some true) && (clsIn K C).isSome && (findIn K (.ref C) "many" == some none) && (findIn K (.ref C) "most" == some none)
theorem ExcC.of (h : wa K C = true) : ExcC K C := by
 unfold wa at h
 simp only [Bool.and_eq_true, beq_iff_eq] at h
 obtain ⟨⟨⟨⟨⟨⟨⟨⟨⟨h1, h2⟩, h3⟩, h4⟩, h5⟩, h6⟩, h7⟩, h8⟩, h9⟩, h10⟩ := h
 exact ⟨h1, h2, h3, h4, h5, h6, h7, h8, h9, h10⟩
theorem ud {Q : Option Value -> Shared -> Prop} (c : ExcC K C) (X : K.In s.heap) (I : PySem.W.InstAt s.heap x ox C od) (h : Q (some (.ref C)) { s with toks := s.toks + 1 }) : wpAny (model prog w) A (getAttr? (.ref x) "__class__") Q E s := by
 have hf : findObj K C od "__class__" = some (.bind (.builtin "getset_descriptor.__get__") (.builtin "object.__class__")) := by
  obtain ⟨cd, hc⟩ := Option.isSome_iff_exists.mp c.cd
  unfold findObj
  rw [hc, Option.bind_some, c.cl, Option.bind_some]
  simp [c.gs, c.tk]
 unfold getAttr? getAttrBy?
 refine wpAny_bind (wpAny_mkText (wpAny_bind (wpAny_attempt (z5 (s := { s with toks := s.toks + 1 }) X I c.ga c.gt c.be ?_))))
 refine lv (s := { s with toks := s.toks + 1 }) X I hf ?_
 exact wpAny_call (class_get (s := { s with toks := s.toks + 1 }) (ox := ox) (od := od) X I c.ob (handed_on rfl (wpAny_pure h)))
theorem wb (c : ExcC K C) : KitX K (.ref x) (.ref C) (fun h => ∃ ox od, PySem.W.InstAt h x ox C od) where
 ty := fun _ _ _ ⟨_, _, I⟩ => I.type
 it := fun _ _ X _ => by
  have hcD := c.cd
  unfold clsIn at hcD
  split at hcD
  ·rename_i c' d' cd' sl' ho
   intro A' Q' E' s' k q
   unfold isType loadHead
   exact wpAny_bind (wpAny_loadPart (k _ _ (X _ _ ho)) (wpAny_pure q))
  ·cases hcD
 ne := fun h tp dd its n sl X htp => by
  have hcD := c.cd
  refine Bool.eq_false_iff.mpr fun q => ?_
  have e : C = tp := Value.ref.inj (beq_iff_eq.mp q)
  subst e
  unfold clsIn at hcD
  split at hcD
  ·rename_i c' d' cd' sl' ho
   have z := (X _ _ ho).symm.trans htp
   cases z
  ·cases hcD
 ca := fun X ⟨_, _, I⟩ k => ud c X I k
end
end S7
end
section
namespace S7
open PySem PySem.Spec PyProof.Rows L2 S3
def wc (e T C : Addr) (od : Option Addr) (fl : Value) (h : Heap) : Prop :=
 ∃ oe vs oT ts, h.get? e = some oe /\ oe.cls = .ref C /\ oe.dict = od /\ oe.data = .fields vs /\ vs[1]? = some (.ref T) /\ T ≠ e /\ h.get? T = some oT /\ oT.data = .fields ts /\ ts[3]? = some fl
structure Step (fs : List Addr) (e T : Addr) (h h' : Heap) : Prop where
 keep : ∀ b o, h.get? b = some o -> b ≠ e -> b ≠ T -> b ∉ fs -> h'.get? b = some o
 slot : ∀ b o, h.get? b = some o -> b ≠ e -> b ≠ T -> ∃ sl, h'.get? b = some { o with slots := sl }
 size : h.objs.size <= h'.objs.size
section
variable {M : Model} {A : Around} {E : Value -> Shared -> Prop} {s : Shared} {base : Heap} {env : Env} {outer : List Env} {L e T C : Addr} {od : Option Addr} {fl : Value} {Q : Unit -> Shared -> Prop}
theorem lw (o : Obj) (f : Array Value -> Array Value) : (Obj.mapFields f o).dict = o.dict := by
 obtain ⟨c, d, dt, sl⟩ := o
 cases dt <;> rfl
theorem entry {oe : Obj} {vs : Array Value} {head : Value} {hadNext : Bool} (hfr : A.frames = some (env :: outer)) (hl : s.heap.FunFrames base (env :: outer)) (hf : env.frame = some L)
  (he : s.heap.get? e = some oe) (hc : oe.cls = .ref C) (ho : oe.dict = od) (hd : oe.data = .fields vs) (hsz : 1 < vs.size)
  (h : ∀ h' T', wc e T' C od (rawInt L) h' -> s.heap.objs.size <= T' -> Step (gr (env :: outer)) e e s.heap h' -> Q () { s with heap := h' }) :
  wpAny M A (do let a <- frameOf env; let pl <- entryPlaceOf L hadNext; let b <- EntryCells.newEntry head a .none (rawInt L) .none pl; setField (.ref e) 1 b) Q E s := by
 have hene : e ∉ gr (env :: outer) := fun hm => by obtain ⟨_, o, q, hnf⟩ := hl.mem hm; rw [he] at q; cases q; exact hnf vs hd
 refine wpAny_bind (wpAny_frameOf_fun hfr hl hf fun h1 hs1 => wpAny_bind (wpAny_entryPlaceOf fun pl hpl => ?_))
 unfold EntryCells.newEntry newFields
 refine wpAny_bind (wpAny_newObj_type (?_ : wpAny _ _ _ _ _ _) (hpl.sizeOk5 _ _ _ _ _))
 have he1 : h1.get? e = some oe := (hs1.2.1 e hene).trans he
 have he2 := Heap.get?_push_of_some (h := h1) { cls := .type "traceback", dict := none, data := .fields ([head, .ref L, .none, rawInt L, .none] ++ (if pl.isEmpty then List.replicate 6 Value.none else pl)).toArray } he1
 have hTe : h1.objs.size ≠ e := Nat.ne_of_gt (Heap.lt_size he1)
 have hd3 := Obj.data_mapFields hd (·.setIfInBounds 1 (Value.ref h1.objs.size))
 refine wpAny_setField he2 hd hsz (h _ h1.objs.size ⟨_, _, _, _, Heap.get?_update_self _ he2 (Obj.isFreed_of_fields hd3), ?_, ?_, hd3, by simp [hsz], hTe, (Heap.get?_update_other _ _ (Ne.symm hTe)).trans (Heap.get?_push_size h1 rfl), rfl, ?_⟩ (Nat.le_of_eq hs1.1.symm) ⟨fun b o q n1 _ n3 => ?_, fun b o q n1 _ => ?_, ?_⟩)
 ·rw [Obj.cls_mapFields]; exact hc
 ·rw [lw]; exact ho
 ·first | (simp; done) | (rcases hpl with rfl | ⟨_, _, _, _, _, _, _, rfl⟩ <;> simp)
 ·rw [Heap.get?_update_other _ _ (Ne.symm n1)]
  exact Heap.get?_push_of_some _ ((hs1.2.1 b n3).trans q)
 ·obtain ⟨sl, q2⟩ := hs1.2.2 b o q
  exact ⟨sl, by rw [Heap.get?_update_other _ _ (Ne.symm n1)]; exact Heap.get?_push_of_some _ q2⟩
 ·rw [Heap.size_after_update, Heap.size_push, hs1.1]; exact Nat.le_succ _
theorem rF {oe : Obj} {vs : Array Value} (hfr : A.frames = some (env :: outer)) (hl : s.heap.FunFrames base (env :: outer)) (hf : env.frame = some L)
  (he : s.heap.get? e = some oe) (hc : oe.cls = .ref C) (ho : oe.dict = od) (hd : oe.data = .fields vs) (h1 : vs[1]? = some .none)
  (h : ∀ h' T', wc e T' C od (rawInt L) h' -> s.heap.objs.size <= T' -> Step (gr (env :: outer)) e e s.heap h' -> Q () { s with heap := h' }) : wpAny M A (noteFrame (.ref e) env) Q E s := by
 unfold noteFrame
 simp only [hf]
 refine wpAny_bind (wpAny_field he hd h1 ?_)
 rw [if_neg (by decide)]
 exact entry hfr hl hf he hc ho hd (Array.getElem?_eq_some_iff.mp h1).1 h
theorem m3 (hfr : A.frames = some (env :: outer)) (hl : s.heap.FunFrames base (env :: outer)) (hf : env.frame = some L) (F : wc e T C od .none s.heap)
  (h : ∀ h' T', wc e T' C od (rawInt L) h' -> s.heap.objs.size <= T' -> Step (gr (env :: outer)) e T s.heap h' -> Q () { s with heap := h' }) : wpAny M A (noteFrame (.ref e) env) Q E s := by
 obtain ⟨oe, vs, oT, ts, he, hc, ho, hd, h1, hTe, hT, hdT, h3⟩ := F
 have hs3 : 3 < ts.size := (Array.getElem?_eq_some_iff.mp h3).1
 unfold noteFrame
 simp only [hf]
 refine wpAny_bind (wpAny_field he hd h1 ?_)
 rw [if_pos (show (Value.ref T != Value.none) = true from by simp)]
 refine wpAny_bind (wpAny_field hT hdT h3 ?_)
 rw [if_neg (show ¬ ((Value.none == rawInt L) = true) from by simp [rawInt])]
 refine wpAny_bind (wpAny_setField hT hdT hs3 ?_)
 have other : ∀ b, b ≠ T -> (s.heap.update T (Obj.mapFields (·.setIfInBounds 3 Value.none))).get? b = s.heap.get? b := fun b hb => Heap.get?_update_other _ _ (Ne.symm hb)
 have hl2 : (s.heap.update T (Obj.mapFields (·.setIfInBounds 3 Value.none))).FunFrames base (env :: outer) := hl.of_keeps fun b o q hnf => ⟨o, (other b fun z => by rw [z, hT] at q; cases q; exact hnf ts hdT).trans q, rfl⟩
 refine entry (s := { s with heap := s.heap.update T (Obj.mapFields (·.setIfInBounds 3 Value.none)) }) hfr hl2 hf ((other e (Ne.symm hTe)).trans he) hc ho hd (Array.getElem?_eq_some_iff.mp h1).1 fun h' T' F' l st => h h' T' F' ?_ ⟨fun b o q n1 n2 n3 => st.keep b o ((other b n2).trans q) n1 n1 n3, fun b o q n1 n2 => st.slot b o ((other b n2).trans q) n1 n1, ?_⟩
 ·have := l; rwa [Heap.size_after_update] at this
 ·have := st.size; rwa [Heap.size_after_update] at this
theorem eN (F : wc e T C od fl s.heap) (h : ∀ h', wc e T C od .none h' -> Step [] e T s.heap h' -> Q () { s with heap := h' }) : wpAny M A (setFlight (.ref e) none) Q E s := by
 obtain ⟨oe, vs, oT, ts, he, hc, ho, hd, h1, hTe, hT, hdT, h3⟩ := F
 have hs3 : 3 < ts.size := (Array.getElem?_eq_some_iff.mp h3).1
 refine wpAny_setFlight_none he hd h1 hT hdT hs3 (h _ ⟨oe, vs, _, _, (Heap.get?_update_other _ _ hTe).trans he, hc, ho, hd, h1, hTe, Heap.get?_update_self _ hT (Obj.isFreed_of_fields (Obj.data_mapFields hdT _)), Obj.data_mapFields hdT _, by simp [hs3]⟩
  ⟨fun b o q n1 n2 _ => (Heap.get?_update_other _ _ (Ne.symm n2)).trans q, fun b o q n1 n2 => ⟨o.slots, (Heap.get?_update_other _ _ (Ne.symm n2)).trans q⟩, ?_⟩)
 rw [Heap.size_after_update]; exact Nat.le_refl _
theorem pP {oe : Obj} {vs : Array Value} (hfr : A.frames = some (env :: outer)) (hl : s.heap.FunFrames base (env :: outer)) (hf : env.frame = some L)
  (he : s.heap.get? e = some oe) (hc : oe.cls = .ref C) (ho : oe.dict = od) (hd : oe.data = .fields vs) (h1 : vs[1]? = some .none)
  (h : ∀ h' T', wc e T' C od .none h' -> s.heap.objs.size <= T' -> Step (gr (env :: outer)) e e s.heap h' -> Q () { s with heap := h' }) : wpAny M A (leaving env (.ref e)) Q E s := by
 unfold leaving
 refine wpAny_bind (rF hfr hl hf he hc ho hd h1 fun h' T' F l st => eN (s := { s with heap := h' }) F fun h'' F2 st2 => h h'' T' F2 l ⟨fun b o q n1 n2 n3 => ?_, fun b o q n1 n2 => ?_, Nat.le_trans st.size st2.size⟩)
 ·exact st2.keep b o (st.keep b o q n1 n1 n3) n1 (Nat.ne_of_lt (Nat.lt_of_lt_of_le (Heap.lt_size q) l)) (by simp)
 ·obtain ⟨sl, q2⟩ := st.slot b o q n1 n1
  exact ⟨sl, st2.keep b _ q2 n1 (Nat.ne_of_lt (Nat.lt_of_lt_of_le (Heap.lt_size q) l)) (by simp)⟩
theorem rG (hfr : A.frames = some (env :: outer)) (hl : s.heap.FunFrames base (env :: outer)) (hf : env.frame = some L) (F : wc e T C od .none s.heap)
  (h : ∀ h' T', wc e T' C od .none h' -> s.heap.objs.size <= T' -> Step (gr (env :: outer)) e T s.heap h' -> Q () { s with heap := h' }) : wpAny M A (leaving env (.ref e)) Q E s := by
 unfold leaving
 refine wpAny_bind (m3 hfr hl hf F fun h' T' F l st => eN (s := { s with heap := h' }) F fun h'' F2 st2 => h h'' T' F2 l ⟨fun b o q n1 n2 n3 => ?_, fun b o q n1 n2 => ?_, Nat.le_trans st.size st2.size⟩)
 ·exact st2.keep b o (st.keep b o q n1 n2 n3) n1 (Nat.ne_of_lt (Nat.lt_of_lt_of_le (Heap.lt_size q) l)) (by simp)
 ·obtain ⟨sl, q2⟩ := st.slot b o q n1 n2
  exact ⟨sl, st2.keep b _ q2 n1 (Nat.ne_of_lt (Nat.lt_of_lt_of_le (Heap.lt_size q) l)) (by simp)⟩
end
def jR (P : Program) (w : World) : rY := fun outer H s E x s' =>
 ∃ (e T C : Addr) (od : Option Addr) (H' : Hp), x = .ref e /\ s'.os = s.os /\ AllBare s'.gens /\ Un (gr outer) [] H H' s.heap s'.heap /\ dJ P w H' s'.heap /\ wc e T C od .none s'.heap /\
  H' e = none /\ H' T = none /\ s.heap.get? e = none /\ s.heap.get? T = none /\ E (.ref C) od H'
theorem ue {X : Cx} : kI (jR X.prog X.w) X E0 := fun _ _ _ _ _ _ _ ⟨_, _, _, _, _, _, _, _, _, _, _, _, _, _, _, h⟩ => h.elim
theorem eO {h : Heap} {b e : Addr} {o : Obj} (q : h.get? b = some o) (n : h.get? e = none) : b ≠ e := fun z => by rw [z, n] at q; cases q
theorem Un.fly {fs : List Addr} {H H' : Hp} {h h1 h2 : Heap} {e T : Addr} (u : Un fs [] H H' h h1) (st : Step fs e T h1 h2) (he : h.get? e = none) (hT : h.get? T = none) : Un fs [] H H' h h2 where
 keep := fun b o q n hf hx => st.keep b o (u.keep b o q n hf hx) (eO q he) (eO q hT) hf
 slot := fun b o q n hf hx => by
  obtain ⟨sl, q1⟩ := u.slot b o q n hf hx
  obtain ⟨sl2, q2⟩ := st.slot b _ q1 (eO q he) (eO q hT)
  exact ⟨sl2, q2⟩
 free := u.free
 there := fun b o q hx => by
  obtain ⟨o1, q1⟩ := u.there b o q hx
  obtain ⟨sl2, q2⟩ := st.slot b _ q1 (eO q he) (eO q hT)
  exact ⟨_, q2⟩
 tups := u.tups
 frzs := u.frzs
 tbls := u.tbls
theorem dJ.fly {P : Program} {w : World} {fs : List Addr} {H : Hp} {h1 h2 : Heap} {e T : Addr} (ok : dJ P w H h1) (st : Step fs e T h1 h2) (he : H e = none) (hT : H T = none) (hf : ∀ b ∈ fs, H b = none) : dJ P w H h2 := fun a o q => by
 have k : ∀ b u, H b ≠ none -> h1.get? b = some u -> h2.get? b = some u := fun b u n q => st.keep b u q (fun z => n (by rw [z]; exact he)) (fun z => n (by rw [z]; exact hT)) fun z => n (hf b z)
 refine (ok a o q).stay (fun b u hb => k b u ?_) (fun _ z => z) fun _ _ z => z
 rcases hb with rfl | hb
 ·rw [q]; simp
 ·rw [hb]; simp
section
theorem pQ (l : List Env) (x : Addr) (env : Env) (h : env.frame = some x) : gr (env :: l) = x :: gr l := by
 unfold gr
 rw [List.filterMap_cons, h]
theorem aW.there {P : Program} {w : World} {H : Hp} {h : Heap} {a : Addr} {o : HO} (x : aW P w H h a o) : ∃ ob, h.get? a = some ob := by
 cases o with
 | lst xs => obtain ⟨_, _, _, _, e⟩ := x; exact ⟨_, e⟩
 | tup xs => obtain ⟨_, _, _, ob, e, _⟩ := x; exact ⟨_, e⟩
 | dK kvs => obtain ⟨_, _, _, _, o, _, _, e, _⟩ := x; exact ⟨_, e⟩
 | dT kvs => obtain ⟨_, _, _, _, o, _, _, e, _⟩ := x; exact ⟨_, e⟩
 | set S n => obtain ⟨o, _, _, _, e, _⟩ := x; exact ⟨_, e⟩
 | ins C dx fs => obtain ⟨_, _, _, e, _⟩ := x; exact ⟨_, e⟩
 | own y => exact x
 | xd fs => obtain ⟨_, ⟨_, _, _, e, _⟩, _⟩ := x; exact ⟨_, e⟩
 | rng lo hi => obtain ⟨_, _, _, e⟩ := x; exact ⟨_, e⟩
 | frz ob u => obtain ⟨e, _⟩ := x; exact ⟨_, e⟩
 | tbl ps => exact ⟨_, (show h.get? a = some _ from x)⟩
 | met f y => exact ⟨_, (show h.get? a = some _ from x)⟩
 | ext φ => exact x.2.1
theorem dJ.gone {P : Program} {w : World} {H : Hp} {h : Heap} {a : Addr} (x : dJ P w H h) (e : h.get? a = none) : H a = none := by
 cases q : H a with
 | none => rfl
 | some o =>
  obtain ⟨ob, e2⟩ := aW.there (x a o q)
  rw [e] at e2; cases e2
theorem Un.gone {fs ex : List Addr} {H H' : Hp} {h h' : Heap} {a : Addr} (u : Un fs ex H H' h h') (hx : a ∉ ex) (e : h'.get? a = none) : h.get? a = none := by
 cases q : h.get? a with
 | none => rfl
 | some o =>
  obtain ⟨ob, e2⟩ := u.there a o q hx
  rw [e] at e2; cases e2
end
end S7
end
section
namespace S7
open PySem PySem.Spec PyProof.Rows L2 S3
abbrev Cx.hand (X : Cx) (e : Value) : Cx := { X with A := X.A.mark (some e), calm := false, xe := fun _ _ => False }
section
variable {X : Cx} {pins : List (Addr × Obj)} {σ : L2.St} {H H' : Hp} {s : Shared} {x : Value}
theorem Inv.hand (I : Inv X pins σ H s) (e : Value) : Inv (Cx.hand X e) pins σ H s :=
 ⟨⟨I.ok.mod, I.ok.kind, I.ok.glob, I.ok.blt, I.ok.above, I.ok.inj, I.ok.has, I.ok.cab, (fun z => Bool.noConfusion z), I.ok.frames, I.ok.stk, I.ok.exf, I.ok.bs, I.ok.bsz, I.ok.noex, I.ok.exfs, I.ok.funs, I.ok.frf⟩,
  I.os, I.bare, I.base, I.loc, I.cell, I.free, I.freeC, I.pin, I.hok, I.len⟩
theorem Inv.unhand (ok : X.Ok) (I : Inv (Cx.hand X x) pins σ H s) : Inv X pins σ H s := ⟨ok, I.os, I.bare, I.base, I.loc, I.cell, I.free, I.freeC, I.pin, I.hok, I.len⟩
theorem Inv.local {σ' : L2.St} {h' : Heap} {t' : Nat} {m' : Str -> Option Value} (I : Inv X pins σ H s) (hs : Heap.SameBut X.env.locals s.heap h') (hn : h'.Ns X.env.locals m') (hlen : σ'.length = X.N.length)
  (hl : ∀ (i : Nat) (y : Str) (v : V), X.N[i]? = some y -> σ'[i]? = some (some v) -> yh X.env.scope y -> ∃ u, RelV v u /\ Look X.env h' m' y u) : Inv X pins σ' H { s with heap := h', toks := t' } := by
 have ne : ∀ b o, X.s₀.heap.get? b = some o -> b ≠ X.env.locals := fun b o e => Nat.ne_of_lt (Nat.lt_of_lt_of_le (Heap.lt_size e) I.ok.above)
 refine ⟨I.ok, I.os, I.bare, ⟨fun b o e n hb hx => (hs.2 b (ne b o e)).trans (I.base.keep b o e n hb hx), fun b o e n hb hx => ?_, I.base.free, fun b o e hx => ?_, I.base.tups, I.base.frzs, I.base.tbls⟩, ⟨m', hn, hl⟩, fun y c e => ?_, I.free, I.freeC, fun p hp => ?_, fun a o e => ?_, hlen⟩
 ·obtain ⟨sl, e1⟩ := I.base.slot b o e n hb hx
  exact ⟨sl, (hs.2 b (ne b o e)).trans e1⟩
 ·obtain ⟨o', e1⟩ := I.base.there b o e hx
  exact ⟨o', (hs.2 b (ne b o e)).trans e1⟩
 ·obtain ⟨v, z⟩ := I.cell y c e
  exact ⟨v, z.sameBut hs (I.cne y c e)⟩
 ·obtain ⟨e, n, nl, r⟩ := I.pin p hp
  exact ⟨(hs.2 p.1 nl).trans e, n, nl, r⟩
 ·refine (I.hok a o e).stay (fun c w' hc q => (hs.2 c ?_).trans q) (fun _ q => q) fun _ _ q => q
  rintro rfl
  rcases hc with hc | hc
  ·subst hc; rw [I.free] at e; cases e
  ·rw [I.free] at hc; cases hc
theorem xD {M : Model} {A : Around} {E : Value -> Shared -> Prop} {i : Nat} {y : Str} {pos : Pos} {Q : Unit -> Shared -> Prop} (I : Inv X pins σ H s) (hN : X.N.Nodup) (hi : X.N[i]? = some y) (hk : X.env.scope.names.lookup y = some .local)
  (h : ∀ s', Inv X pins (σ.set i none) H s' -> Q () s') : wpAny M A (do bindName X.env y .none; unbindBehindTheSuite X.env y pos) Q E s := by
 obtain ⟨m, hn, hl⟩ := id I.loc
 refine wpAny_nameGoes_keeps hk hn (by rw [I.ok.kind]; rfl) fun h' v hn' hs => h _ (Inv.local I hs hn' (by rw [List.length_set]; exact I.len) fun j z v' e1 e2 e3 => ?_)
 have hj : j ≠ i := by
  rintro rfl
  by_cases hlt : j < σ.length
  ·rw [List.getElem?_set_self hlt] at e2; cases e2
  ·rw [List.getElem?_eq_none (by rw [List.length_set]; omega)] at e2; cases e2
 rw [List.getElem?_set_ne (Ne.symm hj)] at e2
 obtain ⟨u, r, q⟩ := hl j z v' e1 e2 e3
 refine ⟨u, r, ?_⟩
 rcases q with ⟨k, e⟩ | ⟨k, c, e, q⟩
 ·refine .inl ⟨k, ?_⟩
  have : z ≠ y := fun e => hj (kE hN e1 (e ▸ hi))
  simp [this, e]
 ·exact .inr ⟨k, c, e, q.sameBut hs (I.cne z c e)⟩
end
theorem Un.track {fs : List Addr} {H H' : Hp} {h h' : Heap} {e : Addr} {o : HO} (u : Un fs [] H H' h h') (hn : H' e = none) (he : h.get? e = none) : Un fs [] H (upd H' e o) h h' where
 keep := u.keep
 slot := u.slot
 free := fun b ob q n hx => by rw [aw (eO q he)]; exact u.free b ob q n hx
 there := u.there
 tups := fun b xs q => by have := u.tups b xs q; rw [aw (ay this hn)]; exact this
 frzs := fun b ob x q => by have := u.frzs b ob x q; rw [aw (ay this hn)]; exact this
 tbls := fun b ps q => by
  obtain ⟨more, this⟩ := u.tbls b ps q
  exact ⟨more, by rw [aw (ay this hn)]; exact this⟩
theorem dJ.track {P : Program} {w : World} {H : Hp} {h : Heap} {e : Addr} {o : HO} (ok : dJ P w H h) (hn : H e = none) (new : aW P w (upd H e o) h e o) : dJ P w (upd H e o) h := fun b u q => by
 by_cases hb : b = e
 ·subst hb; rw [aK] at q; cases q; exact new
 ·rw [aw hb] at q
  exact (ok b u q).stay (fun c v _ q => q) (fun c q => by rw [aw (ay q hn)]; exact q) fun c xs q => by rw [aw (ay q hn)]; exact q
theorem xE {P : Program} {w : World} {H : Hp} {h : Heap} {e T C : Addr} {od : Option Addr} {fl : Value} (F : wc e T C od fl h) : aW P w H h e (.ext (lY C e od)) := by
 obtain ⟨oe, vs, oT, ts, he, hc, ho, hd, _⟩ := F
 refine ⟨⟨oe, vs, he, hc, ho, hd⟩, ⟨oe, he⟩, ?_⟩
 rintro h1 h2 ⟨oe, vs, he, r⟩ k
 exact ⟨oe, vs, k _ he, r⟩
structure LamOk (P : Program) (w : World) (K : PySem.W.Frag) (mg : Str -> Option Value) (base : Heap) (k : Nat) (f : Addr) (sp : Hp -> VK -> XK -> Prop) : Prop where
 fn : ∃ o fd, base.get? f = some o /\ o.data = .func fd
 run : ∀ (A : Around) (outer : List Env) (s : Shared) (H : Hp) (Q : VK) (E : XK), Room k A -> aA P w K mg base A outer s H -> sp H Q E -> codeAny (model P w) A (.call (.ref f) ⟨[], []⟩) (CR (jR P w) outer P w H s Q E) s
section
variable {X : Cx} {k i jn jy : Nat} {f CW : Addr} {sp : Hp -> VK -> XK -> Prop} {x c n y : Str} {p cpos epos np p1 p2 p3 hpos tpos : Pos}
theorem uf (hst : X.stack = X.env :: X.outer) (hfm : X.env.frame = some X.env.locals) (L : LamOk X.prog X.w X.K X.mg X.base k f sp) (hr : Room k X.A) (hN : X.N.Nodup) (hi : X.N[i]? = some x) (hv : yh X.env.scope x)
  (hjn : X.N[jn]? = some n) (hjy : X.N[jy]? = some y) (hln : X.env.scope.names.lookup n = some .local) (hly : X.env.scope.names.lookup y = some .local) (hg : Gl X c) (hm : X.mg c = some (.ref CW)) 
  (hd : (x == ("__debug__" : Str)) = false := by decide) (hcd : (x == ("__classdict__" : Str)) = false := by decide) (hdc : (c == ("__debug__" : Str)) = false := by decide) (hdn : (n == ("__debug__" : Str)) = false := by decide) (hcdn : (n == ("__classdict__" : Str)) = false := by decide)
  (hsw : swapsWith (.Call (.Name x p) [] [] cpos) none epos.line X.env = pure false := by rfl) (hsw2 : swapsWith (.Name n p2) (some (.Name y p1)) p3.line X.env = pure false := by rfl) :
  PS X (.Try [.Expr (.Call (.Name x p) [] [] cpos) epos] [.ExceptHandler (some (.Name c np)) (some n) [.Assign [.Name y p1] (.Name n p2) p3] hpos] [] [] tpos)
   (fun D σ H => σ[i]? = some (some (.ref f)) /\ sp H (fun _ H1 => D.nx σ H1) (fun cls od H1 => ∃ C, cls = .ref C /\ PySem.W.exmOne X.K (.ref C) (.ref CW) = some true /\ ∀ e, H1 e = none -> D.nx (((σ.set jn (some (.ref e))).set jy (some (.ref e))).set jn none) (upd H1 e (.ext (lY C e od))))) := by
 intro pins s σ H D I ⟨hσ, hsp⟩
 refine wpAny_Try_except (wpAny_execs_cons (wpAny_Expr_any ?_ I.quiet hsw))
 refine wpAny_Call_Name_kw (wpAny_mono (qy (X := X.nox) hi hv hd hcd pins s σ H (fun v H1 => v = .ref f /\ H1 = H) (I.wish _) ⟨_, hσ, rfl, rfl⟩) (fun u s1 hq1 => ?_) fun _ _ z => False.elim z)
 obtain ⟨v, H1, I1, r1, ev, eH⟩ := hq1
 subst ev eH
 obtain rfl : u = Value.ref f := r1
 have I1 := I1.unwish
 obtain ⟨o, fd, ho, hdat⟩ := L.fn
 refine callWith_meth0 hdat (I1.bk f o ho) (wpAny_call (codeAny_mono (L.run X.A X.stack s1 H1 _ _ hr I1.env0 hsp) fun r s' hq => ?_))
 cases r with
 | ok fl =>
  cases fl with
  | ret u =>
   obtain ⟨v, H2, I2, _, q⟩ := I1.after hq
   exact wpAny_execs_nil (wpAny_execs_nil ⟨σ, H2, I2, q⟩)
  | next => exact False.elim hq
  | brk => exact False.elim hq
  | cont => exact False.elim hq
 | error ev =>
  obtain ⟨e, T, C', od, H', rfl, os, bare, un, hok, F, ne, nT, le, lT, C, eC, hx, hD⟩ := hq
  cases eC
  have I2 : L2.Inv X pins σ H' s' := I1.call' (ch := []) os un hok bare (fun b z => absurd z (by simp))
  have hff : ∀ b ∈ gr X.stack, H' b = none := I2.stkFree
  refine m3 (base := X.base) (outer := X.outer) (by rw [I2.ok.frames, hst]) (by rw [<- hst]; exact I2.stack) hfm F fun h1 T1 F1 l1 st1 => ?_
  rw [<- hst] at st1
  have nT1 : H' T1 = none := hok.fresh l1
  refine eN (s := { s' with heap := h1 }) F1 fun h2 F2 st2 => ?_
  have lT1 : s1.heap.get? T1 = none := Un.gone un (by simp) (Heap.get?_none_of_le l1)
  have hok1 : dJ X.prog X.w H' h1 := dJ.fly hok st1 ne nT hff
  have hok2 : dJ X.prog X.w H' h2 := dJ.fly hok1 st2 ne nT1 (fun b z => absurd z (by simp))
  have un1 : Un (gr X.stack) [] H1 H' s1.heap h1 := Un.fly un st1 le lT
  have st2' : ∀ {h a : Heap} {e T : Addr}, Step [] e T h a -> Step (gr X.stack) e T h a := fun st => ⟨fun b o q n1 n2 _ => st.keep b o q n1 n2 (by simp), st.slot, st.size⟩
  have un2 : Un (gr X.stack) [] H1 H' s1.heap h2 := Un.fly un1 (st2' st2) le lT1
  have I3 : L2.Inv X pins σ H' { s' with heap := h2 } := I1.call' (s' := { s' with heap := h2 }) (ch := []) os un2 hok2 bare (fun b z => absurd z (by simp))
  refine wpAny_handleBy_cons (codeAny_handlers_test (iZ (X := Cx.hand X (.ref e)) (Inv.hand I3 _) hg hm ?_ hdc)) (by intro q; cases q)
  have LT : PySem.W.Looks (model X.prog X.w) h2 (typeOf (.ref e)) (.ref C') := by
   obtain ⟨oe, vs, oT, ts, he, hc, _⟩ := F2
   exact hc ▸ (PySem.W.Looks.ld he).andThen .now
  refine (PySem.W.exm_one (h := h2) I3.kIn LT hx).at ?_
  refine codeAny_handlers_suite_as (eN (s := { s' with heap := h2 }) F2 fun h3 F3 st3 => ?_)
  have hok3 : dJ X.prog X.w H' h3 := dJ.fly hok2 st3 ne nT1 (fun b z => absurd z (by simp))
  have un3 : Un (gr X.stack) [] H1 H' s1.heap h3 := Un.fly un2 (st2' st3) le lT1
  have I4 : L2.Inv X pins σ (upd H' e (.ext (lY C' e od))) { s' with heap := h3 } :=
   I1.call' (s' := { s' with heap := h3 }) (ch := []) os (Un.track un3 ne le) (dJ.track hok3 ne (xE F3)) bare (fun b z => absurd z (by simp))
  refine kF (X := X) I4 hN hjn (.inl hln) (v := .ref e) rfl (fun s5 I5 => ?_) (.inr hln)
  have hl : jn < σ.length := by rw [I.len]; exact (List.getElem?_eq_some_iff.mp hjn).1
  have ps := rX (uP (X := Cx.hand X (.ref e)) (pos := p3) (pos' := p1) hN hjy (.inl hly) (qy (X := Cx.hand X (.ref e)) (pos := p2) hjn (.inl hln) hdn hcdn) hsw2 (.inr hly))
  refine wpAny_mono (ps pins s5 _ _ { nx := fun σ6 H6 => σ6 = (σ.set jn (some (.ref e))).set jy (some (.ref e)) /\ H6 = upd H' e (.ext (lY C' e od)), rt := fun _ _ => False } (Inv.hand I5 _) ⟨.ref e, by rw [List.getElem?_set_self hl], rfl, rfl⟩) (fun fl s6 hq => ?_) fun _ _ z => False.elim z
  cases fl with
  | next =>
   obtain ⟨σ6, H6, I6, e1, e2⟩ := hq
   subst e1 e2
   exact xD (Inv.unhand I.ok I6) hN hjn hln fun s7 I7 => ⟨_, _, I7, hD e ne⟩
  | ret u => obtain ⟨_, _, _, _, _, z⟩ := hq; exact False.elim z
  | brk => obtain ⟨_, _, _, z⟩ := hq; exact False.elim z
  | cont => obtain ⟨_, _, _, z⟩ := hq; exact False.elim z
end
end S7
end
section
namespace S7
open PySem PySem.Spec PyProof.Rows L2 S3
structure BaseL (K : PySem.W.Frag) (mg : Str -> Option Value) (base : Heap) : Prop where
 bm : ∃ bm ob, mg "__builtins__" = some (.ref bm) /\ bm ≠ builtinsNs /\ base.get? bm = some ob /\ ob.cls = .type "module" /\ ob.dict = some builtinsNs /\ ob.data = .plain
 cd : ∀ x ∈ bj, ∀ c P, PySem.W.tabIn K x = some (c, P) -> PySem.W.CodeHd base c P
theorem BaseL.keeps {K : PySem.W.Frag} {mg : Str -> Option Value} {h h' : Heap} (B : BaseL K mg h) (k : ∀ b o, h.get? b = some o -> h'.get? b = some o) : BaseL K mg h' :=
 ⟨let ⟨bm, ob, h1, h2, h3, r⟩ := B.bm; ⟨bm, ob, h1, h2, k _ _ h3, r⟩, fun x hx c P e => (B.cd x hx c P e).keeps k⟩
def oo (K : PySem.W.Frag) : Prop := ∀ x ∈ bj, ∀ y ∈ bj, ∀ c d P, PySem.W.tabIn K x = some (c, P) -> PySem.W.tabIn K y = some (d, P) -> x = y
theorem rH {pos : Pos} {c v : Value} {a b : Int} (l : List Value) (h : TriplesOk l) (e : codeAmong pos (l ++ [rawInt a, rawInt b, c]) = some v) : codeAmong pos l = some v \/ v = c := by
 fun_induction TriplesOk l with
 | case1 =>
  have e' : (if a == (pos.line : Int) && b == (pos.col : Int) then some c else none) = some v := e
  split at e'
  ·exact .inr (Option.some.inj e').symm
  ·cases e'
 | case2 a' t b' u x rest ih =>
  simp only [List.cons_append, codeAmong] at e ⊢
  split at e
  ·next hq => rw [if_pos hq]; exact .inl e
  ·next hq => rw [if_neg hq]; exact ih h e
 | case3 l h1 h2 => exact h.elim
section
variable {X : Cx} {pins : List (Addr × Obj)} {σ : L2.St} {H : Hp} {s : Shared} {x ql : Str} {c P : Addr} {params : Arguments} {body : Expr} {scope : Scope} {pos : Pos} {clos : List (Str × Addr)} {Q : Value -> Shared -> Prop} {E : Value -> Shared -> Prop} {A : Around}
theorem z6 (hx : x ∈ bj) (ht : PySem.W.tabIn X.K x = some (c, P)) (hcode : X.env.code = .ref c) (hq : X.env.qual ++ "<lambda>" = ql) (hql : ql = x ++ ".<locals>.<lambda>") (B : BaseL X.K X.mg X.base) (TI : oo X.K) (hcl : closureFor scope X.env = pure clos)
  (hdef : defaultsOf params X.env = ([], [])) (I : L2.Inv X pins σ H s) (T : TabsOk X.K H)
  (h : ∀ f c' ctv pm H1 s1, L2.Inv X pins σ H1 s1 -> s.heap.objs.size <= f -> s1.heap.get? f = some (PySem.W.kla_obj "<lambda>" ql params body scope clos pm c' ctv) -> H1 f = none -> H1 c' = some (.ext (lZ ql c')) ->
   (∀ a o, H a = some o -> (∀ ps, o ≠ .tbl ps) -> H1 a = some o) -> (∀ a, H a = none -> H1 a ≠ none -> s.heap.objs.size <= a) -> TabsOk X.K H1 -> Q (.ref f) s1) :
  wpAny (model X.prog X.w) A (eval (.Lambda params body scope pos) X.env) Q E s := by
 refine PySem.W.kla_eval hdef ?_
 rw [hq]
 obtain ⟨ps, hP, hT, hA⟩ := T x hx c P ht
 have C : PySem.W.CodeHd s.heap c P := (B.cd x hx c P ht).keeps I.bk
 have oP : s.heap.get? P = some (PySem.W.tabObj ps) := I.hok P _ hP
 have hg : s.heap.Ns mainGlobals X.mg := I.mod.glob.keeps I.bk
 have neP : ∀ b, H b = none -> b ≠ P := fun b n z => by rw [z, hP] at n; cases n
 have gP : mainGlobals ≠ P := by
  obtain ⟨o, es, ep, e, _⟩ := I.mod.glob
  exact neP _ (I.bs _ _ e).2
 have hb : s.heap.BuiltinsAt X.mg P := by
  obtain ⟨bm, ob, b1, b2, b3, b4, b5, b6⟩ := B.bm
  refine ⟨bm, ob, b1, b2, fun z => ?_, neP _ (I.bs _ _ b3).2, I.bk _ _ b3, b4, b5, b6⟩
  obtain ⟨o, es, ep, e, hd, _⟩ := I.mod.glob
  rw [z, e] at b3; cases b3; rw [hd] at b6; cases b6
 cases hn : codeAmong pos ps.toList with
 | some cv =>
  obtain ⟨c', rfl, hc'⟩ := hA pos cv hn
  rw [<- hql] at hc'
  refine PySem.W.kla_makeFunctionHit hcl I.ok.glob hg hcode C oP hT hn hb fun ctv h' tk hk hsz => ?_
  have hk2 : ∀ b o, s.heap.get? b = some o -> (h'.push { cls := .type "function", data := .func (PySem.W.kla_fn "<lambda>" ql params body scope clos ((X.mg "__name__").getD .none) (.ref c') ctv) }).get? b = some o := fun b o e => Heap.get?_push_of_some _ (hk b o e)
  exact h _ c' ctv _ H _ (I.kept (t' := tk) hk2) hsz (Heap.get?_push_size _ rfl) (I.hok.fresh hsz) hc' (fun a o e _ => e) (fun a n z => absurd n z) T
 | none =>
  refine PySem.W.kla_makeFunction hcl I.ok.glob hg hcode C oP hT hn gP hb fun c' ctv h' tk hX hge hlt hrec htb => ?_
  have nc : H c' = none := I.hok.fresh hge
  have cP : P ≠ c' := fun z => by rw [<- z, hP] at nc; cases nc
  have hk2 : ∀ b o, b ≠ P -> s.heap.get? b = some o -> (h'.push (PySem.W.kla_obj "<lambda>" ql params body scope clos ((X.mg "__name__").getD .none) c' ctv)).get? b = some o := fun b o n e => Heap.get?_push_of_some _ (hX b o n e)
  have oP2 : (h'.push (PySem.W.kla_obj "<lambda>" ql params body scope clos ((X.mg "__name__").getD .none) c' ctv)).get? P = some (PySem.W.tabObj (ps ++ #[rawInt pos.line, rawInt pos.col, .ref c'])) := Heap.get?_push_of_some _ htb
  have old : ∀ a o, H a = some o -> a ≠ P -> upd (upd H P (.tbl (ps ++ #[rawInt pos.line, rawInt pos.col, .ref c']))) c' (.ext (lZ ql c')) a = some o := fun a o e n => by rw [aw (ay e nc), aw n]; exact e
  have hlt2 : ∀ b o, s.heap.get? b = some o -> b ≠ c' := fun b o e => Nat.ne_of_lt (Nat.lt_of_lt_of_le (Heap.lt_size e) hge)
  have un : Un X.fs [] H (upd (upd H P (.tbl (ps ++ #[rawInt pos.line, rawInt pos.col, .ref c']))) c' (.ext (lZ ql c'))) s.heap (h'.push (PySem.W.kla_obj "<lambda>" ql params body scope clos ((X.mg "__name__").getD .none) c' ctv)) :=
   ⟨fun b o e n _ _ => hk2 b o (neP b n) e, fun b o e n _ _ => ⟨o.slots, hk2 b o (neP b n) e⟩, fun b o e n _ => by rw [aw (hlt2 b o e), aw (neP b n)]; exact n, fun b o e _ => (by
    by_cases z : b = P
    ·subst z; exact ⟨_, oP2⟩
    ·exact ⟨o, hk2 b o z e⟩), fun b xs e => old b _ e (fun z => by rw [z, hP] at e; cases e), fun b o u e => old b _ e (fun z => by rw [z, hP] at e; cases e), fun b qs e => (by
    by_cases z : b = P
    ·subst z
     rw [hP] at e; cases e
     exact ⟨_, by rw [aw cP, aK]⟩
    ·exact ⟨#[], by rw [old b _ e z]; simp⟩)⟩
  have hrec2 : lZ ql c' (h'.push (PySem.W.kla_obj "<lambda>" ql params body scope clos ((X.mg "__name__").getD .none) c' ctv)) := by
   obtain ⟨c2, oc, vs, t, e1, e2, r⟩ := hrec
   exact ⟨c2, oc, vs, t, e1, Heap.get?_push_of_some _ e2, r⟩
  have hok : dJ X.prog X.w (upd (upd H P (.tbl (ps ++ #[rawInt pos.line, rawInt pos.col, .ref c']))) c' (.ext (lZ ql c'))) (h'.push (PySem.W.kla_obj "<lambda>" ql params body scope clos ((X.mg "__name__").getD .none) c' ctv)) := by
   intro a o e
   by_cases za : a = c'
   ·subst za
    rw [aK] at e; cases e
    refine ⟨hrec2, ?_, ?_⟩
    ·obtain ⟨c2, oc, vs, t, e1, e2, _⟩ := hrec2
     cases e1
     exact ⟨oc, e2⟩
    ·rintro h1 h2 ⟨c2, oc, vs, t, e1, e2, r⟩ k
     cases e1
     exact ⟨a, oc, vs, t, rfl, k _ e2, r⟩
   ·rw [aw za] at e
    by_cases zP : a = P
    ·subst zP
     rw [aK] at e; cases e
     exact oP2
    ·rw [aw zP] at e
     refine (I.hok a o e).stay (fun b u hbb q => hk2 b u ?_ q) (fun b q => old b _ q (fun z => by rw [z, hP] at q; cases q)) fun b xs q => old b _ q (fun z => by rw [z, hP] at q; cases q)
     rintro rfl
     rcases hbb with hbb | hbb
     ·exact zP hbb.symm
     ·rw [hP] at hbb; cases hbb
  refine h _ c' ctv _ _ _ (I.un (t' := tk) un hok) (Nat.le_trans hge (Nat.le_of_lt hlt)) (Heap.get?_push_size _ rfl) ?_ aK (fun a o e n => old a o e (fun z => by rw [z, hP] at e; cases e; exact n _ rfl)) (fun a n z => ?_) fun y hy d P' e => ?_
  ·have : H h'.objs.size = none := I.hok.fresh (Nat.le_trans hge (Nat.le_of_lt hlt))
   rw [aw (Ne.symm (Nat.ne_of_lt hlt)), aw (neP _ this)]; exact this
  ·by_cases za : a = c'
   ·rw [za]; exact hge
   ·rw [aw za, aw (neP a n)] at z; exact absurd n z
  ·by_cases zP : P' = P
   ·subst zP
    obtain rfl : y = x := TI y hy x hx d c P' e ht
    refine ⟨_, by rw [aw cP, aK], ?_, fun p cv q => ?_⟩
    ·have := TriplesOk_snoc pos.line pos.col (.ref c') ps.toList hT
     simpa using this
    ·have q' : codeAmong p (ps.toList ++ [rawInt pos.line, rawInt pos.col, .ref c']) = some cv := by simpa using q
     rcases rH _ hT q' with q2 | q2
     ·obtain ⟨c2, e1, e2⟩ := hA p cv q2
      exact ⟨c2, e1, old _ _ e2 (fun z => by rw [z, hP] at e2; cases e2)⟩
     ·exact ⟨c', q2, by rw [<- hql]; exact aK⟩
   ·obtain ⟨qs, g1, g2, g3⟩ := T y hy d P' e
    exact ⟨qs, old _ _ g1 zP, g2, fun p cv q => let ⟨c2, e1, e2⟩ := g3 p cv q; ⟨c2, e1, old _ _ e2 (fun z => by rw [z, hP] at e2; cases e2)⟩⟩
end
end S7
end
section
namespace S7
open PySem PySem.Spec PyProof.Rows L2 S3
def C9 (K : PySem.W.Frag) (ι : List Addr) (H : Hp) (x : D) (cls : Value) (od : Option Addr) : Prop :=
 ∃ n ds C, x = .exc n ds /\ PySem.W.nsIn K mainGlobals n = some (some (.ref C)) /\ cls = .ref C /\
  ((od = none /\ ds = []) \/ ∃ dx fs, od = some dx /\ H dx = some (.xd fs) /\ fs.map (·.1) = ([("many" : Str), ("most" : Str)] : List Str) /\ RelDs K ι H ds (fs.map (·.2)))
def uI (K : PySem.W.Frag) (Ek : XK) : XD := fun x ι _ H => ∀ cls od, C9 K ι H x cls od -> Ek cls od H
def wd (K : PySem.W.Frag) (F : List D -> M D) : Sp := fun vs H Q Ek => ∃ ι S ds, Rep K ι H S /\ RelDs K ι H ds vs /\ cont K (uI K Ek) (F ds) ι S H (ja K Q)
theorem we {K : PySem.W.Frag} {E E' : XD} {α : Type} {c : M α} {ι : List Addr} {S : ae} {H : Hp} {Q : α -> List Addr -> ae -> Hp -> Prop} (h : cont K E c ι S H Q) (k : ∀ x ι' S' H', E x ι' S' H' -> E' x ι' S' H') : cont K E' c ι S H Q := by
 obtain ⟨r, S', e, q⟩ := h
 refine ⟨r, S', e, fun ι1 H1 x1 rep1 => ?_⟩
 have := q ι1 H1 x1 rep1
 cases r with
 | ok a => exact this
 | ex x => exact k x _ _ _ this
def lz {α : Type} (c : M α) : M α := fun S => match c S with
 | some (.ok a, S') => some (.ok a, S')
 | _ => none
theorem jS {K : PySem.W.Frag} {E : XD} {α : Type} {c : M α} {ι : List Addr} {S : ae} {H : Hp} {Q : α -> List Addr -> ae -> Hp -> Prop} (h : cont K E (lz c) ι S H Q) : cont K dm c ι S H Q := by
 obtain ⟨r, S', e, q⟩ := h
 unfold lz at e
 cases z : c S with
 | none => rw [z] at e; cases e
 | some p =>
  obtain ⟨r1, S1⟩ := p
  rw [z] at e
  cases r1 with
  | ok a => cases e; exact ⟨_, _, z, q⟩
  | ex x => cases e
section
variable {X : Cx} {E : XD}
theorem sI {e : Expr} {m : TM} (h : SE X dm e m) : SE X E e (fun ρ => lz (m ρ)) := PE.imp h fun _ _ _ ⟨ι, S, ρ, rep, re, c⟩ => ⟨ι, S, ρ, rep, re, jS c⟩
theorem xF {st : Stmt} {m : bN} (h : SS X dm st m) : SS X E st (fun ρ => lz (m ρ)) := PS.imp h fun _ _ _ ⟨ι, S, ρ, rep, re, c⟩ => ⟨ι, S, ρ, rep, re, jS c⟩
theorem pR {st : List Stmt} {m : bN} (h : pk X dm st m) : pk X E st (fun ρ => lz (m ρ)) := lO.imp h fun _ _ _ ⟨ι, S, ρ, rep, re, c⟩ => ⟨ι, S, ρ, rep, re, jS c⟩
theorem oq {st : List Stmt} {m : bN} (h : pk X.nox dm st m) : pk X dm st m := lO.nox h
end
structure Leaves (X : Cx) (Ek : XK) : Prop where
 st : X.stack = X.env :: X.outer
 fm : X.env.frame = some X.env.locals
 ex : X.ex = []
 xe : ∀ e s', wpAny (model X.prog X.w) X.A (leaving X.env e) (fun _ s'' => jR X.prog X.w X.outer X.H₀ X.s₀ Ek e s'') (fun e' s'' => jR X.prog X.w X.outer X.H₀ X.s₀ Ek e' s'') s' -> X.xe e s'
 ow : PassesOwn (model X.prog X.w) X.A X.env X.xe
section
variable {X : Cx} {Ek : XK}
theorem Leaves.pass (L : Leaves X Ek) : kI (jR X.prog X.w) X Ek := by
 rintro pins σ H s x s' I ⟨e, T, C, od, H', rfl, os, bare, un, hok, F, ne, nT, le, lT, hE⟩
 have I' : L2.Inv X pins σ H' s' := I.call' (ch := []) os un hok bare (fun b z => absurd z (by simp))
 refine L.xe _ _ (rG (base := X.base) (outer := X.outer) (by rw [I'.ok.frames, L.st]) (by rw [<- L.st]; exact I'.stack) L.fm F fun h' T' F' l st => ?_)
 rw [<- L.st] at st
 have hok' : dJ X.prog X.w H' h' := dJ.fly hok st ne nT I'.stkFree
 have un' : Un (gr X.stack) [] H H' s.heap h' := Un.fly un st le lT
 have I2 : L2.Inv X pins σ H' { s' with heap := h' } := I.call' (s' := { s' with heap := h' }) (ch := []) os un' hok' bare (fun b z => absurd z (by simp))
 have hb := I2.base
 have h0 := I.base
 have h0' := I'.base
 rw [L.ex] at hb h0 h0'
 exact ⟨e, T', C, od, H', rfl, I2.os, I2.bare, hb, I2.hok, F', ne, hok.fresh l, Un.gone h0 (by simp) le, Un.gone h0' (by simp) (Heap.get?_none_of_le l), hE⟩
theorem Leaves.new {pins : List (Addr × Obj)} {σ : L2.St} {H : Hp} {e : Addr} {oe : Obj} {vs : Array Value} {C : Addr} {od : Option Addr} {s' : Shared} (L : Leaves X Ek)
  (I : L2.Inv X pins σ H s') (he : s'.heap.get? e = some oe) (hc : oe.cls = .ref C) (ho : oe.dict = od) (hd : oe.data = .fields vs) (h1 : vs[1]? = some .none) (hn : H e = none) (hs : X.s₀.heap.get? e = none) (hE : Ek (.ref C) od H) : X.xe (.ref e) s' := by
 refine L.xe _ _ (pP (base := X.base) (outer := X.outer) (by rw [I.ok.frames, L.st]) (by rw [<- L.st]; exact I.stack) L.fm he hc ho hd h1 fun h' T' F' l st => ?_)
 have hff : ∀ b ∈ gr (X.env :: X.outer), H b = none := by rw [<- L.st]; exact I.stkFree
 have hok' : dJ X.prog X.w H h' := dJ.fly I.hok st hn hn hff
 have hb := I.base
 rw [L.ex] at hb
 have st2 : ∀ b o, X.s₀.heap.get? b = some o -> b ∉ gr X.outer -> b ∉ gr (X.env :: X.outer) := fun b o q n z => by
  rw [pQ X.outer X.env.locals _ L.fm] at z
  rcases List.mem_cons.mp z with z | z
  ·exact absurd (Heap.lt_size q) (by rw [z]; exact Nat.not_lt.mpr I.ok.above)
  ·exact n z
 have ne : ∀ b o, X.s₀.heap.get? b = some o -> b ≠ e := fun b o q => eO q hs
 refine ⟨e, T', C, od, H, rfl, I.os, I.bare, ⟨fun b o q n hf hx => ?_, fun b o q n hf hx => ?_, hb.free, fun b o q hx => ?_, hb.tups, hb.frzs, hb.tbls⟩, hok', F', hn, I.hok.fresh l, hs, Un.gone hb (by simp) (Heap.get?_none_of_le l), hE⟩
 ·exact st.keep b o (hb.keep b o q n hf hx) (ne b o q) (ne b o q) (st2 b o q hf)
 ·obtain ⟨sl, q1⟩ := hb.slot b o q n hf hx
  obtain ⟨sl2, q2⟩ := st.slot b _ q1 (ne b o q) (ne b o q)
  exact ⟨sl2, q2⟩
 ·obtain ⟨o1, q1⟩ := hb.there b o q hx
  obtain ⟨sl2, q2⟩ := st.slot b _ q1 (ne b o q) (ne b o q)
  exact ⟨_, q2⟩
theorem dE {P : Program} {w : World} {K : PySem.W.Frag} {mg : Str -> Option Value} {base : Heap} {N : List Str} {qual : Str} {scope : Scope} {f : Addr} {cd : Value} {A : Around} {outer : List Env} {s₀ : Shared} {H₀ : Hp} :
  Leaves (iz (jR P w) P w K mg base N qual scope f cd A outer s₀ H₀ Ek) Ek := ⟨rfl, rfl, rfl, fun _ _ h => h, PassesOwn.leaving⟩
end
structure DefX (P : Program) (w : World) (K : PySem.W.Frag) (mg : Str -> Option Value) (base : Heap) (k : Nat) (x : Str) (ps : List Str) (F : List D -> M D) : Prop where
 ex : ∃ f fd, FnOk P w K mg base (jR P w) k f fd ps (wd K F) /\ mg x = some (.ref f) /\ PySem.W.keepIn K (.ref f) = true /\ Binds K fd ps []
section
variable {P : Program} {w : World} {K : PySem.W.Frag} {mg : Str -> Option Value} {base : Heap}
theorem z7 {x qual : Str} {st : Stmt} {f : Addr} {fd : FuncData} {N ps : List Str} {k : Nat} {m : bN} (F : Fun K x qual st f fd) (Sc : FnScope N ps (ak st))
  (hbody : ∀ (cdv : Value) (A : Around) (outer : List Env) (s : Shared) (H : Hp) (Ek : XK), Room k (A.deeper (envOfC qual (ak st) s.heap.objs.size f cdv)) -> PySem.W.codeIn K cdv qual = true -> (∃ oc od osl kV doc pm an ct, K.lookup f = some ⟨oc, od, .func (PySem.W.fnOf x qual (eI st) (bR st) (ak st) .none kV doc pm an cdv ct), osl⟩) ->
   pk (iz (jR P w) P w K mg base N qual (ak st) f cdv A outer s H Ek) (uI K Ek) (bR st) m) : FnOk P w K mg base (jR P w) (k + 1) f fd ps (wd K (nQ N.length ps.length m)) := by
 have key : ∀ {vs : List V} {H : Hp} {Q : VK} {Ek : XK}, wd K (nQ N.length ps.length m) vs H Q Ek -> vs.length = ps.length /\ ∃ ι S ds, Rep K ι H S /\ RelDs K ι H ds vs /\ cont K (uI K Ek) (do let o <- m (ds.map some ++ List.replicate (N.length - ps.length) none); outD o) ι S H (ja K Q) := by
  rintro vs H Q Ek ⟨ι, S, ds, rep, r, c⟩
  unfold nQ at c
  by_cases hl : ds.length = ps.length
  ·rw [if_pos hl] at c
   exact ⟨by rw [<- r.length]; exact hl, ι, S, ds, rep, r, c⟩
  ·rw [if_neg hl] at c
   exact (af c).elim
 obtain ⟨oc, od, kV, doc, pm, an, cdv, ct, osl, rfl, lk, hcd⟩ := F.ex
 refine uX lk hcd Sc (fun vs H Q Ek h => (key h).1) fun A outer s H vs Q Ek hr h => ⟨_, hbody cdv A outer s H Ek hr hcd ⟨oc, od, osl, kV, doc, pm, an, ct, lk⟩, ?_⟩
 obtain ⟨hl, ι, S, ds, rep, r, c⟩ := key h
 refine ⟨ι, S, _, rep, ?_, aj (ag c) fun o ι1 S1 H1 e1 rep1 c1 => ?_⟩
 ·have := RelE.start r (N.length - ps.length)
  unfold L2.start
  rw [hl]; exact this
 ·cases o with
  | nx ρ => exact fun σ' _ => ah c1 .refl rep1 _ .non
  | ret d => exact ah c1 .refl rep1
  | bk ρ => exact (af c1).elim
  | ct ρ => exact (af c1).elim
end
section
variable {X : Cx} {Ek : XK} {e : Expr} {es : List Expr} {pos : Pos} {ms : aA -> M (List D)}
theorem gL {x : Str} {k : Nat} {ps : List Str} {F : List D -> M D} {p : Pos} (d : DefX X.prog X.w X.K X.mg X.base k x ps F) (hr : Room k X.A) (hx : kI (jR X.prog X.w) X Ek) (ha : SA X (uI X.K Ek) (e :: es) ms) (hg : Gl X x := by rfl)
  (hdb : (x == ("__debug__" : Str)) = false := by decide) (he : starEach (e :: es) X.env = (false, eval e X.env) :: starEach es X.env := by rfl) (hpl : (backTo pos (starEach es X.env)).any (·.1) = false := by rfl) :
  SE X (uI X.K Ek) (.Call (.Name x p) (e :: es) [] pos) (aP F ms) := by
 obtain ⟨f, fd, G, hm, hk, hb⟩ := d.ex
 refine PE.imp (rZ G hr hg hm hk hb (.nil) (E := Ek) hx ha hdb he hpl) fun σ H Q h => ?_
 obtain ⟨ι, S, ρ, rep, re, c⟩ := h
 refine ⟨ι, S, ρ, rep, re, aj (ag c) fun ds ι1 S1 H1 e1 rep1 c1 vs r1 => ?_⟩
 show wd X.K F (vs ++ []) H1 Q Ek
 rw [List.append_nil]
 exact ⟨ι1, S1, ds, rep1, r1, c1⟩
theorem aD {x : Str} {k : Nat} {ps : List Str} {F : List D -> M D} {p : Pos} (d : DefX X.prog X.w X.K X.mg X.base k x ps F) (hr : Room k X.A) (ha : SA X dm (e :: es) ms) (hg : Gl X x := by rfl)
  (hdb : (x == ("__debug__" : Str)) = false := by decide) (he : starEach (e :: es) X.env = (false, eval e X.env) :: starEach es X.env := by rfl) (hpl : (backTo pos (starEach es X.env)).any (·.1) = false := by rfl) :
  SE X dm (.Call (.Name x p) (e :: es) [] pos) (aP F ms) := by
 obtain ⟨f, fd, G, hm, hk, hb⟩ := d.ex
 refine PE.imp (rZ G hr hg hm hk hb (.nil) (E := E0) ue ha hdb he hpl) fun σ H Q h => ?_
 obtain ⟨ι, S, ρ, rep, re, c⟩ := h
 refine ⟨ι, S, ρ, rep, re, aj (ag c) fun ds ι1 S1 H1 e1 rep1 c1 vs r1 => ?_⟩
 show wd X.K F (vs ++ []) H1 Q E0
 rw [List.append_nil]
 exact ⟨ι1, S1, ds, rep1, r1, we c1 fun _ _ _ _ z => z.elim⟩
end
end S7
end
section
namespace S7
open PySem PySem.Spec PyProof.Rows L2 S3
def bu : List Str := ["WebError", "NoWeb", "NoPlace", "NoPlaces", "NoMap", "NoSharing", "NoRoot", "NoNumber", "NotJoined", "NoTie", "NoText", "NoLine", "NoDeed", "TooGreat"]
def eG (n y : Str) : Bool := n == y || y == "WebError"
abbrev Cd : List Value := [.type "ValueError", .type "Exception", .type "BaseException", .type "object"]
def wf (K : PySem.W.Frag) (n : Str) : Bool := match PySem.W.nsIn K mainGlobals n with
 | some (some (.ref C)) => wa K C && (n == "TooGreat" || PySem.W.excIn K C Cd "ValueError.__new__") && (PySem.W.kitOne K (.ref C) (.type "ValueError") == some true) && (PySem.W.kitOne K (.type "NoneType") (.ref C) == some false) &&
  bu.all (fun y => match PySem.W.nsIn K mainGlobals y with
   | some (some (.ref D)) => PySem.W.kitOne K (.ref C) (.ref D) == some (eG n y) && PySem.W.exmOne K (.ref C) (.ref D) == some (eG n y)
   | _ => false)
 | _ => false
def gM (K : PySem.W.Frag) : Bool := bu.all (wf K) && PySem.W.kitOne K (.type "NoneType") (.type "ValueError") == some false
structure ErrAt (K : PySem.W.Frag) (n : Str) (C : Addr) : Prop where
 ns : PySem.W.nsIn K mainGlobals n = some (some (.ref C))
 ck : ExcC K C
 pl : n = "TooGreat" \/ PySem.W.excIn K C Cd "ValueError.__new__" = true
 ve : PySem.W.kitOne K (.ref C) (.type "ValueError") = some true
 nn : PySem.W.kitOne K (.type "NoneType") (.ref C) = some false
 sub : ∀ y ∈ bu, ∃ D, PySem.W.nsIn K mainGlobals y = some (some (.ref D)) /\ PySem.W.kitOne K (.ref C) (.ref D) = some (eG n y) /\ PySem.W.exmOne K (.ref C) (.ref D) = some (eG n y)
theorem lA {K : PySem.W.Frag} (h : gM K = true) {n : Str} (hn : n ∈ bu) : ∃ C, ErrAt K n C := by
 unfold gM at h
 rw [Bool.and_eq_true] at h
 have h1 := List.all_eq_true.mp h.1 n hn
 unfold wf at h1
 split at h1
 ·next C e =>
  simp only [Bool.and_eq_true, Bool.or_eq_true, beq_iff_eq, List.all_eq_true] at h1
  obtain ⟨⟨⟨⟨a1, a2⟩, a3⟩, a4⟩, a5⟩ := h1
  refine ⟨C, e, .of a1, a2, a3, a4, fun y hy => ?_⟩
  have := a5 y hy
  split at this
  ·next D eD =>
   simp only [Bool.and_eq_true, beq_iff_eq] at this
   exact ⟨D, eD, this.1, this.2⟩
  ·cases this
 ·cases h1
theorem z8 {K : PySem.W.Frag} (h : gM K = true) : PySem.W.kitOne K (.type "NoneType") (.type "ValueError") = some false := by
 unfold gM at h
 rw [Bool.and_eq_true, beq_iff_eq] at h
 exact h.2
theorem xG {K : PySem.W.Frag} {h : Heap} {C : Addr} (X : K.In h) (q : PySem.W.excIn K C Cd "ValueError.__new__" = true) : ∃ bm N nm qn bs hdct sn sub ab col dd k0 k1 k2 k3 k5 mN,
  h.get? C = some (excClassObj nm qn C N bs bm hdct sn sub ab col dd k0 k1 k2 k3 k5 "ValueError.__new__") /\ h.Ns N mN /\ mN "__init__" = none /\ OwnTail h Cd bm := by
 unfold PySem.W.excIn at q
 split at q
 case h_2 => cases q
 case h_1 dd cd sl ho =>
 split at q
 case h_2 => cases q
 case h_1 C' bm k0 k1 k2 k3 n k5 hm hs =>
 simp only [Bool.and_eq_true, beq_iff_eq, Bool.not_eq_true'] at q
 obtain ⟨⟨⟨⟨⟨eC, en⟩, hdel⟩, ht⟩, hok⟩, hni⟩ := q
 subst eC en
 rcases cd with ⟨nm, bs, mro, ns, qn, hd, sn, sub, ab, col, del⟩
 dsimp only at hm hdel hok hni
 subst hm hdel
 obtain rfl : sl = #[k0, k1, k2, k3, some (.builtin "ValueError.__new__"), k5] := by rcases sl with ⟨l⟩; simp only at hs; rw [hs]
 exact ⟨bm, ns, nm, qn, bs, hd, sn, sub, ab, col, dd, k0, k1, k2, k3, k5, _, X _ _ ho, .of_isNs (PySem.W.isNs_of_in X hok), PySem.W.nsMap_none_of_in X hok hni, PySem.W.tail_of_in X ht⟩
section
variable {X : Cx} {Ek : XK} {E : XD}
theorem wg {x : Str} {e : Expr} {es : List Expr} {ms : aA -> M (List D)} {np cpos pos : Pos} (L : Leaves X Ek) (hc : X.calm = true) (eK : gM X.K = true) (hx : x ∈ bu) (hne : x ≠ "TooGreat") (ha : SA X (uI X.K Ek) (e :: es) ms) (hg : Gl X x := by rfl)
  (hdb : (x == ("__debug__" : Str)) = false := by decide) (he : starEach (e :: es) X.env = (false, eval e X.env) :: starEach es X.env := by rfl) (hpl : (backTo cpos (starEach es X.env)).any (·.1) = false := by rfl) :
  SS X (uI X.K Ek) (.Raise (some (.Call (.Name x np) (e :: es) [] cpos)) none pos) (fun ρ => do let ds <- ms ρ; if ds.length <= lim then M.raise (.exc x []) else M.fail) := by
 intro pins s σ H T I h
 obtain ⟨ι, S, ρ, rep, re, c⟩ := h
 obtain ⟨C, EA⟩ := lA eK hx
 have hq := EA.pl.resolve_left hne
 have hm : X.mg x = some (.ref C) := PySem.W.mg_of I.mod.kin I.mod.glob EA.ns
 obtain ⟨bm, N, nm, qn, bs, hdct, sn, sub, ab, col, dd, k0, k1, k2, k3, k5, mN, hC, hN, hni, tl⟩ := xG I.mod.kin hq
 refine wpAny_Raise_call_subU (k5 := k5) (k3 := k3) (k2 := k2) (k1 := k1) (k0 := k0) (nm := nm) (q := qn) (C := C) (N := N) (bm := bm) (bs := bs) (hdct := hdct) (sn := sn) (sub := sub) (ab := ab) (col := col) (dd := dd) PySem.F.excBase_ValueError (by decide) PySem.F.excBase_ValueError (mN := mN) (tl.hasType PySem.F.excBase_ValueError.hasBase) (I.ok.hd hc) (by rw [he]; show (false || (backTo cpos (starEach es X.env)).any (·.1)) = false; rw [hpl]; rfl) hni (iZ I hg hm ⟨rfl, ?_⟩ hdb)
 have hargs := ha cpos pins s σ H _ I ⟨ι, S, ρ, rep, re, aj (ag c) fun ds ι1 S1 H1 e1 rep1 c1 vs r1 => (⟨ι1, S1, ds, rep1, r1, c1⟩ : ∃ ι1 S1 ds, Rep X.K ι1 H1 S1 /\ RelDs X.K ι1 H1 ds vs /\ cont X.K (uI X.K Ek) (if ds.length <= lim then M.raise (.exc x []) else M.fail) ι1 S1 H1 _)⟩
 rw [he] at hargs ⊢
 refine Calls.evalArgs_plain (wpAny_mono hargs (fun us s2 hq2 => ?_) fun _ _ z => z)
 obtain ⟨vs, H1, I1, rv, ι1, S1, ds, rep1, r1, c1⟩ := hq2
 by_cases hl : ds.length <= lim
 ·rw [if_pos hl] at c1
  refine ⟨rfl, ?_, I1.bk _ _ hC, hN.keeps I1.bk, tl.keeps I1.bk, fun h' ea hm => ?_⟩
  ·show us.length <= sizeLine
   rw [<- rv.length, <- r1.length]; exact Nat.le_trans hl gx
  ·obtain ⟨t, h1, h2, h3⟩ := hm.there
   have I2 : L2.Inv X pins σ H1 { s2 with heap := h' } := I1.kept (t' := s2.toks) hm.keeps
   have hb := I1.base
   rw [L.ex] at hb
   obtain ⟨r', S', e', q'⟩ := c1
   cases e'
   refine L.new I2 h1 rfl rfl rfl rfl (dJ.gone I1.hok hm.new) (Un.gone hb (by simp) hm.new) (q' ι1 H1 .refl rep1 _ _ ⟨x, [], C, rfl, EA.ns, rfl, .inl ⟨rfl, rfl⟩⟩)
 ·rw [if_neg hl] at c1
  exact (af c1).elim
def mn (f : Str -> Bool) : D -> M D
 | .exc n _ => if n ∈ bu then pure (.bl (f n)) else M.fail
 | .non => pure (.bl false)
 | _ => M.fail
theorem ug {C a : Addr} {od : Option Addr} {h : Heap} {P : Program} {w : World} {H : Hp} (x : lY C a od h) (hd : od = none \/ ∃ dx fs, od = some dx /\ aW P w H h dx (.xd fs)) : ∃ ox odo, PySem.W.InstAt h a ox C odo := by
 obtain ⟨oe, vs, e, hc, ho, hf⟩ := x
 have hno : PySem.W.notCls oe = true := by unfold PySem.W.notCls; rw [hf]
 rcases hd with rfl | ⟨dx, fs, rfl, h2⟩
 ·exact ⟨oe, none, e, hc, hno, by rw [ho]; trivial⟩
 ·obtain ⟨ob, e2⟩ := aW.there h2
  exact ⟨oe, some ob, e, hc, hno, by rw [ho]; exact e2⟩
theorem xH {pins : List (Addr × Obj)} {σ : L2.St} {H : Hp} {s : Shared} {ι : List Addr} {n : Str} {ds : List D} {v : V} {u cv : Value} {b : Bool} {A : Around} {Q : Value -> Shared -> Prop} {Ex : Value -> Shared -> Prop} (I : L2.Inv X pins σ H s) (r : RelD X.K ι H (.exc n ds) v) (ru : RelV v u)
  (eK : gM X.K = true) (hn : n ∈ bu) (hk : ∀ C, ErrAt X.K n C -> PySem.W.kitOne X.K (.ref C) cv = some b) (h : ∀ tk, Q (.bool b) { s with toks := tk }) : wpAny (model X.prog X.w) A (call (.builtin "isinstance") [u, cv]) Q Ex s := by
 obtain ⟨C, EA⟩ := lA eK hn
 have fin : ∀ {a C2 : Addr} {od : Option Addr}, PySem.W.nsIn X.K mainGlobals n = some (some (.ref C2)) -> v = .ref a -> lY C2 a od s.heap -> (od = none \/ ∃ dx fs, od = some dx /\ aW X.prog X.w H s.heap dx (.xd fs)) -> wpAny (model X.prog X.w) A (call (.builtin "isinstance") [u, cv]) Q Ex s := by
  rintro a C2 od e1 rfl ph hd
  rw [EA.ns] at e1
  cases e1
  obtain rfl : u = Value.ref a := ru
  exact PySem.W.kia_one (wb EA.ck) I.kIn (ug ph hd) (hk C EA) (fun z => nomatch z) h
 cases r with
 | exc e1 e2 => exact fin e1 rfl (I.hok _ _ e2).1 (.inl rfl)
 | excF e1 e2 e3 e4 e5 => exact fin e1 rfl (I.hok _ _ e2).1 (.inr ⟨_, _, rfl, I.hok _ _ e3⟩)
theorem wj {s : Shared} {pins : List (Addr × Obj)} {σ : L2.St} {H : Hp} {cv : Value} {A : Around} {Q : Value -> Shared -> Prop} {Ex : Value -> Shared -> Prop} (I : L2.Inv X pins σ H s) (hk : PySem.W.kitOne X.K (.type "NoneType") cv = some false) (h : ∀ tk, Q (.bool false) { s with toks := tk }) :
  wpAny (model X.prog X.w) A (call (.builtin "isinstance") [.none, cv]) Q Ex s := PySem.W.kia_one PySem.W.kitx_none I.kIn True.intro hk (fun z => nomatch z) h
theorem sJ {m : TM} {e ec : Expr} {p q pos : Pos} {f : Str -> Bool} {cv : Value} {vc : V} (eK : gM X.K = true) (hm : X.mg "isinstance" = none) (he : SE X E e m) (hec : PE X ec (tC vc)) (hvc : ∀ u, RelV vc u -> u = cv) (hn : PySem.W.kitOne X.K (.type "NoneType") cv = some false)
  (hk : ∀ n ∈ bu, ∀ C, ErrAt X.K n C -> PySem.W.kitOne X.K (.ref C) cv = some (f n)) (hg : Gl X "isinstance" := by rfl)
  (hs : starEach [e, ec] X.env = [(false, eval e X.env), (false, eval ec X.env)] := by rfl) (hs2 : starEach [ec] X.env = [(false, eval ec X.env)] := by rfl) :
  SE X E (.Call (.Name "isinstance" p) [e, ec] [] pos) (fun ρ => do let x <- m ρ; mn f x) := by
 have hcall : bD X (.builtin "isinstance") (fun xs H Q => ∃ x ι d, xs = [x, vc] /\ RelD X.K ι H d x /\ ((d = .non /\ Q (.bl false) H) \/ ∃ n ds, d = .exc n ds /\ n ∈ bu /\ Q (.bl (f n)) H)) := by
  intro pins s σ H xs us Q I r h
  obtain ⟨x, ι, d, rfl, rd, hq⟩ := h
  obtain ⟨u, w', rfl, ru, rw'⟩ := vals2 r
  cases hvc _ rw'
  rcases hq with ⟨rfl, q⟩ | ⟨n, ds, rfl, hn', q⟩
  ·cases rd.non_inv
   cases (show u = Value.none from ru)
   exact wj I hn fun tk => ⟨.bl _, H, I.tok tk, rfl, q⟩
  ·exact xH I rd ru eK hn' (fun C EA => hk n hn' C EA) fun tk => ⟨.bl _, H, I.tok tk, rfl, q⟩
 refine PE.imp (e8 hcall hg hm (by decide +kernel) (b7 he (b7 hec fG hs2) (by rw [hs, hs2])) (by decide) (by decide) (by rw [hs, hs2]) (by rw [hs2]; rfl)) fun σ H Q h => ?_
 obtain ⟨ι, S, ρ, rep, re, c⟩ := h
 refine ⟨ι, S, ρ, rep, re, aj (ag c) fun x ι1 S1 H1 e1 rep1 c1 v r => ?_⟩
 refine ⟨v, ι1, x, rfl, r, ?_⟩
 cases x with
 | non => exact .inl ⟨rfl, ah c1 .refl rep1 _ (.bl _)⟩
 | exc n ds =>
  dsimp only [mn] at c1
  by_cases hn' : n ∈ bu
  ·rw [if_pos hn'] at c1
   exact .inr ⟨n, ds, rfl, hn', ah c1 .refl rep1 _ (.bl _)⟩
  ·rw [if_neg hn'] at c1
   exact (af c1).elim
 | _ => exact (af c1).elim
theorem cm {m : TM} {e : Expr} {y : Str} {p q pos : Pos} (eK : gM X.K = true) (hy : y ∈ bu) (G : Mod X.K X.mg X.base) (hm : X.mg "isinstance" = none) (he : SE X E e m) (hg : Gl X "isinstance" := by rfl) (hgy : Gl X y := by rfl) (hd : (y == ("__debug__" : Str)) = false := by decide)
  (hs : starEach [e, .Name y q] X.env = [(false, eval e X.env), (false, eval (.Name y q) X.env)] := by rfl) (hs2 : starEach [.Name y q] X.env = [(false, eval (.Name y q) X.env)] := by rfl) :
  SE X E (.Call (.Name "isinstance" p) [e, .Name y q] [] pos) (fun ρ => do let x <- m ρ; mn (fun n => eG n y) x) := by
 obtain ⟨C, EA⟩ := lA eK hy
 refine sJ (q := q) (vc := .ref C) (cv := .ref C) eK hm he (rW hgy (PySem.W.mg_of G.kin G.glob EA.ns) rfl hd) (fun u z => z) EA.nn (fun n hn C2 EA2 => ?_) hg hs hs2
 obtain ⟨D2, e1, e2, _⟩ := EA2.sub y hy
 rw [EA.ns] at e1
 cases e1
 exact e2
theorem xI {m : TM} {e : Expr} {p q pos : Pos} (eK : gM X.K = true) (hm : X.mg "isinstance" = none) (hmV : X.mg "ValueError" = none) (he : SE X E e m) (hg : Gl X "isinstance" := by rfl) (hgy : Gl X "ValueError" := by rfl)
  (hs : starEach [e, .Name "ValueError" q] X.env = [(false, eval e X.env), (false, eval (.Name "ValueError" q) X.env)] := by rfl) (hs2 : starEach [.Name "ValueError" q] X.env = [(false, eval (.Name "ValueError" q) X.env)] := by rfl) :
  SE X E (.Call (.Name "isinstance" p) [e, .Name "ValueError" q] [] pos) (fun ρ => do let x <- m ρ; mn (fun _ => true) x) :=
 sJ (q := q) (vc := .ty "ValueError") (cv := .type "ValueError") eK hm he (ku hgy hmV (by decide +kernel) rfl) (fun u z => z) (z8 eK) (fun n hn C2 EA2 => EA2.ve) hg hs hs2
end
end S7
end
section
namespace S7
open PySem PySem.Spec PyProof.Rows L2 S3
abbrev gO (ql : Str) (scope : Scope) (f c' : Addr) (cl : List (Str × Addr)) (s : Shared) : Env := PySem.W.envX ql scope s.heap.objs.size f (.ref c') cl
def pS (P : Program) (w : World) (K : PySem.W.Frag) (mg : Str -> Option Value) (base : Heap) (N : List Str) (ql : Str) (scope : Scope) (f c' : Addr) (cl : List (Str × Addr)) (A : Around) (outer : List Env) (s : Shared) (H : Hp) (Ek : XK) : Cx where
 prog := P
 w := w
 K := K
 mg := mg
 base := base
 A := A.deeper (gO ql scope f c' cl s)
 N := N
 s₀ := s
 H₀ := H
 env := gO ql scope f c' cl s
 outer := outer
 stack := gO ql scope f c' cl s :: outer
 ex := []
 calm := true
 fn := fun _ => false
 pn := []
 xe := fun e s' => wpAny (model P w) (A.deeper (gO ql scope f c' cl s)) (leaving (gO ql scope f c' cl s) e) (fun _ s'' => jR P w outer H s Ek e s'') (fun e' s'' => jR P w outer H s Ek e' s'') s'
section
variable {P : Program} {w : World} {K : PySem.W.Frag} {mg : Str -> Option Value} {base : Heap} {N : List Str} {ql : Str} {scope : Scope} {f c' : Addr} {cl : List (Str × Addr)} {params : Arguments} {body : Expr} {pm ctv : Value}
theorem rJ {A : Around} {outer : List Env} {s : Shared} {H : Hp} {Ek : XK} : Leaves (pS P w K mg base N ql scope f c' cl A outer s H Ek) Ek := ⟨rfl, rfl, rfl, fun _ _ h => h, PassesOwn.leaving⟩
structure Caps (base : Heap) (scope : Scope) (cl : List (Str × Addr)) (N : List Str) (vs : List V) : Prop where
 kind : scope.kind = .function
 nocell : ∀ y ∈ scope.names, y.2 ≠ .cell
 co : scope.isCoroutine = false
 gen : scope.isGenerator = false
 inj : ∀ x y c, cl.lookup x = some c -> cl.lookup y = some c -> x = y
 has : ∀ x, scope.names.lookup x = some .free -> ∃ c, cl.lookup x = some c
 cell : ∀ x c, cl.lookup x = some c -> ∃ v, base.IsCell c v
 len : vs.length = N.length
 val : ∀ (i : Nat) (x : Str) (v : V), N[i]? = some x -> vs[i]? = some v -> scope.names.lookup x = some .free /\ ∃ c u, cl.lookup x = some c /\ RelV v u /\ base.IsCell c (some u)
def Bz (K : PySem.W.Frag) (c' : Addr) (ql : Str) (ds : List D) (vs : List V) (m : TM) : Hp -> VK -> XK -> Prop := fun H Q Ek =>
 ∃ ι S, Rep K ι H S /\ H c' = some (.ext (lZ ql c')) /\ RelDs K ι H ds vs /\ cont K (uI K Ek) (m (ds.map some)) ι S H (ja K Q)
theorem dQ {h h' : Heap} {c : Addr} {v : Option Value} (x : h.IsCell c v) (k : ∀ b o, h.get? b = some o -> h'.get? b = some o) : h'.IsCell c v := let ⟨o, e, r⟩ := x; ⟨o, k _ _ e, r⟩
theorem pT {ι : List Addr} {H : Hp} : ∀ {ds : List D} {vs : List V}, RelDs K ι H ds vs -> RelE K ι H (ds.map some) (vs.map some)
 | _, _, .nil => .nil
 | _, _, .cons r t => .cons (fun d z => by cases z; exact ⟨_, rfl, r⟩) (pT t)
theorem z9 {k : Nat} {ds : List D} {vs : List V} {m : TM} (ho : base.get? f = some (PySem.W.kla_obj "<lambda>" ql params body scope cl pm c' ctv)) (cp : Caps base scope cl N vs)
  (hbind : bindArgs (PySem.W.kla_fn "<lambda>" ql params body scope cl pm (.ref c') ctv) ⟨[], []⟩ = pure [])
  (hbody : ∀ (A : Around) (outer : List Env) (s : Shared) (H : Hp) (Ek : XK), Room k (A.deeper (gO ql scope f c' cl s)) -> SE (pS P w K mg base N ql scope f c' cl A outer s H Ek) (uI K Ek) body m) :
  LamOk P w K mg base (k + 1) f (Bz K c' ql ds vs m) := by
 refine ⟨⟨_, _, ho, rfl⟩, fun A outer s H Q Ek hr e0 hsp => ?_⟩
 obtain ⟨ι, S, rep, hc', rd, c⟩ := hsp
 have bk : ∀ b o, base.get? b = some o -> s.heap.get? b = some o := fun b o e => (e0.bs b o e).1
 have hcd : s.heap.CodeRec (.ref c') ql := (e0.hok _ _ hc').1
 refine PySem.W.kla_callFunE hr.depth (bk _ _ ho) rfl cp.co cp.gen rfl hcd ?_
 rw [hbind]
 refine wpAny_pure (wpAny_newFunctionEnv cp.nocell (fun y hy => absurd hy (by simp)) (fun h1 hns hsb => ?_) cp.kind)
 have hk : ∀ b o, s.heap.get? b = some o -> h1.get? b = some o := fun b o e => (hsb.2 b (Nat.ne_of_lt (Heap.lt_size e))).trans (Heap.get?_push_of_some _ e)
 refine ⟨(e0.mod.nolimit.keeps bk).keeps hk, ?_⟩
 show codeAny _ _ (.expr body (gO ql scope f c' cl s)) _ _
 refine PySem.W.kla_codeExpr ?_
 have noA : ∀ b : Addr, b ∉ ([] : List Addr) := fun b z => by cases z
 have nok : ∀ x, scope.names.lookup x ≠ some .cell := fun x e => cp.nocell _ (aS e) rfl
 have I : L2.Inv (pS P w K mg base N ql scope f c' cl A outer s H Ek) [] (vs.map some) H { s with heap := h1, toks := s.toks + 0 } :=
  ⟨⟨e0.mod, cp.kind, rfl, rfl, Nat.le_refl _, cp.inj, (fun x hx => by
    rcases hx with hx | hx
    ·exact absurd hx (nok x)
    ·exact cp.has x hx), (fun _ _ z => Bool.noConfusion z), fun _ => hr.hd, Around.frames_deeper e0.frames, .inr ⟨rfl, rfl⟩, fun b z => absurd z (noA b), e0.bs, e0.bsz, fun b _ _ => noA b, fun b z => absurd z (noA b), e0.funs, e0.frf⟩,
   rfl, e0.bare, Un.kept hk, ⟨_, hns, fun i x v h1' h2 h3 => (by
    have h2' : vs[i]? = some v := by
     rw [List.getElem?_map] at h2
     cases q : vs[i]? with
     | none => rw [q] at h2; cases h2
     | some a => rw [q] at h2; cases h2; rfl
    obtain ⟨hf, cc, u, e1, e2, e3⟩ := cp.val i x v h1' h2'
    exact ⟨u, e2, .inr ⟨.inr hf, cc, e1, dQ (dQ e3 bk) hk⟩⟩)⟩,
   (fun x cc e => let ⟨v, z⟩ := cp.cell x cc e; ⟨v, dQ (dQ z bk) hk⟩), e0.hok.fresh (Nat.le_refl _), (fun x cc e => let ⟨v, o, z, _⟩ := cp.cell x cc e; (e0.bs _ _ z).2),
   (fun p hp => absurd hp (by simp [pS])), e0.hok.kept hk, by rw [List.length_map]; exact cp.len⟩
 refine wpAny_mono (hbody A outer s H Ek (hr.deeper _) [] _ (vs.map some) H Q I ⟨ι, S, ds.map some, rep, pT rd, c⟩) (fun u s' hq => ?_) fun e s' hq => hq
 obtain ⟨v, H', J, r, q⟩ := hq
 exact ⟨v, H', J.os, J.bare, J.base, J.hok, r, q⟩
end
end S7
end
section
namespace S7
open PySem PySem.Spec PyProof.Rows L2 S3
theorem RelE.unset {K : PySem.W.Frag} {ι : List Addr} {H : Hp} : ∀ {ρ : S3.aA} {σ : L2.St} (i : Nat), RelE K ι H ρ σ -> RelE K ι H (ρ.set i none) (σ.set i none)
 | _, _, _, .nil => .nil
 | _, _, 0, .cons _ t => .cons (fun d' z => by cases z) t
 | _, _, i + 1, .cons q t => .cons q (RelE.unset i t)
def wk (jn jy : Nat) (c : M D) (ρ : S3.aA) : M Out := fun S => match c S with
 | some (.ok _, S') => some (.ok (.nx ρ), S')
 | some (.ex (.exc n ds), S') => if n ∈ bu then some (.ok (.nx (((ρ.set jn (some (.exc n ds))).set jy (some (.exc n ds))).set jn none)), S') else none
 | _ => none
open Classical in
noncomputable def pU (i jn jy : Nat) (f : D) (c : M D) : bN := fun ρ => if ρ[i]? = some (some f) then wk jn jy c ρ else M.fail
section
variable {X : Cx} {E : XD} {k i jn jy : Nat} {a c' : Addr} {ql : Str} {ds : List D} {vs : List V} {m : TM} {x n y : Str} {p cpos epos np p1 p2 p3 hpos tpos : Pos}
theorem Aa (hst : X.stack = X.env :: X.outer) (hfm : X.env.frame = some X.env.locals) (L : LamOk X.prog X.w X.K X.mg X.base k a (Bz X.K c' ql ds vs m)) (hr : Room k X.A) (hN : X.N.Nodup) (eK : gM X.K = true) (G : Mod X.K X.mg X.base) (hi : X.N[i]? = some x) (hv : yh X.env.scope x)
  (hjn : X.N[jn]? = some n) (hjy : X.N[jy]? = some y) (hln : X.env.scope.names.lookup n = some .local) (hly : X.env.scope.names.lookup y = some .local) (hg : Gl X "WebError")
  (hd : (x == ("__debug__" : Str)) = false := by decide) (hcd : (x == ("__classdict__" : Str)) = false := by decide) (hdn : (n == ("__debug__" : Str)) = false := by decide) (hcdn : (n == ("__classdict__" : Str)) = false := by decide)
  (hsw : swapsWith (.Call (.Name x p) [] [] cpos) none epos.line X.env = pure false := by rfl) (hsw2 : swapsWith (.Name n p2) (some (.Name y p1)) p3.line X.env = pure false := by rfl) :
  SS X E (.Try [.Expr (.Call (.Name x p) [] [] cpos) epos] [.ExceptHandler (some (.Name "WebError" np)) (some n) [.Assign [.Name y p1] (.Name n p2) p3] hpos] [] [] tpos) (pU i jn jy (.fn a c' ql ds vs) (m (ds.map some))) := by
 obtain ⟨CW, EW⟩ := lA eK (show ("WebError" : Str) ∈ bu from .head _)
 refine PS.imp (uf hst hfm L hr hN hi hv hjn hjy hln hly hg (PySem.W.mg_of G.kin G.glob EW.ns) hd hcd (by decide) hdn hcdn hsw hsw2) fun T σ H h => ?_
 obtain ⟨ι, S, ρ, rep, re, r, S', e, q⟩ := h
 have e : pU i jn jy (.fn a c' ql ds vs) (m (ds.map some)) ρ S = some (r, S') := e
 unfold pU at e
 by_cases hρ : ρ[i]? = some (some (.fn a c' ql ds vs))
 case neg => rw [if_neg hρ] at e; cases e
 rw [if_pos hρ] at e
 unfold wk at e
 obtain ⟨v, e1, rv⟩ := re.get hρ
 cases rv with
 | fn hc' rds =>
  refine ⟨e1, ι, S, rep, hc', rds, ?_⟩
  cases z : m (ds.map some) S with
  | none => rw [z] at e; cases e
  | some pr =>
   obtain ⟨r1, S1⟩ := pr
   rw [z] at e
   cases r1 with
   | ok d =>
    cases e
    exact ⟨_, _, z, fun ι1 H1 x1 rep1 v' _ => q ι1 H1 x1 rep1 σ (re.later rep x1)⟩
   | ex xd =>
    cases xd with
    | exc nm es =>
     dsimp only at e
     split at e
     case isFalse => cases e
     case isTrue hnm =>
     cases e
     refine ⟨_, _, z, fun ι1 H1 x1 rep1 cls od rx => ?_⟩
     obtain ⟨n2, ds2, C, e2, hns, rfl, hdd⟩ := rx
     cases e2
     obtain ⟨C2, EA⟩ := lA eK hnm
     have := EA.ns
     rw [hns] at this
     cases this
     obtain ⟨D2, f1, f2, f3⟩ := EA.sub "WebError" (.head _)
     rw [EW.ns] at f1
     cases f1
     refine ⟨C, rfl, by rw [f3]; simp [eG], fun ea hea => ?_⟩
     have xe : Ext ι1 H1 ι1 (upd H1 ea (.ext (lY C ea od))) := cR hea
     have rn : RelD X.K ι1 (upd H1 ea (.ext (lY C ea od))) (.exc nm es) (.ref ea) := by
      rcases hdd with ⟨rfl, rfl⟩ | ⟨dx, fs, rfl, g1, g2, g3⟩
      ·exact .exc hns aK
      ·exact .excF hns aK (by rw [aw (ay g1 hea)]; exact g1) g2 (g3.later rep1 xe)
     exact q ι1 _ (x1.trans xe) (dL rep1 hea) _ (RelE.unset jn ((((re.later rep x1).later rep1 xe).set rn jn).set rn jy))
    | _ => cases e
end
end S7
end
section
namespace S7
open PySem PySem.Spec PyProof.Rows L2 S3
def uh : List Nat -> S3.aA -> Option (List D)
 | [], _ => some []
 | j :: r, ρ => match ρ[j]? with
  | some (some d) => (uh r ρ).map (d :: ·)
  | _ => none
theorem sK {K : PySem.W.Frag} {ι : List Addr} {H : Hp} {ρ : S3.aA} {σ : L2.St} (re : RelE K ι H ρ σ) : ∀ {js : List Nat} {ds : List D}, uh js ρ = some ds -> ∃ vs, RelDs K ι H ds vs /\ vs.length = js.length /\ ∀ (i j : Nat) (v : V), js[i]? = some j -> vs[i]? = some v -> σ[j]? = some (some v)
 | [], ds, e => by
  cases e
  exact ⟨[], .nil, rfl, fun i j v h => by simp at h⟩
 | j :: r, ds, e => by
  unfold uh at e
  cases q : ρ[j]? with
  | none => rw [q] at e; cases e
  | some o =>
   cases o with
   | none => rw [q] at e; cases e
   | some d =>
    rw [q] at e
    cases q2 : uh r ρ with
    | none => rw [q2] at e; cases e
    | some es =>
     rw [q2] at e
     cases e
     obtain ⟨v, h1, h2⟩ := re.get q
     obtain ⟨vs, g1, g2, g3⟩ := sK re q2
     refine ⟨v :: vs, .cons h2 g1, by simp [g2], fun i j' v' e1 e2 => ?_⟩
     cases i with
     | zero => simp at e1 e2; subst e1 e2; exact h1
     | succ i => exact g3 i j' v' (by simpa using e1) (by simpa using e2)
structure LamScope (X : Cx) (scope : Scope) (N3 : List Str) (js : List Nat) : Prop where
 kind : scope.kind = .function
 nocell : ∀ y ∈ scope.names, y.2 ≠ .cell
 co : scope.isCoroutine = false
 gen : scope.isGenerator = false
 free : ∀ y ∈ scope.names, y.2 = .free -> X.env.kindOf y.1 = some .cell \/ X.env.kindOf y.1 = some .free
 len : js.length = N3.length
 ix : ∀ (i : Nat) (x : Str) (j : Nat), N3[i]? = some x -> js[i]? = some j -> X.N[j]? = some x /\ scope.names.lookup x = some .free
def BA (fs : Scope) (N : List Str) (scope : Scope) (N3 : List Str) (js : List Nat) : Bool :=
 (scope.kind == .function) && scope.names.all (fun y => y.2 != .cell) && !scope.isCoroutine && !scope.isGenerator &&
  scope.names.all (fun y => y.2 != .free || (fs.names.lookup y.1 == some .cell || fs.names.lookup y.1 == some .free)) && (js.length == N3.length) &&
  (N3.zip js).all (fun p => N[p.2]? == some p.1 && scope.names.lookup p.1 == some .free)
theorem Da {X : Cx} {scope : Scope} {N3 : List Str} {js : List Nat} (fs : Scope) (N : List Str) (he : ∀ x, X.env.kindOf x = fs.names.lookup x) (hN : X.N = N) (h : BA fs N scope N3 js = true) : LamScope X scope N3 js := by
 unfold BA at h
 simp only [Bool.and_eq_true, List.all_eq_true, beq_iff_eq, bne_iff_ne, Bool.or_eq_true, Bool.not_eq_true'] at h
 obtain ⟨⟨⟨⟨⟨⟨h1, h2⟩, h3⟩, h4⟩, h5⟩, h6⟩, h7⟩ := h
 refine ⟨h1, h2, h3, h4, fun y hy e => ?_, h6, fun i x j e1 e2 => ?_⟩
 ·rw [he]
  exact (h5 y hy).resolve_left fun z => z e
 ·have hz : (N3.zip js)[i]? = some (x, j) := List.getElem?_zip_eq_some.mpr ⟨e1, e2⟩
  have := h7 _ (List.mem_of_getElem? hz)
  rw [hN]
  exact this
def wl (K : PySem.W.Frag) (R : D -> M D -> List D -> M D) (a c' : Addr) (ql : Str) (ds : List D) (vs : List V) (m : TM) : Sp := fun us H Q _ =>
 ∃ ι S rest es, us = .ref a :: rest /\ Rep K ι H S /\ H c' = some (.ext (lZ ql c')) /\ RelDs K ι H ds vs /\ RelDs K ι H es rest /\ cont K dm (R (.fn a c' ql ds vs) (m (ds.map some)) es) ι S H (ja K Q)
structure RefX (P : Program) (w : World) (K : PySem.W.Frag) (mg : Str -> Option Value) (k k0 : Nat) (x : Str) (ps : List Str) (R : D -> M D -> List D -> M D) : Prop where
 ex : ∃ fr fd, mg x = some (.ref fr) /\ PySem.W.keepIn K (.ref fr) = true /\ Binds K fd ps [] /\ ∀ base, Mod K mg base -> ∀ a c' ql ds vs m, LamOk P w K mg base k0 a (Bz K c' ql ds vs m) -> FnOk P w K mg base (jR P w) k fr fd ps (wl K R a c' ql ds vs m)
abbrev xJ (js : List Nat) (ms : aA -> M (List D)) (m : TM) (R : M D -> List D -> M D) : TM := fun ρ => match uh js ρ with
 | some ds => (do let es <- ms ρ; R (m (ds.map some)) es)
 | none => M.fail
theorem iH {h base base2 : Heap} : ∀ {l : List Env}, h.FunFrames base l -> (∀ b ∈ gr l, base2.get? b = none) -> h.FunFrames base2 l
 | [], _, _ => trivial
 | env :: rest, ⟨hk, ⟨L, o, hf, _, ho, hd⟩, hr⟩, hn => by
  rw [pQ rest L env hf] at hn
  exact ⟨hk, ⟨L, o, hf, hn L (.head _), ho, hd⟩, iH hr fun b hb => hn b (.tail _ hb)⟩
abbrev gQ (X : Cx) (H : Hp) (h : Heap) : Heap := PySem.W.hideAll (iy h H) (gr X.stack)
theorem iQ {X : Cx} {H : Hp} {h : Heap} {b : Addr} {o : Obj} (e : h.get? b = some o) (n : H b = none) (hf : b ∉ gr X.stack) : (gQ X H h).get? b = some o := PySem.W.hideAll_get _ (iX e n) hf
section
variable {X : Cx} {pins : List (Addr × Obj)} {σ : L2.St} {H : Hp} {s : Shared}
theorem ju (I : L2.Inv X pins σ H s) : ∀ b o, X.base.get? b = some o -> (gQ X H s.heap).get? b = some o := fun b o e => by
 obtain ⟨h1, h2⟩ := I.bs b o e
 refine iQ h1 h2 fun z => ?_
 have := (I.stack.mem z).1
 rw [e] at this; cases this
theorem rK (I : L2.Inv X pins σ H s) : Mod X.K X.mg (gQ X H s.heap) :=
 ⟨I.mod.kin.keeps (ju I), I.mod.glob.keeps (ju I), let ⟨mb, h1, h2⟩ := I.mod.blt; ⟨mb, h1.keeps (ju I), h2⟩, I.mod.nolimit.keeps (ju I)⟩
theorem xK (I : L2.Inv X pins σ H s) : L2.aA X.prog X.w X.K X.mg (gQ X H s.heap) X.A X.stack s H :=
 ⟨I.ok.frames, rK I, fun b o e => nj (PySem.W.of_hideAll _ e), by rw [PySem.W.hideAll_size, jD]; exact Nat.le_refl _, iH I.stack fun b hb => PySem.W.hideAll_none _ hb, I.stkFree, I.hok, I.bare⟩
theorem sL (I : L2.Inv X pins σ H s) (hfn : ∀ x, X.fn x = true) {x : Str} {c : Addr} {v : Option Value} (e : X.env.cells.lookup x = some c) (h : s.heap.IsCell c v) : (gQ X H s.heap).IsCell c v := by
 obtain ⟨o, h1, h2⟩ := h
 refine ⟨o, iQ h1 (I.freeC x c e) fun z => ?_, h2⟩
 rcases List.mem_cons.mp (I.stkSub c z) with z | z
 ·exact I.cne x c e z
 ·obtain ⟨_, ob, q, _⟩ := I.ok.funs.mem z
  exact absurd (Heap.lt_size q) (Nat.not_lt.mpr (I.ok.cab x c (hfn x) e))
end
section
variable {X : Cx} {x xl ql : Str} {k k0 : Nat} {ps N3 : List Str} {js : List Nat} {R : D -> M D -> List D -> M D} {R' : M D -> List D -> M D} {params : Arguments} {body : Expr} {scope : Scope} {lpos p pos : Pos} {es : List Expr} {ms : aA -> M (List D)} {m : TM} {c P : Addr}
theorem Ab (d : RefX X.prog X.w X.K X.mg k (k0 + 1) x ps R) (hR : ∀ f c es, R f c es = R' c es) (hr : Room k X.A) (hfn : ∀ x, X.fn x = true) (hxl : xl ∈ bj) (ht : PySem.W.tabIn X.K xl = some (c, P)) (hcode : X.env.code = .ref c) (hq : X.env.qual ++ "<lambda>" = ql) (hql : ql = xl ++ ".<locals>.<lambda>")
  (B : BaseL X.K X.mg X.base) (TI : oo X.K) (hdef : defaultsOf params X.env = ([], [])) (ls : LamScope X scope N3 js) (ha : SA X dm es ms)
  (hbind : ∀ (c' : Addr) (cl : List (Str × Addr)) (pm ctv : Value), bindArgs (PySem.W.kla_fn "<lambda>" ql params body scope cl pm (.ref c') ctv) ⟨[], []⟩ = pure [])
  (hlam : ∀ (base : Heap), Mod X.K X.mg base -> ∀ (f c' : Addr) (cl : List (Str × Addr)) (A : Around) (outer : List Env) (s : Shared) (H : Hp) (Ek : XK), Room k0 (A.deeper (gO ql scope f c' cl s)) -> SE (pS X.prog X.w X.K X.mg base N3 ql scope f c' cl A outer s H Ek) (uI X.K Ek) body m)
  (hg : Gl X x := by rfl) (hdb : (x == ("__debug__" : Str)) = false := by decide)
  (he : starEach (.Lambda params body scope lpos :: es) X.env = (false, eval (.Lambda params body scope lpos) X.env) :: starEach es X.env := by rfl) (hpl : (backTo pos (starEach es X.env)).any (·.1) = false := by rfl) :
  SE X dm (.Call (.Name x p) (.Lambda params body scope lpos :: es) [] pos) (xJ js ms m R') := by
 intro pins s σ H Q I h
 obtain ⟨ι, S, ρ, rep, re, cc⟩ := h
 obtain ⟨fr, fd, hm, hk, hb, F⟩ := d.ex
 have cc : cont X.K dm (xJ js ms m R' ρ) ι S H (ja X.K Q) := cc
 unfold xJ at cc
 cases hcap : uh js ρ with
 | none => rw [hcap] at cc; exact (af cc).elim
 | some ds =>
 rw [hcap] at cc
 dsimp only at cc
 obtain ⟨vs, rds, hvl, hvs⟩ := sK re hcap
 have hhas : ∀ y ∈ scope.names, y.2 = .free -> ∃ a, X.env.cells.lookup y.1 = some a := fun y hy e => I.ok.has y.1 (ls.free y hy e)
 refine wpAny_Call_Name_kw (iZ I hg hm ?_ hdb)
 refine PySem.W.callWith_K (h₀ := X.base) I.ok.mod.kin hk (spliced_more (z6 hxl ht hcode hq hql B TI (i8 scope X.env hhas) hdef I rep.tab fun f c' ctv pm H1 s1 I1 hf1 ho1 hn1 hc1 hsame hnew hT => ?_) he) he hpl
 have x1 : Ext ι H ι H1 := ⟨⟨[], by simp⟩, fun a o e n t => ⟨hsame a o e t, n⟩⟩
 have rep1 : Rep X.K ι H1 S := ⟨rep.nd, rep.len, fun kk a xs e1 e2 => let ⟨ws, g1, g2⟩ := rep.get kk a xs e1 e2; ⟨ws, hsame _ _ g1 (by intro _ z; cases z), g2.later rep x1⟩, hT⟩
 have I1p : L2.Inv X ((f, PySem.W.kla_obj "<lambda>" ql params body scope (gu X.env.cells scope.names []) pm c' ctv) :: pins) σ H1 s1 := I1.pins_of fun q hq' => by
  rcases List.mem_cons.mp hq' with rfl | hq'
  ·exact ⟨ho1, hn1, Ne.symm (Nat.ne_of_lt (Nat.lt_of_lt_of_le I.lt hf1)), I.nofs hf1, fun v z => by cases z⟩
  ·exact I1.pin q (List.mem_append_right _ hq')
 refine cB (ha pos _ s1 σ H1 (fun vs2 H2 => ∃ ι2 S2 ds2, Ext ι H1 ι2 H2 /\ Rep X.K ι2 H2 S2 /\ RelDs X.K ι2 H2 ds2 vs2 /\ cont X.K dm (R' (m (ds.map some)) ds2) ι2 S2 H2 (ja X.K Q)) I1p ⟨ι, S, ρ, rep1, re.later rep x1, aj (ag (d4 cc x1)) fun ds2 ι2 S2 H2 e2 rep2 c2 vs2 r2 => ⟨ι2, S2, ds2, e2, rep2, r2, c2⟩⟩) fun us s2 hq2 => ?_
 obtain ⟨vs2, H2, I2p, rv, ι2, S2, ds2, x2, rep2, r2, c2⟩ := hq2
 have I2 : L2.Inv X pins σ H2 s2 := I2p.pins_of fun q hq' => I2p.pin q (List.mem_append_right _ (.tail _ hq'))
 refine ⟨I2.kIn, ?_⟩
 show wpAny _ _ (call (.ref fr) (.ref f :: us)) _ _ _
 obtain ⟨po, pn, pl, pf, _⟩ := I2p.pin (f, _) (List.mem_append_right _ (.head _))
 have hc2 : H2 c' = some (.ext (lZ ql c')) := (x2.oth c' _ hc1 (rep1.notIn hc1 (by intro _ z; cases z)) (by intro _ z; cases z)).1
 have nf : f ∉ gr X.stack := fun z => by
  rcases List.mem_cons.mp (I2.stkSub f z) with z | z
  ·exact pl z
  ·exact pf z
 have hcl := nD (cells := X.env.cells) scope.names [] hhas (fun _ z => nomatch z)
 have cl_lk : ∀ y a, (gu X.env.cells scope.names []).lookup y = some a -> X.env.cells.lookup y = some a := fun y a e => hcl _ (lookup_mem e)
 have cp : Caps (gQ X H2 s2.heap) scope (gu X.env.cells scope.names []) N3 vs := by
  refine ⟨ls.kind, ls.nocell, ls.co, ls.gen, fun y z a e1 e2 => I.ok.inj y z a (cl_lk y a e1) (cl_lk z a e2), fun y e => mem_lookup (gv scope.names [] (.inl (aS e))), fun y a e => ?_, by rw [hvl]; exact ls.len, fun i y v e1 e2 => ?_⟩
  ·obtain ⟨v, z⟩ := I2.cell y a (cl_lk y a e)
   exact ⟨v, sL I2 hfn (cl_lk y a e) z⟩
  ·have hlt : i < js.length := by rw [<- hvl]; exact (List.getElem?_eq_some_iff.mp e2).1
   obtain ⟨j, hj⟩ : ∃ j, js[i]? = some j := ⟨_, List.getElem?_eq_getElem hlt⟩
   obtain ⟨g1, g2⟩ := ls.ix i y j e1 hj
   have hv := hvs i j v hj e2
   have hkf := ls.free (y, .free) (aS g2) rfl
   have hvis : yh X.env.scope y := by
    rcases hkf with z | z
    ·exact .inr (.inl z)
    ·exact .inr (.inr z)
   obtain ⟨mm, hnm, hl⟩ := I2.loc
   obtain ⟨u, ru, lk⟩ := hl j y v g1 hv hvis
   refine ⟨g2, ?_⟩
   rcases lk with ⟨z, _⟩ | ⟨_, a, ea, hca⟩
   ·have z' : X.env.kindOf y = some .local := z
    rcases hkf with w' | w'
    ·have w2 : X.env.kindOf y = some .cell := w'
     rw [z'] at w2; cases w2
    ·have w2 : X.env.kindOf y = some .free := w'
     rw [z'] at w2; cases w2
   ·obtain ⟨a2, ha2⟩ := mem_lookup (gv (cells := X.env.cells) scope.names [] (.inl (aS g2)))
    have := cl_lk y a2 ha2
    rw [ea] at this
    cases this
    exact ⟨a, u, ha2, ru, sL I2 hfn ea hca⟩
 have LO : LamOk X.prog X.w X.K X.mg (gQ X H2 s2.heap) (k0 + 1) f (Bz X.K c' ql ds vs m) := z9 (iQ po pn nf) cp (hbind c' _ pm ctv) fun A outer s H Ek hr' => hlam _ (rK I2) f c' _ A outer s H Ek hr'
 have G := F (gQ X H2 s2.heap) (rK I2) f c' ql ds vs m LO
 have sp : wl X.K R f c' ql ds vs m (.ref f :: vs2) H2 Q E0 := ⟨ι2, S2, vs2, ds2, rfl, rep2, hc2, (rds.later rep x1).later rep1 x2, r2, by rw [hR]; exact c2⟩
 have hlen : (Value.ref f :: us).length = ps.length := by
  have := G.len _ _ _ _ sp
  rw [<- this, List.length_cons, List.length_cons, rv.length]
 refine wpAny_call (codeAny_mono (G.run X.A X.stack s2 H2 ⟨.ref f :: us, []⟩ (.ref f :: us) (.ref f :: vs2) Q E0 hr (xK I2) (by have := hb s2 (.ref f :: us) I2.kIn (by rw [List.append_nil]; exact hlen); rw [List.append_nil] at this; exact this) (.cons rfl rv) sp) fun r s' hq' => ?_)
 cases r with
 | error e => obtain ⟨_, _, _, _, _, _, _, _, _, _, _, _, _, _, _, z⟩ := hq'; exact False.elim z
 | ok fl =>
  cases fl with
  | ret u => exact I2.after hq'
  | next => exact False.elim hq'
  | brk => exact False.elim hq'
  | cont => exact False.elim hq'
end
end S7
end
section
namespace S7
open PySem PySem.Spec PyProof.Rows L2 S3
def gR (K : PySem.W.Frag) : List Addr := bj.filterMap fun y => (PySem.W.tabIn K y).map (·.2)
theorem ui {K : PySem.W.Frag} {y : Str} {c P : Addr} (hy : y ∈ bj) (e : PySem.W.tabIn K y = some (c, P)) : P ∈ gR K := List.mem_filterMap.mpr ⟨y, hy, by rw [e]; rfl⟩
theorem pV {K : PySem.W.Frag} {P : Addr} (h : P ∈ gR K) : ∃ y c, y ∈ bj /\ PySem.W.tabIn K y = some (c, P) := by
 obtain ⟨y, hy, e⟩ := List.mem_filterMap.mp h
 cases q : PySem.W.tabIn K y with
 | none => rw [q] at e; cases e
 | some p => rw [q] at e; cases e; exact ⟨y, p.1, hy, q⟩
theorem xL {P : Program} {w : World} {K : PySem.W.Frag} {mg mb : Str -> Option Value} {k : Nat} {fa a : Addr} {fd : FuncData} {x : Str} {sp : Sp} {s₁ : Shared} {vs : List Value} {ns : List Int}
  (KX : K.In s₁.heap) (nt : PySem.W.noTabs K = true) (hns : s₁.heap.Ns mainGlobals mg) (hb : s₁.heap.Ns builtinsNs mb) (hbb : ∀ x : Str, x ≠ "__name__" -> mb x = bootBuiltins x) (hlim : s₁.heap.NoLimit) (hg : s₁.gens = #[])
  (hbm : ∃ bm ob, mg "__builtins__" = some (.ref bm) /\ bm ≠ builtinsNs /\ s₁.heap.get? bm = some ob /\ ob.cls = .type "module" /\ ob.dict = some builtinsNs /\ ob.data = .plain)
  (htab : ∀ y ∈ bj, ∀ c Q, PySem.W.tabIn K y = some (c, Q) -> PySem.W.CodeHd s₁.heap c Q /\ s₁.heap.get? Q = some (PySem.W.tabObj #[]))
  (ha : s₁.heap.get? a = some { cls := .type "list", data := .seq vs.toArray }) (hi : IntsAre vs ns) (hl : ns.length <= sizeLine) (hr : Room k callerA)
  (F : ∀ base : Heap, Mod K mg base -> BaseL K mg base -> FnOk P w K mg base (jR P w) k fa fd [x] sp) (hbind : ∀ (s : Shared) (u : Value), BindsTo s fd ⟨[u], []⟩ [(x, u)])
  (hsp : ∀ H : Hp, TabsOk K H -> wL K H a (ns.map V.int) -> sp [.ref a] H (fun v _ => v = .bl true) fun _ _ _ => False) :
  codeAny (model P w) callerA (.call (.ref fa) ⟨[.ref a], []⟩) (fun r s' => r = .ok (.ret (.bool true)) /\ OldK s₁.heap s'.heap /\ s'.os = s₁.os /\ AllBare s'.gens) s₁ := by
 have rv := hZ hi
 have tabO : ∀ Q ∈ gR K, s₁.heap.get? Q = some (PySem.W.tabObj #[]) := fun Q hQ => let ⟨y, c, hy, e⟩ := pV hQ; (htab y hy c Q e).2
 have aT : a ∉ gR K := fun z => by
  have := tabO a z
  rw [ha] at this; cases this
 let H : Hp := fun b => if b ∈ gR K then some (.tbl #[]) else if b = a /\ K.lookup a = none then some (.frz { cls := .type "list", data := .seq vs.toArray } (.lst (ns.map V.int))) else none
 have hT : ∀ b ∈ gR K, H b = some (.tbl #[]) := fun b z => if_pos z
 have hA : ∀ b, b ∉ gR K -> H b = if b = a /\ K.lookup a = none then some (.frz { cls := .type "list", data := .seq vs.toArray } (.lst (ns.map V.int))) else none := fun b z => if_neg z
 have free : ∀ {b : Addr} {o : Obj}, s₁.heap.get? b = some o -> o ≠ PySem.W.tabObj #[] -> (o.cls ≠ .type "list" \/ K.lookup b = some o) -> H b = none := fun {b o} e n1 n2 => by
  have z : b ∉ gR K := fun z => by
   have := tabO b z
   rw [e] at this; exact n1 (Option.some.inj this)
  rw [hA b z, if_neg]
  rintro ⟨rfl, kn⟩
  rcases n2 with n2 | n2
  ·rw [ha] at e; cases e; exact n2 rfl
  ·rw [kn] at n2; cases n2
 have noTab : ∀ {b : Addr} {o : Obj}, K.lookup b = some o -> o ≠ PySem.W.tabObj #[] := fun {b o} e z => by
  have h2 := List.all_eq_true.mp nt (b, o) (PySem.W.mem_of_lookupK e)
  subst z
  exact absurd (show false = true from h2) Bool.false_ne_true
 have hok : dJ P w H s₁.heap := fun b u e => by
  by_cases z : b ∈ gR K
  ·rw [hT b z] at e; cases e
   exact tabO b z
  ·rw [hA b z] at e
   by_cases q : b = a /\ K.lookup a = none
   ·rw [if_pos q] at e; cases e
    obtain ⟨rfl, _⟩ := q
    exact ⟨ha, by rw [List.length_map]; exact hl, vs, _, rv, ha⟩
   ·rw [if_neg q] at e; cases e
 have base_of : ∀ {b : Addr} {o : Obj}, s₁.heap.get? b = some o -> o ≠ PySem.W.tabObj #[] -> (o.cls ≠ .type "list" \/ K.lookup b = some o) -> (iy s₁.heap H).get? b = some o := fun e n1 n2 => iX e (free e n1 n2)
 have nsK : ∀ {b : Addr} {m : Str -> Option Value}, s₁.heap.Ns b m -> (iy s₁.heap H).Ns b m := fun {b m} ⟨o, es, ep, e, d, r⟩ => by
  have z : H b = none := by
   by_cases zt : b ∈ gR K
   ·have := tabO b zt
    rw [e] at this; cases this; cases d
   ·rw [hA b zt, if_neg]
    rintro ⟨rfl, _⟩
    rw [ha] at e; cases e; cases d
  exact ⟨o, es, ep, iX e z, d, r⟩
 have hKb : K.In (iy s₁.heap H) := fun b o e => base_of (KX b o e) (noTab e) (.inr e)
 have hM : Mod K mg (iy s₁.heap H) := ⟨hKb, nsK hns, ⟨mb, nsK hb, hbb⟩, let ⟨mc, h1, h2⟩ := hlim; ⟨mc, nsK h1, h2⟩⟩
 have hB : BaseL K mg (iy s₁.heap H) := by
  refine ⟨?_, fun y hy c Q e => ?_⟩
  ·obtain ⟨bm, ob, b1, b2, b3, b4, b5, b6⟩ := hbm
   exact ⟨bm, ob, b1, b2, base_of b3 (fun z => by rw [z] at b4; cases b4) (.inl (by rw [b4]; decide)), b4, b5, b6⟩
  ·obtain ⟨o, v2, file, tf, flags, tg, inF, text, tt, e1, r1, r⟩ := (htab y hy c Q e).1
   exact ⟨o, v2, file, tf, flags, tg, inF, text, tt, base_of e1 (fun z => by rw [z] at r1; cases r1) (.inl (by rw [r1]; decide)), r1, r⟩
 have e0 : L2.aA P w K mg (iy s₁.heap H) callerA [] s₁ H := ⟨rfl, hM, fun b o e => nj e, Nat.le_of_eq (jD _ _), trivial, fun b hb => absurd (show b ∈ ([] : List Addr) from hb) (by simp), hok, .of_eq hg⟩
 have hTO : TabsOk K H := fun y hy c Q e => ⟨#[], hT Q (ui hy e), trivial, fun pos cv q => by cases q⟩
 have hron : wL K H a (ns.map V.int) := by
  cases hk : K.lookup a with
  | some o =>
   have e := KX a o hk
   rw [ha] at e
   cases e
   exact .inr ⟨_, vs.toArray, _, hk, rfl, rfl, rfl, by rw [List.size_toArray, hi.length]; exact hl, by simpa using rv⟩
  | none => exact .inl ⟨_, by rw [hA a aT, if_pos ⟨rfl, hk⟩]⟩
 refine codeAny_mono ((F _ hM hB).run callerA [] s₁ H ⟨[.ref a], []⟩ [.ref a] [.ref a] _ _ hr e0 (hbind s₁ (.ref a)) (.cons rfl .nil) (hsp H hTO hron)) fun r s' h => ?_
 cases r with
 | error e => obtain ⟨_, _, _, _, _, _, _, _, _, _, _, _, _, _, _, z⟩ := h; exact False.elim z
 | ok fl =>
  cases fl with
  | next => exact False.elim h
  | brk => exact False.elim h
  | cont => exact False.elim h
  | ret u =>
   obtain ⟨v, H', os, bare, un, hok', r', q⟩ := h
   have q' : v = .bl true := q
   subst q'
   obtain rfl : u = Value.bool true := r'
   refine ⟨rfl, ⟨fun b o e => ?_, fun b o e => un.there b o e (by simp)⟩, os, bare⟩
   by_cases zt : b ∈ gR K
   ·obtain ⟨y, c, hy, et⟩ := pV zt
    obtain ⟨hc, hP⟩ := htab y hy c b et
    obtain ⟨more, em⟩ := un.tbls b _ (hT b zt)
    have o2 : s'.heap.get? b = some { cls := .none, data := .fields (#[] ++ more) } := hok' b _ em
    rw [hP] at e; cases e
    exact .inr (.inl ⟨(hc.tab hP).isCodeTable, rfl, #[], more, rfl, o2⟩)
   ·by_cases qa : b = a /\ K.lookup a = none
    ·have z1 : H b = some (.frz { cls := .type "list", data := .seq vs.toArray } (.lst (ns.map V.int))) := by rw [hA b zt, if_pos qa]
     obtain ⟨e2, _⟩ := hok' b _ (un.frzs b _ _ z1)
     obtain ⟨e1, _⟩ := hok b _ z1
     rw [e] at e1; cases e1
     exact .inl e2
    ·exact .inl (un.keep b o e (by rw [hA b zt, if_neg qa]) (by intro z; exact absurd (show b ∈ ([] : List Addr) from z) (by simp)) (by simp))
theorem wm {l : PySem.W.OpenLaw} {n k : Nat} {q : Program} {loose : List Str} {XP : (Str -> Option Value) -> Heap -> Prop} {YP : World -> Heap -> Prop} {d : DefRec} {K : Params -> PySem.W.Frag} {sp : World -> Sp} {x : Str}
  (hn : l.most = some n) (hn2 : n <= sizeLine) (hdf : d.params.defaults = []) (hr : Room k callerA)
  (hY : ∀ (w : World) (h : Heap), YP w h -> (K w.params).In h) (nt : ∀ w : World, PySem.W.noTabs (K w.params) = true)
  (htab : ∀ (w : World) (h : Heap), YP w h -> ∀ y ∈ bj, ∀ c Q, PySem.W.tabIn (K w.params) y = some (c, Q) -> PySem.W.CodeHd h c Q /\ h.get? Q = some (PySem.W.tabObj #[]))
  (F : ∀ (w : World) (mg : Str -> Option Value) (fa : Addr) (h : Heap), (K w.params).In h -> h.Ns mainGlobals mg -> mg d.name = some (.ref fa) ->
   ∃ fd : FuncData, (∀ (s : Shared) (u : Value), BindsTo s fd ⟨[u], []⟩ [(x, u)]) /\
    ∀ base : Heap, Mod (K w.params) mg base -> BaseL (K w.params) mg base -> FnOk l.prog w (K w.params) mg base (jR l.prog w) k fa fd [x] (sp w))
  (hsp : ∀ (w : World) (H : Hp) (a : Addr) (ns : List Int), ns.length <= n -> TabsOk (K w.params) H -> wL (K w.params) H a (ns.map V.int) -> sp w [.ref a] H (fun v _ => v = .bl true) fun _ _ _ => False) :
  PySem.W.WalkO q loose XP YP l.row.toRowW d [] (fun f vs => PySem.call f vs) := by
 refine Att.attach_call hn hdf fun w s₀ s₁ mg mb fa o pm cd doc a vs ns G Y ho hd hcd hmg hobj hints hlen hg => ?_
 have KX := hY w _ Y
 obtain ⟨fd, hb, hF⟩ := F w mg fa _ KX G.T.g hmg
 refine xL KX (nt w) G.T.g G.T.b G.T.builtins G.T.nolimit hg G.T.bmain (fun y hy c Q e => htab w _ Y y hy c Q e) hobj hints (Nat.le_trans hlen hn2) hr hF hb fun H hO hS => hsp w H a ns hlen hO hS
def BB (K : PySem.W.Frag) (ts : List Addr) : Bool := bj.all fun y => match PySem.W.tabIn K y with
 | some (c, Q) => PySem.W.codeHdIn K c Q && ts.contains Q
 | none => true
theorem Db {K : Params -> PySem.W.Frag} {as : List Addr} {e : ∀ P, as = (K P).map (·.1)} {ts : List Addr} {w : World} {h : Heap} (ck : BB (K w.params) ts = true) (Y : (PySem.W.kmHook K as e ts).says w h) :
  ∀ y ∈ bj, ∀ c Q, PySem.W.tabIn (K w.params) y = some (c, Q) -> PySem.W.CodeHd h c Q /\ h.get? Q = some (PySem.W.tabObj #[]) := fun y hy c Q et => by
 have := List.all_eq_true.mp ck y hy
 rw [et] at this
 simp only [Bool.and_eq_true] at this
 exact ⟨PySem.W.codeHd_of_K (PySem.W.km_in_of Y) this.1, PySem.W.km_tabs_of Y Q (List.contains_iff_mem.mp this.2)⟩
def yx (K : PySem.W.Frag) : Bool := bj.all fun x => bj.all fun y => match PySem.W.tabIn K x, PySem.W.tabIn K y with
 | some (_, P), some (_, Q) => P != Q || x == y
 | _, _ => true
theorem Ac {K : PySem.W.Frag} (h : yx K = true) : oo K := fun x hx y hy c d P e1 e2 => by
 have := List.all_eq_true.mp (List.all_eq_true.mp h x hx) y hy
 rw [e1, e2] at this
 simpa using this
end S7
end
section
namespace S7
open PySem PySem.Spec PyProof.Rows L2 S3
def lB (N n : Nat) (m : bN) : List D -> M D := nQ N n (fun ρ => lz (m ρ))
section
variable {P : Program} {w : World} {K : PySem.W.Frag} {mg : Str -> Option Value} {base : Heap}
theorem bw {x qual : Str} {st : Stmt} {f : Addr} {fd : FuncData} {N ps : List Str} {k : Nat} {m : bN} {F0 : List D -> M D} (F : Fun K x qual st f fd) (hm : mg x = some (.ref f)) (hb : Binds K fd ps []) (Sc : FnScope N ps (ak st)) (hF : F0 = lB N.length ps.length m)
  (hbody : ∀ (cdv : Value) (A : Around) (outer : List Env) (s : Shared) (H : Hp) (E : XK), Room k (A.deeper (envOfC qual (ak st) s.heap.objs.size f cdv)) ->
   pk (iz (jR P w) P w K mg base N qual (ak st) f cdv A outer s H E).nox dm (bR st) m) : DefX P w K mg base (k + 1) x ps F0 :=
 ⟨f, fd, by rw [hF]; exact z7 F Sc fun cdv A outer s H Ek hr _ _ => pR (oq (hbody cdv A outer s H Ek hr)), hm, F.kp, hb⟩
theorem ot {x qual : Str} {st : Stmt} {f : Addr} {fd : FuncData} {N ps : List Str} {k : Nat} {m : bN} {F0 : List D -> M D} (F : Fun K x qual st f fd) (hm : mg x = some (.ref f)) (hb : Binds K fd ps []) (Sc : FnScope N ps (ak st)) (hF : F0 = nQ N.length ps.length m)
  (hbody : ∀ (cdv : Value) (A : Around) (outer : List Env) (s : Shared) (H : Hp) (E : XK), Room k (A.deeper (envOfC qual (ak st) s.heap.objs.size f cdv)) ->
   pk (iz (jR P w) P w K mg base N qual (ak st) f cdv A outer s H E) (uI K E) (bR st) m) : DefX P w K mg base (k + 1) x ps F0 :=
 ⟨f, fd, by rw [hF]; exact z7 F Sc fun cdv A outer s H Ek hr _ _ => hbody cdv A outer s H Ek hr, hm, F.kp, hb⟩
theorem xM {x y qual : Str} {f c Pt : Addr} {oc : Value} {od : Option Addr} {osl : Array (Option Value)} {kV doc pm cdv ct dV : Value} {an : Option Addr} {ar : Arguments} {bd : List Stmt} {sc : Scope} (hx : PySem.W.nsIn K mainGlobals x = some (some (.ref f)))
  (lk : K.lookup f = some ⟨oc, od, .func (PySem.W.fnOf y qual ar bd sc dV kV doc pm an cdv ct), osl⟩) (ht : PySem.W.tabIn K x = some (c, Pt)) : cdv = .ref c := by
 unfold PySem.W.tabIn at ht
 rw [hx] at ht
 dsimp only at ht
 rw [lk] at ht
 dsimp only at ht
 cases cdv with
 | ref c2 =>
  dsimp only at ht
  split at ht
  ·split at ht
   ·cases ht; rfl
   ·cases ht
  ·cases ht
 | _ => cases ht
theorem Ad {x qual : Str} {st : Stmt} {f : Addr} {fd : FuncData} {N ps : List Str} {k : Nat} {m : bN} {F0 : List D -> M D} {c Pt : Addr} (F : Fun K x qual st f fd) (Sc : FnScope N ps (ak st)) (hF : F0 = lB N.length ps.length m) (hx : PySem.W.nsIn K mainGlobals x = some (some (.ref f))) (ht : PySem.W.tabIn K x = some (c, Pt))
  (hbody : ∀ (A : Around) (outer : List Env) (s : Shared) (H : Hp) (E : XK), Room k (A.deeper (envOfC qual (ak st) s.heap.objs.size f (.ref c))) ->
   pk (iz (jR P w) P w K mg base N qual (ak st) f (.ref c) A outer s H E).nox dm (bR st) m) : FnOk P w K mg base (jR P w) (k + 1) f fd ps (wd K F0) := by
 rw [hF]
 refine z7 F Sc fun cdv A outer s H Ek hr _ hlk => ?_
 obtain ⟨oc, od, osl, kV, doc, pm, an, ct, lk⟩ := hlk
 have hc : cdv = .ref c := xM hx lk ht
 subst hc
 exact pR (oq (hbody A outer s H Ek hr))
theorem Ae {x qual : Str} {st : Stmt} {f : Addr} {fd : FuncData} {N ps : List Str} {k k0 : Nat} {m : D -> M D -> bN} {R : D -> M D -> List D -> M D} (F : Fun K x qual st f fd) (hm : mg x = some (.ref f)) (hb : Binds K fd ps []) (Sc : FnScope N ps (ak st)) (hR : R = fun fv c es => nQ N.length ps.length (m fv c) (fv :: es))
  (hbody : ∀ (base : Heap), Mod K mg base -> ∀ (a c' : Addr) (ql : Str) (ds : List D) (vs : List V) (mm : TM), LamOk P w K mg base k0 a (Bz K c' ql ds vs mm) -> ∀ (cdv : Value) (A : Around) (outer : List Env) (s : Shared) (H : Hp) (E : XK), Room k (A.deeper (envOfC qual (ak st) s.heap.objs.size f cdv)) ->
   pk (iz (jR P w) P w K mg base N qual (ak st) f cdv A outer s H E).nox dm (bR st) (m (.fn a c' ql ds vs) (mm (ds.map some)))) : RefX P w K mg (k + 1) k0 x ps R := by
 refine ⟨f, fd, hm, F.kp, hb, fun base G a c' ql ds vs mm L => ?_⟩
 rw [hR]
 obtain ⟨oc, od, kV, doc, pm, an, cdv, ct, osl, rfl, lk, hcd⟩ := F.ex
 have key : ∀ {us : List V} {H : Hp} {Q : VK} {Ek : XK}, wl K (fun fv c es => nQ N.length ps.length (m fv c) (fv :: es)) a c' ql ds vs mm us H Q Ek -> us.length = ps.length /\ ∃ ι S es, Rep K ι H S /\ RelDs K ι H es us /\ cont K dm (do let o <- m (.fn a c' ql ds vs) (mm (ds.map some)) (es.map some ++ List.replicate (N.length - ps.length) none); outD o) ι S H (ja K Q) := by
  rintro us H Q Ek ⟨ι, S, rest, es, rfl, rep, hc', rds, res, c⟩
  have rr : RelDs K ι H (.fn a c' ql ds vs :: es) (.ref a :: rest) := .cons (.fn hc' rds) res
  unfold nQ at c
  dsimp only at c
  by_cases hl : (D.fn a c' ql ds vs :: es).length = ps.length
  ·rw [if_pos hl] at c
   exact ⟨by rw [<- rr.length]; exact hl, ι, S, _, rep, rr, c⟩
  ·rw [if_neg hl] at c
   exact (af c).elim
 refine uX lk hcd Sc (fun us H Q Ek h => (key h).1) fun A outer s H us Q Ek hr h => ⟨_, oq (hbody base G a c' ql ds vs mm L cdv A outer s H Ek hr), ?_⟩
 obtain ⟨hl, ι, S, es, rep, r, c⟩ := key h
 refine ⟨ι, S, _, rep, ?_, aj (ag c) fun o ι1 S1 H1 e1 rep1 c1 => ?_⟩
 ·have := RelE.start r (N.length - ps.length)
  unfold L2.start
  rw [hl]; exact this
 ·cases o with
  | nx ρ => exact fun σ' _ => ah c1 .refl rep1 _ .non
  | ret d => exact ah c1 .refl rep1
  | bk ρ => exact (af c1).elim
  | ct ρ => exact (af c1).elim
end
end S7
end
section
namespace S4
open PySem PySem.Spec PyProof.Rows
section
variable {prog : Program} {w : World} {A : Around} {E : Value -> Shared -> Prop} {s : Shared}
theorem ou {h : Heap} {a : Addr} {val : Nat -> Int} (e : h.get? a = some (aV (bF w))) : h.SetOf (intKind prog w) a (fun k => (firstMet val 0).any (· == k)) (firstMet val 0).length :=
 ⟨_, #[], 0, .fresh 0 0 (bF w), e, ⟨rfl, rfl, rfl⟩, rfl, (fun x hx => by cases hx), (fun k => ⟨(fun z => by cases z), fun ⟨x, hx, _⟩ => by cases hx⟩), (by decide), rfl, rfl⟩
set_option maxHeartbeats 8000000 in
theorem xN {x : Addr} {items : Array Value} (hh : A.handled = none) (r : Src s.heap x items) (val : Nat -> Int) (hval : ∀ (i : Nat) (v : Value), items[i]? = some v -> ∃ t, v = .int (val i) t) (hn : items.size <= 18) {Q : Value -> Shared -> Prop}
  (h : ∀ (h' : Heap) (tk : Nat), h'.SetOf (intKind prog w) s.heap.objs.size (fun k => (firstMet val items.size).any (· == k)) (firstMet val items.size).length -> (∀ b o, b < s.heap.objs.size -> s.heap.get? b = some o -> h'.get? b = some o) ->
   Q (.ref s.heap.objs.size) { s with heap := h', toks := tk }) : wpAny (model prog w) A (call (.type "set") [.ref x]) Q E s := by
 obtain ⟨c, tl, hmro⟩ := F.called_set.mro
 have hmade := F.called_set.made
 have hsub := F.called_set.sub
 refine wpAny_call (codeAny_of_tree ?_)
 show wpAny _ _ (callAny (.type "set") _) _ _ _
 refine wpAny_pure ⟨Code.quiet_builtin _ (by decide +kernel), codeAny_builtin F.entry_type_call ?_⟩
 rw [Around.under_plain (weight_type_call_type "set" [.ref x] []) rfl]
 have h1 := F.called_set.notType
 have h2 := F.called_set.canCreate
 have hct := F.typeCall_set_1 (.ref x)
 repeat (any_goals (first | assumption | wp_step))
 refine codeAny_mono (Bv (.ref x) (E := E) (Q1 := fun obj s1 => obj = .ref s.heap.objs.size /\ s1 = { s with heap := s.heap.push (aV (bF w)) }) ⟨rfl, rfl⟩) fun rr s1 hr => ?_
 cases rr with
 | error e => exact hr
 | ok fl =>
  cases fl with
  | ret obj =>
   obtain ⟨rfl, rfl⟩ := hr
   have hS : (s.heap.push (aV (bF w))).get? s.heap.objs.size = some (aV (bF w)) := Heap.get?_push_size _ rfl
   have hT : Shared.TypeIs { s with heap := s.heap.push (aV (bF w)) } (.ref s.heap.objs.size) "set" := ⟨_, hS, rfl⟩
   have hli := F.called_set.init.lookup
   have hbi := F.called_set.init.bind (.ref s.heap.objs.size)
   repeat (any_goals (first | assumption | wp_step))
   refine codeAny_mono (codeAny_call_builtin (R := wants (fun r s2 => r = .none /\ Q (.ref s.heap.objs.size) s2) E) F.called_set.init.plain F.entry_set_init (check_set_init_1 hT ?_)) fun r2 s2 hr2 => ?_
   ·have r1 : Src (s.heap.push (aV (bF w))) x items := r.at fun o e => Heap.get?_push_of_some _ e
    obtain ⟨Tx, hTx, hs1, hs2, hd⟩ := pK (s := { s with heap := s.heap.push (aV (bF w)) }) r1
    unfold Builtin.«set.__init__» noKeywords Builtin.Frozenset.updateFrom
    generalize hPI : pyIter = PI
    have hTs := hT
    unfold aV at hS
    wp_walk
    subst hPI
    refine pJ (s := { s with heap := s.heap.push (aV (bF w)) }) r1 fun ob St W hst => ?_
    refine wpAny_bind (wpAny_runValue ?_)
    have hxS : x < s.heap.objs.size := r.lt
    have hsz : (s.heap.push (aV (bF w))).objs.size = s.heap.objs.size + 1 := Heap.size_push _ _
    have hSf : s.heap.objs.size ∉ [(s.heap.push (aV (bF w))).objs.size, x] := by
     rw [hsz]
     simp only [List.mem_cons, List.not_mem_nil, or_false, not_or]
     exact ⟨Nat.ne_of_lt (Nat.lt_succ_self _), Nat.ne_of_gt hxS⟩
    have hh3 : A.in1.in1.in1.handled = none := by simp [hh]
    have up : ∀ b o, s.heap.get? b = some o -> ((s.heap.push (aV (bF w))).push ob).get? b = some o := fun b o e => Heap.get?_push_of_some _ (Heap.get?_push_of_some _ e)
    have S0 : ((s.heap.push (aV (bF w))).push ob).SetOf (intKind prog w) s.heap.objs.size (fun k => (firstMet val 0).any (· == k)) (firstMet val 0).length := ou (Heap.get?_push_of_some _ (Heap.get?_push_size _ rfl))
    refine codeAny_set_update_loopS ((W _ hh3).toS) s.heap.objs.size hSf val hval (Nat.lt_of_le_of_lt (Nat.succ_le_succ hn) (by decide)) (items.size - 0) 0 _ rfl (Nat.zero_le _) hst S0 fun s' hm hS' => ?_
    ·obtain ⟨h', g', d', tk', os'⟩ := s'
     have eg : g' = s.gens := hm.gens
     have ed : d' = s.drawn := hm.drawn
     have eo : os' = s.os := hm.os
     subst eg ed eo
     show wpAny _ _ _ _ _ _
     refine wpAny_pure ?_
     show wpAny _ _ (ret Value.none) _ _ _
     refine wpAny_pure ⟨rfl, h h' tk' hS' fun b o hb e => ?_⟩
     refine hm.heap b o ?_ (up b o e)
     rw [hsz]
     simp only [List.mem_cons, List.not_mem_nil, or_false, not_or]
     exact ⟨Nat.ne_of_lt hb, Nat.ne_of_lt (Nat.lt_succ_of_lt hb)⟩
   ·cases r2 with
    | error e => exact hr2
    | ok fl2 =>
     cases fl2 with
     | ret rv =>
      obtain ⟨rfl, hq⟩ := hr2
      repeat (any_goals (first | assumption | wp_step))
     | _ => exact hr2.elim
  | _ => exact hr.elim
end
end S4
namespace S3
open PySem PySem.Spec PyProof.Rows L2 S4
section
variable {X : Cx} {E : XD} {e : Expr} {m : TM} {pos : Pos}
theorem rL : ∀ {vs : List Value} {ns : List Int}, IntsAre vs ns -> ∃ xs : Array (Int × Tok), vs.toArray = intItems xs /\ preSum (numAt xs) xs.size = ns.sum := by
 intro vs ns h
 obtain ⟨xs, hx⟩ := h.allInts.items
 refine ⟨xs, hx, ?_⟩
 have := h.numsOf
 have e2 : numsOf (intItems xs).toList = ns := by rw [<- hx]; exact this
 rw [nums_intItems] at e2
 rw [preSum_eq, List.take_of_length_le (by simp)]
 rw [<- e2]
theorem uj (hc : X.calm = true) : bD X (.builtin "sum") (fun xs H Q => ∃ (p : Addr) (ns : List Int), xs = [.ref p] /\ fE X.K H p (ns.map V.int) /\ Q (.int ns.sum) H) := by
 intro pins s σ H xs us Q I r h
 obtain ⟨p, ns, rfl, hp, q⟩ := h
 obtain ⟨u, rfl, rx⟩ := vals1 r
 cases (show u = Value.ref p from rx)
 obtain ⟨its, rv, pl, hz⟩ := I.list hp
 obtain ⟨xs, e1, e2⟩ := rL (intsAre_of rv)
 have hl := pl.isList
 rw [e1] at hl
 refine sum_intListG (I.ok.hd hc) hl fun h' tk t' hk => ⟨.int ns.sum, H, I.kept (t' := tk) hk, ⟨t', ?_⟩, q⟩
 rw [e2]
def rM : List D -> M D
 | [.lst k] => do
  let xs <- getL k
  match intsOf xs with
  | some ns => pure (.int ns.sum)
  | none => M.fail
 | _ => M.fail
theorem uk : iF X.K E rM (fun xs H Q => ∃ (p : Addr) (ns : List Int), xs = [.ref p] /\ fE X.K H p (ns.map V.int) /\ Q (.int ns.sum) H) := by
 intro ι S H ds vs Q rep r c
 unfold rM at c
 split at c
 ·next k =>
  obtain ⟨v, ws, rfl, r1, r2⟩ := r.cons_inv
  cases r2.nil_inv
  obtain ⟨p, rfl, h1⟩ := r1.lst_inv
  obtain ⟨es, us, _, hv, rv, c4⟩ := aU c rep h1
  cases q : intsOf es with
  | none => rw [q] at c4; exact (af c4).elim
  | some ns =>
   rw [q] at c4
   refine ⟨p, ns, rfl, .of ?_, ah c4 .refl rep _ (.int _)⟩
   rw [<- cG rv q]; exact hv
 ·exact (af c).elim
theorem wn {p : Pos} (hc : X.calm = true) (hm : X.mg "sum" = none) (ha : SE X E e m) (hg : Gl X "sum" := by rfl) (hs : starEach [e] X.env = [(false, eval e X.env)] := by rfl) : SE X E (.Call (.Name "sum" p) [e] [] pos) (gm rM m) :=
 fc (uj hc) uk hg hm (by decide +kernel) (ad ha al hs) (by decide) (by decide) hs rfl
def distinct (ns : List Int) : List Int := firstMet (fun i => ns.getD i 0) ns.length
theorem um (hc : X.calm = true) : bD X (.type "set") (fun xs H Q => ∃ (p : Addr) (ns : List Int), xs = [.ref p] /\ (fE X.K H p (ns.map V.int) \/ hV X.K H p (ns.map V.int)) /\ ns.length <= 18 /\
  ∀ l, H l = none -> Q (.ref l) (upd H l (.set (fun k => (distinct ns).any (· == k)) (distinct ns).length))) := by
 intro pins s σ H xs us Q I r h
 obtain ⟨p, ns, rfl, hp, h18, q⟩ := h
 obtain ⟨u, rfl, rx⟩ := vals1 r
 cases (show u = Value.ref p from rx)
 have src : ∃ its, aI (ns.map V.int) its /\ Src s.heap p its.toArray := by
  rcases hp with hp | hp
  ·obtain ⟨its, rv, pl, hz⟩ := I.list hp
   exact ⟨its, rv, .inl pl.isList⟩
  ·obtain ⟨its, rv, pl, hz⟩ := I.tuple hp
   exact ⟨its, rv, .inr pl⟩
 obtain ⟨its, rv, hs⟩ := src
 have hI := intsAre_of rv
 have hli := rv.length
 rw [List.length_map] at hli
 have hsz : its.toArray.size = ns.length := by rw [List.size_toArray, hli]
 refine xN (I.ok.hd hc) hs (fun i => ns.getD i 0) (fun i v hv => hI.int_at i v (by simpa using hv)) (by omega) fun h' tk hS kp => ?_
 rw [hsz] at hS
 have hf : H s.heap.objs.size = none := I.hok.fresh (Nat.le_refl _)
 exact ⟨.ref s.heap.objs.size, _, I.laid (o := .set (fun k => (distinct ns).any (· == k)) (distinct ns).length) (fun b o e => kp b o (Heap.lt_size e) e) (Nat.le_refl _) hS, rfl, q _ hf⟩
theorem mo : bD X (.builtin "len") (fun xs H Q => ∃ p S n, xs = [.ref p] /\ H p = some (.set S n) /\ Q (.int n) H) := by
 intro pins s σ H xs us Q I r h
 obtain ⟨p, S, n, rfl, hp, q⟩ := h
 obtain ⟨u, rfl, rx⟩ := vals1 r
 cases (show u = Value.ref p from rx)
 obtain ⟨o, es, ep, t, ho, hex, hd, _, _, hb, hfit, hn⟩ := (show s.heap.SetOf (intKind X.prog X.w) p S n from I.hok p _ hp)
 have : (es.size : Int) < 2 ^ 63 := by
  have : scanBound <= 2 ^ 62 := by decide
  omega
 exact call_len_set ho hex hd hfit this ⟨.int n, H, I.tok _, ⟨_, by rw [hn]⟩, q⟩
def io : List D -> M D
 | [.tup ds] => match intsOf ds with
  | some ns => if ns.length <= 18 then pure (.int (distinct ns).length) else M.fail
  | none => M.fail
 | _ => M.fail
theorem uo {p q pos2 : Pos} (hc : X.calm = true) (hm : X.mg "len" = none) (hm2 : X.mg "set" = none) (ha : SE X E e m) (hg : Gl X "len" := by rfl) (hg2 : Gl X "set" := by rfl) (hs : starEach [e] X.env = [(false, eval e X.env)] := by rfl)
  (hs2 : starEach [.Call (.Name "set" q) [e] [] pos2] X.env = [(false, eval (.Call (.Name "set" q) [e] [] pos2) X.env)] := by rfl) :
  SE X E (.Call (.Name "len" p) [.Call (.Name "set" q) [e] [] pos2] [] pos) (gm io m) := by
 refine PE.imp (e8 mo hg hm (by decide +kernel) (b7 (e9 (um hc) hg2 hm2 (by decide +kernel) (b7 ha fG hs) (by decide) (by decide) hs rfl) fG hs2) (by decide) (by decide) hs2 rfl) fun σ H Q h => ?_
 obtain ⟨ι, S, ρ, rep, re, c⟩ := h
 have c : cont X.K E (do let ds <- (do let x <- m ρ; let xs <- pure []; pure (x :: xs)); io ds) ι S H (ja X.K Q) := c
 simp only [ff, gF] at c
 refine ⟨ι, S, ρ, rep, re, aj (ag c) fun x ι1 S1 H1 e1 rep1 c1 v r => ?_⟩
 cases x with
 | tup ds =>
  obtain ⟨a, vs, rfl, h1, h2⟩ := r.tup_inv
  dsimp only [io] at c1
  cases z : intsOf ds with
  | none => rw [z] at c1; exact (af c1).elim
  | some ns =>
   rw [z] at c1
   dsimp only at c1
   by_cases hl : ns.length <= 18
   ·rw [if_pos hl] at c1
    refine ⟨a, ns, rfl, .inr ?_, hl, fun l hl' => ⟨l, _, _, rfl, aK, ?_⟩⟩
    ·rw [<- cG h2 z]; exact hV.of h1
    ·exact ah c1 (cR hl') (dL rep1 hl') _ (.int _)
   ·rw [if_neg hl] at c1; exact (af c1).elim
 | _ => exact (af c1).elim
end
end S3
end
section
namespace S4
open PySem PySem.Spec PyProof.Rows L2 S3
def xO (l1 l2 : Addr) : It := ⟨fun i H => ∃ va vb, H l1 = some (.lst va) /\ H l2 = some (.lst vb) /\ i < va.length /\ i < vb.length,
 fun i H x H' => ∃ va vb p u v, H l1 = some (.lst va) /\ H l2 = some (.lst vb) /\ H p = none /\ va[i]? = some u /\ vb[i]? = some v /\ x = .ref p /\ H' = upd H p (.tup [u, v]), fun i H => ∃ va vb, H l1 = some (.lst va) /\ H l2 = some (.lst vb) /\ (va.length <= i \/ vb.length <= i)⟩
theorem uq {P : Program} {w : World} {K : PySem.W.Frag} {elts : List Expr} {x1} {tp : Pos} {z TI TO i1 i2 l1 l2 : Addr} (D : ZipApart z TI TO i1 i2 l1 l2) :
  Turn P w K (.Tuple elts x1 tp) (xO l1 l2) [z, TI, TO, i1, i2] z
   (fun i h => IsZip h z TI TO .none /\ IsPair h TI (.ref i1) (.ref i2) /\ (∃ a b, IsPair h TO a b) /\ h.IsListIter i1 l1 i /\ h.IsListIter i2 l2 i) where
 mem := by simp
 obj := fun i h st b hb => by
  obtain ⟨hz, hTI, ⟨a, c, hTO⟩, ⟨o1, e1, c1, d1⟩, ⟨o2, e2, c2, d2⟩⟩ := st
  simp only [List.mem_cons, List.not_mem_nil, or_false] at hb
  rcases hb with rfl | rfl | rfl | rfl | rfl
  ·exact ⟨_, hz, fun v z => by cases z⟩
  ·exact ⟨_, hTI, fun v z => by cases z⟩
  ·exact ⟨_, hTO, fun v z => by cases z⟩
  ·exact ⟨_, e1, fun v z => by rw [d1] at z; cases z⟩
  ·exact ⟨_, e2, fun v z => by rw [d2] at z; cases z⟩
 keep := fun i h h' st k => by
  obtain ⟨hz, hTI, ⟨a, c, hTO⟩, h1, h2⟩ := st
  exact ⟨k z (by simp) _ hz, k TI (by simp) _ hTI, ⟨a, c, k TO (by simp) _ hTO⟩, h1.at fun o e => k i1 (by simp) o e, h2.at fun o e => k i2 (by simp) o e⟩
 item := by
  intro X hP hw hK hc i pins s σ H E I hf st hg
  subst hP hw hK
  obtain ⟨hz, hTI, ⟨a, c, hTO⟩, h1, h2⟩ := st
  obtain ⟨va, vb, hA, hB, ga, gb⟩ := hg
  obtain ⟨its1, rv1, p1, _⟩ := I.list (.of hA)
  obtain ⟨its2, rv2, p2, _⟩ := I.list (.of hB)
  obtain ⟨u1, hu1, ru1⟩ := rv1.get (List.getElem?_eq_getElem ga)
  obtain ⟨u2, hu2, ru2⟩ := rv2.get (List.getElem?_eq_getElem gb)
  refine wpAny_pyNext_zip_item D hz hTI hTO h1 h2 p1.isList p2.isList (x := u1) (y := u2) (by simpa using hu1) (by simpa using hu2) fun h' a1 a2 a3 a4 a5 a6 hk => ?_
  have hTn : H s.heap.objs.size = none := I.hok.fresh (Nat.le_refl _)
  have lt : ∀ {c o}, s.heap.get? c = some o -> s.heap.objs.size ≠ c := fun e => Nat.ne_of_gt (Heap.lt_size e)
  refine ⟨_, rfl, wpAny_letOwnedTupleGo_zip a1 fun h'' hz' hs' => ?_⟩
  have hTI' : IsPair h'' TI (.ref i1) (.ref i2) := hs'.extBut _ _ D.TIz (hk _ _ D.TIz D.TITO D.TIi1 D.TIi2 hTI)
  have kk : ∀ b o, b ∉ [z, TI, TO, i1, i2] -> s.heap.get? b = some o -> h''.get? b = some o := fun b o hb e => by
   simp only [List.mem_cons, List.not_mem_nil, or_false, not_or] at hb
   exact hs'.extBut _ _ hb.1 (hk b o hb.1 hb.2.2.1 hb.2.2.2.1 hb.2.2.2.2 e)
  have T'' : IsPair h'' s.heap.objs.size u1 u2 := hs'.extBut _ _ (lt hz) a5
  have I2 : L2.Inv X pins σ (upd H s.heap.objs.size (.tup [va[i], vb[i]])) { s with heap := h'', toks := s.toks } := sF (o := .tup [va[i], vb[i]]) I hf kk (Nat.le_refl _) ⟨by show 2 <= sizeLine; decide, [u1, u2], .cons ru1 (.cons ru2 .nil), _, T'', rfl, _, rfl⟩
  refine ⟨.ref s.heap.objs.size, _, I2, rfl,
   ⟨va, vb, _, _, _, hA, hB, hTn, List.getElem?_eq_getElem ga, List.getElem?_eq_getElem gb, rfl, rfl⟩, ⟨hz', hTI', ⟨_, _, hs'.extBut _ _ D.TOz a2⟩, a3.at fun o e => hs'.extBut _ _ D.i1z e, a4.at fun o e => hs'.extBut _ _ D.i2z e⟩, fun b hb => ?_⟩
  obtain ⟨ob, ho, _⟩ : ∃ ob, s.heap.get? b = some ob /\ True := by
   simp only [List.mem_cons, List.not_mem_nil, or_false] at hb
   rcases hb with rfl | rfl | rfl | rfl | rfl
   ·exact ⟨_, hz, trivial⟩
   ·exact ⟨_, hTI, trivial⟩
   ·exact ⟨_, hTO, trivial⟩
   ·obtain ⟨o, e, _⟩ := h1; exact ⟨_, e, trivial⟩
   ·obtain ⟨o, e, _⟩ := h2; exact ⟨_, e, trivial⟩
  rw [aw (Nat.ne_of_lt (Heap.lt_size ho))]
  exact (hf b hb).1
 done := by
  intro X hP hw hK hc i pins s σ H E I hf st hg
  subst hP hw hK
  obtain ⟨hz, hTI, ⟨a, c, hTO⟩, h1, h2⟩ := st
  obtain ⟨va, vb, hA, hB, gs⟩ := hg
  obtain ⟨its1, rv1, p1, _⟩ := I.list (.of hA)
  obtain ⟨its2, rv2, p2, _⟩ := I.list (.of hB)
  have l1' := rv1.length
  have l2' := rv2.length
  refine wpAny_pyNext_zip_end (I.ok.hd hc) D hz hTI hTO h1 h2 p1.isList p2.isList (gs.imp (fun g => by simp; omega) fun g => by simp; omega) fun h' hk => ⟨rfl, sE (t' := s.toks) I hf fun b o hb e => ?_⟩
  simp only [List.mem_cons, List.not_mem_nil, or_false, not_or] at hb
  exact hk b o hb.1 hb.2.2.1 hb.2.2.2.1 hb.2.2.2.2 e
 self := fun _ _ _ _ _ st h => wpAny_pyIter_zip st.1 h
theorem xP {X : Cx} {elts : List Expr} {x1} {tp p pos : Pos} {es : List Expr} {e : Expr} {ta : TA} (hg : Gl X "zip") (hm : X.mg "zip" = none) (ha : PA X (e :: es) ta)
  (he : starEach (e :: es) X.env = (false, eval e X.env) :: starEach es X.env := by rfl) (hpl : (backTo pos (starEach es X.env)).any (·.1) = false := by rfl) :
  PI X (.Tuple elts x1 tp) (.Call (.Name "zip" p) (e :: es) [] pos) (fun σ H R => ta σ H fun xs H1 => (∃ a b va vb, xs = [.ref a, .ref b] /\ H1 a = some (.lst va) /\ H1 b = some (.lst vb) /\ R (xO a b) H1) \/
   (∃ a b va vb, xs = [.ref a, .ref b] /\ H1 a = some (.tup va) /\ H1 b = some (.tup vb) /\
   R ⟨fun i H => (uH va vb).go i H /\ (H a = some (.tup va) /\ H b = some (.tup vb)), (uH va vb).yld, fun i H => (uH va vb).stop i H /\ (H a = some (.tup va) /\ H b = some (.tup vb))⟩ H1)) := by
 intro pins s σ H R I h
 refine Call_ (jE I hg hm (show bootBuiltins "zip" = some (.type "zip") by decide +kernel) (PyProof.Rows.callWith_type1 (cB (ha pos pins s σ H _ I h) fun us s1 ⟨vs, H1, I1, r1, q1⟩ => ?_) he hpl) (by decide) (by decide))
 have fresh : ∀ c ∈ [s1.heap.objs.size + 4, s1.heap.objs.size + 2, s1.heap.objs.size + 3, s1.heap.objs.size, s1.heap.objs.size + 1], s1.heap.objs.size <= c := fun c hc => by
  simp only [List.mem_cons, List.not_mem_nil, or_false] at hc
  omega
 rcases q1 with ⟨a, b, va, vb, rfl, hA, hB, q⟩ | ⟨a, b, va, vb, rfl, hA, hB, q⟩
 ·obtain ⟨u, w', rfl, ru, rw'⟩ := vals2 r1
  cases (show u = Value.ref a from ru)
  cases (show w' = Value.ref b from rw')
  obtain ⟨its1, rv1, p1, _⟩ := I1.list (.of hA)
  obtain ⟨its2, rv2, p2, _⟩ := I1.list (.of hB)
  have a1 : a < s1.heap.objs.size := by obtain ⟨_, e, _⟩ := p1.isList; exact Heap.lt_size e
  have a2 : b < s1.heap.objs.size := by obtain ⟨_, e, _⟩ := p2.isList; exact Heap.lt_size e
  refine call_zip_2 p1.isList p2.isList fun h' hz hTI hTO hi1 hi2 _ hk => wpAny_pyIter_zip hz ?_
  exact ⟨s1.heap.objs.size + 4, _, _, _, H1, rfl, I1.kept (t' := s1.toks) hk, uq (zipApart_new a1 a2), ⟨hz, hTI, ⟨_, _, hTO⟩, hi1, hi2⟩, fun c hc => I1.fpOk (fresh c hc) (I1.hok.fresh (fresh c hc)), q⟩
 ·obtain ⟨u, w', rfl, ru, rw'⟩ := vals2 r1
  cases (show u = Value.ref a from ru)
  cases (show w' = Value.ref b from rw')
  obtain ⟨its1, rv1, p1, _⟩ := I1.tuple (.of hA)
  obtain ⟨its2, rv2, p2, _⟩ := I1.tuple (.of hB)
  have a1 : a < s1.heap.objs.size := by obtain ⟨_, e, _⟩ := p1; exact Heap.lt_size e
  have a2 : b < s1.heap.objs.size := by obtain ⟨_, e, _⟩ := p2; exact Heap.lt_size e
  refine ua p1 p2 fun h' hz hTI hTO hi1 hi2 hk => wpAny_pyIter_zip hz ?_
  exact ⟨s1.heap.objs.size + 4, _, _, _, H1, rfl, I1.kept (t' := s1.toks) hk, vW (zipApart_new a1 a2) (fun H => H a = some (.tup va) /\ H b = some (.tup vb)) (fun _ => .rfl), ⟨hz, hTI, ⟨_, _, hTO⟩, hi1, hi2⟩, fun c hc => I1.fpOk (fresh c hc) (I1.hok.fresh (fresh c hc)), q⟩
def pW : List D -> M Iter
 | [.lst k, .lst j] => do let xs <- getL k; let ys <- getL j; pure ⟨(xs.zip ys).map fun p => .tup [p.1, p.2], .two k j xs ys⟩
 | [.tup xs, .tup ys] => pure ⟨(xs.zip ys).map fun p => .tup [p.1, p.2], .none⟩
 | _ => M.fail
theorem pX {K : PySem.W.Frag} {ι : List Addr} {H : Hp} {k j : Nat} {a b : Addr} {xs ys : List D} (hk : ι[k]? = some a) (hj : ι[j]? = some b) :
  iK K ⟨(xs.zip ys).map fun p => .tup [p.1, p.2], .two k j xs ys⟩ (xO a b) ι H := by
 intro ι2 H2 S2 e rep2 ok i
 obtain ⟨ok1, ok2⟩ := ok
 obtain ⟨va, hA2, rx2⟩ := rep2.get k a xs (e.at hk) ok1
 obtain ⟨vb, hB2, ry2⟩ := rep2.get j b ys (e.at hj) ok2
 have lx := rx2.length
 have ly := ry2.length
 refine ⟨fun d hd => ?_, fun hlen => ?_⟩
 ·obtain ⟨x, y, h1, h2, rfl⟩ := zip_get hd
  have i1 := (List.getElem?_eq_some_iff.mp h1).1
  have i2 := (List.getElem?_eq_some_iff.mp h2).1
  refine ⟨⟨va, vb, hA2, hB2, by omega, by omega⟩, ?_⟩
  rintro v H3 ⟨va', vb', p, u, v', gA, gB, hp, g1, g2, rfl, rfl⟩
  rw [hA2] at gA; cases gA
  rw [hB2] at gB; cases gB
  obtain ⟨v1, e1, r1⟩ := rx2.get' h1
  obtain ⟨v2, e2, r2⟩ := ry2.get' h2
  obtain rfl : v1 = u := Option.some.inj (e1.symm.trans g1)
  obtain rfl : v2 = v' := Option.some.inj (e2.symm.trans g2)
  have hE : Ext ι2 H2 ι2 (upd H2 p (.tup [v1, v2])) := cR hp
  exact ⟨hE, dL rep2 hp, .tup aK (.cons (r1.later rep2 hE) (.cons (r2.later rep2 hE) .nil))⟩
 ·have hl : min xs.length ys.length <= i := by simpa using hlen
  refine ⟨va, vb, hA2, hB2, ?_⟩
  rcases Nat.le_total xs.length ys.length with z | z
  ·exact .inl (by omega)
  ·exact .inr (by omega)
theorem sM {X : Cx} {E : XD} {elts : List Expr} {x1} {tp p pos : Pos} {a b : Expr} {m n : TM} (hm : X.mg "zip" = none) (ha : SE X E a m) (hb : SE X E b n) (hg : Gl X "zip" := by rfl)
  (hs : starEach [a, b] X.env = [(false, eval a X.env), (false, eval b X.env)] := by rfl) (hs2 : starEach [b] X.env = [(false, eval b X.env)] := by rfl) :
  SI X E (.Tuple elts x1 tp) (.Call (.Name "zip" p) [a, b] [] pos) (fun ρ => do let ds <- (do let x <- m ρ; let xs <- (do let y <- n ρ; let ys <- pure []; pure (y :: ys)); pure (x :: xs)); pW ds) := by
 intro pins s σ H R I h
 have hor : PI X (.Tuple elts x1 tp) (.Call (.Name "zip" p) [a, b] [] pos) (fun σ H R => CP X.K E (ai m (ai n aF)) σ H fun xs H1 => (∃ a b va vb, xs = [.ref a, .ref b] /\ H1 a = some (.lst va) /\ H1 b = some (.lst vb) /\ R (xO a b) H1) \/
   (∃ a b va vb, xs = [.ref a, .ref b] /\ H1 a = some (.tup va) /\ H1 b = some (.tup vb) /\
   R ⟨fun i H => (uH va vb).go i H /\ (H a = some (.tup va) /\ H b = some (.tup vb)), (uH va vb).yld, fun i H => (uH va vb).stop i H /\ (H a = some (.tup va) /\ H b = some (.tup vb))⟩ H1)) :=
  xP hg hm (ad ha (ad hb al (by rw [hs2]; rfl)) (by rw [hs, hs2])) (by rw [hs, hs2]) (by rw [hs2]; rfl)
 refine hor pins s σ H R I ?_
 obtain ⟨ι, S, ρ, rep, re, c⟩ := h
 refine ⟨ι, S, ρ, rep, re, aj (ag c) fun ds ι1 S1 H1 e1 rep1 c1 vs r => ?_⟩
 unfold pW at c1
 split at c1
 ·next k j =>
  obtain ⟨v1, ws, rfl, r1, r2⟩ := r.cons_inv
  obtain ⟨v2, ws2, rfl, r3, r4⟩ := r2.cons_inv
  cases r4.nil_inv
  obtain ⟨pa, rfl, hA⟩ := r1.lst_inv
  obtain ⟨pb, rfl, hB⟩ := r3.lst_inv
  obtain ⟨xs, va, _, gA, _, c2⟩ := aU c1 rep1 hA
  obtain ⟨ys, vb, _, gB, _, c3⟩ := aU c2 rep1 hB
  exact .inl ⟨pa, pb, va, vb, rfl, gA, gB, ah c3 .refl rep1 _ (pX hA hB)⟩
 ·next xs ys =>
  obtain ⟨v1, ws, rfl, r1, r2⟩ := r.cons_inv
  obtain ⟨v2, ws2, rfl, r3, r4⟩ := r2.cons_inv
  cases r4.nil_inv
  obtain ⟨pa, va, rfl, hA, rx⟩ := r1.tup_inv
  obtain ⟨pb, vb, rfl, hB, ry⟩ := r3.tup_inv
  exact .inr ⟨pa, pb, va, vb, rfl, hA, hB, ah c1 .refl rep1 _ (rB rep1 hA hB rx ry)⟩
 ·exact (af c1).elim
abbrev yy (m n : TM) : aA -> M Iter := fun ρ => do let ds <- ai m (ai n aF) ρ; pW ds
end S4
end
section
namespace S3
open PySem PySem.Spec PyProof.Rows L2 S4
def jT (f : Expr -> Option D) : List Expr -> Option (List D)
 | [] => some []
 | e :: es => match f e, jT f es with
  | some d, some ds => some (d :: ds)
  | _, _ => none
def litE : Nat -> Expr -> Option D
 | _, .Constant .none _ _ => some .non
 | _, .Constant (.bool b) _ _ => some (.bl b)
 | _, .Constant (.int i) _ _ => some (.int i)
 | _, .Constant (.str x) _ _ => some (.str x)
 | _, .UnaryOp .USub (.Constant (.int i) _ _) _ => some (.int (-i))
 | n + 1, .Tuple es _ _ => match jT (litE n) es with
  | some ds => if ds.length <= 100 then some (.tup ds) else none
  | none => none
 | _, _ => none
section
variable {X : Cx} {E : XD}
theorem SE.mono {e : Expr} {m m' : TM} (h : SE X E e m) (k : ∀ ρ S r, m' ρ S = some r -> m ρ S = some r) : SE X E e m' := PE.imp h fun σ H Q q => by
 obtain ⟨ι, S, ρ, rep, re, r, S', e, c⟩ := q
 exact ⟨ι, S, ρ, rep, re, r, S', k ρ S _ e, c⟩
theorem wo {n : Nat} {e : Expr} {d : D} (h : litE n e = some d) (es : List Expr) (env : Env) : starEach (e :: es) env = (false, eval e env) :: starEach es env := by
 cases e with
 | Constant c j p => exact ap
 | UnaryOp o a p => exact rD
 | Tuple l k p => exact aR
 | _ => cases n <;> cases h
theorem sN {n : Nat} (ih : ∀ e d, litE n e = some d -> SE X E e (mK d)) : ∀ {es : List Expr} {ds : List D}, jT (litE n) es = some ds -> SA X E es (fun _ => pure ds)
 | [], ds, h => by cases h; exact al
 | e :: es, ds, h => by
  unfold jT at h
  cases q : litE n e with
  | none => rw [q] at h; cases h
  | some d =>
   rw [q] at h
   cases q2 : jT (litE n) es with
   | none => rw [q2] at h; cases h
   | some ds' =>
    rw [q2] at h
    cases h
    exact ad (ih e d q) (sN ih q2) (wo q _ _)
theorem Af : ∀ (n : Nat) (e : Expr) (d : D), litE n e = some d -> SE X E e (mK d) := by
 intro n
 induction n with
 | zero =>
  intro e d h
  unfold litE at h
  split at h
  ·cases h; exact kP
  ·cases h; exact eJ
  ·cases h; exact am
  ·cases h; exact nJ
  ·cases h; exact v7
  ·next h' => exact absurd h' (by omega)
  ·cases h
 | succ n ih =>
  intro e d h
  unfold litE at h
  split at h
  ·cases h; exact kP
  ·cases h; exact eJ
  ·cases h; exact am
  ·cases h; exact nJ
  ·cases h; exact v7
  ·next m es k p hm =>
   cases hm
   cases q : jT (litE n) es with
   | none => rw [q] at h; cases h
   | some ds =>
    rw [q] at h
    simp only at h
    split at h
    ·next hl =>
     cases h
     refine (eQ (sN ih q)).mono fun ρ S r hr => ?_
     have e : (do let ds' <- (pure ds : M (List D)); dz ds') = (pure (.tup ds) : M D) := by
      show dz ds = _
      unfold dz
      rw [if_pos (by unfold lim; omega)]
     rw [e]; exact hr
    ·cases h
  ·cases h
theorem bM {e : Expr} {d : D} (n : Nat) (h : litE n e = some d) : SE X E e (mK d) := Af n e d h
end
def aH (m : TM) (ms : vX) : vX := ai m ms
section
variable {X : Cx} {E : XD}
theorem au {e : Expr} {es : List Expr} {m : TM} {ms : vX} (ha : SE X E e m) (hr : SA X E es ms) (hs : starEach (e :: es) X.env = (false, eval e X.env) :: starEach es X.env) : SA X E (e :: es) (aH m ms) := ad ha hr hs
theorem eP {l p t n} {env : Env} : swapsWith (.List l p) t n env = pure false := rfl
theorem cC {a o b p t n} {env : Env} : swapsWith (.BinOp a o b p) t n env = pure false := rfl
theorem cT {f l k p t n} {env : Env} : swapsWith (.Call f l k p) t n env = pure false := rfl
theorem oy {a b p t n} {env : Env} : swapsWith (.Subscript a b p) t n env = pure false := rfl
theorem pY {a b p t n} {env : Env} : swapsWith (.Constant a b p) t n env = pure false := rfl
end
end S3
end
section
namespace S7
open PySem PySem.Spec PyProof.Rows L2 S3
theorem jv {a b p} {es : List Expr} {env : Env} : starEach (.Attribute a b p :: es) env = (false, eval (.Attribute a b p) env) :: starEach es env := rfl
abbrev Dv (m : TM) : TM := fun ρ => lz (m ρ)
abbrev Ej (m : bN) : bN := fun ρ => lz (m ρ)
abbrev m4 : TM := fun _ => M.fail
theorem sO {X : Cx} {E : XD} {e : Expr} : SE X E e m4 := fun pins s σ H Q I h => by
 obtain ⟨ι, S, ρ, rep, re, c⟩ := h
 exact (af c).elim
abbrev dg (m : TM) (y : Str) : TM := fun ρ => do let x <- m ρ; mn (fun n => eG n y) x
abbrev Ag (m : TM) : TM := fun ρ => do let x <- m ρ; mn (fun _ => true) x
abbrev Ah (x : Str) (ms : aA -> M (List D)) : bN := fun ρ => do let ds <- ms ρ; if ds.length <= lim then M.raise (.exc x []) else M.fail
end S7
end
section
namespace W
open PySem PySem.Spec PyProof.Rows L2 S3 S4 S7
def top (i : Nat) : Stmt := PySem.Challenge.pw_tiewebs_k81_sizes_told_ahead.main.body.getD i (.Pass ⟨0, 0, 0, 0⟩)
structure Txt (K : PySem.W.Frag) (mg : Str -> Option Value) : Prop where
 err : gM K = true
 b_ValueError : mg "ValueError" = none
 b_all : mg "all" = none
 b_bool : mg "bool" = none
 b_int : mg "int" = none
 b_isinstance : mg "isinstance" = none
 b_len : mg "len" = none
 b_list : mg "list" = none
 b_max : mg "max" = none
 b_min : mg "min" = none
 b_range : mg "range" = none
 b_set : mg "set" = none
 b_sorted : mg "sorted" = none
 b_sum : mg "sum" = none
 b_tuple : mg "tuple" = none
 b_zip : mg "zip" = none
 g_MOST_PLACES : ∃ t, mg "MOST_PLACES" = some (.int 14 t)
section
variable {P : Program} {w : World} {K : PySem.W.Frag} {mg : Str -> Option Value} {base : Heap}
noncomputable def iR : bN := bK (pO (iD (mV 0) "int") (C4 (iD (mV 0) "bool")))
noncomputable def bX : List D -> M D := lB 1 1 iR
theorem pZ : FnScope ["thing"] ["thing"] (ak (top 17)) := ⟨rfl, rfl, rfl, by decide +kernel, rfl, by decide +kernel, by decide +kernel⟩
noncomputable def jU : bN := bK (pO (iD (mV 0) "tuple") (br qw (gm cO (mV 0)) (mK (.int 2))))
noncomputable def cL : List D -> M D := lB 1 1 jU
theorem rN : FnScope ["thing"] ["thing"] (ak (top 18)) := ⟨rfl, rfl, rfl, by decide +kernel, rfl, by decide +kernel, by decide +kernel⟩
noncomputable def d6 : ik := jq
noncomputable def d7 : TM := br oR (mV 0) (mV 1)
noncomputable def gS : bN := bK (gm pD (cZ (yy (mV 0) (Ee (mV 0) (oS (mK (.int 1))) (oN))) (j9 2 (c9 (gN 0) (c9 (gN 1) (kR)))) d6 d7 [none, none]))
noncomputable def cM : List D -> M D := lB 1 1 gS
theorem oz : FnScope ["things"] ["things"] (ak (top 21)) := ⟨rfl, rfl, rfl, by decide +kernel, rfl, by decide +kernel, by decide +kernel⟩
noncomputable def d8 : bN := az (mY (md oR (mV 1) (gm cO (mV 0))) (bK (br dO (mV 0) (mV 1))) (fj)) (bK (mK (.int 0)))
noncomputable def bG : List D -> M D := lB 2 2 d8
theorem km : FnScope ["_law_script", "_law_k"] ["_law_script", "_law_k"] (ak (top 30)) := ⟨rfl, rfl, rfl, by decide +kernel, rfl, by decide +kernel, by decide +kernel⟩
noncomputable def gT : bN := az (mY (bV (br dO (mV 0) (mK (.int 1)))) (az (bt 2 (br jf (br dO (mV 0) (mK (.int 0))) (mV 1))) (az (v5 (br gi (br dO (mV 0) (mK (.int 0))) (mV 1)) (Du (mV 0) (mK (.int 0)))) (bK (mV 2)))) (fj)) (az (v5 (br jf (br b9 (br kj (br dO (mV 0) (mK (.int 0))) (mK (.int 48271))) (mK (.int 29))) (mK (.int 2147483647))) (Du (mV 0) (mK (.int 0)))) (az (bt 3 (br jf (br b9 (br b9 (br kj (br dO (mV 0) (mK (.int 0))) (br dO (mV 0) (mK (.int 0)))) (br kj (mK (.int 39373)) (br dO (mV 0) (mK (.int 0))))) (mK (.int 7))) (mK (.int 2147483629)))) (az (bt 3 (br jf (br b9 (br kj (mV 3) (mV 3)) (br kj (mK (.int 16807)) (mV 3))) (mK (.int 2147483587)))) (bK (br jf (br gi (mV 3) (mK (.int 8))) (mV 1))))))
noncomputable def aJ : List D -> M D := lB 4 2 gT
theorem dR : FnScope ["_law_state_here", "_law_many", "_law_found", "_law_stirred"] ["_law_state_here", "_law_many"] (ak (top 32)) := ⟨rfl, rfl, rfl, by decide +kernel, rfl, by decide +kernel, by decide +kernel⟩
noncomputable def dF : ik := jq
noncomputable def dG : TM := ma (ai (mV 1) (ai (mV 0) (aF)))
noncomputable def dH : bN := vZ (vY fM (mV 1) (cZ (C8 (br b9 (mV 2) (mK (.int 1))) (mV 0)) (gN 0) dF dG [none, some 2]))
noncomputable def fQ : bN := az (bt 1 (bS (aF))) (az (rC (xB (mV 0)) (gN 2) dH) (bK (mV 1)))
noncomputable def bb : List D -> M D := lB 3 1 fQ
theorem eT : FnScope ["_law_many", "_law_found", "_law_a"] ["_law_many"] (ak (top 33)) := ⟨rfl, rfl, rfl, by decide +kernel, rfl, by decide +kernel, by decide +kernel⟩
noncomputable def d9 : ik := md oR (gm io (br b9 (br dO (mV 1) (mV 2)) (br dO (mV 1) (mV 0)))) (mK (.int 4))
noncomputable def ee : TM := ma (ai (mV 2) (ai (mV 0) (aF)))
noncomputable def ef : bN := vZ (vY fM (mV 2) (cZ (C8 (br b9 (mV 3) (mK (.int 1))) (gm cO (mV 1))) (gN 0) d9 ee [none, some 1, some 3]))
noncomputable def gU : bN := az (bt 1 (br dO (mV 0) (mK (.int 1)))) (az (bt 2 (bS (aF))) (az (rC (xB (gm cO (mV 1))) (gN 3) ef) (bK (ma (ai (gm cO (mV 1)) (ai (gm bU (mV 2)) (aF)))))))
noncomputable def bY : List D -> M D := lB 4 1 gU
theorem dU : FnScope ["_law_web_here", "_law_ties", "_law_found", "_law_a"] ["_law_web_here"] (ak (top 37)) := ⟨rfl, rfl, rfl, by decide +kernel, rfl, by decide +kernel, by decide +kernel⟩
noncomputable def fR : bN := az (mY (bV (yu (mV 1) "tuple" "list")) (az (mY (Cc (md nS (iD (mV 0) "tuple") (iD (mV 1) "tuple")) (md nS (iD (mV 0) "list") (iD (mV 1) "list"))) (bK (mK (.bl false))) (fj)) (az (mY (md nS (gm cO (mV 0)) (gm cO (mV 1))) (bK (mK (.bl false))) (fj)) (yw))) (fj)) (bK (pO (br qw (mV 0) (mV 1)) (br qw (iD (mV 0) "bool") (iD (mV 1) "bool"))))
noncomputable def cn : List D -> M D := lB 2 2 fR
theorem mq : FnScope ["_law_found", "_law_due"] ["_law_found", "_law_due"] (ak (top 39)) := ⟨rfl, rfl, rfl, by decide +kernel, rfl, by decide +kernel, by decide +kernel⟩
noncomputable def iS : bN := bK (pO (aP bX (ai (mV 1) (aF))) (zX yn oR (mK (.int 0)) (mV 1) (mV 0)))
noncomputable def cH : List D -> M D := lB 2 2 iS
theorem p0 : FnScope ["many", "thing"] ["many", "thing"] (ak (top 19)) := ⟨rfl, rfl, rfl, by decide +kernel, rfl, by decide +kernel, by decide +kernel⟩
noncomputable def fS : bN := az (bt 2 (aP bG (ai (mV 0) (ai (mV 1) (aF))))) (az (mY (md CT (mV 2) (br xn (mK (.int 10)) (mK (.int 18)))) (bK (bS (ai (br fL (mV 2) (br xn (mK (.int 10)) (mK (.int 18)))) (ai (mK (.bl true)) (aF))))) (fj)) (bK (bS (ai (br jf (mV 2) (mK (.int 2147483647))) (ai (mK (.bl false)) (aF))))))
noncomputable def cq : List D -> M D := lB 3 2 fS
theorem iI : FnScope ["_law_script", "_law_k", "_law_cell"] ["_law_script", "_law_k"] (ak (top 31)) := ⟨rfl, rfl, rfl, by decide +kernel, rfl, by decide +kernel, by decide +kernel⟩
noncomputable def cz : bN := vZ (vY bC (mV 3) (vY kZ (mV 2) (aP aJ (ai (mV 0) (ai (gm cO (mV 2)) (aF))))))
noncomputable def dh : bN := az (bt 2 (gm pz (mV 1))) (az (bt 3 (bS (aF))) (az (zZ 64 (md nS (mV 2) (bS (aF))) cz) (bK (mV 3))))
noncomputable def bo : List D -> M D := lB 4 2 dh
theorem cU : FnScope ["_law_state_here", "_law_things", "_law_left", "_law_found"] ["_law_state_here", "_law_things"] (ak (top 34)) := ⟨rfl, rfl, rfl, by decide +kernel, rfl, by decide +kernel, by decide +kernel⟩
noncomputable def cA : bN := az (bt 4 (aP aJ (ai (mV 0) (ai (mV 1) (aF))))) (az (bt 5 (br jf (br b9 (br b9 (mV 4) (mK (.int 1))) (aP aJ (ai (mV 0) (ai (br fL (mV 1) (mK (.int 1))) (aF))))) (mV 1))) (vZ (vY bC (mV 2) (ma (ai (aP minD (ai (mV 4) (ai (mV 5) (aF)))) (ai (aP maxD (ai (mV 4) (ai (mV 5) (aF)))) (aF)))))))
noncomputable def di : bN := az (bt 1 (br b9 (mK (.int 8)) (aP aJ (ai (mV 0) (ai (mK (.int 7)) (aF)))))) (az (bt 2 (bS (aF))) (az (rC (xB (aP aJ (ai (mV 0) (ai (mK (.int 12)) (aF))))) (gN 3) cA) (bK (ma (ai (mV 1) (ai (gm bU (gm jp (mV 2))) (aF)))))))
noncomputable def bp : List D -> M D := lB 6 1 di
theorem bh : FnScope ["_law_state_here", "_law_many", "_law_ties", "_law_turn", "_law_one", "_law_other"] ["_law_state_here"] (ak (top 36)) := ⟨rfl, rfl, rfl, by decide +kernel, rfl, by decide +kernel, by decide +kernel⟩
noncomputable def eh : bN := az (bt 1 (bS (aH (mK .non) (aH (mK (.int 0)) (aH (mK (.tup [])) (aH (mK (.tup [.int 15, .tup []])) (aH (mK (.tup [.int (-1), .tup []])) (aH (mK (.tup [.bl true, .tup []])) (aH (ma (ai (mK (.int 2)) (ai (bS (aF)) (aF)))) (aH (bS (ai (mK (.int 2)) (ai (mK (.tup [])) (aF)))) (aH (mK (.tup [.int 2, .tup [.tup [.int 1, .int 0]]])) (aH (mK (.tup [.int 2, .tup [.tup [.int 0, .int 0]]])) (aH (mK .emp) (aH (mK (.str "2:")) (aF))))))))))))))) (az (bt 1 (br b9 (mV 1) (bS (aH (mK (.tup [.int 2, .tup [.tup [.int 0, .int 1], .tup [.int 0, .int 1]]])) (aH (mK (.tup [.int 3, .tup [.tup [.int 0, .int 2], .tup [.int 0, .int 1]]])) (aH (mK (.tup [.int 2, .tup [.tup [.int 0, .int 2]]])) (aH (mK (.tup [.int 2, .tup [.tup [.int 0, .bl true]]])) (aH (mK (.tup [.int 2, .tup [.tup [.int 0, .int 1, .int 1]]])) (aF))))))))) (az (bt 1 (br b9 (mV 1) (bS (aH (mK (.tup [.int 2, .tup [.int 0, .int 1]])) (aH (mK (.tup [.int 2, .non])) (aH (mK (.tup [.int 2, .tup [], .tup []])) (aH (mK (.tup [.int 2])) (aH (ma (ai (mK (.int 2)) (ai (ma (ai (bS (ai (mK (.int 0)) (ai (mK (.int 1)) (aF)))) (aF))) (aF)))) (aH (mK (.tup [.int 2, .tup [.non]])) (aH (mK (.tup [.str "2", .tup []])) (aH (mK (.tup [.int 0, .tup [.tup [.int 0, .int 1]]])) (aF)))))))))))) (bK (br dO (mV 1) (aP aJ (ai (mV 0) (ai (mK (.int 25)) (aF))))))))
noncomputable def bH : List D -> M D := lB 2 1 eh
theorem gn : FnScope ["_law_state_here", "_law_some"] ["_law_state_here"] (ak (top 38)) := ⟨rfl, rfl, rfl, by decide +kernel, rfl, by decide +kernel, by decide +kernel⟩
noncomputable def ez : ik := jq
noncomputable def eA : TM := aP cn (ai (mV 0) (ai (mV 1) (aF)))
noncomputable def gW : bN := az (mY (bV (yu (mV 1) "tuple" "list")) (az (mY (Cc (md nS (iD (mV 0) "tuple") (iD (mV 1) "tuple")) (md nS (iD (mV 0) "list") (iD (mV 1) "list"))) (bK (mK (.bl false))) (fj)) (az (mY (md nS (gm cO (mV 0)) (gm cO (mV 1))) (bK (mK (.bl false))) (fj)) (bK (gm pD (cZ (yy (mV 0) (mV 1)) (j9 2 (c9 (gN 0) (c9 (gN 1) (kR)))) ez eA [none, none]))))) (fj)) (bK (pO (br qw (mV 0) (mV 1)) (br qw (iD (mV 0) "bool") (iD (mV 1) "bool"))))
noncomputable def cN : List D -> M D := lB 2 2 gW
theorem oA : FnScope ["_law_found", "_law_due"] ["_law_found", "_law_due"] (ak (top 39)) := ⟨rfl, rfl, rfl, by decide +kernel, rfl, by decide +kernel, by decide +kernel⟩
noncomputable def lC : bN := az (mY (mj (bV (aP cL (ai (mV 1) (aF))))) (bK (mK (.bl false))) (fj)) (az (v5 (mV 1) (j9 2 (c9 (gN 2) (c9 (gN 3) (kR))))) (bK (pO (aP cH (ai (mV 0) (ai (mV 2) (aF)))) (pO (aP cH (ai (mV 0) (ai (mV 3) (aF)))) (br oR (mV 2) (mV 3))))))
noncomputable def fw : List D -> M D := lB 4 2 lC
theorem jV : FnScope ["many", "thing", "low", "high"] ["many", "thing"] (ak (top 20)) := ⟨rfl, rfl, rfl, by decide +kernel, rfl, by decide +kernel, by decide +kernel⟩
noncomputable def eU : ik := md oR (aP aJ (ai (mV 1) (ai (mK (.int 8)) (aF)))) (br dO (bS (ai (mK (.int 2)) (ai (mK (.int 4)) (ai (mK (.int 6)) (aF))))) (br jf (mV 2) (mK (.int 3))))
noncomputable def eV : TM := mV 0
noncomputable def eW : bN := vZ (vY bC (mV 4) (gm bU (gm cf (bS (ai (br dO (mV 5) (mV 6)) (ai (br dO (mV 5) (br dO (bS (aH (br fL (mV 6) (mK (.int 1))) (aH (br fL (mV 6) (mK (.int 1))) (aH (mK (.int 0)) (aH (br gi (mV 6) (mK (.int 2))) (aF)))))) (br fL (mV 3) (mK (.int 3))))) (aF)))))))
noncomputable def dq : ik := md qw (aP aJ (ai (mV 1) (ai (mK (.int 12)) (aF)))) (mK (.int 0))
noncomputable def dr : TM := mV 0
noncomputable def du : ik := md nS (br inD (mV 0) (mV 1)) (br inD (mV 0) (mV 2))
noncomputable def dv : TM := mV 0
noncomputable def iT : bN := az (bt 2 (aP maxD (ai (mK (.int 0)) (ai (br fL (mV 1) (br dO (bS (aH (mK (.int 0)) (aH (mK (.int 0)) (aH (mK (.int 1)) (aH (mK (.int 0)) (aH (mK (.int 2)) (aH (mK (.int 1)) (aH (mK (.int 3)) (aH (mV 1) (aF)))))))))) (aP aJ (ai (mV 0) (ai (mK (.int 8)) (aF)))))) (aF))))) (az (bt 3 (aP aJ (ai (mV 0) (ai (mK (.int 7)) (aF))))) (az (bt 4 (cZ (lu (aP bb (ai (mV 2) (aF)))) (gN 0) eU eV [none, some 0, some 3])) (az (bt 5 (aP bo (ai (mV 0) (ai (gm fO (mV 2)) (aF))))) (az (mY (md Bo (mV 3) (mK (.int 2))) (az (bt 4 (bS (aF))) (az (rC (C8 (mK (.int 1)) (mV 2)) (gN 6) eW) (az (mY (C7 (md qw (mV 3) (mK (.int 4))) (md Bo (mV 2) (mK (.int 2)))) (vZ (vY bC (mV 4) (gm bU (gm cf (bS (ai (br dO (mV 5) (mK (.int 0))) (ai (br dO (mV 5) (br fL (mV 2) (mK (.int 1)))) (aF)))))))) (fj)) (az (bt 7 (cZ (lu (aP bb (ai (mV 2) (aF)))) (gN 0) dq dr [none, some 0])) (bt 4 (cZ (lu (aP bb (ai (mV 2) (aF)))) (gN 0) du dv [none, some 4, some 7])))))) (fj)) (bK (ma (ai (mV 2) (ai (gm bU (gm cf (mV 4))) (aF)))))))))
noncomputable def dj : List D -> M D := lB 8 2 iT
theorem bz : FnScope ["_law_state_here", "_law_most", "_law_many", "_law_way", "_law_ties", "_law_row", "_law_at", "_law_odd"] ["_law_state_here", "_law_most"] (ak (top 35)) := ⟨rfl, rfl, rfl, by decide +kernel, rfl, by decide +kernel, by decide +kernel⟩
noncomputable def gX : ik := jq
noncomputable def gY : TM := aP fw (ai (mV 1) (ai (mV 0) (aF)))
noncomputable def lD : bN := az (mY (mj (bV (aP cL (ai (mV 0) (aF))))) (bK (mK (.bl false))) (fj)) (az (v5 (mV 0) (j9 2 (c9 (gN 1) (c9 (gN 2) (kR))))) (az (mY (Cc (mj (bV (aP bX (ai (mV 1) (aF))))) (Cc (mj (zY yn yn (mK (.int 0)) (mV 1) (mK (.int 14)))) (mj (bV (iD (mV 2) "tuple"))))) (bK (mK (.bl false))) (fj)) (bK (pO (gm pD (cZ (lu (mV 2)) (gN 0) gX gY [none, some 1])) (aP cM (ai (mV 2) (aF)))))))
noncomputable def fx : List D -> M D := lB 3 1 lD
theorem jW : FnScope ["thing", "many", "ties"] ["thing"] (ak (top 22)) := ⟨rfl, rfl, rfl, by decide +kernel, rfl, by decide +kernel, by decide +kernel⟩
noncomputable def fT : bN := mY (mj (bV (aP fx (ai (mV 0) (aF))))) (Ah "NoWeb" (ai (mK (.str "this is no web")) (aF))) (fj)
noncomputable def bZ : List D -> M D := nQ 1 1 fT
theorem p7 : FnScope ["thing"] ["thing"] (ak (top 23)) := ⟨rfl, rfl, rfl, by decide +kernel, rfl, by decide +kernel, by decide +kernel⟩
noncomputable def fU : ik := md inD (mV 1) (mV 0)
noncomputable def fV : TM := mV 0
noncomputable def fW : ik := jq
noncomputable def dW : TM := gm cO (cZ (lu (mV 1)) (gN 0) fU fV [none, some 0])
noncomputable def iq : bN := az (vZ (aP bZ (ai (mV 0) (aF)))) (az (v5 (mV 0) (j9 2 (c9 (gN 1) (c9 (gN 2) (kR))))) (bK (Dv (cZ (xB (mV 1)) (gN 0) fW dW [none, some 2]))))
noncomputable def bP : List D -> M D := nQ 3 1 iq
theorem iU : FnScope ["web", "many", "ties"] ["web"] (ak (top 24)) := ⟨rfl, rfl, rfl, by decide +kernel, rfl, by decide +kernel, by decide +kernel⟩
noncomputable def gp : ik := jq
noncomputable def gq : TM := br gi (br kj (mV 0) (br fL (mV 0) (mK (.int 1)))) (mK (.int 2))
noncomputable def fX : bN := bK (gm rM (cZ (lu (aP bP (ai (mV 0) (aF)))) (gN 0) gp gq [none]))
noncomputable def cr : List D -> M D := lB 1 1 fX
theorem mr : FnScope ["web"] ["web"] (ak (top 26)) := ⟨rfl, rfl, rfl, by decide +kernel, rfl, by decide +kernel, by decide +kernel⟩
noncomputable def dk : ik := jq
noncomputable def dl : TM := br fL (br b9 (br dO (mV 2) (mV 0)) (br dO (mV 2) (mV 1))) (mK (.int 2))
noncomputable def fy : ik := jq
noncomputable def fz : TM := br gi (br kj (mV 0) (br fL (mV 0) (mK (.int 1)))) (mK (.int 2))
noncomputable def dw : bN := az (bt 1 (aP bP (ai (mV 0) (aF)))) (az (Ej (bt 2 (cZ (lu (br dO (mV 0) (mK (.int 1)))) (j9 2 (c9 (gN 0) (c9 (gN 1) (kR)))) dk dl [none, none, some 1]))) (bK (bS (aH (br dO (mV 0) (mK (.int 0))) (aH (gm cO (br dO (mV 0) (mK (.int 1)))) (aH (aP cr (ai (mV 0) (aF))) (aH (gm rM (Dv (cZ (lu (mV 2)) (gN 0) fy fz [none]))) (aF))))))))
noncomputable def bc : List D -> M D := nQ 3 1 dw
theorem eB : FnScope ["web", "tied", "meeting"] ["web"] (ak (top 28)) := ⟨rfl, rfl, rfl, by decide +kernel, rfl, by decide +kernel, by decide +kernel⟩
noncomputable def bA : ik := bV (br dO (mV 1) (mV 0))
noncomputable def bB : TM := mV 0
noncomputable def cV (fv : D) (cc : M D) : bN := az (bt 1 (mK .non)) (az (pU 0 2 1 fv cc) (az (bt 3 (bS (ai (dg (mV 1) "NoWeb") (ai (dg (mV 1) "NoPlace") (ai (dg (mV 1) "NoPlaces") (aF)))))) (az (bt 3 (br b9 (mV 3) (bS (ai (dg (mV 1) "NoMap") (ai (dg (mV 1) "NoSharing") (ai (dg (mV 1) "NoRoot") (aF))))))) (az (bt 3 (br b9 (mV 3) (bS (ai (dg (mV 1) "NoNumber") (ai (dg (mV 1) "NotJoined") (ai (dg (mV 1) "NoTie") (aF))))))) (az (bt 3 (br b9 (mV 3) (bS (ai (dg (mV 1) "NoText") (ai (dg (mV 1) "NoLine") (ai (dg (mV 1) "NoDeed") (aF))))))) (az (vZ (vY bC (mV 3) (dg (mV 1) "TooGreat"))) (az (mY (mj (bV (Ag (mV 1)))) (bK (mK .non)) (fj)) (az (bt 4 (cZ (xB (mK (.int 13))) (gN 0) bA bB [none, some 3])) (bK (C5 (md qw (mV 4) (bS (ai (mK (.int 12)) (aF)))) (br b9 (mV 4) (bS (ai (m4) (ai (m4) (aF))))) (mV 4)))))))))))
noncomputable def aZ : D -> M D -> List D -> M D := fun fv cc es => nQ 5 1 (cV fv cc) (fv :: es)
noncomputable def bI : M D -> List D -> M D := aZ (.fn 0 0 "" [] [])
theorem ba : FnScope ["_law_call", "_law_error", "e", "_law_marks", "_law_found"] ["_law_call"] (ak (top 40)) := ⟨rfl, rfl, rfl, by decide +kernel, rfl, by decide +kernel, by decide +kernel⟩
noncomputable def jw : bN := az (bt 7 (aP bc (ai (mV 3) (aF)))) (az (mY (mj (bV (aP cN (ai (mV 7) (ai (mV 5) (aF)))))) (bK (mK (.bl false))) (fj)) (vZ (vY bC (mV 7) (mK (.int 0)))))
noncomputable def jx : bN := az (bt 4 (aP bY (ai (mV 3) (aF)))) (az (bt 5 (bS (aH (br dO (mV 3) (mK (.int 0))) (aH (gm cO (br dO (mV 3) (mK (.int 1)))) (aH (gm cO (br dO (mV 4) (mK (.int 1)))) (aH (gm cO (br dO (aP bY (ai (mV 4) (aF))) (mK (.int 1)))) (aF))))))) (rC (xB (mK (.int 2))) (gN 6) jw))
noncomputable def lE : TM := aP bc (ai (mV 0) (aF))
noncomputable def jz : bN := az (bt 2 (aP cq (ai (mV 0) (ai (mV 1) (aF))))) (az (rC (lu (bS (ai (aP dj (ai (mV 2) (ai (mK (.int 7)) (aF)))) (ai (aP bp (ai (mV 2) (aF))) (aF))))) (gN 3) jx) (az (bt 8 (aP bH (ai (mV 2) (aF)))) (mY (md nS (xJ [8] (aF) lE bI) (bS (ai (mK (.int 0)) (aF)))) (bK (mK (.bl false))) (fj))))
noncomputable def wp : bN := az (rC (xB (aP maxD (ai (mK (.int 1)) (ai (aP minD (ai (gm cO (mV 0)) (ai (mK (.int 8)) (aF)))) (aF))))) (gN 1) jz) (bK (mK (.bl true)))
noncomputable def lF : List D -> M D := lB 9 1 wp
theorem fY : FnScope ["_law_script", "_law_k", "_law_state_here", "_law_web_here", "_law_later", "_law_due", "_law_turn", "_law_found", "_law_bad"] ["_law_script"] (ak (top 41)) := ⟨rfl, rfl, rfl, by decide +kernel, rfl, by decide +kernel, by decide +kernel⟩
end
end W
end
section
namespace W
open PySem PySem.Spec PyProof.Rows L2 S3 S4 S7
theorem sP {d : D} {r : aA} : qP (some d :: r) 0 = pure d := rfl
theorem yz {o0 : Option D} {d : D} {r : aA} : qP (o0 :: some d :: r) 1 = pure d := rfl
theorem yA {o0 o1 : Option D} {d : D} {r : aA} : qP (o0 :: o1 :: some d :: r) 2 = pure d := rfl
theorem yB {o0 o1 o2 : Option D} {d : D} {r : aA} : qP (o0 :: o1 :: o2 :: some d :: r) 3 = pure d := rfl
theorem BC {o0 o1 o2 o3 : Option D} {d : D} {r : aA} : qP (o0 :: o1 :: o2 :: o3 :: some d :: r) 4 = pure d := rfl
theorem Dw {o0 o1 o2 o3 o4 : Option D} {d : D} {r : aA} : qP (o0 :: o1 :: o2 :: o3 :: o4 :: some d :: r) 5 = pure d := rfl
theorem Dx {o0 o1 o2 o3 o4 o5 : Option D} {d : D} {r : aA} : qP (o0 :: o1 :: o2 :: o3 :: o4 :: o5 :: some d :: r) 6 = pure d := rfl
theorem Dy {o0 o1 o2 o3 o4 o5 o6 : Option D} {d : D} {r : aA} : qP (o0 :: o1 :: o2 :: o3 :: o4 :: o5 :: o6 :: some d :: r) 7 = pure d := rfl
theorem Dz {o0 o1 o2 o3 o4 o5 o6 o7 : Option D} {d : D} {r : aA} : qP (o0 :: o1 :: o2 :: o3 :: o4 :: o5 :: o6 :: o7 :: some d :: r) 8 = pure d := rfl
theorem DA {o0 o1 o2 o3 o4 o5 o6 o7 o8 : Option D} {d : D} {r : aA} : qP (o0 :: o1 :: o2 :: o3 :: o4 :: o5 :: o6 :: o7 :: o8 :: some d :: r) 9 = pure d := rfl
theorem Dc {o0 o1 o2 o3 o4 o5 o6 o7 o8 o9 : Option D} {d : D} {r : aA} : qP (o0 :: o1 :: o2 :: o3 :: o4 :: o5 :: o6 :: o7 :: o8 :: o9 :: some d :: r) 10 = pure d := rfl
theorem Dd {o0 o1 o2 o3 o4 o5 o6 o7 o8 o9 o10 : Option D} {d : D} {r : aA} : qP (o0 :: o1 :: o2 :: o3 :: o4 :: o5 :: o6 :: o7 :: o8 :: o9 :: o10 :: some d :: r) 11 = pure d := rfl
end W
end
local macro_rules
 | `(tactic| simp! only [$xs,*] $[$l]?) => `(tactic| simp only [$xs,*, Nat.zero_add, Nat.reduceAdd, Nat.reduceSub, S3.cZ, S3.rC, S3.aG, S3.av, S3.gK, S3.ft, S3.By, S3.uc, S3.df, S3.mZ, S3.rE, S3.ub, List.map_cons, List.map_nil, List.replicate, List.cons_append, List.nil_append, List.set_cons_succ, List.set_cons_zero, S3.outD, S3.nO, S3.mV, S3.mK, S3.pO, S3.EE, S3.C4, S3.C5, S3.aF, S3.ai, S3.ma, S3.bS, S3.aH, S3.aP, S3.gm, S3.br, S3.zX, S3.oN, S3.oS, S3.Ee, S3.Ef, S3.iD, S3.yu, S3.vY, S3.bV, S3.md, S3.zY, S3.Cb, S3.mj, S3.C7, S3.Cc, S3.jq, S3.xB, S3.C8, S3.lu, S3.Eg, S4.yy, S7.Dv, S7.Ej, S3.gN, S3.Du, S3.fj, S3.az, S3.vZ, S3.bK, S3.mY, S3.bt, S3.v5, S3.Eh, S3.zZ, S3.j9, S3.c9, S3.kR, List.length_cons, List.length_nil, Bool.not_true, Bool.not_false, Bool.false_eq_true, if_true, if_false, Bool.true_eq_false, W.sP, W.yz, W.yA, W.yB, W.BC, W.Dw, W.Dx, W.Dy, W.Dz, W.DA, W.Dc, W.Dd, S7.dg, S7.Ag, S7.m4] $[$l]?)
section
namespace W
open PySem PySem.Spec PyProof.Rows L2 S3 S4 S7
theorem jX {α : Type} {c : M α} {S : ae} {Q : α -> ae -> Prop} : runs (lz c) S Q ↔ runs c S Q := by
 constructor
 ·rintro ⟨a, S', e, q⟩
  unfold lz at e
  cases z : c S with
  | none => rw [z] at e; cases e
  | some p =>
   obtain ⟨r, S1⟩ := p
   rw [z] at e
   cases r with
   | ok b => cases e; exact ⟨a, S', z, q⟩
   | ex x => cases e
 ·rintro ⟨a, S', e, q⟩
  exact ⟨a, S', by unfold lz; rw [e], q⟩
theorem bn {N n : Nat} {m : bN} {ds : List D} {S : ae} {Q : D -> ae -> Prop} (h : ds.length = n) : runs (lB N n m ds) S Q ↔ runs (m (ds.map some ++ List.replicate (N - n) none)) S (fun o S' => runs (outD o) S' Q) := by
 unfold lB nQ
 rw [if_pos h, aG, jX]
theorem lG {N n : Nat} {m : bN} {ds : List D} {S : ae} {Q : D -> ae -> Prop} (h : ds.length = n) : runs (nQ N n m ds) S Q ↔ runs (m (ds.map some ++ List.replicate (N - n) none)) S (fun o S' => runs (outD o) S' Q) := by
 unfold nQ
 rw [if_pos h, aG]
def fZ : D -> Bool
 | .int _ => true
 | _ => false
abbrev wN (d : D) : Prop := xt d = true
theorem ir {d : D} {S : ae} {Q : D -> ae -> Prop} (h : wN d) : runs (bX [d]) S Q ↔ Q (.bl (fZ d)) S := by
 unfold bX iR
 refine (bn rfl).trans ?_
 simp only [List.map_cons, List.map_nil, List.replicate, List.cons_append, List.nil_append, aG, sP, av, fu h, ft, gK, outD]
 cases d with
 | ro ds => cases h
 | _ => simp [qx, dC, fZ]
def fA : D -> Bool
 | .tup [_, _] => true
 | _ => false
theorem iu {S : ae} {n : Nat} {i : Int} : iB S n (.int i) = some (.int i) := by cases n <;> rfl
theorem jY {S : ae} {n : Nat} {b : Bool} : iB S n (.bl b) = some (.bool b) := by cases n <;> rfl
theorem eq_int {S : ae} {a b : Int} {Q : D -> ae -> Prop} : runs (qw (.int a) (.int b)) S Q ↔ Q (.bl (decide (a = b))) S := by
 unfold qw
 rw [eM iu iu]
 have : PyData.eqv (.int a) (.int b) = decide (a = b) := by
  simp only [PyData.eqv]
  rw [Bool.eq_iff_iff]; simp
 rw [this]
theorem iV {d : D} {S : ae} {Q : D -> ae -> Prop} (h : wN d) : runs (cL [d]) S Q ↔ Q (.bl (fA d)) S := by
 unfold cL jU
 refine (bn rfl).trans ?_
 simp only [List.map_cons, List.map_nil, List.replicate, List.cons_append, List.nil_append, aG, sP, av, fu h, ft, gK, outD]
 cases d with
 | ro ds => cases h
 | tup ds =>
  simp only [qx, dC, cO, av, eq_int]
  simp only [beq_self_eq_true, Bool.true_or, if_true]
  match ds with
  | [] => simp [fA]
  | [_] => simp [fA]
  | [_, _] => simp [fA]
  | _ :: _ :: _ :: r => simp only [fA, List.length_cons]; rw [decide_eq_false (by omega)]
 | _ => simp [qx, dC, fA]
def eX (many : Int) : D -> Bool
 | .int i => decide (0 <= i) && decide (i < many)
 | _ => false
theorem sQ {many : Int} {d : D} {S : ae} {Q : D -> ae -> Prop} (h : wN d) : runs (cH [.int many, d]) S Q ↔ Q (.bl (eX many d)) S := by
 unfold cH iS
 refine (bn rfl).trans ?_
 simp only [List.map_cons, List.map_nil, List.replicate, List.cons_append, List.nil_append, aG, sP, yz, yA, yB, av, ir h, ft, gK, outD]
 cases d with
 | int i =>
  simp only [fZ, if_true, yn, cF, av, oR, ft, eX]
  by_cases h0 : 0 <= i
  ·simp [h0]
  ·simp [h0]
 | _ => simp [fZ, eX]
def f7 (many : Int) : D -> Bool
 | .tup [a, b] => eX many a && (eX many b && match a, b with | .int i, .int j => decide (i < j) | _, _ => false)
 | _ => false
def De (d : D) : Prop := wN d /\ ∀ ds, d = .tup ds -> ∀ x ∈ ds, wN x
theorem iw {many : Int} {d : D} (h : eX many d = true) : ∃ i, d = .int i /\ 0 <= i /\ i < many := by
 cases d with
 | int i => exact ⟨i, rfl, by simpa [eX] using h⟩
 | _ => cases h
theorem BD {many : Int} {d : D} {S : ae} {Q : D -> ae -> Prop} (h : De d) : runs (fw [.int many, d]) S Q ↔ Q (.bl (f7 many d)) S := by
 unfold fw lC
 refine (bn rfl).trans ?_
 simp! only [iV h.1]
 by_cases hp : fA d = true
 ·obtain ⟨a, b, rfl⟩ : ∃ a b, d = .tup [a, b] := by
   unfold fA at hp
   split at hp
   ·exact ⟨_, _, rfl⟩
   ·cases hp
  have ha : wN a := h.2 _ rfl a (by simp)
  have hb : wN b := h.2 _ rfl b (by simp)
  simp! only [hp, sQ ha, sQ hb, f7]
  by_cases h1 : eX many a = true
  ·obtain ⟨i, rfl, _, _⟩ := iw h1
   by_cases h2 : eX many b = true
   ·obtain ⟨j, rfl, _, _⟩ := iw h2
    simp [h1, h2, oR, av]
   ·simp [h1, h2, av]
  ·simp [h1, av]
 ·have : f7 many d = false := by
   unfold f7
   split
   ·simp [fA] at hp
   ·rfl
  simp [hp, this, av, aG, nO, outD]
theorem eY {it : Iter} {g : l5} {t : ik} {m : TM} {ρ : aA} {S : ae} {Q : List D -> ae -> Prop} (R : aA -> Prop) (f : D -> D) (hl : it.items.length <= lim) (hc : it.chk = .none) (hR : R ρ)
  (hturn : ∀ d ∈ it.items, ∀ ρ, R ρ -> runs (g d ρ) S (fun ρ1 S1 => S1 = S /\ R ρ1 /\ runs (t ρ1) S (fun k S2 => k = true /\ S2 = S /\ runs (m ρ1) S (fun y S3 => S3 = S /\ y = f d)))) (hQ : Q (it.items.map f) S) : runs (cS it g t m ρ) S Q := by
 obtain ⟨items, chk⟩ := it
 simp only at hl hc hturn hQ
 subst hc
 refine dP hl (fun ds ρ ys S' => S' = S /\ R ρ /\ ∃ pre, items = pre ++ ds /\ ys = pre.map f) (fun _ _ _ _ _ => trivial) ?_ ⟨rfl, hR, [], rfl, rfl⟩ ?_
 ·rintro d ds ρ ys S' ⟨rfl, hr, pre, e, rfl⟩
  refine a9 (hturn d (by rw [e]; simp) ρ hr) fun ρ1 S1 ⟨e1, r1, h1⟩ => ?_
  subst e1
  refine a9 h1 fun k S2 ⟨ek, e2, h2⟩ => ?_
  subst ek e2
  rw [if_pos rfl]
  refine a9 h2 fun y S3 ⟨e3, ey⟩ => ?_
  subst e3 ey
  exact ⟨rfl, r1, pre ++ [d], by rw [e]; simp, by simp⟩
 ·rintro ρ' zs S' ⟨rfl, _, pre, e, rfl⟩
  rw [List.append_nil] at e
  subst e
  exact hQ
theorem p8 (l : List Bool) : boolsOf (l.map D.bl) = some l := by
 induction l with
 | nil => rfl
 | cons b l ih => simp [boolsOf, ih]
theorem aB {S : ae} {xs : List D} : (S ++ [xs])[S.length]? = some xs := by simp
theorem jZ {S : ae} {l : List Bool} {Q : D -> ae -> Prop} : runs (pD [.lst S.length]) (S ++ [l.map D.bl]) Q ↔ Q (.bl (l.all id)) (S ++ [l.map D.bl]) := by
 unfold pD
 rw [aG, df]
 simp only [aB, Option.some.injEq, exists_eq_left', p8, av]
def lH : D -> D -> Bool
 | .tup xs, .tup ys => match intsOf xs, intsOf ys with
  | some a, some b => HT.lexLt a b
  | _, _ => false
 | _, _ => false
def rO : List D -> Bool
 | a :: b :: r => lH a b && rO (b :: r)
 | _ => true
def sR (d : D) : Prop := ∃ ds ns, d = .tup ds /\ intsOf ds = some ns
theorem Ai {a b : D} {S : ae} {Q : D -> ae -> Prop} (ha : sR a) (hb : sR b) : runs (oR a b) S Q ↔ Q (.bl (lH a b)) S := by
 obtain ⟨xs, ns, rfl, e1⟩ := ha
 obtain ⟨ys, ms, rfl, e2⟩ := hb
 simp only [oR, e1, e2, av, lH]
theorem sS : ∀ l : List D, ((l.zip (l.drop 1)).map fun p => lH p.1 p.2).all id = rO l
 | [] => rfl
 | [_] => rfl
 | a :: b :: r => by
  have := sS (b :: r)
  simp only [List.drop_succ_cons, List.drop_zero, List.zip_cons_cons, List.map_cons, List.all_cons, id] at this ⊢
  rw [rO, <- this]
theorem BE (l : List D) : S3.cutD l (some 1) none = l.drop 1 := by
 unfold S3.cutD HT.sIx
 cases l with
 | nil => rfl
 | cons a r => simp
theorem wq {ts : List D} {S : ae} {Q : D -> ae -> Prop} (h : ∀ t ∈ ts, sR t) (hl : ts.length <= 1000) (hQ : ∀ G, Q (.bl (rO ts)) (S ++ G)) : runs (cM [.tup ts]) S Q := by
 unfold cM gS
 refine (bn rfl).mpr ?_
 have hlim : ts.length <= lim := by unfold lim; omega
 have hcut : (S3.cutD ts (some 1) none).length <= lim := by rw [BE, List.length_drop]; omega
 simp! only [qU, hcut, true_and, pW, BE]
 refine ⟨by rw [List.length_drop]; omega, ?_⟩
 refine eY (fun ρ => ρ.length = 2) (fun d => match d with | .tup [a, b] => .bl (lH a b) | _ => .non) ?_ rfl (by rfl) ?_ ?_
 ·simp; omega
 ·intro d hd ρ hρ
  simp only [List.mem_map] at hd
  obtain ⟨⟨a, b⟩, hp, rfl⟩ := hd
  obtain ⟨x, y, rfl⟩ : ∃ x y, ρ = [x, y] := by
   match ρ, hρ with
   | [x, y], _ => exact ⟨x, y, rfl⟩
  have ha := h a (List.of_mem_zip hp).1
  have hb := h b (List.mem_of_mem_drop (List.of_mem_zip hp).2)
  unfold d6 d7
  simp! only [Ai ha hb, and_self]
 ·have e : List.map (fun d => match d with | D.tup [a, b] => D.bl (lH a b) | _ => D.non) (List.map (fun p : D × D => D.tup [p.1, p.2]) (ts.zip (ts.drop 1))) = ((ts.zip (ts.drop 1)).map fun p => lH p.1 p.2).map D.bl := by
   rw [List.map_map, List.map_map]; rfl
  rw [e]
  have h3 : (((ts.zip (ts.drop 1)).map fun p => lH p.1 p.2).map D.bl).length <= lim := by simp; omega
  simp! only [h3, true_and, jZ, sS]
  exact hQ _
def Ce (d : D) : Prop := wN d /\ ∀ ds, d = .tup ds -> ∀ x ∈ ds, wN x /\ ∀ ts, x = .tup ts -> ∀ t ∈ ts, De t
def fB : D -> Bool
 | .tup [.int many, .tup ties] => decide (0 <= many) && (decide (many <= 14) && (ties.all (f7 many) && rO ties))
 | _ => false
theorem xQ {many : Int} {d : D} (h : f7 many d = true) : ∃ i j, d = .tup [.int i, .int j] /\ 0 <= i /\ i < j /\ j < many := by
 unfold f7 at h
 split at h
 ·next a b =>
  simp only [Bool.and_eq_true] at h
  obtain ⟨h1, h2, h3⟩ := h
  obtain ⟨i, rfl, i1, i2⟩ := iw h1
  obtain ⟨j, rfl, j1, j2⟩ := iw h2
  simp only [decide_eq_true_eq] at h3
  exact ⟨i, j, rfl, i1, h3, j2⟩
 ·cases h
theorem ur {many : Int} {d : D} (h : f7 many d = true) : sR d := by
 obtain ⟨i, j, rfl, _⟩ := xQ h
 exact ⟨_, [i, j], rfl, rfl⟩
theorem yC {d : D} {S : ae} {Q : D -> ae -> Prop} (h : Ce d) (hlen : ∀ m ts, d = .tup [m, .tup ts] -> ts.length <= 1000) (hQ : ∀ G, Q (.bl (fB d)) (S ++ G)) : runs (fx [d]) S Q := by
 unfold fx lD
 refine (bn rfl).mpr ?_
 have q0 : fB d = false -> Q (.bl false) S := fun e => by
  have := hQ []
  rw [e, List.append_nil] at this; exact this
 by_cases hp : fA d = true
 ·obtain ⟨a, t, rfl⟩ : ∃ a b, d = .tup [a, b] := by
   unfold fA at hp
   split at hp
   ·exact ⟨_, _, rfl⟩
   ·cases hp
  obtain ⟨ha, _⟩ := h.2 _ rfl a (by simp)
  obtain ⟨ht, htt⟩ := h.2 _ rfl t (by simp)
  cases a with
  | int many =>
   by_cases h0 : 0 <= many
   ·by_cases h14 : many <= 14
    ·cases t with
     | tup ts =>
      have hts := hlen _ ts rfl
      simp! only [iV h.1, ir ha, fu ht, hp, fZ, yn, cF, h0, h14, decide_true, decide_false, qx, dC, beq_self_eq_true, Bool.true_or, l6]
      refine eY (fun ρ => ∃ x, ρ = [x, some (.int many)]) (fun d => .bl (f7 many d)) (by simp only; unfold lim; omega) rfl ⟨none, rfl⟩ ?_ ?_
      ·rintro d hd ρ ⟨x, rfl⟩
       unfold gX gY
       simp! only [BD (htt _ rfl d hd), and_self, true_and]
       first | exact ⟨_, rfl⟩ | exact ⟨⟨_, rfl⟩, trivial⟩
      ·have e : ts.map (fun d => D.bl (f7 many d)) = (ts.map (f7 many)).map D.bl := by rw [List.map_map]; rfl
       rw [e]
       have hl : ((ts.map (f7 many)).map D.bl).length <= lim := by simp; unfold lim; omega
       simp! only [hl, true_and, jZ]
       have eall : (ts.map (f7 many)).all id = ts.all (f7 many) := by rw [List.all_map]; rfl
       rw [eall]
       by_cases hall : ts.all (f7 many) = true
       ·rw [if_pos hall]
        refine wq (fun t ht => ur (List.all_eq_true.mp hall t ht)) hts fun G => ?_
        have := hQ ([List.map D.bl (List.map (f7 many) ts)] ++ G)
        simp only [fB, h0, h14, hall, decide_true, Bool.true_and] at this
        rw [List.append_assoc]; exact this
       ·rw [if_neg hall]
        have := hQ [List.map D.bl (List.map (f7 many) ts)]
        simp only [fB, h0, h14, hall, decide_true, Bool.true_and, Bool.false_and] at this
        exact this
     | ro ts => cases ht
     | _ =>
      simp! only [iV h.1, ir ha, fu ht, hp, fZ, yn, cF, h0, h14, decide_true, decide_false, qx, dC]
      simp [av, aG]
      exact q0 rfl
    ·have : fB (.tup [.int many, t]) = false := by
      unfold fB
      split
      ·next e => injection e with e; injection e with e _; injection e with e; subst e; simp [h14]
      ·rfl
     simp! only [iV h.1, ir ha, hp, fZ, yn, cF, h0, h14, decide_true, decide_false]
     exact q0 this
   ·have : fB (.tup [.int many, t]) = false := by
     unfold fB
     split
     ·next e => injection e with e; injection e with e _; injection e with e; subst e; simp [h0]
     ·rfl
    simp! only [iV h.1, ir ha, hp, fZ, yn, cF, h0, decide_true, decide_false]
    exact q0 this
  | _ =>
   simp! only [iV h.1, ir ha, hp, fZ]
   exact q0 rfl
 ·have : fB d = false := by
   unfold fB
   split
   ·simp [fA] at hp
   ·rfl
  have hp' : fA d = false := by simpa using hp
  simp! only [iV h.1, hp']
  exact q0 this
end W
end
section
namespace W
open PySem PySem.Spec PyProof.Rows L2 S3 S4 S7
def f8 (S : ae) (k : Nat) : Prop := ∃ st b, S[k]? = some [.int st, .bl b] /\ 0 <= st /\ (b = false -> st < 2147483647)
theorem DB {a b : D} : gh [a, b] 0 = some a := rfl
theorem DC {a b : D} : gh [a, b] 1 = some b := rfl
theorem DD : qI 2 0 = some 0 := rfl
theorem f8.lt {S : ae} {k : Nat} (h : f8 S k) : k < S.length := let ⟨_, _, e, _⟩ := h; (List.getElem?_eq_some_iff.mp e).1
theorem f9 : 2 <= lim := by unfold lim; omega
theorem Aj {S : ae} {k : Nat} {many : Int} {Q : D -> ae -> Prop} (hs : f8 S k) (h0 : 0 < many) (h1 : many < 1073741824)
  (hQ : ∀ j S', 0 <= j -> j < many -> S'.length = S.length -> (∀ i, i ≠ k -> S'[i]? = S[i]?) -> f8 S' k -> Q (.int j) S') : runs (aJ [.lst k, .int many]) S Q := by
 have hk := hs.lt
 obtain ⟨st, b, e, p1, p2⟩ := hs
 unfold aJ gT
 refine (bn rfl).mpr ?_
 have set1 : ∀ ys : List D, (S.set k ys)[k]? = some ys := fun ys => List.getElem?_set_self hk
 have oth : ∀ (ys : List D) i, i ≠ k -> (S.set k ys)[i]? = S[i]? := fun ys i hi => List.getElem?_set_ne (Ne.symm hi)
 cases b with
 | true =>
  have cd : nk st many := ⟨h0, h1⟩
  simp! only [dO, e, Option.some.injEq, exists_eq_left', DB, DC, jf, gi, cF, h0, cd, fe, DD, hk, f9, true_and, and_self]
  refine hQ _ _ (Int.emod_nonneg _ (by omega)) (Int.emod_lt_of_pos _ h0) (by simp) (oth _) ⟨_, true, set1 _, Int.ediv_nonneg p1 (by omega), fun z => by cases z⟩
 | false =>
  have p3 := p2 rfl
  have c1 : kh st 48271 := .inr ⟨by decide, by decide⟩
  have q1 : (0 : Int) < 2147483647 := by decide
  have q2 : (0 : Int) < 2147483629 := by decide
  have q3 : (0 : Int) < 2147483587 := by decide
  have c2 : nk = fun i j => 0 < j /\ j < 1073741824 := rfl
  simp! only [dO, e, Option.some.injEq, exists_eq_left', DB, DC, jf, kj, b9, cF, c1, q1, fe, DD, hk, f9, true_and, and_self, set1]
  generalize hst : (st * 48271 + 29) % 2147483647 = st'
  have s1 : 0 <= st' := by rw [<- hst]; exact Int.emod_nonneg _ (by decide)
  have s2 : st' < 2147483647 := by rw [<- hst]; exact Int.emod_lt_of_pos _ (by decide)
  have c3 : kh st' st' := .inl ⟨by omega, by omega⟩
  have c4 : kh 39373 st' := .inl ⟨by decide, by decide⟩
  simp only [c3, c4, q2, q3, if_true, av]
  generalize hx : (st' * st' + 39373 * st' + 7) % 2147483629 = x
  have x1 : 0 <= x := by rw [<- hx]; exact Int.emod_nonneg _ (by decide)
  have x2 : x < 2147483629 := by rw [<- hx]; exact Int.emod_lt_of_pos _ (by decide)
  have c5 : kh x x := .inl ⟨by omega, by omega⟩
  have c6 : kh 16807 x := .inl ⟨by decide, by decide⟩
  simp only [c5, c6, q3, if_true, av, gi, cF]
  generalize hy : (x * x + 16807 * x) % 2147483587 = y
  have c7 : nk y 8 := ⟨by decide, by decide⟩
  simp only [c7, h0, if_true, av]
  refine hQ _ _ (Int.emod_nonneg _ (by omega)) (Int.emod_lt_of_pos _ h0) (by simp) (oth _) ⟨_, false, set1 _, s1, fun _ => s2⟩
theorem Ak {S : ae} {ns : List Int} {k : Nat} {Q : D -> ae -> Prop} (hQ : ∀ i, Q (.int i) S) : runs (bG [.ro (ns.map D.int), .int k]) S Q := by
 unfold bG d8
 refine (bn rfl).mpr ?_
 simp! only [cO, oR]
 by_cases h : (k : Int) < ((ns.map D.int).length : Nat)
 ·have hk : k < ns.length := by simpa using h
  have e : gh (ns.map D.int) (k : Int) = some (.int ns[k]) := by
   unfold gh qI
   simp [hk]
  simp! only [h, decide_true, if_true, dO, e]
  exact hQ _
 ·simp! only [h, decide_false, Bool.false_eq_true, if_false]
  exact hQ _
theorem xR {S : ae} {ns : List Int} {k : Nat} {Q : D -> ae -> Prop} (hQ : ∀ xs, f8 (S ++ [xs]) S.length -> Q (.lst S.length) (S ++ [xs])) : runs (cq [.ro (ns.map D.int), .int k]) S Q := by
 unfold cq fS
 refine (bn rfl).mpr ?_
 simp! only [mV]
 refine Ak fun cell => ?_
 have cp : wV 10 18 := ⟨by decide, by decide, by decide⟩
 have e18 : (10 : Int) ^ (18 : Int).toNat = 1000000000000000000 := by decide
 simp! only [xn, CT, fL, jf, cF, cp, e18, f9, true_and]
 by_cases h : (1000000000000000000 : Int) <= cell
 ·simp! only [h, decide_true, f9, true_and]
  exact hQ _ ⟨_, true, aB, by omega, fun z => by cases z⟩
 ·simp! only [h, decide_false, f9, true_and]
  have q1 : (0 : Int) < 2147483647 := by decide
  simp! only [q1, f9, true_and]
  exact hQ _ ⟨_, false, aB, Int.emod_nonneg _ (by decide), fun _ => Int.emod_lt_of_pos _ (by decide)⟩
end W
end
section
namespace W
open PySem PySem.Spec PyProof.Rows L2 S3 S4 S7
def iE (n a : Nat) : List (List Int) := (List.range' (a + 1) (n - (a + 1))).map fun b : Nat => [(a : Int), (b : Int)]
def cI (n : Nat) : List (List Int) := (List.range n).flatMap (iE n)
theorem pairs_len {n : Nat} (hn : n <= 14) : (cI n).length <= 91 := by
 have : ∀ m, m < 15 -> (cI m).length <= 91 := by decide +kernel
 exact this n (by omega)
theorem sT {n a : Nat} (hn : n <= 14) : (iE n a).length <= 14 := by unfold iE; simp; omega
theorem xS {n : Nat} (hn : n <= 14) {pre post : List Nat} (h : List.range n = pre ++ post) : (pre.flatMap (iE n)).length <= 91 := by
 have : (cI n).length = (pre.flatMap (iE n)).length + (post.flatMap (iE n)).length := by unfold cI; rw [h, List.flatMap_append, List.length_append]
 have := pairs_len hn
 omega
theorem dZ {items : List D} {g : l5} {b : bN} {Q : Out -> ae -> Prop} {ρ : aA} {S : ae} (I : List D -> aA -> ae -> Prop) (h0 : I items ρ S)
  (hend : ∀ ρ S, I [] ρ S -> Q (.nx ρ) S)
  (hturn : ∀ d ds ρ S, I (d :: ds) ρ S -> runs (g d ρ) S (fun ρ1 S1 => runs (b ρ1) S1 (fun o S2 => match o with | .nx ρ' => I ds ρ' S2 | .ct ρ' => I ds ρ' S2 | .bk ρ' => Q (.nx ρ') S2 | .ret r => Q (.ret r) S2))) :
  runs (jK ⟨items, .none⟩ g b items ρ) S Q := jt (it := ⟨items, .none⟩) I (fun _ _ _ _ => trivial) hend hturn items ρ S h0
theorem oB {n : Nat} {S : ae} {Q : D -> ae -> Prop} (hn : n <= 14) (hQ : ∀ S', S.length < S'.length -> (∀ i, i < S.length -> S'[i]? = S[i]?) -> S'[S.length]? = some ((cI n).map tupI) -> Q (.lst S.length) S') : runs (bb [.int n]) S Q := by
 unfold bb fQ
 refine (bn rfl).mpr ?_
 have l0 : 0 <= lim := Nat.zero_le _
 have hr : -(2 ^ 62) <= (n : Int) /\ (n : Int) < 2 ^ 62 := ⟨by omega, by omega⟩
 simp! only [l0, true_and, eS, hr, and_self, Int.toNat_natCast]
 refine dZ (fun ds ρ S' => ∃ pre post x, List.range n = pre ++ post /\ ds = post.map (fun i : Nat => D.int (0 + (i : Nat))) /\ ρ = [some (.int n), some (.lst S.length), x] /\ S.length < S'.length /\ (∀ i, i < S.length -> S'[i]? = S[i]?) /\
  S'[S.length]? = some ((pre.flatMap (iE n)).map tupI)) ⟨[], List.range n, none, rfl, rfl, rfl, by simp, fun i hi => List.getElem?_append_left hi, aB⟩ ?_ ?_
 ·rintro ρ S' ⟨pre, post, x, e, e2, rfl, h1, h2, h3⟩
  have : post = [] := by simpa using e2.symm
  subst this
  rw [List.append_nil] at e
  simp! only [mV]
  exact hQ S' h1 h2 (by unfold cI; rw [e]; exact h3)
 ·rintro d ds ρ S' ⟨pre, post, x, e, e2, rfl, h1, h2, h3⟩
  match post, e2 with
  | [], e2 => cases e2
  | a :: post, e2 =>
   simp only [List.map_cons, List.cons.injEq] at e2
   obtain ⟨rfl, rfl⟩ := e2
   have hp := xS hn (pre := pre) e
   have hal : a < n := List.mem_range.mp (by rw [e]; simp)
   have hr2 : -(2 ^ 62) <= (0 + (a : Int) + 1) /\ (0 + (a : Int) + 1) < 2 ^ 62 /\ -(2 ^ 62) <= (n : Int) /\ (n : Int) < 2 ^ 62 := ⟨by omega, by omega, by omega, by omega⟩
   unfold dH
   simp! only [tS, b9, ii, hr2, and_self]
   refine eY (fun ρ => ∃ y, ρ = [y, some (.int (0 + (a : Int)))]) (fun d => .tup [.int (0 + (a : Int)), d]) (by simp only [aY, List.length_map, List.length_range]; unfold lim; omega) rfl ⟨none, rfl⟩ ?_ ?_
   ·rintro d hd ρ ⟨y, rfl⟩
    unfold dF dG
    simp! only [f9, true_and, and_self]
    exact ⟨⟨_, rfl⟩, trivial⟩
   ·have er : (aY (0 + (a : Int) + 1) ((n : Int) - (0 + (a : Int) + 1)).toNat).map (fun d => D.tup [.int (0 + (a : Int)), d]) = (iE n a).map tupI := by
     unfold aY iE
     rw [List.map_map, List.map_map, List.range'_eq_map_range, List.map_map]
     have : ((n : Int) - (0 + (a : Int) + 1)).toNat = n - (a + 1) := by omega
     rw [this]
     refine List.map_congr_left fun i hi => ?_
     simp only [Function.comp, tupI, List.map_cons, List.map_nil]
     congr 1
     simp only [List.cons.injEq, D.int.injEq, and_true]
     omega
    rw [er]
    have l1 : ((iE n a).map tupI).length <= lim := by have := sT (a := a) hn; simp; unfold lim; omega
    have g1 : (S' ++ [(iE n a).map tupI])[S.length]? = some ((pre.flatMap (iE n)).map tupI) := by rw [List.getElem?_append_left h1]; exact h3
    have l2 : ((pre.flatMap (iE n)).map tupI ++ (iE n a).map tupI).length <= lim := by have := sT (a := a) hn; simp only [List.length_append, List.length_map]; unfold lim; omega
    have l3 : S.length < (S' ++ [(iE n a).map tupI]).length := by rw [List.length_append]; omega
    simp! only [fM, l1, g1, aB, Option.some.injEq, exists_eq_left', l2, l3, true_and, and_self]
    refine ⟨pre ++ [a], post, some (.int (0 + (a : Int))), by rw [e]; simp, rfl, rfl, by simp; omega, fun i hi => ?_, ?_⟩
    ·rw [List.getElem?_set_ne (by omega), List.getElem?_append_left (by omega)]; exact h2 i hi
    ·rw [List.getElem?_set_self l3, List.flatMap_append, List.map_append]; simp
theorem iW {t : ik} {b : bN} {Q : Out -> ae -> Prop} (I : Nat -> aA -> ae -> Prop)
  (hturn : ∀ n ρ S, I n ρ S -> runs (t ρ) S (fun c S1 => if c = true then runs (b ρ) S1 (fun o S2 => match o with | .nx ρ' => ∃ m, m < n /\ I m ρ' S2 | .ct ρ' => ∃ m, m < n /\ I m ρ' S2 | .bk ρ' => Q (.nx ρ') S2 | .ret r => Q (.ret r) S2) else Q (.nx ρ) S1)) :
  ∀ k n ρ S, n < k -> I n ρ S -> runs (gD t b k ρ) S Q
 | 0, n, ρ, S, h, _ => absurd h (Nat.not_lt_zero _)
 | k + 1, n, ρ, S, h, hi => by
  unfold gD
  rw [aG]
  refine a9 (hturn n ρ S hi) fun c S1 h1 => ?_
  cases c with
  | false => rw [if_neg (by decide)] at h1 ⊢; exact av.mpr h1
  | true =>
   rw [if_pos rfl] at h1 ⊢
   rw [aG]
   refine a9 h1 fun o S2 h2 => ?_
   cases o with
   | nx ρ' => obtain ⟨m, hm, hi'⟩ := h2; exact iW I hturn k m ρ' S2 (by omega) hi'
   | ct ρ' => obtain ⟨m, hm, hi'⟩ := h2; exact iW I hturn k m ρ' S2 (by omega) hi'
   | bk ρ' => exact av.mpr h2
   | ret r => exact av.mpr h2
end W
end
section
namespace W
open PySem PySem.Spec PyProof.Rows L2 S3 S4 S7
structure Kp (k : Nat) (S S' : ae) : Prop where
 len : S.length <= S'.length
 oth : ∀ i, i < S.length -> i ≠ k -> S'[i]? = S[i]?
 st : f8 S' k
theorem Kp.trans {k : Nat} {S S1 S2 : ae} (a : Kp k S S1) (b : Kp k S1 S2) : Kp k S S2 := ⟨Nat.le_trans a.len b.len, fun i hi hk => (b.oth i (Nat.lt_of_lt_of_le hi a.len) hk).trans (a.oth i hi hk), b.st⟩
theorem Kp.refl {k : Nat} {S : ae} (h : f8 S k) : Kp k S S := ⟨Nat.le_refl _, fun _ _ _ => rfl, h⟩
theorem f8.grow {k : Nat} {S G : ae} (h : f8 S k) : f8 (S ++ G) k := by
 obtain ⟨st, b, e, r⟩ := id h
 exact ⟨st, b, by rw [List.getElem?_append_left h.lt]; exact e, r⟩
theorem Kp.grow {k : Nat} {S : ae} (h : f8 S k) (G : ae) : Kp k S (S ++ G) := ⟨by simp, fun i hi _ => List.getElem?_append_left hi, h.grow⟩
theorem Kp.mk0 {k : Nat} {S S' : ae} (h : f8 S k) (h1 : S.length <= S'.length) (h2 : ∀ i, i < S.length -> S'[i]? = S[i]?) : Kp k S S' := by
 obtain ⟨st, b, e, r⟩ := id h
 exact ⟨h1, fun i hi _ => h2 i hi, st, b, by rw [h2 k h.lt]; exact e, r⟩
theorem dy {S : ae} {k : Nat} {many : Int} {Q : D -> ae -> Prop} (hs : f8 S k) (h0 : 0 < many) (h1 : many < 1073741824) (hQ : ∀ j S', 0 <= j -> j < many -> S'.length = S.length -> Kp k S S' -> Q (.int j) S') : runs (aJ [.lst k, .int many]) S Q :=
 Aj hs h0 h1 fun j S' a b c d e => hQ j S' a b c ⟨Nat.le_of_eq c.symm, fun i _ hk => d i hk, e⟩
theorem j3 {S : ae} {n : Nat} : ∀ ns : List Int, mapP (iB S n) (ns.map D.int) = some (ns.map PyData.int)
 | [] => rfl
 | x :: r => by
  show (match iB S n (D.int x), mapP (iB S n) (r.map D.int) with | some p, some ps => some (p :: ps) | _, _ => none) = _
  rw [iu, j3 r]; rfl
theorem fC {S : ae} {k n : Nat} {ns : List Int} (h : S[k]? = some (ns.map D.int)) : iB S (n + 1) (.lst k) = some (.list (ns.map PyData.int)) := by
 show ((S[k]?).bind fun xs => (mapP (iB S n) xs).map PyData.list) = _
 rw [h]
 show (mapP (iB S n) (ns.map D.int)).map PyData.list = _
 rw [j3]; rfl
theorem ne_nil {S : ae} {a b : Nat} {ns : List Int} {Q : D -> ae -> Prop} (h1 : S[a]? = some (ns.map D.int)) (h2 : S[b]? = some []) : runs (nS (.lst a) (.lst b)) S Q ↔ Q (.bl (!ns.isEmpty)) S := by
 unfold nS
 rw [eM (fC h1) (fC (ns := []) h2)]
 have : PyData.eqv (.list (ns.map PyData.int)) (.list (List.map PyData.int [])) = ns.isEmpty := by
  cases ns with
  | nil => simp [PyData.eqv, PyData.eqvAll]
  | cons x r => simp [PyData.eqv, PyData.eqvAll]
 rw [this]
theorem m5 {α β : Type} (f : α -> β) : ∀ (l : List α) (i : Nat), (l.map f).eraseIdx i = (l.eraseIdx i).map f
 | [], _ => rfl
 | _ :: _, 0 => rfl
 | a :: l, i + 1 => by simp [m5 f l i]
theorem xT {S : ae} {k t : Nat} {ns : List Int} {Q : D -> ae -> Prop} (hs : f8 S k) (ht : S[t]? = some (ns.map D.int)) (hl : ns.length <= 14)
  (hQ : ∀ (p : Nat) (ms : List Int) (S' : ae), ms.length = ns.length -> S'[p]? = some (ms.map D.int) -> S.length <= p -> Kp k S S' -> Q (.lst p) S') : runs (bo [.lst k, .lst t]) S Q := by
 unfold bo dh
 refine (bn rfl).mpr ?_
 have hk := hs.lt
 have l0 : 0 <= lim := Nat.zero_le _
 have l1 : (ns.map D.int).length <= lim := by simp; unfold lim; omega
 simp! only [pz, ht, Option.some.injEq, exists_eq_left', l1, l0, true_and]
 have start : Kp k S (S ++ [ns.map D.int] ++ [[]]) := by rw [List.append_assoc]; exact Kp.grow hs _
 refine iW (fun n ρ S' => ∃ (ls ms : List Int), n = ls.length /\ ls.length + ms.length = ns.length /\ ρ = [some (.lst k), some (.lst t), some (.lst S.length), some (.lst (S ++ [ns.map D.int]).length)] /\ S.length + 2 <= S'.length /\
  S'[S.length]? = some (ls.map D.int) /\ S'[S.length + 1]? = some (ms.map D.int) /\ Kp k S S') ?_ 64 ns.length _ _ (by omega) ⟨ns, [], rfl, by simp, rfl, by simp, by simp, by simp, start⟩
 rintro n ρ S' ⟨ls, ms, rfl, hsum, rfl, hlen, g1, g2, kp⟩
 have hS1 : (S ++ [ns.map D.int]).length = S.length + 1 := by simp
 rw [hS1]
 have a1 : (S' ++ [[]])[S.length]? = some (ls.map D.int) := by rw [List.getElem?_append_left (by omega)]; exact g1
 have a2 : (S' ++ [[]])[S.length + 1]? = some (ms.map D.int) := by rw [List.getElem?_append_left (by omega)]; exact g2
 have kp1 : Kp k S (S' ++ [[]]) := kp.trans (Kp.grow kp.st _)
 simp! only [l0, true_and, ne_nil a1 aB]
 by_cases he : ls = []
 ·subst he
  simp! only [List.isEmpty_nil]
  exact hQ _ ms _ (by simpa using hsum) a2 (by omega) kp1
 ·have hie : ls.isEmpty = false := by cases ls with | nil => exact absurd rfl he | cons _ _ => rfl
  have hpos : 0 < ls.length := by cases ls with | nil => exact absurd rfl he | cons _ _ => simp
  simp! only [hie]
  unfold cz
  simp! only [tS, cO, a1, Option.some.injEq, exists_eq_left']
  refine dy kp1.st (by simp; omega) (by simp; omega) fun j S2 j0 j1 e2 kp2 => ?_
  have b1 : S2[S.length]? = some (ls.map D.int) := by rw [kp2.oth _ (by simp; omega) (by omega)]; exact a1
  have b2 : S2[S.length + 1]? = some (ms.map D.int) := by rw [kp2.oth _ (by simp; omega) (by omega)]; exact a2
  have e2' : S2.length = S'.length + 1 := by rw [e2]; simp
  have hj : j.toNat < ls.length := by simp only [List.length_map] at j1; omega
  have hb : 0 <= j /\ j < ((ls.map D.int).length : Nat) := ⟨j0, by simpa using j1⟩
  have hg : (ls.map D.int)[j.toNat]? = some (.int ls[j.toNat]) := by rw [List.getElem?_map, List.getElem?_eq_getElem hj]; rfl
  have le1 : ((ls.map D.int).eraseIdx j.toNat).length <= lim := by rw [List.length_eraseIdx]; simp only [List.length_map]; unfold lim; split <;> omega
  have lt1 : S.length < S2.length := by omega
  simp! only [kZ, bC, b1, Option.some.injEq, exists_eq_left', hb, and_self, hg, le1, lt1, true_and]
  have c2 : (S2.set S.length ((ls.map D.int).eraseIdx j.toNat))[S.length + 1]? = some (ms.map D.int) := by rw [List.getElem?_set_ne (by omega)]; exact b2
  have le2 : (ms.map D.int ++ [D.int ls[j.toNat]]).length <= lim := by simp; unfold lim; omega
  have lt2 : S.length + 1 < (S2.set S.length ((ls.map D.int).eraseIdx j.toNat)).length := by rw [List.length_set]; omega
  simp only [c2, Option.some.injEq, exists_eq_left', le2, lt2, and_self, true_and]
  refine ⟨ls.length - 1, by omega, ls.eraseIdx j.toNat, ms ++ [ls[j.toNat]], ?_, ?_, by simp; omega, ?_, ?_, ?_⟩
  ·rw [List.length_eraseIdx_of_lt hj]
  ·rw [List.length_eraseIdx_of_lt hj]; simp; omega
  ·rw [List.getElem?_set_ne (by omega), List.getElem?_set_self lt1, m5]
  ·rw [List.getElem?_set_self lt2]; simp
  ·have k2 := kp1.trans kp2
   refine ⟨by simp; omega, fun i hi hik => ?_, ?_⟩
   ·rw [List.getElem?_set_ne (by omega), List.getElem?_set_ne (by omega)]; exact k2.oth i hi hik
   ·obtain ⟨st, b, e, q⟩ := k2.st
    exact ⟨st, b, by rw [List.getElem?_set_ne (by omega), List.getElem?_set_ne (by omega)]; exact e, q⟩
end W
end
section
namespace W
open PySem PySem.Spec PyProof.Rows L2 S3 S4 S7
theorem eZ {xs : List D} {p k : Nat} {g : l5} {t : ik} {m : TM} {ρ : aA} {S : ae} {Q : List D -> ae -> Prop} (R : aA -> Prop) (hl : xs.length <= lim) (hs : f8 S k) (hp : S[p]? = some xs) (hpk : p ≠ k) (hR : R ρ)
  (hturn : ∀ d ∈ xs, ∀ ρ S', R ρ -> Kp k S S' -> runs (g d ρ) S' (fun ρ1 S1 => S1 = S' /\ R ρ1 /\ runs (t ρ1) S' (fun b S2 => Kp k S' S2 /\ runs (m ρ1) S2 (fun y S3 => S3 = S2 /\ y = d))))
  (hQ : ∀ ys S', ys.Sublist xs -> Kp k S S' -> Q ys S') : runs (cS ⟨xs, .some p⟩ g t m ρ) S Q := by
 have plt : p < S.length := (List.getElem?_eq_some_iff.mp hp).1
 refine dP hl (fun ds ρ ys S' => Kp k S S' /\ R ρ /\ ∃ pre, xs = pre ++ ds /\ ys.Sublist pre) (fun ds ρ ys S' h => ?_) ?_ ⟨.refl hs, hR, [], rfl, .slnil⟩ ?_
 ·show S'[p]? = some xs
  rw [h.1.oth p plt hpk]; exact hp
 ·rintro d ds ρ ys S' ⟨kp, hr, pre, e, sb⟩
  refine a9 (hturn d (by rw [e]; simp) ρ S' hr kp) fun ρ1 S1 ⟨e1, r1, h1⟩ => ?_
  subst e1
  refine a9 h1 fun b S2 ⟨k2, h2⟩ => ?_
  cases b with
  | true =>
   rw [if_pos rfl]
   refine a9 h2 fun y S3 ⟨e3, ey⟩ => ?_
   subst e3 ey
   exact ⟨kp.trans k2, r1, pre ++ [y], by rw [e]; simp, sb.append (.refl _)⟩
  | false =>
   rw [if_neg (by decide)]
   exact ⟨kp.trans k2, r1, pre ++ [d], by rw [e]; simp, sb.trans (List.sublist_append_left _ _)⟩
 ·rintro ρ' zs S' ⟨kp, _, pre, e, sb⟩
  rw [List.append_nil] at e
  subst e
  exact hQ zs S' sb kp
def Al (r : List Int) : PyData := .tuple (r.map PyData.int)
theorem oC {S : ae} {n : Nat} (r : List Int) : iB S (n + 1) (tupI r) = some (Al r) := by
 show (mapP (iB S n) (r.map D.int)).map PyData.tuple = _
 rw [j3]; rfl
theorem m6 {S : ae} {n : Nat} : ∀ rs : List (List Int), mapP (iB S (n + 1)) (rs.map tupI) = some (rs.map Al)
 | [] => rfl
 | x :: r => by
  show (match iB S (n + 1) (tupI x), mapP (iB S (n + 1)) (r.map tupI) with | some p, some ps => some (p :: ps) | _, _ => none) = _
  rw [oC, m6 r]; rfl
theorem wu {S : ae} {k n : Nat} {rs : List (List Int)} (h : S[k]? = some (rs.map tupI)) : iB S (n + 2) (.lst k) = some (.list (rs.map Al)) := by
 show ((S[k]?).bind fun xs => (mapP (iB S (n + 1)) xs).map PyData.list) = _
 rw [h]
 show (mapP (iB S (n + 1)) (rs.map tupI)).map PyData.list = _
 rw [m6]; rfl
theorem sU {S : ae} {k : Nat} {r : List Int} {rs : List (List Int)} {Q : D -> ae -> Prop} (h : S[k]? = some (rs.map tupI)) (hQ : ∀ b, Q (.bl b) S) : runs (inD (tupI r) (.lst k)) S Q := by
 unfold inD
 rw [sG (oC r) (wu h) rfl]
 exact hQ _
theorem BF {S : ae} {a b : Bool} {Q : D -> ae -> Prop} (hQ : ∀ b, Q (.bl b) S) : runs (nS (.bl a) (.bl b)) S Q := by
 unfold nS
 rw [eM jY jY]
 exact hQ _
theorem eE (ns : List Int) : intsOf (ns.map D.int) = some ns := by
 induction ns with
 | nil => rfl
 | cons x r ih => simp [intsOf, ih]
theorem lI (rs : List (List Int)) : rowsOf (rs.map tupI) = some rs := by
 induction rs with
 | nil => rfl
 | cons x r ih =>
  show (match intsOf (x.map D.int), rowsOf (r.map tupI) with | some ns, some nss => some (ns :: nss) | _, _ => none) = _
  rw [eE, ih]
structure WebOk (many : Int) (ts : List (List Int)) : Prop where
 el : ∀ t ∈ ts, ∃ a b : Int, t = [a, b] /\ 0 <= a /\ a < b /\ b < many
 ris : ts.Pairwise fun a b => HT.lexLt a b = true
 few : ts.length <= 21
theorem wv {n : Nat} : ∀ t ∈ cI n, ∃ a b : Int, t = [a, b] /\ 0 <= a /\ a < b /\ b < n := by
 intro t ht
 unfold cI at ht
 obtain ⟨a, ha, hb⟩ := List.mem_flatMap.mp ht
 unfold iE at hb
 obtain ⟨b, hb2, rfl⟩ := List.mem_map.mp hb
 rw [List.mem_range'_1] at hb2
 rw [List.mem_range] at ha
 exact ⟨a, b, rfl, by omega, by omega, by omega⟩
theorem m7 {n : Nat} (hn : n <= 7) : (cI n).Pairwise (fun a b => HT.lexLt a b = true) /\ (cI n).length <= 21 := by
 have : ∀ m, m < 8 -> (cI m).Pairwise (fun a b => HT.lexLt a b = true) /\ (cI m).length <= 21 := by decide +kernel
 exact this n (by omega)
theorem WebOk.of_sub {n : Nat} (hn : n <= 7) {ts : List (List Int)} (h : ts.Sublist (cI n)) : WebOk n ts :=
 ⟨fun t ht => wv t (h.subset ht), List.Pairwise.sublist h (m7 hn).1, Nat.le_trans h.length_le (m7 hn).2⟩
theorem ut {ts : List (List Int)} (h : ts.Pairwise fun a b => HT.lexLt a b = true) : gJ ts = ts :=
 jP (bW ts) (ce ts) (h.imp fun z => pM z)
theorem uu {a b : List Int} : lH (tupI a) (tupI b) = HT.lexLt a b := by
 simp only [lH, tupI, eE]
theorem p9 : ∀ {ts : List (List Int)}, ts.Pairwise (fun a b => HT.lexLt a b = true) -> rO (ts.map tupI) = true
 | [], _ => rfl
 | [_], _ => rfl
 | a :: b :: r, h => by
  obtain ⟨h1, h2⟩ := List.pairwise_cons.mp h
  show (lH (tupI a) (tupI b) && rO ((b :: r).map tupI)) = true
  rw [uu, h1 b (by simp), p9 h2]; rfl
theorem xU {many : Int} {ts : List (List Int)} (h0 : 0 <= many) (h14 : many <= 14) (w : WebOk many ts) : fB (.tup [.int many, .tup (ts.map tupI)]) = true := by
 have : (ts.map tupI).all (f7 many) = true := by
  rw [List.all_map, List.all_eq_true]
  intro t ht
  obtain ⟨a, b, rfl, h1, h2, h3⟩ := w.el t ht
  simp [tupI, f7, eX, h1, h2, h3]
  omega
 simp only [fB, h0, h14, this, p9 w.ris, decide_true, Bool.and_self]
end W
end
section
namespace W
open PySem PySem.Spec PyProof.Rows L2 S3 S4 S7
theorem El {j : Int} (h0 : 0 <= j) (h1 : j < 8) : ∃ v : Int, gh [D.int 0, D.int 0, D.int 1, D.int 0, D.int 2, D.int 1, D.int 3, D.int 7] j = some (.int v) /\ 0 <= v /\ v <= 7 := by
 have : j = 0 \/ j = 1 \/ j = 2 \/ j = 3 \/ j = 4 \/ j = 5 \/ j = 6 \/ j = 7 := by omega
 rcases this with rfl | rfl | rfl | rfl | rfl | rfl | rfl | rfl
 ·exact ⟨0, rfl, by decide, by decide⟩
 ·exact ⟨0, rfl, by decide, by decide⟩
 ·exact ⟨1, rfl, by decide, by decide⟩
 ·exact ⟨0, rfl, by decide, by decide⟩
 ·exact ⟨2, rfl, by decide, by decide⟩
 ·exact ⟨1, rfl, by decide, by decide⟩
 ·exact ⟨3, rfl, by decide, by decide⟩
 ·exact ⟨7, rfl, by decide, by decide⟩
theorem Em {j : Int} (h0 : 0 <= j) (h1 : j < 3) : ∃ v : Int, gh [D.int 2, D.int 4, D.int 6] j = some (.int v) := by
 have : j = 0 \/ j = 1 \/ j = 2 := by omega
 rcases this with rfl | rfl | rfl
 ·exact ⟨2, rfl⟩
 ·exact ⟨4, rfl⟩
 ·exact ⟨6, rfl⟩
theorem En {a b c d j : Int} (h0 : 0 <= j) (h1 : j < 4) : ∃ v : Int, gh [D.int a, D.int b, D.int c, D.int d] j = some (.int v) /\ (v = a \/ v = b \/ v = c \/ v = d) := by
 have : j = 0 \/ j = 1 \/ j = 2 \/ j = 3 := by omega
 rcases this with rfl | rfl | rfl | rfl
 ·exact ⟨a, rfl, by simp⟩
 ·exact ⟨b, rfl, by simp⟩
 ·exact ⟨c, rfl, by simp⟩
 ·exact ⟨d, rfl, by simp⟩
theorem oD {ns : List Int} {i : Int} (h0 : 0 <= i) (h1 : i < ns.length) : ∃ v : Int, gh (ns.map D.int) i = some (.int v) := by
 obtain ⟨j, rfl⟩ := Int.eq_ofNat_of_zero_le h0
 have hj : j < ns.length := by omega
 refine ⟨ns[j], ?_⟩
 unfold gh qI
 simp [hj]
theorem Df : 8 <= lim := by unfold lim; omega
theorem Dg : 3 <= lim := by unfold lim; omega
theorem BG : 4 <= lim := by unfold lim; omega
theorem xV {S : ae} {a b : Int} {Q : D -> ae -> Prop} (hQ : ∀ r : List Int, r.length = 2 -> Q (.lst (S ++ [[D.int a, D.int b]]).length) (S ++ [[D.int a, D.int b]] ++ [r.map D.int])) : runs (cf [.lst S.length]) (S ++ [[D.int a, D.int b]]) Q := by
 have i2 : intsOf [D.int a, D.int b] = some [a, b] := rfl
 have sl : (sortI [a, b]).length = 2 := (sortI_perm [a, b]).length_eq
 have l3 : ((sortI [a, b]).map D.int).length <= lim := by rw [List.length_map, sl]; exact f9
 have l4 : (2 : Nat) < 64 := by decide
 simp! only [cf, aB, Option.some.injEq, exists_eq_left', i2, l4, l3, true_and]
 exact hQ _ sl
theorem BH {S : ae} {xs : List D} {Q : D -> ae -> Prop} (hl : xs.length <= lim) : runs (bU [.lst S.length]) (S ++ [xs]) Q ↔ Q (.tup xs) (S ++ [xs]) := by
 simp! only [bU, aB, Option.some.injEq, exists_eq_left', hl, true_and]
theorem yD {S S' : ae} {k q p : Nat} {rs : List (List Int)} {ms : List Int} {a b : Int} {Q : D -> ae -> Prop} (h1 : S'[q]? = some (rs.map tupI)) (h2 : S'[p]? = some (ms.map D.int)) (hpq : p ≠ q) (hqk : q ≠ k) (hlen : rs.length <= 1000) (hS : S.length <= q) (kp : Kp k S S')
  (hQ : ∀ (r : List Int) (S2 : ae), S'.length <= S2.length -> S2[q]? = some ((rs ++ [r]).map tupI) -> S2[p]? = some (ms.map D.int) -> Kp k S S2 -> Q .non S2) :
  runs (cf [.lst S'.length]) (S' ++ [[D.int a, D.int b]]) (fun x S1 => runs (bU [x]) S1 (fun y S2 => runs (bC (.lst q) [y]) S2 Q)) := by
 refine xV fun r hr => ?_
 have l2 : (r.map D.int).length <= lim := by rw [List.length_map, hr]; exact f9
 rw [BH l2]
 have qlt : q < S'.length := (List.getElem?_eq_some_iff.mp h1).1
 have plt : p < S'.length := (List.getElem?_eq_some_iff.mp h2).1
 have g1 : (S' ++ [[D.int a, D.int b]] ++ [r.map D.int])[q]? = some (rs.map tupI) := by rw [List.append_assoc, List.getElem?_append_left qlt]; exact h1
 have l3 : (rs.map tupI ++ [D.tup (r.map D.int)]).length <= lim := by simp; unfold lim; omega
 have l4 : q < (S' ++ [[D.int a, D.int b]] ++ [r.map D.int]).length := by simp; omega
 simp! only [bC, g1, Option.some.injEq, exists_eq_left', l3, l4, and_self, true_and]
 refine hQ r _ (by simp) ?_ ?_ ?_
 ·rw [List.getElem?_set_self l4, List.map_append]; rfl
 ·rw [List.getElem?_set_ne (Ne.symm hpq), List.append_assoc, List.getElem?_append_left plt]; exact h2
 ·refine ⟨by have := kp.len; simp; omega, fun i hi hik => ?_, ?_⟩
  ·have := kp.len
   rw [List.getElem?_set_ne (by omega), List.append_assoc, List.getElem?_append_left (by omega)]; exact kp.oth i hi hik
  ·obtain ⟨st, b', e, z⟩ := kp.st
   have klt := kp.st.lt
   exact ⟨st, b', by rw [List.getElem?_set_ne hqk, List.append_assoc, List.getElem?_append_left klt]; exact e, z⟩
theorem Am {S : ae} {k : Nat} {Q : D -> ae -> Prop} (hs : f8 S k) (hQ : ∀ (many : Int) ts S', 0 <= many -> many <= 7 -> WebOk many ts -> Kp k S S' -> Q (.tup [.int many, .tup (ts.map tupI)]) S') : runs (dj [.lst k, .int 7]) S Q := by
 unfold dj iT
 refine (bn rfl).mpr ?_
 have l0 : 0 <= lim := Nat.zero_le _
 simp! only [Df, true_and]
 refine dy (Kp.grow hs _).st (by decide) (by decide) fun j S1 j0 j1 e1 k1 => ?_
 have kp1 := (Kp.grow hs [[D.int 0, D.int 0, D.int 1, D.int 0, D.int 2, D.int 1, D.int 3, D.int 7]]).trans k1
 obtain ⟨v, ev, v0, v6⟩ := El j0 j1
 have hk := hs.lt
 have g1 : S1[S.length]? = some [D.int 0, D.int 0, D.int 1, D.int 0, D.int 2, D.int 1, D.int 3, D.int 7] := by rw [k1.oth _ (by simp) (by omega)]; exact aB
 simp! only [dO, g1, Option.some.injEq, exists_eq_left', ev, fL, cF, maxD, kX]
 obtain ⟨n, hn⟩ : ∃ n : Nat, (if 7 - v > 0 then 7 - v else 0) = (n : Int) := ⟨(7 - v).toNat, by split <;> omega⟩
 have hn6 : n <= 7 := by split at hn <;> omega
 rw [hn]
 refine dy kp1.st (by decide) (by decide) fun way S2 w0 w7 e2 k2 => ?_
 have kp2 := kp1.trans k2
 refine oB (by omega) fun S3 s3len s3oth s3at => ?_
 have kp3 := kp2.trans (Kp.mk0 kp2.st (Nat.le_of_lt s3len) s3oth)
 have hk2 : k < S2.length := kp2.st.lt
 have pl : ((cI n).map tupI).length <= lim := by have := pairs_len (n := n) (by omega); simp; unfold lim; omega
 simp! only [l6, s3at, Option.some.injEq, exists_eq_left']
 refine eZ (fun ρ => ∃ x, ρ = [x, some (.lst k), some (.int way)]) pl kp3.st s3at (by omega) ⟨none, rfl⟩ ?_ ?_
 ·rintro d hd ρ S' ⟨x, rfl⟩ kp
  unfold eU eV
  simp! only [mV]
  refine ⟨trivial, ⟨_, rfl⟩, ?_⟩
  refine dy kp.st (by decide) (by decide) fun j S4 j0 j1 e4 k4 => ?_
  obtain ⟨u, eu⟩ := Em (j := way % 3) (Int.emod_nonneg _ (by decide)) (Int.emod_lt_of_pos _ (by decide))
  simp! only [Dg, true_and, jf, cF, dO, aB, Option.some.injEq, exists_eq_left', show (0 : Int) < 3 by decide, eu, oR]
  exact ⟨k4.trans (Kp.grow k4.st _), trivial⟩
 ·intro ys S4 sub k4
  have kp4 := kp3.trans k4
  obtain ⟨ts, tsub, rfl⟩ := List.sublist_map_iff.mp sub
  have w1 := WebOk.of_sub hn6 tsub
  have tl : (ts.map tupI).length <= lim := by have := w1.few; simp; unfold lim; omega
  have hr : -(2 ^ 62) <= (n : Int) /\ (n : Int) <= (lim : Nat) := ⟨by omega, by unfold lim; omega⟩
  have rl : (aY 0 n).length <= lim := by simp only [aY, List.length_map, List.length_range]; unfold lim; omega
  have rr : aY 0 n = ((List.range n).map fun i : Nat => (0 + (i : Int))).map D.int := by unfold aY; rw [List.map_map]; rfl
  simp! only [tl, true_and, fO, hr, and_self, Int.toNat_natCast, rl]
  have st5 := (Kp.grow kp4.st [ts.map tupI]).trans (Kp.grow (Kp.grow kp4.st _).st [aY 0 n])
  have rat : (S4 ++ [ts.map tupI] ++ [aY 0 n])[(S4 ++ [ts.map tupI]).length]? = some (((List.range n).map fun i : Nat => (0 + (i : Int))).map D.int) := by rw [<- rr]; exact aB
  refine xT st5.st rat (by simp; omega) fun p ms S6 mlen pat plen k6 => ?_
  have kp6 := kp4.trans (st5.trans k6)
  have mlen' : ms.length = n := by rw [mlen]; simp
  have hk4 : k < S4.length := kp4.st.lt
  have tat : S6[S4.length]? = some (ts.map tupI) := by
   rw [k6.oth _ (by simp) (by omega), List.getElem?_append_left (by simp)]; exact aB
  have fin : ∀ (q : Nat) (us : List (List Int)) (S' : ae), us.Sublist (cI n) -> S'[q]? = some (us.map tupI) -> Kp k S S' -> runs (do let ds <- (do let x <- (do let ds <- (do let x <- (do let ds <- (do let x <- pure (D.lst q); let xs <- pure []; pure (x :: xs)); cf ds); let xs <- pure []; pure (x :: xs)); bU ds); let xs <- pure []; pure (x :: xs)); dz (D.int n :: ds)) S' Q := by
   intro q us S' hsub hq hkp
   have w := WebOk.of_sub hn6 hsub
   have h64 : us.length < 64 := by have := w.few; omega
   have ul : (us.map tupI).length <= lim := by have := w.few; simp; unfold lim; omega
   cases us with
   | nil =>
    have hq' : S'[q]? = some [] := hq
    simp! only [cf, hq', Option.some.injEq, exists_eq_left', intsOf, show ([] : List Int).length < 64 by decide, sortI, l0, f9, true_and, bU, aB]
    exact hQ n [] _ (by omega) (by omega) w (hkp.trans (Kp.grow hkp.st _))
   | cons u us =>
    have i0 : intsOf ((u :: us).map tupI) = none := rfl
    have h2 : two (u :: us) = true := by
     unfold two
     rw [List.all_eq_true]
     intro t ht
     obtain ⟨a, b, rfl, _⟩ := w.el t ht
     rfl
    have cond : (u :: us).length < 64 /\ two (u :: us) = true := ⟨h64, h2⟩
    generalize hU : (u :: us) = U at *
    simp! only [cf, hq, Option.some.injEq, exists_eq_left', i0, lI, pN, cond, and_self, ut w.ris, ul, f9, true_and, bU, aB]
    exact hQ n U _ (by omega) (by omega) w (hkp.trans (Kp.grow hkp.st _))
  simp! only [Bo, cF]
  by_cases hw : (2 : Int) < way
  ·simp! only [hw, decide_true, l0, true_and]
   have hr2 : -(2 ^ 62) <= (1 : Int) /\ (1 : Int) < 2 ^ 62 /\ -(2 ^ 62) <= (n : Int) /\ (n : Int) < 2 ^ 62 := ⟨by decide, by decide, by omega, by omega⟩
   simp! only [ii, hr2, and_self]
   have hp6 : p < S6.length := (List.getElem?_eq_some_iff.mp pat).1
   have hk6 : k < S6.length := kp6.st.lt
   have hpk : p ≠ k := by simp at plen; omega
   refine dZ (fun ds ρ S' => ∃ pre post rs x, (List.range ((n : Int) - 1).toNat) = pre ++ post /\ ds = post.map (fun i : Nat => D.int (1 + (i : Nat))) /\ ρ = [some (.lst k), some (.int 7), some (.int n), some (.int way), some (.lst S6.length), some (.lst p), x, none] /\ rs.length = pre.length /\
    S6.length < S'.length /\ S'[S6.length]? = some (rs.map tupI) /\ S'[p]? = some (ms.map D.int) /\ Kp k S S') ⟨[], _, [], none, rfl, rfl, rfl, rfl, by simp, aB, by rw [List.getElem?_append_left hp6]; exact pat, kp6.trans (Kp.grow kp6.st _)⟩ ?_ ?_
   ·rintro ρ S7 ⟨pre, post, rs, x, e, e0, rfl, rlen, q1, q2, q3, kp7⟩
    have hpost : post = [] := by simpa using e0.symm
    subst hpost
    have plen7 : pre.length <= 7 := by have := congrArg List.length e; simp at this; omega
    have rl7 : rs.length <= 7 := by omega
    have tail : ∀ (S8 : ae) (rs8 : List (List Int)), S6.length < S8.length -> S8[S6.length]? = some (rs8.map tupI) -> Kp k S S8 -> runs (do
      let o <- az (bt 7 (cZ (lu (aP bb (ai (mV 2) aF))) (gN 0) dq dr [none, some 0])) (bt 4 (cZ (lu (aP bb (ai (mV 2) aF))) (gN 0) du dv [none, some 4, some 7]))
       [some (.lst k), some (.int 7), some (.int n), some (.int way), some (.lst S6.length), some (.lst p), x, none]
      nO o (bK (ma (ai (mV 2) (ai (gm bU (gm cf (mV 4))) aF))))) S8 (fun o S' => runs (outD o) S' Q) := by
     intro S8 rs8 q1 q2 kp8
     have hk8 : k < S8.length := kp8.st.lt
     simp! only [mV]
     refine oB (by omega) fun S9 a1 a2 a3 => ?_
     have kp9 := kp8.trans (Kp.mk0 kp8.st (Nat.le_of_lt a1) a2)
     simp! only [l6, a3, Option.some.injEq, exists_eq_left']
     refine eZ (fun ρ => ∃ x, ρ = [x, some (.lst k)]) pl kp9.st a3 (by omega) ⟨none, rfl⟩ ?_ ?_
     ·rintro d hd ρ S' ⟨x, rfl⟩ kp
      unfold dq dr
      simp! only [mV]
      refine ⟨trivial, ⟨_, rfl⟩, ?_⟩
      refine dy kp.st (by decide) (by decide) fun j S10 j0 j1 e4 k4 => ?_
      simp! only [eq_int]
      exact ⟨k4, trivial, trivial⟩
     ·intro ys S10 sub k10
      obtain ⟨os, osub, rfl⟩ := List.sublist_map_iff.mp sub
      have kp10 := kp9.trans k10
      have ol : (os.map tupI).length <= lim := by have := osub.length_le; have := pairs_len (n := n) (by omega); simp; unfold lim; omega
      have b2 : S10[S6.length]? = some (rs8.map tupI) := by rw [k10.oth _ (by omega) (by omega), a2 _ q1]; exact q2
      have hl10 := k10.len
      simp! only [ol, true_and]
      have kp11 := kp10.trans (Kp.grow kp10.st [os.map tupI])
      refine oB (by omega) fun S12 c1 c2 c3 => ?_
      have kp12 := kp11.trans (Kp.mk0 kp11.st (Nat.le_of_lt c1) c2)
      have d2 : S12[S6.length]? = some (rs8.map tupI) := by rw [c2 _ (by simp; omega), List.getElem?_append_left (by omega)]; exact b2
      have d3 : S12[S10.length]? = some (os.map tupI) := by rw [c2 _ (by simp)]; exact aB
      have hk10 : k < S10.length := kp10.st.lt
      simp! only [l6, c3, Option.some.injEq, exists_eq_left']
      have l12 : S6.length < S12.length := by simp at c1; omega
      have l13 : S10.length < S12.length := by simp at c1; omega
      refine eZ (fun ρ => ∃ x, ρ = [x, some (.lst S6.length), some (.lst S10.length)]) pl kp12.st c3 (by simp; omega) ⟨none, rfl⟩ ?_ ?_
      ·rintro d hd ρ S' ⟨x, rfl⟩ kp
       obtain ⟨r, hr', rfl⟩ := List.mem_map.mp hd
       unfold du dv
       simp! only [mV]
       refine ⟨trivial, ⟨_, rfl⟩, ?_⟩
       refine sU (by rw [kp.oth _ l12 (by omega)]; exact d2) fun b1 => ?_
       refine sU (by rw [kp.oth _ l13 (by omega)]; exact d3) fun b2 => ?_
       refine BF fun b3 => ?_
       simp! only [mV]
       exact ⟨Kp.refl kp.st, trivial, trivial⟩
      ·intro zs S14 sub2 k14
       obtain ⟨us, usub, rfl⟩ := List.sublist_map_iff.mp sub2
       have kp14 := kp12.trans k14
       have ul : (us.map tupI).length <= lim := by have := usub.length_le; have := pairs_len (n := n) (by omega); simp; unfold lim; omega
       simp! only [ul, true_and]
       have := fin S14.length us (S14 ++ [us.map tupI]) usub aB (kp14.trans (Kp.grow kp14.st _))
       simp! only [mV] at this
       exact this
    simp! only [eq_int, Bo, cF]
    simp! only [mV] at tail
    by_cases c4 : way = 4
    ·simp! only [c4, decide_true]
     by_cases c2 : (2 : Int) < n
     ·simp! only [c2, decide_true, tS]
      obtain ⟨u1, eu1⟩ := oD (ns := ms) (i := 0) (by decide) (by omega)
      obtain ⟨u2, eu2⟩ := oD (ns := ms) (i := (n : Int) - 1) (by omega) (by omega)
      simp! only [dO, q3, Option.some.injEq, exists_eq_left', eu1, eu2, fL, cF]
      refine ⟨f9, ?_⟩
      refine yD q2 q3 (by omega) (by omega) (by omega) (by have := kp6.len; omega) kp7 fun r S8 z1 z2 z3 z4 => ?_
      subst c4
      exact tail S8 _ (by omega) z2 z4
     ·simp! only [c2, decide_false]
      subst c4
      exact tail S7 rs q1 q2 kp7
    ·simp! only [c4, decide_false]
     exact tail S7 rs q1 q2 kp7
   ·rintro d ds ρ S7 ⟨pre, post, rs, x, e, e0, rfl, rlen, q1, q2, q3, kp7⟩
    match post, e0 with
    | [], e0 => cases e0
    | i :: post, e0 =>
     simp only [List.map_cons, List.cons.injEq] at e0
     obtain ⟨rfl, rfl⟩ := e0
     have hi : i < ((n : Int) - 1).toNat := List.mem_range.mp (by rw [e]; simp)
     have pl7 : pre.length <= 7 := by have := congrArg List.length e; simp at this; omega
     unfold eW
     have c8 : nk (1 + (i : Int)) 2 := ⟨by decide, by decide⟩
     obtain ⟨u1, eu1⟩ := oD (ns := ms) (i := 1 + (i : Int)) (by omega) (by omega)
     obtain ⟨v4, ev4, hv4⟩ := En (a := 1 + (i : Int) - 1) (b := 1 + (i : Int) - 1) (c := 0) (d := (1 + (i : Int)) / 2) (j := way - 3) (by omega) (by omega)
     obtain ⟨u2, eu2⟩ := oD (ns := ms) (i := v4) (by omega) (by omega)
     have q3' : ∀ xs, (S7 ++ [xs])[p]? = some (ms.map D.int) := fun xs => by rw [List.getElem?_append_left (by omega)]; exact q3
     have q2' : ∀ xs, (S7 ++ [xs])[S6.length]? = some (rs.map tupI) := fun xs => by rw [List.getElem?_append_left q1]; exact q2
     simp! only [tS, dO, q3, q3', Option.some.injEq, exists_eq_left', eu1, fL, gi, cF, c8, BG, f9, true_and, aB, ev4, eu2]
     refine yD (S' := S7 ++ [[D.int (1 + (i : Int) - 1), D.int (1 + (i : Int) - 1), D.int 0, D.int ((1 + (i : Int)) / 2)]]) (q2' _) (q3' _) (by omega) (by omega) (by omega) (by have := kp6.len; omega) (kp7.trans (Kp.grow kp7.st _)) fun r S8 z1 z2 z3 z4 => ?_
     refine ⟨pre ++ [i], post, rs ++ [r], some (.int (1 + (i : Int))), by rw [e]; simp, rfl, rfl, by simp [rlen], by simp at z1; omega, z2, z3, z4⟩
  ·simp! only [hw, decide_false]
   have := fin S4.length ts S6 tsub tat kp6
   simp! only [mV] at this
   exact this
end W
end
section
namespace W
open PySem PySem.Spec PyProof.Rows L2 S3 S4 S7
theorem uv {t : List Int} {l : List (List Int)} : t ∈ gl l ↔ t ∈ l := by
 unfold gl
 rw [(bW _).mem_iff, fi]
theorem m8 : ∀ l : List (List Int), (de l).length <= l.length
 | [] => Nat.le_refl _
 | x :: r => by
  unfold de
  have := m8 r
  split
  ·simp; omega
  ·simp; omega
theorem m9 (l : List (List Int)) : (gl l).length <= l.length := by
 unfold gl
 rw [(bW _).length_eq]; exact m8 l
theorem uw (l : List (List Int)) : (gl l).Pairwise fun a b => HT.lexLt a b = true := by
 have h1 := ce (de l)
 have h2 : (gl l).Nodup := (List.Perm.nodup_iff (bW _)).mpr (jo l)
 unfold gl at h2 ⊢
 generalize gJ (de l) = s at h1 h2
 induction s with
 | nil => exact .nil
 | cons x r ih =>
  obtain ⟨a1, a2⟩ := List.pairwise_cons.mp h1
  obtain ⟨b1, b2⟩ := List.nodup_cons.mp h2
  refine List.pairwise_cons.mpr ⟨fun y hy => ?_, ih a2 b2⟩
  cases q : HT.lexLt x y with
  | true => rfl
  | false => exact absurd (oa q (a1 y hy) ▸ hy) b1
theorem xW {S : ae} {k : Nat} {Q : D -> ae -> Prop} (hs : f8 S k) (hQ : ∀ (many : Int) ts S', 0 <= many -> many <= 14 -> WebOk many ts -> Kp k S S' -> Q (.tup [.int many, .tup (ts.map tupI)]) S') : runs (bp [.lst k]) S Q := by
 unfold bp di
 refine (bn rfl).mpr ?_
 have l0 : 0 <= lim := Nat.zero_le _
 simp! only [mV]
 refine dy hs (by decide) (by decide) fun j S1 j0 j1 e1 k1 => ?_
 have hk1 : k < S1.length := k1.st.lt
 simp! only [b9, l0, true_and]
 refine dy (Kp.grow k1.st _).st (by decide) (by decide) fun c S2 c0 c1 e2 k2 => ?_
 have kp2 := k1.trans ((Kp.grow k1.st [[]]).trans k2)
 have g2 : S2[S1.length]? = some ((([] : List (List Int))).map tupI) := by rw [k2.oth _ (by simp) (by omega)]; exact aB
 have hr : -(2 ^ 62) <= c /\ c < 2 ^ 62 := ⟨by omega, by omega⟩
 simp! only [eS, hr, and_self]
 refine dZ (fun ds ρ S' => ∃ (rs : List (List Int)) (x y z : Option D), ds.length + rs.length = c.toNat /\ ρ = [some (.lst k), some (.int (8 + j)), some (.lst S1.length), x, y, z] /\ (∀ t ∈ rs, ∃ a b : Int, t = [a, b] /\ 0 <= a /\ a < b /\ b < 8 + j) /\
  S1.length < S'.length /\ S'[S1.length]? = some (rs.map tupI) /\ Kp k S S') ⟨[], none, none, none, by simp [aY], rfl, (fun t ht => by cases ht), by rw [e2]; simp, g2, kp2⟩ ?_ ?_
 ·rintro ρ S3 ⟨rs, x, y, z, hlen, rfl, hel, q1, q2, kp3⟩
  have rl : rs.length <= 11 := by simp at hlen; omega
  have h2 : two rs = true := by
   unfold two
   rw [List.all_eq_true]
   intro t ht
   obtain ⟨a, b, rfl, _⟩ := hel t ht
   rfl
  have cond : rs.length <= 18 /\ two rs = true := ⟨by omega, h2⟩
  have ul : ((gl rs).map tupI).length <= lim := by have := m9 rs; simp; unfold lim; omega
  simp! only [jp, q2, Option.some.injEq, exists_eq_left', lI, dD, cond, and_self, ul, true_and, bU, aB, f9]
  exact hQ (8 + j) (gl rs) _ (by omega) (by omega) ⟨fun t ht => hel t (uv.mp ht), uw rs, by have := m9 rs; omega⟩ (kp3.trans (Kp.grow kp3.st _))
 ·rintro d ds ρ S3 ⟨rs, x, y, z, hlen, rfl, hel, q1, q2, kp3⟩
  unfold cA
  simp! only [mV]
  refine dy kp3.st (by omega) (by omega) fun one S4 o0 o1 e4 k4 => ?_
  simp! only [b9, fL, cF]
  refine dy k4.st (by omega) (by omega) fun two' S5 t0 t1 e5 k5 => ?_
  have hpos : (0 : Int) < 8 + j := by omega
  have kp5 := kp3.trans (k4.trans k5)
  have q5 : S5[S1.length]? = some (rs.map tupI) := by rw [k5.oth _ (by omega) (by omega), k4.oth _ q1 (by omega)]; exact q2
  simp! only [b9, jf, cF, hpos, minD, maxD, kX, f9, true_and, tS]
  generalize ho : (one + 1 + two') % (8 + j) = oth
  have hoth : oth ≠ one /\ 0 <= oth /\ oth < 8 + j := by
   have b1 : 0 <= oth := by rw [<- ho]; exact Int.emod_nonneg _ (by omega)
   have b2 : oth < 8 + j := by rw [<- ho]; exact Int.emod_lt_of_pos _ (by omega)
   refine ⟨?_, b1, b2⟩
   by_cases hc : one + 1 + two' < 8 + j
   ·have : (one + 1 + two') % (8 + j) = one + 1 + two' := Int.emod_eq_of_lt (by omega) hc
    omega
   ·have : (one + 1 + two') % (8 + j) = one + 1 + two' - (8 + j) := by
     rw [<- Int.sub_emod_right]
     exact Int.emod_eq_of_lt (by omega) (by omega)
    omega
  have l3 : (rs.map tupI ++ [D.tup [D.int (if oth < one then oth else one), D.int (if oth > one then oth else one)]]).length <= lim := by simp at hlen ⊢; unfold lim; omega
  have l4 : S1.length < S5.length := by omega
  simp! only [bC, q5, Option.some.injEq, exists_eq_left', l3, l4, and_self, true_and]
  refine ⟨rs ++ [[if oth < one then oth else one, if oth > one then oth else one]], _, _, _, by simp at hlen ⊢; omega, rfl, fun t ht => ?_, by simp; omega, ?_, ?_⟩
  ·rcases List.mem_append.mp ht with ht | ht
   ·exact hel t ht
   ·have : t = [if oth < one then oth else one, if oth > one then oth else one] := by simpa using ht
    subst this
    refine ⟨_, _, rfl, ?_⟩
    obtain ⟨h1, h2, h3⟩ := hoth
    by_cases c1 : oth < one
    ·rw [if_pos c1, if_neg (by omega)]; exact ⟨h2, c1, o1⟩
    ·rw [if_neg c1, if_pos (by omega)]; exact ⟨o0, by omega, h3⟩
  ·rw [List.getElem?_set_self l4, List.map_append]; rfl
  ·refine ⟨by have := kp5.len; simp; omega, fun i hi hik => ?_, ?_⟩
   ·have h1 := k1.len
    rw [List.getElem?_set_ne (by omega)]; exact kp5.oth i hi hik
   ·obtain ⟨st, b', e, z⟩ := kp5.st
    exact ⟨st, b', by rw [List.getElem?_set_ne (by omega)]; exact e, z⟩
end W
end
section
namespace W
open PySem PySem.Spec PyProof.Rows L2 S3 S4 S7
theorem BI {S : ae} {a b : Bool} {Q : D -> ae -> Prop} : runs (qw (.bl a) (.bl b)) S Q ↔ Q (.bl (a == b)) S := by
 unfold qw
 rw [eM jY jY]
 have : PyData.eqv (.bool a) (.bool b) = (a == b) := by cases a <;> cases b <;> simp [PyData.eqv]
 rw [this]
def BJ : Nat -> D -> Bool
 | _, .ro _ => false
 | _, .fn _ _ _ _ _ => false
 | _, .exc _ _ => false
 | n + 1, .tup ds => ds.all (BJ n)
 | _, _ => true
theorem sV {n : Nat} {d : D} (h : BJ n d = true) : wN d := by
 cases d <;> first | rfl | (cases n <;> cases h)
theorem BK {n : Nat} {d : D} (h : BJ (n + 1) d = true) : De d := ⟨sV h, fun ds e x hx => by
 subst e
 exact sV (List.all_eq_true.mp h x hx)⟩
def BM : D -> Bool
 | .tup ds => ds.all fun x => match x with
  | .tup ts => decide (ts.length <= 18)
  | _ => true
 | _ => true
structure Good (d : D) : Prop where
 nr : Ce d
 few : ∀ m ts, d = .tup [m, .tup ts] -> ts.length <= 18
theorem xX {d : D} (h : BJ 3 d = true) (h2 : BM d = true) : Good d := ⟨⟨sV h, fun ds e x hx => by
  subst e
  have hx3 := List.all_eq_true.mp h x hx
  refine ⟨sV hx3, fun ts et t ht => ?_⟩
  subst et
  exact BK (List.all_eq_true.mp hx3 t ht)⟩, fun m ts e => by
  subst e
  have := List.all_eq_true.mp h2 (.tup ts) (by simp)
  simpa using this⟩
def ww (d : D) : Bool := BJ 3 d && BM d
theorem wx {d : D} (h : ww d = true) : Good d := by
 unfold ww at h
 rw [Bool.and_eq_true] at h
 exact xX h.1 h.2
theorem BN {xs : List D} {j : Int} (h0 : 0 <= j) (h1 : j < xs.length) : ∃ d, gh xs j = some d /\ d ∈ xs := by
 have hk : j.toNat < xs.length := by omega
 refine ⟨xs[j.toNat], ?_, List.getElem_mem hk⟩
 unfold gh qI
 simp [h0, h1, hk]
theorem pick {S : ae} {p : Nat} {xs : List D} {j : Int} {Q : D -> ae -> Prop} (R : D -> Prop) (h0 : 0 <= j) (h1 : j < xs.length) (hp : S[p]? = some xs) (h : ∀ d ∈ xs, R d) (hQ : ∀ d, R d -> Q d S) : runs (dO (.lst p) (.int j)) S Q := by
 obtain ⟨d, e1, hd⟩ := BN h0 h1
 simp only [dO, aG, df, hp, Option.some.injEq, exists_eq_left', e1, av]
 exact hQ d (h d hd)
theorem xY {xs : List D} (h : xs.all (fun d => ww d && !fB d) = true) : ∀ d ∈ xs, Good d /\ fB d = false := fun d hd => by
 have := List.all_eq_true.mp h d hd
 rw [Bool.and_eq_true] at this
 exact ⟨wx this.1, by simpa using this.2⟩
theorem j4 {S : ae} {xs ys : List D} : (S ++ [xs] ++ [ys])[S.length]? = some xs := by rw [List.append_assoc]; simp
theorem An {S : ae} {xs ys zs : List D} : (S ++ [xs] ++ [ys] ++ [zs])[S.length]? = some xs := by rw [List.append_assoc, List.append_assoc]; simp
theorem lm {n : Nat} (h : n <= 1000) : n <= lim := by unfold lim; omega
theorem BO {S : ae} {k : Nat} {Q : D -> ae -> Prop} (hs : f8 S k) (hQ : ∀ d S', Good d -> fB d = false -> Kp k S S' -> Q d S') : runs (bH [.lst k]) S Q := by
 unfold bH eh
 refine (bn rfl).mpr ?_
 simp! only [f9, lm (show 0 <= 1000 by decide), lm (show 1 <= 1000 by decide), lm (show 12 <= 1000 by decide), lm (show 5 <= 1000 by decide), lm (show 8 <= 1000 by decide), true_and, b9]
 simp! only [j4, An, aB, Option.some.injEq, exists_eq_left', lm (show 17 <= 1000 by decide), lm (show 25 <= 1000 by decide), true_and]
 refine dy (k := k) (by simp only [List.append_assoc]; exact hs.grow) (by decide) (by decide) fun j S' j0 j1 e kp => ?_
 have kp0 : Kp k S S' := Kp.trans (by simp only [List.append_assoc]; exact Kp.grow hs _) kp
 refine pick (fun d => Good d /\ fB d = false) j0 ?_ ((kp.oth _ ?_ ?_).trans aB) (xY rfl) fun d g => hQ d S' g.1 g.2 kp0
 ·exact j1
 ·simp only [List.length_append, List.length_cons, List.length_nil]; omega
 ·have := hs.lt; simp only [List.length_append, List.length_cons, List.length_nil]; omega
end W
end
section
namespace W
open PySem PySem.Spec PyProof.Rows L2 S3 S4 S7
def cu (p : Int) (t : List Int) : Bool := t.any (· == p)
def pc {α : Type} (r : α -> α -> Bool) : List α -> Nat
 | [] => 0
 | x :: xs => xs.countP (r x) + pc r xs
theorem qb (c : Nat) : c + c * (c - 1) / 2 = (c + 1) * c / 2 := by
 have : (c + 1) * c = c * (c - 1) + 2 * c := by
  cases c with
  | zero => rfl
  | succ c => simp only [Nat.add_sub_cancel]; rw [Nat.mul_comm (c + 1 + 1), Nat.mul_comm 2, <- Nat.mul_add]
 rw [this, Nat.add_mul_div_left _ _ (by decide)]; omega
theorem qc (p : Int) : ∀ E : List (List Int), pc (fun s t => cu p s && cu p t) E = E.countP (cu p) * (E.countP (cu p) - 1) / 2
 | [] => by simp [pc]
 | x :: xs => by
  unfold pc
  rw [qc p xs, List.countP_cons]
  by_cases h : cu p x = true
  ·simp only [h, Bool.true_and, if_true, Nat.add_sub_cancel]
   have : xs.countP (fun t => cu p t) = xs.countP (cu p) := rfl
   rw [this, qb]
  ·have h' : cu p x = false := by simpa using h
   simp [h', List.countP_false]
def sm (m : Nat) (f : Nat -> Nat) : Nat := ((List.range m).map f).sum
theorem sW (f : Nat -> Nat) : sm 0 f = 0 := rfl
theorem gc (m : Nat) (f : Nat -> Nat) : sm (m + 1) f = sm m f + f m := by unfold sm; rw [List.range_succ]; simp
theorem oE (m : Nat) (f : Nat -> Nat) : sm (m + 1) f = f 0 + sm m (fun i => f (i + 1)) := by
 unfold sm; rw [List.range_succ_eq_map]; simp [Function.comp_def]
theorem gd (f g : Nat -> Nat) : ∀ m, sm m (fun i => f i + g i) = sm m f + sm m g
 | 0 => rfl
 | m + 1 => by rw [gc, gc, gc, gd f g m]; omega
theorem cW {f g : Nat -> Nat} : ∀ {m : Nat}, (∀ i, i < m -> f i = g i) -> sm m f = sm m g
 | 0, _ => rfl
 | m + 1, h => by rw [gc, gc, cW fun i hi => h i (Nat.lt_succ_of_lt hi), h m (Nat.lt_succ_self m)]
theorem j5 : ∀ m, sm m (fun _ => 0) = 0
 | 0 => rfl
 | m + 1 => by rw [gc, j5 m]
theorem lJ (i x : Nat) : ∀ m, sm m (fun j => if j = i then x else 0) = if i < m then x else 0
 | 0 => by simp [sW]
 | m + 1 => by
  rw [gc, lJ i x m]
  by_cases h : i < m
  ·rw [if_pos h, if_neg (by omega), if_pos (by omega)]; omega
  ·by_cases h2 : m = i
   ·subst h2; simp
   ·rw [if_neg h, if_neg h2, if_neg (by omega)]
theorem lK {α : Type} (q : α -> Bool) (d : α) : ∀ E : List α, E.countP q = sm E.length (fun i => if q (E.getD i d) then 1 else 0)
 | [] => rfl
 | x :: xs => by
  rw [List.countP_cons, List.length_cons, oE, lK q d xs]
  simp only [List.getD_cons_zero, List.getD_cons_succ]
  omega
theorem na (n : Nat) (r : List Int -> Bool) (g : Nat -> List Int -> Bool) : ∀ xs : List (List Int), (∀ t ∈ xs, (if r t then 1 else 0) = sm n (fun p => if g p t then 1 else 0)) -> xs.countP r = sm n (fun p => xs.countP (g p))
 | [], _ => by simp [j5]
 | x :: xs, h => by
  rw [List.countP_cons, na n r g xs fun t ht => h t (List.mem_cons_of_mem _ ht), h x List.mem_cons_self, <- gd]
  exact cW fun p _ => by rw [List.countP_cons]
theorem wy (n : Nat) (r : List Int -> List Int -> Bool) (g : Nat -> List Int -> List Int -> Bool) : ∀ E : List (List Int), E.Pairwise (fun s t => (if r s t then 1 else 0) = sm n (fun p => if g p s t then 1 else 0)) -> pc r E = sm n (fun p => pc (g p) E)
 | [], _ => by simp [pc, j5]
 | x :: xs, h => by
  obtain ⟨h1, h2⟩ := List.pairwise_cons.mp h
  unfold pc
  rw [wy n r g xs h2, na n (r x) (fun p => g p x) xs h1, <- gd]
def bg (s t : List Int) : Bool := decide ((distinct (s ++ t)).length < 4)
theorem fD {a b c d : Int} (h1 : a < b) (h2 : c < d) : bg [a, b] [c, d] = decide (a = c \/ a = d \/ b = c \/ b = d) := by
 unfold bg distinct firstMet
 have e : (List.range ([a, b] ++ [c, d]).length).map (fun i => ([a, b] ++ [c, d]).getD i 0) = [a, b, c, d] := rfl
 rw [e]
 have hab : ¬ a = b := by omega
 have hcd : ¬ c = d := by omega
 refine decide_eq_decide.mpr ?_
 show (step_dedup (step_dedup (step_dedup (step_dedup [] a) b) c) d).length < 4 ↔ _
 have s1 : step_dedup [] a = [a] := rfl
 have s2 : step_dedup [a] b = [a, b] := by simp [step_dedup, hab]
 have s3 : step_dedup [a, b] c = if a = c \/ b = c then [a, b] else [a, b, c] := by unfold step_dedup; simp
 rw [s1, s2, s3]
 by_cases h : a = c \/ b = c
 ·rw [if_pos h]
  have : (step_dedup [a, b] d).length < 4 := by unfold step_dedup; split <;> simp
  exact ⟨fun _ => by omega, fun _ => this⟩
 ·rw [if_neg h]
  have s4 : step_dedup [a, b, c] d = if a = d \/ b = d then [a, b, c] else [a, b, c, d] := by unfold step_dedup; simp [hcd]
  rw [s4]
  by_cases h3 : a = d \/ b = d
  ·rw [if_pos h3]
   exact ⟨fun _ => by omega, fun _ => by simp⟩
  ·rw [if_neg h3]
   exact ⟨fun z => by simp at z, fun z => by omega⟩
structure Tied (n : Nat) (E : List (List Int)) : Prop where
 el : ∀ t ∈ E, ∃ a b : Int, t = [a, b] /\ 0 <= a /\ a < b /\ b < n
 nd : E.Nodup
theorem sX {n : Nat} {a : Int} (h0 : 0 <= a) (h1 : a < n) (x : Nat) : sm n (fun p => if (p : Int) = a then x else 0) = x := by
 obtain ⟨k, rfl⟩ := Int.eq_ofNat_of_zero_le h0
 have : ∀ p : Nat, ((p : Int) = (k : Int)) ↔ p = k := fun p => by omega
 simp only [this]
 rw [lJ, if_pos (by omega)]
theorem qd {p a b : Int} : cu p [a, b] = decide (p = a \/ p = b) := by
 unfold cu
 rw [Bool.eq_iff_iff]
 simp
 constructor
 ·rintro (h | h)
  ·exact .inl h.symm
  ·exact .inr h.symm
 ·rintro (h | h)
  ·exact .inl h.symm
  ·exact .inr h.symm
theorem ux {n : Nat} {a b c d : Int} (ha : 0 <= a) (hab : a < b) (hb : b < n) (hc : 0 <= c) (hcd : c < d) (hd : d < n) (hne : ¬ (a = c /\ b = d)) :
  (if bg [a, b] [c, d] then 1 else 0) = sm n (fun p => if cu p [a, b] && cu p [c, d] then 1 else 0) := by
 have e : ∀ p : Nat, (if cu p [a, b] && cu p [c, d] then 1 else 0) = (if (p : Int) = a then (if a = c \/ a = d then 1 else 0) else 0) + (if (p : Int) = b then (if b = c \/ b = d then 1 else 0) else 0) := fun p => by
  rw [qd, qd]
  by_cases h1 : (p : Int) = a
  ·have h2 : ¬ (p : Int) = b := by omega
   rw [if_pos h1, if_neg h2]
   simp only [h1, true_or, decide_true, Bool.true_and, decide_eq_true_eq, Nat.add_zero]
  ·rw [if_neg h1]
   by_cases h2 : (p : Int) = b
   ·rw [if_pos h2]
    simp only [h2, or_true, decide_true, Bool.true_and, decide_eq_true_eq, Nat.zero_add]
   ·rw [if_neg h2]
    simp [h1, h2]
 rw [cW fun p _ => e p, gd, sX ha (by omega), sX (by omega) hb, fD hab hcd]
 by_cases p1 : a = c \/ a = d
 ·have p2 : ¬ (b = c \/ b = d) := by omega
  rw [if_pos p1, if_neg p2, if_pos (by simp; omega)]
 ·rw [if_neg p1]
  by_cases p2 : b = c \/ b = d
  ·rw [if_pos p2, if_pos (by simp; omega)]
  ·rw [if_neg p2, if_neg (by simp; omega)]
def cX (E : List (List Int)) (p : Nat) : Nat := E.countP (cu p)
def wz (c : Nat) : Nat := c * (c - 1) / 2
theorem kg {n : Nat} {E : List (List Int)} (w : Tied n E) : pc bg E = sm n (fun p => wz (cX E p)) := by
 rw [wy n bg (fun p s t => cu p s && cu p t) E ?_]
 ·exact cW fun p _ => qc p E
 ·refine List.Pairwise.imp_of_mem (R := fun s t => s ≠ t) ?_ w.nd
  intro s t hs ht hne
  obtain ⟨a, b, rfl, h1, h2, h3⟩ := w.el s hs
  obtain ⟨c, d, rfl, g1, g2, g3⟩ := w.el t ht
  exact ux h1 h2 h3 g1 g2 g3 fun z => hne (by rw [z.1, z.2])
def cJ (E : List (List Int)) (a : Nat) : List (List Int) := ((List.range' (a + 1) (E.length - (a + 1))).filter fun b => bg (E.getD a []) (E.getD b [])).map fun b : Nat => [(a : Int), (b : Int)]
def bi (E : List (List Int)) : List (List Int) := (List.range E.length).flatMap (cJ E)
theorem drop_eq (E : List (List Int)) (k : Nat) : E.drop k = (List.range' k (E.length - k)).map fun b => E.getD b [] := by
 refine List.ext_getElem? fun i => ?_
 rw [List.getElem?_drop, List.getElem?_map]
 by_cases h : i < E.length - k
 ·rw [List.getElem?_range' h]
  have : k + i < E.length := by omega
  simp [List.getD, this, List.getElem?_eq_getElem this]
 ·rw [List.getElem?_eq_none (by omega), List.getElem?_eq_none (by simp; omega)]; rfl
theorem qe (E : List (List Int)) (a : Nat) : (cJ E a).length = (E.drop (a + 1)).countP (bg (E.getD a [])) := by
 unfold cJ
 rw [List.length_map, drop_eq, List.countP_map, List.countP_eq_length_filter]
 rfl
theorem sY : ∀ E : List (List Int), sm E.length (fun a => (E.drop (a + 1)).countP (bg (E.getD a []))) = pc bg E
 | [] => rfl
 | x :: xs => by
  rw [List.length_cons, oE]
  simp only [List.getD_cons_zero, List.getD_cons_succ, List.drop_succ_cons, List.drop_zero]
  rw [sY xs]
  rfl
theorem qf (E : List (List Int)) : (bi E).length = pc bg E := by
 rw [<- sY E]
 unfold bi sm
 rw [List.length_flatMap]
 congr 1
 exact List.map_congr_left fun a _ => qe E a
theorem oF {E : List (List Int)} {a : Nat} {t : List Int} (h : t ∈ cJ E a) : ∃ b : Nat, t = [(a : Int), (b : Int)] /\ a < b /\ b < E.length /\ bg (E.getD a []) (E.getD b []) = true := by
 unfold cJ at h
 obtain ⟨b, hb, rfl⟩ := List.mem_map.mp h
 obtain ⟨h1, h2⟩ := List.mem_filter.mp hb
 rw [List.mem_range'_1] at h1
 exact ⟨b, rfl, by omega, by omega, h2⟩
theorem Ao (E : List (List Int)) (a : Nat) : (cJ E a).Nodup := by
 unfold cJ
 refine List.Pairwise.map (S := fun b c : List Int => b ≠ c) _ (R := fun b c : Nat => b ≠ c) (fun b c h z => ?_) ((List.nodup_range' (step := 1)).sublist List.filter_sublist)
 have := (List.cons.inj (List.cons.inj z).2).1
 omega
theorem ng (E : List (List Int)) : Tied E.length (bi E) := by
 refine ⟨fun t ht => ?_, ?_⟩
 ·obtain ⟨a, ha, h⟩ := List.mem_flatMap.mp ht
  obtain ⟨b, rfl, h1, h2, _⟩ := oF h
  exact ⟨a, b, rfl, by omega, by omega, by omega⟩
 ·unfold bi
  unfold List.Nodup
  rw [List.pairwise_flatMap]
  refine ⟨fun a _ => Ao E a, ?_⟩
  refine List.Pairwise.imp ?_ List.nodup_range
  intro a b hab t h1 u h2 z
  obtain ⟨c, rfl, _⟩ := oF h1
  obtain ⟨d, rfl, _⟩ := oF h2
  have := (List.cons.inj z).1
  exact hab (by omega)
theorem uy {E : List (List Int)} {a i : Nat} (hi : i < E.length) : (cJ E a).countP (cu i) = if a = i then (E.drop (i + 1)).countP (bg (E.getD i [])) else if a < i then (if bg (E.getD a []) (E.getD i []) then 1 else 0) else 0 := by
 by_cases h : a = i
 ·subst h
  rw [if_pos rfl, <- qe E a, List.countP_eq_length]
  intro t ht
  obtain ⟨b, rfl, _⟩ := oF ht
  rw [qd]; simp
 ·rw [if_neg h]
  unfold cJ
  rw [List.countP_map]
  have e : ∀ b : Nat, (cu (i : Int) ∘ fun b : Nat => [(a : Int), (b : Int)]) b = decide (b = i) := fun b => by
   show cu (i : Int) [(a : Int), (b : Int)] = _
   rw [qd]
   refine decide_eq_decide.mpr ⟨fun z => ?_, fun z => ?_⟩
   ·rcases z with z | z
    ·exact absurd z.symm (by omega)
    ·omega
   ·right; omega
  rw [List.countP_congr (q := fun b => decide (b = i)) fun b _ => by rw [e b], List.countP_filter]
  by_cases h2 : a < i
  ·rw [if_pos h2]
   have hm : i ∈ List.range' (a + 1) (E.length - (a + 1)) := by rw [List.mem_range'_1]; omega
   by_cases h3 : bg (E.getD a []) (E.getD i []) = true
   ·rw [if_pos h3]
    have : (List.range' (a + 1) (E.length - (a + 1))).countP (fun b => decide (b = i) && bg (E.getD a []) (E.getD b [])) = (List.range' (a + 1) (E.length - (a + 1))).count i := by
     unfold List.count
     refine List.countP_congr fun b _ => ?_
     constructor
     ·intro z; simp at z; simp [z.1]
     ·intro z
      have z' : b = i := by simpa using z
      rw [z', h3]; simp
    rw [this, List.Nodup.count (List.nodup_range' (step := 1)), if_pos hm]
   ·rw [if_neg h3, List.countP_eq_zero]
    intro b _ z
    simp at z
    exact h3 (by rw [<- z.1]; exact z.2)
  ·rw [if_neg h2, List.countP_eq_zero]
   intro b hb z
   rw [List.mem_range'_1] at hb
   simp at z
   omega
theorem wA (f : Nat -> Nat) {m i : Nat} (h : i < m) : sm m f = sm m (fun j => if j < i then f j else 0) + f i + sm m (fun j => if i < j then f j else 0) := by
 have e : ∀ j, f j = ((if j < i then f j else 0) + (if j = i then f i else 0)) + (if i < j then f j else 0) := fun j => by
  by_cases h1 : j < i
  ·simp [h1, Nat.ne_of_lt h1, Nat.lt_asymm h1]
  ·by_cases h2 : j = i
   ·subst h2; simp
   ·have h3 : i < j := by omega
    simp [h1, h2, h3]
 have z := cW (m := m) fun j _ => e j
 rw [gd, gd, lJ, if_pos h] at z
 exact z
theorem rP (q : List Int -> Bool) (E : List (List Int)) (k : Nat) : (E.drop k).countP q = sm E.length (fun j => if k <= j then (if q (E.getD j []) then 1 else 0) else 0) := by
 induction E generalizing k with
 | nil => simp [sW]
 | cons x xs ih =>
  rw [List.length_cons, oE]
  cases k with
  | zero =>
   rw [List.drop_zero, List.countP_cons, <- List.drop_zero (l := xs), ih 0]
   simp
   omega
  | succ k =>
   rw [List.drop_succ_cons, ih k]
   simp
theorem qg {n : Nat} {E : List (List Int)} (w : Tied n E) {i : Nat} (hi : i < E.length) {u v : Nat} (he : E.getD i [] = [(u : Int), (v : Int)]) : cX (bi E) i + 2 = cX E u + cX E v := by
 have hel : ∀ j, j < E.length -> ∃ c d : Int, E.getD j [] = [c, d] /\ 0 <= c /\ c < d /\ d < n /\ (j ≠ i -> ¬ (c = u /\ d = v)) := fun j hj => by
  have hm : E.getD j [] ∈ E := by rw [List.getD_eq_getElem?_getD, List.getElem?_eq_getElem hj]; exact List.getElem_mem hj
  obtain ⟨c, d, e, h1, h2, h3⟩ := w.el _ hm
  refine ⟨c, d, e, h1, h2, h3, fun hne z => hne ?_⟩
  have e1 : E[j] = E[i] := by
   have a1 : E.getD j [] = E[j] := by simp [List.getD, hj]
   have a2 : E.getD i [] = E[i] := by simp [List.getD, hi]
   rw [<- a1, <- a2, e, he, z.1, z.2]
  have nd := List.pairwise_iff_getElem.mp w.nd
  rcases Nat.lt_trichotomy j i with q | q | q
  ·exact absurd e1 (nd j i hj hi q)
  ·exact q
  ·exact absurd e1.symm (nd i j hi hj q)
 obtain ⟨c, d, e, _, huv, _, _⟩ := hel i hi
 rw [he] at e
 have euv : (u : Int) < v := by
  have a1 := (List.cons.inj e).1
  have a2 := (List.cons.inj (List.cons.inj e).2).1
  omega
 have key : sm E.length (fun j => if bg (E.getD i []) (E.getD j []) then 1 else 0) + 1 = cX E u + cX E v := by
  unfold cX
  rw [lK (cu (u : Int)) [] E, lK (cu (v : Int)) [] E, <- gd]
  have e2 : ∀ j, j < E.length -> (if cu (u : Int) (E.getD j []) then 1 else 0) + (if cu (v : Int) (E.getD j []) then 1 else 0) = (if bg (E.getD i []) (E.getD j []) then 1 else 0) + (if j = i then 1 else 0) := fun j hj => by
   obtain ⟨c, d, ej, h1, h2, h3, h4⟩ := hel j hj
   by_cases hj2 : j = i
   ·subst hj2
    rw [he, qd, qd, fD euv euv]
    simp
   ·rw [ej, he, qd, qd, fD euv h2, if_neg hj2]
    have := h4 hj2
    by_cases p1 : (u : Int) = c \/ (u : Int) = d
    ·have p2 : ¬ ((v : Int) = c \/ (v : Int) = d) := by omega
     rw [if_pos (by simpa using p1), if_neg (by simpa using p2), if_pos (by simp; omega)]
    ·by_cases p2 : (v : Int) = c \/ (v : Int) = d
     ·rw [if_neg (by simpa using p1), if_pos (by simpa using p2), if_pos (by simp; omega)]
     ·rw [if_neg (by simpa using p1), if_neg (by simpa using p2), if_neg (by simp; omega)]
  rw [cW e2, gd, lJ, if_pos hi]
 have deg : cX (bi E) i = sm E.length (fun a => if a < i then (if bg (E.getD a []) (E.getD i []) then 1 else 0) else 0) + (E.drop (i + 1)).countP (bg (E.getD i [])) := by
  unfold cX bi
  rw [List.countP_flatMap]
  have : ((List.range E.length).map (List.countP (cu (i : Int)) ∘ cJ E)).sum = sm E.length (fun a => (cJ E a).countP (cu i)) := rfl
  rw [this, cW fun a _ => uy hi]
  have e3 : ∀ a, (if a = i then (E.drop (i + 1)).countP (bg (E.getD i [])) else if a < i then (if bg (E.getD a []) (E.getD i []) then 1 else 0) else 0) =
    (if a < i then (if bg (E.getD a []) (E.getD i []) then 1 else 0) else 0) + (if a = i then (E.drop (i + 1)).countP (bg (E.getD i [])) else 0) := fun a => by
   by_cases h : a = i
   ·subst h; simp
   ·simp [h]
  rw [cW fun a _ => e3 a, gd, lJ, if_pos hi]
 have sym : ∀ a, a < E.length -> bg (E.getD a []) (E.getD i []) = bg (E.getD i []) (E.getD a []) := fun a ha => by
  obtain ⟨c, d, ej, h1, h2, h3, h4⟩ := hel a ha
  rw [ej, he, fD h2 euv, fD euv h2]
  refine decide_eq_decide.mpr ?_
  omega
 have self : bg (E.getD i []) (E.getD i []) = true := by rw [he, fD euv euv]; simp
 rw [wA _ hi, self] at key
 rw [deg, rP]
 have e5 : sm E.length (fun a => if a < i then (if bg (E.getD a []) (E.getD i []) then 1 else 0) else 0) = sm E.length (fun j => if j < i then (if bg (E.getD i []) (E.getD j []) then 1 else 0) else 0) := cW fun a ha => by rw [sym a ha]
 rw [e5]
 have e6 : sm E.length (fun j => if i + 1 <= j then (if bg (E.getD i []) (E.getD j []) then 1 else 0) else 0) = sm E.length (fun j => if i < j then (if bg (E.getD i []) (E.getD j []) then 1 else 0) else 0) := rfl
 rw [e6]
 simp only [if_true] at key
 omega
end W
end
section
namespace W
open PySem PySem.Spec PyProof.Rows L2 S3 S4 S7
theorem nP {α β : Type} {c : Prop} [Decidable c] {a b : M α} {f : α -> M β} : ((if c then a else b) >>= f) = if c then a >>= f else b >>= f := by split <;> rfl
noncomputable def gZ : bN := az (bt 3 (bS (ai (dg (mV 1) "NoWeb") (ai (dg (mV 1) "NoPlace") (ai (dg (mV 1) "NoPlaces") (aF)))))) (az (bt 3 (br b9 (mV 3) (bS (ai (dg (mV 1) "NoMap") (ai (dg (mV 1) "NoSharing") (ai (dg (mV 1) "NoRoot") (aF))))))) (az (bt 3 (br b9 (mV 3) (bS (ai (dg (mV 1) "NoNumber") (ai (dg (mV 1) "NotJoined") (ai (dg (mV 1) "NoTie") (aF))))))) (az (bt 3 (br b9 (mV 3) (bS (ai (dg (mV 1) "NoText") (ai (dg (mV 1) "NoLine") (ai (dg (mV 1) "NoDeed") (aF))))))) (az (vZ (vY bC (mV 3) (dg (mV 1) "TooGreat"))) (az (mY (mj (bV (Ag (mV 1)))) (bK (mK .non)) (fj)) (az (bt 4 (cZ (xB (mK (.int 13))) (gN 0) bA bB [none, some 3])) (bK (C5 (md qw (mV 4) (bS (ai (mK (.int 12)) (aF)))) (br b9 (mV 4) (bS (ai (m4) (ai (m4) (aF))))) (mV 4)))))))))
theorem wB (f : D) (c : M D) : cV f c = az (bt 1 (mK .non)) (az (pU 0 2 1 f c) gZ) := rfl
theorem uz (f g x : D) : (gZ [some f, some x, none, none, none] >>= outD) = (gZ [some g, some x, none, none, none] >>= outD) := by
 unfold gZ
 simp only [az, bt, vZ, mY, bK, fj, mV, mK, bS, br, vY, dg, Ag, C5, mj, bV, md, ai, aF, aP, gm, cZ, xB, m4, nO, ff, gF, nP, sP, yz, yA, yB, BC, List.set_cons_succ, List.set_cons_zero, outD, iA, List.map_cons, List.map_nil, Option.bind, List.getElem?_cons_succ, List.getElem?_cons_zero, Option.join]
noncomputable def lL (c : M D) (k : D -> M D) : M D := fun S => match c S with
 | some (.ok _, S') => k .non S'
 | some (.ex (.exc n ds), S') => if n ∈ bu then k (.exc n ds) S' else none
 | _ => none
theorem wC (f : D) (c : M D) : aZ f c [] = lL c (fun x => gZ [some f, some x, none, none, none] >>= outD) := by
 funext S
 unfold aZ nQ
 simp only [List.length_cons, List.length_nil, if_true, Nat.zero_add, Nat.reduceSub]
 show ((cV f c [some f, none, none, none, none]) >>= outD) S = _
 rw [wB]
 simp only [az, bt, mK, nO, ff, gF, List.set_cons_succ, List.set_cons_zero]
 show ((pU 0 2 1 f c [some f, some .non, none, none, none]) >>= fun o => (nO o gZ >>= outD)) S = _
 have ht : pU 0 2 1 f c [some f, some .non, none, none, none] = wk 2 1 c [some f, some .non, none, none, none] := by
  unfold pU
  exact if_pos rfl
 rw [ht]
 show M.bnd (wk 2 1 c [some f, some .non, none, none, none]) _ S = _
 unfold M.bnd wk lL
 cases h : c S with
 | none => rfl
 | some p =>
  obtain ⟨r, S1⟩ := p
  cases r with
  | ok a => rfl
  | ex x =>
   cases x with
   | exc n ds =>
    dsimp only
    by_cases hn : n ∈ bu
    ·rw [if_pos hn, if_pos hn]; rfl
    ·rw [if_neg hn, if_neg hn]
   | _ => rfl
theorem dI : ∀ f c es, aZ f c es = bI c es := by
 intro f c es
 unfold bI
 cases es with
 | nil =>
  rw [wC, wC]
  congr 1
  funext x
  exact uz _ _ x
 | cons e es =>
  unfold aZ nQ
  rw [if_neg (by simp), if_neg (by simp)]
theorem rQ {S : ae} {a b : Nat} {xs ys : List D} {Q : D -> ae -> Prop} (h1 : S[a]? = some xs) (h2 : S[b]? = some ys) : runs (b9 (.lst a) (.lst b)) S Q ↔ (xs ++ ys).length <= lim /\ Q (.lst S.length) (S ++ [xs ++ ys]) := by
 simp only [b9, aG, df, h1, h2, Option.some.injEq, exists_eq_left', uc]
theorem oG (y : Str) : mn (fun n => eG n y) (.exc "NoWeb" []) = pure (.bl (eG "NoWeb" y)) := by
 dsimp only [mn]
 exact if_pos (by decide)
theorem oH : mn (fun _ => true) (.exc "NoWeb" []) = pure (.bl true) := by
 dsimp only [mn]
 exact if_pos (by decide)
theorem cw {items : List D} {chk : Chk} {g : l5} {t : ik} {m : TM} {ρ : aA} {S : ae} {Q : List D -> ae -> Prop} (R : aA -> Prop) (q : D -> Bool) (f : D -> D) (hl : items.length <= lim) (hchk : ∀ G, Iter.okS ⟨items, chk⟩ (S ++ G)) (hR : R ρ)
  (hb : ∀ d ∈ items, ∀ ρ, R ρ -> ∀ G, runs (g d ρ) (S ++ G) (fun ρ1 S1 => S1 = S ++ G /\ R ρ1 /\ runs (t ρ1) (S ++ G) (fun k S2 => k = q d /\ ∃ G2, S2 = S ++ G2 /\ (q d = true -> runs (m ρ1) S2 (fun y S3 => y = f d /\ ∃ G3, S3 = S ++ G3)))))
  (hQ : ∀ G, Q ((items.filter q).map f) (S ++ G)) : runs (cS ⟨items, chk⟩ g t m ρ) S Q := by
 refine dP (it := ⟨items, chk⟩) hl (fun ds ρ ys S' => R ρ /\ (∃ G, S' = S ++ G) /\ ∃ pre, items = pre ++ ds /\ ys = (pre.filter q).map f) (fun ds ρ ys S' ⟨_, ⟨G, e⟩, _⟩ => by rw [e]; exact hchk G) ?_ ⟨hR, ⟨[], by simp⟩, [], rfl, rfl⟩ ?_
 ·rintro d ds ρ ys S' ⟨hR, ⟨G, rfl⟩, pre, e, rfl⟩
  refine a9 (hb d (by rw [e]; simp) ρ hR G) ?_
  rintro ρ1 S1 ⟨rfl, hR1, h1⟩
  refine a9 h1 ?_
  rintro k S2 ⟨rfl, G2, rfl, h2⟩
  by_cases hq : q d = true
  ·rw [if_pos hq]
   refine a9 (h2 hq) ?_
   rintro y S3 ⟨rfl, G3, rfl⟩
   exact ⟨hR1, ⟨G3, rfl⟩, pre ++ [d], by rw [e]; simp, by simp [List.filter_append, hq]⟩
  ·rw [if_neg hq]
   exact ⟨hR1, ⟨G2, rfl⟩, pre ++ [d], by rw [e]; simp, by simp [List.filter_append, hq]⟩
 ·rintro ρ zs S' ⟨_, ⟨G, rfl⟩, pre, e, e2⟩
  rw [List.append_nil] at e
  have : zs = (items.filter q).map f := by rw [e]; simpa using e2
  rw [this]
  exact hQ G
end W
end
section
namespace W
open PySem PySem.Spec PyProof.Rows L2 S3 S4 S7
def markB (bs : List Bool) : D -> Bool
 | .int i => bs.getD i.toNat false
 | _ => false
theorem xZ {bs : List Bool} {i : Nat} (h : i < bs.length) : gh (bs.map D.bl) (i : Int) = some (.bl (bs.getD i false)) := by
 unfold gh qI
 simp [h, List.getD]
theorem x0 {S : ae} {p : Nat} {bs : List Bool} {Q : List D -> ae -> Prop} (hp : S[p]? = some (bs.map D.bl)) (hQ : Q ((aY 0 (13 : Int).toNat).filter (markB bs)) S) (h13 : bs.length = 13 := by rfl) : runs (cS ⟨aY 0 (13 : Int).toNat, .none⟩ (gN 0) bA bB [none, some (.lst p)]) S Q := by
 refine dP (it := ⟨aY 0 (13 : Int).toNat, .none⟩) (lm (by simp [aY])) (fun ds ρ ys S' => S' = S /\ (∃ o, ρ = [o, some (.lst p)]) /\ ∃ pre, aY 0 (13 : Int).toNat = pre ++ ds /\ ys = pre.filter (markB bs)) (fun _ _ _ _ _ => trivial) ?_ ⟨rfl, ⟨none, rfl⟩, [], rfl, rfl⟩ ?_
 ·rintro d ds ρ ys S' ⟨rfl, ⟨o, rfl⟩, pre, e, rfl⟩
  have hd : d ∈ aY 0 (13 : Int).toNat := by rw [e]; simp
  obtain ⟨i, hi, rfl⟩ := List.mem_map.mp hd
  have hi : i < 13 := List.mem_range.mp hi
  unfold bA bB
  have ha := xZ (bs := bs) (i := i) (by omega)
  simp! only [dO, hp, Option.some.injEq, exists_eq_left', Int.zero_add, ha]
  have hm : markB bs (.int (i : Int)) = bs.getD i false := rfl
  simp only [Int.zero_add] at e
  by_cases q : bs.getD i false = true
  ·rw [if_pos q]
   exact ⟨trivial, ⟨_, rfl⟩, pre ++ [.int i], by rw [e]; simp, by rw [List.filter_append, List.filter_cons_of_pos (by rw [hm]; exact q)]; rfl⟩
  ·rw [if_neg q]
   exact ⟨trivial, ⟨_, rfl⟩, pre ++ [.int i], by rw [e]; simp, by rw [List.filter_append, List.filter_cons_of_neg (by rw [hm]; exact q)]; simp⟩
 ·rintro ρ zs S' ⟨rfl, _, pre, e, rfl⟩
  rw [List.append_nil] at e
  rw [<- e]
  exact hQ
def mk0 : List D := [.bl true, .bl false, .bl false]
theorem uA {S : ae} {f : D} {Q : D -> ae -> Prop} (hQ : ∀ G p, (S ++ G)[p]? = some [.int 0] -> S.length <= p -> Q (.lst p) (S ++ G)) : runs (gZ [some f, some (.exc "NoWeb" []), none, none, none] >>= outD) S Q := by
 unfold gZ
 have s1 : eG "NoWeb" "NoWeb" = true := by decide
 have s2 : eG "NoWeb" "NoPlace" = false := by decide
 have s3 : eG "NoWeb" "NoPlaces" = false := by decide
 have s4 : eG "NoWeb" "NoMap" = false := by decide
 have s5 : eG "NoWeb" "NoSharing" = false := by decide
 have s6 : eG "NoWeb" "NoRoot" = false := by decide
 have s7 : eG "NoWeb" "NoNumber" = false := by decide
 have s8 : eG "NoWeb" "NotJoined" = false := by decide
 have s9 : eG "NoWeb" "NoTie" = false := by decide
 have s10 : eG "NoWeb" "NoText" = false := by decide
 have s11 : eG "NoWeb" "NoLine" = false := by decide
 have s12 : eG "NoWeb" "NoDeed" = false := by decide
 have s13 : eG "NoWeb" "TooGreat" = false := by decide
 simp! only [oG, oH, s1, s2, s3, s4, s5, s6, s7, s8, s9, s10, s11, s12, s13, lm (show 3 <= 1000 by decide), lm (show 0 <= 1000 by decide), true_and]
 have g1 : ∀ {x y : List D}, (S ++ [x] ++ [y])[S.length]? = some x := j4
 have e1 : ∀ {x : List D}, (S ++ [x]).length = S.length + 1 := by intro x; simp
 rw [rQ j4 aB]
 refine ⟨lm (by decide), ?_⟩
 simp! only [oG, oH, s1, s2, s3, s4, s5, s6, s7, s8, s9, s10, s11, s12, s13, lm (show 3 <= 1000 by decide), lm (show 0 <= 1000 by decide), true_and]
 rw [rQ j4 aB]
 refine ⟨lm (by decide), ?_⟩
 simp! only [oG, oH, s1, s2, s3, s4, s5, s6, s7, s8, s9, s10, s11, s12, s13, lm (show 3 <= 1000 by decide), lm (show 0 <= 1000 by decide), true_and]
 rw [rQ j4 aB]
 refine ⟨lm (by decide), ?_⟩
 simp! only [oG, oH, s1, s2, s3, s4, s5, s6, s7, s8, s9, s10, s11, s12, s13, lm (show 3 <= 1000 by decide), lm (show 0 <= 1000 by decide), true_and]
 generalize hT : S ++ [[D.bl true, D.bl false, D.bl false]] ++ [[D.bl false, D.bl false, D.bl false]] ++ [[D.bl true, D.bl false, D.bl false, D.bl false, D.bl false, D.bl false]] ++ [[D.bl false, D.bl false, D.bl false]] ++
     [[D.bl true, D.bl false, D.bl false, D.bl false, D.bl false, D.bl false, D.bl false, D.bl false, D.bl false]] ++ [[D.bl false, D.bl false, D.bl false]] = T
 obtain ⟨G0, rfl⟩ : ∃ G0, T = S ++ G0 := by
  refine ⟨[[D.bl true, D.bl false, D.bl false], [D.bl false, D.bl false, D.bl false], [D.bl true, D.bl false, D.bl false, D.bl false, D.bl false, D.bl false], [D.bl false, D.bl false, D.bl false], [D.bl true, D.bl false, D.bl false, D.bl false, D.bl false, D.bl false, D.bl false, D.bl false, D.bl false], [D.bl false, D.bl false, D.bl false]], ?_⟩
  rw [<- hT]
  simp only [List.append_assoc, List.cons_append, List.nil_append]
 clear hT
 have hQ' : ∀ G p, (S ++ G0 ++ G)[p]? = some [.int 0] -> (S ++ G0).length <= p -> Q (.lst p) (S ++ G0 ++ G) := fun G p h1 h2 => by
  rw [List.append_assoc] at h1 ⊢
  exact hQ _ p h1 (by rw [List.length_append] at h2; omega)
 clear hQ
 generalize S ++ G0 = T at hQ' ⊢
 simp only [tS, bC, aG, av, df, mZ, aB, Option.some.injEq, exists_eq_left']
 refine ⟨⟨lm (by decide), by simp⟩, ?_⟩
 have es : ∀ x y : List D, (T ++ [x]).set T.length y = T ++ [y] := fun x y => by
  rw [List.set_append_right _ _ (by simp)]; simp
 rw [es]
 simp only [eS]
 rw [if_pos (by decide), av]
 refine x0 (p := T.length) (bs := [true, false, false, false, false, false, false, false, false, false, false, false, false]) (by simp) ?_ 
 have hf : (((aY 0 (13 : Int).toNat).filter (fun d => markB [true, false, false, false, false, false, false, false, false, false, false, false, false] d))) = [D.int 0] := by rfl
 rw [hf]
 refine ⟨lm (by decide), lm (by decide), ?_⟩
 unfold qw
 refine (eM (fC (n := 59) (ns := [0]) j4) (fC (n := 59) (ns := [12]) aB)).mpr ?_
 rw [ft, if_neg (by decide)]
 rw [List.append_assoc, List.append_assoc]
 exact hQ' _ _ (by simp) (by simp)
end W
end
section
namespace W
open PySem PySem.Spec PyProof.Rows L2 S3 S4 S7
def e7 {α : Type} (c : M α) (S : ae) (Q : D -> ae -> Prop) : Prop := ∃ x S', c S = some (.ex x, S') /\ Q x S'
theorem g0 {α β : Type} {c : M α} {f : α -> M β} {S : ae} {Q : D -> ae -> Prop} (h : e7 c S Q) : e7 (c >>= f) S Q := by
 obtain ⟨x, S', e, q⟩ := h
 exact ⟨x, S', by show M.bnd c f S = _; unfold M.bnd; rw [e], q⟩
theorem jA {α β : Type} {c : M α} {f : α -> M β} {S : ae} {Q : D -> ae -> Prop} (h : runs c S fun a S1 => e7 (f a) S1 Q) : e7 (c >>= f) S Q := by
 obtain ⟨a, S1, e, x, S', e2, q⟩ := h
 exact ⟨x, S', by show M.bnd c f S = _; unfold M.bnd; rw [e]; exact e2, q⟩
theorem j6 {N n : Nat} {m : bN} {ds : List D} {S : ae} {Q : D -> ae -> Prop} (h : ds.length = n) (k : e7 (m (ds.map some ++ List.replicate (N - n) none)) S Q) : e7 (nQ N n m ds) S Q := by
 unfold nQ
 rw [if_pos h]
 exact g0 k
theorem Ap {d : D} {S : ae} {Q : D -> ae -> Prop} (g : Good d) (hb : fB d = false) (hQ : ∀ G, Q (.exc "NoWeb" []) (S ++ G)) : e7 (bZ [d]) S Q := by
 unfold bZ fT
 refine j6 rfl ?_
 refine jA ?_
 simp! only [mV]
 refine yC g.nr (fun m ts e => Nat.le_trans (g.few m ts e) (by decide)) fun G => ?_
 rw [hb]
 simp! only [lm (show 1 <= 1000 by decide)]
 exact ⟨_, _, rfl, hQ G⟩
theorem uB {d : D} {S : ae} {Q : D -> ae -> Prop} (g : Good d) (hb : fB d = false) (hQ : ∀ G, Q (.exc "NoWeb" []) (S ++ G)) : e7 (bP [d]) S Q := by
 unfold bP iq
 refine j6 rfl ?_
 refine g0 (g0 ?_)
 refine jA ?_
 simp! only [mV]
 exact Ap g hb hQ
theorem x9 {d : D} {S : ae} {Q : D -> ae -> Prop} (g : Good d) (hb : fB d = false) (hQ : ∀ G, Q (.exc "NoWeb" []) (S ++ G)) : e7 (bc [d]) S Q := by
 unfold bc dw
 refine j6 rfl ?_
 refine g0 (g0 ?_)
 refine jA ?_
 simp! only [mV]
 exact uB g hb hQ
theorem Aq {d : D} {S : ae} {Q : D -> ae -> Prop} (g : Ce d) (hl : ∀ m ts, d = .tup [m, .tup ts] -> ts.length <= 1000) (hb : fB d = true) (hQ : ∀ G, Q .non (S ++ G)) : runs (bZ [d]) S Q := by
 unfold bZ fT
 refine (lG rfl).mpr ?_
 simp! only [mV]
 refine yC g hl fun G => ?_
 rw [hb]
 simp! only [mV]
 exact hQ G
end W
end
section
namespace W
open PySem PySem.Spec PyProof.Rows L2 S3 S4 S7
abbrev g9 (n : Nat) (E : List (List Int)) : D := .tup [.int n, .tup (E.map tupI)]
theorem Ar {n : Nat} {E : List (List Int)} : Ce (g9 n E) := by
 refine ⟨rfl, ?_⟩
 intro ds e x hx
 cases e
 simp only [List.mem_cons, List.not_mem_nil, or_false] at hx
 rcases hx with rfl | rfl
 ·exact ⟨rfl, fun ts e => by cases e⟩
 ·refine ⟨rfl, fun ts e t ht => ?_⟩
  cases e
  obtain ⟨r, _, rfl⟩ := List.mem_map.mp ht
  refine ⟨rfl, fun ds e x hx => ?_⟩
  cases e
  obtain ⟨i, _, rfl⟩ := List.mem_map.mp hx
  exact rfl
theorem ya {n : Nat} {E : List (List Int)} (w : WebOk n E) : ∀ m ts, g9 n E = .tup [m, .tup ts] -> ts.length <= 1000 := by
 intro m ts e
 cases e
 have := w.few
 rw [List.length_map]; omega
theorem sZ (p : Int) : ∀ t : List Int, ((t.map PyData.int).any fun y => PyData.eqv y (.int p)) = cu p t
 | [] => rfl
 | x :: r => by
  rw [List.map_cons, List.any_cons, sZ p r]
  unfold cu
  rw [List.any_cons]
  congr 1
theorem Dh {S : ae} {p : Int} {t : List Int} {Q : D -> ae -> Prop} : runs (inD (.int p) (tupI t)) S Q ↔ Q (.bl (cu p t)) S := by
 unfold inD
 rw [sG (iu) (oC t) (r := cu p t) (by show some (id ((t.map PyData.int).any fun y => PyData.eqv y (.int p))) = _; rw [sZ]; rfl)]
def As (p : Int) : D -> Bool
 | .tup ds => match intsOf ds with
  | some ns => cu p ns
  | none => false
 | _ => false
theorem nh (p : Int) (t : List Int) : As p (tupI t) = cu p t := by
 show (match intsOf (t.map D.int) with | some ns => cu p ns | none => false) = _
 rw [eE]
theorem qh (p : Int) (E : List (List Int)) : ((E.map tupI).filter (As p)).length = E.countP (cu p) := by
 rw [<- List.countP_eq_length_filter, List.countP_map]
 congr 1
 funext t
 exact nh p t
def Cf (E : List (List Int)) : D -> D
 | .int i => .int (cX E i.toNat)
 | d => d
def Au (n : Nat) (E : List (List Int)) : List D := (List.range n).map fun i => D.int (cX E i)
theorem BP {n p : Nat} {E : List (List Int)} {S : ae} {x : Option D} {Q : D -> ae -> Prop} (hl : E.length <= 1000) (hQ : ∀ G, Q (.int (cX E p)) (S ++ G)) : runs (dW [some (.int p), some (.tup (E.map tupI))]) S Q := by
 unfold dW
 simp! only [l6, iA, Option.bind, List.getElem?_cons_succ, List.getElem?_cons_zero, Option.join]
 refine cw (fun ρ => ∃ o, ρ = [o, some (.int p)]) (As p) id (lm (by rw [List.length_map]; exact hl)) (fun _ => trivial) ⟨none, rfl⟩ ?_ ?_
 ·rintro d hd ρ ⟨o, rfl⟩ G
  obtain ⟨t, ht, rfl⟩ := List.mem_map.mp hd
  unfold fU fV
  simp! only [Dh]
  refine ⟨trivial, ⟨_, rfl⟩, (nh p t).symm, G, rfl, fun _ => ⟨rfl, G, rfl⟩⟩
 ·intro G
  rw [List.map_id]
  refine ⟨lm (by rw [qh]; exact Nat.le_trans List.countP_le_length hl), ?_⟩
  simp only [cO, aG, df, aB, Option.some.injEq, exists_eq_left', av]
  rw [qh, List.append_assoc]
  exact hQ _
theorem BQ (n : Nat) (E : List (List Int)) : ((aY 0 n).filter (fun _ => true)).map (Cf E) = Au n E := by
 rw [List.filter_eq_self.mpr (fun _ _ => rfl)]
 unfold aY Au
 rw [List.map_map]
 refine List.map_congr_left fun i _ => ?_
 simp [Cf]
theorem ni {n : Nat} {E : List (List Int)} {S : ae} {Q : D -> ae -> Prop} (hn : n <= 14) (w : WebOk n E) (hQ : ∀ G p, (S ++ G)[p]? = some (Au n E) -> S.length <= p -> Q (.lst p) (S ++ G)) : runs (bP [g9 n E]) S Q := by
 unfold bP iq
 refine (lG rfl).mpr ?_
 simp! only [mV]
 refine Aq Ar (ya w) (xU (by omega) (by omega) w) fun G => ?_
 have hr : -(2 ^ 62) <= (n : Int) /\ (n : Int) < 2 ^ 62 := ⟨by omega, by omega⟩
 simp! only [jX, eS, hr, and_self, Int.toNat_natCast, iA, Option.bind, List.getElem?_cons_succ, List.getElem?_cons_zero, Option.join]
 have hl := w.few
 refine cw (S := S ++ G) (fun ρ => ∃ o, ρ = [o, some (.tup (E.map tupI))]) (fun _ => true) (Cf E) (lm (by simp [aY]; omega)) (fun _ => trivial) ⟨none, rfl⟩ ?_ ?_
 ·rintro d hd ρ ⟨o, rfl⟩ G2
  obtain ⟨i, hi, rfl⟩ := List.mem_map.mp hd
  unfold fW
  simp! only [Int.zero_add]
  refine ⟨trivial, ⟨_, rfl⟩, trivial, G2, rfl, fun _ => ?_⟩
  refine BP (n := n) (x := o) (by omega) fun G3 => ⟨by simp [Cf], G2 ++ G3, by rw [List.append_assoc]⟩
 ·intro G2
  rw [BQ]
  refine ⟨lm (by unfold Au; simp; omega), ?_⟩
  rw [List.append_assoc, List.append_assoc]
  refine hQ _ _ ?_ (by simp)
  rw [<- List.append_assoc, <- List.append_assoc]; exact aB
end W
end
section
namespace W
open PySem PySem.Spec PyProof.Rows L2 S3 S4 S7
theorem qi : ∀ t : List Int, HT.lexLt t t = false
 | [] => rfl
 | x :: r => by rw [HT.lexLt_cons, if_pos rfl]; exact qi r
theorem j7 (d : Nat) : (d : Int) * ((d : Int) - 1) / 2 = (wz d : Int) := by
 have : (d : Int) * ((d : Int) - 1) = ((d * (d - 1) : Nat) : Int) := by
  cases d with
  | zero => rfl
  | succ e => rw [Int.natCast_mul]; simp
 rw [this]
 unfold wz
 omega
theorem qj (f : Nat -> Nat) : ∀ l : List Nat, (l.map fun i => ((f i : Nat) : Int)).sum = (((l.map f).sum : Nat) : Int)
 | [] => rfl
 | x :: r => by simp only [List.map_cons, List.sum_cons, qj f r, Int.natCast_add]
theorem rR (E : List (List Int)) (p : Nat) : cX E p <= E.length := List.countP_le_length
def DE : D -> D
 | .int i => .int (i * (i - 1) / 2)
 | d => d
theorem Av {x y : Int} (h1 : kh x y) : kj (.int x) (.int y) = pure (.int (x * y)) := if_pos h1
theorem Aw {x y : Int} (h1 : nk x y) : gi (.int x) (.int y) = pure (.int (x / y)) := if_pos h1
theorem Ax {i : Nat} (hi : i <= 1000) {S : ae} {Q : D -> ae -> Prop} : runs (kj (.int i) (.int ((i : Int) - 1))) S (fun a S1 => runs (gi a (.int 2)) S1 Q) ↔ Q (.int (wz i)) S := by
 have h1 : kh (i : Int) ((i : Int) - 1) := .inl ⟨Int.lt_of_lt_of_le (by decide) (Int.natCast_nonneg i), Int.lt_of_le_of_lt (show (i : Int) <= 1000 by omega) (by decide)⟩
 have h2 : nk ((i : Int) * ((i : Int) - 1)) 2 := ⟨by decide, by decide⟩
 rw [Av h1, av, Aw h2, av, j7]
theorem yb (m : Nat) (f : Nat -> Nat) : (((List.range m).map fun i => D.int (f i)).filter (fun _ => true)).map DE = ((List.range m).map fun i => ((wz (f i) : Nat) : Int)).map D.int := by
 rw [List.filter_eq_self.mpr (fun _ _ => rfl), List.map_map, List.map_map]
 refine List.map_congr_left fun i _ => ?_
 show D.int ((f i : Int) * ((f i : Int) - 1) / 2) = _
 rw [j7]; rfl
theorem qk {m p : Nat} {f : Nat -> Nat} {t : ik} {e : TM} {S : ae} {Q : List D -> ae -> Prop} (ht : t = jq) (he : e = br gi (br kj (mV 0) (br fL (mV 0) (mK (.int 1)))) (mK (.int 2))) (hm : m <= 1000) (hf : ∀ i, i < m -> f i <= 1000) (hp : S[p]? = some ((List.range m).map fun i => D.int (f i)))
  (hQ : ∀ G, Q (((List.range m).map fun i => ((wz (f i) : Nat) : Int)).map D.int) (S ++ G)) : runs (cS ⟨(List.range m).map fun i => D.int (f i), .some p⟩ (gN 0) t e [none]) S Q := by
 subst ht he
 have hlt : p < S.length := (List.getElem?_eq_some_iff.mp hp).1
 refine cw (fun ρ => ∃ o, ρ = [o]) (fun _ => true) DE (lm (by simp; omega)) (fun G => ?_) ⟨none, rfl⟩ ?_ ?_
 ·show (S ++ G)[p]? = some _
  rw [List.getElem?_append_left hlt]; exact hp
 ·rintro d hd ρ ⟨o, rfl⟩ G
  obtain ⟨i, hi, rfl⟩ := List.mem_map.mp hd
  simp! only [fL, cF]
  refine ⟨trivial, ⟨_, rfl⟩, trivial, G, rfl, fun _ => ?_⟩
  refine (Ax (hf i (List.mem_range.mp hi))).mpr ⟨?_, G, rfl⟩
  show _ = D.int ((f i : Int) * ((f i : Int) - 1) / 2)
  rw [j7]
 ·intro G
  rw [yb]
  exact hQ G
theorem wD {m : Nat} {f : Nat -> Nat} {S : ae} {Q : D -> ae -> Prop} (hQ : Q (.int (sm m f)) (S ++ [((List.range m).map fun i => ((f i : Nat) : Int)).map D.int])) : runs (rM [.lst S.length]) (S ++ [((List.range m).map fun i => ((f i : Nat) : Int)).map D.int]) Q := by
 simp only [rM, aG, df, aB, Option.some.injEq, exists_eq_left', eE, av]
 rw [qj f]
 exact hQ
theorem Ay {n : Nat} {E : List (List Int)} {S : ae} {Q : D -> ae -> Prop} (hn : n <= 14) (w : WebOk n E) (hQ : ∀ G, Q (.int (sm n fun p => wz (cX E p))) (S ++ G)) : runs (cr [g9 n E]) S Q := by
 unfold cr fX
 refine (bn rfl).mpr ?_
 simp! only [mV]
 refine ni hn w fun G p hp _ => ?_
 have hw := w.few
 simp! only [l6, hp, Option.some.injEq, exists_eq_left', iA, Option.bind]
 refine qk rfl rfl (by omega) (fun i _ => by have := rR E i; omega) hp fun G2 => ?_
 refine ⟨lm (by simp; omega), ?_⟩
 refine wD (f := fun i => wz (cX E i)) ?_
 rw [List.append_assoc, List.append_assoc]
 exact hQ _
theorem WebOk.tied {n : Nat} {E : List (List Int)} (w : WebOk n E) : Tied n E := ⟨w.el, w.ris.imp fun {a b} h e => by subst e; rw [qi] at h; cases h⟩
def BR (E : List (List Int)) : D -> D
 | .tup [.int a, .int b] => .int ((cX E a.toNat : Int) + (cX E b.toNat : Int) - 2)
 | d => d
theorem yc {n : Nat} {E : List (List Int)} (w : Tied n E) : ((E.map tupI).filter (fun _ => true)).map (BR E) = (List.range E.length).map fun i => D.int (cX (bi E) i) := by
 rw [List.filter_eq_self.mpr (fun _ _ => rfl), List.map_map]
 have e0 : E.map (BR E ∘ tupI) = ((List.range' 0 (E.length - 0)).map fun b => E.getD b []).map (BR E ∘ tupI) := by
  rw [<- drop_eq E 0]; rfl
 rw [e0, List.map_map, Nat.sub_zero, <- List.range_eq_range']
 refine List.map_congr_left fun i hi => ?_
 have hi : i < E.length := List.mem_range.mp hi
 have hm : E.getD i [] ∈ E := by rw [List.getD_eq_getElem?_getD, List.getElem?_eq_getElem hi]; exact List.getElem_mem hi
 obtain ⟨a, b, e, h1, h2, h3⟩ := w.el _ hm
 obtain ⟨u, rfl⟩ : ∃ u : Nat, a = u := ⟨a.toNat, by omega⟩
 obtain ⟨v, rfl⟩ : ∃ v : Nat, b = v := ⟨b.toNat, by omega⟩
 have := qg w hi e
 show BR E (tupI (E.getD i [])) = _
 rw [e]
 show D.int ((cX E (u : Int).toNat : Int) + (cX E (v : Int).toNat : Int) - 2) = _
 rw [Int.toNat_natCast, Int.toNat_natCast]
 congr 1
 omega
theorem yE {n : Nat} {E : List (List Int)} {a : Int} (h0 : 0 <= a) (h1 : a < n) : gh (Au n E) a = some (.int (cX E a.toNat)) := by
 unfold gh qI Au
 have : a.toNat < n := by omega
 simp [h0, h1, this]
def uC (n : Nat) (E : List (List Int)) : List Int := [(n : Int), (E.length : Int), ((bi E).length : Int), ((bi (bi E)).length : Int)]
theorem yd {n : Nat} {E : List (List Int)} {S : ae} {Q : D -> ae -> Prop} (hn : n <= 14) (w : WebOk n E) (hQ : ∀ G p, (S ++ G)[p]? = some ((uC n E).map D.int) -> S.length <= p -> Q (.lst p) (S ++ G)) : runs (bc [g9 n E]) S Q := by
 unfold bc dw
 refine (lG rfl).mpr ?_
 simp! only [mV]
 refine ni hn w fun G p hp hpl => ?_
 have hw := w.few
 have hlt : p < (S ++ G).length := (List.getElem?_eq_some_iff.mp hp).1
 have a0 : gh [D.int (n : Int), D.tup (E.map tupI)] 0 = some (.int n) := rfl
 have a1 : gh [D.int (n : Int), D.tup (E.map tupI)] 1 = some (.tup (E.map tupI)) := rfl
 simp! only [jX, dO, a0, a1, l6, iA, Option.bind, List.getElem?_cons_succ, List.getElem?_cons_zero, Option.join]
 refine cw (S := S ++ G) (fun ρ => ∃ o1 o2, ρ = [o1, o2, some (.lst p)]) (fun _ => true) (BR E) (lm (by simp; omega)) (fun _ => trivial) ⟨none, none, rfl⟩ ?_ ?_
 ·rintro d hd ρ ⟨o1, o2, rfl⟩ G2
  obtain ⟨t, ht, rfl⟩ := List.mem_map.mp hd
  obtain ⟨a, b, rfl, h1, h2, h3⟩ := w.el t ht
  have hp2 : (S ++ G ++ G2)[p]? = some (Au n E) := by rw [List.getElem?_append_left hlt]; exact hp
  unfold dk dl
  simp! only [tupI, dO, hp2, Option.some.injEq, exists_eq_left', yE (E := E) h1 (show a < n by omega), yE (E := E) (show 0 <= b by omega) h3, b9, fL, cF]
  exact ⟨trivial, ⟨_, _, rfl⟩, trivial, G2, rfl, fun _ => ⟨rfl, G2, rfl⟩⟩
 ·intro G2
  rw [yc w.tied]
  have hl2 : ((List.range E.length).map fun i => D.int (cX (bi E) i)).length <= lim := lm (by simp; omega)
  simp only [hl2, true_and, cO, av]
  refine Ay hn w fun G3 => ?_
  have g1 : (S ++ G ++ G2 ++ [(List.range E.length).map fun i => D.int (cX (bi E) i)] ++ G3)[(S ++ G ++ G2).length]? = some ((List.range E.length).map fun i => D.int (cX (bi E) i)) := by
   rw [List.getElem?_append_left (by simp)]; exact aB
  simp only [g1, Option.some.injEq, exists_eq_left']
  have hdeg : ∀ i, i < E.length -> cX (bi E) i <= 1000 := fun i hi => by
   have hm : E.getD i [] ∈ E := by rw [List.getD_eq_getElem?_getD, List.getElem?_eq_getElem hi]; exact List.getElem_mem hi
   obtain ⟨a, b, e, h1, h2, h3⟩ := w.el _ hm
   have := qg w.tied hi (u := a.toNat) (v := b.toNat) (by rw [e, Int.toNat_of_nonneg h1, Int.toNat_of_nonneg (by omega)])
   have := rR E a.toNat
   have := rR E b.toNat
   omega
  refine qk rfl rfl (by omega) hdeg g1 fun G4 => ?_
  refine ⟨lm (by simp; omega), ?_⟩
  refine wD (f := fun i => wz (cX (bi E) i)) ?_
  have e1 : sm n (fun p => wz (cX E p)) = (bi E).length := by rw [qf, kg w.tied]
  have e2 : sm E.length (fun p => wz (cX (bi E) p)) = (bi (bi E)).length := by rw [qf (bi E), kg (ng E)]
  rw [e1, e2]
  refine ⟨lm (by decide), ?_⟩
  rw [List.length_map]
  simp only [List.append_assoc]
  refine hQ _ _ ?_ (by simp)
  simp only [<- List.append_assoc]
  exact aB
end W
end
section
namespace W
open PySem PySem.Spec PyProof.Rows L2 S3 S4 S7
theorem oI (E : List (List Int)) (a : Nat) : (cJ E a).length <= E.length := by
 unfold cJ
 rw [List.length_map]
 refine Nat.le_trans (List.length_filter_le _ _) ?_
 rw [List.length_range']; omega
theorem oJ {α : Type} (E : List (List Int)) (f : α -> List (List Int)) (m : Nat) (h : ∀ a, (f a).length <= m) : ∀ l : List α, (l.flatMap f).length <= l.length * m
 | [] => by simp
 | x :: r => by
  have := h x
  have := oJ E f m h r
  rw [List.flatMap_cons, List.length_append, List.length_cons, Nat.add_mul]
  omega
theorem qm {E : List (List Int)} (hE : E.length <= 1000) (l : List Nat) (hl : l.length <= E.length) : (l.flatMap (cJ E)).length <= 1000000 := by
 have h1 := oJ E (cJ E) E.length (oI E) l
 have h2 : l.length * E.length <= 1000 * 1000 := Nat.mul_le_mul (by omega) hE
 omega
theorem ye {E : List (List Int)} (hE : E.length <= 21) : (bi E).length <= 441 := by
 have h1 := oJ E (cJ E) E.length (oI E) (List.range E.length)
 have h2 : (List.range E.length).length * E.length <= 21 * 21 := Nat.mul_le_mul (by rw [List.length_range]; omega) hE
 unfold bi
 omega
theorem wE {E : List (List Int)} {a : Nat} (h : a < E.length) : gh (E.map tupI) (a : Int) = some (tupI (E.getD a [])) := by
 unfold gh qI
 simp [h, List.getD_eq_getElem?_getD]
theorem Az {s t : List Int} (hs : s.length = 2) (ht : t.length = 2) {S : ae} {Q : D -> ae -> Prop} : runs (b9 (tupI s) (tupI t)) S (fun a S1 => runs (io [a]) S1 (fun a S1 => runs (oR a (.int 4)) S1 Q)) ↔ Q (.bl (bg s t)) S := by
 have e : s.map D.int ++ t.map D.int = (s ++ t).map D.int := (List.map_append).symm
 have l1 : ((s ++ t).map D.int).length <= lim := lm (by simp; omega)
 have l2 : (s ++ t).length <= 18 := by simp; omega
 simp only [tupI, b9, e, rE, l1, true_and, io, eE, gK, l2, if_true, av, oR]
 have : decide (((distinct (s ++ t)).length : Int) < 4) = bg s t := by
  unfold bg
  rw [Bool.eq_iff_iff]
  simp only [decide_eq_true_eq]
  omega
 rw [this]
def Cg (E : List (List Int)) (a : Nat) : D -> Bool
 | .int b => bg (E.getD a []) (E.getD b.toNat [])
 | _ => false
theorem AA (E : List (List Int)) (a : Nat) : ((aY ((a : Int) + 1) ((E.length : Int) - ((a : Int) + 1)).toNat).filter (Cg E a)).map (fun d => D.tup [.int a, d]) = (cJ E a).map tupI := by
 unfold aY cJ
 have : ((E.length : Int) - ((a : Int) + 1)).toNat = E.length - (a + 1) := by omega
 rw [this, List.range'_eq_map_range, List.filter_map, List.filter_map, List.map_map, List.map_map, List.map_map]
 have hf : (Cg E a ∘ fun i : Nat => D.int ((a : Int) + 1 + (i : Nat))) = ((fun b => bg (E.getD a []) (E.getD b [])) ∘ fun x => a + 1 + x) := by
  funext i
  simp only [Function.comp, Cg]
  congr 2
 rw [hf]
 refine List.map_congr_left fun i hi => ?_
 simp only [Function.comp, tupI, List.map_cons, List.map_nil]
 congr 3
theorem wF {n : Int} {E : List (List Int)} {S : ae} {Q : D -> ae -> Prop} (hE : E.length <= 1000) (h2 : ∀ t ∈ E, t.length = 2) (hQ : ∀ G, Q (g9 E.length (bi E)) (S ++ G)) : runs (bY [.tup [.int n, .tup (E.map tupI)]]) S Q := by
 unfold bY gU
 refine (bn rfl).mpr ?_
 have l0 : 0 <= lim := Nat.zero_le _
 have hr : -(2 ^ 62) <= (E.length : Int) /\ (E.length : Int) < 2 ^ 62 := ⟨by omega, by omega⟩
 have a1 : gh [D.int n, D.tup (E.map tupI)] 1 = some (.tup (E.map tupI)) := rfl
 simp! only [dO, a1, l0, true_and, cO, List.length_map, eS, hr, and_self, Int.toNat_natCast]
 refine dZ (fun ds ρ S' => ∃ pre post x G, List.range E.length = pre ++ post /\ ds = post.map (fun i : Nat => D.int (0 + (i : Nat))) /\ ρ = [some (.tup [.int n, .tup (E.map tupI)]), some (.tup (E.map tupI)), some (.lst S.length), x] /\ S' = S ++ ((pre.flatMap (cJ E)).map tupI) :: G)
  ⟨[], List.range E.length, none, [], rfl, rfl, rfl, rfl⟩ ?_ ?_
 ·rintro ρ S' ⟨pre, post, x, G, e, e2, rfl, rfl⟩
  have : post = [] := by simpa using e2.symm
  subst this
  rw [List.append_nil] at e
  have g1 : (S ++ ((pre.flatMap (cJ E)).map tupI) :: G)[S.length]? = some ((pre.flatMap (cJ E)).map tupI) := by simp
  have l1 : ((pre.flatMap (cJ E)).map tupI).length <= lim := by
   have := qm hE pre (by have := congrArg List.length e; simp at this; omega)
   rw [List.length_map]; unfold lim; omega
  simp! only [cO, bU, g1, Option.some.injEq, exists_eq_left', l1, true_and, List.length_map]
  refine ⟨by rw [List.length_map] at l1; exact l1, f9, ?_⟩
  have := hQ (((pre.flatMap (cJ E)).map tupI) :: G)
  unfold g9 bi at this
  rw [e] at this
  exact this
 ·rintro d ds ρ S' ⟨pre, post, x, G, e, e2, rfl, rfl⟩
  match post, e2 with
  | [], e2 => cases e2
  | a :: post, e2 =>
   simp only [List.map_cons, List.cons.injEq] at e2
   obtain ⟨rfl, rfl⟩ := e2
   have hal : a < E.length := List.mem_range.mp (by rw [e]; simp)
   have hpl : pre.length + 1 <= E.length := by have := congrArg List.length e; simp at this; omega
   have hr2 : -(2 ^ 62) <= ((a : Int) + 1) /\ ((a : Int) + 1) < 2 ^ 62 /\ -(2 ^ 62) <= (E.length : Int) /\ (E.length : Int) < 2 ^ 62 := ⟨by omega, by omega, by omega, by omega⟩
   unfold ef
   simp! only [Int.zero_add, tS, b9, cO, List.length_map, ii, hr2, and_self, iA, Option.bind, List.getElem?_cons_succ, List.getElem?_cons_zero, Option.join]
   refine cw (fun ρ => ∃ y, ρ = [y, some (.tup (E.map tupI)), some (.int (a : Int))]) (Cg E a) (fun d => .tup [.int (a : Int), d]) (lm (by simp only [aY, List.length_map, List.length_range]; omega)) (fun _ => trivial) ⟨none, rfl⟩ ?_ ?_
   ·rintro d hd ρ ⟨y, rfl⟩ G2
    obtain ⟨i, hi, rfl⟩ := List.mem_map.mp hd
    have hi : i < ((E.length : Int) - ((a : Int) + 1)).toNat := List.mem_range.mp hi
    have hb : a + 1 + i < E.length := by omega
    have ec : (a : Int) + 1 + (i : Int) = ((a + 1 + i : Nat) : Int) := by omega
    unfold d9 ee
    simp! only [dO, ec, wE hal, wE hb]
    refine ⟨trivial, ⟨_, rfl⟩, ?_⟩
    have hel : ∀ j, j < E.length -> (E.getD j []).length = 2 := fun j hj => h2 _ (by rw [List.getD_eq_getElem?_getD, List.getElem?_eq_getElem hj]; exact List.getElem_mem hj)
    refine (Az (hel a hal) (hel _ hb)).mpr ?_
    simp! only [f9, true_and]
    exact ⟨rfl, G2, rfl, fun _ => ⟨G2, rfl⟩⟩
   ·intro G2
    rw [AA]
    have := oI E a
    refine ⟨lm (by rw [List.length_map]; omega), ?_⟩
    have g1 : (S ++ ((pre.flatMap (cJ E)).map tupI) :: G ++ G2 ++ [(cJ E a).map tupI])[S.length]? = some ((pre.flatMap (cJ E)).map tupI) := by simp
    have l3 : S.length < (S ++ ((pre.flatMap (cJ E)).map tupI) :: G ++ G2 ++ [(cJ E a).map tupI]).length := by simp
    have l2 : ((pre.flatMap (cJ E)).map tupI ++ (cJ E a).map tupI).length <= lim := by
     have := qm hE pre (by omega)
     simp only [List.length_append, List.length_map]; unfold lim; omega
    simp only [fM, aG, df, mZ, g1, aB, Option.some.injEq, exists_eq_left', l2, l3, true_and, and_self, av]
    refine ⟨pre ++ [a], post, some (.int (a : Int)), G ++ G2 ++ [(cJ E a).map tupI], by rw [e]; simp, rfl, rfl, ?_⟩
    rw [List.append_assoc, List.append_assoc, List.set_append_right _ _ (Nat.le_refl _), Nat.sub_self]
    simp [List.flatMap_append]
end W
end
section
namespace W
open PySem PySem.Spec PyProof.Rows L2 S3 S4 S7
theorem AB {S : ae} {a b : Bool} {Q : D -> ae -> Prop} : runs (nS (.bl a) (.bl b)) S Q ↔ Q (.bl (!(a == b))) S := by
 unfold nS
 rw [eM jY jY]
 have : PyData.eqv (.bool a) (.bool b) = (a == b) := by cases a <;> cases b <;> rfl
 rw [this]
theorem ne_int {S : ae} {a b : Int} {Q : D -> ae -> Prop} : runs (nS (.int a) (.int b)) S Q ↔ Q (.bl (!decide (a = b))) S := by
 unfold nS
 rw [eM iu iu]
 have : PyData.eqv (.int a) (.int b) = decide (a = b) := by
  simp only [PyData.eqv]
  rw [Bool.eq_iff_iff]; simp
 rw [this]
theorem yf {a b : Int} {S : ae} {Q : D -> ae -> Prop} : runs (cn [.int a, .int b]) S Q ↔ Q (.bl (decide (a = b))) S := by
 unfold cn fR
 refine (bn rfl).trans ?_
 have i1 : ∀ {x : Int} {f : String -> Bool} {S : ae} {Q : D -> ae -> Prop}, runs (pB f (.int x)) S Q ↔ Q (.bl (f "int")) S := fun {x f S Q} => fu rfl
 have u1 : dC "int" "tuple" = false := by decide
 have u2 : dC "int" "list" = false := by decide
 have u3 : dC "int" "bool" = false := by decide
 simp! only [i1, u1, u2, u3, Bool.or_self, eq_int, BI, beq_self_eq_true]
 by_cases h : a = b
 ·simp only [h, decide_true, if_true]
 ·simp only [h, decide_false, Bool.false_eq_true, if_false]
theorem all_true : ∀ l : List Bool, (∀ b ∈ l, b = true) -> l.all id = true := fun l h => List.all_eq_true.mpr fun b hb => h b hb
def Ch : D -> D
 | .tup [.int a, .int b] => .bl (decide (a = b))
 | _ => .non
theorem qo : ∀ xs : List Int, ((((xs.map D.int).zip (xs.map D.int)).map fun p : D × D => D.tup [p.1, p.2]).filter (fun _ => true)).map Ch = (xs.map fun _ => true).map D.bl
 | [] => rfl
 | x :: r => by
  have := qo r
  simp only [List.map_cons, List.zip_cons_cons, List.filter_cons, if_true] at this ⊢
  rw [this]
  simp [Ch]
theorem s0 {d : D} : ∀ {xs : List Int}, d ∈ ((xs.map D.int).zip (xs.map D.int)).map (fun p : D × D => D.tup [p.1, p.2]) -> ∃ x : Int, d = .tup [.int x, .int x]
 | [], h => by simp at h
 | x :: r, h => by
  simp only [List.map_cons, List.zip_cons_cons, List.mem_cons] at h
  rcases h with rfl | h
  ·exact ⟨x, rfl⟩
  ·exact s0 h
theorem AC {xs ys : List Int} {p q : Nat} {S : ae} {Q : D -> ae -> Prop} (hl : xs.length <= 1000) (he : xs = ys) (hp : S[p]? = some (xs.map D.int)) (hq : S[q]? = some (ys.map D.int)) (hQ : ∀ G, Q (.bl true) (S ++ G)) : runs (cN [.lst p, .lst q]) S Q := by
 subst he
 unfold cN gW
 refine (bn rfl).mpr ?_
 have i1 : ∀ {x : Nat} {f : String -> Bool} {S : ae} {Q : D -> ae -> Prop}, runs (pB f (.lst x)) S Q ↔ Q (.bl (f "list")) S := fun {x f S Q} => fu rfl
 have u1 : dC "list" "tuple" = false := by decide
 have u2 : dC "list" "list" = true := by decide
 simp! only [i1, u1, u2, Bool.or_true, Bool.or_false, beq_self_eq_true, AB, cO, hp, hq, Option.some.injEq, exists_eq_left', ne_int, decide_true, pW, iA, Option.bind]
 have p1 : p < S.length := (List.getElem?_eq_some_iff.mp hp).1
 have q1 : q < S.length := (List.getElem?_eq_some_iff.mp hq).1
 refine cw (fun ρ => ∃ x y, ρ = [x, y]) (fun _ => true) Ch (lm (by simp; omega)) (fun G => ?_) ⟨none, none, rfl⟩ ?_ ?_
 ·exact ⟨by rw [List.getElem?_append_left p1]; exact hp, by rw [List.getElem?_append_left q1]; exact hq⟩
 ·rintro d hd ρ ⟨x, y, rfl⟩ G
  obtain ⟨i, rfl⟩ := s0 hd
  unfold ez eA
  simp! only [yf]
  exact ⟨trivial, ⟨_, _, rfl⟩, trivial, G, rfl, fun _ => ⟨by simp [Ch], G, rfl⟩⟩
 ·intro G
  rw [qo]
  refine ⟨lm (by simp; omega), ?_⟩
  rw [jZ, List.append_assoc]
  have : (xs.map fun _ => true).all id = true := all_true _ fun b hb => by
   obtain ⟨_, _, rfl⟩ := List.mem_map.mp hb
   rfl
  rw [this]
  exact hQ _
end W
end
section
namespace W
open PySem PySem.Spec PyProof.Rows L2 S3 S4 S7
theorem lM {m n : bN} {ρ : aA} {S : ae} {Q : Out -> ae -> Prop} (h : ∀ n', n' = n -> runs (m ρ) S (fun o S1 => runs (nO o n') S1 Q)) : runs (az m n ρ) S Q := by
 rw [show az m n ρ = (m ρ >>= fun o => nO o n) from rfl, aG]
 exact h n rfl
theorem gI {K : PySem.W.Frag} {ι : List Addr} {H : Hp} : ∀ ns : List Int, RelDs K ι H (ns.map D.int) (ns.map V.int)
 | [] => .nil
 | n :: r => .cons (.int n) (gI r)
theorem uD {c : M D} {S : ae} {Q : D -> ae -> Prop} (h : e7 c S fun x S' => x = .exc "NoWeb" [] /\ ∃ G, S' = S ++ G) (hQ : ∀ G p, (S ++ G)[p]? = some [.int 0] -> S.length <= p -> Q (.lst p) (S ++ G)) : runs (bI c []) S Q := by
 unfold bI
 rw [wC]
 obtain ⟨x, S', e, rfl, G, rfl⟩ := h
 have := uA (S := S ++ G) (f := .fn 0 0 "" [] []) (Q := Q) fun G2 p h1 h2 => by
  rw [List.append_assoc] at h1 ⊢
  exact hQ _ p h1 (by rw [List.length_append] at h2; omega)
 obtain ⟨d, S2, e2, q⟩ := this
 refine ⟨d, S2, ?_, q⟩
 unfold lL
 rw [e]
 simp only
 rw [if_pos (by decide)]
 exact e2
theorem AD {n : Nat} {E : List (List Int)} {S : ae} {q : Nat} {o0 o1 o2 o4 o6 o7 o8 : Option D} {Q : Out -> ae -> Prop} (hn : n <= 14) (w : WebOk n E) (hq : S[q]? = some ((uC n E).map D.int))
  (hQ : ∀ (x : Option D) G, Q (.nx [o0, o1, o2, some (g9 n E), o4, some (.lst q), o6, x, o8]) (S ++ G)) :
  runs (jw [o0, o1, o2, some (g9 n E), o4, some (.lst q), o6, o7, o8]) S Q := by
 unfold jw
 have ql : q < S.length := (List.getElem?_eq_some_iff.mp hq).1
 simp! only [mV]
 refine yd hn w fun G p hp hpl => ?_
 try simp! only [mV]
 refine AC (xs := uC n E) (by simp [uC]) rfl hp (by rw [List.getElem?_append_left ql]; exact hq) fun G2 => ?_
 have pl : p < (S ++ G).length := (List.getElem?_eq_some_iff.mp hp).1
 have hp2 : (S ++ G ++ G2)[p]? = some ((uC n E).map D.int) := by rw [List.getElem?_append_left pl]; exact hp
 have l1 : ((uC n E).map D.int ++ [D.int 0]).length <= lim := lm (by simp [uC])
 have l2 : p < (S ++ G ++ G2).length := (List.getElem?_eq_some_iff.mp hp2).1
 simp! only [tS, bC, hp2, Option.some.injEq, exists_eq_left', l1, l2, true_and, and_self]
 rw [List.append_assoc, List.set_append_right _ _ hpl]
 exact hQ _ _
theorem wG {n : Nat} {E : List (List Int)} (w : Tied n E) : ∀ t ∈ E, t.length = 2 := fun t ht => by
 obtain ⟨a, b, rfl, _⟩ := w.el t ht
 rfl
theorem wH {n : Nat} {E : List (List Int)} {S : ae} {o0 o1 o2 o4 o5 o6 o7 o8 : Option D} {Q : Out -> ae -> Prop} (hn : n <= 14) (w : WebOk n E)
  (hQ : ∀ (x4 x5 x6 x7 : Option D) G, Q (.nx [o0, o1, o2, some (g9 n E), x4, x5, x6, x7, o8]) (S ++ G)) :
  runs (jx [o0, o1, o2, some (g9 n E), o4, o5, o6, o7, o8]) S Q := by
 unfold jx
 have hw := w.few
 have hm := ye hw
 simp! only [mV]
 refine wF (by omega) (wG w.tied) fun G => ?_
 have a0 : gh [D.int (n : Int), D.tup (E.map tupI)] 0 = some (.int n) := rfl
 have a1 : gh [D.int (n : Int), D.tup (E.map tupI)] 1 = some (.tup (E.map tupI)) := rfl
 have b1 : gh [D.int (E.length : Int), D.tup ((bi E).map tupI)] 1 = some (.tup ((bi E).map tupI)) := rfl
 simp! only [dO, a0, a1, b1, cO, List.length_map]
 refine wF (by omega) (wG (ng E)) fun G2 => ?_
 have c1 : gh [D.int ((bi E).length : Int), D.tup ((bi (bi E)).map tupI)] 1 = some (.tup ((bi (bi E)).map tupI)) := rfl
 have hr : -(2 ^ 62) <= (2 : Int) /\ (2 : Int) < 2 ^ 62 := ⟨by decide, by decide⟩
 simp! only [dO, c1, cO, List.length_map, BG, true_and, eS, hr, and_self]
 have hq : (S ++ G ++ G2 ++ [(uC n E).map D.int])[(S ++ G ++ G2).length]? = some ((uC n E).map D.int) := aB
 have ql : (S ++ G ++ G2).length < (S ++ G ++ G2 ++ [(uC n E).map D.int]).length := by simp
 have hQ' : ∀ (x4 x5 x6 x7 : Option D) G3, Q (.nx [o0, o1, o2, some (g9 n E), x4, x5, x6, x7, o8]) (S ++ G ++ G2 ++ [(uC n E).map D.int] ++ G3) := fun x4 x5 x6 x7 G3 => by
  simp only [List.append_assoc]
  exact hQ _ _ _ _ _
 show runs (jK _ _ _ _ [o0, o1, o2, some (g9 n E), some (g9 E.length (bi E)), some (.lst (S ++ G ++ G2).length), o6, o7, o8]) (S ++ G ++ G2 ++ [(uC n E).map D.int]) _
 generalize (S ++ G ++ G2).length = q at hq ql ⊢
 generalize S ++ G ++ G2 ++ [(uC n E).map D.int] = T at hq ql hQ' ⊢
 refine dZ (fun ds ρ S' => (∃ x y, ρ = [o0, o1, o2, some (g9 n E), some (g9 E.length (bi E)), some (.lst q), x, y, o8]) /\ ∃ G, S' = T ++ G) ⟨⟨_, _, rfl⟩, [], by simp⟩ ?_ ?_
 ·rintro ρ S' ⟨⟨x, y, rfl⟩, G3, rfl⟩
  exact hQ' _ _ _ _ _
 ·rintro d ds ρ S' ⟨⟨x, y, rfl⟩, G3, rfl⟩
  simp! only [mV]
  refine AD hn w (by rw [List.getElem?_append_left ql]; exact hq) fun z G4 => ?_
  exact ⟨⟨_, _, rfl⟩, G3 ++ G4, by rw [List.append_assoc]⟩
theorem BS {S : ae} {ns : List Int} {i : Nat} {o2 o3 o4 o5 o6 o7 o8 : Option D} {Q : Out -> ae -> Prop}
  (hQ : ∀ (x2 x3 x4 x5 x6 x7 x8 : Option D) S', Q (.nx [some (.ro (ns.map D.int)), some (.int i), x2, x3, x4, x5, x6, x7, x8]) S') :
  runs (jz [some (.ro (ns.map D.int)), some (.int i), o2, o3, o4, o5, o6, o7, o8]) S Q := by
 unfold jz
 refine lM fun R1 hR1 => ?_
 simp! only [mV]
 refine xR fun xs hs => ?_
 try simp! only [mV]
 subst hR1
 generalize S ++ [xs] = S1 at hs
 generalize S.length = k at hs
 refine lM fun R1 hR1 => ?_
 simp! only [mV]
 refine Am hs fun m1 t1 S2 a0 a1 w1 k2 => ?_
 refine xW k2.st fun m2 t2 S3' b0 b1 w2 k3 => ?_
 simp! only [f9, true_and, l6, aB, Option.some.injEq, exists_eq_left']
 have kp3 := k2.trans k3
 have e6 : (S3' ++ [[D.tup [.int m1, .tup (t1.map tupI)], D.tup [.int m2, .tup (t2.map tupI)]]])[S3'.length]? = some [D.tup [.int m1, .tup (t1.map tupI)], D.tup [.int m2, .tup (t2.map tupI)]] := aB
 have kp5 : f8 (S3' ++ [[D.tup [.int m1, .tup (t1.map tupI)], D.tup [.int m2, .tup (t2.map tupI)]]]) k := kp3.st.grow
 generalize S3'.length = q at e6
 generalize S3' ++ [[D.tup [.int m1, .tup (t1.map tupI)], D.tup [.int m2, .tup (t2.map tupI)]]] = S5 at kp5 e6
 have ql : q < S5.length := (List.getElem?_eq_some_iff.mp e6).1
 refine jt (it := ⟨[D.tup [.int m1, .tup (t1.map tupI)], D.tup [.int m2, .tup (t2.map tupI)]], .some q⟩)
  (fun ds ρ S' => (∃ x3 x4 x5 x6 x7, ρ = [some (.ro (ns.map D.int)), some (.int i), some (.lst k), x3, x4, x5, x6, x7, o8]) /\ (∃ G, S' = S5 ++ G) /\ ∀ d ∈ ds, ∃ (m : Nat) (t : List (List Int)), d = g9 m t /\ m <= 14 /\ WebOk m t) (fun ds ρ S' h => ?_) ?_ ?_ _ _ S5 ⟨⟨_, _, _, _, _, rfl⟩, ⟨[], by simp⟩, fun d hd => ?_⟩
 ·obtain ⟨_, ⟨G, rfl⟩, _⟩ := h
  show (S5 ++ G)[q]? = some _
  rw [List.getElem?_append_left ql]; exact e6
 ·rintro ρ S6 ⟨⟨x3, x4, x5, x6, x7, rfl⟩, ⟨G, rfl⟩, _⟩
  subst hR1
  try simp! only [mV]
  refine BO (kp5.grow (G := G)) fun d S7 g hb k7 => ?_
  refine uD ?_ fun G2 p hp hpl => ?_
  ·unfold lE
   refine jA ?_
   simp! only [mV]
   exact x9 g hb fun G => ⟨rfl, G, rfl⟩
  ·have pl := (List.getElem?_eq_some_iff.mp hp).1
   simp! only [lm (show 1 <= 1000 by decide), true_and]
   unfold nS
   refine (eM (fC (n := 59) (ns := [0]) (by rw [List.getElem?_append_left pl]; exact hp)) (fC (n := 59) (ns := [0]) aB)).mpr ?_
   simp only [ft]
   rw [if_neg (by decide)]
   exact hQ _ _ _ _ _ _ _ _
 ·rintro d ds ρ S6 ⟨⟨x3, x4, x5, x6, x7, rfl⟩, ⟨G, rfl⟩, hg6⟩
  obtain ⟨m, t, rfl, c1, wt⟩ := hg6 d (by simp)
  simp! only [mV]
  refine wH c1 wt fun y4 y5 y6 y7 G2 => ?_
  exact ⟨⟨_, _, _, _, _, rfl⟩, ⟨G ++ G2, by rw [List.append_assoc]⟩, fun y hy => hg6 y (List.mem_cons_of_mem _ hy)⟩
 ·simp only [List.mem_cons, List.not_mem_nil, or_false] at hd
  rcases hd with rfl | rfl
  ·obtain ⟨u, rfl⟩ : ∃ u : Nat, m1 = u := ⟨m1.toNat, by omega⟩
   exact ⟨u, t1, rfl, by omega, w1⟩
  ·obtain ⟨u, rfl⟩ : ∃ u : Nat, m2 = u := ⟨m2.toNat, by omega⟩
   exact ⟨u, t2, rfl, by omega, w2⟩
theorem BT {S : ae} {ns : List Int} : runs (lF [.ro (ns.map D.int)]) S (fun d _ => d = .bl true) := by
 unfold lF wp
 refine (bn rfl).mpr ?_
 refine lM fun R1 hR1 => ?_
 simp! only [cO, minD, maxD, kX]
 generalize hn : (if (if (8 : Int) < ((List.map D.int ns).length : Nat) then (8 : Int) else ((List.map D.int ns).length : Nat)) > 1 then (if (8 : Int) < ((List.map D.int ns).length : Nat) then (8 : Int) else ((List.map D.int ns).length : Nat)) else 1) = n
 have n10 : n <= 8 := by rw [<- hn]; split <;> split <;> omega
 have n1 : 1 <= n := by rw [<- hn]; split <;> split <;> omega
 have hr : -(2 ^ 62) <= n /\ n < 2 ^ 62 := ⟨by omega, by omega⟩
 simp! only [eS, hr, and_self]
 refine dZ (fun ds ρ S' => (∃ x1 x2 x3 x4 x5 x6 x7 x8, ρ = [some (.ro (ns.map D.int)), x1, x2, x3, x4, x5, x6, x7, x8]) /\ ∀ d ∈ ds, ∃ i : Nat, d = .int i) ⟨⟨_, _, _, _, _, _, _, _, rfl⟩, fun d hd => ?_⟩ ?_ ?_
 ·unfold aY at hd
  obtain ⟨i, _, rfl⟩ := List.mem_map.mp hd
  exact ⟨i, by rw [Int.zero_add]⟩
 ·rintro ρ S' ⟨⟨x1, x2, x3, x4, x5, x6, x7, x8, rfl⟩, _⟩
  try simp! only [mV]
  subst hR1
  simp! only [mV]
 ·rintro d ds ρ S' ⟨⟨x1, x2, x3, x4, x5, x6, x7, x8, rfl⟩, hd⟩
  obtain ⟨i, rfl⟩ := hd d (by simp)
  simp! only [mV]
  exact BS fun x2 x3 x4 x5 x6 x7 x8 S2 => ⟨⟨_, _, _, _, _, _, _, _, rfl⟩, fun e he => hd e (List.mem_cons_of_mem _ he)⟩
end W
end
section
namespace W
open PySem PySem.Spec PyProof.Rows L2 S3 S4 S7
section
variable {P : Program} {w : World} {K : PySem.W.Frag} {mg : Str -> Option Value} {base : Heap}
theorem qp {f : Addr} {fd : FuncData} (F : Fun K "is_whole" "is_whole" (top 17) f fd) (hm : mg "is_whole" = some (.ref f)) (T : Txt K mg) : DefX P w K mg base 1 "is_whole" ["thing"] bX :=
 bw (m := iR) F hm (F.binds fun _ _ _ _ _ _ us hl => match us, hl with | [_], _ => rfl) pZ rfl fun cdv A outer s H E hr =>
  aE (aQ (gy (cy (Ts := "int") T.b_isinstance T.b_int (aa 0)) (iJ (zB (cy (Ts := "bool") T.b_isinstance T.b_bool (aa 0))))))
end
end W
end
section
namespace W
open PySem PySem.Spec PyProof.Rows L2 S3 S4 S7
section
variable {P : Program} {w : World} {K : PySem.W.Frag} {mg : Str -> Option Value} {base : Heap}
theorem rS {f : Addr} {fd : FuncData} (F : Fun K "is_pair" "is_pair" (top 18) f fd) (hm : mg "is_pair" = some (.ref f)) (T : Txt K mg) : DefX P w K mg base 1 "is_pair" ["thing"] cL :=
 bw (m := jU) F hm (F.binds fun _ _ _ _ _ _ us hl => match us, hl with | [_], _ => rfl) rN rfl fun cdv A outer s H E hr =>
  aE (aQ (gy (cy (Ts := "tuple") T.b_isinstance T.b_tuple (aa 0)) (iJ (pw (fq hr) (cx T.b_len (aa 0)) (am)))))
end
end W
end
section
namespace W
open PySem PySem.Spec PyProof.Rows L2 S3 S4 S7
section
variable {P : Program} {w : World} {K : PySem.W.Frag} {mg : Str -> Option Value} {base : Heap}
theorem oK {f : Addr} {fd : FuncData} (F : Fun K "is_rising" "is_rising" (top 21) f fd) (hm : mg "is_rising" = some (.ref f)) (T : Txt K mg) : DefX P w K mg base 1 "is_rising" ["things"] cM :=
 bw (m := gS) F hm (F.binds fun _ _ _ _ _ _ us hl => match us, hl with | [_], _ => rfl) oz rfl fun cdv A outer s H E hr =>
  aE (aQ (qY rfl T.b_all (cE (t := d6) (m := d7) (jr (Nc := ["ahead", "behind"]) (js := [none, none]) (ak (top 21)) ["things"] (fun _ => rfl) rfl (by decide +kernel)) rfl (sM T.b_zip (aa 0) (vA (aa 0) (xp (am)) (xo))) (fun C ex s2 H2 => ⟨jJ rfl (bO (aL 0 (show (["ahead", "behind"] : List Str).Nodup by decide +kernel)) (bO (aL 1 (show (["ahead", "behind"] : List Str).Nodup by decide +kernel)) (ib))), eL, yp (AI hr) (aa 0) (aa 1)⟩))))
end
end W
end
section
namespace W
open PySem PySem.Spec PyProof.Rows L2 S3 S4 S7
section
variable {P : Program} {w : World} {K : PySem.W.Frag} {mg : Str -> Option Value} {base : Heap}
theorem ko {f : Addr} {fd : FuncData} (F : Fun K "_law_cell_at" "_law_cell_at" (top 30) f fd) (hm : mg "_law_cell_at" = some (.ref f)) (T : Txt K mg) : DefX P w K mg base 1 "_law_cell_at" ["_law_script", "_law_k"] bG :=
 bw (m := d8) F hm (F.binds fun _ _ _ _ _ _ us hl => match us, hl with | [_, _], _ => rfl) km rfl fun cdv A outer s H E hr =>
  ao (cY (vt (AI hr) (aa 1) (cx T.b_len (aa 0))) (aE (aQ (aO (aa 0) (aa 1)))) (bQ)) (aE (aQ (am)))
end
end W
end
section
namespace W
open PySem PySem.Spec PyProof.Rows L2 S3 S4 S7
section
variable {P : Program} {w : World} {K : PySem.W.Frag} {mg : Str -> Option Value} {base : Heap}
theorem oM {f : Addr} {fd : FuncData} (F : Fun K "_law_take" "_law_take" (top 32) f fd) (hm : mg "_law_take" = some (.ref f)) (T : Txt K mg) : DefX P w K mg base 1 "_law_take" ["_law_state_here", "_law_many"] aJ :=
 bw (m := gT) F hm (F.binds fun _ _ _ _ _ _ us hl => match us, hl with | [_, _], _ => rfl) dR rfl fun cdv A outer s H E hr =>
  ao (cY (d0 (aO (aa 0) (am))) (ao (aX 2 dR.nd (gG (aO (aa 0) (am)) (aa 1)) (hs := cC)) (ao (kS (jg (aO (aa 0) (am)) (aa 1)) (su (aa 0) (am))) (aE (aQ (aa 2))))) (bQ)) (ao (kS (gG (bT (iM (aO (aa 0) (am)) (am)) (am)) (am)) (su (aa 0) (am))) (ao (aX 3 dR.nd (gG (bT (bT (iM (aO (aa 0) (am)) (aO (aa 0) (am))) (iM (am) (aO (aa 0) (am)))) (am)) (am)) (hs := cC)) (ao (aX 3 dR.nd (gG (bT (iM (aa 3) (aa 3)) (iM (am) (aa 3))) (am)) (hs := cC)) (aE (aQ (gG (jg (aa 3) (am)) (aa 1)))))))
end
end W
end
section
namespace W
open PySem PySem.Spec PyProof.Rows L2 S3 S4 S7
section
variable {P : Program} {w : World} {K : PySem.W.Frag} {mg : Str -> Option Value} {base : Heap}
theorem mt {f : Addr} {fd : FuncData} (F : Fun K "_law_pairs" "_law_pairs" (top 33) f fd) (hm : mg "_law_pairs" = some (.ref f)) (T : Txt K mg) : DefX P w K mg base 1 "_law_pairs" ["_law_many"] bb :=
 bw (m := fQ) F hm (F.binds fun _ _ _ _ _ _ us hl => match us, hl with | [_], _ => rfl) eT rfl fun cdv A outer s H E hr =>
  ao (aX 1 eT.nd (a8 (al)) (hs := eP)) (ao (iL (b := dH) PassesOwn.never rfl (da T.b_range (aa 0)) (aL 2 eT.nd) (aE (dM (mO (aa 1) (cE (t := dF) (m := dG) (jr (Nc := ["_law_b", "_law_a"]) (js := [none, some 2]) (ak (top 33)) ["_law_many", "_law_found", "_law_a"] (fun _ => rfl) rfl (by decide +kernel)) rfl (jM T.b_range (bT (aa 2) (am)) (aa 0)) (fun C ex s2 H2 => ⟨aL 0 (show (["_law_b", "_law_a"] : List Str).Nodup by decide +kernel), eL, eQ (ad (aa 1) (ad (aa 0) (al) aq) aq)⟩)))))) (aE (aQ (aa 1))))
end
end W
end
section
namespace W
open PySem PySem.Spec PyProof.Rows L2 S3 S4 S7
section
variable {P : Program} {w : World} {K : PySem.W.Frag} {mg : Str -> Option Value} {base : Heap}
theorem oO {f : Addr} {fd : FuncData} (F : Fun K "_law_made" "_law_made" (top 37) f fd) (hm : mg "_law_made" = some (.ref f)) (T : Txt K mg) : DefX P w K mg base 1 "_law_made" ["_law_web_here"] bY :=
 bw (m := gU) F hm (F.binds fun _ _ _ _ _ _ us hl => match us, hl with | [_], _ => rfl) dU rfl fun cdv A outer s H E hr =>
  ao (aX 1 dU.nd (aO (aa 0) (am)) (hs := oy)) (ao (aX 2 dU.nd (a8 (al)) (hs := eP)) (ao (iL (b := ef) PassesOwn.never rfl (da T.b_range (cx T.b_len (aa 1))) (aL 3 dU.nd) (aE (dM (mO (aa 2) (cE (t := d9) (m := ee) (jr (Nc := ["_law_b", "_law_ties", "_law_a"]) (js := [none, some 1, some 3]) (ak (top 37)) ["_law_web_here", "_law_ties", "_law_found", "_law_a"] (fun _ => rfl) rfl (by decide +kernel)) rfl (jM T.b_range (bT (aa 3) (am)) (cx T.b_len (aa 1))) (fun C ex s2 H2 => ⟨aL 0 (show (["_law_b", "_law_ties", "_law_a"] : List Str).Nodup by decide +kernel), ic (vt (AI hr) (uo rfl T.b_len T.b_set (bT (aO (aa 1) (aa 2)) (aO (aa 1) (aa 0)))) (am)), eQ (ad (aa 2) (ad (aa 0) (al) aq) aq)⟩)))))) (aE (aQ (eQ (ad (cx T.b_len (aa 1)) (ad (gH T.b_tuple (aa 2)) (al) aM) aM))))))
end
end W
end
section
namespace W
open PySem PySem.Spec PyProof.Rows L2 S3 S4 S7
section
variable {P : Program} {w : World} {K : PySem.W.Frag} {mg : Str -> Option Value} {base : Heap}
theorem mw {f : Addr} {fd : FuncData} (F : Fun K "_law_same" "_law_same" (top 39) f fd) (hm : mg "_law_same" = some (.ref f)) (T : Txt K mg) : DefX P w K mg base 1 "_law_same" ["_law_found", "_law_due"] cn :=
 bw (m := fR) F hm (F.binds fun _ _ _ _ _ _ us hl => match us, hl with | [_, _], _ => rfl) mq rfl fun cdv A outer s H E hr =>
  ao (cY (d0 (ss (Ts := "tuple") (Us := "list") T.b_isinstance T.b_tuple T.b_list (aa 1))) (ao (cY (xm (sj (jh (fq hr) (cy (Ts := "tuple") T.b_isinstance T.b_tuple (aa 0)) (cy (Ts := "tuple") T.b_isinstance T.b_tuple (aa 1))) (qR (jh (fq hr) (cy (Ts := "list") T.b_isinstance T.b_list (aa 0)) (cy (Ts := "list") T.b_isinstance T.b_list (aa 1)))))) (aE (aQ (eJ))) (bQ)) (ao (cY (jh (fq hr) (cx T.b_len (aa 0)) (cx T.b_len (aa 1))) (aE (aQ (eJ))) (bQ)) (aE (z0)))) (bQ)) (aE (aQ (gy (pw (fq hr) (aa 0) (aa 1)) (iJ (pw (fq hr) (cy (Ts := "bool") T.b_isinstance T.b_bool (aa 0)) (cy (Ts := "bool") T.b_isinstance T.b_bool (aa 1)))))))
end
end W
end
section
namespace W
open PySem PySem.Spec PyProof.Rows L2 S3 S4 S7
section
variable {P : Program} {w : World} {K : PySem.W.Frag} {mg : Str -> Option Value} {base : Heap}
theorem qr {f : Addr} {fd : FuncData} (F : Fun K "is_place" "is_place" (top 19) f fd) (hm : mg "is_place" = some (.ref f)) (T : Txt K mg) (D_is_whole : DefX P w K mg base 1 "is_whole" ["thing"] bX) : DefX P w K mg base 2 "is_place" ["many", "thing"] cH :=
 bw (m := iS) F hm (F.binds fun _ _ _ _ _ _ us hl => match us, hl with | [_, _], _ => rfl) p0 rfl fun cdv A outer s H E hr =>
  aE (aQ (gy (aD D_is_whole (hr.mono (by decide)) (ad (aa 1) (al) aq)) (iJ (vv uT (uS.or (qH (AI hr))) (ie fun _ _ _ _ => .bl _) qS (am) (aa 1) (aa 0)))))
end
end W
end
section
namespace W
open PySem PySem.Spec PyProof.Rows L2 S3 S4 S7
section
variable {P : Program} {w : World} {K : PySem.W.Frag} {mg : Str -> Option Value} {base : Heap}
theorem mx {f : Addr} {fd : FuncData} (F : Fun K "_law_state" "_law_state" (top 31) f fd) (hm : mg "_law_state" = some (.ref f)) (T : Txt K mg) (D__law_cell_at : DefX P w K mg base 1 "_law_cell_at" ["_law_script", "_law_k"] bG) : DefX P w K mg base 2 "_law_state" ["_law_script", "_law_k"] cq :=
 bw (m := fS) F hm (F.binds fun _ _ _ _ _ _ us hl => match us, hl with | [_, _], _ => rfl) iI rfl fun cdv A outer s H E hr =>
  ao (aX 2 iI.nd (aD D__law_cell_at (hr.mono (by decide)) (ad (aa 0) (ad (aa 1) (al) aq) aq)) (hs := cT)) (ao (cY (Bp (aa 2) (vo (am) (am))) (aE (aQ (a8 (ad (eR (aa 2) (vo (am) (am))) (ad (eJ) (al) ap) d5)))) (bQ)) (aE (aQ (a8 (ad (gG (aa 2) (am)) (ad (eJ) (al) ap) d5)))))
end
end W
end
section
namespace W
open PySem PySem.Spec PyProof.Rows L2 S3 S4 S7
section
variable {P : Program} {w : World} {K : PySem.W.Frag} {mg : Str -> Option Value} {base : Heap}
theorem jB {f : Addr} {fd : FuncData} (F : Fun K "_law_mixed_row" "_law_mixed_row" (top 34) f fd) (hm : mg "_law_mixed_row" = some (.ref f)) (T : Txt K mg) (D__law_take : DefX P w K mg base 1 "_law_take" ["_law_state_here", "_law_many"] aJ) : DefX P w K mg base 2 "_law_mixed_row" ["_law_state_here", "_law_things"] bo :=
 bw (m := dh) F hm (F.binds fun _ _ _ _ _ _ us hl => match us, hl with | [_, _], _ => rfl) cU rfl fun cdv A outer s H E hr =>
  ao (aX 2 cU.nd (xr T.b_list (aa 1)) (hs := cT)) (ao (aX 3 cU.nd (a8 (al)) (hs := eP)) (ao (vm (b := cz) 64 PassesOwn.never (jh (fq hr) (aa 2) (a8 (al))) (aE (dM (dY (aa 3) (vG (aa 2) (aD D__law_take (hr.mono (by decide)) (ad (aa 0) (ad (cx T.b_len (aa 2)) (al) aM) aq))))))) (aE (aQ (aa 3)))))
end
end W
end
section
namespace W
open PySem PySem.Spec PyProof.Rows L2 S3 S4 S7
section
variable {P : Program} {w : World} {K : PySem.W.Frag} {mg : Str -> Option Value} {base : Heap}
theorem jC {f : Addr} {fd : FuncData} (F : Fun K "_law_great_web" "_law_great_web" (top 36) f fd) (hm : mg "_law_great_web" = some (.ref f)) (T : Txt K mg) (D__law_take : DefX P w K mg base 1 "_law_take" ["_law_state_here", "_law_many"] aJ) : DefX P w K mg base 2 "_law_great_web" ["_law_state_here"] bp :=
 bw (m := di) F hm (F.binds fun _ _ _ _ _ _ us hl => match us, hl with | [_], _ => rfl) bh rfl fun cdv A outer s H E hr =>
  ao (aX 1 bh.nd (bT (am) (aD D__law_take (hr.mono (by decide)) (ad (aa 0) (ad (am) (al) ap) aq))) (hs := cC)) (ao (aX 2 bh.nd (a8 (al)) (hs := eP)) (ao (iL (b := cA) PassesOwn.never rfl (da T.b_range (aD D__law_take (hr.mono (by decide)) (ad (aa 0) (ad (am) (al) ap) aq))) (aL 3 bh.nd) (ao (aX 4 bh.nd (aD D__law_take (hr.mono (by decide)) (ad (aa 0) (ad (aa 1) (al) aq) aq)) (hs := cT)) (ao (aX 5 bh.nd (gG (bT (bT (aa 4) (am)) (aD D__law_take (hr.mono (by decide)) (ad (aa 0) (ad (eR (aa 1) (am)) (al) d5) aq))) (aa 1)) (hs := cC)) (aE (dM (dY (aa 2) (eQ (ad (vB rfl T.b_min (ad (aa 4) (ad (aa 5) (al) aq) aq)) (ad (qW rfl T.b_max (ad (aa 4) (ad (aa 5) (al) aq) aq)) (al) aM) aM)))))))) (aE (aQ (eQ (ad (aa 1) (ad (gH T.b_tuple (oj rfl (Ei hr) T.b_sorted T.b_set (aa 2))) (al) aM) aq))))))
end
end W
end
section
namespace W
open PySem PySem.Spec PyProof.Rows L2 S3 S4 S7
section
variable {P : Program} {w : World} {K : PySem.W.Frag} {mg : Str -> Option Value} {base : Heap}
theorem kq {f : Addr} {fd : FuncData} (F : Fun K "_law_bad_web" "_law_bad_web" (top 38) f fd) (hm : mg "_law_bad_web" = some (.ref f)) (T : Txt K mg) (D__law_take : DefX P w K mg base 1 "_law_take" ["_law_state_here", "_law_many"] aJ) : DefX P w K mg base 2 "_law_bad_web" ["_law_state_here"] bH := by
 refine bw (m := eh) F hm (F.binds fun _ _ _ _ _ _ us hl => match us, hl with | [_], _ => rfl) gn rfl fun cdv A outer s H E hr => ?_
 have key : ∀ e pos pos' me, SE (iz (jR P w) P w K mg base ["_law_state_here", "_law_some"] "_law_bad_web" (ak (top 38)) f cdv A outer s H E).nox dm e me -> swapsWith e (some (.Name "_law_some" pos')) pos.line (iz (jR P w) P w K mg base ["_law_state_here", "_law_some"] "_law_bad_web" (ak (top 38)) f cdv A outer s H E).nox.env = pure false -> SS (iz (jR P w) P w K mg base ["_law_state_here", "_law_some"] "_law_bad_web" (ak (top 38)) f cdv A outer s H E).nox dm (.Assign [.Name "_law_some" pos'] e pos) (bt 1 me) := fun e pos pos' me h hs => aX 1 gn.nd h (hs := hs)
 have kv : ∀ pos, SE (iz (jR P w) P w K mg base ["_law_state_here", "_law_some"] "_law_bad_web" (ak (top 38)) f cdv A outer s H E).nox dm (.Name "_law_some" pos) (mV 1) := fun pos => aa 1
 refine ao ?_ ?_
 ·with_reducible refine key _ _ _ _ ?_ eP
  with_reducible refine a8 ?_
  with_reducible refine au (kP) ?_ ap
  with_reducible refine au (am) ?_ ap
  with_reducible refine au (bM 6 ?_) ?_ aR
  case refine_1 => rfl
  with_reducible refine au (bM 6 ?_) ?_ aR
  case refine_1 => rfl
  with_reducible refine au (bM 6 ?_) ?_ aR
  case refine_1 => rfl
  with_reducible refine au (bM 6 ?_) ?_ aR
  case refine_1 => rfl
  with_reducible refine au ?_ ?_ aR
  case refine_1 => exact (eQ (ad (am) (ad (a8 (al)) (al) om) ap))
  with_reducible refine au ?_ ?_ om
  case refine_1 => exact (a8 (ad (am) (ad (bM 6 rfl) (al) aR) ap))
  with_reducible refine au (bM 6 ?_) ?_ aR
  case refine_1 => rfl
  with_reducible refine au (bM 6 ?_) ?_ aR
  case refine_1 => rfl
  with_reducible refine au (zG) ?_ xC
  with_reducible refine au (nJ) ?_ ap
  exact al
 refine ao ?_ ?_
 ·with_reducible refine key _ _ _ _ ?_ cC
  with_reducible refine bT (kv _) ?_
  with_reducible refine a8 ?_
  with_reducible refine au (bM 6 ?_) ?_ aR
  case refine_1 => rfl
  with_reducible refine au (bM 6 ?_) ?_ aR
  case refine_1 => rfl
  with_reducible refine au (bM 6 ?_) ?_ aR
  case refine_1 => rfl
  with_reducible refine au (bM 6 ?_) ?_ aR
  case refine_1 => rfl
  with_reducible refine au (bM 6 ?_) ?_ aR
  case refine_1 => rfl
  exact al
 refine ao ?_ ?_
 ·with_reducible refine key _ _ _ _ ?_ cC
  with_reducible refine bT (kv _) ?_
  with_reducible refine a8 ?_
  with_reducible refine au (bM 6 ?_) ?_ aR
  case refine_1 => rfl
  with_reducible refine au (bM 6 ?_) ?_ aR
  case refine_1 => rfl
  with_reducible refine au (bM 6 ?_) ?_ aR
  case refine_1 => rfl
  with_reducible refine au (bM 6 ?_) ?_ aR
  case refine_1 => rfl
  with_reducible refine au ?_ ?_ aR
  case refine_1 => exact (eQ (ad (am) (ad (eQ (ad (a8 (ad (am) (ad (am) (al) ap) ap)) (al) om)) (al) aR) ap))
  with_reducible refine au (bM 6 ?_) ?_ aR
  case refine_1 => rfl
  with_reducible refine au (bM 6 ?_) ?_ aR
  case refine_1 => rfl
  with_reducible refine au (bM 6 ?_) ?_ aR
  case refine_1 => rfl
  exact al
 exact (aE (aQ (aO (aa 1) (aD D__law_take (hr.mono (by decide)) (ad (aa 0) (ad (am) (al) ap) aq)))))
end
end W
end
section
namespace W
open PySem PySem.Spec PyProof.Rows L2 S3 S4 S7
section
variable {P : Program} {w : World} {K : PySem.W.Frag} {mg : Str -> Option Value} {base : Heap}
theorem oQ {f : Addr} {fd : FuncData} (F : Fun K "_law_same" "_law_same" (top 39) f fd) (hm : mg "_law_same" = some (.ref f)) (T : Txt K mg) (D__law_same0 : DefX P w K mg base 1 "_law_same" ["_law_found", "_law_due"] cn) : DefX P w K mg base 2 "_law_same" ["_law_found", "_law_due"] cN :=
 bw (m := gW) F hm (F.binds fun _ _ _ _ _ _ us hl => match us, hl with | [_, _], _ => rfl) oA rfl fun cdv A outer s H E hr =>
  ao (cY (d0 (ss (Ts := "tuple") (Us := "list") T.b_isinstance T.b_tuple T.b_list (aa 1))) (ao (cY (xm (sj (jh (fq hr) (cy (Ts := "tuple") T.b_isinstance T.b_tuple (aa 0)) (cy (Ts := "tuple") T.b_isinstance T.b_tuple (aa 1))) (qR (jh (fq hr) (cy (Ts := "list") T.b_isinstance T.b_list (aa 0)) (cy (Ts := "list") T.b_isinstance T.b_list (aa 1)))))) (aE (aQ (eJ))) (bQ)) (ao (cY (jh (fq hr) (cx T.b_len (aa 0)) (cx T.b_len (aa 1))) (aE (aQ (eJ))) (bQ)) (aE (aQ (qY rfl T.b_all (cE (t := ez) (m := eA) (jr (Nc := ["_law_one", "_law_other"]) (js := [none, none]) (ak (top 39)) ["_law_found", "_law_due"] (fun _ => rfl) rfl (by decide +kernel)) rfl (sM T.b_zip (aa 0) (aa 1)) (fun C ex s2 H2 => ⟨jJ rfl (bO (aL 0 (show (["_law_one", "_law_other"] : List Str).Nodup by decide +kernel)) (bO (aL 1 (show (["_law_one", "_law_other"] : List Str).Nodup by decide +kernel)) (ib))), eL, aD D__law_same0 (hr.mono (by decide)) (ad (aa 0) (ad (aa 1) (al) aq) aq)⟩))))))) (bQ)) (aE (aQ (gy (pw (fq hr) (aa 0) (aa 1)) (iJ (pw (fq hr) (cy (Ts := "bool") T.b_isinstance T.b_bool (aa 0)) (cy (Ts := "bool") T.b_isinstance T.b_bool (aa 1)))))))
end
end W
end
section
namespace W
open PySem PySem.Spec PyProof.Rows L2 S3 S4 S7
section
variable {P : Program} {w : World} {K : PySem.W.Frag} {mg : Str -> Option Value} {base : Heap}
theorem uE {f : Addr} {fd : FuncData} (F : Fun K "is_tie" "is_tie" (top 20) f fd) (hm : mg "is_tie" = some (.ref f)) (T : Txt K mg) (D_is_pair : DefX P w K mg base 1 "is_pair" ["thing"] cL) (D_is_place : DefX P w K mg base 2 "is_place" ["many", "thing"] cH) : DefX P w K mg base 3 "is_tie" ["many", "thing"] fw :=
 bw (m := lC) F hm (F.binds fun _ _ _ _ _ _ us hl => match us, hl with | [_, _], _ => rfl) jV rfl fun cdv A outer s H E hr =>
  ao (cY (gz (d0 (aD D_is_pair (hr.mono (by decide)) (ad (aa 1) (al) aq)))) (aE (aQ (eJ))) (bQ)) (ao (kS (aa 1) (jJ rfl (bO (aL 2 jV.nd) (bO (aL 3 jV.nd) (ib))))) (aE (aQ (gy (aD D_is_place (hr.mono (by decide)) (ad (aa 0) (ad (aa 2) (al) aq) aq)) (gy (aD D_is_place (hr.mono (by decide)) (ad (aa 0) (ad (aa 3) (al) aq) aq)) (iJ (yp (AI hr) (aa 2) (aa 3))))))))
end
end W
end
section
namespace W
open PySem PySem.Spec PyProof.Rows L2 S3 S4 S7
section
variable {P : Program} {w : World} {K : PySem.W.Frag} {mg : Str -> Option Value} {base : Heap}
theorem qt {f : Addr} {fd : FuncData} (F : Fun K "_law_web" "_law_web" (top 35) f fd) (hm : mg "_law_web" = some (.ref f)) (T : Txt K mg) (D__law_take : DefX P w K mg base 1 "_law_take" ["_law_state_here", "_law_many"] aJ) (D__law_pairs : DefX P w K mg base 1 "_law_pairs" ["_law_many"] bb) (D__law_mixed_row : DefX P w K mg base 2 "_law_mixed_row" ["_law_state_here", "_law_things"] bo) : DefX P w K mg base 3 "_law_web" ["_law_state_here", "_law_most"] dj :=
 bw (m := iT) F hm (F.binds fun _ _ _ _ _ _ us hl => match us, hl with | [_, _], _ => rfl) bz rfl fun cdv A outer s H E hr =>
  ao (aX 2 bz.nd (qW rfl T.b_max (ad (am) (ad (eR (aa 1) (aO (a8 (by (refine au (am) ?_ ap; refine au (am) ?_ ap; refine au (am) ?_ ap; refine au (am) ?_ ap; refine au (am) ?_ ap; refine au (am) ?_ ap; refine au (am) ?_ ap; refine au (aa 1) ?_ aq; exact al))) (aD D__law_take (hr.mono (by decide)) (ad (aa 0) (ad (am) (al) ap) aq)))) (al) d5) ap)) (hs := cT)) (ao (aX 3 bz.nd (aD D__law_take (hr.mono (by decide)) (ad (aa 0) (ad (am) (al) ap) aq)) (hs := cT)) (ao (aX 4 bz.nd (cE (t := eU) (m := eV) (jr (Nc := ["_law_tie", "_law_state_here", "_law_way"]) (js := [none, some 0, some 3]) (ak (top 35)) ["_law_state_here", "_law_most", "_law_many", "_law_way", "_law_ties", "_law_row", "_law_at", "_law_odd"] (fun _ => rfl) rfl (by decide +kernel)) rfl (fN (aD D__law_pairs (hr.mono (by decide)) (ad (aa 2) (al) aq))) (fun C ex s2 H2 => ⟨aL 0 (show (["_law_tie", "_law_state_here", "_law_way"] : List Str).Nodup by decide +kernel), ic (vt (AI hr) (aD D__law_take (hr.mono (by decide)) (ad (aa 1) (ad (am) (al) ap) aq)) (aO (a8 (ad (am) (ad (am) (ad (am) (al) ap) ap) ap)) (gG (aa 2) (am)))), aa 0⟩))) (ao (aX 5 bz.nd (aD D__law_mixed_row (hr.mono (by decide)) (ad (aa 0) (ad (nY rfl T.b_list T.b_range (aa 2)) (al) aM) aq)) (hs := cT)) (ao (cY (yo (aa 3) (am)) (ao (aX 4 bz.nd (a8 (al)) (hs := eP)) (ao (iL (b := eW) PassesOwn.never rfl (jM T.b_range (am) (aa 2)) (aL 6 bz.nd) (aE (dM (dY (aa 4) (gH T.b_tuple (jQ T.b_sorted (a8 (ad (aO (aa 5) (aa 6)) (ad (aO (aa 5) (aO (a8 (by (refine au (eR (aa 6) (am)) ?_ d5; refine au (eR (aa 6) (am)) ?_ d5; refine au (am) ?_ ap; refine au (jg (aa 6) (am)) ?_ d5; exact al))) (eR (aa 3) (am)))) (al) cg) cg)))))))) (ao (cY (xm (zC (vy (fq hr) (aa 3) (am)) (xk (yo (aa 2) (am))))) (aE (dM (dY (aa 4) (gH T.b_tuple (jQ T.b_sorted (a8 (ad (aO (aa 5) (am)) (ad (aO (aa 5) (eR (aa 2) (am))) (al) cg) cg))))))) (bQ)) (ao (aX 7 bz.nd (cE (t := dq) (m := dr) (jr (Nc := ["_law_tie", "_law_state_here"]) (js := [none, some 0]) (ak (top 35)) ["_law_state_here", "_law_most", "_law_many", "_law_way", "_law_ties", "_law_row", "_law_at", "_law_odd"] (fun _ => rfl) rfl (by decide +kernel)) rfl (fN (aD D__law_pairs (hr.mono (by decide)) (ad (aa 2) (al) aq))) (fun C ex s2 H2 => ⟨aL 0 (show (["_law_tie", "_law_state_here"] : List Str).Nodup by decide +kernel), ic (vy (fq hr) (aD D__law_take (hr.mono (by decide)) (ad (aa 1) (ad (am) (al) ap) aq)) (am)), aa 0⟩))) (aE (aX 4 bz.nd (cE (t := du) (m := dv) (jr (Nc := ["_law_tie", "_law_ties", "_law_odd"]) (js := [none, some 4, some 7]) (ak (top 35)) ["_law_state_here", "_law_most", "_law_many", "_law_way", "_law_ties", "_law_row", "_law_at", "_law_odd"] (fun _ => rfl) rfl (by decide +kernel)) rfl (fN (aD D__law_pairs (hr.mono (by decide)) (ad (aa 2) (al) aq))) (fun C ex s2 H2 => ⟨aL 0 (show (["_law_tie", "_law_ties", "_law_odd"] : List Str).Nodup by decide +kernel), ic (jh (fq hr) (yq (fq hr) (aa 0) (aa 1)) (yq (fq hr) (aa 0) (aa 2))), aa 0⟩)))))))) (bQ)) (aE (aQ (eQ (ad (aa 2) (ad (gH T.b_tuple (jQ T.b_sorted (aa 4))) (al) aM) aq))))))))
end
end W
end
section
namespace W
open PySem PySem.Spec PyProof.Rows L2 S3 S4 S7
section
variable {P : Program} {w : World} {K : PySem.W.Frag} {mg : Str -> Option Value} {base : Heap}
theorem uF {f : Addr} {fd : FuncData} (F : Fun K "is_web" "is_web" (top 22) f fd) (hm : mg "is_web" = some (.ref f)) (T : Txt K mg) (D_is_whole : DefX P w K mg base 1 "is_whole" ["thing"] bX) (D_is_pair : DefX P w K mg base 1 "is_pair" ["thing"] cL) (D_is_tie : DefX P w K mg base 3 "is_tie" ["many", "thing"] fw) (D_is_rising : DefX P w K mg base 1 "is_rising" ["things"] cM) : DefX P w K mg base 4 "is_web" ["thing"] fx :=
 bw (m := lD) F hm (F.binds fun _ _ _ _ _ _ us hl => match us, hl with | [_], _ => rfl) jW rfl fun cdv A outer s H E hr =>
  ao (cY (gz (d0 (aD D_is_pair (hr.mono (by decide)) (ad (aa 0) (al) aq)))) (aE (aQ (eJ))) (bQ)) (ao (kS (aa 0) (jJ rfl (bO (aL 1 jW.nd) (bO (aL 2 jW.nd) (ib))))) (ao (cY (xm (sj (gz (d0 (aD D_is_whole (hr.mono (by decide)) (ad (aa 1) (al) aq)))) (sj (gz (vw uT uT (ie fun _ _ _ _ => .bl _) (ie fun _ _ _ _ => .bl _) (am) (aa 1) (v8 rfl T.g_MOST_PLACES))) (qR (gz (d0 (cy (Ts := "tuple") T.b_isinstance T.b_tuple (aa 2)))))))) (aE (aQ (eJ))) (bQ)) (aE (aQ (gy (qY rfl T.b_all (cE (t := gX) (m := gY) (jr (Nc := ["tie", "many"]) (js := [none, some 1]) (ak (top 22)) ["thing", "many", "ties"] (fun _ => rfl) rfl (by decide +kernel)) rfl (fN (aa 2)) (fun C ex s2 H2 => ⟨aL 0 (show (["tie", "many"] : List Str).Nodup by decide +kernel), eL, aD D_is_tie (hr.mono (by decide)) (ad (aa 1) (ad (aa 0) (al) aq) aq)⟩))) (iJ (aD D_is_rising (hr.mono (by decide)) (ad (aa 2) (al) aq))))))))
end
end W
end
section
namespace W
open PySem PySem.Spec PyProof.Rows L2 S3 S4 S7
section
variable {P : Program} {w : World} {K : PySem.W.Frag} {mg : Str -> Option Value} {base : Heap}
theorem qu {f : Addr} {fd : FuncData} (F : Fun K "need_web" "need_web" (top 23) f fd) (hm : mg "need_web" = some (.ref f)) (T : Txt K mg) (D_is_web : DefX P w K mg base 4 "is_web" ["thing"] fx) : DefX P w K mg base 5 "need_web" ["thing"] bZ :=
 ot (m := fT) F hm (F.binds fun _ _ _ _ _ _ us hl => match us, hl with | [_], _ => rfl) p7 rfl fun cdv A outer s H E hr =>
  aE (cY (gz (d0 (gL D_is_web (hr.mono (by decide)) dE.pass (ad (aa 0) (al) aq)))) (aE (wg dE rfl T.err (by decide) (by decide) (ad (nJ) (al) ap))) (bQ))
end
end W
end
section
namespace W
open PySem PySem.Spec PyProof.Rows L2 S3 S4 S7
section
variable {P : Program} {w : World} {K : PySem.W.Frag} {mg : Str -> Option Value} {base : Heap}
theorem rT {f : Addr} {fd : FuncData} (F : Fun K "degrees" "degrees" (top 24) f fd) (hm : mg "degrees" = some (.ref f)) (T : Txt K mg) (D_need_web : DefX P w K mg base 5 "need_web" ["thing"] bZ) : DefX P w K mg base 6 "degrees" ["web"] bP :=
 ot (m := iq) F hm (F.binds fun _ _ _ _ _ _ us hl => match us, hl with | [_], _ => rfl) iU rfl fun cdv A outer s H E hr =>
  ao (dM (gL D_need_web (hr.mono (by decide)) dE.pass (ad (aa 0) (al) aq))) (ao (kS (aa 0) (jJ rfl (bO (aL 1 iU.nd) (bO (aL 2 iU.nd) (ib))))) (aE (aQ (sI (cE (t := fW) (m := dW) (jr (Nc := ["place", "ties"]) (js := [none, some 2]) (ak (top 24)) ["web", "many", "ties"] (fun _ => rfl) rfl (by decide +kernel)) rfl (da T.b_range (aa 1)) (fun C ex s2 H2 => ⟨aL 0 (show (["place", "ties"] : List Str).Nodup by decide +kernel), eL, cx T.b_len (cE (t := fU) (m := fV) (jr (Nc := ["tie", "place"]) (js := [none, some 0]) _ ["place", "ties"] (fun _ => rfl) rfl rfl) rfl (fN (aa 1)) (fun C ex s2 H2 => ⟨aL 0 (show (["tie", "place"] : List Str).Nodup by decide +kernel), ic (Br (fq hr) (aa 1) (aa 0)), aa 0⟩))⟩))))))
end
end W
end
section
namespace W
open PySem PySem.Spec PyProof.Rows L2 S3 S4 S7
section
variable {P : Program} {w : World} {K : PySem.W.Frag} {mg : Str -> Option Value} {base : Heap}
theorem my {f : Addr} {fd : FuncData} (F : Fun K "ties_ahead" "ties_ahead" (top 26) f fd) (hm : mg "ties_ahead" = some (.ref f)) (T : Txt K mg) (D_degrees : DefX P w K mg base 6 "degrees" ["web"] bP) : DefX P w K mg base 7 "ties_ahead" ["web"] cr :=
 bw (m := fX) F hm (F.binds fun _ _ _ _ _ _ us hl => match us, hl with | [_], _ => rfl) mr rfl fun cdv A outer s H E hr =>
  aE (aQ (wn rfl T.b_sum (cE (t := gp) (m := gq) (jr (Nc := ["many"]) (js := [none]) (ak (top 26)) ["web"] (fun _ => rfl) rfl (by decide +kernel)) rfl (fN (aD D_degrees (hr.mono (by decide)) (ad (aa 0) (al) aq))) (fun C ex s2 H2 => ⟨aL 0 (show (["many"] : List Str).Nodup by decide +kernel), eL, jg (iM (aa 0) (eR (aa 0) (am))) (am)⟩))))
end
end W
end
section
namespace W
open PySem PySem.Spec PyProof.Rows L2 S3 S4 S7
section
variable {P : Program} {w : World} {K : PySem.W.Frag} {mg : Str -> Option Value} {base : Heap}
theorem lN {f : Addr} {fd : FuncData} (F : Fun K "sizes_ahead" "sizes_ahead" (top 28) f fd) (hm : mg "sizes_ahead" = some (.ref f)) (T : Txt K mg) (D_degrees : DefX P w K mg base 6 "degrees" ["web"] bP) (D_ties_ahead : DefX P w K mg base 7 "ties_ahead" ["web"] cr) : DefX P w K mg base 8 "sizes_ahead" ["web"] bc :=
 ot (m := dw) F hm (F.binds fun _ _ _ _ _ _ us hl => match us, hl with | [_], _ => rfl) eB rfl fun cdv A outer s H E hr =>
  ao (aX 1 eB.nd (gL D_degrees (hr.mono (by decide)) dE.pass (ad (aa 0) (al) aq)) (hs := cT)) (ao (xF (kT 2 (t := dk) (m := dl) eB.nd (jr (Nc := ["low", "high", "tied"]) (js := [none, none, some 1]) (ak (top 28)) ["web", "tied", "meeting"] (fun _ => rfl) rfl (by decide +kernel)) rfl (fN (aO (aa 0) (am))) (fun C ex s2 H2 => ⟨jJ rfl (bO (aL 0 (show (["low", "high", "tied"] : List Str).Nodup by decide +kernel)) (bO (aL 1 (show (["low", "high", "tied"] : List Str).Nodup by decide +kernel)) (ib))), eL, eR (bT (aO (aa 2) (aa 0)) (aO (aa 2) (aa 1))) (am)⟩))) (aE (aQ (a8 (by (refine au (aO (aa 0) (am)) ?_ cg; refine au (cx T.b_len (aO (aa 0) (am))) ?_ aM; refine au (gL D_ties_ahead (hr.mono (by decide)) dE.pass (ad (aa 0) (al) aq)) ?_ aM; refine au (wn rfl T.b_sum (sI (cE (t := fy) (m := fz) (jr (Nc := ["many"]) (js := [none]) (ak (top 28)) ["web", "tied", "meeting"] (fun _ => rfl) rfl (by decide +kernel)) rfl (fN (aa 2)) (fun C ex s2 H2 => ⟨aL 0 (show (["many"] : List Str).Nodup by decide +kernel), eL, jg (iM (aa 0) (eR (aa 0) (am))) (am)⟩)))) ?_ aM; exact al))))))
end
end W
end
section
namespace W
open PySem PySem.Spec PyProof.Rows L2 S3 S4 S7
section
variable {P : Program} {w : World} {K : PySem.W.Frag} {mg : Str -> Option Value} {base : Heap}
theorem kt {f : Addr} {fd : FuncData} (F : Fun K "_law_refused" "_law_refused" (top 40) f fd) (hm : mg "_law_refused" = some (.ref f)) (T : Txt K mg) : RefX P w K mg 10 9 "_law_refused" ["_law_call"] aZ :=
 Ae (m := cV) F hm (F.binds fun _ _ _ _ _ _ us hl => match us, hl with | [_], _ => rfl) ba rfl fun base G a c2 ql ds vs mm L cdv A outer s H E hr =>
  ao (aX 1 ba.nd (kP) (hs := pY)) (ao (Aa rfl rfl L (hr.mono (by decide)) ba.nd T.err G rfl (.inl rfl) rfl rfl rfl rfl rfl) (ao (aX 3 ba.nd (a8 (ad (cm T.err (by decide) G T.b_isinstance (aa 1)) (ad (cm T.err (by decide) G T.b_isinstance (aa 1)) (ad (cm T.err (by decide) G T.b_isinstance (aa 1)) (al) aM) aM) aM)) (hs := eP)) (ao (aX 3 ba.nd (bT (aa 3) (a8 (ad (cm T.err (by decide) G T.b_isinstance (aa 1)) (ad (cm T.err (by decide) G T.b_isinstance (aa 1)) (ad (cm T.err (by decide) G T.b_isinstance (aa 1)) (al) aM) aM) aM))) (hs := cC)) (ao (aX 3 ba.nd (bT (aa 3) (a8 (ad (cm T.err (by decide) G T.b_isinstance (aa 1)) (ad (cm T.err (by decide) G T.b_isinstance (aa 1)) (ad (cm T.err (by decide) G T.b_isinstance (aa 1)) (al) aM) aM) aM))) (hs := cC)) (ao (aX 3 ba.nd (bT (aa 3) (a8 (ad (cm T.err (by decide) G T.b_isinstance (aa 1)) (ad (cm T.err (by decide) G T.b_isinstance (aa 1)) (ad (cm T.err (by decide) G T.b_isinstance (aa 1)) (al) aM) aM) aM))) (hs := cC)) (ao (dM (dY (aa 3) (cm T.err (by decide) G T.b_isinstance (aa 1)))) (ao (cY (gz (d0 (xI T.err T.b_isinstance T.b_ValueError (aa 1)))) (aE (aQ (kP))) (bQ)) (ao (kT 4 (t := bA) (m := bB) ba.nd (jr (Nc := ["_law_k", "_law_marks"]) (js := [none, some 3]) (ak (top 40)) ["_law_call", "_law_error", "e", "_law_marks", "_law_found"] (fun _ => rfl) rfl (by decide +kernel)) rfl (da T.b_range (am)) (fun C ex s2 H2 => ⟨aL 0 (show (["_law_k", "_law_marks"] : List Str).Nodup by decide +kernel), ic (d0 (aO (aa 1) (aa 0))), aa 0⟩)) (aE (aQ (Bl (vy (fq hr) (aa 4) (a8 (ad (am) (al) ap))) (bT (aa 4) (a8 (ad (sO) (ad (sO) (al) jv) jv))) (aa 4))))))))))))
end
end W
end
section
namespace W
open PySem PySem.Spec PyProof.Rows L2 S3 S4 S7
theorem uG {P : Program} {w : World} {K : PySem.W.Frag} {mg : Str -> Option Value} {base : Heap} {f c Pt : Addr} {fd : FuncData} (F : Fun K "law" "law" (top 41) f fd) (T : Txt K mg) (G : Mod K mg base) (BL : BaseL K mg base) (TI : oo K) (hx : PySem.W.nsIn K mainGlobals "law" = some (some (.ref f))) (htab : PySem.W.tabIn K "law" = some (c, Pt)) (D_sizes_ahead : ∀ base, Mod K mg base -> DefX P w K mg base 8 "sizes_ahead" ["web"] bc) (D__law_state : ∀ base, Mod K mg base -> DefX P w K mg base 2 "_law_state" ["_law_script", "_law_k"] cq) (D__law_web : ∀ base, Mod K mg base -> DefX P w K mg base 3 "_law_web" ["_law_state_here", "_law_most"] dj) (D__law_great_web : ∀ base, Mod K mg base -> DefX P w K mg base 2 "_law_great_web" ["_law_state_here"] bp) (D__law_made : ∀ base, Mod K mg base -> DefX P w K mg base 1 "_law_made" ["_law_web_here"] bY) (D__law_bad_web : ∀ base, Mod K mg base -> DefX P w K mg base 2 "_law_bad_web" ["_law_state_here"] bH) (D__law_same : ∀ base, Mod K mg base -> DefX P w K mg base 2 "_law_same" ["_law_found", "_law_due"] cN) (D__law_refused : RefX P w K mg 10 9 "_law_refused" ["_law_call"] aZ) (dI : ∀ f c es, aZ f c es = bI c es) : FnOk P w K mg base (jR P w) 11 f fd ["_law_script"] (wd K lF) :=
 Ad (m := wp) F fY rfl hx htab fun A outer s H E hr =>
  ao (iL (b := jz) PassesOwn.never rfl (da T.b_range (qW rfl T.b_max (ad (am) (ad (vB rfl T.b_min (ad (cx T.b_len (aa 0)) (ad (am) (al) ap) aM)) (al) aM) ap))) (aL 1 fY.nd) (ao (aX 2 fY.nd (aD (D__law_state _ G) (hr.mono (by decide)) (ad (aa 0) (ad (aa 1) (al) aq) aq)) (hs := cT)) (ao (iL (b := jx) PassesOwn.never rfl (fN (a8 (ad (aD (D__law_web _ G) (hr.mono (by decide)) (ad (aa 2) (ad (am) (al) ap) aq)) (ad (aD (D__law_great_web _ G) (hr.mono (by decide)) (ad (aa 2) (al) aq)) (al) aM) aM))) (aL 3 fY.nd) (ao (aX 4 fY.nd (aD (D__law_made _ G) (hr.mono (by decide)) (ad (aa 3) (al) aq)) (hs := cT)) (ao (aX 5 fY.nd (a8 (by (refine au (aO (aa 3) (am)) ?_ cg; refine au (cx T.b_len (aO (aa 3) (am))) ?_ aM; refine au (cx T.b_len (aO (aa 4) (am))) ?_ aM; refine au (cx T.b_len (aO (aD (D__law_made _ G) (hr.mono (by decide)) (ad (aa 4) (al) aq)) (am))) ?_ aM; exact al))) (hs := eP)) (aE (iL (b := jw) PassesOwn.never rfl (da T.b_range (am)) (aL 6 fY.nd) (ao (aX 7 fY.nd (aD (D_sizes_ahead _ G) (hr.mono (by decide)) (ad (aa 3) (al) aq)) (hs := cT)) (ao (cY (gz (d0 (aD (D__law_same _ G) (hr.mono (by decide)) (ad (aa 7) (ad (aa 5) (al) aq) aq)))) (aE (aQ (eJ))) (bQ)) (aE (dM (dY (aa 7) (am))))))))))) (ao (aX 8 fY.nd (aD (D__law_bad_web _ G) (hr.mono (by decide)) (ad (aa 2) (al) aq)) (hs := cT)) (aE (cY (jh (fq hr) (Ab (ql := "law.<locals>.<lambda>") (m := lE) (xl := "law") D__law_refused dI (hr.mono (by decide)) (fun _ => rfl) (by decide) htab rfl rfl rfl BL TI rfl (Da (N3 := ["_law_bad"]) (js := [8]) (ak (top 41)) ["_law_script", "_law_k", "_law_state_here", "_law_web_here", "_law_later", "_law_due", "_law_turn", "_law_found", "_law_bad"] (fun _ => rfl) rfl (by decide +kernel)) (al) (fun _ _ _ _ => rfl) (fun base2 G2 f2 c2 cl2 A2 outer2 s2 H2 Ek2 hr2 => gL (D_sizes_ahead _ G2) (hr2.mono (by decide)) rJ.pass (ad (aa 0) (al) aq))) (a8 (ad (am) (al) ap))) (aE (aQ (eJ))) (bQ))))))) (aE (aQ (eJ)))
end W
end
section
namespace W
open PySem PySem.Spec PyProof.Rows L2 S3 S4 S7
abbrev lP : Program := PySem.Challenge.rw_tiewebs_k81_sizes_told_ahead.prog
abbrev kW (w : World) : PySem.W.Frag := KH.K0 w.params
theorem fk {K : PySem.W.Frag} {f c : Addr} {m : Value} (x q : Str) (st : Stmt) (l : K.lookup f = some ⟨.type "function", none, .func (PySem.W.fnOf x q (eI st) (bR st) (ak st) .none .none .none m none (.ref c) .none), #[]⟩) (h : PySem.W.codeIn K (.ref c) q = true) (k : PySem.W.keepIn K (.ref f) = true) : Fun K x q st f (PySem.W.fnOf x q (eI st) (bR st) (ak st) .none .none .none m none (.ref c) .none) := zw l h k
abbrev nK (w : World) (x : Str) : Option (Option Value) := PySem.W.nsIn (kW w) mainGlobals x
theorem Eo (w : World) (mg : Str -> Option Value) (fa : Addr) (h : Heap) (X : (kW w).In h) (G : h.Ns mainGlobals mg) (hfa : mg "law" = some (.ref fa)) : ∃ fd : FuncData, (∀ (s : Shared) (u : Value), BindsTo s fd ⟨[u], []⟩ [("_law_script", u)]) /\ ∀ base : Heap, Mod (kW w) mg base -> BaseL (kW w) mg base -> FnOk lP w (kW w) mg base (jR lP w) 11 fa fd ["_law_script"] (wd (kW w) lF) := by
 have a17 : nK w "is_whole" = some (some (.ref 197)) := by kernel_rfl
 have F17 := @fk (kW w) 197 196 (KH.zs "tiewebs.webs" 426) "is_whole" "is_whole" (top 17) (by kernel_rfl) (by kernel_rfl) (by kernel_rfl)
 have a18 : nK w "is_pair" = some (some (.ref 204)) := by kernel_rfl
 have F18 := @fk (kW w) 204 203 (KH.zs "tiewebs.webs" 426) "is_pair" "is_pair" (top 18) (by kernel_rfl) (by kernel_rfl) (by kernel_rfl)
 have a19 : nK w "is_place" = some (some (.ref 211)) := by kernel_rfl
 have F19 := @fk (kW w) 211 210 (KH.zs "tiewebs.webs" 426) "is_place" "is_place" (top 19) (by kernel_rfl) (by kernel_rfl) (by kernel_rfl)
 have a20 : nK w "is_tie" = some (some (.ref 218)) := by kernel_rfl
 have F20 := @fk (kW w) 218 217 (KH.zs "tiewebs.webs" 426) "is_tie" "is_tie" (top 20) (by kernel_rfl) (by kernel_rfl) (by kernel_rfl)
 have a21 : nK w "is_rising" = some (some (.ref 223)) := by kernel_rfl
 have F21 := @fk (kW w) 223 222 (KH.zs "tiewebs.webs" 426) "is_rising" "is_rising" (top 21) (by kernel_rfl) (by kernel_rfl) (by kernel_rfl)
 have a22 : nK w "is_web" = some (some (.ref 228)) := by kernel_rfl
 have F22 := @fk (kW w) 228 227 (KH.zs "tiewebs.webs" 426) "is_web" "is_web" (top 22) (by kernel_rfl) (by kernel_rfl) (by kernel_rfl)
 have a23 : nK w "need_web" = some (some (.ref 235)) := by kernel_rfl
 have F23 := @fk (kW w) 235 234 (KH.zs "tiewebs.webs" 426) "need_web" "need_web" (top 23) (by kernel_rfl) (by kernel_rfl) (by kernel_rfl)
 have a24 : nK w "degrees" = some (some (.ref 240)) := by kernel_rfl
 have F24 := @fk (kW w) 240 239 (KH.zs "tiewebs.webs" 426) "degrees" "degrees" (top 24) (by kernel_rfl) (by kernel_rfl) (by kernel_rfl)
 have a26 : nK w "ties_ahead" = some (some (.ref 245)) := by kernel_rfl
 have F26 := @fk (kW w) 245 244 (KH.zs "tiewebs.ties" 487) "ties_ahead" "ties_ahead" (top 26) (by kernel_rfl) (by kernel_rfl) (by kernel_rfl)
 have a28 : nK w "sizes_ahead" = some (some (.ref 250)) := by kernel_rfl
 have F28 := @fk (kW w) 250 249 (KH.zs "tiewebs.again" 495) "sizes_ahead" "sizes_ahead" (top 28) (by kernel_rfl) (by kernel_rfl) (by kernel_rfl)
 have a30 : nK w "_law_cell_at" = some (some (.ref 257)) := by kernel_rfl
 have F30 := @fk (kW w) 257 256 (KH.zs "law_tiewebs_k81_sizes_told_ahead" 503) "_law_cell_at" "_law_cell_at" (top 30) (by kernel_rfl) (by kernel_rfl) (by kernel_rfl)
 have a31 : nK w "_law_state" = some (some (.ref 264)) := by kernel_rfl
 have F31 := @fk (kW w) 264 263 (KH.zs "law_tiewebs_k81_sizes_told_ahead" 503) "_law_state" "_law_state" (top 31) (by kernel_rfl) (by kernel_rfl) (by kernel_rfl)
 have a32 : nK w "_law_take" = some (some (.ref 271)) := by kernel_rfl
 have F32 := @fk (kW w) 271 270 (KH.zs "law_tiewebs_k81_sizes_told_ahead" 503) "_law_take" "_law_take" (top 32) (by kernel_rfl) (by kernel_rfl) (by kernel_rfl)
 have a33 : nK w "_law_pairs" = some (some (.ref 276)) := by kernel_rfl
 have F33 := @fk (kW w) 276 275 (KH.zs "law_tiewebs_k81_sizes_told_ahead" 503) "_law_pairs" "_law_pairs" (top 33) (by kernel_rfl) (by kernel_rfl) (by kernel_rfl)
 have a34 : nK w "_law_mixed_row" = some (some (.ref 283)) := by kernel_rfl
 have F34 := @fk (kW w) 283 282 (KH.zs "law_tiewebs_k81_sizes_told_ahead" 503) "_law_mixed_row" "_law_mixed_row" (top 34) (by kernel_rfl) (by kernel_rfl) (by kernel_rfl)
 have a35 : nK w "_law_web" = some (some (.ref 288)) := by kernel_rfl
 have F35 := @fk (kW w) 288 287 (KH.zs "law_tiewebs_k81_sizes_told_ahead" 503) "_law_web" "_law_web" (top 35) (by kernel_rfl) (by kernel_rfl) (by kernel_rfl)
 have a36 : nK w "_law_great_web" = some (some (.ref 295)) := by kernel_rfl
 have F36 := @fk (kW w) 295 294 (KH.zs "law_tiewebs_k81_sizes_told_ahead" 503) "_law_great_web" "_law_great_web" (top 36) (by kernel_rfl) (by kernel_rfl) (by kernel_rfl)
 have a37 : nK w "_law_made" = some (some (.ref 300)) := by kernel_rfl
 have F37 := @fk (kW w) 300 299 (KH.zs "law_tiewebs_k81_sizes_told_ahead" 503) "_law_made" "_law_made" (top 37) (by kernel_rfl) (by kernel_rfl) (by kernel_rfl)
 have a38 : nK w "_law_bad_web" = some (some (.ref 307)) := by kernel_rfl
 have F38 := @fk (kW w) 307 306 (KH.zs "law_tiewebs_k81_sizes_told_ahead" 503) "_law_bad_web" "_law_bad_web" (top 38) (by kernel_rfl) (by kernel_rfl) (by kernel_rfl)
 have a39 : nK w "_law_same" = some (some (.ref 312)) := by kernel_rfl
 have F39 := @fk (kW w) 312 311 (KH.zs "law_tiewebs_k81_sizes_told_ahead" 503) "_law_same" "_law_same" (top 39) (by kernel_rfl) (by kernel_rfl) (by kernel_rfl)
 have a40 : nK w "_law_refused" = some (some (.ref 317)) := by kernel_rfl
 have F40 := @fk (kW w) 317 316 (KH.zs "law_tiewebs_k81_sizes_told_ahead" 503) "_law_refused" "_law_refused" (top 40) (by kernel_rfl) (by kernel_rfl) (by kernel_rfl)
 have a41 : nK w "law" = some (some (.ref 324)) := by kernel_rfl
 have F41 := @fk (kW w) 324 323 (KH.zs "law_tiewebs_k81_sizes_told_ahead" 503) "law" "law" (top 41) (by kernel_rfl) (by kernel_rfl) (by kernel_rfl)
 obtain ⟨⟨ct, Pt⟩, z_tab⟩ := Option.isSome_iff_exists.mp (show (PySem.W.tabIn (kW w) "law").isSome = true by kernel_rfl)
 have e := hfa.symm.trans (PySem.W.mg_of X G a41)
 cases e
 have T : Txt (kW w) mg := ⟨by kernel_rfl, PySem.W.mg_none_of X G (by kernel_rfl), PySem.W.mg_none_of X G (by kernel_rfl), PySem.W.mg_none_of X G (by kernel_rfl), PySem.W.mg_none_of X G (by kernel_rfl), PySem.W.mg_none_of X G (by kernel_rfl), PySem.W.mg_none_of X G (by kernel_rfl), PySem.W.mg_none_of X G (by kernel_rfl), PySem.W.mg_none_of X G (by kernel_rfl), PySem.W.mg_none_of X G (by kernel_rfl), PySem.W.mg_none_of X G (by kernel_rfl), PySem.W.mg_none_of X G (by kernel_rfl), PySem.W.mg_none_of X G (by kernel_rfl), PySem.W.mg_none_of X G (by kernel_rfl), PySem.W.mg_none_of X G (by kernel_rfl), PySem.W.mg_none_of X G (by kernel_rfl), ⟨428, PySem.W.mg_of X G (by kernel_rfl)⟩⟩
 refine ⟨PySem.W.fnOf "law" "law" (eI (top 41)) (bR (top 41)) (ak (top 41)) .none .none .none (KH.zs "law_tiewebs_k81_sizes_told_ahead" 503) none (.ref 323) .none, fun s v => .of_eq rfl, fun base GM BL => ?_⟩
 have D_is_whole : ∀ base, Mod (kW w) mg base -> DefX lP w (kW w) mg base 1 "is_whole" ["thing"] bX := fun base GB => qp F17 (PySem.W.mg_of X G a17) T
 have D_is_pair : ∀ base, Mod (kW w) mg base -> DefX lP w (kW w) mg base 1 "is_pair" ["thing"] cL := fun base GB => rS F18 (PySem.W.mg_of X G a18) T
 have D_is_rising : ∀ base, Mod (kW w) mg base -> DefX lP w (kW w) mg base 1 "is_rising" ["things"] cM := fun base GB => oK F21 (PySem.W.mg_of X G a21) T
 have D__law_cell_at : ∀ base, Mod (kW w) mg base -> DefX lP w (kW w) mg base 1 "_law_cell_at" ["_law_script", "_law_k"] bG := fun base GB => ko F30 (PySem.W.mg_of X G a30) T
 have D__law_take : ∀ base, Mod (kW w) mg base -> DefX lP w (kW w) mg base 1 "_law_take" ["_law_state_here", "_law_many"] aJ := fun base GB => oM F32 (PySem.W.mg_of X G a32) T
 have D__law_pairs : ∀ base, Mod (kW w) mg base -> DefX lP w (kW w) mg base 1 "_law_pairs" ["_law_many"] bb := fun base GB => mt F33 (PySem.W.mg_of X G a33) T
 have D__law_made : ∀ base, Mod (kW w) mg base -> DefX lP w (kW w) mg base 1 "_law_made" ["_law_web_here"] bY := fun base GB => oO F37 (PySem.W.mg_of X G a37) T
 have D__law_same0 : ∀ base, Mod (kW w) mg base -> DefX lP w (kW w) mg base 1 "_law_same" ["_law_found", "_law_due"] cn := fun base GB => mw F39 (PySem.W.mg_of X G a39) T
 have D_is_place : ∀ base, Mod (kW w) mg base -> DefX lP w (kW w) mg base 2 "is_place" ["many", "thing"] cH := fun base GB => qr F19 (PySem.W.mg_of X G a19) T (D_is_whole base GB)
 have D__law_state : ∀ base, Mod (kW w) mg base -> DefX lP w (kW w) mg base 2 "_law_state" ["_law_script", "_law_k"] cq := fun base GB => mx F31 (PySem.W.mg_of X G a31) T (D__law_cell_at base GB)
 have D__law_mixed_row : ∀ base, Mod (kW w) mg base -> DefX lP w (kW w) mg base 2 "_law_mixed_row" ["_law_state_here", "_law_things"] bo := fun base GB => jB F34 (PySem.W.mg_of X G a34) T (D__law_take base GB)
 have D__law_great_web : ∀ base, Mod (kW w) mg base -> DefX lP w (kW w) mg base 2 "_law_great_web" ["_law_state_here"] bp := fun base GB => jC F36 (PySem.W.mg_of X G a36) T (D__law_take base GB)
 have D__law_bad_web : ∀ base, Mod (kW w) mg base -> DefX lP w (kW w) mg base 2 "_law_bad_web" ["_law_state_here"] bH := fun base GB => kq F38 (PySem.W.mg_of X G a38) T (D__law_take base GB)
 have D__law_same : ∀ base, Mod (kW w) mg base -> DefX lP w (kW w) mg base 2 "_law_same" ["_law_found", "_law_due"] cN := fun base GB => oQ F39 (PySem.W.mg_of X G a39) T (D__law_same0 base GB)
 have D_is_tie : ∀ base, Mod (kW w) mg base -> DefX lP w (kW w) mg base 3 "is_tie" ["many", "thing"] fw := fun base GB => uE F20 (PySem.W.mg_of X G a20) T (D_is_pair base GB) (D_is_place base GB)
 have D__law_web : ∀ base, Mod (kW w) mg base -> DefX lP w (kW w) mg base 3 "_law_web" ["_law_state_here", "_law_most"] dj := fun base GB => qt F35 (PySem.W.mg_of X G a35) T (D__law_take base GB) (D__law_pairs base GB) (D__law_mixed_row base GB)
 have D_is_web : ∀ base, Mod (kW w) mg base -> DefX lP w (kW w) mg base 4 "is_web" ["thing"] fx := fun base GB => uF F22 (PySem.W.mg_of X G a22) T (D_is_whole base GB) (D_is_pair base GB) (D_is_tie base GB) (D_is_rising base GB)
 have D_need_web : ∀ base, Mod (kW w) mg base -> DefX lP w (kW w) mg base 5 "need_web" ["thing"] bZ := fun base GB => qu F23 (PySem.W.mg_of X G a23) T (D_is_web base GB)
 have D_degrees : ∀ base, Mod (kW w) mg base -> DefX lP w (kW w) mg base 6 "degrees" ["web"] bP := fun base GB => rT F24 (PySem.W.mg_of X G a24) T (D_need_web base GB)
 have D_ties_ahead : ∀ base, Mod (kW w) mg base -> DefX lP w (kW w) mg base 7 "ties_ahead" ["web"] cr := fun base GB => my F26 (PySem.W.mg_of X G a26) T (D_degrees base GB)
 have D_sizes_ahead : ∀ base, Mod (kW w) mg base -> DefX lP w (kW w) mg base 8 "sizes_ahead" ["web"] bc := fun base GB => lN F28 (PySem.W.mg_of X G a28) T (D_degrees base GB) (D_ties_ahead base GB)
 have D__law_refused : RefX lP w (kW w) mg 10 9 "_law_refused" ["_law_call"] aZ := kt F40 (PySem.W.mg_of X G a40) T
 exact uG F41 T GM BL (Ac (show yx (kW w) = true by kernel_rfl)) a41 z_tab D_sizes_ahead D__law_state D__law_web D__law_great_web D__law_made D__law_bad_web D__law_same D__law_refused dI
end W
end
section
namespace W
open PySem PySem.Spec PyProof.Rows L2 S3 S4 S7
theorem sp_law (K : PySem.W.Frag) (H : Hp) (a : Addr) (ns : List Int) (hT : TabsOk K H) (ron : wL K H a (ns.map V.int)) : wd K lF [.ref a] H (fun v _ => v = .bl true) fun _ _ _ => False := by
 obtain ⟨d, S', e, hd⟩ := BT (S := []) (ns := ns)
 refine ⟨[], [], [.ro (ns.map D.int)], ⟨.nil, rfl, (fun k a xs h => by cases h), hT⟩, .cons (.ro ron (gI ns)) .nil, ?_⟩
 refine ⟨.ok d, S', e, fun ι' H' _ _ => ?_⟩
 subst hd
 intro v hv
 cases hv
 rfl
theorem walk {l : PySem.W.OpenLaw} {q : Program} {loose : List Str} {XP : (Str -> Option Value) -> Heap -> Prop} {YP : World -> Heap -> Prop} {d : DefRec} {K : Params -> PySem.W.Frag} (hn : l.most = some 63) (hdf : d.params.defaults = [])
  (hY : ∀ (w : World) (h : Heap), YP w h -> (K w.params).In h) (nt : ∀ w : World, PySem.W.noTabs (K w.params) = true)
  (htab : ∀ (w : World) (h : Heap), YP w h -> ∀ y ∈ bj, ∀ c Q, PySem.W.tabIn (K w.params) y = some (c, Q) -> PySem.W.CodeHd h c Q /\ h.get? Q = some (PySem.W.tabObj #[]))
  (F : ∀ (w : World) (mg : Str -> Option Value) (fa : Addr) (h : Heap), (K w.params).In h -> h.Ns mainGlobals mg -> mg d.name = some (.ref fa) ->
   ∃ fd : FuncData, (∀ (s : Shared) (u : Value), BindsTo s fd ⟨[u], []⟩ [("_law_script", u)]) /\ ∀ base : Heap, Mod (K w.params) mg base -> BaseL (K w.params) mg base -> FnOk l.prog w (K w.params) mg base (jR l.prog w) 11 fa fd ["_law_script"] (wd (K w.params) lF)) :
  PySem.W.WalkO q loose XP YP l.row.toRowW d [] (fun f vs => PySem.call f vs) :=
 wm (n := 63) (k := 11) (x := "_law_script") (sp := fun w => wd (K w.params) lF) hn (by decide) hdf ⟨rfl, by decide, by decide⟩ hY nt htab F fun w H a ns _ hO hS => sp_law (K w.params) H a ns hO hS
end W
open PySem PySem.W PyProof.Rows
set_option maxRecDepth 100000 in
set_option maxHeartbeats 0 in
theorem PySem.Challenge.cw_tiewebs_k81_sizes_told_ahead_holds : PySem.Challenge.rw_tiewebs_k81_sizes_told_ahead.Holds := by
 w_on; o_law
 refine holds_open (q := KH.vq) (loose := []) (Xt := KH.Xt0) (XP := XL KH.vq []) (Yf := Hook.obs (kmHook KH.K0 KH.as0 KH.as0_eq KH.ts0)) (Ya := Hook.val (kmHook KH.K0 KH.as0 KH.as0_eq KH.ts0)) (YP := Hook.says (kmHook KH.K0 KH.as0 KH.as0_eq KH.ts0)) (N := 7482) KH.left0 (Hook.of (kmHook KH.K0 KH.as0 KH.as0_eq KH.ts0)) (Hook.keeps (kmHook KH.K0 KH.as0 KH.as0_eq KH.ts0)) (fun s e => xl_of s (Bool.and_eq_true_iff.mp e).1) XL.keeps (by rfl) (by rfl) (by rfl) (fun s e => recFacts_of (Bool.and_eq_true_iff.mp e).2) (by rfl) (by first | assumption | decide +kernel) (by decide +kernel) ⟨rfl, rfl, rfl, rfl, rfl, by decide +kernel⟩ ?hw ?hc
 case hw => w_witness2
 refine W.walk (l := PySem.Challenge.rw_tiewebs_k81_sizes_told_ahead) rfl rfl (fun w h Y => PySem.W.km_in_of Y) ?nt (fun w h Y => S7.Db (w := w) ?ck Y) W.Eo
 case nt => intro w; kernel_rfl
 case ck => kernel_rfl
end
